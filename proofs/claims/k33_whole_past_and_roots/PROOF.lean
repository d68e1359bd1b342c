import PyProof.Rows.All
import Wide.All
import OpenK.AllK
import Wide.FinOn
import Lean
import PyProof.EqAt
import PyProof.EqKinds
import PyProof.TupleCall
import PyProof.NeKinds
import PyProof.EnumMake
import PyProof.Rows.SeqMore2
import PyProof.ZipIter
import PyProof.Rows.SortRev
import PyProof.Rows.SortWalk
import PyProof.Rows.CallKwBuiltin
import PyProof.DictIter
import PyProof.DictWalks
import PyProof.MeetsDict
import PyProof.Conv_int_bool
import PyProof.EqAt
import PyProof.CollectWalk
import PyProof.Rows.SortShell
import PyProof.Rows.Range3
import PyProof.CallFns
import PyProof.StrBlockH
import PySem.Challenge.RW_turnroots_k33_whole_past_and_roots
open List renaming length_map→dr6, getElem?_eq_some_iff→dr7, getElem?_eq_getElem→dr8, getElem?_map→ds0, mem_cons_self→ds1, getD_eq_getElem?_getD→ds2, mem_cons_of_mem→ds3, mem_of_getElem?→ds4, map_append→ds5, length_append→ds6, getElem?_eq_none→ds7, mem_singleton→ds8, mem_map→ds9, nodup_iff_pairwise_ne→dt0, mem_append→dt1, mem_flatten→dt2, length_take→dt3, append_assoc→dt5, size_toArray→dt6, mem_iff_getElem?→dt7, mem_cons→dt8, length_cons→dt9, append_nil→du0, take_length→du1, mem_filter→du4, mem_append_right→du5, length_range→du6, pairwise_iff_getElem→du7, range→du8, getElem?_append_left→dv0, ext_getElem?→dv3, getElem?_range→dv4, flatten_cons→dv5, mem_range→dv6, getElem_mem→dv7, replicate→dv8, length_drop→dv9, nodup_cons→dw2, map_cons→dw3, nodup_append→dw4, getElem?_append_right→dw6, flatMap_cons→dw8, mem_flatMap→dw9, take_append_drop→dx0, getElem?_take_of_lt→dx1, map_map→dx2, mem_append_left→dx3, nodup_nil→dx7, mem_of_mem_take→dx8, countP_eq_length_filter→dx9, countP_map→dy2, map_congr_left→dy3, take_of_length_le→dy4, perm_append_comm→dy5, flatMap_append→dy6, countP_congr→dz1, filter_append→dz4, take_zero→dz5, lookup_cons→dz6, flatten_append→dz7, countP_eq_zero→dz8, length_filter_le→dz9, filter_cons_of_pos→ea0, filter_cons_of_neg→ea1, drop_eq_getElem_cons→ea3, countP_cons→ea6, filter_sublist→ea7, pairwise_map→ea8, filter_nil→eb1, flatMap_nil→eb3, flatten_singleton→eb4, eq_nil_of_length_eq_zero→eb5, replicate_succ→eb8, range_succ→eb9, length_replicate→ec1, sum_cons→ec5, getElem?_drop→ec6, getElem?_of_mem→ec8, length_set→ec9, map_nil→ed1, all_eq_true→ed5, drop_eq_nil_of_le→ed6, length_singleton→ed7, perm_ext_iff_of_nodup→ed8, map_take→ee4, mem_of_mem_drop→ee5, countP_pos_iff→ee7, nodup_range→ee8, reverse_append→ee9, mem_reverse→ef0, pairwise_singleton→ef3, length_eq_zero_iff→ef6, pairwise_cons→ef7, getElem?_take→eg0, find?_cons→eg1, length_nil→eg2, map_id→eg4, sublist_flatten_of_mem→eg5, flatten→eg7, length_reverse→eh2, map_set→eh7, drop_zero→eh8, foldl_append→ei0, getElem?_set_self→ei1, pairwise_lt_range→ei2, length_pos_of_mem→ei3, getElem?_reverse→ei8, countP_le_length→ei9, getElem?_set_ne→ej0, mem_erase_of_ne→ej1, drop_append_of_le_length→ej5, filterMap_cons→ej7, getElem?_concat_length→ek0, append_of_mem→ek1, any_cons→ek5, extract_eq_take_drop→ek9, map_drop→el0, length_erase_of_mem→el3, any_eq_true→el4, getElem?_replicate→el8, getElem?_cons_zero→em0, getElem?_cons_succ→em1, of_mem_zip→em3, nil_append→em4, take_succ→em9
open Nat renaming le_refl→dr9, le_trans→dt4, zero_le→du2, lt_of_le_of_lt→dw0, gcd→dw5, ne_of_lt→dw7, le_mul_of_pos_right→dx4, lt_of_lt_of_le→dx5, mul_div_cancel_left→dy0, mod_eq_of_lt→dy7, le_of_lt→dy8, mul_assoc→dz0, mod_lt→ea2, mul_comm→ea5, add_comm→ea9, mul_le_mul_right→eb2, add_zero→eb7, mul_pos→ec3, eq_of_mul_eq_mul_left→ec4, sub_add_cancel→ec7, min_eq_left→ed0, lt_irrefl→ed2, zero_mul→ed9, gcd_dvd_right→ee2, succ_mul→ef1, zero_add→ef2, eq_zero_or_pos→ef8, le_mul_of_pos_left→eg3, le_of_eq→eg6, add_le_add_left→eg9, add_mul_mod_self_left→eh0, mul_div_cancel'→eh1, mul_one→eh3, lt_or_eq_of_le→eh4, mul_zero→eh6, mul_le_mul→eh9, le_succ→ei4, le_add_right→ei6, add_assoc→ei7, div_add_mod→ej3, sub_self→ej6, dvd_of_mul_dvd_mul_left→ej8, coprime_div_gcd_div_gcd→ej9, Coprime→ek4, lt_succ_of_lt→ek7, le_of_dvd→ek8, dvd_mul_right→el1, gcd_pos_of_pos_right→el2, gcd_dvd_left→el5, gcd_mul_left→el6, mul_succ→el9, mul_add_mod→em5, one_mul→em6, mul_add→em7, add_mul→em8
open Bool renaming false_ne_true→du3, false_eq_true→dz3, and_eq_true→ed4, eq_iff_iff→ee0, or_eq_true→ej2
open Array renaming length_toList→du9, toList_append→dx6, getElem?_toList→dy1, toList→dz2, perm_iff_toList_perm→ec0, getElem?_eq_getElem→ee1, toList_push→ee3, toList_reverse→eg8, toList_map→el7
open Int renaming toNat_natCast→dw1, eq_ofNat_of_zero_le→dy9, natCast_mul→ea4, emod_nonneg→eb6, natCast_emod→ec2, toNat_of_nonneg→ee6, dvd_of_emod_eq_zero→ef4, emod_eq_zero_of_dvd→ef5, emod_lt_of_pos→ef9, natAbs_natCast→eh5, dvd_self_sub_emod→ei5, natCast_add→ej4, fdiv_eq_ediv_of_nonneg→ek3, sub_self→em2
open Option renaming map_eq_some_iff→ed3, isSome_map→ek6
set_option Elab.async false
set_option linter.all false
set_option maxRecDepth 100000
set_option maxHeartbeats 8000000
section
local macro_rules|`(tactic|omega)=>`(tactic|lia)
local macro_rules|`(tactic|trivial)=>`(tactic|first|exact .inl rfl|exact .inr rfl|assumption)
local macro_rules|`(tactic|rfl')=>`(tactic|exact ⟨rfl,rfl,rfl,by decide+kernel,rfl,by decide+kernel,by decide+kernel⟩)
namespace L2
open PySem PySem.Spec PyProof.Rows
abbrev o9:=Sum Int Str
def av1:o9->Value->Bool
 | .inl k,v=>Value.isInt k v
 | .inr x,v=>Value.isStrOf x v
def dn2 (w:World):o9->Int
 | .inl k=>hashInt k
 | .inr x=>hashStr w x
theorem J7:∀{k:o9} {v:Value},av1 k v=true->(∃i t,k=Sum.inl i/\v=Value.int i t)\/(∃x t,k=Sum.inr x/\v=Value.str x t)
 | .inl i,v,h=>by
   obtain ⟨t,e⟩:=Value.isInt_shape (k:=i) (v:=v) h;exact .inl ⟨i,t,rfl,e⟩
 | .inr x,v,h=>by
   obtain ⟨t,e⟩:=Value.isStrOf_shape (x:=x) (v:=v) h;exact .inr ⟨x,t,rfl,e⟩
theorem ch7 (i:Int)(t:Tok):av1 (.inl i) (.int i t)=true:=by simp [av1,Value.isInt]
theorem ch8 (x:Str)(t:Tok):av1 (.inr x) (.str x t)=true:=by simp [av1,Value.isStrOf]
theorem de0 (a b:Int):decide ((Sum.inl a:o9)=Sum.inl b)=(a==b):=by
 by_cases e:a=b
 · subst e;simp
 · have h:¬(Sum.inl a:o9)=Sum.inl b:=fun q=>e (Sum.inl.inj q)
   rw[decide_eq_false h];exact (beq_eq_false_iff_ne.mpr e).symm
theorem de1 (a b:Str):decide ((Sum.inr a:o9)=Sum.inr b)=decide (a=b):=by
 by_cases e:a=b
 · subst e;simp
 · have h:¬(Sum.inr a:o9)=Sum.inr b:=fun q=>e (Sum.inr.inj q)
   rw[decide_eq_false h,decide_eq_false e]
theorem de2 (a:Int)(b:Str):decide ((Sum.inl a:o9)=Sum.inr b)=false:=decide_eq_false (fun q=>nomatch q)
theorem de3 (a:Str)(b:Int):decide ((Sum.inr a:o9)=Sum.inl b)=false:=decide_eq_false (fun q=>nomatch q)
def A6 (prog:Program)(w:World):PySem.KeyKind prog w o9 where
 is:=av1
 hash:=dn2 w
 inj:=fun v a b ha hb=>by
   rcases J7 ha with ⟨i,t,rfl,rfl⟩|⟨x,t,rfl,rfl⟩
   · rcases J7 hb with ⟨j,u,rfl,e⟩|⟨y,u,rfl,e⟩
     · injection e with e1 _;rw[e1]
     · exact nomatch e
   · rcases J7 hb with ⟨j,u,rfl,e⟩|⟨y,u,rfl,e⟩
     · exact nomatch e
     · injection e with e1 _;rw[e1]
 byValue:=fun k v h=>by
   rcases J7 h with ⟨i,t,rfl,rfl⟩|⟨x,t,rfl,rfl⟩<;>rfl
 pyHash:=fun hv h=>by
   rcases J7 hv with ⟨i,t,rfl,rfl⟩|⟨x,t,rfl,rfl⟩
   · exact wpAny_pyHash_int h
   · exact wpAny_pyHash_str h
 eqBool:=fun hu hv h=>by
   rcases J7 hu with ⟨i,t,rfl,rfl⟩|⟨x,t,rfl,rfl⟩
   · rcases J7 hv with ⟨j,u,rfl,rfl⟩|⟨y,u,rfl,rfl⟩
     · rw[de0] at h;exact wpAny_eqBool_int h
     · rw[de2] at h;exact SeqAt.EqAt.int_str i t y u _ _ _ _ h
   · rcases J7 hv with ⟨j,u,rfl,rfl⟩|⟨y,u,rfl,rfl⟩
     · rw[de3] at h;exact SeqAt.EqAt.str_int x t j u _ _ _ _ h
     · rw[de1] at h;exact wpAny_eqBool_str h
 «strs»:=fun k x t v h=>by
   rcases J7 h with ⟨i,u,rfl,e⟩|⟨y,u,rfl,e⟩
   · exact nomatch e
   · injection e with e1 _
     subst e1
     cases v<;>rfl
theorem ax4 (prog:Program)(w:World)(i:Int)(t:Tok):(A6 prog w).is (.inl i) (.int i t)=true:=ch7 i t
theorem ax5 (prog:Program)(w:World)(x:Str)(t:Tok):(A6 prog w).is (.inr x) (.str x t)=true:=ch8 x t
end L2
namespace L2
open PySem PySem.Spec PyProof.Rows
inductive V where
 |non|bl (b:Bool)|int (i:Int)|str (x:Str)|byt (b:Array UInt8)|flt (b:UInt64)|ref (a:Addr)|ty (n:String)
 deriving DecidableEq
def t7:V->Value->Prop
 | .non,u=>u=Value.none
 | .bl b,u=>u=Value.bool b
 | .int i,u=>∃t,u=Value.int i t
 | .str x,u=>∃t,u=Value.str x t
 | .byt b,u=>∃t,u=Value.bytes b t
 | .flt b,u=>∃t,u=Value.float b t
 | .ref a,u=>u=Value.ref a
 | .ty n,u=>u=Value.type n
abbrev o3:List V->List Value->Prop:=Paired t7
theorem o3.length {xs:List V}{us:List Value}(r:o3 xs us):xs.length=us.length:=Paired.length r
theorem o3.get:∀{xs:List V} {us:List Value} {i:Nat} {x:V},o3 xs us->xs[i]? =some x->∃u,us[i]? =some u/\t7 x u
 |_,_,_,_,.nil,e=>by simp at e
 |_,_,0,_,.cons r _,e=>by simp at e;subst e;exact ⟨_,rfl,r⟩
 |_,_,i+1,x,.cons _ t,e=>by
  obtain ⟨u,h1,h2⟩:=o3.get (i:=i) (x:=x) t (by simpa using e);exact ⟨u,by simpa using h1,h2⟩
theorem o3.set {x:V}{u:Value}(r:t7 x u):∀{xs:List V} {us:List Value} (i:Nat),o3 xs us->o3 (xs.set i x) (us.set i u)
 |_,_,_,.nil=> .nil
 |_,_,0,.cons _ t=> .cons r t
 |_,_,i+1,.cons q t=> .cons q (o3.set r i t)
theorem o3.append:∀{xs ys:List V} {us ws:List Value},o3 xs us->o3 ys ws->o3 (xs++ys) (us++ws)
 |_,_,_,_,.nil,s=>s
 |_,_,_,_,.cons r t,s=> .cons r (o3.append t s)
theorem o3.take:∀{xs:List V} {us:List Value} (n:Nat),o3 xs us->o3 (xs.take n) (us.take n)
 |_,_,0,_=> .nil
 |_,_,_+1,.nil=> .nil
 |_,_,n+1,.cons r t=> .cons r (o3.take n t)
theorem o3.drop:∀{xs:List V} {us:List Value} (n:Nat),o3 xs us->o3 (xs.drop n) (us.drop n)
 |_,_,0,r=>r
 |_,_,_+1,.nil=> .nil
 |_,_,n+1,.cons _ t=>o3.drop n t
def ae1:Option V->Option Value->Prop
 |some v,some u=>t7 v u
 |none,none=>True
 |_,_=>False
def KV {κ:Type}:List (κ×V)->List (κ×Value)->Prop:=Paired fun (p:κ×V) (q:κ×Value)=>p.1=q.1/\t7 p.2 q.2
def kV:o9->V
 | .inl i=> .int i
 | .inr x=> .str x
inductive HO where
 |lst (xs:List V)
 |tup (xs:List V)
 |dK (kvs:List (o9×V))|dT (kvs:List (List o9×V))
 |set (S:Int->Bool) (n:Nat)
 |ins (C dx:Addr) (fs:List (Str×V))
 |own (x:Addr)
 |xd (fs:List (Str×V))
 |met (f x:Addr)
 |rng (lo hi:Int)
 |frz (o:Obj) (u:HO)
 |tbl (ps:Array Value)
 |ext (φ:Heap->Prop)
abbrev Hp:=Addr->Option HO
def c8 (H:Hp)(a:Addr)(o:HO):Hp:=fun b=>if b=a then some o else H b
theorem c7 {H:Hp}{a:Addr}{o:HO}:c8 H a o a=some o:=by unfold c8;rw[if_pos rfl]
theorem g7 {H:Hp}{a b:Addr}{o:HO}(h:b≠a):c8 H a o b=H b:=by unfold c8;rw[if_neg h]
theorem cd6 {H:Hp}{a b:Addr}{o u:HO}(h:H a=some o)(h':H b=some u)(d:o≠u):a≠b:=by
 intro e;subst e;rw[h] at h';exact d (Option.some.inj h')
theorem g8 {H:Hp}{a b:Addr}{o:HO}(h:H a=some o)(h':H b=none):a≠b:=by
 intro e;subst e;rw[h] at h';cases h'
section
variable (P:Program) (w:World)
def x6 (H:Hp)(h:Heap)(a:Addr):HO->Prop
 | .lst xs=>xs.length<=sizeLine/\∃(its:List Value) (n:Nat),o3 xs its/\h.get? a=some {cls:= .type "list",data:= .seq its.toArray n}
 | .tup xs=>xs.length<=sizeLine/\∃its:List Value,o3 xs its/\IsTup h a its.toArray
 | .dK kvs=>kvs.length<=sizeLine/\(a==sysModules)=false/\∃vs,KV kvs vs/\h.DictOf (A6 P w) a vs
 | .dT kvs=>kvs.length<=sizeLine/\(a==sysModules)=false/\∃xs:List (List o9×Addr×Value),
     Paired (fun (p:List o9×V) (q:List o9×Addr×Value)=>p.1=q.1/\H q.2.1=some (.tup (p.1.map kV))/\t7 p.2 q.2.2) kvs xs/\
     ∃o es ep,h.get? a=some o/\o.ExactDict/\o.data= .dict es ep/\es.toList=xs.map (entryOfKey (tupleKind (A6 P w)))/\(xs.map (·.1)).Nodup
 | .set S n=>h.SetOf (intKind P w) a S n
 | .ins C dx fs=>H dx=some (.own a)/\fs.length<=1000/\dx≠a/\h.get? a=some (PySem.W.instObj C dx)/\
     ∃mA,h.Ns1 dx mA/\(∀f,ae1 (fs.lookup f) (mA f))/\PySem.Within mA (fs.map (·.1))
 | .own _=>∃o,h.get? a=some o
 | .xd fs=>∃mA,h.Ns1 a mA/\∀f,ae1 (fs.lookup f) (mA f)
 | .rng lo hi=>∃t u v,h.get? a=some {cls:= .type "range",data:= .fields #[.int lo t,.int hi u,.int 1 v]}
 | .frz o u=>h.get? a=some o/\x6 H h a u
 | .tbl ps=>h.get? a=some {cls:= .none,data:= .fields ps}
 | .met f x=>h.get? a=some (PySem.W.methodObj (.ref f) (.ref x))
 | .ext φ=>φ h/\(∃o,h.get? a=some o)/\∀h1 h2:Heap,φ h1->(∀o,h1.get? a=some o->h2.get? a=some o)->φ h2
def K2 (H:Hp)(h:Heap):Prop:=∀a o,H a=some o->x6 P w H h a o
end
section
variable {P:Program} {w:World} {H H':Hp} {h h':Heap} {a:Addr} {o:HO}
theorem x6.lt (x:x6 P w H h a o):a < h.objs.size:=by
 cases o with
 |lst xs=>obtain ⟨_,_,_,_,e⟩:=x;exact Heap.lt_size e
 |tup xs=>obtain ⟨_,_,_,p⟩:=x;exact p.lt
 |dK kvs=>obtain ⟨_,_,_,_,o,_,_,e,_⟩:=x;exact Heap.lt_size e
 |dT kvs=>obtain ⟨_,_,_,_,o,_,_,e,_⟩:=x;exact Heap.lt_size e
 |set S n=>obtain ⟨o,_,_,_,e,_⟩:=x;exact Heap.lt_size e
 |ins C dx fs=>obtain ⟨_,_,_,e,_⟩:=x;exact Heap.lt_size e
 |own y=>obtain ⟨_,e⟩:=x;exact Heap.lt_size e
 |xd fs=>obtain ⟨_,⟨_,_,_,e,_⟩,_⟩:=x;exact Heap.lt_size e
 |rng lo hi=>obtain ⟨_,_,_,e⟩:=x;exact Heap.lt_size e
 |frz ob u=>obtain ⟨e,_⟩:=x;exact Heap.lt_size e
 |tbl ps=>exact Heap.lt_size (show h.get? a=some _ from x)
 |met f y=>exact Heap.lt_size (show h.get? a=some _ from x)
 |ext φ=>obtain ⟨_,⟨_,e⟩,_⟩:=x;exact Heap.lt_size e
theorem Paired.mapP {α β:Type}{F G:α->β->Prop}:∀{l₁:List α} {l₂:List β},Paired F l₁ l₂->(∀a b,F a b->G a b)->Paired G l₁ l₂
 |_,_,.nil,_=> .nil
 |_,_,.cons r t,f=> .cons (f _ _ r) (Paired.mapP t f)
theorem x6.stay (x:x6 P w H h a o)(k:∀b u,(b=a\/H b=some (.own a))->h.get? b=some u->h'.get? b=some u)
   (ho:∀b,H b=some (.own a)->H' b=some (.own a)) (ht:∀b xs,H b=some (.tup xs)->H' b=some (.tup xs)):x6 P w H' h' a o:=by
 induction o with
 |lst xs=>obtain ⟨z,its,n,r,e⟩:=x;exact ⟨z,its,n,r,k _ _ (.inl rfl) e⟩
 |tup xs=>obtain ⟨z,its,r,ob,e,c⟩:=x;exact ⟨z,its,r,ob,k _ _ (.inl rfl) e,c⟩
 |dK kvs=>obtain ⟨z,y,vs,r,ob,es,ep,e,c⟩:=x;exact ⟨z,y,vs,r,ob,es,ep,k _ _ (.inl rfl) e,c⟩
 |dT kvs=>
  obtain ⟨z,y,xs,r,ob,es,ep,e,c⟩:=x;exact ⟨z,y,xs,Paired.mapP r fun p q z=>⟨z.1,ht _ _ z.2.1,z.2.2⟩,ob,es,ep,k _ _ (.inl rfl) e,c⟩
 |set S n=>obtain ⟨ob,es,ep,t,e,c⟩:=x;exact ⟨ob,es,ep,t,k _ _ (.inl rfl) e,c⟩
 |ins C dx fs=>
  obtain ⟨d,z,ne,e,mA,⟨od,es,ep,e2,c⟩,r⟩:=x;exact ⟨ho _ d,z,ne,k _ _ (.inl rfl) e,mA,⟨od,es,ep,k _ _ (.inr d) e2,c⟩,r⟩
 |own y=>obtain ⟨ob,e⟩:=x;exact ⟨ob,k _ _ (.inl rfl) e⟩
 |xd fs=>obtain ⟨mA,⟨od,es,ep,e,c⟩,r⟩:=x;exact ⟨mA,⟨od,es,ep,k _ _ (.inl rfl) e,c⟩,r⟩
 |rng lo hi=>obtain ⟨t,u,v,e⟩:=x;exact ⟨t,u,v,k _ _ (.inl rfl) e⟩
 |frz ob u ih=>obtain ⟨e,q⟩:=x;exact ⟨k _ _ (.inl rfl) e,ih q⟩
 |tbl ps=>
  have e:h.get? a=some {cls:= .none,data:= .fields ps}:=x;show h'.get? a=some {cls:= .none,data:= .fields ps};exact k a _ (.inl rfl) e
 |met f y=>
  have e:h.get? a=some (PySem.W.methodObj (.ref f) (.ref y)):=x;show h'.get? a=some (PySem.W.methodObj (.ref f) (.ref y));exact k a _ (.inl rfl) e
 |ext φ=>obtain ⟨p,⟨o,e⟩,st⟩:=x;exact ⟨st _ _ p fun o q=>k _ _ (.inl rfl) q,⟨o,k _ _ (.inl rfl) e⟩,st⟩
theorem K2.lt (x:K2 P w H h)(e:H a=some o):a < h.objs.size:=(x a o e).lt
theorem K2.fresh (x:K2 P w H h)(e:h.objs.size<=a):H a=none:=by
 cases q:H a with
 |none=>rfl
 |some u=>exact absurd (dx5 (x.lt q) e) (ed2 _)
theorem K2.kept (x:K2 P w H h)(k:∀b u,h.get? b=some u->h'.get? b=some u):K2 P w H h':=fun a o e=>
 (x a o e).stay (fun b u _ q=>k b u q) (fun _ q=>q) fun _ _ q=>q
theorem K2.laid (x:K2 P w H h)(k:∀b u,h.get? b=some u->h'.get? b=some u)(hp:h.objs.size<=a)(new:x6 P w (c8 H a o) h' a o):K2 P w (c8 H a o) h':=fun b u e=>by
 have hn:=x.fresh hp
 by_cases hb:b=a
 · subst hb;rw[c7] at e;cases e;exact new
 · rw[g7 hb] at e
   exact (x b u e).stay (fun c v _ q=>k c v q) (fun c q=>by rw[g7 (g8 q hn)];exact q) fun c xs q=>by rw[g7 (g8 q hn)];exact q
end
def Rd (H:Hp)(a:Addr)(u:HO):Prop:=H a=some u\/∃o,H a=some (.frz o u)
theorem Rd.ok {P:Program}{w:World}{H:Hp}{h:Heap}{a:Addr}{u:HO}(r:Rd H a u)(x:K2 P w H h):x6 P w H h a u:=by
 rcases r with r|⟨o,r⟩
 · exact x a u r
 · obtain ⟨_,q⟩:=x a _ r;exact q
def Mut:Option HO->Prop
 |some (.lst _)=>True
 |some (.dK _)=>True
 |some (.dT _)=>True
 |some (.set _ _)=>True
 |some (.ins _ _ _)=>True
 |some (.ext _)=>True
 |_=>False
section
variable {P:Program} {w:World} {H:Hp} {h h':Heap} {x e:Addr} {o':HO}
theorem K2.write (ok:K2 P w H h)(mu:Mut (H x))(he:e=x\/H e=some (.own x))(k:∀b u,b≠e->h.get? b=some u->h'.get? b=some u)(heo:∃u,h'.get? e=some u)
   (new:x6 P w (c8 H x o') h' x o'):K2 P w (c8 H x o') h':=fun b u q=>by
 have nown:∀c y,H c=some (.own y)->c≠x:=fun c y r z=>by subst z;rw[r] at mu;exact mu
 have ntup:∀c xs,H c=some (.tup xs)->c≠x:=fun c xs r z=>by subst z;rw[r] at mu;exact mu
 by_cases hb:b=x
 · subst hb;rw[c7] at q;cases q;exact new
 · rw[g7 hb] at q
   by_cases hbe:b=e
   · have q':H b=some (.own x):=by
       rcases he with z|z
       · exact absurd (hbe.trans z) hb
       · rw[hbe];exact z
     rw[q] at q';cases q';obtain ⟨v,hv⟩:=heo;exact ⟨v,by rw[hbe];exact hv⟩
   · refine (ok b u q).stay (fun c v hc r=>k c v ?_ r) (fun c r=>by rw[g7 (nown c b r)];exact r) fun c xs r=>by rw[g7 (ntup c xs r)];exact r
     rcases hc with rfl|hc
     · exact hbe
     · rintro rfl
       rcases he with z|z
       · exact nown c b hc z
       · rw[hc] at z;cases z;exact hb rfl
end
structure Un (fs ex:List Addr)(H H':Hp)(h h':Heap):Prop where
 keep:∀b o,h.get? b=some o->H b=none->b∉fs->b∉ex->h'.get? b=some o
 slot:∀b o,h.get? b=some o->H b=none->b∈fs->b∉ex->∃sl,h'.get? b=some {o with slots:=sl}
 free:∀b o,h.get? b=some o->H b=none->b∉ex->H' b=none
 there:∀b o,h.get? b=some o->b∉ex->∃o',h'.get? b=some o'
 tups:∀b xs,H b=some (.tup xs)->H' b=some (.tup xs)
 frzs:∀b o u,H b=some (.frz o u)->H' b=some (.frz o u)
 tbls:∀b ps,H b=some (.tbl ps)->∃more,H' b=some (.tbl (ps++more))
section
variable {fs fs' ex ex':List Addr} {H H1 H2:Hp} {h h1 h2 h':Heap} {a x e:Addr} {o:HO}
theorem Un.any (u:Un fs ex H H1 h h1){b:Addr}{ob:Obj}(q:h.get? b=some ob)(n:H b=none)(hx:b∉ex):∃sl,h1.get? b=some {ob with slots:=sl}:=by
 by_cases hb:b∈fs
 · exact u.slot b ob q n hb hx
 · exact ⟨ob.slots,u.keep b ob q n hb hx⟩
theorem Un.kept (k:∀b u,h.get? b=some u->h'.get? b=some u):Un fs ex H H h h':=
 ⟨fun b ob q _ _ _=>k b ob q,fun b ob q _ _ _=>⟨ob.slots,k b ob q⟩,fun _ _ _ n _=>n,fun b ob q _=>⟨ob,k b ob q⟩,fun _ _ q=>q,fun _ _ _ q=>q,fun _ ps q=>⟨#[],by rw[q];simp⟩⟩
theorem Un.refl:Un fs ex H H h h:=Un.kept fun _ _ q=>q
theorem Un.laid (k:∀b u,h.get? b=some u->h'.get? b=some u)(hp:h.objs.size<=a)(hn:H a=none):Un fs ex H (c8 H a o) h h' where
 keep:=fun b u q _ _ _=>k b u q
 slot:=fun b u q _ _ _=>⟨u.slots,k b u q⟩
 free:=fun b u q n _=>by rw[g7 (dw7 (dx5 (Heap.lt_size q) hp))];exact n
 there:=fun b u q _=>⟨u,k b u q⟩
 tups:=fun b xs q=>by rw[g7 (g8 q hn)];exact q
 frzs:=fun b u xs q=>by rw[g7 (g8 q hn)];exact q
 tbls:=fun b ps q=>⟨#[],by rw[g7 (g8 q hn),q];simp⟩
theorem Un.write (mu:Mut (H x))(he:e=x\/H e=some (.own x))(k:∀b u,b≠e->h.get? b=some u->h'.get? b=some u)(heo:∃u,h'.get? e=some u):Un fs ex H (c8 H x o) h h':=by
 have hx:∀b,H b=none->b≠x:=fun b n z=>by subst z;rw[n] at mu;exact mu
 have hb:∀b,H b=none->b≠e:=fun b n z=>by
   subst z
   rcases he with r|r
   · exact hx b n r
   · rw[n] at r;cases r
 have hm:∀b u,H b=some u->¬Mut (some u)->b≠x:=fun b u q nm z=>by subst z;rw[q] at mu;exact nm mu
 refine ⟨fun b u q n _ _=>k b u (hb b n) q,fun b u q n _ _=>⟨u.slots,k b u (hb b n) q⟩,fun b u q n _=>by rw[g7 (hx b n)];exact n,fun b u q _=> ?_,
   fun b xs q=>by rw[g7 (hm b _ q fun z=>z)];exact q,fun b u xs q=>by rw[g7 (hm b _ q fun z=>z)];exact q,fun b ps q=>⟨#[],by rw[g7 (hm b _ q fun z=>z),q];simp⟩⟩
 by_cases hbe:b=e
 · subst hbe;exact heo
 · exact ⟨u,k b u hbe q⟩
end
def trk (h:Heap)(H:Hp):List Addr:=(du8 h.objs.size).filter fun a=>(H a).isSome
def al2 (h:Heap)(H:Hp):Heap:=PySem.W.hideAll h (trk h H)
theorem ci0 (h:Heap)(H:Hp):(al2 h H).objs.size=h.objs.size:=PySem.W.hideAll_size _ _
theorem cp8 {h:Heap}{H:Hp}{b:Addr}{o:Obj}(e:h.get? b=some o)(n:H b=none):(al2 h H).get? b=some o:=
 PySem.W.hideAll_get _ e fun hm=>by
   have q:(H b).isSome=true:=(du4.mp hm).2;rw[n] at q;simp at q
theorem cy1 {h:Heap}{H:Hp}{b:Addr}{o:Obj}(e:(al2 h H).get? b=some o):h.get? b=some o/\H b=none:=by
 have e':h.get? b=some o:=PySem.W.of_hideAll (trk h H) e;refine ⟨e',?_⟩
 cases q:H b with
 |none=>rfl
 |some x=>
  have hm:b∈trk h H:=du4.mpr ⟨dv6.mpr (Heap.lt_size e'),by simp [q]⟩;have z:(al2 h H).get? b=none:=PySem.W.hideAll_none (trk h H) hm;rw[z] at e;cases e
end L2
namespace L2
open PySem PySem.Spec PyProof.Rows
structure Mod (K:PySem.W.Frag)(mg:Str->Option Value)(base:Heap):Prop where
 kin:K.In base
 glob:base.Ns mainGlobals mg
 blt:∃mb,base.Ns builtinsNs mb/\∀x:Str,x≠"__name__"->mb x=bootBuiltins x
 nolimit:base.NoLimit
structure Cx where
 prog:Program
 w:World
 K:PySem.W.Frag
 mg:Str->Option Value
 base:Heap
 A:Around
 N:List Str
 s₀:Shared
 H₀:Hp
 env:Env
 outer:List Env
 stack:List Env
 ex:List Addr
 fn:Str->Bool
 calm:Bool
 pn:List (Addr×Obj)
 xe:Value->Shared->Prop
def frs (l:List Env):List Addr:=l.filterMap (·.frame)
abbrev Cx.fs (X:Cx):List Addr:=frs X.outer
def Vis (sc:Scope)(x:Str):Prop:=sc.names.lookup x=some .local\/sc.names.lookup x=some .cell\/sc.names.lookup x=some .free
def Loc (sc:Scope)(x:Str):Prop:=sc.names.lookup x=some .local\/sc.names.lookup x=some .cell
def dn3 (env:Env)(h:Heap)(m:Str->Option Value)(x:Str)(u:Value):Prop:=
 (env.kindOf x=some .local/\m x=some u)\/((env.kindOf x=some .cell\/env.kindOf x=some .free)/\∃c,env.cells.lookup x=some c/\h.IsCell c (some u))
structure Cx.Ok (X:Cx):Prop where
 mod:Mod X.K X.mg X.base
 kind:X.env.scope.kind= .function
 glob:X.env.globals=mainGlobals
 blt:X.env.builtins=builtinsNs
 above:X.s₀.heap.objs.size<=X.env.locals
 inj:∀x y c,X.env.cells.lookup x=some c->X.env.cells.lookup y=some c->x=y
 has:∀x,(X.env.kindOf x=some .cell\/X.env.kindOf x=some .free)->∃c,X.env.cells.lookup x=some c
 cab:∀x c,X.fn x=true->X.env.cells.lookup x=some c->X.s₀.heap.objs.size<=c
 hd:X.calm=true->X.A.handled=none
 frames:X.A.frames=some X.stack
 stk:X.stack=X.outer\/(X.stack=X.env::X.outer/\X.env.frame=some X.env.locals)
 exf:∀b∈X.ex,b≠X.env.locals/\∀x c,X.env.cells.lookup x=some c->c≠b
 bs:∀b o,X.base.get? b=some o->X.s₀.heap.get? b=some o/\X.H₀ b=none
 bsz:X.base.objs.size<=X.s₀.heap.objs.size
 noex:∀b o,X.base.get? b=some o->b∉X.ex
 exfs:∀b∈X.ex,b∉X.fs
 funs:X.s₀.heap.FunFrames X.base X.outer
 frf:∀b∈X.fs,X.H₀ b=none
structure h7 (X:Cx)(pins:List (Addr×Obj))(σ:List (Option V))(H:Hp)(s:Shared):Prop where
 ok:X.Ok
 os:s.os=X.s₀.os
 bare:AllBare s.gens
 base:Un X.fs X.ex X.H₀ H X.s₀.heap s.heap
 loc:∃m,s.heap.Ns X.env.locals m/\∀(i:Nat) (x:Str) (v:V),X.N[i]? =some x->σ[i]? =some (some v)->Vis X.env.scope x->∃u,t7 v u/\dn3 X.env s.heap m x u
 cell:∀x c,X.env.cells.lookup x=some c->∃v,s.heap.IsCell c v
 free:H X.env.locals=none
 freeC:∀x c,X.env.cells.lookup x=some c->H c=none
 pin:∀p∈X.pn++pins,s.heap.get? p.1=some p.2/\H p.1=none/\p.1≠X.env.locals/\p.1∉X.fs/\∀v,p.2.data≠.cell v
 hok:K2 X.prog X.w H s.heap
 len:σ.length=X.N.length
section
variable {X:Cx} {pins:List (Addr×Obj)} {σ:List (Option V)} {H H':Hp} {s:Shared} {h':Heap}
theorem Cx.Ok.nofr (ok:X.Ok){b:Addr}{o:Obj}(e:X.base.get? b=some o):b∉X.fs:=fun hb=>by
 have:=(ok.funs.mem hb).1;rw[e] at this;cases this
theorem h7.bs (I:h7 X pins σ H s):∀b o,X.base.get? b=some o->s.heap.get? b=some o/\H b=none:=fun b o e=>
 ⟨I.base.keep b o (I.ok.bs b o e).1 (I.ok.bs b o e).2 (I.ok.nofr e) (I.ok.noex b o e),I.base.free b o (I.ok.bs b o e).1 (I.ok.bs b o e).2 (I.ok.noex b o e)⟩
theorem h7.bk (I:h7 X pins σ H s):∀b o,X.base.get? b=some o->s.heap.get? b=some o:=fun b o e=>(I.bs b o e).1
theorem h7.mod (I:h7 X pins σ H s):Mod X.K X.mg X.base:=I.ok.mod
theorem h7.kIn (I:h7 X pins σ H s):X.K.In s.heap:=I.ok.mod.kin.keeps I.bk
theorem h7.lt (I:h7 X pins σ H s):X.env.locals < s.heap.objs.size:=let ⟨_,hn,_⟩:=I.loc;hn.lt
theorem h7.sz (I:h7 X pins σ H s):X.s₀.heap.objs.size<=s.heap.objs.size:=dt4 I.ok.above (dy8 I.lt)
theorem h7.nofs (I:h7 X pins σ H s){a:Addr}(h:s.heap.objs.size<=a):a∉X.fs:=fun hb=>by
 obtain ⟨_,o,ho,_⟩:=I.ok.funs.mem hb;exact absurd (dx5 (Heap.lt_size ho) (dt4 I.sz h)) (ed2 _)
theorem h7.cne (I:h7 X pins σ H s):∀x c,X.env.cells.lookup x=some c->c≠X.env.locals:=fun x c e z=>by
 obtain ⟨v,o,ho,hd⟩:=I.cell x c e;obtain ⟨m,⟨o',es,ep,ho',hd',_⟩,_⟩:=I.loc;rw[z,ho'] at ho;cases ho;rw[hd'] at hd;cases hd
theorem h7.funs (I:h7 X pins σ H s):s.heap.FunFrames X.base X.outer:=by
 have all:∀(l:List Env),(∀b∈frs l,b∈X.fs)->X.s₀.heap.FunFrames X.base l->s.heap.FunFrames X.base l:=by
   intro l
   induction l with
   |nil=>intro _ _;trivial
   |cons env r ih=>
    intro hs hl;obtain ⟨hk,⟨L,o,hf,hn,ho,hd⟩,hr⟩:=hl;have hL:L∈X.fs:=hs L (by unfold frs;rw[ej7,hf];exact ds1)
    obtain ⟨sl,e⟩:=I.base.slot L o ho (I.ok.frf L hL) hL fun z=>I.ok.exfs L z hL
    exact ⟨hk,⟨L,_,hf,hn,e,hd⟩,ih (fun b hb=>hs b (by unfold frs;rw[ej7,hf];exact ds3 _ hb)) hr⟩
 exact all X.outer (fun _ hb=>hb) I.ok.funs
theorem h7.stack (I:h7 X pins σ H s):s.heap.FunFrames X.base X.stack:=by
 rcases I.ok.stk with e|⟨e,hf⟩
 · rw[e];exact I.funs
 · rw[e];obtain ⟨m,hn,_⟩:=I.loc;refine .cons (by rw[I.ok.kind];decide) hf hn ?_ I.funs;exact Heap.get?_none_of_le (dt4 I.ok.bsz I.ok.above)
theorem h7.stkSub (I:h7 X pins σ H s):∀b∈frs X.stack,b∈X.env.locals::X.fs:=fun b hb=>by
 rcases I.ok.stk with e|⟨e,hf⟩
 · rw[e] at hb;exact ds3 _ hb
 · rw[e] at hb;unfold frs at hb;rw[ej7,hf] at hb;exact hb
theorem h7.stkFree (I:h7 X pins σ H s):∀b∈frs X.stack,H b=none:=fun b hb=>by
 rcases dt8.mp (I.stkSub b hb) with e|hb
 · rw[e];exact I.free
 · obtain ⟨_,o,ho,_⟩:=I.ok.funs.mem hb
   exact I.base.free b o ho (I.ok.frf b hb) fun z=>I.ok.exfs b z hb
theorem h7.step {g':Array GenState}{t':Nat}{d':Drawn}{ch:List Addr}(I:h7 X pins σ H s)
   (hch:∀b∈ch,(b∈X.ex\/X.s₀.heap.objs.size<=b)/\b≠X.env.locals/\(∀x c,X.env.cells.lookup x=some c->c≠b)/\∀p∈X.pn++pins,p.1≠b)
   (keep:∀b o,b≠X.env.locals->b∉X.fs->b∉ch->s.heap.get? b=some o->H b=none->h'.get? b=some o)
   (slot:∀b o,b≠X.env.locals->b∈X.fs->b∉ch->s.heap.get? b=some o->H b=none->∃sl,h'.get? b=some {o with slots:=sl}) (free:∀b o,b∉ch->s.heap.get? b=some o->H b=none->H' b=none)
   (there:∀b o,b∉ch->s.heap.get? b=some o->∃o',h'.get? b=some o')
   (tups:∀b xs,H b=some (.tup xs)->H' b=some (.tup xs)) (frzs:∀b o u,H b=some (.frz o u)->H' b=some (.frz o u)) (tbls:∀b ps,H b=some (.tbl ps)->∃more,H' b=some (.tbl (ps++more)))
   (ns:∀m,s.heap.Ns X.env.locals m->h'.Ns X.env.locals m) (hok:K2 X.prog X.w H' h') (hg:AllBare g'):
   h7 X pins σ H' {s with heap:=h',gens:=g',drawn:=d',toks:=t'}:=by
 have neL:∀b o,X.s₀.heap.get? b=some o->b≠X.env.locals:=fun b o e=>dw7 (dx5 (Heap.lt_size e) I.ok.above)
 have neC:∀b o,X.s₀.heap.get? b=some o->b∉X.ex->b∉ch:=fun b o e hx hb=>by
   rcases (hch b hb).1 with z|z
   · exact hx z
   · exact absurd (dx5 (Heap.lt_size e) z) (ed2 _)
 have cellK:∀x c,X.env.cells.lookup x=some c->∀v,s.heap.IsCell c v->h'.IsCell c v:=fun x c e v ⟨o,ho,hd⟩=>by
   have nch:c∉ch:=fun z=>(hch c z).2.2.1 x c e rfl
   by_cases hc:c∈X.fs
   · obtain ⟨sl,q⟩:=slot c o (I.cne x c e) hc nch ho (I.freeC x c e);exact ⟨_,q,hd⟩
   · exact ⟨o,keep c o (I.cne x c e) hc nch ho (I.freeC x c e),hd⟩
 refine ⟨I.ok,I.os,hg,⟨fun b o e n hb hx=> ?_,fun b o e n hb hx=> ?_,fun b o e n hx=> ?_,fun b o e hx=> ?_,fun b xs e=>tups b xs (I.base.tups b xs e),fun b o xs e=>frzs b o xs (I.base.frzs b o xs e),fun b ps e=> ?_⟩,?_,fun x c e=> ?_,?_,fun x c e=> ?_,fun p hp=> ?_,hok,I.len⟩
 · exact keep b o (neL b o e) hb (neC b o e hx) (I.base.keep b o e n hb hx) (I.base.free b o e n hx)
 · obtain ⟨sl,e1⟩:=I.base.slot b o e n hb hx;obtain ⟨sl',e2⟩:=slot b _ (neL b o e) hb (neC b o e hx) e1 (I.base.free b o e n hx);exact ⟨sl',e2⟩
 · obtain ⟨o',e1⟩:=I.base.there b o e hx;exact free b o' (neC b o e hx) e1 (I.base.free b o e n hx)
 · obtain ⟨o',e1⟩:=I.base.there b o e hx;exact there b o' (neC b o e hx) e1
 · obtain ⟨m1,e1⟩:=I.base.tbls b ps e;obtain ⟨m2,e2⟩:=tbls b _ e1;exact ⟨m1++m2,by rw[e2,Array.append_assoc]⟩
 · obtain ⟨m,hn,hl⟩:=I.loc;refine ⟨m,ns m hn,fun i x v e1 e2 e3=> ?_⟩;obtain ⟨u,r,l⟩:=hl i x v e1 e2 e3;refine ⟨u,r,?_⟩
   rcases l with l|⟨k,c,e,z⟩
   · exact .inl l
   · exact .inr ⟨k,c,e,cellK x c e _ z⟩
 · obtain ⟨v,z⟩:=I.cell x c e;exact ⟨v,cellK x c e v z⟩
 · obtain ⟨m,⟨o,_,_,ho,_⟩,_⟩:=I.loc;exact free _ o (fun z=>(hch _ z).2.1 rfl) ho I.free
 · obtain ⟨v,o,ho,hd⟩:=I.cell x c e;exact free c o (fun z=>(hch c z).2.2.1 x c e rfl) ho (I.freeC x c e)
 · obtain ⟨e,n,ne,nf,d⟩:=I.pin p hp
   have nch:p.1∉ch:=fun z=>(hch p.1 z).2.2.2 p hp rfl
   exact ⟨keep p.1 p.2 ne nf nch e n,free p.1 p.2 nch e n,ne,nf,d⟩
theorem h7.un {t':Nat}(I:h7 X pins σ H s)(u:Un X.fs [] H H' s.heap h')(hok:K2 X.prog X.w H' h'):h7 X pins σ H' {s with heap:=h',toks:=t'}:=by
 obtain ⟨m,⟨o,es,ep,ho,r⟩,_⟩:=id I.loc;obtain ⟨sl,hL⟩:=u.any ho I.free (by simp)
 exact I.step (g':=s.gens) (d':=s.drawn) (ch:=[]) (fun _ z=>nomatch z) (fun b o _ hb _ e n=>u.keep b o e n hb (by simp)) (fun b o _ hb _ e n=>u.slot b o e n hb (by simp)) (fun b o _ e n=>u.free b o e n (by simp)) (fun b o _ e=>u.there b o e (by simp)) u.tups u.frzs u.tbls (fun m' hm=>by
   obtain ⟨o',es',ep',ho',r'⟩:=hm;rw[ho] at ho';cases ho'
   exact ⟨_,es',ep',hL,r'⟩) hok I.bare
theorem h7.call {g':Array GenState}{t':Nat}{d':Drawn}{ch:List Addr}(I:h7 X pins σ H s)(u:Un (frs X.stack) ch H H' s.heap h')(hok:K2 X.prog X.w H' h')(hg:AllBare g')
   (hch:∀b∈ch,(b∈X.ex\/X.s₀.heap.objs.size<=b)/\b≠X.env.locals/\(∀x c,X.env.cells.lookup x=some c->c≠b)/\∀p∈X.pn++pins,p.1≠b):
   h7 X pins σ H' {s with heap:=h',gens:=g',drawn:=d',toks:=t'}:=by
 obtain ⟨m,⟨o,es,ep,ho,r⟩,_⟩:=id I.loc
 obtain ⟨sl,hL⟩:=u.any ho I.free fun z=>(hch _ z).2.1 rfl
 exact I.step (ch:=ch) hch (fun b o hL hb hc e n=>u.keep b o e n (fun z=>(dt8.mp (I.stkSub b z)).elim hL hb) hc) (fun b o _ _ hc e n=>u.any e n hc) (fun b o hc e n=>u.free b o e n hc) (fun b o hc e=>u.there b o e hc) u.tups u.frzs u.tbls (fun m' hm=>by
   obtain ⟨o',es',ep',ho',r'⟩:=hm;rw[ho] at ho';cases ho'
   exact ⟨_,es',ep',hL,r'⟩) hok hg
theorem h7.turned {t':Nat}{it:Addr}(I:h7 X pins σ H s)(k:∀b o,b≠it->s.heap.get? b=some o->h'.get? b=some o)(hn:H it=none)(hL:it≠X.env.locals)
   (h1:it∈X.ex\/X.s₀.heap.objs.size<=it) (h2:∀x c,X.env.cells.lookup x=some c->c≠it) (h3:∀p∈X.pn++pins,p.1≠it):h7 X pins σ H {s with heap:=h',toks:=t'}:=by
 have nit:∀b u,H b=some u->b≠it:=fun b u e z=>by rw[z,hn] at e;cases e
 refine I.step (g':=s.gens) (d':=s.drawn) (ch:=[it]) (fun b hb=> ?_) (fun b o _ _ hc e _=>k b o (fun z=>hc (by simp [z])) e) (fun b o _ _ hc e _=>⟨o.slots,k b o (fun z=>hc (by simp [z])) e⟩) (fun _ _ _ _ n=>n)
   (fun b o hc e=>⟨o,k b o (fun z=>hc (by simp [z])) e⟩) (fun _ _ e=>e) (fun _ _ _ e=>e) (fun b ps e=>⟨#[],by rw[e];simp⟩) (fun m hm=> ?_) (fun b u e=> ?_) I.bare
 · have e:b=it:=by simpa using hb
   subst e;exact ⟨h1,hL,h2,h3⟩
 · obtain ⟨o,es,ep,ho,r⟩:=hm;exact ⟨o,es,ep,k _ o (Ne.symm hL) ho,r⟩
 · refine (I.hok b u e).stay (fun c v hc q=>k c v ?_ q) (fun _ q=>q) fun _ _ q=>q
   rcases hc with z|z
   · rw[z];exact nit b u e
   · exact nit c _ z
theorem h7.tok (I:h7 X pins σ H s)(t:Nat):h7 X pins σ H {s with toks:=t}:=I.un (h':=s.heap) (t':=t) Un.refl I.hok
theorem h7.kept {t':Nat}(I:h7 X pins σ H s)(k:∀b u,s.heap.get? b=some u->h'.get? b=some u):h7 X pins σ H {s with heap:=h',toks:=t'}:=I.un (Un.kept k) (I.hok.kept k)
theorem h7.laid {a:Addr}{o:HO}{t':Nat}(I:h7 X pins σ H s)(k:∀b u,s.heap.get? b=some u->h'.get? b=some u)(hp:s.heap.objs.size<=a)(new:x6 X.prog X.w (c8 H a o) h' a o):
 h7 X pins σ (c8 H a o) {s with heap:=h',toks:=t'}:=I.un (Un.laid k hp (I.hok.fresh hp)) (I.hok.laid k hp new)
theorem h7.write {x e:Addr}{o:HO}{t':Nat}(I:h7 X pins σ H s)(mu:Mut (H x))(he:e=x\/H e=some (.own x))(k:∀b u,b≠e->s.heap.get? b=some u->h'.get? b=some u)(heo:∃u,h'.get? e=some u)
 (new:x6 X.prog X.w (c8 H x o) h' x o):h7 X pins σ (c8 H x o) {s with heap:=h',toks:=t'}:=I.un (Un.write mu he k heo) (I.hok.write mu he k heo new)
theorem h7.pins_of {pins':List (Addr×Obj)}(I:h7 X pins σ H s)(h:∀p∈pins',s.heap.get? p.1=some p.2/\H p.1=none/\p.1≠X.env.locals/\p.1∉X.fs/\∀v,p.2.data≠.cell v):h7 X pins' σ H s:=
 ⟨I.ok,I.os,I.bare,I.base,I.loc,I.cell,I.free,I.freeC,fun p hp=>(dt1.mp hp).elim (fun z=>I.pin p (dx3 _ z)) (h p),I.hok,I.len⟩
theorem bp8 {N:List Str}(hN:N.Nodup){i j:Nat}{x:Str}(a:N[i]? =some x)(b:N[j]? =some x):i=j:=by
 obtain ⟨h1,e1⟩:=dr7.mp a;obtain ⟨h2,e2⟩:=dr7.mp b;exact (List.getElem_inj hN).mp (e1.trans e2.symm)
theorem bj1 {M:Model}{A:Around}{E:Value->Shared->Prop}{i:Nat}{x:Str}{v:V}{u:Value}{Q:Unit->Shared->Prop}(I:h7 X pins σ H s)(hN:X.N.Nodup)(hi:X.N[i]? =some x)(hx:Loc X.env.scope x)(r:t7 v u)
   (h:∀s',h7 X pins (σ.set i (some v)) H s'->(∃a,Heap.SameBut a s.heap s'.heap/\(a=X.env.locals\/X.env.cells.lookup x=some a))->Q () s') (hf:X.fn x=true\/X.env.scope.names.lookup x=some .local:=by first|exact .inl rfl|exact .inr rfl|assumption):wpAny M A (storeName X.env x u) Q E s:=by
 obtain ⟨m,hn,hl⟩:=id I.loc
 have hcls:(X.env.scope.kind== .class||(X.env.scope.kind== .module&&X.env.locals !=X.env.globals))=false:=by rw[I.ok.kind];rfl
 have hiσ:i < σ.length:=by rw[I.len];exact (dr7.mp hi).1
 have cne:=I.cne
 have tracked:∀{a:Addr} {h':Heap},(∃o,s.heap.get? a=some o/\H a=none)->Heap.SameBut a s.heap h'->K2 X.prog X.w H h':=fun {a h'} ha hs b ob e=>by
   obtain ⟨_,_,hfree⟩:=ha
   refine (I.hok b ob e).stay (fun c w' hc q=>(hs.2 c ?_).trans q) (fun _ q=>q) fun _ _ q=>q
   rintro rfl
   rcases hc with rfl|hc
   · rw[hfree] at e;cases e
   · rw[hfree] at hc;cases hc
 rcases hx with hk|hk
 · refine wpAny_storeName_local hk hn (fun h' hn' hs=> ?_) hcls;obtain ⟨oL,_,_,hoL,_⟩:=id hn;refine h _ ⟨I.ok,I.os,I.bare,⟨fun b o e n hb hx=> ?_,fun b o e n hb hx=> ?_,I.base.free,fun b o e hx=> ?_,I.base.tups,I.base.frzs,I.base.tbls⟩,⟨_,hn',fun j y v' e1 e2 e3=> ?_⟩,fun y c e=> ?_,I.free,I.freeC,fun p hp=> ?_,tracked ⟨oL,hoL,I.free⟩ hs,by simpa using I.len⟩ ⟨_,hs,.inl rfl⟩
   · exact (hs.2 b (dw7 (dx5 (Heap.lt_size e) I.ok.above))).trans (I.base.keep b o e n hb hx)
   · obtain ⟨sl,e1⟩:=I.base.slot b o e n hb hx;exact ⟨sl,(hs.2 b (dw7 (dx5 (Heap.lt_size e) I.ok.above))).trans e1⟩
   · obtain ⟨o',e1⟩:=I.base.there b o e hx;exact ⟨o',(hs.2 b (dw7 (dx5 (Heap.lt_size e) I.ok.above))).trans e1⟩
   · by_cases hj:j=i
     · subst hj;rw[hi] at e1;cases e1;rw[ei1 hiσ] at e2;cases e2;exact ⟨u,r,.inl ⟨hk,by simp⟩⟩
     · rw[ej0 (Ne.symm hj)] at e2;obtain ⟨u',r',q⟩:=hl j y v' e1 e2 e3;refine ⟨u',r',?_⟩
       rcases q with ⟨k,e⟩|⟨k,c,e,z⟩
       · refine .inl ⟨k,?_⟩
         have:y≠x:=fun e=>hj (bp8 hN e1 (e▸hi))
         simp [this,e]
       · exact .inr ⟨k,c,e,z.sameBut hs (cne y c e)⟩
   · obtain ⟨w',z⟩:=I.cell y c e;exact ⟨w',z.sameBut hs (cne y c e)⟩
   · obtain ⟨e,n,ne,nf,d⟩:=I.pin p hp;exact ⟨(hs.2 p.1 ne).trans e,n,ne,nf,d⟩
 · have hfn:X.fn x=true:=by
     rcases hf with z|z
     · exact z
     · rw[z] at hk;cases hk
   obtain ⟨c,hc⟩:=I.ok.has x (.inl hk);obtain ⟨w',z⟩:=I.cell x c hc;refine wpAny_storeName_cell I.ok.kind hk hc z (fun h' hc' hs=> ?_);obtain ⟨oc,hoc,hocd⟩:=id z;refine h {s with heap:=h'} ⟨I.ok,I.os,I.bare,⟨fun b o e n hb hx=> ?_,fun b o e n hb hx=> ?_,I.base.free,fun b o e hx=> ?_,I.base.tups,I.base.frzs,I.base.tbls⟩,⟨m,hn.sameBut hs (Ne.symm (cne x c hc)),fun j y v' e1 e2 e3=> ?_⟩,fun y c' e=> ?_,I.free,I.freeC,fun p hp=> ?_,tracked ⟨oc,hoc,I.freeC x c hc⟩ hs,by simpa using I.len⟩ ⟨c,hs,.inr hc⟩
   · exact (hs.2 b (dw7 (dx5 (Heap.lt_size e) (I.ok.cab x c hfn hc)))).trans (I.base.keep b o e n hb hx)
   · obtain ⟨sl,e1⟩:=I.base.slot b o e n hb hx;exact ⟨sl,(hs.2 b (dw7 (dx5 (Heap.lt_size e) (I.ok.cab x c hfn hc)))).trans e1⟩
   · obtain ⟨o',e1⟩:=I.base.there b o e hx;exact ⟨o',(hs.2 b (dw7 (dx5 (Heap.lt_size e) (I.ok.cab x c hfn hc)))).trans e1⟩
   · by_cases hj:j=i
     · subst hj;rw[hi] at e1;cases e1;rw[ei1 hiσ] at e2;cases e2;exact ⟨u,r,.inr ⟨.inl hk,c,hc,hc'⟩⟩
     · rw[ej0 (Ne.symm hj)] at e2;obtain ⟨u',r',q⟩:=hl j y v' e1 e2 e3;refine ⟨u',r',?_⟩
       rcases q with q|⟨k,c',e,z'⟩
       · exact .inl q
       · refine .inr ⟨k,c',e,z'.sameBut hs ?_⟩;rintro rfl;exact hj (bp8 hN e1 (I.ok.inj _ _ _ e hc▸hi))
   · by_cases hcc:c'=c
     · subst hcc;exact ⟨_,hc'⟩
     · obtain ⟨w2,z2⟩:=I.cell y c' e;exact ⟨w2,z2.sameBut hs hcc⟩
   · obtain ⟨e,n,ne,nf,d⟩:=I.pin p hp;refine ⟨(hs.2 p.1 ?_).trans e,n,ne,nf,d⟩;intro q;rw[q,hoc] at e;have q':oc=p.2:=Option.some.inj e;exact d w' (by rw[<-q'];exact hocd)
theorem bp9 {M:Model}{A:Around}{E:Value->Shared->Prop}{i:Nat}{x:Str}{v:V}{u:Value}{Q:Unit->Shared->Prop}(I:h7 X pins σ H s)(hN:X.N.Nodup)(hi:X.N[i]? =some x)(hx:Loc X.env.scope x)(r:t7 v u)
   (h:∀s',h7 X pins (σ.set i (some v)) H s'->Q () s') (hf:X.fn x=true\/X.env.scope.names.lookup x=some .local:=by first|exact .inl rfl|exact .inr rfl|assumption):wpAny M A (storeName X.env x u) Q E s:=
 bj1 I hN hi hx r (fun s' I' _=>h s' I') hf
theorem h7.call' {s':Shared}{ch:List Addr}(I:h7 X pins σ H s)(ho:s'.os=s.os)(u:Un (frs X.stack) ch H H' s.heap s'.heap)(hok:K2 X.prog X.w H' s'.heap)(hg:AllBare s'.gens)
   (hch:∀b∈ch,(b∈X.ex\/X.s₀.heap.objs.size<=b)/\b≠X.env.locals/\(∀x c,X.env.cells.lookup x=some c->c≠b)/\∀p∈X.pn++pins,p.1≠b):h7 X pins σ H' s':=by
 obtain ⟨h',g',d',t',o'⟩:=s';have e:o'=s.os:=ho;subst e;exact I.call (g':=g') (t':=t') (d':=d') u hok hg hch
end
abbrev XK:=Value->Option Addr->Hp->Prop
abbrev St:=List (Option V)
abbrev VK:=V->Hp->Prop
abbrev TE:=St->Hp->VK->Prop
abbrev TT:=St->Hp->(Bool->Hp->Prop)->Prop
abbrev TA:=St->Hp->(List V->Hp->Prop)->Prop
structure ae2 where
 nx:St->Hp->Prop
 rt:VK
 bk:St->Hp->Prop:=fun _ _=>False
 ct:St->Hp->Prop:=fun _ _=>False
abbrev TS:=ae2->St->Hp->Prop
def EP (X:Cx)(pins:List (Addr×Obj))(σ:St)(Q:VK)(u:Value)(s':Shared):Prop:=∃v H',h7 X pins σ H' s'/\t7 v u/\Q v H'
def TP (X:Cx)(pins:List (Addr×Obj))(σ:St)(Q:Bool->Hp->Prop)(b:Bool)(s':Shared):Prop:=∃H',h7 X pins σ H' s'/\Q b H'
def AP (X:Cx)(pins:List (Addr×Obj))(σ:St)(Q:List V->Hp->Prop)(us:List Value)(s':Shared):Prop:=∃vs H',h7 X pins σ H' s'/\o3 vs us/\Q vs H'
def SP (X:Cx)(pins:List (Addr×Obj))(D:ae2)(f:Flow)(s':Shared):Prop:=
 match f with
 | .next=>∃σ' H',h7 X pins σ' H' s'/\D.nx σ' H'
 | .brk=>∃σ' H',h7 X pins σ' H' s'/\D.bk σ' H'
 | .cont=>∃σ' H',h7 X pins σ' H' s'/\D.ct σ' H'
 | .ret u=>∃v σ' H',h7 X pins σ' H' s'/\t7 v u/\D.rt v H'
def PE (X:Cx)(e:Expr)(t:TE):Prop:=
 ∀(pins:List (Addr×Obj)) (s:Shared) (σ:St) (H:Hp) (Q:VK),h7 X pins σ H s->t σ H Q->wpAny (model X.prog X.w) X.A (eval e X.env) (EP X pins σ Q) X.xe s
def PT (X:Cx)(e:Expr)(t:TT):Prop:=
 ∀(pins:List (Addr×Obj)) (s:Shared) (σ:St) (H:Hp) (Q:Bool->Hp->Prop),h7 X pins σ H s->t σ H Q->wpAny (model X.prog X.w) X.A (isTrue e X.env (eval e X.env)) (TP X pins σ Q) X.xe s
def PW (X:Cx)(e:Expr)(t:TT):Prop:=
 ∀(whole:Sem Value) (pins:List (Addr×Obj)) (s:Shared) (σ:St) (H:Hp) (Q:Bool->Hp->Prop),h7 X pins σ H s->t σ H Q->wpAny (model X.prog X.w) X.A (isTrue e X.env whole) (TP X pins σ Q) X.xe s
theorem PW.pt {X:Cx}{e:Expr}{t:TT}(h:PW X e t):PT X e t:=h _
def PA (X:Cx)(es:List Expr)(t:TA):Prop:=
 ∀(pos:Pos) (pins:List (Addr×Obj)) (s:Shared) (σ:St) (H:Hp) (Q:List V->Hp->Prop),h7 X pins σ H s->t σ H Q->wpAny (model X.prog X.w) X.A (spliced (backTo pos (starEach es X.env))) (AP X pins σ Q) X.xe s
def PS (X:Cx)(st:Stmt)(t:TS):Prop:=
 ∀(pins:List (Addr×Obj)) (s:Shared) (σ:St) (H:Hp) (D:ae2),h7 X pins σ H s->t D σ H->wpAny (model X.prog X.w) X.A (exec st X.env) (SP X pins D) X.xe s
def PSs (X:Cx)(st:List Stmt)(t:TS):Prop:=
 ∀(pins:List (Addr×Obj)) (s:Shared) (σ:St) (H:Hp) (D:ae2),h7 X pins σ H s->t D σ H->wpAny (model X.prog X.w) X.A (execs st X.env) (SP X pins D) X.xe s
theorem q9 {α:Type}{t:Sem α}{Q Q':α->Shared->Prop}{M:Model}{A:Around}{E:Value->Shared->Prop}{s:Shared}(h:wpAny M A t Q E s)(hQ:∀a s,Q a s->Q' a s):wpAny M A t Q' E s:=wpAny_mono h hQ fun _ _ x=>x
end L2
namespace L2
open PySem PySem.Spec PyProof.Rows
section
variable {X:Cx}
def de4 (i:Nat):TE:=fun σ H Q=>∃v,σ[i]? =some (some v)/\Q v H
def tC (v:V):TE:=fun _ H Q=>Q v H
theorem de5 {i:Nat}{x:Str}{pos:Pos}(hN:X.N[i]? =some x)(hv:Vis X.env.scope x)(hd:(x==("__debug__":Str))=false:=by decide)(hcd:(x==("__classdict__":Str))=false:=by decide):PE X (.Name x pos) (de4 i):=by
 intro pins s σ H Q I h;obtain ⟨v,e,h⟩:=h;obtain ⟨m,hn,hl⟩:=I.loc;obtain ⟨u,r,l⟩:=hl i x v hN e hv;have fin:EP X pins σ Q u s:=⟨v,H,I,r,h⟩
 rcases l with ⟨hk,hm⟩|⟨hk,c,hc,hcell⟩
 · exact wpAny_Name (wpAny_loadName_local I.ok.kind hk hn hm fin) hd
 · rcases hk with hk|hk
   · exact wpAny_Name (wpAny_loadName_cell I.ok.kind hk hc hcell fin) hd
   · exact wpAny_Name (wpAny_loadName_free I.ok.kind hk hc hcell fin hcd) hd
theorem i6 {i j pos}:PE X (.Constant (.int i) j pos) (tC (.int i)):=fun _ _ _ H _ I h=>wpAny_Constant_int ⟨.int i,H,I.tok _,⟨_,rfl⟩,h⟩
theorem R1 {b j pos}:PE X (.Constant (.bool b) j pos) (tC (.bl b)):=fun _ _ _ H _ I h=>Constant_bool ⟨.bl b,H,I,rfl,h⟩
def Gl (X:Cx)(x:Str):Prop:=X.env.kindOf x=some .globalImplicit
theorem bz6 {E:Value->Shared->Prop}{pins:List (Addr×Obj)}{s:Shared}{σ:St}{H:Hp}{x:Str}{u:Value}{pos:Pos}{Q:Value->Shared->Prop}(I:h7 X pins σ H s)(hg:Gl X x)(hm:X.mg x=some u)(h:Q u s)
   (hd:(x==("__debug__":Str))=false:=by decide):wpAny (model X.prog X.w) X.A (eval (.Name x pos) X.env) Q E s:=
 Calls.Name_function_global I.ok.kind hg (Calls.loadGlobal_global (by rw[I.ok.glob];exact I.mod.glob.keeps I.bk) hm h) hd
theorem aa7 {E:Value->Shared->Prop}{pins:List (Addr×Obj)}{s:Shared}{σ:St}{H:Hp}{x:Str}{u:Value}{pos:Pos}{Q:Value->Shared->Prop}(I:h7 X pins σ H s)(hg:Gl X x)(hm:X.mg x=none)(hv:bootBuiltins x=some u)(h:Q u s)
   (hn:x≠"__name__":=by decide) (hd:(x==("__debug__":Str))=false:=by decide):wpAny (model X.prog X.w) X.A (eval (.Name x pos) X.env) Q E s:=by
 obtain ⟨mb,h1,h2⟩:=I.mod.blt;exact Calls.Name_function_global I.ok.kind hg (Calls.loadGlobal_builtin (by rw[I.ok.glob];exact I.mod.glob.keeps I.bk) hm (by rw[I.ok.blt];exact h1.keeps I.bk) ((h2 x hn).trans hv) h) hd
theorem bf9 {x:Str}{v:V}{u:Value}{pos:Pos}(hg:Gl X x)(hm:X.mg x=some u)(r:t7 v u)(hd:(x==("__debug__":Str))=false:=by decide):PE X (.Name x pos) (tC v):=
 fun _ _ _ H _ I h=>bz6 I hg hm ⟨v,H,I,r,h⟩ hd
theorem bg0 {x:Str}{v:V}{u:Value}{pos:Pos}(hg:Gl X x)(hm:X.mg x=none)(hv:bootBuiltins x=some u)(r:t7 v u)(hn:x≠"__name__":=by decide)(hd:(x==("__debug__":Str))=false:=by decide):PE X (.Name x pos) (tC v):=
 fun _ _ _ H _ I h=>aa7 I hg hm hv ⟨v,H,I,r,h⟩ hn hd
variable {a b:Expr} {ta tb:TE} {pos:Pos}
def PC (X:Cx)(op:CmpOp)(a b:Expr)(t:TE):Prop:=
 ∀(pins:List (Addr×Obj)) (s:Shared) (σ:St) (H:Hp) (Q:VK),h7 X pins σ H s->t σ H Q->
  wpAny (model X.prog X.w) X.A (eval a X.env) (fun v s₁=>wpAny (model X.prog X.w) X.A (eval b X.env) (fun u s₂=>wpAny (model X.prog X.w) X.A (compareOp op v u) (EP X pins σ Q) X.xe s₂) X.xe s₁) X.xe s
def tB (t:TE):TT:=fun σ H Q=>t σ H fun x H1=>∃c,x= .bl c/\Q c H1
theorem ci3 {op:CmpOp}{t:TE}(h:PC X op a b t)(h1:behindInMarks op b=false:=by first|exact nobehind _ (by decide) (by decide)|rfl):PT X (.Compare a [op] [b] pos) (tB t):=by
 intro pins s σ H Q I hw;refine wpAny_isTrue_Compare1 (q9 (h pins s σ H _ I hw) fun v s1 h1=>q9 h1 fun u s2 h2=>q9 h2 fun c s3 ⟨x,H1,I1,r1,q1⟩=> ?_) h1;obtain ⟨d,rfl,q⟩:=q1;cases r1;exact wpAny_truthy_bool ⟨H1,I1,q⟩
theorem ae3 {e:Expr}{t:TE}(h:PE X e t)(he:∀whole,isTrue e X.env whole=(do let v <-whole;standAt e.pos;holding [v] (truthy v)):=by intro _;rfl):PT X e (tB t):=by
 intro pins s σ H Q I hw;refine isTrue_plain (q9 (h pins s σ H _ I hw) fun v s1 ⟨x,H1,I1,r1,q1⟩=> ?_) (he _);obtain ⟨d,rfl,q⟩:=q1;cases r1;exact wpAny_truthy_bool ⟨H1,I1,q⟩
variable {tA tB':TT} {rest:List Expr}
def dn4 (t u:TT):TT:=fun σ H Q=>t σ H fun c H1=>if c=true then u σ H1 Q else Q false H1
def tOr (t u:TT):TT:=fun σ H Q=>t σ H fun c H1=>if c=true then Q true H1 else u σ H1 Q
def dn5 (t:TT):TT:=fun σ H Q=>t σ H fun c H1=>Q (!c) H1
theorem cy2 (ha:PT X a tA):PW X (.BoolOp .And [a] pos) tA:=by
 intro wh pins s σ H Q I h;refine isTrue_and (q9 (ha pins s σ H Q I h) fun c s1 e=> ?_)
 cases c with
 |true=>exact isTrue_and_nil e
 |false=>exact e
theorem aj0 (ha:PT X a tA):PW X (.BoolOp .Or [a] pos) tA:=by
 intro wh pins s σ H Q I h;refine isTrue_or (q9 (ha pins s σ H Q I h) fun c s1 e=> ?_)
 cases c with
 |false=>exact isTrue_or_nil e
 |true=>exact e
theorem de6 (ha:PT X a tA)(hb:PW X (.BoolOp .And (b::rest) pos) tB'):PW X (.BoolOp .And (a::b::rest) pos) (dn4 tA tB'):=by
 intro wh pins s σ H Q I h;refine isTrue_and (q9 (ha pins s σ H _ I h) fun c s1 ⟨H1,I1,q1⟩=> ?_)
 cases c with
 |true=>exact hb wh pins s1 σ H1 Q I1 q1
 |false=>exact ⟨H1,I1,q1⟩
theorem ag6 (ha:PT X a tA)(hb:PW X (.BoolOp .Or (b::rest) pos) tB'):PW X (.BoolOp .Or (a::b::rest) pos) (tOr tA tB'):=by
 intro wh pins s σ H Q I h;refine isTrue_or (q9 (ha pins s σ H _ I h) fun c s1 ⟨H1,I1,q1⟩=> ?_)
 cases c with
 |true=>exact ⟨H1,I1,q1⟩
 |false=>exact hb wh pins s1 σ H1 Q I1 q1
theorem ae4 (ha:PT X a tA):PT X (.UnaryOp .Not a pos) (dn5 tA):=by
 intro pins s σ H Q I h;exact isTrue_not (ha pins s σ H (fun c H1=>Q (!c) H1) I h)
def dj7 (ta tb:TE):TE:=fun σ H Q=>ta σ H fun x H1=>∃c,x= .bl c/\if c=true then tb σ H1 Q else Q (.bl false) H1
def dj8 (ta:TE):TE:=fun σ H Q=>ta σ H fun x H1=>∃c,x= .bl c/\Q (.bl (!c)) H1
theorem de7 {op}{t:TE}(h:PE X a t):PE X (.BoolOp op [a] pos) t:=fun pins s σ H Q I hw=>BoolOp_one (h pins s σ H Q I hw)
theorem de8 (ha:PE X a ta)(hb:PE X (.BoolOp .And (b::rest) pos) tb):PE X (.BoolOp .And (a::b::rest) pos) (dj7 ta tb):=by
 intro pins s σ H Q I h;refine BoolOp_and (q9 (ha pins s σ H _ I h) fun v s1 ⟨x,H1,I1,r1,q1⟩=> ?_);obtain ⟨c,rfl,q1⟩:=q1;cases r1;refine wpAny_truthy_bool ?_
 cases c with
 |true=>exact hb pins s1 σ H1 Q I1 q1
 |false=>exact ⟨.bl false,H1,I1,rfl,q1⟩
theorem de9 (ha:PE X a ta):PE X (.UnaryOp .Not a pos) (dj8 ta):=by
 intro pins s σ H Q I h;refine UnaryOp_ (q9 (ha pins s σ H _ I h) fun v s1 ⟨x,H1,I1,r1,q1⟩=> ?_);obtain ⟨c,rfl,q1⟩:=q1;cases r1;exact not_of (wpAny_truthy_bool ⟨.bl (!c),H1,I1,rfl,q1⟩)
end
end L2
namespace L2
open PySem PySem.Spec PyProof.Rows
def g9 (K:PySem.W.Frag)(H:Hp)(a:Addr)(xs:List V):Prop:=
 Rd H a (.lst xs)\/
   ∃(o:Obj) (its:Array Value) (n:Nat),K.lookup a=some o/\o.cls= .type "list"/\o.dict=none/\o.data= .seq its n/\its.size<=sizeLine/\o3 xs its.toList
def R3 (K:PySem.W.Frag)(H:Hp)(a:Addr)(xs:List V):Prop:=
 Rd H a (.tup xs)\/
   ∃(o:Obj) (its:Array Value) (n:Nat),K.lookup a=some o/\o.cls= .type "tuple"/\o.data= .seq its n/\its.size<=sizeLine/\o3 xs its.toList
def dn6:Value->Option V
 | .none=>some .non
 | .bool b=>some (.bl b)
 | .int i _=>some (.int i)
 | .str x _=>some (.str x)
 | .bytes b _=>some (.byt b)
 | .float b _=>some (.flt b)
 | .ref a=>some (.ref a)
 | .type n=>some (.ty n)
 |_=>none
theorem t7.abs {x:V}{u:Value}(r:t7 x u):dn6 u=some x:=by
 cases x with
 |non=>cases r;rfl
 |bl _=>cases r;rfl
 |int _=>obtain ⟨t,rfl⟩:=r;rfl
 |str _=>obtain ⟨t,rfl⟩:=r;rfl
 |byt _=>obtain ⟨t,rfl⟩:=r;rfl
 |flt _=>obtain ⟨t,rfl⟩:=r;rfl
 |ref _=>cases r;rfl
 |ty _=>cases r;rfl
theorem t7.inj {x y:V}{u:Value}(r:t7 x u)(q:t7 y u):x=y:=Option.some.inj (r.abs.symm.trans q.abs)
theorem o3.inj:∀{xs ys:List V} {us:List Value},o3 xs us->o3 ys us->xs=ys
 |_,_,_,.nil,.nil=>rfl
 |_,_,_,.cons r t,.cons r' t'=>by rw[r.inj r',o3.inj t t']
section
variable {X:Cx} {pins:List (Addr×Obj)} {σ:St} {H:Hp} {s:Shared} {a:Addr} {xs ys:List V}
theorem g9.of {K:PySem.W.Frag}(h:H a=some (.lst xs)):g9 K H a xs:= .inl (.inl h)
theorem R3.of {K:PySem.W.Frag}(h:H a=some (.tup xs)):R3 K H a xs:= .inl (.inl h)
theorem h7.list (I:h7 X pins σ H s)(h:g9 X.K H a xs):∃its:List Value,o3 xs its/\PlainL s.heap a its.toArray/\xs.length<=sizeLine:=by
 rcases h with h|⟨o,its,n,hk,hc,hd,hs,hz,r⟩
 · obtain ⟨z,its,n,r,e⟩:=h.ok I.hok;exact ⟨its,r,⟨_,n,e,rfl,rfl,rfl⟩,z⟩
 · refine ⟨its.toList,r,⟨o,n,I.kIn a o hk,hc,hd,by simpa using hs⟩,?_⟩;have e:=r.length;simp only[du9] at e;omega
theorem h7.tuple (I:h7 X pins σ H s)(h:R3 X.K H a xs):∃its:List Value,o3 xs its/\IsTup s.heap a its.toArray/\xs.length<=sizeLine:=by
 rcases h with h|⟨o,its,n,hk,hc,hs,hz,r⟩
 · obtain ⟨z,its,r,p⟩:=h.ok I.hok;exact ⟨its,r,p,z⟩
 · refine ⟨its.toList,r,⟨o,I.kIn a o hk,hc,n,by simpa using hs⟩,?_⟩;have e:=r.length;simp only[du9] at e;omega
theorem h7.list_inj (I:h7 X pins σ H s)(h:g9 X.K H a xs)(h':g9 X.K H a ys):xs=ys:=by
 obtain ⟨its,r,⟨o,n,e,_,_,d⟩,_⟩:=I.list h;obtain ⟨its',r',⟨o',n',e',_,_,d'⟩,_⟩:=I.list h';rw[e] at e';cases e';rw[d] at d'
 injection d' with d1 _
 have:its=its':=by simpa using congrArg dz2 d1
 subst this;exact r.inj r'
end
abbrev Cx.wish (X:Cx)(E:Value->Shared->Prop):Cx:={X with xe:=E}
abbrev Cx.nox (X:Cx):Cx:=X.wish fun _ _=>False
theorem Cx.Ok.wish {X:Cx}(ok:X.Ok)(E:Value->Shared->Prop):(X.wish E).Ok:=
 ⟨ok.mod,ok.kind,ok.glob,ok.blt,ok.above,ok.inj,ok.has,ok.cab,ok.hd,ok.frames,ok.stk,ok.exf,ok.bs,ok.bsz,ok.noex,ok.exfs,ok.funs,ok.frf⟩
theorem Cx.Ok.unwish {X:Cx}{E:Value->Shared->Prop}(ok:(X.wish E).Ok):X.Ok:=
 ⟨ok.mod,ok.kind,ok.glob,ok.blt,ok.above,ok.inj,ok.has,ok.cab,ok.hd,ok.frames,ok.stk,ok.exf,ok.bs,ok.bsz,ok.noex,ok.exfs,ok.funs,ok.frf⟩
section
variable {X:Cx} {pins:List (Addr×Obj)} {σ:St} {H:Hp} {s:Shared} {E:Value->Shared->Prop}
theorem h7.wish (I:h7 X pins σ H s)(E:Value->Shared->Prop):h7 (X.wish E) pins σ H s:=⟨I.ok.wish E,I.os,I.bare,I.base,I.loc,I.cell,I.free,I.freeC,I.pin,I.hok,I.len⟩
theorem h7.unwish (I:h7 (X.wish E) pins σ H s):h7 X pins σ H s:=⟨I.ok.unwish,I.os,I.bare,I.base,I.loc,I.cell,I.free,I.freeC,I.pin,I.hok,I.len⟩
theorem SP.unwish {D:ae2}{f:Flow}{s':Shared}(h:SP (X.wish E) pins D f s'):SP X pins D f s':=by
 cases f with
 |next=>obtain ⟨σ',H',I,q⟩:=h;exact ⟨σ',H',I.unwish,q⟩
 |brk=>obtain ⟨σ',H',I,q⟩:=h;exact ⟨σ',H',I.unwish,q⟩
 |cont=>obtain ⟨σ',H',I,q⟩:=h;exact ⟨σ',H',I.unwish,q⟩
 |ret u=>obtain ⟨v,σ',H',I,r,q⟩:=h;exact ⟨v,σ',H',I.unwish,r,q⟩
theorem PSs.nox {st:List Stmt}{t:TS}(h:PSs X.nox st t):PSs X st t:=fun pins s σ H D I hw=>
 wpAny_mono (h pins s σ H D (I.wish _) hw) (fun _ _ q=>q.unwish) fun _ _ z=>False.elim z
end
section
variable {X:Cx} {st:Stmt} {rest:List Stmt} {t u:TS} {e:Expr} {te:TE} {pos:Pos}
def dj9:TS:=fun D σ H=>D.nx σ H
def dn7 (t u:TS):TS:=fun D σ H=>t {D with nx:=u D} σ H
theorem y7:PSs X [] dj9:=fun _ _ σ H _ I h=>wpAny_execs_nil ⟨σ,H,I,h⟩
theorem e8 (h1:PS X st t)(h2:PSs X rest u):PSs X (st::rest) (dn7 t u):=by
 intro pins s σ H D I h;refine wpAny_execs_cons (q9 (h1 pins s σ H {D with nx:=u D} I h) fun f s1 q=> ?_)
 cases f with
 |next=>
  obtain ⟨σ',H',I',q⟩:=q;exact h2 pins s1 σ' H' D I' q
 |ret v=>exact q
 |brk=>exact q
 |cont=>exact q
theorem g6 (h1:PS X st t):PSs X [st] t:=by
 intro pins s σ H D I h;refine wpAny_execs_cons (q9 (h1 pins s σ H D I h) fun f s1 q=> ?_)
 cases f with
 |next=>exact wpAny_execs_nil q
 |ret v=>exact q
 |brk=>exact q
 |cont=>exact q
theorem h7.quiet {pins:List (Addr×Obj)}{σ:St}{H:Hp}{s:Shared}(I:h7 X pins σ H s):interactive X.env=false:=by simp [interactive,I.ok.kind]
def dk0 (te:TE):TS:=fun D σ H=>te σ H fun _ H1=>D.nx σ H1
theorem w6 (he:PE X e te)(hs:swapsWith e none pos.line X.env=pure false:=by rfl):PS X (.Expr e pos) (dk0 te):=by
 intro pins s σ H D I h;exact wpAny_Expr_any (q9 (he pins s σ H _ I h) fun v s1 ⟨x,H1,I1,r1,q1⟩=>⟨σ,H1,I1,q1⟩) I.quiet hs
def dn8 (te:TE):TS:=fun D σ H=>te σ H D.rt
theorem l9 (he:PE X e te):PS X (.Return (some e) pos) (dn8 te):=by
 intro pins s σ H D I h;exact wpAny_Return_some (q9 (he pins s σ H _ I h) fun v s1 ⟨x,H1,I1,r1,q1⟩=>⟨x,σ,H1,I1,r1,q1⟩)
def dn9 (c:TT)(t u:TS):TS:=fun D σ H=>c σ H fun b H1=>if b=true then t D σ H1 else u D σ H1
theorem C3 {c:Expr}{a b:List Stmt}{tc:TT}(hc:PT X c tc)(ha:PSs X a t)(hb:PSs X b u):PS X (.If c a b pos) (dn9 tc t u):=by
 intro pins s σ H D I h;refine wpAny_If (q9 (hc pins s σ H _ I h) fun d s1 ⟨H1,I1,q1⟩=> ?_)
 cases d with
 |true=>exact ha pins s1 σ H1 D I1 q1
 |false=>exact hb pins s1 σ H1 D I1 q1
def df0:TS:=fun _ _ _=>False
theorem ae5:PS X st df0:=fun _ _ _ _ _ _ h=>h.elim
end
abbrev TG:=V->St->Hp->(St->Hp->Prop)->Prop
abbrev TGs:=List V->St->Hp->(St->Hp->Prop)->Prop
def PG (X:Cx)(target:Expr)(t:TG):Prop:=
 ∀(pins:List (Addr×Obj)) (s:Shared) (σ:St) (H:Hp) (v:V) (u:Value) (Q:St->Hp->Prop),h7 X pins σ H s->t7 v u->t v σ H Q->
  wpAny (model X.prog X.w) X.A (assign target X.env u) (fun _ s'=>∃σ' H',h7 X pins σ' H' s'/\Q σ' H') X.xe s
def PGs (X:Cx)(ts:List Expr)(t:TGs):Prop:=
 ∀(pins:List (Addr×Obj)) (s:Shared) (σ:St) (H:Hp) (vs:List V) (us:List Value) (Q:St->Hp->Prop),h7 X pins σ H s->o3 vs us->t vs σ H Q->
  wpAny (model X.prog X.w) X.A (assignInOrder ((assignEach ts X.env).map (·.2)) us) (fun _ s'=>∃σ' H',h7 X pins σ' H' s'/\Q σ' H') X.xe s
abbrev cp9:=V->V->V->Hp->(Hp->Prop)->Prop
def df1 (X:Cx)(t:cp9):Prop:=
 ∀(pins:List (Addr×Obj)) (s:Shared) (σ:St) (H:Hp) (o i v:V) (ov iv u:Value) (Q:Hp->Prop),h7 X pins σ H s->t7 o ov->t7 i iv->t7 v u->t o i v H Q->
  wpAny (model X.prog X.w) X.A (setItem ov iv u) (fun _ s'=>∃H',h7 X pins σ H' s'/\Q H') X.xe s
section
variable {X:Cx} {pos:Pos}
def bo1 (i:Nat):TG:=fun v σ H Q=>Q (σ.set i (some v)) H
theorem i7 {i:Nat}{x:Str}(hN:X.N.Nodup)(hi:X.N[i]? =some x)(hx:Loc X.env.scope x)(hf:X.fn x=true\/X.env.scope.names.lookup x=some .local:=by first|exact .inl rfl|exact .inr rfl|assumption):PG X (.Name x pos) (bo1 i):=by
 intro pins s σ H v u Q I r h;exact wpAny_assign_Name (bp9 I hN hi hx r (fun s' I'=>⟨_,H,I',h⟩) hf)
def do0:TGs:=fun vs σ H Q=>vs=[]/\Q σ H
def dk1 (t:TG)(u:TGs):TGs:=fun vs σ H Q=>∃v r,vs=v::r/\t v σ H fun σ' H'=>u r σ' H' Q
theorem J3:PGs X [] do0:=by
 intro pins s σ H vs us Q I r h;obtain ⟨e,h⟩:=h;subst e;cases r;exact assignInOrder_nil ⟨σ,H,I,h⟩
theorem q5 {e:Expr}{es:List Expr}{t:TG}{u:TGs}(h1:PG X e t)(h2:PGs X es u)
   (hs:(assignEach (e::es) X.env).map (·.2)=assign e X.env::(assignEach es X.env).map (·.2):=by rfl):PGs X (e::es) (dk1 t u):=by
 intro pins s σ H vs us Q I r h;obtain ⟨v,vr,e1,h⟩:=h;subst e1
 cases r with
 |cons r rr=>
  rw[hs];refine assignInOrder_cons (q9 (h1 pins s σ H _ _ _ I r h) fun _ s1 ⟨σ1,H1,I1,q1⟩=> ?_);exact h2 pins s1 σ1 H1 _ _ Q I1 rr q1
def do1 (K:PySem.W.Frag)(n:Nat)(t:TGs):TG:=fun v σ H Q=>∃a xs,v= .ref a/\R3 K H a xs/\xs.length=n/\t xs σ H Q
theorem M1 {es:List Expr}{k:Nat}{t:TGs}{n:Nat}(hc:X.calm=true)(h:PGs X es t)
   (hn:(assignEach es X.env).length=n:=by rfl) (hst:(assignEach es X.env).findIdx? (·.1)=none:=by rfl):PG X (.Tuple es k pos) (do1 X.K n t):=by
 intro pins s σ H v u Q I r hw;obtain ⟨a,xs,e1,hq,hl,hw⟩:=hw;subst e1;cases r;obtain ⟨its,rv,ht,hz⟩:=I.tuple hq
 refine assign_Tuple_tuple (I.ok.hd hc) ht (by simp [hn,<-hl,rv.length]) hst fun h' hx=> ?_
 have I1:h7 X pins σ H {s with heap:=h'}:=I.kept (t':=s.toks) fun b o e=>hx b o (dw7 (Heap.lt_size e)) e
 exact h pins _ σ H xs _ Q I1 (by simpa using rv) hw
def do2 (to ti:TE)(t:cp9):TG:=fun v σ H Q=>to σ H fun o H1=>ti σ H1 fun i H2=>t o i v H2 fun H3=>Q σ H3
theorem aa8 {o i:Expr}{to ti:TE}{t:cp9}(ho:PE X o to)(hi:PE X i ti)(hs:df1 X t)
   (ha:∀v,assign (.Subscript o i pos) X.env v=(do
     let ov <-holding [v] (eval o X.env)
     let iv <-holding [v,ov] (eval i X.env)
     standAt pos
     holding [v,ov,iv] (setItem ov iv v)
     release [v,ov,iv] []):=by intro _;rfl):PG X (.Subscript o i pos) (do2 to ti t):=by
 intro pins s σ H v u Q I r h;rw[ha];refine wpAny_bind (wpAny_holding (q9 (ho pins s σ H _ I h) fun ov s1 ⟨x,H1,I1,r1,q1⟩=> ?_));refine wpAny_bind (wpAny_holding (q9 (hi pins s1 σ H1 _ I1 q1) fun iv s2 ⟨y,H2,I2,r2,q2⟩=> ?_));refine wpAny_bind (wpAny_standAt (wpAny_bind (wpAny_holding (q9 (hs pins s2 σ H2 x y v ov iv u _ I2 r1 r2 r q2) fun _ s3 ⟨H3,I3,q3⟩=> ?_))));exact wpAny_release ⟨σ,H3,I3,q3⟩
def cq0 (te:TE)(g:TG):TS:=fun D σ H=>te σ H fun x H1=>g x σ H1 D.nx
theorem aa9 {tg e:Expr}{te:TE}{g:TG}(he:PE X e te)(hg:PG X tg g)(hs:swapsWithSole [tg] e pos.line X.env=pure false:=by rfl)(hw:swappedStores [tg] e X.env=pure none:=by rfl)
   (h1:(assignEach [tg] X.env).map (·.2)=[assign tg X.env]:=by rfl):PS X (.Assign [tg] e pos) (cq0 te g):=by
 intro pins s σ H D I h;refine wpAny_Assign_stores (q9 (he pins s σ H _ I h) fun v s1 ⟨x,H1,I1,r1,q1⟩=> ?_) hs hw;rw[h1]
 exact q9 (hg pins s1 σ H1 x v _ I1 r1 q1) fun _ s2 q=>q
theorem i8 {i:Nat}{x:Str}{e:Expr}{te:TE}{pos':Pos}(hN:X.N.Nodup)(hi:X.N[i]? =some x)(hx:Loc X.env.scope x)(he:PE X e te)(hs:swapsWith e (some (.Name x pos')) pos.line X.env=pure false:=by rfl)(hf:X.fn x=true\/X.env.scope.names.lookup x=some .local:=by first|exact .inl rfl|exact .inr rfl|assumption):
   PS X (.Assign [.Name x pos'] e pos) (cq0 te (bo1 i)):=by
 intro pins s σ H D I h;refine wpAny_Assign_Name (q9 (he pins s σ H _ I h) fun v s1 ⟨y,H1,I1,r1,q1⟩=> ?_) hs;exact bp9 I1 hN hi hx r1 (fun s2 I2=>⟨_,H1,I2,q1⟩) hf
end
section
variable {X:Cx} {pos:Pos}
def ci4 (c:TT)(tb:TS):TS:=fun D σ H=>∃W:Nat->St->Hp->Prop,(∃m,W m σ H)/\∀m σ H,W m σ H->
 c σ H fun b H1=>if b=true then ∃N:St->Hp->Prop,(∀σ' H',N σ' H'->∃m',m' < m/\W m' σ' H')/\tb {D with nx:=N,ct:=N,bk:=D.nx} σ H1 else D.nx σ H1
theorem al3 {c:Expr}{body:List Stmt}{tc:TT}{tb:TS}(hp:PassesOwn (model X.prog X.w) X.A X.env X.xe)(hc:PT X c tc)(hb:PSs X body tb):PS X (.While c body [] pos) (ci4 tc tb):=by
 intro pins s σ H D I h;obtain ⟨W,⟨m0,w0⟩,turn⟩:=h;refine wpAny_While (codeAny_whileLoop (fun n s'=>∃σ' H',h7 X pins σ' H' s'/\W n σ' H') ?_ m0 ⟨σ,H,I,w0⟩);rintro n s1 ⟨σ1,H1,I1,w1⟩;refine wpAny_passesOwn hp (q9 (hc pins s1 σ1 H1 _ I1 (turn n σ1 H1 w1)) fun b s2 ⟨H2,I2,q2⟩=> ?_)
 cases b with
 |true=>
  obtain ⟨N,hN,q2⟩:=q2;rw[if_pos rfl];refine wpAny_passesOwn hp (q9 (hb pins s2 σ1 H2 _ I2 q2) fun f s3 q3=> ?_)
  cases f with
  |next=>
   obtain ⟨σ3,H3,I3,n3⟩:=q3;obtain ⟨m',hm,w3⟩:=hN σ3 H3 n3;exact ⟨m',hm,σ3,H3,I3,w3⟩
  |cont=>
   obtain ⟨σ3,H3,I3,n3⟩:=q3;obtain ⟨m',hm,w3⟩:=hN σ3 H3 n3;exact ⟨m',hm,σ3,H3,I3,w3⟩
  |brk=>exact q3
  |ret v=>exact q3
 |false=>
  rw[if_neg du3];exact wpAny_execs_nil ⟨σ1,H2,I2,q2⟩
end
structure It where
 go:Nat->Hp->Prop
 yld:Nat->Hp->V->Hp->Prop
 stop:Nat->Hp->Prop
def aq0 (X:Cx)(pins:List (Addr×Obj))(H:Hp)(b:Addr):Prop:=
 H b=none/\b≠X.env.locals/\b∉X.fs/\(b∈X.ex\/X.s₀.heap.objs.size<=b)/\(∀x c,X.env.cells.lookup x=some c->c≠b)/\∀p∈X.pn++pins,p.1≠b
theorem h7.fpOk {X:Cx}{pins:List (Addr×Obj)}{σ:St}{H H':Hp}{s:Shared}{b:Addr}(I:h7 X pins σ H s)(hb:s.heap.objs.size<=b)(hn:H' b=none):aq0 X pins H' b:=by
 refine ⟨hn,Nat.ne_of_gt (dx5 I.lt hb),I.nofs hb,.inr (dt4 I.sz hb),fun x c e z=> ?_,fun p hp z=> ?_⟩
 · obtain ⟨v,q⟩:=I.cell x c e;exact absurd (dx5 q.lt (by rw[z];exact hb)) (ed2 _)
 · exact absurd (dx5 (Heap.lt_size (I.pin p hp).1) (by rw[z];exact hb)) (ed2 _)
structure bg1 (P:Program)(w:World)(K:PySem.W.Frag)(tg:Expr)(J:It)(fp:List Addr)(it:Addr)(tn:Nat->Heap->Prop):Prop where
 mem:it∈fp
 obj:∀i h,tn i h->∀b∈fp,∃o,h.get? b=some o/\∀v,o.data≠.cell v
 keep:∀i h h',tn i h->(∀b∈fp,∀o,h.get? b=some o->h'.get? b=some o)->tn i h'
 item:∀(X:Cx),X.prog=P->X.w=w->X.K=K->X.calm=true->∀(i:Nat) (pins:List (Addr×Obj)) (s:Shared) (σ:St) (H:Hp) (E:Value->Shared->Prop),h7 X pins σ H s->(∀b∈fp,aq0 X pins H b)->tn i s.heap->J.go i H->
   wpAny (model P w) X.A (pyNext (.ref it)) (fun r s1=>∃u,r=some u/\
     wpAny (model P w) X.A (letOwnedTupleGo tg (.ref it) u) (fun _ s2=>∃x H',h7 X pins σ H' s2/\t7 x u/\J.yld i H x H'/\tn (i+1) s2.heap/\∀b∈fp,H' b=none) E s1) E s
 done:∀(X:Cx),X.prog=P->X.w=w->X.K=K->X.calm=true->∀(i:Nat) (pins:List (Addr×Obj)) (s:Shared) (σ:St) (H:Hp) (E:Value->Shared->Prop),h7 X pins σ H s->(∀b∈fp,aq0 X pins H b)->tn i s.heap->J.stop i H->
   wpAny (model P w) X.A (pyNext (.ref it)) (fun r s1=>r=none/\h7 X pins σ H s1) E s
 self:∀(A:Around) (i:Nat) (s:Shared) (Q:Value->Shared->Prop) (E:Value->Shared->Prop),tn i s.heap->Q (.ref it) s->wpAny (model P w) A (pyIter (.ref it)) Q E s
abbrev TI:=St->Hp->(It->Hp->Prop)->Prop
def PIE (X:Cx)(pins:List (Addr×Obj))(σ:St)(tg:Expr)(R:It->Hp->Prop)(itv:Value)(s2:Shared):Prop:=
 ∃(it:Addr) (fp:List Addr) (tn:Nat->Heap->Prop) (J:It) (H':Hp),itv= .ref it/\h7 X pins σ H' s2/\bg1 X.prog X.w X.K tg J fp it tn/\tn 0 s2.heap/\(∀b∈fp,aq0 X pins H' b)/\R J H'
def PI (X:Cx)(tg iter:Expr)(wi:TI):Prop:=
 ∀(pins:List (Addr×Obj)) (s:Shared) (σ:St) (H:Hp) (R:It->Hp->Prop),h7 X pins σ H s->wi σ H R->
  wpAny (model X.prog X.w) X.A (eval iter X.env) (fun v s1=>wpAny (model X.prog X.w) X.A (pyIter v) (PIE X pins σ tg R) X.xe s1) X.xe s
theorem cd7 {M:Model}{A:Around}{E:Value->Shared->Prop}{s:Shared}{tg:Expr}{it:Addr}{u:Value}{o:Obj}{n:String}{vs:Array Value}{Q:Unit->Shared->Prop}(ho:s.heap.get? it=some o)(hc:o.cls= .type n)(hd:o.data= .fields vs)
   (hn:["enumerate","zip","dict_itemiterator","dict_reverseitemiterator","odict_iterator","itertools.zip_longest","itertools.pairwise"].contains n=false) (hQ:Q () s):wpAny M A (letOwnedTupleGo tg (.ref it) u) Q E s:=by
 unfold letOwnedTupleGo
 cases tg<;>first
   |exact wpAny_pure hQ
   |(cases u<;>first
       |exact wpAny_pure hQ
       |(refine wpAny_bind (wpAny_load ho ?_)
         rw[hc,hd];show wpAny M A (if (["enumerate","zip","dict_itemiterator","dict_reverseitemiterator","odict_iterator","itertools.zip_longest","itertools.pairwise"].contains n&&vs[0]? ==some (rawInt _))=true then _ else _) Q E s;rw[if_neg (by intro h;rw[hn,Bool.false_and] at h;cases h)]
         exact wpAny_pure hQ))
def Itl (K:PySem.W.Frag)(a:Addr):It:=
 ⟨fun i H=>∃xs x,g9 K H a xs/\xs[i]? =some x,fun i H x H'=>H'=H/\∀xs,g9 K H a xs->xs[i]? =some x,fun i H=>∃xs,g9 K H a xs/\xs.length<=i⟩
def Itr (lo:Int)(n:Nat):It:=⟨fun i _=>i < n,fun i H x H'=>H'=H/\x= .int (lo+i),fun i _=>n<=i⟩
theorem ci5 {P:Program}{w:World}{K:PySem.W.Frag}{tg:Expr}(a it:Addr):bg1 P w K tg (Itl K a) [it] it (fun i h=>h.IsListIter it a i) where
 mem:=by simp
 obj:=fun i h st b hb=>by
   have e:b=it:=by simpa using hb
   subst e;obtain ⟨o,e,c,d⟩:=st;exact ⟨o,e,fun v z=>by rw[d] at z;cases z⟩
 keep:=fun i h h' st k=>st.at fun o e=>k it (by simp) o e
 item:=by
   intro X hP hw hK hc i pins s σ H E I hf st hg;subst hP hw hK;obtain ⟨xs,x,hq,hx⟩:=hg;obtain ⟨its,rv,p,hz⟩:=I.list hq;obtain ⟨u,hu,ru⟩:=rv.get hx;obtain ⟨f0,f1,f2,f3,f4,f5⟩:=hf it (by simp)
   refine wpAny_pyNext_list_item st p.isList (x:=u) (by simpa using hu) fun h' st' sb=> ?_
   have I1:h7 X pins σ H {s with heap:=h'}:=I.turned (t':=s.toks) (fun b o hb e=>(sb.2 b hb).trans e) f0 f1 f3 f4 f5;obtain ⟨o,e,c,d⟩:=id st';exact ⟨u,rfl,cd7 (s:={s with heap:=h'}) e c d (by decide) ⟨x,H,I1,ru,⟨rfl,fun ys hy=>by rw[I.list_inj hy hq];exact hx⟩,st',fun b hb=>(hf b hb).1⟩⟩
 done:=by
   intro X hP hw hK hc i pins s σ H E I hf st hg;subst hP hw hK;obtain ⟨xs,hq,hx⟩:=hg;obtain ⟨its,rv,p,hz⟩:=I.list hq;obtain ⟨f0,f1,f2,f3,f4,f5⟩:=hf it (by simp);have hl:=rv.length
   exact wpAny_pyNext_list_end (I.ok.hd hc) st p.isList (by simp;omega) fun h' eb=>⟨rfl,I.turned (t':=s.toks) (fun b o hb e=>eb b o hb e) f0 f1 f3 f4 f5⟩
 self:=fun _ _ _ _ _ st h=>wpAny_pyIter_listiter st h
theorem cd8 {P:Program}{w:World}{K:PySem.W.Frag}{tg:Expr}(it:Addr)(lo:Int)(n:Nat):bg1 P w K tg (Itr lo n) [it] it (fun i h=>IsRangeIter h it (lo+(i:Nat)*1) ((n:Int) - (i:Nat)) 1) where
 mem:=by simp
 obj:=fun i h st b hb=>by
   have e:b=it:=by simpa using hb
   subst e
   exact ⟨_,st,fun v z=>by
     have z':Data.fields _=Data.cell v:=z
     cases z'⟩
 keep:=fun i h h' st k=>k it (by simp) _ st
 item:=by
   intro X hP hw hK hc i pins s σ H E I hf st hg;subst hP hw hK;obtain ⟨f0,f1,f2,f3,f4,f5⟩:=hf it (by simp);have W:=Walks.range (prog:=X.prog) (w:=X.w) (I.ok.hd hc) it lo 1 n
   refine W.item i s _ _ hg st fun v h' tk hv st' kk=> ?_
   obtain ⟨t,rfl⟩:=hv;have I1:h7 X pins σ H {s with heap:=h',toks:=tk}:=I.turned (fun b o hb e=>kk b o (by simpa using hb) e) f0 f1 f3 f4 f5;refine ⟨_,rfl,cd7 (s:={s with heap:=h',toks:=tk}) (n:="range_iterator") st' rfl rfl (by decide) ⟨.int (lo+i),H,I1,⟨t,?_⟩,⟨rfl,rfl⟩,st',fun b hb=>(hf b hb).1⟩⟩;rw[Int.mul_one]
 done:=by
   intro X hP hw hK hc i pins s σ H E I hf st hg;subst hP hw hK;obtain ⟨f0,f1,f2,f3,f4,f5⟩:=hf it (by simp)
   exact wpAny_pyNext_range_end (I.ok.hd hc) st (by have:n<=i:=hg;omega) fun h' eb=>⟨rfl,I.turned (t':=s.toks) (fun b o hb e=>eb b o hb e) f0 f1 f3 f4 f5⟩
 self:=fun _ _ _ _ _ st h=>wpAny_pyIter_rangeiter st h
end L2
namespace L2
open PySem PySem.Spec PyProof.Rows
section
variable {X:Cx} {tg:Expr}
def dk2 (K:PySem.W.Frag)(tl:TE):TI:=fun σ H R=>tl σ H fun x H1=>∃a,x= .ref a/\(∃xs,g9 K H1 a xs)/\R (Itl K a) H1
theorem w4 {l:Expr}{tl:TE}(hl:PE X l tl):PI X tg l (dk2 X.K tl):=by
 intro pins s σ H R I h
 refine q9 (hl pins s σ H _ I h) fun v s1 ⟨x,H1,I1,r1,q1⟩=> ?_
 obtain ⟨a,e,⟨xs,hq⟩,q⟩:=q1;subst e;cases r1;obtain ⟨its,rv,p,hz⟩:=I1.list hq;refine wpAny_pyIter_list p.isList ?_;refine ⟨s1.heap.objs.size,[s1.heap.objs.size],_,_,H1,rfl,I1.kept (t':=s1.toks) fun b o e=>Heap.get?_push_of_some _ e,ci5 a _,⟨_,Heap.get?_push_size _ rfl,rfl,rfl⟩,fun b hb=> ?_,q⟩
 have e:b=s1.heap.objs.size:=by simpa using hb
 subst e;exact I1.fpOk (dr9 _) (I1.hok.fresh (dr9 _))
theorem bq1 {pins:List (Addr×Obj)}{σ:St}{H:Hp}{s:Shared}{R:It->Hp->Prop}{E:Value->Shared->Prop}{lo hi:Int}{t u v:Tok}{tk:Nat}(I:h7 X pins σ H s)(h1: -(2^62)<=lo)(h2:lo < 2^62)(h3: -(2^62)<=hi)(h4:hi < 2^62)
   (q:R (Itr lo (hi - lo).toNat) H):wpAny (model X.prog X.w) X.A (pyIter (.ref s.heap.objs.size)) (PIE X pins σ tg R) E {s with heap:=s.heap.push {cls:= .type "range",data:= .fields #[.int lo t,.int hi u,.int 1 v]},toks:=tk}:=by
 refine wpAny_pyIter_range (IsRange.new ..) (small_one h1 h2 h3 h4) ?_
 have I1:h7 X pins σ H {s with heap:=s.heap.push {cls:= .type "range",data:= .fields #[.int lo t,.int hi u,.int 1 v]},toks:=tk}:=I.kept fun b o e=>Heap.get?_push_of_some _ e
 refine ⟨(s.heap.push {cls:= .type "range",data:= .fields #[.int lo t,.int hi u,.int 1 v]}).objs.size,[(s.heap.push {cls:= .type "range",data:= .fields #[.int lo t,.int hi u,.int 1 v]}).objs.size],_,_,H,rfl,
   I1.kept (t':=tk) fun b o e=>Heap.get?_push_of_some _ e,cd8 _ lo (hi - lo).toNat,?_,fun b hb=> ?_,q⟩
 · have e1:lo+((0:Nat):Int)*1=lo:=by simp
   have e2:(((hi - lo).toNat:Nat):Int) - ((0:Nat):Int)=Builtin.Range.rangeSize lo hi 1:=by rw[rangeSize_one];split<;>omega
   show IsRangeIter _ _ (lo+((0:Nat):Int)*1) ((((hi - lo).toNat:Nat):Int) - ((0:Nat):Int)) 1;rw[e1,e2];exact Heap.get?_push_size _ rfl
 · have e:b=(s.heap.push {cls:= .type "range",data:= .fields #[.int lo t,.int hi u,.int 1 v]}).objs.size:=by simpa using hb
   subst e;exact I1.fpOk (dr9 _) (I1.hok.fresh (dr9 _))
def dk3 (ta:TA):TI:=fun σ H R=>ta σ H fun vs H1=>∃j:Int,vs=[.int j]/\ -(2^62)<=j/\j < 2^62/\R (Itr 0 j.toNat) H1
def dk4 (ta:TA):TI:=fun σ H R=>ta σ H fun vs H1=>∃i j:Int,vs=[.int i,.int j]/\(-(2^62)<=i/\i < 2^62/\ -(2^62)<=j/\j < 2^62)/\R (Itr i (j - i).toNat) H1
theorem V8 {a:Expr}{ta:TA}{p pos:Pos}(hg:Gl X "range")(hm:X.mg "range"=none)(ha:PA X [a] ta)(hs:starEach [a] X.env=[(false,eval a X.env)]:=by rfl):PI X tg (.Call (.Name "range" p) [a] [] pos) (dk3 ta):=by
 intro pins s σ H R I h;refine Call_ (aa7 I hg hm boot_range (PyProof.Rows.callWith_type1 (q9 (ha pos pins s σ H _ I h) fun us s1 ⟨vs,H1,I1,r1,q1⟩=> ?_) hs rfl));obtain ⟨j,e,q1,q2,q⟩:=q1;subst e
 cases r1 with
 |cons r rr=>
  cases rr;obtain ⟨t,rfl⟩:=r;exact call_range_1 (bq1 I1 (by omega) (by omega) q1 q2 (by simpa using q))
theorem R6 {a b:Expr}{ta:TA}{p pos:Pos}(hg:Gl X "range")(hm:X.mg "range"=none)(ha:PA X [a,b] ta)(hs:starEach [a,b] X.env=[(false,eval a X.env),(false,eval b X.env)]:=by rfl)(hs2:starEach [b] X.env=[(false,eval b X.env)]:=by rfl):
   PI X tg (.Call (.Name "range" p) [a,b] [] pos) (dk4 ta):=by
 intro pins s σ H R I h;refine Call_ (aa7 I hg hm boot_range (PyProof.Rows.callWith_type1 (q9 (ha pos pins s σ H _ I h) fun us s1 ⟨vs,H1,I1,r1,q1⟩=> ?_) (by rw[hs,hs2]) (by rw[hs2];rfl)));obtain ⟨i,j,e,⟨q1,q2,q3,q4⟩,q⟩:=q1;subst e
 cases r1 with
 |cons r rr=>
  cases rr with
  |cons r' rr=>
   cases rr;obtain ⟨t,rfl⟩:=r;obtain ⟨t',rfl⟩:=r';exact call_range_2 (bq1 I1 q1 q2 q3 q4 q)
def do3 (wi:TI)(g:TG)(tb:TS):TS:=fun D σ H=>wi σ H fun J H1=>∃W:Nat->Nat->St->Hp->Prop,(∃m,W 0 m σ H1)/\∀i m σ H,W i m σ H->
 (J.stop i H/\D.nx σ H)\/(J.go i H/\∃N:St->Hp->Prop,(∀σ' H',N σ' H'->∃m',m' < m/\W (i+1) m' σ' H')/\∀x H',J.yld i H x H'->g x σ H' fun σ2 H2=>tb {D with nx:=N,ct:=N,bk:=D.nx} σ2 H2)
def ae6 (fp:List Addr)(h:Heap):List (Addr×Obj):=fp.filterMap fun b=>(h.get? b).map fun o=>(b,o)
theorem ac7 {fp:List Addr}{h:Heap}{b:Addr}{o:Obj}(hb:b∈fp)(e:h.get? b=some o):(b,o)∈ae6 fp h:=List.mem_filterMap.mpr ⟨b,hb,by rw[e];rfl⟩
theorem bj3 {fp:List Addr}{h:Heap}{p:Addr×Obj}(hp:p∈ae6 fp h):p.1∈fp/\h.get? p.1=some p.2:=by
 obtain ⟨b,hb,e⟩:=List.mem_filterMap.mp hp
 cases q:h.get? b with
 |none=>rw[q] at e;cases e
 |some o=>
  rw[q] at e;have e':(b,o)=p:=Option.some.inj e;subst e';exact ⟨hb,q⟩
theorem h7.pinned {pins:List (Addr×Obj)}{σ:St}{H:Hp}{s:Shared}{fp:List Addr}(I:h7 X pins σ H s)(hf:∀b∈fp,aq0 X pins H b)(ho:∀b∈fp,∃o,s.heap.get? b=some o/\∀v,o.data≠.cell v):h7 X (pins++ae6 fp s.heap) σ H s:=
 I.pins_of fun p hp=>(dt1.mp hp).elim (fun z=>I.pin p (du5 _ z)) fun z=>by
   obtain ⟨hb,e⟩:=bj3 z;obtain ⟨f0,f1,f2,_⟩:=hf p.1 hb;obtain ⟨o,e',d⟩:=ho p.1 hb;rw[e] at e';cases e';exact ⟨e,f0,f1,f2,d⟩
theorem h7.unpinned {pins pl:List (Addr×Obj)}{σ:St}{H:Hp}{s:Shared}(I:h7 X (pins++pl) σ H s):h7 X pins σ H s:=I.pins_of fun p hp=>I.pin p (du5 _ (dx3 _ hp))
theorem n9 {iter:Expr}{body:List Stmt}{wi:TI}{g:TG}{tb:TS}{pos:Pos}(hp:PassesOwn (model X.prog X.w) X.A X.env X.xe)(hc:X.calm=true)(hi:PI X tg iter wi)(hg:PG X tg g)(hb:PSs X body tb)
   (hs:∀x,foldedSetIterable iter X.env x=pure x:=by intro _;rfl):PS X (.For tg iter body [] pos) (do3 wi g tb):=by
 intro pins s σ H D I h;refine wpAny_For (q9 (hi pins s σ H _ I h) fun v s1 h1=>q9 h1 fun itv s2 h2=> ?_) hs;obtain ⟨it,fp,tn,J,H2,e,I2,T,st2,f2,W,⟨m0,w0⟩,turn⟩:=h2;subst e
 have stat:∀{H':Hp},(∀b∈fp,H' b=none)->∀b∈fp,aq0 X pins H' b:=fun hn b hb=>⟨hn b hb,(f2 b hb).2⟩
 refine codeAny_forLoop_any (fun n s'=>∃i σ' H',h7 X pins σ' H' s'/\tn i s'.heap/\(∀b∈fp,H' b=none)/\W i n σ' H') ?_ m0 ⟨0,σ,H2,I2,st2,fun b hb=>(f2 b hb).1,w0⟩;rintro n s3 ⟨i,σ3,H3,I3,st3,fr3,w3⟩
 rcases turn i n σ3 H3 w3 with ⟨stop,qn⟩|⟨go,N,hN,step⟩
 · refine wpAny_passesOwn hp (q9 (T.done X rfl rfl rfl hc i pins s3 σ3 H3 X.xe I3 (stat fr3) st3 stop) fun r s4 ⟨hr,I4⟩=> ?_);subst hr;exact wpAny_execs_nil ⟨σ3,H3,I4,qn⟩
 · refine wpAny_passesOwn hp (q9 (T.item X rfl rfl rfl hc i pins s3 σ3 H3 X.xe I3 (stat fr3) st3 go) fun r s4 ⟨u,hr,h4⟩=> ?_);subst hr;refine wpAny_passesOwn hp (q9 h4 fun _ s5 ⟨x,H5,I5,r5,y5,st5,fr5⟩=> ?_);have I5':=I5.pinned (stat fr5) (T.obj _ _ st5);refine wpAny_passesOwn hp (q9 (hg _ s5 σ3 H5 x u _ I5' r5 (step x H5 y5)) fun _ s6 ⟨σ6,H6,I6,q6⟩=> ?_);refine wpAny_passesOwn hp (q9 (hb _ s6 σ6 H6 _ I6 q6) fun f s7 q7=> ?_)
   have again:∀{σ7:St} {H7:Hp},h7 X (pins++ae6 fp s5.heap) σ7 H7 s7->N σ7 H7->∃m,m < n/\∃i σ' H',h7 X pins σ' H' s7/\tn i s7.heap/\(∀b∈fp,H' b=none)/\W i m σ' H':=fun {σ7 H7} I7 n7=>by
     obtain ⟨m',hm,w7⟩:=hN σ7 H7 n7;refine ⟨m',hm,i+1,σ7,H7,I7.unpinned,T.keep _ _ _ st5 fun b hb o e=>(I7.pin (b,o) (du5 _ (du5 _ (ac7 hb e)))).1,fun b hb=> ?_,w7⟩;obtain ⟨o,e,d⟩:=T.obj _ _ st5 b hb;exact (I7.pin (b,o) (du5 _ (du5 _ (ac7 hb e)))).2.1
   cases f with
   |next=>obtain ⟨σ7,H7,I7,n7⟩:=q7;exact again I7 n7
   |cont=>obtain ⟨σ7,H7,I7,n7⟩:=q7;exact again I7 n7
   |brk=>obtain ⟨σ7,H7,I7,q7⟩:=q7;exact ⟨σ7,H7,I7.unpinned,q7⟩
   |ret v=>obtain ⟨x7,σ7,H7,I7,r7,q7⟩:=q7;exact ⟨x7,σ7,H7,I7.unpinned,r7,q7⟩
end
theorem A7 {K:PySem.W.Frag}{a:Addr}{xs:List V}{g:TG}{tb:TS}{D:ae2}{σ:St}{H:Hp}(Pv:Nat->St->Hp->Prop)(h0:Pv 0 σ H)(hl:∀i σ H,i<=xs.length->Pv i σ H->g9 K H a xs)
   (hs:∀i x σ H,xs[i]? =some x->Pv i σ H->g x σ H fun σ2 H2=>tb {D with nx:=Pv (i+1),ct:=Pv (i+1),bk:=D.nx} σ2 H2) (hd:∀σ H,Pv xs.length σ H->D.nx σ H):
   ∃W:Nat->Nat->St->Hp->Prop,(∃m,W 0 m σ H)/\∀i m σ H,W i m σ H->
    ((Itl K a).stop i H/\D.nx σ H)\/((Itl K a).go i H/\∃N:St->Hp->Prop,(∀σ' H',N σ' H'->∃m',m' < m/\W (i+1) m' σ' H')/\∀x H',(Itl K a).yld i H x H'->g x σ H' fun σ2 H2=>tb {D with nx:=N,ct:=N,bk:=D.nx} σ2 H2):=by
 refine ⟨fun i m σ H=>m=xs.length - i/\i<=xs.length/\Pv i σ H,⟨xs.length,by simp,du2 _,h0⟩,?_⟩;rintro i m σ H ⟨rfl,hi,p⟩;have q:=hl i σ H hi p
 by_cases hlt:i < xs.length
 · refine .inr ⟨⟨xs,xs[i],q,by simp [hlt]⟩,Pv (i+1),fun σ' H' p'=>⟨xs.length - (i+1),by omega,rfl,hlt,p'⟩,fun x H' y=> ?_⟩;obtain ⟨e,y⟩:=y;subst e;exact hs i x σ _ (y xs q) p
 · have e:i=xs.length:=by omega
   subst e;exact .inl ⟨⟨xs,q,dr9 _⟩,hd σ H p⟩
theorem K3 {lo:Int}{n:Nat}{g:TG}{tb:TS}{D:ae2}{σ:St}{H:Hp}(Pv:Nat->St->Hp->Prop)(h0:Pv 0 σ H)
   (hs:∀i σ H,i < n->Pv i σ H->g (.int (lo+i)) σ H fun σ2 H2=>tb {D with nx:=Pv (i+1),ct:=Pv (i+1),bk:=D.nx} σ2 H2) (hd:∀σ H,Pv n σ H->D.nx σ H):
   ∃W:Nat->Nat->St->Hp->Prop,(∃m,W 0 m σ H)/\∀i m σ H,W i m σ H->
    ((Itr lo n).stop i H/\D.nx σ H)\/((Itr lo n).go i H/\∃N:St->Hp->Prop,(∀σ' H',N σ' H'->∃m',m' < m/\W (i+1) m' σ' H')/\∀x H',(Itr lo n).yld i H x H'->g x σ H' fun σ2 H2=>tb {D with nx:=N,ct:=N,bk:=D.nx} σ2 H2):=by
 refine ⟨fun i m σ H=>m=n - i/\i<=n/\Pv i σ H,⟨n,by simp,du2 _,h0⟩,?_⟩;rintro i m σ H ⟨rfl,hi,p⟩
 by_cases hlt:i < n
 · refine .inr ⟨hlt,Pv (i+1),fun σ' H' p'=>⟨n - (i+1),by omega,rfl,hlt,p'⟩,fun x H' y=> ?_⟩;obtain ⟨e,y⟩:=y;subst e y;exact hs i σ _ hlt p
 · have e:i=n:=by omega
   subst e;exact .inl ⟨dr9 _,hd σ H p⟩
theorem ay4 {c:TT}{tb:TS}{D:ae2}{σ:St}{H:Hp}(Pv:St->Hp->Prop)(μ:St->Hp->Nat)(h0:Pv σ H)
   (hs:∀σ H,Pv σ H->c σ H fun b H1=>if b=true then tb {D with nx:=fun σ' H'=>Pv σ' H'/\μ σ' H' < μ σ H,ct:=fun σ' H'=>Pv σ' H'/\μ σ' H' < μ σ H,bk:=D.nx} σ H1 else D.nx σ H1)
   (mono:∀σ H Q Q',(∀b H1,Q b H1->Q' b H1)->c σ H Q->c σ H Q'):ci4 c tb D σ H:=by
 refine ⟨fun m σ H=>m=μ σ H/\Pv σ H,⟨_,rfl,h0⟩,?_⟩;rintro m σ H ⟨rfl,p⟩;refine mono σ H _ _ (fun b H1 q=> ?_) (hs σ H p)
 cases b with
 |true=>exact ⟨_,fun σ' H' ⟨p',l⟩=>⟨_,l,rfl,p'⟩,q⟩
 |false=>exact q
end L2
namespace L2
open PySem PySem.Spec PyProof.Rows
abbrev R2:=V->V->Hp->VK->Prop
def O6 (X:Cx)(f:Value->Value->Sem Value)(r:R2):Prop:=
 ∀(pins:List (Addr×Obj)) (s:Shared) (σ:St) (H:Hp) (x y:V) (v u:Value) (Q:VK),h7 X pins σ H s->t7 x v->t7 y u->r x y H Q->
  wpAny (model X.prog X.w) X.A (f v u) (EP X pins σ Q) X.xe s
def UnR (X:Cx)(f:Value->Sem Value)(r:V->Hp->VK->Prop):Prop:=
 ∀(pins:List (Addr×Obj)) (s:Shared) (σ:St) (H:Hp) (x:V) (v:Value) (Q:VK),h7 X pins σ H s->t7 x v->r x H Q->
  wpAny (model X.prog X.w) X.A (f v) (EP X pins σ Q) X.xe s
def R4 (X:Cx)(f:Value)(r:List V->Hp->VK->Prop):Prop:=
 ∀(pins:List (Addr×Obj)) (s:Shared) (σ:St) (H:Hp) (xs:List V) (us:List Value) (Q:VK),h7 X pins σ H s->o3 xs us->r xs H Q->
  wpAny (model X.prog X.w) X.A (call f us) (EP X pins σ Q) X.xe s
def tOp (r:R2)(ta tb:TE):TE:=fun σ H Q=>ta σ H fun x H1=>tb σ H1 fun y H2=>r x y H2 Q
def tUn (r:V->Hp->VK->Prop)(ta:TE):TE:=fun σ H Q=>ta σ H fun x H1=>r x H1 Q
def rI (C:Int->Int->Prop)(g:Int->Int->V):R2:=fun x y H Q=>∃i j,x= .int i/\y= .int j/\C i j/\Q (g i j) H
def rI0 (g:Int->Int->V):R2:=fun x y H Q=>∃i j,x= .int i/\y= .int j/\Q (g i j) H
def rU (g:Int->V):V->Hp->VK->Prop:=fun x H Q=>∃i,x= .int i/\Q (g i) H
section
variable {X:Cx} {a b c:Expr} {ta tb tc:TE} {pos:Pos}
theorem cq1 (ha:PE X a ta)(hb:PE X b tb){pins:List (Addr×Obj)}{s:Shared}{σ:St}{H:Hp}{R:V->V->Hp->Prop}(I:h7 X pins σ H s)
   (h:ta σ H fun x H1=>tb σ H1 fun y H2=>R x y H2) {Q:Value->Shared->Prop} {f:Value->Value->Sem Value}
   (hf:∀v u s2 x y H2,h7 X pins σ H2 s2->t7 x v->t7 y u->R x y H2->wpAny (model X.prog X.w) X.A (f v u) Q X.xe s2):
   wpAny (model X.prog X.w) X.A (eval a X.env) (fun v s₁=>wpAny (model X.prog X.w) X.A (eval b X.env) (fun u s₂=>wpAny (model X.prog X.w) X.A (f v u) Q X.xe s₂) X.xe s₁) X.xe s:=by
 refine q9 (ha pins s σ H _ I h) fun v s1 ⟨x,H1,I1,r1,q1⟩=> ?_
 refine q9 (hb pins s1 σ H1 _ I1 q1) fun u s2 ⟨y,H2,I2,r2,q2⟩=> ?_
 exact hf v u s2 x y H2 I2 r1 r2 q2
theorem n5 {op:Operator}{r:R2}(ho:O6 X (binaryOp op) r)(ha:PE X a ta)(hb:PE X b tb):PE X (.BinOp a op b pos) (tOp r ta tb):=by
 intro pins s σ H Q I h;exact wpAny_BinOp (cq1 ha hb I h fun v u s2 x y H2 I2 rx ry q=>ho pins s2 σ H2 x y v u Q I2 rx ry q)
theorem dk5 {op:UnaryOp}{r:V->Hp->VK->Prop}(ho:UnR X (unaryOp op) r)(ha:PE X a ta):PE X (.UnaryOp op a pos) (tUn r ta):=by
 intro pins s σ H Q I h;exact UnaryOp_ (q9 (ha pins s σ H _ I h) fun v s1 ⟨x,H1,I1,r1,q1⟩=>ho pins s1 σ H1 x v Q I1 r1 q1)
theorem opI {f:Value->Value->Sem Value}{C:Int->Int->Prop}{g:Int->Int->Int}
   (rule:∀(i j:Int) (t u:Tok) (s:Shared) (Q:Value->Shared->Prop) (E:Value->Shared->Prop),C i j->Q (.int (g i j) s.toks) {s with toks:=s.toks+1}->wpAny (model X.prog X.w) X.A (f (.int i t) (.int j u)) Q E s):
   O6 X f (rI C fun i j=> .int (g i j)):=by
 intro pins s σ H x y v u Q I rx ry h;obtain ⟨i,j,rfl,rfl,hc,q⟩:=h;obtain ⟨t,rfl⟩:=rx;obtain ⟨t',rfl⟩:=ry;exact rule i j t t' s _ _ hc ⟨.int (g i j),H,I.tok _,⟨_,rfl⟩,q⟩
theorem df3 {f:Value->Value->Sem Value}{g:Int->Int->Int}
   (rule:∀(i j:Int) (t u:Tok) (s:Shared) (Q:Value->Shared->Prop) (E:Value->Shared->Prop),Q (.int (g i j) s.toks) {s with toks:=s.toks+1}->wpAny (model X.prog X.w) X.A (f (.int i t) (.int j u)) Q E s):
   O6 X f (rI0 fun i j=> .int (g i j)):=by
 intro pins s σ H x y v u Q I rx ry h;obtain ⟨i,j,rfl,rfl,q⟩:=h;obtain ⟨t,rfl⟩:=rx;obtain ⟨t',rfl⟩:=ry;exact rule i j t t' s _ _ ⟨.int (g i j),H,I.tok _,⟨_,rfl⟩,q⟩
theorem cd9 {f:Value->Value->Sem Value}{g:Int->Int->Bool}
   (rule:∀(i j:Int) (t u:Tok) (s:Shared) (Q:Value->Shared->Prop) (E:Value->Shared->Prop),Q (.bool (g i j)) s->wpAny (model X.prog X.w) X.A (f (.int i t) (.int j u)) Q E s):
   O6 X f (rI0 fun i j=> .bl (g i j)):=by
 intro pins s σ H x y v u Q I rx ry h;obtain ⟨i,j,rfl,rfl,q⟩:=h;obtain ⟨t,rfl⟩:=rx;obtain ⟨t',rfl⟩:=ry;exact rule i j t t' s _ _ ⟨.bl (g i j),H,I,rfl,q⟩
def do4 (i j:Int):Prop:=0 < j/\j < 1073741824
def df4 (i j:Int):Prop:=0<=j/\j<=1000000/\i.natAbs < 2^64
def cq2 (i j:Int):Prop:=(-(2^64) < i/\i < 2^64)\/(-(2^64) < j/\j < 2^64)
theorem cq2.ok {i j:Int}(h:cq2 i j):IntMulOk i j:=by
 rcases h with ⟨h1,h2⟩|⟨h1,h2⟩
 · exact .of_left (intBits_le_64 h1 h2)
 · exact .of_right (intBits_le_64 h1 h2)
theorem E9:O6 X (binaryOp .Add) (rI0 fun i j=> .int (i+j)):=df3 fun _ _ _ _ _ _ _ q=>add_int q
theorem bq2:O6 X (binaryOp .Sub) (rI0 fun i j=> .int (i - j)):=df3 fun _ _ _ _ _ _ _ q=>sub_int q
theorem N7:O6 X (binaryOp .Mult) (rI cq2 fun i j=> .int (i*j)):=opI fun _ _ _ _ _ _ _ hc q=>mul_int q hc.ok
theorem cy3:O6 X (binaryOp .FloorDiv) (rI do4 fun i j=> .int (i/j)):=opI fun i j _ _ _ _ _ hc q=>by
 have h1:(0:Int) < j:=hc.1;have h2:j < 1073741824:=hc.2;exact floordiv_int (by omega) (by rw[ek3 i (by omega)];exact q) (.inl (PyProof.noPylong_small (by omega)))
theorem R7:O6 X (binaryOp .Mod) (rI (fun _ j=>0 < j) fun i j=> .int (i%j)):=opI fun i j _ _ _ _ _ hc q=>by
 have h1:(0:Int) < j:=hc;exact mod_int' (by omega) (by rw[Int.fmod_eq_emod_of_nonneg i (by omega)];exact q)
theorem df5:O6 X (binaryOp .Pow) (rI df4 fun i j=> .int (i^j.toNat)):=opI fun _ _ _ _ _ _ _ hc q=>pow_int_small hc.1 hc.2.1 hc.2.2 q
theorem unI {f:Value->Sem Value}{g:Int->Int}
   (rule:∀(i:Int) (t:Tok) (s:Shared) (Q:Value->Shared->Prop) (E:Value->Shared->Prop),Q (.int (g i) s.toks) {s with toks:=s.toks+1}->wpAny (model X.prog X.w) X.A (f (.int i t)) Q E s):
   UnR X f (rU fun i=> .int (g i)):=by
 intro pins s σ H x v Q I rx h;obtain ⟨i,rfl,q⟩:=h;obtain ⟨t,rfl⟩:=rx;exact rule i t s _ _ ⟨.int (g i),H,I.tok _,⟨_,rfl⟩,q⟩
theorem df6:UnR X (unaryOp .USub) (rU fun i=> .int (-i)):=unI fun _ _ _ _ _ q=>neg_int q
end
def df7:V->V->Bool
 | .non,.non=>true| .non,.int _=>true| .int _,.non=>true| .non,.bl _=>true| .bl _,.non=>true| .non,.str _=>true| .str _,.non=>true
 | .int _,.int _=>true| .bl _,.bl _=>true| .str _,.str _=>true| .byt _,.byt _=>true
 | .int _,.str _=>true| .str _,.int _=>true| .bl _,.str _=>true| .str _,.bl _=>true
 |_,_=>false
def rEq:R2:=fun x y H Q=>df7 x y=true/\Q (.bl (decide (x=y))) H
def rNe:R2:=fun x y H Q=>df7 x y=true/\Q (.bl (!decide (x=y))) H
theorem bz9 {i j:Int}:decide (V.int i=V.int j)=(i==j):=by
 rw[ee0];simp
theorem ci6 {i j:Bool}:decide (V.bl i=V.bl j)=(i==j):=by
 rw[ee0];simp
theorem ca0 {i j:Str}:decide (V.str i=V.str j)=(i==j):=by
 rw[ee0];simp
theorem ca1 {i j:Array UInt8}:decide (V.byt i=V.byt j)=(i.toList==j.toList):=by
 rw[ee0];cases i;cases j;simp
section
variable {X:Cx} {a b c:Expr} {ta tb tc:TE} {pos:Pos}
theorem A0 {pins:List (Addr×Obj)}{σ:St}{H:Hp}{s:Shared}{Q:VK}{k k':Bool}(I:h7 X pins σ H s)(q:Q (.bl k) H)(e:k=k'):EP X pins σ Q (.bool k') s:=by
 subst e;exact ⟨.bl k,H,I,rfl,q⟩
theorem U5:O6 X (compareOp .Eq) rEq:=by
 intro pins s σ H x y v u Q I rx ry h;obtain ⟨hs,q⟩:=h
 cases x with
 |non=>
  cases rx
  cases y with
  |non=>cases ry;exact PySem.EqNone.eq_none_none (A0 I q (by simp))
  |bl j=>cases ry;exact PySem.EqNone.eq_none_bool (A0 I q (by simp))
  |int j=>obtain ⟨t',rfl⟩:=ry;exact PySem.EqNone.eq_none_int (A0 I q (by simp))
  |str j=>obtain ⟨t',rfl⟩:=ry;exact PySem.EqNone.eq_none_str (A0 I q (by simp))
  |_=>exact absurd (show false=true from hs) du3
 |bl i=>
  cases rx
  cases y with
  |non=>cases ry;exact PySem.EqNone.eq_bool_none (A0 I q (by simp))
  |bl j=>cases ry;exact eq_bool (A0 I q ci6)
  |str j=>obtain ⟨t',rfl⟩:=ry;exact PySem.EqMixed.eq_bool_str (A0 I q (by simp))
  |_=>exact absurd (show false=true from hs) du3
 |int i=>
  obtain ⟨t,rfl⟩:=rx
  cases y with
  |non=>cases ry;exact PySem.EqNone.eq_int_none (A0 I q (by simp))
  |int j=>obtain ⟨t',rfl⟩:=ry;exact eq_int (A0 I q bz9)
  |str j=>obtain ⟨t',rfl⟩:=ry;exact PySem.EqMixed.eq_int_str (A0 I q (by simp))
  |_=>exact absurd (show false=true from hs) du3
 |str i=>
  obtain ⟨t,rfl⟩:=rx
  cases y with
  |non=>cases ry;exact PySem.EqNone.eq_str_none (A0 I q (by simp))
  |bl j=>cases ry;exact PySem.EqMixed.eq_str_bool (A0 I q (by simp))
  |int j=>obtain ⟨t',rfl⟩:=ry;exact PySem.EqMixed.eq_str_int (A0 I q (by simp))
  |str j=>obtain ⟨t',rfl⟩:=ry;exact eq_str (A0 I q ca0)
  |_=>exact absurd (show false=true from hs) du3
 |byt i=>
  obtain ⟨t,rfl⟩:=rx
  cases y with
  |byt j=>obtain ⟨t',rfl⟩:=ry;exact PySem.W.eq_bytes (A0 I q ca1)
  |_=>exact absurd (show false=true from hs) du3
 |_=>cases y<;>exact absurd (show false=true from hs) du3
theorem bo2:O6 X (compareOp .NotEq) rNe:=by
 intro pins s σ H x y v u Q I rx ry h;obtain ⟨hs,q⟩:=h
 cases x with
 |non=>
  cases rx
  cases y with
  |non=>cases ry;exact PySem.EqNone.ne_none_none (A0 I q (by simp))
  |bl j=>cases ry;exact PySem.EqNone.ne_none_bool (A0 I q (by simp))
  |int j=>obtain ⟨t',rfl⟩:=ry;exact PySem.EqNone.ne_none_int (A0 I q (by simp))
  |str j=>obtain ⟨t',rfl⟩:=ry;exact PySem.EqNone.ne_none_str (A0 I q (by simp))
  |_=>exact absurd (show false=true from hs) du3
 |bl i=>
  cases rx
  cases y with
  |non=>cases ry;exact PySem.EqNone.ne_bool_none (A0 I q (by simp))
  |bl j=>cases ry;exact ne_bool (A0 I q (congrArg not ci6))
  |str j=>obtain ⟨t',rfl⟩:=ry;exact PySem.EqMixed.ne_bool_str (A0 I q (by simp))
  |_=>exact absurd (show false=true from hs) du3
 |int i=>
  obtain ⟨t,rfl⟩:=rx
  cases y with
  |non=>cases ry;exact PySem.EqNone.ne_int_none (A0 I q (by simp))
  |int j=>obtain ⟨t',rfl⟩:=ry;exact ne_int (A0 I q (congrArg not bz9))
  |str j=>obtain ⟨t',rfl⟩:=ry;exact PySem.EqMixed.ne_int_str (A0 I q (by simp))
  |_=>exact absurd (show false=true from hs) du3
 |str i=>
  obtain ⟨t,rfl⟩:=rx
  cases y with
  |non=>cases ry;exact PySem.EqNone.ne_str_none (A0 I q (by simp))
  |bl j=>cases ry;exact PySem.EqMixed.ne_str_bool (A0 I q (by simp))
  |int j=>obtain ⟨t',rfl⟩:=ry;exact PySem.EqMixed.ne_str_int (A0 I q (by simp))
  |str j=>obtain ⟨t',rfl⟩:=ry;exact ne_str (A0 I q (congrArg not ca0))
  |_=>exact absurd (show false=true from hs) du3
 |byt i=>
  obtain ⟨t,rfl⟩:=rx
  cases y with
  |byt j=>obtain ⟨t',rfl⟩:=ry;exact PySem.W.ne_bytes (A0 I q (congrArg not ca1))
  |_=>exact absurd (show false=true from hs) du3
 |_=>cases y<;>exact absurd (show false=true from hs) du3
theorem bb7:O6 X (compareOp .Lt) (rI0 fun i j=> .bl (decide (i < j))):=cd9 fun _ _ _ _ _ _ _ q=>lt_int q
theorem bo3:O6 X (compareOp .LtE) (rI0 fun i j=> .bl (decide (i<=j))):=cd9 fun _ _ _ _ _ _ _ q=>le_int q
theorem bo4:O6 X (compareOp .Gt) (rI0 fun i j=> .bl (decide (j < i))):=cd9 fun _ _ _ _ _ _ _ q=>gt_int q
theorem cw7:O6 X (compareOp .GtE) (rI0 fun i j=> .bl (decide (j<=i))):=cd9 fun _ _ _ _ _ _ _ q=>ge_int q
theorem w5 (b:Expr){op:CmpOp}(h:op≠.In:=by decide)(h2:op≠.NotIn:=by decide):behindInMarks op b=false:=by
 have e1:(op==CmpOp.In)=false:=by cases op<;>first|rfl|exact absurd rfl h
 have e2:(op==CmpOp.NotIn)=false:=by cases op<;>first|rfl|exact absurd rfl h2
 cases b<;>simp [behindInMarks,e1,e2]
theorem ca2 {op:CmpOp}{r:R2}(ho:O6 X (compareOp op) r)(ha:PE X a ta)(hb:PE X b tb)(hm:behindInMarks op b=false):PE X (.Compare a [op] [b] pos) (tOp r ta tb):=by
 intro pins s σ H Q I h;exact wpAny_Compare1 (cq1 ha hb I h fun v u s2 x y H2 I2 rx ry q=>ho pins s2 σ H2 x y v u Q I2 rx ry q) hm
def dk6 (t:TE):TT:=fun σ H Q=>t σ H fun x H'=>∃k,x= .bl k/\Q k H'
theorem p8 {op:CmpOp}{r:R2}(ho:O6 X (compareOp op) r)(ha:PE X a ta)(hb:PE X b tb)(hm:behindInMarks op b=false):PT X (.Compare a [op] [b] pos) (dk6 (tOp r ta tb)):=by
 intro pins s σ H Q I h
 refine wpAny_isTrue_Compare1 (q9 (ha pins s σ H _ I h) fun v s1 ⟨x,H1,I1,r1,q1⟩=>q9 (hb pins s1 σ H1 _ I1 q1) fun u s2 ⟨y,H2,I2,r2,q2⟩=>
   q9 (ho pins s2 σ H2 x y v u _ I2 r1 r2 q2) fun c s3 ⟨z,H3,I3,r3,k,e,q3⟩=> ?_) hm
 subst e;cases r3;exact wpAny_truthy_bool ⟨H3,I3,q3⟩
theorem bq3:(sizeLine:Nat) < 2^63:=by rw[sizeLine_eq];decide
theorem U6 {x:V}{us:List Value}(r:o3 [x] us):∃u,us=[u]/\t7 x u:=by
 cases r with
 |cons r1 r2=>cases r2;exact ⟨_,rfl,r1⟩
theorem bo5 {x y:V}{us:List Value}(r:o3 [x,y] us):∃u w',us=[u,w']/\t7 x u/\t7 y w':=by
 cases r with
 |cons r1 r2=>
  cases r2 with
  |cons r3 r4=>cases r4;exact ⟨_,_,rfl,r1,r3⟩
theorem ci7 (hc:X.calm=true):R4 X (.builtin "max") (fun xs H Q=>∃i j,xs=[.int i,.int j]/\Q (.int (if j > i then j else i)) H):=by
 intro pins s σ H xs us Q I r h;obtain ⟨i,j,rfl,q⟩:=h;obtain ⟨u,w',rfl,⟨t,rfl⟩,⟨t',rfl⟩⟩:=bo5 r
 refine max_two_ints (I.ok.hd hc) fun h' tk k=>⟨_,H,I.kept k,?_,q⟩
 by_cases hj:j > i
 · rw[if_pos hj,if_pos hj];exact ⟨_,rfl⟩
 · rw[if_neg hj,if_neg hj];exact ⟨_,rfl⟩
theorem ci8 (hc:X.calm=true):R4 X (.builtin "min") (fun xs H Q=>∃i j,xs=[.int i,.int j]/\Q (.int (if j < i then j else i)) H):=by
 intro pins s σ H xs us Q I r h;obtain ⟨i,j,rfl,q⟩:=h;obtain ⟨u,w',rfl,⟨t,rfl⟩,⟨t',rfl⟩⟩:=bo5 r
 refine min_two_ints (I.ok.hd hc) fun h' tk k=>⟨_,H,I.kept k,?_,q⟩
 by_cases hj:j < i
 · rw[if_pos hj,if_pos hj];exact ⟨_,rfl⟩
 · rw[if_neg hj,if_neg hj];exact ⟨_,rfl⟩
end
end L2
namespace L2
open PySem PySem.Spec PyProof.Rows
structure cq3 (h:Heap)(x dx C:Addr)(mA:Str->Option Value):Prop where
 obj:h.get? x=some (PySem.W.instObj C dx)
 ns:h.Ns1 dx mA
 ne:dx≠x
theorem ci9 {h:Heap}{dx:Addr}{mA:Str->Option Value}(n:h.Ns1 dx mA):∃od,h.get? dx=some od/\∀name,PySem.W.lookIn name od=some (mA name):=by
 obtain ⟨o,es,ep,ho,hd,hk,_,hm⟩:=n;refine ⟨o,ho,fun name=> ?_⟩;have e:=hm name;unfold nsFind findBy at e;rw[<-Array.find?_toList] at e;unfold PySem.W.lookIn;rw[hd]
 dsimp only
 split
 · rename_i y q;rw[q] at e;exact congrArg some e
 · rename_i q;rw[q] at e
   have a:es.toList.any (·.refKey)=false:=by
     rw[List.any_eq_false];intro y hy;obtain ⟨z,t,hkey⟩:=hk y (Array.mem_toList_iff.mp hy);simp [DictEntry.refKey,hkey]
   have a':¬es.toList.any (·.refKey)=true:=by rw[a];exact du3
   rw[if_neg a'];exact congrArg some e
theorem cq3.look {h:Heap}{x dx C:Addr}{mA:Str->Option Value}(I:cq3 h x dx C mA):∃od,PySem.W.InstAt h x (PySem.W.instObj C dx) C (some od)/\∀name,PySem.W.lookIn name od=some (mA name):=
 let ⟨od,ho,hl⟩:=ci9 I.ns
 ⟨od,⟨I.obj,rfl,rfl,ho⟩,hl⟩
theorem ae1.some_of {v:V}{o:Option Value}(r:ae1 (some v) o):∃u,o=some u/\t7 v u:=by
 cases o with
 |none=>exact (show False from r).elim
 |some u=>exact ⟨u,rfl,r⟩
section
variable {P:Program} {w:World} {H H':Hp} {h h':Heap} {a C dx:Addr} {fs fs':List (Str×V)}
theorem cy4 (hok:K2 P w H h)(e:H a=some (.ins C dx fs)):∃mA,cq3 h a dx C mA/\(∀f,ae1 (fs.lookup f) (mA f))/\PySem.Within mA (fs.map (·.1))/\fs.length<=1000/\H dx=some (.own a):=by
 obtain ⟨d,z,ne,ob,mA,n,r,q⟩:=(show x6 P w H h a (.ins C dx fs) from hok a _ e);exact ⟨mA,⟨ob,n,ne⟩,r,q,z,d⟩
end
structure Cls (K:PySem.W.Frag)(C:Addr):Prop where
 pg:PySem.W.plainGet K C Str.empty=true
 hd:PySem.W.hasDictIn K C=true
 po:PySem.W.plainOver K C=true
 sa:PySem.W.findIn K (.ref C) "__setattr__"=some (some (.builtin "object.__setattr__"))
theorem Cls.get {K:PySem.W.Frag}{C:Addr}(c:Cls K C)(f:Str):PySem.W.plainGet K C f=true:=c.pg
section
variable {X:Cx} {pins:List (Addr×Obj)} {σ:St} {H:Hp} {s:Shared} {A:Around} {E:Value->Shared->Prop} {Q:Value->Shared->Prop} {c:Value} {b:Bool}
inductive U8 (K:PySem.W.Frag)(H:Hp):V->Value->Prop where
 |non:U8 K H .non (.type "NoneType")
 |bl (x:Bool):U8 K H (.bl x) (.type "bool")
 |int (i:Int):U8 K H (.int i) (.type "int")
 |str (x:Str):U8 K H (.str x) (.type "str")
 |flt (x:UInt64):U8 K H (.flt x) (.type "float")
 |lst {a:Addr} {xs:List V} (e:H a=some (.lst xs)):U8 K H (.ref a) (.type "list")
 |frz {a:Addr} {o:Obj} {xs:List V} (e:H a=some (.frz o (.lst xs))):U8 K H (.ref a) (.type "list")
 |tup {a:Addr} {xs:List V} (e:H a=some (.tup xs)):U8 K H (.ref a) (.type "tuple")
 |dK {a:Addr} {kvs:List (o9×V)} (e:H a=some (.dK kvs)):U8 K H (.ref a) (.type "dict")
 |dT {a:Addr} {kvs:List (List o9×V)} (e:H a=some (.dT kvs)):U8 K H (.ref a) (.type "dict")
 |ins {a C dx:Addr} {fs:List (Str×V)} (e:H a=some (.ins C dx fs)) (cl:Cls K C) (ha:PySem.W.findIn K (.ref C) "__class__"=some (some (.builtin "object.__class__")))
     (hn:PySem.W.specialIn K (.builtin "object.__class__") "__get__"=some (some (.builtin "getset_descriptor.__get__"))) (htk:PySem.W.takesIn K (.builtin "object.__class__")=some true)
     (hm:PySem.W.mroIn K C (.type "object")=some true):U8 K H (.ref a) (.ref C)
theorem cj0 {x:V}{u t:Value}(I:h7 X pins σ H s)(rx:t7 x u)(ty:U8 X.K H x t)(e:PySem.W.kitOne X.K t c=some b)(h:∀tk,Q (.bool b) {s with toks:=tk}):
   wpAny (model X.prog X.w) A (call (.builtin "isinstance") [u,c]) Q E s:=by
 cases ty with
 |non=>cases (show u=Value.none from rx);exact PySem.W.kia_one PySem.W.kitx_none I.kIn True.intro e (fun z=>nomatch z) h
 |bl y=>cases (show u=Value.bool y from rx);exact PySem.W.kia_one PySem.W.kitx_bool I.kIn True.intro e (fun z=>nomatch z) h
 |int i=>obtain ⟨t,q⟩:=(show ∃t,u=Value.int i t from rx);cases q;exact PySem.W.kia_one PySem.W.kitx_int I.kIn True.intro e (fun z=>nomatch z) h
 |str y=>obtain ⟨t,q⟩:=(show ∃t,u=Value.str y t from rx);cases q;exact PySem.W.kia_one PySem.W.kitx_str I.kIn True.intro e (fun z=>nomatch z) h
 |flt y=>obtain ⟨t,q⟩:=(show ∃t,u=Value.float y t from rx);cases q;exact PySem.W.kia_one PySem.W.kitx_float I.kIn True.intro e (fun z=>nomatch z) h
 |@lst a xs ea=>
  cases (show u=Value.ref a from rx);obtain ⟨_,_,n,_,h1⟩:=(show x6 X.prog X.w H s.heap a (.lst xs) from I.hok a _ ea);exact PySem.W.kia_one PySem.W.kitx_list I.kIn ⟨_,h1,rfl⟩ e (fun z=>nomatch z) h
 |@frz a ob xs ea=>
  cases (show u=Value.ref a from rx);obtain ⟨_,_,_,n,_,h1⟩:=(show x6 X.prog X.w H s.heap a (.frz ob (.lst xs)) from I.hok a _ ea);exact PySem.W.kia_one PySem.W.kitx_list I.kIn ⟨_,h1,rfl⟩ e (fun z=>nomatch z) h
 |@tup a xs ea=>
  cases (show u=Value.ref a from rx);obtain ⟨_,_,_,p⟩:=(show x6 X.prog X.w H s.heap a (.tup xs) from I.hok a _ ea);obtain ⟨o,h1,h2,_⟩:=p;exact PySem.W.kia_one PySem.W.kitx_tuple I.kIn ⟨o,h1,h2⟩ e (fun z=>nomatch z) h
 |@dK a kvs ea=>
  cases (show u=Value.ref a from rx);obtain ⟨_,_,vs,_,p⟩:=(show x6 X.prog X.w H s.heap a (.dK kvs) from I.hok a _ ea);obtain ⟨o,es,ep,h1,h2,_⟩:=p;exact PySem.W.kia_one PySem.W.kitx_dict I.kIn ⟨o,h1,h2.1⟩ e (fun z=>nomatch z) h
 |@dT a kvs ea=>
  cases (show u=Value.ref a from rx);obtain ⟨_,_,xs,_,o,es,ep,h1,h2,_⟩:=(show x6 X.prog X.w H s.heap a (.dT kvs) from I.hok a _ ea);exact PySem.W.kia_one PySem.W.kitx_dict I.kIn ⟨o,h1,h2.1⟩ e (fun z=>nomatch z) h
 |@ins a C dx fs ea cl ha hn htk hm=>
  cases (show u=Value.ref a from rx);obtain ⟨mA,O,_⟩:=cy4 I.hok ea;obtain ⟨od,J,_⟩:=O.look;exact PySem.W.kia_one (PySem.W.kitx_own (cl.get _) cl.hd ha hn htk hm) I.kIn J e (fun z=>nomatch z) h
end
end L2
namespace L2
open PySem PySem.Spec PyProof.Rows
structure m7 (k:Nat)(A:Around):Prop where
 hd:A.handled=none
 dp:A.depth+3*k+5 < recursionLimit
 un:A.units+16*k+200 < cLine
 gd:A.guards=some []
theorem m7.mono {j k:Nat}{A:Around}(r:m7 k A)(h:j<=k):m7 j A:=⟨r.hd,by have:=r.dp;omega,by have:=r.un;omega,r.gd⟩
theorem m7.deeper {k:Nat}{A:Around}(r:m7 (k+1) A)(env:Env):m7 k (A.deeper env):=
 ⟨r.hd,by have:=r.dp;show A.depth+1+3*k+5 < _;omega,by have:=r.un;show A.units+3+16*k+200 < _;omega,r.gd⟩
theorem m7.depth {k:Nat}{A:Around}(r:m7 k A):A.depth < recursionLimit:=by have:=r.dp;omega
theorem m7.units {k:Nat}{A:Around}(r:m7 k A):A.units+64 < cLine:=by have:=r.un;omega
def ce0:TA:=fun _ H Q=>Q [] H
def bo6 (ta:TE)(tr:TA):TA:=fun σ H Q=>ta σ H fun x H1=>tr σ H1 fun xs H2=>Q (x::xs) H2
section
variable {X:Cx} {e:Expr} {es:List Expr} {te:TE} {t:TA} {pos:Pos}
theorem c6:PA X [] ce0:=fun _ _ _ _ H Q I h=>Calls.spliced_nil ⟨[],H,I,.nil,h⟩
theorem c5 (ha:PE X e te)(hr:PA X es t)(hs:starEach (e::es) X.env=(false,eval e X.env)::starEach es X.env:=by rfl):PA X (e::es) (bo6 te t):=by
 intro pos pins s σ H Q I h;rw[hs];show wpAny _ _ (spliced ((false,eval e X.env)::backTo pos (starEach es X.env))) _ _ s;refine Calls.spliced_cons (q9 (ha pins s σ H _ I h) fun u s1 ⟨x,H1,I1,r1,q1⟩=> ?_)
 exact q9 (hr pos pins s1 σ H1 _ I1 q1) fun us s2 ⟨xs,H2,I2,r2,q2⟩=>⟨x::xs,H2,I2,.cons r1 r2,q2⟩
def do5 (t:TA):TE:=fun σ H Q=>t σ H fun xs H1=>xs.length<=sizeLine/\∀p,H1 p=none->Q (.ref p) (c8 H1 p (.tup xs))
def do6 (t:TA):TE:=fun σ H Q=>t σ H fun xs H1=>xs.length<=sizeLine/\∀p,H1 p=none->Q (.ref p) (c8 H1 p (.lst xs))
theorem bq4 {x1}(h:PA X es t):PE X (.Tuple es x1 pos) (do5 t):=by
 intro pins s σ H Q I hq;refine wpAny_Tuple_spliced (q9 (h pos pins s σ H _ I hq) fun us s1 ⟨xs,H1,I1,r,z,q⟩=>⟨by rw[<-r.length];exact z,?_⟩);have hf:H1 s1.heap.objs.size=none:=I1.hok.fresh (dr9 _);refine ⟨.ref s1.heap.objs.size,c8 H1 s1.heap.objs.size (.tup xs),I1.laid (t':=s1.toks) (fun b u e=>Heap.get?_push_of_some _ e) (dr9 _) ?_,rfl,q _ hf⟩;exact ⟨z,us,r,⟨_,Heap.get?_push_size _ rfl,rfl,_,rfl⟩⟩
theorem p5 (h:PA X es t):PE X (.List es pos) (do6 t):=by
 intro pins s σ H Q I hq;refine wpAny_List_spliced (q9 (h pos pins s σ H _ I hq) fun us s1 ⟨xs,H1,I1,r,z,q⟩=>⟨by rw[<-r.length];exact z,?_⟩);have hf:H1 s1.heap.objs.size=none:=I1.hok.fresh (dr9 _);refine ⟨.ref s1.heap.objs.size,c8 H1 s1.heap.objs.size (.lst xs),I1.laid (t':=s1.toks) (fun b u e=>Heap.get?_push_of_some _ e) (dr9 _) ?_,rfl,q _ hf⟩;exact ⟨z,us,0,r,Heap.get?_push_size _ rfl⟩
end
abbrev Sp:=List V->Hp->VK->XK->Prop
abbrev CXT:=List Env->Hp->Shared->XK->Value->Shared->Prop
structure ce1 (P:Program)(w:World)(K:PySem.W.Frag)(mg:Str->Option Value)(base:Heap)(A:Around)(outer:List Env)(s:Shared)(H:Hp):Prop where
 frames:A.frames=some outer
 mod:Mod K mg base
 bs:∀b o,base.get? b=some o->s.heap.get? b=some o/\H b=none
 bsz:base.objs.size<=s.heap.objs.size
 funs:s.heap.FunFrames base outer
 frf:∀b∈frs outer,H b=none
 hok:K2 P w H s.heap
 bare:AllBare s.gens
def CE (outer:List Env)(P:Program)(w:World)(H:Hp)(s:Shared)(Q:VK)(u:Value)(s':Shared):Prop:=
 ∃v H',s'.os=s.os/\AllBare s'.gens/\Un (frs outer) [] H H' s.heap s'.heap/\K2 P w H' s'.heap/\t7 v u/\Q v H'
def CR (CX:CXT)(outer:List Env)(P:Program)(w:World)(H:Hp)(s:Shared)(Q:VK)(E:XK)(r:Result)(s':Shared):Prop:=
 match r with
 | .ok (.ret u)=>CE outer P w H s Q u s'
 | .ok _=>False
 | .error e=>CX outer H s E e s'
structure p6 (P:Program)(w:World)(K:PySem.W.Frag)(mg:Str->Option Value)(base:Heap)(CX:CXT)(k:Nat)(f:Addr)(fd:FuncData)(ps:List Str)(sp:Sp):Prop where
 len:∀vs H Q E,sp vs H Q E->vs.length=ps.length
 run:∀(A:Around) (outer:List Env) (s:Shared) (H:Hp) (args:Args) (us:List Value) (vs:List V) (Q:VK) (E:XK),m7 k A->ce1 P w K mg base A outer s H->BindsTo s fd args (ps.zip us)->o3 vs us->sp vs H Q E->
   codeAny (model P w) A (.call (.ref f) args) (CR CX outer P w H s Q E) s
theorem p6.imp {P:Program}{w:World}{K:PySem.W.Frag}{mg:Str->Option Value}{base:Heap}{CX:CXT}{k:Nat}{f:Addr}{fd:FuncData}{ps:List Str}{sp sp':Sp}(F:p6 P w K mg base CX k f fd ps sp)
   (h:∀vs H Q E,sp' vs H Q E->sp vs H Q E):p6 P w K mg base CX k f fd ps sp':=
 ⟨fun vs H Q E q=>F.len vs H Q E (h _ _ _ _ q),fun A outer s H args us vs Q E hr he hb hv hs=>F.run A outer s H args us vs Q E hr he hb hv (h _ _ _ _ hs)⟩
section
variable {X:Cx} {pins:List (Addr×Obj)} {σ:St} {H:Hp} {s s':Shared}
theorem h7.env0 (I:h7 X pins σ H s):ce1 X.prog X.w X.K X.mg X.base X.A X.stack s H:=
 ⟨I.ok.frames,I.ok.mod,I.bs,dt4 I.ok.bsz I.sz,I.stack,I.stkFree,I.hok,I.bare⟩
theorem h7.after {Q:VK}{u:Value}(I:h7 X pins σ H s)(h:CE X.stack X.prog X.w H s Q u s'):EP X pins σ Q u s':=by
 obtain ⟨v,H',os,bare,un,hok,r,q⟩:=h;obtain ⟨hh,g,d,t,os'⟩:=s';obtain rfl:os'=s.os:=os;exact ⟨v,H',I.call (h':=hh) (g':=g) (d':=d) (t':=t) (ch:=[]) un hok bare (fun b z=>absurd z (by simp)),r,q⟩
end
def cw8 (sp:Sp)(dvs:List V)(E:XK)(t:TA):TE:=fun σ H Q=>t σ H fun vs H1=>sp (vs++dvs) H1 Q E
def al4 (K:PySem.W.Frag)(fd:FuncData)(ps:List Str)(ds:List Value):Prop:=
 ∀(s:Shared) (us:List Value),K.In s.heap->(us++ds).length=ps.length->BindsTo s fd ⟨us,[]⟩ (ps.zip (us++ds))
theorem al4.all {K:PySem.W.Frag}{fd:FuncData}{ps:List Str}(h:∀us:List Value,us.length=ps.length->bindArgs fd ⟨us,[]⟩=pure (ps.zip us)):al4 K fd ps []:=fun s us _ hl=>by
 rw[du0] at hl ⊢;exact .of_eq (h us hl)
def bq5 (CX:CXT)(X:Cx)(E:XK):Prop:=∀(pins:List (Addr×Obj)) (σ:St) (H:Hp) (s:Shared) (e:Value) (s':Shared),h7 X pins σ H s->CX X.stack H s E e s'->X.xe e s'
section
variable {X:Cx} {CX:CXT} {k:Nat} {f C:Addr} {fd:FuncData} {ps:List Str} {sp:Sp} {dvs:List V} {ds:List Value} {E:XK} {x m:Str} {p pos apos:Pos} {e o:Expr} {es:List Expr} {ta:TE} {t:TA}
theorem df9 {pins:List (Addr×Obj)}{σ:St}{H:Hp}{s:Shared}{Q:VK}{us:List Value}{vs:List V}(F:p6 X.prog X.w X.K X.mg X.base CX k f fd ps sp)(hr:m7 k X.A)(hb:al4 X.K fd ps ds)(hd:o3 dvs ds)(hx:bq5 CX X E)
   (I:h7 X pins σ H s) (r:o3 vs us) (h:sp (vs++dvs) H Q E):wpAny (model X.prog X.w) X.A (call (.ref f) us) (EP X pins σ Q) X.xe s:=by
 have r2:o3 (vs++dvs) (us++ds):=r.append hd
 have hl:(us++ds).length=ps.length:=by rw[<-r2.length];exact F.len _ _ _ _ h
 refine wpAny_call (codeAny_mono (F.run X.A X.stack s H ⟨us,[]⟩ (us++ds) (vs++dvs) Q E hr I.env0 (hb s us I.kIn hl) r2 h) fun r s' hq=> ?_)
 cases r with
 |error e=>exact hx pins σ H s e s' I hq
 |ok fl=>
  cases fl with
  |ret u=>exact I.after hq
  |next=>exact False.elim hq
  |brk=>exact False.elim hq
  |cont=>exact False.elim hq
theorem cy5 (F:p6 X.prog X.w X.K X.mg X.base CX k f fd ps sp)(hr:m7 k X.A)(hg:Gl X x)(hm:X.mg x=some (.ref f))(hk:PySem.W.keepIn X.K (.ref f)=true)(hb:al4 X.K fd ps ds)(hd:o3 dvs ds)(hx:bq5 CX X E)
   (ha:PA X (e::es) t) (hdb:(x==("__debug__":Str))=false:=by decide) (he:starEach (e::es) X.env=(false,eval e X.env)::starEach es X.env:=by rfl) (hpl:(backTo pos (starEach es X.env)).any (·.1)=false:=by rfl):
   PE X (.Call (.Name x p) (e::es) [] pos) (cw8 sp dvs E t):=by
 intro pins s σ H Q I h;refine wpAny_Call_Name_kw (bz6 I hg hm ?_ hdb);refine PySem.W.callWith_K (h₀:=X.base) I.ok.mod.kin hk (q9 (ha pos pins s σ H _ I h) fun us s1 ⟨vs,H1,I1,r,q⟩=>⟨I1.kIn,?_⟩) he hpl;exact df9 F hr hb hd hx I1 r q
end
def PK (X:Cx)(kws:List Keyword)(t:TA):Prop:=
 ∀(pos:Pos) (pins:List (Addr×Obj)) (s:Shared) (σ:St) (H:Hp) (Q:List V->Hp->Prop),h7 X pins σ H s->t σ H Q->wpAny (model X.prog X.w) X.A (evalAll ((backToKw pos (keywordEach kws X.env)).map (·.2))) (AP X pins σ Q) X.xe s
section
variable {X:Cx} {CX:CXT} {k:Nat} {f C:Addr} {fd:FuncData} {ps ks:List Str} {sp:Sp} {E:XK} {x m:Str} {p pos apos kpos:Pos} {e o:Expr} {es:List Expr} {kws:List Keyword} {te ta:TE} {t tk:TA} {nm:Option Str}
theorem dg0:PK X [] ce0:=fun _ _ _ _ H Q I h=>wpAny_evalAll_nil ⟨[],H,I,.nil,h⟩
theorem cy6 (ha:PE X e te)(hr:PK X kws t):PK X (⟨nm,e,kpos⟩::kws) (bo6 te t):=by
 intro pos pins s σ H Q I h;show wpAny _ _ (evalAll ((do let v <-eval e X.env;standAt pos;pure v)::(backToKw pos (keywordEach kws X.env)).map (·.2))) _ _ s;refine wpAny_evalAll_cons (wpAny_bind (q9 (ha pins s σ H _ I h) fun u s1 ⟨x,H1,I1,r1,q1⟩=>wpAny_bind (wpAny_standAt (wpAny_pure ?_))))
 exact q9 (hr pos pins s1 σ H1 _ I1 q1) fun us s2 ⟨xs,H2,I2,r2,q2⟩=>⟨x::xs,H2,I2,.cons r1 r2,q2⟩
variable {g:List Value->List Value->List Value} {gV:List V->List V->List V}
end
structure m8 (N P:List Str)(sc:Scope):Prop where
 kind:sc.kind= .function
 co:sc.isCoroutine=false
 gen:sc.isGenerator=false
 nd:N.Nodup
 pre:N.take P.length=P
 par:∀x∈P,sc.names.lookup x=some .local\/sc.names.lookup x=some .cell
 nofree:∀y∈sc.names,y.2≠.free
theorem bj5 {kindOf:Str->Option NameKind}{x:Str}:∀{binds:List (Str×Value)} {m:Str->Option Value},(∀v,(x,v)∉binds)->bindL kindOf binds m x=m x
 |[],_,_=>rfl
 |(n,v)::r,m,h=>by
  unfold bindL;rw[bj5 fun w hw=>h w (ds3 _ hw)]
  split
  · have:x≠n:=by rintro rfl;exact h v ds1
    simp [this]
  · rfl
theorem bj6 {kindOf:Str->Option NameKind}{x:Str}:∀{binds:List (Str×Value)} {m:Str->Option Value},(∀v,(x,v)∉binds)->bindC kindOf binds m x=m x
 |[],_,_=>rfl
 |(n,v)::r,m,h=>by
  unfold bindC;rw[bj6 fun w hw=>h w (ds3 _ hw)]
  split
  · rfl
  · have:x≠n:=by rintro rfl;exact h v ds1
    simp [this]
theorem bj7 {kindOf:Str->Option NameKind}{x:Str}{v:Value}:∀{P:List Str} {vs:List Value} {i:Nat} {m:Str->Option Value},P.Nodup->P[i]? =some x->vs[i]? =some v->kindOf x=some .local->
   bindL kindOf (P.zip vs) m x=some v
 |[],_,_,_,_,h,_,_=>by simp at h
 |_::_,[],_,_,_,_,h,_=>by simp at h
 |p::P,w::vs,0,m,nd,h1,h2,hk=>by
  simp at h1 h2;subst h1;subst h2;show bindL kindOf ((p,w)::P.zip vs) m p=_;unfold bindL;rw[bj5 fun v hv=>(dw2.mp nd).1 (em3 hv).1,if_pos hk];simp
 |p::P,w::vs,i+1,m,nd,h1,h2,hk=>by
  show bindL kindOf ((p,w)::P.zip vs) m x=_;unfold bindL;exact bj7 (i:=i) (dw2.mp nd).2 (by simpa using h1) (by simpa using h2) hk
theorem bj8 {kindOf:Str->Option NameKind}{x:Str}{v:Value}:∀{P:List Str} {vs:List Value} {i:Nat} {m:Str->Option Value},P.Nodup->P[i]? =some x->vs[i]? =some v->kindOf x≠some .local->
   bindC kindOf (P.zip vs) m x=some v
 |[],_,_,_,_,h,_,_=>by simp at h
 |_::_,[],_,_,_,_,h,_=>by simp at h
 |p::P,w::vs,0,m,nd,h1,h2,hk=>by
  simp at h1 h2;subst h1;subst h2;show bindC kindOf ((p,w)::P.zip vs) m p=_;unfold bindC;rw[bj6 fun v hv=>(dw2.mp nd).1 (em3 hv).1,if_neg hk];simp
 |p::P,w::vs,i+1,m,nd,h1,h2,hk=>by
  show bindC kindOf ((p,w)::P.zip vs) m x=_;unfold bindC;exact bj8 (i:=i) (dw2.mp nd).2 (by simpa using h1) (by simpa using h2) hk
def ac8 (N:List Str)(vs:List V):St:=vs.map some++dv8 (N.length - vs.length) none
def bg2 (CX:CXT)(P:Program)(w:World)(K:PySem.W.Frag)(mg:Str->Option Value)(base:Heap)(N:List Str)(qual:Str)(scope:Scope)(f:Addr)(cd:Value)(A:Around)(outer:List Env)(s:Shared)(H:Hp)(E:XK):Cx where
 prog:=P
 w:=w
 K:=K
 mg:=mg
 base:=base
 A:=A.deeper (envOfC qual scope s.heap.objs.size f cd)
 N:=N
 s₀:=s
 H₀:=H
 env:=envOfC qual scope s.heap.objs.size f cd
 outer:=outer
 stack:=envOfC qual scope s.heap.objs.size f cd::outer
 ex:=[]
 calm:=true
 fn:=fun _=>true
 pn:=[]
 xe:=fun e s'=>wpAny (model P w) (A.deeper (envOfC qual scope s.heap.objs.size f cd)) (leaving (envOfC qual scope s.heap.objs.size f cd) e) (fun _ s''=>CX outer H s E e s'') (fun e' s''=>CX outer H s E e' s'') s'
theorem bq6 {sc:Scope}{n:Nat}{x:Str}(h:sc.names.lookup x=some .cell):∃c,(cellsFrom n sc.names []).lookup x=some c:=by
 have q:=PySem.W.cellsFrom_some sc.names n [] (.inl h);exact Option.isSome_iff_exists.mp q
theorem cj1 {CX:CXT}{P:Program}{w:World}{K:PySem.W.Frag}{mg:Str->Option Value}{base:Heap}{N ps:List Str}{qual:Str}{scope:Scope}{f:Addr}{cd:Value}{A:Around}{outer:List Env}{s s1:Shared}{H:Hp}{E:XK}{us:List Value}{vs:List V}
   (S:m8 N ps scope) (hd:A.handled=none) (e0:ce1 P w K mg base A outer s H) (hl:vs.length=ps.length) (r:o3 vs us)
   (x:InCallC s s.heap.objs.size (bindL (envOfC qual scope s.heap.objs.size f cd).kindOf (ps.zip us) fun _=>none) (cellsFrom (s.heap.objs.size+1) scope.names []) (bindC (envOfC qual scope s.heap.objs.size f cd).kindOf (ps.zip us) fun _=>none) s1):
   h7 (bg2 CX P w K mg base N qual scope f cd A outer s H E) [] (ac8 N vs) H s1:=by
 have hpl:ps.length<=N.length:=by have:=congrArg List.length S.pre;rw[dt3] at this;omega
 obtain ⟨h1,tk,rfl,hk⟩:=x.done
 have noA:∀b:Addr,b∉(bg2 CX P w K mg base N qual scope f cd A outer s H E).ex:=fun b z=>absurd (show b∈([]:List Addr) from z) (by simp)
 refine ⟨⟨e0.mod,S.kind,rfl,rfl,dr9 _,fun y z c h1 h2=> ?_,fun y hy=> ?_,fun y c _ h=> ?_,fun _=>hd,Around.frames_deeper e0.frames,.inr ⟨rfl,rfl⟩,fun b z=>absurd z (noA b),e0.bs,e0.bsz,fun b _ _=>noA b,fun b z=>absurd z (noA b),e0.funs,e0.frf⟩,
   rfl,e0.bare,Un.kept hk,⟨_,x.toInCall.ns,fun i y v h1 h2 h3=> ?_⟩,fun y c h=>⟨_,x.cell y c h⟩,e0.hok.fresh (dr9 _),fun y c h=> ?_,fun p hp=>absurd (show p∈([]:List (Addr×Obj)) from hp) (by simp),e0.hok.kept hk,?_⟩
 · exact name_of_addr x.apart (PySem.mem_of_lookup h1) (PySem.mem_of_lookup h2)
 · have hy:scope.names.lookup y=some .cell\/scope.names.lookup y=some .free:=hy
   rcases hy with hy|hy
   · exact bq6 hy
   · exact absurd rfl (S.nofree _ (PySem.mem_of_lookup hy))
 · exact dy8 (x.above y c (PySem.mem_of_lookup h))
 · have hi:i < vs.length:=by
     unfold ac8 at h2
     by_cases hi:i < vs.length
     · exact hi
     · rw[dw6 (by simpa using hi)] at h2;rw[el8] at h2
       split at h2<;>cases h2
   have ha:vs[i]? =some v:=by
     unfold ac8 at h2;rw[dv0 (by simpa using hi),ds0] at h2
     cases e:vs[i]? with
     |none=>rw[e] at h2;cases h2
     |some a=>rw[e] at h2;cases h2;rfl
   obtain ⟨u,hu,rv⟩:=r.get ha
   have hp:ps[i]? =some y:=by
     rw[<-S.pre,dx1 (by omega)];exact h1
   have ndP:ps.Nodup:=by rw[<-S.pre];exact S.nd.sublist (List.take_sublist _ _)
   refine ⟨u,rv,?_⟩
   rcases S.par y (ds4 hp) with k|k
   · exact .inl ⟨k,bj7 ndP hp hu k⟩
   · obtain ⟨c,e⟩:=bq6 (n:=s.heap.objs.size+1) k;refine .inr ⟨.inl k,c,e,?_⟩;have q:=x.cell y c e;rw[bj8 ndP hp hu (by show scope.names.lookup y≠_;rw[k];decide)] at q;exact q
 · exact e0.hok.fresh (dy8 (x.above y c (PySem.mem_of_lookup h)))
 · unfold ac8;show _=N.length;rw[ds6,dr6,ec1];omega
theorem dk7 {CX:CXT}{P:Program}{w:World}{K:PySem.W.Frag}{mg:Str->Option Value}{base:Heap}{k:Nat}{f:Addr}{name qual:Str}{params:Arguments}{body:List Stmt}{scope:Scope}{dV kV doc pm cdv ct oc:Value}{an od:Option Addr}
   {osl:Array (Option Value)} {N ps:List Str} {sp:Sp} (lk:K.lookup f=some ⟨oc,od,.func (PySem.W.fnOf name qual params body scope dV kV doc pm an cdv ct),osl⟩) (hcd:PySem.W.codeIn K cdv qual=true) (S:m8 N ps scope)
   (len:∀vs H Q E,sp vs H Q E->vs.length=ps.length)
   (hbody:∀(A:Around) (outer:List Env) (s:Shared) (H:Hp) (vs:List V) (Q:VK) (E:XK),m7 k (A.deeper (envOfC qual scope s.heap.objs.size f cdv))->sp vs H Q E->
     ∃t,PSs (bg2 CX P w K mg base N qual scope f cdv A outer s H E) body t/\t {nx:=fun _ H'=>Q .non H',rt:=Q} (ac8 N vs) H):
   p6 P w K mg base CX (k+1) f (PySem.W.fnOf name qual params body scope dV kV doc pm an cdv ct) ps sp:=by
 refine ⟨len,fun A outer s H args us vs Q E hr e0 hb r hsp=> ?_⟩;have hl:=len _ _ _ _ hsp
 have KX:K.In s.heap:=e0.mod.kin.keeps fun b o e=>(e0.bs b o e).1
 have lim:s.heap.NoLimit:=e0.mod.nolimit.keeps fun b o e=>(e0.bs b o e).1
 have hkind:∀y∈ps.zip us,scope.names.lookup y.1=some .local\/(scope.names.lookup y.1=some .cell/\((cellsFrom (s.heap.objs.size+1) scope.names []).lookup y.1).isSome=true):=fun ⟨n,v⟩ hy=>by
   rcases S.par n (em3 hy).1 with q|q
   · exact .inl q
   · exact .inr ⟨q,PySem.W.cellsFrom_some _ _ _ (.inl q)⟩
 refine codeAny_call_function hr.depth (KX _ _ lk) rfl S.co S.gen rfl (PySem.W.codeRec_of KX hcd) (hb _ _ _ _ ?_)
 refine wpAny_newFunctionEnv_cells S.kind hkind fun env he s1 x=> ?_
 subst he;refine ⟨lim.keeps x.toInCall.keep,codeAny_func ?_⟩;obtain ⟨t,ht,hq⟩:=hbody A outer s H vs Q E (hr.deeper _) hsp;have I:h7 (bg2 CX P w K mg base N qual scope f cdv A outer s H E) [] (ac8 N vs) H s1:=cj1 S hr.hd e0 hl r x
 refine wpAny_mono (ht [] s1 (ac8 N vs) H _ I hq) (fun fl s' hs=> ?_) fun e s' hs=>hs
 have fin:∀{σ':St} {H':Hp} {v:V} {u:Value},h7 (bg2 CX P w K mg base N qual scope f cdv A outer s H E) [] σ' H' s'->t7 v u->Q v H'->CE outer P w H s Q u s':=
   fun {σ' H' v u} J rv q=>⟨v,H',J.os,J.bare,J.base,J.hok,rv,q⟩
 cases fl with
 |ret u=>
  obtain ⟨v,σ',H',J,rv,q⟩:=hs;exact fin J rv q
 |next=>
  obtain ⟨σ',H',J,q⟩:=hs;exact fin (v:=V.non) (u:=Value.none) J rfl q
 |brk=>
  obtain ⟨_,_,_,q⟩:=hs;exact False.elim q
 |cont=>
  obtain ⟨_,_,_,q⟩:=hs;exact False.elim q
end L2
namespace L2
open PySem PySem.Spec PyProof.Rows
section
variable {X:Cx} {x:Str} {p pos:Pos} {e:Expr} {es:List Expr} {t:TA} {id T:String} {r:List V->Hp->VK->Prop}
def tCB (r:List V->Hp->VK->Prop)(t:TA):TE:=fun σ H Q=>t σ H fun vs H1=>r vs H1 Q
theorem Y7 (hc:R4 X (.builtin id) r)(hg:Gl X x)(hm:X.mg x=none)(hv:bootBuiltins x=some (.builtin id))(ha:PA X (e::es) t)(hn:x≠"__name__":=by decide)(hdb:(x==("__debug__":Str))=false:=by decide)
   (he:starEach (e::es) X.env=(false,eval e X.env)::starEach es X.env:=by rfl) (hpl:(backTo pos (starEach es X.env)).any (·.1)=false:=by rfl):PE X (.Call (.Name x p) (e::es) [] pos) (tCB r t):=by
 intro pins s σ H Q I h;refine wpAny_Call_Name_kw (aa7 I hg hm hv ?_ hn hdb);exact PyProof.Rows.callWith_builtin1 (q9 (ha pos pins s σ H _ I h) fun us s1 ⟨vs,H1,I1,r1,q1⟩=>hc pins s1 σ H1 vs us Q I1 r1 q1) he hpl
theorem V9 (hc:R4 X (.type T) r)(hg:Gl X x)(hm:X.mg x=none)(hv:bootBuiltins x=some (.type T))(ha:PA X (e::es) t)(hn:x≠"__name__":=by decide)(hdb:(x==("__debug__":Str))=false:=by decide)
   (he:starEach (e::es) X.env=(false,eval e X.env)::starEach es X.env:=by rfl) (hpl:(backTo pos (starEach es X.env)).any (·.1)=false:=by rfl):PE X (.Call (.Name x p) (e::es) [] pos) (tCB r t):=by
 intro pins s σ H Q I h;refine wpAny_Call_Name_kw (aa7 I hg hm hv ?_ hn hdb);exact PyProof.Rows.callWith_type1 (q9 (ha pos pins s σ H _ I h) fun us s1 ⟨vs,H1,I1,r1,q1⟩=>hc pins s1 σ H1 vs us Q I1 r1 q1) he hpl
end
end L2
namespace HT
open PySem PyProof.Rows
def av2:List Int->List Int->Bool
 |[],[]=>false
 |[],_::_=>true
 |_::_,[]=>false
 |x::xs,y::ys=>if x=y then av2 xs ys else decide (x < y)
theorem ce2 (x y:Int)(xs ys:List Int):av2 (x::xs) (y::ys)=if x=y then av2 xs ys else decide (x < y):=rfl
theorem cy7 (y:Int)(ys:List Int):av2 [] (y::ys)=true:=rfl
theorem cq4 (A:Around)(s:Shared)(a:Int)(t:Tok)(c:Int)(u:Tok):∃e,SeqAt.EqAt A s (.int a t) (.int c u) e/\(e=true↔a=c):=
 ⟨(a==c),SeqAt.EqAt.int_int a t c u,by simp⟩
theorem cq5 (A:Around)(s:Shared)(a:Int)(t:Tok)(c:Int)(u:Tok)(prog:Program)(w:World)(E:Value->Shared->Prop)(Q:Value->Shared->Prop)(h:Q (.bool (decide (a < c))) s):
   wpAny (model prog w) A (richCompare .Lt (.int a t) (.int c u)) Q E s:=
 (PyProof.Rows.lt_int h:wpAny (model prog w) A (compareOp .Lt (.int a t) (.int c u)) Q E s)
section
variable {prog:Program} {w:World} {A:Around} {E:Value->Shared->Prop} {s:Shared}
def sIx (n d:Nat):Option Int->Nat
 |none=>d
 |some v=>if v < 0 then (v+(n:Int)).toNat else min v.toNat n
theorem do7 (n d:Nat):sIx n d none=d:=rfl
theorem dq1 (n d k:Nat):sIx n d (some (k:Int))=min k n:=by
 show (if (k:Int) < 0 then ((k:Int)+(n:Int)).toNat else min (k:Int).toNat n)=min k n;rw[if_neg (by omega),dw1]
end
end HT
namespace L2
open PySem PySem.Spec PyProof.Rows
abbrev TO:=St->Hp->(Option Int->Hp->Prop)->Prop
def PO (X:Cx)(e:Option Expr)(t:TO):Prop:=
 ∀(pins:List (Addr×Obj)) (s:Shared) (σ:St) (H:Hp) (Q:Option Int->Hp->Prop),h7 X pins σ H s->t σ H Q->
  wpAny (model X.prog X.w) X.A (evalPart e X.env) (fun u s'=>∃o H',h7 X pins σ H' s'/\IsPart u o/\Q o H') X.xe s
def cy8:TO:=fun _ H Q=>Q none H
def dk8 (t:TE):TO:=fun σ H Q=>t σ H fun x H1=>∃i,x= .int i/\Q (some i) H1
theorem al5 {ns:List Int}:∀{us:List Value},o3 (ns.map V.int) us->IntsAre us ns:=by
 induction ns with
 |nil=>intro us r;rw[ed1] at r;cases r;exact .nil
 |cons n ns ih=>
  intro us r;rw[dw3] at r
  cases r with
  |cons r1 r2=>
   obtain ⟨t,e⟩:=r1;subst e;exact .cons n t (ih r2)
section
variable {X:Cx} {e:Expr} {te:TE} {lo hi:Option Expr} {tl th:TO} {pos p2:Pos}
theorem T1:PO X none cy8:=by
 intro pins s σ H Q I h;rw[evalPart_none];exact wpAny_pure ⟨none,H,I,.none,h⟩
theorem N8 (h:PE X e te):PO X (some e) (dk8 te):=by
 intro pins s σ H Q I hw;rw[evalPart_some]
 refine q9 (h pins s σ H _ I hw) fun u s1 ⟨x,H1,I1,r1,q1⟩=> ?_
 obtain ⟨i,rfl,q⟩:=q1;obtain ⟨t,rfl⟩:=r1;exact ⟨some i,H1,I1,.int i t,q⟩
def SlR (X:Cx)(r:V->Option Int->Option Int->Hp->VK->Prop):Prop:=
 ∀(pins:List (Addr×Obj)) (s:Shared) (σ:St) (H:Hp) (x:V) (v vl vu:Value) (lo hi:Option Int) (sl:Addr) (Q:VK),h7 X pins σ H s->t7 x v->s.heap.IsSliceOf sl vl vu .none->IsPart vl lo->IsPart vu hi->r x lo hi H Q->
  ∃T id,typeLookup (.type T) "__getitem__"=pure (some (.builtin id))/\s.TypeIs v T/\wpAny (model X.prog X.w) X.A (getItem v (.ref sl)) (EP X pins σ Q) X.xe s
def tSl (r:V->Option Int->Option Int->Hp->VK->Prop)(te:TE)(tl th:TO):TE:=fun σ H Q=>te σ H fun x H1=>tl σ H1 fun l H2=>th σ H2 fun u H3=>r x l u H3 Q
theorem N4 {r:V->Option Int->Option Int->Hp->VK->Prop}(hr:SlR X r)(he:PE X e te)(hl:PO X lo tl)(hu:PO X hi th):PE X (.Subscript e (.Slice lo hi none p2) pos) (tSl r te tl th):=by
 intro pins s σ H Q I h;refine Subscript_ (q9 (he pins s σ H _ I h) fun v s1 ⟨x,H1,I1,r1,q1⟩=> ?_);refine wpAny_Slice (q9 (hl pins s1 σ H1 _ I1 q1) fun vl s2 ⟨l,H2,I2,pl,q2⟩=>q9 (hu pins s2 σ H2 _ I2 q2) fun vu s3 ⟨u,H3,I3,pu,q3⟩=> ?_);rw[evalPart_none];refine wpAny_pure ?_
 have I4:h7 X pins σ H3 {s3 with heap:=s3.heap.push {cls:= .type "slice",data:= .fields #[vl,vu,.none]}}:=I3.kept (t':=s3.toks) fun b ob q=>Heap.get?_push_of_some _ q
 obtain ⟨T,id,hT,ht,hg⟩:=hr pins {s3 with heap:=s3.heap.push {cls:= .type "slice",data:= .fields #[vl,vu,.none]}} σ H3 x v vl vu l u s3.heap.objs.size Q I4 r1 (Heap.IsSliceOf.new ..) pl pu q3;show wpAny (model X.prog X.w) X.A (subscriptTail e (.Slice lo hi none p2) v (.ref s3.heap.objs.size)) (EP X pins σ Q) X.xe {s3 with heap:=s3.heap.push {cls:= .type "slice",data:= .fields #[vl,vu,.none]}};exact tail_any (ops:=[.ref s3.heap.objs.size,v]) ht hT hg (by with_unfolding_all rfl)
def N9 (xs:List V)(lo hi:Option Int):List V:=(xs.drop (HT.sIx xs.length 0 lo)).take (HT.sIx xs.length xs.length hi - HT.sIx xs.length 0 lo)
theorem bx8 (xs:List V)(lo hi:Option Int):(N9 xs lo hi).length<=xs.length:=by
 unfold N9;rw[dt3,dv9];omega
end
end L2
namespace L2
open PySem PySem.Spec PyProof.Rows
def ixN (n:Nat)(i:Int):Option Nat:=if 0<=i then (if i < n then some i.toNat else none) else if -(n:Int)<=i then some (i+n).toNat else none
def atI {α:Type}(xs:List α)(i:Int):Option α:=(ixN xs.length i).bind fun j=>xs[j]?
theorem bg3 {n:Nat}{i:Int}{j:Nat}(h:ixN n i=some j):seqIndex? i n=some j/\j < n/\ -(n:Int)<=i/\i < n:=by
 unfold ixN at h
 by_cases h0:0<=i
 · rw[if_pos h0] at h
   by_cases h1:i < n
   · rw[if_pos h1] at h;have e:i.toNat=j:=Option.some.inj h;exact ⟨by rw[seqIndex_of h0 h1,e],by omega,by omega,h1⟩
   · rw[if_neg h1] at h;cases h
 · rw[if_neg h0] at h
   by_cases h1: -(n:Int)<=i
   · rw[if_pos h1] at h;have e:(i+n).toNat=j:=Option.some.inj h;exact ⟨by rw[seqIndex_neg (by omega) h1,e],by omega,h1,by omega⟩
   · rw[if_neg h1] at h;cases h
theorem cy9 {α:Type}{xs:List α}{i:Int}{v:α}(h:atI xs i=some v):∃j,seqIndex? i xs.length=some j/\xs[j]? =some v/\j < xs.length/\ -(xs.length:Int)<=i/\i < xs.length:=by
 unfold atI at h
 cases e:ixN xs.length i with
 |none=>rw[e] at h;cases h
 |some j=>
  rw[e] at h;obtain ⟨h1,h2,h3,h4⟩:=bg3 e;exact ⟨j,h1,h,h2,h3,h4⟩
theorem G7 {α:Type}{xs:List α}{j:Nat}{v:α}(h:xs[j]? =some v):atI xs (j:Int)=some v:=by
 have hj:j < xs.length:=(dr7.mp h).1
 have e:ixN xs.length (j:Int)=some j:=by
   unfold ixN;rw[if_pos (by omega),if_pos (by omega)];simp
 unfold atI;rw[e];exact h
def cz0 (b:Expr):Prop:=∀o i,subscripted b false o i=operate [o,i] (getItem o i)
def IxR (X:Cx)(r:R2):Prop:=
 ∀(value slice:Expr) (pins:List (Addr×Obj)) (s:Shared) (σ:St) (H:Hp) (x y:V) (v u:Value) (Q:VK),h7 X pins σ H s->t7 x v->t7 y u->r x y H Q->
  subscripted slice false v u=operate [v,u] (getItem v u)->wpAny (model X.prog X.w) X.A (subscriptTail value slice v u) (EP X pins σ Q) X.xe s
def MtR (X:Cx)(id:String)(r:V->List V->Hp->VK->Prop):Prop:=
 ∀(pins:List (Addr×Obj)) (s:Shared) (σ:St) (H:Hp) (x:V) (xs:List V) (v:Value) (us:List Value) (Q:VK),h7 X pins σ H s->t7 x v->o3 xs us->r x xs H Q->
  wpAny (model X.prog X.w) X.A (call (.builtin id) (v::us)) (EP X pins σ Q) X.xe s
section
variable {X:Cx} {a b:Expr} {ta tb:TE} {pos:Pos}
theorem I0 {r:R2}(hr:IxR X r)(ha:PE X a ta)(hb:PE X b tb)(hs:cz0 b):PE X (.Subscript a b pos) (tOp r ta tb):=by
 intro pins s σ H Q I h;exact Subscript_ (cq1 ha hb I h fun v u s2 x y H2 I2 rx ry q=>hr a b pins s2 σ H2 x y v u Q I2 rx ry q (hs _ _))
def cq6 (K:PySem.W.Frag):R2:=fun x y H Q=>∃p xs i v,x= .ref p/\y= .int i/\g9 K H p xs/\atI xs i=some v/\Q v H
theorem B5:IxR X (cq6 X.K):=by
 intro value slice pins s σ H x y v u Q I rx ry h hs;obtain ⟨p,xs,i,z,rfl,rfl,hq,he,q⟩:=h;cases rx;obtain ⟨t,rfl⟩:=ry;obtain ⟨its,r,pl,hz⟩:=I.list hq;obtain ⟨j,h1,h2,h3,h4,h5⟩:=cy9 he;obtain ⟨w,ew,rw'⟩:=r.get h2;have hl:=r.length;have hn:=bq3;have fin:EP X pins σ Q w s:=⟨z,H,I,rw',q⟩
 by_cases h0:0<=i
 · have hj:i.toNat=j:=by
     rw[seqIndex_of h0 h5] at h1;exact Option.some.inj h1
   exact item_listR pl.isList h0 (by omega) (by rw[hj];simpa using ew) fin hs
 · have hj:(i+(its.toArray.size:Int)).toNat=j:=by
     rw[seqIndex_neg (by omega) h4] at h1;rw[dt6,<-hl];exact Option.some.inj h1
   exact subscriptTail_builtinR (x:=w) pl.isList.typeIs slot_list_getitem.lookup
     (wpAny_getItem_list_neg (Q:=fun r s'=>r=w/\EP X pins σ Q r s') pl.isList (by omega) (by rw[dt6]<;>omega) (by omega) (by rw[hj];simpa using ew) ⟨rfl,fin⟩) hs
theorem ce3 (its:List Value)(n j:Nat)(u:Value):Obj.mapSeq (·.setIfInBounds j u) {cls:= .type "list",data:= .seq its.toArray n}={cls:= .type "list",data:= .seq (its.set j u).toArray n}:=by
 simp [Obj.mapSeq]
theorem h7.lst {pins:List (Addr×Obj)}{σ:St}{H:Hp}{s:Shared}{p:Addr}{xs:List V}(I:h7 X pins σ H s)(h:H p=some (.lst xs)):
   ∃(its:List Value) (n:Nat),o3 xs its/\s.heap.get? p=some {cls:= .type "list",data:= .seq its.toArray n}/\xs.length<=sizeLine:=by
 obtain ⟨z,its,n,r,e⟩:=I.hok p _ h;exact ⟨its,n,r,e,z⟩
theorem h7.lstUpd {pins:List (Addr×Obj)}{σ:St}{H:Hp}{s:Shared}{p:Addr}{xs ys:List V}{its its':List Value}{n n':Nat}{f:Obj->Obj}(I:h7 X pins σ H s)(h:H p=some (.lst xs))
   (ho:s.heap.get? p=some {cls:= .type "list",data:= .seq its.toArray n}) (hf:f {cls:= .type "list",data:= .seq its.toArray n}={cls:= .type "list",data:= .seq its'.toArray n'}) (r:o3 ys its') (hz:ys.length<=sizeLine) (t:Nat):
   h7 X pins σ (c8 H p (.lst ys)) {s with heap:=s.heap.update p f,toks:=t}:=by
 have e:(s.heap.update p f).get? p=some {cls:= .type "list",data:= .seq its'.toArray n'}:=by
   rw[Heap.get?_update_self f ho (by rw[hf]<;>rfl),hf]
 refine I.write (x:=p) (e:=p) (by rw[h];trivial) (.inl rfl) (fun b u hb q=>(Heap.get?_update_other _ _ (Ne.symm hb)).trans q) ⟨_,e⟩ ?_;exact ⟨hz,its',n',r,e⟩
def dk9:V->V->V->Hp->(Hp->Prop)->Prop:=fun o i v H Q=>∃p xs k j,o= .ref p/\i= .int k/\H p=some (.lst xs)/\ixN xs.length k=some j/\Q (c8 H p (.lst (xs.set j v)))
theorem R8:df1 X dk9:=by
 intro pins s σ H o i v ov iv u Q I ro ri rv h;obtain ⟨p,xs,k,j,rfl,rfl,hp,hj,q⟩:=h;cases ro;obtain ⟨t,rfl⟩:=ri;obtain ⟨its,n,r,ho,hz⟩:=I.lst hp;obtain ⟨h1,h2,h3,h4⟩:=bg3 hj;have hl:=r.length;have hn:=bq3
 have I':h7 X pins σ (c8 H p (.lst (xs.set j v))) {s with heap:=s.heap.update p (Obj.mapSeq (·.setIfInBounds j u))}:=
   I.lstUpd hp ho (ce3 its n j u) (r.set rv j) (by rw[ec9];exact hz) s.toks
 by_cases h0:0<=k
 · have hk:k.toNat=j:=by
     rw[seqIndex_of h0 h4] at h1;exact Option.some.inj h1
   exact PySem.W.ki_setAt ho h0 (by omega) (by rw[dt6,<-hl];exact h4) (by rw[hk];exact ⟨_,I',q⟩)
 · have hk:(k+(its.toArray.size:Int)).toNat=j:=by
     rw[seqIndex_neg (by omega) h3] at h1;rw[dt6,<-hl];exact Option.some.inj h1
   exact PySem.W.ki_setBack ho (by omega) (by rw[dt6,<-hl];exact h3) (by omega) (by rw[hk];exact ⟨_,I',q⟩)
theorem bq7 (lo hi:Option Int)(n:Nat):(sliceBounds lo hi none n).1=((HT.sIx n 0 lo:Nat):Int)/\(sliceBounds lo hi none n).2.1=((HT.sIx n n hi:Nat):Int)/\(sliceBounds lo hi none n).2.2=1:=by
 refine ⟨?_,?_,rfl⟩
 · cases lo with
   |none=>simp [sliceBounds,HT.sIx]
   |some i=>
    simp only[sliceBounds,HT.sIx,Option.getD_none,show (1:Int) > 0 by decide,if_true]
    by_cases h:i < 0
    · simp only[h,if_true]<;>omega
    · simp only[h,if_false]<;>omega
 · cases hi with
   |none=>simp [sliceBounds,HT.sIx]
   |some i=>
    simp only[sliceBounds,HT.sIx,Option.getD_none,show (1:Int) > 0 by decide,if_true]
    by_cases h:i < 0
    · simp only[h,if_true]<;>omega
    · simp only[h,if_false]<;>omega
theorem bn4 (its:List Value)(lo hi:Option Int):slicePick its.toArray lo hi none=((its.drop (HT.sIx its.length 0 lo)).take (HT.sIx its.length its.length hi - HT.sIx its.length 0 lo)).toArray:=by
 obtain ⟨h1,h2,h3⟩:=bq7 lo hi its.toArray.size;unfold slicePick;rw[h1,h2,h3]
 simp only[sliceRange_one,pick_run,dt6]<;>rfl
def do8 (K:PySem.W.Frag):V->Option Int->Option Int->Hp->VK->Prop:=fun x lo hi H Q=>∃a xs,x= .ref a/\g9 K H a xs/\∀p,H p=none->Q (.ref p) (c8 H p (.lst (N9 xs lo hi)))
theorem Q6:SlR X (do8 X.K):=by
 intro pins s σ H x v vl vu lo hi sl Q I rx hs pl pu h;obtain ⟨a,xs,rfl,hx,q⟩:=h;cases rx;obtain ⟨its,r,ht,hz⟩:=I.list hx;have hlen:=r.length;refine ⟨"list",_,slot_list_getitem.lookup,ht.isList.typeIs,?_⟩;refine wpAny_getItem_list_slice ht.isList hs pl pu .none (by simp) ?_ (by rw[dt6]<;>omega);rw[bn4,<-hlen];refine ⟨.ref s.heap.objs.size,_,I.laid (t':=s.toks) (o:= .lst (N9 xs lo hi)) (fun b ob q=>Heap.get?_push_of_some _ q) (dr9 _) ?_,rfl,q _ (I.hok.fresh (dr9 _))⟩;exact ⟨dt4 (bx8 xs lo hi) hz,_,0,(r.drop (HT.sIx xs.length 0 lo)).take (HT.sIx xs.length xs.length hi - HT.sIx xs.length 0 lo),Heap.get?_push_size _ rfl⟩
def bo7:V->Bool
 | .non=>true
 | .bl _=>true
 | .int _=>true
 | .str _=>true
 |_=>false
def eqV:V->V->Bool
 | .non,.non=>true
 | .bl a,.bl b=>a==b
 | .bl a,.int b=>(if a then 1 else 0)==b
 | .int a,.bl b=>a==(if b then 1 else 0)
 | .int a,.int b=>a==b
 | .str a,.str b=>a==b
 |_,_=>false
theorem dg1 {A:Around}{s:Shared}{y x:V}{u v:Value}(ry:t7 y u)(rx:t7 x v)(fy:bo7 y=true)(fx:bo7 x=true):SeqAt.EqAt A s u v (eqV y x):=by
 cases y with
 |non=>
  cases ry
  cases x with
  |non=>cases rx;exact SeqAt.EqAt.same _
  |bl b=>cases rx;exact SeqAt.EqAt.none_bool b
  |int b=>obtain ⟨t,rfl⟩:=rx;exact SeqAt.EqAt.none_int b t
  |str b=>obtain ⟨t,rfl⟩:=rx;exact SeqAt.EqAt.none_str b t
  |_=>exact absurd (show false=true from fx) du3
 |bl a=>
  cases ry
  cases x with
  |non=>cases rx;exact SeqAt.EqAt.bool_none a
  |bl b=>cases rx;exact SeqAt.EqAt.bool_bool a b
  |int b=>obtain ⟨t,rfl⟩:=rx;exact SeqAt.EqAt.bool_int a b t
  |str b=>obtain ⟨t,rfl⟩:=rx;exact SeqAt.EqAt.bool_str a b t
  |_=>exact absurd (show false=true from fx) du3
 |int a=>
  obtain ⟨t',rfl⟩:=ry
  cases x with
  |non=>cases rx;exact SeqAt.EqAt.int_none a t'
  |bl b=>cases rx;exact SeqAt.EqAt.int_bool a t' b
  |int b=>obtain ⟨t,rfl⟩:=rx;exact SeqAt.EqAt.int_int a t' b t
  |str b=>obtain ⟨t,rfl⟩:=rx;exact SeqAt.EqAt.int_str a t' b t
  |_=>exact absurd (show false=true from fx) du3
 |str a=>
  obtain ⟨t',rfl⟩:=ry
  cases x with
  |non=>cases rx;exact SeqAt.EqAt.str_none a t'
  |bl b=>cases rx;exact SeqAt.EqAt.str_bool a t' b
  |int b=>obtain ⟨t,rfl⟩:=rx;exact SeqAt.EqAt.str_int a t' b t
  |str b=>obtain ⟨t,rfl⟩:=rx;exact SeqAt.EqAt.str_str a t' b t
  |_=>exact absurd (show false=true from fx) du3
 |_=>exact absurd (show false=true from fy) du3
theorem bq8:R4 X (.builtin "len") (fun xs H Q=>∃p ys,xs=[.ref p]/\(g9 X.K H p ys\/R3 X.K H p ys)/\Q (.int ys.length) H):=by
 intro pins s σ H xs us Q I r h;obtain ⟨p,ys,rfl,hq,q⟩:=h;obtain ⟨u,rfl,rx⟩:=U6 r;cases rx;have hn:=bq3
 rcases hq with hq|hq
 · obtain ⟨its,r',pl,hz⟩:=I.list hq;have hlen:=r'.length;exact Calls.call_len_list pl.isList (by simp only[dt6]<;>omega) ⟨.int ys.length,H,I.tok _,⟨s.toks+1,by rw[dt6,hlen]⟩,q⟩
 · obtain ⟨its,r',pl,hz⟩:=I.tuple hq;have hlen:=r'.length;exact len_tuple pl (by simp only[dt6]<;>omega) ⟨.int ys.length,H,I.tok _,⟨s.toks+1,by rw[dt6,hlen]⟩,q⟩
theorem bq9:R4 X (.type "list") (fun xs H Q=>∃p ys,xs=[.ref p]/\(g9 X.K H p ys\/R3 X.K H p ys)/\∀l,H l=none->Q (.ref l) (c8 H l (.lst ys))):=by
 intro pins s σ H xs us Q I r h;obtain ⟨p,ys,rfl,hq,q⟩:=h;obtain ⟨u,rfl,rx⟩:=U6 r;cases rx
 have fin:∀(its:List Value),o3 ys its->ys.length<=sizeLine->∀(h':Heap) (c':Nat),(∀b o',s.heap.get? b=some o'->h'.get? b=some o')->
     h'.get? s.heap.objs.size=some {cls:= .type "list",dict:=none,data:= .seq its.toArray c',slots:= #[]}->EP X pins σ Q (.ref s.heap.objs.size) {s with heap:=h'}:=fun its r' hz h' c' kp e=>
   ⟨.ref s.heap.objs.size,_,I.laid (t':=s.toks) kp (dr9 _) (show x6 X.prog X.w _ h' _ (.lst ys) from ⟨hz,its,c',r',e⟩),rfl,q _ (I.hok.fresh (dr9 _))⟩
 rcases hq with hq|hq
 · obtain ⟨its,r',pl,hz⟩:=I.list hq;have hlen:=r'.length;obtain ⟨o,ho,hc,n,hd⟩:=pl.isList;exact call_list_seq p (.inl rfl) ho hc hd (fun h' c' kp e=>fin its r' hz h' c' kp e) (by simp only[dt6]<;>omega)
 · obtain ⟨its,r',pl,hz⟩:=I.tuple hq;have hlen:=r'.length;obtain ⟨o,ho,hc,n,hd⟩:=pl;exact call_list_seq p (.inr rfl) ho hc hd (fun h' c' kp e=>fin its r' hz h' c' kp e) (by simp only[dt6]<;>omega)
theorem bn5:R4 X (.type "tuple") (fun xs H Q=>∃p ys,xs=[.ref p]/\((g9 X.K H p ys/\∀l,H l=none->Q (.ref l) (c8 H l (.tup ys)))\/(R3 X.K H p ys/\Q (.ref p) H))):=by
 intro pins s σ H xs us Q I r h;obtain ⟨p,ys,rfl,h⟩:=h;obtain ⟨u,rfl,rx⟩:=U6 r;cases rx
 rcases h with ⟨hq,q⟩|⟨hq,q⟩
 · obtain ⟨its,r',pl,hz⟩:=I.list hq;have hlen:=r'.length;refine call_tuple_list pl.isList (fun h' kp=> ?_) (by simp only[dt6]<;>omega);have I1:h7 X pins σ H {s with heap:=h'}:=I.kept (t':=s.toks) kp
   have I2:h7 X pins σ (c8 H h'.objs.size (.tup ys)) {s with heap:=h'.push {cls:= .type "tuple",data:= .seq its.toArray}}:=
     I1.laid (t':=s.toks) (fun b o e=>Heap.get?_push_of_some _ e) (dr9 _) (show x6 X.prog X.w _ _ _ (.tup ys) from ⟨hz,its,r',IsTup.new _ _⟩)
   exact ⟨.ref h'.objs.size,_,I2,rfl,q _ (I1.hok.fresh (dr9 _))⟩
 · obtain ⟨its,r',pl,hz⟩:=I.tuple hq;exact call_tuple_same pl ⟨.ref p,H,I,rfl,q⟩
def tyV (K:PySem.W.Frag)(T:String)(x:V)(H:Hp):Prop:=match x with
 | .str _=>T="str"
 | .int _=>T="int"
 | .ref p=>(T="list"/\∃xs,g9 K H p xs)\/(T="tuple"/\∃o,K.lookup p=some o/\o.cls= .type "tuple"/\o.dict=none)\/
     (T="dict"/\((∃kvs,H p=some (.dK kvs))\/∃kvs,H p=some (.dT kvs)))\/(T="set"/\∃S n,H p=some (.set S n))
 |_=>False
theorem dg2 {pins:List (Addr×Obj)}{σ:St}{H:Hp}{s:Shared}{T:String}{x:V}{v:Value}(I:h7 X pins σ H s)(r:t7 x v)(ty:tyV X.K T x H):
   s.TypeIs v T/\∀a,v= .ref a->∃ob,s.heap.get? a=some ob/\ob.dict=none:=by
 cases x with
 |str z=>
  obtain ⟨t,rfl⟩:=r;cases (show T="str" from ty);exact ⟨typeIs_str s z t,fun _ e=>nomatch e⟩
 |int i=>
  obtain ⟨t,rfl⟩:=r;cases (show T="int" from ty);exact ⟨typeIs_int s i t,fun _ e=>nomatch e⟩
 |ref p=>
  cases r
  rcases ty with ⟨rfl,xs,hq⟩|⟨rfl,o,hk,hc,hd⟩|⟨rfl,hk⟩|⟨rfl,S,n,hk⟩
  · obtain ⟨its,_,pl,_⟩:=I.list hq;refine ⟨pl.isList.typeIs,fun a e=> ?_⟩;cases e;obtain ⟨o,n,e,c,hd,_⟩:=pl;exact ⟨o,e,hd⟩
  · refine ⟨⟨o,I.kIn p o hk,hc⟩,fun a e=> ?_⟩;cases e;exact ⟨o,I.kIn _ o hk,hd⟩
  · have z:∃o,s.heap.get? p=some o/\o.ExactDict:=by
      rcases hk with ⟨kvs,hk⟩|⟨kvs,hk⟩
      · obtain ⟨_,_,_,_,o,_,_,e,ex,_⟩:=I.hok p _ hk;exact ⟨o,e,ex⟩
      · obtain ⟨_,_,_,_,o,_,_,e,ex,_⟩:=I.hok p _ hk;exact ⟨o,e,ex⟩
    obtain ⟨o,e,ex⟩:=z;refine ⟨⟨o,e,ex.1⟩,fun a e2=> ?_⟩;cases e2;exact ⟨o,e,ex.2.1⟩
  · obtain ⟨o,_,_,_,e,ex,_⟩:=I.hok p _ hk;refine ⟨⟨o,e,ex.1⟩,fun a e2=> ?_⟩;cases e2;exact ⟨o,e,ex.2.1⟩
 |_=>exact False.elim ty
def tBM (K:PySem.W.Frag)(T:String)(r:V->List V->Hp->VK->Prop)(to:TE)(t:TA):TE:=fun σ H Q=>to σ H fun x H1=>tyV K T x H1/\t σ H1 fun xs H2=>r x xs H2 Q
variable {o e:Expr} {es:List Expr} {to:TE} {t:TA} {name:Str} {apos cpos:Pos} {T id:String} {r:V->List V->Hp->VK->Prop}
theorem bo8 (pa:PlainAttrs T)(slot:Slot T name id)(hty:typeOf (.builtin id)=pure (.type "method_descriptor"))(hm:MtR X id r)(ho:PE X o to)(ha:PA X (e::es) t)
   (hbase:attributeBase o name X.env (eval o X.env)=eval o X.env:=by rfl)
   (hfew:((backTo cpos (starEach (e::es) X.env)).all (fun x=> !x.1)&&(backToKw cpos (keywordEach [] X.env)).all (fun x=>x.1.isSome)
     &&decide ((e::es).length+([]:List Keyword).length+(if ([]:List Keyword).isEmpty then 0 else 1) < 30))=true:=by rfl)
   (hline:(apos.endLine==cpos.line)=true:=by rfl) (hs:starEach (e::es) X.env=(false,eval e X.env)::starEach es X.env:=by rfl) (hplain:(backTo cpos (starEach es X.env)).any (·.1)=false:=by rfl):
   PE X (.Call (.Attribute o name apos) (e::es) [] cpos) (tBM X.K T r to t):=by
 intro pins s σ H Q I h;refine wpAny_Call_method_late hbase hfew hline rfl (q9 (ho pins s σ H _ I h) fun v s1 ⟨x,H1,I1,r1,ty,q1⟩=> ?_);obtain ⟨h1,h2⟩:=dg2 I1 r1 ty;refine ⟨T,id,pa,slot,hty,h1,h2,?_⟩;have hA:=ha cpos pins s1 σ H1 _ I1 q1;rw[hs] at hA ⊢;refine Calls.callWith_builtin (by show (false||(backTo cpos (starEach es X.env)).any (·.1))=false;rw[hplain]<;>rfl) (Calls.evalArgs_plain ?_)
 exact q9 hA fun us s2 ⟨vs,H2,I2,r2,q2⟩=>hm pins s2 σ H2 x vs v us Q I2 r1 r2 q2
end
end L2
namespace L2
open PySem PySem.Spec PyProof.Rows
def MtM (X:Cx)(id:String)(r:V->List V->Hp->VK->Prop):Prop:=
 ∀(pins:List (Addr×Obj)) (s:Shared) (σ:St) (H:Hp) (x:V) (xs:List V) (v:Value) (us:List Value) (Q:VK),h7 X pins σ H s->t7 x v->o3 xs us->r x xs H Q->
  wpAny (model X.prog X.w) X.A (call (.builtin id) (v::us)) (EP X pins σ Q) X.xe s
theorem o3.one:∀{x:V} {us:List Value},o3 [x] us->∃u,us=[u]/\t7 x u
 |_,_,.cons r .nil=>⟨_,rfl,r⟩
theorem o3.eraseIdx:∀{xs:List V} {us:List Value} (i:Nat),o3 xs us->o3 (xs.eraseIdx i) (us.eraseIdx i)
 |_,_,_,.nil=> .nil
 |_,_,0,.cons _ t=>t
 |_,_,i+1,.cons r t=> .cons r (o3.eraseIdx i t)
theorem o3.rep {xs:List V}{us:List Value}(h:o3 xs us):∀k:Nat,o3 (dv8 k xs).flatten (dv8 k us).flatten
 |0=> .nil
 |k+1=>by
  rw[eb8,eb8,dv5,dv5];exact o3.append h (o3.rep h k)
theorem bj9 {α:Type}:∀(l:List α) (i:Nat),(l.eraseIdx i).length<=l.length
 |[],_=>dr9 _
 |_::_,0=>ei4 _
 |_::r,i+1=>Nat.succ_le_succ (bj9 r i)
theorem bk0 (its:List Value):∀(k:Nat) (acc:List Value),
   List.foldl (fun x1 x2=>x1++x2) acc.toArray (dv8 k its.toArray)=(acc++(dv8 k its).flatten).toArray
 |0,acc=>by simp
 |k+1,acc=>by
  have e:acc.toArray++its.toArray=(acc++its).toArray:=by simp
  have e2:(acc++its)++(dv8 k its).flatten=acc++(dv8 (k+1) its).flatten:=by
    rw[eb8,dv5,dt5]
  rw[<-e2,<-bk0 its k (acc++its),<-e,eb8,List.foldl_cons]
section
variable {X:Cx} {pins:List (Addr×Obj)} {σ:St} {H:Hp} {s:Shared} {l b:Addr} {xs ys zs:List V}
theorem h7.lset {its its':List Value}{n:Nat}{f:Array Value->Array Value}{t':Nat}(I:h7 X pins σ H s)(hH:H l=some (.lst xs))
   (e:s.heap.get? l=some {cls:= .type "list",data:= .seq its.toArray n}) (hf:f its.toArray=its'.toArray) (hv:o3 ys its') (hz:ys.length<=sizeLine):
   h7 X pins σ (c8 H l (.lst ys)) {s with heap:=s.heap.update l (Obj.mapSeq f),toks:=t'}:=by
 have q:=PySem.IsL.update e f;rw[hf] at q;refine I.write (x:=l) (e:=l) (by rw[hH];exact trivial) (.inl rfl) (fun b' u hb hu=>(Heap.get?_update_other s.heap (Obj.mapSeq f) (Ne.symm hb)).trans hu) ⟨_,q⟩ ?_;exact ⟨hz,its',_,hv,q⟩
theorem h7.lnew {its:List Value}{t':Nat}(I:h7 X pins σ H s)(hv:o3 ys its)(hz:ys.length<=sizeLine):
   h7 X pins σ (c8 H s.heap.objs.size (.lst ys)) {s with heap:=s.heap.push {cls:= .type "list",data:= .seq its.toArray},toks:=t'}:=
 I.laid (fun _ _ q=>Heap.get?_push_of_some _ q) (dr9 _) ⟨hz,its,0,hv,Heap.get?_push_size _ rfl⟩
theorem h7.fresh (I:h7 X pins σ H s):H s.heap.objs.size=none:=I.hok.fresh (dr9 _)
theorem h7.lstM (I:h7 X pins σ H s)(hH:H l=some (.lst xs)):xs.length<=sizeLine/\∃(its:List Value) (n:Nat),o3 xs its/\xs.length=its.length/\s.heap.get? l=some {cls:= .type "list",data:= .seq its.toArray n}:=by
 obtain ⟨z,its,n,r,e⟩:=I.hok l _ hH;exact ⟨z,its,n,r,r.length,e⟩
theorem cq7 {n:Nat}(h:n<=sizeLine):Builtin.List.listTooLong n=false:=by
 unfold Builtin.List.listTooLong;exact decide_eq_false (by omega)
end
section
variable {X:Cx}
def ca3:V->List V->Hp->VK->Prop:=fun x vs H Q=>∃l xs y,x= .ref l/\vs=[y]/\H l=some (.lst xs)/\xs.length < sizeLine/\Q .non (c8 H l (.lst (xs++[y])))
theorem cj3:MtM X "list.append" ca3:=by
 intro pins s σ H x vs v us Q I rx rv h;obtain ⟨l,xs,y,rfl,rfl,hH,hz,q⟩:=h;cases rx;obtain ⟨u,rfl,ru⟩:=rv.one;obtain ⟨z,its,n,r,hl,e⟩:=I.lstM hH;refine call_meets F.slot_list_append ⟨_,e,rfl⟩ F.entry_list_append (F.args_list_append_2 _ _) (PySem.list_append l its.toArray n u (by rw[dt6];omega)) ⟨e,?_⟩;refine ⟨.non,_,I.lset (its':=its++[u]) hH e (by simp) (r.append (.cons ru .nil)) ?_,rfl,q⟩;rw[ds6,ed7];omega
def cj4:V->List V->Hp->VK->Prop:=fun x vs H Q=>∃l xs i k y,x= .ref l/\vs=[.int i]/\H l=some (.lst xs)/\ -(2^63)<=i/\i < 2^63/\seqIndex? i xs.length=some k/\xs[k]? =some y/\Q y (c8 H l (.lst (xs.eraseIdx k)))
theorem cq8:MtM X "list.pop" cj4:=by
 intro pins s σ H x vs v us Q I rx rv h;obtain ⟨l,xs,i,k,y,rfl,rfl,hH,h1,h2,hk,hy,q⟩:=h;cases rx;obtain ⟨u,rfl,ru⟩:=rv.one;obtain ⟨t,rfl⟩:=ru;obtain ⟨z,its,n,r,hl,e⟩:=I.lstM hH;obtain ⟨w,hw,rw'⟩:=r.get hy
 refine call_meets F.slot_list_pop ⟨_,e,rfl⟩ F.entry_list_pop (F.args_list_pop_2 _ _)
   (MeetsSeq.list_pop_at l its.toArray n i t k w (fitsIndex_both h1 h2) (by rw[dt6,<-hl];exact hk) (by rw[<-dy1];exact hw) (by rw[dt6];omega)) ⟨e,?_⟩
 refine ⟨y,_,I.lset (its':=its.eraseIdx k) hH e ?_ (r.eraseIdx k) ?_,rw',q⟩
 · show its.toArray.eraseIdxIfInBounds k=(its.eraseIdx k).toArray;rw[List.eraseIdxIfInBounds_toArray]
 · have:=bj9 xs k;omega
def do9:R2:=fun x y H Q=>∃l b xs zs,x= .ref l/\y= .ref b/\H l=some (.lst xs)/\H b=some (.lst zs)/\xs.length+zs.length<=sizeLine/\∀p,H p=none->Q (.ref p) (c8 H p (.lst (xs++zs)))
theorem ab1:O6 X (binaryOp .Add) do9:=by
 intro pins s σ H x y v u Q I rx ry h;obtain ⟨l,b,xs,zs,rfl,rfl,hH,hB,hz,q⟩:=h;cases rx;cases ry;obtain ⟨z,its,n,r,hl,e⟩:=I.lstM hH;obtain ⟨z2,its2,n2,r2,hl2,e2⟩:=I.lstM hB;refine PySem.P.add_list e e2 ?_ (by rw[dt6,dt6];omega)
 have ea:its.toArray++its2.toArray=(its++its2).toArray:=by simp
 rw[ea];exact ⟨.ref _,_,I.lnew (t':=s.toks) (r.append r2) (by rw[ds6];omega),rfl,q _ I.fresh⟩
def dp0:R2:=fun x y H Q=>∃l k xs,x= .ref l/\y= .int k/\H l=some (.lst xs)/\ -(2^63)<=k/\k < 2^63/\xs.length*k.toNat<=sizeLine/\
 ∀p,H p=none->Q (.ref p) (c8 H p (.lst (dv8 k.toNat xs).flatten))
theorem cz1 {α:Type}(xs:List α)(k:Nat):(dv8 k xs).flatten.length=k*xs.length:=by
 induction k with
 |zero=>simp
 |succ k ih=>rw[eb8,dv5,ds6,ih,ef1,ea9]
theorem br0:O6 X (binaryOp .Mult) dp0:=by
 intro pins s σ H x y v u Q I rx ry h;obtain ⟨l,k,xs,rfl,rfl,hH,h1,h2,hz,q⟩:=h;cases rx;obtain ⟨t,rfl⟩:=ry;obtain ⟨z,its,n,r,hl,e⟩:=I.lstM hH
 have hlen:its.toArray.size*k.toNat<=sizeLine:=by rw[dt6,<-hl];exact hz
 have hcap:¬its.toArray.size*k.toNat > (2^63 - 1)/8:=by
   have:(sizeLine:Nat)<=(2^63 - 1)/8:=by decide
   omega
 have hfit:¬(!Builtin.List.listFitsIndex k)=true:=by
   rw[fitsIndex_both h1 h2];exact du3
 have hlong:¬Builtin.List.listTooLong (its.toArray.size*k.toNat)=true:=by
   rw[cq7 hlen];exact du3
 have hnew:List.foldl (fun x1 x2=>x1++x2) #[] (dv8 (if its.toArray.isEmpty=true then 0 else k.toNat) its.toArray)=(dv8 k.toNat its).flatten.toArray:=by
   have f0:∀m:Nat,List.foldl (fun x1 x2=>x1++x2) #[] (dv8 m its.toArray)=(dv8 m its).flatten.toArray:=fun m=>by
     have:=bk0 its m [];rw[em4] at this;exact this
   rw[f0]
   cases its with
   |nil=>simp
   |cons a r'=>rw[if_neg (by simp)]
 refine wpAny_binaryOp_repeat_ref (T:="list") (U:="int") (by decide) ⟨_,e,rfl⟩ (fun s'=>typeIs_int s' k t) noFill_list_mul F.fills_int_mul F.slot_int_rmul repeat_list F.slot_int_index.lookup
   (call_meets F.slot_int_rmul (typeIs_int s k t) F.entry_int_rmul (F.args_int_rmul_2 _ _) (int___rmul___int_list k t l its.toArray n)
     ⟨e,rfl,⟨_,e,rfl⟩,call_meets F.slot_list_mul ⟨_,e,rfl⟩ F.entry_list_mul (F.args_list_mul_2 _ _) (AutoListH.list___mul___list_int_3 l its.toArray n k t hfit hcap hlong) ⟨e,?_⟩⟩)
 rw[hnew];exact ⟨.ref _,_,I.lnew (t':=s.toks) (r.rep k.toNat) (by rw[cz1,ea5];exact hz),rfl,q _ I.fresh⟩
end
end L2
namespace L2
open PySem PySem.Spec PyProof.Rows
section
variable {κ:Type} [DecidableEq κ]
def A4 (kvs:List (κ×V))(k:κ):Option V:=(kvs.find? fun kv=>decide (kv.1=k)).map (·.2)
def U9 (kvs:List (κ×V))(k:κ)(v:V):List (κ×V):=
 if (kvs.any fun kv=>decide (kv.1=k))=true then kvs.map (fun kv=>if kv.1=k then (kv.1,v) else kv) else kvs++[(k,v)]
theorem Y8 {p:κ×V}{r:List (κ×V)}{k:κ}(e:p.1=k):A4 (p::r) k=some p.2:=by simp [A4,eg1,e]
theorem V0 {p:κ×V}{r:List (κ×V)}{k:κ}(e:¬p.1=k):A4 (p::r) k=A4 r k:=by simp [A4,eg1,e]
theorem ay5 (k:κ):∀kvs:List (κ×V),(kvs.any fun kv=>decide (kv.1=k))=(A4 kvs k).isSome
 |[]=>rfl
 |p::r=>by
  rw[ek5]
  by_cases e:p.1=k
  · simp only[Y8 e,decide_eq_true e,Bool.true_or,Option.isSome_some]
  · rw[V0 e,decide_eq_false e,Bool.false_or];exact ay5 k r
theorem ax6 (kvs:List (κ×V))(k:κ)(v:V):(U9 kvs k v).length<=kvs.length+1:=by
 unfold U9
 split
 · rw[dr6];omega
 · rw[ds6,dt9,eg2];omega
theorem ay6 {kvs:List (κ×V)}{k:κ}(v:V)(h:A4 kvs k=none):U9 kvs k v=kvs++[(k,v)]:=by
 unfold U9;rw[ay5,h];exact if_neg (by decide)
theorem ae1.isSome_eq {o:Option V}{u:Option Value}(r:ae1 o u):o.isSome=u.isSome:=by
 cases o with
 |none=>cases u with
  |none=>rfl
  |some _=>exact (show False from r).elim
 |some _=>cases u with
  |none=>exact (show False from r).elim
  |some _=>rfl
theorem KV.val {kvs:List (κ×V)}{vs:List (κ×Value)}(r:KV kvs vs)(k:κ):ae1 (A4 kvs k) (valueAt vs k):=by
 unfold KV at r
 induction r with
 |nil=>exact True.intro
 |@cons p q ps qs h t ih=>
  obtain ⟨h1,h2⟩:=h
  by_cases e:p.1=k
  · have e':q.1=k:=h1.symm.trans e
    have b:valueAt (q::qs) k=some q.2:=by simp [valueAt,eg1,e']
    rw[Y8 e,b];exact h2
  · have e':¬q.1=k:=fun z=>e (h1.trans z)
    have b:valueAt (q::qs) k=valueAt qs k:=by simp [valueAt,eg1,e']
    rw[V0 e,b];exact ih
theorem KV.any {kvs:List (κ×V)}{vs:List (κ×Value)}(r:KV kvs vs)(k:κ):(kvs.any fun kv=>decide (kv.1=k))=vs.any fun kv=>decide (kv.1=k):=by
 unfold KV at r
 induction r with
 |nil=>rfl
 |cons h t ih=>rw[ek5,ek5,ih,h.1]
theorem KV.repl {kvs:List (κ×V)}{vs:List (κ×Value)}(r:KV kvs vs)(k:κ){y:V}{u:Value}(ry:t7 y u):
   KV (kvs.map fun kv=>if kv.1=k then (kv.1,y) else kv) (vs.map fun kv=>if kv.1=k then (kv.1,u) else kv):=by
 unfold KV at r ⊢
 induction r with
 |nil=>exact .nil
 |@cons p q ps qs h t ih=>
  rw[dw3,dw3];refine .cons ?_ ih;obtain ⟨h1,h2⟩:=h
  by_cases e:p.1=k
  · rw[if_pos e,if_pos (h1.symm.trans e)];exact ⟨h1,ry⟩
  · rw[if_neg e,if_neg (fun z=>e (h1.trans z))];exact ⟨h1,h2⟩
theorem KV.put {kvs:List (κ×V)}{vs:List (κ×Value)}(r:KV kvs vs)(k:κ){y:V}{u:Value}(ry:t7 y u):KV (U9 kvs k y) (stored vs k u):=by
 unfold U9 stored;rw[r.any k]
 by_cases e:(vs.any fun kv=>decide (kv.1=k))=true
 · rw[if_pos e,if_pos e];exact r.repl k ry
 · rw[if_neg e,if_neg e];exact Paired.snoc r ⟨rfl,ry⟩
theorem KV.length {kvs:List (κ×V)}{vs:List (κ×Value)}(r:KV kvs vs):kvs.length=vs.length:=Paired.length r
end
theorem av3 {P:Program}{w:World}{k:o9}{u:Value}(r:t7 (kV k) u):(A6 P w).is k u=true:=by
 cases k with
 |inl i=>obtain ⟨t,e⟩:=(show ∃t,u=Value.int i t from r);subst e;exact ax4 P w i t
 |inr x=>obtain ⟨t,e⟩:=(show ∃t,u=Value.str x t from r);subst e;exact ax5 P w x t
theorem bk1 {P:Program}{w:World}:∀{ks:List o9} {us:List Value},o3 (ks.map kV) us->ItemsAre (A6 P w) ks us
 |[],_,r=>by rw[ed1] at r;cases r;exact .nil
 |k::ks,_,r=>by
  rw[dw3] at r
  cases r with
  |cons h t=>exact .cons (av3 h) (bk1 t)
abbrev KT (H:Hp):List (List o9×V)->List (List o9×Addr×Value)->Prop:=Paired fun p q=>p.1=q.1/\H q.2.1=some (.tup (p.1.map kV))/\t7 p.2 q.2.2
theorem KT.val {H:Hp}{kvs:List (List o9×V)}{xs:List (List o9×Addr×Value)}(r:KT H kvs xs)(k:List o9):ae1 (A4 kvs k) ((atKey xs k).map (·.2)):=by
 induction r with
 |nil=>exact True.intro
 |@cons p q ps qs h t ih=>
  obtain ⟨h1,_,h2⟩:=h
  by_cases e:p.1=k
  · have e':q.1=k:=h1.symm.trans e
    have b:atKey (q::qs) k=some q.2:=by simp [atKey,eg1,e']
    rw[Y8 e,b];exact h2
  · have e':¬q.1=k:=fun z=>e (h1.trans z)
    have b:atKey (q::qs) k=atKey qs k:=by simp [atKey,eg1,e']
    rw[V0 e,b];exact ih
theorem KT.repl {H:Hp}{kvs:List (List o9×V)}{xs:List (List o9×Addr×Value)}(r:KT H kvs xs)(k:List o9){y:V}{u:Value}(ry:t7 y u):
   KT H (kvs.map fun kv=>if kv.1=k then (kv.1,y) else kv) (xs.map (putAt k u)):=by
 induction r with
 |nil=>exact .nil
 |@cons p q ps qs h t ih=>
  rw[dw3,dw3];refine .cons ?_ ih;obtain ⟨h1,h2,h3⟩:=h;unfold putAt
  by_cases e:p.1=k
  · rw[if_pos e,if_pos (h1.symm.trans e)];exact ⟨h1,h2,ry⟩
  · rw[if_neg e,if_neg (fun z=>e (h1.trans z))];exact ⟨h1,h2,h3⟩
theorem KT.put {H:Hp}{kvs:List (List o9×V)}{xs:List (List o9×Addr×Value)}(r:KT H kvs xs)(k:List o9){b:Addr}{y:V}{u:Value}(hb:H b=some (.tup (k.map kV)))(ry:t7 y u):
   KT H (U9 kvs k y) (storedH xs k b u):=by
 have e:(kvs.any fun kv=>decide (kv.1=k))=(atKey xs k).isSome:=by
   rw[ay5,(r.val k).isSome_eq,ek6]
 unfold U9 storedH;rw[e]
 by_cases q:(atKey xs k).isSome=true
 · rw[if_pos q,if_pos q];exact r.repl k ry
 · rw[if_neg q,if_neg q];exact Paired.snoc r ⟨rfl,hb,ry⟩
theorem KT.keeps {H H':Hp}{kvs:List (List o9×V)}{xs:List (List o9×Addr×Value)}(r:KT H kvs xs)(ht:∀b ys,H b=some (.tup ys)->H' b=some (.tup ys)):KT H' kvs xs:=
 Paired.mapP r fun _ _ z=>⟨z.1,ht _ _ z.2.1,z.2.2⟩
section
variable {P:Program} {w:World} {H:Hp} {h:Heap} {a:Addr}
theorem cx1 {u:HO}(ok:K2 P w H h)(e:Rd H a u):x6 P w H h a u:=e.ok ok
theorem bb8 {kvs:List (o9×V)}(ok:K2 P w H h)(e:Rd H a (.dK kvs)):kvs.length<=sizeLine/\(a==sysModules)=false/\∃vs,KV kvs vs/\h.DictOf (A6 P w) a vs:=
 show x6 P w H h a (.dK kvs) from cx1 ok e
theorem cx2 {kvs:List (o9×V)}(ok:K2 P w H h)(e:H a=some (.dK kvs)):kvs.length<=sizeLine/\(a==sysModules)=false/\∃vs,KV kvs vs/\h.DictOf (A6 P w) a vs:=bb8 ok (.inl e)
theorem aj2 {ks:List o9}(ok:K2 P w H h)(e:H a=some (.tup (ks.map kV))):(tupleKind (A6 P w)).is h ks a:=by
 obtain ⟨_,its,r,o,h1,h2,n,h3⟩:=(show x6 P w H h a (.tup (ks.map kV)) from ok a _ e);exact ⟨o,its.toArray,n,h1,h2,h3,by simpa using bk1 r⟩
theorem bb9 {kvs:List (List o9×V)}(ok:K2 P w H h)(e:Rd H a (.dT kvs)):kvs.length<=sizeLine/\(a==sysModules)=false/\
   ∃xs,KT H kvs xs/\h.DictOfH (tupleKind (A6 P w)) a xs:=by
 obtain ⟨z,y,xs,r,o,es,ep,h1,h2,h3,h4,h5⟩:=(show x6 P w H h a (.dT kvs) from cx1 ok e);refine ⟨z,y,xs,r,o,es,ep,h1,h2,h3,h4,fun x hx=> ?_,h5⟩
 have all:∀{l:List (List o9×V)} {m:List (List o9×Addr×Value)},KT H l m->∀x∈m,(tupleKind (A6 P w)).is h x.1 x.2.1:=by
   intro l m q
   induction q with
   |nil=>intro x hx;exact nomatch hx
   |@cons p q ps qs hq t ih=>
    intro x hx
    rcases dt8.mp hx with e|hx
    · subst e;exact aj2 ok (by rw[<-hq.1];exact hq.2.1)
    · exact ih x hx
 exact all r x hx
theorem ce4 {kvs:List (List o9×V)}(ok:K2 P w H h)(e:H a=some (.dT kvs)):kvs.length<=sizeLine/\(a==sysModules)=false/\
 ∃xs,KT H kvs xs/\h.DictOfH (tupleKind (A6 P w)) a xs:=bb9 ok (.inl e)
end
def ae7 (H:Hp)(a:Addr)(y:V)(r:Option V):Prop:=
 (∃kvs k,Rd H a (.dK kvs)/\y=kV k/\r=A4 kvs k)\/∃kvs k b,Rd H a (.dT kvs)/\y= .ref b/\H b=some (.tup (k.map kV))/\r=A4 kvs k
def aq2 (H:Hp)(a:Addr)(y v:V)(H':Hp):Prop:=
 (∃kvs k,H a=some (.dK kvs)/\y=kV k/\kvs.length < sizeLine/\H'=c8 H a (.dK (U9 kvs k v)))\/
 ∃kvs k b,H a=some (.dT kvs)/\y= .ref b/\H b=some (.tup (k.map kV))/\kvs.length < sizeLine/\H'=c8 H a (.dT (U9 kvs k v))
theorem ae7.k {H:Hp}{a:Addr}{kvs:List (o9×V)}{k:o9}(e:H a=some (.dK kvs)):ae7 H a (kV k) (A4 kvs k):= .inl ⟨kvs,k,.inl e,rfl,rfl⟩
theorem aq2.k {H:Hp}{a:Addr}{kvs:List (o9×V)}{k:o9}{v:V}(e:H a=some (.dK kvs))(hl:kvs.length < sizeLine):aq2 H a (kV k) v (c8 H a (.dK (U9 kvs k v))):= .inl ⟨kvs,k,e,rfl,hl,rfl⟩
section
variable {X:Cx} {pins:List (Addr×Obj)} {σ:St} {H:Hp} {s:Shared} {a:Addr} {y v:V} {u r:Value} {o:Option V} {A:Around} {E:Value->Shared->Prop}
theorem h7.big (I:h7 X pins σ H s):sysModules < s.heap.objs.size:=by
 have h:mainGlobals < s.heap.objs.size:=(I.mod.glob.keeps I.bk).lt;exact Nat.lt_trans (by decide) h
theorem cj5 {Q:Value->Shared->Prop}(hu:A.units+1 < cLine)(I:h7 X pins σ H s)(g:ae7 H a y (some v))(ry:t7 y u)(h:∀w' s',h7 X pins σ H s'->t7 v w'->Q w' s'):
   wpAny (model X.prog X.w) A (getItem (.ref a) u) Q E s:=by
 rcases g with ⟨kvs,k,e,ey,l⟩|⟨kvs,k,b,e,ey,eb,l⟩
 · subst ey;obtain ⟨z,hd,vs,rel,dd⟩:=bb8 I.hok e;obtain ⟨w',hw,rw'⟩:=ae1.some_of (v:=v) (o:=valueAt vs k) (by rw[l];exact rel.val k);exact wpAny_getItem_of (av3 ry) dd.mapOf hw (h w' _ (I.tok _) rw')
 · subst ey;cases (show u=Value.ref b from ry);obtain ⟨z,hd,xs,rel,dd⟩:=bb9 I.hok e;obtain ⟨w',hw,rw'⟩:=ae1.some_of (v:=v) (o:=(atKey xs k).map (·.2)) (by rw[l];exact rel.val k);obtain ⟨p,hp,hp2⟩:=ed3.mp hw;refine wpAny_getItem_heap (tupleKind_room_in1 hu) (aj2 I.hok eb) dd hp ?_;rw[hp2];exact h w' _ (I.tok _) rw'
theorem dp1 {Q:Value->Shared->Prop}(hu:A.units+1 < cLine)(I:h7 X pins σ H s)(g:ae7 H a y o)(ry:t7 y u)(h:∀s',h7 X pins σ H s'->Q (.bool o.isSome) s'):
   wpAny (model X.prog X.w) A (compareOp .In u (.ref a)) Q E s:=by
 rcases g with ⟨kvs,k,e,ey,l⟩|⟨kvs,k,b,e,ey,eb,l⟩
 · subst ey;obtain ⟨z,hd,vs,rel,dd⟩:=bb8 I.hok e;refine wpAny_in_of (av3 ry) hd dd.mapOf ?_;rw[<-(rel.val k).isSome_eq,<-l];exact h _ (I.tok _)
 · subst ey;cases (show u=Value.ref b from ry);obtain ⟨z,hd,xs,rel,dd⟩:=bb9 I.hok e;refine wpAny_in_heap (tupleKind_room_in1 hu) (aj2 I.hok eb) hd dd ?_;have q:=(rel.val k).isSome_eq;rw[ek6] at q;rw[<-q,<-l];exact h _ (I.tok _)
theorem cz2 {Q:Value->Shared->Prop}(hu:A.units+1 < cLine)(I:h7 X pins σ H s)(g:ae7 H a y o)(ry:t7 y u)(h:∀s',h7 X pins σ H s'->Q (.bool (!o.isSome)) s'):
   wpAny (model X.prog X.w) A (compareOp .NotIn u (.ref a)) Q E s:=by
 rcases g with ⟨kvs,k,e,ey,l⟩|⟨kvs,k,b,e,ey,eb,l⟩
 · subst ey;obtain ⟨z,hd,vs,rel,dd⟩:=bb8 I.hok e;refine wpAny_notIn_of (av3 ry) hd dd.mapOf ?_;rw[<-(rel.val k).isSome_eq,<-l];exact h _ (I.tok _)
 · subst ey;cases (show u=Value.ref b from ry);obtain ⟨z,hd,xs,rel,dd⟩:=bb9 I.hok e;refine wpAny_notIn_heap (tupleKind_room_in1 hu) (aj2 I.hok eb) hd dd ?_;have q:=(rel.val k).isSome_eq;rw[ek6] at q;rw[<-q,<-l];exact h _ (I.tok _)
theorem aj3 {h':Heap}{t':Nat}{ob:HO}(I:h7 X pins σ H s)(mu:Mut (H a))(hs:Heap.SameBut a s.heap h')(he:∃q,h'.get? a=some q)(new:x6 X.prog X.w (c8 H a ob) h' a ob):
   h7 X pins σ (c8 H a ob) {s with heap:=h',toks:=t'}:=
 I.write (x:=a) (e:=a) mu (.inl rfl) (fun b q hb z=>(hs.2 b hb).trans z) he new
theorem cj6 {P:Program}{w:World}{H':Hp}{h':Heap}{kvs:List (o9×V)}{vs:List (o9×Value)}(z:kvs.length<=sizeLine)(hd:(a==sysModules)=false)(rel:KV kvs vs)(dd:h'.DictOf (A6 P w) a vs):
 x6 P w H' h' a (.dK kvs):=⟨z,hd,vs,rel,dd⟩
theorem cj7 {H':Hp}{Q:Unit->Shared->Prop}(hu:A.units+1 < cLine)(I:h7 X pins σ H s)(g:aq2 H a y v H')(ry:t7 y u)(rv:t7 v r)(h:∀s',h7 X pins σ H' s'->Q () s'):
   wpAny (model X.prog X.w) A (setItem (.ref a) u r) Q E s:=by
 rcases g with ⟨kvs,k,e,ey,l,eH⟩|⟨kvs,k,b,e,ey,eb,l,eH⟩
 · subst ey eH;obtain ⟨z,hd,vs,rel,dd⟩:=cx2 I.hok e
   have hz:vs.length<=sizeLine:=by rw[<-rel.length];exact z
   have hl:(U9 kvs k v).length<=sizeLine:=by have:=ax6 kvs k v;omega
   refine wpAny_setItem_pairs (hsz:=hz) (av3 ry) dd fun h' dd' hs=>h _ ?_
   have he:∃q,h'.get? a=some q:=let ⟨q,_,_,hq,_⟩:=dd';⟨q,hq⟩;exact aj3 I (by rw[e];exact True.intro) hs he (cj6 hl hd (rel.put k rv) dd')
 · subst ey eH;cases (show u=Value.ref b from ry);obtain ⟨z,hd,xs,rel,dd⟩:=ce4 I.hok e
   have hz:xs.length<=sizeLine:=by rw[<-Paired.length rel];exact z
   have hl:(U9 kvs k v).length<=sizeLine:=by have:=ax6 kvs k v;omega
   refine wpAny_setItem_heap (hsz:=hz) (tupleKind_room_in1 hu) (aj2 I.hok eb) dd fun h' dd' hs=>h _ ?_
   obtain ⟨q,es,ep,hq,h2,h3,h4,_,h5⟩:=dd';refine aj3 I (by rw[e];exact True.intro) hs ⟨q,hq⟩ ⟨hl,hd,_,(rel.put k eb rv).keeps fun c ys ec=> ?_,q,es,ep,hq,h2,h3,h4,h5⟩;rw[g7 (cd6 ec e (fun z=>nomatch z))];exact ec
end
def dg3 (i:Expr):Prop:=∀ov iv,subscripted i false ov iv=operate [ov,iv] (getItem ov iv)
theorem cz3 {prog:Program}{w:World}{A:Around}{E:Value->Shared->Prop}{s:Shared}{env:Env}{value slice:Expr}{pos:Pos}{T id:String}{Q:Value->Shared->Prop}
   (hl:typeLookup (.type T) "__getitem__"=pure (some (.builtin id))) (hs:dg3 slice)
   (h:wpAny (model prog w) A (eval value env) (fun o s₁=>wpAny (model prog w) A (eval slice env) (fun i s₂=>s₂.TypeIs o T/\wpAny (model prog w) A (getItem o i) Q E s₂) E s₁) E s):
   wpAny (model prog w) A (eval (.Subscript value slice pos) env) Q E s:=by
 refine Subscript_ (wpAny_mono h (fun o s₁ h₁=>wpAny_mono h₁ (fun i s₂ h₂=> ?_) fun _ _ x=>x) fun _ _ x=>x);obtain ⟨hT,h₂⟩:=h₂;unfold subscriptTail;refine wpAny_bind ?_;rw[getitemInPython_of_ne hT.not_modules];refine wpAny_bind (wpAny_specialOf hT hl ?_)
 have fin:wpAny (model prog w) A (subscripted slice false o i) (fun r s₃=>wpAny (model prog w) A (letTemporaryGo value o r >>=fun _=>pure r) Q E s₃) E s₂:=by
   rw[hs o i];exact wpAny_operating (wpAny_mono h₂ (fun r s₃ h₃=>wpAny_bind (wpAny_letTemporaryGo (wpAny_pure h₃))) fun _ _ x=>x)
 first
   |exact wpAny_pure (wpAny_bind fin)
   |exact wpAny_bind (wpAny_pure (wpAny_bind fin))
   |exact wpAny_bind fin
theorem bx9 {X:Cx}{pins:List (Addr×Obj)}{σ:St}{H:Hp}{s:Shared}{a:Addr}{y:V}{o:Option V}(I:h7 X pins σ H s)(g:ae7 H a y o):s.TypeIs (.ref a) "dict":=by
 rcases g with ⟨kvs,k,e,_,_⟩|⟨kvs,k,b,e,_,_,_⟩
 · obtain ⟨_,_,vs,_,dd⟩:=bb8 I.hok e;exact dd.typeIs
 · obtain ⟨_,_,xs,_,dd⟩:=bb9 I.hok e;exact dd.typeIs
def dl0 (td ty:TE):TE:=fun σ H Q=>td σ H fun x H1=>ty σ H1 fun y H2=>∃a v,x= .ref a/\ae7 H2 a y (some v)/\Q v H2
def dp2 (ty td:TE):TE:=fun σ H Q=>ty σ H fun y H1=>td σ H1 fun x H2=>∃a o,x= .ref a/\ae7 H2 a y o/\Q (.bl o.isSome) H2
def cz4 (ty td:TE):TE:=fun σ H Q=>ty σ H fun y H1=>td σ H1 fun x H2=>∃a o,x= .ref a/\ae7 H2 a y o/\Q (.bl (!o.isSome)) H2
def dl1 (td ty tv:TE):TS:=fun D σ H=>tv σ H fun v H1=>td σ H1 fun x H2=>ty σ H2 fun y H3=>∃a H4,x= .ref a/\aq2 H3 a y v H4/\D.nx σ H4
section
variable {X:Cx} {o i e value:Expr} {pos pos' tpos:Pos} {td ty tv:TE}
theorem ad3 (hu:X.A.units+1 < cLine)(ho:PE X o td)(hi:PE X i ty)(hs:dg3 i):PE X (.Subscript o i pos) (dl0 td ty):=by
 intro pins s σ H Q I h;refine cz3 PySem.F.slot_dict_getitem.lookup hs (q9 (ho pins s σ H _ I h) fun u s1 ⟨x,H1,I1,rx,q1⟩=>q9 (hi pins s1 σ H1 _ I1 q1) fun iv s2 ⟨y,H2,I2,ry,a,v,ex,g,q2⟩=> ?_);subst ex;obtain rfl:u=Value.ref a:=rx;exact ⟨bx9 I2 g,cj5 hu I2 g ry fun w' s3 I3 rw'=>⟨v,H2,I3,rw',q2⟩⟩
theorem dg4 (hu:X.A.units+1 < cLine)(hi:PE X i ty)(ho:PE X o td):PC X .In i o (dp2 ty td):=by
 intro pins s σ H Q I h
 refine q9 (hi pins s σ H _ I h) fun iv s1 ⟨y,H1,I1,ry,q1⟩=>q9 (ho pins s1 σ H1 _ I1 q1) fun u s2 ⟨x,H2,I2,rx,a,ov,ex,g,q2⟩=> ?_
 subst ex;obtain rfl:u=Value.ref a:=rx
 exact dp1 hu I2 g ry fun s3 I3=>⟨.bl ov.isSome,H2,I3,rfl,q2⟩
theorem cj8 (hu:X.A.units+1 < cLine)(hi:PE X i ty)(ho:PE X o td):PC X .NotIn i o (cz4 ty td):=by
 intro pins s σ H Q I h
 refine q9 (hi pins s σ H _ I h) fun iv s1 ⟨y,H1,I1,ry,q1⟩=>q9 (ho pins s1 σ H1 _ I1 q1) fun u s2 ⟨x,H2,I2,rx,a,ov,ex,g,q2⟩=> ?_
 subst ex;obtain rfl:u=Value.ref a:=rx
 exact cz2 hu I2 g ry fun s3 I3=>⟨.bl (!ov.isSome),H2,I3,rfl,q2⟩
theorem av4 (hu:X.A.units+1 < cLine)(ho:PE X o td)(hi:PE X i ty)(hv:PE X value tv)(hs:swapsWith value (some (.Subscript o i pos')) pos.line X.env=pure false):
   PS X (.Assign [.Subscript o i pos'] value pos) (dl1 td ty tv):=by
 intro pins s σ H D I h;refine wpAny_Assign_Subscript (q9 (hv pins s σ H _ I h) fun r s1 ⟨v,H1,I1,rv,q1⟩=>q9 (ho pins s1 σ H1 _ I1 q1) fun u s2 ⟨x,H2,I2,rx,q2⟩=>q9 (hi pins s2 σ H2 _ I2 q2) fun iv s3 ⟨y,H3,I3,ry,a,H4,ex,g,q3⟩=> ?_) hs;subst ex;obtain rfl:u=Value.ref a:=rx
 exact cj7 hu I3 g ry rv fun s4 I4=>⟨σ,H4,I4,q3⟩
end
theorem cq9 {P:Program}{w:World}{H:Hp}(h:Heap)(hb:sysModules < h.objs.size):x6 P w H (h.push {cls:= .type "dict",data:= .dict #[]}) h.objs.size (.dK []):=
 ⟨du2 _,beq_eq_false_iff_ne.mpr (Ne.symm (dw7 hb)),[],.nil,Heap.DictOf.new h⟩
theorem cr0 {P:Program}{w:World}{H:Hp}(h:Heap)(hb:sysModules < h.objs.size):x6 P w H (h.push {cls:= .type "dict",data:= .dict #[]}) h.objs.size (.dT []):=
 ⟨du2 _,beq_eq_false_iff_ne.mpr (Ne.symm (dw7 hb)),[],.nil,_,#[],0,Heap.get?_push_size _ rfl,⟨rfl,rfl,rfl⟩,rfl,rfl,dx7⟩
def dg5:TE:=fun _ H Q=>∀p,H p=none->Q (.ref p) (c8 H p (.dK []))
def dg6:TE:=fun _ H Q=>∀p,H p=none->Q (.ref p) (c8 H p (.dT []))
section
variable {X:Cx} {pos:Pos}
theorem V1:PE X (.Dict [] [] pos) dg5:=fun pins s σ H Q I h=>
 wpAny_Dict_empty ⟨.ref s.heap.objs.size,_,I.laid (a:=s.heap.objs.size) (o:= .dK []) (t':=s.toks) (fun _ _ q=>Heap.get?_push_of_some _ q) (dr9 _) (cq9 s.heap I.big),rfl,h _ (I.hok.fresh (dr9 _))⟩
theorem cr1:PE X (.Dict [] [] pos) dg6:=fun pins s σ H Q I h=>
 wpAny_Dict_empty ⟨.ref s.heap.objs.size,_,I.laid (a:=s.heap.objs.size) (o:= .dT []) (t':=s.toks) (fun _ _ q=>Heap.get?_push_of_some _ q) (dr9 _) (cr0 s.heap I.big),rfl,h _ (I.hok.fresh (dr9 _))⟩
end
end L2
namespace Att
open PySem PySem.W PySem.Calls PyProof.Rows
theorem bc0 {P:Params}{h:Heap}:∀(ns:List Int) (vs:List Value),WellAll P h vs (ns.map WData.int)->IntsAre vs ns:=by
 intro ns
 induction ns with
 |nil=>
  intro vs w;rw[ed1] at w;cases w;exact .nil
 |cons n ns ih=>
  intro vs w;rw[dw3] at w
  cases w with
  |cons a b=>
   cases a;exact .cons _ _ (ih _ b)
theorem cj9 {l:OpenLaw}{n:Nat}(hn:l.most=some n){P:Params}{h:Heap}{args:List WData}{vals:List Value}
   (hpre:l.row.toRowW.claim.pre args=true) (hwl:WellAll P h vals args):
   ∃a vs ns,vals=[Value.ref a]/\args=[WData.list (ns.map WData.int)]/\h.get? a=some {cls:= .type "list",data:= .seq vs.toArray}/\IntsAre vs ns/\ns.length<=n:=by
 have hsh:WShape.hasAll [] args [.list .int]=true:=(pre_splitW hpre).1;have hc:l.pre.holds [] {args:=args}=true:=(pre_splitW hpre).2;obtain ⟨d,r,rfl,h1,h2⟩:=hasAllW_cons hsh;obtain rfl:=hasAllW_nil h2;obtain ⟨xs,rfl,h3⟩:=hasW_list h1;obtain ⟨ns,rfl⟩:=items_int h3
 have hlen:ns.length<=n:=by
   unfold OpenLaw.pre at hc
   have h4:(WTm.not (.lt (.lit (.int (n:Int))) (.len (.arg 0)))).holds [] {args:=[.list (ns.map .int)]}=true:=by
     have h4:=(holds_andW hc).1;rw[hn] at h4;exact h4
   have h5:=condW_of h4 (w_not (w_lt w_lit (w_len_list (w_arg rfl))));rw[dr6] at h5
   refine Nat.le_of_not_lt fun q=> ?_
   have q':(n:Int) < ((ns.length:Nat):Int):=by omega
   first
     |(rw[decide_eq_true q'] at h5;exact absurd h5 (by decide))
     |(simp at h5;omega)
 cases hwl with
 |cons w1 w2=>
  cases w2
  cases w1 with
  |list ho hall=>exact ⟨_,_,ns,rfl,rfl,ho,bc0 ns _ hall,hlen⟩
theorem ck0 (l:OpenLaw)(args:List WData):l.row.toRowW.claim.post args (.bool true) args=true:=
 postW_of (r:=l.row.toRowW) (X:=(true==true))
   (show WShape.has [] (.bool true) .bool=true by first|rfl|decide|simp [WShape.has,WShape.arms,WShape.armsAll])
   (show (WTm.eq .res (.lit (.bool true))).value [] {args:=args,res:=some (.bool true),after:=args}=some (.bool (true==true)) from w_eq_bool (w_res rfl) w_lit) rfl
theorem dj6 {l:OpenLaw}{n:Nat}{q:Program}{loose:List Str}{XP:(Str->Option Value)->Heap->Prop}{YP:World->Heap->Prop}{d:DefRec}
   (hn:l.most=some n) (hdf:d.params.defaults=[])
   (call:∀(w:World) (s₀ s₁:Shared) (mg mb:Str->Option Value) (fa:Addr) (o:Obj) (pm cd doc:Value) (a:Addr) (vs:List Value) (ns:List Int),
     Ground q loose [] XP w s₀ mg mb s₁.heap->YP w s₁.heap->
     s₁.heap.get? fa=some o->o.data= .func (docDef d.name d.params d.body d.scope pm cd doc)->s₁.heap.CodeRec cd d.name->mg d.name=some (.ref fa)->
     s₁.heap.get? a=some {cls:= .type "list",data:= .seq vs.toArray}->IntsAre vs ns->ns.length<=n->s₁.gens= #[]->
     codeAny (model l.prog w) callerA (.call (.ref fa) ⟨[.ref a],[]⟩) (fun r s'=>r= .ok (.ret (.bool true))/\OldK s₁.heap s'.heap/\s'.os=s₁.os/\AllBare s'.gens) s₁):
   WalkO q loose XP YP l.row.toRowW d [] (fun f vs=>PySem.call f vs):=by
 intro w s₀ s₁ mg mb G Y fa o pm cd doc dV kV ho hd hcd hD hmg hg args vals as hpre hlay hrd hwl hlo;obtain rfl:dV= .none:=Dflts.none hD hdf;obtain rfl:kV= .none:=Dflts.noKw hD;obtain ⟨a,vs,ns,rfl,rfl,hobj,hints,hlen⟩:=cj9 hn hpre hwl;refine enter_call (codeAny_mono (call w s₀ s₁ mg mb fa o pm cd doc a vs ns G Y ho (fd_plain hd) hcd hmg hobj hints hlen hg) fun r s' hq=> ?_);obtain ⟨rfl,h2,h3,h4⟩:=hq;exact ⟨.inl ⟨.bool true,.bool true,[],rfl,fun _=>rfl,.bool true,ck0 l _,fun _=>⟨List.Pairwise.nil,fun _ hm=>(nomatch hm)⟩⟩,h2,h3,h4⟩
end Att
namespace L2
open PySem PySem.Spec PyProof.Rows
theorem aq3:∀{vs:List Value} {ns:List Int},IntsAre vs ns->o3 (ns.map V.int) vs
 |_,_,.nil=> .nil
 |_,_,.cons n t h=> .cons ⟨t,rfl⟩ (aq3 h)
def cr2 (H:Hp):Prop:=∀b,H b=none\/∃o xs,H b=some (.frz o (.lst xs))
theorem cr3 {P:Program}{w:World}{K:PySem.W.Frag}{mg mb:Str->Option Value}{CX:CXT}{k:Nat}{fa a:Addr}{fd:FuncData}{x:Str}{sp:Sp}{s₁:Shared}{vs:List Value}{ns:List Int}
   (KX:K.In s₁.heap) (hns:s₁.heap.Ns mainGlobals mg) (hb:s₁.heap.Ns builtinsNs mb) (hbb:∀x:Str,x≠"__name__"->mb x=bootBuiltins x) (hlim:s₁.heap.NoLimit) (hg:s₁.gens= #[])
   (ha:s₁.heap.get? a=some {cls:= .type "list",data:= .seq vs.toArray}) (hi:IntsAre vs ns) (hl:ns.length<=sizeLine) (hr:m7 k callerA)
   (F:∀base:Heap,K.In base->base.Ns mainGlobals mg->p6 P w K mg base CX k fa fd [x] sp) (hbind:∀(s:Shared) (u:Value),BindsTo s fd ⟨[u],[]⟩ [(x,u)])
   (hsp:∀H:Hp,cr2 H->g9 K H a (ns.map V.int)->sp [.ref a] H (fun v _=>v= .bl true) fun _ _ _=>False)
   (hCX:∀H e s',CX [] H s₁ (fun _ _ _=>False) e s'->False):
   codeAny (model P w) callerA (.call (.ref fa) ⟨[.ref a],[]⟩) (fun r s'=>r= .ok (.ret (.bool true))/\OldK s₁.heap s'.heap/\s'.os=s₁.os/\AllBare s'.gens) s₁:=by
 have rv:=aq3 hi;have lenV:=hi.length
 have core:∀H:Hp,cr2 H->g9 K H a (ns.map V.int)->K2 P w H s₁.heap->(∀b,H b≠none->b=a)->(H a≠none->K.lookup a=none)->
     codeAny (model P w) callerA (.call (.ref fa) ⟨[.ref a],[]⟩) (fun r s'=>r= .ok (.ret (.bool true))/\OldK s₁.heap s'.heap/\s'.os=s₁.os/\AllBare s'.gens) s₁:=by
   intro H hO hS hok hA hK
   have aw6:∀{b:Addr} {o:Obj},s₁.heap.get? b=some o->H b=none->(al2 s₁.heap H).get? b=some o:=fun e n=>cp8 e n
   have noA:∀{b:Addr} {o:Obj} {es:Array DictEntry} {ep:Nat},s₁.heap.get? b=some o->o.data= .dict es ep->H b=none:=fun {b o es ep} e d=>by
     cases q:H b with
     |none=>rfl
     |some u=>
      have e':b=a:=hA b (by rw[q];simp);subst e';rw[ha] at e;cases e;have d':Data.seq vs.toArray _=Data.dict es ep:=d;cases d'
   have nsK:∀{b:Addr} {m:Str->Option Value},s₁.heap.Ns b m->(al2 s₁.heap H).Ns b m:=fun {b m} ⟨o,es,ep,e,d,r⟩=>⟨o,es,ep,aw6 e (noA e d),d,r⟩
   have hKb:K.In (al2 s₁.heap H):=fun b o e=>aw6 (KX b o e) (by
     cases q:H b with
     |none=>rfl
     |some u=>
      have e':b=a:=hA b (by rw[q];simp);subst e'
      rw[hK (by rw[q];simp)] at e;cases e)
   have hM:Mod K mg (al2 s₁.heap H):=⟨hKb,nsK hns,⟨mb,nsK hb,hbb⟩,let ⟨mc,h1,h2⟩:=hlim;⟨mc,nsK h1,h2⟩⟩;have e0:ce1 P w K mg (al2 s₁.heap H) callerA [] s₁ H:=⟨rfl,hM,fun b o e=>cy1 e,eg6 (ci0 _ _),trivial,fun b hb=>absurd (show b∈([]:List Addr) from hb) (by simp),hok,.of_eq hg⟩
   refine codeAny_mono ((F _ hKb (nsK hns)).run callerA [] s₁ H ⟨[.ref a],[]⟩ [.ref a] [.ref a] _ _ hr e0 (hbind s₁ (.ref a)) (.cons rfl .nil) (hsp H hO hS)) fun r s' h=> ?_
   cases r with
   |error e=>exact (hCX H e s' h).elim
   |ok fl=>
    cases fl with
    |next=>exact False.elim h
    |brk=>exact False.elim h
    |cont=>exact False.elim h
    |ret u=>
     obtain ⟨v,H',os,bare,un,hok',r',q⟩:=h;have q':v= .bl true:=q;subst q';obtain rfl:u=Value.bool true:=r';refine ⟨rfl,OldK.of_keep fun b o e=> ?_,os,bare⟩
     cases q:H b with
     |none=>exact un.keep b o e q (by intro z;exact absurd (show b∈([]:List Addr) from z) (by simp)) (by simp)
     |some u=>
      rcases hO b with z|⟨ob,xs,z⟩
      · rw[q] at z;cases z
      · have z2:=un.frzs b ob _ z;obtain ⟨e1,_⟩:=hok b _ z;obtain ⟨e2,_⟩:=hok' b _ z2;rw[e] at e1;cases e1;exact e2
 cases hk:K.lookup a with
 |some o=>
  have e:=KX a o hk;rw[ha] at e;cases e
  refine core (fun _=>none) (fun _=> .inl rfl) (.inr ⟨_,vs.toArray,_,hk,rfl,rfl,rfl,by rw[dt6,lenV];exact hl,by simpa using rv⟩) (fun b u z=>by have z':(none:Option HO)=some u:=z;cases z') (fun b z=>absurd rfl z) fun z=>absurd rfl z
 |none=>
  refine core (fun b=>if b=a then some (.frz {cls:= .type "list",data:= .seq vs.toArray} (.lst (ns.map V.int))) else none) (fun b=> ?_) (.inl (.inr ⟨{cls:= .type "list",data:= .seq vs.toArray},if_pos rfl⟩)) (fun b u z=> ?_) (fun b z=> ?_) fun _=>hk
  · by_cases hb:b=a
    · exact .inr ⟨_,_,if_pos hb⟩
    · exact .inl (if_neg hb)
  · by_cases hb:b=a
    · have z':=(if_pos hb).symm.trans z;cases z';subst hb;exact ⟨ha,by rw[dr6];exact hl,vs,_,rv,ha⟩
    · have z':=(if_neg hb).symm.trans z;cases z'
  · by_cases hb:b=a
    · exact hb
    · exact absurd (if_neg hb) z
end L2
namespace L2
open PySem PySem.Spec PyProof.Rows
theorem dq2 {l:PySem.W.OpenLaw}{n k:Nat}{q:Program}{loose:List Str}{XP:(Str->Option Value)->Heap->Prop}{YP:World->Heap->Prop}{d:DefRec}{K:Params->PySem.W.Frag}{CX:World->CXT}{sp:World->Sp}{x:Str}
   (hn:l.most=some n) (hn2:n<=sizeLine) (hdf:d.params.defaults=[]) (hr:m7 k callerA)
   (hY:∀(w:World) (h:Heap),YP w h->(K w.params).In h)
   (F:∀(w:World) (mg:Str->Option Value) (fa:Addr) (h:Heap),(K w.params).In h->h.Ns mainGlobals mg->mg d.name=some (.ref fa)->
     ∃fd:FuncData,(∀(s:Shared) (u:Value),BindsTo s fd ⟨[u],[]⟩ [(x,u)])/\
      ∀base:Heap,(K w.params).In base->base.Ns mainGlobals mg->p6 l.prog w (K w.params) mg base (CX w) k fa fd [x] (sp w))
   (hsp:∀(w:World) (H:Hp) (a:Addr) (ns:List Int),ns.length<=n->cr2 H->g9 (K w.params) H a (ns.map V.int)->sp w [.ref a] H (fun v _=>v= .bl true) fun _ _ _=>False)
   (hCX:∀(w:World) (H:Hp) (s:Shared) (e:Value) (s':Shared),CX w [] H s (fun _ _ _=>False) e s'->False):
   PySem.W.WalkO q loose XP YP l.row.toRowW d [] (fun f vs=>PySem.call f vs):=by
 refine Att.dj6 hn hdf fun w s₀ s₁ mg mb fa o pm cd doc a vs ns G Y ho hd hcd hmg hobj hints hlen hg=> ?_
 have KX:=hY w _ Y;obtain ⟨fd,hb,hF⟩:=F w mg fa _ KX G.T.g hmg
 exact cr3 KX G.T.g G.T.b G.T.builtins G.T.nolimit hg hobj hints (dt4 hlen hn2) hr hF hb (fun H hO hS=>hsp w H a ns hlen hO hS) fun H e s'=>hCX w H s₁ e s'
end L2
namespace L2
open PySem PySem.Spec PyProof.Rows
def ad4 (s:Stmt):Arguments:=match s with
 | .FunctionDef _ a _ _ _ _ _ _ _ _=>a
 |_=>{posonlyargs:=[],args:=[],vararg:=none,kwonlyargs:=[],kw_defaults:=[],kwarg:=none,defaults:=[]}
def Y9 (s:Stmt):List Stmt:=match s with
 | .FunctionDef _ _ b _ _ _ _ _ _ _=>b
 |_=>[]
def j6 (s:Stmt):Scope:=match s with
 | .FunctionDef _ _ _ _ _ _ sc _ _ _=>sc
 |_=>{kind:= .function,names:=[],isGenerator:=false,isCoroutine:=false}
abbrev A8:CXT:=fun _ _ _ _ _ _=>False
abbrev E0:XK:=fun _ _ _=>False
theorem dl2 {X:Cx}:bq5 A8 X E0:=fun _ _ _ _ _ _ _ h=>h.elim
structure A9 (K:PySem.W.Frag)(x qual:Str)(st:Stmt)(f:Addr)(fd:FuncData):Prop where
 ex:∃(oc:Value) (od:Option Addr) (kV doc pm:Value) (an:Option Addr) (cdv ct:Value) (osl:Array (Option Value)),
   fd=PySem.W.fnOf x qual (ad4 st) (Y9 st) (j6 st) .none kV doc pm an cdv ct/\K.lookup f=some ⟨oc,od,.func fd,osl⟩/\PySem.W.codeIn K cdv qual=true
 kp:PySem.W.keepIn K (.ref f)=true
section
variable {P:Program} {w:World} {K:PySem.W.Frag} {mg:Str->Option Value} {base:Heap}
theorem A9.ok {x qual:Str}{st:Stmt}{f:Addr}{fd:FuncData}{N ps:List Str}{k:Nat}{sp:Sp}(F:A9 K x qual st f fd)(S:m8 N ps (j6 st))(len:∀vs H Q E,sp vs H Q E->vs.length=ps.length)
   (hbody:∀(cdv:Value) (A:Around) (outer:List Env) (s:Shared) (H:Hp) (vs:List V) (Q:VK) (E:XK),m7 k (A.deeper (envOfC qual (j6 st) s.heap.objs.size f cdv))->sp vs H Q E->
     ∃t,PSs (bg2 A8 P w K mg base N qual (j6 st) f cdv A outer s H E).nox (Y9 st) t/\t {nx:=fun _ H'=>Q .non H',rt:=Q} (ac8 N vs) H):p6 P w K mg base A8 (k+1) f fd ps sp:=by
 obtain ⟨oc,od,kV,doc,pm,an,cdv,ct,osl,rfl,lk,hcd⟩:=F.ex
 refine dk7 lk hcd S len fun A outer s H vs Q E hr hsp=> ?_
 obtain ⟨t,h,q⟩:=hbody cdv A outer s H vs Q E hr hsp;exact ⟨t,h.nox,q⟩
theorem A9.binds {x qual:Str}{st:Stmt}{f:Addr}{fd:FuncData}{ps:List Str}(F:A9 K x qual st f fd)
   (h:∀(kV doc pm:Value) (an:Option Addr) (cdv ct:Value) (us:List Value),us.length=ps.length->bindArgs (PySem.W.fnOf x qual (ad4 st) (Y9 st) (j6 st) .none kV doc pm an cdv ct) ⟨us,[]⟩=pure (ps.zip us)):al4 K fd ps []:=by
 obtain ⟨oc,od,kV,doc,pm,an,cdv,ct,osl,rfl,lk,hcd⟩:=F.ex;exact .all (h kV doc pm an cdv ct)
theorem dg7 {x qual:Str}{st:Stmt}{f:Addr}{oc:Value}{od an:Option Addr}{osl:Array (Option Value)}{kV doc pm cdv ct:Value}(l:K.lookup f=some ⟨oc,od,.func (PySem.W.fnOf x qual (ad4 st) (Y9 st) (j6 st) .none kV doc pm an cdv ct),osl⟩)
 (c:PySem.W.codeIn K cdv qual=true) (k:PySem.W.keepIn K (.ref f)=true):A9 K x qual st f (PySem.W.fnOf x qual (ad4 st) (Y9 st) (j6 st) .none kV doc pm an cdv ct):=⟨⟨oc,od,kV,doc,pm,an,cdv,ct,osl,rfl,l,c⟩,k⟩
end
theorem T2 {A:Around}{k:Nat}(hr:m7 k A):A.units+1 < cLine:=dw0 (eg9 (by decide:1<=64) _) hr.units
theorem t6 {n:Nat}(h:n<=1000):n < sizeLine:=dw0 h (by decide)
section
variable {X:Cx}
theorem pv (i:Nat){x:Str}{pos:Pos}(hN:X.N[i]? =some x:=by rfl)(hv:Vis X.env.scope x:=by first|exact Or.inl rfl|exact Or.inr (Or.inl rfl)|exact Or.inr (Or.inr rfl))(hd:(x==("__debug__":Str))=false:=by decide)
 (hcd:(x==("__classdict__":Str))=false:=by decide):PE X (.Name x pos) (de4 i):=de5 hN hv hd hcd
end
theorem M4 {A B:Prop}(h:B):if false=true then A else B:=by
 rw[if_neg du3];exact h
theorem ah2 {A B:Prop}(h:A):if true=true then A else B:=by
 rw[if_pos rfl];exact h
theorem O7 {c A B:Prop}[Decidable c](h1:c->A)(h2:¬c->B):if c then A else B:=by
 by_cases h:c
 · rw[if_pos h];exact h1 h
 · rw[if_neg h];exact h2 h
theorem bo9 {c A B:Prop}[Decidable c](hc:c)(h:B):if (!decide c)=true then A else B:=by
 rw[decide_eq_true hc];exact M4 h
def c9 (H H':Hp):Prop:=∀b o,H b=some o->H' b=some o
theorem c9.refl (H:Hp):c9 H H:=fun _ _ h=>h
theorem c9.trans {H H1 H2:Hp}(a:c9 H H1)(b:c9 H1 H2):c9 H H2:=fun c o h=>b c o (a c o h)
theorem c9.free {H H':Hp}(e:c9 H H'){l:Addr}(h:H' l=Option.none):H l=Option.none:=by
 cases q:H l with
 |none=>rfl
 |some o=>
  rw[e l o q] at h;cases h
section
variable {κ:Type} [DecidableEq κ]
theorem av5:∀{l:List κ} {k:κ},l.Nodup->¬k∈l->(l++[k]).Nodup
 |[],k,_,_=>by simp
 |a::r,k,h,hk=>by
  obtain ⟨h1,h2⟩:=dw2.mp h;show (a::(r++[k])).Nodup;refine dw2.mpr ⟨fun m=> ?_,av5 h2 fun m=>hk (dt8.mpr (Or.inr m))⟩
  rcases dt1.mp m with q|q
  · exact h1 q
  · exact hk (dt8.mpr (Or.inl (ds8.mp q).symm))
end
end L2
namespace L2
open PySem PySem.Spec PyProof.Rows
def U1 (X:Cx)(N:List Str)(scope:Scope)(cl:List (Str×Addr))(C:Addr)(s0:Shared)(H0:Hp)(ex:List Addr):Cx:=
 {X with N:=N,s₀:=s0,H₀:=H0,env:=compEnvC scope cl C X.env,outer:=X.stack,stack:=X.stack,ex:=ex,fn:=fun _=>false,pn:=[],xe:=fun _ _=>False}
def bc1 (nl:Nat)(fr:List Nat)(σ:St):St:=dv8 nl none++fr.map fun j=>(σ[j]?).join
def C5 (env:Env):List (Str×NameKind)->List (Str×Addr)->List (Str×Addr)
 |[],cs=>cs
 |(n,k)::r,cs=>C5 env r (if (k==NameKind.free)=true then (n,(env.cells.lookup n).getD 0)::cs else cs)
theorem bc2 (env:Env):∀(ns:List (Str×NameKind)) (cs:List (Str×Addr)),(∀p∈ns,p.2= .free->∃c,env.cells.lookup p.1=some c)->(∀y c,cs.lookup y=some c->env.cells.lookup y=some c)->
   ∀y c,(C5 env ns cs).lookup y=some c->env.cells.lookup y=some c
 |[],cs,_,h,y,c,e=>h y c e
 |(n,k)::r,cs,hn,h,y,c,e=>by
  unfold C5 at e;refine bc2 env r _ (fun p hp=>hn p (ds3 _ hp)) ?_ y c e;intro z d ez
  split at ez
  · rename_i hk;rw[dz6] at ez
    cases hz:z==n with
    |true=>
     rw[hz] at ez;have hzn:z=n:=eq_of_beq hz;subst hzn
     have hkf:k= .free:=by simpa using hk
     obtain ⟨c',hc'⟩:=hn (z,k) ds1 hkf;have hc':env.cells.lookup z=some c':=hc';rw[hc'] at ez;rw[hc']
     simpa using ez
    |false=>
     rw[hz] at ez;exact h z d ez
  · exact h z d ez
theorem ax7 (env:Env):∀(ns:List (Str×NameKind)) (cs:List (Str×Addr)) (y:Str),(∃c,cs.lookup y=some c)->∃c,(C5 env ns cs).lookup y=some c
 |[],cs,y,h=>h
 |(n,k)::r,cs,y,⟨c,h⟩=>by
  unfold C5;refine ax7 env r _ y ?_
  split
  · rw[dz6]
    cases hz:y==n with
    |true=>exact ⟨_,rfl⟩
    |false=>exact ⟨c,h⟩
  · exact ⟨c,h⟩
theorem al6 (env:Env):∀(ns:List (Str×NameKind)) (cs:List (Str×Addr)) (p:Str×NameKind),p∈ns->p.2= .free->∃c,(C5 env ns cs).lookup p.1=some c
 |[],cs,p,hp,_=>by simp at hp
 |(n,k)::r,cs,p,hp,hk=>by
  unfold C5
  rcases dt8.mp hp with e|hp
  · subst e;have hk:k= .free:=hk;subst hk;refine ax7 env r _ n ?_;rw[if_pos (by rfl),dz6];exact ⟨(List.lookup n env.cells).getD 0,by simp⟩
  · exact al6 env r _ p hp hk
theorem aq4 (env:Env):∀(ns:List (Str×NameKind)) (cs:List (Str×Addr)),(∀p∈ns,p.2= .free->∃c,env.cells.lookup p.1=some c)->
   (forIn ns cs (fun (x:Str×NameKind) (r:List (Str×Addr))=>if (x.2==NameKind.free)=true then (do let a <-cellOf env x.1;pure (ForInStep.yield ((x.1,a)::r))) else pure (ForInStep.yield r)):Sem (List (Str×Addr)))=pure (C5 env ns cs)
 |[],cs,_=>rfl
 |(n,k)::r,cs,hn=>by
  have ih:=fun cs'=>aq4 env r cs' fun p hp=>hn p (ds3 _ hp)
  rw[List.forIn_cons];unfold C5
  by_cases hk:(k==NameKind.free)=true
  · obtain ⟨c,hc⟩:=hn (n,k) ds1 (by simpa using hk);have hc:env.cells.lookup n=some c:=hc;rw[if_pos hk,if_pos hk]
    have e1:cellOf env n=pure c:=by unfold cellOf;rw[hc]
    rw[e1,hc];exact ih _
  · rw[if_neg hk,if_neg hk];exact ih _
theorem ap4 {scope:Scope}{env:Env}(h:∀p∈scope.names,p.2= .free->∃c,env.cells.lookup p.1=some c):closureFor scope env=pure (C5 env scope.names []):=by
 have e:=aq4 env scope.names [] h;unfold closureFor;show (forIn scope.names [] _ >>=_)=_;have e2:(forIn scope.names ([]:List (Str×Addr)) (fun (x:Str×NameKind) (r:List (Str×Addr))=>match x with|(name,kind)=>(if (kind==NameKind.free)=true then (do let a <-cellOf env name;pure PUnit.unit;pure (ForInStep.yield ((name,a)::r))) else (do pure PUnit.unit;pure (ForInStep.yield r)))):Sem (List (Str×Addr)))=pure (C5 env scope.names []):=e
 first
   |exact (congrArg (fun z=>z >>=fun cs=>pure cs) e2)
   |(rw[show (forIn scope.names ([]:List (Str×Addr)) _:Sem (List (Str×Addr)))=pure (C5 env scope.names []) from e];rfl)
section
variable {X:Cx}
def br1 (X:Cx)(ifs:List Expr)(t:TT):Prop:=
 ∀(pins:List (Addr×Obj)) (s:Shared) (σ:St) (H:Hp) (Q:Bool->Hp->Prop),h7 X pins σ H s->t σ H Q->
  wpAny (model X.prog X.w) X.A (forIn ifs true fun c r=>if r=true then do let ok <-isTrue c X.env (eval c X.env);pure (ForInStep.yield ok) else pure (ForInStep.yield r)) (TP X pins σ Q) X.xe s
def dp3:TT:=fun _ H Q=>Q true H
theorem al7:br1 X [] dp3:=fun pins s σ H Q I h=>by
 rw[List.forIn_nil];exact wpAny_pure ⟨H,I,h⟩
theorem ay7 {c:Expr}{t:TT}(h:PT X c t):br1 X [c] t:=by
 intro pins s σ H Q I hw;rw[List.forIn_cons,if_pos rfl];refine wpAny_bind (wpAny_bind (q9 (h pins s σ H Q I hw) fun b s1 q=>wpAny_pure ?_));show wpAny _ _ (forIn [] b _) _ _ s1;rw[List.forIn_nil];exact wpAny_pure q
theorem br2 {prog:Program}{w:World}{A:Around}{R:Result->Shared->Prop}{s:Shared}{elt target iter:Expr}{ifs:List Expr}{scope:Scope}{pos:Pos}{it acc:Value}{env:Env}(I:Nat->Shared->Prop)
   (turn:∀n s,I n s->wpAny (model prog w) A (pyNext it) (fun r s1=>match r with
     |none=>R (.ok .next) s1
     |some v=>wpAny (model prog w) A (letOwnedTupleGo target it v) (fun _ s2=>wpAny (model prog w) A (assign target env v) (fun _ s3=>
         wpAny (model prog w) A (forIn ifs true fun c r=>if r=true then do let ok <-isTrue c env (eval c env);pure (ForInStep.yield ok) else pure (ForInStep.yield r)) (fun ok s4=>
           if ok=true then wpAny (model prog w) A (eval elt env) (fun x s5=>
             wpAny (model prog w) A (call (.builtin "list.append") [acc,x]) (fun _ s6=>∃m,m < n/\I m s6) (fun _ _=>False) s5) (fun _ _=>False) s4
           else ∃m,m < n/\I m s4) (fun _ _=>False) s3) (fun _ _=>False) s2) (fun _ _=>False) s1) (fun _ _=>False) s)
   (n:Nat) (h:I n s):
   codeAny (model prog w) A (.compLoop (.ListComp elt [⟨target,iter,ifs,0⟩] scope pos) 0 it acc env) R s:=by
 refine codeAny_loop rfl I (fun n s hI=> ?_) n h;show wpAny _ A ((compTurn (.ListComp elt [⟨target,iter,ifs,0⟩] scope pos) 0 it acc env).onRaise (fun x=>do noteFrame x env;theTreesLotGoes x)) _ _ s;refine wpAny_noted ?_;rw[compTurn_list];refine wpAny_bind (wpAny_standAt (wpAny_bind (wpAny_mono (turn n s hI) (fun r s1 h1=> ?_) fun _ _ f=>f.elim)))
 cases r with
 |none=>exact wpAny_pure h1
 |some v=>
  refine wpAny_bind (wpAny_mono h1 (fun _ s2 h2=> ?_) fun _ _ f=>f.elim);refine wpAny_bind (wpAny_mono h2 (fun _ s3 h3=>wpAny_bind (wpAny_mono h3 (fun ok s4 h4=> ?_) fun _ _ f=>f.elim)) fun _ _ f=>f.elim)
  cases ok with
  |false=>exact wpAny_pure ⟨rfl,h4⟩
  |true=>
   exact wpAny_bind (wpAny_bind (wpAny_mono h4 (fun x s5 h5=>wpAny_bind (wpAny_mono h5 (fun _ s6 h6=>wpAny_pure (wpAny_pure ⟨rfl,h6⟩)) fun _ _ f=>f.elim)) fun _ _ f=>f.elim))
def bp0 (J:It)(g:TG)(tc:TT)(te:TE)(Q:VK)(σ0:St)(H0:Hp):Prop:=∃W:Nat->Nat->List V->St->Hp->Prop,(∃m,W 0 m [] σ0 H0)/\∀i m ys σ' H',W i m ys σ' H'->
 (J.stop i H'/\∀D,H' D=none->Q (.ref D) (c8 H' D (.lst ys)))\/
 (J.go i H'/\∃N:List V->St->Hp->Prop,(∀ys' σ2 H2,N ys' σ2 H2->∃m',m' < m/\W (i+1) m' ys' σ2 H2)/\∀x H2,J.yld i H' x H2->g x σ' H2 fun σ2 H3=>tc σ2 H3 fun b H4=>
   if b=true then te σ2 H4 fun y H5=>ys.length < sizeLine/\N (ys++[y]) σ2 H5 else N ys σ2 H4)
def ce5 (nl:Nat)(fr:List Nat)(wi:TI)(g:TG)(tc:TT)(te:TE):TE:=fun σ H Q=>wi σ H fun J H1=>bp0 J g tc te Q (bc1 nl fr σ) H1
structure aq5 (X:Cx)(N:List Str)(nl:Nat)(fr:List Nat)(scope:Scope):Prop where
 cell:∀y∈scope.names,y.2≠.cell
 kind:scope.kind= .function
 names:∀y∈scope.names,y.2= .local->scope.names.lookup y.1=some .local
 free:∀p∈scope.names,p.2= .free->X.env.kindOf p.1=some .cell\/X.env.kindOf p.1=some .free
 len:N.length=nl+fr.length
 fr:∀(k j:Nat),fr[k]? =some j->∃y,N[nl+k]? =some y/\X.N[j]? =some y/\Vis X.env.scope y/\scope.names.lookup y=some .free
theorem Z0 {env:Env}:∀{names:List (Str×NameKind)} {x:Str} {k:NameKind},(names.map fun (n,k)=>if (k==NameKind.free&&env.scope.kind== .function&&env.kindOf n==some .cell) then (n,NameKind.cell) else (n,k)).lookup x=some k->
   k= .cell\/k= .free->(∀y∈names,y.2≠.cell)->∃p∈names,p.1=x/\p.2= .free
 |[],_,_,h,_,_=>by simp at h
 |(n,kn)::r,x,k,h,hk,hc=>by
  have ih:=@Z0 env r x k;rw[dw3] at h;have hcn:kn≠.cell:=hc (n,kn) ds1
  have hr:∀y∈r,y.2≠.cell:=fun y hy=>hc y (ds3 _ hy)
  cases hx:x==n with
  |true=>
   have hxn:x=n:=eq_of_beq hx
   by_cases hcc:(kn==NameKind.free&&env.scope.kind== .function&&env.kindOf n==some .cell)=true
   · refine ⟨(n,kn),ds1,hxn.symm,?_⟩;simp only[ed4] at hcc
     simpa using hcc.1.1
   · dsimp only at h
     rw[if_neg hcc,dz6,hx] at h;have hkk:kn=k:=Option.some.inj h;subst hkk
     rcases hk with z|z
     · exact absurd z hcn
     · exact ⟨(n,kn),ds1,hxn.symm,z⟩
  |false=>
   by_cases hcc:(kn==NameKind.free&&env.scope.kind== .function&&env.kindOf n==some .cell)=true
   · dsimp only at h
     rw[if_pos hcc,dz6,hx] at h;obtain ⟨p,hp,q⟩:=ih h hk hr;exact ⟨p,ds3 _ hp,q⟩
   · dsimp only at h
     rw[if_neg hcc,dz6,hx] at h;obtain ⟨p,hp,q⟩:=ih h hk hr;exact ⟨p,ds3 _ hp,q⟩
theorem Y6 {env:Env}:∀{names:List (Str×NameKind)} {x:Str},names.lookup x=some .free->
   (names.map fun (n,k)=>if (k==NameKind.free&&env.scope.kind== .function&&env.kindOf n==some .cell) then (n,NameKind.cell) else (n,k)).lookup x=some .cell\/
   (names.map fun (n,k)=>if (k==NameKind.free&&env.scope.kind== .function&&env.kindOf n==some .cell) then (n,NameKind.cell) else (n,k)).lookup x=some .free
 |[],_,h=>by simp at h
 |(n,kn)::r,x,h=>by
  have ih:=@Y6 env r x;rw[dw3]
  dsimp only
  cases hx:x==n with
  |true=>
   rw[dz6,hx] at h;have hkn:kn= .free:=Option.some.inj h
   by_cases hcc:(kn==NameKind.free&&env.scope.kind== .function&&env.kindOf n==some .cell)=true
   · rw[if_pos hcc,dz6,hx];exact .inl rfl
   · rw[if_neg hcc,dz6,hx];exact .inr (congrArg some hkn)
  |false=>
   rw[dz6,hx] at h
   by_cases hcc:(kn==NameKind.free&&env.scope.kind== .function&&env.kindOf n==some .cell)=true
   · rw[if_pos hcc,dz6,hx];exact ih h
   · rw[if_neg hcc,dz6,hx];exact ih h
theorem K2.track {P:Program}{w:World}{H:Hp}{h:Heap}{a:Addr}{o:HO}(x:K2 P w H h)(hn:H a=none)(new:x6 P w (c8 H a o) h a o):K2 P w (c8 H a o) h:=fun b u e=>by
 by_cases hb:b=a
 · subst hb;rw[c7] at e;cases e;exact new
 · rw[g7 hb] at e
   exact (x b u e).stay (fun c v _ q=>q) (fun c q=>by rw[g7 (g8 q hn)];exact q) fun c xs q=>by rw[g7 (g8 q hn)];exact q
theorem bk2 {elt tg iter:Expr}{ifs:List Expr}{scope:Scope}{pos:Pos}{wi:TI}{g:TG}{tc:TT}{te:TE}{N:List Str}{nl:Nat}{fr:List Nat}
   (hc:X.calm=true) (hi:PI X tg iter wi) (hg:∀cl C s0 H0 ex,PG (U1 X N scope cl C s0 H0 ex) tg g) (ht:∀cl C s0 H0 ex,br1 (U1 X N scope cl C s0 H0 ex) ifs tc)
   (he:∀cl C s0 H0 ex,PE (U1 X N scope cl C s0 H0 ex) elt te) (ok:aq5 X N nl fr scope)
   {RR:Value->Addr->Result->Shared->Prop} {pins:List (Addr×Obj)} {s:Shared} {σ:St} {H:Hp} {Q:VK} (I:h7 X pins σ H s) (h:ce5 nl fr wi g tc te σ H Q)
   (hRR:∀D C s' H',h7 X pins σ H' s'->Q (.ref D) H'->aq0 X pins H' C->(∃m,s'.heap.Ns C m)->RR (.ref D) C (.ok .next) s'):
   wpAny (model X.prog X.w) X.A (eval iter X.env) (fun x s1=>wpAny (model X.prog X.w) X.A (pyIter x) (fun it s2=>wpAny (model X.prog X.w) X.A (newList []) (fun acc s3=>
     wpAny (model X.prog X.w) X.A (newFunctionEnv scope X.env.globals (C5 X.env scope.names []) [] X.env.qual none .none (some X.env)) (fun cenv s4=>
       codeAny (model X.prog X.w) X.A (.compStart (.ListComp elt [⟨tg,iter,ifs,0⟩] scope pos) 0 it acc {cenv with scope:=relabel scope X.env}) (RR acc cenv.locals) s4) X.xe s3) X.xe s2) X.xe s1) X.xe s:=by
 refine q9 (hi pins s σ H _ I h) fun v s1 h1=>q9 h1 fun itv s2 h2=> ?_
 obtain ⟨it,fp,tn,J,H2,rfl,I2,T,st2,f2,W,⟨m0,w0⟩,turn⟩:=h2;refine wpAny_newObj_type (wpAny_newFunctionEnv ok.cell (by intro y hy;simp at hy) (fun h1 hns1 hsb1=> ?_) ok.kind)
 dsimp only at hns1 hsb1 ⊢
 generalize hHH:s2.heap.push {cls:= .type "list",dict:=none,data:= .seq ([]:List Value).toArray}=HH at hns1 hsb1 ⊢
 have hC:HH.objs.size=s2.heap.objs.size+1:=by rw[<-hHH,Heap.size_push]
 have hDC:s2.heap.objs.size≠HH.objs.size:=by rw[hC];exact dw7 (Nat.lt_succ_self _)
 have hCle:s2.heap.objs.size<=HH.objs.size:=by rw[hC];exact ei4 _
 have below:∀b,b < s2.heap.objs.size->b≠HH.objs.size/\b≠s2.heap.objs.size:=fun b hb=>⟨by rw[hC];exact dw7 (ek7 hb),dw7 hb⟩
 have old:∀b o,s2.heap.get? b=some o->h1.get? b=some o:=fun b o e=>hsb1.extBut b o (below b (Heap.lt_size e)).1 (Heap.get?_push_of_some _ (hHH▸Heap.get?_push_of_some _ e))
 have hacc:h1.get? s2.heap.objs.size=some {cls:= .type "list",data:= .seq ([]:List Value).toArray}:=hsb1.extBut _ _ hDC (Heap.get?_push_of_some _ (hHH▸Heap.get?_push_size _ rfl))
 have fplt:∀b∈fp,b < s2.heap.objs.size:=fun b hb=>by obtain ⟨o,e,_⟩:=T.obj 0 _ st2 b hb;exact Heap.lt_size e
 generalize hXd:U1 X N scope (C5 X.env scope.names []) HH.objs.size s2 H2 fp=X'
 have hfreeC:∀p∈scope.names,p.2= .free->∃c,X.env.cells.lookup p.1=some c:=fun p hp hf=>I.ok.has p.1 (ok.free p hp hf)
 have cellsSub:∀y c,(C5 X.env scope.names []).lookup y=some c->X.env.cells.lookup y=some c:=bc2 X.env scope.names [] hfreeC (fun y c e=>by simp at e)
 have cellLt:∀y c,X.env.cells.lookup y=some c->c < s2.heap.objs.size:=fun y c e=>by obtain ⟨v,z⟩:=I2.cell y c e;exact z.lt
 have ok':X'.Ok:=by
   rw[<-hXd]
   refine ⟨I.ok.mod,?_,I.ok.glob,I.ok.blt,hCle,fun x y c e1 e2=>I.ok.inj x y c (cellsSub x c e1) (cellsSub y c e2),fun x hx=> ?_,fun x c hf=>(by cases hf),I.ok.hd,I.ok.frames,.inl rfl,
     fun b hb=>⟨(below b (fplt b hb)).1,fun x c e=>(f2 b hb).2.2.2.2.1 x c (cellsSub x c e)⟩,I2.bs,dt4 I.ok.bsz I2.sz,fun b o e hb=> ?_,fun b hb hfs=> ?_,I2.stack,I2.stkFree⟩
   · show (relabel scope X.env).kind= .function;exact ok.kind
   · have hx':∃p∈scope.names,p.1=x/\p.2= .free:=by
       rcases hx with z|z
       · exact Z0 z (.inl rfl) ok.cell
       · exact Z0 z (.inr rfl) ok.cell
     obtain ⟨p,hp,rfl,hpf⟩:=hx';exact al6 X.env scope.names [] p hp hpf
   · rcases (f2 b hb).2.2.2.1 with z|z
     · exact I.ok.noex b o e z
     · exact absurd (dx5 (Heap.lt_size e) (dt4 I.ok.bsz z)) (ed2 _)
   · rcases dt8.mp (I2.stkSub b hfs) with z|z
     · exact (f2 b hb).2.1 z
     · exact (f2 b hb).2.2.1 z
 have hX'd:X'.env.locals=HH.objs.size:=by rw[<-hXd];rfl
 have hX'c:X'.env.cells=C5 X.env scope.names []:=by rw[<-hXd];rfl
 have hX'pn:X'.pn=[]:=by rw[<-hXd];rfl
 have hX'ex:X'.ex=fp:=by rw[<-hXd];rfl
 have hX's0:X'.s₀=s2:=by rw[<-hXd];rfl
 have hX'H0:X'.H₀=H2:=by rw[<-hXd];rfl
 have hX'fs:X'.fs=frs X.stack:=by rw[<-hXd];rfl
 have hX'xe:X'.xe=fun _ _=>False:=by rw[<-hXd];rfl
 have hX'A:X'.A=X.A:=by rw[<-hXd];rfl
 have hX'P:X'.prog=X.prog:=by rw[<-hXd];rfl
 have hX'w:X'.w=X.w:=by rw[<-hXd];rfl
 have hX'K:X'.K=X.K:=by rw[<-hXd];rfl
 have hX'calm:X'.calm=true:=by rw[<-hXd];exact hc
 have hX'env:X'.env=compEnvC scope (C5 X.env scope.names []) HH.objs.size X.env:=by rw[<-hXd];rfl
 have I':h7 X' [] (bc1 nl fr σ) H2 {s2 with heap:=h1,toks:=s2.toks+([]:List (Str×Value)).length}:=by
   refine ⟨ok',by rw[hX's0],I2.bare,?_,?_,fun x c e=> ?_,?_,fun x c e=> ?_,fun p hp=> ?_,?_,?_⟩
   · rw[hX'fs,hX'ex,hX'H0,hX's0];exact Un.kept old
   · obtain ⟨m,hn,hl⟩:=I2.loc;rw[hX'd];refine ⟨_,hns1,fun i x v e1 e2 e3=> ?_⟩
     have hN':N[i]? =some x:=by rw[<-hXd] at e1;exact e1
     unfold bc1 at e2
     have hi:¬i < nl:=fun hlt=>by
       rw[dv0 (by simpa using hlt),el8,if_pos hlt] at e2;cases e2
     rw[dw6 (by simpa using hi),ec1,ds0] at e2
     cases ej:fr[i - nl]? with
     |none=>rw[ej] at e2;cases e2
     |some j=>
      rw[ej] at e2;obtain ⟨y,y1,y2,y3,y4⟩:=ok.fr (i - nl) j ej
      have hii:nl+(i - nl)=i:=by omega
      rw[hii,hN'] at y1;have hxy:x=y:=Option.some.inj y1;subst hxy;have e2':(σ[j]?).join=some v:=Option.some.inj e2
      have e2'':σ[j]? =some (some v):=by
        cases hσ:σ[j]? with
        |none=>rw[hσ] at e2';cases e2'
        |some z=>rw[hσ] at e2';exact congrArg some e2'
      obtain ⟨u,r,l⟩:=hl j x v y2 e2'' y3;have hkX:=ok.free (x,.free) (PySem.mem_of_lookup y4) rfl;refine ⟨u,r,.inr ⟨?_,?_⟩⟩
      · rw[hX'env]
        rcases Y6 (env:=X.env) y4 with z|z
        · exact .inl z
        · exact .inr z
      · rcases l with ⟨k1,_⟩|⟨_,c,ec,hcell⟩
        · rcases hkX with z|z
          · rw[z] at k1;cases k1
          · rw[z] at k1;cases k1
        · obtain ⟨c',ec'⟩:=al6 X.env scope.names [] (x,.free) (PySem.mem_of_lookup y4) rfl
          have:c'=c:=by
            have q:=cellsSub x c' ec';rw[ec] at q;exact (Option.some.inj q).symm
          subst this;refine ⟨c',by rw[hX'c];exact ec',?_⟩;obtain ⟨oc,ho,hd⟩:=hcell;exact ⟨oc,old _ _ ho,hd⟩
   · rw[hX'c] at e;obtain ⟨v,oc,ho,hd⟩:=I2.cell x c (cellsSub x c e);exact ⟨v,oc,old _ _ ho,hd⟩
   · rw[hX'd];exact I2.hok.fresh hCle
   · rw[hX'c] at e;exact I2.freeC x c (cellsSub x c e)
   · rw[hX'pn] at hp;simp at hp
   · rw[hX'P,hX'w];exact I2.hok.kept old
   · unfold bc1
     have:X'.N=N:=by rw[<-hXd];rfl
     rw[this,ok.len,ds6,ec1,dr6]
 have Dn:∀{H':Hp} {pins'} {s':Shared} {σ'},h7 X' pins' σ' H' s'->H' s2.heap.objs.size=none->∀o,s'.heap.get? s2.heap.objs.size=some o->(∀v,o.data≠.cell v)->h7 X' [(s2.heap.objs.size,o)] σ' H' s':=fun {H' pins' s' σ'} I3 hD o ho hnc=>
   I3.pins_of fun p hp=>by
     have e:p=(s2.heap.objs.size,o):=by simpa using hp
     subst e;refine ⟨ho,hD,by rw[hX'd];exact hDC,?_,hnc⟩;rw[hX'fs];intro hb
     rcases dt8.mp (I2.stkSub _ hb) with z|z
     · exact absurd (z▸I2.lt) (ed2 _)
     · exact I2.nofs (dr9 _) z
 have loop:∀s₃:Shared,s₃={s2 with heap:=h1,toks:=s2.toks+([]:List (Str×Value)).length}->
     codeAny (model X.prog X.w) X.A (.compLoop (.ListComp elt [⟨tg,iter,ifs,0⟩] scope pos) 0 (.ref it) (.ref s2.heap.objs.size) (compEnvC scope (C5 X.env scope.names []) HH.objs.size X.env)) (RR (.ref s2.heap.objs.size) HH.objs.size) s₃:=by
   rintro s₃ rfl
   refine br2 (fun n s'=>∃(i:Nat) (σ':St) (H':Hp) (ys:List V) (its:List Value) (k:Nat),h7 X' [(s2.heap.objs.size,{cls:= .type "list",data:= .seq its.toArray k})] σ' H' s'/\o3 ys its/\ys.length<=sizeLine/\tn i s'.heap/\(∀b∈fp,H' b=none)/\W i n ys σ' H')
     ?_ m0 ⟨0,_,H2,[],[],0,Dn I' (I2.hok.fresh (dr9 _)) _ hacc (fun v z=>by cases z),.nil,du2 _,T.keep 0 _ _ st2 fun b hb o e=>old b o e,fun b hb=>(f2 b hb).1,w0⟩
   rintro n s3 ⟨i,σ3,H3,ys,its,k,I3,rv,hyl,st3,fr3,w3⟩;have pinD:=I3.pin (s2.heap.objs.size,{cls:= .type "list",data:= .seq its.toArray k}) (by rw[hX'pn];exact du5 _ ds1)
   have stat:∀{o:Obj} {H':Hp},(∀b∈fp,H' b=none)->∀b∈fp,aq0 X' [(s2.heap.objs.size,o)] H' b:=fun {o H'} hn b hb=>by
     refine ⟨hn b hb,by rw[hX'd];exact (below b (fplt b hb)).1,fun z=>ok'.exfs b (by rw[hX'ex];exact hb) z,.inl (by rw[hX'ex];exact hb),fun x c e=>by rw[hX'c] at e;exact (f2 b hb).2.2.2.2.1 x c (cellsSub x c e),fun p hp=> ?_⟩;rw[hX'pn] at hp
     have e:p=(s2.heap.objs.size,o):=by simpa using hp
     subst e
     exact fun z=>(below b (fplt b hb)).2 z.symm
   rcases turn i n ys σ3 H3 w3 with ⟨stop,qn⟩|⟨go,Nx,hNx,step⟩
   · have dn:=T.done X' hX'P hX'w hX'K hX'calm i _ s3 σ3 H3 (fun _ _=>False) I3 (stat fr3) st3 stop;rw[hX'A] at dn
     refine q9 dn fun r s4 ⟨hr,I4⟩=> ?_
     subst hr;have pinE:=I4.pin (s2.heap.objs.size,{cls:= .type "list",data:= .seq its.toArray k}) (by rw[hX'pn];exact du5 _ ds1)
     have ub:Un (frs X.stack) fp H2 H3 s2.heap s4.heap:=by
       have:=I4.base;rw[hX'fs,hX'ex,hX'H0,hX's0] at this;exact this
     have hok4:K2 X.prog X.w H3 s4.heap:=by have:=I4.hok;rw[hX'P,hX'w] at this;exact this
     have nD:∀b u,H3 b=some u->b≠s2.heap.objs.size:=fun b u e z=>by rw[z,pinE.2.1] at e;cases e
     have u2:Un (frs X.stack) fp H2 (c8 H3 s2.heap.objs.size (.lst ys)) s2.heap s4.heap:=
       ⟨ub.keep,ub.slot,fun b o e n' hx=>by rw[g7 (dw7 (Heap.lt_size e))];exact ub.free b o e n' hx,ub.there,
         fun b xs e=>by have:=ub.tups b xs e;rw[g7 (nD b _ this)];exact this,fun b o u e=>by have:=ub.frzs b o u e;rw[g7 (nD b _ this)];exact this,
         fun b ps e=>by obtain ⟨more,z⟩:=ub.tbls b ps e;exact ⟨more,by rw[g7 (nD b _ z)];exact z⟩⟩
     have I5:h7 X pins σ (c8 H3 s2.heap.objs.size (.lst ys)) s4:=by
       refine I2.call' (by rw[I4.os,hX's0]) u2 ?_ I4.bare fun b hb=>⟨(f2 b hb).2.2.2.1,(f2 b hb).2.1,(f2 b hb).2.2.2.2.1,(f2 b hb).2.2.2.2.2⟩
       exact K2.track hok4 pinE.2.1 ⟨hyl,its,k,rv,pinE.1⟩
     refine hRR _ _ s4 _ I5 (qn _ pinE.2.1) (I2.fpOk hCle ?_) ?_
     · rw[g7 (Ne.symm hDC)];have:=I4.free;rw[hX'd] at this;exact this
     · obtain ⟨m,hn,_⟩:=I4.loc;rw[hX'd] at hn;exact ⟨m,hn⟩
   · have im:=T.item X' hX'P hX'w hX'K hX'calm i _ s3 σ3 H3 (fun _ _=>False) I3 (stat fr3) st3 go;rw[hX'A] at im
     refine q9 im fun r s4 ⟨u,hr,h4⟩=> ?_
     subst hr
     refine q9 h4 fun _ s5 ⟨x,H5,I5,r5,y5,st5,fr5⟩=> ?_
     have I5':=I5.pinned (stat fr5) (T.obj _ _ st5);have gg:=hg (C5 X.env scope.names []) HH.objs.size s2 H2 fp;rw[hXd] at gg;have gg:=gg _ s5 σ3 H5 x u _ I5' r5 (step x H5 y5);rw[hX'A,hX'P,hX'w,hX'xe,hX'env] at gg
     refine q9 gg fun _ s6 ⟨σ6,H6,I6,q6⟩=> ?_
     have tt:=ht (C5 X.env scope.names []) HH.objs.size s2 H2 fp;rw[hXd] at tt;have tt:=tt _ s6 σ6 H6 _ I6 q6;rw[hX'A,hX'P,hX'w,hX'xe,hX'env] at tt
     refine q9 tt fun ok7 s7 ⟨H7,I7,q7⟩=> ?_
     have again:∀{s8:Shared} {σ8:St} {H8:Hp} {ys8:List V} {its8:List Value} {k8:Nat},h7 X' ([(s2.heap.objs.size,{cls:= .type "list",data:= .seq its8.toArray k8})]++ae6 fp s5.heap) σ8 H8 s8->o3 ys8 its8->ys8.length<=sizeLine->Nx ys8 σ8 H8->
         ∃m,m < n/\∃(i:Nat) (σ':St) (H':Hp) (ys:List V) (its:List Value) (k:Nat),h7 X' [(s2.heap.objs.size,{cls:= .type "list",data:= .seq its.toArray k})] σ' H' s8/\o3 ys its/\ys.length<=sizeLine/\tn i s8.heap/\(∀b∈fp,H' b=none)/\W i m ys σ' H':=
       fun {s8 σ8 H8 ys8 its8 k8} I8 rv8 hl8 n8=>by
         obtain ⟨m',hm,w8⟩:=hNx ys8 σ8 H8 n8;refine ⟨m',hm,i+1,σ8,H8,ys8,its8,k8,I8.unpinned,rv8,hl8,T.keep _ _ _ st5 fun b hb o e=>(I8.pin (b,o) (du5 _ (du5 _ (ac7 hb e)))).1,fun b hb=> ?_,w8⟩;obtain ⟨o,e,d⟩:=T.obj _ _ st5 b hb;exact (I8.pin (b,o) (du5 _ (du5 _ (ac7 hb e)))).2.1
     cases ok7 with
     |false=>
      rw[if_neg du3] at q7 ⊢;exact again I7 rv hyl q7
     |true=>
      rw[if_pos rfl] at q7 ⊢;have ee:=he (C5 X.env scope.names []) HH.objs.size s2 H2 fp;rw[hXd] at ee;have ee:=ee _ s7 σ6 H7 _ I7 q7;rw[hX'A,hX'P,hX'w,hX'xe,hX'env] at ee
      refine q9 ee fun yv s8 ⟨y,H8,I8,r8,hyl8,q8⟩=> ?_
      have pin8:=I8.pin (s2.heap.objs.size,{cls:= .type "list",data:= .seq its.toArray k}) (du5 _ (dx3 _ ds1));refine wpAny_list_append_plain (items:=its.toArray) ⟨k,pin8.1⟩ (fun h9 hp9 hs9=> ?_) (by rw[dt6,<-rv.length];exact hyl);obtain ⟨k9,e9⟩:=hp9
      have I9:h7 X' (ae6 fp s5.heap) σ6 H8 s8:=I8.pins_of fun p hp=>I8.pin p (du5 _ (du5 _ hp))
      have I9':h7 X' (ae6 fp s5.heap) σ6 H8 {s8 with heap:=h9,toks:=s8.toks}:=by
        refine I9.turned (t':=s8.toks) (it:=s2.heap.objs.size) (fun b o hb e=>hs9.extBut b o hb e) pin8.2.1 (by rw[hX'd];exact hDC) (.inr (by rw[hX's0];exact dr9 _)) (fun x c e z=> ?_) fun p hp z=> ?_
        · rw[hX'c] at e;exact absurd (z▸cellLt x c (cellsSub x c e)) (ed2 _)
        · rw[hX'pn] at hp;obtain ⟨hb,_⟩:=bj3 (by simpa using hp);exact absurd (z▸fplt _ hb) (ed2 _)
      have e9':h9.get? s2.heap.objs.size=some {cls:= .type "list",data:= .seq (its++[yv]).toArray k9}:=by rw[e9];simp
      refine again (ys8:=ys++[y]) (its8:=its++[yv]) (k8:=k9) ?_ (o3.append rv (.cons r8 .nil)) (by rw[ds6];exact hyl8) q8
      refine I9'.pins_of fun p hp=> ?_
      rcases dt1.mp hp with z|z
      · have e:p=(s2.heap.objs.size,{cls:= .type "list",data:= .seq (its++[yv]).toArray k9}):=by simpa using z
        subst e;exact ⟨e9',pin8.2.1,pin8.2.2.1,pin8.2.2.2.1,fun v z=>by cases z⟩
      · exact I9'.pin p (du5 _ z)
 exact codeAny_compStart_list (loop _ rfl) (T.self X.A 0 _ _ _ (T.keep 0 _ _ st2 fun b hb o e=>old b o e) (loop _ rfl))
end
end L2
namespace L2
open PySem PySem.Spec PyProof.Rows
section
variable {X:Cx}
theorem aj4 {elt tg iter:Expr}{ifs:List Expr}{scope:Scope}{pos:Pos}{wi:TI}{g:TG}{tc:TT}{te:TE}{N:List Str}{nl:Nat}{fr:List Nat}
   (hc:X.calm=true) (ok:aq5 X N nl fr scope) (hi:PI X tg iter wi) (hg:∀cl C s0 H0 ex,PG (U1 X N scope cl C s0 H0 ex) tg g) (ht:∀cl C s0 H0 ex,br1 (U1 X N scope cl C s0 H0 ex) ifs tc)
   (he:∀cl C s0 H0 ex,PE (U1 X N scope cl C s0 H0 ex) elt te) (hs:∀x,foldedSetIterable iter X.env x=pure x:=by intro _;rfl):
   PE X (.ListComp elt [⟨tg,iter,ifs,0⟩] scope pos) (ce5 nl fr wi g tc te):=by
 intro pins s σ H Q I h
 have hclos:closureFor scope X.env=pure (C5 X.env scope.names []):=ap4 fun p hp hf=>I.ok.has p.1 (ok.free p hp hf)
 rw[eval_ListComp];refine wpAny_comprehension_free (use:=none) rfl hs hclos ok.kind ok.names (bk2 (RR:=fun acc C=>compPost (model X.prog X.w) X.A X.xe none (EP X pins σ Q) acc C) hc hi hg ht he ok I h ?_);intro D C s' H' I' q f ⟨m,hn⟩;exact ⟨m,hn,fun h' hs'=>⟨.ref D,H',I'.turned (t':=s'.toks) (fun b o hb e=>hs'.extBut b o hb e) f.1 f.2.1 f.2.2.2.1 f.2.2.2.2.1 f.2.2.2.2.2,rfl,q⟩⟩
theorem ca4 {i:Nat}{y:Str}{py spos:Pos}{elt tg iter:Expr}{ifs:List Expr}{scope:Scope}{pos:Pos}{wi:TI}{g:TG}{tc:TT}{te:TE}{N:List Str}{nl:Nat}{fr:List Nat}
   (hN:X.N.Nodup) (hi':X.N[i]? =some y) (hx:Loc X.env.scope y)
   (hc:X.calm=true) (ok:aq5 X N nl fr scope) (hi:PI X tg iter wi) (hg:∀cl C s0 H0 ex,PG (U1 X N scope cl C s0 H0 ex) tg g) (ht:∀cl C s0 H0 ex,br1 (U1 X N scope cl C s0 H0 ex) ifs tc)
   (he:∀cl C s0 H0 ex,PE (U1 X N scope cl C s0 H0 ex) elt te) (hsw:swapsWith (.ListComp elt [⟨tg,iter,ifs,0⟩] scope pos) (some (.Name y py)) spos.line X.env=pure true:=by rfl)
   (hs:∀x,foldedSetIterable iter X.env x=pure x:=by intro _;rfl)
   (hf:X.fn y=true\/X.env.scope.names.lookup y=some .local:=by first|exact .inl rfl|exact .inr rfl|assumption):
   PS X (.Assign [.Name y py] (.ListComp elt [⟨tg,iter,ifs,0⟩] scope pos) spos) (cq0 (ce5 nl fr wi g tc te) (bo1 i)):=by
 intro pins s σ H Dn I h
 have hclos:closureFor scope X.env=pure (C5 X.env scope.names []):=ap4 fun p hp hf=>I.ok.has p.1 (ok.free p hp hf)
 rw[exec_Assign_Name_used _ _ _ _ hsw];refine wpAny_bind (wpAny_standAt (wpAny_bind ?_));show wpAny _ X.A (do let _ <-comprehension (.ListComp elt [⟨tg,iter,ifs,0⟩] scope pos) scope X.env _ (newList []) false (eval iter X.env) (some (assign (.Name y py) X.env))) _ _ s
 refine wpAny_bind (wpAny_mono (wpAny_comprehension_free (use:=some (assign (.Name y py) X.env)) (Q:=fun _ s'=>SP X pins Dn .next s') rfl hs hclos ok.kind ok.names
   (bk2 (RR:=fun acc C=>compPost (model X.prog X.w) X.A X.xe (some (assign (.Name y py) X.env)) (fun _ s'=>SP X pins Dn .next s') acc C) hc hi hg ht he ok I h ?_)) (fun _ s' hq=>wpAny_pure (wpAny_pure hq)) fun _ _ e=>e)
 intro D C s' H' I' q f ⟨m,hn⟩;show wpAny _ X.A (assign (.Name y py) X.env (.ref D)) _ _ _;refine wpAny_assign_Name (bj1 I' hN hi' hx (v:= .ref D) rfl (fun s2 I2 ⟨a,sb,ha⟩=> ?_) hf)
 have hCa:C≠a:=by
   rcases ha with z|z
   · rw[z];exact f.2.1
   · exact fun e=>f.2.2.2.2.1 _ _ z e.symm
 exact ⟨m,hn.sameBut sb hCa,fun h' hs'=>⟨_,H',I2.turned (t':=s2.toks) (fun b o hb e=>hs'.extBut b o hb e) f.1 f.2.1 f.2.2.2.1 f.2.2.2.2.1 f.2.2.2.2.2,q⟩⟩
theorem ab2 {K:PySem.W.Frag}{a:Addr}{xs:List V}{g:TG}{tc:TT}{te:TE}{σ0:St}{H:Hp}{Q:VK}(Pv:Nat->List V->St->Hp->Prop)(h0:Pv 0 [] σ0 H)(hl:∀i ys σ H,i<=xs.length->Pv i ys σ H->g9 K H a xs)
   (hs:∀i x ys σ H,xs[i]? =some x->Pv i ys σ H->g x σ H fun σ2 H2=>tc σ2 H2 fun b H4=>if b=true then te σ2 H4 fun y H5=>ys.length < sizeLine/\Pv (i+1) (ys++[y]) σ2 H5 else Pv (i+1) ys σ2 H4)
   (hd:∀ys σ H,Pv xs.length ys σ H->∀D,H D=none->Q (.ref D) (c8 H D (.lst ys))):
   bp0 (Itl K a) g tc te Q σ0 H:=by
 refine ⟨fun i m ys σ H=>m=xs.length - i/\i<=xs.length/\Pv i ys σ H,⟨xs.length,by simp,du2 _,h0⟩,?_⟩;rintro i m ys σ H ⟨rfl,hi,p⟩;have q:=hl i ys σ H hi p
 by_cases hlt:i < xs.length
 · refine .inr ⟨⟨xs,xs[i],q,by simp [hlt]⟩,Pv (i+1),fun ys' σ' H' p'=>⟨xs.length - (i+1),by omega,rfl,hlt,p'⟩,fun x H' y=> ?_⟩;obtain ⟨e,y⟩:=y;subst e;exact hs i x ys σ _ (y xs q) p
 · have e:i=xs.length:=by omega
   subst e;exact .inl ⟨⟨xs,q,dr9 _⟩,hd ys σ H p⟩
theorem ce6 {lo:Int}{n:Nat}{g:TG}{tc:TT}{te:TE}{σ0:St}{H:Hp}{Q:VK}(Pv:Nat->List V->St->Hp->Prop)(h0:Pv 0 [] σ0 H)
   (hs:∀i ys σ H,i < n->Pv i ys σ H->g (.int (lo+i)) σ H fun σ2 H2=>tc σ2 H2 fun b H4=>if b=true then te σ2 H4 fun y H5=>ys.length < sizeLine/\Pv (i+1) (ys++[y]) σ2 H5 else Pv (i+1) ys σ2 H4)
   (hd:∀ys σ H,Pv n ys σ H->∀D,H D=none->Q (.ref D) (c8 H D (.lst ys))):
   bp0 (Itr lo n) g tc te Q σ0 H:=by
 refine ⟨fun i m ys σ H=>m=n - i/\i<=n/\Pv i ys σ H,⟨n,by simp,du2 _,h0⟩,?_⟩;rintro i m ys σ H ⟨rfl,hi,p⟩
 by_cases hlt:i < n
 · refine .inr ⟨hlt,Pv (i+1),fun ys' σ' H' p'=>⟨n - (i+1),by omega,rfl,hlt,p'⟩,fun x H' y=> ?_⟩;obtain ⟨e,y⟩:=y;subst e y;exact hs i ys σ _ hlt p
 · have e:i=n:=by omega
   subst e;exact .inl ⟨dr9 _,hd ys σ H p⟩
inductive EqD (K:PySem.W.Frag)(H:Hp):Nat->V->V->Bool->Prop where
 |flat {n:Nat} {x y:V}:bo7 x=true->bo7 y=true->EqD K H n x y (eqV x y)
 |same {n:Nat} (a:Addr):EqD K H n (.ref a) (.ref a) true
 |lists {n:Nat} {a b:Addr} {xs ys:List V} (e:Nat->Bool):a≠b->g9 K H a xs->g9 K H b ys->xs.length=ys.length->(∀(j:Nat) x y,xs[j]? =some x->ys[j]? =some y->EqD K H n x y (e j))->EqD K H (n+1) (.ref a) (.ref b) ((du8 xs.length).all e)
 |lens {n:Nat} {a b:Addr} {xs ys:List V}:a≠b->g9 K H a xs->g9 K H b ys->xs.length≠ys.length->EqD K H (n+1) (.ref a) (.ref b) false
theorem ck1 {pins:List (Addr×Obj)}{σ:St}{H:Hp}{s:Shared}(I:h7 X pins σ H s){n:Nat}{x y:V}{b:Bool}(d:EqD X.K H n x y b):
   ∀{A:Around} {u v:Value},A.units+n < cLine->t7 x u->t7 y v->SeqAt.EqAt A s u v b:=by
 induction d with
 |flat fx fy=>intro A u v _ rx ry;exact dg1 rx ry fx fy
 |same a=>intro A u v _ rx ry;cases rx;cases ry;exact SeqAt.EqAt.same _
 |@lists n a c xs ys e ne ha hb hl _ ih=>
  intro A u v hu rx ry;cases rx;cases ry;obtain ⟨its,r1,p1,_⟩:=I.list ha;obtain ⟨its2,r2,p2,_⟩:=I.list hb;have l1:=r1.length;have l2:=r2.length;refine SeqAt.EqAt.of_refs ne ?_
  have q:=SeqAt.RcAt.lists (A:=A) (e:=e) p1.isList p2.isList (by rw[dt6,dt6];omega) (by omega) (fun j h1 h2=>by
    have h1':j < its.length:=by simpa using h1
    have h2':j < its2.length:=by simpa using h2
    have e1:xs[j]? =some (xs[j]'(by omega)):=dr8 _;have e2:ys[j]? =some (ys[j]'(by omega)):=dr8 _;obtain ⟨u1,z1,q1⟩:=r1.get e1;obtain ⟨u2,z2,q2⟩:=r2.get e2
    have w1:its.toArray[j]=u1:=by
      rw[dr8 h1'] at z1
      simpa using z1
    have w2:its2.toArray[j]=u2:=by
      rw[dr8 h2'] at z2
      simpa using z2
    rw[w1,w2]
    exact ih j _ _ e1 e2 (by show A.in1.units+n < cLine;have:A.in1.units=A.units+1:=by first|rfl|simp [Around.in1]
                             omega) q1 q2)
  rw[dt6,<-l1] at q;exact q
 |lens ne ha hb hl=>
  intro A u v hu rx ry;cases rx;cases ry;obtain ⟨its,r1,p1,_⟩:=I.list ha;obtain ⟨its2,r2,p2,_⟩:=I.list hb;have l1:=r1.length;have l2:=r2.length;exact SeqAt.EqAt.of_refs ne (SeqAt.RcAt.lists_lengths p1.isList p2.isList (by rw[dt6,dt6];simp;omega) (by omega))
def LEq (K:PySem.W.Frag)(H:Hp)(n:Nat)(xs ys:List V)(r:Bool):Prop:=
 (xs.length≠ys.length/\r=false)\/(∃e:Nat->Bool,xs.length=ys.length/\(∀(j:Nat) x y,xs[j]? =some x->ys[j]? =some y->EqD K H n x y (e j))/\r=(du8 xs.length).all e)
theorem ck2 {pins:List (Addr×Obj)}{σ:St}{H:Hp}{s:Shared}(I:h7 X pins σ H s){A:Around}{n:Nat}{a b:Addr}{xs ys:List V}{r:Bool}(hu:A.units+n+1 < cLine)(ha:g9 X.K H a xs)(hb:g9 X.K H b ys)(d:LEq X.K H n xs ys r):
   SeqAt.RcAt A s (.ref a) (.ref b) r:=by
 obtain ⟨its,r1,p1,_⟩:=I.list ha;obtain ⟨its2,r2,p2,_⟩:=I.list hb;have l1:=r1.length;have l2:=r2.length
 rcases d with ⟨hl,rfl⟩|⟨e,hl,he,rfl⟩
 · exact SeqAt.RcAt.lists_lengths p1.isList p2.isList (by rw[dt6,dt6];simp;omega) (by omega)
 · have q:=SeqAt.RcAt.lists (A:=A) (e:=e) p1.isList p2.isList (by rw[dt6,dt6];omega) (by omega) (fun j h1 h2=>by
     have h1':j < its.length:=by simpa using h1
     have h2':j < its2.length:=by simpa using h2
     have e1:xs[j]? =some (xs[j]'(by omega)):=dr8 _;have e2:ys[j]? =some (ys[j]'(by omega)):=dr8 _;obtain ⟨u1,z1,q1⟩:=r1.get e1;obtain ⟨u2,z2,q2⟩:=r2.get e2
     have w1:its.toArray[j]=u1:=by
       rw[dr8 h1'] at z1
       simpa using z1
     have w2:its2.toArray[j]=u2:=by
       rw[dr8 h2'] at z2
       simpa using z2
     rw[w1,w2]
     exact ck1 I (he j _ _ e1 e2) (by show A.in1.units+n < cLine;have:A.in1.units=A.units+1:=by first|rfl|simp [Around.in1]
                                      omega) q1 q2)
   rw[dt6,<-l1] at q;exact q
end
end L2
namespace L2
open PySem PySem.Spec PyProof.Rows
section
variable {X:Cx}
theorem cr4 {pins:List (Addr×Obj)}{σ:St}{H:Hp}{s:Shared}(I:h7 X pins σ H s){A:Around}{n:Nat}{a b:Addr}{xs ys:List V}{r:Bool}(hu:A.units+n+1 < cLine)(ha:g9 X.K H a xs)(hb:g9 X.K H b ys)(d:LEq X.K H n xs ys r):
   SeqAt.RcNeAt A s (.ref a) (.ref b) (!r):=by
 obtain ⟨its,r1,p1,_⟩:=I.list ha;obtain ⟨its2,r2,p2,_⟩:=I.list hb;have l1:=r1.length;have l2:=r2.length
 rcases d with ⟨hl,rfl⟩|⟨e,hl,he,rfl⟩
 · exact SeqAt.RcNeAt.lists_lengths p1.isList p2.isList (by rw[dt6,dt6];simp;omega) (by omega)
 · have q:=SeqAt.RcNeAt.lists (A:=A) (e:=e) p1.isList p2.isList (by rw[dt6,dt6];omega) (by omega) (fun j h1 h2=>by
     have h1':j < its.length:=by simpa using h1
     have h2':j < its2.length:=by simpa using h2
     have e1:xs[j]? =some (xs[j]'(by omega)):=dr8 _;have e2:ys[j]? =some (ys[j]'(by omega)):=dr8 _;obtain ⟨u1,z1,q1⟩:=r1.get e1;obtain ⟨u2,z2,q2⟩:=r2.get e2
     have w1:its.toArray[j]=u1:=by
       rw[dr8 h1'] at z1
       simpa using z1
     have w2:its2.toArray[j]=u2:=by
       rw[dr8 h2'] at z2
       simpa using z2
     rw[w1,w2]
     exact ck1 I (he j _ _ e1 e2) (by show A.in1.units+n < cLine;have:A.in1.units=A.units+1:=by first|rfl|simp [Around.in1]
                                      omega) q1 q2)
   rw[dt6,<-l1] at q;exact q
def cr5 (K:PySem.W.Frag)(n:Nat)(neg:Bool):R2:=fun x y H Q=>∃a b xs ys r,x= .ref a/\y= .ref b/\g9 K H a xs/\g9 K H b ys/\LEq K H n xs ys r/\Q (.bl (if neg then !r else r)) H
theorem dg8 (n:Nat)(hu:X.A.units+n+1 < cLine):O6 X (compareOp .Eq) (cr5 X.K n false):=by
 intro pins s σ H x y v u Q I rx ry h;obtain ⟨a,b,xs,ys,r,rfl,rfl,ha,hb,d,q⟩:=h;cases rx;cases ry;exact ck2 I hu ha hb d _ _ _ _ ⟨.bl r,H,I,rfl,q⟩
theorem bc3 (n:Nat)(hu:X.A.units+n+1 < cLine):O6 X (compareOp .NotEq) (cr5 X.K n true):=by
 intro pins s σ H x y v u Q I rx ry h;obtain ⟨a,b,xs,ys,r,rfl,rfl,ha,hb,d,q⟩:=h;cases rx;cases ry;exact cr4 I hu ha hb d _ _ _ _ ⟨.bl (!r),H,I,rfl,q⟩
theorem ap6 {n:Nat}{e:Nat->Bool}:(du8 n).all e=true↔∀j,j < n->e j=true:=by
 rw[ed5];exact ⟨fun h j hj=>h j (dv6.mpr hj),fun h j hj=>h j (dv6.mp hj)⟩
theorem ae8 (K:PySem.W.Frag)(H:Hp)(n:Nat)(ns ms:List Int):LEq K H n (ns.map V.int) (ms.map V.int) (decide (ns=ms)):=by
 by_cases hl:ns.length=ms.length
 · refine .inr ⟨fun j=>decide (ns[j]? =ms[j]?),by simpa using hl,fun j x y e1 e2=> ?_,?_⟩
   · rw[ds0] at e1 e2
     cases h1:ns[j]? with
     |none=>rw[h1] at e1;cases e1
     |some a=>
      cases h2:ms[j]? with
      |none=>rw[h2] at e2;cases e2
      |some b=>
       rw[h1] at e1;rw[h2] at e2;cases e1;cases e2;have q:EqD K H n (V.int a) (V.int b) (eqV (V.int a) (V.int b)):= .flat rfl rfl
       have e:eqV (V.int a) (V.int b)=decide (some a=some b):=by
         show (a==b)=_
         by_cases z:a=b
         · subst z;simp
         · rw[decide_eq_false (fun w=>z (Option.some.inj w))];simpa using z
       rw[e] at q;show EqD K H n _ _ (decide (ns[j]? =ms[j]?));rw[h1,h2];exact q
   · rw[ee0,decide_eq_true_iff,ap6];constructor
     · intro h j _;subst h;simp
     · intro h
       refine dv3 fun j=> ?_
       by_cases hj:j < ns.length
       · exact of_decide_eq_true (h j (by simpa using hj))
       · rw[ds7 (by omega),ds7 (by omega)]
 · refine .inl ⟨by simpa using hl,?_⟩
   exact decide_eq_false fun h=>hl (by rw[h])
theorem by1:R4 X (.type "range") (fun xs H Q=>∃j,xs=[.int j]/\∀p,H p=none->Q (.ref p) (c8 H p (.rng 0 j))):=by
 intro pins s σ H xs us Q I r h;obtain ⟨j,rfl,q⟩:=h;obtain ⟨u,rfl,⟨t,rfl⟩⟩:=U6 r;refine call_range_1 ⟨.ref s.heap.objs.size,_,I.laid (fun b o e=>Heap.get?_push_of_some _ e) (dr9 _) ?_,rfl,q _ (I.hok.fresh (dr9 _))⟩;exact ⟨_,_,_,Heap.get?_push_size _ rfl⟩
def K4 (lo:Int)(n:Nat):List Int:=(du8 n).map fun (i:Nat)=>lo+(i:Int)
theorem ce7 {lo:Int}{n:Nat}{acc:Array Value}(h:ItemsOf (fun i v=>∃t,v=Value.int (lo+(i:Int)*1) t) acc n):o3 ((K4 lo n).map V.int) acc.toList:=by
 obtain ⟨hs,hv⟩:=h
 have key:∀(l:List Value) (k:Nat),(∀(j:Nat) v,l[j]? =some v->∃t,v=Value.int (lo+((k+j:Nat):Int)) t)->o3 (((du8 l.length).map fun (i:Nat)=>lo+((k+i:Nat):Int)).map V.int) l:=by
   intro l
   induction l with
   |nil=>intro k _;exact .nil
   |cons v r ih=>
    intro k hk
    have e:(((du8 r.length).map Nat.succ).map fun (i:Nat)=>lo+((k+i:Nat):Int))=(du8 r.length).map fun (i:Nat)=>lo+((k+1+i:Nat):Int):=by
      rw[dx2]
      refine dy3 fun i _=> ?_
      show lo+((k+(i+1):Nat):Int)=_
      congr 2;omega
    rw[dt9,List.range_succ_eq_map,dw3,dw3,e];refine .cons ?_ ?_
    · obtain ⟨t,e⟩:=hk 0 v rfl;exact ⟨t,e⟩
    · have:=ih (k+1) fun j w e=>by
        obtain ⟨t,z⟩:=hk (j+1) w (by simpa using e);exact ⟨t,by rw[z];congr 2;omega⟩
      exact this
 have:=key acc.toList 0 fun j v e=>by
   obtain ⟨t,z⟩:=hv j v (by simpa using e);exact ⟨t,by rw[z,Int.mul_one];simp⟩
 have hl:acc.toList.length=n:=by simpa using hs
 rw[hl] at this
 have e:((du8 n).map fun (i:Nat)=>lo+((0+i:Nat):Int))=K4 lo n:=by
   unfold K4
   refine dy3 fun i _=> ?_
   simp
 rw[e] at this;exact this
theorem bn6 (hc:X.calm=true):R4 X (.type "list") (fun xs H Q=>∃p lo hi,xs=[.ref p]/\H p=some (.rng lo hi)/\(-(2^62)<=lo/\lo < 2^62/\ -(2^62)<=hi/\hi < 2^62)/\(hi - lo).toNat<=2^20/\
   ∀l,H l=none->Q (.ref l) (c8 H l (.lst ((K4 lo (hi - lo).toNat).map V.int)))):=by
 intro pins s σ H xs us Q I r h;obtain ⟨p,lo,hi,rfl,hp,⟨b1,b2,b3,b4⟩,hz,q⟩:=h;obtain ⟨u,rfl,rx⟩:=U6 r;cases rx;obtain ⟨t,u,v,ho⟩:=I.hok p _ hp
 refine call_list_range (n:=(hi - lo).toNat) (I.ok.hd hc) (r:=p) ho (small_one b1 b2 b3 b4) (by rw[rangeSize_one];split<;>omega) (dt4 hz (by decide)) fun h' tk acc' c' hk e it=> ?_
 have rv:=ce7 it;refine ⟨.ref s.heap.objs.size,_,I.laid hk (dr9 _) (show x6 X.prog X.w _ h' _ (.lst ((K4 lo (hi - lo).toNat).map V.int)) from ⟨?_,acc'.toList,c',rv,by rw[e]⟩),rfl,q _ (I.hok.fresh (dr9 _))⟩;unfold K4;rw[dr6,dr6,du6];exact dt4 hz (by rw[sizeLine_eq];decide)
theorem ck3 (hc:X.calm=true):R4 X (.builtin "sum") (fun xs H Q=>∃(p:Addr) (ns:List Int),xs=[.ref p]/\g9 X.K H p (ns.map V.int)/\Q (.int ns.sum) H):=by
 intro pins s σ H xs us Q I r h;obtain ⟨p,ns,rfl,hp,q⟩:=h;obtain ⟨u,rfl,rx⟩:=U6 r;cases rx;obtain ⟨its,rv,pl,_⟩:=I.list hp;have ia:=al5 rv;obtain ⟨xs,hxs⟩:=ia.allInts.items;have hn:=ia.numsOf
 have hxl:its=(intItems xs).toList:=by rw[<-hxs]
 rw[hxl,nums_intItems] at hn;have hl:=pl.isList;rw[hxs] at hl
 refine sum_intListG (I.ok.hd hc) hl fun h' tk t' hk=>⟨.int ns.sum,H,I.kept hk,?_,q⟩
 rw[preSum_eq,dy4 (by simp),hn];exact ⟨_,rfl⟩
end
end L2
namespace L2
open PySem PySem.Spec PyProof.Rows
section
variable {X:Cx}
theorem cr6:R4 X (.builtin "isinstance") (fun xs H Q=>∃x n t b,xs=[x,.ty n]/\U8 X.K H x t/\PySem.W.kitOne X.K t (.type n)=some b/\Q (.bl b) H):=by
 intro pins s σ H xs us Q I r h;obtain ⟨x,n,t,b,rfl,ty,e,q⟩:=h;obtain ⟨u,w',rfl,rx,ry⟩:=bo5 r;cases (show w'=Value.type n from ry)
 exact cj0 I rx ty e fun tk=>⟨.bl b,H,I.tok tk,rfl,q⟩
theorem al8 (K:PySem.W.Frag)(n:String):PySem.W.kitOne K (.type n) (.type n)=some true:=by
 unfold PySem.W.kitOne;rw[if_pos (beq_self_eq_true _)]
theorem ae9 (K:PySem.W.Frag):PySem.W.kitOne K (.type "int") (.type "bool")=some false:=by
 unfold PySem.W.kitOne PySem.W.kitCls;rw[if_neg (by decide+kernel)];show (if PySem.W.kitMeta "bool"=true then (fastBuiltinMro "int").map (·.contains (Value.type "bool")) else none)=some false;rw[if_pos (by decide+kernel)]
 decide+kernel
theorem cr7:bootBuiltins "int"=some (.type "int"):=by decide+kernel
theorem ck4:bootBuiltins "bool"=some (.type "bool"):=by decide+kernel
theorem ac9:bootBuiltins "list"=some (.type "list"):=by decide+kernel
theorem by2:bootBuiltins "range"=some (.type "range"):=by decide+kernel
theorem cr8:bootBuiltins "isinstance"=some (.builtin "isinstance"):=by decide+kernel
theorem ck5:bootBuiltins "sum"=some (.builtin "sum"):=by decide+kernel
theorem ck6:bootBuiltins "min"=some (.builtin "min"):=by decide+kernel
theorem ck7:bootBuiltins "max"=some (.builtin "max"):=by decide+kernel
end
def j5 (a:Addr)(H H':Hp):Prop:=∀b o,H b=some o->b≠a->H' b=some o
theorem j5.refl (a:Addr)(H:Hp):j5 a H H:=fun _ _ h _=>h
theorem j5.trans {a:Addr}{H H1 H2:Hp}(x:j5 a H H1)(y:j5 a H1 H2):j5 a H H2:=fun b o h n=>y b o (x b o h n) n
theorem c9.but {H H':Hp}(a:Addr)(s:c9 H H'):j5 a H H':=fun b o h _=>s b o h
theorem c9.upd_new {H:Hp}{p:Addr}{o:HO}(h:H p=none):c9 H (c8 H p o):=fun b u e=>by rw[g7 (g8 e h)];exact e
theorem j5.upd {H:Hp}{a:Addr}{o:HO}:j5 a H (c8 H a o):=fun b u e n=>by rw[g7 n];exact e
theorem c9.upd_r {H H':Hp}{p:Addr}{o:HO}(s:c9 H H')(h:H p=none):c9 H (L2.c8 H' p o):=fun b u e=>by rw[g7 (g8 e h)];exact s b u e
theorem j5.upd_a {a:Addr}{H H':Hp}{o:HO}(k:j5 a H H'):j5 a H (L2.c8 H' a o):=fun b u e n=>by rw[g7 n];exact k b u e n
def D4 (H:Hp)(a:Addr)(c:Nat):Prop:=∃x y z:Int,H a=some (.lst [.int x,.int y,.int z])/\0<=z/\z<=c
theorem D4.mono {H:Hp}{a:Addr}{c d:Nat}(h:D4 H a c)(e:c<=d):D4 H a d:=by
 obtain ⟨x,y,z,h1,h2,h3⟩:=h;exact ⟨x,y,z,h1,h2,by omega⟩
end L2
namespace L2
open PySem PySem.Spec PyProof.Rows
def l8 (P:Program)(w:World)(K:PySem.W.Frag)(mg:Str->Option Value)(base:Heap)(x:Str)(k:Nat)(ps:List Str)(sp:Sp):Prop:=
 ∃(f:Addr) (fd:FuncData),mg x=some (.ref f)/\PySem.W.keepIn K (.ref f)=true/\al4 K fd ps []/\p6 P w K mg base A8 k f fd ps sp
section
variable {X:Cx} {x:Str} {p pos:Pos} {e:Expr} {es:List Expr} {t:TA} {k:Nat} {ps:List Str} {sp:Sp}
theorem h8 (c:l8 X.prog X.w X.K X.mg X.base x k ps sp)(hr:m7 k X.A)(ha:PA X (e::es) t)(hg:Gl X x:=by rfl)(hdb:(x==("__debug__":Str))=false:=by decide)
   (he:starEach (e::es) X.env=(false,eval e X.env)::starEach es X.env:=by rfl) (hpl:(backTo pos (starEach es X.env)).any (·.1)=false:=by rfl):
   PE X (.Call (.Name x p) (e::es) [] pos) (cw8 sp [] E0 t):=by
 obtain ⟨f,fd,h1,h2,h3,h4⟩:=c;exact cy5 h4 hr hg h1 h2 h3 .nil dl2 ha hdb he hpl
theorem br3 {a b:Expr}{ta:TA}(hm:X.mg "isinstance"=none)(ha:PA X [a,b] ta)(hg:Gl X "isinstance":=by rfl)
   (he:starEach [a,b] X.env=(false,eval a X.env)::starEach [b] X.env:=by rfl) (hpl:(backTo pos (starEach [b] X.env)).any (·.1)=false:=by rfl):
   PE X (.Call (.Name "isinstance" p) [a,b] [] pos) (tCB (fun xs H Q=>∃x n t b,xs=[x,.ty n]/\U8 X.K H x t/\PySem.W.kitOne X.K t (.type n)=some b/\Q (.bl b) H) ta):=
 Y7 cr6 hg hm cr8 ha (by decide) (by decide) he hpl
theorem cr9 (hm:X.mg "int"=none)(hg:Gl X "int":=by rfl):PE X (.Name "int" p) (tC (.ty "int")):=bg0 hg hm cr7 rfl
theorem ck8 (hm:X.mg "bool"=none)(hg:Gl X "bool":=by rfl):PE X (.Name "bool" p) (tC (.ty "bool")):=bg0 hg hm ck4 rfl
theorem ck9 (hm:X.mg "list"=none)(hg:Gl X "list":=by rfl):PE X (.Name "list" p) (tC (.ty "list")):=bg0 hg hm ac9 rfl
theorem p9 (hm:X.mg "len"=none)(ha:PA X [e] t)(hg:Gl X "len":=by rfl)
   (he:starEach [e] X.env=(false,eval e X.env)::starEach [] X.env:=by rfl):PE X (.Call (.Name "len" p) [e] [] pos) (tCB (fun xs H Q=>∃p ys,xs=[.ref p]/\(g9 X.K H p ys\/R3 X.K H p ys)/\Q (.int ys.length) H) t):=
 Y7 bq8 hg hm PySem.boot_len ha (by decide) (by decide) he rfl
end
end L2
namespace Mth
structure j7 (p:List Int):Prop where
 nd:p.Nodup
 lo:∀x∈p,0<=x
 hi:∀x∈p,x < p.length
theorem G0 {n:Nat}{x:Int}:x∈L2.K4 0 n↔0<=x/\x < n:=by
 unfold L2.K4;rw[ds9];constructor
 · rintro ⟨i,hi,rfl⟩;have:=dv6.mp hi;omega
 · rintro ⟨h1,h2⟩;exact ⟨x.toNat,dv6.mpr (by omega),by omega⟩
theorem E8 (lo:Int)(n:Nat):(L2.K4 lo n).length=n:=by
 unfold L2.K4;rw[dr6,du6]
theorem O8 (n:Nat):(L2.K4 0 n).Nodup:=by
 unfold L2.K4;rw[dt0,ea8];exact List.Pairwise.imp (fun {a b} (h:a < b)=>by omega) ei2
theorem N5 {p:List Int}{n:Nat}(h:p.Perm (L2.K4 0 n)):j7 p/\p.length=n:=by
 have hl:p.length=n:=by rw[h.length_eq,E8]
 refine ⟨⟨h.nodup_iff.mpr (O8 n),fun x hx=>(G0.mp (h.mem_iff.mp hx)).1,fun x hx=> ?_⟩,hl⟩;have:=(G0.mp (h.mem_iff.mp hx)).2;omega
theorem bn7:∀(n:Nat) (p:List Nat),p.Nodup->(∀x∈p,x < n)->p.length=n->p.Perm (du8 n):=by
 intro n
 induction n with
 |zero=>intro p _ _ hl;rw[eb5 hl];exact List.Perm.refl _
 |succ n ih=>
  intro p nd hb hl
  by_cases hn:n∈p
  · obtain ⟨s,t,rfl⟩:=ek1 hn;have pm:(s++n::t).Perm (n::(s++t)):=List.perm_middle;have nd':=pm.nodup_iff.mp nd;obtain ⟨h1,h2⟩:=dw2.mp nd'
    have:=ih (s++t) h2 (fun x hx=>by
      have hx':x < n+1:=hb x (pm.mem_iff.mpr (ds3 _ hx))
      have:x≠n:=fun e=>h1 (e▸hx)
      omega) (by rw[ds6,dt9] at hl;rw[ds6];omega)
    refine pm.trans ?_;rw[eb9];exact (List.Perm.cons n this).trans (dy5 (l₁:=[n]))
  · exfalso
    have hlt:∀x∈p,x < n:=fun x hx=>by
      have h1:=hb x hx
      have:x≠n:=fun e=>hn (e▸hx)
      omega
    match p,nd,hl,hlt with
    |[],_,hl,_=>simp at hl
    |y::q,nd,hl,hlt=>
     obtain ⟨h1,h2⟩:=dw2.mp nd;have hq:=ih q h2 (fun x hx=>hlt x (ds3 _ hx)) (by simpa using hl);have hy:=hlt y ds1;exact h1 (hq.mem_iff.mpr (dv6.mpr hy))
theorem j7.perm {p:List Int}(h:j7 p):p.Perm (L2.K4 0 p.length):=by
 have e:(p.map Int.toNat).map (fun (i:Nat)=>(0:Int)+(i:Int))=p:=by
   rw[dx2]
   conv=>rhs;rw[<-eg4 p]
   refine dy3 fun x hx=> ?_
   have:=h.lo x hx;show (0:Int)+((x.toNat:Nat):Int)=x;omega
 have nd:(p.map Int.toNat).Nodup:=by
   rw[dt0,ea8];have:=dt0.mp h.nd;refine List.Pairwise.imp_of_mem (fun {a b} ha hb hne z=>hne ?_) this;have h1:=h.lo a ha;have h2:=h.lo b hb;omega
 have:=bn7 p.length (p.map Int.toNat) nd (fun x hx=>by
   obtain ⟨y,hy,rfl⟩:=ds9.mp hx;have h1:=h.lo y hy;have h2:=h.hi y hy
   omega) (by rw[dr6])
 have q:=this.map (fun (i:Nat)=>(0:Int)+(i:Int));rw[e] at q;exact q
def x4 (fs:List Int)(u:Int):Option Int:=fs[u.toNat]?
theorem br4 (fs:List Int):(L2.K4 0 fs.length).map (x4 fs)=fs.map some:=by
 unfold L2.K4;rw[dx2]
 refine dv3 fun j=> ?_
 rw[ds0,ds0]
 by_cases hj:j < fs.length
 · rw[dv4 hj,dr8 hj];show some (fs[((0:Int)+(j:Int)).toNat]?)=_
   have:((0:Int)+(j:Int)).toNat=j:=by omega
   rw[this,dr8 hj];rfl
 · rw[ds7 (by rw[du6];omega),ds7 (by omega)];rfl
theorem cl0 {a b:List Int}(h:(a.map some).Perm (b.map some)):a.Perm b:=by
 have:=h.map (fun o:Option Int=>o.getD 0);rw[dx2,dx2] at this
 have e:∀l:List Int,l.map ((fun o:Option Int=>o.getD 0)∘some)=l:=fun l=>by
   conv=>rhs;rw[<-eg4 l]
   rfl
 rw[e,e] at this;exact this
theorem al9 {fs ts qs:List Int}(ht:j7 ts)(hl:fs.length=ts.length)(h:ts.map (x4 fs)=qs.map some):fs.Perm qs:=by
 refine cl0 ?_;have h1:=ht.perm.map (x4 fs);rw[<-hl,br4,h] at h1;exact h1.symm
end Mth
namespace L2
open PySem PySem.Spec PyProof.Rows
theorem aq5.of {X:Cx}{N:List Str}{nl:Nat}{fr:List Nat}{scope:Scope}(h1:(scope.names.all fun y=>y.2 != .cell)=true:=by rfl)(h2:scope.kind= .function:=by rfl)
   (h3:(scope.names.all fun y=>y.2 != .local||scope.names.lookup y.1==some .local)=true:=by rfl)
   (h4:(scope.names.all fun p=>p.2 != .free||(X.env.kindOf p.1==some .cell||X.env.kindOf p.1==some .free))=true:=by rfl) (h5:N.length=nl+fr.length:=by rfl)
   (h6:((du8 fr.length).all fun k=>match fr[k]? with
     |some j=>(match N[nl+k]?,X.N[j]? with
      |some y,some z=>y==z&&(X.env.scope.names.lookup y==some .local||X.env.scope.names.lookup y==some .cell||X.env.scope.names.lookup y==some .free)&&scope.names.lookup y==some .free
      |_,_=>false)
     |none=>false)=true:=by rfl):aq5 X N nl fr scope where
 cell:=fun y hy e=>by
   have:=ed5.mp h1 y hy;rw[e] at this;exact absurd this (by decide)
 kind:=h2
 names:=fun y hy e=>by
   have:=ed5.mp h3 y hy;rw[e] at this
   have q:(scope.names.lookup y.1==some NameKind.local)=true:=by simpa using this
   exact eq_of_beq q
 free:=fun p hp e=>by
   have:=ed5.mp h4 p hp;rw[e] at this
   have q:(X.env.kindOf p.1==some NameKind.cell||X.env.kindOf p.1==some NameKind.free)=true:=by simpa using this
   rcases ej2 _ _|>.mp q with z|z
   · exact .inl (eq_of_beq z)
   · exact .inr (eq_of_beq z)
 len:=h5
 fr:=fun k j e=>by
   have hk:k < fr.length:=(dr7.mp e).1;have:=ed5.mp h6 k (dv6.mpr hk);rw[e] at this
   dsimp only at this
   cases e1:N[nl+k]? with
   |none=>rw[e1] at this;cases this
   |some y=>
    cases e2:X.N[j]? with
    |none=>rw[e1,e2] at this;cases this
    |some z=>
     rw[e1,e2] at this
     dsimp only at this
     rw[ed4,ed4] at this;obtain ⟨⟨q1,q2⟩,q3⟩:=this;have hyz:y=z:=eq_of_beq q1;subst hyz;refine ⟨y,rfl,rfl,?_,eq_of_beq q3⟩;rw[ej2,ej2] at q2
     rcases q2 with (q|q)|q
     · exact .inl (eq_of_beq q)
     · exact .inr (.inl (eq_of_beq q))
     · exact .inr (.inr (eq_of_beq q))
def T3 (l:List Int):List (o9×V):=l.map fun n=>((Sum.inl n:o9),V.bl true)
theorem br5 {l:List Int}{n:Int}(h:n∈l):A4 (T3 l) (Sum.inl n:o9)=some (.bl true):=by
 induction l with
 |nil=>simp at h
 |cons a r ih=>
  show A4 (((Sum.inl a:o9),V.bl true)::T3 r) _=_
  by_cases e:a=n
  · rw[Y8 (by rw[e])]
  · rw[V0 (fun z=>e (Sum.inl.inj z))];exact ih ((dt8.mp h).resolve_left fun z=>e z.symm)
theorem ay8 {l:List Int}{n:Int}(h:n∉l):A4 (T3 l) (Sum.inl n:o9)=none:=by
 induction l with
 |nil=>rfl
 |cons a r ih=>
  show A4 (((Sum.inl a:o9),V.bl true)::T3 r) _=_;rw[V0 (fun z=>h (by rw[Sum.inl.inj z];exact ds1))]
  exact ih fun z=>h (ds3 _ z)
theorem bk3 {l:List Int}{n:Int}(h:n∉l):U9 (T3 l) (Sum.inl n:o9) (V.bl true)=T3 (l++[n]):=by
 rw[ay6 _ (ay8 h)];unfold T3;rw[ds5];rfl
theorem D9 {ns:List Int}{i:Nat}{y:V}(h:(ns.map V.int)[i]? =some y):∃z,ns[i]? =some z/\y= .int z:=by
 rw[ds0] at h
 cases e:ns[i]? with
 |none=>rw[e] at h;cases h
 |some z=>rw[e] at h;exact ⟨z,rfl,(Option.some.inj h).symm⟩
theorem i9 {α:Type}{l:List α}{i:Nat}{x:α}(h:l[i]? =some x):l.take (i+1)=l.take i++[x]:=by
 rw[List.take_add_one,h];rfl
end L2
namespace Mth
def j8 (p q:List Int):List Int:=q.map fun i=>p.getD i.toNat 0
theorem aj5 {p:List Int}{i:Int}(h0:0<=i)(h1:i < p.length):L2.atI (p.map L2.V.int) i=some (.int (p.getD i.toNat 0)):=by
 obtain ⟨j,rfl⟩:=dy9 h0;refine L2.G7 ?_
 have hj:j < p.length:=by omega
 rw[ds0,dr8 hj];show some (L2.V.int p[j])=_;rw[dw1];rw[ds2,dr8 hj];rfl
end Mth
namespace L2
open PySem PySem.Spec PyProof.Rows
theorem cz5 (K:PySem.W.Frag)(H:Hp)(n:Nat)(xs:List V):LEq K H n xs [] xs.isEmpty:=by
 cases xs with
 |nil=>exact .inr ⟨fun _=>true,rfl,fun j x y e=>by simp at e,rfl⟩
 |cons x r=>exact .inl ⟨by simp,rfl⟩
section
variable {X:Cx} {p pos apos:Pos} {e o:Expr} {es:List Expr} {t:TA} {to:TE}
theorem B0 (ho:PE X o to)(ha:PA X [e] t)
   (hbase:attributeBase o "append" X.env (eval o X.env)=eval o X.env:=by rfl)
   (hfew:((backTo pos (starEach [e] X.env)).all (fun x=> !x.1)&&(backToKw pos (keywordEach [] X.env)).all (fun x=>x.1.isSome)
     &&decide ([e].length+([]:List Keyword).length+(if ([]:List Keyword).isEmpty then 0 else 1) < 30))=true:=by rfl)
   (hline:(apos.endLine==pos.line)=true:=by rfl) (hs:starEach [e] X.env=(false,eval e X.env)::starEach [] X.env:=by rfl) (hplain:(backTo pos (starEach [] X.env)).any (·.1)=false:=by rfl):
   PE X (.Call (.Attribute o "append" apos) [e] [] pos) (tBM X.K "list" ca3 to t):=
 bo8 PySem.F.plainAttrs_list PySem.F.slot_list_append PySem.F.type_list_append cj3 ho ha hbase hfew hline hs hplain
theorem cs0 (ho:PE X o to)(ha:PA X [e] t)
   (hbase:attributeBase o "pop" X.env (eval o X.env)=eval o X.env:=by rfl)
   (hfew:((backTo pos (starEach [e] X.env)).all (fun x=> !x.1)&&(backToKw pos (keywordEach [] X.env)).all (fun x=>x.1.isSome)
     &&decide ([e].length+([]:List Keyword).length+(if ([]:List Keyword).isEmpty then 0 else 1) < 30))=true:=by rfl)
   (hline:(apos.endLine==pos.line)=true:=by rfl) (hs:starEach [e] X.env=(false,eval e X.env)::starEach [] X.env:=by rfl) (hplain:(backTo pos (starEach [] X.env)).any (·.1)=false:=by rfl):
   PE X (.Call (.Attribute o "pop" apos) [e] [] pos) (tBM X.K "list" cj4 to t):=
 bo8 PySem.F.plainAttrs_list PySem.F.slot_list_pop PySem.F.type_list_pop cq8 ho ha hbase hfew hline hs hplain
theorem K5 (hm:X.mg "list"=none)(ha:PA X [e] t)(hg:Gl X "list":=by rfl)(he:starEach [e] X.env=(false,eval e X.env)::starEach [] X.env:=by rfl):
   PE X (.Call (.Name "list" p) [e] [] pos) (tCB (fun xs H Q=>∃p ys,xs=[.ref p]/\(g9 X.K H p ys\/R3 X.K H p ys)/\∀l,H l=none->Q (.ref l) (c8 H l (.lst ys))) t):=
 V9 bq9 hg hm ac9 ha (by decide) (by decide) he rfl
theorem ad0 {p2 pos2:Pos}(hc:X.calm=true)(hm:X.mg "list"=none)(hm2:X.mg "range"=none)(ha:PA X [e] t)(hg:Gl X "list":=by rfl)(hg2:Gl X "range":=by rfl)(he:starEach [e] X.env=(false,eval e X.env)::starEach [] X.env:=by rfl)
   (he2:starEach [.Call (.Name "range" p2) [e] [] pos2] X.env=(false,eval (.Call (.Name "range" p2) [e] [] pos2) X.env)::starEach [] X.env:=by rfl):
   PE X (.Call (.Name "list" p) [.Call (.Name "range" p2) [e] [] pos2] [] pos) (tCB (fun xs H Q=>∃p lo hi,xs=[.ref p]/\H p=some (.rng lo hi)/\(-(2^62)<=lo/\lo < 2^62/\ -(2^62)<=hi/\hi < 2^62)/\(hi - lo).toNat<=2^20/\
   ∀l,H l=none->Q (.ref l) (c8 H l (.lst ((K4 lo (hi - lo).toNat).map V.int)))) (bo6 (tCB (fun xs H Q=>∃j,xs=[.int j]/\∀p,H p=none->Q (.ref p) (c8 H p (.rng 0 j))) t) ce0)):=
 V9 (bn6 hc) hg hm ac9 (c5 (V9 by1 hg2 hm2 by2 ha (by decide) (by decide) he rfl) c6 he2) (by decide) (by decide) he2 rfl
theorem cl1 (hc:X.calm=true)(hm:X.mg "sum"=none)(ha:PA X [e] t)(hg:Gl X "sum":=by rfl)(he:starEach [e] X.env=(false,eval e X.env)::starEach [] X.env:=by rfl):
   PE X (.Call (.Name "sum" p) [e] [] pos) (tCB (fun xs H Q=>∃(p:Addr) (ns:List Int),xs=[.ref p]/\g9 X.K H p (ns.map V.int)/\Q (.int ns.sum) H) t):=
 Y7 (ck3 hc) hg hm ck5 ha (by decide) (by decide) he rfl
theorem bg4 {a b:Expr}(hc:X.calm=true)(hm:X.mg "min"=none)(ha:PA X [a,b] t)(hg:Gl X "min":=by rfl)(he:starEach [a,b] X.env=(false,eval a X.env)::starEach [b] X.env:=by rfl)(hpl:(backTo pos (starEach [b] X.env)).any (·.1)=false:=by rfl):
   PE X (.Call (.Name "min" p) [a,b] [] pos) (tCB (fun xs H Q=>∃i j,xs=[.int i,.int j]/\Q (.int (if j < i then j else i)) H) t):=
 Y7 (ci8 hc) hg hm ck6 ha (by decide) (by decide) he hpl
theorem cz6 {a b:Expr}(hc:X.calm=true)(hm:X.mg "max"=none)(ha:PA X [a,b] t)(hg:Gl X "max":=by rfl)(he:starEach [a,b] X.env=(false,eval a X.env)::starEach [b] X.env:=by rfl)(hpl:(backTo pos (starEach [b] X.env)).any (·.1)=false:=by rfl):
   PE X (.Call (.Name "max" p) [a,b] [] pos) (tCB (fun xs H Q=>∃i j,xs=[.int i,.int j]/\Q (.int (if j > i then j else i)) H) t):=
 Y7 (ci7 hc) hg hm ck7 ha (by decide) (by decide) he hpl
end
end L2
namespace Mth
theorem bc4 {α:Type}:∀{l:List α} {k:Nat} {y:α},l[k]? =some y->(y::l.eraseIdx k).Perm l
 |[],k,y,h=>by simp at h
 |a::r,0,y,h=>by
  simp at h;subst h;exact List.Perm.refl _
 |a::r,k+1,y,h=>by
  have h':r[k]? =some y:=by simpa using h
  have ih:=bc4 h';show (y::a::r.eraseIdx k).Perm (a::r);exact (List.Perm.swap a y _).trans (ih.cons a)
end Mth
namespace L2
open PySem PySem.Spec PyProof.Rows
def dl3 (K:PySem.W.Frag)(ta:TA):TE:=tCB (fun xs H Q=>∃p ys,xs=[.ref p]/\(g9 K H p ys\/R3 K H p ys)/\Q (.int ys.length) H) ta
section
variable {X:Cx} {p pos:Pos} {e:Expr} {t:TA}
theorem cs1 (K:PySem.W.Frag)(hm:X.mg "len"=none)(ha:PA X [e] t)(hK:X.K=K:=by rfl)(hg:Gl X "len":=by rfl)
   (he:starEach [e] X.env=(false,eval e X.env)::starEach [] X.env:=by rfl):PE X (.Call (.Name "len" p) [e] [] pos) (dl3 K t):=by
 subst hK;exact p9 hm ha hg he
end
theorem ay9 (n:Nat):(dv8 n [V.int 0]).flatten=(dv8 n (0:Int)).map V.int:=by
 induction n with
 |zero=>rfl
 |succ n ih=>rw[eb8,dv5,ih,eb8,dw3];rfl
def bc5:V->Int
 | .int i=>i
 |_=>0
theorem cl2 {ys:List V}{xs:List Int}(h:ys.Perm (xs.map V.int)):∃ps:List Int,ys=ps.map V.int/\ps.Perm xs:=by
 refine ⟨ys.map bc5,?_,?_⟩
 · rw[dx2]
   conv=>lhs;rw[<-eg4 ys]
   refine dy3 fun y hy=> ?_
   obtain ⟨i,_,rfl⟩:=ds9.mp (h.mem_iff.mp hy);rfl
 · have:=h.map bc5;rw[dx2] at this
   have e:xs.map (bc5∘V.int)=xs:=by
     conv=>rhs;rw[<-eg4 xs]
     rfl
   rw[e] at this;exact this
end L2
namespace Mth
theorem ab3 {fs:List Int}{u v x:Int}(hu:0<=u)(hv:0<=v)(h:u≠v):x4 (fs.set v.toNat x) u=x4 fs u:=by
 unfold x4;rw[ej0 (by omega)]
theorem Z1 {fs:List Int}{v x:Int}(h:v.toNat < fs.length):x4 (fs.set v.toNat x) v=some x:=by
 unfold x4;rw[ei1 h]
theorem x8 {ts:List Int}{i:Nat}(h:i < ts.length):ts.getD i 0=ts[i]:=by
 rw[ds2,dr8 h];rfl
theorem J8 {ts:List Int}(nd:ts.Nodup){i j:Nat}(hi:i < ts.length)(hj:j < ts.length)(h:i≠j):ts.getD i 0≠ts.getD j 0:=by
 rw[x8 hi,x8 hj]
 rcases Nat.lt_or_gt_of_ne h with z|z
 · exact du7.mp (dt0.mp nd) i j hi hj z
 · exact fun e=>du7.mp (dt0.mp nd) j i hj hi z e.symm
theorem cs2 {ts fs qs:List Int}{k L:Nat}(hL:1<=L)(hb:k+L<=ts.length)(h1:(ts.take k).map (x4 fs)=qs.map some)(hq:qs.Perm (ts.take k))
   (h2:∀j,j < L->x4 fs (ts.getD (k+j) 0)=some (ts.getD (k+(j+1)%L) 0)):∃qs':List Int,qs'.Perm (ts.take (k+L))/\(ts.take (k+L)).map (x4 fs)=qs'.map some:=by
 have hT:((ts.drop k).take L).length=L:=by rw[dt3,dv9];omega
 have hTj:∀j,j < L->((ts.drop k).take L)[j]? =some (ts.getD (k+j) 0):=fun j hj=>by
   rw[dx1 hj,ec6,x8 (by omega),dr8 (by omega)]
 have e:((ts.drop k).take L).map (x4 fs)=(((ts.drop k).take L).drop 1++((ts.drop k).take L).take 1).map some:=by
   refine dv3 fun j=> ?_
   by_cases hj:j < L
   · rw[ds0,hTj j hj,ds0];show some (x4 fs (ts.getD (k+j) 0))=_;rw[h2 j hj]
     by_cases hj1:j+1 < L
     · rw[dv0 (by rw[dv9,hT];omega),ec6,ea9 1 j,hTj (j+1) hj1,dy7 hj1];rfl
     · have hjL:j+1=L:=by omega
       rw[dw6 (by rw[dv9,hT];omega),dv9,hT,hjL,Nat.mod_self]
       have:j - (L - 1)=0:=by omega
       rw[this,dx1 (by omega),hTj 0 (by omega)];rfl
   · rw[ds7 (by rw[dr6,hT];omega),ds7];rw[dr6,ds6,dv9,dt3 (i:=1),hT];omega
 refine ⟨qs++(((ts.drop k).take L).drop 1++((ts.drop k).take L).take 1),?_,?_⟩
 · rw[List.take_add];refine List.Perm.append hq ?_;refine dy5.trans ?_;rw[dx0]
 · rw[List.take_add,ds5,ds5,h1,e]
end Mth
namespace L2
open PySem PySem.Spec PyProof.Rows
theorem c9.kb {a:Addr}{H H1 H2:Hp}(s:c9 H H1)(k:j5 a H1 H2)(h:H a=none):c9 H H2:=fun b o e=>k b o (s b o e) (g8 e h)
def j9 (H:Hp)(as:List Addr)(rs:List (List Int)):Prop:=as.length=rs.length/\∀(j:Nat) a r,as[j]? =some a->rs[j]? =some r->H a=some (.lst (r.map V.int))
theorem ax8 {a b:List Int}(h:a.map V.int=b.map V.int):a=b:=(List.map_inj_right (fun x y (h:V.int x=V.int y)=>V.int.inj h)).mp h
theorem cl3 {K:PySem.W.Frag}{H:Hp}{as bs:List Addr}{rs qs:List (List Int)}(ha:j9 H as rs)(hb:j9 H bs qs):LEq K H 1 (as.map V.ref) (bs.map V.ref) (decide (rs=qs)):=by
 by_cases hl:as.length=bs.length
 · refine .inr ⟨fun j=>decide (rs[j]? =qs[j]?),by simpa using hl,fun j x y e1 e2=> ?_,?_⟩
   · rw[ds0] at e1 e2
     cases h1:as[j]? with
     |none=>rw[h1] at e1;cases e1
     |some a=>
      cases h2:bs[j]? with
      |none=>rw[h2] at e2;cases e2
      |some b=>
       rw[h1] at e1;rw[h2] at e2;cases e1;cases e2;have j1:j < as.length:=(dr7.mp h1).1;have k1:rs[j]? =some (rs[j]'(by rw[<-ha.1];exact j1)):=dr8 _;have k2:qs[j]? =some (qs[j]'(by rw[<-hb.1,<-hl];exact j1)):=dr8 _;have q1:=ha.2 j a _ h1 k1;have q2:=hb.2 j b _ h2 k2;show EqD K H 1 _ _ (decide (rs[j]? =qs[j]?));rw[k1,k2];generalize (rs[j]'(by rw[<-ha.1];exact j1))=r at q1 ⊢;generalize (qs[j]'(by rw[<-hb.1,<-hl];exact j1))=q at q2 ⊢
       by_cases hab:a=b
       · subst hab;rw[q1] at q2;have e':r=q:=ax8 (HO.lst.inj (Option.some.inj q2));rw[e',decide_eq_true rfl];exact .same a
       · rcases ae8 K H 0 r q with ⟨h3,h4⟩|⟨e,h3,h4,h5⟩
         · have:=EqD.lens (n:=0) hab (g9.of (K:=K) q1) (g9.of q2) h3
           rw[decide_eq_false (fun z=>by
             have z':r=q:=Option.some.inj z
             exact h3 (by rw[z']))]
           exact this
         · have:=EqD.lists (n:=0) e hab (g9.of (K:=K) q1) (g9.of q2) h3 h4;rw[<-h5] at this
           have e6:decide (r=q)=decide (some r=some q):=by
             by_cases z:r=q
             · subst z;simp
             · rw[decide_eq_false z,decide_eq_false fun w=>z (Option.some.inj w)]
           rw[<-e6];exact this
   · rw[ee0,decide_eq_true_iff,ap6];constructor
     · intro h j _;subst h;simp
     · intro h
       refine dv3 fun j=> ?_
       by_cases hj:j < rs.length
       · exact of_decide_eq_true (h j (by rw[dr6,ha.1];exact hj))
       · rw[ds7 (by omega),ds7 (by rw[<-hb.1,<-hl,ha.1];omega)]
 · refine .inl ⟨by simpa using hl,?_⟩
   exact decide_eq_false fun h=>hl (by rw[ha.1,hb.1,h])
end L2
namespace Mth
theorem af0 {p:List Int}(t:j7 p){j:Nat}(h:j < p.length):0<=p.getD j 0/\p.getD j 0 < p.length:=by
 rw[x8 h];exact ⟨t.lo _ (dv7 h),t.hi _ (dv7 h)⟩
theorem cs3 {p:List Int}{f:Int->Option Int}{g:Nat->Int}(h:∀u,u < p.length->f (p.getD u 0)=some (g u)):p.map f=((du8 p.length).map g).map some:=by
 refine dv3 fun j=> ?_
 rw[ds0,ds0,ds0]
 by_cases hj:j < p.length
 · rw[dr8 hj,dv4 hj];have:=h j hj;rw[x8 hj] at this;show some (f p[j])=some (some (g j));rw[this]
 · rw[ds7 (by omega),ds7 (by rw[du6];omega)];rfl
theorem bk4 {p bs:List Int}(t:j7 p)(hl:bs.length=p.length)(h:∀u,u < p.length->x4 bs (p.getD u 0)=some (u:Int)):bs.Perm (L2.K4 0 p.length):=by
 refine al9 t hl ?_;rw[cs3 (g:=fun u=>(0:Int)+(u:Int)) (fun u hu=>by rw[h u hu];simp)];rfl
theorem A2 (p q:List Int):(j8 p q).length=q.length:=by unfold j8;rw[dr6]
end Mth
namespace L2
open PySem PySem.Spec PyProof.Rows
def Ite (K:PySem.W.Frag)(a:Addr):It:=
 ⟨fun i H=>∃xs x,g9 K H a xs/\xs[i]? =some x,fun i H v H'=>∃x t,(∀xs,g9 K H a xs->xs[i]? =some x)/\H t=none/\v= .ref t/\H'=c8 H t (.tup [.int (i:Int),x]),fun i H=>∃xs,g9 K H a xs/\xs.length<=i⟩
theorem cl5 {P:Program}{w:World}{K:PySem.W.Frag}{elts:List Expr}{x1}{pos:Pos}(a e it:Addr)(hne:e≠it):
   bg1 P w K (.Tuple elts x1 pos) (Ite K a) [e,it] e (fun i h=>(∃old,IsEnum h e it i old)/\h.IsListIter it a i) where
 mem:=by simp
 obj:=fun i h st b hb=>by
   obtain ⟨⟨old,he⟩,⟨o,ho,c,d⟩⟩:=st
   have hb:b=e\/b=it:=by simpa using hb
   rcases hb with rfl|rfl
   · exact ⟨_,he,fun v z=>by cases z⟩
   · exact ⟨o,ho,fun v z=>by rw[d] at z;cases z⟩
 keep:=fun i h h' st k=>⟨let ⟨old,he⟩:=st.1;⟨old,k e (by simp) _ he⟩,st.2.at fun o q=>k it (by simp) o q⟩
 item:=by
   intro X hP hw hK hc i pins s σ H E I hf st hg;subst hP hw hK;obtain ⟨⟨old,he⟩,hit⟩:=st;obtain ⟨xs,x,hq,hx⟩:=hg;obtain ⟨its,rv,p,hz⟩:=I.list hq;obtain ⟨u,hu,ru⟩:=rv.get hx;obtain ⟨f0,f1,f2,f3,f4,f5⟩:=hf e (by simp);obtain ⟨g0,g1,g2,g3,g4,g5⟩:=hf it (by simp)
   refine wpAny_pyNext_enum_item he hit p.isList (x:=u) (by simpa using hu) hne fun h' he' hit' ht' hz' hk'=> ?_
   refine ⟨_,rfl,wpAny_letOwnedTupleGo_enum he' fun h2 he2 hs2=> ?_⟩;have hs2:Heap.SameBut e h' h2:=hs2;have eT:e≠s.heap.objs.size:=dw7 (Heap.lt_size he);have ht2:h2.get? s.heap.objs.size=some {cls:= .type "tuple",data:= .seq #[.int i s.toks,u]}:=hs2.extBut _ _ eT.symm ht'
   have kk:∀b o,b≠e->b≠it->s.heap.get? b=some o->h2.get? b=some o:=fun b o b1 b2 q=>hs2.extBut b o b1 (hk' b o b1 b2 q)
   have hn:H s.heap.objs.size=none:=I.hok.fresh (dr9 _)
   have nT:∀b u',H b=some u'->b≠s.heap.objs.size:=fun b u' q=>g8 q hn
   have ne:∀b u',H b=some u'->b≠e/\b≠it:=fun b u' q=>⟨fun z=>(by rw[z,f0] at q;cases q),fun z=>(by rw[z,g0] at q;cases q)⟩
   have I1:h7 X pins σ (c8 H s.heap.objs.size (.tup [.int (i:Int),x])) {s with heap:=h2,gens:=s.gens,drawn:=s.drawn,toks:=s.toks+1}:=by
     refine I.step (ch:=[e,it]) (fun b hb=> ?_) (fun b o _ _ hc q _=>kk b o (fun z=>hc (by simp [z])) (fun z=>hc (by simp [z])) q) (fun b o _ _ hc q _=>⟨o.slots,kk b o (fun z=>hc (by simp [z])) (fun z=>hc (by simp [z])) q⟩)
       (fun b o hc q n=>by rw[g7 (dw7 (Heap.lt_size q))];exact n) (fun b o hc q=>⟨o,kk b o (fun z=>hc (by simp [z])) (fun z=>hc (by simp [z])) q⟩)
       (fun b ys q=>by rw[g7 (nT b _ q)];exact q) (fun b o ys q=>by rw[g7 (nT b _ q)];exact q) (fun b ps q=>⟨#[],by rw[g7 (nT b _ q),q];simp⟩) (fun m hm=> ?_) (fun b u' q=> ?_) I.bare
     · have hb:b=e\/b=it:=by simpa using hb
       rcases hb with rfl|rfl
       · exact ⟨f3,f1,f4,f5⟩
       · exact ⟨g3,g1,g4,g5⟩
     · obtain ⟨o,es,ep,ho,r⟩:=hm;exact ⟨o,es,ep,kk _ o (Ne.symm f1) (Ne.symm g1) ho,r⟩
     · by_cases hb:b=s.heap.objs.size
       · subst hb;rw[c7] at q;cases q;exact ⟨by show 2<=sizeLine;decide,[.int i s.toks,u],.cons ⟨_,rfl⟩ (.cons ru .nil),⟨_,ht2,rfl,0,rfl⟩⟩
       · rw[g7 hb] at q
         refine (I.hok b u' q).stay (fun c v hc q'=> ?_) (fun c q'=>by rw[g7 (nT c _ q')];exact q') fun c ys q'=>by rw[g7 (nT c _ q')];exact q'
         rcases hc with z|z
         · rw[z] at q' ⊢;exact kk b v (ne b _ q).1 (ne b _ q).2 q'
         · exact kk c v (ne c _ z).1 (ne c _ z).2 q'
   refine ⟨.ref s.heap.objs.size,_,I1,rfl,⟨x,s.heap.objs.size,fun ys hy=>by rw[I.list_inj hy hq];exact hx,hn,rfl,rfl⟩,⟨⟨u,?_⟩,?_⟩,fun b hb=> ?_⟩
   · have:((i+1:Nat):Int)=(i:Int)+1:=by push_cast;rfl
     rw[this];exact he2
   · exact hit'.extBut hs2.extBut hne.symm
   · have hb:b=e\/b=it:=by simpa using hb
     rcases hb with rfl|rfl
     · rw[g7 eT];exact f0
     · obtain ⟨o,ho,_⟩:=hit;rw[g7 (dw7 (Heap.lt_size ho))];exact g0
 done:=by
   intro X hP hw hK hc i pins s σ H E I hf st hg;subst hP hw hK;obtain ⟨⟨old,he⟩,hit⟩:=st;obtain ⟨xs,hq,hx⟩:=hg;obtain ⟨its,rv,p,hz⟩:=I.list hq;obtain ⟨g0,g1,g2,g3,g4,g5⟩:=hf it (by simp);have hl:=rv.length
   exact wpAny_pyNext_enum_end (I.ok.hd hc) he hit p.isList (by simp;omega) fun h' eb=>⟨rfl,I.turned (t':=s.toks) (fun b o hb q=>eb b o hb q) g0 g1 g3 g4 g5⟩
 self:=fun _ _ _ _ _ st h=>let ⟨_,he⟩:=st.1;wpAny_pyIter_enum he h
theorem cl6:bootBuiltins "enumerate"=some (.type "enumerate"):=by decide+kernel
section
variable {X:Cx} {l:Expr} {ta:TA} {p pos:Pos} {elts:List Expr} {x1:Nat} {tpos:Pos}
def dl4 (K:PySem.W.Frag)(ta:TA):TI:=fun σ H R=>ta σ H fun vs H1=>∃a,vs=[.ref a]/\(∃xs,g9 K H1 a xs)/\R (Ite K a) H1
theorem W0 (hm:X.mg "enumerate"=none)(ha:PA X [l] ta)(hg:Gl X "enumerate":=by rfl)(hs:starEach [l] X.env=[(false,eval l X.env)]:=by rfl):PI X (.Tuple elts x1 tpos) (.Call (.Name "enumerate" p) [l] [] pos) (dl4 X.K ta):=by
 intro pins s σ H R I h;refine Call_ (aa7 I hg hm cl6 (PyProof.Rows.callWith_type1 (q9 (ha pos pins s σ H _ I h) fun us s1 ⟨vs,H1,I1,r1,q1⟩=> ?_) hs rfl));obtain ⟨a,e,⟨xs,hq⟩,q⟩:=q1;subst e;obtain ⟨u,rfl,rx⟩:=U6 r1;cases rx;obtain ⟨its,rv,pl,hz⟩:=I1.list hq
 refine call_enumerate_list pl.isList fun h' he hit hz' hk=> ?_
 refine wpAny_pyIter_enum he ?_;have I2:h7 X pins σ H1 {s1 with heap:=h',toks:=s1.toks}:=I1.kept (t':=s1.toks) hk;refine ⟨s1.heap.objs.size+1,[s1.heap.objs.size+1,s1.heap.objs.size],_,_,H1,rfl,I2,cl5 a (s1.heap.objs.size+1) s1.heap.objs.size (Nat.succ_ne_self _),⟨⟨.none,he⟩,hit⟩,fun b hb=> ?_,q⟩
 have hb:b=s1.heap.objs.size+1\/b=s1.heap.objs.size:=by simpa using hb
 rcases hb with rfl|rfl
 · exact I1.fpOk (by omega) (I1.hok.fresh (by omega))
 · exact I1.fpOk (by omega) (I1.hok.fresh (by omega))
end
theorem R9 {K:PySem.W.Frag}{a:Addr}{xs:List V}{g:TG}{tb:TS}{D:ae2}{σ:St}{H:Hp}(Pv:Nat->St->Hp->Prop)(h0:Pv 0 σ H)(hl:∀i σ H,i<=xs.length->Pv i σ H->g9 K H a xs)
   (hs:∀i x σ H t,xs[i]? =some x->Pv i σ H->H t=none->g (.ref t) σ (c8 H t (.tup [.int (i:Int),x])) fun σ2 H2=>tb {D with nx:=Pv (i+1),ct:=Pv (i+1),bk:=D.nx} σ2 H2) (hd:∀σ H,Pv xs.length σ H->D.nx σ H):
   ∃W:Nat->Nat->St->Hp->Prop,(∃m,W 0 m σ H)/\∀i m σ H,W i m σ H->
    ((Ite K a).stop i H/\D.nx σ H)\/((Ite K a).go i H/\∃N:St->Hp->Prop,(∀σ' H',N σ' H'->∃m',m' < m/\W (i+1) m' σ' H')/\∀x H',(Ite K a).yld i H x H'->g x σ H' fun σ2 H2=>tb {D with nx:=N,ct:=N,bk:=D.nx} σ2 H2):=by
 refine ⟨fun i m σ H=>m=xs.length - i/\i<=xs.length/\Pv i σ H,⟨xs.length,by simp,du2 _,h0⟩,?_⟩;rintro i m σ H ⟨rfl,hi,p⟩;have q:=hl i σ H hi p
 by_cases hlt:i < xs.length
 · refine .inr ⟨⟨xs,xs[i],q,by simp [hlt]⟩,Pv (i+1),fun σ' H' p'=>⟨xs.length - (i+1),by omega,rfl,hlt,p'⟩,fun x H' y=> ?_⟩;obtain ⟨x',t,y1,y2,e1,e2⟩:=y;subst e1 e2;exact hs i x' σ _ t (y1 xs q) p y2
 · have e:i=xs.length:=by omega
   subst e;exact .inl ⟨⟨xs,q,dr9 _⟩,hd σ H p⟩
end L2
namespace Mth
def nx (p:List Int)(x:Int):Int:=p.getD x.toNat 0
def it (p:List Int):Nat->Int->Int
 |0,x=>x
 |i+1,x=>nx p (it p i x)
def In (p:List Int)(x:Int):Prop:=0<=x/\x < p.length
theorem T4 {p:List Int}(t:j7 p){x:Int}(h:In p x):In p (nx p x):=af0 t (j:=x.toNat) (by have:=h.1;have:=h.2;omega)
theorem U2 {p:List Int}(t:j7 p){x y:Int}(hx:In p x)(hy:In p y)(h:nx p x=nx p y):x=y:=by
 have a1:=hx.1;have a2:=hx.2;have b1:=hy.1;have b2:=hy.2
 by_cases e:x.toNat=y.toNat
 · omega
 · exact absurd h (J8 t.nd (i:=x.toNat) (j:=y.toNat) (by omega) (by omega) e)
theorem G1 {p:List Int}(t:j7 p){x:Int}(h:In p x):∀i,In p (it p i x)
 |0=>h
 |i+1=>T4 t (G1 t h i)
theorem E1 (p:List Int)(x:Int):∀i j,it p (i+j) x=it p i (it p j x)
 |0,j=>by rw[ef2];rfl
 |i+1,j=>by
  rw[Nat.add_right_comm];show nx p (it p (i+j) x)=nx p (it p i (it p j x));rw[E1 p x i j]
theorem cz7 (p:List Int)(x:Int)(i:Nat):it p (i+1) x=it p i (nx p x):=by
 rw[E1 p x i 1];rfl
theorem bc6 {p:List Int}(t:j7 p){x y:Int}(hx:In p x)(hy:In p y):∀i,it p i x=it p i y->x=y
 |0,h=>h
 |i+1,h=>bc6 t hx hy i (U2 t (G1 t hx i) (G1 t hy i) h)
structure D5 (p:List Int)(x:Int)(L:Nat):Prop where
 pos:0 < L
 back:it p L x=x
 least:∀i,0 < i->i < L->it p i x≠x
theorem D5.uniq {p:List Int}{x:Int}{L M:Nat}(h:D5 p x L)(g:D5 p x M):L=M:=by
 rcases Nat.lt_trichotomy L M with z|z|z
 · exact absurd h.back (g.least L h.pos z)
 · exact z
 · exact absurd g.back (h.least M g.pos z)
theorem aq6 {p:List Int}{x:Int}{L:Nat}(h:it p L x=x):∀q,it p (L*q) x=x
 |0=>by rw[eh6];rfl
 |q+1=>by rw[el9,E1,h,aq6 h q]
theorem W9 {p:List Int}{x:Int}{L:Nat}(h:it p L x=x)(i:Nat):it p (i%L) x=it p i x:=by
 conv=>rhs;rw[<-ej3 i L,ea9,E1,aq6 h]
theorem ca6 {p:List Int}{x:Int}{L:Nat}(h:it p L x=x){a b:Nat}(e:a%L=b%L):it p a x=it p b x:=by
 rw[<-W9 h a,e,W9 h]
theorem D5.shift {p:List Int}(t:j7 p){x:Int}{L:Nat}(hx:In p x)(h:D5 p x L)(j:Nat):D5 p (it p j x) L:=by
 refine ⟨h.pos,?_,fun i i0 i1 e=> ?_⟩
 · rw[<-E1,ea9,E1,h.back]
 · rw[<-E1,ea9,E1] at e;exact h.least i i0 i1 (bc6 t (G1 t hx i) hx j e)
def o5 (p:List Int)(x:Int)(L:Nat):List Int:=(du8 L).map fun i=>it p i x
theorem n6 (p:List Int)(x:Int)(L:Nat):(o5 p x L).length=L:=by unfold o5;rw[dr6,du6]
theorem W1 {p:List Int}{x:Int}{L j:Nat}(h:j < L):(o5 p x L)[j]? =some (it p j x):=by
 unfold o5;rw[ds0,dv4 h];rfl
theorem D3 {p:List Int}{x:Int}{L j:Nat}(h:j < L):(o5 p x L).getD j 0=it p j x:=by
 rw[ds2,W1 h];rfl
theorem A5 {p:List Int}{x y:Int}{L:Nat}:y∈o5 p x L↔∃j,j < L/\y=it p j x:=by
 unfold o5;rw[ds9];constructor
 · rintro ⟨j,hj,rfl⟩;exact ⟨j,dv6.mp hj,rfl⟩
 · rintro ⟨j,hj,rfl⟩;exact ⟨j,dv6.mpr hj,rfl⟩
theorem ce8 (p:List Int)(x:Int)(m:Nat):o5 p x (m+1)=o5 p x m++[it p m x]:=by
 unfold o5;rw[eb9,ds5];rfl
theorem U3 {p:List Int}(t:j7 p){x:Int}(hx:In p x){m:Nat}(h:∀i,0 < i->i < m->it p i x≠x):(o5 p x m).Nodup:=by
 unfold o5;rw[dt0,ea8];refine List.Pairwise.imp_of_mem (fun {a b} ha hb hlt e=> ?_) ei2;have hb:=dv6.mp hb
 have e2:b=a+(b - a):=by omega
 rw[e2,E1] at e;exact h (b - a) (by omega) (by omega) (bc6 t (G1 t hx _) hx a e.symm)
theorem cl7:∀(n:Nat) (l:List Nat),l.Nodup->(∀x∈l,x < n)->l.length<=n:=by
 intro n
 induction n with
 |zero=>
  intro l _ hb
  cases l with
  |nil=>exact dr9 _
  |cons a r=>exact absurd (hb a ds1) (Nat.not_lt_zero _)
 |succ n ih=>
  intro l nd hb
  by_cases hn:n∈l
  · obtain ⟨s,u,rfl⟩:=ek1 hn;have pm:(s++n::u).Perm (n::(s++u)):=List.perm_middle;obtain ⟨h1,h2⟩:=dw2.mp (pm.nodup_iff.mp nd)
    have:=ih (s++u) h2 fun x hx=>by
      have hx':=hb x (pm.mem_iff.mpr (ds3 _ hx))
      have:x≠n:=fun e=>h1 (e▸hx)
      omega
    rw[pm.length_eq,dt9];omega
  · exact Nat.le_succ_of_le (ih l nd fun x hx=>by
      have h1:=hb x hx
      have:x≠n:=fun e=>hn (e▸hx)
      omega)
theorem M2 {p:List Int}{r:List Int}(nd:r.Nodup)(h:∀x∈r,In p x):r.length<=p.length:=by
 have:=cl7 p.length (r.map Int.toNat) (by
   rw[dt0,ea8];refine List.Pairwise.imp_of_mem (fun {a b} ha hb hne z=>hne ?_) (dt0.mp nd);have h1:=(h a ha).1;have h2:=(h b hb).1
   omega) fun x hx=>by
     obtain ⟨y,hy,rfl⟩:=ds9.mp hx;have h1:=(h y hy).1;have h2:=(h y hy).2;omega
 rw[dr6] at this;exact this
theorem O9 {p:List Int}(t:j7 p){x:Int}(hx:In p x){L:Nat}:∀y∈o5 p x L,In p y:=fun y hy=>by
 obtain ⟨j,_,rfl⟩:=A5.mp hy;exact G1 t hx j
theorem L8 {p:List Int}(t:j7 p){x:Int}(hx:In p x){m:Nat}(h:∀i,0 < i->i < m->it p i x≠x):m<=p.length:=by
 have:=M2 (U3 t hx h) (O9 t hx);rw[n6] at this;exact this
theorem by3 {p:List Int}{x y:Int}{L:Nat}(h:D5 p x L)(hy:y∈o5 p x L)(i:Nat):it p i y∈o5 p x L:=by
 obtain ⟨j,hj,rfl⟩:=A5.mp hy;refine A5.mpr ⟨(i+j)%L,ea2 _ h.pos,?_⟩;rw[W9 h.back,E1]
theorem cl8 {p:List Int}{x y z:Int}{L M:Nat}(h:D5 p x L)(g:D5 p y M)(h1:z∈o5 p x L)(h2:z∈o5 p y M):y∈o5 p x L:=by
 obtain ⟨j,hj,rfl⟩:=A5.mp h2;have:=by3 h h1 (M - j);rw[<-E1,show M - j+j=M by omega,g.back] at this;exact this
open Classical in
noncomputable def J9 (p:List Int)(x:Int):Nat:=if h:∃L,D5 p x L then Classical.choose h else 0
theorem V2 {p:List Int}{x:Int}{L:Nat}(h:D5 p x L):J9 p x=L:=by
 have hx:∃L,D5 p x L:=⟨L,h⟩;unfold J9;rw[dif_pos hx];exact (Classical.choose_spec hx).uniq h
noncomputable def i4 (p:List Int):Nat->List (List Int)
 |0=>[]
 |i+1=>if (i:Int)∈(i4 p i).flatten then i4 p i else i4 p i++[o5 p i (J9 p i)]
structure y8 (p:List Int)(i:Nat)(rs:List (List Int)):Prop where
 ring:∀r∈rs,∃x L,In p x/\D5 p x L/\r=o5 p x L/\(∀y∈r,x<=y)/\x < i
 nd:rs.flatten.Nodup
 all:∀u:Int,0<=u->u < i->u∈rs.flatten
 ord:rs.Pairwise fun r s=>r.getD 0 0 < s.getD 0 0
 eq:rs=i4 p i
theorem bc7 (p:List Int):y8 p 0 []:=⟨fun r hr=>by simp at hr,dx7,fun u h1 h2=>by omega,List.Pairwise.nil,rfl⟩
theorem bc8 {p:List Int}{i:Nat}{rs:List (List Int)}(h:y8 p i rs)(hi:(i:Int)∈rs.flatten):y8 p (i+1) rs:=by
 refine ⟨fun r hr=> ?_,h.nd,fun u h1 h2=> ?_,h.ord,?_⟩
 · obtain ⟨x,L,a,b,c,d,e⟩:=h.ring r hr;exact ⟨x,L,a,b,c,d,by omega⟩
 · by_cases e:u=i
   · subst e;exact hi
   · exact h.all u h1 (by omega)
 · show rs=if (i:Int)∈(i4 p i).flatten then i4 p i else i4 p i++[o5 p i (J9 p i)]
   rw[<-h.eq,if_pos hi]
theorem ax9 {p:List Int}{i:Nat}{rs:List (List Int)}(h:y8 p i rs){L:Nat}(hL:D5 p i L)(hi:(i:Int)∉rs.flatten):∀y∈o5 p i L,y∉rs.flatten:=by
 intro y hy hm;obtain ⟨r,hr,hyr⟩:=dt2.mp hm;obtain ⟨x,M,a,b,rfl,d,e⟩:=h.ring r hr;exact hi (dt2.mpr ⟨_,hr,cl8 b hL hyr hy⟩)
theorem bc9 {p:List Int}(t:j7 p){i:Nat}{rs:List (List Int)}(h:y8 p i rs)(hx:In p i){L:Nat}(hL:D5 p i L)(hi:(i:Int)∉rs.flatten):y8 p (i+1) (rs++[o5 p i L]):=by
 have fr:=ax9 h hL hi;refine ⟨fun r hr=> ?_,?_,fun u h1 h2=> ?_,?_,?_⟩
 · rcases dt1.mp hr with z|z
   · obtain ⟨x,L,a,b,c,d,e⟩:=h.ring r z;exact ⟨x,L,a,b,c,d,by omega⟩
   · have:r=o5 p i L:=by simpa using z
     subst this;refine ⟨i,L,hx,hL,rfl,fun y hy=> ?_,by omega⟩;have y0:=(O9 t hx y hy).1
     by_cases hlt:y < i
     · exact absurd (h.all y y0 hlt) (fr y hy)
     · omega
 · rw[dz7,eb4];refine dw4.mpr ⟨h.nd,U3 t hx fun j j0 j1=>hL.least j j0 j1,fun a ha b hb e=> ?_⟩;subst e;exact fr a hb ha
 · rw[dz7,eb4]
   by_cases e:u=i
   · subst e;exact du5 _ (A5.mpr ⟨0,hL.pos,rfl⟩)
   · exact dx3 _ (h.all u h1 (by omega))
 · refine List.pairwise_append.mpr ⟨h.ord,ef3 _ _,fun r hr s hs=> ?_⟩
   have:s=o5 p i L:=by simpa using hs
   subst this;obtain ⟨x,M,a,b,rfl,d,e⟩:=h.ring r hr;rw[D3 b.pos,D3 hL.pos];exact e
 · show rs++[o5 p i L]=if (i:Int)∈(i4 p i).flatten then i4 p i else i4 p i++[o5 p i (J9 p i)]
   rw[<-h.eq,if_neg hi,V2 hL]
def y6 (p:List Int)(k:Int)(t:List Int):Prop:=t.length=p.length/\∀x,In p x->∃L,D5 p x L/\x4 t x=some (it p (k%(L:Int)).toNat x)
theorem ce9 {p:List Int}{x:Int}{L:Nat}(h:D5 p x L)(k:Int)(j:Nat):it p (((j:Int)+k)%(L:Int)).toNat x=it p (k%(L:Int)).toNat (it p j x):=by
 rw[<-E1];refine ca6 h.back ?_
 have hL:(0:Int) < (L:Int):=by have:=h.pos;omega
 have a1:=eb6 ((j:Int)+k) (show (L:Int)≠0 by omega);have b1:=eb6 k (show (L:Int)≠0 by omega)
 have:(((((j:Int)+k)%(L:Int)).toNat%L:Nat):Int)=((((k%(L:Int)).toNat+j)%L:Nat):Int):=by
   rw[ec2,ec2,ee6 a1,ej4,ee6 b1,Int.emod_emod,Int.emod_add_emod,Int.add_comm]
 exact Int.ofNat.inj this
end Mth
namespace Mth
theorem G2 {p:List Int}{x:Int}(h:In p x):x4 p x=some (nx p x):=by
 have a1:=h.1;have a2:=h.2;unfold x4 nx;rw[ds2,dr8 (by omega)];rfl
theorem cz8 {p s:List Int}(t:j7 p)(h:y6 p (-1) s){x:Int}(hx:In p x):∃y,x4 s x=some y/\In p y/\nx p y=x:=by
 obtain ⟨L,hL,e⟩:=h.2 x hx;have hpos:=hL.pos
 have e1:((-1:Int)%(L:Int)).toNat=L - 1:=by
   have h1:(-1:Int)%(L:Int)=(L:Int) - 1:=by
     have:=Int.add_emod_right (-1:Int) (L:Int);rw[<-this,Int.emod_eq_of_lt (by omega) (by omega)];omega
   rw[h1];omega
 rw[e1] at e;refine ⟨_,e,G1 t hx _,?_⟩;show it p (L - 1+1) x=x;rw[show L - 1+1=L by omega,hL.back]
end Mth
namespace L2
open PySem PySem.Spec PyProof.Rows
def dl5 (i j:Int):Prop:=0 < j/\j<=1000000000000000000000000000000
theorem cs4 {X:Cx}:O6 X (binaryOp .FloorDiv) (rI dl5 fun i j=> .int (i/j)):=opI fun i j _ _ _ _ _ hc q=>by
 have hp:Builtin.divisionGoesByPylong i j=false:=by
   refine PyProof.noPylong_of_log2 ?_;obtain ⟨h1,h2⟩:=hc;have:j.natAbs < 2^9000:=dw0 (show j.natAbs<=1000000000000000000000000000000 by omega) (by decide+kernel);exact (Nat.log2_lt (by omega)).mpr this
 refine floordiv_int (by have:=hc.1;omega) ?_ (.inl hp);rw[ek3 i (by have:=hc.1;omega)];exact q
end L2
namespace Mth
theorem y6.uniq {p:List Int}{k:Int}{s t:List Int}(h:y6 p k s)(g:y6 p k t):s=t:=by
 refine dv3 fun u=> ?_
 by_cases hu:u < p.length
 · have hx:In p (u:Int):=⟨by omega,by omega⟩;obtain ⟨L,h1,h2⟩:=h.2 u hx;obtain ⟨M,g1,g2⟩:=g.2 u hx;have e:=h1.uniq g1;subst e;unfold x4 at h2 g2;rw[dw1] at h2 g2;rw[h2,g2]
 · rw[ds7 (by rw[h.1];omega),ds7 (by rw[g.1];omega)]
end Mth
namespace Mth
theorem aq7 {p:List Int}(t:j7 p){x:Int}(hx:In p x):∃L,D5 p x L:=by
 have h0:∃i,0 < i/\i<=p.length/\it p i x=x:=Classical.byContradiction fun hn=>by
   have:=L8 t hx (m:=p.length+1) fun i i0 i1 e=>hn ⟨i,i0,by omega,e⟩
   omega
 have key:∀n,(∃i,0 < i/\i<=n/\it p i x=x)->∃L,D5 p x L:=by
   intro n
   induction n with
   |zero=>rintro ⟨i,i0,i1,_⟩;omega
   |succ n ih=>
    rintro ⟨i,i0,i1,e⟩
    by_cases h:∃j,0 < j/\j<=n/\it p j x=x
    · exact ih h
    · refine ⟨i,i0,e,fun j j0 j1 ej=>h ⟨j,j0,by omega,ej⟩⟩
 exact key _ h0
theorem ca7 {p:List Int}{x:Int}{L:Nat}(h:D5 p x L){i:Nat}(e:it p i x=x):L∣i:=by
 rw[<-W9 h.back] at e;refine Nat.dvd_of_mod_eq_zero (Classical.byContradiction fun hn=> ?_);exact h.least (i%L) (by omega) (ea2 _ h.pos) e
theorem br6 {p:List Int}{x:Int}{L:Nat}(h:D5 p x L){a b:Nat}(e:((a:Int) - (b:Int))%(L:Int)=0):it p a x=it p b x:=by
 refine ca6 h.back ?_
 have:((a%L:Nat):Int)=((b%L:Nat):Int):=by
   rw[ec2,ec2]
   exact Int.emod_emod_of_dvd _ (Int.dvd_refl _)|>.symm.trans (by
     rw[Int.emod_emod]
     exact (Int.emod_eq_emod_iff_emod_sub_eq_zero).mpr e)
 exact Int.ofNat.inj this
theorem aq8 {n:Nat}{s t:List Int}(hs:s.length=n)(ht:t.length=n)(h:∀x:Int,0<=x->x < n->nx s x=nx t x):s=t:=by
 refine dv3 fun u=> ?_
 by_cases hu:u < n
 · have:=h u (by omega) (by omega);unfold nx at this;rw[dw1,x8 (by omega),x8 (by omega)] at this;rw[dr8 (by omega),dr8 (by omega),this]
 · rw[ds7 (by omega),ds7 (by omega)]
theorem aq9 {t:List Int}(h1:∀x:Int,0<=x->x < t.length->0<=nx t x/\nx t x < t.length)(h2:∀x y:Int,0<=x->x < t.length->0<=y->y < t.length->nx t x=nx t y->x=y):j7 t:=by
 have g:∀i (hi:i < t.length),nx t (i:Int)=t[i]:=fun i hi=>by unfold nx;rw[dw1,x8 hi]
 refine ⟨?_,fun x hx=> ?_,fun x hx=> ?_⟩
 · rw[dt0,du7];intro i j hi hj hlt e;have:=h2 i j (by omega) (by omega) (by omega) (by omega) (by rw[g i hi,g j hj];exact e);omega
 · obtain ⟨i,hi,rfl⟩:=List.mem_iff_getElem.mp hx;rw[<-g i hi];exact (h1 i (by omega) (by omega)).1
 · obtain ⟨i,hi,rfl⟩:=List.mem_iff_getElem.mp hx;rw[<-g i hi];exact (h1 i (by omega) (by omega)).2
theorem J4 {p q:List Int}{x:Int}(h:In q x):nx (j8 p q) x=nx p (nx q x):=by
 have a1:=h.1;have a2:=h.2;unfold nx j8;rw[ds2,ds0,dr8 (by omega),ds2 (l:=q),dr8 (by omega)];rfl
theorem am0 {p q:List Int}(tp:j7 p)(tq:j7 q)(hl:p.length=q.length):j7 (j8 p q):=by
 have cl:=A2 p q;refine aq9 (fun x x0 x1=> ?_) (fun x y x0 x1 y0 y1 e=> ?_)
 · rw[cl] at x1 ⊢;have hx:In q x:=⟨x0,x1⟩;rw[J4 hx];have h1:=T4 tq hx;have h2:=T4 tp (x:=nx q x) ⟨h1.1,by rw[hl];exact h1.2⟩;exact ⟨h2.1,by rw[<-hl];exact h2.2⟩
 · rw[cl] at x1 y1;have hx:In q x:=⟨x0,x1⟩;have hy:In q y:=⟨y0,y1⟩;rw[J4 hx,J4 hy] at e;have h1:=T4 tq hx;have h2:=T4 tq hy;exact U2 tq hx hy (U2 tp ⟨h1.1,by rw[hl];exact h1.2⟩ ⟨h2.1,by rw[hl];exact h2.2⟩ e)
theorem M7 {p q r:List Int}(tq:j7 q)(tr:j7 r)(hl:q.length=r.length):j8 (j8 p q) r=j8 p (j8 q r):=by
 refine aq8 (n:=r.length) (A2 _ _) (by rw[A2,A2]) fun x x0 x1=> ?_
 have hx:In r x:=⟨x0,x1⟩;have h1:=T4 tr hx;rw[J4 hx,J4 ⟨h1.1,by rw[hl];exact h1.2⟩,J4 (q:=j8 q r) ⟨x0,by rw[A2];exact x1⟩,J4 hx]
theorem af1 {p t:List Int}{k:Int}(h:y6 p k t){x:Int}(hx:In p x):∃L,D5 p x L/\∀m:Nat,((m:Int) - k)%(L:Int)=0->nx t x=it p m x:=by
 obtain ⟨L,hL,e⟩:=h.2 x hx;refine ⟨L,hL,fun m hm=> ?_⟩
 have e1:nx t x=it p (k%(L:Int)).toNat x:=by
   have hx':In t x:=⟨hx.1,by rw[h.1];exact hx.2⟩;rw[G2 hx'] at e;exact Option.some.inj e
 rw[e1];refine br6 hL ?_;have b0:=eb6 k (show (L:Int)≠0 by have:=hL.pos;omega);rw[ee6 b0]
 have:k%(L:Int) - (m:Int)= -(((m:Int) - k)+(k - k%(L:Int))):=by omega
 rw[this];have d1:(L:Int)∣((m:Int) - k):=ef4 hm;have d2:(L:Int)∣(k - k%(L:Int)):=ei5;exact ef5 (Int.dvd_neg.mpr (Int.dvd_add d1 d2))
theorem ar0 {p t:List Int}{k:Int}(tp:j7 p)(hl:t.length=p.length)(h:∀x,In p x->∀L,D5 p x L->∃m:Nat,((m:Int) - k)%(L:Int)=0/\nx t x=it p m x):y6 p k t:=by
 refine ⟨hl,fun x hx=> ?_⟩;obtain ⟨L,hL⟩:=aq7 tp hx;obtain ⟨m,hm,e⟩:=h x hx L hL;refine ⟨L,hL,?_⟩;rw[G2 (p:=t) ⟨hx.1,by rw[hl];exact hx.2⟩,e]
 congr 1
 refine br6 hL ?_;have b0:=eb6 k (show (L:Int)≠0 by have:=hL.pos;omega);rw[ee6 b0]
 have:(m:Int) - k%(L:Int)=((m:Int) - k)+(k - k%(L:Int)):=by omega
 rw[this];exact ef5 (Int.dvd_add (ef4 hm) ei5)
theorem Z2 (k:Int)(L:Nat)(h:0 < L):(((k%(L:Int)).toNat:Int) - k)%(L:Int)=0:=by
 have b0:=eb6 k (show (L:Int)≠0 by omega);rw[ee6 b0]
 have:k%(L:Int) - k= -(k - k%(L:Int)):=by omega
 rw[this];exact ef5 (Int.dvd_neg.mpr ei5)
theorem bg5 {p t:List Int}{k:Int}(tp:j7 p)(h:y6 p k t):j7 t:=by
 have tx:∀x,In p x->∃L,D5 p x L/\nx t x=it p (k%(L:Int)).toNat x:=fun x hx=>by
   obtain ⟨L,hL,e⟩:=af1 h hx;exact ⟨L,hL,e _ (Z2 k L hL.pos)⟩
 refine aq9 (fun x x0 x1=> ?_) (fun x y x0 x1 y0 y1 e=> ?_)
 · rw[h.1] at x1 ⊢;obtain ⟨L,hL,e⟩:=tx x ⟨x0,x1⟩;rw[e];exact G1 tp ⟨x0,x1⟩ _
 · rw[h.1] at x1 y1;obtain ⟨L,hL,e1⟩:=tx x ⟨x0,x1⟩;obtain ⟨M,hM,e2⟩:=tx y ⟨y0,y1⟩;rw[e1,e2] at e;have pL:=hL.shift tp ⟨x0,x1⟩ (k%(L:Int)).toNat;have pM:=hM.shift tp ⟨y0,y1⟩ (k%(M:Int)).toNat;rw[e] at pL;have:=pL.uniq pM;subst this;exact bc6 tp ⟨x0,x1⟩ ⟨y0,y1⟩ _ e
theorem cs5 {p s t:List Int}{a b:Int}(tp:j7 p)(hs:y6 p a s)(ht:y6 p b t):y6 p (a+b) (j8 s t):=by
 refine ar0 tp (by rw[A2,ht.1]) fun x hx L hL=> ?_
 have hpos:=hL.pos;obtain ⟨L1,p1,e1⟩:=af1 ht hx;have:=p1.uniq hL;subst this;have e1:=e1 _ (Z2 b L1 hpos);have hy:=G1 tp hx (b%(L1:Int)).toNat;obtain ⟨L2,p2,e2⟩:=af1 hs hy;have:=p2.uniq (hL.shift tp hx _);subst this;have e2:=e2 _ (Z2 a L2 hpos);refine ⟨(a%(L2:Int)).toNat+(b%(L2:Int)).toNat,?_,?_⟩
 · have h1:=ef4 (Z2 a L2 hpos);have h2:=ef4 (Z2 b L2 hpos);refine ef5 ?_
   have:(((a%(L2:Int)).toNat+(b%(L2:Int)).toNat:Nat):Int) - (a+b)=(((a%(L2:Int)).toNat:Int) - a)+(((b%(L2:Int)).toNat:Int) - b):=by omega
   rw[this];exact Int.dvd_add h1 h2
 · rw[J4 ⟨hx.1,by rw[ht.1];exact hx.2⟩,e1,e2,E1]
theorem cz9 {p:List Int}(tp:j7 p):y6 p 1 p:=ar0 tp rfl fun x hx L hL=>⟨1,by simp,rfl⟩
theorem bg6 {n:Nat}{x:Int}(h0:0<=x)(h1:x < n):nx (L2.K4 0 n) x=x:=by
 unfold nx L2.K4;rw[ds2,ds0,dv4 (by omega)];show (0:Int)+((x.toNat:Nat):Int)=x;omega
theorem cs6 {p:List Int}(tp:j7 p):y6 p 0 (L2.K4 0 p.length):=ar0 tp (E8 0 _) fun x hx L hL=>⟨0,by simp,by rw[bg6 hx.1 hx.2];rfl⟩
theorem az0 {p s:List Int}(t:j7 p)(h:y6 p (-1) s){x:Int}(hx:In p x):In p (nx s x)/\nx p (nx s x)=x:=by
 obtain ⟨y,e,hy,en⟩:=cz8 t h hx;rw[G2 (p:=s) ⟨hx.1,by rw[h.1];exact hx.2⟩] at e;have:nx s x=y:=Option.some.inj e;rw[this];exact ⟨hy,en⟩
end Mth
namespace L2
open PySem PySem.Spec PyProof.Rows
def Itz (a b:Addr):It:=
 ⟨fun i H=>∃xs ys x y,H a=some (.lst xs)/\H b=some (.lst ys)/\xs[i]? =some x/\ys[i]? =some y,
  fun i H v H'=>∃x y t,(∀xs,H a=some (.lst xs)->xs[i]? =some x)/\(∀ys,H b=some (.lst ys)->ys[i]? =some y)/\H t=none/\v= .ref t/\H'=c8 H t (.tup [x,y]),
  fun i H=>∃xs ys,H a=some (.lst xs)/\H b=some (.lst ys)/\(xs.length<=i\/ys.length<=i)⟩
structure dg9 (z TI TO i1 i2:Addr):Prop where
 TIz:TI≠z
 TOz:TO≠z
 i1z:i1≠z
 i2z:i2≠z
 TITO:TI≠TO
 TIi1:TI≠i1
 TIi2:TI≠i2
 TOi1:TO≠i1
 TOi2:TO≠i2
 i12:i1≠i2
theorem cs7 {P:Program}{w:World}{K:PySem.W.Frag}{elts:List Expr}{x1}{pos:Pos}(a b z TI TO i1 i2:Addr)(D0:dg9 z TI TO i1 i2):
   bg1 P w K (.Tuple elts x1 pos) (Itz a b) [z,TI,TO,i1,i2] z (fun i h=>IsZip h z TI TO .none/\IsPair h TI (.ref i1) (.ref i2)/\(∃u v,IsPair h TO u v)/\h.IsListIter i1 a i/\h.IsListIter i2 b i) where
 mem:=by simp
 obj:=fun i h st c hc=>by
   obtain ⟨hz,hTI,⟨u,v,hTO⟩,⟨o1,g1,c1,d1⟩,⟨o2,g2,c2,d2⟩⟩:=st
   have hc:c=z\/c=TI\/c=TO\/c=i1\/c=i2:=by simpa using hc
   rcases hc with rfl|rfl|rfl|rfl|rfl
   · exact ⟨_,hz,fun v z=>by cases z⟩
   · exact ⟨_,hTI,fun v z=>by cases z⟩
   · exact ⟨_,hTO,fun v z=>by cases z⟩
   · exact ⟨o1,g1,fun v z=>by rw[d1] at z;cases z⟩
   · exact ⟨o2,g2,fun v z=>by rw[d2] at z;cases z⟩
 keep:=fun i h h' st k=>by
   obtain ⟨hz,hTI,⟨u,v,hTO⟩,g1,g2⟩:=st;exact ⟨k z (by simp) _ hz,k TI (by simp) _ hTI,⟨u,v,k TO (by simp) _ hTO⟩,g1.at fun o q=>k i1 (by simp) o q,g2.at fun o q=>k i2 (by simp) o q⟩
 item:=by
   intro X hP hw hK hc i pins s σ H E I hf st hg;subst hP hw hK;obtain ⟨hz,hTI,⟨u0,v0,hTO⟩,g1,g2⟩:=st;obtain ⟨xs,ys,x,y,ha,hb,hx,hy⟩:=hg;obtain ⟨_,its,n1,rv,l1,e1⟩:=I.lstM ha;obtain ⟨_,its2,n2,rv2,l2,e2⟩:=I.lstM hb;obtain ⟨ux,hux,rux⟩:=rv.get hx;obtain ⟨uy,huy,ruy⟩:=rv2.get hy
   have nf:∀c u',H c=some u'->c≠z/\c≠TI/\c≠TO/\c≠i1/\c≠i2:=fun c u' q=>by
     have f:∀d∈[z,TI,TO,i1,i2],c≠d:=fun d hd w=>by
       have:=(hf d hd).1;rw[<-w,q] at this;cases this
     exact ⟨f z (by simp),f TI (by simp),f TO (by simp),f i1 (by simp),f i2 (by simp)⟩
   have na:=nf a _ ha;have nb:=nf b _ hb;have D:ZipApart z TI TO i1 i2 a b:=⟨D0.TIz,D0.TOz,D0.i1z,D0.i2z,D0.TITO,D0.TIi1,D0.TIi2,D0.TOi1,D0.TOi2,D0.i12,na.1,na.2.2.1,na.2.2.2.1,na.2.2.2.2,nb.1,nb.2.2.1,nb.2.2.2.1,nb.2.2.2.2⟩
   refine wpAny_pyNext_zip_item (xs:=its.toArray) (ys:=its2.toArray) (x:=ux) (y:=uy) D hz hTI hTO g1 g2 ⟨_,e1,rfl,n1,rfl⟩ ⟨_,e2,rfl,n2,rfl⟩ (by simpa using hux) (by simpa using huy) fun h' hz' hTO' g1' g2' hT' hsz' kk'=> ?_
   refine ⟨_,rfl,wpAny_letOwnedTupleGo_zip hz' fun h2 hz2 hs2=> ?_⟩;have hs2:Heap.SameBut z h' h2:=hs2;have ltz:z < s.heap.objs.size:=Heap.lt_size hz;have lTI:TI < s.heap.objs.size:=Heap.lt_size hTI;have lTO:TO < s.heap.objs.size:=Heap.lt_size hTO
   have li1:i1 < s.heap.objs.size:=by obtain ⟨o,ho,_⟩:=g1;exact Heap.lt_size ho
   have li2:i2 < s.heap.objs.size:=by obtain ⟨o,ho,_⟩:=g2;exact Heap.lt_size ho
   have ht2:h2.get? s.heap.objs.size=some {cls:= .type "tuple",data:= .seq #[ux,uy]}:=hs2.extBut _ _ (Nat.ne_of_gt ltz) hT'
   have kk:∀c o,c≠z->c≠TO->c≠i1->c≠i2->s.heap.get? c=some o->h2.get? c=some o:=fun c o b1 b2 b3 b4 q=>hs2.extBut c o b1 (kk' c o b1 b2 b3 b4 q)
   have hn:H s.heap.objs.size=none:=I.hok.fresh (dr9 _)
   have nT:∀c u',H c=some u'->c≠s.heap.objs.size:=fun c u' q=>g8 q hn
   have kc:∀c o,c∉[z,TI,TO,i1,i2]->s.heap.get? c=some o->h2.get? c=some o:=fun c o hc q=>kk c o (fun w=>hc (by simp [w])) (fun w=>hc (by simp [w])) (fun w=>hc (by simp [w])) (fun w=>hc (by simp [w])) q
   have I1:h7 X pins σ (c8 H s.heap.objs.size (.tup [x,y])) {s with heap:=h2,gens:=s.gens,drawn:=s.drawn,toks:=s.toks}:=by
     refine I.step (ch:=[z,TI,TO,i1,i2]) (fun c hc=> ?_) (fun c o _ _ hc q _=>kc c o hc q) (fun c o _ _ hc q _=>⟨o.slots,kc c o hc q⟩)
       (fun c o hc q n=>by rw[g7 (dw7 (Heap.lt_size q))];exact n) (fun c o hc q=>⟨o,kc c o hc q⟩)
       (fun c zs q=>by rw[g7 (nT c _ q)];exact q) (fun c o zs q=>by rw[g7 (nT c _ q)];exact q) (fun c ps q=>⟨#[],by rw[g7 (nT c _ q),q];simp⟩) (fun m hm=> ?_) (fun c u' q=> ?_) I.bare
     · have f:=hf c hc;exact ⟨f.2.2.2.1,f.2.1,f.2.2.2.2.1,f.2.2.2.2.2⟩
     · obtain ⟨o,es,ep,ho,r⟩:=hm;exact ⟨o,es,ep,kk _ o (Ne.symm (hf z (by simp)).2.1) (Ne.symm (hf TO (by simp)).2.1) (Ne.symm (hf i1 (by simp)).2.1) (Ne.symm (hf i2 (by simp)).2.1) ho,r⟩
     · by_cases hcT:c=s.heap.objs.size
       · subst hcT;rw[c7] at q;cases q;exact ⟨by show 2<=sizeLine;decide,[ux,uy],.cons rux (.cons ruy .nil),⟨_,ht2,rfl,0,rfl⟩⟩
       · rw[g7 hcT] at q
         refine (I.hok c u' q).stay (fun d v hd q'=> ?_) (fun d q'=>by rw[g7 (nT d _ q')];exact q') fun d zs q'=>by rw[g7 (nT d _ q')];exact q'
         rcases hd with w|w
         · rw[w] at q' ⊢;have:=nf c _ q;exact kk c v this.1 this.2.2.1 this.2.2.2.1 this.2.2.2.2 q'
         · have:=nf d _ w;exact kk d v this.1 this.2.2.1 this.2.2.2.1 this.2.2.2.2 q'
   refine ⟨.ref s.heap.objs.size,_,I1,rfl,⟨x,y,s.heap.objs.size,fun zs hzs=> ?_,fun zs hzs=> ?_,hn,rfl,rfl⟩,⟨hz2,?_,⟨ux,uy,?_⟩,?_,?_⟩,fun c hc=> ?_⟩
   · rw[ha] at hzs;cases hzs;exact hx
   · rw[hb] at hzs;cases hzs;exact hy
   · exact kk TI _ D0.TIz D0.TITO D0.TIi1 D0.TIi2 hTI
   · exact hs2.extBut _ _ D0.TOz hTO'
   · exact g1'.extBut hs2.extBut D0.i1z
   · exact g2'.extBut hs2.extBut D0.i2z
   · have hne:c≠s.heap.objs.size:=by
       have hc:c=z\/c=TI\/c=TO\/c=i1\/c=i2:=by simpa using hc
       rcases hc with rfl|rfl|rfl|rfl|rfl
       · exact dw7 ltz
       · exact dw7 lTI
       · exact dw7 lTO
       · exact dw7 li1
       · exact dw7 li2
     rw[g7 hne];exact (hf c hc).1
 done:=by
   intro X hP hw hK hc i pins s σ H E I hf st hg;subst hP hw hK;obtain ⟨hz,hTI,⟨u0,v0,hTO⟩,g1,g2⟩:=st;obtain ⟨xs,ys,ha,hb,hend⟩:=hg;obtain ⟨_,its,n1,rv,l1,e1⟩:=I.lstM ha;obtain ⟨_,its2,n2,rv2,l2,e2⟩:=I.lstM hb
   have nf:∀c u',H c=some u'->c≠z/\c≠TI/\c≠TO/\c≠i1/\c≠i2:=fun c u' q=>by
     have f:∀d∈[z,TI,TO,i1,i2],c≠d:=fun d hd w=>by
       have:=(hf d hd).1;rw[<-w,q] at this;cases this
     exact ⟨f z (by simp),f TI (by simp),f TO (by simp),f i1 (by simp),f i2 (by simp)⟩
   have na:=nf a _ ha;have nb:=nf b _ hb;have D:ZipApart z TI TO i1 i2 a b:=⟨D0.TIz,D0.TOz,D0.i1z,D0.i2z,D0.TITO,D0.TIi1,D0.TIi2,D0.TOi1,D0.TOi2,D0.i12,na.1,na.2.2.1,na.2.2.2.1,na.2.2.2.2,nb.1,nb.2.2.1,nb.2.2.2.1,nb.2.2.2.2⟩
   refine wpAny_pyNext_zip_end (xs:=its.toArray) (ys:=its2.toArray) (I.ok.hd hc) D hz hTI hTO g1 g2 ⟨_,e1,rfl,n1,rfl⟩ ⟨_,e2,rfl,n2,rfl⟩ ?_ fun h' kk=>⟨rfl,?_⟩
   · rcases hend with w|w
     · exact .inl (by simp;omega)
     · exact .inr (by simp;omega)
   · have kc:∀c o,c∉[z,TI,TO,i1,i2]->s.heap.get? c=some o->h'.get? c=some o:=fun c o hc q=>kk c o (fun w=>hc (by simp [w])) (fun w=>hc (by simp [w])) (fun w=>hc (by simp [w])) (fun w=>hc (by simp [w])) q
     refine I.step (g':=s.gens) (d':=s.drawn) (t':=s.toks) (ch:=[z,TI,TO,i1,i2]) (fun c hc=> ?_) (fun c o _ _ hc q _=>kc c o hc q) (fun c o _ _ hc q _=>⟨o.slots,kc c o hc q⟩)
       (fun c o hc q n=>n) (fun c o hc q=>by
         by_cases hz':c∈[z,TI,TO,i1,i2]
         · exact absurd hz' hc
         · exact ⟨o,kc c o hz' q⟩) (fun c zs q=>q) (fun c o zs q=>q) (fun c ps q=>⟨#[],by rw[q];simp⟩) (fun m hm=> ?_) (fun c u' q=> ?_) I.bare
     · have f:=hf c hc;exact ⟨f.2.2.2.1,f.2.1,f.2.2.2.2.1,f.2.2.2.2.2⟩
     · obtain ⟨o,es,ep,ho,r⟩:=hm;exact ⟨o,es,ep,kk _ o (Ne.symm (hf z (by simp)).2.1) (Ne.symm (hf TO (by simp)).2.1) (Ne.symm (hf i1 (by simp)).2.1) (Ne.symm (hf i2 (by simp)).2.1) ho,r⟩
     · refine (I.hok c u' q).stay (fun d v hd q'=> ?_) (fun d q'=>q') fun d zs q'=>q'
       rcases hd with w|w
       · rw[w] at q' ⊢;have:=nf c _ q;exact kk c v this.1 this.2.2.1 this.2.2.2.1 this.2.2.2.2 q'
       · have:=nf d _ w;exact kk d v this.1 this.2.2.1 this.2.2.2.1 this.2.2.2.2 q'
 self:=fun _ _ _ _ _ st h=>wpAny_pyIter_zip st.1 h
theorem cs8:bootBuiltins "zip"=some (.type "zip"):=by decide+kernel
section
variable {X:Cx} {l m:Expr} {ta:TA} {p pos:Pos} {elts:List Expr} {x1:Nat} {tpos:Pos}
def dp4 (ta:TA):TI:=fun σ H R=>ta σ H fun vs H1=>∃a b xs ys,vs=[.ref a,.ref b]/\H1 a=some (.lst xs)/\H1 b=some (.lst ys)/\R (Itz a b) H1
theorem dh0 (hm:X.mg "zip"=none)(ha:PA X [l,m] ta)(hg:Gl X "zip":=by rfl)(hs:starEach [l,m] X.env=(false,eval l X.env)::starEach [m] X.env:=by rfl)(hpl:(backTo pos (starEach [m] X.env)).any (·.1)=false:=by rfl):
   PI X (.Tuple elts x1 tpos) (.Call (.Name "zip" p) [l,m] [] pos) (dp4 ta):=by
 intro pins s σ H R I h;refine Call_ (aa7 I hg hm cs8 (PyProof.Rows.callWith_type1 (q9 (ha pos pins s σ H _ I h) fun us s1 ⟨vs,H1,I1,r1,q1⟩=> ?_) hs hpl));obtain ⟨a,b,xs,ys,e,h1a,h1b,q⟩:=q1;subst e;obtain ⟨u,w',rfl,ru,rw'⟩:=bo5 r1;cases ru;cases rw';obtain ⟨_,its,n1,rv,l1,e1⟩:=I1.lstM h1a;obtain ⟨_,its2,n2,rv2,l2,e2⟩:=I1.lstM h1b
 refine call_zip_2 (xs:=its.toArray) (ys:=its2.toArray) ⟨_,e1,rfl,n1,rfl⟩ ⟨_,e2,rfl,n2,rfl⟩ fun h' hz hTI hTO g1 g2 hsz hk=> ?_
 refine wpAny_pyIter_zip hz ?_;have I2:h7 X pins σ H1 {s1 with heap:=h',toks:=s1.toks}:=I1.kept (t':=s1.toks) hk
 have ne:∀(i j:Nat),i≠j->s1.heap.objs.size+i≠s1.heap.objs.size+j:=fun i j h e=>h (Nat.add_left_cancel e)
 refine ⟨s1.heap.objs.size+4,[s1.heap.objs.size+4,s1.heap.objs.size+2,s1.heap.objs.size+3,s1.heap.objs.size,s1.heap.objs.size+1],_,_,H1,rfl,I2,
   cs7 a b (s1.heap.objs.size+4) (s1.heap.objs.size+2) (s1.heap.objs.size+3) s1.heap.objs.size (s1.heap.objs.size+1) ⟨ne 2 4 (by decide),ne 3 4 (by decide),ne 0 4 (by decide),ne 1 4 (by decide),ne 2 3 (by decide),ne 2 0 (by decide),ne 2 1 (by decide),ne 3 0 (by decide),ne 3 1 (by decide),ne 0 1 (by decide)⟩,
   ⟨hz,hTI,⟨_,_,hTO⟩,g1,g2⟩,fun c hc=> ?_,q⟩
 have hle:s1.heap.objs.size<=c:=by
   simp only[dt8,List.mem_nil_iff,or_false] at hc
   rcases hc with rfl|rfl|rfl|rfl|rfl
   · exact ei6 _ _
   · exact ei6 _ _
   · exact ei6 _ _
   · exact dr9 _
   · exact ei6 _ _
 exact I1.fpOk hle (I1.hok.fresh hle)
end
end L2
namespace L2
open PySem PySem.Spec PyProof.Rows
section
variable {X:Cx} {o e:Expr} {to:TE} {t:TA} {apos pos p:Pos}
def da0 (K:PySem.W.Frag)(t:TA):TE:=tCB (fun xs H Q=>∃p ys,xs=[.ref p]/\(g9 K H p ys\/R3 K H p ys)/\∀l,H l=none->Q (.ref l) (c8 H l (.lst ys))) t
theorem cf0 (K:PySem.W.Frag)(hm:X.mg "list"=none)(ha:PA X [e] t)(hK:X.K=K:=by rfl)(hg:Gl X "list":=by rfl)(he:starEach [e] X.env=(false,eval e X.env)::starEach [] X.env:=by rfl):
   PE X (.Call (.Name "list" p) [e] [] pos) (da0 K t):=by
 subst hK;exact K5 hm ha hg he
end
theorem az1 (xs:List V)(k:Nat)(h:k<=xs.length):N9 xs (some (k:Int)) none=xs.drop k:=by
 unfold N9;rw[HT.dq1,HT.do7,ed0 h,dy4 (by rw[dv9];omega)]
theorem cm0 (xs:List V)(k:Nat)(h:k<=xs.length):N9 xs none (some (k:Int))=xs.take k:=by
 unfold N9;rw[HT.dq1,HT.do7,ed0 h,eh8,Nat.sub_zero]
def X0 (H:Hp)(e:Addr):List Int:=match H e with
 |some (.lst xs)=>xs.map bc5
 |_=>[]
theorem az2 {H:Hp}{e:Addr}{r:List Int}(h:H e=some (.lst (r.map V.int))):X0 H e=r:=by
 unfold X0;rw[h];show (r.map V.int).map bc5=r;rw[dx2]
 conv=>rhs;rw[<-eg4 r]
 rfl
theorem cf1 {H:Hp}{as:List Addr}{rs:List (List Int)}(h:j9 H as rs):as.map (X0 H)=rs:=by
 refine dv3 fun j=> ?_
 rw[ds0]
 by_cases hj:j < as.length
 · have e1:as[j]? =some as[j]:=dr8 hj;have e2:rs[j]? =some (rs[j]'(by rw[<-h.1];exact hj)):=dr8 _;rw[e1,e2];show some (X0 H as[j])=_;rw[az2 (h.2 j _ _ e1 e2)]
 · rw[ds7 (by omega),ds7 (by rw[<-h.1];omega)];rfl
end L2
namespace Mth
theorem W2 {p:List Int}{rs:List (List Int)}(t:j7 p)(h:y8 p p.length rs):rs.flatten.Perm (L2.K4 0 p.length):=by
 have i1:j7 rs.flatten:=by
   have hin:∀x∈rs.flatten,In p x:=fun x hx=>by
     obtain ⟨r,hr,hxr⟩:=dt2.mp hx;obtain ⟨y,L,a,b,rfl,_⟩:=h.ring r hr;exact O9 t a x hxr
   have l1:=M2 h.nd hin
   have l2:p.length<=rs.flatten.length:=by
     have:=M2 (p:=rs.flatten) (r:=L2.K4 0 p.length) (O8 _) fun x hx=>by
       have hx':=G0.mp hx;obtain ⟨r,hr,hxr⟩:=dt2.mp (h.all x hx'.1 hx'.2);refine ⟨hx'.1,?_⟩
       exact Classical.byContradiction fun hn=>by
         have hle:(rs.flatten.length:Int)<=x:=by omega
         have hlt:=M2 h.nd hin
         have q:(L2.K4 0 (x.toNat+1)).length<=rs.flatten.length:=by
           have sub:∀z∈L2.K4 0 (x.toNat+1),z∈rs.flatten:=fun z hz=>by
             have hz':=G0.mp hz;exact h.all z hz'.1 (by have:=hx'.2;omega)
           have:∀(l m:List Int),l.Nodup->(∀z∈l,z∈m)->l.length<=m.length:=by
             intro l
             induction l with
             |nil=>intro m _ _;exact du2 _
             |cons c l ih=>
              intro m nd hs;obtain ⟨n1,n2⟩:=dw2.mp nd;obtain ⟨s,u,rfl⟩:=ek1 (hs c ds1)
              have:=ih (s++u) n2 fun z hz=>by
                have hzm:=hs z (ds3 _ hz)
                rcases dt1.mp hzm with g|g
                · exact dx3 _ g
                · rcases dt8.mp g with g|g
                  · subst g;exact absurd hz n1
                  · exact du5 _ g
              rw[ds6] at this;rw[ds6,dt9,dt9];omega
           exact this _ _ (O8 _) sub
         rw[E8] at q;have:=hx'.1;omega
     rw[E8] at this;exact this
   exact ⟨h.nd,fun x hx=>(hin x hx).1,fun x hx=>by have:=(hin x hx).2;omega⟩
 have hl:rs.flatten.length=p.length:=by
   have l1:=M2 h.nd fun x hx=>by
     obtain ⟨r,hr,hxr⟩:=dt2.mp hx;obtain ⟨y,L,a,b,rfl,_⟩:=h.ring r hr;exact O9 t a x hxr
   have l2:p.length<=rs.flatten.length:=by
     have:=M2 (p:=rs.flatten) (r:=L2.K4 0 p.length) (O8 _) fun x hx=>by
       have hx':=G0.mp hx;have hm:=h.all x hx'.1 hx'.2;exact ⟨hx'.1,i1.hi x hm⟩
     rw[E8] at this;exact this
   omega
 have:=i1.perm;rw[hl] at this;exact this
end Mth
namespace L2
open PySem PySem.Spec PyProof.Rows
theorem ar1:bootBuiltins "sorted"=some (.builtin "sorted"):=by decide+kernel
section
variable {X:Cx}
theorem by4 {pins:List (Addr×Obj)}{σ:St}{H:Hp}{s:Shared}(I:h7 X pins σ H s){vs:List Value}{out:Array Value}{ms:List Int}(h:IntsAre out.toList ms)(hl:ms.length<=sizeLine):
   h7 X pins σ (c8 H (s.heap.objs.size+1) (.lst (ms.map V.int))) {s with heap:=sortedAll s.heap vs out,toks:=s.toks}:=by
 obtain ⟨e,he⟩:=sortedAll_at s.heap vs out;refine I.laid (t':=s.toks) (fun _ _ q=>sortedAll_old q) (ei4 _) (show x6 X.prog X.w _ _ _ (.lst (ms.map V.int)) from ⟨by rw[dr6];exact hl,out.toList,e,aq3 h,he⟩)
variable {e:Expr} {t:TA} {p pos kpos:Pos}
theorem br7 {j:Nat}{kp:Pos}(hm:X.mg "sorted"=none)(ha:PA X [e] t)(hg:Gl X "sorted":=by rfl)
   (he:backTo pos (starEach [e] X.env)=(false,eval e X.env)::backTo pos (starEach [] X.env):=by rfl) (hplain:(backTo pos (starEach [e] X.env)).any (·.1)=false:=by rfl):
   PE X (.Call (.Name "sorted" p) [e] [⟨some "reverse",.Constant (.bool true) j kp,kpos⟩] pos) (tCB (fun xs H Q=>∃(p:Addr) (ns:List Int),xs=[.ref p]/\g9 X.K H p (ns.map V.int)/\ns.length < 64/\∀(ms:List Int) l,ms.Perm ns->ms.Pairwise (· ≥ ·)->H l=none->Q (.ref l) (c8 H l (.lst (ms.map V.int)))) t):=by
 intro pins s σ H Q I h;refine wpAny_Call_Name_kw (aa7 I hg hm ar1 ?_ (by decide) (by decide));refine callWith_kw (q9 (ha pos pins s σ H _ I h) fun us s1 ⟨vs,H1,I1,r1,q1⟩=> ?_) he hplain;obtain ⟨a,ns,rfl,hp,h64,q⟩:=q1;obtain ⟨u,rfl,rx⟩:=U6 r1;cases rx;have hk:PK X [⟨some "reverse",.Constant (.bool true) j kp,kpos⟩] (bo6 (tC (.bl true)) ce0):=cy6 R1 dg0
 refine q9 (hk pos pins s1 σ H1 (fun zs H2=>zs=[.bl true]/\H2=H1) I1 ⟨rfl,rfl⟩) fun ws s2 ⟨zs,H2,I2,rz,ez,eH⟩=> ?_
 subst ez eH;obtain ⟨u2,rfl,rx2⟩:=U6 rz;cases (show u2=Value.bool true from rx2);obtain ⟨its,rv,pl,_⟩:=I2.list hp;have ia:=al5 rv;have il:=ia.length
 refine sorted_ints_rev (b:=true) pl.isList ia (by omega) fun out ms a1 a2 a3=> ?_
 have hl:ms.length<=sizeLine:=by rw[a2.length_eq];exact dy8 (t6 (by omega))
 exact ⟨.ref (s2.heap.objs.size+1),_,by4 I2 a1 hl,rfl,q ms _ a2 a3 (I2.hok.fresh (ei4 _))⟩
end
end L2
namespace Mth
theorem ah3:∀{a b:List Int},a.Perm b->a.Pairwise (· ≥ ·)->b.Pairwise (· ≥ ·)->a=b
 |[],b,h,_,_=>by rw[List.nil_perm.mp h]
 |x::a,[],h,_,_=>by exact absurd h.length_eq (by simp)
 |x::a,y::b,h,ha,hb=>by
  obtain ⟨a1,a2⟩:=ef7.mp ha;obtain ⟨b1,b2⟩:=ef7.mp hb
  have hxy:x=y:=by
    have h1:x∈y::b:=h.mem_iff.mp ds1;have h2:y∈x::a:=h.mem_iff.mpr ds1
    have l1:y≥x:=by
      rcases dt8.mp h1 with e|e
      · exact Int.le_of_eq e
      · exact b1 x e
    have l2:x≥y:=by
      rcases dt8.mp h2 with e|e
      · exact Int.le_of_eq e
      · exact a1 y e
    omega
  subst hxy;rw[ah3 ((List.perm_cons x).mp h) a2 b2]
end Mth
namespace L2
open PySem PySem.Spec PyProof.Rows
theorem cm1 {H:Hp}{a:Addr}{as:List Addr}{r:List Int}{rs:List (List Int)}(h:H a=some (.lst (r.map V.int)))(hr:j9 H as rs):j9 H (a::as) (r::rs):=by
 refine ⟨by rw[dt9,dt9,hr.1],fun j b q h1 h2=> ?_⟩
 cases j with
 |zero=>
  rw[em0] at h1 h2;cases h1;cases h2;exact h
 |succ j=>
  rw[em1] at h1 h2;exact hr.2 j b q h1 h2
theorem am1 {H:Hp}:∀{as bs:List Addr} {rs qs:List (List Int)},j9 H as rs->j9 H bs qs->j9 H (as++bs) (rs++qs)
 |[],bs,[],qs,_,h=>h
 |[],bs,r::rs,qs,h,_=>by have:=h.1;simp at this
 |a::as,bs,[],qs,h,_=>by have:=h.1;simp at this
 |a::as,bs,r::rs,qs,h,h'=>cm1 (h.2 0 a r rfl rfl) (am1 ⟨by have:=h.1;simpa using this,fun j b q h1 h2=>h.2 (j+1) b q h1 h2⟩ h')
end L2
namespace L2
open PySem PySem.Spec PyProof.Rows
section
variable {X:Cx}
theorem cs9 {P:Program}{w:World}{k:o9}{u:Value}(h:(A6 P w).is k u=true):t7 (kV k) u:=by
 cases k with
 |inl i=>
  cases u with
  |int j t=>
   have:i=j:=by
     have h2:=KeyKind.is_eq_decide (knd:=A6 P w) (ax4 P w j t) (Sum.inl i);rw[h] at h2;have:=of_decide_eq_true h2.symm;exact Sum.inl.inj this
   subst this;exact ⟨t,rfl⟩
  |_=>cases h
 |inr x=>
  cases u with
  |str y t=>
   have:x=y:=by
     have h2:=KeyKind.is_eq_decide (knd:=A6 P w) (ax5 P w y t) (Sum.inr x);rw[h] at h2;have:=of_decide_eq_true h2.symm;exact Sum.inr.inj this
   subst this;exact ⟨t,rfl⟩
  |_=>cases h
theorem h7.freeze {pins:List (Addr×Obj)}{σ:St}{H:Hp}{s:Shared}{a:Addr}{kvs:List (o9×V)}{o:Obj}(I:h7 X pins σ H s)(e:H a=some (.dK kvs))(ho:s.heap.get? a=some o):h7 X pins σ (c8 H a (.frz o (.dK kvs))) s:=by
 have ok:x6 X.prog X.w H s.heap a (.dK kvs):=I.hok a _ e;exact aj3 (h':=s.heap) (t':=s.toks) I (by rw[e];exact True.intro) ⟨rfl,fun b _=>rfl⟩ ⟨o,ho⟩ ⟨ho,ok⟩
def Itd (d:Addr)(o:Obj)(kvs:List (o9×V)):It:=
 ⟨fun i H=>H d=some (.frz o (.dK kvs))/\i < kvs.length,fun i H x H'=>H'=H/\∃k v,kvs[i]? =some (k,v)/\x=kV k,fun i H=>H d=some (.frz o (.dK kvs))/\kvs.length<=i⟩
theorem cx3 {P:Program}{w:World}{H:Hp}{h:Heap}{d:Addr}{o:Obj}{kvs:List (o9×V)}(x:x6 P w H h d (.frz o (.dK kvs))){es:Array DictEntry}{ep:Nat}(hd:o.data= .dict es ep):∃vs,KV kvs vs/\h.DictAt (A6 P w) d vs ep:=by
 obtain ⟨ho,_,_,vs,rel,o',es',ep',ho',hc,hd',r⟩:=x;rw[ho] at ho';cases ho';rw[hd] at hd';cases hd';exact ⟨vs,rel,o,es,ho,hc,hd,r⟩
theorem cf2 {α β:Type}{R:α->β->Prop}{xs:List α}{ys:List β}(h:Paired R xs ys):∀{i:Nat} {x:α},xs[i]? =some x->∃y,ys[i]? =some y/\R x y:=by
 induction h with
 |nil=>intro i x e;simp at e
 |cons r _ ih=>
  intro i x e
  cases i with
  |zero=>rw[em0] at e;cases e;exact ⟨_,rfl,r⟩
  |succ i=>rw[em1] at e;exact ih e
theorem ar2 {P:Program}{w:World}{K:PySem.W.Frag}{tg:Expr}(d it:Addr)(o:Obj)(kvs:List (o9×V))(es:Array DictEntry)(ep:Nat)(hdat:o.data= .dict es ep):bg1 P w K tg (Itd d o kvs) [it] it (fun i h=>h.IsKeyIter it d i kvs.length ep) where
 mem:=by simp
 obj:=fun i h st b hb=>by
   have e:b=it:=by simpa using hb
   subst e;obtain ⟨o,e,c,d⟩:=st;exact ⟨o,e,fun v z=>by rw[d] at z;cases z⟩
 keep:=fun i h h' st k=>by
   obtain ⟨o,e,r⟩:=st;exact ⟨o,k it (by simp) o e,r⟩
 item:=by
   intro X hP hw hK hc i pins s σ H E I hf st hg;subst hP hw hK;obtain ⟨hH,hi⟩:=hg;obtain ⟨vs,rel,hat⟩:=cx3 (I.hok d _ hH) hdat;have hl:kvs.length=vs.length:=rel.length;obtain ⟨f0,f1,f2,f3,f4,f5⟩:=hf it (by simp);have e1:kvs[i]? =some (kvs[i].1,kvs[i].2):=dr8 hi;generalize kvs[i].1=k at e1;generalize kvs[i].2=v at e1;obtain ⟨⟨k',u⟩,e2,e3,_⟩:=cf2 rel e1;have e3:k=k':=e3;subst e3;rw[hl] at st
   refine wpAny_pyNext_dict_item st hat e2 fun key h' hk st' sb=> ?_
   have I1:h7 X pins σ H {s with heap:=h'}:=I.turned (t':=s.toks) (fun b o hb e=>(sb.2 b hb).trans e) f0 f1 f3 f4 f5;obtain ⟨o,e,c,dd⟩:=id st';exact ⟨key,rfl,cd7 (s:={s with heap:=h'}) e c dd (by decide) ⟨kV k,H,I1,cs9 hk,⟨rfl,k,v,e1,rfl⟩,by rw[hl];exact st',fun b hb=>(hf b hb).1⟩⟩
 done:=by
   intro X hP hw hK hc i pins s σ H E I hf st hg;subst hP hw hK;obtain ⟨hH,hi⟩:=hg;obtain ⟨vs,rel,hat⟩:=cx3 (I.hok d _ hH) hdat;have hl:kvs.length=vs.length:=rel.length;obtain ⟨f0,f1,f2,f3,f4,f5⟩:=hf it (by simp);rw[hl] at st
   exact wpAny_pyNext_dict_end (I.ok.hd hc) st hat (ds7 (by omega)) fun h' eb=>⟨rfl,I.turned (t':=s.toks) (fun b o hb e=>eb b o hb e) f0 f1 f3 f4 f5⟩
 self:=fun _ _ _ _ _ st h=>wpAny_pyIter_keyiter st h
def dl6 (td:TE):TI:=fun σ H R=>td σ H fun x H1=>∃d kvs,x= .ref d/\H1 d=some (.dK kvs)/\∀o,R (Itd d o kvs) (c8 H1 d (.frz o (.dK kvs)))
theorem av6 {tg l:Expr}{tl:TE}(hl:PE X l tl):PI X tg l (dl6 tl):=by
 intro pins s σ H R I h
 refine q9 (hl pins s σ H _ I h) fun v s1 ⟨x,H1,I1,r1,q1⟩=> ?_
 obtain ⟨d,kvs,e,hH,q⟩:=q1;subst e;cases r1;obtain ⟨_,hsm,vs,rel,o,es,ep,ho,hc,hdat,rr⟩:=(show x6 X.prog X.w H1 s1.heap d (.dK kvs) from I1.hok d _ hH);have hat:s1.heap.DictAt (A6 X.prog X.w) d vs ep:=⟨o,es,ho,hc,hdat,rr⟩;have I2:=I1.freeze hH ho;refine wpAny_pyIter_dict hsm hat ?_;have hlen:kvs.length=vs.length:=rel.length;refine ⟨s1.heap.objs.size,[s1.heap.objs.size],_,_,_,rfl,I2.kept (t':=s1.toks) fun b o e=>Heap.get?_push_of_some _ e,ar2 d _ o kvs es ep hdat,⟨_,Heap.get?_push_size _ rfl,rfl,by rw[hlen];rfl⟩,fun b hb=> ?_,q o⟩
 have e:b=s1.heap.objs.size:=by simpa using hb
 subst e;exact I2.fpOk (dr9 _) (I2.hok.fresh (dr9 _))
theorem am2 {d:Addr}{o:Obj}{kvs:List (o9×V)}{g:TG}{tb:TS}{D:ae2}{σ:St}{H:Hp}(Pv:Nat->St->Hp->Prop)(h0:Pv 0 σ H)(hl:∀i σ H,i<=kvs.length->Pv i σ H->H d=some (.frz o (.dK kvs)))
   (hs:∀i k v σ H,kvs[i]? =some (k,v)->Pv i σ H->g (kV k) σ H fun σ2 H2=>tb {D with nx:=Pv (i+1),ct:=Pv (i+1),bk:=D.nx} σ2 H2) (hd:∀σ H,Pv kvs.length σ H->D.nx σ H):
   ∃W:Nat->Nat->St->Hp->Prop,(∃m,W 0 m σ H)/\∀i m σ H,W i m σ H->
    ((Itd d o kvs).stop i H/\D.nx σ H)\/((Itd d o kvs).go i H/\∃N:St->Hp->Prop,(∀σ' H',N σ' H'->∃m',m' < m/\W (i+1) m' σ' H')/\∀x H',(Itd d o kvs).yld i H x H'->g x σ H' fun σ2 H2=>tb {D with nx:=N,ct:=N,bk:=D.nx} σ2 H2):=by
 refine ⟨fun i m σ H=>m=kvs.length - i/\i<=kvs.length/\Pv i σ H,⟨kvs.length,by simp,du2 _,h0⟩,?_⟩;rintro i m σ H ⟨rfl,hi,p⟩;have q:=hl i σ H hi p
 by_cases hlt:i < kvs.length
 · refine .inr ⟨⟨q,hlt⟩,Pv (i+1),fun σ' H' p'=>⟨kvs.length - (i+1),by omega,rfl,hlt,p'⟩,fun x H' y=> ?_⟩;obtain ⟨e,k,v,y1,y2⟩:=y;subst e y2;exact hs i k v σ _ y1 p
 · have e:i=kvs.length:=by omega
   subst e;exact .inl ⟨⟨q,dr9 _⟩,hd σ H p⟩
theorem ah4 {prog:Program}{w:World}{κ:Type}[DecidableEq κ](knd:KeyKind prog w κ){k:κ}{key:Value}(d:Addr)(hkey:knd.is k key=true)(hd:(d==sysModules)=false)(dflt:Value):
   MeetsIn prog w (Builtin.«dict.setdefault» ⟨[.ref d,key,dflt],[]⟩) (fun _ R s=>∃kvs,s.heap.DictOf knd d kvs/\kvs.length<=sizeLine/\
     (∀v,valueAt kvs k=some v->R (.ok (.ret v)) {s with toks:=s.toks+1})/\
     (valueAt kvs k=none->∀h',h'.DictOf knd d (kvs++[(k,dflt)])->Heap.SameBut d s.heap h'->R (.ok (.ret dflt)) {s with heap:=h',toks:=s.toks+1})):=
 .of_wp fun A R s ⟨kvs,hm,hz,h1,h2⟩=>by
   unfold Builtin.«dict.setdefault»;refine wpAny_bind ?_;unfold Builtin.Dict.keyAndDefault;refine wpAny_bind (wpAny_notOrdered_dict hm.typeIs ?_);show wpAny _ _ (pure (d,key,some dflt)) _ _ s;refine wpAny_pure ?_;show wpAny _ _ (if (d==sysModules)=true then _ else (dictSetDefault d key dflt >>=_)) _ _ s;rw[if_neg (by rw[hd];exact du3)];obtain ⟨o,es,ep,ho,hc,hdat,hk,hp,hn⟩:=id hm
   have hes:es.size<=sizeLine:=by
     have e1:=hp.length
     have e2:es.toList.length=es.size:=by simp
     omega
   have hf:=hm.mapOf;refine wpAny_bind ?_;unfold dictSetDefault
   try with_reducible refine wpAny_holding ?_
   refine wpAny_bind (knd.pyHash hkey ?_);refine wpAny_bind (wpAny_dictFind_of (s:={s with toks:=s.toks+1}) hkey ho hdat hk ?_)
   have hidx:(es.findIdx? fun e=>knd.is k e.key)=kvs.findIdx? fun kv=>decide (kv.1=k):=by
     rw[<-hp.findIdx k];obtain ⟨l⟩:=es;simp
   have hfb:findBy knd.is es k=valueAt kvs k:=by
     rw[<-hp.find k];obtain ⟨l⟩:=es;simp [findBy]
   rw[findBy_of_findIdx?] at hfb
   cases hi:es.findIdx? fun e=>knd.is k e.key with
   |some i=>
    refine wpAny_bind (wpAny_dictEntries (s:={s with toks:=s.toks+1}) ho hdat ?_)
    cases he:es[i]? with
    |none=>
     exfalso;have:=Array.findIdx?_eq_some_iff_findIdx_eq.mp hi;have hlt:i < es.size:=this.1;rw[ee1 hlt] at he
     exact nomatch he
    |some e=>
     refine wpAny_bind (wpAny_rule (wpAny_pure (wpAny_pure ⟨e.val,rfl,h1 e.val ?_⟩)));rw[hi] at hfb;rw[<-hfb];show Option.map _ es[i]? =_;rw[he];rfl
   |none=>
    have hnot:k∉kvs.map (·.1):=not_mem_of_findIdx_none (hidx▸hi)
    have hnone:valueAt kvs k=none:=by rw[hi] at hfb;exact hfb.symm
    refine wpAny_bind (wpAny_rule (wpAny_bind (wpAny_updateDictKeys (hz:=hes) (s:={s with toks:=s.toks+1}) ho hdat (wpAny_pure (wpAny_pure ⟨dflt,rfl,h2 hnone _ ⟨_,_,ep+1,Heap.get?_update_self _ ho (Obj.isFreed_of_dict (Obj.data_mapDictKeys hdat _)),
      hc.mapDictKeys _,Obj.data_mapDictKeys hdat _,hk.push hkey _,?_,?_⟩ (Heap.SameBut.update ..)⟩)))))
    · have:=hp.append hkey (knd.hash k) dflt;obtain ⟨l⟩:=es
      simpa using this
    · rw[ds5,dw4];refine ⟨hn,by simp,?_⟩;intro a ha b hb;simp only[dw3,ed1,ds8] at hb;subst hb
      exact fun e=>hnot (e▸ha)
def ca8:V->List V->Hp->VK->Prop:=fun x vs H Q=>∃(d:Addr) (kvs:List (o9×V)) (k:o9) (y:V),x= .ref d/\vs=[kV k,y]/\H d=some (.dK kvs)/\kvs.length < sizeLine/\
 (∀v,A4 kvs k=some v->Q v H)/\(A4 kvs k=none->Q y (c8 H d (.dK (kvs++[(k,y)]))))
theorem cm2:MtM X "dict.setdefault" ca8:=by
 intro pins s σ H x vs v us Q I rx rv h;obtain ⟨d,kvs,k,y,rfl,rfl,hH,hlen,q1,q2⟩:=h;cases rx
 cases rv with
 |cons rk rr=>
  cases rr with
  |cons ry rn=>
   cases rn;obtain ⟨z,hd,ws,rel,dd⟩:=cx2 I.hok hH
   refine call_meetsIn PySem.F.slot_dict_setdefault dd.typeIs PySem.F.entry_dict_setdefault (PySem.F.args_dict_setdefault_3 _ _ _) (ah4 (A6 X.prog X.w) d (av3 rk) hd _)
     ⟨ws,dd,by rw[<-rel.length];exact z,fun u hu=> ?_,fun hn h' dd' hs=> ?_⟩
   · have:=rel.val k;rw[hu] at this
     cases hv:A4 kvs k with
     |none=>rw[hv] at this;cases this
     |some v=>
      rw[hv] at this;exact ⟨v,H,I.tok _,this,q1 v hv⟩
   · have hvn:A4 kvs k=none:=by
       have:=rel.val k;rw[hn] at this
       cases hv:A4 kvs k with
       |none=>rfl
       |some v=>rw[hv] at this;cases this
     have he:∃q,h'.get? d=some q:=let ⟨q,_,_,hq,_⟩:=dd';⟨q,hq⟩;have rel':=rel.put k ry
     have hany:¬(ws.any fun kv=>decide (kv.1=k))=true:=by
       rw[el4];rintro ⟨kv,hkv,hek⟩;unfold valueAt at hn
       cases hf:ws.find? (fun kv=>decide (kv.1=k)) with
       |none=>exact List.find?_eq_none.mp hf kv hkv hek
       |some y=>rw[hf] at hn;cases hn
     rw[ay6 y hvn,stored,if_neg hany] at rel';exact ⟨y,_,aj3 I (by rw[hH];exact True.intro) hs he (cj6 (by rw[ds6];exact hlen) hd rel' dd'),ry,q2 hvn⟩
theorem cm3 {o e f:Expr}{to:TE}{t:TA}{apos pos:Pos}(ho:PE X o to)(ha:PA X [e,f] t)
   (hbase:attributeBase o "setdefault" X.env (eval o X.env)=eval o X.env:=by rfl)
   (hfew:((backTo pos (starEach [e,f] X.env)).all (fun x=> !x.1)&&(backToKw pos (keywordEach [] X.env)).all (fun x=>x.1.isSome)
     &&decide ([e,f].length+([]:List Keyword).length+(if ([]:List Keyword).isEmpty then 0 else 1) < 30))=true:=by rfl)
   (hline:(apos.endLine==pos.line)=true:=by rfl) (hs:starEach [e,f] X.env=(false,eval e X.env)::starEach [f] X.env:=by rfl) (hplain:(backTo pos (starEach [f] X.env)).any (·.1)=false:=by rfl):
   PE X (.Call (.Attribute o "setdefault" apos) [e,f] [] pos) (tBM X.K "dict" ca8 to t):=
 bo8 PySem.F.plainAttrs_dict PySem.F.slot_dict_setdefault PySem.F.type_dict_setdefault cm2 ho ha hbase hfew hline hs hplain
theorem cm4:bootBuiltins "int"=some (.type "int"):=by decide+kernel
theorem cm5:R4 X (.type "int") (fun xs H Q=>∃b,xs=[.bl b]/\Q (.int (if b then 1 else 0)) H):=by
 intro pins s σ H xs us Q I r h;obtain ⟨b,rfl,q⟩:=h;obtain ⟨u,rfl,rx⟩:=U6 r;cases rx;exact call_int_bool ⟨.int _,H,I.tok _,⟨_,rfl⟩,q⟩
theorem da1 {e:Expr}{t:TA}{p pos:Pos}(hm:X.mg "int"=none)(ha:PA X [e] t)(hg:Gl X "int":=by rfl)(he:starEach [e] X.env=(false,eval e X.env)::starEach [] X.env:=by rfl):
   PE X (.Call (.Name "int" p) [e] [] pos) (tCB (fun xs H Q=>∃b,xs=[.bl b]/\Q (.int (if b then 1 else 0)) H) t):=
 V9 cm5 hg hm cm4 ha (by decide) (by decide) he rfl
end
theorem da2 (xs:List V)(k j:Nat)(h:k<=xs.length):N9 xs (some (k:Int)) (some (j:Int))=(xs.drop k).take (min j xs.length - k):=by
 unfold N9;rw[HT.dq1,HT.dq1,ed0 h]
end L2
namespace Mth
def E2 (l:Nat):Nat->Nat
 |0=>1
 |c+1=>E2 l c*l*(c+1)
def o7 (f:Nat->Nat):List Nat->Nat
 |[]=>1
 |x::xs=>f x*o7 f xs
theorem ar3 (f:Nat->Nat):∀xs ys,o7 f (xs++ys)=o7 f xs*o7 f ys
 |[],ys=>by rw[em4];exact (em6 _).symm
 |x::xs,ys=>by
  show f x*o7 f (xs++ys)=f x*o7 f xs*o7 f ys;rw[ar3 f xs ys,dz0]
theorem am3 (f:Nat->Nat)(xs:List Nat)(x:Nat):o7 f (xs++[x])=o7 f xs*f x:=by
 rw[ar3];show o7 f xs*(f x*1)=_;rw[eh3]
theorem cf3 {f:Nat->Nat}{xs ys:List Nat}(h:xs.Perm ys):o7 f xs=o7 f ys:=by
 induction h with
 |nil=>rfl
 |cons x _ ih=>show f x*o7 f _=f x*o7 f _;rw[ih]
 |swap x y l=>show f y*(f x*o7 f l)=f x*(f y*o7 f l);rw[<-dz0,ea5 (f y),dz0]
 |trans _ _ i1 i2=>rw[i1,i2]
theorem bd0 {f:Nat->Nat}:∀{us:List Nat},(∀u∈us,f u=1)->o7 f us=1
 |[],_=>rfl
 |u::us,h=>by
  show f u*o7 f us=1;rw[h u ds1,bd0 fun x hx=>h x (ds3 _ hx)]
theorem ar4 {f:Nat->Nat}:∀{ks us:List Nat},ks.Nodup->us.Nodup->(∀k∈ks,k∈us)->(∀u∈us,u∉ks->f u=1)->o7 f ks=o7 f us
 |[],us,_,_,_,h=>(bd0 fun u hu=>h u hu (by simp)).symm
 |k::ks,us,nk,nu,sub,h=>by
  obtain ⟨nk1,nk2⟩:=dw2.mp nk;have hk:k∈us:=sub k ds1;rw[cf3 (List.perm_cons_erase hk)];show f k*o7 f ks=f k*o7 f (us.erase k)
  have ih:o7 f ks=o7 f (us.erase k):=by
    refine ar4 nk2 (nu.erase k) (fun x hx=> ?_) fun u hu hn=> ?_
    · have hxk:x≠k:=fun e=>nk1 (by rw[<-e];exact hx)
      exact (ej1 hxk).mpr (sub x (ds3 _ hx))
    · obtain ⟨h1,h2⟩:=(List.Nodup.mem_erase_iff nu).mp hu
      refine h u h2 fun z=> ?_
      rcases dt8.mp z with e|e
      · exact h1 e
      · exact hn e
  rw[ih]
def o4 (rs:List (List Int))(l:Nat):Nat:=rs.countP fun r=>decide (r.length=l)
theorem bd1 {g:Int->Nat}{l:Nat}:∀{rs:List (List Int)},(∀r∈rs,∀x∈r,g x=r.length)->(rs.flatten.countP fun x=>decide (g x=l))=l*o4 rs l
 |[],_=>by simp [o4]
 |r::rs,h=>by
  have ih:=bd1 (l:=l) (rs:=rs) fun q hq=>h q (ds3 _ hq)
  rw[dv5,List.countP_append,ih];unfold o4;rw[ea6];have hr:=h r ds1
  by_cases e:r.length=l
  · have:(r.countP fun x=>decide (g x=l))=r.length:=List.countP_eq_length.mpr fun x hx=>by rw[hr x hx];exact decide_eq_true e
    rw[this,e];simp only[decide_true,if_true];rw[em7,eh3,ea9]
  · have:(r.countP fun x=>decide (g x=l))=0:=dz8.mpr fun x hx=>by rw[hr x hx];simpa using e
    rw[this];simp [e]
theorem da3 {p:List Int}(t:j7 p){rs:List (List Int)}(up:y8 p p.length rs):∀r∈rs,∀x∈r,J9 p x=r.length:=by
 intro r hr x hx;obtain ⟨y,L,hy,pr,er,_⟩:=up.ring r hr;subst er;obtain ⟨j,hj,rfl⟩:=A5.mp hx;rw[n6];exact V2 (pr.shift t hy j)
theorem W3 {p:List Int}(t:j7 p){rs:List (List Int)}(up:y8 p p.length rs)(l:Nat):((((du8 p.length).map fun (i:Nat)=>(J9 p (i:Int):Int))).countP fun i=>decide (i=(l:Int)))=l*o4 rs l:=by
 rw[<-bd1 (da3 t up)];rw[(W2 t up).countP_eq,dy2];unfold L2.K4;rw[dy2]
 refine dz1 fun i hi=> ?_
 simp
 constructor<;>intro h<;>omega
theorem ca9 {rs:List (List Int)}{l:Nat}(h:o4 rs l≠0):∃r∈rs,r.length=l:=by
 unfold o4 at h;obtain ⟨r,hr,e⟩:=ee7.mp (Nat.pos_of_ne_zero h);exact ⟨r,hr,of_decide_eq_true e⟩
theorem ar5 {p:List Int}(t:j7 p){rs:List (List Int)}(up:y8 p p.length rs){ks:List Nat}(nk:ks.Nodup)(h1:∀k∈ks,∃r∈rs,r.length=k)(h2:∀r∈rs,r.length∈ks){g:Nat->Nat}(hg:∀l,g (l+1)=E2 (l+1) (o4 rs (l+1))):
   o7 (fun l=>E2 l (o4 rs l)) ks=o7 g ((du8 p.length).map (· +1)):=by
 have e:o7 g ((du8 p.length).map (· +1))=o7 (fun l=>E2 l (o4 rs l)) ((du8 p.length).map (· +1)):=by
   induction du8 p.length with
   |nil=>rfl
   |cons x xs ih=>
    show g (x+1)*o7 g (xs.map (· +1))=E2 (x+1) (o4 rs (x+1))*o7 _ (xs.map (· +1));rw[ih,hg]
 rw[e]
 refine ar4 nk ?_ (fun k hk=> ?_) fun u hu hn=> ?_
 · exact List.Pairwise.map (fun x:Nat=>x+1) (fun a b h=>by omega) (ee8 (n:=p.length))
 · obtain ⟨r,hr,rfl⟩:=h1 k hk;obtain ⟨y,L,hy,pr,er,_⟩:=up.ring r hr
   have b:=L8 t hy (m:=L) fun i i0 i1=>pr.least i i0 i1
   have:=pr.pos;rw[er,n6];exact ds9.mpr ⟨L - 1,dv6.mpr (by omega),by omega⟩
 · have:o4 rs u=0:=by
     by_cases z:o4 rs u=0
     · exact z
     · obtain ⟨r,hr,rfl⟩:=ca9 z;exact absurd (h2 r hr) hn
   show E2 u (o4 rs u)=1;rw[this];rfl
end Mth
namespace Mth
structure br8 (l m d:Nat):Prop where
 parts:d∣m
 rest:dw5 l (m/d)=1
 least:∀e,e∣m->dw5 l (m/e)=1->d∣e
theorem br8.pos {l m d:Nat}(x:br8 l m d)(hm:0 < m):0 < d:=by
 rcases ef8 d with z|z
 · have:=x.parts;rw[z] at this;have:=Nat.zero_dvd.mp this;omega
 · exact z
structure ah5 (l m d:Nat):Prop where
 pos:0 < d
 parts:d∣m
 least:∀e,e∣m->dw5 l (m/e)=1->d∣e
theorem ah5.start (l m:Nat):ah5 l m 1:=⟨by decide,Nat.one_dvd m,fun e _ _=>Nat.one_dvd e⟩
theorem ah5.step {l m d:Nat}(hm:0 < m)(u:ah5 l m d):ah5 l m (d*dw5 l (m/d)):=by
 obtain ⟨k,rfl⟩:=u.parts;have dp:=u.pos;rw[dy0 k dp]
 have kp:0 < k:=Nat.pos_of_mul_pos_left hm|>fun h=>by
   rcases ef8 k with z|z
   · rw[z,eh6] at hm;omega
   · exact z
 refine ⟨ec3 dp (el2 _ kp),Nat.mul_dvd_mul_left d (ee2 l k),fun e he hr=> ?_⟩;obtain ⟨f,rfl⟩:=u.least e he hr;have hfk:f∣k:=ej8 dp he;obtain ⟨g,rfl⟩:=hfk
 have fp:0 < f:=by
   rcases ef8 f with z|z
   · rw[z,ed9] at kp;omega
   · exact z
 have e1:d*(f*g)/(d*f)=g:=by
   rw[<-dz0,dy0 g (ec3 dp fp)]
 rw[e1] at hr;refine Nat.mul_dvd_mul_left d ?_
 have c:ek4 (dw5 l (f*g)) g:=by
   have:ek4 l g:=hr;exact ek4.coprime_dvd_left (el5 l (f*g)) this
 exact c.dvd_of_dvd_mul_right (ee2 l (f*g))
theorem ah5.done {l m d:Nat}(u:ah5 l m d)(h:dw5 l (m/d)=1):br8 l m d:=⟨u.parts,h,u.least⟩
theorem ah5.more {l m d:Nat}(hm:0 < m)(u:ah5 l m d)(h:dw5 l (m/d)≠1):d < d*dw5 l (m/d)/\d*dw5 l (m/d)<=m:=by
 have kp:0 < m/d:=Nat.div_pos (ek8 hm u.parts) u.pos;have gp:0 < dw5 l (m/d):=el2 _ kp;have dp:=u.pos;refine ⟨?_,ek8 hm (u.step hm).parts⟩
 have:2<=dw5 l (m/d):=by omega
 calc d < d*2:=by omega
   _<=d*dw5 l (m/d):=Nat.mul_le_mul_left d this
def K9 (d l k lane step:Nat):Nat:=lane+d*((step*k)%l)
theorem br9 {d l x lane:Nat}(hl:lane < d)(h:0 < l):(lane+d*x)%(d*l)=lane+d*(x%l):=by
 have e:lane+d*x=(lane+d*(x%l))+(d*l)*(x/l):=by
   have:=Nat.mod_add_div x l
   calc lane+d*x=lane+d*(x%l+l*(x/l)):=by rw[this]
     _=(lane+d*(x%l))+(d*l)*(x/l):=by rw[em7,<-dz0,ei7]
 rw[e,eh0];refine dy7 ?_;have hx:x%l+1<=l:=ea2 _ h
 calc lane+d*(x%l) < d+d*(x%l):=by omega
   _=d*(x%l+1):=by rw[em7,eh3,ea9]
   _<=d*l:=Nat.mul_le_mul_left d hx
theorem bg7 {d l k lane step:Nat}(hl:lane < d)(h:0 < l):(lane+step*(d*k))%(d*l)=K9 d l k lane step:=by
 have e:step*(d*k)=d*(step*k):=by rw[<-dz0,ea5 step d,dz0]
 rw[e,br9 hl h];rfl
theorem aj6 {d l k lane step:Nat}(hl:lane < d)(h:0 < l):K9 d l k lane step < d*l:=by
 rw[<-bg7 (k:=k) hl h];exact ea2 _ (ec3 (by omega) h)
theorem ct0 {d l k a b x y:Nat}(ha:a < d)(hb:b < d)(hx:x < l)(hy:y < l)(c:dw5 l k=1)(h:K9 d l k a x=K9 d l k b y):a=b/\x=y:=by
 unfold K9 at h
 have dp:0 < d:=by omega
 have h1:a=b:=by
   have e1:(a+d*((x*k)%l))%d=a:=by rw[eh0];exact dy7 ha
   have e2:(b+d*((y*k)%l))%d=b:=by rw[eh0];exact dy7 hb
   rw[<-e1,<-e2,h]
 subst h1;have h2:(x*k)%l=(y*k)%l:=ec4 dp (by omega);refine ⟨rfl,?_⟩
 have key:∀u v,u<=v->v < l->(u*k)%l=(v*k)%l->u=v:=fun u v huv hv e=>by
   have d1:l∣v*k - u*k:=Nat.dvd_of_mod_eq_zero (Nat.sub_mod_eq_zero_of_mod_eq e.symm);rw[<-Nat.sub_mul] at d1;have d2:l∣v - u:=ek4.dvd_of_dvd_mul_right c d1
   rcases ef8 (v - u) with z|z
   · omega
   · have:=ek8 z d2;omega
 rcases Nat.le_total x y with z|z
 · exact key x y z hy h2
 · exact (key y x z hx h2.symm).symm
theorem cm6 {d l k lane step:Nat}(hl:lane < d)(h:0 < l):(K9 d l k lane step+d*k)%(d*l)=K9 d l k lane ((step+1)%l):=by
 have e1:K9 d l k lane step+d*k=lane+d*((step*k)%l+k):=by
   unfold K9;rw[em7,ei7]
 rw[e1,br9 hl h];unfold K9
 congr 2
 rw[Nat.mod_add_mod,<-ef1,Nat.mul_mod ((step+1)%l),Nat.mod_mod,<-Nat.mul_mod]
end Mth
namespace Mth
theorem by5 {r:List Int}(h1:∀x,In r x->In r (nx r x))(h2:∀x,In r x->∃L,0 < L/\it r L x=x):j7 r:=by
 refine aq9 (fun x a b=>h1 x ⟨a,b⟩) fun x y x0 x1 y0 y1 e=> ?_
 obtain ⟨L,L0,hL⟩:=h2 x ⟨x0,x1⟩;obtain ⟨M,M0,hM⟩:=h2 y ⟨y0,y1⟩;have a1:=aq6 hL M;have a2:=aq6 hM L;rw[ea5] at a2;have hp:0 < L*M:=ec3 L0 M0;obtain ⟨N,hN⟩:∃N,L*M=N+1:=⟨L*M - 1,by omega⟩;rw[hN,cz7] at a1 a2;rw[<-a1,<-a2,e]
structure M5 (r J:List Int):Prop where
 ne:J≠[]
 nd:J.Nodup
 lo:∀x∈J,0<=x
 on:∀j,j < J.length->x4 r (J.getD j 0)=some (J.getD ((j+1)%J.length) 0)
theorem M5.in_ {r J:List Int}(h:M5 r J){j:Nat}(hj:j < J.length):In r (J.getD j 0):=by
 have:=h.on j hj;unfold x4 at this;have h1:=(dr7.mp this).1;have h0:=h.lo (J.getD j 0) (by rw[x8 hj];exact dv7 hj);exact ⟨h0,by omega⟩
theorem M5.nx {r J:List Int}(h:M5 r J){j:Nat}(hj:j < J.length):nx r (J.getD j 0)=J.getD ((j+1)%J.length) 0:=by
 have e:=G2 (h.in_ hj);rw[h.on j hj] at e;exact (Option.some.inj e).symm
theorem M5.it {r J:List Int}(h:M5 r J){j:Nat}(hj:j < J.length):∀i,it r i (J.getD j 0)=J.getD ((j+i)%J.length) 0
 |0=>by rw[eb7,dy7 hj];rfl
 |i+1=>by
  have hm:(j+i)%J.length < J.length:=ea2 _ (by omega);show Mth.nx r (Mth.it r i (J.getD j 0))=_;rw[h.it hj i,h.nx hm,Nat.mod_add_mod,ei7]
theorem M5.per {r J:List Int}(h:M5 r J){j:Nat}(hj:j < J.length):D5 r (J.getD j 0) J.length:=by
 refine ⟨by omega,?_,fun i i0 i1 e=> ?_⟩
 · rw[h.it hj,Nat.add_mod_right,dy7 hj]
 · rw[h.it hj] at e;have hm:(j+i)%J.length < J.length:=ea2 _ (by omega)
   have hne:(j+i)%J.length≠j:=fun z=>by
     rcases Nat.lt_or_ge (j+i) J.length with y|y
     · rw[dy7 y] at z;omega
     · have e2:(j+i)%J.length=j+i - J.length:=by
         rw[Nat.mod_eq_sub_mod y,dy7 (by omega)]
       omega
   exact J8 h.nd hm hj hne e
def S0 (d l k:Nat):List Int:=(du8 (d*l)).map fun i=>((K9 d l k (i/l) (i%l):Nat):Int)
theorem Z3 (d l k:Nat):(S0 d l k).length=d*l:=by unfold S0;rw[dr6,du6]
theorem av7 {d l i:Nat}(h:i < d*l):i/l < d:=by
 refine Nat.div_lt_of_lt_mul ?_;rw[ea5];exact h
theorem am4 {d l k:Nat}(hl:0 < l)(c:dw5 l k=1):j7 (S0 d l k):=by
 refine ⟨?_,fun x hx=> ?_,fun x hx=> ?_⟩
 · unfold S0;rw[dt0,ea8];refine List.Pairwise.imp_of_mem ?_ (dt0.mp (ee8 (n:=d*l)));intro a b ha hb hne e;have ha:=dv6.mp ha;have hb:=dv6.mp hb
   have e':K9 d l k (a/l) (a%l)=K9 d l k (b/l) (b%l):=by omega
   obtain ⟨h1,h2⟩:=ct0 (av7 ha) (av7 hb) (ea2 _ hl) (ea2 _ hl) c e';exact hne (by rw[<-ej3 a l,<-ej3 b l,h1,h2])
 · obtain ⟨i,_,rfl⟩:=ds9.mp hx;omega
 · obtain ⟨i,hi,rfl⟩:=ds9.mp hx;rw[Z3];have:=aj6 (k:=k) (step:=i%l) (av7 (dv6.mp hi)) hl;omega
theorem am5 {l:Nat}(hl:0 < l):∀{Rs:List (List Int)},(∀r∈Rs,r.length=l)->Rs.flatten.length=Rs.length*l/\∀a b,a < Rs.length->b < l->Rs.flatten[a*l+b]? =(Rs.getD a [])[b]?
 |[],_=>⟨by simp,fun a b h=>by simp at h⟩
 |r::Rs,h=>by
  have hr:=h r ds1
  obtain ⟨i1,i2⟩:=am5 hl (Rs:=Rs) fun q hq=>h q (ds3 _ hq)
  refine ⟨by rw[dv5,ds6,i1,hr,dt9,ef1,ea9],fun a b ha hb=> ?_⟩;rw[dv5]
  cases a with
  |zero=>
   rw[ed9,ef2,dv0 (by omega)];rfl
  |succ a=>
   rw[ef1,dw6 (by omega),hr]
   have e:a*l+l+b - l=a*l+b:=by omega
   rw[e,i2 a b (by simp only[dt9] at ha;omega) hb];rfl
structure G3 (l k:Nat)(Rs:List (List Int))(J:List Int):Prop where
 len:J.length=Rs.length*l
 at_:(S0 Rs.length l k).map (x4 J)=Rs.flatten.map some
theorem G3.perm {l k:Nat}{Rs:List (List Int)}{J:List Int}(hl:0 < l)(c:dw5 l k=1)(h:G3 l k Rs J):J.Perm Rs.flatten:=
 al9 (am4 hl c) (by rw[Z3];exact h.len) h.at_
theorem G3.get {l k:Nat}{Rs:List (List Int)}{J:List Int}(hl:0 < l)(hr:∀r∈Rs,r.length=l)(h:G3 l k Rs J){a b:Nat}(ha:a < Rs.length)(hb:b < l):J.getD (K9 Rs.length l k a b) 0=(Rs.getD a []).getD b 0:=by
 have hi:a*l+b < Rs.length*l:=by
   calc a*l+b < a*l+l:=by omega
     _=(a+1)*l:=by rw[ef1]
     _<=Rs.length*l:=eb2 l ha
 have e:=congrArg (fun z:List (Option Int)=>z[a*l+b]?) h.at_;unfold S0 at e;rw[ds0,ds0,dv4 hi,ds0,(am5 hl hr).2 a b ha hb] at e
 have d1:(a*l+b)/l=a:=by
   rw[ea5,Nat.mul_add_div hl,Nat.div_eq_of_lt hb,eb7]
 have d2:(a*l+b)%l=b:=by
   rw[ea5,em5,dy7 hb]
 simp only[Option.map_some,d1,d2] at e
 have hra:(Rs.getD a []).length=l:=by
   refine hr _ ?_;rw[ds2,dr8 ha];exact dv7 ha
 rw[dr8 (by omega)] at e;have e:=Option.some.inj e;have hp:=aj6 (k:=k) (step:=b) ha hl;rw[<-h.len] at hp;unfold x4 at e;rw[dw1,dr8 hp] at e;rw[ds2,dr8 hp,ds2,dr8 (show b < (Rs.getD a []).length by omega)]
 simpa using e
def bs1 (p:List Int)(m:Nat)(J:List Int)(x:Int):Prop:=
 ∃(l k:Nat) (Rs:List (List Int)) (a b:Nat) (y:Int),0 < l/\m=Rs.length*k/\dw5 l k=1/\(∀r∈Rs,r.length=l)/\G3 l k Rs J/\a < Rs.length/\b < l/\In p y/\D5 p y l/\Rs.getD a []=o5 p y l/\x=it p b y
theorem da4 {p r:List Int}{m:Nat}{qs:List (List Int)}(tp:j7 p)(hlen:r.length=p.length)(hq:∀J∈qs,M5 r J)(hx:∀x,In p x->∃J∈qs,bs1 p m J x):j7 r/\y6 r (m:Int) p:=by
 have at_:∀x,In p x->∃J∈qs,∃j,j < J.length/\x=J.getD j 0/\J.getD ((j+m)%J.length) 0=nx p x:=fun x hxi=>by
   obtain ⟨J,hJ,l,k,Rs,a,b,y,l0,rfl,c,hr,hj,ha,hb,hy,py,er,rfl⟩:=hx x hxi;refine ⟨J,hJ,K9 Rs.length l k a b,by rw[hj.len];exact aj6 ha l0,?_,?_⟩
   · rw[hj.get l0 hr ha hb,er,D3 hb]
   · rw[hj.len,cm6 ha l0,hj.get l0 hr ha (ea2 _ l0),er,D3 (ea2 _ l0),W9 py.back];rfl
 have inr:∀x,In r x↔In p x:=fun x=>by unfold In;rw[hlen]
 have tr:j7 r:=by
   refine by5 (fun x h=> ?_) fun x h=> ?_
   · obtain ⟨J,hJ,j,hj,rfl,_⟩:=at_ x ((inr x).mp h);rw[(hq J hJ).nx hj];exact (hq J hJ).in_ (ea2 _ (by omega))
   · obtain ⟨J,hJ,j,hj,rfl,_⟩:=at_ x ((inr x).mp h);have:=(hq J hJ).per hj;exact ⟨_,this.pos,this.back⟩
 refine ⟨tr,ar0 tr hlen.symm fun x h L hL=> ?_⟩;obtain ⟨J,hJ,j,hj,rfl,e⟩:=at_ x ((inr _).mp h);have hp:=(hq J hJ).per hj;have:L=J.length:=hL.uniq hp;subst this;exact ⟨m,by simp,by rw[(hq J hJ).it hj,e]⟩
end Mth
namespace Mth
theorem bs2 {p:List Int}(t:j7 p):∀i,i<=p.length->y8 p i (i4 p i)
 |0,_=>bc7 p
 |i+1,h=>by
  have ih:=bs2 t i (by omega);show y8 p (i+1) (if (i:Int)∈(i4 p i).flatten then i4 p i else i4 p i++[o5 p i (J9 p i)]);have hx:In p (i:Int):=⟨by omega,by omega⟩
  by_cases hi:(i:Int)∈(i4 p i).flatten
  · rw[if_pos hi];exact bc8 ih hi
  · rw[if_neg hi];obtain ⟨L,hL⟩:=aq7 t hx;rw[V2 hL];exact bc9 t ih hx hL hi
theorem C6 {p:List Int}(t:j7 p):y8 p p.length (i4 p p.length):=bs2 t _ (dr9 _)
theorem bd2 {p t:List Int}{k:Int}(tp:j7 p)(h:y6 p k t){x:Int}(hx:In p x){L:Nat}(hL:D5 p x L){m:Nat}(hm:((m:Int) - k)%(L:Int)=0):∀i,it t i x=it p (m*i) x
 |0=>by rw[eh6];rfl
 |i+1=>by
  show nx t (it t i x)=_;rw[bd2 tp h hx hL hm i];obtain ⟨M,hM,e⟩:=af1 h (G1 tp hx (m*i));have:=(hL.shift tp hx (m*i)).uniq hM;subst this;rw[e m hm,<-E1,el9,ea9]
theorem da5 {p t:List Int}{k:Int}(tp:j7 p)(h:y6 p k t){x:Int}(hx:In p x){L:Nat}(hL:D5 p x L){m:Nat}(hm:((m:Int) - k)%(L:Int)=0):D5 t x (L/dw5 L m):=by
 have lp:=hL.pos;have gp:0 < dw5 L m:=Nat.gcd_pos_of_pos_left _ lp;obtain ⟨a,ha⟩:=el5 L m;obtain ⟨b,hb⟩:=ee2 L m;have cp:ek4 (L/dw5 L m) (m/dw5 L m):=ej9 gp;generalize dw5 L m=g at*
 have e1:L/g=a:=by rw[ha,dy0 _ gp]
 have e2:m/g=b:=by rw[hb,dy0 _ gp]
 rw[e1,e2] at cp;rw[e1];refine ⟨?_,?_,fun i i0 i1 e=> ?_⟩
 · rcases ef8 a with z|z
   · rw[z] at ha;omega
   · exact z
 · rw[bd2 tp h hx hL hm,hb,show g*b*a=L*b by rw[ha];ac_rfl];exact aq6 hL.back b
 · rw[bd2 tp h hx hL hm] at e;have d:=ca7 hL e;rw[ha,hb,dz0] at d;have d2:a∣b*i:=ej8 gp d;have d3:a∣i:=cp.dvd_of_dvd_mul_left d2;exact absurd (ek8 i0 d3) (by omega)
end Mth
namespace Mth
def p7 (rs:List (List Int))(l:Nat):List (List Int):=rs.filter fun r=>decide (r.length=l)
theorem av8 (rs:List (List Int))(l:Nat):(p7 rs l).length=o4 rs l:=by unfold p7 o4;rw[dx9]
theorem G3.uniq {l k:Nat}{Rs:List (List Int)}{J J':List Int}(hl:0 < l)(c:dw5 l k=1)(h:G3 l k Rs J)(h':G3 l k Rs J'):J=J':=by
 have e:=h.at_.trans h'.at_.symm
 refine dv3 fun i=> ?_
 by_cases hi:i < Rs.length*l
 · have ip:=am4 (d:=Rs.length) hl c;have hm:(i:Int)∈S0 Rs.length l k:=ip.perm.mem_iff.mpr (G0.mpr ⟨by omega,by rw[Z3];omega⟩);obtain ⟨n,hn⟩:=dt7.mp hm;have e2:=congrArg (fun z:List (Option Int)=>z[n]?) e;simp only[ds0,hn,Option.map_some] at e2;have e3:=Option.some.inj e2;unfold x4 at e3;rw[dw1] at e3;exact e3
 · rw[ds7 (by rw[h.len];omega),ds7 (by rw[h'.len];omega)]
end Mth
namespace Mth
theorem am6 {p:List Int}(t:j7 p)(k:Int):∃s,y6 p k s:=by
 refine ⟨(L2.K4 0 p.length).map fun x=>it p (k%(J9 p x:Int)).toNat x,by rw[dr6,E8],fun x hx=> ?_⟩;obtain ⟨L,hL⟩:=aq7 t hx;refine ⟨L,hL,?_⟩;unfold x4;have h0:=hx.1;have h1:=hx.2
 have e:(L2.K4 0 p.length)[x.toNat]? =some x:=by
   unfold L2.K4;rw[ds0,dv4 (by omega)];show some ((0:Int)+(x.toNat:Int))=some x
   congr 1
   omega
 rw[ds0,e];show some _=some _
 dsimp only
 rw[V2 hL]
theorem da6 {n c:Int}(hn:1<=n)(hc:0<=c):∃mx,(if (if c < n then c else n) > 1 then (if c < n then c else n) else (1:Int))=mx/\1<=mx/\mx<=n:=by
 refine ⟨_,rfl,?_⟩
 split<;>split at* <;>omega
end Mth
namespace L2
open PySem PySem.Spec PyProof.Rows
def KI (kvs:List (o9×V))(ns:List Int):Prop:=kvs.map (·.1)=ns.map Sum.inl
theorem bs3:∀{kvs:List (o9×V)} {ns:List Int},KI kvs ns->∀k:Int,k∈ns↔∃v,A4 kvs (Sum.inl k:o9)=some v
 |[],[],_,k=>⟨fun h=>by simp at h,fun ⟨v,h⟩=>by cases h⟩
 |[],n::ns,h,_=>by unfold KI at h;simp at h
 |p::kvs,[],h,_=>by unfold KI at h;simp at h
 |p::kvs,n::ns,h,k=>by
  unfold KI at h;rw[dw3,dw3] at h
  injection h with h1 h2
  by_cases e:n=k
  · have:p.1=(Sum.inl k:o9):=by rw[h1,e]
    rw[Y8 this];exact ⟨fun _=>⟨_,rfl⟩,fun _=>by rw[e];exact ds1⟩
  · have:¬p.1=(Sum.inl k:o9):=fun z=>e (by rw[h1] at z;exact Sum.inl.inj z)
    rw[V0 this];constructor
    · intro hm
      rcases dt8.mp hm with z|z
      · exact absurd z.symm e
      · exact (bs3 (show KI kvs ns from h2) k).mp z
    · intro hv;exact ds3 _ ((bs3 (show KI kvs ns from h2) k).mpr hv)
theorem da7 {kvs:List (o9×V)}{ns:List Int}(h:KI kvs ns){k:Int}(hk:k∉ns):A4 kvs (Sum.inl k:o9)=none:=by
 cases e:A4 kvs (Sum.inl k:o9) with
 |none=>rfl
 |some v=>exact absurd ((bs3 h k).mpr ⟨v,e⟩) hk
theorem cm7 {d:Addr}{o:Obj}{kvs:List (o9×V)}{g:TG}{tc:TT}{te:TE}{σ0:St}{H:Hp}{Q:VK}(Pv:Nat->List V->St->Hp->Prop)(h0:Pv 0 [] σ0 H)(hl:∀i ys σ H,i<=kvs.length->Pv i ys σ H->H d=some (.frz o (.dK kvs)))
   (hs:∀i k v ys σ H,kvs[i]? =some (k,v)->Pv i ys σ H->g (kV k) σ H fun σ2 H2=>tc σ2 H2 fun b H4=>if b=true then te σ2 H4 fun y H5=>ys.length < sizeLine/\Pv (i+1) (ys++[y]) σ2 H5 else Pv (i+1) ys σ2 H4)
   (hd:∀ys σ H,Pv kvs.length ys σ H->∀D,H D=none->Q (.ref D) (c8 H D (.lst ys))):
   bp0 (Itd d o kvs) g tc te Q σ0 H:=by
 refine ⟨fun i m ys σ H=>m=kvs.length - i/\i<=kvs.length/\Pv i ys σ H,⟨kvs.length,by simp,du2 _,h0⟩,?_⟩;rintro i m ys σ H ⟨rfl,hi,p⟩;have q:=hl i ys σ H hi p
 by_cases hlt:i < kvs.length
 · refine .inr ⟨⟨q,hlt⟩,Pv (i+1),fun ys' σ' H' p'=>⟨kvs.length - (i+1),by omega,rfl,hlt,p'⟩,fun x H' y=> ?_⟩;obtain ⟨e,k,v,y1,y2⟩:=y;subst e y2;exact hs i k v ys σ _ y1 p
 · have e:i=kvs.length:=by omega
   subst e;exact .inl ⟨⟨q,dr9 _⟩,hd ys σ H p⟩
theorem by6:bootBuiltins "tuple"=some (.type "tuple"):=by decide+kernel
end L2
namespace Mth
theorem bk6 {l m d:Nat}(d1:0 < d):dw5 (d*l) m=d↔d∣m/\dw5 l (m/d)=1:=by
 constructor
 · intro h;have hd:d∣m:=h▸ee2 (d*l) m;refine ⟨hd,?_⟩;have e:m=d*(m/d):=(eh1 hd).symm
   have h2:dw5 (d*l) (d*(m/d))=d:=by rw[<-e];exact h
   rw[el6] at h2;exact ec4 d1 (by rw[h2,eh3])
 · rintro ⟨hd,h⟩;have e:m=d*(m/d):=(eh1 hd).symm;rw[e,el6,h,eh3]
end Mth
namespace L2
open PySem PySem.Spec PyProof.Rows
def az3 (a b:Sp):Sp:=fun vs H Q E=>a vs H Q E\/b vs H Q E
section
variable {P:Program} {w:World} {K:PySem.W.Frag} {mg:Str->Option Value} {base:Heap} {CX:CXT} {k:Nat} {f:Addr} {fd:FuncData} {ps:List Str} {a b:Sp}
theorem cx4 (x:p6 P w K mg base CX k f fd ps a)(y:p6 P w K mg base CX k f fd ps b):p6 P w K mg base CX k f fd ps (az3 a b):=
 ⟨fun vs H Q E h=>h.elim (x.len vs H Q E) (y.len vs H Q E),fun A outer s H args us vs Q E r e bt v h=>h.elim (x.run A outer s H args us vs Q E r e bt v) (y.run A outer s H args us vs Q E r e bt v)⟩
theorem dl7 {x:Str}(c:l8 P w K mg base x k ps (az3 a b)):l8 P w K mg base x k ps a:=by
 obtain ⟨f,fd,h1,h2,h3,h4⟩:=c;exact ⟨f,fd,h1,h2,h3,h4.imp fun vs H Q E z=> .inl z⟩
end
end L2
namespace L2
open PySem PySem.Spec PyProof.Rows
section
variable {X:Cx} {p pos:Pos} {e:Expr} {t:TA}
theorem da8 (K:PySem.W.Frag)(n:Nat)(hu:X.A.units+n+1 < cLine)(hK:X.K=K:=by rfl):O6 X (compareOp .Eq) (cr5 K n false):=by
 subst hK;exact dg8 n hu
end
end L2
namespace L2
open PySem PySem.Spec PyProof.Rows
section
variable {X:Cx}
theorem az4 {e:Expr}:PE X e (fun _ _ _=>False):=fun _ _ _ _ _ _ h=>h.elim
end
end L2
namespace HT
open PySem PySem.Spec PyProof.Rows
open PySem.AutoSeq1
open PySem.MeetsSeq PySem.MeetsSeq2 PySem.MeetsSeq3
theorem bg8 {xs:Array Value}{i:Nat}{x:Value}{r:List Value}(h:xs.toList.drop i=x::r):xs[((i:Nat):Int).toNat]? =some x/\xs.toList.drop (i+1)=r/\i < xs.size:=by
 have hl:i < xs.size:=by
   rcases Nat.lt_or_ge i xs.size with z|z
   · exact z
   · rw[List.drop_of_length_le (by simpa using z)] at h;cases h
 refine ⟨?_,?_,hl⟩
 · rw[dw1,<-dy1];have:=congrArg List.head? h;rw[List.head?_drop] at this
   simpa using this
 · have:=congrArg List.tail h;rw[List.tail_drop] at this;exact this
theorem bs4 {xs:Array Value}{i:Nat}(h:xs.toList.drop i=[]):xs[((i:Nat):Int).toNat]? =none/\xs.size<=i:=by
 have hl:xs.size<=i:=by
   have:=congrArg List.length h;rw[dv9] at this;simp at this;omega
 exact ⟨by rw[dw1];simp [hl],hl⟩
abbrev cf4 (h:Heap)(a:Addr)(xs:Array Value)(n:Nat):Prop:=h.get? a=some {cls:= .type "list",dict:=none,data:= .seq xs n,slots:= #[]}
theorem da9 (l b:Addr)(items items2:Array Value)(n n2:Nat):∀(ns ms:List Int) (vs ws:List Value) (i:Nat),IntsAre vs ns->IntsAre ws ms->items.toList.drop i=vs->items2.toList.drop i=ws->i<=items.size->i<=items2.size->
   Meets (Builtin.«list.__eq__.loop» ⟨[.ref l,.ref b,rawInt i,rawInt 0],[]⟩)
     (fun _ R s=>(cf4 s.heap l items n/\cf4 s.heap b items2 n2)/\R (.ok (.ret (.bool (av2 ns ms)))) s):=by
 intro ns
 induction ns with
 |nil=>
  intro ms vs ws i hv hw e1 e2 i1 i2 prog w A R s h;obtain ⟨h0,g0,d0,k0,o0⟩:=s;obtain ⟨⟨hx,hy⟩,h⟩:=h;cases hv;obtain ⟨g1,z1⟩:=bs4 e1
  wp_walk using wpAny_loadPart' hx,wpAny_loadPart' hy
  rw[g1]
  cases hw with
  |nil=>
   obtain ⟨g2,z2⟩:=bs4 e2
   wp_walk using wpAny_loadPart' hx,wpAny_loadPart' hy
   show R (.ok (.ret (.bool (decide (items.size < items2.size))))) _;rw[decide_eq_false (by omega)];exact h
  |cons c u hw'=>
   obtain ⟨g2,_,z2⟩:=bg8 e2
   wp_walk using wpAny_loadPart' hx,wpAny_loadPart' hy
   show R (.ok (.ret (.bool (decide (items.size < items2.size))))) _;rw[decide_eq_true (by omega)];exact h
 |cons a ns ih=>
  intro ms vs ws i hv hw e1 e2 i1 i2 prog w A R s h;obtain ⟨h0,g0,d0,k0,o0⟩:=s;obtain ⟨⟨hx,hy⟩,h⟩:=h
  cases hv with
  |cons _ t hv'=>
   obtain ⟨g1,d1,z1⟩:=bg8 e1
   wp_walk using wpAny_loadPart' hx,wpAny_loadPart' hy
   rw[g1]
   cases hw with
   |nil=>
    obtain ⟨g2,z2⟩:=bs4 e2;rw[g2]
    wp_walk using wpAny_loadPart' hx,wpAny_loadPart' hy
    show R (.ok (.ret (.bool (decide (items.size < items2.size))))) _;rw[decide_eq_false (by omega)];exact h
   |cons c u hw'=>
    obtain ⟨g2,d2,z2⟩:=bg8 e2;rw[g2];rw[ce2] at h;obtain ⟨e,he,hiff⟩:=cq4 A.in1 ⟨h0,g0,d0,k0,o0⟩ a t c u;refine wpAny_bind (he prog w _ _ ?_)
    cases e with
    |true=>
     rw[if_pos (hiff.mp rfl)] at h
     wp_walk
     rw[show ((i:Int)+1)=((i+1:Nat):Int) from rfl];refine ⟨plainId_quiet plain_eq_loop _,codeAny_builtin entry_eq_loop ?_⟩
     (rw[Around.under_plainId plain_eq_loop _];exact ih _ _ _ (i+1) hv' hw' d1 d2 (by omega) (by omega) prog w A R _ ⟨⟨hx,hy⟩,h⟩)
    |false=>
     rw[if_neg (fun q=>absurd (hiff.mpr q) du3)] at h;have less:=cq5 A.in1 ⟨h0,g0,d0,k0,o0⟩ a t c u prog w
     wp_walk using wpAny_loadPart' hx,wpAny_loadPart' hy
     rw[g1,g2]
     wp_walk using less
     exact h
theorem dh1 (l b:Addr)(items items2:Array Value)(n n2:Nat)(ns ms:List Int)(hi:IntsAre items.toList ns)(hj:IntsAre items2.toList ms):
   Meets (Builtin.«list.__lt__» ⟨[.ref l,.ref b],[]⟩)
     (fun _ R s=>(cf4 s.heap l items n/\cf4 s.heap b items2 n2)/\R (.ok (.ret (.bool (av2 ns ms)))) s):=by
 intro prog w A R s h;obtain ⟨h0,g0,d0,k0,o0⟩:=s;obtain ⟨⟨hx,hy⟩,h⟩:=h;have sub:=AutoSeq1.sub_list_list
 wp_walk using wpAny_loadPart' hx,wpAny_loadPart' hy
 refine ⟨plainId_quiet plain_eq_loop _,codeAny_builtin entry_eq_loop ?_⟩
 (rw[Around.under_plainId plain_eq_loop _];exact da9 l b items items2 n n2 ns ms _ _ 0 hi hj rfl rfl (du2 _) (du2 _) prog w A R _ ⟨⟨hx,hy⟩,h⟩)
end HT
namespace L2
open PySem PySem.Spec PyProof.Rows
section
variable {prog:Program} {w:World} {A:Around} {E:Value->Shared->Prop} {s:Shared}
def ag7 (h:Heap)(v:Value)(ns:List Int):Prop:=∃p xs n,v= .ref p/\HT.cf4 h p xs n/\IntsAre xs.toList ns
theorem bd3 {α β:Type}{f:α->Sem β}(g:α->β):∀{vs:List α} {Q:List β->Shared->Prop},(∀v,v∈vs->∀R:β->Shared->Prop,R (g v) s->wpAny (model prog w) A (f v) R E s)->Q (vs.map g) s->wpAny (model prog w) A (vs.mapM f) Q E s
 |[],Q,_,q=>by rw[List.mapM_nil];exact wpAny_pure q
 |v::vs,Q,k,q=>by
  rw[List.mapM_cons];refine wpAny_bind (k v (ds1 ..) _ ?_);refine wpAny_bind (bd3 g (fun u hu=>k u (ds3 _ hu)) ?_);exact wpAny_pure q
theorem bs5 {α β:Type}{f:α->Sem β}(g:α->β){vs:List α}{Q:Array β->Shared->Prop}(k:∀v,v∈vs->∀R:β->Shared->Prop,R (g v) s->wpAny (model prog w) A (f v) R E s)(q:Q (vs.map g).toArray s):wpAny (model prog w) A (vs.toArray.mapM f) Q E s:=by
 rw[List.mapM_toArray,map_eq_pure_bind];exact wpAny_bind (bd3 g k (wpAny_pure q))
theorem cf5 (v:Value):firstOfTuple' v=(do
 if (<-typeOf v)!= .type "tuple" then return none
 return (<-Builtin.List.listItems v)[0]?):=rfl
theorem cm8 {v:Value}{ns:List Int}(r:ag7 s.heap v ns){Q:Option Value->Shared->Prop}(k:Q none s):wpAny (model prog w) A (firstOfTuple' v) Q E s:=by
 obtain ⟨p,xs,n,rfl,ox,ix⟩:=r;rw[cf5];refine wpAny_bind (wpAny_typeOf (T:="list") ⟨_,ox,rfl⟩ ?_);rw[if_pos (by decide)];exact wpAny_pure k
theorem ct1 {v:Value}{ns:List Int}(r:ag7 s.heap v ns){Q:Value->Shared->Prop}(k:Q (.type "list") s):wpAny (model prog w) A (typeOf v) Q E s:=by
 obtain ⟨p,xs,n,rfl,ox,ix⟩:=r;exact wpAny_typeOf (T:="list") ⟨_,ox,rfl⟩ k
theorem cm9 {v₁ v₂:Value}{vs:List Value}{Q:SortKind->Shared->Prop}(r:∀v,v∈v₁::v₂::vs->∃ns,ag7 s.heap v ns)(k:Q oneType' s):wpAny (model prog w) A (keyKind' (v₁::v₂::vs).toArray) Q E s:=by
 rw[keyKind'_eq];refine wpAny_bind (bs5 (fun _=>none) (fun v hv R q=>by obtain ⟨ns,z⟩:=r v hv;exact cm8 z q) ?_);rw[if_neg (by simp),if_neg (by simp)];rw[oneTypeOnly'_eq];refine wpAny_bind (wpAny_bind (bs5 (fun _=>Value.type "list") (fun v hv R q=>by obtain ⟨ns,z⟩:=r v hv;exact ct1 z q) ?_))
 have h0:(List.map (fun _=>Value.type "list") (v₁::v₂::vs)).toArray[0]? =some (Value.type "list"):=by simp
 rw[h0]
 dsimp only
 rw[if_pos (by
   simp only[List.all_toArray,List.all_map,ed5];intro _ _
   rfl)]
 exact wpAny_pure (wpAny_pure k)
theorem bk7 (vs:List Value):(pairsOf vs).map (·.2)=vs.toArray:=by
 apply Array.toList_inj.mp
 rw[el7,pairsOf_toList];exact List.map_snd_zip (dr9 _)
end
end L2
namespace TS
open PySem PyProof.Rows
section
variable (rk:Keyed->Nat)
def R (xs:Array Keyed)(i:Nat):Nat:=match xs[i]? with
 |some p=>rk p
 |none=>0
def Up (xs:Array Keyed)(lo hi:Nat):Prop:=∀i j,lo<=i->i<=j->j < hi->R rk xs i<=R rk xs j
def bg9 (xs:Array Keyed)(lo hi:Nat):Prop:=∀i j,lo<=i->i<=j->j < hi->R rk xs j<=R rk xs i
end
def C2 (xs ys:Array Keyed)(lo hi:Nat):Prop:=∀k,k < lo\/hi<=k->ys[k]? =xs[k]?
theorem C2.refl (xs:Array Keyed)(lo hi:Nat):C2 xs xs lo hi:=fun _ _=>rfl
theorem C2.trans {xs ys zs:Array Keyed}{lo hi:Nat}(h:C2 xs ys lo hi)(g:C2 ys zs lo hi):C2 xs zs lo hi:=fun k hk=>(g k hk).trans (h k hk)
theorem C2.wide {xs ys:Array Keyed}{lo hi lo' hi':Nat}(h:C2 xs ys lo hi)(h1:lo'<=lo)(h2:hi<=hi'):C2 xs ys lo' hi':=fun k hk=>h k (by omega)
section
variable {rk:Keyed->Nat}
theorem bh0 {xs ys:Array Keyed}{i j:Nat}(h:xs[i]? =ys[j]?):R rk xs i=R rk ys j:=by unfold R;rw[h]
theorem C2.R {xs ys:Array Keyed}{lo hi k:Nat}(h:C2 xs ys lo hi)(hk:k < lo\/hi<=k):TS.R rk ys k=TS.R rk xs k:=bh0 (h k hk)
theorem C2.up {xs ys:Array Keyed}{lo hi a b:Nat}(h:C2 xs ys lo hi)(u:Up rk xs a b)(hk:b<=lo\/hi<=a):Up rk ys a b:=fun i j h1 h2 h3=>by
 rw[h.R (by omega),h.R (by omega)];exact u i j h1 h2 h3
theorem bs6 {xs:Array Keyed}{src d:Nat}(hs:src < xs.size)(hd:d<=src)(k:Nat):
   R rk (bubble xs src d) k=if k=src - d then R rk xs src else if src - d < k/\k<=src then R rk xs (k - 1) else R rk xs k:=by
 have e:=getElem?_bubble hs d hd k
 split
 · rename_i h;rw[if_pos h] at e;exact bh0 e
 · rename_i h;rw[if_neg h] at e
   split
   · rename_i h2;rw[if_pos h2] at e;exact bh0 e
   · rename_i h2;rw[if_neg h2] at e;exact bh0 e
theorem by7 {xs:Array Keyed}{src d lo hi:Nat}(hs:src < xs.size)(hd:d<=src)(h1:lo<=src - d)(h2:src < hi):C2 xs (bubble xs src d) lo hi:=fun k hk=>by
 rw[getElem?_bubble hs d hd k,if_neg (by omega),if_neg (by omega)]
theorem az5 {xs:Array Keyed}{i j:Nat}(hj:j<=xs.size)(k:Nat):R rk (mirror xs i j ((j - i)/2)) k=if i<=k/\k < j then R rk xs (i+j - 1 - k) else R rk xs k:=by
 have e:=getElem?_mirror_all (i:=i) hj k
 split
 · rename_i h;rw[if_pos h] at e;exact bh0 e
 · rename_i h;rw[if_neg h] at e;exact bh0 e
theorem aa3 {xs:Array Keyed}{i j lo hi:Nat}(hj:j<=xs.size)(h1:lo<=i)(h2:j<=hi):C2 xs (mirror xs i j ((j - i)/2)) lo hi:=fun k hk=>by
 rw[getElem?_mirror_all hj k,if_neg (by omega)]
theorem Q7 {xs:Array Keyed}{i j:Nat}(hj:j<=xs.size)(h:∀k,i<=k->k < j->R rk xs k=R rk xs (j - 1))(k:Nat):R rk (mirror xs i j ((j - i)/2)) k=R rk xs k:=by
 rw[az5 hj]
 split
 · rw[h _ (by omega) (by omega),h k (by omega) (by omega)]
 · rfl
end
structure Bs (a0:Array Keyed)(κ:SortKind)(st:SortSt):Prop where
 perm:(arrOf st).Perm a0
 kind:kindOf st=κ
 ok:failedOf st=none
theorem Bs.size {a0:Array Keyed}{κ:SortKind}{st:SortSt}(h:Bs a0 κ st):(arrOf st).size=a0.size:=h.perm.size_eq
theorem Bs.set {a0:Array Keyed}{κ:SortKind}{st:SortSt}(h:Bs a0 κ st){xs:Array Keyed}(hp:xs.Perm (arrOf st)):Bs a0 κ (setArr st xs):=⟨hp.trans h.perm,h.kind,h.ok⟩
theorem Bs.mem {a0:Array Keyed}{κ:SortKind}{st:SortSt}(h:Bs a0 κ st){i:Nat}(hi:i < a0.size):∃p,(arrOf st)[i]? =some p/\p∈a0.toList:=by
 have hi':i < (arrOf st).size:=by rw[h.size];exact hi
 exact ⟨(arrOf st)[i],getElem?_pos _ i hi',(ec0.mp h.perm).mem_iff.mp (by simp)⟩
section
variable {prog:Program} {w:World} {A:Around} {E:Value->Shared->Prop} {s:Shared}
def Cm (prog:Program)(w:World)(A:Around)(s:Shared)(κ:SortKind)(rk:Keyed->Nat)(a0:Array Keyed):Prop:=
 ∀x∈a0.toList,∀y∈a0.toList,∀(Q:Bool->Shared->Prop) (E':Value->Shared->Prop),Q (decide (rk x < rk y)) s->wpAny (model prog w) A (keyLt' κ x.1 y.1) Q E' s
variable {rk:Keyed->Nat} {a0:Array Keyed} {κ:SortKind}
theorem bd4 {st:SortSt}{x y:Keyed}{Q:Option Bool->SortSt->Prop}(C:Cm prog w A s κ rk a0)(hk:kindOf st=κ)(hx:x∈a0.toList)(hy:y∈a0.toList)(h:Q (some (decide (rk x < rk y))) st):
   wpS (model prog w) A E s (lt' x y) Q st:=by
 rw[lt'_eq];refine wpS_bind (wpS_get ?_);rw[hk];exact wpS_bind (wpS_lift (wpAny_attempt (C x hx y hy _ _ ⟨rfl,wpS_pure h⟩)))
theorem ad5 {st:SortSt}{i j:Nat}{Q:Option Bool->SortSt->Prop}(C:Cm prog w A s κ rk a0)(B:Bs a0 κ st)(hi:i < a0.size)(hj:j < a0.size)(h:Q (some (decide (R rk (arrOf st) i < R rk (arrOf st) j))) st):
   wpS (model prog w) A E s (ltAt' i j) Q st:=by
 obtain ⟨x,ex,mx⟩:=B.mem hi;obtain ⟨y,ey,my⟩:=B.mem hj;rw[ltAt'_eq];refine wpS_bind (wpS_get ?_);show wpS _ _ _ _ (do let u <-elem' (arrOf st) i;let v <-elem' (arrOf st) j;lt' u v) Q st;rw[elem'_eq,elem'_eq,ex,ey];refine wpS_bind (wpS_pure (wpS_bind (wpS_pure (bd4 C B.kind mx my ?_))));unfold R at h;rw[ex,ey] at h;exact h
theorem bd5 {st:SortSt}{i j:Nat}{Q:Unit->SortSt->Prop}(h:Q () (setArr st (mirror (arrOf st) i j ((j - i)/2)))):wpS (model prog w) A E s (reverseSlice' i j) Q st:=by
 rw[reverseSlice'_eq];exact wpS_modify h
theorem dh2 {st:SortSt}{lo n ok:Nat}{Q:Bool->SortSt->Prop}(C:Cm prog w A s κ rk a0)(hn:lo+n<=a0.size)(hok:ok<=n)(B:Bs a0 κ st)(hs:Up rk (arrOf st) lo (lo+ok))
   (h:∀st',Bs a0 κ st'->Up rk (arrOf st') lo (lo+n)->C2 (arrOf st) (arrOf st') lo (lo+n)->pendingOf st'=pendingOf st->Q true st'):wpS (model prog w) A E s (binarySort' lo n ok) Q st:=by
 rw[binarySort'_eq]
 refine wpS_bind (wpS_mono (wpS_forRange (I:=fun k c t=>c=(none,())/\Bs a0 κ t/\Up rk (arrOf t) lo (lo+min k n)/\C2 (arrOf st) (arrOf t) lo (lo+n)/\pendingOf t=pendingOf st)
   (Q:=fun c t=>c=(none,())/\Bs a0 κ t/\Up rk (arrOf t) lo (lo+n)/\C2 (arrOf st) (arrOf t) lo (lo+n)/\pendingOf t=pendingOf st) ?step ?fin ?init) ?post)
 case post=>
   rintro c t ⟨rfl,B',u,k,p⟩;exact wpS_pure (h t B' u k p)
 case init=>
   refine ⟨rfl,B,fun i j h1 h2 h3=> ?_,C2.refl _ _ _,rfl⟩
   by_cases z:ok=0
   · have:i=j:=by omega
     rw[this];exact dr9 _
   · exact hs i j h1 h2 (by omega)
 case fin=>
   rintro c t ⟨hc,B',u,k,p⟩;refine ⟨hc,B',?_,k,p⟩
   rwa [show min (max (max ok 1) n) n=n by omega] at u
 case step=>
   rintro k c t h1 h2 ⟨rfl,B',u,kp,pe⟩;rw[show min k n=k by omega] at u
   refine wpS_bind (wpS_mono (wpS_forRange (I:=fun x c t'=>t'=t/\∃l r,c=(none,l,r)/\l<=r/\r<=k/\r - l<=k - x/\
       (∀i,i < l->R rk (arrOf t) (lo+i)<=R rk (arrOf t) (lo+k))/\(∀i,r<=i->i < k->R rk (arrOf t) (lo+k) < R rk (arrOf t) (lo+i)))
     (Q:=fun c t'=>t'=t/\∃l r,c=(none,l,r)/\l<=k/\(∀i,i < l->R rk (arrOf t) (lo+i)<=R rk (arrOf t) (lo+k))/\(∀i,l<=i->i < k->R rk (arrOf t) (lo+k) < R rk (arrOf t) (lo+i))) ?st2 ?fin2 ?init2) ?post2)
   case init2=>exact ⟨rfl,0,k,rfl,by omega,by omega,by omega,fun i hi=>by omega,fun i h1 h2=>by omega⟩
   case fin2=>
     rintro c t' ⟨rfl,l,r,rfl,a1,a2,a3,a4,a5⟩
     have:l=r:=by omega
     subst this;exact ⟨rfl,l,l,rfl,a2,a4,a5⟩
   case st2=>
     rintro x c t' _ hx ⟨rfl,l,r,rfl,a1,a2,a3,a4,a5⟩
     dsimp only
     by_cases z:l≥r
     · rw[if_pos z]
       have:l=r:=by omega
       subst this;exact wpS_pure ⟨rfl,l,l,rfl,a2,a4,a5⟩
     · rw[if_neg z];refine wpS_bind (ad5 C B' (by omega) (by omega) ?_)
       by_cases y:R rk (arrOf t') (lo+k) < R rk (arrOf t') (lo+(l+r)/2)
       · simp only[y,decide_true,if_true];refine wpS_pure ⟨rfl,l,(l+r)/2,rfl,by omega,by omega,by omega,a4,fun i b1 b2=> ?_⟩;have:=u (lo+(l+r)/2) (lo+i) (by omega) (by omega) (by omega);omega
       · simp only[y,decide_false,dz3,if_false];refine wpS_pure ⟨rfl,(l+r)/2+1,r,rfl,by omega,by omega,by omega,fun i b1=> ?_,a5⟩;have:=u (lo+i) (lo+(l+r)/2) (by omega) (by omega) (by omega);omega
   case post2=>
     rintro c t' ⟨rfl,l,r,rfl,a1,a2,a3⟩;show wpS _ _ _ _ (do moveDown' (lo+k) (lo+l);pure (ForInStep.yield (none,()))) _ _;rw[moveDown'_eq]
     have hz:lo+k < (arrOf t').size:=by rw[B'.size];omega
     refine wpS_bind (wpS_modify (wpS_pure ⟨rfl,B'.set (bubble_perm _ _ _),?_,kp.trans (by7 hz (by omega) (by omega) (by omega)),pe⟩));rw[show min (k+1) n=k+1 by omega];intro i j b1 b2 b3;show R rk (bubble (arrOf t') (lo+k) (lo+k - (lo+l))) i<=R rk (bubble (arrOf t') (lo+k) (lo+k - (lo+l))) j
     have f1:∀i,lo<=i->i < lo+l->R rk (arrOf t') i<=R rk (arrOf t') (lo+k):=fun i c1 c2=>by have:=a2 (i - lo) (by omega);rwa [show lo+(i - lo)=i by omega] at this
     have f2:∀i,lo+l<=i->i < lo+k->R rk (arrOf t') (lo+k) < R rk (arrOf t') i:=fun i c1 c2=>by have:=a3 (i - lo) (by omega) (by omega);rwa [show lo+(i - lo)=i by omega] at this
     rw[bs6 hz (by omega),bs6 hz (by omega),show lo+k - (lo+k - (lo+l))=lo+l by omega]
     repeat' split
     all_goals first
       |(exfalso;omega)
       |exact dr9 _
       |exact f1 _ (by omega) (by omega)
       |exact dy8 (f2 _ (by omega) (by omega))
       |exact u _ _ (by omega) (by omega) (by omega)
end
end TS
namespace TS
open PySem PyProof.Rows
section
variable {prog:Program} {w:World} {A:Around} {E:Value->Shared->Prop} {s:Shared}
variable {rk:Keyed->Nat} {a0:Array Keyed} {κ:SortKind}
theorem cn0 {xs:Array Keyed}{lo x:Nat}(u:Up rk xs lo (lo+x))(x1:1<=x)(h:¬R rk xs (lo+x) < R rk xs (lo+x - 1)):Up rk xs lo (lo+(x+1)):=fun i j h1 h2 h3=>by
 by_cases hj:j < lo+x
 · exact u i j h1 h2 hj
 · have e:j=lo+x:=by omega
   subst e
   by_cases hi:i=lo+x
   · rw[hi];exact dr9 _
   · have:=u i (lo+x - 1) h1 (by omega) (by omega);omega
theorem af2 {xs:Array Keyed}{lo x:Nat}(u:bg9 rk xs lo (lo+x))(x1:1<=x)(h:R rk xs (lo+x)<=R rk xs (lo+x - 1)):bg9 rk xs lo (lo+(x+1)):=fun i j h1 h2 h3=>by
 by_cases hj:j < lo+x
 · exact u i j h1 h2 hj
 · have e:j=lo+x:=by omega
   subst e
   by_cases hi:i=lo+x
   · rw[hi];exact dr9 _
   · have:=u i (lo+x - 1) h1 (by omega) (by omega);omega
def ct2 (a0:Array Keyed)(κ:SortKind)(rk:Keyed->Nat)(lo nrem:Nat)(st:SortSt)(r:Option Nat)(t:SortSt):Prop:=
 ∃m,r=some m/\Bs a0 κ t/\1<=m/\m<=nrem/\Up rk (arrOf t) lo (lo+m)/\C2 (arrOf st) (arrOf t) lo (lo+nrem)/\pendingOf t=pendingOf st
theorem dh3 {st:SortSt}{lo nrem:Nat}(C:Cm prog w A s κ rk a0)(hn:lo+nrem<=a0.size)(n1:1<=nrem)(B:Bs a0 κ st):wpS (model prog w) A E s (countRun' lo nrem) (ct2 a0 κ rk lo nrem st) st:=by
 rw[countRun'_eq]
 refine wpS_bind (wpS_mono (wpS_forRange (I:=fun x c t=>t=st/\c=(none,x)/\Up rk (arrOf st) lo (lo+x))
   (Q:=fun c t=>t=st/\∃n,c=(none,n)/\1<=n/\n<=nrem/\Up rk (arrOf st) lo (lo+n)/\(n=nrem\/R rk (arrOf st) (lo+n) < R rk (arrOf st) (lo+n - 1))) ?step ?fin
   ⟨rfl,rfl,fun i j h1 h2 h3=>by rw[show i=j by omega];exact dr9 _⟩) ?post)
 case fin=>
   rintro c t ⟨rfl,rfl,u⟩;rw[show max 1 nrem=nrem by omega] at u ⊢;exact ⟨rfl,nrem,rfl,n1,dr9 _,u,.inl rfl⟩
 case step=>
   rintro x c t x1 xn ⟨rfl,rfl,u⟩
   dsimp only
   refine wpS_bind (ad5 C B (by omega) (by omega) ?_)
   by_cases y:R rk (arrOf t) (lo+x) < R rk (arrOf t) (lo+x - 1)
   · simp only[y,decide_true,if_true];exact wpS_pure ⟨rfl,x,rfl,x1,by omega,u,.inr y⟩
   · simp only[y,decide_false,dz3,if_false];exact wpS_pure ⟨rfl,rfl,cn0 u x1 y⟩
 case post=>
   rintro c t ⟨rfl,n,rfl,m1,mn,u,hor⟩
   dsimp only
   by_cases z:n=nrem
   · rw[if_pos (by simpa using z)];exact wpS_pure ⟨n,rfl,B,m1,mn,u,C2.refl _ _ _,rfl⟩
   · rw[if_neg (by simpa using z)];have lt:=hor.resolve_left z
     suffices D:∀t',Bs a0 κ t'->bg9 rk (arrOf t') lo (lo+(n+1))->C2 (arrOf t) (arrOf t') lo (lo+nrem)->pendingOf t'=pendingOf t->wpS (model prog w) A E s _ (ct2 a0 κ rk lo nrem t) t' by
       by_cases g:n > 1
       · rw[if_pos g];refine wpS_bind (ad5 C B (by omega) (by omega) ?_)
         by_cases y:R rk (arrOf t) lo < R rk (arrOf t) (lo+n - 1)
         · simp only[y,decide_true,if_true];exact wpS_pure ⟨n,rfl,B,m1,mn,u,C2.refl _ _ _,rfl⟩
         · simp only[y,decide_false,dz3,if_false]
           have hz:lo+n<=(arrOf t).size:=by rw[B.size];omega
           have all:∀k,lo<=k->k < lo+n->R rk (arrOf t) k=R rk (arrOf t) (lo+n - 1):=fun k h1 h2=>by
             have a1:=u lo k (by omega) h1 h2;have a2:=u k (lo+n - 1) h1 (by omega) (by omega);omega
           refine wpS_bind (bd5 (D _ (B.set (mirror_perm _ _ _ _)) ?_ (aa3 hz (dr9 _) (by omega)) rfl));refine af2 (fun i j h1 h2 h3=> ?_) m1 ?_
           · show R rk (mirror (arrOf t) _ _ _) j<=R rk (mirror (arrOf t) _ _ _) i;rw[Q7 hz all,Q7 hz all,all i h1 (by omega),all j (by omega) h3];exact dr9 _
           · show R rk (mirror (arrOf t) _ _ _) _<=R rk (mirror (arrOf t) _ _ _) _;rw[Q7 hz all,Q7 hz all];omega
       · rw[if_neg g];refine D _ B (af2 (fun i j h1 h2 h3=>by rw[show i=j by omega];exact dr9 _) m1 (by omega)) (C2.refl _ _ _) rfl
     intro t1 B1 d1 k1 p1;refine wpS_bind (wpS_lift (wpAny_rule ⟨rfl,?_⟩))
     refine wpS_bind (wpS_mono (wpS_forRange (I:=fun x c t'=>∃q,c=(none,x,q)/\Bs a0 κ t'/\bg9 rk (arrOf t') lo (lo+x)/\q+1<=x/\(∀i,lo+x - (q+1)<=i->i < lo+x->R rk (arrOf t') i=R rk (arrOf t') (lo+x - 1))/\C2 (arrOf t) (arrOf t') lo (lo+nrem)/\pendingOf t'=pendingOf t)
       (Q:=fun c t'=>∃x q,c=(none,x,q)/\n+1<=x/\x<=nrem/\Bs a0 κ t'/\bg9 rk (arrOf t') lo (lo+x)/\q+1<=x/\(∀i,lo+x - (q+1)<=i->i < lo+x->R rk (arrOf t') i=R rk (arrOf t') (lo+x - 1))/\C2 (arrOf t) (arrOf t') lo (lo+nrem)/\pendingOf t'=pendingOf t) ?step2 ?fin2
       ⟨0,rfl,B1,d1,by omega,(fun i h1 h2=>by rw[show i=lo+(n+1) - 1 by omega]),k1,p1⟩) ?post2)
     case fin2=>
       rintro c t' ⟨q,rfl,B',d,q1,al,k,p⟩;rw[show max (n+1) nrem=nrem by omega] at d q1 al ⊢;exact ⟨nrem,q,rfl,by omega,dr9 _,B',d,q1,al,k,p⟩
     case step2=>
       rintro x c t' x1 xn ⟨q,rfl,B',d,q1,al,k,p⟩
       dsimp only
       have hz:lo+x<=(arrOf t').size:=by rw[B'.size];omega
       refine wpS_bind (ad5 C B' (by omega) (by omega) ?_)
       by_cases y:R rk (arrOf t') (lo+x) < R rk (arrOf t') (lo+x - 1)
       · simp only[y,decide_true,if_true]
         by_cases g:q > 0
         · rw[if_pos g];refine wpS_bind (bd5 (wpS_pure ⟨0,rfl,B'.set (mirror_perm _ _ _ _),?_,by omega,(fun i h1 h2=>by rw[show i=lo+(x+1) - 1 by omega]),k.trans (aa3 hz (by omega) (by omega)),p⟩));refine af2 (fun i j h1 h2 h3=> ?_) (by omega) ?_
           · show R rk (mirror (arrOf t') _ _ _) j<=R rk (mirror (arrOf t') _ _ _) i;rw[Q7 hz al,Q7 hz al];exact d i j h1 h2 h3
           · show R rk (mirror (arrOf t') _ _ _) _<=R rk (mirror (arrOf t') _ _ _) _;rw[Q7 hz al,Q7 hz al];omega
         · rw[if_neg g];exact wpS_pure ⟨0,rfl,B',af2 d (by omega) (by omega),by omega,(fun i h1 h2=>by rw[show i=lo+(x+1) - 1 by omega]),k,p⟩
       · simp only[y,decide_false,dz3,if_false];refine wpS_bind (ad5 C B' (by omega) (by omega) ?_)
         by_cases g:R rk (arrOf t') (lo+x - 1) < R rk (arrOf t') (lo+x)
         · simp only[g,decide_true,if_true];exact wpS_pure ⟨x,q,rfl,x1,by omega,B',d,q1,al,k,p⟩
         · simp only[g,decide_false,dz3,if_false]
           have e:R rk (arrOf t') (lo+x)=R rk (arrOf t') (lo+x - 1):=by omega
           refine wpS_pure ⟨q+1,rfl,B',af2 d (by omega) (by omega),by omega,fun i h1 h2=> ?_,k,p⟩;rw[show lo+(x+1) - 1=lo+x by omega]
           by_cases hi:i=lo+x
           · rw[hi]
           · rw[e];exact al i (by omega) (by omega)
     case post2=>
       rintro c t2 ⟨x,q,rfl,x1,xn,B2,d,q1,al,k2,p2⟩
       dsimp only
       have hz:lo+x<=(arrOf t2).size:=by rw[B2.size];omega
       suffices T:∀t3,Bs a0 κ t3->bg9 rk (arrOf t3) lo (lo+x)->C2 (arrOf t) (arrOf t3) lo (lo+nrem)->pendingOf t3=pendingOf t->wpS (model prog w) A E s _ (ct2 a0 κ rk lo nrem t) t3 by
         by_cases g:q > 0
         · rw[if_pos g];refine wpS_bind (bd5 (T _ (B2.set (mirror_perm _ _ _ _)) (fun i j h1 h2 h3=> ?_) (k2.trans (aa3 hz (by omega) (by omega))) p2));show R rk (mirror (arrOf t2) _ _ _) j<=R rk (mirror (arrOf t2) _ _ _) i;rw[Q7 hz al,Q7 hz al];exact d i j h1 h2 h3
         · rw[if_neg g];exact T _ B2 d k2 p2
       intro t3 B3 d3 k3 p3
       have hz3:lo+x<=(arrOf t3).size:=by rw[B3.size];omega
       refine wpS_bind (bd5 ?_);have B4:=B3.set (mirror_perm (arrOf t3) lo (lo+x) ((lo+x - lo)/2))
       have u4:Up rk (arrOf (setArr t3 (mirror (arrOf t3) lo (lo+x) ((lo+x - lo)/2)))) lo (lo+x):=fun i j h1 h2 h3=>by
         show R rk (mirror (arrOf t3) _ _ _) i<=R rk (mirror (arrOf t3) _ _ _) j;rw[az5 hz3,az5 hz3,if_pos (by omega),if_pos (by omega)];exact d3 _ _ (by omega) (by omega) (by omega)
       have k4:C2 (arrOf t) (arrOf (setArr t3 (mirror (arrOf t3) lo (lo+x) ((lo+x - lo)/2)))) lo (lo+nrem):=k3.trans (aa3 hz3 (dr9 _) (by omega));have p4:pendingOf (setArr t3 (mirror (arrOf t3) lo (lo+x) ((lo+x - lo)/2)))=pendingOf t:=p3;generalize setArr t3 (mirror (arrOf t3) lo (lo+x) ((lo+x - lo)/2))=t4 at B4 u4 k4 p4 ⊢;refine wpS_bind (wpS_mono (wpS_forRange (I:=fun y c t'=>t'=t4/\c=(none,y)/\Up rk (arrOf t4) lo (lo+y)) (Q:=fun c t'=>t'=t4/\∃y,c=(none,y)/\x<=y/\y<=nrem/\Up rk (arrOf t4) lo (lo+y)) ?step3 ?fin3 ⟨rfl,rfl,u4⟩) ?post3)
       case fin3=>
         rintro c t' ⟨rfl,rfl,v⟩;rw[show max x nrem=nrem by omega] at v ⊢;exact ⟨rfl,nrem,rfl,xn,dr9 _,v⟩
       case step3=>
         rintro y c t' y1 yn ⟨rfl,rfl,v⟩
         dsimp only
         refine wpS_bind (ad5 C B4 (by omega) (by omega) ?_)
         by_cases g:R rk (arrOf t') (lo+y) < R rk (arrOf t') (lo+y - 1)
         · simp only[g,decide_true,if_true];exact wpS_pure ⟨rfl,y,rfl,y1,by omega,v⟩
         · simp only[g,decide_false,dz3,if_false];exact wpS_pure ⟨rfl,rfl,cn0 v (by omega) g⟩
       case post3=>
         rintro c t' ⟨rfl,y,rfl,y1,yn,v⟩;exact wpS_pure ⟨y,rfl,B4,by omega,yn,v,k4,p4⟩
end
end TS
namespace TS
open PySem PyProof.Rows
def gal:Bool->Keyed->Array Keyed->Nat->Nat->Nat->StateT SortSt Sem (Option Nat):=sortPriv%PySem.Builtin.gallop
section
variable {prog:Program} {w:World} {A:Around} {E:Value->Shared->Prop} {s:Shared}
variable {rk:Keyed->Nat} {a0:Array Keyed} {κ:SortKind}
def D1 (rk:Keyed->Nat)(left:Bool)(key:Keyed)(arr:Array Keyed)(base i:Nat):Bool:=if left then decide (R rk arr (base+i) < rk key) else !decide (rk key < R rk arr (base+i))
theorem S1 {left:Bool}{key:Keyed}{arr:Array Keyed}{base n i j:Nat}(u:Up rk arr base (base+n))(h1:i<=j)(h2:j < n)(h:D1 rk left key arr base j=true):D1 rk left key arr base i=true:=by
 have:=u (base+i) (base+j) (by omega) (by omega) (by omega);unfold D1 at h ⊢;cases left
 · simp at h ⊢;omega
 · simp at h ⊢;omega
theorem B8 {arr:Array Keyed}{i:Nat}{st:SortSt}{Q:Keyed->SortSt->Prop}{p:Keyed}(h:arr[i]? =some p)(q:Q p st):wpS (model prog w) A E s (elem' arr i) Q st:=by
 rw[elem'_eq,h];exact wpS_pure q
def In0 (a0 arr:Array Keyed):Prop:=∀x∈arr.toList,x∈a0.toList
theorem In0.at {arr:Array Keyed}(h:In0 a0 arr){i:Nat}(hi:i < arr.size):∃p,arr[i]? =some p/\p∈a0.toList:=⟨arr[i],getElem?_pos _ i hi,h _ (by simp)⟩
theorem G9 {arr:Array Keyed}{i:Nat}{p:Keyed}(h:arr[i]? =some p):R rk arr i=rk p:=by unfold R;rw[h]
theorem aj7 {st:SortSt}{left:Bool}{key:Keyed}{arr:Array Keyed}{base n hint:Nat}{Q:Option Nat->SortSt->Prop}(C:Cm prog w A s κ rk a0)(hk:kindOf st=κ)(ia:In0 a0 arr)(ik:key∈a0.toList)(hz:base+n<=arr.size)(hh:hint < n)
   (u:Up rk arr base (base+n)) (h:∀k,k<=n->(∀i,i < k->D1 rk left key arr base i=true)->(∀i,k<=i->i < n->D1 rk left key arr base i=false)->Q (some k) st):wpS (model prog w) A E s (gal left key arr base n hint) Q st:=by
 have by0:∀(i:Nat) (Q':Option Bool->SortSt->Prop),i < n->Q' (some (D1 rk left key arr base i)) st->wpS (model prog w) A E s (do let x <-elem' arr (base+i);if left then lt' x key else return (<-lt' key x).map (!·)) Q' st:=by
   intro i Q' hi q;obtain ⟨p,e,m⟩:=ia.at (show base+i < arr.size by omega);refine wpS_bind (B8 e ?_);unfold D1 at q;rw[G9 e] at q
   cases left with
   |true=>
    rw[if_pos rfl] at q ⊢;exact bd4 C hk m ik q
   |false=>
    rw[if_neg (by decide)] at q ⊢;exact wpS_bind (bd4 C hk ik m (wpS_pure q))
 refine wpS_bind (by0 hint _ hh ?_)
 cases hr:D1 rk left key arr base hint with
 |true=>
  dsimp only
  rw[if_pos rfl]
  refine wpS_bind (wpS_mono (wpS_forRange (I:=fun x c t=>t=st/\∃l o,c=(none,l,o)/\l < o/\l < n - hint/\x+1<=o/\D1 rk left key arr base (hint+l)=true)
    (Q:=fun c t=>t=st/\∃l o,c=(none,l,o)/\l < o/\l < n - hint/\D1 rk left key arr base (hint+l)=true/\(n - hint<=o\/D1 rk left key arr base (hint+o)=false)) ?step ?fin ⟨rfl,0,1,rfl,by omega,by omega,by omega,hr⟩) ?post)
  case fin=>
    rintro c t ⟨rfl,l,o,rfl,a1,a2,a3,a4⟩;exact ⟨rfl,l,o,rfl,a1,a2,a4,.inl (by omega)⟩
  case step=>
    rintro x c t _ xn ⟨rfl,l,o,rfl,a1,a2,a3,a4⟩
    dsimp only
    by_cases z:o≥n - hint
    · rw[if_pos z];exact wpS_pure ⟨rfl,l,o,rfl,a1,a2,a4,.inl z⟩
    · rw[if_neg z];refine wpS_bind (by0 (hint+o) _ (by omega) ?_)
      cases y:D1 rk left key arr base (hint+o) with
      |true=>
       dsimp only
       rw[if_neg (by decide)];exact wpS_pure ⟨rfl,_,_,rfl,by omega,by omega,by omega,y⟩
      |false=>
       dsimp only
       rw[if_pos (by decide)];exact wpS_pure ⟨rfl,l,o,rfl,a1,a2,a4,.inr y⟩
  case post=>
    rintro c t ⟨ht,l,o,rfl,a1,a2,a3,a4⟩;obtain rfl:=ht.symm
    dsimp only
    have le1:hint+l+1<=hint+min o (n - hint):=by omega
    have le2:hint+min o (n - hint)<=n:=by omega
    have b1:∀i,i < hint+l+1->D1 rk left key arr base i=true:=fun i h1=>S1 u (show i<=hint+l by omega) (by omega) a3
    have b2:∀i,hint+min o (n - hint)<=i->i < n->D1 rk left key arr base i=false:=fun i h1 h2=>by
      rcases a4 with a4|a4
      · omega
      · cases y':D1 rk left key arr base i with
        |false=>rfl
        |true=>rw[S1 u (show hint+o<=i by omega) h2 y'] at a4;cases a4
    refine wpS_bind (wpS_mono (wpS_forRange (I:=fun x c t=>t=st/\∃lo hi,c=(none,lo,hi)/\lo<=hi/\hi<=n/\hi - lo<=n - x/\(∀i,i < lo->D1 rk left key arr base i=true)/\(∀i,hi<=i->i < n->D1 rk left key arr base i=false))
      (Q:=fun c t=>t=st/\∃lo hi,c=(none,lo,hi)/\hi<=n/\(∀i,i < hi->D1 rk left key arr base i=true)/\(∀i,hi<=i->i < n->D1 rk left key arr base i=false)) ?stepB ?finB ⟨rfl,_,_,rfl,le1,le2,by omega,b1,b2⟩) ?postB)
    case finB=>
      rintro c t ⟨rfl,lo,hi,rfl,a1,a2,a3,a4,a5⟩;rw[show lo=hi by omega] at a4;exact ⟨rfl,lo,hi,rfl,a2,a4,a5⟩
    case stepB=>
      rintro x c t _ xn ⟨rfl,lo,hi,rfl,a1,a2,a3,a4,a5⟩
      dsimp only
      by_cases z:lo≥hi
      · rw[if_pos z];rw[show lo=hi by omega] at a4;exact wpS_pure ⟨rfl,lo,hi,rfl,a2,a4,a5⟩
      · rw[if_neg z];refine wpS_bind (by0 (lo+(hi - lo)/2) _ (by omega) ?_)
        cases y:D1 rk left key arr base (lo+(hi - lo)/2) with
        |true=>
         dsimp only
         rw[if_pos rfl];exact wpS_pure ⟨rfl,_,_,rfl,by omega,a2,by omega,fun i h1=>S1 u (show i<=lo+(hi - lo)/2 by omega) (by omega) y,a5⟩
        |false=>
         dsimp only
         rw[if_neg (by decide)];refine wpS_pure ⟨rfl,_,_,rfl,by omega,by omega,by omega,a4,fun i h1 h2=> ?_⟩
         cases y':D1 rk left key arr base i with
         |false=>rfl
         |true=>rw[S1 u h1 h2 y'] at y;cases y
    case postB=>
      rintro c t ⟨rfl,lo,hi,rfl,a1,a2,a3⟩;exact wpS_pure (h hi a1 a2 a3)
 |false=>
  dsimp only
  rw[if_neg (by decide)]
  refine wpS_bind (wpS_mono (wpS_forRange (I:=fun x c t=>t=st/\∃l o,c=(none,l,o)/\l < o/\l < hint+1/\x+1<=o/\D1 rk left key arr base (hint - l)=false)
    (Q:=fun c t=>t=st/\∃l o,c=(none,l,o)/\l < o/\l < hint+1/\D1 rk left key arr base (hint - l)=false/\(hint+1<=o\/D1 rk left key arr base (hint - o)=true)) ?step ?fin ⟨rfl,0,1,rfl,by omega,by omega,by omega,hr⟩) ?post)
  case fin=>
    rintro c t ⟨rfl,l,o,rfl,a1,a2,a3,a4⟩;exact ⟨rfl,l,o,rfl,a1,a2,a4,.inl (by omega)⟩
  case step=>
    rintro x c t _ xn ⟨rfl,l,o,rfl,a1,a2,a3,a4⟩
    dsimp only
    by_cases z:o≥hint+1
    · rw[if_pos z];exact wpS_pure ⟨rfl,l,o,rfl,a1,a2,a4,.inl z⟩
    · rw[if_neg z];refine wpS_bind (by0 (hint - o) _ (by omega) ?_)
      cases y:D1 rk left key arr base (hint - o) with
      |false=>
       dsimp only
       rw[if_neg (by decide)];exact wpS_pure ⟨rfl,_,_,rfl,by omega,by omega,by omega,y⟩
      |true=>
       dsimp only
       rw[if_pos rfl];exact wpS_pure ⟨rfl,l,o,rfl,a1,a2,a4,.inr y⟩
  case post=>
    rintro c t ⟨ht,l,o,rfl,a1,a2,a3,a4⟩;obtain rfl:=ht.symm
    dsimp only
    have le1:hint+1 - min o (hint+1)<=hint - l:=by omega
    have le2:hint - l<=n:=by omega
    have b1:∀i,i < hint+1 - min o (hint+1)->D1 rk left key arr base i=true:=fun i h1=>by
      rcases a4 with a4|a4
      · omega
      · exact S1 u (show i<=hint - o by omega) (by omega) a4
    have b2:∀i,hint - l<=i->i < n->D1 rk left key arr base i=false:=fun i h1 h2=>by
      cases y':D1 rk left key arr base i with
      |false=>rfl
      |true=>rw[S1 u h1 h2 y'] at a3;cases a3
    refine wpS_bind (wpS_mono (wpS_forRange (I:=fun x c t=>t=st/\∃lo hi,c=(none,lo,hi)/\lo<=hi/\hi<=n/\hi - lo<=n - x/\(∀i,i < lo->D1 rk left key arr base i=true)/\(∀i,hi<=i->i < n->D1 rk left key arr base i=false))
      (Q:=fun c t=>t=st/\∃lo hi,c=(none,lo,hi)/\hi<=n/\(∀i,i < hi->D1 rk left key arr base i=true)/\(∀i,hi<=i->i < n->D1 rk left key arr base i=false)) ?stepB ?finB ⟨rfl,_,_,rfl,le1,le2,by omega,b1,b2⟩) ?postB)
    case finB=>
      rintro c t ⟨rfl,lo,hi,rfl,a1,a2,a3,a4,a5⟩;rw[show lo=hi by omega] at a4;exact ⟨rfl,lo,hi,rfl,a2,a4,a5⟩
    case stepB=>
      rintro x c t _ xn ⟨rfl,lo,hi,rfl,a1,a2,a3,a4,a5⟩
      dsimp only
      by_cases z:lo≥hi
      · rw[if_pos z];rw[show lo=hi by omega] at a4;exact wpS_pure ⟨rfl,lo,hi,rfl,a2,a4,a5⟩
      · rw[if_neg z];refine wpS_bind (by0 (lo+(hi - lo)/2) _ (by omega) ?_)
        cases y:D1 rk left key arr base (lo+(hi - lo)/2) with
        |true=>
         dsimp only
         rw[if_pos rfl];exact wpS_pure ⟨rfl,_,_,rfl,by omega,a2,by omega,fun i h1=>S1 u (show i<=lo+(hi - lo)/2 by omega) (by omega) y,a5⟩
        |false=>
         dsimp only
         rw[if_neg (by decide)];refine wpS_pure ⟨rfl,_,_,rfl,by omega,by omega,by omega,a4,fun i h1 h2=> ?_⟩
         cases y':D1 rk left key arr base i with
         |false=>rfl
         |true=>rw[S1 u h1 h2 y'] at y;cases y
    case postB=>
      rintro c t ⟨rfl,lo,hi,rfl,a1,a2,a3⟩;exact wpS_pure (h hi a1 a2 a3)
end
end TS
namespace TS
open PySem PyProof.Rows
section
variable {rk:Keyed->Nat}
def Le (rk:Keyed->Nat)(x y:Keyed):Prop:=rk x<=rk y
section
variable {le:Keyed->Keyed->Prop}
def J1 (le:Keyed->Keyed->Prop)(l:List Keyed):Prop:=l.Pairwise le
structure Mi (le:Keyed->Keyed->Prop)(a b out:List Keyed)(i j:Nat):Prop where
 pm:out.Perm (a.take i++b.take j)
 up:J1 le out
 ba:∀x∈out,∀y∈a.drop i,le x y
 bb:∀x∈out,∀y∈b.drop j,le x y
theorem W4 {l m:List Keyed}:J1 le (l++m)↔J1 le l/\J1 le m/\∀x∈l,∀y∈m,le x y:=List.pairwise_append
theorem af3 {l:List Keyed}(h:J1 le l)(i:Nat):J1 le (l.drop i):=List.Pairwise.sublist (List.drop_sublist i l) h
theorem av9 {l:List Keyed}{i:Nat}{x:Keyed}(h:l[i]? =some x):l.drop i=x::l.drop (i+1):=by
 obtain ⟨hi,e⟩:=dr7.mp h;rw[ea3 hi,e]
theorem bh1 {l:List Keyed}{i:Nat}{x:Keyed}(h:l[i]? =some x):l.take (i+1)=l.take i++[x]:=by rw[em9,h];rfl
theorem Z4 (rf:∀x,le x x){l:List Keyed}(s:J1 le l){i:Nat}{x:Keyed}(h:l[i]? =some x):∀y∈l.drop i,le x y:=fun y hy=>by
 have:=af3 s i;rw[av9 h] at this hy
 rcases dt8.mp hy with e|e
 · rw[e];exact rf _
 · exact (ef7.mp this).1 y e
theorem Mi.pushA (rf:∀x,le x x){a b out:List Keyed}{i j:Nat}{x:Keyed}(h:Mi le a b out i j)(sa:J1 le a)(hx:a[i]? =some x)(hb:∀y∈b.drop j,le x y):Mi le a b (out++[x]) (i+1) j:=by
 have da:=av9 hx
 have mx:x∈a.drop i:=by rw[da];exact ds1
 refine ⟨?_,?_,?_,?_⟩
 · rw[bh1 hx,dt5];refine (h.pm.append_right [x]).trans ?_;rw[dt5];exact List.Perm.append_left _ dy5
 · refine W4.mpr ⟨h.up,ef3 _ _,fun y hy z hz=> ?_⟩;rw[ds8.mp hz];exact h.ba y hy x mx
 · intro y hy z hz
   have hz':z∈a.drop i:=by rw[da];exact ds3 _ hz
   rcases dt1.mp hy with e|e
   · exact h.ba y e z hz'
   · rw[ds8.mp e];exact Z4 rf sa hx z hz'
 · intro y hy z hz
   rcases dt1.mp hy with e|e
   · exact h.bb y e z hz
   · rw[ds8.mp e];exact hb z hz
theorem Mi.pushB (rf:∀x,le x x){a b out:List Keyed}{i j:Nat}{x:Keyed}(h:Mi le a b out i j)(sb:J1 le b)(hx:b[j]? =some x)(ha:∀y∈a.drop i,le x y):Mi le a b (out++[x]) i (j+1):=by
 have db:=av9 hx
 have mx:x∈b.drop j:=by rw[db];exact ds1
 refine ⟨?_,?_,?_,?_⟩
 · rw[bh1 hx,<-dt5];exact h.pm.append_right [x]
 · refine W4.mpr ⟨h.up,ef3 _ _,fun y hy z hz=> ?_⟩;rw[ds8.mp hz];exact h.bb y hy x mx
 · intro y hy z hz
   rcases dt1.mp hy with e|e
   · exact h.ba y e z hz
   · rw[ds8.mp e];exact ha z hz
 · intro y hy z hz
   have hz':z∈b.drop j:=by rw[db];exact ds3 _ hz
   rcases dt1.mp hy with e|e
   · exact h.bb y e z hz'
   · rw[ds8.mp e];exact Z4 rf sb hx z hz'
theorem bs7 {l:List Keyed}{i k:Nat}{x:Keyed}(h:l[i+k]? =some x):(l.take (i+(k+1))).drop i=(l.take (i+k)).drop i++[x]:=by
 have hl:=(dr7.mp h).1;rw[show i+(k+1)=(i+k)+1 by omega,bh1 h,ej5 (by rw[dt3];omega)]
theorem Mi.manyA (rf:∀x,le x x){a b out:List Keyed}{i j:Nat}(h:Mi le a b out i j)(sa:J1 le a):∀k,i+k<=a.length->(∀n x,n < k->a[i+n]? =some x->∀y∈b.drop j,le x y)->Mi le a b (out++(a.take (i+k)).drop i) (i+k) j
 |0,_,_=>by rw[eb7,ed6 (by rw[dt3];omega),du0];exact h
 |k+1,hl,hc=>by
  have e:a[i+k]? =some a[i+k]:=dr8 (by omega);rw[bs7 e,<-dt5,show i+(k+1)=i+k+1 by omega];exact (Mi.manyA rf h sa k (by omega) fun n x hn=>hc n x (by omega)).pushA rf sa e (hc k _ (by omega) e)
theorem Mi.manyB (rf:∀x,le x x){a b out:List Keyed}{i j:Nat}(h:Mi le a b out i j)(sb:J1 le b):∀k,j+k<=b.length->(∀n x,n < k->b[j+n]? =some x->∀y∈a.drop i,le x y)->Mi le a b (out++(b.take (j+k)).drop j) i (j+k)
 |0,_,_=>by rw[eb7,ed6 (by rw[dt3];omega),du0];exact h
 |k+1,hl,hc=>by
  have e:b[j+k]? =some b[j+k]:=dr8 (by omega);rw[bs7 e,<-dt5,show j+(k+1)=j+k+1 by omega];exact (Mi.manyB rf h sb k (by omega) fun n x hn=>hc n x (by omega)).pushB rf sb e (hc k _ (by omega) e)
def Mg (le:Keyed->Keyed->Prop)(a b r:List Keyed):Prop:=r.Perm (a++b)/\J1 le r
theorem ar6 (a b out:List Keyed)(i j:Nat)(h:out.Perm (a.take i++b.take j)):(out++a.drop i++b.drop j).Perm (a++b):=by
 have e1:=(h.append_right (a.drop i)).append_right (b.drop j);refine e1.trans ?_
 have e2:((a.take i++b.take j)++a.drop i).Perm (a++b.take j):=by
   rw[dt5];refine (List.Perm.append_left _ dy5).trans ?_;rw[<-dt5,dx0]
 refine (e2.append_right _).trans ?_;rw[dt5,dx0]
theorem Mi.doneB {a b out:List Keyed}{i j:Nat}(h:Mi le a b out i j)(sa:J1 le a)(hj:b.length<=j):Mg le a b (out++a.drop i++b.drop j):=by
 refine ⟨ar6 a b out i j h.pm,?_⟩;rw[ed6 hj,du0];exact W4.mpr ⟨h.up,af3 sa i,h.ba⟩
theorem Mi.doneA {a b out:List Keyed}{i j:Nat}(h:Mi le a b out i j)(sb:J1 le b)(hi:a.length<=i):Mg le a b (out++a.drop i++b.drop j):=by
 refine ⟨ar6 a b out i j h.pm,?_⟩;rw[ed6 hi,du0];exact W4.mpr ⟨h.up,af3 sb j,h.bb⟩
theorem Mi.last {a b out:List Keyed}{i j:Nat}(h:Mi le a b out i j)(sa:J1 le a)(sb:J1 le b)(D7:∀x∈b.drop j,∀y∈a.drop i,le x y):Mg le a b (out++b.drop j++a.drop i):=by
 constructor
 · refine List.Perm.trans ?_ (ar6 a b out i j h.pm);rw[dt5,dt5];exact List.Perm.append_left _ dy5
 · rw[dt5];refine W4.mpr ⟨h.up,W4.mpr ⟨af3 sb j,af3 sa i,D7⟩,fun x hx y hy=> ?_⟩
   rcases dt1.mp hy with e|e
   · exact h.bb x hx y e
   · exact h.ba x hx y e
end
theorem dn0 {xs:Array Keyed}(u:Up rk xs 0 xs.size):J1 (Le rk) xs.toList:=by
 refine du7.mpr fun i j hi hj hij=> ?_
 have:=u i j (du2 _) (by omega) (by simpa using hj);rw[G9 (p:=xs.toList[i]) (by simp),G9 (p:=xs.toList[j]) (by simp)] at this;exact this
theorem ag8 {xs:Array Keyed}(h:J1 (Le rk) xs.toList):Up rk xs 0 xs.size:=fun i j _ hij hj=>by
 rcases eh4 hij with z|z
 · have:=du7.mp h i j (by simp;omega) (by simpa using hj) z;rw[G9 (i:=i) (p:=xs.toList[i]'(by simp;omega)) (by simp),G9 (i:=j) (p:=xs.toList[j]'(by simpa using hj)) (by simp)];exact this
 · rw[z];exact dr9 _
end
end TS
namespace TS
open PySem PyProof.Rows
def mLo:Array Keyed->Array Keyed->StateT SortSt Sem (Array Keyed):=sortPriv%PySem.Builtin.mergeLo
section
variable {prog:Program} {w:World} {A:Around} {E:Value->Shared->Prop} {s:Shared}
variable {rk:Keyed->Nat} {a0:Array Keyed} {κ:SortKind}
structure L3 (st t:SortSt):Prop where
 arr:arrOf t=arrOf st
 pend:pendingOf t=pendingOf st
 kind:kindOf t=kindOf st
 ok:failedOf t=failedOf st
theorem L3.refl (st:SortSt):L3 st st:=⟨rfl,rfl,rfl,rfl⟩
def MQ (rk:Keyed->Nat)(a b:Array Keyed)(st:SortSt)(r:Array Keyed)(t:SortSt):Prop:=Mg (Le rk) a.toList b.toList r.toList/\L3 st t
theorem hv {β γ:Type}{F:γ}{K:γ->StateT SortSt Sem β}{Q:β->SortSt->Prop}{st:SortSt}(h:wpS (model prog w) A E s (K F) Q st):wpS (model prog w) A E s (have x:=F;K x) Q st:=h
theorem C7 {β:Type}{c:Prop}[Decidable c]{m n:StateT SortSt Sem β}{Q:β->SortSt->Prop}{st:SortSt}(h1:c->wpS (model prog w) A E s m Q st)(h2:¬c->wpS (model prog w) A E s n Q st):wpS (model prog w) A E s (if c then m else n) Q st:=by
 split
 · exact h1 ‹_›
 · exact h2 ‹_›
theorem cx5 {β:Type}{c:Prop}[Decidable c]{m n:StateT SortSt Sem β}{Q:β->SortSt->Prop}{st:SortSt}(h2:¬c->wpS (model prog w) A E s n Q st)(h1:c->wpS (model prog w) A E s m Q st):wpS (model prog w) A E s (if c then m else n) Q st:=C7 h1 h2
theorem cn1 {P:Nat->Prop}{T:Prop}(use:(∀g,P g)->T)(h:∀g,P g):T:=use h
theorem S2 {a b:Nat}(h:(a==b)=true):a=b:=by simpa using h
theorem T9 {a b:Nat}(h:¬(a==b)=true):¬a=b:=by simpa using h
theorem Z5 (xs:Array Keyed)(i:Nat):(xs.extract i).toList=xs.toList.drop i:=by rw[Array.toList_extract,ek9,dy4 (by simp)]
theorem T5 (xs:Array Keyed)(i j:Nat):(xs.extract i j).toList=(xs.toList.take j).drop i:=by rw[Array.toList_extract,ek9,List.drop_take]
theorem K6 {xs:Array Keyed}{i:Nat}{x:Keyed}(h:xs[i]? =some x):xs.toList[i]? =some x:=by rw[<-h];simp
theorem dh4 {st:SortSt}{g:Nat}{Q:Unit->SortSt->Prop}(h:Q () (SortSt.mk' (kindOf st) (arrOf st) (pendingOf st) g (failedOf st))):wpS (model prog w) A E s ((sortPriv%PySem.Builtin.setMinGallop) g) Q st:=wpS_modify h
theorem L3.gal {st t:SortSt}(h:L3 st t)(g:Nat):L3 st (SortSt.mk' (kindOf t) (arrOf t) (pendingOf t) g (failedOf t)):=⟨h.arr,h.pend,h.kind,h.ok⟩
theorem ct3 {st0 st:SortSt}{g:Nat}{Q:Unit->SortSt->Prop}(l:L3 st0 st)(h:∀t,L3 st0 t->Q () t):wpS (model prog w) A E s ((sortPriv%PySem.Builtin.setMinGallop) g) Q st:=dh4 (h _ (l.gal g))
theorem dh5 {st:SortSt}{a b:Array Keyed}(C:Cm prog w A s κ rk a0)(hk:kindOf st=κ)(ia:In0 a0 a)(ib:In0 a0 b)(a1:1<=a.size)(b1:1<=b.size)(sa:J1 (Le rk) a.toList)(sb:J1 (Le rk) b.toList)
   (first:∀x,b[0]? =some x->∀y∈a.toList,Le rk x y) (last:∀x∈b.toList,∀y,a[a.size - 1]? =some y->Le rk x y):wpS (model prog w) A E s (mLo a b) (MQ rk a b st) st:=by
 have la:a.toList.length=a.size:=du9;have lb:b.toList.length=b.size:=du9;have ua:=ag8 sa;have ub:=ag8 sb
 have doneB:∀out i j t,Mi (Le rk) a.toList b.toList (dz2 out) i j->L3 st t->b.size<=j->MQ rk a b st (out++a.extract i++b.extract j) t:=fun out i j t m l hj=>by
   refine ⟨?_,l⟩;rw[dx6,dx6,Z5,Z5];exact m.doneB sa (by omega)
 have doneA:∀out i j t,Mi (Le rk) a.toList b.toList (dz2 out) i j->L3 st t->a.size<=i->MQ rk a b st (out++a.extract i++b.extract j) t:=fun out i j t m l hi=>by
   refine ⟨?_,l⟩;rw[dx6,dx6,Z5,Z5];exact m.doneA sb (by omega)
 have lastA:∀out i j t,Mi (Le rk) a.toList b.toList (dz2 out) i j->L3 st t->i+1=a.size->MQ rk a b st (out++b.extract j++a.extract i) t:=fun out i j t m l hi=>by
   refine ⟨?_,l⟩;rw[dx6,dx6,Z5,Z5]
   refine m.last sa sb fun x hx y hy=>last x (ee5 hx) y ?_
   have e:a.toList[i]? =some a.toList[i]:=dr8 (by omega);rw[av9 e,ed6 (by omega)] at hy;rw[ds8.mp hy,show a.size - 1=i by omega,<-dy1];exact e
 have stepB:∀out i j x y,Mi (Le rk) a.toList b.toList (dz2 out) i j->a[i]? =some x->b[j]? =some y->rk y<=rk x->Mi (Le rk) a.toList b.toList (dz2 (out.push y)) i (j+1):=fun out i j x y m hx hy le=>by
   rw[ee3]
   exact m.pushB (fun _=>dr9 _) sb (K6 hy) fun z hz=>dt4 le (Z4 (fun _=>dr9 _) sa (K6 hx) z hz)
 have stepA:∀out i j x y,Mi (Le rk) a.toList b.toList (dz2 out) i j->a[i]? =some x->b[j]? =some y->rk x<=rk y->Mi (Le rk) a.toList b.toList (dz2 (out.push x)) (i+1) j:=fun out i j x y m hx hy le=>by
   rw[ee3]
   exact m.pushA (fun _=>dr9 _) sa (K6 hx) fun z hz=>dt4 le (Z4 (fun _=>dr9 _) sb (K6 hy) z hz)
 refine wpS_bind (wpS_lift (wpAny_rule ⟨rfl,?_⟩));obtain ⟨b0,eb0,mb0⟩:=ib.at (show 0 < b.size by omega);refine wpS_bind (B8 eb0 ?_)
 have m0:Mi (Le rk) a.toList b.toList (dz2 #[b0]) 0 1:=by
   have e:b.toList[0]? =some b0:=K6 eb0;have n:Mi (Le rk) a.toList b.toList [] 0 0:=⟨List.Perm.refl _,List.Pairwise.nil,(fun x h=>by cases h),(fun x h=>by cases h)⟩
   exact n.pushB (fun _=>dr9 _) sb e fun y hy=>first b0 eb0 y hy
 refine hv (hv (hv ?_))
 by_cases z1:1=b.size
 · rw[if_pos (by simpa using z1)];exact wpS_pure (doneB _ _ _ _ m0 (L3.refl st) (by omega))
 rw[if_neg (by simpa using z1)]
 by_cases z2:0+1=a.size
 · rw[if_pos (by simpa using z2)];exact wpS_pure (lastA _ _ _ _ m0 (L3.refl st) z2)
 rw[if_neg (by simpa using z2)];refine wpS_bind (wpS_get ?_)
 refine wpS_bind (wpS_mono (wpS_forRange (I:=fun x c t=>∃out i j g,c=(none,out,i,j,g)/\Mi (Le rk) a.toList b.toList (dz2 out) i j/\i+1 < a.size/\j < b.size/\x<=i+j/\L3 st t)
   (Q:=fun c t=>∃r,c.1=some r/\MQ rk a b st r t) ?step ?fin ⟨_,_,_,_,rfl,m0,by omega,by omega,by omega,L3.refl st⟩) ?post)
 case post=>
   rintro c t ⟨r,hr,q⟩;obtain ⟨c1,c2⟩:=c;cases hr;exact wpS_pure q
 case fin=>
   rintro c t ⟨out,i,j,g,rfl,m,h1,h2,h3,l⟩;omega
 case step=>
   rintro x c t _ xn ⟨out,i,j,g,rfl,m,h1,h2,h3,l⟩
   refine wpS_bind (wpS_mono (wpS_forRange (I:=fun y c t'=>∃out' i' j' p q,c=(none,out',i',j',p,q)/\t'=t/\Mi (Le rk) a.toList b.toList (dz2 out') i' j'/\i'+1 < a.size/\j' < b.size/\i'+j'=i+j+y)
     (Q:=fun c t'=>(∃r,c.1=some r/\MQ rk a b st r t')\/(∃out' i' j' p q,c=(none,out',i',j',p,q)/\t'=t/\Mi (Le rk) a.toList b.toList (dz2 out') i' j'/\i'+1 < a.size/\j' < b.size/\x+1<=i'+j')) ?step2 ?fin2 ⟨_,_,_,_,_,rfl,rfl,m,h1,h2,rfl⟩) ?post2)
   case fin2=>
     rintro c t' ⟨out',i',j',p,q,rfl,rfl,m',k1,k2,k3⟩;omega
   case step2=>
     rintro y c t' _ yn ⟨out',i',j',p,q,rfl,rfl,m',k1,k2,k3⟩;obtain ⟨u,eu,mu⟩:=ia.at (show i' < a.size by omega);obtain ⟨v,ev,mv⟩:=ib.at k2;refine wpS_bind (B8 ev (wpS_bind (B8 eu (wpS_bind (bd4 C (l.kind.trans hk) mv mu ?_)))))
     by_cases d:rk v < rk u
     · rw[decide_eq_true d]
       dsimp only
       rw[if_pos rfl];have m2:=stepB out' i' j' u v m' eu ev (dy8 d);refine wpS_bind (B8 ev ?_)
       by_cases z:j'+1=b.size
       · rw[if_pos (by simpa using z)];exact wpS_pure (.inl ⟨_,rfl,doneB _ _ _ _ m2 l (by omega)⟩)
       · rw[if_neg (by simpa using z)]
         split
         · exact wpS_pure (.inr ⟨_,_,_,_,_,rfl,rfl,m2,k1,by omega,by omega⟩)
         · exact wpS_pure ⟨_,_,_,_,_,rfl,rfl,m2,k1,by omega,by omega⟩
     · rw[decide_eq_false d]
       dsimp only
       rw[if_neg (by decide)];have m2:=stepA out' i' j' u v m' eu ev (by omega);refine wpS_bind (B8 eu ?_)
       by_cases z:i'+1+1=a.size
       · rw[if_pos (by simpa using z)];exact wpS_pure (.inl ⟨_,rfl,lastA _ _ _ _ m2 l z⟩)
       · rw[if_neg (by simpa using z)]
         split
         · exact wpS_pure (.inr ⟨_,_,_,_,_,rfl,rfl,m2,by omega,k2,by omega⟩)
         · exact wpS_pure ⟨_,_,_,_,_,rfl,rfl,m2,by omega,k2,by omega⟩
   case post2=>
     rintro c t' (⟨r,hr,q⟩|⟨out',i',j',p,q,rfl,rfl,m',k1,k2,k3⟩)
     · obtain ⟨c1,c2⟩:=c;cases hr;exact wpS_pure ⟨r,rfl,q⟩
     · refine wpS_bind (wpS_lift (wpAny_rule ⟨rfl,?_⟩))
       refine wpS_bind (wpS_mono (wpS_forRange (I:=fun y c t2=>∃out2 i2 j2 g2 p q,c=(none,out2,i2,j2,g2,p,q)/\L3 st t2/\Mi (Le rk) a.toList b.toList (dz2 out2) i2 j2/\i2+1 < a.size/\j2 < b.size/\x+1<=i2+j2)
         (Q:=fun c t2=>(∃r,c.1=some r/\MQ rk a b st r t2)\/(∃out2 i2 j2 g2 p q,c=(none,out2,i2,j2,g2,p,q)/\L3 st t2/\Mi (Le rk) a.toList b.toList (dz2 out2) i2 j2/\i2+1 < a.size/\j2 < b.size/\x+1<=i2+j2)) ?step3 ?fin3 ⟨_,_,_,_,_,_,rfl,l,m',k1,k2,k3⟩) ?post3)
       case fin3=>
         rintro c t2 h;exact .inr h
       case post3=>
         rintro c t2 (⟨r,hr,q⟩|⟨out2,i2,j2,g2,p,q,rfl,l2,m2,n1,n2,n3⟩)
         · obtain ⟨c1,c2⟩:=c;cases hr;exact wpS_pure ⟨r,rfl,q⟩
         · refine wpS_bind (dh4 ?_);exact wpS_pure ⟨_,_,_,_,rfl,m2,n1,n2,n3,l2.gal _⟩
       case step3=>
         rintro y c t2 _ yn ⟨out2,i2,j2,g2,p,q,rfl,l2,m2,n1,n2,n3⟩;obtain ⟨v,ev,mv⟩:=ib.at n2
         revert g2
         refine cn1 (fun hB g2=>cx5 (fun _=>hB g2) (fun _=>hB (g2 - 1))) ?_;intro gg;refine wpS_bind (ct3 l2 fun t3 l3=> ?_);refine wpS_bind (B8 ev ?_);refine wpS_bind (aj7 (base:=i2) (n:=a.size - i2) (hint:=0) C (l3.kind.trans hk) ia mv (show i2+(a.size - i2)<=a.size by omega) (by omega) (fun x y h1 h2 h3=>ua x y (by omega) h2 (by omega)) fun k kn ka kb=> ?_)
         have mA:∀k',k'<=k->Mi (Le rk) a.toList b.toList (dz2 (out2++a.extract i2 (i2+k'))) (i2+k') j2:=fun k' hk'=>by
           rw[dx6,T5]
           refine m2.manyA (fun _=>dr9 _) sa k' (by omega) fun n x hn hx z hz=> ?_
           have h:=ka n (by omega);unfold D1 at h;rw[if_neg (by decide),G9 (p:=x) (by rw[<-dy1];exact hx)] at h
           have hle:rk x<=rk v:=by simpa using h
           exact dt4 hle (Z4 (fun _=>dr9 _) sb (K6 ev) z hz)
         have gB:i2+k < a.size->rk v < R rk a (i2+k):=fun h=>by
           have h:=kb k (dr9 _) (by omega);unfold D1 at h;rw[if_neg (by decide)] at h
           simpa using h
         have m3:=mA k (dr9 _);refine C7 (fun kz=> ?_) (fun kz=> ?_);refine C7 (fun z=>wpS_pure (.inl ⟨_,rfl,lastA _ _ _ _ m3 l3 (S2 z)⟩)) (fun z1=> ?_);refine C7 (fun z=>wpS_pure (.inl ⟨_,rfl,doneA _ _ _ _ m3 l3 (eg6 (S2 z).symm)⟩)) (fun z2=> ?_);have z1:¬i2+k+1=a.size:=T9 z1;have z2:¬i2+k=a.size:=T9 z2
         have f1:i2+k+1 < a.size:=by omega
         have f2:x+1<=i2+k+j2:=by omega
         have f3:=gB (by omega);generalize out2++a.extract i2 (i2+k)=out3 at m3 ⊢;generalize i2+k=i3 at m3 f1 f2 f3 ⊢
         rotate_left
         have k0:k=0:=by omega
         subst k0
         have e0:out2++a.extract i2 (i2+0)=out2:=by simp<;>omega
         rw[e0,eb7] at m3
         have f1:i2+1 < a.size:=by omega
         have f2:x+1<=i2+j2:=by omega
         have f3:=gB (by omega);rw[eb7] at f3;clear e0;generalize out2=out3 at m3 ⊢;generalize i2=i3 at m3 f1 f2 f3 ⊢
         rotate_left
         all_goals
           obtain ⟨u3,eu3,mu3⟩:=ia.at (show i3 < a.size by omega);rw[G9 eu3] at f3;refine wpS_bind (B8 ev ?_);have m4:=stepB out3 i3 j2 u3 v m3 eu3 ev (dy8 f3);refine C7 (fun z=>wpS_pure (.inl ⟨_,rfl,doneB _ _ _ _ m4 l3 (eg6 (S2 z).symm)⟩)) (fun z3=> ?_);have z3:¬j2+1=b.size:=T9 z3;refine wpS_bind (B8 eu3 ?_);refine wpS_bind (aj7 (base:=j2+1) (n:=b.size - (j2+1)) (hint:=0) C (l3.kind.trans hk) ib mu3 (show j2+1+(b.size - (j2+1))<=b.size by omega) (by omega) (fun x y h1 h2 h3=>ub x y (by omega) h2 (by omega)) fun k' kn' ka' kb'=> ?_)
           have m5:Mi (Le rk) a.toList b.toList (dz2 (out3.push v++b.extract (j2+1) (j2+1+k'))) i3 (j2+1+k'):=by
             rw[dx6,T5]
             refine m4.manyB (fun _=>dr9 _) sb k' (by omega) fun n x hn hx z hz=> ?_
             have h:=ka' n hn;unfold D1 at h;rw[if_pos rfl,G9 (p:=x) (by rw[<-dy1];exact hx)] at h
             have hle:rk x < rk u3:=by simpa using h
             exact dt4 (dy8 hle) (Z4 (fun _=>dr9 _) sa (K6 eu3) z hz)
           have gA:j2+1+k' < b.size->rk u3<=R rk b (j2+1+k'):=fun h=>by
             have h:=kb' k' (dr9 _) (by omega);unfold D1 at h;rw[if_pos rfl] at h
             simpa using h
           refine C7 (fun kz'=> ?_) (fun kz'=> ?_);refine C7 (fun z=>wpS_pure (.inl ⟨_,rfl,doneB _ _ _ _ m5 l3 (eg6 (S2 z).symm)⟩)) (fun z4=> ?_);have z4:¬j2+1+k'=b.size:=T9 z4
           have f4:j2+1+k' < b.size:=by omega
           have f5:x+1<=i3+(j2+1+k'):=by omega
           have f6:=gA f4;generalize out3.push v++b.extract (j2+1) (j2+1+k')=out4 at m5 ⊢;generalize j2+1+k'=j4 at m5 f4 f5 f6 ⊢
           rotate_left
           have k0:k'=0:=by omega
           subst k0
           have e0:out3.push v++b.extract (j2+1) (j2+1+0)=out3.push v:=by simp<;>omega
           rw[e0,eb7] at m5
           have f4:j2+1 < b.size:=by omega
           have f5:x+1<=i3+(j2+1):=by omega
           have f6:=gA (by omega);rw[eb7] at f6;clear e0;generalize out3.push v=out4 at m5 ⊢;generalize j2+1=j4 at m5 f4 f5 f6 ⊢
           rotate_left
           all_goals
             obtain ⟨v4,ev4,mv4⟩:=ib.at f4;rw[G9 ev4] at f6;have m6:=stepA out4 i3 j4 u3 v4 m5 eu3 ev4 f6;refine wpS_bind (B8 eu3 ?_);refine C7 (fun z=>wpS_pure (.inl ⟨_,rfl,lastA _ _ _ _ m6 l3 (S2 z)⟩)) (fun z5=> ?_);have z5:¬i3+1+1=a.size:=T9 z5;refine C7 (fun _=> ?_) (fun _=> ?_)
             · exact wpS_pure (.inr ⟨out4.push u3,i3+1,j4,_,_,_,rfl,l3,m6,by omega,f4,by omega⟩)
             · exact wpS_pure ⟨out4.push u3,i3+1,j4,_,_,_,rfl,l3,m6,by omega,f4,by omega⟩
end
end TS
namespace TS
open PySem PyProof.Rows
def mHi:Array Keyed->Array Keyed->StateT SortSt Sem (Array Keyed):=sortPriv%PySem.Builtin.mergeHi
def Ge (rk:Keyed->Nat)(x y:Keyed):Prop:=rk y<=rk x
theorem W5 {rk:Keyed->Nat}{l:List Keyed}(h:J1 (Le rk) l):J1 (Ge rk) l.reverse:=List.pairwise_reverse.mpr h
theorem cn2 {rk:Keyed->Nat}{a b r:List Keyed}(h:Mg (Ge rk) b.reverse a.reverse r.reverse):Mg (Le rk) a b r:=by
 obtain ⟨p,u⟩:=h;refine ⟨?_,List.pairwise_reverse.mp u⟩
 have e:b.reverse++a.reverse=(a++b).reverse:=by rw[ee9]
 rw[e] at p;exact (List.reverse_perm r).symm.trans (p.trans (List.reverse_perm _))
theorem M3 {l:List Keyed}{n:Nat}(h:n<=l.length):l.reverse.drop (l.length - n)=(l.take n).reverse:=by
 rw[List.drop_reverse];congr 2;omega
theorem cb0 {l:List Keyed}{n:Nat}{x:Keyed}(h1:1<=n)(h:l[n - 1]? =some x):l.reverse[l.length - n]? =some x:=by
 have hl:=(dr7.mp h).1;rw[ei8 (by omega),<-h]
 congr 1
 omega
theorem cb1 {l:List Keyed}{m n:Nat}(h1:m<=n)(h:n<=l.length):(l.reverse.take (l.length - n+(n - m))).drop (l.length - n)=((l.take n).drop m).reverse:=by
 rw[List.drop_take,M3 h,Nat.add_sub_cancel_left,List.take_reverse,dt3]
 congr 2
 omega
theorem aj8 {rk:Keyed->Nat}{l:List Keyed}{n:Nat}{x:Keyed}(s:J1 (Le rk) l)(h1:1<=n)(h:l[n - 1]? =some x):∀y∈l.take n,rk y<=rk x:=fun y hy=>by
 obtain ⟨hl,e⟩:=dr7.mp h;obtain ⟨i,hi⟩:=dt7.mp hy;have hil:=(dr7.mp hi).1;rw[dt3] at hil;rw[dx1 (by omega),dr8 (by omega)] at hi;have ey:=Option.some.inj hi
 rcases eh4 (show i<=n - 1 by omega) with z|z
 · have:=du7.mp s i (n - 1) (by omega) hl z;rw[ey,e] at this;exact this
 · subst z;rw[<-ey,e];exact dr9 _
section
variable {prog:Program} {w:World} {A:Around} {E:Value->Shared->Prop} {s:Shared}
variable {rk:Keyed->Nat} {a0:Array Keyed} {κ:SortKind}
def Mh (rk:Keyed->Nat)(a b out:Array Keyed)(na nb:Nat):Prop:=na<=a.size/\nb<=b.size/\Mi (Ge rk) b.toList.reverse a.toList.reverse out.toList (b.size - nb) (a.size - na)
theorem Mh.pushB {a b out:Array Keyed}{na nb:Nat}{x:Keyed}(h:Mh rk a b out na nb)(sb:J1 (Le rk) b.toList)(n1:1<=nb)(hx:b[nb - 1]? =some x)(ha:∀y∈a.toList.take na,rk y<=rk x):Mh rk a b (out.push x) na (nb - 1):=by
 obtain ⟨h1,h2,m⟩:=h;refine ⟨h1,by omega,?_⟩;have lb:b.toList.length=b.size:=du9;have la:a.toList.length=a.size:=du9;rw[ee3,show b.size - (nb - 1)=b.size - nb+1 by omega]
 refine m.pushA (fun _=>dr9 _) (W5 sb) ?_ fun y hy=>ha y ?_
 · rw[<-lb];exact cb0 n1 (K6 hx)
 · rw[<-la,M3 (by omega)] at hy;exact ef0.mp hy
theorem Mh.pushA {a b out:Array Keyed}{na nb:Nat}{x:Keyed}(h:Mh rk a b out na nb)(sa:J1 (Le rk) a.toList)(n1:1<=na)(hx:a[na - 1]? =some x)(hb:∀y∈b.toList.take nb,rk y<=rk x):Mh rk a b (out.push x) (na - 1) nb:=by
 obtain ⟨h1,h2,m⟩:=h;refine ⟨by omega,h2,?_⟩;have lb:b.toList.length=b.size:=du9;have la:a.toList.length=a.size:=du9;rw[ee3,show a.size - (na - 1)=a.size - na+1 by omega]
 refine m.pushB (fun _=>dr9 _) (W5 sa) ?_ fun y hy=>hb y ?_
 · rw[<-la];exact cb0 n1 (K6 hx)
 · rw[<-lb,M3 (by omega)] at hy;exact ef0.mp hy
theorem Mh.manyA {a b out:Array Keyed}{na nb m:Nat}(h:Mh rk a b out na nb)(sa:J1 (Le rk) a.toList)(hm:m<=na)(hc:∀n x,m<=n->n < na->a[n]? =some x->∀y∈b.toList.take nb,rk y<=rk x):Mh rk a b (out++(a.extract m na).reverse) m nb:=by
 obtain ⟨h1,h2,mi⟩:=h;refine ⟨by omega,h2,?_⟩;have lb:b.toList.length=b.size:=du9;have la:a.toList.length=a.size:=du9
 have:=mi.manyB (fun _=>dr9 _) (W5 sa) (na - m) (by rw[eh2];omega) fun n x hn hx y hy=>hc (na - 1 - n) x (by omega) (by omega) ?_ y ?_
 · rw[<-la,cb1 hm (by omega),<-T5,la,show a.size - na+(na - m)=a.size - m by omega] at this;rw[dx6,eg8];exact this
 · rw[ei8 (by omega)] at hx;rw[<-dy1,<-hx]
   congr 1
   omega
 · rw[<-lb,M3 (by omega)] at hy;exact ef0.mp hy
theorem Mh.manyB {a b out:Array Keyed}{na nb m:Nat}(h:Mh rk a b out na nb)(sb:J1 (Le rk) b.toList)(hm:m<=nb)(hc:∀n x,m<=n->n < nb->b[n]? =some x->∀y∈a.toList.take na,rk y<=rk x):Mh rk a b (out++(b.extract m nb).reverse) na m:=by
 obtain ⟨h1,h2,mi⟩:=h;refine ⟨h1,by omega,?_⟩;have lb:b.toList.length=b.size:=du9;have la:a.toList.length=a.size:=du9
 have:=mi.manyA (fun _=>dr9 _) (W5 sb) (nb - m) (by rw[eh2];omega) fun n x hn hx y hy=>hc (nb - 1 - n) x (by omega) (by omega) ?_ y ?_
 · rw[<-lb,cb1 hm (by omega),<-T5,lb,show b.size - nb+(nb - m)=b.size - m by omega] at this;rw[dx6,eg8];exact this
 · rw[ei8 (by omega)] at hx;rw[<-dy1,<-hx]
   congr 1
   omega
 · rw[<-la,M3 (by omega)] at hy;exact ef0.mp hy
theorem am7 (xs:Array Keyed)(j:Nat):(xs.extract 0 j).toList=xs.toList.take j:=by rw[T5,eh8]
theorem Mh.done {a b out:Array Keyed}{na nb:Nat}(h:Mh rk a b out na nb)(sa:J1 (Le rk) a.toList)(sb:J1 (Le rk) b.toList)(z:na=0\/nb=0):Mg (Le rk) a.toList b.toList (a.extract 0 na++b.extract 0 nb++out.reverse).toList:=by
 obtain ⟨h1,h2,m⟩:=h;have lb:b.toList.length=b.size:=du9;have la:a.toList.length=a.size:=du9;refine cn2 ?_
 have e:(a.extract 0 na++b.extract 0 nb++out.reverse).toList.reverse=out.toList++b.toList.reverse.drop (b.size - nb)++a.toList.reverse.drop (a.size - na):=by
   rw[dx6,dx6,eg8,am7,am7,ee9,ee9,List.reverse_reverse,<-la,<-lb,M3 (by omega),M3 (by omega),dt5]
 rw[e]
 rcases z with z|z
 · exact m.doneB (W5 sb) (by rw[eh2];omega)
 · exact m.doneA (W5 sa) (by rw[eh2];omega)
theorem Mh.first {a b out:Array Keyed}{na nb:Nat}(h:Mh rk a b out na nb)(sa:J1 (Le rk) a.toList)(sb:J1 (Le rk) b.toList)(lo:∀x∈a.toList.take na,∀y∈b.toList.take nb,rk y<=rk x):Mg (Le rk) a.toList b.toList (b.extract 0 nb++a.extract 0 na++out.reverse).toList:=by
 obtain ⟨h1,h2,m⟩:=h;have lb:b.toList.length=b.size:=du9;have la:a.toList.length=a.size:=du9;refine cn2 ?_
 have e:(b.extract 0 nb++a.extract 0 na++out.reverse).toList.reverse=out.toList++a.toList.reverse.drop (a.size - na)++b.toList.reverse.drop (b.size - nb):=by
   rw[dx6,dx6,eg8,am7,am7,ee9,ee9,List.reverse_reverse,<-la,<-lb,M3 (by omega),M3 (by omega),dt5]
 rw[e]
 refine m.last (W5 sb) (W5 sa) fun x hx y hy=> ?_
 rw[<-la,M3 (by omega)] at hx;rw[<-lb,M3 (by omega)] at hy;exact lo x (ef0.mp hx) y (ef0.mp hy)
theorem dh6 {st:SortSt}{a b:Array Keyed}(C:Cm prog w A s κ rk a0)(hk:kindOf st=κ)(ia:In0 a0 a)(ib:In0 a0 b)(a1:1<=a.size)(b1:1<=b.size)(sa:J1 (Le rk) a.toList)(sb:J1 (Le rk) b.toList)
   (first:∀x,b[0]? =some x->∀y∈a.toList,Le rk x y) (last:∀x∈b.toList,∀y,a[a.size - 1]? =some y->Le rk x y):wpS (model prog w) A E s (mHi a b) (MQ rk a b st) st:=by
 have la:a.toList.length=a.size:=du9;have lb:b.toList.length=b.size:=du9;have ua:=ag8 sa;have ub:=ag8 sb;refine wpS_bind (wpS_lift (wpAny_rule ⟨rfl,?_⟩));obtain ⟨x0,ex0,mx0⟩:=ia.at (show a.size - 1 < a.size by omega);refine wpS_bind (B8 ex0 ?_)
 have doneM:∀out na nb t,Mh rk a b out na nb->L3 st t->na=0\/nb=0->MQ rk a b st (a.extract 0 na++b.extract 0 nb++Array.reverse out) t:=fun out na nb t m l z=>⟨m.done sa sb z,l⟩
 have firstM:∀out na nb t,Mh rk a b out na nb->L3 st t->nb=1->MQ rk a b st (b.extract 0 nb++a.extract 0 na++Array.reverse out) t:=fun out na nb t m l z=>by
   refine ⟨m.first sa sb fun x hx y hy=> ?_,l⟩;subst z;obtain ⟨b0,eb0,mb0⟩:=ib.at (show 0 < b.size by omega);have:=aj8 sb (dr9 1) (K6 eb0) y hy;exact dt4 this (first b0 eb0 x (dx8 hx))
 have stepA:∀out na nb x y,Mh rk a b out na nb->1<=na->1<=nb->a[na - 1]? =some x->b[nb - 1]? =some y->rk y<=rk x->Mh rk a b (out.push x) (na - 1) nb:=fun out na nb x y m h1 h2 hx hy le=>
   m.pushA sa h1 hx fun z hz=>dt4 (aj8 sb h2 (K6 hy) z hz) le
 have stepB:∀out na nb x y,Mh rk a b out na nb->1<=na->1<=nb->a[na - 1]? =some x->b[nb - 1]? =some y->rk x<=rk y->Mh rk a b (out.push y) na (nb - 1):=fun out na nb x y m h1 h2 hx hy le=>
   m.pushB sb h2 hy fun z hz=>dt4 (aj8 sa h1 (K6 hx) z hz) le
 have m0:Mh rk a b #[x0] (a.size - 1) b.size:=by
   have n:Mh rk a b #[] a.size b.size:=⟨dr9 _,dr9 _,by rw[ej6,ej6];exact ⟨List.Perm.refl _,List.Pairwise.nil,(fun x h=>by cases h),(fun x h=>by cases h)⟩⟩
   exact n.pushA sa a1 ex0 fun y hy=>last y (dx8 hy) x0 ex0
 refine C7 (fun z=>wpS_pure (doneM _ _ _ _ m0 (L3.refl st) (.inl (S2 z)))) (fun z1=> ?_);have z1:¬a.size - 1=0:=T9 z1;refine C7 (fun z=>wpS_pure (firstM _ _ _ _ m0 (L3.refl st) (S2 z))) (fun z2=> ?_);have z2:¬b.size=1:=T9 z2;refine wpS_bind (wpS_get ?_)
 refine wpS_bind (wpS_mono (wpS_forRange (I:=fun x c t=>∃na nb out g,c=(none,na,nb,out,g)/\Mh rk a b out na nb/\1<=na/\2<=nb/\x+na+nb<=a.size+b.size/\L3 st t)
   (Q:=fun c t=>∃r,c.1=some r/\MQ rk a b st r t) ?step ?fin ⟨_,_,_,_,rfl,m0,by omega,by omega,by omega,L3.refl st⟩) ?post)
 case post=>
   rintro c t ⟨r,hr,q⟩;obtain ⟨c1,c2⟩:=c;cases hr;exact wpS_pure q
 case fin=>
   rintro c t ⟨na,nb,out,g,rfl,m,h1,h2,h3,l⟩;omega
 case step=>
   rintro x c t _ xn ⟨na,nb,out,g,rfl,m,h1,h2,h3,l⟩
   refine wpS_bind (wpS_mono (wpS_forRange (I:=fun y c t'=>∃na' nb' out' p q,c=(none,na',nb',out',p,q)/\t'=t/\Mh rk a b out' na' nb'/\1<=na'/\2<=nb'/\na'+nb'+y=na+nb)
     (Q:=fun c t'=>(∃r,c.1=some r/\MQ rk a b st r t')\/(∃na' nb' out' p q,c=(none,na',nb',out',p,q)/\t'=t/\Mh rk a b out' na' nb'/\1<=na'/\2<=nb'/\x+1+na'+nb'<=a.size+b.size)) ?step2 ?fin2 ⟨_,_,_,_,_,rfl,rfl,m,h1,h2,rfl⟩) ?post2)
   case fin2=>
     rintro c t' ⟨na',nb',out',p,q,rfl,rfl,m',k1,k2,k3⟩;omega
   case step2=>
     rintro y c t' _ yn ⟨na',nb',out',p,q,rfl,rfl,m',k1,k2,k3⟩;obtain ⟨u,eu,mu⟩:=ia.at (show na' - 1 < a.size by have:=m'.1;omega);obtain ⟨v,ev,mv⟩:=ib.at (show nb' - 1 < b.size by have:=m'.2.1;omega);refine wpS_bind (B8 ev (wpS_bind (B8 eu (wpS_bind (bd4 C (l.kind.trans hk) mv mu ?_)))))
     by_cases d:rk v < rk u
     · rw[decide_eq_true d];refine C7 (fun _=> ?_) (fun h=>absurd rfl h);have m2:=stepA out' na' nb' u v m' k1 (by omega) eu ev (dy8 d);refine wpS_bind (B8 eu ?_);refine C7 (fun z=>wpS_pure (.inl ⟨_,rfl,doneM _ _ _ _ m2 l (.inl (S2 z))⟩)) (fun z=> ?_);have z:¬na' - 1=0:=T9 z;refine C7 (fun _=> ?_) (fun _=> ?_)
       · exact wpS_pure (.inr ⟨na' - 1,nb',out'.push u,_,_,rfl,rfl,m2,by omega,k2,by omega⟩)
       · exact wpS_pure ⟨na' - 1,nb',out'.push u,_,_,rfl,rfl,m2,by omega,k2,by omega⟩
     · rw[decide_eq_false d];refine C7 (fun h=>absurd h (by decide)) (fun _=> ?_);have m2:=stepB out' na' nb' u v m' k1 (by omega) eu ev (by omega);refine wpS_bind (B8 ev ?_);refine C7 (fun z=>wpS_pure (.inl ⟨_,rfl,firstM _ _ _ _ m2 l (S2 z)⟩)) (fun z=> ?_);have z:¬nb' - 1=1:=T9 z;refine C7 (fun _=> ?_) (fun _=> ?_)
       · exact wpS_pure (.inr ⟨na',nb' - 1,out'.push v,_,_,rfl,rfl,m2,k1,by omega,by omega⟩)
       · exact wpS_pure ⟨na',nb' - 1,out'.push v,_,_,rfl,rfl,m2,k1,by omega,by omega⟩
   case post2=>
     rintro c t' (⟨r,hr,q⟩|⟨na',nb',out',p,q,rfl,rfl,m',k1,k2,k3⟩)
     · obtain ⟨c1,c2⟩:=c;cases hr;exact wpS_pure ⟨r,rfl,q⟩
     · refine wpS_bind (wpS_lift (wpAny_rule ⟨rfl,?_⟩))
       refine wpS_bind (wpS_mono (wpS_forRange (I:=fun y c t2=>∃na2 nb2 out2 g2 p q,c=(none,na2,nb2,out2,g2,p,q)/\L3 st t2/\Mh rk a b out2 na2 nb2/\1<=na2/\2<=nb2/\x+1+na2+nb2<=a.size+b.size)
         (Q:=fun c t2=>(∃r,c.1=some r/\MQ rk a b st r t2)\/(∃na2 nb2 out2 g2 p q,c=(none,na2,nb2,out2,g2,p,q)/\L3 st t2/\Mh rk a b out2 na2 nb2/\1<=na2/\2<=nb2/\x+1+na2+nb2<=a.size+b.size)) ?step3 ?fin3 ⟨_,_,_,_,_,_,rfl,l,m',k1,k2,k3⟩) ?post3)
       case fin3=>
         rintro c t2 h;exact .inr h
       case post3=>
         rintro c t2 (⟨r,hr,q⟩|⟨na2,nb2,out2,g2,p,q,rfl,l2,m2,n1,n2,n3⟩)
         · obtain ⟨c1,c2⟩:=c;cases hr;exact wpS_pure ⟨r,rfl,q⟩
         · refine wpS_bind (ct3 l2 fun t3 l3=> ?_);exact wpS_pure ⟨_,_,_,_,rfl,m2,n1,n2,n3,l3⟩
       case step3=>
         rintro y c t2 _ yn ⟨na2,nb2,out2,g2,p,q,rfl,l2,m2,n1,n2,n3⟩;have q1:=m2.1;have q2:=m2.2.1;obtain ⟨v,ev,mv⟩:=ib.at (show nb2 - 1 < b.size by omega)
         revert g2
         refine cn1 (fun hB g2=>cx5 (fun _=>hB g2) (fun _=>hB (g2 - 1))) ?_;intro gg;refine wpS_bind (ct3 l2 fun t3 l3=> ?_);refine wpS_bind (B8 ev ?_);refine wpS_bind (aj7 (base:=0) (n:=na2) (hint:=na2 - 1) C (l3.kind.trans hk) ia mv (by omega) (by omega) (fun x y h1 h2 h3=>ua x y (by omega) h2 (by omega)) fun k kn ka kb=> ?_)
         have m3:Mh rk a b (out2++(a.extract k na2).reverse) k nb2:=m2.manyA sa kn fun n x h1 h2 hx z hz=>by
           have h:=kb n h1 h2;unfold D1 at h;rw[if_neg (by decide),ef2,G9 hx] at h
           have hle:rk v < rk x:=by simpa using h
           exact dt4 (aj8 sb (by omega) (K6 ev) z hz) (dy8 hle)
         have gA:1<=k->R rk a (k - 1)<=rk v:=fun h=>by
           have h:=ka (k - 1) (by omega);unfold D1 at h;rw[if_neg (by decide),ef2] at h
           simpa using h
         refine C7 (fun kz=> ?_) (fun kz=> ?_);have kz:na2 - k > 0:=kz;refine C7 (fun z=>wpS_pure (.inl ⟨_,rfl,doneM _ _ _ _ m3 l3 (.inl (S2 z))⟩)) (fun z1=> ?_);have z1:¬k=0:=T9 z1
         have f1:1<=k:=by omega
         have f2:x+1+k+nb2<=a.size+b.size:=by omega
         have f3:=gA f1;generalize out2++(a.extract k na2).reverse=out3 at m3 ⊢
         rotate_left
         have kz:¬na2 - k > 0:=kz
         have k0:k=na2:=by omega
         have e0:out2++(a.extract k na2).reverse=out2:=by rw[k0];simp<;>omega
         rw[e0] at m3
         have f1:1<=k:=by omega
         have f2:x+1+k+nb2<=a.size+b.size:=by omega
         have f3:=gA f1;clear e0;subst k0;generalize out2=out3 at m3 ⊢
         rotate_left
         all_goals
           obtain ⟨u3,eu3,mu3⟩:=ia.at (show k - 1 < a.size by omega);rw[G9 eu3] at f3;refine wpS_bind (B8 ev ?_);have m4:=stepB out3 k nb2 u3 v m3 f1 (by omega) eu3 ev f3;refine C7 (fun z=>wpS_pure (.inl ⟨_,rfl,firstM _ _ _ _ m4 l3 (S2 z)⟩)) (fun z3=> ?_);have z3:¬nb2 - 1=1:=T9 z3;refine wpS_bind (B8 eu3 ?_);refine wpS_bind (aj7 (base:=0) (n:=nb2 - 1) (hint:=nb2 - 1 - 1) C (l3.kind.trans hk) ib mu3 (by omega) (by omega) (fun x y h1 h2 h3=>ub x y (by omega) h2 (by omega)) fun k' kn' ka' kb'=> ?_)
           have m5:Mh rk a b (out3.push v++(b.extract k' (nb2 - 1)).reverse) k k':=m4.manyB sb kn' fun n x h1 h2 hx z hz=>by
             have h:=kb' n h1 h2;unfold D1 at h;rw[if_pos rfl,ef2,G9 hx] at h
             have hle:rk u3<=rk x:=by simpa using h
             exact dt4 (aj8 sa f1 (K6 eu3) z hz) hle
           have gB:1<=k'->R rk b (k' - 1) < rk u3:=fun h=>by
             have h:=ka' (k' - 1) (by omega);unfold D1 at h;rw[if_pos rfl,ef2] at h
             simpa using h
           refine C7 (fun kz'=> ?_) (fun kz'=> ?_);have kz':nb2 - 1 - k' > 0:=kz';refine C7 (fun z=>wpS_pure (.inl ⟨_,rfl,firstM _ _ _ _ m5 l3 (S2 z)⟩)) (fun z4=> ?_);have z4:¬k'=1:=T9 z4;refine C7 (fun z=>wpS_pure (.inl ⟨_,rfl,doneM _ _ _ _ m5 l3 (.inr (S2 z))⟩)) (fun z5=> ?_);have z5:¬k'=0:=T9 z5
           have f4:2<=k':=by omega
           have f5:x+1+k+k'<=a.size+b.size:=by omega
           have f6:=gB (by omega);generalize out3.push v++(b.extract k' (nb2 - 1)).reverse=out4 at m5 ⊢
           rotate_left
           have kz':¬nb2 - 1 - k' > 0:=kz'
           have k0':k'=nb2 - 1:=by omega
           have e0:out3.push v++(b.extract k' (nb2 - 1)).reverse=out3.push v:=by rw[k0'];simp<;>omega
           rw[e0] at m5
           have f4:2<=k':=by omega
           have f5:x+1+k+k'<=a.size+b.size:=by omega
           have f6:=gB (by omega);clear e0;generalize out3.push v=out4 at m5 ⊢
           rotate_left
           all_goals
             have q3:=m5.2.1;obtain ⟨v4,ev4,mv4⟩:=ib.at (show k' - 1 < b.size by omega);rw[G9 ev4] at f6;have m6:=stepA out4 k k' u3 v4 m5 f1 (by omega) eu3 ev4 (dy8 f6);refine wpS_bind (B8 eu3 ?_)
             first
               |refine C7 (fun z=>wpS_pure (.inl ⟨_,rfl,doneM _ _ _ _ m6 l3 (.inl (S2 z))⟩)) (fun z6=> ?_)
               |(rw[k0'] at m6;refine C7 (fun z=>wpS_pure (.inl ⟨_,rfl,doneM _ _ _ _ m6 l3 (.inl (S2 z))⟩)) (fun z6=> ?_))
             have z6:¬k - 1=0:=T9 z6;refine C7 (fun _=> ?_) (fun _=> ?_)
             · first
                 |exact wpS_pure (.inr ⟨k - 1,k',out4.push u3,_,_,_,rfl,l3,m6,by omega,f4,by omega⟩)
                 |exact wpS_pure (.inr ⟨k - 1,nb2 - 1,out4.push u3,_,_,_,rfl,l3,m6,by omega,by omega,by omega⟩)
             · first
                 |exact wpS_pure ⟨k - 1,k',out4.push u3,_,_,_,rfl,l3,m6,by omega,f4,by omega⟩
                 |exact wpS_pure ⟨k - 1,nb2 - 1,out4.push u3,_,_,_,rfl,l3,m6,by omega,by omega,by omega⟩
end
end TS
namespace TS
open PySem PyProof.Rows
section
variable {rk:Keyed->Nat}
def J2 (xs:Array Keyed)(lo hi:Nat):List Keyed:=(xs.toList.take hi).drop lo
theorem O0 {xs:Array Keyed}{lo hi:Nat}(h:hi<=xs.size):(J2 xs lo hi).length=hi - lo:=by unfold J2;rw[dv9,dt3];simp;omega
theorem M6 {xs:Array Keyed}{lo hi i:Nat}(hi':lo+i < hi):(J2 xs lo hi)[i]? =xs[lo+i]? :=by
 unfold J2;rw[ec6,dx1 hi',dy1]
theorem aw0 {xs:Array Keyed}{lo hi:Nat}(u:Up rk xs lo hi)(h:hi<=xs.size):J1 (Le rk) (J2 xs lo hi):=by
 refine du7.mpr fun i j h1 h2 hij=> ?_
 have l:=O0 (lo:=lo) h;have e1:(J2 xs lo hi)[i]? =some (J2 xs lo hi)[i]:=dr8 h1;have e2:(J2 xs lo hi)[j]? =some (J2 xs lo hi)[j]:=dr8 h2;rw[M6 (by omega)] at e1 e2;have:=u (lo+i) (lo+j) (by omega) (by omega) (by omega);rw[G9 e1,G9 e2] at this;exact this
theorem dh7 {xs:Array Keyed}{lo hi:Nat}(s:J1 (Le rk) (J2 xs lo hi))(h:hi<=xs.size):Up rk xs lo hi:=fun i j h1 h2 h3=>by
 have l:=O0 (lo:=lo) h
 rcases eh4 h2 with z|z
 · have:=du7.mp s (i - lo) (j - lo) (by omega) (by omega) (by omega);have e1:(J2 xs lo hi)[i - lo]? =some (J2 xs lo hi)[i - lo]:=dr8 (by omega);have e2:(J2 xs lo hi)[j - lo]? =some (J2 xs lo hi)[j - lo]:=dr8 (by omega);rw[M6 (by omega),show lo+(i - lo)=i by omega] at e1;rw[M6 (by omega),show lo+(j - lo)=j by omega] at e2;rw[G9 e1,G9 e2];exact this
 · rw[z];exact dr9 _
theorem Z6 {xs:Array Keyed}{lo hi:Nat}{x:Keyed}(h:hi<=xs.size)(hx:x∈J2 xs lo hi):∃i,lo<=i/\i < hi/\xs[i]? =some x:=by
 obtain ⟨i,hi'⟩:=dt7.mp hx;have l:=O0 (lo:=lo) h;have:=(dr7.mp hi').1;exact ⟨lo+i,by omega,by omega,by rw[<-M6 (hi:=hi) (by omega)];exact hi'⟩
theorem Z7 {xs:Array Keyed}{a b c:Nat}(h1:a<=b)(h2:b<=c)(h:c<=xs.size):J2 xs a b++J2 xs b c=J2 xs a c:=by
 refine dv3 fun i=> ?_
 by_cases z:i < b - a
 · rw[dv0 (by rw[O0 (by omega)];omega),M6 (by omega),M6 (by omega)]
 · rw[dw6 (by rw[O0 (by omega)];omega),O0 (by omega)]
   by_cases y:i < c - a
   · rw[M6 (by omega),M6 (by omega)];congr 1;omega
   · rw[ds7 (by rw[O0 h];omega),ds7 (by rw[O0 h];omega)]
theorem cb2 (xs:Array Keyed):J2 xs 0 xs.size=xs.toList:=by
 unfold J2;rw[eh8,dy4 (by simp)]
def wr (p:Nat)(l:List (Keyed×Nat))(xs:Array Keyed):Array Keyed:=l.foldl (fun a q=>a.setIfInBounds (p+q.2) q.1) xs
theorem aj9 (p:Nat):∀(l:List (Keyed×Nat)) (xs:Array Keyed),(wr p l xs).size=xs.size
 |[],xs=>rfl
 |q::l,xs=>(aj9 p l _).trans (by simp)
theorem bs8 (p:Nat):∀(m:List Keyed) (n:Nat) (xs:Array Keyed),p+n+m.length<=xs.size->∀k,(wr p (m.zipIdx n) xs)[k]? =if p+n<=k/\k < p+n+m.length then m[k - (p+n)]? else xs[k]?
 |[],n,xs,_,k=>by
  show xs[k]? =_;rw[if_neg (by simp)]
 |x::m,n,xs,h,k=>by
  rw[dt9] at h ⊢;show (wr p (m.zipIdx (n+1)) (xs.setIfInBounds (p+n) x))[k]? =_;rw[bs8 p m (n+1) _ (by rw[Array.size_setIfInBounds];omega) k,Array.getElem?_setIfInBounds]
  by_cases z:k=p+n
  · subst z;rw[if_neg (by omega),if_pos rfl,if_pos (by omega),if_pos (by omega),ej6];rfl
  · by_cases y:p+n<=k/\k < p+n+(m.length+1)
    · rw[if_pos (by omega),if_pos y,show k - (p+n)=k - (p+(n+1))+1 by omega];rfl
    · rw[if_neg (by omega),if_neg (by omega),if_neg y]
theorem cn3 {m:List Keyed}{p:Nat}{xs:Array Keyed}(h:p+m.length<=xs.size):J2 (wr p m.zipIdx xs) p (p+m.length)=m:=by
 refine dv3 fun i=> ?_
 by_cases z:i < m.length
 · rw[M6 (by omega),bs8 p m 0 xs h,if_pos (by omega)]
   congr 1;omega
 · rw[ds7 (by rw[O0 (by rw[aj9];omega)];omega),ds7 (by omega)]
theorem cb3 {m:List Keyed}{p:Nat}{xs:Array Keyed}(h:p+m.length<=xs.size):C2 xs (wr p m.zipIdx xs) p (p+m.length):=fun k hk=>by
 rw[bs8 p m 0 xs h,if_neg (by omega)]
theorem am8 {xs ys:Array Keyed}{lo hi a b:Nat}(hz:ys.size=xs.size)(k:C2 xs ys lo hi)(h:b<=lo\/hi<=a)(hb:b<=xs.size):J2 ys a b=J2 xs a b:=by
 refine dv3 fun i=> ?_
 by_cases z:a+i < b
 · rw[M6 z,M6 z];exact k _ (by omega)
 · rw[ds7 (by rw[O0 (by omega)];omega),ds7 (by rw[O0 hb];omega)]
theorem db0 {m:List Keyed}{p:Nat}{xs:Array Keyed}(h:p+m.length<=xs.size)(pm:m.Perm (J2 xs p (p+m.length))):(wr p m.zipIdx xs).Perm xs:=by
 rw[ec0,<-cb2 xs,<-cb2 (wr p m.zipIdx xs),aj9];have hk:=cb3 h;have hs:=aj9 p m.zipIdx xs;rw[<-Z7 (du2 p) (show p<=xs.size by omega) (dr9 _),<-Z7 (show p<=p+m.length by omega) (show p+m.length<=xs.size by omega) (dr9 _)];rw[<-Z7 (xs:=wr p m.zipIdx xs) (du2 p) (show p<=xs.size by omega) (by omega),<-Z7 (xs:=wr p m.zipIdx xs) (show p<=p+m.length by omega) (show p+m.length<=xs.size by omega) (by omega)];rw[am8 hs hk (.inl (dr9 _)) (by omega),am8 hs hk (.inr (dr9 _)) (dr9 _),cn3 h];exact List.Perm.append_left _ (pm.append_right _)
end
end TS
namespace TS
open PySem PyProof.Rows
section
variable {prog:Program} {w:World} {A:Around} {E:Value->Shared->Prop} {s:Shared}
variable {rk:Keyed->Nat} {a0:Array Keyed} {κ:SortKind}
theorem db1 {st:SortSt}(B:Bs a0 κ st)(lo hi:Nat):In0 a0 ((arrOf st).extract lo hi):=fun x hx=>by
 rw[T5] at hx;exact (ec0.mp B.perm).mem_iff.mp (dx8 (ee5 hx))
theorem bh2 {st:SortSt}(B:Bs a0 κ st):In0 a0 (arrOf st):=fun x hx=>(ec0.mp B.perm).mem_iff.mp hx
theorem cb4 {xs:Array Keyed}{lo hi i:Nat}(h:lo+i < hi):(xs.extract lo hi)[i]? =xs[lo+i]? :=by
 rw[<-dy1,T5];exact M6 h
theorem dh8 {st:SortSt}{i sa na nb pw pw2:Nat}{Q:Bool->SortSt->Prop}(C:Cm prog w A s κ rk a0)(B:Bs a0 κ st)(e1:(pendingOf st)[i]? =some (sa,na,pw))(e2:(pendingOf st)[i+1]? =some (sa+na,nb,pw2))(n1:1<=na)(n2:1<=nb)
   (hz:sa+na+nb<=a0.size) (u1:Up rk (arrOf st) sa (sa+na)) (u2:Up rk (arrOf st) (sa+na) (sa+na+nb))
   (h:∀t,Bs a0 κ t->Up rk (arrOf t) sa (sa+na+nb)->C2 (arrOf st) (arrOf t) sa (sa+na+nb)->pendingOf t=((pendingOf st).setIfInBounds i (sa,na+nb,pw)).eraseIdxIfInBounds (i+1)->Q true t):
   wpS (model prog w) A E s (mergeAt' i) Q st:=by
 have hs:=B.size;refine wpS_bind (wpS_get ?_);rw[show (sortPriv%PySem.Builtin.SortState.pending) st=pendingOf st from rfl,e1,e2];refine wpS_bind (wpS_modify (f:=fun _=>setPending st (((pendingOf st).setIfInBounds i (sa,na+nb,pw)).eraseIdxIfInBounds (i+1))) ?_);obtain ⟨pd,hpd⟩:∃pd,pd=((pendingOf st).setIfInBounds i (sa,na+nb,pw)).eraseIdxIfInBounds (i+1):=⟨_,rfl⟩;rw[<-hpd] at h ⊢;have B1:Bs a0 κ (setPending st pd):=⟨B.perm,B.kind,B.ok⟩;obtain ⟨xs,hxs⟩:∃xs,xs=arrOf st:=⟨_,rfl⟩;have In:=bh2 B
 have ext0:=fun lo hi=>db1 B lo hi
 rw[<-hxs] at hs u1 u2 h In ext0
 have hxz:sa+na+nb<=xs.size:=by omega
 obtain ⟨key,ek,mk⟩:=In.at (show sa+na < xs.size by omega)
 have ek':(arrOf st)[sa+na]? =some key:=by rw[<-hxs];exact ek
 refine wpS_bind (B8 ek' ?_);refine wpS_bind (aj7 (left:=false) (arr:=arrOf st) (base:=sa) (n:=na) (hint:=0) C B1.kind (bh2 B) mk (by rw[<-hxs];omega) (by omega) (by rw[<-hxs];exact u1) fun k kn ka kb=> ?_)
 have ka1:∀i,sa<=i->i < sa+k->R rk xs i<=rk key:=fun i h1 h2=>by
   have:=ka (i - sa) (by omega);unfold D1 at this;rw[if_neg (by decide),<-hxs,show sa+(i - sa)=i by omega] at this
   simpa using this
 have kb1:∀i,sa+k<=i->i < sa+na->rk key < R rk xs i:=fun i h1 h2=>by
   have:=kb (i - sa) (by omega) (by omega);unfold D1 at this;rw[if_neg (by decide),<-hxs,show sa+(i - sa)=i by omega] at this
   simpa using this
 have rkey:R rk xs (sa+na)=rk key:=G9 ek
 have joined:(∀i,sa<=i->i < sa+na->∀j,sa+na<=j->j < sa+na+nb->R rk xs i<=R rk xs j)->Up rk xs sa (sa+na+nb):=fun g i j h1 h2 h3=>by
   by_cases y:j < sa+na
   · exact u1 i j h1 h2 y
   · by_cases z:i < sa+na
     · exact g i h1 z j (by omega) h3
     · exact u2 i j (by omega) h2 h3
 refine C7 (fun z=> ?_) (fun z=> ?_)
 · have z:na - k=0:=S2 z;refine wpS_pure (h _ B1 ?_ (by rw[hxs];exact C2.refl _ _ _) rfl);show Up rk (arrOf st) _ _;rw[<-hxs]
   refine joined fun i h1 h2 j h3 h4=> ?_
   have a1:=ka1 i h1 (by omega);have a2:=u2 (sa+na) j (dr9 _) h3 h4;omega
 have z:¬na - k=0:=T9 z
 have ep:sa+k+(na - k) - 1=sa+na - 1:=by omega
 obtain ⟨key2,ek2,mk2⟩:=In.at (show sa+na - 1 < xs.size by omega)
 have ek2':(arrOf st)[sa+k+(na - k) - 1]? =some key2:=by rw[ep,<-hxs];exact ek2
 have rkey2:R rk xs (sa+na - 1)=rk key2:=G9 ek2;refine wpS_bind (B8 ek2' ?_);refine wpS_bind (aj7 (left:=true) (arr:=arrOf st) (base:=sa+na) (n:=nb) (hint:=nb - 1) C B1.kind (bh2 B) mk2 (by rw[<-hxs];omega) (by omega) (by rw[<-hxs];exact u2) fun k' kn' ka' kb'=> ?_)
 have ka2:∀i,sa+na<=i->i < sa+na+k'->R rk xs i < rk key2:=fun i h1 h2=>by
   have:=ka' (i - (sa+na)) (by omega);unfold D1 at this;rw[if_pos rfl,<-hxs,show sa+na+(i - (sa+na))=i by omega] at this
   simpa using this
 have kb2:∀i,sa+na+k'<=i->i < sa+na+nb->rk key2<=R rk xs i:=fun i h1 h2=>by
   have:=kb' (i - (sa+na)) (by omega) (by omega);unfold D1 at this;rw[if_pos rfl,<-hxs,show sa+na+(i - (sa+na))=i by omega] at this
   simpa using this
 refine C7 (fun z'=> ?_) (fun z'=> ?_)
 · have z':k'=0:=S2 z';refine wpS_pure (h _ B1 ?_ (by rw[hxs];exact C2.refl _ _ _) rfl);show Up rk (arrOf st) _ _;rw[<-hxs]
   refine joined fun i h1 h2 j h3 h4=> ?_
   have a1:=kb2 j (by omega) h4;have a2:=u1 i (sa+na - 1) h1 (by omega) (by omega);omega
 have z':¬k'=0:=T9 z';have xl:(xs.extract (sa+k) (sa+na)).toList=J2 xs (sa+k) (sa+na):=T5 _ _ _;have yl:(xs.extract (sa+na) (sa+na+k')).toList=J2 xs (sa+na) (sa+na+k'):=T5 _ _ _
 have xz:(xs.extract (sa+k) (sa+na)).size=na - k:=by rw[Array.size_extract];omega
 have yz:(xs.extract (sa+na) (sa+na+k')).size=k':=by rw[Array.size_extract];omega
 have sx:J1 (Le rk) (xs.extract (sa+k) (sa+na)).toList:=by rw[xl];exact aw0 (fun i j h1 h2 h3=>u1 i j (by omega) h2 h3) (by omega)
 have sy:J1 (Le rk) (xs.extract (sa+na) (sa+na+k')).toList:=by rw[yl];exact aw0 (fun i j h1 h2 h3=>u2 i j h1 h2 (by omega)) (by omega)
 have fx:∀x,(xs.extract (sa+na) (sa+na+k'))[0]? =some x->∀y∈(xs.extract (sa+k) (sa+na)).toList,Le rk x y:=fun x hx y hy=>by
   rw[cb4 (by omega),eb7,ek] at hx;rw[xl] at hy;obtain ⟨i,h1,h2,h3⟩:=Z6 (by omega) hy;have:=kb1 i h1 h2;rw[G9 h3] at this;rw[<-Option.some.inj hx];exact dy8 this
 have ly:∀x∈(xs.extract (sa+na) (sa+na+k')).toList,∀y,(xs.extract (sa+k) (sa+na))[(xs.extract (sa+k) (sa+na)).size - 1]? =some y->Le rk x y:=fun x hx y hy=>by
   rw[xz,cb4 (by omega),show sa+k+(na - k - 1)=sa+na - 1 by omega,ek2] at hy;rw[yl] at hx;obtain ⟨i,h1,h2,h3⟩:=Z6 (by omega) hx;have:=ka2 i h1 h2;rw[G9 h3] at this;rw[<-Option.some.inj hy];exact dy8 this
 have fin:∀m t,MQ rk (xs.extract (sa+k) (sa+na)) (xs.extract (sa+na) (sa+na+k')) (setPending st pd) m t->Q true (setArr t (wr (sa+k) m.toList.zipIdx (arrOf t)))/\failedOf t=none:=by
   rintro m t ⟨⟨pm,sm⟩,l⟩
   have lm:m.toList.length=na - k+k':=by rw[pm.length_eq,ds6,du9,du9,xz,yz]
   have ea:arrOf t=xs:=by rw[l.arr,hxs]
   have hle:sa+k+m.toList.length<=xs.size:=by omega
   have esg:J2 xs (sa+k) (sa+k+m.toList.length)=J2 xs (sa+k) (sa+na)++J2 xs (sa+na) (sa+na+k'):=by
     rw[Z7 (by omega) (by omega) (by omega)];congr 1;omega
   have pm':m.toList.Perm (J2 xs (sa+k) (sa+k+m.toList.length)):=by rw[esg,<-xl,<-yl];exact pm
   have kw:=cb3 hle;have zw:=aj9 (sa+k) m.toList.zipIdx xs;refine ⟨h _ ⟨?_,l.kind.trans B1.kind,l.ok.trans B1.ok⟩ ?_ ?_ l.pend,l.ok.trans B1.ok⟩
   · show (wr (sa+k) m.toList.zipIdx (arrOf t)).Perm a0;rw[ea];refine (db0 hle pm').trans ?_;rw[hxs];exact B.perm
   · show Up rk (wr (sa+k) m.toList.zipIdx (arrOf t)) sa (sa+na+nb);rw[ea];refine dh7 ?_ (by omega)
     rw[<-Z7 (show sa<=sa+k by omega) (show sa+k<=sa+na+nb by omega) (by omega),<-Z7 (show sa+k<=sa+k+m.toList.length by omega) (show sa+k+m.toList.length<=sa+na+nb by omega) (by omega),cn3 hle,
       am8 zw kw (.inl (dr9 _)) (by omega),am8 zw kw (.inr (dr9 _)) (by omega)]
     have mm:∀x∈m.toList,(∃i,sa+k<=i/\i < sa+na/\xs[i]? =some x)\/(∃i,sa+na<=i/\i < sa+na+k'/\xs[i]? =some x):=fun x hx=>by
       have:=pm.mem_iff.mp hx;rw[xl,yl] at this
       rcases dt1.mp this with e|e
       · exact .inl (Z6 (by omega) e)
       · exact .inr (Z6 (by omega) e)
     refine W4.mpr ⟨aw0 (fun i j h1 h2 h3=>u1 i j h1 h2 (by omega)) (by omega),W4.mpr ⟨sm,aw0 (fun i j h1 h2 h3=>u2 i j (by omega) h2 h3) (by omega),fun x hx y hy=> ?_⟩,fun x hx y hy=> ?_⟩
     · obtain ⟨j,j1,j2,j3⟩:=Z6 (by omega) hy;have b2:=kb2 j (by omega) j2;rw[G9 j3] at b2
       rcases mm x hx with ⟨i,i1,i2,i3⟩|⟨i,i1,i2,i3⟩
       · have b1:=u1 i (sa+na - 1) (by omega) (by omega) (by omega);rw[G9 i3,rkey2] at b1;exact dt4 b1 b2
       · have b1:=ka2 i i1 i2;rw[G9 i3] at b1;show rk x<=rk y;omega
     · obtain ⟨i,i1,i2,i3⟩:=Z6 (by omega) hx;have b1:=ka1 i i1 i2;rw[G9 i3] at b1;show rk x<=rk y
       rcases dt1.mp hy with e|e
       · rcases mm y e with ⟨j,j1,j2,j3⟩|⟨j,j1,j2,j3⟩
         · have b2:=kb1 j j1 j2;rw[G9 j3] at b2;omega
         · have b2:=u2 (sa+na) j (dr9 _) j1 (by omega);rw[G9 j3,rkey] at b2;omega
       · obtain ⟨j,j1,j2,j3⟩:=Z6 (by omega) e;have b2:=u2 (sa+na) j (dr9 _) (by omega) j2;rw[G9 j3,rkey] at b2;omega
   · show C2 xs (wr (sa+k) m.toList.zipIdx (arrOf t)) _ _;rw[ea];exact kw.wide (by omega) (by omega)
 have ix:=ext0 (sa+k) (sa+na);have iy:=ext0 (sa+na) (sa+na+k');have k1:kindOf (setPending st pd)=κ:=B1.kind
 have end_:∀m t,MQ rk (xs.extract (sa+k) (sa+na)) (xs.extract (sa+na) (sa+na+k')) (setPending st pd) m t->Q (failedOf (setArr t (wr (sa+k) m.toList.zipIdx (arrOf t)))).isNone (setArr t (wr (sa+k) m.toList.zipIdx (arrOf t))):=fun m t q=>by
   obtain ⟨f1,f2⟩:=fin m t q;show Q (failedOf t).isNone _;rw[f2];exact f1
 rw[hxs] at ix iy sx sy fx ly end_ xz yz
 have g1:1<=((arrOf st).extract (sa+k) (sa+na)).size:=by rw[xz];omega
 have g2:1<=((arrOf st).extract (sa+na) (sa+na+k')).size:=by rw[yz];omega
 refine C7 (fun _=> ?_) (fun _=> ?_)
 · refine wpS_bind (wpS_mono (dh5 C k1 ix iy g1 g2 sx sy fx ly) fun m t q=> ?_);exact wpS_bind (wpS_modify (wpS_bind (wpS_get (wpS_pure (end_ m t q)))))
 · refine wpS_bind (wpS_mono (dh6 C k1 ix iy g1 g2 sx sy fx ly) fun m t q=> ?_);exact wpS_bind (wpS_modify (wpS_bind (wpS_get (wpS_pure (end_ m t q)))))
end
end TS
namespace TS
open PySem PyProof.Rows
section
variable {rk:Keyed->Nat}
def E4 (rk:Keyed->Nat)(xs:Array Keyed):List (Nat×Nat×Nat)->Nat->Nat->Prop
 |[],a,b=>a=b
 |q::r,a,b=>q.1=a/\1<=q.2.1/\Up rk xs a (a+q.2.1)/\E4 rk xs r (a+q.2.1) b
theorem E4.len {xs:Array Keyed}:∀{l:List (Nat×Nat×Nat)} {a b:Nat},E4 rk xs l a b->a+l.length<=b
 |[],a,b,h=>eg6 h
 |q::r,a,b,⟨h1,h2,h3,h4⟩=>by
  have:=E4.len h4;rw[dt9];omega
theorem E4.app {xs:Array Keyed}:∀{l m:List (Nat×Nat×Nat)} {a b:Nat},E4 rk xs (l++m) a b↔∃c,E4 rk xs l a c/\E4 rk xs m c b
 |[],m,a,b=>⟨fun h=>⟨a,rfl,h⟩,fun ⟨c,e,h⟩=>by cases e;exact h⟩
 |q::r,m,a,b=>by
  constructor
  · rintro ⟨h1,h2,h3,h4⟩;obtain ⟨c,g1,g2⟩:=E4.app.mp h4;exact ⟨c,⟨h1,h2,h3,g1⟩,g2⟩
  · rintro ⟨c,⟨h1,h2,h3,h4⟩,g⟩;exact ⟨h1,h2,h3,E4.app.mpr ⟨c,h4,g⟩⟩
theorem E4.kept {xs ys:Array Keyed}{lo hi:Nat}(k:C2 xs ys lo hi):∀{l:List (Nat×Nat×Nat)} {a b:Nat},E4 rk xs l a b->b<=lo\/hi<=a->E4 rk ys l a b
 |[],a,b,h,_=>h
 |q::r,a,b,⟨h1,h2,h3,h4⟩,hk=>by
  have:=E4.len h4;exact ⟨h1,h2,k.up h3 (by omega),E4.kept k h4 (by omega)⟩
theorem bk8 {α:Type}:∀(l:List α) (x y z:α) (m:List α),((l++x::y::m).set l.length z).eraseIdx (l.length+1)=l++z::m
 |[],x,y,z,m=>rfl
 |a::l,x,y,z,m=>by
  show a::(((l++x::y::m).set l.length z).eraseIdx (l.length+1))=_;rw[bk8 l x y z m];rfl
theorem dh9 {α:Type}{l:List α}{i:Nat}(h:i+1 < l.length):l=l.take i++l[i]::l[i+1]::l.drop (i+2):=by
 have e1:=ea3 (show i < l.length by omega);have e2:=ea3 h;rw[<-e2,<-e1,dx0]
theorem cb5 {xs:Array Keyed}{pw:Nat}:∀{l:List (Nat×Nat×Nat)} {n a b:Nat},E4 rk xs l a b->E4 rk xs (l.modify n fun q=>(q.1,q.2.1,pw)) a b
 |[],n,a,b,h=>by cases n<;>exact h
 |q::r,0,a,b,⟨h1,h2,h3,h4⟩=>⟨h1,h2,h3,h4⟩
 |q::r,n+1,a,b,⟨h1,h2,h3,h4⟩=>⟨h1,h2,h3,cb5 h4⟩
end
section
variable {prog:Program} {w:World} {A:Around} {E:Value->Shared->Prop} {s:Shared}
variable {rk:Keyed->Nat} {a0:Array Keyed} {κ:SortKind}
theorem cn4 {st:SortSt}{i lo:Nat}{Q:Bool->SortSt->Prop}(C:Cm prog w A s κ rk a0)(B:Bs a0 κ st)(cv:E4 rk (arrOf st) (pendingOf st).toList 0 lo)(hl:lo<=a0.size)(hi:i+1 < (pendingOf st).size)
   (h:∀t,Bs a0 κ t->E4 rk (arrOf t) (pendingOf t).toList 0 lo->(pendingOf t).size+1=(pendingOf st).size->C2 (arrOf st) (arrOf t) 0 lo->Q true t):wpS (model prog w) A E s (mergeAt' i) Q st:=by
 obtain ⟨l,hl0⟩:∃l,l=(pendingOf st).toList:=⟨_,rfl⟩
 have ll:l.length=(pendingOf st).size:=by rw[hl0];simp
 have hil:i+1 < l.length:=by omega
 have e:=dh9 hil;rw[<-hl0,e] at cv;obtain ⟨c,c1,d1,d2,d3,f1,f2,f3,g⟩:=E4.app.mp cv;have lg:=E4.len g
 have e1:(pendingOf st)[i]? =some (c,l[i].2.1,l[i].2.2):=by
   rw[<-dy1,<-hl0,dr8 (by omega),<-d1]
 have e2:(pendingOf st)[i+1]? =some (c+l[i].2.1,l[i+1].2.1,l[i+1].2.2):=by
   rw[<-dy1,<-hl0,dr8 hil,<-f1]
 refine dh8 C B e1 e2 d2 f2 (by omega) d3 f3 fun t B' u k p=> ?_
 have lt:(l.take i).length=i:=by rw[dt3];omega
 have ep:(pendingOf t).toList=l.take i++(c,l[i].2.1+l[i+1].2.1,l[i].2.2)::l.drop (i+2):=by
   rw[p,Array.toList_eraseIdxIfInBounds,Array.toList_setIfInBounds,<-hl0];have:=bk8 (l.take i) l[i] l[i+1] (c,l[i].2.1+l[i+1].2.1,l[i].2.2) (l.drop (i+2));rw[lt,<-e] at this;exact this
 have lc:=E4.len c1;refine h t B' ?_ ?_ (k.wide (du2 _) (by omega))
 · rw[ep];refine E4.app.mpr ⟨c,E4.kept k c1 (.inl (dr9 _)),rfl,by show 1<=l[i].2.1+l[i+1].2.1;omega,?_,?_⟩
   · show Up rk (arrOf t) c (c+(l[i].2.1+l[i+1].2.1));rw[<-ei7];exact u
   · show E4 rk (arrOf t) (l.drop (i+2)) (c+(l[i].2.1+l[i+1].2.1)) lo;rw[<-ei7];exact E4.kept k g (.inr (dr9 _))
 · rw[<-du9,ep,ds6,dt9,dv9,lt];omega
theorem dl8 {c:Prop}[Decidable c]{a b n:Nat}(h1:a<=n)(h2:b<=n):(if c then a else b)<=n:=by split<;>assumption
theorem ct4 {t:SortSt}{lo n:Nat}(cv:E4 rk (arrOf t) (pendingOf t).toList 0 lo)(n1:1<=n)(u:Up rk (arrOf t) lo (lo+n)):E4 rk (arrOf t) ((pendingOf t).push (lo,n,0)).toList 0 (lo+n):=by
 rw[ee3];exact E4.app.mpr ⟨lo,cv,rfl,n1,u,rfl⟩
theorem dq3 {st:SortSt}{Q:Unit->SortSt->Prop}(C:Cm prog w A s κ rk a0)(B:Bs a0 κ st)(pe:pendingOf st= #[])(h2:2<=a0.size)
   (h:∀t,Bs a0 κ t->Up rk (arrOf t) 0 a0.size->Q () t):wpS (model prog w) A E s sortRuns' Q st:=by
 rw[sortRuns'_eq];refine wpS_bind (wpS_get ?_)
 dsimp only
 rw[B.size];generalize minRun' a0.size a0.size 0=mr
 refine wpS_bind (wpS_mono (wpS_forRange (I:=fun x c t=>∃lo,c=(none,lo)/\Bs a0 κ t/\E4 rk (arrOf t) (pendingOf t).toList 0 lo/\lo<=a0.size/\(x<=lo\/a0.size<=lo))
   (Q:=fun c t=>∃lo,c=(none,lo)/\Bs a0 κ t/\E4 rk (arrOf t) (pendingOf t).toList 0 lo/\lo=a0.size) ?step ?fin ⟨0,rfl,B,by rw[pe];exact rfl,du2 _,.inl (dr9 _)⟩) ?post)
 case fin=>
   rintro c t ⟨lo,rfl,B',cv,h3,h4⟩;exact ⟨lo,rfl,B',cv,by omega⟩
 case step=>
   rintro x c t _ xn ⟨lo,rfl,B',cv,h3,h4⟩;refine C7 (fun z=>wpS_pure ⟨lo,rfl,B',cv,by have z:lo≥a0.size:=z;omega⟩) (fun z=> ?_);have z:¬lo≥a0.size:=z;refine wpS_bind (wpS_mono (dh3 (lo:=lo) (nrem:=a0.size - lo) C (by omega) (by omega) B') ?_);rintro r t1 ⟨n,rfl,B1,n1,n2,u1,k1,p1⟩
   have cv1:E4 rk (arrOf t1) (pendingOf t1).toList 0 lo:=by rw[p1];exact E4.kept k1 cv (.inl (dr9 _))
   clear k1 p1;refine C7 (fun y=> ?_) (fun y=> ?_);have y:n < mr:=y;refine wpS_bind (wpS_lift (wpAny_rule ⟨rfl,?_⟩));refine wpS_bind (dh2 (lo:=lo) (n:=min (a0.size - lo) mr) (ok:=n) C (by omega) (by omega) B1 u1 fun t2 B2 u2 k2 p2=> ?_);refine C7 (fun h=>absurd h (by decide)) (fun _=> ?_)
   have cv2:E4 rk (arrOf t2) (pendingOf t2).toList 0 lo:=by rw[p2];exact E4.kept k2 cv1 (.inl (dr9 _))
   have N1:1<=min (a0.size - lo) mr:=by omega
   have N2:lo+min (a0.size - lo) mr<=a0.size:=by omega
   clear p2 k2;generalize min (a0.size - lo) mr=N at u2 N1 N2 ⊢
   rotate_left
   have N1:1<=n:=n1
   have N2:lo+n<=a0.size:=by omega
   have B2:=B1;have u2:=u1;have cv2:=cv1;generalize t1=t2 at B2 u2 cv2 ⊢;generalize n=N at N1 N2 u2 ⊢
   rotate_left
   all_goals
     refine wpS_bind (wpS_get ?_)
     cases hb:(pendingOf t2).back? with
     |none=>
      exact wpS_bind (wpS_modify (wpS_pure ⟨lo+N,rfl,⟨B2.perm,B2.kind,B2.ok⟩,ct4 cv2 N1 u2,N2,by omega⟩))
     |some q=>
      obtain ⟨s1,m1,pw⟩:=q
      refine wpS_bind (wpS_mono (wpS_forRange (I:=fun y c t=>c=(none,())/\Bs a0 κ t/\E4 rk (arrOf t) (pendingOf t).toList 0 lo/\Up rk (arrOf t) lo (lo+N))
        (Q:=fun c t=>c=(none,())/\Bs a0 κ t/\E4 rk (arrOf t) (pendingOf t).toList 0 lo/\Up rk (arrOf t) lo (lo+N)) ?_ (fun _ _ h=>h) ⟨rfl,B2,cv2,u2⟩) ?_)
      · rintro y c t3 _ yn ⟨rfl,B3,cv3,u3⟩;refine wpS_bind (wpS_get ?_)
        by_cases g:(pendingOf t3).size > 1
        · rw[if_pos g,ee1 (show (pendingOf t3).size - 2 < (pendingOf t3).size by omega)];refine C7 (fun _=>wpS_pure ⟨rfl,B3,cv3,u3⟩) (fun _=> ?_);refine wpS_bind (cn4 C B3 cv3 (by omega) (by omega) fun t4 B4 cv4 sz k4=> ?_);refine C7 (fun h=>absurd h (by decide)) (fun _=> ?_);exact wpS_pure ⟨rfl,B4,cv4,k4.up u3 (.inr (dr9 _))⟩
        · rw[if_neg g];exact wpS_pure ⟨rfl,B3,cv3,u3⟩
      · rintro c t3 ⟨rfl,B3,cv3,u3⟩;refine wpS_bind (wpS_modify (wpS_bind (wpS_modify (wpS_pure ⟨lo+N,rfl,⟨B3.perm,B3.kind,B3.ok⟩,?_,N2,by omega⟩))));show E4 rk (arrOf t3) (dz2 (Array.push (Array.modify (pendingOf t3) _ _) (lo,N,0))) 0 (lo+N);rw[ee3,Array.toList_modify];exact E4.app.mpr ⟨lo,cb5 cv3,rfl,N1,u3,rfl⟩
 case post=>
   rintro c t ⟨lo,rfl,B',cv,rfl⟩
   dsimp only
   have lc:=E4.len cv
   refine wpS_bind (wpS_mono (wpS_forRange (I:=fun x c t=>c=(none,())/\Bs a0 κ t/\E4 rk (arrOf t) (pendingOf t).toList 0 a0.size/\((pendingOf t).size<=1\/(pendingOf t).size+x<=a0.size))
     (Q:=fun c t=>c=(none,())/\Bs a0 κ t/\E4 rk (arrOf t) (pendingOf t).toList 0 a0.size/\(pendingOf t).size<=1) ?stepE ?finE ⟨rfl,B',cv,.inr (by rw[<-du9];omega)⟩) ?postE)
   case finE=>
     rintro c t ⟨rfl,B',cv,z⟩;exact ⟨rfl,B',cv,by omega⟩
   case stepE=>
     rintro x c t _ xn ⟨rfl,B',cv,z⟩;refine wpS_bind (wpS_get ?_);refine C7 (fun y=>wpS_pure ⟨rfl,B',cv,y⟩) (fun y=> ?_);have y:¬(pendingOf t).size<=1:=y;refine wpS_bind (cn4 C B' cv (dr9 _) ?_ fun t2 B2 cv2 sz _=> ?_)
     · exact dw0 (Nat.succ_le_succ (dl8 (n:=(pendingOf t).size - 2) (by omega) (dr9 _))) (by omega)
     · exact wpS_pure ⟨rfl,B2,cv2,by omega⟩
   case postE=>
     rintro c t ⟨rfl,B',cv,z⟩;refine wpS_pure (h t B' ?_);obtain ⟨l,hl⟩:∃l,l=(pendingOf t).toList:=⟨_,rfl⟩
     have ll:l.length<=1:=by rw[hl,du9];exact z
     rw[<-hl] at cv
     match l,ll,cv with
     |[],_,cv=>have:0=a0.size:=cv;omega
     |[q],_,⟨c1,c2,c3,c4⟩=>
      have c4:0+q.2.1=a0.size:=c4;rw[c4] at c3;exact c3
end
end TS
namespace L2
open PySem PySem.Spec PyProof.Rows
section
variable {prog:Program} {w:World} {A:Around} {E:Value->Shared->Prop} {s:Shared}
structure bd7 (prog:Program)(w:World)(A:Around)(s:Shared)(rk:Value->Nat)(vs:List Value):Prop where
 kind:2<=vs.length->∀(Q:SortKind->Shared->Prop) (E:Value->Shared->Prop),Q oneType' s->wpAny (model prog w) A (keyKind' vs.toArray) Q E s
 less:∀x∈vs,∀y∈vs,∀(Q:Bool->Shared->Prop) (E:Value->Shared->Prop),Q (decide (rk x < rk y)) s->wpAny (model prog w) A (oneLt' true x y) Q E s
theorem bh3 {vs:List Value}{p:Keyed}(h:p∈(pairsOf vs).toList):p.1∈vs/\p.2=p.1:=by
 rw[pairsOf_toList] at h;obtain ⟨i,hi⟩:=dt7.mp h;obtain ⟨x,y⟩:=p;rw[List.getElem?_zip_eq_some] at hi;obtain ⟨e1,e2⟩:=hi;rw[e1] at e2;exact ⟨ds4 e1,(Option.some.inj e2).symm⟩
theorem di0 {rk:Value->Nat}{vs:List Value}{xs:Array Keyed}(hp:xs.Perm (pairsOf vs))(u:TS.Up (fun p=>rk p.1) xs 0 xs.size):(xs.map (·.2)).toList.Perm vs/\(xs.map (·.2)).toList.Pairwise (fun x y=>rk x<=rk y):=by
 have pl:=ec0.mp hp
 have e:xs.toList.map (·.2)=xs.toList.map (·.1):=dy3 fun p hp'=>(bh3 (pl.mem_iff.mp hp')).2
 rw[el7];constructor
 · refine (pl.map _).trans ?_;rw[<-el7,bk7]
 · show List.Pairwise _ (xs.toList.map (·.2));rw[e];exact ea8.mpr (TS.dn0 u)
theorem dl9 {rk:Value->Nat}{vs:List Value}(h:bd7 prog w A s rk vs):TS.Cm prog w A s oneType' (fun p=>rk p.1) (pairsOf vs):=fun x hx y hy Q E' q=>by
 rw[keyLt'_oneType];exact h.less x.1 (bh3 hx).1 y.1 (bh3 hy).1 Q E' q
theorem dm0 {a:Addr}{vs:List Value}{rk:Value->Nat}{n:Nat}{P:Fin->Shared->Prop}(ho:s.heap.get? a=some (seqObj "list" vs.toArray n))(hl:vs.length<=sizeLine)
   (ok:∀h':Heap,(∀b o,b≠a->s.heap.get? b=some o->h'.get? b=some o)->bd7 prog w A {s with heap:=h'} rk vs)
   (h:∀out:List Value,out.Perm vs->out.Pairwise (fun x y=>rk x<=rk y)->P (.done (.ret .none)) {s with heap:=sortedHeap s.heap a vs out.toArray}):wpAny (model prog w) A (Builtin.«list.sort» ⟨[.ref a],[]⟩) P E s:=by
 rw[list_sort_plain];have ha:a < s.heap.objs.size:=Heap.lt_size ho
 have hsz:vs.toArray.size=vs.length:=by simp
 refine wpAny_bind (listItems_at ho rfl ?_);refine wpAny_bind (listUpdate_at ho rfl ?_ (by rw[hsz];exact hl) (du2 _));obtain ⟨e1,ho1⟩:∃e1,(s.heap.update a (Obj.mapSeq fun _=> #[])).get? a=some (seqObj "list" #[] e1):=⟨_,get?_update_seq ho (fun _=> #[])⟩;refine wpAny_bind (seqEpoch_at ho1 rfl ?_);refine wpAny_bind (wpAny_newTuple ?_ (hsz:=hl));refine wpAny_bind (wpAny_newList ?_);refine wpAny_holding ?_;obtain ⟨H6,e6⟩:∃H6,H6=((s.heap.update a (Obj.mapSeq fun _=> #[])).push (seqObj "tuple" vs.toArray 0)).push (seqObj "list" #[] 0):=⟨_,rfl⟩
 have ho6:H6.get? a=some (seqObj "list" #[] e1):=by
   rw[e6,Heap.get?_push_ne _ _ _ (by rw[size_push',Heap.size_update];exact dw7 (ek7 ha)),Heap.get?_push_ne _ _ _ (by rw[Heap.size_update];exact dw7 ha)];exact ho1
 have old:∀b o,b≠a->s.heap.get? b=some o->H6.get? b=some o:=by
   intro b o nb hb;rw[e6];refine Heap.get?_push_of_some _ (Heap.get?_push_of_some _ ?_);rw[Heap.get?_update_ne _ _ _ _ nb];exact hb
 have ok6:=ok H6 old;show wpAny (model prog w) A _ P E {s with heap:=((s.heap.update a (Obj.mapSeq fun _=> #[])).push (seqObj "tuple" vs.toArray 0)).push (seqObj "list" #[] 0)};unfold sortedHeap at h;rw[<-e6] at h ⊢
 dsimp only
 by_cases h2:vs.toArray.size < 2
 · rw[if_pos h2,if_pos h2];refine wpAny_bind (wpAny_pure ?_);rw[StateT.run_pure];refine wpAny_bind (wpAny_pure ?_)
   dsimp only
   refine wpAny_bind (seqEpoch_at ho6 rfl ?_);have ee:(arrOf (SortSt.mk' general' (vs.toArray.zip vs.toArray) #[] 7 none)).map (·.2)=vs.toArray:=bk7 vs;rw[ee];refine wpAny_bind (listUpdate_at ho6 rfl ?_ (du2 _) (by rw[hsz];omega));simp only[bne_self_eq_false,dz3,if_false];refine wpAny_pure (h vs (List.Perm.refl _) ?_)
   match vs,hsz,h2 with
   |[],_,_=>exact List.Pairwise.nil
   |[_],_,_=>exact ef3 _ _
   |_::_::_,_,h2=>simp at h2;omega
 · rw[if_neg h2,if_neg h2];refine wpAny_bind (ok6.kind (by omega) _ _ ?_)
   refine wpAny_bind (wpAny_mono (TS.dq3 (s:={s with heap:=H6}) (st:=SortSt.mk' oneType' (vs.toArray.zip vs.toArray) #[] 7 none) (a0:=pairsOf vs) (rk:=fun p=>rk p.1)
     (Q:=fun _ st'=>(arrOf st').Perm (pairsOf vs)/\failedOf st'=none/\TS.Up (fun p=>rk p.1) (arrOf st') 0 (pairsOf vs).size) (dl9 ok6) ⟨Array.Perm.refl _,rfl,rfl⟩ rfl (by rw[pairsOf_size];omega) fun t B u=>⟨B.perm,B.ok,u⟩) ?_ fun _ _ e=>e)
   rintro ⟨⟨⟩,st'⟩ s' ⟨rfl,hp,hf,hu⟩
   dsimp only
   rw[<-hp.size_eq] at hu;obtain ⟨o1,o2⟩:=di0 hp hu;refine wpAny_bind (seqEpoch_at ho6 rfl ?_);refine wpAny_bind (listUpdate_at ho6 rfl ?_ (du2 _) (by rw[Array.size_map,hp.size_eq,pairsOf_size];omega));rw[hf];simp only[bne_self_eq_false,dz3,if_false];have:=h _ o1 o2;rw[Array.toArray_toList] at this;exact wpAny_pure this
theorem db2 {l:Addr}{vs:List Value}{rk:Value->Nat}{Q:Value->Shared->Prop}(pl:s.heap.IsList l vs.toArray)(hl:vs.length<=sizeLine)
   (ok:∀h':Heap,(∀b o,b < s.heap.objs.size->s.heap.get? b=some o->h'.get? b=some o)->bd7 prog w A.in1.in1 {s with heap:=h'} rk vs)
   (h:∀out:List Value,out.Perm vs->out.Pairwise (fun x y=>rk x<=rk y)->Q (.ref (s.heap.objs.size+1)) {s with heap:=sortedAll s.heap vs out.toArray}):wpAny (model prog w) A (call (.builtin "sorted") [.ref l]) Q E s:=by
 refine Calls.call_function_entry kind_sorted plain_sorted entry_sorted (args_sorted1 _) ?_;unfold Builtin.«sorted»;refine wpAny_bind (m:=checkCount "sorted" 1 1 _) (wpAny_pure ?_);refine wpAny_bind (collect_list pl ?_ hl);refine wpAny_bind (wpAny_newList ?_ (hsz:=hl))
 have hsz:((s.heap.push (seqObj "list" #[] 0)).update s.heap.objs.size (Obj.mapSeq (· ++vs.toArray))).objs.size=s.heap.objs.size+1:=by
   rw[Heap.size_update,size_push']
 have hoL:(((s.heap.push (seqObj "list" #[] 0)).update s.heap.objs.size (Obj.mapSeq (· ++vs.toArray))).push (seqObj "list" vs.toArray 0)).get? (s.heap.objs.size+1)=some (seqObj "list" vs.toArray 0):=by
   rw[<-hsz];exact Heap.get?_push_size _ rfl
 show wpAny _ _ _ _ _ {s with heap:=((s.heap.push (seqObj "list" #[] 0)).update s.heap.objs.size (Obj.mapSeq (· ++vs.toArray))).push (seqObj "list" vs.toArray 0)};rw[hsz];refine wpAny_bind (wpAny_holding (wpAny_call_entry slot_list_sort ⟨_,hoL,rfl⟩ entry_list_sort (dm0 hoL hl (rk:=rk) (fun h' old=>ok h' fun b o lt e=>old b o (dw7 (ek7 lt)) ?_) fun out o1 o2=>⟨_,rfl,?_⟩) (args_list_sort _)))
 · refine Heap.get?_push_of_some _ ?_;rw[Heap.get?_update_ne _ _ _ _ (dw7 lt)];exact Heap.get?_push_of_some _ e
 · exact wpAny_pure ⟨_,rfl,h out o1 o2⟩
end
end L2
namespace L2
open PySem PySem.Spec PyProof.Rows
section
variable {α:Type}
theorem am9 {p q:α->Bool}(h:∀a,p a=true->q a=true):∀{l:List α} {x:α},x∈l->p x=false->q x=true->l.countP p < l.countP q
 |[],x,hx,_,_=>by cases hx
 |y::l,x,hx,px,qx=>by
  have le:l.countP p<=l.countP q:=List.countP_mono_left fun a _=>h a
  rw[ea6,ea6]
  by_cases e:x=y
  · subst e;rw[px,qx];simp;omega
  · have hx':x∈l:=by
      rcases dt8.mp hx with z|z
      · exact absurd z e
      · exact z
    have:=am9 h hx' px qx
    cases hp:p y with
    |false=>simp;split<;>omega
    |true=>rw[h y hp];simp;omega
def ar7 (lt:α->α->Bool)(l:List α)(x:α):Nat:=l.countP fun y=>lt y x
theorem db3 {lt:α->α->Bool}(ir:∀a,lt a a=false)(tr:∀a b c,lt a b=true->lt b c=true->lt a c=true)(tot:∀a b,lt a b=false->lt b a=true\/a=b){l:List α}{x y:α}(hx:x∈l)(hy:y∈l):decide (ar7 lt l x < ar7 lt l y)=lt x y:=by
 unfold ar7
 cases h:lt x y with
 |true=>exact decide_eq_true (am9 (fun a ha=>tr a x y ha h) hx (ir x) h)
 |false=>
  refine decide_eq_false ?_
  rcases tot x y h with z|z
  · have:=am9 (fun a ha=>tr a y x ha z) hy (ir y) z;omega
  · rw[z];omega
theorem db4 {lt:α->α->Bool}(ir:∀a,lt a a=false)(tr:∀a b c,lt a b=true->lt b c=true->lt a c=true){l:List α}{x y:α}(hy:y∈l)(h:ar7 lt l x<=ar7 lt l y):lt y x=false:=by
 cases z:lt y x with
 |false=>rfl
 |true=>
  have:=am9 (l:=l) (fun a ha=>tr a y x ha z) hy (ir y) z;unfold ar7 at h;omega
end
theorem bh4:∀a:List Int,HT.av2 a a=false
 |[]=>rfl
 |x::a=>by rw[HT.ce2,if_pos rfl];exact bh4 a
theorem cb6:∀a b:List Int,HT.av2 a b=false->HT.av2 b a=true\/a=b
 |[],[],_=> .inr rfl
 |[],_::_,h=>by rw[HT.cy7] at h;cases h
 |_::_,[],_=> .inl rfl
 |x::a,y::b,h=>by
  rw[HT.ce2] at h ⊢
  by_cases e:x=y
  · rw[if_pos e] at h;rw[if_pos e.symm]
    rcases cb6 a b h with z|z
    · exact .inl z
    · exact .inr (by rw[e,z])
  · rw[if_neg e] at h;rw[if_neg (fun z=>e z.symm)];have:=of_decide_eq_false h;exact .inl (decide_eq_true (by omega))
theorem bs9:∀a b c:List Int,HT.av2 a b=true->HT.av2 b c=true->HT.av2 a c=true
 |[],[],_,h,_=>by cases h
 |_::_,[],_,h,_=>by cases h
 |_,_::_,[],_,h=>by cases h
 |[],_::_,_::_,_,_=>rfl
 |x::a,y::b,z::c,h,g=>by
  rw[HT.ce2] at h g ⊢
  by_cases e:x=y
  · subst e;rw[if_pos rfl] at h
    by_cases e2:x=z
    · subst e2;rw[if_pos rfl] at g ⊢;exact bs9 a b c h g
    · rw[if_neg e2] at g ⊢;exact g
  · rw[if_neg e] at h;have h1:=of_decide_eq_true h
    by_cases e2:y=z
    · subst e2;rw[if_neg e];exact h
    · rw[if_neg e2] at g;have g1:=of_decide_eq_true g;rw[if_neg (by omega)];exact decide_eq_true (by omega)
section
variable {prog:Program} {w:World} {A:Around} {E:Value->Shared->Prop} {s:Shared}
theorem cn5 (hu:A.units < cLine){x y:Value}{ns ms:List Int}(hx:ag7 s.heap x ns)(hy:ag7 s.heap y ms){Q:Bool->Shared->Prop}(q:Q (HT.av2 ns ms) s):wpAny (model prog w) A (oneLt' true x y) Q E s:=by
 obtain ⟨p,xs,n,rfl,ox,ix⟩:=hx;obtain ⟨p2,ys,m,rfl,oy,iy⟩:=hy;rw[oneLt'_eq];simp only[if_true];refine wpAny_bind (wpAny_cRoomFor hu ?_);refine wpAny_bind (wpAny_callSpecialIfBound?_slot (T:="list") ⟨_,ox,rfl⟩ PySem.F.slot_list_lt (call_meets PySem.F.slot_list_lt ⟨_,ox,rfl⟩ PySem.F.entry_list_lt (PySem.F.args_list_lt_2 _ _) (HT.dh1 p p2 xs ys n m ns ms ix iy) ⟨⟨ox,oy⟩,?_⟩));exact wpAny_truthy_bool q
def adr:Value->Addr
 | .ref a=>a
 |_=>0
theorem ag9:∀{bs:List Addr} {us:List Value},o3 (bs.map V.ref) us->us=bs.map Value.ref
 |[],us,h=>by cases h;rfl
 |b::bs,us,h=>by
  cases h with
  |cons h1 h2=>
   cases h1;rw[ag9 h2];rfl
theorem bk9:∀bs:List Addr,o3 (bs.map V.ref) (bs.map Value.ref)
 |[]=> .nil
 |b::bs=> .cons rfl (bk9 bs)
theorem ct5 {bs:List Addr}{R:Addr->List Int}(hu:A.units < cLine)(row:∀b∈bs,ag7 s.heap (.ref b) (R b)):bd7 prog w A s (fun v=>ar7 HT.av2 (bs.map R) (R (adr v))) (bs.map Value.ref):=by
 constructor
 · intro h2 Q E q
   match bs,h2,row with
   |[],h2,_=>simp at h2
   |[_],h2,_=>simp at h2
   |b1::b2::bs,_,row=>
    have hr:∀v,v∈Value.ref b1::Value.ref b2::bs.map Value.ref->∃ns,ag7 s.heap v ns:=fun v hv=>by
      obtain ⟨b,hb,rfl⟩:=ds9.mp (show v∈(b1::b2::bs).map Value.ref from hv);exact ⟨_,row b hb⟩
    exact cm9 hr q
 · intro x hx y hy Q E q;obtain ⟨b,hb,rfl⟩:=ds9.mp hx;obtain ⟨c,hc,rfl⟩:=ds9.mp hy;refine cn5 hu (row b hb) (row c hc) ?_;have:=db3 bh4 bs9 cb6 (l:=bs.map R) (ds9.mpr ⟨b,hb,rfl⟩) (ds9.mpr ⟨c,hc,rfl⟩);show Q (HT.av2 (R b) (R c)) s;rw[<-this];exact q
end
end L2
namespace L2
open PySem PySem.Spec PyProof.Rows
section
variable {X:Cx}
theorem bt0 (hu:X.A.in1.in1.units < cLine):R4 X (.builtin "sorted") (fun xs H Q=>∃(p:Addr) (bs:List Addr) (rs:List (List Int)),xs=[.ref p]/\g9 X.K H p (bs.map V.ref)/\j9 H bs rs/\
   ∀(cs:List Addr) (ts:List (List Int)) l,cs.Perm bs->ts.Perm rs->j9 H cs ts->ts.Pairwise (fun r r'=>HT.av2 r' r=false)->H l=none->Q (.ref l) (c8 H l (.lst (cs.map V.ref)))):=by
 intro pins s σ H xs us Q I r h;obtain ⟨p,bs,rs,rfl,hp,hr,q⟩:=h;obtain ⟨u,rfl,rx⟩:=U6 r;cases rx;obtain ⟨its,rv,pl,hl⟩:=I.list hp;have ev:=ag9 rv;subst ev
 have rows:∀b∈bs,∃r:List Int,H b=some (.lst (r.map V.int)):=fun b hb=>by
   obtain ⟨j,hj⟩:=dt7.mp hb
   have hjl:j < rs.length:=by rw[<-hr.1];exact (dr7.mp hj).1
   exact ⟨_,hr.2 j b _ hj (dr8 hjl)⟩
 have er:=cf1 hr
 have each:∀h':Heap,(∀b o,b < s.heap.objs.size->s.heap.get? b=some o->h'.get? b=some o)->∀b∈bs,ag7 h' (.ref b) (X0 H b):=by
   intro h' old b hb;obtain ⟨r,e⟩:=rows b hb;obtain ⟨_,its,n,v,g⟩:=(show x6 X.prog X.w H s.heap b (.lst (r.map V.int)) from I.hok b _ e);rw[az2 e];exact ⟨b,its.toArray,n,rfl,old b _ (Heap.lt_size g) g,by simpa using al5 v⟩
 have hll:(bs.map V.ref).length=bs.length:=dr6 ..
 refine db2 (rk:=fun v=>ar7 HT.av2 (bs.map (X0 H)) (X0 H (adr v))) pl.isList (by rw[dr6];omega) (fun h' old=>ct5 hu (each h' old)) fun out o1 o2=> ?_
 have eo:out=(out.map adr).map Value.ref:=by
   rw[dx2];refine (eg4 out).symm.trans (dy3 fun v hv=> ?_);obtain ⟨b,_,rfl⟩:=ds9.mp (o1.mem_iff.mp hv);rfl
 have pb:(out.map adr).Perm bs:=by
   have:=o1.map adr;rw[dx2] at this;have e2:bs.map (adr∘Value.ref)=bs:=(dy3 fun b _=>rfl).trans (eg4 bs);rw[e2] at this;exact this
 have st:((out.map adr).map (X0 H)).Pairwise (fun r r'=>HT.av2 r' r=false):=by
   rw[dx2];refine ea8.mpr (List.Pairwise.imp_of_mem (fun {x y} hx hy h=> ?_) o2);refine db4 bh4 bs9 (l:=bs.map (X0 H)) ?_ h;exact ds9.mpr ⟨adr y,pb.mem_iff.mp (ds9.mpr ⟨y,hy,rfl⟩),rfl⟩
 have rw':j9 H (out.map adr) ((out.map adr).map (X0 H)):=⟨(dr6 ..).symm,fun j a r e1 e2=>by
   rw[ds0,e1] at e2;have:=Option.some.inj e2;obtain ⟨r',e⟩:=rows a (pb.mem_iff.mp (ds4 e1))
   rw[<-this,az2 e];exact e⟩
 have pr:((out.map adr).map (X0 H)).Perm rs:=by rw[<-er];exact pb.map _
 obtain ⟨e,he⟩:=sortedAll_at s.heap (bs.map Value.ref) out.toArray;refine ⟨.ref (s.heap.objs.size+1),_,I.laid (t':=s.toks) (fun _ _ q=>sortedAll_old q) (ei4 _) (show x6 X.prog X.w _ _ _ (.lst ((out.map adr).map V.ref)) from ⟨by rw[dr6,pb.length_eq];omega,out,e,?_,he⟩),rfl,q _ _ _ pb pr rw' st (I.hok.fresh (ei4 _))⟩;have:=bk9 (out.map adr);rw[<-eo] at this;exact this
variable {e:Expr} {t:TA} {p pos kpos:Pos}
def ct6 (K:PySem.W.Frag)(t:TA):TE:=tCB (fun xs H Q=>∃(p:Addr) (bs:List Addr) (rs:List (List Int)),xs=[.ref p]/\g9 K H p (bs.map V.ref)/\j9 H bs rs/\
 ∀(cs:List Addr) (ts:List (List Int)) l,cs.Perm bs->ts.Perm rs->j9 H cs ts->ts.Pairwise (fun r r'=>HT.av2 r' r=false)->H l=none->Q (.ref l) (c8 H l (.lst (cs.map V.ref)))) t
theorem ah6 (hu:X.A.units+1+1 < cLine)(hm:X.mg "sorted"=none)(ha:PA X [e] t)(hg:Gl X "sorted":=by rfl)(he:starEach [e] X.env=(false,eval e X.env)::starEach [] X.env:=by rfl):
 PE X (.Call (.Name "sorted" p) [e] [] pos) (ct6 X.K t):=Y7 (bt0 (by simpa [Around.in1] using hu)) hg hm ar1 ha (by decide) (by decide) he rfl
end
end L2
namespace Mth
open L2 (K4)
def cx6 (rs:List (List Int)):Prop:=rs.Pairwise fun r r'=>HT.av2 r' r=false
theorem bd8:∀{a b:List (List Int)},a.Perm b->cx6 a->cx6 b->a=b
 |[],b,p,_,_=>(List.Perm.nil_eq p)
 |r::a,[],p,_,_=>absurd p.length_eq (by simp)
 |r::a,q::b,p,ha,hb=>by
  have h1:=ef7.mp ha;have h2:=ef7.mp hb
  have e:r=q:=by
    rcases dt8.mp (p.mem_iff.mp ds1) with z|z
    · exact z
    · rcases dt8.mp (p.mem_iff.mpr (ds1:q∈q::b)) with y|y
      · exact y.symm
      · have g1:=h2.1 r z;have g2:=h1.1 q y
        rcases L2.cb6 r q g1 with u|u
        · rw[g2] at u;cases u
        · exact u
  subst e;rw[bd8 (List.Perm.cons_inv p) h1.2 h2.2]
end Mth
namespace L2
open PySem PySem.Spec PyProof PyProof.Rows
def dm1 (i j:Int):Prop:=i.natAbs < 2^20000/\j.natAbs < 2^20000
theorem db5 {i j:Int}{n:Nat}(hn:n<=2^20)(h1:i.natAbs < 2^n)(h2:j.natAbs < 2^n):IntMulOk i j:=by
 refine IntMulOk.of_bits ?_ ?_
 · exact dt4 (PySem.intBits_le_iff.mpr h1) hn
 · exact dt4 (PySem.intBits_le_iff.mpr h2) hn
theorem cb7 {X:Cx}:O6 X (binaryOp .Mult) (rI dm1 fun i j=> .int (i*j)):=opI fun _ _ _ _ _ _ _ hc q=>mul_int q (db5 (by decide) hc.1 hc.2)
end L2
namespace L2
open PySem PySem.Spec PyProof.Rows
section
variable {P:Program} {w:World} {K:PySem.W.Frag} {mg:Str->Option Value} {base h:Heap} {x:Str} {st:Stmt} {f:Addr} {fd:FuncData} {ps:List Str} {k:Nat} {sp:Sp}
def Fu (K:PySem.W.Frag)(x:Str)(st:Stmt)(f:Addr):Prop:=∃fd,PySem.W.nsIn K mainGlobals x=some (some (.ref f))/\A9 K x x st f fd
theorem dm2 {oc:Value}{od an:Option Addr}{osl:Array (Option Value)}{kV doc pm cdv ct:Value}(a:PySem.W.nsIn K mainGlobals x=some (some (.ref f)))(l:K.lookup f=some ⟨oc,od,.func (PySem.W.fnOf x x (ad4 st) (Y9 st) (j6 st) .none kV doc pm an cdv ct),osl⟩)
 (c:PySem.W.codeIn K cdv x=true) (k:PySem.W.keepIn K (.ref f)=true):Fu K x st f:=⟨_,a,dg7 l c k⟩
theorem p0 (X:K.In h)(G:h.Ns mainGlobals mg)(a:PySem.W.nsIn K mainGlobals x=some (some (.ref f)))(F:A9 K x x st f fd)(b:al4 K fd ps [])(ok:p6 P w K mg base A8 k f fd ps sp):l8 P w K mg base x k ps sp:=⟨f,fd,PySem.W.mg_of X G a,F.kp,b,ok⟩
def Fre (K:PySem.W.Frag):List Str->Prop
 |[]=>True
 |x::l=>PySem.W.nsIn K mainGlobals x=some none/\Fre K l
end
end L2
namespace My
open PySem L2 Mth
def D7 (i:Nat):Stmt:=PySem.Challenge.pw_turnroots_k33_whole_past_and_roots.main.body.getD i (.Pass ⟨0,0,0,0⟩)
abbrev an0:Stmt:=D7 7
abbrev S3:Stmt:=D7 8
abbrev ac2:Stmt:=D7 9
abbrev X1:Stmt:=D7 10
abbrev ah7:Stmt:=D7 11
abbrev af4:Stmt:=D7 12
abbrev S4:Stmt:=D7 13
abbrev ah8:Stmt:=D7 14
abbrev V3:Stmt:=D7 15
abbrev an1:Stmt:=D7 16
abbrev X2:Stmt:=D7 17
abbrev ar8:Stmt:=D7 20
abbrev Z8:Stmt:=D7 21
abbrev an2:Stmt:=D7 22
abbrev ah9:Stmt:=D7 24
abbrev ar9:Stmt:=D7 25
abbrev af5:Stmt:=D7 27
abbrev X3:Stmt:=D7 29
abbrev V4:Stmt:=D7 30
abbrev ac3:Stmt:=D7 31
abbrev V5:Stmt:=D7 32
abbrev ai0:Stmt:=D7 33
abbrev T6:Stmt:=D7 34
abbrev ai1:Stmt:=D7 35
abbrev X4:Stmt:=D7 37
abbrev aa4:Stmt:=D7 38
abbrev an3:Stmt:=D7 39
abbrev X5:Stmt:=D7 40
abbrev U0:Stmt:=D7 43
abbrev U7:Stmt:=D7 44
abbrev an4:Stmt:=D7 45
abbrev an5:Stmt:=D7 47
abbrev an6:Stmt:=D7 48
abbrev an7:Stmt:=D7 49
abbrev af6:Stmt:=D7 50
abbrev X6:Stmt:=D7 51
abbrev as0:Stmt:=D7 53
abbrev as1:Stmt:=D7 54
abbrev ai2:Stmt:=D7 55
abbrev P0:Stmt:=D7 56
abbrev X7:Stmt:=D7 57
abbrev aw1:Stmt:=D7 58
end My
namespace My
open PySem L2 Mth
structure Bl (mg:Str->Option Value):Prop where
 len:mg "len"=none
 isi:mg "isinstance"=none
 int:mg "int"=none
 bool:mg "bool"=none
 list:mg "list"=none
 range:mg "range"=none
 sum:mg "sum"=none
 min:mg "min"=none
 max:mg "max"=none
 enum:mg "enumerate"=none
 zip:mg "zip"=none
 sorted:mg "sorted"=none
 tuple:mg "tuple"=none
 str:mg "str"=none
 repr:mg "repr"=none
 all:mg "all"=none
 any:mg "any"=none
 set:mg "set"=none
 dict:mg "dict"=none
 ve:mg "ValueError"=none
section
variable {P:Program} {w:World} {K:PySem.W.Frag} {mg:Str->Option Value} {base:Heap}
def ak1 (K:PySem.W.Frag):Sp:=fun vs H Q _=>∃x t b1 b2,vs=[x]/\U8 K H x t/\PySem.W.kitOne K t (.type "int")=some b1/\PySem.W.kitOne K t (.type "bool")=some b2/\Q (.bl (b1&& !b2)) H
theorem db6:m8 ["thing"] ["thing"] (j6 an0):=by rfl'
theorem ct7 {f:Addr}{fd:FuncData}(F:A9 K "is_whole" "is_whole" an0 f fd)(B:Bl mg):p6 P w K mg base A8 1 f fd ["thing"] (ak1 K):=by
 refine F.ok db6 (fun vs H Q E h=> ?_) (fun cdv A outer s H vs Q E hr h=> ?_)
 · obtain ⟨x,t,b1,b2,rfl,_⟩:=h;rfl
 · obtain ⟨x,t,b1,b2,rfl,ty,e1,e2,q⟩:=h;refine ⟨_,g6 (l9 (de8 (br3 B.isi (c5 (pv 0) (c5 (cr9 B.int) c6))) (de7 (de9 (br3 B.isi (c5 (pv 0) (c5 (ck8 B.bool) c6))))))),?_⟩;refine ⟨x,rfl,x,"int",t,b1,rfl,ty,e1,b1,rfl,?_⟩
   cases b1 with
   |true=>
    refine ah2 ⟨x,rfl,x,"bool",t,b2,rfl,ty,e2,b2,rfl,?_⟩;exact q
   |false=>exact M4 q
def az6:Sp:=fun vs H Q _=>∃(a:Addr) (ns:List Int),vs=[.ref a]/\H a=some (.lst (ns.map V.int))/\∀(b:Bool) (H':Hp),c9 H H'->(b=true↔ns.length<=40/\j7 ns)->Q (.bl b) H'
theorem az7:m8 ["thing","seen","place"] ["thing"] (j6 ar8):=by rfl'
theorem cn6 {f:Addr}{fd:FuncData}(F:A9 K "is_turn" "is_turn" ar8 f fd)(B:Bl mg)(mt:∃t,mg "MOST_THINGS"=some (.int 40 t))(cW:l8 P w K mg base "is_whole" 1 ["thing"] (ak1 K)):p6 P w K mg base A8 2 f fd ["thing"] az6:=by
 refine F.ok az7 (fun vs H Q E h=> ?_) (fun cdv A outer s H vs Q E hr h=> ?_)
 · obtain ⟨a,ns,rfl,_⟩:=h;rfl
 · obtain ⟨a,ns,rfl,ha,k⟩:=h;obtain ⟨tk,mt⟩:=mt;have hu:=T2 hr
   refine ⟨_,e8 (C3 (ag6 (ae4 (ae3 (br3 B.isi (c5 (pv 0) (c5 (ck9 B.list) c6))))) (aj0 (p8 bo4 (p9 B.len (c5 (pv 0) c6)) (bf9 (v:= .int 40) (by rfl) mt ⟨tk,rfl⟩) (w5 _)))).pt (g6 (l9 R1)) y7)
     (e8 (i8 (i:=1) az7.nd rfl (Or.inl rfl) V1)
     (e8 (n9 PassesOwn.never rfl (w4 (pv 0)) (i7 (i:=2) az7.nd rfl (Or.inl rfl))
       (e8 (C3 (ag6 (ae4 (ae3 (h8 cW hr (c5 (pv 2) c6)))) (ag6 (p8 bb7 (pv 2) i6 (w5 _)) (ag6 (p8 cw7 (pv 2) (p9 B.len (c5 (pv 0) c6)) (w5 _)) (aj0 (ci3 (dg4 hu (pv 2) (pv 1))))))).pt (g6 (l9 R1)) y7)
       (g6 (av4 hu (pv 1) (pv 2) R1 rfl))))
     (g6 (l9 R1)))),?_⟩
   refine ⟨_,rfl,_,"list",_,true,rfl,.lst ha,al8 K "list",true,rfl,?_⟩;refine M4 ⟨_,rfl,a,_,rfl,.inl (g9.of ha),_,_,rfl,rfl,_,rfl,?_⟩;rw[dr6];refine O7 (fun h40=> ?_) (fun h40=> ?_)
   · have h40:(40:Int) < (ns.length:Int):=of_decide_eq_true h40;exact k false H (c9.refl H) ⟨fun z=>(by cases z),fun z=>(by have:=z.1;omega)⟩
   · have h40:¬(40:Int) < (ns.length:Int):=fun z=>h40 (decide_eq_true z)
     intro d hd;have nad:a≠d:=g8 ha hd
     have ha1:(c8 H d (.dK [])) a=some (.lst (ns.map V.int)):=by rw[g7 nad];exact ha
     refine ⟨_,rfl,a,rfl,⟨_,g9.of ha1⟩,A7 (K:=K) (a:=a) (xs:=ns.map V.int) (fun i σ H2=>∃v:Option V,σ=[some (.ref a),some (.ref d),v]/\c9 H H2/\H2 d=some (.dK (T3 (ns.take i)))/\(ns.take i).Nodup/\∀x∈ns.take i,0<=x/\x < ns.length)
       ⟨none,rfl,c9.upd_new hd,c7,dx7,fun x hx=>by simp at hx⟩ (fun i σ H2 _ zz=>by obtain ⟨_,_,s2,_⟩:=zz;exact g9.of (s2 a _ ha)) ?_ ?_⟩
     · rintro i y σ H2 hi ⟨v,rfl,s2,h2,nd,bd⟩;obtain ⟨z,hz,rfl⟩:=D9 hi;have ha2:=s2 a _ ha;have hil:i < ns.length:=(dr7.mp hz).1;refine ⟨_,rfl,.int z,_,true,false,rfl,.int z,al8 K "int",ae9 K,_,rfl,?_⟩;refine M4 ⟨_,rfl,_,_,rfl,rfl,_,rfl,?_⟩;refine O7 (fun hz0=> ?_) (fun hz0=> ?_)
       · have hz0:z < 0:=of_decide_eq_true hz0;exact ah2 (k false H2 s2 ⟨fun q=>(by cases q),fun q=>(by have:=q.2.lo z (ds4 hz);omega)⟩)
       have hz0:¬z < 0:=fun q=>hz0 (decide_eq_true q)
       refine ⟨_,rfl,_,rfl,a,_,rfl,.inl (g9.of ha2),_,_,rfl,rfl,_,rfl,?_⟩;rw[dr6];refine O7 (fun hz1=> ?_) (fun hz1=> ?_)
       · have hz1:(ns.length:Int)<=z:=of_decide_eq_true hz1;exact ah2 (k false H2 s2 ⟨fun q=>(by cases q),fun q=>(by have:=q.2.hi z (ds4 hz);omega)⟩)
       have hz1:¬(ns.length:Int)<=z:=fun q=>hz1 (decide_eq_true q)
       refine ⟨_,rfl,_,rfl,d,_,rfl,ae7.k (k:=Sum.inl z) h2,_,rfl,?_⟩
       by_cases hm:z∈ns.take i
       · rw[br5 hm];refine ah2 (k false H2 s2 ⟨fun q=>(by cases q),fun q=> ?_⟩);exfalso;obtain ⟨j,hj⟩:=dt7.mp hm
         have hjl:j < i:=by
           have:=(dr7.mp hj).1;rw[dt3] at this;omega
         rw[dx1 hjl] at hj;have e1:=(dr7.mp hj).2;have e2:=(dr7.mp hz).2;exact du7.mp (dt0.mp q.2.nd) j i (by omega) hil hjl (by rw[e1,e2])
       · rw[ay8 hm];refine M4 ⟨_,rfl,_,rfl,d,_,rfl,aq2.k (k:=Sum.inl z) h2 (t6 (by unfold T3;rw[dr6,dt3];omega)),?_⟩
         have hds:∀b o,H b=some o->b≠d:=fun b o e=>g8 e hd
         refine ⟨some (.int z),rfl,fun b o e=>by rw[g7 (hds b o e)];exact s2 b o e,?_,?_,?_⟩
         · rw[bk3 hm,c7,i9 hz]
         · rw[i9 hz];exact av5 nd hm
         · intro x hx;rw[i9 hz] at hx
           rcases dt1.mp hx with q|q
           · exact bd x q
           · have:x=z:=by simpa using q
             omega
     · rintro σ H2 ⟨v,rfl,s2,h2,nd,bd⟩;rw[dr6,du1] at nd bd;refine k true H2 s2 ⟨fun _=>⟨by omega,⟨nd,fun x hx=>(bd x hx).1,fun x hx=>(bd x hx).2⟩⟩,fun _=>rfl⟩
end
end My
namespace My
open PySem L2 Mth
section
variable {P:Program} {w:World} {K:PySem.W.Frag} {mg:Str->Option Value} {base:Heap}
def B9 (H:Hp)(a:Addr)(p:List Int):Prop:=H a=some (.lst (p.map V.int))/\j7 p/\p.length<=40
end
end My
namespace My
open PySem L2 Mth
section
variable {P:Program} {w:World} {K:PySem.W.Frag} {mg:Str->Option Value} {base:Heap}
def ak2:Sp:=fun vs H Q _=>∃(a:Addr) (ns:List Int),vs=[.ref a]/\B9 H a ns/\∀(H':Hp),c9 H H'->Q .non H'
theorem di1:m8 ["thing"] ["thing"] (j6 Z8):=by rfl'
theorem db7 {f:Addr}{fd:FuncData}(F:A9 K "must_be_turn" "must_be_turn" Z8 f fd)(cT:l8 P w K mg base "is_turn" 2 ["thing"] az6):p6 P w K mg base A8 3 f fd ["thing"] ak2:=by
 refine F.ok di1 (fun vs H Q E h=> ?_) (fun cdv A outer s H vs Q E hr h=> ?_)
 · obtain ⟨a,ns,rfl,_⟩:=h;rfl
 · obtain ⟨a,ns,rfl,⟨ha,ht,hl⟩,k⟩:=h;refine ⟨_,g6 (C3 (ae4 (ae3 (h8 cT hr (c5 (pv 0) c6)))) (g6 ae5) y7),?_⟩;refine ⟨_,rfl,a,ns,rfl,ha,fun b H' s' hb=>⟨b,rfl,?_⟩⟩;have:b=true:=hb.mpr ⟨hl,ht⟩;subst this;exact M4 (k H' s')
end
end My
namespace My
open PySem L2 Mth
section
def an8:Sp:=fun vs H Q _=>∃(a b:Addr) (p q:List Int),vs=[.ref a,.ref b]/\B9 H a p/\B9 H b q/\p.length=q.length/\
 ∀(l:Addr) (H':Hp),H l=none->c9 H H'->H' l=some (.lst ((j8 p q).map V.int))->Q (.ref l) H'
end
end My
namespace My
open PySem L2 Mth
section
variable {P:Program} {w:World} {K:PySem.W.Frag} {mg:Str->Option Value} {base:Heap}
def bt1 (K:PySem.W.Frag):Sp:=fun vs H Q _=>∃(a:Addr) (ns:List Int) (k:Int),vs=[.ref a,.int k]/\g9 K H a (ns.map V.int)/\0<=k/\k<=100/\∀(l:Addr) (H':Hp),H l=none->c9 H H'->D4 H' l 4300->Q (.ref l) H'
theorem bt2:m8 ["script","k","cell"] ["script","k"] (j6 an5):=by rfl'
theorem db8 {f:Addr}{fd:FuncData}(F:A9 K "_law_pool" "_law_pool" an5 f fd)(B:Bl mg):p6 P w K mg base A8 1 f fd ["script","k"] (bt1 K):=by
 refine F.ok bt2 (fun vs H Q E h=> ?_) (fun cdv A outer s H vs Q E hr h=> ?_)
 · obtain ⟨a,ns,k,rfl,_⟩:=h;rfl
 · obtain ⟨a,ns,k,rfl,ha,k0,k1,q⟩:=h
   refine ⟨_,e8 (i8 (i:=2) bt2.nd rfl (Or.inl rfl) i6)
     (e8 (C3 (p8 bb7 (pv 1) (p9 B.len (c5 (pv 0) c6)) (w5 _)) (g6 (i8 (i:=2) bt2.nd rfl (Or.inl rfl) (I0 B5 (pv 0) (pv 1) (fun _ _=>rfl)))) y7)
     (g6 (l9 (p5 (c5 (pv 2) (c5 (da1 B.int (c5 (ca2 cw7 (pv 2) (n5 df5 i6 i6) (w5 _)) c6)) (c5 (n5 N7 i6 (pv 1)) c6))))))),?_⟩
   refine ⟨_,rfl,_,rfl,a,_,rfl,.inl ha,_,_,rfl,rfl,_,rfl,?_⟩;rw[dr6];have cp:df4 10 18:=⟨by decide,by decide,by decide⟩;refine O7 (fun h=> ?_) (fun h=> ?_)
   · have h:k < (ns.length:Int):=of_decide_eq_true h;refine ⟨_,rfl,_,rfl,a,_,k,_,rfl,rfl,ha,aj5 k0 h,?_⟩;refine ⟨_,rfl,_,rfl,_,_,rfl,rfl,cp,_,_,rfl,rfl,_,rfl,_,rfl,_,_,rfl,rfl,.inl ⟨by decide,by decide⟩,(by show 3<=sizeLine;decide),fun l hl=> ?_⟩;exact q l _ hl (c9.upd_new hl) ⟨_,_,_,c7,by omega,by omega⟩
   · refine ⟨_,rfl,_,rfl,_,_,rfl,rfl,cp,_,_,rfl,rfl,_,rfl,_,rfl,_,_,rfl,rfl,.inl ⟨by decide,by decide⟩,(by show 3<=sizeLine;decide),fun l hl=> ?_⟩;exact q l _ hl (c9.upd_new hl) ⟨_,_,_,c7,by omega,by omega⟩
def bd9:Sp:=fun vs H Q _=>∃(a:Addr) (c:Nat) (m:Int),vs=[.ref a,.int m]/\D4 H a c/\c<=1000000/\0 < m/\m<=1000000000000000000000000000000/\∀(r:Int) (H':Hp),0<=r->r < m->D4 H' a (c+1)->j5 a H H'->Q (.int r) H'
theorem as2:m8 ["pool","many","found","x"] ["pool","many"] (j6 an6):=by rfl'
theorem db9 {f:Addr}{fd:FuncData}(F:A9 K "_law_draw" "_law_draw" an6 f fd):p6 P w K mg base A8 1 f fd ["pool","many"] bd9:=by
 refine F.ok as2 (fun vs H Q E h=> ?_) (fun cdv A outer s H vs Q E hr h=> ?_)
 · obtain ⟨a,c,m,rfl,_⟩:=h;rfl
 · obtain ⟨a,c,m,rfl,⟨x,y,z,ha,hz,hzc⟩,hc,m0,m1,q⟩:=h
   refine ⟨_,e8 (C3 (p8 U5 (I0 B5 (pv 0) i6 (fun _ _=>rfl)) i6 (w5 _))
       (e8 (i8 (i:=2) as2.nd rfl (Or.inl rfl) (n5 R7 (I0 B5 (pv 0) i6 (fun _ _=>rfl)) (pv 1)))
       (e8 (aa9 (n5 cs4 (I0 B5 (pv 0) i6 (fun _ _=>rfl)) (pv 1)) (aa8 (pv 0) i6 R8))
       (g6 (l9 (pv 2))))) y7)
     (e8 (aa9 (n5 E9 (I0 B5 (pv 0) i6 (fun _ _=>rfl)) i6) (aa8 (pv 0) i6 R8))
     (e8 (i8 (i:=3) as2.nd rfl (Or.inl rfl) (n5 R7 (n5 E9 (n5 R7 (I0 B5 (pv 0) i6 (fun _ _=>rfl)) i6) (n5 N7 i6 (I0 B5 (pv 0) i6 (fun _ _=>rfl)))) i6))
     (e8 (i8 (i:=3) as2.nd rfl (Or.inl rfl) (n5 R7 (n5 N7 (pv 3) (pv 3)) i6))
     (e8 (i8 (i:=3) as2.nd rfl (Or.inl rfl) (n5 R7 (n5 N7 (n5 E9 (pv 3) i6) (pv 3)) i6))
     (g6 (l9 (n5 R7 (n5 cy3 (pv 3) i6) (pv 1)))))))),?_⟩
   refine ⟨_,rfl,a,_,_,_,rfl,rfl,g9.of ha,(G7 (j:=1) rfl),rfl,_,rfl,?_⟩;refine O7 (fun h=> ?_) (fun h=> ?_)
   · refine ⟨_,rfl,a,_,_,_,rfl,rfl,g9.of ha,(G7 (j:=0) rfl),_,rfl,_,_,rfl,rfl,m0,?_⟩;refine ⟨_,rfl,a,_,_,_,rfl,rfl,g9.of ha,(G7 (j:=0) rfl),_,rfl,_,_,rfl,rfl,⟨m0,m1⟩,?_⟩;refine ⟨_,rfl,a,_,_,0,rfl,rfl,ha,rfl,?_⟩;refine ⟨_,rfl,q _ _ (eb6 _ (by omega)) (ef9 _ m0) ⟨_,_,_,c7,hz,by omega⟩ j5.upd⟩
   · refine ⟨_,rfl,a,_,_,_,rfl,rfl,g9.of ha,(G7 (j:=2) rfl),_,_,rfl,rfl,?_⟩;refine ⟨_,rfl,a,_,_,2,rfl,rfl,ha,rfl,?_⟩;have ha2:(c8 H a (.lst [.int x,.int y,.int (z+1)])) a=some (.lst [.int x,.int y,.int (z+1)]):=c7
     have e64:(2:Int)^64=18446744073709551616:=by decide
     refine ⟨_,rfl,a,_,_,_,rfl,rfl,g9.of ha2,(G7 (j:=0) rfl),_,_,rfl,rfl,(by show (0:Int) < 999999999989;decide),_,rfl,a,_,_,_,rfl,rfl,g9.of ha2,(G7 (j:=2) rfl),_,_,rfl,rfl,.inl ⟨by decide,by decide⟩,_,_,rfl,rfl,_,_,rfl,rfl,(by show (0:Int) < 999999999989;decide),?_⟩;refine ⟨_,rfl,_,rfl,_,_,rfl,rfl,.inl ⟨by rw[e64];omega,by rw[e64];omega⟩,_,_,rfl,rfl,(by show (0:Int) < 1000000000039;decide),?_⟩;refine ⟨_,rfl,_,_,rfl,rfl,_,rfl,_,_,rfl,rfl,.inl ⟨by rw[e64];omega,by rw[e64];omega⟩,_,_,rfl,rfl,(by show (0:Int) < 999999999961;decide),?_⟩;refine ⟨_,rfl,_,_,rfl,rfl,⟨by decide,by decide⟩,_,rfl,_,_,rfl,rfl,m0,?_⟩;exact q _ _ (eb6 _ (by omega)) (ef9 _ m0) ⟨_,_,_,c7,by omega,by omega⟩ j5.upd
def bp1 (H:Hp)(l:Addr):Nat:=match H l with
 |some (.lst xs)=>xs.length
 |_=>0
theorem an9 {H:Hp}{l:Addr}{xs:List V}(h:H l=some (.lst xs)):bp1 H l=xs.length:=by unfold bp1;rw[h]
def bt3:Sp:=fun vs H Q _=>∃(a:Addr) (c:Nat) (m:Int),vs=[.ref a,.int m]/\D4 H a c/\0<=m/\m<=40/\c<=800000/\
 ∀(l:Addr) (p:List Int) (H':Hp),H l=none->j7 p->(p.length:Int)=m->H' l=some (.lst (p.map V.int))->D4 H' a (c+100)->j5 a H H'->Q (.ref l) H'
theorem U4:m8 ["pool","many","left","row","most","found","at","part","k","thing"] ["pool","many"] (j6 an7):=by rfl'
theorem dc0 {f:Addr}{fd:FuncData}(F:A9 K "_law_turn" "_law_turn" an7 f fd)(B:Bl mg)(cT:l8 P w K mg base "_law_draw" 1 ["pool","many"] bd9):p6 P w K mg base A8 2 f fd ["pool","many"] bt3:=by
 refine F.ok U4 (fun vs H Q E h=> ?_) (fun cdv A outer s H vs Q E hr h=> ?_)
 · obtain ⟨a,c,m,rfl,_⟩:=h;rfl
 · obtain ⟨a,c,n,rfl,hp,n0,n1,hc,q⟩:=h;have hu:=T2 hr
   refine ⟨_,e8 (i8 (i:=2) U4.nd rfl (Or.inl rfl) (ad0 rfl B.list B.range (c5 (pv 1) c6)))
     (e8 (i8 (i:=3) U4.nd rfl (Or.inl rfl) (p5 c6))
     (e8 (al3 PassesOwn.never (p8 (bc3 0 hu) (pv 2) (p5 c6) (w5 _))
       (g6 (w6 (B0 (pv 3) (c5 (cs0 (pv 2) (c5 (h8 cT hr (c5 (pv 0) (c5 (p9 B.len (c5 (pv 2) c6)) c6))) c6)) c6)))))
     (e8 (C3 (p8 U5 (h8 cT hr (c5 (pv 0) (c5 i6 c6))) i6 (w5 _)) (g6 (l9 (pv 3))) y7)
     (e8 (i8 (i:=4) U4.nd rfl (Or.inl rfl) (n5 E9 i6 (h8 cT hr (c5 (pv 0) (c5 i6 c6)))))
     (e8 (i8 (i:=5) U4.nd rfl (Or.inl rfl) (ad0 rfl B.list B.range (c5 (pv 1) c6)))
     (e8 (i8 (i:=6) U4.nd rfl (Or.inl rfl) i6)
     (e8 (al3 PassesOwn.never (p8 bb7 (pv 6) (pv 1) (w5 _))
       (e8 (i8 (i:=7) U4.nd rfl (Or.inl rfl) (N4 Q6 (pv 3) (N8 (pv 6)) (N8 (n5 E9 (n5 E9 (pv 6) i6) (h8 cT hr (c5 (pv 0) (c5 (pv 4) c6)))))))
       (e8 (n9 PassesOwn.never rfl (W0 B.enum (c5 (pv 7) c6)) (M1 rfl (q5 (i7 (i:=8) U4.nd rfl (Or.inl rfl)) (q5 (i7 (i:=9) U4.nd rfl (Or.inl rfl)) J3)))
         (g6 (aa9 (I0 B5 (pv 7) (n5 R7 (n5 E9 (pv 8) i6) (p9 B.len (c5 (pv 7) c6))) (fun _ _=>rfl)) (aa8 (pv 5) (pv 9) R8))))
       (g6 (i8 (i:=6) U4.nd rfl (Or.inl rfl) (n5 E9 (pv 6) (p9 B.len (c5 (pv 7) c6))))))))
     (g6 (l9 (pv 5)))))))))),?_⟩
   obtain ⟨px,py,pz,hpa,hpz,hpz'⟩:=id hp;refine ⟨_,rfl,_,rfl,fun r hr'=>⟨r,0,n,rfl,c7,⟨by decide,by decide,by omega,by omega⟩,by omega,fun l hl=> ?_⟩⟩
   have hlr:l≠r:=fun z=>by rw[z,c7] at hl;cases hl
   have hl0:H l=none:=by rw[g7 hlr] at hl;exact hl
   have s1:c9 H (c8 (c8 H r (.rng 0 n)) l (.lst ((K4 0 (n - 0).toNat).map V.int))):=(c9.upd_new hr').upd_r hl0
   have e0:(n - 0).toNat=n.toNat:=by rw[Int.sub_zero]
   rw[e0] at s1;rw[e0];have h1l:(c8 (c8 H r (.rng 0 n)) l (.lst ((K4 0 n.toNat).map V.int))) l=some (.lst ((K4 0 n.toNat).map V.int)):=c7;generalize (c8 (c8 H r (.rng 0 n)) l (.lst ((K4 0 n.toNat).map V.int)))=H1 at s1 h1l ⊢;refine ⟨du2 _,fun m hm=> ?_⟩;have hm0:H m=none:=s1.free hm;have nal:a≠l:=g8 hpa hl0;have nam:a≠m:=g8 hpa hm0
   have hml:m≠l:=fun z=>by rw[z,h1l] at hm;cases hm
   refine ay4 (fun σ H2=>∃(ls fs:List V),σ=[some (.ref a),some (.int n),some (.ref l),some (.ref m),none,none,none,none,none,none]/\H2 l=some (.lst ls)/\H2 m=some (.lst fs)/\(fs++ls).Perm ((K4 0 n.toNat).map V.int)/\D4 H2 a (c+fs.length)/\j5 a H H2) (fun σ H2=>bp1 H2 l)
     ⟨(K4 0 n.toNat).map V.int,[],rfl,by rw[g7 hml.symm];exact h1l,c7,List.Perm.refl _,⟨px,py,pz,by rw[g7 nam];exact s1 a _ hpa,hpz,hpz'⟩,fun b o hb _=>by rw[g7 (g8 hb hm0)];exact s1 b o hb⟩ ?_ ?_
   · rintro σ H2 ⟨ls,fs,rfl,h2l,h2m,pm,⟨x,y,z,h2a,hz0,hz1⟩,kb⟩;refine ⟨_,rfl,du2 _,fun e he=> ?_⟩;have nle:l≠e:=g8 h2l he;have nme:m≠e:=g8 h2m he;have nae:a≠e:=g8 h2a he;refine ⟨l,e,ls,[],ls.isEmpty,rfl,rfl,g9.of (by rw[g7 nle];exact h2l),g9.of c7,cz5 _ _ _ _,_,rfl,?_⟩
     have hlen:fs.length+ls.length=n.toNat:=by
       have:=pm.length_eq;rw[ds6,dr6,E8] at this;exact this
     cases ls with
     |nil=>
      refine M4 ?_;rw[du0] at pm;obtain ⟨ts,rfl,hts⟩:=cl2 pm;obtain ⟨hT,hTl⟩:=N5 hts;rw[dr6] at hz1
      have h3m:(c8 H2 e (.lst [])) m=some (.lst (ts.map V.int)):=by rw[g7 nme];exact h2m
      have P3:D4 (c8 H2 e (.lst [])) a (c+40):=⟨x,y,z,by rw[g7 nae];exact h2a,hz0,by omega⟩
      have kb3:j5 a H (c8 H2 e (.lst [])):=fun b o hb hn=>by
        have:=kb b o hb hn;rw[g7 (g8 this he)];exact this
      generalize (c8 H2 e (.lst []))=H3 at h3m P3 kb3 ⊢;refine ⟨_,rfl,a,c+40,2,rfl,P3,by omega,by decide,by decide,fun r1 H4 r10 r11 P4 kb34=>⟨rfl,_,rfl,?_⟩⟩;have h4m:=kb34 m _ h3m nam.symm;have kb4:=kb3.trans kb34;refine O7 (fun _=>⟨_,rfl,q m ts H4 hm0 hT (by omega) h4m (P4.mono (by omega)) kb4⟩) (fun _=> ?_);refine ⟨_,rfl,a,c+41,4,rfl,P4,by omega,by decide,by decide,fun r2 H5 r20 r21 P5 kb45=>⟨_,_,rfl,rfl,?_⟩⟩;have h5m:=kb45 m _ h4m nam.symm;have kb5:=kb4.trans kb45;obtain ⟨x5,y5,z5,h5a,hz5,hz5'⟩:=id P5;refine ⟨_,rfl,_,rfl,fun r' hr''=>⟨r',0,n,rfl,c7,⟨by decide,by decide,by omega,by omega⟩,by omega,fun fo hfo=> ?_⟩⟩;rw[e0]
      have hfr:fo≠r':=fun z=>by rw[z,c7] at hfo;cases hfo
      have hfo5:H5 fo=none:=by rw[g7 hfr] at hfo;exact hfo
      have s6:c9 H5 (c8 (c8 H5 r' (.rng 0 n)) fo (.lst ((K4 0 n.toNat).map V.int))):=(c9.upd_new hr'').upd_r hfo5;have h6f:(c8 (c8 H5 r' (.rng 0 n)) fo (.lst ((K4 0 n.toNat).map V.int))) fo=some (.lst ((K4 0 n.toNat).map V.int)):=c7;generalize (c8 (c8 H5 r' (.rng 0 n)) fo (.lst ((K4 0 n.toNat).map V.int)))=H6 at s6 h6f ⊢;have h6m:=s6 m _ h5m;have naf:a≠fo:=g8 h5a hfo5;have hmf:m≠fo:=g8 h5m hfo5
      have hfo0:H fo=none:=by
        cases ee:H fo with
        |none=>rfl
        |some o=>have:=kb5 fo o ee naf.symm;rw[hfo5] at this;cases this
      have kb6:j5 a H H6:=fun b o hb hn=>s6 b o (kb5 b o hb hn)
      have P6:D4 H6 a (c+42):=⟨x5,y5,z5,s6 a _ h5a,hz5,hz5'⟩
      have mob:1<=1+r2/\1+r2<=4:=by omega
      obtain ⟨mo,hmo⟩:∃mo,mo=1+r2:=⟨_,rfl⟩;rw[<-hmo] at mob
      refine ⟨fun mm σ H7=>∃(fs qs:List Int) (k:Nat) (v7 v8 v9:Option V),σ=[some (.ref a),some (.int n),some (.ref l),some (.ref m),some (.int mo),some (.ref fo),some (.int (k:Int)),v7,v8,v9]/\k<=ts.length/\H7 fo=some (.lst (fs.map V.int))/\H7 m=some (.lst (ts.map V.int))/\fs.length=ts.length/\qs.Perm (ts.take k)/\(ts.take k).map (x4 fs)=qs.map some/\D4 H7 a (c+42+k)/\j5 a H H7/\mm=ts.length - k,
        ⟨ts.length,_,[],0,none,none,none,by rw[hmo];rfl,du2 _,h6f,h6m,by rw[E8,hTl],List.Perm.refl _,rfl,P6,kb6,by omega⟩,?_⟩
      rintro mm σ H7 ⟨fs,qs,k,v7,v8,v9,rfl,hk,h7f,h7m,hfl,hq,hmap,P7,kb7,rfl⟩;refine ⟨_,rfl,_,rfl,_,_,rfl,rfl,_,rfl,?_⟩;refine O7 (fun hlt=> ?_) (fun hge=> ?_)
      · have hlt:(k:Int) < n:=of_decide_eq_true hlt
        have hkl:k < ts.length:=by omega
        refine ⟨fun σ' H'=>∃m',m' < ts.length - k/\_,fun _ _ h=>h,?_⟩;refine ⟨_,rfl,_,rfl,_,rfl,_,rfl,_,_,rfl,rfl,_,rfl,_,rfl,a,c+42+k,mo,rfl,P7,by omega,by omega,by omega,fun r3 H8 r30 r31 P8 kb78=>⟨_,_,rfl,rfl,_,rfl,?_⟩⟩;have h8m:=kb78 m _ h7m nam.symm;have h8f:=kb78 fo _ h7f naf.symm;have kb8:=kb7.trans kb78;refine ⟨m,_,rfl,g9.of h8m,fun pa hpa'=> ?_⟩;obtain ⟨rn,rfl⟩:=dy9 r30
        have ecut:N9 (ts.map V.int) (some (k:Int)) (some ((k:Int)+1+(rn:Int)))=(((ts.drop k).take (min (k+1+rn) ts.length - k))).map V.int:=by
          rw[show (k:Int)+1+(rn:Int)=((k+1+rn:Nat):Int) by omega,da2 _ _ _ (by rw[dr6];exact hk),dr6,ee4,el0]
        rw[ecut];obtain ⟨L,hL⟩:∃L,L=min (k+1+rn) ts.length - k:=⟨_,rfl⟩;rw[<-hL]
        have L1:1<=L:=by omega
        have hkL:k+L<=ts.length:=by omega
        have segL:((ts.drop k).take L).length=L:=by rw[dt3,dv9];omega
        have segAt:∀u,u < L->((ts.drop k).take L)[u]? =some (ts.getD (k+u) 0):=fun u hu=>by
          rw[dx1 hu,ec6,x8 (by omega),dr8 (by omega)]
        have s89:c9 H8 (c8 H8 pa (.lst (((ts.drop k).take L).map V.int))):=c9.upd_new hpa';have h9p:(c8 H8 pa (.lst (((ts.drop k).take L).map V.int))) pa=some (.lst (((ts.drop k).take L).map V.int)):=c7;generalize (c8 H8 pa (.lst (((ts.drop k).take L).map V.int)))=H9 at s89 h9p ⊢;obtain ⟨J2,hseg⟩:∃J2,J2=(ts.drop k).take L:=⟨_,rfl⟩;rw[<-hseg] at segL segAt h9p;have h9m:=s89 m _ h8m;have h9f:=s89 fo _ h8f
        have kb9:j5 a H H9:=fun b o hb hn=>s89 b o (kb8 b o hb hn)
        have P9:D4 H9 a (c+43+k):=by
          obtain ⟨x,y,z,e,z0,z1⟩:=id P8;exact ⟨x,y,z,s89 a _ e,z0,by omega⟩
        have npf:pa≠fo:=fun z=>by rw[z,h8f] at hpa';cases hpa'
        have npm:pa≠m:=fun z=>by rw[z,h8m] at hpa';cases hpa'
        refine ⟨_,rfl,pa,rfl,⟨_,g9.of h9p⟩,R9 (K:=K) (a:=pa) (xs:=J2.map V.int) (fun j σ H10=>∃(fs':List Int) (v8' v9':Option V),σ=[some (.ref a),some (.int n),some (.ref l),some (.ref m),some (.int mo),some (.ref fo),some (.int (k:Int)),some (.ref pa),v8',v9']/\H10 fo=some (.lst (fs'.map V.int))/\H10 m=some (.lst (ts.map V.int))/\H10 pa=some (.lst (J2.map V.int))/\fs'.length=ts.length/\(ts.take k).map (x4 fs')=qs.map some/\(∀u,u < j->x4 fs' (ts.getD (k+u) 0)=some (ts.getD (k+(u+1)%L) 0))/\D4 H10 a (c+43+k)/\j5 a H H10)
          ⟨fs,v8,v9,rfl,h9f,h9m,h9p,hfl,hmap,fun u hu=>by omega,P9,kb9⟩ (fun j σ H10 _ zz=>by obtain ⟨_,_,_,_,_,_,h,_⟩:=zz;exact g9.of h) ?_ ?_⟩
        · rintro j y σ H10 t hj ⟨fs',v8',v9',rfl,h10f,h10m,h10p,hfl',hmap',hu',P10,kb10⟩ ht;obtain ⟨zz,hzz,rfl⟩:=D9 hj
          have hjL:j < L:=by rw[<-segL];exact (dr7.mp hzz).1
          have ezz:zz=ts.getD (k+j) 0:=by
            rw[segAt j hjL] at hzz;exact (Option.some.inj hzz).symm
          subst ezz;have hjm:(j+1)%L < L:=ea2 _ (by omega)
          have hi1:k+j < ts.length:=by omega
          have s1011:c9 H10 (c8 H10 t (.tup [.int (j:Int),.int (ts.getD (k+j) 0)])):=c9.upd_new ht;refine ⟨t,_,rfl,R3.of c7,rfl,_,_,rfl,_,_,rfl,rfl,?_⟩;generalize (c8 H10 t (.tup [.int (j:Int),.int (ts.getD (k+j) 0)]))=H11 at s1011 ⊢;have h11p:=s1011 pa _ h10p;have h11f:=s1011 fo _ h10f
          have hat1:atI (J2.map V.int) (((j:Int)+1)%((J2.map V.int).length:Int))=some (.int (ts.getD (k+(j+1)%L) 0)):=by
            rw[dr6,segL,show ((j:Int)+1)%(L:Int)=(((j+1)%L:Nat):Int) by rw[ec2];rfl];exact G7 (by rw[ds0,segAt _ hjm];rfl)
          refine ⟨_,rfl,_,rfl,_,_,rfl,rfl,_,rfl,pa,_,rfl,.inl (g9.of h11p),_,_,rfl,rfl,(by rw[dr6,segL];show (0:Int) < (L:Int);omega),pa,_,_,_,rfl,rfl,g9.of h11p,hat1,?_⟩
          have htv:ts.getD (k+j) 0∈ts:=by rw[x8 hi1];exact dv7 hi1
          have t0:=hT.lo _ htv;have t1:=hT.hi _ htv;refine ⟨_,rfl,_,rfl,fo,_,_,(ts.getD (k+j) 0).toNat,rfl,rfl,h11f,?_,?_⟩
          · unfold ixN;rw[dr6,if_pos t0,if_pos (by omega)]
          have es:(fs'.map V.int).set (ts.getD (k+j) 0).toNat (.int (ts.getD (k+(j+1)%L) 0))=(fs'.set (ts.getD (k+j) 0).toNat (ts.getD (k+(j+1)%L) 0)).map V.int:=by rw[eh7]
          rw[es];refine ⟨_,_,_,rfl,c7,by rw[g7 hmf];exact s1011 m _ h10m,by rw[g7 npf];exact h11p,by rw[ec9];exact hfl',?_,?_,?_,fun b o hb hn=>by rw[g7 (g8 hb hfo0)];exact s1011 b o (kb10 b o hb hn)⟩
          · rw[<-hmap']
            refine dy3 fun u hu=> ?_
            have hut:=dx8 hu
            refine ab3 (hT.lo u hut) t0 fun z=> ?_
            obtain ⟨jj,hjj⟩:=dt7.mp hu
            have hjk:jj < k:=by
              have:=(dr7.mp hjj).1;rw[dt3] at this;omega
            rw[dx1 hjk] at hjj;have:=(dr7.mp hjj).2;exact J8 hT.nd (i:=jj) (j:=k+j) (by omega) hi1 (by omega) (by rw[x8 (show jj < ts.length by omega),this];exact z)
          · intro u hu
            by_cases huj:u=j
            · subst huj;exact Z1 (by omega)
            · have huj':u < j:=by omega
              rw[ab3 (hT.lo _ (by rw[x8 (show k+u < ts.length by omega)];exact dv7 _)) t0 (J8 hT.nd (by omega) hi1 (by omega))];exact hu' u huj'
          · obtain ⟨x,y,z,e,z0,z1⟩:=id P10;exact ⟨x,y,z,by rw[g7 naf];exact s1011 a _ e,z0,z1⟩
        · rintro σ H10 ⟨fs',v8',v9',rfl,h10f,h10m,h10p,hfl',hmap',hu',P10,kb10⟩;rw[dr6,segL] at hu';obtain ⟨qs',hq',hmap''⟩:=cs2 L1 hkL hmap' hq hu';refine ⟨_,rfl,_,rfl,pa,_,rfl,.inl (g9.of h10p),_,_,rfl,rfl,ts.length - (k+L),by omega,fs',qs',k+L,some (.ref pa),v8',v9',?_,by omega,h10f,h10m,hfl',hq',hmap'',P10.mono (by omega),kb10,rfl⟩;rw[dr6,segL,show ((k+L:Nat):Int)=(k:Int)+(L:Int) by omega];rfl
      · have hge:¬(k:Int) < n:=fun z=>hge (decide_eq_true z)
        have hkl:k=ts.length:=by omega
        rw[hkl,du1] at hq hmap;have:=(al9 hT hfl hmap).trans (hq.trans hts);obtain ⟨hF,hFl⟩:=N5 this;exact ⟨_,rfl,q fo fs H7 hfo0 hF (by omega) h7f (P7.mono (by omega)) kb7⟩
     |cons g rr=>
      refine ah2 ?_
      have h3m:(c8 H2 e (.lst [])) m=some (.lst fs):=by rw[g7 nme];exact h2m
      have h3l:(c8 H2 e (.lst [])) l=some (.lst (g::rr)):=by rw[g7 nle];exact h2l
      refine ⟨_,rfl,.inl ⟨rfl,_,g9.of h3m⟩,_,rfl,.inl ⟨rfl,_,g9.of h3l⟩,_,rfl,_,rfl,l,_,rfl,.inl (g9.of h3l),a,c+fs.length,_,rfl,⟨x,y,z,by rw[g7 nae];exact h2a,hz0,hz1⟩,by simp only[dt9] at hlen;omega,by simp only[dt9];omega,by simp only[dt9] at*;omega,?_⟩;intro j H4 j0 j1 ⟨x',y',z',h4a,hz0',hz1'⟩ kb4;have h4l:=kb4 l _ h3l nal.symm;have h4m:=kb4 m _ h3m nam.symm;obtain ⟨jn,rfl⟩:=dy9 j0
      have hjl:jn < (g::rr).length:=by simp only[dt9] at j1 ⊢;omega
      refine ⟨l,_,_,jn,(g::rr)[jn],rfl,rfl,h4l,by omega,by simp only[dt9] at*;omega,?_,dr8 hjl,?_⟩
      · have:ixN (g::rr).length (jn:Int)=some jn:=by
          unfold ixN;rw[if_pos (by omega),if_pos (by omega)];simp
        exact (bg3 this).1
      have h5m:(c8 H4 l (.lst ((g::rr).eraseIdx jn))) m=some (.lst fs):=by rw[g7 hml];exact h4m
      refine ⟨m,_,_,rfl,rfl,h5m,t6 (by simp only[dt9] at hlen;omega),?_⟩
      have e5:(c8 (c8 H4 l (.lst ((g::rr).eraseIdx jn))) m (.lst (fs++[(g::rr)[jn]]))) l=some (.lst ((g::rr).eraseIdx jn)):=by rw[g7 hml.symm,c7]
      refine ⟨⟨_,_,rfl,e5,c7,?_,⟨x',y',z',by rw[g7 nam,g7 nal];exact h4a,hz0',by rw[ds6];exact hz1'⟩,?_⟩,?_⟩
      · have pe:=bc4 (l:=g::rr) (k:=jn) (dr8 hjl);refine List.Perm.trans ?_ pm;rw[dt5];exact List.Perm.append_left fs pe
      · intro b o hb hn;have b2:=kb b o hb hn
        have b3:(c8 H2 e (.lst [])) b=some o:=by rw[g7 (g8 b2 he)];exact b2
        have b4:=kb4 b o b3 hn;rw[g7 (g8 hb hm0),g7 (g8 hb hl0)];exact b4
      · rw[an9 e5,an9 h2l,List.length_eraseIdx_of_lt hjl];simp only[dt9] at*;omega
   · rintro σ H2 Q Q' hq ⟨v,hv,h1,h2⟩;refine ⟨v,hv,h1,fun e he=> ?_⟩;obtain ⟨a1,b1,xs1,ys1,r1,e1,e2,e3,e4,e5,k1,e6,e7⟩:=h2 e he;exact ⟨a1,b1,xs1,ys1,r1,e1,e2,e3,e4,e5,k1,e6,hq _ _ e7⟩
end
end My
namespace My
open PySem L2 Mth
section
variable {P:Program} {w:World} {K:PySem.W.Frag} {mg:Str->Option Value} {base:Heap}
def O1:Sp:=fun vs H Q _=>∃(a:Addr) (p:List Int),vs=[.ref a]/\B9 H a p/\
 ∀(l:Addr) (as:List Addr) (rs:List (List Int)) (H':Hp),H l=none->c9 H H'->H' l=some (.lst (as.map V.ref))->j9 H' as rs->y8 p p.length rs->(∀b∈as,H b=none)->as.Nodup->l∉as->Q (.ref l) H'
theorem M8 {H:Hp}{as:List Addr}{rs:List (List Int)}{e:Addr}{r:List Int}(h:j9 H as rs)(he:H e=some (.lst (r.map V.int))):j9 H (as++[e]) (rs++[r]):=by
 refine ⟨by rw[ds6,ds6,h.1];rfl,fun j b q h1 h2=> ?_⟩
 by_cases hj:j < as.length
 · rw[dv0 hj] at h1;rw[dv0 (by rw[<-h.1];exact hj)] at h2;exact h.2 j b q h1 h2
 · rw[dw6 (by omega)] at h1;rw[dw6 (by rw[<-h.1];omega),<-h.1] at h2
   have hj0:j - as.length=0:=by
     have:=(dr7.mp h1).1
     simpa using this
   rw[hj0] at h1 h2;cases h1;cases h2;exact he
theorem m9 {H H':Hp}{as:List Addr}{rs:List (List Int)}(h:j9 H as rs)(k:∀b∈as,∀o,H b=some o->H' b=some o):j9 H' as rs:=
 ⟨h.1,fun j a r h1 h2=>k a (ds4 h1) _ (h.2 j a r h1 h2)⟩
theorem Z9 {H:Hp}{as:List Addr}{rs:List (List Int)}(h:j9 H as rs){b:Addr}(hb:b∈as):∃r:List Int,H b=some (.lst (r.map V.int)):=by
 obtain ⟨j,hj⟩:=dt7.mp hb;have hjl:=(dr7.mp hj).1;exact ⟨_,h.2 j b (rs[j]'(by rw[<-h.1];exact hjl)) hj (dr8 _)⟩
theorem S5 {p:List Int}{i:Nat}{rs:List (List Int)}(tp:j7 p)(h:y8 p i rs):rs.flatten.length<=p.length:=by
 refine M2 h.nd fun x hx=> ?_
 obtain ⟨r,hr,hxr⟩:=dt2.mp hx;obtain ⟨y,L,a,b,rfl,_⟩:=h.ring r hr;exact O9 tp a x hxr
theorem aa0 {p:List Int}{i:Nat}{rs:List (List Int)}(h:y8 p i rs):rs.length<=rs.flatten.length:=by
 have:∀l:List (List Int),(∀r∈l,1<=r.length)->l.length<=l.flatten.length:=by
   intro l
   induction l with
   |nil=>intro _;exact dr9 _
   |cons a r ih=>
    intro h;have h1:=h a ds1
    have h2:=ih fun x hx=>h x (ds3 _ hx)
    rw[dv5,ds6,dt9];omega
 refine this rs fun r hr=> ?_
 obtain ⟨y,L,a,b,rfl,_⟩:=h.ring r hr;rw[n6];exact b.pos
end
end My
namespace My
open PySem L2 Mth
section
variable {P:Program} {w:World} {K:PySem.W.Frag} {mg:Str->Option Value} {base:Heap}
def bt4:Sp:=fun vs H Q _=>∃(a:Addr) (p:List Int) (x:Int),vs=[.ref a,.int x]/\B9 H a p/\In p x/\
 ∀(l:Addr) (L:Nat) (H':Hp),H l=none->c9 H H'->D5 p x L->L<=40->H' l=some (.lst ((o5 p x L).map V.int))->Q (.ref l) H'
theorem be0:m8 ["p","first","ring","thing"] ["p","first"] (j6 ah7):=by rfl'
theorem dc1 {f:Addr}{fd:FuncData}(F:A9 K "walk_ring" "walk_ring" ah7 f fd):p6 P w K mg base A8 1 f fd ["p","first"] bt4:=by
 refine F.ok be0 (fun vs H Q E h=> ?_) (fun cdv A outer s H vs Q E hr h=> ?_)
 · obtain ⟨a,p,x,rfl,_⟩:=h;rfl
 · obtain ⟨a,p,x,rfl,⟨ha,tp,lp⟩,hx,q⟩:=h
   refine ⟨_,e8 (i8 (i:=2) be0.nd rfl (Or.inl rfl) (p5 (c5 (pv 1) c6)))
     (e8 (i8 (i:=3) be0.nd rfl (Or.inl rfl) (I0 B5 (pv 0) (pv 1) (fun _ _=>rfl)))
     (e8 (al3 PassesOwn.never (p8 bo2 (pv 3) (pv 1) (w5 _)) (e8 (w6 (B0 (pv 2) (c5 (pv 3) c6))) (g6 (i8 (i:=3) be0.nd rfl (Or.inl rfl) (I0 B5 (pv 0) (pv 3) (fun _ _=>rfl))))))
     (g6 (l9 (pv 2))))),?_⟩
   refine ⟨_,rfl,(by show 1<=sizeLine;decide),fun l hl=> ?_⟩;have nal:a≠l:=g8 ha hl
   have hal:(c8 H l (.lst [.int x])) a=some (.lst (p.map V.int)):=by rw[g7 nal];exact ha
   refine ⟨_,rfl,_,rfl,a,_,_,_,rfl,rfl,g9.of hal,aj5 hx.1 hx.2,?_⟩
   refine ay4 (fun σ H2=>∃m:Nat,σ=[some (.ref a),some (.int x),some (.ref l),some (.int (it p m x))]/\1<=m/\H2 l=some (.lst ((o5 p x m).map V.int))/\c9 H H2/\∀i,0 < i->i < m->it p i x≠x) (fun _ H2=>p.length+1 - bp1 H2 l)
     ⟨1,rfl,dr9 _,c7,c9.upd_new hl,fun i i0 i1=>by omega⟩ ?_ ?_
   · rintro σ H2 ⟨m,rfl,m1,h2l,s2,hne⟩;have ha2:=s2 a _ ha;refine ⟨_,rfl,_,rfl,rfl,_,rfl,?_⟩
     by_cases hb:it p m x=x
     · refine bo9 (congrArg V.int hb) ?_;exact ⟨_,rfl,q l m H2 hl s2 ⟨by omega,hb,hne⟩ (by have:=L8 tp hx hne;omega) h2l⟩
     · have hb':¬V.int (it p m x)=V.int x:=fun z=>hb (V.int.inj z)
       rw[decide_eq_false hb'];refine ah2 ?_
       have hne':∀i,0 < i->i < m+1->it p i x≠x:=fun i i0 i1=>by
         by_cases e:i=m
         · rw[e];exact hb
         · exact hne i i0 (by omega)
       have hbd:=L8 tp hx hne';refine ⟨_,rfl,.inl ⟨rfl,_,g9.of h2l⟩,_,rfl,l,_,_,rfl,rfl,h2l,t6 (by rw[dr6,n6];omega),?_⟩;have hi:=G1 tp hx m;refine ⟨_,rfl,_,rfl,a,_,_,_,rfl,rfl,g9.of (by rw[g7 nal];exact ha2),aj5 hi.1 hi.2,?_⟩
       have h3l:(c8 H2 l (.lst ((o5 p x m).map V.int++[.int (it p m x)]))) l=some (.lst ((o5 p x (m+1)).map V.int)):=by
         rw[c7,ce8,ds5];rfl
       refine ⟨⟨m+1,rfl,by omega,h3l,fun b o hb=>by rw[g7 (g8 hb hl)];exact s2 b o hb,hne'⟩,?_⟩;rw[an9 h3l,an9 h2l,dr6,dr6,n6,n6];omega
   · rintro σ H2 Q Q' hq ⟨v,hv,u,hu,e1,k1,e2,e3⟩;exact ⟨v,hv,u,hu,e1,k1,e2,hq _ _ e3⟩
theorem ad6:m8 ["p","rings","seen","first","ring","thing"] ["p"] (j6 af4):=by rfl'
theorem ct8 {f:Addr}{fd:FuncData}(F:A9 K "walk_rings" "walk_rings" af4 f fd)(B:Bl mg)(cR:l8 P w K mg base "walk_ring" 1 ["p","first"] bt4):p6 P w K mg base A8 2 f fd ["p"] O1:=by
 refine F.ok ad6 (fun vs H Q E h=> ?_) (fun cdv A outer s H vs Q E hr h=> ?_)
 · obtain ⟨a,p,rfl,_⟩:=h;rfl
 · obtain ⟨a,p,rfl,⟨ha,tp,lp⟩,q⟩:=h;have hu:=T2 hr
   refine ⟨_,e8 (i8 (i:=1) ad6.nd rfl (Or.inl rfl) (p5 c6)) (e8 (i8 (i:=2) ad6.nd rfl (Or.inl rfl) V1)
     (e8 (n9 PassesOwn.never rfl (V8 (by rfl) B.range (c5 (p9 B.len (c5 (pv 0) c6)) c6)) (i7 (i:=3) ad6.nd rfl (Or.inl rfl))
       (g6 (C3 (ci3 (cj8 hu (pv 3) (pv 2))) (e8 (i8 (i:=4) ad6.nd rfl (Or.inl rfl) (h8 cR hr (c5 (pv 0) (c5 (pv 3) c6)))) (e8 (w6 (B0 (pv 1) (c5 (pv 4) c6)))
         (g6 (n9 PassesOwn.never rfl (w4 (pv 4)) (i7 (i:=5) ad6.nd rfl (Or.inl rfl)) (g6 (av4 hu (pv 2) (pv 5) R1 rfl)))))) y7)))
     (g6 (l9 (pv 1))))),?_⟩
   refine ⟨du2 _,fun l hl=> ?_⟩;intro d hd
   have hdl:d≠l:=fun z=>by rw[z,c7] at hd;cases hd
   have hd0:H d=none:=by rw[g7 hdl] at hd;exact hd
   have s0:c9 H (c8 (c8 H l (.lst [])) d (.dK [])):=(c9.upd_new hl).upd_r hd0
   have h0l:(c8 (c8 H l (.lst [])) d (.dK [])) l=some (.lst []):=by rw[g7 hdl.symm,c7]
   refine ⟨_,rfl,a,_,rfl,.inl (g9.of (s0 a _ ha)),(p.length:Int),?_,by omega,by omega,?_⟩
   · rw[dr6]
   rw[show ((p.length:Int)).toNat=p.length by omega]
   refine K3 (lo:=0) (n:=p.length) (fun i σ H2=>∃(as:List Addr) (rs:List (List Int)) (v3 v4 v5:Option V),σ=[some (.ref a),some (.ref l),some (.ref d),v3,v4,v5]/\H2 l=some (.lst (as.map V.ref))/\H2 d=some (.dK (T3 rs.flatten))/\j9 H2 as rs/\y8 p i rs/\c9 H H2/\(∀b∈as,H b=none)/\as.Nodup/\l∉as)
     ⟨[],[],none,none,none,rfl,h0l,c7,⟨rfl,fun j b r h=>by simp at h⟩,bc7 p,s0,fun b hb=>by simp at hb,dx7,by simp⟩ ?_ ?_
   · rintro i σ H2 hi ⟨as,rs,v3,v4,v5,rfl,h2l,h2d,rows,up,s2,fa,nda,nla⟩;have hx:In p (i:Int):=⟨by omega,by omega⟩
     have e0:(0:Int)+(i:Int)=(i:Int):=by omega
     rw[e0];refine ⟨_,rfl,_,rfl,d,_,rfl,ae7.k (k:=Sum.inl (i:Int)) h2d,_,rfl,?_⟩
     by_cases hm:(i:Int)∈rs.flatten
     · rw[br5 hm];refine M4 ?_;exact ⟨as,rs,_,_,_,rfl,h2l,h2d,rows,bc8 up hm,s2,fa,nda,nla⟩
     · rw[ay8 hm];refine ah2 ?_;refine ⟨_,rfl,_,rfl,a,p,_,rfl,⟨s2 a _ ha,tp,lp⟩,hx,fun e L H3 he s23 pr hL h3e=> ?_⟩;have h3l:=s23 l _ h2l;have h3d:=s23 d _ h2d;have nle:l≠e:=g8 h2l he;have nde:d≠e:=g8 h2d he;have fl:=S5 tp up;have cl:=aa0 up;have lenas:=rows.1;refine ⟨_,rfl,.inl ⟨rfl,_,g9.of h3l⟩,_,rfl,l,_,_,rfl,rfl,h3l,t6 (by rw[dr6,lenas];omega),?_⟩
       have es:as.map V.ref++[V.ref e]=(as++[e]).map V.ref:=by rw[ds5];rfl
       rw[es];have h4l:(c8 H3 l (.lst ((as++[e]).map V.ref))) l=some (.lst ((as++[e]).map V.ref)):=c7
       have h4d:(c8 H3 l (.lst ((as++[e]).map V.ref))) d=some (.dK (T3 rs.flatten)):=by rw[g7 hdl];exact h3d
       have h4e:(c8 H3 l (.lst ((as++[e]).map V.ref))) e=some (.lst ((o5 p i L).map V.int)):=by rw[g7 nle.symm];exact h3e
       have k4:∀b o,H2 b=some o->b≠l->(c8 H3 l (.lst ((as++[e]).map V.ref))) b=some o:=fun b o hb hn=>by rw[g7 hn];exact s23 b o hb
       generalize (c8 H3 l (.lst ((as++[e]).map V.ref)))=H4 at h4l h4d h4e k4 ⊢;have fr:=ax9 up pr hm
       have ndr:=U3 tp hx fun j j0 j1=>pr.least j j0 j1
       refine ⟨_,rfl,e,rfl,⟨_,g9.of h4e⟩,A7 (K:=K) (a:=e) (xs:=(o5 p i L).map V.int) (fun j σ H5=>∃v5':Option V,σ=[some (.ref a),some (.ref l),some (.ref d),some (.int (i:Int)),some (.ref e),v5']/\H5 d=some (.dK (T3 (rs.flatten++(o5 p i L).take j)))/\j5 d H4 H5)
         ⟨v5,rfl,by rw[dz5,du0];exact h4d,j5.refl d H4⟩ (fun j σ H5 _ zz=>by obtain ⟨_,_,_,k⟩:=zz;exact g9.of (k e _ h4e nde.symm)) ?_ ?_⟩
       · rintro j y σ H5 hj ⟨v5',rfl,h5d,kb⟩;obtain ⟨z,hz,rfl⟩:=D9 hj;have hjl:j < (o5 p i L).length:=(dr7.mp hz).1;rw[n6] at hjl
         have hzn:z∉rs.flatten++(o5 p i L).take j:=by
           intro hm'
           rcases dt1.mp hm' with g|g
           · exact fr z (ds4 hz) g
           · obtain ⟨jj,hjj⟩:=dt7.mp g
             have hjk:jj < j:=by
               have:=(dr7.mp hjj).1;rw[dt3] at this;omega
             rw[dx1 hjk] at hjj;have e1:=(dr7.mp hjj).2;have e2:=(dr7.mp hz).2;exact du7.mp (dt0.mp ndr) jj j (by rw[n6];omega) (by rw[n6];omega) hjk (by rw[e1,e2])
         refine ⟨_,rfl,_,rfl,d,_,rfl,aq2.k (k:=Sum.inl z) h5d (t6 (by unfold T3;rw[dr6,ds6,dt3,n6];omega)),?_⟩;refine ⟨_,rfl,?_,kb.upd_a⟩;rw[bk3 hzn,c7,i9 hz,dt5]
       · rintro σ H5 ⟨v5',rfl,h5d,kb⟩;rw[dr6,du1] at h5d
         have nad:∀b∈as,b≠d/\b≠l:=fun b hb=>by
           obtain ⟨r,hr'⟩:=Z9 rows hb;exact ⟨cd6 hr' h2d (by intro z;cases z),fun z=>nla (z▸hb)⟩
         refine ⟨as++[e],rs++[o5 p i L],_,_,_,rfl,kb l _ h4l hdl.symm,?_,?_,bc9 tp up hx pr hm,?_,?_,?_,?_⟩
         · rw[h5d,dz7,eb4]
         · exact M8 (m9 rows fun b hb o ho=>kb b o (k4 b o ho (nad b hb).2) (nad b hb).1) (kb e _ h4e nde.symm)
         · exact fun b o hb=>kb b o (k4 b o (s2 b o hb) (g8 hb hl)) (g8 hb hd0)
         · intro b hb
           rcases dt1.mp hb with g|g
           · exact fa b g
           · have:b=e:=by simpa using g
             rw[this];exact s2.free he
         · refine av5 nda fun g=> ?_
           obtain ⟨r,hr'⟩:=Z9 rows g;rw[he] at hr';cases hr'
         · intro g
           rcases dt1.mp g with g|g
           · exact nla g
           · exact nle (by simpa using g)
   · rintro σ H2 ⟨as,rs,v3,v4,v5,rfl,h2l,h2d,rows,up,s2,fa,nda,nla⟩;exact ⟨_,rfl,q l as rs H2 hl s2 h2l rows up fa nda nla⟩
end
end My
namespace My
open PySem L2 Mth
section
variable {P:Program} {w:World} {K:PySem.W.Frag} {mg:Str->Option Value} {base:Heap}
def as3:Sp:=fun vs H Q _=>∃(t r:Addr) (ts rs:List Int) (k:Int),vs=[.ref t,.ref r,.int k]/\H t=some (.lst (ts.map V.int))/\H r=some (.lst (rs.map V.int))/\t≠r/\rs.Nodup/\(∀x∈rs,0<=x/\x < ts.length)/\
 ∀(ts':List Int) (H':Hp),ts'.length=ts.length->(∀j,j < rs.length->x4 ts' (rs.getD j 0)=some (rs.getD (((j:Int)+k)%(rs.length:Int)).toNat 0))->(∀u,0<=u->u∉rs->x4 ts' u=x4 ts u)->H' t=some (.lst (ts'.map V.int))->j5 t H H'->Q .non H'
theorem bt5:m8 ["target","ring","steps","place","thing"] ["target","ring","steps"] (j6 S4):=by rfl'
theorem dc2 {f:Addr}{fd:FuncData}(F:A9 K "send_along" "send_along" S4 f fd)(B:Bl mg):p6 P w K mg base A8 1 f fd ["target","ring","steps"] as3:=by
 refine F.ok bt5 (fun vs H Q E h=> ?_) (fun cdv A outer s H vs Q E hr h=> ?_)
 · obtain ⟨t,r,ts,rs,k,rfl,_⟩:=h;rfl
 · obtain ⟨t,r,ts,rs,k,rfl,ht,hrr,ntr,nd,bd,q⟩:=h
   refine ⟨_,g6 (n9 PassesOwn.never rfl (W0 B.enum (c5 (pv 1) c6)) (M1 rfl (q5 (i7 (i:=3) bt5.nd rfl (Or.inl rfl)) (q5 (i7 (i:=4) bt5.nd rfl (Or.inl rfl)) J3)))
     (g6 (aa9 (I0 B5 (pv 1) (n5 R7 (n5 E9 (pv 3) (pv 2)) (p9 B.len (c5 (pv 1) c6))) (fun _ _=>rfl)) (aa8 (pv 0) (pv 4) R8)))),?_⟩
   refine ⟨_,rfl,r,rfl,⟨_,g9.of hrr⟩,R9 (K:=K) (a:=r) (xs:=rs.map V.int) (fun i σ H2=>∃(ts':List Int) (v3 v4:Option V),σ=[some (.ref t),some (.ref r),some (.int k),v3,v4]/\H2 t=some (.lst (ts'.map V.int))/\ts'.length=ts.length/\(∀j,j < i->x4 ts' (rs.getD j 0)=some (rs.getD (((j:Int)+k)%(rs.length:Int)).toNat 0))/\(∀u,0<=u->u∉rs->x4 ts' u=x4 ts u)/\j5 t H H2)
     ⟨ts,none,none,rfl,ht,rfl,fun j hj=>by omega,fun u _ _=>rfl,j5.refl t H⟩ (fun i σ H2 _ zz=>by obtain ⟨_,_,_,_,_,_,_,_,k⟩:=zz;exact g9.of (k r _ hrr ntr.symm)) ?_ ?_⟩
   · rintro i y σ H2 tt hi ⟨ts',v3,v4,rfl,h2t,hl,hj,hu,kb⟩ htt;obtain ⟨z,hz,rfl⟩:=D9 hi;have hil:i < rs.length:=(dr7.mp hz).1;have h2r:=kb r _ hrr ntr.symm;have nt:t≠tt:=g8 h2t htt;have nr:r≠tt:=g8 h2r htt
     have h3r:(c8 H2 tt (.tup [.int (i:Int),.int z])) r=some (.lst (rs.map V.int)):=by rw[g7 nr];exact h2r
     have h3t:(c8 H2 tt (.tup [.int (i:Int),.int z])) t=some (.lst (ts'.map V.int)):=by rw[g7 nt];exact h2t
     have L0:(0:Int) < (rs.length:Int):=by omega
     have m0:=eb6 ((i:Int)+k) (show (rs.length:Int)≠0 by omega);have m1:=ef9 ((i:Int)+k) L0;refine ⟨tt,_,rfl,R3.of c7,rfl,_,_,rfl,_,_,rfl,rfl,?_⟩;refine ⟨_,rfl,_,rfl,_,rfl,_,_,rfl,rfl,_,rfl,r,_,rfl,.inl (g9.of h3r),?_⟩;rw[dr6];refine ⟨_,_,rfl,rfl,L0,r,_,_,_,rfl,rfl,g9.of h3r,aj5 m0 m1,?_⟩;obtain ⟨z0,z1⟩:=bd z (ds4 hz);refine ⟨_,rfl,_,rfl,t,_,_,z.toNat,rfl,rfl,h3t,?_,?_⟩
     · unfold ixN;rw[dr6,if_pos z0,if_pos (by omega)]
     have es:(ts'.map V.int).set z.toNat (.int (rs.getD (((i:Int)+k)%(rs.length:Int)).toNat 0))=(ts'.set z.toNat (rs.getD (((i:Int)+k)%(rs.length:Int)).toNat 0)).map V.int:=by rw[eh7]
     rw[es]
     have hzi:rs.getD i 0=z:=by rw[x8 hil];exact (dr7.mp hz).2
     refine ⟨_,_,_,rfl,c7,by rw[ec9];exact hl,fun j hji=> ?_,fun u u0 un=> ?_,fun b o hb hn=> ?_⟩
     · by_cases e:j=i
       · subst e;rw[hzi,Z1 (by omega)]
       · have hjl:j < rs.length:=by omega
         have:rs.getD j 0≠z:=by rw[<-hzi];exact J8 nd hjl hil e
         rw[ab3 (bd _ (by rw[x8 hjl];exact dv7 hjl)).1 z0 this];exact hj j (by omega)
     · rw[ab3 u0 z0 (fun e=>un (e▸ds4 hz))];exact hu u u0 un
     · have:=kb b o hb hn;rw[g7 hn,g7 (g8 this htt)];exact this
   · rintro σ H2 ⟨ts',v3,v4,rfl,h2t,hl,hj,hu,kb⟩;rw[dr6] at hj;exact q ts' H2 hl hj hu h2t kb
end
end My
namespace My
open PySem L2 Mth
section
variable {P:Program} {w:World} {K:PySem.W.Frag} {mg:Str->Option Value} {base:Heap}
def bh5:Sp:=fun vs H Q _=>∃(a:Addr) (p:List Int) (k:Int),vs=[.ref a,.int k]/\B9 H a p/\∀(l:Addr) (t:List Int) (H':Hp),H l=none->c9 H H'->y6 p k t->H' l=some (.lst (t.map V.int))->Q (.ref l) H'
theorem bh6:m8 ["p","k","told","ring"] ["p","k"] (j6 an2):=by rfl'
theorem ct9 {f:Addr}{fd:FuncData}(F:A9 K "power_of" "power_of" an2 f fd)(B:Bl mg)(cM:l8 P w K mg base "must_be_turn" 3 ["thing"] ak2)(cR:l8 P w K mg base "walk_rings" 2 ["p"] O1)(cS:l8 P w K mg base "send_along" 1 ["target","ring","steps"] as3):p6 P w K mg base A8 4 f fd ["p","k"] bh5:=by
 refine F.ok bh6 (fun vs H Q E h=> ?_) (fun cdv A outer s H vs Q E hr h=> ?_)
 · obtain ⟨a,p,k,rfl,_⟩:=h;rfl
 · obtain ⟨a,p,k,rfl,⟨ha,tp,lp⟩,q⟩:=h
   refine ⟨_,e8 (w6 (h8 cM hr (c5 (pv 0) c6))) (e8 (i8 (i:=2) bh6.nd rfl (Or.inl rfl) (K5 B.list (c5 (pv 0) c6)))
     (e8 (n9 PassesOwn.never rfl (w4 (h8 cR (hr.mono (by decide)) (c5 (pv 0) c6))) (i7 (i:=3) bh6.nd rfl (Or.inl rfl)) (g6 (w6 (h8 cS (hr.mono (by decide)) (c5 (pv 2) (c5 (pv 3) (c5 (pv 1) c6)))))))
     (g6 (l9 (pv 2))))),?_⟩
   refine ⟨_,rfl,a,p,rfl,⟨ha,tp,lp⟩,fun H1 s1=> ?_⟩;refine ⟨_,rfl,a,_,rfl,.inl (g9.of (s1 a _ ha)),fun l hl=> ?_⟩;have hl0:H l=none:=s1.free hl;have s2:c9 H (c8 H1 l (.lst (p.map V.int))):=s1.upd_r hl0;have h2l:(c8 H1 l (.lst (p.map V.int))) l=some (.lst (p.map V.int)):=c7;generalize (c8 H1 l (.lst (p.map V.int)))=H2 at s2 h2l ⊢;refine ⟨_,rfl,a,p,rfl,⟨s2 a _ ha,tp,lp⟩,fun g as rs H3 hg s23 h3g rows up fa nda nga=> ?_⟩;have h3l:=s23 l _ h2l
   have ngl:g≠l:=fun z=>by rw[z,h2l] at hg;cases hg
   refine ⟨g,rfl,⟨_,g9.of h3g⟩,A7 (K:=K) (a:=g) (xs:=as.map V.ref) (fun i σ H4=>∃(ts:List Int) (v3:Option V),σ=[some (.ref a),some (.int k),some (.ref l),v3]/\H4 l=some (.lst (ts.map V.int))/\ts.length=p.length/\(∀x∈(rs.take i).flatten,∃L,D5 p x L/\x4 ts x=some (it p (k%(L:Int)).toNat x))/\j5 l H3 H4)
     ⟨p,none,rfl,h3l,rfl,fun x hx=>by simp at hx,j5.refl l H3⟩ (fun i σ H4 _ zz=>by obtain ⟨_,_,_,_,_,_,kb⟩:=zz;exact g9.of (kb g _ h3g ngl)) ?_ ?_⟩
   · rintro i y σ H4 hi ⟨ts,v3,rfl,h4l,hl4,hx4,kb⟩;rw[ds0] at hi
     cases hai:as[i]? with
     |none=>rw[hai] at hi;cases hi
     |some e=>
      rw[hai] at hi;cases hi;have hil:i < as.length:=(dr7.mp hai).1;have hri:rs[i]? =some (rs[i]'(by rw[<-rows.1];exact hil)):=dr8 _;generalize hR:rs[i]'(by rw[<-rows.1];exact hil)=R at hri;have h3e:=rows.2 i e R hai hri;have hRm:R∈rs:=ds4 hri;obtain ⟨x,L,hx,pr,eR,_⟩:=up.ring R hRm
      have nle:l≠e:=fun z=>by have:=fa e (ds4 hai);rw[<-z,h2l] at this;cases this
      have h4e:=kb e _ h3e nle.symm;refine ⟨_,rfl,_,rfl,_,rfl,l,e,ts,R,k,rfl,h4l,h4e,nle,?_,?_,?_⟩
      · rw[eR];exact U3 tp hx fun j j0 j1=>pr.least j j0 j1
      · intro y hy;rw[eR] at hy;have:=O9 tp hx y hy;rw[hl4];exact this
      intro ts' H5 hl5 hj hu h5l kb5;refine ⟨ts',_,rfl,h5l,by omega,fun y hy=> ?_,kb.trans kb5⟩;rw[i9 hri,dz7,eb4] at hy
      have hsplit:rs.flatten=(rs.take i).flatten++(R++(rs.drop (i+1)).flatten):=by
        conv=>lhs;rw[<-dx0 i rs,dz7]
        rw[ea3 (by rw[<-rows.1];exact hil),hR,dv5]
      by_cases hyR:y∈R
      · rw[eR] at hyR;obtain ⟨j,hjL,rfl⟩:=A5.mp hyR;refine ⟨L,pr.shift tp hx j,?_⟩
        have hjr:j < R.length:=by rw[eR,n6];exact hjL
        have:=hj j hjr
        have rl:(R.length:Int)=(L:Int):=by rw[eR,n6]
        rw[rl] at this;have b0:=eb6 ((j:Int)+k) (show (L:Int)≠0 by have:=pr.pos;omega);have b1:=ef9 ((j:Int)+k) (show (0:Int) < (L:Int) by have:=pr.pos;omega);rw[eR,D3 hjL,D3 (by omega),ce9 pr] at this;exact this
      · rcases dt1.mp hy with g'|g'
        · obtain ⟨M,pm,em⟩:=hx4 y g';refine ⟨M,pm,?_⟩
          have y0:0<=y:=by
            obtain ⟨r,hr',hyr⟩:=dt2.mp g';obtain ⟨x',L',hx',_,er,_⟩:=up.ring r (dx8 hr');rw[er] at hyr;exact (O9 tp hx' y hyr).1
          rw[hu y y0 hyR];exact em
        · exact absurd g' hyR
   · rintro σ H4 ⟨ts,v3,rfl,h4l,hl4,hx4,kb⟩;rw[dr6,rows.1,du1] at hx4;refine ⟨_,rfl,q l ts H4 hl0 (fun b o hb=>kb b o (s23 b o (s2 b o hb)) (g8 hb hl0)) ⟨hl4,fun x hx=>hx4 x (up.all x hx.1 hx.2)⟩ h4l⟩
end
end My
namespace My
open PySem L2 Mth
section
variable {P:Program} {w:World} {K:PySem.W.Frag} {mg:Str->Option Value} {base:Heap}
theorem cf6:m8 ["p"] ["p"] (j6 ah9):=by rfl'
theorem by8 {f:Addr}{fd:FuncData}(F:A9 K "rounds_of" "rounds_of" ah9 f fd)(cM:l8 P w K mg base "must_be_turn" 3 ["thing"] ak2)(cR:l8 P w K mg base "walk_rings" 2 ["p"] O1):p6 P w K mg base A8 4 f fd ["p"] O1:=by
 refine F.ok cf6 (fun vs H Q E h=> ?_) (fun cdv A outer s H vs Q E hr h=> ?_)
 · obtain ⟨a,p,rfl,_⟩:=h;rfl
 · obtain ⟨a,p,rfl,⟨ha,tp,lp⟩,q⟩:=h;refine ⟨_,e8 (w6 (h8 cM hr (c5 (pv 0) c6))) (g6 (l9 (h8 cR (hr.mono (by decide)) (c5 (pv 0) c6)))),?_⟩;refine ⟨_,rfl,a,p,rfl,⟨ha,tp,lp⟩,fun H1 s1=> ?_⟩;exact ⟨_,rfl,a,p,rfl,⟨s1 a _ ha,tp,lp⟩,fun l as rs H' hl s' h1 h2 h3 h4 h5 h6=>q l as rs H' (s1.free hl) (s1.trans s') h1 h2 h3 (fun b hb=>s1.free (h4 b hb)) h5 h6⟩
end
end My
namespace My
open PySem L2 Mth
section
variable {P:Program} {w:World} {K:PySem.W.Frag} {mg:Str->Option Value} {base:Heap}
def cf7:Sp:=fun vs H Q _=>∃(x y:Nat),vs=[.int (x:Int),.int (y:Int)]/\Q (.int (dw5 x y:Nat)) H
theorem bp2:m8 ["a","b","rest"] ["a","b"] (j6 X1):=by rfl'
def cu0 (σ:St):Nat:=match σ[1]? with
 |some (some (V.int i))=>i.toNat
 |_=>0
theorem di2 {f:Addr}{fd:FuncData}(F:A9 K "greatest_part" "greatest_part" X1 f fd):p6 P w K mg base A8 1 f fd ["a","b"] cf7:=by
 refine F.ok bp2 (fun vs H Q E h=> ?_) (fun cdv A outer s H vs Q E hr h=> ?_)
 · obtain ⟨x,y,rfl,_⟩:=h;rfl
 · obtain ⟨x,y,rfl,q⟩:=h
   refine ⟨_,e8 (al3 PassesOwn.never (p8 bo2 (pv 1) i6 (w5 _))
       (e8 (i8 (i:=2) bp2.nd rfl (Or.inl rfl) (n5 R7 (pv 0) (pv 1))) (e8 (i8 (i:=0) bp2.nd rfl (Or.inl rfl) (pv 1)) (g6 (i8 (i:=1) bp2.nd rfl (Or.inl rfl) (pv 2))))))
     (g6 (l9 (pv 0))),?_⟩
   refine ay4 (fun σ H2=>∃(a b:Nat) (v:Option V),σ=[some (.int (a:Int)),some (.int (b:Int)),v]/\dw5 a b=dw5 x y/\H2=H) (fun σ _=>cu0 σ) ⟨x,y,none,rfl,rfl,rfl⟩ ?_ ?_
   · rintro σ H2 ⟨a,b,v,rfl,hg,rfl⟩;refine ⟨_,rfl,rfl,_,rfl,?_⟩
     by_cases hb:b=0
     · subst hb;refine bo9 (by rfl) ?_;refine ⟨_,rfl,?_⟩;rw[Nat.gcd_zero_right] at hg;rw[hg];exact q
     · have hb':¬V.int (b:Int)=V.int 0:=fun z=>hb (by have:=V.int.inj z;omega)
       rw[decide_eq_false hb'];refine ah2 ?_;refine ⟨_,rfl,_,rfl,_,_,rfl,rfl,(by show (0:Int) < (b:Int);omega),_,rfl,_,rfl,⟨b,a%b,some (.int ((a:Int)%(b:Int))),?_,?_,rfl⟩,?_⟩
       · rw[ec2];rfl
       · rw[<-hg,Nat.gcd_comm a b,Nat.gcd_rec b a,Nat.gcd_comm]
       · show ((a:Int)%(b:Int)).toNat < ((b:Int)).toNat;have:=ef9 (a:Int) (show (0:Int) < (b:Int) by omega);have:=eb6 (a:Int) (show (b:Int)≠0 by omega);omega
   · rintro σ H2 Q Q' hq ⟨v,hv,e1,k1,e2,e3⟩;exact ⟨v,hv,e1,k1,e2,hq _ _ e3⟩
end
end My
namespace My
open PySem L2 Mth
section
variable {P:Program} {w:World} {K:PySem.W.Frag} {mg:Str->Option Value} {base:Heap}
noncomputable def K7 (p:List Int):List Int:=(i4 p p.length).map fun r=>(r.length:Int)
def bt6:Sp:=fun vs H Q _=>∃(a:Addr) (p:List Int),vs=[.ref a]/\B9 H a p/\∀(l:Addr) (ms:List Int) (H':Hp),H l=none->c9 H H'->ms.Perm (K7 p)->ms.Pairwise (· ≥ ·)->(∀x∈ms,1<=x/\x<=40)->ms.length<=40->H' l=some (.lst (ms.map V.int))->Q (.ref l) H'
theorem di3:m8 ["p"] ["p"] (j6 ar9):=by rfl'
theorem di4:(["ring"]:List Str).Nodup:=by decide+kernel
theorem dc3 {p:List Int}{rs:List (List Int)}(tp:j7 p)(lp:p.length<=40)(up:y8 p p.length rs):(∀x∈rs.map (fun r=>(r.length:Int)),1<=x/\x<=40)/\rs.length<=40:=by
 refine ⟨fun x hx=> ?_,by have:=aa0 up;have:=S5 tp up;omega⟩;obtain ⟨r,hr,rfl⟩:=ds9.mp hx;obtain ⟨y,L,hy,pr,er,_⟩:=up.ring r hr
 have:=L8 tp hy (m:=L) fun i i0 i1=>pr.least i i0 i1
 have:=pr.pos;rw[er,n6];omega
theorem dc4 {f:Addr}{fd:FuncData}(F:A9 K "kind_of" "kind_of" ar9 f fd)(B:Bl mg)(bs:mg "sorted"=none)(cR:l8 P w K mg base "rounds_of" 4 ["p"] O1):p6 P w K mg base A8 5 f fd ["p"] bt6:=by
 refine F.ok di3 (fun vs H Q E h=> ?_) (fun cdv A outer s H vs Q E hr h=> ?_)
 · obtain ⟨a,p,rfl,_⟩:=h;rfl
 · obtain ⟨a,p,rfl,⟨ha,tp,lp⟩,q⟩:=h;refine ⟨_,g6 (l9 (br7 bs (c5 (aj4 (N:=["ring"]) (nl:=1) (fr:=[]) rfl .of (w4 (h8 cR hr (c5 (pv 0) c6))) (fun _ _ _ _ _=>i7 (i:=0) di4 rfl (Or.inl rfl)) (fun _ _ _ _ _=>al7) (fun _ _ _ _ _=>cs1 K B.len (c5 (pv 0) c6))) c6))),?_⟩;refine ⟨_,rfl,a,p,rfl,⟨ha,tp,lp⟩,fun l as rs H1 hl s1 h1l rows up fa nda nla=> ?_⟩;obtain ⟨bd,lrs⟩:=dc3 tp lp up;refine ⟨l,rfl,⟨_,g9.of h1l⟩,ab2 (K:=K) (a:=l) (xs:=as.map V.ref) (fun i ys σ H2=>∃v:Option V,σ=[v]/\H2=H1/\ys=((rs.take i).map fun r=>(r.length:Int)).map V.int) ⟨none,rfl,rfl,rfl⟩ (fun i ys σ H2 _ zz=>by obtain ⟨_,_,e,_⟩:=zz;rw[e];exact g9.of h1l) ?_ ?_⟩
   · rintro i y ys σ H2 hi ⟨v,rfl,rfl,rfl⟩;rw[ds0] at hi
     cases hA:as[i]? with
     |none=>rw[hA] at hi;cases hi
     |some e=>
      rw[hA] at hi;cases hi;have hil:i < as.length:=(dr7.mp hA).1;have hri:rs[i]? =some (rs[i]'(by rw[<-rows.1];exact hil)):=dr8 _;generalize (rs[i]'(by rw[<-rows.1];exact hil))=r at hri;have he:=rows.2 i e r hA hri;refine ⟨_,rfl,e,_,rfl,.inl (g9.of he),t6 (by rw[dr6,dr6,dt3];omega),_,rfl,rfl,?_⟩;rw[i9 hri,ds5,ds5,dr6];rfl
   · rintro ys σ H2 ⟨v,rfl,rfl,rfl⟩ D hD;rw[dr6,rows.1,du1];have s2:c9 H2 (c8 H2 D (.lst ((rs.map fun r=>(r.length:Int)).map V.int))):=c9.upd_new hD;refine ⟨D,_,rfl,g9.of c7,by rw[dr6];omega,fun ms l2 pm srt hl2=> ?_⟩
     have hlD:l2≠D:=fun z=>by rw[z,c7] at hl2;cases hl2
     have hl22:H2 l2=none:=by rw[g7 hlD] at hl2;exact hl2
     have ek:rs.map (fun r=>(r.length:Int))=K7 p:=by unfold K7;rw[<-up.eq]
     refine q l2 ms _ (s1.free hl22) ((s1.trans s2).upd_r (s1.free hl22)) (by rw[<-ek];exact pm) srt (fun x hx=>bd x (pm.mem_iff.mp hx)) (by rw[pm.length_eq,dr6];exact lrs) c7
end
end My
namespace My
open PySem L2 Mth
section
variable {P:Program} {w:World} {K:PySem.W.Frag} {mg:Str->Option Value} {base:Heap}
def cf8:Sp:=fun vs H Q _=>∃(n:Int),vs=[.int n]/\1<=n/\Q .non H
theorem dm3:m8 ["number"] ["number"] (j6 S3):=by rfl'
theorem di5 {f:Addr}{fd:FuncData}(F:A9 K "must_be_from_one" "must_be_from_one" S3 f fd)(cW:l8 P w K mg base "is_whole" 1 ["thing"] (ak1 K)):p6 P w K mg base A8 2 f fd ["number"] cf8:=by
 refine F.ok dm3 (fun vs H Q E h=> ?_) (fun cdv A outer s H vs Q E hr h=> ?_)
 · obtain ⟨n,rfl,_⟩:=h;rfl
 · obtain ⟨n,rfl,h1,q⟩:=h;have hr1:m7 1 _:=hr.mono (by decide);refine ⟨_,g6 (C3 (ag6 (ae4 (ae3 (h8 cW hr1 (c5 (pv 0) c6)))) (aj0 (p8 bb7 (pv 0) i6 (w5 _)))).pt (g6 ae5) y7),?_⟩;refine ⟨_,rfl,.int n,_,true,false,rfl,.int n,al8 K "int",ae9 K,true,rfl,?_⟩;refine M4 ⟨_,rfl,_,_,rfl,rfl,_,rfl,?_⟩;rw[decide_eq_false (show ¬n < 1 by omega)];exact M4 q
end
end My
namespace My
open PySem L2 Mth
section
variable {P:Program} {w:World} {K:PySem.W.Frag} {mg:Str->Option Value} {base:Heap}
theorem cu1 {T J F:List Int}{t:Nat}{u f:Int}(hT:j7 T)(hl:J.length=T.length)(hu:T[t]? =some u)(hf:F[t]? =some f)(h:(T.take t).map (x4 J)=(F.take t).map some):(T.take (t+1)).map (x4 (J.set u.toNat f))=(F.take (t+1)).map some:=by
 have ht:t < T.length:=(dr7.mp hu).1;have hum:=ds4 hu;have u0:=hT.lo u hum;have u1:=hT.hi u hum;rw[i9 hu,i9 hf,ds5,ds5]
 congr 1
 · rw[<-h]
   refine dy3 fun v hv=>ab3 (hT.lo v (dx8 hv)) u0 fun e=> ?_
   obtain ⟨j,hj⟩:=dt7.mp hv
   have hjt:j < t:=by
     have:=(dr7.mp hj).1;rw[dt3] at this;omega
   rw[dx1 hjt] at hj;have e1:=(dr7.mp hj).2;have e2:=(dr7.mp hu).2;exact du7.mp (dt0.mp hT.nd) j t (by omega) ht hjt (by rw[e1,e2,e])
 · show [x4 (J.set u.toNat f) u]=[some f];rw[Z1 (by omega)]
def be1:Sp:=fun vs H Q _=>∃(a:Addr) (bs:List Addr) (Rs:List (List Int)) (l k:Nat),vs=[.ref a,.int ((Rs.length*k:Nat):Int)]/\H a=some (.lst (bs.map V.ref))/\j9 H bs Rs/\1<=Rs.length/\(∀r∈Rs,r.length=l)/\0 < l/\Rs.length*l<=40/\dw5 l k=1/\
 ∀(o:Addr) (J:List Int) (H':Hp),H o=none->c9 H H'->H' o=some (.lst (J.map V.int))->G3 l k Rs J->Q (.ref o) H'
theorem af7:m8 ["rings","m","whole","joined","lane","ring","step","thing"] ["rings","m"] (j6 af5):=by rfl'
theorem dc5 {f:Addr}{fd:FuncData}(F:A9 K "join_rings" "join_rings" af5 f fd)(B:Bl mg):p6 P w K mg base A8 1 f fd ["rings","m"] be1:=by
 refine F.ok af7 (fun vs H Q E h=> ?_) (fun cdv A outer s H vs Q E hr h=> ?_)
 · obtain ⟨a,bs,Rs,l,k,rfl,_⟩:=h;rfl
 · obtain ⟨a,bs,Rs,l,k,rfl,ha,rows,d1,hRl,l0,dl,cop,q⟩:=h
   refine ⟨_,e8 (i8 (i:=2) af7.nd rfl (Or.inl rfl) (n5 N7 (p9 B.len (c5 (pv 0) c6)) (p9 B.len (c5 (I0 B5 (pv 0) i6 (fun _ _=>rfl)) c6))))
     (e8 (i8 (i:=3) af7.nd rfl (Or.inl rfl) (n5 br0 (p5 (c5 i6 c6)) (pv 2)))
     (e8 (n9 PassesOwn.never rfl (W0 B.enum (c5 (pv 0) c6)) (M1 rfl (q5 (i7 (i:=4) af7.nd rfl (Or.inl rfl)) (q5 (i7 (i:=5) af7.nd rfl (Or.inl rfl)) J3)))
       (g6 (n9 PassesOwn.never rfl (W0 B.enum (c5 (pv 5) c6)) (M1 rfl (q5 (i7 (i:=6) af7.nd rfl (Or.inl rfl)) (q5 (i7 (i:=7) af7.nd rfl (Or.inl rfl)) J3)))
         (g6 (aa9 (pv 7) (aa8 (pv 3) (n5 R7 (n5 E9 (pv 4) (n5 N7 (pv 6) (pv 1))) (pv 2)) R8))))))
     (g6 (l9 (pv 3))))),?_⟩
   have lb:bs.length=Rs.length:=rows.1;have dR:Rs.length<=Rs.length*l:=dx4 _ l0;have lR:l<=Rs.length*l:=eg3 _ (by omega);have hb0:bs[0]? =some (bs[0]'(by omega)):=dr8 _;generalize (bs[0]'(by omega))=b0 at hb0;have hr0:Rs[0]? =some (Rs[0]'(by omega)):=dr8 _;have lr0:(Rs[0]'(by omega)).length=l:=hRl _ (dv7 _);generalize (Rs[0]'(by omega))=r0 at hr0 lr0;have h0:=rows.2 0 b0 r0 hb0 hr0;refine ⟨_,rfl,a,_,rfl,.inl (g9.of ha),_,rfl,a,_,_,_,rfl,rfl,g9.of ha,G7 (j:=0) (by rw[ds0,hb0];rfl),b0,_,rfl,.inl (g9.of h0),_,_,rfl,rfl,.inl ⟨by rw[dr6];omega,by rw[dr6];omega⟩,?_⟩;rw[dr6,dr6,lb,lr0]
   dsimp only
   have ew:((Rs.length:Nat):Int)*((l:Nat):Int)=((Rs.length*l:Nat):Int):=(ea4 _ _).symm;rw[ew];obtain ⟨D,hD⟩:∃D,D=Rs.length:=⟨_,rfl⟩;rw[<-hD] at d1 dl lb dR lR ⊢;obtain ⟨N,hN⟩:∃N,N=D*l:=⟨_,rfl⟩;rw[<-hN] at dl dR lR ⊢;refine ⟨(by show 1<=sizeLine;decide),fun e he=> ?_⟩;refine ⟨_,rfl,e,_,_,rfl,rfl,c7,by omega,by omega,by show 1*_<=sizeLine;rw[sizeLine_eq];omega,fun n hn=> ?_⟩;rw[show ((N:Nat):Int).toNat=N by omega,ay9]
   have hne:n≠e:=fun z=>by rw[z,c7] at hn;cases hn
   have hn0:H n=none:=by rw[g7 hne] at hn;exact hn
   have s1:c9 H (c8 (c8 H e (.lst [.int 0])) n (.lst ((dv8 N (0:Int)).map V.int))):=(c9.upd_new he).upd_r hn0;have h1n:(c8 (c8 H e (.lst [.int 0])) n (.lst ((dv8 N (0:Int)).map V.int))) n=some (.lst ((dv8 N (0:Int)).map V.int)):=c7;generalize (c8 (c8 H e (.lst [.int 0])) n (.lst ((dv8 N (0:Int)).map V.int)))=H1 at s1 h1n ⊢;have T:=am4 (d:=D) l0 cop;have lT:=Z3 D l k;obtain ⟨fl,fg⟩:=am5 l0 hRl
   refine ⟨_,rfl,a,rfl,⟨_,g9.of (s1 a _ ha)⟩,R9 (K:=K) (a:=a) (xs:=bs.map V.ref) (fun i σ H2=>∃(J:List Int) (v4 v5 v6 v7:Option V),σ=[some (.ref a),some (.int ((D*k:Nat):Int)),some (.int ((N:Nat):Int)),some (.ref n),v4,v5,v6,v7]/\H2 n=some (.lst (J.map V.int))/\J.length=N/\((S0 D l k).take (i*l)).map (x4 J)=(Rs.flatten.take (i*l)).map some/\c9 H H2)
     ⟨_,none,none,none,none,rfl,h1n,by rw[ec1],by rw[ed9];rfl,s1⟩ (fun i σ H2 _ zz=>by obtain ⟨_,_,_,_,_,_,_,_,_,s⟩:=zz;exact g9.of (s a _ ha)) ?_ ?_⟩
   · rintro i y σ H2 t hi ⟨J,v4,v5,v6,v7,rfl,h2n,lJ,hmap,s2⟩ ht;rw[ds0] at hi
     cases hA:bs[i]? with
     |none=>rw[hA] at hi;cases hi
     |some b=>
      rw[hA] at hi;cases hi;have hil:i < bs.length:=(dr7.mp hA).1
      have hiD:i < D:=by omega
      have hri:Rs[i]? =some (Rs[i]'(by omega)):=dr8 _;have lri:(Rs[i]'(by omega)).length=l:=hRl _ (dv7 _);generalize (Rs[i]'(by omega))=r at hri lri;have hrow:=rows.2 i b r hA hri;have s23:c9 H2 (c8 H2 t (.tup [.int (i:Int),.ref b])):=c9.upd_new ht;refine ⟨t,_,rfl,R3.of c7,rfl,_,_,rfl,_,_,rfl,rfl,?_⟩;generalize (c8 H2 t (.tup [.int (i:Int),.ref b]))=H3 at s23 ⊢;have s3:=s2.trans s23;have h3b:=s3 b _ hrow
      refine ⟨_,rfl,b,rfl,⟨_,g9.of h3b⟩,R9 (K:=K) (a:=b) (xs:=r.map V.int) (fun j σ H4=>∃(J:List Int) (v6 v7:Option V),σ=[some (.ref a),some (.int ((D*k:Nat):Int)),some (.int ((N:Nat):Int)),some (.ref n),some (.int (i:Int)),some (.ref b),v6,v7]/\H4 n=some (.lst (J.map V.int))/\J.length=N/\((S0 D l k).take (i*l+j)).map (x4 J)=(Rs.flatten.take (i*l+j)).map some/\c9 H H4)
        ⟨J,v6,v7,rfl,s23 n _ h2n,lJ,hmap,s3⟩ (fun j σ H4 _ zz=>by obtain ⟨_,_,_,_,_,_,_,s⟩:=zz;exact g9.of (s b _ hrow)) ?_ ?_⟩
      · rintro j y σ H4 t2 hj ⟨J,v6,v7,rfl,h4n,lJ,hmap,s4⟩ ht2;obtain ⟨z,hz,rfl⟩:=D9 hj
        have hjl:j < l:=by rw[<-lri];exact (dr7.mp hz).1
        have s45:c9 H4 (c8 H4 t2 (.tup [.int (j:Int),.int z])):=c9.upd_new ht2;refine ⟨t2,_,rfl,R3.of c7,rfl,_,_,rfl,_,_,rfl,rfl,?_⟩;generalize (c8 H4 t2 (.tup [.int (j:Int),.int z]))=H5 at s45 ⊢;have h5n:=s45 n _ h4n
        have tlt:i*l+j < D*l:=by
          calc i*l+j < i*l+l:=by omega
            _=(i+1)*l:=by rw[ef1]
            _<=D*l:=eb2 l hiD
        have dv1:(i*l+j)/l=i:=by rw[ea5,Nat.mul_add_div l0,Nat.div_eq_of_lt hjl,eb7]
        have dv2:(i*l+j)%l=j:=by rw[ea5,em5,dy7 hjl]
        have hTt:(S0 D l k)[i*l+j]? =some ((K9 D l k i j:Nat):Int):=by
          unfold S0;rw[ds0,dv4 tlt];show some ((K9 D l k ((i*l+j)/l) ((i*l+j)%l):Nat):Int)=_;rw[dv1,dv2]
        have hFt:Rs.flatten[i*l+j]? =some z:=by
          rw[fg i j (by omega) hjl,ds2,hri];exact hz
        have ep:((i:Int)+(j:Int)*((D*k:Nat):Int))%((N:Nat):Int)=((K9 D l k i j:Nat):Int):=by
          rw[<-bg7 hiD l0,<-ea4,<-ej4,<-ec2,hN]
        have plt:K9 D l k i j < D*l:=aj6 hiD l0;refine ⟨_,rfl,_,rfl,_,rfl,_,rfl,_,rfl,_,_,rfl,rfl,.inl ⟨by omega,by omega⟩,_,_,rfl,rfl,_,rfl,_,_,rfl,rfl,(by show (0:Int) < (N:Int);omega),?_⟩
        dsimp only
        rw[ep];refine ⟨n,_,_,K9 D l k i j,rfl,rfl,h5n,?_,?_⟩
        · unfold ixN;rw[dr6,if_pos (by omega),if_pos (by omega)];rfl
        have es:(J.map V.int).set (K9 D l k i j) (.int z)=(J.set (K9 D l k i j) z).map V.int:=by rw[eh7]
        rw[es];refine ⟨_,_,_,rfl,c7,by rw[ec9];exact lJ,?_,fun c o hc=>by rw[g7 (g8 hc hn0)];exact s45 c o (s4 c o hc)⟩;have:=cu1 (J:=J) T (by rw[lT];omega) hTt hFt hmap;rw[dw1] at this;exact this
      · rintro σ H4 ⟨J,v6,v7,rfl,h4n,lJ,hmap,s4⟩;rw[dr6,lri] at hmap;refine ⟨J,_,_,_,_,rfl,h4n,lJ,?_,s4⟩;rw[ef1];exact hmap
   · rintro σ H2 ⟨J,v4,v5,v6,v7,rfl,h2n,lJ,hmap,s2⟩;rw[dr6,lb,dy4 (by rw[lT];exact dr9 _),dy4 (by rw[fl,<-hD];exact dr9 _)] at hmap;refine ⟨_,rfl,q n J H2 hn0 s2 h2n ⟨by rw[lJ,hN,hD],by rw[<-hD];exact hmap⟩⟩
end
end My
namespace My
open PySem L2 Mth
section
variable {P:Program} {w:World} {K:PySem.W.Frag} {mg:Str->Option Value} {base:Heap}
theorem dp5:m8 ["p","q"] ["p","q"] (j6 af6):=by rfl'
theorem dp6:(["thing","p"]:List Str).Nodup:=by decide+kernel
theorem bt7 {f:Addr}{fd:FuncData}(F:A9 K "_law_behind" "_law_behind" af6 f fd):p6 P w K mg base A8 1 f fd ["p","q"] an8:=by
 refine F.ok dp5 (fun vs H Q E h=> ?_) (fun cdv A outer s H vs Q E hr h=> ?_)
 · obtain ⟨a,b,p,q,rfl,_⟩:=h;rfl
 · obtain ⟨a,b,p,q,rfl,⟨ha,ta,la⟩,⟨hb,tb,lb⟩,hl,k⟩:=h;refine ⟨_,g6 (l9 (aj4 (N:=["thing","p"]) (nl:=1) (fr:=[0]) rfl .of (w4 (pv 1)) (fun _ _ _ _ _=>i7 (i:=0) dp6 rfl (Or.inl rfl)) (fun _ _ _ _ _=>al7) (fun _ _ _ _ _=>I0 (r:=cq6 K) B5 (pv 1) (pv 0) (fun _ _=>rfl)))),?_⟩;refine ⟨_,rfl,b,rfl,⟨_,g9.of hb⟩,ab2 (K:=K) (a:=b) (xs:=q.map V.int) (fun i ys σ H3=>∃v,σ=[v,some (.ref a)]/\H3=H/\ys=(j8 p (q.take i)).map V.int) ⟨none,rfl,rfl,rfl⟩ (fun i ys σ H3 _ zz=>by obtain ⟨_,_,e,_⟩:=zz;rw[e];exact g9.of hb) ?_ ?_⟩
   · rintro i x ys σ H3 hi ⟨v,rfl,rfl,rfl⟩;obtain ⟨z,hz,rfl⟩:=D9 hi;have hzq:=ds4 hz;refine ⟨_,rfl,_,rfl,a,_,z,_,rfl,rfl,g9.of ha,aj5 (tb.lo z hzq) (by have:=tb.hi z hzq;omega),?_,?_⟩
     · refine t6 ?_;unfold j8;rw[dr6,dr6,dt3];omega
     · refine ⟨_,rfl,rfl,?_⟩;rw[i9 hz];unfold j8;rw[ds5,ds5];rfl
   · rintro ys σ H3 ⟨v,rfl,rfl,rfl⟩ D hD;rw[dr6,du1];exact k D _ hD (c9.upd_new hD) c7
def bh7:Sp:=fun vs H Q _=>∃(a:Addr) (p:List Int),vs=[.ref a]/\B9 H a p/\∀(l:Addr) (t:List Int) (H':Hp),H l=none->c9 H H'->j7 t->t.length=p.length->H' l=some (.lst (t.map V.int))->Q (.ref l) H'
theorem aw2:m8 ["p","found","i","place"] ["p"] (j6 X6):=by rfl'
theorem cf9 {f:Addr}{fd:FuncData}(F:A9 K "_law_back" "_law_back" X6 f fd)(B:Bl mg):p6 P w K mg base A8 1 f fd ["p"] bh7:=by
 refine F.ok aw2 (fun vs H Q E h=> ?_) (fun cdv A outer s H vs Q E hr h=> ?_)
 · obtain ⟨a,p,rfl,_⟩:=h;rfl
 · obtain ⟨a,p,rfl,⟨ha,tp,lp⟩,q⟩:=h
   refine ⟨_,e8 (i8 (i:=1) aw2.nd rfl (Or.inl rfl) (n5 br0 (p5 (c5 i6 c6)) (p9 B.len (c5 (pv 0) c6))))
     (e8 (n9 PassesOwn.never rfl (W0 B.enum (c5 (pv 0) c6)) (M1 rfl (q5 (i7 (i:=2) aw2.nd rfl (Or.inl rfl)) (q5 (i7 (i:=3) aw2.nd rfl (Or.inl rfl)) J3)))
       (g6 (aa9 (pv 2) (aa8 (pv 1) (pv 3) R8))))
     (g6 (l9 (pv 1)))),?_⟩
   refine ⟨(by show 1<=sizeLine;decide),fun e he=> ?_⟩;have nae:a≠e:=g8 ha he;refine ⟨_,rfl,a,_,rfl,.inl (g9.of (by rw[g7 nae];exact ha)),?_⟩;rw[dr6];refine ⟨e,_,_,rfl,rfl,c7,by omega,by omega,by show 1*_<=sizeLine;rw[sizeLine_eq];omega,fun n hn=> ?_⟩;rw[show ((p.length:Nat):Int).toNat=p.length by omega,ay9]
   have hne:n≠e:=fun z=>by rw[z,c7] at hn;cases hn
   have hn0:H n=none:=by rw[g7 hne] at hn;exact hn
   have s1:c9 H (c8 (c8 H e (.lst [.int 0])) n (.lst ((dv8 p.length (0:Int)).map V.int))):=(c9.upd_new he).upd_r hn0;have h1n:(c8 (c8 H e (.lst [.int 0])) n (.lst ((dv8 p.length (0:Int)).map V.int))) n=some (.lst ((dv8 p.length (0:Int)).map V.int)):=c7;generalize (c8 (c8 H e (.lst [.int 0])) n (.lst ((dv8 p.length (0:Int)).map V.int)))=H1 at s1 h1n ⊢;have h1a:=s1 a _ ha;have nan:a≠n:=g8 ha hn0
   refine ⟨_,rfl,a,rfl,⟨_,g9.of h1a⟩,R9 (K:=K) (a:=a) (xs:=p.map V.int) (fun j σ H2=>∃(fs:List Int) (v2 v3:Option V),σ=[some (.ref a),some (.ref n),v2,v3]/\H2 n=some (.lst (fs.map V.int))/\fs.length=p.length/\(∀u,u < j->x4 fs (p.getD u 0)=some (u:Int))/\c9 H H2)
     ⟨_,none,none,rfl,h1n,by rw[ec1],fun u hu=>by omega,s1⟩ (fun j σ H2 _ zz=>by obtain ⟨_,_,_,_,_,_,_,s⟩:=zz;exact g9.of (s a _ ha)) ?_ ?_⟩
   · rintro j y σ H2 t hj ⟨fs,v2,v3,rfl,h2n,hfl,hu,s2⟩ ht;obtain ⟨z,hz,rfl⟩:=D9 hj;have hjl:j < p.length:=(dr7.mp hz).1
     have ez:z=p.getD j 0:=by rw[x8 hjl];exact (dr7.mp hz).2.symm
     subst ez;have s23:c9 H2 (c8 H2 t (.tup [.int (j:Int),.int (p.getD j 0)])):=c9.upd_new ht;refine ⟨t,_,rfl,R3.of c7,rfl,_,_,rfl,_,_,rfl,rfl,?_⟩;generalize (c8 H2 t (.tup [.int (j:Int),.int (p.getD j 0)]))=H3 at s23 ⊢;have h3n:=s23 n _ h2n;obtain ⟨t0,t1⟩:=af0 tp hjl;refine ⟨_,rfl,_,rfl,_,rfl,n,_,_,(p.getD j 0).toNat,rfl,rfl,h3n,?_,?_⟩
     · unfold ixN;rw[dr6,if_pos t0,if_pos (by omega)]
     have es:(fs.map V.int).set (p.getD j 0).toNat (.int (j:Int))=(fs.set (p.getD j 0).toNat (j:Int)).map V.int:=by rw[eh7]
     rw[es];refine ⟨_,_,_,rfl,c7,by rw[ec9];exact hfl,?_,fun b o hb=>by rw[g7 (g8 hb hn0)];exact s23 b o (s2 b o hb)⟩;intro u hu2
     by_cases huj:u=j
     · subst huj;exact Z1 (by omega)
     · rw[ab3 (af0 tp (show u < p.length by omega)).1 t0 (J8 tp.nd (by omega) hjl huj)];exact hu u (by omega)
   · rintro σ H2 ⟨fs,v2,v3,rfl,h2n,hfl,hu,s2⟩;rw[dr6] at hu;obtain ⟨tf,lf⟩:=N5 (bk4 tp hfl hu);exact ⟨_,rfl,q n fs H2 hn0 s2 tf hfl h2n⟩
noncomputable def be2 (p:List Int):List Int:=(du8 p.length).map fun (i:Nat)=>(J9 p (i:Int):Int)
noncomputable def aa5 (p:List Int)(l:Nat):Nat:=E2 l (((be2 p).countP fun i=>decide (i=(l:Int)))/l)
end
end My
namespace My
open PySem L2 Mth
section
variable {P:Program} {w:World} {K:PySem.W.Frag} {mg:Str->Option Value} {base:Heap}
def o6 (es:List (Nat×Addr)):List (o9×V):=es.map fun e=>(Sum.inl (e.1:Int),V.ref e.2)
theorem bt8 {es:List (Nat×Addr)}{l:Nat}{v:V}(h:A4 (o6 es) (Sum.inl (l:Int))=some v):∃e∈es,e.1=l/\v= .ref e.2:=by
 unfold A4 at h
 cases hf:(o6 es).find? (fun kv=>decide (kv.1=Sum.inl (l:Int))) with
 |none=>rw[hf] at h;cases h
 |some kv=>
  rw[hf] at h;have hk:=of_decide_eq_true (List.find?_some (p:=fun kv:o9×V=>decide (kv.1=Sum.inl (l:Int))) hf);obtain ⟨e,he,rfl⟩:=ds9.mp (List.mem_of_find?_eq_some hf);have hk':(Sum.inl (e.1:Int):o9)=Sum.inl (l:Int):=hk;have:=Sum.inl.inj hk';exact ⟨e,he,by omega,(Option.some.inj h).symm⟩
theorem bt9 {es:List (Nat×Addr)}{l:Nat}(h:A4 (o6 es) (Sum.inl (l:Int))=none):l∉es.map (·.1):=by
 intro hm;obtain ⟨e,he,rfl⟩:=ds9.mp hm;unfold A4 at h;have h':=Option.map_eq_none_iff.mp h;exact List.find?_eq_none.mp h' (Sum.inl (e.1:Int),V.ref e.2) (ds9.mpr ⟨e,he,rfl⟩) (by simp)
theorem bh8 {α β:Type}:∀{es:List (α×β)},(es.map (·.1)).Nodup->∀{e f:α×β},e∈es->f∈es->e.1=f.1->e=f
 |[],_,e,f,h,_,_=>by simp at h
 |x::es,nd,e,f,he,hf,h=>by
  obtain ⟨n1,n2⟩:=dw2.mp nd
  rcases dt8.mp he with z|z
  · rcases dt8.mp hf with y|y
    · rw[z,y]
    · exact absurd (ds9.mpr ⟨f,y,by rw[<-h,z]⟩) n1
  · rcases dt8.mp hf with y|y
    · exact absurd (ds9.mpr ⟨e,z,by rw[h,y]⟩) n1
    · exact bh8 n2 z y h
theorem cb8 {α β:Type}:∀{es:List (α×β)},(es.map (·.2)).Nodup->∀{e f:α×β},e∈es->f∈es->e.2=f.2->e=f
 |[],_,e,f,h,_,_=>by simp at h
 |x::es,nd,e,f,he,hf,h=>by
  obtain ⟨n1,n2⟩:=dw2.mp nd
  rcases dt8.mp he with z|z
  · rcases dt8.mp hf with y|y
    · rw[z,y]
    · exact absurd (ds9.mpr ⟨f,y,by rw[<-h,z]⟩) n1
  · rcases dt8.mp hf with y|y
    · exact absurd (ds9.mpr ⟨e,z,by rw[h,y]⟩) n1
    · exact cb8 n2 z y h
theorem as4 {es:List (Nat×Addr)}(nd:(es.map (·.1)).Nodup){e:Nat×Addr}(he:e∈es):A4 (o6 es) (Sum.inl (e.1:Int))=some (.ref e.2):=by
 cases h:A4 (o6 es) (Sum.inl (e.1:Int)) with
 |none=>exact absurd (ds9.mpr ⟨e,he,rfl⟩) (bt9 h)
 |some v=>
  obtain ⟨f,hf,h1,rfl⟩:=bt8 h;rw[bh8 nd hf he h1]
theorem cb9 {rs:List (List Int)}{r:List Int}{l:Nat}(h:r.length=l):p7 (rs++[r]) l=p7 rs l++[r]:=by
 unfold p7;rw[dz4,ea0 (by simpa using h),eb1]
theorem cc0 {rs:List (List Int)}{r:List Int}{l:Nat}(h:r.length≠l):p7 (rs++[r]) l=p7 rs l:=by
 unfold p7;rw[dz4,ea1 (by simpa using h),eb1,du0]
theorem cu2 {rs:List (List Int)}{l:Nat}(h:∀r∈rs,r.length≠l):p7 rs l=[]:=by
 unfold p7
 exact List.filter_eq_nil_iff.mpr fun r hr=>by simpa using h r hr
structure cn7 (H0 H:Hp)(d:Addr)(es:List (Nat×Addr))(rs:List (List Int)):Prop where
 nk:(es.map (·.1)).Nodup
 na:(es.map (·.2)).Nodup
 row:∀e∈es,∃cs:List Addr,H e.2=some (.lst (cs.map V.ref))/\j9 H0 cs (p7 rs e.1)
 key:∀k∈es.map (·.1),∃r∈rs,r.length=k
 all:∀r∈rs,r.length∈es.map (·.1)
 nd:∀e∈es,e.2≠d
def ad7:Sp:=fun vs H Q _=>∃(a:Addr) (as:List Addr) (rs:List (List Int)),vs=[.ref a]/\H a=some (.lst (as.map V.ref))/\j9 H as rs/\rs.length<=40/\
 ∀(d:Addr) (es:List (Nat×Addr)) (H':Hp),H d=none->c9 H H'->H' d=some (.dK (o6 es))->cn7 H H' d es rs->es.length<=40->(∀e∈es,H e.2=none)->Q (.ref d) H'
theorem bu0:m8 ["rings","by_length","ring"] ["rings"] (j6 V3):=by rfl'
theorem cu3 {f:Addr}{fd:FuncData}(F:A9 K "sort_by_length" "sort_by_length" V3 f fd)(B:Bl mg):p6 P w K mg base A8 1 f fd ["rings"] ad7:=by
 refine F.ok bu0 (fun vs H Q E h=> ?_) (fun cdv A outer s H vs Q E hr h=> ?_)
 · obtain ⟨a,as,rs,rfl,_⟩:=h;rfl
 · obtain ⟨a,as,rs,rfl,ha,rows,lrs,q⟩:=h
   refine ⟨_,e8 (i8 (i:=1) bu0.nd rfl (Or.inl rfl) V1)
     (e8 (n9 PassesOwn.never rfl (w4 (pv 0)) (i7 (i:=2) bu0.nd rfl (Or.inl rfl))
       (g6 (w6 (B0 (cm3 (pv 1) (c5 (p9 B.len (c5 (pv 2) c6)) (c5 (p5 c6) c6))) (c5 (pv 2) c6)))))
     (g6 (l9 (pv 1)))),?_⟩
   refine fun d hd=> ?_
   have s1:c9 H (c8 H d (.dK [])):=c9.upd_new hd;have h1d:(c8 H d (.dK [])) d=some (.dK (o6 [])):=c7;generalize (c8 H d (.dK []))=H1 at s1 h1d ⊢
   refine ⟨_,rfl,a,rfl,⟨_,g9.of (s1 a _ ha)⟩,A7 (K:=K) (a:=a) (xs:=as.map V.ref) (fun i σ H2=>∃(es:List (Nat×Addr)) (v2:Option V),σ=[some (.ref a),some (.ref d),v2]/\H2 d=some (.dK (o6 es))/\cn7 H H2 d es (rs.take i)/\es.length<=i/\(∀e∈es,H e.2=none)/\c9 H H2)
     ⟨[],none,rfl,h1d,⟨dx7,dx7,fun e h=>by simp at h,fun k h=>by simp at h,fun r h=>by simp at h,fun e h=>by simp at h⟩,dr9 _,fun e h=>by simp at h,s1⟩ (fun i σ H2 _ zz=>by obtain ⟨_,_,_,_,_,_,_,s⟩:=zz;exact g9.of (s a _ ha)) ?_ ?_⟩
   · rintro i y σ H2 hi ⟨es,v2,rfl,h2d,bl,les,fr,s2⟩;rw[ds0] at hi
     cases hA:as[i]? with
     |none=>rw[hA] at hi;cases hi
     |some b=>
      rw[hA] at hi;cases hi;have hil:i < as.length:=(dr7.mp hA).1;have hri:rs[i]? =some (rs[i]'(by rw[<-rows.1];exact hil)):=dr8 _;generalize (rs[i]'(by rw[<-rows.1];exact hil))=r at hri;have hb0:=rows.2 i b r hA hri;have hb:=s2 b _ hb0
      have hi40:i < 40:=by have:=rows.1;omega
      have et:rs.take (i+1)=rs.take i++[r]:=i9 hri;refine ⟨_,rfl,.inr (.inr (.inl ⟨rfl,.inl ⟨_,h2d⟩⟩)),_,rfl,b,_,rfl,.inl (g9.of hb),du2 _,fun e he=> ?_⟩;rw[dr6];have nde:d≠e:=g8 h2d he;have s23:c9 H2 (c8 H2 e (.lst [])):=c9.upd_new he;have h3e:(c8 H2 e (.lst [])) e=some (.lst []):=c7
      have kp:∀c,c≠e->(c8 H2 e (.lst [])) c=H2 c:=fun c hc=>g7 hc
      generalize (c8 H2 e (.lst []))=H3 at s23 h3e kp ⊢;refine ⟨d,o6 es,Sum.inl (r.length:Int),.ref e,rfl,rfl,s23 d _ h2d,?_,fun v hv=> ?_,fun hn=> ?_⟩
      · unfold o6;rw[dr6,sizeLine_eq];omega
      · obtain ⟨e0,he0,hl0,rfl⟩:=bt8 hv;obtain ⟨cs,hcs,rcs⟩:=bl.row e0 he0;have h3x:=s23 e0.2 _ hcs
        have lx:(cs.map V.ref).length<=1000:=by
          rw[dr6,rcs.1];have:=dz9 (fun r=>decide (r.length=e0.1)) (rs.take i);rw[dt3] at this;unfold p7;omega
        refine ⟨.inl ⟨rfl,_,g9.of h3x⟩,_,rfl,e0.2,_,_,rfl,rfl,h3x,t6 lx,?_⟩;refine ⟨es,_,rfl,by rw[g7 (bl.nd e0 he0).symm];exact s23 d _ h2d,⟨bl.nk,bl.na,fun e1 he1=> ?_,fun k hk=> ?_,fun r' hr'=> ?_,bl.nd⟩,by omega,fr,fun c o hc=>by rw[g7 (g8 hc (fr e0 he0))];exact s23 c o (s2 c o hc)⟩
        · by_cases h12:e1.2=e0.2
          · have:e1=e0:=cb8 bl.na he1 he0 h12;subst this;refine ⟨cs++[b],by rw[c7,ds5];rfl,?_⟩;rw[et,cb9 hl0.symm];exact M8 rcs hb0
          · obtain ⟨ys,hys,rys⟩:=bl.row e1 he1;refine ⟨ys,by rw[g7 h12];exact s23 _ _ hys,?_⟩;rw[et,cc0 (fun z=>h12 (by rw[bh8 bl.nk he1 he0 (by omega)]))];exact rys
        · obtain ⟨r',hr',e⟩:=bl.key k hk;exact ⟨r',by rw[et];exact dx3 _ hr',e⟩
        · rw[et] at hr'
          rcases dt1.mp hr' with z|z
          · exact bl.all r' z
          · have:r'=r:=by simpa using z
            rw[this];exact ds9.mpr ⟨e0,he0,hl0⟩
      · have hnk:=bt9 hn
        have ekv:o6 es++[(Sum.inl (r.length:Int),V.ref e)]=o6 (es++[(r.length,e)]):=by unfold o6;rw[ds5];rfl
        rw[ekv]
        have h4e:(c8 H3 d (.dK (o6 (es++[(r.length,e)])))) e=some (.lst []):=by rw[g7 nde.symm];exact h3e
        refine ⟨.inl ⟨rfl,_,g9.of h4e⟩,_,rfl,e,_,_,rfl,rfl,h4e,t6 (du2 _),?_⟩
        have hne:∀e1∈es,e1.2≠e:=fun e1 he1 z=>by
          obtain ⟨ys,hys,_⟩:=bl.row e1 he1;rw[z,he] at hys;cases hys
        refine ⟨es++[(r.length,e)],_,rfl,by rw[g7 nde,c7],⟨?_,?_,fun e1 he1=> ?_,fun k hk=> ?_,fun r' hr'=> ?_,fun e1 he1=> ?_⟩,by rw[ds6];show es.length+1<=i+1;omega,fun e1 he1=> ?_,fun c o hc=> ?_⟩
        · rw[ds5,dw4];refine ⟨bl.nk,by simp,fun x hx y hy=> ?_⟩
          have:y=r.length:=by simpa using hy
          rw[this]
          exact fun z=>hnk (by rw[<-z];exact hx)
        · rw[ds5,dw4];refine ⟨bl.na,by simp,fun x hx y hy=> ?_⟩
          have:y=e:=by simpa using hy
          rw[this];obtain ⟨e1,he1,rfl⟩:=ds9.mp hx;exact hne e1 he1
        · rcases dt1.mp he1 with z|z
          · obtain ⟨ys,hys,rys⟩:=bl.row e1 z;refine ⟨ys,by rw[g7 (hne e1 z),g7 (bl.nd e1 z),kp _ (hne e1 z)];exact hys,?_⟩;rw[et,cc0 (fun y=>hnk (by rw[y];exact ds9.mpr ⟨e1,z,rfl⟩))];exact rys
          · have:e1=(r.length,e):=by simpa using z
            subst this;refine ⟨[b],c7,?_⟩;show j9 H [b] (p7 (rs.take (i+1)) r.length);rw[et,cb9 rfl,cu2 (fun r' hr' y=>hnk (by rw[<-y];exact bl.all r' hr'))];exact M8 (as:=[]) (rs:=[]) ⟨rfl,fun j a r h=>by simp at h⟩ hb0
        · rw[ds5] at hk
          rcases dt1.mp hk with z|z
          · obtain ⟨r',hr',e⟩:=bl.key k z;exact ⟨r',by rw[et];exact dx3 _ hr',e⟩
          · have:k=r.length:=by simpa using z
            exact ⟨r,by rw[et];exact du5 _ (by simp),this.symm⟩
        · rw[et] at hr';rw[ds5]
          rcases dt1.mp hr' with z|z
          · exact dx3 _ (bl.all r' z)
          · have:r'=r:=by simpa using z
            rw[this];exact du5 _ (by simp)
        · rcases dt1.mp he1 with z|z
          · exact bl.nd e1 z
          · have:e1=(r.length,e):=by simpa using z
            subst this;exact nde.symm
        · rcases dt1.mp he1 with z|z
          · exact fr e1 z
          · have:e1=(r.length,e):=by simpa using z
            subst this;exact s2.free he
        · have h2c:=s2 c o hc;rw[g7 (g8 h2c he),g7 (g8 hc hd),kp _ (g8 h2c he)];exact h2c
   · rintro σ H2 ⟨es,v2,rfl,h2d,bl,les,fr,s2⟩;rw[dr6,rows.1,du1] at bl;rw[dr6,rows.1] at les;exact ⟨_,rfl,q d es H2 hd s2 h2d bl (by omega) fr⟩
end
end My
namespace My
open PySem L2 Mth
section
variable {P:Program} {w:World} {K:PySem.W.Frag} {mg:Str->Option Value} {base:Heap}
def bp3:Sp:=fun vs H Q _=>∃(a:Addr) (p:List Int),vs=[.ref a]/\B9 H a p/\∀(H':Hp),c9 H H'->Q (.int ((o7 (aa5 p) ((du8 p.length).map (· +1)):Nat):Int)) H'
theorem J5:m8 ["p","by_length","many","length","free"] ["p"] (j6 X4):=by rfl'
theorem az8 {f:Addr}{fd:FuncData}(F:A9 K "how_many_past" "how_many_past" X4 f fd)(B:Bl mg)(zyx:l8 P w K mg base "must_be_turn" 3 ["thing"] ak2)(zzz:l8 P w K mg base "sort_by_length" 1 ["rings"] ad7)(zzy:l8 P w K mg base "walk_rings" 2 ["p"] O1):p6 P w K mg base A8 4 f fd ["p"] bp3:=by
 refine F.ok J5 (fun vs H Q E h=> ?_) (fun cdv A outer s H vs Q E hr h=> ?_)
 · obtain ⟨a,p,rfl,⟨ha,tp,lp⟩,q⟩:=h;rfl
 · obtain ⟨a,p,rfl,⟨ha,tp,lp⟩,q⟩:=h;have znz:m7 3 _:=hr.mono (by decide);have zy:m7 1 _:=hr.mono (by decide);have zv:m7 2 _:=hr.mono (by decide);have hu:=T2 hr;refine ⟨_,@e8 _ _ _ _ _ (@w6 _ _ _ _ (@h8 _ _ _ _ _ _ _ _ _ _ zyx znz (@c5 _ _ _ _ _ (pv 0) (@c6 _) (by rfl)) (by rfl) (by decide) (by rfl) (by rfl)) (by rfl)) (@e8 _ _ _ _ _ (@i8 _ _ (1) _ _ _ _ J5.nd rfl (Or.inl rfl) (@h8 _ _ _ _ _ _ _ _ _ _ zzz zy (@c5 _ _ _ _ _ (@h8 _ _ _ _ _ _ _ _ _ _ zzy zv (@c5 _ _ _ _ _ (pv 0) (@c6 _) (by rfl)) (by rfl) (by decide) (by rfl) (by rfl)) (@c6 _) (by rfl)) (by rfl) (by decide) (by rfl) (by rfl)) (by rfl) (by trivial)) (@e8 _ _ _ _ _ (@i8 _ _ (2) _ _ _ _ J5.nd rfl (Or.inl rfl) (@i6 _ _ _ _) (by rfl) (by trivial)) (@e8 _ _ _ _ _ (@n9 _ _ _ _ _ _ _ _ PassesOwn.never rfl (@av6 _ _ _ _ (pv 1)) (@i7 _ _ (3) _ J5.nd rfl (Or.inl rfl) (by trivial)) (@g6 _ _ _ (@n9 _ _ _ _ _ _ _ _ PassesOwn.never rfl (@R6 _ _ _ _ _ _ _ (by rfl) B.range (@c5 _ _ _ _ _ (@i6 _ _ _ _) (@c5 _ _ _ _ _ (@n5 _ _ _ _ _ _ _ _ E9 (@p9 _ _ _ _ _ B.len (@c5 _ _ _ _ _ (@ad3 _ _ _ _ _ _ hu (pv 1) (pv 3) (fun _ _=>rfl)) (@c6 _) (by rfl)) (by rfl) (by rfl)) (@i6 _ _ _ _)) (@c6 _) (by rfl)) (by rfl)) (by rfl) (by rfl)) (@i7 _ _ (4) _ J5.nd rfl (Or.inl rfl) (by trivial)) (@g6 _ _ _ (@i8 _ _ (2) _ _ _ _ J5.nd rfl (Or.inl rfl) (@n5 _ _ _ _ _ _ _ _ N7 (@n5 _ _ _ _ _ _ _ _ N7 (pv 2) (pv 3)) (pv 4)) (by rfl) (by trivial))) (by intro _;rfl))) (by intro _;rfl)) (@g6 _ _ _ (@l9 _ _ _ _ (pv 2)))))),?_⟩;refine ⟨_,rfl,a,p,rfl,⟨ha,tp,lp⟩,fun H1 s1=> ?_⟩;refine ⟨_,rfl,a,p,rfl,⟨s1 a _ ha,tp,lp⟩,fun l as rs H2 hl s12 h2l rows up fa nda nla=> ?_⟩;have cl:=aa0 up;have fl:=S5 tp up;refine ⟨l,as,rs,rfl,h2l,rows,by omega,fun d es H3 hd s23 h3d bl les fre=> ?_⟩;have s03:=(s1.trans s12).trans s23;have hd0:H d=none:=(s1.trans s12).free hd;refine ⟨_,rfl,d,o6 es,rfl,h3d,fun o=> ?_⟩;have s4:c9 H (c8 H3 d (.frz o (.dK (o6 es)))):=s03.upd_r hd0;have h4d:(c8 H3 d (.frz o (.dK (o6 es)))) d=some (.frz o (.dK (o6 es))):=c7
   have kp:∀c,c≠d->(c8 H3 d (.frz o (.dK (o6 es)))) c=H3 c:=fun c hc=>g7 hc
   generalize (c8 H3 d (.frz o (.dK (o6 es))))=H4 at s4 h4d kp ⊢
   have lkv:(o6 es).length=es.length:=by unfold o6;rw[dr6]
   refine am2 (fun i σ H5=>∃(v3 v4:Option V),σ=[some (.ref a),some (.ref d),some (.int ((o7 (fun l=>E2 l (o4 rs l)) ((es.take i).map (·.1)):Nat):Int)),v3,v4]/\H5=H4)
     ⟨none,none,rfl,rfl⟩ (fun i σ H5 _ zz=>by obtain ⟨_,_,_,e⟩:=zz;rw[e];exact h4d) ?_ ?_
   · rintro i k v σ H5 hi ⟨v3,v4,rfl,rfl⟩;unfold o6 at hi;rw[ds0] at hi
     cases hE:es[i]? with
     |none=>rw[hE] at hi;cases hi
     |some e=>
      rw[hE] at hi;cases hi;have he:=ds4 hE;obtain ⟨cs,hcs,rcs⟩:=bl.row e he
      obtain ⟨xs,hxs,lxs⟩:∃xs:List V,H3 e.2=some (.lst xs)/\xs.length=o4 rs e.1:=⟨_,hcs,by
        rw[dr6,rcs.1];unfold p7 o4
        exact (dx9 ..).symm⟩
      have h5x:H5 e.2=some (.lst xs):=by rw[kp _ (bl.nd e he)];exact hxs
      obtain ⟨r,hr',lr⟩:=bl.key e.1 (ds9.mpr ⟨e,he,rfl⟩)
      have le40:e.1<=40:=by
        obtain ⟨y,L,hy,pr,er,_⟩:=up.ring r hr'
        have b:=L8 tp hy (m:=L) fun i i0 i1=>pr.least i i0 i1
        rw[er,n6] at lr;omega
      have lx40:xs.length<=40:=by
        have:o4 rs e.1<=rs.length:=ei9;omega
      obtain ⟨F0,hF0⟩:∃F0,F0=o7 (fun l=>E2 l (o4 rs l)) ((es.take i).map (·.1)):=⟨_,rfl⟩;rw[<-hF0];refine ⟨_,rfl,_,rfl,d,.ref e.2,rfl,.inl ⟨o6 es,Sum.inl (e.1:Int),.inr ⟨o,h4d⟩,rfl,(as4 bl.nk he).symm⟩,e.2,xs,rfl,.inl (g9.of h5x),_,_,rfl,rfl,_,_,rfl,⟨by decide,by decide,by omega,by omega⟩,?_⟩
      refine K3 (lo:=1) (n:=(((xs.length:Nat):Int)+1 - 1).toNat) (fun j σ H6=>∃(v4':Option V),σ=[some (.ref a),some (.ref d),some (.int ((F0*E2 e.1 j:Nat):Int)),some (.int (e.1:Int)),v4']/\H6=H5)
        ⟨v4,by rw[show E2 e.1 0=1 from rfl,eh3];rfl,rfl⟩ ?_ ?_
      · rintro j σ H6 hj ⟨v4',rfl,rfl⟩;refine ⟨_,rfl,_,rfl,_,_,rfl,rfl,.inr ⟨by omega,by omega⟩,_,rfl,_,_,rfl,rfl,.inr ⟨by omega,by omega⟩,?_⟩;refine ⟨some (.int ((1:Int)+(j:Int))),?_,rfl⟩
        have ee:((F0*E2 e.1 j:Nat):Int)*((e.1:Nat):Int)*((1:Int)+(j:Int))=((F0*E2 e.1 (j+1):Nat):Int):=by
          show _=((F0*(E2 e.1 j*e.1*(j+1)):Nat):Int);rw[show (1:Int)+(j:Int)=((j+1:Nat):Int) by omega,<-ea4,<-ea4,dz0,dz0,dz0]
        rw[<-ee]
        first|done|rfl
      · rintro σ H6 ⟨v4',rfl,rfl⟩;refine ⟨some (.int (e.1:Int)),v4',?_,rfl⟩;rw[i9 hE,ds5,show ([e].map (·.1):List Nat)=[e.1] from rfl,am3,<-hF0,show (((xs.length:Nat):Int)+1 - 1).toNat=xs.length by omega,lxs]
   · rintro σ H5 ⟨v3,v4,rfl,rfl⟩;rw[lkv,du1]
     have hg:∀l,aa5 p (l+1)=E2 (l+1) (o4 rs (l+1)):=fun l=>by
       unfold aa5 be2;rw[W3 tp up (l+1),dy0 _ (by omega)]
     rw[ar5 tp up bl.nk bl.key bl.all hg];exact ⟨_,rfl,q _ s4⟩
end
end My
namespace My
open PySem L2 Mth
section
variable {P:Program} {w:World} {K:PySem.W.Frag} {mg:Str->Option Value} {base:Heap}
def K8 (xs:List Nat):List Int:=xs.map fun (d:Nat)=>(d:Int)
def x9 (l m j:Nat):List Nat:=((du8 j).map (· +1)).filter fun d=>decide (dw5 (d*l) m=d)
theorem bu1 (l m j:Nat):x9 l m (j+1)=if dw5 ((j+1)*l) m=j+1 then x9 l m j++[j+1] else x9 l m j:=by
 unfold x9;rw[eb9,ds5,dz4];show _++List.filter _ [j+1]=_
 split
 · rename_i h;rw[ea0 (p:=fun d=>decide (dw5 (d*l) m=d)) (decide_eq_true h)];rfl
 · rename_i h;rw[ea1 (p:=fun d=>decide (dw5 (d*l) m=d)) (by simpa using h),eb1,du0]
theorem ai3 (l m j:Nat):(x9 l m j).length<=j:=by
 unfold x9;refine dt4 (dz9 _ _) ?_;rw[dr6,du6];exact dr9 _
theorem K0 {l m j d:Nat}(h:d∈x9 l m j):1<=d/\d<=j:=by
 unfold x9 at h;obtain ⟨i,hi,e⟩:=ds9.mp (du4.mp h).1;have:=dv6.mp hi;omega
def ao0:Sp:=fun vs H Q _=>∃(l m j:Nat),vs=[.int (l:Int),.int (m:Int),.int (j:Int)]/\l<=1000/\j<=1000/\∀(a:Addr) (H':Hp),H a=none->c9 H H'->H' a=some (.lst ((K8 (x9 l m j)).map V.int))->Q (.ref a) H'
theorem az9:m8 ["length","m","most"] ["length","m","most"] (j6 X3):=by rfl'
theorem ab4:(["d","m","length"]:List Str).Nodup:=by decide+kernel
theorem ba0 {f:Addr}{fd:FuncData}(F:A9 K "right_numbers" "right_numbers" X3 f fd)(B:Bl mg)(zny:l8 P w K mg base "greatest_part" 1 ["a","b"] cf7):p6 P w K mg base A8 2 f fd ["length","m","most"] ao0:=by
 refine F.ok az9 (fun vs H Q E h=> ?_) (fun cdv A outer s H vs Q E hr h=> ?_)
 · obtain ⟨l,m,j,rfl,hl,hj,q⟩:=h;rfl
 · obtain ⟨l,m,j,rfl,hl,hj,q⟩:=h;have zfz:m7 1 _:=hr.mono (by decide);refine ⟨_,@g6 _ _ _ (@l9 _ _ _ _ (@aj4 _ _ _ _ _ _ _ _ _ _ _ (["d","m","length"]) (1) ([1,0]) rfl .of (@R6 _ _ _ _ _ _ _ (by rfl) B.range (@c5 _ _ _ _ _ (@i6 _ _ _ _) (@c5 _ _ _ _ _ (@n5 _ _ _ _ _ _ _ _ E9 (pv 2) (@i6 _ _ _ _)) (@c6 _) (by rfl)) (by rfl)) (by rfl) (by rfl)) (fun _ _ _ _ _=>@i7 _ _ (0) _ ab4 rfl (Or.inl rfl) (by trivial)) (fun _ _ _ _ _=>@ay7 _ _ _ (@p8 _ _ _ _ _ _ _ _ U5 (@h8 _ _ _ _ _ _ _ _ _ _ zny zfz (@c5 _ _ _ _ _ (@n5 _ _ _ _ _ _ _ _ N7 (pv 0) (pv 2)) (@c5 _ _ _ _ _ (pv 1) (@c6 _) (by rfl)) (by rfl)) (by rfl) (by decide) (by rfl) (by rfl)) (pv 0) (w5 _))) (fun _ _ _ _ _=>(pv 0)) (by intro _;rfl))),?_⟩;refine ⟨_,rfl,_,_,rfl,rfl,1,(j:Int)+1,rfl,⟨by decide,by decide,by omega,by omega⟩,?_⟩
   have en:((j:Int)+1 - 1).toNat=j:=by omega
   rw[en];refine ce6 (lo:=1) (n:=j) (fun i ys σ H2=>∃v:Option V,σ=[v,some (.int (m:Int)),some (.int (l:Int))]/\H2=H/\ys=(K8 (x9 l m i)).map V.int) ⟨none,rfl,rfl,by simp [x9,K8]⟩ ?_ ?_
   · rintro i ys σ H2 hi ⟨v,rfl,rfl,rfl⟩;have li:=ai3 l m i;have es:=bu1 l m i
     have e1:(1:Int)+(i:Int)=((i+1:Nat):Int):=by omega
     refine ⟨_,rfl,_,rfl,_,_,rfl,rfl,.inr ⟨by omega,by omega⟩,_,rfl,(i+1)*l,m,?_,?_⟩
     · show [V.int ((1+(i:Int))*(l:Int)),V.int (m:Int)]++[]=_;rw[e1,<-ea4];rfl
     refine ⟨_,rfl,rfl,_,rfl,O7 (fun h1=> ?_) (fun h1=> ?_)⟩
     · have d1:dw5 ((i+1)*l) m=i+1:=by
         have:=V.int.inj (of_decide_eq_true h1);omega
       refine ⟨_,rfl,t6 (by unfold K8;rw[dr6,dr6];omega),_,rfl,rfl,?_⟩;rw[es,if_pos d1];unfold K8;rw[ds5,ds5,e1];rfl
     · have d1:¬dw5 ((i+1)*l) m=i+1:=fun e=>h1 (decide_eq_true (congrArg V.int (by rw[e];omega)))
       refine ⟨_,rfl,rfl,?_⟩;rw[es,if_neg d1]
   · rintro ys σ H2 ⟨v,rfl,rfl,rfl⟩ D hD;exact q D _ hD (c9.upd_new hD) c7
def A1 (n l:Nat):Nat->Nat
 |0=>1
 |k+1=>A1 n l k*(n - (k+1))*l
def ba1:Sp:=fun vs H Q _=>∃(n d l:Nat),vs=[.int (n:Int),.int (d:Int),.int (l:Int)]/\1<=d/\d<=n/\n<=1000/\l<=1000/\Q (.int ((A1 n l (d - 1):Nat):Int)) H
theorem N6:m8 ["left","part","length","ways","taken"] ["left","part","length"] (j6 V4):=by rfl'
theorem ax2 {f:Addr}{fd:FuncData}(F:A9 K "ways_to_follow" "ways_to_follow" V4 f fd)(B:Bl mg):p6 P w K mg base A8 1 f fd ["left","part","length"] ba1:=by
 refine F.ok N6 (fun vs H Q E h=> ?_) (fun cdv A outer s H vs Q E hr h=> ?_)
 · obtain ⟨n,d,l,rfl,d1,dn,hn,hl,q⟩:=h;rfl
 · obtain ⟨n,d,l,rfl,d1,dn,hn,hl,q⟩:=h;refine ⟨_,@e8 _ _ _ _ _ (@i8 _ _ (3) _ _ _ _ N6.nd rfl (Or.inl rfl) (@i6 _ _ _ _) (by rfl) (by trivial)) (@e8 _ _ _ _ _ (@n9 _ _ _ _ _ _ _ _ PassesOwn.never rfl (@R6 _ _ _ _ _ _ _ (by rfl) B.range (@c5 _ _ _ _ _ (@i6 _ _ _ _) (@c5 _ _ _ _ _ (pv 1) (@c6 _) (by rfl)) (by rfl)) (by rfl) (by rfl)) (@i7 _ _ (4) _ N6.nd rfl (Or.inl rfl) (by trivial)) (@g6 _ _ _ (@i8 _ _ (3) _ _ _ _ N6.nd rfl (Or.inl rfl) (@n5 _ _ _ _ _ _ _ _ N7 (@n5 _ _ _ _ _ _ _ _ N7 (pv 3) (@n5 _ _ _ _ _ _ _ _ bq2 (pv 0) (pv 4))) (pv 2)) (by rfl) (by trivial))) (by intro _;rfl)) (@g6 _ _ _ (@l9 _ _ _ _ (pv 3)))),?_⟩;refine ⟨_,rfl,1,(d:Int),rfl,⟨by decide,by decide,by omega,by omega⟩,?_⟩
   have en:((d:Int) - 1).toNat=d - 1:=by omega
   rw[en];refine K3 (lo:=1) (n:=d - 1) (fun i σ H2=>∃v:Option V,σ=[some (.int (n:Int)),some (.int (d:Int)),some (.int (l:Int)),some (.int ((A1 n l i:Nat):Int)),v]/\H2=H) ⟨none,rfl,rfl⟩ ?_ ?_
   · rintro i σ H2 hi ⟨v,rfl,rfl⟩
     have e64:(2:Int)^64=18446744073709551616:=by decide
     refine ⟨_,rfl,_,rfl,_,rfl,_,_,rfl,rfl,_,_,rfl,rfl,.inr ⟨by rw[e64];omega,by rw[e64];omega⟩,_,rfl,_,_,rfl,rfl,.inr ⟨by rw[e64];omega,by rw[e64];omega⟩,some (.int (1+(i:Int))),?_,rfl⟩
     have e:((A1 n l i:Nat):Int)*((n:Int) - (1+(i:Int)))*(l:Int)=((A1 n l (i+1):Nat):Int):=by
       show _=((A1 n l i*(n - (i+1))*l:Nat):Int);rw[ea4,ea4]
       congr 2
       omega
     rw[<-e];rfl
   · rintro σ H2 ⟨v,rfl,rfl⟩;exact ⟨_,rfl,q⟩
def ao1 (l:Nat)(rs cs:List Nat)(n:Nat):Nat:=((rs.filter fun d=>decide (d<=n)).map fun d=>A1 n l (d - 1)*cs.getD (n - d) 0).sum
def C0 (l:Nat)(rs:List Nat):Nat->List Nat
 |0=>[1]
 |k+1=>C0 l rs k++[ao1 l rs (C0 l rs k) (k+1)]
def D6 (l m n:Nat):Nat:=(C0 l (x9 l m n) n).getD n 0
theorem M9 (l:Nat)(rs:List Nat):∀k,(C0 l rs k).length=k+1
 |0=>rfl
 |k+1=>by
  show (C0 l rs k++[_]).length=_;rw[ds6,M9 l rs k];rfl
theorem as5 {n l:Nat}(h:n*l<=1600):∀k,A1 n l k<=1600^k
 |0=>dr9 _
 |k+1=>by
  show A1 n l k*(n - (k+1))*l<=_;rw[dz0,Nat.pow_succ];refine eh9 (as5 h k) (dt4 (eb2 _ (Nat.sub_le _ _)) h)
theorem be3 {c:Nat}:∀{xs:List Nat},(∀x∈xs,x<=c)->xs.sum<=xs.length*c
 |[],_=>du2 _
 |x::xs,h=>by
  have:=be3 fun y hy=>h y (ds3 _ hy)
  have:=h x ds1;rw[ec5,dt9,em8,em6];omega
theorem ba2 {l:Nat}{rs:List Nat}(hl:l<=40)(hr:rs.length<=40)(h1:∀d∈rs,1<=d):∀k,k<=40->∀i,(C0 l rs k).getD i 0<=1600^i
 |0,_,0=>dr9 _
 |0,_,i+1=>du2 _
 |k+1,hk,i=>by
  have ih:=ba2 hl hr h1 k (by omega);show (C0 l rs k++[_]).getD i 0<=_;have ln:=M9 l rs k;rw[ds2]
  by_cases z:i < k+1
  · rw[dv0 (by omega),<-ds2];exact ih i
  · rw[dw6 (by omega),ln]
    by_cases y:i=k+1
    · subst y;rw[ej6];show ao1 l rs (C0 l rs k) (k+1)<=_;unfold ao1;refine dt4 (be3 (c:=1600^k) fun x hx=> ?_) ?_
      · obtain ⟨d,hd,rfl⟩:=ds9.mp hx;obtain ⟨hd1,hd2⟩:=du4.mp hd;have d1:=h1 d hd1;have d2:d<=k+1:=of_decide_eq_true hd2;have a:=as5 (n:=k+1) (l:=l) (dt4 (eh9 hk hl) (by decide)) (d - 1);have b:=ih (k+1 - d);refine dt4 (eh9 a b) ?_;rw[<-Nat.pow_add,show d - 1+(k+1 - d)=k by omega];exact dr9 _
      · rw[dr6,Nat.pow_succ,ea5 (1600^k)];refine eb2 _ ?_;have:=dz9 (fun d=>decide (d<=k+1)) rs;omega
    · rw[ds7 (by show 1<=i - (k+1);omega)];exact du2 _
theorem cc1 {xs:List Nat}{i:Int}(h0:0<=i)(h1:i < xs.length):atI ((K8 xs).map V.int) i=some (.int ((xs.getD i.toNat 0:Nat):Int)):=by
 have l:(K8 xs).length=xs.length:=dr6 ..;rw[Mth.aj5 h0 (by rw[l];exact h1)]
 congr 2
 unfold K8;rw[ds2,ds2,ds0]
 cases xs[i.toNat]? <;>rfl
theorem di6 {xs:List Nat}{j:Nat}{x:V}(h:((K8 xs).map V.int)[j]? =some x):∃d:Nat,xs[j]? =some d/\x= .int (d:Int):=by
 unfold K8 at h;rw[ds0,ds0] at h
 cases e:xs[j]? with
 |none=>rw[e] at h;cases h
 |some d=>rw[e] at h;exact ⟨d,rfl,(Option.some.inj h).symm⟩
theorem cc2:∀xs:List Nat,(K8 xs).sum=((xs.sum:Nat):Int)
 |[]=>rfl
 |x::xs=>by
  show (x:Int)+(K8 xs).sum=_;rw[cc2 xs,ec5,ej4]
theorem bu2 (i:Nat)(h:i<=40){n:Nat}(hn:440 < n):1600^i < 2^n:=by
 have a:1600^i<=(2^11)^i:=Nat.pow_le_pow_left (by decide) i;rw[<-Nat.pow_mul] at a;exact dw0 a (Nat.pow_lt_pow_right (by decide) (by omega))
def bh9:Sp:=fun vs H Q _=>∃(l n m:Nat),vs=[.int (l:Int),.int (n:Int),.int (m:Int)]/\l<=40/\n<=40/\∀H':Hp,c9 H H'->Q (.int ((D6 l m n:Nat):Int)) H'
theorem O2:m8 ["length","many","m","right","counts","left","ways"] ["length","many","m"] (j6 ac3):=by rfl'
theorem Q9:(["part","left","length","counts"]:List Str).Nodup:=by decide+kernel
theorem bi0 {f:Addr}{fd:FuncData}(F:A9 K "count_joins" "count_joins" ac3 f fd)(B:Bl mg)(zwy:l8 P w K mg base "right_numbers" 2 ["length","m","most"] ao0)(zoz:l8 P w K mg base "ways_to_follow" 1 ["left","part","length"] ba1):p6 P w K mg base A8 3 f fd ["length","many","m"] bh9:=by
 refine F.ok O2 (fun vs H Q E h=> ?_) (fun cdv A outer s H vs Q E hr h=> ?_)
 · obtain ⟨l,n,m,rfl,hl,hn,q⟩:=h;rfl
 · obtain ⟨l,n,m,rfl,hl,hn,q⟩:=h;have zoy:m7 2 _:=hr.mono (by decide);have zf:m7 1 _:=hr.mono (by decide);refine ⟨_,@e8 _ _ _ _ _ (@i8 _ _ (3) _ _ _ _ O2.nd rfl (Or.inl rfl) (@h8 _ _ _ _ _ _ _ _ _ _ zwy zoy (@c5 _ _ _ _ _ (pv 0) (@c5 _ _ _ _ _ (pv 2) (@c5 _ _ _ _ _ (pv 1) (@c6 _) (by rfl)) (by rfl)) (by rfl)) (by rfl) (by decide) (by rfl) (by rfl)) (by rfl) (by trivial)) (@e8 _ _ _ _ _ (@i8 _ _ (4) _ _ _ _ O2.nd rfl (Or.inr rfl) (@p5 _ _ _ _ (@c5 _ _ _ _ _ (@i6 _ _ _ _) (@c6 _) (by rfl))) (by rfl) (by trivial)) (@e8 _ _ _ _ _ (@n9 _ _ _ _ _ _ _ _ PassesOwn.never rfl (@R6 _ _ _ _ _ _ _ (by rfl) B.range (@c5 _ _ _ _ _ (@i6 _ _ _ _) (@c5 _ _ _ _ _ (@n5 _ _ _ _ _ _ _ _ E9 (pv 1) (@i6 _ _ _ _)) (@c6 _) (by rfl)) (by rfl)) (by rfl) (by rfl)) (@i7 _ _ (5) _ O2.nd rfl (Or.inr rfl) (by trivial)) (@e8 _ _ _ _ _ (@ca4 _ (6) _ _ _ _ _ _ _ _ _ _ _ _ _ (["part","left","length","counts"]) (1) ([5,0,4]) O2.nd rfl (Or.inl rfl) rfl .of (@w4 _ _ _ _ (pv 3)) (fun _ _ _ _ _=>@i7 _ _ (0) _ Q9 rfl (Or.inl rfl) (by trivial)) (fun _ _ _ _ _=>@ay7 _ _ _ (@p8 _ _ _ _ _ _ _ _ bo3 (pv 0) (pv 1) (w5 _))) (fun _ _ _ _ _=>(@n5 _ _ _ _ _ _ _ _ cb7 (@h8 _ _ _ _ _ _ _ _ _ _ zoz zf (@c5 _ _ _ _ _ (pv 1) (@c5 _ _ _ _ _ (pv 0) (@c5 _ _ _ _ _ (pv 2) (@c6 _) (by rfl)) (by rfl)) (by rfl)) (by rfl) (by decide) (by rfl) (by rfl)) (@I0 _ _ _ _ _ _ (cq6 K) B5 (pv 3) (@n5 _ _ _ _ _ _ _ _ bq2 (pv 1) (pv 0)) (fun _ _=>rfl)))) (by rfl) (by intro _;rfl) (by trivial)) (@g6 _ _ _ (@w6 _ _ _ _ (@B0 _ _ _ _ _ _ _ (pv 4) (@c5 _ _ _ _ _ (@cl1 _ _ _ _ _ rfl B.sum (@c5 _ _ _ _ _ (pv 6) (@c6 _) (by rfl)) (by rfl) (by rfl)) (@c6 _) (by rfl)) (by rfl) (by rfl) (by rfl) (by rfl) (by rfl)) (by rfl)))) (by intro _;rfl)) (@g6 _ _ _ (@l9 _ _ _ _ (@I0 _ _ _ _ _ _ _ B5 (pv 4) (pv 1) (fun _ _=>rfl)))))),?_⟩;refine ⟨_,rfl,_,rfl,_,rfl,l,m,n,rfl,by omega,by omega,fun ra H1 hra s1 h1=> ?_⟩;obtain ⟨rs,ers⟩:∃rs,rs=x9 l m n:=⟨_,rfl⟩;rw[<-ers] at h1;refine ⟨(show 1<=sizeLine by decide),fun cs hcs=> ?_⟩;have s2:c9 H1 (c8 H1 cs (.lst [V.int 1])):=c9.upd_new hcs;have h2:(c8 H1 cs (.lst [V.int 1])) cs=some (.lst ((K8 (C0 l rs 0)).map V.int)):=c7;have h2r:=s2 _ _ h1;have nrc:ra≠cs:=g8 h1 hcs;generalize (c8 H1 cs (.lst [V.int 1]))=H2 at s2 h2 h2r ⊢;refine ⟨_,rfl,_,_,rfl,rfl,1,(n:Int)+1,rfl,⟨by decide,by decide,by omega,by omega⟩,?_⟩
   have en:((n:Int)+1 - 1).toNat=n:=by omega
   rw[en];refine K3 (lo:=1) (n:=n) (fun i σ H3=>∃v w:Option V,σ=[some (.int (l:Int)),some (.int (n:Int)),some (.int (m:Int)),some (.ref ra),some (.ref cs),v,w]/\H3 cs=some (.lst ((K8 (C0 l rs i)).map V.int))/\j5 cs H2 H3) ⟨none,none,rfl,h2,j5.refl cs H2⟩ ?_ ?_
   · rintro i σ H3 hi ⟨v,w,rfl,h3,kb3⟩;have h3r:=kb3 _ _ h2r nrc
     have lrs:rs.length<=40:=by rw[ers];exact dt4 (ai3 l m n) hn
     have prs:∀d∈rs,1<=d:=fun d hd=>by rw[ers] at hd;exact (K0 hd).1
     have e1:(1:Int)+(i:Int)=((i+1:Nat):Int):=by omega
     rw[e1]
     refine ⟨_,rfl,ra,rfl,⟨_,g9.of h3r⟩,ab2 (K:=K) (a:=ra) (xs:=(K8 rs).map V.int) (fun j ys σ H4=>∃u:Option V,σ=[u,some (.int ((i+1:Nat):Int)),some (.int (l:Int)),some (.ref cs)]/\H4=H3/\ys=(K8 (((rs.take j).filter fun d=>decide (d<=i+1)).map fun d=>A1 (i+1) l (d - 1)*(C0 l rs i).getD (i+1 - d) 0)).map V.int)
       ⟨none,rfl,rfl,by simp [K8]⟩ (fun j ys σ H4 _ zz=>by obtain ⟨_,_,e,_⟩:=zz;rw[e];exact g9.of h3r) ?_ ?_⟩
     · rintro j x ys σ H4 hj ⟨u,rfl,rfl,rfl⟩;obtain ⟨d,hd,rfl⟩:=di6 hj;have d1:=prs d (ds4 hd);have jl:j < rs.length:=(dr7.mp hd).1;refine ⟨_,rfl,_,rfl,_,_,rfl,rfl,_,rfl,O7 (fun h1=> ?_) (fun h1=> ?_)⟩
       · have dn:d<=i+1:=by
           have:=of_decide_eq_true h1;omega
         refine ⟨_,rfl,_,rfl,_,rfl,i+1,d,l,rfl,d1,dn,by omega,by omega,_,rfl,_,rfl,_,rfl,_,_,rfl,rfl,cs,_,_,_,rfl,rfl,g9.of h3,cc1 (xs:=C0 l rs i) (by omega) (by rw[M9];omega),_,_,rfl,rfl,⟨?_,?_⟩,?_⟩
         · rw[eh5];exact dw0 (as5 (dt4 (eh9 (show i+1<=40 by omega) hl) (by decide)) _) (bu2 (d - 1) (by omega) (by decide))
         · rw[eh5];exact dw0 (ba2 hl lrs prs i (by omega) _) (bu2 _ (by omega) (by decide))
         · have lj:((rs.take j).filter fun d=>decide (d<=i+1)).length<=40:=dt4 (dz9 _ _) (by rw[dt3];omega);refine ⟨t6 (by unfold K8;rw[dr6,dr6,dr6];omega),_,rfl,rfl,?_⟩;rw[i9 hd,dz4,ea0 (p:=fun d=>decide (d<=i+1)) (decide_eq_true dn),eb1];unfold K8;rw[ds5,ds5,ds5]
           congr 1
           have ed:((((i+1:Nat):Int)) - (d:Int)).toNat=i+1 - d:=by omega
           show [V.int (((A1 (i+1) l (d - 1):Nat):Int)*(((C0 l rs i).getD ((((i+1:Nat):Int)) - (d:Int)).toNat 0:Nat):Int))]=[V.int ((A1 (i+1) l (d - 1)*(C0 l rs i).getD (i+1 - d) 0:Nat):Int)];rw[ed,ea4]
       · have dn:¬d<=i+1:=fun z=>h1 (decide_eq_true (by omega))
         refine ⟨_,rfl,rfl,?_⟩;rw[i9 hd,dz4,ea1 (p:=fun d=>decide (d<=i+1)) (by simpa using dn),eb1,du0]
     · rintro ys σ H4 ⟨u,rfl,rfl,rfl⟩ D hD
       have ll:((K8 rs).map V.int).length=rs.length:=by unfold K8;rw[dr6,dr6]
       rw[ll,du1]
       obtain ⟨ws,ews⟩:∃ws,ws=(rs.filter fun d=>decide (d<=i+1)).map fun d=>A1 (i+1) l (d - 1)*(C0 l rs i).getD (i+1 - d) 0:=⟨_,rfl⟩
       rw[<-ews];have s5:c9 H4 (c8 H4 D (.lst ((K8 ws).map V.int))):=c9.upd_new hD;have h5:(c8 H4 D (.lst ((K8 ws).map V.int))) D=some (.lst ((K8 ws).map V.int)):=c7;generalize (c8 H4 D (.lst ((K8 ws).map V.int)))=H5 at s5 h5 ⊢;have h5c:=s5 _ _ h3;refine ⟨_,rfl,.inl ⟨rfl,_,g9.of h5c⟩,_,rfl,D,_,rfl,g9.of h5,cs,_,_,rfl,rfl,h5c,t6 (by unfold K8;rw[dr6,dr6,M9];omega),?_⟩;refine ⟨_,_,rfl,?_,fun x o hx hn=>by rw[g7 hn];exact s5 x o (kb3 x o hx hn)⟩;rw[c7,cc2,ews];show some (HO.lst (_++[V.int ((ao1 l rs (C0 l rs i) (i+1):Nat):Int)]))=some (HO.lst ((K8 (C0 l rs i++[ao1 l rs (C0 l rs i) (i+1)])).map V.int));unfold K8;rw[ds5,ds5];rfl
   · rintro σ H3 ⟨v,w,rfl,h3,kb3⟩;have s3:c9 H H3:=(s1.trans s2).kb kb3 (s1.free hcs);refine ⟨_,rfl,_,rfl,cs,_,_,_,rfl,rfl,g9.of h3,cc1 (xs:=C0 l rs n) (by omega) (by rw[M9];omega),?_⟩;rw[dw1,ers];exact q H3 s3
theorem bl0 {l m n:Nat}(hl:l<=40)(hn:n<=40):D6 l m n<=1600^40:=
 dt4 (ba2 hl (dt4 (ai3 l m n) hn) (fun _ hd=>(K0 hd).1) n hn n) (Nat.pow_le_pow_right (by decide) hn)
theorem bu3 {f:Nat->Nat}{c:Nat}:∀{ks:List Nat},(∀k∈ks,f k<=c)->o7 f ks<=c^ks.length
 |[],_=>dr9 _
 |k::ks,h=>by
  show f k*o7 f ks<=c^(ks.length+1);rw[Nat.pow_succ,ea5];exact eh9 (bu3 fun x hx=>h x (ds3 _ hx)) (h k ds1)
theorem dc6 (i:Nat)(h:i<=40){n:Nat}(hn:17600 < n):(1600^40)^i < 2^n:=by
 rw[<-Nat.pow_mul];have a:1600^(40*i)<=(2^11)^(40*i):=Nat.pow_le_pow_left (by decide) _;rw[<-Nat.pow_mul] at a;exact dw0 a (Nat.pow_lt_pow_right (by decide) (by omega))
theorem as6 {p:List Int}(t:j7 p){rs:List (List Int)}(up:y8 p p.length rs){ks:List Nat}(nk:ks.Nodup)(h1:∀k∈ks,∃r∈rs,r.length=k)(h2:∀r∈rs,r.length∈ks){f:Nat->Nat}(hf:∀u,o4 rs u=0->f u=1):
   o7 f ks=o7 f ((du8 p.length).map (· +1)):=by
 refine ar4 nk ?_ (fun k hk=> ?_) fun u hu hn=> ?_
 · exact List.Pairwise.map (fun x:Nat=>x+1) (fun a b h=>by omega) (ee8 (n:=p.length))
 · obtain ⟨r,hr,rfl⟩:=h1 k hk;obtain ⟨y,L,hy,pr,er,_⟩:=up.ring r hr
   have b:=L8 t hy (m:=L) fun i i0 i1=>pr.least i i0 i1
   have:=pr.pos;rw[er,n6];exact ds9.mpr ⟨L - 1,dv6.mpr (by omega),by omega⟩
 · refine hf u ?_
   by_cases z:o4 rs u=0
   · exact z
   · obtain ⟨r,hr,rfl⟩:=ca9 z;exact absurd (h2 r hr) hn
noncomputable def ac4 (p:List Int)(m:Nat):Nat:=o7 (fun l=>D6 l m (o4 (i4 p p.length) l)) ((du8 p.length).map (· +1))
def as7:Sp:=fun vs H Q _=>∃(a:Addr) (p:List Int) (m:Nat),vs=[.ref a,.int (m:Int)]/\B9 H a p/\1<=m/\∀H':Hp,c9 H H'->Q (.int ((ac4 p m:Nat):Int)) H'
theorem L4:m8 ["p","m","by_length","many","length"] ["p","m"] (j6 V5):=by rfl'
theorem ax3 {f:Addr}{fd:FuncData}(F:A9 K "how_many_roots" "how_many_roots" V5 f fd)(B:Bl mg)(zyx:l8 P w K mg base "must_be_turn" 3 ["thing"] ak2)(zpz:l8 P w K mg base "must_be_from_one" 2 ["number"] cf8)(zzz:l8 P w K mg base "sort_by_length" 1 ["rings"] ad7)(zzy:l8 P w K mg base "walk_rings" 2 ["p"] O1)(zlx:l8 P w K mg base "count_joins" 3 ["length","many","m"] bh9):p6 P w K mg base A8 4 f fd ["p","m"] as7:=by
 refine F.ok L4 (fun vs H Q E h=> ?_) (fun cdv A outer s H vs Q E hr h=> ?_)
 · obtain ⟨a,p,m,rfl,⟨ha,tp,lp⟩,m1,q⟩:=h;rfl
 · obtain ⟨a,p,m,rfl,⟨ha,tp,lp⟩,m1,q⟩:=h;have znz:m7 3 _:=hr.mono (by decide);have zhx:m7 2 _:=hr.mono (by decide);have zy:m7 1 _:=hr.mono (by decide);have zv:m7 2 _:=hr.mono (by decide);have ze:m7 3 _:=hr.mono (by decide);have hu:=T2 hr;refine ⟨_,@e8 _ _ _ _ _ (@w6 _ _ _ _ (@h8 _ _ _ _ _ _ _ _ _ _ zyx znz (@c5 _ _ _ _ _ (pv 0) (@c6 _) (by rfl)) (by rfl) (by decide) (by rfl) (by rfl)) (by rfl)) (@e8 _ _ _ _ _ (@w6 _ _ _ _ (@h8 _ _ _ _ _ _ _ _ _ _ zpz zhx (@c5 _ _ _ _ _ (pv 1) (@c6 _) (by rfl)) (by rfl) (by decide) (by rfl) (by rfl)) (by rfl)) (@e8 _ _ _ _ _ (@i8 _ _ (2) _ _ _ _ L4.nd rfl (Or.inl rfl) (@h8 _ _ _ _ _ _ _ _ _ _ zzz zy (@c5 _ _ _ _ _ (@h8 _ _ _ _ _ _ _ _ _ _ zzy zv (@c5 _ _ _ _ _ (pv 0) (@c6 _) (by rfl)) (by rfl) (by decide) (by rfl) (by rfl)) (@c6 _) (by rfl)) (by rfl) (by decide) (by rfl) (by rfl)) (by rfl) (by trivial)) (@e8 _ _ _ _ _ (@i8 _ _ (3) _ _ _ _ L4.nd rfl (Or.inl rfl) (@i6 _ _ _ _) (by rfl) (by trivial)) (@e8 _ _ _ _ _ (@n9 _ _ _ _ _ _ _ _ PassesOwn.never rfl (@av6 _ _ _ _ (pv 2)) (@i7 _ _ (4) _ L4.nd rfl (Or.inl rfl) (by trivial)) (@g6 _ _ _ (@i8 _ _ (3) _ _ _ _ L4.nd rfl (Or.inl rfl) (@n5 _ _ _ _ _ _ _ _ cb7 (pv 3) (@h8 _ _ _ _ _ _ _ _ _ _ zlx ze (@c5 _ _ _ _ _ (pv 4) (@c5 _ _ _ _ _ (@p9 _ _ _ _ _ B.len (@c5 _ _ _ _ _ (@ad3 _ _ _ _ _ _ hu (pv 2) (pv 4) (fun _ _=>rfl)) (@c6 _) (by rfl)) (by rfl) (by rfl)) (@c5 _ _ _ _ _ (pv 1) (@c6 _) (by rfl)) (by rfl)) (by rfl)) (by rfl) (by decide) (by rfl) (by rfl))) (by rfl) (by trivial))) (by intro _;rfl)) (@g6 _ _ _ (@l9 _ _ _ _ (pv 3))))))),?_⟩;refine ⟨_,rfl,a,p,rfl,⟨ha,tp,lp⟩,fun H1 s1=> ?_⟩;refine ⟨_,rfl,(m:Int),rfl,by omega,?_⟩;refine ⟨_,rfl,a,p,rfl,⟨s1 a _ ha,tp,lp⟩,fun l as rs H2 hl s12 h2l rows up fa nda nla=> ?_⟩;have cl:=aa0 up;have fl:=S5 tp up;refine ⟨l,as,rs,rfl,h2l,rows,by omega,fun d es H3 hd s23 h3d bl les fre=> ?_⟩;have s03:=(s1.trans s12).trans s23;have hd0:H d=none:=(s1.trans s12).free hd;refine ⟨_,rfl,d,o6 es,rfl,h3d,fun o=> ?_⟩;have s4:c9 H (c8 H3 d (.frz o (.dK (o6 es)))):=s03.upd_r hd0;have h4d:(c8 H3 d (.frz o (.dK (o6 es)))) d=some (.frz o (.dK (o6 es))):=c7
   have kp:∀c,c≠d->(c8 H3 d (.frz o (.dK (o6 es)))) c=H3 c:=fun c hc=>g7 hc
   generalize (c8 H3 d (.frz o (.dK (o6 es))))=H4 at s4 h4d kp ⊢
   have lkv:(o6 es).length=es.length:=by unfold o6;rw[dr6]
   have fb:∀e∈es,e.1<=40/\o4 rs e.1<=40:=fun e he=>by
     obtain ⟨r,hr',lr⟩:=bl.key e.1 (ds9.mpr ⟨e,he,rfl⟩);obtain ⟨y,L,hy,pr,er,_⟩:=up.ring r hr'
     have b:=L8 tp hy (m:=L) fun i i0 i1=>pr.least i i0 i1
     rw[er,n6] at lr;have:o4 rs e.1<=rs.length:=ei9;exact ⟨by omega,by omega⟩
   refine am2 (fun i σ H5=>∃(v:Option V),σ=[some (.ref a),some (.int (m:Int)),some (.ref d),some (.int ((o7 (fun l=>D6 l m (o4 rs l)) ((es.take i).map (·.1)):Nat):Int)),v]/\c9 H4 H5)
     ⟨none,rfl,c9.refl H4⟩ (fun i σ H5 _ ⟨_,_,e⟩=>e _ _ h4d) ?_ ?_
   · rintro i k v σ H5 hi ⟨v4,rfl,s5⟩;unfold o6 at hi;rw[ds0] at hi
     cases hE:es[i]? with
     |none=>rw[hE] at hi;cases hi
     |some e=>
      rw[hE] at hi;cases hi;have he:=ds4 hE;have il:i < es.length:=(dr7.mp hE).1;obtain ⟨cs,hcs,rcs⟩:=bl.row e he;obtain ⟨le40,lc40⟩:=fb e he
      have lcs:cs.length=o4 rs e.1:=by
        rw[rcs.1];unfold p7 o4;exact (dx9 ..).symm
      have h5x:H5 e.2=some (.lst (cs.map V.ref)):=s5 _ _ (by rw[kp _ (bl.nd e he)];exact hcs)
      have pb:o7 (fun l=>D6 l m (o4 rs l)) ((es.take i).map (·.1))<=(1600^40)^i:=by
        have:=bu3 (f:=fun l=>D6 l m (o4 rs l)) (c:=1600^40) (ks:=(es.take i).map (·.1)) fun k hk=>by
          obtain ⟨e1,he1,rfl⟩:=ds9.mp hk;obtain ⟨b1,b2⟩:=fb e1 (dx8 he1);exact bl0 b1 b2
        rw[dr6,dt3,ed0 (by omega)] at this;exact this
      obtain ⟨F0,hF0⟩:∃F0,F0=o7 (fun l=>D6 l m (o4 rs l)) ((es.take i).map (·.1)):=⟨_,rfl⟩;rw[<-hF0] at pb ⊢;refine ⟨_,rfl,_,rfl,_,rfl,_,rfl,d,.ref e.2,rfl,.inl ⟨o6 es,Sum.inl (e.1:Int),.inr ⟨o,s5 _ _ h4d⟩,rfl,(as4 bl.nk he).symm⟩,e.2,_,rfl,.inl (g9.of h5x),_,rfl,e.1,cs.length,m,?_,le40,by omega,fun H6 s6=> ?_⟩
      · show [V.int (e.1:Int),V.int (((cs.map V.ref).length:Nat):Int),V.int (m:Int)]++[]=_;rw[dr6];rfl
      refine ⟨_,_,rfl,rfl,⟨?_,?_⟩,some (.int (e.1:Int)),?_,s5.trans s6⟩
      · rw[eh5];exact dw0 pb (dc6 i (by omega) (by decide))
      · rw[eh5];exact dw0 (bl0 le40 (by omega)) (bu2 40 (dr9 _) (by decide))
      · rw[i9 hE,ds5,show ([e].map (·.1):List Nat)=[e.1] from rfl,am3,<-hF0,<-lcs,ea4];rfl
   · rintro σ H5 ⟨v,rfl,s5⟩;rw[lkv,du1,as6 tp up bl.nk bl.key bl.all (f:=fun l=>D6 l m (o4 rs l)) fun u hu=>by show D6 u m (o4 rs u)=1;rw[hu];rfl];have er:rs=i4 p p.length:=up.eq;rw[er];exact ⟨_,rfl,q _ (s4.trans s5)⟩
end
end My
namespace My
open PySem L2 Mth
section
variable {P:Program} {w:World} {K:PySem.W.Frag} {mg:Str->Option Value} {base:Heap} {zx zt zry zxy zxx ztz zvx zty ztx zsz zrx:Addr}
def ai4 (rs:List Nat)(f:Nat->Nat):Nat:=(rs.map f).sum
theorem W6 (r:Nat)(rs:List Nat)(f:Nat->Nat):ai4 (r::rs) f=f r+ai4 rs f:=by unfold ai4;rw[dw3,ec5]
theorem ao2 {f g:Nat->Nat}:∀{rs:List Nat},(∀r∈rs,f r=g r)->ai4 rs f=ai4 rs g
 |[],_=>rfl
 |r::rs,h=>by rw[W6,W6,h r ds1,ao2 fun x hx=>h x (ds3 _ hx)]
def Jn (l:Nat)(rs:List Nat)(j:Nat->Nat):Prop:=j 0=1/\∀n,1<=n->j n=ai4 rs fun d=>if d<=n then A1 n l (d - 1)*j (n - d) else 0
def jf (l:Nat)(rs:List Nat)(n:Nat):Nat:=(C0 l rs n).getD n 0
theorem bl1 (l:Nat)(rs:List Nat):∀(k i:Nat),i<=k->(C0 l rs k).getD i 0=jf l rs i
 |0,i,h=>by rw[show i=0 by omega];rfl
 |k+1,i,h=>by
  by_cases e:i=k+1
  · rw[e];rfl
  · show (C0 l rs k++[_]).getD i 0=_;rw[ds2,dv0 (by rw[M9];omega),<-ds2];exact bl1 l rs k i (by omega)
theorem ay0 (n:Nat)(f:Nat->Nat):∀rs:List Nat,((rs.filter fun d=>decide (d<=n)).map f).sum=ai4 rs fun d=>if d<=n then f d else 0
 |[]=>rfl
 |r::rs=>by
  rw[W6,<-ay0 n f rs]
  by_cases c:r<=n
  · rw[ea0 (by simpa using c),dw3,ec5,if_pos c]
  · rw[ea1 (by simpa using c),if_neg c,ef2]
theorem bp4 {l:Nat}{rs:List Nat}(h1:∀d∈rs,1<=d):Jn l rs (jf l rs):=by
 refine ⟨rfl,fun n n1=> ?_⟩;obtain ⟨k,rfl⟩:∃k,n=k+1:=⟨n - 1,by omega⟩;show (C0 l rs k++[_]).getD (k+1) 0=_;rw[ds2,dw6 (by rw[M9];omega),M9,ej6];show ao1 l rs (C0 l rs k) (k+1)=_;unfold ao1;rw[ay0]
 refine ao2 fun d hd=> ?_
 have:=h1 d hd
 by_cases c:d<=k+1
 · rw[if_pos c,if_pos c,bl1 l rs k _ (by omega)]
 · rw[if_neg c,if_neg c]
end
end My
namespace My
open PySem L2 Mth
section
variable {P:Program} {w:World} {K:PySem.W.Frag} {mg:Str->Option Value} {base:Heap} {zx zt zry zxy zxx ztz zvx zty ztx zsz zrx:Addr}
theorem dp7 (xs:List V)(k:Nat)(h:k<=xs.length):N9 xs none (some (k:Int))=xs.take k:=by
 unfold N9;rw[HT.dq1,HT.do7,eh8,Nat.sub_zero,ed0 h]
theorem dp8 (xs:List V)(k:Nat)(h:k<=xs.length):N9 xs (some (k:Int)) none=xs.drop k:=by
 unfold N9;rw[HT.dq1,HT.do7,ed0 h,dy4 (by rw[dv9];omega)]
def Q0 (n:Nat)(p:List Int)(k:Nat):List Int:=p.take k++[(n:Int)]++p.drop k
def ai5 (n:Nat)(p:List Int):List (List Int):=(du8 (p.length+1)).map (Q0 n p)
def R0:Nat->List (List Int)
 |0=>[[]]
 |n+1=>(R0 n).flatMap (ai5 n)
theorem as8 (i:Nat):∀ps:List (List Int),(∀q∈ps,q.length=i)->(ps.flatMap (ai5 i)).length=ps.length*(i+1)
 |[],_=>by rw[eg2,ed9];rfl
 |q::ps,h=>by
  rw[dw8,ds6,as8 i ps fun q hq=>h q (ds3 _ hq),dt9];unfold ai5;rw[dr6,du6,h q ds1,em8];omega
theorem as9 (n:Nat):L2.K4 0 (n+1)=L2.K4 0 n++[(n:Int)]:=by
 unfold L2.K4;rw[eb9,ds5];show _++[(0:Int)+(n:Int)]=_;rw[Int.zero_add]
theorem be4 (n:Nat)(p:List Int)(k:Nat):(Q0 n p k).Perm (p++[(n:Int)]):=by
 unfold Q0
 have h1:(p.take k++[(n:Int)]++p.drop k).Perm (p.take k++p.drop k++[(n:Int)]):=by
   rw[dt5,dt5];exact List.Perm.append_left _ dy5
 rw[dx0] at h1;exact h1
theorem S6:∀(n:Nat) (r:List Int),r∈R0 n↔j7 r/\r.length=n
 |0,r=>by
  constructor
  · intro h
    have:r=[]:=by simpa [R0] using h
    subst this;exact ⟨⟨dx7,(fun x hx=>by cases hx),(fun x hx=>by cases hx)⟩,rfl⟩
  · rintro ⟨_,h⟩;rw[eb5 h];simp [R0]
 |n+1,r=>by
  constructor
  · intro h;obtain ⟨q,hq,hr⟩:=dw9.mp h;obtain ⟨tq,lq⟩:=(S6 n q).mp hq;obtain ⟨k,_,rfl⟩:=ds9.mp hr
    have pm:(Q0 n q k).Perm (L2.K4 0 (n+1)):=by
      rw[as9];refine (be4 n q k).trans (List.Perm.append_right _ ?_);rw[<-lq];exact tq.perm
    exact N5 pm
  · rintro ⟨tr,lr⟩;have pm:=tr.perm;rw[lr] at pm;have mn:(n:Int)∈r:=pm.mem_iff.mpr (by rw[as9];simp);obtain ⟨k,hk⟩:=dt7.mp mn;have kl:=(dr7.mp hk).1;have ek:r[k]=(n:Int):=(dr7.mp hk).2
    have er:r=r.take k++(n:Int)::r.drop (k+1):=by rw[<-ek,List.getElem_cons_drop,dx0]
    obtain ⟨q,eq⟩:∃q,q=r.take k++r.drop (k+1):=⟨_,rfl⟩
    have ltk:(r.take k).length=k:=by rw[dt3];omega
    have e1:q.take k=r.take k:=by rw[eq,List.take_append_of_le_length (by omega),dy4 (by omega)]
    have e2:q.drop k=r.drop (k+1):=by rw[eq,ej5 (by omega),List.drop_of_length_le (by omega),em4]
    have ep:Q0 n q k=r:=by
      unfold Q0;rw[e1,e2,dt5];exact er.symm
    have pq:(q++[(n:Int)]).Perm (L2.K4 0 n++[(n:Int)]):=by
      rw[<-as9];refine ((be4 n q k).symm.trans ?_);rw[ep];exact pm
    obtain ⟨tq,lq⟩:=N5 ((List.perm_append_right_iff _).mp pq);refine dw9.mpr ⟨q,(S6 n q).mpr ⟨tq,lq⟩,ds9.mpr ⟨k,dv6.mpr (by omega),ep⟩⟩
theorem ba3:∀i,i<=5->(R0 i).length<=120:=by decide+kernel
theorem bl2 {n:Nat}(hn:n<=6):(R0 n).length<=720:=by
 by_cases z:n<=5
 · have:=ba3 n z;omega
 · have:n=5+1:=by omega
   rw[this];show ((R0 5).flatMap (ai5 5)).length<=720;rw[as8 5 _ fun q hq=>((S6 5 q).mp hq).2];have:=ba3 5 (by decide);omega
def cg0:Sp:=fun vs H Q _=>∃(F:Addr) (i:Nat) (as:List Addr) (ps:List (List Int)),vs=[.ref F,.int (i:Int)]/\H F=some (.lst (as.map V.ref))/\j9 H as ps/\(∀q∈ps,q.length=i)/\i<=5/\ps.length<=120/\
 ∀(L:Addr) (bs:List Addr) (H':Hp),H L=none->c9 H H'->H' L=some (.lst (bs.map V.ref))->j9 H' bs (ps.flatMap (ai5 i))->Q (.ref L) H'
theorem ad1:m8 ["rows","thing","found","row","at"] ["rows","thing"] (j6 as1):=by rfl'
theorem cg1 {f:Addr}{fd:FuncData}(F:A9 K "_law_put" "_law_put" as1 f fd)(B:Bl mg):p6 P w K mg base A8 1 f fd ["rows","thing"] cg0:=by
 refine F.ok ad1 (fun vs H Q E h=> ?_) (fun cdv A outer s H vs Q E hr h=> ?_)
 · obtain ⟨F,i,as,ps,rfl,h3F,rows,hps,hi,lenA,q⟩:=h;rfl
 · obtain ⟨F,i,as,ps,rfl,h3F,rows,hps,hi,lenA,q⟩:=h;refine ⟨_,@e8 _ _ _ _ _ (@i8 _ _ (2) _ _ _ _ ad1.nd rfl (Or.inl rfl) (@p5 _ _ _ _ (@c6 _)) (by rfl) (by trivial)) (@e8 _ _ _ _ _ (@n9 _ _ _ _ _ _ _ _ PassesOwn.never rfl (@w4 _ _ _ _ (pv 0)) (@i7 _ _ (3) _ ad1.nd rfl (Or.inl rfl) (by trivial)) (@g6 _ _ _ (@n9 _ _ _ _ _ _ _ _ PassesOwn.never rfl (@V8 _ _ _ _ _ _ (by rfl) B.range (@c5 _ _ _ _ _ (@n5 _ _ _ _ _ _ _ _ E9 (@p9 _ _ _ _ _ B.len (@c5 _ _ _ _ _ (pv 3) (@c6 _) (by rfl)) (by rfl) (by rfl)) (@i6 _ _ _ _)) (@c6 _) (by rfl)) (by rfl)) (@i7 _ _ (4) _ ad1.nd rfl (Or.inl rfl) (by trivial)) (@g6 _ _ _ (@w6 _ _ _ _ (@B0 _ _ _ _ _ _ _ (pv 2) (@c5 _ _ _ _ _ (@n5 _ _ _ _ _ _ _ _ ab1 (@n5 _ _ _ _ _ _ _ _ ab1 (@N4 _ _ _ _ _ _ _ _ _ _ Q6 (pv 3) (@T1 _) (@N8 _ _ _ (pv 4))) (@p5 _ _ _ _ (@c5 _ _ _ _ _ (pv 1) (@c6 _) (by rfl)))) (@N4 _ _ _ _ _ _ _ _ _ _ Q6 (pv 3) (@N8 _ _ _ (pv 4)) (@T1 _))) (@c6 _) (by rfl)) (by rfl) (by rfl) (by rfl) (by rfl) (by rfl)) (by rfl))) (by intro _;rfl))) (by intro _;rfl)) (@g6 _ _ _ (@l9 _ _ _ _ (pv 2)))),?_⟩;refine ⟨du2 _,fun L hL=> ?_⟩;obtain ⟨H3,eH⟩:∃H3,H3=H:=⟨_,rfl⟩;rw[<-eH] at hL h3F rows q ⊢;have nFL:F≠L:=g8 h3F hL;have kb1:j5 L H3 (c8 H3 L (.lst [])):=j5.upd;have h4L:(c8 H3 L (.lst [])) L=some (.lst (([]:List Addr).map V.ref)):=c7;generalize (c8 H3 L (.lst []))=H4 at kb1 h4L ⊢;have h4F:=kb1 _ _ h3F nFL
   have nLas:L∉as:=fun z=>by
     obtain ⟨r,hr'⟩:=Z9 rows z;rw[hL] at hr';cases hr'
   refine ⟨_,rfl,F,rfl,⟨_,g9.of h4F⟩,A7 (K:=K) (a:=F) (xs:=as.map V.ref) (fun j σ H5=>∃(bs:List Addr) (v4 v5:Option V),σ=[some (.ref F),some (.int (i:Int)),some (.ref L),v4,v5]/\H5 L=some (.lst (bs.map V.ref))/\j9 H5 bs ((ps.take j).flatMap (ai5 i))/\j5 L H3 H5/\L∉bs)
     ⟨[],none,none,rfl,h4L,⟨rfl,fun j b r h=>by cases h⟩,kb1,fun z=>by cases z⟩ (fun j σ H5 _ zz=>by obtain ⟨_,_,_,_,_,_,k,_⟩:=zz;exact g9.of (k _ _ h3F nFL)) ?_ ?_⟩
   · rintro j x σ H5 hj ⟨bs,v4,v5,rfl,h5L,rowsB,kb5,nLb⟩
     obtain ⟨a,ha,rfl⟩:∃a,as[j]? =some a/\x=V.ref a:=by
       rw[ds0] at hj
       cases e:as[j]? with
       |none=>rw[e] at hj;cases hj
       |some a=>rw[e] at hj;exact ⟨a,rfl,(Option.some.inj hj).symm⟩
     have jl:j < ps.length:=by rw[<-rows.1];exact (dr7.mp ha).1
     obtain ⟨p,hp⟩:∃p,ps[j]? =some p:=⟨_,dr8 jl⟩;have lp:p.length=i:=hps p (ds4 hp);have h3a:=rows.2 j a p ha hp
     have naL:a≠L:=fun z=>nLas (z▸ds4 ha)
     have h5a:=kb5 _ _ h3a naL
     have etk:ps.take (j+1)=ps.take j++[p]:=by rw[em9,hp];rfl
     refine ⟨_,rfl,a,_,rfl,.inl (g9.of h5a),_,_,rfl,rfl,((p.map V.int).length:Int)+1,rfl,by rw[dr6];omega,by rw[dr6];omega,?_⟩;rw[dr6,show ((p.length:Int)+1).toNat=p.length+1 by omega]
     have cntj:((ps.take j).flatMap (ai5 i)).length=j*(i+1):=by
       rw[as8 i _ fun q hq=>hps q (dx8 hq),dt3]
       congr 1
       omega
     refine K3 (lo:=0) (n:=p.length+1) (fun k σ H6=>∃(bs:List Addr) (v5:Option V),σ=[some (.ref F),some (.int (i:Int)),some (.ref L),some (.ref a),v5]/\H6 L=some (.lst (bs.map V.ref))/\j9 H6 bs ((ps.take j).flatMap (ai5 i)++(du8 k).map (Q0 i p))/\j5 L H3 H6/\L∉bs)
       ⟨bs,v5,rfl,h5L,by rw[List.range_zero,ed1,du0];exact rowsB,kb5,nLb⟩ ?_ ?_
     · rintro k σ H6 hk ⟨bs,v5,rfl,h6L,rowsC,kb6,nLc⟩
       have e0:(0:Int)+(k:Int)=(k:Int):=by omega
       rw[e0];have h6a:=kb6 _ _ h3a naL
       have kl:k<=p.length:=by omega
       refine ⟨_,rfl,.inl ⟨rfl,_,g9.of h6L⟩,_,rfl,_,rfl,_,rfl,a,_,rfl,g9.of h6a,fun sl hsl=> ?_⟩;rw[dp7 (p.map V.int) k (by rw[dr6];exact kl),<-ee4];have s7:c9 H6 (c8 H6 sl (.lst ((p.take k).map V.int))):=c9.upd_new hsl;have h7s:(c8 H6 sl (.lst ((p.take k).map V.int))) sl=some (.lst ((p.take k).map V.int)):=c7;generalize (c8 H6 sl (.lst ((p.take k).map V.int)))=H7 at s7 h7s ⊢;refine ⟨_,rfl,(show 1<=sizeLine by decide),fun o ho=> ?_⟩;have s8:c9 H7 (c8 H7 o (.lst [V.int (i:Int)])):=c9.upd_new ho;have h8o:(c8 H7 o (.lst [V.int (i:Int)])) o=some (.lst [V.int (i:Int)]):=c7;generalize (c8 H7 o (.lst [V.int (i:Int)]))=H8 at s8 h8o ⊢;refine ⟨sl,o,_,_,rfl,rfl,s8 _ _ h7s,h8o,dy8 (t6 (by simp only[ds6,dr6,dt3,ed7];omega)),fun c hc=> ?_⟩
       have ec:(p.take k).map V.int++[V.int (i:Int)]=(p.take k++[(i:Int)]).map V.int:=by rw[ds5];rfl
       rw[ec];have s9:c9 H8 (c8 H8 c (.lst ((p.take k++[(i:Int)]).map V.int))):=c9.upd_new hc;have h9c:(c8 H8 c (.lst ((p.take k++[(i:Int)]).map V.int))) c=some (.lst ((p.take k++[(i:Int)]).map V.int)):=c7;generalize (c8 H8 c (.lst ((p.take k++[(i:Int)]).map V.int)))=H9 at s9 h9c ⊢;have s69:=(s7.trans s8).trans s9;refine ⟨_,rfl,_,rfl,_,rfl,a,_,rfl,g9.of (s69 _ _ h6a),fun d hd=> ?_⟩;rw[dp8 (p.map V.int) k (by rw[dr6];exact kl),<-el0];have s10:c9 H9 (c8 H9 d (.lst ((p.drop k).map V.int))):=c9.upd_new hd;have h10d:(c8 H9 d (.lst ((p.drop k).map V.int))) d=some (.lst ((p.drop k).map V.int)):=c7;generalize (c8 H9 d (.lst ((p.drop k).map V.int)))=H10 at s10 h10d ⊢;refine ⟨c,d,_,_,rfl,rfl,s10 _ _ h9c,h10d,dy8 (t6 (by simp only[ds6,dr6,dt3,dv9,ed7];omega)),fun e he=> ?_⟩;rw[<-ds5];have s610:=s69.trans s10;have nLe:L≠e:=g8 (s610 _ _ h6L) he
       have h11L:(c8 H10 e (.lst ((p.take k++[(i:Int)]++p.drop k).map V.int))) L=some (.lst (bs.map V.ref)):=by rw[g7 nLe];exact s610 _ _ h6L
       have h11e:(c8 H10 e (.lst ((p.take k++[(i:Int)]++p.drop k).map V.int))) e=some (.lst ((Q0 i p k).map V.int)):=c7;have s11:c9 H6 (c8 H10 e (.lst ((p.take k++[(i:Int)]++p.drop k).map V.int))):=s610.trans (c9.upd_new he);generalize (c8 H10 e (.lst ((p.take k++[(i:Int)]++p.drop k).map V.int)))=H11 at s11 h11L h11e ⊢
       have lenC:bs.length<=720:=by
         have:=rowsC.1;rw[ds6,cntj,dr6,du6] at this;have h1:j*(i+1)<=119*(i+1):=eb2 _ (by omega);omega
       refine ⟨L,_,_,rfl,rfl,h11L,t6 (by rw[dr6];omega),?_⟩
       have es:bs.map V.ref++[V.ref e]=(bs++[e]).map V.ref:=by rw[ds5];rfl
       rw[es];refine ⟨bs++[e],_,rfl,c7,?_,(kb6.trans (s11.but L)).upd_a,?_⟩
       · rw[show (du8 (k+1)).map (Q0 i p)=(du8 k).map (Q0 i p)++[Q0 i p k] by rw[eb9,ds5];rfl,<-dt5];refine M8 (m9 rowsC fun b hb o e=> ?_) (by rw[g7 nLe.symm];exact h11e);rw[g7 (show b≠L from fun z=>nLc (z▸hb))];exact s11 _ _ e
       · intro z
         rcases dt1.mp z with z|z
         · exact nLc z
         · exact nLe (ds8.mp z)
     · rintro σ H6 ⟨bs,v5,rfl,h6L,rowsC,kb6,nLc⟩;refine ⟨bs,_,_,rfl,h6L,?_,kb6,nLc⟩;rw[etk,dy6,dw8,eb3,du0];exact rowsC
   · rintro σ H5 ⟨bs,v4,v5,rfl,h5L,rowsB,kb5,nLb⟩;rw[dr6,rows.1,du1] at rowsB;exact ⟨_,rfl,q L bs H5 hL ((c9.refl H3).kb kb5 hL) h5L rowsB⟩
def cg2:Sp:=fun vs H Q _=>∃n:Nat,vs=[.int (n:Int)]/\n<=6/\∀(l:Addr) (as:List Addr) (ts:List (List Int)) (H':Hp),H l=none->c9 H H'->H' l=some (.lst (as.map V.ref))->j9 H' as ts->ts.Perm (R0 n)->ts.Pairwise (fun r r'=>HT.av2 r' r=false)->Q (.ref l) H'
theorem ad2:m8 ["many","found","thing"] ["many"] (j6 as0):=by rfl'
theorem cg3 {f:Addr}{fd:FuncData}(F:A9 K "_law_all" "_law_all" as0 f fd)(B:Bl mg)(zg:l8 P w K mg base "_law_put" 1 ["rows","thing"] cg0):p6 P w K mg base A8 2 f fd ["many"] cg2:=by
 refine F.ok ad2 (fun vs H Q E h=> ?_) (fun cdv A outer s H vs Q E hr h=> ?_)
 · obtain ⟨n,rfl,hn,q⟩:=h;rfl
 · obtain ⟨n,rfl,hn,q⟩:=h;have hr_law_put:m7 1 _:=hr.mono (by decide);have hu2:_+1+1 < cLine:=dw0 (eg9 (by decide:2<=64) _) hr.units;refine ⟨_,@e8 _ _ _ _ _ (@i8 _ _ (1) _ _ _ _ ad2.nd rfl (Or.inl rfl) (@p5 _ _ _ _ (@c5 _ _ _ _ _ (@p5 _ _ _ _ (@c6 _)) (@c6 _) (by rfl))) (by rfl) (by trivial)) (@e8 _ _ _ _ _ (@n9 _ _ _ _ _ _ _ _ PassesOwn.never rfl (@V8 _ _ _ _ _ _ (by rfl) B.range (@c5 _ _ _ _ _ (pv 0) (@c6 _) (by rfl)) (by rfl)) (@i7 _ _ (2) _ ad2.nd rfl (Or.inl rfl) (by trivial)) (@g6 _ _ _ (@i8 _ _ (1) _ _ _ _ ad2.nd rfl (Or.inl rfl) (@h8 _ _ _ _ _ _ _ _ _ _ zg hr_law_put (@c5 _ _ _ _ _ (pv 1) (@c5 _ _ _ _ _ (pv 2) (@c6 _) (by rfl)) (by rfl)) (by rfl) (by decide) (by rfl) (by rfl)) (by rfl) (by trivial))) (by intro _;rfl)) (@g6 _ _ _ (@l9 _ _ _ _ (ah6 hu2 B.sorted (@c5 _ _ _ _ _ (pv 1) (@c6 _) (by rfl)))))),?_⟩;refine ⟨du2 _,fun e0 he0=> ?_⟩;have s1:c9 H (c8 H e0 (.lst [])):=c9.upd_new he0;have h1e:(c8 H e0 (.lst [])) e0=some (.lst (([]:List Int).map V.int)):=c7;generalize (c8 H e0 (.lst []))=H1 at s1 h1e ⊢;refine ⟨(show 1<=sizeLine by decide),fun F0 hF0=> ?_⟩;have s2:c9 H1 (c8 H1 F0 (.lst [V.ref e0])):=c9.upd_new hF0;have h2F:(c8 H1 F0 (.lst [V.ref e0])) F0=some (.lst (([e0]:List Addr).map V.ref)):=c7;generalize (c8 H1 F0 (.lst [V.ref e0]))=H2 at s2 h2F ⊢;have h2e:=s2 _ _ h1e;have s02:=s1.trans s2;refine ⟨_,rfl,(n:Int),rfl,by omega,by omega,?_⟩;rw[show ((n:Int)).toNat=n by omega]
   refine K3 (lo:=0) (n:=n) (fun i σ H3=>∃(F:Addr) (as:List Addr) (v2:Option V),σ=[some (.int (n:Int)),some (.ref F),v2]/\H3 F=some (.lst (as.map V.ref))/\j9 H3 as (R0 i)/\c9 H H3)
     ⟨F0,[e0],none,rfl,h2F,⟨rfl,fun j b r e1 e2=>by
       rcases j with _|j
       · cases e1;cases e2;exact h2e
       · cases e1⟩,s02⟩ ?_ ?_
   · rintro i σ H3 hi ⟨F,as,v2,rfl,h3F,rows,s3⟩
     have e0:(0:Int)+(i:Int)=(i:Int):=by omega
     rw[e0]
     have i5:i<=5:=by omega
     have lenA:=ba3 i i5;exact ⟨_,rfl,_,rfl,F,i,as,_,rfl,h3F,rows,fun q hq=>((S6 i q).mp hq).2,i5,lenA,fun L bs H4 nL s4 h4 rows4=>⟨L,bs,_,rfl,h4,rows4,s3.trans s4⟩⟩
   · rintro σ H3 ⟨F,as,v2,rfl,h3F,rows,s3⟩;refine ⟨_,rfl,F,as,_,rfl,g9.of h3F,rows,fun cs ts l pb pt rows' st hl=> ?_⟩;have s4:c9 H3 (c8 H3 l (.lst (cs.map V.ref))):=c9.upd_new hl;exact q l cs ts _ (s3.free hl) (s3.trans s4) c7 (m9 rows' fun b _ o e=>s4 b o e) pt st
end
end My
namespace My
open PySem L2 Mth
section
variable {P:Program} {w:World} {K:PySem.W.Frag} {mg:Str->Option Value} {base:Heap}
def D2 {α:Type}(R:Addr->α->Prop)(ts:List Addr)(xs:List α):Prop:=ts.length=xs.length/\∀(j:Nat) t x,ts[j]? =some t->xs[j]? =some x->R t x
theorem D2.nil {α:Type}{R:Addr->α->Prop}:D2 R [] ([]:List α):=⟨rfl,fun j t x h=>by cases h⟩
theorem D2.imp {α:Type}{R S:Addr->α->Prop}{ts:List Addr}{xs:List α}(h:D2 R ts xs)(f:∀t x,t∈ts->R t x->S t x):D2 S ts xs:=⟨h.1,fun j t x e1 e2=>f t x (ds4 e1) (h.2 j t x e1 e2)⟩
theorem D2.snoc {α:Type}{R:Addr->α->Prop}{ts:List Addr}{xs:List α}{t:Addr}{x:α}(h:D2 R ts xs)(r:R t x):D2 R (ts++[t]) (xs++[x]):=by
 refine ⟨by rw[ds6,ds6,h.1];rfl,fun j u y e1 e2=> ?_⟩
 by_cases hj:j < ts.length
 · rw[dv0 hj] at e1;rw[dv0 (by rw[<-h.1];exact hj)] at e2;exact h.2 j u y e1 e2
 · rw[dw6 (by omega)] at e1;rw[dw6 (by rw[<-h.1];omega),<-h.1] at e2;have jl:=(dr7.mp e1).1
   have:j - ts.length=0:=by simp at jl;omega
   rw[this] at e1 e2;cases e1;cases e2;exact r
theorem D2.get {α:Type}{R:Addr->α->Prop}{ts:List Addr}{xs:List α}(h:D2 R ts xs){j:Nat}{t:Addr}(e:ts[j]? =some t):∃x,xs[j]? =some x/\R t x:=by
 have jl:=(dr7.mp e).1;exact ⟨_,dr8 (by rw[<-h.1];exact jl),h.2 j t _ e (dr8 _)⟩
def L9 (H:Hp)(zs:List Addr):Hp:=fun a=>if a∈zs then none else H a
theorem L5 {H:Hp}{zs:List Addr}{a:Addr}(h:a∉zs):L9 H zs a=H a:=if_neg h
theorem L6 {H:Hp}{zs:List Addr}{a:Addr}{u:HO}(e:L9 H zs a=some u):a∉zs/\H a=some u:=by
 unfold L9 at e
 by_cases c:a∈zs
 · rw[if_pos c] at e;cases e
 · rw[if_neg c] at e;exact ⟨c,e⟩
theorem bi1 {H:Hp}{zs:List Addr}{o:Addr}{x:HO}(ho:o∈zs):L9 (c8 H o x) zs=L9 H zs:=funext fun a=>by
 unfold L9
 by_cases e:a∈zs
 · rw[if_pos e,if_pos e]
 · rw[if_neg e,if_neg e,g7 (show a≠o from fun z=>e (by rw[z];exact ho))]
theorem bu4 (H:Hp)(zs:List Addr):c9 (L9 H zs) H:=fun a u e=>(L6 e).2
theorem S7 {H H':Hp}{zs:List Addr}{o:Addr}(ho:o∈zs)(k:j5 o H H'):c9 (L9 H zs) (L9 H' zs):=fun a u e=>by
 obtain ⟨c,e⟩:=L6 e;rw[L5 c];exact k a u e (fun z=>c (by rw[z];exact ho))
theorem G4 {H H':Hp}{zs:List Addr}(s:c9 H H'):c9 (L9 H zs) (L9 H' zs):=fun a u e=>by
 obtain ⟨c,e⟩:=L6 e;rw[L5 c];exact s a u e
theorem bu5 {H H':Hp}{zs:List Addr}{o:Addr}(s:c9 H H')(ho:H o=none):c9 (L9 H zs) (L9 H' (o::zs)):=fun a u e=>by
 obtain ⟨c,e⟩:=L6 e;rw[L5 fun z=>(dt8.mp z).elim (fun y=>by rw[y,ho] at e;cases e) c];exact s a u e
theorem bu6 {H:Hp}{zs:List Addr}{o:Addr}:c9 (L9 H (o::zs)) (L9 H zs):=fun a u e=>by
 obtain ⟨c,e⟩:=L6 e;rw[L5 fun z=>c (ds3 _ z)];exact e
def R5 (H:Hp)(zs:List Addr):Prop:=∀z∈zs,∃u,H z=some u
theorem R5.keep {H H':Hp}{zs:List Addr}(h:R5 H zs)(s:c9 H H'):R5 H' zs:=fun z hz=>by
 obtain ⟨u,e⟩:=h z hz;exact ⟨u,s _ _ e⟩
theorem R5.cons {H:Hp}{zs:List Addr}{o:Addr}{u:HO}(h:R5 H zs)(e:H o=some u):R5 H (o::zs):=fun z hz=>by
 rcases dt8.mp hz with rfl|hz
 · exact ⟨u,e⟩
 · exact h z hz
theorem R5.out {H:Hp}{zs:List Addr}{a:Addr}(h:R5 H zs)(e:H a=none):a∉zs:=fun z=>by
 obtain ⟨u,e'⟩:=h a z;rw[e] at e';cases e'
def pk (rs:List (List Int))(i:Nat)(r:List Int)(b:Nat):List Int×List (List Int):=(r.drop b++r.take b,rs.take i++rs.drop (i+1))
def ab5 (rs:List (List Int))(i:Nat)(r:List Int):List (List Int×List (List Int)):=(du8 r.length).map (pk rs i r)
def A3 (rs:List (List Int)):Nat->List (List Int×List (List Int))
 |0=>[]
 |i+1=>A3 rs i++ab5 rs i (rs.getD i [])
def af8 (H:Hp)(t:Addr)(x:List Int×List (List Int)):Prop:=∃(a l:Addr) (as:List Addr),H t=some (.tup [.ref a,.ref l])/\H a=some (.lst (x.1.map V.int))/\H l=some (.lst (as.map V.ref))/\j9 H as x.2
theorem af8.keep {H H':Hp}{t:Addr}{x:List Int×List (List Int)}(h:af8 H t x)(s:c9 H H'):af8 H' t x:=by
 obtain ⟨a,l,as,h1,h2,h3,h4⟩:=h;exact ⟨a,l,as,s _ _ h1,s _ _ h2,s _ _ h3,m9 h4 fun b _ o e=>s b o e⟩
theorem bl3 (rs:List (List Int))(h:∀r∈rs,r.length<=40):∀i,i<=rs.length->(A3 rs i).length<=40*i
 |0,_=>du2 _
 |i+1,hi=>by
  have:=bl3 rs h i (by omega);show (A3 rs i++ab5 rs i (rs.getD i [])).length<=_;rw[ds6];unfold ab5;rw[dr6,du6]
  have:(rs.getD i []).length<=40:=by
    rw[ds2,dr8 (by omega)];exact h _ (dv7 _)
  omega
theorem cn8 {H:Hp}{as:List Addr}{rs:List (List Int)}(h:j9 H as rs)(i:Nat):j9 H (as.take i) (rs.take i):=
 ⟨by rw[dt3,dt3,h.1],fun j a r e1 e2=>by
   rw[eg0] at e1 e2
   by_cases c:j < i
   · rw[if_pos c] at e1 e2;exact h.2 j a r e1 e2
   · rw[if_neg c] at e1;cases e1⟩
theorem cn9 {H:Hp}{as:List Addr}{rs:List (List Int)}(h:j9 H as rs)(i:Nat):j9 H (as.drop i) (rs.drop i):=
 ⟨by rw[dv9,dv9,h.1],fun j a r e1 e2=>by
   rw[ec6] at e1 e2
   exact h.2 _ a r e1 e2⟩
def ak3:Sp:=fun vs H Q _=>∃(l:Addr) (as:List Addr) (rs:List (List Int)) (zs:List Addr),vs=[.ref l]/\H l=some (.lst (as.map V.ref))/\j9 (L9 H zs) as rs/\R5 H zs/\rs.length<=40/\(∀r∈rs,r.length<=40)/\∀(o:Addr) (ts:List Addr) (H':Hp),H o=none->c9 H H'->H' o=some (.lst (ts.map V.ref))->D2 (af8 (L9 H' (o::zs))) ts (A3 rs rs.length)->Q (.ref o) H'
theorem Q8:m8 ["rings","picks","at","ring","left","begin"] ["rings"] (j6 an1):=by rfl'
theorem by9 {f:Addr}{fd:FuncData}(F:A9 K "picks_of" "picks_of" an1 f fd)(B:Bl mg):p6 P w K mg base A8 1 f fd ["rings"] ak3:=by
 refine F.ok Q8 (fun vs H Q E h=> ?_) (fun cdv A outer s H vs Q E hr h=> ?_)
 · obtain ⟨l,as,rs,zs,rfl,hl,rows,thz,lr,lr2,q⟩:=h;rfl
 · obtain ⟨l,as,rs,zs,rfl,hl,rows,thz,lr,lr2,q⟩:=h;refine ⟨_,@e8 _ _ _ _ _ (@i8 _ _ (1) _ _ _ _ Q8.nd rfl (Or.inl rfl) (@p5 _ _ _ _ (@c6 _)) (by rfl) (by trivial)) (@e8 _ _ _ _ _ (@n9 _ _ _ _ _ _ _ _ PassesOwn.never rfl (@W0 _ _ _ _ _ _ _ _ B.enum (@c5 _ _ _ _ _ (pv 0) (@c6 _) (by rfl)) (by rfl) (by rfl)) (@M1 _ _ _ _ _ _ rfl (@q5 _ _ _ _ _ (@i7 _ _ (2) _ Q8.nd rfl (Or.inl rfl) (by trivial)) (@q5 _ _ _ _ _ (@i7 _ _ (3) _ Q8.nd rfl (Or.inl rfl) (by trivial)) (@J3 _) (by rfl)) (by rfl)) (by rfl) (by rfl)) (@e8 _ _ _ _ _ (@i8 _ _ (4) _ _ _ _ Q8.nd rfl (Or.inl rfl) (@n5 _ _ _ _ _ _ _ _ ab1 (@N4 _ _ _ _ _ _ _ _ _ _ Q6 (pv 0) (@T1 _) (@N8 _ _ _ (pv 2))) (@N4 _ _ _ _ _ _ _ _ _ _ Q6 (pv 0) (@N8 _ _ _ (@n5 _ _ _ _ _ _ _ _ E9 (pv 2) (@i6 _ _ _ _))) (@T1 _))) (by rfl) (by trivial)) (@g6 _ _ _ (@n9 _ _ _ _ _ _ _ _ PassesOwn.never rfl (@V8 _ _ _ _ _ _ (by rfl) B.range (@c5 _ _ _ _ _ (@p9 _ _ _ _ _ B.len (@c5 _ _ _ _ _ (pv 3) (@c6 _) (by rfl)) (by rfl) (by rfl)) (@c6 _) (by rfl)) (by rfl)) (@i7 _ _ (5) _ Q8.nd rfl (Or.inl rfl) (by trivial)) (@g6 _ _ _ (@w6 _ _ _ _ (@B0 _ _ _ _ _ _ _ (pv 1) (@c5 _ _ _ _ _ (@bq4 _ _ _ _ _ (@c5 _ _ _ _ _ (@n5 _ _ _ _ _ _ _ _ ab1 (@N4 _ _ _ _ _ _ _ _ _ _ Q6 (pv 3) (@N8 _ _ _ (pv 5)) (@T1 _)) (@N4 _ _ _ _ _ _ _ _ _ _ Q6 (pv 3) (@T1 _) (@N8 _ _ _ (pv 5)))) (@c5 _ _ _ _ _ (pv 4) (@c6 _) (by rfl)) (by rfl))) (@c6 _) (by rfl)) (by rfl) (by rfl) (by rfl) (by rfl) (by rfl)) (by rfl))) (by intro _;rfl)))) (by intro _;rfl)) (@g6 _ _ _ (@l9 _ _ _ _ (pv 1)))),?_⟩;refine ⟨du2 _,fun o ho=> ?_⟩;have s1:c9 H (c8 H o (.lst [])):=c9.upd_new ho;have h1o:(c8 H o (.lst [])) o=some (.lst (([]:List Addr).map V.ref)):=c7;generalize (c8 H o (.lst []))=H1 at s1 h1o ⊢;have nlo:l≠o:=g8 hl ho
   refine ⟨_,rfl,l,rfl,⟨_,g9.of (s1 _ _ hl)⟩,R9 (K:=K) (a:=l) (xs:=as.map V.ref) (fun i σ H2=>∃(ts:List Addr) (v2 v3 v4 v5:Option V),σ=[some (.ref l),some (.ref o),v2,v3,v4,v5]/\H2 o=some (.lst (ts.map V.ref))/\D2 (af8 (L9 H2 (o::zs))) ts (A3 rs i)/\c9 H H2)
     ⟨[],none,none,none,none,rfl,h1o,D2.nil,s1⟩ (fun i σ H2 _ zz=>by obtain ⟨_,_,_,_,_,_,_,_,s⟩:=zz;exact g9.of (s _ _ hl)) ?_ ?_⟩
   · rintro i y σ H2 tt hi ⟨ts,v2,v3,v4,v5,rfl,h2o,ats,s2⟩ htt
     obtain ⟨a,ha,rfl⟩:∃a,as[i]? =some a/\y=V.ref a:=by
       rw[ds0] at hi
       cases e:as[i]? with
       |none=>rw[e] at hi;cases hi
       |some a=>rw[e] at hi;exact ⟨a,rfl,(Option.some.inj hi).symm⟩
     have il:i < rs.length:=by rw[<-rows.1];exact (dr7.mp ha).1
     obtain ⟨r,hr⟩:∃r,rs[i]? =some r:=⟨_,dr8 il⟩
     have er:rs.getD i []=r:=by rw[ds2,hr];rfl
     have lr40:=lr2 r (ds4 hr);have h0a:=(L6 (rows.2 i a r ha hr)).2;have s3:c9 H2 (c8 H2 tt (.tup [.int (i:Int),.ref a])):=c9.upd_new htt;have h3t:(c8 H2 tt (.tup [.int (i:Int),.ref a])) tt=some (.tup [.int (i:Int),.ref a]):=c7;generalize (c8 H2 tt (.tup [.int (i:Int),.ref a]))=H3 at s3 h3t ⊢;refine ⟨tt,_,rfl,R3.of h3t,rfl,_,_,rfl,_,_,rfl,rfl,?_⟩;have s03:=s2.trans s3
     have la:(as.map V.ref).length=rs.length:=by rw[dr6,rows.1]
     refine ⟨_,rfl,_,rfl,_,rfl,l,_,rfl,g9.of (s03 _ _ hl),fun x1 hx1=> ?_⟩;rw[cm0 (as.map V.ref) i (by omega),<-ee4];have s4:c9 H3 (c8 H3 x1 (.lst ((as.take i).map V.ref))):=c9.upd_new hx1;have h4x:(c8 H3 x1 (.lst ((as.take i).map V.ref))) x1=some (.lst ((as.take i).map V.ref)):=c7;generalize (c8 H3 x1 (.lst ((as.take i).map V.ref)))=H4 at s4 h4x ⊢;have s04:=s03.trans s4;refine ⟨_,rfl,_,rfl,_,_,rfl,rfl,_,rfl,l,_,rfl,g9.of (s04 _ _ hl),fun x2 hx2=> ?_⟩;rw[show ((i:Int)+1)=((i+1:Nat):Int) by omega,az1 (as.map V.ref) (i+1) (by omega),<-el0];have s5:c9 H4 (c8 H4 x2 (.lst ((as.drop (i+1)).map V.ref))):=c9.upd_new hx2;have h5x:(c8 H4 x2 (.lst ((as.drop (i+1)).map V.ref))) x2=some (.lst ((as.drop (i+1)).map V.ref)):=c7;generalize (c8 H4 x2 (.lst ((as.drop (i+1)).map V.ref)))=H5 at s5 h5x ⊢;refine ⟨x1,x2,_,_,rfl,rfl,s5 _ _ h4x,h5x,dy8 (t6 (by simp only[dr6,dt3,dv9];have:=rows.1;omega)),fun L hL=> ?_⟩;rw[<-ds5];have s6:c9 H5 (c8 H5 L (.lst ((as.take i++as.drop (i+1)).map V.ref))):=c9.upd_new hL;have h6L:(c8 H5 L (.lst ((as.take i++as.drop (i+1)).map V.ref))) L=some (.lst ((as.take i++as.drop (i+1)).map V.ref)):=c7;generalize (c8 H5 L (.lst ((as.take i++as.drop (i+1)).map V.ref)))=H6 at s6 h6L ⊢;have s26:=((s3.trans s4).trans s5).trans s6;have s06:=s2.trans s26;have th2:R5 H2 (o::zs):=(thz.keep s2).cons h2o;have nLo:L∉o::zs:=(th2.keep ((s3.trans s4).trans s5)).out hL
     have nLo1:L≠o:=fun z=>nLo (z▸ds1)
     have rowsO:j9 (L9 H6 (o::zs)) (as.take i++as.drop (i+1)) (rs.take i++rs.drop (i+1)):=m9 (am1 (cn8 rows i) (cn9 rows (i+1))) fun b _ u e=>bu5 s06 ho b u e
     have ats6:D2 (af8 (L9 H6 (o::zs))) ts (A3 rs i):=ats.imp fun t x _ h=>h.keep (G4 s26)
     refine ⟨_,rfl,a,_,rfl,.inl (g9.of (s06 _ _ h0a)),_,rfl,by rw[dr6];omega,by rw[dr6];omega,?_⟩;rw[dr6,show ((r.length:Int)).toNat=r.length by omega];have tl:=ats.1;have pl:=bl3 rs lr2 i (by omega)
     refine K3 (lo:=0) (n:=r.length) (fun b σ H7=>∃(ts:List Addr) (v5:Option V),σ=[some (.ref l),some (.ref o),some (.int (i:Int)),some (.ref a),some (.ref L),v5]/\H7 o=some (.lst (ts.map V.ref))/\D2 (af8 (L9 H7 (o::zs))) ts (A3 rs i++(du8 b).map (pk rs i r))/\j5 o H6 H7)
       ⟨ts,v5,rfl,s26 _ _ h2o,by rw[List.range_zero,ed1,du0];exact ats6,j5.refl _ _⟩ ?_ ?_
     · rintro b σ H7 hb ⟨ts,v5,rfl,h7o,ats7,kb7⟩
       have e0:(0:Int)+(b:Int)=(b:Int):=by omega
       rw[e0];have s07:c9 H H7:=s06.kb kb7 ho;have h7a:=s07 _ _ h0a
       have lts:ts.length<=1700:=by
         have:=ats7.1;rw[ds6,dr6,du6] at this;omega
       refine ⟨_,rfl,.inl ⟨rfl,_,g9.of h7o⟩,_,rfl,_,rfl,_,rfl,a,_,rfl,g9.of h7a,fun y1 hy1=> ?_⟩;rw[az1 (r.map V.int) b (by rw[dr6];omega),<-el0];have s8:c9 H7 (c8 H7 y1 (.lst ((r.drop b).map V.int))):=c9.upd_new hy1;have h8y:(c8 H7 y1 (.lst ((r.drop b).map V.int))) y1=some (.lst ((r.drop b).map V.int)):=c7;generalize (c8 H7 y1 (.lst ((r.drop b).map V.int)))=H8 at s8 h8y ⊢;refine ⟨_,rfl,_,rfl,_,rfl,a,_,rfl,g9.of (s8 _ _ h7a),fun y2 hy2=> ?_⟩;rw[cm0 (r.map V.int) b (by rw[dr6];omega),<-ee4];have s9:c9 H8 (c8 H8 y2 (.lst ((r.take b).map V.int))):=c9.upd_new hy2;have h9y:(c8 H8 y2 (.lst ((r.take b).map V.int))) y2=some (.lst ((r.take b).map V.int)):=c7;generalize (c8 H8 y2 (.lst ((r.take b).map V.int)))=H9 at s9 h9y ⊢;refine ⟨y1,y2,_,_,rfl,rfl,s9 _ _ h8y,h9y,dy8 (t6 (by simp only[dr6,dt3,dv9];omega)),fun c hc=> ?_⟩;rw[<-ds5];have s10:c9 H9 (c8 H9 c (.lst ((r.drop b++r.take b).map V.int))):=c9.upd_new hc;have h10c:(c8 H9 c (.lst ((r.drop b++r.take b).map V.int))) c=some (.lst ((r.drop b++r.take b).map V.int)):=c7;generalize (c8 H9 c (.lst ((r.drop b++r.take b).map V.int)))=H10 at s10 h10c ⊢;refine ⟨_,rfl,(show 2<=sizeLine by decide),fun t ht=> ?_⟩;have s11:c9 H10 (c8 H10 t (.tup [.ref c,.ref L])):=c9.upd_new ht;have h11t:(c8 H10 t (.tup [.ref c,.ref L])) t=some (.tup [.ref c,.ref L]):=c7;generalize (c8 H10 t (.tup [.ref c,.ref L]))=H11 at s11 h11t ⊢;have s79:=s8.trans s9;have s710:=s79.trans s10;have s711:=s710.trans s11;have th7:R5 H7 (o::zs):=(thz.keep s07).cons h7o;have nco:c∉o::zs:=(th7.keep s79).out hc;have nto:t∉o::zs:=(th7.keep s710).out ht;refine ⟨o,_,_,rfl,rfl,s711 _ _ h7o,dw0 (show _<=2000 by rw[dr6];omega) (by decide),?_⟩;rw[show ts.map V.ref++[V.ref t]=(ts++[t]).map V.ref by rw[ds5];rfl];refine ⟨ts++[t],_,rfl,c7,?_,(kb7.trans (s711.but o)).upd_a⟩;rw[bi1 ds1,eb9,ds5,<-dt5];refine D2.snoc (ats7.imp fun t x _ h=>h.keep (G4 s711)) ?_;have h7L:=kb7 _ _ h6L nLo1;refine ⟨c,L,_,by rw[L5 nto];exact h11t,by rw[L5 nco];exact s11 _ _ h10c,by rw[L5 nLo];exact s711 _ _ h7L,?_⟩
       exact m9 rowsO fun b _ u e=>(S7 ds1 (kb7.trans (s711.but o))) b u e
     · rintro σ H7 ⟨ts,v5,rfl,h7o,ats7,kb7⟩;refine ⟨ts,_,_,_,v5,rfl,h7o,?_,s06.kb kb7 ho⟩;show D2 _ ts (A3 rs i++ab5 rs i (rs.getD i []));rw[er];exact ats7
   · rintro σ H2 ⟨ts,v2,v3,v4,v5,rfl,h2o,ats,s2⟩;rw[dr6,rows.1] at ats;exact ⟨_,rfl,q o ts H2 ho s2 h2o ats⟩
def nxC (x:List (List Int)×List (List Int)):List (List (List Int)×List (List Int)):=(A3 x.2 x.2.length).map fun y=>(x.1++[y.1],y.2)
def y9 (rs:List (List Int)):Nat->List (List (List Int)×List (List Int))
 |0=>[([rs.getD 0 []],rs.drop 1)]
 |k+1=>(y9 rs k).flatMap nxC
def O3 (H:Hp)(t:Addr)(x:List (List Int)×List (List Int)):Prop:=∃(c l:Addr) (cs as:List Addr),H t=some (.tup [.ref c,.ref l])/\H c=some (.lst (cs.map V.ref))/\j9 H cs x.1/\H l=some (.lst (as.map V.ref))/\j9 H as x.2
theorem O3.keep {H H':Hp}{t:Addr}{x:List (List Int)×List (List Int)}(h:O3 H t x)(s:c9 H H'):O3 H' t x:=by
 obtain ⟨c,l,cs,as,h1,h2,h3,h4,h5⟩:=h;exact ⟨c,l,cs,as,s _ _ h1,s _ _ h2,m9 h3 fun b _ o e=>s b o e,s _ _ h4,m9 h5 fun b _ o e=>s b o e⟩
theorem V6 {rs:List (List Int)}:∀(i:Nat) {y:List Int×List (List Int)},y∈A3 rs i->y.2.length<=rs.length/\∀r∈y.2,r∈rs
 |0,y,h=>by cases h
 |i+1,y,h=>by
  rcases dt1.mp h with z|z
  · exact V6 i z
  · obtain ⟨b,_,rfl⟩:=ds9.mp z;refine ⟨?_,fun r hr=> ?_⟩
    · show (rs.take i++rs.drop (i+1)).length<=_;rw[ds6,dt3,dv9];omega
    · rcases dt1.mp hr with w|w
      · exact dx8 w
      · exact ee5 w
theorem at1 {rs:List (List Int)}:∀(k:Nat) {x:List (List Int)×List (List Int)},x∈y9 rs k->x.2.length<=rs.length/\(∀r∈x.2,r∈rs)/\x.1.length=k+1
 |0,x,h=>by
  rw[ds8.mp h];exact ⟨by show (rs.drop 1).length<=_;rw[dv9];omega,fun r hr=>ee5 hr,rfl⟩
 |k+1,x,h=>by
  obtain ⟨x',h',z⟩:=dw9.mp h;obtain ⟨y,hy,rfl⟩:=ds9.mp z;obtain ⟨a,b,c⟩:=at1 k h';obtain ⟨d,e⟩:=V6 _ hy;exact ⟨dt4 d a,fun r hr=>b r (e r hr),by show (x'.1++[y.1]).length=_;rw[ds6,c];rfl⟩
def ao3:Sp:=fun vs H Q _=>∃(l:Addr) (as:List Addr) (rs:List (List Int)) (zs:List Addr) (part:Nat),vs=[.ref l,.int (part:Int)]/\H l=some (.lst (as.map V.ref))/\l∉zs/\j9 (L9 H zs) as rs/\R5 H zs/\1<=rs.length/\rs.length<=40/\(∀r∈rs,r.length<=40)/\1<=part/\part<=40/\(∀k,k < part->(y9 rs k).length<=2000)/\∀(o:Addr) (ts:List Addr) (H':Hp),H o=none->c9 H H'->H' o=some (.lst (ts.map V.ref))->D2 (O3 (L9 H' zs)) ts (y9 rs (part - 1))->Q (.ref o) H'
theorem G5:m8 ["rings","part","chains","taken","longer","chain","left","ring","rest"] ["rings","part"] (j6 ai0):=by rfl'
theorem bu7 {f:Addr}{fd:FuncData}(F:A9 K "chains_of" "chains_of" ai0 f fd)(B:Bl mg)(zvy:l8 P w K mg base "picks_of" 1 ["rings"] ak3):p6 P w K mg base A8 2 f fd ["rings","part"] ao3:=by
 refine F.ok G5 (fun vs H Q E h=> ?_) (fun cdv A outer s H vs Q E hr h=> ?_)
 · obtain ⟨l,as,rs,zs,part,rfl,hl,nlz,rows,thz,lr1,lr,lr2,p1,p2,few,q⟩:=h;rfl
 · obtain ⟨l,as,rs,zs,part,rfl,hl,nlz,rows,thz,lr1,lr,lr2,p1,p2,few,q⟩:=h;have zpx:m7 1 _:=hr.mono (by decide);refine ⟨_,@e8 _ _ _ _ _ (@i8 _ _ (2) _ _ _ _ G5.nd rfl (Or.inl rfl) (@p5 _ _ _ _ (@c5 _ _ _ _ _ (@bq4 _ _ _ _ _ (@c5 _ _ _ _ _ (@p5 _ _ _ _ (@c5 _ _ _ _ _ (@I0 _ _ _ _ _ _ _ B5 (pv 0) (@i6 _ _ _ _) (fun _ _=>rfl)) (@c6 _) (by rfl))) (@c5 _ _ _ _ _ (@N4 _ _ _ _ _ _ _ _ _ _ Q6 (pv 0) (@N8 _ _ _ (@i6 _ _ _ _)) (@T1 _)) (@c6 _) (by rfl)) (by rfl))) (@c6 _) (by rfl))) (by rfl) (by trivial)) (@e8 _ _ _ _ _ (@n9 _ _ _ _ _ _ _ _ PassesOwn.never rfl (@R6 _ _ _ _ _ _ _ (by rfl) B.range (@c5 _ _ _ _ _ (@i6 _ _ _ _) (@c5 _ _ _ _ _ (pv 1) (@c6 _) (by rfl)) (by rfl)) (by rfl) (by rfl)) (@i7 _ _ (3) _ G5.nd rfl (Or.inl rfl) (by trivial)) (@e8 _ _ _ _ _ (@i8 _ _ (4) _ _ _ _ G5.nd rfl (Or.inl rfl) (@p5 _ _ _ _ (@c6 _)) (by rfl) (by trivial)) (@e8 _ _ _ _ _ (@n9 _ _ _ _ _ _ _ _ PassesOwn.never rfl (@w4 _ _ _ _ (pv 2)) (@M1 _ _ _ _ _ _ rfl (@q5 _ _ _ _ _ (@i7 _ _ (5) _ G5.nd rfl (Or.inl rfl) (by trivial)) (@q5 _ _ _ _ _ (@i7 _ _ (6) _ G5.nd rfl (Or.inl rfl) (by trivial)) (@J3 _) (by rfl)) (by rfl)) (by rfl) (by rfl)) (@g6 _ _ _ (@n9 _ _ _ _ _ _ _ _ PassesOwn.never rfl (@w4 _ _ _ _ (@h8 _ _ _ _ _ _ _ _ _ _ zvy zpx (@c5 _ _ _ _ _ (pv 6) (@c6 _) (by rfl)) (by rfl) (by decide) (by rfl) (by rfl))) (@M1 _ _ _ _ _ _ rfl (@q5 _ _ _ _ _ (@i7 _ _ (7) _ G5.nd rfl (Or.inl rfl) (by trivial)) (@q5 _ _ _ _ _ (@i7 _ _ (8) _ G5.nd rfl (Or.inl rfl) (by trivial)) (@J3 _) (by rfl)) (by rfl)) (by rfl) (by rfl)) (@g6 _ _ _ (@w6 _ _ _ _ (@B0 _ _ _ _ _ _ _ (pv 4) (@c5 _ _ _ _ _ (@bq4 _ _ _ _ _ (@c5 _ _ _ _ _ (@n5 _ _ _ _ _ _ _ _ ab1 (pv 5) (@p5 _ _ _ _ (@c5 _ _ _ _ _ (pv 7) (@c6 _) (by rfl)))) (@c5 _ _ _ _ _ (pv 8) (@c6 _) (by rfl)) (by rfl))) (@c6 _) (by rfl)) (by rfl) (by rfl) (by rfl) (by rfl) (by rfl)) (by rfl))) (by intro _;rfl))) (by intro _;rfl)) (@g6 _ _ _ (@i8 _ _ (2) _ _ _ _ G5.nd rfl (Or.inl rfl) (pv 4) (by rfl) (by trivial))))) (by intro _;rfl)) (@g6 _ _ _ (@l9 _ _ _ _ (pv 2)))),?_⟩
   obtain ⟨a0,as',rfl⟩:∃a0 as',as=a0::as':=by
     cases as with
     |nil=>have:=rows.1;simp at this;omega
     |cons a t=>exact ⟨a,t,rfl⟩
   obtain ⟨r0,rs',rfl⟩:∃r0 rs',rs=r0::rs':=by
     cases rs with
     |nil=>simp at lr1
     |cons a t=>exact ⟨a,t,rfl⟩
   have h0:L9 H zs a0=some (.lst (r0.map V.int)):=rows.2 0 a0 r0 rfl rfl;refine ⟨_,rfl,l,_,_,_,rfl,rfl,g9.of hl,(G7 (j:=0) rfl),(show 1<=sizeLine by decide),fun c0 hc0=> ?_⟩;have s1:c9 H (c8 H c0 (.lst [V.ref a0])):=c9.upd_new hc0;have h1c:(c8 H c0 (.lst [V.ref a0])) c0=some (.lst (([a0]:List Addr).map V.ref)):=c7;generalize (c8 H c0 (.lst [V.ref a0]))=H1 at s1 h1c ⊢;refine ⟨_,rfl,_,rfl,l,_,rfl,g9.of (s1 _ _ hl),fun x1 hx1=> ?_⟩;rw[show N9 ((a0::as').map V.ref) (some 1) none=as'.map V.ref from az1 ((a0::as').map V.ref) 1 (by simp)];have s2:c9 H1 (c8 H1 x1 (.lst (as'.map V.ref))):=c9.upd_new hx1;have h2x:(c8 H1 x1 (.lst (as'.map V.ref))) x1=some (.lst (as'.map V.ref)):=c7;generalize (c8 H1 x1 (.lst (as'.map V.ref)))=H2 at s2 h2x ⊢;refine ⟨(show 2<=sizeLine by decide),fun t0 ht0=> ?_⟩;have s3:c9 H2 (c8 H2 t0 (.tup [.ref c0,.ref x1])):=c9.upd_new ht0;have h3t:(c8 H2 t0 (.tup [.ref c0,.ref x1])) t0=some (.tup [.ref c0,.ref x1]):=c7;generalize (c8 H2 t0 (.tup [.ref c0,.ref x1]))=H3 at s3 h3t ⊢;refine ⟨(show 1<=sizeLine by decide),fun F0 hF0=> ?_⟩;have s4:c9 H3 (c8 H3 F0 (.lst [V.ref t0])):=c9.upd_new hF0;have h4F:(c8 H3 F0 (.lst [V.ref t0])) F0=some (.lst (([t0]:List Addr).map V.ref)):=c7;generalize (c8 H3 F0 (.lst [V.ref t0]))=H4 at s4 h4F ⊢;have s02:=s1.trans s2;have s03:=s02.trans s3;have s04:=s03.trans s4;have n1:c0∉zs:=thz.out hc0;have n2:x1∉zs:=(thz.keep s1).out hx1;have n3:t0∉zs:=(thz.keep s02).out ht0
   have ch0:O3 (L9 H4 zs) t0 ([r0],rs'):=by
     refine ⟨c0,x1,[a0],as',by rw[L5 n3];exact s4 _ _ h3t,by rw[L5 n1];exact ((s2.trans s3).trans s4) _ _ h1c,⟨rfl,fun j b r e1 e2=> ?_⟩,by rw[L5 n2];exact (s3.trans s4) _ _ h2x,⟨by have:=rows.1;simpa using this,fun j b r e1 e2=> ?_⟩⟩
     · rcases j with _|j
       · cases e1;cases e2;exact G4 s04 _ _ h0
       · cases e1
     · exact G4 s04 _ _ (rows.2 (j+1) b r e1 e2)
   refine ⟨_,rfl,1,(part:Int),rfl,⟨by decide,by decide,by omega,by omega⟩,?_⟩;rw[show ((part:Int) - 1).toNat=part - 1 by omega]
   refine K3 (lo:=1) (n:=part - 1) (fun i σ H5=>∃(F:Addr) (ts:List Addr) (v3 v4 v5 v6 v7 v8:Option V),σ=[some (.ref l),some (.int (part:Int)),some (.ref F),v3,v4,v5,v6,v7,v8]/\H5 F=some (.lst (ts.map V.ref))/\D2 (O3 (L9 H5 zs)) ts (y9 (r0::rs') i)/\c9 H H5/\H F=none)
     ⟨F0,[t0],none,none,none,none,none,none,rfl,h4F,⟨rfl,fun j t x e1 e2=>by
       rcases j with _|j
       · cases e1;cases e2;exact ch0
       · cases e1⟩,s04,s03.free hF0⟩ ?_ ?_
   · rintro i σ H5 hi ⟨F,ts,v3,v4,v5,v6,v7,v8,rfl,h5F,ats,s05,hF⟩;refine ⟨du2 _,fun L hL=> ?_⟩;have nFL:F≠L:=g8 h5F hL;have hL0:H L=none:=s05.free hL;have s6:c9 H5 (c8 H5 L (.lst [])):=c9.upd_new hL;have h6L:(c8 H5 L (.lst [])) L=some (.lst (([]:List Addr).map V.ref)):=c7;generalize (c8 H5 L (.lst []))=H6 at s6 h6L ⊢
     have ats6:D2 (O3 (L9 H6 (L::zs))) ts (y9 (r0::rs') i):=ats.imp fun t x _ h=>h.keep (bu5 s6 hL)
     have few1:=few (i+1) (by omega)
     refine ⟨_,rfl,F,rfl,⟨_,g9.of (s6 _ _ h5F)⟩,A7 (K:=K) (a:=F) (xs:=ts.map V.ref) (fun j σ H7=>∃(us:List Addr) (v5 v6 v7 v8:Option V),σ=[some (.ref l),some (.int (part:Int)),some (.ref F),some (.int (1+(i:Int))),some (.ref L),v5,v6,v7,v8]/\H7 L=some (.lst (us.map V.ref))/\D2 (O3 (L9 H7 (L::zs))) us (((y9 (r0::rs') i).take j).flatMap nxC)/\j5 L H6 H7)
       ⟨[],v5,v6,v7,v8,rfl,h6L,D2.nil,j5.refl _ _⟩ (fun j σ H7 _ zz=>by obtain ⟨_,_,_,_,_,_,_,_,k⟩:=zz;exact g9.of (k _ _ (s6 _ _ h5F) nFL)) ?_ ?_⟩
     · rintro j y σ H7 hj ⟨us,v5,v6,v7,v8,rfl,h7L,atu,kb7⟩
       obtain ⟨t,ht,rfl⟩:∃t,ts[j]? =some t/\y=V.ref t:=by
         rw[ds0] at hj
         cases e:ts[j]? with
         |none=>rw[e] at hj;cases hj
         |some a=>rw[e] at hj;exact ⟨a,rfl,(Option.some.inj hj).symm⟩
       obtain ⟨x,hx,cx⟩:=ats6.get ht;obtain ⟨c,xl,cs,bs,g1,g2,g3,g4,g5⟩:=cx.keep (S7 ds1 kb7);obtain ⟨b1,b2,b3⟩:=at1 i (ds4 hx);refine ⟨t,_,rfl,R3.of (L6 g1).2,rfl,_,_,rfl,_,_,rfl,rfl,?_⟩;have s07:c9 H H7:=(s05.trans s6).kb kb7 hL0;have th7:R5 H7 (L::zs):=(thz.keep s07).cons h7L;refine ⟨_,rfl,xl,bs,x.2,L::zs,rfl,(L6 g4).2,g5,th7,by omega,fun r hr=>lr2 r (b2 r hr),fun o ps H8 ho s8 h8o atp=> ?_⟩;have noL:o≠L:=(g8 h7L ho).symm;have cx8:O3 (L9 H8 (L::zs)) t x:=O3.keep ⟨c,xl,cs,bs,g1,g2,g3,g4,g5⟩ (G4 s8);have lenP:=atp.1
       refine ⟨o,rfl,⟨_,g9.of h8o⟩,A7 (K:=K) (a:=o) (xs:=ps.map V.ref) (fun k σ H9=>∃(us:List Addr) (v7 v8:Option V),σ=[some (.ref l),some (.int (part:Int)),some (.ref F),some (.int (1+(i:Int))),some (.ref L),some (.ref c),some (.ref xl),v7,v8]/\H9 L=some (.lst (us.map V.ref))/\D2 (O3 (L9 H9 (L::zs))) us (((y9 (r0::rs') i).take j).flatMap nxC++(nxC x).take k)/\j5 L H8 H9)
         ⟨us,v7,v8,rfl,s8 _ _ h7L,by rw[dz5,du0];exact atu.imp fun t x _ h=>h.keep (G4 s8),j5.refl _ _⟩ (fun k σ H9 _ zz=>by obtain ⟨_,_,_,_,_,_,kk⟩:=zz;exact g9.of (kk _ _ h8o noL)) ?_ ?_⟩
       · rintro k y σ H9 hk ⟨us,v7,v8,rfl,h9L,at9,kb9⟩
         obtain ⟨t',ht',rfl⟩:∃t,ps[k]? =some t/\y=V.ref t:=by
           rw[ds0] at hk
           cases e:ps[k]? with
           |none=>rw[e] at hk;cases hk
           |some a=>rw[e] at hk;exact ⟨a,rfl,(Option.some.inj hk).symm⟩
         obtain ⟨y,hy,py⟩:=atp.get ht';obtain ⟨pa,pl,pas,q1,q2,q3,q4⟩:=(py.keep (S7 (ds3 _ ds1) kb9)).keep bu6;obtain ⟨c',xl',cs',bs',f1,f2,f3,f4,f5⟩:=cx8.keep (S7 ds1 kb9);have s79:=s8;have e1:=(L6 f1).2;have hc9:H9 c=some (.lst (cs.map V.ref)):=(L6 ((S7 ds1 kb9) _ _ (G4 s8 _ _ g2))).2
         have g3':j9 (L9 H9 (L::zs)) cs x.1:=m9 g3 fun b _ u e=>(S7 ds1 kb9) _ _ (G4 s8 _ _ e)
         have lcs:cs.length<=40:=by rw[g3.1,b3];omega
         have th9:R5 H9 (L::zs):=fun z hz=>by
           rcases dt8.mp hz with rfl|hz
           · exact ⟨_,h9L⟩
           · by_cases e:z=L
             · rw[e];exact ⟨_,h9L⟩
             · obtain ⟨u,hu⟩:=(th7.keep s8) z (ds3 _ hz);exact ⟨u,kb9 _ _ hu e⟩
         have hnx:(nxC x)[k]? =some (x.1++[y.1],y.2):=by
           unfold nxC;rw[ds0,hy];rfl
         have lus:us.length<=2000:=by
           rw[at9.1];refine dt4 ?_ few1;show _<=((y9 (r0::rs') i).flatMap nxC).length
           have ex:y9 (r0::rs') i=(y9 (r0::rs') i).take j++x::(y9 (r0::rs') i).drop (j+1):=by
             have jl:=(dr7.mp hx).1;have e3:=(dr7.mp hx).2;rw[<-e3,<-ea3 jl,dx0]
           have e4:=congrArg (fun z=>(z.flatMap nxC).length) ex;simp only[dy6,dw8,ds6] at e4;rw[e4,ds6,dt3];omega
         refine ⟨t',_,rfl,R3.of (L6 q1).2,rfl,_,_,rfl,_,_,rfl,rfl,?_⟩;refine ⟨_,rfl,.inl ⟨rfl,_,g9.of h9L⟩,_,rfl,_,rfl,(show 1<=sizeLine by decide),fun e he=> ?_⟩;have s10:c9 H9 (c8 H9 e (.lst [V.ref pa])):=c9.upd_new he;have h10e:(c8 H9 e (.lst [V.ref pa])) e=some (.lst [V.ref pa]):=c7;generalize (c8 H9 e (.lst [V.ref pa]))=H10 at s10 h10e ⊢;refine ⟨c,e,_,_,rfl,rfl,s10 _ _ hc9,h10e,dy8 (t6 (by simp only[dr6,ed7];omega)),fun d hd=> ?_⟩;rw[show cs.map V.ref++[V.ref pa]=(cs++[pa]).map V.ref by rw[ds5];rfl];have s11:c9 H10 (c8 H10 d (.lst ((cs++[pa]).map V.ref))):=c9.upd_new hd;have h11d:(c8 H10 d (.lst ((cs++[pa]).map V.ref))) d=some (.lst ((cs++[pa]).map V.ref)):=c7;generalize (c8 H10 d (.lst ((cs++[pa]).map V.ref)))=H11 at s11 h11d ⊢;refine ⟨_,rfl,(show 2<=sizeLine by decide),fun t2 ht2=> ?_⟩;have s12:c9 H11 (c8 H11 t2 (.tup [.ref d,.ref pl])):=c9.upd_new ht2;have h12t:(c8 H11 t2 (.tup [.ref d,.ref pl])) t2=some (.tup [.ref d,.ref pl]):=c7;generalize (c8 H11 t2 (.tup [.ref d,.ref pl]))=H12 at s12 h12t ⊢;have s911:=s10.trans s11;have s912:=s911.trans s12;have nd:d∉L::zs:=(th9.keep s10).out hd;have nt2:t2∉L::zs:=(th9.keep s911).out ht2;refine ⟨L,_,_,rfl,rfl,s912 _ _ h9L,dw0 (show _<=2000 by rw[dr6];omega) (by decide),?_⟩;rw[show us.map V.ref++[V.ref t2]=(us++[t2]).map V.ref by rw[ds5];rfl];refine ⟨us++[t2],_,_,rfl,c7,?_,(kb9.trans (s912.but L)).upd_a⟩;rw[bi1 ds1,i9 hnx,<-dt5];refine D2.snoc (at9.imp fun t x _ h=>h.keep (G4 s912)) ?_;refine ⟨d,pl,cs++[pa],pas,by rw[L5 nt2];exact h12t,by rw[L5 nd];exact s12 _ _ h11d,?_,G4 s912 _ _ q3,m9 q4 fun b _ u e=>G4 s912 _ _ e⟩;exact M8 (m9 g3' fun b _ u e=>G4 s912 _ _ e) (G4 s912 _ _ q2)
       · rintro σ H9 ⟨us,v7,v8,rfl,h9L,at9,kb9⟩;refine ⟨us,_,_,v7,v8,rfl,h9L,?_,kb7.trans ((s8.but L).trans kb9)⟩;rw[i9 hx,dy6,dw8,eb3,du0];rw[dr6,lenP,show (A3 x.2 x.2.length).length=(nxC x).length by unfold nxC;rw[dr6],du1] at at9;exact at9
     · rintro σ H7 ⟨us,v5,v6,v7,v8,rfl,h7L,atu,kb7⟩;rw[dr6,ats.1,du1] at atu;exact ⟨_,rfl,L,us,_,_,_,_,_,_,rfl,h7L,atu.imp fun t x _ h=>h.keep bu6,(s05.trans s6).kb kb7 hL0,hL0⟩
   · rintro σ H5 ⟨F,ts,v3,v4,v5,v6,v7,v8,rfl,h5F,ats,s05,hF⟩;exact ⟨_,rfl,q F ts H5 hF s05 h5F ats⟩
end
end My
namespace My
open PySem L2 Mth
section
variable {P:Program} {w:World} {K:PySem.W.Frag} {mg:Str->Option Value} {base:Heap}
def J6 (es:List (Int×Int)):List (o9×V):=es.map fun e=>((Sum.inl e.1:o9),V.int e.2)
def E6 (rs:List Int):List (Int×Int):=(du8 rs.length).map fun j=>(rs.getD j 0,rs.getD ((j+1)%rs.length) 0)
theorem cc3 {es:List (Int×Int)}{k v:Int}(h:k∉es.map (·.1)):U9 (J6 es) (Sum.inl k:o9) (.int v)=J6 (es++[(k,v)]):=by
 have ki:KI (J6 es) (es.map (·.1)):=by unfold KI J6;rw[dx2,dx2];rfl
 rw[ay6 _ (da7 ki h)];unfold J6;rw[ds5];rfl
def aw3:Sp:=fun vs H Q _=>∃(d r:Addr) (es:List (Int×Int)) (rs:List Int),vs=[.ref d,.ref r,.int 1]/\H d=some (.dK (J6 es))/\H r=some (.lst (rs.map V.int))/\rs.Nodup/\(∀x∈rs,x∉es.map (·.1))/\es.length<=400/\rs.length<=400/\∀(H':Hp),H' d=some (.dK (J6 (es++E6 rs)))->j5 d H H'->Q .non H'
theorem ac5:m8 ["target","ring","steps","place","thing"] ["target","ring","steps"] (j6 S4):=by rfl'
theorem bn8 {f:Addr}{fd:FuncData}(F:A9 K "send_along" "send_along" S4 f fd)(B:Bl mg):p6 P w K mg base A8 1 f fd ["target","ring","steps"] aw3:=by
 refine F.ok ac5 (fun vs H Q E h=> ?_) (fun cdv A outer s H vs Q E hr h=> ?_)
 · obtain ⟨d,r,es,rs,rfl,hd,hrr,nd,dis,le,lr,q⟩:=h;rfl
 · obtain ⟨d,r,es,rs,rfl,hd,hrr,nd,dis,le,lr,q⟩:=h;have hu:=T2 hr;refine ⟨_,@g6 _ _ _ (@n9 _ _ _ _ _ _ _ _ PassesOwn.never rfl (@W0 _ _ _ _ _ _ _ _ B.enum (@c5 _ _ _ _ _ (pv 1) (@c6 _) (by rfl)) (by rfl) (by rfl)) (@M1 _ _ _ _ _ _ rfl (@q5 _ _ _ _ _ (@i7 _ _ (3) _ ac5.nd rfl (Or.inl rfl) (by trivial)) (@q5 _ _ _ _ _ (@i7 _ _ (4) _ ac5.nd rfl (Or.inl rfl) (by trivial)) (@J3 _) (by rfl)) (by rfl)) (by rfl) (by rfl)) (@g6 _ _ _ (@av4 _ _ _ _ _ _ _ _ _ hu (pv 0) (pv 4) (@I0 _ _ _ _ _ _ _ B5 (pv 1) (@n5 _ _ _ _ _ _ _ _ R7 (@n5 _ _ _ _ _ _ _ _ E9 (pv 3) (pv 2)) (@p9 _ _ _ _ _ B.len (@c5 _ _ _ _ _ (pv 1) (@c6 _) (by rfl)) (by rfl) (by rfl))) (fun _ _=>rfl)) rfl)) (by intro _;rfl)),?_⟩
   have nrd:r≠d:=fun z=>by rw[z,hd] at hrr;cases hrr
   refine ⟨_,rfl,r,rfl,⟨_,g9.of hrr⟩,R9 (K:=K) (a:=r) (xs:=rs.map V.int) (fun i σ H2=>∃(v3 v4:Option V),σ=[some (.ref d),some (.ref r),some (.int 1),v3,v4]/\H2 d=some (.dK (J6 (es++(E6 rs).take i)))/\j5 d H H2)
     ⟨none,none,rfl,by rw[dz5,du0];exact hd,j5.refl _ _⟩ (fun i σ H2 _ zz=>by obtain ⟨_,_,_,_,k⟩:=zz;exact g9.of (k _ _ hrr nrd)) ?_ ?_⟩
   · rintro i y σ H2 tt hi ⟨v3,v4,rfl,h2d,kb⟩ htt;obtain ⟨z,hz,rfl⟩:=D9 hi;have hil:i < rs.length:=(dr7.mp hz).1;have h2r:=kb r _ hrr nrd;have s3:c9 H2 (c8 H2 tt (.tup [.int (i:Int),.int z])):=c9.upd_new htt;have h3t:(c8 H2 tt (.tup [.int (i:Int),.int z])) tt=some (.tup [.int (i:Int),.int z]):=c7;generalize (c8 H2 tt (.tup [.int (i:Int),.int z]))=H3 at s3 h3t ⊢;refine ⟨tt,_,rfl,R3.of h3t,rfl,_,_,rfl,_,_,rfl,rfl,?_⟩;have h3r:=s3 _ _ h2r
     have em:((i:Int)+1)%(rs.length:Int)=(((i+1)%rs.length:Nat):Int):=by rw[ec2];rfl
     have ml:(i+1)%rs.length < rs.length:=ea2 _ (by omega);refine ⟨_,rfl,_,rfl,_,rfl,_,_,rfl,rfl,_,rfl,r,_,rfl,.inl (g9.of h3r),_,_,rfl,rfl,by rw[dr6];omega,r,_,_,_,rfl,rfl,g9.of h3r,(show atI _ _=some (.int (rs.getD ((i+1)%rs.length) 0)) from ?_),?_⟩
     · rw[dr6,em];refine G7 ?_;rw[ds0,dr8 ml,ds2,dr8 ml];rfl
     have lse:(E6 rs).length=rs.length:=by unfold E6;rw[dr6,du6]
     have hse:(E6 rs)[i]? =some (z,rs.getD ((i+1)%rs.length) 0):=by
       unfold E6;rw[ds0,dv4 hil];show some (rs.getD i 0,rs.getD ((i+1)%rs.length) 0)=_;rw[show rs.getD i 0=z by rw[ds2,hz];rfl]
     have nz:z∉(es++(E6 rs).take i).map (·.1):=by
       rw[ds5];intro hz2
       rcases dt1.mp hz2 with w|w
       · exact dis z (ds4 hz) w
       · obtain ⟨e,he,ee⟩:=ds9.mp w;obtain ⟨j,hj⟩:=dt7.mp he;rw[eg0] at hj
         by_cases c:j < i
         · rw[if_pos c] at hj;unfold E6 at hj;rw[ds0,dv4 (by omega)] at hj;cases hj
           have e2:rs[j]? =some z:=by
             rw[dr8 (by omega)];have ee:rs.getD j 0=z:=ee;rw[ds2,dr8 (by omega)] at ee;exact congrArg some ee
           have:=J8 nd (i:=j) (j:=i) (by omega) hil (by omega);rw[ds2,ds2,e2,hz] at this;exact this rfl
         · rw[if_neg c] at hj;cases hj
     have lk:(J6 (es++(E6 rs).take i)).length<=900:=by
       unfold J6;rw[dr6,ds6,dt3,lse];omega
     refine ⟨_,rfl,_,rfl,d,_,rfl,aq2.k (k:=Sum.inl z) (s3 _ _ h2d) (t6 (by omega)),?_⟩;rw[cc3 nz];refine ⟨_,_,rfl,?_,(kb.trans (s3.but d)).upd_a⟩;rw[c7,i9 hse,<-dt5]
   · rintro σ H2 ⟨v3,v4,rfl,h2d,kb⟩
     have lse:(E6 rs).length=rs.length:=by unfold E6;rw[dr6,du6]
     rw[dr6,<-lse,du1] at h2d;exact q H2 h2d kb
end
end My
namespace My
open PySem L2 Mth
section
theorem bu8 (r:List Int)(b:Nat):(r.drop b++r.take b).Perm r:=dy5.trans (by rw[dx0])
theorem W7 {rs:List (List Int)}:∀(i:Nat) {y:List Int×List (List Int)},i<=rs.length->y∈A3 rs i->(y.1++y.2.flatten).Perm rs.flatten/\y.2.length+1=rs.length/\∃r∈rs,y.1.Perm r
 |0,y,_,h=>by cases h
 |i+1,y,hi,h=>by
  rcases dt1.mp h with z|z
  · exact W7 i (by omega) z
  · obtain ⟨b,_,rfl⟩:=ds9.mp z
    have il:i < rs.length:=by omega
    have eg:rs.getD i []=rs[i]:=by rw[ds2,dr8 il];rfl
    refine ⟨?_,?_,rs[i],dv7 _,?_⟩
    · show (((rs.getD i []).drop b++(rs.getD i []).take b)++(rs.take i++rs.drop (i+1)).flatten).Perm rs.flatten
      have e:rs.flatten=(rs.take i).flatten++(rs[i]++(rs.drop (i+1)).flatten):=by
        rw[<-dv5,<-dz7,<-ea3 il,dx0]
      rw[e,eg,dz7];refine ((bu8 _ b).append_right _).trans ?_;rw[<-dt5,<-dt5];exact dy5.append_right _
    · show (rs.take i++rs.drop (i+1)).length+1=_;rw[ds6,dt3,dv9];omega
    · show ((rs.getD i []).drop b++(rs.getD i []).take b).Perm _;rw[eg];exact bu8 _ b
structure dc7 (l:Nat)(rs:List (List Int))(k:Nat)(x:List (List Int)×List (List Int)):Prop where
 perm:(x.1.flatten++x.2.flatten).Perm rs.flatten
 len:x.1.length=k+1
 left:x.2.length+(k+1)=rs.length
 rows:∀r∈x.1,r.length=l
 rows2:∀r∈x.2,r∈rs
theorem G6 {l:Nat}{rs:List (List Int)}(hl:∀r∈rs,r.length=l):∀(k:Nat) {x:List (List Int)×List (List Int)},k < rs.length->x∈y9 rs k->dc7 l rs k x
 |0,x,hk,h=>by
  rw[ds8.mp h]
  cases rs with
  |nil=>simp at hk
  |cons r rs=>
   refine ⟨?_,rfl,rfl,fun r' hr=> ?_,fun r' hr=>ds3 _ hr⟩
   · show ([r].flatten++rs.flatten).Perm (r::rs).flatten;simp
   · rw[ds8.mp hr];exact hl r ds1
 |k+1,x,hk,h=>by
  obtain ⟨x',h',z⟩:=dw9.mp h;obtain ⟨y,hy,rfl⟩:=ds9.mp z;have o:=G6 hl k (by omega) h';obtain ⟨p1,p2,r,hr,p3⟩:=W7 _ (dr9 _) hy;refine ⟨?_,?_,?_,fun r' hr'=> ?_,fun r' hr'=>o.rows2 r' ((V6 _ hy).2 r' hr')⟩
  · show ((x'.1++[y.1]).flatten++y.2.flatten).Perm _;rw[dz7,eb4,dt5];exact (p1.append_left _).trans o.perm
  · show (x'.1++[y.1]).length=_;rw[ds6,o.len];rfl
  · show y.2.length+(k+1+1)=_;have:=o.left;omega
  · rcases dt1.mp hr' with w|w
    · exact o.rows r' w
    · rw[ds8.mp w,p3.length_eq];exact hl r (o.rows2 r hr)
theorem at2 {l:Nat}{rs:List (List Int)}(hl:∀r∈rs,r.length=l):∀i,i<=rs.length->(A3 rs i).length=i*l
 |0,_=>by rw[ed9];rfl
 |i+1,hi=>by
  show (A3 rs i++ab5 rs i (rs.getD i [])).length=_;rw[ds6,at2 hl i (by omega)];unfold ab5;rw[dr6,du6,ds2,dr8 (show i < rs.length by omega)];show i*l+(rs[i]).length=_;rw[hl _ (dv7 _),em8,em6]
theorem aa1 {α β:Type}{f:α->List β}{c:Nat}:∀{xs:List α},(∀x∈xs,(f x).length=c)->(xs.flatMap f).length=xs.length*c
 |[],_=>by rw[eg2,ed9];rfl
 |x::xs,h=>by
  rw[dw8,ds6,h x ds1,aa1 fun y hy=>h y (ds3 _ hy),dt9,em8,em6,ea9]
theorem ao4 {l:Nat}{rs:List (List Int)}(hl:∀r∈rs,r.length=l):∀k,k < rs.length->(y9 rs k).length=A1 rs.length l k
 |0,_=>rfl
 |k+1,hk=>by
  show ((y9 rs k).flatMap nxC).length=A1 rs.length l k*(rs.length - (k+1))*l;rw[aa1 (c:=(rs.length - (k+1))*l) fun x hx=> ?_,ao4 hl k (by omega),dz0];have o:=G6 hl k (by omega) hx;unfold nxC;rw[dr6,at2 (fun r hr=>hl r (o.rows2 r hr)) _ (dr9 _)];have:=o.left;rw[show x.2.length=rs.length - (k+1) by omega]
open Classical in
noncomputable def D8 (l m:Nat)(Rs:List (List Int)):List Int:=if h:∃J,G3 l (m/Rs.length) Rs J then Classical.choose h else []
theorem ba4 {l m k:Nat}{Rs:List (List Int)}{J:List Int}(l0:0 < l)(r0:1<=Rs.length)(em:m=Rs.length*k)(c:dw5 l k=1)(h:G3 l k Rs J):D8 l m Rs=J:=by
 have ek:m/Rs.length=k:=by rw[em];exact dy0 k r0
 have ex:∃J,G3 l (m/Rs.length) Rs J:=⟨J,by rw[ek];exact h⟩;unfold D8;rw[dif_pos ex];exact G3.uniq l0 (by rw[ek];exact c) (Classical.choose_spec ex) (by rw[ek];exact h)
noncomputable def Q4 (l m:Nat)(w:List (List (List Int))):List (Int×Int):=w.flatMap fun c=>E6 (D8 l m c)
theorem bu9 (l m:Nat)(w:List (List (List Int)))(c:List (List Int)):Q4 l m (w++[c])=Q4 l m w++E6 (D8 l m c):=by
 unfold Q4;rw[dy6,dw8,eb3,du0]
def T7 (f:List (List Int)->List (List (List (List Int))))(rs:List (List Int))(d:Nat):List (List (List (List Int))):=if d<=rs.length then (y9 rs (d - 1)).flatMap fun x=>(f x.2).map fun w=>w++[x.1] else []
def C1 (ds:List Nat):Nat->List (List Int)->List (List (List (List Int)))
 |0,_=>[[]]
 |f+1,rs=>if rs.length=0 then [[]] else ds.flatMap (T7 (C1 ds f) rs)
theorem ao5 (J:List Int):(E6 J).map (·.1)=J:=by
 unfold E6;rw[dx2]
 refine dv3 fun i=> ?_
 rw[ds0]
 by_cases h:i < J.length
 · rw[dv4 h,dr8 h];show some (J.getD i 0)=_;rw[ds2,dr8 h];rfl
 · rw[ds7 (by rw[du6];omega),ds7 (by omega)];rfl
def O4 (l m d:Nat):Prop:=1<=d/\dw5 (d*l) m=d
theorem O4.parts {l m d:Nat}(h:O4 l m d)(m1:1<=m):∃k,m=d*k/\dw5 l k=1:=by
 obtain ⟨d1,e⟩:=h
 have dm:d∣m:=by
   have:=ee2 (d*l) m;rw[e] at this;exact this
 obtain ⟨k,rfl⟩:=dm;refine ⟨k,rfl,?_⟩;rw[el6] at e
 have:d*dw5 l k=d*1:=by rw[e,eh3]
 exact ec4 d1 this
theorem cu4 {l m:Nat}{Rs:List (List Int)}(l0:0 < l)(m1:1<=m)(h:O4 l m Rs.length){J:List Int}{k:Nat}(ek:m=Rs.length*k)(j:G3 l k Rs J):D8 l m Rs=J/\J.Perm Rs.flatten:=by
 obtain ⟨k',e1,e2⟩:=h.parts m1;have:k'=k:=ec4 h.1 (by rw[<-e1,<-ek]);subst this;exact ⟨ba4 l0 h.1 ek e2 j,j.perm l0 e2⟩
structure dm4 (l m:Nat)(ds:List Nat)(rs:List (List Int))(w:List (List (List Int))):Prop where
 perm:(w.map eg7).flatten.Perm rs.flatten
 right:∀c∈w,c.length∈ds/\∀r∈c,r.length=l
theorem be5 {l m:Nat}{ds:List Nat}(hd:∀d∈ds,1<=d):∀(f:Nat) {rs:List (List Int)} {w:List (List (List Int))},rs.length<=f->(∀r∈rs,r.length=l)->w∈C1 ds f rs->dm4 l m ds rs w
 |0,rs,w,hf,hl,h=>by
  have e:rs=[]:=ef6.mp (by omega);rw[ds8.mp h,e];exact ⟨List.Perm.refl _,fun c hc=>by cases hc⟩
 |f+1,rs,w,hf,hl,h=>by
  unfold C1 at h
  by_cases c:rs.length=0
  · rw[if_pos c] at h;have e:rs=[]:=ef6.mp c;rw[ds8.mp h,e];exact ⟨List.Perm.refl _,fun c hc=>by cases hc⟩
  · rw[if_neg c] at h;obtain ⟨d,hdm,h⟩:=dw9.mp h;unfold T7 at h
    by_cases c2:d<=rs.length
    · rw[if_pos c2] at h;obtain ⟨x,hx,h⟩:=dw9.mp h;obtain ⟨w',hw',rfl⟩:=ds9.mp h;have d1:=hd d hdm;have o:=G6 hl (d - 1) (by omega) hx;have i:=be5 (m:=m) hd f (rs:=x.2) (w:=w') (by have:=o.left;omega) (fun r hr=>hl r (o.rows2 r hr)) hw';refine ⟨?_,fun c hc=> ?_⟩
      · rw[ds5,dz7];show ((w'.map eg7).flatten++[x.1.flatten].flatten).Perm _;rw[eb4];exact (dy5.trans (i.perm.append_left _)).trans o.perm
      · rcases dt1.mp hc with z|z
        · exact i.right c z
        · rw[ds8.mp z];exact ⟨by rw[o.len,ec7 d1];exact hdm,o.rows⟩
    · rw[if_neg c2] at h;cases h
end
end My
namespace My
open PySem L2 Mth
section
variable {P:Program} {w:World} {K:PySem.W.Frag} {mg:Str->Option Value} {base:Heap}
def Few (ds:List Nat):Nat->List (List Int)->Prop
 |0,_=>True
 |f+1,rs=>(∀d∈ds,d<=rs.length->(∀k,k < d->(y9 rs k).length<=2000)/\∀x∈y9 rs (d - 1),Few ds f x.2)/\(C1 ds (f+1) rs).length<=2000
def aw4 (l m:Nat)(H:Hp)(u:Addr)(w:List (List (List Int))):Prop:=H u=some (.dK (J6 (Q4 l m w)))
def ak4 (f:Nat):Sp:=fun vs H Q _=>∃(l:Addr) (as:List Addr) (rs:List (List Int)) (ra:Addr) (ds:List Nat) (len m:Nat),vs=[.ref l,.ref ra,.int (m:Int)]/\H l=some (.lst (as.map V.ref))/\j9 H as rs/\H ra=some (.lst ((K8 ds).map V.int))/\rs.length<=f/\(∀r∈rs,r.length=len)/\0 < len/\rs.length*len<=40/\rs.flatten.Nodup/\1<=m/\(∀d∈ds,O4 len m d)/\Few ds f rs/\
 ∀(o:Addr) (us:List Addr) (H':Hp),H o=none->c9 H H'->H' o=some (.lst (us.map V.ref))->us.Nodup->(∀u∈us,H u=none)->D2 (aw4 len m H') us (C1 ds f rs)->Q (.ref o) H'
theorem S8 {l:Nat}{rs:List (List Int)}(h:∀r∈rs,r.length=l):rs.flatten.length=rs.length*l:=by
 rw[show rs.flatten=rs.flatMap id by rw[List.flatMap_id]];exact aa1 h
theorem bl4 {l m:Nat}{c:List (List Int)}(l0:0 < l)(m1:1<=m)(h:O4 l m c.length):(∀x∈D8 l m c,x∈c.flatten)/\(D8 l m c).length<=c.flatten.length:=by
 unfold D8
 by_cases ex:∃J,G3 l (m/c.length) c J
 · rw[dif_pos ex];obtain ⟨k,e1,e2⟩:=h.parts m1
   have ek:m/c.length=k:=by rw[e1];exact dy0 k h.1
   have pm:=(Classical.choose_spec ex).perm l0 (by rw[ek];exact e2);exact ⟨fun x hx=>pm.mem_iff.mp hx,eg6 pm.length_eq⟩
 · rw[dif_neg ex];exact ⟨(fun x hx=>by cases hx),du2 _⟩
theorem af9 {l m:Nat}(l0:0 < l)(m1:1<=m):∀(w:List (List (List Int))),(∀c∈w,O4 l m c.length)->(∀x∈(Q4 l m w).map (·.1),x∈(w.map eg7).flatten)/\(Q4 l m w).length<=(w.map eg7).flatten.length
 |[],_=>⟨(fun x hx=>by cases hx),dr9 _⟩
 |c::w,h=>by
  obtain ⟨a,b⟩:=af9 l0 m1 w fun c hc=>h c (ds3 _ hc)
  obtain ⟨a2,b2⟩:=bl4 l0 m1 (h c ds1)
  have e:Q4 l m (c::w)=E6 (D8 l m c)++Q4 l m w:=by unfold Q4;rw[dw8]
  rw[e,dw3,dv5,ds5,ao5,ds6,ds6];refine ⟨fun x hx=> ?_,?_⟩
  · rcases dt1.mp hx with z|z
    · exact dx3 _ (a2 x z)
    · exact du5 _ (a x z)
  · have:(E6 (D8 l m c)).length=(D8 l m c).length:=by unfold E6;rw[dr6,du6]
    omega
theorem aw5 {α β:Type}{f:α->List β}{xs:List α}{i:Nat}{x:α}(h:xs[i]? =some x):((xs.take i).flatMap f).length+(f x).length<=(xs.flatMap f).length:=by
 have jl:=(dr7.mp h).1;have e3:=(dr7.mp h).2
 have ex:xs=xs.take i++x::xs.drop (i+1):=by rw[<-e3,<-ea3 jl,dx0]
 have e4:=congrArg (fun z=>(z.flatMap f).length) ex;simp only[dy6,dw8,ds6] at e4;omega
theorem cc4 {H:Hp}{e l:Addr}(he:H e=none)(hl:(c8 H e (.dK [])) l=none)(len m:Nat):H l=none/\c9 H (c8 (c8 H e (.dK [])) l (.lst [V.ref e]))/\D2 (aw4 len m (c8 (c8 H e (.dK [])) l (.lst [V.ref e]))) [e] [[]]:=by
 have n:l≠e:=fun z=>by rw[z,c7] at hl;cases hl
 have hl0:H l=none:=by rw[g7 n] at hl;exact hl
 refine ⟨hl0,(c9.upd_new he).upd_r hl0,rfl,fun j t x e1 e2=> ?_⟩
 rcases j with _|j
 · cases e1;cases e2;show (c8 (c8 H e (.dK [])) l (.lst [V.ref e])) e=_;rw[g7 n.symm,c7];rfl
 · cases e1
theorem t9:m8 ["rings","right","m","ways","part","chain","left","joined","way"] ["rings","right","m"] (j6 T6):=by rfl'
theorem be6 {f:Addr}{fd:FuncData}(F:A9 K "ways_to_join" "ways_to_join" T6 f fd)(B:Bl mg)(zq:l8 P w K mg base "chains_of" 2 ["rings","part"] ao3)(zsy:l8 P w K mg base "join_rings" 1 ["rings","m"] be1)(zu:l8 P w K mg base "send_along" 1 ["target","ring","steps"] (az3 as3 aw3)):p6 P w K mg base A8 3 f fd ["rings","right","m"] (ak4 0):=by
 refine F.ok t9 (fun vs H Q E h=> ?_) (fun cdv A outer s H vs Q E hr h=> ?_)
 · obtain ⟨l,as,rs,ra,ds,len,m,rfl,hl,rows,hra,lf,hlen,len0,l40,nd,m1,rt,few,q⟩:=h;rfl
 · obtain ⟨l,as,rs,ra,ds,len,m,rfl,hl,rows,hra,lf,hlen,len0,l40,nd,m1,rt,few,q⟩:=h;have zky:m7 2 _:=hr.mono (by decide);have zk:m7 1 _:=hr.mono (by decide);have zkz:m7 1 _:=hr.mono (by decide);refine ⟨_,@e8 _ _ _ _ _ (@C3 _ _ _ _ _ _ _ _ (@p8 _ _ _ _ _ _ _ _ U5 (@p9 _ _ _ _ _ B.len (@c5 _ _ _ _ _ (pv 0) (@c6 _) (by rfl)) (by rfl) (by rfl)) (@i6 _ _ _ _) (w5 _)) (@g6 _ _ _ (@l9 _ _ _ _ (@p5 _ _ _ _ (@c5 _ _ _ _ _ (@V1 _ _) (@c6 _) (by rfl))))) (@y7 _)) (@e8 _ _ _ _ _ (@i8 _ _ (3) _ _ _ _ t9.nd rfl (Or.inl rfl) (@p5 _ _ _ _ (@c6 _)) (by rfl) (by trivial)) (@e8 _ _ _ _ _ (@n9 _ _ _ _ _ _ _ _ PassesOwn.never rfl (@w4 _ _ _ _ (pv 1)) (@i7 _ _ (4) _ t9.nd rfl (Or.inl rfl) (by trivial)) (@g6 _ _ _ (@C3 _ _ _ _ _ _ _ _ (@p8 _ _ _ _ _ _ _ _ bo3 (pv 4) (@p9 _ _ _ _ _ B.len (@c5 _ _ _ _ _ (pv 0) (@c6 _) (by rfl)) (by rfl) (by rfl)) (w5 _)) (@g6 _ _ _ (@n9 _ _ _ _ _ _ _ _ PassesOwn.never rfl (@w4 _ _ _ _ (@h8 _ _ _ _ _ _ _ _ _ _ zq zky (@c5 _ _ _ _ _ (pv 0) (@c5 _ _ _ _ _ (pv 4) (@c6 _) (by rfl)) (by rfl)) (by rfl) (by decide) (by rfl) (by rfl))) (@M1 _ _ _ _ _ _ rfl (@q5 _ _ _ _ _ (@i7 _ _ (5) _ t9.nd rfl (Or.inl rfl) (by trivial)) (@q5 _ _ _ _ _ (@i7 _ _ (6) _ t9.nd rfl (Or.inl rfl) (by trivial)) (@J3 _) (by rfl)) (by rfl)) (by rfl) (by rfl)) (@e8 _ _ _ _ _ (@i8 _ _ (7) _ _ _ _ t9.nd rfl (Or.inl rfl) (@h8 _ _ _ _ _ _ _ _ _ _ zsy zk (@c5 _ _ _ _ _ (pv 5) (@c5 _ _ _ _ _ (pv 2) (@c6 _) (by rfl)) (by rfl)) (by rfl) (by decide) (by rfl) (by rfl)) (by rfl) (by trivial)) (@g6 _ _ _ (@n9 _ _ _ _ _ _ _ _ PassesOwn.never rfl (@w4 _ _ _ _ (@az4 _ _)) (@i7 _ _ (8) _ t9.nd rfl (Or.inl rfl) (by trivial)) (@e8 _ _ _ _ _ (@w6 _ _ _ _ (@h8 _ _ _ _ _ _ _ _ _ _ zu zkz (@c5 _ _ _ _ _ (pv 8) (@c5 _ _ _ _ _ (pv 7) (@c5 _ _ _ _ _ (@i6 _ _ _ _) (@c6 _) (by rfl)) (by rfl)) (by rfl)) (by rfl) (by decide) (by rfl) (by rfl)) (by rfl)) (@g6 _ _ _ (@w6 _ _ _ _ (@B0 _ _ _ _ _ _ _ (pv 3) (@c5 _ _ _ _ _ (pv 8) (@c6 _) (by rfl)) (by rfl) (by rfl) (by rfl) (by rfl) (by rfl)) (by rfl)))) (by intro _;rfl)))) (by intro _;rfl))) (@y7 _))) (by intro _;rfl)) (@g6 _ _ _ (@l9 _ _ _ _ (pv 3))))),?_⟩;refine ⟨_,rfl,l,_,rfl,.inl (g9.of hl),rfl,_,rfl,?_⟩;rw[dr6,rows.1,show rs.length=0 by omega];refine O7 (fun _=> ?_) (fun h=>absurd (decide_eq_true rfl) h)
   refine fun e he=>⟨(show 1<=sizeLine by decide),fun o ho=> ?_⟩
   obtain ⟨a1,a2,a3⟩:=cc4 he ho len m;exact q o [e] _ a1 a2 c7 (by simp) (fun b hb=>by rw[ds8.mp hb];exact he) a3
theorem ba5 {d k:Nat}{f:Addr}{fd:FuncData}(F:A9 K "ways_to_join" "ways_to_join" T6 f fd)(B:Bl mg)(zq:l8 P w K mg base "chains_of" 2 ["rings","part"] ao3)(zsy:l8 P w K mg base "join_rings" 1 ["rings","m"] be1)(zsx:l8 P w K mg base "ways_to_join" (k+3) ["rings","right","m"] (ak4 d))(zu:l8 P w K mg base "send_along" 1 ["target","ring","steps"] (az3 as3 aw3)):p6 P w K mg base A8 (k+3+1) f fd ["rings","right","m"] (ak4 (d+1)):=by
 refine F.ok t9 (fun vs H Q E h=> ?_) (fun cdv A outer s H vs Q E hr h=> ?_)
 · obtain ⟨l,as,rs,ra,ds,len,m,rfl,hl,rows,hra,lf,hlen,len0,l40,nd,m1,rt,few,q⟩:=h;rfl
 · obtain ⟨l,as,rs,ra,ds,len,m,rfl,hl,rows,hra,lf,hlen,len0,l40,nd,m1,rt,few,q⟩:=h;have zky:m7 2 _:=hr.mono (by omega);have zk:m7 1 _:=hr.mono (by omega);have znx:m7 (k+3) _:=hr.mono (by omega);have zkz:m7 1 _:=hr.mono (by omega);refine ⟨_,@e8 _ _ _ _ _ (@C3 _ _ _ _ _ _ _ _ (@p8 _ _ _ _ _ _ _ _ U5 (@p9 _ _ _ _ _ B.len (@c5 _ _ _ _ _ (pv 0) (@c6 _) (by rfl)) (by rfl) (by rfl)) (@i6 _ _ _ _) (w5 _)) (@g6 _ _ _ (@l9 _ _ _ _ (@p5 _ _ _ _ (@c5 _ _ _ _ _ (@V1 _ _) (@c6 _) (by rfl))))) (@y7 _)) (@e8 _ _ _ _ _ (@i8 _ _ (3) _ _ _ _ t9.nd rfl (Or.inl rfl) (@p5 _ _ _ _ (@c6 _)) (by rfl) (by trivial)) (@e8 _ _ _ _ _ (@n9 _ _ _ _ _ _ _ _ PassesOwn.never rfl (@w4 _ _ _ _ (pv 1)) (@i7 _ _ (4) _ t9.nd rfl (Or.inl rfl) (by trivial)) (@g6 _ _ _ (@C3 _ _ _ _ _ _ _ _ (@p8 _ _ _ _ _ _ _ _ bo3 (pv 4) (@p9 _ _ _ _ _ B.len (@c5 _ _ _ _ _ (pv 0) (@c6 _) (by rfl)) (by rfl) (by rfl)) (w5 _)) (@g6 _ _ _ (@n9 _ _ _ _ _ _ _ _ PassesOwn.never rfl (@w4 _ _ _ _ (@h8 _ _ _ _ _ _ _ _ _ _ zq zky (@c5 _ _ _ _ _ (pv 0) (@c5 _ _ _ _ _ (pv 4) (@c6 _) (by rfl)) (by rfl)) (by rfl) (by decide) (by rfl) (by rfl))) (@M1 _ _ _ _ _ _ rfl (@q5 _ _ _ _ _ (@i7 _ _ (5) _ t9.nd rfl (Or.inl rfl) (by trivial)) (@q5 _ _ _ _ _ (@i7 _ _ (6) _ t9.nd rfl (Or.inl rfl) (by trivial)) (@J3 _) (by rfl)) (by rfl)) (by rfl) (by rfl)) (@e8 _ _ _ _ _ (@i8 _ _ (7) _ _ _ _ t9.nd rfl (Or.inl rfl) (@h8 _ _ _ _ _ _ _ _ _ _ zsy zk (@c5 _ _ _ _ _ (pv 5) (@c5 _ _ _ _ _ (pv 2) (@c6 _) (by rfl)) (by rfl)) (by rfl) (by decide) (by rfl) (by rfl)) (by rfl) (by trivial)) (@g6 _ _ _ (@n9 _ _ _ _ _ _ _ _ PassesOwn.never rfl (@w4 _ _ _ _ (@h8 _ _ _ _ _ _ _ _ _ _ zsx znx (@c5 _ _ _ _ _ (pv 6) (@c5 _ _ _ _ _ (pv 1) (@c5 _ _ _ _ _ (pv 2) (@c6 _) (by rfl)) (by rfl)) (by rfl)) (by rfl) (by decide) (by rfl) (by rfl))) (@i7 _ _ (8) _ t9.nd rfl (Or.inl rfl) (by trivial)) (@e8 _ _ _ _ _ (@w6 _ _ _ _ (@h8 _ _ _ _ _ _ _ _ _ _ zu zkz (@c5 _ _ _ _ _ (pv 8) (@c5 _ _ _ _ _ (pv 7) (@c5 _ _ _ _ _ (@i6 _ _ _ _) (@c6 _) (by rfl)) (by rfl)) (by rfl)) (by rfl) (by decide) (by rfl) (by rfl)) (by rfl)) (@g6 _ _ _ (@w6 _ _ _ _ (@B0 _ _ _ _ _ _ _ (pv 3) (@c5 _ _ _ _ _ (pv 8) (@c6 _) (by rfl)) (by rfl) (by rfl) (by rfl) (by rfl) (by rfl)) (by rfl)))) (by intro _;rfl)))) (by intro _;rfl))) (@y7 _))) (by intro _;rfl)) (@g6 _ _ _ (@l9 _ _ _ _ (pv 3))))),?_⟩;refine ⟨_,rfl,l,_,rfl,.inl (g9.of hl),rfl,_,rfl,?_⟩;rw[dr6,rows.1]
   by_cases c0:rs.length=0
   · rw[c0];refine O7 (fun _=> ?_) (fun h=>absurd (decide_eq_true rfl) h)
     refine fun e he=>⟨(show 1<=sizeLine by decide),fun o ho=> ?_⟩
     obtain ⟨a1,a2,a3⟩:=cc4 he ho len m;refine q o [e] _ a1 a2 c7 (by simp) (fun b hb=>by rw[ds8.mp hb];exact he) ?_;unfold C1;rw[if_pos c0];exact a3
   rw[decide_eq_false (fun z=>c0 (by have:=V.int.inj z;omega))];refine M4 ?_;refine ⟨du2 _,fun W hW=> ?_⟩;have s1:c9 H (c8 H W (.lst [])):=c9.upd_new hW;have h1W:(c8 H W (.lst [])) W=some (.lst (([]:List Addr).map V.ref)):=c7;generalize (c8 H W (.lst []))=H1 at s1 h1W ⊢;have nlW:l≠W:=g8 hl hW;have nrW:ra≠W:=g8 hra hW
   have ewf:C1 ds (d+1) rs=ds.flatMap (T7 (C1 ds d) rs):=by
     show (if rs.length=0 then _ else _)=_;rw[if_neg c0]
   obtain ⟨few1,few2⟩:=few;rw[ewf] at few2
   have dsv:∀{i:Nat} {y:V},((K8 ds).map V.int)[i]? =some y->∃dd:Nat,ds[i]? =some dd/\y= .int (dd:Int):=fun {i y} h=>by
     unfold K8 at h;rw[ds0,ds0] at h
     cases e:ds[i]? with
     |none=>rw[e] at h;cases h
     |some a=>rw[e] at h;cases h;exact ⟨a,rfl,rfl⟩
   refine ⟨_,rfl,ra,rfl,⟨_,g9.of (s1 _ _ hra)⟩,A7 (K:=K) (a:=ra) (xs:=(K8 ds).map V.int) (fun i σ H2=>∃(us:List Addr) (v4 v5 v6 v7 v8:Option V),σ=[some (.ref l),some (.ref ra),some (.int (m:Int)),some (.ref W),v4,v5,v6,v7,v8]/\H2 W=some (.lst (us.map V.ref))/\us.Nodup/\(∀u∈us,H u=none)/\D2 (aw4 len m H2) us ((ds.take i).flatMap (T7 (C1 ds d) rs))/\c9 H H2)
     ⟨[],none,none,none,none,none,rfl,h1W,dx7,(fun u hu=>by cases hu),D2.nil,s1⟩ (fun i σ H2 _ zz=>by obtain ⟨_,_,_,_,_,_,_,_,_,_,_,k⟩:=zz;exact g9.of (k _ _ hra)) ?_ ?_⟩
   · rintro i y σ H2 hi ⟨us0,v4,v5,v6,v7,v8,rfl,h2W,und0,ufr0,atu0,s02⟩;obtain ⟨dd,hdd,rfl⟩:=dsv hi;have ddm:=ds4 hdd;have rdd:=rt dd ddm;refine ⟨_,rfl,_,rfl,l,_,rfl,.inl (g9.of (s02 _ _ hl)),_,_,rfl,rfl,_,rfl,?_⟩;rw[dr6,rows.1];rw[i9 hdd,dy6,dw8,eb3,du0]
     by_cases cd:dd<=rs.length
     · rw[decide_eq_true (show (dd:Int)<=(rs.length:Int) by omega)]
       have ewp:T7 (C1 ds d) rs dd=(y9 rs (dd - 1)).flatMap fun x=>(C1 ds d x.2).map fun w=>w++[x.1]:=if_pos cd
       have tot:=aw5 (f:=T7 (C1 ds d) rs) hdd;rw[ewp] at tot ⊢;obtain ⟨fewc,fewx⟩:=few1 dd ddm cd;have r40:rs.length<=40:=dt4 (dx4 _ len0) l40
       have row40:∀r∈rs,r.length<=40:=fun r hr=>by
         rw[hlen r hr];exact dt4 (eg3 _ (by omega)) l40
       obtain ⟨kk,emk,gk⟩:=rdd.parts m1;refine ah2 ⟨_,rfl,_,rfl,l,as,rs,[W],dd,rfl,s02 _ _ hl,fun z=>nlW (ds8.mp z),m9 rows fun b _ u e=>by rw[L5 fun z=>(g8 e hW) (ds8.mp z)];exact s02 _ _ e,fun z hz=>by rw[ds8.mp hz];exact ⟨_,h2W⟩,by omega,r40,row40,rdd.1,by omega,fewc,fun F ts H3 hF s3 h3F atc=> ?_⟩;have nFW:F≠W:=(g8 h2W hF).symm
       refine ⟨F,rfl,⟨_,g9.of h3F⟩,A7 (K:=K) (a:=F) (xs:=ts.map V.ref) (fun j σ H4=>∃(us:List Addr) (v5 v6 v7 v8:Option V),σ=[some (.ref l),some (.ref ra),some (.int (m:Int)),some (.ref W),some (.int (dd:Int)),v5,v6,v7,v8]/\H4 W=some (.lst (us.map V.ref))/\us.Nodup/\(∀u∈us,H u=none)/\D2 (aw4 len m H4) us ((ds.take i).flatMap (T7 (C1 ds d) rs)++((y9 rs (dd - 1)).take j).flatMap fun x=>(C1 ds d x.2).map fun w=>w++[x.1])/\j5 W H3 H4)
         ⟨us0,v5,v6,v7,v8,rfl,s3 _ _ h2W,und0,ufr0,by rw[dz5,eb3,du0];exact atu0.imp fun u w _ h=>s3 _ _ h,j5.refl _ _⟩ (fun j σ H4 _ zz=>by obtain ⟨_,_,_,_,_,_,_,_,_,_,k⟩:=zz;exact g9.of (k _ _ h3F nFW)) ?_ ?_⟩
       · rintro j y σ H4 hj ⟨us,v5,v6,v7,v8,rfl,h4W,und,ufr,atu,kb4⟩
         obtain ⟨t,ht,rfl⟩:∃t,ts[j]? =some t/\y=V.ref t:=by
           rw[ds0] at hj
           cases e:ts[j]? with
           |none=>rw[e] at hj;cases hj
           |some a=>rw[e] at hj;exact ⟨a,rfl,(Option.some.inj hj).symm⟩
         obtain ⟨x,hx,cx⟩:=atc.get ht;obtain ⟨c,xl,cs,bs,g1,g2,g3,g4,g5⟩:=(cx.keep (S7 ds1 kb4)).keep (bu4 _ _);have xm:=ds4 hx;have ok:=G6 hlen (dd - 1) (by have:=rdd.1;omega) xm
         have x1l:x.1.length=dd:=by rw[ok.len];have:=rdd.1;omega
         have fewr:=fewx x xm;have s04:c9 H H4:=(s02.trans s3).kb kb4 hW;refine ⟨t,_,rfl,R3.of g1,rfl,_,_,rfl,_,_,rfl,rfl,?_⟩;refine ⟨_,rfl,_,rfl,c,cs,x.1,len,kk,by rw[x1l,<-emk];rfl,g2,g3,by have:=rdd.1;omega,ok.rows,len0,by rw[x1l];exact dt4 (eb2 _ cd) l40,gk,fun jo J H5 hjo s5 h5J jis=> ?_⟩;obtain ⟨ej,pj⟩:=cu4 len0 m1 (by rw[x1l];exact rdd) (by rw[x1l];exact emk) jis;have xnd:(x.1.flatten++x.2.flatten).Nodup:=ok.perm.nodup_iff.mpr nd;rw[dw4] at xnd
         have rl2:∀r∈x.2,r.length=len:=fun r hr=>hlen r (ok.rows2 r hr)
         have x2l:x.2.length<=d/\x.2.length<=rs.length:=by have:=ok.left;have:=rdd.1;omega
         have x240:x.2.length*len<=40:=dt4 (eb2 _ x2l.2) l40;refine ⟨_,rfl,_,rfl,_,rfl,xl,bs,x.2,ra,ds,len,m,rfl,s5 _ _ g4,m9 g5 fun b _ u e=>s5 _ _ e,s5 _ _ (s04 _ _ hra),x2l.1,rl2,len0,x240,xnd.2.1,m1,rt,fewr,fun o vs H6 ho s6 h6o vnd vfr atv=> ?_⟩;have n5W:=g8 h4W hjo;have h5W:=s5 _ _ h4W;have vno:∀u∈vs,H5 u=none:=vfr
         have jov:jo∉vs:=fun z=>by have:=vno jo z;rw[h5J] at this;cases this
         have Wv:W∉vs:=fun z=>by have:=vno W z;rw[h5W] at this;cases this
         have usv:∀u∈us,u∉vs:=fun u hu z=>by
           obtain ⟨jj,hjj⟩:=dt7.mp hu;obtain ⟨w,_,hw⟩:=atu.get hjj;have e:=vno u z;rw[s5 _ _ hw] at e;cases e
         have ov:o∉vs:=fun z=>by
           obtain ⟨jj,hjj⟩:=dt7.mp z;obtain ⟨w,_,hw⟩:=atv.get hjj;have hw:H6 o=_:=hw;rw[h6o] at hw;cases hw
         have noW:o≠W:=(g8 h5W ho).symm;have jnd:J.Nodup:=pj.nodup_iff.mpr xnd.1
         have jl40:J.length<=40:=by
           rw[pj.length_eq,S8 ok.rows,x1l];exact dt4 (eb2 _ cd) l40
         have tot2:=aw5 (f:=fun x:List (List Int)×List (List Int)=>(C1 ds d x.2).map fun w=>w++[x.1]) hx;rw[dr6] at tot2;have aul:=atu.1;rw[ds6] at aul;have vl:=atv.1
         refine ⟨o,rfl,⟨_,g9.of h6o⟩,A7 (K:=K) (a:=o) (xs:=vs.map V.ref) (fun k σ H7=>∃(v8:Option V),σ=[some (.ref l),some (.ref ra),some (.int (m:Int)),some (.ref W),some (.int (dd:Int)),some (.ref c),some (.ref xl),some (.ref jo),v8]/\H7 W=some (.lst ((us++vs.take k).map V.ref))/\D2 (aw4 len m H7) (us++vs.take k) (((ds.take i).flatMap (T7 (C1 ds d) rs)++((y9 rs (dd - 1)).take j).flatMap fun x=>(C1 ds d x.2).map fun w=>w++[x.1])++((C1 ds d x.2).take k).map fun w=>w++[x.1])/\(∀jj,k<=jj->∀u w,vs[jj]? =some u->(C1 ds d x.2)[jj]? =some w->aw4 len m H7 u w)/\(∀a u,a≠W->a∉vs->H6 a=some u->H7 a=some u))
           ⟨v8,rfl,by rw[dz5,du0];exact s6 _ _ h5W,by rw[dz5,dz5,ed1,du0,du0];exact atu.imp fun u w _ h=>s6 _ _ (s5 _ _ h),fun jj _ u w e1 e2=>atv.2 jj u w e1 e2,fun a u _ _ e=>e⟩ (fun k σ H7 _ zz=>by obtain ⟨_,_,_,_,_,kk⟩:=zz;exact g9.of (kk _ _ noW ov h6o)) ?_ ?_⟩
         · rintro k y σ H7 hk ⟨v8,rfl,h7W,at7,todo,keep7⟩
           obtain ⟨u,hu,rfl⟩:∃t,vs[k]? =some t/\y=V.ref t:=by
             rw[ds0] at hk
             cases e:vs[k]? with
             |none=>rw[e] at hk;cases hk
             |some a=>rw[e] at hk;exact ⟨a,rfl,(Option.some.inj hk).symm⟩
           obtain ⟨w,hw,_⟩:=atv.get hu;have h7u:H7 u=some (.dK (J6 (Q4 len m w))):=todo k (dr9 _) u w hu hw;have um:=ds4 hu
           have nuW:u≠W:=fun z=>Wv (z▸um)
           have h7J:=keep7 jo _ n5W.symm jov (s6 _ _ h5J);have wok:=be5 (m:=m) (fun dd h=>(rt dd h).1) d x2l.1 rl2 (ds4 hw)
           obtain ⟨es1,es2⟩:=af9 len0 m1 w fun c hc=>rt _ (wok.right c hc).1
           have es3:(Q4 len m w).length<=40:=by
             refine dt4 es2 ?_;rw[wok.perm.length_eq,S8 rl2];exact x240
           refine ⟨_,rfl,_,rfl,.inr ⟨u,jo,Q4 len m w,J,rfl,h7u,h7J,jnd,fun z hz hz2=> ?_,by omega,by omega,fun H8 h8u kb8=> ?_⟩⟩
           · exact xnd.2.2 z (pj.mem_iff.mp hz) z (wok.perm.mem_iff.mp (es1 z hz2)) rfl
           have h8W:=kb8 _ _ h7W nuW.symm;have ltk:(vs.take k).length<=vs.length:=List.length_take_le' _ _;refine ⟨_,rfl,.inl ⟨rfl,_,g9.of h8W⟩,_,rfl,W,_,_,rfl,rfl,h8W,dw0 (show _<=2000 by rw[dr6,ds6];omega) (by decide),?_⟩;rw[show (us++vs.take k).map V.ref++[V.ref u]=(us++vs.take (k+1)).map V.ref by rw[i9 hu,<-dt5,ds5 (l₂:=[u])];rfl]
           have un:∀t∈us++vs.take k,t≠u:=fun t ht z=>by
             subst z
             rcases dt1.mp ht with y|y
             · exact usv t y um
             · obtain ⟨jj,hjj⟩:=dt7.mp y;rw[eg0] at hjj
               by_cases c:jj < k
               · rw[if_pos c] at hjj;have a1:=(dr7.mp hjj).1;have a2:=(dr7.mp hu).1;exact du7.mp (dt0.mp vnd) jj k a1 a2 c (by rw[(dr7.mp hjj).2,(dr7.mp hu).2])
               · rw[if_neg c] at hjj;cases hjj
           refine ⟨_,rfl,c7,?_,fun jj hjj u2 w2 e1 e2=> ?_,fun a v na nv e=> ?_⟩
           · have ea:us++vs.take (k+1)=(us++vs.take k)++[u]:=by rw[i9 hu,dt5]
             have eb:((C1 ds d x.2).take (k+1)).map (fun w=>w++[x.1])=((C1 ds d x.2).take k).map (fun w=>w++[x.1])++[w++[x.1]]:=by rw[i9 hw,ds5];rfl
             rw[ea,eb,<-dt5];refine D2.snoc (at7.imp fun t w2 ht h=> ?_) ?_
             · have h:H7 t=some (.dK (J6 (Q4 len m w2))):=h;show c8 H8 W _ t=_;rw[g7 (show t≠W from fun z=>by rw[z,h7W] at h;cases h)];exact kb8 _ _ h (un t ht)
             · show c8 H8 W _ u=_;rw[g7 nuW,h8u,bu9,ej]
           · have h:=todo jj (by omega) u2 w2 e1 e2;have h:H7 u2=some (.dK (J6 (Q4 len m w2))):=h;show c8 H8 W _ u2=_;rw[g7 (show u2≠W from fun z=>Wv (z▸ds4 e1))]
             refine kb8 _ _ h fun z=> ?_
             subst z;have a1:=(dr7.mp e1).1;have a2:=(dr7.mp hu).1;exact du7.mp (dt0.mp vnd) k jj a2 a1 (by omega) (by rw[(dr7.mp e1).2,(dr7.mp hu).2])
           · rw[g7 na]
             exact kb8 _ _ (keep7 a v na nv e) fun z=>nv (z▸um)
         · rintro σ H7 ⟨v8,rfl,h7W,at7,todo,keep7⟩;rw[dr6,du1] at h7W at7;rw[vl,du1] at at7;refine ⟨us++vs,_,_,_,v8,rfl,h7W,?_,fun u hu=> ?_,?_,fun a u e na=> ?_⟩
           · rw[dw4];exact ⟨und,vnd,fun a ha b hb e=>usv a ha (e▸hb)⟩
           · rcases dt1.mp hu with z|z
             · exact ufr u z
             · exact (s04.trans s5).free (vno u z)
           · rw[i9 hx,dy6,dw8,eb3,du0,<-dt5];exact at7
           · have e5:=s5 _ _ (kb4 _ _ e na);exact keep7 a u na (fun z=>by have:=vno a z;rw[e5] at this;cases this) (s6 _ _ e5)
       · rintro σ H4 ⟨us,v5,v6,v7,v8,rfl,h4W,und,ufr,atu,kb4⟩;rw[dr6,atc.1,du1] at atu;exact ⟨us,_,_,_,_,_,rfl,h4W,und,ufr,atu,(s02.trans s3).kb kb4 hW⟩
     · rw[decide_eq_false (show ¬(dd:Int)<=(rs.length:Int) by omega)];have ewp:T7 (C1 ds d) rs dd=[]:=if_neg cd;rw[ewp,du0];exact M4 ⟨us0,_,_,_,_,_,rfl,h2W,und0,ufr0,atu0,s02⟩
   · rintro σ H2 ⟨us,v4,v5,v6,v7,v8,rfl,h2W,und,ufr,atu,s02⟩;rw[show ((K8 ds).map V.int).length=ds.length by unfold K8;rw[dr6,dr6],du1,<-ewf] at atu;exact ⟨_,rfl,q W us H2 hW s02 h2W und ufr atu⟩
end
end My
namespace My
open PySem L2 Mth PySem.Spec PyProof.Rows
section
variable {P:Program} {w:World} {K:PySem.W.Frag} {mg:Str->Option Value} {base:Heap}
def di8 (td:TE):TI:=fun σ H R=>td σ H fun x H1=>∃d kvs,x= .ref d/\((H1 d=some (.dK kvs)/\∀o,R (Itd d o kvs) (c8 H1 d (.frz o (.dK kvs))))\/∃o,H1 d=some (.frz o (.dK kvs))/\R (Itd d o kvs) H1)
theorem cu5 {X:Cx}{tg l:Expr}{tl:TE}(hl:PE X l tl):PI X tg l (di8 tl):=by
 intro pins s σ H R I h
 refine q9 (hl pins s σ H _ I h) fun v s1 ⟨x,H1,I1,r1,q1⟩=> ?_
 obtain ⟨d,kvs,e,q⟩:=q1;subst e;cases r1
 rcases q with ⟨hH,q⟩|⟨o,hH,q⟩
 · obtain ⟨_,hsm,vs,rel,o,es,ep,ho,hc,hdat,rr⟩:=(show x6 X.prog X.w H1 s1.heap d (.dK kvs) from I1.hok d _ hH);have hat:s1.heap.DictAt (A6 X.prog X.w) d vs ep:=⟨o,es,ho,hc,hdat,rr⟩;have I2:=I1.freeze hH ho;refine wpAny_pyIter_dict hsm hat ?_;have hlen:kvs.length=vs.length:=rel.length;refine ⟨s1.heap.objs.size,[s1.heap.objs.size],_,_,_,rfl,I2.kept (t':=s1.toks) fun b o e=>Heap.get?_push_of_some _ e,ar2 d _ o kvs es ep hdat,⟨_,Heap.get?_push_size _ rfl,rfl,by rw[hlen];rfl⟩,fun b hb=> ?_,q o⟩
   have e:b=s1.heap.objs.size:=by simpa using hb
   subst e;exact I2.fpOk (dr9 _) (I2.hok.fresh (dr9 _))
 · obtain ⟨ho0,_,hsm,vs,rel,o',es,ep,ho,hc,hdat,rr⟩:=(show x6 X.prog X.w H1 s1.heap d (.frz o (.dK kvs)) from I1.hok d _ hH)
   have eo:o'=o:=by rw[ho0] at ho;exact (Option.some.inj ho).symm
   subst eo;have hat:s1.heap.DictAt (A6 X.prog X.w) d vs ep:=⟨o',es,ho,hc,hdat,rr⟩;refine wpAny_pyIter_dict hsm hat ?_;have hlen:kvs.length=vs.length:=rel.length;refine ⟨s1.heap.objs.size,[s1.heap.objs.size],_,_,_,rfl,I1.kept (t':=s1.toks) fun b o e=>Heap.get?_push_of_some _ e,ar2 d _ o' kvs es ep hdat,⟨_,Heap.get?_push_size _ rfl,rfl,by rw[hlen];rfl⟩,fun b hb=> ?_,q⟩
   have e:b=s1.heap.objs.size:=by simpa using hb
   subst e;exact I1.fpOk (dr9 _) (I1.hok.fresh (dr9 _))
def w9 (t:List Int)(es:List (Int×Int)):List Int:=es.foldl (fun t e=>t.set e.1.toNat e.2) t
theorem X8 (es:List (Int×Int)):∀t:List Int,(w9 t es).length=t.length:=by
 induction es with
 |nil=>intro t;rfl
 |cons e es ih=>intro t;show (w9 (t.set e.1.toNat e.2) es).length=_;rw[ih,ec9]
theorem bz0 (t:List Int)(es:List (Int×Int))(e:Int×Int):w9 t (es++[e])=(w9 t es).set e.1.toNat e.2:=by
 unfold w9;rw[ei0];rfl
def Q1 (laid:List (List Int))(ways:List (List (Int×Int))):List (List Int):=laid.flatMap fun t=>ways.map (w9 t)
def K1 (p:List Int)(chs:List (List (List (Int×Int)))):List (List Int):=chs.foldl Q1 [p]
theorem be7 (p:List Int)(chs:List (List (List (Int×Int))))(c:List (List (Int×Int))):K1 p (chs++[c])=Q1 (K1 p chs) c:=by
 unfold K1;rw[ei0];rfl
theorem cu6 {n:Nat}{laid:List (List Int)}{ways:List (List (Int×Int))}(h:∀t∈laid,t.length=n):∀t∈Q1 laid ways,t.length=n:=fun t ht=>by
 obtain ⟨t',h',z⟩:=dw9.mp ht;obtain ⟨es,_,rfl⟩:=ds9.mp z;rw[X8];exact h t' h'
theorem bl5 (p:List Int)(chs:List (List (List (Int×Int)))):∀t∈K1 p chs,t.length=p.length:=by
 have g:∀(chs:List (List (List (Int×Int)))) (laid:List (List Int)),(∀t∈laid,t.length=p.length)->∀t∈chs.foldl Q1 laid,t.length=p.length:=fun chs=>by
   induction chs with
   |nil=>intro laid h;exact h
   |cons c chs ih=>intro laid h;exact ih _ (cu6 h)
 exact g chs [p] fun t ht=>by rw[ds8.mp ht]
def ao6 (H:Hp)(u:Addr)(es:List (Int×Int)):Prop:=H u=some (.dK (J6 es))\/∃o,H u=some (.frz o (.dK (J6 es)))
structure Kp (H H':Hp):Prop where
 nd:∀x u,H x=some u->(∀kvs,u≠.dK kvs)->H' x=some u
 tab:∀x es,ao6 H x es->ao6 H' x es
 fr:∀x,H' x=none->H x=none
theorem Kp.of {H H':Hp}(s:c9 H H'):Kp H H':=⟨fun x u e _=>s _ _ e,fun x es e=>e.elim (fun e=> .inl (s _ _ e)) fun ⟨o,e⟩=> .inr ⟨o,s _ _ e⟩,fun x e=>s.free e⟩
theorem Kp.trans {H H' H'':Hp}(a:Kp H H')(b:Kp H' H''):Kp H H'':=⟨fun x u e n=>b.nd x u (a.nd x u e n) n,fun x es e=>b.tab x es (a.tab x es e),fun x e=>a.fr x (b.fr x e)⟩
theorem Kp.lst {H H':Hp}(k:Kp H H'){a:Addr}{xs:List V}(e:H a=some (.lst xs)):H' a=some (.lst xs):=k.nd a _ e (fun kvs z=>by cases z)
theorem Kp.rows {H H':Hp}(k:Kp H H'){as:List Addr}{rs:List (List Int)}(h:j9 H as rs):j9 H' as rs:=⟨h.1,fun j a r e1 e2=>k.lst (h.2 j a r e1 e2)⟩
theorem Kp.upd_r {H H':Hp}(k:Kp H H'){x:Addr}{o:HO}(n:H x=none):Kp H (c8 H' x o):=by
 have ne:∀a u,H a=some u->a≠x:=fun a u e z=>by rw[z,n] at e;cases e
 refine ⟨fun a u e h=>by rw[g7 (ne a u e)];exact k.nd a u e h,fun a es e=> ?_,fun a e=> ?_⟩
 · have nx:a≠x:=e.elim (fun e=>ne a _ e) fun ⟨_,e⟩=>ne a _ e
   unfold ao6;rw[g7 nx];exact k.tab a es e
 · by_cases z:a=x
   · rw[z];exact n
   · rw[g7 z] at e;exact k.fr a e
theorem Kp.freeze {H:Hp}{u:Addr}{kvs:List (o9×V)}{o:Obj}(e:H u=some (.dK kvs)):Kp H (c8 H u (.frz o (.dK kvs))):=by
 refine ⟨fun a v h n=> ?_,fun a es h=> ?_,fun a h=> ?_⟩
 · rw[g7 fun z=>by rw[z,e] at h;cases h;exact n _ rfl];exact h
 · by_cases z:a=u
   · subst z
     rcases h with h|⟨_,h⟩
     · rw[e] at h;cases h;exact .inr ⟨o,c7⟩
     · rw[e] at h;cases h
   · unfold ao6;rw[g7 z];exact h
 · by_cases z:a=u
   · rw[z,c7] at h;cases h
   · rw[g7 z] at h;exact h
theorem cc5:∀{es:List (Int×Int)} {i:Nat} {e:Int×Int},(es.map (·.1)).Nodup->es[i]? =some e->A4 (J6 es) (Sum.inl e.1:o9)=some (.int e.2)
 |[],i,e,_,h=>by cases h
 |x::es,0,e,_,h=>by cases h;exact Y8 rfl
 |x::es,i+1,e,nd,h=>by
  rw[dw3,dw2] at nd;have hm:e∈es:=ds4 h;show A4 ((Sum.inl x.1,V.int x.2)::J6 es) _=_;rw[V0]
  · exact cc5 nd.2 h
  · intro z;have z:x.1=e.1:=Sum.inl.inj z;exact nd.1 (by rw[z];exact List.mem_map_of_mem hm)
def bp5:Sp:=fun vs H Q _=>∃(a ch:Addr) (p:List Int) (cs:List Addr) (chs:List (List (List (Int×Int)))),vs=[.ref a,.ref ch]/\H a=some (.lst (p.map V.int))/\p.length<=40/\H ch=some (.lst (cs.map V.ref))/\
 D2 (fun c ways=>∃us,H c=some (.lst (us.map V.ref))/\D2 (ao6 H) us ways) cs chs/\(∀ways∈chs,∀es∈ways,(es.map (·.1)).Nodup/\∀e∈es,0<=e.1/\e.1 < (p.length:Int))/\(∀i,(K1 p (chs.take i)).length<=2000)/\
 ∀(o:Addr) (bs:List Addr) (ts:List (List Int)) (H':Hp),H o=none->H' o=some (.lst (bs.map V.ref))->j9 H' bs ts->ts.Perm (K1 p chs)->ts.Pairwise (fun r r'=>HT.av2 r' r=false)->bs.Nodup->(∀b∈bs,H b=none)->o∉bs->Kp H H'->Q (.ref o) H'
theorem B6:m8 ["p","choices","laid","ways","wider","turn","way","told","thing"] ["p","choices"] (j6 X2):=by rfl'
theorem ba6 {f:Addr}{fd:FuncData}(F:A9 K "lay_every_way" "lay_every_way" X2 f fd)(B:Bl mg):p6 P w K mg base A8 1 f fd ["p","choices"] bp5:=by
 refine F.ok B6 (fun vs H Q E h=> ?_) (fun cdv A outer s H vs Q E hr h=> ?_)
 · obtain ⟨a,ch,p,cs,chs,rfl,ha,lp,hch,atc,keys,few,q⟩:=h;rfl
 · obtain ⟨a,ch,p,cs,chs,rfl,ha,lp,hch,atc,keys,few,q⟩:=h;have hu:=T2 hr;have hu2:_+1+1 < cLine:=dw0 (eg9 (by decide:2<=64) _) hr.units;refine ⟨_,@e8 _ _ _ _ _ (@i8 _ _ (2) _ _ _ _ B6.nd rfl (Or.inl rfl) (@p5 _ _ _ _ (@c5 _ _ _ _ _ (@K5 _ _ _ _ _ B.list (@c5 _ _ _ _ _ (pv 0) (@c6 _) (by rfl)) (by rfl) (by rfl)) (@c6 _) (by rfl))) (by rfl) (by trivial)) (@e8 _ _ _ _ _ (@n9 _ _ _ _ _ _ _ _ PassesOwn.never rfl (@w4 _ _ _ _ (pv 1)) (@i7 _ _ (3) _ B6.nd rfl (Or.inl rfl) (by trivial)) (@e8 _ _ _ _ _ (@i8 _ _ (4) _ _ _ _ B6.nd rfl (Or.inl rfl) (@p5 _ _ _ _ (@c6 _)) (by rfl) (by trivial)) (@e8 _ _ _ _ _ (@n9 _ _ _ _ _ _ _ _ PassesOwn.never rfl (@w4 _ _ _ _ (pv 2)) (@i7 _ _ (5) _ B6.nd rfl (Or.inl rfl) (by trivial)) (@g6 _ _ _ (@n9 _ _ _ _ _ _ _ _ PassesOwn.never rfl (@w4 _ _ _ _ (pv 3)) (@i7 _ _ (6) _ B6.nd rfl (Or.inl rfl) (by trivial)) (@e8 _ _ _ _ _ (@i8 _ _ (7) _ _ _ _ B6.nd rfl (Or.inl rfl) (@K5 _ _ _ _ _ B.list (@c5 _ _ _ _ _ (pv 5) (@c6 _) (by rfl)) (by rfl) (by rfl)) (by rfl) (by trivial)) (@e8 _ _ _ _ _ (@n9 _ _ _ _ _ _ _ _ PassesOwn.never rfl (cu5 (pv 6)) (@i7 _ _ (8) _ B6.nd rfl (Or.inl rfl) (by trivial)) (@g6 _ _ _ (@aa9 _ _ _ _ _ _ (@ad3 _ _ _ _ _ _ hu (pv 6) (pv 8) (fun _ _=>rfl)) (@aa8 _ _ _ _ _ _ _ (pv 7) (pv 8) R8 (by intro _;rfl)) (by rfl) (by rfl) (by rfl))) (by intro _;rfl)) (@g6 _ _ _ (@w6 _ _ _ _ (@B0 _ _ _ _ _ _ _ (pv 4) (@c5 _ _ _ _ _ (pv 7) (@c6 _) (by rfl)) (by rfl) (by rfl) (by rfl) (by rfl) (by rfl)) (by rfl))))) (by intro _;rfl))) (by intro _;rfl)) (@g6 _ _ _ (@i8 _ _ (2) _ _ _ _ B6.nd rfl (Or.inl rfl) (pv 4) (by rfl) (by trivial))))) (by intro _;rfl)) (@g6 _ _ _ (@l9 _ _ _ _ (ah6 hu2 B.sorted (@c5 _ _ _ _ _ (pv 2) (@c6 _) (by rfl)))))),?_⟩;refine ⟨_,rfl,a,_,rfl,.inl (g9.of ha),fun e0 he0=> ?_⟩;have s1:c9 H (c8 H e0 (.lst (p.map V.int))):=c9.upd_new he0;have h1e:(c8 H e0 (.lst (p.map V.int))) e0=some (.lst (p.map V.int)):=c7;generalize (c8 H e0 (.lst (p.map V.int)))=H1 at s1 h1e ⊢;refine ⟨(show 1<=sizeLine by decide),fun F0 hF0=> ?_⟩;have s2:c9 H1 (c8 H1 F0 (.lst [V.ref e0])):=c9.upd_new hF0;have h2F:(c8 H1 F0 (.lst [V.ref e0])) F0=some (.lst (([e0]:List Addr).map V.ref)):=c7;generalize (c8 H1 F0 (.lst [V.ref e0]))=H2 at s2 h2F ⊢;have s02:=s1.trans s2
   refine ⟨_,rfl,ch,rfl,⟨_,g9.of (s02 _ _ hch)⟩,A7 (K:=K) (a:=ch) (xs:=cs.map V.ref) (fun i σ H3=>∃(F:Addr) (ts:List Addr) (v3 v4 v5 v6 v7 v8:Option V),σ=[some (.ref a),some (.ref ch),some (.ref F),v3,v4,v5,v6,v7,v8]/\H3 F=some (.lst (ts.map V.ref))/\j9 H3 ts (K1 p (chs.take i))/\ts.Nodup/\(∀t∈ts,H t=none)/\Kp H H3)
     ⟨F0,[e0],none,none,none,none,none,none,rfl,h2F,⟨rfl,fun j b r e1 e2=>by
       rcases j with _|j
       · cases e1;cases e2;exact s2 _ _ h1e
       · cases e1⟩,by simp,fun t ht=>by rw[ds8.mp ht];exact he0,Kp.of s02⟩ (fun i σ H3 _ zz=>by obtain ⟨_,_,_,_,_,_,_,_,_,_,_,_,_,k⟩:=zz;exact g9.of (k.lst hch)) ?_ ?_⟩
   · rintro i y σ H3 hi ⟨F,ts,v3,v4,v5,v6,v7,v8,rfl,h3F,rows,tnd,tfr,k3⟩
     obtain ⟨c,hc,rfl⟩:∃c,cs[i]? =some c/\y=V.ref c:=by
       rw[ds0] at hi
       cases e:cs[i]? with
       |none=>rw[e] at hi;cases hi
       |some a=>rw[e] at hi;exact ⟨a,rfl,(Option.some.inj hi).symm⟩
     obtain ⟨ways,hw,us,hcu,atu⟩:=atc.get hc;have fewi:=few (i+1);rw[i9 hw,be7] at fewi ⊢;have lens:=bl5 p (chs.take i);generalize K1 p (chs.take i)=laid at rows fewi lens ⊢;have kw:=keys ways (ds4 hw);refine ⟨du2 _,fun W hW=> ?_⟩;have hW0:H W=none:=k3.fr W hW;have s4:c9 H3 (c8 H3 W (.lst [])):=c9.upd_new hW;have h4W:(c8 H3 W (.lst [])) W=some (.lst (([]:List Addr).map V.ref)):=c7;generalize (c8 H3 W (.lst []))=H4 at s4 h4W ⊢
     refine ⟨_,rfl,F,rfl,⟨_,g9.of (s4 _ _ h3F)⟩,A7 (K:=K) (a:=F) (xs:=ts.map V.ref) (fun j σ H5=>∃(bs:List Addr) (v5 v6 v7 v8:Option V),σ=[some (.ref a),some (.ref ch),some (.ref F),some (.ref c),some (.ref W),v5,v6,v7,v8]/\H5 W=some (.lst (bs.map V.ref))/\j9 H5 bs (Q1 (laid.take j) ways)/\bs.Nodup/\(∀b∈bs,H3 b=none)/\W∉bs/\Kp H3 H5)
       ⟨[],v5,v6,v7,v8,rfl,h4W,⟨rfl,fun j b r h=>by cases h⟩,dx7,(fun b hb=>by cases hb),(fun z=>by cases z),Kp.of s4⟩ (fun j σ H5 _ zz=>by obtain ⟨_,_,_,_,_,_,_,_,_,_,_,k⟩:=zz;exact g9.of (k.lst h3F)) ?_ ?_⟩
     · rintro j y σ H5 hj ⟨bs0,v5,v6,v7,v8,rfl,h5W,rowsB0,bnd0,bfr0,Wb0,k5⟩
       obtain ⟨t,ht,rfl⟩:∃t,ts[j]? =some t/\y=V.ref t:=by
         rw[ds0] at hj
         cases e:ts[j]? with
         |none=>rw[e] at hj;cases hj
         |some a=>rw[e] at hj;exact ⟨a,rfl,(Option.some.inj hj).symm⟩
       obtain ⟨row,hrow⟩:∃r,laid[j]? =some r:=⟨_,dr8 (by rw[<-rows.1];exact (dr7.mp ht).1)⟩;have h3t:=rows.2 j t row ht hrow;have lrow:=lens row (ds4 hrow);have tot:=aw5 (f:=fun t=>ways.map (w9 t)) hrow;rw[dr6] at tot;have h5c:=(k3.trans k5).lst hcu
       refine ⟨_,rfl,c,rfl,⟨_,g9.of h5c⟩,A7 (K:=K) (a:=c) (xs:=us.map V.ref) (fun k σ H6=>∃(bs:List Addr) (v6 v7 v8:Option V),σ=[some (.ref a),some (.ref ch),some (.ref F),some (.ref c),some (.ref W),some (.ref t),v6,v7,v8]/\H6 W=some (.lst (bs.map V.ref))/\j9 H6 bs (Q1 (laid.take j) ways++(ways.take k).map (w9 row))/\bs.Nodup/\(∀b∈bs,H3 b=none)/\W∉bs/\Kp H3 H6)
         ⟨bs0,v6,v7,v8,rfl,h5W,by rw[dz5,ed1,du0];exact rowsB0,bnd0,bfr0,Wb0,k5⟩ (fun k σ H6 _ zz=>by obtain ⟨_,_,_,_,_,_,_,_,_,_,kk⟩:=zz;exact g9.of ((k3.trans kk).lst hcu)) ?_ ?_⟩
       · rintro k y σ H6 hk ⟨bs,v6,v7,v8,rfl,h6W,rowsB,bnd,bfr,Wb,k6⟩
         obtain ⟨u,hu,rfl⟩:∃t,us[k]? =some t/\y=V.ref t:=by
           rw[ds0] at hk
           cases e:us[k]? with
           |none=>rw[e] at hk;cases hk
           |some a=>rw[e] at hk;exact ⟨a,rfl,(Option.some.inj hk).symm⟩
         obtain ⟨es,hes,tu⟩:=atu.get hu;obtain ⟨knd,kbd⟩:=kw es (ds4 hes);refine ⟨_,rfl,t,_,rfl,.inl (g9.of (k6.lst h3t)),fun to hto=> ?_⟩;have s7:c9 H6 (c8 H6 to (.lst (row.map V.int))):=c9.upd_new hto;have h7t:(c8 H6 to (.lst (row.map V.int))) to=some (.lst (row.map V.int)):=c7;generalize (c8 H6 to (.lst (row.map V.int)))=H7 at s7 h7t ⊢;have k67:Kp H6 H7:=Kp.of s7;have tu7:ao6 H7 u es:=k67.tab u es (k6.tab u es (k3.tab u es tu));refine ⟨_,rfl,u,J6 es,rfl,?_⟩;refine tu7.elim (fun h=> .inl ⟨h,fun o=> ?_⟩) (fun ⟨o,h⟩=> .inr ⟨o,h,?_⟩)
         all_goals
           first
             |(have h8u:(c8 H7 u (.frz o (.dK (J6 es)))) u=some (.frz o (.dK (J6 es))):=c7
               have k68:=k67.trans (Kp.freeze (o:=o) h);have h8t:=(Kp.freeze (o:=o) h).lst h7t
               generalize (c8 H7 u (.frz o (.dK (J6 es))))=H8 at h8u k68 h8t ⊢)
             |(have h8u:=h
               have k68:=k67;have h8t:=h7t
               generalize H7=H8 at h8u k68 h8t ⊢)
           have nut:u≠to:=fun z=>by rw[z,h8t] at h8u;cases h8u
           refine am2 (fun q σ H9=>∃(v8:Option V),σ=[some (.ref a),some (.ref ch),some (.ref F),some (.ref c),some (.ref W),some (.ref t),some (.ref u),some (.ref to),v8]/\H9 to=some (.lst ((w9 row (es.take q)).map V.int))/\H9 u=some (.frz o (.dK (J6 es)))/\Kp H6 H9)
             ⟨v8,rfl,h8t,h8u,k68⟩ (fun q σ H9 _ ⟨_,_,_,e,_⟩=>e) ?_ ?_
           · rintro q kk vv σ H9 hq ⟨v8,rfl,h9t,h9u,k9⟩;unfold J6 at hq;rw[ds0] at hq
             cases hE:es[q]? with
             |none=>rw[hE] at hq;cases hq
             |some e=>
              rw[hE] at hq;cases hq;have eb:=kbd e (ds4 hE);refine ⟨_,rfl,_,rfl,u,.int e.2,rfl,.inl ⟨J6 es,Sum.inl e.1,.inr ⟨o,h9u⟩,rfl,(cc5 knd hE).symm⟩,?_⟩;refine ⟨_,rfl,_,rfl,to,_,_,e.1.toNat,rfl,rfl,h9t,?_,?_⟩
              · unfold ixN;rw[dr6,X8,if_pos eb.1,if_pos (by omega)]
              · refine ⟨_,rfl,?_,by rw[g7 nut];exact h9u,k9.upd_r hto⟩;rw[c7,i9 hE,bz0,eh7]
           · rintro σ H9 ⟨v8,rfl,h9t,h9u,k9⟩;rw[show (J6 es).length=es.length by unfold J6;rw[dr6],du1] at h9t;have h9W:=k9.lst h6W
             have lb:bs.length<=2000:=by
               have:=rowsB.1;rw[ds6,dr6,dt3] at this;unfold Q1 at this fewi;omega
             refine ⟨_,rfl,.inl ⟨rfl,_,g9.of h9W⟩,_,rfl,W,_,_,rfl,rfl,h9W,dw0 (show _<=2000 by rw[dr6];omega) (by decide),?_⟩;have nWt:W≠to:=g8 h6W hto;have k9':Kp H3 (c8 H9 W (.lst (bs.map V.ref++[V.ref to]))):=(k6.trans k9).upd_r hW
             have r9:j9 (c8 H9 W (.lst (bs.map V.ref++[V.ref to]))) (bs++[to]) ((Q1 (laid.take j) ways++(ways.take k).map (w9 row))++[w9 row es]):=by
               refine M8 (m9 (k9.rows rowsB) fun b hb v e=> ?_) (by rw[g7 nWt.symm];exact h9t);rw[g7 (show b≠W from fun z=>Wb (z▸hb))];exact e
             refine ⟨bs++[to],_,_,_,rfl,by rw[c7,ds5];rfl,?_,?_,fun b hb=> ?_,fun z=> ?_,k9'⟩
             · have eb:(ways.take (k+1)).map (w9 row)=(ways.take k).map (w9 row)++[w9 row es]:=by rw[i9 hes,ds5];rfl
               rw[eb,<-dt5];exact r9
             · rw[dw4];refine ⟨bnd,by simp,fun x hx z hz e=> ?_⟩;rw[ds8.mp hz] at e;obtain ⟨r,hr⟩:=Z9 rowsB hx;rw[e,hto] at hr;cases hr
             · rcases dt1.mp hb with z|z
               · exact bfr b z
               · rw[ds8.mp z];exact k6.fr to hto
             · rcases dt1.mp z with z|z
               · exact Wb z
               · exact nWt (ds8.mp z)
       · rintro σ H6 ⟨bs,v6,v7,v8,rfl,h6W,rowsB,bnd,bfr,Wb,k6⟩;refine ⟨bs,_,v6,v7,v8,rfl,h6W,?_,bnd,bfr,Wb,k6⟩;rw[dr6,atu.1,du1] at rowsB
         have e:Q1 (laid.take (j+1)) ways=Q1 (laid.take j) ways++ways.map (w9 row):=by
           unfold Q1;rw[i9 hrow,dy6,dw8,eb3,du0]
         rw[e];exact rowsB
     · rintro σ H5 ⟨bs,v5,v6,v7,v8,rfl,h5W,rowsB,bnd,bfr,Wb,k5⟩;rw[dr6,rows.1,du1] at rowsB;exact ⟨_,rfl,W,bs,_,_,_,_,_,_,rfl,h5W,rowsB,bnd,fun b hb=>k3.fr b (bfr b hb),k3.trans k5⟩
   · rintro σ H3 ⟨F,ts,v3,v4,v5,v6,v7,v8,rfl,h3F,rows,tnd,tfr,k3⟩;rw[dr6,atc.1,du1] at rows;refine ⟨_,rfl,F,ts,_,rfl,g9.of h3F,rows,fun bs rs o pb pr rowsB srt ho=> ?_⟩;have s4:c9 H3 (c8 H3 o (.lst (bs.map V.ref))):=c9.upd_new ho;refine q o bs rs _ (k3.fr o ho) c7 (m9 rowsB fun b _ u e=>s4 _ _ e) pr srt (pb.nodup_iff.mpr tnd) (fun b hb=>tfr b (pb.mem_iff.mp hb)) (fun z=> ?_) (k3.trans (Kp.of s4));obtain ⟨r,hr⟩:=Z9 rowsB z;rw[ho] at hr;cases hr
end
end My
namespace My
open PySem L2 Mth
section
theorem bl6 {β:Type}(g:Nat->List β):∀ds:List Nat,(ds.flatMap g).length=ai4 ds fun d=>(g d).length
 |[]=>rfl
 |d::ds=>by rw[dw8,ds6,bl6 g ds,W6]
theorem bi2 {f:Nat->Nat}:∀{ds:List Nat} {d:Nat},d∈ds->f d<=ai4 ds f
 |x::ds,d,h=>by
  rw[W6]
  rcases dt8.mp h with rfl|h
  · omega
  · have:=bi2 (f:=f) h;omega
theorem bl7 {f:Nat->Nat}:∀{ds:List Nat},ai4 ds f≠0->∃d∈ds,f d≠0
 |[],h=>absurd rfl h
 |x::ds,h=>by
  rw[W6] at h
  by_cases c:f x=0
  · obtain ⟨d,hd,e⟩:=bl7 (f:=f) (ds:=ds) (by omega);exact ⟨d,ds3 _ hd,e⟩
  · exact ⟨x,ds1,c⟩
theorem ai6 {n l:Nat}(l1:1<=l):∀k,k < n->1<=A1 n l k
 |0,_=>dr9 _
 |k+1,h=>by
  show 1<=A1 n l k*(n - (k+1))*l;exact ec3 (ec3 (ai6 l1 k (by omega)) (by omega)) l1
theorem at3 {n l:Nat}(l1:1<=l)(k:Nat):∀j,k+j < n->A1 n l k<=A1 n l (k+j)
 |0,_=>dr9 _
 |j+1,h=>by
  refine dt4 (at3 l1 k j (by omega)) ?_;show A1 n l (k+j)<=A1 n l (k+j)*(n - (k+j+1))*l;rw[dz0];exact dx4 _ (ec3 (by omega) l1)
theorem ba7 {l:Nat}{ds:List Nat}(hd:∀d∈ds,1<=d):∀(f:Nat) {rs:List (List Int)},rs.length<=f->(∀r∈rs,r.length=l)->(C1 ds f rs).length=jf l ds rs.length
 |0,rs,hf,_=>by rw[show rs.length=0 by omega];rfl
 |f+1,rs,hf,hl=>by
  show (if rs.length=0 then [[]] else ds.flatMap (T7 (C1 ds f) rs)).length=_
  by_cases c:rs.length=0
  · rw[if_pos c,c];rfl
  · rw[if_neg c,bl6,(bp4 (l:=l) hd).2 rs.length (by omega)]
    refine ao2 fun d hdm=> ?_
    have d1:=hd d hdm;unfold T7
    by_cases c2:d<=rs.length
    · rw[if_pos c2,if_pos c2,aa1 (c:=jf l ds (rs.length - d)) fun x hx=> ?_,ao4 hl (d - 1) (by omega)];have o:=G6 hl (d - 1) (by omega) hx;rw[dr6,ba7 hd f (by have:=o.left;omega) fun r hr=>hl r (o.rows2 r hr)]
      congr 1
      have:=o.left;omega
    · rw[if_neg c2,if_neg c2];rfl
structure cg4 (ds:List Nat)(N d0:Nat):Prop where
 pos:1<=d0
 one:∀d∈ds,1<=d
 all:∀d∈ds,d0∣d
 in_:d0<=N->d0∈ds
theorem co0 {l N d0:Nat}{ds:List Nat}(b:cg4 ds N d0)(l1:1<=l):∀q,d0*q<=N->1<=jf l ds (d0*q)
 |0,_=>dr9 _
 |q+1,h=>by
  have p:=b.pos;have e:d0*(q+1)=d0*q+d0:=el9 _ _;rw[(bp4 (l:=l) b.one).2 (d0*(q+1)) (by omega)];refine dt4 ?_ (bi2 (b.in_ (by omega)));rw[if_pos (by omega),show d0*(q+1) - d0=d0*q by omega];exact ec3 (ai6 l1 _ (by omega)) (co0 b l1 q (by omega))
theorem co1 {l N d0:Nat}{ds:List Nat}(b:cg4 ds N d0):∀(g n:Nat),n<=g->jf l ds n≠0->d0∣n
 |0,n,h,_=>by rw[show n=0 by omega];exact Nat.dvd_zero _
 |g+1,n,h,z=>by
  by_cases c:n=0
  · rw[c];exact Nat.dvd_zero _
  · rw[(bp4 (l:=l) b.one).2 n (by omega)] at z;obtain ⟨d,hd,e⟩:=bl7 z;have d1:=b.one d hd
    by_cases c2:d<=n
    · rw[if_pos c2] at e;have:=co1 b g (n - d) (by omega) (fun y=>e (by rw[y,eh6]));have e2:=Nat.dvd_add this (b.all d hd);rw[ec7 c2] at e2;exact e2
    · rw[if_neg c2] at e;exact absurd rfl e
theorem co2 {l N d0:Nat}{ds:List Nat}(b:cg4 ds N d0)(l1:1<=l):∀(f:Nat) {rs:List (List Int)},rs.length<=f->rs.length<=N->(∀r∈rs,r.length=l)->d0∣rs.length->jf l ds rs.length<=2000->Few ds f rs
 |0,rs,_,_,_,_,_=>trivial
 |f+1,rs,hf,hN,hl,dv,le=>by
  refine ⟨fun d hd hdn=> ?_,by rw[ba7 b.one (f+1) hf hl];exact le⟩;have d1:=b.one d hd;obtain ⟨q,hq⟩:=Nat.dvd_sub dv (b.all d hd)
  have jp:1<=jf l ds (rs.length - d):=by rw[hq];exact co0 b l1 q (by omega)
  have t1:A1 rs.length l (d - 1)*jf l ds (rs.length - d)<=jf l ds rs.length:=by
    rw[(bp4 (l:=l) b.one).2 rs.length (by omega)];have:=bi2 (f:=fun d=>if d<=rs.length then A1 rs.length l (d - 1)*jf l ds (rs.length - d) else 0) hd;rw[if_pos hdn] at this;exact this
  have t2:A1 rs.length l (d - 1)<=jf l ds rs.length:=dt4 (dx4 _ jp) t1;have t3:jf l ds (rs.length - d)<=jf l ds rs.length:=dt4 (eg3 _ (ai6 l1 (d - 1) (by omega))) t1;refine ⟨fun k hk=> ?_,fun x hx=> ?_⟩
  · rw[ao4 hl k (by omega)];have:=at3 l1 k (d - 1 - k) (n:=rs.length) (by omega);rw[show k+(d - 1 - k)=d - 1 by omega] at this;omega
  · have o:=G6 hl (d - 1) (by omega) hx
    have e:x.2.length=rs.length - d:=by have:=o.left;omega
    exact co2 b l1 f (by omega) (by omega) (fun r hr=>hl r (o.rows2 r hr)) (by rw[e];exact Nat.dvd_sub dv (b.all d hd)) (by rw[e];omega)
end
end My
namespace My
open PySem L2 Mth
section
variable {P:Program} {w:World} {K:PySem.W.Frag} {mg:Str->Option Value} {base:Heap}
theorem cx7 {l m:Nat}(hm:0 < m):∀(n d:Nat),ah5 l m d->m - d<=n->∃d,br8 l m d
 |0,d,u,h=>by
  by_cases z:dw5 l (m/d)=1
  · exact ⟨d,u.done z⟩
  · have:=u.more hm z;omega
 |n+1,d,u,h=>by
  by_cases z:dw5 l (m/d)=1
  · exact ⟨d,u.done z⟩
  · have:=u.more hm z;exact cx7 hm n _ (u.step hm) (by omega)
theorem dc8 {l m:Nat}(hm:0 < m):∃d,br8 l m d:=cx7 hm (m - 1) 1 (.start l m) (dr9 _)
theorem S9 {l m n d:Nat}(h:d∈x9 l m n):O4 l m d:=by
 refine ⟨(K0 h).1,?_⟩;unfold x9 at h;exact of_decide_eq_true (du4.mp h).2
theorem aw6 {l m n:Nat}(m1:1<=m):∃d0,cg4 (x9 l m n) n d0:=by
 obtain ⟨d0,h⟩:=dc8 (l:=l) m1;have p:=h.pos m1;refine ⟨d0,p,fun d hd=>(K0 hd).1,fun d hd=> ?_,fun hn=> ?_⟩
 · have r:=S9 hd;obtain ⟨a,b⟩:=(bk6 r.1).mp r.2;exact h.least d a b
 · unfold x9;refine du4.mpr ⟨ds9.mpr ⟨d0 - 1,dv6.mpr (by omega),by omega⟩,decide_eq_true ((bk6 p).mpr ⟨h.parts,h.rest⟩)⟩
theorem bv0 {l m:Nat}(l0:0 < l)(m1:1<=m):∀(w:List (List (List Int))),(∀c∈w,O4 l m c.length)->(w.map eg7).flatten.Nodup->((Q4 l m w).map (·.1)).Nodup
 |[],_,_=>dx7
 |c::w,h,nd=>by
  rw[dw3,dv5,dw4] at nd;have i:=bv0 l0 m1 w (fun c hc=>h c (ds3 _ hc)) nd.2.1
  have e:Q4 l m (c::w)=E6 (D8 l m c)++Q4 l m w:=by unfold Q4;rw[dw8]
  rw[e,ds5,ao5,dw4];refine ⟨?_,i,fun x hx y hy z=> ?_⟩
  · unfold D8
    by_cases ex:∃J,G3 l (m/c.length) c J
    · rw[dif_pos ex];obtain ⟨k,e1,e2⟩:=(h c ds1).parts m1
      have ek:m/c.length=k:=by rw[e1];exact dy0 k (h c ds1).1
      exact ((Classical.choose_spec ex).perm l0 (by rw[ek];exact e2)).nodup_iff.mpr nd.1
    · rw[dif_neg ex];exact dx7
  · exact nd.2.2 x ((bl4 l0 m1 (h c ds1)).1 x hx) y ((af9 l0 m1 w fun c hc=>h c (ds3 _ hc)).1 y hy) z
noncomputable def chF (rs:List (List Int))(m l:Nat):List (List (Int×Int)):=(C1 (x9 l m (o4 rs l)) 40 (p7 rs l)).map (Q4 l m)
theorem C8 {rs:List (List Int)}{l:Nat}{r:List Int}(h:r∈p7 rs l):r∈rs/\r.length=l:=by
 unfold p7 at h;obtain ⟨a,b⟩:=du4.mp h;exact ⟨a,of_decide_eq_true b⟩
theorem at4 (f:List Int->Bool):∀rs:List (List Int),((rs.filter f).flatten).Sublist rs.flatten
 |[]=>List.Sublist.refl _
 |r::rs=>by
  by_cases c:f r=true
  · rw[ea0 c,dv5,dv5];exact (at4 f rs).append_left r
  · rw[ea1 c,dv5];exact (at4 f rs).trans (List.sublist_append_right _ _)
theorem G8 (rs:List (List Int))(l:Nat):(p7 rs l).flatten.Sublist rs.flatten:=at4 _ rs
theorem rsb {p:List Int}(tp:j7 p){i:Nat}{rs:List (List Int)}(up:y8 p i rs):∀r∈rs,1<=r.length/\r.length<=p.length:=fun r hr=>by
 obtain ⟨y,L,hy,pr,er,_⟩:=up.ring r hr
 have b:=L8 tp hy (m:=L) fun i i0 i1=>pr.least i i0 i1
 have:=pr.pos;rw[er,n6];omega
theorem cc6 {rs:List (List Int)}{m l:Nat}(h:(p7 rs l).length<=40):(chF rs m l).length=D6 l m (o4 rs l):=by
 unfold chF;rw[dr6,ba7 (l:=l) (fun d hd=>(K0 hd).1) 40 h fun r hr=>(C8 hr).2,av8];rfl
theorem cu7 (laid:List (List Int))(c:List (List (Int×Int))):(Q1 laid c).length=laid.length*c.length:=by
 unfold Q1
 exact aa1 fun t _=>by rw[dr6]
theorem T0 (p:List Int)(f:Nat->List (List (Int×Int)))(g:Nat->Nat):∀n (ks:List Nat),ks.length<=n->(∀k∈ks,(f k).length=g k)->(K1 p (ks.map f)).length=o7 g ks
 |0,ks,h,_=>by
  obtain rfl:ks=[]:=ef6.mp (by omega);rfl
 |n+1,ks,h,hf=>by
  by_cases c:ks=[]
  · rw[c];rfl
  · have e:=(List.dropLast_concat_getLast c).symm;have hx:ks.getLast c∈ks:=List.getLast_mem c;generalize ks.getLast c=x at e hx
    have hd:∀k∈ks.dropLast,k∈ks:=fun k hk=>by rw[e];exact dx3 _ hk
    have hl:ks.dropLast.length<=n:=by rw[List.length_dropLast];omega
    generalize ks.dropLast=ks' at e hd hl;rw[e,ds5,show [x].map f=[f x] from rfl,be7,cu7,am3,T0 p f g n ks' hl (fun k hk=>hf k (hd k hk)),hf x hx]
theorem bv1 {g:Nat->Nat}:∀{ks:List Nat},o7 g ks≠0->∀k∈ks,1<=g k
 |x::ks,h,k,hk=>by
  have h:g x*o7 g ks≠0:=h
  have a:g x≠0:=fun z=>h (by rw[z,ed9])
  have b:o7 g ks≠0:=fun z=>h (by rw[z,eh6])
  rcases dt8.mp hk with rfl|hk
  · omega
  · exact bv1 b k hk
theorem ba8 {g:Nat->Nat}:∀{ks:List Nat},(∀k∈ks,1<=g k)->1<=o7 g ks
 |[],_=>dr9 _
 |x::ks,h=>ec3 (h x ds1) (ba8 fun k hk=>h k (ds3 _ hk))
theorem cc7 {g:Nat->Nat}{ks:List Nat}(h:∀k∈ks,1<=g k){k:Nat}(hk:k∈ks):g k<=o7 g ks:=by
 induction ks with
 |nil=>cases hk
 |cons x ks ih=>
  show g k<=g x*o7 g ks
  rcases dt8.mp hk with rfl|hk
  · exact dx4 _ (ba8 fun k hk=>h k (ds3 _ hk))
  · exact dt4 (ih (fun k hk=>h k (ds3 _ hk)) hk) (eg3 _ (h x ds1))
theorem bl9 {g:Nat->Nat}{ks:List Nat}(h:∀k∈ks,1<=g k)(i:Nat):o7 g (ks.take i)<=o7 g ks:=by
 have e:=ar3 g (ks.take i) (ks.drop i);rw[dx0] at e;rw[e];exact dx4 _ (ba8 fun k hk=>h k (ee5 hk))
def be8:Sp:=fun vs H Q _=>∃n:Int,vs=[.int n]/\n<=2000/\Q .non H
theorem bi3:m8 ["many"] ["many"] (j6 ac2):=by rfl'
theorem bi4 {f:Addr}{fd:FuncData}(F:A9 K "must_be_few" "must_be_few" ac2 f fd)(zjx:∃t,mg "MOST_TOLD"=some (.int 2000 t)):p6 P w K mg base A8 1 f fd ["many"] be8:=by
 refine F.ok bi3 (fun vs H Q E h=> ?_) (fun cdv A outer s H vs Q E hr h=> ?_)
 · obtain ⟨n,rfl,hn,q⟩:=h;rfl
 · obtain ⟨n,rfl,hn,q⟩:=h;obtain ⟨_,zey⟩:=zjx;refine ⟨_,@g6 _ _ _ (@C3 _ _ _ _ _ _ _ _ (@p8 _ _ _ _ _ _ _ _ bo4 (pv 0) (@bf9 _ _ (.int 2000) _ _ (by rfl) zey ⟨_,rfl⟩ (by decide)) (w5 _)) (@g6 _ _ _ (@ae5 _ _)) (@y7 _)),?_⟩;refine ⟨_,rfl,_,_,rfl,rfl,_,rfl,?_⟩;rw[decide_eq_false (show ¬(2000:Int) < n by omega)];exact M4 q
structure ag0 (p:List Int)(m:Nat)(ts:List (List Int)):Prop where
 len:ts.length=ac4 p m
 srt:ts.Pairwise (fun r r'=>HT.av2 r' r=false)
 src:ac4 p m=0\/∃ks:List Nat,ks.Nodup/\(∀k∈ks,∃r∈i4 p p.length,r.length=k)/\(∀r∈i4 p p.length,r.length∈ks)/\ts.Perm (K1 p (ks.map (chF (i4 p p.length) m)))
def bv2 (H:Hp)(c:Addr)(ways:List (List (Int×Int))):Prop:=∃us,H c=some (.lst (us.map V.ref))/\D2 (ao6 H) us ways
theorem bv2.keep {H H':Hp}{c:Addr}{ways:List (List (Int×Int))}(h:bv2 H c ways)(s:c9 H H'):bv2 H' c ways:=by
 obtain ⟨us,a,b⟩:=h;exact ⟨us,s _ _ a,b.imp fun u es _ e=>(Kp.of s).tab u es e⟩
def be9:Sp:=fun vs H Q _=>∃(a:Addr) (p:List Int) (m:Nat),vs=[.ref a,.int (m:Int)]/\B9 H a p/\1<=m/\ac4 p m<=2000/\∀(o:Addr) (bs:List Addr) (ts:List (List Int)) (H':Hp),H o=none->H' o=some (.lst (bs.map V.ref))->j9 H' bs ts->ag0 p m ts->bs.Nodup->(∀b∈bs,H b=none)->o∉bs->Kp H H'->Q (.ref o) H'
theorem O5:m8 ["p","m","many","by_length","choices","length","rings"] ["p","m"] (j6 ai1):=by rfl'
theorem bv3 {f:Addr}{fd:FuncData}(F:A9 K "all_roots" "all_roots" ai1 f fd)(B:Bl mg)(zzx:l8 P w K mg base "how_many_roots" 4 ["p","m"] as7)(zuy:l8 P w K mg base "must_be_few" 1 ["many"] be8)(zzz:l8 P w K mg base "sort_by_length" 1 ["rings"] ad7)(zzy:l8 P w K mg base "walk_rings" 2 ["p"] O1)(zsx:l8 P w K mg base "ways_to_join" 43 ["rings","right","m"] (ak4 40))(zwy:l8 P w K mg base "right_numbers" 2 ["length","m","most"] ao0)(zwx:l8 P w K mg base "lay_every_way" 1 ["p","choices"] bp5):p6 P w K mg base A8 44 f fd ["p","m"] be9:=by
 refine F.ok O5 (fun vs H Q E h=> ?_) (fun cdv A outer s H vs Q E hr h=> ?_)
 · obtain ⟨a,p,m,rfl,⟨ha,tp,lp⟩,m1,few,q⟩:=h;rfl
 · obtain ⟨a,p,m,rfl,⟨ha,tp,lp⟩,m1,few,q⟩:=h;have zvz:m7 4 _:=hr.mono (by decide);have zl:m7 1 _:=hr.mono (by decide);have zy:m7 1 _:=hr.mono (by decide);have zv:m7 2 _:=hr.mono (by decide);have znx:m7 43 _:=hr.mono (by decide);have zoy:m7 2 _:=hr.mono (by decide);have zox:m7 1 _:=hr.mono (by decide);have hu:=T2 hr;refine ⟨_,@e8 _ _ _ _ _ (@i8 _ _ (2) _ _ _ _ O5.nd rfl (Or.inl rfl) (@h8 _ _ _ _ _ _ _ _ _ _ zzx zvz (@c5 _ _ _ _ _ (pv 0) (@c5 _ _ _ _ _ (pv 1) (@c6 _) (by rfl)) (by rfl)) (by rfl) (by decide) (by rfl) (by rfl)) (by rfl) (by trivial)) (@e8 _ _ _ _ _ (@w6 _ _ _ _ (@h8 _ _ _ _ _ _ _ _ _ _ zuy zl (@c5 _ _ _ _ _ (pv 2) (@c6 _) (by rfl)) (by rfl) (by decide) (by rfl) (by rfl)) (by rfl)) (@e8 _ _ _ _ _ (@C3 _ _ _ _ _ _ _ _ (@p8 _ _ _ _ _ _ _ _ U5 (pv 2) (@i6 _ _ _ _) (w5 _)) (@g6 _ _ _ (@l9 _ _ _ _ (@p5 _ _ _ _ (@c6 _)))) (@y7 _)) (@e8 _ _ _ _ _ (@i8 _ _ (3) _ _ _ _ O5.nd rfl (Or.inl rfl) (@h8 _ _ _ _ _ _ _ _ _ _ zzz zy (@c5 _ _ _ _ _ (@h8 _ _ _ _ _ _ _ _ _ _ zzy zv (@c5 _ _ _ _ _ (pv 0) (@c6 _) (by rfl)) (by rfl) (by decide) (by rfl) (by rfl)) (@c6 _) (by rfl)) (by rfl) (by decide) (by rfl) (by rfl)) (by rfl) (by trivial)) (@e8 _ _ _ _ _ (@i8 _ _ (4) _ _ _ _ O5.nd rfl (Or.inl rfl) (@p5 _ _ _ _ (@c6 _)) (by rfl) (by trivial)) (@e8 _ _ _ _ _ (@n9 _ _ _ _ _ _ _ _ PassesOwn.never rfl (@av6 _ _ _ _ (pv 3)) (@i7 _ _ (5) _ O5.nd rfl (Or.inl rfl) (by trivial)) (@e8 _ _ _ _ _ (@i8 _ _ (6) _ _ _ _ O5.nd rfl (Or.inl rfl) (@ad3 _ _ _ _ _ _ hu (pv 3) (pv 5) (fun _ _=>rfl)) (by rfl) (by trivial)) (@g6 _ _ _ (@w6 _ _ _ _ (@B0 _ _ _ _ _ _ _ (pv 4) (@c5 _ _ _ _ _ (@h8 _ _ _ _ _ _ _ _ _ _ zsx znx (@c5 _ _ _ _ _ (pv 6) (@c5 _ _ _ _ _ (@h8 _ _ _ _ _ _ _ _ _ _ zwy zoy (@c5 _ _ _ _ _ (pv 5) (@c5 _ _ _ _ _ (pv 1) (@c5 _ _ _ _ _ (@p9 _ _ _ _ _ B.len (@c5 _ _ _ _ _ (pv 6) (@c6 _) (by rfl)) (by rfl) (by rfl)) (@c6 _) (by rfl)) (by rfl)) (by rfl)) (by rfl) (by decide) (by rfl) (by rfl)) (@c5 _ _ _ _ _ (pv 1) (@c6 _) (by rfl)) (by rfl)) (by rfl)) (by rfl) (by decide) (by rfl) (by rfl)) (@c6 _) (by rfl)) (by rfl) (by rfl) (by rfl) (by rfl) (by rfl)) (by rfl)))) (by intro _;rfl)) (@g6 _ _ _ (@l9 _ _ _ _ (@h8 _ _ _ _ _ _ _ _ _ _ zwx zox (@c5 _ _ _ _ _ (pv 0) (@c5 _ _ _ _ _ (pv 4) (@c6 _) (by rfl)) (by rfl)) (by rfl) (by decide) (by rfl) (by rfl))))))))),?_⟩;refine ⟨_,rfl,_,rfl,a,p,m,rfl,⟨ha,tp,lp⟩,m1,fun H1 s1=> ?_⟩;refine ⟨_,rfl,_,rfl,by omega,?_⟩;refine ⟨_,rfl,rfl,_,rfl,?_⟩
   by_cases z0:ac4 p m=0
   · rw[decide_eq_true (by rw[z0];rfl)];refine ah2 ⟨du2 _,fun o ho=> ?_⟩;exact q o [] [] _ (s1.free ho) c7 ⟨rfl,fun j b r h=>by cases h⟩ ⟨by rw[z0];rfl,List.Pairwise.nil,.inl z0⟩ dx7 (fun b hb=>by cases hb) (fun z=>by cases z) (Kp.of (s1.trans (c9.upd_new ho)))
   rw[decide_eq_false (fun z=>z0 (by have:=V.int.inj z;omega))];refine M4 ?_;refine ⟨_,rfl,a,p,rfl,⟨s1 a _ ha,tp,lp⟩,fun l as rs H2 hl s12 h2l rows up fa nda nla=> ?_⟩;have cl:=aa0 up;have fl:=S5 tp up;have ers:rs=i4 p p.length:=up.eq;refine ⟨l,as,rs,rfl,h2l,rows,by omega,fun d es H3 hd s23 h3d bl les fre=> ?_⟩;refine ⟨du2 _,fun C hC=> ?_⟩;have s4:c9 H3 (c8 H3 C (.lst [])):=c9.upd_new hC;have h4C:(c8 H3 C (.lst [])) C=some (.lst (([]:List Addr).map V.ref)):=c7;generalize (c8 H3 C (.lst []))=H4 at s4 h4C ⊢;have hC2:H2 C=none:=s23.free hC;have ndC:d≠C:=g8 h3d hC;refine ⟨_,rfl,d,o6 es,rfl,s4 _ _ h3d,fun o=> ?_⟩;have sB:c9 H2 (c8 H4 d (.frz o (.dK (o6 es)))):=(s23.trans s4).upd_r hd;have hBd:(c8 H4 d (.frz o (.dK (o6 es)))) d=some (.frz o (.dK (o6 es))):=c7
   have kpB:∀c,c≠d->(c8 H4 d (.frz o (.dK (o6 es)))) c=H4 c:=fun c hc=>g7 hc
   have hBC:(c8 H4 d (.frz o (.dK (o6 es)))) C=some (.lst (([]:List Addr).map V.ref)):=by rw[g7 ndC.symm];exact h4C
   generalize (c8 H4 d (.frz o (.dK (o6 es))))=HB at sB hBd kpB hBC ⊢
   have lkv:(o6 es).length=es.length:=by unfold o6;rw[dr6]
   have hprod:o7 (fun l=>D6 l m (o4 rs l)) (es.map (·.1))=ac4 p m:=by
     rw[as6 tp up bl.nk bl.key bl.all (f:=fun l=>D6 l m (o4 rs l)) fun u hu=>by show D6 u m (o4 rs u)=1;rw[hu];rfl,ers];rfl
   have pos:=bv1 (g:=fun l=>D6 l m (o4 rs l)) (ks:=es.map (·.1)) (by rw[hprod];exact z0)
   have fl40:∀k∈es.map (·.1),0 < k/\(p7 rs k).length*k<=40/\(p7 rs k).length<=40/\k<=40:=fun k hk=>by
     obtain ⟨r,hr,lr⟩:=bl.key k hk;have rb:=rsb tp up r hr
     have e1:=S8 (l:=k) (rs:=p7 rs k) fun r hr=>(C8 hr).2
     have e2:=(G8 rs k).length_le
     have k1:0 < k:=by omega
     have e3:(p7 rs k).length*k<=40:=by rw[<-e1];omega
     exact ⟨k1,e3,dt4 (dx4 _ k1) e3,by omega⟩
   have s02:c9 H H2:=s1.trans s12
   refine am2 (fun i σ H6=>∃(cs:List Addr) (v5 v6:Option V),σ=[some (.ref a),some (.int (m:Int)),some (.int ((ac4 p m:Nat):Int)),some (.ref d),some (.ref C),v5,v6]/\H6 C=some (.lst (cs.map V.ref))/\D2 (bv2 (L9 H6 [C])) cs (((es.take i).map (·.1)).map (chF rs m))/\j5 C HB H6)
     ⟨[],none,none,rfl,hBC,D2.nil,j5.refl _ _⟩ (fun i σ H6 _ ⟨_,_,_,_,_,_,k⟩=>k _ _ hBd ndC) ?_ ?_
   · rintro i k v σ H6 hi ⟨cs,v5,v6,rfl,h6C,atc,kb6⟩;unfold o6 at hi;rw[ds0] at hi
     cases hE:es[i]? with
     |none=>rw[hE] at hi;cases hi
     |some e=>
      rw[hE] at hi;cases hi;have he:=ds4 hE;have hek:e.1∈es.map (·.1):=ds9.mpr ⟨e,he,rfl⟩;have il:i < es.length:=(dr7.mp hE).1;obtain ⟨k1,k2,k3,k4⟩:=fl40 e.1 hek;obtain ⟨bs,hbs,rbs⟩:=bl.row e he;have neC:e.2≠C:=g8 hbs hC;have h6e:H6 e.2=some (.lst (bs.map V.ref)):=kb6 _ _ (by rw[kpB _ (bl.nd e he)];exact s4 _ _ hbs) neC;have h6d:=kb6 _ _ hBd ndC;have s26:c9 H2 H6:=sB.kb kb6 hC2
      have lbs:bs.length=o4 rs e.1:=by rw[rbs.1,av8]
      have ecnt:=av8 rs e.1;refine ⟨_,rfl,_,rfl,d,.ref e.2,rfl,.inl ⟨o6 es,Sum.inl (e.1:Int),.inr ⟨o,h6d⟩,rfl,(as4 bl.nk he).symm⟩,?_⟩;refine ⟨_,rfl,.inl ⟨rfl,_,g9.of h6C⟩,_,rfl,_,rfl,_,rfl,_,rfl,e.2,_,rfl,.inl (g9.of h6e),e.1,m,o4 rs e.1,by rw[dr6,lbs];rfl,by omega,by omega,fun ra H7 hra s7 h7ra=> ?_⟩;obtain ⟨d0,bas⟩:=aw6 (l:=e.1) (m:=m) (n:=o4 rs e.1) m1
      have jle:jf e.1 (x9 e.1 m (o4 rs e.1)) (p7 rs e.1).length<=2000:=by
        rw[ecnt];refine dt4 (show D6 e.1 m (o4 rs e.1)<=_ from cc7 (g:=fun l=>D6 l m (o4 rs l)) pos hek) ?_;rw[hprod];exact few
      have jne:jf e.1 (x9 e.1 m (o4 rs e.1)) (p7 rs e.1).length≠0:=by
        rw[ecnt];have:1<=D6 e.1 m (o4 rs e.1):=pos e.1 hek;intro y;have y:D6 e.1 m (o4 rs e.1)=0:=y;omega
      have fw:=co2 (l:=e.1) bas k1 40 k3 (eg6 ecnt) (fun r hr=>(C8 hr).2) (co1 bas _ _ (dr9 _) jne) jle;refine ⟨_,rfl,e.2,bs,p7 rs e.1,ra,x9 e.1 m (o4 rs e.1),e.1,m,rfl,s7 _ _ h6e,m9 rbs fun b _ u x=>s7 _ _ (s26 _ _ x),h7ra,k3,fun r hr=>(C8 hr).2,k1,k2,(G8 rs e.1).nodup up.nd,m1,fun d hd=>S9 hd,fw,fun oo us H8 hoo s8 h8o und ufr atw=> ?_⟩;have s68:=s7.trans s8
      have lcs:cs.length<=40:=by
        have:=atc.1;rw[dr6,dr6,dt3] at this;omega
      have h7C:=s7 _ _ h6C;refine ⟨C,_,_,rfl,rfl,s68 _ _ h6C,t6 (by rw[dr6];omega),?_⟩;rw[show cs.map V.ref++[V.ref oo]=(cs++[oo]).map V.ref by rw[ds5];rfl];refine ⟨cs++[oo],_,_,rfl,c7,?_,(kb6.trans (s68.but C)).upd_a⟩;rw[bi1 ds1,i9 hE,ds5,ds5];refine D2.snoc (atc.imp fun c ways _ h=>h.keep (G4 s68)) ?_
      have nC:∀u,H7 u=none->u∉[C]:=fun u hu z=>by rw[ds8.mp z,h7C] at hu;cases hu
      refine ⟨us,by rw[L5 (nC oo hoo)];exact h8o,?_⟩;unfold chF;refine ⟨by rw[atw.1,dr6],fun j u x e1 e2=> ?_⟩;rw[ds0] at e2;obtain ⟨w,hw,ww⟩:=atw.get e1;rw[hw] at e2;cases e2;refine .inl ?_;rw[L5 (nC u (ufr u (ds4 e1)))];exact ww
   · rintro σ H6 ⟨cs,v5,v6,rfl,h6C,atc,kb6⟩;rw[lkv,du1] at atc;have s26:c9 H2 H6:=sB.kb kb6 hC2;have s06:=s02.trans s26
     have cntk:∀k∈es.map (·.1),(chF rs m k).length=D6 k m (o4 rs k):=fun k hk=>cc6 (fl40 k hk).2.2.1
     refine ⟨_,rfl,_,rfl,a,C,p,cs,(es.map fun (x:Nat×Addr)=>x.1).map (chF rs m),rfl,s06 _ _ ha,lp,h6C,atc.imp fun c ways _ h=>h.keep (bu4 _ _),fun ways hw x hx=> ?_,fun i=> ?_,fun oo bs ts H7 hoo h7o rowsB pr srt bnd bfr ob kp=> ?_⟩
     · obtain ⟨k,hk,rfl⟩:=ds9.mp hw;obtain ⟨k1,k2,k3,k4⟩:=fl40 k hk;obtain ⟨w,hw',rfl⟩:=ds9.mp hx;have wo:=be5 (l:=k) (m:=m) (ds:=x9 k m (o4 rs k)) (fun d hd=>(K0 hd).1) 40 k3 (fun r hr=>(C8 hr).2) hw'
       have rr:∀c∈w,O4 k m c.length:=fun c hc=>S9 (wo.right c hc).1
       have fnd:=(G8 rs k).nodup up.nd;refine ⟨bv0 k1 m1 w rr (wo.perm.nodup_iff.mpr fnd),fun e he=> ?_⟩;have em:=(af9 k1 m1 w rr).1 e.1 (ds9.mpr ⟨e,he,rfl⟩);have em:=(G8 rs k).mem (wo.perm.mem_iff.mp em);obtain ⟨r,hr,hxr⟩:=dt2.mp em;obtain ⟨y,L,hy,pr2,er,_⟩:=up.ring r hr;rw[er] at hxr;exact O9 tp hy _ hxr
     · rw[<-ee4,T0 p (chF rs m) (fun l=>D6 l m (o4 rs l)) _ _ (dr9 _) fun k hk=>cntk k (dx8 hk)];refine dt4 (bl9 pos i) ?_;rw[hprod];exact few
     · refine q oo bs ts H7 (s06.free hoo) h7o rowsB ⟨?_,srt,.inr ⟨es.map (·.1),bl.nk,by rw[<-ers];exact bl.key,by rw[<-ers];exact bl.all,by rw[<-ers];exact pr⟩⟩ bnd (fun b hb=>s06.free (bfr b hb)) ob ((Kp.of s06).trans kp);rw[pr.length_eq,T0 p (chF rs m) (fun l=>D6 l m (o4 rs l)) _ _ (dr9 _) cntk,hprod]
end
end My
namespace My
open PySem L2 Mth
section
def Rg (p:List Int)(l:Nat)(r:List Int):Prop:=∃y,In p y/\D5 p y l/\r=o5 p y l
theorem Rg.rot {p:List Int}(t:j7 p){l:Nat}{r:List Int}(h:Rg p l r)(b:Nat)(hb:b < l):Rg p l (r.drop b++r.take b):=by
 obtain ⟨y,hy,py,rfl⟩:=h;refine ⟨it p b y,G1 t hy b,py.shift t hy b,?_⟩
 refine dv3 fun i=> ?_
 have e1:∀j,(o5 p y l)[j]? =if j < l then some (it p j y) else none:=fun j=>by
   unfold o5;rw[ds0]
   by_cases c:j < l
   · rw[dv4 c,if_pos c];rfl
   · rw[ds7 (by rw[du6];omega),if_neg c];rfl
 have e2:(o5 p (it p b y) l)[i]? =if i < l then some (it p i (it p b y)) else none:=by
   unfold o5;rw[ds0]
   by_cases c:i < l
   · rw[dv4 c,if_pos c];rfl
   · rw[ds7 (by rw[du6];omega),if_neg c];rfl
 rw[e2,<-E1]
 by_cases c:i < l - b
 · rw[dv0 (by rw[dv9,n6];exact c),ec6,e1,if_pos (by omega),if_pos (by omega),ea9]
 · rw[dw6 (by rw[dv9,n6];omega),dv9,n6,eg0]
   by_cases c2:i < l
   · rw[if_pos (by omega),e1,if_pos (by omega),if_pos c2]
     have e3:i+b=(i - (l - b))+l:=by omega
     rw[e3,E1,py.back]
   · rw[if_neg (by omega),if_neg c2]
theorem aw7 {p:List Int}(t:j7 p){l:Nat}{rs:List (List Int)}(h:∀r∈rs,Rg p l r):∀(i:Nat) {y:List Int×List (List Int)},i<=rs.length->y∈A3 rs i->Rg p l y.1
 |0,y,_,z=>by cases z
 |i+1,y,hi,z=>by
  rcases dt1.mp z with z|z
  · exact aw7 t h i (by omega) z
  · obtain ⟨b,hb,rfl⟩:=ds9.mp z
    have il:i < rs.length:=by omega
    have eg:rs.getD i []=rs[i]:=by rw[ds2,dr8 il];rfl
    have hr:=h _ (dv7 il);have hb:=dv6.mp hb;show Rg p l ((rs.getD i []).drop b++(rs.getD i []).take b);rw[eg] at hb ⊢
    have hl:(rs[i]).length=l:=by
      obtain ⟨y,_,_,e⟩:=hr;rw[e,n6]
    exact hr.rot t b (by omega)
theorem Q5 {p:List Int}{l:Nat}{r:List Int}(h:Rg p l r):r.length=l:=by
 obtain ⟨y,_,_,e⟩:=h;rw[e,n6]
theorem ag1 {p:List Int}(t:j7 p){l:Nat}{rs:List (List Int)}(h:∀r∈rs,Rg p l r):∀(k:Nat) {x:List (List Int)×List (List Int)},k < rs.length->x∈y9 rs k->∀r∈x.1,Rg p l r
 |0,x,hk,z,r,hr=>by
  rw[ds8.mp z] at hr;have hr:r∈[rs.getD 0 []]:=hr;rw[ds8.mp hr,ds2,dr8 hk];exact h _ (dv7 hk)
 |k+1,x,hk,z,r,hr=>by
  obtain ⟨x',h',z⟩:=dw9.mp z;obtain ⟨y,hy,rfl⟩:=ds9.mp z;have o:=G6 (fun r hr=>Q5 (h r hr)) k (by omega) h'
  rcases dt1.mp hr with w|w
  · exact ag1 t h k (by omega) h' r w
  · rw[ds8.mp w];exact aw7 t (fun r hr=>h r (o.rows2 r hr)) _ (dr9 _) hy
theorem co3 {p:List Int}(t:j7 p){l:Nat}{ds:List Nat}(hd:∀d∈ds,1<=d):∀(f:Nat) {rs:List (List Int)} {w:List (List (List Int))},rs.length<=f->(∀r∈rs,Rg p l r)->w∈C1 ds f rs->∀c∈w,∀r∈c,Rg p l r
 |0,rs,w,hf,hl,h,c,hc=>by rw[ds8.mp h] at hc;cases hc
 |f+1,rs,w,hf,hl,h,c,hc=>by
  unfold C1 at h
  by_cases c0:rs.length=0
  · rw[if_pos c0] at h;rw[ds8.mp h] at hc;cases hc
  · rw[if_neg c0] at h;obtain ⟨d,hdm,h⟩:=dw9.mp h;unfold T7 at h
    by_cases c2:d<=rs.length
    · rw[if_pos c2] at h;obtain ⟨x,hx,h⟩:=dw9.mp h;obtain ⟨w',hw',rfl⟩:=ds9.mp h;have d1:=hd d hdm;have o:=G6 (fun r hr=>Q5 (hl r hr)) (d - 1) (by omega) hx
      rcases dt1.mp hc with z|z
      · exact co3 t hd f (by have:=o.left;omega) (fun r hr=>hl r (o.rows2 r hr)) hw' c z
      · rw[ds8.mp z];exact ag1 t hl (d - 1) (by omega) hx
    · rw[if_neg c2] at h;cases h
theorem co4 {l k:Nat}(l0:0 < l)(c:dw5 l k=1){Rs:List (List Int)}(h:∀r∈Rs,r.length=l):∃J,G3 l k Rs J:=by
 have it_:=am4 (d:=Rs.length) l0 c;have pl:=Z3 Rs.length l k;have fl:=S8 h;refine ⟨(du8 (Rs.length*l)).map fun (i:Nat)=>Rs.flatten.getD ((S0 Rs.length l k).idxOf (i:Int)) 0,by rw[dr6,du6],?_⟩
 refine dv3 fun n=> ?_
 rw[ds0,ds0]
 by_cases hn:n < Rs.length*l
 · have hp:n < (S0 Rs.length l k).length:=by omega
   rw[dr8 hp,dr8 (show n < Rs.flatten.length by omega)];have v0:=it_.lo _ (dv7 hp);have v1:=it_.hi _ (dv7 hp);show some (x4 _ _)=some (some _)
   congr 1
   unfold x4;rw[ds0,dv4 (by omega)];show some (Rs.flatten.getD ((S0 Rs.length l k).idxOf _) 0)=_;rw[show (((S0 Rs.length l k)[n].toNat:Nat):Int)=(S0 Rs.length l k)[n] by omega,it_.nd.idxOf_getElem n hp,ds2,dr8 (show n < Rs.flatten.length by omega)];rfl
 · rw[ds7 (by omega),ds7 (by omega)];rfl
theorem ba9 {l m:Nat}{c:List (List Int)}(l0:0 < l)(m1:1<=m)(r:O4 l m c.length)(h:∀x∈c,x.length=l):∃k,m=c.length*k/\dw5 l k=1/\G3 l k c (D8 l m c):=by
 obtain ⟨k,e1,e2⟩:=r.parts m1;obtain ⟨J,j⟩:=co4 l0 e2 h;exact ⟨k,e1,e2,by rw[ba4 l0 r.1 e1 e2 j];exact j⟩
inductive Pkd:List (List (Int×Int))->List (List (List (Int×Int)))->Prop
 |nil:Pkd [] []
 |cons {es:List (Int×Int)} {ess:List (List (Int×Int))} {ways:List (List (Int×Int))} {chs:List (List (List (Int×Int)))}:es∈ways->Pkd ess chs->Pkd (es::ess) (ways::chs)
theorem bb0:∀(chs:List (List (List (Int×Int)))) (laid:List (List Int)) {t:List Int},t∈chs.foldl Q1 laid->∃t0∈laid,∃ess,Pkd ess chs/\t=w9 t0 ess.flatten
 |[],laid,t,h=>⟨t,h,[],.nil,rfl⟩
 |c::chs,laid,t,h=>by
  obtain ⟨t1,h1,ess,pk,e⟩:=bb0 chs (Q1 laid c) h;obtain ⟨t0,h0,z⟩:=dw9.mp h1;obtain ⟨es,hes,rfl⟩:=ds9.mp z;refine ⟨t0,h0,es::ess,.cons hes pk,?_⟩;rw[e,dv5];unfold w9;rw[ei0]
theorem bf0:∀(es:List (Int×Int)) (t:List Int) {x:Int},0<=x->(∀e∈es,0<=e.1)->x∉es.map (·.1)->x4 (w9 t es) x=x4 t x
 |[],t,x,_,_,_=>rfl
 |e::es,t,x,x0,lo,h=>by
  rw[dw3,dt8,not_or] at h;show x4 (w9 (t.set e.1.toNat e.2) es) x=_;rw[bf0 es _ x0 (fun e he=>lo e (ds3 _ he)) h.2,ab3 x0 (lo e ds1) h.1]
theorem ab7:∀(es:List (Int×Int)) (t:List Int),(es.map (·.1)).Nodup->(∀e∈es,0<=e.1/\e.1 < (t.length:Int))->∀e∈es,x4 (w9 t es) e.1=some e.2
 |[],_,_,_,e,h=>by cases h
 |x::es,t,nd,b,e,h=>by
  rw[dw3,dw2] at nd;have bx:=b x ds1;show x4 (w9 (t.set x.1.toNat x.2) es) e.1=_
  rcases dt8.mp h with rfl|h
  · rw[bf0 es _ bx.1 (fun e he=>(b e (ds3 _ he)).1) nd.1];exact Z1 (by omega)
  · exact ab7 es _ nd.2 (fun e he=>by rw[ec9];exact b e (ds3 _ he)) e h
end
end My
namespace My
open PySem L2 Mth
section
theorem ak5 {p:List Int}{rs:List (List Int)}(up:y8 p p.length rs){r:List Int}(hr:r∈rs):Rg p r.length r:=by
 obtain ⟨y,L,hy,pr,er,_⟩:=up.ring r hr;exact ⟨y,hy,by rw[er,n6];exact pr,by rw[er,n6]⟩
theorem ab8 {p:List Int}(t:j7 p){l:Nat}{r:List Int}(h:Rg p l r){x:Int}(hx:x∈r):In p x/\D5 p x l/\J9 p x=l:=by
 obtain ⟨y,hy,py,rfl⟩:=h;obtain ⟨j,_,rfl⟩:=A5.mp hx;have:=py.shift t hy j;exact ⟨G1 t hy j,this,V2 this⟩
structure dp9 (p:List Int)(rs:List (List Int))(m k:Nat)(es:List (Int×Int))(w:List (List (List Int))):Prop where
 eq:es=Q4 k m w
 perm:(w.map eg7).flatten.Perm (p7 rs k).flatten
 right:∀c∈w,O4 k m c.length
 rg:∀c∈w,∀r∈c,Rg p k r
 nd:(es.map (·.1)).Nodup
 keys:∀x∈es.map (·.1),In p x/\J9 p x=k
theorem bp6 {p:List Int}(t:j7 p)(lp:p.length<=40){rs:List (List Int)}(up:y8 p p.length rs){m k:Nat}(m1:1<=m)(k1:0 < k){es:List (Int×Int)}(h:es∈chF rs m k):∃w,dp9 p rs m k es w:=by
 obtain ⟨w,hw,rfl⟩:=ds9.mp h
 have fr:∀r∈p7 rs k,Rg p k r:=fun r hr=>by
   have:=ak5 up (C8 hr).1;rw[(C8 hr).2] at this;exact this
 have fl:=S5 t up
 have e1:=S8 (l:=k) (rs:=p7 rs k) fun r hr=>(C8 hr).2
 have e2:=(G8 rs k).length_le;have k3:(p7 rs k).length<=40:=dt4 (dx4 _ k1) (by rw[<-e1];omega);have wo:=be5 (l:=k) (m:=m) (ds:=x9 k m (o4 rs k)) (fun d hd=>(K0 hd).1) 40 k3 (fun r hr=>(C8 hr).2) hw
 have rr:∀c∈w,O4 k m c.length:=fun c hc=>S9 (wo.right c hc).1
 have fnd:=(G8 rs k).nodup up.nd;refine ⟨w,rfl,wo.perm,rr,co3 t (fun d hd=>(K0 hd).1) 40 k3 fr hw,bv0 k1 m1 w rr (wo.perm.nodup_iff.mpr fnd),fun x hx=> ?_⟩;obtain ⟨r,hr,hxr⟩:=dt2.mp (wo.perm.mem_iff.mp ((af9 k1 m1 w rr).1 x hx));obtain ⟨a,_,b⟩:=ab8 t (fr r hr) hxr;exact ⟨a,b⟩
theorem ag2 {p:List Int}{f:Nat->List (List (Int×Int))}:∀(ks:List Nat) {ess:List (List (Int×Int))},ks.Nodup->(∀k∈ks,∀es∈f k,(es.map (·.1)).Nodup/\∀x∈es.map (·.1),In p x/\J9 p x=k)->Pkd ess (ks.map f)->(ess.flatten.map (·.1)).Nodup/\(∀x∈ess.flatten.map (·.1),In p x/\J9 p x∈ks)/\∀k∈ks,∃es∈ess,es∈f k
 |[],ess,_,_,pk=>by
  cases pk;exact ⟨dx7,(fun x hx=>by cases hx),(fun k hk=>by cases hk)⟩
 |k::ks,ess,nk,h,pk=>by
  cases pk with
  |cons hes pk=>
   rename_i es ess;rw[dw2] at nk;obtain ⟨a,b,c⟩:=ag2 ks nk.2 (fun k hk=>h k (ds3 _ hk)) pk;obtain ⟨d,e⟩:=h k ds1 es hes;rw[dv5,ds5];refine ⟨?_,fun x hx=> ?_,fun k' hk'=> ?_⟩
   · rw[dw4];refine ⟨d,a,fun x hx y hy z=> ?_⟩;have e1:=(e x hx).2;have e2:=(b y hy).2;rw[<-z,e1] at e2;exact nk.1 e2
   · rcases dt1.mp hx with z|z
     · exact ⟨(e x z).1,by rw[(e x z).2];exact ds1⟩
     · exact ⟨(b x z).1,ds3 _ (b x z).2⟩
   · rcases dt8.mp hk' with rfl|hk'
     · exact ⟨es,ds1,hes⟩
     · obtain ⟨es',h1,h2⟩:=c k' hk';exact ⟨es',ds3 _ h1,h2⟩
theorem bm0 {p:List Int}{m:Nat}(tp:j7 p)(lp:p.length<=40)(m1:1<=m){ks:List Nat}(nk:ks.Nodup)(h1:∀k∈ks,∃r∈i4 p p.length,r.length=k)(h2:∀r∈i4 p p.length,r.length∈ks){t:List Int}(ht:t∈K1 p (ks.map (chF (i4 p p.length) m))):j7 t/\y6 t (m:Int) p:=by
 have up:=C6 tp;generalize i4 p p.length=rs at up h1 h2 ht
 have k0:∀k∈ks,0 < k:=fun k hk=>by
   obtain ⟨r,hr,e⟩:=h1 k hk;have:=(rsb tp up r hr).1;omega
 have hlen:=bl5 p _ t ht;obtain ⟨t0,h0,ess,pk,et⟩:=bb0 _ _ ht;rw[ds8.mp h0] at et
 obtain ⟨knd,kin,kall⟩:=ag2 (p:=p) ks nk (fun k hk es hes=>by
   obtain ⟨w,o⟩:=bp6 tp lp up m1 (k0 k hk) hes
   exact ⟨o.nd,o.keys⟩) pk
 have put:=ab7 ess.flatten p knd fun e he=>(kin e.1 (ds9.mpr ⟨e,he,rfl⟩)).1
 rw[<-et] at put
 have key:∀x,In p x->∃J,M5 t J/\bs1 p m J x:=fun x hx=>by
   obtain ⟨r0,hr0,hxr⟩:=dt2.mp (up.all x hx.1 hx.2);obtain ⟨es,hes,hef⟩:=kall r0.length (h2 r0 hr0);have k1:=k0 _ (h2 r0 hr0);obtain ⟨w,o⟩:=bp6 tp lp up m1 k1 hef;have xf:x∈(p7 rs r0.length).flatten:=dt2.mpr ⟨r0,by unfold p7;exact du4.mpr ⟨hr0,decide_eq_true rfl⟩,hxr⟩;obtain ⟨cf,hcf,hxc⟩:=dt2.mp (o.perm.mem_iff.mpr xf);obtain ⟨c,hc,rfl⟩:=ds9.mp hcf;obtain ⟨row,hrow,hxrow⟩:=dt2.mp hxc;obtain ⟨a,ha⟩:=dt7.mp hrow;have al:=(dr7.mp ha).1
   have rows:∀r∈c,r.length=r0.length:=fun r hr=>Q5 (o.rg c hc r hr)
   obtain ⟨kk,e1,e2,js⟩:=ba9 k1 m1 (o.right c hc) rows;obtain ⟨y,hy,py,er⟩:=o.rg c hc row hrow;rw[er] at hxrow;obtain ⟨b,hb,ex⟩:=A5.mp hxrow;have pm:=js.perm k1 e2
   have cnd:c.flatten.Nodup:=by
     have n1:((w.map eg7).flatten).Nodup:=o.perm.nodup_iff.mpr ((G8 rs _).nodup up.nd);exact (List.pairwise_flatten.mp n1).1 _ (ds9.mpr ⟨c,hc,rfl⟩)
   refine ⟨D8 r0.length m c,⟨fun z=> ?_,pm.nodup_iff.mpr cnd,fun z hz=> ?_,fun j hj=> ?_⟩,r0.length,kk,c,a,b,y,k1,e1,e2,rows,js,al,hb,hy,py,by rw[ds2,ha];exact er,ex⟩
   · have:=js.len;rw[z] at this;have p1:0 < c.length*r0.length:=ec3 (by omega) k1;rw[<-this] at p1;exact absurd p1 (by simp)
   · obtain ⟨r,hr,hzr⟩:=dt2.mp (pm.mem_iff.mp hz);exact (ab8 tp (o.rg c hc r hr) hzr).1.1
   · refine put ((D8 r0.length m c).getD j 0,(D8 r0.length m c).getD ((j+1)%(D8 r0.length m c).length) 0) (dt2.mpr ⟨es,hes,?_⟩);rw[o.eq];exact dw9.mpr ⟨c,hc,ds9.mpr ⟨j,dv6.mpr hj,rfl⟩⟩
 have qs:∀n,n<=p.length->∃qs:List (List Int),(∀J∈qs,M5 t J)/\∀x:Int,0<=x->x < (n:Int)->∃J∈qs,bs1 p m J x:=fun n=>by
   induction n with
   |zero=>exact fun _=>⟨[],(fun J hJ=>by cases hJ),fun x a b=>by omega⟩
   |succ n ih=>
    intro hn;obtain ⟨qs,a,b⟩:=ih (by omega);obtain ⟨J,c,d⟩:=key (n:Int) ⟨by omega,by omega⟩;refine ⟨J::qs,fun J' hJ'=> ?_,fun x x0 x1=> ?_⟩
    · rcases dt8.mp hJ' with rfl|z
      · exact c
      · exact a J' z
    · by_cases e:x=(n:Int)
      · rw[e];exact ⟨J,ds1,d⟩
      · obtain ⟨J',h1,h2⟩:=b x x0 (by omega);exact ⟨J',ds3 _ h1,h2⟩
 obtain ⟨qs,a,b⟩:=qs p.length (dr9 _)
 exact da4 tp hlen a fun x hx=>b x hx.1 hx.2
theorem ag0.root {p:List Int}{m:Nat}{ts:List (List Int)}(h:ag0 p m ts)(tp:j7 p)(lp:p.length<=40)(m1:1<=m):∀t∈ts,j7 t/\y6 t (m:Int) p:=fun t ht=>by
 rcases h.src with z|⟨ks,nk,h1,h2,pr⟩
 · have:=h.len;rw[z] at this;rw[ef6.mp this] at ht;cases ht
 · exact bm0 tp lp m1 nk h1 h2 (pr.mem_iff.mp ht)
end
end My
namespace My
open PySem L2 Mth
section
theorem W8 {α β:Type}{f:α->List β}{q:β->Bool}{g:α->Bool}:∀{xs:List α},(∀x∈xs,(f x).countP q=if g x=true then 1 else 0)->(xs.flatMap f).countP q=xs.countP g
 |[],_=>rfl
 |x::xs,h=>by
  rw[dw8,List.countP_append,h x ds1,W8 fun y hy=>h y (ds3 _ hy),ea6,ea9]
theorem co5 {z:Int}:∀{xs:List Int},xs.Nodup->z∈xs->xs.countP (fun x=>decide (x=z))=1
 |x::xs,nd,h=>by
  rw[dw2] at nd;rw[ea6]
  by_cases c:x=z
  · rw[if_pos (decide_eq_true c),dz8.mpr fun y hy e=>nd.1 (by rw[c,<-of_decide_eq_true e];exact hy)]
  · rw[if_neg (by rw[decide_eq_false c];decide),co5 nd.2 ((dt8.mp h).resolve_left fun e=>c e.symm)]
theorem cc8 {z:Nat}:∀{xs:List Nat},xs.Nodup->z∈xs->xs.countP (fun x=>decide (x=z))=1
 |x::xs,nd,h=>by
  rw[dw2] at nd;rw[ea6]
  by_cases c:x=z
  · rw[if_pos (decide_eq_true c),dz8.mpr fun y hy e=>nd.1 (by rw[c,<-of_decide_eq_true e];exact hy)]
  · rw[if_neg (by rw[decide_eq_false c];decide),cc8 nd.2 ((dt8.mp h).resolve_left fun e=>c e.symm)]
theorem bf1 (rs:List (List Int)):∀i,i<=rs.length->(A3 rs i).map (fun y=>y.1.getD 0 0)=(rs.take i).flatten
 |0,_=>rfl
 |i+1,h=>by
  show (A3 rs i++ab5 rs i (rs.getD i [])).map _=_
  have il:i < rs.length:=by omega
  have eg:rs.getD i []=rs[i]:=by rw[ds2,dr8 il];rfl
  rw[ds5,bf1 rs i (by omega),em9,dr8 il,dz7]
  congr 1
  show _=[rs[i]].flatten;rw[eb4,eg];unfold ab5;rw[dx2]
  refine dv3 fun b=> ?_
  rw[ds0]
  by_cases hb:b < rs[i].length
  · rw[dv4 hb,dr8 hb];show some ((rs[i].drop b++rs[i].take b).getD 0 0)=_;rw[ds2,dv0 (by rw[dv9];omega),ec6,eb7,dr8 hb];rfl
  · rw[ds7 (by rw[du6];omega),ds7 (by omega)];rfl
theorem bv5 {rs:List (List Int)}(nd:rs.flatten.Nodup){z:Int}(hz:z∈rs.flatten):(A3 rs rs.length).countP (fun y=>decide (y.1.getD 0 0=z))=1:=by
 have e:=bf1 rs rs.length (dr9 _);rw[du1] at e
 have h:((A3 rs rs.length).map (fun y=>y.1.getD 0 0)).countP (fun x=>decide (x=z))=1:=by
   rw[e];exact co5 nd hz
 rw[dy2] at h;exact h
theorem ap7:∀{a b:List Int},a.Nodup->(∀x∈a,x∈b)->a.length<=b.length
 |[],_,_,_=>du2 _
 |x::a,b,nd,h=>by
  rw[dw2] at nd;have hx:=h x ds1
  have:=ap7 (b:=b.erase x) nd.2 fun y hy=>(ej1 (fun (e:y=x)=>nd.1 (by rw[<-e];exact hy))).mpr (h y (ds3 _ hy))
  rw[el3 hx] at this;have:=ei3 hx;rw[dt9];omega
def hdC (c:List (List Int)):List Int:=c.map fun r=>r.getD 0 0
theorem T8 {p:List Int}{l:Nat}(l0:0 < l){r:List Int}(h:Rg p l r):r=o5 p (r.getD 0 0) l/\In p (r.getD 0 0)/\D5 p (r.getD 0 0) l:=by
 obtain ⟨y,hy,py,rfl⟩:=h
 have e:(o5 p y l).getD 0 0=y:=by rw[ds2,W1 l0];rfl
 rw[e];exact ⟨rfl,hy,py⟩
theorem ao7 {p:List Int}{l:Nat}(l0:0 < l){c:List (List Int)}(h:∀r∈c,Rg p l r):c=(hdC c).map fun z=>o5 p z l:=by
 unfold hdC;rw[dx2]
 conv=>lhs;rw[<-eg4 c]
 exact dy3 fun r hr=>(T8 l0 (h r hr)).1
theorem bb1 {l:Nat}{rs:List (List Int)}(hl:∀r∈rs,r.length=l)(nd:rs.flatten.Nodup){k:Nat}{x:List (List Int)×List (List Int)}(hk:k < rs.length)(hx:x∈y9 rs k):x.1.flatten.Nodup/\x.2.flatten.Nodup/\(∀u∈x.1.flatten,u∉x.2.flatten)/\∀u,u∈rs.flatten↔u∈x.1.flatten\/u∈x.2.flatten:=by
 have o:=G6 hl k hk hx;have n:=o.perm.nodup_iff.mpr nd;rw[dw4] at n;exact ⟨n.1,n.2.1,fun u h1 h2=>n.2.2 u h1 u h2 rfl,fun u=>by rw[<-o.perm.mem_iff,dt1]⟩
theorem bm1 {p:List Int}(tp:j7 p){l:Nat}(l0:0 < l){rs:List (List Int)}(hr:∀r∈rs,Rg p l r)(nd:rs.flatten.Nodup){z:Nat->Int}(h0:(rs.getD 0 []).getD 0 0=z 0){n:Nat}(hz:∀a,a < n->z a∈rs.flatten)(ap:∀a b,a < b->b < n->z b∉o5 p (z a) l):∀k,k < rs.length->k < n->(y9 rs k).countP (fun x=>decide (hdC x.1=(du8 (k+1)).map z))=1
 |0,hk,_=>by
  show List.countP _ [([rs.getD 0 []],rs.drop 1)]=1;rw[List.countP_singleton,if_pos];refine decide_eq_true ?_;show [(rs.getD 0 []).getD 0 0]=[z 0];rw[h0]
 |k+1,hk,hn=>by
  show ((y9 rs k).flatMap nxC).countP _=1;rw[W8 (g:=fun x=>decide (hdC x.1=(du8 (k+1)).map z)),bm1 tp l0 hr nd h0 hz ap k (by omega) (by omega)];intro x hx;have o:=G6 (fun r hr'=>Q5 (hr r hr')) k (by omega) hx;obtain ⟨n1,n2,n3,n4⟩:=bb1 (fun r hr'=>Q5 (hr r hr')) nd (by omega) hx;unfold nxC;rw[dy2]
  by_cases c:hdC x.1=(du8 (k+1)).map z
  · rw[if_pos (decide_eq_true c)]
    have hzk:z (k+1)∈x.2.flatten:=by
      refine ((n4 _).mp (hz (k+1) hn)).resolve_left fun w=> ?_
      rw[ao7 l0 (ag1 tp hr k (by omega) hx),c,dx2] at w;obtain ⟨r,hr',hw⟩:=dt2.mp w;obtain ⟨a,ha,rfl⟩:=ds9.mp hr';exact ap a (k+1) (dv6.mp ha) hn hw
    refine Eq.trans ?_ (bv5 n2 hzk)
    refine dz1 fun y hy=> ?_
    show decide (hdC (x.1++[y.1])=(du8 (k+1+1)).map z)=true↔decide (y.1.getD 0 0=z (k+1))=true;rw[eb9,ds5,decide_eq_true_iff,decide_eq_true_iff];unfold hdC at c ⊢;rw[ds5,c];constructor
    · intro e;have:=List.append_cancel_left e;exact (List.cons.inj this).1
    · intro e;show _++[y.1.getD 0 0]=_++[z (k+1)];rw[e]
  · rw[if_neg (by rw[decide_eq_false c];decide),dz8];intro y hy e;have e:hdC (x.1++[y.1])=(du8 (k+1+1)).map z:=of_decide_eq_true e;unfold hdC at c e;rw[eb9,ds5,ds5] at e;refine c (List.append_inj e ?_).1;rw[dr6,dr6,du6,o.len]
end
end My
namespace My
open PySem L2 Mth
section
theorem di9 {t:List Int}(tt:j7 t){x:Int}(hx:In t x){L:Nat}(h:D5 t x L){i j:Nat}(hi:i < L)(hj:j < L)(e:it t i x=it t j x):i=j:=by
 have key:∀{i j:Nat},i<=j->j < L->it t i x=it t j x->i=j:=fun {i j} c hj e=>by
   have e2:it t (j - i) (it t i x)=it t i x:=by rw[<-E1,ec7 c,e]
   obtain ⟨q,hq⟩:=ca7 (h.shift tt hx i) e2
   rcases q with _|q
   · omega
   · rw[el9] at hq;omega
 rcases Nat.le_total i j with c|c
 · exact key c hj e
 · exact (key c hi e.symm).symm
theorem aw8 {p t:List Int}{m:Nat}(tt:j7 t)(pw:y6 t (m:Int) p){x:Int}(hx:In t x)(i:Nat):it p i x=it t (m*i) x:=by
 obtain ⟨L,hL⟩:=aq7 tt hx;exact bd2 tt pw hx hL (by rw[em2];rfl) i
structure ak6 (t:List Int)(m l:Nat)(x:Int)(d k:Nat):Prop where
 per:D5 t x (d*l)
 d1:1<=d
 em:m=d*k
 co:dw5 l k=1
 right:dw5 (d*l) m=d
theorem dc9 {p t:List Int}{m l:Nat}(tt:j7 t)(pw:y6 t (m:Int) p){x:Int}(hx:In t x)(hl:D5 p x l):∃d k,ak6 t m l x d k:=by
 obtain ⟨L,hL⟩:=aq7 tt hx;have el:=hl.uniq (da5 tt pw hx hL (m:=m) (by rw[em2];rfl));have gp:0 < dw5 L m:=Nat.gcd_pos_of_pos_left _ hL.pos;have cp:dw5 (L/dw5 L m) (m/dw5 L m)=1:=ej9 gp
 have e1:L=dw5 L m*l:=by rw[el,eh1 (el5 L m)]
 have e2:m=dw5 L m*(m/dw5 L m):=(eh1 (ee2 L m)).symm;refine ⟨dw5 L m,m/dw5 L m,by rw[<-e1];exact hL,gp,e2,by rw[el];exact cp,by rw[<-e1]⟩
theorem ak6.apart {p t:List Int}{m l:Nat}(tt:j7 t)(pw:y6 t (m:Int) p){x:Int}(hx:In t x){d k:Nat}(h:ak6 t m l x d k)(l0:0 < l){a b:Nat}(hab:a < b)(hb:b < d):it t b x∉o5 p (it t a x) l:=fun w=>by
 obtain ⟨j,hj,e⟩:=A5.mp w;rw[aw8 tt pw (G1 tt hx a),<-E1,<-W9 h.per.back (m*j+a)] at e;have dl:d<=d*l:=dx4 _ l0;have e1:=di9 tt hx h.per (i:=b) (j:=(m*j+a)%(d*l)) (by omega) (ea2 _ (by omega)) e
 have e2:b%d=a%d:=by
   rw[e1,Nat.mod_mod_of_dvd _ (el1 d l),h.em,dz0,em5]
 rw[dy7 hb,dy7 (show a < d by omega)] at e2;omega
def ah1 (p t:List Int)(x:Int)(l d:Nat):List (List Int):=(du8 d).map fun a=>o5 p (it t a x) l
theorem at5 (p t:List Int)(x:Int)(l d:Nat):(ah1 p t x l d).length=d:=by unfold ah1;rw[dr6,du6]
theorem ak6.join {p t:List Int}{m l:Nat}(tt:j7 t)(pw:y6 t (m:Int) p){x:Int}(hx:In t x){d k:Nat}(h:ak6 t m l x d k)(l0:0 < l):G3 l k (ah1 p t x l d) (o5 t x (d*l)):=by
 have rl:=at5 p t x l d
 have rows:∀r∈ah1 p t x l d,r.length=l:=fun r hr=>by
   obtain ⟨a,_,rfl⟩:=ds9.mp hr;exact n6 _ _ _
 have fg:=am5 l0 rows;refine ⟨by rw[n6,rl],?_⟩;rw[rl]
 refine dv3 fun n=> ?_
 rw[ds0,ds0]
 by_cases hn:n < d*l
 · have en:n/l*l+n%l=n:=by rw[ea5];exact ej3 n l
   have ha:=av7 hn;have hb:=ea2 n l0;have f1:=fg.2 (n/l) (n%l) (by rw[rl];exact ha) hb;rw[en] at f1
   have g1:(ah1 p t x l d).getD (n/l) []=o5 p (it t (n/l) x) l:=by
     unfold ah1;rw[ds2,ds0,dv4 ha];rfl
   rw[f1,g1,W1 hb];unfold S0;rw[ds0,dv4 hn];have pl:=aj6 (k:=k) (step:=n%l) ha l0;show some (x4 (o5 t x (d*l)) ((K9 d l k (n/l) (n%l):Nat):Int))=some (some _);unfold x4;rw[dw1,W1 pl,aw8 tt pw (G1 tt hx _),<-E1,<-bg7 ha l0,W9 h.per.back,<-h.em,ea9,ea5]
 · rw[ds7 (by rw[Z3];omega),ds7 (by rw[fg.1,rl];omega)];rfl
def N0 (t:List Int)(es:List (Int×Int)):Bool:=es.all fun e=>decide (nx t e.1=e.2)
theorem ak7 (t:List Int)(a b:List (Int×Int)):N0 t (a++b)=(N0 t a&&N0 t b):=List.all_append
theorem ak8 {t:List Int}{es:List (Int×Int)}:N0 t es=true↔∀e∈es,nx t e.1=e.2:=by
 unfold N0;rw[ed5];exact ⟨fun h e he=>of_decide_eq_true (h e he),fun h e he=>decide_eq_true (h e he)⟩
theorem cu8 {p t:List Int}{m l:Nat}(tp:j7 p)(tt:j7 t)(pw:y6 t (m:Int) p)(m1:1<=m)(l0:0 < l){c:List (List Int)}(hc:∀r∈c,Rg p l r)(nd:c.flatten.Nodup)(rd:O4 l m c.length){x:Int}{d k:Nat}(ra:ak6 t m l x d k)(hx:In t x)(h0:(c.getD 0 []).getD 0 0=x):
   N0 t (E6 (D8 l m c))=true↔c.length=d/\hdC c=(du8 d).map fun a=>it t a x:=by
 have rows:∀r∈c,r.length=l:=fun r hr=>Q5 (hc r hr)
 have pt:p.length=t.length:=pw.1;constructor
 · intro ok;have ok:=ak8.mp ok;obtain ⟨kk,e1,e2,js⟩:=ba9 l0 m1 rd rows;generalize D8 l m c=J at ok js;have pm:=js.perm l0 e2;have Jl:=js.len;have c1:c.length<=c.length*l:=dx4 _ l0
   have inJ:∀u∈J,In p u:=fun u hu=>by
     obtain ⟨r,hr,hur⟩:=dt2.mp (pm.mem_iff.mp hu);exact (ab8 tp (hc r hr) hur).1
   have ro:M5 t J:=⟨fun z=>by
       rw[z] at Jl;have:=rd.1;simp only[eg2] at Jl
       omega,pm.nodup_iff.mpr nd,fun u hu=>(inJ u hu).1,fun j hj=>by
       have hm:J.getD j 0∈J:=by rw[x8 hj];exact dv7 hj
       have hi:=inJ _ hm;rw[G2 (p:=t) ⟨hi.1,by rw[<-pt];exact hi.2⟩]
       exact congrArg some (ok (J.getD j 0,J.getD ((j+1)%J.length) 0) (ds9.mpr ⟨j,dv6.mpr hj,rfl⟩))⟩
   have pos0:∀a,K9 c.length l kk a 0=a:=fun a=>by
     unfold K9;rw[ed9,Nat.zero_mod,eh6,eb7]
   have J0:J.getD 0 0=x:=by
     have:=js.get l0 rows (a:=0) (b:=0) (by have:=rd.1;omega) l0;rw[pos0] at this;rw[this,h0]
   have jl0:0 < J.length:=by have:=rd.1;omega
   have pr:=ro.per jl0;rw[J0,Jl] at pr;have ed:c.length=d:=Nat.eq_of_mul_eq_mul_right l0 (pr.uniq ra.per);refine ⟨ed,?_⟩
   refine dv3 fun a=> ?_
   unfold hdC;rw[ds0,ds0]
   by_cases ha:a < c.length
   · rw[dv4 (by omega),dr8 ha];have g:=js.get l0 rows (a:=a) (b:=0) ha l0;rw[pos0] at g;have i1:=ro.it jl0 a;rw[J0,ef2,dy7 (by omega),g] at i1
     have eg:c.getD a []=c[a]:=by rw[ds2,dr8 ha];rfl
     rw[eg] at i1;exact congrArg some i1.symm
   · rw[ds7 (by omega),ds7 (by rw[du6];omega)];rfl
 · rintro ⟨ed,eh⟩
   have ec:c=ah1 p t x l d:=by
     rw[ao7 l0 hc,eh,dx2];rfl
   have j:=ra.join tt pw hx l0
   have ej:D8 l m c=o5 t x (d*l):=by
     rw[ec];exact ba4 l0 (by rw[at5];exact ra.d1) (by rw[at5];exact ra.em) ra.co j
   rw[ej,ak8];intro e he;obtain ⟨i,hi,rfl⟩:=ds9.mp he;have hi:=dv6.mp hi;rw[n6] at hi;show nx t ((o5 t x (d*l)).getD i 0)=(o5 t x (d*l)).getD ((i+1)%(o5 t x (d*l)).length) 0
   have hp:0 < d*l:=by omega
   rw[n6,ds2,W1 hi,ds2,W1 (ea2 _ hp),W9 ra.per.back];rfl
theorem bf2 {rs:List (List Int)}:∀(k:Nat) {x:List (List Int)×List (List Int)},x∈y9 rs k->x.1.getD 0 []=rs.getD 0 []
 |0,x,h=>by rw[ds8.mp h];rfl
 |k+1,x,h=>by
  obtain ⟨x',h',z⟩:=dw9.mp h;obtain ⟨y,hy,rfl⟩:=ds9.mp z;have l1:=(at1 k h').2.2;rw[<-bf2 k h'];show (x'.1++[y.1]).getD 0 []=_;rw[ds2,dv0 (by omega),ds2]
theorem cg5 (l m n:Nat):(x9 l m n).Nodup:=by
 unfold x9;refine List.Nodup.sublist ea7 ?_;rw[dt0,ea8]
 exact (dt0.mp ee8).imp fun h e=>h (by omega)
theorem cg6 {l m n d:Nat}(d1:1<=d)(dn:d<=n)(h:dw5 (d*l) m=d):d∈x9 l m n:=by
 unfold x9;exact du4.mpr ⟨ds9.mpr ⟨d - 1,dv6.mpr (by omega),by omega⟩,decide_eq_true h⟩
theorem bv6 {p t:List Int}{m l n:Nat}(tp:j7 p)(tt:j7 t)(pw:y6 t (m:Int) p)(m1:1<=m)(l0:0 < l):∀(f:Nat) {rs:List (List Int)},rs.length<=f->rs.length<=n->(∀r∈rs,Rg p l r)->rs.flatten.Nodup->(∀u∈rs.flatten,nx t u∈rs.flatten)->
   (C1 (x9 l m n) f rs).countP (fun w=>N0 t (Q4 l m w))=1
 |0,rs,hf,_,_,_,_=>rfl
 |f+1,rs,hf,hn,hr,nd,cl=>by
  unfold C1
  by_cases c:rs.length=0
  · rw[if_pos c];rfl
  · rw[if_neg c]
    have rl:∀r∈rs,r.length=l:=fun r hr'=>Q5 (hr r hr')
    have pt:p.length=t.length:=pw.1
    have g0:rs.getD 0 []∈rs:=by
      rw[ds2,dr8 (show 0 < rs.length by omega)];exact dv7 _
    obtain ⟨h1,h2,h3⟩:=T8 l0 (hr _ g0)
    have x0m:(rs.getD 0 []).getD 0 0∈rs.flatten:=dt2.mpr ⟨_,g0,by
      have hl:=rl _ g0;rw[x8 (show 0 < (rs.getD 0 []).length by omega)]
      exact dv7 _⟩
    generalize e0:(rs.getD 0 []).getD 0 0=x at h1 h2 h3 x0m;have hx:In t x:=⟨h2.1,by rw[<-pt];exact h2.2⟩;obtain ⟨d,k,ra⟩:=dc9 tt pw hx h3
    have zin:∀a,it t a x∈rs.flatten:=fun a=>by
      induction a with
      |zero=>exact x0m
      |succ a ih=>exact cl _ ih
    have fl:=S8 rl
    have dle:d<=rs.length:=by
      have:=ap7 (U3 tt hx ra.per.least) (b:=rs.flatten) (fun u hu=>by
        obtain ⟨j,_,rfl⟩:=A5.mp hu
        exact zin j)
      rw[n6,fl] at this;exact Nat.le_of_mul_le_mul_right this l0
    have din:d∈x9 l m n:=cg6 ra.d1 (by omega) ra.right
    have ap:∀a b,a < b->b < d->it t b x∉o5 p (it t a x) l:=fun a b h1 h2=>ra.apart tt pw hx l0 h1 h2
    rw[W8 (g:=fun d'=>decide (d'=d)),cc8 (cg5 l m n) din];intro d' hd';have d1:=(K0 hd').1;unfold T7
    by_cases c2:d'<=rs.length
    · rw[if_pos c2]
      have okc:∀x'∈y9 rs (d' - 1),(N0 t (E6 (D8 l m x'.1))=true↔x'.1.length=d/\hdC x'.1=(du8 d).map fun a=>it t a x):=fun x' hx'=>by
        have o:=G6 rl (d' - 1) (by omega) hx';obtain ⟨n1,n2,n3,n4⟩:=bb1 rl nd (by omega) hx';refine cu8 tp tt pw m1 l0 (ag1 tp hr (d' - 1) (by omega) hx') n1 ?_ ra hx (by rw[bf2 _ hx',e0]);rw[o.len,ec7 d1];exact S9 hd'
      rw[W8 (g:=fun x'=>N0 t (E6 (D8 l m x'.1)))]
      · by_cases c3:d'=d
        · subst c3;rw[if_pos (decide_eq_true rfl)];have:=bm1 tp l0 hr nd (z:=fun a=>it t a x) e0 (n:=d') (fun a _=>zin a) ap (d' - 1) (by omega) (by omega);refine Eq.trans ?_ this
          refine dz1 fun x' hx'=> ?_
          have o:=G6 rl (d' - 1) (by omega) hx';rw[okc x' hx',decide_eq_true_iff,o.len,ec7 d1];exact ⟨fun h=>h.2,fun h=>⟨rfl,h⟩⟩
        · rw[if_neg (by rw[decide_eq_false c3];decide),dz8];intro x' hx' ok;have o:=G6 rl (d' - 1) (by omega) hx';have:=((okc x' hx').mp ok).1;rw[o.len,ec7 d1] at this;exact c3 this
      · intro x' hx';have o:=G6 rl (d' - 1) (by omega) hx';obtain ⟨n1,n2,n3,n4⟩:=bb1 rl nd (by omega) hx';rw[dy2]
        have ee:∀w,N0 t (Q4 l m (w++[x'.1]))=(N0 t (Q4 l m w)&&N0 t (E6 (D8 l m x'.1))):=fun w=>by rw[bu9,ak7]
        by_cases c3:N0 t (E6 (D8 l m x'.1))=true
        · rw[if_pos c3];refine Eq.trans ?_ (bv6 (n:=n) tp tt pw m1 l0 f (rs:=x'.2) (by have:=o.left;omega) (by have:=o.left;omega) (fun r hr'=>hr r (o.rows2 r hr')) n2 ?_)
          · refine dz1 fun w hw=> ?_
            show N0 t (Q4 l m (w++[x'.1]))=true↔_;rw[ee,c3,Bool.and_true]
          · intro u hu;have hur:u∈rs.flatten:=(n4 u).mpr (.inr hu)
            refine ((n4 _).mp (cl u hur)).resolve_left fun w=> ?_
            obtain ⟨q1,q2⟩:=(okc x' hx').mp c3
            have ec:x'.1=ah1 p t x l d:=by
              rw[ao7 l0 (ag1 tp hr (d' - 1) (by omega) hx'),q2,dx2];rfl
            have pm:=(ra.join (p:=p) tt pw hx l0).perm l0 ra.co;rw[<-ec] at pm;have w:=pm.mem_iff.mpr w;obtain ⟨j,hj,e⟩:=A5.mp w;obtain ⟨r,hr',hur'⟩:=dt2.mp hur;have hui:=(ab8 tp (hr r hr') hur').1;have hut:In t u:=⟨hui.1,by rw[<-pt];exact hui.2⟩
            have e3:nx t u=nx t (it t (j+(d*l - 1)) x):=by
              rw[e];show it t j x=it t (j+(d*l - 1)+1) x;have:=ra.per.pos;rw[show j+(d*l - 1)+1=j+d*l by omega,E1,ra.per.back]
            have e4:=U2 tt hut (G1 tt hx _) e3;rw[<-W9 ra.per.back] at e4;have:u∈o5 t x (d*l):=A5.mpr ⟨_,ea2 _ ra.per.pos,e4⟩;exact n3 u (pm.mem_iff.mp this) hu
        · rw[if_neg c3,dz8];intro w hw ok;have ok:N0 t (Q4 l m (w++[x'.1]))=true:=ok;rw[ee,ed4] at ok;exact c3 ok.2
    · rw[if_neg c2,if_neg (by rw[decide_eq_false (show ¬d'=d by omega)];decide)];rfl
end
end My
namespace My
open PySem L2 Mth
section
def X9:List (List (List (Int×Int)))->List (List (Int×Int))
 |[]=>[[]]
 |c::chs=>c.flatMap fun es=>(X9 chs).map fun e=>es++e
theorem cg7 (t:List Int)(a b:List (Int×Int)):w9 t (a++b)=w9 (w9 t a) b:=by
 unfold w9;exact ei0
theorem ai7:∀(chs:List (List (List (Int×Int)))) (laid:List (List Int)),chs.foldl Q1 laid=laid.flatMap fun t0=>(X9 chs).map (w9 t0)
 |[],laid=>by
  show laid=laid.flatMap fun t0=>[t0]
  induction laid with
  |nil=>rfl
  |cons x xs ih=>rw[dw8,<-ih];rfl
 |c::chs,laid=>by
  show chs.foldl Q1 (Q1 laid c)=_;rw[ai7 chs];unfold Q1;rw[List.flatMap_assoc];refine congrArg (fun f=>List.flatMap f laid) (funext fun t0=> ?_);show (c.map (w9 t0)).flatMap (fun t1=>(X9 chs).map (w9 t1))=(c.flatMap fun es=>(X9 chs).map fun e=>es++e).map (w9 t0);rw[List.flatMap_map,List.map_flatMap];refine congrArg (fun f=>List.flatMap f c) (funext fun es=> ?_);show (X9 chs).map (w9 (w9 t0 es))=((X9 chs).map fun e=>es++e).map (w9 t0);rw[dx2]
  exact dy3 fun e _=>(cg7 t0 es e).symm
theorem ao8:∀{chs:List (List (List (Int×Int)))} {e:List (Int×Int)},e∈X9 chs->∃ess,Pkd ess chs/\e=ess.flatten
 |[],e,h=>⟨[],.nil,ds8.mp h⟩
 |c::chs,e,h=>by
  obtain ⟨es,hes,z⟩:=dw9.mp h;obtain ⟨e',he',rfl⟩:=ds9.mp z;obtain ⟨ess,pk,rfl⟩:=ao8 he';exact ⟨es::ess,.cons hes pk,rfl⟩
theorem ao9 {t:List Int}{f:Nat->List (List (Int×Int))}:∀{ks:List Nat},(∀k∈ks,(f k).countP (N0 t)=1)->(X9 (ks.map f)).countP (N0 t)=1
 |[],_=>rfl
 |k::ks,h=>by
  show ((f k).flatMap fun es=>(X9 (ks.map f)).map fun e=>es++e).countP (N0 t)=1;rw[W8 (g:=N0 t),h k ds1];intro es hes;rw[dy2]
  by_cases c:N0 t es=true
  · rw[if_pos c];refine Eq.trans (dz1 fun e _=> ?_) (ao9 fun k hk=>h k (ds3 _ hk));show N0 t (es++e)=true↔_;rw[ak7,c,Bool.true_and]
  · rw[if_neg c,dz8];intro e _ z;have z:N0 t (es++e)=true:=z;rw[ak7,ed4] at z;exact c z.1
theorem cu9 {p t:List Int}{m l:Nat}(tp:j7 p)(tt:j7 t)(pw:y6 t (m:Int) p){u:Int}(hu:In p u)(h:D5 p u l):D5 p (nx t u) l:=by
 have pt:p.length=t.length:=pw.1
 have tr:∀y,In p y->In t y:=fun y hy=>⟨hy.1,by rw[<-pt];exact hy.2⟩
 have com:∀i,it p i (nx t u)=nx t (it p i u):=fun i=>by
   rw[aw8 tt pw (T4 tt (tr u hu)),aw8 tt pw (tr u hu)];show it t (m*i) (it t 1 u)=it t (m*i+1) u;rw[<-E1]
 refine ⟨h.pos,by rw[com,h.back],fun i i0 i1 e=> ?_⟩;rw[com] at e;exact h.least i i0 i1 (U2 tt (tr _ (G1 tp hu i)) (tr u hu) e)
theorem dj0 {p t:List Int}{m k:Nat}(tp:j7 p)(lp:p.length<=40)(tt:j7 t)(pw:y6 t (m:Int) p)(m1:1<=m)(k0:0 < k){rs:List (List Int)}(up:y8 p p.length rs):(chF rs m k).countP (N0 t)=1:=by
 have pt:p.length=t.length:=pw.1
 have fr:∀r∈p7 rs k,Rg p k r:=fun r hr=>by
   have:=ak5 up (C8 hr).1;rw[(C8 hr).2] at this;exact this
 have fl:=S5 tp up
 have e1:=S8 (l:=k) (rs:=p7 rs k) fun r hr=>(C8 hr).2
 have e2:=(G8 rs k).length_le;have k3:(p7 rs k).length<=40:=dt4 (dx4 _ k0) (by rw[<-e1];omega);unfold chF;rw[dy2]
 refine bv6 tp tt pw m1 k0 40 k3 (by rw[av8];exact dr9 _) fr ((G8 rs k).nodup up.nd) fun u hu=> ?_
 obtain ⟨r,hr,hur⟩:=dt2.mp hu;obtain ⟨a,b,_⟩:=ab8 tp (fr r hr) hur;have hn:=cu9 tp tt pw a b
 have hin:In p (nx t u):=by
   have:=T4 tt (x:=u) ⟨a.1,by rw[<-pt];exact a.2⟩;exact ⟨this.1,by rw[pt];exact this.2⟩
 obtain ⟨r2,hr2,h2⟩:=dt2.mp (up.all _ hin.1 hin.2);have e:=(ab8 tp (ak5 up hr2) h2).2.1.uniq hn;exact dt2.mpr ⟨r2,by unfold p7;exact du4.mpr ⟨hr2,decide_eq_true e⟩,h2⟩
theorem bv7 {p t:List Int}{m:Nat}(tp:j7 p)(lp:p.length<=40)(tt:j7 t)(pw:y6 t (m:Int) p)(m1:1<=m){ks:List Nat}(nk:ks.Nodup)(h1:∀k∈ks,∃r∈i4 p p.length,r.length=k)(h2:∀r∈i4 p p.length,r.length∈ks):(K1 p (ks.map (chF (i4 p p.length) m))).countP (fun u=>decide (u=t))=1:=by
 have up:=C6 tp;generalize i4 p p.length=rs at up h1 h2 ⊢;have pt:p.length=t.length:=pw.1
 have k0:∀k∈ks,0 < k:=fun k hk=>by
   obtain ⟨r,hr,e⟩:=h1 k hk;have:=(rsb tp up r hr).1;omega
 unfold K1;rw[ai7,dw8,eb3,du0,dy2];refine Eq.trans (dz1 fun es hes=> ?_) (ao9 (t:=t) fun k hk=>dj0 tp lp tt pw m1 (k0 k hk) up);show decide (w9 p es=t)=true↔N0 t es=true;obtain ⟨ess,pk,rfl⟩:=ao8 hes
 obtain ⟨knd,kin,kall⟩:=ag2 (p:=p) ks nk (fun k hk es hes=>by
   obtain ⟨w,o⟩:=bp6 tp lp up m1 (k0 k hk) hes
   exact ⟨o.nd,o.keys⟩) pk
 have put:=ab7 ess.flatten p knd fun e he=>(kin e.1 (ds9.mpr ⟨e,he,rfl⟩)).1
 rw[decide_eq_true_iff,ak8];constructor
 · intro e x hx;have a:=put x hx;have b:=(kin x.1 (ds9.mpr ⟨x,hx,rfl⟩)).1;rw[e,G2 ⟨b.1,by rw[<-pt];exact b.2⟩] at a;exact Option.some.inj a
 · intro ok
   refine dv3 fun i=> ?_
   by_cases hi:i < p.length
   · have hx:In p (i:Int):=⟨by omega,by omega⟩;obtain ⟨r0,hr0,hxr⟩:=dt2.mp (up.all _ hx.1 hx.2);obtain ⟨es,hes,hef⟩:=kall r0.length (h2 r0 hr0);have k1:=k0 _ (h2 r0 hr0);obtain ⟨w,o⟩:=bp6 tp lp up m1 k1 hef;have xf:(i:Int)∈(p7 rs r0.length).flatten:=dt2.mpr ⟨r0,by unfold p7;exact du4.mpr ⟨hr0,decide_eq_true rfl⟩,hxr⟩;obtain ⟨cf,hcf,hxc⟩:=dt2.mp (o.perm.mem_iff.mpr xf);obtain ⟨c,hc,rfl⟩:=ds9.mp hcf
     have rows:∀r∈c,r.length=r0.length:=fun r hr=>Q5 (o.rg c hc r hr)
     obtain ⟨kk,e1,e2,js⟩:=ba9 k1 m1 (o.right c hc) rows;have xJ:=(js.perm k1 e2).mem_iff.mpr hxc;rw[<-ao5 (D8 r0.length m c)] at xJ;obtain ⟨e,he,ex⟩:=ds9.mp xJ;have hef:e∈ess.flatten:=dt2.mpr ⟨es,hes,by rw[o.eq];exact dw9.mpr ⟨c,hc,he⟩⟩;have a:=put e hef;have b:=G2 (p:=t) (x:=(i:Int)) ⟨hx.1,by rw[<-pt];exact hx.2⟩;have ok:=ok e hef;rw[ex] at a ok;rw[<-ok,<-b] at a;unfold x4 at a;rw[dw1] at a;exact a
   · rw[ds7 (by rw[X8];omega),ds7 (by omega)]
theorem Y0:∀{ts:List (List Int)},(∀t∈ts,ts.countP (fun u=>decide (u=t))=1)->ts.Nodup
 |[],_=>dx7
 |x::xs,h=>by
  have h0:=h x ds1;rw[ea6,if_pos (decide_eq_true rfl)] at h0
  have nx:x∉xs:=fun z=>by
    have:xs.countP (fun u=>decide (u=x))=0:=by omega
    exact dz8.mp this x z (decide_eq_true rfl)
  refine dw2.mpr ⟨nx,Y0 fun t ht=> ?_⟩;have h1:=h t (ds3 _ ht);rw[ea6,if_neg (fun e=>nx (by rw[of_decide_eq_true e];exact ht))] at h1;exact h1
theorem cv0 {p:List Int}(m:Nat)(tp:j7 p)(lp:p.length<=40):∃ks:List Nat,ks.Nodup/\(∀k∈ks,∃r∈i4 p p.length,r.length=k)/\(∀r∈i4 p p.length,r.length∈ks)/\(K1 p (ks.map (chF (i4 p p.length) m))).length=ac4 p m:=by
 have up:=C6 tp
 have ks:∃ks:List Nat,ks.Nodup/\(∀k∈ks,∃r∈i4 p p.length,r.length=k)/\(∀r∈i4 p p.length,r.length∈ks):=by
   refine ⟨(du8 (p.length+1)).filter fun k=>(i4 p p.length).any fun r=>decide (r.length=k),List.Nodup.sublist ea7 ee8,fun k hk=> ?_,fun r hr=> ?_⟩
   · obtain ⟨r,hr,e⟩:=el4.mp (du4.mp hk).2;exact ⟨r,hr,of_decide_eq_true e⟩
   · exact du4.mpr ⟨dv6.mpr (by have:=(rsb tp up r hr).2;omega),el4.mpr ⟨r,hr,decide_eq_true rfl⟩⟩
 obtain ⟨ks,nk,h1,h2⟩:=ks;refine ⟨ks,nk,h1,h2,?_⟩
 have len:=T0 p (chF (i4 p p.length) m) (fun l=>D6 l m (o4 (i4 p p.length) l)) ks.length ks (dr9 _) fun k hk=>by
   refine cc6 ?_;obtain ⟨r,hr,e⟩:=h1 k hk;have k1:=(rsb tp up r hr).1;have fl:=S5 tp up
   have e1:=S8 (l:=k) (rs:=p7 (i4 p p.length) k) fun r hr=>(C8 hr).2
   have e2:=(G8 (i4 p p.length) k).length_le;exact dt4 (dx4 _ (show 0 < k by omega)) (by rw[<-e1];omega)
 rw[as6 tp up nk h1 h2 fun u hu=>by rw[hu];rfl] at len;exact len
theorem dd0 {p:List Int}{m:Nat}(tp:j7 p)(lp:p.length<=40)(m1:1<=m):0 < ac4 p m↔∃t,j7 t/\y6 t (m:Int) p:=by
 obtain ⟨ks,nk,h1,h2,len⟩:=cv0 m tp lp;constructor
 · intro h;rw[<-len] at h;obtain ⟨t,ht⟩:=List.exists_mem_of_length_pos h;exact ⟨t,bm0 tp lp m1 nk h1 h2 ht⟩
 · rintro ⟨t,tt,pw⟩;have one:=bv7 tp lp tt pw m1 nk h1 h2;rw[<-len];have:=ei9 (p:=fun u=>decide (u=t)) (l:=K1 p (ks.map (chF (i4 p p.length) m)));omega
theorem ag0.once {p t:List Int}{m:Nat}{ts:List (List Int)}(h:ag0 p m ts)(tp:j7 p)(lp:p.length<=40)(m1:1<=m)(tt:j7 t)(pw:y6 t (m:Int) p):ts.countP (fun u=>decide (u=t))=1:=by
 rcases h.src with z|⟨ks,nk,h1,h2,pr⟩
 · have:=(dd0 tp lp m1).mpr ⟨t,tt,pw⟩;omega
 · rw[pr.countP_eq];exact bv7 tp lp tt pw m1 nk h1 h2
theorem ag0.mem {p t:List Int}{m:Nat}{ts:List (List Int)}(h:ag0 p m ts)(tp:j7 p)(lp:p.length<=40)(m1:1<=m):t∈ts↔j7 t/\y6 t (m:Int) p:=by
 refine ⟨h.root tp lp m1 t,fun ⟨tt,pw⟩=> ?_⟩;have:=h.once tp lp m1 tt pw;obtain ⟨u,hu,e⟩:=ee7.mp (show 0 < ts.countP (fun u=>decide (u=t)) by omega);rw[<-of_decide_eq_true e];exact hu
theorem ag0.nd {p:List Int}{m:Nat}{ts:List (List Int)}(h:ag0 p m ts)(tp:j7 p)(lp:p.length<=40)(m1:1<=m):ts.Nodup:=
 Y0 fun t ht=>have:=h.root tp lp m1 t ht;h.once tp lp m1 this.1 this.2
end
end My
namespace My
open PySem L2 Mth
section
variable {P:Program} {w:World} {K:PySem.W.Frag} {mg:Str->Option Value} {base:Heap} {zx zt zry zxy zxx ztz zvx zty ztx zsz zrx:Addr}
theorem dd1 {a b:Addr}{n:Nat}{g:TG}{tb:TS}{D:ae2}{σ:St}{H:Hp}(Pv:Nat->St->Hp->Prop)(h0:Pv 0 σ H)
   (hl:∀i σ H,i<=n->Pv i σ H->∃xs zs,H a=some (.lst xs)/\H b=some (.lst zs)/\xs.length=n/\zs.length=n)
   (hs:∀i x y σ H t xs zs,i < n->H a=some (.lst xs)->H b=some (.lst zs)->xs[i]? =some x->zs[i]? =some y->Pv i σ H->H t=none->g (.ref t) σ (c8 H t (.tup [x,y])) fun σ2 H2=>tb {D with nx:=Pv (i+1),ct:=Pv (i+1),bk:=D.nx} σ2 H2) (hd:∀σ H,Pv n σ H->D.nx σ H):
   ∃W:Nat->Nat->St->Hp->Prop,(∃m,W 0 m σ H)/\∀i m σ H,W i m σ H->
    ((Itz a b).stop i H/\D.nx σ H)\/((Itz a b).go i H/\∃N:St->Hp->Prop,(∀σ' H',N σ' H'->∃m',m' < m/\W (i+1) m' σ' H')/\∀x H',(Itz a b).yld i H x H'->g x σ H' fun σ2 H2=>tb {D with nx:=N,ct:=N,bk:=D.nx} σ2 H2):=by
 refine ⟨fun i m σ H=>m=n - i/\i<=n/\Pv i σ H,⟨n,by simp,du2 _,h0⟩,?_⟩;rintro i m σ H ⟨rfl,hi,p⟩;obtain ⟨xs,zs,h1,h2,l1,l2⟩:=hl i σ H hi p
 by_cases hlt:i < n
 · refine .inr ⟨⟨xs,zs,xs[i],zs[i],h1,h2,by simp [l1,hlt],by simp [l2,hlt]⟩,Pv (i+1),fun σ' H' p'=>⟨n - (i+1),by omega,rfl,hlt,p'⟩,fun x H' y=> ?_⟩;obtain ⟨x',y',t,y1,y2,y3,e1,e2⟩:=y;subst e1 e2;exact hs i x' y' σ _ t xs zs hlt h1 h2 (y1 xs h1) (y2 zs h2) p y3
 · have e:i=n:=by omega
   subst e;exact .inl ⟨⟨xs,zs,h1,h2,.inl (by omega)⟩,hd σ H p⟩
def B7 (r s:List Int):List (Int×Int):=(du8 r.length).map fun j=>(r.getD j 0,s.getD j 0)
theorem at6 (r s:List Int):(B7 r s).length=r.length:=by unfold B7;rw[dr6,du6]
theorem bf3 (r s:List Int):(B7 r s).map (·.1)=r:=by
 unfold B7;rw[dx2]
 refine List.ext_getElem (by simp) fun i h1 h2=> ?_
 rw[List.getElem_map,List.getElem_range];show r.getD i 0=r[i];exact x8 h2
theorem ap0 {r s:List Int}{j:Nat}(h:j < r.length):(B7 r s)[j]? =some (r.getD j 0,s.getD j 0):=by
 unfold B7;rw[ds0,dv4 h];rfl
def aw9:Sp:=fun vs H Q _=>∃(d r m:Addr) (es:List (Int×Int)) (rs ms:List Int),vs=[.ref d,.ref r,.ref m]/\H d=some (.dK (J6 es))/\H r=some (.lst (rs.map V.int))/\H m=some (.lst (ms.map V.int))/\rs.length=ms.length/\rs.Nodup/\(∀x∈rs,x∉es.map (·.1))/\es.length<=400/\rs.length<=400/\
 ∀(H':Hp),H' d=some (.dK (J6 (es++B7 rs ms)))->j5 d H H'->Q .non H'
theorem ag3:m8 ["target","ring","image","thing","place"] ["target","ring","image"] (j6 ah8):=by rfl'
theorem bv8 {f:Addr}{fd:FuncData}(F:A9 K "send_over" "send_over" ah8 f fd)(B:Bl mg):p6 P w K mg base A8 1 f fd ["target","ring","image"] aw9:=by
 refine F.ok ag3 (fun vs H Q E h=> ?_) (fun cdv A outer s H vs Q E hr h=> ?_)
 · obtain ⟨d,r,m,es,rs,ms,rfl,hd,hrr,hm,ln,nd,dis,le,lr,q⟩:=h;rfl
 · obtain ⟨d,r,m,es,rs,ms,rfl,hd,hrr,hm,ln,nd,dis,le,lr,q⟩:=h;have hu:=T2 hr;refine ⟨_,@g6 _ _ _ (@n9 _ _ _ _ _ _ _ _ PassesOwn.never rfl (@dh0 _ _ _ _ _ _ _ _ _ B.zip (@c5 _ _ _ _ _ (pv 1) (@c5 _ _ _ _ _ (pv 2) (@c6 _) (by rfl)) (by rfl)) (by rfl) (by rfl) (by rfl)) (@M1 _ _ _ _ _ _ rfl (@q5 _ _ _ _ _ (@i7 _ _ (3) _ ag3.nd rfl (Or.inl rfl) (by trivial)) (@q5 _ _ _ _ _ (@i7 _ _ (4) _ ag3.nd rfl (Or.inl rfl) (by trivial)) (@J3 _) (by rfl)) (by rfl)) (by rfl) (by rfl)) (@g6 _ _ _ (@av4 _ _ _ _ _ _ _ _ _ hu (pv 0) (pv 3) (pv 4) rfl)) (by intro _;rfl)),?_⟩
   have nrd:r≠d:=fun z=>by rw[z,hd] at hrr;cases hrr
   have nmd:m≠d:=fun z=>by rw[z,hd] at hm;cases hm
   refine ⟨_,rfl,_,rfl,r,m,_,_,rfl,hrr,hm,dd1 (n:=rs.length) (fun i σ H2=>∃(v3 v4:Option V),σ=[some (.ref d),some (.ref r),some (.ref m),v3,v4]/\H2 d=some (.dK (J6 (es++(B7 rs ms).take i)))/\j5 d H H2)
     ⟨none,none,rfl,by rw[dz5,du0];exact hd,j5.refl _ _⟩
     (fun i σ H2 _ ⟨_,_,_,_,kb⟩=>⟨_,_,kb _ _ hrr nrd,kb _ _ hm nmd,dr6 ..,by rw[dr6,ln]⟩) ?_ ?_⟩
   · rintro i x y σ H2 tp xs zs hi hx hz ex ey ⟨v3,v4,rfl,h2d,kb⟩ htp;rw[kb _ _ hrr nrd] at hx;rw[kb _ _ hm nmd] at hz;cases hx;cases hz;obtain ⟨x,hx,rfl⟩:=D9 ex;obtain ⟨y,hy,rfl⟩:=D9 ey;have s3:c9 H2 (c8 H2 tp (.tup [.int x,.int y])):=c9.upd_new htp;have h3t:(c8 H2 tp (.tup [.int x,.int y])) tp=some (.tup [.int x,.int y]):=c7;generalize (c8 H2 tp (.tup [.int x,.int y]))=H3 at s3 h3t ⊢
     have ge:(B7 rs ms)[i]? =some (x,y):=by
       rw[ap0 hi,ds2,ds2,hx,hy];rfl
     have lse:=at6 rs ms
     have nz:x∉(es++(B7 rs ms).take i).map (·.1):=fun z=>by
       rw[ds5,ee4,bf3] at z
       rcases dt1.mp z with z|z
       · exact dis x (ds4 hx) z
       · obtain ⟨j,hj⟩:=dt7.mp z
         have jl:j < i:=by
           have:=(dr7.mp hj).1;rw[dt3] at this;omega
         rw[dx1 jl] at hj;obtain ⟨a1,a2⟩:=dr7.mp hj;obtain ⟨b1,b2⟩:=dr7.mp hx;exact du7.mp (dt0.mp nd) j i a1 b1 jl (by rw[a2,b2])
     have lk:(J6 (es++(B7 rs ms).take i)).length<=900:=by
       unfold J6;rw[dr6,ds6,dt3,lse];omega
     refine ⟨tp,_,rfl,R3.of h3t,rfl,_,_,rfl,_,_,rfl,rfl,?_⟩;refine ⟨_,rfl,_,rfl,_,rfl,d,_,rfl,aq2.k (k:=Sum.inl x) (s3 _ _ h2d) (t6 (by omega)),?_⟩;rw[cc3 nz];refine ⟨_,_,rfl,?_,(kb.trans (s3.but d)).upd_a⟩;rw[c7,i9 ge,<-dt5]
   · rintro σ H2 ⟨v3,v4,rfl,h2d,kb⟩;rw[<-at6 rs ms,du1] at h2d;exact q H2 h2d kb
def C4:List (List Int)->List (List Int)->List (List (Int×Int))
 |[],_=>[[]]
 |r::rs,is=>(A3 is is.length).flatMap fun y=>(C4 rs y.2).map fun w=>w++B7 r y.1
def cg8 (H:Hp)(u:Addr)(es:List (Int×Int)):Prop:=H u=some (.dK (J6 es))
theorem Q2:∀{rs is:List (List Int)} {w:List (Int×Int)},w∈C4 rs is->(w.map (·.1)).Perm rs.flatten
 |[],is,w,h=>by
  rw[ds8.mp (show w∈[[]] from h)];exact List.Perm.refl _
 |r::rs,is,w,h=>by
  obtain ⟨y,_,h2⟩:=dw9.mp (show w∈(A3 is is.length).flatMap fun y=>(C4 rs y.2).map fun w=>w++B7 r y.1 from h);obtain ⟨w',hw,rfl⟩:=ds9.mp h2;rw[ds5,bf3,dv5];exact ((Q2 hw).append_right r).trans dy5
def ad8 (f:Nat):Sp:=fun vs H Q _=>∃(l:Addr) (as:List Addr) (rs:List (List Int)) (li:Addr) (bs:List Addr) (is:List (List Int)) (len:Nat),vs=[.ref l,.ref li]/\H l=some (.lst (as.map V.ref))/\j9 H as rs/\H li=some (.lst (bs.map V.ref))/\j9 H bs is/\rs.length<=f/\(∀r∈rs,r.length=len)/\(∀r∈is,r.length=len)/\len<=40/\rs.length<=40/\is.length<=40/\rs.flatten.Nodup/\rs.flatten.length<=40/\(C4 rs is).length<=2000/\
 ∀(o:Addr) (us:List Addr) (H':Hp),H o=none->c9 H H'->H' o=some (.lst (us.map V.ref))->us.Nodup->(∀u∈us,H u=none)->D2 (cg8 H') us (C4 rs is)->Q (.ref o) H'
theorem cc9 {H:Hp}{e l:Addr}(he:H e=none)(hl:(c8 H e (.dK [])) l=none):H l=none/\c9 H (c8 (c8 H e (.dK [])) l (.lst [V.ref e]))/\D2 (cg8 (c8 (c8 H e (.dK [])) l (.lst [V.ref e]))) [e] [[]]:=by
 have nel:l≠e:=fun z=>by rw[z,c7] at hl;cases hl
 have hl0:H l=none:=by rw[g7 nel] at hl;exact hl
 refine ⟨hl0,(c9.upd_new he).upd_r hl0,rfl,fun j t x e1 e2=> ?_⟩
 rcases j with _|j
 · cases e1;cases e2;show c8 _ _ _ _=_;rw[g7 nel.symm,c7];rfl
 · cases e1
theorem E3:m8 ["rings","images","ways","image","left","way"] ["rings","images"] (j6 aa4):=by rfl'
theorem bv9 {f:Addr}{fd:FuncData}(F:A9 K "ways_over" "ways_over" aa4 f fd)(B:Bl mg)(zvy:l8 P w K mg base "picks_of" 1 ["rings"] ak3)(zqz:l8 P w K mg base "send_over" 1 ["target","ring","image"] aw9):p6 P w K mg base A8 2 f fd ["rings","images"] (ad8 0):=by
 refine F.ok E3 (fun vs H Q E h=> ?_) (fun cdv A outer s H vs Q E hr h=> ?_)
 · obtain ⟨l,as,rs,li,bs,is,len,rfl,hl,rows,hli,rowsI,lf,hlen,hlenI,len40,r40,i40,nd,fl40,few,q⟩:=h;rfl
 · obtain ⟨l,as,rs,li,bs,is,len,rfl,hl,rows,hli,rowsI,lf,hlen,hlenI,len40,r40,i40,nd,fl40,few,q⟩:=h;have zpx:m7 1 _:=hr.mono (by decide);have zkx:m7 1 _:=hr.mono (by decide);refine ⟨_,@e8 _ _ _ _ _ (@C3 _ _ _ _ _ _ _ _ (@p8 _ _ _ _ _ _ _ _ U5 (@p9 _ _ _ _ _ B.len (@c5 _ _ _ _ _ (pv 0) (@c6 _) (by rfl)) (by rfl) (by rfl)) (@i6 _ _ _ _) (w5 _)) (@g6 _ _ _ (@l9 _ _ _ _ (@p5 _ _ _ _ (@c5 _ _ _ _ _ (@V1 _ _) (@c6 _) (by rfl))))) (@y7 _)) (@e8 _ _ _ _ _ (@i8 _ _ (2) _ _ _ _ E3.nd rfl (Or.inl rfl) (@p5 _ _ _ _ (@c6 _)) (by rfl) (by trivial)) (@e8 _ _ _ _ _ (@n9 _ _ _ _ _ _ _ _ PassesOwn.never rfl (@w4 _ _ _ _ (@h8 _ _ _ _ _ _ _ _ _ _ zvy zpx (@c5 _ _ _ _ _ (pv 1) (@c6 _) (by rfl)) (by rfl) (by decide) (by rfl) (by rfl))) (@M1 _ _ _ _ _ _ rfl (@q5 _ _ _ _ _ (@i7 _ _ (3) _ E3.nd rfl (Or.inl rfl) (by trivial)) (@q5 _ _ _ _ _ (@i7 _ _ (4) _ E3.nd rfl (Or.inl rfl) (by trivial)) (@J3 _) (by rfl)) (by rfl)) (by rfl) (by rfl)) (@g6 _ _ _ (@n9 _ _ _ _ _ _ _ _ PassesOwn.never rfl (@w4 _ _ _ _ (@az4 _ _)) (@i7 _ _ (5) _ E3.nd rfl (Or.inl rfl) (by trivial)) (@e8 _ _ _ _ _ (@w6 _ _ _ _ (@h8 _ _ _ _ _ _ _ _ _ _ zqz zkx (@c5 _ _ _ _ _ (pv 5) (@c5 _ _ _ _ _ (@I0 _ _ _ _ _ _ _ B5 (pv 0) (@i6 _ _ _ _) (fun _ _=>rfl)) (@c5 _ _ _ _ _ (pv 3) (@c6 _) (by rfl)) (by rfl)) (by rfl)) (by rfl) (by decide) (by rfl) (by rfl)) (by rfl)) (@g6 _ _ _ (@w6 _ _ _ _ (@B0 _ _ _ _ _ _ _ (pv 2) (@c5 _ _ _ _ _ (pv 5) (@c6 _) (by rfl)) (by rfl) (by rfl) (by rfl) (by rfl) (by rfl)) (by rfl)))) (by intro _;rfl))) (by intro _;rfl)) (@g6 _ _ _ (@l9 _ _ _ _ (pv 2))))),?_⟩;refine ⟨_,rfl,l,_,rfl,.inl (g9.of hl),rfl,_,rfl,?_⟩;have er:rs=[]:=eb5 (by omega);subst er;rw[dr6,rows.1];refine O7 (fun _=> ?_) (fun h=>absurd (decide_eq_true rfl) h)
   refine fun e he=>⟨(show 1<=sizeLine by decide),fun o ho=> ?_⟩
   obtain ⟨a1,a2,a3⟩:=cc9 he ho;exact q o [e] _ a1 a2 c7 (by simp) (fun b hb=>by rw[ds8.mp hb];exact he) a3
theorem bn9 {d k:Nat}{f:Addr}{fd:FuncData}(F:A9 K "ways_over" "ways_over" aa4 f fd)(B:Bl mg)(zvy:l8 P w K mg base "picks_of" 1 ["rings"] ak3)(zo:l8 P w K mg base "ways_over" (k+2) ["rings","images"] (ad8 d))(zqz:l8 P w K mg base "send_over" 1 ["target","ring","image"] aw9):p6 P w K mg base A8 (k+2+1) f fd ["rings","images"] (ad8 (d+1)):=by
 refine F.ok E3 (fun vs H Q E h=> ?_) (fun cdv A outer s H vs Q E hr h=> ?_)
 · obtain ⟨l,as,rs,li,bs,is,len,rfl,hl,rows,hli,rowsI,lf,hlen,hlenI,len40,r40,i40,nd,fl40,few,q⟩:=h;rfl
 · obtain ⟨l,as,rs,li,bs,is,len,rfl,hl,rows,hli,rowsI,lf,hlen,hlenI,len40,r40,i40,nd,fl40,few,q⟩:=h;have zpx:m7 1 _:=hr.mono (by omega);have zj:m7 (k+2) _:=hr.mono (by omega);have zkx:m7 1 _:=hr.mono (by omega);refine ⟨_,@e8 _ _ _ _ _ (@C3 _ _ _ _ _ _ _ _ (@p8 _ _ _ _ _ _ _ _ U5 (@p9 _ _ _ _ _ B.len (@c5 _ _ _ _ _ (pv 0) (@c6 _) (by rfl)) (by rfl) (by rfl)) (@i6 _ _ _ _) (w5 _)) (@g6 _ _ _ (@l9 _ _ _ _ (@p5 _ _ _ _ (@c5 _ _ _ _ _ (@V1 _ _) (@c6 _) (by rfl))))) (@y7 _)) (@e8 _ _ _ _ _ (@i8 _ _ (2) _ _ _ _ E3.nd rfl (Or.inl rfl) (@p5 _ _ _ _ (@c6 _)) (by rfl) (by trivial)) (@e8 _ _ _ _ _ (@n9 _ _ _ _ _ _ _ _ PassesOwn.never rfl (@w4 _ _ _ _ (@h8 _ _ _ _ _ _ _ _ _ _ zvy zpx (@c5 _ _ _ _ _ (pv 1) (@c6 _) (by rfl)) (by rfl) (by decide) (by rfl) (by rfl))) (@M1 _ _ _ _ _ _ rfl (@q5 _ _ _ _ _ (@i7 _ _ (3) _ E3.nd rfl (Or.inl rfl) (by trivial)) (@q5 _ _ _ _ _ (@i7 _ _ (4) _ E3.nd rfl (Or.inl rfl) (by trivial)) (@J3 _) (by rfl)) (by rfl)) (by rfl) (by rfl)) (@g6 _ _ _ (@n9 _ _ _ _ _ _ _ _ PassesOwn.never rfl (@w4 _ _ _ _ (@h8 _ _ _ _ _ _ _ _ _ _ zo zj (@c5 _ _ _ _ _ (@N4 _ _ _ _ _ _ _ _ _ _ Q6 (pv 0) (@N8 _ _ _ (@i6 _ _ _ _)) (@T1 _)) (@c5 _ _ _ _ _ (pv 4) (@c6 _) (by rfl)) (by rfl)) (by rfl) (by decide) (by rfl) (by rfl))) (@i7 _ _ (5) _ E3.nd rfl (Or.inl rfl) (by trivial)) (@e8 _ _ _ _ _ (@w6 _ _ _ _ (@h8 _ _ _ _ _ _ _ _ _ _ zqz zkx (@c5 _ _ _ _ _ (pv 5) (@c5 _ _ _ _ _ (@I0 _ _ _ _ _ _ _ B5 (pv 0) (@i6 _ _ _ _) (fun _ _=>rfl)) (@c5 _ _ _ _ _ (pv 3) (@c6 _) (by rfl)) (by rfl)) (by rfl)) (by rfl) (by decide) (by rfl) (by rfl)) (by rfl)) (@g6 _ _ _ (@w6 _ _ _ _ (@B0 _ _ _ _ _ _ _ (pv 2) (@c5 _ _ _ _ _ (pv 5) (@c6 _) (by rfl)) (by rfl) (by rfl) (by rfl) (by rfl) (by rfl)) (by rfl)))) (by intro _;rfl))) (by intro _;rfl)) (@g6 _ _ _ (@l9 _ _ _ _ (pv 2))))),?_⟩;refine ⟨_,rfl,l,_,rfl,.inl (g9.of hl),rfl,_,rfl,?_⟩
   cases rs with
   |nil=>
    rw[dr6,rows.1];refine O7 (fun _=> ?_) (fun h=>absurd (decide_eq_true rfl) h)
    refine fun e he=>⟨(show 1<=sizeLine by decide),fun o ho=> ?_⟩
    obtain ⟨a1,a2,a3⟩:=cc9 he ho;exact q o [e] _ a1 a2 c7 (by simp) (fun b hb=>by rw[ds8.mp hb];exact he) a3
   |cons r0 rs=>
   obtain ⟨ra0,as,rfl⟩:∃a as',as=a::as':=by
     cases as with
     |nil=>have:=rows.1;simp at this
     |cons a as=>exact ⟨a,as,rfl⟩
   rw[decide_eq_false (fun z=>by have:=V.int.inj z;rw[dr6,dt9] at this;omega)];refine M4 ?_;refine ⟨du2 _,fun W hW=> ?_⟩;have s1:c9 H (c8 H W (.lst [])):=c9.upd_new hW;have h1W:(c8 H W (.lst [])) W=some (.lst (([]:List Addr).map V.ref)):=c7;generalize (c8 H W (.lst []))=H1 at s1 h1W ⊢;have nlW:l≠W:=g8 hl hW
   have ewf:C4 (r0::rs) is=(A3 is is.length).flatMap fun y=>(C4 rs y.2).map fun w=>w++B7 r0 y.1:=rfl
   rw[ewf] at few q;have h0a:H ra0=some (.lst (r0.map V.int)):=rows.2 0 ra0 r0 rfl rfl
   have g40:∀r∈is,r.length<=40:=fun r hr'=>by rw[hlenI r hr'];exact len40
   have rowsT:j9 H as rs:=⟨by simpa using rows.1,fun j a r e1 e2=>rows.2 (j+1) a r e1 e2⟩;rw[dv5] at nd fl40;have ndc:=dw4.mp nd;rw[ds6] at fl40;have l0:r0.length=len:=hlen r0 ds1;refine ⟨_,rfl,li,bs,is,[W],rfl,s1 _ _ hli,m9 rowsI fun b _ u e=>by rw[L5 fun z=>(g8 e hW) (ds8.mp z)];exact s1 _ _ e,fun z hz=>by rw[ds8.mp hz];exact ⟨_,h1W⟩,i40,g40,fun F ts H3 hF s3 h3F atp=> ?_⟩;have nFW:F≠W:=(g8 h1W hF).symm;have s03:=s1.trans s3
   refine ⟨F,rfl,⟨_,g9.of h3F⟩,A7 (K:=K) (a:=F) (xs:=ts.map V.ref) (fun j σ H4=>∃(us:List Addr) (v3 v4 v5:Option V),σ=[some (.ref l),some (.ref li),some (.ref W),v3,v4,v5]/\H4 W=some (.lst (us.map V.ref))/\us.Nodup/\(∀u∈us,H u=none)/\D2 (cg8 H4) us (((A3 is is.length).take j).flatMap fun y=>(C4 rs y.2).map fun w=>w++B7 r0 y.1)/\j5 W H3 H4)
     ⟨[],none,none,none,rfl,s3 _ _ h1W,dx7,(fun u hu=>by cases hu),D2.nil,j5.refl _ _⟩ (fun j σ H4 _ zz=>by obtain ⟨_,_,_,_,_,_,_,_,_,k⟩:=zz;exact g9.of (k _ _ h3F nFW)) ?_ ?_⟩
   · rintro j y σ H4 hj ⟨us,v3,v4,v5,rfl,h4W,und,ufr,atu,kb4⟩;rw[ds0] at hj;obtain ⟨t,ht,rfl⟩:=ed3.mp hj;obtain ⟨x,hx,px⟩:=atp.get ht;obtain ⟨c,xl,cs,k1,k2,k3,k4⟩:=px.keep (S7 (ds3 _ ds1) kb4);have g1:=(L6 k1).2;have g2:=(L6 k2).2;have g3:=(L6 k3).2
     have g4:=m9 k4 fun b _ u e=>(L6 e).2
     have ncW:c≠W:=fun z=>(L6 k2).1 (by rw[z];simp)
     have xm:=ds4 hx;obtain ⟨sub1,sub2⟩:=V6 _ xm;obtain ⟨pm,plen,r',hr',pr'⟩:=W7 _ (dr9 _) xm;have s04:c9 H H4:=s03.kb kb4 hW;refine ⟨t,_,rfl,R3.of g1,rfl,_,_,rfl,_,_,rfl,rfl,?_⟩;refine ⟨_,rfl,_,rfl,l,_,rfl,g9.of (s04 _ _ hl),fun sl hsl=> ?_⟩
     have ec:N9 ((ra0::as).map V.ref) (some 1) none=as.map V.ref:=by
       unfold N9;rw[show (some (1:Int))=some ((1:Nat):Int) from rfl,HT.dq1,HT.do7,ed0 (by simp),dy4 (by simp)];rfl
     rw[ec];have s5:c9 H4 (c8 H4 sl (.lst (as.map V.ref))):=c9.upd_new hsl;have h5s:(c8 H4 sl (.lst (as.map V.ref))) sl=some (.lst (as.map V.ref)):=c7;generalize (c8 H4 sl (.lst (as.map V.ref)))=H5 at s5 h5s ⊢;have tot:=aw5 (f:=fun y:List Int×List (List Int)=>(C4 rs y.2).map fun w=>w++B7 r0 y.1) hx;rw[dr6] at tot;refine ⟨_,rfl,sl,as,rs,xl,cs,x.2,len,rfl,h5s,m9 rowsT fun b _ u e=>s5 _ _ (s04 _ _ e),s5 _ _ g3,m9 g4 fun b _ u e=>s5 _ _ e,by rw[dt9] at lf;omega,fun r hr=>hlen r (ds3 _ hr),fun r hr=>hlenI r (sub2 r hr),len40,by rw[dt9] at r40;omega,by omega,ndc.2.1,by omega,by omega,fun o vs H6 ho s6 h6o vnd vno atv=> ?_⟩;have h5W:=s5 _ _ h4W
     have Wv:W∉vs:=fun z=>by have:=vno W z;rw[h5W] at this;cases this
     have usv:∀u∈us,u∉vs:=fun u hu z=>by
       obtain ⟨jj,hjj⟩:=dt7.mp hu;obtain ⟨w,_,hw⟩:=atu.get hjj;have e:=vno u z;rw[s5 _ _ hw] at e;cases e
     have ov:o∉vs:=fun z=>by
       obtain ⟨jj,hjj⟩:=dt7.mp z;obtain ⟨w,_,hw⟩:=atv.get hjj;have hw:H6 o=_:=hw;rw[h6o] at hw;cases hw
     have noW:o≠W:=(g8 h5W ho).symm;have aul:=atu.1;have vl:=atv.1
     have inv:∀{b:Addr} {u:HO},H5 b=some u->b∉vs:=fun {b u} e z=>by have:=vno b z;rw[e] at this;cases this
     have g5l:=s5 _ _ (s04 _ _ hl);have g5a:=s5 _ _ (s04 _ _ h0a);have g5c:=s5 _ _ g2;have naW:ra0≠W:=g8 h0a hW
     refine ⟨o,rfl,⟨_,g9.of h6o⟩,A7 (K:=K) (a:=o) (xs:=vs.map V.ref) (fun k σ H7=>∃(v5:Option V),σ=[some (.ref l),some (.ref li),some (.ref W),some (.ref c),some (.ref xl),v5]/\H7 W=some (.lst ((us++vs.take k).map V.ref))/\D2 (cg8 H7) (us++vs.take k) (((A3 is is.length).take j).flatMap (fun y=>(C4 rs y.2).map fun w=>w++B7 r0 y.1)++((C4 rs x.2).take k).map fun w=>w++B7 r0 x.1)/\(∀jj,k<=jj->∀u w,vs[jj]? =some u->(C4 rs x.2)[jj]? =some w->H7 u=some (.dK (J6 w)))/\(∀a u,a≠W->a∉vs->H6 a=some u->H7 a=some u))
       ⟨v5,rfl,by rw[dz5,du0];exact s6 _ _ h5W,by rw[dz5,dz5,ed1,du0,du0];exact atu.imp fun u w _ h=>s6 _ _ (s5 _ _ h),fun jj _ u w e1 e2=>atv.2 jj u w e1 e2,fun a u _ _ e=>e⟩ (fun k σ H7 _ zz=>by obtain ⟨_,_,_,_,_,kk⟩:=zz;exact g9.of (kk _ _ noW ov h6o)) ?_ ?_⟩
     · rintro k y σ H7 hk ⟨v5,rfl,h7W,at7,todo,keep7⟩;rw[ds0] at hk;obtain ⟨u,hu,rfl⟩:=ed3.mp hk;obtain ⟨w,hw,_⟩:=atv.get hu;have h7u:H7 u=some (.dK (J6 w)):=todo k (dr9 _) u w hu hw;have um:=ds4 hu
       have nuW:u≠W:=fun z=>Wv (z▸um)
       have wk:=Q2 (ds4 hw)
       have wl:w.length=rs.flatten.length:=by rw[<-wk.length_eq,dr6]
       refine ⟨_,rfl,_,rfl,l,_,_,_,rfl,rfl,g9.of (keep7 _ _ nlW (inv g5l) (s6 _ _ g5l)),G7 (j:=0) rfl,_,rfl,u,ra0,c,w,r0,x.1,rfl,h7u,keep7 _ _ naW (inv g5a) (s6 _ _ g5a),keep7 _ _ ncW (inv g5c) (s6 _ _ g5c),by rw[l0,pr'.length_eq,hlenI r' hr'],ndc.1,fun z hz hz2=>ndc.2.2 z hz z (wk.mem_iff.mp hz2) rfl,by omega,by omega,fun H8 h8u kb8=> ?_⟩;have h8W:=kb8 _ _ h7W nuW.symm;have ltk:(vs.take k).length<=vs.length:=List.length_take_le' _ _;refine ⟨_,rfl,.inl ⟨rfl,_,g9.of h8W⟩,_,rfl,W,_,_,rfl,rfl,h8W,dw0 (show _<=2000 by rw[dr6,ds6];omega) (by decide),?_⟩;rw[show (us++vs.take k).map V.ref++[V.ref u]=(us++vs.take (k+1)).map V.ref by rw[i9 hu,<-dt5,ds5 (l₂:=[u])];rfl]
       have un:∀t∈us++vs.take k,t≠u:=fun t ht z=>by
         subst z
         rcases dt1.mp ht with y|y
         · exact usv t y um
         · obtain ⟨jj,hjj⟩:=dt7.mp y;rw[eg0] at hjj
           by_cases c:jj < k
           · rw[if_pos c] at hjj;have a1:=(dr7.mp hjj).1;have a2:=(dr7.mp hu).1;exact du7.mp (dt0.mp vnd) jj k a1 a2 c (by rw[(dr7.mp hjj).2,(dr7.mp hu).2])
           · rw[if_neg c] at hjj;cases hjj
       refine ⟨_,rfl,c7,?_,fun jj hjj u2 w2 e1 e2=> ?_,fun a v na nv e=> ?_⟩
       · have ea:us++vs.take (k+1)=(us++vs.take k)++[u]:=by rw[i9 hu,dt5]
         have eb:((C4 rs x.2).take (k+1)).map (fun w=>w++B7 r0 x.1)=((C4 rs x.2).take k).map (fun w=>w++B7 r0 x.1)++[w++B7 r0 x.1]:=by rw[i9 hw,ds5];rfl
         rw[ea,eb,<-dt5];refine D2.snoc (at7.imp fun t w2 ht h=> ?_) ?_
         · have h:H7 t=some (.dK (J6 w2)):=h;show c8 H8 W _ t=_;rw[g7 (show t≠W from fun z=>by rw[z,h7W] at h;cases h)];exact kb8 _ _ h (un t ht)
         · show c8 H8 W _ u=_;rw[g7 nuW,h8u]
       · have h:=todo jj (by omega) u2 w2 e1 e2;show c8 H8 W _ u2=_;rw[g7 (show u2≠W from fun z=>Wv (z▸ds4 e1))]
         refine kb8 _ _ h fun z=> ?_
         subst z;have a1:=(dr7.mp e1).1;have a2:=(dr7.mp hu).1;exact du7.mp (dt0.mp vnd) k jj a2 a1 (by omega) (by rw[(dr7.mp e1).2,(dr7.mp hu).2])
       · rw[g7 na]
         exact kb8 _ _ (keep7 a v na nv e) fun z=>nv (z▸um)
     · rintro σ H7 ⟨v5,rfl,h7W,at7,todo,keep7⟩;rw[dr6,du1] at h7W at7;rw[vl,du1] at at7;refine ⟨us++vs,_,_,v5,rfl,h7W,?_,fun u hu=> ?_,?_,fun a u e na=> ?_⟩
       · rw[dw4];exact ⟨und,vnd,fun a ha b hb e=>usv a ha (e▸hb)⟩
       · rcases dt1.mp hu with z|z
         · exact ufr u z
         · exact (s04.trans s5).free (vno u z)
       · rw[i9 hx,dy6,dw8,eb3,du0];exact at7
       · have e5:=s5 _ _ (kb4 _ _ e na);exact keep7 a u na (inv e5) (s6 _ _ e5)
   · rintro σ H4 ⟨us,v3,v4,v5,rfl,h4W,und,ufr,atu,kb4⟩;rw[dr6,atp.1,du1] at atu;exact ⟨_,rfl,q W us H4 hW (s03.kb kb4 hW) h4W und ufr atu⟩
end
end My
namespace My
open PySem L2 Mth
section
variable {P:Program} {w:World} {K:PySem.W.Frag} {mg:Str->Option Value} {base:Heap} {zx zt zry zxy zxx ztz zvx zty ztx zsz zrx:Addr}
theorem bm2 {k:Nat}:∀{rs is:List (List Int)},rs.length=is.length->(∀r∈is,r.length=k)->(C4 rs is).length=E2 k rs.length
 |[],is,_,_=>rfl
 |r::rs,is,hl,hk=>by
  have e:∀y∈A3 is is.length,((C4 rs y.2).map fun w=>w++B7 r y.1).length=E2 k rs.length:=fun y hy=>by
    rw[dr6];have pl:=(W7 _ (dr9 _) hy).2.1;have ps:=(V6 _ hy).2;rw[dt9] at hl
    exact bm2 (by omega) fun r hr=>hk r (ps r hr)
  show ((A3 is is.length).flatMap fun y=>(C4 rs y.2).map fun w=>w++B7 r y.1).length=E2 k (rs.length+1);rw[aa1 e,at2 hk _ (dr9 _)];show _=E2 k rs.length*k*(rs.length+1);rw[<-hl,dt9,ea5,ea5 (rs.length+1) k,dz0]
def N3 (rs:List (List Int))(k:Nat):List (List (Int×Int)):=C4 (p7 rs k) (p7 rs k)
theorem at8 (rs:List (List Int))(k:Nat):(N3 rs k).length=E2 k (o4 rs k):=by
 unfold N3;rw[bm2 rfl fun r hr=>(C8 hr).2]
 congr 1
 unfold p7 o4;rw[dx9]
noncomputable def E7 (p:List Int):Nat:=o7 (aa5 p) ((du8 p.length).map (· +1))
structure ap1 (p:List Int)(ts:List (List Int)):Prop where
 len:ts.length=E7 p
 srt:ts.Pairwise (fun r r'=>HT.av2 r' r=false)
 src:∃ks:List Nat,ks.Nodup/\(∀k∈ks,∃r∈i4 p p.length,r.length=k)/\(∀r∈i4 p p.length,r.length∈ks)/\ts.Perm (K1 p (ks.map (N3 (i4 p p.length))))
def bw0:Sp:=fun vs H Q _=>∃(a:Addr) (p:List Int),vs=[.ref a]/\B9 H a p/\E7 p<=2000/\∀(o:Addr) (bs:List Addr) (ts:List (List Int)) (H':Hp),H o=none->H' o=some (.lst (bs.map V.ref))->j9 H' bs ts->ap1 p ts->bs.Nodup->(∀b∈bs,H b=none)->o∉bs->Kp H H'->Q (.ref o) H'
theorem ay1:m8 ["p","by_length"] ["p"] (j6 an3):=by rfl'
theorem aa2:(["length","by_length"]:List Str).Nodup:=by decide+kernel
theorem bz1 {f:Addr}{fd:FuncData}(F:A9 K "all_past" "all_past" an3 f fd)(zuy:l8 P w K mg base "must_be_few" 1 ["many"] be8)(zyz:l8 P w K mg base "how_many_past" 4 ["p"] bp3)(zzz:l8 P w K mg base "sort_by_length" 1 ["rings"] ad7)(zzy:l8 P w K mg base "walk_rings" 2 ["p"] O1)(zwx:l8 P w K mg base "lay_every_way" 1 ["p","choices"] bp5)(zo:l8 P w K mg base "ways_over" 42 ["rings","images"] (ad8 40)):p6 P w K mg base A8 43 f fd ["p"] bw0:=by
 refine F.ok ay1 (fun vs H Q E h=> ?_) (fun cdv A outer s H vs Q E hr h=> ?_)
 · obtain ⟨a,p,rfl,⟨ha,tp,lp⟩,few,q⟩:=h;rfl
 · obtain ⟨a,p,rfl,⟨ha,tp,lp⟩,few,q⟩:=h;have zl:m7 1 _:=hr.mono (by decide);have zuz:m7 4 _:=hr.mono (by decide);have zy:m7 1 _:=hr.mono (by decide);have zv:m7 2 _:=hr.mono (by decide);have zox:m7 1 _:=hr.mono (by decide);have zj:m7 42 _:=hr.mono (by decide);have hu:=T2 hr;refine ⟨_,@e8 _ _ _ _ _ (@w6 _ _ _ _ (@h8 _ _ _ _ _ _ _ _ _ _ zuy zl (@c5 _ _ _ _ _ (@h8 _ _ _ _ _ _ _ _ _ _ zyz zuz (@c5 _ _ _ _ _ (pv 0) (@c6 _) (by rfl)) (by rfl) (by decide) (by rfl) (by rfl)) (@c6 _) (by rfl)) (by rfl) (by decide) (by rfl) (by rfl)) (by rfl)) (@e8 _ _ _ _ _ (@i8 _ _ (1) _ _ _ _ ay1.nd rfl (Or.inr rfl) (@h8 _ _ _ _ _ _ _ _ _ _ zzz zy (@c5 _ _ _ _ _ (@h8 _ _ _ _ _ _ _ _ _ _ zzy zv (@c5 _ _ _ _ _ (pv 0) (@c6 _) (by rfl)) (by rfl) (by decide) (by rfl) (by rfl)) (@c6 _) (by rfl)) (by rfl) (by decide) (by rfl) (by rfl)) (by rfl) (by trivial)) (@g6 _ _ _ (@l9 _ _ _ _ (@h8 _ _ _ _ _ _ _ _ _ _ zwx zox (@c5 _ _ _ _ _ (pv 0) (@c5 _ _ _ _ _ (@aj4 _ _ _ _ _ _ _ _ _ _ _ (["length","by_length"]) (1) ([1]) rfl .of (@av6 _ _ _ _ (pv 1)) (fun _ _ _ _ _=>@i7 _ _ (0) _ aa2 rfl (Or.inl rfl) (by trivial)) (fun _ _ _ _ _=>(@al7 _)) (fun _ _ _ _ _=>(@h8 _ _ _ _ _ _ _ _ _ _ zo zj (@c5 _ _ _ _ _ (@ad3 _ _ _ _ _ _ hu (pv 1) (pv 0) (fun _ _=>rfl)) (@c5 _ _ _ _ _ (@ad3 _ _ _ _ _ _ hu (pv 1) (pv 0) (fun _ _=>rfl)) (@c6 _) (by rfl)) (by rfl)) (by rfl) (by decide) (by rfl) (by rfl))) (by intro _;rfl)) (@c6 _) (by rfl)) (by rfl)) (by rfl) (by decide) (by rfl) (by rfl))))),?_⟩;refine ⟨_,rfl,a,p,rfl,⟨ha,tp,lp⟩,fun H1 s1=> ?_⟩;refine ⟨_,rfl,(show ((E7 p:Nat):Int)<=2000 by omega),?_⟩;refine ⟨_,rfl,a,p,rfl,⟨s1 a _ ha,tp,lp⟩,fun l as rs H2 hl s12 h2l rows up fa nda nla=> ?_⟩;have cl:=aa0 up;have fl:=S5 tp up;have ers:rs=i4 p p.length:=up.eq;refine ⟨l,as,rs,rfl,h2l,rows,by omega,fun d es H3 hd s23 h3d bl les fre=> ?_⟩;have s02:c9 H H2:=s1.trans s12;have s03:=s02.trans s23;have hd0:H d=none:=s02.free hd;refine ⟨_,rfl,_,rfl,d,o6 es,rfl,h3d,fun o=> ?_⟩;have sB:c9 H2 (c8 H3 d (.frz o (.dK (o6 es)))):=s23.upd_r hd;have hBd:(c8 H3 d (.frz o (.dK (o6 es)))) d=some (.frz o (.dK (o6 es))):=c7
   have kpB:∀c,c≠d->(c8 H3 d (.frz o (.dK (o6 es)))) c=H3 c:=fun c hc=>g7 hc
   generalize (c8 H3 d (.frz o (.dK (o6 es))))=HB at sB hBd kpB ⊢
   have lkv:(o6 es).length=es.length:=by unfold o6;rw[dr6]
   have hprod:o7 (fun l=>E2 l (o4 rs l)) (es.map (·.1))=E7 p:=by
     have hg:∀l,aa5 p (l+1)=E2 (l+1) (o4 rs (l+1)):=fun l=>by
       unfold aa5 be2;rw[W3 tp up (l+1),dy0 _ (by omega)]
     unfold E7;rw[ar5 tp up bl.nk bl.key bl.all hg]
   have one:∀l c,1<=l->1<=E2 l c:=fun l c hl=>by
     induction c with
     |zero=>exact dr9 _
     |succ c ih=>exact ec3 (ec3 ih hl) (Nat.succ_pos _)
   have kpos:∀k∈es.map (·.1),1<=k/\k<=40:=fun k hk=>by
     obtain ⟨r,hr,lr⟩:=bl.key k hk;have:=rsb tp up r hr;omega
   have pos:∀k∈es.map (·.1),1<=E2 k (o4 rs k):=fun k hk=>one k _ (kpos k hk).1
   have fl40:∀k,(p7 rs k).flatten.length<=40/\(p7 rs k).length<=40:=fun k=>by
     have e2:=(G8 rs k).length_le
     have e3:(p7 rs k).length<=rs.length:=by unfold p7;exact dz9 _ _
     omega
   have s0B:=s02.trans sB
   refine cm7 (d:=d) (o:=o) (kvs:=o6 es) (fun i ys σ H6=>∃(v:Option V) (cs:List Addr),σ=[v,some (.ref d)]/\ys=cs.map V.ref/\D2 (bv2 H6) cs (((es.take i).map (·.1)).map (N3 rs))/\c9 HB H6)
     ⟨none,[],rfl,rfl,D2.nil,c9.refl _⟩ (fun i ys σ H6 _ ⟨_,_,_,_,_,k⟩=>k _ _ hBd) ?_ ?_
   · rintro i k v ys σ H6 hi ⟨v0,cs,rfl,rfl,atc,s6⟩;unfold o6 at hi;rw[ds0] at hi;obtain ⟨e,hE,ee⟩:=ed3.mp hi;cases ee;have he:=ds4 hE;have hek:e.1∈es.map (·.1):=ds9.mpr ⟨e,he,rfl⟩;have il:i < es.length:=(dr7.mp hE).1;obtain ⟨bs,hbs,rbs⟩:=bl.row e he;have h6e:H6 e.2=some (.lst (bs.map V.ref)):=s6 _ _ (by rw[kpB _ (bl.nd e he)];exact hbs);have h6d:=s6 _ _ hBd;have s26:c9 H2 H6:=sB.trans s6
     have rb6:=m9 rbs fun b _ u x=>s26 _ _ x
     have rl:∀r∈p7 rs e.1,r.length=e.1:=fun r hr=>(C8 hr).2
     have wle:(C4 (p7 rs e.1) (p7 rs e.1)).length<=2000:=by
       have:=at8 rs e.1;unfold N3 at this;rw[this];refine dt4 (cc7 (g:=fun l=>E2 l (o4 rs l)) pos hek) ?_;rw[hprod];exact few
     refine ⟨_,rfl,_,rfl,d,.ref e.2,rfl,.inl ⟨o6 es,Sum.inl (e.1:Int),.inr ⟨o,h6d⟩,rfl,(as4 bl.nk he).symm⟩,_,rfl,_,rfl,d,.ref e.2,rfl,.inl ⟨o6 es,Sum.inl (e.1:Int),.inr ⟨o,h6d⟩,rfl,(as4 bl.nk he).symm⟩,e.2,bs,p7 rs e.1,e.2,bs,p7 rs e.1,e.1,rfl,h6e,rb6,h6e,rb6,(fl40 e.1).2,rl,rl,(kpos e.1 hek).2,(fl40 e.1).2,(fl40 e.1).2,(G8 rs e.1).nodup up.nd,(fl40 e.1).1,wle,fun oo us H8 hoo s8 h8o und ufr atw=> ?_⟩;refine ⟨t6 (by rw[dr6,atc.1,dr6,dr6,dt3];omega),_,cs++[oo],rfl,by rw[ds5];rfl,?_,s6.trans s8⟩;rw[i9 hE,ds5,ds5];refine D2.snoc (atc.imp fun c ways _ h=>h.keep s8) ⟨us,h8o,?_⟩
     exact atw.imp fun u es _ h=> .inl h
   · rintro ys σ H6 ⟨v0,cs,rfl,rfl,atc,s6⟩ D hD;rw[lkv,du1] at atc;have s7:c9 H6 (c8 H6 D (.lst (cs.map V.ref))):=c9.upd_new hD;have h7D:(c8 H6 D (.lst (cs.map V.ref))) D=some (.lst (cs.map V.ref)):=c7;generalize (c8 H6 D (.lst (cs.map V.ref)))=H7 at s7 h7D ⊢;have s07:=s0B.trans (s6.trans s7)
     have cntk:∀k∈es.map (·.1),(N3 rs k).length=E2 k (o4 rs k):=fun k _=>at8 rs k
     refine ⟨a,D,p,cs,(es.map fun (x:Nat×Addr)=>x.1).map (N3 rs),rfl,s07 _ _ ha,lp,h7D,atc.imp fun c ways _ h=>h.keep s7,fun ways hw x hx=> ?_,fun i=> ?_,fun oo bs ts H8 hoo h8o rowsB pr srt bnd bfr ob kp=> ?_⟩
     · obtain ⟨k,hk,rfl⟩:=ds9.mp hw;have wk:=Q2 (show x∈C4 (p7 rs k) (p7 rs k) from hx);refine ⟨wk.nodup_iff.mpr ((G8 rs k).nodup up.nd),fun e he=> ?_⟩;have em:=(G8 rs k).mem (wk.mem_iff.mp (ds9.mpr ⟨e,he,rfl⟩));obtain ⟨r,hr,hxr⟩:=dt2.mp em;obtain ⟨y,L,hy,pr2,er,_⟩:=up.ring r hr;rw[er] at hxr;exact O9 tp hy _ hxr
     · rw[<-ee4,T0 p (N3 rs) (fun l=>E2 l (o4 rs l)) _ _ (dr9 _) fun k hk=>cntk k (dx8 hk)];refine dt4 (bl9 pos i) ?_;rw[hprod];exact few
     · refine q oo bs ts H8 (s07.free hoo) h8o rowsB ⟨?_,srt,es.map (·.1),bl.nk,by rw[<-ers];exact bl.key,by rw[<-ers];exact bl.all,by rw[<-ers];exact pr⟩ bnd (fun b hb=>s07.free (bfr b hb)) ob ((Kp.of s07).trans kp);rw[pr.length_eq,T0 p (N3 rs) (fun l=>E2 l (o4 rs l)) _ _ (dr9 _) cntk,hprod]
end
end My
namespace My
open PySem L2 Mth
section
def Q3 (p t:List Int):Prop:=j7 t/\t.length=p.length/\j8 t p=j8 p t
theorem dd2 {p t:List Int}(h:Q3 p t){x:Int}(hx:Mth.In p x):nx t (nx p x)=nx p (nx t x):=by
 obtain ⟨tt,tl,c⟩:=h;have hu:Mth.In t x:=⟨hx.1,by rw[tl];exact hx.2⟩;have a:=G2 hx;have b:=G2 hu;unfold x4 at a b
 have e:(j8 t p)[x.toNat]? =(j8 p t)[x.toNat]? :=by rw[c]
 unfold Mth.j8 at e;rw[ds0,ds0,a,b] at e;exact Option.some.inj e
theorem ak9 {p t:List Int}(tp:j7 p)(h:Q3 p t){x:Int}(hx:Mth.In p x):∀j,nx t (it p j x)=it p j (nx t x)
 |0=>rfl
 |j+1=>by
  show nx t (nx p (it p j x))=nx p (it p j (nx t x));rw[dd2 h (G1 tp hx j),ak9 tp h hx j]
theorem dd3 {p t:List Int}(h:Q3 p t){x:Int}(hx:Mth.In p x):Mth.In p (nx t x):=by
 have:=T4 h.1 (x:=x) ⟨hx.1,by rw[h.2.1];exact hx.2⟩;exact ⟨this.1,by rw[<-h.2.1];exact this.2⟩
theorem cv5 {p t:List Int}(tp:j7 p)(h:Q3 p t){x:Int}{L:Nat}(hx:Mth.In p x)(pr:D5 p x L):D5 p (nx t x) L:=by
 have inu:∀j,Mth.In t (it p j x):=fun j=>by have:=G1 tp hx j;exact ⟨this.1,by rw[h.2.1];exact this.2⟩
 refine ⟨pr.pos,by rw[<-ak9 tp h hx,pr.back],fun i i0 il e=> ?_⟩;rw[<-ak9 tp h hx] at e;exact pr.least i i0 il (U2 h.1 (inu i) (inu 0) e)
theorem dd4 {p t:List Int}(tp:j7 p)(h:Q3 p t){l:Nat}(l0:0 < l){r s:List Int}(hr:Rg p l r)(hs:Rg p l s):N0 t (B7 r s)=true↔s.getD 0 0=nx t (r.getD 0 0):=by
 obtain ⟨er,ir,pr⟩:=T8 l0 hr;obtain ⟨es,is,ps⟩:=T8 l0 hs;have lr:=Q5 hr;have ls:=Q5 hs;rw[ak8];constructor
 · intro k;have:=k (r.getD 0 0,s.getD 0 0) (ds4 (ap0 (by omega)));exact this.symm
 · intro e x hx;obtain ⟨j,hj⟩:=ec8 hx
   have jl:j < r.length:=by rw[<-at6 r s];exact (dr7.mp hj).1
   rw[ap0 jl] at hj;cases Option.some.inj hj;show nx t (r.getD j 0)=s.getD j 0;rw[er,es,D3 (by omega),D3 (by omega),ak9 tp h ir,<-e]
theorem bf4 {p t:List Int}(tp:j7 p)(h:Q3 p t){l:Nat}(l0:0 < l):∀(rs is:List (List Int)),(∀r∈rs,Rg p l r)->(∀r∈is,Rg p l r)->rs.flatten.Nodup->is.flatten.Nodup->(∀r∈rs,nx t (r.getD 0 0)∈is.flatten)->(C4 rs is).countP (N0 t)=1
 |[],is,_,_,_,_,_=>rfl
 |r::rs,is,hr,hi,nr,ni,im=>by
  rw[dv5,dw4] at nr;have r0:=hr r ds1;obtain ⟨er,ir,pr⟩:=T8 l0 r0;show ((A3 is is.length).flatMap fun y=>(C4 rs y.2).map fun w=>w++B7 r y.1).countP (N0 t)=1;rw[W8 (g:=fun y=>decide (y.1.getD 0 0=nx t (r.getD 0 0))) fun y hy=> ?_]
  · exact bv5 ni (im r ds1)
  · have yr:=aw7 tp hi _ (dr9 _) hy;obtain ⟨pm,_,_⟩:=W7 _ (dr9 _) hy;have ps:=(V6 _ hy).2;rw[dy2];have ok:=dd4 tp h l0 r0 yr
    by_cases c:y.1.getD 0 0=nx t (r.getD 0 0)
    · rw[if_pos (decide_eq_true c)];have pn:=pm.nodup_iff.mpr ni;rw[dw4] at pn;rw[<-bf4 tp h l0 rs y.2 (fun q hq=>hr q (ds3 _ hq)) (fun q hq=>hi q (ps q hq)) nr.2.1 pn.2.1 fun q hq=> ?_]
      · refine dz1 fun w _=> ?_
        simp only[Function.comp];rw[ak7,ed4];exact ⟨fun z=>z.1,fun z=>⟨z,ok.mpr c⟩⟩
      · have qi:=im q (ds3 _ hq)
        rcases dt1.mp (pm.mem_iff.mpr qi) with z|z
        · exfalso;obtain ⟨ey,iy,py⟩:=T8 l0 yr;rw[ey] at z;obtain ⟨j,jl,ej⟩:=A5.mp z;rw[c,<-ak9 tp h ir] at ej;have q0:=hr q (ds3 _ hq);obtain ⟨eq,iq,pq⟩:=T8 l0 q0
          have inx:∀{u:Int},Mth.In p u->Mth.In t u:=fun {u} hu=>⟨hu.1,by rw[h.2.1];exact hu.2⟩
          have e2:=U2 h.1 (inx iq) (inx (G1 tp ir j)) ej
          have m1:q.getD 0 0∈r:=by rw[e2,er,<-er];rw[er];exact A5.mpr ⟨j,jl,by rw[D3 l0];rfl⟩
          have m2:q.getD 0 0∈rs.flatten:=dt2.mpr ⟨q,hq,by rw[x8 (by rw[Q5 q0];exact l0)];exact dv7 _⟩;exact nr.2.2 _ m1 _ m2 rfl
        · exact z
    · rw[if_neg (fun z=>c (of_decide_eq_true z))]
      refine dz8.mpr fun w _ z=>c ?_
      simp only[Function.comp] at z;rw[ak7,ed4] at z;exact ok.mp z.2
end
end My
namespace My
open PySem L2 Mth
section
theorem au0 {p:List Int}{rs:List (List Int)}(up:y8 p p.length rs){k:Nat}{r:List Int}(hr:r∈p7 rs k):Rg p k r:=by
 obtain ⟨a,b⟩:=C8 hr;have:=ak5 up a;rw[b] at this;exact this
theorem ax0 {rs:List (List Int)}{r:List Int}(hr:r∈rs):r∈p7 rs r.length:=by
 unfold p7;exact du4.mpr ⟨hr,decide_eq_true rfl⟩
theorem cv6 {p t:List Int}(tp:j7 p)(h:Q3 p t){k:Nat}(k0:0 < k){rs:List (List Int)}(up:y8 p p.length rs):(N3 rs k).countP (N0 t)=1:=by
 have nd:=(G8 rs k).nodup up.nd
 refine bf4 tp h k0 _ _ (fun r hr=>au0 up hr) (fun r hr=>au0 up hr) nd nd fun r hr=> ?_
 obtain ⟨er,ir,pr⟩:=T8 k0 (au0 up hr);have i2:=dd3 h ir;have p2:=cv5 tp h ir pr;obtain ⟨q,hq,hm⟩:=dt2.mp (up.all _ i2.1 i2.2);have pq:=(ab8 tp (ak5 up hq) hm).2.1;have:=pq.uniq p2;exact dt2.mpr ⟨q,by rw[<-this];exact ax0 hq,hm⟩
theorem bf5 {p:List Int}(tp:j7 p){rs:List (List Int)}(up:y8 p p.length rs){k:Nat}{es:List (Int×Int)}(h:es∈N3 rs k):(es.map (·.1)).Nodup/\∀x∈es.map (·.1),Mth.In p x/\J9 p x=k:=by
 have wk:=Q2 (show es∈C4 (p7 rs k) (p7 rs k) from h);refine ⟨wk.nodup_iff.mpr ((G8 rs k).nodup up.nd),fun x hx=> ?_⟩;obtain ⟨r,hr,hxr⟩:=dt2.mp (wk.mem_iff.mp hx);have:=ab8 tp (au0 up hr) hxr;exact ⟨this.1,this.2.2⟩
theorem ap2 {p t:List Int}(tp:j7 p)(h:Q3 p t){ks:List Nat}(nk:ks.Nodup)(h1:∀k∈ks,∃r∈i4 p p.length,r.length=k)(h2:∀r∈i4 p p.length,r.length∈ks):(K1 p (ks.map (N3 (i4 p p.length)))).countP (fun u=>decide (u=t))=1:=by
 have up:=C6 tp;generalize i4 p p.length=rs at up h1 h2 ⊢;have pt:p.length=t.length:=h.2.1.symm
 have k0:∀k∈ks,0 < k:=fun k hk=>by
   obtain ⟨r,hr,e⟩:=h1 k hk;have:=(rsb tp up r hr).1;omega
 unfold K1;rw[ai7,dw8,eb3,du0,dy2];refine Eq.trans (dz1 fun es hes=> ?_) (ao9 (t:=t) fun k hk=>cv6 tp h (k0 k hk) up);show decide (w9 p es=t)=true↔N0 t es=true;obtain ⟨ess,pk,rfl⟩:=ao8 hes;obtain ⟨knd,kin,kall⟩:=ag2 (p:=p) ks nk (fun k hk es hes=>bf5 tp up hes) pk
 have put:=ab7 ess.flatten p knd fun e he=>(kin e.1 (ds9.mpr ⟨e,he,rfl⟩)).1
 rw[decide_eq_true_iff,ak8];constructor
 · intro e x hx;have a:=put x hx;have b:=(kin x.1 (ds9.mpr ⟨x,hx,rfl⟩)).1;rw[e,G2 ⟨b.1,by rw[<-pt];exact b.2⟩] at a;exact Option.some.inj a
 · intro ok
   refine dv3 fun i=> ?_
   by_cases hi:i < p.length
   · have hx:Mth.In p (i:Int):=⟨by omega,by omega⟩;obtain ⟨r0,hr0,hxr⟩:=dt2.mp (up.all _ hx.1 hx.2);obtain ⟨es,hes,hef⟩:=kall r0.length (h2 r0 hr0);have xk:=(Q2 (show es∈C4 (p7 rs r0.length) (p7 rs r0.length) from hef)).mem_iff.mpr (dt2.mpr ⟨r0,ax0 hr0,hxr⟩);obtain ⟨e,he,ex⟩:=ds9.mp xk;have hef:e∈ess.flatten:=dt2.mpr ⟨es,hes,he⟩;have a:=put e hef;have b:=G2 (p:=t) (x:=(i:Int)) ⟨hx.1,by rw[<-pt];exact hx.2⟩;have ok:=ok e hef;rw[ex] at a ok;rw[<-ok,<-b] at a;unfold x4 at a;rw[dw1] at a;exact a
   · rw[ds7 (by rw[X8];omega),ds7 (by omega)]
theorem cg9 {r s:List Int}(h:r.length=s.length):(B7 r s).map (·.2)=s:=by
 unfold B7;rw[dx2]
 refine List.ext_getElem (by simp [h]) fun i h1 h2=> ?_
 rw[List.getElem_map,List.getElem_range];show s.getD i 0=s[i];exact x8 h2
theorem bw1 {p:List Int}(tp:j7 p){l:Nat}:∀{rs is:List (List Int)} {w:List (Int×Int)},rs.length=is.length->(∀r∈rs,r.length=l)->(∀r∈is,Rg p l r)->w∈C4 rs is->(w.map (·.2)).Perm is.flatten/\∀r∈rs,∃s,Rg p l s/\∀e∈B7 r s,e∈w
 |[],is,w,hl,_,_,h=>by
  rw[ds8.mp (show w∈[[]] from h)];have:is=[]:=eb5 hl.symm;rw[this];exact ⟨List.Perm.refl _,fun r hr=>by cases hr⟩
 |r::rs,is,w,hl,hr,hi,h=>by
  obtain ⟨y,hy,h2⟩:=dw9.mp (show w∈(A3 is is.length).flatMap fun y=>(C4 rs y.2).map fun w=>w++B7 r y.1 from h);obtain ⟨w',hw,rfl⟩:=ds9.mp h2;have yr:=aw7 tp hi _ (dr9 _) hy;obtain ⟨pm,pl,_⟩:=W7 _ (dr9 _) hy;have ps:=(V6 _ hy).2;rw[dt9] at hl;obtain ⟨a,b⟩:=bw1 tp (by omega) (fun q hq=>hr q (ds3 _ hq)) (fun q hq=>hi q (ps q hq)) hw;refine ⟨?_,fun q hq=> ?_⟩
  · rw[ds5,cg9 (by rw[Q5 yr];exact hr r ds1)];exact ((a.append_right y.1).trans dy5).trans pm
  · rcases dt8.mp hq with rfl|hq
    · exact ⟨y.1,yr,fun e he=>du5 _ he⟩
    · obtain ⟨s,hs,k⟩:=b q hq;exact ⟨s,hs,fun e he=>dx3 _ (k e he)⟩
theorem bw2 {f:Nat->List (List (Int×Int))}:∀(ks:List Nat) {ess:List (List (Int×Int))},(∀k∈ks,∀es∈f k,(es.map (·.2)).Perm (es.map (·.1)))->Pkd ess (ks.map f)->(ess.flatten.map (·.2)).Perm (ess.flatten.map (·.1))
 |[],ess,_,pk=>by
  cases pk;exact List.Perm.refl _
 |k::ks,ess,h,pk=>by
  cases pk with
  |cons hes pk=>
   rename_i es ess;rw[dv5,ds5,ds5];exact (h k ds1 es hes).append (bw2 ks (fun k hk=>h k (ds3 _ hk)) pk)
theorem au1 {p:List Int}(tp:j7 p){ks:List Nat}(nk:ks.Nodup)(h1:∀k∈ks,∃r∈i4 p p.length,r.length=k)(h2:∀r∈i4 p p.length,r.length∈ks){t:List Int}(ht:t∈K1 p (ks.map (N3 (i4 p p.length)))):Q3 p t:=by
 have up:=C6 tp;generalize i4 p p.length=rs at up h1 h2 ht
 have k0:∀k∈ks,0 < k:=fun k hk=>by
   obtain ⟨r,hr,e⟩:=h1 k hk;have:=(rsb tp up r hr).1;omega
 obtain ⟨t0,ht0,ess,pk,rfl⟩:=bb0 _ _ ht;rw[ds8.mp ht0];obtain ⟨knd,kin,kall⟩:=ag2 (p:=p) ks nk (fun k hk es hes=>bf5 tp up hes) pk
 have put:=ab7 ess.flatten p knd fun e he=>(kin e.1 (ds9.mpr ⟨e,he,rfl⟩)).1
 have img:∀{k:Nat} {es:List (Int×Int)},es∈N3 rs k->(es.map (·.2)).Perm (p7 rs k).flatten/\∀r∈p7 rs k,∃s,Rg p k s/\∀e∈B7 r s,e∈es:=fun {k es} h=>bw1 tp rfl (fun r hr=>(C8 hr).2) (fun r hr=>au0 up hr) h
 have vals:=bw2 ks (fun k _ es hes=>(img hes).1.trans (Q2 (show es∈C4 (p7 rs k) (p7 rs k) from hes)).symm) pk;generalize hT:w9 p ess.flatten=t at put
 have tl:t.length=p.length:=by rw[<-hT,X8]
 have go:∀r∈rs,∃z,Mth.In p z/\D5 p z r.length/\∀j,j < r.length->x4 t (r.getD j 0)=some (it p j z):=fun r hr=>by
   obtain ⟨es,hes,hef⟩:=kall r.length (h2 r hr);obtain ⟨s,hs,k⟩:=(img hef).2 r (ax0 hr);have l0:=k0 _ (h2 r hr);obtain ⟨esz,iz,pz⟩:=T8 l0 hs;refine ⟨s.getD 0 0,iz,pz,fun j hj=> ?_⟩;have:=put (r.getD j 0,s.getD j 0) (dt2.mpr ⟨es,hes,k _ (ds4 (ap0 hj))⟩);rw[show s.getD j 0=it p j (s.getD 0 0) by conv=>lhs;rw[esz,D3 hj]] at this;exact this
 have keys_perm:(ess.flatten.map (·.1)).Perm (L2.K4 0 p.length):=by
   refine (ed8 knd (O8 _)).mpr fun x=>⟨fun hx=>G0.mpr (kin x hx).1,fun hx=> ?_⟩
   have hx:=G0.mp hx;obtain ⟨r0,hr0,hxr⟩:=dt2.mp (up.all _ hx.1 hx.2);obtain ⟨es,hes,hef⟩:=kall r0.length (h2 r0 hr0);have xk:=(Q2 (show es∈C4 (p7 rs r0.length) (p7 rs r0.length) from hef)).mem_iff.mpr (dt2.mpr ⟨r0,ax0 hr0,hxr⟩);obtain ⟨e,he,ex⟩:=ds9.mp xk;exact ds9.mpr ⟨e,dt2.mpr ⟨es,hes,he⟩,ex⟩
 have tt:j7 t:=by
   have e1:ess.flatten.map (·.2)=(ess.flatten.map (·.1)).map (nx t):=by
     rw[dx2]
     refine dy3 fun e he=> ?_
     have a:=put e he;have b:=(kin e.1 (ds9.mpr ⟨e,he,rfl⟩)).1;rw[G2 ⟨b.1,by rw[tl];exact b.2⟩] at a;exact (Option.some.inj a).symm
   have e2:t=(L2.K4 0 p.length).map (nx t):=by
     refine dv3 fun i=> ?_
     unfold L2.K4;rw[ds0,ds0]
     by_cases hi:i < p.length
     · rw[dv4 hi];have b:=G2 (p:=t) (x:=(i:Int)) ⟨by omega,by omega⟩;unfold x4 at b;rw[dw1] at b;rw[b];show _=some (nx t (0+(i:Int)));rw[Int.zero_add]
     · rw[ds7 (by omega),ds7 (by rw[du6];omega)];rfl
   have pt:t.Perm (L2.K4 0 p.length):=by
     rw[e2];exact ((keys_perm.map (nx t)).symm.trans (by rw[<-e1];exact vals)).trans keys_perm
   exact (N5 pt).1
 refine ⟨tt,tl,?_⟩
 refine dv3 fun i=> ?_
 unfold Mth.j8;rw[ds0,ds0]
 by_cases hi:i < p.length
 · have hx:Mth.In p (i:Int):=⟨by omega,by omega⟩;obtain ⟨r,hr,hxr⟩:=dt2.mp (up.all _ hx.1 hx.2);obtain ⟨z,iz,pz,k⟩:=go r hr;obtain ⟨y,L,hy,pr,er,_⟩:=up.ring r hr
   have rl:r.length=L:=by rw[er,n6]
   rw[er] at hxr;obtain ⟨j,jl,ej⟩:=A5.mp hxr
   have kk:∀j,j < L->x4 t (it p j y)=some (it p j z):=fun j hj=>by
     have:=k j (by omega);rw[er,D3 hj] at this;exact this
   have k2:x4 t (it p (j+1) y)=some (it p (j+1) z):=by
     by_cases c:j+1 < L
     · exact kk _ c
     · have:j+1=L:=by omega
       rw[this,pr.back];have b:=pz.back;rw[rl] at b;rw[b];exact kk 0 pr.pos
   have a1:=G2 hx;have a2:=kk j jl;rw[<-ej] at a2;unfold x4 at a1 a2 k2;rw[dw1] at a1 a2;rw[a1,a2];show some (t.getD (nx p (i:Int)).toNat 0)=some (nx p (it p j z));rw[show nx p (i:Int)=it p (j+1) y by rw[ej];rfl,ds2,k2];rfl
 · rw[ds7 (by omega),ds7 (by omega)];rfl
theorem ap1.once {p t:List Int}{ts:List (List Int)}(h:ap1 p ts)(tp:j7 p)(g:Q3 p t):ts.countP (fun u=>decide (u=t))=1:=by
 obtain ⟨ks,nk,h1,h2,pm⟩:=h.src;rw[pm.countP_eq];exact ap2 tp g nk h1 h2
theorem ap1.mem {p t:List Int}{ts:List (List Int)}(h:ap1 p ts)(tp:j7 p):t∈ts↔Q3 p t:=by
 obtain ⟨ks,nk,h1,h2,pm⟩:=h.src;refine ⟨fun m=>au1 tp nk h1 h2 (pm.mem_iff.mp m),fun g=> ?_⟩;have:=h.once tp g;obtain ⟨u,hu,e⟩:=ee7.mp (show 0 < ts.countP (fun u=>decide (u=t)) by omega);rw[<-of_decide_eq_true e];exact hu
theorem ap1.nd {p:List Int}{ts:List (List Int)}(h:ap1 p ts)(tp:j7 p):ts.Nodup:=Y0 fun t ht=>h.once tp ((h.mem tp).mp ht)
end
end My
namespace My
open PySem L2 Mth
section
variable {P:Program} {w:World} {K:PySem.W.Frag} {mg:Str->Option Value} {base:Heap} {zx zt zry zxy zxx ztz zvx zty ztx zsz zrx:Addr}
theorem ay2 {n:Nat}{q:List Int}(h:(n:Int)∉q)(k:Nat):(Q0 n q k).erase (n:Int)=q:=by
 unfold Q0;rw[dt5,List.erase_append_right _ (fun z=>h (dx8 z)),List.singleton_append,List.erase_cons_head,dx0]
theorem bw3 {n:Nat}{q:List Int}(h:(n:Int)∉q){k:Nat}(hk:k<=q.length):(Q0 n q k).idxOf (n:Int)=k:=by
 unfold Q0;rw[dt5,List.idxOf_append,if_neg (fun z=>h (dx8 z)),List.singleton_append,List.idxOf_cons_self,dt3];omega
theorem ax1 {n:Nat}{q:List Int}(h:q∈R0 n):(n:Int)∉q:=fun z=>by
 obtain ⟨t,l⟩:=(S6 n q).mp h;have:=t.hi _ z;omega
theorem cd0:∀n,(R0 n).Nodup
 |0=>by decide
 |n+1=>by
  show ((R0 n).flatMap (ai5 n)).Nodup;rw[dt0,List.pairwise_flatMap];refine ⟨fun q hq=> ?_,?_⟩
  · unfold ai5;rw[ea8];refine List.Pairwise.imp_of_mem (fun {a b} ha hb hab e=> ?_) (ei2 (n:=q.length+1));rw[dv6] at ha hb;have:=congrArg (fun (l:List Int)=>l.idxOf (n:Int)) e;rw[bw3 (ax1 hq) (by omega),bw3 (ax1 hq) (by omega)] at this;omega
  · refine List.Pairwise.imp_of_mem (fun {a b} ha hb hab x hx y hy e=> ?_) (dt0.mp (cd0 n));obtain ⟨k,_,rfl⟩:=ds9.mp hx;obtain ⟨j,_,rfl⟩:=ds9.mp hy;have:=congrArg (fun (l:List Int)=>l.erase (n:Int)) e;rw[ay2 (ax1 ha),ay2 (ax1 hb)] at this;exact hab this
theorem bm3 {p:List Int}(tp:j7 p):E7 p=((R0 p.length).filter fun t=>decide (j8 t p=j8 p t)).length:=by
 have up:=C6 tp
 obtain ⟨ks,eks⟩:∃ks,ks=(du8 (p.length+1)).filter fun k=>decide (k∈(i4 p p.length).map List.length):=⟨_,rfl⟩
 have nk:ks.Nodup:=by rw[eks];exact ee8.sublist ea7
 have h1:∀k∈ks,∃r∈i4 p p.length,r.length=k:=fun k hk=>by
   rw[eks,du4,decide_eq_true_iff] at hk;obtain ⟨r,hr,e⟩:=ds9.mp hk.2;exact ⟨r,hr,e⟩
 have h2:∀r∈i4 p p.length,r.length∈ks:=fun r hr=>by
   rw[eks,du4,decide_eq_true_iff,dv6];have l1:=(eg5 hr).length_le;have l2:=S5 tp up;exact ⟨by omega,ds9.mpr ⟨r,hr,rfl⟩⟩
 have len:(K1 p (ks.map (N3 (i4 p p.length)))).length=E7 p:=by
   have hg:∀l,aa5 p (l+1)=E2 (l+1) (o4 (i4 p p.length) (l+1)):=fun l=>by
     unfold aa5 be2;rw[W3 tp up (l+1),dy0 _ (by omega)]
   rw[T0 p (N3 (i4 p p.length)) (fun l=>E2 l (o4 (i4 p p.length) l)) _ _ (dr9 _) fun k _=>at8 _ k];unfold E7;exact ar5 tp up nk h1 h2 hg
 rw[<-len];refine ((ed8 (Y0 fun t ht=>ap2 tp (au1 tp nk h1 h2 ht) nk h1 h2) ((cd0 _).sublist ea7)).mpr fun t=> ?_).length_eq;rw[du4,S6,decide_eq_true_iff];constructor
 · intro h;obtain ⟨a,b,c⟩:=au1 tp nk h1 h2 h;exact ⟨⟨a,b⟩,c⟩
 · rintro ⟨⟨a,b⟩,c⟩;have:=ap2 tp ⟨a,b,c⟩ nk h1 h2;obtain ⟨u,hu,e⟩:=ee7.mp (show 0 < (K1 p (ks.map (N3 (i4 p p.length)))).countP (fun u=>decide (u=t)) by omega);rw[<-of_decide_eq_true e];exact hu
theorem cv7 {p:List Int}(tp:j7 p)(lp:p.length<=6):E7 p<=720:=by
 rw[bm3 tp];exact dt4 (dz9 _ _) (bl2 lp)
def Kn (H H':Hp):Prop:=∀x u,H x=some u->(∀kvs,u≠.dK kvs)->H' x=some u
theorem Kn.trans {H H' H'':Hp}(a:Kn H H')(b:Kn H' H''):Kn H H'':=fun x u e n=>b x u (a x u e n) n
theorem Kn.of {H H':Hp}(s:c9 H H'):Kn H H':=fun x u e _=>s x u e
theorem Kn.kp {H H':Hp}(s:Kp H H'):Kn H H':=s.nd
theorem Kn.lst {H H':Hp}(k:Kn H H'){a:Addr}{xs:List V}(e:H a=some (.lst xs)):H' a=some (.lst xs):=k a _ e (fun kvs z=>by cases z)
theorem Kn.seq {H H':Hp}(k:Kn H H'){a:Addr}{xs:List V}(h:g9 K H a xs):g9 K H' a xs:=by
 rcases h with (h|⟨o,h⟩)|h
 · exact .inl (.inl (k _ _ h (fun kvs z=>by cases z)))
 · exact .inl (.inr ⟨o,k _ _ h (fun kvs z=>by cases z)⟩)
 · exact .inr h
theorem Kn.pool {H H':Hp}{g:Addr}{c:Nat}(k:Kn H H')(h:D4 H g c):D4 H' g c:=by
 obtain ⟨x,y,z,e1,e2⟩:=h;exact ⟨x,y,z,k.lst e1,e2⟩
theorem Kn.turn {H H':Hp}{a:Addr}{p:List Int}(k:Kn H H')(h:B9 H a p):B9 H' a p:=⟨k.lst h.1,h.2⟩
theorem Kn.rows {H H':Hp}(k:Kn H H'){as:List Addr}{rs:List (List Int)}(h:j9 H as rs):j9 H' as rs:=⟨h.1,fun j a r e1 e2=>k.lst (h.2 j a r e1 e2)⟩
end
end My
namespace My
open PySem L2 Mth
section
structure ad9 (p q t:List Int):Prop where
 len:t.length=p.length
 at_:∀(L k:Nat) (r s:List Int),(p7 (i4 p p.length) L)[k]? =some r->(p7 (i4 q q.length) L)[k]? =some s->∀j,j < r.length->x4 t (r.getD j 0)=some (s.getD j 0)
theorem bm4 {rs qs:List (List Int)}(h:(rs.map fun r=>(r.length:Int)).Perm (qs.map fun r=>(r.length:Int)))(L:Nat):(p7 rs L).length=(p7 qs L).length:=by
 have:=h.countP_eq (fun x=>decide (x=(L:Int)));rw[dy2,dy2] at this;unfold p7;rw[<-dx9,<-dx9]
 have e:∀l:List (List Int),(l.countP ((fun x=>decide (x=(L:Int)))∘fun r=>(r.length:Int)))=l.countP fun r=>decide (r.length=L):=fun l=>dz1 fun r _=>by simp only[Function.comp,decide_eq_true_eq];omega
 rw[e,e] at this;exact this
theorem bb2:∀{rs:List (List Int)} {r s:List Int} {x:Int},rs.flatten.Nodup->r∈rs->s∈rs->x∈r->x∈s->r=s
 |u::rs,r,s,x,nd,hr,hs,xr,xs=>by
  rw[dv5,dw4] at nd
  rcases dt8.mp hr with e1|h1
  · rcases dt8.mp hs with e2|h2
    · rw[e1,e2]
    · exact absurd rfl (nd.2.2 x (e1▸xr) x (dt2.mpr ⟨s,h2,xs⟩))
  · rcases dt8.mp hs with e2|h2
    · exact absurd rfl (nd.2.2 x (e2▸xs) x (dt2.mpr ⟨r,h1,xr⟩))
    · exact bb2 nd.2.1 h1 h2 xr xs
theorem bi5:∀{rs:List (List Int)},rs.flatten.Nodup->(∀r∈rs,r≠[])->rs.Nodup
 |[],_,_=>dx7
 |u::rs,nd,ne=>by
  rw[dv5,dw4] at nd;refine dw2.mpr ⟨fun z=> ?_,bi5 nd.2.1 fun r hr=>ne r (ds3 _ hr)⟩;obtain ⟨x,hx⟩:=List.exists_mem_of_ne_nil u (ne u ds1);exact absurd rfl (nd.2.2 x hx x (dt2.mpr ⟨u,z,hx⟩))
theorem co6 {α:Type}{as:List α}(nd:as.Nodup){i j:Nat}{x:α}(h:as[i]? =some x)(g:as[j]? =some x):i=j:=by
 obtain ⟨l1,e1⟩:=dr7.mp h;obtain ⟨l2,e2⟩:=dr7.mp g
 rcases Nat.lt_trichotomy i j with z|z|z
 · exact absurd (e1.trans e2.symm) (du7.mp (dt0.mp nd) i j l1 l2 z)
 · exact z
 · exact absurd (e2.trans e1.symm) (du7.mp (dt0.mp nd) j i l2 l1 z)
theorem au2 {as:List Addr}{j:Nat}{x:V}(h:(as.map V.ref)[j]? =some x):∃a,as[j]? =some a/\x=V.ref a:=by
 rw[ds0] at h
 cases e:as[j]? with
 |none=>rw[e] at h;cases h
 |some a=>rw[e] at h;exact ⟨a,rfl,(Option.some.inj h).symm⟩
theorem ag4 {H:Hp}{as:List Addr}{rs:List (List Int)}{j:Nat}{a:Addr}(rows:j9 H as rs)(h:as[j]? =some a):∃r,rs[j]? =some r/\H a=some (.lst (r.map V.int)):=by
 have il:j < rs.length:=by rw[<-rows.1];exact (dr7.mp h).1
 exact ⟨_,dr8 il,rows.2 j a _ h (dr8 il)⟩
theorem bw4 {rs:List (List Int)}{L:Nat}{r:List Int}(h:r∈p7 rs L):r∈rs/\r.length=L:=by
 unfold p7 at h;obtain ⟨a,b⟩:=du4.mp h;exact ⟨a,of_decide_eq_true b⟩
end
end My
namespace My
open PySem L2 Mth
section
theorem bm5 {p:List Int}{rs:List (List Int)}(tp:j7 p)(up:y8 p p.length rs){r:List Int}(hr:r∈rs){j:Nat}(hj:j < r.length):x4 p (r.getD j 0)=some (r.getD ((j+1)%r.length) 0):=by
 obtain ⟨y,L,hy,pr,er,_⟩:=up.ring r hr;subst er;rw[n6] at hj ⊢;rw[D3 hj,D3 (ea2 _ pr.pos),G2 (G1 tp hy j)]
 by_cases z:j+1=L
 · rw[z,Nat.mod_self];show some (it p (j+1) y)=some y;rw[z,pr.back]
 · rw[dy7 (by omega)];rfl
theorem bw5 {p q t:List Int}(tp:j7 p)(k:(K7 p).Perm (K7 q))(n:ad9 p q t){i:Nat}(h:i < p.length):∃(r s:List Int) (j u:Nat),(p7 (i4 p p.length) r.length)[u]? =some r/\(p7 (i4 q q.length) r.length)[u]? =some s/\r∈i4 p p.length/\s∈i4 q q.length/\r.length=s.length/\j < r.length/\r.getD j 0=(i:Int)/\∀u,u < r.length->x4 t (r.getD u 0)=some (s.getD u 0):=by
 have up:=C6 tp;have hm:((i:Nat):Int)∈(i4 p p.length).flatten:=(W2 tp up).mem_iff.mpr (G0.mpr ⟨by omega,by omega⟩);obtain ⟨r,hr,hi⟩:=dt2.mp hm;obtain ⟨j,hj⟩:=ec8 hi;have jl:j < r.length:=(dr7.mp hj).1;have m0:r∈p7 (i4 p p.length) r.length:=du4.mpr ⟨hr,decide_eq_true rfl⟩;obtain ⟨u,hu⟩:=ec8 m0;have ul:=(dr7.mp hu).1;rw[bm4 k r.length] at ul;have hs:=dr8 ul;have fs:=bw4 (ds4 hs);exact ⟨r,_,j,u,hu,hs,hr,fs.1,fs.2.symm,jl,by rw[ds2,hj];rfl,n.at_ r.length u r _ hu hs⟩
theorem ad9.conj {p q t:List Int}(tp:j7 p)(tq:j7 q)(k:(K7 p).Perm (K7 q))(n:ad9 p q t):j8 t p=j8 q t:=by
 refine dv3 fun i=> ?_
 by_cases h:i < p.length
 · obtain ⟨r,s,j,_,_,_,hr,hs,ls,jl,ei,at_⟩:=bw5 tp k n h;have m:(j+1)%r.length < r.length:=ea2 _ (by omega);have a1:=bm5 tp (C6 tp) hr jl;have a2:=at_ j jl;have a3:=at_ _ m;have a4:=bm5 tq (C6 tq) hs (show j < s.length by omega);rw[<-ls] at a4;rw[ei] at a1 a2;unfold x4 at a1 a2 a3 a4;rw[dw1] at a1 a2;unfold Mth.j8;rw[ds0,ds0,a1,a2];show some (t.getD _ 0)=some (q.getD _ 0)
   have b3:t.getD (r.getD ((j+1)%r.length) 0).toNat 0=s.getD ((j+1)%r.length) 0:=by rw[ds2 (l:=t),a3];rfl
   have b4:q.getD (s.getD j 0).toNat 0=s.getD ((j+1)%r.length) 0:=by rw[ds2 (l:=q),a4];rfl
   rw[b3,b4]
 · unfold Mth.j8;rw[ds0,ds0,ds7 (by omega),ds7 (by have:=n.len;omega)];rfl
theorem bb3 {p:List Int}(tp:j7 p):∀r∈i4 p p.length,r≠[]:=fun r hr z=>by
 obtain ⟨y,L,hy,pr,er,_⟩:=(C6 tp).ring r hr;have:=n6 p y L;rw[<-er,z] at this;have:=pr.pos;simp at*;omega
theorem ad9.isT {p q t:List Int}(tp:j7 p)(tq:j7 q)(hl:p.length=q.length)(k:(K7 p).Perm (K7 q))(n:ad9 p q t):j7 t:=by
 have fq:=W2 tq (C6 tq);have nfq:(i4 q q.length).flatten.Nodup:=fq.nodup_iff.mpr (O8 _)
 have val:∀i,i < p.length->∃(r s:List Int) (j u:Nat),(p7 (i4 p p.length) r.length)[u]? =some r/\(p7 (i4 q q.length) r.length)[u]? =some s/\s∈i4 q q.length/\r.length=s.length/\j < r.length/\r.getD j 0=(i:Int)/\t[i]? =some (s.getD j 0):=fun i h=>by
   obtain ⟨r,s,j,u,h1,h2,hr,hs,ls,jl,ei,at_⟩:=bw5 tp k n h;have a2:=at_ j jl;rw[ei] at a2;unfold x4 at a2;rw[dw1] at a2;exact ⟨r,s,j,u,h1,h2,hs,ls,jl,ei,a2⟩
 have bd:∀x∈t,0<=x/\x < (q.length:Int):=fun x hx=>by
   obtain ⟨i,hi⟩:=ec8 hx;have il:=(dr7.mp hi).1;rw[n.len] at il;obtain ⟨r,s,j,u,_,_,hs,ls,jl,_,e⟩:=val i il;rw[hi] at e;rw[Option.some.inj e]
   have:s.getD j 0∈s:=by rw[x8 (by omega)];exact dv7 _
   exact G0.mp (fq.mem_iff.mp (dt2.mpr ⟨s,hs,this⟩))
 refine ⟨?_,fun x hx=>(bd x hx).1,fun x hx=>by have:=(bd x hx).2;rw[n.len,hl];exact this⟩;rw[dt0,du7];intro i i' l l' lt e;obtain ⟨r,s,j,u,hr,hs,ms,ls,jl,ei,tv⟩:=val i (by rw[<-n.len];exact l);obtain ⟨r',s',j',u',hr',hs',ms',ls',jl',ei',tv'⟩:=val i' (by rw[<-n.len];exact l');rw[dr8 l] at tv;rw[dr8 l',<-e] at tv';have ev:s.getD j 0=s'.getD j' 0:=(Option.some.inj tv).symm.trans (Option.some.inj tv')
 have m1:s.getD j 0∈s:=by rw[x8 (by omega)];exact dv7 _
 have m2:s.getD j 0∈s':=by rw[ev,x8 (by omega)];exact dv7 _
 have es:=bb2 nfq ms ms' m1 m2;subst es
 have el:r.length=r'.length:=by omega
 rw[<-el] at hr' hs';have ndf:(p7 (i4 q q.length) r.length).Nodup:=List.Nodup.sublist ea7 (bi5 nfq (bb3 tq));have eu:=co6 ndf hs hs';subst eu;rw[hr] at hr';cases hr';have nds:s.Nodup:=nfq.sublist (eg5 ms)
 have ej:j=j':=by
   by_cases z:j=j'
   · exact z
   · exact absurd ev (J8 nds (by omega) (by omega) z)
 subst ej;rw[ei] at ei';omega
theorem cd1 {p q u:List Int}(ul:u.length=p.length)(cu:j8 u p=j8 q u){x:Int}(hx:Mth.In p x):nx u (nx p x)=nx q (nx u x):=by
 have hu:Mth.In u x:=⟨hx.1,by rw[ul];exact hx.2⟩;have a:=G2 hx;have b:=G2 hu;unfold x4 at a b
 have c:(j8 u p)[x.toNat]? =(j8 q u)[x.toNat]? :=by rw[cu]
 unfold Mth.j8 at c;rw[ds0,ds0,a,b] at c;exact Option.some.inj c
theorem al0 {p q u:List Int}(tp:j7 p)(ul:u.length=p.length)(cu:j8 u p=j8 q u){x:Int}(hx:Mth.In p x):∀j,nx u (it p j x)=it q j (nx u x)
 |0=>rfl
 |j+1=>by
  show nx u (nx p (it p j x))=nx q (it q j (nx u x));rw[cd1 ul cu (G1 tp hx j),al0 tp ul cu hx j]
theorem bw6 {p q u:List Int}(tp:j7 p)(tu:j7 u)(ul:u.length=p.length)(cu:j8 u p=j8 q u){x:Int}{L:Nat}(hx:Mth.In p x)(pr:D5 p x L):D5 q (nx u x) L:=by
 have inu:∀j,Mth.In u (it p j x):=fun j=>by have:=G1 tp hx j;exact ⟨this.1,by rw[ul];exact this.2⟩
 refine ⟨pr.pos,by rw[<-al0 tp ul cu hx,pr.back],fun i i0 il e=> ?_⟩;rw[<-al0 tp ul cu hx] at e;exact pr.least i i0 il (U2 tu (inu i) (inu 0) e)
theorem co7 {p q u:List Int}(tp:j7 p)(tq:j7 q)(hl:p.length=q.length)(tu:j7 u)(ul:u.length=p.length)(cu:j8 u p=j8 q u):(K7 p).Perm (K7 q):=by
 have per:∀i,i < p.length->J9 q (nx u (i:Int))=J9 p (i:Int):=fun i hi=>by
   have hx:Mth.In p (i:Int):=⟨by omega,by omega⟩;obtain ⟨r,hr,hm⟩:=dt2.mp ((W2 tp (C6 tp)).mem_iff.mpr (G0.mpr hx));obtain ⟨y,L,hy,pr,er,_⟩:=(C6 tp).ring r hr;rw[er] at hm;obtain ⟨j,jl,ej⟩:=A5.mp hm
   have px:D5 p (i:Int) L:=by rw[ej];exact pr.shift tp hy j
   rw[V2 px,V2 (bw6 tp tu ul cu hx px)]
 have cnt:∀L:Nat,1<=L->o4 (i4 p p.length) L=o4 (i4 q q.length) L:=fun L l1=>by
   have a:=W3 tp (C6 tp) L;have b:=W3 tq (C6 tq) L
   have c:((((du8 q.length).map fun (i:Nat)=>(J9 q (i:Int):Int))).countP fun i=>decide (i=(L:Int)))=u.countP fun x=>decide ((J9 q x:Int)=(L:Int)):=by
     rw[(tu.perm).countP_eq,ul,hl];unfold L2.K4;rw[dy2,dy2]
     refine dz1 fun i _=> ?_
     simp only[Function.comp,Int.zero_add]
   have d:(u.countP fun x=>decide ((J9 q x:Int)=(L:Int)))=(((du8 p.length).map fun (i:Nat)=>(J9 p (i:Int):Int))).countP fun i=>decide (i=(L:Int)):=by
     have eu:u=(du8 p.length).map fun i:Nat=>nx u (i:Int):=by
       refine dv3 fun i=> ?_
       rw[ds0]
       by_cases h:i < p.length
       · rw[dv4 h];have:=G2 (p:=u) (x:=(i:Int)) ⟨by omega,by omega⟩;unfold x4 at this;rw[dw1] at this;exact this
       · rw[ds7 (by omega),ds7 (by rw[du6];omega)];rfl
     conv=>lhs;rw[eu]
     rw[dy2,dy2]
     refine dz1 fun i hi=> ?_
     simp only[Function.comp];rw[per i (dv6.mp hi)]
   rw[c,d,a] at b;exact ec4 (by omega) b
 refine List.perm_iff_count.mpr fun x=> ?_
 unfold K7
 by_cases hx:∃L:Nat,1<=L/\x=(L:Int)
 · obtain ⟨L,l1,rfl⟩:=hx
   have e:∀l:List (List Int),List.count ((L:Nat):Int) (l.map fun r=>(r.length:Int))=o4 l L:=fun l=>by
     rw[List.count_eq_countP,dy2];unfold o4
     refine dz1 fun r _=> ?_
     simp only[Function.comp,beq_iff_eq,decide_eq_true_eq];omega
   rw[e,e,cnt L l1]
 · have z:∀{w:List Int} (_:j7 w),List.count x ((i4 w w.length).map fun r=>(r.length:Int))=0:=fun {w} tw=>by
     refine List.count_eq_zero.mpr fun m=> ?_
     obtain ⟨r,hr,e⟩:=ds9.mp m;exact hx ⟨r.length,List.length_pos_iff.mpr (bb3 tw r hr),e.symm⟩
   rw[z tp,z tq]
end
end My
namespace L2
open PySem PySem.Spec PyProof.Rows
section
variable {X:Cx}
theorem ap3 {prog:Program}{w:World}{κ:Type}[DecidableEq κ](knd:HeapKind prog w κ){k:κ}(d a:Addr)(hd:(d==sysModules)=false)(dflt:Value):
   MeetsIn prog w (Builtin.«dict.setdefault» ⟨[.ref d,.ref a,dflt],[]⟩) (fun A R s=>knd.room A.in1/\knd.is s.heap k a/\∃xs,s.heap.DictOfH knd d xs/\xs.length<=sizeLine/\
     (∀p,atKey xs k=some p->R (.ok (.ret p.2)) {s with toks:=s.toks+knd.draws k})/\
     (atKey xs k=none->∀h',h'.DictOfH knd d (xs++[(k,a,dflt)])->Heap.SameBut d s.heap h'->R (.ok (.ret dflt)) {s with heap:=h',toks:=s.toks+knd.draws k})):=
 .of_wp fun A R s ⟨hu,hkey,xs,hm,hz,h1,h2⟩=>by
   unfold Builtin.«dict.setdefault»;refine wpAny_bind ?_;unfold Builtin.Dict.keyAndDefault;refine wpAny_bind (wpAny_notOrdered_dict hm.typeIs ?_);show wpAny _ _ (pure (d,Value.ref a,some dflt)) _ _ s;refine wpAny_pure ?_;show wpAny _ _ (if (d==sysModules)=true then _ else (dictSetDefault d (.ref a) dflt >>=_)) _ _ s;rw[if_neg (by rw[hd];exact du3)];obtain ⟨o,es,ep,ho,hc,hdat,he,his,hn⟩:=id hm;refine wpAny_bind ?_;unfold dictSetDefault
   try with_reducible refine wpAny_holding ?_
   refine wpAny_bind (knd.pyHash hu hkey ?_);refine wpAny_bind (wpAny_dictFind_heap (s:={s with toks:=s.toks+knd.draws k}) hu hkey ho hdat he his hn (fun no=> ?_) (fun j p hj=> ?_))
   · have nk:=not_mem_keys_of_get no;have sz:=size_of_entries he
     refine wpAny_bind (wpAny_rule (wpAny_bind (wpAny_updateDictKeys (hz:=by omega) (s:={s with toks:=s.toks+knd.draws k}) ho hdat (wpAny_pure (wpAny_pure ⟨dflt,rfl,h2 (atKey_none_of_get no) _ ⟨_,_,ep+1,Heap.get?_update_self _ ho (Obj.isFreed_of_dict (Obj.data_mapDictKeys hdat _)),
       hc.mapDictKeys _,Obj.data_mapDictKeys hdat _,?_,?_,?_⟩ (Heap.SameBut.update ..)⟩)))))
     · rw[ds5,<-he];obtain ⟨l⟩:=es;simp [entryOfKey]
     · intro x hx
       rcases dt1.mp hx with z|z
       · exact knd.keeps (his x z) ho hdat (Heap.SameBut.update ..)
       · rw[ds8.mp z];exact knd.keeps hkey ho hdat (Heap.SameBut.update ..)
     · rw[ds5,dw4];exact ⟨hn,by simp,fun x hx y hy e=>nk (by have z:y=k:=ds8.mp hy;rw[<-z,<-e];exact hx)⟩
   · refine wpAny_bind (wpAny_dictEntries (s:={s with toks:=s.toks+knd.draws k}) ho hdat ?_);rw[entry_at he j,hj];exact wpAny_bind (wpAny_rule (wpAny_pure (wpAny_pure ⟨p.2,rfl,h1 p (atKey_of_get hn hj)⟩)))
def bw7:V->List V->Hp->VK->Prop:=fun x vs H Q=>∃(d b:Addr) (kvs:List (List o9×V)) (k:List o9) (y:V),x= .ref d/\vs=[.ref b,y]/\H d=some (.dT kvs)/\H b=some (.tup (k.map kV))/\kvs.length < sizeLine/\
 (∀v,A4 kvs k=some v->Q v H)/\(A4 kvs k=none->Q y (c8 H d (.dT (kvs++[(k,y)]))))
theorem ch1 (hu:X.A.units+1 < cLine):MtM X "dict.setdefault" bw7:=by
 intro pins s σ H x vs v us Q I rx rv h;obtain ⟨d,b,kvs,k,y,rfl,rfl,hH,hb,hlen,q1,q2⟩:=h;cases rx
 cases rv with
 |cons rk rr=>
  cases rr with
  |cons ry rn=>
   cases rn;cases rk;obtain ⟨z,hd,xs,rel,dd⟩:=ce4 I.hok hH
   refine call_meetsIn PySem.F.slot_dict_setdefault dd.typeIs PySem.F.entry_dict_setdefault (PySem.F.args_dict_setdefault_3 _ _ _) (ap3 (tupleKind (A6 X.prog X.w)) (k:=k) d b hd _)
     ⟨tupleKind_room_in1 hu,aj2 I.hok hb,xs,dd,by rw[<-Paired.length rel];exact z,fun p hp=> ?_,fun hn h' dd' hs=> ?_⟩
   · have:=rel.val k;rw[hp] at this
     cases hv:A4 kvs k with
     |none=>rw[hv] at this;cases this
     |some v=>
      rw[hv] at this;exact ⟨v,H,I.tok _,this,q1 v hv⟩
   · have hvn:A4 kvs k=none:=by
       have:=rel.val k;rw[hn] at this
       cases hv:A4 kvs k with
       |none=>rfl
       |some v=>rw[hv] at this;cases this
     obtain ⟨q,es,ep,hq,t2,t3,t4,_,t5⟩:=dd';refine ⟨y,_,aj3 (ob:= .dT (kvs++[(k,y)])) I (by rw[hH];exact True.intro) hs ⟨q,hq⟩ ⟨by rw[ds6];exact hlen,hd,_,KT.keeps (H:=H) (Paired.snoc rel ⟨rfl,hb,ry⟩) fun c ys ec=> ?_,q,es,ep,hq,t2,t3,t4,t5⟩,ry,q2 hvn⟩;rw[g7 (cd6 ec hH (fun z=>nomatch z))];exact ec
theorem ch2 {o e f:Expr}{to:TE}{t:TA}{apos pos:Pos}(hu:X.A.units+1 < cLine)(ho:PE X o to)(ha:PA X [e,f] t)
   (hbase:attributeBase o "setdefault" X.env (eval o X.env)=eval o X.env:=by rfl)
   (hfew:((backTo pos (starEach [e,f] X.env)).all (fun x=> !x.1)&&(backToKw pos (keywordEach [] X.env)).all (fun x=>x.1.isSome)
     &&decide ([e,f].length+([]:List Keyword).length+(if ([]:List Keyword).isEmpty then 0 else 1) < 30))=true:=by rfl)
   (hline:(apos.endLine==pos.line)=true:=by rfl) (hs:starEach [e,f] X.env=(false,eval e X.env)::starEach [f] X.env:=by rfl) (hplain:(backTo pos (starEach [f] X.env)).any (·.1)=false:=by rfl):
   PE X (.Call (.Attribute o "setdefault" apos) [e,f] [] pos) (tBM X.K "dict" bw7 to t):=
 bo8 PySem.F.plainAttrs_dict PySem.F.slot_dict_setdefault PySem.F.type_dict_setdefault (ch1 hu) ho ha hbase hfew hline hs hplain
end
end L2
namespace L2
open PySem PySem.Spec PyProof.Rows
section
variable {prog:Program} {w:World} {A:Around} {E:Value->Shared->Prop} {s:Shared} {it d v:Addr} {i ep:Nat} {es:Array DictEntry} {od:Obj}
theorem dd5 {Q:Value->Shared->Prop}(hv:s.heap.IsValuesView v d)(hod:s.heap.get? d=some od)(hdd:od.data= .dict es ep)
   (hQ:Q (.ref s.heap.objs.size) {s with heap:=s.heap.push {cls:= .type "dict_valueiterator",data:= .fields #[.ref d,.int 0 0,.int es.size 0,.int ep 0]}}):wpAny (model prog w) A (pyIter (.ref v)) Q E s:=by
 obtain ⟨ov,g1,g2,g3⟩:=id hv;refine wpAny_pyIter_slot hv.typeIs F.slot_dict_values_iter (wpAny_call_entry F.slot_dict_values_iter hv.typeIs F.entry_dict_values_iter ?_ (F.args_dict_values_iter_1 _));unfold Builtin.«dict_values.__iter__»;refine wpAny_bind (wpAny_pure (wpAny_bind ?_));unfold Builtin.Dict_items.dictOf;refine wpAny_bind (wpAny_field g1 g3 (x:= .ref d) rfl (wpAny_pure (wpAny_bind ?_)));unfold Builtin.Dict_items.newIterator;refine wpAny_bind (wpAny_dictEntries hod hdd (wpAny_bind (wpAny_dictEpoch hod hdd ?_)));simp only[show Builtin.Dict_items.ownsTuple "dict_valueiterator"=false by decide,dz3,if_false];exact wpAny_newObj_type (wpAny_pure ⟨_,rfl,"dict_valueiterator",_,⟨_,Heap.get?_push_size _ rfl,rfl⟩,F.slot_dict_valueiterator_next.lookup,by simpa [rawInt] using hQ⟩)
theorem dd6 {Q:Option Value->Shared->Prop}(hit:s.heap.IsValIter it d i es.size ep)(hod:s.heap.get? d=some od)(hdd:od.data= .dict es ep)(hlt:i < es.size)
   (hQ:∀h',h'.IsValIter it d (i+1) es.size ep->Heap.SameBut it s.heap h'->Q (some es[i].val) {s with heap:=h'}):wpAny (model prog w) A (pyNext (.ref it)) Q E s:=by
 obtain ⟨oi,g1,g2,g3⟩:=id hit;unfold pyNext;refine wpAny_bind (wpAny_attempt (wpAny_callSpecial?_slot (name:=Str.ofString "__next__") hit.typeIs F.slot_dict_valueiterator_next (wpAny_call_entry F.slot_dict_valueiterator_next hit.typeIs F.entry_dict_valueiterator_next ?_ (F.args_dict_valueiterator_next_1 _))));refine wpAny_bind (wpAny_pure (wpAny_bind (wpAny_bind ?_)))
 first|refine wpAny_bind (wpAny_typeNameOfWhole_valiter hit.typeIs (wpAny_pure ?_))|refine wpAny_bind (wpAny_typeNameOf_valiter hit.typeIs (wpAny_pure ?_))
 refine wpAny_bind (wpAny_fieldsOf g1 g3 ?_);simp only[show Builtin.Dict_items.ownsTuple "dict_valueiterator"=false by decide,dz3,if_false];show wpAny _ _ (if (Value.ref d==Value.none)=true then _ else _) _ _ s;rw[if_neg (show ¬((Value.ref d==Value.none)=true) from du3)];refine wpAny_bind (wpAny_pure (wpAny_bind (wpAny_dictEntries hod hdd ?_)));rw[if_neg (by simp)];refine wpAny_bind (wpAny_pure (wpAny_bind (wpAny_dictEpoch hod hdd ?_)));rw[if_neg (by simp)];refine wpAny_pure ?_;simp only[show ¬((i:Int) < 0) from by omega,if_false,dw1,ee1 hlt];refine wpAny_bind ?_
 first|refine wpAny_bind (wpAny_typeNameOfWhole_valiter hit.typeIs (wpAny_pure ?_))|refine wpAny_bind (wpAny_typeNameOf_valiter hit.typeIs (wpAny_pure ?_))
 refine wpAny_bind (wpAny_isOneOf_valiter hit.typeIs ?_);show wpAny _ _ (setField (.ref it) 1 (rawInt ((i:Int)+1)) >>=_) _ _ s;refine wpAny_bind (wpAny_setField g1 g3 (by simp) ?_)
 have nw:(s.heap.update it (Obj.mapFields (·.setIfInBounds 1 (rawInt ((i:Int)+1))))).IsValIter it d (i+1) es.size ep:=
   ⟨_,Heap.get?_update_self _ g1 (Obj.isFreed_of_fields (Obj.data_mapFields g3 _)),(Obj.cls_mapFields ..).trans g2,by rw[Obj.data_mapFields g3];simp [rawInt]⟩
 have sb:=Heap.SameBut.update (h:=s.heap) (a:=it) (f:=Obj.mapFields (·.setIfInBounds 1 (rawInt ((i:Int)+1))));have hQ':=hQ _ nw sb;generalize (s.heap.update it (Obj.mapFields (·.setIfInBounds 1 (rawInt ((i:Int)+1)))))=hn at nw hQ' ⊢;refine wpAny_bind (wpAny_holding (wpAny_bind (wpAny_isOneOf_valiter (s:={s with heap:=hn}) nw.typeIs (wpAny_bind (wpAny_isOneOf_valiter (s:={s with heap:=hn}) nw.typeIs ?_)))));show wpAny _ _ (pure es[i].val) _ _ _;exact wpAny_pure (wpAny_pure ⟨_,rfl,wpAny_pure hQ'⟩)
theorem dj1 {Q:Option Value->Shared->Prop}(hh:A.handled=none)(hit:s.heap.IsValIter it d i es.size ep)(hod:s.heap.get? d=some od)(hdd:od.data= .dict es ep)(hge:es.size<=i)
   (hQ:∀h',Heap.ExtBut it s.heap h'->Q none {s with heap:=h'}):wpAny (model prog w) A (pyNext (.ref it)) Q E s:=by
 obtain ⟨oi,g1,g2,g3⟩:=id hit;unfold pyNext;refine wpAny_bind (wpAny_attempt (wpAny_callSpecial?_slot (name:=Str.ofString "__next__") hit.typeIs F.slot_dict_valueiterator_next (wpAny_call_entry F.slot_dict_valueiterator_next hit.typeIs F.entry_dict_valueiterator_next ?_ (F.args_dict_valueiterator_next_1 _))));refine wpAny_bind (wpAny_pure (wpAny_bind (wpAny_bind ?_)))
 first|refine wpAny_bind (wpAny_typeNameOfWhole_valiter hit.typeIs (wpAny_pure ?_))|refine wpAny_bind (wpAny_typeNameOf_valiter hit.typeIs (wpAny_pure ?_))
 refine wpAny_bind (wpAny_fieldsOf g1 g3 ?_);simp only[show Builtin.Dict_items.ownsTuple "dict_valueiterator"=false by decide,dz3,if_false];show wpAny _ _ (if (Value.ref d==Value.none)=true then _ else _) _ _ s;rw[if_neg (show ¬((Value.ref d==Value.none)=true) from du3)];refine wpAny_bind (wpAny_pure (wpAny_bind (wpAny_dictEntries hod hdd ?_)));rw[if_neg (by simp)];refine wpAny_bind (wpAny_pure (wpAny_bind (wpAny_dictEpoch hod hdd ?_)));rw[if_neg (by simp)];refine wpAny_pure ?_;simp only[show ¬((i:Int) < 0) from by omega,if_false,dw1,Array.getElem?_eq_none hge];refine wpAny_bind ?_
 first|refine wpAny_bind (wpAny_typeNameOfWhole_valiter hit.typeIs (wpAny_pure ?_))|refine wpAny_bind (wpAny_typeNameOf_valiter hit.typeIs (wpAny_pure ?_))
 show wpAny _ _ (setField (.ref it) 0 .none >>=_) _ _ s;refine wpAny_bind (wpAny_setField g1 g3 (by simp) ?_);show wpAny _ _ (newExc (.type "StopIteration") [] >>=_) _ _ _;refine wpAny_bind ?_;simp only[newExc,newTuple];refine wpAny_bind (wpAny_newObj_type ?_ (by size_fits));refine wpAny_bind (m:=firstArgMember _ _) (wpAny_of_eq (a:=Value.none) (by first|rfl|(simp only[firstArgMember];rfl)) ?_);refine wpAny_newObj_type ?_ (by size_fits);simp only[raiseNew];refine wpAny_bind (wpAny_handled ?_);rw[show A.in1.handled=none from hh];refine wpAny_bind (wpAny_pure (wpAny_throw ?_));have stp:=isSubtype_stop;refine wpAny_bind (wpAny_isInstance (T:="StopIteration") (b:=true) ⟨_,Heap.get?_push_size _ rfl,rfl⟩ stp ?_);exact wpAny_pure (hQ _ (((Heap.SameBut.update ..).extBut.push _).push _))
theorem dj2:PySem.W.KdlSrc prog w "dict_values" v d es.size (fun i u=>∃e,es[i]? =some e/\e.val=u) (fun h=>h.IsValuesView v d/\h.get? d=some od/\od.data= .dict es ep) where
 type:=fun _ hm=>hm.1.typeIs
 there:=fun _ hm=>⟨(let ⟨_,ho,_⟩:=hm.1;Heap.lt_size ho),Heap.lt_size hm.2.1⟩
 keep:=fun _ _ hm hk=>⟨(let ⟨o,ho,x⟩:=hm.1;⟨o,hk v (.inl rfl) o ho,x⟩),hk d (.inr rfl) od hm.2.1,hm.2.2⟩
 notList:=by decide
 notTuple:=by decide
 hint:=fun _ _ _ _ hm hq=>PySem.W.kdl_hint_values hm.1.typeIs hq
 iter:=fun A s hh hm=>by
   refine ⟨_,fun i h=>h.IsValIter s.heap.objs.size d i es.size ep/\h.get? d=some od,fun E Q hq=>dd5 hm.1 hm.2.1 hm.2.2 hq,?_,⟨_,Heap.get?_push_size _ rfl,rfl,rfl⟩,Heap.get?_push_of_some _ hm.2.1⟩;have ne:d≠s.heap.objs.size:=dw7 (Heap.lt_size hm.2.1)
   exact {
     sub:=fun b hb=>by simp at hb;simp [hb]
     frame:=fun _ _ _ st hk=>⟨st.1.at fun o e=>hk _ (by simp) o e,hk d (by simp) od st.2⟩
     item:=fun i s' Q E hi st hQ=>dd6 st.1 st.2 hm.2.2 hi fun h' it' sb=>hQ _ h' s'.toks ⟨es[i],ee1 hi,rfl⟩ ⟨it',sb.extBut d od ne st.2⟩ fun b o hb e=>sb.extBut b o (fun z=>hb (by simp [z])) e
     done:=fun s' Q E st hQ=>dj1 hh st.1 st.2 hm.2.2 (dr9 _) fun h' eb=>hQ h' s'.toks fun b o hb e=>eb b o (fun z=>hb (by simp [z])) e
     self:=fun _ _ _ _ st hQ=>wpAny_pyIter_valiter st.1 hQ}
theorem bi6 {κ:Type}[DecidableEq κ](knd:HeapKind prog w κ)(d:Addr)(hd:(d==sysModules)=false):
   MeetsIn prog w (Builtin.«dict.values» ⟨[.ref d],[]⟩) (fun _ R s=>(∃xs,s.heap.DictOfH knd d xs)/\
     R (.ok (.ret (.ref s.heap.objs.size))) {s with heap:=s.heap.push {cls:= .type "dict_values",data:= .fields #[.ref d]}}):=
 .of_wp fun A R s ⟨⟨xs,hm⟩,h⟩=>by
   refine wpAny_bind ?_;unfold Builtin.Dict.noArgs;refine wpAny_bind (wpAny_notOrdered_dict hm.typeIs ?_);show wpAny _ _ (pure d) _ _ s;refine wpAny_pure ?_;show wpAny _ _ (Builtin.Dict.showsAll d >>=_) _ _ s;unfold Builtin.Dict.showsAll;rw[if_neg (by rw[hd];exact du3)];exact wpAny_bind (wpAny_pure (wpAny_bind (wpAny_newObj_type (wpAny_pure ⟨_,rfl,h⟩))))
end
section
variable {X:Cx} {o:Expr} {p apos cpos pos:Pos} {td:TE}
def vwE (v d:Addr):HO:= .ext fun h=>h.IsValuesView v d
def dj3 (td:TE):TE:=fun σ H Q=>td σ H fun x H1=>∃(a:Addr) (kvs:List (List o9×V)),x= .ref a/\H1 a=some (.dT kvs)/\∀v,H1 v=none->Q (.ref v) (c8 H1 v (vwE v a))
theorem cv8 (ho:PE X o td)(hbase:attributeBase o "values" X.env (eval o X.env)=eval o X.env:=by rfl)(hline:(apos.endLine==cpos.line)=true:=by rfl):PE X (.Call (.Attribute o "values" apos) [] [] cpos) (dj3 td):=by
 intro pins s σ H Q I h;refine wpAny_Call_method0_late hbase hline (q9 (ho pins s σ H _ I h) fun u s2 ⟨x,H2,I2,rx,a,kvs,ex,hd,q2⟩=> ?_);subst ex;obtain rfl:u=Value.ref a:=rx;obtain ⟨z,hsys,xs,rel,dd⟩:=ce4 I2.hok hd;refine ⟨"dict","dict.values",PySem.F.plainAttrs_dict,PySem.F.slot_dict_values,PySem.F.type_dict_values,dd.typeIs,dictOfH_noDict dd,Calls.callWith_builtin rfl (PySem.evalArgs_none ?_)⟩;refine call_meetsIn PySem.F.slot_dict_values dd.typeIs PySem.F.entry_dict_values (PySem.F.args_dict_values_1 _) (bi6 (tupleKind (A6 X.prog X.w)) a hsys) ⟨⟨xs,dd⟩,?_⟩;refine ⟨.ref s2.heap.objs.size,_,I2.laid (a:=s2.heap.objs.size) (o:=vwE s2.heap.objs.size a) (t':=s2.toks) (fun _ _ q=>Heap.get?_push_of_some _ q) (dr9 _) ⟨⟨_,Heap.get?_push_size _ rfl,rfl,rfl⟩,⟨_,Heap.get?_push_size _ rfl⟩,fun h1 h2 x e=> ?_⟩,rfl,q2 _ (I2.hok.fresh (dr9 _))⟩;obtain ⟨o',e1,e2⟩:=x;exact ⟨o',e _ e1,e2⟩
theorem co8 {H:Hp}:∀{kvs:List (List o9×V)} {xs:List (List o9×Addr×Value)},KT H kvs xs->∀{us:List Value},us.length=xs.length->(∀(j:Nat) u,us[j]? =some u->∃x,xs[j]? =some x/\x.2.2=u)->o3 (kvs.map (·.2)) us:=by
 intro kvs xs h
 induction h with
 |nil=>intro us l _;rw[eb5 l];exact .nil
 |cons r t ih=>
  intro us l g
  cases us with
  |nil=>cases l
  |cons u us=>
   obtain ⟨x,e1,e2⟩:=g 0 u rfl;cases e1;refine .cons (by rw[<-e2];exact r.2.2) (ih (by simpa using l) fun j u' e=>g (j+1) u' e)
theorem bo0 (hc:X.calm=true):R4 X (.type "list") (fun xs H Q=>∃(v a:Addr) (kvs:List (List o9×V)),xs=[.ref v]/\H v=some (vwE v a)/\H a=some (.dT kvs)/\∀l,H l=none->Q (.ref l) (c8 H l (.lst (kvs.map (·.2))))):=by
 intro pins s σ H xs us Q I r h;obtain ⟨v,a,kvs,rfl,hv,ha,q⟩:=h;obtain ⟨u,rfl,rx⟩:=U6 r;cases rx;obtain ⟨vw,_⟩:=(show x6 X.prog X.w H s.heap v (vwE v a) from I.hok v _ hv);obtain ⟨z,_,ys,rel,od,es,ep,hod,_,hdd,he,_⟩:=(show x6 X.prog X.w H s.heap a (.dT kvs) from I.hok a _ ha);have sz:es.size=ys.length:=size_of_entries he;have lk:kvs.length=ys.length:=Paired.length rel
 refine PySem.W.kdl_call (dj2 (v:=v) (d:=a) (es:=es) (ep:=ep) (od:=od)) (I.ok.hd hc) ⟨vw,hod,hdd⟩ (by omega) fun h' tk acc' c' hk e it=> ?_
 refine ⟨.ref s.heap.objs.size,_,I.laid (t':=tk) hk (dr9 _) (show x6 X.prog X.w _ h' _ (.lst (kvs.map (·.2))) from ⟨by rw[dr6];exact z,acc'.toList,c',co8 rel ?_ fun j u hj=> ?_,by rw[e]⟩),rfl,q _ (I.hok.fresh (dr9 _))⟩
 · rw[du9,it.1,sz]
 · obtain ⟨x,e1,e2⟩:=it.2 j u (by rw[<-dy1];exact hj);rw[entry_at he j] at e1;obtain ⟨y,e3,e4⟩:=ed3.mp e1;exact ⟨y,e3,by rw[<-e2,<-e4];rfl⟩
theorem bz2 {e:Expr}{t:TA}(hc:X.calm=true)(hm:X.mg "list"=none)(ha:PA X [e] t)(hg:Gl X "list":=by rfl)(he:starEach [e] X.env=(false,eval e X.env)::starEach [] X.env:=by rfl):
   PE X (.Call (.Name "list" p) [e] [] pos) (tCB (fun xs H Q=>∃(v a:Addr) (kvs:List (List o9×V)),xs=[.ref v]/\H v=some (vwE v a)/\H a=some (.dT kvs)/\∀l,H l=none->Q (.ref l) (c8 H l (.lst (kvs.map (·.2))))) t):=
 V9 (bo0 hc) hg hm ac9 ha (by decide) (by decide) he rfl
end
end L2
namespace My
open PySem L2 Mth
section
variable {P:Program} {w:World} {K:PySem.W.Frag} {mg:Str->Option Value} {base:Heap} {zx zt zry zxy zxx ztz zvx zty ztx zsz zrx:Addr}
theorem bw8:∀{a b:List (List Int)},a.Nodup->(∀x∈a,x∈b)->a.length<=b.length
 |[],b,_,_=>du2 _
 |x::a,b,nd,h=>by
  obtain ⟨n1,n2⟩:=dw2.mp nd;have hx:=h x ds1
  have:=bw8 (b:=b.erase x) n2 fun y hy=>(ej1 (fun e=>n1 (by rw[<-e];exact hy))).mpr (h y (ds3 _ hy))
  rw[el3 hx] at this;have:=ei3 hx;rw[dt9];omega
noncomputable def o8 (t:List Int):List Int:=(K7 t).mergeSort fun a b=>decide (b<=a)
theorem Y1 (t:List Int):(o8 t).Perm (K7 t):=List.mergeSort_perm _ _
theorem au3 (t:List Int):(o8 t).Pairwise (· ≥ ·):=by
 have:=List.pairwise_mergeSort (le:=fun (a b:Int)=>decide (b<=a)) (fun a b c h1 h2=>decide_eq_true (by have:=of_decide_eq_true h1;have:=of_decide_eq_true h2;omega)) (fun a b=>by by_cases h:b<=a<;>simp [h];omega) (K7 t)
 exact this.imp fun h=>of_decide_eq_true h
theorem cv9 {t ms:List Int}(h:ms.Perm (K7 t))(s:ms.Pairwise (· ≥ ·)):ms=o8 t:=ah3 (h.trans (Y1 t).symm) s (au3 t)
theorem bm6 {t u:List Int}:o8 t=o8 u↔(K7 t).Perm (K7 u):=
 ⟨fun e=>(Y1 t).symm.trans (e▸Y1 u),fun h=>ah3 ((Y1 t).trans (h.trans (Y1 u).symm)) (au3 t) (au3 u)⟩
def Y2 (ks:List (List Int))(fs:List Addr):List (List o9×V):=List.zipWith (fun k f=>(k.map Sum.inl,V.ref f)) ks fs
theorem cd2 {a b:List Int}(h:a.map (Sum.inl:Int->o9)=b.map Sum.inl):a=b:=(List.map_inj_right fun _ _ e=>Sum.inl.inj e).mp h
theorem bw9:∀{ks:List (List Int)} {fs:List Addr} {k:List Int},k∉ks->A4 (Y2 ks fs) (k.map Sum.inl)=none
 |[],fs,k,_=>rfl
 |k'::ks,[],k,_=>rfl
 |k'::ks,f::fs,k,h=>by
  have ih:=bw9 (ks:=ks) (fs:=fs) (k:=k) fun z=>h (ds3 _ z)
  unfold A4 at ih ⊢;show Option.map _ (List.find? _ ((k'.map Sum.inl,V.ref f)::Y2 ks fs))=none;rw[List.find?_cons_of_neg]
  · exact ih
  · rw[decide_eq_true_iff]
    exact fun e=>h (by rw[cd2 e];exact ds1)
theorem bb4:∀{ks:List (List Int)} {fs:List Addr} {j:Nat} {k:List Int} {f:Addr},ks.Nodup->ks[j]? =some k->fs[j]? =some f->A4 (Y2 ks fs) (k.map Sum.inl)=some (.ref f)
 |[],fs,j,k,f,_,h,_=>by cases h
 |k'::ks,[],j,k,f,_,_,h=>by cases h
 |k'::ks,f'::fs,0,k,f,_,h1,h2=>by
  have e1:k'=k:=Option.some.inj h1;have e2:f'=f:=Option.some.inj h2;subst e1 e2;unfold A4;show Option.map _ (List.find? _ ((k'.map Sum.inl,V.ref f')::Y2 ks fs))=some (V.ref f');rw[List.find?_cons_of_pos (p:=fun (kv:List o9×V)=>decide (kv.1=k'.map Sum.inl)) (decide_eq_true rfl)];rfl
 |k'::ks,f'::fs,j+1,k,f,nd,h1,h2=>by
  have ih:=bb4 (ks:=ks) (fs:=fs) (j:=j) (dw2.mp nd).2 h1 h2;have km:k∈ks:=ds4 (i:=j) h1;unfold A4 at ih ⊢;show Option.map _ (List.find? _ ((k'.map Sum.inl,V.ref f')::Y2 ks fs))=_;rw[List.find?_cons_of_neg]
  · exact ih
  · rw[decide_eq_true_iff]
    exact fun e=>(dw2.mp nd).1 (by rw[cd2 e];exact km)
theorem cw0 {ks:List (List Int)}{fs:List Addr}(l:ks.length=fs.length)(k:List Int)(f:Addr):Y2 (ks++[k]) (fs++[f])=Y2 ks fs++[(k.map Sum.inl,V.ref f)]:=by
 unfold Y2;rw[List.zipWith_append l];rfl
theorem bx0:∀{ks:List (List Int)} {fs:List Addr},ks.length=fs.length->(Y2 ks fs).map (·.2)=fs.map V.ref
 |[],[],_=>rfl
 |k::ks,f::fs,h=>by
  show V.ref f::(Y2 ks fs).map (·.2)=_;rw[bx0 (by simpa using h)];rfl
theorem dd7 {ks:List (List Int)}{fs:List Addr}(h:ks.length=fs.length):(Y2 ks fs).length=ks.length:=by unfold Y2;rw[List.length_zipWith];omega
structure Fam (H:Hp)(ks:List (List Int))(fs bs:List Addr)(us:List (List Int)):Prop where
 len:ks.length=fs.length
 nk:ks.Nodup
 nf:fs.Nodup
 row:∀(j:Nat) k f,ks[j]? =some k->fs[j]? =some f->∃cs,H f=some (.lst (cs.map V.ref))/\(∀c∈cs,c∈bs)/\j9 H cs (us.filter fun t=>decide (o8 t=k))
 all:∀t∈us,o8 t∈ks
 any:∀k∈ks,∃t∈us,o8 t=k
theorem Fam.count {H:Hp}{ks:List (List Int)}{fs bs:List Addr}{us:List (List Int)}(h:Fam H ks fs bs us):ks.length<=us.length:=by
 have:ks.length<=(us.map o8).length:=bw8 h.nk fun k hk=>by
   obtain ⟨t,ht,e⟩:=h.any k hk;exact ds9.mpr ⟨t,ht,e⟩
 rwa [dr6] at this
def bx1:Sp:=fun vs H Q _=>∃(a:Addr) (p:List Int) (m:Nat),vs=[.ref a,.int (m:Int)]/\B9 H a p/\1<=m/\ac4 p m<=2000/\
 ∀(l:Addr) (ks:List (List Int)) (fs bs:List Addr) (ts:List (List Int)) (H':Hp),H l=none->H' l=some (.lst (fs.map V.ref))->ag0 p m ts->j9 H' bs ts->Fam H' ks fs bs ts->bs.Nodup->(∀b∈bs,H b=none)->(∀f∈fs,H f=none/\f∉bs/\f≠l)->l∉bs->(∀x u,H x=some u->(∀kvs,u≠.dK kvs)->H' x=some u)->Q (.ref l) H'
theorem V7:m8 ["p","m","families","root"] ["p","m"] (j6 X5):=by rfl'
theorem bb5 {f:Addr}{fd:FuncData}(F:A9 K "root_families" "root_families" X5 f fd)(B:Bl mg)(zqy:l8 P w K mg base "all_roots" 44 ["p","m"] be9)(zgz:l8 P w K mg base "kind_of" 5 ["p"] bt6):p6 P w K mg base A8 45 f fd ["p","m"] bx1:=by
 refine F.ok V7 (fun vs H Q E h=> ?_) (fun cdv A outer s H vs Q E hr h=> ?_)
 · obtain ⟨a,p,m,rfl,⟨ha,tp,lp⟩,m1,few,q⟩:=h;rfl
 · obtain ⟨a,p,m,rfl,⟨ha,tp,lp⟩,m1,few,q⟩:=h;have zjz:m7 44 _:=hr.mono (by decide);have hr_kind_of:m7 5 _:=hr.mono (by decide);have hu:=T2 hr;refine ⟨_,@e8 _ _ _ _ _ (@i8 _ _ (2) _ _ _ _ V7.nd rfl (Or.inl rfl) (@cr1 _ _) (by rfl) (by trivial)) (@e8 _ _ _ _ _ (@n9 _ _ _ _ _ _ _ _ PassesOwn.never rfl (@w4 _ _ _ _ (@h8 _ _ _ _ _ _ _ _ _ _ zqy zjz (@c5 _ _ _ _ _ (pv 0) (@c5 _ _ _ _ _ (pv 1) (@c6 _) (by rfl)) (by rfl)) (by rfl) (by decide) (by rfl) (by rfl))) (@i7 _ _ (3) _ V7.nd rfl (Or.inl rfl) (by trivial)) (@g6 _ _ _ (@w6 _ _ _ _ (@B0 _ _ _ _ _ _ _ (@ch2 _ _ _ _ _ _ _ _ hu (pv 2) (@c5 _ _ _ _ _ (@V9 _ _ _ _ _ _ _ _ _ bn5 (by rfl) B.tuple by6 (@c5 _ _ _ _ _ (@h8 _ _ _ _ _ _ _ _ _ _ zgz hr_kind_of (@c5 _ _ _ _ _ (pv 3) (@c6 _) (by rfl)) (by rfl) (by decide) (by rfl) (by rfl)) (@c6 _) (by rfl)) (by decide) (by decide) (by rfl) (by rfl)) (@c5 _ _ _ _ _ (@p5 _ _ _ _ (@c6 _)) (@c6 _) (by rfl)) (by rfl)) (by rfl) (by rfl) (by rfl) (by rfl) (by rfl)) (@c5 _ _ _ _ _ (pv 3) (@c6 _) (by rfl)) (by rfl) (by rfl) (by rfl) (by rfl) (by rfl)) (by rfl))) (by intro _;rfl)) (@g6 _ _ _ (@l9 _ _ _ _ (@bz2 _ _ _ _ _ rfl B.list (@c5 _ _ _ _ _ (@cv8 _ _ _ _ _ (pv 2) (by rfl) (by rfl)) (@c6 _) (by rfl)) (by rfl) (by rfl))))),?_⟩
   refine fun d hd=> ?_
   have s1:c9 H (c8 H d (.dT [])):=c9.upd_new hd;have h1d:(c8 H d (.dT [])) d=some (.dT []):=c7;generalize (c8 H d (.dT []))=H1 at s1 h1d ⊢;refine ⟨_,rfl,_,rfl,a,p,m,rfl,⟨s1 _ _ ha,tp,lp⟩,m1,few,fun o bs ts H2 ho h2o rows ap nd fr no kp=> ?_⟩;have lts:=ap.len;have lbt:=rows.1;have h2d:H2 d=some (.dT []):=kp.nd d _ h1d (fun kvs z=>by cases z)
   have fr0:∀x,H2 x=none->H1 x=none:=fun x e=>kp.fr x e
   have ndb:d∉bs:=fun z=>by have:=fr d z;rw[h1d] at this;cases this
   have hod:o≠d:=fun z=>by rw[z,h1d] at ho;cases ho
   refine ⟨o,rfl,⟨_,g9.of h2o⟩,A7 (K:=K) (a:=o) (xs:=bs.map V.ref) (fun i σ Hx=>∃(ks:List (List Int)) (fs:List Addr) (v3:Option V),σ=[some (.ref a),some (.int (m:Int)),some (.ref d),v3]/\Hx d=some (.dT (Y2 ks fs))/\Fam Hx ks fs bs (ts.take i)/\(∀f∈fs,H2 f=none)/\∀x u,H2 x=some u->x≠d->Hx x=some u)
     ⟨[],[],none,rfl,h2d,⟨rfl,dx7,dx7,(fun j k f h=>by cases h),(fun t ht=>by rw[dz5] at ht;cases ht),(fun k hk=>by cases hk)⟩,(fun f hf=>by cases hf),fun x u e _=>e⟩ (fun i σ Hx _ zz=>by obtain ⟨_,_,_,_,_,_,_,k⟩:=zz;exact g9.of (k _ _ h2o hod)) ?_ ?_⟩
   · rintro i x σ Hx hi ⟨ks,fs,v3,rfl,hxd,fam,ff,kx⟩;obtain ⟨b,hb,rfl⟩:=au2 hi;have il:=(dr7.mp hb).1;obtain ⟨t,et,h2b⟩:=ag4 rows hb;have hbm:b∈bs:=ds4 hb
     have nbd:b≠d:=fun z=>ndb (by rw[<-z];exact hbm)
     have hxb:=kx _ _ h2b nbd;have rt:=ap.root tp lp m1 t (ds4 et);have lt:t.length=p.length:=rt.2.1.symm;have ek:=i9 et;refine ⟨_,rfl,.inr (.inr (.inl ⟨rfl,.inr ⟨_,hxd⟩⟩)),_,rfl,b,t,rfl,⟨hxb,rt.1,by omega⟩,fun l1 ms H3 hl1 s3 pm st bd lm h3l=> ?_⟩;have em:=cv9 pm st;subst em;refine ⟨l1,_,rfl,.inl ⟨g9.of h3l,fun tu htu=> ?_⟩⟩
     have e2:(o8 t).map V.int=((o8 t).map (Sum.inl:Int->o9)).map kV:=by rw[dx2];rfl
     have s4:c9 H3 (c8 H3 tu (.tup ((o8 t).map V.int))):=c9.upd_new htu
     have h4t:(c8 H3 tu (.tup ((o8 t).map V.int))) tu=some (.tup (((o8 t).map (Sum.inl:Int->o9)).map kV)):=by rw[c7,e2]
     generalize (c8 H3 tu (.tup ((o8 t).map V.int)))=H4 at s4 h4t ⊢;refine ⟨du2 _,fun nl hnl=> ?_⟩;have s5:c9 H4 (c8 H4 nl (.lst [])):=c9.upd_new hnl;have h5n:(c8 H4 nl (.lst [])) nl=some (.lst (([]:List Addr).map V.ref)):=c7;generalize (c8 H4 nl (.lst []))=H5 at s5 h5n ⊢;have sx5:c9 Hx H5:=s3.trans (s4.trans s5);have hxn:Hx nl=none:=s3.free (s4.free hnl);have h5d:=sx5 _ _ hxd;have nnd:nl≠d:=(g8 hxd hxn).symm;have ct:=fam.count;have lk:=dd7 fam.len
     have itk:(ts.take i).length=i:=by rw[dt3];omega
     have small:(Y2 ks fs).length < sizeLine:=dw0 (show (Y2 ks fs).length<=2000 by omega) (by decide)
     have n2:∀f∈fs,f≠d/\f∉bs:=fun f hf=>⟨(fun z=>by have:=ff f hf;rw[z,h2d] at this;cases this),(fun z=>by
       obtain ⟨j,hj⟩:=dt7.mp z;obtain ⟨r,_,hr⟩:=ag4 rows hj
       rw[ff f hf] at hr;cases hr)⟩
     refine ⟨d,tu,_,(o8 t).map Sum.inl,.ref nl,rfl,rfl,h5d,s5 _ _ h4t,small,fun v hv=> ?_,fun hn=> ?_⟩
     · 
       have km:o8 t∈ks:=Classical.byContradiction fun z=>by rw[bw9 z] at hv;cases hv
       obtain ⟨j,hj⟩:=dt7.mp km;have jl:=(dr7.mp hj).1;have hfj:fs[j]? =some (fs[j]'(by rw[<-fam.len];exact jl)):=dr8 _;generalize fs[j]'(by rw[<-fam.len];exact jl)=f at hfj;have hfm:f∈fs:=ds4 hfj;rw[bb4 fam.nk hj hfj] at hv;cases hv;obtain ⟨cs,hcs,csb,rcs⟩:=fam.row j _ f hj hfj;have h5f:=sx5 _ _ hcs
       have lcs:cs.length<=2000:=by
         rw[rcs.1];exact dt4 (dz9 _ _) (by omega)
       refine ⟨.inl ⟨rfl,_,g9.of h5f⟩,_,rfl,f,_,_,rfl,rfl,h5f,dw0 (show (cs.map V.ref).length<=2000 by rw[dr6];exact lcs) (by decide),?_⟩
       have em:cs.map V.ref++[V.ref b]=(cs++[b]).map V.ref:=by rw[ds5];rfl
       rw[em]
       have keepB:∀c,c≠f->∀u,Hx c=some u->(c8 H5 f (.lst ((cs++[b]).map V.ref))) c=some u:=fun c hc u e=>by rw[g7 hc];exact sx5 _ _ e
       refine ⟨ks,fs,_,rfl,keepB d (n2 f hfm).1.symm _ hxd,⟨fam.len,fam.nk,fam.nf,fun j' k' f' e1 e2=> ?_,fun u hu=> ?_,fun k hk=> ?_⟩,ff,fun x u e nx=>keepB x (fun z=>by rw[z,ff f hfm] at e;cases e) u (kx x u e nx)⟩
       · by_cases z:j'=j
         · subst z;rw[hj] at e1;cases e1;rw[hfj] at e2;cases e2;refine ⟨cs++[b],c7,fun c hc=> ?_,?_⟩
           · rcases dt1.mp hc with z|z
             · exact csb c z
             · rw[ds8.mp z];exact hbm
           · rw[ek,dz4,ea0 (p:=fun u=>decide (o8 u=o8 t)) (decide_eq_true rfl),eb1];exact M8 (m9 rcs fun c hc u e=>keepB c (fun z=>(n2 f hfm).2 (by rw[<-z];exact csb c hc)) u e) (keepB b (fun z=>(n2 f hfm).2 (by rw[<-z];exact hbm)) _ hxb)
         · obtain ⟨cs',hcs',csb',rcs'⟩:=fam.row j' k' f' e1 e2
           have nkk:o8 t≠k':=fun e=>z ((List.getElem?_inj (dr7.mp e1).1 fam.nk).mp (by rw[e1,hj,e]))
           have nff:f'≠f:=fun e=>z ((List.getElem?_inj (dr7.mp e2).1 fam.nf).mp (by rw[e2,hfj,e]))
           refine ⟨cs',keepB f' nff _ hcs',csb',?_⟩;rw[ek,dz4,ea1 (by rw[decide_eq_true_iff];exact nkk),eb1,du0]
           exact m9 rcs' fun c hc u e=>keepB c (fun z=>(n2 f hfm).2 (by rw[<-z];exact csb' c hc)) u e
       · rw[ek] at hu
         rcases dt1.mp hu with z|z
         · exact fam.all u z
         · rw[ds8.mp z];exact km
       · obtain ⟨u,hu,e⟩:=fam.any k hk;exact ⟨u,by rw[ek];exact dx3 _ hu,e⟩
     · 
       have km:o8 t∉ks:=fun z=>by
         obtain ⟨j,hj⟩:=dt7.mp z;have jl:=(dr7.mp hj).1;rw[bb4 fam.nk hj (dr8 (show j < fs.length by rw[<-fam.len];exact jl))] at hn;cases hn
       rw[<-cw0 fam.len];have k6:j5 d H5 (c8 H5 d (.dT (Y2 (ks++[o8 t]) (fs++[nl])))):=j5.upd;have h6d:(c8 H5 d (.dT (Y2 (ks++[o8 t]) (fs++[nl])))) d=some (.dT (Y2 (ks++[o8 t]) (fs++[nl]))):=c7;generalize (c8 H5 d (.dT (Y2 (ks++[o8 t]) (fs++[nl]))))=H6 at k6 h6d ⊢;have h6n:=k6 _ _ h5n nnd;refine ⟨.inl ⟨rfl,_,g9.of h6n⟩,_,rfl,nl,_,_,rfl,rfl,h6n,by decide,?_⟩
       have keepB:∀c u,Hx c=some u->c≠d->(c8 H6 nl (.lst (([]:List Addr).map V.ref++[V.ref b]))) c=some u:=fun c u e nc=>by
         rw[g7 (g8 e hxn)];exact k6 _ _ (sx5 _ _ e) nc
       have ffd:∀f∈fs,f≠d:=fun f hf=>(n2 f hf).1
       have nnf:nl∉fs:=fun z=>by
         obtain ⟨j,hj⟩:=dt7.mp z;have jl:=(dr7.mp hj).1;obtain ⟨cs,hcs,_⟩:=fam.row j _ nl (dr8 (show j < ks.length by rw[fam.len];exact jl)) hj;rw[hxn] at hcs;cases hcs
       have h2n:H2 nl=none:=by
         cases e:H2 nl with
         |none=>rfl
         |some u=>have:=kx nl u e nnd;rw[hxn] at this;cases this
       refine ⟨ks++[o8 t],fs++[nl],_,rfl,by rw[g7 nnd.symm];exact h6d,⟨by rw[ds6,ds6,fam.len];rfl,?_,?_,fun j k f e1 e2=> ?_,fun u hu=> ?_,fun k hk=> ?_⟩,fun f hf=> ?_,fun x u e nx=>keepB x u (kx x u e nx) nx⟩
       · rw[dw4];exact ⟨fam.nk,by simp,fun x hx y hy e=>km (by rw[<-ds8.mp hy,<-e];exact hx)⟩
       · rw[dw4];exact ⟨fam.nf,by simp,fun x hx y hy e=>nnf (by rw[<-ds8.mp hy,<-e];exact hx)⟩
       · by_cases z:j < ks.length
         · rw[dv0 z] at e1;rw[dv0 (by rw[<-fam.len];exact z)] at e2;obtain ⟨cs,hcs,csb,rcs⟩:=fam.row j k f e1 e2
           have nkk:o8 t≠k:=fun e=>km (by rw[e];exact ds4 e1)
           refine ⟨cs,keepB f _ hcs (ffd f (ds4 e2)),csb,?_⟩;rw[ek,dz4,ea1 (by rw[decide_eq_true_iff];exact nkk),eb1,du0]
           exact m9 rcs fun c hc u e=>keepB c u e (fun z=>ndb (by rw[<-z];exact csb c hc))
         · have jl:=(dr7.mp e1).1;rw[ds6,ed7] at jl
           have ej:j=ks.length:=by omega
           subst ej;rw[ek0] at e1;cases e1;rw[fam.len,ek0] at e2;cases e2;refine ⟨[b],c7,fun c hc=>by rw[ds8.mp hc];exact hbm,?_⟩
           have e0:(ts.take i).filter (fun u=>decide (o8 u=o8 t))=[]:=List.filter_eq_nil_iff.mpr fun u hu=>by
             rw[decide_eq_true_iff]
             exact fun e=>km (by rw[<-e];exact fam.all u hu)
           rw[ek,dz4,ea0 (p:=fun u=>decide (o8 u=o8 t)) (decide_eq_true rfl),eb1,e0];exact M8 (as:=[]) (rs:=[]) ⟨rfl,fun j b r h=>by cases h⟩ (keepB b _ hxb nbd)
       · rw[ek] at hu
         rcases dt1.mp hu with z|z
         · exact dx3 _ (fam.all u z)
         · rw[ds8.mp z];exact du5 _ ds1
       · rw[ek]
         rcases dt1.mp hk with z|z
         · obtain ⟨u,hu,e⟩:=fam.any k z;exact ⟨u,dx3 _ hu,e⟩
         · exact ⟨t,du5 _ ds1,(ds8.mp z).symm⟩
       · rcases dt1.mp hf with z|z
         · exact ff f z
         · rw[ds8.mp z];exact h2n
   · rintro σ Hx ⟨ks,fs,v3,rfl,hxd,fam,ff,kx⟩;rw[dr6,lbt,du1] at fam;refine ⟨_,rfl,d,_,rfl,hxd,fun v hv=> ?_⟩;have s1':c9 Hx (c8 Hx v (vwE v d)):=c9.upd_new hv;have h1v:(c8 Hx v (vwE v d)) v=some (vwE v d):=c7;generalize (c8 Hx v (vwE v d))=Hy at s1' h1v ⊢;refine ⟨v,d,_,rfl,h1v,s1' _ _ hxd,fun l hl=> ?_⟩;rw[bx0 fam.len];have s2':c9 Hx (c8 Hy l (.lst (fs.map V.ref))):=s1'.trans (c9.upd_new hl);have hyl:(c8 Hy l (.lst (fs.map V.ref))) l=some (.lst (fs.map V.ref)):=c7;generalize (c8 Hy l (.lst (fs.map V.ref)))=Hz at s2' hyl ⊢;have hxl:Hx l=none:=s1'.free hl
     have h2l:H2 l=none:=by
       have nld:l≠d:=(g8 hxd hxl).symm
       cases e:H2 l with
       |none=>rfl
       |some u=>have:=kx l u e nld;rw[hxl] at this;cases this
     have h0:∀x,H2 x=none->H x=none:=fun x e=>s1.free (fr0 x e)
     have rowsX:j9 Hx bs ts:=m9 rows fun c hc u e=>kx c u e (fun z=>ndb (by rw[<-z];exact hc))
     refine q l ks fs bs ts Hz (h0 l h2l) hyl ap (m9 rowsX fun c _ u e=>s2' _ _ e) ⟨fam.len,fam.nk,fam.nf,fun j k f e1 e2=> ?_,fam.all,fam.any⟩ nd (fun b hb=>s1.free (fr b hb)) (fun f hf=>⟨h0 f (ff f hf),fun z=> ?_,fun z=> ?_⟩) (fun z=> ?_) fun x u e nk=> ?_
     · obtain ⟨cs,hcs,csb,rcs⟩:=fam.row j k f e1 e2;exact ⟨cs,s2' _ _ hcs,csb,m9 rcs fun c _ u e=>s2' _ _ e⟩
     · obtain ⟨j,hj⟩:=dt7.mp z;obtain ⟨r,_,hr⟩:=ag4 rows hj;rw[ff f hf] at hr;cases hr
     · obtain ⟨j,hj⟩:=dt7.mp hf;have jl:=(dr7.mp hj).1;obtain ⟨cs,hcs,_⟩:=fam.row j _ f (dr8 (show j < ks.length by rw[fam.len];exact jl)) hj;rw[z,hxl] at hcs;cases hcs
     · obtain ⟨j,hj⟩:=dt7.mp z;obtain ⟨r,_,hr⟩:=ag4 rows hj;rw[h2l] at hr;cases hr
     · have e1:=s1 _ _ e;have nxd:x≠d:=g8 e hd;exact s2' _ _ (kx x u (kp.nd x u e1 nk) nxd)
end
end My
namespace My
open PySem L2 Mth
section
variable {P:Program} {w:World} {K:PySem.W.Frag} {mg:Str->Option Value} {base:Heap} {zx zt zry zxy zxx ztz zvx zty ztx zsz zrx:Addr}
def bi7:Sp:=fun vs H Q _=>∃(a:Addr) (p:List Int),vs=[.ref a]/\B9 H a p/\∀(l:Addr) (t:List Int) (H':Hp),H l=none->c9 H H'->j7 t->t.length=p.length->(∀u:Nat,u < p.length->x4 t (p.getD u 0)=some (u:Int))->H' l=some (.lst (t.map V.int))->Q (.ref l) H'
theorem aa6:m8 ["p","found","i","place"] ["p"] (j6 X6):=by rfl'
theorem bz3 {f:Addr}{fd:FuncData}(F:A9 K "_law_back" "_law_back" X6 f fd)(B:Bl mg):p6 P w K mg base A8 1 f fd ["p"] bi7:=by
 refine F.ok aa6 (fun vs H Q E h=> ?_) (fun cdv A outer s H vs Q E hr h=> ?_)
 · obtain ⟨a,p,rfl,⟨ha,tp,lp⟩,q⟩:=h;rfl
 · obtain ⟨a,p,rfl,⟨ha,tp,lp⟩,q⟩:=h;refine ⟨_,@e8 _ _ _ _ _ (@i8 _ _ (1) _ _ _ _ aa6.nd rfl (Or.inl rfl) (@n5 _ _ _ _ _ _ _ _ br0 (@p5 _ _ _ _ (@c5 _ _ _ _ _ (@i6 _ _ _ _) (@c6 _) (by rfl))) (@p9 _ _ _ _ _ B.len (@c5 _ _ _ _ _ (pv 0) (@c6 _) (by rfl)) (by rfl) (by rfl))) (by rfl) (by trivial)) (@e8 _ _ _ _ _ (@n9 _ _ _ _ _ _ _ _ PassesOwn.never rfl (@W0 _ _ _ _ _ _ _ _ B.enum (@c5 _ _ _ _ _ (pv 0) (@c6 _) (by rfl)) (by rfl) (by rfl)) (@M1 _ _ _ _ _ _ rfl (@q5 _ _ _ _ _ (@i7 _ _ (2) _ aa6.nd rfl (Or.inl rfl) (by trivial)) (@q5 _ _ _ _ _ (@i7 _ _ (3) _ aa6.nd rfl (Or.inl rfl) (by trivial)) (@J3 _) (by rfl)) (by rfl)) (by rfl) (by rfl)) (@g6 _ _ _ (@aa9 _ _ _ _ _ _ (pv 2) (@aa8 _ _ _ _ _ _ _ (pv 1) (pv 3) R8 (by intro _;rfl)) (by rfl) (by rfl) (by rfl))) (by intro _;rfl)) (@g6 _ _ _ (@l9 _ _ _ _ (pv 1)))),?_⟩;refine ⟨(by show 1<=sizeLine;decide),fun e he=> ?_⟩;have nae:a≠e:=g8 ha he;refine ⟨_,rfl,a,_,rfl,.inl (g9.of (by rw[g7 nae];exact ha)),?_⟩;rw[dr6];refine ⟨e,_,_,rfl,rfl,c7,by omega,by omega,by show 1*_<=sizeLine;rw[sizeLine_eq];omega,fun n hn=> ?_⟩;rw[show ((p.length:Nat):Int).toNat=p.length by omega,ay9]
   have hne:n≠e:=fun z=>by rw[z,c7] at hn;cases hn
   have hn0:H n=none:=by rw[g7 hne] at hn;exact hn
   have s1:c9 H (c8 (c8 H e (.lst [.int 0])) n (.lst ((dv8 p.length (0:Int)).map V.int))):=(c9.upd_new he).upd_r hn0;have h1n:(c8 (c8 H e (.lst [.int 0])) n (.lst ((dv8 p.length (0:Int)).map V.int))) n=some (.lst ((dv8 p.length (0:Int)).map V.int)):=c7;generalize (c8 (c8 H e (.lst [.int 0])) n (.lst ((dv8 p.length (0:Int)).map V.int)))=H1 at s1 h1n ⊢;have h1a:=s1 a _ ha;have nan:a≠n:=g8 ha hn0
   refine ⟨_,rfl,a,rfl,⟨_,g9.of h1a⟩,R9 (K:=K) (a:=a) (xs:=p.map V.int) (fun j σ H2=>∃(fs:List Int) (v2 v3:Option V),σ=[some (.ref a),some (.ref n),v2,v3]/\H2 n=some (.lst (fs.map V.int))/\fs.length=p.length/\(∀u,u < j->x4 fs (p.getD u 0)=some (u:Int))/\c9 H H2)
     ⟨_,none,none,rfl,h1n,by rw[ec1],fun u hu=>by omega,s1⟩ (fun j σ H2 _ zz=>by obtain ⟨_,_,_,_,_,_,_,s⟩:=zz;exact g9.of (s a _ ha)) ?_ ?_⟩
   · rintro j y σ H2 t hj ⟨fs,v2,v3,rfl,h2n,hfl,hu,s2⟩ ht;obtain ⟨z,hz,rfl⟩:=D9 hj;have hjl:j < p.length:=(dr7.mp hz).1
     have ez:z=p.getD j 0:=by rw[x8 hjl];exact (dr7.mp hz).2.symm
     subst ez;have s23:c9 H2 (c8 H2 t (.tup [.int (j:Int),.int (p.getD j 0)])):=c9.upd_new ht;refine ⟨t,_,rfl,R3.of c7,rfl,_,_,rfl,_,_,rfl,rfl,?_⟩;generalize (c8 H2 t (.tup [.int (j:Int),.int (p.getD j 0)]))=H3 at s23 ⊢;have h3n:=s23 n _ h2n;obtain ⟨t0,t1⟩:=af0 tp hjl;refine ⟨_,rfl,_,rfl,_,rfl,n,_,_,(p.getD j 0).toNat,rfl,rfl,h3n,?_,?_⟩
     · unfold ixN;rw[dr6,if_pos t0,if_pos (by omega)]
     have es:(fs.map V.int).set (p.getD j 0).toNat (.int (j:Int))=(fs.set (p.getD j 0).toNat (j:Int)).map V.int:=by rw[eh7]
     rw[es];refine ⟨_,_,_,rfl,c7,by rw[ec9];exact hfl,?_,fun b o hb=>by rw[g7 (g8 hb hn0)];exact s23 b o (s2 b o hb)⟩;intro u hu2
     by_cases huj:u=j
     · subst huj;exact Z1 (by omega)
     · rw[ab3 (af0 tp (show u < p.length by omega)).1 t0 (J8 tp.nd (by omega) hjl huj)];exact hu u (by omega)
   · rintro σ H2 ⟨fs,v2,v3,rfl,h2n,hfl,hu,s2⟩;rw[dr6] at hu;obtain ⟨tf,lf⟩:=N5 (bk4 tp hfl hu);exact ⟨_,rfl,q n fs H2 hn0 s2 tf hfl hu h2n⟩
theorem co9 (p:List Int):j8 p (L2.K4 0 p.length)=p:=by
 refine dv3 fun i=> ?_
 unfold Mth.j8 L2.K4;rw[ds0,ds0]
 by_cases h:i < p.length
 · rw[dv4 h];show some (p.getD (0+(i:Int)).toNat 0)=_;rw[show (0+(i:Int)).toNat=i by omega,x8 h,dr8 h]
 · rw[ds7 (by rw[du6];omega),ds7 (by omega)];rfl
theorem dd8 {s b:List Int}(h:∀u:Nat,u < s.length->x4 b (s.getD u 0)=some (u:Int)):j8 b s=L2.K4 0 s.length:=by
 refine dv3 fun i=> ?_
 unfold Mth.j8 L2.K4;rw[ds0,ds0]
 by_cases hi:i < s.length
 · rw[dv4 hi,dr8 hi];have:=h i hi;unfold x4 at this;rw[x8 hi] at this;show some (b.getD (s[i]).toNat 0)=some (0+(i:Int));rw[ds2,this];simp
 · rw[ds7 (by omega),ds7 (by rw[du6];omega)];rfl
end
end My
namespace My
open PySem L2 Mth
section
variable {P:Program} {w:World} {K:PySem.W.Frag} {mg:Str->Option Value} {base:Heap} {zx zt zry zxy zxx ztz zvx zty ztx zsz zrx:Addr}
theorem bf7:∀{rs:List (List Int)} {r:List Int},rs.flatten.Nodup->r∈rs->r.Nodup
 |u::rs,r,nd,hr=>by
  rw[dv5,dw4] at nd
  rcases dt8.mp hr with z|z
  · rw[z];exact nd.1
  · exact bf7 nd.2.1 z
theorem au4 {x:List Int}{q:List Int->Bool}:∀{l:List (List Int)},l.Nodup->x∈l->(∀r∈l,q r=true↔r=x)->l.countP q=1
 |a::l,nd,hx,h=>by
  obtain ⟨n1,n2⟩:=dw2.mp nd;rw[ea6]
  rcases dt8.mp hx with z|z
  · have h0:l.countP q=0:=dz8.mpr fun r hr e=>n1 (by rw[<-z,<-(h r (ds3 _ hr)).mp e];exact hr)
    rw[h0,if_pos ((h a ds1).mpr z.symm)]
  · rw[au4 n2 z fun r hr=>h r (ds3 _ hr),if_neg fun e=>n1 (by rw[(h a ds1).mp e];exact z)]
theorem bx2 {p q:List Int}(tp:j7 p)(k:(K7 p).Perm (K7 q)):∃t,ad9 p q t:=by
 have up:=C6 tp;have nfl:(i4 p p.length).flatten.Nodup:=(W2 tp up).nodup_iff.mpr (O8 _)
 have ex:∀i:Nat,∃v:Int,i < p.length->∃(r s:List Int) (u j:Nat),(p7 (i4 p p.length) r.length)[u]? =some r/\(p7 (i4 q q.length) r.length)[u]? =some s/\j < r.length/\r.getD j 0=(i:Int)/\v=s.getD j 0:=fun i=>by
   by_cases h:i < p.length
   · have hm:((i:Nat):Int)∈(i4 p p.length).flatten:=(W2 tp up).mem_iff.mpr (G0.mpr ⟨by omega,by omega⟩);obtain ⟨r,hr,hi⟩:=dt2.mp hm;obtain ⟨j,hj⟩:=ec8 hi;have jl:j < r.length:=(dr7.mp hj).1;have m0:r∈p7 (i4 p p.length) r.length:=du4.mpr ⟨hr,decide_eq_true rfl⟩;obtain ⟨u,hu⟩:=ec8 m0;have ul:=(dr7.mp hu).1;rw[bm4 k r.length] at ul;exact ⟨_,fun _=>⟨r,_,u,j,hu,dr8 ul,jl,by rw[ds2,hj];rfl,rfl⟩⟩
   · exact ⟨0,fun z=>absurd z h⟩
 obtain ⟨g,hg⟩:=Classical.axiomOfChoice ex;refine ⟨(du8 p.length).map g,⟨by rw[dr6,du6],fun L u r s hu hs j hj=> ?_⟩⟩;have fr:=bw4 (ds4 hu);have lr:r.length=L:=fr.2
 have xm:r.getD j 0∈r:=by rw[x8 hj];exact dv7 _
 have xi:=G0.mp ((W2 tp up).mem_iff.mp (dt2.mpr ⟨r,fr.1,xm⟩));obtain ⟨i,ei⟩:=dy9 xi.1
 have il:i < p.length:=by omega
 obtain ⟨r',s',u',j',hu',hs',jl',e1,e2⟩:=hg i il;have fr':=bw4 (ds4 hu')
 have xm':r'.getD j' 0∈r':=by rw[x8 jl'];exact dv7 _
 have er:r=r':=bb2 nfl fr.1 fr'.1 xm (by rw[ei,<-e1];exact xm');subst er;have ndr:r.Nodup:=bf7 nfl fr.1
 have ej:j'=j:=Classical.byContradiction fun z=>J8 ndr jl' hj z (e1.trans ei.symm)
 rw[lr] at hu' hs';have nfil:(p7 (i4 p p.length) L).Nodup:=(bi5 nfl (bb3 tp)).sublist ea7;have eu:u'=u:=co6 nfil hu' hu;subst eu ej;rw[hs] at hs';cases hs';rw[ei];unfold x4;rw[dw1,ds0,dv4 il];exact congrArg some e2
theorem ap9 {p r r' t:List Int}{m:Nat}(tr:j7 r)(tr':j7 r')(h:y6 r (m:Int) p)(h':y6 r' (m:Int) p)(tt:j7 t)(lt:t.length=r.length)(c:j8 t r=j8 r' t):Q3 p t:=by
 have lp:p.length=r.length:=h.1;have lp':p.length=r'.length:=h'.1;refine ⟨tt,by omega,aq8 (n:=p.length) (by rw[A2]) (by rw[A2];omega) fun x x0 x1=> ?_⟩;have hp:Mth.In p x:=⟨x0,x1⟩;have hr:Mth.In r x:=⟨x0,by omega⟩;have ht:Mth.In t x:=⟨x0,by omega⟩;have hy:=T4 tt ht;have hr':Mth.In r' (nx t x):=⟨hy.1,by have:=hy.2;omega⟩;rw[J4 hp,J4 ht];obtain ⟨L,_,e⟩:=af1 h hr;obtain ⟨L',_,e'⟩:=af1 h' hr';rw[e m (by rw[em2];rfl),e' m (by rw[em2];rfl),al0 tr lt c hr]
theorem cp0 {u s s':List Int}(tu:j7 u)(ts:j7 s)(ts':j7 s')(l:u.length=s.length)(l':u.length=s'.length)(e:j8 u s=j8 u s'):s=s':=by
 refine aq8 (n:=u.length) l.symm l'.symm fun x x0 x1=> ?_
 have h1:Mth.In s x:=⟨x0,by omega⟩;have h2:Mth.In s' x:=⟨x0,by omega⟩;have a:=T4 ts h1;have b:=T4 ts' h2;refine U2 tu ⟨a.1,by have:=a.2;omega⟩ ⟨b.1,by have:=b.2;omega⟩ ?_;rw[<-J4 h1,<-J4 h2,e]
theorem cp1 {p u s:List Int}(tp:j7 p)(hu:Q3 p u)(hs:Q3 p s):Q3 p (j8 u s):=by
 obtain ⟨tu,lu,cu⟩:=hu;obtain ⟨ts,ls,cs⟩:=hs;refine ⟨am0 tu ts (by omega),by rw[A2];omega,?_⟩;rw[M7 ts tp (by omega),cs,<-M7 tp ts (by omega),cu,M7 tu ts (by omega)]
theorem cp2 {p r0 r r' u:List Int}{us:List (List Int)}(tp:j7 p)(mem:∀s,s∈us↔Q3 p s)(nd:us.Nodup)(t0:j7 r0)(l0:r0.length=p.length)(tr:j7 r)(lr:r.length=p.length)(lr':r'.length=p.length)(hu:Q3 p u)(c:j8 u r=j8 r' u):
   us.countP (fun s=>decide (j8 s r0=j8 r s))<=us.countP (fun s=>decide (j8 s r0=j8 r' s)):=by
 rw[dx9,dx9]
 have key:((us.filter fun s=>decide (j8 s r0=j8 r s)).map (j8 u)).length<=(us.filter fun s=>decide (j8 s r0=j8 r' s)).length:=by
   refine bw8 ?_ fun x hx=> ?_
   · rw[dt0,ea8];refine List.Pairwise.imp_of_mem (fun {a b} ha hb hab e=> ?_) (dt0.mp (nd.sublist ea7));have pa:=(mem a).mp (du4.mp ha).1;have pb:=(mem b).mp (du4.mp hb).1;exact hab (cp0 hu.1 pa.1 pb.1 (by rw[hu.2.1,pa.2.1]) (by rw[hu.2.1,pb.2.1]) e)
   · obtain ⟨s,hs,rfl⟩:=ds9.mp hx;obtain ⟨h1,h2⟩:=du4.mp hs;have ps:=(mem s).mp h1;have e:=of_decide_eq_true h2;refine du4.mpr ⟨(mem _).mpr (cp1 tp hu ps),decide_eq_true ?_⟩;rw[M7 ps.1 t0 (by rw[ps.2.1,l0]),e,<-M7 tr ps.1 (by rw[lr,ps.2.1]),c,M7 hu.1 ps.1 (by rw[hu.2.1,ps.2.1])]
 rwa [dr6] at key
theorem cd3 {α β:Type}(R:α->β->Bool)(A:List α):∀B:List β,(∀b∈B,A.countP (fun a=>R a b)=1)->(A.map fun a=>B.countP fun b=>R a b).sum=B.length
 |[],_=>by
  have:∀l:List α,(l.map fun _=>0).sum=0:=fun l=>by induction l with
    |nil=>rfl
    |cons a l ih=>rw[dw3,ec5,ih]
  exact this A
 |b::B,h=>by
  have ih:=cd3 R A B fun x hx=>h x (ds3 _ hx)
  have h1:=h b ds1
  have:∀l:List α,(l.map fun a=>(b::B).countP fun b=>R a b).sum=(l.map fun a=>B.countP fun b=>R a b).sum+l.countP fun a=>R a b:=fun l=>by
    induction l with
    |nil=>rfl
    |cons a l ih=>
     rw[dw3,ec5,ih,dw3,ec5,ea6,ea6];omega
  rw[this,ih,h1,dt9]
theorem bm7 {α:Type}{f:α->Nat}{c:Nat}:∀{A:List α},(∀a∈A,f a=c)->(A.map f).sum=A.length*c
 |[],_=>by rw[eg2,ed9];rfl
 |a::A,h=>by
  rw[dw3,ec5,bm7 fun x hx=>h x (ds3 _ hx),h a ds1,dt9,ef1,ea9]
theorem ch3 {s r r':List Int}(ts:j7 s)(l:r.length=s.length)(l':r'.length=s.length)(e:j8 r s=j8 r' s):r=r':=by
 obtain ⟨b,hb⟩:=am6 ts (-1)
 refine aq8 (n:=s.length) l l' fun x x0 x1=> ?_
 have hx:Mth.In s x:=⟨x0,x1⟩;obtain ⟨y1,y2⟩:=az0 ts hb hx;have a:=J4 (p:=r) y1;have a':=J4 (p:=r') y1;rw[y2] at a a';rw[<-a,<-a',e]
theorem bm8 {p r s b:List Int}{m:Nat}(tp:j7 p)(tr:j7 r)(h:y6 r (m:Int) p)(ps:Q3 p s)(tb:j7 b)(lb:b.length=s.length)(hb:j8 b s=L2.K4 0 s.length):
   j7 (j8 s (j8 r b))/\y6 (j8 s (j8 r b)) (m:Int) p/\o8 (j8 s (j8 r b))=o8 r/\j8 s r=j8 (j8 s (j8 r b)) s:=by
 obtain ⟨ts,ls,cs⟩:=ps;have lp:p.length=r.length:=h.1;have t1:j7 (j8 r b):=am0 tr tb (by omega)
 have l1:(j8 r b).length=s.length:=by rw[A2,lb]
 have t2:j7 (j8 s (j8 r b)):=am0 ts t1 l1.symm
 have l2:(j8 s (j8 r b)).length=s.length:=by rw[A2,l1]
 have c:j8 s r=j8 (j8 s (j8 r b)) s:=by
   rw[M7 t1 ts (by omega),M7 tb ts lb,hb,show L2.K4 0 s.length=L2.K4 0 r.length by rw[ls,lp],co9]
 have kk:=co7 tr t2 (by omega) ts (by omega) c;refine ⟨t2,?_,(bm6.mpr kk).symm,c⟩;refine ⟨by omega,fun x hx=> ?_⟩;obtain ⟨i,hi⟩:=am6 ts (-1);have hxs:Mth.In s x:=⟨hx.1,by have:=hx.2;omega⟩;obtain ⟨y1,y2⟩:=az0 ts hi hxs;obtain ⟨y,ey⟩:∃y,y=nx i x:=⟨_,rfl⟩;rw[<-ey] at y1 y2;have hyr:Mth.In r y:=⟨y1.1,by have:=y1.2;omega⟩;have hyp:Mth.In p y:=⟨y1.1,by have:=y1.2;omega⟩;obtain ⟨L,pL,e⟩:=af1 h hyr;refine ⟨L,by rw[<-y2];exact bw6 tr ts (by omega) c hyr pL,?_⟩;have hpx:Mth.In p x:=⟨hx.1,by have:=hx.2;omega⟩;rw[G2 hpx,<-y2,<-al0 tr (by omega) c hyr,<-cd1 (p:=p) (q:=p) ls cs hyp,e _ (Z2 (m:Int) L pL.pos)]
theorem dd9 {p r0:List Int}{m:Nat}{ts us:List (List Int)}(tp:j7 p)(lp:p.length<=40)(m1:1<=m)(ar:ag0 p m ts)(ap:ap1 p us)(h0:r0∈ts):
   (ts.filter fun t=>decide (o8 t=o8 r0)).length*(us.filter fun s=>decide (j8 s r0=j8 r0 s)).length=us.length:=by
 obtain ⟨t0,w0⟩:=(ar.mem tp lp m1).mp h0;have l0:r0.length=p.length:=w0.1.symm
 have mem:∀s,s∈us↔Q3 p s:=fun s=>ap.mem tp
 have nd:=ap.nd tp;rw[<-dx9 (l:=us)];rw[<-bm7 (f:=fun r=>us.countP fun s=>decide (j8 s r0=j8 r s)) (c:=us.countP fun s=>decide (j8 s r0=j8 r0 s)) (A:=ts.filter fun t=>decide (o8 t=o8 r0))]
 · refine cd3 (fun r s=>decide (j8 s r0=j8 r s)) _ us fun s hs=> ?_
   have ps:=(mem s).mp hs;obtain ⟨b,hb⟩:=am6 ps.1 (-1);have tb:j7 b:=bg5 ps.1 hb;have lb:b.length=s.length:=hb.1
   have bs:j8 b s=L2.K4 0 s.length:=by
     refine aq8 (n:=s.length) (by rw[A2]) (E8 ..) fun x x0 x1=> ?_
     have hx:Mth.In s x:=⟨x0,x1⟩;have hy:=T4 ps.1 hx;rw[J4 hx,bg6 x0 x1];obtain ⟨z1,z2⟩:=az0 ps.1 hb hy;exact U2 ps.1 z1 hx z2
   obtain ⟨t2,w2,k2,c2⟩:=bm8 tp t0 w0 ps tb lb bs
   have hm:j8 s (j8 r0 b)∈ts.filter fun t=>decide (o8 t=o8 r0):=du4.mpr ⟨(ar.mem tp lp m1).mpr ⟨t2,w2⟩,decide_eq_true k2⟩
   have ndf:=(ar.nd tp lp m1).sublist (ea7 (p:=fun t=>decide (o8 t=o8 r0)))
   refine au4 ndf hm fun r hr=> ?_
   have lr:r.length=p.length:=((ar.mem tp lp m1).mp (du4.mp hr).1).2.1.symm;rw[decide_eq_true_iff];refine ⟨fun e=>ch3 ps.1 (by rw[lr,ps.2.1]) (by rw[A2,A2,lb]) (by rw[<-e,c2]),fun e=>by rw[e];exact c2⟩
 · intro r hr;obtain ⟨h1,h2⟩:=du4.mp hr;obtain ⟨tr,wr⟩:=(ar.mem tp lp m1).mp h1;have lr:r.length=p.length:=wr.1.symm;have kk:=bm6.mp (of_decide_eq_true h2);obtain ⟨t,nt⟩:=bx2 tr kk;obtain ⟨t',nt'⟩:=bx2 t0 kk.symm;have i1:=nt.isT tr t0 (by omega) kk;have i2:=nt'.isT t0 tr (by omega) kk.symm;have c1:=nt.conj tr t0 kk;have c2:=nt'.conj t0 tr kk.symm;exact Nat.le_antisymm (cp2 tp mem nd t0 l0 tr lr l0 (ap9 tr t0 wr w0 i1 nt.len c1) c1) (cp2 tp mem nd t0 l0 t0 l0 lr (ap9 t0 tr w0 wr i2 nt'.len c2) c2)
end
end My
namespace My
open PySem L2 Mth
section
variable {P:Program} {w:World} {K:PySem.W.Frag} {mg:Str->Option Value} {base:Heap}
def L7:Nat->Nat->Nat->List (List Int)
 |0,_,_=>[[]]
 |d+1,n,m=>if n=0 then [[]] else (du8 (min n m)).flatMap fun i=>(L7 d (n - (i+1)) (i+1)).map fun r=>((i:Int)+1)::r
theorem ch4 (d m:Nat):L7 d 0 m=[[]]:=by cases d<;>rfl
theorem ch5:∀d,d < 13->∀n,n < 13->∀m,m < 13->(L7 d n m).length<=77:=by decide+kernel
theorem bm9:∀(d n m:Nat) (r:List Int),r∈L7 d n m->r.length<=d
 |0,n,m,r,h=>by rw[ds8.mp (show r∈[[]] from h)];exact dr9 _
 |d+1,n,m,r,h=>by
  unfold L7 at h
  split at h
  · rw[ds8.mp h];exact du2 _
  · obtain ⟨i,_,hi⟩:=dw9.mp h;obtain ⟨q,hq,rfl⟩:=ds9.mp hi;have:=bm9 d _ _ q hq;rw[dt9];omega
def ae0 (d:Nat):Sp:=fun vs H Q _=>∃n m:Nat,vs=[.int (n:Int),.int (m:Int)]/\n<=d/\m<=12/\d<=12/\∀(l:Addr) (as:List Addr) (H':Hp),H l=none->c9 H H'->H' l=some (.lst (as.map V.ref))->j9 H' as (L7 d n m)->(∀b∈as,H b=none)->as.Nodup->l∉as->Q (.ref l) H'
theorem cd4 {H:Hp}{e l:Addr}(he:H e=none)(hl:(c8 H e (.lst [])) l=none):H l=none/\c9 H (c8 (c8 H e (.lst [])) l (.lst [V.ref e]))/\j9 (c8 (c8 H e (.lst [])) l (.lst [V.ref e])) [e] [[]]/\l∉[e]:=by
 have n:l≠e:=fun z=>by rw[z,c7] at hl;cases hl
 have hl0:H l=none:=by rw[g7 n] at hl;exact hl
 refine ⟨hl0,(c9.upd_new he).upd_r hl0,⟨rfl,fun j a r h1 h2=> ?_⟩,fun z=>n (ds8.mp z)⟩
 cases j with
 |zero=>
  cases h1;cases h2;rw[g7 n.symm,c7];rfl
 |succ j=>cases h1
def Y3 (d n i:Nat):List (List Int):=(du8 i).flatMap fun i=>(L7 d (n - (i+1)) (i+1)).map fun r=>((i:Int)+1)::r
theorem ai8 (d n i:Nat):Y3 d n (i+1)=Y3 d n i++(L7 d (n - (i+1)) (i+1)).map fun r=>((i:Int)+1)::r:=by
 unfold Y3;rw[eb9,dy6,List.flatMap_singleton]
theorem cp3 (d n:Nat):∀{i j:Nat},i<=j->(Y3 d n i).length<=(Y3 d n j).length
 |i,j,h=>by
  induction j with
  |zero=>rw[Nat.le_zero.mp h];exact dr9 _
  |succ j ih=>
   rcases eh4 h with z|z
   · have:=ih (by omega);rw[ai8,ds6];omega
   · rw[z];exact dr9 _
theorem ay3 (d n m:Nat)(h:n≠0):L7 (d+1) n m=Y3 d n (min n m):=by
 unfold L7 Y3;rw[if_neg h]
theorem E5:m8 ["n","most","kinds","first","rest"] ["n","most"] (j6 U7):=by rfl'
theorem bi8 {f:Addr}{fd:FuncData}(F:A9 K "kinds_below" "kinds_below" U7 f fd)(B:Bl mg):p6 P w K mg base A8 1 f fd ["n","most"] (ae0 0):=by
 refine F.ok E5 (fun vs H Q E h=> ?_) (fun cdv A outer s H vs Q E hr h=> ?_)
 · obtain ⟨n,m,rfl,hn,hm,hd,q⟩:=h;rfl
 · obtain ⟨n,m,rfl,hn,hm,hd,q⟩:=h;refine ⟨_,@e8 _ _ _ _ _ (@C3 _ _ _ _ _ _ _ _ (@p8 _ _ _ _ _ _ _ _ U5 (pv 0) (@i6 _ _ _ _) (w5 _)) (@g6 _ _ _ (@l9 _ _ _ _ (@p5 _ _ _ _ (@c5 _ _ _ _ _ (@p5 _ _ _ _ (@c6 _)) (@c6 _) (by rfl))))) (@y7 _)) (@e8 _ _ _ _ _ (@i8 _ _ (2) _ _ _ _ E5.nd rfl (Or.inl rfl) (@p5 _ _ _ _ (@c6 _)) (by rfl) (by trivial)) (@e8 _ _ _ _ _ (@n9 _ _ _ _ _ _ _ _ PassesOwn.never rfl (@R6 _ _ _ _ _ _ _ (by rfl) B.range (@c5 _ _ _ _ _ (@i6 _ _ _ _) (@c5 _ _ _ _ _ (@n5 _ _ _ _ _ _ _ _ E9 (@bg4 _ _ _ _ _ _ rfl B.min (@c5 _ _ _ _ _ (pv 0) (@c5 _ _ _ _ _ (pv 1) (@c6 _) (by rfl)) (by rfl)) (by rfl) (by rfl) (by rfl)) (@i6 _ _ _ _)) (@c6 _) (by rfl)) (by rfl)) (by rfl) (by rfl)) (@i7 _ _ (3) _ E5.nd rfl (Or.inl rfl) (by trivial)) (@g6 _ _ _ (@n9 _ _ _ _ _ _ _ _ PassesOwn.never rfl (@w4 _ _ _ _ (@az4 _ _)) (@i7 _ _ (4) _ E5.nd rfl (Or.inl rfl) (by trivial)) (@g6 _ _ _ (@w6 _ _ _ _ (@B0 _ _ _ _ _ _ _ (pv 2) (@c5 _ _ _ _ _ (@n5 _ _ _ _ _ _ _ _ ab1 (@p5 _ _ _ _ (@c5 _ _ _ _ _ (pv 3) (@c6 _) (by rfl))) (pv 4)) (@c6 _) (by rfl)) (by rfl) (by rfl) (by rfl) (by rfl) (by rfl)) (by rfl))) (by intro _;rfl))) (by intro _;rfl)) (@g6 _ _ _ (@l9 _ _ _ _ (pv 2))))),?_⟩
   obtain rfl:n=0:=by omega
   refine ⟨_,rfl,rfl,_,rfl,?_⟩;refine O7 (fun _=> ?_) (fun h=>absurd (decide_eq_true rfl) h);refine ⟨du2 _,fun e he=>⟨(show 1<=sizeLine by decide),fun l hl=> ?_⟩⟩;obtain ⟨a1,a2,a3,a4⟩:=cd4 he hl;exact q l [e] _ a1 a2 c7 a3 (fun b hb=>by rw[ds8.mp hb];exact he) (by simp) a4
theorem bf8 {d k:Nat}{f:Addr}{fd:FuncData}(F:A9 K "kinds_below" "kinds_below" U7 f fd)(B:Bl mg)(zrz:l8 P w K mg base "kinds_below" (k+1) ["n","most"] (ae0 d)):p6 P w K mg base A8 (k+1+1) f fd ["n","most"] (ae0 (d+1)):=by
 refine F.ok E5 (fun vs H Q E h=> ?_) (fun cdv A outer s H vs Q E hr h=> ?_)
 · obtain ⟨n,m,rfl,hn,hm,hd,q⟩:=h;rfl
 · obtain ⟨n,m,rfl,hn,hm,hd,q⟩:=h;have zlz:m7 (k+1) _:=hr.mono (by omega);refine ⟨_,@e8 _ _ _ _ _ (@C3 _ _ _ _ _ _ _ _ (@p8 _ _ _ _ _ _ _ _ U5 (pv 0) (@i6 _ _ _ _) (w5 _)) (@g6 _ _ _ (@l9 _ _ _ _ (@p5 _ _ _ _ (@c5 _ _ _ _ _ (@p5 _ _ _ _ (@c6 _)) (@c6 _) (by rfl))))) (@y7 _)) (@e8 _ _ _ _ _ (@i8 _ _ (2) _ _ _ _ E5.nd rfl (Or.inl rfl) (@p5 _ _ _ _ (@c6 _)) (by rfl) (by trivial)) (@e8 _ _ _ _ _ (@n9 _ _ _ _ _ _ _ _ PassesOwn.never rfl (@R6 _ _ _ _ _ _ _ (by rfl) B.range (@c5 _ _ _ _ _ (@i6 _ _ _ _) (@c5 _ _ _ _ _ (@n5 _ _ _ _ _ _ _ _ E9 (@bg4 _ _ _ _ _ _ rfl B.min (@c5 _ _ _ _ _ (pv 0) (@c5 _ _ _ _ _ (pv 1) (@c6 _) (by rfl)) (by rfl)) (by rfl) (by rfl) (by rfl)) (@i6 _ _ _ _)) (@c6 _) (by rfl)) (by rfl)) (by rfl) (by rfl)) (@i7 _ _ (3) _ E5.nd rfl (Or.inl rfl) (by trivial)) (@g6 _ _ _ (@n9 _ _ _ _ _ _ _ _ PassesOwn.never rfl (@w4 _ _ _ _ (@h8 _ _ _ _ _ _ _ _ _ _ zrz zlz (@c5 _ _ _ _ _ (@n5 _ _ _ _ _ _ _ _ bq2 (pv 0) (pv 3)) (@c5 _ _ _ _ _ (pv 3) (@c6 _) (by rfl)) (by rfl)) (by rfl) (by decide) (by rfl) (by rfl))) (@i7 _ _ (4) _ E5.nd rfl (Or.inl rfl) (by trivial)) (@g6 _ _ _ (@w6 _ _ _ _ (@B0 _ _ _ _ _ _ _ (pv 2) (@c5 _ _ _ _ _ (@n5 _ _ _ _ _ _ _ _ ab1 (@p5 _ _ _ _ (@c5 _ _ _ _ _ (pv 3) (@c6 _) (by rfl))) (pv 4)) (@c6 _) (by rfl)) (by rfl) (by rfl) (by rfl) (by rfl) (by rfl)) (by rfl))) (by intro _;rfl))) (by intro _;rfl)) (@g6 _ _ _ (@l9 _ _ _ _ (pv 2))))),?_⟩;refine ⟨_,rfl,rfl,_,rfl,?_⟩
   by_cases n0:n=0
   · subst n0;refine O7 (fun _=> ?_) (fun h=>absurd (decide_eq_true rfl) h);refine ⟨du2 _,fun e he=>⟨(show 1<=sizeLine by decide),fun l hl=> ?_⟩⟩;obtain ⟨a1,a2,a3,a4⟩:=cd4 he hl;rw[ch4] at q;exact q l [e] _ a1 a2 c7 a3 (fun b hb=>by rw[ds8.mp hb];exact he) (by simp) a4
   refine O7 (fun h=> ?_) (fun _=> ?_)
   · have h:=V.int.inj (of_decide_eq_true h);omega
   rw[ay3 d n m n0] at q;refine ⟨du2 _,fun L hL=> ?_⟩;have s1:c9 H (c8 H L (.lst [])):=c9.upd_new hL;have h1L:(c8 H L (.lst [])) L=some (.lst (([]:List Addr).map V.ref)):=c7;generalize (c8 H L (.lst []))=H1 at s1 h1L ⊢
   have emin:(if (m:Int) < (n:Int) then (m:Int) else (n:Int))+1=((min n m:Nat):Int)+1:=by
     split<;>omega
   refine ⟨_,rfl,_,rfl,_,_,rfl,_,_,rfl,rfl,?_⟩;have many:=ch5 (d+1) (by omega) n (by omega) m (by omega);rw[ay3 d n m n0] at many;refine ⟨1,((min n m:Nat):Int)+1,congrArg (fun z=>[V.int 1,V.int z]) emin,⟨by decide,by decide,by omega,by omega⟩,?_⟩
   have en:(((min n m:Nat):Int)+1 - 1).toNat=min n m:=by omega
   rw[en]
   refine K3 (lo:=1) (n:=min n m) (fun i σ H2=>∃(as:List Addr) (v3 v4:Option V),σ=[some (.int (n:Int)),some (.int (m:Int)),some (.ref L),v3,v4]/\H2 L=some (.lst (as.map V.ref))/\j9 H2 as (Y3 d n i)/\c9 H H2/\(∀b∈as,H b=none)/\as.Nodup/\L∉as)
     ⟨[],none,none,rfl,h1L,⟨rfl,fun j b r h=>by cases h⟩,s1,(fun b hb=>by cases hb),dx7,(fun z=>by cases z)⟩ ?_ ?_
   · rintro i σ H2 hi ⟨as,v3,v4,rfl,h2L,rows,s2,fa,nda,nla⟩
     have e1:(n:Int) - (1+(i:Int))=((n - (i+1):Nat):Int):=by omega
     have e2:(1:Int)+(i:Int)=((i+1:Nat):Int):=by omega
     refine ⟨_,rfl,_,rfl,_,_,rfl,rfl,_,rfl,?_⟩;refine ⟨n - (i+1),i+1,(show [V.int _,V.int _]=_ by rw[e1,e2]),by omega,by omega,by omega,fun l bs H3 hl s3 h3l rows3 fb ndb nlb=> ?_⟩;have h3L:=s3 _ _ h2L;have nLl:L≠l:=g8 h2L hl;have rlen:=rows3.1;have tl:=cp3 d n (show i+1<=min n m by omega);rw[ai8,ds6,dr6] at tl
     refine ⟨l,rfl,⟨_,g9.of h3l⟩,A7 (K:=K) (a:=l) (xs:=bs.map V.ref) (fun j σ H4=>∃(cs:List Addr) (v4:Option V),σ=[some (.int (n:Int)),some (.int (m:Int)),some (.ref L),some (.int (1+(i:Int))),v4]/\H4 L=some (.lst (cs.map V.ref))/\j9 H4 cs (Y3 d n i++((L7 d (n - (i+1)) (i+1)).take j).map fun r=>((i:Int)+1)::r)/\c9 H H4/\j5 L H3 H4/\(∀b∈cs,H b=none)/\cs.Nodup/\L∉cs)
       ⟨as,v4,rfl,h3L,by rw[dz5,ed1,du0];exact m9 rows fun b _ o e=>s3 b o e,s2.trans s3,j5.refl L H3,fa,nda,nla⟩ (fun j σ H4 _ zz=>by obtain ⟨_,_,_,_,_,_,k,_⟩:=zz;exact g9.of (k l _ h3l nLl.symm)) ?_ ?_⟩
     · rintro j x σ H4 hj ⟨cs,v4,rfl,h4L,rows4,s4,k4,fc,ndc,nlc⟩;rw[ds0] at hj
       cases hB:bs[j]? with
       |none=>rw[hB] at hj;cases hj
       |some b=>
       rw[hB] at hj;cases hj
       have hjl:j < (L7 d (n - (i+1)) (i+1)).length:=by rw[<-rlen];exact (dr7.mp hB).1
       obtain ⟨r,hr'⟩:∃r,(L7 d (n - (i+1)) (i+1))[j]? =some r:=⟨_,dr8 hjl⟩;have h3b:=rows3.2 j b r hB hr';have rl:=bm9 d _ _ r (ds4 hr')
       have nbL:b≠L:=fun z=>by have:=fb b (ds4 hB);rw[z,h2L] at this;cases this
       have h4b:=k4 b _ h3b nbL;have clen:=rows4.1;rw[ds6,dr6,dt3] at clen;refine ⟨_,rfl,.inl ⟨rfl,_,g9.of h4L⟩,_,rfl,(show 1<=sizeLine by decide),fun e he=> ?_⟩;have nLe:L≠e:=g8 h4L he;have nbe:b≠e:=g8 h4b he
       have h5b:(c8 H4 e (.lst [V.int (1+(i:Int))])) b=some (.lst (r.map V.int)):=by rw[g7 nbe];exact h4b
       have h5L:(c8 H4 e (.lst [V.int (1+(i:Int))])) L=some (.lst (cs.map V.ref)):=by rw[g7 nLe];exact h4L
       have h5e:(c8 H4 e (.lst [V.int (1+(i:Int))])) e=some (.lst [V.int (1+(i:Int))]):=c7;have s5:c9 H4 (c8 H4 e (.lst [V.int (1+(i:Int))])):=c9.upd_new he;generalize (c8 H4 e (.lst [V.int (1+(i:Int))]))=H5 at h5b h5L h5e s5 ⊢;refine ⟨_,rfl,e,b,_,_,rfl,rfl,h5e,h5b,dy8 (t6 (by simp only[dt9,eg2,dr6];omega)),fun p hp=> ?_⟩
       have er:[V.int (1+(i:Int))]++r.map V.int=(((i:Int)+1)::r).map V.int:=by rw[Int.add_comm 1 (i:Int)];rfl
       rw[er];have nLp:L≠p:=g8 h5L hp
       have h6L:(c8 H5 p (.lst ((((i:Int)+1)::r).map V.int))) L=some (.lst (cs.map V.ref)):=by rw[g7 nLp];exact h5L
       refine ⟨L,_,_,rfl,rfl,h6L,t6 (by rw[dr6];omega),?_⟩
       have es:cs.map V.ref++[V.ref p]=(cs++[p]).map V.ref:=by rw[ds5];rfl
       rw[es];have hp4:H4 p=none:=s5.free hp;have h7L:(c8 (c8 H5 p (.lst ((((i:Int)+1)::r).map V.int))) L (.lst ((cs++[p]).map V.ref))) L=some (.lst ((cs++[p]).map V.ref)):=c7
       have h7p:(c8 (c8 H5 p (.lst ((((i:Int)+1)::r).map V.int))) L (.lst ((cs++[p]).map V.ref))) p=some (.lst ((((i:Int)+1)::r).map V.int)):=by rw[g7 nLp.symm,c7]
       have k7:j5 L H4 (c8 (c8 H5 p (.lst ((((i:Int)+1)::r).map V.int))) L (.lst ((cs++[p]).map V.ref))):=fun c o hc hn=>by rw[g7 hn,g7 (g8 (s5 c o hc) hp)];exact s5 c o hc
       generalize (c8 (c8 H5 p (.lst ((((i:Int)+1)::r).map V.int))) L (.lst ((cs++[p]).map V.ref)))=H7 at h7L h7p k7 ⊢;refine ⟨cs++[p],_,rfl,h7L,?_,s4.kb k7 hL,k4.trans k7,fun c hc=> ?_,?_,?_⟩
       · rw[i9 hr',ds5,<-dt5];exact M8 (m9 rows4 fun c hc o e=>k7 c o e fun z=>nlc (z▸hc)) h7p
       · rcases dt1.mp hc with z|z
         · exact fc c z
         · rw[ds8.mp z];exact s4.free hp4
       · refine av5 ndc fun z=> ?_
         obtain ⟨q',hq'⟩:=Z9 rows4 z;rw[hp4] at hq';cases hq'
       · intro z
         rcases dt1.mp z with z|z
         · exact nlc z
         · exact nLp (ds8.mp z)
     · rintro σ H4 ⟨cs,v4,rfl,h4L,rows4,s4,k4,fc,ndc,nlc⟩;rw[dr6,rlen,du1,<-ai8] at rows4;exact ⟨cs,_,_,rfl,h4L,rows4,s4,fc,ndc,nlc⟩
   · rintro σ H2 ⟨as,v3,v4,rfl,h2L,rows,s2,fa,nda,nla⟩;exact ⟨_,rfl,q L as H2 hL s2 h2L rows fa nda nla⟩
end
end My
namespace My
open PySem L2 Mth
section
variable {P:Program} {w:World} {K:PySem.W.Frag} {mg:Str->Option Value} {base:Heap}
def au5:Sp:=fun vs H Q _=>∃n:Nat,vs=[.int (n:Int)]/\n<=12/\Q .non H
theorem au6:m8 ["n"] ["n"] (j6 U0):=by rfl'
theorem au7 {f:Addr}{fd:FuncData}(F:A9 K "must_be_counted" "must_be_counted" U0 f fd)(zly:∃t,mg "MOST_COUNTED"=some (.int 12 t))(zm:l8 P w K mg base "is_whole" 1 ["thing"] (ak1 K)):p6 P w K mg base A8 2 f fd ["n"] au5:=by
 refine F.ok au6 (fun vs H Q E h=> ?_) (fun cdv A outer s H vs Q E hr h=> ?_)
 · obtain ⟨n,rfl,hn,q⟩:=h;rfl
 · obtain ⟨n,rfl,hn,q⟩:=h;obtain ⟨_,zez⟩:=zly;have zex:m7 1 _:=hr.mono (by decide);refine ⟨_,@e8 _ _ _ _ _ (@C3 _ _ _ _ _ _ _ _ (@ag6 _ _ _ _ _ _ _ (@ae4 _ _ _ _ (@ae3 _ _ _ (@h8 _ _ _ _ _ _ _ _ _ _ zm zex (@c5 _ _ _ _ _ (pv 0) (@c6 _) (by rfl)) (by rfl) (by decide) (by rfl) (by rfl)) (by intro _;rfl))) (@aj0 _ _ _ _ (@p8 _ _ _ _ _ _ _ _ bb7 (pv 0) (@i6 _ _ _ _) (w5 _)))).pt (@g6 _ _ _ (@ae5 _ _)) (@y7 _)) (@g6 _ _ _ (@C3 _ _ _ _ _ _ _ _ (@p8 _ _ _ _ _ _ _ _ bo4 (pv 0) (@bf9 _ _ (.int 12) _ _ (by rfl) zez ⟨_,rfl⟩ (by decide)) (w5 _)) (@g6 _ _ _ (@ae5 _ _)) (@y7 _))),?_⟩;refine ⟨_,rfl,.int (n:Int),_,true,false,rfl,.int _,al8 K "int",ae9 K,_,rfl,?_⟩;refine M4 ⟨_,rfl,_,_,rfl,rfl,_,rfl,?_⟩;refine O7 (fun h=>absurd (of_decide_eq_true h) (by omega)) (fun _=> ?_);refine ⟨_,rfl,_,_,rfl,rfl,_,rfl,?_⟩;exact O7 (fun h=>absurd (of_decide_eq_true h) (by omega)) (fun _=>q)
def au8:Sp:=fun vs H Q _=>∃n:Nat,vs=[.int (n:Int)]/\n<=12/\∀(l:Addr) (as:List Addr) (H':Hp),H l=none->c9 H H'->H' l=some (.lst (as.map V.ref))->j9 H' as (L7 12 n n)->(∀b∈as,H b=none)->as.Nodup->l∉as->Q (.ref l) H'
theorem bz4:m8 ["n"] ["n"] (j6 an4):=by rfl'
theorem bz5 {f:Addr}{fd:FuncData}(F:A9 K "kinds_of" "kinds_of" an4 f fd)(zpy:l8 P w K mg base "must_be_counted" 2 ["n"] au5)(zrz:l8 P w K mg base "kinds_below" 13 ["n","most"] (ae0 12)):p6 P w K mg base A8 14 f fd ["n"] au8:=by
 refine F.ok bz4 (fun vs H Q E h=> ?_) (fun cdv A outer s H vs Q E hr h=> ?_)
 · obtain ⟨n,rfl,hn,q⟩:=h;rfl
 · obtain ⟨n,rfl,hn,q⟩:=h;have zgy:m7 2 _:=hr.mono (by decide);have zlz:m7 13 _:=hr.mono (by decide);refine ⟨_,@e8 _ _ _ _ _ (@w6 _ _ _ _ (@h8 _ _ _ _ _ _ _ _ _ _ zpy zgy (@c5 _ _ _ _ _ (pv 0) (@c6 _) (by rfl)) (by rfl) (by decide) (by rfl) (by rfl)) (by rfl)) (@g6 _ _ _ (@l9 _ _ _ _ (@h8 _ _ _ _ _ _ _ _ _ _ zrz zlz (@c5 _ _ _ _ _ (pv 0) (@c5 _ _ _ _ _ (pv 0) (@c6 _) (by rfl)) (by rfl)) (by rfl) (by decide) (by rfl) (by rfl)))),?_⟩;refine ⟨_,rfl,n,rfl,hn,?_⟩;exact ⟨_,rfl,_,rfl,n,n,rfl,hn,hn,by decide,fun l as H' a1 a2 a3 a4 a5 a6 a7=>q l as H' a1 a2 a3 a4 a5 a6 a7⟩
end
end My
namespace My
open PySem L2 Mth
section
variable {P:Program} {w:World} {K:PySem.W.Frag} {mg:Str->Option Value} {base:Heap} {zx zt zry zxy zxx ztz zvx zty ztx zsz zrx:Addr}
theorem bn0 {f:Nat->Nat}{d:Nat}:∀{xs:List Nat} {x:Nat},x∈xs->d∣f x->d∣o7 f xs
 |y::xs,x,hx,h=>by
  show d∣f y*o7 f xs
  rcases dt8.mp hx with z|z
  · rw[<-z];exact Nat.dvd_trans h (el1 _ _)
  · exact Nat.dvd_trans (bn0 z h) (Nat.dvd_mul_left _ _)
theorem cp4 {p t:List Int}(tp:j7 p)(h:y6 p ((E7 p:Nat):Int) t):t=L2.K4 0 p.length:=by
 refine h.uniq (ar0 tp (E8 0 _) fun x hx L hL=>⟨0,?_,by rw[bg6 hx.1 hx.2];rfl⟩);have up:=C6 tp;obtain ⟨r,hr,hm⟩:=dt2.mp ((W2 tp up).mem_iff.mpr (G0.mpr hx));obtain ⟨y,M,hy,pr,er,_⟩:=up.ring r hr;have hm':=hm;rw[er] at hm';obtain ⟨j,jl,ej⟩:=A5.mp hm'
 have eL:M=L:=by
   have:=pr.shift tp hy j;rw[<-ej] at this;exact this.uniq hL
 have lr:r.length=L:=by rw[er,n6,eL]
 have c1:1<=o4 (i4 p p.length) L:=by
   unfold o4;exact ee7.mpr ⟨r,hr,decide_eq_true lr⟩
 have l1:=hL.pos
 have ln:L<=p.length:=by
   have:=(eg5 hr).length_le;have:=S5 tp up;omega
 have d:L∣E7 p:=by
   unfold E7;refine bn0 (x:=L) (ds9.mpr ⟨L - 1,dv6.mpr (by omega),by omega⟩) ?_
   have e:aa5 p L=E2 L (o4 (i4 p p.length) L):=by
     unfold aa5 be2;rw[W3 tp up L,dy0 _ (by omega)]
   rw[e];obtain ⟨c,ec⟩:∃c,o4 (i4 p p.length) L=c+1:=⟨_,(ec7 c1).symm⟩;rw[ec];show L∣E2 L c*L*(c+1);exact Nat.dvd_trans (Nat.dvd_mul_left _ _) (el1 _ _)
 obtain ⟨c,ec⟩:=d;rw[ec];show ((0:Int) - ((L*c:Nat):Int))%(L:Int)=0;rw[ea4,Int.zero_sub,<-Int.mul_neg];exact Int.mul_emod_right _ _
theorem cw1:∀n,n<=5->((R0 n).map fun p=>((R0 n).filter fun t=>decide (j8 t p=j8 p t)).length).sum=(R0 n).length*(L7 12 n n).length:=by decide+kernel
theorem cw2 {n:Nat}(hn:n<=5){us:List (List Int)}(pm:us.Perm (R0 n)):(us.map fun p=>((E7 p:Nat):Int)).sum=(us.length:Int)*((L7 12 n n).length:Int):=by
 have e:us.map (fun p=>((E7 p:Nat):Int))=(us.map fun p=>((R0 n).filter fun t=>decide (j8 t p=j8 p t)).length).map fun (k:Nat)=>(k:Int):=by
   rw[dx2]
   refine dy3 fun p hp=> ?_
   obtain ⟨tp,lp⟩:=(S6 n p).mp (pm.mem_iff.mp hp);show ((E7 p:Nat):Int)=_;rw[bm3 tp,lp];rfl
 have c:∀l:List Nat,(l.map fun (k:Nat)=>(k:Int)).sum=((l.sum:Nat):Int):=fun l=>by
   induction l with
   |nil=>rfl
   |cons a l ih=>rw[dw3,ec5,ih,ec5,ej4]
 rw[e,c,(pm.map _).sum_nat,cw1 n hn,pm.length_eq,ea4]
end
end My
namespace My
open PySem L2 Mth PySem.Spec PyProof.Rows
section
def dq0 (K:PySem.W.Frag)(neg:Bool):R2:=fun x y H Q=>∃(p r:Addr) (bs:List Addr) (ts:List (List Int)) (q:List Int),x= .ref r/\y= .ref p/\g9 K H p (bs.map V.ref)/\j9 H bs ts/\H r=some (.lst (q.map V.int))/\Q (.bl (if neg then !decide (q∈ts) else decide (q∈ts))) H
open Classical in
noncomputable def eqR (H:Hp)(q:List Int)(y:Value):Bool:=decide (∃b,y= .ref b/\H b=some (.lst (q.map V.int)))
theorem bi9 {H:Hp}{q row:List Int}{b:Addr}(hb:H b=some (.lst (row.map V.int))):eqR H q (.ref b)=decide (row=q):=by
 unfold eqR
 by_cases c:row=q
 · rw[decide_eq_true c];exact @decide_eq_true _ (Classical.propDecidable _) ⟨b,rfl,by rw[<-c];exact hb⟩
 · rw[decide_eq_false c]
   refine @decide_eq_false _ (Classical.propDecidable _) fun ⟨b',e,h⟩=> ?_
   cases e;rw[hb] at h
   injection h with h
   injection h with h
   exact c (ax8 h)
theorem ag9 {bs:List Addr}:∀{its:List Value},o3 (bs.map V.ref) its->its=bs.map Value.ref:=by
 induction bs with
 |nil=>intro its h;cases h;rfl
 |cons b bs ih=>
  intro its h
  cases h with
  |cons r t=>
   cases r;rw[ih t];rfl
theorem bx3 {H:Hp}{q:List Int}:∀{bs:List Addr} {ts:List (List Int)},j9 H bs ts->(bs.map Value.ref).any (eqR H q)=decide (q∈ts)
 |[],[],_=>rfl
 |[],t::ts,h=>by have:=h.1;simp at this
 |b::bs,[],h=>by have:=h.1;simp at this
 |b::bs,t::ts,h=>by
  have h0:=h.2 0 b t rfl rfl;have ht:j9 H bs ts:=⟨by have:=h.1;simpa using this,fun j a r e1 e2=>h.2 (j+1) a r e1 e2⟩;rw[dw3,ek5,bx3 ht,bi9 h0,ee0,ej2,decide_eq_true_iff,decide_eq_true_iff,decide_eq_true_iff,dt8];exact ⟨fun z=>z.elim (fun e=> .inl e.symm) .inr,fun z=>z.elim (fun e=> .inl e.symm) .inr⟩
theorem cp5 {X:Cx}(hu0:X.A.units+1+1 < cLine):O6 X (compareOp .NotIn) (dq0 X.K true):=by
 have hu:X.A.in1.units+0+1 < cLine:=by rw[Around.in1_units];exact hu0
 intro pins s σ H x y v u Q I rx ry h;obtain ⟨p,r,bs,ts,q,rfl,rfl,hq,rows,hr,k⟩:=h;cases rx;cases ry;obtain ⟨its,rr,pl,hz⟩:=I.list hq;have ei:=ag9 rr;refine SeqAt.notIn_listAt (eqR H q) pl.isList (fun w hw=> ?_) ⟨.bl _,H,I,rfl,?_⟩
 · have hw:w∈its:=by simpa using hw
   rw[ei] at hw;obtain ⟨b,hb,rfl⟩:=ds9.mp hw;obtain ⟨j,hj⟩:=dt7.mp hb;have jl:=(dr7.mp hj).1;have h1:=rows.2 j b _ hj (dr8 (by rw[<-rows.1];exact jl))
   by_cases e:b=r
   · subst e;rw[bi9 hr,decide_eq_true rfl];exact SeqAt.EqAt.same _
   · rw[bi9 h1];exact SeqAt.EqAt.of_refs e (ck2 (n:=0) I hu (g9.of h1) (g9.of hr) (ae8 _ _ _ _ _))
 · rw[show its.toArray.any (eqR H q)=its.any (eqR H q) by simp,ei,bx3 rows];exact k
end
end My
namespace My
open PySem L2 Mth
section
variable {P:Program} {w:World} {K:PySem.W.Frag} {mg:Str->Option Value} {base:Heap} {zx zt zry zxy zxx ztz zvx zty ztx zsz zrx:Addr}
def ch6:Sp:=fun vs H Q _=>∃(a:Addr) (p:List Int) (m:Nat),vs=[.ref a,.int (m:Int)]/\B9 H a p/\m<=6/\∀(l:Addr) (t:List Int) (H':Hp),H l=none->c9 H H'->y6 p (m:Int) t->H' l=some (.lst (t.map V.int))->Q (.ref l) H'
theorem Y4:m8 ["p","m","found","k"] ["p","m"] (j6 ai2):=by rfl'
theorem bx4 {f:Addr}{fd:FuncData}(F:A9 K "_law_power" "_law_power" ai2 f fd)(B:Bl mg)(zxz:l8 P w K mg base "_law_behind" 1 ["p","q"] an8):p6 P w K mg base A8 2 f fd ["p","m"] ch6:=by
 refine F.ok Y4 (fun vs H Q E h=> ?_) (fun cdv A outer s H vs Q E hr h=> ?_)
 · obtain ⟨a,p,m,rfl,⟨ha,tp,lp⟩,hm,q⟩:=h;rfl
 · obtain ⟨a,p,m,rfl,⟨ha,tp,lp⟩,hm,q⟩:=h;have zux:m7 1 _:=hr.mono (by decide);refine ⟨_,@e8 _ _ _ _ _ (@i8 _ _ (2) _ _ _ _ Y4.nd rfl (Or.inl rfl) (@ad0 _ _ _ _ _ _ _ rfl B.list B.range (@c5 _ _ _ _ _ (@p9 _ _ _ _ _ B.len (@c5 _ _ _ _ _ (pv 0) (@c6 _) (by rfl)) (by rfl) (by rfl)) (@c6 _) (by rfl)) (by rfl) (by rfl) (by rfl) (by rfl)) (by rfl) (by trivial)) (@e8 _ _ _ _ _ (@n9 _ _ _ _ _ _ _ _ PassesOwn.never rfl (@V8 _ _ _ _ _ _ (by rfl) B.range (@c5 _ _ _ _ _ (pv 1) (@c6 _) (by rfl)) (by rfl)) (@i7 _ _ (3) _ Y4.nd rfl (Or.inl rfl) (by trivial)) (@g6 _ _ _ (@i8 _ _ (2) _ _ _ _ Y4.nd rfl (Or.inl rfl) (@h8 _ _ _ _ _ _ _ _ _ _ zxz zux (@c5 _ _ _ _ _ (pv 0) (@c5 _ _ _ _ _ (pv 2) (@c6 _) (by rfl)) (by rfl)) (by rfl) (by decide) (by rfl) (by rfl)) (by rfl) (by trivial))) (by intro _;rfl)) (@g6 _ _ _ (@l9 _ _ _ _ (pv 2)))),?_⟩;refine ⟨_,rfl,a,_,rfl,.inl (g9.of ha),_,rfl,fun r hr'=> ?_⟩;rw[dr6];have s1:c9 H (c8 H r (.rng 0 (p.length:Int))):=c9.upd_new hr';have h1r:(c8 H r (.rng 0 (p.length:Int))) r=some (.rng 0 (p.length:Int)):=c7;generalize (c8 H r (.rng 0 (p.length:Int)))=H1 at s1 h1r ⊢;refine ⟨r,0,(p.length:Int),rfl,h1r,⟨by decide,by decide,by omega,by omega⟩,by omega,fun l hl=> ?_⟩;rw[show ((p.length:Int) - 0).toNat=p.length by omega];have s2:c9 H1 (c8 H1 l (.lst ((K4 0 p.length).map V.int))):=c9.upd_new hl;have h2l:(c8 H1 l (.lst ((K4 0 p.length).map V.int))) l=some (.lst ((K4 0 p.length).map V.int)):=c7;generalize (c8 H1 l (.lst ((K4 0 p.length).map V.int)))=H2 at s2 h2l ⊢;have s02:=s1.trans s2
   refine ⟨_,rfl,(m:Int),rfl,by omega,by omega,K3 (lo:=0) (n:=((m:Nat):Int).toNat) (fun i σ Hx=>∃(fo:Addr) (t:List Int) (v3:Option V),σ=[some (.ref a),some (.int (m:Int)),some (.ref fo),v3]/\H fo=none/\c9 H Hx/\y6 p (i:Int) t/\Hx fo=some (.lst (t.map V.int)))
     ⟨l,_,none,rfl,s1.free hl,s02,cs6 tp,h2l⟩ ?_ ?_⟩
   · rintro i σ Hx hi ⟨fo,t,v3,rfl,hfo,sx,pw,hxf⟩;have tt:=bg5 tp pw;have lt:t.length=p.length:=pw.1;refine ⟨_,rfl,_,rfl,a,fo,p,t,rfl,⟨sx _ _ ha,tp,lp⟩,⟨hxf,tt,by omega⟩,by omega,fun l3 H3 hl3 s3 h3=> ?_⟩;have pc:=cs5 tp (cz9 tp) pw;rw[show (1:Int)+(i:Int)=((i+1:Nat):Int) by omega] at pc;exact ⟨l3,_,_,rfl,sx.free hl3,sx.trans s3,pc,h3⟩
   · rintro σ Hx ⟨fo,t,v3,rfl,hfo,sx,pw,hxf⟩;rw[show ((m:Nat):Int).toNat=m by omega] at pw;exact ⟨_,rfl,q fo t Hx hfo sx pw hxf⟩
theorem cp6 {ts ks:List (List Int)}(nd:ts.Nodup)(nk:ks.Nodup)(all:∀t∈ts,o8 t∈ks):(ks.flatMap fun k=>ts.filter fun t=>decide (o8 t=k)).Perm ts:=by
 refine (ed8 ?_ nd).mpr fun t=> ?_
 · rw[dt0,List.pairwise_flatMap];refine ⟨fun k _=>dt0.mp (nd.sublist ea7),(dt0.mp nk).imp fun {a b} hab x hx y hy e=> ?_⟩;have e1:=of_decide_eq_true (du4.mp hx).2;have e2:=of_decide_eq_true (du4.mp hy).2;exact hab (by rw[<-e1,<-e2,e])
 · rw[dw9];exact ⟨fun ⟨k,_,h⟩=>(du4.mp h).1,fun h=>⟨o8 t,all t h,du4.mpr ⟨h,decide_eq_true rfl⟩⟩⟩
theorem au9 {f:List Int->List (List Int)}{ks:List (List Int)}{k:List Int}:(ks++[k]).flatMap f=ks.flatMap f++f k:=by rw[dy6,List.flatMap_singleton]
theorem am1 {H:Hp}{as cs:List Addr}{rs qs:List (List Int)}(h:j9 H as rs)(g:j9 H cs qs):j9 H (as++cs) (rs++qs):=by
 refine ⟨by rw[ds6,ds6,h.1,g.1],fun j a r e1 e2=> ?_⟩;have l:=h.1
 by_cases z:j < as.length
 · rw[dv0 z] at e1;rw[dv0 (by omega)] at e2;exact h.2 j a r e1 e2
 · rw[dw6 (by omega)] at e1 e2;rw[<-l] at e2;exact g.2 _ a r e1 e2
def bx5:Sp:=fun vs H Q _=>∃(a pa:Addr) (p:List Int) (m:Nat) (ds:List Addr) (us:List (List Int)),vs=[.ref a,.int (m:Int),.ref pa]/\B9 H a p/\1<=m/\m<=6/\ac4 p m<=2000/\H pa=some (.lst (ds.map V.ref))/\j9 H ds us/\ap1 p us/\us.length<=2000/\∀H',Kn H H'->Q (.bl true) H'
theorem t8:m8 ["p","m","past","families","whole","family","first","both","s","other"] ["p","m","past"] (j6 P0):=by rfl'
theorem Y5:(["s","first"]:List Str).Nodup:=by decide+kernel
theorem al1 {f:Addr}{fd:FuncData}(F:A9 K "_law_families_right" "_law_families_right" P0 f fd)(B:Bl mg)(zmz:l8 P w K mg base "root_families" 45 ["p","m"] bx1)(zqy:l8 P w K mg base "all_roots" 44 ["p","m"] be9)(zzx:l8 P w K mg base "how_many_roots" 4 ["p","m"] as7)(zxz:l8 P w K mg base "_law_behind" 1 ["p","q"] an8)(ziy:l8 P w K mg base "_law_back" 1 ["p"] (az3 bh7 bi7))(zqx:l8 P w K mg base "_law_power" 2 ["p","m"] ch6):p6 P w K mg base A8 46 f fd ["p","m","past"] bx5:=by
 refine F.ok t8 (fun vs H Q E h=> ?_) (fun cdv A outer s H vs Q E hr h=> ?_)
 · obtain ⟨a,pa,p,m,ds,us,rfl,⟨ha,tp,lp⟩,m1,m6,few,hpa,rowsU,ap,lus,q⟩:=h;rfl
 · obtain ⟨a,pa,p,m,ds,us,rfl,⟨ha,tp,lp⟩,m1,m6,few,hpa,rowsU,ap,lus,q⟩:=h;have zfy:m7 45 _:=hr.mono (by decide);have zjz:m7 44 _:=hr.mono (by decide);have zvz:m7 4 _:=hr.mono (by decide);have zux:m7 1 _:=hr.mono (by decide);have zd:m7 1 _:=hr.mono (by decide);have zjy:m7 2 _:=hr.mono (by decide);have hu:=T2 hr;have hu2:_+1+1 < cLine:=dw0 (eg9 (by decide:2<=64) _) hr.units;refine ⟨_,@e8 _ _ _ _ _ (@i8 _ _ (3) _ _ _ _ t8.nd rfl (Or.inl rfl) (@h8 _ _ _ _ _ _ _ _ _ _ zmz zfy (@c5 _ _ _ _ _ (@K5 _ _ _ _ _ B.list (@c5 _ _ _ _ _ (pv 0) (@c6 _) (by rfl)) (by rfl) (by rfl)) (@c5 _ _ _ _ _ (pv 1) (@c6 _) (by rfl)) (by rfl)) (by rfl) (by decide) (by rfl) (by rfl)) (by rfl) (by trivial)) (@e8 _ _ _ _ _ (@i8 _ _ (4) _ _ _ _ t8.nd rfl (Or.inl rfl) (@p5 _ _ _ _ (@c6 _)) (by rfl) (by trivial)) (@e8 _ _ _ _ _ (@n9 _ _ _ _ _ _ _ _ PassesOwn.never rfl (@w4 _ _ _ _ (pv 3)) (@i7 _ _ (5) _ t8.nd rfl (Or.inl rfl) (by trivial)) (@g6 _ _ _ (@i8 _ _ (4) _ _ _ _ t8.nd rfl (Or.inl rfl) (@n5 _ _ _ _ _ _ _ _ ab1 (pv 4) (pv 5)) (by rfl) (by trivial))) (by intro _;rfl)) (@e8 _ _ _ _ _ (@C3 _ _ _ _ _ _ _ _ (@ag6 _ _ _ _ _ _ _ (@p8 _ _ _ _ _ _ _ _ (bc3 1 hu2) (ah6 hu2 B.sorted (@c5 _ _ _ _ _ (pv 4) (@c6 _) (by rfl))) (@h8 _ _ _ _ _ _ _ _ _ _ zqy zjz (@c5 _ _ _ _ _ (@K5 _ _ _ _ _ B.list (@c5 _ _ _ _ _ (pv 0) (@c6 _) (by rfl)) (by rfl) (by rfl)) (@c5 _ _ _ _ _ (pv 1) (@c6 _) (by rfl)) (by rfl)) (by rfl) (by decide) (by rfl) (by rfl)) (w5 _)) (@aj0 _ _ _ _ (@p8 _ _ _ _ _ _ _ _ bo2 (@p9 _ _ _ _ _ B.len (@c5 _ _ _ _ _ (pv 4) (@c6 _) (by rfl)) (by rfl) (by rfl)) (@h8 _ _ _ _ _ _ _ _ _ _ zzx zvz (@c5 _ _ _ _ _ (@K5 _ _ _ _ _ B.list (@c5 _ _ _ _ _ (pv 0) (@c6 _) (by rfl)) (by rfl) (by rfl)) (@c5 _ _ _ _ _ (pv 1) (@c6 _) (by rfl)) (by rfl)) (by rfl) (by decide) (by rfl) (by rfl)) (w5 _)))).pt (@g6 _ _ _ (@l9 _ _ _ _ (@R1 _ _ _ _))) (@y7 _)) (@e8 _ _ _ _ _ (@n9 _ _ _ _ _ _ _ _ PassesOwn.never rfl (@w4 _ _ _ _ (pv 3)) (@i7 _ _ (5) _ t8.nd rfl (Or.inl rfl) (by trivial)) (@e8 _ _ _ _ _ (@i8 _ _ (6) _ _ _ _ t8.nd rfl (Or.inr rfl) (@I0 _ _ _ _ _ _ _ B5 (pv 5) (@i6 _ _ _ _) (fun _ _=>rfl)) (by rfl) (by trivial)) (@e8 _ _ _ _ _ (@ca4 _ (7) _ _ _ _ _ _ _ _ _ _ _ _ _ (["s","first"]) (1) ([6]) t8.nd rfl (Or.inl rfl) rfl .of (@w4 _ _ _ _ (pv 2)) (fun _ _ _ _ _=>@i7 _ _ (0) _ Y5 rfl (Or.inl rfl) (by trivial)) (fun _ _ _ _ _=>@ay7 _ _ _ (@p8 _ _ _ _ _ _ _ _ (da8 K 0 hu) (@h8 _ _ _ _ _ _ _ _ _ _ zxz zux (@c5 _ _ _ _ _ (pv 0) (@c5 _ _ _ _ _ (pv 1) (@c6 _) (by rfl)) (by rfl)) (by rfl) (by decide) (by rfl) (by rfl)) (@h8 _ _ _ _ _ _ _ _ _ _ zxz zux (@c5 _ _ _ _ _ (pv 1) (@c5 _ _ _ _ _ (pv 0) (@c6 _) (by rfl)) (by rfl)) (by rfl) (by decide) (by rfl) (by rfl)) (w5 _))) (fun _ _ _ _ _=>(pv 0)) (by rfl) (by intro _;rfl) (by trivial)) (@e8 _ _ _ _ _ (@C3 _ _ _ _ _ _ _ _ (@p8 _ _ _ _ _ _ _ _ bo2 (@n5 _ _ _ _ _ _ _ _ N7 (@p9 _ _ _ _ _ B.len (@c5 _ _ _ _ _ (pv 5) (@c6 _) (by rfl)) (by rfl) (by rfl)) (@p9 _ _ _ _ _ B.len (@c5 _ _ _ _ _ (pv 7) (@c6 _) (by rfl)) (by rfl) (by rfl))) (@p9 _ _ _ _ _ B.len (@c5 _ _ _ _ _ (pv 2) (@c6 _) (by rfl)) (by rfl) (by rfl)) (w5 _)) (@g6 _ _ _ (@l9 _ _ _ _ (@R1 _ _ _ _))) (@y7 _)) (@g6 _ _ _ (@n9 _ _ _ _ _ _ _ _ PassesOwn.never rfl (@w4 _ _ _ _ (@N4 _ _ _ _ _ _ _ _ _ _ Q6 (pv 2) (@T1 _) (@N8 _ _ _ (@i6 _ _ _ _)))) (@i7 _ _ (8) _ t8.nd rfl (Or.inl rfl) (by trivial)) (@e8 _ _ _ _ _ (@i8 _ _ (9) _ _ _ _ t8.nd rfl (Or.inl rfl) (@h8 _ _ _ _ _ _ _ _ _ _ zxz zux (@c5 _ _ _ _ _ (pv 8) (@c5 _ _ _ _ _ (@h8 _ _ _ _ _ _ _ _ _ _ zxz zux (@c5 _ _ _ _ _ (@I0 _ _ _ _ _ _ _ B5 (pv 5) (@dk5 _ _ _ _ _ _ df6 (@i6 _ _ _ _)) (fun _ _=>rfl)) (@c5 _ _ _ _ _ (@h8 _ _ _ _ _ _ _ _ _ _ ziy zd (@c5 _ _ _ _ _ (pv 8) (@c6 _) (by rfl)) (by rfl) (by decide) (by rfl) (by rfl)) (@c6 _) (by rfl)) (by rfl)) (by rfl) (by decide) (by rfl) (by rfl)) (@c6 _) (by rfl)) (by rfl)) (by rfl) (by decide) (by rfl) (by rfl)) (by rfl) (by trivial)) (@g6 _ _ _ (@C3 _ _ _ _ _ _ _ _ (@ag6 _ _ _ _ _ _ _ (@p8 _ _ _ _ _ _ _ _ (bc3 0 hu) (@h8 _ _ _ _ _ _ _ _ _ _ zqx zjy (@c5 _ _ _ _ _ (pv 9) (@c5 _ _ _ _ _ (pv 1) (@c6 _) (by rfl)) (by rfl)) (by rfl) (by decide) (by rfl) (by rfl)) (pv 0) (w5 _)) (@aj0 _ _ _ _ (@p8 _ _ _ _ _ _ _ _ (cp5 hu2) (pv 9) (pv 5) (by with_unfolding_all rfl)))).pt (@g6 _ _ _ (@l9 _ _ _ _ (@R1 _ _ _ _))) (@y7 _)))) (by intro _;rfl)))))) (by intro _;rfl)) (@g6 _ _ _ (@l9 _ _ _ _ (@R1 _ _ _ _))))))),?_⟩
   refine ⟨_,rfl,a,_,rfl,.inl (g9.of ha),fun l1 hl1=> ?_⟩;have s1:c9 H (c8 H l1 (.lst (p.map V.int))):=c9.upd_new hl1;have h1l:(c8 H l1 (.lst (p.map V.int))) l1=some (.lst (p.map V.int)):=c7;generalize (c8 H l1 (.lst (p.map V.int)))=H1 at s1 h1l ⊢;refine ⟨_,rfl,l1,p,m,rfl,⟨h1l,tp,lp⟩,m1,few,fun l ks fs bs ts H2 hl h2l ar rows fam nd fb ff nlb kn=> ?_⟩;have k02:Kn H H2:=(Kn.of s1).trans kn;have lts:=ar.len;have lbt:=rows.1;refine ⟨du2 _,fun w0 hw0=> ?_⟩;have s3:c9 H2 (c8 H2 w0 (.lst [])):=c9.upd_new hw0;have h3w:(c8 H2 w0 (.lst [])) w0=some (.lst (([]:List Addr).map V.ref)):=c7;generalize (c8 H2 w0 (.lst []))=H3 at s3 h3w ⊢;have h3l:=s3 _ _ h2l;have ptn:=cp6 (ar.nd tp lp m1) fam.nk fam.all
   have tkl:∀i,((ks.take i).flatMap fun k=>ts.filter fun t=>decide (o8 t=k)).length<=2000:=fun i=>by
     have e:(ks.flatMap fun k=>ts.filter fun t=>decide (o8 t=k))=((ks.take i).flatMap fun k=>ts.filter fun t=>decide (o8 t=k))++((ks.drop i).flatMap fun k=>ts.filter fun t=>decide (o8 t=k)):=by rw[<-dy6,dx0]
     have:=ptn.length_eq;rw[e,ds6] at this;omega
   have famAt:∀{i:Nat} {x:V},(fs.map V.ref)[i]? =some x->∃k f cs,x=V.ref f/\ks[i]? =some k/\fs[i]? =some f/\H2 f=some (.lst (cs.map V.ref))/\j9 H2 cs (ts.filter fun t=>decide (o8 t=k)):=fun {i x} hi=>by
     obtain ⟨f,hf,rfl⟩:=au2 hi;have il:=(dr7.mp hf).1;have hk:ks[i]? =some (ks[i]'(by rw[fam.len];exact il)):=dr8 _;obtain ⟨cs,h1,_,h2⟩:=fam.row i _ f hk hf;exact ⟨_,f,cs,rfl,hk,hf,h1,h2⟩
   refine ⟨_,rfl,l,rfl,⟨_,g9.of h3l⟩,A7 (K:=K) (a:=l) (xs:=fs.map V.ref) (fun i σ Hx=>∃(wa:Addr) (ws:List Addr) (v5 v6 v7 v8 v9:Option V),σ=[some (.ref a),some (.int (m:Int)),some (.ref pa),some (.ref l),some (.ref wa),v5,v6,v7,v8,v9]/\c9 H2 Hx/\Hx wa=some (.lst (ws.map V.ref))/\j9 Hx ws ((ks.take i).flatMap fun k=>ts.filter fun t=>decide (o8 t=k)))
     ⟨w0,[],none,none,none,none,none,rfl,s3,h3w,⟨rfl,fun j b r h=>by cases h⟩⟩ (fun i σ Hx _ zz=>by obtain ⟨_,_,_,_,_,_,_,_,s,_⟩:=zz;exact g9.of (s _ _ h2l)) ?_ ?_⟩
   · rintro i x σ Hx hi ⟨wa,ws,v5,v6,v7,v8,v9,rfl,sx,hxw,rw_⟩;obtain ⟨k,f,cs,rfl,hk,hf,h2f,rcs⟩:=famAt hi;have hxf:=sx _ _ h2f;have ek:=i9 hk;have l2:=tkl (i+1);rw[ek,au9,ds6] at l2;have lw:=rw_.1;have lc:=rcs.1;refine ⟨_,rfl,_,rfl,wa,f,_,_,rfl,rfl,hxw,hxf,dt4 (show (ws.map V.ref).length+(cs.map V.ref).length<=2000 by rw[dr6,dr6];omega) (by decide),fun w2 hw2=> ?_⟩;rw[<-ds5];refine ⟨w2,ws++cs,_,_,_,_,_,rfl,sx.trans (c9.upd_new hw2),c7,?_⟩;rw[ek,au9];exact am1 (m9 rw_ fun c _ u e=>c9.upd_new hw2 _ _ e) (m9 rcs fun c _ u e=>c9.upd_new hw2 _ _ (sx _ _ e))
   rintro σ H4 ⟨wa,ws,v5,v6,v7,v8,v9,rfl,s4,h4w,rw_⟩;rw[dr6,<-fam.len,du1] at rw_;have k04:Kn H H4:=k02.trans (Kn.of s4);have h4a:=k04.lst ha;refine ⟨_,rfl,wa,ws,_,rfl,g9.of h4w,rw_,fun cs zs so pb pt rows' st hso=> ?_⟩;have s5:c9 H4 (c8 H4 so (.lst (cs.map V.ref))):=c9.upd_new hso;have h5s:(c8 H4 so (.lst (cs.map V.ref))) so=some (.lst (cs.map V.ref)):=c7;generalize (c8 H4 so (.lst (cs.map V.ref)))=H5 at s5 h5s ⊢;have h5a:=s5 _ _ h4a;refine ⟨_,rfl,a,_,rfl,.inl (g9.of h5a),fun l2 hl2=> ?_⟩;have s6:c9 H5 (c8 H5 l2 (.lst (p.map V.int))):=c9.upd_new hl2;have h6l:(c8 H5 l2 (.lst (p.map V.int))) l2=some (.lst (p.map V.int)):=c7;generalize (c8 H5 l2 (.lst (p.map V.int)))=H6 at s6 h6l ⊢;refine ⟨_,rfl,l2,p,m,rfl,⟨h6l,tp,lp⟩,m1,few,fun o bs' ts' H7 ho h7o rowsB ar' nd' fr' no' kp=> ?_⟩;have k47:Kn H4 H7:=(Kn.of (s5.trans s6)).trans (Kn.kp kp);have k07:=k04.trans k47
   have eq:zs=ts':=by
     refine bd8 (pt.trans (ptn.trans ((ed8 (ar.nd tp lp m1) (ar'.nd tp lp m1)).mpr fun t=> ?_))) st ar'.srt;rw[ar.mem tp lp m1,ar'.mem tp lp m1]
   refine ⟨so,o,_,_,_,rfl,rfl,g9.of (kp.lst (s6 _ _ h5s)),g9.of h7o,cl3 (kp.rows (m9 (m9 rows' fun c _ u e=>s5 _ _ e) fun c _ u e=>s6 _ _ e)) rowsB,_,rfl,?_⟩;rw[decide_eq_true eq];refine M4 ?_;refine ⟨_,rfl,wa,_,rfl,.inl (g9.of (k47.lst h4w)),_,rfl,a,_,rfl,.inl (g9.of (k07.lst ha)),fun l3 hl3=> ?_⟩;have s8:c9 H7 (c8 H7 l3 (.lst (p.map V.int))):=c9.upd_new hl3;have h8l:(c8 H7 l3 (.lst (p.map V.int))) l3=some (.lst (p.map V.int)):=c7;generalize (c8 H7 l3 (.lst (p.map V.int)))=H8 at s8 h8l ⊢;refine ⟨_,rfl,l3,p,m,rfl,⟨h8l,tp,lp⟩,m1,fun H9 s9=> ?_⟩;refine ⟨rfl,_,rfl,bo9 (by rw[dr6,rw_.1,ptn.length_eq,lts]) ?_⟩;have k49:Kn H4 H9:=k47.trans (Kn.of (s8.trans s9));have k29:Kn H2 H9:=(Kn.of s4).trans k49;have k09:Kn H H9:=k02.trans k29;have h9l:=k29.lst h2l;have h9a:=k09.lst ha;have h9p:=k09.lst hpa;have rowsU9:=k09.rows rowsU
   refine ⟨_,rfl,l,rfl,⟨_,g9.of h9l⟩,A7 (K:=K) (a:=l) (xs:=fs.map V.ref) (fun i σ Hx=>∃v5 v6 v7 v8 v9:Option V,σ=[some (.ref a),some (.int (m:Int)),some (.ref pa),some (.ref l),some (.ref wa),v5,v6,v7,v8,v9]/\c9 H9 Hx)
     ⟨_,_,_,_,_,rfl,c9.refl _⟩ (fun i σ Hx _ zz=>by obtain ⟨_,_,_,_,_,_,s⟩:=zz;exact g9.of (s _ _ h9l)) ?_ ?_⟩
   · rintro i x σ Hx hi ⟨v5,v6,v7,v8,v9,rfl,sx⟩;obtain ⟨k,f,cs,rfl,hk,hf,h2f,rcs⟩:=famAt hi;have hxf:=sx _ _ (k29.lst h2f)
     have rcx:=m9 (k29.rows rcs) fun c _ u e=>sx _ _ e
     obtain ⟨t0,ht0,et0⟩:=fam.any k (ds4 hk);have pos:0 < (ts.filter fun t=>decide (o8 t=k)).length:=ei3 (du4.mpr ⟨ht0,decide_eq_true et0⟩)
     obtain ⟨fr_,efr⟩:∃fr_,fr_=ts.filter fun t=>decide (o8 t=k):=⟨_,rfl⟩
     rw[<-efr] at pos rcx;have lc:=rcx.1;have c0:cs[0]? =some (cs[0]'(by omega)):=dr8 _;have f0:fr_[0]? =some (fr_[0]'pos):=dr8 _;generalize cs[0]'(by omega)=c0a at c0;generalize fr_[0]'pos=r0 at f0;have hr0:Hx c0a=some (.lst (r0.map V.int)):=rcx.2 0 _ _ c0 f0
     have hm0:r0∈ts/\o8 r0=k:=by
       have:=ds4 f0;rw[efr,du4,decide_eq_true_iff] at this;exact this
     obtain ⟨tr0,pw0⟩:=(ar.mem tp lp m1).mp hm0.1;have lr0:r0.length=p.length:=pw0.1.symm;refine ⟨_,rfl,f,_,_,_,rfl,rfl,g9.of hxf,G7 (j:=0) (by rw[ds0,c0];rfl),?_⟩;have hxp:=sx _ _ h9p
     have rux:=m9 rowsU9 fun c _ u e=>sx _ _ e
     have lds:=rux.1
     refine ⟨_,rfl,pa,rfl,⟨_,g9.of hxp⟩,ab2 (K:=K) (a:=pa) (xs:=ds.map V.ref) (fun j ys σ Hy=>∃(v0:Option V) (es:List Addr),σ=[v0,some (.ref c0a)]/\c9 Hx Hy/\ys=es.map V.ref/\es.length=((us.take j).filter fun s=>decide (j8 s r0=j8 r0 s)).length)
       ⟨none,[],rfl,c9.refl _,rfl,rfl⟩ (fun j ys σ Hy _ zz=>by obtain ⟨_,_,_,s,_⟩:=zz;exact g9.of (s _ _ hxp)) ?_ ?_⟩
     · rintro j y ys σ Hy hj ⟨v0,es,rfl,sy,rfl,les⟩;obtain ⟨sa,hsa,rfl⟩:=au2 hj;have jl:=(dr7.mp hsa).1;obtain ⟨s',es',hs'⟩:=ag4 rux hsa;obtain ⟨ts',ls',_⟩:=(ap.mem tp).mp (ds4 es');have hys:B9 Hy sa s':=⟨sy _ _ hs',ts',by omega⟩;have hy0:B9 Hy c0a r0:=⟨sy _ _ hr0,tr0,by omega⟩;refine ⟨_,rfl,_,rfl,sa,c0a,s',r0,rfl,hys,hy0,by omega,fun x1 Hz hx1 sz hz1=> ?_⟩;refine ⟨_,rfl,_,rfl,c0a,sa,r0,s',rfl,⟨sz _ _ hy0.1,hy0.2⟩,⟨sz _ _ hys.1,hys.2⟩,by omega,fun x2 Hw hx2 sw hw2=> ?_⟩;refine ⟨x1,x2,_,_,_,rfl,rfl,g9.of (sw _ _ hz1),g9.of hw2,ae8 _ _ _ _ _,_,rfl,?_⟩;have ek:=i9 es'
       have les2:es.length<=2000:=by
         rw[les];exact dt4 (dz9 _ _) (dt4 (List.length_take_le _ _) (by omega))
       have syw:=sy.trans (sz.trans sw)
       refine O7 (fun c2=> ?_) fun c2=> ?_
       · refine ⟨_,rfl,dw0 (show (es.map V.ref).length<=2000 by rw[dr6];exact les2) (by decide),_,es++[sa],rfl,syw,by rw[ds5];rfl,?_⟩;rw[ek,dz4,ea0 (p:=fun s=>decide (j8 s r0=j8 r0 s)) (show decide (j8 s' r0=j8 r0 s')=true from c2),eb1,ds6,ds6,les];rfl
       · refine ⟨_,es,rfl,syw,rfl,?_⟩;rw[ek,dz4,ea1 (p:=fun s=>decide (j8 s r0=j8 r0 s)) (show ¬decide (j8 s' r0=j8 r0 s')=true from c2),eb1,du0];exact les
     rintro ys σ Hy ⟨v0,es,rfl,sy,rfl,les⟩ ba hba;rw[dr6,lds,du1] at les;have sb:c9 Hy (c8 Hy ba (.lst (es.map V.ref))):=c9.upd_new hba;have hb:(c8 Hy ba (.lst (es.map V.ref))) ba=some (.lst (es.map V.ref)):=c7;generalize (c8 Hy ba (.lst (es.map V.ref)))=Hb at sb hb ⊢;have sxb:=sy.trans sb;have cnt:=dd9 tp lp m1 ar ap hm0.1;rw[hm0.2,<-efr] at cnt;refine ⟨_,rfl,f,_,rfl,.inl (g9.of (sxb _ _ hxf)),_,rfl,ba,_,rfl,.inl (g9.of hb),_,_,rfl,rfl,?_⟩
     have lesb:es.length<=2000:=by rw[les];exact dt4 (dz9 _ _) lus
     refine ⟨.inr ⟨by rw[dr6];omega,by rw[dr6];omega⟩,_,rfl,pa,_,rfl,.inl (g9.of (sxb _ _ hxp)),rfl,_,rfl,bo9 (congrArg V.int ?_) ?_⟩
     · show ((cs.map V.ref).length:Int)*((es.map V.ref).length:Int)=((ds.map V.ref).length:Int);rw[dr6,dr6,dr6,lds,lc,les,<-ea4,cnt]
     have hbp:=sxb _ _ hxp;refine ⟨_,rfl,_,rfl,pa,_,rfl,g9.of hbp,fun sl hsl=> ?_⟩
     have ecut:N9 (ds.map V.ref) none (some (40:Int))=(ds.take 40).map V.ref:=by
       unfold N9;rw[HT.do7,show (40:Int)=((40:Nat):Int) from rfl,HT.dq1,eh8,Nat.sub_zero,dr6,ee4]
       by_cases z:40<=ds.length
       · rw[ed0 z]
       · rw[Nat.min_eq_right (by omega),dy4 (by rw[dr6];omega),dy4 (by rw[dr6];omega)]
     rw[ecut];have ss:c9 Hb (c8 Hb sl (.lst ((ds.take 40).map V.ref))):=c9.upd_new hsl;have hs:(c8 Hb sl (.lst ((ds.take 40).map V.ref))) sl=some (.lst ((ds.take 40).map V.ref)):=c7;generalize (c8 Hb sl (.lst ((ds.take 40).map V.ref)))=Hs at ss hs ⊢;have sxs:=sxb.trans ss;have c1:cs[cs.length - 1]? =some (cs[cs.length - 1]'(by omega)):=dr8 _;have f1:fr_[fr_.length - 1]? =some (fr_[fr_.length - 1]'(by omega)):=dr8 _;generalize cs[cs.length - 1]'(by omega)=c1a at c1;generalize fr_[fr_.length - 1]'(by omega)=r1 at f1;have hr1:Hx c1a=some (.lst (r1.map V.int)):=rcx.2 (cs.length - 1) _ _ c1 (by rw[lc];exact f1)
     have hm1:r1∈ts/\o8 r1=k:=by
       have:=ds4 f1;rw[efr,du4,decide_eq_true_iff] at this;exact this
     obtain ⟨tr1,pw1⟩:=(ar.mem tp lp m1).mp hm1.1;have lr1:r1.length=p.length:=pw1.1.symm
     have atL:atI (cs.map V.ref) (-1)=some (.ref c1a):=by
       have key:ixN (cs.map V.ref).length (-1)=some (cs.length - 1):=by
         unfold ixN;rw[dr6,if_neg (by omega),if_pos (by omega)]
         congr 1
         omega
       unfold atI;rw[key];show (cs.map V.ref)[cs.length - 1]? =_;rw[ds0,c1];rfl
     refine ⟨sl,rfl,⟨_,g9.of hs⟩,A7 (K:=K) (a:=sl) (xs:=(ds.take 40).map V.ref) (fun j σ Hy=>∃v8 v9:Option V,σ=[some (.ref a),some (.int (m:Int)),some (.ref pa),some (.ref l),some (.ref wa),some (.ref f),some (.ref c0a),some (.ref ba),v8,v9]/\c9 Hs Hy)
       ⟨_,_,rfl,c9.refl _⟩ (fun j σ Hy _ zz=>by obtain ⟨_,_,_,s⟩:=zz;exact g9.of (s _ _ hs)) ?_ ?_⟩
     · rintro j y σ Hy hj ⟨v8',v9',rfl,sy'⟩;obtain ⟨sa,hsa,rfl⟩:=au2 hj;have jl:=(dr7.mp hsa).1;rw[dt3] at jl;rw[dx1 (by omega)] at hsa;obtain ⟨s',es',hs'⟩:=ag4 rux hsa;have psn:=(ap.mem tp).mp (ds4 es');obtain ⟨tsn,lsn,csn⟩:=psn;have sxy:=sxs.trans sy';have hyS:B9 Hy sa s':=⟨sxy _ _ hs',tsn,by omega⟩;refine ⟨_,rfl,_,rfl,_,rfl,f,_,_,_,rfl,rfl,g9.of (sxy _ _ hxf),atL,_,rfl,.inr ⟨sa,s',rfl,hyS,fun bk b Ha hbk sa' tb lb hbI hab=> ?_⟩⟩;have hyR:B9 Ha c1a r1:=⟨sa' _ _ (sxy _ _ hr1),tr1,by omega⟩;refine ⟨c1a,bk,r1,b,rfl,hyR,⟨hab,tb,by omega⟩,by omega,fun x1 Hc hx1 sc hc1=> ?_⟩;have t1:j7 (j8 r1 b):=am0 tr1 tb (by omega)
       have l1':(j8 r1 b).length=p.length:=by rw[A2];omega
       refine ⟨sa,x1,s',_,rfl,⟨sc _ _ (sa' _ _ hyS.1),tsn,by omega⟩,⟨hc1,t1,by omega⟩,by omega,fun x2 He hx2 se he2=> ?_⟩;obtain ⟨t2,w2,k2,c2⟩:=bm8 tp tr1 pw1 ⟨tsn,lsn,csn⟩ tb lb (dd8 hbI);have l2':(j8 s' (j8 r1 b)).length=p.length:=w2.1.symm;have sye:=sa'.trans (sc.trans se);refine ⟨_,rfl,_,rfl,x2,_,m,rfl,⟨he2,t2,by omega⟩,m6,fun x3 t3 Hf hx3 sf pw3 hf3=> ?_⟩;rw[pw3.uniq w2] at hf3;have sxf:=sxy.trans (sye.trans sf);refine ⟨_,rfl,x3,a,_,_,_,rfl,rfl,g9.of hf3,g9.of (sxf _ _ (sx _ _ h9a)),ae8 _ _ _ _ _,_,rfl,?_⟩;rw[decide_eq_true rfl];refine M4 ?_;refine ⟨_,rfl,_,rfl,f,x2,cs,fr_,_,rfl,rfl,g9.of (sxf _ _ hxf),m9 rcx fun c _ u e=>sxf _ _ e,sf _ _ he2,?_⟩
       have inn:j8 s' (j8 r1 b)∈fr_:=by
         rw[efr];exact du4.mpr ⟨(ar.mem tp lp m1).mpr ⟨t2,w2⟩,decide_eq_true (by rw[k2,hm1.2])⟩
       refine ⟨false,?_,M4 ⟨_,_,rfl,sy'.trans (sye.trans sf)⟩⟩;rw[if_pos rfl,decide_eq_true inn];rfl
     · rintro σ Hy ⟨v8',v9',rfl,sy'⟩;exact ⟨_,_,_,_,_,rfl,sx.trans (sxs.trans sy')⟩
   · rintro σ Hx ⟨v5,v6,v7,v8,v9,rfl,sx⟩;exact q Hx (k09.trans (Kn.of sx))
end
end My
namespace My
open PySem L2 Mth
section
variable {P:Program} {w:World} {K:PySem.W.Frag} {mg:Str->Option Value} {base:Heap} {zx zt zry zxy zxx ztz zvx zty ztx zsz zrx:Addr}
theorem ab9 {H H':Hp}{g:Addr}{c:Nat}(h:D4 H g c)(s:c9 H H'):D4 H' g c:=by
 obtain ⟨x,y,z,e1,e2⟩:=h;exact ⟨x,y,z,s _ _ e1,e2⟩
theorem bj0 {H:Hp}{g b:Addr}{c:Nat}(h:D4 H g c)(hb:H b=none):b≠g:=by
 obtain ⟨x,y,z,e1,e2⟩:=h
 exact fun e=>by rw[e,e1] at hb;cases hb
theorem cy0 {R:St->Hp->Prop}{σ:St}{H:Hp}{A:Prop}{b:Bool}(G:St->Hp->Prop)(rest:∀σ' H',G σ' H'->R σ' H')(hb:b=false->G σ H)(ha:b=true->(∀σ' H',G σ' H'->R σ' H')->A):if b=true then A else R σ H:=by
 cases b with
 |true=>exact ha rfl rest
 |false=>exact rest σ H (hb rfl)
theorem dj4 {R:St->Hp->Prop}{σ:St}{H:Hp}{A B:Prop}{b:Bool}(G:St->Hp->Prop)(rest:∀σ' H',G σ' H'->R σ' H')(hb:G σ H)(ha:b=true->(∀σ' H',G σ' H'->R σ' H')->A):if b=true then A else if false=true then B else R σ H:=by
 cases b with
 |true=>exact ha rfl rest
 |false=>exact rest σ H hb
def Kg (g:Addr)(H H':Hp):Prop:=∀x u,H x=some u->x≠g->(∀kvs,u≠.dK kvs)->H' x=some u
theorem Kg.of {g:Addr}{H H':Hp}(k:j5 g H H'):Kg g H H':=fun x u e n _=>k x u e n
theorem Kg.kn {g:Addr}{H H' H'':Hp}(k:Kg g H H')(n:Kn H' H''):Kg g H H'':=fun x u e ng nk=>n x u (k x u e ng nk) nk
theorem Kg.kb {g:Addr}{H H' H'':Hp}(k:Kg g H H')(n:j5 g H' H''):Kg g H H'':=fun x u e ng nk=>n x u (k x u e ng nk) ng
def bx6:Sp:=fun vs H Q _=>∃(g:Addr) (c:Nat),vs=[.ref g]/\D4 H g c/\c<=10000/\∀H',Kg g H H'->Q (.bl true) H'
theorem C9:m8 ["pool","p","m","q","many","every"] ["pool"] (j6 X7):=by rfl'
theorem av0:(["q"]:List Str).Nodup:=by decide+kernel
theorem bb6 {f:Addr}{fd:FuncData}(F:A9 K "_law_one_right" "_law_one_right" X7 f fd)(B:Bl mg)(zmy:l8 P w K mg base "_law_turn" 2 ["pool","many"] bt3)(zyy:l8 P w K mg base "_law_draw" 1 ["pool","many"] bd9)(zqx:l8 P w K mg base "_law_power" 2 ["p","m"] ch6)(zyz:l8 P w K mg base "how_many_past" 4 ["p"] bp3)(zzx:l8 P w K mg base "how_many_roots" 4 ["p","m"] as7)(zr:l8 P w K mg base "_law_families_right" 46 ["p","m","past"] bx5)(zix:l8 P w K mg base "all_past" 43 ["p"] bw0)(zh:l8 P w K mg base "power_of" 4 ["p","k"] bh5)(zgx:l8 P w K mg base "_law_all" 2 ["many"] cg2)(zhz:l8 P w K mg base "kinds_of" 14 ["n"] au8):p6 P w K mg base A8 47 f fd ["pool"] bx6:=by
 refine F.ok C9 (fun vs H Q E h=> ?_) (fun cdv A outer s H vs Q E hr h=> ?_)
 · obtain ⟨g,c,rfl,hg,hc,q⟩:=h;rfl
 · obtain ⟨g,c,rfl,hg,hc,q⟩:=h;have zi:m7 2 _:=hr.mono (by decide);have zwz:m7 1 _:=hr.mono (by decide);have zjy:m7 2 _:=hr.mono (by decide);have zuz:m7 4 _:=hr.mono (by decide);have zvz:m7 4 _:=hr.mono (by decide);have ziz:m7 46 _:=hr.mono (by decide);have zdz:m7 43 _:=hr.mono (by decide);have zdy:m7 4 _:=hr.mono (by decide);have hr_law_all:m7 2 _:=hr.mono (by decide);have zdx:m7 14 _:=hr.mono (by decide);have hu:=T2 hr;refine ⟨_,@e8 _ _ _ _ _ (@i8 _ _ (1) _ _ _ _ C9.nd rfl (Or.inl rfl) (@h8 _ _ _ _ _ _ _ _ _ _ zmy zi (@c5 _ _ _ _ _ (pv 0) (@c5 _ _ _ _ _ (@I0 _ _ _ _ _ _ _ B5 (@p5 _ _ _ _ (@c5 _ _ _ _ _ (@h8 _ _ _ _ _ _ _ _ _ _ zyy zwz (@c5 _ _ _ _ _ (pv 0) (@c5 _ _ _ _ _ (@i6 _ _ _ _) (@c6 _) (by rfl)) (by rfl)) (by rfl) (by decide) (by rfl) (by rfl)) (@c5 _ _ _ _ _ (@i6 _ _ _ _) (@c5 _ _ _ _ _ (@h8 _ _ _ _ _ _ _ _ _ _ zyy zwz (@c5 _ _ _ _ _ (pv 0) (@c5 _ _ _ _ _ (@i6 _ _ _ _) (@c6 _) (by rfl)) (by rfl)) (by rfl) (by decide) (by rfl) (by rfl)) (@c5 _ _ _ _ _ (@h8 _ _ _ _ _ _ _ _ _ _ zyy zwz (@c5 _ _ _ _ _ (pv 0) (@c5 _ _ _ _ _ (@i6 _ _ _ _) (@c6 _) (by rfl)) (by rfl)) (by rfl) (by decide) (by rfl) (by rfl)) (@c6 _) (by rfl)) (by rfl)) (by rfl)) (by rfl))) (@h8 _ _ _ _ _ _ _ _ _ _ zyy zwz (@c5 _ _ _ _ _ (pv 0) (@c5 _ _ _ _ _ (@i6 _ _ _ _) (@c6 _) (by rfl)) (by rfl)) (by rfl) (by decide) (by rfl) (by rfl)) (fun _ _=>rfl)) (@c6 _) (by rfl)) (by rfl)) (by rfl) (by decide) (by rfl) (by rfl)) (by rfl) (by trivial)) (@e8 _ _ _ _ _ (@i8 _ _ (2) _ _ _ _ C9.nd rfl (Or.inl rfl) (@n5 _ _ _ _ _ _ _ _ E9 (@i6 _ _ _ _) (@h8 _ _ _ _ _ _ _ _ _ _ zyy zwz (@c5 _ _ _ _ _ (pv 0) (@c5 _ _ _ _ _ (@i6 _ _ _ _) (@c6 _) (by rfl)) (by rfl)) (by rfl) (by decide) (by rfl) (by rfl))) (by rfl) (by trivial)) (@e8 _ _ _ _ _ (@C3 _ _ _ _ _ _ _ _ (@p8 _ _ _ _ _ _ _ _ U5 (@h8 _ _ _ _ _ _ _ _ _ _ zyy zwz (@c5 _ _ _ _ _ (pv 0) (@c5 _ _ _ _ _ (@i6 _ _ _ _) (@c6 _) (by rfl)) (by rfl)) (by rfl) (by decide) (by rfl) (by rfl)) (@i6 _ _ _ _) (w5 _)) (@g6 _ _ _ (@i8 _ _ (1) _ _ _ _ C9.nd rfl (Or.inl rfl) (@h8 _ _ _ _ _ _ _ _ _ _ zqx zjy (@c5 _ _ _ _ _ (pv 1) (@c5 _ _ _ _ _ (pv 2) (@c6 _) (by rfl)) (by rfl)) (by rfl) (by decide) (by rfl) (by rfl)) (by rfl) (by trivial))) (@y7 _)) (@e8 _ _ _ _ _ (@C3 _ _ _ _ _ _ _ _ (@p8 _ _ _ _ _ _ _ _ bo4 (@h8 _ _ _ _ _ _ _ _ _ _ zyz zuz (@c5 _ _ _ _ _ (@K5 _ _ _ _ _ B.list (@c5 _ _ _ _ _ (pv 1) (@c6 _) (by rfl)) (by rfl) (by rfl)) (@c6 _) (by rfl)) (by rfl) (by decide) (by rfl) (by rfl)) (@i6 _ _ _ _) (w5 _)) (@g6 _ _ _ (@i8 _ _ (1) _ _ _ _ C9.nd rfl (Or.inl rfl) (@h8 _ _ _ _ _ _ _ _ _ _ zmy zi (@c5 _ _ _ _ _ (pv 0) (@c5 _ _ _ _ _ (@h8 _ _ _ _ _ _ _ _ _ _ zyy zwz (@c5 _ _ _ _ _ (pv 0) (@c5 _ _ _ _ _ (@i6 _ _ _ _) (@c6 _) (by rfl)) (by rfl)) (by rfl) (by decide) (by rfl) (by rfl)) (@c6 _) (by rfl)) (by rfl)) (by rfl) (by decide) (by rfl) (by rfl)) (by rfl) (by trivial))) (@y7 _)) (@e8 _ _ _ _ _ (@C3 _ _ _ _ _ _ _ _ (@de6 _ _ _ _ _ _ _ (@p8 _ _ _ _ _ _ _ _ bo3 (@h8 _ _ _ _ _ _ _ _ _ _ zzx zvz (@c5 _ _ _ _ _ (@K5 _ _ _ _ _ B.list (@c5 _ _ _ _ _ (pv 1) (@c6 _) (by rfl)) (by rfl) (by rfl)) (@c5 _ _ _ _ _ (pv 2) (@c6 _) (by rfl)) (by rfl)) (by rfl) (by decide) (by rfl) (by rfl)) (@i6 _ _ _ _) (w5 _)) (@cy2 _ _ _ _ (@ae4 _ _ _ _ (@ae3 _ _ _ (@h8 _ _ _ _ _ _ _ _ _ _ zr ziz (@c5 _ _ _ _ _ (pv 1) (@c5 _ _ _ _ _ (pv 2) (@c5 _ _ _ _ _ (@h8 _ _ _ _ _ _ _ _ _ _ zix zdz (@c5 _ _ _ _ _ (@K5 _ _ _ _ _ B.list (@c5 _ _ _ _ _ (pv 1) (@c6 _) (by rfl)) (by rfl) (by rfl)) (@c6 _) (by rfl)) (by rfl) (by decide) (by rfl) (by rfl)) (@c6 _) (by rfl)) (by rfl)) (by rfl)) (by rfl) (by decide) (by rfl) (by rfl)) (by intro _;rfl))))).pt (@g6 _ _ _ (@l9 _ _ _ _ (@R1 _ _ _ _))) (@y7 _)) (@e8 _ _ _ _ _ (@i8 _ _ (3) _ _ _ _ C9.nd rfl (Or.inl rfl) (@h8 _ _ _ _ _ _ _ _ _ _ zmy zi (@c5 _ _ _ _ _ (pv 0) (@c5 _ _ _ _ _ (@h8 _ _ _ _ _ _ _ _ _ _ zyy zwz (@c5 _ _ _ _ _ (pv 0) (@c5 _ _ _ _ _ (@i6 _ _ _ _) (@c6 _) (by rfl)) (by rfl)) (by rfl) (by decide) (by rfl) (by rfl)) (@c6 _) (by rfl)) (by rfl)) (by rfl) (by decide) (by rfl) (by rfl)) (by rfl) (by trivial)) (@e8 _ _ _ _ _ (@C3 _ _ _ _ _ _ _ _ (@p8 _ _ _ _ _ _ _ _ (bc3 0 hu) (@h8 _ _ _ _ _ _ _ _ _ _ zh zdy (@c5 _ _ _ _ _ (pv 3) (@c5 _ _ _ _ _ (@h8 _ _ _ _ _ _ _ _ _ _ zyz zuz (@c5 _ _ _ _ _ (@K5 _ _ _ _ _ B.list (@c5 _ _ _ _ _ (pv 3) (@c6 _) (by rfl)) (by rfl) (by rfl)) (@c6 _) (by rfl)) (by rfl) (by decide) (by rfl) (by rfl)) (@c6 _) (by rfl)) (by rfl)) (by rfl) (by decide) (by rfl) (by rfl)) (@ad0 _ _ _ _ _ _ _ rfl B.list B.range (@c5 _ _ _ _ _ (@p9 _ _ _ _ _ B.len (@c5 _ _ _ _ _ (pv 3) (@c6 _) (by rfl)) (by rfl) (by rfl)) (@c6 _) (by rfl)) (by rfl) (by rfl) (by rfl) (by rfl)) (w5 _)) (@g6 _ _ _ (@l9 _ _ _ _ (@R1 _ _ _ _))) (@y7 _)) (@e8 _ _ _ _ _ (@i8 _ _ (4) _ _ _ _ C9.nd rfl (Or.inl rfl) (@h8 _ _ _ _ _ _ _ _ _ _ zyy zwz (@c5 _ _ _ _ _ (pv 0) (@c5 _ _ _ _ _ (@i6 _ _ _ _) (@c6 _) (by rfl)) (by rfl)) (by rfl) (by decide) (by rfl) (by rfl)) (by rfl) (by trivial)) (@e8 _ _ _ _ _ (@i8 _ _ (5) _ _ _ _ C9.nd rfl (Or.inl rfl) (@h8 _ _ _ _ _ _ _ _ _ _ zgx hr_law_all (@c5 _ _ _ _ _ (pv 4) (@c6 _) (by rfl)) (by rfl) (by decide) (by rfl) (by rfl)) (by rfl) (by trivial)) (@g6 _ _ _ (@l9 _ _ _ _ (@ca2 _ _ _ _ _ _ _ _ U5 (@cl1 _ _ _ _ _ rfl B.sum (@c5 _ _ _ _ _ (@aj4 _ _ _ _ _ _ _ _ _ _ _ (["q"]) (1) ([]) rfl .of (@w4 _ _ _ _ (pv 5)) (fun _ _ _ _ _=>@i7 _ _ (0) _ av0 rfl (Or.inl rfl) (by trivial)) (fun _ _ _ _ _=>(@al7 _)) (fun _ _ _ _ _=>(@h8 _ _ _ _ _ _ _ _ _ _ zyz zuz (@c5 _ _ _ _ _ (@cf0 _ _ _ _ _ K B.list (@c5 _ _ _ _ _ (pv 0) (@c6 _) (by rfl)) (by rfl) (by rfl) (by rfl)) (@c6 _) (by rfl)) (by rfl) (by decide) (by rfl) (by rfl))) (by intro _;rfl)) (@c6 _) (by rfl)) (by rfl) (by rfl)) (@n5 _ _ _ _ _ _ _ _ N7 (@p9 _ _ _ _ _ B.len (@c5 _ _ _ _ _ (pv 5) (@c6 _) (by rfl)) (by rfl) (by rfl)) (@p9 _ _ _ _ _ B.len (@c5 _ _ _ _ _ (@h8 _ _ _ _ _ _ _ _ _ _ zhz zdx (@c5 _ _ _ _ _ (pv 4) (@c6 _) (by rfl)) (by rfl) (by decide) (by rfl) (by rfl)) (@c6 _) (by rfl)) (by rfl) (by rfl))) (w5 _)))))))))))),?_⟩
   refine ⟨_,rfl,_,rfl,g,_,7,rfl,hg,by omega,by decide,by decide,fun r1 H1 a0 a1 P1 kb1=> ?_⟩;refine ⟨_,rfl,g,_,7,rfl,P1,by omega,by decide,by decide,fun r2 H2 b0 b1 P2 kb2=> ?_⟩;refine ⟨_,rfl,g,_,7,rfl,P2,by omega,by decide,by decide,fun r3 H3 c0 c1 P3 kb3=>⟨(show 4<=sizeLine by decide),fun ml n4=> ?_⟩⟩;have s4:c9 H3 (c8 H3 ml (.lst [V.int r1,V.int 7,V.int r2,V.int r3])):=c9.upd_new n4;have g4:(c8 H3 ml (.lst [V.int r1,V.int 7,V.int r2,V.int r3])) ml=some (.lst (([r1,7,r2,r3]:List Int).map V.int)):=c7;have ng4:ml≠g:=bj0 P3 n4;have P4:=ab9 P3 s4;generalize (c8 H3 ml (.lst [V.int r1,V.int 7,V.int r2,V.int r3]))=H4 at s4 g4 P4 ⊢;refine ⟨_,rfl,g,_,4,rfl,P4,by omega,by decide,by decide,fun r4 H5 d0 d1 P5 kb5=> ?_⟩;have k5:j5 g H H5:=(((kb1.trans kb2).trans kb3).trans (s4.but g)).trans kb5
   obtain ⟨n,en,hat⟩:∃n:Nat,n<=7/\atI (([r1,7,r2,r3]:List Int).map V.int) r4=some (.int (n:Int)):=by
     obtain ⟨m1,rfl⟩:=dy9 a0;obtain ⟨m2,rfl⟩:=dy9 b0;obtain ⟨m3,rfl⟩:=dy9 c0
     have:r4=0\/r4=1\/r4=2\/r4=3:=by omega
     rcases this with rfl|rfl|rfl|rfl
     · exact ⟨m1,by omega,G7 (j:=0) rfl⟩
     · exact ⟨7,by omega,G7 (j:=1) rfl⟩
     · exact ⟨m2,by omega,G7 (j:=2) rfl⟩
     · exact ⟨m3,by omega,G7 (j:=3) rfl⟩
   refine ⟨ml,_,_,_,rfl,rfl,g9.of (kb5 _ _ g4 ng4),hat,?_⟩;refine ⟨g,_,(n:Int),rfl,P5,by omega,by omega,by omega,fun pa p H6 npa tp lp h6p P6 kb6=> ?_⟩;have npg:=bj0 P5 npa;have k6:=k5.trans kb6;refine ⟨_,rfl,g,_,6,rfl,P6,by omega,by decide,by decide,fun r5 H7 e0 e1 P7 kb7=>⟨_,_,rfl,rfl,?_⟩⟩;obtain ⟨m,em⟩:∃m:Nat,1+r5=(m:Int):=dy9 (by omega)
   have m1:1<=m:=by omega
   have m6:m<=6:=by omega
   have k7:=k6.trans kb7;have h7p:=kb7 _ _ h6p npg;show bo1 2 (V.int (1+r5)) _ _ _;rw[em];refine ⟨_,rfl,g,_,2,rfl,P7,by omega,by decide,by decide,fun r6 H8 f0 f1 P8 kb8=>⟨rfl,_,rfl,?_⟩⟩;have k8:=k7.trans kb8;have h8p:=kb8 _ _ h7p npg
   refine cy0 (fun σ' H'=>∃(pb:Addr) (t:List Int),σ'=[some (.ref g),some (.ref pb),some (.int (m:Int)),none,none,none]/\B9 H' pb t/\t.length<=7/\c9 H8 H') ?_ (fun _=>⟨pa,p,rfl,⟨h8p,tp,by omega⟩,by omega,c9.refl _⟩) fun _ rest=> ?_
   rotate_left
   · refine ⟨_,rfl,_,rfl,pa,p,m,rfl,⟨h8p,tp,by omega⟩,m6,fun l t H9 hl s9 pw h9=> ?_⟩;exact rest _ _ ⟨l,t,rfl,⟨h9,bg5 tp pw,by have:=pw.1;omega⟩,by have:=pw.1;omega,s9⟩
   rintro σ' H9 ⟨pb,t,rfl,tat,lt,s9⟩;have P9:=ab9 P8 s9;have k9:=k8.trans (s9.but g);refine ⟨_,rfl,pb,_,rfl,.inl (g9.of tat.1),fun l1 hl1=> ?_⟩;have s10:c9 H9 (c8 H9 l1 (.lst (t.map V.int))):=c9.upd_new hl1;have h10l:(c8 H9 l1 (.lst (t.map V.int))) l1=some (.lst (t.map V.int)):=c7;generalize (c8 H9 l1 (.lst (t.map V.int)))=H10 at s10 h10l ⊢;refine ⟨l1,t,rfl,⟨h10l,tat.2⟩,fun H11 s11=> ?_⟩;have s911:=s10.trans s11;have P11:=ab9 P9 s911;have k11:=k9.trans (s911.but g);refine ⟨_,_,rfl,rfl,_,rfl,?_⟩
   refine cy0 (fun σ' H'=>∃(pc:Addr) (u:List Int),σ'=[some (.ref g),some (.ref pc),some (.int (m:Int)),none,none,none]/\B9 H' pc u/\E7 u<=720/\D4 H' g (c+500)/\j5 g H H') ?_ (fun z=>⟨pb,t,rfl,⟨s911 _ _ tat.1,tat.2⟩,?_,P11.mono (by omega),k11⟩) fun _ rest=> ?_
   rotate_left
   · have:=of_decide_eq_false z;have:¬(200:Int) < ((E7 t:Nat):Int):=this;omega
   · refine ⟨_,rfl,_,rfl,g,_,6,rfl,P11,by omega,by decide,by decide,fun r7 H12 g0 g1 P12 kb12=> ?_⟩;refine ⟨g,_,r7,rfl,P12,by omega,by omega,by omega,fun pc u H13 npc tu lu h13 P13 kb13=> ?_⟩;exact rest _ _ ⟨pc,u,rfl,⟨h13,tu,by omega⟩,cv7 tu (by omega),P13.mono (by omega),(k11.trans kb12).trans kb13⟩
   rintro σ' H12 ⟨pc,u,rfl,uat,fewP,P12,k12⟩;refine ⟨_,rfl,pc,_,rfl,.inl (g9.of uat.1),fun l2 hl2=> ?_⟩;have s13:c9 H12 (c8 H12 l2 (.lst (u.map V.int))):=c9.upd_new hl2;have h13l:(c8 H12 l2 (.lst (u.map V.int))) l2=some (.lst (u.map V.int)):=c7;generalize (c8 H12 l2 (.lst (u.map V.int)))=H13 at s13 h13l ⊢;refine ⟨_,rfl,l2,u,m,rfl,⟨h13l,uat.2⟩,m1,fun H14 s14=> ?_⟩;have s1214:=s13.trans s14;refine ⟨_,_,rfl,rfl,_,rfl,?_⟩
   refine dj4 (fun σ' H'=>σ'=[some (.ref g),some (.ref pc),some (.int (m:Int)),none,none,none]/\D4 H' g (c+500)/\Kg g H H') ?_ ⟨rfl,ab9 P12 s1214,(Kg.of k12).kn (Kn.of s1214)⟩ fun z rest=> ?_
   rotate_left
   · have fewR:((ac4 u m:Nat):Int)<=2000:=of_decide_eq_true z;refine ⟨_,rfl,_,rfl,_,rfl,pc,_,rfl,.inl (g9.of (s1214 _ _ uat.1)),fun l3 hl3=> ?_⟩;have s15:c9 H14 (c8 H14 l3 (.lst (u.map V.int))):=c9.upd_new hl3;have h15l:(c8 H14 l3 (.lst (u.map V.int))) l3=some (.lst (u.map V.int)):=c7;generalize (c8 H14 l3 (.lst (u.map V.int)))=H15 at s15 h15l ⊢;refine ⟨l3,u,rfl,⟨h15l,uat.2⟩,by omega,fun o bs ts H16 ho h16o rows ap nd fr no kp=> ?_⟩;have k1216:Kn H12 H16:=(Kn.of (s1214.trans s15)).trans (Kn.kp kp);refine ⟨pc,o,u,m,bs,ts,rfl,k1216.turn uat,m1,m6,by omega,h16o,rows,ap,by have:=ap.len;omega,fun H17 k17=>⟨true,rfl,M4 ?_⟩⟩;have k1217:=k1216.trans k17;exact rest _ _ ⟨rfl,k1217.pool P12,(Kg.of k12).kn k1217⟩
   rintro σ' H15 ⟨rfl,P15,k15⟩;refine ⟨_,rfl,_,rfl,g,_,41,rfl,P15,by omega,by decide,by decide,fun r8 H16 x0 x1 P16 kb16=> ?_⟩;refine ⟨g,_,r8,rfl,P16,by omega,by omega,by omega,fun qa qq H17 nqa tq lq h17 P17 kb17=> ?_⟩;have nqg:=bj0 P16 nqa;have k17:=(k15.kb kb16).kb kb17
   have lq40:qq.length<=40:=by omega
   refine ⟨_,rfl,_,rfl,qa,_,rfl,.inl (g9.of h17),fun l4 hl4=> ?_⟩;have s18:c9 H17 (c8 H17 l4 (.lst (qq.map V.int))):=c9.upd_new hl4;have h18l:(c8 H17 l4 (.lst (qq.map V.int))) l4=some (.lst (qq.map V.int)):=c7;generalize (c8 H17 l4 (.lst (qq.map V.int)))=H18 at s18 h18l ⊢;refine ⟨l4,qq,rfl,⟨h18l,tq,lq40⟩,fun H19 s19=> ?_⟩;have s1719:=s18.trans s19;refine ⟨qa,qq,_,rfl,⟨s1719 _ _ h17,tq,lq40⟩,fun l5 t5 H20 hl5 s20 pw h20=> ?_⟩;have et:=cp4 tq (show y6 qq ((E7 qq:Nat):Int) t5 from pw);subst et;have s1720:=s1719.trans s20;refine ⟨_,rfl,qa,_,rfl,.inl (g9.of (s1720 _ _ h17)),_,rfl,fun rr hrr=> ?_⟩;rw[dr6];have s21:c9 H20 (c8 H20 rr (.rng 0 (qq.length:Int))):=c9.upd_new hrr;have h21r:(c8 H20 rr (.rng 0 (qq.length:Int))) rr=some (.rng 0 (qq.length:Int)):=c7;generalize (c8 H20 rr (.rng 0 (qq.length:Int)))=H21 at s21 h21r ⊢;refine ⟨rr,0,(qq.length:Int),rfl,h21r,⟨by decide,by decide,by omega,by omega⟩,by omega,fun l6 hl6=> ?_⟩;rw[show ((qq.length:Int) - 0).toNat=qq.length by omega];have s22:c9 H21 (c8 H21 l6 (.lst ((K4 0 qq.length).map V.int))):=c9.upd_new hl6;have h22l:(c8 H21 l6 (.lst ((K4 0 qq.length).map V.int))) l6=some (.lst ((K4 0 qq.length).map V.int)):=c7;generalize (c8 H21 l6 (.lst ((K4 0 qq.length).map V.int)))=H22 at s22 h22l ⊢;refine ⟨l5,l6,_,_,_,rfl,rfl,g9.of (s22 _ _ (s21 _ _ h20)),g9.of h22l,ae8 _ _ _ _ _,_,rfl,?_⟩;rw[decide_eq_true rfl];refine M4 ?_;have s1722:=s1720.trans (s21.trans s22);have P22:=ab9 P17 s1722;have k22:=k17.kn (Kn.of s1722);refine ⟨_,rfl,g,_,6,rfl,P22,by omega,by decide,by decide,fun r9 H23 y0 y1 P23 kb23=> ?_⟩;have k23:=k22.kb kb23;obtain ⟨n2,rfl⟩:=dy9 y0;refine ⟨_,rfl,n2,rfl,by omega,fun al as us H24 nal s24 h24 rowsA pm st=> ?_⟩;have k24:=k23.kn (Kn.of s24)
   have las:as.length<=720:=by rw[rowsA.1,pm.length_eq];exact bl2 (by omega)
   refine ⟨_,rfl,al,rfl,⟨_,g9.of h24⟩,ab2 (K:=K) (a:=al) (xs:=as.map V.ref) (fun i ys σ Hx=>∃v0:Option V,σ=[v0]/\ys=((us.take i).map fun p=>((E7 p:Nat):Int)).map V.int/\c9 H24 Hx) ⟨none,rfl,rfl,c9.refl _⟩ (fun i ys σ Hx _ zz=>by obtain ⟨_,_,_,s⟩:=zz;exact g9.of (s _ _ h24)) ?_ ?_⟩
   · rintro i x ys σ Hx hi ⟨v0,rfl,rfl,sx⟩;obtain ⟨ra,hra,rfl⟩:=au2 hi;obtain ⟨r,er,hr24⟩:=ag4 rowsA hra;have il:=(dr7.mp hra).1;obtain ⟨tr,lr⟩:=(S6 n2 r).mp (pm.mem_iff.mp (ds4 er));have hxr:=sx _ _ hr24;refine ⟨_,rfl,ra,_,rfl,.inl (g9.of hxr),fun l7 hl7=> ?_⟩;refine ⟨l7,r,rfl,⟨c7,tr,by omega⟩,fun Hz sz=> ?_⟩;refine ⟨t6 (by rw[dr6,dr6,dt3];omega),_,rfl,?_,sx.trans ((c9.upd_new hl7).trans sz)⟩;rw[i9 er,ds5,ds5];rfl
   rintro ys σ Hx ⟨v0,rfl,rfl,sx⟩ D hD;rw[dr6,rowsA.1,du1];have s25:c9 Hx (c8 Hx D (.lst ((us.map fun p=>((E7 p:Nat):Int)).map V.int))):=c9.upd_new hD;have h25:(c8 Hx D (.lst ((us.map fun p=>((E7 p:Nat):Int)).map V.int))) D=some (.lst ((us.map fun p=>((E7 p:Nat):Int)).map V.int)):=c7;generalize (c8 Hx D (.lst ((us.map fun p=>((E7 p:Nat):Int)).map V.int)))=H25 at s25 h25 ⊢;have s2425:=sx.trans s25;refine ⟨D,_,rfl,g9.of h25,_,rfl,al,_,rfl,.inl (g9.of (s2425 _ _ h24)),_,rfl,n2,rfl,by omega,fun kl ka H26 hkl s26 h26 rowsK fk ndk nlk=> ?_⟩;refine ⟨kl,_,rfl,.inl (g9.of h26),_,_,rfl,rfl,.inl ⟨by rw[dr6];omega,by rw[dr6];omega⟩,rfl,?_⟩;have e:decide (V.int (us.map fun p=>((E7 p:Nat):Int)).sum=(fun (i j:Int)=>V.int (i*j)) ((as.map V.ref).length:Int) ((ka.map V.ref).length:Int))=true:=decide_eq_true (congrArg V.int (by rw[cw2 (show n2<=5 by omega) pm,dr6,dr6,rowsA.1,rowsK.1]));rw[e];exact q H26 (k24.kn (Kn.of (s2425.trans s26)))
def bp7 (K:PySem.W.Frag):Sp:=fun vs H Q _=>∃(a:Addr) (ns:List Int),vs=[.ref a]/\g9 K H a (ns.map V.int)/\ns.length<=63/\∀H',Q (.bl true) H'
theorem cp7:m8 ["script","k"] ["script"] (j6 aw1):=by rfl'
theorem dj5 {f:Addr}{fd:FuncData}(F:A9 K "law" "law" aw1 f fd)(B:Bl mg)(zmx:l8 P w K mg base "_law_one_right" 47 ["pool"] bx6)(zhy:l8 P w K mg base "_law_pool" 1 ["script","k"] (bt1 K)):p6 P w K mg base A8 48 f fd ["script"] (bp7 K):=by
 refine F.ok cp7 (fun vs H Q E h=> ?_) (fun cdv A outer s H vs Q E hr h=> ?_)
 · obtain ⟨a,ns,rfl,ha,hl,k⟩:=h;rfl
 · obtain ⟨a,ns,rfl,ha,hl,k⟩:=h;have zfx:m7 47 _:=hr.mono (by decide);have zc:m7 1 _:=hr.mono (by decide);refine ⟨_,@e8 _ _ _ _ _ (@n9 _ _ _ _ _ _ _ _ PassesOwn.never rfl (@V8 _ _ _ _ _ _ (by rfl) B.range (@c5 _ _ _ _ _ (@cz6 _ _ _ _ _ _ rfl B.max (@c5 _ _ _ _ _ (@i6 _ _ _ _) (@c5 _ _ _ _ _ (@bg4 _ _ _ _ _ _ rfl B.min (@c5 _ _ _ _ _ (@i6 _ _ _ _) (@c5 _ _ _ _ _ (@p9 _ _ _ _ _ B.len (@c5 _ _ _ _ _ (pv 0) (@c6 _) (by rfl)) (by rfl) (by rfl)) (@c6 _) (by rfl)) (by rfl)) (by rfl) (by rfl) (by rfl)) (@c6 _) (by rfl)) (by rfl)) (by rfl) (by rfl) (by rfl)) (@c6 _) (by rfl)) (by rfl)) (@i7 _ _ (1) _ cp7.nd rfl (Or.inl rfl) (by trivial)) (@g6 _ _ _ (@C3 _ _ _ _ _ _ _ _ (@ae4 _ _ _ _ (@ae3 _ _ _ (@h8 _ _ _ _ _ _ _ _ _ _ zmx zfx (@c5 _ _ _ _ _ (@h8 _ _ _ _ _ _ _ _ _ _ zhy zc (@c5 _ _ _ _ _ (pv 0) (@c5 _ _ _ _ _ (pv 1) (@c6 _) (by rfl)) (by rfl)) (by rfl) (by decide) (by rfl) (by rfl)) (@c6 _) (by rfl)) (by rfl) (by decide) (by rfl) (by rfl)) (by intro _;rfl))) (@g6 _ _ _ (@l9 _ _ _ _ (@R1 _ _ _ _))) (@y7 _))) (by intro _;rfl)) (@g6 _ _ _ (@l9 _ _ _ _ (@R1 _ _ _ _))),?_⟩;refine ⟨_,rfl,a,_,rfl,.inl ha,3,_,rfl,1,_,rfl,_,rfl,?_⟩;obtain ⟨mx,hmx,hm1,hm2⟩:=da6 (n:=3) (c:=((ns.map V.int).length:Int)) (by decide) (by omega);rw[hmx]
   refine ⟨by omega,by omega,K3 (lo:=0) (n:=mx.toNat) (fun i σ H2=>∃v1:Option V,σ=[some (.ref a),v1]/\g9 K H2 a (ns.map V.int))
     ⟨none,rfl,ha⟩ ?_ (fun σ H2 _=>k H2)⟩
   rintro i σ H2 hi ⟨v1,rfl,ha2⟩;refine ⟨_,rfl,_,rfl,a,ns,_,rfl,ha2,by omega,by omega,fun g H3 hg s23 P3=> ?_⟩;refine ⟨g,_,rfl,P3,by decide,fun H4 k4=>⟨true,rfl,M4 ⟨_,rfl,?_⟩⟩⟩
   have kn:Kn H2 H4:=fun x u e nk=>k4 x u (s23 _ _ e) (g8 e hg) nk
   exact kn.seq ha2
end
end My
namespace My
open PySem L2 Mth
theorem bn1 {P:List Value->Prop}(h:∀x0,P [x0]):∀us:List Value,us.length=1->P us
 |[_],_=>h _
theorem bn2 {P:List Value->Prop}(h:∀x0 x1,P [x0,x1]):∀us:List Value,us.length=2->P us
 |[_,_],_=>h _ _
theorem bn3 {P:List Value->Prop}(h:∀x0 x1 x2,P [x0,x1,x2]):∀us:List Value,us.length=3->P us
 |[_,_,_],_=>h _ _ _
theorem dr4 {l:PySem.W.OpenLaw}{w:World}{K:PySem.W.Frag}{h:Heap}{mg:Str->Option Value}{fa f0 f1 f2 f3 f4 f5 f6 f7 f8 f9 f10 f11 f12 f13 f14 f15 f16 f17 f18 f19 f20 f21 f22 f23 f24 f25 f26 f27 f28 f29 f30 f31 f32 f33 f34 f35 f36 f37 f38 f39 f40 f41:Addr}{tk0 tk1 tk2:Tok}(X:K.In h)(G:h.Ns mainGlobals mg)(hfa:mg "law"=some (.ref fa))
   (u0:Fu K "is_whole" an0 f0)
   (u1:Fu K "must_be_from_one" S3 f1)
   (u2:Fu K "must_be_few" ac2 f2)
   (u3:Fu K "greatest_part" X1 f3)
   (u4:Fu K "walk_ring" ah7 f4)
   (u5:Fu K "walk_rings" af4 f5)
   (u6:Fu K "send_along" S4 f6)
   (u7:Fu K "send_over" ah8 f7)
   (u8:Fu K "sort_by_length" V3 f8)
   (u9:Fu K "picks_of" an1 f9)
   (u10:Fu K "lay_every_way" X2 f10)
   (u11:Fu K "is_turn" ar8 f11)
   (u12:Fu K "must_be_turn" Z8 f12)
   (u13:Fu K "power_of" an2 f13)
   (u14:Fu K "rounds_of" ah9 f14)
   (u15:Fu K "kind_of" ar9 f15)
   (u16:Fu K "join_rings" af5 f16)
   (u17:Fu K "right_numbers" X3 f17)
   (u18:Fu K "ways_to_follow" V4 f18)
   (u19:Fu K "count_joins" ac3 f19)
   (u20:Fu K "how_many_roots" V5 f20)
   (u21:Fu K "chains_of" ai0 f21)
   (u22:Fu K "ways_to_join" T6 f22)
   (u23:Fu K "all_roots" ai1 f23)
   (u24:Fu K "how_many_past" X4 f24)
   (u25:Fu K "ways_over" aa4 f25)
   (u26:Fu K "all_past" an3 f26)
   (u27:Fu K "root_families" X5 f27)
   (u28:Fu K "must_be_counted" U0 f28)
   (u29:Fu K "kinds_below" U7 f29)
   (u30:Fu K "kinds_of" an4 f30)
   (u31:Fu K "_law_pool" an5 f31)
   (u32:Fu K "_law_draw" an6 f32)
   (u33:Fu K "_law_turn" an7 f33)
   (u34:Fu K "_law_behind" af6 f34)
   (u35:Fu K "_law_back" X6 f35)
   (u36:Fu K "_law_put" as1 f36)
   (u37:Fu K "_law_all" as0 f37)
   (u38:Fu K "_law_power" ai2 f38)
   (u39:Fu K "_law_families_right" P0 f39)
   (u40:Fu K "_law_one_right" X7 f40)
   (u41:Fu K "law" aw1 f41)
   (m0:PySem.W.nsIn K mainGlobals "MOST_COUNTED"=some (some (.int 12 tk0)))
   (m1:PySem.W.nsIn K mainGlobals "MOST_THINGS"=some (some (.int 40 tk1)))
   (m2:PySem.W.nsIn K mainGlobals "MOST_TOLD"=some (some (.int 2000 tk2)))
   (zz:Fre K ["len","isinstance","int","bool","list","range","sum","min","max","enumerate","zip","sorted","tuple","str","repr","all","any","set","dict","ValueError"])
   :∃fd:FuncData,(∀(s:Shared) (v:Value),BindsTo s fd ⟨[v],[]⟩ [("script",v)])/\∀base:Heap,K.In base->base.Ns mainGlobals mg->p6 l.prog w K mg base A8 48 fa fd ["script"] (bp7 K):=by
 obtain ⟨d0,a0,F0⟩:=u0;obtain ⟨d1,a1,F1⟩:=u1;obtain ⟨d2,a2,F2⟩:=u2;obtain ⟨d3,a3,F3⟩:=u3;obtain ⟨d4,a4,F4⟩:=u4;obtain ⟨d5,a5,F5⟩:=u5;obtain ⟨d6,a6,F6⟩:=u6;obtain ⟨d7,a7,F7⟩:=u7;obtain ⟨d8,a8,F8⟩:=u8;obtain ⟨d9,a9,F9⟩:=u9;obtain ⟨d10,a10,F10⟩:=u10;obtain ⟨d11,a11,F11⟩:=u11;obtain ⟨d12,a12,F12⟩:=u12;obtain ⟨d13,a13,F13⟩:=u13;obtain ⟨d14,a14,F14⟩:=u14;obtain ⟨d15,a15,F15⟩:=u15;obtain ⟨d16,a16,F16⟩:=u16;obtain ⟨d17,a17,F17⟩:=u17;obtain ⟨d18,a18,F18⟩:=u18;obtain ⟨d19,a19,F19⟩:=u19;obtain ⟨d20,a20,F20⟩:=u20;obtain ⟨d21,a21,F21⟩:=u21;obtain ⟨d22,a22,F22⟩:=u22;obtain ⟨d23,a23,F23⟩:=u23;obtain ⟨d24,a24,F24⟩:=u24;obtain ⟨d25,a25,F25⟩:=u25;obtain ⟨d26,a26,F26⟩:=u26;obtain ⟨d27,a27,F27⟩:=u27;obtain ⟨d28,a28,F28⟩:=u28;obtain ⟨d29,a29,F29⟩:=u29;obtain ⟨d30,a30,F30⟩:=u30;obtain ⟨d31,a31,F31⟩:=u31;obtain ⟨d32,a32,F32⟩:=u32;obtain ⟨d33,a33,F33⟩:=u33;obtain ⟨d34,a34,F34⟩:=u34;obtain ⟨d35,a35,F35⟩:=u35;obtain ⟨d36,a36,F36⟩:=u36;obtain ⟨d37,a37,F37⟩:=u37;obtain ⟨d38,a38,F38⟩:=u38;obtain ⟨d39,a39,F39⟩:=u39;obtain ⟨d40,a40,F40⟩:=u40;obtain ⟨d41,a41,F41⟩:=u41;have e:=hfa.symm.trans (PySem.W.mg_of X G a41);cases e;obtain ⟨z0,z1,z2,z3,z4,z5,z6,z7,z8,z9,z10,z11,z12,z13,z14,z15,z16,z17,z18,z19,_⟩:=zz;have zn {y:Str} (z:PySem.W.nsIn K mainGlobals y=some none):=PySem.W.mg_none_of X G z;have B:Bl mg:=⟨zn z0,zn z1,zn z2,zn z3,zn z4,zn z5,zn z6,zn z7,zn z8,zn z9,zn z10,zn z11,zn z12,zn z13,zn z14,zn z15,zn z16,zn z17,zn z18,zn z19⟩;have zly:∃t,mg "MOST_COUNTED"=some (.int 12 t):=⟨_,PySem.W.mg_of X G m0⟩;have mt:∃t,mg "MOST_THINGS"=some (.int 40 t):=⟨_,PySem.W.mg_of X G m1⟩;have zjx:∃t,mg "MOST_TOLD"=some (.int 2000 t):=⟨_,PySem.W.mg_of X G m2⟩
 have b0:=F0.binds (ps:=["thing"]) fun _ _ _ _ _ _=>bn1 fun _=>rfl
 have b1:=F1.binds (ps:=["number"]) fun _ _ _ _ _ _=>bn1 fun _=>rfl
 have b2:=F2.binds (ps:=["many"]) fun _ _ _ _ _ _=>bn1 fun _=>rfl
 have b3:=F3.binds (ps:=["a","b"]) fun _ _ _ _ _ _=>bn2 fun _ _=>rfl
 have b4:=F4.binds (ps:=["p","first"]) fun _ _ _ _ _ _=>bn2 fun _ _=>rfl
 have b5:=F5.binds (ps:=["p"]) fun _ _ _ _ _ _=>bn1 fun _=>rfl
 have b6:=F6.binds (ps:=["target","ring","steps"]) fun _ _ _ _ _ _=>bn3 fun _ _ _=>rfl
 have b7:=F7.binds (ps:=["target","ring","image"]) fun _ _ _ _ _ _=>bn3 fun _ _ _=>rfl
 have b8:=F8.binds (ps:=["rings"]) fun _ _ _ _ _ _=>bn1 fun _=>rfl
 have b9:=F9.binds (ps:=["rings"]) fun _ _ _ _ _ _=>bn1 fun _=>rfl
 have b10:=F10.binds (ps:=["p","choices"]) fun _ _ _ _ _ _=>bn2 fun _ _=>rfl
 have b11:=F11.binds (ps:=["thing"]) fun _ _ _ _ _ _=>bn1 fun _=>rfl
 have b12:=F12.binds (ps:=["thing"]) fun _ _ _ _ _ _=>bn1 fun _=>rfl
 have b13:=F13.binds (ps:=["p","k"]) fun _ _ _ _ _ _=>bn2 fun _ _=>rfl
 have b14:=F14.binds (ps:=["p"]) fun _ _ _ _ _ _=>bn1 fun _=>rfl
 have b15:=F15.binds (ps:=["p"]) fun _ _ _ _ _ _=>bn1 fun _=>rfl
 have b16:=F16.binds (ps:=["rings","m"]) fun _ _ _ _ _ _=>bn2 fun _ _=>rfl
 have b17:=F17.binds (ps:=["length","m","most"]) fun _ _ _ _ _ _=>bn3 fun _ _ _=>rfl
 have b18:=F18.binds (ps:=["left","part","length"]) fun _ _ _ _ _ _=>bn3 fun _ _ _=>rfl
 have b19:=F19.binds (ps:=["length","many","m"]) fun _ _ _ _ _ _=>bn3 fun _ _ _=>rfl
 have b20:=F20.binds (ps:=["p","m"]) fun _ _ _ _ _ _=>bn2 fun _ _=>rfl
 have b21:=F21.binds (ps:=["rings","part"]) fun _ _ _ _ _ _=>bn2 fun _ _=>rfl
 have b22:=F22.binds (ps:=["rings","right","m"]) fun _ _ _ _ _ _=>bn3 fun _ _ _=>rfl
 have b23:=F23.binds (ps:=["p","m"]) fun _ _ _ _ _ _=>bn2 fun _ _=>rfl
 have b24:=F24.binds (ps:=["p"]) fun _ _ _ _ _ _=>bn1 fun _=>rfl
 have b25:=F25.binds (ps:=["rings","images"]) fun _ _ _ _ _ _=>bn2 fun _ _=>rfl
 have b26:=F26.binds (ps:=["p"]) fun _ _ _ _ _ _=>bn1 fun _=>rfl
 have b27:=F27.binds (ps:=["p","m"]) fun _ _ _ _ _ _=>bn2 fun _ _=>rfl
 have b28:=F28.binds (ps:=["n"]) fun _ _ _ _ _ _=>bn1 fun _=>rfl
 have b29:=F29.binds (ps:=["n","most"]) fun _ _ _ _ _ _=>bn2 fun _ _=>rfl
 have b30:=F30.binds (ps:=["n"]) fun _ _ _ _ _ _=>bn1 fun _=>rfl
 have b31:=F31.binds (ps:=["script","k"]) fun _ _ _ _ _ _=>bn2 fun _ _=>rfl
 have b32:=F32.binds (ps:=["pool","many"]) fun _ _ _ _ _ _=>bn2 fun _ _=>rfl
 have b33:=F33.binds (ps:=["pool","many"]) fun _ _ _ _ _ _=>bn2 fun _ _=>rfl
 have b34:=F34.binds (ps:=["p","q"]) fun _ _ _ _ _ _=>bn2 fun _ _=>rfl
 have b35:=F35.binds (ps:=["p"]) fun _ _ _ _ _ _=>bn1 fun _=>rfl
 have b36:=F36.binds (ps:=["rows","thing"]) fun _ _ _ _ _ _=>bn2 fun _ _=>rfl
 have b37:=F37.binds (ps:=["many"]) fun _ _ _ _ _ _=>bn1 fun _=>rfl
 have b38:=F38.binds (ps:=["p","m"]) fun _ _ _ _ _ _=>bn2 fun _ _=>rfl
 have b39:=F39.binds (ps:=["p","m","past"]) fun _ _ _ _ _ _=>bn3 fun _ _ _=>rfl
 have b40:=F40.binds (ps:=["pool"]) fun _ _ _ _ _ _=>bn1 fun _=>rfl
 obtain ⟨oc,od,kV,dc,pm,an,cd,ct,sl,rfl,lk,hcd⟩:=id F41.ex;refine ⟨PySem.W.fnOf "law" "law" (ad4 aw1) (Y9 aw1) (j6 aw1) .none kV dc pm an cd ct,fun s v=> .of_eq rfl,fun base _ _=> ?_⟩;have zm:l8 l.prog w K mg base "is_whole" 1 ["thing"] (ak1 K):=p0 X G a0 F0 b0 (ct7 F0 B);have zpz:l8 l.prog w K mg base "must_be_from_one" 2 ["number"] cf8:=p0 X G a1 F1 b1 (di5 F1 zm);have zuy:l8 l.prog w K mg base "must_be_few" 1 ["many"] be8:=p0 X G a2 F2 b2 (bi4 F2 zjx);have zny:l8 l.prog w K mg base "greatest_part" 1 ["a","b"] cf7:=p0 X G a3 F3 b3 (di2 F3);have zcz:l8 l.prog w K mg base "walk_ring" 1 ["p","first"] bt4:=p0 X G a4 F4 b4 (dc1 F4);have zzy:l8 l.prog w K mg base "walk_rings" 2 ["p"] O1:=p0 X G a5 F5 b5 (ct8 F5 B zcz);have zu:l8 l.prog w K mg base "send_along" 1 ["target","ring","steps"] (az3 as3 aw3):=p0 X G a6 F6 b6 (cx4 (dc2 F6 B) (bn8 F6 B));have zqz:l8 l.prog w K mg base "send_over" 1 ["target","ring","image"] aw9:=p0 X G a7 F7 b7 (bv8 F7 B);have zzz:l8 l.prog w K mg base "sort_by_length" 1 ["rings"] ad7:=p0 X G a8 F8 b8 (cu3 F8 B);have zvy:l8 l.prog w K mg base "picks_of" 1 ["rings"] ak3:=p0 X G a9 F9 b9 (by9 F9 B);have zwx:l8 l.prog w K mg base "lay_every_way" 1 ["p","choices"] bp5:=p0 X G a10 F10 b10 (ba6 F10 B);have c_is_turn:l8 l.prog w K mg base "is_turn" 2 ["thing"] az6:=p0 X G a11 F11 b11 (cn6 F11 B mt zm);have zyx:l8 l.prog w K mg base "must_be_turn" 3 ["thing"] ak2:=p0 X G a12 F12 b12 (db7 F12 c_is_turn);have zh:l8 l.prog w K mg base "power_of" 4 ["p","k"] bh5:=p0 X G a13 F13 b13 (ct9 F13 B zyx zzy (dl7 zu));have zcy:l8 l.prog w K mg base "rounds_of" 4 ["p"] O1:=p0 X G a14 F14 b14 (by8 F14 zyx zzy);have zgz:l8 l.prog w K mg base "kind_of" 5 ["p"] bt6:=p0 X G a15 F15 b15 (dc4 F15 B B.sorted zcy);have zsy:l8 l.prog w K mg base "join_rings" 1 ["rings","m"] be1:=p0 X G a16 F16 b16 (dc5 F16 B);have zwy:l8 l.prog w K mg base "right_numbers" 2 ["length","m","most"] ao0:=p0 X G a17 F17 b17 (ba0 F17 B zny);have zoz:l8 l.prog w K mg base "ways_to_follow" 1 ["left","part","length"] ba1:=p0 X G a18 F18 b18 (ax2 F18 B);have zlx:l8 l.prog w K mg base "count_joins" 3 ["length","many","m"] bh9:=p0 X G a19 F19 b19 (bi0 F19 B zwy zoz);have zzx:l8 l.prog w K mg base "how_many_roots" 4 ["p","m"] as7:=p0 X G a20 F20 b20 (ax3 F20 B zyx zpz zzz zzy zlx);have zq:l8 l.prog w K mg base "chains_of" 2 ["rings","part"] ao3:=p0 X G a21 F21 b21 (bu7 F21 B zvy)
 have w_ways_to_join:∀d:Nat,l8 l.prog w K mg base "ways_to_join" (d+3) ["rings","right","m"] (ak4 d):=fun d=>by
   induction d with
   |zero=>exact p0 X G a22 F22 b22 (be6 F22 B zq zsy zu)
   |succ d ih=>exact p0 X G a22 F22 b22 (ba5 F22 B zq zsy ih zu)
 have zsx:l8 l.prog w K mg base "ways_to_join" 43 ["rings","right","m"] (ak4 40):=w_ways_to_join 40;have zqy:l8 l.prog w K mg base "all_roots" 44 ["p","m"] be9:=p0 X G a23 F23 b23 (bv3 F23 B zzx zuy zzz zzy zsx zwy zwx);have zyz:l8 l.prog w K mg base "how_many_past" 4 ["p"] bp3:=p0 X G a24 F24 b24 (az8 F24 B zyx zzz zzy)
 have w_ways_over:∀d:Nat,l8 l.prog w K mg base "ways_over" (d+2) ["rings","images"] (ad8 d):=fun d=>by
   induction d with
   |zero=>exact p0 X G a25 F25 b25 (bv9 F25 B zvy zqz)
   |succ d ih=>exact p0 X G a25 F25 b25 (bn9 F25 B zvy ih zqz)
 have zo:l8 l.prog w K mg base "ways_over" 42 ["rings","images"] (ad8 40):=w_ways_over 40;have zix:l8 l.prog w K mg base "all_past" 43 ["p"] bw0:=p0 X G a26 F26 b26 (bz1 F26 zuy zyz zzz zzy zwx zo);have zmz:l8 l.prog w K mg base "root_families" 45 ["p","m"] bx1:=p0 X G a27 F27 b27 (bb5 F27 B zqy zgz);have zpy:l8 l.prog w K mg base "must_be_counted" 2 ["n"] au5:=p0 X G a28 F28 b28 (au7 F28 zly zm)
 have w_kinds_below:∀d:Nat,l8 l.prog w K mg base "kinds_below" (d+1) ["n","most"] (ae0 d):=fun d=>by
   induction d with
   |zero=>exact p0 X G a29 F29 b29 (bi8 F29 B)
   |succ d ih=>exact p0 X G a29 F29 b29 (bf8 F29 B ih)
 have zrz:l8 l.prog w K mg base "kinds_below" 13 ["n","most"] (ae0 12):=w_kinds_below 12;have zhz:l8 l.prog w K mg base "kinds_of" 14 ["n"] au8:=p0 X G a30 F30 b30 (bz5 F30 zpy zrz);have zhy:l8 l.prog w K mg base "_law_pool" 1 ["script","k"] (bt1 K):=p0 X G a31 F31 b31 (db8 F31 B);have zyy:l8 l.prog w K mg base "_law_draw" 1 ["pool","many"] bd9:=p0 X G a32 F32 b32 (db9 F32);have zmy:l8 l.prog w K mg base "_law_turn" 2 ["pool","many"] bt3:=p0 X G a33 F33 b33 (dc0 F33 B zyy);have zxz:l8 l.prog w K mg base "_law_behind" 1 ["p","q"] an8:=p0 X G a34 F34 b34 (bt7 F34);have ziy:l8 l.prog w K mg base "_law_back" 1 ["p"] (az3 bh7 bi7):=p0 X G a35 F35 b35 (cx4 (cf9 F35 B) (bz3 F35 B));have zg:l8 l.prog w K mg base "_law_put" 1 ["rows","thing"] cg0:=p0 X G a36 F36 b36 (cg1 F36 B);have zgx:l8 l.prog w K mg base "_law_all" 2 ["many"] cg2:=p0 X G a37 F37 b37 (cg3 F37 B zg);have zqx:l8 l.prog w K mg base "_law_power" 2 ["p","m"] ch6:=p0 X G a38 F38 b38 (bx4 F38 B zxz);have zr:l8 l.prog w K mg base "_law_families_right" 46 ["p","m","past"] bx5:=p0 X G a39 F39 b39 (al1 F39 B zmz zqy zzx zxz ziy zqx);have zmx:l8 l.prog w K mg base "_law_one_right" 47 ["pool"] bx6:=p0 X G a40 F40 b40 (bb6 F40 B zmy zyy zqx zyz zzx zr zix zh zgx zhz);exact dj5 F41 B zmx zhy
theorem dr5 {l:PySem.W.OpenLaw}{q:Program}{loose:List Str}{XP:(Str->Option Value)->Heap->Prop}{YP:World->Heap->Prop}{d:DefRec}{K:Params->PySem.W.Frag}(hn:l.most=some 63)(hdf:d.params.defaults=[])
   (hY:∀(w:World) (h:Heap),YP w h->(K w.params).In h)
   (F:∀(w:World) (mg:Str->Option Value) (fa:Addr) (h:Heap),(K w.params).In h->h.Ns mainGlobals mg->mg d.name=some (.ref fa)->
     ∃fd:FuncData,(∀(s:Shared) (u:Value),BindsTo s fd ⟨[u],[]⟩ [("script",u)])/\∀base:Heap,(K w.params).In base->base.Ns mainGlobals mg->p6 l.prog w (K w.params) mg base A8 48 fa fd ["script"] (bp7 (K w.params))):
   PySem.W.WalkO q loose XP YP l.row.toRowW d [] (fun f vs=>PySem.call f vs):=
 L2.dq2 (n:=63) (k:=48) (x:="script") (CX:=fun _=>A8) (sp:=fun w=>bp7 (K w.params)) hn (by decide) hdf ⟨rfl,by decide,by decide,rfl⟩ hY F (fun _ _ a ns hl _ hS=>⟨a,ns,rfl,hS,hl,fun _=>rfl⟩) fun _ _ _ _ _ z=>z
end My
end
def PySem.W.Fast.tw16935592895330234192 : Unit := ()
def PySem.W.Fast.tw9973108985155603585 : Unit := ()
def PySem.W.Fast.tw7991952712062069339 : Unit := ()
def PySem.W.Fast.tw72569777643235401 : Unit := ()
def PySem.W.Fast.tw2678932399710324854 : Unit := ()
def PySem.W.Fast.tw17410518236320276827 : Unit := ()
def PySem.W.Fast.tw16153484635723765018 : Unit := ()
def PySem.W.Fast.tw6591590486956865189 : Unit := ()
def PySem.W.Fast.tw16024062066550744312 : Unit := ()
abbrev PySem.W.Fast.tw14023731744064503240:PySem.Program:=PySem.Challenge.pw_turnroots_k33_whole_past_and_roots
theorem PySem.W.Fast.te14023731744064503240:PySem.Challenge.pw_turnroots_k33_whole_past_and_roots=PySem.W.Fast.tw14023731744064503240:=rfl
abbrev PySem.W.Fast.tw90343872475197607:Type:=PySem.Params
theorem PySem.W.Fast.te90343872475197607:PySem.Params=PySem.W.Fast.tw90343872475197607:=rfl
open PySem PySem.W PyProof.Rows L2
set_option maxRecDepth 100000 in
set_option maxHeartbeats 0 in
theorem PySem.Challenge.cw_turnroots_k33_whole_past_and_roots_holds : PySem.Challenge.rw_turnroots_k33_whole_past_and_roots.Holds := by
  w_on; o_law; k_head; (case hw => w_witness2)
  k_fill
  refine My.dr5 (l := PySem.Challenge.rw_turnroots_k33_whole_past_and_roots) rfl rfl (fun w h Y => PySem.W.kIn_of Y) ?F
  case F =>
    intro w mg fa h KX G hmg
    refine' My.dr4 KX G hmg ?_ ?_ ?_ ?_ ?_ ?_ ?_ ?_ ?_ ?_ ?_ ?_ ?_ ?_ ?_ ?_ ?_ ?_ ?_ ?_ ?_ ?_ ?_ ?_ ?_ ?_ ?_ ?_ ?_ ?_ ?_ ?_ ?_ ?_ ?_ ?_ ?_ ?_ ?_ ?_ ?_ ?_ ?_ ?_ ?_ ?_
    all_goals first
      | k_is
      | (refine' dm2 ?a ?l ?c ?k; (case a => k_is); (case l => k_is); (case c => k_is); (case k => k_is))
      | ((repeat (refine' And.intro (ClF.mk ?n ?e ?g ?h ?c ?b ?o ?i ?t ?u ?v ?s) ?_; (case n => k_is); (case e => k_exc); (case g => k_is); (case h => k_is); (case c => k_is); (case b => k_is); (case o => k_is); (case i => k_is); (case t => k_is); (case u => k_is); (case v => k_is); (case s => k_is))); exact trivial)
      | ((repeat (refine' And.intro ?n ?_; (case n => k_is))); exact trivial)
      | ((repeat (refine' And.intro ?zp ?_; (case zp => ((repeat (refine' And.intro ?n ?_; (case n => k_is))); exact trivial)))); exact trivial)
      | skip
#print axioms PySem.Challenge.cw_turnroots_k33_whole_past_and_roots_holds
