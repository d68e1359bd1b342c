import PyProof.Rows.All
import Wide.All
import OpenK.AllK
import Wide.FinOn
import Lean
import PyProof.EqAt
import PyProof.EqKinds
import PyProof.TupleCall
import PyProof.NeKinds
import PyProof.EnumMake
import PyProof.Rows.SeqMore2
import PyProof.ZipIter
import PyProof.Rows.SortRev
import PyProof.Rows.SortWalk
import PyProof.Rows.CallKwBuiltin
import PyProof.DictIter
import PyProof.DictWalks
import PyProof.MeetsDict
import PyProof.Conv_int_bool
import PyProof.EqAt
import PyProof.CollectWalk
import PyProof.Rows.SortShell
import PyProof.Rows.Range3
import PyProof.CallFns
import PyProof.StrBlockH
import PySem.Challenge.RW_turnroots_k29_named_anew
open List renaming length_map→ci8, getElem?_eq_some_iff→ci9, getElem?_eq_getElem→cj0, getElem?_map→cj2, getElem?_eq_none→cj3, size_toArray→cj4, mem_cons_self→cj5, length_append→cj6, getD_eq_getElem?_getD→cj7, mem_cons_of_mem→cj8, length_take→cj9, mem_append_right→ck0, pairwise_iff_getElem→ck3, map_append→ck4, mem_of_getElem?→ck5, mem_map→ck6, mem_append→ck7, mem_cons→ck8, nodup_iff_pairwise_ne→ck9, length_cons→cl0, append_assoc→cl1, replicate→cl3, mem_flatten→cl6, range→cl8, getElem?_take_of_lt→cm0, append_nil→cm1, ext_getElem?→cm3, length_range→cm4, getElem?_append_left→cm6, map_cons→cm7, getElem?_append_right→cm8, take_length→cn0, mem_singleton→cn2, nodup_cons→cn3, length_drop→cn4, lookup_cons→cn5, mem_iff_getElem?→cn6, mem_append_left→cn7, mem_range→cn9, mem_filter→co0, map_map→co1, getElem?_of_mem→co2, getElem_mem→co3, flatten_cons→co4, map_congr_left→co5, filter_sublist→co6, countP_map→co7, countP_congr→cp0, filterMap_cons→cp1, replicate_succ→cp2, getElem?_range→cp3, perm_append_comm→cp6, take_append_drop→cp7, mem_of_mem_take→cp8, pairwise_map→cp9, nodup_append→cq0, drop_eq_nil_of_le→cq1, take_of_length_le→cq2, nodup_nil→cq3, filter_append→cq5, length_replicate→cq6, length_singleton→cq7, drop_eq_getElem_cons→cq8, all_eq_true→cr0, reverse_append→cr1, mem_reverse→cr2, pairwise_singleton→cr3, pairwise_cons→cr4, getElem?_set_self→cr5, find?_cons→cr7, eq_nil_of_length_eq_zero→cr8, flatten_singleton→cr9, filter_nil→cs0, getElem?_set_ne→cs6, reverse_reverse→cs8, count_eq_countP→cs9, flatten_append→ct0, length_reverse→ct1, length_set→ct2, range_succ→ct4, map_id→ct5, getElem?_drop→ct7, filter_cons_of_pos→ct8, filter_cons_of_neg→ct9, take_zero→cu0, reverse_perm→cu2, pairwise_lt_range→cu3, drop_of_length_le→cu4, count→cu5, any_cons→cu6, pairwise_reverse→cu8, getElem?_reverse→cu9, drop_append_of_le_length→cv0, map_nil→cv5, countP_eq_length_filter→cv9, perm_iff_count→cw0, sublist_flatten_of_mem→cw1, mem_filterMap→cw2, append_of_mem→cw3, count_eq_zero→cw5, any_eq_false→cw7, extract_eq_take_drop→cx1, countP_cons→cx4, getElem?_replicate→cx6, map_set→cx7, of_mem_zip→cx8, drop_zero→cy0
open Nat renaming le_refl→cj1, ne_of_lt→cl2, zero_le→cl4, lt_of_lt_of_le→cl5, le_trans→cl9, le_of_lt→cm9, lt_irrefl→cp5, lt_of_le_of_lt→cq4, add_comm→cs3, zero_add→cs4, add_zero→cs5, le_succ→ct3, min_eq_left→ct6, lt_trichotomy→cu1, le_add_right→cu7, le_of_eq→cv6, sub_self→cv7, add_le_add_left→cv8, lt_or_eq_of_le→cw4, lt_succ_of_lt→cw9, eq_of_mul_eq_mul_left→cx2, mod_lt→cy1
open Bool renaming false_ne_true→ck1, and_eq_true→cn8, false_eq_true→co8, eq_iff_iff→cr6, or_eq_true→cx9
open Array renaming length_toList→ck2, toList_append→cl7, getElem?_toList→cm5, toList→cn1, perm_iff_toList_perm→cp4, toList_push→cq9, toList_reverse→cs7, getElem?_eq_getElem→cx0, toList_map→cx5
open Int renaming toNat_natCast→cm2, eq_ofNat_of_zero_le→co9, fdiv_eq_ediv_of_nonneg→cw6
open Option renaming isSome_map→cw8, isSome_iff_exists→cx3
set_option Elab.async false
set_option linter.all false
set_option maxRecDepth 100000
set_option maxHeartbeats 8000000
section
local macro_rules|`(tactic|omega)=>`(tactic|lia)
local macro_rules|`(tactic|trivial)=>`(tactic|first|exact .inl rfl|exact .inr rfl|assumption)
local macro_rules|`(tactic|rfl')=>`(tactic|exact ⟨rfl,rfl,rfl,by decide+kernel,rfl,by decide+kernel,by decide+kernel⟩)
namespace L2
open PySem PySem.Spec PyProof.Rows
abbrev k6:=Sum Int Str
def ad3:k6->Value->Bool
 | .inl k,v=>Value.isInt k v
 | .inr x,v=>Value.isStrOf x v
def ce4 (w:World):k6->Int
 | .inl k=>hashInt k
 | .inr x=>hashStr w x
theorem C4:∀{k:k6} {v:Value},ad3 k v=true->(∃i t,k=Sum.inl i/\v=Value.int i t)\/(∃x t,k=Sum.inr x/\v=Value.str x t)
 | .inl i,v,h=>by
   obtain ⟨t,e⟩:=Value.isInt_shape (k:=i) (v:=v) h;exact .inl ⟨i,t,rfl,e⟩
 | .inr x,v,h=>by
   obtain ⟨t,e⟩:=Value.isStrOf_shape (x:=x) (v:=v) h;exact .inr ⟨x,t,rfl,e⟩
theorem be2 (i:Int)(t:Tok):ad3 (.inl i) (.int i t)=true:=by simp [ad3,Value.isInt]
theorem be3 (x:Str)(t:Tok):ad3 (.inr x) (.str x t)=true:=by simp [ad3,Value.isStrOf]
theorem bw4 (a b:Int):decide ((Sum.inl a:k6)=Sum.inl b)=(a==b):=by
 by_cases e:a=b
 · subst e;simp
 · have h:¬(Sum.inl a:k6)=Sum.inl b:=fun q=>e (Sum.inl.inj q)
   rw[decide_eq_false h];exact (beq_eq_false_iff_ne.mpr e).symm
theorem bw5 (a b:Str):decide ((Sum.inr a:k6)=Sum.inr b)=decide (a=b):=by
 by_cases e:a=b
 · subst e;simp
 · have h:¬(Sum.inr a:k6)=Sum.inr b:=fun q=>e (Sum.inr.inj q)
   rw[decide_eq_false h,decide_eq_false e]
theorem bw6 (a:Int)(b:Str):decide ((Sum.inl a:k6)=Sum.inr b)=false:=decide_eq_false (fun q=>nomatch q)
theorem bw7 (a:Str)(b:Int):decide ((Sum.inr a:k6)=Sum.inl b)=false:=decide_eq_false (fun q=>nomatch q)
def p7 (prog:Program)(w:World):PySem.KeyKind prog w k6 where
 is:=ad3
 hash:=ce4 w
 inj:=fun v a b ha hb=>by
   rcases C4 ha with ⟨i,t,rfl,rfl⟩|⟨x,t,rfl,rfl⟩
   · rcases C4 hb with ⟨j,u,rfl,e⟩|⟨y,u,rfl,e⟩
     · injection e with e1 _;rw[e1]
     · exact nomatch e
   · rcases C4 hb with ⟨j,u,rfl,e⟩|⟨y,u,rfl,e⟩
     · exact nomatch e
     · injection e with e1 _;rw[e1]
 byValue:=fun k v h=>by
   rcases C4 h with ⟨i,t,rfl,rfl⟩|⟨x,t,rfl,rfl⟩<;>rfl
 pyHash:=fun hv h=>by
   rcases C4 hv with ⟨i,t,rfl,rfl⟩|⟨x,t,rfl,rfl⟩
   · exact wpAny_pyHash_int h
   · exact wpAny_pyHash_str h
 eqBool:=fun hu hv h=>by
   rcases C4 hu with ⟨i,t,rfl,rfl⟩|⟨x,t,rfl,rfl⟩
   · rcases C4 hv with ⟨j,u,rfl,rfl⟩|⟨y,u,rfl,rfl⟩
     · rw[bw4] at h;exact wpAny_eqBool_int h
     · rw[bw6] at h;exact SeqAt.EqAt.int_str i t y u _ _ _ _ h
   · rcases C4 hv with ⟨j,u,rfl,rfl⟩|⟨y,u,rfl,rfl⟩
     · rw[bw7] at h;exact SeqAt.EqAt.str_int x t j u _ _ _ _ h
     · rw[bw5] at h;exact wpAny_eqBool_str h
 «strs»:=fun k x t v h=>by
   rcases C4 h with ⟨i,u,rfl,e⟩|⟨y,u,rfl,e⟩
   · exact nomatch e
   · injection e with e1 _
     subst e1
     cases v<;>rfl
theorem af3 (prog:Program)(w:World)(i:Int)(t:Tok):(p7 prog w).is (.inl i) (.int i t)=true:=be2 i t
theorem af4 (prog:Program)(w:World)(x:Str)(t:Tok):(p7 prog w).is (.inr x) (.str x t)=true:=be3 x t
end L2
namespace L2
open PySem PySem.Spec PyProof.Rows
inductive V where
 |non|bl (b:Bool)|int (i:Int)|str (x:Str)|byt (b:Array UInt8)|flt (b:UInt64)|ref (a:Addr)|ty (n:String)
 deriving DecidableEq
def l6:V->Value->Prop
 | .non,u=>u=Value.none
 | .bl b,u=>u=Value.bool b
 | .int i,u=>∃t,u=Value.int i t
 | .str x,u=>∃t,u=Value.str x t
 | .byt b,u=>∃t,u=Value.bytes b t
 | .flt b,u=>∃t,u=Value.float b t
 | .ref a,u=>u=Value.ref a
 | .ty n,u=>u=Value.type n
abbrev j6:List V->List Value->Prop:=Paired l6
theorem j6.length {xs:List V}{us:List Value}(r:j6 xs us):xs.length=us.length:=Paired.length r
theorem j6.get:∀{xs:List V} {us:List Value} {i:Nat} {x:V},j6 xs us->xs[i]? =some x->∃u,us[i]? =some u/\l6 x u
 |_,_,_,_,.nil,e=>by simp at e
 |_,_,0,_,.cons r _,e=>by simp at e;subst e;exact ⟨_,rfl,r⟩
 |_,_,i+1,x,.cons _ t,e=>by
  obtain ⟨u,h1,h2⟩:=j6.get (i:=i) (x:=x) t (by simpa using e);exact ⟨u,by simpa using h1,h2⟩
theorem j6.set {x:V}{u:Value}(r:l6 x u):∀{xs:List V} {us:List Value} (i:Nat),j6 xs us->j6 (xs.set i x) (us.set i u)
 |_,_,_,.nil=> .nil
 |_,_,0,.cons _ t=> .cons r t
 |_,_,i+1,.cons q t=> .cons q (j6.set r i t)
theorem j6.append:∀{xs ys:List V} {us ws:List Value},j6 xs us->j6 ys ws->j6 (xs++ys) (us++ws)
 |_,_,_,_,.nil,s=>s
 |_,_,_,_,.cons r t,s=> .cons r (j6.append t s)
theorem j6.take:∀{xs:List V} {us:List Value} (n:Nat),j6 xs us->j6 (xs.take n) (us.take n)
 |_,_,0,_=> .nil
 |_,_,_+1,.nil=> .nil
 |_,_,n+1,.cons r t=> .cons r (j6.take n t)
theorem j6.drop:∀{xs:List V} {us:List Value} (n:Nat),j6 xs us->j6 (xs.drop n) (us.drop n)
 |_,_,0,r=>r
 |_,_,_+1,.nil=> .nil
 |_,_,n+1,.cons _ t=>j6.drop n t
def R9:Option V->Option Value->Prop
 |some v,some u=>l6 v u
 |none,none=>True
 |_,_=>False
def KV {κ:Type}:List (κ×V)->List (κ×Value)->Prop:=Paired fun (p:κ×V) (q:κ×Value)=>p.1=q.1/\l6 p.2 q.2
def kV:k6->V
 | .inl i=> .int i
 | .inr x=> .str x
inductive HO where
 |lst (xs:List V)
 |tup (xs:List V)
 |dK (kvs:List (k6×V))|dT (kvs:List (List k6×V))
 |set (S:Int->Bool) (n:Nat)
 |ins (C dx:Addr) (fs:List (Str×V))
 |own (x:Addr)
 |xd (fs:List (Str×V))
 |met (f x:Addr)
 |rng (lo hi:Int)
 |frz (o:Obj) (u:HO)
 |tbl (ps:Array Value)
 |ext (φ:Heap->Prop)
abbrev Hp:=Addr->Option HO
def c9 (H:Hp)(a:Addr)(o:HO):Hp:=fun b=>if b=a then some o else H b
theorem c8 {H:Hp}{a:Addr}{o:HO}:c9 H a o a=some o:=by unfold c9;rw[if_pos rfl]
theorem g8 {H:Hp}{a b:Addr}{o:HO}(h:b≠a):c9 H a o b=H b:=by unfold c9;rw[if_neg h]
theorem bq5 {H:Hp}{a b:Addr}{o u:HO}(h:H a=some o)(h':H b=some u)(d:o≠u):a≠b:=by
 intro e;subst e;rw[h] at h';exact d (Option.some.inj h')
theorem g7 {H:Hp}{a b:Addr}{o:HO}(h:H a=some o)(h':H b=none):a≠b:=by
 intro e;subst e;rw[h] at h';cases h'
section
variable (P:Program) (w:World)
def o6 (H:Hp)(h:Heap)(a:Addr):HO->Prop
 | .lst xs=>xs.length<=sizeLine/\∃(its:List Value) (n:Nat),j6 xs its/\h.get? a=some {cls:= .type "list",data:= .seq its.toArray n}
 | .tup xs=>xs.length<=sizeLine/\∃its:List Value,j6 xs its/\IsTup h a its.toArray
 | .dK kvs=>kvs.length<=sizeLine/\(a==sysModules)=false/\∃vs,KV kvs vs/\h.DictOf (p7 P w) a vs
 | .dT kvs=>kvs.length<=sizeLine/\(a==sysModules)=false/\∃xs:List (List k6×Addr×Value),
     Paired (fun (p:List k6×V) (q:List k6×Addr×Value)=>p.1=q.1/\H q.2.1=some (.tup (p.1.map kV))/\l6 p.2 q.2.2) kvs xs/\
     ∃o es ep,h.get? a=some o/\o.ExactDict/\o.data= .dict es ep/\es.toList=xs.map (entryOfKey (tupleKind (p7 P w)))/\(xs.map (·.1)).Nodup
 | .set S n=>h.SetOf (intKind P w) a S n
 | .ins C dx fs=>H dx=some (.own a)/\fs.length<=1000/\dx≠a/\h.get? a=some (PySem.W.instObj C dx)/\
     ∃mA,h.Ns1 dx mA/\(∀f,R9 (fs.lookup f) (mA f))/\PySem.Within mA (fs.map (·.1))
 | .own _=>∃o,h.get? a=some o
 | .xd fs=>∃mA,h.Ns1 a mA/\∀f,R9 (fs.lookup f) (mA f)
 | .rng lo hi=>∃t u v,h.get? a=some {cls:= .type "range",data:= .fields #[.int lo t,.int hi u,.int 1 v]}
 | .frz o u=>h.get? a=some o/\o6 H h a u
 | .tbl ps=>h.get? a=some {cls:= .none,data:= .fields ps}
 | .met f x=>h.get? a=some (PySem.W.methodObj (.ref f) (.ref x))
 | .ext φ=>φ h/\(∃o,h.get? a=some o)/\∀h1 h2:Heap,φ h1->(∀o,h1.get? a=some o->h2.get? a=some o)->φ h2
def A9 (H:Hp)(h:Heap):Prop:=∀a o,H a=some o->o6 P w H h a o
end
section
variable {P:Program} {w:World} {H H':Hp} {h h':Heap} {a:Addr} {o:HO}
theorem o6.lt (x:o6 P w H h a o):a < h.objs.size:=by
 cases o with
 |lst xs=>obtain ⟨_,_,_,_,e⟩:=x;exact Heap.lt_size e
 |tup xs=>obtain ⟨_,_,_,p⟩:=x;exact p.lt
 |dK kvs=>obtain ⟨_,_,_,_,o,_,_,e,_⟩:=x;exact Heap.lt_size e
 |dT kvs=>obtain ⟨_,_,_,_,o,_,_,e,_⟩:=x;exact Heap.lt_size e
 |set S n=>obtain ⟨o,_,_,_,e,_⟩:=x;exact Heap.lt_size e
 |ins C dx fs=>obtain ⟨_,_,_,e,_⟩:=x;exact Heap.lt_size e
 |own y=>obtain ⟨_,e⟩:=x;exact Heap.lt_size e
 |xd fs=>obtain ⟨_,⟨_,_,_,e,_⟩,_⟩:=x;exact Heap.lt_size e
 |rng lo hi=>obtain ⟨_,_,_,e⟩:=x;exact Heap.lt_size e
 |frz ob u=>obtain ⟨e,_⟩:=x;exact Heap.lt_size e
 |tbl ps=>exact Heap.lt_size (show h.get? a=some _ from x)
 |met f y=>exact Heap.lt_size (show h.get? a=some _ from x)
 |ext φ=>obtain ⟨_,⟨_,e⟩,_⟩:=x;exact Heap.lt_size e
theorem Paired.mapP {α β:Type}{F G:α->β->Prop}:∀{l₁:List α} {l₂:List β},Paired F l₁ l₂->(∀a b,F a b->G a b)->Paired G l₁ l₂
 |_,_,.nil,_=> .nil
 |_,_,.cons r t,f=> .cons (f _ _ r) (Paired.mapP t f)
theorem o6.stay (x:o6 P w H h a o)(k:∀b u,(b=a\/H b=some (.own a))->h.get? b=some u->h'.get? b=some u)
   (ho:∀b,H b=some (.own a)->H' b=some (.own a)) (ht:∀b xs,H b=some (.tup xs)->H' b=some (.tup xs)):o6 P w H' h' a o:=by
 induction o with
 |lst xs=>obtain ⟨z,its,n,r,e⟩:=x;exact ⟨z,its,n,r,k _ _ (.inl rfl) e⟩
 |tup xs=>obtain ⟨z,its,r,ob,e,c⟩:=x;exact ⟨z,its,r,ob,k _ _ (.inl rfl) e,c⟩
 |dK kvs=>obtain ⟨z,y,vs,r,ob,es,ep,e,c⟩:=x;exact ⟨z,y,vs,r,ob,es,ep,k _ _ (.inl rfl) e,c⟩
 |dT kvs=>
  obtain ⟨z,y,xs,r,ob,es,ep,e,c⟩:=x;exact ⟨z,y,xs,Paired.mapP r fun p q z=>⟨z.1,ht _ _ z.2.1,z.2.2⟩,ob,es,ep,k _ _ (.inl rfl) e,c⟩
 |set S n=>obtain ⟨ob,es,ep,t,e,c⟩:=x;exact ⟨ob,es,ep,t,k _ _ (.inl rfl) e,c⟩
 |ins C dx fs=>
  obtain ⟨d,z,ne,e,mA,⟨od,es,ep,e2,c⟩,r⟩:=x;exact ⟨ho _ d,z,ne,k _ _ (.inl rfl) e,mA,⟨od,es,ep,k _ _ (.inr d) e2,c⟩,r⟩
 |own y=>obtain ⟨ob,e⟩:=x;exact ⟨ob,k _ _ (.inl rfl) e⟩
 |xd fs=>obtain ⟨mA,⟨od,es,ep,e,c⟩,r⟩:=x;exact ⟨mA,⟨od,es,ep,k _ _ (.inl rfl) e,c⟩,r⟩
 |rng lo hi=>obtain ⟨t,u,v,e⟩:=x;exact ⟨t,u,v,k _ _ (.inl rfl) e⟩
 |frz ob u ih=>obtain ⟨e,q⟩:=x;exact ⟨k _ _ (.inl rfl) e,ih q⟩
 |tbl ps=>
  have e:h.get? a=some {cls:= .none,data:= .fields ps}:=x;show h'.get? a=some {cls:= .none,data:= .fields ps};exact k a _ (.inl rfl) e
 |met f y=>
  have e:h.get? a=some (PySem.W.methodObj (.ref f) (.ref y)):=x;show h'.get? a=some (PySem.W.methodObj (.ref f) (.ref y));exact k a _ (.inl rfl) e
 |ext φ=>obtain ⟨p,⟨o,e⟩,st⟩:=x;exact ⟨st _ _ p fun o q=>k _ _ (.inl rfl) q,⟨o,k _ _ (.inl rfl) e⟩,st⟩
theorem A9.lt (x:A9 P w H h)(e:H a=some o):a < h.objs.size:=(x a o e).lt
theorem A9.fresh (x:A9 P w H h)(e:h.objs.size<=a):H a=none:=by
 cases q:H a with
 |none=>rfl
 |some u=>exact absurd (cl5 (x.lt q) e) (cp5 _)
theorem A9.kept (x:A9 P w H h)(k:∀b u,h.get? b=some u->h'.get? b=some u):A9 P w H h':=fun a o e=>
 (x a o e).stay (fun b u _ q=>k b u q) (fun _ q=>q) fun _ _ q=>q
theorem A9.laid (x:A9 P w H h)(k:∀b u,h.get? b=some u->h'.get? b=some u)(hp:h.objs.size<=a)(new:o6 P w (c9 H a o) h' a o):A9 P w (c9 H a o) h':=fun b u e=>by
 have hn:=x.fresh hp
 by_cases hb:b=a
 · subst hb;rw[c8] at e;cases e;exact new
 · rw[g8 hb] at e
   exact (x b u e).stay (fun c v _ q=>k c v q) (fun c q=>by rw[g8 (g7 q hn)];exact q) fun c xs q=>by rw[g8 (g7 q hn)];exact q
end
def Rd (H:Hp)(a:Addr)(u:HO):Prop:=H a=some u\/∃o,H a=some (.frz o u)
theorem Rd.ok {P:Program}{w:World}{H:Hp}{h:Heap}{a:Addr}{u:HO}(r:Rd H a u)(x:A9 P w H h):o6 P w H h a u:=by
 rcases r with r|⟨o,r⟩
 · exact x a u r
 · obtain ⟨_,q⟩:=x a _ r;exact q
def Mut:Option HO->Prop
 |some (.lst _)=>True
 |some (.dK _)=>True
 |some (.dT _)=>True
 |some (.set _ _)=>True
 |some (.ins _ _ _)=>True
 |some (.ext _)=>True
 |_=>False
section
variable {P:Program} {w:World} {H:Hp} {h h':Heap} {x e:Addr} {o':HO}
theorem A9.write (ok:A9 P w H h)(mu:Mut (H x))(he:e=x\/H e=some (.own x))(k:∀b u,b≠e->h.get? b=some u->h'.get? b=some u)(heo:∃u,h'.get? e=some u)
   (new:o6 P w (c9 H x o') h' x o'):A9 P w (c9 H x o') h':=fun b u q=>by
 have nown:∀c y,H c=some (.own y)->c≠x:=fun c y r z=>by subst z;rw[r] at mu;exact mu
 have ntup:∀c xs,H c=some (.tup xs)->c≠x:=fun c xs r z=>by subst z;rw[r] at mu;exact mu
 by_cases hb:b=x
 · subst hb;rw[c8] at q;cases q;exact new
 · rw[g8 hb] at q
   by_cases hbe:b=e
   · have q':H b=some (.own x):=by
       rcases he with z|z
       · exact absurd (hbe.trans z) hb
       · rw[hbe];exact z
     rw[q] at q';cases q';obtain ⟨v,hv⟩:=heo;exact ⟨v,by rw[hbe];exact hv⟩
   · refine (ok b u q).stay (fun c v hc r=>k c v ?_ r) (fun c r=>by rw[g8 (nown c b r)];exact r) fun c xs r=>by rw[g8 (ntup c xs r)];exact r
     rcases hc with rfl|hc
     · exact hbe
     · rintro rfl
       rcases he with z|z
       · exact nown c b hc z
       · rw[hc] at z;cases z;exact hb rfl
end
structure Un (fs ex:List Addr)(H H':Hp)(h h':Heap):Prop where
 keep:∀b o,h.get? b=some o->H b=none->b∉fs->b∉ex->h'.get? b=some o
 slot:∀b o,h.get? b=some o->H b=none->b∈fs->b∉ex->∃sl,h'.get? b=some {o with slots:=sl}
 free:∀b o,h.get? b=some o->H b=none->b∉ex->H' b=none
 there:∀b o,h.get? b=some o->b∉ex->∃o',h'.get? b=some o'
 tups:∀b xs,H b=some (.tup xs)->H' b=some (.tup xs)
 frzs:∀b o u,H b=some (.frz o u)->H' b=some (.frz o u)
 tbls:∀b ps,H b=some (.tbl ps)->∃more,H' b=some (.tbl (ps++more))
section
variable {fs fs' ex ex':List Addr} {H H1 H2:Hp} {h h1 h2 h':Heap} {a x e:Addr} {o:HO}
theorem Un.any (u:Un fs ex H H1 h h1){b:Addr}{ob:Obj}(q:h.get? b=some ob)(n:H b=none)(hx:b∉ex):∃sl,h1.get? b=some {ob with slots:=sl}:=by
 by_cases hb:b∈fs
 · exact u.slot b ob q n hb hx
 · exact ⟨ob.slots,u.keep b ob q n hb hx⟩
theorem Un.kept (k:∀b u,h.get? b=some u->h'.get? b=some u):Un fs ex H H h h':=
 ⟨fun b ob q _ _ _=>k b ob q,fun b ob q _ _ _=>⟨ob.slots,k b ob q⟩,fun _ _ _ n _=>n,fun b ob q _=>⟨ob,k b ob q⟩,fun _ _ q=>q,fun _ _ _ q=>q,fun _ ps q=>⟨#[],by rw[q];simp⟩⟩
theorem Un.refl:Un fs ex H H h h:=Un.kept fun _ _ q=>q
theorem Un.laid (k:∀b u,h.get? b=some u->h'.get? b=some u)(hp:h.objs.size<=a)(hn:H a=none):Un fs ex H (c9 H a o) h h' where
 keep:=fun b u q _ _ _=>k b u q
 slot:=fun b u q _ _ _=>⟨u.slots,k b u q⟩
 free:=fun b u q n _=>by rw[g8 (cl2 (cl5 (Heap.lt_size q) hp))];exact n
 there:=fun b u q _=>⟨u,k b u q⟩
 tups:=fun b xs q=>by rw[g8 (g7 q hn)];exact q
 frzs:=fun b u xs q=>by rw[g8 (g7 q hn)];exact q
 tbls:=fun b ps q=>⟨#[],by rw[g8 (g7 q hn),q];simp⟩
theorem Un.write (mu:Mut (H x))(he:e=x\/H e=some (.own x))(k:∀b u,b≠e->h.get? b=some u->h'.get? b=some u)(heo:∃u,h'.get? e=some u):Un fs ex H (c9 H x o) h h':=by
 have hx:∀b,H b=none->b≠x:=fun b n z=>by subst z;rw[n] at mu;exact mu
 have hb:∀b,H b=none->b≠e:=fun b n z=>by
   subst z
   rcases he with r|r
   · exact hx b n r
   · rw[n] at r;cases r
 have hm:∀b u,H b=some u->¬Mut (some u)->b≠x:=fun b u q nm z=>by subst z;rw[q] at mu;exact nm mu
 refine ⟨fun b u q n _ _=>k b u (hb b n) q,fun b u q n _ _=>⟨u.slots,k b u (hb b n) q⟩,fun b u q n _=>by rw[g8 (hx b n)];exact n,fun b u q _=> ?_,
   fun b xs q=>by rw[g8 (hm b _ q fun z=>z)];exact q,fun b u xs q=>by rw[g8 (hm b _ q fun z=>z)];exact q,fun b ps q=>⟨#[],by rw[g8 (hm b _ q fun z=>z),q];simp⟩⟩
 by_cases hbe:b=e
 · subst hbe;exact heo
 · exact ⟨u,k b u hbe q⟩
end
def trk (h:Heap)(H:Hp):List Addr:=(cl8 h.objs.size).filter fun a=>(H a).isSome
def Y0 (h:Heap)(H:Hp):Heap:=PySem.W.hideAll h (trk h H)
theorem be5 (h:Heap)(H:Hp):(Y0 h H).objs.size=h.objs.size:=PySem.W.hideAll_size _ _
theorem bl5 {h:Heap}{H:Hp}{b:Addr}{o:Obj}(e:h.get? b=some o)(n:H b=none):(Y0 h H).get? b=some o:=
 PySem.W.hideAll_get _ e fun hm=>by
   have q:(H b).isSome=true:=(co0.mp hm).2;rw[n] at q;simp at q
theorem bs0 {h:Heap}{H:Hp}{b:Addr}{o:Obj}(e:(Y0 h H).get? b=some o):h.get? b=some o/\H b=none:=by
 have e':h.get? b=some o:=PySem.W.of_hideAll (trk h H) e;refine ⟨e',?_⟩
 cases q:H b with
 |none=>rfl
 |some x=>
  have hm:b∈trk h H:=co0.mpr ⟨cn9.mpr (Heap.lt_size e'),by simp [q]⟩;have z:(Y0 h H).get? b=none:=PySem.W.hideAll_none (trk h H) hm;rw[z] at e;cases e
end L2
namespace L2
open PySem PySem.Spec PyProof.Rows
structure Mod (K:PySem.W.Frag)(mg:Str->Option Value)(base:Heap):Prop where
 kin:K.In base
 glob:base.Ns mainGlobals mg
 blt:∃mb,base.Ns builtinsNs mb/\∀x:Str,x≠"__name__"->mb x=bootBuiltins x
 nolimit:base.NoLimit
structure Cx where
 prog:Program
 w:World
 K:PySem.W.Frag
 mg:Str->Option Value
 base:Heap
 A:Around
 N:List Str
 s₀:Shared
 H₀:Hp
 env:Env
 outer:List Env
 stack:List Env
 ex:List Addr
 fn:Str->Bool
 calm:Bool
 pn:List (Addr×Obj)
 xe:Value->Shared->Prop
def y7 (l:List Env):List Addr:=l.filterMap (·.frame)
abbrev Cx.fs (X:Cx):List Addr:=y7 X.outer
def Vis (sc:Scope)(x:Str):Prop:=sc.names.lookup x=some .local\/sc.names.lookup x=some .cell\/sc.names.lookup x=some .free
def Loc (sc:Scope)(x:Str):Prop:=sc.names.lookup x=some .local\/sc.names.lookup x=some .cell
def ce5 (env:Env)(h:Heap)(m:Str->Option Value)(x:Str)(u:Value):Prop:=
 (env.kindOf x=some .local/\m x=some u)\/((env.kindOf x=some .cell\/env.kindOf x=some .free)/\∃c,env.cells.lookup x=some c/\h.IsCell c (some u))
structure Cx.Ok (X:Cx):Prop where
 mod:Mod X.K X.mg X.base
 kind:X.env.scope.kind= .function
 glob:X.env.globals=mainGlobals
 blt:X.env.builtins=builtinsNs
 above:X.s₀.heap.objs.size<=X.env.locals
 inj:∀x y c,X.env.cells.lookup x=some c->X.env.cells.lookup y=some c->x=y
 has:∀x,(X.env.kindOf x=some .cell\/X.env.kindOf x=some .free)->∃c,X.env.cells.lookup x=some c
 cab:∀x c,X.fn x=true->X.env.cells.lookup x=some c->X.s₀.heap.objs.size<=c
 hd:X.calm=true->X.A.handled=none
 frames:X.A.frames=some X.stack
 stk:X.stack=X.outer\/(X.stack=X.env::X.outer/\X.env.frame=some X.env.locals)
 exf:∀b∈X.ex,b≠X.env.locals/\∀x c,X.env.cells.lookup x=some c->c≠b
 bs:∀b o,X.base.get? b=some o->X.s₀.heap.get? b=some o/\X.H₀ b=none
 bsz:X.base.objs.size<=X.s₀.heap.objs.size
 noex:∀b o,X.base.get? b=some o->b∉X.ex
 exfs:∀b∈X.ex,b∉X.fs
 funs:X.s₀.heap.FunFrames X.base X.outer
 frf:∀b∈X.fs,X.H₀ b=none
structure g9 (X:Cx)(pins:List (Addr×Obj))(σ:List (Option V))(H:Hp)(s:Shared):Prop where
 ok:X.Ok
 os:s.os=X.s₀.os
 bare:AllBare s.gens
 base:Un X.fs X.ex X.H₀ H X.s₀.heap s.heap
 loc:∃m,s.heap.Ns X.env.locals m/\∀(i:Nat) (x:Str) (v:V),X.N[i]? =some x->σ[i]? =some (some v)->Vis X.env.scope x->∃u,l6 v u/\ce5 X.env s.heap m x u
 cell:∀x c,X.env.cells.lookup x=some c->∃v,s.heap.IsCell c v
 free:H X.env.locals=none
 freeC:∀x c,X.env.cells.lookup x=some c->H c=none
 pin:∀p∈X.pn++pins,s.heap.get? p.1=some p.2/\H p.1=none/\p.1≠X.env.locals/\p.1∉X.fs/\∀v,p.2.data≠.cell v
 hok:A9 X.prog X.w H s.heap
 len:σ.length=X.N.length
section
variable {X:Cx} {pins:List (Addr×Obj)} {σ:List (Option V)} {H H':Hp} {s:Shared} {h':Heap}
theorem Cx.Ok.nofr (ok:X.Ok){b:Addr}{o:Obj}(e:X.base.get? b=some o):b∉X.fs:=fun hb=>by
 have:=(ok.funs.mem hb).1;rw[e] at this;cases this
theorem g9.bs (I:g9 X pins σ H s):∀b o,X.base.get? b=some o->s.heap.get? b=some o/\H b=none:=fun b o e=>
 ⟨I.base.keep b o (I.ok.bs b o e).1 (I.ok.bs b o e).2 (I.ok.nofr e) (I.ok.noex b o e),I.base.free b o (I.ok.bs b o e).1 (I.ok.bs b o e).2 (I.ok.noex b o e)⟩
theorem g9.bk (I:g9 X pins σ H s):∀b o,X.base.get? b=some o->s.heap.get? b=some o:=fun b o e=>(I.bs b o e).1
theorem g9.mod (I:g9 X pins σ H s):Mod X.K X.mg X.base:=I.ok.mod
theorem g9.kIn (I:g9 X pins σ H s):X.K.In s.heap:=I.ok.mod.kin.keeps I.bk
theorem g9.lt (I:g9 X pins σ H s):X.env.locals < s.heap.objs.size:=let ⟨_,hn,_⟩:=I.loc;hn.lt
theorem g9.sz (I:g9 X pins σ H s):X.s₀.heap.objs.size<=s.heap.objs.size:=cl9 I.ok.above (cm9 I.lt)
theorem g9.nofs (I:g9 X pins σ H s){a:Addr}(h:s.heap.objs.size<=a):a∉X.fs:=fun hb=>by
 obtain ⟨_,o,ho,_⟩:=I.ok.funs.mem hb;exact absurd (cl5 (Heap.lt_size ho) (cl9 I.sz h)) (cp5 _)
theorem g9.cne (I:g9 X pins σ H s):∀x c,X.env.cells.lookup x=some c->c≠X.env.locals:=fun x c e z=>by
 obtain ⟨v,o,ho,hd⟩:=I.cell x c e;obtain ⟨m,⟨o',es,ep,ho',hd',_⟩,_⟩:=I.loc;rw[z,ho'] at ho;cases ho;rw[hd'] at hd;cases hd
theorem g9.funs (I:g9 X pins σ H s):s.heap.FunFrames X.base X.outer:=by
 have all:∀(l:List Env),(∀b∈y7 l,b∈X.fs)->X.s₀.heap.FunFrames X.base l->s.heap.FunFrames X.base l:=by
   intro l
   induction l with
   |nil=>intro _ _;trivial
   |cons env r ih=>
    intro hs hl;obtain ⟨hk,⟨L,o,hf,hn,ho,hd⟩,hr⟩:=hl;have hL:L∈X.fs:=hs L (by unfold y7;rw[cp1,hf];exact cj5)
    obtain ⟨sl,e⟩:=I.base.slot L o ho (I.ok.frf L hL) hL fun z=>I.ok.exfs L z hL
    exact ⟨hk,⟨L,_,hf,hn,e,hd⟩,ih (fun b hb=>hs b (by unfold y7;rw[cp1,hf];exact cj8 _ hb)) hr⟩
 exact all X.outer (fun _ hb=>hb) I.ok.funs
theorem g9.stack (I:g9 X pins σ H s):s.heap.FunFrames X.base X.stack:=by
 rcases I.ok.stk with e|⟨e,hf⟩
 · rw[e];exact I.funs
 · rw[e];obtain ⟨m,hn,_⟩:=I.loc;refine .cons (by rw[I.ok.kind];decide) hf hn ?_ I.funs;exact Heap.get?_none_of_le (cl9 I.ok.bsz I.ok.above)
theorem g9.stkSub (I:g9 X pins σ H s):∀b∈y7 X.stack,b∈X.env.locals::X.fs:=fun b hb=>by
 rcases I.ok.stk with e|⟨e,hf⟩
 · rw[e] at hb;exact cj8 _ hb
 · rw[e] at hb;unfold y7 at hb;rw[cp1,hf] at hb;exact hb
theorem g9.stkFree (I:g9 X pins σ H s):∀b∈y7 X.stack,H b=none:=fun b hb=>by
 rcases ck8.mp (I.stkSub b hb) with e|hb
 · rw[e];exact I.free
 · obtain ⟨_,o,ho,_⟩:=I.ok.funs.mem hb
   exact I.base.free b o ho (I.ok.frf b hb) fun z=>I.ok.exfs b z hb
theorem g9.step {g':Array GenState}{t':Nat}{d':Drawn}{ch:List Addr}(I:g9 X pins σ H s)
   (hch:∀b∈ch,(b∈X.ex\/X.s₀.heap.objs.size<=b)/\b≠X.env.locals/\(∀x c,X.env.cells.lookup x=some c->c≠b)/\∀p∈X.pn++pins,p.1≠b)
   (keep:∀b o,b≠X.env.locals->b∉X.fs->b∉ch->s.heap.get? b=some o->H b=none->h'.get? b=some o)
   (slot:∀b o,b≠X.env.locals->b∈X.fs->b∉ch->s.heap.get? b=some o->H b=none->∃sl,h'.get? b=some {o with slots:=sl}) (free:∀b o,b∉ch->s.heap.get? b=some o->H b=none->H' b=none)
   (there:∀b o,b∉ch->s.heap.get? b=some o->∃o',h'.get? b=some o')
   (tups:∀b xs,H b=some (.tup xs)->H' b=some (.tup xs)) (frzs:∀b o u,H b=some (.frz o u)->H' b=some (.frz o u)) (tbls:∀b ps,H b=some (.tbl ps)->∃more,H' b=some (.tbl (ps++more)))
   (ns:∀m,s.heap.Ns X.env.locals m->h'.Ns X.env.locals m) (hok:A9 X.prog X.w H' h') (hg:AllBare g'):
   g9 X pins σ H' {s with heap:=h',gens:=g',drawn:=d',toks:=t'}:=by
 have neL:∀b o,X.s₀.heap.get? b=some o->b≠X.env.locals:=fun b o e=>cl2 (cl5 (Heap.lt_size e) I.ok.above)
 have neC:∀b o,X.s₀.heap.get? b=some o->b∉X.ex->b∉ch:=fun b o e hx hb=>by
   rcases (hch b hb).1 with z|z
   · exact hx z
   · exact absurd (cl5 (Heap.lt_size e) z) (cp5 _)
 have cellK:∀x c,X.env.cells.lookup x=some c->∀v,s.heap.IsCell c v->h'.IsCell c v:=fun x c e v ⟨o,ho,hd⟩=>by
   have nch:c∉ch:=fun z=>(hch c z).2.2.1 x c e rfl
   by_cases hc:c∈X.fs
   · obtain ⟨sl,q⟩:=slot c o (I.cne x c e) hc nch ho (I.freeC x c e);exact ⟨_,q,hd⟩
   · exact ⟨o,keep c o (I.cne x c e) hc nch ho (I.freeC x c e),hd⟩
 refine ⟨I.ok,I.os,hg,⟨fun b o e n hb hx=> ?_,fun b o e n hb hx=> ?_,fun b o e n hx=> ?_,fun b o e hx=> ?_,fun b xs e=>tups b xs (I.base.tups b xs e),fun b o xs e=>frzs b o xs (I.base.frzs b o xs e),fun b ps e=> ?_⟩,?_,fun x c e=> ?_,?_,fun x c e=> ?_,fun p hp=> ?_,hok,I.len⟩
 · exact keep b o (neL b o e) hb (neC b o e hx) (I.base.keep b o e n hb hx) (I.base.free b o e n hx)
 · obtain ⟨sl,e1⟩:=I.base.slot b o e n hb hx;obtain ⟨sl',e2⟩:=slot b _ (neL b o e) hb (neC b o e hx) e1 (I.base.free b o e n hx);exact ⟨sl',e2⟩
 · obtain ⟨o',e1⟩:=I.base.there b o e hx;exact free b o' (neC b o e hx) e1 (I.base.free b o e n hx)
 · obtain ⟨o',e1⟩:=I.base.there b o e hx;exact there b o' (neC b o e hx) e1
 · obtain ⟨m1,e1⟩:=I.base.tbls b ps e;obtain ⟨m2,e2⟩:=tbls b _ e1;exact ⟨m1++m2,by rw[e2,Array.append_assoc]⟩
 · obtain ⟨m,hn,hl⟩:=I.loc;refine ⟨m,ns m hn,fun i x v e1 e2 e3=> ?_⟩;obtain ⟨u,r,l⟩:=hl i x v e1 e2 e3;refine ⟨u,r,?_⟩
   rcases l with l|⟨k,c,e,z⟩
   · exact .inl l
   · exact .inr ⟨k,c,e,cellK x c e _ z⟩
 · obtain ⟨v,z⟩:=I.cell x c e;exact ⟨v,cellK x c e v z⟩
 · obtain ⟨m,⟨o,_,_,ho,_⟩,_⟩:=I.loc;exact free _ o (fun z=>(hch _ z).2.1 rfl) ho I.free
 · obtain ⟨v,o,ho,hd⟩:=I.cell x c e;exact free c o (fun z=>(hch c z).2.2.1 x c e rfl) ho (I.freeC x c e)
 · obtain ⟨e,n,ne,nf,d⟩:=I.pin p hp
   have nch:p.1∉ch:=fun z=>(hch p.1 z).2.2.2 p hp rfl
   exact ⟨keep p.1 p.2 ne nf nch e n,free p.1 p.2 nch e n,ne,nf,d⟩
theorem g9.un {t':Nat}(I:g9 X pins σ H s)(u:Un X.fs [] H H' s.heap h')(hok:A9 X.prog X.w H' h'):g9 X pins σ H' {s with heap:=h',toks:=t'}:=by
 obtain ⟨m,⟨o,es,ep,ho,r⟩,_⟩:=id I.loc;obtain ⟨sl,hL⟩:=u.any ho I.free (by simp)
 exact I.step (g':=s.gens) (d':=s.drawn) (ch:=[]) (fun _ z=>nomatch z) (fun b o _ hb _ e n=>u.keep b o e n hb (by simp)) (fun b o _ hb _ e n=>u.slot b o e n hb (by simp)) (fun b o _ e n=>u.free b o e n (by simp)) (fun b o _ e=>u.there b o e (by simp)) u.tups u.frzs u.tbls (fun m' hm=>by
   obtain ⟨o',es',ep',ho',r'⟩:=hm;rw[ho] at ho';cases ho'
   exact ⟨_,es',ep',hL,r'⟩) hok I.bare
theorem g9.call {g':Array GenState}{t':Nat}{d':Drawn}{ch:List Addr}(I:g9 X pins σ H s)(u:Un (y7 X.stack) ch H H' s.heap h')(hok:A9 X.prog X.w H' h')(hg:AllBare g')
   (hch:∀b∈ch,(b∈X.ex\/X.s₀.heap.objs.size<=b)/\b≠X.env.locals/\(∀x c,X.env.cells.lookup x=some c->c≠b)/\∀p∈X.pn++pins,p.1≠b):
   g9 X pins σ H' {s with heap:=h',gens:=g',drawn:=d',toks:=t'}:=by
 obtain ⟨m,⟨o,es,ep,ho,r⟩,_⟩:=id I.loc
 obtain ⟨sl,hL⟩:=u.any ho I.free fun z=>(hch _ z).2.1 rfl
 exact I.step (ch:=ch) hch (fun b o hL hb hc e n=>u.keep b o e n (fun z=>(ck8.mp (I.stkSub b z)).elim hL hb) hc) (fun b o _ _ hc e n=>u.any e n hc) (fun b o hc e n=>u.free b o e n hc) (fun b o hc e=>u.there b o e hc) u.tups u.frzs u.tbls (fun m' hm=>by
   obtain ⟨o',es',ep',ho',r'⟩:=hm;rw[ho] at ho';cases ho'
   exact ⟨_,es',ep',hL,r'⟩) hok hg
theorem g9.turned {t':Nat}{it:Addr}(I:g9 X pins σ H s)(k:∀b o,b≠it->s.heap.get? b=some o->h'.get? b=some o)(hn:H it=none)(hL:it≠X.env.locals)
   (h1:it∈X.ex\/X.s₀.heap.objs.size<=it) (h2:∀x c,X.env.cells.lookup x=some c->c≠it) (h3:∀p∈X.pn++pins,p.1≠it):g9 X pins σ H {s with heap:=h',toks:=t'}:=by
 have nit:∀b u,H b=some u->b≠it:=fun b u e z=>by rw[z,hn] at e;cases e
 refine I.step (g':=s.gens) (d':=s.drawn) (ch:=[it]) (fun b hb=> ?_) (fun b o _ _ hc e _=>k b o (fun z=>hc (by simp [z])) e) (fun b o _ _ hc e _=>⟨o.slots,k b o (fun z=>hc (by simp [z])) e⟩) (fun _ _ _ _ n=>n)
   (fun b o hc e=>⟨o,k b o (fun z=>hc (by simp [z])) e⟩) (fun _ _ e=>e) (fun _ _ _ e=>e) (fun b ps e=>⟨#[],by rw[e];simp⟩) (fun m hm=> ?_) (fun b u e=> ?_) I.bare
 · have e:b=it:=by simpa using hb
   subst e;exact ⟨h1,hL,h2,h3⟩
 · obtain ⟨o,es,ep,ho,r⟩:=hm;exact ⟨o,es,ep,k _ o (Ne.symm hL) ho,r⟩
 · refine (I.hok b u e).stay (fun c v hc q=>k c v ?_ q) (fun _ q=>q) fun _ _ q=>q
   rcases hc with z|z
   · rw[z];exact nit b u e
   · exact nit c _ z
theorem g9.tok (I:g9 X pins σ H s)(t:Nat):g9 X pins σ H {s with toks:=t}:=I.un (h':=s.heap) (t':=t) Un.refl I.hok
theorem g9.kept {t':Nat}(I:g9 X pins σ H s)(k:∀b u,s.heap.get? b=some u->h'.get? b=some u):g9 X pins σ H {s with heap:=h',toks:=t'}:=I.un (Un.kept k) (I.hok.kept k)
theorem g9.laid {a:Addr}{o:HO}{t':Nat}(I:g9 X pins σ H s)(k:∀b u,s.heap.get? b=some u->h'.get? b=some u)(hp:s.heap.objs.size<=a)(new:o6 X.prog X.w (c9 H a o) h' a o):
 g9 X pins σ (c9 H a o) {s with heap:=h',toks:=t'}:=I.un (Un.laid k hp (I.hok.fresh hp)) (I.hok.laid k hp new)
theorem g9.write {x e:Addr}{o:HO}{t':Nat}(I:g9 X pins σ H s)(mu:Mut (H x))(he:e=x\/H e=some (.own x))(k:∀b u,b≠e->s.heap.get? b=some u->h'.get? b=some u)(heo:∃u,h'.get? e=some u)
 (new:o6 X.prog X.w (c9 H x o) h' x o):g9 X pins σ (c9 H x o) {s with heap:=h',toks:=t'}:=I.un (Un.write mu he k heo) (I.hok.write mu he k heo new)
theorem g9.pins_of {pins':List (Addr×Obj)}(I:g9 X pins σ H s)(h:∀p∈pins',s.heap.get? p.1=some p.2/\H p.1=none/\p.1≠X.env.locals/\p.1∉X.fs/\∀v,p.2.data≠.cell v):g9 X pins' σ H s:=
 ⟨I.ok,I.os,I.bare,I.base,I.loc,I.cell,I.free,I.freeC,fun p hp=>(ck7.mp hp).elim (fun z=>I.pin p (cn7 _ z)) (h p),I.hok,I.len⟩
theorem ag4 {N:List Str}(hN:N.Nodup){i j:Nat}{x:Str}(a:N[i]? =some x)(b:N[j]? =some x):i=j:=by
 obtain ⟨h1,e1⟩:=ci9.mp a;obtain ⟨h2,e2⟩:=ci9.mp b;exact (List.getElem_inj hN).mp (e1.trans e2.symm)
theorem an9 {M:Model}{A:Around}{E:Value->Shared->Prop}{i:Nat}{x:Str}{v:V}{u:Value}{Q:Unit->Shared->Prop}(I:g9 X pins σ H s)(hN:X.N.Nodup)(hi:X.N[i]? =some x)(hx:Loc X.env.scope x)(r:l6 v u)
   (h:∀s',g9 X pins (σ.set i (some v)) H s'->(∃a,Heap.SameBut a s.heap s'.heap/\(a=X.env.locals\/X.env.cells.lookup x=some a))->Q () s') (hf:X.fn x=true\/X.env.scope.names.lookup x=some .local:=by first|exact .inl rfl|exact .inr rfl|assumption):wpAny M A (storeName X.env x u) Q E s:=by
 obtain ⟨m,hn,hl⟩:=id I.loc
 have hcls:(X.env.scope.kind== .class||(X.env.scope.kind== .module&&X.env.locals !=X.env.globals))=false:=by rw[I.ok.kind];rfl
 have hiσ:i < σ.length:=by rw[I.len];exact (ci9.mp hi).1
 have cne:=I.cne
 have tracked:∀{a:Addr} {h':Heap},(∃o,s.heap.get? a=some o/\H a=none)->Heap.SameBut a s.heap h'->A9 X.prog X.w H h':=fun {a h'} ha hs b ob e=>by
   obtain ⟨_,_,hfree⟩:=ha
   refine (I.hok b ob e).stay (fun c w' hc q=>(hs.2 c ?_).trans q) (fun _ q=>q) fun _ _ q=>q
   rintro rfl
   rcases hc with rfl|hc
   · rw[hfree] at e;cases e
   · rw[hfree] at hc;cases hc
 rcases hx with hk|hk
 · refine wpAny_storeName_local hk hn (fun h' hn' hs=> ?_) hcls;obtain ⟨oL,_,_,hoL,_⟩:=id hn;refine h _ ⟨I.ok,I.os,I.bare,⟨fun b o e n hb hx=> ?_,fun b o e n hb hx=> ?_,I.base.free,fun b o e hx=> ?_,I.base.tups,I.base.frzs,I.base.tbls⟩,⟨_,hn',fun j y v' e1 e2 e3=> ?_⟩,fun y c e=> ?_,I.free,I.freeC,fun p hp=> ?_,tracked ⟨oL,hoL,I.free⟩ hs,by simpa using I.len⟩ ⟨_,hs,.inl rfl⟩
   · exact (hs.2 b (cl2 (cl5 (Heap.lt_size e) I.ok.above))).trans (I.base.keep b o e n hb hx)
   · obtain ⟨sl,e1⟩:=I.base.slot b o e n hb hx;exact ⟨sl,(hs.2 b (cl2 (cl5 (Heap.lt_size e) I.ok.above))).trans e1⟩
   · obtain ⟨o',e1⟩:=I.base.there b o e hx;exact ⟨o',(hs.2 b (cl2 (cl5 (Heap.lt_size e) I.ok.above))).trans e1⟩
   · by_cases hj:j=i
     · subst hj;rw[hi] at e1;cases e1;rw[cr5 hiσ] at e2;cases e2;exact ⟨u,r,.inl ⟨hk,by simp⟩⟩
     · rw[cs6 (Ne.symm hj)] at e2;obtain ⟨u',r',q⟩:=hl j y v' e1 e2 e3;refine ⟨u',r',?_⟩
       rcases q with ⟨k,e⟩|⟨k,c,e,z⟩
       · refine .inl ⟨k,?_⟩
         have:y≠x:=fun e=>hj (ag4 hN e1 (e▸hi))
         simp [this,e]
       · exact .inr ⟨k,c,e,z.sameBut hs (cne y c e)⟩
   · obtain ⟨w',z⟩:=I.cell y c e;exact ⟨w',z.sameBut hs (cne y c e)⟩
   · obtain ⟨e,n,ne,nf,d⟩:=I.pin p hp;exact ⟨(hs.2 p.1 ne).trans e,n,ne,nf,d⟩
 · have hfn:X.fn x=true:=by
     rcases hf with z|z
     · exact z
     · rw[z] at hk;cases hk
   obtain ⟨c,hc⟩:=I.ok.has x (.inl hk);obtain ⟨w',z⟩:=I.cell x c hc;refine wpAny_storeName_cell I.ok.kind hk hc z (fun h' hc' hs=> ?_);obtain ⟨oc,hoc,hocd⟩:=id z;refine h {s with heap:=h'} ⟨I.ok,I.os,I.bare,⟨fun b o e n hb hx=> ?_,fun b o e n hb hx=> ?_,I.base.free,fun b o e hx=> ?_,I.base.tups,I.base.frzs,I.base.tbls⟩,⟨m,hn.sameBut hs (Ne.symm (cne x c hc)),fun j y v' e1 e2 e3=> ?_⟩,fun y c' e=> ?_,I.free,I.freeC,fun p hp=> ?_,tracked ⟨oc,hoc,I.freeC x c hc⟩ hs,by simpa using I.len⟩ ⟨c,hs,.inr hc⟩
   · exact (hs.2 b (cl2 (cl5 (Heap.lt_size e) (I.ok.cab x c hfn hc)))).trans (I.base.keep b o e n hb hx)
   · obtain ⟨sl,e1⟩:=I.base.slot b o e n hb hx;exact ⟨sl,(hs.2 b (cl2 (cl5 (Heap.lt_size e) (I.ok.cab x c hfn hc)))).trans e1⟩
   · obtain ⟨o',e1⟩:=I.base.there b o e hx;exact ⟨o',(hs.2 b (cl2 (cl5 (Heap.lt_size e) (I.ok.cab x c hfn hc)))).trans e1⟩
   · by_cases hj:j=i
     · subst hj;rw[hi] at e1;cases e1;rw[cr5 hiσ] at e2;cases e2;exact ⟨u,r,.inr ⟨.inl hk,c,hc,hc'⟩⟩
     · rw[cs6 (Ne.symm hj)] at e2;obtain ⟨u',r',q⟩:=hl j y v' e1 e2 e3;refine ⟨u',r',?_⟩
       rcases q with q|⟨k,c',e,z'⟩
       · exact .inl q
       · refine .inr ⟨k,c',e,z'.sameBut hs ?_⟩;rintro rfl;exact hj (ag4 hN e1 (I.ok.inj _ _ _ e hc▸hi))
   · by_cases hcc:c'=c
     · subst hcc;exact ⟨_,hc'⟩
     · obtain ⟨w2,z2⟩:=I.cell y c' e;exact ⟨w2,z2.sameBut hs hcc⟩
   · obtain ⟨e,n,ne,nf,d⟩:=I.pin p hp;refine ⟨(hs.2 p.1 ?_).trans e,n,ne,nf,d⟩;intro q;rw[q,hoc] at e;have q':oc=p.2:=Option.some.inj e;exact d w' (by rw[<-q'];exact hocd)
theorem ag5 {M:Model}{A:Around}{E:Value->Shared->Prop}{i:Nat}{x:Str}{v:V}{u:Value}{Q:Unit->Shared->Prop}(I:g9 X pins σ H s)(hN:X.N.Nodup)(hi:X.N[i]? =some x)(hx:Loc X.env.scope x)(r:l6 v u)
   (h:∀s',g9 X pins (σ.set i (some v)) H s'->Q () s') (hf:X.fn x=true\/X.env.scope.names.lookup x=some .local:=by first|exact .inl rfl|exact .inr rfl|assumption):wpAny M A (storeName X.env x u) Q E s:=
 an9 I hN hi hx r (fun s' I' _=>h s' I') hf
theorem g9.call' {s':Shared}{ch:List Addr}(I:g9 X pins σ H s)(ho:s'.os=s.os)(u:Un (y7 X.stack) ch H H' s.heap s'.heap)(hok:A9 X.prog X.w H' s'.heap)(hg:AllBare s'.gens)
   (hch:∀b∈ch,(b∈X.ex\/X.s₀.heap.objs.size<=b)/\b≠X.env.locals/\(∀x c,X.env.cells.lookup x=some c->c≠b)/\∀p∈X.pn++pins,p.1≠b):g9 X pins σ H' s':=by
 obtain ⟨h',g',d',t',o'⟩:=s';have e:o'=s.os:=ho;subst e;exact I.call (g':=g') (t':=t') (d':=d') u hok hg hch
end
abbrev XK:=Value->Option Addr->Hp->Prop
abbrev St:=List (Option V)
abbrev VK:=V->Hp->Prop
abbrev TE:=St->Hp->VK->Prop
abbrev TT:=St->Hp->(Bool->Hp->Prop)->Prop
abbrev TA:=St->Hp->(List V->Hp->Prop)->Prop
structure M8 where
 nx:St->Hp->Prop
 rt:VK
 bk:St->Hp->Prop:=fun _ _=>False
 ct:St->Hp->Prop:=fun _ _=>False
abbrev TS:=M8->St->Hp->Prop
def EP (X:Cx)(pins:List (Addr×Obj))(σ:St)(Q:VK)(u:Value)(s':Shared):Prop:=∃v H',g9 X pins σ H' s'/\l6 v u/\Q v H'
def TP (X:Cx)(pins:List (Addr×Obj))(σ:St)(Q:Bool->Hp->Prop)(b:Bool)(s':Shared):Prop:=∃H',g9 X pins σ H' s'/\Q b H'
def AP (X:Cx)(pins:List (Addr×Obj))(σ:St)(Q:List V->Hp->Prop)(us:List Value)(s':Shared):Prop:=∃vs H',g9 X pins σ H' s'/\j6 vs us/\Q vs H'
def SP (X:Cx)(pins:List (Addr×Obj))(D:M8)(f:Flow)(s':Shared):Prop:=
 match f with
 | .next=>∃σ' H',g9 X pins σ' H' s'/\D.nx σ' H'
 | .brk=>∃σ' H',g9 X pins σ' H' s'/\D.bk σ' H'
 | .cont=>∃σ' H',g9 X pins σ' H' s'/\D.ct σ' H'
 | .ret u=>∃v σ' H',g9 X pins σ' H' s'/\l6 v u/\D.rt v H'
def PE (X:Cx)(e:Expr)(t:TE):Prop:=
 ∀(pins:List (Addr×Obj)) (s:Shared) (σ:St) (H:Hp) (Q:VK),g9 X pins σ H s->t σ H Q->wpAny (model X.prog X.w) X.A (eval e X.env) (EP X pins σ Q) X.xe s
def PT (X:Cx)(e:Expr)(t:TT):Prop:=
 ∀(pins:List (Addr×Obj)) (s:Shared) (σ:St) (H:Hp) (Q:Bool->Hp->Prop),g9 X pins σ H s->t σ H Q->wpAny (model X.prog X.w) X.A (isTrue e X.env (eval e X.env)) (TP X pins σ Q) X.xe s
def PW (X:Cx)(e:Expr)(t:TT):Prop:=
 ∀(whole:Sem Value) (pins:List (Addr×Obj)) (s:Shared) (σ:St) (H:Hp) (Q:Bool->Hp->Prop),g9 X pins σ H s->t σ H Q->wpAny (model X.prog X.w) X.A (isTrue e X.env whole) (TP X pins σ Q) X.xe s
theorem PW.pt {X:Cx}{e:Expr}{t:TT}(h:PW X e t):PT X e t:=h _
def PA (X:Cx)(es:List Expr)(t:TA):Prop:=
 ∀(pos:Pos) (pins:List (Addr×Obj)) (s:Shared) (σ:St) (H:Hp) (Q:List V->Hp->Prop),g9 X pins σ H s->t σ H Q->wpAny (model X.prog X.w) X.A (spliced (backTo pos (starEach es X.env))) (AP X pins σ Q) X.xe s
def PS (X:Cx)(st:Stmt)(t:TS):Prop:=
 ∀(pins:List (Addr×Obj)) (s:Shared) (σ:St) (H:Hp) (D:M8),g9 X pins σ H s->t D σ H->wpAny (model X.prog X.w) X.A (exec st X.env) (SP X pins D) X.xe s
def Q3 (X:Cx)(st:List Stmt)(t:TS):Prop:=
 ∀(pins:List (Addr×Obj)) (s:Shared) (σ:St) (H:Hp) (D:M8),g9 X pins σ H s->t D σ H->wpAny (model X.prog X.w) X.A (execs st X.env) (SP X pins D) X.xe s
theorem k7 {α:Type}{t:Sem α}{Q Q':α->Shared->Prop}{M:Model}{A:Around}{E:Value->Shared->Prop}{s:Shared}(h:wpAny M A t Q E s)(hQ:∀a s,Q a s->Q' a s):wpAny M A t Q' E s:=wpAny_mono h hQ fun _ _ x=>x
end L2
namespace L2
open PySem PySem.Spec PyProof.Rows
section
variable {X:Cx}
def bw8 (i:Nat):TE:=fun σ H Q=>∃v,σ[i]? =some (some v)/\Q v H
def tC (v:V):TE:=fun _ H Q=>Q v H
theorem bw9 {i:Nat}{x:Str}{pos:Pos}(hN:X.N[i]? =some x)(hv:Vis X.env.scope x)(hd:(x==("__debug__":Str))=false:=by decide)(hcd:(x==("__classdict__":Str))=false:=by decide):PE X (.Name x pos) (bw8 i):=by
 intro pins s σ H Q I h;obtain ⟨v,e,h⟩:=h;obtain ⟨m,hn,hl⟩:=I.loc;obtain ⟨u,r,l⟩:=hl i x v hN e hv;have fin:EP X pins σ Q u s:=⟨v,H,I,r,h⟩
 rcases l with ⟨hk,hm⟩|⟨hk,c,hc,hcell⟩
 · exact wpAny_Name (wpAny_loadName_local I.ok.kind hk hn hm fin) hd
 · rcases hk with hk|hk
   · exact wpAny_Name (wpAny_loadName_cell I.ok.kind hk hc hcell fin) hd
   · exact wpAny_Name (wpAny_loadName_free I.ok.kind hk hc hcell fin hcd) hd
theorem i7 {i j pos}:PE X (.Constant (.int i) j pos) (tC (.int i)):=fun _ _ _ H _ I h=>wpAny_Constant_int ⟨.int i,H,I.tok _,⟨_,rfl⟩,h⟩
theorem D9 {b j pos}:PE X (.Constant (.bool b) j pos) (tC (.bl b)):=fun _ _ _ H _ I h=>Constant_bool ⟨.bl b,H,I,rfl,h⟩
theorem S0 {j pos}:PE X (.Constant .none j pos) (tC .non):=fun _ _ _ H _ I h=>Constant_none ⟨.non,H,I,rfl,h⟩
theorem be8 {x j pos}:PE X (.Constant (.str x) j pos) (tC (.str x)):=fun _ _ _ H _ I h=>Calls.Constant_str ⟨.str x,H,I.tok _,⟨_,rfl⟩,h⟩
def Gl (X:Cx)(x:Str):Prop:=X.env.kindOf x=some .globalImplicit
theorem W4 {E:Value->Shared->Prop}{pins:List (Addr×Obj)}{s:Shared}{σ:St}{H:Hp}{x:Str}{u:Value}{pos:Pos}{Q:Value->Shared->Prop}(I:g9 X pins σ H s)(hg:Gl X x)(hm:X.mg x=some u)(h:Q u s)
   (hd:(x==("__debug__":Str))=false:=by decide):wpAny (model X.prog X.w) X.A (eval (.Name x pos) X.env) Q E s:=
 Calls.Name_function_global I.ok.kind hg (Calls.loadGlobal_global (by rw[I.ok.glob];exact I.mod.glob.keeps I.bk) hm h) hd
theorem S1 {E:Value->Shared->Prop}{pins:List (Addr×Obj)}{s:Shared}{σ:St}{H:Hp}{x:Str}{u:Value}{pos:Pos}{Q:Value->Shared->Prop}(I:g9 X pins σ H s)(hg:Gl X x)(hm:X.mg x=none)(hv:bootBuiltins x=some u)(h:Q u s)
   (hn:x≠"__name__":=by decide) (hd:(x==("__debug__":Str))=false:=by decide):wpAny (model X.prog X.w) X.A (eval (.Name x pos) X.env) Q E s:=by
 obtain ⟨mb,h1,h2⟩:=I.mod.blt;exact Calls.Name_function_global I.ok.kind hg (Calls.loadGlobal_builtin (by rw[I.ok.glob];exact I.mod.glob.keeps I.bk) hm (by rw[I.ok.blt];exact h1.keeps I.bk) ((h2 x hn).trans hv) h) hd
theorem ay3 {x:Str}{v:V}{u:Value}{pos:Pos}(hg:Gl X x)(hm:X.mg x=some u)(r:l6 v u)(hd:(x==("__debug__":Str))=false:=by decide):PE X (.Name x pos) (tC v):=
 fun _ _ _ H _ I h=>W4 I hg hm ⟨v,H,I,r,h⟩ hd
theorem al1 {x:Str}{v:V}{u:Value}{pos:Pos}(hg:Gl X x)(hm:X.mg x=none)(hv:bootBuiltins x=some u)(r:l6 v u)(hn:x≠"__name__":=by decide)(hd:(x==("__debug__":Str))=false:=by decide):PE X (.Name x pos) (tC v):=
 fun _ _ _ H _ I h=>S1 I hg hm hv ⟨v,H,I,r,h⟩ hn hd
variable {a b:Expr} {ta tb:TE} {pos:Pos}
def PC (X:Cx)(op:CmpOp)(a b:Expr)(t:TE):Prop:=
 ∀(pins:List (Addr×Obj)) (s:Shared) (σ:St) (H:Hp) (Q:VK),g9 X pins σ H s->t σ H Q->
  wpAny (model X.prog X.w) X.A (eval a X.env) (fun v s₁=>wpAny (model X.prog X.w) X.A (eval b X.env) (fun u s₂=>wpAny (model X.prog X.w) X.A (compareOp op v u) (EP X pins σ Q) X.xe s₂) X.xe s₁) X.xe s
def tB (t:TE):TT:=fun σ H Q=>t σ H fun x H1=>∃c,x= .bl c/\Q c H1
theorem W5 {op:CmpOp}{t:TE}(h:PC X op a b t)(h1:behindInMarks op b=false:=by first|exact nobehind _ (by decide) (by decide)|rfl):PT X (.Compare a [op] [b] pos) (tB t):=by
 intro pins s σ H Q I hw;refine wpAny_isTrue_Compare1 (k7 (h pins s σ H _ I hw) fun v s1 h1=>k7 h1 fun u s2 h2=>k7 h2 fun c s3 ⟨x,H1,I1,r1,q1⟩=> ?_) h1;obtain ⟨d,rfl,q⟩:=q1;cases r1;exact wpAny_truthy_bool ⟨H1,I1,q⟩
theorem L8 {e:Expr}{t:TE}(h:PE X e t)(he:∀whole,isTrue e X.env whole=(do let v <-whole;standAt e.pos;holding [v] (truthy v)):=by intro _;rfl):PT X e (tB t):=by
 intro pins s σ H Q I hw;refine isTrue_plain (k7 (h pins s σ H _ I hw) fun v s1 ⟨x,H1,I1,r1,q1⟩=> ?_) (he _);obtain ⟨d,rfl,q⟩:=q1;cases r1;exact wpAny_truthy_bool ⟨H1,I1,q⟩
variable {tA tB':TT} {rest:List Expr}
def ce6 (t u:TT):TT:=fun σ H Q=>t σ H fun c H1=>if c=true then u σ H1 Q else Q false H1
def tOr (t u:TT):TT:=fun σ H Q=>t σ H fun c H1=>if c=true then Q true H1 else u σ H1 Q
def ce7 (t:TT):TT:=fun σ H Q=>t σ H fun c H1=>Q (!c) H1
theorem al2 (ha:PT X a tA):PW X (.BoolOp .And [a] pos) tA:=by
 intro wh pins s σ H Q I h;refine isTrue_and (k7 (ha pins s σ H Q I h) fun c s1 e=> ?_)
 cases c with
 |true=>exact isTrue_and_nil e
 |false=>exact e
theorem W6 (ha:PT X a tA):PW X (.BoolOp .Or [a] pos) tA:=by
 intro wh pins s σ H Q I h;refine isTrue_or (k7 (ha pins s σ H Q I h) fun c s1 e=> ?_)
 cases c with
 |false=>exact isTrue_or_nil e
 |true=>exact e
theorem ar4 (ha:PT X a tA)(hb:PW X (.BoolOp .And (b::rest) pos) tB'):PW X (.BoolOp .And (a::b::rest) pos) (ce6 tA tB'):=by
 intro wh pins s σ H Q I h;refine isTrue_and (k7 (ha pins s σ H _ I h) fun c s1 ⟨H1,I1,q1⟩=> ?_)
 cases c with
 |true=>exact hb wh pins s1 σ H1 Q I1 q1
 |false=>exact ⟨H1,I1,q1⟩
theorem L9 (ha:PT X a tA)(hb:PW X (.BoolOp .Or (b::rest) pos) tB'):PW X (.BoolOp .Or (a::b::rest) pos) (tOr tA tB'):=by
 intro wh pins s σ H Q I h;refine isTrue_or (k7 (ha pins s σ H _ I h) fun c s1 ⟨H1,I1,q1⟩=> ?_)
 cases c with
 |true=>exact ⟨H1,I1,q1⟩
 |false=>exact hb wh pins s1 σ H1 Q I1 q1
theorem O6 (ha:PT X a tA):PT X (.UnaryOp .Not a pos) (ce7 tA):=by
 intro pins s σ H Q I h;exact isTrue_not (ha pins s σ H (fun c H1=>Q (!c) H1) I h)
def cb2 (ta tb:TE):TE:=fun σ H Q=>ta σ H fun x H1=>∃c,x= .bl c/\if c=true then tb σ H1 Q else Q (.bl false) H1
def cb3 (ta:TE):TE:=fun σ H Q=>ta σ H fun x H1=>∃c,x= .bl c/\Q (.bl (!c)) H1
theorem bx0 {op}{t:TE}(h:PE X a t):PE X (.BoolOp op [a] pos) t:=fun pins s σ H Q I hw=>BoolOp_one (h pins s σ H Q I hw)
theorem bx1 (ha:PE X a ta)(hb:PE X (.BoolOp .And (b::rest) pos) tb):PE X (.BoolOp .And (a::b::rest) pos) (cb2 ta tb):=by
 intro pins s σ H Q I h;refine BoolOp_and (k7 (ha pins s σ H _ I h) fun v s1 ⟨x,H1,I1,r1,q1⟩=> ?_);obtain ⟨c,rfl,q1⟩:=q1;cases r1;refine wpAny_truthy_bool ?_
 cases c with
 |true=>exact hb pins s1 σ H1 Q I1 q1
 |false=>exact ⟨.bl false,H1,I1,rfl,q1⟩
theorem bx2 (ha:PE X a ta):PE X (.UnaryOp .Not a pos) (cb3 ta):=by
 intro pins s σ H Q I h;refine UnaryOp_ (k7 (ha pins s σ H _ I h) fun v s1 ⟨x,H1,I1,r1,q1⟩=> ?_);obtain ⟨c,rfl,q1⟩:=q1;cases r1;exact not_of (wpAny_truthy_bool ⟨.bl (!c),H1,I1,rfl,q1⟩)
end
end L2
namespace L2
open PySem PySem.Spec PyProof.Rows
def i4 (K:PySem.W.Frag)(H:Hp)(a:Addr)(xs:List V):Prop:=
 Rd H a (.lst xs)\/
   ∃(o:Obj) (its:Array Value) (n:Nat),K.lookup a=some o/\o.cls= .type "list"/\o.dict=none/\o.data= .seq its n/\its.size<=sizeLine/\j6 xs its.toList
def U5 (K:PySem.W.Frag)(H:Hp)(a:Addr)(xs:List V):Prop:=
 Rd H a (.tup xs)\/
   ∃(o:Obj) (its:Array Value) (n:Nat),K.lookup a=some o/\o.cls= .type "tuple"/\o.data= .seq its n/\its.size<=sizeLine/\j6 xs its.toList
def ce8:Value->Option V
 | .none=>some .non
 | .bool b=>some (.bl b)
 | .int i _=>some (.int i)
 | .str x _=>some (.str x)
 | .bytes b _=>some (.byt b)
 | .float b _=>some (.flt b)
 | .ref a=>some (.ref a)
 | .type n=>some (.ty n)
 |_=>none
theorem l6.abs {x:V}{u:Value}(r:l6 x u):ce8 u=some x:=by
 cases x with
 |non=>cases r;rfl
 |bl _=>cases r;rfl
 |int _=>obtain ⟨t,rfl⟩:=r;rfl
 |str _=>obtain ⟨t,rfl⟩:=r;rfl
 |byt _=>obtain ⟨t,rfl⟩:=r;rfl
 |flt _=>obtain ⟨t,rfl⟩:=r;rfl
 |ref _=>cases r;rfl
 |ty _=>cases r;rfl
theorem l6.inj {x y:V}{u:Value}(r:l6 x u)(q:l6 y u):x=y:=Option.some.inj (r.abs.symm.trans q.abs)
theorem j6.inj:∀{xs ys:List V} {us:List Value},j6 xs us->j6 ys us->xs=ys
 |_,_,_,.nil,.nil=>rfl
 |_,_,_,.cons r t,.cons r' t'=>by rw[r.inj r',j6.inj t t']
section
variable {X:Cx} {pins:List (Addr×Obj)} {σ:St} {H:Hp} {s:Shared} {a:Addr} {xs ys:List V}
theorem i4.of {K:PySem.W.Frag}(h:H a=some (.lst xs)):i4 K H a xs:= .inl (.inl h)
theorem U5.of {K:PySem.W.Frag}(h:H a=some (.tup xs)):U5 K H a xs:= .inl (.inl h)
theorem g9.list (I:g9 X pins σ H s)(h:i4 X.K H a xs):∃its:List Value,j6 xs its/\PlainL s.heap a its.toArray/\xs.length<=sizeLine:=by
 rcases h with h|⟨o,its,n,hk,hc,hd,hs,hz,r⟩
 · obtain ⟨z,its,n,r,e⟩:=h.ok I.hok;exact ⟨its,r,⟨_,n,e,rfl,rfl,rfl⟩,z⟩
 · refine ⟨its.toList,r,⟨o,n,I.kIn a o hk,hc,hd,by simpa using hs⟩,?_⟩;have e:=r.length;simp only[ck2] at e;omega
theorem g9.tuple (I:g9 X pins σ H s)(h:U5 X.K H a xs):∃its:List Value,j6 xs its/\IsTup s.heap a its.toArray/\xs.length<=sizeLine:=by
 rcases h with h|⟨o,its,n,hk,hc,hs,hz,r⟩
 · obtain ⟨z,its,r,p⟩:=h.ok I.hok;exact ⟨its,r,p,z⟩
 · refine ⟨its.toList,r,⟨o,I.kIn a o hk,hc,n,by simpa using hs⟩,?_⟩;have e:=r.length;simp only[ck2] at e;omega
theorem g9.list_inj (I:g9 X pins σ H s)(h:i4 X.K H a xs)(h':i4 X.K H a ys):xs=ys:=by
 obtain ⟨its,r,⟨o,n,e,_,_,d⟩,_⟩:=I.list h;obtain ⟨its',r',⟨o',n',e',_,_,d'⟩,_⟩:=I.list h';rw[e] at e';cases e';rw[d] at d'
 injection d' with d1 _
 have:its=its':=by simpa using congrArg cn1 d1
 subst this;exact r.inj r'
end
abbrev Cx.wish (X:Cx)(E:Value->Shared->Prop):Cx:={X with xe:=E}
abbrev Cx.nox (X:Cx):Cx:=X.wish fun _ _=>False
theorem Cx.Ok.wish {X:Cx}(ok:X.Ok)(E:Value->Shared->Prop):(X.wish E).Ok:=
 ⟨ok.mod,ok.kind,ok.glob,ok.blt,ok.above,ok.inj,ok.has,ok.cab,ok.hd,ok.frames,ok.stk,ok.exf,ok.bs,ok.bsz,ok.noex,ok.exfs,ok.funs,ok.frf⟩
theorem Cx.Ok.unwish {X:Cx}{E:Value->Shared->Prop}(ok:(X.wish E).Ok):X.Ok:=
 ⟨ok.mod,ok.kind,ok.glob,ok.blt,ok.above,ok.inj,ok.has,ok.cab,ok.hd,ok.frames,ok.stk,ok.exf,ok.bs,ok.bsz,ok.noex,ok.exfs,ok.funs,ok.frf⟩
section
variable {X:Cx} {pins:List (Addr×Obj)} {σ:St} {H:Hp} {s:Shared} {E:Value->Shared->Prop}
theorem g9.wish (I:g9 X pins σ H s)(E:Value->Shared->Prop):g9 (X.wish E) pins σ H s:=⟨I.ok.wish E,I.os,I.bare,I.base,I.loc,I.cell,I.free,I.freeC,I.pin,I.hok,I.len⟩
theorem g9.unwish (I:g9 (X.wish E) pins σ H s):g9 X pins σ H s:=⟨I.ok.unwish,I.os,I.bare,I.base,I.loc,I.cell,I.free,I.freeC,I.pin,I.hok,I.len⟩
theorem SP.unwish {D:M8}{f:Flow}{s':Shared}(h:SP (X.wish E) pins D f s'):SP X pins D f s':=by
 cases f with
 |next=>obtain ⟨σ',H',I,q⟩:=h;exact ⟨σ',H',I.unwish,q⟩
 |brk=>obtain ⟨σ',H',I,q⟩:=h;exact ⟨σ',H',I.unwish,q⟩
 |cont=>obtain ⟨σ',H',I,q⟩:=h;exact ⟨σ',H',I.unwish,q⟩
 |ret u=>obtain ⟨v,σ',H',I,r,q⟩:=h;exact ⟨v,σ',H',I.unwish,r,q⟩
theorem Q3.nox {st:List Stmt}{t:TS}(h:Q3 X.nox st t):Q3 X st t:=fun pins s σ H D I hw=>
 wpAny_mono (h pins s σ H D (I.wish _) hw) (fun _ _ q=>q.unwish) fun _ _ z=>False.elim z
end
section
variable {X:Cx} {st:Stmt} {rest:List Stmt} {t u:TS} {e:Expr} {te:TE} {pos:Pos}
def cb4:TS:=fun D σ H=>D.nx σ H
def ce9 (t u:TS):TS:=fun D σ H=>t {D with nx:=u D} σ H
theorem q9:Q3 X [] cb4:=fun _ _ σ H _ I h=>wpAny_execs_nil ⟨σ,H,I,h⟩
theorem g6 (h1:PS X st t)(h2:Q3 X rest u):Q3 X (st::rest) (ce9 t u):=by
 intro pins s σ H D I h;refine wpAny_execs_cons (k7 (h1 pins s σ H {D with nx:=u D} I h) fun f s1 q=> ?_)
 cases f with
 |next=>
  obtain ⟨σ',H',I',q⟩:=q;exact h2 pins s1 σ' H' D I' q
 |ret v=>exact q
 |brk=>exact q
 |cont=>exact q
theorem i6 (h1:PS X st t):Q3 X [st] t:=by
 intro pins s σ H D I h;refine wpAny_execs_cons (k7 (h1 pins s σ H D I h) fun f s1 q=> ?_)
 cases f with
 |next=>exact wpAny_execs_nil q
 |ret v=>exact q
 |brk=>exact q
 |cont=>exact q
theorem g9.quiet {pins:List (Addr×Obj)}{σ:St}{H:Hp}{s:Shared}(I:g9 X pins σ H s):interactive X.env=false:=by simp [interactive,I.ok.kind]
def cb5 (te:TE):TS:=fun D σ H=>te σ H fun _ H1=>D.nx σ H1
theorem B6 (he:PE X e te)(hs:swapsWith e none pos.line X.env=pure false:=by rfl):PS X (.Expr e pos) (cb5 te):=by
 intro pins s σ H D I h;exact wpAny_Expr_any (k7 (he pins s σ H _ I h) fun v s1 ⟨x,H1,I1,r1,q1⟩=>⟨σ,H1,I1,q1⟩) I.quiet hs
def cf0 (te:TE):TS:=fun D σ H=>te σ H D.rt
theorem m7 (he:PE X e te):PS X (.Return (some e) pos) (cf0 te):=by
 intro pins s σ H D I h;exact wpAny_Return_some (k7 (he pins s σ H _ I h) fun v s1 ⟨x,H1,I1,r1,q1⟩=>⟨x,σ,H1,I1,r1,q1⟩)
def cf1 (c:TT)(t u:TS):TS:=fun D σ H=>c σ H fun b H1=>if b=true then t D σ H1 else u D σ H1
theorem C5 {c:Expr}{a b:List Stmt}{tc:TT}(hc:PT X c tc)(ha:Q3 X a t)(hb:Q3 X b u):PS X (.If c a b pos) (cf1 tc t u):=by
 intro pins s σ H D I h;refine wpAny_If (k7 (hc pins s σ H _ I h) fun d s1 ⟨H1,I1,q1⟩=> ?_)
 cases d with
 |true=>exact ha pins s1 σ H1 D I1 q1
 |false=>exact hb pins s1 σ H1 D I1 q1
def be9:TS:=fun _ _ _=>False
theorem ar5:PS X st be9:=fun _ _ _ _ _ _ h=>h.elim
theorem ao0 {sts:List Stmt}:Q3 X sts be9:=fun _ _ _ _ _ _ h=>h.elim
end
abbrev TG:=V->St->Hp->(St->Hp->Prop)->Prop
abbrev TGs:=List V->St->Hp->(St->Hp->Prop)->Prop
def PG (X:Cx)(target:Expr)(t:TG):Prop:=
 ∀(pins:List (Addr×Obj)) (s:Shared) (σ:St) (H:Hp) (v:V) (u:Value) (Q:St->Hp->Prop),g9 X pins σ H s->l6 v u->t v σ H Q->
  wpAny (model X.prog X.w) X.A (assign target X.env u) (fun _ s'=>∃σ' H',g9 X pins σ' H' s'/\Q σ' H') X.xe s
def PGs (X:Cx)(ts:List Expr)(t:TGs):Prop:=
 ∀(pins:List (Addr×Obj)) (s:Shared) (σ:St) (H:Hp) (vs:List V) (us:List Value) (Q:St->Hp->Prop),g9 X pins σ H s->j6 vs us->t vs σ H Q->
  wpAny (model X.prog X.w) X.A (assignInOrder ((assignEach ts X.env).map (·.2)) us) (fun _ s'=>∃σ' H',g9 X pins σ' H' s'/\Q σ' H') X.xe s
abbrev bl6:=V->V->V->Hp->(Hp->Prop)->Prop
def bx3 (X:Cx)(t:bl6):Prop:=
 ∀(pins:List (Addr×Obj)) (s:Shared) (σ:St) (H:Hp) (o i v:V) (ov iv u:Value) (Q:Hp->Prop),g9 X pins σ H s->l6 o ov->l6 i iv->l6 v u->t o i v H Q->
  wpAny (model X.prog X.w) X.A (setItem ov iv u) (fun _ s'=>∃H',g9 X pins σ H' s'/\Q H') X.xe s
section
variable {X:Cx} {pos:Pos}
def bb3 (i:Nat):TG:=fun v σ H Q=>Q (σ.set i (some v)) H
theorem n4 {i:Nat}{x:Str}(hN:X.N.Nodup)(hi:X.N[i]? =some x)(hx:Loc X.env.scope x)(hf:X.fn x=true\/X.env.scope.names.lookup x=some .local:=by first|exact .inl rfl|exact .inr rfl|assumption):PG X (.Name x pos) (bb3 i):=by
 intro pins s σ H v u Q I r h;exact wpAny_assign_Name (ag5 I hN hi hx r (fun s' I'=>⟨_,H,I',h⟩) hf)
def cf2:TGs:=fun vs σ H Q=>vs=[]/\Q σ H
def cb6 (t:TG)(u:TGs):TGs:=fun vs σ H Q=>∃v r,vs=v::r/\t v σ H fun σ' H'=>u r σ' H' Q
theorem W7:PGs X [] cf2:=by
 intro pins s σ H vs us Q I r h;obtain ⟨e,h⟩:=h;subst e;cases r;exact assignInOrder_nil ⟨σ,H,I,h⟩
theorem E3 {e:Expr}{es:List Expr}{t:TG}{u:TGs}(h1:PG X e t)(h2:PGs X es u)
   (hs:(assignEach (e::es) X.env).map (·.2)=assign e X.env::(assignEach es X.env).map (·.2):=by rfl):PGs X (e::es) (cb6 t u):=by
 intro pins s σ H vs us Q I r h;obtain ⟨v,vr,e1,h⟩:=h;subst e1
 cases r with
 |cons r rr=>
  rw[hs];refine assignInOrder_cons (k7 (h1 pins s σ H _ _ _ I r h) fun _ s1 ⟨σ1,H1,I1,q1⟩=> ?_);exact h2 pins s1 σ1 H1 _ _ Q I1 rr q1
def cf3 (K:PySem.W.Frag)(n:Nat)(t:TGs):TG:=fun v σ H Q=>∃a xs,v= .ref a/\U5 K H a xs/\xs.length=n/\t xs σ H Q
theorem aa8 {es:List Expr}{k:Nat}{t:TGs}{n:Nat}(hc:X.calm=true)(h:PGs X es t)
   (hn:(assignEach es X.env).length=n:=by rfl) (hst:(assignEach es X.env).findIdx? (·.1)=none:=by rfl):PG X (.Tuple es k pos) (cf3 X.K n t):=by
 intro pins s σ H v u Q I r hw;obtain ⟨a,xs,e1,hq,hl,hw⟩:=hw;subst e1;cases r;obtain ⟨its,rv,ht,hz⟩:=I.tuple hq
 refine assign_Tuple_tuple (I.ok.hd hc) ht (by simp [hn,<-hl,rv.length]) hst fun h' hx=> ?_
 have I1:g9 X pins σ H {s with heap:=h'}:=I.kept (t':=s.toks) fun b o e=>hx b o (cl2 (Heap.lt_size e)) e
 exact h pins _ σ H xs _ Q I1 (by simpa using rv) hw
def cf4 (to ti:TE)(t:bl6):TG:=fun v σ H Q=>to σ H fun o H1=>ti σ H1 fun i H2=>t o i v H2 fun H3=>Q σ H3
theorem W8 {o i:Expr}{to ti:TE}{t:bl6}(ho:PE X o to)(hi:PE X i ti)(hs:bx3 X t)
   (ha:∀v,assign (.Subscript o i pos) X.env v=(do
     let ov <-holding [v] (eval o X.env)
     let iv <-holding [v,ov] (eval i X.env)
     standAt pos
     holding [v,ov,iv] (setItem ov iv v)
     release [v,ov,iv] []):=by intro _;rfl):PG X (.Subscript o i pos) (cf4 to ti t):=by
 intro pins s σ H v u Q I r h;rw[ha];refine wpAny_bind (wpAny_holding (k7 (ho pins s σ H _ I h) fun ov s1 ⟨x,H1,I1,r1,q1⟩=> ?_));refine wpAny_bind (wpAny_holding (k7 (hi pins s1 σ H1 _ I1 q1) fun iv s2 ⟨y,H2,I2,r2,q2⟩=> ?_));refine wpAny_bind (wpAny_standAt (wpAny_bind (wpAny_holding (k7 (hs pins s2 σ H2 x y v ov iv u _ I2 r1 r2 r q2) fun _ s3 ⟨H3,I3,q3⟩=> ?_))));exact wpAny_release ⟨σ,H3,I3,q3⟩
def bl7 (te:TE)(g:TG):TS:=fun D σ H=>te σ H fun x H1=>g x σ H1 D.nx
theorem W9 {tg e:Expr}{te:TE}{g:TG}(he:PE X e te)(hg:PG X tg g)(hs:swapsWithSole [tg] e pos.line X.env=pure false:=by rfl)(hw:swappedStores [tg] e X.env=pure none:=by rfl)
   (h1:(assignEach [tg] X.env).map (·.2)=[assign tg X.env]:=by rfl):PS X (.Assign [tg] e pos) (bl7 te g):=by
 intro pins s σ H D I h;refine wpAny_Assign_stores (k7 (he pins s σ H _ I h) fun v s1 ⟨x,H1,I1,r1,q1⟩=> ?_) hs hw;rw[h1]
 exact k7 (hg pins s1 σ H1 x v _ I1 r1 q1) fun _ s2 q=>q
theorem i8 {i:Nat}{x:Str}{e:Expr}{te:TE}{pos':Pos}(hN:X.N.Nodup)(hi:X.N[i]? =some x)(hx:Loc X.env.scope x)(he:PE X e te)(hs:swapsWith e (some (.Name x pos')) pos.line X.env=pure false:=by rfl)(hf:X.fn x=true\/X.env.scope.names.lookup x=some .local:=by first|exact .inl rfl|exact .inr rfl|assumption):
   PS X (.Assign [.Name x pos'] e pos) (bl7 te (bb3 i)):=by
 intro pins s σ H D I h;refine wpAny_Assign_Name (k7 (he pins s σ H _ I h) fun v s1 ⟨y,H1,I1,r1,q1⟩=> ?_) hs;exact ag5 I1 hN hi hx r1 (fun s2 I2=>⟨_,H1,I2,q1⟩) hf
end
section
variable {X:Cx} {pos:Pos}
def bf0 (c:TT)(tb:TS):TS:=fun D σ H=>∃W:Nat->St->Hp->Prop,(∃m,W m σ H)/\∀m σ H,W m σ H->
 c σ H fun b H1=>if b=true then ∃N:St->Hp->Prop,(∀σ' H',N σ' H'->∃m',m' < m/\W m' σ' H')/\tb {D with nx:=N,ct:=N,bk:=D.nx} σ H1 else D.nx σ H1
theorem S2 {c:Expr}{body:List Stmt}{tc:TT}{tb:TS}(hp:PassesOwn (model X.prog X.w) X.A X.env X.xe)(hc:PT X c tc)(hb:Q3 X body tb):PS X (.While c body [] pos) (bf0 tc tb):=by
 intro pins s σ H D I h;obtain ⟨W,⟨m0,w0⟩,turn⟩:=h;refine wpAny_While (codeAny_whileLoop (fun n s'=>∃σ' H',g9 X pins σ' H' s'/\W n σ' H') ?_ m0 ⟨σ,H,I,w0⟩);rintro n s1 ⟨σ1,H1,I1,w1⟩;refine wpAny_passesOwn hp (k7 (hc pins s1 σ1 H1 _ I1 (turn n σ1 H1 w1)) fun b s2 ⟨H2,I2,q2⟩=> ?_)
 cases b with
 |true=>
  obtain ⟨N,hN,q2⟩:=q2;rw[if_pos rfl];refine wpAny_passesOwn hp (k7 (hb pins s2 σ1 H2 _ I2 q2) fun f s3 q3=> ?_)
  cases f with
  |next=>
   obtain ⟨σ3,H3,I3,n3⟩:=q3;obtain ⟨m',hm,w3⟩:=hN σ3 H3 n3;exact ⟨m',hm,σ3,H3,I3,w3⟩
  |cont=>
   obtain ⟨σ3,H3,I3,n3⟩:=q3;obtain ⟨m',hm,w3⟩:=hN σ3 H3 n3;exact ⟨m',hm,σ3,H3,I3,w3⟩
  |brk=>exact q3
  |ret v=>exact q3
 |false=>
  rw[if_neg ck1];exact wpAny_execs_nil ⟨σ1,H2,I2,q2⟩
end
structure It where
 go:Nat->Hp->Prop
 yld:Nat->Hp->V->Hp->Prop
 stop:Nat->Hp->Prop
def aa9 (X:Cx)(pins:List (Addr×Obj))(H:Hp)(b:Addr):Prop:=
 H b=none/\b≠X.env.locals/\b∉X.fs/\(b∈X.ex\/X.s₀.heap.objs.size<=b)/\(∀x c,X.env.cells.lookup x=some c->c≠b)/\∀p∈X.pn++pins,p.1≠b
theorem g9.fpOk {X:Cx}{pins:List (Addr×Obj)}{σ:St}{H H':Hp}{s:Shared}{b:Addr}(I:g9 X pins σ H s)(hb:s.heap.objs.size<=b)(hn:H' b=none):aa9 X pins H' b:=by
 refine ⟨hn,Nat.ne_of_gt (cl5 I.lt hb),I.nofs hb,.inr (cl9 I.sz hb),fun x c e z=> ?_,fun p hp z=> ?_⟩
 · obtain ⟨v,q⟩:=I.cell x c e;exact absurd (cl5 q.lt (by rw[z];exact hb)) (cp5 _)
 · exact absurd (cl5 (Heap.lt_size (I.pin p hp).1) (by rw[z];exact hb)) (cp5 _)
structure al3 (P:Program)(w:World)(K:PySem.W.Frag)(tg:Expr)(J:It)(fp:List Addr)(it:Addr)(tn:Nat->Heap->Prop):Prop where
 mem:it∈fp
 obj:∀i h,tn i h->∀b∈fp,∃o,h.get? b=some o/\∀v,o.data≠.cell v
 keep:∀i h h',tn i h->(∀b∈fp,∀o,h.get? b=some o->h'.get? b=some o)->tn i h'
 item:∀(X:Cx),X.prog=P->X.w=w->X.K=K->X.calm=true->∀(i:Nat) (pins:List (Addr×Obj)) (s:Shared) (σ:St) (H:Hp) (E:Value->Shared->Prop),g9 X pins σ H s->(∀b∈fp,aa9 X pins H b)->tn i s.heap->J.go i H->
   wpAny (model P w) X.A (pyNext (.ref it)) (fun r s1=>∃u,r=some u/\
     wpAny (model P w) X.A (letOwnedTupleGo tg (.ref it) u) (fun _ s2=>∃x H',g9 X pins σ H' s2/\l6 x u/\J.yld i H x H'/\tn (i+1) s2.heap/\∀b∈fp,H' b=none) E s1) E s
 done:∀(X:Cx),X.prog=P->X.w=w->X.K=K->X.calm=true->∀(i:Nat) (pins:List (Addr×Obj)) (s:Shared) (σ:St) (H:Hp) (E:Value->Shared->Prop),g9 X pins σ H s->(∀b∈fp,aa9 X pins H b)->tn i s.heap->J.stop i H->
   wpAny (model P w) X.A (pyNext (.ref it)) (fun r s1=>r=none/\g9 X pins σ H s1) E s
 self:∀(A:Around) (i:Nat) (s:Shared) (Q:Value->Shared->Prop) (E:Value->Shared->Prop),tn i s.heap->Q (.ref it) s->wpAny (model P w) A (pyIter (.ref it)) Q E s
abbrev TI:=St->Hp->(It->Hp->Prop)->Prop
def PIE (X:Cx)(pins:List (Addr×Obj))(σ:St)(tg:Expr)(R:It->Hp->Prop)(itv:Value)(s2:Shared):Prop:=
 ∃(it:Addr) (fp:List Addr) (tn:Nat->Heap->Prop) (J:It) (H':Hp),itv= .ref it/\g9 X pins σ H' s2/\al3 X.prog X.w X.K tg J fp it tn/\tn 0 s2.heap/\(∀b∈fp,aa9 X pins H' b)/\R J H'
def PI (X:Cx)(tg iter:Expr)(wi:TI):Prop:=
 ∀(pins:List (Addr×Obj)) (s:Shared) (σ:St) (H:Hp) (R:It->Hp->Prop),g9 X pins σ H s->wi σ H R->
  wpAny (model X.prog X.w) X.A (eval iter X.env) (fun v s1=>wpAny (model X.prog X.w) X.A (pyIter v) (PIE X pins σ tg R) X.xe s1) X.xe s
theorem bb4 {M:Model}{A:Around}{E:Value->Shared->Prop}{s:Shared}{tg:Expr}{it:Addr}{u:Value}{o:Obj}{n:String}{vs:Array Value}{Q:Unit->Shared->Prop}(ho:s.heap.get? it=some o)(hc:o.cls= .type n)(hd:o.data= .fields vs)
   (hn:["enumerate","zip","dict_itemiterator","dict_reverseitemiterator","odict_iterator","itertools.zip_longest","itertools.pairwise"].contains n=false) (hQ:Q () s):wpAny M A (letOwnedTupleGo tg (.ref it) u) Q E s:=by
 unfold letOwnedTupleGo
 cases tg<;>first
   |exact wpAny_pure hQ
   |(cases u<;>first
       |exact wpAny_pure hQ
       |(refine wpAny_bind (wpAny_load ho ?_)
         rw[hc,hd];show wpAny M A (if (["enumerate","zip","dict_itemiterator","dict_reverseitemiterator","odict_iterator","itertools.zip_longest","itertools.pairwise"].contains n&&vs[0]? ==some (rawInt _))=true then _ else _) Q E s;rw[if_neg (by intro h;rw[hn,Bool.false_and] at h;cases h)]
         exact wpAny_pure hQ))
def Itl (K:PySem.W.Frag)(a:Addr):It:=
 ⟨fun i H=>∃xs x,i4 K H a xs/\xs[i]? =some x,fun i H x H'=>H'=H/\∀xs,i4 K H a xs->xs[i]? =some x,fun i H=>∃xs,i4 K H a xs/\xs.length<=i⟩
def Itr (lo:Int)(n:Nat):It:=⟨fun i _=>i < n,fun i H x H'=>H'=H/\x= .int (lo+i),fun i _=>n<=i⟩
theorem bf1 {P:Program}{w:World}{K:PySem.W.Frag}{tg:Expr}(a it:Addr):al3 P w K tg (Itl K a) [it] it (fun i h=>h.IsListIter it a i) where
 mem:=by simp
 obj:=fun i h st b hb=>by
   have e:b=it:=by simpa using hb
   subst e;obtain ⟨o,e,c,d⟩:=st;exact ⟨o,e,fun v z=>by rw[d] at z;cases z⟩
 keep:=fun i h h' st k=>st.at fun o e=>k it (by simp) o e
 item:=by
   intro X hP hw hK hc i pins s σ H E I hf st hg;subst hP hw hK;obtain ⟨xs,x,hq,hx⟩:=hg;obtain ⟨its,rv,p,hz⟩:=I.list hq;obtain ⟨u,hu,ru⟩:=rv.get hx;obtain ⟨f0,f1,f2,f3,f4,f5⟩:=hf it (by simp)
   refine wpAny_pyNext_list_item st p.isList (x:=u) (by simpa using hu) fun h' st' sb=> ?_
   have I1:g9 X pins σ H {s with heap:=h'}:=I.turned (t':=s.toks) (fun b o hb e=>(sb.2 b hb).trans e) f0 f1 f3 f4 f5;obtain ⟨o,e,c,d⟩:=id st';exact ⟨u,rfl,bb4 (s:={s with heap:=h'}) e c d (by decide) ⟨x,H,I1,ru,⟨rfl,fun ys hy=>by rw[I.list_inj hy hq];exact hx⟩,st',fun b hb=>(hf b hb).1⟩⟩
 done:=by
   intro X hP hw hK hc i pins s σ H E I hf st hg;subst hP hw hK;obtain ⟨xs,hq,hx⟩:=hg;obtain ⟨its,rv,p,hz⟩:=I.list hq;obtain ⟨f0,f1,f2,f3,f4,f5⟩:=hf it (by simp);have hl:=rv.length
   exact wpAny_pyNext_list_end (I.ok.hd hc) st p.isList (by simp;omega) fun h' eb=>⟨rfl,I.turned (t':=s.toks) (fun b o hb e=>eb b o hb e) f0 f1 f3 f4 f5⟩
 self:=fun _ _ _ _ _ st h=>wpAny_pyIter_listiter st h
theorem bb5 {P:Program}{w:World}{K:PySem.W.Frag}{tg:Expr}(it:Addr)(lo:Int)(n:Nat):al3 P w K tg (Itr lo n) [it] it (fun i h=>IsRangeIter h it (lo+(i:Nat)*1) ((n:Int) - (i:Nat)) 1) where
 mem:=by simp
 obj:=fun i h st b hb=>by
   have e:b=it:=by simpa using hb
   subst e
   exact ⟨_,st,fun v z=>by
     have z':Data.fields _=Data.cell v:=z
     cases z'⟩
 keep:=fun i h h' st k=>k it (by simp) _ st
 item:=by
   intro X hP hw hK hc i pins s σ H E I hf st hg;subst hP hw hK;obtain ⟨f0,f1,f2,f3,f4,f5⟩:=hf it (by simp);have W:=Walks.range (prog:=X.prog) (w:=X.w) (I.ok.hd hc) it lo 1 n
   refine W.item i s _ _ hg st fun v h' tk hv st' kk=> ?_
   obtain ⟨t,rfl⟩:=hv;have I1:g9 X pins σ H {s with heap:=h',toks:=tk}:=I.turned (fun b o hb e=>kk b o (by simpa using hb) e) f0 f1 f3 f4 f5;refine ⟨_,rfl,bb4 (s:={s with heap:=h',toks:=tk}) (n:="range_iterator") st' rfl rfl (by decide) ⟨.int (lo+i),H,I1,⟨t,?_⟩,⟨rfl,rfl⟩,st',fun b hb=>(hf b hb).1⟩⟩;rw[Int.mul_one]
 done:=by
   intro X hP hw hK hc i pins s σ H E I hf st hg;subst hP hw hK;obtain ⟨f0,f1,f2,f3,f4,f5⟩:=hf it (by simp)
   exact wpAny_pyNext_range_end (I.ok.hd hc) st (by have:n<=i:=hg;omega) fun h' eb=>⟨rfl,I.turned (t':=s.toks) (fun b o hb e=>eb b o hb e) f0 f1 f3 f4 f5⟩
 self:=fun _ _ _ _ _ st h=>wpAny_pyIter_rangeiter st h
end L2
namespace L2
open PySem PySem.Spec PyProof.Rows
section
variable {X:Cx} {tg:Expr}
def cb7 (K:PySem.W.Frag)(tl:TE):TI:=fun σ H R=>tl σ H fun x H1=>∃a,x= .ref a/\(∃xs,i4 K H1 a xs)/\R (Itl K a) H1
theorem K9 {l:Expr}{tl:TE}(hl:PE X l tl):PI X tg l (cb7 X.K tl):=by
 intro pins s σ H R I h
 refine k7 (hl pins s σ H _ I h) fun v s1 ⟨x,H1,I1,r1,q1⟩=> ?_
 obtain ⟨a,e,⟨xs,hq⟩,q⟩:=q1;subst e;cases r1;obtain ⟨its,rv,p,hz⟩:=I1.list hq;refine wpAny_pyIter_list p.isList ?_;refine ⟨s1.heap.objs.size,[s1.heap.objs.size],_,_,H1,rfl,I1.kept (t':=s1.toks) fun b o e=>Heap.get?_push_of_some _ e,bf1 a _,⟨_,Heap.get?_push_size _ rfl,rfl,rfl⟩,fun b hb=> ?_,q⟩
 have e:b=s1.heap.objs.size:=by simpa using hb
 subst e;exact I1.fpOk (cj1 _) (I1.hok.fresh (cj1 _))
theorem bl8 {pins:List (Addr×Obj)}{σ:St}{H:Hp}{s:Shared}{R:It->Hp->Prop}{E:Value->Shared->Prop}{lo hi:Int}{t u v:Tok}{tk:Nat}(I:g9 X pins σ H s)(h1: -(2^62)<=lo)(h2:lo < 2^62)(h3: -(2^62)<=hi)(h4:hi < 2^62)
   (q:R (Itr lo (hi - lo).toNat) H):wpAny (model X.prog X.w) X.A (pyIter (.ref s.heap.objs.size)) (PIE X pins σ tg R) E {s with heap:=s.heap.push {cls:= .type "range",data:= .fields #[.int lo t,.int hi u,.int 1 v]},toks:=tk}:=by
 refine wpAny_pyIter_range (IsRange.new ..) (small_one h1 h2 h3 h4) ?_
 have I1:g9 X pins σ H {s with heap:=s.heap.push {cls:= .type "range",data:= .fields #[.int lo t,.int hi u,.int 1 v]},toks:=tk}:=I.kept fun b o e=>Heap.get?_push_of_some _ e
 refine ⟨(s.heap.push {cls:= .type "range",data:= .fields #[.int lo t,.int hi u,.int 1 v]}).objs.size,[(s.heap.push {cls:= .type "range",data:= .fields #[.int lo t,.int hi u,.int 1 v]}).objs.size],_,_,H,rfl,
   I1.kept (t':=tk) fun b o e=>Heap.get?_push_of_some _ e,bb5 _ lo (hi - lo).toNat,?_,fun b hb=> ?_,q⟩
 · have e1:lo+((0:Nat):Int)*1=lo:=by simp
   have e2:(((hi - lo).toNat:Nat):Int) - ((0:Nat):Int)=Builtin.Range.rangeSize lo hi 1:=by rw[rangeSize_one];split<;>omega
   show IsRangeIter _ _ (lo+((0:Nat):Int)*1) ((((hi - lo).toNat:Nat):Int) - ((0:Nat):Int)) 1;rw[e1,e2];exact Heap.get?_push_size _ rfl
 · have e:b=(s.heap.push {cls:= .type "range",data:= .fields #[.int lo t,.int hi u,.int 1 v]}).objs.size:=by simpa using hb
   subst e;exact I1.fpOk (cj1 _) (I1.hok.fresh (cj1 _))
def cb8 (ta:TA):TI:=fun σ H R=>ta σ H fun vs H1=>∃j:Int,vs=[.int j]/\ -(2^62)<=j/\j < 2^62/\R (Itr 0 j.toNat) H1
theorem E2 {a:Expr}{ta:TA}{p pos:Pos}(hg:Gl X "range")(hm:X.mg "range"=none)(ha:PA X [a] ta)(hs:starEach [a] X.env=[(false,eval a X.env)]:=by rfl):PI X tg (.Call (.Name "range" p) [a] [] pos) (cb8 ta):=by
 intro pins s σ H R I h;refine Call_ (S1 I hg hm boot_range (PyProof.Rows.callWith_type1 (k7 (ha pos pins s σ H _ I h) fun us s1 ⟨vs,H1,I1,r1,q1⟩=> ?_) hs rfl));obtain ⟨j,e,q1,q2,q⟩:=q1;subst e
 cases r1 with
 |cons r rr=>
  cases rr;obtain ⟨t,rfl⟩:=r;exact call_range_1 (bl8 I1 (by omega) (by omega) q1 q2 (by simpa using q))
def cf5 (wi:TI)(g:TG)(tb:TS):TS:=fun D σ H=>wi σ H fun J H1=>∃W:Nat->Nat->St->Hp->Prop,(∃m,W 0 m σ H1)/\∀i m σ H,W i m σ H->
 (J.stop i H/\D.nx σ H)\/(J.go i H/\∃N:St->Hp->Prop,(∀σ' H',N σ' H'->∃m',m' < m/\W (i+1) m' σ' H')/\∀x H',J.yld i H x H'->g x σ H' fun σ2 H2=>tb {D with nx:=N,ct:=N,bk:=D.nx} σ2 H2)
def S3 (fp:List Addr)(h:Heap):List (Addr×Obj):=fp.filterMap fun b=>(h.get? b).map fun o=>(b,o)
theorem Q6 {fp:List Addr}{h:Heap}{b:Addr}{o:Obj}(hb:b∈fp)(e:h.get? b=some o):(b,o)∈S3 fp h:=cw2.mpr ⟨b,hb,by rw[e];rfl⟩
theorem ao1 {fp:List Addr}{h:Heap}{p:Addr×Obj}(hp:p∈S3 fp h):p.1∈fp/\h.get? p.1=some p.2:=by
 obtain ⟨b,hb,e⟩:=cw2.mp hp
 cases q:h.get? b with
 |none=>rw[q] at e;cases e
 |some o=>
  rw[q] at e;have e':(b,o)=p:=Option.some.inj e;subst e';exact ⟨hb,q⟩
theorem g9.pinned {pins:List (Addr×Obj)}{σ:St}{H:Hp}{s:Shared}{fp:List Addr}(I:g9 X pins σ H s)(hf:∀b∈fp,aa9 X pins H b)(ho:∀b∈fp,∃o,s.heap.get? b=some o/\∀v,o.data≠.cell v):g9 X (pins++S3 fp s.heap) σ H s:=
 I.pins_of fun p hp=>(ck7.mp hp).elim (fun z=>I.pin p (ck0 _ z)) fun z=>by
   obtain ⟨hb,e⟩:=ao1 z;obtain ⟨f0,f1,f2,_⟩:=hf p.1 hb;obtain ⟨o,e',d⟩:=ho p.1 hb;rw[e] at e';cases e';exact ⟨e,f0,f1,f2,d⟩
theorem g9.unpinned {pins pl:List (Addr×Obj)}{σ:St}{H:Hp}{s:Shared}(I:g9 X (pins++pl) σ H s):g9 X pins σ H s:=I.pins_of fun p hp=>I.pin p (ck0 _ (cn7 _ hp))
theorem C1 {iter:Expr}{body:List Stmt}{wi:TI}{g:TG}{tb:TS}{pos:Pos}(hp:PassesOwn (model X.prog X.w) X.A X.env X.xe)(hc:X.calm=true)(hi:PI X tg iter wi)(hg:PG X tg g)(hb:Q3 X body tb)
   (hs:∀x,foldedSetIterable iter X.env x=pure x:=by intro _;rfl):PS X (.For tg iter body [] pos) (cf5 wi g tb):=by
 intro pins s σ H D I h;refine wpAny_For (k7 (hi pins s σ H _ I h) fun v s1 h1=>k7 h1 fun itv s2 h2=> ?_) hs;obtain ⟨it,fp,tn,J,H2,e,I2,T,st2,f2,W,⟨m0,w0⟩,turn⟩:=h2;subst e
 have stat:∀{H':Hp},(∀b∈fp,H' b=none)->∀b∈fp,aa9 X pins H' b:=fun hn b hb=>⟨hn b hb,(f2 b hb).2⟩
 refine codeAny_forLoop_any (fun n s'=>∃i σ' H',g9 X pins σ' H' s'/\tn i s'.heap/\(∀b∈fp,H' b=none)/\W i n σ' H') ?_ m0 ⟨0,σ,H2,I2,st2,fun b hb=>(f2 b hb).1,w0⟩;rintro n s3 ⟨i,σ3,H3,I3,st3,fr3,w3⟩
 rcases turn i n σ3 H3 w3 with ⟨stop,qn⟩|⟨go,N,hN,step⟩
 · refine wpAny_passesOwn hp (k7 (T.done X rfl rfl rfl hc i pins s3 σ3 H3 X.xe I3 (stat fr3) st3 stop) fun r s4 ⟨hr,I4⟩=> ?_);subst hr;exact wpAny_execs_nil ⟨σ3,H3,I4,qn⟩
 · refine wpAny_passesOwn hp (k7 (T.item X rfl rfl rfl hc i pins s3 σ3 H3 X.xe I3 (stat fr3) st3 go) fun r s4 ⟨u,hr,h4⟩=> ?_);subst hr;refine wpAny_passesOwn hp (k7 h4 fun _ s5 ⟨x,H5,I5,r5,y5,st5,fr5⟩=> ?_);have I5':=I5.pinned (stat fr5) (T.obj _ _ st5);refine wpAny_passesOwn hp (k7 (hg _ s5 σ3 H5 x u _ I5' r5 (step x H5 y5)) fun _ s6 ⟨σ6,H6,I6,q6⟩=> ?_);refine wpAny_passesOwn hp (k7 (hb _ s6 σ6 H6 _ I6 q6) fun f s7 q7=> ?_)
   have again:∀{σ7:St} {H7:Hp},g9 X (pins++S3 fp s5.heap) σ7 H7 s7->N σ7 H7->∃m,m < n/\∃i σ' H',g9 X pins σ' H' s7/\tn i s7.heap/\(∀b∈fp,H' b=none)/\W i m σ' H':=fun {σ7 H7} I7 n7=>by
     obtain ⟨m',hm,w7⟩:=hN σ7 H7 n7;refine ⟨m',hm,i+1,σ7,H7,I7.unpinned,T.keep _ _ _ st5 fun b hb o e=>(I7.pin (b,o) (ck0 _ (ck0 _ (Q6 hb e)))).1,fun b hb=> ?_,w7⟩;obtain ⟨o,e,d⟩:=T.obj _ _ st5 b hb;exact (I7.pin (b,o) (ck0 _ (ck0 _ (Q6 hb e)))).2.1
   cases f with
   |next=>obtain ⟨σ7,H7,I7,n7⟩:=q7;exact again I7 n7
   |cont=>obtain ⟨σ7,H7,I7,n7⟩:=q7;exact again I7 n7
   |brk=>obtain ⟨σ7,H7,I7,q7⟩:=q7;exact ⟨σ7,H7,I7.unpinned,q7⟩
   |ret v=>obtain ⟨x7,σ7,H7,I7,r7,q7⟩:=q7;exact ⟨x7,σ7,H7,I7.unpinned,r7,q7⟩
end
theorem S4 {K:PySem.W.Frag}{a:Addr}{xs:List V}{g:TG}{tb:TS}{D:M8}{σ:St}{H:Hp}(Pv:Nat->St->Hp->Prop)(h0:Pv 0 σ H)(hl:∀i σ H,i<=xs.length->Pv i σ H->i4 K H a xs)
   (hs:∀i x σ H,xs[i]? =some x->Pv i σ H->g x σ H fun σ2 H2=>tb {D with nx:=Pv (i+1),ct:=Pv (i+1),bk:=D.nx} σ2 H2) (hd:∀σ H,Pv xs.length σ H->D.nx σ H):
   ∃W:Nat->Nat->St->Hp->Prop,(∃m,W 0 m σ H)/\∀i m σ H,W i m σ H->
    ((Itl K a).stop i H/\D.nx σ H)\/((Itl K a).go i H/\∃N:St->Hp->Prop,(∀σ' H',N σ' H'->∃m',m' < m/\W (i+1) m' σ' H')/\∀x H',(Itl K a).yld i H x H'->g x σ H' fun σ2 H2=>tb {D with nx:=N,ct:=N,bk:=D.nx} σ2 H2):=by
 refine ⟨fun i m σ H=>m=xs.length - i/\i<=xs.length/\Pv i σ H,⟨xs.length,by simp,cl4 _,h0⟩,?_⟩;rintro i m σ H ⟨rfl,hi,p⟩;have q:=hl i σ H hi p
 by_cases hlt:i < xs.length
 · refine .inr ⟨⟨xs,xs[i],q,by simp [hlt]⟩,Pv (i+1),fun σ' H' p'=>⟨xs.length - (i+1),by omega,rfl,hlt,p'⟩,fun x H' y=> ?_⟩;obtain ⟨e,y⟩:=y;subst e;exact hs i x σ _ (y xs q) p
 · have e:i=xs.length:=by omega
   subst e;exact .inl ⟨⟨xs,q,cj1 _⟩,hd σ H p⟩
theorem G7 {lo:Int}{n:Nat}{g:TG}{tb:TS}{D:M8}{σ:St}{H:Hp}(Pv:Nat->St->Hp->Prop)(h0:Pv 0 σ H)
   (hs:∀i σ H,i < n->Pv i σ H->g (.int (lo+i)) σ H fun σ2 H2=>tb {D with nx:=Pv (i+1),ct:=Pv (i+1),bk:=D.nx} σ2 H2) (hd:∀σ H,Pv n σ H->D.nx σ H):
   ∃W:Nat->Nat->St->Hp->Prop,(∃m,W 0 m σ H)/\∀i m σ H,W i m σ H->
    ((Itr lo n).stop i H/\D.nx σ H)\/((Itr lo n).go i H/\∃N:St->Hp->Prop,(∀σ' H',N σ' H'->∃m',m' < m/\W (i+1) m' σ' H')/\∀x H',(Itr lo n).yld i H x H'->g x σ H' fun σ2 H2=>tb {D with nx:=N,ct:=N,bk:=D.nx} σ2 H2):=by
 refine ⟨fun i m σ H=>m=n - i/\i<=n/\Pv i σ H,⟨n,by simp,cl4 _,h0⟩,?_⟩;rintro i m σ H ⟨rfl,hi,p⟩
 by_cases hlt:i < n
 · refine .inr ⟨hlt,Pv (i+1),fun σ' H' p'=>⟨n - (i+1),by omega,rfl,hlt,p'⟩,fun x H' y=> ?_⟩;obtain ⟨e,y⟩:=y;subst e y;exact hs i σ _ hlt p
 · have e:i=n:=by omega
   subst e;exact .inl ⟨cj1 _,hd σ H p⟩
theorem ag6 {c:TT}{tb:TS}{D:M8}{σ:St}{H:Hp}(Pv:St->Hp->Prop)(μ:St->Hp->Nat)(h0:Pv σ H)
   (hs:∀σ H,Pv σ H->c σ H fun b H1=>if b=true then tb {D with nx:=fun σ' H'=>Pv σ' H'/\μ σ' H' < μ σ H,ct:=fun σ' H'=>Pv σ' H'/\μ σ' H' < μ σ H,bk:=D.nx} σ H1 else D.nx σ H1)
   (mono:∀σ H Q Q',(∀b H1,Q b H1->Q' b H1)->c σ H Q->c σ H Q'):bf0 c tb D σ H:=by
 refine ⟨fun m σ H=>m=μ σ H/\Pv σ H,⟨_,rfl,h0⟩,?_⟩;rintro m σ H ⟨rfl,p⟩;refine mono σ H _ _ (fun b H1 q=> ?_) (hs σ H p)
 cases b with
 |true=>exact ⟨_,fun σ' H' ⟨p',l⟩=>⟨_,l,rfl,p'⟩,q⟩
 |false=>exact q
end L2
namespace L2
open PySem PySem.Spec PyProof.Rows
abbrev R2:=V->V->Hp->VK->Prop
def G6 (X:Cx)(f:Value->Value->Sem Value)(r:R2):Prop:=
 ∀(pins:List (Addr×Obj)) (s:Shared) (σ:St) (H:Hp) (x y:V) (v u:Value) (Q:VK),g9 X pins σ H s->l6 x v->l6 y u->r x y H Q->
  wpAny (model X.prog X.w) X.A (f v u) (EP X pins σ Q) X.xe s
def K3 (X:Cx)(f:Value)(r:List V->Hp->VK->Prop):Prop:=
 ∀(pins:List (Addr×Obj)) (s:Shared) (σ:St) (H:Hp) (xs:List V) (us:List Value) (Q:VK),g9 X pins σ H s->j6 xs us->r xs H Q->
  wpAny (model X.prog X.w) X.A (call f us) (EP X pins σ Q) X.xe s
def tOp (r:R2)(ta tb:TE):TE:=fun σ H Q=>ta σ H fun x H1=>tb σ H1 fun y H2=>r x y H2 Q
def rI (C:Int->Int->Prop)(g:Int->Int->V):R2:=fun x y H Q=>∃i j,x= .int i/\y= .int j/\C i j/\Q (g i j) H
def rI0 (g:Int->Int->V):R2:=fun x y H Q=>∃i j,x= .int i/\y= .int j/\Q (g i j) H
section
variable {X:Cx} {a b c:Expr} {ta tb tc:TE} {pos:Pos}
theorem bl9 (ha:PE X a ta)(hb:PE X b tb){pins:List (Addr×Obj)}{s:Shared}{σ:St}{H:Hp}{R:V->V->Hp->Prop}(I:g9 X pins σ H s)
   (h:ta σ H fun x H1=>tb σ H1 fun y H2=>R x y H2) {Q:Value->Shared->Prop} {f:Value->Value->Sem Value}
   (hf:∀v u s2 x y H2,g9 X pins σ H2 s2->l6 x v->l6 y u->R x y H2->wpAny (model X.prog X.w) X.A (f v u) Q X.xe s2):
   wpAny (model X.prog X.w) X.A (eval a X.env) (fun v s₁=>wpAny (model X.prog X.w) X.A (eval b X.env) (fun u s₂=>wpAny (model X.prog X.w) X.A (f v u) Q X.xe s₂) X.xe s₁) X.xe s:=by
 refine k7 (ha pins s σ H _ I h) fun v s1 ⟨x,H1,I1,r1,q1⟩=> ?_
 refine k7 (hb pins s1 σ H1 _ I1 q1) fun u s2 ⟨y,H2,I2,r2,q2⟩=> ?_
 exact hf v u s2 x y H2 I2 r1 r2 q2
theorem p9 {op:Operator}{r:R2}(ho:G6 X (binaryOp op) r)(ha:PE X a ta)(hb:PE X b tb):PE X (.BinOp a op b pos) (tOp r ta tb):=by
 intro pins s σ H Q I h;exact wpAny_BinOp (bl9 ha hb I h fun v u s2 x y H2 I2 rx ry q=>ho pins s2 σ H2 x y v u Q I2 rx ry q)
theorem opI {f:Value->Value->Sem Value}{C:Int->Int->Prop}{g:Int->Int->Int}
   (rule:∀(i j:Int) (t u:Tok) (s:Shared) (Q:Value->Shared->Prop) (E:Value->Shared->Prop),C i j->Q (.int (g i j) s.toks) {s with toks:=s.toks+1}->wpAny (model X.prog X.w) X.A (f (.int i t) (.int j u)) Q E s):
   G6 X f (rI C fun i j=> .int (g i j)):=by
 intro pins s σ H x y v u Q I rx ry h;obtain ⟨i,j,rfl,rfl,hc,q⟩:=h;obtain ⟨t,rfl⟩:=rx;obtain ⟨t',rfl⟩:=ry;exact rule i j t t' s _ _ hc ⟨.int (g i j),H,I.tok _,⟨_,rfl⟩,q⟩
theorem cf6 {f:Value->Value->Sem Value}{g:Int->Int->Int}
   (rule:∀(i j:Int) (t u:Tok) (s:Shared) (Q:Value->Shared->Prop) (E:Value->Shared->Prop),Q (.int (g i j) s.toks) {s with toks:=s.toks+1}->wpAny (model X.prog X.w) X.A (f (.int i t) (.int j u)) Q E s):
   G6 X f (rI0 fun i j=> .int (g i j)):=by
 intro pins s σ H x y v u Q I rx ry h;obtain ⟨i,j,rfl,rfl,q⟩:=h;obtain ⟨t,rfl⟩:=rx;obtain ⟨t',rfl⟩:=ry;exact rule i j t t' s _ _ ⟨.int (g i j),H,I.tok _,⟨_,rfl⟩,q⟩
theorem bm0 {f:Value->Value->Sem Value}{g:Int->Int->Bool}
   (rule:∀(i j:Int) (t u:Tok) (s:Shared) (Q:Value->Shared->Prop) (E:Value->Shared->Prop),Q (.bool (g i j)) s->wpAny (model X.prog X.w) X.A (f (.int i t) (.int j u)) Q E s):
   G6 X f (rI0 fun i j=> .bl (g i j)):=by
 intro pins s σ H x y v u Q I rx ry h;obtain ⟨i,j,rfl,rfl,q⟩:=h;obtain ⟨t,rfl⟩:=rx;obtain ⟨t',rfl⟩:=ry;exact rule i j t t' s _ _ ⟨.bl (g i j),H,I,rfl,q⟩
def cf7 (i j:Int):Prop:=0 < j/\j < 1073741824
def bx4 (i j:Int):Prop:=0<=j/\j<=1000000/\i.natAbs < 2^64
def bm1 (i j:Int):Prop:=(-(2^64) < i/\i < 2^64)\/(-(2^64) < j/\j < 2^64)
theorem bm1.ok {i j:Int}(h:bm1 i j):IntMulOk i j:=by
 rcases h with ⟨h1,h2⟩|⟨h1,h2⟩
 · exact .of_left (intBits_le_64 h1 h2)
 · exact .of_right (intBits_le_64 h1 h2)
theorem G8:G6 X (binaryOp .Add) (rI0 fun i j=> .int (i+j)):=cf6 fun _ _ _ _ _ _ _ q=>add_int q
theorem ai3:G6 X (binaryOp .Mult) (rI bm1 fun i j=> .int (i*j)):=opI fun _ _ _ _ _ _ _ hc q=>mul_int q hc.ok
theorem bs1:G6 X (binaryOp .FloorDiv) (rI cf7 fun i j=> .int (i/j)):=opI fun i j _ _ _ _ _ hc q=>by
 have h1:(0:Int) < j:=hc.1;have h2:j < 1073741824:=hc.2;exact floordiv_int (by omega) (by rw[cw6 i (by omega)];exact q) (.inl (PyProof.noPylong_small (by omega)))
theorem S5:G6 X (binaryOp .Mod) (rI (fun _ j=>0 < j) fun i j=> .int (i%j)):=opI fun i j _ _ _ _ _ hc q=>by
 have h1:(0:Int) < j:=hc;exact mod_int' (by omega) (by rw[Int.fmod_eq_emod_of_nonneg i (by omega)];exact q)
theorem bx5:G6 X (binaryOp .Pow) (rI bx4 fun i j=> .int (i^j.toNat)):=opI fun _ _ _ _ _ _ _ hc q=>pow_int_small hc.1 hc.2.1 hc.2.2 q
end
def bm2:V->V->Bool
 | .non,.non=>true| .non,.int _=>true| .int _,.non=>true| .non,.bl _=>true| .bl _,.non=>true| .non,.str _=>true| .str _,.non=>true
 | .int _,.int _=>true| .bl _,.bl _=>true| .str _,.str _=>true| .byt _,.byt _=>true
 | .int _,.str _=>true| .str _,.int _=>true| .bl _,.str _=>true| .str _,.bl _=>true
 |_,_=>false
def rEq:R2:=fun x y H Q=>bm2 x y=true/\Q (.bl (decide (x=y))) H
def rNe:R2:=fun x y H Q=>bm2 x y=true/\Q (.bl (!decide (x=y))) H
theorem ay6 {i j:Int}:decide (V.int i=V.int j)=(i==j):=by
 rw[cr6];simp
theorem bf3 {i j:Bool}:decide (V.bl i=V.bl j)=(i==j):=by
 rw[cr6];simp
theorem ay7 {i j:Str}:decide (V.str i=V.str j)=(i==j):=by
 rw[cr6];simp
theorem ay8 {i j:Array UInt8}:decide (V.byt i=V.byt j)=(i.toList==j.toList):=by
 rw[cr6];cases i;cases j;simp
section
variable {X:Cx} {a b c:Expr} {ta tb tc:TE} {pos:Pos}
theorem n9 {pins:List (Addr×Obj)}{σ:St}{H:Hp}{s:Shared}{Q:VK}{k k':Bool}(I:g9 X pins σ H s)(q:Q (.bl k) H)(e:k=k'):EP X pins σ Q (.bool k') s:=by
 subst e;exact ⟨.bl k,H,I,rfl,q⟩
theorem aq8:G6 X (compareOp .Eq) rEq:=by
 intro pins s σ H x y v u Q I rx ry h;obtain ⟨hs,q⟩:=h
 cases x with
 |non=>
  cases rx
  cases y with
  |non=>cases ry;exact PySem.EqNone.eq_none_none (n9 I q (by simp))
  |bl j=>cases ry;exact PySem.EqNone.eq_none_bool (n9 I q (by simp))
  |int j=>obtain ⟨t',rfl⟩:=ry;exact PySem.EqNone.eq_none_int (n9 I q (by simp))
  |str j=>obtain ⟨t',rfl⟩:=ry;exact PySem.EqNone.eq_none_str (n9 I q (by simp))
  |_=>exact absurd (show false=true from hs) ck1
 |bl i=>
  cases rx
  cases y with
  |non=>cases ry;exact PySem.EqNone.eq_bool_none (n9 I q (by simp))
  |bl j=>cases ry;exact eq_bool (n9 I q bf3)
  |str j=>obtain ⟨t',rfl⟩:=ry;exact PySem.EqMixed.eq_bool_str (n9 I q (by simp))
  |_=>exact absurd (show false=true from hs) ck1
 |int i=>
  obtain ⟨t,rfl⟩:=rx
  cases y with
  |non=>cases ry;exact PySem.EqNone.eq_int_none (n9 I q (by simp))
  |int j=>obtain ⟨t',rfl⟩:=ry;exact eq_int (n9 I q ay6)
  |str j=>obtain ⟨t',rfl⟩:=ry;exact PySem.EqMixed.eq_int_str (n9 I q (by simp))
  |_=>exact absurd (show false=true from hs) ck1
 |str i=>
  obtain ⟨t,rfl⟩:=rx
  cases y with
  |non=>cases ry;exact PySem.EqNone.eq_str_none (n9 I q (by simp))
  |bl j=>cases ry;exact PySem.EqMixed.eq_str_bool (n9 I q (by simp))
  |int j=>obtain ⟨t',rfl⟩:=ry;exact PySem.EqMixed.eq_str_int (n9 I q (by simp))
  |str j=>obtain ⟨t',rfl⟩:=ry;exact eq_str (n9 I q ay7)
  |_=>exact absurd (show false=true from hs) ck1
 |byt i=>
  obtain ⟨t,rfl⟩:=rx
  cases y with
  |byt j=>obtain ⟨t',rfl⟩:=ry;exact PySem.W.eq_bytes (n9 I q ay8)
  |_=>exact absurd (show false=true from hs) ck1
 |_=>cases y<;>exact absurd (show false=true from hs) ck1
theorem Y1:G6 X (compareOp .NotEq) rNe:=by
 intro pins s σ H x y v u Q I rx ry h;obtain ⟨hs,q⟩:=h
 cases x with
 |non=>
  cases rx
  cases y with
  |non=>cases ry;exact PySem.EqNone.ne_none_none (n9 I q (by simp))
  |bl j=>cases ry;exact PySem.EqNone.ne_none_bool (n9 I q (by simp))
  |int j=>obtain ⟨t',rfl⟩:=ry;exact PySem.EqNone.ne_none_int (n9 I q (by simp))
  |str j=>obtain ⟨t',rfl⟩:=ry;exact PySem.EqNone.ne_none_str (n9 I q (by simp))
  |_=>exact absurd (show false=true from hs) ck1
 |bl i=>
  cases rx
  cases y with
  |non=>cases ry;exact PySem.EqNone.ne_bool_none (n9 I q (by simp))
  |bl j=>cases ry;exact ne_bool (n9 I q (congrArg not bf3))
  |str j=>obtain ⟨t',rfl⟩:=ry;exact PySem.EqMixed.ne_bool_str (n9 I q (by simp))
  |_=>exact absurd (show false=true from hs) ck1
 |int i=>
  obtain ⟨t,rfl⟩:=rx
  cases y with
  |non=>cases ry;exact PySem.EqNone.ne_int_none (n9 I q (by simp))
  |int j=>obtain ⟨t',rfl⟩:=ry;exact ne_int (n9 I q (congrArg not ay6))
  |str j=>obtain ⟨t',rfl⟩:=ry;exact PySem.EqMixed.ne_int_str (n9 I q (by simp))
  |_=>exact absurd (show false=true from hs) ck1
 |str i=>
  obtain ⟨t,rfl⟩:=rx
  cases y with
  |non=>cases ry;exact PySem.EqNone.ne_str_none (n9 I q (by simp))
  |bl j=>cases ry;exact PySem.EqMixed.ne_str_bool (n9 I q (by simp))
  |int j=>obtain ⟨t',rfl⟩:=ry;exact PySem.EqMixed.ne_str_int (n9 I q (by simp))
  |str j=>obtain ⟨t',rfl⟩:=ry;exact ne_str (n9 I q (congrArg not ay7))
  |_=>exact absurd (show false=true from hs) ck1
 |byt i=>
  obtain ⟨t,rfl⟩:=rx
  cases y with
  |byt j=>obtain ⟨t',rfl⟩:=ry;exact PySem.W.ne_bytes (n9 I q (congrArg not ay8))
  |_=>exact absurd (show false=true from hs) ck1
 |_=>cases y<;>exact absurd (show false=true from hs) ck1
theorem ai4:G6 X (compareOp .Lt) (rI0 fun i j=> .bl (decide (i < j))):=bm0 fun _ _ _ _ _ _ _ q=>lt_int q
theorem bb6:G6 X (compareOp .Gt) (rI0 fun i j=> .bl (decide (j < i))):=bm0 fun _ _ _ _ _ _ _ q=>gt_int q
theorem bb7:G6 X (compareOp .GtE) (rI0 fun i j=> .bl (decide (j<=i))):=bm0 fun _ _ _ _ _ _ _ q=>ge_int q
theorem ad4:G6 X (compareOp .IsNot) (fun x y H Q=>y= .non/\Q (.bl (!decide (x= .non))) H):=by
 intro pins s σ H x y v u Q I rx ry h;obtain ⟨rfl,q⟩:=h;cases ry;refine isnot_none_gen (n9 I q ?_)
 cases x<;>first
   |(cases rx;rfl)
   |(obtain ⟨t,rfl⟩:=rx;rfl)
theorem m8 (b:Expr){op:CmpOp}(h:op≠.In:=by decide)(h2:op≠.NotIn:=by decide):behindInMarks op b=false:=by
 have e1:(op==CmpOp.In)=false:=by cases op<;>first|rfl|exact absurd rfl h
 have e2:(op==CmpOp.NotIn)=false:=by cases op<;>first|rfl|exact absurd rfl h2
 cases b<;>simp [behindInMarks,e1,e2]
theorem M9 {op:CmpOp}{r:R2}(ho:G6 X (compareOp op) r)(ha:PE X a ta)(hb:PE X b tb)(hm:behindInMarks op b=false):PE X (.Compare a [op] [b] pos) (tOp r ta tb):=by
 intro pins s σ H Q I h;exact wpAny_Compare1 (bl9 ha hb I h fun v u s2 x y H2 I2 rx ry q=>ho pins s2 σ H2 x y v u Q I2 rx ry q) hm
def cb9 (t:TE):TT:=fun σ H Q=>t σ H fun x H'=>∃k,x= .bl k/\Q k H'
theorem o4 {op:CmpOp}{r:R2}(ho:G6 X (compareOp op) r)(ha:PE X a ta)(hb:PE X b tb)(hm:behindInMarks op b=false):PT X (.Compare a [op] [b] pos) (cb9 (tOp r ta tb)):=by
 intro pins s σ H Q I h
 refine wpAny_isTrue_Compare1 (k7 (ha pins s σ H _ I h) fun v s1 ⟨x,H1,I1,r1,q1⟩=>k7 (hb pins s1 σ H1 _ I1 q1) fun u s2 ⟨y,H2,I2,r2,q2⟩=>
   k7 (ho pins s2 σ H2 x y v u _ I2 r1 r2 q2) fun c s3 ⟨z,H3,I3,r3,k,e,q3⟩=> ?_) hm
 subst e;cases r3;exact wpAny_truthy_bool ⟨H3,I3,q3⟩
theorem ar8:(sizeLine:Nat) < 2^63:=by rw[sizeLine_eq];decide
theorem O3 {x:V}{us:List Value}(r:j6 [x] us):∃u,us=[u]/\l6 x u:=by
 cases r with
 |cons r1 r2=>cases r2;exact ⟨_,rfl,r1⟩
theorem aq9 {x y:V}{us:List Value}(r:j6 [x,y] us):∃u w',us=[u,w']/\l6 x u/\l6 y w':=by
 cases r with
 |cons r1 r2=>
  cases r2 with
  |cons r3 r4=>cases r4;exact ⟨_,_,rfl,r1,r3⟩
theorem bf4 (hc:X.calm=true):K3 X (.builtin "max") (fun xs H Q=>∃i j,xs=[.int i,.int j]/\Q (.int (if j > i then j else i)) H):=by
 intro pins s σ H xs us Q I r h;obtain ⟨i,j,rfl,q⟩:=h;obtain ⟨u,w',rfl,⟨t,rfl⟩,⟨t',rfl⟩⟩:=aq9 r
 refine max_two_ints (I.ok.hd hc) fun h' tk k=>⟨_,H,I.kept k,?_,q⟩
 by_cases hj:j > i
 · rw[if_pos hj,if_pos hj];exact ⟨_,rfl⟩
 · rw[if_neg hj,if_neg hj];exact ⟨_,rfl⟩
theorem bf5 (hc:X.calm=true):K3 X (.builtin "min") (fun xs H Q=>∃i j,xs=[.int i,.int j]/\Q (.int (if j < i then j else i)) H):=by
 intro pins s σ H xs us Q I r h;obtain ⟨i,j,rfl,q⟩:=h;obtain ⟨u,w',rfl,⟨t,rfl⟩,⟨t',rfl⟩⟩:=aq9 r
 refine min_two_ints (I.ok.hd hc) fun h' tk k=>⟨_,H,I.kept k,?_,q⟩
 by_cases hj:j < i
 · rw[if_pos hj,if_pos hj];exact ⟨_,rfl⟩
 · rw[if_neg hj,if_neg hj];exact ⟨_,rfl⟩
end
end L2
namespace L2
open PySem PySem.Spec PyProof.Rows
structure bm3 (h:Heap)(x dx C:Addr)(mA:Str->Option Value):Prop where
 obj:h.get? x=some (PySem.W.instObj C dx)
 ns:h.Ns1 dx mA
 ne:dx≠x
theorem bf6 {h:Heap}{dx:Addr}{mA:Str->Option Value}(n:h.Ns1 dx mA):∃od,h.get? dx=some od/\∀name,PySem.W.lookIn name od=some (mA name):=by
 obtain ⟨o,es,ep,ho,hd,hk,_,hm⟩:=n;refine ⟨o,ho,fun name=> ?_⟩;have e:=hm name;unfold nsFind findBy at e;rw[<-Array.find?_toList] at e;unfold PySem.W.lookIn;rw[hd]
 dsimp only
 split
 · rename_i y q;rw[q] at e;exact congrArg some e
 · rename_i q;rw[q] at e
   have a:es.toList.any (·.refKey)=false:=by
     rw[cw7];intro y hy;obtain ⟨z,t,hkey⟩:=hk y (Array.mem_toList_iff.mp hy);simp [DictEntry.refKey,hkey]
   have a':¬es.toList.any (·.refKey)=true:=by rw[a];exact ck1
   rw[if_neg a'];exact congrArg some e
theorem bm3.look {h:Heap}{x dx C:Addr}{mA:Str->Option Value}(I:bm3 h x dx C mA):∃od,PySem.W.InstAt h x (PySem.W.instObj C dx) C (some od)/\∀name,PySem.W.lookIn name od=some (mA name):=
 let ⟨od,ho,hl⟩:=bf6 I.ns
 ⟨od,⟨I.obj,rfl,rfl,ho⟩,hl⟩
theorem R9.some_of {v:V}{o:Option Value}(r:R9 (some v) o):∃u,o=some u/\l6 v u:=by
 cases o with
 |none=>exact (show False from r).elim
 |some u=>exact ⟨u,rfl,r⟩
section
variable {P:Program} {w:World} {H H':Hp} {h h':Heap} {a C dx:Addr} {fs fs':List (Str×V)}
theorem bs2 (hok:A9 P w H h)(e:H a=some (.ins C dx fs)):∃mA,bm3 h a dx C mA/\(∀f,R9 (fs.lookup f) (mA f))/\PySem.Within mA (fs.map (·.1))/\fs.length<=1000/\H dx=some (.own a):=by
 obtain ⟨d,z,ne,ob,mA,n,r,q⟩:=(show o6 P w H h a (.ins C dx fs) from hok a _ e);exact ⟨mA,⟨ob,n,ne⟩,r,q,z,d⟩
end
structure Cls (K:PySem.W.Frag)(C:Addr):Prop where
 pg:PySem.W.plainGet K C Str.empty=true
 hd:PySem.W.hasDictIn K C=true
 po:PySem.W.plainOver K C=true
 sa:PySem.W.findIn K (.ref C) "__setattr__"=some (some (.builtin "object.__setattr__"))
theorem Cls.get {K:PySem.W.Frag}{C:Addr}(c:Cls K C)(f:Str):PySem.W.plainGet K C f=true:=c.pg
section
variable {X:Cx} {pins:List (Addr×Obj)} {σ:St} {H:Hp} {s:Shared} {A:Around} {E:Value->Shared->Prop} {Q:Value->Shared->Prop} {c:Value} {b:Bool}
inductive G0 (K:PySem.W.Frag)(H:Hp):V->Value->Prop where
 |non:G0 K H .non (.type "NoneType")
 |bl (x:Bool):G0 K H (.bl x) (.type "bool")
 |int (i:Int):G0 K H (.int i) (.type "int")
 |str (x:Str):G0 K H (.str x) (.type "str")
 |flt (x:UInt64):G0 K H (.flt x) (.type "float")
 |lst {a:Addr} {xs:List V} (e:H a=some (.lst xs)):G0 K H (.ref a) (.type "list")
 |frz {a:Addr} {o:Obj} {xs:List V} (e:H a=some (.frz o (.lst xs))):G0 K H (.ref a) (.type "list")
 |tup {a:Addr} {xs:List V} (e:H a=some (.tup xs)):G0 K H (.ref a) (.type "tuple")
 |dK {a:Addr} {kvs:List (k6×V)} (e:H a=some (.dK kvs)):G0 K H (.ref a) (.type "dict")
 |dT {a:Addr} {kvs:List (List k6×V)} (e:H a=some (.dT kvs)):G0 K H (.ref a) (.type "dict")
 |ins {a C dx:Addr} {fs:List (Str×V)} (e:H a=some (.ins C dx fs)) (cl:Cls K C) (ha:PySem.W.findIn K (.ref C) "__class__"=some (some (.builtin "object.__class__")))
     (hn:PySem.W.specialIn K (.builtin "object.__class__") "__get__"=some (some (.builtin "getset_descriptor.__get__"))) (htk:PySem.W.takesIn K (.builtin "object.__class__")=some true)
     (hm:PySem.W.mroIn K C (.type "object")=some true):G0 K H (.ref a) (.ref C)
theorem bf7 {x:V}{u t:Value}(I:g9 X pins σ H s)(rx:l6 x u)(ty:G0 X.K H x t)(e:PySem.W.kitOne X.K t c=some b)(h:∀tk,Q (.bool b) {s with toks:=tk}):
   wpAny (model X.prog X.w) A (call (.builtin "isinstance") [u,c]) Q E s:=by
 cases ty with
 |non=>cases (show u=Value.none from rx);exact PySem.W.kia_one PySem.W.kitx_none I.kIn True.intro e (fun z=>nomatch z) h
 |bl y=>cases (show u=Value.bool y from rx);exact PySem.W.kia_one PySem.W.kitx_bool I.kIn True.intro e (fun z=>nomatch z) h
 |int i=>obtain ⟨t,q⟩:=(show ∃t,u=Value.int i t from rx);cases q;exact PySem.W.kia_one PySem.W.kitx_int I.kIn True.intro e (fun z=>nomatch z) h
 |str y=>obtain ⟨t,q⟩:=(show ∃t,u=Value.str y t from rx);cases q;exact PySem.W.kia_one PySem.W.kitx_str I.kIn True.intro e (fun z=>nomatch z) h
 |flt y=>obtain ⟨t,q⟩:=(show ∃t,u=Value.float y t from rx);cases q;exact PySem.W.kia_one PySem.W.kitx_float I.kIn True.intro e (fun z=>nomatch z) h
 |@lst a xs ea=>
  cases (show u=Value.ref a from rx);obtain ⟨_,_,n,_,h1⟩:=(show o6 X.prog X.w H s.heap a (.lst xs) from I.hok a _ ea);exact PySem.W.kia_one PySem.W.kitx_list I.kIn ⟨_,h1,rfl⟩ e (fun z=>nomatch z) h
 |@frz a ob xs ea=>
  cases (show u=Value.ref a from rx);obtain ⟨_,_,_,n,_,h1⟩:=(show o6 X.prog X.w H s.heap a (.frz ob (.lst xs)) from I.hok a _ ea);exact PySem.W.kia_one PySem.W.kitx_list I.kIn ⟨_,h1,rfl⟩ e (fun z=>nomatch z) h
 |@tup a xs ea=>
  cases (show u=Value.ref a from rx);obtain ⟨_,_,_,p⟩:=(show o6 X.prog X.w H s.heap a (.tup xs) from I.hok a _ ea);obtain ⟨o,h1,h2,_⟩:=p;exact PySem.W.kia_one PySem.W.kitx_tuple I.kIn ⟨o,h1,h2⟩ e (fun z=>nomatch z) h
 |@dK a kvs ea=>
  cases (show u=Value.ref a from rx);obtain ⟨_,_,vs,_,p⟩:=(show o6 X.prog X.w H s.heap a (.dK kvs) from I.hok a _ ea);obtain ⟨o,es,ep,h1,h2,_⟩:=p;exact PySem.W.kia_one PySem.W.kitx_dict I.kIn ⟨o,h1,h2.1⟩ e (fun z=>nomatch z) h
 |@dT a kvs ea=>
  cases (show u=Value.ref a from rx);obtain ⟨_,_,xs,_,o,es,ep,h1,h2,_⟩:=(show o6 X.prog X.w H s.heap a (.dT kvs) from I.hok a _ ea);exact PySem.W.kia_one PySem.W.kitx_dict I.kIn ⟨o,h1,h2.1⟩ e (fun z=>nomatch z) h
 |@ins a C dx fs ea cl ha hn htk hm=>
  cases (show u=Value.ref a from rx);obtain ⟨mA,O,_⟩:=bs2 I.hok ea;obtain ⟨od,J,_⟩:=O.look;exact PySem.W.kia_one (PySem.W.kitx_own (cl.get _) cl.hd ha hn htk hm) I.kIn J e (fun z=>nomatch z) h
end
end L2
namespace L2
open PySem PySem.Spec PyProof.Rows
structure m9 (k:Nat)(A:Around):Prop where
 hd:A.handled=none
 dp:A.depth+3*k+5 < recursionLimit
 un:A.units+16*k+200 < cLine
 gd:A.guards=some []
theorem m9.mono {j k:Nat}{A:Around}(r:m9 k A)(h:j<=k):m9 j A:=⟨r.hd,by have:=r.dp;omega,by have:=r.un;omega,r.gd⟩
theorem m9.deeper {k:Nat}{A:Around}(r:m9 (k+1) A)(env:Env):m9 k (A.deeper env):=
 ⟨r.hd,by have:=r.dp;show A.depth+1+3*k+5 < _;omega,by have:=r.un;show A.units+3+16*k+200 < _;omega,r.gd⟩
theorem m9.depth {k:Nat}{A:Around}(r:m9 k A):A.depth < recursionLimit:=by have:=r.dp;omega
theorem m9.units {k:Nat}{A:Around}(r:m9 k A):A.units+64 < cLine:=by have:=r.un;omega
def bb8:TA:=fun _ H Q=>Q [] H
def ar0 (ta:TE)(tr:TA):TA:=fun σ H Q=>ta σ H fun x H1=>tr σ H1 fun xs H2=>Q (x::xs) H2
section
variable {X:Cx} {e:Expr} {es:List Expr} {te:TE} {t:TA} {pos:Pos}
theorem c7:PA X [] bb8:=fun _ _ _ _ H Q I h=>Calls.spliced_nil ⟨[],H,I,.nil,h⟩
theorem c6 (ha:PE X e te)(hr:PA X es t)(hs:starEach (e::es) X.env=(false,eval e X.env)::starEach es X.env:=by rfl):PA X (e::es) (ar0 te t):=by
 intro pos pins s σ H Q I h;rw[hs];show wpAny _ _ (spliced ((false,eval e X.env)::backTo pos (starEach es X.env))) _ _ s;refine Calls.spliced_cons (k7 (ha pins s σ H _ I h) fun u s1 ⟨x,H1,I1,r1,q1⟩=> ?_)
 exact k7 (hr pos pins s1 σ H1 _ I1 q1) fun us s2 ⟨xs,H2,I2,r2,q2⟩=>⟨x::xs,H2,I2,.cons r1 r2,q2⟩
def cf8 (t:TA):TE:=fun σ H Q=>t σ H fun xs H1=>xs.length<=sizeLine/\∀p,H1 p=none->Q (.ref p) (c9 H1 p (.lst xs))
theorem y8 (h:PA X es t):PE X (.List es pos) (cf8 t):=by
 intro pins s σ H Q I hq;refine wpAny_List_spliced (k7 (h pos pins s σ H _ I hq) fun us s1 ⟨xs,H1,I1,r,z,q⟩=>⟨by rw[<-r.length];exact z,?_⟩);have hf:H1 s1.heap.objs.size=none:=I1.hok.fresh (cj1 _);refine ⟨.ref s1.heap.objs.size,c9 H1 s1.heap.objs.size (.lst xs),I1.laid (t':=s1.toks) (fun b u e=>Heap.get?_push_of_some _ e) (cj1 _) ?_,rfl,q _ hf⟩;exact ⟨z,us,0,r,Heap.get?_push_size _ rfl⟩
end
abbrev Sp:=List V->Hp->VK->XK->Prop
abbrev Q4:=List Env->Hp->Shared->XK->Value->Shared->Prop
structure bb9 (P:Program)(w:World)(K:PySem.W.Frag)(mg:Str->Option Value)(base:Heap)(A:Around)(outer:List Env)(s:Shared)(H:Hp):Prop where
 frames:A.frames=some outer
 mod:Mod K mg base
 bs:∀b o,base.get? b=some o->s.heap.get? b=some o/\H b=none
 bsz:base.objs.size<=s.heap.objs.size
 funs:s.heap.FunFrames base outer
 frf:∀b∈y7 outer,H b=none
 hok:A9 P w H s.heap
 bare:AllBare s.gens
def CE (outer:List Env)(P:Program)(w:World)(H:Hp)(s:Shared)(Q:VK)(u:Value)(s':Shared):Prop:=
 ∃v H',s'.os=s.os/\AllBare s'.gens/\Un (y7 outer) [] H H' s.heap s'.heap/\A9 P w H' s'.heap/\l6 v u/\Q v H'
def CR (CX:Q4)(outer:List Env)(P:Program)(w:World)(H:Hp)(s:Shared)(Q:VK)(E:XK)(r:Result)(s':Shared):Prop:=
 match r with
 | .ok (.ret u)=>CE outer P w H s Q u s'
 | .ok _=>False
 | .error e=>CX outer H s E e s'
structure j9 (P:Program)(w:World)(K:PySem.W.Frag)(mg:Str->Option Value)(base:Heap)(CX:Q4)(k:Nat)(f:Addr)(fd:FuncData)(ps:List Str)(sp:Sp):Prop where
 len:∀vs H Q E,sp vs H Q E->vs.length=ps.length
 run:∀(A:Around) (outer:List Env) (s:Shared) (H:Hp) (args:Args) (us:List Value) (vs:List V) (Q:VK) (E:XK),m9 k A->bb9 P w K mg base A outer s H->BindsTo s fd args (ps.zip us)->j6 vs us->sp vs H Q E->
   codeAny (model P w) A (.call (.ref f) args) (CR CX outer P w H s Q E) s
theorem j9.imp {P:Program}{w:World}{K:PySem.W.Frag}{mg:Str->Option Value}{base:Heap}{CX:Q4}{k:Nat}{f:Addr}{fd:FuncData}{ps:List Str}{sp sp':Sp}(F:j9 P w K mg base CX k f fd ps sp)
   (h:∀vs H Q E,sp' vs H Q E->sp vs H Q E):j9 P w K mg base CX k f fd ps sp':=
 ⟨fun vs H Q E q=>F.len vs H Q E (h _ _ _ _ q),fun A outer s H args us vs Q E hr he hb hv hs=>F.run A outer s H args us vs Q E hr he hb hv (h _ _ _ _ hs)⟩
section
variable {X:Cx} {pins:List (Addr×Obj)} {σ:St} {H:Hp} {s s':Shared}
theorem g9.env0 (I:g9 X pins σ H s):bb9 X.prog X.w X.K X.mg X.base X.A X.stack s H:=
 ⟨I.ok.frames,I.ok.mod,I.bs,cl9 I.ok.bsz I.sz,I.stack,I.stkFree,I.hok,I.bare⟩
theorem g9.after {Q:VK}{u:Value}(I:g9 X pins σ H s)(h:CE X.stack X.prog X.w H s Q u s'):EP X pins σ Q u s':=by
 obtain ⟨v,H',os,bare,un,hok,r,q⟩:=h;obtain ⟨hh,g,d,t,os'⟩:=s';obtain rfl:os'=s.os:=os;exact ⟨v,H',I.call (h':=hh) (g':=g) (d':=d) (t':=t) (ch:=[]) un hok bare (fun b z=>absurd z (by simp)),r,q⟩
end
def ai5 (sp:Sp)(dvs:List V)(E:XK)(t:TA):TE:=fun σ H Q=>t σ H fun vs H1=>sp (vs++dvs) H1 Q E
def Q7 (K:PySem.W.Frag)(fd:FuncData)(ps:List Str)(ds:List Value):Prop:=
 ∀(s:Shared) (us:List Value),K.In s.heap->(us++ds).length=ps.length->BindsTo s fd ⟨us,[]⟩ (ps.zip (us++ds))
theorem Q7.all {K:PySem.W.Frag}{fd:FuncData}{ps:List Str}(h:∀us:List Value,us.length=ps.length->bindArgs fd ⟨us,[]⟩=pure (ps.zip us)):Q7 K fd ps []:=fun s us _ hl=>by
 rw[cm1] at hl ⊢;exact .of_eq (h us hl)
def ab0 (CX:Q4)(X:Cx)(E:XK):Prop:=∀(pins:List (Addr×Obj)) (σ:St) (H:Hp) (s:Shared) (e:Value) (s':Shared),g9 X pins σ H s->CX X.stack H s E e s'->X.xe e s'
section
variable {X:Cx} {CX:Q4} {k:Nat} {f C:Addr} {fd:FuncData} {ps:List Str} {sp:Sp} {dvs:List V} {ds:List Value} {E:XK} {x m:Str} {p pos apos:Pos} {e o:Expr} {es:List Expr} {ta:TE} {t:TA}
theorem bx7 {pins:List (Addr×Obj)}{σ:St}{H:Hp}{s:Shared}{Q:VK}{us:List Value}{vs:List V}(F:j9 X.prog X.w X.K X.mg X.base CX k f fd ps sp)(hr:m9 k X.A)(hb:Q7 X.K fd ps ds)(hd:j6 dvs ds)(hx:ab0 CX X E)
   (I:g9 X pins σ H s) (r:j6 vs us) (h:sp (vs++dvs) H Q E):wpAny (model X.prog X.w) X.A (call (.ref f) us) (EP X pins σ Q) X.xe s:=by
 have r2:j6 (vs++dvs) (us++ds):=r.append hd
 have hl:(us++ds).length=ps.length:=by rw[<-r2.length];exact F.len _ _ _ _ h
 refine wpAny_call (codeAny_mono (F.run X.A X.stack s H ⟨us,[]⟩ (us++ds) (vs++dvs) Q E hr I.env0 (hb s us I.kIn hl) r2 h) fun r s' hq=> ?_)
 cases r with
 |error e=>exact hx pins σ H s e s' I hq
 |ok fl=>
  cases fl with
  |ret u=>exact I.after hq
  |next=>exact False.elim hq
  |brk=>exact False.elim hq
  |cont=>exact False.elim hq
theorem ay9 (F:j9 X.prog X.w X.K X.mg X.base CX k f fd ps sp)(hr:m9 k X.A)(hg:Gl X x)(hm:X.mg x=some (.ref f))(hk:PySem.W.keepIn X.K (.ref f)=true)(hb:Q7 X.K fd ps ds)(hd:j6 dvs ds)(hx:ab0 CX X E)
   (ha:PA X (e::es) t) (hdb:(x==("__debug__":Str))=false:=by decide) (he:starEach (e::es) X.env=(false,eval e X.env)::starEach es X.env:=by rfl) (hpl:(backTo pos (starEach es X.env)).any (·.1)=false:=by rfl):
   PE X (.Call (.Name x p) (e::es) [] pos) (ai5 sp dvs E t):=by
 intro pins s σ H Q I h;refine wpAny_Call_Name_kw (W4 I hg hm ?_ hdb);refine PySem.W.callWith_K (h₀:=X.base) I.ok.mod.kin hk (k7 (ha pos pins s σ H _ I h) fun us s1 ⟨vs,H1,I1,r,q⟩=>⟨I1.kIn,?_⟩) he hpl;exact bx7 F hr hb hd hx I1 r q
end
def PK (X:Cx)(kws:List Keyword)(t:TA):Prop:=
 ∀(pos:Pos) (pins:List (Addr×Obj)) (s:Shared) (σ:St) (H:Hp) (Q:List V->Hp->Prop),g9 X pins σ H s->t σ H Q->wpAny (model X.prog X.w) X.A (evalAll ((backToKw pos (keywordEach kws X.env)).map (·.2))) (AP X pins σ Q) X.xe s
section
variable {X:Cx} {CX:Q4} {k:Nat} {f C:Addr} {fd:FuncData} {ps ks:List Str} {sp:Sp} {E:XK} {x m:Str} {p pos apos kpos:Pos} {e o:Expr} {es:List Expr} {kws:List Keyword} {te ta:TE} {t tk:TA} {nm:Option Str}
theorem bx8:PK X [] bb8:=fun _ _ _ _ H Q I h=>wpAny_evalAll_nil ⟨[],H,I,.nil,h⟩
theorem bs3 (ha:PE X e te)(hr:PK X kws t):PK X (⟨nm,e,kpos⟩::kws) (ar0 te t):=by
 intro pos pins s σ H Q I h;show wpAny _ _ (evalAll ((do let v <-eval e X.env;standAt pos;pure v)::(backToKw pos (keywordEach kws X.env)).map (·.2))) _ _ s;refine wpAny_evalAll_cons (wpAny_bind (k7 (ha pins s σ H _ I h) fun u s1 ⟨x,H1,I1,r1,q1⟩=>wpAny_bind (wpAny_standAt (wpAny_pure ?_))))
 exact k7 (hr pos pins s1 σ H1 _ I1 q1) fun us s2 ⟨xs,H2,I2,r2,q2⟩=>⟨x::xs,H2,I2,.cons r1 r2,q2⟩
variable {g:List Value->List Value->List Value} {gV:List V->List V->List V}
end
structure l7 (N P:List Str)(sc:Scope):Prop where
 kind:sc.kind= .function
 co:sc.isCoroutine=false
 gen:sc.isGenerator=false
 nd:N.Nodup
 pre:N.take P.length=P
 par:∀x∈P,sc.names.lookup x=some .local\/sc.names.lookup x=some .cell
 nofree:∀y∈sc.names,y.2≠.free
theorem ao2 {kindOf:Str->Option NameKind}{x:Str}:∀{binds:List (Str×Value)} {m:Str->Option Value},(∀v,(x,v)∉binds)->bindL kindOf binds m x=m x
 |[],_,_=>rfl
 |(n,v)::r,m,h=>by
  unfold bindL;rw[ao2 fun w hw=>h w (cj8 _ hw)]
  split
  · have:x≠n:=by rintro rfl;exact h v cj5
    simp [this]
  · rfl
theorem ao3 {kindOf:Str->Option NameKind}{x:Str}:∀{binds:List (Str×Value)} {m:Str->Option Value},(∀v,(x,v)∉binds)->bindC kindOf binds m x=m x
 |[],_,_=>rfl
 |(n,v)::r,m,h=>by
  unfold bindC;rw[ao3 fun w hw=>h w (cj8 _ hw)]
  split
  · rfl
  · have:x≠n:=by rintro rfl;exact h v cj5
    simp [this]
theorem ao4 {kindOf:Str->Option NameKind}{x:Str}{v:Value}:∀{P:List Str} {vs:List Value} {i:Nat} {m:Str->Option Value},P.Nodup->P[i]? =some x->vs[i]? =some v->kindOf x=some .local->
   bindL kindOf (P.zip vs) m x=some v
 |[],_,_,_,_,h,_,_=>by simp at h
 |_::_,[],_,_,_,_,h,_=>by simp at h
 |p::P,w::vs,0,m,nd,h1,h2,hk=>by
  simp at h1 h2;subst h1;subst h2;show bindL kindOf ((p,w)::P.zip vs) m p=_;unfold bindL;rw[ao2 fun v hv=>(cn3.mp nd).1 (cx8 hv).1,if_pos hk];simp
 |p::P,w::vs,i+1,m,nd,h1,h2,hk=>by
  show bindL kindOf ((p,w)::P.zip vs) m x=_;unfold bindL;exact ao4 (i:=i) (cn3.mp nd).2 (by simpa using h1) (by simpa using h2) hk
theorem ao5 {kindOf:Str->Option NameKind}{x:Str}{v:Value}:∀{P:List Str} {vs:List Value} {i:Nat} {m:Str->Option Value},P.Nodup->P[i]? =some x->vs[i]? =some v->kindOf x≠some .local->
   bindC kindOf (P.zip vs) m x=some v
 |[],_,_,_,_,h,_,_=>by simp at h
 |_::_,[],_,_,_,_,h,_=>by simp at h
 |p::P,w::vs,0,m,nd,h1,h2,hk=>by
  simp at h1 h2;subst h1;subst h2;show bindC kindOf ((p,w)::P.zip vs) m p=_;unfold bindC;rw[ao3 fun v hv=>(cn3.mp nd).1 (cx8 hv).1,if_neg hk];simp
 |p::P,w::vs,i+1,m,nd,h1,h2,hk=>by
  show bindC kindOf ((p,w)::P.zip vs) m x=_;unfold bindC;exact ao5 (i:=i) (cn3.mp nd).2 (by simpa using h1) (by simpa using h2) hk
def Q8 (N:List Str)(vs:List V):St:=vs.map some++cl3 (N.length - vs.length) none
def V5 (CX:Q4)(P:Program)(w:World)(K:PySem.W.Frag)(mg:Str->Option Value)(base:Heap)(N:List Str)(qual:Str)(scope:Scope)(f:Addr)(cd:Value)(A:Around)(outer:List Env)(s:Shared)(H:Hp)(E:XK):Cx where
 prog:=P
 w:=w
 K:=K
 mg:=mg
 base:=base
 A:=A.deeper (envOfC qual scope s.heap.objs.size f cd)
 N:=N
 s₀:=s
 H₀:=H
 env:=envOfC qual scope s.heap.objs.size f cd
 outer:=outer
 stack:=envOfC qual scope s.heap.objs.size f cd::outer
 ex:=[]
 calm:=true
 fn:=fun _=>true
 pn:=[]
 xe:=fun e s'=>wpAny (model P w) (A.deeper (envOfC qual scope s.heap.objs.size f cd)) (leaving (envOfC qual scope s.heap.objs.size f cd) e) (fun _ s''=>CX outer H s E e s'') (fun e' s''=>CX outer H s E e' s'') s'
theorem ar9 {sc:Scope}{n:Nat}{x:Str}(h:sc.names.lookup x=some .cell):∃c,(cellsFrom n sc.names []).lookup x=some c:=by
 have q:=PySem.W.cellsFrom_some sc.names n [] (.inl h);exact cx3.mp q
theorem bf8 {CX:Q4}{P:Program}{w:World}{K:PySem.W.Frag}{mg:Str->Option Value}{base:Heap}{N ps:List Str}{qual:Str}{scope:Scope}{f:Addr}{cd:Value}{A:Around}{outer:List Env}{s s1:Shared}{H:Hp}{E:XK}{us:List Value}{vs:List V}
   (S:l7 N ps scope) (hd:A.handled=none) (e0:bb9 P w K mg base A outer s H) (hl:vs.length=ps.length) (r:j6 vs us)
   (x:InCallC s s.heap.objs.size (bindL (envOfC qual scope s.heap.objs.size f cd).kindOf (ps.zip us) fun _=>none) (cellsFrom (s.heap.objs.size+1) scope.names []) (bindC (envOfC qual scope s.heap.objs.size f cd).kindOf (ps.zip us) fun _=>none) s1):
   g9 (V5 CX P w K mg base N qual scope f cd A outer s H E) [] (Q8 N vs) H s1:=by
 have hpl:ps.length<=N.length:=by have:=congrArg List.length S.pre;rw[cj9] at this;omega
 obtain ⟨h1,tk,rfl,hk⟩:=x.done
 have noA:∀b:Addr,b∉(V5 CX P w K mg base N qual scope f cd A outer s H E).ex:=fun b z=>absurd (show b∈([]:List Addr) from z) (by simp)
 refine ⟨⟨e0.mod,S.kind,rfl,rfl,cj1 _,fun y z c h1 h2=> ?_,fun y hy=> ?_,fun y c _ h=> ?_,fun _=>hd,Around.frames_deeper e0.frames,.inr ⟨rfl,rfl⟩,fun b z=>absurd z (noA b),e0.bs,e0.bsz,fun b _ _=>noA b,fun b z=>absurd z (noA b),e0.funs,e0.frf⟩,
   rfl,e0.bare,Un.kept hk,⟨_,x.toInCall.ns,fun i y v h1 h2 h3=> ?_⟩,fun y c h=>⟨_,x.cell y c h⟩,e0.hok.fresh (cj1 _),fun y c h=> ?_,fun p hp=>absurd (show p∈([]:List (Addr×Obj)) from hp) (by simp),e0.hok.kept hk,?_⟩
 · exact name_of_addr x.apart (PySem.mem_of_lookup h1) (PySem.mem_of_lookup h2)
 · have hy:scope.names.lookup y=some .cell\/scope.names.lookup y=some .free:=hy
   rcases hy with hy|hy
   · exact ar9 hy
   · exact absurd rfl (S.nofree _ (PySem.mem_of_lookup hy))
 · exact cm9 (x.above y c (PySem.mem_of_lookup h))
 · have hi:i < vs.length:=by
     unfold Q8 at h2
     by_cases hi:i < vs.length
     · exact hi
     · rw[cm8 (by simpa using hi)] at h2;rw[cx6] at h2
       split at h2<;>cases h2
   have ha:vs[i]? =some v:=by
     unfold Q8 at h2;rw[cm6 (by simpa using hi),cj2] at h2
     cases e:vs[i]? with
     |none=>rw[e] at h2;cases h2
     |some a=>rw[e] at h2;cases h2;rfl
   obtain ⟨u,hu,rv⟩:=r.get ha
   have hp:ps[i]? =some y:=by
     rw[<-S.pre,cm0 (by omega)];exact h1
   have ndP:ps.Nodup:=by rw[<-S.pre];exact S.nd.sublist (List.take_sublist _ _)
   refine ⟨u,rv,?_⟩
   rcases S.par y (ck5 hp) with k|k
   · exact .inl ⟨k,ao4 ndP hp hu k⟩
   · obtain ⟨c,e⟩:=ar9 (n:=s.heap.objs.size+1) k;refine .inr ⟨.inl k,c,e,?_⟩;have q:=x.cell y c e;rw[ao5 ndP hp hu (by show scope.names.lookup y≠_;rw[k];decide)] at q;exact q
 · exact e0.hok.fresh (cm9 (x.above y c (PySem.mem_of_lookup h)))
 · unfold Q8;show _=N.length;rw[cj6,ci8,cq6];omega
theorem br0 {CX:Q4}{P:Program}{w:World}{K:PySem.W.Frag}{mg:Str->Option Value}{base:Heap}{k:Nat}{f:Addr}{name qual:Str}{params:Arguments}{body:List Stmt}{scope:Scope}{dV kV doc pm cdv ct oc:Value}{an od:Option Addr}
   {osl:Array (Option Value)} {N ps:List Str} {sp:Sp} (lk:K.lookup f=some ⟨oc,od,.func (PySem.W.fnOf name qual params body scope dV kV doc pm an cdv ct),osl⟩) (hcd:PySem.W.codeIn K cdv qual=true) (S:l7 N ps scope)
   (len:∀vs H Q E,sp vs H Q E->vs.length=ps.length)
   (hbody:∀(A:Around) (outer:List Env) (s:Shared) (H:Hp) (vs:List V) (Q:VK) (E:XK),m9 k (A.deeper (envOfC qual scope s.heap.objs.size f cdv))->sp vs H Q E->
     ∃t,Q3 (V5 CX P w K mg base N qual scope f cdv A outer s H E) body t/\t {nx:=fun _ H'=>Q .non H',rt:=Q} (Q8 N vs) H):
   j9 P w K mg base CX (k+1) f (PySem.W.fnOf name qual params body scope dV kV doc pm an cdv ct) ps sp:=by
 refine ⟨len,fun A outer s H args us vs Q E hr e0 hb r hsp=> ?_⟩;have hl:=len _ _ _ _ hsp
 have KX:K.In s.heap:=e0.mod.kin.keeps fun b o e=>(e0.bs b o e).1
 have lim:s.heap.NoLimit:=e0.mod.nolimit.keeps fun b o e=>(e0.bs b o e).1
 have hkind:∀y∈ps.zip us,scope.names.lookup y.1=some .local\/(scope.names.lookup y.1=some .cell/\((cellsFrom (s.heap.objs.size+1) scope.names []).lookup y.1).isSome=true):=fun ⟨n,v⟩ hy=>by
   rcases S.par n (cx8 hy).1 with q|q
   · exact .inl q
   · exact .inr ⟨q,PySem.W.cellsFrom_some _ _ _ (.inl q)⟩
 refine codeAny_call_function hr.depth (KX _ _ lk) rfl S.co S.gen rfl (PySem.W.codeRec_of KX hcd) (hb _ _ _ _ ?_)
 refine wpAny_newFunctionEnv_cells S.kind hkind fun env he s1 x=> ?_
 subst he;refine ⟨lim.keeps x.toInCall.keep,codeAny_func ?_⟩;obtain ⟨t,ht,hq⟩:=hbody A outer s H vs Q E (hr.deeper _) hsp;have I:g9 (V5 CX P w K mg base N qual scope f cdv A outer s H E) [] (Q8 N vs) H s1:=bf8 S hr.hd e0 hl r x
 refine wpAny_mono (ht [] s1 (Q8 N vs) H _ I hq) (fun fl s' hs=> ?_) fun e s' hs=>hs
 have fin:∀{σ':St} {H':Hp} {v:V} {u:Value},g9 (V5 CX P w K mg base N qual scope f cdv A outer s H E) [] σ' H' s'->l6 v u->Q v H'->CE outer P w H s Q u s':=
   fun {σ' H' v u} J rv q=>⟨v,H',J.os,J.bare,J.base,J.hok,rv,q⟩
 cases fl with
 |ret u=>
  obtain ⟨v,σ',H',J,rv,q⟩:=hs;exact fin J rv q
 |next=>
  obtain ⟨σ',H',J,q⟩:=hs;exact fin (v:=V.non) (u:=Value.none) J rfl q
 |brk=>
  obtain ⟨_,_,_,q⟩:=hs;exact False.elim q
 |cont=>
  obtain ⟨_,_,_,q⟩:=hs;exact False.elim q
end L2
namespace L2
open PySem PySem.Spec PyProof.Rows
section
variable {X:Cx} {x:Str} {p pos:Pos} {e:Expr} {es:List Expr} {t:TA} {id T:String} {r:List V->Hp->VK->Prop}
def U6 (r:List V->Hp->VK->Prop)(t:TA):TE:=fun σ H Q=>t σ H fun vs H1=>r vs H1 Q
theorem N0 (hc:K3 X (.builtin id) r)(hg:Gl X x)(hm:X.mg x=none)(hv:bootBuiltins x=some (.builtin id))(ha:PA X (e::es) t)(hn:x≠"__name__":=by decide)(hdb:(x==("__debug__":Str))=false:=by decide)
   (he:starEach (e::es) X.env=(false,eval e X.env)::starEach es X.env:=by rfl) (hpl:(backTo pos (starEach es X.env)).any (·.1)=false:=by rfl):PE X (.Call (.Name x p) (e::es) [] pos) (U6 r t):=by
 intro pins s σ H Q I h;refine wpAny_Call_Name_kw (S1 I hg hm hv ?_ hn hdb);exact PyProof.Rows.callWith_builtin1 (k7 (ha pos pins s σ H _ I h) fun us s1 ⟨vs,H1,I1,r1,q1⟩=>hc pins s1 σ H1 vs us Q I1 r1 q1) he hpl
theorem U7 (hc:K3 X (.type T) r)(hg:Gl X x)(hm:X.mg x=none)(hv:bootBuiltins x=some (.type T))(ha:PA X (e::es) t)(hn:x≠"__name__":=by decide)(hdb:(x==("__debug__":Str))=false:=by decide)
   (he:starEach (e::es) X.env=(false,eval e X.env)::starEach es X.env:=by rfl) (hpl:(backTo pos (starEach es X.env)).any (·.1)=false:=by rfl):PE X (.Call (.Name x p) (e::es) [] pos) (U6 r t):=by
 intro pins s σ H Q I h;refine wpAny_Call_Name_kw (S1 I hg hm hv ?_ hn hdb);exact PyProof.Rows.callWith_type1 (k7 (ha pos pins s σ H _ I h) fun us s1 ⟨vs,H1,I1,r1,q1⟩=>hc pins s1 σ H1 vs us Q I1 r1 q1) he hpl
end
end L2
namespace HT
open PySem PyProof.Rows
def ad5:List Int->List Int->Bool
 |[],[]=>false
 |[],_::_=>true
 |_::_,[]=>false
 |x::xs,y::ys=>if x=y then ad5 xs ys else decide (x < y)
theorem bc0 (x y:Int)(xs ys:List Int):ad5 (x::xs) (y::ys)=if x=y then ad5 xs ys else decide (x < y):=rfl
theorem bs4 (y:Int)(ys:List Int):ad5 [] (y::ys)=true:=rfl
theorem bm4 (A:Around)(s:Shared)(a:Int)(t:Tok)(c:Int)(u:Tok):∃e,SeqAt.EqAt A s (.int a t) (.int c u) e/\(e=true↔a=c):=
 ⟨(a==c),SeqAt.EqAt.int_int a t c u,by simp⟩
theorem bm5 (A:Around)(s:Shared)(a:Int)(t:Tok)(c:Int)(u:Tok)(prog:Program)(w:World)(E:Value->Shared->Prop)(Q:Value->Shared->Prop)(h:Q (.bool (decide (a < c))) s):
   wpAny (model prog w) A (richCompare .Lt (.int a t) (.int c u)) Q E s:=
 (PyProof.Rows.lt_int h:wpAny (model prog w) A (compareOp .Lt (.int a t) (.int c u)) Q E s)
section
variable {prog:Program} {w:World} {A:Around} {E:Value->Shared->Prop} {s:Shared}
def sIx (n d:Nat):Option Int->Nat
 |none=>d
 |some v=>if v < 0 then (v+(n:Int)).toNat else min v.toNat n
theorem cf9 (n d:Nat):sIx n d none=d:=rfl
theorem ch5 (n d k:Nat):sIx n d (some (k:Int))=min k n:=by
 show (if (k:Int) < 0 then ((k:Int)+(n:Int)).toNat else min (k:Int).toNat n)=min k n;rw[if_neg (by omega),cm2]
end
end HT
namespace L2
open PySem PySem.Spec PyProof.Rows
abbrev TO:=St->Hp->(Option Int->Hp->Prop)->Prop
def PO (X:Cx)(e:Option Expr)(t:TO):Prop:=
 ∀(pins:List (Addr×Obj)) (s:Shared) (σ:St) (H:Hp) (Q:Option Int->Hp->Prop),g9 X pins σ H s->t σ H Q->
  wpAny (model X.prog X.w) X.A (evalPart e X.env) (fun u s'=>∃o H',g9 X pins σ H' s'/\IsPart u o/\Q o H') X.xe s
def bs5:TO:=fun _ H Q=>Q none H
def cc0 (t:TE):TO:=fun σ H Q=>t σ H fun x H1=>∃i,x= .int i/\Q (some i) H1
theorem Y2 {ns:List Int}:∀{us:List Value},j6 (ns.map V.int) us->IntsAre us ns:=by
 induction ns with
 |nil=>intro us r;rw[cv5] at r;cases r;exact .nil
 |cons n ns ih=>
  intro us r;rw[cm7] at r
  cases r with
  |cons r1 r2=>
   obtain ⟨t,e⟩:=r1;subst e;exact .cons n t (ih r2)
section
variable {X:Cx} {e:Expr} {te:TE} {lo hi:Option Expr} {tl th:TO} {pos p2:Pos}
theorem az0:PO X none bs5:=by
 intro pins s σ H Q I h;rw[evalPart_none];exact wpAny_pure ⟨none,H,I,.none,h⟩
theorem ad6 (h:PE X e te):PO X (some e) (cc0 te):=by
 intro pins s σ H Q I hw;rw[evalPart_some]
 refine k7 (h pins s σ H _ I hw) fun u s1 ⟨x,H1,I1,r1,q1⟩=> ?_
 obtain ⟨i,rfl,q⟩:=q1;obtain ⟨t,rfl⟩:=r1;exact ⟨some i,H1,I1,.int i t,q⟩
def SlR (X:Cx)(r:V->Option Int->Option Int->Hp->VK->Prop):Prop:=
 ∀(pins:List (Addr×Obj)) (s:Shared) (σ:St) (H:Hp) (x:V) (v vl vu:Value) (lo hi:Option Int) (sl:Addr) (Q:VK),g9 X pins σ H s->l6 x v->s.heap.IsSliceOf sl vl vu .none->IsPart vl lo->IsPart vu hi->r x lo hi H Q->
  ∃T id,typeLookup (.type T) "__getitem__"=pure (some (.builtin id))/\s.TypeIs v T/\wpAny (model X.prog X.w) X.A (getItem v (.ref sl)) (EP X pins σ Q) X.xe s
def tSl (r:V->Option Int->Option Int->Hp->VK->Prop)(te:TE)(tl th:TO):TE:=fun σ H Q=>te σ H fun x H1=>tl σ H1 fun l H2=>th σ H2 fun u H3=>r x l u H3 Q
theorem ag7 {r:V->Option Int->Option Int->Hp->VK->Prop}(hr:SlR X r)(he:PE X e te)(hl:PO X lo tl)(hu:PO X hi th):PE X (.Subscript e (.Slice lo hi none p2) pos) (tSl r te tl th):=by
 intro pins s σ H Q I h;refine Subscript_ (k7 (he pins s σ H _ I h) fun v s1 ⟨x,H1,I1,r1,q1⟩=> ?_);refine wpAny_Slice (k7 (hl pins s1 σ H1 _ I1 q1) fun vl s2 ⟨l,H2,I2,pl,q2⟩=>k7 (hu pins s2 σ H2 _ I2 q2) fun vu s3 ⟨u,H3,I3,pu,q3⟩=> ?_);rw[evalPart_none];refine wpAny_pure ?_
 have I4:g9 X pins σ H3 {s3 with heap:=s3.heap.push {cls:= .type "slice",data:= .fields #[vl,vu,.none]}}:=I3.kept (t':=s3.toks) fun b ob q=>Heap.get?_push_of_some _ q
 obtain ⟨T,id,hT,ht,hg⟩:=hr pins {s3 with heap:=s3.heap.push {cls:= .type "slice",data:= .fields #[vl,vu,.none]}} σ H3 x v vl vu l u s3.heap.objs.size Q I4 r1 (Heap.IsSliceOf.new ..) pl pu q3;show wpAny (model X.prog X.w) X.A (subscriptTail e (.Slice lo hi none p2) v (.ref s3.heap.objs.size)) (EP X pins σ Q) X.xe {s3 with heap:=s3.heap.push {cls:= .type "slice",data:= .fields #[vl,vu,.none]}};exact tail_any (ops:=[.ref s3.heap.objs.size,v]) ht hT hg (by with_unfolding_all rfl)
def S6 (xs:List V)(lo hi:Option Int):List V:=(xs.drop (HT.sIx xs.length 0 lo)).take (HT.sIx xs.length xs.length hi - HT.sIx xs.length 0 lo)
theorem ax1 (xs:List V)(lo hi:Option Int):(S6 xs lo hi).length<=xs.length:=by
 unfold S6;rw[cj9,cn4];omega
end
end L2
namespace L2
open PySem PySem.Spec PyProof.Rows
def X0 (n:Nat)(i:Int):Option Nat:=if 0<=i then (if i < n then some i.toNat else none) else if -(n:Int)<=i then some (i+n).toNat else none
def atI {α:Type}(xs:List α)(i:Int):Option α:=(X0 xs.length i).bind fun j=>xs[j]?
theorem al4 {n:Nat}{i:Int}{j:Nat}(h:X0 n i=some j):seqIndex? i n=some j/\j < n/\ -(n:Int)<=i/\i < n:=by
 unfold X0 at h
 by_cases h0:0<=i
 · rw[if_pos h0] at h
   by_cases h1:i < n
   · rw[if_pos h1] at h;have e:i.toNat=j:=Option.some.inj h;exact ⟨by rw[seqIndex_of h0 h1,e],by omega,by omega,h1⟩
   · rw[if_neg h1] at h;cases h
 · rw[if_neg h0] at h
   by_cases h1: -(n:Int)<=i
   · rw[if_pos h1] at h;have e:(i+n).toNat=j:=Option.some.inj h;exact ⟨by rw[seqIndex_neg (by omega) h1,e],by omega,h1,by omega⟩
   · rw[if_neg h1] at h;cases h
theorem bs6 {α:Type}{xs:List α}{i:Int}{v:α}(h:atI xs i=some v):∃j,seqIndex? i xs.length=some j/\xs[j]? =some v/\j < xs.length/\ -(xs.length:Int)<=i/\i < xs.length:=by
 unfold atI at h
 cases e:X0 xs.length i with
 |none=>rw[e] at h;cases h
 |some j=>
  rw[e] at h;obtain ⟨h1,h2,h3,h4⟩:=al4 e;exact ⟨j,h1,h,h2,h3,h4⟩
theorem D4 {α:Type}{xs:List α}{j:Nat}{v:α}(h:xs[j]? =some v):atI xs (j:Int)=some v:=by
 have hj:j < xs.length:=(ci9.mp h).1
 have e:X0 xs.length (j:Int)=some j:=by
   unfold X0;rw[if_pos (by omega),if_pos (by omega)];simp
 unfold atI;rw[e];exact h
def bs7 (b:Expr):Prop:=∀o i,subscripted b false o i=operate [o,i] (getItem o i)
def IxR (X:Cx)(r:R2):Prop:=
 ∀(value slice:Expr) (pins:List (Addr×Obj)) (s:Shared) (σ:St) (H:Hp) (x y:V) (v u:Value) (Q:VK),g9 X pins σ H s->l6 x v->l6 y u->r x y H Q->
  subscripted slice false v u=operate [v,u] (getItem v u)->wpAny (model X.prog X.w) X.A (subscriptTail value slice v u) (EP X pins σ Q) X.xe s
def MtR (X:Cx)(id:String)(r:V->List V->Hp->VK->Prop):Prop:=
 ∀(pins:List (Addr×Obj)) (s:Shared) (σ:St) (H:Hp) (x:V) (xs:List V) (v:Value) (us:List Value) (Q:VK),g9 X pins σ H s->l6 x v->j6 xs us->r x xs H Q->
  wpAny (model X.prog X.w) X.A (call (.builtin id) (v::us)) (EP X pins σ Q) X.xe s
section
variable {X:Cx} {a b:Expr} {ta tb:TE} {pos:Pos}
theorem A5 {r:R2}(hr:IxR X r)(ha:PE X a ta)(hb:PE X b tb)(hs:bs7 b):PE X (.Subscript a b pos) (tOp r ta tb):=by
 intro pins s σ H Q I h;exact Subscript_ (bl9 ha hb I h fun v u s2 x y H2 I2 rx ry q=>hr a b pins s2 σ H2 x y v u Q I2 rx ry q (hs _ _))
def al5 (K:PySem.W.Frag):R2:=fun x y H Q=>∃p xs i v,x= .ref p/\y= .int i/\i4 K H p xs/\atI xs i=some v/\Q v H
theorem p5:IxR X (al5 X.K):=by
 intro value slice pins s σ H x y v u Q I rx ry h hs;obtain ⟨p,xs,i,z,rfl,rfl,hq,he,q⟩:=h;cases rx;obtain ⟨t,rfl⟩:=ry;obtain ⟨its,r,pl,hz⟩:=I.list hq;obtain ⟨j,h1,h2,h3,h4,h5⟩:=bs6 he;obtain ⟨w,ew,rw'⟩:=r.get h2;have hl:=r.length;have hn:=ar8;have fin:EP X pins σ Q w s:=⟨z,H,I,rw',q⟩
 by_cases h0:0<=i
 · have hj:i.toNat=j:=by
     rw[seqIndex_of h0 h5] at h1;exact Option.some.inj h1
   exact item_listR pl.isList h0 (by omega) (by rw[hj];simpa using ew) fin hs
 · have hj:(i+(its.toArray.size:Int)).toNat=j:=by
     rw[seqIndex_neg (by omega) h4] at h1;rw[cj4,<-hl];exact Option.some.inj h1
   exact subscriptTail_builtinR (x:=w) pl.isList.typeIs slot_list_getitem.lookup
     (wpAny_getItem_list_neg (Q:=fun r s'=>r=w/\EP X pins σ Q r s') pl.isList (by omega) (by rw[cj4]<;>omega) (by omega) (by rw[hj];simpa using ew) ⟨rfl,fin⟩) hs
theorem bc1 (its:List Value)(n j:Nat)(u:Value):Obj.mapSeq (·.setIfInBounds j u) {cls:= .type "list",data:= .seq its.toArray n}={cls:= .type "list",data:= .seq (its.set j u).toArray n}:=by
 simp [Obj.mapSeq]
theorem g9.lst {pins:List (Addr×Obj)}{σ:St}{H:Hp}{s:Shared}{p:Addr}{xs:List V}(I:g9 X pins σ H s)(h:H p=some (.lst xs)):
   ∃(its:List Value) (n:Nat),j6 xs its/\s.heap.get? p=some {cls:= .type "list",data:= .seq its.toArray n}/\xs.length<=sizeLine:=by
 obtain ⟨z,its,n,r,e⟩:=I.hok p _ h;exact ⟨its,n,r,e,z⟩
theorem g9.lstUpd {pins:List (Addr×Obj)}{σ:St}{H:Hp}{s:Shared}{p:Addr}{xs ys:List V}{its its':List Value}{n n':Nat}{f:Obj->Obj}(I:g9 X pins σ H s)(h:H p=some (.lst xs))
   (ho:s.heap.get? p=some {cls:= .type "list",data:= .seq its.toArray n}) (hf:f {cls:= .type "list",data:= .seq its.toArray n}={cls:= .type "list",data:= .seq its'.toArray n'}) (r:j6 ys its') (hz:ys.length<=sizeLine) (t:Nat):
   g9 X pins σ (c9 H p (.lst ys)) {s with heap:=s.heap.update p f,toks:=t}:=by
 have e:(s.heap.update p f).get? p=some {cls:= .type "list",data:= .seq its'.toArray n'}:=by
   rw[Heap.get?_update_self f ho (by rw[hf]<;>rfl),hf]
 refine I.write (x:=p) (e:=p) (by rw[h];trivial) (.inl rfl) (fun b u hb q=>(Heap.get?_update_other _ _ (Ne.symm hb)).trans q) ⟨_,e⟩ ?_;exact ⟨hz,its',n',r,e⟩
def cc1:V->V->V->Hp->(Hp->Prop)->Prop:=fun o i v H Q=>∃p xs k j,o= .ref p/\i= .int k/\H p=some (.lst xs)/\X0 xs.length k=some j/\Q (c9 H p (.lst (xs.set j v)))
theorem N3:bx3 X cc1:=by
 intro pins s σ H o i v ov iv u Q I ro ri rv h;obtain ⟨p,xs,k,j,rfl,rfl,hp,hj,q⟩:=h;cases ro;obtain ⟨t,rfl⟩:=ri;obtain ⟨its,n,r,ho,hz⟩:=I.lst hp;obtain ⟨h1,h2,h3,h4⟩:=al4 hj;have hl:=r.length;have hn:=ar8
 have I':g9 X pins σ (c9 H p (.lst (xs.set j v))) {s with heap:=s.heap.update p (Obj.mapSeq (·.setIfInBounds j u))}:=
   I.lstUpd hp ho (bc1 its n j u) (r.set rv j) (by rw[ct2];exact hz) s.toks
 by_cases h0:0<=k
 · have hk:k.toNat=j:=by
     rw[seqIndex_of h0 h4] at h1;exact Option.some.inj h1
   exact PySem.W.ki_setAt ho h0 (by omega) (by rw[cj4,<-hl];exact h4) (by rw[hk];exact ⟨_,I',q⟩)
 · have hk:(k+(its.toArray.size:Int)).toNat=j:=by
     rw[seqIndex_neg (by omega) h3] at h1;rw[cj4,<-hl];exact Option.some.inj h1
   exact PySem.W.ki_setBack ho (by omega) (by rw[cj4,<-hl];exact h3) (by omega) (by rw[hk];exact ⟨_,I',q⟩)
theorem as0 (lo hi:Option Int)(n:Nat):(sliceBounds lo hi none n).1=((HT.sIx n 0 lo:Nat):Int)/\(sliceBounds lo hi none n).2.1=((HT.sIx n n hi:Nat):Int)/\(sliceBounds lo hi none n).2.2=1:=by
 refine ⟨?_,?_,rfl⟩
 · cases lo with
   |none=>simp [sliceBounds,HT.sIx]
   |some i=>
    simp only[sliceBounds,HT.sIx,Option.getD_none,show (1:Int) > 0 by decide,if_true]
    by_cases h:i < 0
    · simp only[h,if_true]<;>omega
    · simp only[h,if_false]<;>omega
 · cases hi with
   |none=>simp [sliceBounds,HT.sIx]
   |some i=>
    simp only[sliceBounds,HT.sIx,Option.getD_none,show (1:Int) > 0 by decide,if_true]
    by_cases h:i < 0
    · simp only[h,if_true]<;>omega
    · simp only[h,if_false]<;>omega
theorem aq1 (its:List Value)(lo hi:Option Int):slicePick its.toArray lo hi none=((its.drop (HT.sIx its.length 0 lo)).take (HT.sIx its.length its.length hi - HT.sIx its.length 0 lo)).toArray:=by
 obtain ⟨h1,h2,h3⟩:=as0 lo hi its.toArray.size;unfold slicePick;rw[h1,h2,h3]
 simp only[sliceRange_one,pick_run,cj4]<;>rfl
def cg0 (K:PySem.W.Frag):V->Option Int->Option Int->Hp->VK->Prop:=fun x lo hi H Q=>∃a xs,x= .ref a/\i4 K H a xs/\∀p,H p=none->Q (.ref p) (c9 H p (.lst (S6 xs lo hi)))
theorem al6:SlR X (cg0 X.K):=by
 intro pins s σ H x v vl vu lo hi sl Q I rx hs pl pu h;obtain ⟨a,xs,rfl,hx,q⟩:=h;cases rx;obtain ⟨its,r,ht,hz⟩:=I.list hx;have hlen:=r.length;refine ⟨"list",_,slot_list_getitem.lookup,ht.isList.typeIs,?_⟩;refine wpAny_getItem_list_slice ht.isList hs pl pu .none (by simp) ?_ (by rw[cj4]<;>omega);rw[aq1,<-hlen];refine ⟨.ref s.heap.objs.size,_,I.laid (t':=s.toks) (o:= .lst (S6 xs lo hi)) (fun b ob q=>Heap.get?_push_of_some _ q) (cj1 _) ?_,rfl,q _ (I.hok.fresh (cj1 _))⟩;exact ⟨cl9 (ax1 xs lo hi) hz,_,0,(r.drop (HT.sIx xs.length 0 lo)).take (HT.sIx xs.length xs.length hi - HT.sIx xs.length 0 lo),Heap.get?_push_size _ rfl⟩
def ar1:V->Bool
 | .non=>true
 | .bl _=>true
 | .int _=>true
 | .str _=>true
 |_=>false
def eqV:V->V->Bool
 | .non,.non=>true
 | .bl a,.bl b=>a==b
 | .bl a,.int b=>(if a then 1 else 0)==b
 | .int a,.bl b=>a==(if b then 1 else 0)
 | .int a,.int b=>a==b
 | .str a,.str b=>a==b
 |_,_=>false
theorem bx9 {A:Around}{s:Shared}{y x:V}{u v:Value}(ry:l6 y u)(rx:l6 x v)(fy:ar1 y=true)(fx:ar1 x=true):SeqAt.EqAt A s u v (eqV y x):=by
 cases y with
 |non=>
  cases ry
  cases x with
  |non=>cases rx;exact SeqAt.EqAt.same _
  |bl b=>cases rx;exact SeqAt.EqAt.none_bool b
  |int b=>obtain ⟨t,rfl⟩:=rx;exact SeqAt.EqAt.none_int b t
  |str b=>obtain ⟨t,rfl⟩:=rx;exact SeqAt.EqAt.none_str b t
  |_=>exact absurd (show false=true from fx) ck1
 |bl a=>
  cases ry
  cases x with
  |non=>cases rx;exact SeqAt.EqAt.bool_none a
  |bl b=>cases rx;exact SeqAt.EqAt.bool_bool a b
  |int b=>obtain ⟨t,rfl⟩:=rx;exact SeqAt.EqAt.bool_int a b t
  |str b=>obtain ⟨t,rfl⟩:=rx;exact SeqAt.EqAt.bool_str a b t
  |_=>exact absurd (show false=true from fx) ck1
 |int a=>
  obtain ⟨t',rfl⟩:=ry
  cases x with
  |non=>cases rx;exact SeqAt.EqAt.int_none a t'
  |bl b=>cases rx;exact SeqAt.EqAt.int_bool a t' b
  |int b=>obtain ⟨t,rfl⟩:=rx;exact SeqAt.EqAt.int_int a t' b t
  |str b=>obtain ⟨t,rfl⟩:=rx;exact SeqAt.EqAt.int_str a t' b t
  |_=>exact absurd (show false=true from fx) ck1
 |str a=>
  obtain ⟨t',rfl⟩:=ry
  cases x with
  |non=>cases rx;exact SeqAt.EqAt.str_none a t'
  |bl b=>cases rx;exact SeqAt.EqAt.str_bool a t' b
  |int b=>obtain ⟨t,rfl⟩:=rx;exact SeqAt.EqAt.str_int a t' b t
  |str b=>obtain ⟨t,rfl⟩:=rx;exact SeqAt.EqAt.str_str a t' b t
  |_=>exact absurd (show false=true from fx) ck1
 |_=>exact absurd (show false=true from fy) ck1
theorem as3:K3 X (.builtin "len") (fun xs H Q=>∃p ys,xs=[.ref p]/\(i4 X.K H p ys\/U5 X.K H p ys)/\Q (.int ys.length) H):=by
 intro pins s σ H xs us Q I r h;obtain ⟨p,ys,rfl,hq,q⟩:=h;obtain ⟨u,rfl,rx⟩:=O3 r;cases rx;have hn:=ar8
 rcases hq with hq|hq
 · obtain ⟨its,r',pl,hz⟩:=I.list hq;have hlen:=r'.length;exact Calls.call_len_list pl.isList (by simp only[cj4]<;>omega) ⟨.int ys.length,H,I.tok _,⟨s.toks+1,by rw[cj4,hlen]⟩,q⟩
 · obtain ⟨its,r',pl,hz⟩:=I.tuple hq;have hlen:=r'.length;exact len_tuple pl (by simp only[cj4]<;>omega) ⟨.int ys.length,H,I.tok _,⟨s.toks+1,by rw[cj4,hlen]⟩,q⟩
theorem as4:K3 X (.type "list") (fun xs H Q=>∃p ys,xs=[.ref p]/\(i4 X.K H p ys\/U5 X.K H p ys)/\∀l,H l=none->Q (.ref l) (c9 H l (.lst ys))):=by
 intro pins s σ H xs us Q I r h;obtain ⟨p,ys,rfl,hq,q⟩:=h;obtain ⟨u,rfl,rx⟩:=O3 r;cases rx
 have fin:∀(its:List Value),j6 ys its->ys.length<=sizeLine->∀(h':Heap) (c':Nat),(∀b o',s.heap.get? b=some o'->h'.get? b=some o')->
     h'.get? s.heap.objs.size=some {cls:= .type "list",dict:=none,data:= .seq its.toArray c',slots:= #[]}->EP X pins σ Q (.ref s.heap.objs.size) {s with heap:=h'}:=fun its r' hz h' c' kp e=>
   ⟨.ref s.heap.objs.size,_,I.laid (t':=s.toks) kp (cj1 _) (show o6 X.prog X.w _ h' _ (.lst ys) from ⟨hz,its,c',r',e⟩),rfl,q _ (I.hok.fresh (cj1 _))⟩
 rcases hq with hq|hq
 · obtain ⟨its,r',pl,hz⟩:=I.list hq;have hlen:=r'.length;obtain ⟨o,ho,hc,n,hd⟩:=pl.isList;exact call_list_seq p (.inl rfl) ho hc hd (fun h' c' kp e=>fin its r' hz h' c' kp e) (by simp only[cj4]<;>omega)
 · obtain ⟨its,r',pl,hz⟩:=I.tuple hq;have hlen:=r'.length;obtain ⟨o,ho,hc,n,hd⟩:=pl;exact call_list_seq p (.inr rfl) ho hc hd (fun h' c' kp e=>fin its r' hz h' c' kp e) (by simp only[cj4]<;>omega)
def tyV (K:PySem.W.Frag)(T:String)(x:V)(H:Hp):Prop:=match x with
 | .str _=>T="str"
 | .int _=>T="int"
 | .ref p=>(T="list"/\∃xs,i4 K H p xs)\/(T="tuple"/\∃o,K.lookup p=some o/\o.cls= .type "tuple"/\o.dict=none)\/
     (T="dict"/\((∃kvs,H p=some (.dK kvs))\/∃kvs,H p=some (.dT kvs)))\/(T="set"/\∃S n,H p=some (.set S n))
 |_=>False
theorem by1 {pins:List (Addr×Obj)}{σ:St}{H:Hp}{s:Shared}{T:String}{x:V}{v:Value}(I:g9 X pins σ H s)(r:l6 x v)(ty:tyV X.K T x H):
   s.TypeIs v T/\∀a,v= .ref a->∃ob,s.heap.get? a=some ob/\ob.dict=none:=by
 cases x with
 |str z=>
  obtain ⟨t,rfl⟩:=r;cases (show T="str" from ty);exact ⟨typeIs_str s z t,fun _ e=>nomatch e⟩
 |int i=>
  obtain ⟨t,rfl⟩:=r;cases (show T="int" from ty);exact ⟨typeIs_int s i t,fun _ e=>nomatch e⟩
 |ref p=>
  cases r
  rcases ty with ⟨rfl,xs,hq⟩|⟨rfl,o,hk,hc,hd⟩|⟨rfl,hk⟩|⟨rfl,S,n,hk⟩
  · obtain ⟨its,_,pl,_⟩:=I.list hq;refine ⟨pl.isList.typeIs,fun a e=> ?_⟩;cases e;obtain ⟨o,n,e,c,hd,_⟩:=pl;exact ⟨o,e,hd⟩
  · refine ⟨⟨o,I.kIn p o hk,hc⟩,fun a e=> ?_⟩;cases e;exact ⟨o,I.kIn _ o hk,hd⟩
  · have z:∃o,s.heap.get? p=some o/\o.ExactDict:=by
      rcases hk with ⟨kvs,hk⟩|⟨kvs,hk⟩
      · obtain ⟨_,_,_,_,o,_,_,e,ex,_⟩:=I.hok p _ hk;exact ⟨o,e,ex⟩
      · obtain ⟨_,_,_,_,o,_,_,e,ex,_⟩:=I.hok p _ hk;exact ⟨o,e,ex⟩
    obtain ⟨o,e,ex⟩:=z;refine ⟨⟨o,e,ex.1⟩,fun a e2=> ?_⟩;cases e2;exact ⟨o,e,ex.2.1⟩
  · obtain ⟨o,_,_,_,e,ex,_⟩:=I.hok p _ hk;refine ⟨⟨o,e,ex.1⟩,fun a e2=> ?_⟩;cases e2;exact ⟨o,e,ex.2.1⟩
 |_=>exact False.elim ty
def tBM (K:PySem.W.Frag)(T:String)(r:V->List V->Hp->VK->Prop)(to:TE)(t:TA):TE:=fun σ H Q=>to σ H fun x H1=>tyV K T x H1/\t σ H1 fun xs H2=>r x xs H2 Q
variable {o e:Expr} {es:List Expr} {to:TE} {t:TA} {name:Str} {apos cpos:Pos} {T id:String} {r:V->List V->Hp->VK->Prop}
theorem bc2 (pa:PlainAttrs T)(slot:Slot T name id)(hty:typeOf (.builtin id)=pure (.type "method_descriptor"))(hm:MtR X id r)(ho:PE X o to)(ha:PA X (e::es) t)
   (hbase:attributeBase o name X.env (eval o X.env)=eval o X.env:=by rfl)
   (hfew:((backTo cpos (starEach (e::es) X.env)).all (fun x=> !x.1)&&(backToKw cpos (keywordEach [] X.env)).all (fun x=>x.1.isSome)
     &&decide ((e::es).length+([]:List Keyword).length+(if ([]:List Keyword).isEmpty then 0 else 1) < 30))=true:=by rfl)
   (hline:(apos.endLine==cpos.line)=true:=by rfl) (hs:starEach (e::es) X.env=(false,eval e X.env)::starEach es X.env:=by rfl) (hplain:(backTo cpos (starEach es X.env)).any (·.1)=false:=by rfl):
   PE X (.Call (.Attribute o name apos) (e::es) [] cpos) (tBM X.K T r to t):=by
 intro pins s σ H Q I h;refine wpAny_Call_method_late hbase hfew hline rfl (k7 (ho pins s σ H _ I h) fun v s1 ⟨x,H1,I1,r1,ty,q1⟩=> ?_);obtain ⟨h1,h2⟩:=by1 I1 r1 ty;refine ⟨T,id,pa,slot,hty,h1,h2,?_⟩;have hA:=ha cpos pins s1 σ H1 _ I1 q1;rw[hs] at hA ⊢;refine Calls.callWith_builtin (by show (false||(backTo cpos (starEach es X.env)).any (·.1))=false;rw[hplain]<;>rfl) (Calls.evalArgs_plain ?_)
 exact k7 hA fun us s2 ⟨vs,H2,I2,r2,q2⟩=>hm pins s2 σ H2 x vs v us Q I2 r1 r2 q2
end
end L2
namespace L2
open PySem PySem.Spec PyProof.Rows
def MtM (X:Cx)(id:String)(r:V->List V->Hp->VK->Prop):Prop:=
 ∀(pins:List (Addr×Obj)) (s:Shared) (σ:St) (H:Hp) (x:V) (xs:List V) (v:Value) (us:List Value) (Q:VK),g9 X pins σ H s->l6 x v->j6 xs us->r x xs H Q->
  wpAny (model X.prog X.w) X.A (call (.builtin id) (v::us)) (EP X pins σ Q) X.xe s
theorem j6.one:∀{x:V} {us:List Value},j6 [x] us->∃u,us=[u]/\l6 x u
 |_,_,.cons r .nil=>⟨_,rfl,r⟩
theorem j6.eraseIdx:∀{xs:List V} {us:List Value} (i:Nat),j6 xs us->j6 (xs.eraseIdx i) (us.eraseIdx i)
 |_,_,_,.nil=> .nil
 |_,_,0,.cons _ t=>t
 |_,_,i+1,.cons r t=> .cons r (j6.eraseIdx i t)
theorem j6.rep {xs:List V}{us:List Value}(h:j6 xs us):∀k:Nat,j6 (cl3 k xs).flatten (cl3 k us).flatten
 |0=> .nil
 |k+1=>by
  rw[cp2,cp2,co4,co4];exact j6.append h (j6.rep h k)
theorem ao6 {α:Type}:∀(l:List α) (i:Nat),(l.eraseIdx i).length<=l.length
 |[],_=>cj1 _
 |_::_,0=>ct3 _
 |_::r,i+1=>Nat.succ_le_succ (ao6 r i)
theorem ao7 (its:List Value):∀(k:Nat) (acc:List Value),
   List.foldl (fun x1 x2=>x1++x2) acc.toArray (cl3 k its.toArray)=(acc++(cl3 k its).flatten).toArray
 |0,acc=>by simp
 |k+1,acc=>by
  have e:acc.toArray++its.toArray=(acc++its).toArray:=by simp
  have e2:(acc++its)++(cl3 k its).flatten=acc++(cl3 (k+1) its).flatten:=by
    rw[cp2,co4,cl1]
  rw[<-e2,<-ao7 its k (acc++its),<-e,cp2,List.foldl_cons]
section
variable {X:Cx} {pins:List (Addr×Obj)} {σ:St} {H:Hp} {s:Shared} {l b:Addr} {xs ys zs:List V}
theorem g9.lset {its its':List Value}{n:Nat}{f:Array Value->Array Value}{t':Nat}(I:g9 X pins σ H s)(hH:H l=some (.lst xs))
   (e:s.heap.get? l=some {cls:= .type "list",data:= .seq its.toArray n}) (hf:f its.toArray=its'.toArray) (hv:j6 ys its') (hz:ys.length<=sizeLine):
   g9 X pins σ (c9 H l (.lst ys)) {s with heap:=s.heap.update l (Obj.mapSeq f),toks:=t'}:=by
 have q:=PySem.IsL.update e f;rw[hf] at q;refine I.write (x:=l) (e:=l) (by rw[hH];exact trivial) (.inl rfl) (fun b' u hb hu=>(Heap.get?_update_other s.heap (Obj.mapSeq f) (Ne.symm hb)).trans hu) ⟨_,q⟩ ?_;exact ⟨hz,its',_,hv,q⟩
theorem g9.lnew {its:List Value}{t':Nat}(I:g9 X pins σ H s)(hv:j6 ys its)(hz:ys.length<=sizeLine):
   g9 X pins σ (c9 H s.heap.objs.size (.lst ys)) {s with heap:=s.heap.push {cls:= .type "list",data:= .seq its.toArray},toks:=t'}:=
 I.laid (fun _ _ q=>Heap.get?_push_of_some _ q) (cj1 _) ⟨hz,its,0,hv,Heap.get?_push_size _ rfl⟩
theorem g9.fresh (I:g9 X pins σ H s):H s.heap.objs.size=none:=I.hok.fresh (cj1 _)
theorem g9.lstM (I:g9 X pins σ H s)(hH:H l=some (.lst xs)):xs.length<=sizeLine/\∃(its:List Value) (n:Nat),j6 xs its/\xs.length=its.length/\s.heap.get? l=some {cls:= .type "list",data:= .seq its.toArray n}:=by
 obtain ⟨z,its,n,r,e⟩:=I.hok l _ hH;exact ⟨z,its,n,r,r.length,e⟩
theorem bm6 {n:Nat}(h:n<=sizeLine):Builtin.List.listTooLong n=false:=by
 unfold Builtin.List.listTooLong;exact decide_eq_false (by omega)
end
section
variable {X:Cx}
def az1:V->List V->Hp->VK->Prop:=fun x vs H Q=>∃l xs y,x= .ref l/\vs=[y]/\H l=some (.lst xs)/\xs.length < sizeLine/\Q .non (c9 H l (.lst (xs++[y])))
theorem bf9:MtM X "list.append" az1:=by
 intro pins s σ H x vs v us Q I rx rv h;obtain ⟨l,xs,y,rfl,rfl,hH,hz,q⟩:=h;cases rx;obtain ⟨u,rfl,ru⟩:=rv.one;obtain ⟨z,its,n,r,hl,e⟩:=I.lstM hH;refine call_meets F.slot_list_append ⟨_,e,rfl⟩ F.entry_list_append (F.args_list_append_2 _ _) (PySem.list_append l its.toArray n u (by rw[cj4];omega)) ⟨e,?_⟩;refine ⟨.non,_,I.lset (its':=its++[u]) hH e (by simp) (r.append (.cons ru .nil)) ?_,rfl,q⟩;rw[cj6,cq7];omega
def bg0:V->List V->Hp->VK->Prop:=fun x vs H Q=>∃l xs i k y,x= .ref l/\vs=[.int i]/\H l=some (.lst xs)/\ -(2^63)<=i/\i < 2^63/\seqIndex? i xs.length=some k/\xs[k]? =some y/\Q y (c9 H l (.lst (xs.eraseIdx k)))
theorem bm7:MtM X "list.pop" bg0:=by
 intro pins s σ H x vs v us Q I rx rv h;obtain ⟨l,xs,i,k,y,rfl,rfl,hH,h1,h2,hk,hy,q⟩:=h;cases rx;obtain ⟨u,rfl,ru⟩:=rv.one;obtain ⟨t,rfl⟩:=ru;obtain ⟨z,its,n,r,hl,e⟩:=I.lstM hH;obtain ⟨w,hw,rw'⟩:=r.get hy
 refine call_meets F.slot_list_pop ⟨_,e,rfl⟩ F.entry_list_pop (F.args_list_pop_2 _ _)
   (MeetsSeq.list_pop_at l its.toArray n i t k w (fitsIndex_both h1 h2) (by rw[cj4,<-hl];exact hk) (by rw[<-cm5];exact hw) (by rw[cj4];omega)) ⟨e,?_⟩
 refine ⟨y,_,I.lset (its':=its.eraseIdx k) hH e ?_ (r.eraseIdx k) ?_,rw',q⟩
 · show its.toArray.eraseIdxIfInBounds k=(its.eraseIdx k).toArray;rw[List.eraseIdxIfInBounds_toArray]
 · have:=ao6 xs k;omega
def cg1:R2:=fun x y H Q=>∃l b xs zs,x= .ref l/\y= .ref b/\H l=some (.lst xs)/\H b=some (.lst zs)/\xs.length+zs.length<=sizeLine/\∀p,H p=none->Q (.ref p) (c9 H p (.lst (xs++zs)))
theorem as5:G6 X (binaryOp .Add) cg1:=by
 intro pins s σ H x y v u Q I rx ry h;obtain ⟨l,b,xs,zs,rfl,rfl,hH,hB,hz,q⟩:=h;cases rx;cases ry;obtain ⟨z,its,n,r,hl,e⟩:=I.lstM hH;obtain ⟨z2,its2,n2,r2,hl2,e2⟩:=I.lstM hB;refine PySem.P.add_list e e2 ?_ (by rw[cj4,cj4];omega)
 have ea:its.toArray++its2.toArray=(its++its2).toArray:=by simp
 rw[ea];exact ⟨.ref _,_,I.lnew (t':=s.toks) (r.append r2) (by rw[cj6];omega),rfl,q _ I.fresh⟩
def cg2:R2:=fun x y H Q=>∃l k xs,x= .ref l/\y= .int k/\H l=some (.lst xs)/\ -(2^63)<=k/\k < 2^63/\xs.length*k.toNat<=sizeLine/\
 ∀p,H p=none->Q (.ref p) (c9 H p (.lst (cl3 k.toNat xs).flatten))
theorem bs8 {α:Type}(xs:List α)(k:Nat):(cl3 k xs).flatten.length=k*xs.length:=by
 induction k with
 |zero=>simp
 |succ k ih=>rw[cp2,co4,cj6,ih,Nat.succ_mul,cs3]
theorem bg1:G6 X (binaryOp .Mult) cg2:=by
 intro pins s σ H x y v u Q I rx ry h;obtain ⟨l,k,xs,rfl,rfl,hH,h1,h2,hz,q⟩:=h;cases rx;obtain ⟨t,rfl⟩:=ry;obtain ⟨z,its,n,r,hl,e⟩:=I.lstM hH
 have hlen:its.toArray.size*k.toNat<=sizeLine:=by rw[cj4,<-hl];exact hz
 have hcap:¬its.toArray.size*k.toNat > (2^63 - 1)/8:=by
   have:(sizeLine:Nat)<=(2^63 - 1)/8:=by decide
   omega
 have hfit:¬(!Builtin.List.listFitsIndex k)=true:=by
   rw[fitsIndex_both h1 h2];exact ck1
 have hlong:¬Builtin.List.listTooLong (its.toArray.size*k.toNat)=true:=by
   rw[bm6 hlen];exact ck1
 have hnew:List.foldl (fun x1 x2=>x1++x2) #[] (cl3 (if its.toArray.isEmpty=true then 0 else k.toNat) its.toArray)=(cl3 k.toNat its).flatten.toArray:=by
   have f0:∀m:Nat,List.foldl (fun x1 x2=>x1++x2) #[] (cl3 m its.toArray)=(cl3 m its).flatten.toArray:=fun m=>by
     have:=ao7 its m [];rw[List.nil_append] at this;exact this
   rw[f0]
   cases its with
   |nil=>simp
   |cons a r'=>rw[if_neg (by simp)]
 refine wpAny_binaryOp_repeat_ref (T:="list") (U:="int") (by decide) ⟨_,e,rfl⟩ (fun s'=>typeIs_int s' k t) noFill_list_mul F.fills_int_mul F.slot_int_rmul repeat_list F.slot_int_index.lookup
   (call_meets F.slot_int_rmul (typeIs_int s k t) F.entry_int_rmul (F.args_int_rmul_2 _ _) (int___rmul___int_list k t l its.toArray n)
     ⟨e,rfl,⟨_,e,rfl⟩,call_meets F.slot_list_mul ⟨_,e,rfl⟩ F.entry_list_mul (F.args_list_mul_2 _ _) (AutoListH.list___mul___list_int_3 l its.toArray n k t hfit hcap hlong) ⟨e,?_⟩⟩)
 rw[hnew];exact ⟨.ref _,_,I.lnew (t':=s.toks) (r.rep k.toNat) (by rw[bs8,Nat.mul_comm];exact hz),rfl,q _ I.fresh⟩
end
end L2
namespace L2
open PySem PySem.Spec PyProof.Rows
section
variable {κ:Type} [DecidableEq κ]
def y9 (kvs:List (κ×V))(k:κ):Option V:=(kvs.find? fun kv=>decide (kv.1=k)).map (·.2)
def K5 (kvs:List (κ×V))(k:κ)(v:V):List (κ×V):=
 if (kvs.any fun kv=>decide (kv.1=k))=true then kvs.map (fun kv=>if kv.1=k then (kv.1,v) else kv) else kvs++[(k,v)]
theorem N4 {p:κ×V}{r:List (κ×V)}{k:κ}(e:p.1=k):y9 (p::r) k=some p.2:=by simp [y9,cr7,e]
theorem K6 {p:κ×V}{r:List (κ×V)}{k:κ}(e:¬p.1=k):y9 (p::r) k=y9 r k:=by simp [y9,cr7,e]
theorem ag8 (k:κ):∀kvs:List (κ×V),(kvs.any fun kv=>decide (kv.1=k))=(y9 kvs k).isSome
 |[]=>rfl
 |p::r=>by
  rw[cu6]
  by_cases e:p.1=k
  · simp only[N4 e,decide_eq_true e,Bool.true_or,Option.isSome_some]
  · rw[K6 e,decide_eq_false e,Bool.false_or];exact ag8 k r
theorem af6 (kvs:List (κ×V))(k:κ)(v:V):(K5 kvs k v).length<=kvs.length+1:=by
 unfold K5
 split
 · rw[ci8];omega
 · rw[cj6,cl0,List.length_nil];omega
theorem ag9 {kvs:List (κ×V)}{k:κ}(v:V)(h:y9 kvs k=none):K5 kvs k v=kvs++[(k,v)]:=by
 unfold K5;rw[ag8,h];exact if_neg (by decide)
theorem R9.isSome_eq {o:Option V}{u:Option Value}(r:R9 o u):o.isSome=u.isSome:=by
 cases o with
 |none=>cases u with
  |none=>rfl
  |some _=>exact (show False from r).elim
 |some _=>cases u with
  |none=>exact (show False from r).elim
  |some _=>rfl
theorem KV.val {kvs:List (κ×V)}{vs:List (κ×Value)}(r:KV kvs vs)(k:κ):R9 (y9 kvs k) (valueAt vs k):=by
 unfold KV at r
 induction r with
 |nil=>exact True.intro
 |@cons p q ps qs h t ih=>
  obtain ⟨h1,h2⟩:=h
  by_cases e:p.1=k
  · have e':q.1=k:=h1.symm.trans e
    have b:valueAt (q::qs) k=some q.2:=by simp [valueAt,cr7,e']
    rw[N4 e,b];exact h2
  · have e':¬q.1=k:=fun z=>e (h1.trans z)
    have b:valueAt (q::qs) k=valueAt qs k:=by simp [valueAt,cr7,e']
    rw[K6 e,b];exact ih
theorem KV.any {kvs:List (κ×V)}{vs:List (κ×Value)}(r:KV kvs vs)(k:κ):(kvs.any fun kv=>decide (kv.1=k))=vs.any fun kv=>decide (kv.1=k):=by
 unfold KV at r
 induction r with
 |nil=>rfl
 |cons h t ih=>rw[cu6,cu6,ih,h.1]
theorem KV.repl {kvs:List (κ×V)}{vs:List (κ×Value)}(r:KV kvs vs)(k:κ){y:V}{u:Value}(ry:l6 y u):
   KV (kvs.map fun kv=>if kv.1=k then (kv.1,y) else kv) (vs.map fun kv=>if kv.1=k then (kv.1,u) else kv):=by
 unfold KV at r ⊢
 induction r with
 |nil=>exact .nil
 |@cons p q ps qs h t ih=>
  rw[cm7,cm7];refine .cons ?_ ih;obtain ⟨h1,h2⟩:=h
  by_cases e:p.1=k
  · rw[if_pos e,if_pos (h1.symm.trans e)];exact ⟨h1,ry⟩
  · rw[if_neg e,if_neg (fun z=>e (h1.trans z))];exact ⟨h1,h2⟩
theorem KV.put {kvs:List (κ×V)}{vs:List (κ×Value)}(r:KV kvs vs)(k:κ){y:V}{u:Value}(ry:l6 y u):KV (K5 kvs k y) (stored vs k u):=by
 unfold K5 stored;rw[r.any k]
 by_cases e:(vs.any fun kv=>decide (kv.1=k))=true
 · rw[if_pos e,if_pos e];exact r.repl k ry
 · rw[if_neg e,if_neg e];exact Paired.snoc r ⟨rfl,ry⟩
theorem KV.length {kvs:List (κ×V)}{vs:List (κ×Value)}(r:KV kvs vs):kvs.length=vs.length:=Paired.length r
end
theorem ad7 {P:Program}{w:World}{k:k6}{u:Value}(r:l6 (kV k) u):(p7 P w).is k u=true:=by
 cases k with
 |inl i=>obtain ⟨t,e⟩:=(show ∃t,u=Value.int i t from r);subst e;exact af3 P w i t
 |inr x=>obtain ⟨t,e⟩:=(show ∃t,u=Value.str x t from r);subst e;exact af4 P w x t
theorem ao8 {P:Program}{w:World}:∀{ks:List k6} {us:List Value},j6 (ks.map kV) us->ItemsAre (p7 P w) ks us
 |[],_,r=>by rw[cv5] at r;cases r;exact .nil
 |k::ks,_,r=>by
  rw[cm7] at r
  cases r with
  |cons h t=>exact .cons (ad7 h) (ao8 t)
abbrev KT (H:Hp):List (List k6×V)->List (List k6×Addr×Value)->Prop:=Paired fun p q=>p.1=q.1/\H q.2.1=some (.tup (p.1.map kV))/\l6 p.2 q.2.2
theorem KT.val {H:Hp}{kvs:List (List k6×V)}{xs:List (List k6×Addr×Value)}(r:KT H kvs xs)(k:List k6):R9 (y9 kvs k) ((atKey xs k).map (·.2)):=by
 induction r with
 |nil=>exact True.intro
 |@cons p q ps qs h t ih=>
  obtain ⟨h1,_,h2⟩:=h
  by_cases e:p.1=k
  · have e':q.1=k:=h1.symm.trans e
    have b:atKey (q::qs) k=some q.2:=by simp [atKey,cr7,e']
    rw[N4 e,b];exact h2
  · have e':¬q.1=k:=fun z=>e (h1.trans z)
    have b:atKey (q::qs) k=atKey qs k:=by simp [atKey,cr7,e']
    rw[K6 e,b];exact ih
theorem KT.repl {H:Hp}{kvs:List (List k6×V)}{xs:List (List k6×Addr×Value)}(r:KT H kvs xs)(k:List k6){y:V}{u:Value}(ry:l6 y u):
   KT H (kvs.map fun kv=>if kv.1=k then (kv.1,y) else kv) (xs.map (putAt k u)):=by
 induction r with
 |nil=>exact .nil
 |@cons p q ps qs h t ih=>
  rw[cm7,cm7];refine .cons ?_ ih;obtain ⟨h1,h2,h3⟩:=h;unfold putAt
  by_cases e:p.1=k
  · rw[if_pos e,if_pos (h1.symm.trans e)];exact ⟨h1,h2,ry⟩
  · rw[if_neg e,if_neg (fun z=>e (h1.trans z))];exact ⟨h1,h2,h3⟩
theorem KT.put {H:Hp}{kvs:List (List k6×V)}{xs:List (List k6×Addr×Value)}(r:KT H kvs xs)(k:List k6){b:Addr}{y:V}{u:Value}(hb:H b=some (.tup (k.map kV)))(ry:l6 y u):
   KT H (K5 kvs k y) (storedH xs k b u):=by
 have e:(kvs.any fun kv=>decide (kv.1=k))=(atKey xs k).isSome:=by
   rw[ag8,(r.val k).isSome_eq,cw8]
 unfold K5 storedH;rw[e]
 by_cases q:(atKey xs k).isSome=true
 · rw[if_pos q,if_pos q];exact r.repl k ry
 · rw[if_neg q,if_neg q];exact Paired.snoc r ⟨rfl,hb,ry⟩
theorem KT.keeps {H H':Hp}{kvs:List (List k6×V)}{xs:List (List k6×Addr×Value)}(r:KT H kvs xs)(ht:∀b ys,H b=some (.tup ys)->H' b=some (.tup ys)):KT H' kvs xs:=
 Paired.mapP r fun _ _ z=>⟨z.1,ht _ _ z.2.1,z.2.2⟩
section
variable {P:Program} {w:World} {H:Hp} {h:Heap} {a:Addr}
theorem br3 {u:HO}(ok:A9 P w H h)(e:Rd H a u):o6 P w H h a u:=e.ok ok
theorem ad8 {kvs:List (k6×V)}(ok:A9 P w H h)(e:Rd H a (.dK kvs)):kvs.length<=sizeLine/\(a==sysModules)=false/\∃vs,KV kvs vs/\h.DictOf (p7 P w) a vs:=
 show o6 P w H h a (.dK kvs) from br3 ok e
theorem br4 {kvs:List (k6×V)}(ok:A9 P w H h)(e:H a=some (.dK kvs)):kvs.length<=sizeLine/\(a==sysModules)=false/\∃vs,KV kvs vs/\h.DictOf (p7 P w) a vs:=ad8 ok (.inl e)
theorem ab1 {ks:List k6}(ok:A9 P w H h)(e:H a=some (.tup (ks.map kV))):(tupleKind (p7 P w)).is h ks a:=by
 obtain ⟨_,its,r,o,h1,h2,n,h3⟩:=(show o6 P w H h a (.tup (ks.map kV)) from ok a _ e);exact ⟨o,its.toArray,n,h1,h2,h3,by simpa using ao8 r⟩
theorem ad9 {kvs:List (List k6×V)}(ok:A9 P w H h)(e:Rd H a (.dT kvs)):kvs.length<=sizeLine/\(a==sysModules)=false/\
   ∃xs,KT H kvs xs/\h.DictOfH (tupleKind (p7 P w)) a xs:=by
 obtain ⟨z,y,xs,r,o,es,ep,h1,h2,h3,h4,h5⟩:=(show o6 P w H h a (.dT kvs) from br3 ok e);refine ⟨z,y,xs,r,o,es,ep,h1,h2,h3,h4,fun x hx=> ?_,h5⟩
 have all:∀{l:List (List k6×V)} {m:List (List k6×Addr×Value)},KT H l m->∀x∈m,(tupleKind (p7 P w)).is h x.1 x.2.1:=by
   intro l m q
   induction q with
   |nil=>intro x hx;exact nomatch hx
   |@cons p q ps qs hq t ih=>
    intro x hx
    rcases ck8.mp hx with e|hx
    · subst e;exact ab1 ok (by rw[<-hq.1];exact hq.2.1)
    · exact ih x hx
 exact all r x hx
theorem cc2 {kvs:List (List k6×V)}(ok:A9 P w H h)(e:H a=some (.dT kvs)):kvs.length<=sizeLine/\(a==sysModules)=false/\
 ∃xs,KT H kvs xs/\h.DictOfH (tupleKind (p7 P w)) a xs:=ad9 ok (.inl e)
end
def J8 (H:Hp)(a:Addr)(y:V)(r:Option V):Prop:=
 (∃kvs k,Rd H a (.dK kvs)/\y=kV k/\r=y9 kvs k)\/∃kvs k b,Rd H a (.dT kvs)/\y= .ref b/\H b=some (.tup (k.map kV))/\r=y9 kvs k
def ab2 (H:Hp)(a:Addr)(y v:V)(H':Hp):Prop:=
 (∃kvs k,H a=some (.dK kvs)/\y=kV k/\kvs.length < sizeLine/\H'=c9 H a (.dK (K5 kvs k v)))\/
 ∃kvs k b,H a=some (.dT kvs)/\y= .ref b/\H b=some (.tup (k.map kV))/\kvs.length < sizeLine/\H'=c9 H a (.dT (K5 kvs k v))
theorem J8.k {H:Hp}{a:Addr}{kvs:List (k6×V)}{k:k6}(e:H a=some (.dK kvs)):J8 H a (kV k) (y9 kvs k):= .inl ⟨kvs,k,.inl e,rfl,rfl⟩
theorem ab2.k {H:Hp}{a:Addr}{kvs:List (k6×V)}{k:k6}{v:V}(e:H a=some (.dK kvs))(hl:kvs.length < sizeLine):ab2 H a (kV k) v (c9 H a (.dK (K5 kvs k v))):= .inl ⟨kvs,k,e,rfl,hl,rfl⟩
section
variable {X:Cx} {pins:List (Addr×Obj)} {σ:St} {H:Hp} {s:Shared} {a:Addr} {y v:V} {u r:Value} {o:Option V} {A:Around} {E:Value->Shared->Prop}
theorem g9.big (I:g9 X pins σ H s):sysModules < s.heap.objs.size:=by
 have h:mainGlobals < s.heap.objs.size:=(I.mod.glob.keeps I.bk).lt;exact Nat.lt_trans (by decide) h
theorem bg2 {Q:Value->Shared->Prop}(hu:A.units+1 < cLine)(I:g9 X pins σ H s)(g:J8 H a y (some v))(ry:l6 y u)(h:∀w' s',g9 X pins σ H s'->l6 v w'->Q w' s'):
   wpAny (model X.prog X.w) A (getItem (.ref a) u) Q E s:=by
 rcases g with ⟨kvs,k,e,ey,l⟩|⟨kvs,k,b,e,ey,eb,l⟩
 · subst ey;obtain ⟨z,hd,vs,rel,dd⟩:=ad8 I.hok e;obtain ⟨w',hw,rw'⟩:=R9.some_of (v:=v) (o:=valueAt vs k) (by rw[l];exact rel.val k);exact wpAny_getItem_of (ad7 ry) dd.mapOf hw (h w' _ (I.tok _) rw')
 · subst ey;cases (show u=Value.ref b from ry);obtain ⟨z,hd,xs,rel,dd⟩:=ad9 I.hok e;obtain ⟨w',hw,rw'⟩:=R9.some_of (v:=v) (o:=(atKey xs k).map (·.2)) (by rw[l];exact rel.val k);obtain ⟨p,hp,hp2⟩:=Option.map_eq_some_iff.mp hw;refine wpAny_getItem_heap (tupleKind_room_in1 hu) (ab1 I.hok eb) dd hp ?_;rw[hp2];exact h w' _ (I.tok _) rw'
theorem cg3 {Q:Value->Shared->Prop}(hu:A.units+1 < cLine)(I:g9 X pins σ H s)(g:J8 H a y o)(ry:l6 y u)(h:∀s',g9 X pins σ H s'->Q (.bool o.isSome) s'):
   wpAny (model X.prog X.w) A (compareOp .In u (.ref a)) Q E s:=by
 rcases g with ⟨kvs,k,e,ey,l⟩|⟨kvs,k,b,e,ey,eb,l⟩
 · subst ey;obtain ⟨z,hd,vs,rel,dd⟩:=ad8 I.hok e;refine wpAny_in_of (ad7 ry) hd dd.mapOf ?_;rw[<-(rel.val k).isSome_eq,<-l];exact h _ (I.tok _)
 · subst ey;cases (show u=Value.ref b from ry);obtain ⟨z,hd,xs,rel,dd⟩:=ad9 I.hok e;refine wpAny_in_heap (tupleKind_room_in1 hu) (ab1 I.hok eb) hd dd ?_;have q:=(rel.val k).isSome_eq;rw[cw8] at q;rw[<-q,<-l];exact h _ (I.tok _)
theorem bs9 {Q:Value->Shared->Prop}(hu:A.units+1 < cLine)(I:g9 X pins σ H s)(g:J8 H a y o)(ry:l6 y u)(h:∀s',g9 X pins σ H s'->Q (.bool (!o.isSome)) s'):
   wpAny (model X.prog X.w) A (compareOp .NotIn u (.ref a)) Q E s:=by
 rcases g with ⟨kvs,k,e,ey,l⟩|⟨kvs,k,b,e,ey,eb,l⟩
 · subst ey;obtain ⟨z,hd,vs,rel,dd⟩:=ad8 I.hok e;refine wpAny_notIn_of (ad7 ry) hd dd.mapOf ?_;rw[<-(rel.val k).isSome_eq,<-l];exact h _ (I.tok _)
 · subst ey;cases (show u=Value.ref b from ry);obtain ⟨z,hd,xs,rel,dd⟩:=ad9 I.hok e;refine wpAny_notIn_heap (tupleKind_room_in1 hu) (ab1 I.hok eb) hd dd ?_;have q:=(rel.val k).isSome_eq;rw[cw8] at q;rw[<-q,<-l];exact h _ (I.tok _)
theorem ae0 {h':Heap}{t':Nat}{ob:HO}(I:g9 X pins σ H s)(mu:Mut (H a))(hs:Heap.SameBut a s.heap h')(he:∃q,h'.get? a=some q)(new:o6 X.prog X.w (c9 H a ob) h' a ob):
   g9 X pins σ (c9 H a ob) {s with heap:=h',toks:=t'}:=
 I.write (x:=a) (e:=a) mu (.inl rfl) (fun b q hb z=>(hs.2 b hb).trans z) he new
theorem bg3 {P:Program}{w:World}{H':Hp}{h':Heap}{kvs:List (k6×V)}{vs:List (k6×Value)}(z:kvs.length<=sizeLine)(hd:(a==sysModules)=false)(rel:KV kvs vs)(dd:h'.DictOf (p7 P w) a vs):
 o6 P w H' h' a (.dK kvs):=⟨z,hd,vs,rel,dd⟩
theorem bg4 {H':Hp}{Q:Unit->Shared->Prop}(hu:A.units+1 < cLine)(I:g9 X pins σ H s)(g:ab2 H a y v H')(ry:l6 y u)(rv:l6 v r)(h:∀s',g9 X pins σ H' s'->Q () s'):
   wpAny (model X.prog X.w) A (setItem (.ref a) u r) Q E s:=by
 rcases g with ⟨kvs,k,e,ey,l,eH⟩|⟨kvs,k,b,e,ey,eb,l,eH⟩
 · subst ey eH;obtain ⟨z,hd,vs,rel,dd⟩:=br4 I.hok e
   have hz:vs.length<=sizeLine:=by rw[<-rel.length];exact z
   have hl:(K5 kvs k v).length<=sizeLine:=by have:=af6 kvs k v;omega
   refine wpAny_setItem_pairs (hsz:=hz) (ad7 ry) dd fun h' dd' hs=>h _ ?_
   have he:∃q,h'.get? a=some q:=let ⟨q,_,_,hq,_⟩:=dd';⟨q,hq⟩;exact ae0 I (by rw[e];exact True.intro) hs he (bg3 hl hd (rel.put k rv) dd')
 · subst ey eH;cases (show u=Value.ref b from ry);obtain ⟨z,hd,xs,rel,dd⟩:=cc2 I.hok e
   have hz:xs.length<=sizeLine:=by rw[<-Paired.length rel];exact z
   have hl:(K5 kvs k v).length<=sizeLine:=by have:=af6 kvs k v;omega
   refine wpAny_setItem_heap (hsz:=hz) (tupleKind_room_in1 hu) (ab1 I.hok eb) dd fun h' dd' hs=>h _ ?_
   obtain ⟨q,es,ep,hq,h2,h3,h4,_,h5⟩:=dd';refine ae0 I (by rw[e];exact True.intro) hs ⟨q,hq⟩ ⟨hl,hd,_,(rel.put k eb rv).keeps fun c ys ec=> ?_,q,es,ep,hq,h2,h3,h4,h5⟩;rw[g8 (bq5 ec e (fun z=>nomatch z))];exact ec
end
def by3 (i:Expr):Prop:=∀ov iv,subscripted i false ov iv=operate [ov,iv] (getItem ov iv)
theorem bt0 {prog:Program}{w:World}{A:Around}{E:Value->Shared->Prop}{s:Shared}{env:Env}{value slice:Expr}{pos:Pos}{T id:String}{Q:Value->Shared->Prop}
   (hl:typeLookup (.type T) "__getitem__"=pure (some (.builtin id))) (hs:by3 slice)
   (h:wpAny (model prog w) A (eval value env) (fun o s₁=>wpAny (model prog w) A (eval slice env) (fun i s₂=>s₂.TypeIs o T/\wpAny (model prog w) A (getItem o i) Q E s₂) E s₁) E s):
   wpAny (model prog w) A (eval (.Subscript value slice pos) env) Q E s:=by
 refine Subscript_ (wpAny_mono h (fun o s₁ h₁=>wpAny_mono h₁ (fun i s₂ h₂=> ?_) fun _ _ x=>x) fun _ _ x=>x);obtain ⟨hT,h₂⟩:=h₂;unfold subscriptTail;refine wpAny_bind ?_;rw[getitemInPython_of_ne hT.not_modules];refine wpAny_bind (wpAny_specialOf hT hl ?_)
 have fin:wpAny (model prog w) A (subscripted slice false o i) (fun r s₃=>wpAny (model prog w) A (letTemporaryGo value o r >>=fun _=>pure r) Q E s₃) E s₂:=by
   rw[hs o i];exact wpAny_operating (wpAny_mono h₂ (fun r s₃ h₃=>wpAny_bind (wpAny_letTemporaryGo (wpAny_pure h₃))) fun _ _ x=>x)
 first
   |exact wpAny_pure (wpAny_bind fin)
   |exact wpAny_bind (wpAny_pure (wpAny_bind fin))
   |exact wpAny_bind fin
theorem V6 {X:Cx}{pins:List (Addr×Obj)}{σ:St}{H:Hp}{s:Shared}{a:Addr}{y:V}{o:Option V}(I:g9 X pins σ H s)(g:J8 H a y o):s.TypeIs (.ref a) "dict":=by
 rcases g with ⟨kvs,k,e,_,_⟩|⟨kvs,k,b,e,_,_,_⟩
 · obtain ⟨_,_,vs,_,dd⟩:=ad8 I.hok e;exact dd.typeIs
 · obtain ⟨_,_,xs,_,dd⟩:=ad9 I.hok e;exact dd.typeIs
theorem ax2 {X:Cx}{pins:List (Addr×Obj)}{σ:St}{H:Hp}{s:Shared}{a:Addr}{y:V}{o:Option V}(I:g9 X pins σ H s)(g:J8 H a y o):
   ∀b,Value.ref a= .ref b->∃ob,s.heap.get? b=some ob/\ob.dict=none:=fun b q=>by
 cases q
 rcases g with ⟨kvs,k,e,_,_⟩|⟨kvs,k,b,e,_,_,_⟩
 · obtain ⟨_,_,vs,_,ob,_,_,h1,h2,_⟩:=ad8 I.hok e;exact ⟨ob,h1,h2.2.1⟩
 · obtain ⟨_,_,xs,_,ob,_,_,h1,h2,_⟩:=ad9 I.hok e;exact ⟨ob,h1,h2.2.1⟩
def cc3 (td ty:TE):TE:=fun σ H Q=>td σ H fun x H1=>ty σ H1 fun y H2=>∃a v,x= .ref a/\J8 H2 a y (some v)/\Q v H2
def cg4 (ty td:TE):TE:=fun σ H Q=>ty σ H fun y H1=>td σ H1 fun x H2=>∃a o,x= .ref a/\J8 H2 a y o/\Q (.bl o.isSome) H2
def bt1 (ty td:TE):TE:=fun σ H Q=>ty σ H fun y H1=>td σ H1 fun x H2=>∃a o,x= .ref a/\J8 H2 a y o/\Q (.bl (!o.isSome)) H2
def cc4 (td ty tv:TE):TS:=fun D σ H=>tv σ H fun v H1=>td σ H1 fun x H2=>ty σ H2 fun y H3=>∃a H4,x= .ref a/\ab2 H3 a y v H4/\D.nx σ H4
section
variable {X:Cx} {o i e value:Expr} {pos pos' tpos:Pos} {td ty tv:TE}
theorem al7 (hu:X.A.units+1 < cLine)(ho:PE X o td)(hi:PE X i ty)(hs:by3 i):PE X (.Subscript o i pos) (cc3 td ty):=by
 intro pins s σ H Q I h;refine bt0 PySem.F.slot_dict_getitem.lookup hs (k7 (ho pins s σ H _ I h) fun u s1 ⟨x,H1,I1,rx,q1⟩=>k7 (hi pins s1 σ H1 _ I1 q1) fun iv s2 ⟨y,H2,I2,ry,a,v,ex,g,q2⟩=> ?_);subst ex;obtain rfl:u=Value.ref a:=rx;exact ⟨V6 I2 g,bg2 hu I2 g ry fun w' s3 I3 rw'=>⟨v,H2,I3,rw',q2⟩⟩
theorem bg5 (hu:X.A.units+1 < cLine)(hi:PE X i ty)(ho:PE X o td):PC X .In i o (cg4 ty td):=by
 intro pins s σ H Q I h
 refine k7 (hi pins s σ H _ I h) fun iv s1 ⟨y,H1,I1,ry,q1⟩=>k7 (ho pins s1 σ H1 _ I1 q1) fun u s2 ⟨x,H2,I2,rx,a,ov,ex,g,q2⟩=> ?_
 subst ex;obtain rfl:u=Value.ref a:=rx
 exact cg3 hu I2 g ry fun s3 I3=>⟨.bl ov.isSome,H2,I3,rfl,q2⟩
theorem ab3 (hu:X.A.units+1 < cLine)(hi:PE X i ty)(ho:PE X o td):PC X .NotIn i o (bt1 ty td):=by
 intro pins s σ H Q I h
 refine k7 (hi pins s σ H _ I h) fun iv s1 ⟨y,H1,I1,ry,q1⟩=>k7 (ho pins s1 σ H1 _ I1 q1) fun u s2 ⟨x,H2,I2,rx,a,ov,ex,g,q2⟩=> ?_
 subst ex;obtain rfl:u=Value.ref a:=rx
 exact bs9 hu I2 g ry fun s3 I3=>⟨.bl (!ov.isSome),H2,I3,rfl,q2⟩
theorem ae1 (hu:X.A.units+1 < cLine)(ho:PE X o td)(hi:PE X i ty)(hv:PE X value tv)(hs:swapsWith value (some (.Subscript o i pos')) pos.line X.env=pure false):
   PS X (.Assign [.Subscript o i pos'] value pos) (cc4 td ty tv):=by
 intro pins s σ H D I h;refine wpAny_Assign_Subscript (k7 (hv pins s σ H _ I h) fun r s1 ⟨v,H1,I1,rv,q1⟩=>k7 (ho pins s1 σ H1 _ I1 q1) fun u s2 ⟨x,H2,I2,rx,q2⟩=>k7 (hi pins s2 σ H2 _ I2 q2) fun iv s3 ⟨y,H3,I3,ry,a,H4,ex,g,q3⟩=> ?_) hs;subst ex;obtain rfl:u=Value.ref a:=rx
 exact bg4 hu I3 g ry rv fun s4 I4=>⟨σ,H4,I4,q3⟩
end
theorem bm8 {P:Program}{w:World}{H:Hp}(h:Heap)(hb:sysModules < h.objs.size):o6 P w H (h.push {cls:= .type "dict",data:= .dict #[]}) h.objs.size (.dK []):=
 ⟨cl4 _,beq_eq_false_iff_ne.mpr (Ne.symm (cl2 hb)),[],.nil,Heap.DictOf.new h⟩
def by4:TE:=fun _ H Q=>∀p,H p=none->Q (.ref p) (c9 H p (.dK []))
section
variable {X:Cx} {pos:Pos}
theorem S7:PE X (.Dict [] [] pos) by4:=fun pins s σ H Q I h=>
 wpAny_Dict_empty ⟨.ref s.heap.objs.size,_,I.laid (a:=s.heap.objs.size) (o:= .dK []) (t':=s.toks) (fun _ _ q=>Heap.get?_push_of_some _ q) (cj1 _) (bm8 s.heap I.big),rfl,h _ (I.hok.fresh (cj1 _))⟩
end
end L2
namespace Att
open PySem PySem.W PySem.Calls PyProof.Rows
theorem ai6 {P:Params}{h:Heap}:∀(ns:List Int) (vs:List Value),WellAll P h vs (ns.map WData.int)->IntsAre vs ns:=by
 intro ns
 induction ns with
 |nil=>
  intro vs w;rw[cv5] at w;cases w;exact .nil
 |cons n ns ih=>
  intro vs w;rw[cm7] at w
  cases w with
  |cons a b=>
   cases a;exact .cons _ _ (ih _ b)
theorem bg6 {l:OpenLaw}{n:Nat}(hn:l.most=some n){P:Params}{h:Heap}{args:List WData}{vals:List Value}
   (hpre:l.row.toRowW.claim.pre args=true) (hwl:WellAll P h vals args):
   ∃a vs ns,vals=[Value.ref a]/\args=[WData.list (ns.map WData.int)]/\h.get? a=some {cls:= .type "list",data:= .seq vs.toArray}/\IntsAre vs ns/\ns.length<=n:=by
 have hsh:WShape.hasAll [] args [.list .int]=true:=(pre_splitW hpre).1;have hc:l.pre.holds [] {args:=args}=true:=(pre_splitW hpre).2;obtain ⟨d,r,rfl,h1,h2⟩:=hasAllW_cons hsh;obtain rfl:=hasAllW_nil h2;obtain ⟨xs,rfl,h3⟩:=hasW_list h1;obtain ⟨ns,rfl⟩:=items_int h3
 have hlen:ns.length<=n:=by
   unfold OpenLaw.pre at hc
   have h4:(WTm.not (.lt (.lit (.int (n:Int))) (.len (.arg 0)))).holds [] {args:=[.list (ns.map .int)]}=true:=by
     have h4:=(holds_andW hc).1;rw[hn] at h4;exact h4
   have h5:=condW_of h4 (w_not (w_lt w_lit (w_len_list (w_arg rfl))));rw[ci8] at h5
   refine Nat.le_of_not_lt fun q=> ?_
   have q':(n:Int) < ((ns.length:Nat):Int):=by omega
   first
     |(rw[decide_eq_true q'] at h5;exact absurd h5 (by decide))
     |(simp at h5;omega)
 cases hwl with
 |cons w1 w2=>
  cases w2
  cases w1 with
  |list ho hall=>exact ⟨_,_,ns,rfl,rfl,ho,ai6 ns _ hall,hlen⟩
theorem bg7 (l:OpenLaw)(args:List WData):l.row.toRowW.claim.post args (.bool true) args=true:=
 postW_of (r:=l.row.toRowW) (X:=(true==true))
   (show WShape.has [] (.bool true) .bool=true by first|rfl|decide|simp [WShape.has,WShape.arms,WShape.armsAll])
   (show (WTm.eq .res (.lit (.bool true))).value [] {args:=args,res:=some (.bool true),after:=args}=some (.bool (true==true)) from w_eq_bool (w_res rfl) w_lit) rfl
theorem cb1 {l:OpenLaw}{n:Nat}{q:Program}{loose:List Str}{XP:(Str->Option Value)->Heap->Prop}{YP:World->Heap->Prop}{d:DefRec}
   (hn:l.most=some n) (hdf:d.params.defaults=[])
   (call:∀(w:World) (s₀ s₁:Shared) (mg mb:Str->Option Value) (fa:Addr) (o:Obj) (pm cd doc:Value) (a:Addr) (vs:List Value) (ns:List Int),
     Ground q loose [] XP w s₀ mg mb s₁.heap->YP w s₁.heap->
     s₁.heap.get? fa=some o->o.data= .func (docDef d.name d.params d.body d.scope pm cd doc)->s₁.heap.CodeRec cd d.name->mg d.name=some (.ref fa)->
     s₁.heap.get? a=some {cls:= .type "list",data:= .seq vs.toArray}->IntsAre vs ns->ns.length<=n->s₁.gens= #[]->
     codeAny (model l.prog w) callerA (.call (.ref fa) ⟨[.ref a],[]⟩) (fun r s'=>r= .ok (.ret (.bool true))/\OldK s₁.heap s'.heap/\s'.os=s₁.os/\AllBare s'.gens) s₁):
   WalkO q loose XP YP l.row.toRowW d [] (fun f vs=>PySem.call f vs):=by
 intro w s₀ s₁ mg mb G Y fa o pm cd doc dV kV ho hd hcd hD hmg hg args vals as hpre hlay hrd hwl hlo;obtain rfl:dV= .none:=Dflts.none hD hdf;obtain rfl:kV= .none:=Dflts.noKw hD;obtain ⟨a,vs,ns,rfl,rfl,hobj,hints,hlen⟩:=bg6 hn hpre hwl;refine enter_call (codeAny_mono (call w s₀ s₁ mg mb fa o pm cd doc a vs ns G Y ho (fd_plain hd) hcd hmg hobj hints hlen hg) fun r s' hq=> ?_);obtain ⟨rfl,h2,h3,h4⟩:=hq;exact ⟨.inl ⟨.bool true,.bool true,[],rfl,fun _=>rfl,.bool true,bg7 l _,fun _=>⟨List.Pairwise.nil,fun _ hm=>(nomatch hm)⟩⟩,h2,h3,h4⟩
end Att
namespace L2
open PySem PySem.Spec PyProof.Rows
theorem ab4:∀{vs:List Value} {ns:List Int},IntsAre vs ns->j6 (ns.map V.int) vs
 |_,_,.nil=> .nil
 |_,_,.cons n t h=> .cons ⟨t,rfl⟩ (ab4 h)
def bm9 (H:Hp):Prop:=∀b,H b=none\/∃o xs,H b=some (.frz o (.lst xs))
theorem bn0 {P:Program}{w:World}{K:PySem.W.Frag}{mg mb:Str->Option Value}{CX:Q4}{k:Nat}{fa a:Addr}{fd:FuncData}{x:Str}{sp:Sp}{s₁:Shared}{vs:List Value}{ns:List Int}
   (KX:K.In s₁.heap) (hns:s₁.heap.Ns mainGlobals mg) (hb:s₁.heap.Ns builtinsNs mb) (hbb:∀x:Str,x≠"__name__"->mb x=bootBuiltins x) (hlim:s₁.heap.NoLimit) (hg:s₁.gens= #[])
   (ha:s₁.heap.get? a=some {cls:= .type "list",data:= .seq vs.toArray}) (hi:IntsAre vs ns) (hl:ns.length<=sizeLine) (hr:m9 k callerA)
   (F:∀base:Heap,K.In base->base.Ns mainGlobals mg->j9 P w K mg base CX k fa fd [x] sp) (hbind:∀(s:Shared) (u:Value),BindsTo s fd ⟨[u],[]⟩ [(x,u)])
   (hsp:∀H:Hp,bm9 H->i4 K H a (ns.map V.int)->sp [.ref a] H (fun v _=>v= .bl true) fun _ _ _=>False)
   (hCX:∀H e s',CX [] H s₁ (fun _ _ _=>False) e s'->False):
   codeAny (model P w) callerA (.call (.ref fa) ⟨[.ref a],[]⟩) (fun r s'=>r= .ok (.ret (.bool true))/\OldK s₁.heap s'.heap/\s'.os=s₁.os/\AllBare s'.gens) s₁:=by
 have rv:=ab4 hi;have lenV:=hi.length
 have core:∀H:Hp,bm9 H->i4 K H a (ns.map V.int)->A9 P w H s₁.heap->(∀b,H b≠none->b=a)->(H a≠none->K.lookup a=none)->
     codeAny (model P w) callerA (.call (.ref fa) ⟨[.ref a],[]⟩) (fun r s'=>r= .ok (.ret (.bool true))/\OldK s₁.heap s'.heap/\s'.os=s₁.os/\AllBare s'.gens) s₁:=by
   intro H hO hS hok hA hK
   have base_of:∀{b:Addr} {o:Obj},s₁.heap.get? b=some o->H b=none->(Y0 s₁.heap H).get? b=some o:=fun e n=>bl5 e n
   have noA:∀{b:Addr} {o:Obj} {es:Array DictEntry} {ep:Nat},s₁.heap.get? b=some o->o.data= .dict es ep->H b=none:=fun {b o es ep} e d=>by
     cases q:H b with
     |none=>rfl
     |some u=>
      have e':b=a:=hA b (by rw[q];simp);subst e';rw[ha] at e;cases e;have d':Data.seq vs.toArray _=Data.dict es ep:=d;cases d'
   have nsK:∀{b:Addr} {m:Str->Option Value},s₁.heap.Ns b m->(Y0 s₁.heap H).Ns b m:=fun {b m} ⟨o,es,ep,e,d,r⟩=>⟨o,es,ep,base_of e (noA e d),d,r⟩
   have hKb:K.In (Y0 s₁.heap H):=fun b o e=>base_of (KX b o e) (by
     cases q:H b with
     |none=>rfl
     |some u=>
      have e':b=a:=hA b (by rw[q];simp);subst e'
      rw[hK (by rw[q];simp)] at e;cases e)
   have hM:Mod K mg (Y0 s₁.heap H):=⟨hKb,nsK hns,⟨mb,nsK hb,hbb⟩,let ⟨mc,h1,h2⟩:=hlim;⟨mc,nsK h1,h2⟩⟩;have e0:bb9 P w K mg (Y0 s₁.heap H) callerA [] s₁ H:=⟨rfl,hM,fun b o e=>bs0 e,cv6 (be5 _ _),trivial,fun b hb=>absurd (show b∈([]:List Addr) from hb) (by simp),hok,.of_eq hg⟩
   refine codeAny_mono ((F _ hKb (nsK hns)).run callerA [] s₁ H ⟨[.ref a],[]⟩ [.ref a] [.ref a] _ _ hr e0 (hbind s₁ (.ref a)) (.cons rfl .nil) (hsp H hO hS)) fun r s' h=> ?_
   cases r with
   |error e=>exact (hCX H e s' h).elim
   |ok fl=>
    cases fl with
    |next=>exact False.elim h
    |brk=>exact False.elim h
    |cont=>exact False.elim h
    |ret u=>
     obtain ⟨v,H',os,bare,un,hok',r',q⟩:=h;have q':v= .bl true:=q;subst q';obtain rfl:u=Value.bool true:=r';refine ⟨rfl,OldK.of_keep fun b o e=> ?_,os,bare⟩
     cases q:H b with
     |none=>exact un.keep b o e q (by intro z;exact absurd (show b∈([]:List Addr) from z) (by simp)) (by simp)
     |some u=>
      rcases hO b with z|⟨ob,xs,z⟩
      · rw[q] at z;cases z
      · have z2:=un.frzs b ob _ z;obtain ⟨e1,_⟩:=hok b _ z;obtain ⟨e2,_⟩:=hok' b _ z2;rw[e] at e1;cases e1;exact e2
 cases hk:K.lookup a with
 |some o=>
  have e:=KX a o hk;rw[ha] at e;cases e
  refine core (fun _=>none) (fun _=> .inl rfl) (.inr ⟨_,vs.toArray,_,hk,rfl,rfl,rfl,by rw[cj4,lenV];exact hl,by simpa using rv⟩) (fun b u z=>by have z':(none:Option HO)=some u:=z;cases z') (fun b z=>absurd rfl z) fun z=>absurd rfl z
 |none=>
  refine core (fun b=>if b=a then some (.frz {cls:= .type "list",data:= .seq vs.toArray} (.lst (ns.map V.int))) else none) (fun b=> ?_) (.inl (.inr ⟨{cls:= .type "list",data:= .seq vs.toArray},if_pos rfl⟩)) (fun b u z=> ?_) (fun b z=> ?_) fun _=>hk
  · by_cases hb:b=a
    · exact .inr ⟨_,_,if_pos hb⟩
    · exact .inl (if_neg hb)
  · by_cases hb:b=a
    · have z':=(if_pos hb).symm.trans z;cases z';subst hb;exact ⟨ha,by rw[ci8];exact hl,vs,_,rv,ha⟩
    · have z':=(if_neg hb).symm.trans z;cases z'
  · by_cases hb:b=a
    · exact hb
    · exact absurd (if_neg hb) z
end L2
namespace L2
open PySem PySem.Spec PyProof.Rows
theorem ch6 {l:PySem.W.OpenLaw}{n k:Nat}{q:Program}{loose:List Str}{XP:(Str->Option Value)->Heap->Prop}{YP:World->Heap->Prop}{d:DefRec}{K:Params->PySem.W.Frag}{CX:World->Q4}{sp:World->Sp}{x:Str}
   (hn:l.most=some n) (hn2:n<=sizeLine) (hdf:d.params.defaults=[]) (hr:m9 k callerA)
   (hY:∀(w:World) (h:Heap),YP w h->(K w.params).In h)
   (F:∀(w:World) (mg:Str->Option Value) (fa:Addr) (h:Heap),(K w.params).In h->h.Ns mainGlobals mg->mg d.name=some (.ref fa)->
     ∃fd:FuncData,(∀(s:Shared) (u:Value),BindsTo s fd ⟨[u],[]⟩ [(x,u)])/\
      ∀base:Heap,(K w.params).In base->base.Ns mainGlobals mg->j9 l.prog w (K w.params) mg base (CX w) k fa fd [x] (sp w))
   (hsp:∀(w:World) (H:Hp) (a:Addr) (ns:List Int),ns.length<=n->bm9 H->i4 (K w.params) H a (ns.map V.int)->sp w [.ref a] H (fun v _=>v= .bl true) fun _ _ _=>False)
   (hCX:∀(w:World) (H:Hp) (s:Shared) (e:Value) (s':Shared),CX w [] H s (fun _ _ _=>False) e s'->False):
   PySem.W.WalkO q loose XP YP l.row.toRowW d [] (fun f vs=>PySem.call f vs):=by
 refine Att.cb1 hn hdf fun w s₀ s₁ mg mb fa o pm cd doc a vs ns G Y ho hd hcd hmg hobj hints hlen hg=> ?_
 have KX:=hY w _ Y;obtain ⟨fd,hb,hF⟩:=F w mg fa _ KX G.T.g hmg
 exact bn0 KX G.T.g G.T.b G.T.builtins G.T.nolimit hg hobj hints (cl9 hlen hn2) hr hF hb (fun H hO hS=>hsp w H a ns hlen hO hS) fun H e s'=>hCX w H s₁ e s'
end L2
namespace L2
open PySem PySem.Spec PyProof.Rows
def R4 (s:Stmt):Arguments:=match s with
 | .FunctionDef _ a _ _ _ _ _ _ _ _=>a
 |_=>{posonlyargs:=[],args:=[],vararg:=none,kwonlyargs:=[],kw_defaults:=[],kwarg:=none,defaults:=[]}
def L0 (s:Stmt):List Stmt:=match s with
 | .FunctionDef _ _ b _ _ _ _ _ _ _=>b
 |_=>[]
def j5 (s:Stmt):Scope:=match s with
 | .FunctionDef _ _ _ _ _ _ sc _ _ _=>sc
 |_=>{kind:= .function,names:=[],isGenerator:=false,isCoroutine:=false}
abbrev C8:Q4:=fun _ _ _ _ _ _=>False
abbrev E0:XK:=fun _ _ _=>False
theorem cc5 {X:Cx}:ab0 C8 X E0:=fun _ _ _ _ _ _ _ h=>h.elim
structure B0 (K:PySem.W.Frag)(x qual:Str)(st:Stmt)(f:Addr)(fd:FuncData):Prop where
 ex:∃(oc:Value) (od:Option Addr) (kV doc pm:Value) (an:Option Addr) (cdv ct:Value) (osl:Array (Option Value)),
   fd=PySem.W.fnOf x qual (R4 st) (L0 st) (j5 st) .none kV doc pm an cdv ct/\K.lookup f=some ⟨oc,od,.func fd,osl⟩/\PySem.W.codeIn K cdv qual=true
 kp:PySem.W.keepIn K (.ref f)=true
section
variable {P:Program} {w:World} {K:PySem.W.Frag} {mg:Str->Option Value} {base:Heap}
theorem B0.ok {x qual:Str}{st:Stmt}{f:Addr}{fd:FuncData}{N ps:List Str}{k:Nat}{sp:Sp}(F:B0 K x qual st f fd)(S:l7 N ps (j5 st))(len:∀vs H Q E,sp vs H Q E->vs.length=ps.length)
   (hbody:∀(cdv:Value) (A:Around) (outer:List Env) (s:Shared) (H:Hp) (vs:List V) (Q:VK) (E:XK),m9 k (A.deeper (envOfC qual (j5 st) s.heap.objs.size f cdv))->sp vs H Q E->
     ∃t,Q3 (V5 C8 P w K mg base N qual (j5 st) f cdv A outer s H E).nox (L0 st) t/\t {nx:=fun _ H'=>Q .non H',rt:=Q} (Q8 N vs) H):j9 P w K mg base C8 (k+1) f fd ps sp:=by
 obtain ⟨oc,od,kV,doc,pm,an,cdv,ct,osl,rfl,lk,hcd⟩:=F.ex
 refine br0 lk hcd S len fun A outer s H vs Q E hr hsp=> ?_
 obtain ⟨t,h,q⟩:=hbody cdv A outer s H vs Q E hr hsp;exact ⟨t,h.nox,q⟩
theorem B0.binds {x qual:Str}{st:Stmt}{f:Addr}{fd:FuncData}{ps:List Str}(F:B0 K x qual st f fd)
   (h:∀(kV doc pm:Value) (an:Option Addr) (cdv ct:Value) (us:List Value),us.length=ps.length->bindArgs (PySem.W.fnOf x qual (R4 st) (L0 st) (j5 st) .none kV doc pm an cdv ct) ⟨us,[]⟩=pure (ps.zip us)):Q7 K fd ps []:=by
 obtain ⟨oc,od,kV,doc,pm,an,cdv,ct,osl,rfl,lk,hcd⟩:=F.ex;exact .all (h kV doc pm an cdv ct)
theorem by5 {x qual:Str}{st:Stmt}{f:Addr}{oc:Value}{od an:Option Addr}{osl:Array (Option Value)}{kV doc pm cdv ct:Value}(l:K.lookup f=some ⟨oc,od,.func (PySem.W.fnOf x qual (R4 st) (L0 st) (j5 st) .none kV doc pm an cdv ct),osl⟩)
 (c:PySem.W.codeIn K cdv qual=true) (k:PySem.W.keepIn K (.ref f)=true):B0 K x qual st f (PySem.W.fnOf x qual (R4 st) (L0 st) (j5 st) .none kV doc pm an cdv ct):=⟨⟨oc,od,kV,doc,pm,an,cdv,ct,osl,rfl,l,c⟩,k⟩
end
theorem U8 {A:Around}{k:Nat}(hr:m9 k A):A.units+1 < cLine:=cq4 (cv8 (by decide:1<=64) _) hr.units
theorem l9 {n:Nat}(h:n<=1000):n < sizeLine:=cq4 h (by decide)
section
variable {X:Cx}
theorem pv (i:Nat){x:Str}{pos:Pos}(hN:X.N[i]? =some x:=by rfl)(hv:Vis X.env.scope x:=by first|exact Or.inl rfl|exact Or.inr (Or.inl rfl)|exact Or.inr (Or.inr rfl))(hd:(x==("__debug__":Str))=false:=by decide)
 (hcd:(x==("__classdict__":Str))=false:=by decide):PE X (.Name x pos) (bw8 i):=bw9 hN hv hd hcd
end
theorem A7 {A B:Prop}(h:B):if false=true then A else B:=by
 rw[if_neg ck1];exact h
theorem E6 {A B:Prop}(h:A):if true=true then A else B:=by
 rw[if_pos rfl];exact h
theorem K7 {c A B:Prop}[Decidable c](h1:c->A)(h2:¬c->B):if c then A else B:=by
 by_cases h:c
 · rw[if_pos h];exact h1 h
 · rw[if_neg h];exact h2 h
theorem U9 {c A B:Prop}[Decidable c](hc:c)(h:B):if (!decide c)=true then A else B:=by
 rw[decide_eq_true hc];exact A7 h
def e8 (H H':Hp):Prop:=∀b o,H b=some o->H' b=some o
theorem e8.refl (H:Hp):e8 H H:=fun _ _ h=>h
theorem e8.trans {H H1 H2:Hp}(a:e8 H H1)(b:e8 H1 H2):e8 H H2:=fun c o h=>b c o (a c o h)
theorem e8.free {H H':Hp}(e:e8 H H'){l:Addr}(h:H' l=Option.none):H l=Option.none:=by
 cases q:H l with
 |none=>rfl
 |some o=>
  rw[e l o q] at h;cases h
theorem e8.seq {K:PySem.W.Frag}{H H':Hp}{a:Addr}{xs:List V}(e:e8 H H')(h:i4 K H a xs):i4 K H' a xs:=by
 rcases h with (h|⟨o,h⟩)|h
 · exact .inl (.inl (e _ _ h))
 · exact .inl (.inr ⟨o,e _ _ h⟩)
 · exact .inr h
section
variable {κ:Type} [DecidableEq κ]
theorem ae2:∀{l:List κ} {k:κ},l.Nodup->¬k∈l->(l++[k]).Nodup
 |[],k,_,_=>by simp
 |a::r,k,h,hk=>by
  obtain ⟨h1,h2⟩:=cn3.mp h;show (a::(r++[k])).Nodup;refine cn3.mpr ⟨fun m=> ?_,ae2 h2 fun m=>hk (ck8.mpr (Or.inr m))⟩
  rcases ck7.mp m with q|q
  · exact h1 q
  · exact hk (ck8.mpr (Or.inl (cn2.mp q).symm))
end
end L2
namespace L2
open PySem PySem.Spec PyProof.Rows
def K0 (X:Cx)(N:List Str)(scope:Scope)(cl:List (Str×Addr))(C:Addr)(s0:Shared)(H0:Hp)(ex:List Addr):Cx:=
 {X with N:=N,s₀:=s0,H₀:=H0,env:=compEnvC scope cl C X.env,outer:=X.stack,stack:=X.stack,ex:=ex,fn:=fun _=>false,pn:=[],xe:=fun _ _=>False}
def ai7 (nl:Nat)(fr:List Nat)(σ:St):St:=cl3 nl none++fr.map fun j=>(σ[j]?).join
def t9 (env:Env):List (Str×NameKind)->List (Str×Addr)->List (Str×Addr)
 |[],cs=>cs
 |(n,k)::r,cs=>t9 env r (if (k==NameKind.free)=true then (n,(env.cells.lookup n).getD 0)::cs else cs)
theorem ai8 (env:Env):∀(ns:List (Str×NameKind)) (cs:List (Str×Addr)),(∀p∈ns,p.2= .free->∃c,env.cells.lookup p.1=some c)->(∀y c,cs.lookup y=some c->env.cells.lookup y=some c)->
   ∀y c,(t9 env ns cs).lookup y=some c->env.cells.lookup y=some c
 |[],cs,_,h,y,c,e=>h y c e
 |(n,k)::r,cs,hn,h,y,c,e=>by
  unfold t9 at e;refine ai8 env r _ (fun p hp=>hn p (cj8 _ hp)) ?_ y c e;intro z d ez
  split at ez
  · rename_i hk;rw[cn5] at ez
    cases hz:z==n with
    |true=>
     rw[hz] at ez;have hzn:z=n:=eq_of_beq hz;subst hzn
     have hkf:k= .free:=by simpa using hk
     obtain ⟨c',hc'⟩:=hn (z,k) cj5 hkf;have hc':env.cells.lookup z=some c':=hc';rw[hc'] at ez;rw[hc']
     simpa using ez
    |false=>
     rw[hz] at ez;exact h z d ez
  · exact h z d ez
theorem af7 (env:Env):∀(ns:List (Str×NameKind)) (cs:List (Str×Addr)) (y:Str),(∃c,cs.lookup y=some c)->∃c,(t9 env ns cs).lookup y=some c
 |[],cs,y,h=>h
 |(n,k)::r,cs,y,⟨c,h⟩=>by
  unfold t9;refine af7 env r _ y ?_
  split
  · rw[cn5]
    cases hz:y==n with
    |true=>exact ⟨_,rfl⟩
    |false=>exact ⟨c,h⟩
  · exact ⟨c,h⟩
theorem Y3 (env:Env):∀(ns:List (Str×NameKind)) (cs:List (Str×Addr)) (p:Str×NameKind),p∈ns->p.2= .free->∃c,(t9 env ns cs).lookup p.1=some c
 |[],cs,p,hp,_=>by simp at hp
 |(n,k)::r,cs,p,hp,hk=>by
  unfold t9
  rcases ck8.mp hp with e|hp
  · subst e;have hk:k= .free:=hk;subst hk;refine af7 env r _ n ?_;rw[if_pos (by rfl),cn5];exact ⟨(List.lookup n env.cells).getD 0,by simp⟩
  · exact Y3 env r _ p hp hk
theorem ab5 (env:Env):∀(ns:List (Str×NameKind)) (cs:List (Str×Addr)),(∀p∈ns,p.2= .free->∃c,env.cells.lookup p.1=some c)->
   (forIn ns cs (fun (x:Str×NameKind) (r:List (Str×Addr))=>if (x.2==NameKind.free)=true then (do let a <-cellOf env x.1;pure (ForInStep.yield ((x.1,a)::r))) else pure (ForInStep.yield r)):Sem (List (Str×Addr)))=pure (t9 env ns cs)
 |[],cs,_=>rfl
 |(n,k)::r,cs,hn=>by
  have ih:=fun cs'=>ab5 env r cs' fun p hp=>hn p (cj8 _ hp)
  rw[List.forIn_cons];unfold t9
  by_cases hk:(k==NameKind.free)=true
  · obtain ⟨c,hc⟩:=hn (n,k) cj5 (by simpa using hk);have hc:env.cells.lookup n=some c:=hc;rw[if_pos hk,if_pos hk]
    have e1:cellOf env n=pure c:=by unfold cellOf;rw[hc]
    rw[e1,hc];exact ih _
  · rw[if_neg hk,if_neg hk];exact ih _
theorem aa4 {scope:Scope}{env:Env}(h:∀p∈scope.names,p.2= .free->∃c,env.cells.lookup p.1=some c):closureFor scope env=pure (t9 env scope.names []):=by
 have e:=ab5 env scope.names [] h;unfold closureFor;show (forIn scope.names [] _ >>=_)=_;have e2:(forIn scope.names ([]:List (Str×Addr)) (fun (x:Str×NameKind) (r:List (Str×Addr))=>match x with|(name,kind)=>(if (kind==NameKind.free)=true then (do let a <-cellOf env name;pure PUnit.unit;pure (ForInStep.yield ((name,a)::r))) else (do pure PUnit.unit;pure (ForInStep.yield r)))):Sem (List (Str×Addr)))=pure (t9 env scope.names []):=e
 first
   |exact (congrArg (fun z=>z >>=fun cs=>pure cs) e2)
   |(rw[show (forIn scope.names ([]:List (Str×Addr)) _:Sem (List (Str×Addr)))=pure (t9 env scope.names []) from e];rfl)
section
variable {X:Cx}
def as6 (X:Cx)(ifs:List Expr)(t:TT):Prop:=
 ∀(pins:List (Addr×Obj)) (s:Shared) (σ:St) (H:Hp) (Q:Bool->Hp->Prop),g9 X pins σ H s->t σ H Q->
  wpAny (model X.prog X.w) X.A (forIn ifs true fun c r=>if r=true then do let ok <-isTrue c X.env (eval c X.env);pure (ForInStep.yield ok) else pure (ForInStep.yield r)) (TP X pins σ Q) X.xe s
def cg5:TT:=fun _ H Q=>Q true H
theorem ah0:as6 X [] cg5:=fun pins s σ H Q I h=>by
 rw[List.forIn_nil];exact wpAny_pure ⟨H,I,h⟩
theorem as7 {c:Expr}{t:TT}(h:PT X c t):as6 X [c] t:=by
 intro pins s σ H Q I hw;rw[List.forIn_cons,if_pos rfl];refine wpAny_bind (wpAny_bind (k7 (h pins s σ H Q I hw) fun b s1 q=>wpAny_pure ?_));show wpAny _ _ (forIn [] b _) _ _ s1;rw[List.forIn_nil];exact wpAny_pure q
theorem as8 {prog:Program}{w:World}{A:Around}{R:Result->Shared->Prop}{s:Shared}{elt target iter:Expr}{ifs:List Expr}{scope:Scope}{pos:Pos}{it acc:Value}{env:Env}(I:Nat->Shared->Prop)
   (turn:∀n s,I n s->wpAny (model prog w) A (pyNext it) (fun r s1=>match r with
     |none=>R (.ok .next) s1
     |some v=>wpAny (model prog w) A (letOwnedTupleGo target it v) (fun _ s2=>wpAny (model prog w) A (assign target env v) (fun _ s3=>
         wpAny (model prog w) A (forIn ifs true fun c r=>if r=true then do let ok <-isTrue c env (eval c env);pure (ForInStep.yield ok) else pure (ForInStep.yield r)) (fun ok s4=>
           if ok=true then wpAny (model prog w) A (eval elt env) (fun x s5=>
             wpAny (model prog w) A (call (.builtin "list.append") [acc,x]) (fun _ s6=>∃m,m < n/\I m s6) (fun _ _=>False) s5) (fun _ _=>False) s4
           else ∃m,m < n/\I m s4) (fun _ _=>False) s3) (fun _ _=>False) s2) (fun _ _=>False) s1) (fun _ _=>False) s)
   (n:Nat) (h:I n s):
   codeAny (model prog w) A (.compLoop (.ListComp elt [⟨target,iter,ifs,0⟩] scope pos) 0 it acc env) R s:=by
 refine codeAny_loop rfl I (fun n s hI=> ?_) n h;show wpAny _ A ((compTurn (.ListComp elt [⟨target,iter,ifs,0⟩] scope pos) 0 it acc env).onRaise (fun x=>do noteFrame x env;theTreesLotGoes x)) _ _ s;refine wpAny_noted ?_;rw[compTurn_list];refine wpAny_bind (wpAny_standAt (wpAny_bind (wpAny_mono (turn n s hI) (fun r s1 h1=> ?_) fun _ _ f=>f.elim)))
 cases r with
 |none=>exact wpAny_pure h1
 |some v=>
  refine wpAny_bind (wpAny_mono h1 (fun _ s2 h2=> ?_) fun _ _ f=>f.elim);refine wpAny_bind (wpAny_mono h2 (fun _ s3 h3=>wpAny_bind (wpAny_mono h3 (fun ok s4 h4=> ?_) fun _ _ f=>f.elim)) fun _ _ f=>f.elim)
  cases ok with
  |false=>exact wpAny_pure ⟨rfl,h4⟩
  |true=>
   exact wpAny_bind (wpAny_bind (wpAny_mono h4 (fun x s5 h5=>wpAny_bind (wpAny_mono h5 (fun _ s6 h6=>wpAny_pure (wpAny_pure ⟨rfl,h6⟩)) fun _ _ f=>f.elim)) fun _ _ f=>f.elim))
def bc3 (J:It)(g:TG)(tc:TT)(te:TE)(Q:VK)(σ0:St)(H0:Hp):Prop:=∃W:Nat->Nat->List V->St->Hp->Prop,(∃m,W 0 m [] σ0 H0)/\∀i m ys σ' H',W i m ys σ' H'->
 (J.stop i H'/\∀D,H' D=none->Q (.ref D) (c9 H' D (.lst ys)))\/
 (J.go i H'/\∃N:List V->St->Hp->Prop,(∀ys' σ2 H2,N ys' σ2 H2->∃m',m' < m/\W (i+1) m' ys' σ2 H2)/\∀x H2,J.yld i H' x H2->g x σ' H2 fun σ2 H3=>tc σ2 H3 fun b H4=>
   if b=true then te σ2 H4 fun y H5=>ys.length < sizeLine/\N (ys++[y]) σ2 H5 else N ys σ2 H4)
def bc4 (nl:Nat)(fr:List Nat)(wi:TI)(g:TG)(tc:TT)(te:TE):TE:=fun σ H Q=>wi σ H fun J H1=>bc3 J g tc te Q (ai7 nl fr σ) H1
structure ab6 (X:Cx)(N:List Str)(nl:Nat)(fr:List Nat)(scope:Scope):Prop where
 cell:∀y∈scope.names,y.2≠.cell
 kind:scope.kind= .function
 names:∀y∈scope.names,y.2= .local->scope.names.lookup y.1=some .local
 free:∀p∈scope.names,p.2= .free->X.env.kindOf p.1=some .cell\/X.env.kindOf p.1=some .free
 len:N.length=nl+fr.length
 fr:∀(k j:Nat),fr[k]? =some j->∃y,N[nl+k]? =some y/\X.N[j]? =some y/\Vis X.env.scope y/\scope.names.lookup y=some .free
theorem N5 {env:Env}:∀{names:List (Str×NameKind)} {x:Str} {k:NameKind},(names.map fun (n,k)=>if (k==NameKind.free&&env.scope.kind== .function&&env.kindOf n==some .cell) then (n,NameKind.cell) else (n,k)).lookup x=some k->
   k= .cell\/k= .free->(∀y∈names,y.2≠.cell)->∃p∈names,p.1=x/\p.2= .free
 |[],_,_,h,_,_=>by simp at h
 |(n,kn)::r,x,k,h,hk,hc=>by
  have ih:=@N5 env r x k;rw[cm7] at h;have hcn:kn≠.cell:=hc (n,kn) cj5
  have hr:∀y∈r,y.2≠.cell:=fun y hy=>hc y (cj8 _ hy)
  cases hx:x==n with
  |true=>
   have hxn:x=n:=eq_of_beq hx
   by_cases hcc:(kn==NameKind.free&&env.scope.kind== .function&&env.kindOf n==some .cell)=true
   · refine ⟨(n,kn),cj5,hxn.symm,?_⟩;simp only[cn8] at hcc
     simpa using hcc.1.1
   · dsimp only at h
     rw[if_neg hcc,cn5,hx] at h;have hkk:kn=k:=Option.some.inj h;subst hkk
     rcases hk with z|z
     · exact absurd z hcn
     · exact ⟨(n,kn),cj5,hxn.symm,z⟩
  |false=>
   by_cases hcc:(kn==NameKind.free&&env.scope.kind== .function&&env.kindOf n==some .cell)=true
   · dsimp only at h
     rw[if_pos hcc,cn5,hx] at h;obtain ⟨p,hp,q⟩:=ih h hk hr;exact ⟨p,cj8 _ hp,q⟩
   · dsimp only at h
     rw[if_neg hcc,cn5,hx] at h;obtain ⟨p,hp,q⟩:=ih h hk hr;exact ⟨p,cj8 _ hp,q⟩
theorem M6 {env:Env}:∀{names:List (Str×NameKind)} {x:Str},names.lookup x=some .free->
   (names.map fun (n,k)=>if (k==NameKind.free&&env.scope.kind== .function&&env.kindOf n==some .cell) then (n,NameKind.cell) else (n,k)).lookup x=some .cell\/
   (names.map fun (n,k)=>if (k==NameKind.free&&env.scope.kind== .function&&env.kindOf n==some .cell) then (n,NameKind.cell) else (n,k)).lookup x=some .free
 |[],_,h=>by simp at h
 |(n,kn)::r,x,h=>by
  have ih:=@M6 env r x;rw[cm7]
  dsimp only
  cases hx:x==n with
  |true=>
   rw[cn5,hx] at h;have hkn:kn= .free:=Option.some.inj h
   by_cases hcc:(kn==NameKind.free&&env.scope.kind== .function&&env.kindOf n==some .cell)=true
   · rw[if_pos hcc,cn5,hx];exact .inl rfl
   · rw[if_neg hcc,cn5,hx];exact .inr (congrArg some hkn)
  |false=>
   rw[cn5,hx] at h
   by_cases hcc:(kn==NameKind.free&&env.scope.kind== .function&&env.kindOf n==some .cell)=true
   · rw[if_pos hcc,cn5,hx];exact ih h
   · rw[if_neg hcc,cn5,hx];exact ih h
theorem A9.track {P:Program}{w:World}{H:Hp}{h:Heap}{a:Addr}{o:HO}(x:A9 P w H h)(hn:H a=none)(new:o6 P w (c9 H a o) h a o):A9 P w (c9 H a o) h:=fun b u e=>by
 by_cases hb:b=a
 · subst hb;rw[c8] at e;cases e;exact new
 · rw[g8 hb] at e
   exact (x b u e).stay (fun c v _ q=>q) (fun c q=>by rw[g8 (g7 q hn)];exact q) fun c xs q=>by rw[g8 (g7 q hn)];exact q
theorem ao9 {elt tg iter:Expr}{ifs:List Expr}{scope:Scope}{pos:Pos}{wi:TI}{g:TG}{tc:TT}{te:TE}{N:List Str}{nl:Nat}{fr:List Nat}
   (hc:X.calm=true) (hi:PI X tg iter wi) (hg:∀cl C s0 H0 ex,PG (K0 X N scope cl C s0 H0 ex) tg g) (ht:∀cl C s0 H0 ex,as6 (K0 X N scope cl C s0 H0 ex) ifs tc)
   (he:∀cl C s0 H0 ex,PE (K0 X N scope cl C s0 H0 ex) elt te) (ok:ab6 X N nl fr scope)
   {RR:Value->Addr->Result->Shared->Prop} {pins:List (Addr×Obj)} {s:Shared} {σ:St} {H:Hp} {Q:VK} (I:g9 X pins σ H s) (h:bc4 nl fr wi g tc te σ H Q)
   (hRR:∀D C s' H',g9 X pins σ H' s'->Q (.ref D) H'->aa9 X pins H' C->(∃m,s'.heap.Ns C m)->RR (.ref D) C (.ok .next) s'):
   wpAny (model X.prog X.w) X.A (eval iter X.env) (fun x s1=>wpAny (model X.prog X.w) X.A (pyIter x) (fun it s2=>wpAny (model X.prog X.w) X.A (newList []) (fun acc s3=>
     wpAny (model X.prog X.w) X.A (newFunctionEnv scope X.env.globals (t9 X.env scope.names []) [] X.env.qual none .none (some X.env)) (fun cenv s4=>
       codeAny (model X.prog X.w) X.A (.compStart (.ListComp elt [⟨tg,iter,ifs,0⟩] scope pos) 0 it acc {cenv with scope:=relabel scope X.env}) (RR acc cenv.locals) s4) X.xe s3) X.xe s2) X.xe s1) X.xe s:=by
 refine k7 (hi pins s σ H _ I h) fun v s1 h1=>k7 h1 fun itv s2 h2=> ?_
 obtain ⟨it,fp,tn,J,H2,rfl,I2,T,st2,f2,W,⟨m0,w0⟩,turn⟩:=h2;refine wpAny_newObj_type (wpAny_newFunctionEnv ok.cell (by intro y hy;simp at hy) (fun h1 hns1 hsb1=> ?_) ok.kind)
 dsimp only at hns1 hsb1 ⊢
 generalize hHH:s2.heap.push {cls:= .type "list",dict:=none,data:= .seq ([]:List Value).toArray}=HH at hns1 hsb1 ⊢
 have hC:HH.objs.size=s2.heap.objs.size+1:=by rw[<-hHH,Heap.size_push]
 have hDC:s2.heap.objs.size≠HH.objs.size:=by rw[hC];exact cl2 (Nat.lt_succ_self _)
 have hCle:s2.heap.objs.size<=HH.objs.size:=by rw[hC];exact ct3 _
 have below:∀b,b < s2.heap.objs.size->b≠HH.objs.size/\b≠s2.heap.objs.size:=fun b hb=>⟨by rw[hC];exact cl2 (cw9 hb),cl2 hb⟩
 have old:∀b o,s2.heap.get? b=some o->h1.get? b=some o:=fun b o e=>hsb1.extBut b o (below b (Heap.lt_size e)).1 (Heap.get?_push_of_some _ (hHH▸Heap.get?_push_of_some _ e))
 have hacc:h1.get? s2.heap.objs.size=some {cls:= .type "list",data:= .seq ([]:List Value).toArray}:=hsb1.extBut _ _ hDC (Heap.get?_push_of_some _ (hHH▸Heap.get?_push_size _ rfl))
 have fplt:∀b∈fp,b < s2.heap.objs.size:=fun b hb=>by obtain ⟨o,e,_⟩:=T.obj 0 _ st2 b hb;exact Heap.lt_size e
 generalize hXd:K0 X N scope (t9 X.env scope.names []) HH.objs.size s2 H2 fp=X'
 have hfreeC:∀p∈scope.names,p.2= .free->∃c,X.env.cells.lookup p.1=some c:=fun p hp hf=>I.ok.has p.1 (ok.free p hp hf)
 have cellsSub:∀y c,(t9 X.env scope.names []).lookup y=some c->X.env.cells.lookup y=some c:=ai8 X.env scope.names [] hfreeC (fun y c e=>by simp at e)
 have cellLt:∀y c,X.env.cells.lookup y=some c->c < s2.heap.objs.size:=fun y c e=>by obtain ⟨v,z⟩:=I2.cell y c e;exact z.lt
 have ok':X'.Ok:=by
   rw[<-hXd]
   refine ⟨I.ok.mod,?_,I.ok.glob,I.ok.blt,hCle,fun x y c e1 e2=>I.ok.inj x y c (cellsSub x c e1) (cellsSub y c e2),fun x hx=> ?_,fun x c hf=>(by cases hf),I.ok.hd,I.ok.frames,.inl rfl,
     fun b hb=>⟨(below b (fplt b hb)).1,fun x c e=>(f2 b hb).2.2.2.2.1 x c (cellsSub x c e)⟩,I2.bs,cl9 I.ok.bsz I2.sz,fun b o e hb=> ?_,fun b hb hfs=> ?_,I2.stack,I2.stkFree⟩
   · show (relabel scope X.env).kind= .function;exact ok.kind
   · have hx':∃p∈scope.names,p.1=x/\p.2= .free:=by
       rcases hx with z|z
       · exact N5 z (.inl rfl) ok.cell
       · exact N5 z (.inr rfl) ok.cell
     obtain ⟨p,hp,rfl,hpf⟩:=hx';exact Y3 X.env scope.names [] p hp hpf
   · rcases (f2 b hb).2.2.2.1 with z|z
     · exact I.ok.noex b o e z
     · exact absurd (cl5 (Heap.lt_size e) (cl9 I.ok.bsz z)) (cp5 _)
   · rcases ck8.mp (I2.stkSub b hfs) with z|z
     · exact (f2 b hb).2.1 z
     · exact (f2 b hb).2.2.1 z
 have hX'd:X'.env.locals=HH.objs.size:=by rw[<-hXd];rfl
 have hX'c:X'.env.cells=t9 X.env scope.names []:=by rw[<-hXd];rfl
 have hX'pn:X'.pn=[]:=by rw[<-hXd];rfl
 have hX'ex:X'.ex=fp:=by rw[<-hXd];rfl
 have hX's0:X'.s₀=s2:=by rw[<-hXd];rfl
 have hX'H0:X'.H₀=H2:=by rw[<-hXd];rfl
 have hX'fs:X'.fs=y7 X.stack:=by rw[<-hXd];rfl
 have hX'xe:X'.xe=fun _ _=>False:=by rw[<-hXd];rfl
 have hX'A:X'.A=X.A:=by rw[<-hXd];rfl
 have hX'P:X'.prog=X.prog:=by rw[<-hXd];rfl
 have hX'w:X'.w=X.w:=by rw[<-hXd];rfl
 have hX'K:X'.K=X.K:=by rw[<-hXd];rfl
 have hX'calm:X'.calm=true:=by rw[<-hXd];exact hc
 have hX'env:X'.env=compEnvC scope (t9 X.env scope.names []) HH.objs.size X.env:=by rw[<-hXd];rfl
 have I':g9 X' [] (ai7 nl fr σ) H2 {s2 with heap:=h1,toks:=s2.toks+([]:List (Str×Value)).length}:=by
   refine ⟨ok',by rw[hX's0],I2.bare,?_,?_,fun x c e=> ?_,?_,fun x c e=> ?_,fun p hp=> ?_,?_,?_⟩
   · rw[hX'fs,hX'ex,hX'H0,hX's0];exact Un.kept old
   · obtain ⟨m,hn,hl⟩:=I2.loc;rw[hX'd];refine ⟨_,hns1,fun i x v e1 e2 e3=> ?_⟩
     have hN':N[i]? =some x:=by rw[<-hXd] at e1;exact e1
     unfold ai7 at e2
     have hi:¬i < nl:=fun hlt=>by
       rw[cm6 (by simpa using hlt),cx6,if_pos hlt] at e2;cases e2
     rw[cm8 (by simpa using hi),cq6,cj2] at e2
     cases ej:fr[i - nl]? with
     |none=>rw[ej] at e2;cases e2
     |some j=>
      rw[ej] at e2;obtain ⟨y,y1,y2,y3,y4⟩:=ok.fr (i - nl) j ej
      have hii:nl+(i - nl)=i:=by omega
      rw[hii,hN'] at y1;have hxy:x=y:=Option.some.inj y1;subst hxy;have e2':(σ[j]?).join=some v:=Option.some.inj e2
      have e2'':σ[j]? =some (some v):=by
        cases hσ:σ[j]? with
        |none=>rw[hσ] at e2';cases e2'
        |some z=>rw[hσ] at e2';exact congrArg some e2'
      obtain ⟨u,r,l⟩:=hl j x v y2 e2'' y3;have hkX:=ok.free (x,.free) (PySem.mem_of_lookup y4) rfl;refine ⟨u,r,.inr ⟨?_,?_⟩⟩
      · rw[hX'env]
        rcases M6 (env:=X.env) y4 with z|z
        · exact .inl z
        · exact .inr z
      · rcases l with ⟨k1,_⟩|⟨_,c,ec,hcell⟩
        · rcases hkX with z|z
          · rw[z] at k1;cases k1
          · rw[z] at k1;cases k1
        · obtain ⟨c',ec'⟩:=Y3 X.env scope.names [] (x,.free) (PySem.mem_of_lookup y4) rfl
          have:c'=c:=by
            have q:=cellsSub x c' ec';rw[ec] at q;exact (Option.some.inj q).symm
          subst this;refine ⟨c',by rw[hX'c];exact ec',?_⟩;obtain ⟨oc,ho,hd⟩:=hcell;exact ⟨oc,old _ _ ho,hd⟩
   · rw[hX'c] at e;obtain ⟨v,oc,ho,hd⟩:=I2.cell x c (cellsSub x c e);exact ⟨v,oc,old _ _ ho,hd⟩
   · rw[hX'd];exact I2.hok.fresh hCle
   · rw[hX'c] at e;exact I2.freeC x c (cellsSub x c e)
   · rw[hX'pn] at hp;simp at hp
   · rw[hX'P,hX'w];exact I2.hok.kept old
   · unfold ai7
     have:X'.N=N:=by rw[<-hXd];rfl
     rw[this,ok.len,cj6,cq6,ci8]
 have Dn:∀{H':Hp} {pins'} {s':Shared} {σ'},g9 X' pins' σ' H' s'->H' s2.heap.objs.size=none->∀o,s'.heap.get? s2.heap.objs.size=some o->(∀v,o.data≠.cell v)->g9 X' [(s2.heap.objs.size,o)] σ' H' s':=fun {H' pins' s' σ'} I3 hD o ho hnc=>
   I3.pins_of fun p hp=>by
     have e:p=(s2.heap.objs.size,o):=by simpa using hp
     subst e;refine ⟨ho,hD,by rw[hX'd];exact hDC,?_,hnc⟩;rw[hX'fs];intro hb
     rcases ck8.mp (I2.stkSub _ hb) with z|z
     · exact absurd (z▸I2.lt) (cp5 _)
     · exact I2.nofs (cj1 _) z
 have loop:∀s₃:Shared,s₃={s2 with heap:=h1,toks:=s2.toks+([]:List (Str×Value)).length}->
     codeAny (model X.prog X.w) X.A (.compLoop (.ListComp elt [⟨tg,iter,ifs,0⟩] scope pos) 0 (.ref it) (.ref s2.heap.objs.size) (compEnvC scope (t9 X.env scope.names []) HH.objs.size X.env)) (RR (.ref s2.heap.objs.size) HH.objs.size) s₃:=by
   rintro s₃ rfl
   refine as8 (fun n s'=>∃(i:Nat) (σ':St) (H':Hp) (ys:List V) (its:List Value) (k:Nat),g9 X' [(s2.heap.objs.size,{cls:= .type "list",data:= .seq its.toArray k})] σ' H' s'/\j6 ys its/\ys.length<=sizeLine/\tn i s'.heap/\(∀b∈fp,H' b=none)/\W i n ys σ' H')
     ?_ m0 ⟨0,_,H2,[],[],0,Dn I' (I2.hok.fresh (cj1 _)) _ hacc (fun v z=>by cases z),.nil,cl4 _,T.keep 0 _ _ st2 fun b hb o e=>old b o e,fun b hb=>(f2 b hb).1,w0⟩
   rintro n s3 ⟨i,σ3,H3,ys,its,k,I3,rv,hyl,st3,fr3,w3⟩;have pinD:=I3.pin (s2.heap.objs.size,{cls:= .type "list",data:= .seq its.toArray k}) (by rw[hX'pn];exact ck0 _ cj5)
   have stat:∀{o:Obj} {H':Hp},(∀b∈fp,H' b=none)->∀b∈fp,aa9 X' [(s2.heap.objs.size,o)] H' b:=fun {o H'} hn b hb=>by
     refine ⟨hn b hb,by rw[hX'd];exact (below b (fplt b hb)).1,fun z=>ok'.exfs b (by rw[hX'ex];exact hb) z,.inl (by rw[hX'ex];exact hb),fun x c e=>by rw[hX'c] at e;exact (f2 b hb).2.2.2.2.1 x c (cellsSub x c e),fun p hp=> ?_⟩;rw[hX'pn] at hp
     have e:p=(s2.heap.objs.size,o):=by simpa using hp
     subst e
     exact fun z=>(below b (fplt b hb)).2 z.symm
   rcases turn i n ys σ3 H3 w3 with ⟨stop,qn⟩|⟨go,Nx,hNx,step⟩
   · have dn:=T.done X' hX'P hX'w hX'K hX'calm i _ s3 σ3 H3 (fun _ _=>False) I3 (stat fr3) st3 stop;rw[hX'A] at dn
     refine k7 dn fun r s4 ⟨hr,I4⟩=> ?_
     subst hr;have pinE:=I4.pin (s2.heap.objs.size,{cls:= .type "list",data:= .seq its.toArray k}) (by rw[hX'pn];exact ck0 _ cj5)
     have ub:Un (y7 X.stack) fp H2 H3 s2.heap s4.heap:=by
       have:=I4.base;rw[hX'fs,hX'ex,hX'H0,hX's0] at this;exact this
     have hok4:A9 X.prog X.w H3 s4.heap:=by have:=I4.hok;rw[hX'P,hX'w] at this;exact this
     have nD:∀b u,H3 b=some u->b≠s2.heap.objs.size:=fun b u e z=>by rw[z,pinE.2.1] at e;cases e
     have u2:Un (y7 X.stack) fp H2 (c9 H3 s2.heap.objs.size (.lst ys)) s2.heap s4.heap:=
       ⟨ub.keep,ub.slot,fun b o e n' hx=>by rw[g8 (cl2 (Heap.lt_size e))];exact ub.free b o e n' hx,ub.there,
         fun b xs e=>by have:=ub.tups b xs e;rw[g8 (nD b _ this)];exact this,fun b o u e=>by have:=ub.frzs b o u e;rw[g8 (nD b _ this)];exact this,
         fun b ps e=>by obtain ⟨more,z⟩:=ub.tbls b ps e;exact ⟨more,by rw[g8 (nD b _ z)];exact z⟩⟩
     have I5:g9 X pins σ (c9 H3 s2.heap.objs.size (.lst ys)) s4:=by
       refine I2.call' (by rw[I4.os,hX's0]) u2 ?_ I4.bare fun b hb=>⟨(f2 b hb).2.2.2.1,(f2 b hb).2.1,(f2 b hb).2.2.2.2.1,(f2 b hb).2.2.2.2.2⟩
       exact A9.track hok4 pinE.2.1 ⟨hyl,its,k,rv,pinE.1⟩
     refine hRR _ _ s4 _ I5 (qn _ pinE.2.1) (I2.fpOk hCle ?_) ?_
     · rw[g8 (Ne.symm hDC)];have:=I4.free;rw[hX'd] at this;exact this
     · obtain ⟨m,hn,_⟩:=I4.loc;rw[hX'd] at hn;exact ⟨m,hn⟩
   · have im:=T.item X' hX'P hX'w hX'K hX'calm i _ s3 σ3 H3 (fun _ _=>False) I3 (stat fr3) st3 go;rw[hX'A] at im
     refine k7 im fun r s4 ⟨u,hr,h4⟩=> ?_
     subst hr
     refine k7 h4 fun _ s5 ⟨x,H5,I5,r5,y5,st5,fr5⟩=> ?_
     have I5':=I5.pinned (stat fr5) (T.obj _ _ st5);have gg:=hg (t9 X.env scope.names []) HH.objs.size s2 H2 fp;rw[hXd] at gg;have gg:=gg _ s5 σ3 H5 x u _ I5' r5 (step x H5 y5);rw[hX'A,hX'P,hX'w,hX'xe,hX'env] at gg
     refine k7 gg fun _ s6 ⟨σ6,H6,I6,q6⟩=> ?_
     have tt:=ht (t9 X.env scope.names []) HH.objs.size s2 H2 fp;rw[hXd] at tt;have tt:=tt _ s6 σ6 H6 _ I6 q6;rw[hX'A,hX'P,hX'w,hX'xe,hX'env] at tt
     refine k7 tt fun ok7 s7 ⟨H7,I7,q7⟩=> ?_
     have again:∀{s8:Shared} {σ8:St} {H8:Hp} {ys8:List V} {its8:List Value} {k8:Nat},g9 X' ([(s2.heap.objs.size,{cls:= .type "list",data:= .seq its8.toArray k8})]++S3 fp s5.heap) σ8 H8 s8->j6 ys8 its8->ys8.length<=sizeLine->Nx ys8 σ8 H8->
         ∃m,m < n/\∃(i:Nat) (σ':St) (H':Hp) (ys:List V) (its:List Value) (k:Nat),g9 X' [(s2.heap.objs.size,{cls:= .type "list",data:= .seq its.toArray k})] σ' H' s8/\j6 ys its/\ys.length<=sizeLine/\tn i s8.heap/\(∀b∈fp,H' b=none)/\W i m ys σ' H':=
       fun {s8 σ8 H8 ys8 its8 k8} I8 rv8 hl8 n8=>by
         obtain ⟨m',hm,w8⟩:=hNx ys8 σ8 H8 n8;refine ⟨m',hm,i+1,σ8,H8,ys8,its8,k8,I8.unpinned,rv8,hl8,T.keep _ _ _ st5 fun b hb o e=>(I8.pin (b,o) (ck0 _ (ck0 _ (Q6 hb e)))).1,fun b hb=> ?_,w8⟩;obtain ⟨o,e,d⟩:=T.obj _ _ st5 b hb;exact (I8.pin (b,o) (ck0 _ (ck0 _ (Q6 hb e)))).2.1
     cases ok7 with
     |false=>
      rw[if_neg ck1] at q7 ⊢;exact again I7 rv hyl q7
     |true=>
      rw[if_pos rfl] at q7 ⊢;have ee:=he (t9 X.env scope.names []) HH.objs.size s2 H2 fp;rw[hXd] at ee;have ee:=ee _ s7 σ6 H7 _ I7 q7;rw[hX'A,hX'P,hX'w,hX'xe,hX'env] at ee
      refine k7 ee fun yv s8 ⟨y,H8,I8,r8,hyl8,q8⟩=> ?_
      have pin8:=I8.pin (s2.heap.objs.size,{cls:= .type "list",data:= .seq its.toArray k}) (ck0 _ (cn7 _ cj5));refine wpAny_list_append_plain (items:=its.toArray) ⟨k,pin8.1⟩ (fun h9 hp9 hs9=> ?_) (by rw[cj4,<-rv.length];exact hyl);obtain ⟨k9,e9⟩:=hp9
      have I9:g9 X' (S3 fp s5.heap) σ6 H8 s8:=I8.pins_of fun p hp=>I8.pin p (ck0 _ (ck0 _ hp))
      have I9':g9 X' (S3 fp s5.heap) σ6 H8 {s8 with heap:=h9,toks:=s8.toks}:=by
        refine I9.turned (t':=s8.toks) (it:=s2.heap.objs.size) (fun b o hb e=>hs9.extBut b o hb e) pin8.2.1 (by rw[hX'd];exact hDC) (.inr (by rw[hX's0];exact cj1 _)) (fun x c e z=> ?_) fun p hp z=> ?_
        · rw[hX'c] at e;exact absurd (z▸cellLt x c (cellsSub x c e)) (cp5 _)
        · rw[hX'pn] at hp;obtain ⟨hb,_⟩:=ao1 (by simpa using hp);exact absurd (z▸fplt _ hb) (cp5 _)
      have e9':h9.get? s2.heap.objs.size=some {cls:= .type "list",data:= .seq (its++[yv]).toArray k9}:=by rw[e9];simp
      refine again (ys8:=ys++[y]) (its8:=its++[yv]) (k8:=k9) ?_ (j6.append rv (.cons r8 .nil)) (by rw[cj6];exact hyl8) q8
      refine I9'.pins_of fun p hp=> ?_
      rcases ck7.mp hp with z|z
      · have e:p=(s2.heap.objs.size,{cls:= .type "list",data:= .seq (its++[yv]).toArray k9}):=by simpa using z
        subst e;exact ⟨e9',pin8.2.1,pin8.2.2.1,pin8.2.2.2.1,fun v z=>by cases z⟩
      · exact I9'.pin p (ck0 _ z)
 exact codeAny_compStart_list (loop _ rfl) (T.self X.A 0 _ _ _ (T.keep 0 _ _ st2 fun b hb o e=>old b o e) (loop _ rfl))
end
end L2
namespace L2
open PySem PySem.Spec PyProof.Rows
section
variable {X:Cx}
theorem al8 {elt tg iter:Expr}{ifs:List Expr}{scope:Scope}{pos:Pos}{wi:TI}{g:TG}{tc:TT}{te:TE}{N:List Str}{nl:Nat}{fr:List Nat}
   (hc:X.calm=true) (ok:ab6 X N nl fr scope) (hi:PI X tg iter wi) (hg:∀cl C s0 H0 ex,PG (K0 X N scope cl C s0 H0 ex) tg g) (ht:∀cl C s0 H0 ex,as6 (K0 X N scope cl C s0 H0 ex) ifs tc)
   (he:∀cl C s0 H0 ex,PE (K0 X N scope cl C s0 H0 ex) elt te) (hs:∀x,foldedSetIterable iter X.env x=pure x:=by intro _;rfl):
   PE X (.ListComp elt [⟨tg,iter,ifs,0⟩] scope pos) (bc4 nl fr wi g tc te):=by
 intro pins s σ H Q I h
 have hclos:closureFor scope X.env=pure (t9 X.env scope.names []):=aa4 fun p hp hf=>I.ok.has p.1 (ok.free p hp hf)
 rw[eval_ListComp];refine wpAny_comprehension_free (use:=none) rfl hs hclos ok.kind ok.names (ao9 (RR:=fun acc C=>compPost (model X.prog X.w) X.A X.xe none (EP X pins σ Q) acc C) hc hi hg ht he ok I h ?_);intro D C s' H' I' q f ⟨m,hn⟩;exact ⟨m,hn,fun h' hs'=>⟨.ref D,H',I'.turned (t':=s'.toks) (fun b o hb e=>hs'.extBut b o hb e) f.1 f.2.1 f.2.2.2.1 f.2.2.2.2.1 f.2.2.2.2.2,rfl,q⟩⟩
theorem az2 {i:Nat}{y:Str}{py spos:Pos}{elt tg iter:Expr}{ifs:List Expr}{scope:Scope}{pos:Pos}{wi:TI}{g:TG}{tc:TT}{te:TE}{N:List Str}{nl:Nat}{fr:List Nat}
   (hN:X.N.Nodup) (hi':X.N[i]? =some y) (hx:Loc X.env.scope y)
   (hc:X.calm=true) (ok:ab6 X N nl fr scope) (hi:PI X tg iter wi) (hg:∀cl C s0 H0 ex,PG (K0 X N scope cl C s0 H0 ex) tg g) (ht:∀cl C s0 H0 ex,as6 (K0 X N scope cl C s0 H0 ex) ifs tc)
   (he:∀cl C s0 H0 ex,PE (K0 X N scope cl C s0 H0 ex) elt te) (hsw:swapsWith (.ListComp elt [⟨tg,iter,ifs,0⟩] scope pos) (some (.Name y py)) spos.line X.env=pure true:=by rfl)
   (hs:∀x,foldedSetIterable iter X.env x=pure x:=by intro _;rfl)
   (hf:X.fn y=true\/X.env.scope.names.lookup y=some .local:=by first|exact .inl rfl|exact .inr rfl|assumption):
   PS X (.Assign [.Name y py] (.ListComp elt [⟨tg,iter,ifs,0⟩] scope pos) spos) (bl7 (bc4 nl fr wi g tc te) (bb3 i)):=by
 intro pins s σ H Dn I h
 have hclos:closureFor scope X.env=pure (t9 X.env scope.names []):=aa4 fun p hp hf=>I.ok.has p.1 (ok.free p hp hf)
 rw[exec_Assign_Name_used _ _ _ _ hsw];refine wpAny_bind (wpAny_standAt (wpAny_bind ?_));show wpAny _ X.A (do let _ <-comprehension (.ListComp elt [⟨tg,iter,ifs,0⟩] scope pos) scope X.env _ (newList []) false (eval iter X.env) (some (assign (.Name y py) X.env))) _ _ s
 refine wpAny_bind (wpAny_mono (wpAny_comprehension_free (use:=some (assign (.Name y py) X.env)) (Q:=fun _ s'=>SP X pins Dn .next s') rfl hs hclos ok.kind ok.names
   (ao9 (RR:=fun acc C=>compPost (model X.prog X.w) X.A X.xe (some (assign (.Name y py) X.env)) (fun _ s'=>SP X pins Dn .next s') acc C) hc hi hg ht he ok I h ?_)) (fun _ s' hq=>wpAny_pure (wpAny_pure hq)) fun _ _ e=>e)
 intro D C s' H' I' q f ⟨m,hn⟩;show wpAny _ X.A (assign (.Name y py) X.env (.ref D)) _ _ _;refine wpAny_assign_Name (an9 I' hN hi' hx (v:= .ref D) rfl (fun s2 I2 ⟨a,sb,ha⟩=> ?_) hf)
 have hCa:C≠a:=by
   rcases ha with z|z
   · rw[z];exact f.2.1
   · exact fun e=>f.2.2.2.2.1 _ _ z e.symm
 exact ⟨m,hn.sameBut sb hCa,fun h' hs'=>⟨_,H',I2.turned (t':=s2.toks) (fun b o hb e=>hs'.extBut b o hb e) f.1 f.2.1 f.2.2.2.1 f.2.2.2.2.1 f.2.2.2.2.2,q⟩⟩
theorem ab7 {K:PySem.W.Frag}{a:Addr}{xs:List V}{g:TG}{tc:TT}{te:TE}{σ0:St}{H:Hp}{Q:VK}(Pv:Nat->List V->St->Hp->Prop)(h0:Pv 0 [] σ0 H)(hl:∀i ys σ H,i<=xs.length->Pv i ys σ H->i4 K H a xs)
   (hs:∀i x ys σ H,xs[i]? =some x->Pv i ys σ H->g x σ H fun σ2 H2=>tc σ2 H2 fun b H4=>if b=true then te σ2 H4 fun y H5=>ys.length < sizeLine/\Pv (i+1) (ys++[y]) σ2 H5 else Pv (i+1) ys σ2 H4)
   (hd:∀ys σ H,Pv xs.length ys σ H->∀D,H D=none->Q (.ref D) (c9 H D (.lst ys))):
   bc3 (Itl K a) g tc te Q σ0 H:=by
 refine ⟨fun i m ys σ H=>m=xs.length - i/\i<=xs.length/\Pv i ys σ H,⟨xs.length,by simp,cl4 _,h0⟩,?_⟩;rintro i m ys σ H ⟨rfl,hi,p⟩;have q:=hl i ys σ H hi p
 by_cases hlt:i < xs.length
 · refine .inr ⟨⟨xs,xs[i],q,by simp [hlt]⟩,Pv (i+1),fun ys' σ' H' p'=>⟨xs.length - (i+1),by omega,rfl,hlt,p'⟩,fun x H' y=> ?_⟩;obtain ⟨e,y⟩:=y;subst e;exact hs i x ys σ _ (y xs q) p
 · have e:i=xs.length:=by omega
   subst e;exact .inl ⟨⟨xs,q,cj1 _⟩,hd ys σ H p⟩
theorem ai9 {lo:Int}{n:Nat}{g:TG}{tc:TT}{te:TE}{σ0:St}{H:Hp}{Q:VK}(Pv:Nat->List V->St->Hp->Prop)(h0:Pv 0 [] σ0 H)
   (hs:∀i ys σ H,i < n->Pv i ys σ H->g (.int (lo+i)) σ H fun σ2 H2=>tc σ2 H2 fun b H4=>if b=true then te σ2 H4 fun y H5=>ys.length < sizeLine/\Pv (i+1) (ys++[y]) σ2 H5 else Pv (i+1) ys σ2 H4)
   (hd:∀ys σ H,Pv n ys σ H->∀D,H D=none->Q (.ref D) (c9 H D (.lst ys))):
   bc3 (Itr lo n) g tc te Q σ0 H:=by
 refine ⟨fun i m ys σ H=>m=n - i/\i<=n/\Pv i ys σ H,⟨n,by simp,cl4 _,h0⟩,?_⟩;rintro i m ys σ H ⟨rfl,hi,p⟩
 by_cases hlt:i < n
 · refine .inr ⟨hlt,Pv (i+1),fun ys' σ' H' p'=>⟨n - (i+1),by omega,rfl,hlt,p'⟩,fun x H' y=> ?_⟩;obtain ⟨e,y⟩:=y;subst e y;exact hs i ys σ _ hlt p
 · have e:i=n:=by omega
   subst e;exact .inl ⟨cj1 _,hd ys σ H p⟩
inductive EqD (K:PySem.W.Frag)(H:Hp):Nat->V->V->Bool->Prop where
 |flat {n:Nat} {x y:V}:ar1 x=true->ar1 y=true->EqD K H n x y (eqV x y)
 |same {n:Nat} (a:Addr):EqD K H n (.ref a) (.ref a) true
 |lists {n:Nat} {a b:Addr} {xs ys:List V} (e:Nat->Bool):a≠b->i4 K H a xs->i4 K H b ys->xs.length=ys.length->(∀(j:Nat) x y,xs[j]? =some x->ys[j]? =some y->EqD K H n x y (e j))->EqD K H (n+1) (.ref a) (.ref b) ((cl8 xs.length).all e)
 |lens {n:Nat} {a b:Addr} {xs ys:List V}:a≠b->i4 K H a xs->i4 K H b ys->xs.length≠ys.length->EqD K H (n+1) (.ref a) (.ref b) false
theorem bg8 {pins:List (Addr×Obj)}{σ:St}{H:Hp}{s:Shared}(I:g9 X pins σ H s){n:Nat}{x y:V}{b:Bool}(d:EqD X.K H n x y b):
   ∀{A:Around} {u v:Value},A.units+n < cLine->l6 x u->l6 y v->SeqAt.EqAt A s u v b:=by
 induction d with
 |flat fx fy=>intro A u v _ rx ry;exact bx9 rx ry fx fy
 |same a=>intro A u v _ rx ry;cases rx;cases ry;exact SeqAt.EqAt.same _
 |@lists n a c xs ys e ne ha hb hl _ ih=>
  intro A u v hu rx ry;cases rx;cases ry;obtain ⟨its,r1,p1,_⟩:=I.list ha;obtain ⟨its2,r2,p2,_⟩:=I.list hb;have l1:=r1.length;have l2:=r2.length;refine SeqAt.EqAt.of_refs ne ?_
  have q:=SeqAt.RcAt.lists (A:=A) (e:=e) p1.isList p2.isList (by rw[cj4,cj4];omega) (by omega) (fun j h1 h2=>by
    have h1':j < its.length:=by simpa using h1
    have h2':j < its2.length:=by simpa using h2
    have e1:xs[j]? =some (xs[j]'(by omega)):=cj0 _;have e2:ys[j]? =some (ys[j]'(by omega)):=cj0 _;obtain ⟨u1,z1,q1⟩:=r1.get e1;obtain ⟨u2,z2,q2⟩:=r2.get e2
    have w1:its.toArray[j]=u1:=by
      rw[cj0 h1'] at z1
      simpa using z1
    have w2:its2.toArray[j]=u2:=by
      rw[cj0 h2'] at z2
      simpa using z2
    rw[w1,w2]
    exact ih j _ _ e1 e2 (by show A.in1.units+n < cLine;have:A.in1.units=A.units+1:=by first|rfl|simp [Around.in1]
                             omega) q1 q2)
  rw[cj4,<-l1] at q;exact q
 |lens ne ha hb hl=>
  intro A u v hu rx ry;cases rx;cases ry;obtain ⟨its,r1,p1,_⟩:=I.list ha;obtain ⟨its2,r2,p2,_⟩:=I.list hb;have l1:=r1.length;have l2:=r2.length;exact SeqAt.EqAt.of_refs ne (SeqAt.RcAt.lists_lengths p1.isList p2.isList (by rw[cj4,cj4];simp;omega) (by omega))
def LEq (K:PySem.W.Frag)(H:Hp)(n:Nat)(xs ys:List V)(r:Bool):Prop:=
 (xs.length≠ys.length/\r=false)\/(∃e:Nat->Bool,xs.length=ys.length/\(∀(j:Nat) x y,xs[j]? =some x->ys[j]? =some y->EqD K H n x y (e j))/\r=(cl8 xs.length).all e)
theorem by6 {pins:List (Addr×Obj)}{σ:St}{H:Hp}{s:Shared}(I:g9 X pins σ H s){A:Around}{n:Nat}{a b:Addr}{xs ys:List V}{r:Bool}(hu:A.units+n+1 < cLine)(ha:i4 X.K H a xs)(hb:i4 X.K H b ys)(d:LEq X.K H n xs ys r):
   SeqAt.RcAt A s (.ref a) (.ref b) r:=by
 obtain ⟨its,r1,p1,_⟩:=I.list ha;obtain ⟨its2,r2,p2,_⟩:=I.list hb;have l1:=r1.length;have l2:=r2.length
 rcases d with ⟨hl,rfl⟩|⟨e,hl,he,rfl⟩
 · exact SeqAt.RcAt.lists_lengths p1.isList p2.isList (by rw[cj4,cj4];simp;omega) (by omega)
 · have q:=SeqAt.RcAt.lists (A:=A) (e:=e) p1.isList p2.isList (by rw[cj4,cj4];omega) (by omega) (fun j h1 h2=>by
     have h1':j < its.length:=by simpa using h1
     have h2':j < its2.length:=by simpa using h2
     have e1:xs[j]? =some (xs[j]'(by omega)):=cj0 _;have e2:ys[j]? =some (ys[j]'(by omega)):=cj0 _;obtain ⟨u1,z1,q1⟩:=r1.get e1;obtain ⟨u2,z2,q2⟩:=r2.get e2
     have w1:its.toArray[j]=u1:=by
       rw[cj0 h1'] at z1
       simpa using z1
     have w2:its2.toArray[j]=u2:=by
       rw[cj0 h2'] at z2
       simpa using z2
     rw[w1,w2]
     exact bg8 I (he j _ _ e1 e2) (by show A.in1.units+n < cLine;have:A.in1.units=A.units+1:=by first|rfl|simp [Around.in1]
                                      omega) q1 q2)
   rw[cj4,<-l1] at q;exact q
end
end L2
namespace L2
open PySem PySem.Spec PyProof.Rows
section
variable {X:Cx}
theorem bn4 {pins:List (Addr×Obj)}{σ:St}{H:Hp}{s:Shared}(I:g9 X pins σ H s){A:Around}{n:Nat}{a b:Addr}{xs ys:List V}{r:Bool}(hu:A.units+n+1 < cLine)(ha:i4 X.K H a xs)(hb:i4 X.K H b ys)(d:LEq X.K H n xs ys r):
   SeqAt.RcNeAt A s (.ref a) (.ref b) (!r):=by
 obtain ⟨its,r1,p1,_⟩:=I.list ha;obtain ⟨its2,r2,p2,_⟩:=I.list hb;have l1:=r1.length;have l2:=r2.length
 rcases d with ⟨hl,rfl⟩|⟨e,hl,he,rfl⟩
 · exact SeqAt.RcNeAt.lists_lengths p1.isList p2.isList (by rw[cj4,cj4];simp;omega) (by omega)
 · have q:=SeqAt.RcNeAt.lists (A:=A) (e:=e) p1.isList p2.isList (by rw[cj4,cj4];omega) (by omega) (fun j h1 h2=>by
     have h1':j < its.length:=by simpa using h1
     have h2':j < its2.length:=by simpa using h2
     have e1:xs[j]? =some (xs[j]'(by omega)):=cj0 _;have e2:ys[j]? =some (ys[j]'(by omega)):=cj0 _;obtain ⟨u1,z1,q1⟩:=r1.get e1;obtain ⟨u2,z2,q2⟩:=r2.get e2
     have w1:its.toArray[j]=u1:=by
       rw[cj0 h1'] at z1
       simpa using z1
     have w2:its2.toArray[j]=u2:=by
       rw[cj0 h2'] at z2
       simpa using z2
     rw[w1,w2]
     exact bg8 I (he j _ _ e1 e2) (by show A.in1.units+n < cLine;have:A.in1.units=A.units+1:=by first|rfl|simp [Around.in1]
                                      omega) q1 q2)
   rw[cj4,<-l1] at q;exact q
def bn5 (K:PySem.W.Frag)(n:Nat)(neg:Bool):R2:=fun x y H Q=>∃a b xs ys r,x= .ref a/\y= .ref b/\i4 K H a xs/\i4 K H b ys/\LEq K H n xs ys r/\Q (.bl (if neg then !r else r)) H
theorem bg9 (n:Nat)(hu:X.A.units+n+1 < cLine):G6 X (compareOp .Eq) (bn5 X.K n false):=by
 intro pins s σ H x y v u Q I rx ry h;obtain ⟨a,b,xs,ys,r,rfl,rfl,ha,hb,d,q⟩:=h;cases rx;cases ry;exact by6 I hu ha hb d _ _ _ _ ⟨.bl r,H,I,rfl,q⟩
theorem ab8 (n:Nat)(hu:X.A.units+n+1 < cLine):G6 X (compareOp .NotEq) (bn5 X.K n true):=by
 intro pins s σ H x y v u Q I rx ry h;obtain ⟨a,b,xs,ys,r,rfl,rfl,ha,hb,d,q⟩:=h;cases rx;cases ry;exact bn4 I hu ha hb d _ _ _ _ ⟨.bl (!r),H,I,rfl,q⟩
theorem aa6 {n:Nat}{e:Nat->Bool}:(cl8 n).all e=true↔∀j,j < n->e j=true:=by
 rw[cr0];exact ⟨fun h j hj=>h j (cn9.mpr hj),fun h j hj=>h j (cn9.mp hj)⟩
theorem N6 (K:PySem.W.Frag)(H:Hp)(n:Nat)(ns ms:List Int):LEq K H n (ns.map V.int) (ms.map V.int) (decide (ns=ms)):=by
 by_cases hl:ns.length=ms.length
 · refine .inr ⟨fun j=>decide (ns[j]? =ms[j]?),by simpa using hl,fun j x y e1 e2=> ?_,?_⟩
   · rw[cj2] at e1 e2
     cases h1:ns[j]? with
     |none=>rw[h1] at e1;cases e1
     |some a=>
      cases h2:ms[j]? with
      |none=>rw[h2] at e2;cases e2
      |some b=>
       rw[h1] at e1;rw[h2] at e2;cases e1;cases e2;have q:EqD K H n (V.int a) (V.int b) (eqV (V.int a) (V.int b)):= .flat rfl rfl
       have e:eqV (V.int a) (V.int b)=decide (some a=some b):=by
         show (a==b)=_
         by_cases z:a=b
         · subst z;simp
         · rw[decide_eq_false (fun w=>z (Option.some.inj w))];simpa using z
       rw[e] at q;show EqD K H n _ _ (decide (ns[j]? =ms[j]?));rw[h1,h2];exact q
   · rw[cr6,decide_eq_true_iff,aa6];constructor
     · intro h j _;subst h;simp
     · intro h
       refine cm3 fun j=> ?_
       by_cases hj:j < ns.length
       · exact of_decide_eq_true (h j (by simpa using hj))
       · rw[cj3 (by omega),cj3 (by omega)]
 · refine .inl ⟨by simpa using hl,?_⟩
   exact decide_eq_false fun h=>hl (by rw[h])
theorem ax3:K3 X (.type "range") (fun xs H Q=>∃j,xs=[.int j]/\∀p,H p=none->Q (.ref p) (c9 H p (.rng 0 j))):=by
 intro pins s σ H xs us Q I r h;obtain ⟨j,rfl,q⟩:=h;obtain ⟨u,rfl,⟨t,rfl⟩⟩:=O3 r;refine call_range_1 ⟨.ref s.heap.objs.size,_,I.laid (fun b o e=>Heap.get?_push_of_some _ e) (cj1 _) ?_,rfl,q _ (I.hok.fresh (cj1 _))⟩;exact ⟨_,_,_,Heap.get?_push_size _ rfl⟩
def G9 (lo:Int)(n:Nat):List Int:=(cl8 n).map fun (i:Nat)=>lo+(i:Int)
theorem bc5 {lo:Int}{n:Nat}{acc:Array Value}(h:ItemsOf (fun i v=>∃t,v=Value.int (lo+(i:Int)*1) t) acc n):j6 ((G9 lo n).map V.int) acc.toList:=by
 obtain ⟨hs,hv⟩:=h
 have key:∀(l:List Value) (k:Nat),(∀(j:Nat) v,l[j]? =some v->∃t,v=Value.int (lo+((k+j:Nat):Int)) t)->j6 (((cl8 l.length).map fun (i:Nat)=>lo+((k+i:Nat):Int)).map V.int) l:=by
   intro l
   induction l with
   |nil=>intro k _;exact .nil
   |cons v r ih=>
    intro k hk
    have e:(((cl8 r.length).map Nat.succ).map fun (i:Nat)=>lo+((k+i:Nat):Int))=(cl8 r.length).map fun (i:Nat)=>lo+((k+1+i:Nat):Int):=by
      rw[co1]
      refine co5 fun i _=> ?_
      show lo+((k+(i+1):Nat):Int)=_
      congr 2;omega
    rw[cl0,List.range_succ_eq_map,cm7,cm7,e];refine .cons ?_ ?_
    · obtain ⟨t,e⟩:=hk 0 v rfl;exact ⟨t,e⟩
    · have:=ih (k+1) fun j w e=>by
        obtain ⟨t,z⟩:=hk (j+1) w (by simpa using e);exact ⟨t,by rw[z];congr 2;omega⟩
      exact this
 have:=key acc.toList 0 fun j v e=>by
   obtain ⟨t,z⟩:=hv j v (by simpa using e);exact ⟨t,by rw[z,Int.mul_one];simp⟩
 have hl:acc.toList.length=n:=by simpa using hs
 rw[hl] at this
 have e:((cl8 n).map fun (i:Nat)=>lo+((0+i:Nat):Int))=G9 lo n:=by
   unfold G9
   refine co5 fun i _=> ?_
   simp
 rw[e] at this;exact this
theorem aq2 (hc:X.calm=true):K3 X (.type "list") (fun xs H Q=>∃p lo hi,xs=[.ref p]/\H p=some (.rng lo hi)/\(-(2^62)<=lo/\lo < 2^62/\ -(2^62)<=hi/\hi < 2^62)/\(hi - lo).toNat<=2^20/\
   ∀l,H l=none->Q (.ref l) (c9 H l (.lst ((G9 lo (hi - lo).toNat).map V.int)))):=by
 intro pins s σ H xs us Q I r h;obtain ⟨p,lo,hi,rfl,hp,⟨b1,b2,b3,b4⟩,hz,q⟩:=h;obtain ⟨u,rfl,rx⟩:=O3 r;cases rx;obtain ⟨t,u,v,ho⟩:=I.hok p _ hp
 refine call_list_range (n:=(hi - lo).toNat) (I.ok.hd hc) (r:=p) ho (small_one b1 b2 b3 b4) (by rw[rangeSize_one];split<;>omega) (cl9 hz (by decide)) fun h' tk acc' c' hk e it=> ?_
 have rv:=bc5 it;refine ⟨.ref s.heap.objs.size,_,I.laid hk (cj1 _) (show o6 X.prog X.w _ h' _ (.lst ((G9 lo (hi - lo).toNat).map V.int)) from ⟨?_,acc'.toList,c',rv,by rw[e]⟩),rfl,q _ (I.hok.fresh (cj1 _))⟩;unfold G9;rw[ci8,ci8,cm4];exact cl9 hz (by rw[sizeLine_eq];decide)
end
end L2
namespace L2
open PySem PySem.Spec PyProof.Rows
section
variable {X:Cx}
theorem bn6:K3 X (.builtin "isinstance") (fun xs H Q=>∃x n t b,xs=[x,.ty n]/\G0 X.K H x t/\PySem.W.kitOne X.K t (.type n)=some b/\Q (.bl b) H):=by
 intro pins s σ H xs us Q I r h;obtain ⟨x,n,t,b,rfl,ty,e,q⟩:=h;obtain ⟨u,w',rfl,rx,ry⟩:=aq9 r;cases (show w'=Value.type n from ry)
 exact bf7 I rx ty e fun tk=>⟨.bl b,H,I.tok tk,rfl,q⟩
theorem S8 (K:PySem.W.Frag)(n:String):PySem.W.kitOne K (.type n) (.type n)=some true:=by
 unfold PySem.W.kitOne;rw[if_pos (beq_self_eq_true _)]
theorem ab9 (K:PySem.W.Frag):PySem.W.kitOne K (.type "int") (.type "bool")=some false:=by
 unfold PySem.W.kitOne PySem.W.kitCls;rw[if_neg (by decide+kernel)];show (if PySem.W.kitMeta "bool"=true then (fastBuiltinMro "int").map (·.contains (Value.type "bool")) else none)=some false;rw[if_pos (by decide+kernel)]
 decide+kernel
theorem bn7:bootBuiltins "int"=some (.type "int"):=by decide+kernel
theorem bh0:bootBuiltins "bool"=some (.type "bool"):=by decide+kernel
theorem Y4:bootBuiltins "list"=some (.type "list"):=by decide+kernel
theorem ax4:bootBuiltins "range"=some (.type "range"):=by decide+kernel
theorem bn8:bootBuiltins "isinstance"=some (.builtin "isinstance"):=by decide+kernel
theorem bh1:bootBuiltins "min"=some (.builtin "min"):=by decide+kernel
theorem bh2:bootBuiltins "max"=some (.builtin "max"):=by decide+kernel
end
def j7 (a:Addr)(H H':Hp):Prop:=∀b o,H b=some o->b≠a->H' b=some o
theorem j7.refl (a:Addr)(H:Hp):j7 a H H:=fun _ _ h _=>h
theorem j7.trans {a:Addr}{H H1 H2:Hp}(x:j7 a H H1)(y:j7 a H1 H2):j7 a H H2:=fun b o h n=>y b o (x b o h n) n
theorem e8.but {H H':Hp}(a:Addr)(s:e8 H H'):j7 a H H':=fun b o h _=>s b o h
theorem e8.upd_new {H:Hp}{p:Addr}{o:HO}(h:H p=none):e8 H (c9 H p o):=fun b u e=>by rw[g8 (g7 e h)];exact e
theorem j7.upd {H:Hp}{a:Addr}{o:HO}:j7 a H (c9 H a o):=fun b u e n=>by rw[g8 n];exact e
theorem e8.upd_r {H H':Hp}{p:Addr}{o:HO}(s:e8 H H')(h:H p=none):e8 H (L2.c9 H' p o):=fun b u e=>by rw[g8 (g7 e h)];exact s b u e
theorem j7.upd_a {a:Addr}{H H':Hp}{o:HO}(k:j7 a H H'):j7 a H (L2.c9 H' a o):=fun b u e n=>by rw[g8 n];exact k b u e n
def C7 (H:Hp)(a:Addr)(c:Nat):Prop:=∃x y z:Int,H a=some (.lst [.int x,.int y,.int z])/\0<=z/\z<=c
theorem C7.mono {H:Hp}{a:Addr}{c d:Nat}(h:C7 H a c)(e:c<=d):C7 H a d:=by
 obtain ⟨x,y,z,h1,h2,h3⟩:=h;exact ⟨x,y,z,h1,h2,by omega⟩
end L2
namespace L2
open PySem PySem.Spec PyProof.Rows
def p6 (P:Program)(w:World)(K:PySem.W.Frag)(mg:Str->Option Value)(base:Heap)(x:Str)(k:Nat)(ps:List Str)(sp:Sp):Prop:=
 ∃(f:Addr) (fd:FuncData),mg x=some (.ref f)/\PySem.W.keepIn K (.ref f)=true/\Q7 K fd ps []/\j9 P w K mg base C8 k f fd ps sp
section
variable {X:Cx} {x:Str} {p pos:Pos} {e:Expr} {es:List Expr} {t:TA} {k:Nat} {ps:List Str} {sp:Sp}
theorem i9 (c:p6 X.prog X.w X.K X.mg X.base x k ps sp)(hr:m9 k X.A)(ha:PA X (e::es) t)(hg:Gl X x:=by rfl)(hdb:(x==("__debug__":Str))=false:=by decide)
   (he:starEach (e::es) X.env=(false,eval e X.env)::starEach es X.env:=by rfl) (hpl:(backTo pos (starEach es X.env)).any (·.1)=false:=by rfl):
   PE X (.Call (.Name x p) (e::es) [] pos) (ai5 sp [] E0 t):=by
 obtain ⟨f,fd,h1,h2,h3,h4⟩:=c;exact ay9 h4 hr hg h1 h2 h3 .nil cc5 ha hdb he hpl
theorem ac0 {a b:Expr}{ta:TA}(hm:X.mg "isinstance"=none)(ha:PA X [a,b] ta)(hg:Gl X "isinstance":=by rfl)
   (he:starEach [a,b] X.env=(false,eval a X.env)::starEach [b] X.env:=by rfl) (hpl:(backTo pos (starEach [b] X.env)).any (·.1)=false:=by rfl):
   PE X (.Call (.Name "isinstance" p) [a,b] [] pos) (U6 (fun xs H Q=>∃x n t b,xs=[x,.ty n]/\G0 X.K H x t/\PySem.W.kitOne X.K t (.type n)=some b/\Q (.bl b) H) ta):=
 N0 bn6 hg hm bn8 ha (by decide) (by decide) he hpl
theorem bn9 (hm:X.mg "int"=none)(hg:Gl X "int":=by rfl):PE X (.Name "int" p) (tC (.ty "int")):=al1 hg hm bn7 rfl
theorem bh3 (hm:X.mg "bool"=none)(hg:Gl X "bool":=by rfl):PE X (.Name "bool" p) (tC (.ty "bool")):=al1 hg hm bh0 rfl
theorem ac1 (hm:X.mg "list"=none)(hg:Gl X "list":=by rfl):PE X (.Name "list" p) (tC (.ty "list")):=al1 hg hm Y4 rfl
theorem o5 (hm:X.mg "len"=none)(ha:PA X [e] t)(hg:Gl X "len":=by rfl)
   (he:starEach [e] X.env=(false,eval e X.env)::starEach [] X.env:=by rfl):PE X (.Call (.Name "len" p) [e] [] pos) (U6 (fun xs H Q=>∃p ys,xs=[.ref p]/\(i4 X.K H p ys\/U5 X.K H p ys)/\Q (.int ys.length) H) t):=
 N0 as3 hg hm PySem.boot_len ha (by decide) (by decide) he rfl
end
end L2
namespace Mth
structure l4 (p:List Int):Prop where
 nd:p.Nodup
 lo:∀x∈p,0<=x
 hi:∀x∈p,x < p.length
theorem B5 {n:Nat}{x:Int}:x∈L2.G9 0 n↔0<=x/\x < n:=by
 unfold L2.G9;rw[ck6];constructor
 · rintro ⟨i,hi,rfl⟩;have:=cn9.mp hi;omega
 · rintro ⟨h1,h2⟩;exact ⟨x.toNat,cn9.mpr (by omega),by omega⟩
theorem A0 (lo:Int)(n:Nat):(L2.G9 lo n).length=n:=by
 unfold L2.G9;rw[ci8,cm4]
theorem J4 (n:Nat):(L2.G9 0 n).Nodup:=by
 unfold L2.G9;rw[ck9,cp9];exact List.Pairwise.imp (fun {a b} (h:a < b)=>by omega) cu3
theorem E4 {p:List Int}{n:Nat}(h:p.Perm (L2.G9 0 n)):l4 p/\p.length=n:=by
 have hl:p.length=n:=by rw[h.length_eq,A0]
 refine ⟨⟨h.nodup_iff.mpr (J4 n),fun x hx=>(B5.mp (h.mem_iff.mp hx)).1,fun x hx=> ?_⟩,hl⟩;have:=(B5.mp (h.mem_iff.mp hx)).2;omega
theorem aq3:∀(n:Nat) (p:List Nat),p.Nodup->(∀x∈p,x < n)->p.length=n->p.Perm (cl8 n):=by
 intro n
 induction n with
 |zero=>intro p _ _ hl;rw[cr8 hl];exact List.Perm.refl _
 |succ n ih=>
  intro p nd hb hl
  by_cases hn:n∈p
  · obtain ⟨s,t,rfl⟩:=cw3 hn;have pm:(s++n::t).Perm (n::(s++t)):=List.perm_middle;have nd':=pm.nodup_iff.mp nd;obtain ⟨h1,h2⟩:=cn3.mp nd'
    have:=ih (s++t) h2 (fun x hx=>by
      have hx':x < n+1:=hb x (pm.mem_iff.mpr (cj8 _ hx))
      have:x≠n:=fun e=>h1 (e▸hx)
      omega) (by rw[cj6,cl0] at hl;rw[cj6];omega)
    refine pm.trans ?_;rw[ct4];exact (List.Perm.cons n this).trans (cp6 (l₁:=[n]))
  · exfalso
    have hlt:∀x∈p,x < n:=fun x hx=>by
      have h1:=hb x hx
      have:x≠n:=fun e=>hn (e▸hx)
      omega
    match p,nd,hl,hlt with
    |[],_,hl,_=>simp at hl
    |y::q,nd,hl,hlt=>
     obtain ⟨h1,h2⟩:=cn3.mp nd;have hq:=ih q h2 (fun x hx=>hlt x (cj8 _ hx)) (by simpa using hl);have hy:=hlt y cj5;exact h1 (hq.mem_iff.mpr (cn9.mpr hy))
theorem l4.perm {p:List Int}(h:l4 p):p.Perm (L2.G9 0 p.length):=by
 have e:(p.map Int.toNat).map (fun (i:Nat)=>(0:Int)+(i:Int))=p:=by
   rw[co1]
   conv=>rhs;rw[<-ct5 p]
   refine co5 fun x hx=> ?_
   have:=h.lo x hx;show (0:Int)+((x.toNat:Nat):Int)=x;omega
 have nd:(p.map Int.toNat).Nodup:=by
   rw[ck9,cp9];have:=ck9.mp h.nd;refine List.Pairwise.imp_of_mem (fun {a b} ha hb hne z=>hne ?_) this;have h1:=h.lo a ha;have h2:=h.lo b hb;omega
 have:=aq3 p.length (p.map Int.toNat) nd (fun x hx=>by
   obtain ⟨y,hy,rfl⟩:=ck6.mp hx;have h1:=h.lo y hy;have h2:=h.hi y hy
   omega) (by rw[ci8])
 have q:=this.map (fun (i:Nat)=>(0:Int)+(i:Int));rw[e] at q;exact q
def A2 (fs:List Int)(u:Int):Option Int:=fs[u.toNat]?
theorem at2 (fs:List Int):(L2.G9 0 fs.length).map (A2 fs)=fs.map some:=by
 unfold L2.G9;rw[co1]
 refine cm3 fun j=> ?_
 rw[cj2,cj2]
 by_cases hj:j < fs.length
 · rw[cp3 hj,cj0 hj];show some (fs[((0:Int)+(j:Int)).toNat]?)=_
   have:((0:Int)+(j:Int)).toNat=j:=by omega
   rw[this,cj0 hj];rfl
 · rw[cj3 (by rw[cm4];omega),cj3 (by omega)];rfl
theorem bh4 {a b:List Int}(h:(a.map some).Perm (b.map some)):a.Perm b:=by
 have:=h.map (fun o:Option Int=>o.getD 0);rw[co1,co1] at this
 have e:∀l:List Int,l.map ((fun o:Option Int=>o.getD 0)∘some)=l:=fun l=>by
   conv=>rhs;rw[<-ct5 l]
   rfl
 rw[e,e] at this;exact this
theorem aj0 {fs ts qs:List Int}(ht:l4 ts)(hl:fs.length=ts.length)(h:ts.map (A2 fs)=qs.map some):fs.Perm qs:=by
 refine bh4 ?_;have h1:=ht.perm.map (A2 fs);rw[<-hl,at2,h] at h1;exact h1.symm
end Mth
namespace L2
open PySem PySem.Spec PyProof.Rows
theorem ab6.of {X:Cx}{N:List Str}{nl:Nat}{fr:List Nat}{scope:Scope}(h1:(scope.names.all fun y=>y.2 != .cell)=true:=by rfl)(h2:scope.kind= .function:=by rfl)
   (h3:(scope.names.all fun y=>y.2 != .local||scope.names.lookup y.1==some .local)=true:=by rfl)
   (h4:(scope.names.all fun p=>p.2 != .free||(X.env.kindOf p.1==some .cell||X.env.kindOf p.1==some .free))=true:=by rfl) (h5:N.length=nl+fr.length:=by rfl)
   (h6:((cl8 fr.length).all fun k=>match fr[k]? with
     |some j=>(match N[nl+k]?,X.N[j]? with
      |some y,some z=>y==z&&(X.env.scope.names.lookup y==some .local||X.env.scope.names.lookup y==some .cell||X.env.scope.names.lookup y==some .free)&&scope.names.lookup y==some .free
      |_,_=>false)
     |none=>false)=true:=by rfl):ab6 X N nl fr scope where
 cell:=fun y hy e=>by
   have:=cr0.mp h1 y hy;rw[e] at this;exact absurd this (by decide)
 kind:=h2
 names:=fun y hy e=>by
   have:=cr0.mp h3 y hy;rw[e] at this
   have q:(scope.names.lookup y.1==some NameKind.local)=true:=by simpa using this
   exact eq_of_beq q
 free:=fun p hp e=>by
   have:=cr0.mp h4 p hp;rw[e] at this
   have q:(X.env.kindOf p.1==some NameKind.cell||X.env.kindOf p.1==some NameKind.free)=true:=by simpa using this
   rcases cx9 _ _|>.mp q with z|z
   · exact .inl (eq_of_beq z)
   · exact .inr (eq_of_beq z)
 len:=h5
 fr:=fun k j e=>by
   have hk:k < fr.length:=(ci9.mp e).1;have:=cr0.mp h6 k (cn9.mpr hk);rw[e] at this
   dsimp only at this
   cases e1:N[nl+k]? with
   |none=>rw[e1] at this;cases this
   |some y=>
    cases e2:X.N[j]? with
    |none=>rw[e1,e2] at this;cases this
    |some z=>
     rw[e1,e2] at this
     dsimp only at this
     rw[cn8,cn8] at this;obtain ⟨⟨q1,q2⟩,q3⟩:=this;have hyz:y=z:=eq_of_beq q1;subst hyz;refine ⟨y,rfl,rfl,?_,eq_of_beq q3⟩;rw[cx9,cx9] at q2
     rcases q2 with (q|q)|q
     · exact .inl (eq_of_beq q)
     · exact .inr (.inl (eq_of_beq q))
     · exact .inr (.inr (eq_of_beq q))
def G1 (l:List Int):List (k6×V):=l.map fun n=>((Sum.inl n:k6),V.bl true)
theorem ah1 {l:List Int}{n:Int}(h:n∈l):y9 (G1 l) (Sum.inl n:k6)=some (.bl true):=by
 induction l with
 |nil=>simp at h
 |cons a r ih=>
  show y9 (((Sum.inl a:k6),V.bl true)::G1 r) _=_
  by_cases e:a=n
  · rw[N4 (by rw[e])]
  · rw[K6 (fun z=>e (Sum.inl.inj z))];exact ih ((ck8.mp h).resolve_left fun z=>e z.symm)
theorem Y5 {l:List Int}{n:Int}(h:n∉l):y9 (G1 l) (Sum.inl n:k6)=none:=by
 induction l with
 |nil=>rfl
 |cons a r ih=>
  show y9 (((Sum.inl a:k6),V.bl true)::G1 r) _=_;rw[K6 (fun z=>h (by rw[Sum.inl.inj z];exact cj5))]
  exact ih fun z=>h (cj8 _ z)
theorem ac2 {l:List Int}{n:Int}(h:n∉l):K5 (G1 l) (Sum.inl n:k6) (V.bl true)=G1 (l++[n]):=by
 rw[ag9 _ (Y5 h)];unfold G1;rw[ck4];rfl
theorem D3 {ns:List Int}{i:Nat}{y:V}(h:(ns.map V.int)[i]? =some y):∃z,ns[i]? =some z/\y= .int z:=by
 rw[cj2] at h
 cases e:ns[i]? with
 |none=>rw[e] at h;cases h
 |some z=>rw[e] at h;exact ⟨z,rfl,(Option.some.inj h).symm⟩
theorem o9 {α:Type}{l:List α}{i:Nat}{x:α}(h:l[i]? =some x):l.take (i+1)=l.take i++[x]:=by
 rw[List.take_add_one,h];rfl
end L2
namespace Mth
def l8 (p q:List Int):List Int:=q.map fun i=>p.getD i.toNat 0
theorem J5 {p:List Int}{i:Int}(h0:0<=i)(h1:i < p.length):L2.atI (p.map L2.V.int) i=some (.int (p.getD i.toNat 0)):=by
 obtain ⟨j,rfl⟩:=co9 h0;refine L2.D4 ?_
 have hj:j < p.length:=by omega
 rw[cj2,cj0 hj];show some (L2.V.int p[j])=_;rw[cm2];rw[cj7,cj0 hj];rfl
end Mth
namespace L2
open PySem PySem.Spec PyProof.Rows
theorem al9 (K:PySem.W.Frag)(H:Hp)(n:Nat)(xs:List V):LEq K H n xs [] xs.isEmpty:=by
 cases xs with
 |nil=>exact .inr ⟨fun _=>true,rfl,fun j x y e=>by simp at e,rfl⟩
 |cons x r=>exact .inl ⟨by simp,rfl⟩
section
variable {X:Cx} {p pos apos:Pos} {e o:Expr} {es:List Expr} {t:TA} {to:TE}
theorem I0 (ho:PE X o to)(ha:PA X [e] t)
   (hbase:attributeBase o "append" X.env (eval o X.env)=eval o X.env:=by rfl)
   (hfew:((backTo pos (starEach [e] X.env)).all (fun x=> !x.1)&&(backToKw pos (keywordEach [] X.env)).all (fun x=>x.1.isSome)
     &&decide ([e].length+([]:List Keyword).length+(if ([]:List Keyword).isEmpty then 0 else 1) < 30))=true:=by rfl)
   (hline:(apos.endLine==pos.line)=true:=by rfl) (hs:starEach [e] X.env=(false,eval e X.env)::starEach [] X.env:=by rfl) (hplain:(backTo pos (starEach [] X.env)).any (·.1)=false:=by rfl):
   PE X (.Call (.Attribute o "append" apos) [e] [] pos) (tBM X.K "list" az1 to t):=
 bc2 PySem.F.plainAttrs_list PySem.F.slot_list_append PySem.F.type_list_append bf9 ho ha hbase hfew hline hs hplain
theorem bo0 (ho:PE X o to)(ha:PA X [e] t)
   (hbase:attributeBase o "pop" X.env (eval o X.env)=eval o X.env:=by rfl)
   (hfew:((backTo pos (starEach [e] X.env)).all (fun x=> !x.1)&&(backToKw pos (keywordEach [] X.env)).all (fun x=>x.1.isSome)
     &&decide ([e].length+([]:List Keyword).length+(if ([]:List Keyword).isEmpty then 0 else 1) < 30))=true:=by rfl)
   (hline:(apos.endLine==pos.line)=true:=by rfl) (hs:starEach [e] X.env=(false,eval e X.env)::starEach [] X.env:=by rfl) (hplain:(backTo pos (starEach [] X.env)).any (·.1)=false:=by rfl):
   PE X (.Call (.Attribute o "pop" apos) [e] [] pos) (tBM X.K "list" bg0 to t):=
 bc2 PySem.F.plainAttrs_list PySem.F.slot_list_pop PySem.F.type_list_pop bm7 ho ha hbase hfew hline hs hplain
theorem E9 (hm:X.mg "list"=none)(ha:PA X [e] t)(hg:Gl X "list":=by rfl)(he:starEach [e] X.env=(false,eval e X.env)::starEach [] X.env:=by rfl):
   PE X (.Call (.Name "list" p) [e] [] pos) (U6 (fun xs H Q=>∃p ys,xs=[.ref p]/\(i4 X.K H p ys\/U5 X.K H p ys)/\∀l,H l=none->Q (.ref l) (c9 H l (.lst ys))) t):=
 U7 as4 hg hm Y4 ha (by decide) (by decide) he rfl
theorem Y6 {p2 pos2:Pos}(hc:X.calm=true)(hm:X.mg "list"=none)(hm2:X.mg "range"=none)(ha:PA X [e] t)(hg:Gl X "list":=by rfl)(hg2:Gl X "range":=by rfl)(he:starEach [e] X.env=(false,eval e X.env)::starEach [] X.env:=by rfl)
   (he2:starEach [.Call (.Name "range" p2) [e] [] pos2] X.env=(false,eval (.Call (.Name "range" p2) [e] [] pos2) X.env)::starEach [] X.env:=by rfl):
   PE X (.Call (.Name "list" p) [.Call (.Name "range" p2) [e] [] pos2] [] pos) (U6 (fun xs H Q=>∃p lo hi,xs=[.ref p]/\H p=some (.rng lo hi)/\(-(2^62)<=lo/\lo < 2^62/\ -(2^62)<=hi/\hi < 2^62)/\(hi - lo).toNat<=2^20/\
   ∀l,H l=none->Q (.ref l) (c9 H l (.lst ((G9 lo (hi - lo).toNat).map V.int)))) (ar0 (U6 (fun xs H Q=>∃j,xs=[.int j]/\∀p,H p=none->Q (.ref p) (c9 H p (.rng 0 j))) t) bb8)):=
 U7 (aq2 hc) hg hm Y4 (c6 (U7 ax3 hg2 hm2 ax4 ha (by decide) (by decide) he rfl) c7 he2) (by decide) (by decide) he2 rfl
theorem bt2 {a b:Expr}(hc:X.calm=true)(hm:X.mg "min"=none)(ha:PA X [a,b] t)(hg:Gl X "min":=by rfl)(he:starEach [a,b] X.env=(false,eval a X.env)::starEach [b] X.env:=by rfl)(hpl:(backTo pos (starEach [b] X.env)).any (·.1)=false:=by rfl):
   PE X (.Call (.Name "min" p) [a,b] [] pos) (U6 (fun xs H Q=>∃i j,xs=[.int i,.int j]/\Q (.int (if j < i then j else i)) H) t):=
 N0 (bf5 hc) hg hm bh1 ha (by decide) (by decide) he hpl
theorem bt3 {a b:Expr}(hc:X.calm=true)(hm:X.mg "max"=none)(ha:PA X [a,b] t)(hg:Gl X "max":=by rfl)(he:starEach [a,b] X.env=(false,eval a X.env)::starEach [b] X.env:=by rfl)(hpl:(backTo pos (starEach [b] X.env)).any (·.1)=false:=by rfl):
   PE X (.Call (.Name "max" p) [a,b] [] pos) (U6 (fun xs H Q=>∃i j,xs=[.int i,.int j]/\Q (.int (if j > i then j else i)) H) t):=
 N0 (bf4 hc) hg hm bh2 ha (by decide) (by decide) he hpl
end
end L2
namespace Mth
theorem aj1 {α:Type}:∀{l:List α} {k:Nat} {y:α},l[k]? =some y->(y::l.eraseIdx k).Perm l
 |[],k,y,h=>by simp at h
 |a::r,0,y,h=>by
  simp at h;subst h;exact List.Perm.refl _
 |a::r,k+1,y,h=>by
  have h':r[k]? =some y:=by simpa using h
  have ih:=aj1 h';show (y::a::r.eraseIdx k).Perm (a::r);exact (List.Perm.swap a y _).trans (ih.cons a)
end Mth
namespace L2
open PySem PySem.Spec PyProof.Rows
def cc6 (K:PySem.W.Frag)(ta:TA):TE:=U6 (fun xs H Q=>∃p ys,xs=[.ref p]/\(i4 K H p ys\/U5 K H p ys)/\Q (.int ys.length) H) ta
section
variable {X:Cx} {p pos:Pos} {e:Expr} {t:TA}
theorem bo1 (K:PySem.W.Frag)(hm:X.mg "len"=none)(ha:PA X [e] t)(hK:X.K=K:=by rfl)(hg:Gl X "len":=by rfl)
   (he:starEach [e] X.env=(false,eval e X.env)::starEach [] X.env:=by rfl):PE X (.Call (.Name "len" p) [e] [] pos) (cc6 K t):=by
 subst hK;exact o5 hm ha hg he
end
theorem at3 (n:Nat):(cl3 n [V.int 0]).flatten=(cl3 n (0:Int)).map V.int:=by
 induction n with
 |zero=>rfl
 |succ n ih=>rw[cp2,co4,ih,cp2,cm7];rfl
def aj2:V->Int
 | .int i=>i
 |_=>0
theorem bh5 {ys:List V}{xs:List Int}(h:ys.Perm (xs.map V.int)):∃ps:List Int,ys=ps.map V.int/\ps.Perm xs:=by
 refine ⟨ys.map aj2,?_,?_⟩
 · rw[co1]
   conv=>lhs;rw[<-ct5 ys]
   refine co5 fun y hy=> ?_
   obtain ⟨i,_,rfl⟩:=ck6.mp (h.mem_iff.mp hy);rfl
 · have:=h.map aj2;rw[co1] at this
   have e:xs.map (aj2∘V.int)=xs:=by
     conv=>rhs;rw[<-ct5 xs]
     rfl
   rw[e] at this;exact this
end L2
namespace Mth
theorem X1 {fs:List Int}{u v x:Int}(hu:0<=u)(hv:0<=v)(h:u≠v):A2 (fs.set v.toNat x) u=A2 fs u:=by
 unfold A2;rw[cs6 (by omega)]
theorem Y7 {fs:List Int}{v x:Int}(h:v.toNat < fs.length):A2 (fs.set v.toNat x) v=some x:=by
 unfold A2;rw[cr5 h]
theorem p8 {ts:List Int}{i:Nat}(h:i < ts.length):ts.getD i 0=ts[i]:=by
 rw[cj7,cj0 h];rfl
theorem J6 {ts:List Int}(nd:ts.Nodup){i j:Nat}(hi:i < ts.length)(hj:j < ts.length)(h:i≠j):ts.getD i 0≠ts.getD j 0:=by
 rw[p8 hi,p8 hj]
 rcases Nat.lt_or_gt_of_ne h with z|z
 · exact ck3.mp (ck9.mp nd) i j hi hj z
 · exact fun e=>ck3.mp (ck9.mp nd) j i hj hi z e.symm
theorem bo2 {ts fs qs:List Int}{k L:Nat}(hL:1<=L)(hb:k+L<=ts.length)(h1:(ts.take k).map (A2 fs)=qs.map some)(hq:qs.Perm (ts.take k))
   (h2:∀j,j < L->A2 fs (ts.getD (k+j) 0)=some (ts.getD (k+(j+1)%L) 0)):∃qs':List Int,qs'.Perm (ts.take (k+L))/\(ts.take (k+L)).map (A2 fs)=qs'.map some:=by
 have hT:((ts.drop k).take L).length=L:=by rw[cj9,cn4];omega
 have hTj:∀j,j < L->((ts.drop k).take L)[j]? =some (ts.getD (k+j) 0):=fun j hj=>by
   rw[cm0 hj,ct7,p8 (by omega),cj0 (by omega)]
 have e:((ts.drop k).take L).map (A2 fs)=(((ts.drop k).take L).drop 1++((ts.drop k).take L).take 1).map some:=by
   refine cm3 fun j=> ?_
   by_cases hj:j < L
   · rw[cj2,hTj j hj,cj2];show some (A2 fs (ts.getD (k+j) 0))=_;rw[h2 j hj]
     by_cases hj1:j+1 < L
     · rw[cm6 (by rw[cn4,hT];omega),ct7,cs3 1 j,hTj (j+1) hj1,Nat.mod_eq_of_lt hj1];rfl
     · have hjL:j+1=L:=by omega
       rw[cm8 (by rw[cn4,hT];omega),cn4,hT,hjL,Nat.mod_self]
       have:j - (L - 1)=0:=by omega
       rw[this,cm0 (by omega),hTj 0 (by omega)];rfl
   · rw[cj3 (by rw[ci8,hT];omega),cj3];rw[ci8,cj6,cn4,cj9 (i:=1),hT];omega
 refine ⟨qs++(((ts.drop k).take L).drop 1++((ts.drop k).take L).take 1),?_,?_⟩
 · rw[List.take_add];refine List.Perm.append hq ?_;refine cp6.trans ?_;rw[cp7]
 · rw[List.take_add,ck4,ck4,h1,e]
end Mth
namespace L2
open PySem PySem.Spec PyProof.Rows
theorem e8.kb {a:Addr}{H H1 H2:Hp}(s:e8 H H1)(k:j7 a H1 H2)(h:H a=none):e8 H H2:=fun b o e=>k b o (s b o e) (g7 e h)
def x6 (H:Hp)(as:List Addr)(rs:List (List Int)):Prop:=as.length=rs.length/\∀(j:Nat) a r,as[j]? =some a->rs[j]? =some r->H a=some (.lst (r.map V.int))
theorem ax5 {a b:List Int}(h:a.map V.int=b.map V.int):a=b:=(List.map_inj_right (fun x y (h:V.int x=V.int y)=>V.int.inj h)).mp h
theorem bh6 {K:PySem.W.Frag}{H:Hp}{as bs:List Addr}{rs qs:List (List Int)}(ha:x6 H as rs)(hb:x6 H bs qs):LEq K H 1 (as.map V.ref) (bs.map V.ref) (decide (rs=qs)):=by
 by_cases hl:as.length=bs.length
 · refine .inr ⟨fun j=>decide (rs[j]? =qs[j]?),by simpa using hl,fun j x y e1 e2=> ?_,?_⟩
   · rw[cj2] at e1 e2
     cases h1:as[j]? with
     |none=>rw[h1] at e1;cases e1
     |some a=>
      cases h2:bs[j]? with
      |none=>rw[h2] at e2;cases e2
      |some b=>
       rw[h1] at e1;rw[h2] at e2;cases e1;cases e2;have j1:j < as.length:=(ci9.mp h1).1;have k1:rs[j]? =some (rs[j]'(by rw[<-ha.1];exact j1)):=cj0 _;have k2:qs[j]? =some (qs[j]'(by rw[<-hb.1,<-hl];exact j1)):=cj0 _;have q1:=ha.2 j a _ h1 k1;have q2:=hb.2 j b _ h2 k2;show EqD K H 1 _ _ (decide (rs[j]? =qs[j]?));rw[k1,k2];generalize (rs[j]'(by rw[<-ha.1];exact j1))=r at q1 ⊢;generalize (qs[j]'(by rw[<-hb.1,<-hl];exact j1))=q at q2 ⊢
       by_cases hab:a=b
       · subst hab;rw[q1] at q2;have e':r=q:=ax5 (HO.lst.inj (Option.some.inj q2));rw[e',decide_eq_true rfl];exact .same a
       · rcases N6 K H 0 r q with ⟨h3,h4⟩|⟨e,h3,h4,h5⟩
         · have:=EqD.lens (n:=0) hab (i4.of (K:=K) q1) (i4.of q2) h3
           rw[decide_eq_false (fun z=>by
             have z':r=q:=Option.some.inj z
             exact h3 (by rw[z']))]
           exact this
         · have:=EqD.lists (n:=0) e hab (i4.of (K:=K) q1) (i4.of q2) h3 h4;rw[<-h5] at this
           have e6:decide (r=q)=decide (some r=some q):=by
             by_cases z:r=q
             · subst z;simp
             · rw[decide_eq_false z,decide_eq_false fun w=>z (Option.some.inj w)]
           rw[<-e6];exact this
   · rw[cr6,decide_eq_true_iff,aa6];constructor
     · intro h j _;subst h;simp
     · intro h
       refine cm3 fun j=> ?_
       by_cases hj:j < rs.length
       · exact of_decide_eq_true (h j (by rw[ci8,ha.1];exact hj))
       · rw[cj3 (by omega),cj3 (by rw[<-hb.1,<-hl,ha.1];omega)]
 · refine .inl ⟨by simpa using hl,?_⟩
   exact decide_eq_false fun h=>hl (by rw[ha.1,hb.1,h])
theorem at4 {H:Hp}{a b:Addr}{r q:List Int}(h1:H a=some (.lst (r.map V.int)))(h2:H b=some (.lst (q.map V.int))):x6 H [a,b] [r,q]:=by
 refine ⟨rfl,fun j c s e1 e2=> ?_⟩
 match j,e1,e2 with
 |0,e1,e2=>cases e1;cases e2;exact h1
 |1,e1,e2=>cases e1;cases e2;exact h2
end L2
namespace Mth
theorem S9 {p:List Int}(t:l4 p){j:Nat}(h:j < p.length):0<=p.getD j 0/\p.getD j 0 < p.length:=by
 rw[p8 h];exact ⟨t.lo _ (co3 h),t.hi _ (co3 h)⟩
theorem bo3 {p:List Int}{f:Int->Option Int}{g:Nat->Int}(h:∀u,u < p.length->f (p.getD u 0)=some (g u)):p.map f=((cl8 p.length).map g).map some:=by
 refine cm3 fun j=> ?_
 rw[cj2,cj2,cj2]
 by_cases hj:j < p.length
 · rw[cj0 hj,cp3 hj];have:=h j hj;rw[p8 hj] at this;show some (f p[j])=some (some (g j));rw[this]
 · rw[cj3 (by omega),cj3 (by rw[cm4];omega)];rfl
theorem ap0 {p bs:List Int}(t:l4 p)(hl:bs.length=p.length)(h:∀u,u < p.length->A2 bs (p.getD u 0)=some (u:Int)):bs.Perm (L2.G9 0 p.length):=by
 refine aj0 t hl ?_;rw[bo3 (g:=fun u=>(0:Int)+(u:Int)) (fun u hu=>by rw[h u hu];simp)];rfl
theorem A8 (p q:List Int):(l8 p q).length=q.length:=by unfold l8;rw[ci8]
end Mth
namespace L2
open PySem PySem.Spec PyProof.Rows
def Ite (K:PySem.W.Frag)(a:Addr):It:=
 ⟨fun i H=>∃xs x,i4 K H a xs/\xs[i]? =some x,fun i H v H'=>∃x t,(∀xs,i4 K H a xs->xs[i]? =some x)/\H t=none/\v= .ref t/\H'=c9 H t (.tup [.int (i:Int),x]),fun i H=>∃xs,i4 K H a xs/\xs.length<=i⟩
theorem bh8 {P:Program}{w:World}{K:PySem.W.Frag}{elts:List Expr}{x1}{pos:Pos}(a e it:Addr)(hne:e≠it):
   al3 P w K (.Tuple elts x1 pos) (Ite K a) [e,it] e (fun i h=>(∃old,IsEnum h e it i old)/\h.IsListIter it a i) where
 mem:=by simp
 obj:=fun i h st b hb=>by
   obtain ⟨⟨old,he⟩,⟨o,ho,c,d⟩⟩:=st
   have hb:b=e\/b=it:=by simpa using hb
   rcases hb with rfl|rfl
   · exact ⟨_,he,fun v z=>by cases z⟩
   · exact ⟨o,ho,fun v z=>by rw[d] at z;cases z⟩
 keep:=fun i h h' st k=>⟨let ⟨old,he⟩:=st.1;⟨old,k e (by simp) _ he⟩,st.2.at fun o q=>k it (by simp) o q⟩
 item:=by
   intro X hP hw hK hc i pins s σ H E I hf st hg;subst hP hw hK;obtain ⟨⟨old,he⟩,hit⟩:=st;obtain ⟨xs,x,hq,hx⟩:=hg;obtain ⟨its,rv,p,hz⟩:=I.list hq;obtain ⟨u,hu,ru⟩:=rv.get hx;obtain ⟨f0,f1,f2,f3,f4,f5⟩:=hf e (by simp);obtain ⟨g0,g1,g2,g3,g4,g5⟩:=hf it (by simp)
   refine wpAny_pyNext_enum_item he hit p.isList (x:=u) (by simpa using hu) hne fun h' he' hit' ht' hz' hk'=> ?_
   refine ⟨_,rfl,wpAny_letOwnedTupleGo_enum he' fun h2 he2 hs2=> ?_⟩;have hs2:Heap.SameBut e h' h2:=hs2;have eT:e≠s.heap.objs.size:=cl2 (Heap.lt_size he);have ht2:h2.get? s.heap.objs.size=some {cls:= .type "tuple",data:= .seq #[.int i s.toks,u]}:=hs2.extBut _ _ eT.symm ht'
   have kk:∀b o,b≠e->b≠it->s.heap.get? b=some o->h2.get? b=some o:=fun b o b1 b2 q=>hs2.extBut b o b1 (hk' b o b1 b2 q)
   have hn:H s.heap.objs.size=none:=I.hok.fresh (cj1 _)
   have nT:∀b u',H b=some u'->b≠s.heap.objs.size:=fun b u' q=>g7 q hn
   have ne:∀b u',H b=some u'->b≠e/\b≠it:=fun b u' q=>⟨fun z=>(by rw[z,f0] at q;cases q),fun z=>(by rw[z,g0] at q;cases q)⟩
   have I1:g9 X pins σ (c9 H s.heap.objs.size (.tup [.int (i:Int),x])) {s with heap:=h2,gens:=s.gens,drawn:=s.drawn,toks:=s.toks+1}:=by
     refine I.step (ch:=[e,it]) (fun b hb=> ?_) (fun b o _ _ hc q _=>kk b o (fun z=>hc (by simp [z])) (fun z=>hc (by simp [z])) q) (fun b o _ _ hc q _=>⟨o.slots,kk b o (fun z=>hc (by simp [z])) (fun z=>hc (by simp [z])) q⟩)
       (fun b o hc q n=>by rw[g8 (cl2 (Heap.lt_size q))];exact n) (fun b o hc q=>⟨o,kk b o (fun z=>hc (by simp [z])) (fun z=>hc (by simp [z])) q⟩)
       (fun b ys q=>by rw[g8 (nT b _ q)];exact q) (fun b o ys q=>by rw[g8 (nT b _ q)];exact q) (fun b ps q=>⟨#[],by rw[g8 (nT b _ q),q];simp⟩) (fun m hm=> ?_) (fun b u' q=> ?_) I.bare
     · have hb:b=e\/b=it:=by simpa using hb
       rcases hb with rfl|rfl
       · exact ⟨f3,f1,f4,f5⟩
       · exact ⟨g3,g1,g4,g5⟩
     · obtain ⟨o,es,ep,ho,r⟩:=hm;exact ⟨o,es,ep,kk _ o (Ne.symm f1) (Ne.symm g1) ho,r⟩
     · by_cases hb:b=s.heap.objs.size
       · subst hb;rw[c8] at q;cases q;exact ⟨by show 2<=sizeLine;decide,[.int i s.toks,u],.cons ⟨_,rfl⟩ (.cons ru .nil),⟨_,ht2,rfl,0,rfl⟩⟩
       · rw[g8 hb] at q
         refine (I.hok b u' q).stay (fun c v hc q'=> ?_) (fun c q'=>by rw[g8 (nT c _ q')];exact q') fun c ys q'=>by rw[g8 (nT c _ q')];exact q'
         rcases hc with z|z
         · rw[z] at q' ⊢;exact kk b v (ne b _ q).1 (ne b _ q).2 q'
         · exact kk c v (ne c _ z).1 (ne c _ z).2 q'
   refine ⟨.ref s.heap.objs.size,_,I1,rfl,⟨x,s.heap.objs.size,fun ys hy=>by rw[I.list_inj hy hq];exact hx,hn,rfl,rfl⟩,⟨⟨u,?_⟩,?_⟩,fun b hb=> ?_⟩
   · have:((i+1:Nat):Int)=(i:Int)+1:=by push_cast;rfl
     rw[this];exact he2
   · exact hit'.extBut hs2.extBut hne.symm
   · have hb:b=e\/b=it:=by simpa using hb
     rcases hb with rfl|rfl
     · rw[g8 eT];exact f0
     · obtain ⟨o,ho,_⟩:=hit;rw[g8 (cl2 (Heap.lt_size ho))];exact g0
 done:=by
   intro X hP hw hK hc i pins s σ H E I hf st hg;subst hP hw hK;obtain ⟨⟨old,he⟩,hit⟩:=st;obtain ⟨xs,hq,hx⟩:=hg;obtain ⟨its,rv,p,hz⟩:=I.list hq;obtain ⟨g0,g1,g2,g3,g4,g5⟩:=hf it (by simp);have hl:=rv.length
   exact wpAny_pyNext_enum_end (I.ok.hd hc) he hit p.isList (by simp;omega) fun h' eb=>⟨rfl,I.turned (t':=s.toks) (fun b o hb q=>eb b o hb q) g0 g1 g3 g4 g5⟩
 self:=fun _ _ _ _ _ st h=>let ⟨_,he⟩:=st.1;wpAny_pyIter_enum he h
theorem bh9:bootBuiltins "enumerate"=some (.type "enumerate"):=by decide+kernel
section
variable {X:Cx} {l:Expr} {ta:TA} {p pos:Pos} {elts:List Expr} {x1:Nat} {tpos:Pos}
def cc7 (K:PySem.W.Frag)(ta:TA):TI:=fun σ H R=>ta σ H fun vs H1=>∃a,vs=[.ref a]/\(∃xs,i4 K H1 a xs)/\R (Ite K a) H1
theorem am0 (hm:X.mg "enumerate"=none)(ha:PA X [l] ta)(hg:Gl X "enumerate":=by rfl)(hs:starEach [l] X.env=[(false,eval l X.env)]:=by rfl):PI X (.Tuple elts x1 tpos) (.Call (.Name "enumerate" p) [l] [] pos) (cc7 X.K ta):=by
 intro pins s σ H R I h;refine Call_ (S1 I hg hm bh9 (PyProof.Rows.callWith_type1 (k7 (ha pos pins s σ H _ I h) fun us s1 ⟨vs,H1,I1,r1,q1⟩=> ?_) hs rfl));obtain ⟨a,e,⟨xs,hq⟩,q⟩:=q1;subst e;obtain ⟨u,rfl,rx⟩:=O3 r1;cases rx;obtain ⟨its,rv,pl,hz⟩:=I1.list hq
 refine call_enumerate_list pl.isList fun h' he hit hz' hk=> ?_
 refine wpAny_pyIter_enum he ?_;have I2:g9 X pins σ H1 {s1 with heap:=h',toks:=s1.toks}:=I1.kept (t':=s1.toks) hk;refine ⟨s1.heap.objs.size+1,[s1.heap.objs.size+1,s1.heap.objs.size],_,_,H1,rfl,I2,bh8 a (s1.heap.objs.size+1) s1.heap.objs.size (Nat.succ_ne_self _),⟨⟨.none,he⟩,hit⟩,fun b hb=> ?_,q⟩
 have hb:b=s1.heap.objs.size+1\/b=s1.heap.objs.size:=by simpa using hb
 rcases hb with rfl|rfl
 · exact I1.fpOk (by omega) (I1.hok.fresh (by omega))
 · exact I1.fpOk (by omega) (I1.hok.fresh (by omega))
end
theorem ah2 {K:PySem.W.Frag}{a:Addr}{xs:List V}{g:TG}{tb:TS}{D:M8}{σ:St}{H:Hp}(Pv:Nat->St->Hp->Prop)(h0:Pv 0 σ H)(hl:∀i σ H,i<=xs.length->Pv i σ H->i4 K H a xs)
   (hs:∀i x σ H t,xs[i]? =some x->Pv i σ H->H t=none->g (.ref t) σ (c9 H t (.tup [.int (i:Int),x])) fun σ2 H2=>tb {D with nx:=Pv (i+1),ct:=Pv (i+1),bk:=D.nx} σ2 H2) (hd:∀σ H,Pv xs.length σ H->D.nx σ H):
   ∃W:Nat->Nat->St->Hp->Prop,(∃m,W 0 m σ H)/\∀i m σ H,W i m σ H->
    ((Ite K a).stop i H/\D.nx σ H)\/((Ite K a).go i H/\∃N:St->Hp->Prop,(∀σ' H',N σ' H'->∃m',m' < m/\W (i+1) m' σ' H')/\∀x H',(Ite K a).yld i H x H'->g x σ H' fun σ2 H2=>tb {D with nx:=N,ct:=N,bk:=D.nx} σ2 H2):=by
 refine ⟨fun i m σ H=>m=xs.length - i/\i<=xs.length/\Pv i σ H,⟨xs.length,by simp,cl4 _,h0⟩,?_⟩;rintro i m σ H ⟨rfl,hi,p⟩;have q:=hl i σ H hi p
 by_cases hlt:i < xs.length
 · refine .inr ⟨⟨xs,xs[i],q,by simp [hlt]⟩,Pv (i+1),fun σ' H' p'=>⟨xs.length - (i+1),by omega,rfl,hlt,p'⟩,fun x H' y=> ?_⟩;obtain ⟨x',t,y1,y2,e1,e2⟩:=y;subst e1 e2;exact hs i x' σ _ t (y1 xs q) p y2
 · have e:i=xs.length:=by omega
   subst e;exact .inl ⟨⟨xs,q,cj1 _⟩,hd σ H p⟩
end L2
namespace Mth
def nx (p:List Int)(x:Int):Int:=p.getD x.toNat 0
def it (p:List Int):Nat->Int->Int
 |0,x=>x
 |i+1,x=>nx p (it p i x)
def In (p:List Int)(x:Int):Prop:=0<=x/\x < p.length
theorem Q9 {p:List Int}(t:l4 p){x:Int}(h:In p x):In p (nx p x):=S9 t (j:=x.toNat) (by have:=h.1;have:=h.2;omega)
theorem X2 {p:List Int}(t:l4 p){x y:Int}(hx:In p x)(hy:In p y)(h:nx p x=nx p y):x=y:=by
 have a1:=hx.1;have a2:=hx.2;have b1:=hy.1;have b2:=hy.2
 by_cases e:x.toNat=y.toNat
 · omega
 · exact absurd h (J6 t.nd (i:=x.toNat) (j:=y.toNat) (by omega) (by omega) e)
theorem G2 {p:List Int}(t:l4 p){x:Int}(h:In p x):∀i,In p (it p i x)
 |0=>h
 |i+1=>Q9 t (G2 t h i)
theorem D5 (p:List Int)(x:Int):∀i j,it p (i+j) x=it p i (it p j x)
 |0,j=>by rw[cs4];rfl
 |i+1,j=>by
  rw[Nat.add_right_comm];show nx p (it p (i+j) x)=nx p (it p i (it p j x));rw[D5 p x i j]
theorem aj3 {p:List Int}(t:l4 p){x y:Int}(hx:In p x)(hy:In p y):∀i,it p i x=it p i y->x=y
 |0,h=>h
 |i+1,h=>aj3 t hx hy i (X2 t (G2 t hx i) (G2 t hy i) h)
structure G4 (p:List Int)(x:Int)(L:Nat):Prop where
 pos:0 < L
 back:it p L x=x
 least:∀i,0 < i->i < L->it p i x≠x
theorem G4.uniq {p:List Int}{x:Int}{L M:Nat}(h:G4 p x L)(g:G4 p x M):L=M:=by
 rcases cu1 L M with z|z|z
 · exact absurd h.back (g.least L h.pos z)
 · exact z
 · exact absurd g.back (h.least M g.pos z)
theorem bi0 {p:List Int}{x:Int}{L:Nat}(h:it p L x=x):∀q,it p (L*q) x=x
 |0=>by rw[Nat.mul_zero];rfl
 |q+1=>by rw[Nat.mul_succ,D5,h,bi0 h q]
theorem by7 {p:List Int}{x:Int}{L:Nat}(h:it p L x=x)(i:Nat):it p (i%L) x=it p i x:=by
 conv=>rhs;rw[<-Nat.div_add_mod i L,cs3,D5,bi0 h]
theorem G4.shift {p:List Int}(t:l4 p){x:Int}{L:Nat}(hx:In p x)(h:G4 p x L)(j:Nat):G4 p (it p j x) L:=by
 refine ⟨h.pos,?_,fun i i0 i1 e=> ?_⟩
 · rw[<-D5,cs3,D5,h.back]
 · rw[<-D5,cs3,D5] at e;exact h.least i i0 i1 (aj3 t (G2 t hx i) hx j e)
def l5 (p:List Int)(x:Int)(L:Nat):List Int:=(cl8 L).map fun i=>it p i x
theorem o8 (p:List Int)(x:Int)(L:Nat):(l5 p x L).length=L:=by unfold l5;rw[ci8,cm4]
theorem bi1 {p:List Int}{x:Int}{L j:Nat}(h:j < L):(l5 p x L)[j]? =some (it p j x):=by
 unfold l5;rw[cj2,cp3 h];rfl
theorem t7 {p:List Int}{x:Int}{L j:Nat}(h:j < L):(l5 p x L).getD j 0=it p j x:=by
 rw[cj7,bi1 h];rfl
theorem t5 {p:List Int}{x y:Int}{L:Nat}:y∈l5 p x L↔∃j,j < L/\y=it p j x:=by
 unfold l5;rw[ck6];constructor
 · rintro ⟨j,hj,rfl⟩;exact ⟨j,cn9.mp hj,rfl⟩
 · rintro ⟨j,hj,rfl⟩;exact ⟨j,cn9.mpr hj,rfl⟩
theorem aj4 (p:List Int)(x:Int)(m:Nat):l5 p x (m+1)=l5 p x m++[it p m x]:=by
 unfold l5;rw[ct4,ck4];rfl
theorem V7 {p:List Int}(t:l4 p){x:Int}(hx:In p x){m:Nat}(h:∀i,0 < i->i < m->it p i x≠x):(l5 p x m).Nodup:=by
 unfold l5;rw[ck9,cp9];refine List.Pairwise.imp_of_mem (fun {a b} ha hb hlt e=> ?_) cu3;have hb:=cn9.mp hb
 have e2:b=a+(b - a):=by omega
 rw[e2,D5] at e;exact h (b - a) (by omega) (by omega) (aj3 t (G2 t hx _) hx a e.symm)
theorem bi2:∀(n:Nat) (l:List Nat),l.Nodup->(∀x∈l,x < n)->l.length<=n:=by
 intro n
 induction n with
 |zero=>
  intro l _ hb
  cases l with
  |nil=>exact cj1 _
  |cons a r=>exact absurd (hb a cj5) (Nat.not_lt_zero _)
 |succ n ih=>
  intro l nd hb
  by_cases hn:n∈l
  · obtain ⟨s,u,rfl⟩:=cw3 hn;have pm:(s++n::u).Perm (n::(s++u)):=List.perm_middle;obtain ⟨h1,h2⟩:=cn3.mp (pm.nodup_iff.mp nd)
    have:=ih (s++u) h2 fun x hx=>by
      have hx':=hb x (pm.mem_iff.mpr (cj8 _ hx))
      have:x≠n:=fun e=>h1 (e▸hx)
      omega
    rw[pm.length_eq,cl0];omega
  · exact Nat.le_succ_of_le (ih l nd fun x hx=>by
      have h1:=hb x hx
      have:x≠n:=fun e=>hn (e▸hx)
      omega)
theorem D6 {p:List Int}{r:List Int}(nd:r.Nodup)(h:∀x∈r,In p x):r.length<=p.length:=by
 have:=bi2 p.length (r.map Int.toNat) (by
   rw[ck9,cp9];refine List.Pairwise.imp_of_mem (fun {a b} ha hb hne z=>hne ?_) (ck9.mp nd);have h1:=(h a ha).1;have h2:=(h b hb).1
   omega) fun x hx=>by
     obtain ⟨y,hy,rfl⟩:=ck6.mp hx;have h1:=(h y hy).1;have h2:=(h y hy).2;omega
 rw[ci8] at this;exact this
theorem N7 {p:List Int}(t:l4 p){x:Int}(hx:In p x){L:Nat}:∀y∈l5 p x L,In p y:=fun y hy=>by
 obtain ⟨j,_,rfl⟩:=t5.mp hy;exact G2 t hx j
theorem G3 {p:List Int}(t:l4 p){x:Int}(hx:In p x){m:Nat}(h:∀i,0 < i->i < m->it p i x≠x):m<=p.length:=by
 have:=D6 (V7 t hx h) (N7 t hx);rw[o8] at this;exact this
theorem af8 {p:List Int}{x y:Int}{L:Nat}(h:G4 p x L)(hy:y∈l5 p x L)(i:Nat):it p i y∈l5 p x L:=by
 obtain ⟨j,hj,rfl⟩:=t5.mp hy;refine t5.mpr ⟨(i+j)%L,cy1 _ h.pos,?_⟩;rw[by7 h.back,D5]
theorem ap1 {p:List Int}{x y z:Int}{L M:Nat}(h:G4 p x L)(g:G4 p y M)(h1:z∈l5 p x L)(h2:z∈l5 p y M):y∈l5 p x L:=by
 obtain ⟨j,hj,rfl⟩:=t5.mp h2;have:=af8 h h1 (M - j);rw[<-D5,show M - j+j=M by omega,g.back] at this;exact this
open Classical in
noncomputable def A6 (p:List Int)(x:Int):Nat:=if h:∃L,G4 p x L then Classical.choose h else 0
theorem E5 {p:List Int}{x:Int}{L:Nat}(h:G4 p x L):A6 p x=L:=by
 have hx:∃L,G4 p x L:=⟨L,h⟩;unfold A6;rw[dif_pos hx];exact (Classical.choose_spec hx).uniq h
noncomputable def j8 (p:List Int):Nat->List (List Int)
 |0=>[]
 |i+1=>if (i:Int)∈(j8 p i).flatten then j8 p i else j8 p i++[l5 p i (A6 p i)]
structure r6 (p:List Int)(i:Nat)(rs:List (List Int)):Prop where
 ring:∀r∈rs,∃x L,In p x/\G4 p x L/\r=l5 p x L/\(∀y∈r,x<=y)/\x < i
 nd:rs.flatten.Nodup
 all:∀u:Int,0<=u->u < i->u∈rs.flatten
 ord:rs.Pairwise fun r s=>r.getD 0 0 < s.getD 0 0
 eq:rs=j8 p i
theorem Y8 (p:List Int):r6 p 0 []:=⟨fun r hr=>by simp at hr,cq3,fun u h1 h2=>by omega,List.Pairwise.nil,rfl⟩
theorem Y9 {p:List Int}{i:Nat}{rs:List (List Int)}(h:r6 p i rs)(hi:(i:Int)∈rs.flatten):r6 p (i+1) rs:=by
 refine ⟨fun r hr=> ?_,h.nd,fun u h1 h2=> ?_,h.ord,?_⟩
 · obtain ⟨x,L,a,b,c,d,e⟩:=h.ring r hr;exact ⟨x,L,a,b,c,d,by omega⟩
 · by_cases e:u=i
   · subst e;exact hi
   · exact h.all u h1 (by omega)
 · show rs=if (i:Int)∈(j8 p i).flatten then j8 p i else j8 p i++[l5 p i (A6 p i)]
   rw[<-h.eq,if_pos hi]
theorem V8 {p:List Int}{i:Nat}{rs:List (List Int)}(h:r6 p i rs){L:Nat}(hL:G4 p i L)(hi:(i:Int)∉rs.flatten):∀y∈l5 p i L,y∉rs.flatten:=by
 intro y hy hm;obtain ⟨r,hr,hyr⟩:=cl6.mp hm;obtain ⟨x,M,a,b,rfl,d,e⟩:=h.ring r hr;exact hi (cl6.mpr ⟨_,hr,ap1 b hL hyr hy⟩)
theorem Z0 {p:List Int}(t:l4 p){i:Nat}{rs:List (List Int)}(h:r6 p i rs)(hx:In p i){L:Nat}(hL:G4 p i L)(hi:(i:Int)∉rs.flatten):r6 p (i+1) (rs++[l5 p i L]):=by
 have fr:=V8 h hL hi;refine ⟨fun r hr=> ?_,?_,fun u h1 h2=> ?_,?_,?_⟩
 · rcases ck7.mp hr with z|z
   · obtain ⟨x,L,a,b,c,d,e⟩:=h.ring r z;exact ⟨x,L,a,b,c,d,by omega⟩
   · have:r=l5 p i L:=by simpa using z
     subst this;refine ⟨i,L,hx,hL,rfl,fun y hy=> ?_,by omega⟩;have y0:=(N7 t hx y hy).1
     by_cases hlt:y < i
     · exact absurd (h.all y y0 hlt) (fr y hy)
     · omega
 · rw[ct0,cr9];refine cq0.mpr ⟨h.nd,V7 t hx fun j j0 j1=>hL.least j j0 j1,fun a ha b hb e=> ?_⟩;subst e;exact fr a hb ha
 · rw[ct0,cr9]
   by_cases e:u=i
   · subst e;exact ck0 _ (t5.mpr ⟨0,hL.pos,rfl⟩)
   · exact cn7 _ (h.all u h1 (by omega))
 · refine List.pairwise_append.mpr ⟨h.ord,cr3 _ _,fun r hr s hs=> ?_⟩
   have:s=l5 p i L:=by simpa using hs
   subst this;obtain ⟨x,M,a,b,rfl,d,e⟩:=h.ring r hr;rw[t7 b.pos,t7 hL.pos];exact e
 · show rs++[l5 p i L]=if (i:Int)∈(j8 p i).flatten then j8 p i else j8 p i++[l5 p i (A6 p i)]
   rw[<-h.eq,if_neg hi,E5 hL]
end Mth
namespace Mth
theorem O7 {p:List Int}{x:Int}(h:In p x):A2 p x=some (nx p x):=by
 have a1:=h.1;have a2:=h.2;unfold A2 nx;rw[cj7,cj0 (by omega)];rfl
end Mth
namespace L2
open PySem PySem.Spec PyProof.Rows
def cc8 (i j:Int):Prop:=0 < j/\j<=1000000000000000000000000000000
theorem bo4 {X:Cx}:G6 X (binaryOp .FloorDiv) (rI cc8 fun i j=> .int (i/j)):=opI fun i j _ _ _ _ _ hc q=>by
 have hp:Builtin.divisionGoesByPylong i j=false:=by
   refine PyProof.noPylong_of_log2 ?_;obtain ⟨h1,h2⟩:=hc;have:j.natAbs < 2^9000:=cq4 (show j.natAbs<=1000000000000000000000000000000 by omega) (by decide+kernel);exact (Nat.log2_lt (by omega)).mpr this
 refine floordiv_int (by have:=hc.1;omega) ?_ (.inl hp);rw[cw6 i (by have:=hc.1;omega)];exact q
end L2
namespace Mth
theorem aj5 {p:List Int}(t:l4 p){x:Int}(hx:In p x):∃L,G4 p x L:=by
 have h0:∃i,0 < i/\i<=p.length/\it p i x=x:=Classical.byContradiction fun hn=>by
   have:=G3 t hx (m:=p.length+1) fun i i0 i1 e=>hn ⟨i,i0,by omega,e⟩
   omega
 have key:∀n,(∃i,0 < i/\i<=n/\it p i x=x)->∃L,G4 p x L:=by
   intro n
   induction n with
   |zero=>rintro ⟨i,i0,i1,_⟩;omega
   |succ n ih=>
    rintro ⟨i,i0,i1,e⟩
    by_cases h:∃j,0 < j/\j<=n/\it p j x=x
    · exact ih h
    · refine ⟨i,i0,e,fun j j0 j1 ej=>h ⟨j,j0,by omega,ej⟩⟩
 exact key _ h0
theorem by8 {n:Nat}{s t:List Int}(hs:s.length=n)(ht:t.length=n)(h:∀x:Int,0<=x->x < n->nx s x=nx t x):s=t:=by
 refine cm3 fun u=> ?_
 by_cases hu:u < n
 · have:=h u (by omega) (by omega);unfold nx at this;rw[cm2,p8 (by omega),p8 (by omega)] at this;rw[cj0 (by omega),cj0 (by omega),this]
 · rw[cj3 (by omega),cj3 (by omega)]
theorem bi3 {t:List Int}(h1:∀x:Int,0<=x->x < t.length->0<=nx t x/\nx t x < t.length)(h2:∀x y:Int,0<=x->x < t.length->0<=y->y < t.length->nx t x=nx t y->x=y):l4 t:=by
 have g:∀i (hi:i < t.length),nx t (i:Int)=t[i]:=fun i hi=>by unfold nx;rw[cm2,p8 hi]
 refine ⟨?_,fun x hx=> ?_,fun x hx=> ?_⟩
 · rw[ck9,ck3];intro i j hi hj hlt e;have:=h2 i j (by omega) (by omega) (by omega) (by omega) (by rw[g i hi,g j hj];exact e);omega
 · obtain ⟨i,hi,rfl⟩:=List.mem_iff_getElem.mp hx;rw[<-g i hi];exact (h1 i (by omega) (by omega)).1
 · obtain ⟨i,hi,rfl⟩:=List.mem_iff_getElem.mp hx;rw[<-g i hi];exact (h1 i (by omega) (by omega)).2
theorem N8 {p q:List Int}{x:Int}(h:In q x):nx (l8 p q) x=nx p (nx q x):=by
 have a1:=h.1;have a2:=h.2;unfold nx l8;rw[cj7,cj2,cj0 (by omega),cj7 (l:=q),cj0 (by omega)];rfl
theorem T0 {p q:List Int}(tp:l4 p)(tq:l4 q)(hl:p.length=q.length):l4 (l8 p q):=by
 have cl:=A8 p q;refine bi3 (fun x x0 x1=> ?_) (fun x y x0 x1 y0 y1 e=> ?_)
 · rw[cl] at x1 ⊢;have hx:In q x:=⟨x0,x1⟩;rw[N8 hx];have h1:=Q9 tq hx;have h2:=Q9 tp (x:=nx q x) ⟨h1.1,by rw[hl];exact h1.2⟩;exact ⟨h2.1,by rw[<-hl];exact h2.2⟩
 · rw[cl] at x1 y1;have hx:In q x:=⟨x0,x1⟩;have hy:In q y:=⟨y0,y1⟩;rw[N8 hx,N8 hy] at e;have h1:=Q9 tq hx;have h2:=Q9 tq hy;exact X2 tq hx hy (X2 tp ⟨h1.1,by rw[hl];exact h1.2⟩ ⟨h2.1,by rw[hl];exact h2.2⟩ e)
theorem aj6 {p q r:List Int}(tq:l4 q)(tr:l4 r)(hl:q.length=r.length):l8 (l8 p q) r=l8 p (l8 q r):=by
 refine by8 (n:=r.length) (A8 _ _) (by rw[A8,A8]) fun x x0 x1=> ?_
 have hx:In r x:=⟨x0,x1⟩;have h1:=Q9 tr hx;rw[N8 hx,N8 ⟨h1.1,by rw[hl];exact h1.2⟩,N8 (q:=l8 q r) ⟨x0,by rw[A8];exact x1⟩,N8 hx]
end Mth
namespace L2
open PySem PySem.Spec PyProof.Rows
def Itz (a b:Addr):It:=
 ⟨fun i H=>∃xs ys x y,H a=some (.lst xs)/\H b=some (.lst ys)/\xs[i]? =some x/\ys[i]? =some y,
  fun i H v H'=>∃x y t,(∀xs,H a=some (.lst xs)->xs[i]? =some x)/\(∀ys,H b=some (.lst ys)->ys[i]? =some y)/\H t=none/\v= .ref t/\H'=c9 H t (.tup [x,y]),
  fun i H=>∃xs ys,H a=some (.lst xs)/\H b=some (.lst ys)/\(xs.length<=i\/ys.length<=i)⟩
structure by9 (z TI TO i1 i2:Addr):Prop where
 TIz:TI≠z
 TOz:TO≠z
 i1z:i1≠z
 i2z:i2≠z
 TITO:TI≠TO
 TIi1:TI≠i1
 TIi2:TI≠i2
 TOi1:TO≠i1
 TOi2:TO≠i2
 i12:i1≠i2
theorem bo5 {P:Program}{w:World}{K:PySem.W.Frag}{elts:List Expr}{x1}{pos:Pos}(a b z TI TO i1 i2:Addr)(D0:by9 z TI TO i1 i2):
   al3 P w K (.Tuple elts x1 pos) (Itz a b) [z,TI,TO,i1,i2] z (fun i h=>IsZip h z TI TO .none/\IsPair h TI (.ref i1) (.ref i2)/\(∃u v,IsPair h TO u v)/\h.IsListIter i1 a i/\h.IsListIter i2 b i) where
 mem:=by simp
 obj:=fun i h st c hc=>by
   obtain ⟨hz,hTI,⟨u,v,hTO⟩,⟨o1,g1,c1,d1⟩,⟨o2,g2,c2,d2⟩⟩:=st
   have hc:c=z\/c=TI\/c=TO\/c=i1\/c=i2:=by simpa using hc
   rcases hc with rfl|rfl|rfl|rfl|rfl
   · exact ⟨_,hz,fun v z=>by cases z⟩
   · exact ⟨_,hTI,fun v z=>by cases z⟩
   · exact ⟨_,hTO,fun v z=>by cases z⟩
   · exact ⟨o1,g1,fun v z=>by rw[d1] at z;cases z⟩
   · exact ⟨o2,g2,fun v z=>by rw[d2] at z;cases z⟩
 keep:=fun i h h' st k=>by
   obtain ⟨hz,hTI,⟨u,v,hTO⟩,g1,g2⟩:=st;exact ⟨k z (by simp) _ hz,k TI (by simp) _ hTI,⟨u,v,k TO (by simp) _ hTO⟩,g1.at fun o q=>k i1 (by simp) o q,g2.at fun o q=>k i2 (by simp) o q⟩
 item:=by
   intro X hP hw hK hc i pins s σ H E I hf st hg;subst hP hw hK;obtain ⟨hz,hTI,⟨u0,v0,hTO⟩,g1,g2⟩:=st;obtain ⟨xs,ys,x,y,ha,hb,hx,hy⟩:=hg;obtain ⟨_,its,n1,rv,l1,e1⟩:=I.lstM ha;obtain ⟨_,its2,n2,rv2,l2,e2⟩:=I.lstM hb;obtain ⟨ux,hux,rux⟩:=rv.get hx;obtain ⟨uy,huy,ruy⟩:=rv2.get hy
   have nf:∀c u',H c=some u'->c≠z/\c≠TI/\c≠TO/\c≠i1/\c≠i2:=fun c u' q=>by
     have f:∀d∈[z,TI,TO,i1,i2],c≠d:=fun d hd w=>by
       have:=(hf d hd).1;rw[<-w,q] at this;cases this
     exact ⟨f z (by simp),f TI (by simp),f TO (by simp),f i1 (by simp),f i2 (by simp)⟩
   have na:=nf a _ ha;have nb:=nf b _ hb;have D:ZipApart z TI TO i1 i2 a b:=⟨D0.TIz,D0.TOz,D0.i1z,D0.i2z,D0.TITO,D0.TIi1,D0.TIi2,D0.TOi1,D0.TOi2,D0.i12,na.1,na.2.2.1,na.2.2.2.1,na.2.2.2.2,nb.1,nb.2.2.1,nb.2.2.2.1,nb.2.2.2.2⟩
   refine wpAny_pyNext_zip_item (xs:=its.toArray) (ys:=its2.toArray) (x:=ux) (y:=uy) D hz hTI hTO g1 g2 ⟨_,e1,rfl,n1,rfl⟩ ⟨_,e2,rfl,n2,rfl⟩ (by simpa using hux) (by simpa using huy) fun h' hz' hTO' g1' g2' hT' hsz' kk'=> ?_
   refine ⟨_,rfl,wpAny_letOwnedTupleGo_zip hz' fun h2 hz2 hs2=> ?_⟩;have hs2:Heap.SameBut z h' h2:=hs2;have ltz:z < s.heap.objs.size:=Heap.lt_size hz;have lTI:TI < s.heap.objs.size:=Heap.lt_size hTI;have lTO:TO < s.heap.objs.size:=Heap.lt_size hTO
   have li1:i1 < s.heap.objs.size:=by obtain ⟨o,ho,_⟩:=g1;exact Heap.lt_size ho
   have li2:i2 < s.heap.objs.size:=by obtain ⟨o,ho,_⟩:=g2;exact Heap.lt_size ho
   have ht2:h2.get? s.heap.objs.size=some {cls:= .type "tuple",data:= .seq #[ux,uy]}:=hs2.extBut _ _ (Nat.ne_of_gt ltz) hT'
   have kk:∀c o,c≠z->c≠TO->c≠i1->c≠i2->s.heap.get? c=some o->h2.get? c=some o:=fun c o b1 b2 b3 b4 q=>hs2.extBut c o b1 (kk' c o b1 b2 b3 b4 q)
   have hn:H s.heap.objs.size=none:=I.hok.fresh (cj1 _)
   have nT:∀c u',H c=some u'->c≠s.heap.objs.size:=fun c u' q=>g7 q hn
   have kc:∀c o,c∉[z,TI,TO,i1,i2]->s.heap.get? c=some o->h2.get? c=some o:=fun c o hc q=>kk c o (fun w=>hc (by simp [w])) (fun w=>hc (by simp [w])) (fun w=>hc (by simp [w])) (fun w=>hc (by simp [w])) q
   have I1:g9 X pins σ (c9 H s.heap.objs.size (.tup [x,y])) {s with heap:=h2,gens:=s.gens,drawn:=s.drawn,toks:=s.toks}:=by
     refine I.step (ch:=[z,TI,TO,i1,i2]) (fun c hc=> ?_) (fun c o _ _ hc q _=>kc c o hc q) (fun c o _ _ hc q _=>⟨o.slots,kc c o hc q⟩)
       (fun c o hc q n=>by rw[g8 (cl2 (Heap.lt_size q))];exact n) (fun c o hc q=>⟨o,kc c o hc q⟩)
       (fun c zs q=>by rw[g8 (nT c _ q)];exact q) (fun c o zs q=>by rw[g8 (nT c _ q)];exact q) (fun c ps q=>⟨#[],by rw[g8 (nT c _ q),q];simp⟩) (fun m hm=> ?_) (fun c u' q=> ?_) I.bare
     · have f:=hf c hc;exact ⟨f.2.2.2.1,f.2.1,f.2.2.2.2.1,f.2.2.2.2.2⟩
     · obtain ⟨o,es,ep,ho,r⟩:=hm;exact ⟨o,es,ep,kk _ o (Ne.symm (hf z (by simp)).2.1) (Ne.symm (hf TO (by simp)).2.1) (Ne.symm (hf i1 (by simp)).2.1) (Ne.symm (hf i2 (by simp)).2.1) ho,r⟩
     · by_cases hcT:c=s.heap.objs.size
       · subst hcT;rw[c8] at q;cases q;exact ⟨by show 2<=sizeLine;decide,[ux,uy],.cons rux (.cons ruy .nil),⟨_,ht2,rfl,0,rfl⟩⟩
       · rw[g8 hcT] at q
         refine (I.hok c u' q).stay (fun d v hd q'=> ?_) (fun d q'=>by rw[g8 (nT d _ q')];exact q') fun d zs q'=>by rw[g8 (nT d _ q')];exact q'
         rcases hd with w|w
         · rw[w] at q' ⊢;have:=nf c _ q;exact kk c v this.1 this.2.2.1 this.2.2.2.1 this.2.2.2.2 q'
         · have:=nf d _ w;exact kk d v this.1 this.2.2.1 this.2.2.2.1 this.2.2.2.2 q'
   refine ⟨.ref s.heap.objs.size,_,I1,rfl,⟨x,y,s.heap.objs.size,fun zs hzs=> ?_,fun zs hzs=> ?_,hn,rfl,rfl⟩,⟨hz2,?_,⟨ux,uy,?_⟩,?_,?_⟩,fun c hc=> ?_⟩
   · rw[ha] at hzs;cases hzs;exact hx
   · rw[hb] at hzs;cases hzs;exact hy
   · exact kk TI _ D0.TIz D0.TITO D0.TIi1 D0.TIi2 hTI
   · exact hs2.extBut _ _ D0.TOz hTO'
   · exact g1'.extBut hs2.extBut D0.i1z
   · exact g2'.extBut hs2.extBut D0.i2z
   · have hne:c≠s.heap.objs.size:=by
       have hc:c=z\/c=TI\/c=TO\/c=i1\/c=i2:=by simpa using hc
       rcases hc with rfl|rfl|rfl|rfl|rfl
       · exact cl2 ltz
       · exact cl2 lTI
       · exact cl2 lTO
       · exact cl2 li1
       · exact cl2 li2
     rw[g8 hne];exact (hf c hc).1
 done:=by
   intro X hP hw hK hc i pins s σ H E I hf st hg;subst hP hw hK;obtain ⟨hz,hTI,⟨u0,v0,hTO⟩,g1,g2⟩:=st;obtain ⟨xs,ys,ha,hb,hend⟩:=hg;obtain ⟨_,its,n1,rv,l1,e1⟩:=I.lstM ha;obtain ⟨_,its2,n2,rv2,l2,e2⟩:=I.lstM hb
   have nf:∀c u',H c=some u'->c≠z/\c≠TI/\c≠TO/\c≠i1/\c≠i2:=fun c u' q=>by
     have f:∀d∈[z,TI,TO,i1,i2],c≠d:=fun d hd w=>by
       have:=(hf d hd).1;rw[<-w,q] at this;cases this
     exact ⟨f z (by simp),f TI (by simp),f TO (by simp),f i1 (by simp),f i2 (by simp)⟩
   have na:=nf a _ ha;have nb:=nf b _ hb;have D:ZipApart z TI TO i1 i2 a b:=⟨D0.TIz,D0.TOz,D0.i1z,D0.i2z,D0.TITO,D0.TIi1,D0.TIi2,D0.TOi1,D0.TOi2,D0.i12,na.1,na.2.2.1,na.2.2.2.1,na.2.2.2.2,nb.1,nb.2.2.1,nb.2.2.2.1,nb.2.2.2.2⟩
   refine wpAny_pyNext_zip_end (xs:=its.toArray) (ys:=its2.toArray) (I.ok.hd hc) D hz hTI hTO g1 g2 ⟨_,e1,rfl,n1,rfl⟩ ⟨_,e2,rfl,n2,rfl⟩ ?_ fun h' kk=>⟨rfl,?_⟩
   · rcases hend with w|w
     · exact .inl (by simp;omega)
     · exact .inr (by simp;omega)
   · have kc:∀c o,c∉[z,TI,TO,i1,i2]->s.heap.get? c=some o->h'.get? c=some o:=fun c o hc q=>kk c o (fun w=>hc (by simp [w])) (fun w=>hc (by simp [w])) (fun w=>hc (by simp [w])) (fun w=>hc (by simp [w])) q
     refine I.step (g':=s.gens) (d':=s.drawn) (t':=s.toks) (ch:=[z,TI,TO,i1,i2]) (fun c hc=> ?_) (fun c o _ _ hc q _=>kc c o hc q) (fun c o _ _ hc q _=>⟨o.slots,kc c o hc q⟩)
       (fun c o hc q n=>n) (fun c o hc q=>by
         by_cases hz':c∈[z,TI,TO,i1,i2]
         · exact absurd hz' hc
         · exact ⟨o,kc c o hz' q⟩) (fun c zs q=>q) (fun c o zs q=>q) (fun c ps q=>⟨#[],by rw[q];simp⟩) (fun m hm=> ?_) (fun c u' q=> ?_) I.bare
     · have f:=hf c hc;exact ⟨f.2.2.2.1,f.2.1,f.2.2.2.2.1,f.2.2.2.2.2⟩
     · obtain ⟨o,es,ep,ho,r⟩:=hm;exact ⟨o,es,ep,kk _ o (Ne.symm (hf z (by simp)).2.1) (Ne.symm (hf TO (by simp)).2.1) (Ne.symm (hf i1 (by simp)).2.1) (Ne.symm (hf i2 (by simp)).2.1) ho,r⟩
     · refine (I.hok c u' q).stay (fun d v hd q'=> ?_) (fun d q'=>q') fun d zs q'=>q'
       rcases hd with w|w
       · rw[w] at q' ⊢;have:=nf c _ q;exact kk c v this.1 this.2.2.1 this.2.2.2.1 this.2.2.2.2 q'
       · have:=nf d _ w;exact kk d v this.1 this.2.2.1 this.2.2.2.1 this.2.2.2.2 q'
 self:=fun _ _ _ _ _ st h=>wpAny_pyIter_zip st.1 h
theorem bo6:bootBuiltins "zip"=some (.type "zip"):=by decide+kernel
section
variable {X:Cx} {l m:Expr} {ta:TA} {p pos:Pos} {elts:List Expr} {x1:Nat} {tpos:Pos}
def cg6 (ta:TA):TI:=fun σ H R=>ta σ H fun vs H1=>∃a b xs ys,vs=[.ref a,.ref b]/\H1 a=some (.lst xs)/\H1 b=some (.lst ys)/\R (Itz a b) H1
theorem bi5 (hm:X.mg "zip"=none)(ha:PA X [l,m] ta)(hg:Gl X "zip":=by rfl)(hs:starEach [l,m] X.env=(false,eval l X.env)::starEach [m] X.env:=by rfl)(hpl:(backTo pos (starEach [m] X.env)).any (·.1)=false:=by rfl):
   PI X (.Tuple elts x1 tpos) (.Call (.Name "zip" p) [l,m] [] pos) (cg6 ta):=by
 intro pins s σ H R I h;refine Call_ (S1 I hg hm bo6 (PyProof.Rows.callWith_type1 (k7 (ha pos pins s σ H _ I h) fun us s1 ⟨vs,H1,I1,r1,q1⟩=> ?_) hs hpl));obtain ⟨a,b,xs,ys,e,h1a,h1b,q⟩:=q1;subst e;obtain ⟨u,w',rfl,ru,rw'⟩:=aq9 r1;cases ru;cases rw';obtain ⟨_,its,n1,rv,l1,e1⟩:=I1.lstM h1a;obtain ⟨_,its2,n2,rv2,l2,e2⟩:=I1.lstM h1b
 refine call_zip_2 (xs:=its.toArray) (ys:=its2.toArray) ⟨_,e1,rfl,n1,rfl⟩ ⟨_,e2,rfl,n2,rfl⟩ fun h' hz hTI hTO g1 g2 hsz hk=> ?_
 refine wpAny_pyIter_zip hz ?_;have I2:g9 X pins σ H1 {s1 with heap:=h',toks:=s1.toks}:=I1.kept (t':=s1.toks) hk
 have ne:∀(i j:Nat),i≠j->s1.heap.objs.size+i≠s1.heap.objs.size+j:=fun i j h e=>h (Nat.add_left_cancel e)
 refine ⟨s1.heap.objs.size+4,[s1.heap.objs.size+4,s1.heap.objs.size+2,s1.heap.objs.size+3,s1.heap.objs.size,s1.heap.objs.size+1],_,_,H1,rfl,I2,
   bo5 a b (s1.heap.objs.size+4) (s1.heap.objs.size+2) (s1.heap.objs.size+3) s1.heap.objs.size (s1.heap.objs.size+1) ⟨ne 2 4 (by decide),ne 3 4 (by decide),ne 0 4 (by decide),ne 1 4 (by decide),ne 2 3 (by decide),ne 2 0 (by decide),ne 2 1 (by decide),ne 3 0 (by decide),ne 3 1 (by decide),ne 0 1 (by decide)⟩,
   ⟨hz,hTI,⟨_,_,hTO⟩,g1,g2⟩,fun c hc=> ?_,q⟩
 have hle:s1.heap.objs.size<=c:=by
   simp only[ck8,List.mem_nil_iff,or_false] at hc
   rcases hc with rfl|rfl|rfl|rfl|rfl
   · exact cu7 _ _
   · exact cu7 _ _
   · exact cu7 _ _
   · exact cj1 _
   · exact cu7 _ _
 exact I1.fpOk hle (I1.hok.fresh hle)
end
end L2
namespace L2
open PySem PySem.Spec PyProof.Rows
def M0 (H:Hp)(e:Addr):List Int:=match H e with
 |some (.lst xs)=>xs.map aj2
 |_=>[]
theorem ah3 {H:Hp}{e:Addr}{r:List Int}(h:H e=some (.lst (r.map V.int))):M0 H e=r:=by
 unfold M0;rw[h];show (r.map V.int).map aj2=r;rw[co1]
 conv=>rhs;rw[<-ct5 r]
 rfl
theorem bc6 {H:Hp}{as:List Addr}{rs:List (List Int)}(h:x6 H as rs):as.map (M0 H)=rs:=by
 refine cm3 fun j=> ?_
 rw[cj2]
 by_cases hj:j < as.length
 · have e1:as[j]? =some as[j]:=cj0 hj;have e2:rs[j]? =some (rs[j]'(by rw[<-h.1];exact hj)):=cj0 _;rw[e1,e2];show some (M0 H as[j])=_;rw[ah3 (h.2 j _ _ e1 e2)]
 · rw[cj3 (by omega),cj3 (by rw[<-h.1];omega)];rfl
end L2
namespace Mth
theorem L3 {p:List Int}{rs:List (List Int)}(t:l4 p)(h:r6 p p.length rs):rs.flatten.Perm (L2.G9 0 p.length):=by
 have i1:l4 rs.flatten:=by
   have hin:∀x∈rs.flatten,In p x:=fun x hx=>by
     obtain ⟨r,hr,hxr⟩:=cl6.mp hx;obtain ⟨y,L,a,b,rfl,_⟩:=h.ring r hr;exact N7 t a x hxr
   have l1:=D6 h.nd hin
   have l2:p.length<=rs.flatten.length:=by
     have:=D6 (p:=rs.flatten) (r:=L2.G9 0 p.length) (J4 _) fun x hx=>by
       have hx':=B5.mp hx;obtain ⟨r,hr,hxr⟩:=cl6.mp (h.all x hx'.1 hx'.2);refine ⟨hx'.1,?_⟩
       exact Classical.byContradiction fun hn=>by
         have hle:(rs.flatten.length:Int)<=x:=by omega
         have hlt:=D6 h.nd hin
         have q:(L2.G9 0 (x.toNat+1)).length<=rs.flatten.length:=by
           have sub:∀z∈L2.G9 0 (x.toNat+1),z∈rs.flatten:=fun z hz=>by
             have hz':=B5.mp hz;exact h.all z hz'.1 (by have:=hx'.2;omega)
           have:∀(l m:List Int),l.Nodup->(∀z∈l,z∈m)->l.length<=m.length:=by
             intro l
             induction l with
             |nil=>intro m _ _;exact cl4 _
             |cons c l ih=>
              intro m nd hs;obtain ⟨n1,n2⟩:=cn3.mp nd;obtain ⟨s,u,rfl⟩:=cw3 (hs c cj5)
              have:=ih (s++u) n2 fun z hz=>by
                have hzm:=hs z (cj8 _ hz)
                rcases ck7.mp hzm with g|g
                · exact cn7 _ g
                · rcases ck8.mp g with g|g
                  · subst g;exact absurd hz n1
                  · exact ck0 _ g
              rw[cj6] at this;rw[cj6,cl0,cl0];omega
           exact this _ _ (J4 _) sub
         rw[A0] at q;have:=hx'.1;omega
     rw[A0] at this;exact this
   exact ⟨h.nd,fun x hx=>(hin x hx).1,fun x hx=>by have:=(hin x hx).2;omega⟩
 have hl:rs.flatten.length=p.length:=by
   have l1:=D6 h.nd fun x hx=>by
     obtain ⟨r,hr,hxr⟩:=cl6.mp hx;obtain ⟨y,L,a,b,rfl,_⟩:=h.ring r hr;exact N7 t a x hxr
   have l2:p.length<=rs.flatten.length:=by
     have:=D6 (p:=rs.flatten) (r:=L2.G9 0 p.length) (J4 _) fun x hx=>by
       have hx':=B5.mp hx;have hm:=h.all x hx'.1 hx'.2;exact ⟨hx'.1,i1.hi x hm⟩
     rw[A0] at this;exact this
   omega
 have:=i1.perm;rw[hl] at this;exact this
end Mth
namespace L2
open PySem PySem.Spec PyProof.Rows
theorem T1:bootBuiltins "sorted"=some (.builtin "sorted"):=by decide+kernel
section
variable {X:Cx}
theorem af9 {pins:List (Addr×Obj)}{σ:St}{H:Hp}{s:Shared}(I:g9 X pins σ H s){vs:List Value}{out:Array Value}{ms:List Int}(h:IntsAre out.toList ms)(hl:ms.length<=sizeLine):
   g9 X pins σ (c9 H (s.heap.objs.size+1) (.lst (ms.map V.int))) {s with heap:=sortedAll s.heap vs out,toks:=s.toks}:=by
 obtain ⟨e,he⟩:=sortedAll_at s.heap vs out;refine I.laid (t':=s.toks) (fun _ _ q=>sortedAll_old q) (ct3 _) (show o6 X.prog X.w _ _ _ (.lst (ms.map V.int)) from ⟨by rw[ci8];exact hl,out.toList,e,ab4 h,he⟩)
theorem ax6:K3 X (.builtin "sorted") (fun xs H Q=>∃(p:Addr) (ns:List Int),xs=[.ref p]/\i4 X.K H p (ns.map V.int)/\ns.length < 64/\∀(ms:List Int) l,ms.Perm ns->ms.Pairwise (· <= ·)->H l=none->Q (.ref l) (c9 H l (.lst (ms.map V.int)))):=by
 intro pins s σ H xs us Q I r h;obtain ⟨p,ns,rfl,hp,h64,q⟩:=h;obtain ⟨u,rfl,rx⟩:=O3 r;cases rx;obtain ⟨its,rv,pl,_⟩:=I.list hp;have ia:=Y2 rv;have il:=ia.length
 refine sorted_ints pl.isList ia (by omega) fun out ms a1 a2 a3=> ?_
 have hl:ms.length<=sizeLine:=by rw[a2.length_eq];exact cm9 (l9 (by omega))
 exact ⟨.ref (s.heap.objs.size+1),_,af9 I a1 hl,rfl,q ms _ a2 a3 (I.hok.fresh (ct3 _))⟩
variable {e:Expr} {t:TA} {p pos kpos:Pos}
theorem ap2 (hm:X.mg "sorted"=none)(ha:PA X [e] t)(hg:Gl X "sorted":=by rfl)(he:starEach [e] X.env=(false,eval e X.env)::starEach [] X.env:=by rfl):
   PE X (.Call (.Name "sorted" p) [e] [] pos) (U6 (fun xs H Q=>∃(p:Addr) (ns:List Int),xs=[.ref p]/\i4 X.K H p (ns.map V.int)/\ns.length < 64/\∀(ms:List Int) l,ms.Perm ns->ms.Pairwise (· <= ·)->H l=none->Q (.ref l) (c9 H l (.lst (ms.map V.int)))) t):=
 N0 ax6 hg hm T1 ha (by decide) (by decide) he rfl
theorem at5 {j:Nat}{kp:Pos}(hm:X.mg "sorted"=none)(ha:PA X [e] t)(hg:Gl X "sorted":=by rfl)
   (he:backTo pos (starEach [e] X.env)=(false,eval e X.env)::backTo pos (starEach [] X.env):=by rfl) (hplain:(backTo pos (starEach [e] X.env)).any (·.1)=false:=by rfl):
   PE X (.Call (.Name "sorted" p) [e] [⟨some "reverse",.Constant (.bool true) j kp,kpos⟩] pos) (U6 (fun xs H Q=>∃(p:Addr) (ns:List Int),xs=[.ref p]/\i4 X.K H p (ns.map V.int)/\ns.length < 64/\∀(ms:List Int) l,ms.Perm ns->ms.Pairwise (· ≥ ·)->H l=none->Q (.ref l) (c9 H l (.lst (ms.map V.int)))) t):=by
 intro pins s σ H Q I h;refine wpAny_Call_Name_kw (S1 I hg hm T1 ?_ (by decide) (by decide));refine callWith_kw (k7 (ha pos pins s σ H _ I h) fun us s1 ⟨vs,H1,I1,r1,q1⟩=> ?_) he hplain;obtain ⟨a,ns,rfl,hp,h64,q⟩:=q1;obtain ⟨u,rfl,rx⟩:=O3 r1;cases rx;have hk:PK X [⟨some "reverse",.Constant (.bool true) j kp,kpos⟩] (ar0 (tC (.bl true)) bb8):=bs3 D9 bx8
 refine k7 (hk pos pins s1 σ H1 (fun zs H2=>zs=[.bl true]/\H2=H1) I1 ⟨rfl,rfl⟩) fun ws s2 ⟨zs,H2,I2,rz,ez,eH⟩=> ?_
 subst ez eH;obtain ⟨u2,rfl,rx2⟩:=O3 rz;cases (show u2=Value.bool true from rx2);obtain ⟨its,rv,pl,_⟩:=I2.list hp;have ia:=Y2 rv;have il:=ia.length
 refine sorted_ints_rev (b:=true) pl.isList ia (by omega) fun out ms a1 a2 a3=> ?_
 have hl:ms.length<=sizeLine:=by rw[a2.length_eq];exact cm9 (l9 (by omega))
 exact ⟨.ref (s2.heap.objs.size+1),_,af9 I2 a1 hl,rfl,q ms _ a2 a3 (I2.hok.fresh (ct3 _))⟩
end
end L2
namespace Mth
theorem V9:∀{a b:List Int},a.Perm b->a.Pairwise (· ≥ ·)->b.Pairwise (· ≥ ·)->a=b
 |[],b,h,_,_=>by rw[List.nil_perm.mp h]
 |x::a,[],h,_,_=>by exact absurd h.length_eq (by simp)
 |x::a,y::b,h,ha,hb=>by
  obtain ⟨a1,a2⟩:=cr4.mp ha;obtain ⟨b1,b2⟩:=cr4.mp hb
  have hxy:x=y:=by
    have h1:x∈y::b:=h.mem_iff.mp cj5;have h2:y∈x::a:=h.mem_iff.mpr cj5
    have l1:y≥x:=by
      rcases ck8.mp h1 with e|e
      · exact Int.le_of_eq e
      · exact b1 x e
    have l2:x≥y:=by
      rcases ck8.mp h2 with e|e
      · exact Int.le_of_eq e
      · exact a1 y e
    omega
  subst hxy;rw[V9 ((List.perm_cons x).mp h) a2 b2]
end Mth
namespace L2
open PySem PySem.Spec PyProof.Rows
section
variable {X:Cx}
theorem bo7 {P:Program}{w:World}{k:k6}{u:Value}(h:(p7 P w).is k u=true):l6 (kV k) u:=by
 cases k with
 |inl i=>
  cases u with
  |int j t=>
   have:i=j:=by
     have h2:=KeyKind.is_eq_decide (knd:=p7 P w) (af3 P w j t) (Sum.inl i);rw[h] at h2;have:=of_decide_eq_true h2.symm;exact Sum.inl.inj this
   subst this;exact ⟨t,rfl⟩
  |_=>cases h
 |inr x=>
  cases u with
  |str y t=>
   have:x=y:=by
     have h2:=KeyKind.is_eq_decide (knd:=p7 P w) (af4 P w y t) (Sum.inr x);rw[h] at h2;have:=of_decide_eq_true h2.symm;exact Sum.inr.inj this
   subst this;exact ⟨t,rfl⟩
  |_=>cases h
theorem g9.freeze {pins:List (Addr×Obj)}{σ:St}{H:Hp}{s:Shared}{a:Addr}{kvs:List (k6×V)}{o:Obj}(I:g9 X pins σ H s)(e:H a=some (.dK kvs))(ho:s.heap.get? a=some o):g9 X pins σ (c9 H a (.frz o (.dK kvs))) s:=by
 have ok:o6 X.prog X.w H s.heap a (.dK kvs):=I.hok a _ e;exact ae0 (h':=s.heap) (t':=s.toks) I (by rw[e];exact True.intro) ⟨rfl,fun b _=>rfl⟩ ⟨o,ho⟩ ⟨ho,ok⟩
def Itd (d:Addr)(o:Obj)(kvs:List (k6×V)):It:=
 ⟨fun i H=>H d=some (.frz o (.dK kvs))/\i < kvs.length,fun i H x H'=>H'=H/\∃k v,kvs[i]? =some (k,v)/\x=kV k,fun i H=>H d=some (.frz o (.dK kvs))/\kvs.length<=i⟩
theorem br5 {P:Program}{w:World}{H:Hp}{h:Heap}{d:Addr}{o:Obj}{kvs:List (k6×V)}(x:o6 P w H h d (.frz o (.dK kvs))){es:Array DictEntry}{ep:Nat}(hd:o.data= .dict es ep):∃vs,KV kvs vs/\h.DictAt (p7 P w) d vs ep:=by
 obtain ⟨ho,_,_,vs,rel,o',es',ep',ho',hc,hd',r⟩:=x;rw[ho] at ho';cases ho';rw[hd] at hd';cases hd';exact ⟨vs,rel,o,es,ho,hc,hd,r⟩
theorem bc7 {α β:Type}{R:α->β->Prop}{xs:List α}{ys:List β}(h:Paired R xs ys):∀{i:Nat} {x:α},xs[i]? =some x->∃y,ys[i]? =some y/\R x y:=by
 induction h with
 |nil=>intro i x e;simp at e
 |cons r _ ih=>
  intro i x e
  cases i with
  |zero=>rw[List.getElem?_cons_zero] at e;cases e;exact ⟨_,rfl,r⟩
  |succ i=>rw[List.getElem?_cons_succ] at e;exact ih e
theorem bi7 {P:Program}{w:World}{K:PySem.W.Frag}{tg:Expr}(d it:Addr)(o:Obj)(kvs:List (k6×V))(es:Array DictEntry)(ep:Nat)(hdat:o.data= .dict es ep):al3 P w K tg (Itd d o kvs) [it] it (fun i h=>h.IsKeyIter it d i kvs.length ep) where
 mem:=by simp
 obj:=fun i h st b hb=>by
   have e:b=it:=by simpa using hb
   subst e;obtain ⟨o,e,c,d⟩:=st;exact ⟨o,e,fun v z=>by rw[d] at z;cases z⟩
 keep:=fun i h h' st k=>by
   obtain ⟨o,e,r⟩:=st;exact ⟨o,k it (by simp) o e,r⟩
 item:=by
   intro X hP hw hK hc i pins s σ H E I hf st hg;subst hP hw hK;obtain ⟨hH,hi⟩:=hg;obtain ⟨vs,rel,hat⟩:=br5 (I.hok d _ hH) hdat;have hl:kvs.length=vs.length:=rel.length;obtain ⟨f0,f1,f2,f3,f4,f5⟩:=hf it (by simp);have e1:kvs[i]? =some (kvs[i].1,kvs[i].2):=cj0 hi;generalize kvs[i].1=k at e1;generalize kvs[i].2=v at e1;obtain ⟨⟨k',u⟩,e2,e3,_⟩:=bc7 rel e1;have e3:k=k':=e3;subst e3;rw[hl] at st
   refine wpAny_pyNext_dict_item st hat e2 fun key h' hk st' sb=> ?_
   have I1:g9 X pins σ H {s with heap:=h'}:=I.turned (t':=s.toks) (fun b o hb e=>(sb.2 b hb).trans e) f0 f1 f3 f4 f5;obtain ⟨o,e,c,dd⟩:=id st';exact ⟨key,rfl,bb4 (s:={s with heap:=h'}) e c dd (by decide) ⟨kV k,H,I1,bo7 hk,⟨rfl,k,v,e1,rfl⟩,by rw[hl];exact st',fun b hb=>(hf b hb).1⟩⟩
 done:=by
   intro X hP hw hK hc i pins s σ H E I hf st hg;subst hP hw hK;obtain ⟨hH,hi⟩:=hg;obtain ⟨vs,rel,hat⟩:=br5 (I.hok d _ hH) hdat;have hl:kvs.length=vs.length:=rel.length;obtain ⟨f0,f1,f2,f3,f4,f5⟩:=hf it (by simp);rw[hl] at st
   exact wpAny_pyNext_dict_end (I.ok.hd hc) st hat (cj3 (by omega)) fun h' eb=>⟨rfl,I.turned (t':=s.toks) (fun b o hb e=>eb b o hb e) f0 f1 f3 f4 f5⟩
 self:=fun _ _ _ _ _ st h=>wpAny_pyIter_keyiter st h
def cc9 (td:TE):TI:=fun σ H R=>td σ H fun x H1=>∃d kvs,x= .ref d/\H1 d=some (.dK kvs)/\∀o,R (Itd d o kvs) (c9 H1 d (.frz o (.dK kvs)))
theorem bt4 {tg l:Expr}{tl:TE}(hl:PE X l tl):PI X tg l (cc9 tl):=by
 intro pins s σ H R I h
 refine k7 (hl pins s σ H _ I h) fun v s1 ⟨x,H1,I1,r1,q1⟩=> ?_
 obtain ⟨d,kvs,e,hH,q⟩:=q1;subst e;cases r1;obtain ⟨_,hsm,vs,rel,o,es,ep,ho,hc,hdat,rr⟩:=(show o6 X.prog X.w H1 s1.heap d (.dK kvs) from I1.hok d _ hH);have hat:s1.heap.DictAt (p7 X.prog X.w) d vs ep:=⟨o,es,ho,hc,hdat,rr⟩;have I2:=I1.freeze hH ho;refine wpAny_pyIter_dict hsm hat ?_;have hlen:kvs.length=vs.length:=rel.length;refine ⟨s1.heap.objs.size,[s1.heap.objs.size],_,_,_,rfl,I2.kept (t':=s1.toks) fun b o e=>Heap.get?_push_of_some _ e,bi7 d _ o kvs es ep hdat,⟨_,Heap.get?_push_size _ rfl,rfl,by rw[hlen];rfl⟩,fun b hb=> ?_,q o⟩
 have e:b=s1.heap.objs.size:=by simpa using hb
 subst e;exact I2.fpOk (cj1 _) (I2.hok.fresh (cj1 _))
theorem bo8 {d:Addr}{o:Obj}{kvs:List (k6×V)}{g:TG}{tb:TS}{D:M8}{σ:St}{H:Hp}(Pv:Nat->St->Hp->Prop)(h0:Pv 0 σ H)(hl:∀i σ H,i<=kvs.length->Pv i σ H->H d=some (.frz o (.dK kvs)))
   (hs:∀i k v σ H,kvs[i]? =some (k,v)->Pv i σ H->g (kV k) σ H fun σ2 H2=>tb {D with nx:=Pv (i+1),ct:=Pv (i+1),bk:=D.nx} σ2 H2) (hd:∀σ H,Pv kvs.length σ H->D.nx σ H):
   ∃W:Nat->Nat->St->Hp->Prop,(∃m,W 0 m σ H)/\∀i m σ H,W i m σ H->
    ((Itd d o kvs).stop i H/\D.nx σ H)\/((Itd d o kvs).go i H/\∃N:St->Hp->Prop,(∀σ' H',N σ' H'->∃m',m' < m/\W (i+1) m' σ' H')/\∀x H',(Itd d o kvs).yld i H x H'->g x σ H' fun σ2 H2=>tb {D with nx:=N,ct:=N,bk:=D.nx} σ2 H2):=by
 refine ⟨fun i m σ H=>m=kvs.length - i/\i<=kvs.length/\Pv i σ H,⟨kvs.length,by simp,cl4 _,h0⟩,?_⟩;rintro i m σ H ⟨rfl,hi,p⟩;have q:=hl i σ H hi p
 by_cases hlt:i < kvs.length
 · refine .inr ⟨⟨q,hlt⟩,Pv (i+1),fun σ' H' p'=>⟨kvs.length - (i+1),by omega,rfl,hlt,p'⟩,fun x H' y=> ?_⟩;obtain ⟨e,k,v,y1,y2⟩:=y;subst e y2;exact hs i k v σ _ y1 p
 · have e:i=kvs.length:=by omega
   subst e;exact .inl ⟨⟨q,cj1 _⟩,hd σ H p⟩
theorem W0 {prog:Program}{w:World}{κ:Type}[DecidableEq κ](knd:KeyKind prog w κ){k:κ}{key:Value}(d:Addr)(hkey:knd.is k key=true)(hd:(d==sysModules)=false)(dflt:Value):
   MeetsIn prog w (Builtin.«dict.setdefault» ⟨[.ref d,key,dflt],[]⟩) (fun _ R s=>∃kvs,s.heap.DictOf knd d kvs/\kvs.length<=sizeLine/\
     (∀v,valueAt kvs k=some v->R (.ok (.ret v)) {s with toks:=s.toks+1})/\
     (valueAt kvs k=none->∀h',h'.DictOf knd d (kvs++[(k,dflt)])->Heap.SameBut d s.heap h'->R (.ok (.ret dflt)) {s with heap:=h',toks:=s.toks+1})):=
 .of_wp fun A R s ⟨kvs,hm,hz,h1,h2⟩=>by
   unfold Builtin.«dict.setdefault»;refine wpAny_bind ?_;unfold Builtin.Dict.keyAndDefault;refine wpAny_bind (wpAny_notOrdered_dict hm.typeIs ?_);show wpAny _ _ (pure (d,key,some dflt)) _ _ s;refine wpAny_pure ?_;show wpAny _ _ (if (d==sysModules)=true then _ else (dictSetDefault d key dflt >>=_)) _ _ s;rw[if_neg (by rw[hd];exact ck1)];obtain ⟨o,es,ep,ho,hc,hdat,hk,hp,hn⟩:=id hm
   have hes:es.size<=sizeLine:=by
     have e1:=hp.length
     have e2:es.toList.length=es.size:=by simp
     omega
   have hf:=hm.mapOf;refine wpAny_bind ?_;unfold dictSetDefault
   try with_reducible refine wpAny_holding ?_
   refine wpAny_bind (knd.pyHash hkey ?_);refine wpAny_bind (wpAny_dictFind_of (s:={s with toks:=s.toks+1}) hkey ho hdat hk ?_)
   have hidx:(es.findIdx? fun e=>knd.is k e.key)=kvs.findIdx? fun kv=>decide (kv.1=k):=by
     rw[<-hp.findIdx k];obtain ⟨l⟩:=es;simp
   have hfb:findBy knd.is es k=valueAt kvs k:=by
     rw[<-hp.find k];obtain ⟨l⟩:=es;simp [findBy]
   rw[findBy_of_findIdx?] at hfb
   cases hi:es.findIdx? fun e=>knd.is k e.key with
   |some i=>
    refine wpAny_bind (wpAny_dictEntries (s:={s with toks:=s.toks+1}) ho hdat ?_)
    cases he:es[i]? with
    |none=>
     exfalso;have:=Array.findIdx?_eq_some_iff_findIdx_eq.mp hi;have hlt:i < es.size:=this.1;rw[cx0 hlt] at he
     exact nomatch he
    |some e=>
     refine wpAny_bind (wpAny_rule (wpAny_pure (wpAny_pure ⟨e.val,rfl,h1 e.val ?_⟩)));rw[hi] at hfb;rw[<-hfb];show Option.map _ es[i]? =_;rw[he];rfl
   |none=>
    have hnot:k∉kvs.map (·.1):=not_mem_of_findIdx_none (hidx▸hi)
    have hnone:valueAt kvs k=none:=by rw[hi] at hfb;exact hfb.symm
    refine wpAny_bind (wpAny_rule (wpAny_bind (wpAny_updateDictKeys (hz:=hes) (s:={s with toks:=s.toks+1}) ho hdat (wpAny_pure (wpAny_pure ⟨dflt,rfl,h2 hnone _ ⟨_,_,ep+1,Heap.get?_update_self _ ho (Obj.isFreed_of_dict (Obj.data_mapDictKeys hdat _)),
      hc.mapDictKeys _,Obj.data_mapDictKeys hdat _,hk.push hkey _,?_,?_⟩ (Heap.SameBut.update ..)⟩)))))
    · have:=hp.append hkey (knd.hash k) dflt;obtain ⟨l⟩:=es
      simpa using this
    · rw[ck4,cq0];refine ⟨hn,by simp,?_⟩;intro a ha b hb;simp only[cm7,cv5,cn2] at hb;subst hb
      exact fun e=>hnot (e▸ha)
def az3:V->List V->Hp->VK->Prop:=fun x vs H Q=>∃(d:Addr) (kvs:List (k6×V)) (k:k6) (y:V),x= .ref d/\vs=[kV k,y]/\H d=some (.dK kvs)/\kvs.length < sizeLine/\
 (∀v,y9 kvs k=some v->Q v H)/\(y9 kvs k=none->Q y (c9 H d (.dK (kvs++[(k,y)]))))
theorem bi8:MtM X "dict.setdefault" az3:=by
 intro pins s σ H x vs v us Q I rx rv h;obtain ⟨d,kvs,k,y,rfl,rfl,hH,hlen,q1,q2⟩:=h;cases rx
 cases rv with
 |cons rk rr=>
  cases rr with
  |cons ry rn=>
   cases rn;obtain ⟨z,hd,ws,rel,dd⟩:=br4 I.hok hH
   refine call_meetsIn PySem.F.slot_dict_setdefault dd.typeIs PySem.F.entry_dict_setdefault (PySem.F.args_dict_setdefault_3 _ _ _) (W0 (p7 X.prog X.w) d (ad7 rk) hd _)
     ⟨ws,dd,by rw[<-rel.length];exact z,fun u hu=> ?_,fun hn h' dd' hs=> ?_⟩
   · have:=rel.val k;rw[hu] at this
     cases hv:y9 kvs k with
     |none=>rw[hv] at this;cases this
     |some v=>
      rw[hv] at this;exact ⟨v,H,I.tok _,this,q1 v hv⟩
   · have hvn:y9 kvs k=none:=by
       have:=rel.val k;rw[hn] at this
       cases hv:y9 kvs k with
       |none=>rfl
       |some v=>rw[hv] at this;cases this
     have he:∃q,h'.get? d=some q:=let ⟨q,_,_,hq,_⟩:=dd';⟨q,hq⟩;have rel':=rel.put k ry
     have hany:¬(ws.any fun kv=>decide (kv.1=k))=true:=by
       rw[List.any_eq_true];rintro ⟨kv,hkv,hek⟩;unfold valueAt at hn
       cases hf:ws.find? (fun kv=>decide (kv.1=k)) with
       |none=>exact List.find?_eq_none.mp hf kv hkv hek
       |some y=>rw[hf] at hn;cases hn
     rw[ag9 y hvn,stored,if_neg hany] at rel';exact ⟨y,_,ae0 I (by rw[hH];exact True.intro) hs he (bg3 (by rw[cj6];exact hlen) hd rel' dd'),ry,q2 hvn⟩
theorem bi9 {o e f:Expr}{to:TE}{t:TA}{apos pos:Pos}(ho:PE X o to)(ha:PA X [e,f] t)
   (hbase:attributeBase o "setdefault" X.env (eval o X.env)=eval o X.env:=by rfl)
   (hfew:((backTo pos (starEach [e,f] X.env)).all (fun x=> !x.1)&&(backToKw pos (keywordEach [] X.env)).all (fun x=>x.1.isSome)
     &&decide ([e,f].length+([]:List Keyword).length+(if ([]:List Keyword).isEmpty then 0 else 1) < 30))=true:=by rfl)
   (hline:(apos.endLine==pos.line)=true:=by rfl) (hs:starEach [e,f] X.env=(false,eval e X.env)::starEach [f] X.env:=by rfl) (hplain:(backTo pos (starEach [f] X.env)).any (·.1)=false:=by rfl):
   PE X (.Call (.Attribute o "setdefault" apos) [e,f] [] pos) (tBM X.K "dict" az3 to t):=
 bc2 PySem.F.plainAttrs_dict PySem.F.slot_dict_setdefault PySem.F.type_dict_setdefault bi8 ho ha hbase hfew hline hs hplain
theorem bj0:bootBuiltins "int"=some (.type "int"):=by decide+kernel
theorem bj1:K3 X (.type "int") (fun xs H Q=>∃b,xs=[.bl b]/\Q (.int (if b then 1 else 0)) H):=by
 intro pins s σ H xs us Q I r h;obtain ⟨b,rfl,q⟩:=h;obtain ⟨u,rfl,rx⟩:=O3 r;cases rx;exact call_int_bool ⟨.int _,H,I.tok _,⟨_,rfl⟩,q⟩
theorem az4 {e:Expr}{t:TA}{p pos:Pos}(hm:X.mg "int"=none)(ha:PA X [e] t)(hg:Gl X "int":=by rfl)(he:starEach [e] X.env=(false,eval e X.env)::starEach [] X.env:=by rfl):
   PE X (.Call (.Name "int" p) [e] [] pos) (U6 (fun xs H Q=>∃b,xs=[.bl b]/\Q (.int (if b then 1 else 0)) H) t):=
 U7 bj1 hg hm bj0 ha (by decide) (by decide) he rfl
end
theorem bt5 (xs:List V)(k j:Nat)(h:k<=xs.length):S6 xs (some (k:Int)) (some (j:Int))=(xs.drop k).take (min j xs.length - k):=by
 unfold S6;rw[HT.ch5,HT.ch5,ct6 h]
end L2
namespace Mth
def Q0 (rs:List (List Int))(l:Nat):Nat:=rs.countP fun r=>decide (r.length=l)
theorem aj7 {g:Int->Nat}{l:Nat}:∀{rs:List (List Int)},(∀r∈rs,∀x∈r,g x=r.length)->(rs.flatten.countP fun x=>decide (g x=l))=l*Q0 rs l
 |[],_=>by simp [Q0]
 |r::rs,h=>by
  have ih:=aj7 (l:=l) (rs:=rs) fun q hq=>h q (cj8 _ hq)
  rw[co4,List.countP_append,ih];unfold Q0;rw[cx4];have hr:=h r cj5
  by_cases e:r.length=l
  · have:(r.countP fun x=>decide (g x=l))=r.length:=List.countP_eq_length.mpr fun x hx=>by rw[hr x hx];exact decide_eq_true e
    rw[this,e];simp only[decide_true,if_true];rw[Nat.mul_add,Nat.mul_one,cs3]
  · have:(r.countP fun x=>decide (g x=l))=0:=List.countP_eq_zero.mpr fun x hx=>by rw[hr x hx];simpa using e
    rw[this];simp [e]
theorem bt6 {p:List Int}(t:l4 p){rs:List (List Int)}(up:r6 p p.length rs):∀r∈rs,∀x∈r,A6 p x=r.length:=by
 intro r hr x hx;obtain ⟨y,L,hy,pr,er,_⟩:=up.ring r hr;subst er;obtain ⟨j,hj,rfl⟩:=t5.mp hx;rw[o8];exact E5 (pr.shift t hy j)
theorem V0 {p:List Int}(t:l4 p){rs:List (List Int)}(up:r6 p p.length rs)(l:Nat):((((cl8 p.length).map fun (i:Nat)=>(A6 p (i:Int):Int))).countP fun i=>decide (i=(l:Int)))=l*Q0 rs l:=by
 rw[<-aj7 (bt6 t up)];rw[(L3 t up).countP_eq,co7];unfold L2.G9;rw[co7]
 refine cp0 fun i hi=> ?_
 simp
 constructor<;>intro h<;>omega
end Mth
namespace Mth
theorem at6 {p:List Int}(t:l4 p):∀i,i<=p.length->r6 p i (j8 p i)
 |0,_=>Y8 p
 |i+1,h=>by
  have ih:=at6 t i (by omega);show r6 p (i+1) (if (i:Int)∈(j8 p i).flatten then j8 p i else j8 p i++[l5 p i (A6 p i)]);have hx:In p (i:Int):=⟨by omega,by omega⟩
  by_cases hi:(i:Int)∈(j8 p i).flatten
  · rw[if_pos hi];exact Y9 ih hi
  · rw[if_neg hi];obtain ⟨L,hL⟩:=aj5 t hx;rw[E5 hL];exact Z0 t ih hx hL hi
theorem A4 {p:List Int}(t:l4 p):r6 p p.length (j8 p p.length):=at6 t _ (cj1 _)
end Mth
namespace Mth
def x9 (rs:List (List Int))(l:Nat):List (List Int):=rs.filter fun r=>decide (r.length=l)
end Mth
namespace Mth
theorem bt7 {n c:Int}(hn:1<=n)(hc:0<=c):∃mx,(if (if c < n then c else n) > 1 then (if c < n then c else n) else (1:Int))=mx/\1<=mx/\mx<=n:=by
 refine ⟨_,rfl,?_⟩
 split<;>split at* <;>omega
end Mth
namespace L2
open PySem PySem.Spec PyProof.Rows
def KI (kvs:List (k6×V))(ns:List Int):Prop:=kvs.map (·.1)=ns.map Sum.inl
theorem at7:∀{kvs:List (k6×V)} {ns:List Int},KI kvs ns->∀k:Int,k∈ns↔∃v,y9 kvs (Sum.inl k:k6)=some v
 |[],[],_,k=>⟨fun h=>by simp at h,fun ⟨v,h⟩=>by cases h⟩
 |[],n::ns,h,_=>by unfold KI at h;simp at h
 |p::kvs,[],h,_=>by unfold KI at h;simp at h
 |p::kvs,n::ns,h,k=>by
  unfold KI at h;rw[cm7,cm7] at h
  injection h with h1 h2
  by_cases e:n=k
  · have:p.1=(Sum.inl k:k6):=by rw[h1,e]
    rw[N4 this];exact ⟨fun _=>⟨_,rfl⟩,fun _=>by rw[e];exact cj5⟩
  · have:¬p.1=(Sum.inl k:k6):=fun z=>e (by rw[h1] at z;exact Sum.inl.inj z)
    rw[K6 this];constructor
    · intro hm
      rcases ck8.mp hm with z|z
      · exact absurd z.symm e
      · exact (at7 (show KI kvs ns from h2) k).mp z
    · intro hv;exact cj8 _ ((at7 (show KI kvs ns from h2) k).mpr hv)
theorem am1 {kvs:List (k6×V)}{ns:List Int}(h:KI kvs ns){k:Int}(hk:k∉ns):y9 kvs (Sum.inl k:k6)=none:=by
 cases e:y9 kvs (Sum.inl k:k6) with
 |none=>rfl
 |some v=>exact absurd ((at7 h k).mpr ⟨v,e⟩) hk
end L2
namespace L2
open PySem PySem.Spec PyProof.Rows
theorem A9.hide {P:Program}{w:World}{H:Hp}{h:Heap}{as:List Addr}(x:A9 P w H h)(hn:∀b∈as,H b=none):A9 P w H (PySem.W.hideAll h as):=fun a o e=>
 (x a o e).stay (fun b u hb q=>PySem.W.hideAll_get _ q fun hm=>by
   have:=hn b hm
   rcases hb with rfl|hb
   · rw[e] at this;cases this
   · rw[hb] at this;cases this) (fun _ q=>q) fun _ _ q=>q
def T2 (P:Program)(w:World):Q4:=fun outer H s E e s'=>
 ∃(a t C:Addr) (vs:List Value) (B:Heap) (H':Hp),e= .ref a/\s'.os=s.os/\AllBare s'.gens/\Un (y7 outer) [] H H' s.heap s'.heap/\A9 P w H' B/\
  (∀b o,s.heap.get? b=some o->H b=none->b∉y7 outer->B.get? b=some o)/\(∀b o,s.heap.get? b=some o->b∉y7 outer->∃o',B.get? b=some o')/\
  Heap.FlyingW B outer a (.ref C) (.ref t) s'.heap/\s'.heap.TupAt t vs/\B.get? t=none/\E (.ref C) none H'
theorem at8 {fs:List Addr}{H0 H1:Hp}{h0 h1 h2 B:Heap}(u:Un fs [] H0 H1 h0 h1)(kb:∀b o,h0.get? b=some o->H0 b=none->b∉fs->B.get? b=some o)(tb:∀b o,h0.get? b=some o->b∉fs->∃o',B.get? b=some o')
   (st:B.StaysIn h2) (up:h1.UpToSlots h2) (fr:∀b∈fs,∀o,h1.get? b=some o->∀vs,o.data≠.fields vs):Un fs [] H0 H1 h0 h2 where
 keep:=fun b o q n hb _=>st b o (kb b o q n hb)
 slot:=fun b o q n hb hx=>by
   obtain ⟨sl,e⟩:=u.slot b o q n hb hx;obtain ⟨sl2,e2⟩:=up b _ e (fr b hb _ e);exact ⟨sl2,e2⟩
 free:=u.free
 there:=fun b o q hx=>by
   by_cases hb:b∈fs
   · obtain ⟨o',e⟩:=u.there b o q hx;obtain ⟨sl,e2⟩:=up b o' e (fr b hb _ e);exact ⟨_,e2⟩
   · obtain ⟨o',e⟩:=tb b o q hb;exact ⟨o',st b o' e⟩
 tups:=u.tups
 frzs:=u.frzs
 tbls:=u.tbls
def bj2 (X:Cx)(E:XK):Prop:=∀(pins:List (Addr×Obj)) (σ:St) (H:Hp) (s:Shared) (h':Heap) (e C:Addr) (vs:List Value),g9 X pins σ H s->Heap.MadeExcOf s.heap h' e (.ref C) vs->E (.ref C) none H->X.xe (.ref e) {s with heap:=h'}
theorem at9 {X:Cx}{pins:List (Addr×Obj)}{σ:St}{H:Hp}{s:Shared}(I:g9 X pins σ H s):∀b∈y7 X.stack,∀o,s.heap.get? b=some o->∀vs,o.data≠.fields vs:=fun b hb o ho=>by
 obtain ⟨_,o',ho',hn⟩:=I.stack.mem hb;rw[ho] at ho';cases ho';exact hn
section
variable {P:Program} {w:World} {K:PySem.W.Frag} {mg:Str->Option Value} {base:Heap} {N:List Str} {qual:Str} {scope:Scope} {f:Addr} {cd:Value} {A:Around} {outer:List Env} {s₀:Shared} {H₀:Hp} {E E':XK}
theorem O8 {pins:List (Addr×Obj)}{σ:St}{H:Hp}{s:Shared}(I:g9 (V5 (T2 P w) P w K mg base N qual scope f cd A outer s₀ H₀ E) pins σ H s){b:Addr}{o:Obj}(h:s₀.heap.get? b=some o)(hb:b∉y7 outer):
   b∉y7 (envOfC qual scope s₀.heap.objs.size f cd::outer):=fun hm=>by
 unfold y7 at hm hb;rw[cp1] at hm;have hf:(envOfC qual scope s₀.heap.objs.size f cd).frame=some s₀.heap.objs.size:=rfl;rw[hf] at hm
 rcases ck8.mp hm with z|z
 · have:=Heap.lt_size h;rw[z] at this;exact absurd this (cp5 _)
 · exact hb z
theorem ap3:bj2 (V5 (T2 P w) P w K mg base N qual scope f cd A outer s₀ H₀ E) E:=by
 intro pins σ H s h' e C vs I hx hE;show wpAny (model P w) _ (leaving _ (.ref e)) _ _ _
 have hin:∀env∈(envOfC qual scope s₀.heap.objs.size f cd::outer),∀b,env.frame=some b->b∈y7 (envOfC qual scope s₀.heap.objs.size f cd::outer):=fun env he b hb=>cw2.mpr ⟨env,he,hb⟩
 have hst:s.heap.FunFrames base (envOfC qual scope s₀.heap.objs.size f cd::outer):=I.stack;have hsf:∀b∈y7 (envOfC qual scope s₀.heap.objs.size f cd::outer),H b=none:=I.stkFree;have hub:Un (y7 outer) [] H₀ H s₀.heap s.heap:=I.base
 refine wpAny_leaves_madeW (base:=PySem.W.hideAll s.heap (y7 (envOfC qual scope s₀.heap.objs.size f cd::outer))) (h:=s.heap) I.ok.frames rfl (fun b o q=>PySem.W.of_hideAll _ q) (PySem.W.funFrames_hide hst hin) hx fun h2 t fl tup tn up=> ?_
 have up':s.heap.UpToSlots h2:=(Heap.UpToSlots.of_keeps hx.keeps).trans up
 have kb:∀b o,s₀.heap.get? b=some o->H₀ b=none->b∉y7 outer->(PySem.W.hideAll s.heap (y7 (envOfC qual scope s₀.heap.objs.size f cd::outer))).get? b=some o:=fun b o q n hb=>
   PySem.W.hideAll_get _ (hub.keep b o q n hb (by simp)) (O8 I q hb)
 have tb:∀b o,s₀.heap.get? b=some o->b∉y7 outer->∃o',(PySem.W.hideAll s.heap (y7 (envOfC qual scope s₀.heap.objs.size f cd::outer))).get? b=some o':=fun b o q hb=>by
   obtain ⟨o',e'⟩:=hub.there b o q (by simp);exact ⟨o',PySem.W.hideAll_get _ e' (O8 I q hb)⟩
 refine ⟨e,t,C,vs,_,H,rfl,I.os,I.bare,at8 hub kb tb fl.1 up' (fun b hb o ho=> ?_),I.hok.hide hsf,kb,tb,fl,tup,tn,hE⟩;exact at9 I b (by show b∈y7 (envOfC qual scope s₀.heap.objs.size f cd::outer);unfold y7 at hb ⊢;rw[cp1];exact cj8 _ hb) o ho
theorem V1 (imp:∀c d H,E c d H->E' c d H):ab0 (T2 P w) (V5 (T2 P w) P w K mg base N qual scope f cd A outer s₀ H₀ E') E:=by
 intro pins σ H s e s' I h;obtain ⟨a,t,C,vs,B,H',rfl,os,bare,un,hok,kb,tb,fl,tup,tn,hE⟩:=h;show wpAny (model P w) _ (leaving _ (.ref a)) _ _ _;have hub:Un (y7 outer) [] H₀ H s₀.heap s.heap:=I.base;have un':Un (y7 (envOfC qual scope s₀.heap.objs.size f cd::outer)) [] H H' s.heap s'.heap:=un
 have sub:∀b,b∈y7 outer->b∈y7 (envOfC qual scope s₀.heap.objs.size f cd::outer):=fun b hb=>by
   unfold y7 at hb ⊢;rw[cp1];exact cj8 _ hb
 refine wpAny_leaves_onW (L:=s₀.heap.objs.size) I.ok.frames rfl fl fun h2 fl2 up=> ?_
 have kb':∀b o,s₀.heap.get? b=some o->H₀ b=none->b∉y7 outer->B.get? b=some o:=fun b o q n hb=>
   kb b o (hub.keep b o q n hb (by simp)) (hub.free b o q n (by simp)) (O8 I q hb)
 have tb':∀b o,s₀.heap.get? b=some o->b∉y7 outer->∃o',B.get? b=some o':=fun b o q hb=>by
   obtain ⟨o',e'⟩:=hub.there b o q (by simp);exact tb b o' e' (O8 I q hb)
 have plain:∀b∈y7 outer,∀o,s'.heap.get? b=some o->∀vs,o.data≠.fields vs:=fun b hb o ho=>by
   obtain ⟨_,o1,ho1,hn⟩:=I.stack.mem (sub b hb);obtain ⟨sl,e1⟩:=un'.slot b o1 ho1 (I.stkFree b (sub b hb)) (sub b hb) (by simp);rw[ho] at e1;cases e1;exact hn
 have unw:Un (y7 outer) [] H₀ H' s₀.heap s'.heap:={
   keep:=fun b o q n hb _=>un'.keep b o (hub.keep b o q n hb (by simp)) (hub.free b o q n (by simp)) (O8 I q hb) (by simp)
   slot:=fun b o q n hb _=>by
     obtain ⟨sl,e1⟩:=hub.slot b o q n hb (by simp);obtain ⟨sl2,e2⟩:=un'.slot b _ e1 (hub.free b o q n (by simp)) (sub b hb) (by simp);exact ⟨sl2,e2⟩
   free:=fun b o q n _=>by
     obtain ⟨sl,e1⟩:=hub.any q n (by simp);exact un'.free b _ e1 (hub.free b o q n (by simp)) (by simp)
   there:=fun b o q _=>by
     obtain ⟨o',e1⟩:=hub.there b o q (by simp);exact un'.there b o' e1 (by simp)
   tups:=fun b xs q=>un'.tups b xs (hub.tups b xs q)
   frzs:=fun b o u q=>un'.frzs b o u (hub.frzs b o u q)
   tbls:=fun b ps q=>by
     obtain ⟨m1,q1⟩:=hub.tbls b ps q;obtain ⟨m2,q2⟩:=un'.tbls b _ q1
     exact ⟨m1++m2,by rw[q2,Array.append_assoc]⟩}
 exact ⟨a,t,C,vs,B,H',rfl,os.trans I.os,bare,at8 unw kb' tb' fl2.1 up plain,hok,kb',tb',fl2,tup.of_slots up,tn,imp _ _ _ hE⟩
end
theorem bt8 {K:PySem.W.Frag}{h:Heap}{C:Addr}{bmB:List Value}{newId:String}(X:K.In h)(q:PySem.W.excIn K C bmB newId=true):
   ∃(bm:List Value) (N:Addr) (nm qn:Str) (bs:List Value) (hdct:Bool) (sn:List Str) (sub:List Value) (ab:Bool) (col:Option Bool) (dd:Option Addr) (k0 k1 k2 k3 k5:Option Value) (mN:Str->Option Value),
    K.lookup C=some (excClassObj nm qn C N bs bm hdct sn sub ab col dd k0 k1 k2 k3 k5 newId)/\h.Ns N mN/\mN "__init__"=none/\OwnTail h bmB bm:=by
 unfold PySem.W.excIn at q
 split at q
 · rename_i dd cd sl look
   split at q
   · rename_i C' bm k0 k1 k2 k3 n k5 hmro hsl;rw[cn8,cn8,cn8,cn8,cn8] at q;obtain ⟨⟨⟨⟨⟨q1,q2⟩,q3⟩,q4⟩,q5⟩,q6⟩:=q;have e1:C'=C:=beq_iff_eq.mp q1;have e2:n=newId:=beq_iff_eq.mp q2;subst e1 e2;obtain ⟨nm,bs,mro,ns,qn,hd,sn,sub,ab,col,del⟩:=cd;have e3:mro= .ref C'::bm:=hmro
     have e4:del=false:=by
       cases del with
       |false=>rfl
       |true=>cases q3
     subst e3 e4
     have e5:sl= #[k0,k1,k2,k3,some (.builtin n),k5]:=by
       apply Array.ext'
       exact hsl
     subst e5;exact ⟨bm,ns,nm,qn,bs,hd,sn,sub,ab,col,dd,k0,k1,k2,k3,k5,_,look,.of_isNs (PySem.W.isNs_of_in X q5),PySem.W.nsMap_none_of_in X q5 (beq_iff_eq.mp q6),PySem.W.tail_of_in X q4⟩
   · cases q
 · cases q
abbrev veB:List Value:=[.type "ValueError",.type "Exception",.type "BaseException",.type "object"]
structure Err (K:PySem.W.Frag)(mg:Str->Option Value)(x:Str)(C:Addr):Prop where
 mg:mg x=some (.ref C)
 ex:PySem.W.excIn K C veB "ValueError.__new__"=true
section
variable {X:Cx}
theorem au0 {x:Str}{C:Addr}{E:XK}{e:Expr}{te:TE}{np cpos pos:Pos}(R:bj2 X E)(hc:X.calm=true)(c:Err X.K X.mg x C)(he:PE X e te)(hg:Gl X x:=by rfl)
   (hs:starEach [e] X.env=(false,eval e X.env)::starEach [] X.env:=by rfl) (hd:(x==("__debug__":Str))=false:=by decide):
   PS X (.Raise (some (.Call (.Name x np) [e] [] cpos)) none pos) (fun _ σ H=>te σ H fun _ H1=>E (.ref C) none H1):=by
 intro pins s σ H D I h;obtain ⟨bm,N,nm,qn,bs,hdct,sn,sub,ab,col,dd,k0,k1,k2,k3,k5,mN,hC,hN,hni,T⟩:=bt8 I.ok.mod.kin c.ex
 refine wpAny_Raise_call_subT (C:=C) (nm:=nm) (q:=qn) (N:=N) (bs:=bs) (bm:=bm) (hdct:=hdct) (sn:=sn) (sub:=sub) (ab:=ab) (col:=col) (dd:=dd) (k0:=k0) (k1:=k1) (k2:=k2) (k3:=k3) (k5:=k5)
   PySem.F.excBase_ValueError (mN:=mN) (T.hasType PySem.F.excBase_ValueError.hasBase) (I.ok.hd hc) (by rw[hs];rfl) hni (W4 I hg c.mg ⟨rfl,?_⟩ hd)
 rw[hs];refine Calls.evalArgs_plain (Calls.spliced_cons (k7 (he pins s σ H _ I h) fun v s1 ⟨x,H1,I1,rx,q⟩=>Calls.spliced_nil ?_));exact ⟨rfl,(by show 1<=sizeLine;decide),I1.kIn _ _ hC,hN.keeps I1.bk,T.keeps I1.bk,fun h' e' hm=>R pins σ H1 s1 h' e' C _ I1 hm q⟩
end
section
variable {P:Program} {w:World} {K:PySem.W.Frag} {mg:Str->Option Value} {base:Heap}
theorem j9.lift {k:Nat}{f:Addr}{fd:FuncData}{ps:List Str}{sp:Sp}{CX:Q4}(F:j9 P w K mg base C8 k f fd ps sp):j9 P w K mg base CX k f fd ps sp:=
 ⟨F.len,fun A outer s H args us vs Q E hr e0 hb hv hs=>codeAny_mono (F.run A outer s H args us vs Q E hr e0 hb hv hs) fun r s' h=>by
   cases r with
   |error e=>exact (show False from h).elim
   |ok v=>cases v<;>exact h⟩
theorem j9.or {k:Nat}{f:Addr}{fd:FuncData}{ps:List Str}{sp sp':Sp}{CX:Q4}(F:j9 P w K mg base CX k f fd ps sp)(G:j9 P w K mg base CX k f fd ps sp'):j9 P w K mg base CX k f fd ps (fun vs H Q E=>sp vs H Q E\/sp' vs H Q E):=
 ⟨fun vs H Q E h=>h.elim (F.len vs H Q E) (G.len vs H Q E),fun A outer s H args us vs Q E hr e0 hb hv hs=>hs.elim (F.run A outer s H args us vs Q E hr e0 hb hv) (G.run A outer s H args us vs Q E hr e0 hb hv)⟩
theorem B0.okx {x qual:Str}{st:Stmt}{f:Addr}{fd:FuncData}{N ps:List Str}{k:Nat}{sp:Sp}(F:B0 K x qual st f fd)(S:l7 N ps (j5 st))(len:∀vs H Q E,sp vs H Q E->vs.length=ps.length)
   (hbody:∀(cdv:Value) (A:Around) (outer:List Env) (s:Shared) (H:Hp) (vs:List V) (Q:VK) (E:XK),m9 k (A.deeper (envOfC qual (j5 st) s.heap.objs.size f cdv))->sp vs H Q E->
     ∃t,Q3 (V5 (T2 P w) P w K mg base N qual (j5 st) f cdv A outer s H E) (L0 st) t/\t {nx:=fun _ H'=>Q .non H',rt:=Q} (Q8 N vs) H):j9 P w K mg base (T2 P w) (k+1) f fd ps sp:=by
 obtain ⟨oc,od,kV,doc,pm,an,cdv,ct,osl,rfl,lk,hcd⟩:=F.ex
 exact br0 lk hcd S len fun A outer s H vs Q E hr hsp=>hbody cdv A outer s H vs Q E hr hsp
def Q1 (P:Program)(w:World)(K:PySem.W.Frag)(mg:Str->Option Value)(base:Heap)(x:Str)(k:Nat)(ps:List Str)(sp:Sp):Prop:=
 ∃(f:Addr) (fd:FuncData),mg x=some (.ref f)/\PySem.W.keepIn K (.ref f)=true/\Q7 K fd ps []/\j9 P w K mg base (T2 P w) k f fd ps sp
end
section
variable {X:Cx} {x:Str} {k:Nat} {ps:List Str} {sp:Sp} {e:Expr} {es:List Expr} {t:TA} {p pos:Pos} {E:XK}
theorem ae3 (c:Q1 X.prog X.w X.K X.mg X.base x k ps sp)(hr:m9 k X.A)(hx:ab0 (T2 X.prog X.w) X E)(ha:PA X (e::es) t)(hg:Gl X x:=by rfl)(hdb:(x==("__debug__":Str))=false:=by decide)
   (he:starEach (e::es) X.env=(false,eval e X.env)::starEach es X.env:=by rfl) (hpl:(backTo pos (starEach es X.env)).any (·.1)=false:=by rfl):PE X (.Call (.Name x p) (e::es) [] pos) (ai5 sp [] E t):=by
 obtain ⟨f,fd,h1,h2,h3,h4⟩:=c;exact ay9 h4 hr hg h1 h2 h3 .nil hx ha hdb he hpl
end
end L2
namespace L2
open PySem PySem.Spec PyProof.Rows
theorem o6.get {P:Program}{w:World}{H:Hp}{h:Heap}{a:Addr}{o:HO}(x:o6 P w H h a o):∃u,h.get? a=some u:=by
 cases o with
 |lst xs=>obtain ⟨_,_,_,_,e⟩:=x;exact ⟨_,e⟩
 |tup xs=>obtain ⟨_,_,_,ob,e,_⟩:=x;exact ⟨_,e⟩
 |dK kvs=>obtain ⟨_,_,_,_,o,_,_,e,_⟩:=x;exact ⟨_,e⟩
 |dT kvs=>obtain ⟨_,_,_,_,o,_,_,e,_⟩:=x;exact ⟨_,e⟩
 |set S n=>obtain ⟨o,_,_,_,e,_⟩:=x;exact ⟨_,e⟩
 |ins C dx fs=>obtain ⟨_,_,_,e,_⟩:=x;exact ⟨_,e⟩
 |own y=>obtain ⟨_,e⟩:=x;exact ⟨_,e⟩
 |xd fs=>obtain ⟨_,⟨_,_,_,e,_⟩,_⟩:=x;exact ⟨_,e⟩
 |rng lo hi=>obtain ⟨_,_,_,e⟩:=x;exact ⟨_,e⟩
 |frz ob u=>obtain ⟨e,_⟩:=x;exact ⟨_,e⟩
 |tbl ps=>exact ⟨_,show h.get? a=some _ from x⟩
 |met f y=>exact ⟨_,show h.get? a=some _ from x⟩
 |ext φ=>obtain ⟨_,⟨_,e⟩,_⟩:=x;exact ⟨_,e⟩
def bz0 (a C:Addr):HO:= .ext fun h=>∃oe vs,h.get? a=some oe/\oe.cls= .ref C/\oe.data= .fields vs
section
variable {X:Cx} {pins:List (Addr×Obj)} {σ:St} {H H':Hp} {s s':Shared}
theorem bt9 {M:Model}{A:Around}{E:Value->Shared->Prop}{i:Nat}{n:Str}{pos:Pos}{Q:Unit->Shared->Prop}(I:g9 X pins σ H s)(hN:X.N.Nodup)(hi:X.N[i]? =some n)(hk:X.env.kindOf n=some .local)
   (h:∀s',g9 X pins (σ.set i none) H s'->Q () s'):wpAny M A (do bindName X.env n .none;unbindBehindTheSuite X.env n pos) Q E s:=by
 obtain ⟨m,hn,hl⟩:=id I.loc
 have hcls:(X.env.scope.kind== .class||(X.env.scope.kind== .module&&X.env.locals !=X.env.globals))=false:=by rw[I.ok.kind];rfl
 have hiσ:i < σ.length:=by rw[I.len];exact (ci9.mp hi).1
 have cne:=I.cne
 refine wpAny_nameGoes_keeps hk hn hcls fun h' v hn' hs=>h _ ?_
 obtain ⟨oL,_,_,hoL,_⟩:=id hn
 have low:∀b o,X.s₀.heap.get? b=some o->b≠X.env.locals:=fun b o e=>cl2 (cl5 (Heap.lt_size e) I.ok.above)
 refine ⟨I.ok,I.os,I.bare,⟨fun b o e n hb hx=> ?_,fun b o e n hb hx=> ?_,I.base.free,fun b o e hx=> ?_,I.base.tups,I.base.frzs,I.base.tbls⟩,⟨_,hn',fun j y v' e1 e2 e3=> ?_⟩,fun y c e=> ?_,I.free,I.freeC,fun p hp=> ?_,fun b ob e=> ?_,by simpa using I.len⟩
 · exact (hs.2 b (low b o e)).trans (I.base.keep b o e n hb hx)
 · obtain ⟨sl,e1⟩:=I.base.slot b o e n hb hx;exact ⟨sl,(hs.2 b (low b o e)).trans e1⟩
 · obtain ⟨o',e1⟩:=I.base.there b o e hx;exact ⟨o',(hs.2 b (low b o e)).trans e1⟩
 · by_cases hj:j=i
   · subst hj;rw[cr5 hiσ] at e2;cases e2
   · rw[cs6 (Ne.symm hj)] at e2;obtain ⟨u',r',q⟩:=hl j y v' e1 e2 e3;refine ⟨u',r',?_⟩
     rcases q with ⟨k,e⟩|⟨k,c,e,z⟩
     · refine .inl ⟨k,?_⟩
       have:y≠n:=fun e=>hj (ag4 hN e1 (e▸hi))
       simp [this,e]
     · exact .inr ⟨k,c,e,z.sameBut hs (cne y c e)⟩
 · obtain ⟨w',z⟩:=I.cell y c e;exact ⟨w',z.sameBut hs (cne y c e)⟩
 · obtain ⟨e,n,ne,nf,d⟩:=I.pin p hp;exact ⟨(hs.2 p.1 ne).trans e,n,ne,nf,d⟩
 · refine (I.hok b ob e).stay (fun c w' hc q=>(hs.2 c ?_).trans q) (fun _ q=>q) fun _ _ q=>q
   rintro rfl
   rcases hc with rfl|hc
   · rw[I.free] at e;cases e
   · rw[I.free] at hc;cases hc
abbrev Cx.marked (X:Cx)(a:Addr):Cx:={X with A:=X.A.mark (some (.ref a)),calm:=false,xe:=fun _ _=>False}
theorem g9.mark (I:g9 X pins σ H s)(a:Addr):g9 (X.marked a) pins σ H s:=
 ⟨⟨I.ok.mod,I.ok.kind,I.ok.glob,I.ok.blt,I.ok.above,I.ok.inj,I.ok.has,I.ok.cab,(fun z=>nomatch z),I.ok.frames,I.ok.stk,I.ok.exf,I.ok.bs,I.ok.bsz,I.ok.noex,I.ok.exfs,I.ok.funs,I.ok.frf⟩,I.os,I.bare,I.base,I.loc,I.cell,I.free,I.freeC,I.pin,I.hok,I.len⟩
theorem g9.unmark {a:Addr}(ok:X.Ok)(I:g9 (X.marked a) pins σ H s):g9 X pins σ H s:=
 ⟨ok,I.os,I.bare,I.base,I.loc,I.cell,I.free,I.freeC,I.pin,I.hok,I.len⟩
theorem g9.trackNew {a:Addr}{o:HO}(I:g9 X pins σ H s)(hn:H a=none)(h0:X.s₀.heap.get? a=none)(hL:a≠X.env.locals)(hc:∀x c,X.env.cells.lookup x=some c->c≠a)(hp:∀p∈X.pn++pins,p.1≠a)(new:o6 X.prog X.w (c9 H a o) s.heap a o):
   g9 X pins σ (c9 H a o) s:=by
 refine ⟨I.ok,I.os,I.bare,⟨I.base.keep,I.base.slot,fun b o' e n hx=> ?_,I.base.there,fun b xs e=> ?_,fun b o' u e=> ?_,fun b ps e=> ?_⟩,I.loc,I.cell,?_,fun x c e=> ?_,fun p hq=> ?_,I.hok.track hn new,I.len⟩
 · rw[g8 (fun z=>by rw[z,h0] at e;cases e)];exact I.base.free b o' e n hx
 · have:=I.base.tups b xs e;rw[g8 (g7 this hn)];exact this
 · have:=I.base.frzs b o' u e;rw[g8 (g7 this hn)];exact this
 · obtain ⟨m,this⟩:=I.base.tbls b ps e;exact ⟨m,by rw[g8 (g7 this hn)];exact this⟩
 · rw[g8 (Ne.symm hL)];exact I.free
 · rw[g8 (hc x c e)];exact I.freeC x c e
 · obtain ⟨e,n,ne,nf,d⟩:=I.pin p hq;exact ⟨e,by rw[g8 (hp p hq)];exact n,ne,nf,d⟩
end
def PX (X:Cx)(st:List Stmt)(t:XK->TS):Prop:=
 ∀(pins:List (Addr×Obj)) (s:Shared) (σ:St) (H:Hp) (D:M8) (E:XK) (E1:Value->Shared->Prop),g9 X pins σ H s->
  (∀(H1:Hp) (s1:Shared) (e:Value) (s':Shared),g9 X pins σ H1 s1->T2 X.prog X.w X.stack H1 s1 E e s'->E1 e s')->t E D σ H->wpAny (model X.prog X.w) X.A (execs st X.env) (SP X pins D) E1 s
section
variable {X:Cx} {x:Str} {k:Nat} {ps:List Str} {sp:Sp} {e:Expr} {es:List Expr} {t:TA} {p pos:Pos}
theorem PA.any (h:PA X.nox es t)(E1:Value->Shared->Prop):PA (X.wish E1) es t:=fun pos pins s σ H Q I hw=>
 wpAny_mono (h pos pins s σ H Q (I.unwish.wish _) hw) (fun _ _ ⟨v,H',I',r,q⟩=>⟨v,H',I'.unwish.wish E1,r,q⟩) fun _ _ z=>False.elim z
theorem bu0 {pins:List (Addr×Obj)}{σ:St}{H:Hp}{s:Shared}{Q:VK}{E:XK}{E1:Value->Shared->Prop}(c:Q1 X.prog X.w X.K X.mg X.base x k ps sp)(hr:m9 k X.A)(ha:PA X.nox (e::es) t)(I:g9 X pins σ H s)
   (hx:∀(H1:Hp) (s1:Shared) (e:Value) (s':Shared),g9 X pins σ H1 s1->T2 X.prog X.w X.stack H1 s1 E e s'->E1 e s') (h:ai5 sp [] E t σ H Q) (hg:Gl X x) (hdb:(x==("__debug__":Str))=false)
   (he:starEach (e::es) X.env=(false,eval e X.env)::starEach es X.env) (hpl:(backTo pos (starEach es X.env)).any (·.1)=false):
   wpAny (model X.prog X.w) X.A (eval (.Call (.Name x p) (e::es) [] pos) X.env) (EP X pins σ Q) E1 s:=by
 obtain ⟨f,fd,h1,h2,h3,h4⟩:=c;have Iw:g9 (X.wish E1) pins σ H s:=I.wish E1;refine wpAny_Call_Name_kw (W4 (E:=E1) I hg h1 ?_ hdb);refine PySem.W.callWith_K (h₀:=X.base) I.ok.mod.kin h2 (k7 ((PA.any ha E1) pos pins s σ H _ Iw h) fun us s1 ⟨vs,H1,I1,r,q⟩=>⟨I1.kIn,?_⟩) he hpl;have I1':g9 X pins σ H1 s1:=I1.unwish
 have r2:j6 (vs++[]) us:=by rw[cm1];exact r
 have hl:(us++[]).length=ps.length:=by rw[cm1,<-r2.length];exact h4.len _ _ _ _ q
 have hb:=h3 s1 us I1'.kIn hl;rw[cm1] at hb;refine wpAny_call (codeAny_mono (h4.run X.A X.stack s1 H1 ⟨us,[]⟩ us (vs++[]) Q E hr I1'.env0 hb r2 q) fun rr s' hq=> ?_)
 cases rr with
 |error e=>exact hx H1 s1 e s' I1' hq
 |ok fl=>
  cases fl with
  |ret u=>exact I1'.after hq
  |next=>exact False.elim hq
  |brk=>exact False.elim hq
  |cont=>exact False.elim hq
theorem bu1 {ep:Pos}(c:Q1 X.prog X.w X.K X.mg X.base x k ps sp)(hr:m9 k X.A)(ha:PA X.nox (e::es) t)(hg:Gl X x:=by rfl)(hdb:(x==("__debug__":Str))=false:=by decide)
   (he:starEach (e::es) X.env=(false,eval e X.env)::starEach es X.env:=by rfl) (hpl:(backTo pos (starEach es X.env)).any (·.1)=false:=by rfl) (hs:swapsWith (.Call (.Name x p) (e::es) [] pos) none ep.line X.env=pure false:=by rfl):
   PX X [.Expr (.Call (.Name x p) (e::es) [] pos) ep] (fun E D σ H=>ai5 sp [] E t σ H fun _ H1=>D.nx σ H1):=by
 intro pins s σ H D E E1 I hx h
 have first:wpAny (model X.prog X.w) X.A (exec (.Expr (.Call (.Name x p) (e::es) [] pos) ep) X.env) (SP X pins D) E1 s:=
   wpAny_Expr_any (k7 (bu0 c hr ha I hx h hg hdb he hpl) fun v s1 ⟨y',H1,I1,r1,q1⟩=>⟨σ,H1,I1,q1⟩) I.quiet hs
 refine wpAny_execs_cons (k7 first fun f s1 q=> ?_)
 cases f with
 |next=>exact wpAny_execs_nil q
 |ret v=>exact q
 |brk=>exact q
 |cont=>exact q
end
section
variable {X:Cx}
def bu2 (K:PySem.W.Frag)(T:Addr)(i:Nat)(ts:TS)(D:M8)(σ:St):XK:=fun c _ H'=>
 ∃C,c= .ref C/\PySem.W.exmOne K (.ref C) (.ref T)=some true/\∀a,H' a=none->ts {nx:=fun σ' H''=>D.nx (σ'.set i none) H'',rt:=fun _ _=>False} (σ.set i (some (.ref a))) (c9 H' a (bz0 a C))
theorem bz1 {body:List Stmt}{x n:Str}{T:Addr}{i:Nat}{np hp pos:Pos}{b₀:Stmt}{suite:List Stmt}{tb:XK->TS}{ts:TS}(hb:PX X body tb)(hm:X.mg x=some (.ref T))(hN:X.N.Nodup)(hi:X.N[i]? =some n)(hk:X.env.kindOf n=some .local)
   (hsu:∀a,Q3 (X.marked a) (b₀::suite) ts) (hst:X.stack=X.env::X.outer:=by rfl) (hfr:X.env.frame=some X.env.locals:=by rfl) (hex0:X.ex=[]:=by rfl) (hg:Gl X x:=by rfl) (hdb:(x==("__debug__":Str))=false:=by decide) (hf:X.fn n=true\/X.env.scope.names.lookup n=some .local:=by first|exact .inl rfl|exact .inr rfl|assumption):
   PS X (.Try body [.ExceptHandler (some (.Name x np)) (some n) (b₀::suite) hp] [] [] pos) (fun D σ H=>tb (bu2 X.K T i ts D σ) D σ H):=by
 intro pins s σ H D I h;refine wpAny_Try_except (wpAny_mono (hb pins s σ H D _ (fun e s₁=>wpAny (model X.prog X.w) X.A (noteFrame e X.env) (fun _ s₂=>wpAny (model X.prog X.w) X.A (setFlight e none) (fun _ s₃=>wpAny (model X.prog X.w) X.A (handleBy e X.env [.ExceptHandler (some (.Name x np)) (some n) (b₀::suite) hp]) (SP X pins D) X.xe s₃) X.xe s₂) X.xe s₁) I (fun H1 s1 e s' I1 hcx=> ?_) h) (fun f s1 q=> ?_) fun _ _ z=>z)
 · obtain ⟨a,t,C,vs,B,H',rfl,os,bare,un,hok,kb,tb',fl,tup,tn,C',hCe,hex,hts⟩:=hcx;cases hCe;rw[hst] at un fl kb tb'
   have hframes:X.A.frames=some (X.env::X.outer):=by rw[<-hst];exact I1.ok.frames
   have plain:∀b∈y7 (X.env::X.outer),∀o,s'.heap.get? b=some o->∀vs,o.data≠.fields vs:=fun b hb o ho=>by
     obtain ⟨_,o',ho',hn⟩:=fl.2.2.1.mem hb;rw[ho] at ho';cases ho';exact hn
   have notB:B.get? a=none:=fl.2.1
   have notF:a∉y7 (X.env::X.outer):=fun hm=>by
     obtain ⟨oe,ws,he,_,hd,_⟩:=fl.first;exact plain a hm oe he ws hd
   have new1:s1.heap.get? a=none:=by
     cases q:s1.heap.get? a with
     |none=>rfl
     |some o=>
      obtain ⟨o',e'⟩:=tb' a o q notF;rw[notB] at e';cases e'
   have new0:X.s₀.heap.get? a=none:=by
     cases q:X.s₀.heap.get? a with
     |none=>rfl
     |some o=>
      by_cases hx:a∈X.ex
      · rw[hex0] at hx;simp at hx
      · obtain ⟨o',e'⟩:=I1.base.there a o q hx;rw[new1] at e';cases e'
   have hHa:H' a=none:=by
     cases q:H' a with
     |none=>rfl
     |some o=>obtain ⟨u,hu⟩:=(hok a o q).get;rw[notB] at hu;cases hu
   refine wpAny_looks_onW hframes hfr fl fun h₄ held₄ up₄=> ?_
   refine wpAny_landsW held₄ fun h₅ fl₅ up₅=> ?_
   have inv:∀h,B.StaysIn h->s'.heap.UpToSlots h->g9 X pins σ H' {s' with heap:=h}:=fun h st up=>
     I1.call' (ch:=[]) (s':={s' with heap:=h}) os (by rw[hst];exact at8 un kb tb' st up plain) (hok.kept st) bare (fun b z=>absurd z (by simp))
   have I5:=inv h₅ fl₅.1 (up₄.trans up₅);refine wpAny_handleBy_cons (codeAny_handlers_test (W4 (X:=X.marked a) (E:=_) (I5.mark a) hg hm ?_ hdb)) (by intro q;cases q);obtain ⟨ob,hob,hobc⟩:=fl₅.there;have LT:PySem.W.Looks (model X.prog X.w) h₅ (typeOf (.ref a)) (.ref C):=hobc▸(PySem.W.Looks.ld hob).andThen .now;refine PySem.W.exm_one (M:=model X.prog X.w) (h:=h₅) I5.kIn LT hex _ _ _ _ (fun _ _ q=>q) ?_;refine codeAny_handlers_suite_as ?_
   refine lands_againW fl₅ fun h₆ fl₆ up₆=> ?_
   have I6:=inv h₆ fl₆.1 ((up₄.trans up₅).trans up₆)
   have hLa:a≠X.env.locals:=fun z=>notF (by unfold y7;rw[cp1,hfr];rw[z];exact cj5)
   have hca:∀y c,X.env.cells.lookup y=some c->c≠a:=fun y c e z=>by
     obtain ⟨v,o,ho,_⟩:=I1.cell y c e;rw[z,new1] at ho;cases ho
   have hpa:∀q∈X.pn++pins,q.1≠a:=fun q hq z=>by
     obtain ⟨e,_⟩:=I1.pin q hq;rw[z,new1] at e;cases e
   obtain ⟨oe,ws,he6,hc6,hd6,_⟩:=fl₆.first;have I7:g9 X pins σ (c9 H' a (bz0 a C)) {s' with heap:=h₆}:=I6.trackNew hHa new0 hLa hca hpa ⟨⟨oe,ws,he6,hc6,hd6⟩,⟨oe,he6⟩,fun h1 h2 ⟨o1,v1,q1,q2⟩ st=>⟨o1,v1,st o1 q1,q2⟩⟩;have hts':=hts a hHa;refine ag5 I7 hN hi (.inl hk) (show l6 (.ref a) (.ref a) from rfl) (fun s2 I8=> ?_) hf
   refine wpAny_mono (hsu a pins s2 _ _ _ (I8.mark a) hts') (fun f s3 q=> ?_) fun _ _ z=>False.elim z
   cases f with
   |next=>
    obtain ⟨σ',H'',I9,q⟩:=q
    exact bt9 (I9.unmark I1.ok) hN hi hk fun s4 I10=>show SP X pins D .next s4 from ⟨_,_,I10,q⟩
   |ret v=>obtain ⟨_,_,_,_,_,q⟩:=q;exact q.elim
   |brk=>obtain ⟨_,_,_,q⟩:=q;exact q.elim
   |cont=>obtain ⟨_,_,_,q⟩:=q;exact q.elim
 · cases f with
   |next=>exact wpAny_execs_nil q
   |ret v=>exact q
   |brk=>exact q
   |cont=>exact q
end
end L2
namespace L2
open PySem PySem.Spec PyProof.Rows PySem.W PySem.Builtin PySem.Builtin.ObjectAttr PySem.Builtin.Getset_descriptor
section
variable {prog:Program} {w:World} {A:Around} {E:Value->Shared->Prop} {s:Shared} {K:PySem.W.Frag} {a C:Addr}
structure bz2 (K:PySem.W.Frag)(C:Addr):Prop where
 ga:PySem.W.findIn K (.ref C) "__getattribute__"=some (some (.builtin "BaseException.__getattribute__"))
 hook:PySem.W.findIn K (.ref C) "__getattr__"=some none
 cls:PySem.W.findIn K (.ref C) "__class__"=some (some (.builtin "object.__class__"))
 get:PySem.W.specialIn K (.builtin "object.__class__") "__get__"=some (some (.builtin "getset_descriptor.__get__"))
 tak:PySem.W.takesIn K (.builtin "object.__class__")=some true
 bex:PySem.W.mroIn K C (.type "BaseException")=some true
 obj:PySem.W.mroIn K C (.type "object")=some true
 isc:∃oc,K.lookup C=some oc/\∃cd,oc.data= .cls cd
end
theorem bu3 {K:PySem.W.Frag}{C D:Addr}{b:Bool}(h1:PySem.W.isClsIn K D=true)(h2:PySem.W.typeIn K (.ref D)=some (.type "type"))(h3:PySem.W.mroIn K C (.ref D)=some b)(hs:C=D->b=true):PySem.W.kitOne K (.ref C) (.ref D)=some b:=by
 unfold PySem.W.kitOne
 by_cases e:C=D
 · rw[if_pos (by rw[e];exact beq_self_eq_true _),hs e]
 · rw[if_neg (fun q=>e (Value.ref.inj (beq_iff_eq.mp q)))];unfold PySem.W.kitCls
   dsimp only
   rw[if_pos (by rw[cn8];exact ⟨h1,by rw[h2];exact beq_self_eq_true _⟩)];exact h3
theorem bz3 {K:PySem.W.Frag}{C:Addr}(h3:PySem.W.mroIn K C (.type "ValueError")=some true):PySem.W.kitOne K (.ref C) (.type "ValueError")=some true:=by
 unfold PySem.W.kitOne;rw[if_neg (fun q=>by cases beq_iff_eq.mp q)];unfold PySem.W.kitCls
 dsimp only
 rw[if_pos (by decide+kernel)];exact h3
theorem az6 {K:PySem.W.Frag}{C T:Addr}{b:Bool}(h0:PySem.W.mroIn K T (.type "BaseException")=some true)(h1:PySem.W.isClsIn K T=true)(h2:PySem.W.typeIn K (.ref T)=some (.type "type"))(h3:PySem.W.mroIn K C (.ref T)=some b):PySem.W.exmOne K (.ref C) (.ref T)=some b:=by
 unfold PySem.W.exmOne;rw[if_pos (show (PySem.W.subIn K (.ref T) (.type "BaseException")==some true)=true from beq_iff_eq.mpr h0)];unfold PySem.W.kitCls
 dsimp only
 rw[if_pos (by rw[cn8];exact ⟨h1,by rw[h2];exact beq_self_eq_true _⟩)];exact h3
theorem bu4 {K:PySem.W.Frag}{C:Addr}(ga:PySem.W.findIn K (.ref C) "__getattribute__"=some (some (.builtin "BaseException.__getattribute__")))(hook:PySem.W.findIn K (.ref C) "__getattr__"=some none)(cls:PySem.W.findIn K (.ref C) "__class__"=some (some (.builtin "object.__class__")))
   (get:PySem.W.specialIn K (.builtin "object.__class__") "__get__"=some (some (.builtin "getset_descriptor.__get__"))) (tak:PySem.W.takesIn K (.builtin "object.__class__")=some true) (bex:PySem.W.mroIn K C (.type "BaseException")=some true) (obj:PySem.W.mroIn K C (.type "object")=some true) (isc:PySem.W.isClsIn K C=true):bz2 K C:=
 ⟨ga,hook,cls,get,tak,bex,obj,by
   obtain ⟨cd,h⟩:=cx3.mp (show (PySem.W.clsIn K C).isSome=true from isc);unfold PySem.W.clsIn at h
   split at h
   · rename_i ho;exact ⟨_,ho,_,rfl⟩
   · cases h⟩
structure au1 (K:PySem.W.Frag)(mg:Str->Option Value)(T:Addr)(cs:List (Str×Addr)):Prop where
 top:mg "TurnError"=some (.ref T)
 err:∀p∈cs,Err K mg p.1 p.2
 inst:∀p∈cs,bz2 K p.2
 exm:∀p∈cs,PySem.W.exmOne K (.ref p.2) (.ref T)=some true
 ve:∀p∈cs,PySem.W.kitOne K (.ref p.2) (.type "ValueError")=some true
 pair:∀p∈cs,∀q∈cs,PySem.W.kitOne K (.ref p.2) (.ref q.2)=some (decide (p.1=q.1))
 exq:∀p∈cs,∀q∈cs,PySem.W.exmOne K (.ref p.2) (.ref q.2)=some (decide (p.1=q.1))
end L2
namespace L2
open PySem PySem.Spec PyProof.Rows
def ah4 (a b:Sp):Sp:=fun vs H Q E=>a vs H Q E\/b vs H Q E
section
variable {P:Program} {w:World} {K:PySem.W.Frag} {mg:Str->Option Value} {base:Heap} {CX:Q4} {k:Nat} {f:Addr} {fd:FuncData} {ps:List Str} {a b:Sp}
theorem br6 (x:j9 P w K mg base CX k f fd ps a)(y:j9 P w K mg base CX k f fd ps b):j9 P w K mg base CX k f fd ps (ah4 a b):=
 ⟨fun vs H Q E h=>h.elim (x.len vs H Q E) (y.len vs H Q E),fun A outer s H args us vs Q E r e bt v h=>h.elim (x.run A outer s H args us vs Q E r e bt v) (y.run A outer s H args us vs Q E r e bt v)⟩
theorem br7 {x:Str}(c:p6 P w K mg base x k ps (ah4 a b)):p6 P w K mg base x k ps a:=by
 obtain ⟨f,fd,h1,h2,h3,h4⟩:=c;exact ⟨f,fd,h1,h2,h3,h4.imp fun vs H Q E z=> .inl z⟩
end
theorem bz4 (K:PySem.W.Frag){a b:String}(h0:((Value.type a==Value.type b)=true)->False)(h1:PySem.W.kitMeta b=true)(h2:(fastBuiltinMro a).map (·.contains (Value.type b))=some false):PySem.W.kitOne K (.type a) (.type b)=some false:=by
 unfold PySem.W.kitOne PySem.W.kitCls;rw[if_neg h0];show (if PySem.W.kitMeta b=true then (fastBuiltinMro a).map (·.contains (Value.type b)) else none)=some false;rw[if_pos h1];exact h2
theorem aq4 (K:PySem.W.Frag):PySem.W.kitOne K (.type "NoneType") (.type "list")=some false:=bz4 K (by decide+kernel) (by decide+kernel) (by decide+kernel)
end L2
namespace HT
open PySem PySem.Spec PyProof.Rows
open PySem.AutoSeq1
open PySem.MeetsSeq PySem.MeetsSeq2 PySem.MeetsSeq3
theorem am2 {xs:Array Value}{i:Nat}{x:Value}{r:List Value}(h:xs.toList.drop i=x::r):xs[((i:Nat):Int).toNat]? =some x/\xs.toList.drop (i+1)=r/\i < xs.size:=by
 have hl:i < xs.size:=by
   rcases Nat.lt_or_ge i xs.size with z|z
   · exact z
   · rw[cu4 (by simpa using z)] at h;cases h
 refine ⟨?_,?_,hl⟩
 · rw[cm2,<-cm5];have:=congrArg List.head? h;rw[List.head?_drop] at this
   simpa using this
 · have:=congrArg List.tail h;rw[List.tail_drop] at this;exact this
theorem au2 {xs:Array Value}{i:Nat}(h:xs.toList.drop i=[]):xs[((i:Nat):Int).toNat]? =none/\xs.size<=i:=by
 have hl:xs.size<=i:=by
   have:=congrArg List.length h;rw[cn4] at this;simp at this;omega
 exact ⟨by rw[cm2];simp [hl],hl⟩
abbrev bc8 (h:Heap)(a:Addr)(xs:Array Value)(n:Nat):Prop:=h.get? a=some {cls:= .type "list",dict:=none,data:= .seq xs n,slots:= #[]}
theorem bu5 (l b:Addr)(items items2:Array Value)(n n2:Nat):∀(ns ms:List Int) (vs ws:List Value) (i:Nat),IntsAre vs ns->IntsAre ws ms->items.toList.drop i=vs->items2.toList.drop i=ws->i<=items.size->i<=items2.size->
   Meets (Builtin.«list.__eq__.loop» ⟨[.ref l,.ref b,rawInt i,rawInt 0],[]⟩)
     (fun _ R s=>(bc8 s.heap l items n/\bc8 s.heap b items2 n2)/\R (.ok (.ret (.bool (ad5 ns ms)))) s):=by
 intro ns
 induction ns with
 |nil=>
  intro ms vs ws i hv hw e1 e2 i1 i2 prog w A R s h;obtain ⟨h0,g0,d0,k0,o0⟩:=s;obtain ⟨⟨hx,hy⟩,h⟩:=h;cases hv;obtain ⟨g1,z1⟩:=au2 e1
  wp_walk using wpAny_loadPart' hx,wpAny_loadPart' hy
  rw[g1]
  cases hw with
  |nil=>
   obtain ⟨g2,z2⟩:=au2 e2
   wp_walk using wpAny_loadPart' hx,wpAny_loadPart' hy
   show R (.ok (.ret (.bool (decide (items.size < items2.size))))) _;rw[decide_eq_false (by omega)];exact h
  |cons c u hw'=>
   obtain ⟨g2,_,z2⟩:=am2 e2
   wp_walk using wpAny_loadPart' hx,wpAny_loadPart' hy
   show R (.ok (.ret (.bool (decide (items.size < items2.size))))) _;rw[decide_eq_true (by omega)];exact h
 |cons a ns ih=>
  intro ms vs ws i hv hw e1 e2 i1 i2 prog w A R s h;obtain ⟨h0,g0,d0,k0,o0⟩:=s;obtain ⟨⟨hx,hy⟩,h⟩:=h
  cases hv with
  |cons _ t hv'=>
   obtain ⟨g1,d1,z1⟩:=am2 e1
   wp_walk using wpAny_loadPart' hx,wpAny_loadPart' hy
   rw[g1]
   cases hw with
   |nil=>
    obtain ⟨g2,z2⟩:=au2 e2;rw[g2]
    wp_walk using wpAny_loadPart' hx,wpAny_loadPart' hy
    show R (.ok (.ret (.bool (decide (items.size < items2.size))))) _;rw[decide_eq_false (by omega)];exact h
   |cons c u hw'=>
    obtain ⟨g2,d2,z2⟩:=am2 e2;rw[g2];rw[bc0] at h;obtain ⟨e,he,hiff⟩:=bm4 A.in1 ⟨h0,g0,d0,k0,o0⟩ a t c u;refine wpAny_bind (he prog w _ _ ?_)
    cases e with
    |true=>
     rw[if_pos (hiff.mp rfl)] at h
     wp_walk
     rw[show ((i:Int)+1)=((i+1:Nat):Int) from rfl];refine ⟨plainId_quiet plain_eq_loop _,codeAny_builtin entry_eq_loop ?_⟩
     (rw[Around.under_plainId plain_eq_loop _];exact ih _ _ _ (i+1) hv' hw' d1 d2 (by omega) (by omega) prog w A R _ ⟨⟨hx,hy⟩,h⟩)
    |false=>
     rw[if_neg (fun q=>absurd (hiff.mpr q) ck1)] at h;have less:=bm5 A.in1 ⟨h0,g0,d0,k0,o0⟩ a t c u prog w
     wp_walk using wpAny_loadPart' hx,wpAny_loadPart' hy
     rw[g1,g2]
     wp_walk using less
     exact h
theorem bz5 (l b:Addr)(items items2:Array Value)(n n2:Nat)(ns ms:List Int)(hi:IntsAre items.toList ns)(hj:IntsAre items2.toList ms):
   Meets (Builtin.«list.__lt__» ⟨[.ref l,.ref b],[]⟩)
     (fun _ R s=>(bc8 s.heap l items n/\bc8 s.heap b items2 n2)/\R (.ok (.ret (.bool (ad5 ns ms)))) s):=by
 intro prog w A R s h;obtain ⟨h0,g0,d0,k0,o0⟩:=s;obtain ⟨⟨hx,hy⟩,h⟩:=h;have sub:=AutoSeq1.sub_list_list
 wp_walk using wpAny_loadPart' hx,wpAny_loadPart' hy
 refine ⟨plainId_quiet plain_eq_loop _,codeAny_builtin entry_eq_loop ?_⟩
 (rw[Around.under_plainId plain_eq_loop _];exact bu5 l b items items2 n n2 ns ms _ _ 0 hi hj rfl rfl (cl4 _) (cl4 _) prog w A R _ ⟨⟨hx,hy⟩,h⟩)
end HT
namespace L2
open PySem PySem.Spec PyProof.Rows
section
variable {prog:Program} {w:World} {A:Around} {E:Value->Shared->Prop} {s:Shared}
def V2 (h:Heap)(v:Value)(ns:List Int):Prop:=∃p xs n,v= .ref p/\HT.bc8 h p xs n/\IntsAre xs.toList ns
theorem aj8 {α β:Type}{f:α->Sem β}(g:α->β):∀{vs:List α} {Q:List β->Shared->Prop},(∀v,v∈vs->∀R:β->Shared->Prop,R (g v) s->wpAny (model prog w) A (f v) R E s)->Q (vs.map g) s->wpAny (model prog w) A (vs.mapM f) Q E s
 |[],Q,_,q=>by rw[List.mapM_nil];exact wpAny_pure q
 |v::vs,Q,k,q=>by
  rw[List.mapM_cons];refine wpAny_bind (k v (cj5 ..) _ ?_);refine wpAny_bind (aj8 g (fun u hu=>k u (cj8 _ hu)) ?_);exact wpAny_pure q
theorem au3 {α β:Type}{f:α->Sem β}(g:α->β){vs:List α}{Q:Array β->Shared->Prop}(k:∀v,v∈vs->∀R:β->Shared->Prop,R (g v) s->wpAny (model prog w) A (f v) R E s)(q:Q (vs.map g).toArray s):wpAny (model prog w) A (vs.toArray.mapM f) Q E s:=by
 rw[List.mapM_toArray,map_eq_pure_bind];exact wpAny_bind (aj8 g k (wpAny_pure q))
theorem bc9 (v:Value):firstOfTuple' v=(do
 if (<-typeOf v)!= .type "tuple" then return none
 return (<-Builtin.List.listItems v)[0]?):=rfl
theorem bj3 {v:Value}{ns:List Int}(r:V2 s.heap v ns){Q:Option Value->Shared->Prop}(k:Q none s):wpAny (model prog w) A (firstOfTuple' v) Q E s:=by
 obtain ⟨p,xs,n,rfl,ox,ix⟩:=r;rw[bc9];refine wpAny_bind (wpAny_typeOf (T:="list") ⟨_,ox,rfl⟩ ?_);rw[if_pos (by decide)];exact wpAny_pure k
theorem bo9 {v:Value}{ns:List Int}(r:V2 s.heap v ns){Q:Value->Shared->Prop}(k:Q (.type "list") s):wpAny (model prog w) A (typeOf v) Q E s:=by
 obtain ⟨p,xs,n,rfl,ox,ix⟩:=r;exact wpAny_typeOf (T:="list") ⟨_,ox,rfl⟩ k
theorem bj4 {v₁ v₂:Value}{vs:List Value}{Q:SortKind->Shared->Prop}(r:∀v,v∈v₁::v₂::vs->∃ns,V2 s.heap v ns)(k:Q oneType' s):wpAny (model prog w) A (keyKind' (v₁::v₂::vs).toArray) Q E s:=by
 rw[keyKind'_eq];refine wpAny_bind (au3 (fun _=>none) (fun v hv R q=>by obtain ⟨ns,z⟩:=r v hv;exact bj3 z q) ?_);rw[if_neg (by simp),if_neg (by simp)];rw[oneTypeOnly'_eq];refine wpAny_bind (wpAny_bind (au3 (fun _=>Value.type "list") (fun v hv R q=>by obtain ⟨ns,z⟩:=r v hv;exact bo9 z q) ?_))
 have h0:(List.map (fun _=>Value.type "list") (v₁::v₂::vs)).toArray[0]? =some (Value.type "list"):=by simp
 rw[h0]
 dsimp only
 rw[if_pos (by
   simp only[List.all_toArray,List.all_map,cr0];intro _ _
   rfl)]
 exact wpAny_pure (wpAny_pure k)
theorem ap4 (vs:List Value):(pairsOf vs).map (·.2)=vs.toArray:=by
 apply Array.toList_inj.mp
 rw[cx5,pairsOf_toList];exact List.map_snd_zip (cj1 _)
end
end L2
namespace TS
open PySem PyProof.Rows
section
variable (rk:Keyed->Nat)
def R (xs:Array Keyed)(i:Nat):Nat:=match xs[i]? with
 |some p=>rk p
 |none=>0
def Up (xs:Array Keyed)(lo hi:Nat):Prop:=∀i j,lo<=i->i<=j->j < hi->R rk xs i<=R rk xs j
def am3 (xs:Array Keyed)(lo hi:Nat):Prop:=∀i j,lo<=i->i<=j->j < hi->R rk xs j<=R rk xs i
end
def t8 (xs ys:Array Keyed)(lo hi:Nat):Prop:=∀k,k < lo\/hi<=k->ys[k]? =xs[k]?
theorem t8.refl (xs:Array Keyed)(lo hi:Nat):t8 xs xs lo hi:=fun _ _=>rfl
theorem t8.trans {xs ys zs:Array Keyed}{lo hi:Nat}(h:t8 xs ys lo hi)(g:t8 ys zs lo hi):t8 xs zs lo hi:=fun k hk=>(g k hk).trans (h k hk)
theorem t8.wide {xs ys:Array Keyed}{lo hi lo' hi':Nat}(h:t8 xs ys lo hi)(h1:lo'<=lo)(h2:hi<=hi'):t8 xs ys lo' hi':=fun k hk=>h k (by omega)
section
variable {rk:Keyed->Nat}
theorem am4 {xs ys:Array Keyed}{i j:Nat}(h:xs[i]? =ys[j]?):R rk xs i=R rk ys j:=by unfold R;rw[h]
theorem t8.R {xs ys:Array Keyed}{lo hi k:Nat}(h:t8 xs ys lo hi)(hk:k < lo\/hi<=k):TS.R rk ys k=TS.R rk xs k:=am4 (h k hk)
theorem t8.up {xs ys:Array Keyed}{lo hi a b:Nat}(h:t8 xs ys lo hi)(u:Up rk xs a b)(hk:b<=lo\/hi<=a):Up rk ys a b:=fun i j h1 h2 h3=>by
 rw[h.R (by omega),h.R (by omega)];exact u i j h1 h2 h3
theorem au4 {xs:Array Keyed}{src d:Nat}(hs:src < xs.size)(hd:d<=src)(k:Nat):
   R rk (bubble xs src d) k=if k=src - d then R rk xs src else if src - d < k/\k<=src then R rk xs (k - 1) else R rk xs k:=by
 have e:=getElem?_bubble hs d hd k
 split
 · rename_i h;rw[if_pos h] at e;exact am4 e
 · rename_i h;rw[if_neg h] at e
   split
   · rename_i h2;rw[if_pos h2] at e;exact am4 e
   · rename_i h2;rw[if_neg h2] at e;exact am4 e
theorem ax7 {xs:Array Keyed}{src d lo hi:Nat}(hs:src < xs.size)(hd:d<=src)(h1:lo<=src - d)(h2:src < hi):t8 xs (bubble xs src d) lo hi:=fun k hk=>by
 rw[getElem?_bubble hs d hd k,if_neg (by omega),if_neg (by omega)]
theorem ah5 {xs:Array Keyed}{i j:Nat}(hj:j<=xs.size)(k:Nat):R rk (mirror xs i j ((j - i)/2)) k=if i<=k/\k < j then R rk xs (i+j - 1 - k) else R rk xs k:=by
 have e:=getElem?_mirror_all (i:=i) hj k
 split
 · rename_i h;rw[if_pos h] at e;exact am4 e
 · rename_i h;rw[if_neg h] at e;exact am4 e
theorem O4 {xs:Array Keyed}{i j lo hi:Nat}(hj:j<=xs.size)(h1:lo<=i)(h2:j<=hi):t8 xs (mirror xs i j ((j - i)/2)) lo hi:=fun k hk=>by
 rw[getElem?_mirror_all hj k,if_neg (by omega)]
theorem G5 {xs:Array Keyed}{i j:Nat}(hj:j<=xs.size)(h:∀k,i<=k->k < j->R rk xs k=R rk xs (j - 1))(k:Nat):R rk (mirror xs i j ((j - i)/2)) k=R rk xs k:=by
 rw[ah5 hj]
 split
 · rw[h _ (by omega) (by omega),h k (by omega) (by omega)]
 · rfl
end
structure Bs (a0:Array Keyed)(κ:SortKind)(st:SortSt):Prop where
 perm:(arrOf st).Perm a0
 kind:kindOf st=κ
 ok:failedOf st=none
theorem Bs.size {a0:Array Keyed}{κ:SortKind}{st:SortSt}(h:Bs a0 κ st):(arrOf st).size=a0.size:=h.perm.size_eq
theorem Bs.set {a0:Array Keyed}{κ:SortKind}{st:SortSt}(h:Bs a0 κ st){xs:Array Keyed}(hp:xs.Perm (arrOf st)):Bs a0 κ (setArr st xs):=⟨hp.trans h.perm,h.kind,h.ok⟩
theorem Bs.mem {a0:Array Keyed}{κ:SortKind}{st:SortSt}(h:Bs a0 κ st){i:Nat}(hi:i < a0.size):∃p,(arrOf st)[i]? =some p/\p∈a0.toList:=by
 have hi':i < (arrOf st).size:=by rw[h.size];exact hi
 exact ⟨(arrOf st)[i],getElem?_pos _ i hi',(cp4.mp h.perm).mem_iff.mp (by simp)⟩
section
variable {prog:Program} {w:World} {A:Around} {E:Value->Shared->Prop} {s:Shared}
def Cm (prog:Program)(w:World)(A:Around)(s:Shared)(κ:SortKind)(rk:Keyed->Nat)(a0:Array Keyed):Prop:=
 ∀x∈a0.toList,∀y∈a0.toList,∀(Q:Bool->Shared->Prop) (E':Value->Shared->Prop),Q (decide (rk x < rk y)) s->wpAny (model prog w) A (keyLt' κ x.1 y.1) Q E' s
variable {rk:Keyed->Nat} {a0:Array Keyed} {κ:SortKind}
theorem aj9 {st:SortSt}{x y:Keyed}{Q:Option Bool->SortSt->Prop}(C:Cm prog w A s κ rk a0)(hk:kindOf st=κ)(hx:x∈a0.toList)(hy:y∈a0.toList)(h:Q (some (decide (rk x < rk y))) st):
   wpS (model prog w) A E s (lt' x y) Q st:=by
 rw[lt'_eq];refine wpS_bind (wpS_get ?_);rw[hk];exact wpS_bind (wpS_lift (wpAny_attempt (C x hx y hy _ _ ⟨rfl,wpS_pure h⟩)))
theorem R5 {st:SortSt}{i j:Nat}{Q:Option Bool->SortSt->Prop}(C:Cm prog w A s κ rk a0)(B:Bs a0 κ st)(hi:i < a0.size)(hj:j < a0.size)(h:Q (some (decide (R rk (arrOf st) i < R rk (arrOf st) j))) st):
   wpS (model prog w) A E s (ltAt' i j) Q st:=by
 obtain ⟨x,ex,mx⟩:=B.mem hi;obtain ⟨y,ey,my⟩:=B.mem hj;rw[ltAt'_eq];refine wpS_bind (wpS_get ?_);show wpS _ _ _ _ (do let u <-elem' (arrOf st) i;let v <-elem' (arrOf st) j;lt' u v) Q st;rw[elem'_eq,elem'_eq,ex,ey];refine wpS_bind (wpS_pure (wpS_bind (wpS_pure (aj9 C B.kind mx my ?_))));unfold R at h;rw[ex,ey] at h;exact h
theorem ak0 {st:SortSt}{i j:Nat}{Q:Unit->SortSt->Prop}(h:Q () (setArr st (mirror (arrOf st) i j ((j - i)/2)))):wpS (model prog w) A E s (reverseSlice' i j) Q st:=by
 rw[reverseSlice'_eq];exact wpS_modify h
theorem bz6 {st:SortSt}{lo n ok:Nat}{Q:Bool->SortSt->Prop}(C:Cm prog w A s κ rk a0)(hn:lo+n<=a0.size)(hok:ok<=n)(B:Bs a0 κ st)(hs:Up rk (arrOf st) lo (lo+ok))
   (h:∀st',Bs a0 κ st'->Up rk (arrOf st') lo (lo+n)->t8 (arrOf st) (arrOf st') lo (lo+n)->pendingOf st'=pendingOf st->Q true st'):wpS (model prog w) A E s (binarySort' lo n ok) Q st:=by
 rw[binarySort'_eq]
 refine wpS_bind (wpS_mono (wpS_forRange (I:=fun k c t=>c=(none,())/\Bs a0 κ t/\Up rk (arrOf t) lo (lo+min k n)/\t8 (arrOf st) (arrOf t) lo (lo+n)/\pendingOf t=pendingOf st)
   (Q:=fun c t=>c=(none,())/\Bs a0 κ t/\Up rk (arrOf t) lo (lo+n)/\t8 (arrOf st) (arrOf t) lo (lo+n)/\pendingOf t=pendingOf st) ?step ?fin ?init) ?post)
 case post=>
   rintro c t ⟨rfl,B',u,k,p⟩;exact wpS_pure (h t B' u k p)
 case init=>
   refine ⟨rfl,B,fun i j h1 h2 h3=> ?_,t8.refl _ _ _,rfl⟩
   by_cases z:ok=0
   · have:i=j:=by omega
     rw[this];exact cj1 _
   · exact hs i j h1 h2 (by omega)
 case fin=>
   rintro c t ⟨hc,B',u,k,p⟩;refine ⟨hc,B',?_,k,p⟩
   rwa [show min (max (max ok 1) n) n=n by omega] at u
 case step=>
   rintro k c t h1 h2 ⟨rfl,B',u,kp,pe⟩;rw[show min k n=k by omega] at u
   refine wpS_bind (wpS_mono (wpS_forRange (I:=fun x c t'=>t'=t/\∃l r,c=(none,l,r)/\l<=r/\r<=k/\r - l<=k - x/\
       (∀i,i < l->R rk (arrOf t) (lo+i)<=R rk (arrOf t) (lo+k))/\(∀i,r<=i->i < k->R rk (arrOf t) (lo+k) < R rk (arrOf t) (lo+i)))
     (Q:=fun c t'=>t'=t/\∃l r,c=(none,l,r)/\l<=k/\(∀i,i < l->R rk (arrOf t) (lo+i)<=R rk (arrOf t) (lo+k))/\(∀i,l<=i->i < k->R rk (arrOf t) (lo+k) < R rk (arrOf t) (lo+i))) ?st2 ?fin2 ?init2) ?post2)
   case init2=>exact ⟨rfl,0,k,rfl,by omega,by omega,by omega,fun i hi=>by omega,fun i h1 h2=>by omega⟩
   case fin2=>
     rintro c t' ⟨rfl,l,r,rfl,a1,a2,a3,a4,a5⟩
     have:l=r:=by omega
     subst this;exact ⟨rfl,l,l,rfl,a2,a4,a5⟩
   case st2=>
     rintro x c t' _ hx ⟨rfl,l,r,rfl,a1,a2,a3,a4,a5⟩
     dsimp only
     by_cases z:l≥r
     · rw[if_pos z]
       have:l=r:=by omega
       subst this;exact wpS_pure ⟨rfl,l,l,rfl,a2,a4,a5⟩
     · rw[if_neg z];refine wpS_bind (R5 C B' (by omega) (by omega) ?_)
       by_cases y:R rk (arrOf t') (lo+k) < R rk (arrOf t') (lo+(l+r)/2)
       · simp only[y,decide_true,if_true];refine wpS_pure ⟨rfl,l,(l+r)/2,rfl,by omega,by omega,by omega,a4,fun i b1 b2=> ?_⟩;have:=u (lo+(l+r)/2) (lo+i) (by omega) (by omega) (by omega);omega
       · simp only[y,decide_false,co8,if_false];refine wpS_pure ⟨rfl,(l+r)/2+1,r,rfl,by omega,by omega,by omega,fun i b1=> ?_,a5⟩;have:=u (lo+i) (lo+(l+r)/2) (by omega) (by omega) (by omega);omega
   case post2=>
     rintro c t' ⟨rfl,l,r,rfl,a1,a2,a3⟩;show wpS _ _ _ _ (do moveDown' (lo+k) (lo+l);pure (ForInStep.yield (none,()))) _ _;rw[moveDown'_eq]
     have hz:lo+k < (arrOf t').size:=by rw[B'.size];omega
     refine wpS_bind (wpS_modify (wpS_pure ⟨rfl,B'.set (bubble_perm _ _ _),?_,kp.trans (ax7 hz (by omega) (by omega) (by omega)),pe⟩));rw[show min (k+1) n=k+1 by omega];intro i j b1 b2 b3;show R rk (bubble (arrOf t') (lo+k) (lo+k - (lo+l))) i<=R rk (bubble (arrOf t') (lo+k) (lo+k - (lo+l))) j
     have f1:∀i,lo<=i->i < lo+l->R rk (arrOf t') i<=R rk (arrOf t') (lo+k):=fun i c1 c2=>by have:=a2 (i - lo) (by omega);rwa [show lo+(i - lo)=i by omega] at this
     have f2:∀i,lo+l<=i->i < lo+k->R rk (arrOf t') (lo+k) < R rk (arrOf t') i:=fun i c1 c2=>by have:=a3 (i - lo) (by omega) (by omega);rwa [show lo+(i - lo)=i by omega] at this
     rw[au4 hz (by omega),au4 hz (by omega),show lo+k - (lo+k - (lo+l))=lo+l by omega]
     repeat' split
     all_goals first
       |(exfalso;omega)
       |exact cj1 _
       |exact f1 _ (by omega) (by omega)
       |exact cm9 (f2 _ (by omega) (by omega))
       |exact u _ _ (by omega) (by omega) (by omega)
end
end TS
namespace TS
open PySem PyProof.Rows
section
variable {prog:Program} {w:World} {A:Around} {E:Value->Shared->Prop} {s:Shared}
variable {rk:Keyed->Nat} {a0:Array Keyed} {κ:SortKind}
theorem bj5 {xs:Array Keyed}{lo x:Nat}(u:Up rk xs lo (lo+x))(x1:1<=x)(h:¬R rk xs (lo+x) < R rk xs (lo+x - 1)):Up rk xs lo (lo+(x+1)):=fun i j h1 h2 h3=>by
 by_cases hj:j < lo+x
 · exact u i j h1 h2 hj
 · have e:j=lo+x:=by omega
   subst e
   by_cases hi:i=lo+x
   · rw[hi];exact cj1 _
   · have:=u i (lo+x - 1) h1 (by omega) (by omega);omega
theorem T3 {xs:Array Keyed}{lo x:Nat}(u:am3 rk xs lo (lo+x))(x1:1<=x)(h:R rk xs (lo+x)<=R rk xs (lo+x - 1)):am3 rk xs lo (lo+(x+1)):=fun i j h1 h2 h3=>by
 by_cases hj:j < lo+x
 · exact u i j h1 h2 hj
 · have e:j=lo+x:=by omega
   subst e
   by_cases hi:i=lo+x
   · rw[hi];exact cj1 _
   · have:=u i (lo+x - 1) h1 (by omega) (by omega);omega
def bp0 (a0:Array Keyed)(κ:SortKind)(rk:Keyed->Nat)(lo nrem:Nat)(st:SortSt)(r:Option Nat)(t:SortSt):Prop:=
 ∃m,r=some m/\Bs a0 κ t/\1<=m/\m<=nrem/\Up rk (arrOf t) lo (lo+m)/\t8 (arrOf st) (arrOf t) lo (lo+nrem)/\pendingOf t=pendingOf st
theorem bz7 {st:SortSt}{lo nrem:Nat}(C:Cm prog w A s κ rk a0)(hn:lo+nrem<=a0.size)(n1:1<=nrem)(B:Bs a0 κ st):wpS (model prog w) A E s (countRun' lo nrem) (bp0 a0 κ rk lo nrem st) st:=by
 rw[countRun'_eq]
 refine wpS_bind (wpS_mono (wpS_forRange (I:=fun x c t=>t=st/\c=(none,x)/\Up rk (arrOf st) lo (lo+x))
   (Q:=fun c t=>t=st/\∃n,c=(none,n)/\1<=n/\n<=nrem/\Up rk (arrOf st) lo (lo+n)/\(n=nrem\/R rk (arrOf st) (lo+n) < R rk (arrOf st) (lo+n - 1))) ?step ?fin
   ⟨rfl,rfl,fun i j h1 h2 h3=>by rw[show i=j by omega];exact cj1 _⟩) ?post)
 case fin=>
   rintro c t ⟨rfl,rfl,u⟩;rw[show max 1 nrem=nrem by omega] at u ⊢;exact ⟨rfl,nrem,rfl,n1,cj1 _,u,.inl rfl⟩
 case step=>
   rintro x c t x1 xn ⟨rfl,rfl,u⟩
   dsimp only
   refine wpS_bind (R5 C B (by omega) (by omega) ?_)
   by_cases y:R rk (arrOf t) (lo+x) < R rk (arrOf t) (lo+x - 1)
   · simp only[y,decide_true,if_true];exact wpS_pure ⟨rfl,x,rfl,x1,by omega,u,.inr y⟩
   · simp only[y,decide_false,co8,if_false];exact wpS_pure ⟨rfl,rfl,bj5 u x1 y⟩
 case post=>
   rintro c t ⟨rfl,n,rfl,m1,mn,u,hor⟩
   dsimp only
   by_cases z:n=nrem
   · rw[if_pos (by simpa using z)];exact wpS_pure ⟨n,rfl,B,m1,mn,u,t8.refl _ _ _,rfl⟩
   · rw[if_neg (by simpa using z)];have lt:=hor.resolve_left z
     suffices D:∀t',Bs a0 κ t'->am3 rk (arrOf t') lo (lo+(n+1))->t8 (arrOf t) (arrOf t') lo (lo+nrem)->pendingOf t'=pendingOf t->wpS (model prog w) A E s _ (bp0 a0 κ rk lo nrem t) t' by
       by_cases g:n > 1
       · rw[if_pos g];refine wpS_bind (R5 C B (by omega) (by omega) ?_)
         by_cases y:R rk (arrOf t) lo < R rk (arrOf t) (lo+n - 1)
         · simp only[y,decide_true,if_true];exact wpS_pure ⟨n,rfl,B,m1,mn,u,t8.refl _ _ _,rfl⟩
         · simp only[y,decide_false,co8,if_false]
           have hz:lo+n<=(arrOf t).size:=by rw[B.size];omega
           have all:∀k,lo<=k->k < lo+n->R rk (arrOf t) k=R rk (arrOf t) (lo+n - 1):=fun k h1 h2=>by
             have a1:=u lo k (by omega) h1 h2;have a2:=u k (lo+n - 1) h1 (by omega) (by omega);omega
           refine wpS_bind (ak0 (D _ (B.set (mirror_perm _ _ _ _)) ?_ (O4 hz (cj1 _) (by omega)) rfl));refine T3 (fun i j h1 h2 h3=> ?_) m1 ?_
           · show R rk (mirror (arrOf t) _ _ _) j<=R rk (mirror (arrOf t) _ _ _) i;rw[G5 hz all,G5 hz all,all i h1 (by omega),all j (by omega) h3];exact cj1 _
           · show R rk (mirror (arrOf t) _ _ _) _<=R rk (mirror (arrOf t) _ _ _) _;rw[G5 hz all,G5 hz all];omega
       · rw[if_neg g];refine D _ B (T3 (fun i j h1 h2 h3=>by rw[show i=j by omega];exact cj1 _) m1 (by omega)) (t8.refl _ _ _) rfl
     intro t1 B1 d1 k1 p1;refine wpS_bind (wpS_lift (wpAny_rule ⟨rfl,?_⟩))
     refine wpS_bind (wpS_mono (wpS_forRange (I:=fun x c t'=>∃q,c=(none,x,q)/\Bs a0 κ t'/\am3 rk (arrOf t') lo (lo+x)/\q+1<=x/\(∀i,lo+x - (q+1)<=i->i < lo+x->R rk (arrOf t') i=R rk (arrOf t') (lo+x - 1))/\t8 (arrOf t) (arrOf t') lo (lo+nrem)/\pendingOf t'=pendingOf t)
       (Q:=fun c t'=>∃x q,c=(none,x,q)/\n+1<=x/\x<=nrem/\Bs a0 κ t'/\am3 rk (arrOf t') lo (lo+x)/\q+1<=x/\(∀i,lo+x - (q+1)<=i->i < lo+x->R rk (arrOf t') i=R rk (arrOf t') (lo+x - 1))/\t8 (arrOf t) (arrOf t') lo (lo+nrem)/\pendingOf t'=pendingOf t) ?step2 ?fin2
       ⟨0,rfl,B1,d1,by omega,(fun i h1 h2=>by rw[show i=lo+(n+1) - 1 by omega]),k1,p1⟩) ?post2)
     case fin2=>
       rintro c t' ⟨q,rfl,B',d,q1,al,k,p⟩;rw[show max (n+1) nrem=nrem by omega] at d q1 al ⊢;exact ⟨nrem,q,rfl,by omega,cj1 _,B',d,q1,al,k,p⟩
     case step2=>
       rintro x c t' x1 xn ⟨q,rfl,B',d,q1,al,k,p⟩
       dsimp only
       have hz:lo+x<=(arrOf t').size:=by rw[B'.size];omega
       refine wpS_bind (R5 C B' (by omega) (by omega) ?_)
       by_cases y:R rk (arrOf t') (lo+x) < R rk (arrOf t') (lo+x - 1)
       · simp only[y,decide_true,if_true]
         by_cases g:q > 0
         · rw[if_pos g];refine wpS_bind (ak0 (wpS_pure ⟨0,rfl,B'.set (mirror_perm _ _ _ _),?_,by omega,(fun i h1 h2=>by rw[show i=lo+(x+1) - 1 by omega]),k.trans (O4 hz (by omega) (by omega)),p⟩));refine T3 (fun i j h1 h2 h3=> ?_) (by omega) ?_
           · show R rk (mirror (arrOf t') _ _ _) j<=R rk (mirror (arrOf t') _ _ _) i;rw[G5 hz al,G5 hz al];exact d i j h1 h2 h3
           · show R rk (mirror (arrOf t') _ _ _) _<=R rk (mirror (arrOf t') _ _ _) _;rw[G5 hz al,G5 hz al];omega
         · rw[if_neg g];exact wpS_pure ⟨0,rfl,B',T3 d (by omega) (by omega),by omega,(fun i h1 h2=>by rw[show i=lo+(x+1) - 1 by omega]),k,p⟩
       · simp only[y,decide_false,co8,if_false];refine wpS_bind (R5 C B' (by omega) (by omega) ?_)
         by_cases g:R rk (arrOf t') (lo+x - 1) < R rk (arrOf t') (lo+x)
         · simp only[g,decide_true,if_true];exact wpS_pure ⟨x,q,rfl,x1,by omega,B',d,q1,al,k,p⟩
         · simp only[g,decide_false,co8,if_false]
           have e:R rk (arrOf t') (lo+x)=R rk (arrOf t') (lo+x - 1):=by omega
           refine wpS_pure ⟨q+1,rfl,B',T3 d (by omega) (by omega),by omega,fun i h1 h2=> ?_,k,p⟩;rw[show lo+(x+1) - 1=lo+x by omega]
           by_cases hi:i=lo+x
           · rw[hi]
           · rw[e];exact al i (by omega) (by omega)
     case post2=>
       rintro c t2 ⟨x,q,rfl,x1,xn,B2,d,q1,al,k2,p2⟩
       dsimp only
       have hz:lo+x<=(arrOf t2).size:=by rw[B2.size];omega
       suffices T:∀t3,Bs a0 κ t3->am3 rk (arrOf t3) lo (lo+x)->t8 (arrOf t) (arrOf t3) lo (lo+nrem)->pendingOf t3=pendingOf t->wpS (model prog w) A E s _ (bp0 a0 κ rk lo nrem t) t3 by
         by_cases g:q > 0
         · rw[if_pos g];refine wpS_bind (ak0 (T _ (B2.set (mirror_perm _ _ _ _)) (fun i j h1 h2 h3=> ?_) (k2.trans (O4 hz (by omega) (by omega))) p2));show R rk (mirror (arrOf t2) _ _ _) j<=R rk (mirror (arrOf t2) _ _ _) i;rw[G5 hz al,G5 hz al];exact d i j h1 h2 h3
         · rw[if_neg g];exact T _ B2 d k2 p2
       intro t3 B3 d3 k3 p3
       have hz3:lo+x<=(arrOf t3).size:=by rw[B3.size];omega
       refine wpS_bind (ak0 ?_);have B4:=B3.set (mirror_perm (arrOf t3) lo (lo+x) ((lo+x - lo)/2))
       have u4:Up rk (arrOf (setArr t3 (mirror (arrOf t3) lo (lo+x) ((lo+x - lo)/2)))) lo (lo+x):=fun i j h1 h2 h3=>by
         show R rk (mirror (arrOf t3) _ _ _) i<=R rk (mirror (arrOf t3) _ _ _) j;rw[ah5 hz3,ah5 hz3,if_pos (by omega),if_pos (by omega)];exact d3 _ _ (by omega) (by omega) (by omega)
       have k4:t8 (arrOf t) (arrOf (setArr t3 (mirror (arrOf t3) lo (lo+x) ((lo+x - lo)/2)))) lo (lo+nrem):=k3.trans (O4 hz3 (cj1 _) (by omega));have p4:pendingOf (setArr t3 (mirror (arrOf t3) lo (lo+x) ((lo+x - lo)/2)))=pendingOf t:=p3;generalize setArr t3 (mirror (arrOf t3) lo (lo+x) ((lo+x - lo)/2))=t4 at B4 u4 k4 p4 ⊢;refine wpS_bind (wpS_mono (wpS_forRange (I:=fun y c t'=>t'=t4/\c=(none,y)/\Up rk (arrOf t4) lo (lo+y)) (Q:=fun c t'=>t'=t4/\∃y,c=(none,y)/\x<=y/\y<=nrem/\Up rk (arrOf t4) lo (lo+y)) ?step3 ?fin3 ⟨rfl,rfl,u4⟩) ?post3)
       case fin3=>
         rintro c t' ⟨rfl,rfl,v⟩;rw[show max x nrem=nrem by omega] at v ⊢;exact ⟨rfl,nrem,rfl,xn,cj1 _,v⟩
       case step3=>
         rintro y c t' y1 yn ⟨rfl,rfl,v⟩
         dsimp only
         refine wpS_bind (R5 C B4 (by omega) (by omega) ?_)
         by_cases g:R rk (arrOf t') (lo+y) < R rk (arrOf t') (lo+y - 1)
         · simp only[g,decide_true,if_true];exact wpS_pure ⟨rfl,y,rfl,y1,by omega,v⟩
         · simp only[g,decide_false,co8,if_false];exact wpS_pure ⟨rfl,rfl,bj5 v (by omega) g⟩
       case post3=>
         rintro c t' ⟨rfl,y,rfl,y1,yn,v⟩;exact wpS_pure ⟨y,rfl,B4,by omega,yn,v,k4,p4⟩
end
end TS
namespace TS
open PySem PyProof.Rows
def gal:Bool->Keyed->Array Keyed->Nat->Nat->Nat->StateT SortSt Sem (Option Nat):=sortPriv%PySem.Builtin.gallop
section
variable {prog:Program} {w:World} {A:Around} {E:Value->Shared->Prop} {s:Shared}
variable {rk:Keyed->Nat} {a0:Array Keyed} {κ:SortKind}
def w9 (rk:Keyed->Nat)(left:Bool)(key:Keyed)(arr:Array Keyed)(base i:Nat):Bool:=if left then decide (R rk arr (base+i) < rk key) else !decide (rk key < R rk arr (base+i))
theorem J0 {left:Bool}{key:Keyed}{arr:Array Keyed}{base n i j:Nat}(u:Up rk arr base (base+n))(h1:i<=j)(h2:j < n)(h:w9 rk left key arr base j=true):w9 rk left key arr base i=true:=by
 have:=u (base+i) (base+j) (by omega) (by omega) (by omega);unfold w9 at h ⊢;cases left
 · simp at h ⊢;omega
 · simp at h ⊢;omega
theorem r9 {arr:Array Keyed}{i:Nat}{st:SortSt}{Q:Keyed->SortSt->Prop}{p:Keyed}(h:arr[i]? =some p)(q:Q p st):wpS (model prog w) A E s (elem' arr i) Q st:=by
 rw[elem'_eq,h];exact wpS_pure q
def In0 (a0 arr:Array Keyed):Prop:=∀x∈arr.toList,x∈a0.toList
theorem In0.at {arr:Array Keyed}(h:In0 a0 arr){i:Nat}(hi:i < arr.size):∃p,arr[i]? =some p/\p∈a0.toList:=⟨arr[i],getElem?_pos _ i hi,h _ (by simp)⟩
theorem B9 {arr:Array Keyed}{i:Nat}{p:Keyed}(h:arr[i]? =some p):R rk arr i=rk p:=by unfold R;rw[h]
theorem X3 {st:SortSt}{left:Bool}{key:Keyed}{arr:Array Keyed}{base n hint:Nat}{Q:Option Nat->SortSt->Prop}(C:Cm prog w A s κ rk a0)(hk:kindOf st=κ)(ia:In0 a0 arr)(ik:key∈a0.toList)(hz:base+n<=arr.size)(hh:hint < n)
   (u:Up rk arr base (base+n)) (h:∀k,k<=n->(∀i,i < k->w9 rk left key arr base i=true)->(∀i,k<=i->i < n->w9 rk left key arr base i=false)->Q (some k) st):wpS (model prog w) A E s (gal left key arr base n hint) Q st:=by
 have by0:∀(i:Nat) (Q':Option Bool->SortSt->Prop),i < n->Q' (some (w9 rk left key arr base i)) st->wpS (model prog w) A E s (do let x <-elem' arr (base+i);if left then lt' x key else return (<-lt' key x).map (!·)) Q' st:=by
   intro i Q' hi q;obtain ⟨p,e,m⟩:=ia.at (show base+i < arr.size by omega);refine wpS_bind (r9 e ?_);unfold w9 at q;rw[B9 e] at q
   cases left with
   |true=>
    rw[if_pos rfl] at q ⊢;exact aj9 C hk m ik q
   |false=>
    rw[if_neg (by decide)] at q ⊢;exact wpS_bind (aj9 C hk ik m (wpS_pure q))
 refine wpS_bind (by0 hint _ hh ?_)
 cases hr:w9 rk left key arr base hint with
 |true=>
  dsimp only
  rw[if_pos rfl]
  refine wpS_bind (wpS_mono (wpS_forRange (I:=fun x c t=>t=st/\∃l o,c=(none,l,o)/\l < o/\l < n - hint/\x+1<=o/\w9 rk left key arr base (hint+l)=true)
    (Q:=fun c t=>t=st/\∃l o,c=(none,l,o)/\l < o/\l < n - hint/\w9 rk left key arr base (hint+l)=true/\(n - hint<=o\/w9 rk left key arr base (hint+o)=false)) ?step ?fin ⟨rfl,0,1,rfl,by omega,by omega,by omega,hr⟩) ?post)
  case fin=>
    rintro c t ⟨rfl,l,o,rfl,a1,a2,a3,a4⟩;exact ⟨rfl,l,o,rfl,a1,a2,a4,.inl (by omega)⟩
  case step=>
    rintro x c t _ xn ⟨rfl,l,o,rfl,a1,a2,a3,a4⟩
    dsimp only
    by_cases z:o≥n - hint
    · rw[if_pos z];exact wpS_pure ⟨rfl,l,o,rfl,a1,a2,a4,.inl z⟩
    · rw[if_neg z];refine wpS_bind (by0 (hint+o) _ (by omega) ?_)
      cases y:w9 rk left key arr base (hint+o) with
      |true=>
       dsimp only
       rw[if_neg (by decide)];exact wpS_pure ⟨rfl,_,_,rfl,by omega,by omega,by omega,y⟩
      |false=>
       dsimp only
       rw[if_pos (by decide)];exact wpS_pure ⟨rfl,l,o,rfl,a1,a2,a4,.inr y⟩
  case post=>
    rintro c t ⟨ht,l,o,rfl,a1,a2,a3,a4⟩;obtain rfl:=ht.symm
    dsimp only
    have le1:hint+l+1<=hint+min o (n - hint):=by omega
    have le2:hint+min o (n - hint)<=n:=by omega
    have b1:∀i,i < hint+l+1->w9 rk left key arr base i=true:=fun i h1=>J0 u (show i<=hint+l by omega) (by omega) a3
    have b2:∀i,hint+min o (n - hint)<=i->i < n->w9 rk left key arr base i=false:=fun i h1 h2=>by
      rcases a4 with a4|a4
      · omega
      · cases y':w9 rk left key arr base i with
        |false=>rfl
        |true=>rw[J0 u (show hint+o<=i by omega) h2 y'] at a4;cases a4
    refine wpS_bind (wpS_mono (wpS_forRange (I:=fun x c t=>t=st/\∃lo hi,c=(none,lo,hi)/\lo<=hi/\hi<=n/\hi - lo<=n - x/\(∀i,i < lo->w9 rk left key arr base i=true)/\(∀i,hi<=i->i < n->w9 rk left key arr base i=false))
      (Q:=fun c t=>t=st/\∃lo hi,c=(none,lo,hi)/\hi<=n/\(∀i,i < hi->w9 rk left key arr base i=true)/\(∀i,hi<=i->i < n->w9 rk left key arr base i=false)) ?stepB ?finB ⟨rfl,_,_,rfl,le1,le2,by omega,b1,b2⟩) ?postB)
    case finB=>
      rintro c t ⟨rfl,lo,hi,rfl,a1,a2,a3,a4,a5⟩;rw[show lo=hi by omega] at a4;exact ⟨rfl,lo,hi,rfl,a2,a4,a5⟩
    case stepB=>
      rintro x c t _ xn ⟨rfl,lo,hi,rfl,a1,a2,a3,a4,a5⟩
      dsimp only
      by_cases z:lo≥hi
      · rw[if_pos z];rw[show lo=hi by omega] at a4;exact wpS_pure ⟨rfl,lo,hi,rfl,a2,a4,a5⟩
      · rw[if_neg z];refine wpS_bind (by0 (lo+(hi - lo)/2) _ (by omega) ?_)
        cases y:w9 rk left key arr base (lo+(hi - lo)/2) with
        |true=>
         dsimp only
         rw[if_pos rfl];exact wpS_pure ⟨rfl,_,_,rfl,by omega,a2,by omega,fun i h1=>J0 u (show i<=lo+(hi - lo)/2 by omega) (by omega) y,a5⟩
        |false=>
         dsimp only
         rw[if_neg (by decide)];refine wpS_pure ⟨rfl,_,_,rfl,by omega,by omega,by omega,a4,fun i h1 h2=> ?_⟩
         cases y':w9 rk left key arr base i with
         |false=>rfl
         |true=>rw[J0 u h1 h2 y'] at y;cases y
    case postB=>
      rintro c t ⟨rfl,lo,hi,rfl,a1,a2,a3⟩;exact wpS_pure (h hi a1 a2 a3)
 |false=>
  dsimp only
  rw[if_neg (by decide)]
  refine wpS_bind (wpS_mono (wpS_forRange (I:=fun x c t=>t=st/\∃l o,c=(none,l,o)/\l < o/\l < hint+1/\x+1<=o/\w9 rk left key arr base (hint - l)=false)
    (Q:=fun c t=>t=st/\∃l o,c=(none,l,o)/\l < o/\l < hint+1/\w9 rk left key arr base (hint - l)=false/\(hint+1<=o\/w9 rk left key arr base (hint - o)=true)) ?step ?fin ⟨rfl,0,1,rfl,by omega,by omega,by omega,hr⟩) ?post)
  case fin=>
    rintro c t ⟨rfl,l,o,rfl,a1,a2,a3,a4⟩;exact ⟨rfl,l,o,rfl,a1,a2,a4,.inl (by omega)⟩
  case step=>
    rintro x c t _ xn ⟨rfl,l,o,rfl,a1,a2,a3,a4⟩
    dsimp only
    by_cases z:o≥hint+1
    · rw[if_pos z];exact wpS_pure ⟨rfl,l,o,rfl,a1,a2,a4,.inl z⟩
    · rw[if_neg z];refine wpS_bind (by0 (hint - o) _ (by omega) ?_)
      cases y:w9 rk left key arr base (hint - o) with
      |false=>
       dsimp only
       rw[if_neg (by decide)];exact wpS_pure ⟨rfl,_,_,rfl,by omega,by omega,by omega,y⟩
      |true=>
       dsimp only
       rw[if_pos rfl];exact wpS_pure ⟨rfl,l,o,rfl,a1,a2,a4,.inr y⟩
  case post=>
    rintro c t ⟨ht,l,o,rfl,a1,a2,a3,a4⟩;obtain rfl:=ht.symm
    dsimp only
    have le1:hint+1 - min o (hint+1)<=hint - l:=by omega
    have le2:hint - l<=n:=by omega
    have b1:∀i,i < hint+1 - min o (hint+1)->w9 rk left key arr base i=true:=fun i h1=>by
      rcases a4 with a4|a4
      · omega
      · exact J0 u (show i<=hint - o by omega) (by omega) a4
    have b2:∀i,hint - l<=i->i < n->w9 rk left key arr base i=false:=fun i h1 h2=>by
      cases y':w9 rk left key arr base i with
      |false=>rfl
      |true=>rw[J0 u h1 h2 y'] at a3;cases a3
    refine wpS_bind (wpS_mono (wpS_forRange (I:=fun x c t=>t=st/\∃lo hi,c=(none,lo,hi)/\lo<=hi/\hi<=n/\hi - lo<=n - x/\(∀i,i < lo->w9 rk left key arr base i=true)/\(∀i,hi<=i->i < n->w9 rk left key arr base i=false))
      (Q:=fun c t=>t=st/\∃lo hi,c=(none,lo,hi)/\hi<=n/\(∀i,i < hi->w9 rk left key arr base i=true)/\(∀i,hi<=i->i < n->w9 rk left key arr base i=false)) ?stepB ?finB ⟨rfl,_,_,rfl,le1,le2,by omega,b1,b2⟩) ?postB)
    case finB=>
      rintro c t ⟨rfl,lo,hi,rfl,a1,a2,a3,a4,a5⟩;rw[show lo=hi by omega] at a4;exact ⟨rfl,lo,hi,rfl,a2,a4,a5⟩
    case stepB=>
      rintro x c t _ xn ⟨rfl,lo,hi,rfl,a1,a2,a3,a4,a5⟩
      dsimp only
      by_cases z:lo≥hi
      · rw[if_pos z];rw[show lo=hi by omega] at a4;exact wpS_pure ⟨rfl,lo,hi,rfl,a2,a4,a5⟩
      · rw[if_neg z];refine wpS_bind (by0 (lo+(hi - lo)/2) _ (by omega) ?_)
        cases y:w9 rk left key arr base (lo+(hi - lo)/2) with
        |true=>
         dsimp only
         rw[if_pos rfl];exact wpS_pure ⟨rfl,_,_,rfl,by omega,a2,by omega,fun i h1=>J0 u (show i<=lo+(hi - lo)/2 by omega) (by omega) y,a5⟩
        |false=>
         dsimp only
         rw[if_neg (by decide)];refine wpS_pure ⟨rfl,_,_,rfl,by omega,by omega,by omega,a4,fun i h1 h2=> ?_⟩
         cases y':w9 rk left key arr base i with
         |false=>rfl
         |true=>rw[J0 u h1 h2 y'] at y;cases y
    case postB=>
      rintro c t ⟨rfl,lo,hi,rfl,a1,a2,a3⟩;exact wpS_pure (h hi a1 a2 a3)
end
end TS
namespace TS
open PySem PyProof.Rows
section
variable {rk:Keyed->Nat}
def Le (rk:Keyed->Nat)(x y:Keyed):Prop:=rk x<=rk y
section
variable {le:Keyed->Keyed->Prop}
def C2 (le:Keyed->Keyed->Prop)(l:List Keyed):Prop:=l.Pairwise le
structure Mi (le:Keyed->Keyed->Prop)(a b out:List Keyed)(i j:Nat):Prop where
 pm:out.Perm (a.take i++b.take j)
 up:C2 le out
 ba:∀x∈out,∀y∈a.drop i,le x y
 bb:∀x∈out,∀y∈b.drop j,le x y
theorem L4 {l m:List Keyed}:C2 le (l++m)↔C2 le l/\C2 le m/\∀x∈l,∀y∈m,le x y:=List.pairwise_append
theorem T4 {l:List Keyed}(h:C2 le l)(i:Nat):C2 le (l.drop i):=List.Pairwise.sublist (List.drop_sublist i l) h
theorem ae4 {l:List Keyed}{i:Nat}{x:Keyed}(h:l[i]? =some x):l.drop i=x::l.drop (i+1):=by
 obtain ⟨hi,e⟩:=ci9.mp h;rw[cq8 hi,e]
theorem am5 {l:List Keyed}{i:Nat}{x:Keyed}(h:l[i]? =some x):l.take (i+1)=l.take i++[x]:=by rw[List.take_succ,h];rfl
theorem N9 (rf:∀x,le x x){l:List Keyed}(s:C2 le l){i:Nat}{x:Keyed}(h:l[i]? =some x):∀y∈l.drop i,le x y:=fun y hy=>by
 have:=T4 s i;rw[ae4 h] at this hy
 rcases ck8.mp hy with e|e
 · rw[e];exact rf _
 · exact (cr4.mp this).1 y e
theorem Mi.pushA (rf:∀x,le x x){a b out:List Keyed}{i j:Nat}{x:Keyed}(h:Mi le a b out i j)(sa:C2 le a)(hx:a[i]? =some x)(hb:∀y∈b.drop j,le x y):Mi le a b (out++[x]) (i+1) j:=by
 have da:=ae4 hx
 have mx:x∈a.drop i:=by rw[da];exact cj5
 refine ⟨?_,?_,?_,?_⟩
 · rw[am5 hx,cl1];refine (h.pm.append_right [x]).trans ?_;rw[cl1];exact List.Perm.append_left _ cp6
 · refine L4.mpr ⟨h.up,cr3 _ _,fun y hy z hz=> ?_⟩;rw[cn2.mp hz];exact h.ba y hy x mx
 · intro y hy z hz
   have hz':z∈a.drop i:=by rw[da];exact cj8 _ hz
   rcases ck7.mp hy with e|e
   · exact h.ba y e z hz'
   · rw[cn2.mp e];exact N9 rf sa hx z hz'
 · intro y hy z hz
   rcases ck7.mp hy with e|e
   · exact h.bb y e z hz
   · rw[cn2.mp e];exact hb z hz
theorem Mi.pushB (rf:∀x,le x x){a b out:List Keyed}{i j:Nat}{x:Keyed}(h:Mi le a b out i j)(sb:C2 le b)(hx:b[j]? =some x)(ha:∀y∈a.drop i,le x y):Mi le a b (out++[x]) i (j+1):=by
 have db:=ae4 hx
 have mx:x∈b.drop j:=by rw[db];exact cj5
 refine ⟨?_,?_,?_,?_⟩
 · rw[am5 hx,<-cl1];exact h.pm.append_right [x]
 · refine L4.mpr ⟨h.up,cr3 _ _,fun y hy z hz=> ?_⟩;rw[cn2.mp hz];exact h.bb y hy x mx
 · intro y hy z hz
   rcases ck7.mp hy with e|e
   · exact h.ba y e z hz
   · rw[cn2.mp e];exact ha z hz
 · intro y hy z hz
   have hz':z∈b.drop j:=by rw[db];exact cj8 _ hz
   rcases ck7.mp hy with e|e
   · exact h.bb y e z hz'
   · rw[cn2.mp e];exact N9 rf sb hx z hz'
theorem au5 {l:List Keyed}{i k:Nat}{x:Keyed}(h:l[i+k]? =some x):(l.take (i+(k+1))).drop i=(l.take (i+k)).drop i++[x]:=by
 have hl:=(ci9.mp h).1;rw[show i+(k+1)=(i+k)+1 by omega,am5 h,cv0 (by rw[cj9];omega)]
theorem Mi.manyA (rf:∀x,le x x){a b out:List Keyed}{i j:Nat}(h:Mi le a b out i j)(sa:C2 le a):∀k,i+k<=a.length->(∀n x,n < k->a[i+n]? =some x->∀y∈b.drop j,le x y)->Mi le a b (out++(a.take (i+k)).drop i) (i+k) j
 |0,_,_=>by rw[cs5,cq1 (by rw[cj9];omega),cm1];exact h
 |k+1,hl,hc=>by
  have e:a[i+k]? =some a[i+k]:=cj0 (by omega);rw[au5 e,<-cl1,show i+(k+1)=i+k+1 by omega];exact (Mi.manyA rf h sa k (by omega) fun n x hn=>hc n x (by omega)).pushA rf sa e (hc k _ (by omega) e)
theorem Mi.manyB (rf:∀x,le x x){a b out:List Keyed}{i j:Nat}(h:Mi le a b out i j)(sb:C2 le b):∀k,j+k<=b.length->(∀n x,n < k->b[j+n]? =some x->∀y∈a.drop i,le x y)->Mi le a b (out++(b.take (j+k)).drop j) i (j+k)
 |0,_,_=>by rw[cs5,cq1 (by rw[cj9];omega),cm1];exact h
 |k+1,hl,hc=>by
  have e:b[j+k]? =some b[j+k]:=cj0 (by omega);rw[au5 e,<-cl1,show j+(k+1)=j+k+1 by omega];exact (Mi.manyB rf h sb k (by omega) fun n x hn=>hc n x (by omega)).pushB rf sb e (hc k _ (by omega) e)
def Mg (le:Keyed->Keyed->Prop)(a b r:List Keyed):Prop:=r.Perm (a++b)/\C2 le r
theorem ac3 (a b out:List Keyed)(i j:Nat)(h:out.Perm (a.take i++b.take j)):(out++a.drop i++b.drop j).Perm (a++b):=by
 have e1:=(h.append_right (a.drop i)).append_right (b.drop j);refine e1.trans ?_
 have e2:((a.take i++b.take j)++a.drop i).Perm (a++b.take j):=by
   rw[cl1];refine (List.Perm.append_left _ cp6).trans ?_;rw[<-cl1,cp7]
 refine (e2.append_right _).trans ?_;rw[cl1,cp7]
theorem Mi.doneB {a b out:List Keyed}{i j:Nat}(h:Mi le a b out i j)(sa:C2 le a)(hj:b.length<=j):Mg le a b (out++a.drop i++b.drop j):=by
 refine ⟨ac3 a b out i j h.pm,?_⟩;rw[cq1 hj,cm1];exact L4.mpr ⟨h.up,T4 sa i,h.ba⟩
theorem Mi.doneA {a b out:List Keyed}{i j:Nat}(h:Mi le a b out i j)(sb:C2 le b)(hi:a.length<=i):Mg le a b (out++a.drop i++b.drop j):=by
 refine ⟨ac3 a b out i j h.pm,?_⟩;rw[cq1 hi,cm1];exact L4.mpr ⟨h.up,T4 sb j,h.bb⟩
theorem Mi.last {a b out:List Keyed}{i j:Nat}(h:Mi le a b out i j)(sa:C2 le a)(sb:C2 le b)(top:∀x∈b.drop j,∀y∈a.drop i,le x y):Mg le a b (out++b.drop j++a.drop i):=by
 constructor
 · refine List.Perm.trans ?_ (ac3 a b out i j h.pm);rw[cl1,cl1];exact List.Perm.append_left _ cp6
 · rw[cl1];refine L4.mpr ⟨h.up,L4.mpr ⟨T4 sb j,T4 sa i,top⟩,fun x hx y hy=> ?_⟩
   rcases ck7.mp hy with e|e
   · exact h.bb x hx y e
   · exact h.ba x hx y e
end
theorem ce1 {xs:Array Keyed}(u:Up rk xs 0 xs.size):C2 (Le rk) xs.toList:=by
 refine ck3.mpr fun i j hi hj hij=> ?_
 have:=u i j (cl4 _) (by omega) (by simpa using hj);rw[B9 (p:=xs.toList[i]) (by simp),B9 (p:=xs.toList[j]) (by simp)] at this;exact this
theorem V3 {xs:Array Keyed}(h:C2 (Le rk) xs.toList):Up rk xs 0 xs.size:=fun i j _ hij hj=>by
 rcases cw4 hij with z|z
 · have:=ck3.mp h i j (by simp;omega) (by simpa using hj) z;rw[B9 (i:=i) (p:=xs.toList[i]'(by simp;omega)) (by simp),B9 (i:=j) (p:=xs.toList[j]'(by simpa using hj)) (by simp)];exact this
 · rw[z];exact cj1 _
end
end TS
namespace TS
open PySem PyProof.Rows
def mLo:Array Keyed->Array Keyed->StateT SortSt Sem (Array Keyed):=sortPriv%PySem.Builtin.mergeLo
section
variable {prog:Program} {w:World} {A:Around} {E:Value->Shared->Prop} {s:Shared}
variable {rk:Keyed->Nat} {a0:Array Keyed} {κ:SortKind}
structure D1 (st t:SortSt):Prop where
 arr:arrOf t=arrOf st
 pend:pendingOf t=pendingOf st
 kind:kindOf t=kindOf st
 ok:failedOf t=failedOf st
theorem D1.refl (st:SortSt):D1 st st:=⟨rfl,rfl,rfl,rfl⟩
def MQ (rk:Keyed->Nat)(a b:Array Keyed)(st:SortSt)(r:Array Keyed)(t:SortSt):Prop:=Mg (Le rk) a.toList b.toList r.toList/\D1 st t
theorem hv {β γ:Type}{F:γ}{K:γ->StateT SortSt Sem β}{Q:β->SortSt->Prop}{st:SortSt}(h:wpS (model prog w) A E s (K F) Q st):wpS (model prog w) A E s (have x:=F;K x) Q st:=h
theorem w5 {β:Type}{c:Prop}[Decidable c]{m n:StateT SortSt Sem β}{Q:β->SortSt->Prop}{st:SortSt}(h1:c->wpS (model prog w) A E s m Q st)(h2:¬c->wpS (model prog w) A E s n Q st):wpS (model prog w) A E s (if c then m else n) Q st:=by
 split
 · exact h1 ‹_›
 · exact h2 ‹_›
theorem br8 {β:Type}{c:Prop}[Decidable c]{m n:StateT SortSt Sem β}{Q:β->SortSt->Prop}{st:SortSt}(h2:¬c->wpS (model prog w) A E s n Q st)(h1:c->wpS (model prog w) A E s m Q st):wpS (model prog w) A E s (if c then m else n) Q st:=w5 h1 h2
theorem bj6 {P:Nat->Prop}{T:Prop}(use:(∀g,P g)->T)(h:∀g,P g):T:=use h
theorem J1 {a b:Nat}(h:(a==b)=true):a=b:=by simpa using h
theorem J9 {a b:Nat}(h:¬(a==b)=true):¬a=b:=by simpa using h
theorem O0 (xs:Array Keyed)(i:Nat):(xs.extract i).toList=xs.toList.drop i:=by rw[Array.toList_extract,cx1,cq2 (by simp)]
theorem J7 (xs:Array Keyed)(i j:Nat):(xs.extract i j).toList=(xs.toList.take j).drop i:=by rw[Array.toList_extract,cx1,List.drop_take]
theorem C9 {xs:Array Keyed}{i:Nat}{x:Keyed}(h:xs[i]? =some x):xs.toList[i]? =some x:=by rw[<-h];simp
theorem bz8 {st:SortSt}{g:Nat}{Q:Unit->SortSt->Prop}(h:Q () (SortSt.mk' (kindOf st) (arrOf st) (pendingOf st) g (failedOf st))):wpS (model prog w) A E s ((sortPriv%PySem.Builtin.setMinGallop) g) Q st:=wpS_modify h
theorem D1.gal {st t:SortSt}(h:D1 st t)(g:Nat):D1 st (SortSt.mk' (kindOf t) (arrOf t) (pendingOf t) g (failedOf t)):=⟨h.arr,h.pend,h.kind,h.ok⟩
theorem bp1 {st0 st:SortSt}{g:Nat}{Q:Unit->SortSt->Prop}(l:D1 st0 st)(h:∀t,D1 st0 t->Q () t):wpS (model prog w) A E s ((sortPriv%PySem.Builtin.setMinGallop) g) Q st:=bz8 (h _ (l.gal g))
theorem bz9 {st:SortSt}{a b:Array Keyed}(C:Cm prog w A s κ rk a0)(hk:kindOf st=κ)(ia:In0 a0 a)(ib:In0 a0 b)(a1:1<=a.size)(b1:1<=b.size)(sa:C2 (Le rk) a.toList)(sb:C2 (Le rk) b.toList)
   (first:∀x,b[0]? =some x->∀y∈a.toList,Le rk x y) (last:∀x∈b.toList,∀y,a[a.size - 1]? =some y->Le rk x y):wpS (model prog w) A E s (mLo a b) (MQ rk a b st) st:=by
 have la:a.toList.length=a.size:=ck2;have lb:b.toList.length=b.size:=ck2;have ua:=V3 sa;have ub:=V3 sb
 have doneB:∀out i j t,Mi (Le rk) a.toList b.toList (cn1 out) i j->D1 st t->b.size<=j->MQ rk a b st (out++a.extract i++b.extract j) t:=fun out i j t m l hj=>by
   refine ⟨?_,l⟩;rw[cl7,cl7,O0,O0];exact m.doneB sa (by omega)
 have doneA:∀out i j t,Mi (Le rk) a.toList b.toList (cn1 out) i j->D1 st t->a.size<=i->MQ rk a b st (out++a.extract i++b.extract j) t:=fun out i j t m l hi=>by
   refine ⟨?_,l⟩;rw[cl7,cl7,O0,O0];exact m.doneA sb (by omega)
 have lastA:∀out i j t,Mi (Le rk) a.toList b.toList (cn1 out) i j->D1 st t->i+1=a.size->MQ rk a b st (out++b.extract j++a.extract i) t:=fun out i j t m l hi=>by
   refine ⟨?_,l⟩;rw[cl7,cl7,O0,O0]
   refine m.last sa sb fun x hx y hy=>last x (List.mem_of_mem_drop hx) y ?_
   have e:a.toList[i]? =some a.toList[i]:=cj0 (by omega);rw[ae4 e,cq1 (by omega)] at hy;rw[cn2.mp hy,show a.size - 1=i by omega,<-cm5];exact e
 have stepB:∀out i j x y,Mi (Le rk) a.toList b.toList (cn1 out) i j->a[i]? =some x->b[j]? =some y->rk y<=rk x->Mi (Le rk) a.toList b.toList (cn1 (out.push y)) i (j+1):=fun out i j x y m hx hy le=>by
   rw[cq9]
   exact m.pushB (fun _=>cj1 _) sb (C9 hy) fun z hz=>cl9 le (N9 (fun _=>cj1 _) sa (C9 hx) z hz)
 have stepA:∀out i j x y,Mi (Le rk) a.toList b.toList (cn1 out) i j->a[i]? =some x->b[j]? =some y->rk x<=rk y->Mi (Le rk) a.toList b.toList (cn1 (out.push x)) (i+1) j:=fun out i j x y m hx hy le=>by
   rw[cq9]
   exact m.pushA (fun _=>cj1 _) sa (C9 hx) fun z hz=>cl9 le (N9 (fun _=>cj1 _) sb (C9 hy) z hz)
 refine wpS_bind (wpS_lift (wpAny_rule ⟨rfl,?_⟩));obtain ⟨b0,eb0,mb0⟩:=ib.at (show 0 < b.size by omega);refine wpS_bind (r9 eb0 ?_)
 have m0:Mi (Le rk) a.toList b.toList (cn1 #[b0]) 0 1:=by
   have e:b.toList[0]? =some b0:=C9 eb0;have n:Mi (Le rk) a.toList b.toList [] 0 0:=⟨List.Perm.refl _,List.Pairwise.nil,(fun x h=>by cases h),(fun x h=>by cases h)⟩
   exact n.pushB (fun _=>cj1 _) sb e fun y hy=>first b0 eb0 y hy
 refine hv (hv (hv ?_))
 by_cases z1:1=b.size
 · rw[if_pos (by simpa using z1)];exact wpS_pure (doneB _ _ _ _ m0 (D1.refl st) (by omega))
 rw[if_neg (by simpa using z1)]
 by_cases z2:0+1=a.size
 · rw[if_pos (by simpa using z2)];exact wpS_pure (lastA _ _ _ _ m0 (D1.refl st) z2)
 rw[if_neg (by simpa using z2)];refine wpS_bind (wpS_get ?_)
 refine wpS_bind (wpS_mono (wpS_forRange (I:=fun x c t=>∃out i j g,c=(none,out,i,j,g)/\Mi (Le rk) a.toList b.toList (cn1 out) i j/\i+1 < a.size/\j < b.size/\x<=i+j/\D1 st t)
   (Q:=fun c t=>∃r,c.1=some r/\MQ rk a b st r t) ?step ?fin ⟨_,_,_,_,rfl,m0,by omega,by omega,by omega,D1.refl st⟩) ?post)
 case post=>
   rintro c t ⟨r,hr,q⟩;obtain ⟨c1,c2⟩:=c;cases hr;exact wpS_pure q
 case fin=>
   rintro c t ⟨out,i,j,g,rfl,m,h1,h2,h3,l⟩;omega
 case step=>
   rintro x c t _ xn ⟨out,i,j,g,rfl,m,h1,h2,h3,l⟩
   refine wpS_bind (wpS_mono (wpS_forRange (I:=fun y c t'=>∃out' i' j' p q,c=(none,out',i',j',p,q)/\t'=t/\Mi (Le rk) a.toList b.toList (cn1 out') i' j'/\i'+1 < a.size/\j' < b.size/\i'+j'=i+j+y)
     (Q:=fun c t'=>(∃r,c.1=some r/\MQ rk a b st r t')\/(∃out' i' j' p q,c=(none,out',i',j',p,q)/\t'=t/\Mi (Le rk) a.toList b.toList (cn1 out') i' j'/\i'+1 < a.size/\j' < b.size/\x+1<=i'+j')) ?step2 ?fin2 ⟨_,_,_,_,_,rfl,rfl,m,h1,h2,rfl⟩) ?post2)
   case fin2=>
     rintro c t' ⟨out',i',j',p,q,rfl,rfl,m',k1,k2,k3⟩;omega
   case step2=>
     rintro y c t' _ yn ⟨out',i',j',p,q,rfl,rfl,m',k1,k2,k3⟩;obtain ⟨u,eu,mu⟩:=ia.at (show i' < a.size by omega);obtain ⟨v,ev,mv⟩:=ib.at k2;refine wpS_bind (r9 ev (wpS_bind (r9 eu (wpS_bind (aj9 C (l.kind.trans hk) mv mu ?_)))))
     by_cases d:rk v < rk u
     · rw[decide_eq_true d]
       dsimp only
       rw[if_pos rfl];have m2:=stepB out' i' j' u v m' eu ev (cm9 d);refine wpS_bind (r9 ev ?_)
       by_cases z:j'+1=b.size
       · rw[if_pos (by simpa using z)];exact wpS_pure (.inl ⟨_,rfl,doneB _ _ _ _ m2 l (by omega)⟩)
       · rw[if_neg (by simpa using z)]
         split
         · exact wpS_pure (.inr ⟨_,_,_,_,_,rfl,rfl,m2,k1,by omega,by omega⟩)
         · exact wpS_pure ⟨_,_,_,_,_,rfl,rfl,m2,k1,by omega,by omega⟩
     · rw[decide_eq_false d]
       dsimp only
       rw[if_neg (by decide)];have m2:=stepA out' i' j' u v m' eu ev (by omega);refine wpS_bind (r9 eu ?_)
       by_cases z:i'+1+1=a.size
       · rw[if_pos (by simpa using z)];exact wpS_pure (.inl ⟨_,rfl,lastA _ _ _ _ m2 l z⟩)
       · rw[if_neg (by simpa using z)]
         split
         · exact wpS_pure (.inr ⟨_,_,_,_,_,rfl,rfl,m2,by omega,k2,by omega⟩)
         · exact wpS_pure ⟨_,_,_,_,_,rfl,rfl,m2,by omega,k2,by omega⟩
   case post2=>
     rintro c t' (⟨r,hr,q⟩|⟨out',i',j',p,q,rfl,rfl,m',k1,k2,k3⟩)
     · obtain ⟨c1,c2⟩:=c;cases hr;exact wpS_pure ⟨r,rfl,q⟩
     · refine wpS_bind (wpS_lift (wpAny_rule ⟨rfl,?_⟩))
       refine wpS_bind (wpS_mono (wpS_forRange (I:=fun y c t2=>∃out2 i2 j2 g2 p q,c=(none,out2,i2,j2,g2,p,q)/\D1 st t2/\Mi (Le rk) a.toList b.toList (cn1 out2) i2 j2/\i2+1 < a.size/\j2 < b.size/\x+1<=i2+j2)
         (Q:=fun c t2=>(∃r,c.1=some r/\MQ rk a b st r t2)\/(∃out2 i2 j2 g2 p q,c=(none,out2,i2,j2,g2,p,q)/\D1 st t2/\Mi (Le rk) a.toList b.toList (cn1 out2) i2 j2/\i2+1 < a.size/\j2 < b.size/\x+1<=i2+j2)) ?step3 ?fin3 ⟨_,_,_,_,_,_,rfl,l,m',k1,k2,k3⟩) ?post3)
       case fin3=>
         rintro c t2 h;exact .inr h
       case post3=>
         rintro c t2 (⟨r,hr,q⟩|⟨out2,i2,j2,g2,p,q,rfl,l2,m2,n1,n2,n3⟩)
         · obtain ⟨c1,c2⟩:=c;cases hr;exact wpS_pure ⟨r,rfl,q⟩
         · refine wpS_bind (bz8 ?_);exact wpS_pure ⟨_,_,_,_,rfl,m2,n1,n2,n3,l2.gal _⟩
       case step3=>
         rintro y c t2 _ yn ⟨out2,i2,j2,g2,p,q,rfl,l2,m2,n1,n2,n3⟩;obtain ⟨v,ev,mv⟩:=ib.at n2
         revert g2
         refine bj6 (fun hB g2=>br8 (fun _=>hB g2) (fun _=>hB (g2 - 1))) ?_;intro gg;refine wpS_bind (bp1 l2 fun t3 l3=> ?_);refine wpS_bind (r9 ev ?_);refine wpS_bind (X3 (base:=i2) (n:=a.size - i2) (hint:=0) C (l3.kind.trans hk) ia mv (show i2+(a.size - i2)<=a.size by omega) (by omega) (fun x y h1 h2 h3=>ua x y (by omega) h2 (by omega)) fun k kn ka kb=> ?_)
         have mA:∀k',k'<=k->Mi (Le rk) a.toList b.toList (cn1 (out2++a.extract i2 (i2+k'))) (i2+k') j2:=fun k' hk'=>by
           rw[cl7,J7]
           refine m2.manyA (fun _=>cj1 _) sa k' (by omega) fun n x hn hx z hz=> ?_
           have h:=ka n (by omega);unfold w9 at h;rw[if_neg (by decide),B9 (p:=x) (by rw[<-cm5];exact hx)] at h
           have hle:rk x<=rk v:=by simpa using h
           exact cl9 hle (N9 (fun _=>cj1 _) sb (C9 ev) z hz)
         have gB:i2+k < a.size->rk v < R rk a (i2+k):=fun h=>by
           have h:=kb k (cj1 _) (by omega);unfold w9 at h;rw[if_neg (by decide)] at h
           simpa using h
         have m3:=mA k (cj1 _);refine w5 (fun kz=> ?_) (fun kz=> ?_);refine w5 (fun z=>wpS_pure (.inl ⟨_,rfl,lastA _ _ _ _ m3 l3 (J1 z)⟩)) (fun z1=> ?_);refine w5 (fun z=>wpS_pure (.inl ⟨_,rfl,doneA _ _ _ _ m3 l3 (cv6 (J1 z).symm)⟩)) (fun z2=> ?_);have z1:¬i2+k+1=a.size:=J9 z1;have z2:¬i2+k=a.size:=J9 z2
         have f1:i2+k+1 < a.size:=by omega
         have f2:x+1<=i2+k+j2:=by omega
         have f3:=gB (by omega);generalize out2++a.extract i2 (i2+k)=out3 at m3 ⊢;generalize i2+k=i3 at m3 f1 f2 f3 ⊢
         rotate_left
         have k0:k=0:=by omega
         subst k0
         have e0:out2++a.extract i2 (i2+0)=out2:=by simp<;>omega
         rw[e0,cs5] at m3
         have f1:i2+1 < a.size:=by omega
         have f2:x+1<=i2+j2:=by omega
         have f3:=gB (by omega);rw[cs5] at f3;clear e0;generalize out2=out3 at m3 ⊢;generalize i2=i3 at m3 f1 f2 f3 ⊢
         rotate_left
         all_goals
           obtain ⟨u3,eu3,mu3⟩:=ia.at (show i3 < a.size by omega);rw[B9 eu3] at f3;refine wpS_bind (r9 ev ?_);have m4:=stepB out3 i3 j2 u3 v m3 eu3 ev (cm9 f3);refine w5 (fun z=>wpS_pure (.inl ⟨_,rfl,doneB _ _ _ _ m4 l3 (cv6 (J1 z).symm)⟩)) (fun z3=> ?_);have z3:¬j2+1=b.size:=J9 z3;refine wpS_bind (r9 eu3 ?_);refine wpS_bind (X3 (base:=j2+1) (n:=b.size - (j2+1)) (hint:=0) C (l3.kind.trans hk) ib mu3 (show j2+1+(b.size - (j2+1))<=b.size by omega) (by omega) (fun x y h1 h2 h3=>ub x y (by omega) h2 (by omega)) fun k' kn' ka' kb'=> ?_)
           have m5:Mi (Le rk) a.toList b.toList (cn1 (out3.push v++b.extract (j2+1) (j2+1+k'))) i3 (j2+1+k'):=by
             rw[cl7,J7]
             refine m4.manyB (fun _=>cj1 _) sb k' (by omega) fun n x hn hx z hz=> ?_
             have h:=ka' n hn;unfold w9 at h;rw[if_pos rfl,B9 (p:=x) (by rw[<-cm5];exact hx)] at h
             have hle:rk x < rk u3:=by simpa using h
             exact cl9 (cm9 hle) (N9 (fun _=>cj1 _) sa (C9 eu3) z hz)
           have gA:j2+1+k' < b.size->rk u3<=R rk b (j2+1+k'):=fun h=>by
             have h:=kb' k' (cj1 _) (by omega);unfold w9 at h;rw[if_pos rfl] at h
             simpa using h
           refine w5 (fun kz'=> ?_) (fun kz'=> ?_);refine w5 (fun z=>wpS_pure (.inl ⟨_,rfl,doneB _ _ _ _ m5 l3 (cv6 (J1 z).symm)⟩)) (fun z4=> ?_);have z4:¬j2+1+k'=b.size:=J9 z4
           have f4:j2+1+k' < b.size:=by omega
           have f5:x+1<=i3+(j2+1+k'):=by omega
           have f6:=gA f4;generalize out3.push v++b.extract (j2+1) (j2+1+k')=out4 at m5 ⊢;generalize j2+1+k'=j4 at m5 f4 f5 f6 ⊢
           rotate_left
           have k0:k'=0:=by omega
           subst k0
           have e0:out3.push v++b.extract (j2+1) (j2+1+0)=out3.push v:=by simp<;>omega
           rw[e0,cs5] at m5
           have f4:j2+1 < b.size:=by omega
           have f5:x+1<=i3+(j2+1):=by omega
           have f6:=gA (by omega);rw[cs5] at f6;clear e0;generalize out3.push v=out4 at m5 ⊢;generalize j2+1=j4 at m5 f4 f5 f6 ⊢
           rotate_left
           all_goals
             obtain ⟨v4,ev4,mv4⟩:=ib.at f4;rw[B9 ev4] at f6;have m6:=stepA out4 i3 j4 u3 v4 m5 eu3 ev4 f6;refine wpS_bind (r9 eu3 ?_);refine w5 (fun z=>wpS_pure (.inl ⟨_,rfl,lastA _ _ _ _ m6 l3 (J1 z)⟩)) (fun z5=> ?_);have z5:¬i3+1+1=a.size:=J9 z5;refine w5 (fun _=> ?_) (fun _=> ?_)
             · exact wpS_pure (.inr ⟨out4.push u3,i3+1,j4,_,_,_,rfl,l3,m6,by omega,f4,by omega⟩)
             · exact wpS_pure ⟨out4.push u3,i3+1,j4,_,_,_,rfl,l3,m6,by omega,f4,by omega⟩
end
end TS
namespace TS
open PySem PyProof.Rows
def mHi:Array Keyed->Array Keyed->StateT SortSt Sem (Array Keyed):=sortPriv%PySem.Builtin.mergeHi
def Ge (rk:Keyed->Nat)(x y:Keyed):Prop:=rk y<=rk x
theorem L5 {rk:Keyed->Nat}{l:List Keyed}(h:C2 (Le rk) l):C2 (Ge rk) l.reverse:=cu8.mpr h
theorem bj7 {rk:Keyed->Nat}{a b r:List Keyed}(h:Mg (Ge rk) b.reverse a.reverse r.reverse):Mg (Le rk) a b r:=by
 obtain ⟨p,u⟩:=h;refine ⟨?_,cu8.mp u⟩
 have e:b.reverse++a.reverse=(a++b).reverse:=by rw[cr1]
 rw[e] at p;exact (cu2 r).symm.trans (p.trans (cu2 _))
theorem D7 {l:List Keyed}{n:Nat}(h:n<=l.length):l.reverse.drop (l.length - n)=(l.take n).reverse:=by
 rw[List.drop_reverse];congr 2;omega
theorem az7 {l:List Keyed}{n:Nat}{x:Keyed}(h1:1<=n)(h:l[n - 1]? =some x):l.reverse[l.length - n]? =some x:=by
 have hl:=(ci9.mp h).1;rw[cu9 (by omega),<-h]
 congr 1
 omega
theorem az8 {l:List Keyed}{m n:Nat}(h1:m<=n)(h:n<=l.length):(l.reverse.take (l.length - n+(n - m))).drop (l.length - n)=((l.take n).drop m).reverse:=by
 rw[List.drop_take,D7 h,Nat.add_sub_cancel_left,List.take_reverse,cj9]
 congr 2
 omega
theorem X4 {rk:Keyed->Nat}{l:List Keyed}{n:Nat}{x:Keyed}(s:C2 (Le rk) l)(h1:1<=n)(h:l[n - 1]? =some x):∀y∈l.take n,rk y<=rk x:=fun y hy=>by
 obtain ⟨hl,e⟩:=ci9.mp h;obtain ⟨i,hi⟩:=cn6.mp hy;have hil:=(ci9.mp hi).1;rw[cj9] at hil;rw[cm0 (by omega),cj0 (by omega)] at hi;have ey:=Option.some.inj hi
 rcases cw4 (show i<=n - 1 by omega) with z|z
 · have:=ck3.mp s i (n - 1) (by omega) hl z;rw[ey,e] at this;exact this
 · subst z;rw[<-ey,e];exact cj1 _
section
variable {prog:Program} {w:World} {A:Around} {E:Value->Shared->Prop} {s:Shared}
variable {rk:Keyed->Nat} {a0:Array Keyed} {κ:SortKind}
def Mh (rk:Keyed->Nat)(a b out:Array Keyed)(na nb:Nat):Prop:=na<=a.size/\nb<=b.size/\Mi (Ge rk) b.toList.reverse a.toList.reverse out.toList (b.size - nb) (a.size - na)
theorem Mh.pushB {a b out:Array Keyed}{na nb:Nat}{x:Keyed}(h:Mh rk a b out na nb)(sb:C2 (Le rk) b.toList)(n1:1<=nb)(hx:b[nb - 1]? =some x)(ha:∀y∈a.toList.take na,rk y<=rk x):Mh rk a b (out.push x) na (nb - 1):=by
 obtain ⟨h1,h2,m⟩:=h;refine ⟨h1,by omega,?_⟩;have lb:b.toList.length=b.size:=ck2;have la:a.toList.length=a.size:=ck2;rw[cq9,show b.size - (nb - 1)=b.size - nb+1 by omega]
 refine m.pushA (fun _=>cj1 _) (L5 sb) ?_ fun y hy=>ha y ?_
 · rw[<-lb];exact az7 n1 (C9 hx)
 · rw[<-la,D7 (by omega)] at hy;exact cr2.mp hy
theorem Mh.pushA {a b out:Array Keyed}{na nb:Nat}{x:Keyed}(h:Mh rk a b out na nb)(sa:C2 (Le rk) a.toList)(n1:1<=na)(hx:a[na - 1]? =some x)(hb:∀y∈b.toList.take nb,rk y<=rk x):Mh rk a b (out.push x) (na - 1) nb:=by
 obtain ⟨h1,h2,m⟩:=h;refine ⟨by omega,h2,?_⟩;have lb:b.toList.length=b.size:=ck2;have la:a.toList.length=a.size:=ck2;rw[cq9,show a.size - (na - 1)=a.size - na+1 by omega]
 refine m.pushB (fun _=>cj1 _) (L5 sa) ?_ fun y hy=>hb y ?_
 · rw[<-la];exact az7 n1 (C9 hx)
 · rw[<-lb,D7 (by omega)] at hy;exact cr2.mp hy
theorem Mh.manyA {a b out:Array Keyed}{na nb m:Nat}(h:Mh rk a b out na nb)(sa:C2 (Le rk) a.toList)(hm:m<=na)(hc:∀n x,m<=n->n < na->a[n]? =some x->∀y∈b.toList.take nb,rk y<=rk x):Mh rk a b (out++(a.extract m na).reverse) m nb:=by
 obtain ⟨h1,h2,mi⟩:=h;refine ⟨by omega,h2,?_⟩;have lb:b.toList.length=b.size:=ck2;have la:a.toList.length=a.size:=ck2
 have:=mi.manyB (fun _=>cj1 _) (L5 sa) (na - m) (by rw[ct1];omega) fun n x hn hx y hy=>hc (na - 1 - n) x (by omega) (by omega) ?_ y ?_
 · rw[<-la,az8 hm (by omega),<-J7,la,show a.size - na+(na - m)=a.size - m by omega] at this;rw[cl7,cs7];exact this
 · rw[cu9 (by omega)] at hx;rw[<-cm5,<-hx]
   congr 1
   omega
 · rw[<-lb,D7 (by omega)] at hy;exact cr2.mp hy
theorem Mh.manyB {a b out:Array Keyed}{na nb m:Nat}(h:Mh rk a b out na nb)(sb:C2 (Le rk) b.toList)(hm:m<=nb)(hc:∀n x,m<=n->n < nb->b[n]? =some x->∀y∈a.toList.take na,rk y<=rk x):Mh rk a b (out++(b.extract m nb).reverse) na m:=by
 obtain ⟨h1,h2,mi⟩:=h;refine ⟨h1,by omega,?_⟩;have lb:b.toList.length=b.size:=ck2;have la:a.toList.length=a.size:=ck2
 have:=mi.manyA (fun _=>cj1 _) (L5 sb) (nb - m) (by rw[ct1];omega) fun n x hn hx y hy=>hc (nb - 1 - n) x (by omega) (by omega) ?_ y ?_
 · rw[<-lb,az8 hm (by omega),<-J7,lb,show b.size - nb+(nb - m)=b.size - m by omega] at this;rw[cl7,cs7];exact this
 · rw[cu9 (by omega)] at hx;rw[<-cm5,<-hx]
   congr 1
   omega
 · rw[<-la,D7 (by omega)] at hy;exact cr2.mp hy
theorem Z1 (xs:Array Keyed)(j:Nat):(xs.extract 0 j).toList=xs.toList.take j:=by rw[J7,cy0]
theorem Mh.done {a b out:Array Keyed}{na nb:Nat}(h:Mh rk a b out na nb)(sa:C2 (Le rk) a.toList)(sb:C2 (Le rk) b.toList)(z:na=0\/nb=0):Mg (Le rk) a.toList b.toList (a.extract 0 na++b.extract 0 nb++out.reverse).toList:=by
 obtain ⟨h1,h2,m⟩:=h;have lb:b.toList.length=b.size:=ck2;have la:a.toList.length=a.size:=ck2;refine bj7 ?_
 have e:(a.extract 0 na++b.extract 0 nb++out.reverse).toList.reverse=out.toList++b.toList.reverse.drop (b.size - nb)++a.toList.reverse.drop (a.size - na):=by
   rw[cl7,cl7,cs7,Z1,Z1,cr1,cr1,cs8,<-la,<-lb,D7 (by omega),D7 (by omega),cl1]
 rw[e]
 rcases z with z|z
 · exact m.doneB (L5 sb) (by rw[ct1];omega)
 · exact m.doneA (L5 sa) (by rw[ct1];omega)
theorem Mh.first {a b out:Array Keyed}{na nb:Nat}(h:Mh rk a b out na nb)(sa:C2 (Le rk) a.toList)(sb:C2 (Le rk) b.toList)(lo:∀x∈a.toList.take na,∀y∈b.toList.take nb,rk y<=rk x):Mg (Le rk) a.toList b.toList (b.extract 0 nb++a.extract 0 na++out.reverse).toList:=by
 obtain ⟨h1,h2,m⟩:=h;have lb:b.toList.length=b.size:=ck2;have la:a.toList.length=a.size:=ck2;refine bj7 ?_
 have e:(b.extract 0 nb++a.extract 0 na++out.reverse).toList.reverse=out.toList++a.toList.reverse.drop (a.size - na)++b.toList.reverse.drop (b.size - nb):=by
   rw[cl7,cl7,cs7,Z1,Z1,cr1,cr1,cs8,<-la,<-lb,D7 (by omega),D7 (by omega),cl1]
 rw[e]
 refine m.last (L5 sb) (L5 sa) fun x hx y hy=> ?_
 rw[<-la,D7 (by omega)] at hx;rw[<-lb,D7 (by omega)] at hy;exact lo x (cr2.mp hx) y (cr2.mp hy)
theorem ca0 {st:SortSt}{a b:Array Keyed}(C:Cm prog w A s κ rk a0)(hk:kindOf st=κ)(ia:In0 a0 a)(ib:In0 a0 b)(a1:1<=a.size)(b1:1<=b.size)(sa:C2 (Le rk) a.toList)(sb:C2 (Le rk) b.toList)
   (first:∀x,b[0]? =some x->∀y∈a.toList,Le rk x y) (last:∀x∈b.toList,∀y,a[a.size - 1]? =some y->Le rk x y):wpS (model prog w) A E s (mHi a b) (MQ rk a b st) st:=by
 have la:a.toList.length=a.size:=ck2;have lb:b.toList.length=b.size:=ck2;have ua:=V3 sa;have ub:=V3 sb;refine wpS_bind (wpS_lift (wpAny_rule ⟨rfl,?_⟩));obtain ⟨x0,ex0,mx0⟩:=ia.at (show a.size - 1 < a.size by omega);refine wpS_bind (r9 ex0 ?_)
 have doneM:∀out na nb t,Mh rk a b out na nb->D1 st t->na=0\/nb=0->MQ rk a b st (a.extract 0 na++b.extract 0 nb++Array.reverse out) t:=fun out na nb t m l z=>⟨m.done sa sb z,l⟩
 have firstM:∀out na nb t,Mh rk a b out na nb->D1 st t->nb=1->MQ rk a b st (b.extract 0 nb++a.extract 0 na++Array.reverse out) t:=fun out na nb t m l z=>by
   refine ⟨m.first sa sb fun x hx y hy=> ?_,l⟩;subst z;obtain ⟨b0,eb0,mb0⟩:=ib.at (show 0 < b.size by omega);have:=X4 sb (cj1 1) (C9 eb0) y hy;exact cl9 this (first b0 eb0 x (cp8 hx))
 have stepA:∀out na nb x y,Mh rk a b out na nb->1<=na->1<=nb->a[na - 1]? =some x->b[nb - 1]? =some y->rk y<=rk x->Mh rk a b (out.push x) (na - 1) nb:=fun out na nb x y m h1 h2 hx hy le=>
   m.pushA sa h1 hx fun z hz=>cl9 (X4 sb h2 (C9 hy) z hz) le
 have stepB:∀out na nb x y,Mh rk a b out na nb->1<=na->1<=nb->a[na - 1]? =some x->b[nb - 1]? =some y->rk x<=rk y->Mh rk a b (out.push y) na (nb - 1):=fun out na nb x y m h1 h2 hx hy le=>
   m.pushB sb h2 hy fun z hz=>cl9 (X4 sa h1 (C9 hx) z hz) le
 have m0:Mh rk a b #[x0] (a.size - 1) b.size:=by
   have n:Mh rk a b #[] a.size b.size:=⟨cj1 _,cj1 _,by rw[cv7,cv7];exact ⟨List.Perm.refl _,List.Pairwise.nil,(fun x h=>by cases h),(fun x h=>by cases h)⟩⟩
   exact n.pushA sa a1 ex0 fun y hy=>last y (cp8 hy) x0 ex0
 refine w5 (fun z=>wpS_pure (doneM _ _ _ _ m0 (D1.refl st) (.inl (J1 z)))) (fun z1=> ?_);have z1:¬a.size - 1=0:=J9 z1;refine w5 (fun z=>wpS_pure (firstM _ _ _ _ m0 (D1.refl st) (J1 z))) (fun z2=> ?_);have z2:¬b.size=1:=J9 z2;refine wpS_bind (wpS_get ?_)
 refine wpS_bind (wpS_mono (wpS_forRange (I:=fun x c t=>∃na nb out g,c=(none,na,nb,out,g)/\Mh rk a b out na nb/\1<=na/\2<=nb/\x+na+nb<=a.size+b.size/\D1 st t)
   (Q:=fun c t=>∃r,c.1=some r/\MQ rk a b st r t) ?step ?fin ⟨_,_,_,_,rfl,m0,by omega,by omega,by omega,D1.refl st⟩) ?post)
 case post=>
   rintro c t ⟨r,hr,q⟩;obtain ⟨c1,c2⟩:=c;cases hr;exact wpS_pure q
 case fin=>
   rintro c t ⟨na,nb,out,g,rfl,m,h1,h2,h3,l⟩;omega
 case step=>
   rintro x c t _ xn ⟨na,nb,out,g,rfl,m,h1,h2,h3,l⟩
   refine wpS_bind (wpS_mono (wpS_forRange (I:=fun y c t'=>∃na' nb' out' p q,c=(none,na',nb',out',p,q)/\t'=t/\Mh rk a b out' na' nb'/\1<=na'/\2<=nb'/\na'+nb'+y=na+nb)
     (Q:=fun c t'=>(∃r,c.1=some r/\MQ rk a b st r t')\/(∃na' nb' out' p q,c=(none,na',nb',out',p,q)/\t'=t/\Mh rk a b out' na' nb'/\1<=na'/\2<=nb'/\x+1+na'+nb'<=a.size+b.size)) ?step2 ?fin2 ⟨_,_,_,_,_,rfl,rfl,m,h1,h2,rfl⟩) ?post2)
   case fin2=>
     rintro c t' ⟨na',nb',out',p,q,rfl,rfl,m',k1,k2,k3⟩;omega
   case step2=>
     rintro y c t' _ yn ⟨na',nb',out',p,q,rfl,rfl,m',k1,k2,k3⟩;obtain ⟨u,eu,mu⟩:=ia.at (show na' - 1 < a.size by have:=m'.1;omega);obtain ⟨v,ev,mv⟩:=ib.at (show nb' - 1 < b.size by have:=m'.2.1;omega);refine wpS_bind (r9 ev (wpS_bind (r9 eu (wpS_bind (aj9 C (l.kind.trans hk) mv mu ?_)))))
     by_cases d:rk v < rk u
     · rw[decide_eq_true d];refine w5 (fun _=> ?_) (fun h=>absurd rfl h);have m2:=stepA out' na' nb' u v m' k1 (by omega) eu ev (cm9 d);refine wpS_bind (r9 eu ?_);refine w5 (fun z=>wpS_pure (.inl ⟨_,rfl,doneM _ _ _ _ m2 l (.inl (J1 z))⟩)) (fun z=> ?_);have z:¬na' - 1=0:=J9 z;refine w5 (fun _=> ?_) (fun _=> ?_)
       · exact wpS_pure (.inr ⟨na' - 1,nb',out'.push u,_,_,rfl,rfl,m2,by omega,k2,by omega⟩)
       · exact wpS_pure ⟨na' - 1,nb',out'.push u,_,_,rfl,rfl,m2,by omega,k2,by omega⟩
     · rw[decide_eq_false d];refine w5 (fun h=>absurd h (by decide)) (fun _=> ?_);have m2:=stepB out' na' nb' u v m' k1 (by omega) eu ev (by omega);refine wpS_bind (r9 ev ?_);refine w5 (fun z=>wpS_pure (.inl ⟨_,rfl,firstM _ _ _ _ m2 l (J1 z)⟩)) (fun z=> ?_);have z:¬nb' - 1=1:=J9 z;refine w5 (fun _=> ?_) (fun _=> ?_)
       · exact wpS_pure (.inr ⟨na',nb' - 1,out'.push v,_,_,rfl,rfl,m2,k1,by omega,by omega⟩)
       · exact wpS_pure ⟨na',nb' - 1,out'.push v,_,_,rfl,rfl,m2,k1,by omega,by omega⟩
   case post2=>
     rintro c t' (⟨r,hr,q⟩|⟨na',nb',out',p,q,rfl,rfl,m',k1,k2,k3⟩)
     · obtain ⟨c1,c2⟩:=c;cases hr;exact wpS_pure ⟨r,rfl,q⟩
     · refine wpS_bind (wpS_lift (wpAny_rule ⟨rfl,?_⟩))
       refine wpS_bind (wpS_mono (wpS_forRange (I:=fun y c t2=>∃na2 nb2 out2 g2 p q,c=(none,na2,nb2,out2,g2,p,q)/\D1 st t2/\Mh rk a b out2 na2 nb2/\1<=na2/\2<=nb2/\x+1+na2+nb2<=a.size+b.size)
         (Q:=fun c t2=>(∃r,c.1=some r/\MQ rk a b st r t2)\/(∃na2 nb2 out2 g2 p q,c=(none,na2,nb2,out2,g2,p,q)/\D1 st t2/\Mh rk a b out2 na2 nb2/\1<=na2/\2<=nb2/\x+1+na2+nb2<=a.size+b.size)) ?step3 ?fin3 ⟨_,_,_,_,_,_,rfl,l,m',k1,k2,k3⟩) ?post3)
       case fin3=>
         rintro c t2 h;exact .inr h
       case post3=>
         rintro c t2 (⟨r,hr,q⟩|⟨na2,nb2,out2,g2,p,q,rfl,l2,m2,n1,n2,n3⟩)
         · obtain ⟨c1,c2⟩:=c;cases hr;exact wpS_pure ⟨r,rfl,q⟩
         · refine wpS_bind (bp1 l2 fun t3 l3=> ?_);exact wpS_pure ⟨_,_,_,_,rfl,m2,n1,n2,n3,l3⟩
       case step3=>
         rintro y c t2 _ yn ⟨na2,nb2,out2,g2,p,q,rfl,l2,m2,n1,n2,n3⟩;have q1:=m2.1;have q2:=m2.2.1;obtain ⟨v,ev,mv⟩:=ib.at (show nb2 - 1 < b.size by omega)
         revert g2
         refine bj6 (fun hB g2=>br8 (fun _=>hB g2) (fun _=>hB (g2 - 1))) ?_;intro gg;refine wpS_bind (bp1 l2 fun t3 l3=> ?_);refine wpS_bind (r9 ev ?_);refine wpS_bind (X3 (base:=0) (n:=na2) (hint:=na2 - 1) C (l3.kind.trans hk) ia mv (by omega) (by omega) (fun x y h1 h2 h3=>ua x y (by omega) h2 (by omega)) fun k kn ka kb=> ?_)
         have m3:Mh rk a b (out2++(a.extract k na2).reverse) k nb2:=m2.manyA sa kn fun n x h1 h2 hx z hz=>by
           have h:=kb n h1 h2;unfold w9 at h;rw[if_neg (by decide),cs4,B9 hx] at h
           have hle:rk v < rk x:=by simpa using h
           exact cl9 (X4 sb (by omega) (C9 ev) z hz) (cm9 hle)
         have gA:1<=k->R rk a (k - 1)<=rk v:=fun h=>by
           have h:=ka (k - 1) (by omega);unfold w9 at h;rw[if_neg (by decide),cs4] at h
           simpa using h
         refine w5 (fun kz=> ?_) (fun kz=> ?_);have kz:na2 - k > 0:=kz;refine w5 (fun z=>wpS_pure (.inl ⟨_,rfl,doneM _ _ _ _ m3 l3 (.inl (J1 z))⟩)) (fun z1=> ?_);have z1:¬k=0:=J9 z1
         have f1:1<=k:=by omega
         have f2:x+1+k+nb2<=a.size+b.size:=by omega
         have f3:=gA f1;generalize out2++(a.extract k na2).reverse=out3 at m3 ⊢
         rotate_left
         have kz:¬na2 - k > 0:=kz
         have k0:k=na2:=by omega
         have e0:out2++(a.extract k na2).reverse=out2:=by rw[k0];simp<;>omega
         rw[e0] at m3
         have f1:1<=k:=by omega
         have f2:x+1+k+nb2<=a.size+b.size:=by omega
         have f3:=gA f1;clear e0;subst k0;generalize out2=out3 at m3 ⊢
         rotate_left
         all_goals
           obtain ⟨u3,eu3,mu3⟩:=ia.at (show k - 1 < a.size by omega);rw[B9 eu3] at f3;refine wpS_bind (r9 ev ?_);have m4:=stepB out3 k nb2 u3 v m3 f1 (by omega) eu3 ev f3;refine w5 (fun z=>wpS_pure (.inl ⟨_,rfl,firstM _ _ _ _ m4 l3 (J1 z)⟩)) (fun z3=> ?_);have z3:¬nb2 - 1=1:=J9 z3;refine wpS_bind (r9 eu3 ?_);refine wpS_bind (X3 (base:=0) (n:=nb2 - 1) (hint:=nb2 - 1 - 1) C (l3.kind.trans hk) ib mu3 (by omega) (by omega) (fun x y h1 h2 h3=>ub x y (by omega) h2 (by omega)) fun k' kn' ka' kb'=> ?_)
           have m5:Mh rk a b (out3.push v++(b.extract k' (nb2 - 1)).reverse) k k':=m4.manyB sb kn' fun n x h1 h2 hx z hz=>by
             have h:=kb' n h1 h2;unfold w9 at h;rw[if_pos rfl,cs4,B9 hx] at h
             have hle:rk u3<=rk x:=by simpa using h
             exact cl9 (X4 sa f1 (C9 eu3) z hz) hle
           have gB:1<=k'->R rk b (k' - 1) < rk u3:=fun h=>by
             have h:=ka' (k' - 1) (by omega);unfold w9 at h;rw[if_pos rfl,cs4] at h
             simpa using h
           refine w5 (fun kz'=> ?_) (fun kz'=> ?_);have kz':nb2 - 1 - k' > 0:=kz';refine w5 (fun z=>wpS_pure (.inl ⟨_,rfl,firstM _ _ _ _ m5 l3 (J1 z)⟩)) (fun z4=> ?_);have z4:¬k'=1:=J9 z4;refine w5 (fun z=>wpS_pure (.inl ⟨_,rfl,doneM _ _ _ _ m5 l3 (.inr (J1 z))⟩)) (fun z5=> ?_);have z5:¬k'=0:=J9 z5
           have f4:2<=k':=by omega
           have f5:x+1+k+k'<=a.size+b.size:=by omega
           have f6:=gB (by omega);generalize out3.push v++(b.extract k' (nb2 - 1)).reverse=out4 at m5 ⊢
           rotate_left
           have kz':¬nb2 - 1 - k' > 0:=kz'
           have k0':k'=nb2 - 1:=by omega
           have e0:out3.push v++(b.extract k' (nb2 - 1)).reverse=out3.push v:=by rw[k0'];simp<;>omega
           rw[e0] at m5
           have f4:2<=k':=by omega
           have f5:x+1+k+k'<=a.size+b.size:=by omega
           have f6:=gB (by omega);clear e0;generalize out3.push v=out4 at m5 ⊢
           rotate_left
           all_goals
             have q3:=m5.2.1;obtain ⟨v4,ev4,mv4⟩:=ib.at (show k' - 1 < b.size by omega);rw[B9 ev4] at f6;have m6:=stepA out4 k k' u3 v4 m5 f1 (by omega) eu3 ev4 (cm9 f6);refine wpS_bind (r9 eu3 ?_)
             first
               |refine w5 (fun z=>wpS_pure (.inl ⟨_,rfl,doneM _ _ _ _ m6 l3 (.inl (J1 z))⟩)) (fun z6=> ?_)
               |(rw[k0'] at m6;refine w5 (fun z=>wpS_pure (.inl ⟨_,rfl,doneM _ _ _ _ m6 l3 (.inl (J1 z))⟩)) (fun z6=> ?_))
             have z6:¬k - 1=0:=J9 z6;refine w5 (fun _=> ?_) (fun _=> ?_)
             · first
                 |exact wpS_pure (.inr ⟨k - 1,k',out4.push u3,_,_,_,rfl,l3,m6,by omega,f4,by omega⟩)
                 |exact wpS_pure (.inr ⟨k - 1,nb2 - 1,out4.push u3,_,_,_,rfl,l3,m6,by omega,by omega,by omega⟩)
             · first
                 |exact wpS_pure ⟨k - 1,k',out4.push u3,_,_,_,rfl,l3,m6,by omega,f4,by omega⟩
                 |exact wpS_pure ⟨k - 1,nb2 - 1,out4.push u3,_,_,_,rfl,l3,m6,by omega,by omega,by omega⟩
end
end TS
namespace TS
open PySem PyProof.Rows
section
variable {rk:Keyed->Nat}
def C3 (xs:Array Keyed)(lo hi:Nat):List Keyed:=(xs.toList.take hi).drop lo
theorem E7 {xs:Array Keyed}{lo hi:Nat}(h:hi<=xs.size):(C3 xs lo hi).length=hi - lo:=by unfold C3;rw[cn4,cj9];simp;omega
theorem D8 {xs:Array Keyed}{lo hi i:Nat}(hi':lo+i < hi):(C3 xs lo hi)[i]? =xs[lo+i]? :=by
 unfold C3;rw[ct7,cm0 hi',cm5]
theorem ae5 {xs:Array Keyed}{lo hi:Nat}(u:Up rk xs lo hi)(h:hi<=xs.size):C2 (Le rk) (C3 xs lo hi):=by
 refine ck3.mpr fun i j h1 h2 hij=> ?_
 have l:=E7 (lo:=lo) h;have e1:(C3 xs lo hi)[i]? =some (C3 xs lo hi)[i]:=cj0 h1;have e2:(C3 xs lo hi)[j]? =some (C3 xs lo hi)[j]:=cj0 h2;rw[D8 (by omega)] at e1 e2;have:=u (lo+i) (lo+j) (by omega) (by omega) (by omega);rw[B9 e1,B9 e2] at this;exact this
theorem ca1 {xs:Array Keyed}{lo hi:Nat}(s:C2 (Le rk) (C3 xs lo hi))(h:hi<=xs.size):Up rk xs lo hi:=fun i j h1 h2 h3=>by
 have l:=E7 (lo:=lo) h
 rcases cw4 h2 with z|z
 · have:=ck3.mp s (i - lo) (j - lo) (by omega) (by omega) (by omega);have e1:(C3 xs lo hi)[i - lo]? =some (C3 xs lo hi)[i - lo]:=cj0 (by omega);have e2:(C3 xs lo hi)[j - lo]? =some (C3 xs lo hi)[j - lo]:=cj0 (by omega);rw[D8 (by omega),show lo+(i - lo)=i by omega] at e1;rw[D8 (by omega),show lo+(j - lo)=j by omega] at e2;rw[B9 e1,B9 e2];exact this
 · rw[z];exact cj1 _
theorem O1 {xs:Array Keyed}{lo hi:Nat}{x:Keyed}(h:hi<=xs.size)(hx:x∈C3 xs lo hi):∃i,lo<=i/\i < hi/\xs[i]? =some x:=by
 obtain ⟨i,hi'⟩:=cn6.mp hx;have l:=E7 (lo:=lo) h;have:=(ci9.mp hi').1;exact ⟨lo+i,by omega,by omega,by rw[<-D8 (hi:=hi) (by omega)];exact hi'⟩
theorem O2 {xs:Array Keyed}{a b c:Nat}(h1:a<=b)(h2:b<=c)(h:c<=xs.size):C3 xs a b++C3 xs b c=C3 xs a c:=by
 refine cm3 fun i=> ?_
 by_cases z:i < b - a
 · rw[cm6 (by rw[E7 (by omega)];omega),D8 (by omega),D8 (by omega)]
 · rw[cm8 (by rw[E7 (by omega)];omega),E7 (by omega)]
   by_cases y:i < c - a
   · rw[D8 (by omega),D8 (by omega)];congr 1;omega
   · rw[cj3 (by rw[E7 h];omega),cj3 (by rw[E7 h];omega)]
theorem az9 (xs:Array Keyed):C3 xs 0 xs.size=xs.toList:=by
 unfold C3;rw[cy0,cq2 (by simp)]
def wr (p:Nat)(l:List (Keyed×Nat))(xs:Array Keyed):Array Keyed:=l.foldl (fun a q=>a.setIfInBounds (p+q.2) q.1) xs
theorem X5 (p:Nat):∀(l:List (Keyed×Nat)) (xs:Array Keyed),(wr p l xs).size=xs.size
 |[],xs=>rfl
 |q::l,xs=>(X5 p l _).trans (by simp)
theorem au6 (p:Nat):∀(m:List Keyed) (n:Nat) (xs:Array Keyed),p+n+m.length<=xs.size->∀k,(wr p (m.zipIdx n) xs)[k]? =if p+n<=k/\k < p+n+m.length then m[k - (p+n)]? else xs[k]?
 |[],n,xs,_,k=>by
  show xs[k]? =_;rw[if_neg (by simp)]
 |x::m,n,xs,h,k=>by
  rw[cl0] at h ⊢;show (wr p (m.zipIdx (n+1)) (xs.setIfInBounds (p+n) x))[k]? =_;rw[au6 p m (n+1) _ (by rw[Array.size_setIfInBounds];omega) k,Array.getElem?_setIfInBounds]
  by_cases z:k=p+n
  · subst z;rw[if_neg (by omega),if_pos rfl,if_pos (by omega),if_pos (by omega),cv7];rfl
  · by_cases y:p+n<=k/\k < p+n+(m.length+1)
    · rw[if_pos (by omega),if_pos y,show k - (p+n)=k - (p+(n+1))+1 by omega];rfl
    · rw[if_neg (by omega),if_neg (by omega),if_neg y]
theorem bj8 {m:List Keyed}{p:Nat}{xs:Array Keyed}(h:p+m.length<=xs.size):C3 (wr p m.zipIdx xs) p (p+m.length)=m:=by
 refine cm3 fun i=> ?_
 by_cases z:i < m.length
 · rw[D8 (by omega),au6 p m 0 xs h,if_pos (by omega)]
   congr 1;omega
 · rw[cj3 (by rw[E7 (by rw[X5];omega)];omega),cj3 (by omega)]
theorem ba0 {m:List Keyed}{p:Nat}{xs:Array Keyed}(h:p+m.length<=xs.size):t8 xs (wr p m.zipIdx xs) p (p+m.length):=fun k hk=>by
 rw[au6 p m 0 xs h,if_neg (by omega)]
theorem Z2 {xs ys:Array Keyed}{lo hi a b:Nat}(hz:ys.size=xs.size)(k:t8 xs ys lo hi)(h:b<=lo\/hi<=a)(hb:b<=xs.size):C3 ys a b=C3 xs a b:=by
 refine cm3 fun i=> ?_
 by_cases z:a+i < b
 · rw[D8 z,D8 z];exact k _ (by omega)
 · rw[cj3 (by rw[E7 (by omega)];omega),cj3 (by rw[E7 hb];omega)]
theorem bu6 {m:List Keyed}{p:Nat}{xs:Array Keyed}(h:p+m.length<=xs.size)(pm:m.Perm (C3 xs p (p+m.length))):(wr p m.zipIdx xs).Perm xs:=by
 rw[cp4,<-az9 xs,<-az9 (wr p m.zipIdx xs),X5];have hk:=ba0 h;have hs:=X5 p m.zipIdx xs;rw[<-O2 (cl4 p) (show p<=xs.size by omega) (cj1 _),<-O2 (show p<=p+m.length by omega) (show p+m.length<=xs.size by omega) (cj1 _)];rw[<-O2 (xs:=wr p m.zipIdx xs) (cl4 p) (show p<=xs.size by omega) (by omega),<-O2 (xs:=wr p m.zipIdx xs) (show p<=p+m.length by omega) (show p+m.length<=xs.size by omega) (by omega)];rw[Z2 hs hk (.inl (cj1 _)) (by omega),Z2 hs hk (.inr (cj1 _)) (cj1 _),bj8 h];exact List.Perm.append_left _ (pm.append_right _)
end
end TS
namespace TS
open PySem PyProof.Rows
section
variable {prog:Program} {w:World} {A:Around} {E:Value->Shared->Prop} {s:Shared}
variable {rk:Keyed->Nat} {a0:Array Keyed} {κ:SortKind}
theorem bu7 {st:SortSt}(B:Bs a0 κ st)(lo hi:Nat):In0 a0 ((arrOf st).extract lo hi):=fun x hx=>by
 rw[J7] at hx;exact (cp4.mp B.perm).mem_iff.mp (cp8 (List.mem_of_mem_drop hx))
theorem am6 {st:SortSt}(B:Bs a0 κ st):In0 a0 (arrOf st):=fun x hx=>(cp4.mp B.perm).mem_iff.mp hx
theorem ba1 {xs:Array Keyed}{lo hi i:Nat}(h:lo+i < hi):(xs.extract lo hi)[i]? =xs[lo+i]? :=by
 rw[<-cm5,J7];exact D8 h
theorem ca2 {st:SortSt}{i sa na nb pw pw2:Nat}{Q:Bool->SortSt->Prop}(C:Cm prog w A s κ rk a0)(B:Bs a0 κ st)(e1:(pendingOf st)[i]? =some (sa,na,pw))(e2:(pendingOf st)[i+1]? =some (sa+na,nb,pw2))(n1:1<=na)(n2:1<=nb)
   (hz:sa+na+nb<=a0.size) (u1:Up rk (arrOf st) sa (sa+na)) (u2:Up rk (arrOf st) (sa+na) (sa+na+nb))
   (h:∀t,Bs a0 κ t->Up rk (arrOf t) sa (sa+na+nb)->t8 (arrOf st) (arrOf t) sa (sa+na+nb)->pendingOf t=((pendingOf st).setIfInBounds i (sa,na+nb,pw)).eraseIdxIfInBounds (i+1)->Q true t):
   wpS (model prog w) A E s (mergeAt' i) Q st:=by
 have hs:=B.size;refine wpS_bind (wpS_get ?_);rw[show (sortPriv%PySem.Builtin.SortState.pending) st=pendingOf st from rfl,e1,e2];refine wpS_bind (wpS_modify (f:=fun _=>setPending st (((pendingOf st).setIfInBounds i (sa,na+nb,pw)).eraseIdxIfInBounds (i+1))) ?_);obtain ⟨pd,hpd⟩:∃pd,pd=((pendingOf st).setIfInBounds i (sa,na+nb,pw)).eraseIdxIfInBounds (i+1):=⟨_,rfl⟩;rw[<-hpd] at h ⊢;have B1:Bs a0 κ (setPending st pd):=⟨B.perm,B.kind,B.ok⟩;obtain ⟨xs,hxs⟩:∃xs,xs=arrOf st:=⟨_,rfl⟩;have In:=am6 B
 have ext0:=fun lo hi=>bu7 B lo hi
 rw[<-hxs] at hs u1 u2 h In ext0
 have hxz:sa+na+nb<=xs.size:=by omega
 obtain ⟨key,ek,mk⟩:=In.at (show sa+na < xs.size by omega)
 have ek':(arrOf st)[sa+na]? =some key:=by rw[<-hxs];exact ek
 refine wpS_bind (r9 ek' ?_);refine wpS_bind (X3 (left:=false) (arr:=arrOf st) (base:=sa) (n:=na) (hint:=0) C B1.kind (am6 B) mk (by rw[<-hxs];omega) (by omega) (by rw[<-hxs];exact u1) fun k kn ka kb=> ?_)
 have ka1:∀i,sa<=i->i < sa+k->R rk xs i<=rk key:=fun i h1 h2=>by
   have:=ka (i - sa) (by omega);unfold w9 at this;rw[if_neg (by decide),<-hxs,show sa+(i - sa)=i by omega] at this
   simpa using this
 have kb1:∀i,sa+k<=i->i < sa+na->rk key < R rk xs i:=fun i h1 h2=>by
   have:=kb (i - sa) (by omega) (by omega);unfold w9 at this;rw[if_neg (by decide),<-hxs,show sa+(i - sa)=i by omega] at this
   simpa using this
 have rkey:R rk xs (sa+na)=rk key:=B9 ek
 have joined:(∀i,sa<=i->i < sa+na->∀j,sa+na<=j->j < sa+na+nb->R rk xs i<=R rk xs j)->Up rk xs sa (sa+na+nb):=fun g i j h1 h2 h3=>by
   by_cases y:j < sa+na
   · exact u1 i j h1 h2 y
   · by_cases z:i < sa+na
     · exact g i h1 z j (by omega) h3
     · exact u2 i j (by omega) h2 h3
 refine w5 (fun z=> ?_) (fun z=> ?_)
 · have z:na - k=0:=J1 z;refine wpS_pure (h _ B1 ?_ (by rw[hxs];exact t8.refl _ _ _) rfl);show Up rk (arrOf st) _ _;rw[<-hxs]
   refine joined fun i h1 h2 j h3 h4=> ?_
   have a1:=ka1 i h1 (by omega);have a2:=u2 (sa+na) j (cj1 _) h3 h4;omega
 have z:¬na - k=0:=J9 z
 have ep:sa+k+(na - k) - 1=sa+na - 1:=by omega
 obtain ⟨key2,ek2,mk2⟩:=In.at (show sa+na - 1 < xs.size by omega)
 have ek2':(arrOf st)[sa+k+(na - k) - 1]? =some key2:=by rw[ep,<-hxs];exact ek2
 have rkey2:R rk xs (sa+na - 1)=rk key2:=B9 ek2;refine wpS_bind (r9 ek2' ?_);refine wpS_bind (X3 (left:=true) (arr:=arrOf st) (base:=sa+na) (n:=nb) (hint:=nb - 1) C B1.kind (am6 B) mk2 (by rw[<-hxs];omega) (by omega) (by rw[<-hxs];exact u2) fun k' kn' ka' kb'=> ?_)
 have ka2:∀i,sa+na<=i->i < sa+na+k'->R rk xs i < rk key2:=fun i h1 h2=>by
   have:=ka' (i - (sa+na)) (by omega);unfold w9 at this;rw[if_pos rfl,<-hxs,show sa+na+(i - (sa+na))=i by omega] at this
   simpa using this
 have kb2:∀i,sa+na+k'<=i->i < sa+na+nb->rk key2<=R rk xs i:=fun i h1 h2=>by
   have:=kb' (i - (sa+na)) (by omega) (by omega);unfold w9 at this;rw[if_pos rfl,<-hxs,show sa+na+(i - (sa+na))=i by omega] at this
   simpa using this
 refine w5 (fun z'=> ?_) (fun z'=> ?_)
 · have z':k'=0:=J1 z';refine wpS_pure (h _ B1 ?_ (by rw[hxs];exact t8.refl _ _ _) rfl);show Up rk (arrOf st) _ _;rw[<-hxs]
   refine joined fun i h1 h2 j h3 h4=> ?_
   have a1:=kb2 j (by omega) h4;have a2:=u1 i (sa+na - 1) h1 (by omega) (by omega);omega
 have z':¬k'=0:=J9 z';have xl:(xs.extract (sa+k) (sa+na)).toList=C3 xs (sa+k) (sa+na):=J7 _ _ _;have yl:(xs.extract (sa+na) (sa+na+k')).toList=C3 xs (sa+na) (sa+na+k'):=J7 _ _ _
 have xz:(xs.extract (sa+k) (sa+na)).size=na - k:=by rw[Array.size_extract];omega
 have yz:(xs.extract (sa+na) (sa+na+k')).size=k':=by rw[Array.size_extract];omega
 have sx:C2 (Le rk) (xs.extract (sa+k) (sa+na)).toList:=by rw[xl];exact ae5 (fun i j h1 h2 h3=>u1 i j (by omega) h2 h3) (by omega)
 have sy:C2 (Le rk) (xs.extract (sa+na) (sa+na+k')).toList:=by rw[yl];exact ae5 (fun i j h1 h2 h3=>u2 i j h1 h2 (by omega)) (by omega)
 have fx:∀x,(xs.extract (sa+na) (sa+na+k'))[0]? =some x->∀y∈(xs.extract (sa+k) (sa+na)).toList,Le rk x y:=fun x hx y hy=>by
   rw[ba1 (by omega),cs5,ek] at hx;rw[xl] at hy;obtain ⟨i,h1,h2,h3⟩:=O1 (by omega) hy;have:=kb1 i h1 h2;rw[B9 h3] at this;rw[<-Option.some.inj hx];exact cm9 this
 have ly:∀x∈(xs.extract (sa+na) (sa+na+k')).toList,∀y,(xs.extract (sa+k) (sa+na))[(xs.extract (sa+k) (sa+na)).size - 1]? =some y->Le rk x y:=fun x hx y hy=>by
   rw[xz,ba1 (by omega),show sa+k+(na - k - 1)=sa+na - 1 by omega,ek2] at hy;rw[yl] at hx;obtain ⟨i,h1,h2,h3⟩:=O1 (by omega) hx;have:=ka2 i h1 h2;rw[B9 h3] at this;rw[<-Option.some.inj hy];exact cm9 this
 have fin:∀m t,MQ rk (xs.extract (sa+k) (sa+na)) (xs.extract (sa+na) (sa+na+k')) (setPending st pd) m t->Q true (setArr t (wr (sa+k) m.toList.zipIdx (arrOf t)))/\failedOf t=none:=by
   rintro m t ⟨⟨pm,sm⟩,l⟩
   have lm:m.toList.length=na - k+k':=by rw[pm.length_eq,cj6,ck2,ck2,xz,yz]
   have ea:arrOf t=xs:=by rw[l.arr,hxs]
   have hle:sa+k+m.toList.length<=xs.size:=by omega
   have esg:C3 xs (sa+k) (sa+k+m.toList.length)=C3 xs (sa+k) (sa+na)++C3 xs (sa+na) (sa+na+k'):=by
     rw[O2 (by omega) (by omega) (by omega)];congr 1;omega
   have pm':m.toList.Perm (C3 xs (sa+k) (sa+k+m.toList.length)):=by rw[esg,<-xl,<-yl];exact pm
   have kw:=ba0 hle;have zw:=X5 (sa+k) m.toList.zipIdx xs;refine ⟨h _ ⟨?_,l.kind.trans B1.kind,l.ok.trans B1.ok⟩ ?_ ?_ l.pend,l.ok.trans B1.ok⟩
   · show (wr (sa+k) m.toList.zipIdx (arrOf t)).Perm a0;rw[ea];refine (bu6 hle pm').trans ?_;rw[hxs];exact B.perm
   · show Up rk (wr (sa+k) m.toList.zipIdx (arrOf t)) sa (sa+na+nb);rw[ea];refine ca1 ?_ (by omega)
     rw[<-O2 (show sa<=sa+k by omega) (show sa+k<=sa+na+nb by omega) (by omega),<-O2 (show sa+k<=sa+k+m.toList.length by omega) (show sa+k+m.toList.length<=sa+na+nb by omega) (by omega),bj8 hle,
       Z2 zw kw (.inl (cj1 _)) (by omega),Z2 zw kw (.inr (cj1 _)) (by omega)]
     have mm:∀x∈m.toList,(∃i,sa+k<=i/\i < sa+na/\xs[i]? =some x)\/(∃i,sa+na<=i/\i < sa+na+k'/\xs[i]? =some x):=fun x hx=>by
       have:=pm.mem_iff.mp hx;rw[xl,yl] at this
       rcases ck7.mp this with e|e
       · exact .inl (O1 (by omega) e)
       · exact .inr (O1 (by omega) e)
     refine L4.mpr ⟨ae5 (fun i j h1 h2 h3=>u1 i j h1 h2 (by omega)) (by omega),L4.mpr ⟨sm,ae5 (fun i j h1 h2 h3=>u2 i j (by omega) h2 h3) (by omega),fun x hx y hy=> ?_⟩,fun x hx y hy=> ?_⟩
     · obtain ⟨j,j1,j2,j3⟩:=O1 (by omega) hy;have b2:=kb2 j (by omega) j2;rw[B9 j3] at b2
       rcases mm x hx with ⟨i,i1,i2,i3⟩|⟨i,i1,i2,i3⟩
       · have b1:=u1 i (sa+na - 1) (by omega) (by omega) (by omega);rw[B9 i3,rkey2] at b1;exact cl9 b1 b2
       · have b1:=ka2 i i1 i2;rw[B9 i3] at b1;show rk x<=rk y;omega
     · obtain ⟨i,i1,i2,i3⟩:=O1 (by omega) hx;have b1:=ka1 i i1 i2;rw[B9 i3] at b1;show rk x<=rk y
       rcases ck7.mp hy with e|e
       · rcases mm y e with ⟨j,j1,j2,j3⟩|⟨j,j1,j2,j3⟩
         · have b2:=kb1 j j1 j2;rw[B9 j3] at b2;omega
         · have b2:=u2 (sa+na) j (cj1 _) j1 (by omega);rw[B9 j3,rkey] at b2;omega
       · obtain ⟨j,j1,j2,j3⟩:=O1 (by omega) e;have b2:=u2 (sa+na) j (cj1 _) (by omega) j2;rw[B9 j3,rkey] at b2;omega
   · show t8 xs (wr (sa+k) m.toList.zipIdx (arrOf t)) _ _;rw[ea];exact kw.wide (by omega) (by omega)
 have ix:=ext0 (sa+k) (sa+na);have iy:=ext0 (sa+na) (sa+na+k');have k1:kindOf (setPending st pd)=κ:=B1.kind
 have end_:∀m t,MQ rk (xs.extract (sa+k) (sa+na)) (xs.extract (sa+na) (sa+na+k')) (setPending st pd) m t->Q (failedOf (setArr t (wr (sa+k) m.toList.zipIdx (arrOf t)))).isNone (setArr t (wr (sa+k) m.toList.zipIdx (arrOf t))):=fun m t q=>by
   obtain ⟨f1,f2⟩:=fin m t q;show Q (failedOf t).isNone _;rw[f2];exact f1
 rw[hxs] at ix iy sx sy fx ly end_ xz yz
 have g1:1<=((arrOf st).extract (sa+k) (sa+na)).size:=by rw[xz];omega
 have g2:1<=((arrOf st).extract (sa+na) (sa+na+k')).size:=by rw[yz];omega
 refine w5 (fun _=> ?_) (fun _=> ?_)
 · refine wpS_bind (wpS_mono (bz9 C k1 ix iy g1 g2 sx sy fx ly) fun m t q=> ?_);exact wpS_bind (wpS_modify (wpS_bind (wpS_get (wpS_pure (end_ m t q)))))
 · refine wpS_bind (wpS_mono (ca0 C k1 ix iy g1 g2 sx sy fx ly) fun m t q=> ?_);exact wpS_bind (wpS_modify (wpS_bind (wpS_get (wpS_pure (end_ m t q)))))
end
end TS
namespace TS
open PySem PyProof.Rows
section
variable {rk:Keyed->Nat}
def A3 (rk:Keyed->Nat)(xs:Array Keyed):List (Nat×Nat×Nat)->Nat->Nat->Prop
 |[],a,b=>a=b
 |q::r,a,b=>q.1=a/\1<=q.2.1/\Up rk xs a (a+q.2.1)/\A3 rk xs r (a+q.2.1) b
theorem A3.len {xs:Array Keyed}:∀{l:List (Nat×Nat×Nat)} {a b:Nat},A3 rk xs l a b->a+l.length<=b
 |[],a,b,h=>cv6 h
 |q::r,a,b,⟨h1,h2,h3,h4⟩=>by
  have:=A3.len h4;rw[cl0];omega
theorem A3.app {xs:Array Keyed}:∀{l m:List (Nat×Nat×Nat)} {a b:Nat},A3 rk xs (l++m) a b↔∃c,A3 rk xs l a c/\A3 rk xs m c b
 |[],m,a,b=>⟨fun h=>⟨a,rfl,h⟩,fun ⟨c,e,h⟩=>by cases e;exact h⟩
 |q::r,m,a,b=>by
  constructor
  · rintro ⟨h1,h2,h3,h4⟩;obtain ⟨c,g1,g2⟩:=A3.app.mp h4;exact ⟨c,⟨h1,h2,h3,g1⟩,g2⟩
  · rintro ⟨c,⟨h1,h2,h3,h4⟩,g⟩;exact ⟨h1,h2,h3,A3.app.mpr ⟨c,h4,g⟩⟩
theorem A3.kept {xs ys:Array Keyed}{lo hi:Nat}(k:t8 xs ys lo hi):∀{l:List (Nat×Nat×Nat)} {a b:Nat},A3 rk xs l a b->b<=lo\/hi<=a->A3 rk ys l a b
 |[],a,b,h,_=>h
 |q::r,a,b,⟨h1,h2,h3,h4⟩,hk=>by
  have:=A3.len h4;exact ⟨h1,h2,k.up h3 (by omega),A3.kept k h4 (by omega)⟩
theorem ap5 {α:Type}:∀(l:List α) (x y z:α) (m:List α),((l++x::y::m).set l.length z).eraseIdx (l.length+1)=l++z::m
 |[],x,y,z,m=>rfl
 |a::l,x,y,z,m=>by
  show a::(((l++x::y::m).set l.length z).eraseIdx (l.length+1))=_;rw[ap5 l x y z m];rfl
theorem ca3 {α:Type}{l:List α}{i:Nat}(h:i+1 < l.length):l=l.take i++l[i]::l[i+1]::l.drop (i+2):=by
 have e1:=cq8 (show i < l.length by omega);have e2:=cq8 h;rw[<-e2,<-e1,cp7]
theorem ba2 {xs:Array Keyed}{pw:Nat}:∀{l:List (Nat×Nat×Nat)} {n a b:Nat},A3 rk xs l a b->A3 rk xs (l.modify n fun q=>(q.1,q.2.1,pw)) a b
 |[],n,a,b,h=>by cases n<;>exact h
 |q::r,0,a,b,⟨h1,h2,h3,h4⟩=>⟨h1,h2,h3,h4⟩
 |q::r,n+1,a,b,⟨h1,h2,h3,h4⟩=>⟨h1,h2,h3,ba2 h4⟩
end
section
variable {prog:Program} {w:World} {A:Around} {E:Value->Shared->Prop} {s:Shared}
variable {rk:Keyed->Nat} {a0:Array Keyed} {κ:SortKind}
theorem bj9 {st:SortSt}{i lo:Nat}{Q:Bool->SortSt->Prop}(C:Cm prog w A s κ rk a0)(B:Bs a0 κ st)(cv:A3 rk (arrOf st) (pendingOf st).toList 0 lo)(hl:lo<=a0.size)(hi:i+1 < (pendingOf st).size)
   (h:∀t,Bs a0 κ t->A3 rk (arrOf t) (pendingOf t).toList 0 lo->(pendingOf t).size+1=(pendingOf st).size->t8 (arrOf st) (arrOf t) 0 lo->Q true t):wpS (model prog w) A E s (mergeAt' i) Q st:=by
 obtain ⟨l,hl0⟩:∃l,l=(pendingOf st).toList:=⟨_,rfl⟩
 have ll:l.length=(pendingOf st).size:=by rw[hl0];simp
 have hil:i+1 < l.length:=by omega
 have e:=ca3 hil;rw[<-hl0,e] at cv;obtain ⟨c,c1,d1,d2,d3,f1,f2,f3,g⟩:=A3.app.mp cv;have lg:=A3.len g
 have e1:(pendingOf st)[i]? =some (c,l[i].2.1,l[i].2.2):=by
   rw[<-cm5,<-hl0,cj0 (by omega),<-d1]
 have e2:(pendingOf st)[i+1]? =some (c+l[i].2.1,l[i+1].2.1,l[i+1].2.2):=by
   rw[<-cm5,<-hl0,cj0 hil,<-f1]
 refine ca2 C B e1 e2 d2 f2 (by omega) d3 f3 fun t B' u k p=> ?_
 have lt:(l.take i).length=i:=by rw[cj9];omega
 have ep:(pendingOf t).toList=l.take i++(c,l[i].2.1+l[i+1].2.1,l[i].2.2)::l.drop (i+2):=by
   rw[p,Array.toList_eraseIdxIfInBounds,Array.toList_setIfInBounds,<-hl0];have:=ap5 (l.take i) l[i] l[i+1] (c,l[i].2.1+l[i+1].2.1,l[i].2.2) (l.drop (i+2));rw[lt,<-e] at this;exact this
 have lc:=A3.len c1;refine h t B' ?_ ?_ (k.wide (cl4 _) (by omega))
 · rw[ep];refine A3.app.mpr ⟨c,A3.kept k c1 (.inl (cj1 _)),rfl,by show 1<=l[i].2.1+l[i+1].2.1;omega,?_,?_⟩
   · show Up rk (arrOf t) c (c+(l[i].2.1+l[i+1].2.1));rw[<-Nat.add_assoc];exact u
   · show A3 rk (arrOf t) (l.drop (i+2)) (c+(l[i].2.1+l[i+1].2.1)) lo;rw[<-Nat.add_assoc];exact A3.kept k g (.inr (cj1 _))
 · rw[<-ck2,ep,cj6,cl0,cn4,lt];omega
theorem cd0 {c:Prop}[Decidable c]{a b n:Nat}(h1:a<=n)(h2:b<=n):(if c then a else b)<=n:=by split<;>assumption
theorem bp2 {t:SortSt}{lo n:Nat}(cv:A3 rk (arrOf t) (pendingOf t).toList 0 lo)(n1:1<=n)(u:Up rk (arrOf t) lo (lo+n)):A3 rk (arrOf t) ((pendingOf t).push (lo,n,0)).toList 0 (lo+n):=by
 rw[cq9];exact A3.app.mpr ⟨lo,cv,rfl,n1,u,rfl⟩
theorem ch7 {st:SortSt}{Q:Unit->SortSt->Prop}(C:Cm prog w A s κ rk a0)(B:Bs a0 κ st)(pe:pendingOf st= #[])(h2:2<=a0.size)
   (h:∀t,Bs a0 κ t->Up rk (arrOf t) 0 a0.size->Q () t):wpS (model prog w) A E s sortRuns' Q st:=by
 rw[sortRuns'_eq];refine wpS_bind (wpS_get ?_)
 dsimp only
 rw[B.size];generalize minRun' a0.size a0.size 0=mr
 refine wpS_bind (wpS_mono (wpS_forRange (I:=fun x c t=>∃lo,c=(none,lo)/\Bs a0 κ t/\A3 rk (arrOf t) (pendingOf t).toList 0 lo/\lo<=a0.size/\(x<=lo\/a0.size<=lo))
   (Q:=fun c t=>∃lo,c=(none,lo)/\Bs a0 κ t/\A3 rk (arrOf t) (pendingOf t).toList 0 lo/\lo=a0.size) ?step ?fin ⟨0,rfl,B,by rw[pe];exact rfl,cl4 _,.inl (cj1 _)⟩) ?post)
 case fin=>
   rintro c t ⟨lo,rfl,B',cv,h3,h4⟩;exact ⟨lo,rfl,B',cv,by omega⟩
 case step=>
   rintro x c t _ xn ⟨lo,rfl,B',cv,h3,h4⟩;refine w5 (fun z=>wpS_pure ⟨lo,rfl,B',cv,by have z:lo≥a0.size:=z;omega⟩) (fun z=> ?_);have z:¬lo≥a0.size:=z;refine wpS_bind (wpS_mono (bz7 (lo:=lo) (nrem:=a0.size - lo) C (by omega) (by omega) B') ?_);rintro r t1 ⟨n,rfl,B1,n1,n2,u1,k1,p1⟩
   have cv1:A3 rk (arrOf t1) (pendingOf t1).toList 0 lo:=by rw[p1];exact A3.kept k1 cv (.inl (cj1 _))
   clear k1 p1;refine w5 (fun y=> ?_) (fun y=> ?_);have y:n < mr:=y;refine wpS_bind (wpS_lift (wpAny_rule ⟨rfl,?_⟩));refine wpS_bind (bz6 (lo:=lo) (n:=min (a0.size - lo) mr) (ok:=n) C (by omega) (by omega) B1 u1 fun t2 B2 u2 k2 p2=> ?_);refine w5 (fun h=>absurd h (by decide)) (fun _=> ?_)
   have cv2:A3 rk (arrOf t2) (pendingOf t2).toList 0 lo:=by rw[p2];exact A3.kept k2 cv1 (.inl (cj1 _))
   have N1:1<=min (a0.size - lo) mr:=by omega
   have N2:lo+min (a0.size - lo) mr<=a0.size:=by omega
   clear p2 k2;generalize min (a0.size - lo) mr=N at u2 N1 N2 ⊢
   rotate_left
   have N1:1<=n:=n1
   have N2:lo+n<=a0.size:=by omega
   have B2:=B1;have u2:=u1;have cv2:=cv1;generalize t1=t2 at B2 u2 cv2 ⊢;generalize n=N at N1 N2 u2 ⊢
   rotate_left
   all_goals
     refine wpS_bind (wpS_get ?_)
     cases hb:(pendingOf t2).back? with
     |none=>
      exact wpS_bind (wpS_modify (wpS_pure ⟨lo+N,rfl,⟨B2.perm,B2.kind,B2.ok⟩,bp2 cv2 N1 u2,N2,by omega⟩))
     |some q=>
      obtain ⟨s1,m1,pw⟩:=q
      refine wpS_bind (wpS_mono (wpS_forRange (I:=fun y c t=>c=(none,())/\Bs a0 κ t/\A3 rk (arrOf t) (pendingOf t).toList 0 lo/\Up rk (arrOf t) lo (lo+N))
        (Q:=fun c t=>c=(none,())/\Bs a0 κ t/\A3 rk (arrOf t) (pendingOf t).toList 0 lo/\Up rk (arrOf t) lo (lo+N)) ?_ (fun _ _ h=>h) ⟨rfl,B2,cv2,u2⟩) ?_)
      · rintro y c t3 _ yn ⟨rfl,B3,cv3,u3⟩;refine wpS_bind (wpS_get ?_)
        by_cases g:(pendingOf t3).size > 1
        · rw[if_pos g,cx0 (show (pendingOf t3).size - 2 < (pendingOf t3).size by omega)];refine w5 (fun _=>wpS_pure ⟨rfl,B3,cv3,u3⟩) (fun _=> ?_);refine wpS_bind (bj9 C B3 cv3 (by omega) (by omega) fun t4 B4 cv4 sz k4=> ?_);refine w5 (fun h=>absurd h (by decide)) (fun _=> ?_);exact wpS_pure ⟨rfl,B4,cv4,k4.up u3 (.inr (cj1 _))⟩
        · rw[if_neg g];exact wpS_pure ⟨rfl,B3,cv3,u3⟩
      · rintro c t3 ⟨rfl,B3,cv3,u3⟩;refine wpS_bind (wpS_modify (wpS_bind (wpS_modify (wpS_pure ⟨lo+N,rfl,⟨B3.perm,B3.kind,B3.ok⟩,?_,N2,by omega⟩))));show A3 rk (arrOf t3) (cn1 (Array.push (Array.modify (pendingOf t3) _ _) (lo,N,0))) 0 (lo+N);rw[cq9,Array.toList_modify];exact A3.app.mpr ⟨lo,ba2 cv3,rfl,N1,u3,rfl⟩
 case post=>
   rintro c t ⟨lo,rfl,B',cv,rfl⟩
   dsimp only
   have lc:=A3.len cv
   refine wpS_bind (wpS_mono (wpS_forRange (I:=fun x c t=>c=(none,())/\Bs a0 κ t/\A3 rk (arrOf t) (pendingOf t).toList 0 a0.size/\((pendingOf t).size<=1\/(pendingOf t).size+x<=a0.size))
     (Q:=fun c t=>c=(none,())/\Bs a0 κ t/\A3 rk (arrOf t) (pendingOf t).toList 0 a0.size/\(pendingOf t).size<=1) ?stepE ?finE ⟨rfl,B',cv,.inr (by rw[<-ck2];omega)⟩) ?postE)
   case finE=>
     rintro c t ⟨rfl,B',cv,z⟩;exact ⟨rfl,B',cv,by omega⟩
   case stepE=>
     rintro x c t _ xn ⟨rfl,B',cv,z⟩;refine wpS_bind (wpS_get ?_);refine w5 (fun y=>wpS_pure ⟨rfl,B',cv,y⟩) (fun y=> ?_);have y:¬(pendingOf t).size<=1:=y;refine wpS_bind (bj9 C B' cv (cj1 _) ?_ fun t2 B2 cv2 sz _=> ?_)
     · exact cq4 (Nat.succ_le_succ (cd0 (n:=(pendingOf t).size - 2) (by omega) (cj1 _))) (by omega)
     · exact wpS_pure ⟨rfl,B2,cv2,by omega⟩
   case postE=>
     rintro c t ⟨rfl,B',cv,z⟩;refine wpS_pure (h t B' ?_);obtain ⟨l,hl⟩:∃l,l=(pendingOf t).toList:=⟨_,rfl⟩
     have ll:l.length<=1:=by rw[hl,ck2];exact z
     rw[<-hl] at cv
     match l,ll,cv with
     |[],_,cv=>have:0=a0.size:=cv;omega
     |[q],_,⟨c1,c2,c3,c4⟩=>
      have c4:0+q.2.1=a0.size:=c4;rw[c4] at c3;exact c3
end
end TS
namespace L2
open PySem PySem.Spec PyProof.Rows
section
variable {prog:Program} {w:World} {A:Around} {E:Value->Shared->Prop} {s:Shared}
structure ak2 (prog:Program)(w:World)(A:Around)(s:Shared)(rk:Value->Nat)(vs:List Value):Prop where
 kind:2<=vs.length->∀(Q:SortKind->Shared->Prop) (E:Value->Shared->Prop),Q oneType' s->wpAny (model prog w) A (keyKind' vs.toArray) Q E s
 less:∀x∈vs,∀y∈vs,∀(Q:Bool->Shared->Prop) (E:Value->Shared->Prop),Q (decide (rk x < rk y)) s->wpAny (model prog w) A (oneLt' true x y) Q E s
theorem am7 {vs:List Value}{p:Keyed}(h:p∈(pairsOf vs).toList):p.1∈vs/\p.2=p.1:=by
 rw[pairsOf_toList] at h;obtain ⟨i,hi⟩:=cn6.mp h;obtain ⟨x,y⟩:=p;rw[List.getElem?_zip_eq_some] at hi;obtain ⟨e1,e2⟩:=hi;rw[e1] at e2;exact ⟨ck5 e1,(Option.some.inj e2).symm⟩
theorem ca4 {rk:Value->Nat}{vs:List Value}{xs:Array Keyed}(hp:xs.Perm (pairsOf vs))(u:TS.Up (fun p=>rk p.1) xs 0 xs.size):(xs.map (·.2)).toList.Perm vs/\(xs.map (·.2)).toList.Pairwise (fun x y=>rk x<=rk y):=by
 have pl:=cp4.mp hp
 have e:xs.toList.map (·.2)=xs.toList.map (·.1):=co5 fun p hp'=>(am7 (pl.mem_iff.mp hp')).2
 rw[cx5];constructor
 · refine (pl.map _).trans ?_;rw[<-cx5,ap4]
 · show List.Pairwise _ (xs.toList.map (·.2));rw[e];exact cp9.mpr (TS.ce1 u)
theorem cd1 {rk:Value->Nat}{vs:List Value}(h:ak2 prog w A s rk vs):TS.Cm prog w A s oneType' (fun p=>rk p.1) (pairsOf vs):=fun x hx y hy Q E' q=>by
 rw[keyLt'_oneType];exact h.less x.1 (am7 hx).1 y.1 (am7 hy).1 Q E' q
theorem cd2 {a:Addr}{vs:List Value}{rk:Value->Nat}{n:Nat}{P:Fin->Shared->Prop}(ho:s.heap.get? a=some (seqObj "list" vs.toArray n))(hl:vs.length<=sizeLine)
   (ok:∀h':Heap,(∀b o,b≠a->s.heap.get? b=some o->h'.get? b=some o)->ak2 prog w A {s with heap:=h'} rk vs)
   (h:∀out:List Value,out.Perm vs->out.Pairwise (fun x y=>rk x<=rk y)->P (.done (.ret .none)) {s with heap:=sortedHeap s.heap a vs out.toArray}):wpAny (model prog w) A (Builtin.«list.sort» ⟨[.ref a],[]⟩) P E s:=by
 rw[list_sort_plain];have ha:a < s.heap.objs.size:=Heap.lt_size ho
 have hsz:vs.toArray.size=vs.length:=by simp
 refine wpAny_bind (listItems_at ho rfl ?_);refine wpAny_bind (listUpdate_at ho rfl ?_ (by rw[hsz];exact hl) (cl4 _));obtain ⟨e1,ho1⟩:∃e1,(s.heap.update a (Obj.mapSeq fun _=> #[])).get? a=some (seqObj "list" #[] e1):=⟨_,get?_update_seq ho (fun _=> #[])⟩;refine wpAny_bind (seqEpoch_at ho1 rfl ?_);refine wpAny_bind (wpAny_newTuple ?_ (hsz:=hl));refine wpAny_bind (wpAny_newList ?_);refine wpAny_holding ?_;obtain ⟨H6,e6⟩:∃H6,H6=((s.heap.update a (Obj.mapSeq fun _=> #[])).push (seqObj "tuple" vs.toArray 0)).push (seqObj "list" #[] 0):=⟨_,rfl⟩
 have ho6:H6.get? a=some (seqObj "list" #[] e1):=by
   rw[e6,Heap.get?_push_ne _ _ _ (by rw[size_push',Heap.size_update];exact cl2 (cw9 ha)),Heap.get?_push_ne _ _ _ (by rw[Heap.size_update];exact cl2 ha)];exact ho1
 have old:∀b o,b≠a->s.heap.get? b=some o->H6.get? b=some o:=by
   intro b o nb hb;rw[e6];refine Heap.get?_push_of_some _ (Heap.get?_push_of_some _ ?_);rw[Heap.get?_update_ne _ _ _ _ nb];exact hb
 have ok6:=ok H6 old;show wpAny (model prog w) A _ P E {s with heap:=((s.heap.update a (Obj.mapSeq fun _=> #[])).push (seqObj "tuple" vs.toArray 0)).push (seqObj "list" #[] 0)};unfold sortedHeap at h;rw[<-e6] at h ⊢
 dsimp only
 by_cases h2:vs.toArray.size < 2
 · rw[if_pos h2,if_pos h2];refine wpAny_bind (wpAny_pure ?_);rw[StateT.run_pure];refine wpAny_bind (wpAny_pure ?_)
   dsimp only
   refine wpAny_bind (seqEpoch_at ho6 rfl ?_);have ee:(arrOf (SortSt.mk' general' (vs.toArray.zip vs.toArray) #[] 7 none)).map (·.2)=vs.toArray:=ap4 vs;rw[ee];refine wpAny_bind (listUpdate_at ho6 rfl ?_ (cl4 _) (by rw[hsz];omega));simp only[bne_self_eq_false,co8,if_false];refine wpAny_pure (h vs (List.Perm.refl _) ?_)
   match vs,hsz,h2 with
   |[],_,_=>exact List.Pairwise.nil
   |[_],_,_=>exact cr3 _ _
   |_::_::_,_,h2=>simp at h2;omega
 · rw[if_neg h2,if_neg h2];refine wpAny_bind (ok6.kind (by omega) _ _ ?_)
   refine wpAny_bind (wpAny_mono (TS.ch7 (s:={s with heap:=H6}) (st:=SortSt.mk' oneType' (vs.toArray.zip vs.toArray) #[] 7 none) (a0:=pairsOf vs) (rk:=fun p=>rk p.1)
     (Q:=fun _ st'=>(arrOf st').Perm (pairsOf vs)/\failedOf st'=none/\TS.Up (fun p=>rk p.1) (arrOf st') 0 (pairsOf vs).size) (cd1 ok6) ⟨Array.Perm.refl _,rfl,rfl⟩ rfl (by rw[pairsOf_size];omega) fun t B u=>⟨B.perm,B.ok,u⟩) ?_ fun _ _ e=>e)
   rintro ⟨⟨⟩,st'⟩ s' ⟨rfl,hp,hf,hu⟩
   dsimp only
   rw[<-hp.size_eq] at hu;obtain ⟨o1,o2⟩:=ca4 hp hu;refine wpAny_bind (seqEpoch_at ho6 rfl ?_);refine wpAny_bind (listUpdate_at ho6 rfl ?_ (cl4 _) (by rw[Array.size_map,hp.size_eq,pairsOf_size];omega));rw[hf];simp only[bne_self_eq_false,co8,if_false];have:=h _ o1 o2;rw[Array.toArray_toList] at this;exact wpAny_pure this
theorem bu8 {l:Addr}{vs:List Value}{rk:Value->Nat}{Q:Value->Shared->Prop}(pl:s.heap.IsList l vs.toArray)(hl:vs.length<=sizeLine)
   (ok:∀h':Heap,(∀b o,b < s.heap.objs.size->s.heap.get? b=some o->h'.get? b=some o)->ak2 prog w A.in1.in1 {s with heap:=h'} rk vs)
   (h:∀out:List Value,out.Perm vs->out.Pairwise (fun x y=>rk x<=rk y)->Q (.ref (s.heap.objs.size+1)) {s with heap:=sortedAll s.heap vs out.toArray}):wpAny (model prog w) A (call (.builtin "sorted") [.ref l]) Q E s:=by
 refine Calls.call_function_entry kind_sorted plain_sorted entry_sorted (args_sorted1 _) ?_;unfold Builtin.«sorted»;refine wpAny_bind (m:=checkCount "sorted" 1 1 _) (wpAny_pure ?_);refine wpAny_bind (collect_list pl ?_ hl);refine wpAny_bind (wpAny_newList ?_ (hsz:=hl))
 have hsz:((s.heap.push (seqObj "list" #[] 0)).update s.heap.objs.size (Obj.mapSeq (· ++vs.toArray))).objs.size=s.heap.objs.size+1:=by
   rw[Heap.size_update,size_push']
 have hoL:(((s.heap.push (seqObj "list" #[] 0)).update s.heap.objs.size (Obj.mapSeq (· ++vs.toArray))).push (seqObj "list" vs.toArray 0)).get? (s.heap.objs.size+1)=some (seqObj "list" vs.toArray 0):=by
   rw[<-hsz];exact Heap.get?_push_size _ rfl
 show wpAny _ _ _ _ _ {s with heap:=((s.heap.push (seqObj "list" #[] 0)).update s.heap.objs.size (Obj.mapSeq (· ++vs.toArray))).push (seqObj "list" vs.toArray 0)};rw[hsz];refine wpAny_bind (wpAny_holding (wpAny_call_entry slot_list_sort ⟨_,hoL,rfl⟩ entry_list_sort (cd2 hoL hl (rk:=rk) (fun h' old=>ok h' fun b o lt e=>old b o (cl2 (cw9 lt)) ?_) fun out o1 o2=>⟨_,rfl,?_⟩) (args_list_sort _)))
 · refine Heap.get?_push_of_some _ ?_;rw[Heap.get?_update_ne _ _ _ _ (cl2 lt)];exact Heap.get?_push_of_some _ e
 · exact wpAny_pure ⟨_,rfl,h out o1 o2⟩
end
end L2
namespace L2
open PySem PySem.Spec PyProof.Rows
section
variable {α:Type}
theorem Z3 {p q:α->Bool}(h:∀a,p a=true->q a=true):∀{l:List α} {x:α},x∈l->p x=false->q x=true->l.countP p < l.countP q
 |[],x,hx,_,_=>by cases hx
 |y::l,x,hx,px,qx=>by
  have le:l.countP p<=l.countP q:=List.countP_mono_left fun a _=>h a
  rw[cx4,cx4]
  by_cases e:x=y
  · subst e;rw[px,qx];simp;omega
  · have hx':x∈l:=by
      rcases ck8.mp hx with z|z
      · exact absurd z e
      · exact z
    have:=Z3 h hx' px qx
    cases hp:p y with
    |false=>simp;split<;>omega
    |true=>rw[h y hp];simp;omega
def ac4 (lt:α->α->Bool)(l:List α)(x:α):Nat:=l.countP fun y=>lt y x
theorem bu9 {lt:α->α->Bool}(ir:∀a,lt a a=false)(tr:∀a b c,lt a b=true->lt b c=true->lt a c=true)(tot:∀a b,lt a b=false->lt b a=true\/a=b){l:List α}{x y:α}(hx:x∈l)(hy:y∈l):decide (ac4 lt l x < ac4 lt l y)=lt x y:=by
 unfold ac4
 cases h:lt x y with
 |true=>exact decide_eq_true (Z3 (fun a ha=>tr a x y ha h) hx (ir x) h)
 |false=>
  refine decide_eq_false ?_
  rcases tot x y h with z|z
  · have:=Z3 (fun a ha=>tr a y x ha z) hy (ir y) z;omega
  · rw[z];omega
theorem bv0 {lt:α->α->Bool}(ir:∀a,lt a a=false)(tr:∀a b c,lt a b=true->lt b c=true->lt a c=true){l:List α}{x y:α}(hy:y∈l)(h:ac4 lt l x<=ac4 lt l y):lt y x=false:=by
 cases z:lt y x with
 |false=>rfl
 |true=>
  have:=Z3 (l:=l) (fun a ha=>tr a y x ha z) hy (ir y) z;unfold ac4 at h;omega
end
theorem am8:∀a:List Int,HT.ad5 a a=false
 |[]=>rfl
 |x::a=>by rw[HT.bc0,if_pos rfl];exact am8 a
theorem ba3:∀a b:List Int,HT.ad5 a b=false->HT.ad5 b a=true\/a=b
 |[],[],_=> .inr rfl
 |[],_::_,h=>by rw[HT.bs4] at h;cases h
 |_::_,[],_=> .inl rfl
 |x::a,y::b,h=>by
  rw[HT.bc0] at h ⊢
  by_cases e:x=y
  · rw[if_pos e] at h;rw[if_pos e.symm]
    rcases ba3 a b h with z|z
    · exact .inl z
    · exact .inr (by rw[e,z])
  · rw[if_neg e] at h;rw[if_neg (fun z=>e z.symm)];have:=of_decide_eq_false h;exact .inl (decide_eq_true (by omega))
theorem au7:∀a b c:List Int,HT.ad5 a b=true->HT.ad5 b c=true->HT.ad5 a c=true
 |[],[],_,h,_=>by cases h
 |_::_,[],_,h,_=>by cases h
 |_,_::_,[],_,h=>by cases h
 |[],_::_,_::_,_,_=>rfl
 |x::a,y::b,z::c,h,g=>by
  rw[HT.bc0] at h g ⊢
  by_cases e:x=y
  · subst e;rw[if_pos rfl] at h
    by_cases e2:x=z
    · subst e2;rw[if_pos rfl] at g ⊢;exact au7 a b c h g
    · rw[if_neg e2] at g ⊢;exact g
  · rw[if_neg e] at h;have h1:=of_decide_eq_true h
    by_cases e2:y=z
    · subst e2;rw[if_neg e];exact h
    · rw[if_neg e2] at g;have g1:=of_decide_eq_true g;rw[if_neg (by omega)];exact decide_eq_true (by omega)
section
variable {prog:Program} {w:World} {A:Around} {E:Value->Shared->Prop} {s:Shared}
theorem bk0 (hu:A.units < cLine){x y:Value}{ns ms:List Int}(hx:V2 s.heap x ns)(hy:V2 s.heap y ms){Q:Bool->Shared->Prop}(q:Q (HT.ad5 ns ms) s):wpAny (model prog w) A (oneLt' true x y) Q E s:=by
 obtain ⟨p,xs,n,rfl,ox,ix⟩:=hx;obtain ⟨p2,ys,m,rfl,oy,iy⟩:=hy;rw[oneLt'_eq];simp only[if_true];refine wpAny_bind (wpAny_cRoomFor hu ?_);refine wpAny_bind (wpAny_callSpecialIfBound?_slot (T:="list") ⟨_,ox,rfl⟩ PySem.F.slot_list_lt (call_meets PySem.F.slot_list_lt ⟨_,ox,rfl⟩ PySem.F.entry_list_lt (PySem.F.args_list_lt_2 _ _) (HT.bz5 p p2 xs ys n m ns ms ix iy) ⟨⟨ox,oy⟩,?_⟩));exact wpAny_truthy_bool q
def X6:Value->Addr
 | .ref a=>a
 |_=>0
theorem ap6:∀{bs:List Addr} {us:List Value},j6 (bs.map V.ref) us->us=bs.map Value.ref
 |[],us,h=>by cases h;rfl
 |b::bs,us,h=>by
  cases h with
  |cons h1 h2=>
   cases h1;rw[ap6 h2];rfl
theorem ap7:∀bs:List Addr,j6 (bs.map V.ref) (bs.map Value.ref)
 |[]=> .nil
 |b::bs=> .cons rfl (ap7 bs)
theorem bp3 {bs:List Addr}{R:Addr->List Int}(hu:A.units < cLine)(row:∀b∈bs,V2 s.heap (.ref b) (R b)):ak2 prog w A s (fun v=>ac4 HT.ad5 (bs.map R) (R (X6 v))) (bs.map Value.ref):=by
 constructor
 · intro h2 Q E q
   match bs,h2,row with
   |[],h2,_=>simp at h2
   |[_],h2,_=>simp at h2
   |b1::b2::bs,_,row=>
    have hr:∀v,v∈Value.ref b1::Value.ref b2::bs.map Value.ref->∃ns,V2 s.heap v ns:=fun v hv=>by
      obtain ⟨b,hb,rfl⟩:=ck6.mp (show v∈(b1::b2::bs).map Value.ref from hv);exact ⟨_,row b hb⟩
    exact bj4 hr q
 · intro x hx y hy Q E q;obtain ⟨b,hb,rfl⟩:=ck6.mp hx;obtain ⟨c,hc,rfl⟩:=ck6.mp hy;refine bk0 hu (row b hb) (row c hc) ?_;have:=bu9 am8 au7 ba3 (l:=bs.map R) (ck6.mpr ⟨b,hb,rfl⟩) (ck6.mpr ⟨c,hc,rfl⟩);show Q (HT.ad5 (R b) (R c)) s;rw[<-this];exact q
end
end L2
namespace L2
open PySem PySem.Spec PyProof.Rows
section
variable {X:Cx}
theorem au8 (hu:X.A.in1.in1.units < cLine):K3 X (.builtin "sorted") (fun xs H Q=>∃(p:Addr) (bs:List Addr) (rs:List (List Int)),xs=[.ref p]/\i4 X.K H p (bs.map V.ref)/\x6 H bs rs/\
   ∀(cs:List Addr) (ts:List (List Int)) l,cs.Perm bs->ts.Perm rs->x6 H cs ts->ts.Pairwise (fun r r'=>HT.ad5 r' r=false)->H l=none->Q (.ref l) (c9 H l (.lst (cs.map V.ref)))):=by
 intro pins s σ H xs us Q I r h;obtain ⟨p,bs,rs,rfl,hp,hr,q⟩:=h;obtain ⟨u,rfl,rx⟩:=O3 r;cases rx;obtain ⟨its,rv,pl,hl⟩:=I.list hp;have ev:=ap6 rv;subst ev
 have rows:∀b∈bs,∃r:List Int,H b=some (.lst (r.map V.int)):=fun b hb=>by
   obtain ⟨j,hj⟩:=cn6.mp hb
   have hjl:j < rs.length:=by rw[<-hr.1];exact (ci9.mp hj).1
   exact ⟨_,hr.2 j b _ hj (cj0 hjl)⟩
 have er:=bc6 hr
 have each:∀h':Heap,(∀b o,b < s.heap.objs.size->s.heap.get? b=some o->h'.get? b=some o)->∀b∈bs,V2 h' (.ref b) (M0 H b):=by
   intro h' old b hb;obtain ⟨r,e⟩:=rows b hb;obtain ⟨_,its,n,v,g⟩:=(show o6 X.prog X.w H s.heap b (.lst (r.map V.int)) from I.hok b _ e);rw[ah3 e];exact ⟨b,its.toArray,n,rfl,old b _ (Heap.lt_size g) g,by simpa using Y2 v⟩
 have hll:(bs.map V.ref).length=bs.length:=ci8 ..
 refine bu8 (rk:=fun v=>ac4 HT.ad5 (bs.map (M0 H)) (M0 H (X6 v))) pl.isList (by rw[ci8];omega) (fun h' old=>bp3 hu (each h' old)) fun out o1 o2=> ?_
 have eo:out=(out.map X6).map Value.ref:=by
   rw[co1];refine (ct5 out).symm.trans (co5 fun v hv=> ?_);obtain ⟨b,_,rfl⟩:=ck6.mp (o1.mem_iff.mp hv);rfl
 have pb:(out.map X6).Perm bs:=by
   have:=o1.map X6;rw[co1] at this;have e2:bs.map (X6∘Value.ref)=bs:=(co5 fun b _=>rfl).trans (ct5 bs);rw[e2] at this;exact this
 have st:((out.map X6).map (M0 H)).Pairwise (fun r r'=>HT.ad5 r' r=false):=by
   rw[co1];refine cp9.mpr (List.Pairwise.imp_of_mem (fun {x y} hx hy h=> ?_) o2);refine bv0 am8 au7 (l:=bs.map (M0 H)) ?_ h;exact ck6.mpr ⟨X6 y,pb.mem_iff.mp (ck6.mpr ⟨y,hy,rfl⟩),rfl⟩
 have rw':x6 H (out.map X6) ((out.map X6).map (M0 H)):=⟨(ci8 ..).symm,fun j a r e1 e2=>by
   rw[cj2,e1] at e2;have:=Option.some.inj e2;obtain ⟨r',e⟩:=rows a (pb.mem_iff.mp (ck5 e1))
   rw[<-this,ah3 e];exact e⟩
 have pr:((out.map X6).map (M0 H)).Perm rs:=by rw[<-er];exact pb.map _
 obtain ⟨e,he⟩:=sortedAll_at s.heap (bs.map Value.ref) out.toArray;refine ⟨.ref (s.heap.objs.size+1),_,I.laid (t':=s.toks) (fun _ _ q=>sortedAll_old q) (ct3 _) (show o6 X.prog X.w _ _ _ (.lst ((out.map X6).map V.ref)) from ⟨by rw[ci8,pb.length_eq];omega,out,e,?_,he⟩),rfl,q _ _ _ pb pr rw' st (I.hok.fresh (ct3 _))⟩;have:=ap7 (out.map X6);rw[<-eo] at this;exact this
variable {e:Expr} {t:TA} {p pos kpos:Pos}
def bp4 (K:PySem.W.Frag)(t:TA):TE:=U6 (fun xs H Q=>∃(p:Addr) (bs:List Addr) (rs:List (List Int)),xs=[.ref p]/\i4 K H p (bs.map V.ref)/\x6 H bs rs/\
 ∀(cs:List Addr) (ts:List (List Int)) l,cs.Perm bs->ts.Perm rs->x6 H cs ts->ts.Pairwise (fun r r'=>HT.ad5 r' r=false)->H l=none->Q (.ref l) (c9 H l (.lst (cs.map V.ref)))) t
theorem ax8 (hu:X.A.units+1+1 < cLine)(hm:X.mg "sorted"=none)(ha:PA X [e] t)(hg:Gl X "sorted":=by rfl)(he:starEach [e] X.env=(false,eval e X.env)::starEach [] X.env:=by rfl):
 PE X (.Call (.Name "sorted" p) [e] [] pos) (bp4 X.K t):=N0 (au8 (by simpa [Around.in1] using hu)) hg hm T1 ha (by decide) (by decide) he rfl
end
end L2
namespace L2
open PySem PySem.Spec PyProof PyProof.Rows
open PySem.Builtin PySem.Builtin.Str PySem.Builtin.BaseException PySem.Builtin.Exceptions
section
variable {X:Cx}
structure cg7 (K:PySem.W.Frag)(C:Addr):Prop where
 str:PySem.W.findIn K (.ref C) "__str__"=some (some (.builtin "BaseException.__str__"))
 bex:PySem.W.mroIn K C (.type "BaseException")=some true
end
end L2
namespace L2
open PySem PySem.Spec PyProof.Rows
section
variable {P:Program} {w:World} {K:PySem.W.Frag} {mg:Str->Option Value} {base h:Heap} {x:Str} {st:Stmt} {f:Addr} {fd:FuncData} {ps:List Str} {k:Nat} {sp:Sp}
def Fu (K:PySem.W.Frag)(x:Str)(st:Stmt)(f:Addr):Prop:=∃fd,PySem.W.nsIn K mainGlobals x=some (some (.ref f))/\B0 K x x st f fd
theorem cd3 {oc:Value}{od an:Option Addr}{osl:Array (Option Value)}{kV doc pm cdv ct:Value}(a:PySem.W.nsIn K mainGlobals x=some (some (.ref f)))(l:K.lookup f=some ⟨oc,od,.func (PySem.W.fnOf x x (R4 st) (L0 st) (j5 st) .none kV doc pm an cdv ct),osl⟩)
 (c:PySem.W.codeIn K cdv x=true) (k:PySem.W.keepIn K (.ref f)=true):Fu K x st f:=⟨_,a,by5 l c k⟩
theorem y6 (X:K.In h)(G:h.Ns mainGlobals mg)(a:PySem.W.nsIn K mainGlobals x=some (some (.ref f)))(F:B0 K x x st f fd)(b:Q7 K fd ps [])(ok:j9 P w K mg base C8 k f fd ps sp):p6 P w K mg base x k ps sp:=⟨f,fd,PySem.W.mg_of X G a,F.kp,b,ok⟩
theorem ae6 (X:K.In h)(G:h.Ns mainGlobals mg)(a:PySem.W.nsIn K mainGlobals x=some (some (.ref f)))(F:B0 K x x st f fd)(b:Q7 K fd ps [])(ok:j9 P w K mg base (T2 P w) k f fd ps sp):Q1 P w K mg base x k ps sp:=⟨f,fd,PySem.W.mg_of X G a,F.kp,b,ok⟩
def Fre (K:PySem.W.Frag):List Str->Prop
 |[]=>True
 |x::l=>PySem.W.nsIn K mainGlobals x=some none/\Fre K l
structure ClF (K:PySem.W.Frag)(T:Addr)(x:Str)(q:Addr):Prop where
 n:PySem.W.nsIn K mainGlobals x=some (some (.ref q))
 e:PySem.W.excIn K q veB "ValueError.__new__"=true
 g:PySem.W.findIn K (.ref q) "__getattribute__"=some (some (.builtin "BaseException.__getattribute__"))
 h:PySem.W.findIn K (.ref q) "__getattr__"=some none
 c:PySem.W.findIn K (.ref q) "__class__"=some (some (.builtin "object.__class__"))
 b:PySem.W.mroIn K q (.type "BaseException")=some true
 o:PySem.W.mroIn K q (.type "object")=some true
 i:PySem.W.isClsIn K q=true
 t:PySem.W.typeIn K (.ref q)=some (.type "type")
 u:PySem.W.mroIn K q (.ref T)=some true
 v:PySem.W.mroIn K q (.type "ValueError")=some true
 s:PySem.W.findIn K (.ref q) "__str__"=some (some (.builtin "BaseException.__str__"))
def am9 (K:PySem.W.Frag)(T:Addr):List (Str×Addr)->Prop
 |[]=>True
 |(x,q)::l=>ClF K T x q/\am9 K T l
def PrI (K:PySem.W.Frag)(i:Nat)(a:Addr):Nat->List (Str×Addr)->Prop
 |_,[]=>True
 |j,(_,b)::l=>PySem.W.mroIn K a (.ref b)=some (Nat.beq i j)/\PrI K i a (j+1) l
def an0 (K:PySem.W.Frag)(all:List (Str×Addr)):Nat->List (Str×Addr)->Prop
 |_,[]=>True
 |i,(_,a)::l=>PrI K i a 0 all/\an0 K all (i+1) l
theorem am9.get {T:Addr}:∀{cs:List (Str×Addr)},am9 K T cs->∀p∈cs,ClF K T p.1 p.2
 |(x,q)::l,h,p,hp=>by
  rcases ck8.mp hp with rfl|hp
  · exact h.1
  · exact am9.get h.2 p hp
theorem PrI.get {i:Nat}{a:Addr}:∀{l:List (Str×Addr)} {j0:Nat},PrI K i a j0 l->∀j q,l[j]? =some q->PySem.W.mroIn K a (.ref q.2)=some (Nat.beq i (j0+j))
 |(x,b)::l,j0,h,0,q,e=>by
  cases e;exact h.1
 |(x,b)::l,j0,h,j+1,q,e=>by
  have:=PrI.get h.2 j q e;rw[this,show j0+1+j=j0+(j+1) by omega]
theorem an0.get {all:List (Str×Addr)}:∀{l:List (Str×Addr)} {i0:Nat},an0 K all i0 l->∀i p,l[i]? =some p->PrI K (i0+i) p.2 0 all
 |(x,b)::l,i0,h,0,p,e=>by
  cases e;exact h.1
 |(x,b)::l,i0,h,i+1,p,e=>by
  have:=an0.get h.2 i p e;rw[show i0+1+i=i0+(i+1) by omega] at this;exact this
theorem bk1 {T:Addr}{cs:List (Str×Addr)}(X:K.In h)(G:h.Ns mainGlobals mg)(uT:PySem.W.nsIn K mainGlobals "TurnError"=some (some (.ref T)))(uTb:PySem.W.mroIn K T (.type "BaseException")=some true)(uTc:PySem.W.isClsIn K T=true)(uTt:PySem.W.typeIn K (.ref T)=some (.type "type"))
   (uG:PySem.W.specialIn K (.builtin "object.__class__") "__get__"=some (some (.builtin "getset_descriptor.__get__"))) (uK:PySem.W.takesIn K (.builtin "object.__class__")=some true) (uC:am9 K T cs) (uP:an0 K cs 0 cs) (nd:(cs.map (·.1)).Nodup):au1 K mg T cs:=by
 have key:∀p∈cs,∀q∈cs,PySem.W.mroIn K p.2 (.ref q.2)=some (decide (p.1=q.1))/\(p.2=q.2->decide (p.1=q.1)=true):=fun p hp q hq=>by
   obtain ⟨i,hi⟩:=co2 hp;obtain ⟨j,hj⟩:=co2 hq
   have e:∀{k:Nat} {r:Str×Addr},cs[k]? =some r->PySem.W.mroIn K p.2 (.ref r.2)=some (Nat.beq i k):=fun {k r} hr=>by
     have:=(uP.get i p hi).get k r hr;rw[cs4,cs4] at this;exact this
   have eb:decide (p.1=q.1)=Nat.beq i j:=by
     by_cases z:i=j
     · subst z;rw[hi] at hj;cases hj;rw[decide_eq_true rfl,Nat.beq_refl]
     · have:Nat.beq i j=false:=by
         cases y:Nat.beq i j with
         |false=>rfl
         |true=>exact absurd (Nat.eq_of_beq_eq_true y) z
       rw[this]
       refine decide_eq_false fun y=>z ?_
       have i1:i < (cs.map (·.1)).length:=by rw[ci8];exact (ci9.mp hi).1
       refine (List.getElem?_inj i1 nd).mp ?_;rw[cj2,cj2,hi,hj];exact congrArg some y
   rw[eb];refine ⟨e hj,fun z=> ?_⟩;have a:=e hi;rw[z] at a;have b:=e hj;rw[z,a,Nat.beq_refl] at b;exact (Option.some.inj b).symm
 refine ⟨PySem.W.mg_of X G uT,fun p hp=> ?_,fun p hp=> ?_,fun p hp=> ?_,fun p hp=> ?_,fun p hp q hq=> ?_,fun p hp q hq=> ?_⟩
 · exact ⟨PySem.W.mg_of X G (uC.get p hp).n,(uC.get p hp).e⟩
 · have c:=uC.get p hp;exact bu4 c.g c.h c.c uG uK c.b c.o c.i
 · exact az6 uTb uTc uTt (uC.get p hp).u
 · exact bz3 (uC.get p hp).v
 · have c:=uC.get q hq;exact bu3 c.i c.t (key p hp q hq).1 (key p hp q hq).2
 · have c:=uC.get q hq;exact az6 c.b c.i c.t (key p hp q hq).1
end
end L2
namespace My
open PySem L2 Mth
def top (i:Nat):Stmt:=PySem.Challenge.pw_turnroots_k29_named_anew.main.body.getD i (.Pass ⟨0,0,0,0⟩)
abbrev Z4:Stmt:=top 5
abbrev W1:Stmt:=top 6
abbrev T5:Stmt:=top 7
abbrev W2:Stmt:=top 8
abbrev K8:Stmt:=top 9
abbrev O9:Stmt:=top 12
abbrev E8:Stmt:=top 13
abbrev M2:Stmt:=top 14
abbrev K1:Stmt:=top 16
abbrev ac5:Stmt:=top 17
abbrev M3:Stmt:=top 19
abbrev Z5:Stmt:=top 21
abbrev Z6:Stmt:=top 22
abbrev Z7:Stmt:=top 23
abbrev T6:Stmt:=top 24
abbrev M4:Stmt:=top 25
abbrev Q2:Stmt:=top 26
abbrev ac6:Stmt:=top 27
abbrev ac7:Stmt:=top 28
abbrev W3:Stmt:=top 29
abbrev T7:Stmt:=top 30
abbrev T8:Stmt:=top 31
abbrev ae7:Stmt:=top 32
end My
namespace My
open PySem L2 Mth
structure Bl (mg:Str->Option Value):Prop where
 len:mg "len"=none
 isi:mg "isinstance"=none
 int:mg "int"=none
 bool:mg "bool"=none
 list:mg "list"=none
 range:mg "range"=none
 sum:mg "sum"=none
 min:mg "min"=none
 max:mg "max"=none
 enum:mg "enumerate"=none
 zip:mg "zip"=none
 sorted:mg "sorted"=none
 tuple:mg "tuple"=none
 str:mg "str"=none
 repr:mg "repr"=none
 all:mg "all"=none
 any:mg "any"=none
 set:mg "set"=none
 dict:mg "dict"=none
 ve:mg "ValueError"=none
section
variable {P:Program} {w:World} {K:PySem.W.Frag} {mg:Str->Option Value} {base:Heap}
def ae8 (K:PySem.W.Frag):Sp:=fun vs H Q _=>∃x t b1 b2,vs=[x]/\G0 K H x t/\PySem.W.kitOne K t (.type "int")=some b1/\PySem.W.kitOne K t (.type "bool")=some b2/\Q (.bl (b1&& !b2)) H
theorem bv1:l7 ["thing"] ["thing"] (j5 Z4):=by rfl'
theorem bp5 {f:Addr}{fd:FuncData}(F:B0 K "is_whole" "is_whole" Z4 f fd)(B:Bl mg):j9 P w K mg base C8 1 f fd ["thing"] (ae8 K):=by
 refine F.ok bv1 (fun vs H Q E h=> ?_) (fun cdv A outer s H vs Q E hr h=> ?_)
 · obtain ⟨x,t,b1,b2,rfl,_⟩:=h;rfl
 · obtain ⟨x,t,b1,b2,rfl,ty,e1,e2,q⟩:=h;refine ⟨_,i6 (m7 (bx1 (ac0 B.isi (c6 (pv 0) (c6 (bn9 B.int) c7))) (bx0 (bx2 (ac0 B.isi (c6 (pv 0) (c6 (bh3 B.bool) c7))))))),?_⟩;refine ⟨x,rfl,x,"int",t,b1,rfl,ty,e1,b1,rfl,?_⟩
   cases b1 with
   |true=>
    refine E6 ⟨x,rfl,x,"bool",t,b2,rfl,ty,e2,b2,rfl,?_⟩;exact q
   |false=>exact A7 q
def T9:Sp:=fun vs H Q _=>∃(a:Addr) (ns:List Int),vs=[.ref a]/\H a=some (.lst (ns.map V.int))/\∀(b:Bool) (H':Hp),e8 H H'->(b=true↔ns.length<=40/\l4 ns)->Q (.bl b) H'
theorem ah6:l7 ["thing","seen","place"] ["thing"] (j5 O9):=by rfl'
theorem bk2 {f:Addr}{fd:FuncData}(F:B0 K "is_turn" "is_turn" O9 f fd)(B:Bl mg)(mt:∃t,mg "MOST_THINGS"=some (.int 40 t))(cW:p6 P w K mg base "is_whole" 1 ["thing"] (ae8 K)):j9 P w K mg base C8 2 f fd ["thing"] T9:=by
 refine F.ok ah6 (fun vs H Q E h=> ?_) (fun cdv A outer s H vs Q E hr h=> ?_)
 · obtain ⟨a,ns,rfl,_⟩:=h;rfl
 · obtain ⟨a,ns,rfl,ha,k⟩:=h;obtain ⟨tk,mt⟩:=mt;have hu:=U8 hr
   refine ⟨_,g6 (C5 (L9 (O6 (L8 (ac0 B.isi (c6 (pv 0) (c6 (ac1 B.list) c7))))) (W6 (o4 bb6 (o5 B.len (c6 (pv 0) c7)) (ay3 (v:= .int 40) (by rfl) mt ⟨tk,rfl⟩) (m8 _)))).pt (i6 (m7 D9)) q9)
     (g6 (i8 (i:=1) ah6.nd rfl (Or.inl rfl) S7)
     (g6 (C1 PassesOwn.never rfl (K9 (pv 0)) (n4 (i:=2) ah6.nd rfl (Or.inl rfl))
       (g6 (C5 (L9 (O6 (L8 (i9 cW hr (c6 (pv 2) c7)))) (L9 (o4 ai4 (pv 2) i7 (m8 _)) (L9 (o4 bb7 (pv 2) (o5 B.len (c6 (pv 0) c7)) (m8 _)) (W6 (W5 (bg5 hu (pv 2) (pv 1))))))).pt (i6 (m7 D9)) q9)
       (i6 (ae1 hu (pv 1) (pv 2) D9 rfl))))
     (i6 (m7 D9)))),?_⟩
   refine ⟨_,rfl,_,"list",_,true,rfl,.lst ha,S8 K "list",true,rfl,?_⟩;refine A7 ⟨_,rfl,a,_,rfl,.inl (i4.of ha),_,_,rfl,rfl,_,rfl,?_⟩;rw[ci8];refine K7 (fun h40=> ?_) (fun h40=> ?_)
   · have h40:(40:Int) < (ns.length:Int):=of_decide_eq_true h40;exact k false H (e8.refl H) ⟨fun z=>(by cases z),fun z=>(by have:=z.1;omega)⟩
   · have h40:¬(40:Int) < (ns.length:Int):=fun z=>h40 (decide_eq_true z)
     intro d hd;have nad:a≠d:=g7 ha hd
     have ha1:(c9 H d (.dK [])) a=some (.lst (ns.map V.int)):=by rw[g8 nad];exact ha
     refine ⟨_,rfl,a,rfl,⟨_,i4.of ha1⟩,S4 (K:=K) (a:=a) (xs:=ns.map V.int) (fun i σ H2=>∃v:Option V,σ=[some (.ref a),some (.ref d),v]/\e8 H H2/\H2 d=some (.dK (G1 (ns.take i)))/\(ns.take i).Nodup/\∀x∈ns.take i,0<=x/\x < ns.length)
       ⟨none,rfl,e8.upd_new hd,c8,cq3,fun x hx=>by simp at hx⟩ (fun i σ H2 _ zz=>by obtain ⟨_,_,s2,_⟩:=zz;exact i4.of (s2 a _ ha)) ?_ ?_⟩
     · rintro i y σ H2 hi ⟨v,rfl,s2,h2,nd,bd⟩;obtain ⟨z,hz,rfl⟩:=D3 hi;have ha2:=s2 a _ ha;have hil:i < ns.length:=(ci9.mp hz).1;refine ⟨_,rfl,.int z,_,true,false,rfl,.int z,S8 K "int",ab9 K,_,rfl,?_⟩;refine A7 ⟨_,rfl,_,_,rfl,rfl,_,rfl,?_⟩;refine K7 (fun hz0=> ?_) (fun hz0=> ?_)
       · have hz0:z < 0:=of_decide_eq_true hz0;exact E6 (k false H2 s2 ⟨fun q=>(by cases q),fun q=>(by have:=q.2.lo z (ck5 hz);omega)⟩)
       have hz0:¬z < 0:=fun q=>hz0 (decide_eq_true q)
       refine ⟨_,rfl,_,rfl,a,_,rfl,.inl (i4.of ha2),_,_,rfl,rfl,_,rfl,?_⟩;rw[ci8];refine K7 (fun hz1=> ?_) (fun hz1=> ?_)
       · have hz1:(ns.length:Int)<=z:=of_decide_eq_true hz1;exact E6 (k false H2 s2 ⟨fun q=>(by cases q),fun q=>(by have:=q.2.hi z (ck5 hz);omega)⟩)
       have hz1:¬(ns.length:Int)<=z:=fun q=>hz1 (decide_eq_true q)
       refine ⟨_,rfl,_,rfl,d,_,rfl,J8.k (k:=Sum.inl z) h2,_,rfl,?_⟩
       by_cases hm:z∈ns.take i
       · rw[ah1 hm];refine E6 (k false H2 s2 ⟨fun q=>(by cases q),fun q=> ?_⟩);exfalso;obtain ⟨j,hj⟩:=cn6.mp hm
         have hjl:j < i:=by
           have:=(ci9.mp hj).1;rw[cj9] at this;omega
         rw[cm0 hjl] at hj;have e1:=(ci9.mp hj).2;have e2:=(ci9.mp hz).2;exact ck3.mp (ck9.mp q.2.nd) j i (by omega) hil hjl (by rw[e1,e2])
       · rw[Y5 hm];refine A7 ⟨_,rfl,_,rfl,d,_,rfl,ab2.k (k:=Sum.inl z) h2 (l9 (by unfold G1;rw[ci8,cj9];omega)),?_⟩
         have hds:∀b o,H b=some o->b≠d:=fun b o e=>g7 e hd
         refine ⟨some (.int z),rfl,fun b o e=>by rw[g8 (hds b o e)];exact s2 b o e,?_,?_,?_⟩
         · rw[ac2 hm,c8,o9 hz]
         · rw[o9 hz];exact ae2 nd hm
         · intro x hx;rw[o9 hz] at hx
           rcases ck7.mp hx with q|q
           · exact bd x q
           · have:x=z:=by simpa using q
             omega
     · rintro σ H2 ⟨v,rfl,s2,h2,nd,bd⟩;rw[ci8,cn0] at nd bd;refine k true H2 s2 ⟨fun _=>⟨by omega,⟨nd,fun x hx=>(bd x hx).1,fun x hx=>(bd x hx).2⟩⟩,fun _=>rfl⟩
end
end My
namespace My
open PySem L2 Mth
section
variable {P:Program} {w:World} {K:PySem.W.Frag} {mg:Str->Option Value} {base:Heap}
def o7 (H:Hp)(a:Addr)(p:List Int):Prop:=H a=some (.lst (p.map V.int))/\l4 p/\p.length<=40
end
end My
namespace My
open PySem L2 Mth
section
variable {P:Program} {w:World} {K:PySem.W.Frag} {mg:Str->Option Value} {base:Heap}
def U0:Sp:=fun vs H Q _=>∃(a:Addr) (ns:List Int),vs=[.ref a]/\o7 H a ns/\∀(H':Hp),e8 H H'->Q .non H'
theorem bk3:l7 ["thing"] ["thing"] (j5 E8):=by rfl'
theorem ba5 {f:Addr}{fd:FuncData}(F:B0 K "must_be_turn" "must_be_turn" E8 f fd)(cT:p6 P w K mg base "is_turn" 2 ["thing"] T9):j9 P w K mg base C8 3 f fd ["thing"] U0:=by
 refine F.ok bk3 (fun vs H Q E h=> ?_) (fun cdv A outer s H vs Q E hr h=> ?_)
 · obtain ⟨a,ns,rfl,_⟩:=h;rfl
 · obtain ⟨a,ns,rfl,⟨ha,ht,hl⟩,k⟩:=h;refine ⟨_,i6 (C5 (O6 (L8 (i9 cT hr (c6 (pv 0) c7)))) (i6 ar5) q9),?_⟩;refine ⟨_,rfl,a,ns,rfl,ha,fun b H' s' hb=>⟨b,rfl,?_⟩⟩;have:b=true:=hb.mpr ⟨hl,ht⟩;subst this;exact A7 (k H' s')
end
end My
namespace My
open PySem L2 Mth
section
variable {P:Program} {w:World} {K:PySem.W.Frag} {mg:Str->Option Value} {base:Heap}
def ak3 (K:PySem.W.Frag):Sp:=fun vs H Q _=>∃(a b:Addr) (xs ys:List V),vs=[.ref a,.ref b]/\i4 K H a xs/\i4 K H b ys/\xs.length=ys.length/\Q .non H
theorem br9:l7 ["p","q"] ["p","q"] (j5 M2):=by rfl'
theorem bk4 {f:Addr}{fd:FuncData}(F:B0 K "must_fit" "must_fit" M2 f fd)(B:Bl mg):j9 P w K mg base C8 1 f fd ["p","q"] (ak3 K):=by
 refine F.ok br9 (fun vs H Q E h=> ?_) (fun cdv A outer s H vs Q E hr h=> ?_)
 · obtain ⟨a,b,xs,ys,rfl,_⟩:=h;rfl
 · obtain ⟨a,b,xs,ys,rfl,ha,hb,hl,k⟩:=h;refine ⟨_,i6 (C5 (o4 Y1 (o5 B.len (c6 (pv 0) c7)) (o5 B.len (c6 (pv 1) c7)) (m8 _)) (i6 ar5) q9),?_⟩;refine ⟨_,rfl,a,xs,rfl,.inl ha,_,rfl,b,ys,rfl,.inl hb,rfl,_,rfl,?_⟩;refine U9 (by rw[hl]) k
def Z8:Sp:=fun vs H Q _=>∃(a b:Addr) (p q:List Int),vs=[.ref a,.ref b]/\o7 H a p/\o7 H b q/\p.length=q.length/\
 ∀(l:Addr) (H':Hp),H l=none->e8 H H'->H' l=some (.lst ((l8 p q).map V.int))->Q (.ref l) H'
end
end My
namespace My
open PySem L2 Mth
section
variable {P:Program} {w:World} {K:PySem.W.Frag} {mg:Str->Option Value} {base:Heap}
def au9 (K:PySem.W.Frag):Sp:=fun vs H Q _=>∃(a:Addr) (ns:List Int) (k:Int),vs=[.ref a,.int k]/\i4 K H a (ns.map V.int)/\0<=k/\k<=100/\∀(l:Addr) (H':Hp),H l=none->e8 H H'->C7 H' l 4300->Q (.ref l) H'
theorem av0:l7 ["script","k","cell"] ["script","k"] (j5 Z5):=by rfl'
theorem bv2 {f:Addr}{fd:FuncData}(F:B0 K "_law_pool" "_law_pool" Z5 f fd)(B:Bl mg):j9 P w K mg base C8 1 f fd ["script","k"] (au9 K):=by
 refine F.ok av0 (fun vs H Q E h=> ?_) (fun cdv A outer s H vs Q E hr h=> ?_)
 · obtain ⟨a,ns,k,rfl,_⟩:=h;rfl
 · obtain ⟨a,ns,k,rfl,ha,k0,k1,q⟩:=h
   refine ⟨_,g6 (i8 (i:=2) av0.nd rfl (Or.inl rfl) i7)
     (g6 (C5 (o4 ai4 (pv 1) (o5 B.len (c6 (pv 0) c7)) (m8 _)) (i6 (i8 (i:=2) av0.nd rfl (Or.inl rfl) (A5 p5 (pv 0) (pv 1) (fun _ _=>rfl)))) q9)
     (i6 (m7 (y8 (c6 (pv 2) (c6 (az4 B.int (c6 (M9 bb7 (pv 2) (p9 bx5 i7 i7) (m8 _)) c7)) (c6 (p9 ai3 i7 (pv 1)) c7))))))),?_⟩
   refine ⟨_,rfl,_,rfl,a,_,rfl,.inl ha,_,_,rfl,rfl,_,rfl,?_⟩;rw[ci8];have cp:bx4 10 18:=⟨by decide,by decide,by decide⟩;refine K7 (fun h=> ?_) (fun h=> ?_)
   · have h:k < (ns.length:Int):=of_decide_eq_true h;refine ⟨_,rfl,_,rfl,a,_,k,_,rfl,rfl,ha,J5 k0 h,?_⟩;refine ⟨_,rfl,_,rfl,_,_,rfl,rfl,cp,_,_,rfl,rfl,_,rfl,_,rfl,_,_,rfl,rfl,.inl ⟨by decide,by decide⟩,(by show 3<=sizeLine;decide),fun l hl=> ?_⟩;exact q l _ hl (e8.upd_new hl) ⟨_,_,_,c8,by omega,by omega⟩
   · refine ⟨_,rfl,_,rfl,_,_,rfl,rfl,cp,_,_,rfl,rfl,_,rfl,_,rfl,_,_,rfl,rfl,.inl ⟨by decide,by decide⟩,(by show 3<=sizeLine;decide),fun l hl=> ?_⟩;exact q l _ hl (e8.upd_new hl) ⟨_,_,_,c8,by omega,by omega⟩
def ak4:Sp:=fun vs H Q _=>∃(a:Addr) (c:Nat) (m:Int),vs=[.ref a,.int m]/\C7 H a c/\c<=1000000/\0 < m/\m<=1000000000000000000000000000000/\∀(r:Int) (H':Hp),0<=r->r < m->C7 H' a (c+1)->j7 a H H'->Q (.int r) H'
theorem ac8:l7 ["pool","many","found","x"] ["pool","many"] (j5 Z6):=by rfl'
theorem bv3 {f:Addr}{fd:FuncData}(F:B0 K "_law_draw" "_law_draw" Z6 f fd):j9 P w K mg base C8 1 f fd ["pool","many"] ak4:=by
 refine F.ok ac8 (fun vs H Q E h=> ?_) (fun cdv A outer s H vs Q E hr h=> ?_)
 · obtain ⟨a,c,m,rfl,_⟩:=h;rfl
 · obtain ⟨a,c,m,rfl,⟨x,y,z,ha,hz,hzc⟩,hc,m0,m1,q⟩:=h
   refine ⟨_,g6 (C5 (o4 aq8 (A5 p5 (pv 0) i7 (fun _ _=>rfl)) i7 (m8 _))
       (g6 (i8 (i:=2) ac8.nd rfl (Or.inl rfl) (p9 S5 (A5 p5 (pv 0) i7 (fun _ _=>rfl)) (pv 1)))
       (g6 (W9 (p9 bo4 (A5 p5 (pv 0) i7 (fun _ _=>rfl)) (pv 1)) (W8 (pv 0) i7 N3))
       (i6 (m7 (pv 2))))) q9)
     (g6 (W9 (p9 G8 (A5 p5 (pv 0) i7 (fun _ _=>rfl)) i7) (W8 (pv 0) i7 N3))
     (g6 (i8 (i:=3) ac8.nd rfl (Or.inl rfl) (p9 S5 (p9 G8 (p9 S5 (A5 p5 (pv 0) i7 (fun _ _=>rfl)) i7) (p9 ai3 i7 (A5 p5 (pv 0) i7 (fun _ _=>rfl)))) i7))
     (g6 (i8 (i:=3) ac8.nd rfl (Or.inl rfl) (p9 S5 (p9 ai3 (pv 3) (pv 3)) i7))
     (g6 (i8 (i:=3) ac8.nd rfl (Or.inl rfl) (p9 S5 (p9 ai3 (p9 G8 (pv 3) i7) (pv 3)) i7))
     (i6 (m7 (p9 S5 (p9 bs1 (pv 3) i7) (pv 1)))))))),?_⟩
   refine ⟨_,rfl,a,_,_,_,rfl,rfl,i4.of ha,(D4 (j:=1) rfl),rfl,_,rfl,?_⟩;refine K7 (fun h=> ?_) (fun h=> ?_)
   · refine ⟨_,rfl,a,_,_,_,rfl,rfl,i4.of ha,(D4 (j:=0) rfl),_,rfl,_,_,rfl,rfl,m0,?_⟩;refine ⟨_,rfl,a,_,_,_,rfl,rfl,i4.of ha,(D4 (j:=0) rfl),_,rfl,_,_,rfl,rfl,⟨m0,m1⟩,?_⟩;refine ⟨_,rfl,a,_,_,0,rfl,rfl,ha,rfl,?_⟩;refine ⟨_,rfl,q _ _ (Int.emod_nonneg _ (by omega)) (Int.emod_lt_of_pos _ m0) ⟨_,_,_,c8,hz,by omega⟩ j7.upd⟩
   · refine ⟨_,rfl,a,_,_,_,rfl,rfl,i4.of ha,(D4 (j:=2) rfl),_,_,rfl,rfl,?_⟩;refine ⟨_,rfl,a,_,_,2,rfl,rfl,ha,rfl,?_⟩;have ha2:(c9 H a (.lst [.int x,.int y,.int (z+1)])) a=some (.lst [.int x,.int y,.int (z+1)]):=c8
     have e64:(2:Int)^64=18446744073709551616:=by decide
     refine ⟨_,rfl,a,_,_,_,rfl,rfl,i4.of ha2,(D4 (j:=0) rfl),_,_,rfl,rfl,(by show (0:Int) < 999999999989;decide),_,rfl,a,_,_,_,rfl,rfl,i4.of ha2,(D4 (j:=2) rfl),_,_,rfl,rfl,.inl ⟨by decide,by decide⟩,_,_,rfl,rfl,_,_,rfl,rfl,(by show (0:Int) < 999999999989;decide),?_⟩;refine ⟨_,rfl,_,rfl,_,_,rfl,rfl,.inl ⟨by rw[e64];omega,by rw[e64];omega⟩,_,_,rfl,rfl,(by show (0:Int) < 1000000000039;decide),?_⟩;refine ⟨_,rfl,_,_,rfl,rfl,_,rfl,_,_,rfl,rfl,.inl ⟨by rw[e64];omega,by rw[e64];omega⟩,_,_,rfl,rfl,(by show (0:Int) < 999999999961;decide),?_⟩;refine ⟨_,rfl,_,_,rfl,rfl,⟨by decide,by decide⟩,_,rfl,_,_,rfl,rfl,m0,?_⟩;exact q _ _ (Int.emod_nonneg _ (by omega)) (Int.emod_lt_of_pos _ m0) ⟨_,_,_,c8,by omega,by omega⟩ j7.upd
def ar2 (H:Hp)(l:Addr):Nat:=match H l with
 |some (.lst xs)=>xs.length
 |_=>0
theorem Z9 {H:Hp}{l:Addr}{xs:List V}(h:H l=some (.lst xs)):ar2 H l=xs.length:=by unfold ar2;rw[h]
def av1:Sp:=fun vs H Q _=>∃(a:Addr) (c:Nat) (m:Int),vs=[.ref a,.int m]/\C7 H a c/\0<=m/\m<=40/\c<=800000/\
 ∀(l:Addr) (p:List Int) (H':Hp),H l=none->l4 p->(p.length:Int)=m->H' l=some (.lst (p.map V.int))->C7 H' a (c+100)->j7 a H H'->Q (.ref l) H'
theorem K2:l7 ["pool","many","left","row","most","found","at","part","k","thing"] ["pool","many"] (j5 Z7):=by rfl'
theorem bv4 {f:Addr}{fd:FuncData}(F:B0 K "_law_turn" "_law_turn" Z7 f fd)(B:Bl mg)(cT:p6 P w K mg base "_law_draw" 1 ["pool","many"] ak4):j9 P w K mg base C8 2 f fd ["pool","many"] av1:=by
 refine F.ok K2 (fun vs H Q E h=> ?_) (fun cdv A outer s H vs Q E hr h=> ?_)
 · obtain ⟨a,c,m,rfl,_⟩:=h;rfl
 · obtain ⟨a,c,n,rfl,hp,n0,n1,hc,q⟩:=h;have hu:=U8 hr
   refine ⟨_,g6 (i8 (i:=2) K2.nd rfl (Or.inl rfl) (Y6 rfl B.list B.range (c6 (pv 1) c7)))
     (g6 (i8 (i:=3) K2.nd rfl (Or.inl rfl) (y8 c7))
     (g6 (S2 PassesOwn.never (o4 (ab8 0 hu) (pv 2) (y8 c7) (m8 _))
       (i6 (B6 (I0 (pv 3) (c6 (bo0 (pv 2) (c6 (i9 cT hr (c6 (pv 0) (c6 (o5 B.len (c6 (pv 2) c7)) c7))) c7)) c7)))))
     (g6 (C5 (o4 aq8 (i9 cT hr (c6 (pv 0) (c6 i7 c7))) i7 (m8 _)) (i6 (m7 (pv 3))) q9)
     (g6 (i8 (i:=4) K2.nd rfl (Or.inl rfl) (p9 G8 i7 (i9 cT hr (c6 (pv 0) (c6 i7 c7)))))
     (g6 (i8 (i:=5) K2.nd rfl (Or.inl rfl) (Y6 rfl B.list B.range (c6 (pv 1) c7)))
     (g6 (i8 (i:=6) K2.nd rfl (Or.inl rfl) i7)
     (g6 (S2 PassesOwn.never (o4 ai4 (pv 6) (pv 1) (m8 _))
       (g6 (i8 (i:=7) K2.nd rfl (Or.inl rfl) (ag7 al6 (pv 3) (ad6 (pv 6)) (ad6 (p9 G8 (p9 G8 (pv 6) i7) (i9 cT hr (c6 (pv 0) (c6 (pv 4) c7)))))))
       (g6 (C1 PassesOwn.never rfl (am0 B.enum (c6 (pv 7) c7)) (aa8 rfl (E3 (n4 (i:=8) K2.nd rfl (Or.inl rfl)) (E3 (n4 (i:=9) K2.nd rfl (Or.inl rfl)) W7)))
         (i6 (W9 (A5 p5 (pv 7) (p9 S5 (p9 G8 (pv 8) i7) (o5 B.len (c6 (pv 7) c7))) (fun _ _=>rfl)) (W8 (pv 5) (pv 9) N3))))
       (i6 (i8 (i:=6) K2.nd rfl (Or.inl rfl) (p9 G8 (pv 6) (o5 B.len (c6 (pv 7) c7))))))))
     (i6 (m7 (pv 5)))))))))),?_⟩
   obtain ⟨px,py,pz,hpa,hpz,hpz'⟩:=id hp;refine ⟨_,rfl,_,rfl,fun r hr'=>⟨r,0,n,rfl,c8,⟨by decide,by decide,by omega,by omega⟩,by omega,fun l hl=> ?_⟩⟩
   have hlr:l≠r:=fun z=>by rw[z,c8] at hl;cases hl
   have hl0:H l=none:=by rw[g8 hlr] at hl;exact hl
   have s1:e8 H (c9 (c9 H r (.rng 0 n)) l (.lst ((G9 0 (n - 0).toNat).map V.int))):=(e8.upd_new hr').upd_r hl0
   have e0:(n - 0).toNat=n.toNat:=by rw[Int.sub_zero]
   rw[e0] at s1;rw[e0];have h1l:(c9 (c9 H r (.rng 0 n)) l (.lst ((G9 0 n.toNat).map V.int))) l=some (.lst ((G9 0 n.toNat).map V.int)):=c8;generalize (c9 (c9 H r (.rng 0 n)) l (.lst ((G9 0 n.toNat).map V.int)))=H1 at s1 h1l ⊢;refine ⟨cl4 _,fun m hm=> ?_⟩;have hm0:H m=none:=s1.free hm;have nal:a≠l:=g7 hpa hl0;have nam:a≠m:=g7 hpa hm0
   have hml:m≠l:=fun z=>by rw[z,h1l] at hm;cases hm
   refine ag6 (fun σ H2=>∃(ls fs:List V),σ=[some (.ref a),some (.int n),some (.ref l),some (.ref m),none,none,none,none,none,none]/\H2 l=some (.lst ls)/\H2 m=some (.lst fs)/\(fs++ls).Perm ((G9 0 n.toNat).map V.int)/\C7 H2 a (c+fs.length)/\j7 a H H2) (fun σ H2=>ar2 H2 l)
     ⟨(G9 0 n.toNat).map V.int,[],rfl,by rw[g8 hml.symm];exact h1l,c8,List.Perm.refl _,⟨px,py,pz,by rw[g8 nam];exact s1 a _ hpa,hpz,hpz'⟩,fun b o hb _=>by rw[g8 (g7 hb hm0)];exact s1 b o hb⟩ ?_ ?_
   · rintro σ H2 ⟨ls,fs,rfl,h2l,h2m,pm,⟨x,y,z,h2a,hz0,hz1⟩,kb⟩;refine ⟨_,rfl,cl4 _,fun e he=> ?_⟩;have nle:l≠e:=g7 h2l he;have nme:m≠e:=g7 h2m he;have nae:a≠e:=g7 h2a he;refine ⟨l,e,ls,[],ls.isEmpty,rfl,rfl,i4.of (by rw[g8 nle];exact h2l),i4.of c8,al9 _ _ _ _,_,rfl,?_⟩
     have hlen:fs.length+ls.length=n.toNat:=by
       have:=pm.length_eq;rw[cj6,ci8,A0] at this;exact this
     cases ls with
     |nil=>
      refine A7 ?_;rw[cm1] at pm;obtain ⟨ts,rfl,hts⟩:=bh5 pm;obtain ⟨hT,hTl⟩:=E4 hts;rw[ci8] at hz1
      have h3m:(c9 H2 e (.lst [])) m=some (.lst (ts.map V.int)):=by rw[g8 nme];exact h2m
      have P3:C7 (c9 H2 e (.lst [])) a (c+40):=⟨x,y,z,by rw[g8 nae];exact h2a,hz0,by omega⟩
      have kb3:j7 a H (c9 H2 e (.lst [])):=fun b o hb hn=>by
        have:=kb b o hb hn;rw[g8 (g7 this he)];exact this
      generalize (c9 H2 e (.lst []))=H3 at h3m P3 kb3 ⊢;refine ⟨_,rfl,a,c+40,2,rfl,P3,by omega,by decide,by decide,fun r1 H4 r10 r11 P4 kb34=>⟨rfl,_,rfl,?_⟩⟩;have h4m:=kb34 m _ h3m nam.symm;have kb4:=kb3.trans kb34;refine K7 (fun _=>⟨_,rfl,q m ts H4 hm0 hT (by omega) h4m (P4.mono (by omega)) kb4⟩) (fun _=> ?_);refine ⟨_,rfl,a,c+41,4,rfl,P4,by omega,by decide,by decide,fun r2 H5 r20 r21 P5 kb45=>⟨_,_,rfl,rfl,?_⟩⟩;have h5m:=kb45 m _ h4m nam.symm;have kb5:=kb4.trans kb45;obtain ⟨x5,y5,z5,h5a,hz5,hz5'⟩:=id P5;refine ⟨_,rfl,_,rfl,fun r' hr''=>⟨r',0,n,rfl,c8,⟨by decide,by decide,by omega,by omega⟩,by omega,fun fo hfo=> ?_⟩⟩;rw[e0]
      have hfr:fo≠r':=fun z=>by rw[z,c8] at hfo;cases hfo
      have hfo5:H5 fo=none:=by rw[g8 hfr] at hfo;exact hfo
      have s6:e8 H5 (c9 (c9 H5 r' (.rng 0 n)) fo (.lst ((G9 0 n.toNat).map V.int))):=(e8.upd_new hr'').upd_r hfo5;have h6f:(c9 (c9 H5 r' (.rng 0 n)) fo (.lst ((G9 0 n.toNat).map V.int))) fo=some (.lst ((G9 0 n.toNat).map V.int)):=c8;generalize (c9 (c9 H5 r' (.rng 0 n)) fo (.lst ((G9 0 n.toNat).map V.int)))=H6 at s6 h6f ⊢;have h6m:=s6 m _ h5m;have naf:a≠fo:=g7 h5a hfo5;have hmf:m≠fo:=g7 h5m hfo5
      have hfo0:H fo=none:=by
        cases ee:H fo with
        |none=>rfl
        |some o=>have:=kb5 fo o ee naf.symm;rw[hfo5] at this;cases this
      have kb6:j7 a H H6:=fun b o hb hn=>s6 b o (kb5 b o hb hn)
      have P6:C7 H6 a (c+42):=⟨x5,y5,z5,s6 a _ h5a,hz5,hz5'⟩
      have mob:1<=1+r2/\1+r2<=4:=by omega
      obtain ⟨mo,hmo⟩:∃mo,mo=1+r2:=⟨_,rfl⟩;rw[<-hmo] at mob
      refine ⟨fun mm σ H7=>∃(fs qs:List Int) (k:Nat) (v7 v8 v9:Option V),σ=[some (.ref a),some (.int n),some (.ref l),some (.ref m),some (.int mo),some (.ref fo),some (.int (k:Int)),v7,v8,v9]/\k<=ts.length/\H7 fo=some (.lst (fs.map V.int))/\H7 m=some (.lst (ts.map V.int))/\fs.length=ts.length/\qs.Perm (ts.take k)/\(ts.take k).map (A2 fs)=qs.map some/\C7 H7 a (c+42+k)/\j7 a H H7/\mm=ts.length - k,
        ⟨ts.length,_,[],0,none,none,none,by rw[hmo];rfl,cl4 _,h6f,h6m,by rw[A0,hTl],List.Perm.refl _,rfl,P6,kb6,by omega⟩,?_⟩
      rintro mm σ H7 ⟨fs,qs,k,v7,v8,v9,rfl,hk,h7f,h7m,hfl,hq,hmap,P7,kb7,rfl⟩;refine ⟨_,rfl,_,rfl,_,_,rfl,rfl,_,rfl,?_⟩;refine K7 (fun hlt=> ?_) (fun hge=> ?_)
      · have hlt:(k:Int) < n:=of_decide_eq_true hlt
        have hkl:k < ts.length:=by omega
        refine ⟨fun σ' H'=>∃m',m' < ts.length - k/\_,fun _ _ h=>h,?_⟩;refine ⟨_,rfl,_,rfl,_,rfl,_,rfl,_,_,rfl,rfl,_,rfl,_,rfl,a,c+42+k,mo,rfl,P7,by omega,by omega,by omega,fun r3 H8 r30 r31 P8 kb78=>⟨_,_,rfl,rfl,_,rfl,?_⟩⟩;have h8m:=kb78 m _ h7m nam.symm;have h8f:=kb78 fo _ h7f naf.symm;have kb8:=kb7.trans kb78;refine ⟨m,_,rfl,i4.of h8m,fun pa hpa'=> ?_⟩;obtain ⟨rn,rfl⟩:=co9 r30
        have ecut:S6 (ts.map V.int) (some (k:Int)) (some ((k:Int)+1+(rn:Int)))=(((ts.drop k).take (min (k+1+rn) ts.length - k))).map V.int:=by
          rw[show (k:Int)+1+(rn:Int)=((k+1+rn:Nat):Int) by omega,bt5 _ _ _ (by rw[ci8];exact hk),ci8,List.map_take,List.map_drop]
        rw[ecut];obtain ⟨L,hL⟩:∃L,L=min (k+1+rn) ts.length - k:=⟨_,rfl⟩;rw[<-hL]
        have L1:1<=L:=by omega
        have hkL:k+L<=ts.length:=by omega
        have segL:((ts.drop k).take L).length=L:=by rw[cj9,cn4];omega
        have segAt:∀u,u < L->((ts.drop k).take L)[u]? =some (ts.getD (k+u) 0):=fun u hu=>by
          rw[cm0 hu,ct7,p8 (by omega),cj0 (by omega)]
        have s89:e8 H8 (c9 H8 pa (.lst (((ts.drop k).take L).map V.int))):=e8.upd_new hpa';have h9p:(c9 H8 pa (.lst (((ts.drop k).take L).map V.int))) pa=some (.lst (((ts.drop k).take L).map V.int)):=c8;generalize (c9 H8 pa (.lst (((ts.drop k).take L).map V.int)))=H9 at s89 h9p ⊢;obtain ⟨C3,hseg⟩:∃C3,C3=(ts.drop k).take L:=⟨_,rfl⟩;rw[<-hseg] at segL segAt h9p;have h9m:=s89 m _ h8m;have h9f:=s89 fo _ h8f
        have kb9:j7 a H H9:=fun b o hb hn=>s89 b o (kb8 b o hb hn)
        have P9:C7 H9 a (c+43+k):=by
          obtain ⟨x,y,z,e,z0,z1⟩:=id P8;exact ⟨x,y,z,s89 a _ e,z0,by omega⟩
        have npf:pa≠fo:=fun z=>by rw[z,h8f] at hpa';cases hpa'
        have npm:pa≠m:=fun z=>by rw[z,h8m] at hpa';cases hpa'
        refine ⟨_,rfl,pa,rfl,⟨_,i4.of h9p⟩,ah2 (K:=K) (a:=pa) (xs:=C3.map V.int) (fun j σ H10=>∃(fs':List Int) (v8' v9':Option V),σ=[some (.ref a),some (.int n),some (.ref l),some (.ref m),some (.int mo),some (.ref fo),some (.int (k:Int)),some (.ref pa),v8',v9']/\H10 fo=some (.lst (fs'.map V.int))/\H10 m=some (.lst (ts.map V.int))/\H10 pa=some (.lst (C3.map V.int))/\fs'.length=ts.length/\(ts.take k).map (A2 fs')=qs.map some/\(∀u,u < j->A2 fs' (ts.getD (k+u) 0)=some (ts.getD (k+(u+1)%L) 0))/\C7 H10 a (c+43+k)/\j7 a H H10)
          ⟨fs,v8,v9,rfl,h9f,h9m,h9p,hfl,hmap,fun u hu=>by omega,P9,kb9⟩ (fun j σ H10 _ zz=>by obtain ⟨_,_,_,_,_,_,h,_⟩:=zz;exact i4.of h) ?_ ?_⟩
        · rintro j y σ H10 t hj ⟨fs',v8',v9',rfl,h10f,h10m,h10p,hfl',hmap',hu',P10,kb10⟩ ht;obtain ⟨zz,hzz,rfl⟩:=D3 hj
          have hjL:j < L:=by rw[<-segL];exact (ci9.mp hzz).1
          have ezz:zz=ts.getD (k+j) 0:=by
            rw[segAt j hjL] at hzz;exact (Option.some.inj hzz).symm
          subst ezz;have hjm:(j+1)%L < L:=cy1 _ (by omega)
          have hi1:k+j < ts.length:=by omega
          have s1011:e8 H10 (c9 H10 t (.tup [.int (j:Int),.int (ts.getD (k+j) 0)])):=e8.upd_new ht;refine ⟨t,_,rfl,U5.of c8,rfl,_,_,rfl,_,_,rfl,rfl,?_⟩;generalize (c9 H10 t (.tup [.int (j:Int),.int (ts.getD (k+j) 0)]))=H11 at s1011 ⊢;have h11p:=s1011 pa _ h10p;have h11f:=s1011 fo _ h10f
          have hat1:atI (C3.map V.int) (((j:Int)+1)%((C3.map V.int).length:Int))=some (.int (ts.getD (k+(j+1)%L) 0)):=by
            rw[ci8,segL,show ((j:Int)+1)%(L:Int)=(((j+1)%L:Nat):Int) by rw[Int.natCast_emod];rfl];exact D4 (by rw[cj2,segAt _ hjm];rfl)
          refine ⟨_,rfl,_,rfl,_,_,rfl,rfl,_,rfl,pa,_,rfl,.inl (i4.of h11p),_,_,rfl,rfl,(by rw[ci8,segL];show (0:Int) < (L:Int);omega),pa,_,_,_,rfl,rfl,i4.of h11p,hat1,?_⟩
          have htv:ts.getD (k+j) 0∈ts:=by rw[p8 hi1];exact co3 hi1
          have t0:=hT.lo _ htv;have t1:=hT.hi _ htv;refine ⟨_,rfl,_,rfl,fo,_,_,(ts.getD (k+j) 0).toNat,rfl,rfl,h11f,?_,?_⟩
          · unfold X0;rw[ci8,if_pos t0,if_pos (by omega)]
          have es:(fs'.map V.int).set (ts.getD (k+j) 0).toNat (.int (ts.getD (k+(j+1)%L) 0))=(fs'.set (ts.getD (k+j) 0).toNat (ts.getD (k+(j+1)%L) 0)).map V.int:=by rw[cx7]
          rw[es];refine ⟨_,_,_,rfl,c8,by rw[g8 hmf];exact s1011 m _ h10m,by rw[g8 npf];exact h11p,by rw[ct2];exact hfl',?_,?_,?_,fun b o hb hn=>by rw[g8 (g7 hb hfo0)];exact s1011 b o (kb10 b o hb hn)⟩
          · rw[<-hmap']
            refine co5 fun u hu=> ?_
            have hut:=cp8 hu
            refine X1 (hT.lo u hut) t0 fun z=> ?_
            obtain ⟨jj,hjj⟩:=cn6.mp hu
            have hjk:jj < k:=by
              have:=(ci9.mp hjj).1;rw[cj9] at this;omega
            rw[cm0 hjk] at hjj;have:=(ci9.mp hjj).2;exact J6 hT.nd (i:=jj) (j:=k+j) (by omega) hi1 (by omega) (by rw[p8 (show jj < ts.length by omega),this];exact z)
          · intro u hu
            by_cases huj:u=j
            · subst huj;exact Y7 (by omega)
            · have huj':u < j:=by omega
              rw[X1 (hT.lo _ (by rw[p8 (show k+u < ts.length by omega)];exact co3 _)) t0 (J6 hT.nd (by omega) hi1 (by omega))];exact hu' u huj'
          · obtain ⟨x,y,z,e,z0,z1⟩:=id P10;exact ⟨x,y,z,by rw[g8 naf];exact s1011 a _ e,z0,z1⟩
        · rintro σ H10 ⟨fs',v8',v9',rfl,h10f,h10m,h10p,hfl',hmap',hu',P10,kb10⟩;rw[ci8,segL] at hu';obtain ⟨qs',hq',hmap''⟩:=bo2 L1 hkL hmap' hq hu';refine ⟨_,rfl,_,rfl,pa,_,rfl,.inl (i4.of h10p),_,_,rfl,rfl,ts.length - (k+L),by omega,fs',qs',k+L,some (.ref pa),v8',v9',?_,by omega,h10f,h10m,hfl',hq',hmap'',P10.mono (by omega),kb10,rfl⟩;rw[ci8,segL,show ((k+L:Nat):Int)=(k:Int)+(L:Int) by omega];rfl
      · have hge:¬(k:Int) < n:=fun z=>hge (decide_eq_true z)
        have hkl:k=ts.length:=by omega
        rw[hkl,cn0] at hq hmap;have:=(aj0 hT hfl hmap).trans (hq.trans hts);obtain ⟨hF,hFl⟩:=E4 this;exact ⟨_,rfl,q fo fs H7 hfo0 hF (by omega) h7f (P7.mono (by omega)) kb7⟩
     |cons g rr=>
      refine E6 ?_
      have h3m:(c9 H2 e (.lst [])) m=some (.lst fs):=by rw[g8 nme];exact h2m
      have h3l:(c9 H2 e (.lst [])) l=some (.lst (g::rr)):=by rw[g8 nle];exact h2l
      refine ⟨_,rfl,.inl ⟨rfl,_,i4.of h3m⟩,_,rfl,.inl ⟨rfl,_,i4.of h3l⟩,_,rfl,_,rfl,l,_,rfl,.inl (i4.of h3l),a,c+fs.length,_,rfl,⟨x,y,z,by rw[g8 nae];exact h2a,hz0,hz1⟩,by simp only[cl0] at hlen;omega,by simp only[cl0];omega,by simp only[cl0] at*;omega,?_⟩;intro j H4 j0 j1 ⟨x',y',z',h4a,hz0',hz1'⟩ kb4;have h4l:=kb4 l _ h3l nal.symm;have h4m:=kb4 m _ h3m nam.symm;obtain ⟨jn,rfl⟩:=co9 j0
      have hjl:jn < (g::rr).length:=by simp only[cl0] at j1 ⊢;omega
      refine ⟨l,_,_,jn,(g::rr)[jn],rfl,rfl,h4l,by omega,by simp only[cl0] at*;omega,?_,cj0 hjl,?_⟩
      · have:X0 (g::rr).length (jn:Int)=some jn:=by
          unfold X0;rw[if_pos (by omega),if_pos (by omega)];simp
        exact (al4 this).1
      have h5m:(c9 H4 l (.lst ((g::rr).eraseIdx jn))) m=some (.lst fs):=by rw[g8 hml];exact h4m
      refine ⟨m,_,_,rfl,rfl,h5m,l9 (by simp only[cl0] at hlen;omega),?_⟩
      have e5:(c9 (c9 H4 l (.lst ((g::rr).eraseIdx jn))) m (.lst (fs++[(g::rr)[jn]]))) l=some (.lst ((g::rr).eraseIdx jn)):=by rw[g8 hml.symm,c8]
      refine ⟨⟨_,_,rfl,e5,c8,?_,⟨x',y',z',by rw[g8 nam,g8 nal];exact h4a,hz0',by rw[cj6];exact hz1'⟩,?_⟩,?_⟩
      · have pe:=aj1 (l:=g::rr) (k:=jn) (cj0 hjl);refine List.Perm.trans ?_ pm;rw[cl1];exact List.Perm.append_left fs pe
      · intro b o hb hn;have b2:=kb b o hb hn
        have b3:(c9 H2 e (.lst [])) b=some o:=by rw[g8 (g7 b2 he)];exact b2
        have b4:=kb4 b o b3 hn;rw[g8 (g7 hb hm0),g8 (g7 hb hl0)];exact b4
      · rw[Z9 e5,Z9 h2l,List.length_eraseIdx_of_lt hjl];simp only[cl0] at*;omega
   · rintro σ H2 Q Q' hq ⟨v,hv,h1,h2⟩;refine ⟨v,hv,h1,fun e he=> ?_⟩;obtain ⟨a1,b1,xs1,ys1,r1,e1,e2,e3,e4,e5,k1,e6,e7⟩:=h2 e he;exact ⟨a1,b1,xs1,ys1,r1,e1,e2,e3,e4,e5,k1,e6,hq _ _ e7⟩
end
end My
namespace My
open PySem L2 Mth
section
variable {P:Program} {w:World} {K:PySem.W.Frag} {mg:Str->Option Value} {base:Heap}
def L6:Sp:=fun vs H Q _=>∃(a:Addr) (p:List Int),vs=[.ref a]/\o7 H a p/\
 ∀(l:Addr) (as:List Addr) (rs:List (List Int)) (H':Hp),H l=none->e8 H H'->H' l=some (.lst (as.map V.ref))->x6 H' as rs->r6 p p.length rs->(∀b∈as,H b=none)->as.Nodup->l∉as->Q (.ref l) H'
theorem P0 {H:Hp}{as:List Addr}{rs:List (List Int)}{e:Addr}{r:List Int}(h:x6 H as rs)(he:H e=some (.lst (r.map V.int))):x6 H (as++[e]) (rs++[r]):=by
 refine ⟨by rw[cj6,cj6,h.1];rfl,fun j b q h1 h2=> ?_⟩
 by_cases hj:j < as.length
 · rw[cm6 hj] at h1;rw[cm6 (by rw[<-h.1];exact hj)] at h2;exact h.2 j b q h1 h2
 · rw[cm8 (by omega)] at h1;rw[cm8 (by rw[<-h.1];omega),<-h.1] at h2
   have hj0:j - as.length=0:=by
     have:=(ci9.mp h1).1
     simpa using this
   rw[hj0] at h1 h2;cases h1;cases h2;exact he
theorem J2 {H H':Hp}{as:List Addr}{rs:List (List Int)}(h:x6 H as rs)(k:∀b∈as,∀o,H b=some o->H' b=some o):x6 H' as rs:=
 ⟨h.1,fun j a r h1 h2=>k a (ck5 h1) _ (h.2 j a r h1 h2)⟩
theorem ah7 {H:Hp}{as:List Addr}{rs:List (List Int)}(h:x6 H as rs){b:Addr}(hb:b∈as):∃r:List Int,H b=some (.lst (r.map V.int)):=by
 obtain ⟨j,hj⟩:=cn6.mp hb;have hjl:=(ci9.mp hj).1;exact ⟨_,h.2 j b (rs[j]'(by rw[<-h.1];exact hjl)) hj (cj0 _)⟩
theorem ac9 {p:List Int}{i:Nat}{rs:List (List Int)}(tp:l4 p)(h:r6 p i rs):rs.flatten.length<=p.length:=by
 refine D6 h.nd fun x hx=> ?_
 obtain ⟨r,hr,hxr⟩:=cl6.mp hx;obtain ⟨y,L,a,b,rfl,_⟩:=h.ring r hr;exact N7 tp a x hxr
theorem aa0 {p:List Int}{i:Nat}{rs:List (List Int)}(h:r6 p i rs):rs.length<=rs.flatten.length:=by
 have:∀l:List (List Int),(∀r∈l,1<=r.length)->l.length<=l.flatten.length:=by
   intro l
   induction l with
   |nil=>intro _;exact cj1 _
   |cons a r ih=>
    intro h;have h1:=h a cj5
    have h2:=ih fun x hx=>h x (cj8 _ hx)
    rw[co4,cj6,cl0];omega
 refine this rs fun r hr=> ?_
 obtain ⟨y,L,a,b,rfl,_⟩:=h.ring r hr;rw[o8];exact b.pos
end
end My
namespace My
open PySem L2 Mth
section
variable {P:Program} {w:World} {K:PySem.W.Frag} {mg:Str->Option Value} {base:Heap}
def av2:Sp:=fun vs H Q _=>∃(a:Addr) (p:List Int) (x:Int),vs=[.ref a,.int x]/\o7 H a p/\In p x/\
 ∀(l:Addr) (L:Nat) (H':Hp),H l=none->e8 H H'->G4 p x L->L<=40->H' l=some (.lst ((l5 p x L).map V.int))->Q (.ref l) H'
theorem ak5:l7 ["p","first","ring","thing"] ["p","first"] (j5 W1):=by rfl'
theorem bv5 {f:Addr}{fd:FuncData}(F:B0 K "walk_ring" "walk_ring" W1 f fd):j9 P w K mg base C8 1 f fd ["p","first"] av2:=by
 refine F.ok ak5 (fun vs H Q E h=> ?_) (fun cdv A outer s H vs Q E hr h=> ?_)
 · obtain ⟨a,p,x,rfl,_⟩:=h;rfl
 · obtain ⟨a,p,x,rfl,⟨ha,tp,lp⟩,hx,q⟩:=h
   refine ⟨_,g6 (i8 (i:=2) ak5.nd rfl (Or.inl rfl) (y8 (c6 (pv 1) c7)))
     (g6 (i8 (i:=3) ak5.nd rfl (Or.inl rfl) (A5 p5 (pv 0) (pv 1) (fun _ _=>rfl)))
     (g6 (S2 PassesOwn.never (o4 Y1 (pv 3) (pv 1) (m8 _)) (g6 (B6 (I0 (pv 2) (c6 (pv 3) c7))) (i6 (i8 (i:=3) ak5.nd rfl (Or.inl rfl) (A5 p5 (pv 0) (pv 3) (fun _ _=>rfl))))))
     (i6 (m7 (pv 2))))),?_⟩
   refine ⟨_,rfl,(by show 1<=sizeLine;decide),fun l hl=> ?_⟩;have nal:a≠l:=g7 ha hl
   have hal:(c9 H l (.lst [.int x])) a=some (.lst (p.map V.int)):=by rw[g8 nal];exact ha
   refine ⟨_,rfl,_,rfl,a,_,_,_,rfl,rfl,i4.of hal,J5 hx.1 hx.2,?_⟩
   refine ag6 (fun σ H2=>∃m:Nat,σ=[some (.ref a),some (.int x),some (.ref l),some (.int (it p m x))]/\1<=m/\H2 l=some (.lst ((l5 p x m).map V.int))/\e8 H H2/\∀i,0 < i->i < m->it p i x≠x) (fun _ H2=>p.length+1 - ar2 H2 l)
     ⟨1,rfl,cj1 _,c8,e8.upd_new hl,fun i i0 i1=>by omega⟩ ?_ ?_
   · rintro σ H2 ⟨m,rfl,m1,h2l,s2,hne⟩;have ha2:=s2 a _ ha;refine ⟨_,rfl,_,rfl,rfl,_,rfl,?_⟩
     by_cases hb:it p m x=x
     · refine U9 (congrArg V.int hb) ?_;exact ⟨_,rfl,q l m H2 hl s2 ⟨by omega,hb,hne⟩ (by have:=G3 tp hx hne;omega) h2l⟩
     · have hb':¬V.int (it p m x)=V.int x:=fun z=>hb (V.int.inj z)
       rw[decide_eq_false hb'];refine E6 ?_
       have hne':∀i,0 < i->i < m+1->it p i x≠x:=fun i i0 i1=>by
         by_cases e:i=m
         · rw[e];exact hb
         · exact hne i i0 (by omega)
       have hbd:=G3 tp hx hne';refine ⟨_,rfl,.inl ⟨rfl,_,i4.of h2l⟩,_,rfl,l,_,_,rfl,rfl,h2l,l9 (by rw[ci8,o8];omega),?_⟩;have hi:=G2 tp hx m;refine ⟨_,rfl,_,rfl,a,_,_,_,rfl,rfl,i4.of (by rw[g8 nal];exact ha2),J5 hi.1 hi.2,?_⟩
       have h3l:(c9 H2 l (.lst ((l5 p x m).map V.int++[.int (it p m x)]))) l=some (.lst ((l5 p x (m+1)).map V.int)):=by
         rw[c8,aj4,ck4];rfl
       refine ⟨⟨m+1,rfl,by omega,h3l,fun b o hb=>by rw[g8 (g7 hb hl)];exact s2 b o hb,hne'⟩,?_⟩;rw[Z9 h3l,Z9 h2l,ci8,ci8,o8,o8];omega
   · rintro σ H2 Q Q' hq ⟨v,hv,u,hu,e1,k1,e2,e3⟩;exact ⟨v,hv,u,hu,e1,k1,e2,hq _ _ e3⟩
theorem R6:l7 ["p","rings","seen","first","ring","thing"] ["p"] (j5 T5):=by rfl'
theorem bp6 {f:Addr}{fd:FuncData}(F:B0 K "walk_rings" "walk_rings" T5 f fd)(B:Bl mg)(cR:p6 P w K mg base "walk_ring" 1 ["p","first"] av2):j9 P w K mg base C8 2 f fd ["p"] L6:=by
 refine F.ok R6 (fun vs H Q E h=> ?_) (fun cdv A outer s H vs Q E hr h=> ?_)
 · obtain ⟨a,p,rfl,_⟩:=h;rfl
 · obtain ⟨a,p,rfl,⟨ha,tp,lp⟩,q⟩:=h;have hu:=U8 hr
   refine ⟨_,g6 (i8 (i:=1) R6.nd rfl (Or.inl rfl) (y8 c7)) (g6 (i8 (i:=2) R6.nd rfl (Or.inl rfl) S7)
     (g6 (C1 PassesOwn.never rfl (E2 (by rfl) B.range (c6 (o5 B.len (c6 (pv 0) c7)) c7)) (n4 (i:=3) R6.nd rfl (Or.inl rfl))
       (i6 (C5 (W5 (ab3 hu (pv 3) (pv 2))) (g6 (i8 (i:=4) R6.nd rfl (Or.inl rfl) (i9 cR hr (c6 (pv 0) (c6 (pv 3) c7)))) (g6 (B6 (I0 (pv 1) (c6 (pv 4) c7)))
         (i6 (C1 PassesOwn.never rfl (K9 (pv 4)) (n4 (i:=5) R6.nd rfl (Or.inl rfl)) (i6 (ae1 hu (pv 2) (pv 5) D9 rfl)))))) q9)))
     (i6 (m7 (pv 1))))),?_⟩
   refine ⟨cl4 _,fun l hl=> ?_⟩;intro d hd
   have hdl:d≠l:=fun z=>by rw[z,c8] at hd;cases hd
   have hd0:H d=none:=by rw[g8 hdl] at hd;exact hd
   have s0:e8 H (c9 (c9 H l (.lst [])) d (.dK [])):=(e8.upd_new hl).upd_r hd0
   have h0l:(c9 (c9 H l (.lst [])) d (.dK [])) l=some (.lst []):=by rw[g8 hdl.symm,c8]
   refine ⟨_,rfl,a,_,rfl,.inl (i4.of (s0 a _ ha)),(p.length:Int),?_,by omega,by omega,?_⟩
   · rw[ci8]
   rw[show ((p.length:Int)).toNat=p.length by omega]
   refine G7 (lo:=0) (n:=p.length) (fun i σ H2=>∃(as:List Addr) (rs:List (List Int)) (v3 v4 v5:Option V),σ=[some (.ref a),some (.ref l),some (.ref d),v3,v4,v5]/\H2 l=some (.lst (as.map V.ref))/\H2 d=some (.dK (G1 rs.flatten))/\x6 H2 as rs/\r6 p i rs/\e8 H H2/\(∀b∈as,H b=none)/\as.Nodup/\l∉as)
     ⟨[],[],none,none,none,rfl,h0l,c8,⟨rfl,fun j b r h=>by simp at h⟩,Y8 p,s0,fun b hb=>by simp at hb,cq3,by simp⟩ ?_ ?_
   · rintro i σ H2 hi ⟨as,rs,v3,v4,v5,rfl,h2l,h2d,rows,up,s2,fa,nda,nla⟩;have hx:In p (i:Int):=⟨by omega,by omega⟩
     have e0:(0:Int)+(i:Int)=(i:Int):=by omega
     rw[e0];refine ⟨_,rfl,_,rfl,d,_,rfl,J8.k (k:=Sum.inl (i:Int)) h2d,_,rfl,?_⟩
     by_cases hm:(i:Int)∈rs.flatten
     · rw[ah1 hm];refine A7 ?_;exact ⟨as,rs,_,_,_,rfl,h2l,h2d,rows,Y9 up hm,s2,fa,nda,nla⟩
     · rw[Y5 hm];refine E6 ?_;refine ⟨_,rfl,_,rfl,a,p,_,rfl,⟨s2 a _ ha,tp,lp⟩,hx,fun e L H3 he s23 pr hL h3e=> ?_⟩;have h3l:=s23 l _ h2l;have h3d:=s23 d _ h2d;have nle:l≠e:=g7 h2l he;have nde:d≠e:=g7 h2d he;have fl:=ac9 tp up;have cl:=aa0 up;have lenas:=rows.1;refine ⟨_,rfl,.inl ⟨rfl,_,i4.of h3l⟩,_,rfl,l,_,_,rfl,rfl,h3l,l9 (by rw[ci8,lenas];omega),?_⟩
       have es:as.map V.ref++[V.ref e]=(as++[e]).map V.ref:=by rw[ck4];rfl
       rw[es];have h4l:(c9 H3 l (.lst ((as++[e]).map V.ref))) l=some (.lst ((as++[e]).map V.ref)):=c8
       have h4d:(c9 H3 l (.lst ((as++[e]).map V.ref))) d=some (.dK (G1 rs.flatten)):=by rw[g8 hdl];exact h3d
       have h4e:(c9 H3 l (.lst ((as++[e]).map V.ref))) e=some (.lst ((l5 p i L).map V.int)):=by rw[g8 nle.symm];exact h3e
       have k4:∀b o,H2 b=some o->b≠l->(c9 H3 l (.lst ((as++[e]).map V.ref))) b=some o:=fun b o hb hn=>by rw[g8 hn];exact s23 b o hb
       generalize (c9 H3 l (.lst ((as++[e]).map V.ref)))=H4 at h4l h4d h4e k4 ⊢;have fr:=V8 up pr hm
       have ndr:=V7 tp hx fun j j0 j1=>pr.least j j0 j1
       refine ⟨_,rfl,e,rfl,⟨_,i4.of h4e⟩,S4 (K:=K) (a:=e) (xs:=(l5 p i L).map V.int) (fun j σ H5=>∃v5':Option V,σ=[some (.ref a),some (.ref l),some (.ref d),some (.int (i:Int)),some (.ref e),v5']/\H5 d=some (.dK (G1 (rs.flatten++(l5 p i L).take j)))/\j7 d H4 H5)
         ⟨v5,rfl,by rw[cu0,cm1];exact h4d,j7.refl d H4⟩ (fun j σ H5 _ zz=>by obtain ⟨_,_,_,k⟩:=zz;exact i4.of (k e _ h4e nde.symm)) ?_ ?_⟩
       · rintro j y σ H5 hj ⟨v5',rfl,h5d,kb⟩;obtain ⟨z,hz,rfl⟩:=D3 hj;have hjl:j < (l5 p i L).length:=(ci9.mp hz).1;rw[o8] at hjl
         have hzn:z∉rs.flatten++(l5 p i L).take j:=by
           intro hm'
           rcases ck7.mp hm' with g|g
           · exact fr z (ck5 hz) g
           · obtain ⟨jj,hjj⟩:=cn6.mp g
             have hjk:jj < j:=by
               have:=(ci9.mp hjj).1;rw[cj9] at this;omega
             rw[cm0 hjk] at hjj;have e1:=(ci9.mp hjj).2;have e2:=(ci9.mp hz).2;exact ck3.mp (ck9.mp ndr) jj j (by rw[o8];omega) (by rw[o8];omega) hjk (by rw[e1,e2])
         refine ⟨_,rfl,_,rfl,d,_,rfl,ab2.k (k:=Sum.inl z) h5d (l9 (by unfold G1;rw[ci8,cj6,cj9,o8];omega)),?_⟩;refine ⟨_,rfl,?_,kb.upd_a⟩;rw[ac2 hzn,c8,o9 hz,cl1]
       · rintro σ H5 ⟨v5',rfl,h5d,kb⟩;rw[ci8,cn0] at h5d
         have nad:∀b∈as,b≠d/\b≠l:=fun b hb=>by
           obtain ⟨r,hr'⟩:=ah7 rows hb;exact ⟨bq5 hr' h2d (by intro z;cases z),fun z=>nla (z▸hb)⟩
         refine ⟨as++[e],rs++[l5 p i L],_,_,_,rfl,kb l _ h4l hdl.symm,?_,?_,Z0 tp up hx pr hm,?_,?_,?_,?_⟩
         · rw[h5d,ct0,cr9]
         · exact P0 (J2 rows fun b hb o ho=>kb b o (k4 b o ho (nad b hb).2) (nad b hb).1) (kb e _ h4e nde.symm)
         · exact fun b o hb=>kb b o (k4 b o (s2 b o hb) (g7 hb hl)) (g7 hb hd0)
         · intro b hb
           rcases ck7.mp hb with g|g
           · exact fa b g
           · have:b=e:=by simpa using g
             rw[this];exact s2.free he
         · refine ae2 nda fun g=> ?_
           obtain ⟨r,hr'⟩:=ah7 rows g;rw[he] at hr';cases hr'
         · intro g
           rcases ck7.mp g with g|g
           · exact nla g
           · exact nle (by simpa using g)
   · rintro σ H2 ⟨as,rs,v3,v4,v5,rfl,h2l,h2d,rows,up,s2,fa,nda,nla⟩;exact ⟨_,rfl,q l as rs H2 hl s2 h2l rows up fa nda nla⟩
end
end My
namespace My
open PySem L2 Mth
section
variable {P:Program} {w:World} {K:PySem.W.Frag} {mg:Str->Option Value} {base:Heap}
theorem bd0:l7 ["p"] ["p"] (j5 K1):=by rfl'
theorem ag0 {f:Addr}{fd:FuncData}(F:B0 K "rounds_of" "rounds_of" K1 f fd)(cM:p6 P w K mg base "must_be_turn" 3 ["thing"] U0)(cR:p6 P w K mg base "walk_rings" 2 ["p"] L6):j9 P w K mg base C8 4 f fd ["p"] L6:=by
 refine F.ok bd0 (fun vs H Q E h=> ?_) (fun cdv A outer s H vs Q E hr h=> ?_)
 · obtain ⟨a,p,rfl,_⟩:=h;rfl
 · obtain ⟨a,p,rfl,⟨ha,tp,lp⟩,q⟩:=h;refine ⟨_,g6 (B6 (i9 cM hr (c6 (pv 0) c7))) (i6 (m7 (i9 cR (hr.mono (by decide)) (c6 (pv 0) c7)))),?_⟩;refine ⟨_,rfl,a,p,rfl,⟨ha,tp,lp⟩,fun H1 s1=> ?_⟩;exact ⟨_,rfl,a,p,rfl,⟨s1 a _ ha,tp,lp⟩,fun l as rs H' hl s' h1 h2 h3 h4 h5 h6=>q l as rs H' (s1.free hl) (s1.trans s') h1 h2 h3 (fun b hb=>s1.free (h4 b hb)) h5 h6⟩
end
end My
namespace My
open PySem L2 Mth
section
variable {P:Program} {w:World} {K:PySem.W.Frag} {mg:Str->Option Value} {base:Heap}
noncomputable def n6 (p:List Int):List Int:=(j8 p p.length).map fun r=>(r.length:Int)
def av3:Sp:=fun vs H Q _=>∃(a:Addr) (p:List Int),vs=[.ref a]/\o7 H a p/\∀(l:Addr) (ms:List Int) (H':Hp),H l=none->e8 H H'->ms.Perm (n6 p)->ms.Pairwise (· ≥ ·)->(∀x∈ms,1<=x/\x<=40)->ms.length<=40->H' l=some (.lst (ms.map V.int))->Q (.ref l) H'
theorem ca6:l7 ["p"] ["p"] (j5 ac5):=by rfl'
theorem ca7:(["ring"]:List Str).Nodup:=by decide+kernel
theorem bv6 {p:List Int}{rs:List (List Int)}(tp:l4 p)(lp:p.length<=40)(up:r6 p p.length rs):(∀x∈rs.map (fun r=>(r.length:Int)),1<=x/\x<=40)/\rs.length<=40:=by
 refine ⟨fun x hx=> ?_,by have:=aa0 up;have:=ac9 tp up;omega⟩;obtain ⟨r,hr,rfl⟩:=ck6.mp hx;obtain ⟨y,L,hy,pr,er,_⟩:=up.ring r hr
 have:=G3 tp hy (m:=L) fun i i0 i1=>pr.least i i0 i1
 have:=pr.pos;rw[er,o8];omega
theorem bv7 {f:Addr}{fd:FuncData}(F:B0 K "kind_of" "kind_of" ac5 f fd)(B:Bl mg)(bs:mg "sorted"=none)(cR:p6 P w K mg base "rounds_of" 4 ["p"] L6):j9 P w K mg base C8 5 f fd ["p"] av3:=by
 refine F.ok ca6 (fun vs H Q E h=> ?_) (fun cdv A outer s H vs Q E hr h=> ?_)
 · obtain ⟨a,p,rfl,_⟩:=h;rfl
 · obtain ⟨a,p,rfl,⟨ha,tp,lp⟩,q⟩:=h;refine ⟨_,i6 (m7 (at5 bs (c6 (al8 (N:=["ring"]) (nl:=1) (fr:=[]) rfl .of (K9 (i9 cR hr (c6 (pv 0) c7))) (fun _ _ _ _ _=>n4 (i:=0) ca7 rfl (Or.inl rfl)) (fun _ _ _ _ _=>ah0) (fun _ _ _ _ _=>bo1 K B.len (c6 (pv 0) c7))) c7))),?_⟩;refine ⟨_,rfl,a,p,rfl,⟨ha,tp,lp⟩,fun l as rs H1 hl s1 h1l rows up fa nda nla=> ?_⟩;obtain ⟨bd,lrs⟩:=bv6 tp lp up;refine ⟨l,rfl,⟨_,i4.of h1l⟩,ab7 (K:=K) (a:=l) (xs:=as.map V.ref) (fun i ys σ H2=>∃v:Option V,σ=[v]/\H2=H1/\ys=((rs.take i).map fun r=>(r.length:Int)).map V.int) ⟨none,rfl,rfl,rfl⟩ (fun i ys σ H2 _ zz=>by obtain ⟨_,_,e,_⟩:=zz;rw[e];exact i4.of h1l) ?_ ?_⟩
   · rintro i y ys σ H2 hi ⟨v,rfl,rfl,rfl⟩;rw[cj2] at hi
     cases hA:as[i]? with
     |none=>rw[hA] at hi;cases hi
     |some e=>
      rw[hA] at hi;cases hi;have hil:i < as.length:=(ci9.mp hA).1;have hri:rs[i]? =some (rs[i]'(by rw[<-rows.1];exact hil)):=cj0 _;generalize (rs[i]'(by rw[<-rows.1];exact hil))=r at hri;have he:=rows.2 i e r hA hri;refine ⟨_,rfl,e,_,rfl,.inl (i4.of he),l9 (by rw[ci8,ci8,cj9];omega),_,rfl,rfl,?_⟩;rw[o9 hri,ck4,ck4,ci8];rfl
   · rintro ys σ H2 ⟨v,rfl,rfl,rfl⟩ D hD;rw[ci8,rows.1,cn0];have s2:e8 H2 (c9 H2 D (.lst ((rs.map fun r=>(r.length:Int)).map V.int))):=e8.upd_new hD;refine ⟨D,_,rfl,i4.of c8,by rw[ci8];omega,fun ms l2 pm srt hl2=> ?_⟩
     have hlD:l2≠D:=fun z=>by rw[z,c8] at hl2;cases hl2
     have hl22:H2 l2=none:=by rw[g8 hlD] at hl2;exact hl2
     have ek:rs.map (fun r=>(r.length:Int))=n6 p:=by unfold n6;rw[<-up.eq]
     refine q l2 ms _ (s1.free hl22) ((s1.trans s2).upd_r (s1.free hl22)) (by rw[<-ek];exact pm) srt (fun x hx=>bd x (pm.mem_iff.mp hx)) (by rw[pm.length_eq,ci8];exact lrs) c8
end
end My
namespace My
open PySem L2 Mth
section
variable {P:Program} {w:World} {K:PySem.W.Frag} {mg:Str->Option Value} {base:Heap}
theorem cg8:l7 ["p","q"] ["p","q"] (j5 T6):=by rfl'
theorem cg9:(["thing","p"]:List Str).Nodup:=by decide+kernel
theorem av4 {f:Addr}{fd:FuncData}(F:B0 K "_law_behind" "_law_behind" T6 f fd):j9 P w K mg base C8 1 f fd ["p","q"] Z8:=by
 refine F.ok cg8 (fun vs H Q E h=> ?_) (fun cdv A outer s H vs Q E hr h=> ?_)
 · obtain ⟨a,b,p,q,rfl,_⟩:=h;rfl
 · obtain ⟨a,b,p,q,rfl,⟨ha,ta,la⟩,⟨hb,tb,lb⟩,hl,k⟩:=h;refine ⟨_,i6 (m7 (al8 (N:=["thing","p"]) (nl:=1) (fr:=[0]) rfl .of (K9 (pv 1)) (fun _ _ _ _ _=>n4 (i:=0) cg9 rfl (Or.inl rfl)) (fun _ _ _ _ _=>ah0) (fun _ _ _ _ _=>A5 (r:=al5 K) p5 (pv 1) (pv 0) (fun _ _=>rfl)))),?_⟩;refine ⟨_,rfl,b,rfl,⟨_,i4.of hb⟩,ab7 (K:=K) (a:=b) (xs:=q.map V.int) (fun i ys σ H3=>∃v,σ=[v,some (.ref a)]/\H3=H/\ys=(l8 p (q.take i)).map V.int) ⟨none,rfl,rfl,rfl⟩ (fun i ys σ H3 _ zz=>by obtain ⟨_,_,e,_⟩:=zz;rw[e];exact i4.of hb) ?_ ?_⟩
   · rintro i x ys σ H3 hi ⟨v,rfl,rfl,rfl⟩;obtain ⟨z,hz,rfl⟩:=D3 hi;have hzq:=ck5 hz;refine ⟨_,rfl,_,rfl,a,_,z,_,rfl,rfl,i4.of ha,J5 (tb.lo z hzq) (by have:=tb.hi z hzq;omega),?_,?_⟩
     · refine l9 ?_;unfold l8;rw[ci8,ci8,cj9];omega
     · refine ⟨_,rfl,rfl,?_⟩;rw[o9 hz];unfold l8;rw[ck4,ck4];rfl
   · rintro ys σ H3 ⟨v,rfl,rfl,rfl⟩ D hD;rw[ci8,cn0];exact k D _ hD (e8.upd_new hD) c8
def an1:Sp:=fun vs H Q _=>∃(a:Addr) (p:List Int),vs=[.ref a]/\o7 H a p/\∀(l:Addr) (t:List Int) (H':Hp),H l=none->e8 H H'->l4 t->t.length=p.length->H' l=some (.lst (t.map V.int))->Q (.ref l) H'
theorem ae9:l7 ["p","found","i","place"] ["p"] (j5 M4):=by rfl'
theorem bd3 {f:Addr}{fd:FuncData}(F:B0 K "_law_back" "_law_back" M4 f fd)(B:Bl mg):j9 P w K mg base C8 1 f fd ["p"] an1:=by
 refine F.ok ae9 (fun vs H Q E h=> ?_) (fun cdv A outer s H vs Q E hr h=> ?_)
 · obtain ⟨a,p,rfl,_⟩:=h;rfl
 · obtain ⟨a,p,rfl,⟨ha,tp,lp⟩,q⟩:=h
   refine ⟨_,g6 (i8 (i:=1) ae9.nd rfl (Or.inl rfl) (p9 bg1 (y8 (c6 i7 c7)) (o5 B.len (c6 (pv 0) c7))))
     (g6 (C1 PassesOwn.never rfl (am0 B.enum (c6 (pv 0) c7)) (aa8 rfl (E3 (n4 (i:=2) ae9.nd rfl (Or.inl rfl)) (E3 (n4 (i:=3) ae9.nd rfl (Or.inl rfl)) W7)))
       (i6 (W9 (pv 2) (W8 (pv 1) (pv 3) N3))))
     (i6 (m7 (pv 1)))),?_⟩
   refine ⟨(by show 1<=sizeLine;decide),fun e he=> ?_⟩;have nae:a≠e:=g7 ha he;refine ⟨_,rfl,a,_,rfl,.inl (i4.of (by rw[g8 nae];exact ha)),?_⟩;rw[ci8];refine ⟨e,_,_,rfl,rfl,c8,by omega,by omega,by show 1*_<=sizeLine;rw[sizeLine_eq];omega,fun n hn=> ?_⟩;rw[show ((p.length:Nat):Int).toNat=p.length by omega,at3]
   have hne:n≠e:=fun z=>by rw[z,c8] at hn;cases hn
   have hn0:H n=none:=by rw[g8 hne] at hn;exact hn
   have s1:e8 H (c9 (c9 H e (.lst [.int 0])) n (.lst ((cl3 p.length (0:Int)).map V.int))):=(e8.upd_new he).upd_r hn0;have h1n:(c9 (c9 H e (.lst [.int 0])) n (.lst ((cl3 p.length (0:Int)).map V.int))) n=some (.lst ((cl3 p.length (0:Int)).map V.int)):=c8;generalize (c9 (c9 H e (.lst [.int 0])) n (.lst ((cl3 p.length (0:Int)).map V.int)))=H1 at s1 h1n ⊢;have h1a:=s1 a _ ha;have nan:a≠n:=g7 ha hn0
   refine ⟨_,rfl,a,rfl,⟨_,i4.of h1a⟩,ah2 (K:=K) (a:=a) (xs:=p.map V.int) (fun j σ H2=>∃(fs:List Int) (v2 v3:Option V),σ=[some (.ref a),some (.ref n),v2,v3]/\H2 n=some (.lst (fs.map V.int))/\fs.length=p.length/\(∀u,u < j->A2 fs (p.getD u 0)=some (u:Int))/\e8 H H2)
     ⟨_,none,none,rfl,h1n,by rw[cq6],fun u hu=>by omega,s1⟩ (fun j σ H2 _ zz=>by obtain ⟨_,_,_,_,_,_,_,s⟩:=zz;exact i4.of (s a _ ha)) ?_ ?_⟩
   · rintro j y σ H2 t hj ⟨fs,v2,v3,rfl,h2n,hfl,hu,s2⟩ ht;obtain ⟨z,hz,rfl⟩:=D3 hj;have hjl:j < p.length:=(ci9.mp hz).1
     have ez:z=p.getD j 0:=by rw[p8 hjl];exact (ci9.mp hz).2.symm
     subst ez;have s23:e8 H2 (c9 H2 t (.tup [.int (j:Int),.int (p.getD j 0)])):=e8.upd_new ht;refine ⟨t,_,rfl,U5.of c8,rfl,_,_,rfl,_,_,rfl,rfl,?_⟩;generalize (c9 H2 t (.tup [.int (j:Int),.int (p.getD j 0)]))=H3 at s23 ⊢;have h3n:=s23 n _ h2n;obtain ⟨t0,t1⟩:=S9 tp hjl;refine ⟨_,rfl,_,rfl,_,rfl,n,_,_,(p.getD j 0).toNat,rfl,rfl,h3n,?_,?_⟩
     · unfold X0;rw[ci8,if_pos t0,if_pos (by omega)]
     have es:(fs.map V.int).set (p.getD j 0).toNat (.int (j:Int))=(fs.set (p.getD j 0).toNat (j:Int)).map V.int:=by rw[cx7]
     rw[es];refine ⟨_,_,_,rfl,c8,by rw[ct2];exact hfl,?_,fun b o hb=>by rw[g8 (g7 hb hn0)];exact s23 b o (s2 b o hb)⟩;intro u hu2
     by_cases huj:u=j
     · subst huj;exact Y7 (by omega)
     · rw[X1 (S9 tp (show u < p.length by omega)).1 t0 (J6 tp.nd (by omega) hjl huj)];exact hu u (by omega)
   · rintro σ H2 ⟨fs,v2,v3,rfl,h2n,hfl,hu,s2⟩;rw[ci8] at hu;obtain ⟨tf,lf⟩:=E4 (ap0 tp hfl hu);exact ⟨_,rfl,q n fs H2 hn0 s2 tf hfl h2n⟩
noncomputable def C0 (p:List Int):List Int:=(cl8 p.length).map fun (i:Nat)=>(A6 p (i:Int):Int)
def ak6:Sp:=fun vs H Q _=>∃(a:Addr) (p:List Int),vs=[.ref a]/\o7 H a p/\∀(l:Addr) (H':Hp),H l=none->e8 H H'->H' l=some (.lst ((C0 p).map V.int))->Q (.ref l) H'
theorem U1:l7 ["p","found","i","here","many"] ["p"] (j5 Q2):=by rfl'
def ca8 (σ:St):Nat:=match σ[4]? with
 |some (some (V.int i))=>i.toNat
 |_=>0
theorem ak7 (n i:Nat)(h:i < n):(cl8 n).take (i+1)=(cl8 n).take i++[i]:=by
 rw[List.take_range,List.take_range,ct6 (by omega),ct6 (by omega),ct4]
theorem bv8 {f:Addr}{fd:FuncData}(F:B0 K "_law_lengths" "_law_lengths" Q2 f fd)(B:Bl mg):j9 P w K mg base C8 1 f fd ["p"] ak6:=by
 refine F.ok U1 (fun vs H Q E h=> ?_) (fun cdv A outer s H vs Q E hr h=> ?_)
 · obtain ⟨a,p,rfl,_⟩:=h;rfl
 · obtain ⟨a,p,rfl,⟨ha,tp,lp⟩,q⟩:=h
   refine ⟨_,g6 (i8 (i:=1) U1.nd rfl (Or.inl rfl) (y8 c7))
     (g6 (C1 PassesOwn.never rfl (E2 (by rfl) B.range (c6 (o5 B.len (c6 (pv 0) c7)) c7)) (n4 (i:=2) U1.nd rfl (Or.inl rfl))
       (g6 (i8 (i:=3) U1.nd rfl (Or.inl rfl) (A5 p5 (pv 0) (pv 2) (fun _ _=>rfl)))
       (g6 (i8 (i:=4) U1.nd rfl (Or.inl rfl) i7)
       (g6 (S2 PassesOwn.never (o4 Y1 (pv 3) (pv 2) (m8 _)) (g6 (i8 (i:=3) U1.nd rfl (Or.inl rfl) (A5 p5 (pv 0) (pv 3) (fun _ _=>rfl))) (i6 (i8 (i:=4) U1.nd rfl (Or.inl rfl) (p9 G8 (pv 4) i7)))))
       (i6 (B6 (I0 (pv 1) (c6 (pv 4) c7))))))))
     (i6 (m7 (pv 1)))),?_⟩
   refine ⟨cl4 _,fun l hl=> ?_⟩;have nal:a≠l:=g7 ha hl;have s1:e8 H (c9 H l (.lst [])):=e8.upd_new hl;have h1l:(c9 H l (.lst [])) l=some (.lst []):=c8;generalize (c9 H l (.lst []))=H1 at s1 h1l ⊢;refine ⟨_,rfl,a,_,rfl,.inl (i4.of (s1 a _ ha)),?_⟩;rw[ci8]
   refine ⟨_,rfl,by omega,by omega,G7 (lo:=0) (n:=((p.length:Nat):Int).toNat) (fun i σ H2=>∃(v2 v3 v4:Option V),σ=[some (.ref a),some (.ref l),v2,v3,v4]/\H2 l=some (.lst ((((cl8 p.length).take i).map fun (i:Nat)=>(A6 p (i:Int):Int)).map V.int))/\e8 H H2)
     ⟨none,none,none,rfl,h1l,s1⟩ ?_ ?_⟩
   · rintro i σ H2 hi ⟨v2,v3,v4,rfl,h2l,s2⟩
     have hil:i < p.length:=by omega
     have hx:In p (0+(i:Int)):=⟨by omega,by omega⟩;refine ⟨_,rfl,_,rfl,a,_,_,_,rfl,rfl,i4.of (s2 a _ ha),J5 hx.1 hx.2,?_⟩
     refine ag6 (fun σ H3=>∃m:Nat,σ=[some (.ref a),some (.ref l),some (.int (0+(i:Int))),some (.int (it p m (0+(i:Int)))),some (.int (m:Int))]/\1<=m/\H3=H2/\∀j,0 < j->j < m->it p j (0+(i:Int))≠0+(i:Int)) (fun σ _=>p.length+1 - ca8 σ)
       ⟨1,rfl,cj1 _,rfl,fun i i0 i1=>by omega⟩ ?_ ?_
     · rintro σ H3 ⟨m,rfl,m1,rfl,hne⟩;refine ⟨_,rfl,_,rfl,rfl,_,rfl,?_⟩
       by_cases hb:it p m (0+(i:Int))=0+(i:Int)
       · refine U9 (congrArg V.int hb) ?_;have hbd:=G3 tp hx hne;have hper:G4 p (0+(i:Int)) m:=⟨by omega,hb,hne⟩;refine ⟨_,rfl,.inl ⟨rfl,_,i4.of h2l⟩,_,rfl,l,_,_,rfl,rfl,h2l,l9 (by rw[ci8,ci8,cj9,cm4];omega),?_⟩;refine ⟨_,_,_,rfl,?_,fun b o hb=>by rw[g8 (g7 hb hl)];exact s2 b o hb⟩;rw[c8,ak7 _ _ hil,ck4,ck4]
         have e:A6 p (i:Int)=m:=by rw[Int.zero_add] at hper;exact E5 hper
         show _=some (HO.lst (_++[V.int ((A6 p (i:Int):Nat):Int)]));rw[e]
       · have hb':¬V.int (it p m (0+(i:Int)))=V.int (0+(i:Int)):=fun z=>hb (V.int.inj z)
         rw[decide_eq_false hb'];refine E6 ?_
         have hne':∀j,0 < j->j < m+1->it p j (0+(i:Int))≠0+(i:Int):=fun j i0 i1=>by
           by_cases e:j=m
           · rw[e];exact hb
           · exact hne j i0 (by omega)
         have hbd:=G3 tp hx hne';have hi:=G2 tp hx m;refine ⟨_,rfl,_,rfl,a,_,_,_,rfl,rfl,i4.of (s2 a _ ha),J5 hi.1 hi.2,?_⟩;refine ⟨_,rfl,_,_,rfl,rfl,⟨m+1,rfl,by omega,rfl,hne'⟩,?_⟩;show p.length+1 - ((m:Int)+1).toNat < p.length+1 - ((m:Int)).toNat;omega
     · rintro σ H2 Q Q' hq ⟨v,hv,u,hu,e1,k1,e2,e3⟩;exact ⟨v,hv,u,hu,e1,k1,e2,hq _ _ e3⟩
   · rintro σ H2 ⟨v2,v3,v4,rfl,h2l,s2⟩;rw[show ((p.length:Nat):Int).toNat=p.length by omega,cq2 (by rw[cm4];exact cj1 _)] at h2l;exact ⟨_,rfl,q l H2 hl s2 h2l⟩
end
end My
namespace My
open PySem L2 Mth
section
variable {P:Program} {w:World} {K:PySem.W.Frag} {mg:Str->Option Value} {base:Heap}
def x8 (es:List (Nat×Addr)):List (k6×V):=es.map fun e=>(Sum.inl (e.1:Int),V.ref e.2)
theorem av5 {es:List (Nat×Addr)}{l:Nat}{v:V}(h:y9 (x8 es) (Sum.inl (l:Int))=some v):∃e∈es,e.1=l/\v= .ref e.2:=by
 unfold y9 at h
 cases hf:(x8 es).find? (fun kv=>decide (kv.1=Sum.inl (l:Int))) with
 |none=>rw[hf] at h;cases h
 |some kv=>
  rw[hf] at h;have hk:=of_decide_eq_true (List.find?_some (p:=fun kv:k6×V=>decide (kv.1=Sum.inl (l:Int))) hf);obtain ⟨e,he,rfl⟩:=ck6.mp (List.mem_of_find?_eq_some hf);have hk':(Sum.inl (e.1:Int):k6)=Sum.inl (l:Int):=hk;have:=Sum.inl.inj hk';exact ⟨e,he,by omega,(Option.some.inj h).symm⟩
theorem av6 {es:List (Nat×Addr)}{l:Nat}(h:y9 (x8 es) (Sum.inl (l:Int))=none):l∉es.map (·.1):=by
 intro hm;obtain ⟨e,he,rfl⟩:=ck6.mp hm;unfold y9 at h;have h':=Option.map_eq_none_iff.mp h;exact List.find?_eq_none.mp h' (Sum.inl (e.1:Int),V.ref e.2) (ck6.mpr ⟨e,he,rfl⟩) (by simp)
theorem an2 {α β:Type}:∀{es:List (α×β)},(es.map (·.1)).Nodup->∀{e f:α×β},e∈es->f∈es->e.1=f.1->e=f
 |[],_,e,f,h,_,_=>by simp at h
 |x::es,nd,e,f,he,hf,h=>by
  obtain ⟨n1,n2⟩:=cn3.mp nd
  rcases ck8.mp he with z|z
  · rcases ck8.mp hf with y|y
    · rw[z,y]
    · exact absurd (ck6.mpr ⟨f,y,by rw[<-h,z]⟩) n1
  · rcases ck8.mp hf with y|y
    · exact absurd (ck6.mpr ⟨e,z,by rw[h,y]⟩) n1
    · exact an2 n2 z y h
theorem ba6 {α β:Type}:∀{es:List (α×β)},(es.map (·.2)).Nodup->∀{e f:α×β},e∈es->f∈es->e.2=f.2->e=f
 |[],_,e,f,h,_,_=>by simp at h
 |x::es,nd,e,f,he,hf,h=>by
  obtain ⟨n1,n2⟩:=cn3.mp nd
  rcases ck8.mp he with z|z
  · rcases ck8.mp hf with y|y
    · rw[z,y]
    · exact absurd (ck6.mpr ⟨f,y,by rw[<-h,z]⟩) n1
  · rcases ck8.mp hf with y|y
    · exact absurd (ck6.mpr ⟨e,z,by rw[h,y]⟩) n1
    · exact ba6 n2 z y h
theorem bk5 {es:List (Nat×Addr)}(nd:(es.map (·.1)).Nodup){e:Nat×Addr}(he:e∈es):y9 (x8 es) (Sum.inl (e.1:Int))=some (.ref e.2):=by
 cases h:y9 (x8 es) (Sum.inl (e.1:Int)) with
 |none=>exact absurd (ck6.mpr ⟨e,he,rfl⟩) (av6 h)
 |some v=>
  obtain ⟨f,hf,h1,rfl⟩:=av5 h;rw[an2 nd hf he h1]
theorem ba7 {rs:List (List Int)}{r:List Int}{l:Nat}(h:r.length=l):x9 (rs++[r]) l=x9 rs l++[r]:=by
 unfold x9;rw[cq5,ct8 (by simpa using h),cs0]
theorem ba8 {rs:List (List Int)}{r:List Int}{l:Nat}(h:r.length≠l):x9 (rs++[r]) l=x9 rs l:=by
 unfold x9;rw[cq5,ct9 (by simpa using h),cs0,cm1]
theorem bp7 {rs:List (List Int)}{l:Nat}(h:∀r∈rs,r.length≠l):x9 rs l=[]:=by
 unfold x9
 exact List.filter_eq_nil_iff.mpr fun r hr=>by simpa using h r hr
structure bk6 (H0 H:Hp)(d:Addr)(es:List (Nat×Addr))(rs:List (List Int)):Prop where
 nk:(es.map (·.1)).Nodup
 na:(es.map (·.2)).Nodup
 row:∀e∈es,∃cs:List Addr,H e.2=some (.lst (cs.map V.ref))/\x6 H0 cs (x9 rs e.1)
 key:∀k∈es.map (·.1),∃r∈rs,r.length=k
 all:∀r∈rs,r.length∈es.map (·.1)
 nd:∀e∈es,e.2≠d
def an3:Sp:=fun vs H Q _=>∃(a:Addr) (as:List Addr) (rs:List (List Int)),vs=[.ref a]/\H a=some (.lst (as.map V.ref))/\x6 H as rs/\rs.length<=40/\
 ∀(d:Addr) (es:List (Nat×Addr)) (H':Hp),H d=none->e8 H H'->H' d=some (.dK (x8 es))->bk6 H H' d es rs->es.length<=40->(∀e∈es,H e.2=none)->Q (.ref d) H'
theorem av7:l7 ["rings","by_length","ring"] ["rings"] (j5 K8):=by rfl'
theorem bp8 {f:Addr}{fd:FuncData}(F:B0 K "sort_by_length" "sort_by_length" K8 f fd)(B:Bl mg):j9 P w K mg base C8 1 f fd ["rings"] an3:=by
 refine F.ok av7 (fun vs H Q E h=> ?_) (fun cdv A outer s H vs Q E hr h=> ?_)
 · obtain ⟨a,as,rs,rfl,_⟩:=h;rfl
 · obtain ⟨a,as,rs,rfl,ha,rows,lrs,q⟩:=h
   refine ⟨_,g6 (i8 (i:=1) av7.nd rfl (Or.inl rfl) S7)
     (g6 (C1 PassesOwn.never rfl (K9 (pv 0)) (n4 (i:=2) av7.nd rfl (Or.inl rfl))
       (i6 (B6 (I0 (bi9 (pv 1) (c6 (o5 B.len (c6 (pv 2) c7)) (c6 (y8 c7) c7))) (c6 (pv 2) c7)))))
     (i6 (m7 (pv 1)))),?_⟩
   refine fun d hd=> ?_
   have s1:e8 H (c9 H d (.dK [])):=e8.upd_new hd;have h1d:(c9 H d (.dK [])) d=some (.dK (x8 [])):=c8;generalize (c9 H d (.dK []))=H1 at s1 h1d ⊢
   refine ⟨_,rfl,a,rfl,⟨_,i4.of (s1 a _ ha)⟩,S4 (K:=K) (a:=a) (xs:=as.map V.ref) (fun i σ H2=>∃(es:List (Nat×Addr)) (v2:Option V),σ=[some (.ref a),some (.ref d),v2]/\H2 d=some (.dK (x8 es))/\bk6 H H2 d es (rs.take i)/\es.length<=i/\(∀e∈es,H e.2=none)/\e8 H H2)
     ⟨[],none,rfl,h1d,⟨cq3,cq3,fun e h=>by simp at h,fun k h=>by simp at h,fun r h=>by simp at h,fun e h=>by simp at h⟩,cj1 _,fun e h=>by simp at h,s1⟩ (fun i σ H2 _ zz=>by obtain ⟨_,_,_,_,_,_,_,s⟩:=zz;exact i4.of (s a _ ha)) ?_ ?_⟩
   · rintro i y σ H2 hi ⟨es,v2,rfl,h2d,bl,les,fr,s2⟩;rw[cj2] at hi
     cases hA:as[i]? with
     |none=>rw[hA] at hi;cases hi
     |some b=>
      rw[hA] at hi;cases hi;have hil:i < as.length:=(ci9.mp hA).1;have hri:rs[i]? =some (rs[i]'(by rw[<-rows.1];exact hil)):=cj0 _;generalize (rs[i]'(by rw[<-rows.1];exact hil))=r at hri;have hb0:=rows.2 i b r hA hri;have hb:=s2 b _ hb0
      have hi40:i < 40:=by have:=rows.1;omega
      have et:rs.take (i+1)=rs.take i++[r]:=o9 hri;refine ⟨_,rfl,.inr (.inr (.inl ⟨rfl,.inl ⟨_,h2d⟩⟩)),_,rfl,b,_,rfl,.inl (i4.of hb),cl4 _,fun e he=> ?_⟩;rw[ci8];have nde:d≠e:=g7 h2d he;have s23:e8 H2 (c9 H2 e (.lst [])):=e8.upd_new he;have h3e:(c9 H2 e (.lst [])) e=some (.lst []):=c8
      have kp:∀c,c≠e->(c9 H2 e (.lst [])) c=H2 c:=fun c hc=>g8 hc
      generalize (c9 H2 e (.lst []))=H3 at s23 h3e kp ⊢;refine ⟨d,x8 es,Sum.inl (r.length:Int),.ref e,rfl,rfl,s23 d _ h2d,?_,fun v hv=> ?_,fun hn=> ?_⟩
      · unfold x8;rw[ci8,sizeLine_eq];omega
      · obtain ⟨e0,he0,hl0,rfl⟩:=av5 hv;obtain ⟨cs,hcs,rcs⟩:=bl.row e0 he0;have h3x:=s23 e0.2 _ hcs
        have lx:(cs.map V.ref).length<=1000:=by
          rw[ci8,rcs.1];have:=List.length_filter_le (fun r=>decide (r.length=e0.1)) (rs.take i);rw[cj9] at this;unfold x9;omega
        refine ⟨.inl ⟨rfl,_,i4.of h3x⟩,_,rfl,e0.2,_,_,rfl,rfl,h3x,l9 lx,?_⟩;refine ⟨es,_,rfl,by rw[g8 (bl.nd e0 he0).symm];exact s23 d _ h2d,⟨bl.nk,bl.na,fun e1 he1=> ?_,fun k hk=> ?_,fun r' hr'=> ?_,bl.nd⟩,by omega,fr,fun c o hc=>by rw[g8 (g7 hc (fr e0 he0))];exact s23 c o (s2 c o hc)⟩
        · by_cases h12:e1.2=e0.2
          · have:e1=e0:=ba6 bl.na he1 he0 h12;subst this;refine ⟨cs++[b],by rw[c8,ck4];rfl,?_⟩;rw[et,ba7 hl0.symm];exact P0 rcs hb0
          · obtain ⟨ys,hys,rys⟩:=bl.row e1 he1;refine ⟨ys,by rw[g8 h12];exact s23 _ _ hys,?_⟩;rw[et,ba8 (fun z=>h12 (by rw[an2 bl.nk he1 he0 (by omega)]))];exact rys
        · obtain ⟨r',hr',e⟩:=bl.key k hk;exact ⟨r',by rw[et];exact cn7 _ hr',e⟩
        · rw[et] at hr'
          rcases ck7.mp hr' with z|z
          · exact bl.all r' z
          · have:r'=r:=by simpa using z
            rw[this];exact ck6.mpr ⟨e0,he0,hl0⟩
      · have hnk:=av6 hn
        have ekv:x8 es++[(Sum.inl (r.length:Int),V.ref e)]=x8 (es++[(r.length,e)]):=by unfold x8;rw[ck4];rfl
        rw[ekv]
        have h4e:(c9 H3 d (.dK (x8 (es++[(r.length,e)])))) e=some (.lst []):=by rw[g8 nde.symm];exact h3e
        refine ⟨.inl ⟨rfl,_,i4.of h4e⟩,_,rfl,e,_,_,rfl,rfl,h4e,l9 (cl4 _),?_⟩
        have hne:∀e1∈es,e1.2≠e:=fun e1 he1 z=>by
          obtain ⟨ys,hys,_⟩:=bl.row e1 he1;rw[z,he] at hys;cases hys
        refine ⟨es++[(r.length,e)],_,rfl,by rw[g8 nde,c8],⟨?_,?_,fun e1 he1=> ?_,fun k hk=> ?_,fun r' hr'=> ?_,fun e1 he1=> ?_⟩,by rw[cj6];show es.length+1<=i+1;omega,fun e1 he1=> ?_,fun c o hc=> ?_⟩
        · rw[ck4,cq0];refine ⟨bl.nk,by simp,fun x hx y hy=> ?_⟩
          have:y=r.length:=by simpa using hy
          rw[this]
          exact fun z=>hnk (by rw[<-z];exact hx)
        · rw[ck4,cq0];refine ⟨bl.na,by simp,fun x hx y hy=> ?_⟩
          have:y=e:=by simpa using hy
          rw[this];obtain ⟨e1,he1,rfl⟩:=ck6.mp hx;exact hne e1 he1
        · rcases ck7.mp he1 with z|z
          · obtain ⟨ys,hys,rys⟩:=bl.row e1 z;refine ⟨ys,by rw[g8 (hne e1 z),g8 (bl.nd e1 z),kp _ (hne e1 z)];exact hys,?_⟩;rw[et,ba8 (fun y=>hnk (by rw[y];exact ck6.mpr ⟨e1,z,rfl⟩))];exact rys
          · have:e1=(r.length,e):=by simpa using z
            subst this;refine ⟨[b],c8,?_⟩;show x6 H [b] (x9 (rs.take (i+1)) r.length);rw[et,ba7 rfl,bp7 (fun r' hr' y=>hnk (by rw[<-y];exact bl.all r' hr'))];exact P0 (as:=[]) (rs:=[]) ⟨rfl,fun j a r h=>by simp at h⟩ hb0
        · rw[ck4] at hk
          rcases ck7.mp hk with z|z
          · obtain ⟨r',hr',e⟩:=bl.key k z;exact ⟨r',by rw[et];exact cn7 _ hr',e⟩
          · have:k=r.length:=by simpa using z
            exact ⟨r,by rw[et];exact ck0 _ (by simp),this.symm⟩
        · rw[et] at hr';rw[ck4]
          rcases ck7.mp hr' with z|z
          · exact cn7 _ (bl.all r' z)
          · have:r'=r:=by simpa using z
            rw[this];exact ck0 _ (by simp)
        · rcases ck7.mp he1 with z|z
          · exact bl.nd e1 z
          · have:e1=(r.length,e):=by simpa using z
            subst this;exact nde.symm
        · rcases ck7.mp he1 with z|z
          · exact fr e1 z
          · have:e1=(r.length,e):=by simpa using z
            subst this;exact s2.free he
        · have h2c:=s2 c o hc;rw[g8 (g7 h2c he),g8 (g7 hc hd),kp _ (g7 h2c he)];exact h2c
   · rintro σ H2 ⟨es,v2,rfl,h2d,bl,les,fr,s2⟩;rw[ci8,rows.1,cn0] at bl;rw[ci8,rows.1] at les;exact ⟨_,rfl,q d es H2 hd s2 h2d bl (by omega) fr⟩
end
end My
namespace My
open PySem L2 Mth
section
variable {P:Program} {w:World} {K:PySem.W.Frag} {mg:Str->Option Value} {base:Heap} {zy zzy zzz zvy zvx zt zuy ztz zty ztx zq:Addr}
def bd4 (K:PySem.W.Frag)(H:Hp)(x:V):Prop:=∃t b1 b2,G0 K H x t/\PySem.W.kitOne K t (.type "int")=some b1/\PySem.W.kitOne K t (.type "bool")=some b2/\(b1&& !b2)=false
def ba9 (K:PySem.W.Frag)(H:Hp)(v:V):Prop:=(∃t,G0 K H v t/\PySem.W.kitOne K t (.type "list")=some false)\/
 ∃(a:Addr) (xs:List V),v= .ref a/\H a=some (.lst xs)/\(∀x∈xs,(∃i:Int,x= .int i)\/bd4 K H x)/\∀p:List Int,xs=p.map V.int->p.length<=40->¬l4 p
theorem bk7 {K:PySem.W.Frag}{H H':Hp}{v:V}{t:Value}(h:G0 K H v t)(s:e8 H H'):G0 K H' v t:=by
 cases h with
 |non=>exact .non
 |bl x=>exact .bl x
 |int i=>exact .int i
 |str x=>exact .str x
 |flt x=>exact .flt x
 |lst e=>exact .lst (s _ _ e)
 |frz e=>exact .frz (s _ _ e)
 |tup e=>exact .tup (s _ _ e)
 |dK e=>exact .dK (s _ _ e)
 |dT e=>exact .dT (s _ _ e)
 |ins e a b c d f=>exact .ins (s _ _ e) a b c d f
theorem bd4.keep {K:PySem.W.Frag}{H H':Hp}{x:V}(h:bd4 K H x)(s:e8 H H'):bd4 K H' x:=by
 obtain ⟨t,b1,b2,ty,r⟩:=h;exact ⟨t,b1,b2,bk7 ty s,r⟩
def af0 (K:PySem.W.Frag):Sp:=fun vs H Q _=>∃v,vs=[v]/\ba9 K H v/\∀H',e8 H H'->Q (.bl false) H'
theorem aa1:l7 ["thing","seen","place"] ["thing"] (j5 O9):=by rfl'
theorem bd5 {f:Addr}{fd:FuncData}(F:B0 K "is_turn" "is_turn" O9 f fd)(B:Bl mg)(zmz:∃t,mg "MOST_THINGS"=some (.int 40 t))(zry:p6 P w K mg base "is_whole" 1 ["thing"] (ae8 K)):j9 P w K mg base C8 2 f fd ["thing"] (af0 K):=by
 refine F.ok aa1 (fun vs H Q E h=> ?_) (fun cdv A outer s H vs Q E hr h=> ?_)
 · obtain ⟨v,rfl,no,k⟩:=h;rfl
 · obtain ⟨v,rfl,no,k⟩:=h;obtain ⟨_,zmy⟩:=zmz;have zk:m9 1 _:=hr.mono (by decide);have hu:=U8 hr;refine ⟨_,@g6 _ _ _ _ _ (@C5 _ _ _ _ _ _ _ _ (@L9 _ _ _ _ _ _ _ (@O6 _ _ _ _ (@L8 _ _ _ (@ac0 _ _ _ _ _ _ B.isi (@c6 _ _ _ _ _ (pv 0) (@c6 _ _ _ _ _ (@ac1 _ _ B.list (by rfl)) (@c7 _) (by rfl)) (by rfl)) (by rfl) (by rfl) (by rfl)) (by intro _;rfl))) (@W6 _ _ _ _ (@o4 _ _ _ _ _ _ _ _ bb6 (@o5 _ _ _ _ _ B.len (@c6 _ _ _ _ _ (pv 0) (@c7 _) (by rfl)) (by rfl) (by rfl)) (@ay3 _ _ (.int 40) _ _ (by rfl) zmy ⟨_,rfl⟩ (by decide)) (m8 _)))).pt (@i6 _ _ _ (@m7 _ _ _ _ (@D9 _ _ _ _))) (@q9 _)) (@g6 _ _ _ _ _ (@i8 _ _ (1) _ _ _ _ aa1.nd rfl (Or.inl rfl) (@S7 _ _) (by rfl) (by trivial)) (@g6 _ _ _ _ _ (@C1 _ _ _ _ _ _ _ _ PassesOwn.never rfl (@K9 _ _ _ _ (pv 0)) (@n4 _ _ (2) _ aa1.nd rfl (Or.inl rfl) (by trivial)) (@g6 _ _ _ _ _ (@C5 _ _ _ _ _ _ _ _ (@L9 _ _ _ _ _ _ _ (@O6 _ _ _ _ (@L8 _ _ _ (@i9 _ _ _ _ _ _ _ _ _ _ zry zk (@c6 _ _ _ _ _ (pv 2) (@c7 _) (by rfl)) (by rfl) (by decide) (by rfl) (by rfl)) (by intro _;rfl))) (@L9 _ _ _ _ _ _ _ (@o4 _ _ _ _ _ _ _ _ ai4 (pv 2) (@i7 _ _ _ _) (m8 _)) (@L9 _ _ _ _ _ _ _ (@o4 _ _ _ _ _ _ _ _ bb7 (pv 2) (@o5 _ _ _ _ _ B.len (@c6 _ _ _ _ _ (pv 0) (@c7 _) (by rfl)) (by rfl) (by rfl)) (m8 _)) (@W6 _ _ _ _ (@W5 _ _ _ _ _ _ (@bg5 _ _ _ _ _ hu (pv 2) (pv 1)) (by first|exact nobehind _ (by decide) (by decide)|rfl)))))).pt (@i6 _ _ _ (@m7 _ _ _ _ (@D9 _ _ _ _))) (@q9 _)) (@i6 _ _ _ (@ae1 _ _ _ _ _ _ _ _ _ hu (pv 1) (pv 2) (@D9 _ _ _ _) rfl))) (by intro _;rfl)) (@i6 _ _ _ (@m7 _ _ _ _ (@D9 _ _ _ _))))),?_⟩
   rcases no with ⟨t,ty,kt⟩|⟨a,xs,rfl,ha,el,no⟩
   · refine ⟨_,rfl,v,"list",t,false,rfl,ty,kt,false,rfl,?_⟩;exact E6 (k H (e8.refl H))
   · refine ⟨_,rfl,_,"list",_,true,rfl,.lst ha,S8 K "list",true,rfl,?_⟩;refine A7 ⟨_,rfl,a,_,rfl,.inl (i4.of ha),_,_,rfl,rfl,_,rfl,?_⟩;refine K7 (fun h40=>k H (e8.refl H)) (fun h40=> ?_)
     have h40:¬(40:Int) < (xs.length:Int):=fun z=>h40 (decide_eq_true z)
     intro d hd;have nad:a≠d:=g7 ha hd
     have ha1:(c9 H d (.dK [])) a=some (.lst xs):=by rw[g8 nad];exact ha
     refine ⟨_,rfl,a,rfl,⟨_,i4.of ha1⟩,S4 (K:=K) (a:=a) (xs:=xs) (fun i σ H2=>∃(v:Option V) (p:List Int),σ=[some (.ref a),some (.ref d),v]/\e8 H H2/\xs.take i=p.map V.int/\H2 d=some (.dK (G1 p))/\p.Nodup/\∀x∈p,0<=x/\x < xs.length)
       ⟨none,[],rfl,e8.upd_new hd,rfl,c8,cq3,fun x hx=>by simp at hx⟩ (fun i σ H2 _ zz=>by obtain ⟨_,_,_,s2,_⟩:=zz;exact i4.of (s2 a _ ha)) ?_ ?_⟩
     · rintro i y σ H2 hi ⟨v,p,rfl,s2,hp,h2,nd,bd⟩;have ha2:=s2 a _ ha;have hil:i < xs.length:=(ci9.mp hi).1
       rcases el y (ck5 hi) with ⟨z,rfl⟩|odd
       · refine ⟨_,rfl,.int z,_,true,false,rfl,.int z,S8 K "int",ab9 K,_,rfl,?_⟩;refine A7 ⟨_,rfl,_,_,rfl,rfl,_,rfl,?_⟩;refine K7 (fun hz0=>E6 (k H2 s2)) (fun hz0=> ?_)
         have hz0:¬z < 0:=fun q=>hz0 (decide_eq_true q)
         refine ⟨_,rfl,_,rfl,a,_,rfl,.inl (i4.of ha2),_,_,rfl,rfl,_,rfl,?_⟩;refine K7 (fun hz1=>E6 (k H2 s2)) (fun hz1=> ?_)
         have hz1:¬(xs.length:Int)<=z:=fun q=>hz1 (decide_eq_true q)
         refine ⟨_,rfl,_,rfl,d,_,rfl,J8.k (k:=Sum.inl z) h2,_,rfl,?_⟩
         have lp:p.length<=i:=by
           have:=congrArg List.length hp;rw[cj9,ci8] at this;omega
         by_cases hm:z∈p
         · rw[ah1 hm];exact E6 (k H2 s2)
         · rw[Y5 hm];refine A7 ⟨_,rfl,_,rfl,d,_,rfl,ab2.k (k:=Sum.inl z) h2 (l9 (by unfold G1;rw[ci8];omega)),?_⟩;refine ⟨some (.int z),p++[z],rfl,fun b o e=>by rw[g8 (g7 e hd)];exact s2 b o e,?_,?_,?_,?_⟩
           · rw[o9 hi,hp,ck4];rfl
           · rw[ac2 hm,c8]
           · exact ae2 nd hm
           · intro x hx
             rcases ck7.mp hx with q|q
             · exact bd x q
             · have:x=z:=by simpa using q
               omega
       · obtain ⟨t,b1,b2,ty,e1,e2,e3⟩:=odd.keep s2;refine ⟨_,rfl,y,t,b1,b2,rfl,ty,e1,e2,_,rfl,?_⟩;rw[e3];exact E6 (k H2 s2)
     · rintro σ H2 ⟨v,p,rfl,s2,hp,h2,nd,bd⟩;rw[cn0] at hp
       have lp:xs.length=p.length:=by rw[hp,ci8]
       exact absurd (show l4 p from ⟨nd,fun x hx=>(bd x hx).1,fun x hx=>by have:=(bd x hx).2;omega⟩) (no p hp (by omega))
def R7 (K:PySem.W.Frag)(q:Addr):Sp:=fun vs H _ E=>∃v,vs=[v]/\ba9 K H v/\∀H',e8 H H'->E (.ref q) none H'
theorem ak8:l7 ["thing"] ["thing"] (j5 E8):=bk3
theorem ah8 {f:Addr}{fd:FuncData}(F:B0 K "must_be_turn" "must_be_turn" E8 f fd)(zwy:p6 P w K mg base "is_turn" 2 ["thing"] (ah4 T9 (af0 K)))(zny:Err K mg "NoTurn" zzy):j9 P w K mg base (T2 P w) 3 f fd ["thing"] (R7 K zzy):=by
 refine F.okx ak8 (fun vs H Q E h=> ?_) (fun cdv A outer s H vs Q E hr h=> ?_)
 · obtain ⟨v,rfl,no,k⟩:=h;rfl
 · obtain ⟨v,rfl,no,k⟩:=h;have zpy:m9 2 _:=hr.mono (by decide);refine ⟨_,@i6 _ _ _ (@C5 _ _ _ _ _ _ _ _ (@O6 _ _ _ _ (@L8 _ _ _ (@i9 _ _ _ _ _ _ _ _ _ _ zwy zpy (@c6 _ _ _ _ _ (pv 0) (@c7 _) (by rfl)) (by rfl) (by decide) (by rfl) (by rfl)) (by intro _;rfl))) (@i6 _ _ _ (@au0 _ _ _ _ _ _ _ _ _ ap3 rfl zny (@be8 _ _ _ _) (by rfl) (by rfl) (by decide))) (@q9 _)),?_⟩;refine ⟨_,rfl,.inr ⟨v,rfl,no,fun H' s=>⟨false,rfl,?_⟩⟩⟩;exact E6 (k H' s)
theorem av8:l7 ["p"] ["p"] (j5 K1):=by rfl'
theorem aq5 {f:Addr}{fd:FuncData}(F:B0 K "rounds_of" "rounds_of" K1 f fd)(zzx:Q1 P w K mg base "must_be_turn" 3 ["thing"] (fun vs H Q E=>U0 vs H Q E\/(R7 K zzy) vs H Q E)):j9 P w K mg base (T2 P w) 4 f fd ["p"] (R7 K zzy):=by
 refine F.okx av8 (fun vs H Q E h=> ?_) (fun cdv A outer s H vs Q E hr h=> ?_)
 · obtain ⟨v,rfl,no,k⟩:=h;rfl
 · obtain ⟨v,rfl,no,k⟩:=h;have zyy:m9 3 _:=hr.mono (by decide);refine ⟨_,@g6 _ _ _ _ _ (@B6 _ _ _ _ (@ae3 _ _ _ _ _ _ _ _ _ _ _ zzx zyy (@V1 _ _ _ _ _ _ _ _ _ _ _ _ _ _ _ _ fun _ _ _ h=>h) (@c6 _ _ _ _ _ (pv 0) (@c7 _) (by rfl)) (by rfl) (by decide) (by rfl) (by rfl)) (by rfl)) (@ao0 _ _),?_⟩;exact ⟨_,rfl,.inr ⟨v,rfl,no,k⟩⟩
end
end My
namespace PySem
namespace F
theorem bp9:typeLookup (.type "dict_values") "__contains__"=pure none:=by rw[typeLookup_type,builtinLookup_eq_fast];kernel_rfl
theorem ch0:entryFor table "proto.contains_iter"=some Builtin.«proto.contains_iter»:=entryFor_of_tree (by kernel_rfl)
theorem ch1:plainId "proto.contains_iter"=true:=by decide+kernel
end F
end PySem
namespace L2
open PySem PySem.Spec PyProof.Rows
section
variable {prog:Program} {w:World} {A:Around} {E:Value->Shared->Prop} {s:Shared}
theorem bv9 {it d:Addr}{ep:Nat}{kvs:List (k6×Value)}{ms:List Int}{n:Int}{t:Tok}{R:Result->Shared->Prop}(hh:A.handled=none)(hne:d≠it)(hv:∀(j:Nat) k v,kvs[j]? =some (k,v)->∃tk,v= .int (ms.getD j 0) tk)(hl:ms.length=kvs.length):
   ∀(k i:Nat) (s:Shared),kvs.length - i=k->i<=kvs.length->s.heap.IsValIter it d i kvs.length ep->s.heap.DictAt (p7 prog w) d kvs ep->
    (∀h',(∀b o,b≠it->s.heap.get? b=some o->h'.get? b=some o)->R (.ok (.ret (.bool ((ms.drop i).any fun m=>m==n)))) {s with heap:=h'})->
    codeAny (model prog w) A (.builtin "proto.contains_iter" ⟨[.ref it,.int n t],[]⟩) R s:=by
 intro k
 induction k with
 |zero=>
  intro i s hk hi hit hd hR
  have hin:i=kvs.length:=by omega
  refine codeAny_builtin PySem.F.ch0 ?_;rw[Around.under_plainId PySem.F.ch1 _];show wpAny _ A.in1 (pyNext (.ref it) >>=_) _ _ s;refine wpAny_bind (wpAny_pyNext_values_end (by simp [hh]) hit hd (by rw[hin];exact cj3 (cj1 _)) fun h' hx=> ?_);refine wpAny_bind (wpAny_rule (wpAny_pure ?_))
  have:=hR h' fun b o hb q=>hx b o hb q
  rw[cu4 (by omega)] at this;exact this
 |succ k ih=>
  intro i s hk hi hit hd hR
  have hlt:i < kvs.length:=by omega
  have hx:kvs[i]? =some (kvs[i].1,kvs[i].2):=cj0 hlt;obtain ⟨tk,ev⟩:=hv i _ _ hx;refine codeAny_builtin PySem.F.ch0 ?_;rw[Around.under_plainId PySem.F.ch1 _];show wpAny _ A.in1 (pyNext (.ref it) >>=_) _ _ s;refine wpAny_bind (wpAny_pyNext_values_item hit hd hx fun h' hit' hs=> ?_);rw[ev]
  have ed:ms.drop i=ms.getD i 0::ms.drop (i+1):=by
    rw[cq8 (by omega),cj7,cj0 (by omega)];rfl
  refine wpAny_bind (wpAny_eqBool_int ?_)
  have hd':h'.DictAt (p7 prog w) d kvs ep:=by
    obtain ⟨o,es,ho,r⟩:=hd;exact ⟨o,es,(hs.2 d hne).trans ho,r⟩
  by_cases e:(ms.getD i 0==n)=true
  · rw[if_pos e];refine wpAny_bind (wpAny_rule (wpAny_pure ?_))
    have:=hR h' fun b o hb q=>(hs.2 b hb).trans q
    rw[ed,cu6,e,Bool.true_or] at this;exact this
  · rw[if_neg e];refine wpAny_pure ⟨plainId_quiet PySem.F.ch1 _,?_⟩
    refine ih (i+1) _ (by omega) hlt hit' hd' fun h2 k2=> ?_
    have:=hR h2 fun b o hb q=>k2 b o hb ((hs.2 b hb).trans q)
    rw[ed,cu6,Bool.eq_false_iff.mpr e,Bool.false_or] at this;exact this
theorem ax9 {v d:Addr}{ep:Nat}{kvs:List (k6×Value)}{ms:List Int}{n:Int}{t:Tok}{Q:Bool->Shared->Prop}(hh:A.handled=none)(hview:s.heap.IsValuesView v d)(hd:s.heap.DictAt (p7 prog w) d kvs ep)(hv:∀(j:Nat) k v,kvs[j]? =some (k,v)->∃tk,v= .int (ms.getD j 0) tk)(hl:ms.length=kvs.length)
   (h:∀h',(∀b o,s.heap.get? b=some o->h'.get? b=some o)->Q (ms.any fun m=>m==n) {s with heap:=h'}):wpAny (model prog w) A (contains (.ref v) (.int n t)) Q E s:=by
 unfold contains;refine wpAny_holding ?_;rw[stdlibNamesSay?_of_typeIs hview.typeIs];refine wpAny_bind (wpAny_specialOf hview.typeIs PySem.F.bp9 ?_);show wpAny _ A (if ((none:Option Value)==some Value.none)=true then _ else _) Q E s;rw[if_neg (by simp)];refine wpAny_bind (wpAny_callSpecialUnlessNone?_none hview.typeIs PySem.F.bp9 ?_);refine wpAny_bind (wpAny_rule ?_);refine wpAny_bind (wpAny_tryCatch (wpAny_pyIter_values hview hd ?_));refine wpAny_bind (wpAny_runValue ?_)
 have hne:d≠s.heap.objs.size:=by
   obtain ⟨o,es,ho,r⟩:=hd;exact cl2 (Heap.lt_size ho)
 refine bv9 (d:=d) (ep:=ep) (kvs:=kvs) (ms:=ms) hh hne hv hl kvs.length 0 _ (by omega) (cl4 _) ⟨_,Heap.get?_push_size _ rfl,rfl,rfl⟩ ?_ fun h' hk=> ?_
 · obtain ⟨o,es,ho,r⟩:=hd;exact ⟨o,es,Heap.get?_push_of_some _ ho,r⟩
 · refine wpAny_pure ?_
   exact h h' fun b o q=>hk b o (cl2 (Heap.lt_size q)) (Heap.get?_push_of_some _ q)
end
section
variable {X:Cx} {i o:Expr} {apos cpos:Pos} {ty td:TE}
def bq0 (ty td:TE):TE:=fun σ H Q=>ty σ H fun y H1=>td σ H1 fun x H2=>∃(a:Addr) (kvs:List (k6×V)) (ms:List Int) (n:Int),x= .ref a/\y= .int n/\H2 a=some (.dK kvs)/\kvs.map (·.2)=ms.map V.int/\Q (.bl (!(ms.any fun m=>m==n))) H2
theorem bw0:∀{kvs:List (k6×V)} {vs:List (k6×Value)} {ms:List Int},KV kvs vs->kvs.map (·.2)=ms.map V.int->ms.length=vs.length/\∀(j:Nat) k v,vs[j]? =some (k,v)->∃tk,v= .int (ms.getD j 0) tk:=by
 intro kvs vs ms h
 induction h generalizing ms with
 |nil=>
  intro e
  cases ms with
  |nil=>exact ⟨rfl,fun j k v h=>by cases h⟩
  |cons m ms=>cases e
 |cons r h ih=>
  intro e
  cases ms with
  |nil=>cases e
  |cons m ms=>
   rw[cm7,cm7] at e
   injection e with e1 e2
   obtain ⟨l,g⟩:=ih e2;refine ⟨by rw[cl0,cl0,l],fun j k v hj=> ?_⟩
   cases j with
   |zero=>
    cases hj;have:=r.2;rw[e1] at this;exact this
   |succ j=>exact g j k v hj
theorem bd6 (hc:X.calm=true)(hi:PE X i ty)(ho:PE X o td)(hbase:attributeBase o "values" X.env (eval o X.env)=eval o X.env:=by rfl)(hline:(apos.endLine==cpos.line)=true:=by rfl):PC X .NotIn i (.Call (.Attribute o "values" apos) [] [] cpos) (bq0 ty td):=by
 intro pins s σ H Q I h
 refine k7 (hi pins s σ H _ I h) fun iv s1 ⟨y,H1,I1,ry,q1⟩=> ?_
 refine wpAny_Call_method0_late hbase hline (k7 (ho pins s1 σ H1 _ I1 q1) fun u s2 ⟨x,H2,I2,rx,a,kvs,ms,n,ex,ey,hd,em,q2⟩=> ?_);subst ex ey;obtain rfl:u=Value.ref a:=rx;obtain ⟨t,rfl⟩:=ry;have g:=J8.k (k:=(Sum.inl 0:k6)) hd;obtain ⟨z,hsys,vs,rel,dd⟩:=(show o6 X.prog X.w H2 s2.heap a (.dK kvs) from I2.hok a _ hd);refine ⟨"dict","dict.values",PySem.F.plainAttrs_dict,PySem.F.slot_dict_values,PySem.F.type_dict_values,V6 I2 g,ax2 I2 g,Calls.callWith_builtin rfl (PySem.evalArgs_none ?_)⟩;refine call_meetsIn PySem.F.slot_dict_values (V6 I2 g) PySem.F.entry_dict_values (PySem.F.args_dict_values_1 _) (meets_dict_values (p7 X.prog X.w) a hsys) ⟨⟨vs,dd⟩,?_⟩;obtain ⟨lm,hv⟩:=bw0 rel em;obtain ⟨ob,es,ep,hob,r⟩:=dd;show wpAny _ _ (compareOp .NotIn (.int n t) (.ref s2.heap.objs.size)) _ _ _;unfold compareOp;refine wpAny_bind (ax9 (d:=a) (ep:=ep) (kvs:=vs) (ms:=ms) (I2.ok.hd hc) ⟨_,Heap.get?_push_size _ rfl,rfl,rfl⟩ ⟨ob,es,Heap.get?_push_of_some _ hob,r⟩ hv lm fun h' hk=> ?_);refine wpAny_pure ⟨.bl (!(ms.any fun m=>m==n)),H2,?_,rfl,q2⟩
 exact I2.kept (h':=h') (t':=s2.toks) fun b u q=>hk b u (Heap.get?_push_of_some _ q)
end
end L2
namespace My
open PySem L2 Mth
section
variable {P:Program} {w:World} {K:PySem.W.Frag} {mg:Str->Option Value} {base:Heap} {zy zzy zzz zvy zvx zt zuy ztz zty ztx zq:Addr}
theorem bb0 {a b:Addr}{n:Nat}{g:TG}{tb:TS}{D:M8}{σ:St}{H:Hp}(Pv:Nat->St->Hp->Prop)(h0:Pv 0 σ H)
   (hl:∀i σ H,i<=n->Pv i σ H->∃xs zs,H a=some (.lst xs)/\H b=some (.lst zs)/\xs.length=n/\zs.length=n)
   (hs:∀i x y σ H t xs zs,i < n->H a=some (.lst xs)->H b=some (.lst zs)->xs[i]? =some x->zs[i]? =some y->Pv i σ H->H t=none->g (.ref t) σ (c9 H t (.tup [x,y])) fun σ2 H2=>tb {D with nx:=Pv (i+1),ct:=Pv (i+1),bk:=D.nx} σ2 H2) (hd:∀σ H,Pv n σ H->D.nx σ H):
   ∃W:Nat->Nat->St->Hp->Prop,(∃m,W 0 m σ H)/\∀i m σ H,W i m σ H->
    ((Itz a b).stop i H/\D.nx σ H)\/((Itz a b).go i H/\∃N:St->Hp->Prop,(∀σ' H',N σ' H'->∃m',m' < m/\W (i+1) m' σ' H')/\∀x H',(Itz a b).yld i H x H'->g x σ H' fun σ2 H2=>tb {D with nx:=N,ct:=N,bk:=D.nx} σ2 H2):=by
 refine ⟨fun i m σ H=>m=n - i/\i<=n/\Pv i σ H,⟨n,by simp,cl4 _,h0⟩,?_⟩;rintro i m σ H ⟨rfl,hi,p⟩;obtain ⟨xs,zs,h1,h2,l1,l2⟩:=hl i σ H hi p
 by_cases hlt:i < n
 · refine .inr ⟨⟨xs,zs,xs[i],zs[i],h1,h2,by simp [l1,hlt],by simp [l2,hlt]⟩,Pv (i+1),fun σ' H' p'=>⟨n - (i+1),by omega,rfl,hlt,p'⟩,fun x H' y=> ?_⟩;obtain ⟨x',y',t,y1,y2,y3,e1,e2⟩:=y;subst e1 e2;exact hs i x' y' σ _ t xs zs hlt h1 h2 (y1 xs h1) (y2 zs h2) p y3
 · have e:i=n:=by omega
   subst e;exact .inl ⟨⟨xs,zs,h1,h2,.inl (by omega)⟩,hd σ H p⟩
structure ca9 (fs rs ms fs':List Int):Prop where
 len:fs'.length=fs.length
 at_:∀j,j < rs.length->A2 fs' (rs.getD j 0)=some (ms.getD j 0)
 out:∀x,0<=x->x∉rs->A2 fs' x=A2 fs x
def av9:Sp:=fun vs H Q _=>∃(t r m:Addr) (fs rs ms:List Int),vs=[.ref t,.ref r,.ref m]/\H t=some (.lst (fs.map V.int))/\H r=some (.lst (rs.map V.int))/\H m=some (.lst (ms.map V.int))/\r≠t/\m≠t/\rs.length=ms.length/\(∀x∈rs,0<=x/\x < (fs.length:Int))/\rs.Nodup/\
 ∀(fs':List Int) (H':Hp),H' t=some (.lst (fs'.map V.int))->ca9 fs rs ms fs'->j7 t H H'->Q .non H'
theorem U2:l7 ["target","ring","image","thing","place"] ["target","ring","image"] (j5 W2):=by rfl'
theorem aw0 {f:Addr}{fd:FuncData}(F:B0 K "send_over" "send_over" W2 f fd)(B:Bl mg):j9 P w K mg base C8 1 f fd ["target","ring","image"] av9:=by
 refine F.ok U2 (fun vs H Q E h=> ?_) (fun cdv A outer s H vs Q E hr h=> ?_)
 · obtain ⟨t,r,m,fs,rs,ms,rfl,ht,hr,hm,nrt,nmt,ln,bd,nd,q⟩:=h;rfl
 · obtain ⟨t,r,m,fs,rs,ms,rfl,ht,hr,hm,nrt,nmt,ln,bd,nd,q⟩:=h;refine ⟨_,@i6 _ _ _ (@C1 _ _ _ _ _ _ _ _ PassesOwn.never rfl (@bi5 _ _ _ _ _ _ _ _ _ B.zip (@c6 _ _ _ _ _ (pv 1) (@c6 _ _ _ _ _ (pv 2) (@c7 _) (by rfl)) (by rfl)) (by rfl) (by rfl) (by rfl)) (@aa8 _ _ _ _ _ _ rfl (@E3 _ _ _ _ _ (@n4 _ _ (3) _ U2.nd rfl (Or.inl rfl) (by trivial)) (@E3 _ _ _ _ _ (@n4 _ _ (4) _ U2.nd rfl (Or.inl rfl) (by trivial)) (@W7 _) (by rfl)) (by rfl)) (by rfl) (by rfl)) (@i6 _ _ _ (@W9 _ _ _ _ _ _ (pv 4) (@W8 _ _ _ _ _ _ _ (pv 0) (pv 3) N3 (by intro _;rfl)) (by rfl) (by rfl) (by rfl))) (by intro _;rfl)),?_⟩
   refine ⟨_,rfl,_,rfl,r,m,_,_,rfl,hr,hm,bb0 (n:=rs.length) (fun i σ H2=>∃(fs':List Int) (v3 v4:Option V),σ=[some (.ref t),some (.ref r),some (.ref m),v3,v4]/\H2 t=some (.lst (fs'.map V.int))/\ca9 fs (rs.take i) (ms.take i) fs'/\j7 t H H2)
     ⟨fs,none,none,rfl,ht,⟨rfl,(fun j hj=>by rw[cu0] at hj;cases hj),fun x _ _=>rfl⟩,j7.refl _ _⟩
     (fun i σ H2 _ ⟨_,_,_,_,_,_,kb⟩=>⟨_,_,kb _ _ hr nrt,kb _ _ hm nmt,ci8 ..,by rw[ci8,ln]⟩) ?_ ?_⟩
   · rintro i x y σ H2 tp xs zs hi hx hz ex ey ⟨fs',v3,v4,rfl,h2,st,kb⟩ htp;have hxr:=kb _ _ hr nrt;have hzm:=kb _ _ hm nmt;rw[hxr] at hx;rw[hzm] at hz;cases hx;cases hz;obtain ⟨x,hx,rfl⟩:=D3 ex;obtain ⟨y,hy,rfl⟩:=D3 ey;have s3:e8 H2 (c9 H2 tp (.tup [.int x,.int y])):=e8.upd_new htp;have h3t:(c9 H2 tp (.tup [.int x,.int y])) tp=some (.tup [.int x,.int y]):=c8;generalize (c9 H2 tp (.tup [.int x,.int y]))=H3 at s3 h3t ⊢;have xb:=bd x (ck5 hx);refine ⟨tp,_,rfl,U5.of h3t,rfl,_,_,rfl,_,_,rfl,rfl,_,rfl,_,rfl,_,rfl,t,_,_,x.toNat,rfl,rfl,s3 _ _ h2,?_,?_⟩
     · unfold X0;rw[ci8,st.len,if_pos xb.1,if_pos xb.2]
     rw[<-cx7];refine ⟨_,_,_,rfl,c8,⟨by rw[ct2];exact st.len,fun j hj=> ?_,fun u u0 hu=> ?_⟩,fun b o hb nb=>by rw[g8 nb];exact s3 _ _ (kb b o hb nb)⟩
     · have ndt:=nd.sublist (List.take_sublist (i+1) rs);rw[o9 hx] at hj ndt ⊢;rw[o9 hy];have il:i < ms.length:=(ci9.mp hy).1
       have lt:(rs.take i).length=i:=by rw[cj9];omega
       have ltm:(ms.take i).length=i:=by rw[cj9];omega
       rw[cj6,lt,cq7] at hj
       by_cases c:j < i
       · have g1:(rs.take i++[x]).getD j 0=(rs.take i).getD j 0:=by rw[cj7,cm6 (by omega),<-cj7]
         have g2:(ms.take i++[y]).getD j 0=(ms.take i).getD j 0:=by rw[cj7,cm6 (by omega),<-cj7]
         rw[g1,g2]
         have mj:(rs.take i).getD j 0∈rs.take i:=by rw[p8 (by omega)];exact co3 _
         rw[X1 (bd _ (cp8 mj)).1 xb.1 ((cq0.mp ndt).2.2 _ mj x cj5)];exact st.at_ j (by omega)
       · have e:j=i:=by omega
         subst e
         have g1:(rs.take j++[x]).getD j 0=x:=by rw[cj7,cm8 (by omega),lt,cv7];rfl
         have g2:(ms.take j++[y]).getD j 0=y:=by rw[cj7,cm8 (by omega),ltm,cv7];rfl
         rw[g1,g2];exact Y7 (by have:=st.len;omega)
     · rw[o9 hx] at hu;rw[X1 u0 xb.1 fun e=>hu (ck0 _ (by rw[e];exact cj5))]
       exact st.out u u0 fun z=>hu (cn7 _ z)
   · rintro σ H2 ⟨fs',v3,v4,rfl,h2,st,kb⟩;rw[cn0,ln,cn0] at st;exact q fs' H2 h2 st kb
structure B7 (p q t:List Int):Prop where
 len:t.length=p.length
 at_:∀(L k:Nat) (r s:List Int),(x9 (j8 p p.length) L)[k]? =some r->(x9 (j8 q q.length) L)[k]? =some s->∀j,j < r.length->A2 t (r.getD j 0)=some (s.getD j 0)
def X7:Sp:=fun vs H Q _=>∃(a b:Addr) (p q:List Int),vs=[.ref a,.ref b]/\o7 H a p/\o7 H b q/\p.length=q.length/\
 (¬(n6 p).Perm (n6 q)->∀H',e8 H H'->Q .non H')/\((n6 p).Perm (n6 q)->∀(o:Addr) (t:List Int) (H':Hp),H o=none->e8 H H'->H' o=some (.lst (t.map V.int))->B7 p q t->Q (.ref o) H')
theorem ad0 {rs qs:List (List Int)}(h:(rs.map fun r=>(r.length:Int)).Perm (qs.map fun r=>(r.length:Int)))(L:Nat):(x9 rs L).length=(x9 qs L).length:=by
 have:=h.countP_eq (fun x=>decide (x=(L:Int)));rw[co7,co7] at this;unfold x9;rw[<-cv9,<-cv9]
 have e:∀l:List (List Int),(l.countP ((fun x=>decide (x=(L:Int)))∘fun r=>(r.length:Int)))=l.countP fun r=>decide (r.length=L):=fun l=>cp0 fun r _=>by simp only[Function.comp,decide_eq_true_eq];omega
 rw[e,e] at this;exact this
theorem aa2:∀{rs:List (List Int)} {r s:List Int} {x:Int},rs.flatten.Nodup->r∈rs->s∈rs->x∈r->x∈s->r=s
 |u::rs,r,s,x,nd,hr,hs,xr,xs=>by
  rw[co4,cq0] at nd
  rcases ck8.mp hr with e1|h1
  · rcases ck8.mp hs with e2|h2
    · rw[e1,e2]
    · exact absurd rfl (nd.2.2 x (e1▸xr) x (cl6.mpr ⟨s,h2,xs⟩))
  · rcases ck8.mp hs with e2|h2
    · exact absurd rfl (nd.2.2 x (e2▸xs) x (cl6.mpr ⟨r,h1,xr⟩))
    · exact aa2 nd.2.1 h1 h2 xr xs
theorem an4:∀{rs:List (List Int)},rs.flatten.Nodup->(∀r∈rs,r≠[])->rs.Nodup
 |[],_,_=>cq3
 |u::rs,nd,ne=>by
  rw[co4,cq0] at nd;refine cn3.mpr ⟨fun z=> ?_,an4 nd.2.1 fun r hr=>ne r (cj8 _ hr)⟩;obtain ⟨x,hx⟩:=List.exists_mem_of_ne_nil u (ne u cj5);exact absurd rfl (nd.2.2 x hx x (cl6.mpr ⟨u,z,hx⟩))
theorem aw1 {α:Type}{as:List α}(nd:as.Nodup){i j:Nat}{x:α}(h:as[i]? =some x)(g:as[j]? =some x):i=j:=by
 obtain ⟨l1,e1⟩:=ci9.mp h;obtain ⟨l2,e2⟩:=ci9.mp g
 rcases cu1 i j with z|z|z
 · exact absurd (e1.trans e2.symm) (ck3.mp (ck9.mp nd) i j l1 l2 z)
 · exact z
 · exact absurd (e2.trans e1.symm) (ck3.mp (ck9.mp nd) j i l2 l1 z)
theorem aw2 {as:List Addr}{j:Nat}{x:V}(h:(as.map V.ref)[j]? =some x):∃a,as[j]? =some a/\x=V.ref a:=by
 rw[cj2] at h
 cases e:as[j]? with
 |none=>rw[e] at h;cases h
 |some a=>rw[e] at h;exact ⟨a,rfl,(Option.some.inj h).symm⟩
theorem aw3 {H:Hp}{as:List Addr}{rs:List (List Int)}{j:Nat}{a:Addr}(rows:x6 H as rs)(h:as[j]? =some a):∃r,rs[j]? =some r/\H a=some (.lst (r.map V.int)):=by
 have il:j < rs.length:=by rw[<-rows.1];exact (ci9.mp h).1
 exact ⟨_,cj0 il,rows.2 j a _ h (cj0 il)⟩
theorem P1 {rs:List (List Int)}{L:Nat}{r:List Int}(h:r∈x9 rs L):r∈rs/\r.length=L:=by
 unfold x9 at h;obtain ⟨a,b⟩:=co0.mp h;exact ⟨a,of_decide_eq_true b⟩
theorem B8:l7 ["p","q","images","by_length","told","length","ring","image"] ["p","q"] (j5 M3):=by rfl'
theorem aa7 {f:Addr}{fd:FuncData}(F:B0 K "named_anew" "named_anew" M3 f fd)(B:Bl mg)(zzx:p6 P w K mg base "must_be_turn" 3 ["thing"] U0)(zu:p6 P w K mg base "must_fit" 1 ["p","q"] (ak3 K))(zsx:p6 P w K mg base "kind_of" 5 ["p"] av3)(zxz:p6 P w K mg base "sort_by_length" 1 ["rings"] an3)(zxy:p6 P w K mg base "walk_rings" 2 ["p"] L6)(zsz:p6 P w K mg base "send_over" 1 ["target","ring","image"] av9):j9 P w K mg base C8 6 f fd ["p","q"] X7:=by
 refine F.ok B8 (fun vs H Q E h=> ?_) (fun cdv A outer s H vs Q E hr h=> ?_)
 · obtain ⟨a,b,p,q,rfl,⟨ha,tp,lp⟩,⟨hb,tq,lq⟩,hl,qn,qy⟩:=h;rfl
 · obtain ⟨a,b,p,q,rfl,⟨ha,tp,lp⟩,⟨hb,tq,lq⟩,hl,qn,qy⟩:=h;have zyy:m9 3 _:=hr.mono (by decide);have zqx:m9 1 _:=hr.mono (by decide);have znx:m9 5 _:=hr.mono (by decide);have zrz:m9 1 _:=hr.mono (by decide);have zo:m9 2 _:=hr.mono (by decide);have zly:m9 1 _:=hr.mono (by decide);have hu:=U8 hr;refine ⟨_,@g6 _ _ _ _ _ (@B6 _ _ _ _ (@i9 _ _ _ _ _ _ _ _ _ _ zzx zyy (@c6 _ _ _ _ _ (pv 0) (@c7 _) (by rfl)) (by rfl) (by decide) (by rfl) (by rfl)) (by rfl)) (@g6 _ _ _ _ _ (@B6 _ _ _ _ (@i9 _ _ _ _ _ _ _ _ _ _ zzx zyy (@c6 _ _ _ _ _ (pv 1) (@c7 _) (by rfl)) (by rfl) (by decide) (by rfl) (by rfl)) (by rfl)) (@g6 _ _ _ _ _ (@B6 _ _ _ _ (@i9 _ _ _ _ _ _ _ _ _ _ zu zqx (@c6 _ _ _ _ _ (pv 0) (@c6 _ _ _ _ _ (pv 1) (@c7 _) (by rfl)) (by rfl)) (by rfl) (by decide) (by rfl) (by rfl)) (by rfl)) (@g6 _ _ _ _ _ (@C5 _ _ _ _ _ _ _ _ (@o4 _ _ _ _ _ _ _ _ (ab8 0 hu) (@i9 _ _ _ _ _ _ _ _ _ _ zsx znx (@c6 _ _ _ _ _ (pv 0) (@c7 _) (by rfl)) (by rfl) (by decide) (by rfl) (by rfl)) (@i9 _ _ _ _ _ _ _ _ _ _ zsx znx (@c6 _ _ _ _ _ (pv 1) (@c7 _) (by rfl)) (by rfl) (by decide) (by rfl) (by rfl)) (m8 _)) (@i6 _ _ _ (@m7 _ _ _ _ (@S0 _ _ _))) (@q9 _)) (@g6 _ _ _ _ _ (@i8 _ _ (2) _ _ _ _ B8.nd rfl (Or.inl rfl) (@i9 _ _ _ _ _ _ _ _ _ _ zxz zrz (@c6 _ _ _ _ _ (@i9 _ _ _ _ _ _ _ _ _ _ zxy zo (@c6 _ _ _ _ _ (pv 1) (@c7 _) (by rfl)) (by rfl) (by decide) (by rfl) (by rfl)) (@c7 _) (by rfl)) (by rfl) (by decide) (by rfl) (by rfl)) (by rfl) (by trivial)) (@g6 _ _ _ _ _ (@i8 _ _ (3) _ _ _ _ B8.nd rfl (Or.inl rfl) (@i9 _ _ _ _ _ _ _ _ _ _ zxz zrz (@c6 _ _ _ _ _ (@i9 _ _ _ _ _ _ _ _ _ _ zxy zo (@c6 _ _ _ _ _ (pv 0) (@c7 _) (by rfl)) (by rfl) (by decide) (by rfl) (by rfl)) (@c7 _) (by rfl)) (by rfl) (by decide) (by rfl) (by rfl)) (by rfl) (by trivial)) (@g6 _ _ _ _ _ (@i8 _ _ (4) _ _ _ _ B8.nd rfl (Or.inl rfl) (@E9 _ _ _ _ _ B.list (@c6 _ _ _ _ _ (pv 0) (@c7 _) (by rfl)) (by rfl) (by rfl)) (by rfl) (by trivial)) (@g6 _ _ _ _ _ (@C1 _ _ _ _ _ _ _ _ PassesOwn.never rfl (@bt4 _ _ _ _ (pv 3)) (@n4 _ _ (5) _ B8.nd rfl (Or.inl rfl) (by trivial)) (@i6 _ _ _ (@C1 _ _ _ _ _ _ _ _ PassesOwn.never rfl (@bi5 _ _ _ _ _ _ _ _ _ B.zip (@c6 _ _ _ _ _ (@al7 _ _ _ _ _ _ hu (pv 3) (pv 5) (fun _ _=>rfl)) (@c6 _ _ _ _ _ (@al7 _ _ _ _ _ _ hu (pv 2) (pv 5) (fun _ _=>rfl)) (@c7 _) (by rfl)) (by rfl)) (by rfl) (by rfl) (by rfl)) (@aa8 _ _ _ _ _ _ rfl (@E3 _ _ _ _ _ (@n4 _ _ (6) _ B8.nd rfl (Or.inl rfl) (by trivial)) (@E3 _ _ _ _ _ (@n4 _ _ (7) _ B8.nd rfl (Or.inl rfl) (by trivial)) (@W7 _) (by rfl)) (by rfl)) (by rfl) (by rfl)) (@i6 _ _ _ (@B6 _ _ _ _ (@i9 _ _ _ _ _ _ _ _ _ _ zsz zly (@c6 _ _ _ _ _ (pv 4) (@c6 _ _ _ _ _ (pv 6) (@c6 _ _ _ _ _ (pv 7) (@c7 _) (by rfl)) (by rfl)) (by rfl)) (by rfl) (by decide) (by rfl) (by rfl)) (by rfl))) (by intro _;rfl))) (by intro _;rfl)) (@i6 _ _ _ (@m7 _ _ _ _ (pv 4)))))))))),?_⟩
   refine ⟨_,rfl,a,p,rfl,⟨ha,tp,lp⟩,fun H1 s1=> ?_⟩;refine ⟨_,rfl,b,q,rfl,⟨s1 _ _ hb,tq,lq⟩,fun H2 s2=> ?_⟩;have s02:=s1.trans s2;refine ⟨_,rfl,_,rfl,a,b,_,_,rfl,i4.of (s02 _ _ ha),i4.of (s02 _ _ hb),by simpa using hl,?_⟩;refine ⟨_,rfl,a,p,rfl,⟨s02 _ _ ha,tp,lp⟩,fun l1 ms1 H3 hl1 s3 pm1 fal1 bd1 ln1 h3=> ?_⟩;refine ⟨_,rfl,b,q,rfl,⟨s3 _ _ (s02 _ _ hb),tq,lq⟩,fun l2 ms2 H4 hl2 s4 pm2 fal2 bd2 ln2 h4=> ?_⟩;have s04:=s02.trans (s3.trans s4);refine ⟨l1,l2,_,_,_,rfl,rfl,i4.of (s4 _ _ h3),i4.of h4,N6 K H4 0 ms1 ms2,_,rfl,?_⟩
   show if (!decide (ms1=ms2))=true then _ else _
   by_cases e:¬ms1=ms2
   · rw[decide_eq_false e];exact E6 (qn (fun pm=>e (V9 ((pm1.trans pm).trans pm2.symm) fal1 fal2)) H4 s04)
   replace e:ms1=ms2:=Classical.not_not.mp e
   have kpm:(n6 p).Perm (n6 q):=pm1.symm.trans (e▸pm2);refine U9 e ?_;refine ⟨_,rfl,b,q,rfl,⟨s04 _ _ hb,tq,lq⟩,fun R2 as2 rs2 H5 hR2 s5 h5 rows2 up2 fa2 nda2 nla2=> ?_⟩;refine ⟨R2,as2,rs2,rfl,h5,rows2,by have:=aa0 up2;have:=ac9 tq up2;omega,fun d2 es2 H6 hd2 s6 h6 bl2 le2 fr2=> ?_⟩;have s06:=s04.trans (s5.trans s6);refine ⟨_,rfl,a,p,rfl,⟨s06 _ _ ha,tp,lp⟩,fun R1 as1 rs1 H7 hR1 s7 h7 rows1 up1 fa1 nda1 nla1=> ?_⟩;refine ⟨R1,as1,rs1,rfl,h7,rows1,by have:=aa0 up1;have:=ac9 tp up1;omega,fun d1 es1 H8 hd1 s8 h8 bl1 le1 fr1=> ?_⟩;have s08:=s06.trans (s7.trans s8);refine ⟨_,rfl,a,_,rfl,.inl (i4.of (s08 _ _ ha)),fun o ho=> ?_⟩;have s9:e8 H8 (c9 H8 o (.lst (p.map V.int))):=e8.upd_new ho;have h9:(c9 H8 o (.lst (p.map V.int))) o=some (.lst (p.map V.int)):=c8;generalize (c9 H8 o (.lst (p.map V.int)))=H9 at s9 h9 ⊢;have ho0:H o=none:=s08.free ho;have s09:=s08.trans s9;have hd10:H d1=none:=(s06.trans s7).free hd1;have er1:rs1=j8 p p.length:=up1.eq;have er2:rs2=j8 q q.length:=up2.eq;have g8d2:H8 d2=some (.dK (x8 es2)):=s8 _ _ (s7 _ _ h6);have nd1o:d1≠o:=g7 h8 ho;have nd2o:d2≠o:=g7 g8d2 ho
   have nd12:d2≠d1:=fun z=>by rw[z] at h6;rw[s7 _ _ h6] at hd1;cases hd1
   refine ⟨_,rfl,d1,x8 es1,rfl,s9 _ _ h8,fun ob=> ?_⟩
   have kp:∀c,c≠d1->(c9 H9 d1 (.frz ob (.dK (x8 es1)))) c=H9 c:=fun c hc=>g8 hc
   have h10d:(c9 H9 d1 (.frz ob (.dK (x8 es1)))) d1=some (.frz ob (.dK (x8 es1))):=c8;have s010:e8 H (c9 H9 d1 (.frz ob (.dK (x8 es1)))):=s09.upd_r hd10;generalize (c9 H9 d1 (.frz ob (.dK (x8 es1))))=H10 at kp h10d s010 ⊢
   have h10o:H10 o=some (.lst (p.map V.int)):=by rw[kp _ nd1o.symm];exact h9
   have h10d2:H10 d2=some (.dK (x8 es2)):=by rw[kp _ nd12];exact s9 _ _ g8d2
   have lkv:(x8 es1).length=es1.length:=by unfold x8;rw[ci8]
   refine bo8 (fun i σ Hx=>∃(fs:List Int) (v5 v6 v7:Option V),σ=[some (.ref a),some (.ref b),some (.ref d2),some (.ref d1),some (.ref o),v5,v6,v7]/\Hx o=some (.lst (fs.map V.int))/\fs.length=p.length/\(∀e∈es1.take i,∀(k:Nat) (r s:List Int),(x9 rs1 e.1)[k]? =some r->(x9 rs2 e.1)[k]? =some s->∀j,j < r.length->A2 fs (r.getD j 0)=some (s.getD j 0))/\j7 o H10 Hx)
     ⟨p,none,none,none,rfl,h10o,rfl,(fun e he=>by rw[cu0] at he;cases he),j7.refl _ _⟩ (fun i σ Hx _ ⟨_,_,_,_,_,_,_,_,kb⟩=>kb _ _ h10d nd1o) ?_ ?_
   · rintro i k v σ Hx hi ⟨fs,v5,v6,v7,rfl,hx,fl,nm,kb⟩;unfold x8 at hi;rw[cj2] at hi
     cases hE:es1[i]? with
     |none=>rw[hE] at hi;cases hi
     |some e=>
     rw[hE] at hi;cases hi;have he:=ck5 hE;obtain ⟨cs1,hcs1,rcs1⟩:=bl1.row e he;obtain ⟨r0,hr0,lr0⟩:=bl1.key e.1 (ck6.mpr ⟨e,he,rfl⟩);have cnt:(x9 rs1 e.1).length=(x9 rs2 e.1).length:=ad0 (by rw[er1,er2];exact kpm) e.1;have m0:r0∈x9 rs1 e.1:=co0.mpr ⟨hr0,decide_eq_true lr0⟩;obtain ⟨s0,hs0⟩:=List.exists_mem_of_length_pos (show 0 < (x9 rs2 e.1).length by rw[<-cnt];exact List.length_pos_of_mem m0);obtain ⟨e2,he2,ee⟩:=ck6.mp (bl2.all s0 (P1 hs0).1);rw[(P1 hs0).2] at ee;obtain ⟨cs2,hcs2,rcs2⟩:=bl2.row e2 he2;rw[ee] at rcs2;have g8c2:H8 e2.2=some (.lst (cs2.map V.ref)):=s8 _ _ (s7 _ _ hcs2)
     have n2d:e2.2≠d1:=fun z=>by have:=s7 _ _ hcs2;rw[z,hd1] at this;cases this
     have hx1:Hx e.2=some (.lst (cs1.map V.ref)):=kb _ _ (by rw[kp _ (bl1.nd e he)];exact s9 _ _ hcs1) (g7 hcs1 ho);have hx2:Hx e2.2=some (.lst (cs2.map V.ref)):=kb _ _ (by rw[kp _ n2d];exact s9 _ _ g8c2) (g7 g8c2 ho)
     have l1:(cs1.map V.ref).length=(x9 rs1 e.1).length:=by rw[ci8];exact rcs1.1
     have l2:(cs2.map V.ref).length=(x9 rs1 e.1).length:=by rw[ci8,cnt];exact rcs2.1
     have n1o:e.2≠o:=g7 hcs1 ho;have n2o:e2.2≠o:=g7 g8c2 ho;have n1d:e.2≠d1:=bl1.nd e he;have nf1:rs1.flatten.Nodup:=(L3 tp up1).nodup_iff.mpr (J4 _)
     have ne1:∀r∈rs1,r≠[]:=fun r hr z=>by
       obtain ⟨y,L,hy,pr,er,_⟩:=up1.ring r hr;have:=o8 p y L;rw[<-er,z] at this;have:=pr.pos;simp at*;omega
     have ndf:(x9 rs1 e.1).Nodup:=List.Nodup.sublist co6 (an4 nf1 ne1)
     refine ⟨_,rfl,_,rfl,d1,.ref e.2,rfl,.inl ⟨x8 es1,Sum.inl (e.1:Int),.inr ⟨ob,kb _ _ h10d nd1o⟩,rfl,(bk5 bl1.nk he).symm⟩,_,rfl,_,rfl,d2,.ref e2.2,rfl,.inl ⟨x8 es2,Sum.inl (e.1:Int),.inl (kb _ _ h10d2 nd2o),rfl,by rw[<-ee];exact (bk5 bl2.nk he2).symm⟩,e.2,e2.2,_,_,rfl,hx1,hx2,bb0 (n:=(x9 rs1 e.1).length) (fun k σ Hy=>∃(fs':List Int) (v6 v7:Option V),σ=[some (.ref a),some (.ref b),some (.ref d2),some (.ref d1),some (.ref o),some (.int (e.1:Int)),v6,v7]/\Hy o=some (.lst (fs'.map V.int))/\fs'.length=p.length/\(∀e∈es1.take i,∀(k:Nat) (r s:List Int),(x9 rs1 e.1)[k]? =some r->(x9 rs2 e.1)[k]? =some s->∀j,j < r.length->A2 fs' (r.getD j 0)=some (s.getD j 0))/\(∀k',k' < k->∀(r s:List Int),(x9 rs1 e.1)[k']? =some r->(x9 rs2 e.1)[k']? =some s->∀j,j < r.length->A2 fs' (r.getD j 0)=some (s.getD j 0))/\j7 o H10 Hy)
       ⟨fs,v6,v7,rfl,hx,fl,nm,(fun k' h=>by omega),kb⟩
       (fun k σ Hy _ ⟨_,_,_,_,_,_,_,_,kb'⟩=>⟨_,_,kb' _ _ (by rw[kp _ n1d];exact s9 _ _ hcs1) n1o,kb' _ _ (by rw[kp _ n2d];exact s9 _ _ g8c2) n2o,l1,l2⟩) ?_ ?_⟩
     · rintro k x y σ Hy tpa xs zs hk hxs hzs ex ey ⟨fs',w6,w7,rfl,hy,fl',nm',cur,kb'⟩ htp;rw[kb' _ _ (by rw[kp _ n1d];exact s9 _ _ hcs1) n1o] at hxs;rw[kb' _ _ (by rw[kp _ n2d];exact s9 _ _ g8c2) n2o] at hzs;cases hxs;cases hzs;obtain ⟨r1a,hr1a,rfl⟩:=aw2 ex;obtain ⟨r2a,hr2a,rfl⟩:=aw2 ey;obtain ⟨r,hr,h7r⟩:=aw3 rcs1 hr1a;obtain ⟨s,hs,h5s⟩:=aw3 rcs2 hr2a;have g8r:=s8 _ _ h7r;have g8s:=s8 _ _ (s7 _ _ (s6 _ _ h5s))
       have n1x:r1a≠d1:=fun z=>by rw[z,hd1] at h7r;cases h7r
       have n2x:r2a≠d1:=fun z=>by have:=s7 _ _ (s6 _ _ h5s);rw[z,hd1] at this;cases this
       have m1o:r1a≠o:=g7 g8r ho;have m2o:r2a≠o:=g7 g8s ho;have hyr:=kb' _ _ (show H10 r1a=_ by rw[kp _ n1x];exact s9 _ _ g8r) m1o;have hys:=kb' _ _ (show H10 r2a=_ by rw[kp _ n2x];exact s9 _ _ g8s) m2o;have s3:e8 Hy (c9 Hy tpa (.tup [.ref r1a,.ref r2a])):=e8.upd_new htp;have h3t:(c9 Hy tpa (.tup [.ref r1a,.ref r2a])) tpa=some (.tup [.ref r1a,.ref r2a]):=c8;generalize (c9 Hy tpa (.tup [.ref r1a,.ref r2a]))=Hw at s3 h3t ⊢;have fr:=P1 (ck5 hr);have fs2:=P1 (ck5 hs);refine ⟨tpa,_,rfl,U5.of h3t,rfl,_,_,rfl,_,_,rfl,rfl,_,rfl,_,rfl,_,rfl,o,r1a,r2a,fs',r,s,rfl,s3 _ _ hy,s3 _ _ hyr,s3 _ _ hys,m1o,m2o,by rw[fr.2,fs2.2],fun x hx=> ?_,nf1.sublist (cw1 fr.1),fun fs'' Hz hz st kz=> ?_⟩
       · have:=B5.mp ((L3 tp up1).mem_iff.mp (cl6.mpr ⟨r,fr.1,hx⟩));omega
       have keep:∀r',r'∈rs1->r'≠r->∀j,j < r'.length->A2 fs'' (r'.getD j 0)=A2 fs' (r'.getD j 0):=fun r' hr' ne j hj=>by
         have mj:r'.getD j 0∈r':=by rw[p8 hj];exact co3 _
         have:=B5.mp ((L3 tp up1).mem_iff.mp (cl6.mpr ⟨r',hr',mj⟩))
         exact st.out _ this.1 fun z=>ne (aa2 nf1 hr' fr.1 mj z)
       refine ⟨fs'',_,_,rfl,hz,by rw[st.len];exact fl',fun e' he' k' r' s' hr' hs' j hj=> ?_,fun k' hk' r' s' hr' hs' j hj=> ?_,fun c u hc nc=>kz _ _ (s3 _ _ (kb' c u hc nc)) nc⟩
       · have f':=P1 (ck5 hr');rw[keep r' f'.1 (fun z=> ?_) j hj]
         · exact nm' e' he' k' r' s' hr' hs' j hj
         · have ek:e'.1=e.1:=by rw[<-f'.2,<-fr.2,z]
           obtain ⟨i',hi'⟩:=co2 he'
           have il':i' < i:=by
             have:=(ci9.mp hi').1;rw[cj9] at this;omega
           rw[cm0 il'] at hi';have:=aw1 bl1.nk (show (es1.map (·.1))[i']? =some e.1 by rw[cj2,hi'];exact congrArg some ek) (show (es1.map (·.1))[i]? =some e.1 by rw[cj2,hE];rfl);omega
       · by_cases z:k'=k
         · subst z;rw[hr] at hr';rw[hs] at hs';cases hr';cases hs';exact st.at_ j hj
         · rw[keep r' (P1 (ck5 hr')).1 (fun w=>z (aw1 ndf (w▸hr') hr)) j hj];exact cur k' (by omega) r' s' hr' hs' j hj
     · rintro σ Hy ⟨fs',w6,w7,rfl,hy,fl',nm',cur,kb'⟩;refine ⟨fs',_,_,_,rfl,hy,fl',fun e' he' k' r' s' hr' hs' j hj=> ?_,kb'⟩;rw[o9 hE] at he'
       rcases ck7.mp he' with z|z
       · exact nm' e' z k' r' s' hr' hs' j hj
       · cases cn2.mp z;exact cur k' (ci9.mp hr').1 r' s' hr' hs' j hj
   · rintro σ Hx ⟨fs,v5,v6,v7,rfl,hx,fl,nm,kb⟩;rw[lkv,cn0] at nm;refine ⟨_,rfl,qy kpm o fs Hx ho0 (fun c u hc=>kb _ _ (s010 _ _ hc) (g7 hc ho0)) hx ⟨fl,fun L k r s hr hs j hj=> ?_⟩⟩;rw[<-er1] at hr;rw[<-er2] at hs;have mr:=ck5 hr;obtain ⟨m1,m2⟩:=co0.mp (show r∈rs1.filter _ from mr);have Lr:r.length=L:=of_decide_eq_true m2;obtain ⟨e,he,ee⟩:=ck6.mp (bl1.all r m1);exact nm e he k r s (by rw[ee,Lr];exact hr) (by rw[ee,Lr];exact hs) j hj
end
end My
namespace My
open PySem L2 Mth
section
theorem ap8 {p:List Int}{rs:List (List Int)}(tp:l4 p)(up:r6 p p.length rs){r:List Int}(hr:r∈rs){j:Nat}(hj:j < r.length):A2 p (r.getD j 0)=some (r.getD ((j+1)%r.length) 0):=by
 obtain ⟨y,L,hy,pr,er,_⟩:=up.ring r hr;subst er;rw[o8] at hj ⊢;rw[t7 hj,t7 (cy1 _ pr.pos),O7 (G2 tp hy j)]
 by_cases z:j+1=L
 · rw[z,Nat.mod_self];show some (it p (j+1) y)=some y;rw[z,pr.back]
 · rw[Nat.mod_eq_of_lt (by omega)];rfl
theorem U3 {p q t:List Int}(tp:l4 p)(k:(n6 p).Perm (n6 q))(n:B7 p q t){i:Nat}(h:i < p.length):∃(r s:List Int) (j u:Nat),(x9 (j8 p p.length) r.length)[u]? =some r/\(x9 (j8 q q.length) r.length)[u]? =some s/\r∈j8 p p.length/\s∈j8 q q.length/\r.length=s.length/\j < r.length/\r.getD j 0=(i:Int)/\∀u,u < r.length->A2 t (r.getD u 0)=some (s.getD u 0):=by
 have up:=A4 tp;have hm:((i:Nat):Int)∈(j8 p p.length).flatten:=(L3 tp up).mem_iff.mpr (B5.mpr ⟨by omega,by omega⟩);obtain ⟨r,hr,hi⟩:=cl6.mp hm;obtain ⟨j,hj⟩:=co2 hi;have jl:j < r.length:=(ci9.mp hj).1;have m0:r∈x9 (j8 p p.length) r.length:=co0.mpr ⟨hr,decide_eq_true rfl⟩;obtain ⟨u,hu⟩:=co2 m0;have ul:=(ci9.mp hu).1;rw[ad0 k r.length] at ul;have hs:=cj0 ul;have fs:=P1 (ck5 hs);exact ⟨r,_,j,u,hu,hs,hr,fs.1,fs.2.symm,jl,by rw[cj7,hj];rfl,n.at_ r.length u r _ hu hs⟩
theorem B7.conj {p q t:List Int}(tp:l4 p)(tq:l4 q)(k:(n6 p).Perm (n6 q))(n:B7 p q t):l8 t p=l8 q t:=by
 refine cm3 fun i=> ?_
 by_cases h:i < p.length
 · obtain ⟨r,s,j,_,_,_,hr,hs,ls,jl,ei,at_⟩:=U3 tp k n h;have m:(j+1)%r.length < r.length:=cy1 _ (by omega);have a1:=ap8 tp (A4 tp) hr jl;have a2:=at_ j jl;have a3:=at_ _ m;have a4:=ap8 tq (A4 tq) hs (show j < s.length by omega);rw[<-ls] at a4;rw[ei] at a1 a2;unfold A2 at a1 a2 a3 a4;rw[cm2] at a1 a2;unfold Mth.l8;rw[cj2,cj2,a1,a2];show some (t.getD _ 0)=some (q.getD _ 0)
   have b3:t.getD (r.getD ((j+1)%r.length) 0).toNat 0=s.getD ((j+1)%r.length) 0:=by rw[cj7 (l:=t),a3];rfl
   have b4:q.getD (s.getD j 0).toNat 0=s.getD ((j+1)%r.length) 0:=by rw[cj7 (l:=q),a4];rfl
   rw[b3,b4]
 · unfold Mth.l8;rw[cj2,cj2,cj3 (by omega),cj3 (by have:=n.len;omega)];rfl
theorem ah9 {p:List Int}(tp:l4 p):∀r∈j8 p p.length,r≠[]:=fun r hr z=>by
 obtain ⟨y,L,hy,pr,er,_⟩:=(A4 tp).ring r hr;have:=o8 p y L;rw[<-er,z] at this;have:=pr.pos;simp at*;omega
theorem B7.isT {p q t:List Int}(tp:l4 p)(tq:l4 q)(hl:p.length=q.length)(k:(n6 p).Perm (n6 q))(n:B7 p q t):l4 t:=by
 have fq:=L3 tq (A4 tq);have nfq:(j8 q q.length).flatten.Nodup:=fq.nodup_iff.mpr (J4 _)
 have val:∀i,i < p.length->∃(r s:List Int) (j u:Nat),(x9 (j8 p p.length) r.length)[u]? =some r/\(x9 (j8 q q.length) r.length)[u]? =some s/\s∈j8 q q.length/\r.length=s.length/\j < r.length/\r.getD j 0=(i:Int)/\t[i]? =some (s.getD j 0):=fun i h=>by
   obtain ⟨r,s,j,u,h1,h2,hr,hs,ls,jl,ei,at_⟩:=U3 tp k n h;have a2:=at_ j jl;rw[ei] at a2;unfold A2 at a2;rw[cm2] at a2;exact ⟨r,s,j,u,h1,h2,hs,ls,jl,ei,a2⟩
 have bd:∀x∈t,0<=x/\x < (q.length:Int):=fun x hx=>by
   obtain ⟨i,hi⟩:=co2 hx;have il:=(ci9.mp hi).1;rw[n.len] at il;obtain ⟨r,s,j,u,_,_,hs,ls,jl,_,e⟩:=val i il;rw[hi] at e;rw[Option.some.inj e]
   have:s.getD j 0∈s:=by rw[p8 (by omega)];exact co3 _
   exact B5.mp (fq.mem_iff.mp (cl6.mpr ⟨s,hs,this⟩))
 refine ⟨?_,fun x hx=>(bd x hx).1,fun x hx=>by have:=(bd x hx).2;rw[n.len,hl];exact this⟩;rw[ck9,ck3];intro i i' l l' lt e;obtain ⟨r,s,j,u,hr,hs,ms,ls,jl,ei,tv⟩:=val i (by rw[<-n.len];exact l);obtain ⟨r',s',j',u',hr',hs',ms',ls',jl',ei',tv'⟩:=val i' (by rw[<-n.len];exact l');rw[cj0 l] at tv;rw[cj0 l',<-e] at tv';have ev:s.getD j 0=s'.getD j' 0:=(Option.some.inj tv).symm.trans (Option.some.inj tv')
 have m1:s.getD j 0∈s:=by rw[p8 (by omega)];exact co3 _
 have m2:s.getD j 0∈s':=by rw[ev,p8 (by omega)];exact co3 _
 have es:=aa2 nfq ms ms' m1 m2;subst es
 have el:r.length=r'.length:=by omega
 rw[<-el] at hr' hs';have ndf:(x9 (j8 q q.length) r.length).Nodup:=List.Nodup.sublist co6 (an4 nfq (ah9 tq));have eu:=aw1 ndf hs hs';subst eu;rw[hr] at hr';cases hr';have nds:s.Nodup:=nfq.sublist (cw1 ms)
 have ej:j=j':=by
   by_cases z:j=j'
   · exact z
   · exact absurd ev (J6 nds (by omega) (by omega) z)
 subst ej;rw[ei] at ei';omega
theorem bb1 {p q u:List Int}(ul:u.length=p.length)(cu:l8 u p=l8 q u){x:Int}(hx:Mth.In p x):nx u (nx p x)=nx q (nx u x):=by
 have hu:Mth.In u x:=⟨hx.1,by rw[ul];exact hx.2⟩;have a:=O7 hx;have b:=O7 hu;unfold A2 at a b
 have c:(l8 u p)[x.toNat]? =(l8 q u)[x.toNat]? :=by rw[cu]
 unfold Mth.l8 at c;rw[cj2,cj2,a,b] at c;exact Option.some.inj c
theorem R8 {p q u:List Int}(tp:l4 p)(ul:u.length=p.length)(cu:l8 u p=l8 q u){x:Int}(hx:Mth.In p x):∀j,nx u (it p j x)=it q j (nx u x)
 |0=>rfl
 |j+1=>by
  show nx u (nx p (it p j x))=nx q (it q j (nx u x));rw[bb1 ul cu (G2 tp hx j),R8 tp ul cu hx j]
theorem aa3 {p q u:List Int}(tp:l4 p)(tu:l4 u)(ul:u.length=p.length)(cu:l8 u p=l8 q u){x:Int}{L:Nat}(hx:Mth.In p x)(pr:G4 p x L):G4 q (nx u x) L:=by
 have inu:∀j,Mth.In u (it p j x):=fun j=>by have:=G2 tp hx j;exact ⟨this.1,by rw[ul];exact this.2⟩
 refine ⟨pr.pos,by rw[<-R8 tp ul cu hx,pr.back],fun i i0 il e=> ?_⟩;rw[<-R8 tp ul cu hx] at e;exact pr.least i i0 il (X2 tu (inu i) (inu 0) e)
theorem B7.first {p q t u:List Int}(tp:l4 p)(tq:l4 q)(hl:p.length=q.length)(k:(n6 p).Perm (n6 q))(n:B7 p q t)(tu:l4 u)(ul:u.length=p.length)(cu:l8 u p=l8 q u){i:Nat}(hi:i < p.length)(same:∀i':Nat,i' < i->nx t (i':Int)=nx u (i':Int)):nx t (i:Int)<=nx u (i:Int):=by
 have upp:=A4 tp;have upq:=A4 tq;have ct:=n.conj tp tq k;have tt:=n.isT tp tq hl k;obtain ⟨r,s,j,k0,hr,hs,mr,ms,ls,jl,ei,at_⟩:=U3 tp k n hi;obtain ⟨y,L,hy,pr,er,ymin,_⟩:=upp.ring r mr
 have rl:r.length=L:=by rw[er,o8]
 have ej:(i:Int)=it p j y:=by rw[<-ei,er,t7 (by omega)]
 have yi:y<=(i:Int):=ymin _ (by rw[er];exact t5.mpr ⟨j,by omega,ej⟩);obtain ⟨y',rfl⟩:=co9 hy.1
 by_cases lt:(y':Int) < (i:Int)
 · have e:=same y' (by omega);rw[ej,R8 tp n.len ct hy,R8 tp ul cu hy,e];exact Int.le_refl _
 have ey:y'=i:=by omega
 subst ey
 have t0:nx t (y':Int)=s.getD 0 0:=by
   have:=at_ 0 (by omega);rw[er,t7 pr.pos] at this;have b:=O7 (p:=t) (x:=(y':Int)) ⟨hy.1,by rw[n.len];exact hy.2⟩;rw[show it p 0 (y':Int)=(y':Int) from rfl,b] at this;exact Option.some.inj this
 rw[t0];have inu:Mth.In u (y':Int):=⟨hy.1,by rw[ul];exact hy.2⟩
 have inq:Mth.In q (nx u (y':Int)):=by have:=Q9 tu inu;exact ⟨this.1,by rw[<-hl,<-ul];exact this.2⟩
 have pq:=aa3 tp tu ul cu hy pr;obtain ⟨s',ms',hv⟩:=cl6.mp ((L3 tq upq).mem_iff.mpr (B5.mpr inq));obtain ⟨z,M,hz,prz,es,zmin,_⟩:=upq.ring s' ms';rw[es] at hv;have vz:=zmin _ (by rw[es];exact hv);obtain ⟨m,ml,em⟩:=t5.mp hv
 have eM:M=L:=by
   have:=prz.shift tq hz m;rw[<-em] at this;exact this.uniq pq
 subst eM;have f':s'∈x9 (j8 q q.length) r.length:=co0.mpr ⟨ms',decide_eq_true (by rw[es,o8,rl])⟩;obtain ⟨k1,hk1⟩:=co2 f'
 have z0:s'.getD 0 0=z:=by rw[es,t7 prz.pos];rfl
 have ordq:(x9 (j8 q q.length) r.length).Pairwise fun a b=>a.getD 0 0 < b.getD 0 0:=upq.ord.sublist co6
 have ordp:(x9 (j8 p p.length) r.length).Pairwise fun a b=>a.getD 0 0 < b.getD 0 0:=upp.ord.sublist co6
 obtain ⟨l0,e0⟩:=ci9.mp hs;obtain ⟨l1,e1⟩:=ci9.mp hk1
 rcases cu1 k0 k1 with lt|eq|gt
 · have:=ck3.mp ordq k0 k1 l0 l1 lt;rw[e0,e1,z0] at this;omega
 · subst eq;rw[e0] at e1;rw[<-e1] at z0;omega
 · exfalso
   have l1p:k1 < (x9 (j8 p p.length) r.length).length:=by rw[ad0 k r.length];exact l1
   have hr1:=cj0 l1p;obtain ⟨lr,er0⟩:=ci9.mp hr;have o:=ck3.mp ordp k1 k0 l1p lr gt;generalize (x9 (j8 p p.length) r.length)[k1]=r1 at hr1 o;rw[er0] at o;have f1:=P1 (ck5 hr1);obtain ⟨y1,L1,hy1,pr1,er1,_,_⟩:=upp.ring r1 f1.1
   have h10:r1.getD 0 0=y1:=by rw[er1,t7 pr1.pos];rfl
   have r0:r.getD 0 0=(y':Int):=by rw[er,t7 pr.pos];rfl
   rw[h10,r0] at o;have a1:=n.at_ r.length k1 r1 s' hr1 hk1 0 (by rw[f1.2];omega);rw[h10,z0] at a1;have b1:=O7 (p:=t) (x:=y1) ⟨hy1.1,by rw[n.len];exact hy1.2⟩;rw[b1] at a1;have ty1:nx t y1=z:=Option.some.inj a1;obtain ⟨w1,rfl⟩:=co9 hy1.1
   have uy1:nx u (w1:Int)=z:=by rw[<-same w1 (by omega)];exact ty1
   have e2:nx u (y':Int)=nx u (it p m (w1:Int)):=by rw[R8 tp ul cu hy1,uy1];exact em
   have in2:Mth.In u (it p m (w1:Int)):=by have:=G2 tp hy1 m;exact ⟨this.1,by rw[ul];exact this.2⟩
   have e3:=X2 tu inu in2 e2
   have L1e:L1=M:=by
     have:=f1.2;rw[er1,o8,rl] at this;exact this
   have x1:(y':Int)∈r1:=by rw[er1,e3];exact t5.mpr ⟨m,by omega,rfl⟩
   have x2:(y':Int)∈r:=by rw[er];exact t5.mpr ⟨0,pr.pos,rfl⟩
   have er':=aa2 upp.nd f1.1 mr x1 x2;rw[er'] at h10;rw[r0] at h10;omega
theorem af1 (a:Int)(t:List Int)(i:Nat):nx (a::t) ((i+1:Nat):Int)=nx t (i:Int):=by
 unfold nx;rw[cm2,cm2,List.getD_cons_succ]
theorem af2 (a:Int)(t:List Int):nx (a::t) ((0:Nat):Int)=a:=rfl
theorem ap9:∀{t u:List Int},t.length=u.length->t≠u->(∀i:Nat,i < t.length->(∀i':Nat,i' < i->nx t (i':Int)=nx u (i':Int))->nx t (i:Int)<=nx u (i:Int))->HT.ad5 t u=true
 |[],[],_,ne,_=>absurd rfl ne
 |[],_::_,l,_,_=>by cases l
 |_::_,[],l,_,_=>by cases l
 |a::t,b::u,l,ne,h=>by
  have h0:=h 0 (Nat.succ_pos _) (fun i' hi=>by omega);rw[af2,af2] at h0
  have l':t.length=u.length:=by rw[cl0,cl0] at l;omega
  by_cases c:a=b
  · subst c
    have i:=ap9 (t:=t) (u:=u) l' (fun e=>ne (by rw[e])) fun i hi hs=>by
      have:=h (i+1) (by rw[cl0];omega) fun i' hi'=>by
        cases i' with
        |zero=>rw[af2,af2]
        |succ i'=>rw[af1,af1];exact hs i' (by omega)
      rw[af1,af1] at this;exact this
    simp [HT.ad5,i]
  · have:a < b:=by omega
    simp [HT.ad5,this];exact .inl c
theorem B7.least {p q t u:List Int}(tp:l4 p)(tq:l4 q)(hl:p.length=q.length)(k:(n6 p).Perm (n6 q))(n:B7 p q t)(tu:l4 u)(ul:u.length=p.length)(cu:l8 u p=l8 q u)(ne:t≠u):HT.ad5 t u=true:=
 ap9 (by rw[n.len,ul]) ne fun i hi same=>n.first tp tq hl k tu ul cu (by rw[<-n.len];exact hi) same
theorem aq0 {p q u:List Int}(tp:l4 p)(tq:l4 q)(hl:p.length=q.length)(tu:l4 u)(ul:u.length=p.length)(cu:l8 u p=l8 q u):(n6 p).Perm (n6 q):=by
 have per:∀i,i < p.length->A6 q (nx u (i:Int))=A6 p (i:Int):=fun i hi=>by
   have hx:Mth.In p (i:Int):=⟨by omega,by omega⟩;obtain ⟨r,hr,hm⟩:=cl6.mp ((L3 tp (A4 tp)).mem_iff.mpr (B5.mpr hx));obtain ⟨y,L,hy,pr,er,_⟩:=(A4 tp).ring r hr;rw[er] at hm;obtain ⟨j,jl,ej⟩:=t5.mp hm
   have px:G4 p (i:Int) L:=by rw[ej];exact pr.shift tp hy j
   rw[E5 px,E5 (aa3 tp tu ul cu hx px)]
 have cnt:∀L:Nat,1<=L->Q0 (j8 p p.length) L=Q0 (j8 q q.length) L:=fun L l1=>by
   have a:=V0 tp (A4 tp) L;have b:=V0 tq (A4 tq) L
   have c:((((cl8 q.length).map fun (i:Nat)=>(A6 q (i:Int):Int))).countP fun i=>decide (i=(L:Int)))=u.countP fun x=>decide ((A6 q x:Int)=(L:Int)):=by
     rw[(tu.perm).countP_eq,ul,hl];unfold L2.G9;rw[co7,co7]
     refine cp0 fun i _=> ?_
     simp only[Function.comp,Int.zero_add]
   have d:(u.countP fun x=>decide ((A6 q x:Int)=(L:Int)))=(((cl8 p.length).map fun (i:Nat)=>(A6 p (i:Int):Int))).countP fun i=>decide (i=(L:Int)):=by
     have eu:u=(cl8 p.length).map fun i:Nat=>nx u (i:Int):=by
       refine cm3 fun i=> ?_
       rw[cj2]
       by_cases h:i < p.length
       · rw[cp3 h];have:=O7 (p:=u) (x:=(i:Int)) ⟨by omega,by omega⟩;unfold A2 at this;rw[cm2] at this;exact this
       · rw[cj3 (by omega),cj3 (by rw[cm4];omega)];rfl
     conv=>lhs;rw[eu]
     rw[co7,co7]
     refine cp0 fun i hi=> ?_
     simp only[Function.comp];rw[per i (cn9.mp hi)]
   rw[c,d,a] at b;exact cx2 (by omega) b
 refine cw0.mpr fun x=> ?_
 unfold n6
 by_cases hx:∃L:Nat,1<=L/\x=(L:Int)
 · obtain ⟨L,l1,rfl⟩:=hx
   have e:∀l:List (List Int),cu5 ((L:Nat):Int) (l.map fun r=>(r.length:Int))=Q0 l L:=fun l=>by
     rw[cs9,co7];unfold Q0
     refine cp0 fun r _=> ?_
     simp only[Function.comp,beq_iff_eq,decide_eq_true_eq];omega
   rw[e,e,cnt L l1]
 · have z:∀{w:List Int} (_:l4 w),cu5 x ((j8 w w.length).map fun r=>(r.length:Int))=0:=fun {w} tw=>by
     refine cw5.mpr fun m=> ?_
     obtain ⟨r,hr,e⟩:=ck6.mp m;exact hx ⟨r.length,List.length_pos_iff.mpr (ah9 tw r hr),e.symm⟩
   rw[z tp,z tq]
end
end My
namespace My
open PySem L2 Mth
section
variable {P:Program} {w:World} {K:PySem.W.Frag} {mg:Str->Option Value} {base:Heap} {zy zzy zzz zvy zvx zt zuy ztz zty ztx zq:Addr}
def aw4 (q:Addr):Sp:=fun vs H _ E=>∃(a b:Addr) (xs ys:List V),vs=[.ref a,.ref b]/\H a=some (.lst xs)/\H b=some (.lst ys)/\xs.length≠ys.length/\E (.ref q) none H
theorem ay0:l7 ["p","q"] ["p","q"] (j5 M2):=br9
theorem aw5 {f:Addr}{fd:FuncData}(F:B0 K "must_fit" "must_fit" M2 f fd)(B:Bl mg)(zm:Err K mg "NoFit" zzz):j9 P w K mg base (T2 P w) 1 f fd ["p","q"] (aw4 zzz):=by
 refine F.okx ay0 (fun vs H Q E h=> ?_) (fun cdv A outer s H vs Q E hr h=> ?_)
 · obtain ⟨a,b,xs,ys,rfl,ha,hb,ne,q⟩:=h;rfl
 · obtain ⟨a,b,xs,ys,rfl,ha,hb,ne,q⟩:=h;refine ⟨_,@i6 _ _ _ (@C5 _ _ _ _ _ _ _ _ (@o4 _ _ _ _ _ _ _ _ Y1 (@o5 _ _ _ _ _ B.len (@c6 _ _ _ _ _ (pv 0) (@c7 _) (by rfl)) (by rfl) (by rfl)) (@o5 _ _ _ _ _ B.len (@c6 _ _ _ _ _ (pv 1) (@c7 _) (by rfl)) (by rfl) (by rfl)) (m8 _)) (@i6 _ _ _ (@au0 _ _ _ _ _ _ _ _ _ ap3 rfl zm (@be8 _ _ _ _) (by rfl) (by rfl) (by decide))) (@q9 _)),?_⟩;refine ⟨_,rfl,a,xs,rfl,.inl (i4.of ha),_,rfl,b,ys,rfl,.inl (i4.of hb),rfl,_,rfl,?_⟩;rw[decide_eq_false fun z=>ne (by have:=V.int.inj z;omega)];exact E6 q
def ai0 (qf:Addr):Sp:=fun vs H _ E=>∃(a b:Addr) (p q:List Int),vs=[.ref a,.ref b]/\o7 H a p/\o7 H b q/\p.length≠q.length/\∀H',e8 H H'->E (.ref qf) none H'
theorem an5 {f:Addr}{fd:FuncData}(F:B0 K "named_anew" "named_anew" M3 f fd)(zzx:Q1 P w K mg base "must_be_turn" 3 ["thing"] (fun vs H Q E=>U0 vs H Q E\/(R7 K zzy) vs H Q E))(zu:Q1 P w K mg base "must_fit" 1 ["p","q"] (fun vs H Q E=>(ak3 K) vs H Q E\/(aw4 zzz) vs H Q E)):j9 P w K mg base (T2 P w) 6 f fd ["p","q"] (ai0 zzz):=by
 refine F.okx B8 (fun vs H Q E h=> ?_) (fun cdv A outer s H vs Q E hr h=> ?_)
 · obtain ⟨a,b,p,q,rfl,⟨ha,tp,lp⟩,⟨hb,tq,lq⟩,ne,k⟩:=h;rfl
 · obtain ⟨a,b,p,q,rfl,⟨ha,tp,lp⟩,⟨hb,tq,lq⟩,ne,k⟩:=h;have zyy:m9 3 _:=hr.mono (by decide);have zqx:m9 1 _:=hr.mono (by decide);refine ⟨_,@g6 _ _ _ _ _ (@B6 _ _ _ _ (@ae3 _ _ _ _ _ _ _ _ _ _ _ zzx zyy (@V1 _ _ _ _ _ _ _ _ _ _ _ _ _ _ _ _ fun _ _ _ h=>h) (@c6 _ _ _ _ _ (pv 0) (@c7 _) (by rfl)) (by rfl) (by decide) (by rfl) (by rfl)) (by rfl)) (@g6 _ _ _ _ _ (@B6 _ _ _ _ (@ae3 _ _ _ _ _ _ _ _ _ _ _ zzx zyy (@V1 _ _ _ _ _ _ _ _ _ _ _ _ _ _ _ _ fun _ _ _ h=>h) (@c6 _ _ _ _ _ (pv 1) (@c7 _) (by rfl)) (by rfl) (by decide) (by rfl) (by rfl)) (by rfl)) (@g6 _ _ _ _ _ (@B6 _ _ _ _ (@ae3 _ _ _ _ _ _ _ _ _ _ _ zu zqx (@V1 _ _ _ _ _ _ _ _ _ _ _ _ _ _ _ _ fun _ _ _ h=>h) (@c6 _ _ _ _ _ (pv 0) (@c6 _ _ _ _ _ (pv 1) (@c7 _) (by rfl)) (by rfl)) (by rfl) (by decide) (by rfl) (by rfl)) (by rfl)) (@ao0 _ _))),?_⟩;refine ⟨_,rfl,.inl ⟨a,p,rfl,⟨ha,tp,lp⟩,fun H1 s1=> ?_⟩⟩;refine ⟨_,rfl,.inl ⟨b,q,rfl,⟨s1 _ _ hb,tq,lq⟩,fun H2 s2=> ?_⟩⟩;have s02:=s1.trans s2;exact ⟨_,rfl,_,rfl,.inr ⟨a,b,_,_,rfl,s02 _ _ ha,s02 _ _ hb,by simpa using ne,k H2 s02⟩⟩
def an6:Sp:=fun vs H Q _=>∃(a b:Addr) (p q:List Int),vs=[.ref a,.ref b]/\o7 H a p/\o7 H b q/\p.length≠q.length/\∀H',e8 H H'->Q (.bl true) H'
def an7:Sp:=fun vs H Q _=>∃(c a b:Addr) (s p q:List Int),vs=[.ref c,.ref a,.ref b]/\o7 H c s/\o7 H a p/\o7 H b q/\s.length=p.length/\q.length=p.length/\∀H',e8 H H'->Q (.bl (decide (l8 s p=l8 q s))) H'
theorem aw6:l7 ["s","p","q"] ["s","p","q"] (j5 W3):=by rfl'
theorem aw7 {f:Addr}{fd:FuncData}(F:B0 K "_law_makes" "_law_makes" W3 f fd)(zyz:p6 P w K mg base "_law_behind" 1 ["p","q"] Z8):j9 P w K mg base C8 2 f fd ["s","p","q"] an7:=by
 refine F.ok aw6 (fun vs H Q E h=> ?_) (fun cdv A outer s H vs Q E hr h=> ?_)
 · obtain ⟨c,a,b,s,p,q,rfl,⟨hc,ts,ls⟩,⟨ha,tp,lp⟩,⟨hb,tq,lq⟩,e1,e2,k⟩:=h;rfl
 · obtain ⟨c,a,b,s,p,q,rfl,⟨hc,ts,ls⟩,⟨ha,tp,lp⟩,⟨hb,tq,lq⟩,e1,e2,k⟩:=h;have zx:m9 1 _:=hr.mono (by decide);have hu:=U8 hr;refine ⟨_,@i6 _ _ _ (@m7 _ _ _ _ (@M9 _ _ _ _ _ _ _ _ (bg9 0 hu) (@i9 _ _ _ _ _ _ _ _ _ _ zyz zx (@c6 _ _ _ _ _ (pv 0) (@c6 _ _ _ _ _ (pv 1) (@c7 _) (by rfl)) (by rfl)) (by rfl) (by decide) (by rfl) (by rfl)) (@i9 _ _ _ _ _ _ _ _ _ _ zyz zx (@c6 _ _ _ _ _ (pv 2) (@c6 _ _ _ _ _ (pv 0) (@c7 _) (by rfl)) (by rfl)) (by rfl) (by decide) (by rfl) (by rfl)) (m8 _))),?_⟩;refine ⟨_,rfl,_,rfl,c,a,s,p,rfl,⟨hc,ts,ls⟩,⟨ha,tp,lp⟩,e1,fun l1 H1 hl1 s1 h1=> ?_⟩;refine ⟨_,rfl,_,rfl,b,c,q,s,rfl,⟨s1 _ _ hb,tq,lq⟩,⟨s1 _ _ hc,ts,ls⟩,by rw[e1,e2],fun l2 H2 hl2 s2 h2=> ?_⟩;exact ⟨l1,l2,_,_,_,rfl,rfl,i4.of (s2 _ _ h1),i4.of h2,N6 K H2 0 _ _,k H2 (s1.trans s2)⟩
end
end My
namespace My
open PySem L2 Mth
section
variable {P:Program} {w:World} {K:PySem.W.Frag} {mg:Str->Option Value} {base:Heap} {zy zzy zzz zvy zvx zt zuy ztz zty ztx zq:Addr}
theorem ch2 (xs:List V)(k:Nat)(h:k<=xs.length):S6 xs none (some (k:Int))=xs.take k:=by
 unfold S6;rw[HT.ch5,HT.cf9,cy0,Nat.sub_zero,ct6 h]
theorem ch3 (xs:List V)(k:Nat)(h:k<=xs.length):S6 xs (some (k:Int)) none=xs.drop k:=by
 unfold S6;rw[HT.ch5,HT.cf9,ct6 h,cq2 (by rw[cn4];omega)]
def M5 (n:Nat)(p:List Int)(k:Nat):List Int:=p.take k++[(n:Int)]++p.drop k
def ad1 (n:Nat)(p:List Int):List (List Int):=(cl8 (p.length+1)).map (M5 n p)
def U4:Nat->List (List Int)
 |0=>[[]]
 |n+1=>(U4 n).flatMap (ad1 n)
theorem ad2 (i:Nat):∀ps:List (List Int),(∀q∈ps,q.length=i)->(ps.flatMap (ad1 i)).length=ps.length*(i+1)
 |[],_=>by rw[List.length_nil,Nat.zero_mul];rfl
 |q::ps,h=>by
  rw[List.flatMap_cons,cj6,ad2 i ps fun q hq=>h q (cj8 _ hq),cl0];unfold ad1;rw[ci8,cm4,h q cj5,Nat.add_mul];omega
theorem P2 (n:Nat):L2.G9 0 (n+1)=L2.G9 0 n++[(n:Int)]:=by
 unfold L2.G9;rw[ct4,ck4];show _++[(0:Int)+(n:Int)]=_;rw[Int.zero_add]
theorem ak9 (n:Nat)(p:List Int)(k:Nat):(M5 n p k).Perm (p++[(n:Int)]):=by
 unfold M5
 have h1:(p.take k++[(n:Int)]++p.drop k).Perm (p.take k++p.drop k++[(n:Int)]):=by
   rw[cl1,cl1];exact List.Perm.append_left _ cp6
 rw[cp7] at h1;exact h1
theorem J3:∀(n:Nat) (r:List Int),r∈U4 n↔l4 r/\r.length=n
 |0,r=>by
  constructor
  · intro h
    have:r=[]:=by simpa [U4] using h
    subst this;exact ⟨⟨cq3,(fun x hx=>by cases hx),(fun x hx=>by cases hx)⟩,rfl⟩
  · rintro ⟨_,h⟩;rw[cr8 h];simp [U4]
 |n+1,r=>by
  constructor
  · intro h;obtain ⟨q,hq,hr⟩:=List.mem_flatMap.mp h;obtain ⟨tq,lq⟩:=(J3 n q).mp hq;obtain ⟨k,_,rfl⟩:=ck6.mp hr
    have pm:(M5 n q k).Perm (L2.G9 0 (n+1)):=by
      rw[P2];refine (ak9 n q k).trans (List.Perm.append_right _ ?_);rw[<-lq];exact tq.perm
    exact E4 pm
  · rintro ⟨tr,lr⟩;have pm:=tr.perm;rw[lr] at pm;have mn:(n:Int)∈r:=pm.mem_iff.mpr (by rw[P2];simp);obtain ⟨k,hk⟩:=cn6.mp mn;have kl:=(ci9.mp hk).1;have ek:r[k]=(n:Int):=(ci9.mp hk).2
    have er:r=r.take k++(n:Int)::r.drop (k+1):=by rw[<-ek,List.getElem_cons_drop,cp7]
    obtain ⟨q,eq⟩:∃q,q=r.take k++r.drop (k+1):=⟨_,rfl⟩
    have ltk:(r.take k).length=k:=by rw[cj9];omega
    have e1:q.take k=r.take k:=by rw[eq,List.take_append_of_le_length (by omega),cq2 (by omega)]
    have e2:q.drop k=r.drop (k+1):=by rw[eq,cv0 (by omega),cu4 (by omega),List.nil_append]
    have ep:M5 n q k=r:=by
      unfold M5;rw[e1,e2,cl1];exact er.symm
    have pq:(q++[(n:Int)]).Perm (L2.G9 0 n++[(n:Int)]):=by
      rw[<-P2];refine ((ak9 n q k).symm.trans ?_);rw[ep];exact pm
    obtain ⟨tq,lq⟩:=E4 ((List.perm_append_right_iff _).mp pq);refine List.mem_flatMap.mpr ⟨q,(J3 n q).mpr ⟨tq,lq⟩,ck6.mpr ⟨k,cn9.mpr (by omega),ep⟩⟩
theorem ai1:∀i,i<=5->(U4 i).length<=120:=by decide+kernel
theorem bk8 {n:Nat}(hn:n<=6):(U4 n).length<=720:=by
 by_cases z:n<=5
 · have:=ai1 n z;omega
 · have:n=5+1:=by omega
   rw[this];show ((U4 5).flatMap (ad1 5)).length<=720;rw[ad2 5 _ fun q hq=>((J3 5 q).mp hq).2];have:=ai1 5 (by decide);omega
def bd7:Sp:=fun vs H Q _=>∃(F:Addr) (i:Nat) (as:List Addr) (ps:List (List Int)),vs=[.ref F,.int (i:Int)]/\H F=some (.lst (as.map V.ref))/\x6 H as ps/\(∀q∈ps,q.length=i)/\i<=5/\ps.length<=120/\
 ∀(L:Addr) (bs:List Addr) (H':Hp),H L=none->e8 H H'->H' L=some (.lst (bs.map V.ref))->x6 H' bs (ps.flatMap (ad1 i))->Q (.ref L) H'
theorem R0:l7 ["rows","thing","found","row","at"] ["rows","thing"] (j5 ac7):=by rfl'
theorem bd8 {f:Addr}{fd:FuncData}(F:B0 K "_law_put" "_law_put" ac7 f fd)(B:Bl mg):j9 P w K mg base C8 1 f fd ["rows","thing"] bd7:=by
 refine F.ok R0 (fun vs H Q E h=> ?_) (fun cdv A outer s H vs Q E hr h=> ?_)
 · obtain ⟨F,i,as,ps,rfl,h3F,rows,hps,hi,lenA,q⟩:=h;rfl
 · obtain ⟨F,i,as,ps,rfl,h3F,rows,hps,hi,lenA,q⟩:=h;refine ⟨_,@g6 _ _ _ _ _ (@i8 _ _ (2) _ _ _ _ R0.nd rfl (Or.inl rfl) (@y8 _ _ _ _ (@c7 _)) (by rfl) (by trivial)) (@g6 _ _ _ _ _ (@C1 _ _ _ _ _ _ _ _ PassesOwn.never rfl (@K9 _ _ _ _ (pv 0)) (@n4 _ _ (3) _ R0.nd rfl (Or.inl rfl) (by trivial)) (@i6 _ _ _ (@C1 _ _ _ _ _ _ _ _ PassesOwn.never rfl (@E2 _ _ _ _ _ _ (by rfl) B.range (@c6 _ _ _ _ _ (@p9 _ _ _ _ _ _ _ _ G8 (@o5 _ _ _ _ _ B.len (@c6 _ _ _ _ _ (pv 3) (@c7 _) (by rfl)) (by rfl) (by rfl)) (@i7 _ _ _ _)) (@c7 _) (by rfl)) (by rfl)) (@n4 _ _ (4) _ R0.nd rfl (Or.inl rfl) (by trivial)) (@i6 _ _ _ (@B6 _ _ _ _ (@I0 _ _ _ _ _ _ _ (pv 2) (@c6 _ _ _ _ _ (@p9 _ _ _ _ _ _ _ _ as5 (@p9 _ _ _ _ _ _ _ _ as5 (@ag7 _ _ _ _ _ _ _ _ _ _ al6 (pv 3) (@az0 _) (@ad6 _ _ _ (pv 4))) (@y8 _ _ _ _ (@c6 _ _ _ _ _ (pv 1) (@c7 _) (by rfl)))) (@ag7 _ _ _ _ _ _ _ _ _ _ al6 (pv 3) (@ad6 _ _ _ (pv 4)) (@az0 _))) (@c7 _) (by rfl)) (by rfl) (by rfl) (by rfl) (by rfl) (by rfl)) (by rfl))) (by intro _;rfl))) (by intro _;rfl)) (@i6 _ _ _ (@m7 _ _ _ _ (pv 2)))),?_⟩;refine ⟨cl4 _,fun L hL=> ?_⟩;obtain ⟨H3,eH⟩:∃H3,H3=H:=⟨_,rfl⟩;rw[<-eH] at hL h3F rows q ⊢;have nFL:F≠L:=g7 h3F hL;have kb1:j7 L H3 (c9 H3 L (.lst [])):=j7.upd;have h4L:(c9 H3 L (.lst [])) L=some (.lst (([]:List Addr).map V.ref)):=c8;generalize (c9 H3 L (.lst []))=H4 at kb1 h4L ⊢;have h4F:=kb1 _ _ h3F nFL
   have nLas:L∉as:=fun z=>by
     obtain ⟨r,hr'⟩:=ah7 rows z;rw[hL] at hr';cases hr'
   refine ⟨_,rfl,F,rfl,⟨_,i4.of h4F⟩,S4 (K:=K) (a:=F) (xs:=as.map V.ref) (fun j σ H5=>∃(bs:List Addr) (v4 v5:Option V),σ=[some (.ref F),some (.int (i:Int)),some (.ref L),v4,v5]/\H5 L=some (.lst (bs.map V.ref))/\x6 H5 bs ((ps.take j).flatMap (ad1 i))/\j7 L H3 H5/\L∉bs)
     ⟨[],none,none,rfl,h4L,⟨rfl,fun j b r h=>by cases h⟩,kb1,fun z=>by cases z⟩ (fun j σ H5 _ zz=>by obtain ⟨_,_,_,_,_,_,k,_⟩:=zz;exact i4.of (k _ _ h3F nFL)) ?_ ?_⟩
   · rintro j x σ H5 hj ⟨bs,v4,v5,rfl,h5L,rowsB,kb5,nLb⟩
     obtain ⟨a,ha,rfl⟩:∃a,as[j]? =some a/\x=V.ref a:=by
       rw[cj2] at hj
       cases e:as[j]? with
       |none=>rw[e] at hj;cases hj
       |some a=>rw[e] at hj;exact ⟨a,rfl,(Option.some.inj hj).symm⟩
     have jl:j < ps.length:=by rw[<-rows.1];exact (ci9.mp ha).1
     obtain ⟨p,hp⟩:∃p,ps[j]? =some p:=⟨_,cj0 jl⟩;have lp:p.length=i:=hps p (ck5 hp);have h3a:=rows.2 j a p ha hp
     have naL:a≠L:=fun z=>nLas (z▸ck5 ha)
     have h5a:=kb5 _ _ h3a naL
     have etk:ps.take (j+1)=ps.take j++[p]:=by rw[List.take_succ,hp];rfl
     refine ⟨_,rfl,a,_,rfl,.inl (i4.of h5a),_,_,rfl,rfl,((p.map V.int).length:Int)+1,rfl,by rw[ci8];omega,by rw[ci8];omega,?_⟩;rw[ci8,show ((p.length:Int)+1).toNat=p.length+1 by omega]
     have cntj:((ps.take j).flatMap (ad1 i)).length=j*(i+1):=by
       rw[ad2 i _ fun q hq=>hps q (cp8 hq),cj9]
       congr 1
       omega
     refine G7 (lo:=0) (n:=p.length+1) (fun k σ H6=>∃(bs:List Addr) (v5:Option V),σ=[some (.ref F),some (.int (i:Int)),some (.ref L),some (.ref a),v5]/\H6 L=some (.lst (bs.map V.ref))/\x6 H6 bs ((ps.take j).flatMap (ad1 i)++(cl8 k).map (M5 i p))/\j7 L H3 H6/\L∉bs)
       ⟨bs,v5,rfl,h5L,by rw[List.range_zero,cv5,cm1];exact rowsB,kb5,nLb⟩ ?_ ?_
     · rintro k σ H6 hk ⟨bs,v5,rfl,h6L,rowsC,kb6,nLc⟩
       have e0:(0:Int)+(k:Int)=(k:Int):=by omega
       rw[e0];have h6a:=kb6 _ _ h3a naL
       have kl:k<=p.length:=by omega
       refine ⟨_,rfl,.inl ⟨rfl,_,i4.of h6L⟩,_,rfl,_,rfl,_,rfl,a,_,rfl,i4.of h6a,fun sl hsl=> ?_⟩;rw[ch2 (p.map V.int) k (by rw[ci8];exact kl),<-List.map_take];have s7:e8 H6 (c9 H6 sl (.lst ((p.take k).map V.int))):=e8.upd_new hsl;have h7s:(c9 H6 sl (.lst ((p.take k).map V.int))) sl=some (.lst ((p.take k).map V.int)):=c8;generalize (c9 H6 sl (.lst ((p.take k).map V.int)))=H7 at s7 h7s ⊢;refine ⟨_,rfl,(show 1<=sizeLine by decide),fun o ho=> ?_⟩;have s8:e8 H7 (c9 H7 o (.lst [V.int (i:Int)])):=e8.upd_new ho;have h8o:(c9 H7 o (.lst [V.int (i:Int)])) o=some (.lst [V.int (i:Int)]):=c8;generalize (c9 H7 o (.lst [V.int (i:Int)]))=H8 at s8 h8o ⊢;refine ⟨sl,o,_,_,rfl,rfl,s8 _ _ h7s,h8o,cm9 (l9 (by simp only[cj6,ci8,cj9,cq7];omega)),fun c hc=> ?_⟩
       have ec:(p.take k).map V.int++[V.int (i:Int)]=(p.take k++[(i:Int)]).map V.int:=by rw[ck4];rfl
       rw[ec];have s9:e8 H8 (c9 H8 c (.lst ((p.take k++[(i:Int)]).map V.int))):=e8.upd_new hc;have h9c:(c9 H8 c (.lst ((p.take k++[(i:Int)]).map V.int))) c=some (.lst ((p.take k++[(i:Int)]).map V.int)):=c8;generalize (c9 H8 c (.lst ((p.take k++[(i:Int)]).map V.int)))=H9 at s9 h9c ⊢;have s69:=(s7.trans s8).trans s9;refine ⟨_,rfl,_,rfl,_,rfl,a,_,rfl,i4.of (s69 _ _ h6a),fun d hd=> ?_⟩;rw[ch3 (p.map V.int) k (by rw[ci8];exact kl),<-List.map_drop];have s10:e8 H9 (c9 H9 d (.lst ((p.drop k).map V.int))):=e8.upd_new hd;have h10d:(c9 H9 d (.lst ((p.drop k).map V.int))) d=some (.lst ((p.drop k).map V.int)):=c8;generalize (c9 H9 d (.lst ((p.drop k).map V.int)))=H10 at s10 h10d ⊢;refine ⟨c,d,_,_,rfl,rfl,s10 _ _ h9c,h10d,cm9 (l9 (by simp only[cj6,ci8,cj9,cn4,cq7];omega)),fun e he=> ?_⟩;rw[<-ck4];have s610:=s69.trans s10;have nLe:L≠e:=g7 (s610 _ _ h6L) he
       have h11L:(c9 H10 e (.lst ((p.take k++[(i:Int)]++p.drop k).map V.int))) L=some (.lst (bs.map V.ref)):=by rw[g8 nLe];exact s610 _ _ h6L
       have h11e:(c9 H10 e (.lst ((p.take k++[(i:Int)]++p.drop k).map V.int))) e=some (.lst ((M5 i p k).map V.int)):=c8;have s11:e8 H6 (c9 H10 e (.lst ((p.take k++[(i:Int)]++p.drop k).map V.int))):=s610.trans (e8.upd_new he);generalize (c9 H10 e (.lst ((p.take k++[(i:Int)]++p.drop k).map V.int)))=H11 at s11 h11L h11e ⊢
       have lenC:bs.length<=720:=by
         have:=rowsC.1;rw[cj6,cntj,ci8,cm4] at this;have h1:j*(i+1)<=119*(i+1):=Nat.mul_le_mul_right _ (by omega);omega
       refine ⟨L,_,_,rfl,rfl,h11L,l9 (by rw[ci8];omega),?_⟩
       have es:bs.map V.ref++[V.ref e]=(bs++[e]).map V.ref:=by rw[ck4];rfl
       rw[es];refine ⟨bs++[e],_,rfl,c8,?_,(kb6.trans (s11.but L)).upd_a,?_⟩
       · rw[show (cl8 (k+1)).map (M5 i p)=(cl8 k).map (M5 i p)++[M5 i p k] by rw[ct4,ck4];rfl,<-cl1];refine P0 (J2 rowsC fun b hb o e=> ?_) (by rw[g8 nLe.symm];exact h11e);rw[g8 (show b≠L from fun z=>nLc (z▸hb))];exact s11 _ _ e
       · intro z
         rcases ck7.mp z with z|z
         · exact nLc z
         · exact nLe (cn2.mp z)
     · rintro σ H6 ⟨bs,v5,rfl,h6L,rowsC,kb6,nLc⟩;refine ⟨bs,_,_,rfl,h6L,?_,kb6,nLc⟩;rw[etk,List.flatMap_append,List.flatMap_cons,List.flatMap_nil,cm1];exact rowsC
   · rintro σ H5 ⟨bs,v4,v5,rfl,h5L,rowsB,kb5,nLb⟩;rw[ci8,rows.1,cn0] at rowsB;exact ⟨_,rfl,q L bs H5 hL ((e8.refl H3).kb kb5 hL) h5L rowsB⟩
def bd9:Sp:=fun vs H Q _=>∃n:Nat,vs=[.int (n:Int)]/\n<=6/\∀(l:Addr) (as:List Addr) (ts:List (List Int)) (H':Hp),H l=none->e8 H H'->H' l=some (.lst (as.map V.ref))->x6 H' as ts->ts.Perm (U4 n)->ts.Pairwise (fun r r'=>HT.ad5 r' r=false)->Q (.ref l) H'
theorem R3:l7 ["many","found","thing"] ["many"] (j5 ac6):=by rfl'
theorem be0 {f:Addr}{fd:FuncData}(F:B0 K "_law_all" "_law_all" ac6 f fd)(B:Bl mg)(zoy:p6 P w K mg base "_law_put" 1 ["rows","thing"] bd7):j9 P w K mg base C8 2 f fd ["many"] bd9:=by
 refine F.ok R3 (fun vs H Q E h=> ?_) (fun cdv A outer s H vs Q E hr h=> ?_)
 · obtain ⟨n,rfl,hn,q⟩:=h;rfl
 · obtain ⟨n,rfl,hn,q⟩:=h;have hr_law_put:m9 1 _:=hr.mono (by decide);have hu2:_+1+1 < cLine:=cq4 (cv8 (by decide:2<=64) _) hr.units;refine ⟨_,@g6 _ _ _ _ _ (@i8 _ _ (1) _ _ _ _ R3.nd rfl (Or.inl rfl) (@y8 _ _ _ _ (@c6 _ _ _ _ _ (@y8 _ _ _ _ (@c7 _)) (@c7 _) (by rfl))) (by rfl) (by trivial)) (@g6 _ _ _ _ _ (@C1 _ _ _ _ _ _ _ _ PassesOwn.never rfl (@E2 _ _ _ _ _ _ (by rfl) B.range (@c6 _ _ _ _ _ (pv 0) (@c7 _) (by rfl)) (by rfl)) (@n4 _ _ (2) _ R3.nd rfl (Or.inl rfl) (by trivial)) (@i6 _ _ _ (@i8 _ _ (1) _ _ _ _ R3.nd rfl (Or.inl rfl) (@i9 _ _ _ _ _ _ _ _ _ _ zoy hr_law_put (@c6 _ _ _ _ _ (pv 1) (@c6 _ _ _ _ _ (pv 2) (@c7 _) (by rfl)) (by rfl)) (by rfl) (by decide) (by rfl) (by rfl)) (by rfl) (by trivial))) (by intro _;rfl)) (@i6 _ _ _ (@m7 _ _ _ _ (ax8 hu2 B.sorted (@c6 _ _ _ _ _ (pv 1) (@c7 _) (by rfl)))))),?_⟩;refine ⟨cl4 _,fun e0 he0=> ?_⟩;have s1:e8 H (c9 H e0 (.lst [])):=e8.upd_new he0;have h1e:(c9 H e0 (.lst [])) e0=some (.lst (([]:List Int).map V.int)):=c8;generalize (c9 H e0 (.lst []))=H1 at s1 h1e ⊢;refine ⟨(show 1<=sizeLine by decide),fun F0 hF0=> ?_⟩;have s2:e8 H1 (c9 H1 F0 (.lst [V.ref e0])):=e8.upd_new hF0;have h2F:(c9 H1 F0 (.lst [V.ref e0])) F0=some (.lst (([e0]:List Addr).map V.ref)):=c8;generalize (c9 H1 F0 (.lst [V.ref e0]))=H2 at s2 h2F ⊢;have h2e:=s2 _ _ h1e;have s02:=s1.trans s2;refine ⟨_,rfl,(n:Int),rfl,by omega,by omega,?_⟩;rw[show ((n:Int)).toNat=n by omega]
   refine G7 (lo:=0) (n:=n) (fun i σ H3=>∃(F:Addr) (as:List Addr) (v2:Option V),σ=[some (.int (n:Int)),some (.ref F),v2]/\H3 F=some (.lst (as.map V.ref))/\x6 H3 as (U4 i)/\e8 H H3)
     ⟨F0,[e0],none,rfl,h2F,⟨rfl,fun j b r e1 e2=>by
       rcases j with _|j
       · cases e1;cases e2;exact h2e
       · cases e1⟩,s02⟩ ?_ ?_
   · rintro i σ H3 hi ⟨F,as,v2,rfl,h3F,rows,s3⟩
     have e0:(0:Int)+(i:Int)=(i:Int):=by omega
     rw[e0]
     have i5:i<=5:=by omega
     have lenA:=ai1 i i5;exact ⟨_,rfl,_,rfl,F,i,as,_,rfl,h3F,rows,fun q hq=>((J3 i q).mp hq).2,i5,lenA,fun L bs H4 nL s4 h4 rows4=>⟨L,bs,_,rfl,h4,rows4,s3.trans s4⟩⟩
   · rintro σ H3 ⟨F,as,v2,rfl,h3F,rows,s3⟩;refine ⟨_,rfl,F,as,_,rfl,i4.of h3F,rows,fun cs ts l pb pt rows' st hl=> ?_⟩;have s4:e8 H3 (c9 H3 l (.lst (cs.map V.ref))):=e8.upd_new hl;exact q l cs ts _ (s3.free hl) (s3.trans s4) c8 (J2 rows' fun b _ o e=>s4 b o e) pt st
end
end My
namespace My
open PySem L2 Mth
section
variable {P:Program} {w:World} {K:PySem.W.Frag} {mg:Str->Option Value} {base:Heap} {zy zzy zzz zvy zvx zt zuy ztz zty ztx zq:Addr}
theorem bk9 {p:List Int}(tp:l4 p){i:Nat}{rs:List (List Int)}(up:r6 p i rs){x:Int}(hx:Mth.In p x){L:Nat}(pr:G4 p x L)(no:x∉rs.flatten)(m:Nat):(i:Int)<=it p m x:=by
 refine Int.not_lt.mp fun lt=> ?_
 have h:=up.all _ (G2 tp hx m).1 lt;obtain ⟨r,hr,hm⟩:=cl6.mp h;obtain ⟨y,M,hy,py,rfl,_⟩:=up.ring r hr;have h2:it p m x∈l5 p x L:=af8 pr (t5.mpr ⟨0,pr.pos,rfl⟩) m;exact no (cl6.mpr ⟨_,hr,ap1 py pr hm h2⟩)
theorem B7.free {p q t:List Int}(tp:l4 p)(tq:l4 q)(k:(n6 p).Perm (n6 q))(n:B7 p q t){i i' L:Nat}(hi:i < p.length)(hi':i' < p.length)(pi:G4 p (i:Int) L)(px:G4 p (i':Int) L)(lo:∀m,(i:Int)<=it p m (i:Int))(lx:∀m,(i:Int)<=it p m (i':Int)):nx t (i:Int)<=nx t (i':Int):=by
 have upp:=A4 tp;have upq:=A4 tq;obtain ⟨r,s,j,k0,hr,hs,mr,ms,ls,jl,ei,at_⟩:=U3 tp k n hi;obtain ⟨r1,s1,j1,k1,hr1,hs1,mr1,ms1,ls1,jl1,ei1,at1⟩:=U3 tp k n hi';obtain ⟨y,M,hy,pr,er,ymin,_⟩:=upp.ring r mr;obtain ⟨y1,M1,hy1,pr1,er1,ymin1,_⟩:=upp.ring r1 mr1
 have rl:r.length=M:=by rw[er,o8]
 have rl1:r1.length=M1:=by rw[er1,o8]
 have ej:(i:Int)=it p j y:=by rw[<-ei,er,t7 (by omega)]
 have ej1:(i':Int)=it p j1 y1:=by rw[<-ei1,er1,t7 (by omega)]
 have eM:M=L:=by
   have:=pr.shift tp hy j;rw[<-ej] at this;exact this.uniq pi
 have eM1:M1=L:=by
   have:=pr1.shift tp hy1 j1;rw[<-ej1] at this;exact this.uniq px
 have yi:y<=(i:Int):=ymin _ (by rw[er];exact t5.mpr ⟨j,by omega,ej⟩)
 have iy:(i:Int)<=y:=by
   have:=lo (M - j);rw[ej,<-D5,show M - j+j=M by omega,pr.back] at this;rw[ej];exact this
 have iy1:(i:Int)<=y1:=by
   have:=lx (M1 - j1);rw[ej1,<-D5,show M1 - j1+j1=M1 by omega,pr1.back] at this;exact this
 have r0:r.getD 0 0=y:=by rw[er,t7 pr.pos];rfl
 have r10:r1.getD 0 0=y1:=by rw[er1,t7 pr1.pos];rfl
 have vt:∀{u:Nat} {v:Int},u < p.length->A2 t (u:Int)=some v->nx t (u:Int)=v:=fun {u v} hu e=>by
   rw[O7 (p:=t) (x:=(u:Int)) ⟨by omega,by rw[n.len];omega⟩] at e;exact Option.some.inj e
 have t0:nx t (i:Int)=s.getD 0 0:=vt hi (by
   have:=at_ 0 (by omega);rw[r0,show y=(i:Int) by omega] at this
   exact this)
 have t1:nx t (i':Int)=s1.getD j1 0:=vt hi' (by
   have:=at1 j1 jl1;rw[ei1] at this
   exact this)
 obtain ⟨z1,N1,hz1,pz1,es1,zmin1,_⟩:=upq.ring s1 ms1
 have s10:s1.getD 0 0=z1:=by rw[es1,t7 pz1.pos];rfl
 have zl:z1<=s1.getD j1 0:=zmin1 _ (by rw[p8 (by omega)];exact co3 _);rw[t0,t1]
 have e2:r1.length=r.length:=by omega
 rw[e2] at hr1 hs1
 have ordq:(x9 (j8 q q.length) r.length).Pairwise fun a b=>a.getD 0 0 < b.getD 0 0:=upq.ord.sublist co6
 have ordp:(x9 (j8 p p.length) r.length).Pairwise fun a b=>a.getD 0 0 < b.getD 0 0:=upp.ord.sublist co6
 obtain ⟨l0,e0⟩:=ci9.mp hs;obtain ⟨l1,e1⟩:=ci9.mp hs1;obtain ⟨l2,f0⟩:=ci9.mp hr;obtain ⟨l3,f1⟩:=ci9.mp hr1
 rcases cu1 k0 k1 with lt|eq|gt
 · have:=ck3.mp ordq k0 k1 l0 l1 lt;rw[e0,e1,s10] at this;omega
 · subst eq;rw[e0] at e1;rw[<-e1] at s10;omega
 · have:=ck3.mp ordp k1 k0 l3 l2 gt;rw[f0,f1,r0,r10] at this;omega
theorem bq1 {f:Int->Bool}{l:List Int}{x:Int}(up:l.Pairwise (· < ·))(hx:x∈l.filter f)(lo:∀y∈l.filter f,x<=y):(l.filter f)[0]? =some x:=by
 have p:=up.sublist (co6 (p:=f));generalize l.filter f=r at hx lo p
 cases r with
 |nil=>cases hx
 |cons y r=>
  have a:=lo y cj5
  rcases ck8.mp hx with e|h
  · rw[e];rfl
  · have:=(cr4.mp p).1 x h;omega
theorem bw1 (n:Nat):(L2.G9 0 n).Pairwise (· < ·):=by
 unfold L2.G9;rw[cp9];exact List.Pairwise.imp (fun h=>by omega) cu3
noncomputable def Q5 (p q t xs:List Int)(i:Nat):Int->Bool:=fun j=> !((xs.map (nx t)).any fun m=>m==j)&&decide ((A6 q j:Int)=(A6 p (i:Int):Int))
theorem B7.head {p q t:List Int}(tp:l4 p)(tq:l4 q)(hl:p.length=q.length)(k:(n6 p).Perm (n6 q))(n:B7 p q t){i:Nat}{rs:List (List Int)}(up:r6 p i rs)(hi:i < p.length)(hm:(i:Int)∉rs.flatten):((L2.G9 0 q.length).filter (Q5 p q t rs.flatten i))[0]? =some (nx t (i:Int)):=by
 have tt:=n.isT tp tq hl k;have ct:=n.conj tp tq k;have hx:Mth.In p (i:Int):=⟨by omega,by omega⟩
 have it_:∀{x:Int},Mth.In p x->Mth.In t x:=fun {x} h=>⟨h.1,by rw[n.len];exact h.2⟩
 obtain ⟨L,pr⟩:=aj5 tp hx;have prq:=aa3 tp tt n.len ct hx pr
 have inr:∀x∈rs.flatten,Mth.In p x:=fun x h=>by
   obtain ⟨r,hr,hxr⟩:=cl6.mp h;obtain ⟨y,L,a,b,rfl,_⟩:=up.ring r hr;exact N7 tp a x hxr
 refine bq1 (bw1 _) (co0.mpr ⟨B5.mpr ?_,?_⟩) fun y hy=> ?_
 · have:=Q9 tt (it_ hx);exact ⟨this.1,by rw[<-hl,<-n.len];exact this.2⟩
 · unfold Q5;rw[E5 pr,E5 prq,decide_eq_true rfl,Bool.and_true,Bool.not_eq_true',cw7];intro z hz e;obtain ⟨x,hx',rfl⟩:=ck6.mp hz;have:=X2 tt (it_ (inr x hx')) (it_ hx) (of_decide_eq_true e);exact hm (this▸hx')
 · obtain ⟨h1,h2⟩:=co0.mp hy;have yb:=B5.mp h1;have yt:y∈t:=(l4.perm tt).mem_iff.mpr (B5.mpr ⟨yb.1,by rw[n.len,hl];exact yb.2⟩);obtain ⟨i',hi'⟩:=co2 yt
   have il:i' < p.length:=by rw[<-n.len];exact (ci9.mp hi').1
   have ey:y=nx t (i':Int):=by
     unfold nx;rw[cm2,cj7,hi'];rfl
   have hx':Mth.In p (i':Int):=⟨by omega,by omega⟩;unfold Q5 at h2;rw[cn8,Bool.not_eq_true',cw7] at h2
   have no:(i':Int)∉rs.flatten:=fun z=>h2.1 y (ck6.mpr ⟨_,z,ey.symm⟩) (decide_eq_true rfl)
   obtain ⟨M,pm⟩:=aj5 tp hx';have pmq:=aa3 tp tt n.len ct hx' pm;have e:=of_decide_eq_true h2.2;rw[ey,E5 pmq,E5 pr] at e
   have e:M=L:=by omega
   subst e;rw[ey];exact n.free tp tq k hi il pr pm (bk9 tp up hx pr hm) (bk9 tp up hx' pm no)
def M7 (t xs:List Int):List (k6×V):=xs.map fun x=>((Sum.inl x:k6),V.int (nx t x))
theorem aw8 (t xs:List Int):KI (M7 t xs) xs:=by
 unfold KI M7;rw[co1];rfl
theorem bw2 {t xs:List Int}{x:Int}(h:x∉xs):K5 (M7 t xs) (Sum.inl x:k6) (.int (nx t x))=M7 t (xs++[x]):=by
 rw[ag9 _ (am1 (aw8 t xs) h)];unfold M7;rw[ck4];rfl
theorem al0 {t:List Int}:∀{xs:List Int} {x:Int},x∈xs->y9 (M7 t xs) (Sum.inl x:k6)=some (.int (nx t x))
 |a::r,x,h=>by
  show y9 (((Sum.inl a:k6),V.int (nx t a))::M7 t r) _=_
  by_cases e:a=x
  · rw[N4 (by rw[e]),e]
  · rw[K6 (fun z=>e (Sum.inl.inj z))];exact al0 ((ck8.mp h).resolve_left fun z=>e z.symm)
theorem bq2 (t xs:List Int):(M7 t xs).map (·.2)=(xs.map (nx t)).map V.int:=by
 unfold M7;rw[co1,co1];rfl
theorem bb2 {p:List Int}{i:Nat}(hi:i < p.length):atI ((C0 p).map V.int) (i:Int)=some (.int (A6 p (i:Int):Int)):=by
 have l:(C0 p).length=p.length:=by unfold C0;rw[ci8,cm4]
 rw[J5 (by omega) (by rw[l];omega)];rw[cm2,cj7];unfold C0;rw[cj2,cp3 hi];rfl
def ai2:Sp:=fun vs H Q _=>∃(a b:Addr) (p q t:List Int),vs=[.ref a,.ref b]/\o7 H a p/\o7 H b q/\p.length=q.length/\(n6 p).Perm (n6 q)/\B7 p q t/\∀(o:Addr) (H':Hp),H o=none->e8 H H'->H' o=some (.lst (t.map V.int))->Q (.ref o) H'
theorem A1:l7 ["p","q","lengths","found","i","free","here","there"] ["p","q"] (j5 T7):=by rfl'
theorem L7:(["j","i","found","lengths"]:List Str).Nodup:=by decide+kernel
theorem X8:(["i","found"]:List Str).Nodup:=by decide+kernel
theorem aq6 {f:Addr}{fd:FuncData}(F:B0 K "_law_greedy" "_law_greedy" T7 f fd)(B:Bl mg)(zyx:p6 P w K mg base "_law_lengths" 1 ["p"] ak6):j9 P w K mg base C8 2 f fd ["p","q"] ai2:=by
 refine F.ok A1 (fun vs H Q E h=> ?_) (fun cdv A outer s H vs Q E hr h=> ?_)
 · obtain ⟨a,b,p,q,t,rfl,⟨ha,tp,lp⟩,⟨hb,tq,lq⟩,hl,kpm,n,k⟩:=h;rfl
 · obtain ⟨a,b,p,q,t,rfl,⟨ha,tp,lp⟩,⟨hb,tq,lq⟩,hl,kpm,n,k⟩:=h;have zwz:m9 1 _:=hr.mono (by decide);have hu:=U8 hr;refine ⟨_,@g6 _ _ _ _ _ (@i8 _ _ (2) _ _ _ _ A1.nd rfl (Or.inr rfl) (@y8 _ _ _ _ (@c6 _ _ _ _ _ (@i9 _ _ _ _ _ _ _ _ _ _ zyx zwz (@c6 _ _ _ _ _ (pv 0) (@c7 _) (by rfl)) (by rfl) (by decide) (by rfl) (by rfl)) (@c6 _ _ _ _ _ (@i9 _ _ _ _ _ _ _ _ _ _ zyx zwz (@c6 _ _ _ _ _ (pv 1) (@c7 _) (by rfl)) (by rfl) (by decide) (by rfl) (by rfl)) (@c7 _) (by rfl)) (by rfl))) (by rfl) (by trivial)) (@g6 _ _ _ _ _ (@i8 _ _ (3) _ _ _ _ A1.nd rfl (Or.inr rfl) (@S7 _ _) (by rfl) (by trivial)) (@g6 _ _ _ _ _ (@C1 _ _ _ _ _ _ _ _ PassesOwn.never rfl (@E2 _ _ _ _ _ _ (by rfl) B.range (@c6 _ _ _ _ _ (@o5 _ _ _ _ _ B.len (@c6 _ _ _ _ _ (pv 0) (@c7 _) (by rfl)) (by rfl) (by rfl)) (@c7 _) (by rfl)) (by rfl)) (@n4 _ _ (4) _ A1.nd rfl (Or.inr rfl) (by trivial)) (@i6 _ _ _ (@C5 _ _ _ _ _ _ _ _ (@W5 _ _ _ _ _ _ (@ab3 _ _ _ _ _ hu (pv 4) (pv 3)) (by first|exact nobehind _ (by decide) (by decide)|rfl)) (@g6 _ _ _ _ _ (@az2 _ (5) _ _ _ _ _ _ _ _ _ _ _ _ _ (["j","i","found","lengths"]) (1) ([4,3,2]) A1.nd rfl (Or.inl rfl) rfl .of (@E2 _ _ _ _ _ _ (by rfl) B.range (@c6 _ _ _ _ _ (@o5 _ _ _ _ _ B.len (@c6 _ _ _ _ _ (pv 1) (@c7 _) (by rfl)) (by rfl) (by rfl)) (@c7 _) (by rfl)) (by rfl)) (fun _ _ _ _ _=>@n4 _ _ (0) _ L7 rfl (Or.inl rfl) (by trivial)) (fun _ _ _ _ _=>@as7 _ _ _ (@ar4 _ _ _ _ _ _ _ (@W5 _ _ _ _ _ _ (bd6 rfl (pv 0) (pv 2)) (by first|exact nobehind _ (by decide) (by decide)|rfl)) (@al2 _ _ _ _ (@o4 _ _ _ _ _ _ _ _ aq8 (@A5 _ _ _ _ _ _ (al5 K) p5 (@A5 _ _ _ _ _ _ (al5 K) p5 (pv 3) (@i7 _ _ _ _) (fun _ _=>rfl)) (pv 0) (fun _ _=>rfl)) (@A5 _ _ _ _ _ _ (al5 K) p5 (@A5 _ _ _ _ _ _ (al5 K) p5 (pv 3) (@i7 _ _ _ _) (fun _ _=>rfl)) (pv 1) (fun _ _=>rfl)) (m8 _)))).pt) (fun _ _ _ _ _=>(pv 0)) (by rfl) (by intro _;rfl) (by trivial)) (@g6 _ _ _ _ _ (@i8 _ _ (6) _ _ _ _ A1.nd rfl (Or.inl rfl) (pv 4) (by rfl) (by trivial)) (@g6 _ _ _ _ _ (@i8 _ _ (7) _ _ _ _ A1.nd rfl (Or.inl rfl) (@A5 _ _ _ _ _ _ _ p5 (pv 5) (@i7 _ _ _ _) (fun _ _=>rfl)) (by rfl) (by trivial)) (@i6 _ _ _ (@S2 _ _ _ _ _ _ PassesOwn.never (@W5 _ _ _ _ _ _ (@ab3 _ _ _ _ _ hu (pv 6) (pv 3)) (by first|exact nobehind _ (by decide) (by decide)|rfl)) (@g6 _ _ _ _ _ (@ae1 _ _ _ _ _ _ _ _ _ hu (pv 3) (pv 6) (pv 7) rfl) (@g6 _ _ _ _ _ (@i8 _ _ (6) _ _ _ _ A1.nd rfl (Or.inl rfl) (@A5 _ _ _ _ _ _ _ p5 (pv 0) (pv 6) (fun _ _=>rfl)) (by rfl) (by trivial)) (@i6 _ _ _ (@i8 _ _ (7) _ _ _ _ A1.nd rfl (Or.inl rfl) (@A5 _ _ _ _ _ _ _ p5 (pv 1) (pv 7) (fun _ _=>rfl)) (by rfl) (by trivial)))))))))) (@q9 _))) (by intro _;rfl)) (@i6 _ _ _ (@m7 _ _ _ _ (@al8 _ _ _ _ _ _ _ _ _ _ _ (["i","found"]) (1) ([3]) rfl .of (@E2 _ _ _ _ _ _ (by rfl) B.range (@c6 _ _ _ _ _ (@o5 _ _ _ _ _ B.len (@c6 _ _ _ _ _ (pv 0) (@c7 _) (by rfl)) (by rfl) (by rfl)) (@c7 _) (by rfl)) (by rfl)) (fun _ _ _ _ _=>@n4 _ _ (0) _ X8 rfl (Or.inl rfl) (by trivial)) (fun _ _ _ _ _=>(@ah0 _)) (fun _ _ _ _ _=>(@al7 _ _ _ _ _ _ hu (pv 1) (pv 0) (fun _ _=>rfl))) (by intro _;rfl)))))),?_⟩
   have tt:=n.isT tp tq hl kpm;have ct:=n.conj tp tq kpm;refine ⟨_,rfl,a,p,rfl,⟨ha,tp,lp⟩,fun l1 H1 hl1 s1 h1=> ?_⟩;refine ⟨_,rfl,b,q,rfl,⟨s1 _ _ hb,tq,lq⟩,fun l2 H2 hl2 s2 h2=> ?_⟩;refine ⟨(show 2<=sizeLine by decide),fun ll hll=> ?_⟩;have s3:e8 H2 (c9 H2 ll (.lst [V.ref l1,V.ref l2])):=e8.upd_new hll;have h3:(c9 H2 ll (.lst [V.ref l1,V.ref l2])) ll=some (.lst [V.ref l1,V.ref l2]):=c8;generalize (c9 H2 ll (.lst [V.ref l1,V.ref l2]))=H3 at s3 h3 ⊢
   refine fun d hd=> ?_
   have s4:e8 H3 (c9 H3 d (.dK [])):=e8.upd_new hd;have h4:(c9 H3 d (.dK [])) d=some (.dK (M7 t [])):=c8;generalize (c9 H3 d (.dK []))=H4 at s4 h4 ⊢;have s04:=s1.trans (s2.trans (s3.trans s4));have hd0:H d=none:=(s1.trans (s2.trans s3)).free hd;have h3a:H3 a=some (.lst (p.map V.int)):=s3 _ _ (s2 _ _ (s1 _ _ ha));have h3b:H3 b=some (.lst (q.map V.int)):=s3 _ _ (s2 _ _ (s1 _ _ hb));have h31:H3 l1=some (.lst ((C0 p).map V.int)):=s3 _ _ (s2 _ _ h1);have h32:H3 l2=some (.lst ((C0 q).map V.int)):=s3 _ _ h2;have nad:a≠d:=g7 h3a hd;have nbd:b≠d:=g7 h3b hd;have n1d:l1≠d:=g7 h31 hd;have n2d:l2≠d:=g7 h32 hd;have nld:ll≠d:=g7 h3 hd;refine ⟨_,rfl,a,_,rfl,.inl (i4.of (s4 _ _ h3a)),(p.length:Int),by rw[ci8],by omega,by omega,?_⟩;rw[show ((p.length:Int)).toNat=p.length by omega]
   refine G7 (lo:=0) (n:=p.length) (fun i σ H5=>∃(rs:List (List Int)) (v4 v5 v6 v7:Option V),σ=[some (.ref a),some (.ref b),some (.ref ll),some (.ref d),v4,v5,v6,v7]/\H5 d=some (.dK (M7 t rs.flatten))/\r6 p i rs/\j7 d H4 H5)
     ⟨[],none,none,none,none,rfl,h4,Y8 p,j7.refl _ _⟩ ?_ ?_
   · rintro i σ H5 hi ⟨rs,v4,v5,v6,v7,rfl,h5,up,kb⟩;have hx:Mth.In p (i:Int):=⟨by omega,by omega⟩
     have e0:(0:Int)+(i:Int)=(i:Int):=by omega
     rw[e0];refine ⟨_,rfl,_,rfl,d,_,rfl,J8.k (k:=Sum.inl (i:Int)) h5,_,rfl,?_⟩
     by_cases hm:(i:Int)∈rs.flatten
     · rw[al0 hm];exact A7 ⟨rs,_,_,_,_,rfl,h5,Y9 up hm,kb⟩
     rw[am1 (aw8 t _) hm];refine E6 ?_;have hd1:=n.head tp tq hl kpm up hi hm;obtain ⟨L,pr⟩:=aj5 tp hx;have fr:=V8 up pr hm;have fl:=ac9 tp up
     have lL:=G3 tp hx (m:=L) fun j j0 j1=>pr.least j j0 j1
     have h5b:H5 b=some (.lst (q.map V.int)):=kb _ _ (s4 _ _ h3b) nbd;have h5l:H5 ll=some (.lst [V.ref l1,V.ref l2]):=kb _ _ (s4 _ _ h3) nld;have h51:H5 l1=some (.lst ((C0 p).map V.int)):=kb _ _ (s4 _ _ h31) n1d;have h52:H5 l2=some (.lst ((C0 q).map V.int)):=kb _ _ (s4 _ _ h32) n2d;refine ⟨_,rfl,b,_,rfl,.inl (i4.of h5b),(q.length:Int),by rw[ci8],by omega,by omega,?_⟩;rw[show ((q.length:Int)).toNat=q.length by omega];refine ai9 (lo:=0) (n:=q.length) (fun j ys σ H6=>∃v:Option V,σ=[v,some (.int (i:Int)),some (.ref d),some (.ref ll)]/\ys=((L2.G9 0 j).filter (Q5 p q t rs.flatten i)).map V.int/\H6=H5) ⟨none,rfl,rfl,rfl⟩ ?_ ?_
     · rintro j ys σ H6 hj ⟨v,rfl,rfl,rfl⟩
       have e1:(0:Int)+(j:Int)=(j:Int):=by omega
       rw[e1]
       have ly:(((L2.G9 0 j).filter (Q5 p q t rs.flatten i)).map V.int).length<=40:=by
         rw[ci8];have:=List.length_filter_le (Q5 p q t rs.flatten i) (L2.G9 0 j);rw[A0] at this;omega
       have no:Q5 p q t rs.flatten i (j:Int)=false->((L2.G9 0 j).filter (Q5 p q t rs.flatten i)).map V.int=((L2.G9 0 (j+1)).filter (Q5 p q t rs.flatten i)).map V.int:=fun e=>by
         rw[P2,cq5,ct9 (by rw[e];decide),cs0,cm1]
       have yes:Q5 p q t rs.flatten i (j:Int)=true->((L2.G9 0 j).filter (Q5 p q t rs.flatten i)).map V.int++[.int (j:Int)]=((L2.G9 0 (j+1)).filter (Q5 p q t rs.flatten i)).map V.int:=fun e=>by
         rw[P2,cq5,ct8 e,cs0,ck4];rfl
       refine ⟨_,rfl,_,rfl,d,_,_,_,rfl,rfl,h5,bq2 t _,_,rfl,?_⟩
       refine K7 (fun c1=> ?_) fun c1=> ?_
       · have aj:atI ((C0 q).map V.int) (j:Int)=some (.int (A6 q (j:Int):Int)):=bb2 hj;have ai:atI ((C0 p).map V.int) (i:Int)=some (.int (A6 p (i:Int):Int)):=bb2 hi;refine ⟨_,rfl,ll,_,_,_,rfl,rfl,i4.of h5l,rfl,_,rfl,l2,_,_,_,rfl,rfl,i4.of h52,aj,_,rfl,ll,_,_,_,rfl,rfl,i4.of h5l,rfl,_,rfl,l1,_,_,_,rfl,rfl,i4.of h51,ai,rfl,_,rfl,?_⟩
         refine K7 (fun c2=> ?_) fun c2=> ?_
         · refine ⟨_,rfl,l9 (by omega),_,rfl,yes ?_,rfl⟩;unfold Q5;rw[c1,Bool.true_and];exact decide_eq_true (V.int.inj (of_decide_eq_true c2))
         · refine ⟨_,rfl,no ?_,rfl⟩;unfold Q5;rw[c1,Bool.true_and]
           exact decide_eq_false fun z=>c2 (decide_eq_true (congrArg V.int z))
       · refine ⟨_,rfl,no ?_,rfl⟩;unfold Q5;rw[Bool.eq_false_iff.mpr c1,Bool.false_and]
     · rintro ys σ H6 ⟨v,rfl,rfl,rfl⟩ D hD;generalize ((L2.G9 0 q.length).filter (Q5 p q t rs.flatten i))=fs at hd1 ⊢;have s6:e8 H6 (c9 H6 D (.lst (fs.map V.int))):=e8.upd_new hD;have h6:(c9 H6 D (.lst (fs.map V.int))) D=some (.lst (fs.map V.int)):=c8;generalize (c9 H6 D (.lst (fs.map V.int)))=H7 at s6 h6 ⊢;have ndD:d≠D:=g7 h5 hD;refine ⟨_,rfl,_,rfl,D,_,0,.int (nx t (i:Int)),rfl,rfl,i4.of h6,?_,?_⟩
       · exact L2.D4 (show (fs.map V.int)[0]? =some (.int (nx t (i:Int))) by rw[cj2,hd1];rfl)
       refine ⟨fun mm σ H8=>∃j:Nat,j<=L/\σ=[some (.ref a),some (.ref b),some (.ref ll),some (.ref d),some (.int (i:Int)),some (.ref D),some (.int (it p j i)),some (.int (nx t (it p j i)))]/\H8 d=some (.dK (M7 t (rs.flatten++l5 p i j)))/\j7 d H7 H8/\mm=L - j,⟨_,0,cl4 _,rfl,?_,j7.refl _ _,rfl⟩,?_⟩
       · rw[show l5 p (i:Int) 0=[] from rfl,cm1];exact s6 _ _ h5
       rintro mm σ H8 ⟨j,jL,rfl,h8,kb8,rfl⟩;refine ⟨_,rfl,_,rfl,d,_,rfl,J8.k (k:=Sum.inl (it p j i)) h8,_,rfl,?_⟩
       by_cases hj:j=L
       · subst hj;rw[al0 (show it p j i∈rs.flatten++l5 p i j by rw[pr.back];exact ck0 _ (t5.mpr ⟨0,pr.pos,rfl⟩))];refine A7 ⟨rs++[l5 p i j],_,_,_,_,rfl,?_,Z0 tp up hx pr hm,?_⟩
         · rw[h8,ct0,cr9]
         · exact (kb.trans (s6.but d)).trans kb8
       have hjL:j < L:=by omega
       have nm:it p j i∉rs.flatten++l5 p i j:=fun g=>by
         rcases ck7.mp g with g|g
         · exact fr _ (t5.mpr ⟨j,hjL,rfl⟩) g
         · obtain ⟨b,hb,e1⟩:=t5.mp g
           have e2:j=(j - b)+b:=by omega
           rw[e2,D5] at e1;have:=aj3 tp (G2 tp hx (j - b)) hx b (by rw[<-D5,cs3,D5];exact e1);exact pr.least (j - b) (by omega) (by omega) this
       rw[am1 (aw8 t _) nm];refine E6 ?_;refine ⟨fun σ' H'=>∃m',m' < L - j/\_,fun _ _ h=>h,?_⟩;have h8a:H8 a=some (.lst (p.map V.int)):=kb8 _ _ (s6 _ _ (kb _ _ (s4 _ _ h3a) nad)) nad;have h8b:H8 b=some (.lst (q.map V.int)):=kb8 _ _ (s6 _ _ h5b) nbd;refine ⟨_,rfl,_,rfl,_,rfl,d,_,rfl,ab2.k (k:=Sum.inl (it p j i)) h8 (l9 (by unfold M7;rw[ci8,cj6,o8];omega)),?_⟩;rw[bw2 nm];have kb9:j7 d H8 (c9 H8 d (.dK (M7 t (rs.flatten++l5 p i j++[it p j i])))):=j7.upd
       have h9:(c9 H8 d (.dK (M7 t (rs.flatten++l5 p i j++[it p j i])))) d=some (.dK (M7 t (rs.flatten++l5 p i (j+1)))):=by rw[c8,aj4,cl1]
       generalize (c9 H8 d (.dK (M7 t (rs.flatten++l5 p i j++[it p j i]))))=H9 at kb9 h9 ⊢;have hin:=G2 tp hx j;have hint:Mth.In t (it p j i):=⟨hin.1,by rw[n.len];exact hin.2⟩;have hinq:=Q9 tt hint;have hinq:Mth.In q (nx t (it p j i)):=⟨hinq.1,by rw[<-hl,<-n.len];exact hinq.2⟩;refine ⟨_,rfl,_,rfl,a,_,_,_,rfl,rfl,i4.of (kb9 _ _ h8a nad),J5 hin.1 hin.2,?_⟩;refine ⟨_,rfl,_,rfl,b,_,_,_,rfl,rfl,i4.of (kb9 _ _ h8b nbd),J5 hinq.1 hinq.2,?_⟩;refine ⟨L - (j+1),by omega,j+1,by omega,?_,h9,kb8.trans kb9,rfl⟩;rw[show it p (j+1) (i:Int)=nx p (it p j i) from rfl,bb1 n.len ct hin];rfl
   · rintro σ H5 ⟨rs,v4,v5,v6,v7,rfl,h5,up,kb⟩;have h5a:H5 a=some (.lst (p.map V.int)):=kb _ _ (s4 _ _ h3a) nad;refine ⟨_,rfl,a,_,rfl,.inl (i4.of h5a),(p.length:Int),by rw[ci8],by omega,by omega,?_⟩;rw[show ((p.length:Int)).toNat=p.length by omega];refine ai9 (lo:=0) (n:=p.length) (fun j ys σ H6=>∃v:Option V,σ=[v,some (.ref d)]/\ys=(t.take j).map V.int/\H6=H5) ⟨none,rfl,by rw[cu0];rfl,rfl⟩ ?_ ?_
     · rintro j ys σ H6 hj ⟨v,rfl,rfl,rfl⟩
       have e1:(0:Int)+(j:Int)=(j:Int):=by omega
       rw[e1];have jm:(j:Int)∈rs.flatten:=up.all _ (by omega) (by omega);refine ⟨_,rfl,_,rfl,d,.int (nx t (j:Int)),rfl,.inl ⟨M7 t rs.flatten,Sum.inl (j:Int),.inl h5,rfl,(al0 jm).symm⟩,l9 (by rw[ci8,cj9];have:=n.len;omega),_,rfl,?_,rfl⟩
       have tj:t[j]? =some (nx t (j:Int)):=by
         have:=O7 (p:=t) (x:=(j:Int)) ⟨by omega,by rw[n.len];omega⟩;unfold A2 at this;rw[cm2] at this;exact this
       rw[o9 tj,ck4];rfl
     · rintro ys σ H6 ⟨v,rfl,rfl,rfl⟩ D hD;have s6:e8 H6 (c9 H6 D (.lst ((t.take p.length).map V.int))):=e8.upd_new hD
       have h6:(c9 H6 D (.lst ((t.take p.length).map V.int))) D=some (.lst (t.map V.int)):=by rw[c8,<-n.len,cn0]
       generalize (c9 H6 D (.lst ((t.take p.length).map V.int)))=H7 at s6 h6 ⊢
       have s05:e8 H H6:=fun c o hc=>kb _ _ (s04 _ _ hc) (g7 hc hd0)
       exact k D H7 (s05.free hD) (s05.trans s6) h6
theorem K4:l7 ["p","q","caught","e"] ["p","q"] (j5 T8):=by rfl'
theorem aq7 {f:Addr}{fd:FuncData}(F:B0 K "_law_no_fit" "_law_no_fit" T8 f fd)(zxx:Q1 P w K mg base "named_anew" 6 ["p","q"] (fun vs H Q E=>X7 vs H Q E\/(ai0 zzz) vs H Q E))(ER:au1 K mg zy [("NoTurn",zzy),("NoFit",zzz)]):j9 P w K mg base C8 7 f fd ["p","q"] an6:=by
 refine F.ok K4 (fun vs H Q E h=> ?_) (fun cdv A outer s H vs Q E hr h=> ?_)
 · obtain ⟨a,b,p,q,rfl,ta,tb,ne,k⟩:=h;rfl
 · obtain ⟨a,b,p,q,rfl,ta,tb,ne,k⟩:=h;have zvz:m9 6 _:=hr.mono (by decide);refine ⟨_,@g6 _ _ _ _ _ (@i8 _ _ (2) _ _ _ _ K4.nd rfl (Or.inl rfl) (@S0 _ _ _) (by rfl) (by trivial)) (@g6 _ _ _ _ _ (@bz1 _ _ _ _ _ (3) _ _ _ _ _ _ _ (@bu1 _ _ _ _ _ _ _ _ _ _ _ zxx zvz (@c6 _ _ _ _ _ (pv 0) (@c6 _ _ _ _ _ (pv 1) (@c7 _) (by rfl)) (by rfl)) (by rfl) (by decide) (by rfl) (by rfl) (by rfl)) (ER.err ("NoFit",zzz) (by simp)).mg K4.nd rfl rfl (fun _=>(@i6 _ _ _ (@i8 _ _ (2) _ _ _ _ K4.nd rfl (Or.inl rfl) (pv 3) (by rfl) (by trivial)))) (by rfl) (by rfl) (by rfl) (by rfl) (by decide) (by trivial)) (@i6 _ _ _ (@m7 _ _ _ _ (@M9 _ _ _ _ _ _ _ _ ad4 (pv 2) (@S0 _ _ _) (m8 _))))),?_⟩;refine ⟨_,rfl,_,rfl,.inr ⟨a,b,p,q,rfl,ta,tb,ne,fun H1 s1=>⟨zzz,rfl,ER.exq ("NoFit",zzz) (by simp) ("NoFit",zzz) (by simp),fun e he=>⟨_,rfl,_,rfl,rfl,?_⟩⟩⟩⟩;exact k _ (s1.trans (e8.upd_new he))
end
end My
namespace My
open PySem L2 Mth
section
variable {P:Program} {w:World} {K:PySem.W.Frag} {mg:Str->Option Value} {base:Heap} {zy zzy zzz zvy zvx zt zuy ztz zty ztx zq:Addr}
def an8:Sp:=fun vs H Q _=>∃(a:Addr) (p:List Int),vs=[.ref a]/\o7 H a p/\∀(l:Addr) (t:List Int) (H':Hp),H l=none->e8 H H'->l4 t->t.length=p.length->(∀u:Nat,u < p.length->A2 t (p.getD u 0)=some (u:Int))->H' l=some (.lst (t.map V.int))->Q (.ref l) H'
theorem O5:l7 ["p","found","i","place"] ["p"] (j5 M4):=by rfl'
theorem ay1 {f:Addr}{fd:FuncData}(F:B0 K "_law_back" "_law_back" M4 f fd)(B:Bl mg):j9 P w K mg base C8 1 f fd ["p"] an8:=by
 refine F.ok O5 (fun vs H Q E h=> ?_) (fun cdv A outer s H vs Q E hr h=> ?_)
 · obtain ⟨a,p,rfl,⟨ha,tp,lp⟩,q⟩:=h;rfl
 · obtain ⟨a,p,rfl,⟨ha,tp,lp⟩,q⟩:=h;refine ⟨_,@g6 _ _ _ _ _ (@i8 _ _ (1) _ _ _ _ O5.nd rfl (Or.inl rfl) (@p9 _ _ _ _ _ _ _ _ bg1 (@y8 _ _ _ _ (@c6 _ _ _ _ _ (@i7 _ _ _ _) (@c7 _) (by rfl))) (@o5 _ _ _ _ _ B.len (@c6 _ _ _ _ _ (pv 0) (@c7 _) (by rfl)) (by rfl) (by rfl))) (by rfl) (by trivial)) (@g6 _ _ _ _ _ (@C1 _ _ _ _ _ _ _ _ PassesOwn.never rfl (@am0 _ _ _ _ _ _ _ _ B.enum (@c6 _ _ _ _ _ (pv 0) (@c7 _) (by rfl)) (by rfl) (by rfl)) (@aa8 _ _ _ _ _ _ rfl (@E3 _ _ _ _ _ (@n4 _ _ (2) _ O5.nd rfl (Or.inl rfl) (by trivial)) (@E3 _ _ _ _ _ (@n4 _ _ (3) _ O5.nd rfl (Or.inl rfl) (by trivial)) (@W7 _) (by rfl)) (by rfl)) (by rfl) (by rfl)) (@i6 _ _ _ (@W9 _ _ _ _ _ _ (pv 2) (@W8 _ _ _ _ _ _ _ (pv 1) (pv 3) N3 (by intro _;rfl)) (by rfl) (by rfl) (by rfl))) (by intro _;rfl)) (@i6 _ _ _ (@m7 _ _ _ _ (pv 1)))),?_⟩;refine ⟨(by show 1<=sizeLine;decide),fun e he=> ?_⟩;have nae:a≠e:=g7 ha he;refine ⟨_,rfl,a,_,rfl,.inl (i4.of (by rw[g8 nae];exact ha)),?_⟩;rw[ci8];refine ⟨e,_,_,rfl,rfl,c8,by omega,by omega,by show 1*_<=sizeLine;rw[sizeLine_eq];omega,fun n hn=> ?_⟩;rw[show ((p.length:Nat):Int).toNat=p.length by omega,at3]
   have hne:n≠e:=fun z=>by rw[z,c8] at hn;cases hn
   have hn0:H n=none:=by rw[g8 hne] at hn;exact hn
   have s1:e8 H (c9 (c9 H e (.lst [.int 0])) n (.lst ((cl3 p.length (0:Int)).map V.int))):=(e8.upd_new he).upd_r hn0;have h1n:(c9 (c9 H e (.lst [.int 0])) n (.lst ((cl3 p.length (0:Int)).map V.int))) n=some (.lst ((cl3 p.length (0:Int)).map V.int)):=c8;generalize (c9 (c9 H e (.lst [.int 0])) n (.lst ((cl3 p.length (0:Int)).map V.int)))=H1 at s1 h1n ⊢;have h1a:=s1 a _ ha;have nan:a≠n:=g7 ha hn0
   refine ⟨_,rfl,a,rfl,⟨_,i4.of h1a⟩,ah2 (K:=K) (a:=a) (xs:=p.map V.int) (fun j σ H2=>∃(fs:List Int) (v2 v3:Option V),σ=[some (.ref a),some (.ref n),v2,v3]/\H2 n=some (.lst (fs.map V.int))/\fs.length=p.length/\(∀u,u < j->A2 fs (p.getD u 0)=some (u:Int))/\e8 H H2)
     ⟨_,none,none,rfl,h1n,by rw[cq6],fun u hu=>by omega,s1⟩ (fun j σ H2 _ zz=>by obtain ⟨_,_,_,_,_,_,_,s⟩:=zz;exact i4.of (s a _ ha)) ?_ ?_⟩
   · rintro j y σ H2 t hj ⟨fs,v2,v3,rfl,h2n,hfl,hu,s2⟩ ht;obtain ⟨z,hz,rfl⟩:=D3 hj;have hjl:j < p.length:=(ci9.mp hz).1
     have ez:z=p.getD j 0:=by rw[p8 hjl];exact (ci9.mp hz).2.symm
     subst ez;have s23:e8 H2 (c9 H2 t (.tup [.int (j:Int),.int (p.getD j 0)])):=e8.upd_new ht;refine ⟨t,_,rfl,U5.of c8,rfl,_,_,rfl,_,_,rfl,rfl,?_⟩;generalize (c9 H2 t (.tup [.int (j:Int),.int (p.getD j 0)]))=H3 at s23 ⊢;have h3n:=s23 n _ h2n;obtain ⟨t0,t1⟩:=S9 tp hjl;refine ⟨_,rfl,_,rfl,_,rfl,n,_,_,(p.getD j 0).toNat,rfl,rfl,h3n,?_,?_⟩
     · unfold X0;rw[ci8,if_pos t0,if_pos (by omega)]
     have es:(fs.map V.int).set (p.getD j 0).toNat (.int (j:Int))=(fs.set (p.getD j 0).toNat (j:Int)).map V.int:=by rw[cx7]
     rw[es];refine ⟨_,_,_,rfl,c8,by rw[ct2];exact hfl,?_,fun b o hb=>by rw[g8 (g7 hb hn0)];exact s23 b o (s2 b o hb)⟩;intro u hu2
     by_cases huj:u=j
     · subst huj;exact Y7 (by omega)
     · rw[X1 (S9 tp (show u < p.length by omega)).1 t0 (J6 tp.nd (by omega) hjl huj)];exact hu u (by omega)
   · rintro σ H2 ⟨fs,v2,v3,rfl,h2n,hfl,hu,s2⟩;rw[ci8] at hu;obtain ⟨tf,lf⟩:=E4 (ap0 tp hfl hu);exact ⟨_,rfl,q n fs H2 hn0 s2 tf hfl hu h2n⟩
theorem bl0 (p:List Int):l8 p (L2.G9 0 p.length)=p:=by
 refine cm3 fun i=> ?_
 unfold Mth.l8 L2.G9;rw[cj2,cj2]
 by_cases h:i < p.length
 · rw[cp3 h];show some (p.getD (0+(i:Int)).toNat 0)=_;rw[show (0+(i:Int)).toNat=i by omega,p8 h,cj0 h]
 · rw[cj3 (by rw[cm4];omega),cj3 (by omega)];rfl
theorem bw3 {s b:List Int}(h:∀u:Nat,u < s.length->A2 b (s.getD u 0)=some (u:Int)):l8 b s=L2.G9 0 s.length:=by
 refine cm3 fun i=> ?_
 unfold Mth.l8 L2.G9;rw[cj2,cj2]
 by_cases hi:i < s.length
 · rw[cp3 hi,cj0 hi];have:=h i hi;unfold A2 at this;rw[p8 hi] at this;show some (b.getD (s[i]).toNat 0)=some (0+(i:Int));rw[cj7,this];simp
 · rw[cj3 (by omega),cj3 (by rw[cm4];omega)];rfl
theorem bq3 {s b p:List Int}(ts:l4 s)(tb:l4 b)(tp:l4 p)(lb:b.length=s.length)(lp:p.length=s.length)(h:∀u:Nat,u < s.length->A2 b (s.getD u 0)=some (u:Int)):l8 s p=l8 (l8 s (l8 p b)) s:=by
 have tpb:l4 (l8 p b):=T0 tp tb (by omega);rw[aj6 tpb ts (by rw[A8];exact lb),aj6 tb ts lb,bw3 h,<-lp,bl0]
theorem bl3 {p q:List Int}(tp:l4 p)(tq:l4 q):(n6 p).Perm (n6 q)↔(C0 p).Perm (C0 q):=by
 have cp:∀L:Nat,cu5 ((L:Nat):Int) (C0 p)=L*Q0 (j8 p p.length) L:=fun L=>by
   rw[cs9,<-V0 tp (A4 tp) L];unfold C0
   refine cp0 fun x _=> ?_
   simp only[beq_iff_eq,decide_eq_true_eq]
 have cq:∀L:Nat,cu5 ((L:Nat):Int) (C0 q)=L*Q0 (j8 q q.length) L:=fun L=>by
   rw[cs9,<-V0 tq (A4 tq) L];unfold C0
   refine cp0 fun x _=> ?_
   simp only[beq_iff_eq,decide_eq_true_eq]
 have kc:∀(w:List Int) (L:Nat),cu5 ((L:Nat):Int) (n6 w)=Q0 (j8 w w.length) L:=fun w L=>by
   unfold n6;rw[cs9,co7];unfold Q0
   refine cp0 fun r _=> ?_
   simp only[Function.comp,beq_iff_eq,decide_eq_true_eq];omega
 have k0:∀{w:List Int} (_:l4 w) {x:Int},(¬∃L:Nat,1<=L/\x=(L:Int))->cu5 x (n6 w)=0:=fun {w} tw {x} hx=>by
   refine cw5.mpr fun m=> ?_
   obtain ⟨r,hr,e⟩:=ck6.mp (show x∈(j8 w w.length).map fun r=>(r.length:Int) from m);exact hx ⟨r.length,List.length_pos_iff.mpr (ah9 tw r hr),e.symm⟩
 have p0:∀{w:List Int} {x:Int},(¬∃L:Nat,x=(L:Int))->cu5 x (C0 w)=0:=fun {w x} hx=>by
   refine cw5.mpr fun m=> ?_
   obtain ⟨i,_,e⟩:=ck6.mp (show x∈(cl8 w.length).map fun (i:Nat)=>(A6 w (i:Int):Int) from m);exact hx ⟨_,e.symm⟩
 constructor
 · intro h
   refine cw0.mpr fun x=> ?_
   by_cases hx:∃L:Nat,x=(L:Int)
   · obtain ⟨L,rfl⟩:=hx;rw[cp,cq,<-kc,<-kc,h.count_eq]
   · rw[p0 hx,p0 hx]
 · intro h
   refine cw0.mpr fun x=> ?_
   by_cases hx:∃L:Nat,1<=L/\x=(L:Int)
   · obtain ⟨L,l1,rfl⟩:=hx;have:=h.count_eq ((L:Nat):Int);rw[cp,cq] at this;rw[kc,kc];exact cx2 (by omega) this
   · rw[k0 tp hx,k0 tq hx]
noncomputable def mkF (p q:List Int):List Int->Bool:=fun s=>decide (l8 s p=l8 q s)
theorem ay2 {p q t:List Int}{ts:List (List Int)}(tp:l4 p)(tq:l4 q)(hl:p.length=q.length)(k:(n6 p).Perm (n6 q))(n:B7 p q t)(pm:ts.Perm (U4 p.length))(up:ts.Pairwise fun r r'=>HT.ad5 r' r=false):(ts.filter (mkF p q))[0]? =some t:=by
 have tt:=n.isT tp tq hl k;have tm:t∈ts.filter (mkF p q):=co0.mpr ⟨pm.mem_iff.mpr ((J3 _ _).mpr ⟨tt,n.len⟩),decide_eq_true (n.conj tp tq k)⟩
 have all:∀u∈ts.filter (mkF p q),t=u\/HT.ad5 t u=true:=fun u hu=>by
   obtain ⟨h1,h2⟩:=co0.mp hu;obtain ⟨tu,ul⟩:=(J3 _ _).mp (pm.mem_iff.mp h1)
   by_cases e:t=u
   · exact .inl e
   · exact .inr (n.least tp tq hl k tu ul (of_decide_eq_true h2) e)
 have up':=up.sublist (co6 (p:=mkF p q));generalize ts.filter (mkF p q)=r at tm all up'
 cases r with
 |nil=>cases tm
 |cons y r=>
  rcases all y cj5 with e|e
  · rw[e];rfl
  · rcases ck8.mp tm with f|f
    · rw[f];rfl
    · have:=(cr4.mp up').1 t f;rw[e] at this;cases this
theorem be1 {p q:List Int}{ts:List (List Int)}(tp:l4 p)(tq:l4 q)(hl:p.length=q.length)(k:¬(n6 p).Perm (n6 q))(pm:ts.Perm (U4 p.length)):ts.filter (mkF p q)=[]:=by
 refine List.filter_eq_nil_iff.mpr fun u hu h=>k ?_
 obtain ⟨tu,ul⟩:=(J3 _ _).mp (pm.mem_iff.mp hu);exact aq0 tp tq hl tu ul (of_decide_eq_true h)
end
end My
namespace My
open PySem L2 Mth
section
variable {P:Program} {w:World} {K:PySem.W.Frag} {mg:Str->Option Value} {base:Heap} {zy zzy zzz zvy zvx zt zuy ztz zty ztx zq:Addr}
def ch4 (K:PySem.W.Frag)(n:Nat):R2:=fun x y H Q=>(bm2 x y=true/\Q (.bl (!decide (x=y))) H)\/bn5 K n true x y H Q
theorem bl4 {X:Cx}(n:Nat)(hu:X.A.units+n+1 < cLine):G6 X (compareOp .NotEq) (ch4 X.K n):=by
 intro pins s σ H x y v u Q I rx ry h
 rcases h with h|h
 · exact Y1 pins s σ H x y v u Q I rx ry h
 · exact ab8 n hu pins s σ H x y v u Q I rx ry h
theorem t6 {H H':Hp}{a:Addr}{p:List Int}(h:o7 H a p)(s:e8 H H'):o7 H' a p:=⟨s _ _ h.1,h.2⟩
theorem V4 {H H':Hp}{g:Addr}{c:Nat}(h:C7 H g c)(s:e8 H H'):C7 H' g c:=by
 obtain ⟨x,y,z,e1,e2⟩:=h;exact ⟨x,y,z,s _ _ e1,e2⟩
theorem X9 {H:Hp}{g b:Addr}{c:Nat}(h:C7 H g c)(hb:H b=none):b≠g:=by
 obtain ⟨x,y,z,e1,e2⟩:=h
 exact fun e=>by rw[e,e1] at hb;cases hb
theorem cd4 {R:St->Hp->Prop}{σ:St}{H:Hp}{A:Prop}{b:Bool}(G:St->Hp->Prop)(rest:∀σ' H',G σ' H'->R σ' H')(hb:b=false->G σ H)(ha:b=true->(∀σ' H',G σ' H'->R σ' H')->A):if b=true then A else R σ H:=by
 cases b with
 |true=>exact ha rfl rest
 |false=>exact rest σ H (hb rfl)
open PySem.Spec PyProof.Rows in
theorem bq4 {X:Cx}:G6 X (compareOp .IsNot) (fun x y H Q=>∃b c,x= .bl b/\y= .bl c/\Q (.bl (b !=c)) H):=by
 intro pins s σ H x y v u Q I rx ry h;obtain ⟨b,c,rfl,rfl,q⟩:=h;cases rx;cases ry;exact isnot_bool (n9 I q rfl)
theorem aw9 {a b:List Int}(h:a.Perm b)(ha:a.Pairwise (· <= ·))(hb:b.Pairwise (· <= ·)):a=b:=by
 have r:∀{l:List Int},l.Pairwise (· <= ·)->l.reverse.Pairwise (· ≥ ·):=fun {l} h=>cu8.mpr h
 have:=V9 (a:=a.reverse) (b:=b.reverse) (((cu2 a).trans h).trans (cu2 _).symm) (r ha) (r hb);have:=congrArg List.reverse this
 rwa [cs8,cs8] at this
theorem C6 (n:Nat):l4 (L2.G9 0 n):=(E4 (List.Perm.refl _)).1
def ar3 (K:PySem.W.Frag):Sp:=fun vs H Q _=>∃(a:Addr) (ns:List Int),vs=[.ref a]/\i4 K H a (ns.map V.int)/\ns.length<=63/\∀H',Q (.bl true) H'
theorem D2:l7 ["script","k","pool","many","p","q","some","handed","again","found","s","other","alike"] ["script"] (j5 ae7):=by rfl'
theorem ax0:(["s","p","q"]:List Str).Nodup:=by decide+kernel
theorem cb0 {f:Addr}{fd:FuncData}(F:B0 K "law" "law" ae7 f fd)(B:Bl mg)(zpx:p6 P w K mg base "_law_pool" 1 ["script","k"] (au9 K))(zwx:p6 P w K mg base "_law_draw" 1 ["pool","many"] ak4)(zv:p6 P w K mg base "_law_turn" 2 ["pool","many"] av1)(zyz:p6 P w K mg base "_law_behind" 1 ["p","q"] Z8)(zrx:p6 P w K mg base "_law_back" 1 ["p"] (ah4 an1 an8))(zox:p6 P w K mg base "_law_all" 2 ["many"] bd9)(zpz:p6 P w K mg base "_law_makes" 2 ["s","p","q"] an7)(zxx:p6 P w K mg base "named_anew" 6 ["p","q"] X7)(zwy:p6 P w K mg base "is_turn" 2 ["thing"] (ah4 T9 (af0 K)))(zqz:p6 P w K mg base "_law_greedy" 2 ["p","q"] ai2)(zyx:p6 P w K mg base "_law_lengths" 1 ["p"] ak6)(zux:p6 P w K mg base "_law_no_fit" 7 ["p","q"] an6):j9 P w K mg base C8 8 f fd ["script"] (ar3 K):=by
 refine F.ok D2 (fun vs H Q E h=> ?_) (fun cdv A outer s H vs Q E hr h=> ?_)
 · obtain ⟨a,ns,rfl,ha,hl,k⟩:=h;rfl
 · obtain ⟨a,ns,rfl,ha,hl,k⟩:=h;have zkz:m9 1 _:=hr.mono (by decide);have zsy:m9 1 _:=hr.mono (by decide);have zuz:m9 2 _:=hr.mono (by decide);have zx:m9 1 _:=hr.mono (by decide);have znz:m9 1 _:=hr.mono (by decide);have hr_law_all:m9 2 _:=hr.mono (by decide);have zlx:m9 2 _:=hr.mono (by decide);have zvz:m9 6 _:=hr.mono (by decide);have zpy:m9 2 _:=hr.mono (by decide);have zmx:m9 2 _:=hr.mono (by decide);have zwz:m9 1 _:=hr.mono (by decide);have zoz:m9 7 _:=hr.mono (by decide);have hu:=U8 hr;have hu2:_+1+1 < cLine:=cq4 (cv8 (by decide:2<=64) _) hr.units;refine ⟨_,@g6 _ _ _ _ _ (@C1 _ _ _ _ _ _ _ _ PassesOwn.never rfl (@E2 _ _ _ _ _ _ (by rfl) B.range (@c6 _ _ _ _ _ (@bt3 _ _ _ _ _ _ rfl B.max (@c6 _ _ _ _ _ (@i7 _ _ _ _) (@c6 _ _ _ _ _ (@bt2 _ _ _ _ _ _ rfl B.min (@c6 _ _ _ _ _ (@i7 _ _ _ _) (@c6 _ _ _ _ _ (@o5 _ _ _ _ _ B.len (@c6 _ _ _ _ _ (pv 0) (@c7 _) (by rfl)) (by rfl) (by rfl)) (@c7 _) (by rfl)) (by rfl)) (by rfl) (by rfl) (by rfl)) (@c7 _) (by rfl)) (by rfl)) (by rfl) (by rfl) (by rfl)) (@c7 _) (by rfl)) (by rfl)) (@n4 _ _ (1) _ D2.nd rfl (Or.inl rfl) (by trivial)) (@g6 _ _ _ _ _ (@i8 _ _ (2) _ _ _ _ D2.nd rfl (Or.inl rfl) (@i9 _ _ _ _ _ _ _ _ _ _ zpx zkz (@c6 _ _ _ _ _ (pv 0) (@c6 _ _ _ _ _ (pv 1) (@c7 _) (by rfl)) (by rfl)) (by rfl) (by decide) (by rfl) (by rfl)) (by rfl) (by trivial)) (@g6 _ _ _ _ _ (@i8 _ _ (3) _ _ _ _ D2.nd rfl (Or.inl rfl) (@A5 _ _ _ _ _ _ _ p5 (@y8 _ _ _ _ (@c6 _ _ _ _ _ (@i9 _ _ _ _ _ _ _ _ _ _ zwx zsy (@c6 _ _ _ _ _ (pv 2) (@c6 _ _ _ _ _ (@i7 _ _ _ _) (@c7 _) (by rfl)) (by rfl)) (by rfl) (by decide) (by rfl) (by rfl)) (@c6 _ _ _ _ _ (@i7 _ _ _ _) (@c7 _) (by rfl)) (by rfl))) (@az4 _ _ _ _ _ B.int (@c6 _ _ _ _ _ (@M9 _ _ _ _ _ _ _ _ aq8 (@i9 _ _ _ _ _ _ _ _ _ _ zwx zsy (@c6 _ _ _ _ _ (pv 2) (@c6 _ _ _ _ _ (@i7 _ _ _ _) (@c7 _) (by rfl)) (by rfl)) (by rfl) (by decide) (by rfl) (by rfl)) (@i7 _ _ _ _) (m8 _)) (@c7 _) (by rfl)) (by rfl) (by rfl)) (fun _ _=>rfl)) (by rfl) (by trivial)) (@g6 _ _ _ _ _ (@i8 _ _ (4) _ _ _ _ D2.nd rfl (Or.inr rfl) (@i9 _ _ _ _ _ _ _ _ _ _ zv zuz (@c6 _ _ _ _ _ (pv 2) (@c6 _ _ _ _ _ (pv 3) (@c7 _) (by rfl)) (by rfl)) (by rfl) (by decide) (by rfl) (by rfl)) (by rfl) (by trivial)) (@g6 _ _ _ _ _ (@i8 _ _ (5) _ _ _ _ D2.nd rfl (Or.inr rfl) (@i9 _ _ _ _ _ _ _ _ _ _ zv zuz (@c6 _ _ _ _ _ (pv 2) (@c6 _ _ _ _ _ (pv 3) (@c7 _) (by rfl)) (by rfl)) (by rfl) (by decide) (by rfl) (by rfl)) (by rfl) (by trivial)) (@g6 _ _ _ _ _ (@C5 _ _ _ _ _ _ _ _ (@o4 _ _ _ _ _ _ _ _ bb6 (@i9 _ _ _ _ _ _ _ _ _ _ zwx zsy (@c6 _ _ _ _ _ (pv 2) (@c6 _ _ _ _ _ (@i7 _ _ _ _) (@c7 _) (by rfl)) (by rfl)) (by rfl) (by decide) (by rfl) (by rfl)) (@i7 _ _ _ _) (m8 _)) (@i6 _ _ _ (@i8 _ _ (5) _ _ _ _ D2.nd rfl (Or.inr rfl) (@i9 _ _ _ _ _ _ _ _ _ _ zyz zx (@c6 _ _ _ _ _ (pv 5) (@c6 _ _ _ _ _ (@i9 _ _ _ _ _ _ _ _ _ _ zyz zx (@c6 _ _ _ _ _ (pv 4) (@c6 _ _ _ _ _ (@i9 _ _ _ _ _ _ _ _ _ _ zrx znz (@c6 _ _ _ _ _ (pv 5) (@c7 _) (by rfl)) (by rfl) (by decide) (by rfl) (by rfl)) (@c7 _) (by rfl)) (by rfl)) (by rfl) (by decide) (by rfl) (by rfl)) (@c7 _) (by rfl)) (by rfl)) (by rfl) (by decide) (by rfl) (by rfl)) (by rfl) (by trivial))) (@q9 _)) (@g6 _ _ _ _ _ (@az2 _ (6) _ _ _ _ _ _ _ _ _ _ _ _ _ (["s","p","q"]) (1) ([4,5]) D2.nd rfl (Or.inl rfl) rfl .of (@K9 _ _ _ _ (@i9 _ _ _ _ _ _ _ _ _ _ zox hr_law_all (@c6 _ _ _ _ _ (pv 3) (@c7 _) (by rfl)) (by rfl) (by decide) (by rfl) (by rfl))) (fun _ _ _ _ _=>@n4 _ _ (0) _ ax0 rfl (Or.inl rfl) (by trivial)) (fun _ _ _ _ _=>@as7 _ _ _ (@L8 _ _ _ (@i9 _ _ _ _ _ _ _ _ _ _ zpz zlx (@c6 _ _ _ _ _ (pv 0) (@c6 _ _ _ _ _ (pv 1) (@c6 _ _ _ _ _ (pv 2) (@c7 _) (by rfl)) (by rfl)) (by rfl)) (by rfl) (by decide) (by rfl) (by rfl)) (by intro _;rfl))) (fun _ _ _ _ _=>(pv 0)) (by rfl) (by intro _;rfl) (by trivial)) (@g6 _ _ _ _ _ (@i8 _ _ (7) _ _ _ _ D2.nd rfl (Or.inl rfl) (@y8 _ _ _ _ (@c6 _ _ _ _ _ (@E9 _ _ _ _ _ B.list (@c6 _ _ _ _ _ (pv 4) (@c7 _) (by rfl)) (by rfl) (by rfl)) (@c6 _ _ _ _ _ (@E9 _ _ _ _ _ B.list (@c6 _ _ _ _ _ (pv 5) (@c7 _) (by rfl)) (by rfl) (by rfl)) (@c7 _) (by rfl)) (by rfl))) (by rfl) (by trivial)) (@g6 _ _ _ _ _ (@C1 _ _ _ _ _ _ _ _ PassesOwn.never rfl (@E2 _ _ _ _ _ _ (by rfl) B.range (@c6 _ _ _ _ _ (@i7 _ _ _ _) (@c7 _) (by rfl)) (by rfl)) (@n4 _ _ (8) _ D2.nd rfl (Or.inl rfl) (by trivial)) (@g6 _ _ _ _ _ (@i8 _ _ (9) _ _ _ _ D2.nd rfl (Or.inl rfl) (@i9 _ _ _ _ _ _ _ _ _ _ zxx zvz (@c6 _ _ _ _ _ (@A5 _ _ _ _ _ _ _ p5 (pv 7) (@i7 _ _ _ _) (fun _ _=>rfl)) (@c6 _ _ _ _ _ (@A5 _ _ _ _ _ _ _ p5 (pv 7) (@i7 _ _ _ _) (fun _ _=>rfl)) (@c7 _) (by rfl)) (by rfl)) (by rfl) (by decide) (by rfl) (by rfl)) (by rfl) (by trivial)) (@g6 _ _ _ _ _ (@C5 _ _ _ _ _ _ _ _ (@L9 _ _ _ _ _ _ _ (@o4 _ _ _ _ _ _ _ _ (bl4 0 hu) (pv 9) (@A5 _ _ _ _ _ _ _ p5 (@p9 _ _ _ _ _ _ _ _ as5 (pv 6) (@y8 _ _ _ _ (@c6 _ _ _ _ _ (@S0 _ _ _) (@c7 _) (by rfl)))) (@i7 _ _ _ _) (fun _ _=>rfl)) (m8 _)) (@L9 _ _ _ _ _ _ _ (@o4 _ _ _ _ _ _ _ _ (ab8 1 hu2) (pv 7) (@y8 _ _ _ _ (@c6 _ _ _ _ _ (pv 4) (@c6 _ _ _ _ _ (pv 5) (@c7 _) (by rfl)) (by rfl))) (m8 _)) (@W6 _ _ _ _ (@o4 _ _ _ _ _ _ _ _ Y1 (@M9 _ _ _ _ _ _ _ _ (ab8 1 hu2) (pv 6) (@y8 _ _ _ _ (@c7 _)) (m8 _)) (@ac0 _ _ _ _ _ _ B.isi (@c6 _ _ _ _ _ (pv 9) (@c6 _ _ _ _ _ (@ac1 _ _ B.list (by rfl)) (@c7 _) (by rfl)) (by rfl)) (by rfl) (by rfl) (by rfl)) (m8 _))))).pt (@i6 _ _ _ (@m7 _ _ _ _ (@D9 _ _ _ _))) (@q9 _)) (@g6 _ _ _ _ _ (@C5 _ _ _ _ _ _ _ _ (@ar4 _ _ _ _ _ _ _ (@o4 _ _ _ _ _ _ _ _ ad4 (pv 9) (@S0 _ _ _) (m8 _)) (@al2 _ _ _ _ (@o4 _ _ _ _ _ _ _ _ bq4 (@i9 _ _ _ _ _ _ _ _ _ _ zwy zpy (@c6 _ _ _ _ _ (pv 9) (@c7 _) (by rfl)) (by rfl) (by decide) (by rfl) (by rfl)) (@D9 _ _ _ _) (m8 _)))).pt (@i6 _ _ _ (@m7 _ _ _ _ (@D9 _ _ _ _))) (@q9 _)) (@i6 _ _ _ (@C5 _ _ _ _ _ _ _ _ (@o4 _ _ _ _ _ _ _ _ ad4 (pv 9) (@S0 _ _ _) (m8 _)) (@i6 _ _ _ (@B6 _ _ _ _ (@I0 _ _ _ _ _ _ _ (pv 9) (@c6 _ _ _ _ _ (@i7 _ _ _ _) (@c7 _) (by rfl)) (by rfl) (by rfl) (by rfl) (by rfl) (by rfl)) (by rfl))) (@q9 _)))))) (by intro _;rfl)) (@g6 _ _ _ _ _ (@i8 _ _ (4) _ _ _ _ D2.nd rfl (Or.inr rfl) (@i9 _ _ _ _ _ _ _ _ _ _ zv zuz (@c6 _ _ _ _ _ (pv 2) (@c6 _ _ _ _ _ (@i9 _ _ _ _ _ _ _ _ _ _ zwx zsy (@c6 _ _ _ _ _ (pv 2) (@c6 _ _ _ _ _ (@i7 _ _ _ _) (@c7 _) (by rfl)) (by rfl)) (by rfl) (by decide) (by rfl) (by rfl)) (@c7 _) (by rfl)) (by rfl)) (by rfl) (by decide) (by rfl) (by rfl)) (by rfl) (by trivial)) (@g6 _ _ _ _ _ (@i8 _ _ (10) _ _ _ _ D2.nd rfl (Or.inl rfl) (@i9 _ _ _ _ _ _ _ _ _ _ zv zuz (@c6 _ _ _ _ _ (pv 2) (@c6 _ _ _ _ _ (@o5 _ _ _ _ _ B.len (@c6 _ _ _ _ _ (pv 4) (@c7 _) (by rfl)) (by rfl) (by rfl)) (@c7 _) (by rfl)) (by rfl)) (by rfl) (by decide) (by rfl) (by rfl)) (by rfl) (by trivial)) (@g6 _ _ _ _ _ (@i8 _ _ (5) _ _ _ _ D2.nd rfl (Or.inr rfl) (@i9 _ _ _ _ _ _ _ _ _ _ zyz zx (@c6 _ _ _ _ _ (pv 10) (@c6 _ _ _ _ _ (@i9 _ _ _ _ _ _ _ _ _ _ zyz zx (@c6 _ _ _ _ _ (pv 4) (@c6 _ _ _ _ _ (@i9 _ _ _ _ _ _ _ _ _ _ zrx znz (@c6 _ _ _ _ _ (pv 10) (@c7 _) (by rfl)) (by rfl) (by decide) (by rfl) (by rfl)) (@c7 _) (by rfl)) (by rfl)) (by rfl) (by decide) (by rfl) (by rfl)) (@c7 _) (by rfl)) (by rfl)) (by rfl) (by decide) (by rfl) (by rfl)) (by rfl) (by trivial)) (@g6 _ _ _ _ _ (@C5 _ _ _ _ _ _ _ _ (@o4 _ _ _ _ _ _ _ _ (bl4 0 hu) (@i9 _ _ _ _ _ _ _ _ _ _ zxx zvz (@c6 _ _ _ _ _ (@E9 _ _ _ _ _ B.list (@c6 _ _ _ _ _ (pv 4) (@c7 _) (by rfl)) (by rfl) (by rfl)) (@c6 _ _ _ _ _ (@E9 _ _ _ _ _ B.list (@c6 _ _ _ _ _ (pv 5) (@c7 _) (by rfl)) (by rfl) (by rfl)) (@c7 _) (by rfl)) (by rfl)) (by rfl) (by decide) (by rfl) (by rfl)) (@i9 _ _ _ _ _ _ _ _ _ _ zqz zmx (@c6 _ _ _ _ _ (pv 4) (@c6 _ _ _ _ _ (pv 5) (@c7 _) (by rfl)) (by rfl)) (by rfl) (by decide) (by rfl) (by rfl)) (m8 _)) (@i6 _ _ _ (@m7 _ _ _ _ (@D9 _ _ _ _))) (@q9 _)) (@g6 _ _ _ _ _ (@i8 _ _ (11) _ _ _ _ D2.nd rfl (Or.inl rfl) (@i9 _ _ _ _ _ _ _ _ _ _ zv zuz (@c6 _ _ _ _ _ (pv 2) (@c6 _ _ _ _ _ (@o5 _ _ _ _ _ B.len (@c6 _ _ _ _ _ (pv 4) (@c7 _) (by rfl)) (by rfl) (by rfl)) (@c7 _) (by rfl)) (by rfl)) (by rfl) (by decide) (by rfl) (by rfl)) (by rfl) (by trivial)) (@g6 _ _ _ _ _ (@i8 _ _ (12) _ _ _ _ D2.nd rfl (Or.inl rfl) (@M9 _ _ _ _ _ _ _ _ (bg9 0 hu) (@ap2 _ _ _ _ _ B.sorted (@c6 _ _ _ _ _ (@i9 _ _ _ _ _ _ _ _ _ _ zyx zwz (@c6 _ _ _ _ _ (pv 4) (@c7 _) (by rfl)) (by rfl) (by decide) (by rfl) (by rfl)) (@c7 _) (by rfl)) (by rfl) (by rfl)) (@ap2 _ _ _ _ _ B.sorted (@c6 _ _ _ _ _ (@i9 _ _ _ _ _ _ _ _ _ _ zyx zwz (@c6 _ _ _ _ _ (pv 11) (@c7 _) (by rfl)) (by rfl) (by decide) (by rfl) (by rfl)) (@c7 _) (by rfl)) (by rfl) (by rfl)) (m8 _)) (by rfl) (by trivial)) (@g6 _ _ _ _ _ (@C5 _ _ _ _ _ _ _ _ (@o4 _ _ _ _ _ _ _ _ Y1 (@M9 _ _ _ _ _ _ _ _ ad4 (@i9 _ _ _ _ _ _ _ _ _ _ zxx zvz (@c6 _ _ _ _ _ (@E9 _ _ _ _ _ B.list (@c6 _ _ _ _ _ (pv 4) (@c7 _) (by rfl)) (by rfl) (by rfl)) (@c6 _ _ _ _ _ (@E9 _ _ _ _ _ B.list (@c6 _ _ _ _ _ (pv 11) (@c7 _) (by rfl)) (by rfl) (by rfl)) (@c7 _) (by rfl)) (by rfl)) (by rfl) (by decide) (by rfl) (by rfl)) (@S0 _ _ _) (m8 _)) (pv 12) (m8 _)) (@i6 _ _ _ (@m7 _ _ _ _ (@D9 _ _ _ _))) (@q9 _)) (@i6 _ _ _ (@C5 _ _ _ _ _ _ _ _ (@L9 _ _ _ _ _ _ _ (@ar4 _ _ _ _ _ _ _ (@o4 _ _ _ _ _ _ _ _ ai4 (@o5 _ _ _ _ _ B.len (@c6 _ _ _ _ _ (pv 4) (@c7 _) (by rfl)) (by rfl) (by rfl)) (@i7 _ _ _ _) (m8 _)) (@al2 _ _ _ _ (@O6 _ _ _ _ (@L8 _ _ _ (@i9 _ _ _ _ _ _ _ _ _ _ zux zoz (@c6 _ _ _ _ _ (@E9 _ _ _ _ _ B.list (@c6 _ _ _ _ _ (pv 4) (@c7 _) (by rfl)) (by rfl) (by rfl)) (@c6 _ _ _ _ _ (@Y6 _ _ _ _ _ _ _ rfl B.list B.range (@c6 _ _ _ _ _ (@p9 _ _ _ _ _ _ _ _ G8 (@o5 _ _ _ _ _ B.len (@c6 _ _ _ _ _ (pv 4) (@c7 _) (by rfl)) (by rfl) (by rfl)) (@i7 _ _ _ _)) (@c7 _) (by rfl)) (by rfl) (by rfl) (by rfl) (by rfl)) (@c7 _) (by rfl)) (by rfl)) (by rfl) (by decide) (by rfl) (by rfl)) (by intro _;rfl))))).pt (@W6 _ _ _ _ (@O6 _ _ _ _ (@L8 _ _ _ (@i9 _ _ _ _ _ _ _ _ _ _ zux zoz (@c6 _ _ _ _ _ (@y8 _ _ _ _ (@c6 _ _ _ _ _ (@i7 _ _ _ _) (@c6 _ _ _ _ _ (@i7 _ _ _ _) (@c7 _) (by rfl)) (by rfl))) (@c6 _ _ _ _ _ (@y8 _ _ _ _ (@c6 _ _ _ _ _ (@i7 _ _ _ _) (@c7 _) (by rfl))) (@c7 _) (by rfl)) (by rfl)) (by rfl) (by decide) (by rfl) (by rfl)) (by intro _;rfl))))).pt (@i6 _ _ _ (@m7 _ _ _ _ (@D9 _ _ _ _))) (@q9 _)))))))))))))))))) (by intro _;rfl)) (@i6 _ _ _ (@m7 _ _ _ _ (@D9 _ _ _ _))),?_⟩
   refine ⟨_,rfl,a,_,rfl,.inl ha,6,_,rfl,1,_,rfl,_,rfl,?_⟩;obtain ⟨mx,hmx,hm1,hm2⟩:=bt7 (n:=6) (c:=((ns.map V.int).length:Int)) (by decide) (by omega);rw[hmx]
   refine ⟨by omega,by omega,G7 (lo:=0) (n:=mx.toNat) (fun i σ H2=>∃v1 v2 v3 v4 v5 v6 v7 v8 v9 v10 v11 v12:Option V,σ=[some (.ref a),v1,v2,v3,v4,v5,v6,v7,v8,v9,v10,v11,v12]/\e8 H H2)
     ⟨none,none,none,none,none,none,none,none,none,none,none,none,rfl,e8.refl H⟩ ?_ (fun σ H2 _=>k H2)⟩
   rintro i σ H2 hi ⟨v1,v2,v3,v4,v5,v6,v7,v8,v9,v10,v11,v12,rfl,s02⟩;refine ⟨_,rfl,_,rfl,a,ns,_,rfl,s02.seq ha,by omega,by omega,fun g H3 hg s23 P3=> ?_⟩;have hg0:H g=none:=s02.free hg;have s03:=s02.trans s23;refine ⟨_,rfl,g,_,6,rfl,P3,by decide,by decide,by decide,fun r1 H4 a0 a1 P4 kb4=>⟨(show 2<=sizeLine by decide),fun ml n5=> ?_⟩⟩;have s5:e8 H4 (c9 H4 ml (.lst [V.int r1,V.int 6])):=e8.upd_new n5;have g5:(c9 H4 ml (.lst [V.int r1,V.int 6])) ml=some (.lst (([r1,6]:List Int).map V.int)):=c8;have ng5:ml≠g:=X9 P4 n5;have P5:=V4 P4 s5;generalize (c9 H4 ml (.lst [V.int r1,V.int 6]))=H5 at s5 g5 P5 ⊢;refine ⟨_,rfl,g,_,4,rfl,P5,by decide,by decide,by decide,fun r2 H6 b0 b1 P6 kb6=>⟨rfl,_,rfl,?_⟩⟩;have s06:e8 H H6:=((s03.kb kb4 hg0).trans s5).kb kb6 hg0
   obtain ⟨n,en,hat⟩:∃n:Nat,n<=6/\atI (([r1,6]:List Int).map V.int) (if decide (V.int r2=V.int 1)=true then 1 else 0)=some (.int (n:Int)):=by
     obtain ⟨m,rfl⟩:=co9 a0
     split
     · exact ⟨6,by omega,D4 (j:=1) rfl⟩
     · exact ⟨m,by omega,D4 (j:=0) rfl⟩
   refine ⟨ml,_,_,_,rfl,rfl,i4.of (kb6 _ _ g5 ng5),hat,?_⟩;refine ⟨_,rfl,_,rfl,g,_,(n:Int),rfl,P6,by omega,by omega,by decide,fun pa p H7 npa tp lp h7p P7 kb7=> ?_⟩;have npg:=X9 P6 npa;refine ⟨_,rfl,_,rfl,g,_,(n:Int),rfl,P7,by omega,by omega,by decide,fun qa q0 H8 nqa tq0 lq0 h8q P8 kb8=> ?_⟩;have nqg:=X9 P7 nqa;have s08:e8 H H8:=((s06.kb kb7 hg0)).kb kb8 hg0;refine ⟨_,rfl,g,_,3,rfl,P8,by decide,by decide,by decide,fun r3 H9 c0 c1 P9 kb9=>⟨_,_,rfl,rfl,_,rfl,?_⟩⟩;have s09:=s08.kb kb9 hg0
   have lp':p.length=n:=by omega
   have lq0':q0.length=n:=by omega
   have tap:o7 H9 pa p:=⟨kb9 _ _ (kb8 _ _ h7p npg) npg,tp,by omega⟩;have taq0:o7 H9 qa q0:=⟨kb9 _ _ h8q nqg,tq0,by omega⟩
   refine cd4 (fun σ' H'=>∃(qb:Addr) (q:List Int),σ'=[some (.ref a),some (.int ((0:Int)+(i:Int))),some (.ref g),some (.int (n:Int)),some (.ref pa),some (.ref qb),v6,v7,v8,v9,v10,v11,v12]/\o7 H' qb q/\q.length=n/\e8 H9 H') ?_ (fun _=>⟨qa,q0,rfl,taq0,lq0',e8.refl _⟩) fun _ rest=> ?_
   rotate_left
   · refine ⟨_,rfl,_,rfl,_,rfl,.inl ⟨qa,q0,rfl,taq0,fun b1 t1 H10 nb1 s10 tt1 lt1 h10=> ?_⟩⟩;refine ⟨pa,b1,p,t1,rfl,t6 tap s10,⟨h10,tt1,by omega⟩,by omega,fun b2 H11 nb2 s11 h11=> ?_⟩;have t2:l4 (l8 p t1):=T0 tp tt1 (by omega)
     have l2:(l8 p t1).length=n:=by rw[A8];omega
     refine ⟨qa,b2,q0,_,rfl,t6 taq0 (s10.trans s11),⟨h11,t2,by omega⟩,by omega,fun b3 H12 nb3 s12 h12=> ?_⟩;have t3:l4 (l8 q0 (l8 p t1)):=T0 tq0 t2 (by omega)
     have l3:(l8 q0 (l8 p t1)).length=n:=by rw[A8];omega
     exact rest _ _ ⟨b3,_,rfl,⟨h12,t3,by omega⟩,l3,s10.trans (s11.trans s12)⟩
   rintro σ' H10 ⟨qb,q,rfl,taq,lq,s10⟩;have tap10:=t6 tap s10;have P10:=V4 P9 s10;have tq:=taq.2.1;refine ⟨_,rfl,n,rfl,by omega,fun al as ts H11 nal s11 h11 rows pm st=> ?_⟩
   have la:as.length<=720:=by rw[rows.1,pm.length_eq];exact bk8 en
   refine ⟨al,rfl,⟨_,i4.of h11⟩,ab7 (K:=K) (a:=al) (xs:=as.map V.ref) (fun m ys σ Hx=>∃(v0:Option V) (es:List Addr),σ=[v0,some (.ref pa),some (.ref qb)]/\e8 H11 Hx/\ys=es.map V.ref/\es.length<=m/\x6 Hx es ((ts.take m).filter (mkF p q))) ⟨none,[],rfl,e8.refl _,rfl,cj1 _,by rw[cu0];exact ⟨rfl,fun j b r h=>by cases h⟩⟩ (fun m ys σ Hx _ zz=>by obtain ⟨_,_,_,s,_⟩:=zz;exact i4.of (s _ _ h11)) ?_ ?_⟩
   · rintro m x ys σ Hx hm ⟨v0,es,rfl,sx,rfl,ly,rowsE⟩;obtain ⟨ra,hra,rfl⟩:=aw2 hm;have ml':=(ci9.mp hra).1;obtain ⟨r,er,hr11⟩:=aw3 rows hra;obtain ⟨tr,lr⟩:=(J3 n r).mp (pm.mem_iff.mp (ck5 er));have trx:o7 Hx ra r:=⟨sx _ _ hr11,tr,by omega⟩;have s10x:=s11.trans sx;refine ⟨_,rfl,_,rfl,_,rfl,ra,pa,qb,r,p,q,rfl,trx,t6 tap10 s10x,t6 taq s10x,by omega,by omega,fun H12 s12=> ?_⟩;have ek:ts.take (m+1)=ts.take m++[r]:=o9 er;refine ⟨_,rfl,K7 (fun c2=> ?_) fun c2=> ?_⟩
     · refine ⟨_,rfl,l9 (by rw[ci8];omega),_,es++[ra],rfl,sx.trans s12,by rw[ck4];rfl,by rw[cj6,cq7];omega,?_⟩;rw[ek,cq5,ct8 (show mkF p q r=true from c2),cs0];exact P0 (J2 rowsE fun b _ o e=>s12 b o e) (s12 _ _ trx.1)
     · refine ⟨_,es,rfl,sx.trans s12,rfl,by omega,?_⟩;rw[ek,cq5,ct9 (show ¬mkF p q r=true from c2),cs0,cm1]
       exact J2 rowsE fun b _ o e=>s12 b o e
   rintro ys σ H12 ⟨v0,es,rfl,s12,rfl,ly,rowsE⟩ D nD;rw[ci8] at ly;rw[ci8,rows.1,cn0] at rowsE;obtain ⟨fs,efs⟩:∃fs,fs=ts.filter (mkF p q):=⟨_,rfl⟩;rw[<-efs] at rowsE;have s13:e8 H12 (c9 H12 D (.lst (es.map V.ref))):=e8.upd_new nD;have h13:(c9 H12 D (.lst (es.map V.ref))) D=some (.lst (es.map V.ref)):=c8;generalize (c9 H12 D (.lst (es.map V.ref)))=H13 at s13 h13 ⊢
   have rowsE:=J2 rowsE fun b _ o e=>s13 b o e
   have s1013:=s11.trans (s12.trans s13);have tap13:=t6 tap10 s1013;have taq13:=t6 taq s1013;refine ⟨_,rfl,pa,_,rfl,.inl (i4.of tap13.1),fun l1 n14=> ?_⟩;have s14:e8 H13 (c9 H13 l1 (.lst (p.map V.int))):=e8.upd_new n14;have g14:(c9 H13 l1 (.lst (p.map V.int))) l1=some (.lst (p.map V.int)):=c8;generalize (c9 H13 l1 (.lst (p.map V.int)))=H14 at s14 g14 ⊢;refine ⟨_,rfl,qb,_,rfl,.inl (i4.of (s14 _ _ taq13.1)),fun l2 n15=> ?_⟩;have s15:e8 H14 (c9 H14 l2 (.lst (q.map V.int))):=e8.upd_new n15;have g15:(c9 H14 l2 (.lst (q.map V.int))) l2=some (.lst (q.map V.int)):=c8;generalize (c9 H14 l2 (.lst (q.map V.int)))=H15 at s15 g15 ⊢;refine ⟨(show 2<=sizeLine by decide),fun hd n16=> ?_⟩;have s16:e8 H15 (c9 H15 hd (.lst [V.ref l1,V.ref l2])):=e8.upd_new n16;have g16:(c9 H15 hd (.lst [V.ref l1,V.ref l2])) hd=some (.lst (([l1,l2]:List Addr).map V.ref)):=c8;generalize (c9 H15 hd (.lst [V.ref l1,V.ref l2]))=H16 at s16 g16 ⊢;have s1316:=s14.trans (s15.trans s16);have e1:=s16 _ _ (s15 _ _ g14);have e2:=s16 _ _ g15;have tap16:=t6 tap13 s1316;have taq16:=t6 taq13 s1316;have h16D:=s1316 _ _ h13
   have rowsF:=J2 rowsE fun b _ o e=>s1316 b o e
   refine ⟨2,rfl,by decide,by decide,G7 (lo:=0) (n:=2) (fun w σ Hx=>∃v8 v9:Option V,σ=[some (.ref a),some (.int ((0:Int)+(i:Int))),some (.ref g),some (.int (n:Int)),some (.ref pa),some (.ref qb),some (.ref D),some (.ref hd),v8,v9,v10,v11,v12]/\e8 H16 Hx) ⟨v8,v9,rfl,e8.refl _⟩ ?_ ?_⟩
   · rintro w σ Hx hw ⟨v8,v9,rfl,sx⟩
     have R:∀{H':Hp},e8 H16 H'->LEq K H' 1 (([l1,l2]:List Addr).map V.ref) (([pa,qb]:List Addr).map V.ref) true:=fun {H'} s=>by
       have R:=bh6 (K:=K) (at4 (s _ _ e1) (s _ _ e2)) (at4 (s _ _ tap16.1) (s _ _ taq16.1));rw[decide_eq_true rfl] at R;exact R
     refine ⟨_,rfl,hd,_,0,_,rfl,rfl,i4.of (sx _ _ g16),D4 (j:=0) rfl,_,rfl,hd,_,1,_,rfl,rfl,i4.of (sx _ _ g16),D4 (j:=1) rfl,l1,l2,p,q,rfl,⟨sx _ _ e1,tap.2⟩,⟨sx _ _ e2,taq.2⟩,by omega,fun no H20 s20=> ?_,fun yes o t H20 no s20 h20 nm=> ?_⟩
     · have fe:fs=[]:=by rw[efs];exact be1 tp tq (by omega) no (by rw[lp'];exact pm)
       have ee:es=[]:=cr8 (by rw[rowsF.1,fe];rfl);have s1620:=sx.trans s20;refine ⟨_,rfl,_,rfl,(show 1<=sizeLine by decide),fun c1 n21=> ?_⟩;have s21:e8 H20 (c9 H20 c1 (.lst [V.non])):=e8.upd_new n21;have g21:(c9 H20 c1 (.lst [V.non])) c1=some (.lst [V.non]):=c8;generalize (c9 H20 c1 (.lst [V.non]))=H21 at s21 g21 ⊢;refine ⟨D,c1,_,_,rfl,rfl,s21 _ _ (s1620 _ _ h16D),g21,cm9 (l9 (by rw[ci8];show es.length+1<=_;omega)),fun c2 n22=> ?_⟩;have s22:e8 H21 (c9 H21 c2 (.lst (es.map V.ref++[V.non]))):=e8.upd_new n22;have g22:(c9 H21 c2 (.lst (es.map V.ref++[V.non]))) c2=some (.lst (es.map V.ref++[V.non])):=c8;generalize (c9 H21 c2 (.lst (es.map V.ref++[V.non])))=H22 at s22 g22 ⊢;have s1622:=s1620.trans (s21.trans s22);refine ⟨c2,_,0,.non,rfl,rfl,i4.of g22,by rw[ee];exact D4 (j:=0) rfl,.inl ⟨rfl,_,rfl,A7 ?_⟩⟩;refine ⟨_,rfl,_,rfl,_,rfl,(show 2<=sizeLine by decide),fun z n23=> ?_⟩;have s23:e8 H22 (c9 H22 z (.lst [V.ref pa,V.ref qb])):=e8.upd_new n23;have g23:(c9 H22 z (.lst [V.ref pa,V.ref qb])) z=some (.lst (([pa,qb]:List Addr).map V.ref)):=c8;generalize (c9 H22 z (.lst [V.ref pa,V.ref qb]))=H23 at s23 g23 ⊢;have s1623:=s1622.trans s23;refine ⟨hd,z,_,_,_,rfl,rfl,i4.of (s1623 _ _ g16),i4.of g23,R s1623,_,rfl,A7 ?_⟩;refine ⟨_,rfl,(show 0<=sizeLine by decide),fun e0 n24=> ?_⟩;have s24:e8 H23 (c9 H23 e0 (.lst [])):=e8.upd_new n24;have g24:(c9 H23 e0 (.lst [])) e0=some (.lst []):=c8;generalize (c9 H23 e0 (.lst []))=H24 at s24 g24 ⊢;have s1624:=s1623.trans s24;refine ⟨D,e0,_,_,_,rfl,rfl,i4.of (s1624 _ _ h16D),i4.of g24,al9 K H24 _ _,?_⟩;rw[ee];refine ⟨_,rfl,_,"list",_,false,rfl,.non,aq4 K,rfl,_,rfl,A7 ?_⟩;refine ⟨_,rfl,rfl,_,rfl,A7 (A7 ?_)⟩;refine ⟨_,rfl,rfl,_,rfl,A7 ?_⟩;exact ⟨_,_,rfl,s1624⟩
     · have f0:fs[0]? =some t:=by rw[efs];exact ay2 tp tq (by omega) yes nm (by rw[lp'];exact pm) st
       have s1620:=sx.trans s20;obtain ⟨ec,hec⟩:∃ec,es[0]? =some ec:=⟨_,cj0 (by rw[rowsF.1];exact (ci9.mp f0).1)⟩;have h16e:=rowsF.2 0 ec t hec f0;have ho16:H16 o=none:=sx.free no;have tt:=nm.isT tp tq (by omega) yes;refine ⟨_,rfl,_,rfl,(show 1<=sizeLine by decide),fun c1 n21=> ?_⟩;have s21:e8 H20 (c9 H20 c1 (.lst [V.non])):=e8.upd_new n21;have g21:(c9 H20 c1 (.lst [V.non])) c1=some (.lst [V.non]):=c8;generalize (c9 H20 c1 (.lst [V.non]))=H21 at s21 g21 ⊢;refine ⟨D,c1,_,_,rfl,rfl,s21 _ _ (s1620 _ _ h16D),g21,cm9 (l9 (by rw[ci8];show es.length+1<=_;omega)),fun c2 n22=> ?_⟩;have s22:e8 H21 (c9 H21 c2 (.lst (es.map V.ref++[V.non]))):=e8.upd_new n22;have g22:(c9 H21 c2 (.lst (es.map V.ref++[V.non]))) c2=some (.lst (es.map V.ref++[V.non])):=c8;generalize (c9 H21 c2 (.lst (es.map V.ref++[V.non])))=H22 at s22 g22 ⊢;have s2022:=s21.trans s22;have s1622:=s1620.trans s2022
       have at0':(es.map V.ref++[V.non])[0]? =some (V.ref ec):=by
         rw[cm6 (by rw[ci8];exact (ci9.mp hec).1),cj2,hec];rfl
       refine ⟨c2,_,0,_,rfl,rfl,i4.of g22,D4 (j:=0) at0',.inr ⟨o,ec,_,_,_,rfl,rfl,i4.of (s2022 _ _ h20),i4.of (s1622 _ _ h16e),N6 K H22 0 t t,_,rfl,U9 rfl ?_⟩⟩;refine ⟨_,rfl,_,rfl,_,rfl,(show 2<=sizeLine by decide),fun z n23=> ?_⟩;have s23:e8 H22 (c9 H22 z (.lst [V.ref pa,V.ref qb])):=e8.upd_new n23;have g23:(c9 H22 z (.lst [V.ref pa,V.ref qb])) z=some (.lst (([pa,qb]:List Addr).map V.ref)):=c8;generalize (c9 H22 z (.lst [V.ref pa,V.ref qb]))=H23 at s23 g23 ⊢;have s1623:=s1622.trans s23;refine ⟨hd,z,_,_,_,rfl,rfl,i4.of (s1623 _ _ g16),i4.of g23,R s1623,_,rfl,A7 ?_⟩;refine ⟨_,rfl,(show 0<=sizeLine by decide),fun e0 n24=> ?_⟩;have s24:e8 H23 (c9 H23 e0 (.lst [])):=e8.upd_new n24;have g24:(c9 H23 e0 (.lst [])) e0=some (.lst []):=c8;generalize (c9 H23 e0 (.lst []))=H24 at s24 g24 ⊢;have s1624:=s1623.trans s24;have s2024:=s2022.trans (s23.trans s24);have h24o:=s2024 _ _ h20;refine ⟨D,e0,_,_,_,rfl,rfl,i4.of (s1624 _ _ h16D),i4.of g24,al9 K H24 _ _,?_⟩
       have nee:(es.map V.ref).isEmpty=false:=by
         cases es with
         |nil=>cases hec
         |cons _ _=>rfl
       rw[nee];refine ⟨_,rfl,_,"list",_,true,rfl,.lst h24o,S8 K "list",rfl,_,rfl,A7 ?_⟩;refine ⟨_,rfl,rfl,_,rfl,E6 ?_⟩;refine ⟨_,rfl,.inl ⟨o,t,rfl,h24o,fun b H25 s25 hb=> ?_⟩⟩;rw[hb.mpr ⟨by rw[nm.len];omega,tt⟩];refine ⟨_,_,rfl,rfl,_,rfl,A7 ?_⟩;refine ⟨_,rfl,rfl,_,rfl,E6 ?_⟩;have h25o:=s25 _ _ h24o;refine ⟨_,rfl,.inl ⟨rfl,_,i4.of h25o⟩,o,_,_,rfl,rfl,h25o,l9 (by rw[ci8,nm.len];omega),?_⟩;exact ⟨_,_,rfl,(s1624.trans s25).upd_r ho16⟩
   rintro σ Hx ⟨v8,v9,rfl,sx⟩;have s10x:=s1013.trans (s1316.trans sx);have Px:=V4 P10 s10x;have s0x:e8 H Hx:=(s09.trans s10).trans s10x;clear s1316 s1013 rowsF rowsE h16D e1 e2 tap16 taq16 tap13 taq13 rows pm st tap10 taq g14 g15 g16 h13 s13 s14 s15 s16 h11 s11 s12 hat;refine ⟨_,rfl,_,rfl,g,_,41,rfl,Px,by decide,by decide,by decide,fun r4 H30 d0 d1 P30 kb30=> ?_⟩;refine ⟨g,_,r4,rfl,P30,by omega,by omega,by decide,fun pb p2 H31 npb tp2 lp2 h31 P31 kb31=> ?_⟩;have npbg:=X9 P30 npb;refine ⟨_,rfl,_,rfl,pb,_,rfl,.inl (i4.of h31),g,_,_,rfl,P31,by omega,by rw[ci8];omega,by decide,fun sa s2 H32 nsa ts2 ls2 h32 P32 kb32=> ?_⟩;rw[ci8] at ls2;have nsag:=X9 P31 nsa;have s032:e8 H H32:=((s0x.kb kb30 hg0).kb kb31 hg0).kb kb32 hg0;have tap2:o7 H32 pb p2:=⟨kb32 _ _ h31 npbg,tp2,by omega⟩;have tas2:o7 H32 sa s2:=⟨h32,ts2,by omega⟩
   have l2:s2.length=p2.length:=by omega
   refine ⟨_,rfl,_,rfl,_,rfl,.inr ⟨sa,s2,rfl,tas2,fun b1 t1 H33 nb1 s33 tt1 lt1 iv h33=> ?_⟩⟩;refine ⟨pb,b1,p2,t1,rfl,t6 tap2 s33,⟨h33,tt1,by omega⟩,by omega,fun b2 H34 nb2 s34 h34=> ?_⟩;have t2:l4 (l8 p2 t1):=T0 tp2 tt1 (by omega)
   have lt2:(l8 p2 t1).length=p2.length:=by rw[A8];omega
   refine ⟨sa,b2,s2,_,rfl,t6 tas2 (s33.trans s34),⟨h34,t2,by omega⟩,by omega,fun qc H35 nqc s35 h35=> ?_⟩;have tq2:l4 (l8 s2 (l8 p2 t1)):=T0 ts2 t2 (by omega)
   have lq2:p2.length=(l8 s2 (l8 p2 t1)).length:=by rw[A8];omega
   have kpm:=aq0 tp2 tq2 lq2 ts2 l2 (bq3 ts2 tt1 tp2 lt1 l2.symm iv);generalize l8 s2 (l8 p2 t1)=q2 at tq2 lq2 kpm h35;have s3235:=s33.trans (s34.trans s35);have tap3:=t6 tap2 s3235;have taq3:o7 H35 qc q2:=⟨h35,tq2,by omega⟩;refine ⟨_,rfl,pb,_,rfl,.inl (i4.of tap3.1),fun m1 n36=> ?_⟩;have s36:e8 H35 (c9 H35 m1 (.lst (p2.map V.int))):=e8.upd_new n36;have g36:(c9 H35 m1 (.lst (p2.map V.int))) m1=some (.lst (p2.map V.int)):=c8;generalize (c9 H35 m1 (.lst (p2.map V.int)))=H36 at s36 g36 ⊢;refine ⟨_,rfl,qc,_,rfl,.inl (i4.of (s36 _ _ taq3.1)),fun m2 n37=> ?_⟩;have s37:e8 H36 (c9 H36 m2 (.lst (q2.map V.int))):=e8.upd_new n37;have g37:(c9 H36 m2 (.lst (q2.map V.int))) m2=some (.lst (q2.map V.int)):=c8;generalize (c9 H36 m2 (.lst (q2.map V.int)))=H37 at s37 g37 ⊢;refine ⟨m1,m2,p2,q2,rfl,⟨s37 _ _ g36,tap2.2⟩,⟨g37,taq3.2⟩,lq2,fun no=>absurd kpm no,fun _ o t H38 no s38 h38 nm=> ?_⟩;have s3538:=s36.trans (s37.trans s38);refine ⟨_,rfl,_,rfl,pb,qc,p2,q2,t,rfl,t6 tap3 s3538,t6 taq3 s3538,lq2,kpm,nm,fun o2 H39 no2 s39 h39=> .inr ⟨o,o2,_,_,_,rfl,rfl,i4.of (s39 _ _ h38),i4.of h39,N6 K H39 0 t t,_,rfl,U9 rfl ?_⟩⟩;have s3239:=s3235.trans (s3538.trans s39);have P39:=V4 P32 s3239;have tap4:=t6 tap2 s3239;have s039:=s032.trans s3239;refine ⟨_,rfl,_,rfl,pb,_,rfl,.inl (i4.of tap4.1),g,_,_,rfl,P39,by omega,by rw[ci8];omega,by decide,fun oa p4 H40 noa tp4 lp4 h40 P40 kb40=> ?_⟩;rw[ci8] at lp4;have tap2:o7 H40 pb p2:=⟨kb40 _ _ tap4.1 npbg,tp2,by omega⟩;have tao:o7 H40 oa p4:=⟨h40,tp4,by omega⟩;have s040:=s039.kb kb40 hg0
   have ll4:p2.length=p4.length:=by omega
   have lpers:∀w:List Int,(C0 w).length=w.length:=fun w=>by unfold C0;rw[ci8,cm4]
   refine ⟨_,rfl,pb,p2,rfl,tap2,fun u1 H41 nu1 s41 h41=> ?_⟩;refine ⟨u1,C0 p2,rfl,i4.of h41,by rw[lpers];omega,fun ms1 u2 pm1 up1 nu2=> ?_⟩;have s42:e8 H41 (c9 H41 u2 (.lst (ms1.map V.int))):=e8.upd_new nu2;have g42:(c9 H41 u2 (.lst (ms1.map V.int))) u2=some (.lst (ms1.map V.int)):=c8;generalize (c9 H41 u2 (.lst (ms1.map V.int)))=H42 at s42 g42 ⊢;refine ⟨_,rfl,oa,p4,rfl,t6 tao (s41.trans s42),fun u3 H43 nu3 s43 h43=> ?_⟩;refine ⟨u3,C0 p4,rfl,i4.of h43,by rw[lpers];omega,fun ms2 u4 pm2 up2 nu4=> ?_⟩;have s44:e8 H43 (c9 H43 u4 (.lst (ms2.map V.int))):=e8.upd_new nu4;have g44:(c9 H43 u4 (.lst (ms2.map V.int))) u4=some (.lst (ms2.map V.int)):=c8;generalize (c9 H43 u4 (.lst (ms2.map V.int)))=H44 at s44 g44 ⊢;refine ⟨u2,u4,_,_,_,rfl,rfl,i4.of (s44 _ _ (s43 _ _ g42)),i4.of g44,N6 K H44 0 ms1 ms2,?_⟩;have s4044:=s41.trans (s42.trans (s43.trans s44))
   have alike:ms1=ms2↔(n6 p2).Perm (n6 p4):=by
     rw[bl3 tp2 tp4];exact ⟨fun e=>pm1.symm.trans (e▸pm2),fun h=>aw9 (pm1.trans (h.trans pm2.symm)) up1 up2⟩
   refine ⟨_,rfl,pb,_,rfl,.inl (i4.of (s4044 _ _ tap2.1)),fun m3 n45=> ?_⟩;have s45:e8 H44 (c9 H44 m3 (.lst (p2.map V.int))):=e8.upd_new n45;have g45:(c9 H44 m3 (.lst (p2.map V.int))) m3=some (.lst (p2.map V.int)):=c8;generalize (c9 H44 m3 (.lst (p2.map V.int)))=H45 at s45 g45 ⊢;refine ⟨_,rfl,oa,_,rfl,.inl (i4.of (s45 _ _ (s4044 _ _ tao.1))),fun m4 n46=> ?_⟩;have s46:e8 H45 (c9 H45 m4 (.lst (p4.map V.int))):=e8.upd_new n46;have g46:(c9 H45 m4 (.lst (p4.map V.int))) m4=some (.lst (p4.map V.int)):=c8;generalize (c9 H45 m4 (.lst (p4.map V.int)))=H46 at s46 g46 ⊢;have s4046:=s4044.trans (s45.trans s46);refine ⟨m3,m4,p2,p4,rfl,⟨s46 _ _ g45,tap2.2⟩,⟨g46,tao.2⟩,ll4,fun no HZ sz=> ?_,fun yes o3 t3 HZ no3 sz h3 nm3=> ?_⟩
   · have sZ:=s4046.trans sz;refine ⟨rfl,_,rfl,rfl,_,rfl,U9 (congrArg V.bl (show (!decide (V.non=V.non))=decide (ms1=ms2) by rw[decide_eq_false (p:=ms1=ms2) fun e=>no (alike.mp e)];rfl)) ?_⟩;refine ⟨_,rfl,pb,_,rfl,.inl (i4.of (sZ _ _ tap2.1)),_,_,rfl,rfl,_,rfl,?_⟩
     refine K7 (fun c5=> ?_) fun c5=> ?_
     · have lt:p2.length < 40:=by have:=of_decide_eq_true c5;rw[ci8] at this;omega
       refine ⟨_,rfl,pb,_,rfl,.inl (i4.of (sZ _ _ tap2.1)),fun w1 x1=> ?_⟩;have y1:e8 HZ (c9 HZ w1 (.lst (p2.map V.int))):=e8.upd_new x1;have z1:(c9 HZ w1 (.lst (p2.map V.int))) w1=some (.lst (p2.map V.int)):=c8;generalize (c9 HZ w1 (.lst (p2.map V.int)))=HA at y1 z1 ⊢;refine ⟨_,rfl,pb,_,rfl,.inl (i4.of (y1 _ _ (sZ _ _ tap2.1))),_,_,rfl,rfl,_,rfl,fun rp nrp=> ?_⟩;have yr:e8 HA (c9 HA rp (.rng 0 (((p2.map V.int).length:Int)+1))):=e8.upd_new nrp;have zr:(c9 HA rp (.rng 0 (((p2.map V.int).length:Int)+1))) rp=some (.rng 0 (((p2.map V.int).length:Int)+1)):=c8;generalize (c9 HA rp (.rng 0 (((p2.map V.int).length:Int)+1)))=HR at yr zr ⊢;refine ⟨rp,_,_,rfl,zr,⟨by decide,by decide,by rw[ci8];omega,by rw[ci8];omega⟩,by rw[ci8];omega,fun w2 x2=> ?_⟩;rw[show (((p2.map V.int).length:Int)+1 - 0).toNat=p2.length+1 by rw[ci8];omega];have y2:e8 HR (c9 HR w2 (.lst ((L2.G9 0 (p2.length+1)).map V.int))):=e8.upd_new x2;have z2:(c9 HR w2 (.lst ((L2.G9 0 (p2.length+1)).map V.int))) w2=some (.lst ((L2.G9 0 (p2.length+1)).map V.int)):=c8;generalize (c9 HR w2 (.lst ((L2.G9 0 (p2.length+1)).map V.int)))=HB at y2 z2 ⊢;refine ⟨w1,w2,p2,_,rfl,⟨y2 _ _ (yr _ _ z1),tap2.2⟩,⟨z2,C6 _,by rw[A0];omega⟩,by rw[A0];omega,fun HX y5=>⟨_,rfl,A7 ?_⟩⟩;have sX:=sZ.trans (y1.trans (yr.trans (y2.trans y5)));refine ⟨(show 2<=sizeLine by decide),fun w3 x3=> ?_⟩;have y3:e8 HX (c9 HX w3 (.lst [V.int 0,V.int 1])):=e8.upd_new x3;have z3:(c9 HX w3 (.lst [V.int 0,V.int 1])) w3=some (.lst ((L2.G9 0 2).map V.int)):=c8;generalize (c9 HX w3 (.lst [V.int 0,V.int 1]))=HC at y3 z3 ⊢;refine ⟨(show 1<=sizeLine by decide),fun w4 x4=> ?_⟩;have y4:e8 HC (c9 HC w4 (.lst [V.int 0])):=e8.upd_new x4;have z4:(c9 HC w4 (.lst [V.int 0])) w4=some (.lst ((L2.G9 0 1).map V.int)):=c8;generalize (c9 HC w4 (.lst [V.int 0]))=HD at y4 z4 ⊢;refine ⟨w3,w4,_,_,rfl,⟨y4 _ _ z3,C6 2,by decide⟩,⟨z4,C6 1,by decide⟩,by decide,fun HE y5=>⟨_,rfl,A7 ?_⟩⟩;exact ⟨_,_,_,_,_,_,_,_,_,_,_,_,rfl,s040.trans (sX.trans (y3.trans (y4.trans y5)))⟩
     · refine A7 ?_;refine ⟨(show 2<=sizeLine by decide),fun w3 x3=> ?_⟩;have y3:e8 HZ (c9 HZ w3 (.lst [V.int 0,V.int 1])):=e8.upd_new x3;have z3:(c9 HZ w3 (.lst [V.int 0,V.int 1])) w3=some (.lst ((L2.G9 0 2).map V.int)):=c8;generalize (c9 HZ w3 (.lst [V.int 0,V.int 1]))=HC at y3 z3 ⊢;refine ⟨(show 1<=sizeLine by decide),fun w4 x4=> ?_⟩;have y4:e8 HC (c9 HC w4 (.lst [V.int 0])):=e8.upd_new x4;have z4:(c9 HC w4 (.lst [V.int 0])) w4=some (.lst ((L2.G9 0 1).map V.int)):=c8;generalize (c9 HC w4 (.lst [V.int 0]))=HD at y4 z4 ⊢;refine ⟨w3,w4,_,_,rfl,⟨y4 _ _ z3,C6 2,by decide⟩,⟨z4,C6 1,by decide⟩,by decide,fun HE y5=>⟨_,rfl,A7 ?_⟩⟩;exact ⟨_,_,_,_,_,_,_,_,_,_,_,_,rfl,s040.trans (sZ.trans (y3.trans (y4.trans y5)))⟩
   · have sZ:=s4046.trans sz;refine ⟨rfl,_,rfl,rfl,_,rfl,U9 (congrArg V.bl (show (!decide (V.ref o3=V.non))=decide (ms1=ms2) by rw[decide_eq_true (p:=ms1=ms2) (alike.mpr yes)];rfl)) ?_⟩;refine ⟨_,rfl,pb,_,rfl,.inl (i4.of (sZ _ _ tap2.1)),_,_,rfl,rfl,_,rfl,?_⟩
     refine K7 (fun c5=> ?_) fun c5=> ?_
     · have lt:p2.length < 40:=by have:=of_decide_eq_true c5;rw[ci8] at this;omega
       refine ⟨_,rfl,pb,_,rfl,.inl (i4.of (sZ _ _ tap2.1)),fun w1 x1=> ?_⟩;have y1:e8 HZ (c9 HZ w1 (.lst (p2.map V.int))):=e8.upd_new x1;have z1:(c9 HZ w1 (.lst (p2.map V.int))) w1=some (.lst (p2.map V.int)):=c8;generalize (c9 HZ w1 (.lst (p2.map V.int)))=HA at y1 z1 ⊢;refine ⟨_,rfl,pb,_,rfl,.inl (i4.of (y1 _ _ (sZ _ _ tap2.1))),_,_,rfl,rfl,_,rfl,fun rp nrp=> ?_⟩;have yr:e8 HA (c9 HA rp (.rng 0 (((p2.map V.int).length:Int)+1))):=e8.upd_new nrp;have zr:(c9 HA rp (.rng 0 (((p2.map V.int).length:Int)+1))) rp=some (.rng 0 (((p2.map V.int).length:Int)+1)):=c8;generalize (c9 HA rp (.rng 0 (((p2.map V.int).length:Int)+1)))=HR at yr zr ⊢;refine ⟨rp,_,_,rfl,zr,⟨by decide,by decide,by rw[ci8];omega,by rw[ci8];omega⟩,by rw[ci8];omega,fun w2 x2=> ?_⟩;rw[show (((p2.map V.int).length:Int)+1 - 0).toNat=p2.length+1 by rw[ci8];omega];have y2:e8 HR (c9 HR w2 (.lst ((L2.G9 0 (p2.length+1)).map V.int))):=e8.upd_new x2;have z2:(c9 HR w2 (.lst ((L2.G9 0 (p2.length+1)).map V.int))) w2=some (.lst ((L2.G9 0 (p2.length+1)).map V.int)):=c8;generalize (c9 HR w2 (.lst ((L2.G9 0 (p2.length+1)).map V.int)))=HB at y2 z2 ⊢;refine ⟨w1,w2,p2,_,rfl,⟨y2 _ _ (yr _ _ z1),tap2.2⟩,⟨z2,C6 _,by rw[A0];omega⟩,by rw[A0];omega,fun HX y5=>⟨_,rfl,A7 ?_⟩⟩;have sX:=sZ.trans (y1.trans (yr.trans (y2.trans y5)));refine ⟨(show 2<=sizeLine by decide),fun w3 x3=> ?_⟩;have y3:e8 HX (c9 HX w3 (.lst [V.int 0,V.int 1])):=e8.upd_new x3;have z3:(c9 HX w3 (.lst [V.int 0,V.int 1])) w3=some (.lst ((L2.G9 0 2).map V.int)):=c8;generalize (c9 HX w3 (.lst [V.int 0,V.int 1]))=HC at y3 z3 ⊢;refine ⟨(show 1<=sizeLine by decide),fun w4 x4=> ?_⟩;have y4:e8 HC (c9 HC w4 (.lst [V.int 0])):=e8.upd_new x4;have z4:(c9 HC w4 (.lst [V.int 0])) w4=some (.lst ((L2.G9 0 1).map V.int)):=c8;generalize (c9 HC w4 (.lst [V.int 0]))=HD at y4 z4 ⊢;refine ⟨w3,w4,_,_,rfl,⟨y4 _ _ z3,C6 2,by decide⟩,⟨z4,C6 1,by decide⟩,by decide,fun HE y5=>⟨_,rfl,A7 ?_⟩⟩;exact ⟨_,_,_,_,_,_,_,_,_,_,_,_,rfl,s040.trans (sX.trans (y3.trans (y4.trans y5)))⟩
     · refine A7 ?_;refine ⟨(show 2<=sizeLine by decide),fun w3 x3=> ?_⟩;have y3:e8 HZ (c9 HZ w3 (.lst [V.int 0,V.int 1])):=e8.upd_new x3;have z3:(c9 HZ w3 (.lst [V.int 0,V.int 1])) w3=some (.lst ((L2.G9 0 2).map V.int)):=c8;generalize (c9 HZ w3 (.lst [V.int 0,V.int 1]))=HC at y3 z3 ⊢;refine ⟨(show 1<=sizeLine by decide),fun w4 x4=> ?_⟩;have y4:e8 HC (c9 HC w4 (.lst [V.int 0])):=e8.upd_new x4;have z4:(c9 HC w4 (.lst [V.int 0])) w4=some (.lst ((L2.G9 0 1).map V.int)):=c8;generalize (c9 HC w4 (.lst [V.int 0]))=HD at y4 z4 ⊢;refine ⟨w3,w4,_,_,rfl,⟨y4 _ _ z3,C6 2,by decide⟩,⟨z4,C6 1,by decide⟩,by decide,fun HE y5=>⟨_,rfl,A7 ?_⟩⟩;exact ⟨_,_,_,_,_,_,_,_,_,_,_,_,rfl,s040.trans (sZ.trans (y3.trans (y4.trans y5)))⟩
end
end My
namespace My
open PySem L2 Mth
theorem bn1 {P:List Value->Prop}(h:∀x0,P [x0]):∀us:List Value,us.length=1->P us
 |[_],_=>h _
theorem bn2 {P:List Value->Prop}(h:∀x0 x1,P [x0,x1]):∀us:List Value,us.length=2->P us
 |[_,_],_=>h _ _
theorem bn3 {P:List Value->Prop}(h:∀x0 x1 x2,P [x0,x1,x2]):∀us:List Value,us.length=3->P us
 |[_,_,_],_=>h _ _ _
theorem ci6 {l:PySem.W.OpenLaw}{w:World}{K:PySem.W.Frag}{h:Heap}{mg:Str->Option Value}{fa f0 f1 f2 f3 f4 f5 f6 f7 f8 f9 f10 f11 f12 f13 f14 f15 f16 f17 f18 f19 f20 f21 f22:Addr}{zy zzy zzz:Addr}{tk0:Tok}(X:K.In h)(G:h.Ns mainGlobals mg)(hfa:mg "law"=some (.ref fa))
   (u0:Fu K "is_whole" Z4 f0)
   (u1:Fu K "walk_ring" W1 f1)
   (u2:Fu K "walk_rings" T5 f2)
   (u3:Fu K "send_over" W2 f3)
   (u4:Fu K "sort_by_length" K8 f4)
   (u5:Fu K "is_turn" O9 f5)
   (u6:Fu K "must_be_turn" E8 f6)
   (u7:Fu K "must_fit" M2 f7)
   (u8:Fu K "rounds_of" K1 f8)
   (u9:Fu K "kind_of" ac5 f9)
   (u10:Fu K "named_anew" M3 f10)
   (u11:Fu K "_law_pool" Z5 f11)
   (u12:Fu K "_law_draw" Z6 f12)
   (u13:Fu K "_law_turn" Z7 f13)
   (u14:Fu K "_law_behind" T6 f14)
   (u15:Fu K "_law_back" M4 f15)
   (u16:Fu K "_law_lengths" Q2 f16)
   (u17:Fu K "_law_put" ac7 f17)
   (u18:Fu K "_law_all" ac6 f18)
   (u19:Fu K "_law_makes" W3 f19)
   (u20:Fu K "_law_greedy" T7 f20)
   (u21:Fu K "_law_no_fit" T8 f21)
   (u22:Fu K "law" ae7 f22)
   (m0:PySem.W.nsIn K mainGlobals "MOST_THINGS"=some (some (.int 40 tk0)))
   (zz:Fre K ["len","isinstance","int","bool","list","range","sum","min","max","enumerate","zip","sorted","tuple","str","repr","all","any","set","dict","ValueError"])
   (uT:PySem.W.nsIn K mainGlobals "TurnError"=some (some (.ref zy)))
   (uTb:PySem.W.mroIn K zy (.type "BaseException")=some true)
   (uTc:PySem.W.isClsIn K zy=true)
   (uTt:PySem.W.typeIn K (.ref zy)=some (.type "type"))
   (uG:PySem.W.specialIn K (.builtin "object.__class__") "__get__"=some (some (.builtin "getset_descriptor.__get__")))
   (uK:PySem.W.takesIn K (.builtin "object.__class__")=some true)
   (uC:am9 K zy [(("NoTurn":Str),zzy),(("NoFit":Str),zzz)])
   (uP:an0 K [(("NoTurn":Str),zzy),(("NoFit":Str),zzz)] 0 [(("NoTurn":Str),zzy),(("NoFit":Str),zzz)])
   :∃fd:FuncData,(∀(s:Shared) (v:Value),BindsTo s fd ⟨[v],[]⟩ [("script",v)])/\∀base:Heap,K.In base->base.Ns mainGlobals mg->j9 l.prog w K mg base C8 8 fa fd ["script"] (ar3 K):=by
 obtain ⟨d0,a0,F0⟩:=u0;obtain ⟨d1,a1,F1⟩:=u1;obtain ⟨d2,a2,F2⟩:=u2;obtain ⟨d3,a3,F3⟩:=u3;obtain ⟨d4,a4,F4⟩:=u4;obtain ⟨d5,a5,F5⟩:=u5;obtain ⟨d6,a6,F6⟩:=u6;obtain ⟨d7,a7,F7⟩:=u7;obtain ⟨d8,a8,F8⟩:=u8;obtain ⟨d9,a9,F9⟩:=u9;obtain ⟨d10,a10,F10⟩:=u10;obtain ⟨d11,a11,F11⟩:=u11;obtain ⟨d12,a12,F12⟩:=u12;obtain ⟨d13,a13,F13⟩:=u13;obtain ⟨d14,a14,F14⟩:=u14;obtain ⟨d15,a15,F15⟩:=u15;obtain ⟨d16,a16,F16⟩:=u16;obtain ⟨d17,a17,F17⟩:=u17;obtain ⟨d18,a18,F18⟩:=u18;obtain ⟨d19,a19,F19⟩:=u19;obtain ⟨d20,a20,F20⟩:=u20;obtain ⟨d21,a21,F21⟩:=u21;obtain ⟨d22,a22,F22⟩:=u22;have e:=hfa.symm.trans (PySem.W.mg_of X G a22);cases e;obtain ⟨z0,z1,z2,z3,z4,z5,z6,z7,z8,z9,z10,z11,z12,z13,z14,z15,z16,z17,z18,z19,_⟩:=zz;have zn {y:Str} (z:PySem.W.nsIn K mainGlobals y=some none):=PySem.W.mg_none_of X G z;have B:Bl mg:=⟨zn z0,zn z1,zn z2,zn z3,zn z4,zn z5,zn z6,zn z7,zn z8,zn z9,zn z10,zn z11,zn z12,zn z13,zn z14,zn z15,zn z16,zn z17,zn z18,zn z19⟩;have mt:∃t,mg "MOST_THINGS"=some (.int 40 t):=⟨_,PySem.W.mg_of X G m0⟩;have ER:au1 K mg zy [(("NoTurn":Str),zzy),(("NoFit":Str),zzz)]:=bk1 X G uT uTb uTc uTt uG uK uC uP (show (["NoTurn","NoFit"]:List Str).Nodup by decide+kernel)
 have ES:∀p∈[(("NoTurn":Str),zzy),(("NoFit":Str),zzz)],cg7 K p.2:=fun p hp=>⟨(uC.get p hp).s,(uC.get p hp).b⟩
 have zny:Err K mg "NoTurn" zzy:=ER.err ("NoTurn",zzy) (by simp);have zm:Err K mg "NoFit" zzz:=ER.err ("NoFit",zzz) (by simp)
 have b0:=F0.binds (ps:=["thing"]) fun _ _ _ _ _ _=>bn1 fun _=>rfl
 have b1:=F1.binds (ps:=["p","first"]) fun _ _ _ _ _ _=>bn2 fun _ _=>rfl
 have b2:=F2.binds (ps:=["p"]) fun _ _ _ _ _ _=>bn1 fun _=>rfl
 have b3:=F3.binds (ps:=["target","ring","image"]) fun _ _ _ _ _ _=>bn3 fun _ _ _=>rfl
 have b4:=F4.binds (ps:=["rings"]) fun _ _ _ _ _ _=>bn1 fun _=>rfl
 have b5:=F5.binds (ps:=["thing"]) fun _ _ _ _ _ _=>bn1 fun _=>rfl
 have b6:=F6.binds (ps:=["thing"]) fun _ _ _ _ _ _=>bn1 fun _=>rfl
 have b7:=F7.binds (ps:=["p","q"]) fun _ _ _ _ _ _=>bn2 fun _ _=>rfl
 have b8:=F8.binds (ps:=["p"]) fun _ _ _ _ _ _=>bn1 fun _=>rfl
 have b9:=F9.binds (ps:=["p"]) fun _ _ _ _ _ _=>bn1 fun _=>rfl
 have b10:=F10.binds (ps:=["p","q"]) fun _ _ _ _ _ _=>bn2 fun _ _=>rfl
 have b11:=F11.binds (ps:=["script","k"]) fun _ _ _ _ _ _=>bn2 fun _ _=>rfl
 have b12:=F12.binds (ps:=["pool","many"]) fun _ _ _ _ _ _=>bn2 fun _ _=>rfl
 have b13:=F13.binds (ps:=["pool","many"]) fun _ _ _ _ _ _=>bn2 fun _ _=>rfl
 have b14:=F14.binds (ps:=["p","q"]) fun _ _ _ _ _ _=>bn2 fun _ _=>rfl
 have b15:=F15.binds (ps:=["p"]) fun _ _ _ _ _ _=>bn1 fun _=>rfl
 have b16:=F16.binds (ps:=["p"]) fun _ _ _ _ _ _=>bn1 fun _=>rfl
 have b17:=F17.binds (ps:=["rows","thing"]) fun _ _ _ _ _ _=>bn2 fun _ _=>rfl
 have b18:=F18.binds (ps:=["many"]) fun _ _ _ _ _ _=>bn1 fun _=>rfl
 have b19:=F19.binds (ps:=["s","p","q"]) fun _ _ _ _ _ _=>bn3 fun _ _ _=>rfl
 have b20:=F20.binds (ps:=["p","q"]) fun _ _ _ _ _ _=>bn2 fun _ _=>rfl
 have b21:=F21.binds (ps:=["p","q"]) fun _ _ _ _ _ _=>bn2 fun _ _=>rfl
 obtain ⟨oc,od,kV,dc,pm,an,cd,ct,sl,rfl,lk,hcd⟩:=id F22.ex;refine ⟨PySem.W.fnOf "law" "law" (R4 ae7) (L0 ae7) (j5 ae7) .none kV dc pm an cd ct,fun s v=> .of_eq rfl,fun base _ _=> ?_⟩;have zry:p6 l.prog w K mg base "is_whole" 1 ["thing"] (ae8 K):=y6 X G a0 F0 b0 (bp5 F0 B);have zky:p6 l.prog w K mg base "walk_ring" 1 ["p","first"] av2:=y6 X G a1 F1 b1 (bv5 F1);have zxy:p6 l.prog w K mg base "walk_rings" 2 ["p"] L6:=y6 X G a2 F2 b2 (bp6 F2 B zky);have zsz:p6 l.prog w K mg base "send_over" 1 ["target","ring","image"] av9:=y6 X G a3 F3 b3 (aw0 F3 B);have zxz:p6 l.prog w K mg base "sort_by_length" 1 ["rings"] an3:=y6 X G a4 F4 b4 (bp8 F4 B);have zwy:p6 l.prog w K mg base "is_turn" 2 ["thing"] (ah4 T9 (af0 K)):=y6 X G a5 F5 b5 (br6 (bk2 F5 B mt zry) (bd5 F5 B mt zry));have zqy:Q1 l.prog w K mg base "must_be_turn" 3 ["thing"] (fun vs H Q E=>U0 vs H Q E\/(R7 K zzy) vs H Q E):=ae6 X G a6 F6 b6 (j9.or (j9.lift (ba5 F6 (br7 zwy))) (ah8 F6 zwy zny));have zzx:p6 l.prog w K mg base "must_be_turn" 3 ["thing"] U0:=y6 X G a6 F6 b6 (ba5 F6 (br7 zwy));have zkx:Q1 l.prog w K mg base "must_fit" 1 ["p","q"] (fun vs H Q E=>(ak3 K) vs H Q E\/(aw4 zzz) vs H Q E):=ae6 X G a7 F7 b7 (j9.or (j9.lift (bk4 F7 B)) (aw5 F7 B zm));have zu:p6 l.prog w K mg base "must_fit" 1 ["p","q"] (ak3 K):=y6 X G a7 F7 b7 (bk4 F7 B);have cx_rounds_of:Q1 l.prog w K mg base "rounds_of" 4 ["p"] (fun vs H Q E=>L6 vs H Q E\/(R7 K zzy) vs H Q E):=ae6 X G a8 F8 b8 (j9.or (j9.lift (ag0 F8 zzx zxy)) (aq5 F8 zqy));have zj:p6 l.prog w K mg base "rounds_of" 4 ["p"] L6:=y6 X G a8 F8 b8 (ag0 F8 zzx zxy);have zsx:p6 l.prog w K mg base "kind_of" 5 ["p"] av3:=y6 X G a9 F9 b9 (bv7 F9 B B.sorted zj);have zlz:Q1 l.prog w K mg base "named_anew" 6 ["p","q"] (fun vs H Q E=>X7 vs H Q E\/(ai0 zzz) vs H Q E):=ae6 X G a10 F10 b10 (j9.or (j9.lift (aa7 F10 B zzx zu zsx zxz zxy zsz)) (an5 F10 zqy zkx));have zxx:p6 l.prog w K mg base "named_anew" 6 ["p","q"] X7:=y6 X G a10 F10 b10 (aa7 F10 B zzx zu zsx zxz zxy zsz);have zpx:p6 l.prog w K mg base "_law_pool" 1 ["script","k"] (au9 K):=y6 X G a11 F11 b11 (bv2 F11 B);have zwx:p6 l.prog w K mg base "_law_draw" 1 ["pool","many"] ak4:=y6 X G a12 F12 b12 (bv3 F12);have zv:p6 l.prog w K mg base "_law_turn" 2 ["pool","many"] av1:=y6 X G a13 F13 b13 (bv4 F13 B zwx);have zyz:p6 l.prog w K mg base "_law_behind" 1 ["p","q"] Z8:=y6 X G a14 F14 b14 (av4 F14);have zrx:p6 l.prog w K mg base "_law_back" 1 ["p"] (ah4 an1 an8):=y6 X G a15 F15 b15 (br6 (bd3 F15 B) (ay1 F15 B));have zyx:p6 l.prog w K mg base "_law_lengths" 1 ["p"] ak6:=y6 X G a16 F16 b16 (bv8 F16 B);have zoy:p6 l.prog w K mg base "_law_put" 1 ["rows","thing"] bd7:=y6 X G a17 F17 b17 (bd8 F17 B);have zox:p6 l.prog w K mg base "_law_all" 2 ["many"] bd9:=y6 X G a18 F18 b18 (be0 F18 B zoy);have zpz:p6 l.prog w K mg base "_law_makes" 2 ["s","p","q"] an7:=y6 X G a19 F19 b19 (aw7 F19 zyz);have zqz:p6 l.prog w K mg base "_law_greedy" 2 ["p","q"] ai2:=y6 X G a20 F20 b20 (aq6 F20 B zyx);have zux:p6 l.prog w K mg base "_law_no_fit" 7 ["p","q"] an6:=y6 X G a21 F21 b21 (aq7 F21 zlz ER)
 exact cb0 F22 B zpx zwx zv zyz zrx zox zpz zxx zwy zqz zyx zux
theorem ci7 {l:PySem.W.OpenLaw}{q:Program}{loose:List Str}{XP:(Str->Option Value)->Heap->Prop}{YP:World->Heap->Prop}{d:DefRec}{K:Params->PySem.W.Frag}(hn:l.most=some 63)(hdf:d.params.defaults=[])
   (hY:∀(w:World) (h:Heap),YP w h->(K w.params).In h)
   (F:∀(w:World) (mg:Str->Option Value) (fa:Addr) (h:Heap),(K w.params).In h->h.Ns mainGlobals mg->mg d.name=some (.ref fa)->
     ∃fd:FuncData,(∀(s:Shared) (u:Value),BindsTo s fd ⟨[u],[]⟩ [("script",u)])/\∀base:Heap,(K w.params).In base->base.Ns mainGlobals mg->j9 l.prog w (K w.params) mg base C8 8 fa fd ["script"] (ar3 (K w.params))):
   PySem.W.WalkO q loose XP YP l.row.toRowW d [] (fun f vs=>PySem.call f vs):=
 L2.ch6 (n:=63) (k:=8) (x:="script") (CX:=fun _=>C8) (sp:=fun w=>ar3 (K w.params)) hn (by decide) hdf ⟨rfl,by decide,by decide,rfl⟩ hY F (fun _ _ a ns hl _ hS=>⟨a,ns,rfl,hS,hl,fun _=>rfl⟩) fun _ _ _ _ _ z=>z
end My
end
open PySem PySem.W PyProof.Rows L2
set_option maxRecDepth 100000 in
set_option maxHeartbeats 0 in
theorem PySem.Challenge.cw_turnroots_k29_named_anew_holds : PySem.Challenge.rw_turnroots_k29_named_anew.Holds := by
  w_on; o_law; k_head; (case hw => w_witness2)
  k_fill
  refine My.ci7 (l := PySem.Challenge.rw_turnroots_k29_named_anew) rfl rfl (fun w h Y => PySem.W.kIn_of Y) ?F
  case F =>
    intro w mg fa h KX G hmg
    refine' My.ci6 KX G hmg ?_ ?_ ?_ ?_ ?_ ?_ ?_ ?_ ?_ ?_ ?_ ?_ ?_ ?_ ?_ ?_ ?_ ?_ ?_ ?_ ?_ ?_ ?_ ?_ ?_ ?_ ?_ ?_ ?_ ?_ ?_ ?_ ?_
    all_goals first
      | k_is
      | (refine' cd3 ?a ?l ?c ?k; (case a => k_is); (case l => k_is); (case c => k_is); (case k => k_is))
      | ((repeat (refine' And.intro (ClF.mk ?n ?e ?g ?h ?c ?b ?o ?i ?t ?u ?v ?s) ?_; (case n => k_is); (case e => k_exc); (case g => k_is); (case h => k_is); (case c => k_is); (case b => k_is); (case o => k_is); (case i => k_is); (case t => k_is); (case u => k_is); (case v => k_is); (case s => k_is))); exact trivial)
      | ((repeat (refine' And.intro ?n ?_; (case n => k_is))); exact trivial)
      | ((repeat (refine' And.intro ?zp ?_; (case zp => ((repeat (refine' And.intro ?n ?_; (case n => k_is))); exact trivial)))); exact trivial)
      | skip
#print axioms PySem.Challenge.cw_turnroots_k29_named_anew_holds
