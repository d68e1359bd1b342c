import PyProof.Rows.All
import Wide.All
import OpenK.AllK
import Wide.FinOn
import Lean
import PyProof.EqAt
import PyProof.EqKinds
import PyProof.TupleCall
import PyProof.NeKinds
import PyProof.EnumMake
import PyProof.Rows.SeqMore2
import PyProof.ZipIter
import PyProof.Rows.SortRev
import PyProof.Rows.SortWalk
import PyProof.Rows.CallKwBuiltin
import PyProof.DictIter
import PyProof.DictWalks
import PyProof.MeetsDict
import PyProof.Conv_int_bool
import PyProof.EqAt
import PyProof.CollectWalk
import PyProof.Rows.SortShell
import PyProof.Rows.Range3
import PyProof.CallFns
import PyProof.StrBlockH
import PySem.Challenge.RW_turnroots_k05_turns_refused
open List renaming length_map→cc4, getElem?_eq_some_iff→cc5, getElem?_eq_getElem→cc6, length_append→cc7, size_toArray→cc8, mem_cons_of_mem→cc9, mem_cons_self→cd0, mem_append→cd2, mem_append_right→cd4, length_cons→cd6, mem_of_getElem?→cd7, mem_singleton→cd9, mem_cons→ce0, nodup_iff_pairwise_ne→ce2, getElem?_map→ce3, length_take→ce4, map_cons→ce5, map_append→ce6, getElem_mem→ce7, replicate→ce8, lookup_cons→cf0, getElem?_take_of_lt→cf3, length_singleton→cf4, mem_map→cf5, length_drop→cf6, take_length→cf7, mem_append_left→cf8, mem_range→cf9, range→cg1, filterMap_cons→cg2, nodup_cons→cg3, replicate_succ→cg4, getElem?_append_right→cg5, getElem?_append_left→cg7, all_eq_true→cg8, getElem?_eq_none→cg9, flatten_cons→ch0, map_map→ch2, not_mem_nil→ch3, getD_eq_getElem?_getD→ch5, mem_iff_getElem?→ch6, pairwise_iff_getElem→ch7, mem_of_mem_take→ch8, map_congr_left→ch9, flatten_append→ci0, map_nil→ci2, getElem?_set_self→ci4, append_nil→ci6, find?_cons→ci7, take_of_length_le→ci8, flatten_singleton→ci9, length_replicate→cj0, length_range→cj1, getElem?_set_ne→cj2, length_set→cj3, nodup_nil→cj4, pairwise_map→cj6, any_cons→cj8, take_append_drop→cj9, mem_flatten→ck0, mem_of_mem_drop→ck3, mem_filterMap→ck7, append_assoc→ck9, ext_getElem?→cl2, mem_or_eq_of_mem_set→cl3, getElem?_replicate→cl6, map_set→cl8, of_mem_zip→cl9, length_nil→cm0, range_succ→cm1, map_id→cm4, sum_cons→cm5
open Bool renaming false_ne_true→cd1, and_eq_true→ce9, eq_iff_iff→ci5, or_eq_true→cm2, and_true→cm6
open Nat renaming le_trans→cd3, le_refl→cd5, lt_of_lt_of_le→cd8, ne_of_lt→ce1, le_of_lt→cf2, zero_le→cg0, lt_irrefl→cg6, ne_of_gt→ci1, lt_of_le_of_lt→ci3, log2_lt→ck1, log2_zero→ck2, mul_le_mul_right→ck4, add_comm→ck5, add_le_add_left→ck6, lt_succ_of_lt→cl1, succ_mul→cl7, min_eq_left→cm3
open Int renaming eq_ofNat_of_zero_le→cf1, emod_nonneg→ch1, emod_lt_of_pos→ch4, toNat_natCast→cj5, toNat→cj7, fdiv_eq_ediv_of_nonneg→ck8, natCast_emod→cl5
open Option renaming isSome_map→cl0, isSome_iff_exists→cl4
set_option Elab.async false
set_option linter.all false
set_option maxRecDepth 100000
set_option maxHeartbeats 8000000
section
local macro_rules|`(tactic|omega)=>`(tactic|lia)
local macro_rules|`(tactic|trivial)=>`(tactic|first|exact .inl rfl|exact .inr rfl|assumption)
local macro_rules|`(tactic|rfl')=>`(tactic|exact ⟨rfl,rfl,rfl,by decide+kernel,rfl,by decide+kernel,by decide+kernel⟩)
namespace L2
open PySem PySem.Spec PyProof.Rows
abbrev x6:=Sum Int Str
def W4:x6->Value->Bool
 | .inl k,v=>Value.isInt k v
 | .inr x,v=>Value.isStrOf x v
def by9 (w:World):x6->Int
 | .inl k=>hashInt k
 | .inr x=>hashStr w x
theorem B7:∀{k:x6} {v:Value},W4 k v=true->(∃i t,k=Sum.inl i/\v=Value.int i t)\/(∃x t,k=Sum.inr x/\v=Value.str x t)
 | .inl i,v,h=>by
   obtain ⟨t,e⟩:=Value.isInt_shape (k:=i) (v:=v) h;exact .inl ⟨i,t,rfl,e⟩
 | .inr x,v,h=>by
   obtain ⟨t,e⟩:=Value.isStrOf_shape (x:=x) (v:=v) h;exact .inr ⟨x,t,rfl,e⟩
theorem ay9 (i:Int)(t:Tok):W4 (.inl i) (.int i t)=true:=by simp [W4,Value.isInt]
theorem az0 (x:Str)(t:Tok):W4 (.inr x) (.str x t)=true:=by simp [W4,Value.isStrOf]
theorem br0 (a b:Int):decide ((Sum.inl a:x6)=Sum.inl b)=(a==b):=by
 by_cases e:a=b
 · subst e;simp
 · have h:¬(Sum.inl a:x6)=Sum.inl b:=fun q=>e (Sum.inl.inj q)
   rw[decide_eq_false h];exact (beq_eq_false_iff_ne.mpr e).symm
theorem br1 (a b:Str):decide ((Sum.inr a:x6)=Sum.inr b)=decide (a=b):=by
 by_cases e:a=b
 · subst e;simp
 · have h:¬(Sum.inr a:x6)=Sum.inr b:=fun q=>e (Sum.inr.inj q)
   rw[decide_eq_false h,decide_eq_false e]
theorem br2 (a:Int)(b:Str):decide ((Sum.inl a:x6)=Sum.inr b)=false:=decide_eq_false (fun q=>nomatch q)
theorem br3 (a:Str)(b:Int):decide ((Sum.inr a:x6)=Sum.inl b)=false:=decide_eq_false (fun q=>nomatch q)
def A8 (prog:Program)(w:World):PySem.KeyKind prog w x6 where
 is:=W4
 hash:=by9 w
 inj:=fun v a b ha hb=>by
   rcases B7 ha with ⟨i,t,rfl,rfl⟩|⟨x,t,rfl,rfl⟩
   · rcases B7 hb with ⟨j,u,rfl,e⟩|⟨y,u,rfl,e⟩
     · injection e with e1 _;rw[e1]
     · exact nomatch e
   · rcases B7 hb with ⟨j,u,rfl,e⟩|⟨y,u,rfl,e⟩
     · exact nomatch e
     · injection e with e1 _;rw[e1]
 byValue:=fun k v h=>by
   rcases B7 h with ⟨i,t,rfl,rfl⟩|⟨x,t,rfl,rfl⟩<;>rfl
 pyHash:=fun hv h=>by
   rcases B7 hv with ⟨i,t,rfl,rfl⟩|⟨x,t,rfl,rfl⟩
   · exact wpAny_pyHash_int h
   · exact wpAny_pyHash_str h
 eqBool:=fun hu hv h=>by
   rcases B7 hu with ⟨i,t,rfl,rfl⟩|⟨x,t,rfl,rfl⟩
   · rcases B7 hv with ⟨j,u,rfl,rfl⟩|⟨y,u,rfl,rfl⟩
     · rw[br0] at h;exact wpAny_eqBool_int h
     · rw[br2] at h;exact SeqAt.EqAt.int_str i t y u _ _ _ _ h
   · rcases B7 hv with ⟨j,u,rfl,rfl⟩|⟨y,u,rfl,rfl⟩
     · rw[br3] at h;exact SeqAt.EqAt.str_int x t j u _ _ _ _ h
     · rw[br1] at h;exact wpAny_eqBool_str h
 «strs»:=fun k x t v h=>by
   rcases B7 h with ⟨i,u,rfl,e⟩|⟨y,u,rfl,e⟩
   · exact nomatch e
   · injection e with e1 _
     subst e1
     cases v<;>rfl
theorem ar5 (prog:Program)(w:World)(i:Int)(t:Tok):(A8 prog w).is (.inl i) (.int i t)=true:=ay9 i t
theorem ar6 (prog:Program)(w:World)(x:Str)(t:Tok):(A8 prog w).is (.inr x) (.str x t)=true:=az0 x t
end L2
namespace L2
open PySem PySem.Spec PyProof.Rows
inductive V where
 |non|bl (b:Bool)|int (i:Int)|str (x:Str)|byt (b:Array UInt8)|flt (b:UInt64)|ref (a:Addr)|ty (n:String)
 deriving DecidableEq
def o9:V->Value->Prop
 | .non,u=>u=Value.none
 | .bl b,u=>u=Value.bool b
 | .int i,u=>∃t,u=Value.int i t
 | .str x,u=>∃t,u=Value.str x t
 | .byt b,u=>∃t,u=Value.bytes b t
 | .flt b,u=>∃t,u=Value.float b t
 | .ref a,u=>u=Value.ref a
 | .ty n,u=>u=Value.type n
abbrev k7:List V->List Value->Prop:=Paired o9
theorem k7.length {xs:List V}{us:List Value}(r:k7 xs us):xs.length=us.length:=Paired.length r
theorem k7.get:∀{xs:List V} {us:List Value} {i:Nat} {x:V},k7 xs us->xs[i]? =some x->∃u,us[i]? =some u/\o9 x u
 |_,_,_,_,.nil,e=>by simp at e
 |_,_,0,_,.cons r _,e=>by simp at e;subst e;exact ⟨_,rfl,r⟩
 |_,_,i+1,x,.cons _ t,e=>by
  obtain ⟨u,h1,h2⟩:=k7.get (i:=i) (x:=x) t (by simpa using e);exact ⟨u,by simpa using h1,h2⟩
theorem k7.set {x:V}{u:Value}(r:o9 x u):∀{xs:List V} {us:List Value} (i:Nat),k7 xs us->k7 (xs.set i x) (us.set i u)
 |_,_,_,.nil=> .nil
 |_,_,0,.cons _ t=> .cons r t
 |_,_,i+1,.cons q t=> .cons q (k7.set r i t)
theorem k7.append:∀{xs ys:List V} {us ws:List Value},k7 xs us->k7 ys ws->k7 (xs++ys) (us++ws)
 |_,_,_,_,.nil,s=>s
 |_,_,_,_,.cons r t,s=> .cons r (k7.append t s)
theorem k7.take:∀{xs:List V} {us:List Value} (n:Nat),k7 xs us->k7 (xs.take n) (us.take n)
 |_,_,0,_=> .nil
 |_,_,_+1,.nil=> .nil
 |_,_,n+1,.cons r t=> .cons r (k7.take n t)
theorem k7.drop:∀{xs:List V} {us:List Value} (n:Nat),k7 xs us->k7 (xs.drop n) (us.drop n)
 |_,_,0,r=>r
 |_,_,_+1,.nil=> .nil
 |_,_,n+1,.cons _ t=>k7.drop n t
def ac0:Option V->Option Value->Prop
 |some v,some u=>o9 v u
 |none,none=>True
 |_,_=>False
def KV {κ:Type}:List (κ×V)->List (κ×Value)->Prop:=Paired fun (p:κ×V) (q:κ×Value)=>p.1=q.1/\o9 p.2 q.2
def kV:x6->V
 | .inl i=> .int i
 | .inr x=> .str x
inductive HO where
 |lst (xs:List V)
 |tup (xs:List V)
 |dK (kvs:List (x6×V))|dT (kvs:List (List x6×V))
 |set (S:Int->Bool) (n:Nat)
 |ins (C dx:Addr) (fs:List (Str×V))
 |own (x:Addr)
 |xd (fs:List (Str×V))
 |met (f x:Addr)
 |rng (lo hi:Int)
 |frz (o:Obj) (u:HO)
 |tbl (ps:Array Value)
 |ext (φ:Heap->Prop)
abbrev Hp:=Addr->Option HO
def c8 (H:Hp)(a:Addr)(o:HO):Hp:=fun b=>if b=a then some o else H b
theorem c7 {H:Hp}{a:Addr}{o:HO}:c8 H a o a=some o:=by unfold c8;rw[if_pos rfl]
theorem i6 {H:Hp}{a b:Addr}{o:HO}(h:b≠a):c8 H a o b=H b:=by unfold c8;rw[if_neg h]
theorem bk2 {H:Hp}{a b:Addr}{o u:HO}(h:H a=some o)(h':H b=some u)(d:o≠u):a≠b:=by
 intro e;subst e;rw[h] at h';exact d (Option.some.inj h')
theorem i7 {H:Hp}{a b:Addr}{o:HO}(h:H a=some o)(h':H b=none):a≠b:=by
 intro e;subst e;rw[h] at h';cases h'
section
variable (P:Program) (w:World)
def A1 (H:Hp)(h:Heap)(a:Addr):HO->Prop
 | .lst xs=>xs.length<=sizeLine/\∃(its:List Value) (n:Nat),k7 xs its/\h.get? a=some {cls:= .type "list",data:= .seq its.toArray n}
 | .tup xs=>xs.length<=sizeLine/\∃its:List Value,k7 xs its/\IsTup h a its.toArray
 | .dK kvs=>kvs.length<=sizeLine/\(a==sysModules)=false/\∃vs,KV kvs vs/\h.DictOf (A8 P w) a vs
 | .dT kvs=>kvs.length<=sizeLine/\(a==sysModules)=false/\∃xs:List (List x6×Addr×Value),
     Paired (fun (p:List x6×V) (q:List x6×Addr×Value)=>p.1=q.1/\H q.2.1=some (.tup (p.1.map kV))/\o9 p.2 q.2.2) kvs xs/\
     ∃o es ep,h.get? a=some o/\o.ExactDict/\o.data= .dict es ep/\es.toList=xs.map (entryOfKey (tupleKind (A8 P w)))/\(xs.map (·.1)).Nodup
 | .set S n=>h.SetOf (intKind P w) a S n
 | .ins C dx fs=>H dx=some (.own a)/\fs.length<=1000/\dx≠a/\h.get? a=some (PySem.W.instObj C dx)/\
     ∃mA,h.Ns1 dx mA/\(∀f,ac0 (fs.lookup f) (mA f))/\PySem.Within mA (fs.map (·.1))
 | .own _=>∃o,h.get? a=some o
 | .xd fs=>∃mA,h.Ns1 a mA/\∀f,ac0 (fs.lookup f) (mA f)
 | .rng lo hi=>∃t u v,h.get? a=some {cls:= .type "range",data:= .fields #[.int lo t,.int hi u,.int 1 v]}
 | .frz o u=>h.get? a=some o/\A1 H h a u
 | .tbl ps=>h.get? a=some {cls:= .none,data:= .fields ps}
 | .met f x=>h.get? a=some (PySem.W.methodObj (.ref f) (.ref x))
 | .ext φ=>φ h/\(∃o,h.get? a=some o)/\∀h1 h2:Heap,φ h1->(∀o,h1.get? a=some o->h2.get? a=some o)->φ h2
def B8 (H:Hp)(h:Heap):Prop:=∀a o,H a=some o->A1 P w H h a o
end
section
variable {P:Program} {w:World} {H H':Hp} {h h':Heap} {a:Addr} {o:HO}
theorem A1.lt (x:A1 P w H h a o):a < h.objs.size:=by
 cases o with
 |lst xs=>obtain ⟨_,_,_,_,e⟩:=x;exact Heap.lt_size e
 |tup xs=>obtain ⟨_,_,_,p⟩:=x;exact p.lt
 |dK kvs=>obtain ⟨_,_,_,_,o,_,_,e,_⟩:=x;exact Heap.lt_size e
 |dT kvs=>obtain ⟨_,_,_,_,o,_,_,e,_⟩:=x;exact Heap.lt_size e
 |set S n=>obtain ⟨o,_,_,_,e,_⟩:=x;exact Heap.lt_size e
 |ins C dx fs=>obtain ⟨_,_,_,e,_⟩:=x;exact Heap.lt_size e
 |own y=>obtain ⟨_,e⟩:=x;exact Heap.lt_size e
 |xd fs=>obtain ⟨_,⟨_,_,_,e,_⟩,_⟩:=x;exact Heap.lt_size e
 |rng lo hi=>obtain ⟨_,_,_,e⟩:=x;exact Heap.lt_size e
 |frz ob u=>obtain ⟨e,_⟩:=x;exact Heap.lt_size e
 |tbl ps=>exact Heap.lt_size (show h.get? a=some _ from x)
 |met f y=>exact Heap.lt_size (show h.get? a=some _ from x)
 |ext φ=>obtain ⟨_,⟨_,e⟩,_⟩:=x;exact Heap.lt_size e
theorem Paired.mapP {α β:Type}{F G:α->β->Prop}:∀{l₁:List α} {l₂:List β},Paired F l₁ l₂->(∀a b,F a b->G a b)->Paired G l₁ l₂
 |_,_,.nil,_=> .nil
 |_,_,.cons r t,f=> .cons (f _ _ r) (Paired.mapP t f)
theorem A1.stay (x:A1 P w H h a o)(k:∀b u,(b=a\/H b=some (.own a))->h.get? b=some u->h'.get? b=some u)
   (ho:∀b,H b=some (.own a)->H' b=some (.own a)) (ht:∀b xs,H b=some (.tup xs)->H' b=some (.tup xs)):A1 P w H' h' a o:=by
 induction o with
 |lst xs=>obtain ⟨z,its,n,r,e⟩:=x;exact ⟨z,its,n,r,k _ _ (.inl rfl) e⟩
 |tup xs=>obtain ⟨z,its,r,ob,e,c⟩:=x;exact ⟨z,its,r,ob,k _ _ (.inl rfl) e,c⟩
 |dK kvs=>obtain ⟨z,y,vs,r,ob,es,ep,e,c⟩:=x;exact ⟨z,y,vs,r,ob,es,ep,k _ _ (.inl rfl) e,c⟩
 |dT kvs=>
  obtain ⟨z,y,xs,r,ob,es,ep,e,c⟩:=x;exact ⟨z,y,xs,Paired.mapP r fun p q z=>⟨z.1,ht _ _ z.2.1,z.2.2⟩,ob,es,ep,k _ _ (.inl rfl) e,c⟩
 |set S n=>obtain ⟨ob,es,ep,t,e,c⟩:=x;exact ⟨ob,es,ep,t,k _ _ (.inl rfl) e,c⟩
 |ins C dx fs=>
  obtain ⟨d,z,ne,e,mA,⟨od,es,ep,e2,c⟩,r⟩:=x;exact ⟨ho _ d,z,ne,k _ _ (.inl rfl) e,mA,⟨od,es,ep,k _ _ (.inr d) e2,c⟩,r⟩
 |own y=>obtain ⟨ob,e⟩:=x;exact ⟨ob,k _ _ (.inl rfl) e⟩
 |xd fs=>obtain ⟨mA,⟨od,es,ep,e,c⟩,r⟩:=x;exact ⟨mA,⟨od,es,ep,k _ _ (.inl rfl) e,c⟩,r⟩
 |rng lo hi=>obtain ⟨t,u,v,e⟩:=x;exact ⟨t,u,v,k _ _ (.inl rfl) e⟩
 |frz ob u ih=>obtain ⟨e,q⟩:=x;exact ⟨k _ _ (.inl rfl) e,ih q⟩
 |tbl ps=>
  have e:h.get? a=some {cls:= .none,data:= .fields ps}:=x;show h'.get? a=some {cls:= .none,data:= .fields ps};exact k a _ (.inl rfl) e
 |met f y=>
  have e:h.get? a=some (PySem.W.methodObj (.ref f) (.ref y)):=x;show h'.get? a=some (PySem.W.methodObj (.ref f) (.ref y));exact k a _ (.inl rfl) e
 |ext φ=>obtain ⟨p,⟨o,e⟩,st⟩:=x;exact ⟨st _ _ p fun o q=>k _ _ (.inl rfl) q,⟨o,k _ _ (.inl rfl) e⟩,st⟩
theorem B8.lt (x:B8 P w H h)(e:H a=some o):a < h.objs.size:=(x a o e).lt
theorem B8.fresh (x:B8 P w H h)(e:h.objs.size<=a):H a=none:=by
 cases q:H a with
 |none=>rfl
 |some u=>exact absurd (cd8 (x.lt q) e) (cg6 _)
theorem B8.kept (x:B8 P w H h)(k:∀b u,h.get? b=some u->h'.get? b=some u):B8 P w H h':=fun a o e=>
 (x a o e).stay (fun b u _ q=>k b u q) (fun _ q=>q) fun _ _ q=>q
theorem B8.laid (x:B8 P w H h)(k:∀b u,h.get? b=some u->h'.get? b=some u)(hp:h.objs.size<=a)(new:A1 P w (c8 H a o) h' a o):B8 P w (c8 H a o) h':=fun b u e=>by
 have hn:=x.fresh hp
 by_cases hb:b=a
 · subst hb;rw[c7] at e;cases e;exact new
 · rw[i6 hb] at e
   exact (x b u e).stay (fun c v _ q=>k c v q) (fun c q=>by rw[i6 (i7 q hn)];exact q) fun c xs q=>by rw[i6 (i7 q hn)];exact q
end
def Rd (H:Hp)(a:Addr)(u:HO):Prop:=H a=some u\/∃o,H a=some (.frz o u)
theorem Rd.ok {P:Program}{w:World}{H:Hp}{h:Heap}{a:Addr}{u:HO}(r:Rd H a u)(x:B8 P w H h):A1 P w H h a u:=by
 rcases r with r|⟨o,r⟩
 · exact x a u r
 · obtain ⟨_,q⟩:=x a _ r;exact q
def Mut:Option HO->Prop
 |some (.lst _)=>True
 |some (.dK _)=>True
 |some (.dT _)=>True
 |some (.set _ _)=>True
 |some (.ins _ _ _)=>True
 |some (.ext _)=>True
 |_=>False
section
variable {P:Program} {w:World} {H:Hp} {h h':Heap} {x e:Addr} {o':HO}
theorem B8.write (ok:B8 P w H h)(mu:Mut (H x))(he:e=x\/H e=some (.own x))(k:∀b u,b≠e->h.get? b=some u->h'.get? b=some u)(heo:∃u,h'.get? e=some u)
   (new:A1 P w (c8 H x o') h' x o'):B8 P w (c8 H x o') h':=fun b u q=>by
 have nown:∀c y,H c=some (.own y)->c≠x:=fun c y r z=>by subst z;rw[r] at mu;exact mu
 have ntup:∀c xs,H c=some (.tup xs)->c≠x:=fun c xs r z=>by subst z;rw[r] at mu;exact mu
 by_cases hb:b=x
 · subst hb;rw[c7] at q;cases q;exact new
 · rw[i6 hb] at q
   by_cases hbe:b=e
   · have q':H b=some (.own x):=by
       rcases he with z|z
       · exact absurd (hbe.trans z) hb
       · rw[hbe];exact z
     rw[q] at q';cases q';obtain ⟨v,hv⟩:=heo;exact ⟨v,by rw[hbe];exact hv⟩
   · refine (ok b u q).stay (fun c v hc r=>k c v ?_ r) (fun c r=>by rw[i6 (nown c b r)];exact r) fun c xs r=>by rw[i6 (ntup c xs r)];exact r
     rcases hc with rfl|hc
     · exact hbe
     · rintro rfl
       rcases he with z|z
       · exact nown c b hc z
       · rw[hc] at z;cases z;exact hb rfl
end
structure Un (fs ex:List Addr)(H H':Hp)(h h':Heap):Prop where
 keep:∀b o,h.get? b=some o->H b=none->b∉fs->b∉ex->h'.get? b=some o
 slot:∀b o,h.get? b=some o->H b=none->b∈fs->b∉ex->∃sl,h'.get? b=some {o with slots:=sl}
 free:∀b o,h.get? b=some o->H b=none->b∉ex->H' b=none
 there:∀b o,h.get? b=some o->b∉ex->∃o',h'.get? b=some o'
 tups:∀b xs,H b=some (.tup xs)->H' b=some (.tup xs)
 frzs:∀b o u,H b=some (.frz o u)->H' b=some (.frz o u)
 tbls:∀b ps,H b=some (.tbl ps)->∃more,H' b=some (.tbl (ps++more))
section
variable {fs fs' ex ex':List Addr} {H H1 H2:Hp} {h h1 h2 h':Heap} {a x e:Addr} {o:HO}
theorem Un.any (u:Un fs ex H H1 h h1){b:Addr}{ob:Obj}(q:h.get? b=some ob)(n:H b=none)(hx:b∉ex):∃sl,h1.get? b=some {ob with slots:=sl}:=by
 by_cases hb:b∈fs
 · exact u.slot b ob q n hb hx
 · exact ⟨ob.slots,u.keep b ob q n hb hx⟩
theorem Un.kept (k:∀b u,h.get? b=some u->h'.get? b=some u):Un fs ex H H h h':=
 ⟨fun b ob q _ _ _=>k b ob q,fun b ob q _ _ _=>⟨ob.slots,k b ob q⟩,fun _ _ _ n _=>n,fun b ob q _=>⟨ob,k b ob q⟩,fun _ _ q=>q,fun _ _ _ q=>q,fun _ ps q=>⟨#[],by rw[q];simp⟩⟩
theorem Un.refl:Un fs ex H H h h:=Un.kept fun _ _ q=>q
theorem Un.laid (k:∀b u,h.get? b=some u->h'.get? b=some u)(hp:h.objs.size<=a)(hn:H a=none):Un fs ex H (c8 H a o) h h' where
 keep:=fun b u q _ _ _=>k b u q
 slot:=fun b u q _ _ _=>⟨u.slots,k b u q⟩
 free:=fun b u q n _=>by rw[i6 (ce1 (cd8 (Heap.lt_size q) hp))];exact n
 there:=fun b u q _=>⟨u,k b u q⟩
 tups:=fun b xs q=>by rw[i6 (i7 q hn)];exact q
 frzs:=fun b u xs q=>by rw[i6 (i7 q hn)];exact q
 tbls:=fun b ps q=>⟨#[],by rw[i6 (i7 q hn),q];simp⟩
theorem Un.write (mu:Mut (H x))(he:e=x\/H e=some (.own x))(k:∀b u,b≠e->h.get? b=some u->h'.get? b=some u)(heo:∃u,h'.get? e=some u):Un fs ex H (c8 H x o) h h':=by
 have hx:∀b,H b=none->b≠x:=fun b n z=>by subst z;rw[n] at mu;exact mu
 have hb:∀b,H b=none->b≠e:=fun b n z=>by
   subst z
   rcases he with r|r
   · exact hx b n r
   · rw[n] at r;cases r
 have hm:∀b u,H b=some u->¬Mut (some u)->b≠x:=fun b u q nm z=>by subst z;rw[q] at mu;exact nm mu
 refine ⟨fun b u q n _ _=>k b u (hb b n) q,fun b u q n _ _=>⟨u.slots,k b u (hb b n) q⟩,fun b u q n _=>by rw[i6 (hx b n)];exact n,fun b u q _=> ?_,
   fun b xs q=>by rw[i6 (hm b _ q fun z=>z)];exact q,fun b u xs q=>by rw[i6 (hm b _ q fun z=>z)];exact q,fun b ps q=>⟨#[],by rw[i6 (hm b _ q fun z=>z),q];simp⟩⟩
 by_cases hbe:b=e
 · subst hbe;exact heo
 · exact ⟨u,k b u hbe q⟩
end
def trk (h:Heap)(H:Hp):List Addr:=(cg1 h.objs.size).filter fun a=>(H a).isSome
def W5 (h:Heap)(H:Hp):Heap:=PySem.W.hideAll h (trk h H)
theorem az2 (h:Heap)(H:Hp):(W5 h H).objs.size=h.objs.size:=PySem.W.hideAll_size _ _
theorem bg2 {h:Heap}{H:Hp}{b:Addr}{o:Obj}(e:h.get? b=some o)(n:H b=none):(W5 h H).get? b=some o:=
 PySem.W.hideAll_get _ e fun hm=>by
   have q:(H b).isSome=true:=(List.mem_filter.mp hm).2;rw[n] at q;simp at q
theorem bm4 {h:Heap}{H:Hp}{b:Addr}{o:Obj}(e:(W5 h H).get? b=some o):h.get? b=some o/\H b=none:=by
 have e':h.get? b=some o:=PySem.W.of_hideAll (trk h H) e;refine ⟨e',?_⟩
 cases q:H b with
 |none=>rfl
 |some x=>
  have hm:b∈trk h H:=List.mem_filter.mpr ⟨cf9.mpr (Heap.lt_size e'),by simp [q]⟩;have z:(W5 h H).get? b=none:=PySem.W.hideAll_none (trk h H) hm;rw[z] at e;cases e
end L2
namespace L2
open PySem PySem.Spec PyProof.Rows
structure Mod (K:PySem.W.Frag)(mg:Str->Option Value)(base:Heap):Prop where
 kin:K.In base
 glob:base.Ns mainGlobals mg
 blt:∃mb,base.Ns builtinsNs mb/\∀x:Str,x≠"__name__"->mb x=bootBuiltins x
 nolimit:base.NoLimit
structure Cx where
 prog:Program
 w:World
 K:PySem.W.Frag
 mg:Str->Option Value
 base:Heap
 A:Around
 N:List Str
 s₀:Shared
 H₀:Hp
 env:Env
 outer:List Env
 stack:List Env
 ex:List Addr
 fn:Str->Bool
 calm:Bool
 pn:List (Addr×Obj)
 xe:Value->Shared->Prop
def B2 (l:List Env):List Addr:=l.filterMap (·.frame)
abbrev Cx.fs (X:Cx):List Addr:=B2 X.outer
def Vis (sc:Scope)(x:Str):Prop:=sc.names.lookup x=some .local\/sc.names.lookup x=some .cell\/sc.names.lookup x=some .free
def Loc (sc:Scope)(x:Str):Prop:=sc.names.lookup x=some .local\/sc.names.lookup x=some .cell
def bz0 (env:Env)(h:Heap)(m:Str->Option Value)(x:Str)(u:Value):Prop:=
 (env.kindOf x=some .local/\m x=some u)\/((env.kindOf x=some .cell\/env.kindOf x=some .free)/\∃c,env.cells.lookup x=some c/\h.IsCell c (some u))
structure Cx.Ok (X:Cx):Prop where
 mod:Mod X.K X.mg X.base
 kind:X.env.scope.kind= .function
 glob:X.env.globals=mainGlobals
 blt:X.env.builtins=builtinsNs
 above:X.s₀.heap.objs.size<=X.env.locals
 inj:∀x y c,X.env.cells.lookup x=some c->X.env.cells.lookup y=some c->x=y
 has:∀x,(X.env.kindOf x=some .cell\/X.env.kindOf x=some .free)->∃c,X.env.cells.lookup x=some c
 cab:∀x c,X.fn x=true->X.env.cells.lookup x=some c->X.s₀.heap.objs.size<=c
 hd:X.calm=true->X.A.handled=none
 frames:X.A.frames=some X.stack
 stk:X.stack=X.outer\/(X.stack=X.env::X.outer/\X.env.frame=some X.env.locals)
 exf:∀b∈X.ex,b≠X.env.locals/\∀x c,X.env.cells.lookup x=some c->c≠b
 bs:∀b o,X.base.get? b=some o->X.s₀.heap.get? b=some o/\X.H₀ b=none
 bsz:X.base.objs.size<=X.s₀.heap.objs.size
 noex:∀b o,X.base.get? b=some o->b∉X.ex
 exfs:∀b∈X.ex,b∉X.fs
 funs:X.s₀.heap.FunFrames X.base X.outer
 frf:∀b∈X.fs,X.H₀ b=none
structure i8 (X:Cx)(pins:List (Addr×Obj))(σ:List (Option V))(H:Hp)(s:Shared):Prop where
 ok:X.Ok
 os:s.os=X.s₀.os
 bare:AllBare s.gens
 base:Un X.fs X.ex X.H₀ H X.s₀.heap s.heap
 loc:∃m,s.heap.Ns X.env.locals m/\∀(i:Nat) (x:Str) (v:V),X.N[i]? =some x->σ[i]? =some (some v)->Vis X.env.scope x->∃u,o9 v u/\bz0 X.env s.heap m x u
 cell:∀x c,X.env.cells.lookup x=some c->∃v,s.heap.IsCell c v
 free:H X.env.locals=none
 freeC:∀x c,X.env.cells.lookup x=some c->H c=none
 pin:∀p∈X.pn++pins,s.heap.get? p.1=some p.2/\H p.1=none/\p.1≠X.env.locals/\p.1∉X.fs/\∀v,p.2.data≠.cell v
 hok:B8 X.prog X.w H s.heap
 len:σ.length=X.N.length
section
variable {X:Cx} {pins:List (Addr×Obj)} {σ:List (Option V)} {H H':Hp} {s:Shared} {h':Heap}
theorem Cx.Ok.nofr (ok:X.Ok){b:Addr}{o:Obj}(e:X.base.get? b=some o):b∉X.fs:=fun hb=>by
 have:=(ok.funs.mem hb).1;rw[e] at this;cases this
theorem i8.bs (I:i8 X pins σ H s):∀b o,X.base.get? b=some o->s.heap.get? b=some o/\H b=none:=fun b o e=>
 ⟨I.base.keep b o (I.ok.bs b o e).1 (I.ok.bs b o e).2 (I.ok.nofr e) (I.ok.noex b o e),I.base.free b o (I.ok.bs b o e).1 (I.ok.bs b o e).2 (I.ok.noex b o e)⟩
theorem i8.bk (I:i8 X pins σ H s):∀b o,X.base.get? b=some o->s.heap.get? b=some o:=fun b o e=>(I.bs b o e).1
theorem i8.mod (I:i8 X pins σ H s):Mod X.K X.mg X.base:=I.ok.mod
theorem i8.kIn (I:i8 X pins σ H s):X.K.In s.heap:=I.ok.mod.kin.keeps I.bk
theorem i8.lt (I:i8 X pins σ H s):X.env.locals < s.heap.objs.size:=let ⟨_,hn,_⟩:=I.loc;hn.lt
theorem i8.sz (I:i8 X pins σ H s):X.s₀.heap.objs.size<=s.heap.objs.size:=cd3 I.ok.above (cf2 I.lt)
theorem i8.nofs (I:i8 X pins σ H s){a:Addr}(h:s.heap.objs.size<=a):a∉X.fs:=fun hb=>by
 obtain ⟨_,o,ho,_⟩:=I.ok.funs.mem hb;exact absurd (cd8 (Heap.lt_size ho) (cd3 I.sz h)) (cg6 _)
theorem i8.cne (I:i8 X pins σ H s):∀x c,X.env.cells.lookup x=some c->c≠X.env.locals:=fun x c e z=>by
 obtain ⟨v,o,ho,hd⟩:=I.cell x c e;obtain ⟨m,⟨o',es,ep,ho',hd',_⟩,_⟩:=I.loc;rw[z,ho'] at ho;cases ho;rw[hd'] at hd;cases hd
theorem i8.funs (I:i8 X pins σ H s):s.heap.FunFrames X.base X.outer:=by
 have all:∀(l:List Env),(∀b∈B2 l,b∈X.fs)->X.s₀.heap.FunFrames X.base l->s.heap.FunFrames X.base l:=by
   intro l
   induction l with
   |nil=>intro _ _;trivial
   |cons env r ih=>
    intro hs hl;obtain ⟨hk,⟨L,o,hf,hn,ho,hd⟩,hr⟩:=hl;have hL:L∈X.fs:=hs L (by unfold B2;rw[cg2,hf];exact cd0)
    obtain ⟨sl,e⟩:=I.base.slot L o ho (I.ok.frf L hL) hL fun z=>I.ok.exfs L z hL
    exact ⟨hk,⟨L,_,hf,hn,e,hd⟩,ih (fun b hb=>hs b (by unfold B2;rw[cg2,hf];exact cc9 _ hb)) hr⟩
 exact all X.outer (fun _ hb=>hb) I.ok.funs
theorem i8.stack (I:i8 X pins σ H s):s.heap.FunFrames X.base X.stack:=by
 rcases I.ok.stk with e|⟨e,hf⟩
 · rw[e];exact I.funs
 · rw[e];obtain ⟨m,hn,_⟩:=I.loc;refine .cons (by rw[I.ok.kind];decide) hf hn ?_ I.funs;exact Heap.get?_none_of_le (cd3 I.ok.bsz I.ok.above)
theorem i8.stkSub (I:i8 X pins σ H s):∀b∈B2 X.stack,b∈X.env.locals::X.fs:=fun b hb=>by
 rcases I.ok.stk with e|⟨e,hf⟩
 · rw[e] at hb;exact cc9 _ hb
 · rw[e] at hb;unfold B2 at hb;rw[cg2,hf] at hb;exact hb
theorem i8.stkFree (I:i8 X pins σ H s):∀b∈B2 X.stack,H b=none:=fun b hb=>by
 rcases ce0.mp (I.stkSub b hb) with e|hb
 · rw[e];exact I.free
 · obtain ⟨_,o,ho,_⟩:=I.ok.funs.mem hb
   exact I.base.free b o ho (I.ok.frf b hb) fun z=>I.ok.exfs b z hb
theorem i8.step {g':Array GenState}{t':Nat}{d':Drawn}{ch:List Addr}(I:i8 X pins σ H s)
   (hch:∀b∈ch,(b∈X.ex\/X.s₀.heap.objs.size<=b)/\b≠X.env.locals/\(∀x c,X.env.cells.lookup x=some c->c≠b)/\∀p∈X.pn++pins,p.1≠b)
   (keep:∀b o,b≠X.env.locals->b∉X.fs->b∉ch->s.heap.get? b=some o->H b=none->h'.get? b=some o)
   (slot:∀b o,b≠X.env.locals->b∈X.fs->b∉ch->s.heap.get? b=some o->H b=none->∃sl,h'.get? b=some {o with slots:=sl}) (free:∀b o,b∉ch->s.heap.get? b=some o->H b=none->H' b=none)
   (there:∀b o,b∉ch->s.heap.get? b=some o->∃o',h'.get? b=some o')
   (tups:∀b xs,H b=some (.tup xs)->H' b=some (.tup xs)) (frzs:∀b o u,H b=some (.frz o u)->H' b=some (.frz o u)) (tbls:∀b ps,H b=some (.tbl ps)->∃more,H' b=some (.tbl (ps++more)))
   (ns:∀m,s.heap.Ns X.env.locals m->h'.Ns X.env.locals m) (hok:B8 X.prog X.w H' h') (hg:AllBare g'):
   i8 X pins σ H' {s with heap:=h',gens:=g',drawn:=d',toks:=t'}:=by
 have neL:∀b o,X.s₀.heap.get? b=some o->b≠X.env.locals:=fun b o e=>ce1 (cd8 (Heap.lt_size e) I.ok.above)
 have neC:∀b o,X.s₀.heap.get? b=some o->b∉X.ex->b∉ch:=fun b o e hx hb=>by
   rcases (hch b hb).1 with z|z
   · exact hx z
   · exact absurd (cd8 (Heap.lt_size e) z) (cg6 _)
 have cellK:∀x c,X.env.cells.lookup x=some c->∀v,s.heap.IsCell c v->h'.IsCell c v:=fun x c e v ⟨o,ho,hd⟩=>by
   have nch:c∉ch:=fun z=>(hch c z).2.2.1 x c e rfl
   by_cases hc:c∈X.fs
   · obtain ⟨sl,q⟩:=slot c o (I.cne x c e) hc nch ho (I.freeC x c e);exact ⟨_,q,hd⟩
   · exact ⟨o,keep c o (I.cne x c e) hc nch ho (I.freeC x c e),hd⟩
 refine ⟨I.ok,I.os,hg,⟨fun b o e n hb hx=> ?_,fun b o e n hb hx=> ?_,fun b o e n hx=> ?_,fun b o e hx=> ?_,fun b xs e=>tups b xs (I.base.tups b xs e),fun b o xs e=>frzs b o xs (I.base.frzs b o xs e),fun b ps e=> ?_⟩,?_,fun x c e=> ?_,?_,fun x c e=> ?_,fun p hp=> ?_,hok,I.len⟩
 · exact keep b o (neL b o e) hb (neC b o e hx) (I.base.keep b o e n hb hx) (I.base.free b o e n hx)
 · obtain ⟨sl,e1⟩:=I.base.slot b o e n hb hx;obtain ⟨sl',e2⟩:=slot b _ (neL b o e) hb (neC b o e hx) e1 (I.base.free b o e n hx);exact ⟨sl',e2⟩
 · obtain ⟨o',e1⟩:=I.base.there b o e hx;exact free b o' (neC b o e hx) e1 (I.base.free b o e n hx)
 · obtain ⟨o',e1⟩:=I.base.there b o e hx;exact there b o' (neC b o e hx) e1
 · obtain ⟨m1,e1⟩:=I.base.tbls b ps e;obtain ⟨m2,e2⟩:=tbls b _ e1;exact ⟨m1++m2,by rw[e2,Array.append_assoc]⟩
 · obtain ⟨m,hn,hl⟩:=I.loc;refine ⟨m,ns m hn,fun i x v e1 e2 e3=> ?_⟩;obtain ⟨u,r,l⟩:=hl i x v e1 e2 e3;refine ⟨u,r,?_⟩
   rcases l with l|⟨k,c,e,z⟩
   · exact .inl l
   · exact .inr ⟨k,c,e,cellK x c e _ z⟩
 · obtain ⟨v,z⟩:=I.cell x c e;exact ⟨v,cellK x c e v z⟩
 · obtain ⟨m,⟨o,_,_,ho,_⟩,_⟩:=I.loc;exact free _ o (fun z=>(hch _ z).2.1 rfl) ho I.free
 · obtain ⟨v,o,ho,hd⟩:=I.cell x c e;exact free c o (fun z=>(hch c z).2.2.1 x c e rfl) ho (I.freeC x c e)
 · obtain ⟨e,n,ne,nf,d⟩:=I.pin p hp
   have nch:p.1∉ch:=fun z=>(hch p.1 z).2.2.2 p hp rfl
   exact ⟨keep p.1 p.2 ne nf nch e n,free p.1 p.2 nch e n,ne,nf,d⟩
theorem i8.un {t':Nat}(I:i8 X pins σ H s)(u:Un X.fs [] H H' s.heap h')(hok:B8 X.prog X.w H' h'):i8 X pins σ H' {s with heap:=h',toks:=t'}:=by
 obtain ⟨m,⟨o,es,ep,ho,r⟩,_⟩:=id I.loc;obtain ⟨sl,hL⟩:=u.any ho I.free (by simp)
 exact I.step (g':=s.gens) (d':=s.drawn) (ch:=[]) (fun _ z=>nomatch z) (fun b o _ hb _ e n=>u.keep b o e n hb (by simp)) (fun b o _ hb _ e n=>u.slot b o e n hb (by simp)) (fun b o _ e n=>u.free b o e n (by simp)) (fun b o _ e=>u.there b o e (by simp)) u.tups u.frzs u.tbls (fun m' hm=>by
   obtain ⟨o',es',ep',ho',r'⟩:=hm;rw[ho] at ho';cases ho'
   exact ⟨_,es',ep',hL,r'⟩) hok I.bare
theorem i8.call {g':Array GenState}{t':Nat}{d':Drawn}{ch:List Addr}(I:i8 X pins σ H s)(u:Un (B2 X.stack) ch H H' s.heap h')(hok:B8 X.prog X.w H' h')(hg:AllBare g')
   (hch:∀b∈ch,(b∈X.ex\/X.s₀.heap.objs.size<=b)/\b≠X.env.locals/\(∀x c,X.env.cells.lookup x=some c->c≠b)/\∀p∈X.pn++pins,p.1≠b):
   i8 X pins σ H' {s with heap:=h',gens:=g',drawn:=d',toks:=t'}:=by
 obtain ⟨m,⟨o,es,ep,ho,r⟩,_⟩:=id I.loc
 obtain ⟨sl,hL⟩:=u.any ho I.free fun z=>(hch _ z).2.1 rfl
 exact I.step (ch:=ch) hch (fun b o hL hb hc e n=>u.keep b o e n (fun z=>(ce0.mp (I.stkSub b z)).elim hL hb) hc) (fun b o _ _ hc e n=>u.any e n hc) (fun b o hc e n=>u.free b o e n hc) (fun b o hc e=>u.there b o e hc) u.tups u.frzs u.tbls (fun m' hm=>by
   obtain ⟨o',es',ep',ho',r'⟩:=hm;rw[ho] at ho';cases ho'
   exact ⟨_,es',ep',hL,r'⟩) hok hg
theorem i8.turned {t':Nat}{it:Addr}(I:i8 X pins σ H s)(k:∀b o,b≠it->s.heap.get? b=some o->h'.get? b=some o)(hn:H it=none)(hL:it≠X.env.locals)
   (h1:it∈X.ex\/X.s₀.heap.objs.size<=it) (h2:∀x c,X.env.cells.lookup x=some c->c≠it) (h3:∀p∈X.pn++pins,p.1≠it):i8 X pins σ H {s with heap:=h',toks:=t'}:=by
 have nit:∀b u,H b=some u->b≠it:=fun b u e z=>by rw[z,hn] at e;cases e
 refine I.step (g':=s.gens) (d':=s.drawn) (ch:=[it]) (fun b hb=> ?_) (fun b o _ _ hc e _=>k b o (fun z=>hc (by simp [z])) e) (fun b o _ _ hc e _=>⟨o.slots,k b o (fun z=>hc (by simp [z])) e⟩) (fun _ _ _ _ n=>n)
   (fun b o hc e=>⟨o,k b o (fun z=>hc (by simp [z])) e⟩) (fun _ _ e=>e) (fun _ _ _ e=>e) (fun b ps e=>⟨#[],by rw[e];simp⟩) (fun m hm=> ?_) (fun b u e=> ?_) I.bare
 · have e:b=it:=by simpa using hb
   subst e;exact ⟨h1,hL,h2,h3⟩
 · obtain ⟨o,es,ep,ho,r⟩:=hm;exact ⟨o,es,ep,k _ o (Ne.symm hL) ho,r⟩
 · refine (I.hok b u e).stay (fun c v hc q=>k c v ?_ q) (fun _ q=>q) fun _ _ q=>q
   rcases hc with z|z
   · rw[z];exact nit b u e
   · exact nit c _ z
theorem i8.tok (I:i8 X pins σ H s)(t:Nat):i8 X pins σ H {s with toks:=t}:=I.un (h':=s.heap) (t':=t) Un.refl I.hok
theorem i8.kept {t':Nat}(I:i8 X pins σ H s)(k:∀b u,s.heap.get? b=some u->h'.get? b=some u):i8 X pins σ H {s with heap:=h',toks:=t'}:=I.un (Un.kept k) (I.hok.kept k)
theorem i8.laid {a:Addr}{o:HO}{t':Nat}(I:i8 X pins σ H s)(k:∀b u,s.heap.get? b=some u->h'.get? b=some u)(hp:s.heap.objs.size<=a)(new:A1 X.prog X.w (c8 H a o) h' a o):
 i8 X pins σ (c8 H a o) {s with heap:=h',toks:=t'}:=I.un (Un.laid k hp (I.hok.fresh hp)) (I.hok.laid k hp new)
theorem i8.write {x e:Addr}{o:HO}{t':Nat}(I:i8 X pins σ H s)(mu:Mut (H x))(he:e=x\/H e=some (.own x))(k:∀b u,b≠e->s.heap.get? b=some u->h'.get? b=some u)(heo:∃u,h'.get? e=some u)
 (new:A1 X.prog X.w (c8 H x o) h' x o):i8 X pins σ (c8 H x o) {s with heap:=h',toks:=t'}:=I.un (Un.write mu he k heo) (I.hok.write mu he k heo new)
theorem i8.pins_of {pins':List (Addr×Obj)}(I:i8 X pins σ H s)(h:∀p∈pins',s.heap.get? p.1=some p.2/\H p.1=none/\p.1≠X.env.locals/\p.1∉X.fs/\∀v,p.2.data≠.cell v):i8 X pins' σ H s:=
 ⟨I.ok,I.os,I.bare,I.base,I.loc,I.cell,I.free,I.freeC,fun p hp=>(cd2.mp hp).elim (fun z=>I.pin p (cf8 _ z)) (h p),I.hok,I.len⟩
theorem ac1 {N:List Str}(hN:N.Nodup){i j:Nat}{x:Str}(a:N[i]? =some x)(b:N[j]? =some x):i=j:=by
 obtain ⟨h1,e1⟩:=cc5.mp a;obtain ⟨h2,e2⟩:=cc5.mp b;exact (List.getElem_inj hN).mp (e1.trans e2.symm)
theorem az4 {M:Model}{A:Around}{E:Value->Shared->Prop}{i:Nat}{x:Str}{v:V}{u:Value}{Q:Unit->Shared->Prop}(I:i8 X pins σ H s)(hN:X.N.Nodup)(hi:X.N[i]? =some x)(hx:Loc X.env.scope x)(r:o9 v u)
   (h:∀s',i8 X pins (σ.set i (some v)) H s'->(∃a,Heap.SameBut a s.heap s'.heap/\(a=X.env.locals\/X.env.cells.lookup x=some a))->Q () s') (hf:X.fn x=true\/X.env.scope.names.lookup x=some .local:=by first|exact .inl rfl|exact .inr rfl|assumption):wpAny M A (storeName X.env x u) Q E s:=by
 obtain ⟨m,hn,hl⟩:=id I.loc
 have hcls:(X.env.scope.kind== .class||(X.env.scope.kind== .module&&X.env.locals !=X.env.globals))=false:=by rw[I.ok.kind];rfl
 have hiσ:i < σ.length:=by rw[I.len];exact (cc5.mp hi).1
 have cne:=I.cne
 have tracked:∀{a:Addr} {h':Heap},(∃o,s.heap.get? a=some o/\H a=none)->Heap.SameBut a s.heap h'->B8 X.prog X.w H h':=fun {a h'} ha hs b ob e=>by
   obtain ⟨_,_,hfree⟩:=ha
   refine (I.hok b ob e).stay (fun c w' hc q=>(hs.2 c ?_).trans q) (fun _ q=>q) fun _ _ q=>q
   rintro rfl
   rcases hc with rfl|hc
   · rw[hfree] at e;cases e
   · rw[hfree] at hc;cases hc
 rcases hx with hk|hk
 · refine wpAny_storeName_local hk hn (fun h' hn' hs=> ?_) hcls;obtain ⟨oL,_,_,hoL,_⟩:=id hn;refine h _ ⟨I.ok,I.os,I.bare,⟨fun b o e n hb hx=> ?_,fun b o e n hb hx=> ?_,I.base.free,fun b o e hx=> ?_,I.base.tups,I.base.frzs,I.base.tbls⟩,⟨_,hn',fun j y v' e1 e2 e3=> ?_⟩,fun y c e=> ?_,I.free,I.freeC,fun p hp=> ?_,tracked ⟨oL,hoL,I.free⟩ hs,by simpa using I.len⟩ ⟨_,hs,.inl rfl⟩
   · exact (hs.2 b (ce1 (cd8 (Heap.lt_size e) I.ok.above))).trans (I.base.keep b o e n hb hx)
   · obtain ⟨sl,e1⟩:=I.base.slot b o e n hb hx;exact ⟨sl,(hs.2 b (ce1 (cd8 (Heap.lt_size e) I.ok.above))).trans e1⟩
   · obtain ⟨o',e1⟩:=I.base.there b o e hx;exact ⟨o',(hs.2 b (ce1 (cd8 (Heap.lt_size e) I.ok.above))).trans e1⟩
   · by_cases hj:j=i
     · subst hj;rw[hi] at e1;cases e1;rw[ci4 hiσ] at e2;cases e2;exact ⟨u,r,.inl ⟨hk,by simp⟩⟩
     · rw[cj2 (Ne.symm hj)] at e2;obtain ⟨u',r',q⟩:=hl j y v' e1 e2 e3;refine ⟨u',r',?_⟩
       rcases q with ⟨k,e⟩|⟨k,c,e,z⟩
       · refine .inl ⟨k,?_⟩
         have:y≠x:=fun e=>hj (ac1 hN e1 (e▸hi))
         simp [this,e]
       · exact .inr ⟨k,c,e,z.sameBut hs (cne y c e)⟩
   · obtain ⟨w',z⟩:=I.cell y c e;exact ⟨w',z.sameBut hs (cne y c e)⟩
   · obtain ⟨e,n,ne,nf,d⟩:=I.pin p hp;exact ⟨(hs.2 p.1 ne).trans e,n,ne,nf,d⟩
 · have hfn:X.fn x=true:=by
     rcases hf with z|z
     · exact z
     · rw[z] at hk;cases hk
   obtain ⟨c,hc⟩:=I.ok.has x (.inl hk);obtain ⟨w',z⟩:=I.cell x c hc;refine wpAny_storeName_cell I.ok.kind hk hc z (fun h' hc' hs=> ?_);obtain ⟨oc,hoc,hocd⟩:=id z;refine h {s with heap:=h'} ⟨I.ok,I.os,I.bare,⟨fun b o e n hb hx=> ?_,fun b o e n hb hx=> ?_,I.base.free,fun b o e hx=> ?_,I.base.tups,I.base.frzs,I.base.tbls⟩,⟨m,hn.sameBut hs (Ne.symm (cne x c hc)),fun j y v' e1 e2 e3=> ?_⟩,fun y c' e=> ?_,I.free,I.freeC,fun p hp=> ?_,tracked ⟨oc,hoc,I.freeC x c hc⟩ hs,by simpa using I.len⟩ ⟨c,hs,.inr hc⟩
   · exact (hs.2 b (ce1 (cd8 (Heap.lt_size e) (I.ok.cab x c hfn hc)))).trans (I.base.keep b o e n hb hx)
   · obtain ⟨sl,e1⟩:=I.base.slot b o e n hb hx;exact ⟨sl,(hs.2 b (ce1 (cd8 (Heap.lt_size e) (I.ok.cab x c hfn hc)))).trans e1⟩
   · obtain ⟨o',e1⟩:=I.base.there b o e hx;exact ⟨o',(hs.2 b (ce1 (cd8 (Heap.lt_size e) (I.ok.cab x c hfn hc)))).trans e1⟩
   · by_cases hj:j=i
     · subst hj;rw[hi] at e1;cases e1;rw[ci4 hiσ] at e2;cases e2;exact ⟨u,r,.inr ⟨.inl hk,c,hc,hc'⟩⟩
     · rw[cj2 (Ne.symm hj)] at e2;obtain ⟨u',r',q⟩:=hl j y v' e1 e2 e3;refine ⟨u',r',?_⟩
       rcases q with q|⟨k,c',e,z'⟩
       · exact .inl q
       · refine .inr ⟨k,c',e,z'.sameBut hs ?_⟩;rintro rfl;exact hj (ac1 hN e1 (I.ok.inj _ _ _ e hc▸hi))
   · by_cases hcc:c'=c
     · subst hcc;exact ⟨_,hc'⟩
     · obtain ⟨w2,z2⟩:=I.cell y c' e;exact ⟨w2,z2.sameBut hs hcc⟩
   · obtain ⟨e,n,ne,nf,d⟩:=I.pin p hp;refine ⟨(hs.2 p.1 ?_).trans e,n,ne,nf,d⟩;intro q;rw[q,hoc] at e;have q':oc=p.2:=Option.some.inj e;exact d w' (by rw[<-q'];exact hocd)
theorem ac2 {M:Model}{A:Around}{E:Value->Shared->Prop}{i:Nat}{x:Str}{v:V}{u:Value}{Q:Unit->Shared->Prop}(I:i8 X pins σ H s)(hN:X.N.Nodup)(hi:X.N[i]? =some x)(hx:Loc X.env.scope x)(r:o9 v u)
   (h:∀s',i8 X pins (σ.set i (some v)) H s'->Q () s') (hf:X.fn x=true\/X.env.scope.names.lookup x=some .local:=by first|exact .inl rfl|exact .inr rfl|assumption):wpAny M A (storeName X.env x u) Q E s:=
 az4 I hN hi hx r (fun s' I' _=>h s' I') hf
theorem i8.call' {s':Shared}{ch:List Addr}(I:i8 X pins σ H s)(ho:s'.os=s.os)(u:Un (B2 X.stack) ch H H' s.heap s'.heap)(hok:B8 X.prog X.w H' s'.heap)(hg:AllBare s'.gens)
   (hch:∀b∈ch,(b∈X.ex\/X.s₀.heap.objs.size<=b)/\b≠X.env.locals/\(∀x c,X.env.cells.lookup x=some c->c≠b)/\∀p∈X.pn++pins,p.1≠b):i8 X pins σ H' s':=by
 obtain ⟨h',g',d',t',o'⟩:=s';have e:o'=s.os:=ho;subst e;exact I.call (g':=g') (t':=t') (d':=d') u hok hg hch
end
abbrev XK:=Value->Option Addr->Hp->Prop
abbrev St:=List (Option V)
abbrev VK:=V->Hp->Prop
abbrev TE:=St->Hp->VK->Prop
abbrev TT:=St->Hp->(Bool->Hp->Prop)->Prop
abbrev TA:=St->Hp->(List V->Hp->Prop)->Prop
structure S3 where
 nx:St->Hp->Prop
 rt:VK
 bk:St->Hp->Prop:=fun _ _=>False
 ct:St->Hp->Prop:=fun _ _=>False
abbrev TS:=S3->St->Hp->Prop
def EP (X:Cx)(pins:List (Addr×Obj))(σ:St)(Q:VK)(u:Value)(s':Shared):Prop:=∃v H',i8 X pins σ H' s'/\o9 v u/\Q v H'
def TP (X:Cx)(pins:List (Addr×Obj))(σ:St)(Q:Bool->Hp->Prop)(b:Bool)(s':Shared):Prop:=∃H',i8 X pins σ H' s'/\Q b H'
def AP (X:Cx)(pins:List (Addr×Obj))(σ:St)(Q:List V->Hp->Prop)(us:List Value)(s':Shared):Prop:=∃vs H',i8 X pins σ H' s'/\k7 vs us/\Q vs H'
def SP (X:Cx)(pins:List (Addr×Obj))(D:S3)(f:Flow)(s':Shared):Prop:=
 match f with
 | .next=>∃σ' H',i8 X pins σ' H' s'/\D.nx σ' H'
 | .brk=>∃σ' H',i8 X pins σ' H' s'/\D.bk σ' H'
 | .cont=>∃σ' H',i8 X pins σ' H' s'/\D.ct σ' H'
 | .ret u=>∃v σ' H',i8 X pins σ' H' s'/\o9 v u/\D.rt v H'
def PE (X:Cx)(e:Expr)(t:TE):Prop:=
 ∀(pins:List (Addr×Obj)) (s:Shared) (σ:St) (H:Hp) (Q:VK),i8 X pins σ H s->t σ H Q->wpAny (model X.prog X.w) X.A (eval e X.env) (EP X pins σ Q) X.xe s
def PT (X:Cx)(e:Expr)(t:TT):Prop:=
 ∀(pins:List (Addr×Obj)) (s:Shared) (σ:St) (H:Hp) (Q:Bool->Hp->Prop),i8 X pins σ H s->t σ H Q->wpAny (model X.prog X.w) X.A (isTrue e X.env (eval e X.env)) (TP X pins σ Q) X.xe s
def PW (X:Cx)(e:Expr)(t:TT):Prop:=
 ∀(whole:Sem Value) (pins:List (Addr×Obj)) (s:Shared) (σ:St) (H:Hp) (Q:Bool->Hp->Prop),i8 X pins σ H s->t σ H Q->wpAny (model X.prog X.w) X.A (isTrue e X.env whole) (TP X pins σ Q) X.xe s
theorem PW.pt {X:Cx}{e:Expr}{t:TT}(h:PW X e t):PT X e t:=h _
def PA (X:Cx)(es:List Expr)(t:TA):Prop:=
 ∀(pos:Pos) (pins:List (Addr×Obj)) (s:Shared) (σ:St) (H:Hp) (Q:List V->Hp->Prop),i8 X pins σ H s->t σ H Q->wpAny (model X.prog X.w) X.A (spliced (backTo pos (starEach es X.env))) (AP X pins σ Q) X.xe s
def PS (X:Cx)(st:Stmt)(t:TS):Prop:=
 ∀(pins:List (Addr×Obj)) (s:Shared) (σ:St) (H:Hp) (D:S3),i8 X pins σ H s->t D σ H->wpAny (model X.prog X.w) X.A (exec st X.env) (SP X pins D) X.xe s
def Q7 (X:Cx)(st:List Stmt)(t:TS):Prop:=
 ∀(pins:List (Addr×Obj)) (s:Shared) (σ:St) (H:Hp) (D:S3),i8 X pins σ H s->t D σ H->wpAny (model X.prog X.w) X.A (execs st X.env) (SP X pins D) X.xe s
theorem v0 {α:Type}{t:Sem α}{Q Q':α->Shared->Prop}{M:Model}{A:Around}{E:Value->Shared->Prop}{s:Shared}(h:wpAny M A t Q E s)(hQ:∀a s,Q a s->Q' a s):wpAny M A t Q' E s:=wpAny_mono h hQ fun _ _ x=>x
end L2
namespace L2
open PySem PySem.Spec PyProof.Rows
section
variable {X:Cx}
def br4 (i:Nat):TE:=fun σ H Q=>∃v,σ[i]? =some (some v)/\Q v H
def tC (v:V):TE:=fun _ H Q=>Q v H
theorem br5 {i:Nat}{x:Str}{pos:Pos}(hN:X.N[i]? =some x)(hv:Vis X.env.scope x)(hd:(x==("__debug__":Str))=false:=by decide)(hcd:(x==("__classdict__":Str))=false:=by decide):PE X (.Name x pos) (br4 i):=by
 intro pins s σ H Q I h;obtain ⟨v,e,h⟩:=h;obtain ⟨m,hn,hl⟩:=I.loc;obtain ⟨u,r,l⟩:=hl i x v hN e hv;have fin:EP X pins σ Q u s:=⟨v,H,I,r,h⟩
 rcases l with ⟨hk,hm⟩|⟨hk,c,hc,hcell⟩
 · exact wpAny_Name (wpAny_loadName_local I.ok.kind hk hn hm fin) hd
 · rcases hk with hk|hk
   · exact wpAny_Name (wpAny_loadName_cell I.ok.kind hk hc hcell fin) hd
   · exact wpAny_Name (wpAny_loadName_free I.ok.kind hk hc hcell fin hcd) hd
theorem i4 {i j pos}:PE X (.Constant (.int i) j pos) (tC (.int i)):=fun _ _ _ H _ I h=>wpAny_Constant_int ⟨.int i,H,I.tok _,⟨_,rfl⟩,h⟩
theorem B4 {b j pos}:PE X (.Constant (.bool b) j pos) (tC (.bl b)):=fun _ _ _ H _ I h=>Constant_bool ⟨.bl b,H,I,rfl,h⟩
theorem S4 {j pos}:PE X (.Constant .none j pos) (tC .non):=fun _ _ _ H _ I h=>Constant_none ⟨.non,H,I,rfl,h⟩
theorem K1 {x j pos}:PE X (.Constant (.str x) j pos) (tC (.str x)):=fun _ _ _ H _ I h=>Calls.Constant_str ⟨.str x,H,I.tok _,⟨_,rfl⟩,h⟩
def Gl (X:Cx)(x:Str):Prop:=X.env.kindOf x=some .globalImplicit
theorem R9 {E:Value->Shared->Prop}{pins:List (Addr×Obj)}{s:Shared}{σ:St}{H:Hp}{x:Str}{u:Value}{pos:Pos}{Q:Value->Shared->Prop}(I:i8 X pins σ H s)(hg:Gl X x)(hm:X.mg x=some u)(h:Q u s)
   (hd:(x==("__debug__":Str))=false:=by decide):wpAny (model X.prog X.w) X.A (eval (.Name x pos) X.env) Q E s:=
 Calls.Name_function_global I.ok.kind hg (Calls.loadGlobal_global (by rw[I.ok.glob];exact I.mod.glob.keeps I.bk) hm h) hd
theorem O3 {E:Value->Shared->Prop}{pins:List (Addr×Obj)}{s:Shared}{σ:St}{H:Hp}{x:Str}{u:Value}{pos:Pos}{Q:Value->Shared->Prop}(I:i8 X pins σ H s)(hg:Gl X x)(hm:X.mg x=none)(hv:bootBuiltins x=some u)(h:Q u s)
   (hn:x≠"__name__":=by decide) (hd:(x==("__debug__":Str))=false:=by decide):wpAny (model X.prog X.w) X.A (eval (.Name x pos) X.env) Q E s:=by
 obtain ⟨mb,h1,h2⟩:=I.mod.blt;exact Calls.Name_function_global I.ok.kind hg (Calls.loadGlobal_builtin (by rw[I.ok.glob];exact I.mod.glob.keeps I.bk) hm (by rw[I.ok.blt];exact h1.keeps I.bk) ((h2 x hn).trans hv) h) hd
theorem D6 {x:Str}{v:V}{u:Value}{pos:Pos}(hg:Gl X x)(hm:X.mg x=some u)(r:o9 v u)(hd:(x==("__debug__":Str))=false:=by decide):PE X (.Name x pos) (tC v):=
 fun _ _ _ H _ I h=>R9 I hg hm ⟨v,H,I,r,h⟩ hd
theorem aa6 {x:Str}{v:V}{u:Value}{pos:Pos}(hg:Gl X x)(hm:X.mg x=none)(hv:bootBuiltins x=some u)(r:o9 v u)(hn:x≠"__name__":=by decide)(hd:(x==("__debug__":Str))=false:=by decide):PE X (.Name x pos) (tC v):=
 fun _ _ _ H _ I h=>O3 I hg hm hv ⟨v,H,I,r,h⟩ hn hd
variable {a b:Expr} {ta tb:TE} {pos:Pos}
def PC (X:Cx)(op:CmpOp)(a b:Expr)(t:TE):Prop:=
 ∀(pins:List (Addr×Obj)) (s:Shared) (σ:St) (H:Hp) (Q:VK),i8 X pins σ H s->t σ H Q->
  wpAny (model X.prog X.w) X.A (eval a X.env) (fun v s₁=>wpAny (model X.prog X.w) X.A (eval b X.env) (fun u s₂=>wpAny (model X.prog X.w) X.A (compareOp op v u) (EP X pins σ Q) X.xe s₂) X.xe s₁) X.xe s
def tB (t:TE):TT:=fun σ H Q=>t σ H fun x H1=>∃c,x= .bl c/\Q c H1
theorem am0 {op:CmpOp}{t:TE}(h:PC X op a b t)(h1:behindInMarks op b=false:=by first|exact nobehind _ (by decide) (by decide)|rfl):PT X (.Compare a [op] [b] pos) (tB t):=by
 intro pins s σ H Q I hw;refine wpAny_isTrue_Compare1 (v0 (h pins s σ H _ I hw) fun v s1 h1=>v0 h1 fun u s2 h2=>v0 h2 fun c s3 ⟨x,H1,I1,r1,q1⟩=> ?_) h1;obtain ⟨d,rfl,q⟩:=q1;cases r1;exact wpAny_truthy_bool ⟨H1,I1,q⟩
theorem C0 {e:Expr}{t:TE}(h:PE X e t)(he:∀whole,isTrue e X.env whole=(do let v <-whole;standAt e.pos;holding [v] (truthy v)):=by intro _;rfl):PT X e (tB t):=by
 intro pins s σ H Q I hw;refine isTrue_plain (v0 (h pins s σ H _ I hw) fun v s1 ⟨x,H1,I1,r1,q1⟩=> ?_) (he _);obtain ⟨d,rfl,q⟩:=q1;cases r1;exact wpAny_truthy_bool ⟨H1,I1,q⟩
variable {tA tB':TT} {rest:List Expr}
def bz1 (t u:TT):TT:=fun σ H Q=>t σ H fun c H1=>if c=true then u σ H1 Q else Q false H1
def tOr (t u:TT):TT:=fun σ H Q=>t σ H fun c H1=>if c=true then Q true H1 else u σ H1 Q
def bz2 (t:TT):TT:=fun σ H Q=>t σ H fun c H1=>Q (!c) H1
theorem as9 (ha:PT X a tA):PW X (.BoolOp .And [a] pos) tA:=by
 intro wh pins s σ H Q I h;refine isTrue_and (v0 (ha pins s σ H Q I h) fun c s1 e=> ?_)
 cases c with
 |true=>exact isTrue_and_nil e
 |false=>exact e
theorem G1 (ha:PT X a tA):PW X (.BoolOp .Or [a] pos) tA:=by
 intro wh pins s σ H Q I h;refine isTrue_or (v0 (ha pins s σ H Q I h) fun c s1 e=> ?_)
 cases c with
 |false=>exact isTrue_or_nil e
 |true=>exact e
theorem az5 (ha:PT X a tA)(hb:PW X (.BoolOp .And (b::rest) pos) tB'):PW X (.BoolOp .And (a::b::rest) pos) (bz1 tA tB'):=by
 intro wh pins s σ H Q I h;refine isTrue_and (v0 (ha pins s σ H _ I h) fun c s1 ⟨H1,I1,q1⟩=> ?_)
 cases c with
 |true=>exact hb wh pins s1 σ H1 Q I1 q1
 |false=>exact ⟨H1,I1,q1⟩
theorem C9 (ha:PT X a tA)(hb:PW X (.BoolOp .Or (b::rest) pos) tB'):PW X (.BoolOp .Or (a::b::rest) pos) (tOr tA tB'):=by
 intro wh pins s σ H Q I h;refine isTrue_or (v0 (ha pins s σ H _ I h) fun c s1 ⟨H1,I1,q1⟩=> ?_)
 cases c with
 |true=>exact ⟨H1,I1,q1⟩
 |false=>exact hb wh pins s1 σ H1 Q I1 q1
theorem C3 (ha:PT X a tA):PT X (.UnaryOp .Not a pos) (bz2 tA):=by
 intro pins s σ H Q I h;exact isTrue_not (ha pins s σ H (fun c H1=>Q (!c) H1) I h)
def bv4 (ta tb:TE):TE:=fun σ H Q=>ta σ H fun x H1=>∃c,x= .bl c/\if c=true then tb σ H1 Q else Q (.bl false) H1
def bv5 (ta:TE):TE:=fun σ H Q=>ta σ H fun x H1=>∃c,x= .bl c/\Q (.bl (!c)) H1
theorem br6 {op}{t:TE}(h:PE X a t):PE X (.BoolOp op [a] pos) t:=fun pins s σ H Q I hw=>BoolOp_one (h pins s σ H Q I hw)
theorem br7 (ha:PE X a ta)(hb:PE X (.BoolOp .And (b::rest) pos) tb):PE X (.BoolOp .And (a::b::rest) pos) (bv4 ta tb):=by
 intro pins s σ H Q I h;refine BoolOp_and (v0 (ha pins s σ H _ I h) fun v s1 ⟨x,H1,I1,r1,q1⟩=> ?_);obtain ⟨c,rfl,q1⟩:=q1;cases r1;refine wpAny_truthy_bool ?_
 cases c with
 |true=>exact hb pins s1 σ H1 Q I1 q1
 |false=>exact ⟨.bl false,H1,I1,rfl,q1⟩
theorem az6 (ha:PE X a ta):PE X (.UnaryOp .Not a pos) (bv5 ta):=by
 intro pins s σ H Q I h;refine UnaryOp_ (v0 (ha pins s σ H _ I h) fun v s1 ⟨x,H1,I1,r1,q1⟩=> ?_);obtain ⟨c,rfl,q1⟩:=q1;cases r1;exact not_of (wpAny_truthy_bool ⟨.bl (!c),H1,I1,rfl,q1⟩)
end
end L2
namespace L2
open PySem PySem.Spec PyProof.Rows
def j4 (K:PySem.W.Frag)(H:Hp)(a:Addr)(xs:List V):Prop:=
 Rd H a (.lst xs)\/
   ∃(o:Obj) (its:Array Value) (n:Nat),K.lookup a=some o/\o.cls= .type "list"/\o.dict=none/\o.data= .seq its n/\its.size<=sizeLine/\k7 xs its.toList
def V2 (K:PySem.W.Frag)(H:Hp)(a:Addr)(xs:List V):Prop:=
 Rd H a (.tup xs)\/
   ∃(o:Obj) (its:Array Value) (n:Nat),K.lookup a=some o/\o.cls= .type "tuple"/\o.data= .seq its n/\its.size<=sizeLine/\k7 xs its.toList
def bz3:Value->Option V
 | .none=>some .non
 | .bool b=>some (.bl b)
 | .int i _=>some (.int i)
 | .str x _=>some (.str x)
 | .bytes b _=>some (.byt b)
 | .float b _=>some (.flt b)
 | .ref a=>some (.ref a)
 | .type n=>some (.ty n)
 |_=>none
theorem o9.abs {x:V}{u:Value}(r:o9 x u):bz3 u=some x:=by
 cases x with
 |non=>cases r;rfl
 |bl _=>cases r;rfl
 |int _=>obtain ⟨t,rfl⟩:=r;rfl
 |str _=>obtain ⟨t,rfl⟩:=r;rfl
 |byt _=>obtain ⟨t,rfl⟩:=r;rfl
 |flt _=>obtain ⟨t,rfl⟩:=r;rfl
 |ref _=>cases r;rfl
 |ty _=>cases r;rfl
theorem o9.inj {x y:V}{u:Value}(r:o9 x u)(q:o9 y u):x=y:=Option.some.inj (r.abs.symm.trans q.abs)
theorem k7.inj:∀{xs ys:List V} {us:List Value},k7 xs us->k7 ys us->xs=ys
 |_,_,_,.nil,.nil=>rfl
 |_,_,_,.cons r t,.cons r' t'=>by rw[r.inj r',k7.inj t t']
section
variable {X:Cx} {pins:List (Addr×Obj)} {σ:St} {H:Hp} {s:Shared} {a:Addr} {xs ys:List V}
theorem j4.of {K:PySem.W.Frag}(h:H a=some (.lst xs)):j4 K H a xs:= .inl (.inl h)
theorem V2.of {K:PySem.W.Frag}(h:H a=some (.tup xs)):V2 K H a xs:= .inl (.inl h)
theorem i8.list (I:i8 X pins σ H s)(h:j4 X.K H a xs):∃its:List Value,k7 xs its/\PlainL s.heap a its.toArray/\xs.length<=sizeLine:=by
 rcases h with h|⟨o,its,n,hk,hc,hd,hs,hz,r⟩
 · obtain ⟨z,its,n,r,e⟩:=h.ok I.hok;exact ⟨its,r,⟨_,n,e,rfl,rfl,rfl⟩,z⟩
 · refine ⟨its.toList,r,⟨o,n,I.kIn a o hk,hc,hd,by simpa using hs⟩,?_⟩;have e:=r.length;simp only[Array.length_toList] at e;omega
theorem i8.tuple (I:i8 X pins σ H s)(h:V2 X.K H a xs):∃its:List Value,k7 xs its/\IsTup s.heap a its.toArray/\xs.length<=sizeLine:=by
 rcases h with h|⟨o,its,n,hk,hc,hs,hz,r⟩
 · obtain ⟨z,its,r,p⟩:=h.ok I.hok;exact ⟨its,r,p,z⟩
 · refine ⟨its.toList,r,⟨o,I.kIn a o hk,hc,n,by simpa using hs⟩,?_⟩;have e:=r.length;simp only[Array.length_toList] at e;omega
theorem i8.list_inj (I:i8 X pins σ H s)(h:j4 X.K H a xs)(h':j4 X.K H a ys):xs=ys:=by
 obtain ⟨its,r,⟨o,n,e,_,_,d⟩,_⟩:=I.list h;obtain ⟨its',r',⟨o',n',e',_,_,d'⟩,_⟩:=I.list h';rw[e] at e';cases e';rw[d] at d'
 injection d' with d1 _
 have:its=its':=by simpa using congrArg Array.toList d1
 subst this;exact r.inj r'
end
abbrev Cx.wish (X:Cx)(E:Value->Shared->Prop):Cx:={X with xe:=E}
abbrev Cx.nox (X:Cx):Cx:=X.wish fun _ _=>False
theorem Cx.Ok.wish {X:Cx}(ok:X.Ok)(E:Value->Shared->Prop):(X.wish E).Ok:=
 ⟨ok.mod,ok.kind,ok.glob,ok.blt,ok.above,ok.inj,ok.has,ok.cab,ok.hd,ok.frames,ok.stk,ok.exf,ok.bs,ok.bsz,ok.noex,ok.exfs,ok.funs,ok.frf⟩
theorem Cx.Ok.unwish {X:Cx}{E:Value->Shared->Prop}(ok:(X.wish E).Ok):X.Ok:=
 ⟨ok.mod,ok.kind,ok.glob,ok.blt,ok.above,ok.inj,ok.has,ok.cab,ok.hd,ok.frames,ok.stk,ok.exf,ok.bs,ok.bsz,ok.noex,ok.exfs,ok.funs,ok.frf⟩
section
variable {X:Cx} {pins:List (Addr×Obj)} {σ:St} {H:Hp} {s:Shared} {E:Value->Shared->Prop}
theorem i8.wish (I:i8 X pins σ H s)(E:Value->Shared->Prop):i8 (X.wish E) pins σ H s:=⟨I.ok.wish E,I.os,I.bare,I.base,I.loc,I.cell,I.free,I.freeC,I.pin,I.hok,I.len⟩
theorem i8.unwish (I:i8 (X.wish E) pins σ H s):i8 X pins σ H s:=⟨I.ok.unwish,I.os,I.bare,I.base,I.loc,I.cell,I.free,I.freeC,I.pin,I.hok,I.len⟩
theorem SP.unwish {D:S3}{f:Flow}{s':Shared}(h:SP (X.wish E) pins D f s'):SP X pins D f s':=by
 cases f with
 |next=>obtain ⟨σ',H',I,q⟩:=h;exact ⟨σ',H',I.unwish,q⟩
 |brk=>obtain ⟨σ',H',I,q⟩:=h;exact ⟨σ',H',I.unwish,q⟩
 |cont=>obtain ⟨σ',H',I,q⟩:=h;exact ⟨σ',H',I.unwish,q⟩
 |ret u=>obtain ⟨v,σ',H',I,r,q⟩:=h;exact ⟨v,σ',H',I.unwish,r,q⟩
theorem Q7.nox {st:List Stmt}{t:TS}(h:Q7 X.nox st t):Q7 X st t:=fun pins s σ H D I hw=>
 wpAny_mono (h pins s σ H D (I.wish _) hw) (fun _ _ q=>q.unwish) fun _ _ z=>False.elim z
end
section
variable {X:Cx} {st:Stmt} {rest:List Stmt} {t u:TS} {e:Expr} {te:TE} {pos:Pos}
def bv6:TS:=fun D σ H=>D.nx σ H
def bz4 (t u:TS):TS:=fun D σ H=>t {D with nx:=u D} σ H
theorem w6:Q7 X [] bv6:=fun _ _ σ H _ I h=>wpAny_execs_nil ⟨σ,H,I,h⟩
theorem i5 (h1:PS X st t)(h2:Q7 X rest u):Q7 X (st::rest) (bz4 t u):=by
 intro pins s σ H D I h;refine wpAny_execs_cons (v0 (h1 pins s σ H {D with nx:=u D} I h) fun f s1 q=> ?_)
 cases f with
 |next=>
  obtain ⟨σ',H',I',q⟩:=q;exact h2 pins s1 σ' H' D I' q
 |ret v=>exact q
 |brk=>exact q
 |cont=>exact q
theorem i9 (h1:PS X st t):Q7 X [st] t:=by
 intro pins s σ H D I h;refine wpAny_execs_cons (v0 (h1 pins s σ H D I h) fun f s1 q=> ?_)
 cases f with
 |next=>exact wpAny_execs_nil q
 |ret v=>exact q
 |brk=>exact q
 |cont=>exact q
theorem i8.quiet {pins:List (Addr×Obj)}{σ:St}{H:Hp}{s:Shared}(I:i8 X pins σ H s):interactive X.env=false:=by simp [interactive,I.ok.kind]
def bv7 (te:TE):TS:=fun D σ H=>te σ H fun _ H1=>D.nx σ H1
theorem C1 (he:PE X e te)(hs:swapsWith e none pos.line X.env=pure false:=by rfl):PS X (.Expr e pos) (bv7 te):=by
 intro pins s σ H D I h;exact wpAny_Expr_any (v0 (he pins s σ H _ I h) fun v s1 ⟨x,H1,I1,r1,q1⟩=>⟨σ,H1,I1,q1⟩) I.quiet hs
def bz5 (te:TE):TS:=fun D σ H=>te σ H D.rt
theorem l7 (he:PE X e te):PS X (.Return (some e) pos) (bz5 te):=by
 intro pins s σ H D I h;exact wpAny_Return_some (v0 (he pins s σ H _ I h) fun v s1 ⟨x,H1,I1,r1,q1⟩=>⟨x,σ,H1,I1,r1,q1⟩)
def br8 (c:TT)(t u:TS):TS:=fun D σ H=>c σ H fun b H1=>if b=true then t D σ H1 else u D σ H1
theorem A3 {c:Expr}{a b:List Stmt}{tc:TT}(hc:PT X c tc)(ha:Q7 X a t)(hb:Q7 X b u):PS X (.If c a b pos) (br8 tc t u):=by
 intro pins s σ H D I h;refine wpAny_If (v0 (hc pins s σ H _ I h) fun d s1 ⟨H1,I1,q1⟩=> ?_)
 cases d with
 |true=>exact ha pins s1 σ H1 D I1 q1
 |false=>exact hb pins s1 σ H1 D I1 q1
def az7:TS:=fun _ _ _=>False
theorem am1:PS X st az7:=fun _ _ _ _ _ _ h=>h.elim
theorem ai3 {sts:List Stmt}:Q7 X sts az7:=fun _ _ _ _ _ _ h=>h.elim
end
abbrev TG:=V->St->Hp->(St->Hp->Prop)->Prop
abbrev TGs:=List V->St->Hp->(St->Hp->Prop)->Prop
def PG (X:Cx)(target:Expr)(t:TG):Prop:=
 ∀(pins:List (Addr×Obj)) (s:Shared) (σ:St) (H:Hp) (v:V) (u:Value) (Q:St->Hp->Prop),i8 X pins σ H s->o9 v u->t v σ H Q->
  wpAny (model X.prog X.w) X.A (assign target X.env u) (fun _ s'=>∃σ' H',i8 X pins σ' H' s'/\Q σ' H') X.xe s
def PGs (X:Cx)(ts:List Expr)(t:TGs):Prop:=
 ∀(pins:List (Addr×Obj)) (s:Shared) (σ:St) (H:Hp) (vs:List V) (us:List Value) (Q:St->Hp->Prop),i8 X pins σ H s->k7 vs us->t vs σ H Q->
  wpAny (model X.prog X.w) X.A (assignInOrder ((assignEach ts X.env).map (·.2)) us) (fun _ s'=>∃σ' H',i8 X pins σ' H' s'/\Q σ' H') X.xe s
abbrev bg3:=V->V->V->Hp->(Hp->Prop)->Prop
def br9 (X:Cx)(t:bg3):Prop:=
 ∀(pins:List (Addr×Obj)) (s:Shared) (σ:St) (H:Hp) (o i v:V) (ov iv u:Value) (Q:Hp->Prop),i8 X pins σ H s->o9 o ov->o9 i iv->o9 v u->t o i v H Q->
  wpAny (model X.prog X.w) X.A (setItem ov iv u) (fun _ s'=>∃H',i8 X pins σ H' s'/\Q H') X.xe s
section
variable {X:Cx} {pos:Pos}
def ae0 (i:Nat):TG:=fun v σ H Q=>Q (σ.set i (some v)) H
theorem A5 {i:Nat}{x:Str}(hN:X.N.Nodup)(hi:X.N[i]? =some x)(hx:Loc X.env.scope x)(hf:X.fn x=true\/X.env.scope.names.lookup x=some .local:=by first|exact .inl rfl|exact .inr rfl|assumption):PG X (.Name x pos) (ae0 i):=by
 intro pins s σ H v u Q I r h;exact wpAny_assign_Name (ac2 I hN hi hx r (fun s' I'=>⟨_,H,I',h⟩) hf)
def bz6:TGs:=fun vs σ H Q=>vs=[]/\Q σ H
def bv8 (t:TG)(u:TGs):TGs:=fun vs σ H Q=>∃v r,vs=v::r/\t v σ H fun σ' H'=>u r σ' H' Q
theorem bm5:PGs X [] bz6:=by
 intro pins s σ H vs us Q I r h;obtain ⟨e,h⟩:=h;subst e;cases r;exact assignInOrder_nil ⟨σ,H,I,h⟩
theorem am3 {e:Expr}{es:List Expr}{t:TG}{u:TGs}(h1:PG X e t)(h2:PGs X es u)
   (hs:(assignEach (e::es) X.env).map (·.2)=assign e X.env::(assignEach es X.env).map (·.2):=by rfl):PGs X (e::es) (bv8 t u):=by
 intro pins s σ H vs us Q I r h;obtain ⟨v,vr,e1,h⟩:=h;subst e1
 cases r with
 |cons r rr=>
  rw[hs];refine assignInOrder_cons (v0 (h1 pins s σ H _ _ _ I r h) fun _ s1 ⟨σ1,H1,I1,q1⟩=> ?_);exact h2 pins s1 σ1 H1 _ _ Q I1 rr q1
def bz7 (K:PySem.W.Frag)(n:Nat)(t:TGs):TG:=fun v σ H Q=>∃a xs,v= .ref a/\V2 K H a xs/\xs.length=n/\t xs σ H Q
theorem bs0 {es:List Expr}{k:Nat}{t:TGs}{n:Nat}(hc:X.calm=true)(h:PGs X es t)
   (hn:(assignEach es X.env).length=n:=by rfl) (hst:(assignEach es X.env).findIdx? (·.1)=none:=by rfl):PG X (.Tuple es k pos) (bz7 X.K n t):=by
 intro pins s σ H v u Q I r hw;obtain ⟨a,xs,e1,hq,hl,hw⟩:=hw;subst e1;cases r;obtain ⟨its,rv,ht,hz⟩:=I.tuple hq
 refine assign_Tuple_tuple (I.ok.hd hc) ht (by simp [hn,<-hl,rv.length]) hst fun h' hx=> ?_
 have I1:i8 X pins σ H {s with heap:=h'}:=I.kept (t':=s.toks) fun b o e=>hx b o (ce1 (Heap.lt_size e)) e
 exact h pins _ σ H xs _ Q I1 (by simpa using rv) hw
def bz8 (to ti:TE)(t:bg3):TG:=fun v σ H Q=>to σ H fun o H1=>ti σ H1 fun i H2=>t o i v H2 fun H3=>Q σ H3
theorem V3 {o i:Expr}{to ti:TE}{t:bg3}(ho:PE X o to)(hi:PE X i ti)(hs:br9 X t)
   (ha:∀v,assign (.Subscript o i pos) X.env v=(do
     let ov <-holding [v] (eval o X.env)
     let iv <-holding [v,ov] (eval i X.env)
     standAt pos
     holding [v,ov,iv] (setItem ov iv v)
     release [v,ov,iv] []):=by intro _;rfl):PG X (.Subscript o i pos) (bz8 to ti t):=by
 intro pins s σ H v u Q I r h;rw[ha];refine wpAny_bind (wpAny_holding (v0 (ho pins s σ H _ I h) fun ov s1 ⟨x,H1,I1,r1,q1⟩=> ?_));refine wpAny_bind (wpAny_holding (v0 (hi pins s1 σ H1 _ I1 q1) fun iv s2 ⟨y,H2,I2,r2,q2⟩=> ?_));refine wpAny_bind (wpAny_standAt (wpAny_bind (wpAny_holding (v0 (hs pins s2 σ H2 x y v ov iv u _ I2 r1 r2 r q2) fun _ s3 ⟨H3,I3,q3⟩=> ?_))));exact wpAny_release ⟨σ,H3,I3,q3⟩
def bs1 (te:TE)(g:TG):TS:=fun D σ H=>te σ H fun x H1=>g x σ H1 D.nx
theorem V4 {tg e:Expr}{te:TE}{g:TG}(he:PE X e te)(hg:PG X tg g)(hs:swapsWithSole [tg] e pos.line X.env=pure false:=by rfl)(hw:swappedStores [tg] e X.env=pure none:=by rfl)
   (h1:(assignEach [tg] X.env).map (·.2)=[assign tg X.env]:=by rfl):PS X (.Assign [tg] e pos) (bs1 te g):=by
 intro pins s σ H D I h;refine wpAny_Assign_stores (v0 (he pins s σ H _ I h) fun v s1 ⟨x,H1,I1,r1,q1⟩=> ?_) hs hw;rw[h1]
 exact v0 (hg pins s1 σ H1 x v _ I1 r1 q1) fun _ s2 q=>q
theorem j9 {i:Nat}{x:Str}{e:Expr}{te:TE}{pos':Pos}(hN:X.N.Nodup)(hi:X.N[i]? =some x)(hx:Loc X.env.scope x)(he:PE X e te)(hs:swapsWith e (some (.Name x pos')) pos.line X.env=pure false:=by rfl)(hf:X.fn x=true\/X.env.scope.names.lookup x=some .local:=by first|exact .inl rfl|exact .inr rfl|assumption):
   PS X (.Assign [.Name x pos'] e pos) (bs1 te (ae0 i)):=by
 intro pins s σ H D I h;refine wpAny_Assign_Name (v0 (he pins s σ H _ I h) fun v s1 ⟨y,H1,I1,r1,q1⟩=> ?_) hs;exact ac2 I1 hN hi hx r1 (fun s2 I2=>⟨_,H1,I2,q1⟩) hf
end
section
variable {X:Cx} {pos:Pos}
def az8 (c:TT)(tb:TS):TS:=fun D σ H=>∃W:Nat->St->Hp->Prop,(∃m,W m σ H)/\∀m σ H,W m σ H->
 c σ H fun b H1=>if b=true then ∃N:St->Hp->Prop,(∀σ' H',N σ' H'->∃m',m' < m/\W m' σ' H')/\tb {D with nx:=N,ct:=N,bk:=D.nx} σ H1 else D.nx σ H1
theorem ac3 {c:Expr}{body:List Stmt}{tc:TT}{tb:TS}(hp:PassesOwn (model X.prog X.w) X.A X.env X.xe)(hc:PT X c tc)(hb:Q7 X body tb):PS X (.While c body [] pos) (az8 tc tb):=by
 intro pins s σ H D I h;obtain ⟨W,⟨m0,w0⟩,turn⟩:=h;refine wpAny_While (codeAny_whileLoop (fun n s'=>∃σ' H',i8 X pins σ' H' s'/\W n σ' H') ?_ m0 ⟨σ,H,I,w0⟩);rintro n s1 ⟨σ1,H1,I1,w1⟩;refine wpAny_passesOwn hp (v0 (hc pins s1 σ1 H1 _ I1 (turn n σ1 H1 w1)) fun b s2 ⟨H2,I2,q2⟩=> ?_)
 cases b with
 |true=>
  obtain ⟨N,hN,q2⟩:=q2;rw[if_pos rfl];refine wpAny_passesOwn hp (v0 (hb pins s2 σ1 H2 _ I2 q2) fun f s3 q3=> ?_)
  cases f with
  |next=>
   obtain ⟨σ3,H3,I3,n3⟩:=q3;obtain ⟨m',hm,w3⟩:=hN σ3 H3 n3;exact ⟨m',hm,σ3,H3,I3,w3⟩
  |cont=>
   obtain ⟨σ3,H3,I3,n3⟩:=q3;obtain ⟨m',hm,w3⟩:=hN σ3 H3 n3;exact ⟨m',hm,σ3,H3,I3,w3⟩
  |brk=>exact q3
  |ret v=>exact q3
 |false=>
  rw[if_neg cd1];exact wpAny_execs_nil ⟨σ1,H2,I2,q2⟩
end
structure It where
 go:Nat->Hp->Prop
 yld:Nat->Hp->V->Hp->Prop
 stop:Nat->Hp->Prop
def Y8 (X:Cx)(pins:List (Addr×Obj))(H:Hp)(b:Addr):Prop:=
 H b=none/\b≠X.env.locals/\b∉X.fs/\(b∈X.ex\/X.s₀.heap.objs.size<=b)/\(∀x c,X.env.cells.lookup x=some c->c≠b)/\∀p∈X.pn++pins,p.1≠b
theorem i8.fpOk {X:Cx}{pins:List (Addr×Obj)}{σ:St}{H H':Hp}{s:Shared}{b:Addr}(I:i8 X pins σ H s)(hb:s.heap.objs.size<=b)(hn:H' b=none):Y8 X pins H' b:=by
 refine ⟨hn,ci1 (cd8 I.lt hb),I.nofs hb,.inr (cd3 I.sz hb),fun x c e z=> ?_,fun p hp z=> ?_⟩
 · obtain ⟨v,q⟩:=I.cell x c e;exact absurd (cd8 q.lt (by rw[z];exact hb)) (cg6 _)
 · exact absurd (cd8 (Heap.lt_size (I.pin p hp).1) (by rw[z];exact hb)) (cg6 _)
structure av1 (P:Program)(w:World)(K:PySem.W.Frag)(tg:Expr)(J:It)(fp:List Addr)(it:Addr)(tn:Nat->Heap->Prop):Prop where
 mem:it∈fp
 obj:∀i h,tn i h->∀b∈fp,∃o,h.get? b=some o/\∀v,o.data≠.cell v
 keep:∀i h h',tn i h->(∀b∈fp,∀o,h.get? b=some o->h'.get? b=some o)->tn i h'
 item:∀(X:Cx),X.prog=P->X.w=w->X.K=K->X.calm=true->∀(i:Nat) (pins:List (Addr×Obj)) (s:Shared) (σ:St) (H:Hp) (E:Value->Shared->Prop),i8 X pins σ H s->(∀b∈fp,Y8 X pins H b)->tn i s.heap->J.go i H->
   wpAny (model P w) X.A (pyNext (.ref it)) (fun r s1=>∃u,r=some u/\
     wpAny (model P w) X.A (letOwnedTupleGo tg (.ref it) u) (fun _ s2=>∃x H',i8 X pins σ H' s2/\o9 x u/\J.yld i H x H'/\tn (i+1) s2.heap/\∀b∈fp,H' b=none) E s1) E s
 done:∀(X:Cx),X.prog=P->X.w=w->X.K=K->X.calm=true->∀(i:Nat) (pins:List (Addr×Obj)) (s:Shared) (σ:St) (H:Hp) (E:Value->Shared->Prop),i8 X pins σ H s->(∀b∈fp,Y8 X pins H b)->tn i s.heap->J.stop i H->
   wpAny (model P w) X.A (pyNext (.ref it)) (fun r s1=>r=none/\i8 X pins σ H s1) E s
 self:∀(A:Around) (i:Nat) (s:Shared) (Q:Value->Shared->Prop) (E:Value->Shared->Prop),tn i s.heap->Q (.ref it) s->wpAny (model P w) A (pyIter (.ref it)) Q E s
abbrev TI:=St->Hp->(It->Hp->Prop)->Prop
def PIE (X:Cx)(pins:List (Addr×Obj))(σ:St)(tg:Expr)(R:It->Hp->Prop)(itv:Value)(s2:Shared):Prop:=
 ∃(it:Addr) (fp:List Addr) (tn:Nat->Heap->Prop) (J:It) (H':Hp),itv= .ref it/\i8 X pins σ H' s2/\av1 X.prog X.w X.K tg J fp it tn/\tn 0 s2.heap/\(∀b∈fp,Y8 X pins H' b)/\R J H'
def PI (X:Cx)(tg iter:Expr)(wi:TI):Prop:=
 ∀(pins:List (Addr×Obj)) (s:Shared) (σ:St) (H:Hp) (R:It->Hp->Prop),i8 X pins σ H s->wi σ H R->
  wpAny (model X.prog X.w) X.A (eval iter X.env) (fun v s1=>wpAny (model X.prog X.w) X.A (pyIter v) (PIE X pins σ tg R) X.xe s1) X.xe s
theorem bk7 {M:Model}{A:Around}{E:Value->Shared->Prop}{s:Shared}{tg:Expr}{it:Addr}{u:Value}{o:Obj}{n:String}{vs:Array Value}{Q:Unit->Shared->Prop}(ho:s.heap.get? it=some o)(hc:o.cls= .type n)(hd:o.data= .fields vs)
   (hn:["enumerate","zip","dict_itemiterator","dict_reverseitemiterator","odict_iterator","itertools.zip_longest","itertools.pairwise"].contains n=false) (hQ:Q () s):wpAny M A (letOwnedTupleGo tg (.ref it) u) Q E s:=by
 unfold letOwnedTupleGo
 cases tg<;>first
   |exact wpAny_pure hQ
   |(cases u<;>first
       |exact wpAny_pure hQ
       |(refine wpAny_bind (wpAny_load ho ?_)
         rw[hc,hd];show wpAny M A (if (["enumerate","zip","dict_itemiterator","dict_reverseitemiterator","odict_iterator","itertools.zip_longest","itertools.pairwise"].contains n&&vs[0]? ==some (rawInt _))=true then _ else _) Q E s;rw[if_neg (by intro h;rw[hn,Bool.false_and] at h;cases h)]
         exact wpAny_pure hQ))
def Itl (K:PySem.W.Frag)(a:Addr):It:=
 ⟨fun i H=>∃xs x,j4 K H a xs/\xs[i]? =some x,fun i H x H'=>H'=H/\∀xs,j4 K H a xs->xs[i]? =some x,fun i H=>∃xs,j4 K H a xs/\xs.length<=i⟩
def Itr (lo:Int)(n:Nat):It:=⟨fun i _=>i < n,fun i H x H'=>H'=H/\x= .int (lo+i),fun i _=>n<=i⟩
theorem az9 {P:Program}{w:World}{K:PySem.W.Frag}{tg:Expr}(a it:Addr):av1 P w K tg (Itl K a) [it] it (fun i h=>h.IsListIter it a i) where
 mem:=by simp
 obj:=fun i h st b hb=>by
   have e:b=it:=by simpa using hb
   subst e;obtain ⟨o,e,c,d⟩:=st;exact ⟨o,e,fun v z=>by rw[d] at z;cases z⟩
 keep:=fun i h h' st k=>st.at fun o e=>k it (by simp) o e
 item:=by
   intro X hP hw hK hc i pins s σ H E I hf st hg;subst hP hw hK;obtain ⟨xs,x,hq,hx⟩:=hg;obtain ⟨its,rv,p,hz⟩:=I.list hq;obtain ⟨u,hu,ru⟩:=rv.get hx;obtain ⟨f0,f1,f2,f3,f4,f5⟩:=hf it (by simp)
   refine wpAny_pyNext_list_item st p.isList (x:=u) (by simpa using hu) fun h' st' sb=> ?_
   have I1:i8 X pins σ H {s with heap:=h'}:=I.turned (t':=s.toks) (fun b o hb e=>(sb.2 b hb).trans e) f0 f1 f3 f4 f5;obtain ⟨o,e,c,d⟩:=id st';exact ⟨u,rfl,bk7 (s:={s with heap:=h'}) e c d (by decide) ⟨x,H,I1,ru,⟨rfl,fun ys hy=>by rw[I.list_inj hy hq];exact hx⟩,st',fun b hb=>(hf b hb).1⟩⟩
 done:=by
   intro X hP hw hK hc i pins s σ H E I hf st hg;subst hP hw hK;obtain ⟨xs,hq,hx⟩:=hg;obtain ⟨its,rv,p,hz⟩:=I.list hq;obtain ⟨f0,f1,f2,f3,f4,f5⟩:=hf it (by simp);have hl:=rv.length
   exact wpAny_pyNext_list_end (I.ok.hd hc) st p.isList (by simp;omega) fun h' eb=>⟨rfl,I.turned (t':=s.toks) (fun b o hb e=>eb b o hb e) f0 f1 f3 f4 f5⟩
 self:=fun _ _ _ _ _ st h=>wpAny_pyIter_listiter st h
theorem av2 {P:Program}{w:World}{K:PySem.W.Frag}{tg:Expr}(it:Addr)(lo:Int)(n:Nat):av1 P w K tg (Itr lo n) [it] it (fun i h=>IsRangeIter h it (lo+(i:Nat)*1) ((n:Int) - (i:Nat)) 1) where
 mem:=by simp
 obj:=fun i h st b hb=>by
   have e:b=it:=by simpa using hb
   subst e
   exact ⟨_,st,fun v z=>by
     have z':Data.fields _=Data.cell v:=z
     cases z'⟩
 keep:=fun i h h' st k=>k it (by simp) _ st
 item:=by
   intro X hP hw hK hc i pins s σ H E I hf st hg;subst hP hw hK;obtain ⟨f0,f1,f2,f3,f4,f5⟩:=hf it (by simp);have W:=Walks.range (prog:=X.prog) (w:=X.w) (I.ok.hd hc) it lo 1 n
   refine W.item i s _ _ hg st fun v h' tk hv st' kk=> ?_
   obtain ⟨t,rfl⟩:=hv;have I1:i8 X pins σ H {s with heap:=h',toks:=tk}:=I.turned (fun b o hb e=>kk b o (by simpa using hb) e) f0 f1 f3 f4 f5;refine ⟨_,rfl,bk7 (s:={s with heap:=h',toks:=tk}) (n:="range_iterator") st' rfl rfl (by decide) ⟨.int (lo+i),H,I1,⟨t,?_⟩,⟨rfl,rfl⟩,st',fun b hb=>(hf b hb).1⟩⟩;rw[Int.mul_one]
 done:=by
   intro X hP hw hK hc i pins s σ H E I hf st hg;subst hP hw hK;obtain ⟨f0,f1,f2,f3,f4,f5⟩:=hf it (by simp)
   exact wpAny_pyNext_range_end (I.ok.hd hc) st (by have:n<=i:=hg;omega) fun h' eb=>⟨rfl,I.turned (t':=s.toks) (fun b o hb e=>eb b o hb e) f0 f1 f3 f4 f5⟩
 self:=fun _ _ _ _ _ st h=>wpAny_pyIter_rangeiter st h
end L2
namespace L2
open PySem PySem.Spec PyProof.Rows
section
variable {X:Cx} {tg:Expr}
def bv9 (K:PySem.W.Frag)(tl:TE):TI:=fun σ H R=>tl σ H fun x H1=>∃a,x= .ref a/\(∃xs,j4 K H1 a xs)/\R (Itl K a) H1
theorem D7 {l:Expr}{tl:TE}(hl:PE X l tl):PI X tg l (bv9 X.K tl):=by
 intro pins s σ H R I h
 refine v0 (hl pins s σ H _ I h) fun v s1 ⟨x,H1,I1,r1,q1⟩=> ?_
 obtain ⟨a,e,⟨xs,hq⟩,q⟩:=q1;subst e;cases r1;obtain ⟨its,rv,p,hz⟩:=I1.list hq;refine wpAny_pyIter_list p.isList ?_;refine ⟨s1.heap.objs.size,[s1.heap.objs.size],_,_,H1,rfl,I1.kept (t':=s1.toks) fun b o e=>Heap.get?_push_of_some _ e,az9 a _,⟨_,Heap.get?_push_size _ rfl,rfl,rfl⟩,fun b hb=> ?_,q⟩
 have e:b=s1.heap.objs.size:=by simpa using hb
 subst e;exact I1.fpOk (cd5 _) (I1.hok.fresh (cd5 _))
theorem bg4 {pins:List (Addr×Obj)}{σ:St}{H:Hp}{s:Shared}{R:It->Hp->Prop}{E:Value->Shared->Prop}{lo hi:Int}{t u v:Tok}{tk:Nat}(I:i8 X pins σ H s)(h1: -(2^62)<=lo)(h2:lo < 2^62)(h3: -(2^62)<=hi)(h4:hi < 2^62)
   (q:R (Itr lo (hi - lo).toNat) H):wpAny (model X.prog X.w) X.A (pyIter (.ref s.heap.objs.size)) (PIE X pins σ tg R) E {s with heap:=s.heap.push {cls:= .type "range",data:= .fields #[.int lo t,.int hi u,.int 1 v]},toks:=tk}:=by
 refine wpAny_pyIter_range (IsRange.new ..) (small_one h1 h2 h3 h4) ?_
 have I1:i8 X pins σ H {s with heap:=s.heap.push {cls:= .type "range",data:= .fields #[.int lo t,.int hi u,.int 1 v]},toks:=tk}:=I.kept fun b o e=>Heap.get?_push_of_some _ e
 refine ⟨(s.heap.push {cls:= .type "range",data:= .fields #[.int lo t,.int hi u,.int 1 v]}).objs.size,[(s.heap.push {cls:= .type "range",data:= .fields #[.int lo t,.int hi u,.int 1 v]}).objs.size],_,_,H,rfl,
   I1.kept (t':=tk) fun b o e=>Heap.get?_push_of_some _ e,av2 _ lo (hi - lo).toNat,?_,fun b hb=> ?_,q⟩
 · have e1:lo+((0:Nat):Int)*1=lo:=by simp
   have e2:(((hi - lo).toNat:Nat):Int) - ((0:Nat):Int)=Builtin.Range.rangeSize lo hi 1:=by rw[rangeSize_one];split<;>omega
   show IsRangeIter _ _ (lo+((0:Nat):Int)*1) ((((hi - lo).toNat:Nat):Int) - ((0:Nat):Int)) 1;rw[e1,e2];exact Heap.get?_push_size _ rfl
 · have e:b=(s.heap.push {cls:= .type "range",data:= .fields #[.int lo t,.int hi u,.int 1 v]}).objs.size:=by simpa using hb
   subst e;exact I1.fpOk (cd5 _) (I1.hok.fresh (cd5 _))
def bw0 (ta:TA):TI:=fun σ H R=>ta σ H fun vs H1=>∃j:Int,vs=[.int j]/\ -(2^62)<=j/\j < 2^62/\R (Itr 0 j.toNat) H1
theorem K8 {a:Expr}{ta:TA}{p pos:Pos}(hg:Gl X "range")(hm:X.mg "range"=none)(ha:PA X [a] ta)(hs:starEach [a] X.env=[(false,eval a X.env)]:=by rfl):PI X tg (.Call (.Name "range" p) [a] [] pos) (bw0 ta):=by
 intro pins s σ H R I h;refine Call_ (O3 I hg hm boot_range (PyProof.Rows.callWith_type1 (v0 (ha pos pins s σ H _ I h) fun us s1 ⟨vs,H1,I1,r1,q1⟩=> ?_) hs rfl));obtain ⟨j,e,q1,q2,q⟩:=q1;subst e
 cases r1 with
 |cons r rr=>
  cases rr;obtain ⟨t,rfl⟩:=r;exact call_range_1 (bg4 I1 (by omega) (by omega) q1 q2 (by simpa using q))
def bz9 (wi:TI)(g:TG)(tb:TS):TS:=fun D σ H=>wi σ H fun J H1=>∃W:Nat->Nat->St->Hp->Prop,(∃m,W 0 m σ H1)/\∀i m σ H,W i m σ H->
 (J.stop i H/\D.nx σ H)\/(J.go i H/\∃N:St->Hp->Prop,(∀σ' H',N σ' H'->∃m',m' < m/\W (i+1) m' σ' H')/\∀x H',J.yld i H x H'->g x σ H' fun σ2 H2=>tb {D with nx:=N,ct:=N,bk:=D.nx} σ2 H2)
def S5 (fp:List Addr)(h:Heap):List (Addr×Obj):=fp.filterMap fun b=>(h.get? b).map fun o=>(b,o)
theorem R0 {fp:List Addr}{h:Heap}{b:Addr}{o:Obj}(hb:b∈fp)(e:h.get? b=some o):(b,o)∈S5 fp h:=ck7.mpr ⟨b,hb,by rw[e];rfl⟩
theorem ai4 {fp:List Addr}{h:Heap}{p:Addr×Obj}(hp:p∈S5 fp h):p.1∈fp/\h.get? p.1=some p.2:=by
 obtain ⟨b,hb,e⟩:=ck7.mp hp
 cases q:h.get? b with
 |none=>rw[q] at e;cases e
 |some o=>
  rw[q] at e;have e':(b,o)=p:=Option.some.inj e;subst e';exact ⟨hb,q⟩
theorem i8.pinned {pins:List (Addr×Obj)}{σ:St}{H:Hp}{s:Shared}{fp:List Addr}(I:i8 X pins σ H s)(hf:∀b∈fp,Y8 X pins H b)(ho:∀b∈fp,∃o,s.heap.get? b=some o/\∀v,o.data≠.cell v):i8 X (pins++S5 fp s.heap) σ H s:=
 I.pins_of fun p hp=>(cd2.mp hp).elim (fun z=>I.pin p (cd4 _ z)) fun z=>by
   obtain ⟨hb,e⟩:=ai4 z;obtain ⟨f0,f1,f2,_⟩:=hf p.1 hb;obtain ⟨o,e',d⟩:=ho p.1 hb;rw[e] at e';cases e';exact ⟨e,f0,f1,f2,d⟩
theorem i8.unpinned {pins pl:List (Addr×Obj)}{σ:St}{H:Hp}{s:Shared}(I:i8 X (pins++pl) σ H s):i8 X pins σ H s:=I.pins_of fun p hp=>I.pin p (cd4 _ (cf8 _ hp))
theorem D9 {iter:Expr}{body:List Stmt}{wi:TI}{g:TG}{tb:TS}{pos:Pos}(hp:PassesOwn (model X.prog X.w) X.A X.env X.xe)(hc:X.calm=true)(hi:PI X tg iter wi)(hg:PG X tg g)(hb:Q7 X body tb)
   (hs:∀x,foldedSetIterable iter X.env x=pure x:=by intro _;rfl):PS X (.For tg iter body [] pos) (bz9 wi g tb):=by
 intro pins s σ H D I h;refine wpAny_For (v0 (hi pins s σ H _ I h) fun v s1 h1=>v0 h1 fun itv s2 h2=> ?_) hs;obtain ⟨it,fp,tn,J,H2,e,I2,T,st2,f2,W,⟨m0,w0⟩,turn⟩:=h2;subst e
 have stat:∀{H':Hp},(∀b∈fp,H' b=none)->∀b∈fp,Y8 X pins H' b:=fun hn b hb=>⟨hn b hb,(f2 b hb).2⟩
 refine codeAny_forLoop_any (fun n s'=>∃i σ' H',i8 X pins σ' H' s'/\tn i s'.heap/\(∀b∈fp,H' b=none)/\W i n σ' H') ?_ m0 ⟨0,σ,H2,I2,st2,fun b hb=>(f2 b hb).1,w0⟩;rintro n s3 ⟨i,σ3,H3,I3,st3,fr3,w3⟩
 rcases turn i n σ3 H3 w3 with ⟨stop,qn⟩|⟨go,N,hN,step⟩
 · refine wpAny_passesOwn hp (v0 (T.done X rfl rfl rfl hc i pins s3 σ3 H3 X.xe I3 (stat fr3) st3 stop) fun r s4 ⟨hr,I4⟩=> ?_);subst hr;exact wpAny_execs_nil ⟨σ3,H3,I4,qn⟩
 · refine wpAny_passesOwn hp (v0 (T.item X rfl rfl rfl hc i pins s3 σ3 H3 X.xe I3 (stat fr3) st3 go) fun r s4 ⟨u,hr,h4⟩=> ?_);subst hr;refine wpAny_passesOwn hp (v0 h4 fun _ s5 ⟨x,H5,I5,r5,y5,st5,fr5⟩=> ?_);have I5':=I5.pinned (stat fr5) (T.obj _ _ st5);refine wpAny_passesOwn hp (v0 (hg _ s5 σ3 H5 x u _ I5' r5 (step x H5 y5)) fun _ s6 ⟨σ6,H6,I6,q6⟩=> ?_);refine wpAny_passesOwn hp (v0 (hb _ s6 σ6 H6 _ I6 q6) fun f s7 q7=> ?_)
   have again:∀{σ7:St} {H7:Hp},i8 X (pins++S5 fp s5.heap) σ7 H7 s7->N σ7 H7->∃m,m < n/\∃i σ' H',i8 X pins σ' H' s7/\tn i s7.heap/\(∀b∈fp,H' b=none)/\W i m σ' H':=fun {σ7 H7} I7 n7=>by
     obtain ⟨m',hm,w7⟩:=hN σ7 H7 n7;refine ⟨m',hm,i+1,σ7,H7,I7.unpinned,T.keep _ _ _ st5 fun b hb o e=>(I7.pin (b,o) (cd4 _ (cd4 _ (R0 hb e)))).1,fun b hb=> ?_,w7⟩;obtain ⟨o,e,d⟩:=T.obj _ _ st5 b hb;exact (I7.pin (b,o) (cd4 _ (cd4 _ (R0 hb e)))).2.1
   cases f with
   |next=>obtain ⟨σ7,H7,I7,n7⟩:=q7;exact again I7 n7
   |cont=>obtain ⟨σ7,H7,I7,n7⟩:=q7;exact again I7 n7
   |brk=>obtain ⟨σ7,H7,I7,q7⟩:=q7;exact ⟨σ7,H7,I7.unpinned,q7⟩
   |ret v=>obtain ⟨x7,σ7,H7,I7,r7,q7⟩:=q7;exact ⟨x7,σ7,H7,I7.unpinned,r7,q7⟩
end
theorem E8 {K:PySem.W.Frag}{a:Addr}{xs:List V}{g:TG}{tb:TS}{D:S3}{σ:St}{H:Hp}(Pv:Nat->St->Hp->Prop)(h0:Pv 0 σ H)(hl:∀i σ H,i<=xs.length->Pv i σ H->j4 K H a xs)
   (hs:∀i x σ H,xs[i]? =some x->Pv i σ H->g x σ H fun σ2 H2=>tb {D with nx:=Pv (i+1),ct:=Pv (i+1),bk:=D.nx} σ2 H2) (hd:∀σ H,Pv xs.length σ H->D.nx σ H):
   ∃W:Nat->Nat->St->Hp->Prop,(∃m,W 0 m σ H)/\∀i m σ H,W i m σ H->
    ((Itl K a).stop i H/\D.nx σ H)\/((Itl K a).go i H/\∃N:St->Hp->Prop,(∀σ' H',N σ' H'->∃m',m' < m/\W (i+1) m' σ' H')/\∀x H',(Itl K a).yld i H x H'->g x σ H' fun σ2 H2=>tb {D with nx:=N,ct:=N,bk:=D.nx} σ2 H2):=by
 refine ⟨fun i m σ H=>m=xs.length - i/\i<=xs.length/\Pv i σ H,⟨xs.length,by simp,cg0 _,h0⟩,?_⟩;rintro i m σ H ⟨rfl,hi,p⟩;have q:=hl i σ H hi p
 by_cases hlt:i < xs.length
 · refine .inr ⟨⟨xs,xs[i],q,by simp [hlt]⟩,Pv (i+1),fun σ' H' p'=>⟨xs.length - (i+1),by omega,rfl,hlt,p'⟩,fun x H' y=> ?_⟩;obtain ⟨e,y⟩:=y;subst e;exact hs i x σ _ (y xs q) p
 · have e:i=xs.length:=by omega
   subst e;exact .inl ⟨⟨xs,q,cd5 _⟩,hd σ H p⟩
theorem U3 {lo:Int}{n:Nat}{g:TG}{tb:TS}{D:S3}{σ:St}{H:Hp}(Pv:Nat->St->Hp->Prop)(h0:Pv 0 σ H)
   (hs:∀i σ H,i < n->Pv i σ H->g (.int (lo+i)) σ H fun σ2 H2=>tb {D with nx:=Pv (i+1),ct:=Pv (i+1),bk:=D.nx} σ2 H2) (hd:∀σ H,Pv n σ H->D.nx σ H):
   ∃W:Nat->Nat->St->Hp->Prop,(∃m,W 0 m σ H)/\∀i m σ H,W i m σ H->
    ((Itr lo n).stop i H/\D.nx σ H)\/((Itr lo n).go i H/\∃N:St->Hp->Prop,(∀σ' H',N σ' H'->∃m',m' < m/\W (i+1) m' σ' H')/\∀x H',(Itr lo n).yld i H x H'->g x σ H' fun σ2 H2=>tb {D with nx:=N,ct:=N,bk:=D.nx} σ2 H2):=by
 refine ⟨fun i m σ H=>m=n - i/\i<=n/\Pv i σ H,⟨n,by simp,cg0 _,h0⟩,?_⟩;rintro i m σ H ⟨rfl,hi,p⟩
 by_cases hlt:i < n
 · refine .inr ⟨hlt,Pv (i+1),fun σ' H' p'=>⟨n - (i+1),by omega,rfl,hlt,p'⟩,fun x H' y=> ?_⟩;obtain ⟨e,y⟩:=y;subst e y;exact hs i σ _ hlt p
 · have e:i=n:=by omega
   subst e;exact .inl ⟨cd5 _,hd σ H p⟩
theorem ac4 {c:TT}{tb:TS}{D:S3}{σ:St}{H:Hp}(Pv:St->Hp->Prop)(μ:St->Hp->Nat)(h0:Pv σ H)
   (hs:∀σ H,Pv σ H->c σ H fun b H1=>if b=true then tb {D with nx:=fun σ' H'=>Pv σ' H'/\μ σ' H' < μ σ H,ct:=fun σ' H'=>Pv σ' H'/\μ σ' H' < μ σ H,bk:=D.nx} σ H1 else D.nx σ H1)
   (mono:∀σ H Q Q',(∀b H1,Q b H1->Q' b H1)->c σ H Q->c σ H Q'):az8 c tb D σ H:=by
 refine ⟨fun m σ H=>m=μ σ H/\Pv σ H,⟨_,rfl,h0⟩,?_⟩;rintro m σ H ⟨rfl,p⟩;refine mono σ H _ _ (fun b H1 q=> ?_) (hs σ H p)
 cases b with
 |true=>exact ⟨_,fun σ' H' ⟨p',l⟩=>⟨_,l,rfl,p'⟩,q⟩
 |false=>exact q
end L2
namespace L2
open PySem PySem.Spec PyProof.Rows
abbrev R2:=V->V->Hp->VK->Prop
def G2 (X:Cx)(f:Value->Value->Sem Value)(r:R2):Prop:=
 ∀(pins:List (Addr×Obj)) (s:Shared) (σ:St) (H:Hp) (x y:V) (v u:Value) (Q:VK),i8 X pins σ H s->o9 x v->o9 y u->r x y H Q->
  wpAny (model X.prog X.w) X.A (f v u) (EP X pins σ Q) X.xe s
def UnR (X:Cx)(f:Value->Sem Value)(r:V->Hp->VK->Prop):Prop:=
 ∀(pins:List (Addr×Obj)) (s:Shared) (σ:St) (H:Hp) (x:V) (v:Value) (Q:VK),i8 X pins σ H s->o9 x v->r x H Q->
  wpAny (model X.prog X.w) X.A (f v) (EP X pins σ Q) X.xe s
def E4 (X:Cx)(f:Value)(r:List V->Hp->VK->Prop):Prop:=
 ∀(pins:List (Addr×Obj)) (s:Shared) (σ:St) (H:Hp) (xs:List V) (us:List Value) (Q:VK),i8 X pins σ H s->k7 xs us->r xs H Q->
  wpAny (model X.prog X.w) X.A (call f us) (EP X pins σ Q) X.xe s
def tOp (r:R2)(ta tb:TE):TE:=fun σ H Q=>ta σ H fun x H1=>tb σ H1 fun y H2=>r x y H2 Q
def tUn (r:V->Hp->VK->Prop)(ta:TE):TE:=fun σ H Q=>ta σ H fun x H1=>r x H1 Q
def rI (C:Int->Int->Prop)(g:Int->Int->V):R2:=fun x y H Q=>∃i j,x= .int i/\y= .int j/\C i j/\Q (g i j) H
def rI0 (g:Int->Int->V):R2:=fun x y H Q=>∃i j,x= .int i/\y= .int j/\Q (g i j) H
def rU (g:Int->V):V->Hp->VK->Prop:=fun x H Q=>∃i,x= .int i/\Q (g i) H
section
variable {X:Cx} {a b c:Expr} {ta tb tc:TE} {pos:Pos}
theorem bg5 (ha:PE X a ta)(hb:PE X b tb){pins:List (Addr×Obj)}{s:Shared}{σ:St}{H:Hp}{R:V->V->Hp->Prop}(I:i8 X pins σ H s)
   (h:ta σ H fun x H1=>tb σ H1 fun y H2=>R x y H2) {Q:Value->Shared->Prop} {f:Value->Value->Sem Value}
   (hf:∀v u s2 x y H2,i8 X pins σ H2 s2->o9 x v->o9 y u->R x y H2->wpAny (model X.prog X.w) X.A (f v u) Q X.xe s2):
   wpAny (model X.prog X.w) X.A (eval a X.env) (fun v s₁=>wpAny (model X.prog X.w) X.A (eval b X.env) (fun u s₂=>wpAny (model X.prog X.w) X.A (f v u) Q X.xe s₂) X.xe s₁) X.xe s:=by
 refine v0 (ha pins s σ H _ I h) fun v s1 ⟨x,H1,I1,r1,q1⟩=> ?_
 refine v0 (hb pins s1 σ H1 _ I1 q1) fun u s2 ⟨y,H2,I2,r2,q2⟩=> ?_
 exact hf v u s2 x y H2 I2 r1 r2 q2
theorem j7 {op:Operator}{r:R2}(ho:G2 X (binaryOp op) r)(ha:PE X a ta)(hb:PE X b tb):PE X (.BinOp a op b pos) (tOp r ta tb):=by
 intro pins s σ H Q I h;exact wpAny_BinOp (bg5 ha hb I h fun v u s2 x y H2 I2 rx ry q=>ho pins s2 σ H2 x y v u Q I2 rx ry q)
theorem R1 {op:UnaryOp}{r:V->Hp->VK->Prop}(ho:UnR X (unaryOp op) r)(ha:PE X a ta):PE X (.UnaryOp op a pos) (tUn r ta):=by
 intro pins s σ H Q I h;exact UnaryOp_ (v0 (ha pins s σ H _ I h) fun v s1 ⟨x,H1,I1,r1,q1⟩=>ho pins s1 σ H1 x v Q I1 r1 q1)
theorem opI {f:Value->Value->Sem Value}{C:Int->Int->Prop}{g:Int->Int->Int}
   (rule:∀(i j:Int) (t u:Tok) (s:Shared) (Q:Value->Shared->Prop) (E:Value->Shared->Prop),C i j->Q (.int (g i j) s.toks) {s with toks:=s.toks+1}->wpAny (model X.prog X.w) X.A (f (.int i t) (.int j u)) Q E s):
   G2 X f (rI C fun i j=> .int (g i j)):=by
 intro pins s σ H x y v u Q I rx ry h;obtain ⟨i,j,rfl,rfl,hc,q⟩:=h;obtain ⟨t,rfl⟩:=rx;obtain ⟨t',rfl⟩:=ry;exact rule i j t t' s _ _ hc ⟨.int (g i j),H,I.tok _,⟨_,rfl⟩,q⟩
theorem bs3 {f:Value->Value->Sem Value}{g:Int->Int->Int}
   (rule:∀(i j:Int) (t u:Tok) (s:Shared) (Q:Value->Shared->Prop) (E:Value->Shared->Prop),Q (.int (g i j) s.toks) {s with toks:=s.toks+1}->wpAny (model X.prog X.w) X.A (f (.int i t) (.int j u)) Q E s):
   G2 X f (rI0 fun i j=> .int (g i j)):=by
 intro pins s σ H x y v u Q I rx ry h;obtain ⟨i,j,rfl,rfl,q⟩:=h;obtain ⟨t,rfl⟩:=rx;obtain ⟨t',rfl⟩:=ry;exact rule i j t t' s _ _ ⟨.int (g i j),H,I.tok _,⟨_,rfl⟩,q⟩
theorem bg6 {f:Value->Value->Sem Value}{g:Int->Int->Bool}
   (rule:∀(i j:Int) (t u:Tok) (s:Shared) (Q:Value->Shared->Prop) (E:Value->Shared->Prop),Q (.bool (g i j)) s->wpAny (model X.prog X.w) X.A (f (.int i t) (.int j u)) Q E s):
   G2 X f (rI0 fun i j=> .bl (g i j)):=by
 intro pins s σ H x y v u Q I rx ry h;obtain ⟨i,j,rfl,rfl,q⟩:=h;obtain ⟨t,rfl⟩:=rx;obtain ⟨t',rfl⟩:=ry;exact rule i j t t' s _ _ ⟨.bl (g i j),H,I,rfl,q⟩
def ca0 (i j:Int):Prop:=0 < j/\j < 1073741824
def av3 (i j:Int):Prop:=0<=j/\j<=1000000/\i.natAbs < 2^64
def bg7 (i j:Int):Prop:=(-(2^64) < i/\i < 2^64)\/(-(2^64) < j/\j < 2^64)
theorem bg7.ok {i j:Int}(h:bg7 i j):IntMulOk i j:=by
 rcases h with ⟨h1,h2⟩|⟨h1,h2⟩
 · exact .of_left (intBits_le_64 h1 h2)
 · exact .of_right (intBits_le_64 h1 h2)
theorem A6:G2 X (binaryOp .Add) (rI0 fun i j=> .int (i+j)):=bs3 fun _ _ _ _ _ _ _ q=>add_int q
theorem V5:G2 X (binaryOp .Sub) (rI0 fun i j=> .int (i - j)):=bs3 fun _ _ _ _ _ _ _ q=>sub_int q
theorem G3:G2 X (binaryOp .Mult) (rI bg7 fun i j=> .int (i*j)):=opI fun _ _ _ _ _ _ _ hc q=>mul_int q hc.ok
theorem bm6:G2 X (binaryOp .FloorDiv) (rI ca0 fun i j=> .int (i/j)):=opI fun i j _ _ _ _ _ hc q=>by
 have h1:(0:Int) < j:=hc.1;have h2:j < 1073741824:=hc.2;exact floordiv_int (by omega) (by rw[ck8 i (by omega)];exact q) (.inl (PyProof.noPylong_small (by omega)))
theorem O4:G2 X (binaryOp .Mod) (rI (fun _ j=>0 < j) fun i j=> .int (i%j)):=opI fun i j _ _ _ _ _ hc q=>by
 have h1:(0:Int) < j:=hc;exact mod_int' (by omega) (by rw[Int.fmod_eq_emod_of_nonneg i (by omega)];exact q)
theorem O5:G2 X (binaryOp .Pow) (rI av3 fun i j=> .int (i^j.toNat)):=opI fun _ _ _ _ _ _ _ hc q=>pow_int_small hc.1 hc.2.1 hc.2.2 q
theorem unI {f:Value->Sem Value}{g:Int->Int}
   (rule:∀(i:Int) (t:Tok) (s:Shared) (Q:Value->Shared->Prop) (E:Value->Shared->Prop),Q (.int (g i) s.toks) {s with toks:=s.toks+1}->wpAny (model X.prog X.w) X.A (f (.int i t)) Q E s):
   UnR X f (rU fun i=> .int (g i)):=by
 intro pins s σ H x v Q I rx h;obtain ⟨i,rfl,q⟩:=h;obtain ⟨t,rfl⟩:=rx;exact rule i t s _ _ ⟨.int (g i),H,I.tok _,⟨_,rfl⟩,q⟩
theorem L7:UnR X (unaryOp .USub) (rU fun i=> .int (-i)):=unI fun _ _ _ _ _ q=>neg_int q
end
def bs4:V->V->Bool
 | .non,.non=>true| .non,.int _=>true| .int _,.non=>true| .non,.bl _=>true| .bl _,.non=>true| .non,.str _=>true| .str _,.non=>true
 | .int _,.int _=>true| .bl _,.bl _=>true| .str _,.str _=>true| .byt _,.byt _=>true
 | .int _,.str _=>true| .str _,.int _=>true| .bl _,.str _=>true| .str _,.bl _=>true
 |_,_=>false
def rEq:R2:=fun x y H Q=>bs4 x y=true/\Q (.bl (decide (x=y))) H
def rNe:R2:=fun x y H Q=>bs4 x y=true/\Q (.bl (!decide (x=y))) H
theorem at2 {i j:Int}:decide (V.int i=V.int j)=(i==j):=by
 rw[ci5];simp
theorem ba1 {i j:Bool}:decide (V.bl i=V.bl j)=(i==j):=by
 rw[ci5];simp
theorem at3 {i j:Str}:decide (V.str i=V.str j)=(i==j):=by
 rw[ci5];simp
theorem at4 {i j:Array UInt8}:decide (V.byt i=V.byt j)=(i.toList==j.toList):=by
 rw[ci5];cases i;cases j;simp
section
variable {X:Cx} {a b c:Expr} {ta tb tc:TE} {pos:Pos}
theorem y6 {pins:List (Addr×Obj)}{σ:St}{H:Hp}{s:Shared}{Q:VK}{k k':Bool}(I:i8 X pins σ H s)(q:Q (.bl k) H)(e:k=k'):EP X pins σ Q (.bool k') s:=by
 subst e;exact ⟨.bl k,H,I,rfl,q⟩
theorem K3:G2 X (compareOp .Eq) rEq:=by
 intro pins s σ H x y v u Q I rx ry h;obtain ⟨hs,q⟩:=h
 cases x with
 |non=>
  cases rx
  cases y with
  |non=>cases ry;exact PySem.EqNone.eq_none_none (y6 I q (by simp))
  |bl j=>cases ry;exact PySem.EqNone.eq_none_bool (y6 I q (by simp))
  |int j=>obtain ⟨t',rfl⟩:=ry;exact PySem.EqNone.eq_none_int (y6 I q (by simp))
  |str j=>obtain ⟨t',rfl⟩:=ry;exact PySem.EqNone.eq_none_str (y6 I q (by simp))
  |_=>exact absurd (show false=true from hs) cd1
 |bl i=>
  cases rx
  cases y with
  |non=>cases ry;exact PySem.EqNone.eq_bool_none (y6 I q (by simp))
  |bl j=>cases ry;exact eq_bool (y6 I q ba1)
  |str j=>obtain ⟨t',rfl⟩:=ry;exact PySem.EqMixed.eq_bool_str (y6 I q (by simp))
  |_=>exact absurd (show false=true from hs) cd1
 |int i=>
  obtain ⟨t,rfl⟩:=rx
  cases y with
  |non=>cases ry;exact PySem.EqNone.eq_int_none (y6 I q (by simp))
  |int j=>obtain ⟨t',rfl⟩:=ry;exact eq_int (y6 I q at2)
  |str j=>obtain ⟨t',rfl⟩:=ry;exact PySem.EqMixed.eq_int_str (y6 I q (by simp))
  |_=>exact absurd (show false=true from hs) cd1
 |str i=>
  obtain ⟨t,rfl⟩:=rx
  cases y with
  |non=>cases ry;exact PySem.EqNone.eq_str_none (y6 I q (by simp))
  |bl j=>cases ry;exact PySem.EqMixed.eq_str_bool (y6 I q (by simp))
  |int j=>obtain ⟨t',rfl⟩:=ry;exact PySem.EqMixed.eq_str_int (y6 I q (by simp))
  |str j=>obtain ⟨t',rfl⟩:=ry;exact eq_str (y6 I q at3)
  |_=>exact absurd (show false=true from hs) cd1
 |byt i=>
  obtain ⟨t,rfl⟩:=rx
  cases y with
  |byt j=>obtain ⟨t',rfl⟩:=ry;exact PySem.W.eq_bytes (y6 I q at4)
  |_=>exact absurd (show false=true from hs) cd1
 |_=>cases y<;>exact absurd (show false=true from hs) cd1
theorem W6:G2 X (compareOp .NotEq) rNe:=by
 intro pins s σ H x y v u Q I rx ry h;obtain ⟨hs,q⟩:=h
 cases x with
 |non=>
  cases rx
  cases y with
  |non=>cases ry;exact PySem.EqNone.ne_none_none (y6 I q (by simp))
  |bl j=>cases ry;exact PySem.EqNone.ne_none_bool (y6 I q (by simp))
  |int j=>obtain ⟨t',rfl⟩:=ry;exact PySem.EqNone.ne_none_int (y6 I q (by simp))
  |str j=>obtain ⟨t',rfl⟩:=ry;exact PySem.EqNone.ne_none_str (y6 I q (by simp))
  |_=>exact absurd (show false=true from hs) cd1
 |bl i=>
  cases rx
  cases y with
  |non=>cases ry;exact PySem.EqNone.ne_bool_none (y6 I q (by simp))
  |bl j=>cases ry;exact ne_bool (y6 I q (congrArg not ba1))
  |str j=>obtain ⟨t',rfl⟩:=ry;exact PySem.EqMixed.ne_bool_str (y6 I q (by simp))
  |_=>exact absurd (show false=true from hs) cd1
 |int i=>
  obtain ⟨t,rfl⟩:=rx
  cases y with
  |non=>cases ry;exact PySem.EqNone.ne_int_none (y6 I q (by simp))
  |int j=>obtain ⟨t',rfl⟩:=ry;exact ne_int (y6 I q (congrArg not at2))
  |str j=>obtain ⟨t',rfl⟩:=ry;exact PySem.EqMixed.ne_int_str (y6 I q (by simp))
  |_=>exact absurd (show false=true from hs) cd1
 |str i=>
  obtain ⟨t,rfl⟩:=rx
  cases y with
  |non=>cases ry;exact PySem.EqNone.ne_str_none (y6 I q (by simp))
  |bl j=>cases ry;exact PySem.EqMixed.ne_str_bool (y6 I q (by simp))
  |int j=>obtain ⟨t',rfl⟩:=ry;exact PySem.EqMixed.ne_str_int (y6 I q (by simp))
  |str j=>obtain ⟨t',rfl⟩:=ry;exact ne_str (y6 I q (congrArg not at3))
  |_=>exact absurd (show false=true from hs) cd1
 |byt i=>
  obtain ⟨t,rfl⟩:=rx
  cases y with
  |byt j=>obtain ⟨t',rfl⟩:=ry;exact PySem.W.ne_bytes (y6 I q (congrArg not at4))
  |_=>exact absurd (show false=true from hs) cd1
 |_=>cases y<;>exact absurd (show false=true from hs) cd1
theorem al6:G2 X (compareOp .Lt) (rI0 fun i j=> .bl (decide (i < j))):=bg6 fun _ _ _ _ _ _ _ q=>lt_int q
theorem aa7:G2 X (compareOp .Gt) (rI0 fun i j=> .bl (decide (j < i))):=bg6 fun _ _ _ _ _ _ _ q=>gt_int q
theorem al7:G2 X (compareOp .GtE) (rI0 fun i j=> .bl (decide (j<=i))):=bg6 fun _ _ _ _ _ _ _ q=>ge_int q
theorem bs5:G2 X (compareOp .Is) (fun x y H Q=>y= .non/\Q (.bl (decide (x= .non))) H):=by
 intro pins s σ H x y v u Q I rx ry h;obtain ⟨rfl,q⟩:=h;cases ry;refine is_none_gen (y6 I q ?_)
 cases x<;>first
   |(cases rx;rfl)
   |(obtain ⟨t,rfl⟩:=rx;rfl)
theorem q9 (b:Expr){op:CmpOp}(h:op≠.In:=by decide)(h2:op≠.NotIn:=by decide):behindInMarks op b=false:=by
 have e1:(op==CmpOp.In)=false:=by cases op<;>first|rfl|exact absurd rfl h
 have e2:(op==CmpOp.NotIn)=false:=by cases op<;>first|rfl|exact absurd rfl h2
 cases b<;>simp [behindInMarks,e1,e2]
theorem ag7 {op:CmpOp}{r:R2}(ho:G2 X (compareOp op) r)(ha:PE X a ta)(hb:PE X b tb)(hm:behindInMarks op b=false):PE X (.Compare a [op] [b] pos) (tOp r ta tb):=by
 intro pins s σ H Q I h;exact wpAny_Compare1 (bg5 ha hb I h fun v u s2 x y H2 I2 rx ry q=>ho pins s2 σ H2 x y v u Q I2 rx ry q) hm
def bw1 (t:TE):TT:=fun σ H Q=>t σ H fun x H'=>∃k,x= .bl k/\Q k H'
theorem o5 {op:CmpOp}{r:R2}(ho:G2 X (compareOp op) r)(ha:PE X a ta)(hb:PE X b tb)(hm:behindInMarks op b=false):PT X (.Compare a [op] [b] pos) (bw1 (tOp r ta tb)):=by
 intro pins s σ H Q I h
 refine wpAny_isTrue_Compare1 (v0 (ha pins s σ H _ I h) fun v s1 ⟨x,H1,I1,r1,q1⟩=>v0 (hb pins s1 σ H1 _ I1 q1) fun u s2 ⟨y,H2,I2,r2,q2⟩=>
   v0 (ho pins s2 σ H2 x y v u _ I2 r1 r2 q2) fun c s3 ⟨z,H3,I3,r3,k,e,q3⟩=> ?_) hm
 subst e;cases r3;exact wpAny_truthy_bool ⟨H3,I3,q3⟩
theorem am6:(sizeLine:Nat) < 2^63:=by rw[sizeLine_eq];decide
theorem L8 {x:V}{us:List Value}(r:k7 [x] us):∃u,us=[u]/\o9 x u:=by
 cases r with
 |cons r1 r2=>cases r2;exact ⟨_,rfl,r1⟩
theorem aa8 {x y:V}{us:List Value}(r:k7 [x,y] us):∃u w',us=[u,w']/\o9 x u/\o9 y w':=by
 cases r with
 |cons r1 r2=>
  cases r2 with
  |cons r3 r4=>cases r4;exact ⟨_,_,rfl,r1,r3⟩
theorem ba2 (hc:X.calm=true):E4 X (.builtin "max") (fun xs H Q=>∃i j,xs=[.int i,.int j]/\Q (.int (if j > i then j else i)) H):=by
 intro pins s σ H xs us Q I r h;obtain ⟨i,j,rfl,q⟩:=h;obtain ⟨u,w',rfl,⟨t,rfl⟩,⟨t',rfl⟩⟩:=aa8 r
 refine max_two_ints (I.ok.hd hc) fun h' tk k=>⟨_,H,I.kept k,?_,q⟩
 by_cases hj:j > i
 · rw[if_pos hj,if_pos hj];exact ⟨_,rfl⟩
 · rw[if_neg hj,if_neg hj];exact ⟨_,rfl⟩
theorem ba3 (hc:X.calm=true):E4 X (.builtin "min") (fun xs H Q=>∃i j,xs=[.int i,.int j]/\Q (.int (if j < i then j else i)) H):=by
 intro pins s σ H xs us Q I r h;obtain ⟨i,j,rfl,q⟩:=h;obtain ⟨u,w',rfl,⟨t,rfl⟩,⟨t',rfl⟩⟩:=aa8 r
 refine min_two_ints (I.ok.hd hc) fun h' tk k=>⟨_,H,I.kept k,?_,q⟩
 by_cases hj:j < i
 · rw[if_pos hj,if_pos hj];exact ⟨_,rfl⟩
 · rw[if_neg hj,if_neg hj];exact ⟨_,rfl⟩
theorem am7:E4 X (.type "str") (fun xs H Q=>∃i,xs=[.int i]/\i.natAbs.log2 < 1920/\Q (.str (toString i)) H):=by
 intro pins s σ H xs us Q I r h;obtain ⟨i,rfl,hz,q⟩:=h;obtain ⟨u,rfl,t,rfl⟩:=L8 r;exact PySem.P.str_of_int hz ⟨.str _,H,I.tok _,⟨_,rfl⟩,q⟩
end
end L2
namespace L2
open PySem PySem.Spec PyProof.Rows
structure bg8 (h:Heap)(x dx C:Addr)(mA:Str->Option Value):Prop where
 obj:h.get? x=some (PySem.W.instObj C dx)
 ns:h.Ns1 dx mA
 ne:dx≠x
theorem ba4 {h:Heap}{dx:Addr}{mA:Str->Option Value}(n:h.Ns1 dx mA):∃od,h.get? dx=some od/\∀name,PySem.W.lookIn name od=some (mA name):=by
 obtain ⟨o,es,ep,ho,hd,hk,_,hm⟩:=n;refine ⟨o,ho,fun name=> ?_⟩;have e:=hm name;unfold nsFind findBy at e;rw[<-Array.find?_toList] at e;unfold PySem.W.lookIn;rw[hd]
 dsimp only
 split
 · rename_i y q;rw[q] at e;exact congrArg some e
 · rename_i q;rw[q] at e
   have a:es.toList.any (·.refKey)=false:=by
     rw[List.any_eq_false];intro y hy;obtain ⟨z,t,hkey⟩:=hk y (Array.mem_toList_iff.mp hy);simp [DictEntry.refKey,hkey]
   have a':¬es.toList.any (·.refKey)=true:=by rw[a];exact cd1
   rw[if_neg a'];exact congrArg some e
theorem bg8.look {h:Heap}{x dx C:Addr}{mA:Str->Option Value}(I:bg8 h x dx C mA):∃od,PySem.W.InstAt h x (PySem.W.instObj C dx) C (some od)/\∀name,PySem.W.lookIn name od=some (mA name):=
 let ⟨od,ho,hl⟩:=ba4 I.ns
 ⟨od,⟨I.obj,rfl,rfl,ho⟩,hl⟩
section
variable {P:Program} {w:World} {H H':Hp} {h h':Heap} {a C dx:Addr} {fs fs':List (Str×V)}
theorem bm7 (hok:B8 P w H h)(e:H a=some (.ins C dx fs)):∃mA,bg8 h a dx C mA/\(∀f,ac0 (fs.lookup f) (mA f))/\PySem.Within mA (fs.map (·.1))/\fs.length<=1000/\H dx=some (.own a):=by
 obtain ⟨d,z,ne,ob,mA,n,r,q⟩:=(show A1 P w H h a (.ins C dx fs) from hok a _ e);exact ⟨mA,⟨ob,n,ne⟩,r,q,z,d⟩
end
structure Cls (K:PySem.W.Frag)(C:Addr):Prop where
 pg:PySem.W.plainGet K C Str.empty=true
 hd:PySem.W.hasDictIn K C=true
 po:PySem.W.plainOver K C=true
 sa:PySem.W.findIn K (.ref C) "__setattr__"=some (some (.builtin "object.__setattr__"))
theorem Cls.get {K:PySem.W.Frag}{C:Addr}(c:Cls K C)(f:Str):PySem.W.plainGet K C f=true:=c.pg
section
variable {X:Cx} {pins:List (Addr×Obj)} {σ:St} {H:Hp} {s:Shared} {A:Around} {E:Value->Shared->Prop} {Q:Value->Shared->Prop} {c:Value} {b:Bool}
inductive D5 (K:PySem.W.Frag)(H:Hp):V->Value->Prop where
 |non:D5 K H .non (.type "NoneType")
 |bl (x:Bool):D5 K H (.bl x) (.type "bool")
 |int (i:Int):D5 K H (.int i) (.type "int")
 |str (x:Str):D5 K H (.str x) (.type "str")
 |flt (x:UInt64):D5 K H (.flt x) (.type "float")
 |lst {a:Addr} {xs:List V} (e:H a=some (.lst xs)):D5 K H (.ref a) (.type "list")
 |frz {a:Addr} {o:Obj} {xs:List V} (e:H a=some (.frz o (.lst xs))):D5 K H (.ref a) (.type "list")
 |tup {a:Addr} {xs:List V} (e:H a=some (.tup xs)):D5 K H (.ref a) (.type "tuple")
 |dK {a:Addr} {kvs:List (x6×V)} (e:H a=some (.dK kvs)):D5 K H (.ref a) (.type "dict")
 |dT {a:Addr} {kvs:List (List x6×V)} (e:H a=some (.dT kvs)):D5 K H (.ref a) (.type "dict")
 |ins {a C dx:Addr} {fs:List (Str×V)} (e:H a=some (.ins C dx fs)) (cl:Cls K C) (ha:PySem.W.findIn K (.ref C) "__class__"=some (some (.builtin "object.__class__")))
     (hn:PySem.W.specialIn K (.builtin "object.__class__") "__get__"=some (some (.builtin "getset_descriptor.__get__"))) (htk:PySem.W.takesIn K (.builtin "object.__class__")=some true)
     (hm:PySem.W.mroIn K C (.type "object")=some true):D5 K H (.ref a) (.ref C)
theorem ba5 {x:V}{u t:Value}(I:i8 X pins σ H s)(rx:o9 x u)(ty:D5 X.K H x t)(e:PySem.W.kitOne X.K t c=some b)(h:∀tk,Q (.bool b) {s with toks:=tk}):
   wpAny (model X.prog X.w) A (call (.builtin "isinstance") [u,c]) Q E s:=by
 cases ty with
 |non=>cases (show u=Value.none from rx);exact PySem.W.kia_one PySem.W.kitx_none I.kIn True.intro e (fun z=>nomatch z) h
 |bl y=>cases (show u=Value.bool y from rx);exact PySem.W.kia_one PySem.W.kitx_bool I.kIn True.intro e (fun z=>nomatch z) h
 |int i=>obtain ⟨t,q⟩:=(show ∃t,u=Value.int i t from rx);cases q;exact PySem.W.kia_one PySem.W.kitx_int I.kIn True.intro e (fun z=>nomatch z) h
 |str y=>obtain ⟨t,q⟩:=(show ∃t,u=Value.str y t from rx);cases q;exact PySem.W.kia_one PySem.W.kitx_str I.kIn True.intro e (fun z=>nomatch z) h
 |flt y=>obtain ⟨t,q⟩:=(show ∃t,u=Value.float y t from rx);cases q;exact PySem.W.kia_one PySem.W.kitx_float I.kIn True.intro e (fun z=>nomatch z) h
 |@lst a xs ea=>
  cases (show u=Value.ref a from rx);obtain ⟨_,_,n,_,h1⟩:=(show A1 X.prog X.w H s.heap a (.lst xs) from I.hok a _ ea);exact PySem.W.kia_one PySem.W.kitx_list I.kIn ⟨_,h1,rfl⟩ e (fun z=>nomatch z) h
 |@frz a ob xs ea=>
  cases (show u=Value.ref a from rx);obtain ⟨_,_,_,n,_,h1⟩:=(show A1 X.prog X.w H s.heap a (.frz ob (.lst xs)) from I.hok a _ ea);exact PySem.W.kia_one PySem.W.kitx_list I.kIn ⟨_,h1,rfl⟩ e (fun z=>nomatch z) h
 |@tup a xs ea=>
  cases (show u=Value.ref a from rx);obtain ⟨_,_,_,p⟩:=(show A1 X.prog X.w H s.heap a (.tup xs) from I.hok a _ ea);obtain ⟨o,h1,h2,_⟩:=p;exact PySem.W.kia_one PySem.W.kitx_tuple I.kIn ⟨o,h1,h2⟩ e (fun z=>nomatch z) h
 |@dK a kvs ea=>
  cases (show u=Value.ref a from rx);obtain ⟨_,_,vs,_,p⟩:=(show A1 X.prog X.w H s.heap a (.dK kvs) from I.hok a _ ea);obtain ⟨o,es,ep,h1,h2,_⟩:=p;exact PySem.W.kia_one PySem.W.kitx_dict I.kIn ⟨o,h1,h2.1⟩ e (fun z=>nomatch z) h
 |@dT a kvs ea=>
  cases (show u=Value.ref a from rx);obtain ⟨_,_,xs,_,o,es,ep,h1,h2,_⟩:=(show A1 X.prog X.w H s.heap a (.dT kvs) from I.hok a _ ea);exact PySem.W.kia_one PySem.W.kitx_dict I.kIn ⟨o,h1,h2.1⟩ e (fun z=>nomatch z) h
 |@ins a C dx fs ea cl ha hn htk hm=>
  cases (show u=Value.ref a from rx);obtain ⟨mA,O,_⟩:=bm7 I.hok ea;obtain ⟨od,J,_⟩:=O.look;exact PySem.W.kia_one (PySem.W.kitx_own (cl.get _) cl.hd ha hn htk hm) I.kIn J e (fun z=>nomatch z) h
end
end L2
namespace L2
open PySem PySem.Spec PyProof.Rows
structure y7 (k:Nat)(A:Around):Prop where
 hd:A.handled=none
 dp:A.depth+3*k+5 < recursionLimit
 un:A.units+16*k+200 < cLine
 gd:A.guards=some []
theorem y7.mono {j k:Nat}{A:Around}(r:y7 k A)(h:j<=k):y7 j A:=⟨r.hd,by have:=r.dp;omega,by have:=r.un;omega,r.gd⟩
theorem y7.deeper {k:Nat}{A:Around}(r:y7 (k+1) A)(env:Env):y7 k (A.deeper env):=
 ⟨r.hd,by have:=r.dp;show A.depth+1+3*k+5 < _;omega,by have:=r.un;show A.units+3+16*k+200 < _;omega,r.gd⟩
theorem y7.depth {k:Nat}{A:Around}(r:y7 k A):A.depth < recursionLimit:=by have:=r.dp;omega
theorem y7.units {k:Nat}{A:Around}(r:y7 k A):A.units+64 < cLine:=by have:=r.un;omega
def bs7:TA:=fun _ H Q=>Q [] H
def bk9 (ta:TE)(tr:TA):TA:=fun σ H Q=>ta σ H fun x H1=>tr σ H1 fun xs H2=>Q (x::xs) H2
section
variable {X:Cx} {e:Expr} {es:List Expr} {te:TE} {t:TA} {pos:Pos}
theorem c6:PA X [] bs7:=fun _ _ _ _ H Q I h=>Calls.spliced_nil ⟨[],H,I,.nil,h⟩
theorem c5 (ha:PE X e te)(hr:PA X es t)(hs:starEach (e::es) X.env=(false,eval e X.env)::starEach es X.env:=by rfl):PA X (e::es) (bk9 te t):=by
 intro pos pins s σ H Q I h;rw[hs];show wpAny _ _ (spliced ((false,eval e X.env)::backTo pos (starEach es X.env))) _ _ s;refine Calls.spliced_cons (v0 (ha pins s σ H _ I h) fun u s1 ⟨x,H1,I1,r1,q1⟩=> ?_)
 exact v0 (hr pos pins s1 σ H1 _ I1 q1) fun us s2 ⟨xs,H2,I2,r2,q2⟩=>⟨x::xs,H2,I2,.cons r1 r2,q2⟩
def ca1 (t:TA):TE:=fun σ H Q=>t σ H fun xs H1=>xs.length<=sizeLine/\∀p,H1 p=none->Q (.ref p) (c8 H1 p (.tup xs))
def ca2 (t:TA):TE:=fun σ H Q=>t σ H fun xs H1=>xs.length<=sizeLine/\∀p,H1 p=none->Q (.ref p) (c8 H1 p (.lst xs))
theorem Y9 {x1}(h:PA X es t):PE X (.Tuple es x1 pos) (ca1 t):=by
 intro pins s σ H Q I hq;refine wpAny_Tuple_spliced (v0 (h pos pins s σ H _ I hq) fun us s1 ⟨xs,H1,I1,r,z,q⟩=>⟨by rw[<-r.length];exact z,?_⟩);have hf:H1 s1.heap.objs.size=none:=I1.hok.fresh (cd5 _);refine ⟨.ref s1.heap.objs.size,c8 H1 s1.heap.objs.size (.tup xs),I1.laid (t':=s1.toks) (fun b u e=>Heap.get?_push_of_some _ e) (cd5 _) ?_,rfl,q _ hf⟩;exact ⟨z,us,r,⟨_,Heap.get?_push_size _ rfl,rfl,_,rfl⟩⟩
theorem o0 (h:PA X es t):PE X (.List es pos) (ca2 t):=by
 intro pins s σ H Q I hq;refine wpAny_List_spliced (v0 (h pos pins s σ H _ I hq) fun us s1 ⟨xs,H1,I1,r,z,q⟩=>⟨by rw[<-r.length];exact z,?_⟩);have hf:H1 s1.heap.objs.size=none:=I1.hok.fresh (cd5 _);refine ⟨.ref s1.heap.objs.size,c8 H1 s1.heap.objs.size (.lst xs),I1.laid (t':=s1.toks) (fun b u e=>Heap.get?_push_of_some _ e) (cd5 _) ?_,rfl,q _ hf⟩;exact ⟨z,us,0,r,Heap.get?_push_size _ rfl⟩
end
abbrev Sp:=List V->Hp->VK->XK->Prop
abbrev S6:=List Env->Hp->Shared->XK->Value->Shared->Prop
structure av4 (P:Program)(w:World)(K:PySem.W.Frag)(mg:Str->Option Value)(base:Heap)(A:Around)(outer:List Env)(s:Shared)(H:Hp):Prop where
 frames:A.frames=some outer
 mod:Mod K mg base
 bs:∀b o,base.get? b=some o->s.heap.get? b=some o/\H b=none
 bsz:base.objs.size<=s.heap.objs.size
 funs:s.heap.FunFrames base outer
 frf:∀b∈B2 outer,H b=none
 hok:B8 P w H s.heap
 bare:AllBare s.gens
def CE (outer:List Env)(P:Program)(w:World)(H:Hp)(s:Shared)(Q:VK)(u:Value)(s':Shared):Prop:=
 ∃v H',s'.os=s.os/\AllBare s'.gens/\Un (B2 outer) [] H H' s.heap s'.heap/\B8 P w H' s'.heap/\o9 v u/\Q v H'
def CR (CX:S6)(outer:List Env)(P:Program)(w:World)(H:Hp)(s:Shared)(Q:VK)(E:XK)(r:Result)(s':Shared):Prop:=
 match r with
 | .ok (.ret u)=>CE outer P w H s Q u s'
 | .ok _=>False
 | .error e=>CX outer H s E e s'
structure o4 (P:Program)(w:World)(K:PySem.W.Frag)(mg:Str->Option Value)(base:Heap)(CX:S6)(k:Nat)(f:Addr)(fd:FuncData)(ps:List Str)(sp:Sp):Prop where
 len:∀vs H Q E,sp vs H Q E->vs.length=ps.length
 run:∀(A:Around) (outer:List Env) (s:Shared) (H:Hp) (args:Args) (us:List Value) (vs:List V) (Q:VK) (E:XK),y7 k A->av4 P w K mg base A outer s H->BindsTo s fd args (ps.zip us)->k7 vs us->sp vs H Q E->
   codeAny (model P w) A (.call (.ref f) args) (CR CX outer P w H s Q E) s
theorem o4.imp {P:Program}{w:World}{K:PySem.W.Frag}{mg:Str->Option Value}{base:Heap}{CX:S6}{k:Nat}{f:Addr}{fd:FuncData}{ps:List Str}{sp sp':Sp}(F:o4 P w K mg base CX k f fd ps sp)
   (h:∀vs H Q E,sp' vs H Q E->sp vs H Q E):o4 P w K mg base CX k f fd ps sp':=
 ⟨fun vs H Q E q=>F.len vs H Q E (h _ _ _ _ q),fun A outer s H args us vs Q E hr he hb hv hs=>F.run A outer s H args us vs Q E hr he hb hv (h _ _ _ _ hs)⟩
section
variable {X:Cx} {pins:List (Addr×Obj)} {σ:St} {H:Hp} {s s':Shared}
theorem i8.env0 (I:i8 X pins σ H s):av4 X.prog X.w X.K X.mg X.base X.A X.stack s H:=
 ⟨I.ok.frames,I.ok.mod,I.bs,cd3 I.ok.bsz I.sz,I.stack,I.stkFree,I.hok,I.bare⟩
theorem i8.after {Q:VK}{u:Value}(I:i8 X pins σ H s)(h:CE X.stack X.prog X.w H s Q u s'):EP X pins σ Q u s':=by
 obtain ⟨v,H',os,bare,un,hok,r,q⟩:=h;obtain ⟨hh,g,d,t,os'⟩:=s';obtain rfl:os'=s.os:=os;exact ⟨v,H',I.call (h':=hh) (g':=g) (d':=d) (t':=t) (ch:=[]) un hok bare (fun b z=>absurd z (by simp)),r,q⟩
end
def ae1 (sp:Sp)(dvs:List V)(E:XK)(t:TA):TE:=fun σ H Q=>t σ H fun vs H1=>sp (vs++dvs) H1 Q E
def R3 (K:PySem.W.Frag)(fd:FuncData)(ps:List Str)(ds:List Value):Prop:=
 ∀(s:Shared) (us:List Value),K.In s.heap->(us++ds).length=ps.length->BindsTo s fd ⟨us,[]⟩ (ps.zip (us++ds))
theorem R3.all {K:PySem.W.Frag}{fd:FuncData}{ps:List Str}(h:∀us:List Value,us.length=ps.length->bindArgs fd ⟨us,[]⟩=pure (ps.zip us)):R3 K fd ps []:=fun s us _ hl=>by
 rw[ci6] at hl ⊢;exact .of_eq (h us hl)
def Z0 (CX:S6)(X:Cx)(E:XK):Prop:=∀(pins:List (Addr×Obj)) (σ:St) (H:Hp) (s:Shared) (e:Value) (s':Shared),i8 X pins σ H s->CX X.stack H s E e s'->X.xe e s'
section
variable {X:Cx} {CX:S6} {k:Nat} {f C:Addr} {fd:FuncData} {ps:List Str} {sp:Sp} {dvs:List V} {ds:List Value} {E:XK} {x m:Str} {p pos apos:Pos} {e o:Expr} {es:List Expr} {ta:TE} {t:TA}
theorem bs8 {pins:List (Addr×Obj)}{σ:St}{H:Hp}{s:Shared}{Q:VK}{us:List Value}{vs:List V}(F:o4 X.prog X.w X.K X.mg X.base CX k f fd ps sp)(hr:y7 k X.A)(hb:R3 X.K fd ps ds)(hd:k7 dvs ds)(hx:Z0 CX X E)
   (I:i8 X pins σ H s) (r:k7 vs us) (h:sp (vs++dvs) H Q E):wpAny (model X.prog X.w) X.A (call (.ref f) us) (EP X pins σ Q) X.xe s:=by
 have r2:k7 (vs++dvs) (us++ds):=r.append hd
 have hl:(us++ds).length=ps.length:=by rw[<-r2.length];exact F.len _ _ _ _ h
 refine wpAny_call (codeAny_mono (F.run X.A X.stack s H ⟨us,[]⟩ (us++ds) (vs++dvs) Q E hr I.env0 (hb s us I.kIn hl) r2 h) fun r s' hq=> ?_)
 cases r with
 |error e=>exact hx pins σ H s e s' I hq
 |ok fl=>
  cases fl with
  |ret u=>exact I.after hq
  |next=>exact False.elim hq
  |brk=>exact False.elim hq
  |cont=>exact False.elim hq
theorem at5 (F:o4 X.prog X.w X.K X.mg X.base CX k f fd ps sp)(hr:y7 k X.A)(hg:Gl X x)(hm:X.mg x=some (.ref f))(hk:PySem.W.keepIn X.K (.ref f)=true)(hb:R3 X.K fd ps ds)(hd:k7 dvs ds)(hx:Z0 CX X E)
   (ha:PA X (e::es) t) (hdb:(x==("__debug__":Str))=false:=by decide) (he:starEach (e::es) X.env=(false,eval e X.env)::starEach es X.env:=by rfl) (hpl:(backTo pos (starEach es X.env)).any (·.1)=false:=by rfl):
   PE X (.Call (.Name x p) (e::es) [] pos) (ae1 sp dvs E t):=by
 intro pins s σ H Q I h;refine wpAny_Call_Name_kw (R9 I hg hm ?_ hdb);refine PySem.W.callWith_K (h₀:=X.base) I.ok.mod.kin hk (v0 (ha pos pins s σ H _ I h) fun us s1 ⟨vs,H1,I1,r,q⟩=>⟨I1.kIn,?_⟩) he hpl;exact bs8 F hr hb hd hx I1 r q
end
structure o7 (N P:List Str)(sc:Scope):Prop where
 kind:sc.kind= .function
 co:sc.isCoroutine=false
 gen:sc.isGenerator=false
 nd:N.Nodup
 pre:N.take P.length=P
 par:∀x∈P,sc.names.lookup x=some .local\/sc.names.lookup x=some .cell
 nofree:∀y∈sc.names,y.2≠.free
theorem ai5 {kindOf:Str->Option NameKind}{x:Str}:∀{binds:List (Str×Value)} {m:Str->Option Value},(∀v,(x,v)∉binds)->bindL kindOf binds m x=m x
 |[],_,_=>rfl
 |(n,v)::r,m,h=>by
  unfold bindL;rw[ai5 fun w hw=>h w (cc9 _ hw)]
  split
  · have:x≠n:=by rintro rfl;exact h v cd0
    simp [this]
  · rfl
theorem ai6 {kindOf:Str->Option NameKind}{x:Str}:∀{binds:List (Str×Value)} {m:Str->Option Value},(∀v,(x,v)∉binds)->bindC kindOf binds m x=m x
 |[],_,_=>rfl
 |(n,v)::r,m,h=>by
  unfold bindC;rw[ai6 fun w hw=>h w (cc9 _ hw)]
  split
  · rfl
  · have:x≠n:=by rintro rfl;exact h v cd0
    simp [this]
theorem ai7 {kindOf:Str->Option NameKind}{x:Str}{v:Value}:∀{P:List Str} {vs:List Value} {i:Nat} {m:Str->Option Value},P.Nodup->P[i]? =some x->vs[i]? =some v->kindOf x=some .local->
   bindL kindOf (P.zip vs) m x=some v
 |[],_,_,_,_,h,_,_=>by simp at h
 |_::_,[],_,_,_,_,h,_=>by simp at h
 |p::P,w::vs,0,m,nd,h1,h2,hk=>by
  simp at h1 h2;subst h1;subst h2;show bindL kindOf ((p,w)::P.zip vs) m p=_;unfold bindL;rw[ai5 fun v hv=>(cg3.mp nd).1 (cl9 hv).1,if_pos hk];simp
 |p::P,w::vs,i+1,m,nd,h1,h2,hk=>by
  show bindL kindOf ((p,w)::P.zip vs) m x=_;unfold bindL;exact ai7 (i:=i) (cg3.mp nd).2 (by simpa using h1) (by simpa using h2) hk
theorem ai8 {kindOf:Str->Option NameKind}{x:Str}{v:Value}:∀{P:List Str} {vs:List Value} {i:Nat} {m:Str->Option Value},P.Nodup->P[i]? =some x->vs[i]? =some v->kindOf x≠some .local->
   bindC kindOf (P.zip vs) m x=some v
 |[],_,_,_,_,h,_,_=>by simp at h
 |_::_,[],_,_,_,_,h,_=>by simp at h
 |p::P,w::vs,0,m,nd,h1,h2,hk=>by
  simp at h1 h2;subst h1;subst h2;show bindC kindOf ((p,w)::P.zip vs) m p=_;unfold bindC;rw[ai6 fun v hv=>(cg3.mp nd).1 (cl9 hv).1,if_neg hk];simp
 |p::P,w::vs,i+1,m,nd,h1,h2,hk=>by
  show bindC kindOf ((p,w)::P.zip vs) m x=_;unfold bindC;exact ai8 (i:=i) (cg3.mp nd).2 (by simpa using h1) (by simpa using h2) hk
def R4 (N:List Str)(vs:List V):St:=vs.map some++ce8 (N.length - vs.length) none
def U7 (CX:S6)(P:Program)(w:World)(K:PySem.W.Frag)(mg:Str->Option Value)(base:Heap)(N:List Str)(qual:Str)(scope:Scope)(f:Addr)(cd:Value)(A:Around)(outer:List Env)(s:Shared)(H:Hp)(E:XK):Cx where
 prog:=P
 w:=w
 K:=K
 mg:=mg
 base:=base
 A:=A.deeper (envOfC qual scope s.heap.objs.size f cd)
 N:=N
 s₀:=s
 H₀:=H
 env:=envOfC qual scope s.heap.objs.size f cd
 outer:=outer
 stack:=envOfC qual scope s.heap.objs.size f cd::outer
 ex:=[]
 calm:=true
 fn:=fun _=>true
 pn:=[]
 xe:=fun e s'=>wpAny (model P w) (A.deeper (envOfC qual scope s.heap.objs.size f cd)) (leaving (envOfC qual scope s.heap.objs.size f cd) e) (fun _ s''=>CX outer H s E e s'') (fun e' s''=>CX outer H s E e' s'') s'
theorem am8 {sc:Scope}{n:Nat}{x:Str}(h:sc.names.lookup x=some .cell):∃c,(cellsFrom n sc.names []).lookup x=some c:=by
 have q:=PySem.W.cellsFrom_some sc.names n [] (.inl h);exact cl4.mp q
theorem ba6 {CX:S6}{P:Program}{w:World}{K:PySem.W.Frag}{mg:Str->Option Value}{base:Heap}{N ps:List Str}{qual:Str}{scope:Scope}{f:Addr}{cd:Value}{A:Around}{outer:List Env}{s s1:Shared}{H:Hp}{E:XK}{us:List Value}{vs:List V}
   (S:o7 N ps scope) (hd:A.handled=none) (e0:av4 P w K mg base A outer s H) (hl:vs.length=ps.length) (r:k7 vs us)
   (x:InCallC s s.heap.objs.size (bindL (envOfC qual scope s.heap.objs.size f cd).kindOf (ps.zip us) fun _=>none) (cellsFrom (s.heap.objs.size+1) scope.names []) (bindC (envOfC qual scope s.heap.objs.size f cd).kindOf (ps.zip us) fun _=>none) s1):
   i8 (U7 CX P w K mg base N qual scope f cd A outer s H E) [] (R4 N vs) H s1:=by
 have hpl:ps.length<=N.length:=by have:=congrArg List.length S.pre;rw[ce4] at this;omega
 obtain ⟨h1,tk,rfl,hk⟩:=x.done
 have noA:∀b:Addr,b∉(U7 CX P w K mg base N qual scope f cd A outer s H E).ex:=fun b z=>absurd (show b∈([]:List Addr) from z) (by simp)
 refine ⟨⟨e0.mod,S.kind,rfl,rfl,cd5 _,fun y z c h1 h2=> ?_,fun y hy=> ?_,fun y c _ h=> ?_,fun _=>hd,Around.frames_deeper e0.frames,.inr ⟨rfl,rfl⟩,fun b z=>absurd z (noA b),e0.bs,e0.bsz,fun b _ _=>noA b,fun b z=>absurd z (noA b),e0.funs,e0.frf⟩,
   rfl,e0.bare,Un.kept hk,⟨_,x.toInCall.ns,fun i y v h1 h2 h3=> ?_⟩,fun y c h=>⟨_,x.cell y c h⟩,e0.hok.fresh (cd5 _),fun y c h=> ?_,fun p hp=>absurd (show p∈([]:List (Addr×Obj)) from hp) (by simp),e0.hok.kept hk,?_⟩
 · exact name_of_addr x.apart (PySem.mem_of_lookup h1) (PySem.mem_of_lookup h2)
 · have hy:scope.names.lookup y=some .cell\/scope.names.lookup y=some .free:=hy
   rcases hy with hy|hy
   · exact am8 hy
   · exact absurd rfl (S.nofree _ (PySem.mem_of_lookup hy))
 · exact cf2 (x.above y c (PySem.mem_of_lookup h))
 · have hi:i < vs.length:=by
     unfold R4 at h2
     by_cases hi:i < vs.length
     · exact hi
     · rw[cg5 (by simpa using hi)] at h2;rw[cl6] at h2
       split at h2<;>cases h2
   have ha:vs[i]? =some v:=by
     unfold R4 at h2;rw[cg7 (by simpa using hi),ce3] at h2
     cases e:vs[i]? with
     |none=>rw[e] at h2;cases h2
     |some a=>rw[e] at h2;cases h2;rfl
   obtain ⟨u,hu,rv⟩:=r.get ha
   have hp:ps[i]? =some y:=by
     rw[<-S.pre,cf3 (by omega)];exact h1
   have ndP:ps.Nodup:=by rw[<-S.pre];exact S.nd.sublist (List.take_sublist _ _)
   refine ⟨u,rv,?_⟩
   rcases S.par y (cd7 hp) with k|k
   · exact .inl ⟨k,ai7 ndP hp hu k⟩
   · obtain ⟨c,e⟩:=am8 (n:=s.heap.objs.size+1) k;refine .inr ⟨.inl k,c,e,?_⟩;have q:=x.cell y c e;rw[ai8 ndP hp hu (by show scope.names.lookup y≠_;rw[k];decide)] at q;exact q
 · exact e0.hok.fresh (cf2 (x.above y c (PySem.mem_of_lookup h)))
 · unfold R4;show _=N.length;rw[cc7,cc4,cj0];omega
theorem bl0 {CX:S6}{P:Program}{w:World}{K:PySem.W.Frag}{mg:Str->Option Value}{base:Heap}{k:Nat}{f:Addr}{name qual:Str}{params:Arguments}{body:List Stmt}{scope:Scope}{dV kV doc pm cdv ct oc:Value}{an od:Option Addr}
   {osl:Array (Option Value)} {N ps:List Str} {sp:Sp} (lk:K.lookup f=some ⟨oc,od,.func (PySem.W.fnOf name qual params body scope dV kV doc pm an cdv ct),osl⟩) (hcd:PySem.W.codeIn K cdv qual=true) (S:o7 N ps scope)
   (len:∀vs H Q E,sp vs H Q E->vs.length=ps.length)
   (hbody:∀(A:Around) (outer:List Env) (s:Shared) (H:Hp) (vs:List V) (Q:VK) (E:XK),y7 k (A.deeper (envOfC qual scope s.heap.objs.size f cdv))->sp vs H Q E->
     ∃t,Q7 (U7 CX P w K mg base N qual scope f cdv A outer s H E) body t/\t {nx:=fun _ H'=>Q .non H',rt:=Q} (R4 N vs) H):
   o4 P w K mg base CX (k+1) f (PySem.W.fnOf name qual params body scope dV kV doc pm an cdv ct) ps sp:=by
 refine ⟨len,fun A outer s H args us vs Q E hr e0 hb r hsp=> ?_⟩;have hl:=len _ _ _ _ hsp
 have KX:K.In s.heap:=e0.mod.kin.keeps fun b o e=>(e0.bs b o e).1
 have lim:s.heap.NoLimit:=e0.mod.nolimit.keeps fun b o e=>(e0.bs b o e).1
 have hkind:∀y∈ps.zip us,scope.names.lookup y.1=some .local\/(scope.names.lookup y.1=some .cell/\((cellsFrom (s.heap.objs.size+1) scope.names []).lookup y.1).isSome=true):=fun ⟨n,v⟩ hy=>by
   rcases S.par n (cl9 hy).1 with q|q
   · exact .inl q
   · exact .inr ⟨q,PySem.W.cellsFrom_some _ _ _ (.inl q)⟩
 refine codeAny_call_function hr.depth (KX _ _ lk) rfl S.co S.gen rfl (PySem.W.codeRec_of KX hcd) (hb _ _ _ _ ?_)
 refine wpAny_newFunctionEnv_cells S.kind hkind fun env he s1 x=> ?_
 subst he;refine ⟨lim.keeps x.toInCall.keep,codeAny_func ?_⟩;obtain ⟨t,ht,hq⟩:=hbody A outer s H vs Q E (hr.deeper _) hsp;have I:i8 (U7 CX P w K mg base N qual scope f cdv A outer s H E) [] (R4 N vs) H s1:=ba6 S hr.hd e0 hl r x
 refine wpAny_mono (ht [] s1 (R4 N vs) H _ I hq) (fun fl s' hs=> ?_) fun e s' hs=>hs
 have fin:∀{σ':St} {H':Hp} {v:V} {u:Value},i8 (U7 CX P w K mg base N qual scope f cdv A outer s H E) [] σ' H' s'->o9 v u->Q v H'->CE outer P w H s Q u s':=
   fun {σ' H' v u} J rv q=>⟨v,H',J.os,J.bare,J.base,J.hok,rv,q⟩
 cases fl with
 |ret u=>
  obtain ⟨v,σ',H',J,rv,q⟩:=hs;exact fin J rv q
 |next=>
  obtain ⟨σ',H',J,q⟩:=hs;exact fin (v:=V.non) (u:=Value.none) J rfl q
 |brk=>
  obtain ⟨_,_,_,q⟩:=hs;exact False.elim q
 |cont=>
  obtain ⟨_,_,_,q⟩:=hs;exact False.elim q
end L2
namespace L2
open PySem PySem.Spec PyProof.Rows
section
variable {X:Cx} {x:Str} {p pos:Pos} {e:Expr} {es:List Expr} {t:TA} {id T:String} {r:List V->Hp->VK->Prop}
def Q8 (r:List V->Hp->VK->Prop)(t:TA):TE:=fun σ H Q=>t σ H fun vs H1=>r vs H1 Q
theorem G7 (hc:E4 X (.builtin id) r)(hg:Gl X x)(hm:X.mg x=none)(hv:bootBuiltins x=some (.builtin id))(ha:PA X (e::es) t)(hn:x≠"__name__":=by decide)(hdb:(x==("__debug__":Str))=false:=by decide)
   (he:starEach (e::es) X.env=(false,eval e X.env)::starEach es X.env:=by rfl) (hpl:(backTo pos (starEach es X.env)).any (·.1)=false:=by rfl):PE X (.Call (.Name x p) (e::es) [] pos) (Q8 r t):=by
 intro pins s σ H Q I h;refine wpAny_Call_Name_kw (O3 I hg hm hv ?_ hn hdb);exact PyProof.Rows.callWith_builtin1 (v0 (ha pos pins s σ H _ I h) fun us s1 ⟨vs,H1,I1,r1,q1⟩=>hc pins s1 σ H1 vs us Q I1 r1 q1) he hpl
theorem K9 (hc:E4 X (.type T) r)(hg:Gl X x)(hm:X.mg x=none)(hv:bootBuiltins x=some (.type T))(ha:PA X (e::es) t)(hn:x≠"__name__":=by decide)(hdb:(x==("__debug__":Str))=false:=by decide)
   (he:starEach (e::es) X.env=(false,eval e X.env)::starEach es X.env:=by rfl) (hpl:(backTo pos (starEach es X.env)).any (·.1)=false:=by rfl):PE X (.Call (.Name x p) (e::es) [] pos) (Q8 r t):=by
 intro pins s σ H Q I h;refine wpAny_Call_Name_kw (O3 I hg hm hv ?_ hn hdb);exact PyProof.Rows.callWith_type1 (v0 (ha pos pins s σ H _ I h) fun us s1 ⟨vs,H1,I1,r1,q1⟩=>hc pins s1 σ H1 vs us Q I1 r1 q1) he hpl
end
end L2
namespace HT
open PySem PyProof.Rows
section
variable {prog:Program} {w:World} {A:Around} {E:Value->Shared->Prop} {s:Shared}
def sIx (n d:Nat):Option Int->Nat
 |none=>d
 |some v=>if v < 0 then (v+(n:Int)).toNat else min v.toNat n
theorem ca3 (n d:Nat):sIx n d none=d:=rfl
theorem cb0 (n d k:Nat):sIx n d (some (k:Int))=min k n:=by
 show (if (k:Int) < 0 then ((k:Int)+(n:Int)).toNat else min (k:Int).toNat n)=min k n;rw[if_neg (by omega),cj5]
end
end HT
namespace L2
open PySem PySem.Spec PyProof.Rows
abbrev TO:=St->Hp->(Option Int->Hp->Prop)->Prop
def PO (X:Cx)(e:Option Expr)(t:TO):Prop:=
 ∀(pins:List (Addr×Obj)) (s:Shared) (σ:St) (H:Hp) (Q:Option Int->Hp->Prop),i8 X pins σ H s->t σ H Q->
  wpAny (model X.prog X.w) X.A (evalPart e X.env) (fun u s'=>∃o H',i8 X pins σ H' s'/\IsPart u o/\Q o H') X.xe s
def bm8:TO:=fun _ H Q=>Q none H
def bw2 (t:TE):TO:=fun σ H Q=>t σ H fun x H1=>∃i,x= .int i/\Q (some i) H1
theorem av5 {ns:List Int}:∀{us:List Value},k7 (ns.map V.int) us->IntsAre us ns:=by
 induction ns with
 |nil=>intro us r;rw[ci2] at r;cases r;exact .nil
 |cons n ns ih=>
  intro us r;rw[ce5] at r
  cases r with
  |cons r1 r2=>
   obtain ⟨t,e⟩:=r1;subst e;exact .cons n t (ih r2)
section
variable {X:Cx} {e:Expr} {te:TE} {lo hi:Option Expr} {tl th:TO} {pos p2:Pos}
theorem J2:PO X none bm8:=by
 intro pins s σ H Q I h;rw[evalPart_none];exact wpAny_pure ⟨none,H,I,.none,h⟩
theorem J3 (h:PE X e te):PO X (some e) (bw2 te):=by
 intro pins s σ H Q I hw;rw[evalPart_some]
 refine v0 (h pins s σ H _ I hw) fun u s1 ⟨x,H1,I1,r1,q1⟩=> ?_
 obtain ⟨i,rfl,q⟩:=q1;obtain ⟨t,rfl⟩:=r1;exact ⟨some i,H1,I1,.int i t,q⟩
def SlR (X:Cx)(r:V->Option Int->Option Int->Hp->VK->Prop):Prop:=
 ∀(pins:List (Addr×Obj)) (s:Shared) (σ:St) (H:Hp) (x:V) (v vl vu:Value) (lo hi:Option Int) (sl:Addr) (Q:VK),i8 X pins σ H s->o9 x v->s.heap.IsSliceOf sl vl vu .none->IsPart vl lo->IsPart vu hi->r x lo hi H Q->
  ∃T id,typeLookup (.type T) "__getitem__"=pure (some (.builtin id))/\s.TypeIs v T/\wpAny (model X.prog X.w) X.A (getItem v (.ref sl)) (EP X pins σ Q) X.xe s
def tSl (r:V->Option Int->Option Int->Hp->VK->Prop)(te:TE)(tl th:TO):TE:=fun σ H Q=>te σ H fun x H1=>tl σ H1 fun l H2=>th σ H2 fun u H3=>r x l u H3 Q
theorem E9 {r:V->Option Int->Option Int->Hp->VK->Prop}(hr:SlR X r)(he:PE X e te)(hl:PO X lo tl)(hu:PO X hi th):PE X (.Subscript e (.Slice lo hi none p2) pos) (tSl r te tl th):=by
 intro pins s σ H Q I h;refine Subscript_ (v0 (he pins s σ H _ I h) fun v s1 ⟨x,H1,I1,r1,q1⟩=> ?_);refine wpAny_Slice (v0 (hl pins s1 σ H1 _ I1 q1) fun vl s2 ⟨l,H2,I2,pl,q2⟩=>v0 (hu pins s2 σ H2 _ I2 q2) fun vu s3 ⟨u,H3,I3,pu,q3⟩=> ?_);rw[evalPart_none];refine wpAny_pure ?_
 have I4:i8 X pins σ H3 {s3 with heap:=s3.heap.push {cls:= .type "slice",data:= .fields #[vl,vu,.none]}}:=I3.kept (t':=s3.toks) fun b ob q=>Heap.get?_push_of_some _ q
 obtain ⟨T,id,hT,ht,hg⟩:=hr pins {s3 with heap:=s3.heap.push {cls:= .type "slice",data:= .fields #[vl,vu,.none]}} σ H3 x v vl vu l u s3.heap.objs.size Q I4 r1 (Heap.IsSliceOf.new ..) pl pu q3;show wpAny (model X.prog X.w) X.A (subscriptTail e (.Slice lo hi none p2) v (.ref s3.heap.objs.size)) (EP X pins σ Q) X.xe {s3 with heap:=s3.heap.push {cls:= .type "slice",data:= .fields #[vl,vu,.none]}};exact tail_any (ops:=[.ref s3.heap.objs.size,v]) ht hT hg (by with_unfolding_all rfl)
def Q2 (xs:List V)(lo hi:Option Int):List V:=(xs.drop (HT.sIx xs.length 0 lo)).take (HT.sIx xs.length xs.length hi - HT.sIx xs.length 0 lo)
theorem ar7 (xs:List V)(lo hi:Option Int):(Q2 xs lo hi).length<=xs.length:=by
 unfold Q2;rw[ce4,cf6];omega
end
end L2
namespace L2
open PySem PySem.Spec PyProof.Rows
def V6 (n:Nat)(i:Int):Option Nat:=if 0<=i then (if i < n then some i.toNat else none) else if -(n:Int)<=i then some (i+n).toNat else none
def V7 {α:Type}(xs:List α)(i:Int):Option α:=(V6 xs.length i).bind fun j=>xs[j]?
theorem ag8 {n:Nat}{i:Int}{j:Nat}(h:V6 n i=some j):seqIndex? i n=some j/\j < n/\ -(n:Int)<=i/\i < n:=by
 unfold V6 at h
 by_cases h0:0<=i
 · rw[if_pos h0] at h
   by_cases h1:i < n
   · rw[if_pos h1] at h;have e:i.toNat=j:=Option.some.inj h;exact ⟨by rw[seqIndex_of h0 h1,e],by omega,by omega,h1⟩
   · rw[if_neg h1] at h;cases h
 · rw[if_neg h0] at h
   by_cases h1: -(n:Int)<=i
   · rw[if_pos h1] at h;have e:(i+n).toNat=j:=Option.some.inj h;exact ⟨by rw[seqIndex_neg (by omega) h1,e],by omega,h1,by omega⟩
   · rw[if_neg h1] at h;cases h
theorem bm9 {α:Type}{xs:List α}{i:Int}{v:α}(h:V7 xs i=some v):∃j,seqIndex? i xs.length=some j/\xs[j]? =some v/\j < xs.length/\ -(xs.length:Int)<=i/\i < xs.length:=by
 unfold V7 at h
 cases e:V6 xs.length i with
 |none=>rw[e] at h;cases h
 |some j=>
  rw[e] at h;obtain ⟨h1,h2,h3,h4⟩:=ag8 e;exact ⟨j,h1,h,h2,h3,h4⟩
theorem o8 {α:Type}{xs:List α}{j:Nat}{v:α}(h:xs[j]? =some v):V7 xs (j:Int)=some v:=by
 have hj:j < xs.length:=(cc5.mp h).1
 have e:V6 xs.length (j:Int)=some j:=by
   unfold V6;rw[if_pos (by omega),if_pos (by omega)];simp
 unfold V7;rw[e];exact h
def bn0 (b:Expr):Prop:=∀o i,subscripted b false o i=operate [o,i] (getItem o i)
def IxR (X:Cx)(r:R2):Prop:=
 ∀(value slice:Expr) (pins:List (Addr×Obj)) (s:Shared) (σ:St) (H:Hp) (x y:V) (v u:Value) (Q:VK),i8 X pins σ H s->o9 x v->o9 y u->r x y H Q->
  subscripted slice false v u=operate [v,u] (getItem v u)->wpAny (model X.prog X.w) X.A (subscriptTail value slice v u) (EP X pins σ Q) X.xe s
def MtR (X:Cx)(id:String)(r:V->List V->Hp->VK->Prop):Prop:=
 ∀(pins:List (Addr×Obj)) (s:Shared) (σ:St) (H:Hp) (x:V) (xs:List V) (v:Value) (us:List Value) (Q:VK),i8 X pins σ H s->o9 x v->k7 xs us->r x xs H Q->
  wpAny (model X.prog X.w) X.A (call (.builtin id) (v::us)) (EP X pins σ Q) X.xe s
section
variable {X:Cx} {a b:Expr} {ta tb:TE} {pos:Pos}
theorem A9 {r:R2}(hr:IxR X r)(ha:PE X a ta)(hb:PE X b tb)(hs:bn0 b):PE X (.Subscript a b pos) (tOp r ta tb):=by
 intro pins s σ H Q I h;exact Subscript_ (bg5 ha hb I h fun v u s2 x y H2 I2 rx ry q=>hr a b pins s2 σ H2 x y v u Q I2 rx ry q (hs _ _))
def bs9 (K:PySem.W.Frag):R2:=fun x y H Q=>∃p xs i v,x= .ref p/\y= .int i/\j4 K H p xs/\V7 xs i=some v/\Q v H
theorem x9:IxR X (bs9 X.K):=by
 intro value slice pins s σ H x y v u Q I rx ry h hs;obtain ⟨p,xs,i,z,rfl,rfl,hq,he,q⟩:=h;cases rx;obtain ⟨t,rfl⟩:=ry;obtain ⟨its,r,pl,hz⟩:=I.list hq;obtain ⟨j,h1,h2,h3,h4,h5⟩:=bm9 he;obtain ⟨w,ew,rw'⟩:=r.get h2;have hl:=r.length;have hn:=am6;have fin:EP X pins σ Q w s:=⟨z,H,I,rw',q⟩
 by_cases h0:0<=i
 · have hj:i.toNat=j:=by
     rw[seqIndex_of h0 h5] at h1;exact Option.some.inj h1
   exact item_listR pl.isList h0 (by omega) (by rw[hj];simpa using ew) fin hs
 · have hj:(i+(its.toArray.size:Int)).toNat=j:=by
     rw[seqIndex_neg (by omega) h4] at h1;rw[cc8,<-hl];exact Option.some.inj h1
   exact subscriptTail_builtinR (x:=w) pl.isList.typeIs slot_list_getitem.lookup
     (wpAny_getItem_list_neg (Q:=fun r s'=>r=w/\EP X pins σ Q r s') pl.isList (by omega) (by rw[cc8]<;>omega) (by omega) (by rw[hj];simpa using ew) ⟨rfl,fin⟩) hs
theorem av6 (its:List Value)(n j:Nat)(u:Value):Obj.mapSeq (·.setIfInBounds j u) {cls:= .type "list",data:= .seq its.toArray n}={cls:= .type "list",data:= .seq (its.set j u).toArray n}:=by
 simp [Obj.mapSeq]
theorem i8.lst {pins:List (Addr×Obj)}{σ:St}{H:Hp}{s:Shared}{p:Addr}{xs:List V}(I:i8 X pins σ H s)(h:H p=some (.lst xs)):
   ∃(its:List Value) (n:Nat),k7 xs its/\s.heap.get? p=some {cls:= .type "list",data:= .seq its.toArray n}/\xs.length<=sizeLine:=by
 obtain ⟨z,its,n,r,e⟩:=I.hok p _ h;exact ⟨its,n,r,e,z⟩
theorem i8.lstUpd {pins:List (Addr×Obj)}{σ:St}{H:Hp}{s:Shared}{p:Addr}{xs ys:List V}{its its':List Value}{n n':Nat}{f:Obj->Obj}(I:i8 X pins σ H s)(h:H p=some (.lst xs))
   (ho:s.heap.get? p=some {cls:= .type "list",data:= .seq its.toArray n}) (hf:f {cls:= .type "list",data:= .seq its.toArray n}={cls:= .type "list",data:= .seq its'.toArray n'}) (r:k7 ys its') (hz:ys.length<=sizeLine) (t:Nat):
   i8 X pins σ (c8 H p (.lst ys)) {s with heap:=s.heap.update p f,toks:=t}:=by
 have e:(s.heap.update p f).get? p=some {cls:= .type "list",data:= .seq its'.toArray n'}:=by
   rw[Heap.get?_update_self f ho (by rw[hf]<;>rfl),hf]
 refine I.write (x:=p) (e:=p) (by rw[h];trivial) (.inl rfl) (fun b u hb q=>(Heap.get?_update_other _ _ (Ne.symm hb)).trans q) ⟨_,e⟩ ?_;exact ⟨hz,its',n',r,e⟩
def bw3:V->V->V->Hp->(Hp->Prop)->Prop:=fun o i v H Q=>∃p xs k j,o= .ref p/\i= .int k/\H p=some (.lst xs)/\V6 xs.length k=some j/\Q (c8 H p (.lst (xs.set j v)))
theorem N1:br9 X bw3:=by
 intro pins s σ H o i v ov iv u Q I ro ri rv h;obtain ⟨p,xs,k,j,rfl,rfl,hp,hj,q⟩:=h;cases ro;obtain ⟨t,rfl⟩:=ri;obtain ⟨its,n,r,ho,hz⟩:=I.lst hp;obtain ⟨h1,h2,h3,h4⟩:=ag8 hj;have hl:=r.length;have hn:=am6
 have I':i8 X pins σ (c8 H p (.lst (xs.set j v))) {s with heap:=s.heap.update p (Obj.mapSeq (·.setIfInBounds j u))}:=
   I.lstUpd hp ho (av6 its n j u) (r.set rv j) (by rw[cj3];exact hz) s.toks
 by_cases h0:0<=k
 · have hk:k.toNat=j:=by
     rw[seqIndex_of h0 h4] at h1;exact Option.some.inj h1
   exact PySem.W.ki_setAt ho h0 (by omega) (by rw[cc8,<-hl];exact h4) (by rw[hk];exact ⟨_,I',q⟩)
 · have hk:(k+(its.toArray.size:Int)).toNat=j:=by
     rw[seqIndex_neg (by omega) h3] at h1;rw[cc8,<-hl];exact Option.some.inj h1
   exact PySem.W.ki_setBack ho (by omega) (by rw[cc8,<-hl];exact h3) (by omega) (by rw[hk];exact ⟨_,I',q⟩)
theorem am9 (lo hi:Option Int)(n:Nat):(sliceBounds lo hi none n).1=((HT.sIx n 0 lo:Nat):Int)/\(sliceBounds lo hi none n).2.1=((HT.sIx n n hi:Nat):Int)/\(sliceBounds lo hi none n).2.2=1:=by
 refine ⟨?_,?_,rfl⟩
 · cases lo with
   |none=>simp [sliceBounds,HT.sIx]
   |some i=>
    simp only[sliceBounds,HT.sIx,Option.getD_none,show (1:Int) > 0 by decide,if_true]
    by_cases h:i < 0
    · simp only[h,if_true]<;>omega
    · simp only[h,if_false]<;>omega
 · cases hi with
   |none=>simp [sliceBounds,HT.sIx]
   |some i=>
    simp only[sliceBounds,HT.sIx,Option.getD_none,show (1:Int) > 0 by decide,if_true]
    by_cases h:i < 0
    · simp only[h,if_true]<;>omega
    · simp only[h,if_false]<;>omega
theorem ak1 (its:List Value)(lo hi:Option Int):slicePick its.toArray lo hi none=((its.drop (HT.sIx its.length 0 lo)).take (HT.sIx its.length its.length hi - HT.sIx its.length 0 lo)).toArray:=by
 obtain ⟨h1,h2,h3⟩:=am9 lo hi its.toArray.size;unfold slicePick;rw[h1,h2,h3]
 simp only[sliceRange_one,pick_run,cc8]<;>rfl
def ca4 (K:PySem.W.Frag):V->Option Int->Option Int->Hp->VK->Prop:=fun x lo hi H Q=>∃a xs,x= .ref a/\j4 K H a xs/\∀p,H p=none->Q (.ref p) (c8 H p (.lst (Q2 xs lo hi)))
theorem J4:SlR X (ca4 X.K):=by
 intro pins s σ H x v vl vu lo hi sl Q I rx hs pl pu h;obtain ⟨a,xs,rfl,hx,q⟩:=h;cases rx;obtain ⟨its,r,ht,hz⟩:=I.list hx;have hlen:=r.length;refine ⟨"list",_,slot_list_getitem.lookup,ht.isList.typeIs,?_⟩;refine wpAny_getItem_list_slice ht.isList hs pl pu .none (by simp) ?_ (by rw[cc8]<;>omega);rw[ak1,<-hlen];refine ⟨.ref s.heap.objs.size,_,I.laid (t':=s.toks) (o:= .lst (Q2 xs lo hi)) (fun b ob q=>Heap.get?_push_of_some _ q) (cd5 _) ?_,rfl,q _ (I.hok.fresh (cd5 _))⟩;exact ⟨cd3 (ar7 xs lo hi) hz,_,0,(r.drop (HT.sIx xs.length 0 lo)).take (HT.sIx xs.length xs.length hi - HT.sIx xs.length 0 lo),Heap.get?_push_size _ rfl⟩
def L9:V->Bool
 | .non=>true
 | .bl _=>true
 | .int _=>true
 | .str _=>true
 |_=>false
def S7:V->V->Bool
 | .non,.non=>true
 | .bl a,.bl b=>a==b
 | .bl a,.int b=>(if a then 1 else 0)==b
 | .int a,.bl b=>a==(if b then 1 else 0)
 | .int a,.int b=>a==b
 | .str a,.str b=>a==b
 |_,_=>false
theorem ba7 {A:Around}{s:Shared}{y x:V}{u v:Value}(ry:o9 y u)(rx:o9 x v)(fy:L9 y=true)(fx:L9 x=true):SeqAt.EqAt A s u v (S7 y x):=by
 cases y with
 |non=>
  cases ry
  cases x with
  |non=>cases rx;exact SeqAt.EqAt.same _
  |bl b=>cases rx;exact SeqAt.EqAt.none_bool b
  |int b=>obtain ⟨t,rfl⟩:=rx;exact SeqAt.EqAt.none_int b t
  |str b=>obtain ⟨t,rfl⟩:=rx;exact SeqAt.EqAt.none_str b t
  |_=>exact absurd (show false=true from fx) cd1
 |bl a=>
  cases ry
  cases x with
  |non=>cases rx;exact SeqAt.EqAt.bool_none a
  |bl b=>cases rx;exact SeqAt.EqAt.bool_bool a b
  |int b=>obtain ⟨t,rfl⟩:=rx;exact SeqAt.EqAt.bool_int a b t
  |str b=>obtain ⟨t,rfl⟩:=rx;exact SeqAt.EqAt.bool_str a b t
  |_=>exact absurd (show false=true from fx) cd1
 |int a=>
  obtain ⟨t',rfl⟩:=ry
  cases x with
  |non=>cases rx;exact SeqAt.EqAt.int_none a t'
  |bl b=>cases rx;exact SeqAt.EqAt.int_bool a t' b
  |int b=>obtain ⟨t,rfl⟩:=rx;exact SeqAt.EqAt.int_int a t' b t
  |str b=>obtain ⟨t,rfl⟩:=rx;exact SeqAt.EqAt.int_str a t' b t
  |_=>exact absurd (show false=true from fx) cd1
 |str a=>
  obtain ⟨t',rfl⟩:=ry
  cases x with
  |non=>cases rx;exact SeqAt.EqAt.str_none a t'
  |bl b=>cases rx;exact SeqAt.EqAt.str_bool a t' b
  |int b=>obtain ⟨t,rfl⟩:=rx;exact SeqAt.EqAt.str_int a t' b t
  |str b=>obtain ⟨t,rfl⟩:=rx;exact SeqAt.EqAt.str_str a t' b t
  |_=>exact absurd (show false=true from fx) cd1
 |_=>exact absurd (show false=true from fy) cd1
def eqU (x:V)(u:Value):Bool:=match u with
 | .none=>S7 .non x
 | .bool b=>S7 (.bl b) x
 | .int i _=>S7 (.int i) x
 | .str z _=>S7 (.str z) x
 |_=>false
theorem ba8 {x y:V}{u:Value}(r:o9 y u)(f:L9 y=true):eqU x u=S7 y x:=by
 cases y with
 |non=>cases r;rfl
 |bl b=>cases r;rfl
 |int i=>obtain ⟨t,rfl⟩:=r;rfl
 |str z=>obtain ⟨t,rfl⟩:=r;rfl
 |_=>exact absurd (show false=true from f) cd1
theorem ag9 {x:V}:∀{xs:List V} {us:List Value},k7 xs us->xs.all L9=true->us.any (eqU x)=xs.any fun y=>S7 y x
 |_,_,.nil,_=>rfl
 |y::xs,u::us,.cons r t,f=>by
  rw[List.all_cons,ce9] at f;rw[cj8,cj8,ba8 r f.1,ag9 t f.2]
theorem ac5 {A:Around}{s:Shared}{x:V}{v:Value}(rx:o9 x v)(fx:L9 x=true):∀{xs:List V} {us:List Value},k7 xs us->xs.all L9=true->∀u∈us,SeqAt.EqAt A s u v (eqU x u)
 |_,_,.nil,_=>fun u hu=>by cases hu
 |y::xs,u::us,.cons r t,f=>fun u' hu=>by
  rw[List.all_cons,ce9] at f
  rcases ce0.mp hu with rfl|hu
  · rw[ba8 r f.1];exact ba7 r rx f.1 fx
  · exact ac5 rx fx t f.2 u' hu
def inV (x:V)(xs:List V):Bool:=xs.any fun y=>S7 y x
def rIn (K:PySem.W.Frag)(neg:Bool):R2:=fun x y H Q=>∃p xs,y= .ref p/\(j4 K H p xs\/V2 K H p xs)/\L9 x=true/\xs.all L9=true/\Q (.bl (if neg then !inV x xs else inV x xs)) H
theorem bb0:G2 X (compareOp .In) (rIn X.K false):=by
 intro pins s σ H x y v u Q I rx ry h;obtain ⟨p,xs,rfl,hq,fx,fs,q⟩:=h;cases ry
 rcases hq with hq|hq
 · obtain ⟨its,r,pl,hz⟩:=I.list hq;refine SeqAt.in_listAt (eqU x) pl.isList (fun w hw=>ac5 rx fx r fs w (by simpa using hw)) ⟨.bl _,H,I,rfl,?_⟩;rw[show its.toArray.any (eqU x)=its.any (eqU x) by simp,ag9 r fs];exact q
 · obtain ⟨its,r,pl,hz⟩:=I.tuple hq;refine SeqAt.in_tupleAt (eqU x) pl (fun w hw=>ac5 rx fx r fs w (by simpa using hw)) ⟨.bl _,H,I,rfl,?_⟩;rw[show its.toArray.any (eqU x)=its.any (eqU x) by simp,ag9 r fs];exact q
theorem an0:E4 X (.builtin "len") (fun xs H Q=>∃p ys,xs=[.ref p]/\(j4 X.K H p ys\/V2 X.K H p ys)/\Q (.int ys.length) H):=by
 intro pins s σ H xs us Q I r h;obtain ⟨p,ys,rfl,hq,q⟩:=h;obtain ⟨u,rfl,rx⟩:=L8 r;cases rx;have hn:=am6
 rcases hq with hq|hq
 · obtain ⟨its,r',pl,hz⟩:=I.list hq;have hlen:=r'.length;exact Calls.call_len_list pl.isList (by simp only[cc8]<;>omega) ⟨.int ys.length,H,I.tok _,⟨s.toks+1,by rw[cc8,hlen]⟩,q⟩
 · obtain ⟨its,r',pl,hz⟩:=I.tuple hq;have hlen:=r'.length;exact len_tuple pl (by simp only[cc8]<;>omega) ⟨.int ys.length,H,I.tok _,⟨s.toks+1,by rw[cc8,hlen]⟩,q⟩
theorem an1:E4 X (.type "list") (fun xs H Q=>∃p ys,xs=[.ref p]/\(j4 X.K H p ys\/V2 X.K H p ys)/\∀l,H l=none->Q (.ref l) (c8 H l (.lst ys))):=by
 intro pins s σ H xs us Q I r h;obtain ⟨p,ys,rfl,hq,q⟩:=h;obtain ⟨u,rfl,rx⟩:=L8 r;cases rx
 have fin:∀(its:List Value),k7 ys its->ys.length<=sizeLine->∀(h':Heap) (c':Nat),(∀b o',s.heap.get? b=some o'->h'.get? b=some o')->
     h'.get? s.heap.objs.size=some {cls:= .type "list",dict:=none,data:= .seq its.toArray c',slots:= #[]}->EP X pins σ Q (.ref s.heap.objs.size) {s with heap:=h'}:=fun its r' hz h' c' kp e=>
   ⟨.ref s.heap.objs.size,_,I.laid (t':=s.toks) kp (cd5 _) (show A1 X.prog X.w _ h' _ (.lst ys) from ⟨hz,its,c',r',e⟩),rfl,q _ (I.hok.fresh (cd5 _))⟩
 rcases hq with hq|hq
 · obtain ⟨its,r',pl,hz⟩:=I.list hq;have hlen:=r'.length;obtain ⟨o,ho,hc,n,hd⟩:=pl.isList;exact call_list_seq p (.inl rfl) ho hc hd (fun h' c' kp e=>fin its r' hz h' c' kp e) (by simp only[cc8]<;>omega)
 · obtain ⟨its,r',pl,hz⟩:=I.tuple hq;have hlen:=r'.length;obtain ⟨o,ho,hc,n,hd⟩:=pl;exact call_list_seq p (.inr rfl) ho hc hd (fun h' c' kp e=>fin its r' hz h' c' kp e) (by simp only[cc8]<;>omega)
theorem ak2:E4 X (.type "tuple") (fun xs H Q=>∃p ys,xs=[.ref p]/\((j4 X.K H p ys/\∀l,H l=none->Q (.ref l) (c8 H l (.tup ys)))\/(V2 X.K H p ys/\Q (.ref p) H))):=by
 intro pins s σ H xs us Q I r h;obtain ⟨p,ys,rfl,h⟩:=h;obtain ⟨u,rfl,rx⟩:=L8 r;cases rx
 rcases h with ⟨hq,q⟩|⟨hq,q⟩
 · obtain ⟨its,r',pl,hz⟩:=I.list hq;have hlen:=r'.length;refine call_tuple_list pl.isList (fun h' kp=> ?_) (by simp only[cc8]<;>omega);have I1:i8 X pins σ H {s with heap:=h'}:=I.kept (t':=s.toks) kp
   have I2:i8 X pins σ (c8 H h'.objs.size (.tup ys)) {s with heap:=h'.push {cls:= .type "tuple",data:= .seq its.toArray}}:=
     I1.laid (t':=s.toks) (fun b o e=>Heap.get?_push_of_some _ e) (cd5 _) (show A1 X.prog X.w _ _ _ (.tup ys) from ⟨hz,its,r',IsTup.new _ _⟩)
   exact ⟨.ref h'.objs.size,_,I2,rfl,q _ (I1.hok.fresh (cd5 _))⟩
 · obtain ⟨its,r',pl,hz⟩:=I.tuple hq;exact call_tuple_same pl ⟨.ref p,H,I,rfl,q⟩
def tyV (K:PySem.W.Frag)(T:String)(x:V)(H:Hp):Prop:=match x with
 | .str _=>T="str"
 | .int _=>T="int"
 | .ref p=>(T="list"/\∃xs,j4 K H p xs)\/(T="tuple"/\∃o,K.lookup p=some o/\o.cls= .type "tuple"/\o.dict=none)\/
     (T="dict"/\((∃kvs,H p=some (.dK kvs))\/∃kvs,H p=some (.dT kvs)))\/(T="set"/\∃S n,H p=some (.set S n))
 |_=>False
theorem bt0 {pins:List (Addr×Obj)}{σ:St}{H:Hp}{s:Shared}{T:String}{x:V}{v:Value}(I:i8 X pins σ H s)(r:o9 x v)(ty:tyV X.K T x H):
   s.TypeIs v T/\∀a,v= .ref a->∃ob,s.heap.get? a=some ob/\ob.dict=none:=by
 cases x with
 |str z=>
  obtain ⟨t,rfl⟩:=r;cases (show T="str" from ty);exact ⟨typeIs_str s z t,fun _ e=>nomatch e⟩
 |int i=>
  obtain ⟨t,rfl⟩:=r;cases (show T="int" from ty);exact ⟨typeIs_int s i t,fun _ e=>nomatch e⟩
 |ref p=>
  cases r
  rcases ty with ⟨rfl,xs,hq⟩|⟨rfl,o,hk,hc,hd⟩|⟨rfl,hk⟩|⟨rfl,S,n,hk⟩
  · obtain ⟨its,_,pl,_⟩:=I.list hq;refine ⟨pl.isList.typeIs,fun a e=> ?_⟩;cases e;obtain ⟨o,n,e,c,hd,_⟩:=pl;exact ⟨o,e,hd⟩
  · refine ⟨⟨o,I.kIn p o hk,hc⟩,fun a e=> ?_⟩;cases e;exact ⟨o,I.kIn _ o hk,hd⟩
  · have z:∃o,s.heap.get? p=some o/\o.ExactDict:=by
      rcases hk with ⟨kvs,hk⟩|⟨kvs,hk⟩
      · obtain ⟨_,_,_,_,o,_,_,e,ex,_⟩:=I.hok p _ hk;exact ⟨o,e,ex⟩
      · obtain ⟨_,_,_,_,o,_,_,e,ex,_⟩:=I.hok p _ hk;exact ⟨o,e,ex⟩
    obtain ⟨o,e,ex⟩:=z;refine ⟨⟨o,e,ex.1⟩,fun a e2=> ?_⟩;cases e2;exact ⟨o,e,ex.2.1⟩
  · obtain ⟨o,_,_,_,e,ex,_⟩:=I.hok p _ hk;refine ⟨⟨o,e,ex.1⟩,fun a e2=> ?_⟩;cases e2;exact ⟨o,e,ex.2.1⟩
 |_=>exact False.elim ty
def tBM (K:PySem.W.Frag)(T:String)(r:V->List V->Hp->VK->Prop)(to:TE)(t:TA):TE:=fun σ H Q=>to σ H fun x H1=>tyV K T x H1/\t σ H1 fun xs H2=>r x xs H2 Q
variable {o e:Expr} {es:List Expr} {to:TE} {t:TA} {name:Str} {apos cpos:Pos} {T id:String} {r:V->List V->Hp->VK->Prop}
theorem bl1 (pa:PlainAttrs T)(slot:Slot T name id)(hty:typeOf (.builtin id)=pure (.type "method_descriptor"))(hm:MtR X id r)(ho:PE X o to)(ha:PA X (e::es) t)
   (hbase:attributeBase o name X.env (eval o X.env)=eval o X.env:=by rfl)
   (hfew:((backTo cpos (starEach (e::es) X.env)).all (fun x=> !x.1)&&(backToKw cpos (keywordEach [] X.env)).all (fun x=>x.1.isSome)
     &&decide ((e::es).length+([]:List Keyword).length+(if ([]:List Keyword).isEmpty then 0 else 1) < 30))=true:=by rfl)
   (hline:(apos.endLine==cpos.line)=true:=by rfl) (hs:starEach (e::es) X.env=(false,eval e X.env)::starEach es X.env:=by rfl) (hplain:(backTo cpos (starEach es X.env)).any (·.1)=false:=by rfl):
   PE X (.Call (.Attribute o name apos) (e::es) [] cpos) (tBM X.K T r to t):=by
 intro pins s σ H Q I h;refine wpAny_Call_method_late hbase hfew hline rfl (v0 (ho pins s σ H _ I h) fun v s1 ⟨x,H1,I1,r1,ty,q1⟩=> ?_);obtain ⟨h1,h2⟩:=bt0 I1 r1 ty;refine ⟨T,id,pa,slot,hty,h1,h2,?_⟩;have hA:=ha cpos pins s1 σ H1 _ I1 q1;rw[hs] at hA ⊢;refine Calls.callWith_builtin (by show (false||(backTo cpos (starEach es X.env)).any (·.1))=false;rw[hplain]<;>rfl) (Calls.evalArgs_plain ?_)
 exact v0 hA fun us s2 ⟨vs,H2,I2,r2,q2⟩=>hm pins s2 σ H2 x vs v us Q I2 r1 r2 q2
end
end L2
namespace L2
open PySem PySem.Spec PyProof.Rows
def MtM (X:Cx)(id:String)(r:V->List V->Hp->VK->Prop):Prop:=
 ∀(pins:List (Addr×Obj)) (s:Shared) (σ:St) (H:Hp) (x:V) (xs:List V) (v:Value) (us:List Value) (Q:VK),i8 X pins σ H s->o9 x v->k7 xs us->r x xs H Q->
  wpAny (model X.prog X.w) X.A (call (.builtin id) (v::us)) (EP X pins σ Q) X.xe s
theorem k7.one:∀{x:V} {us:List Value},k7 [x] us->∃u,us=[u]/\o9 x u
 |_,_,.cons r .nil=>⟨_,rfl,r⟩
theorem k7.eraseIdx:∀{xs:List V} {us:List Value} (i:Nat),k7 xs us->k7 (xs.eraseIdx i) (us.eraseIdx i)
 |_,_,_,.nil=> .nil
 |_,_,0,.cons _ t=>t
 |_,_,i+1,.cons r t=> .cons r (k7.eraseIdx i t)
theorem k7.rep {xs:List V}{us:List Value}(h:k7 xs us):∀k:Nat,k7 (ce8 k xs).flatten (ce8 k us).flatten
 |0=> .nil
 |k+1=>by
  rw[cg4,cg4,ch0,ch0];exact k7.append h (k7.rep h k)
theorem ai9 {α:Type}:∀(l:List α) (i:Nat),(l.eraseIdx i).length<=l.length
 |[],_=>cd5 _
 |_::_,0=>Nat.le_succ _
 |_::r,i+1=>Nat.succ_le_succ (ai9 r i)
theorem aj0 (its:List Value):∀(k:Nat) (acc:List Value),
   List.foldl (fun x1 x2=>x1++x2) acc.toArray (ce8 k its.toArray)=(acc++(ce8 k its).flatten).toArray
 |0,acc=>by simp
 |k+1,acc=>by
  have e:acc.toArray++its.toArray=(acc++its).toArray:=by simp
  have e2:(acc++its)++(ce8 k its).flatten=acc++(ce8 (k+1) its).flatten:=by
    rw[cg4,ch0,ck9]
  rw[<-e2,<-aj0 its k (acc++its),<-e,cg4,List.foldl_cons]
section
variable {X:Cx} {pins:List (Addr×Obj)} {σ:St} {H:Hp} {s:Shared} {l b:Addr} {xs ys zs:List V}
theorem i8.lset {its its':List Value}{n:Nat}{f:Array Value->Array Value}{t':Nat}(I:i8 X pins σ H s)(hH:H l=some (.lst xs))
   (e:s.heap.get? l=some {cls:= .type "list",data:= .seq its.toArray n}) (hf:f its.toArray=its'.toArray) (hv:k7 ys its') (hz:ys.length<=sizeLine):
   i8 X pins σ (c8 H l (.lst ys)) {s with heap:=s.heap.update l (Obj.mapSeq f),toks:=t'}:=by
 have q:=PySem.IsL.update e f;rw[hf] at q;refine I.write (x:=l) (e:=l) (by rw[hH];exact trivial) (.inl rfl) (fun b' u hb hu=>(Heap.get?_update_other s.heap (Obj.mapSeq f) (Ne.symm hb)).trans hu) ⟨_,q⟩ ?_;exact ⟨hz,its',_,hv,q⟩
theorem i8.lnew {its:List Value}{t':Nat}(I:i8 X pins σ H s)(hv:k7 ys its)(hz:ys.length<=sizeLine):
   i8 X pins σ (c8 H s.heap.objs.size (.lst ys)) {s with heap:=s.heap.push {cls:= .type "list",data:= .seq its.toArray},toks:=t'}:=
 I.laid (fun _ _ q=>Heap.get?_push_of_some _ q) (cd5 _) ⟨hz,its,0,hv,Heap.get?_push_size _ rfl⟩
theorem i8.fresh (I:i8 X pins σ H s):H s.heap.objs.size=none:=I.hok.fresh (cd5 _)
theorem i8.lstM (I:i8 X pins σ H s)(hH:H l=some (.lst xs)):xs.length<=sizeLine/\∃(its:List Value) (n:Nat),k7 xs its/\xs.length=its.length/\s.heap.get? l=some {cls:= .type "list",data:= .seq its.toArray n}:=by
 obtain ⟨z,its,n,r,e⟩:=I.hok l _ hH;exact ⟨z,its,n,r,r.length,e⟩
theorem bg9 {n:Nat}(h:n<=sizeLine):Builtin.List.listTooLong n=false:=by
 unfold Builtin.List.listTooLong;exact decide_eq_false (by omega)
end
section
variable {X:Cx}
def at6:V->List V->Hp->VK->Prop:=fun x vs H Q=>∃l xs y,x= .ref l/\vs=[y]/\H l=some (.lst xs)/\xs.length < sizeLine/\Q .non (c8 H l (.lst (xs++[y])))
theorem bb1:MtM X "list.append" at6:=by
 intro pins s σ H x vs v us Q I rx rv h;obtain ⟨l,xs,y,rfl,rfl,hH,hz,q⟩:=h;cases rx;obtain ⟨u,rfl,ru⟩:=rv.one;obtain ⟨z,its,n,r,hl,e⟩:=I.lstM hH;refine call_meets F.slot_list_append ⟨_,e,rfl⟩ F.entry_list_append (F.args_list_append_2 _ _) (PySem.list_append l its.toArray n u (by rw[cc8];omega)) ⟨e,?_⟩;refine ⟨.non,_,I.lset (its':=its++[u]) hH e (by simp) (r.append (.cons ru .nil)) ?_,rfl,q⟩;rw[cc7,cf4];omega
def bb2:V->List V->Hp->VK->Prop:=fun x vs H Q=>∃l xs i k y,x= .ref l/\vs=[.int i]/\H l=some (.lst xs)/\ -(2^63)<=i/\i < 2^63/\seqIndex? i xs.length=some k/\xs[k]? =some y/\Q y (c8 H l (.lst (xs.eraseIdx k)))
theorem bh0:MtM X "list.pop" bb2:=by
 intro pins s σ H x vs v us Q I rx rv h;obtain ⟨l,xs,i,k,y,rfl,rfl,hH,h1,h2,hk,hy,q⟩:=h;cases rx;obtain ⟨u,rfl,ru⟩:=rv.one;obtain ⟨t,rfl⟩:=ru;obtain ⟨z,its,n,r,hl,e⟩:=I.lstM hH;obtain ⟨w,hw,rw'⟩:=r.get hy
 refine call_meets F.slot_list_pop ⟨_,e,rfl⟩ F.entry_list_pop (F.args_list_pop_2 _ _)
   (MeetsSeq.list_pop_at l its.toArray n i t k w (fitsIndex_both h1 h2) (by rw[cc8,<-hl];exact hk) (by rw[<-Array.getElem?_toList];exact hw) (by rw[cc8];omega)) ⟨e,?_⟩
 refine ⟨y,_,I.lset (its':=its.eraseIdx k) hH e ?_ (r.eraseIdx k) ?_,rw',q⟩
 · show its.toArray.eraseIdxIfInBounds k=(its.eraseIdx k).toArray;rw[List.eraseIdxIfInBounds_toArray]
 · have:=ai9 xs k;omega
def ca5:R2:=fun x y H Q=>∃l b xs zs,x= .ref l/\y= .ref b/\H l=some (.lst xs)/\H b=some (.lst zs)/\xs.length+zs.length<=sizeLine/\∀p,H p=none->Q (.ref p) (c8 H p (.lst (xs++zs)))
theorem D1:G2 X (binaryOp .Add) ca5:=by
 intro pins s σ H x y v u Q I rx ry h;obtain ⟨l,b,xs,zs,rfl,rfl,hH,hB,hz,q⟩:=h;cases rx;cases ry;obtain ⟨z,its,n,r,hl,e⟩:=I.lstM hH;obtain ⟨z2,its2,n2,r2,hl2,e2⟩:=I.lstM hB;refine PySem.P.add_list e e2 ?_ (by rw[cc8,cc8];omega)
 have ea:its.toArray++its2.toArray=(its++its2).toArray:=by simp
 rw[ea];exact ⟨.ref _,_,I.lnew (t':=s.toks) (r.append r2) (by rw[cc7];omega),rfl,q _ I.fresh⟩
def ca6:R2:=fun x y H Q=>∃l k xs,x= .ref l/\y= .int k/\H l=some (.lst xs)/\ -(2^63)<=k/\k < 2^63/\xs.length*k.toNat<=sizeLine/\
 ∀p,H p=none->Q (.ref p) (c8 H p (.lst (ce8 k.toNat xs).flatten))
theorem bn5 {α:Type}(xs:List α)(k:Nat):(ce8 k xs).flatten.length=k*xs.length:=by
 induction k with
 |zero=>simp
 |succ k ih=>rw[cg4,ch0,cc7,ih,cl7,ck5]
theorem bt2:G2 X (binaryOp .Mult) ca6:=by
 intro pins s σ H x y v u Q I rx ry h;obtain ⟨l,k,xs,rfl,rfl,hH,h1,h2,hz,q⟩:=h;cases rx;obtain ⟨t,rfl⟩:=ry;obtain ⟨z,its,n,r,hl,e⟩:=I.lstM hH
 have hlen:its.toArray.size*k.toNat<=sizeLine:=by rw[cc8,<-hl];exact hz
 have hcap:¬its.toArray.size*k.toNat > (2^63 - 1)/8:=by
   have:(sizeLine:Nat)<=(2^63 - 1)/8:=by decide
   omega
 have hfit:¬(!Builtin.List.listFitsIndex k)=true:=by
   rw[fitsIndex_both h1 h2];exact cd1
 have hlong:¬Builtin.List.listTooLong (its.toArray.size*k.toNat)=true:=by
   rw[bg9 hlen];exact cd1
 have hnew:List.foldl (fun x1 x2=>x1++x2) #[] (ce8 (if its.toArray.isEmpty=true then 0 else k.toNat) its.toArray)=(ce8 k.toNat its).flatten.toArray:=by
   have f0:∀m:Nat,List.foldl (fun x1 x2=>x1++x2) #[] (ce8 m its.toArray)=(ce8 m its).flatten.toArray:=fun m=>by
     have:=aj0 its m [];rw[List.nil_append] at this;exact this
   rw[f0]
   cases its with
   |nil=>simp
   |cons a r'=>rw[if_neg (by simp)]
 refine wpAny_binaryOp_repeat_ref (T:="list") (U:="int") (by decide) ⟨_,e,rfl⟩ (fun s'=>typeIs_int s' k t) noFill_list_mul F.fills_int_mul F.slot_int_rmul repeat_list F.slot_int_index.lookup
   (call_meets F.slot_int_rmul (typeIs_int s k t) F.entry_int_rmul (F.args_int_rmul_2 _ _) (int___rmul___int_list k t l its.toArray n)
     ⟨e,rfl,⟨_,e,rfl⟩,call_meets F.slot_list_mul ⟨_,e,rfl⟩ F.entry_list_mul (F.args_list_mul_2 _ _) (AutoListH.list___mul___list_int_3 l its.toArray n k t hfit hcap hlong) ⟨e,?_⟩⟩)
 rw[hnew];exact ⟨.ref _,_,I.lnew (t':=s.toks) (r.rep k.toNat) (by rw[bn5,Nat.mul_comm];exact hz),rfl,q _ I.fresh⟩
end
end L2
namespace L2
open PySem PySem.Spec PyProof.Rows
section
variable {κ:Type} [DecidableEq κ]
def J9 (kvs:List (κ×V))(k:κ):Option V:=(kvs.find? fun kv=>decide (kv.1=k)).map (·.2)
def M0 (kvs:List (κ×V))(k:κ)(v:V):List (κ×V):=
 if (kvs.any fun kv=>decide (kv.1=k))=true then kvs.map (fun kv=>if kv.1=k then (kv.1,v) else kv) else kvs++[(k,v)]
theorem W7 {p:κ×V}{r:List (κ×V)}{k:κ}(e:p.1=k):J9 (p::r) k=some p.2:=by simp [J9,ci7,e]
theorem S8 {p:κ×V}{r:List (κ×V)}{k:κ}(e:¬p.1=k):J9 (p::r) k=J9 r k:=by simp [J9,ci7,e]
theorem ac6 (k:κ):∀kvs:List (κ×V),(kvs.any fun kv=>decide (kv.1=k))=(J9 kvs k).isSome
 |[]=>rfl
 |p::r=>by
  rw[cj8]
  by_cases e:p.1=k
  · simp only[W7 e,decide_eq_true e,Bool.true_or,Option.isSome_some]
  · rw[S8 e,decide_eq_false e,Bool.false_or];exact ac6 k r
theorem ab4 (kvs:List (κ×V))(k:κ)(v:V):(M0 kvs k v).length<=kvs.length+1:=by
 unfold M0
 split
 · rw[cc4];omega
 · rw[cc7,cd6,cm0];omega
theorem bh1 {kvs:List (κ×V)}{k:κ}(v:V)(h:J9 kvs k=none):M0 kvs k v=kvs++[(k,v)]:=by
 unfold M0;rw[ac6,h];exact if_neg (by decide)
theorem ac0.isSome_eq {o:Option V}{u:Option Value}(r:ac0 o u):o.isSome=u.isSome:=by
 cases o with
 |none=>cases u with
  |none=>rfl
  |some _=>exact (show False from r).elim
 |some _=>cases u with
  |none=>exact (show False from r).elim
  |some _=>rfl
theorem KV.val {kvs:List (κ×V)}{vs:List (κ×Value)}(r:KV kvs vs)(k:κ):ac0 (J9 kvs k) (valueAt vs k):=by
 unfold KV at r
 induction r with
 |nil=>exact True.intro
 |@cons p q ps qs h t ih=>
  obtain ⟨h1,h2⟩:=h
  by_cases e:p.1=k
  · have e':q.1=k:=h1.symm.trans e
    have b:valueAt (q::qs) k=some q.2:=by simp [valueAt,ci7,e']
    rw[W7 e,b];exact h2
  · have e':¬q.1=k:=fun z=>e (h1.trans z)
    have b:valueAt (q::qs) k=valueAt qs k:=by simp [valueAt,ci7,e']
    rw[S8 e,b];exact ih
theorem KV.any {kvs:List (κ×V)}{vs:List (κ×Value)}(r:KV kvs vs)(k:κ):(kvs.any fun kv=>decide (kv.1=k))=vs.any fun kv=>decide (kv.1=k):=by
 unfold KV at r
 induction r with
 |nil=>rfl
 |cons h t ih=>rw[cj8,cj8,ih,h.1]
theorem KV.repl {kvs:List (κ×V)}{vs:List (κ×Value)}(r:KV kvs vs)(k:κ){y:V}{u:Value}(ry:o9 y u):
   KV (kvs.map fun kv=>if kv.1=k then (kv.1,y) else kv) (vs.map fun kv=>if kv.1=k then (kv.1,u) else kv):=by
 unfold KV at r ⊢
 induction r with
 |nil=>exact .nil
 |@cons p q ps qs h t ih=>
  rw[ce5,ce5];refine .cons ?_ ih;obtain ⟨h1,h2⟩:=h
  by_cases e:p.1=k
  · rw[if_pos e,if_pos (h1.symm.trans e)];exact ⟨h1,ry⟩
  · rw[if_neg e,if_neg (fun z=>e (h1.trans z))];exact ⟨h1,h2⟩
theorem KV.put {kvs:List (κ×V)}{vs:List (κ×Value)}(r:KV kvs vs)(k:κ){y:V}{u:Value}(ry:o9 y u):KV (M0 kvs k y) (stored vs k u):=by
 unfold M0 stored;rw[r.any k]
 by_cases e:(vs.any fun kv=>decide (kv.1=k))=true
 · rw[if_pos e,if_pos e];exact r.repl k ry
 · rw[if_neg e,if_neg e];exact Paired.snoc r ⟨rfl,ry⟩
theorem KV.length {kvs:List (κ×V)}{vs:List (κ×Value)}(r:KV kvs vs):kvs.length=vs.length:=Paired.length r
end
theorem ae3 {P:Program}{w:World}{k:x6}{u:Value}(r:o9 (kV k) u):(A8 P w).is k u=true:=by
 cases k with
 |inl i=>obtain ⟨t,e⟩:=(show ∃t,u=Value.int i t from r);subst e;exact ar5 P w i t
 |inr x=>obtain ⟨t,e⟩:=(show ∃t,u=Value.str x t from r);subst e;exact ar6 P w x t
theorem aj1 {P:Program}{w:World}:∀{ks:List x6} {us:List Value},k7 (ks.map kV) us->ItemsAre (A8 P w) ks us
 |[],_,r=>by rw[ci2] at r;cases r;exact .nil
 |k::ks,_,r=>by
  rw[ce5] at r
  cases r with
  |cons h t=>exact .cons (ae3 h) (aj1 t)
abbrev KT (H:Hp):List (List x6×V)->List (List x6×Addr×Value)->Prop:=Paired fun p q=>p.1=q.1/\H q.2.1=some (.tup (p.1.map kV))/\o9 p.2 q.2.2
theorem KT.val {H:Hp}{kvs:List (List x6×V)}{xs:List (List x6×Addr×Value)}(r:KT H kvs xs)(k:List x6):ac0 (J9 kvs k) ((atKey xs k).map (·.2)):=by
 induction r with
 |nil=>exact True.intro
 |@cons p q ps qs h t ih=>
  obtain ⟨h1,_,h2⟩:=h
  by_cases e:p.1=k
  · have e':q.1=k:=h1.symm.trans e
    have b:atKey (q::qs) k=some q.2:=by simp [atKey,ci7,e']
    rw[W7 e,b];exact h2
  · have e':¬q.1=k:=fun z=>e (h1.trans z)
    have b:atKey (q::qs) k=atKey qs k:=by simp [atKey,ci7,e']
    rw[S8 e,b];exact ih
theorem KT.repl {H:Hp}{kvs:List (List x6×V)}{xs:List (List x6×Addr×Value)}(r:KT H kvs xs)(k:List x6){y:V}{u:Value}(ry:o9 y u):
   KT H (kvs.map fun kv=>if kv.1=k then (kv.1,y) else kv) (xs.map (putAt k u)):=by
 induction r with
 |nil=>exact .nil
 |@cons p q ps qs h t ih=>
  rw[ce5,ce5];refine .cons ?_ ih;obtain ⟨h1,h2,h3⟩:=h;unfold putAt
  by_cases e:p.1=k
  · rw[if_pos e,if_pos (h1.symm.trans e)];exact ⟨h1,h2,ry⟩
  · rw[if_neg e,if_neg (fun z=>e (h1.trans z))];exact ⟨h1,h2,h3⟩
theorem KT.put {H:Hp}{kvs:List (List x6×V)}{xs:List (List x6×Addr×Value)}(r:KT H kvs xs)(k:List x6){b:Addr}{y:V}{u:Value}(hb:H b=some (.tup (k.map kV)))(ry:o9 y u):
   KT H (M0 kvs k y) (storedH xs k b u):=by
 have e:(kvs.any fun kv=>decide (kv.1=k))=(atKey xs k).isSome:=by
   rw[ac6,(r.val k).isSome_eq,cl0]
 unfold M0 storedH;rw[e]
 by_cases q:(atKey xs k).isSome=true
 · rw[if_pos q,if_pos q];exact r.repl k ry
 · rw[if_neg q,if_neg q];exact Paired.snoc r ⟨rfl,hb,ry⟩
theorem KT.keeps {H H':Hp}{kvs:List (List x6×V)}{xs:List (List x6×Addr×Value)}(r:KT H kvs xs)(ht:∀b ys,H b=some (.tup ys)->H' b=some (.tup ys)):KT H' kvs xs:=
 Paired.mapP r fun _ _ z=>⟨z.1,ht _ _ z.2.1,z.2.2⟩
section
variable {P:Program} {w:World} {H:Hp} {h:Heap} {a:Addr}
theorem bl2 {u:HO}(ok:B8 P w H h)(e:Rd H a u):A1 P w H h a u:=e.ok ok
theorem av7 {kvs:List (x6×V)}(ok:B8 P w H h)(e:Rd H a (.dK kvs)):kvs.length<=sizeLine/\(a==sysModules)=false/\∃vs,KV kvs vs/\h.DictOf (A8 P w) a vs:=
 show A1 P w H h a (.dK kvs) from bl2 ok e
theorem bw4 {kvs:List (x6×V)}(ok:B8 P w H h)(e:H a=some (.dK kvs)):kvs.length<=sizeLine/\(a==sysModules)=false/\∃vs,KV kvs vs/\h.DictOf (A8 P w) a vs:=av7 ok (.inl e)
theorem ae4 {ks:List x6}(ok:B8 P w H h)(e:H a=some (.tup (ks.map kV))):(tupleKind (A8 P w)).is h ks a:=by
 obtain ⟨_,its,r,o,h1,h2,n,h3⟩:=(show A1 P w H h a (.tup (ks.map kV)) from ok a _ e);exact ⟨o,its.toArray,n,h1,h2,h3,by simpa using aj1 r⟩
theorem av8 {kvs:List (List x6×V)}(ok:B8 P w H h)(e:Rd H a (.dT kvs)):kvs.length<=sizeLine/\(a==sysModules)=false/\
   ∃xs,KT H kvs xs/\h.DictOfH (tupleKind (A8 P w)) a xs:=by
 obtain ⟨z,y,xs,r,o,es,ep,h1,h2,h3,h4,h5⟩:=(show A1 P w H h a (.dT kvs) from bl2 ok e);refine ⟨z,y,xs,r,o,es,ep,h1,h2,h3,h4,fun x hx=> ?_,h5⟩
 have all:∀{l:List (List x6×V)} {m:List (List x6×Addr×Value)},KT H l m->∀x∈m,(tupleKind (A8 P w)).is h x.1 x.2.1:=by
   intro l m q
   induction q with
   |nil=>intro x hx;exact nomatch hx
   |@cons p q ps qs hq t ih=>
    intro x hx
    rcases ce0.mp hx with e|hx
    · subst e;exact ae4 ok (by rw[<-hq.1];exact hq.2.1)
    · exact ih x hx
 exact all r x hx
theorem bw5 {kvs:List (List x6×V)}(ok:B8 P w H h)(e:H a=some (.dT kvs)):kvs.length<=sizeLine/\(a==sysModules)=false/\
 ∃xs,KT H kvs xs/\h.DictOfH (tupleKind (A8 P w)) a xs:=av8 ok (.inl e)
end
def W8 (H:Hp)(a:Addr)(y:V)(r:Option V):Prop:=
 (∃kvs k,Rd H a (.dK kvs)/\y=kV k/\r=J9 kvs k)\/∃kvs k b,Rd H a (.dT kvs)/\y= .ref b/\H b=some (.tup (k.map kV))/\r=J9 kvs k
def ac7 (H:Hp)(a:Addr)(y v:V)(H':Hp):Prop:=
 (∃kvs k,H a=some (.dK kvs)/\y=kV k/\kvs.length < sizeLine/\H'=c8 H a (.dK (M0 kvs k v)))\/
 ∃kvs k b,H a=some (.dT kvs)/\y= .ref b/\H b=some (.tup (k.map kV))/\kvs.length < sizeLine/\H'=c8 H a (.dT (M0 kvs k v))
theorem W8.k {H:Hp}{a:Addr}{kvs:List (x6×V)}{k:x6}(e:H a=some (.dK kvs)):W8 H a (kV k) (J9 kvs k):= .inl ⟨kvs,k,.inl e,rfl,rfl⟩
theorem ac7.k {H:Hp}{a:Addr}{kvs:List (x6×V)}{k:x6}{v:V}(e:H a=some (.dK kvs))(hl:kvs.length < sizeLine):ac7 H a (kV k) v (c8 H a (.dK (M0 kvs k v))):= .inl ⟨kvs,k,e,rfl,hl,rfl⟩
section
variable {X:Cx} {pins:List (Addr×Obj)} {σ:St} {H:Hp} {s:Shared} {a:Addr} {y v:V} {u r:Value} {o:Option V} {A:Around} {E:Value->Shared->Prop}
theorem i8.big (I:i8 X pins σ H s):sysModules < s.heap.objs.size:=by
 have h:mainGlobals < s.heap.objs.size:=(I.mod.glob.keeps I.bk).lt;exact Nat.lt_trans (by decide) h
theorem ca7 {Q:Value->Shared->Prop}(hu:A.units+1 < cLine)(I:i8 X pins σ H s)(g:W8 H a y o)(ry:o9 y u)(h:∀s',i8 X pins σ H s'->Q (.bool o.isSome) s'):
   wpAny (model X.prog X.w) A (compareOp .In u (.ref a)) Q E s:=by
 rcases g with ⟨kvs,k,e,ey,l⟩|⟨kvs,k,b,e,ey,eb,l⟩
 · subst ey;obtain ⟨z,hd,vs,rel,dd⟩:=av7 I.hok e;refine wpAny_in_of (ae3 ry) hd dd.mapOf ?_;rw[<-(rel.val k).isSome_eq,<-l];exact h _ (I.tok _)
 · subst ey;cases (show u=Value.ref b from ry);obtain ⟨z,hd,xs,rel,dd⟩:=av8 I.hok e;refine wpAny_in_heap (tupleKind_room_in1 hu) (ae4 I.hok eb) hd dd ?_;have q:=(rel.val k).isSome_eq;rw[cl0] at q;rw[<-q,<-l];exact h _ (I.tok _)
theorem bn6 {Q:Value->Shared->Prop}(hu:A.units+1 < cLine)(I:i8 X pins σ H s)(g:W8 H a y o)(ry:o9 y u)(h:∀s',i8 X pins σ H s'->Q (.bool (!o.isSome)) s'):
   wpAny (model X.prog X.w) A (compareOp .NotIn u (.ref a)) Q E s:=by
 rcases g with ⟨kvs,k,e,ey,l⟩|⟨kvs,k,b,e,ey,eb,l⟩
 · subst ey;obtain ⟨z,hd,vs,rel,dd⟩:=av7 I.hok e;refine wpAny_notIn_of (ae3 ry) hd dd.mapOf ?_;rw[<-(rel.val k).isSome_eq,<-l];exact h _ (I.tok _)
 · subst ey;cases (show u=Value.ref b from ry);obtain ⟨z,hd,xs,rel,dd⟩:=av8 I.hok e;refine wpAny_notIn_heap (tupleKind_room_in1 hu) (ae4 I.hok eb) hd dd ?_;have q:=(rel.val k).isSome_eq;rw[cl0] at q;rw[<-q,<-l];exact h _ (I.tok _)
theorem at7 {h':Heap}{t':Nat}{ob:HO}(I:i8 X pins σ H s)(mu:Mut (H a))(hs:Heap.SameBut a s.heap h')(he:∃q,h'.get? a=some q)(new:A1 X.prog X.w (c8 H a ob) h' a ob):
   i8 X pins σ (c8 H a ob) {s with heap:=h',toks:=t'}:=
 I.write (x:=a) (e:=a) mu (.inl rfl) (fun b q hb z=>(hs.2 b hb).trans z) he new
theorem bb3 {P:Program}{w:World}{H':Hp}{h':Heap}{kvs:List (x6×V)}{vs:List (x6×Value)}(z:kvs.length<=sizeLine)(hd:(a==sysModules)=false)(rel:KV kvs vs)(dd:h'.DictOf (A8 P w) a vs):
 A1 P w H' h' a (.dK kvs):=⟨z,hd,vs,rel,dd⟩
theorem bb4 {H':Hp}{Q:Unit->Shared->Prop}(hu:A.units+1 < cLine)(I:i8 X pins σ H s)(g:ac7 H a y v H')(ry:o9 y u)(rv:o9 v r)(h:∀s',i8 X pins σ H' s'->Q () s'):
   wpAny (model X.prog X.w) A (setItem (.ref a) u r) Q E s:=by
 rcases g with ⟨kvs,k,e,ey,l,eH⟩|⟨kvs,k,b,e,ey,eb,l,eH⟩
 · subst ey eH;obtain ⟨z,hd,vs,rel,dd⟩:=bw4 I.hok e
   have hz:vs.length<=sizeLine:=by rw[<-rel.length];exact z
   have hl:(M0 kvs k v).length<=sizeLine:=by have:=ab4 kvs k v;omega
   refine wpAny_setItem_pairs (hsz:=hz) (ae3 ry) dd fun h' dd' hs=>h _ ?_
   have he:∃q,h'.get? a=some q:=let ⟨q,_,_,hq,_⟩:=dd';⟨q,hq⟩;exact at7 I (by rw[e];exact True.intro) hs he (bb3 hl hd (rel.put k rv) dd')
 · subst ey eH;cases (show u=Value.ref b from ry);obtain ⟨z,hd,xs,rel,dd⟩:=bw5 I.hok e
   have hz:xs.length<=sizeLine:=by rw[<-Paired.length rel];exact z
   have hl:(M0 kvs k v).length<=sizeLine:=by have:=ab4 kvs k v;omega
   refine wpAny_setItem_heap (hsz:=hz) (tupleKind_room_in1 hu) (ae4 I.hok eb) dd fun h' dd' hs=>h _ ?_
   obtain ⟨q,es,ep,hq,h2,h3,h4,_,h5⟩:=dd';refine at7 I (by rw[e];exact True.intro) hs ⟨q,hq⟩ ⟨hl,hd,_,(rel.put k eb rv).keeps fun c ys ec=> ?_,q,es,ep,hq,h2,h3,h4,h5⟩;rw[i6 (bk2 ec e (fun z=>nomatch z))];exact ec
end
def ca8 (ty td:TE):TE:=fun σ H Q=>ty σ H fun y H1=>td σ H1 fun x H2=>∃a o,x= .ref a/\W8 H2 a y o/\Q (.bl o.isSome) H2
def bn7 (ty td:TE):TE:=fun σ H Q=>ty σ H fun y H1=>td σ H1 fun x H2=>∃a o,x= .ref a/\W8 H2 a y o/\Q (.bl (!o.isSome)) H2
def bw6 (td ty tv:TE):TS:=fun D σ H=>tv σ H fun v H1=>td σ H1 fun x H2=>ty σ H2 fun y H3=>∃a H4,x= .ref a/\ac7 H3 a y v H4/\D.nx σ H4
section
variable {X:Cx} {o i e value:Expr} {pos pos' tpos:Pos} {td ty tv:TE}
theorem bb5 (hu:X.A.units+1 < cLine)(hi:PE X i ty)(ho:PE X o td):PC X .In i o (ca8 ty td):=by
 intro pins s σ H Q I h
 refine v0 (hi pins s σ H _ I h) fun iv s1 ⟨y,H1,I1,ry,q1⟩=>v0 (ho pins s1 σ H1 _ I1 q1) fun u s2 ⟨x,H2,I2,rx,a,ov,ex,g,q2⟩=> ?_
 subst ex;obtain rfl:u=Value.ref a:=rx
 exact ca7 hu I2 g ry fun s3 I3=>⟨.bl ov.isSome,H2,I3,rfl,q2⟩
theorem bb6 (hu:X.A.units+1 < cLine)(hi:PE X i ty)(ho:PE X o td):PC X .NotIn i o (bn7 ty td):=by
 intro pins s σ H Q I h
 refine v0 (hi pins s σ H _ I h) fun iv s1 ⟨y,H1,I1,ry,q1⟩=>v0 (ho pins s1 σ H1 _ I1 q1) fun u s2 ⟨x,H2,I2,rx,a,ov,ex,g,q2⟩=> ?_
 subst ex;obtain rfl:u=Value.ref a:=rx
 exact bn6 hu I2 g ry fun s3 I3=>⟨.bl (!ov.isSome),H2,I3,rfl,q2⟩
theorem ah0 (hu:X.A.units+1 < cLine)(ho:PE X o td)(hi:PE X i ty)(hv:PE X value tv)(hs:swapsWith value (some (.Subscript o i pos')) pos.line X.env=pure false):
   PS X (.Assign [.Subscript o i pos'] value pos) (bw6 td ty tv):=by
 intro pins s σ H D I h;refine wpAny_Assign_Subscript (v0 (hv pins s σ H _ I h) fun r s1 ⟨v,H1,I1,rv,q1⟩=>v0 (ho pins s1 σ H1 _ I1 q1) fun u s2 ⟨x,H2,I2,rx,q2⟩=>v0 (hi pins s2 σ H2 _ I2 q2) fun iv s3 ⟨y,H3,I3,ry,a,H4,ex,g,q3⟩=> ?_) hs;subst ex;obtain rfl:u=Value.ref a:=rx
 exact bb4 hu I3 g ry rv fun s4 I4=>⟨σ,H4,I4,q3⟩
end
theorem bh2 {P:Program}{w:World}{H:Hp}(h:Heap)(hb:sysModules < h.objs.size):A1 P w H (h.push {cls:= .type "dict",data:= .dict #[]}) h.objs.size (.dK []):=
 ⟨cg0 _,beq_eq_false_iff_ne.mpr (Ne.symm (ce1 hb)),[],.nil,Heap.DictOf.new h⟩
def bt3:TE:=fun _ H Q=>∀p,H p=none->Q (.ref p) (c8 H p (.dK []))
section
variable {X:Cx} {pos:Pos}
theorem K6:PE X (.Dict [] [] pos) bt3:=fun pins s σ H Q I h=>
 wpAny_Dict_empty ⟨.ref s.heap.objs.size,_,I.laid (a:=s.heap.objs.size) (o:= .dK []) (t':=s.toks) (fun _ _ q=>Heap.get?_push_of_some _ q) (cd5 _) (bh2 s.heap I.big),rfl,h _ (I.hok.fresh (cd5 _))⟩
end
end L2
namespace Att
open PySem PySem.W PySem.Calls PyProof.Rows
theorem ae5 {P:Params}{h:Heap}:∀(ns:List Int) (vs:List Value),WellAll P h vs (ns.map WData.int)->IntsAre vs ns:=by
 intro ns
 induction ns with
 |nil=>
  intro vs w;rw[ci2] at w;cases w;exact .nil
 |cons n ns ih=>
  intro vs w;rw[ce5] at w
  cases w with
  |cons a b=>
   cases a;exact .cons _ _ (ih _ b)
theorem bb7 {l:OpenLaw}{n:Nat}(hn:l.most=some n){P:Params}{h:Heap}{args:List WData}{vals:List Value}
   (hpre:l.row.toRowW.claim.pre args=true) (hwl:WellAll P h vals args):
   ∃a vs ns,vals=[Value.ref a]/\args=[WData.list (ns.map WData.int)]/\h.get? a=some {cls:= .type "list",data:= .seq vs.toArray}/\IntsAre vs ns/\ns.length<=n:=by
 have hsh:WShape.hasAll [] args [.list .int]=true:=(pre_splitW hpre).1;have hc:l.pre.holds [] {args:=args}=true:=(pre_splitW hpre).2;obtain ⟨d,r,rfl,h1,h2⟩:=hasAllW_cons hsh;obtain rfl:=hasAllW_nil h2;obtain ⟨xs,rfl,h3⟩:=hasW_list h1;obtain ⟨ns,rfl⟩:=items_int h3
 have hlen:ns.length<=n:=by
   unfold OpenLaw.pre at hc
   have h4:(WTm.not (.lt (.lit (.int (n:Int))) (.len (.arg 0)))).holds [] {args:=[.list (ns.map .int)]}=true:=by
     have h4:=(holds_andW hc).1;rw[hn] at h4;exact h4
   have h5:=condW_of h4 (w_not (w_lt w_lit (w_len_list (w_arg rfl))));rw[cc4] at h5
   refine Nat.le_of_not_lt fun q=> ?_
   have q':(n:Int) < ((ns.length:Nat):Int):=by omega
   first
     |(rw[decide_eq_true q'] at h5;exact absurd h5 (by decide))
     |(simp at h5;omega)
 cases hwl with
 |cons w1 w2=>
  cases w2
  cases w1 with
  |list ho hall=>exact ⟨_,_,ns,rfl,rfl,ho,ae5 ns _ hall,hlen⟩
theorem bb8 (l:OpenLaw)(args:List WData):l.row.toRowW.claim.post args (.bool true) args=true:=
 postW_of (r:=l.row.toRowW) (X:=(true==true))
   (show WShape.has [] (.bool true) .bool=true by first|rfl|decide|simp [WShape.has,WShape.arms,WShape.armsAll])
   (show (WTm.eq .res (.lit (.bool true))).value [] {args:=args,res:=some (.bool true),after:=args}=some (.bool (true==true)) from w_eq_bool (w_res rfl) w_lit) rfl
theorem bv3 {l:OpenLaw}{n:Nat}{q:Program}{loose:List Str}{XP:(Str->Option Value)->Heap->Prop}{YP:World->Heap->Prop}{d:DefRec}
   (hn:l.most=some n) (hdf:d.params.defaults=[])
   (call:∀(w:World) (s₀ s₁:Shared) (mg mb:Str->Option Value) (fa:Addr) (o:Obj) (pm cd doc:Value) (a:Addr) (vs:List Value) (ns:List Int),
     Ground q loose [] XP w s₀ mg mb s₁.heap->YP w s₁.heap->
     s₁.heap.get? fa=some o->o.data= .func (docDef d.name d.params d.body d.scope pm cd doc)->s₁.heap.CodeRec cd d.name->mg d.name=some (.ref fa)->
     s₁.heap.get? a=some {cls:= .type "list",data:= .seq vs.toArray}->IntsAre vs ns->ns.length<=n->s₁.gens= #[]->
     codeAny (model l.prog w) callerA (.call (.ref fa) ⟨[.ref a],[]⟩) (fun r s'=>r= .ok (.ret (.bool true))/\OldK s₁.heap s'.heap/\s'.os=s₁.os/\AllBare s'.gens) s₁):
   WalkO q loose XP YP l.row.toRowW d [] (fun f vs=>PySem.call f vs):=by
 intro w s₀ s₁ mg mb G Y fa o pm cd doc dV kV ho hd hcd hD hmg hg args vals as hpre hlay hrd hwl hlo;obtain rfl:dV= .none:=Dflts.none hD hdf;obtain rfl:kV= .none:=Dflts.noKw hD;obtain ⟨a,vs,ns,rfl,rfl,hobj,hints,hlen⟩:=bb7 hn hpre hwl;refine enter_call (codeAny_mono (call w s₀ s₁ mg mb fa o pm cd doc a vs ns G Y ho (fd_plain hd) hcd hmg hobj hints hlen hg) fun r s' hq=> ?_);obtain ⟨rfl,h2,h3,h4⟩:=hq;exact ⟨.inl ⟨.bool true,.bool true,[],rfl,fun _=>rfl,.bool true,bb8 l _,fun _=>⟨List.Pairwise.nil,fun _ hm=>(nomatch hm)⟩⟩,h2,h3,h4⟩
end Att
namespace L2
open PySem PySem.Spec PyProof.Rows
theorem aj2:∀{vs:List Value} {ns:List Int},IntsAre vs ns->k7 (ns.map V.int) vs
 |_,_,.nil=> .nil
 |_,_,.cons n t h=> .cons ⟨t,rfl⟩ (aj2 h)
def bh3 (H:Hp):Prop:=∀b,H b=none\/∃o xs,H b=some (.frz o (.lst xs))
theorem bh4 {P:Program}{w:World}{K:PySem.W.Frag}{mg mb:Str->Option Value}{CX:S6}{k:Nat}{fa a:Addr}{fd:FuncData}{x:Str}{sp:Sp}{s₁:Shared}{vs:List Value}{ns:List Int}
   (KX:K.In s₁.heap) (hns:s₁.heap.Ns mainGlobals mg) (hb:s₁.heap.Ns builtinsNs mb) (hbb:∀x:Str,x≠"__name__"->mb x=bootBuiltins x) (hlim:s₁.heap.NoLimit) (hg:s₁.gens= #[])
   (ha:s₁.heap.get? a=some {cls:= .type "list",data:= .seq vs.toArray}) (hi:IntsAre vs ns) (hl:ns.length<=sizeLine) (hr:y7 k callerA)
   (F:∀base:Heap,K.In base->base.Ns mainGlobals mg->o4 P w K mg base CX k fa fd [x] sp) (hbind:∀(s:Shared) (u:Value),BindsTo s fd ⟨[u],[]⟩ [(x,u)])
   (hsp:∀H:Hp,bh3 H->j4 K H a (ns.map V.int)->sp [.ref a] H (fun v _=>v= .bl true) fun _ _ _=>False)
   (hCX:∀H e s',CX [] H s₁ (fun _ _ _=>False) e s'->False):
   codeAny (model P w) callerA (.call (.ref fa) ⟨[.ref a],[]⟩) (fun r s'=>r= .ok (.ret (.bool true))/\OldK s₁.heap s'.heap/\s'.os=s₁.os/\AllBare s'.gens) s₁:=by
 have rv:=aj2 hi;have lenV:=hi.length
 have core:∀H:Hp,bh3 H->j4 K H a (ns.map V.int)->B8 P w H s₁.heap->(∀b,H b≠none->b=a)->(H a≠none->K.lookup a=none)->
     codeAny (model P w) callerA (.call (.ref fa) ⟨[.ref a],[]⟩) (fun r s'=>r= .ok (.ret (.bool true))/\OldK s₁.heap s'.heap/\s'.os=s₁.os/\AllBare s'.gens) s₁:=by
   intro H hO hS hok hA hK
   have base_of:∀{b:Addr} {o:Obj},s₁.heap.get? b=some o->H b=none->(W5 s₁.heap H).get? b=some o:=fun e n=>bg2 e n
   have noA:∀{b:Addr} {o:Obj} {es:Array DictEntry} {ep:Nat},s₁.heap.get? b=some o->o.data= .dict es ep->H b=none:=fun {b o es ep} e d=>by
     cases q:H b with
     |none=>rfl
     |some u=>
      have e':b=a:=hA b (by rw[q];simp);subst e';rw[ha] at e;cases e;have d':Data.seq vs.toArray _=Data.dict es ep:=d;cases d'
   have nsK:∀{b:Addr} {m:Str->Option Value},s₁.heap.Ns b m->(W5 s₁.heap H).Ns b m:=fun {b m} ⟨o,es,ep,e,d,r⟩=>⟨o,es,ep,base_of e (noA e d),d,r⟩
   have hKb:K.In (W5 s₁.heap H):=fun b o e=>base_of (KX b o e) (by
     cases q:H b with
     |none=>rfl
     |some u=>
      have e':b=a:=hA b (by rw[q];simp);subst e'
      rw[hK (by rw[q];simp)] at e;cases e)
   have hM:Mod K mg (W5 s₁.heap H):=⟨hKb,nsK hns,⟨mb,nsK hb,hbb⟩,let ⟨mc,h1,h2⟩:=hlim;⟨mc,nsK h1,h2⟩⟩;have e0:av4 P w K mg (W5 s₁.heap H) callerA [] s₁ H:=⟨rfl,hM,fun b o e=>bm4 e,Nat.le_of_eq (az2 _ _),trivial,fun b hb=>absurd (show b∈([]:List Addr) from hb) (by simp),hok,.of_eq hg⟩
   refine codeAny_mono ((F _ hKb (nsK hns)).run callerA [] s₁ H ⟨[.ref a],[]⟩ [.ref a] [.ref a] _ _ hr e0 (hbind s₁ (.ref a)) (.cons rfl .nil) (hsp H hO hS)) fun r s' h=> ?_
   cases r with
   |error e=>exact (hCX H e s' h).elim
   |ok fl=>
    cases fl with
    |next=>exact False.elim h
    |brk=>exact False.elim h
    |cont=>exact False.elim h
    |ret u=>
     obtain ⟨v,H',os,bare,un,hok',r',q⟩:=h;have q':v= .bl true:=q;subst q';obtain rfl:u=Value.bool true:=r';refine ⟨rfl,OldK.of_keep fun b o e=> ?_,os,bare⟩
     cases q:H b with
     |none=>exact un.keep b o e q (by intro z;exact absurd (show b∈([]:List Addr) from z) (by simp)) (by simp)
     |some u=>
      rcases hO b with z|⟨ob,xs,z⟩
      · rw[q] at z;cases z
      · have z2:=un.frzs b ob _ z;obtain ⟨e1,_⟩:=hok b _ z;obtain ⟨e2,_⟩:=hok' b _ z2;rw[e] at e1;cases e1;exact e2
 cases hk:K.lookup a with
 |some o=>
  have e:=KX a o hk;rw[ha] at e;cases e
  refine core (fun _=>none) (fun _=> .inl rfl) (.inr ⟨_,vs.toArray,_,hk,rfl,rfl,rfl,by rw[cc8,lenV];exact hl,by simpa using rv⟩) (fun b u z=>by have z':(none:Option HO)=some u:=z;cases z') (fun b z=>absurd rfl z) fun z=>absurd rfl z
 |none=>
  refine core (fun b=>if b=a then some (.frz {cls:= .type "list",data:= .seq vs.toArray} (.lst (ns.map V.int))) else none) (fun b=> ?_) (.inl (.inr ⟨{cls:= .type "list",data:= .seq vs.toArray},if_pos rfl⟩)) (fun b u z=> ?_) (fun b z=> ?_) fun _=>hk
  · by_cases hb:b=a
    · exact .inr ⟨_,_,if_pos hb⟩
    · exact .inl (if_neg hb)
  · by_cases hb:b=a
    · have z':=(if_pos hb).symm.trans z;cases z';subst hb;exact ⟨ha,by rw[cc4];exact hl,vs,_,rv,ha⟩
    · have z':=(if_neg hb).symm.trans z;cases z'
  · by_cases hb:b=a
    · exact hb
    · exact absurd (if_neg hb) z
end L2
namespace L2
open PySem PySem.Spec PyProof.Rows
theorem cb1 {l:PySem.W.OpenLaw}{n k:Nat}{q:Program}{loose:List Str}{XP:(Str->Option Value)->Heap->Prop}{YP:World->Heap->Prop}{d:DefRec}{K:Params->PySem.W.Frag}{CX:World->S6}{sp:World->Sp}{x:Str}
   (hn:l.most=some n) (hn2:n<=sizeLine) (hdf:d.params.defaults=[]) (hr:y7 k callerA)
   (hY:∀(w:World) (h:Heap),YP w h->(K w.params).In h)
   (F:∀(w:World) (mg:Str->Option Value) (fa:Addr) (h:Heap),(K w.params).In h->h.Ns mainGlobals mg->mg d.name=some (.ref fa)->
     ∃fd:FuncData,(∀(s:Shared) (u:Value),BindsTo s fd ⟨[u],[]⟩ [(x,u)])/\
      ∀base:Heap,(K w.params).In base->base.Ns mainGlobals mg->o4 l.prog w (K w.params) mg base (CX w) k fa fd [x] (sp w))
   (hsp:∀(w:World) (H:Hp) (a:Addr) (ns:List Int),ns.length<=n->bh3 H->j4 (K w.params) H a (ns.map V.int)->sp w [.ref a] H (fun v _=>v= .bl true) fun _ _ _=>False)
   (hCX:∀(w:World) (H:Hp) (s:Shared) (e:Value) (s':Shared),CX w [] H s (fun _ _ _=>False) e s'->False):
   PySem.W.WalkO q loose XP YP l.row.toRowW d [] (fun f vs=>PySem.call f vs):=by
 refine Att.bv3 hn hdf fun w s₀ s₁ mg mb fa o pm cd doc a vs ns G Y ho hd hcd hmg hobj hints hlen hg=> ?_
 have KX:=hY w _ Y;obtain ⟨fd,hb,hF⟩:=F w mg fa _ KX G.T.g hmg
 exact bh4 KX G.T.g G.T.b G.T.builtins G.T.nolimit hg hobj hints (cd3 hlen hn2) hr hF hb (fun H hO hS=>hsp w H a ns hlen hO hS) fun H e s'=>hCX w H s₁ e s'
end L2
namespace L2
open PySem PySem.Spec PyProof.Rows
def S0 (s:Stmt):Arguments:=match s with
 | .FunctionDef _ a _ _ _ _ _ _ _ _=>a
 |_=>{posonlyargs:=[],args:=[],vararg:=none,kwonlyargs:=[],kw_defaults:=[],kwarg:=none,defaults:=[]}
def L4 (s:Stmt):List Stmt:=match s with
 | .FunctionDef _ _ b _ _ _ _ _ _ _=>b
 |_=>[]
def j8 (s:Stmt):Scope:=match s with
 | .FunctionDef _ _ _ _ _ _ sc _ _ _=>sc
 |_=>{kind:= .function,names:=[],isGenerator:=false,isCoroutine:=false}
abbrev C6:S6:=fun _ _ _ _ _ _=>False
abbrev E0:XK:=fun _ _ _=>False
theorem bw7 {X:Cx}:Z0 C6 X E0:=fun _ _ _ _ _ _ _ h=>h.elim
structure B6 (K:PySem.W.Frag)(x qual:Str)(st:Stmt)(f:Addr)(fd:FuncData):Prop where
 ex:∃(oc:Value) (od:Option Addr) (kV doc pm:Value) (an:Option Addr) (cdv ct:Value) (osl:Array (Option Value)),
   fd=PySem.W.fnOf x qual (S0 st) (L4 st) (j8 st) .none kV doc pm an cdv ct/\K.lookup f=some ⟨oc,od,.func fd,osl⟩/\PySem.W.codeIn K cdv qual=true
 kp:PySem.W.keepIn K (.ref f)=true
section
variable {P:Program} {w:World} {K:PySem.W.Frag} {mg:Str->Option Value} {base:Heap}
theorem B6.ok {x qual:Str}{st:Stmt}{f:Addr}{fd:FuncData}{N ps:List Str}{k:Nat}{sp:Sp}(F:B6 K x qual st f fd)(S:o7 N ps (j8 st))(len:∀vs H Q E,sp vs H Q E->vs.length=ps.length)
   (hbody:∀(cdv:Value) (A:Around) (outer:List Env) (s:Shared) (H:Hp) (vs:List V) (Q:VK) (E:XK),y7 k (A.deeper (envOfC qual (j8 st) s.heap.objs.size f cdv))->sp vs H Q E->
     ∃t,Q7 (U7 C6 P w K mg base N qual (j8 st) f cdv A outer s H E).nox (L4 st) t/\t {nx:=fun _ H'=>Q .non H',rt:=Q} (R4 N vs) H):o4 P w K mg base C6 (k+1) f fd ps sp:=by
 obtain ⟨oc,od,kV,doc,pm,an,cdv,ct,osl,rfl,lk,hcd⟩:=F.ex
 refine bl0 lk hcd S len fun A outer s H vs Q E hr hsp=> ?_
 obtain ⟨t,h,q⟩:=hbody cdv A outer s H vs Q E hr hsp;exact ⟨t,h.nox,q⟩
theorem B6.binds {x qual:Str}{st:Stmt}{f:Addr}{fd:FuncData}{ps:List Str}(F:B6 K x qual st f fd)
   (h:∀(kV doc pm:Value) (an:Option Addr) (cdv ct:Value) (us:List Value),us.length=ps.length->bindArgs (PySem.W.fnOf x qual (S0 st) (L4 st) (j8 st) .none kV doc pm an cdv ct) ⟨us,[]⟩=pure (ps.zip us)):R3 K fd ps []:=by
 obtain ⟨oc,od,kV,doc,pm,an,cdv,ct,osl,rfl,lk,hcd⟩:=F.ex;exact .all (h kV doc pm an cdv ct)
theorem bt4 {x qual:Str}{st:Stmt}{f:Addr}{oc:Value}{od an:Option Addr}{osl:Array (Option Value)}{kV doc pm cdv ct:Value}(l:K.lookup f=some ⟨oc,od,.func (PySem.W.fnOf x qual (S0 st) (L4 st) (j8 st) .none kV doc pm an cdv ct),osl⟩)
 (c:PySem.W.codeIn K cdv qual=true) (k:PySem.W.keepIn K (.ref f)=true):B6 K x qual st f (PySem.W.fnOf x qual (S0 st) (L4 st) (j8 st) .none kV doc pm an cdv ct):=⟨⟨oc,od,kV,doc,pm,an,cdv,ct,osl,rfl,l,c⟩,k⟩
end
theorem U4 {A:Around}{k:Nat}(hr:y7 k A):A.units+1 < cLine:=ci3 (ck6 (by decide:1<=64) _) hr.units
theorem q0 {n:Nat}(h:n<=1000):n < sizeLine:=ci3 h (by decide)
section
variable {X:Cx}
theorem pv (i:Nat){x:Str}{pos:Pos}(hN:X.N[i]? =some x:=by rfl)(hv:Vis X.env.scope x:=by first|exact Or.inl rfl|exact Or.inr (Or.inl rfl)|exact Or.inr (Or.inr rfl))(hd:(x==("__debug__":Str))=false:=by decide)
 (hcd:(x==("__classdict__":Str))=false:=by decide):PE X (.Name x pos) (br4 i):=br5 hN hv hd hcd
end
theorem A4 {A B:Prop}(h:B):if false=true then A else B:=by
 rw[if_neg cd1];exact h
theorem B9 {A B:Prop}(h:A):if true=true then A else B:=by
 rw[if_pos rfl];exact h
theorem D2 {c A B:Prop}[Decidable c](h1:c->A)(h2:¬c->B):if c then A else B:=by
 by_cases h:c
 · rw[if_pos h];exact h1 h
 · rw[if_neg h];exact h2 h
theorem O0 {c A B:Prop}[Decidable c](hc:c)(h:B):if (!decide c)=true then A else B:=by
 rw[decide_eq_true hc];exact A4 h
def c9 (H H':Hp):Prop:=∀b o,H b=some o->H' b=some o
theorem c9.refl (H:Hp):c9 H H:=fun _ _ h=>h
theorem c9.trans {H H1 H2:Hp}(a:c9 H H1)(b:c9 H1 H2):c9 H H2:=fun c o h=>b c o (a c o h)
theorem c9.free {H H':Hp}(e:c9 H H'){l:Addr}(h:H' l=Option.none):H l=Option.none:=by
 cases q:H l with
 |none=>rfl
 |some o=>
  rw[e l o q] at h;cases h
theorem c9.seq {K:PySem.W.Frag}{H H':Hp}{a:Addr}{xs:List V}(e:c9 H H')(h:j4 K H a xs):j4 K H' a xs:=by
 rcases h with (h|⟨o,h⟩)|h
 · exact .inl (.inl (e _ _ h))
 · exact .inl (.inr ⟨o,e _ _ h⟩)
 · exact .inr h
section
variable {κ:Type} [DecidableEq κ]
theorem V8:∀{l:List κ} {k:κ},l.Nodup->¬k∈l->(l++[k]).Nodup
 |[],k,_,_=>by simp
 |a::r,k,h,hk=>by
  obtain ⟨h1,h2⟩:=cg3.mp h;show (a::(r++[k])).Nodup;refine cg3.mpr ⟨fun m=> ?_,V8 h2 fun m=>hk (ce0.mpr (Or.inr m))⟩
  rcases cd2.mp m with q|q
  · exact h1 q
  · exact hk (ce0.mpr (Or.inl (cd9.mp q).symm))
end
end L2
namespace L2
open PySem PySem.Spec PyProof.Rows
def S9 (X:Cx)(N:List Str)(scope:Scope)(cl:List (Str×Addr))(C:Addr)(s0:Shared)(H0:Hp)(ex:List Addr):Cx:=
 {X with N:=N,s₀:=s0,H₀:=H0,env:=compEnvC scope cl C X.env,outer:=X.stack,stack:=X.stack,ex:=ex,fn:=fun _=>false,pn:=[],xe:=fun _ _=>False}
def ae6 (nl:Nat)(fr:List Nat)(σ:St):St:=ce8 nl none++fr.map fun j=>(σ[j]?).join
def B1 (env:Env):List (Str×NameKind)->List (Str×Addr)->List (Str×Addr)
 |[],cs=>cs
 |(n,k)::r,cs=>B1 env r (if (k==NameKind.free)=true then (n,(env.cells.lookup n).getD 0)::cs else cs)
theorem ae7 (env:Env):∀(ns:List (Str×NameKind)) (cs:List (Str×Addr)),(∀p∈ns,p.2= .free->∃c,env.cells.lookup p.1=some c)->(∀y c,cs.lookup y=some c->env.cells.lookup y=some c)->
   ∀y c,(B1 env ns cs).lookup y=some c->env.cells.lookup y=some c
 |[],cs,_,h,y,c,e=>h y c e
 |(n,k)::r,cs,hn,h,y,c,e=>by
  unfold B1 at e;refine ae7 env r _ (fun p hp=>hn p (cc9 _ hp)) ?_ y c e;intro z d ez
  split at ez
  · rename_i hk;rw[cf0] at ez
    cases hz:z==n with
    |true=>
     rw[hz] at ez;have hzn:z=n:=eq_of_beq hz;subst hzn
     have hkf:k= .free:=by simpa using hk
     obtain ⟨c',hc'⟩:=hn (z,k) cd0 hkf;have hc':env.cells.lookup z=some c':=hc';rw[hc'] at ez;rw[hc']
     simpa using ez
    |false=>
     rw[hz] at ez;exact h z d ez
  · exact h z d ez
theorem ab5 (env:Env):∀(ns:List (Str×NameKind)) (cs:List (Str×Addr)) (y:Str),(∃c,cs.lookup y=some c)->∃c,(B1 env ns cs).lookup y=some c
 |[],cs,y,h=>h
 |(n,k)::r,cs,y,⟨c,h⟩=>by
  unfold B1;refine ab5 env r _ y ?_
  split
  · rw[cf0]
    cases hz:y==n with
    |true=>exact ⟨_,rfl⟩
    |false=>exact ⟨c,h⟩
  · exact ⟨c,h⟩
theorem W9 (env:Env):∀(ns:List (Str×NameKind)) (cs:List (Str×Addr)) (p:Str×NameKind),p∈ns->p.2= .free->∃c,(B1 env ns cs).lookup p.1=some c
 |[],cs,p,hp,_=>by simp at hp
 |(n,k)::r,cs,p,hp,hk=>by
  unfold B1
  rcases ce0.mp hp with e|hp
  · subst e;have hk:k= .free:=hk;subst hk;refine ab5 env r _ n ?_;rw[if_pos (by rfl),cf0];exact ⟨(List.lookup n env.cells).getD 0,by simp⟩
  · exact W9 env r _ p hp hk
theorem Z1 (env:Env):∀(ns:List (Str×NameKind)) (cs:List (Str×Addr)),(∀p∈ns,p.2= .free->∃c,env.cells.lookup p.1=some c)->
   (forIn ns cs (fun (x:Str×NameKind) (r:List (Str×Addr))=>if (x.2==NameKind.free)=true then (do let a <-cellOf env x.1;pure (ForInStep.yield ((x.1,a)::r))) else pure (ForInStep.yield r)):Sem (List (Str×Addr)))=pure (B1 env ns cs)
 |[],cs,_=>rfl
 |(n,k)::r,cs,hn=>by
  have ih:=fun cs'=>Z1 env r cs' fun p hp=>hn p (cc9 _ hp)
  rw[List.forIn_cons];unfold B1
  by_cases hk:(k==NameKind.free)=true
  · obtain ⟨c,hc⟩:=hn (n,k) cd0 (by simpa using hk);have hc:env.cells.lookup n=some c:=hc;rw[if_pos hk,if_pos hk]
    have e1:cellOf env n=pure c:=by unfold cellOf;rw[hc]
    rw[e1,hc];exact ih _
  · rw[if_neg hk,if_neg hk];exact ih _
theorem ak3 {scope:Scope}{env:Env}(h:∀p∈scope.names,p.2= .free->∃c,env.cells.lookup p.1=some c):closureFor scope env=pure (B1 env scope.names []):=by
 have e:=Z1 env scope.names [] h;unfold closureFor;show (forIn scope.names [] _ >>=_)=_;have e2:(forIn scope.names ([]:List (Str×Addr)) (fun (x:Str×NameKind) (r:List (Str×Addr))=>match x with|(name,kind)=>(if (kind==NameKind.free)=true then (do let a <-cellOf env name;pure PUnit.unit;pure (ForInStep.yield ((name,a)::r))) else (do pure PUnit.unit;pure (ForInStep.yield r)))):Sem (List (Str×Addr)))=pure (B1 env scope.names []):=e
 first
   |exact (congrArg (fun z=>z >>=fun cs=>pure cs) e2)
   |(rw[show (forIn scope.names ([]:List (Str×Addr)) _:Sem (List (Str×Addr)))=pure (B1 env scope.names []) from e];rfl)
section
variable {X:Cx}
def av9 (X:Cx)(ifs:List Expr)(t:TT):Prop:=
 ∀(pins:List (Addr×Obj)) (s:Shared) (σ:St) (H:Hp) (Q:Bool->Hp->Prop),i8 X pins σ H s->t σ H Q->
  wpAny (model X.prog X.w) X.A (forIn ifs true fun c r=>if r=true then do let ok <-isTrue c X.env (eval c X.env);pure (ForInStep.yield ok) else pure (ForInStep.yield r)) (TP X pins σ Q) X.xe s
def ca9:TT:=fun _ H Q=>Q true H
theorem X0:av9 X [] ca9:=fun pins s σ H Q I h=>by
 rw[List.forIn_nil];exact wpAny_pure ⟨H,I,h⟩
theorem bh5 {c:Expr}{t:TT}(h:PT X c t):av9 X [c] t:=by
 intro pins s σ H Q I hw;rw[List.forIn_cons,if_pos rfl];refine wpAny_bind (wpAny_bind (v0 (h pins s σ H Q I hw) fun b s1 q=>wpAny_pure ?_));show wpAny _ _ (forIn [] b _) _ _ s1;rw[List.forIn_nil];exact wpAny_pure q
theorem an2 {prog:Program}{w:World}{A:Around}{R:Result->Shared->Prop}{s:Shared}{elt target iter:Expr}{ifs:List Expr}{scope:Scope}{pos:Pos}{it acc:Value}{env:Env}(I:Nat->Shared->Prop)
   (turn:∀n s,I n s->wpAny (model prog w) A (pyNext it) (fun r s1=>match r with
     |none=>R (.ok .next) s1
     |some v=>wpAny (model prog w) A (letOwnedTupleGo target it v) (fun _ s2=>wpAny (model prog w) A (assign target env v) (fun _ s3=>
         wpAny (model prog w) A (forIn ifs true fun c r=>if r=true then do let ok <-isTrue c env (eval c env);pure (ForInStep.yield ok) else pure (ForInStep.yield r)) (fun ok s4=>
           if ok=true then wpAny (model prog w) A (eval elt env) (fun x s5=>
             wpAny (model prog w) A (call (.builtin "list.append") [acc,x]) (fun _ s6=>∃m,m < n/\I m s6) (fun _ _=>False) s5) (fun _ _=>False) s4
           else ∃m,m < n/\I m s4) (fun _ _=>False) s3) (fun _ _=>False) s2) (fun _ _=>False) s1) (fun _ _=>False) s)
   (n:Nat) (h:I n s):
   codeAny (model prog w) A (.compLoop (.ListComp elt [⟨target,iter,ifs,0⟩] scope pos) 0 it acc env) R s:=by
 refine codeAny_loop rfl I (fun n s hI=> ?_) n h;show wpAny _ A ((compTurn (.ListComp elt [⟨target,iter,ifs,0⟩] scope pos) 0 it acc env).onRaise (fun x=>do noteFrame x env;theTreesLotGoes x)) _ _ s;refine wpAny_noted ?_;rw[compTurn_list];refine wpAny_bind (wpAny_standAt (wpAny_bind (wpAny_mono (turn n s hI) (fun r s1 h1=> ?_) fun _ _ f=>f.elim)))
 cases r with
 |none=>exact wpAny_pure h1
 |some v=>
  refine wpAny_bind (wpAny_mono h1 (fun _ s2 h2=> ?_) fun _ _ f=>f.elim);refine wpAny_bind (wpAny_mono h2 (fun _ s3 h3=>wpAny_bind (wpAny_mono h3 (fun ok s4 h4=> ?_) fun _ _ f=>f.elim)) fun _ _ f=>f.elim)
  cases ok with
  |false=>exact wpAny_pure ⟨rfl,h4⟩
  |true=>
   exact wpAny_bind (wpAny_bind (wpAny_mono h4 (fun x s5 h5=>wpAny_bind (wpAny_mono h5 (fun _ s6 h6=>wpAny_pure (wpAny_pure ⟨rfl,h6⟩)) fun _ _ f=>f.elim)) fun _ _ f=>f.elim))
def aw0 (J:It)(g:TG)(tc:TT)(te:TE)(Q:VK)(σ0:St)(H0:Hp):Prop:=∃W:Nat->Nat->List V->St->Hp->Prop,(∃m,W 0 m [] σ0 H0)/\∀i m ys σ' H',W i m ys σ' H'->
 (J.stop i H'/\∀D,H' D=none->Q (.ref D) (c8 H' D (.lst ys)))\/
 (J.go i H'/\∃N:List V->St->Hp->Prop,(∀ys' σ2 H2,N ys' σ2 H2->∃m',m' < m/\W (i+1) m' ys' σ2 H2)/\∀x H2,J.yld i H' x H2->g x σ' H2 fun σ2 H3=>tc σ2 H3 fun b H4=>
   if b=true then te σ2 H4 fun y H5=>ys.length < sizeLine/\N (ys++[y]) σ2 H5 else N ys σ2 H4)
def bl3 (nl:Nat)(fr:List Nat)(wi:TI)(g:TG)(tc:TT)(te:TE):TE:=fun σ H Q=>wi σ H fun J H1=>aw0 J g tc te Q (ae6 nl fr σ) H1
structure ae8 (X:Cx)(N:List Str)(nl:Nat)(fr:List Nat)(scope:Scope):Prop where
 cell:∀y∈scope.names,y.2≠.cell
 kind:scope.kind= .function
 names:∀y∈scope.names,y.2= .local->scope.names.lookup y.1=some .local
 free:∀p∈scope.names,p.2= .free->X.env.kindOf p.1=some .cell\/X.env.kindOf p.1=some .free
 len:N.length=nl+fr.length
 fr:∀(k j:Nat),fr[k]? =some j->∃y,N[nl+k]? =some y/\X.N[j]? =some y/\Vis X.env.scope y/\scope.names.lookup y=some .free
theorem N2 {env:Env}:∀{names:List (Str×NameKind)} {x:Str} {k:NameKind},(names.map fun (n,k)=>if (k==NameKind.free&&env.scope.kind== .function&&env.kindOf n==some .cell) then (n,NameKind.cell) else (n,k)).lookup x=some k->
   k= .cell\/k= .free->(∀y∈names,y.2≠.cell)->∃p∈names,p.1=x/\p.2= .free
 |[],_,_,h,_,_=>by simp at h
 |(n,kn)::r,x,k,h,hk,hc=>by
  have ih:=@N2 env r x k;rw[ce5] at h;have hcn:kn≠.cell:=hc (n,kn) cd0
  have hr:∀y∈r,y.2≠.cell:=fun y hy=>hc y (cc9 _ hy)
  cases hx:x==n with
  |true=>
   have hxn:x=n:=eq_of_beq hx
   by_cases hcc:(kn==NameKind.free&&env.scope.kind== .function&&env.kindOf n==some .cell)=true
   · refine ⟨(n,kn),cd0,hxn.symm,?_⟩;simp only[ce9] at hcc
     simpa using hcc.1.1
   · dsimp only at h
     rw[if_neg hcc,cf0,hx] at h;have hkk:kn=k:=Option.some.inj h;subst hkk
     rcases hk with z|z
     · exact absurd z hcn
     · exact ⟨(n,kn),cd0,hxn.symm,z⟩
  |false=>
   by_cases hcc:(kn==NameKind.free&&env.scope.kind== .function&&env.kindOf n==some .cell)=true
   · dsimp only at h
     rw[if_pos hcc,cf0,hx] at h;obtain ⟨p,hp,q⟩:=ih h hk hr;exact ⟨p,cc9 _ hp,q⟩
   · dsimp only at h
     rw[if_neg hcc,cf0,hx] at h;obtain ⟨p,hp,q⟩:=ih h hk hr;exact ⟨p,cc9 _ hp,q⟩
theorem N0 {env:Env}:∀{names:List (Str×NameKind)} {x:Str},names.lookup x=some .free->
   (names.map fun (n,k)=>if (k==NameKind.free&&env.scope.kind== .function&&env.kindOf n==some .cell) then (n,NameKind.cell) else (n,k)).lookup x=some .cell\/
   (names.map fun (n,k)=>if (k==NameKind.free&&env.scope.kind== .function&&env.kindOf n==some .cell) then (n,NameKind.cell) else (n,k)).lookup x=some .free
 |[],_,h=>by simp at h
 |(n,kn)::r,x,h=>by
  have ih:=@N0 env r x;rw[ce5]
  dsimp only
  cases hx:x==n with
  |true=>
   rw[cf0,hx] at h;have hkn:kn= .free:=Option.some.inj h
   by_cases hcc:(kn==NameKind.free&&env.scope.kind== .function&&env.kindOf n==some .cell)=true
   · rw[if_pos hcc,cf0,hx];exact .inl rfl
   · rw[if_neg hcc,cf0,hx];exact .inr (congrArg some hkn)
  |false=>
   rw[cf0,hx] at h
   by_cases hcc:(kn==NameKind.free&&env.scope.kind== .function&&env.kindOf n==some .cell)=true
   · rw[if_pos hcc,cf0,hx];exact ih h
   · rw[if_neg hcc,cf0,hx];exact ih h
theorem B8.track {P:Program}{w:World}{H:Hp}{h:Heap}{a:Addr}{o:HO}(x:B8 P w H h)(hn:H a=none)(new:A1 P w (c8 H a o) h a o):B8 P w (c8 H a o) h:=fun b u e=>by
 by_cases hb:b=a
 · subst hb;rw[c7] at e;cases e;exact new
 · rw[i6 hb] at e
   exact (x b u e).stay (fun c v _ q=>q) (fun c q=>by rw[i6 (i7 q hn)];exact q) fun c xs q=>by rw[i6 (i7 q hn)];exact q
theorem bb9 {elt tg iter:Expr}{ifs:List Expr}{scope:Scope}{pos:Pos}{wi:TI}{g:TG}{tc:TT}{te:TE}{N:List Str}{nl:Nat}{fr:List Nat}
   (hc:X.calm=true) (hi:PI X tg iter wi) (hg:∀cl C s0 H0 ex,PG (S9 X N scope cl C s0 H0 ex) tg g) (ht:∀cl C s0 H0 ex,av9 (S9 X N scope cl C s0 H0 ex) ifs tc)
   (he:∀cl C s0 H0 ex,PE (S9 X N scope cl C s0 H0 ex) elt te) (ok:ae8 X N nl fr scope)
   {RR:Value->Addr->Result->Shared->Prop} {pins:List (Addr×Obj)} {s:Shared} {σ:St} {H:Hp} {Q:VK} (I:i8 X pins σ H s) (h:bl3 nl fr wi g tc te σ H Q)
   (hRR:∀D C s' H',i8 X pins σ H' s'->Q (.ref D) H'->Y8 X pins H' C->(∃m,s'.heap.Ns C m)->RR (.ref D) C (.ok .next) s'):
   wpAny (model X.prog X.w) X.A (eval iter X.env) (fun x s1=>wpAny (model X.prog X.w) X.A (pyIter x) (fun it s2=>wpAny (model X.prog X.w) X.A (newList []) (fun acc s3=>
     wpAny (model X.prog X.w) X.A (newFunctionEnv scope X.env.globals (B1 X.env scope.names []) [] X.env.qual none .none (some X.env)) (fun cenv s4=>
       codeAny (model X.prog X.w) X.A (.compStart (.ListComp elt [⟨tg,iter,ifs,0⟩] scope pos) 0 it acc {cenv with scope:=relabel scope X.env}) (RR acc cenv.locals) s4) X.xe s3) X.xe s2) X.xe s1) X.xe s:=by
 refine v0 (hi pins s σ H _ I h) fun v s1 h1=>v0 h1 fun itv s2 h2=> ?_
 obtain ⟨it,fp,tn,J,H2,rfl,I2,T,st2,f2,W,⟨m0,w0⟩,turn⟩:=h2;refine wpAny_newObj_type (wpAny_newFunctionEnv ok.cell (by intro y hy;simp at hy) (fun h1 hns1 hsb1=> ?_) ok.kind)
 dsimp only at hns1 hsb1 ⊢
 generalize hHH:s2.heap.push {cls:= .type "list",dict:=none,data:= .seq ([]:List Value).toArray}=HH at hns1 hsb1 ⊢
 have hC:HH.objs.size=s2.heap.objs.size+1:=by rw[<-hHH,Heap.size_push]
 have hDC:s2.heap.objs.size≠HH.objs.size:=by rw[hC];exact ce1 (Nat.lt_succ_self _)
 have hCle:s2.heap.objs.size<=HH.objs.size:=by rw[hC];exact Nat.le_succ _
 have below:∀b,b < s2.heap.objs.size->b≠HH.objs.size/\b≠s2.heap.objs.size:=fun b hb=>⟨by rw[hC];exact ce1 (cl1 hb),ce1 hb⟩
 have old:∀b o,s2.heap.get? b=some o->h1.get? b=some o:=fun b o e=>hsb1.extBut b o (below b (Heap.lt_size e)).1 (Heap.get?_push_of_some _ (hHH▸Heap.get?_push_of_some _ e))
 have hacc:h1.get? s2.heap.objs.size=some {cls:= .type "list",data:= .seq ([]:List Value).toArray}:=hsb1.extBut _ _ hDC (Heap.get?_push_of_some _ (hHH▸Heap.get?_push_size _ rfl))
 have fplt:∀b∈fp,b < s2.heap.objs.size:=fun b hb=>by obtain ⟨o,e,_⟩:=T.obj 0 _ st2 b hb;exact Heap.lt_size e
 generalize hXd:S9 X N scope (B1 X.env scope.names []) HH.objs.size s2 H2 fp=X'
 have hfreeC:∀p∈scope.names,p.2= .free->∃c,X.env.cells.lookup p.1=some c:=fun p hp hf=>I.ok.has p.1 (ok.free p hp hf)
 have cellsSub:∀y c,(B1 X.env scope.names []).lookup y=some c->X.env.cells.lookup y=some c:=ae7 X.env scope.names [] hfreeC (fun y c e=>by simp at e)
 have cellLt:∀y c,X.env.cells.lookup y=some c->c < s2.heap.objs.size:=fun y c e=>by obtain ⟨v,z⟩:=I2.cell y c e;exact z.lt
 have ok':X'.Ok:=by
   rw[<-hXd]
   refine ⟨I.ok.mod,?_,I.ok.glob,I.ok.blt,hCle,fun x y c e1 e2=>I.ok.inj x y c (cellsSub x c e1) (cellsSub y c e2),fun x hx=> ?_,fun x c hf=>(by cases hf),I.ok.hd,I.ok.frames,.inl rfl,
     fun b hb=>⟨(below b (fplt b hb)).1,fun x c e=>(f2 b hb).2.2.2.2.1 x c (cellsSub x c e)⟩,I2.bs,cd3 I.ok.bsz I2.sz,fun b o e hb=> ?_,fun b hb hfs=> ?_,I2.stack,I2.stkFree⟩
   · show (relabel scope X.env).kind= .function;exact ok.kind
   · have hx':∃p∈scope.names,p.1=x/\p.2= .free:=by
       rcases hx with z|z
       · exact N2 z (.inl rfl) ok.cell
       · exact N2 z (.inr rfl) ok.cell
     obtain ⟨p,hp,rfl,hpf⟩:=hx';exact W9 X.env scope.names [] p hp hpf
   · rcases (f2 b hb).2.2.2.1 with z|z
     · exact I.ok.noex b o e z
     · exact absurd (cd8 (Heap.lt_size e) (cd3 I.ok.bsz z)) (cg6 _)
   · rcases ce0.mp (I2.stkSub b hfs) with z|z
     · exact (f2 b hb).2.1 z
     · exact (f2 b hb).2.2.1 z
 have hX'd:X'.env.locals=HH.objs.size:=by rw[<-hXd];rfl
 have hX'c:X'.env.cells=B1 X.env scope.names []:=by rw[<-hXd];rfl
 have hX'pn:X'.pn=[]:=by rw[<-hXd];rfl
 have hX'ex:X'.ex=fp:=by rw[<-hXd];rfl
 have hX's0:X'.s₀=s2:=by rw[<-hXd];rfl
 have hX'H0:X'.H₀=H2:=by rw[<-hXd];rfl
 have hX'fs:X'.fs=B2 X.stack:=by rw[<-hXd];rfl
 have hX'xe:X'.xe=fun _ _=>False:=by rw[<-hXd];rfl
 have hX'A:X'.A=X.A:=by rw[<-hXd];rfl
 have hX'P:X'.prog=X.prog:=by rw[<-hXd];rfl
 have hX'w:X'.w=X.w:=by rw[<-hXd];rfl
 have hX'K:X'.K=X.K:=by rw[<-hXd];rfl
 have hX'calm:X'.calm=true:=by rw[<-hXd];exact hc
 have hX'env:X'.env=compEnvC scope (B1 X.env scope.names []) HH.objs.size X.env:=by rw[<-hXd];rfl
 have I':i8 X' [] (ae6 nl fr σ) H2 {s2 with heap:=h1,toks:=s2.toks+([]:List (Str×Value)).length}:=by
   refine ⟨ok',by rw[hX's0],I2.bare,?_,?_,fun x c e=> ?_,?_,fun x c e=> ?_,fun p hp=> ?_,?_,?_⟩
   · rw[hX'fs,hX'ex,hX'H0,hX's0];exact Un.kept old
   · obtain ⟨m,hn,hl⟩:=I2.loc;rw[hX'd];refine ⟨_,hns1,fun i x v e1 e2 e3=> ?_⟩
     have hN':N[i]? =some x:=by rw[<-hXd] at e1;exact e1
     unfold ae6 at e2
     have hi:¬i < nl:=fun hlt=>by
       rw[cg7 (by simpa using hlt),cl6,if_pos hlt] at e2;cases e2
     rw[cg5 (by simpa using hi),cj0,ce3] at e2
     cases ej:fr[i - nl]? with
     |none=>rw[ej] at e2;cases e2
     |some j=>
      rw[ej] at e2;obtain ⟨y,y1,y2,y3,y4⟩:=ok.fr (i - nl) j ej
      have hii:nl+(i - nl)=i:=by omega
      rw[hii,hN'] at y1;have hxy:x=y:=Option.some.inj y1;subst hxy;have e2':(σ[j]?).join=some v:=Option.some.inj e2
      have e2'':σ[j]? =some (some v):=by
        cases hσ:σ[j]? with
        |none=>rw[hσ] at e2';cases e2'
        |some z=>rw[hσ] at e2';exact congrArg some e2'
      obtain ⟨u,r,l⟩:=hl j x v y2 e2'' y3;have hkX:=ok.free (x,.free) (PySem.mem_of_lookup y4) rfl;refine ⟨u,r,.inr ⟨?_,?_⟩⟩
      · rw[hX'env]
        rcases N0 (env:=X.env) y4 with z|z
        · exact .inl z
        · exact .inr z
      · rcases l with ⟨k1,_⟩|⟨_,c,ec,hcell⟩
        · rcases hkX with z|z
          · rw[z] at k1;cases k1
          · rw[z] at k1;cases k1
        · obtain ⟨c',ec'⟩:=W9 X.env scope.names [] (x,.free) (PySem.mem_of_lookup y4) rfl
          have:c'=c:=by
            have q:=cellsSub x c' ec';rw[ec] at q;exact (Option.some.inj q).symm
          subst this;refine ⟨c',by rw[hX'c];exact ec',?_⟩;obtain ⟨oc,ho,hd⟩:=hcell;exact ⟨oc,old _ _ ho,hd⟩
   · rw[hX'c] at e;obtain ⟨v,oc,ho,hd⟩:=I2.cell x c (cellsSub x c e);exact ⟨v,oc,old _ _ ho,hd⟩
   · rw[hX'd];exact I2.hok.fresh hCle
   · rw[hX'c] at e;exact I2.freeC x c (cellsSub x c e)
   · rw[hX'pn] at hp;simp at hp
   · rw[hX'P,hX'w];exact I2.hok.kept old
   · unfold ae6
     have:X'.N=N:=by rw[<-hXd];rfl
     rw[this,ok.len,cc7,cj0,cc4]
 have Dn:∀{H':Hp} {pins'} {s':Shared} {σ'},i8 X' pins' σ' H' s'->H' s2.heap.objs.size=none->∀o,s'.heap.get? s2.heap.objs.size=some o->(∀v,o.data≠.cell v)->i8 X' [(s2.heap.objs.size,o)] σ' H' s':=fun {H' pins' s' σ'} I3 hD o ho hnc=>
   I3.pins_of fun p hp=>by
     have e:p=(s2.heap.objs.size,o):=by simpa using hp
     subst e;refine ⟨ho,hD,by rw[hX'd];exact hDC,?_,hnc⟩;rw[hX'fs];intro hb
     rcases ce0.mp (I2.stkSub _ hb) with z|z
     · exact absurd (z▸I2.lt) (cg6 _)
     · exact I2.nofs (cd5 _) z
 have loop:∀s₃:Shared,s₃={s2 with heap:=h1,toks:=s2.toks+([]:List (Str×Value)).length}->
     codeAny (model X.prog X.w) X.A (.compLoop (.ListComp elt [⟨tg,iter,ifs,0⟩] scope pos) 0 (.ref it) (.ref s2.heap.objs.size) (compEnvC scope (B1 X.env scope.names []) HH.objs.size X.env)) (RR (.ref s2.heap.objs.size) HH.objs.size) s₃:=by
   rintro s₃ rfl
   refine an2 (fun n s'=>∃(i:Nat) (σ':St) (H':Hp) (ys:List V) (its:List Value) (k:Nat),i8 X' [(s2.heap.objs.size,{cls:= .type "list",data:= .seq its.toArray k})] σ' H' s'/\k7 ys its/\ys.length<=sizeLine/\tn i s'.heap/\(∀b∈fp,H' b=none)/\W i n ys σ' H')
     ?_ m0 ⟨0,_,H2,[],[],0,Dn I' (I2.hok.fresh (cd5 _)) _ hacc (fun v z=>by cases z),.nil,cg0 _,T.keep 0 _ _ st2 fun b hb o e=>old b o e,fun b hb=>(f2 b hb).1,w0⟩
   rintro n s3 ⟨i,σ3,H3,ys,its,k,I3,rv,hyl,st3,fr3,w3⟩;have pinD:=I3.pin (s2.heap.objs.size,{cls:= .type "list",data:= .seq its.toArray k}) (by rw[hX'pn];exact cd4 _ cd0)
   have stat:∀{o:Obj} {H':Hp},(∀b∈fp,H' b=none)->∀b∈fp,Y8 X' [(s2.heap.objs.size,o)] H' b:=fun {o H'} hn b hb=>by
     refine ⟨hn b hb,by rw[hX'd];exact (below b (fplt b hb)).1,fun z=>ok'.exfs b (by rw[hX'ex];exact hb) z,.inl (by rw[hX'ex];exact hb),fun x c e=>by rw[hX'c] at e;exact (f2 b hb).2.2.2.2.1 x c (cellsSub x c e),fun p hp=> ?_⟩;rw[hX'pn] at hp
     have e:p=(s2.heap.objs.size,o):=by simpa using hp
     subst e
     exact fun z=>(below b (fplt b hb)).2 z.symm
   rcases turn i n ys σ3 H3 w3 with ⟨stop,qn⟩|⟨go,Nx,hNx,step⟩
   · have dn:=T.done X' hX'P hX'w hX'K hX'calm i _ s3 σ3 H3 (fun _ _=>False) I3 (stat fr3) st3 stop;rw[hX'A] at dn
     refine v0 dn fun r s4 ⟨hr,I4⟩=> ?_
     subst hr;have pinE:=I4.pin (s2.heap.objs.size,{cls:= .type "list",data:= .seq its.toArray k}) (by rw[hX'pn];exact cd4 _ cd0)
     have ub:Un (B2 X.stack) fp H2 H3 s2.heap s4.heap:=by
       have:=I4.base;rw[hX'fs,hX'ex,hX'H0,hX's0] at this;exact this
     have hok4:B8 X.prog X.w H3 s4.heap:=by have:=I4.hok;rw[hX'P,hX'w] at this;exact this
     have nD:∀b u,H3 b=some u->b≠s2.heap.objs.size:=fun b u e z=>by rw[z,pinE.2.1] at e;cases e
     have u2:Un (B2 X.stack) fp H2 (c8 H3 s2.heap.objs.size (.lst ys)) s2.heap s4.heap:=
       ⟨ub.keep,ub.slot,fun b o e n' hx=>by rw[i6 (ce1 (Heap.lt_size e))];exact ub.free b o e n' hx,ub.there,
         fun b xs e=>by have:=ub.tups b xs e;rw[i6 (nD b _ this)];exact this,fun b o u e=>by have:=ub.frzs b o u e;rw[i6 (nD b _ this)];exact this,
         fun b ps e=>by obtain ⟨more,z⟩:=ub.tbls b ps e;exact ⟨more,by rw[i6 (nD b _ z)];exact z⟩⟩
     have I5:i8 X pins σ (c8 H3 s2.heap.objs.size (.lst ys)) s4:=by
       refine I2.call' (by rw[I4.os,hX's0]) u2 ?_ I4.bare fun b hb=>⟨(f2 b hb).2.2.2.1,(f2 b hb).2.1,(f2 b hb).2.2.2.2.1,(f2 b hb).2.2.2.2.2⟩
       exact B8.track hok4 pinE.2.1 ⟨hyl,its,k,rv,pinE.1⟩
     refine hRR _ _ s4 _ I5 (qn _ pinE.2.1) (I2.fpOk hCle ?_) ?_
     · rw[i6 (Ne.symm hDC)];have:=I4.free;rw[hX'd] at this;exact this
     · obtain ⟨m,hn,_⟩:=I4.loc;rw[hX'd] at hn;exact ⟨m,hn⟩
   · have im:=T.item X' hX'P hX'w hX'K hX'calm i _ s3 σ3 H3 (fun _ _=>False) I3 (stat fr3) st3 go;rw[hX'A] at im
     refine v0 im fun r s4 ⟨u,hr,h4⟩=> ?_
     subst hr
     refine v0 h4 fun _ s5 ⟨x,H5,I5,r5,y5,st5,fr5⟩=> ?_
     have I5':=I5.pinned (stat fr5) (T.obj _ _ st5);have gg:=hg (B1 X.env scope.names []) HH.objs.size s2 H2 fp;rw[hXd] at gg;have gg:=gg _ s5 σ3 H5 x u _ I5' r5 (step x H5 y5);rw[hX'A,hX'P,hX'w,hX'xe,hX'env] at gg
     refine v0 gg fun _ s6 ⟨σ6,H6,I6,q6⟩=> ?_
     have tt:=ht (B1 X.env scope.names []) HH.objs.size s2 H2 fp;rw[hXd] at tt;have tt:=tt _ s6 σ6 H6 _ I6 q6;rw[hX'A,hX'P,hX'w,hX'xe,hX'env] at tt
     refine v0 tt fun ok7 s7 ⟨H7,I7,q7⟩=> ?_
     have again:∀{s8:Shared} {σ8:St} {H8:Hp} {ys8:List V} {its8:List Value} {k8:Nat},i8 X' ([(s2.heap.objs.size,{cls:= .type "list",data:= .seq its8.toArray k8})]++S5 fp s5.heap) σ8 H8 s8->k7 ys8 its8->ys8.length<=sizeLine->Nx ys8 σ8 H8->
         ∃m,m < n/\∃(i:Nat) (σ':St) (H':Hp) (ys:List V) (its:List Value) (k:Nat),i8 X' [(s2.heap.objs.size,{cls:= .type "list",data:= .seq its.toArray k})] σ' H' s8/\k7 ys its/\ys.length<=sizeLine/\tn i s8.heap/\(∀b∈fp,H' b=none)/\W i m ys σ' H':=
       fun {s8 σ8 H8 ys8 its8 k8} I8 rv8 hl8 n8=>by
         obtain ⟨m',hm,w8⟩:=hNx ys8 σ8 H8 n8;refine ⟨m',hm,i+1,σ8,H8,ys8,its8,k8,I8.unpinned,rv8,hl8,T.keep _ _ _ st5 fun b hb o e=>(I8.pin (b,o) (cd4 _ (cd4 _ (R0 hb e)))).1,fun b hb=> ?_,w8⟩;obtain ⟨o,e,d⟩:=T.obj _ _ st5 b hb;exact (I8.pin (b,o) (cd4 _ (cd4 _ (R0 hb e)))).2.1
     cases ok7 with
     |false=>
      rw[if_neg cd1] at q7 ⊢;exact again I7 rv hyl q7
     |true=>
      rw[if_pos rfl] at q7 ⊢;have ee:=he (B1 X.env scope.names []) HH.objs.size s2 H2 fp;rw[hXd] at ee;have ee:=ee _ s7 σ6 H7 _ I7 q7;rw[hX'A,hX'P,hX'w,hX'xe,hX'env] at ee
      refine v0 ee fun yv s8 ⟨y,H8,I8,r8,hyl8,q8⟩=> ?_
      have pin8:=I8.pin (s2.heap.objs.size,{cls:= .type "list",data:= .seq its.toArray k}) (cd4 _ (cf8 _ cd0));refine wpAny_list_append_plain (items:=its.toArray) ⟨k,pin8.1⟩ (fun h9 hp9 hs9=> ?_) (by rw[cc8,<-rv.length];exact hyl);obtain ⟨k9,e9⟩:=hp9
      have I9:i8 X' (S5 fp s5.heap) σ6 H8 s8:=I8.pins_of fun p hp=>I8.pin p (cd4 _ (cd4 _ hp))
      have I9':i8 X' (S5 fp s5.heap) σ6 H8 {s8 with heap:=h9,toks:=s8.toks}:=by
        refine I9.turned (t':=s8.toks) (it:=s2.heap.objs.size) (fun b o hb e=>hs9.extBut b o hb e) pin8.2.1 (by rw[hX'd];exact hDC) (.inr (by rw[hX's0];exact cd5 _)) (fun x c e z=> ?_) fun p hp z=> ?_
        · rw[hX'c] at e;exact absurd (z▸cellLt x c (cellsSub x c e)) (cg6 _)
        · rw[hX'pn] at hp;obtain ⟨hb,_⟩:=ai4 (by simpa using hp);exact absurd (z▸fplt _ hb) (cg6 _)
      have e9':h9.get? s2.heap.objs.size=some {cls:= .type "list",data:= .seq (its++[yv]).toArray k9}:=by rw[e9];simp
      refine again (ys8:=ys++[y]) (its8:=its++[yv]) (k8:=k9) ?_ (k7.append rv (.cons r8 .nil)) (by rw[cc7];exact hyl8) q8
      refine I9'.pins_of fun p hp=> ?_
      rcases cd2.mp hp with z|z
      · have e:p=(s2.heap.objs.size,{cls:= .type "list",data:= .seq (its++[yv]).toArray k9}):=by simpa using z
        subst e;exact ⟨e9',pin8.2.1,pin8.2.2.1,pin8.2.2.2.1,fun v z=>by cases z⟩
      · exact I9'.pin p (cd4 _ z)
 exact codeAny_compStart_list (loop _ rfl) (T.self X.A 0 _ _ _ (T.keep 0 _ _ st2 fun b hb o e=>old b o e) (loop _ rfl))
end
end L2
namespace L2
open PySem PySem.Spec PyProof.Rows
section
variable {X:Cx}
theorem V9 {elt tg iter:Expr}{ifs:List Expr}{scope:Scope}{pos:Pos}{wi:TI}{g:TG}{tc:TT}{te:TE}{N:List Str}{nl:Nat}{fr:List Nat}
   (hc:X.calm=true) (ok:ae8 X N nl fr scope) (hi:PI X tg iter wi) (hg:∀cl C s0 H0 ex,PG (S9 X N scope cl C s0 H0 ex) tg g) (ht:∀cl C s0 H0 ex,av9 (S9 X N scope cl C s0 H0 ex) ifs tc)
   (he:∀cl C s0 H0 ex,PE (S9 X N scope cl C s0 H0 ex) elt te) (hs:∀x,foldedSetIterable iter X.env x=pure x:=by intro _;rfl):
   PE X (.ListComp elt [⟨tg,iter,ifs,0⟩] scope pos) (bl3 nl fr wi g tc te):=by
 intro pins s σ H Q I h
 have hclos:closureFor scope X.env=pure (B1 X.env scope.names []):=ak3 fun p hp hf=>I.ok.has p.1 (ok.free p hp hf)
 rw[eval_ListComp];refine wpAny_comprehension_free (use:=none) rfl hs hclos ok.kind ok.names (bb9 (RR:=fun acc C=>compPost (model X.prog X.w) X.A X.xe none (EP X pins σ Q) acc C) hc hi hg ht he ok I h ?_);intro D C s' H' I' q f ⟨m,hn⟩;exact ⟨m,hn,fun h' hs'=>⟨.ref D,H',I'.turned (t':=s'.toks) (fun b o hb e=>hs'.extBut b o hb e) f.1 f.2.1 f.2.2.2.1 f.2.2.2.2.1 f.2.2.2.2.2,rfl,q⟩⟩
theorem Z2 {K:PySem.W.Frag}{a:Addr}{xs:List V}{g:TG}{tc:TT}{te:TE}{σ0:St}{H:Hp}{Q:VK}(Pv:Nat->List V->St->Hp->Prop)(h0:Pv 0 [] σ0 H)(hl:∀i ys σ H,i<=xs.length->Pv i ys σ H->j4 K H a xs)
   (hs:∀i x ys σ H,xs[i]? =some x->Pv i ys σ H->g x σ H fun σ2 H2=>tc σ2 H2 fun b H4=>if b=true then te σ2 H4 fun y H5=>ys.length < sizeLine/\Pv (i+1) (ys++[y]) σ2 H5 else Pv (i+1) ys σ2 H4)
   (hd:∀ys σ H,Pv xs.length ys σ H->∀D,H D=none->Q (.ref D) (c8 H D (.lst ys))):
   aw0 (Itl K a) g tc te Q σ0 H:=by
 refine ⟨fun i m ys σ H=>m=xs.length - i/\i<=xs.length/\Pv i ys σ H,⟨xs.length,by simp,cg0 _,h0⟩,?_⟩;rintro i m ys σ H ⟨rfl,hi,p⟩;have q:=hl i ys σ H hi p
 by_cases hlt:i < xs.length
 · refine .inr ⟨⟨xs,xs[i],q,by simp [hlt]⟩,Pv (i+1),fun ys' σ' H' p'=>⟨xs.length - (i+1),by omega,rfl,hlt,p'⟩,fun x H' y=> ?_⟩;obtain ⟨e,y⟩:=y;subst e;exact hs i x ys σ _ (y xs q) p
 · have e:i=xs.length:=by omega
   subst e;exact .inl ⟨⟨xs,q,cd5 _⟩,hd ys σ H p⟩
theorem ae9 {lo:Int}{n:Nat}{g:TG}{tc:TT}{te:TE}{σ0:St}{H:Hp}{Q:VK}(Pv:Nat->List V->St->Hp->Prop)(h0:Pv 0 [] σ0 H)
   (hs:∀i ys σ H,i < n->Pv i ys σ H->g (.int (lo+i)) σ H fun σ2 H2=>tc σ2 H2 fun b H4=>if b=true then te σ2 H4 fun y H5=>ys.length < sizeLine/\Pv (i+1) (ys++[y]) σ2 H5 else Pv (i+1) ys σ2 H4)
   (hd:∀ys σ H,Pv n ys σ H->∀D,H D=none->Q (.ref D) (c8 H D (.lst ys))):
   aw0 (Itr lo n) g tc te Q σ0 H:=by
 refine ⟨fun i m ys σ H=>m=n - i/\i<=n/\Pv i ys σ H,⟨n,by simp,cg0 _,h0⟩,?_⟩;rintro i m ys σ H ⟨rfl,hi,p⟩
 by_cases hlt:i < n
 · refine .inr ⟨hlt,Pv (i+1),fun ys' σ' H' p'=>⟨n - (i+1),by omega,rfl,hlt,p'⟩,fun x H' y=> ?_⟩;obtain ⟨e,y⟩:=y;subst e y;exact hs i ys σ _ hlt p
 · have e:i=n:=by omega
   subst e;exact .inl ⟨cd5 _,hd ys σ H p⟩
inductive EqD (K:PySem.W.Frag)(H:Hp):Nat->V->V->Bool->Prop where
 |flat {n:Nat} {x y:V}:L9 x=true->L9 y=true->EqD K H n x y (S7 x y)
 |same {n:Nat} (a:Addr):EqD K H n (.ref a) (.ref a) true
 |lists {n:Nat} {a b:Addr} {xs ys:List V} (e:Nat->Bool):a≠b->j4 K H a xs->j4 K H b ys->xs.length=ys.length->(∀(j:Nat) x y,xs[j]? =some x->ys[j]? =some y->EqD K H n x y (e j))->EqD K H (n+1) (.ref a) (.ref b) ((cg1 xs.length).all e)
 |lens {n:Nat} {a b:Addr} {xs ys:List V}:a≠b->j4 K H a xs->j4 K H b ys->xs.length≠ys.length->EqD K H (n+1) (.ref a) (.ref b) false
theorem bc0 {pins:List (Addr×Obj)}{σ:St}{H:Hp}{s:Shared}(I:i8 X pins σ H s){n:Nat}{x y:V}{b:Bool}(d:EqD X.K H n x y b):
   ∀{A:Around} {u v:Value},A.units+n < cLine->o9 x u->o9 y v->SeqAt.EqAt A s u v b:=by
 induction d with
 |flat fx fy=>intro A u v _ rx ry;exact ba7 rx ry fx fy
 |same a=>intro A u v _ rx ry;cases rx;cases ry;exact SeqAt.EqAt.same _
 |@lists n a c xs ys e ne ha hb hl _ ih=>
  intro A u v hu rx ry;cases rx;cases ry;obtain ⟨its,r1,p1,_⟩:=I.list ha;obtain ⟨its2,r2,p2,_⟩:=I.list hb;have l1:=r1.length;have l2:=r2.length;refine SeqAt.EqAt.of_refs ne ?_
  have q:=SeqAt.RcAt.lists (A:=A) (e:=e) p1.isList p2.isList (by rw[cc8,cc8];omega) (by omega) (fun j h1 h2=>by
    have h1':j < its.length:=by simpa using h1
    have h2':j < its2.length:=by simpa using h2
    have e1:xs[j]? =some (xs[j]'(by omega)):=cc6 _;have e2:ys[j]? =some (ys[j]'(by omega)):=cc6 _;obtain ⟨u1,z1,q1⟩:=r1.get e1;obtain ⟨u2,z2,q2⟩:=r2.get e2
    have w1:its.toArray[j]=u1:=by
      rw[cc6 h1'] at z1
      simpa using z1
    have w2:its2.toArray[j]=u2:=by
      rw[cc6 h2'] at z2
      simpa using z2
    rw[w1,w2]
    exact ih j _ _ e1 e2 (by show A.in1.units+n < cLine;have:A.in1.units=A.units+1:=by first|rfl|simp [Around.in1]
                             omega) q1 q2)
  rw[cc8,<-l1] at q;exact q
 |lens ne ha hb hl=>
  intro A u v hu rx ry;cases rx;cases ry;obtain ⟨its,r1,p1,_⟩:=I.list ha;obtain ⟨its2,r2,p2,_⟩:=I.list hb;have l1:=r1.length;have l2:=r2.length;exact SeqAt.EqAt.of_refs ne (SeqAt.RcAt.lists_lengths p1.isList p2.isList (by rw[cc8,cc8];simp;omega) (by omega))
def LEq (K:PySem.W.Frag)(H:Hp)(n:Nat)(xs ys:List V)(r:Bool):Prop:=
 (xs.length≠ys.length/\r=false)\/(∃e:Nat->Bool,xs.length=ys.length/\(∀(j:Nat) x y,xs[j]? =some x->ys[j]? =some y->EqD K H n x y (e j))/\r=(cg1 xs.length).all e)
theorem bt5 {pins:List (Addr×Obj)}{σ:St}{H:Hp}{s:Shared}(I:i8 X pins σ H s){A:Around}{n:Nat}{a b:Addr}{xs ys:List V}{r:Bool}(hu:A.units+n+1 < cLine)(ha:j4 X.K H a xs)(hb:j4 X.K H b ys)(d:LEq X.K H n xs ys r):
   SeqAt.RcAt A s (.ref a) (.ref b) r:=by
 obtain ⟨its,r1,p1,_⟩:=I.list ha;obtain ⟨its2,r2,p2,_⟩:=I.list hb;have l1:=r1.length;have l2:=r2.length
 rcases d with ⟨hl,rfl⟩|⟨e,hl,he,rfl⟩
 · exact SeqAt.RcAt.lists_lengths p1.isList p2.isList (by rw[cc8,cc8];simp;omega) (by omega)
 · have q:=SeqAt.RcAt.lists (A:=A) (e:=e) p1.isList p2.isList (by rw[cc8,cc8];omega) (by omega) (fun j h1 h2=>by
     have h1':j < its.length:=by simpa using h1
     have h2':j < its2.length:=by simpa using h2
     have e1:xs[j]? =some (xs[j]'(by omega)):=cc6 _;have e2:ys[j]? =some (ys[j]'(by omega)):=cc6 _;obtain ⟨u1,z1,q1⟩:=r1.get e1;obtain ⟨u2,z2,q2⟩:=r2.get e2
     have w1:its.toArray[j]=u1:=by
       rw[cc6 h1'] at z1
       simpa using z1
     have w2:its2.toArray[j]=u2:=by
       rw[cc6 h2'] at z2
       simpa using z2
     rw[w1,w2]
     exact bc0 I (he j _ _ e1 e2) (by show A.in1.units+n < cLine;have:A.in1.units=A.units+1:=by first|rfl|simp [Around.in1]
                                      omega) q1 q2)
   rw[cc8,<-l1] at q;exact q
end
end L2
namespace L2
open PySem PySem.Spec PyProof.Rows
section
variable {X:Cx}
theorem bh6 {pins:List (Addr×Obj)}{σ:St}{H:Hp}{s:Shared}(I:i8 X pins σ H s){A:Around}{n:Nat}{a b:Addr}{xs ys:List V}{r:Bool}(hu:A.units+n+1 < cLine)(ha:j4 X.K H a xs)(hb:j4 X.K H b ys)(d:LEq X.K H n xs ys r):
   SeqAt.RcNeAt A s (.ref a) (.ref b) (!r):=by
 obtain ⟨its,r1,p1,_⟩:=I.list ha;obtain ⟨its2,r2,p2,_⟩:=I.list hb;have l1:=r1.length;have l2:=r2.length
 rcases d with ⟨hl,rfl⟩|⟨e,hl,he,rfl⟩
 · exact SeqAt.RcNeAt.lists_lengths p1.isList p2.isList (by rw[cc8,cc8];simp;omega) (by omega)
 · have q:=SeqAt.RcNeAt.lists (A:=A) (e:=e) p1.isList p2.isList (by rw[cc8,cc8];omega) (by omega) (fun j h1 h2=>by
     have h1':j < its.length:=by simpa using h1
     have h2':j < its2.length:=by simpa using h2
     have e1:xs[j]? =some (xs[j]'(by omega)):=cc6 _;have e2:ys[j]? =some (ys[j]'(by omega)):=cc6 _;obtain ⟨u1,z1,q1⟩:=r1.get e1;obtain ⟨u2,z2,q2⟩:=r2.get e2
     have w1:its.toArray[j]=u1:=by
       rw[cc6 h1'] at z1
       simpa using z1
     have w2:its2.toArray[j]=u2:=by
       rw[cc6 h2'] at z2
       simpa using z2
     rw[w1,w2]
     exact bc0 I (he j _ _ e1 e2) (by show A.in1.units+n < cLine;have:A.in1.units=A.units+1:=by first|rfl|simp [Around.in1]
                                      omega) q1 q2)
   rw[cc8,<-l1] at q;exact q
def bt6 (K:PySem.W.Frag)(n:Nat)(neg:Bool):R2:=fun x y H Q=>∃a b xs ys r,x= .ref a/\y= .ref b/\j4 K H a xs/\j4 K H b ys/\LEq K H n xs ys r/\Q (.bl (if neg then !r else r)) H
theorem bc1 (n:Nat)(hu:X.A.units+n+1 < cLine):G2 X (compareOp .Eq) (bt6 X.K n false):=by
 intro pins s σ H x y v u Q I rx ry h;obtain ⟨a,b,xs,ys,r,rfl,rfl,ha,hb,d,q⟩:=h;cases rx;cases ry;exact bt5 I hu ha hb d _ _ _ _ ⟨.bl r,H,I,rfl,q⟩
theorem bc2 (n:Nat)(hu:X.A.units+n+1 < cLine):G2 X (compareOp .NotEq) (bt6 X.K n true):=by
 intro pins s σ H x y v u Q I rx ry h;obtain ⟨a,b,xs,ys,r,rfl,rfl,ha,hb,d,q⟩:=h;cases rx;cases ry;exact bh6 I hu ha hb d _ _ _ _ ⟨.bl (!r),H,I,rfl,q⟩
theorem Y6 {n:Nat}{e:Nat->Bool}:(cg1 n).all e=true↔∀j,j < n->e j=true:=by
 rw[cg8];exact ⟨fun h j hj=>h j (cf9.mpr hj),fun h j hj=>h j (cf9.mp hj)⟩
theorem bh7 (K:PySem.W.Frag)(H:Hp)(n:Nat)(ns ms:List Int):LEq K H n (ns.map V.int) (ms.map V.int) (decide (ns=ms)):=by
 by_cases hl:ns.length=ms.length
 · refine .inr ⟨fun j=>decide (ns[j]? =ms[j]?),by simpa using hl,fun j x y e1 e2=> ?_,?_⟩
   · rw[ce3] at e1 e2
     cases h1:ns[j]? with
     |none=>rw[h1] at e1;cases e1
     |some a=>
      cases h2:ms[j]? with
      |none=>rw[h2] at e2;cases e2
      |some b=>
       rw[h1] at e1;rw[h2] at e2;cases e1;cases e2;have q:EqD K H n (V.int a) (V.int b) (S7 (V.int a) (V.int b)):= .flat rfl rfl
       have e:S7 (V.int a) (V.int b)=decide (some a=some b):=by
         show (a==b)=_
         by_cases z:a=b
         · subst z;simp
         · rw[decide_eq_false (fun w=>z (Option.some.inj w))];simpa using z
       rw[e] at q;show EqD K H n _ _ (decide (ns[j]? =ms[j]?));rw[h1,h2];exact q
   · rw[ci5,decide_eq_true_iff,Y6];constructor
     · intro h j _;subst h;simp
     · intro h
       refine cl2 fun j=> ?_
       by_cases hj:j < ns.length
       · exact of_decide_eq_true (h j (by simpa using hj))
       · rw[cg9 (by omega),cg9 (by omega)]
 · refine .inl ⟨by simpa using hl,?_⟩
   exact decide_eq_false fun h=>hl (by rw[h])
theorem ar8:E4 X (.type "range") (fun xs H Q=>∃j,xs=[.int j]/\∀p,H p=none->Q (.ref p) (c8 H p (.rng 0 j))):=by
 intro pins s σ H xs us Q I r h;obtain ⟨j,rfl,q⟩:=h;obtain ⟨u,rfl,⟨t,rfl⟩⟩:=L8 r;refine call_range_1 ⟨.ref s.heap.objs.size,_,I.laid (fun b o e=>Heap.get?_push_of_some _ e) (cd5 _) ?_,rfl,q _ (I.hok.fresh (cd5 _))⟩;exact ⟨_,_,_,Heap.get?_push_size _ rfl⟩
def C4 (lo:Int)(n:Nat):List Int:=(cg1 n).map fun (i:Nat)=>lo+(i:Int)
theorem aw1 {lo:Int}{n:Nat}{acc:Array Value}(h:ItemsOf (fun i v=>∃t,v=Value.int (lo+(i:Int)*1) t) acc n):k7 ((C4 lo n).map V.int) acc.toList:=by
 obtain ⟨hs,hv⟩:=h
 have key:∀(l:List Value) (k:Nat),(∀(j:Nat) v,l[j]? =some v->∃t,v=Value.int (lo+((k+j:Nat):Int)) t)->k7 (((cg1 l.length).map fun (i:Nat)=>lo+((k+i:Nat):Int)).map V.int) l:=by
   intro l
   induction l with
   |nil=>intro k _;exact .nil
   |cons v r ih=>
    intro k hk
    have e:(((cg1 r.length).map Nat.succ).map fun (i:Nat)=>lo+((k+i:Nat):Int))=(cg1 r.length).map fun (i:Nat)=>lo+((k+1+i:Nat):Int):=by
      rw[ch2]
      refine ch9 fun i _=> ?_
      show lo+((k+(i+1):Nat):Int)=_
      congr 2;omega
    rw[cd6,List.range_succ_eq_map,ce5,ce5,e];refine .cons ?_ ?_
    · obtain ⟨t,e⟩:=hk 0 v rfl;exact ⟨t,e⟩
    · have:=ih (k+1) fun j w e=>by
        obtain ⟨t,z⟩:=hk (j+1) w (by simpa using e);exact ⟨t,by rw[z];congr 2;omega⟩
      exact this
 have:=key acc.toList 0 fun j v e=>by
   obtain ⟨t,z⟩:=hv j v (by simpa using e);exact ⟨t,by rw[z,Int.mul_one];simp⟩
 have hl:acc.toList.length=n:=by simpa using hs
 rw[hl] at this
 have e:((cg1 n).map fun (i:Nat)=>lo+((0+i:Nat):Int))=C4 lo n:=by
   unfold C4
   refine ch9 fun i _=> ?_
   simp
 rw[e] at this;exact this
theorem ak4 (hc:X.calm=true):E4 X (.type "list") (fun xs H Q=>∃p lo hi,xs=[.ref p]/\H p=some (.rng lo hi)/\(-(2^62)<=lo/\lo < 2^62/\ -(2^62)<=hi/\hi < 2^62)/\(hi - lo).toNat<=2^20/\
   ∀l,H l=none->Q (.ref l) (c8 H l (.lst ((C4 lo (hi - lo).toNat).map V.int)))):=by
 intro pins s σ H xs us Q I r h;obtain ⟨p,lo,hi,rfl,hp,⟨b1,b2,b3,b4⟩,hz,q⟩:=h;obtain ⟨u,rfl,rx⟩:=L8 r;cases rx;obtain ⟨t,u,v,ho⟩:=I.hok p _ hp
 refine call_list_range (n:=(hi - lo).toNat) (I.ok.hd hc) (r:=p) ho (small_one b1 b2 b3 b4) (by rw[rangeSize_one];split<;>omega) (cd3 hz (by decide)) fun h' tk acc' c' hk e it=> ?_
 have rv:=aw1 it;refine ⟨.ref s.heap.objs.size,_,I.laid hk (cd5 _) (show A1 X.prog X.w _ h' _ (.lst ((C4 lo (hi - lo).toNat).map V.int)) from ⟨?_,acc'.toList,c',rv,by rw[e]⟩),rfl,q _ (I.hok.fresh (cd5 _))⟩;unfold C4;rw[cc4,cc4,cj1];exact cd3 hz (by rw[sizeLine_eq];decide)
theorem bc3 (hc:X.calm=true):E4 X (.builtin "sum") (fun xs H Q=>∃(p:Addr) (ns:List Int),xs=[.ref p]/\j4 X.K H p (ns.map V.int)/\Q (.int ns.sum) H):=by
 intro pins s σ H xs us Q I r h;obtain ⟨p,ns,rfl,hp,q⟩:=h;obtain ⟨u,rfl,rx⟩:=L8 r;cases rx;obtain ⟨its,rv,pl,_⟩:=I.list hp;have ia:=av5 rv;obtain ⟨xs,hxs⟩:=ia.allInts.items;have hn:=ia.numsOf
 have hxl:its=(intItems xs).toList:=by rw[<-hxs]
 rw[hxl,nums_intItems] at hn;have hl:=pl.isList;rw[hxs] at hl
 refine sum_intListG (I.ok.hd hc) hl fun h' tk t' hk=>⟨.int ns.sum,H,I.kept hk,?_,q⟩
 rw[preSum_eq,ci8 (by simp),hn];exact ⟨_,rfl⟩
end
end L2
namespace L2
open PySem PySem.Spec PyProof.Rows
section
variable {X:Cx}
theorem bh8:E4 X (.builtin "isinstance") (fun xs H Q=>∃x n t b,xs=[x,.ty n]/\D5 X.K H x t/\PySem.W.kitOne X.K t (.type n)=some b/\Q (.bl b) H):=by
 intro pins s σ H xs us Q I r h;obtain ⟨x,n,t,b,rfl,ty,e,q⟩:=h;obtain ⟨u,w',rfl,rx,ry⟩:=aa8 r;cases (show w'=Value.type n from ry)
 exact ba5 I rx ty e fun tk=>⟨.bl b,H,I.tok tk,rfl,q⟩
theorem G8 (K:PySem.W.Frag)(n:String):PySem.W.kitOne K (.type n) (.type n)=some true:=by
 unfold PySem.W.kitOne;rw[if_pos (beq_self_eq_true _)]
theorem M1 (K:PySem.W.Frag):PySem.W.kitOne K (.type "int") (.type "bool")=some false:=by
 unfold PySem.W.kitOne PySem.W.kitCls;rw[if_neg (by decide+kernel)];show (if PySem.W.kitMeta "bool"=true then (fastBuiltinMro "int").map (·.contains (Value.type "bool")) else none)=some false;rw[if_pos (by decide+kernel)]
 decide+kernel
theorem an3 (K:PySem.W.Frag):PySem.W.kitOne K (.type "bool") (.type "int")=some true:=by
 unfold PySem.W.kitOne PySem.W.kitCls;rw[if_neg (by decide+kernel)];show (if PySem.W.kitMeta "int"=true then (fastBuiltinMro "bool").map (·.contains (Value.type "int")) else none)=some true;rw[if_pos (by decide+kernel)]
 decide+kernel
theorem bh9:bootBuiltins "int"=some (.type "int"):=by decide+kernel
theorem bc4:bootBuiltins "bool"=some (.type "bool"):=by decide+kernel
theorem X1:bootBuiltins "list"=some (.type "list"):=by decide+kernel
theorem ar9:bootBuiltins "range"=some (.type "range"):=by decide+kernel
theorem ac8:bootBuiltins "isinstance"=some (.builtin "isinstance"):=by decide+kernel
theorem bc5:bootBuiltins "sum"=some (.builtin "sum"):=by decide+kernel
theorem bc6:bootBuiltins "min"=some (.builtin "min"):=by decide+kernel
theorem bc7:bootBuiltins "max"=some (.builtin "max"):=by decide+kernel
end
def j3 (a:Addr)(H H':Hp):Prop:=∀b o,H b=some o->b≠a->H' b=some o
theorem j3.refl (a:Addr)(H:Hp):j3 a H H:=fun _ _ h _=>h
theorem j3.trans {a:Addr}{H H1 H2:Hp}(x:j3 a H H1)(y:j3 a H1 H2):j3 a H H2:=fun b o h n=>y b o (x b o h n) n
theorem c9.but {H H':Hp}(a:Addr)(s:c9 H H'):j3 a H H':=fun b o h _=>s b o h
theorem c9.upd_new {H:Hp}{p:Addr}{o:HO}(h:H p=none):c9 H (c8 H p o):=fun b u e=>by rw[i6 (i7 e h)];exact e
theorem j3.upd {H:Hp}{a:Addr}{o:HO}:j3 a H (c8 H a o):=fun b u e n=>by rw[i6 n];exact e
theorem c9.upd_r {H H':Hp}{p:Addr}{o:HO}(s:c9 H H')(h:H p=none):c9 H (L2.c8 H' p o):=fun b u e=>by rw[i6 (i7 e h)];exact s b u e
theorem j3.upd_r {a:Addr}{H H':Hp}{p:Addr}{o:HO}(k:j3 a H H')(h:H p=none):j3 a H (L2.c8 H' p o):=fun b u e n=>by rw[i6 (i7 e h)];exact k b u e n
theorem j3.upd_a {a:Addr}{H H':Hp}{o:HO}(k:j3 a H H'):j3 a H (L2.c8 H' a o):=fun b u e n=>by rw[i6 n];exact k b u e n
def o6 (H:Hp)(a:Addr)(c:Nat):Prop:=∃x y z:Int,H a=some (.lst [.int x,.int y,.int z])/\0<=z/\z<=c
theorem o6.mono {H:Hp}{a:Addr}{c d:Nat}(h:o6 H a c)(e:c<=d):o6 H a d:=by
 obtain ⟨x,y,z,h1,h2,h3⟩:=h;exact ⟨x,y,z,h1,h2,by omega⟩
end L2
namespace L2
open PySem PySem.Spec PyProof.Rows
def A0 (P:Program)(w:World)(K:PySem.W.Frag)(mg:Str->Option Value)(base:Heap)(x:Str)(k:Nat)(ps:List Str)(sp:Sp):Prop:=
 ∃(f:Addr) (fd:FuncData),mg x=some (.ref f)/\PySem.W.keepIn K (.ref f)=true/\R3 K fd ps []/\o4 P w K mg base C6 k f fd ps sp
section
variable {X:Cx} {x:Str} {p pos:Pos} {e:Expr} {es:List Expr} {t:TA} {k:Nat} {ps:List Str} {sp:Sp}
theorem j6 (c:A0 X.prog X.w X.K X.mg X.base x k ps sp)(hr:y7 k X.A)(ha:PA X (e::es) t)(hg:Gl X x:=by rfl)(hdb:(x==("__debug__":Str))=false:=by decide)
   (he:starEach (e::es) X.env=(false,eval e X.env)::starEach es X.env:=by rfl) (hpl:(backTo pos (starEach es X.env)).any (·.1)=false:=by rfl):
   PE X (.Call (.Name x p) (e::es) [] pos) (ae1 sp [] E0 t):=by
 obtain ⟨f,fd,h1,h2,h3,h4⟩:=c;exact at5 h4 hr hg h1 h2 h3 .nil bw7 ha hdb he hpl
theorem T0 {a b:Expr}{ta:TA}(hm:X.mg "isinstance"=none)(ha:PA X [a,b] ta)(hg:Gl X "isinstance":=by rfl)
   (he:starEach [a,b] X.env=(false,eval a X.env)::starEach [b] X.env:=by rfl) (hpl:(backTo pos (starEach [b] X.env)).any (·.1)=false:=by rfl):
   PE X (.Call (.Name "isinstance" p) [a,b] [] pos) (Q8 (fun xs H Q=>∃x n t b,xs=[x,.ty n]/\D5 X.K H x t/\PySem.W.kitOne X.K t (.type n)=some b/\Q (.bl b) H) ta):=
 G7 bh8 hg hm ac8 ha (by decide) (by decide) he hpl
theorem an4 (hm:X.mg "int"=none)(hg:Gl X "int":=by rfl):PE X (.Name "int" p) (tC (.ty "int")):=aa6 hg hm bh9 rfl
theorem aj3 (hm:X.mg "bool"=none)(hg:Gl X "bool":=by rfl):PE X (.Name "bool" p) (tC (.ty "bool")):=aa6 hg hm bc4 rfl
theorem Z3 (hm:X.mg "list"=none)(hg:Gl X "list":=by rfl):PE X (.Name "list" p) (tC (.ty "list")):=aa6 hg hm X1 rfl
theorem w9 (hm:X.mg "len"=none)(ha:PA X [e] t)(hg:Gl X "len":=by rfl)
   (he:starEach [e] X.env=(false,eval e X.env)::starEach [] X.env:=by rfl):PE X (.Call (.Name "len" p) [e] [] pos) (Q8 (fun xs H Q=>∃p ys,xs=[.ref p]/\(j4 X.K H p ys\/V2 X.K H p ys)/\Q (.int ys.length) H) t):=
 G7 an0 hg hm PySem.boot_len ha (by decide) (by decide) he rfl
end
end L2
namespace Mth
structure E6 (p:List Int):Prop where
 nd:p.Nodup
 lo:∀x∈p,0<=x
 hi:∀x∈p,x < p.length
theorem ac9 {n:Nat}{x:Int}:x∈L2.C4 0 n↔0<=x/\x < n:=by
 unfold L2.C4;rw[cf5];constructor
 · rintro ⟨i,hi,rfl⟩;have:=cf9.mp hi;omega
 · rintro ⟨h1,h2⟩;exact ⟨x.toNat,cf9.mpr (by omega),by omega⟩
theorem A2 (lo:Int)(n:Nat):(L2.C4 lo n).length=n:=by
 unfold L2.C4;rw[cc4,cj1]
theorem aw2 (n:Nat):(L2.C4 0 n).Nodup:=by
 unfold L2.C4;rw[ce2,cj6];exact List.Pairwise.imp (fun {a b} (h:a < b)=>by omega) List.pairwise_lt_range
theorem U8 {p:List Int}{n:Nat}(h:p.Perm (L2.C4 0 n)):E6 p/\p.length=n:=by
 have hl:p.length=n:=by rw[h.length_eq,A2]
 refine ⟨⟨h.nodup_iff.mpr (aw2 n),fun x hx=>(ac9.mp (h.mem_iff.mp hx)).1,fun x hx=> ?_⟩,hl⟩;have:=(ac9.mp (h.mem_iff.mp hx)).2;omega
theorem ak5:∀(n:Nat) (p:List Nat),p.Nodup->(∀x∈p,x < n)->p.length=n->p.Perm (cg1 n):=by
 intro n
 induction n with
 |zero=>intro p _ _ hl;rw[List.eq_nil_of_length_eq_zero hl];exact List.Perm.refl _
 |succ n ih=>
  intro p nd hb hl
  by_cases hn:n∈p
  · obtain ⟨s,t,rfl⟩:=List.append_of_mem hn;have pm:(s++n::t).Perm (n::(s++t)):=List.perm_middle;have nd':=pm.nodup_iff.mp nd;obtain ⟨h1,h2⟩:=cg3.mp nd'
    have:=ih (s++t) h2 (fun x hx=>by
      have hx':x < n+1:=hb x (pm.mem_iff.mpr (cc9 _ hx))
      have:x≠n:=fun e=>h1 (e▸hx)
      omega) (by rw[cc7,cd6] at hl;rw[cc7];omega)
    refine pm.trans ?_;rw[cm1];exact (List.Perm.cons n this).trans (List.perm_append_comm (l₁:=[n]))
  · exfalso
    have hlt:∀x∈p,x < n:=fun x hx=>by
      have h1:=hb x hx
      have:x≠n:=fun e=>hn (e▸hx)
      omega
    match p,nd,hl,hlt with
    |[],_,hl,_=>simp at hl
    |y::q,nd,hl,hlt=>
     obtain ⟨h1,h2⟩:=cg3.mp nd;have hq:=ih q h2 (fun x hx=>hlt x (cc9 _ hx)) (by simpa using hl);have hy:=hlt y cd0;exact h1 (hq.mem_iff.mpr (cf9.mpr hy))
theorem E6.perm {p:List Int}(h:E6 p):p.Perm (L2.C4 0 p.length):=by
 have e:(p.map cj7).map (fun (i:Nat)=>(0:Int)+(i:Int))=p:=by
   rw[ch2]
   conv=>rhs;rw[<-cm4 p]
   refine ch9 fun x hx=> ?_
   have:=h.lo x hx;show (0:Int)+((x.toNat:Nat):Int)=x;omega
 have nd:(p.map cj7).Nodup:=by
   rw[ce2,cj6];have:=ce2.mp h.nd;refine List.Pairwise.imp_of_mem (fun {a b} ha hb hne z=>hne ?_) this;have h1:=h.lo a ha;have h2:=h.lo b hb;omega
 have:=ak5 p.length (p.map cj7) nd (fun x hx=>by
   obtain ⟨y,hy,rfl⟩:=cf5.mp hx;have h1:=h.lo y hy;have h2:=h.hi y hy
   omega) (by rw[cc4])
 have q:=this.map (fun (i:Nat)=>(0:Int)+(i:Int));rw[e] at q;exact q
def G6 (fs:List Int)(u:Int):Option Int:=fs[u.toNat]?
theorem an5 (fs:List Int):(L2.C4 0 fs.length).map (G6 fs)=fs.map some:=by
 unfold L2.C4;rw[ch2]
 refine cl2 fun j=> ?_
 rw[ce3,ce3]
 by_cases hj:j < fs.length
 · rw[List.getElem?_range hj,cc6 hj];show some (fs[((0:Int)+(j:Int)).toNat]?)=_
   have:((0:Int)+(j:Int)).toNat=j:=by omega
   rw[this,cc6 hj];rfl
 · rw[cg9 (by rw[cj1];omega),cg9 (by omega)];rfl
theorem bc8 {a b:List Int}(h:(a.map some).Perm (b.map some)):a.Perm b:=by
 have:=h.map (fun o:Option Int=>o.getD 0);rw[ch2,ch2] at this
 have e:∀l:List Int,l.map ((fun o:Option Int=>o.getD 0)∘some)=l:=fun l=>by
   conv=>rhs;rw[<-cm4 l]
   rfl
 rw[e,e] at this;exact this
theorem aw3 {fs ts qs:List Int}(ht:E6 ts)(hl:fs.length=ts.length)(h:ts.map (G6 fs)=qs.map some):fs.Perm qs:=by
 refine bc8 ?_;have h1:=ht.perm.map (G6 fs);rw[<-hl,an5,h] at h1;exact h1.symm
end Mth
namespace L2
open PySem PySem.Spec PyProof.Rows
theorem ae8.of {X:Cx}{N:List Str}{nl:Nat}{fr:List Nat}{scope:Scope}(h1:(scope.names.all fun y=>y.2 != .cell)=true:=by rfl)(h2:scope.kind= .function:=by rfl)
   (h3:(scope.names.all fun y=>y.2 != .local||scope.names.lookup y.1==some .local)=true:=by rfl)
   (h4:(scope.names.all fun p=>p.2 != .free||(X.env.kindOf p.1==some .cell||X.env.kindOf p.1==some .free))=true:=by rfl) (h5:N.length=nl+fr.length:=by rfl)
   (h6:((cg1 fr.length).all fun k=>match fr[k]? with
     |some j=>(match N[nl+k]?,X.N[j]? with
      |some y,some z=>y==z&&(X.env.scope.names.lookup y==some .local||X.env.scope.names.lookup y==some .cell||X.env.scope.names.lookup y==some .free)&&scope.names.lookup y==some .free
      |_,_=>false)
     |none=>false)=true:=by rfl):ae8 X N nl fr scope where
 cell:=fun y hy e=>by
   have:=cg8.mp h1 y hy;rw[e] at this;exact absurd this (by decide)
 kind:=h2
 names:=fun y hy e=>by
   have:=cg8.mp h3 y hy;rw[e] at this
   have q:(scope.names.lookup y.1==some NameKind.local)=true:=by simpa using this
   exact eq_of_beq q
 free:=fun p hp e=>by
   have:=cg8.mp h4 p hp;rw[e] at this
   have q:(X.env.kindOf p.1==some NameKind.cell||X.env.kindOf p.1==some NameKind.free)=true:=by simpa using this
   rcases cm2 _ _|>.mp q with z|z
   · exact .inl (eq_of_beq z)
   · exact .inr (eq_of_beq z)
 len:=h5
 fr:=fun k j e=>by
   have hk:k < fr.length:=(cc5.mp e).1;have:=cg8.mp h6 k (cf9.mpr hk);rw[e] at this
   dsimp only at this
   cases e1:N[nl+k]? with
   |none=>rw[e1] at this;cases this
   |some y=>
    cases e2:X.N[j]? with
    |none=>rw[e1,e2] at this;cases this
    |some z=>
     rw[e1,e2] at this
     dsimp only at this
     rw[ce9,ce9] at this;obtain ⟨⟨q1,q2⟩,q3⟩:=this;have hyz:y=z:=eq_of_beq q1;subst hyz;refine ⟨y,rfl,rfl,?_,eq_of_beq q3⟩;rw[cm2,cm2] at q2
     rcases q2 with (q|q)|q
     · exact .inl (eq_of_beq q)
     · exact .inr (.inl (eq_of_beq q))
     · exact .inr (.inr (eq_of_beq q))
def G0 (l:List Int):List (x6×V):=l.map fun n=>((Sum.inl n:x6),V.bl true)
theorem ad0 {l:List Int}{n:Int}(h:n∈l):J9 (G0 l) (Sum.inl n:x6)=some (.bl true):=by
 induction l with
 |nil=>simp at h
 |cons a r ih=>
  show J9 (((Sum.inl a:x6),V.bl true)::G0 r) _=_
  by_cases e:a=n
  · rw[W7 (by rw[e])]
  · rw[S8 (fun z=>e (Sum.inl.inj z))];exact ih ((ce0.mp h).resolve_left fun z=>e z.symm)
theorem X2 {l:List Int}{n:Int}(h:n∉l):J9 (G0 l) (Sum.inl n:x6)=none:=by
 induction l with
 |nil=>rfl
 |cons a r ih=>
  show J9 (((Sum.inl a:x6),V.bl true)::G0 r) _=_;rw[S8 (fun z=>h (by rw[Sum.inl.inj z];exact cd0))]
  exact ih fun z=>h (cc9 _ z)
theorem Z4 {l:List Int}{n:Int}(h:n∉l):M0 (G0 l) (Sum.inl n:x6) (V.bl true)=G0 (l++[n]):=by
 rw[bh1 _ (X2 h)];unfold G0;rw[ce6];rfl
theorem D0 {ns:List Int}{i:Nat}{y:V}(h:(ns.map V.int)[i]? =some y):∃z,ns[i]? =some z/\y= .int z:=by
 rw[ce3] at h
 cases e:ns[i]? with
 |none=>rw[e] at h;cases h
 |some z=>rw[e] at h;exact ⟨z,rfl,(Option.some.inj h).symm⟩
theorem B3 {α:Type}{l:List α}{i:Nat}{x:α}(h:l[i]? =some x):l.take (i+1)=l.take i++[x]:=by
 rw[List.take_add_one,h];rfl
end L2
namespace Mth
def aw4 (p q:List Int):List Int:=q.map fun i=>p.getD i.toNat 0
theorem N3 {p:List Int}{i:Int}(h0:0<=i)(h1:i < p.length):L2.V7 (p.map L2.V.int) i=some (.int (p.getD i.toNat 0)):=by
 obtain ⟨j,rfl⟩:=cf1 h0;refine L2.o8 ?_
 have hj:j < p.length:=by omega
 rw[ce3,cc6 hj];show some (L2.V.int p[j])=_;rw[cj5];rw[ch5,cc6 hj];rfl
end Mth
namespace L2
open PySem PySem.Spec PyProof.Rows
theorem at9 (K:PySem.W.Frag)(H:Hp)(n:Nat)(xs:List V):LEq K H n xs [] xs.isEmpty:=by
 cases xs with
 |nil=>exact .inr ⟨fun _=>true,rfl,fun j x y e=>by simp at e,rfl⟩
 |cons x r=>exact .inl ⟨by simp,rfl⟩
section
variable {X:Cx} {p pos apos:Pos} {e o:Expr} {es:List Expr} {t:TA} {to:TE}
theorem L5 (ho:PE X o to)(ha:PA X [e] t)
   (hbase:attributeBase o "append" X.env (eval o X.env)=eval o X.env:=by rfl)
   (hfew:((backTo pos (starEach [e] X.env)).all (fun x=> !x.1)&&(backToKw pos (keywordEach [] X.env)).all (fun x=>x.1.isSome)
     &&decide ([e].length+([]:List Keyword).length+(if ([]:List Keyword).isEmpty then 0 else 1) < 30))=true:=by rfl)
   (hline:(apos.endLine==pos.line)=true:=by rfl) (hs:starEach [e] X.env=(false,eval e X.env)::starEach [] X.env:=by rfl) (hplain:(backTo pos (starEach [] X.env)).any (·.1)=false:=by rfl):
   PE X (.Call (.Attribute o "append" apos) [e] [] pos) (tBM X.K "list" at6 to t):=
 bl1 PySem.F.plainAttrs_list PySem.F.slot_list_append PySem.F.type_list_append bb1 ho ha hbase hfew hline hs hplain
theorem bi0 (ho:PE X o to)(ha:PA X [e] t)
   (hbase:attributeBase o "pop" X.env (eval o X.env)=eval o X.env:=by rfl)
   (hfew:((backTo pos (starEach [e] X.env)).all (fun x=> !x.1)&&(backToKw pos (keywordEach [] X.env)).all (fun x=>x.1.isSome)
     &&decide ([e].length+([]:List Keyword).length+(if ([]:List Keyword).isEmpty then 0 else 1) < 30))=true:=by rfl)
   (hline:(apos.endLine==pos.line)=true:=by rfl) (hs:starEach [e] X.env=(false,eval e X.env)::starEach [] X.env:=by rfl) (hplain:(backTo pos (starEach [] X.env)).any (·.1)=false:=by rfl):
   PE X (.Call (.Attribute o "pop" apos) [e] [] pos) (tBM X.K "list" bb2 to t):=
 bl1 PySem.F.plainAttrs_list PySem.F.slot_list_pop PySem.F.type_list_pop bh0 ho ha hbase hfew hline hs hplain
theorem Z5 (hm:X.mg "list"=none)(ha:PA X [e] t)(hg:Gl X "list":=by rfl)(he:starEach [e] X.env=(false,eval e X.env)::starEach [] X.env:=by rfl):
   PE X (.Call (.Name "list" p) [e] [] pos) (Q8 (fun xs H Q=>∃p ys,xs=[.ref p]/\(j4 X.K H p ys\/V2 X.K H p ys)/\∀l,H l=none->Q (.ref l) (c8 H l (.lst ys))) t):=
 K9 an1 hg hm X1 ha (by decide) (by decide) he rfl
theorem R5 {p2 pos2:Pos}(hc:X.calm=true)(hm:X.mg "list"=none)(hm2:X.mg "range"=none)(ha:PA X [e] t)(hg:Gl X "list":=by rfl)(hg2:Gl X "range":=by rfl)(he:starEach [e] X.env=(false,eval e X.env)::starEach [] X.env:=by rfl)
   (he2:starEach [.Call (.Name "range" p2) [e] [] pos2] X.env=(false,eval (.Call (.Name "range" p2) [e] [] pos2) X.env)::starEach [] X.env:=by rfl):
   PE X (.Call (.Name "list" p) [.Call (.Name "range" p2) [e] [] pos2] [] pos) (Q8 (fun xs H Q=>∃p lo hi,xs=[.ref p]/\H p=some (.rng lo hi)/\(-(2^62)<=lo/\lo < 2^62/\ -(2^62)<=hi/\hi < 2^62)/\(hi - lo).toNat<=2^20/\
   ∀l,H l=none->Q (.ref l) (c8 H l (.lst ((C4 lo (hi - lo).toNat).map V.int)))) (bk9 (Q8 (fun xs H Q=>∃j,xs=[.int j]/\∀p,H p=none->Q (.ref p) (c8 H p (.rng 0 j))) t) bs7)):=
 K9 (ak4 hc) hg hm X1 (c5 (K9 ar8 hg2 hm2 ar9 ha (by decide) (by decide) he rfl) c6 he2) (by decide) (by decide) he2 rfl
theorem bt7 (hc:X.calm=true)(hm:X.mg "sum"=none)(ha:PA X [e] t)(hg:Gl X "sum":=by rfl)(he:starEach [e] X.env=(false,eval e X.env)::starEach [] X.env:=by rfl):
   PE X (.Call (.Name "sum" p) [e] [] pos) (Q8 (fun xs H Q=>∃(p:Addr) (ns:List Int),xs=[.ref p]/\j4 X.K H p (ns.map V.int)/\Q (.int ns.sum) H) t):=
 G7 (bc3 hc) hg hm bc5 ha (by decide) (by decide) he rfl
theorem aa9 {a b:Expr}(hc:X.calm=true)(hm:X.mg "min"=none)(ha:PA X [a,b] t)(hg:Gl X "min":=by rfl)(he:starEach [a,b] X.env=(false,eval a X.env)::starEach [b] X.env:=by rfl)(hpl:(backTo pos (starEach [b] X.env)).any (·.1)=false:=by rfl):
   PE X (.Call (.Name "min" p) [a,b] [] pos) (Q8 (fun xs H Q=>∃i j,xs=[.int i,.int j]/\Q (.int (if j < i then j else i)) H) t):=
 G7 (ba3 hc) hg hm bc6 ha (by decide) (by decide) he hpl
theorem bn8 {a b:Expr}(hc:X.calm=true)(hm:X.mg "max"=none)(ha:PA X [a,b] t)(hg:Gl X "max":=by rfl)(he:starEach [a,b] X.env=(false,eval a X.env)::starEach [b] X.env:=by rfl)(hpl:(backTo pos (starEach [b] X.env)).any (·.1)=false:=by rfl):
   PE X (.Call (.Name "max" p) [a,b] [] pos) (Q8 (fun xs H Q=>∃i j,xs=[.int i,.int j]/\Q (.int (if j > i then j else i)) H) t):=
 G7 (ba2 hc) hg hm bc7 ha (by decide) (by decide) he hpl
end
end L2
namespace Mth
theorem af1 {α:Type}:∀{l:List α} {k:Nat} {y:α},l[k]? =some y->(y::l.eraseIdx k).Perm l
 |[],k,y,h=>by simp at h
 |a::r,0,y,h=>by
  simp at h;subst h;exact List.Perm.refl _
 |a::r,k+1,y,h=>by
  have h':r[k]? =some y:=by simpa using h
  have ih:=af1 h';show (y::a::r.eraseIdx k).Perm (a::r);exact (List.Perm.swap a y _).trans (ih.cons a)
theorem aw5 {u s:Int}(h1:0<=u)(h2:u < 10000001000)(h3:0<=s)(h4:s<=1000001):0<=u*(37*s+67)+3557*s*s/\u*(37*s+67)+3557*s*s < 2^64:=by
 have a1:0<=37*s+67:=by omega
 have a2:37*s+67<=37000200:=by omega
 have b1:0<=u*(37*s+67):=Int.mul_nonneg h1 a1;have b2:u*(37*s+67)<=10000001000*37000200:=Int.mul_le_mul (by omega) a2 a1 (by omega)
 have c0:0<=3557*s:=by omega
 have c1:0<=3557*s*s:=Int.mul_nonneg c0 h3;have c2:3557*s*s<=(3557*1000001)*1000001:=Int.mul_le_mul (by omega) h4 h3 (by omega)
 have e:(2:Int)^64=18446744073709551616:=by decide
 rw[e];omega
end Mth
namespace L2
open PySem PySem.Spec PyProof.Rows
def bw8 (K:PySem.W.Frag)(ta:TA):TE:=Q8 (fun xs H Q=>∃p ys,xs=[.ref p]/\(j4 K H p ys\/V2 K H p ys)/\Q (.int ys.length) H) ta
section
variable {X:Cx} {p pos:Pos} {e:Expr} {t:TA}
theorem bi1 (K:PySem.W.Frag)(hm:X.mg "len"=none)(ha:PA X [e] t)(hK:X.K=K:=by rfl)(hg:Gl X "len":=by rfl)
   (he:starEach [e] X.env=(false,eval e X.env)::starEach [] X.env:=by rfl):PE X (.Call (.Name "len" p) [e] [] pos) (bw8 K t):=by
 subst hK;exact w9 hm ha hg he
end
theorem bi2 (n:Nat):(ce8 n [V.int 0]).flatten=(ce8 n (0:Int)).map V.int:=by
 induction n with
 |zero=>rfl
 |succ n ih=>rw[cg4,ch0,ih,cg4,ce5];rfl
def aw6:V->Int
 | .int i=>i
 |_=>0
theorem Z6 {ys:List V}{xs:List Int}(h:ys.Perm (xs.map V.int)):∃ps:List Int,ys=ps.map V.int/\ps.Perm xs:=by
 refine ⟨ys.map aw6,?_,?_⟩
 · rw[ch2]
   conv=>lhs;rw[<-cm4 ys]
   refine ch9 fun y hy=> ?_
   obtain ⟨i,_,rfl⟩:=cf5.mp (h.mem_iff.mp hy);rfl
 · have:=h.map aw6;rw[ch2] at this
   have e:xs.map (aw6∘V.int)=xs:=by
     conv=>rhs;rw[<-cm4 xs]
     rfl
   rw[e] at this;exact this
end L2
namespace Mth
theorem af2 {fs:List Int}{u v x:Int}(hu:0<=u)(hv:0<=v)(h:u≠v):G6 (fs.set v.toNat x) u=G6 fs u:=by
 unfold G6;rw[cj2 (by omega)]
theorem an6 {fs:List Int}{v x:Int}(h:v.toNat < fs.length):G6 (fs.set v.toNat x) v=some x:=by
 unfold G6;rw[ci4 h]
theorem J5 {ts:List Int}{i:Nat}(h:i < ts.length):ts.getD i 0=ts[i]:=by
 rw[ch5,cc6 h];rfl
theorem R6 {ts:List Int}(nd:ts.Nodup){i j:Nat}(hi:i < ts.length)(hj:j < ts.length)(h:i≠j):ts.getD i 0≠ts.getD j 0:=by
 rw[J5 hi,J5 hj]
 rcases Nat.lt_or_gt_of_ne h with z|z
 · exact ch7.mp (ce2.mp nd) i j hi hj z
 · exact fun e=>ch7.mp (ce2.mp nd) j i hj hi z e.symm
theorem bi3 {ts fs qs:List Int}{k L:Nat}(hL:1<=L)(hb:k+L<=ts.length)(h1:(ts.take k).map (G6 fs)=qs.map some)(hq:qs.Perm (ts.take k))
   (h2:∀j,j < L->G6 fs (ts.getD (k+j) 0)=some (ts.getD (k+(j+1)%L) 0)):∃qs':List Int,qs'.Perm (ts.take (k+L))/\(ts.take (k+L)).map (G6 fs)=qs'.map some:=by
 have hT:((ts.drop k).take L).length=L:=by rw[ce4,cf6];omega
 have hTj:∀j,j < L->((ts.drop k).take L)[j]? =some (ts.getD (k+j) 0):=fun j hj=>by
   rw[cf3 hj,List.getElem?_drop,J5 (by omega),cc6 (by omega)]
 have e:((ts.drop k).take L).map (G6 fs)=(((ts.drop k).take L).drop 1++((ts.drop k).take L).take 1).map some:=by
   refine cl2 fun j=> ?_
   by_cases hj:j < L
   · rw[ce3,hTj j hj,ce3];show some (G6 fs (ts.getD (k+j) 0))=_;rw[h2 j hj]
     by_cases hj1:j+1 < L
     · rw[cg7 (by rw[cf6,hT];omega),List.getElem?_drop,ck5 1 j,hTj (j+1) hj1,Nat.mod_eq_of_lt hj1];rfl
     · have hjL:j+1=L:=by omega
       rw[cg5 (by rw[cf6,hT];omega),cf6,hT,hjL,Nat.mod_self]
       have:j - (L - 1)=0:=by omega
       rw[this,cf3 (by omega),hTj 0 (by omega)];rfl
   · rw[cg9 (by rw[cc4,hT];omega),cg9];rw[cc4,cc7,cf6,ce4 (i:=1),hT];omega
 refine ⟨qs++(((ts.drop k).take L).drop 1++((ts.drop k).take L).take 1),?_,?_⟩
 · rw[List.take_add];refine List.Perm.append hq ?_;refine List.perm_append_comm.trans ?_;rw[cj9]
 · rw[List.take_add,ce6,ce6,h1,e]
theorem ab6 {ls:List Int}(h:∀x∈ls,1<=x)(i:Nat):0<=(ls.take i).sum/\(ls.take i).sum<=ls.sum:=by
 have nn:∀l:List Int,(∀x∈l,1<=x)->0<=l.sum:=by
   intro l
   induction l with
   |nil=>intro _;simp
   |cons a r ih=>
    intro h;have h1:=h a cd0
    have h2:=ih fun x hx=>h x (cc9 _ hx)
    rw[cm5];omega
 refine ⟨nn _ fun x hx=>h x (ch8 hx),?_⟩
 have e:ls.sum=(ls.take i).sum+(ls.drop i).sum:=by
   rw[<-List.sum_append,cj9]
 have:=nn (ls.drop i) fun x hx=>h x (ck3 hx)
 omega
theorem aw7 {ls:List Int}(h:∀x∈ls,1<=x):(ls.length:Int)<=ls.sum:=by
 induction ls with
 |nil=>simp
 |cons a r ih=>
  have h1:=h a cd0
  have h2:=ih fun x hx=>h x (cc9 _ hx)
  rw[cm5,cd6];omega
theorem ad1 (ls:List Int)(x:Int):(ls++[x]).sum=ls.sum+x:=by
 rw[List.sum_append];simp
end Mth
namespace L2
open PySem PySem.Spec PyProof.Rows
theorem j3.free {a l:Addr}{H H':Hp}(k:j3 a H H')(h:H' l=none)(n:l≠a):H l=none:=by
 cases e:H l with
 |none=>rfl
 |some o=>have:=k l o e n;rw[h] at this;cases this
theorem c9.kb {a:Addr}{H H1 H2:Hp}(s:c9 H H1)(k:j3 a H1 H2)(h:H a=none):c9 H H2:=fun b o e=>k b o (s b o e) (i7 e h)
def X3 (H:Hp)(as:List Addr)(rs:List (List Int)):Prop:=as.length=rs.length/\∀(j:Nat) a r,as[j]? =some a->rs[j]? =some r->H a=some (.lst (r.map V.int))
theorem ab7 {a b:List Int}(h:a.map V.int=b.map V.int):a=b:=(List.map_inj_right (fun x y (h:V.int x=V.int y)=>V.int.inj h)).mp h
end L2
namespace Mth
theorem bi4 {p:List Int}(t:E6 p){j:Nat}(h:j < p.length):0<=p.getD j 0/\p.getD j 0 < p.length:=by
 rw[J5 h];exact ⟨t.lo _ (ce7 h),t.hi _ (ce7 h)⟩
end Mth
namespace L2
open PySem PySem.Spec PyProof.Rows
def Ite (K:PySem.W.Frag)(a:Addr):It:=
 ⟨fun i H=>∃xs x,j4 K H a xs/\xs[i]? =some x,fun i H v H'=>∃x t,(∀xs,j4 K H a xs->xs[i]? =some x)/\H t=none/\v= .ref t/\H'=c8 H t (.tup [.int (i:Int),x]),fun i H=>∃xs,j4 K H a xs/\xs.length<=i⟩
theorem bd0 {P:Program}{w:World}{K:PySem.W.Frag}{elts:List Expr}{x1}{pos:Pos}(a e it:Addr)(hne:e≠it):
   av1 P w K (.Tuple elts x1 pos) (Ite K a) [e,it] e (fun i h=>(∃old,IsEnum h e it i old)/\h.IsListIter it a i) where
 mem:=by simp
 obj:=fun i h st b hb=>by
   obtain ⟨⟨old,he⟩,⟨o,ho,c,d⟩⟩:=st
   have hb:b=e\/b=it:=by simpa using hb
   rcases hb with rfl|rfl
   · exact ⟨_,he,fun v z=>by cases z⟩
   · exact ⟨o,ho,fun v z=>by rw[d] at z;cases z⟩
 keep:=fun i h h' st k=>⟨let ⟨old,he⟩:=st.1;⟨old,k e (by simp) _ he⟩,st.2.at fun o q=>k it (by simp) o q⟩
 item:=by
   intro X hP hw hK hc i pins s σ H E I hf st hg;subst hP hw hK;obtain ⟨⟨old,he⟩,hit⟩:=st;obtain ⟨xs,x,hq,hx⟩:=hg;obtain ⟨its,rv,p,hz⟩:=I.list hq;obtain ⟨u,hu,ru⟩:=rv.get hx;obtain ⟨f0,f1,f2,f3,f4,f5⟩:=hf e (by simp);obtain ⟨g0,g1,g2,g3,g4,g5⟩:=hf it (by simp)
   refine wpAny_pyNext_enum_item he hit p.isList (x:=u) (by simpa using hu) hne fun h' he' hit' ht' hz' hk'=> ?_
   refine ⟨_,rfl,wpAny_letOwnedTupleGo_enum he' fun h2 he2 hs2=> ?_⟩;have hs2:Heap.SameBut e h' h2:=hs2;have eT:e≠s.heap.objs.size:=ce1 (Heap.lt_size he);have ht2:h2.get? s.heap.objs.size=some {cls:= .type "tuple",data:= .seq #[.int i s.toks,u]}:=hs2.extBut _ _ eT.symm ht'
   have kk:∀b o,b≠e->b≠it->s.heap.get? b=some o->h2.get? b=some o:=fun b o b1 b2 q=>hs2.extBut b o b1 (hk' b o b1 b2 q)
   have hn:H s.heap.objs.size=none:=I.hok.fresh (cd5 _)
   have nT:∀b u',H b=some u'->b≠s.heap.objs.size:=fun b u' q=>i7 q hn
   have ne:∀b u',H b=some u'->b≠e/\b≠it:=fun b u' q=>⟨fun z=>(by rw[z,f0] at q;cases q),fun z=>(by rw[z,g0] at q;cases q)⟩
   have I1:i8 X pins σ (c8 H s.heap.objs.size (.tup [.int (i:Int),x])) {s with heap:=h2,gens:=s.gens,drawn:=s.drawn,toks:=s.toks+1}:=by
     refine I.step (ch:=[e,it]) (fun b hb=> ?_) (fun b o _ _ hc q _=>kk b o (fun z=>hc (by simp [z])) (fun z=>hc (by simp [z])) q) (fun b o _ _ hc q _=>⟨o.slots,kk b o (fun z=>hc (by simp [z])) (fun z=>hc (by simp [z])) q⟩)
       (fun b o hc q n=>by rw[i6 (ce1 (Heap.lt_size q))];exact n) (fun b o hc q=>⟨o,kk b o (fun z=>hc (by simp [z])) (fun z=>hc (by simp [z])) q⟩)
       (fun b ys q=>by rw[i6 (nT b _ q)];exact q) (fun b o ys q=>by rw[i6 (nT b _ q)];exact q) (fun b ps q=>⟨#[],by rw[i6 (nT b _ q),q];simp⟩) (fun m hm=> ?_) (fun b u' q=> ?_) I.bare
     · have hb:b=e\/b=it:=by simpa using hb
       rcases hb with rfl|rfl
       · exact ⟨f3,f1,f4,f5⟩
       · exact ⟨g3,g1,g4,g5⟩
     · obtain ⟨o,es,ep,ho,r⟩:=hm;exact ⟨o,es,ep,kk _ o (Ne.symm f1) (Ne.symm g1) ho,r⟩
     · by_cases hb:b=s.heap.objs.size
       · subst hb;rw[c7] at q;cases q;exact ⟨by show 2<=sizeLine;decide,[.int i s.toks,u],.cons ⟨_,rfl⟩ (.cons ru .nil),⟨_,ht2,rfl,0,rfl⟩⟩
       · rw[i6 hb] at q
         refine (I.hok b u' q).stay (fun c v hc q'=> ?_) (fun c q'=>by rw[i6 (nT c _ q')];exact q') fun c ys q'=>by rw[i6 (nT c _ q')];exact q'
         rcases hc with z|z
         · rw[z] at q' ⊢;exact kk b v (ne b _ q).1 (ne b _ q).2 q'
         · exact kk c v (ne c _ z).1 (ne c _ z).2 q'
   refine ⟨.ref s.heap.objs.size,_,I1,rfl,⟨x,s.heap.objs.size,fun ys hy=>by rw[I.list_inj hy hq];exact hx,hn,rfl,rfl⟩,⟨⟨u,?_⟩,?_⟩,fun b hb=> ?_⟩
   · have:((i+1:Nat):Int)=(i:Int)+1:=by push_cast;rfl
     rw[this];exact he2
   · exact hit'.extBut hs2.extBut hne.symm
   · have hb:b=e\/b=it:=by simpa using hb
     rcases hb with rfl|rfl
     · rw[i6 eT];exact f0
     · obtain ⟨o,ho,_⟩:=hit;rw[i6 (ce1 (Heap.lt_size ho))];exact g0
 done:=by
   intro X hP hw hK hc i pins s σ H E I hf st hg;subst hP hw hK;obtain ⟨⟨old,he⟩,hit⟩:=st;obtain ⟨xs,hq,hx⟩:=hg;obtain ⟨its,rv,p,hz⟩:=I.list hq;obtain ⟨g0,g1,g2,g3,g4,g5⟩:=hf it (by simp);have hl:=rv.length
   exact wpAny_pyNext_enum_end (I.ok.hd hc) he hit p.isList (by simp;omega) fun h' eb=>⟨rfl,I.turned (t':=s.toks) (fun b o hb q=>eb b o hb q) g0 g1 g3 g4 g5⟩
 self:=fun _ _ _ _ _ st h=>let ⟨_,he⟩:=st.1;wpAny_pyIter_enum he h
theorem aj4:bootBuiltins "enumerate"=some (.type "enumerate"):=by decide+kernel
section
variable {X:Cx} {l:Expr} {ta:TA} {p pos:Pos} {elts:List Expr} {x1:Nat} {tpos:Pos}
def bw9 (K:PySem.W.Frag)(ta:TA):TI:=fun σ H R=>ta σ H fun vs H1=>∃a,vs=[.ref a]/\(∃xs,j4 K H1 a xs)/\R (Ite K a) H1
theorem bn9 (hm:X.mg "enumerate"=none)(ha:PA X [l] ta)(hg:Gl X "enumerate":=by rfl)(hs:starEach [l] X.env=[(false,eval l X.env)]:=by rfl):PI X (.Tuple elts x1 tpos) (.Call (.Name "enumerate" p) [l] [] pos) (bw9 X.K ta):=by
 intro pins s σ H R I h;refine Call_ (O3 I hg hm aj4 (PyProof.Rows.callWith_type1 (v0 (ha pos pins s σ H _ I h) fun us s1 ⟨vs,H1,I1,r1,q1⟩=> ?_) hs rfl));obtain ⟨a,e,⟨xs,hq⟩,q⟩:=q1;subst e;obtain ⟨u,rfl,rx⟩:=L8 r1;cases rx;obtain ⟨its,rv,pl,hz⟩:=I1.list hq
 refine call_enumerate_list pl.isList fun h' he hit hz' hk=> ?_
 refine wpAny_pyIter_enum he ?_;have I2:i8 X pins σ H1 {s1 with heap:=h',toks:=s1.toks}:=I1.kept (t':=s1.toks) hk;refine ⟨s1.heap.objs.size+1,[s1.heap.objs.size+1,s1.heap.objs.size],_,_,H1,rfl,I2,bd0 a (s1.heap.objs.size+1) s1.heap.objs.size (Nat.succ_ne_self _),⟨⟨.none,he⟩,hit⟩,fun b hb=> ?_,q⟩
 have hb:b=s1.heap.objs.size+1\/b=s1.heap.objs.size:=by simpa using hb
 rcases hb with rfl|rfl
 · exact I1.fpOk (by omega) (I1.hok.fresh (by omega))
 · exact I1.fpOk (by omega) (I1.hok.fresh (by omega))
end
theorem bi5 {K:PySem.W.Frag}{a:Addr}{xs:List V}{g:TG}{tb:TS}{D:S3}{σ:St}{H:Hp}(Pv:Nat->St->Hp->Prop)(h0:Pv 0 σ H)(hl:∀i σ H,i<=xs.length->Pv i σ H->j4 K H a xs)
   (hs:∀i x σ H t,xs[i]? =some x->Pv i σ H->H t=none->g (.ref t) σ (c8 H t (.tup [.int (i:Int),x])) fun σ2 H2=>tb {D with nx:=Pv (i+1),ct:=Pv (i+1),bk:=D.nx} σ2 H2) (hd:∀σ H,Pv xs.length σ H->D.nx σ H):
   ∃W:Nat->Nat->St->Hp->Prop,(∃m,W 0 m σ H)/\∀i m σ H,W i m σ H->
    ((Ite K a).stop i H/\D.nx σ H)\/((Ite K a).go i H/\∃N:St->Hp->Prop,(∀σ' H',N σ' H'->∃m',m' < m/\W (i+1) m' σ' H')/\∀x H',(Ite K a).yld i H x H'->g x σ H' fun σ2 H2=>tb {D with nx:=N,ct:=N,bk:=D.nx} σ2 H2):=by
 refine ⟨fun i m σ H=>m=xs.length - i/\i<=xs.length/\Pv i σ H,⟨xs.length,by simp,cg0 _,h0⟩,?_⟩;rintro i m σ H ⟨rfl,hi,p⟩;have q:=hl i σ H hi p
 by_cases hlt:i < xs.length
 · refine .inr ⟨⟨xs,xs[i],q,by simp [hlt]⟩,Pv (i+1),fun σ' H' p'=>⟨xs.length - (i+1),by omega,rfl,hlt,p'⟩,fun x H' y=> ?_⟩;obtain ⟨x',t,y1,y2,e1,e2⟩:=y;subst e1 e2;exact hs i x' σ _ t (y1 xs q) p y2
 · have e:i=xs.length:=by omega
   subst e;exact .inl ⟨⟨xs,q,cd5 _⟩,hd σ H p⟩
end L2
namespace Mth
def nx (p:List Int)(x:Int):Int:=p.getD x.toNat 0
def it (p:List Int):Nat->Int->Int
 |0,x=>x
 |i+1,x=>nx p (it p i x)
def In (p:List Int)(x:Int):Prop:=0<=x/\x < p.length
theorem bx0 {p:List Int}(t:E6 p){x:Int}(h:In p x):In p (nx p x):=bi4 t (j:=x.toNat) (by have:=h.1;have:=h.2;omega)
theorem bt8 {p:List Int}(t:E6 p){x y:Int}(hx:In p x)(hy:In p y)(h:nx p x=nx p y):x=y:=by
 have a1:=hx.1;have a2:=hx.2;have b1:=hy.1;have b2:=hy.2
 by_cases e:x.toNat=y.toNat
 · omega
 · exact absurd h (R6 t.nd (i:=x.toNat) (j:=y.toNat) (by omega) (by omega) e)
theorem X4 {p:List Int}(t:E6 p){x:Int}(h:In p x):∀i,In p (it p i x)
 |0=>h
 |i+1=>bx0 t (X4 t h i)
theorem G9 (p:List Int)(x:Int):∀i j,it p (i+j) x=it p i (it p j x)
 |0,j=>by rw[Nat.zero_add];rfl
 |i+1,j=>by
  rw[Nat.add_right_comm];show nx p (it p (i+j) x)=nx p (it p i (it p j x));rw[G9 p x i j]
theorem an7 {p:List Int}(t:E6 p){x y:Int}(hx:In p x)(hy:In p y):∀i,it p i x=it p i y->x=y
 |0,h=>h
 |i+1,h=>an7 t hx hy i (bt8 t (X4 t hx i) (X4 t hy i) h)
structure M2 (p:List Int)(x:Int)(L:Nat):Prop where
 pos:0 < L
 back:it p L x=x
 least:∀i,0 < i->i < L->it p i x≠x
theorem M2.uniq {p:List Int}{x:Int}{L M:Nat}(h:M2 p x L)(g:M2 p x M):L=M:=by
 rcases Nat.lt_trichotomy L M with z|z|z
 · exact absurd h.back (g.least L h.pos z)
 · exact z
 · exact absurd g.back (h.least M g.pos z)
theorem bd1 {p:List Int}{x:Int}{L:Nat}(h:it p L x=x):∀q,it p (L*q) x=x
 |0=>by rw[Nat.mul_zero];rfl
 |q+1=>by rw[Nat.mul_succ,G9,h,bd1 h q]
theorem an8 {p:List Int}{x:Int}{L:Nat}(h:it p L x=x)(i:Nat):it p (i%L) x=it p i x:=by
 conv=>rhs;rw[<-Nat.div_add_mod i L,ck5,G9,bd1 h]
theorem bo0 {p:List Int}{x:Int}{L:Nat}(h:it p L x=x){a b:Nat}(e:a%L=b%L):it p a x=it p b x:=by
 rw[<-an8 h a,e,an8 h]
theorem M2.shift {p:List Int}(t:E6 p){x:Int}{L:Nat}(hx:In p x)(h:M2 p x L)(j:Nat):M2 p (it p j x) L:=by
 refine ⟨h.pos,?_,fun i i0 i1 e=> ?_⟩
 · rw[<-G9,ck5,G9,h.back]
 · rw[<-G9,ck5,G9] at e;exact h.least i i0 i1 (an7 t (X4 t hx i) hx j e)
def y9 (p:List Int)(x:Int)(L:Nat):List Int:=(cg1 L).map fun i=>it p i x
theorem C5 (p:List Int)(x:Int)(L:Nat):(y9 p x L).length=L:=by unfold y9;rw[cc4,cj1]
theorem bd2 {p:List Int}{x:Int}{L j:Nat}(h:j < L):(y9 p x L)[j]? =some (it p j x):=by
 unfold y9;rw[ce3,List.getElem?_range h];rfl
theorem R7 {p:List Int}{x:Int}{L j:Nat}(h:j < L):(y9 p x L).getD j 0=it p j x:=by
 rw[ch5,bd2 h];rfl
theorem L6 {p:List Int}{x y:Int}{L:Nat}:y∈y9 p x L↔∃j,j < L/\y=it p j x:=by
 unfold y9;rw[cf5];constructor
 · rintro ⟨j,hj,rfl⟩;exact ⟨j,cf9.mp hj,rfl⟩
 · rintro ⟨j,hj,rfl⟩;exact ⟨j,cf9.mpr hj,rfl⟩
theorem aw8 (p:List Int)(x:Int)(m:Nat):y9 p x (m+1)=y9 p x m++[it p m x]:=by
 unfold y9;rw[cm1,ce6];rfl
theorem O1 {p:List Int}(t:E6 p){x:Int}(hx:In p x){m:Nat}(h:∀i,0 < i->i < m->it p i x≠x):(y9 p x m).Nodup:=by
 unfold y9;rw[ce2,cj6];refine List.Pairwise.imp_of_mem (fun {a b} ha hb hlt e=> ?_) List.pairwise_lt_range;have hb:=cf9.mp hb
 have e2:b=a+(b - a):=by omega
 rw[e2,G9] at e;exact h (b - a) (by omega) (by omega) (an7 t (X4 t hx _) hx a e.symm)
theorem bd3:∀(n:Nat) (l:List Nat),l.Nodup->(∀x∈l,x < n)->l.length<=n:=by
 intro n
 induction n with
 |zero=>
  intro l _ hb
  cases l with
  |nil=>exact cd5 _
  |cons a r=>exact absurd (hb a cd0) (Nat.not_lt_zero _)
 |succ n ih=>
  intro l nd hb
  by_cases hn:n∈l
  · obtain ⟨s,u,rfl⟩:=List.append_of_mem hn;have pm:(s++n::u).Perm (n::(s++u)):=List.perm_middle;obtain ⟨h1,h2⟩:=cg3.mp (pm.nodup_iff.mp nd)
    have:=ih (s++u) h2 fun x hx=>by
      have hx':=hb x (pm.mem_iff.mpr (cc9 _ hx))
      have:x≠n:=fun e=>h1 (e▸hx)
      omega
    rw[pm.length_eq,cd6];omega
  · exact Nat.le_succ_of_le (ih l nd fun x hx=>by
      have h1:=hb x hx
      have:x≠n:=fun e=>hn (e▸hx)
      omega)
theorem Z7 {p:List Int}{r:List Int}(nd:r.Nodup)(h:∀x∈r,In p x):r.length<=p.length:=by
 have:=bd3 p.length (r.map cj7) (by
   rw[ce2,cj6];refine List.Pairwise.imp_of_mem (fun {a b} ha hb hne z=>hne ?_) (ce2.mp nd);have h1:=(h a ha).1;have h2:=(h b hb).1
   omega) fun x hx=>by
     obtain ⟨y,hy,rfl⟩:=cf5.mp hx;have h1:=(h y hy).1;have h2:=(h y hy).2;omega
 rw[cc4] at this;exact this
theorem T2 {p:List Int}(t:E6 p){x:Int}(hx:In p x){L:Nat}:∀y∈y9 p x L,In p y:=fun y hy=>by
 obtain ⟨j,_,rfl⟩:=L6.mp hy;exact X4 t hx j
theorem af3 {p:List Int}(t:E6 p){x:Int}(hx:In p x){m:Nat}(h:∀i,0 < i->i < m->it p i x≠x):m<=p.length:=by
 have:=Z7 (O1 t hx h) (T2 t hx);rw[C5] at this;exact this
theorem as0 {p:List Int}{x y:Int}{L:Nat}(h:M2 p x L)(hy:y∈y9 p x L)(i:Nat):it p i y∈y9 p x L:=by
 obtain ⟨j,hj,rfl⟩:=L6.mp hy;refine L6.mpr ⟨(i+j)%L,Nat.mod_lt _ h.pos,?_⟩;rw[an8 h.back,G9]
theorem bd4 {p:List Int}{x y z:Int}{L M:Nat}(h:M2 p x L)(g:M2 p y M)(h1:z∈y9 p x L)(h2:z∈y9 p y M):y∈y9 p x L:=by
 obtain ⟨j,hj,rfl⟩:=L6.mp h2;have:=as0 h h1 (M - j);rw[<-G9,show M - j+j=M by omega,g.back] at this;exact this
open Classical in
noncomputable def af4 (p:List Int)(x:Int):Nat:=if h:∃L,M2 p x L then Classical.choose h else 0
theorem bi6 {p:List Int}{x:Int}{L:Nat}(h:M2 p x L):af4 p x=L:=by
 have hx:∃L,M2 p x L:=⟨L,h⟩;unfold af4;rw[dif_pos hx];exact (Classical.choose_spec hx).uniq h
noncomputable def K2 (p:List Int):Nat->List (List Int)
 |0=>[]
 |i+1=>if (i:Int)∈(K2 p i).flatten then K2 p i else K2 p i++[y9 p i (af4 p i)]
structure G5 (p:List Int)(i:Nat)(rs:List (List Int)):Prop where
 ring:∀r∈rs,∃x L,In p x/\M2 p x L/\r=y9 p x L/\(∀y∈r,x<=y)/\x < i
 nd:rs.flatten.Nodup
 all:∀u:Int,0<=u->u < i->u∈rs.flatten
 ord:rs.Pairwise fun r s=>r.getD 0 0 < s.getD 0 0
 eq:rs=K2 p i
theorem aw9 (p:List Int):G5 p 0 []:=⟨fun r hr=>by simp at hr,cj4,fun u h1 h2=>by omega,List.Pairwise.nil,rfl⟩
theorem ax0 {p:List Int}{i:Nat}{rs:List (List Int)}(h:G5 p i rs)(hi:(i:Int)∈rs.flatten):G5 p (i+1) rs:=by
 refine ⟨fun r hr=> ?_,h.nd,fun u h1 h2=> ?_,h.ord,?_⟩
 · obtain ⟨x,L,a,b,c,d,e⟩:=h.ring r hr;exact ⟨x,L,a,b,c,d,by omega⟩
 · by_cases e:u=i
   · subst e;exact hi
   · exact h.all u h1 (by omega)
 · show rs=if (i:Int)∈(K2 p i).flatten then K2 p i else K2 p i++[y9 p i (af4 p i)]
   rw[<-h.eq,if_pos hi]
theorem ab8 {p:List Int}{i:Nat}{rs:List (List Int)}(h:G5 p i rs){L:Nat}(hL:M2 p i L)(hi:(i:Int)∉rs.flatten):∀y∈y9 p i L,y∉rs.flatten:=by
 intro y hy hm;obtain ⟨r,hr,hyr⟩:=ck0.mp hm;obtain ⟨x,M,a,b,rfl,d,e⟩:=h.ring r hr;exact hi (ck0.mpr ⟨_,hr,bd4 b hL hyr hy⟩)
theorem ax1 {p:List Int}(t:E6 p){i:Nat}{rs:List (List Int)}(h:G5 p i rs)(hx:In p i){L:Nat}(hL:M2 p i L)(hi:(i:Int)∉rs.flatten):G5 p (i+1) (rs++[y9 p i L]):=by
 have fr:=ab8 h hL hi;refine ⟨fun r hr=> ?_,?_,fun u h1 h2=> ?_,?_,?_⟩
 · rcases cd2.mp hr with z|z
   · obtain ⟨x,L,a,b,c,d,e⟩:=h.ring r z;exact ⟨x,L,a,b,c,d,by omega⟩
   · have:r=y9 p i L:=by simpa using z
     subst this;refine ⟨i,L,hx,hL,rfl,fun y hy=> ?_,by omega⟩;have y0:=(T2 t hx y hy).1
     by_cases hlt:y < i
     · exact absurd (h.all y y0 hlt) (fr y hy)
     · omega
 · rw[ci0,ci9];refine List.nodup_append.mpr ⟨h.nd,O1 t hx fun j j0 j1=>hL.least j j0 j1,fun a ha b hb e=> ?_⟩;subst e;exact fr a hb ha
 · rw[ci0,ci9]
   by_cases e:u=i
   · subst e;exact cd4 _ (L6.mpr ⟨0,hL.pos,rfl⟩)
   · exact cf8 _ (h.all u h1 (by omega))
 · refine List.pairwise_append.mpr ⟨h.ord,List.pairwise_singleton _ _,fun r hr s hs=> ?_⟩
   have:s=y9 p i L:=by simpa using hs
   subst this;obtain ⟨x,M,a,b,rfl,d,e⟩:=h.ring r hr;rw[R7 b.pos,R7 hL.pos];exact e
 · show rs++[y9 p i L]=if (i:Int)∈(K2 p i).flatten then K2 p i else K2 p i++[y9 p i (af4 p i)]
   rw[<-h.eq,if_neg hi,bi6 hL]
def bl4 (p:List Int)(k:Int)(t:List Int):Prop:=t.length=p.length/\∀x,In p x->∃L,M2 p x L/\G6 t x=some (it p (k%(L:Int)).toNat x)
theorem ax2 {p:List Int}{x:Int}{L:Nat}(h:M2 p x L)(k:Int)(j:Nat):it p (((j:Int)+k)%(L:Int)).toNat x=it p (k%(L:Int)).toNat (it p j x):=by
 rw[<-G9];refine bo0 h.back ?_
 have hL:(0:Int) < (L:Int):=by have:=h.pos;omega
 have a1:=ch1 ((j:Int)+k) (show (L:Int)≠0 by omega);have b1:=ch1 k (show (L:Int)≠0 by omega)
 have:(((((j:Int)+k)%(L:Int)).toNat%L:Nat):Int)=((((k%(L:Int)).toNat+j)%L:Nat):Int):=by
   rw[cl5,cl5,Int.toNat_of_nonneg a1,Int.natCast_add,Int.toNat_of_nonneg b1,Int.emod_emod,Int.emod_add_emod,Int.add_comm]
 exact Int.ofNat.inj this
end Mth
namespace L2
open PySem PySem.Spec PyProof.Rows
def bx1 (i j:Int):Prop:=0 < j/\j<=1000000000000000000000000000000
theorem bi7 {X:Cx}:G2 X (binaryOp .FloorDiv) (rI bx1 fun i j=> .int (i/j)):=opI fun i j _ _ _ _ _ hc q=>by
 have hp:Builtin.divisionGoesByPylong i j=false:=by
   refine PyProof.noPylong_of_log2 ?_;obtain ⟨h1,h2⟩:=hc;have:j.natAbs < 2^9000:=ci3 (show j.natAbs<=1000000000000000000000000000000 by omega) (by decide+kernel);exact (ck1 (by omega)).mpr this
 refine floordiv_int (by have:=hc.1;omega) ?_ (.inl hp);rw[ck8 i (by have:=hc.1;omega)];exact q
end L2
namespace Mth
theorem bo1 {n c:Int}(hn:1<=n)(hc:0<=c):∃mx,(if (if c < n then c else n) > 1 then (if c < n then c else n) else (1:Int))=mx/\1<=mx/\mx<=n:=by
 refine ⟨_,rfl,?_⟩
 split<;>split at* <;>omega
end Mth
namespace L2
open PySem PySem.Spec PyProof.Rows
theorem as2:bootBuiltins "tuple"=some (.type "tuple"):=by decide+kernel
theorem Z8:bootBuiltins "str"=some (.type "str"):=by decide+kernel
end L2
namespace L2
open PySem PySem.Spec PyProof.Rows
theorem B8.hide {P:Program}{w:World}{H:Hp}{h:Heap}{as:List Addr}(x:B8 P w H h)(hn:∀b∈as,H b=none):B8 P w H (PySem.W.hideAll h as):=fun a o e=>
 (x a o e).stay (fun b u hb q=>PySem.W.hideAll_get _ q fun hm=>by
   have:=hn b hm
   rcases hb with rfl|hb
   · rw[e] at this;cases this
   · rw[hb] at this;cases this) (fun _ q=>q) fun _ _ q=>q
def Q9 (P:Program)(w:World):S6:=fun outer H s E e s'=>
 ∃(a t C:Addr) (vs:List Value) (B:Heap) (H':Hp),e= .ref a/\s'.os=s.os/\AllBare s'.gens/\Un (B2 outer) [] H H' s.heap s'.heap/\B8 P w H' B/\
  (∀b o,s.heap.get? b=some o->H b=none->b∉B2 outer->B.get? b=some o)/\(∀b o,s.heap.get? b=some o->b∉B2 outer->∃o',B.get? b=some o')/\
  Heap.FlyingW B outer a (.ref C) (.ref t) s'.heap/\s'.heap.TupAt t vs/\B.get? t=none/\E (.ref C) none H'
theorem an9 {fs:List Addr}{H0 H1:Hp}{h0 h1 h2 B:Heap}(u:Un fs [] H0 H1 h0 h1)(kb:∀b o,h0.get? b=some o->H0 b=none->b∉fs->B.get? b=some o)(tb:∀b o,h0.get? b=some o->b∉fs->∃o',B.get? b=some o')
   (st:B.StaysIn h2) (up:h1.UpToSlots h2) (fr:∀b∈fs,∀o,h1.get? b=some o->∀vs,o.data≠.fields vs):Un fs [] H0 H1 h0 h2 where
 keep:=fun b o q n hb _=>st b o (kb b o q n hb)
 slot:=fun b o q n hb hx=>by
   obtain ⟨sl,e⟩:=u.slot b o q n hb hx;obtain ⟨sl2,e2⟩:=up b _ e (fr b hb _ e);exact ⟨sl2,e2⟩
 free:=u.free
 there:=fun b o q hx=>by
   by_cases hb:b∈fs
   · obtain ⟨o',e⟩:=u.there b o q hx;obtain ⟨sl,e2⟩:=up b o' e (fr b hb _ e);exact ⟨_,e2⟩
   · obtain ⟨o',e⟩:=tb b o q hb;exact ⟨o',st b o' e⟩
 tups:=u.tups
 frzs:=u.frzs
 tbls:=u.tbls
def bd5 (X:Cx)(E:XK):Prop:=∀(pins:List (Addr×Obj)) (σ:St) (H:Hp) (s:Shared) (h':Heap) (e C:Addr) (vs:List Value),i8 X pins σ H s->Heap.MadeExcOf s.heap h' e (.ref C) vs->E (.ref C) none H->X.xe (.ref e) {s with heap:=h'}
theorem ao0 {X:Cx}{pins:List (Addr×Obj)}{σ:St}{H:Hp}{s:Shared}(I:i8 X pins σ H s):∀b∈B2 X.stack,∀o,s.heap.get? b=some o->∀vs,o.data≠.fields vs:=fun b hb o ho=>by
 obtain ⟨_,o',ho',hn⟩:=I.stack.mem hb;rw[ho] at ho';cases ho';exact hn
section
variable {P:Program} {w:World} {K:PySem.W.Frag} {mg:Str->Option Value} {base:Heap} {N:List Str} {qual:Str} {scope:Scope} {f:Addr} {cd:Value} {A:Around} {outer:List Env} {s₀:Shared} {H₀:Hp} {E E':XK}
theorem O6 {pins:List (Addr×Obj)}{σ:St}{H:Hp}{s:Shared}(I:i8 (U7 (Q9 P w) P w K mg base N qual scope f cd A outer s₀ H₀ E) pins σ H s){b:Addr}{o:Obj}(h:s₀.heap.get? b=some o)(hb:b∉B2 outer):
   b∉B2 (envOfC qual scope s₀.heap.objs.size f cd::outer):=fun hm=>by
 unfold B2 at hm hb;rw[cg2] at hm;have hf:(envOfC qual scope s₀.heap.objs.size f cd).frame=some s₀.heap.objs.size:=rfl;rw[hf] at hm
 rcases ce0.mp hm with z|z
 · have:=Heap.lt_size h;rw[z] at this;exact absurd this (cg6 _)
 · exact hb z
theorem aj5:bd5 (U7 (Q9 P w) P w K mg base N qual scope f cd A outer s₀ H₀ E) E:=by
 intro pins σ H s h' e C vs I hx hE;show wpAny (model P w) _ (leaving _ (.ref e)) _ _ _
 have hin:∀env∈(envOfC qual scope s₀.heap.objs.size f cd::outer),∀b,env.frame=some b->b∈B2 (envOfC qual scope s₀.heap.objs.size f cd::outer):=fun env he b hb=>ck7.mpr ⟨env,he,hb⟩
 have hst:s.heap.FunFrames base (envOfC qual scope s₀.heap.objs.size f cd::outer):=I.stack;have hsf:∀b∈B2 (envOfC qual scope s₀.heap.objs.size f cd::outer),H b=none:=I.stkFree;have hub:Un (B2 outer) [] H₀ H s₀.heap s.heap:=I.base
 refine wpAny_leaves_madeW (base:=PySem.W.hideAll s.heap (B2 (envOfC qual scope s₀.heap.objs.size f cd::outer))) (h:=s.heap) I.ok.frames rfl (fun b o q=>PySem.W.of_hideAll _ q) (PySem.W.funFrames_hide hst hin) hx fun h2 t fl tup tn up=> ?_
 have up':s.heap.UpToSlots h2:=(Heap.UpToSlots.of_keeps hx.keeps).trans up
 have kb:∀b o,s₀.heap.get? b=some o->H₀ b=none->b∉B2 outer->(PySem.W.hideAll s.heap (B2 (envOfC qual scope s₀.heap.objs.size f cd::outer))).get? b=some o:=fun b o q n hb=>
   PySem.W.hideAll_get _ (hub.keep b o q n hb (by simp)) (O6 I q hb)
 have tb:∀b o,s₀.heap.get? b=some o->b∉B2 outer->∃o',(PySem.W.hideAll s.heap (B2 (envOfC qual scope s₀.heap.objs.size f cd::outer))).get? b=some o':=fun b o q hb=>by
   obtain ⟨o',e'⟩:=hub.there b o q (by simp);exact ⟨o',PySem.W.hideAll_get _ e' (O6 I q hb)⟩
 refine ⟨e,t,C,vs,_,H,rfl,I.os,I.bare,an9 hub kb tb fl.1 up' (fun b hb o ho=> ?_),I.hok.hide hsf,kb,tb,fl,tup,tn,hE⟩;exact ao0 I b (by show b∈B2 (envOfC qual scope s₀.heap.objs.size f cd::outer);unfold B2 at hb ⊢;rw[cg2];exact cc9 _ hb) o ho
theorem O7 (imp:∀c d H,E c d H->E' c d H):Z0 (Q9 P w) (U7 (Q9 P w) P w K mg base N qual scope f cd A outer s₀ H₀ E') E:=by
 intro pins σ H s e s' I h;obtain ⟨a,t,C,vs,B,H',rfl,os,bare,un,hok,kb,tb,fl,tup,tn,hE⟩:=h;show wpAny (model P w) _ (leaving _ (.ref a)) _ _ _;have hub:Un (B2 outer) [] H₀ H s₀.heap s.heap:=I.base;have un':Un (B2 (envOfC qual scope s₀.heap.objs.size f cd::outer)) [] H H' s.heap s'.heap:=un
 have sub:∀b,b∈B2 outer->b∈B2 (envOfC qual scope s₀.heap.objs.size f cd::outer):=fun b hb=>by
   unfold B2 at hb ⊢;rw[cg2];exact cc9 _ hb
 refine wpAny_leaves_onW (L:=s₀.heap.objs.size) I.ok.frames rfl fl fun h2 fl2 up=> ?_
 have kb':∀b o,s₀.heap.get? b=some o->H₀ b=none->b∉B2 outer->B.get? b=some o:=fun b o q n hb=>
   kb b o (hub.keep b o q n hb (by simp)) (hub.free b o q n (by simp)) (O6 I q hb)
 have tb':∀b o,s₀.heap.get? b=some o->b∉B2 outer->∃o',B.get? b=some o':=fun b o q hb=>by
   obtain ⟨o',e'⟩:=hub.there b o q (by simp);exact tb b o' e' (O6 I q hb)
 have plain:∀b∈B2 outer,∀o,s'.heap.get? b=some o->∀vs,o.data≠.fields vs:=fun b hb o ho=>by
   obtain ⟨_,o1,ho1,hn⟩:=I.stack.mem (sub b hb);obtain ⟨sl,e1⟩:=un'.slot b o1 ho1 (I.stkFree b (sub b hb)) (sub b hb) (by simp);rw[ho] at e1;cases e1;exact hn
 have unw:Un (B2 outer) [] H₀ H' s₀.heap s'.heap:={
   keep:=fun b o q n hb _=>un'.keep b o (hub.keep b o q n hb (by simp)) (hub.free b o q n (by simp)) (O6 I q hb) (by simp)
   slot:=fun b o q n hb _=>by
     obtain ⟨sl,e1⟩:=hub.slot b o q n hb (by simp);obtain ⟨sl2,e2⟩:=un'.slot b _ e1 (hub.free b o q n (by simp)) (sub b hb) (by simp);exact ⟨sl2,e2⟩
   free:=fun b o q n _=>by
     obtain ⟨sl,e1⟩:=hub.any q n (by simp);exact un'.free b _ e1 (hub.free b o q n (by simp)) (by simp)
   there:=fun b o q _=>by
     obtain ⟨o',e1⟩:=hub.there b o q (by simp);exact un'.there b o' e1 (by simp)
   tups:=fun b xs q=>un'.tups b xs (hub.tups b xs q)
   frzs:=fun b o u q=>un'.frzs b o u (hub.frzs b o u q)
   tbls:=fun b ps q=>by
     obtain ⟨m1,q1⟩:=hub.tbls b ps q;obtain ⟨m2,q2⟩:=un'.tbls b _ q1
     exact ⟨m1++m2,by rw[q2,Array.append_assoc]⟩}
 exact ⟨a,t,C,vs,B,H',rfl,os.trans I.os,bare,an9 unw kb' tb' fl2.1 up plain,hok,kb',tb',fl2,tup.of_slots up,tn,imp _ _ _ hE⟩
end
theorem au0 {K:PySem.W.Frag}{h:Heap}{C:Addr}{bmB:List Value}{newId:String}(X:K.In h)(q:PySem.W.excIn K C bmB newId=true):
   ∃(bm:List Value) (N:Addr) (nm qn:Str) (bs:List Value) (hdct:Bool) (sn:List Str) (sub:List Value) (ab:Bool) (col:Option Bool) (dd:Option Addr) (k0 k1 k2 k3 k5:Option Value) (mN:Str->Option Value),
    K.lookup C=some (excClassObj nm qn C N bs bm hdct sn sub ab col dd k0 k1 k2 k3 k5 newId)/\h.Ns N mN/\mN "__init__"=none/\OwnTail h bmB bm:=by
 unfold PySem.W.excIn at q
 split at q
 · rename_i dd cd sl look
   split at q
   · rename_i C' bm k0 k1 k2 k3 n k5 hmro hsl;rw[ce9,ce9,ce9,ce9,ce9] at q;obtain ⟨⟨⟨⟨⟨q1,q2⟩,q3⟩,q4⟩,q5⟩,q6⟩:=q;have e1:C'=C:=beq_iff_eq.mp q1;have e2:n=newId:=beq_iff_eq.mp q2;subst e1 e2;obtain ⟨nm,bs,mro,ns,qn,hd,sn,sub,ab,col,del⟩:=cd;have e3:mro= .ref C'::bm:=hmro
     have e4:del=false:=by
       cases del with
       |false=>rfl
       |true=>cases q3
     subst e3 e4
     have e5:sl= #[k0,k1,k2,k3,some (.builtin n),k5]:=by
       apply Array.ext'
       exact hsl
     subst e5;exact ⟨bm,ns,nm,qn,bs,hd,sn,sub,ab,col,dd,k0,k1,k2,k3,k5,_,look,.of_isNs (PySem.W.isNs_of_in X q5),PySem.W.nsMap_none_of_in X q5 (beq_iff_eq.mp q6),PySem.W.tail_of_in X q4⟩
   · cases q
 · cases q
abbrev veB:List Value:=[.type "ValueError",.type "Exception",.type "BaseException",.type "object"]
structure T3 (K:PySem.W.Frag)(mg:Str->Option Value)(x:Str)(C:Addr):Prop where
 mg:mg x=some (.ref C)
 ex:PySem.W.excIn K C veB "ValueError.__new__"=true
section
variable {X:Cx}
theorem ao1 {x:Str}{C:Addr}{E:XK}{e:Expr}{te:TE}{np cpos pos:Pos}(R:bd5 X E)(hc:X.calm=true)(c:T3 X.K X.mg x C)(he:PE X e te)(hg:Gl X x:=by rfl)
   (hs:starEach [e] X.env=(false,eval e X.env)::starEach [] X.env:=by rfl) (hd:(x==("__debug__":Str))=false:=by decide):
   PS X (.Raise (some (.Call (.Name x np) [e] [] cpos)) none pos) (fun _ σ H=>te σ H fun _ H1=>E (.ref C) none H1):=by
 intro pins s σ H D I h;obtain ⟨bm,N,nm,qn,bs,hdct,sn,sub,ab,col,dd,k0,k1,k2,k3,k5,mN,hC,hN,hni,T⟩:=au0 I.ok.mod.kin c.ex
 refine wpAny_Raise_call_subT (C:=C) (nm:=nm) (q:=qn) (N:=N) (bs:=bs) (bm:=bm) (hdct:=hdct) (sn:=sn) (sub:=sub) (ab:=ab) (col:=col) (dd:=dd) (k0:=k0) (k1:=k1) (k2:=k2) (k3:=k3) (k5:=k5)
   PySem.F.excBase_ValueError (mN:=mN) (T.hasType PySem.F.excBase_ValueError.hasBase) (I.ok.hd hc) (by rw[hs];rfl) hni (R9 I hg c.mg ⟨rfl,?_⟩ hd)
 rw[hs];refine Calls.evalArgs_plain (Calls.spliced_cons (v0 (he pins s σ H _ I h) fun v s1 ⟨x,H1,I1,rx,q⟩=>Calls.spliced_nil ?_));exact ⟨rfl,(by show 1<=sizeLine;decide),I1.kIn _ _ hC,hN.keeps I1.bk,T.keeps I1.bk,fun h' e' hm=>R pins σ H1 s1 h' e' C _ I1 hm q⟩
end
section
variable {P:Program} {w:World} {K:PySem.W.Frag} {mg:Str->Option Value} {base:Heap}
theorem o4.lift {k:Nat}{f:Addr}{fd:FuncData}{ps:List Str}{sp:Sp}{CX:S6}(F:o4 P w K mg base C6 k f fd ps sp):o4 P w K mg base CX k f fd ps sp:=
 ⟨F.len,fun A outer s H args us vs Q E hr e0 hb hv hs=>codeAny_mono (F.run A outer s H args us vs Q E hr e0 hb hv hs) fun r s' h=>by
   cases r with
   |error e=>exact (show False from h).elim
   |ok v=>cases v<;>exact h⟩
theorem o4.or {k:Nat}{f:Addr}{fd:FuncData}{ps:List Str}{sp sp':Sp}{CX:S6}(F:o4 P w K mg base CX k f fd ps sp)(G:o4 P w K mg base CX k f fd ps sp'):o4 P w K mg base CX k f fd ps (fun vs H Q E=>sp vs H Q E\/sp' vs H Q E):=
 ⟨fun vs H Q E h=>h.elim (F.len vs H Q E) (G.len vs H Q E),fun A outer s H args us vs Q E hr e0 hb hv hs=>hs.elim (F.run A outer s H args us vs Q E hr e0 hb hv) (G.run A outer s H args us vs Q E hr e0 hb hv)⟩
theorem B6.okx {x qual:Str}{st:Stmt}{f:Addr}{fd:FuncData}{N ps:List Str}{k:Nat}{sp:Sp}(F:B6 K x qual st f fd)(S:o7 N ps (j8 st))(len:∀vs H Q E,sp vs H Q E->vs.length=ps.length)
   (hbody:∀(cdv:Value) (A:Around) (outer:List Env) (s:Shared) (H:Hp) (vs:List V) (Q:VK) (E:XK),y7 k (A.deeper (envOfC qual (j8 st) s.heap.objs.size f cdv))->sp vs H Q E->
     ∃t,Q7 (U7 (Q9 P w) P w K mg base N qual (j8 st) f cdv A outer s H E) (L4 st) t/\t {nx:=fun _ H'=>Q .non H',rt:=Q} (R4 N vs) H):o4 P w K mg base (Q9 P w) (k+1) f fd ps sp:=by
 obtain ⟨oc,od,kV,doc,pm,an,cdv,ct,osl,rfl,lk,hcd⟩:=F.ex
 exact bl0 lk hcd S len fun A outer s H vs Q E hr hsp=>hbody cdv A outer s H vs Q E hr hsp
def K0 (P:Program)(w:World)(K:PySem.W.Frag)(mg:Str->Option Value)(base:Heap)(x:Str)(k:Nat)(ps:List Str)(sp:Sp):Prop:=
 ∃(f:Addr) (fd:FuncData),mg x=some (.ref f)/\PySem.W.keepIn K (.ref f)=true/\R3 K fd ps []/\o4 P w K mg base (Q9 P w) k f fd ps sp
end
section
variable {X:Cx} {x:Str} {k:Nat} {ps:List Str} {sp:Sp} {e:Expr} {es:List Expr} {t:TA} {p pos:Pos} {E:XK}
theorem W0 (c:K0 X.prog X.w X.K X.mg X.base x k ps sp)(hr:y7 k X.A)(hx:Z0 (Q9 X.prog X.w) X E)(ha:PA X (e::es) t)(hg:Gl X x:=by rfl)(hdb:(x==("__debug__":Str))=false:=by decide)
   (he:starEach (e::es) X.env=(false,eval e X.env)::starEach es X.env:=by rfl) (hpl:(backTo pos (starEach es X.env)).any (·.1)=false:=by rfl):PE X (.Call (.Name x p) (e::es) [] pos) (ae1 sp [] E t):=by
 obtain ⟨f,fd,h1,h2,h3,h4⟩:=c;exact at5 h4 hr hg h1 h2 h3 .nil hx ha hdb he hpl
end
end L2
namespace L2
open PySem PySem.Spec PyProof.Rows
theorem A1.get {P:Program}{w:World}{H:Hp}{h:Heap}{a:Addr}{o:HO}(x:A1 P w H h a o):∃u,h.get? a=some u:=by
 cases o with
 |lst xs=>obtain ⟨_,_,_,_,e⟩:=x;exact ⟨_,e⟩
 |tup xs=>obtain ⟨_,_,_,ob,e,_⟩:=x;exact ⟨_,e⟩
 |dK kvs=>obtain ⟨_,_,_,_,o,_,_,e,_⟩:=x;exact ⟨_,e⟩
 |dT kvs=>obtain ⟨_,_,_,_,o,_,_,e,_⟩:=x;exact ⟨_,e⟩
 |set S n=>obtain ⟨o,_,_,_,e,_⟩:=x;exact ⟨_,e⟩
 |ins C dx fs=>obtain ⟨_,_,_,e,_⟩:=x;exact ⟨_,e⟩
 |own y=>obtain ⟨_,e⟩:=x;exact ⟨_,e⟩
 |xd fs=>obtain ⟨_,⟨_,_,_,e,_⟩,_⟩:=x;exact ⟨_,e⟩
 |rng lo hi=>obtain ⟨_,_,_,e⟩:=x;exact ⟨_,e⟩
 |frz ob u=>obtain ⟨e,_⟩:=x;exact ⟨_,e⟩
 |tbl ps=>exact ⟨_,show h.get? a=some _ from x⟩
 |met f y=>exact ⟨_,show h.get? a=some _ from x⟩
 |ext φ=>obtain ⟨_,⟨_,e⟩,_⟩:=x;exact ⟨_,e⟩
def U9 (a C:Addr):HO:= .ext fun h=>∃oe vs,h.get? a=some oe/\oe.cls= .ref C/\oe.data= .fields vs
section
variable {X:Cx} {pins:List (Addr×Obj)} {σ:St} {H H':Hp} {s s':Shared}
theorem bo2 {M:Model}{A:Around}{E:Value->Shared->Prop}{i:Nat}{n:Str}{pos:Pos}{Q:Unit->Shared->Prop}(I:i8 X pins σ H s)(hN:X.N.Nodup)(hi:X.N[i]? =some n)(hk:X.env.kindOf n=some .local)
   (h:∀s',i8 X pins (σ.set i none) H s'->Q () s'):wpAny M A (do bindName X.env n .none;unbindBehindTheSuite X.env n pos) Q E s:=by
 obtain ⟨m,hn,hl⟩:=id I.loc
 have hcls:(X.env.scope.kind== .class||(X.env.scope.kind== .module&&X.env.locals !=X.env.globals))=false:=by rw[I.ok.kind];rfl
 have hiσ:i < σ.length:=by rw[I.len];exact (cc5.mp hi).1
 have cne:=I.cne
 refine wpAny_nameGoes_keeps hk hn hcls fun h' v hn' hs=>h _ ?_
 obtain ⟨oL,_,_,hoL,_⟩:=id hn
 have low:∀b o,X.s₀.heap.get? b=some o->b≠X.env.locals:=fun b o e=>ce1 (cd8 (Heap.lt_size e) I.ok.above)
 refine ⟨I.ok,I.os,I.bare,⟨fun b o e n hb hx=> ?_,fun b o e n hb hx=> ?_,I.base.free,fun b o e hx=> ?_,I.base.tups,I.base.frzs,I.base.tbls⟩,⟨_,hn',fun j y v' e1 e2 e3=> ?_⟩,fun y c e=> ?_,I.free,I.freeC,fun p hp=> ?_,fun b ob e=> ?_,by simpa using I.len⟩
 · exact (hs.2 b (low b o e)).trans (I.base.keep b o e n hb hx)
 · obtain ⟨sl,e1⟩:=I.base.slot b o e n hb hx;exact ⟨sl,(hs.2 b (low b o e)).trans e1⟩
 · obtain ⟨o',e1⟩:=I.base.there b o e hx;exact ⟨o',(hs.2 b (low b o e)).trans e1⟩
 · by_cases hj:j=i
   · subst hj;rw[ci4 hiσ] at e2;cases e2
   · rw[cj2 (Ne.symm hj)] at e2;obtain ⟨u',r',q⟩:=hl j y v' e1 e2 e3;refine ⟨u',r',?_⟩
     rcases q with ⟨k,e⟩|⟨k,c,e,z⟩
     · refine .inl ⟨k,?_⟩
       have:y≠n:=fun e=>hj (ac1 hN e1 (e▸hi))
       simp [this,e]
     · exact .inr ⟨k,c,e,z.sameBut hs (cne y c e)⟩
 · obtain ⟨w',z⟩:=I.cell y c e;exact ⟨w',z.sameBut hs (cne y c e)⟩
 · obtain ⟨e,n,ne,nf,d⟩:=I.pin p hp;exact ⟨(hs.2 p.1 ne).trans e,n,ne,nf,d⟩
 · refine (I.hok b ob e).stay (fun c w' hc q=>(hs.2 c ?_).trans q) (fun _ q=>q) fun _ _ q=>q
   rintro rfl
   rcases hc with rfl|hc
   · rw[I.free] at e;cases e
   · rw[I.free] at hc;cases hc
abbrev Cx.marked (X:Cx)(a:Addr):Cx:={X with A:=X.A.mark (some (.ref a)),calm:=false,xe:=fun _ _=>False}
theorem i8.mark (I:i8 X pins σ H s)(a:Addr):i8 (X.marked a) pins σ H s:=
 ⟨⟨I.ok.mod,I.ok.kind,I.ok.glob,I.ok.blt,I.ok.above,I.ok.inj,I.ok.has,I.ok.cab,(fun z=>nomatch z),I.ok.frames,I.ok.stk,I.ok.exf,I.ok.bs,I.ok.bsz,I.ok.noex,I.ok.exfs,I.ok.funs,I.ok.frf⟩,I.os,I.bare,I.base,I.loc,I.cell,I.free,I.freeC,I.pin,I.hok,I.len⟩
theorem i8.unmark {a:Addr}(ok:X.Ok)(I:i8 (X.marked a) pins σ H s):i8 X pins σ H s:=
 ⟨ok,I.os,I.bare,I.base,I.loc,I.cell,I.free,I.freeC,I.pin,I.hok,I.len⟩
theorem i8.trackNew {a:Addr}{o:HO}(I:i8 X pins σ H s)(hn:H a=none)(h0:X.s₀.heap.get? a=none)(hL:a≠X.env.locals)(hc:∀x c,X.env.cells.lookup x=some c->c≠a)(hp:∀p∈X.pn++pins,p.1≠a)(new:A1 X.prog X.w (c8 H a o) s.heap a o):
   i8 X pins σ (c8 H a o) s:=by
 refine ⟨I.ok,I.os,I.bare,⟨I.base.keep,I.base.slot,fun b o' e n hx=> ?_,I.base.there,fun b xs e=> ?_,fun b o' u e=> ?_,fun b ps e=> ?_⟩,I.loc,I.cell,?_,fun x c e=> ?_,fun p hq=> ?_,I.hok.track hn new,I.len⟩
 · rw[i6 (fun z=>by rw[z,h0] at e;cases e)];exact I.base.free b o' e n hx
 · have:=I.base.tups b xs e;rw[i6 (i7 this hn)];exact this
 · have:=I.base.frzs b o' u e;rw[i6 (i7 this hn)];exact this
 · obtain ⟨m,this⟩:=I.base.tbls b ps e;exact ⟨m,by rw[i6 (i7 this hn)];exact this⟩
 · rw[i6 (Ne.symm hL)];exact I.free
 · rw[i6 (hc x c e)];exact I.freeC x c e
 · obtain ⟨e,n,ne,nf,d⟩:=I.pin p hq;exact ⟨e,by rw[i6 (hp p hq)];exact n,ne,nf,d⟩
end
def PX (X:Cx)(st:List Stmt)(t:XK->TS):Prop:=
 ∀(pins:List (Addr×Obj)) (s:Shared) (σ:St) (H:Hp) (D:S3) (E:XK) (E1:Value->Shared->Prop),i8 X pins σ H s->
  (∀(H1:Hp) (s1:Shared) (e:Value) (s':Shared),i8 X pins σ H1 s1->Q9 X.prog X.w X.stack H1 s1 E e s'->E1 e s')->t E D σ H->wpAny (model X.prog X.w) X.A (execs st X.env) (SP X pins D) E1 s
section
variable {X:Cx} {x:Str} {k:Nat} {ps:List Str} {sp:Sp} {e:Expr} {es:List Expr} {t:TA} {p pos:Pos}
theorem PA.any (h:PA X.nox es t)(E1:Value->Shared->Prop):PA (X.wish E1) es t:=fun pos pins s σ H Q I hw=>
 wpAny_mono (h pos pins s σ H Q (I.unwish.wish _) hw) (fun _ _ ⟨v,H',I',r,q⟩=>⟨v,H',I'.unwish.wish E1,r,q⟩) fun _ _ z=>False.elim z
theorem bo3 {pins:List (Addr×Obj)}{σ:St}{H:Hp}{s:Shared}{Q:VK}{E:XK}{E1:Value->Shared->Prop}(c:K0 X.prog X.w X.K X.mg X.base x k ps sp)(hr:y7 k X.A)(ha:PA X.nox (e::es) t)(I:i8 X pins σ H s)
   (hx:∀(H1:Hp) (s1:Shared) (e:Value) (s':Shared),i8 X pins σ H1 s1->Q9 X.prog X.w X.stack H1 s1 E e s'->E1 e s') (h:ae1 sp [] E t σ H Q) (hg:Gl X x) (hdb:(x==("__debug__":Str))=false)
   (he:starEach (e::es) X.env=(false,eval e X.env)::starEach es X.env) (hpl:(backTo pos (starEach es X.env)).any (·.1)=false):
   wpAny (model X.prog X.w) X.A (eval (.Call (.Name x p) (e::es) [] pos) X.env) (EP X pins σ Q) E1 s:=by
 obtain ⟨f,fd,h1,h2,h3,h4⟩:=c;have Iw:i8 (X.wish E1) pins σ H s:=I.wish E1;refine wpAny_Call_Name_kw (R9 (E:=E1) I hg h1 ?_ hdb);refine PySem.W.callWith_K (h₀:=X.base) I.ok.mod.kin h2 (v0 ((PA.any ha E1) pos pins s σ H _ Iw h) fun us s1 ⟨vs,H1,I1,r,q⟩=>⟨I1.kIn,?_⟩) he hpl;have I1':i8 X pins σ H1 s1:=I1.unwish
 have r2:k7 (vs++[]) us:=by rw[ci6];exact r
 have hl:(us++[]).length=ps.length:=by rw[ci6,<-r2.length];exact h4.len _ _ _ _ q
 have hb:=h3 s1 us I1'.kIn hl;rw[ci6] at hb;refine wpAny_call (codeAny_mono (h4.run X.A X.stack s1 H1 ⟨us,[]⟩ us (vs++[]) Q E hr I1'.env0 hb r2 q) fun rr s' hq=> ?_)
 cases rr with
 |error e=>exact hx H1 s1 e s' I1' hq
 |ok fl=>
  cases fl with
  |ret u=>exact I1'.after hq
  |next=>exact False.elim hq
  |brk=>exact False.elim hq
  |cont=>exact False.elim hq
theorem ah1 {ep:Pos}(c:K0 X.prog X.w X.K X.mg X.base x k ps sp)(hr:y7 k X.A)(ha:PA X.nox (e::es) t)(hg:Gl X x:=by rfl)(hdb:(x==("__debug__":Str))=false:=by decide)
   (he:starEach (e::es) X.env=(false,eval e X.env)::starEach es X.env:=by rfl) (hpl:(backTo pos (starEach es X.env)).any (·.1)=false:=by rfl) (hs:swapsWith (.Call (.Name x p) (e::es) [] pos) none ep.line X.env=pure false:=by rfl):
   PX X [.Expr (.Call (.Name x p) (e::es) [] pos) ep] (fun E D σ H=>ae1 sp [] E t σ H fun _ H1=>D.nx σ H1):=by
 intro pins s σ H D E E1 I hx h
 have first:wpAny (model X.prog X.w) X.A (exec (.Expr (.Call (.Name x p) (e::es) [] pos) ep) X.env) (SP X pins D) E1 s:=
   wpAny_Expr_any (v0 (bo3 c hr ha I hx h hg hdb he hpl) fun v s1 ⟨y',H1,I1,r1,q1⟩=>⟨σ,H1,I1,q1⟩) I.quiet hs
 refine wpAny_execs_cons (v0 first fun f s1 q=> ?_)
 cases f with
 |next=>exact wpAny_execs_nil q
 |ret v=>exact q
 |brk=>exact q
 |cont=>exact q
theorem bl5 {c:Expr}{a b:List Stmt}{tc:TT}{ta tb:XK->TS}(hc:PT X.nox c tc)(ha:PX X a ta)(hb:PX X b tb):PX X [.If c a b pos] (fun E=>br8 tc (ta E) (tb E)):=by
 intro pins s σ H D E E1 I hx h
 have first:wpAny (model X.prog X.w) X.A (exec (.If c a b pos) X.env) (SP X pins D) E1 s:=by
   refine wpAny_If (wpAny_mono (hc pins s σ H _ (I.wish _) h) (fun v s1 ⟨H1,I1,q⟩=> ?_) fun _ _ z=>False.elim z)
   cases v with
   |true=>exact ha pins s1 σ H1 D E E1 I1.unwish hx (by simpa using q)
   |false=>exact hb pins s1 σ H1 D E E1 I1.unwish hx (by simpa using q)
 refine wpAny_execs_cons (v0 first fun f s1 q=> ?_)
 cases f with
 |next=>exact wpAny_execs_nil q
 |ret v=>exact q
 |brk=>exact q
 |cont=>exact q
end
section
variable {X:Cx}
def bo4 (K:PySem.W.Frag)(T:Addr)(i:Nat)(ts:TS)(D:S3)(σ:St):XK:=fun c _ H'=>
 ∃C,c= .ref C/\PySem.W.exmOne K (.ref C) (.ref T)=some true/\∀a,H' a=none->ts {nx:=fun σ' H''=>D.nx (σ'.set i none) H'',rt:=fun _ _=>False} (σ.set i (some (.ref a))) (c8 H' a (U9 a C))
theorem bt9 {body:List Stmt}{x n:Str}{T:Addr}{i:Nat}{np hp pos:Pos}{b₀:Stmt}{suite:List Stmt}{tb:XK->TS}{ts:TS}(hb:PX X body tb)(hm:X.mg x=some (.ref T))(hN:X.N.Nodup)(hi:X.N[i]? =some n)(hk:X.env.kindOf n=some .local)
   (hsu:∀a,Q7 (X.marked a) (b₀::suite) ts) (hst:X.stack=X.env::X.outer:=by rfl) (hfr:X.env.frame=some X.env.locals:=by rfl) (hex0:X.ex=[]:=by rfl) (hg:Gl X x:=by rfl) (hdb:(x==("__debug__":Str))=false:=by decide) (hf:X.fn n=true\/X.env.scope.names.lookup n=some .local:=by first|exact .inl rfl|exact .inr rfl|assumption):
   PS X (.Try body [.ExceptHandler (some (.Name x np)) (some n) (b₀::suite) hp] [] [] pos) (fun D σ H=>tb (bo4 X.K T i ts D σ) D σ H):=by
 intro pins s σ H D I h;refine wpAny_Try_except (wpAny_mono (hb pins s σ H D _ (fun e s₁=>wpAny (model X.prog X.w) X.A (noteFrame e X.env) (fun _ s₂=>wpAny (model X.prog X.w) X.A (setFlight e none) (fun _ s₃=>wpAny (model X.prog X.w) X.A (handleBy e X.env [.ExceptHandler (some (.Name x np)) (some n) (b₀::suite) hp]) (SP X pins D) X.xe s₃) X.xe s₂) X.xe s₁) I (fun H1 s1 e s' I1 hcx=> ?_) h) (fun f s1 q=> ?_) fun _ _ z=>z)
 · obtain ⟨a,t,C,vs,B,H',rfl,os,bare,un,hok,kb,tb',fl,tup,tn,C',hCe,hex,hts⟩:=hcx;cases hCe;rw[hst] at un fl kb tb'
   have hframes:X.A.frames=some (X.env::X.outer):=by rw[<-hst];exact I1.ok.frames
   have plain:∀b∈B2 (X.env::X.outer),∀o,s'.heap.get? b=some o->∀vs,o.data≠.fields vs:=fun b hb o ho=>by
     obtain ⟨_,o',ho',hn⟩:=fl.2.2.1.mem hb;rw[ho] at ho';cases ho';exact hn
   have notB:B.get? a=none:=fl.2.1
   have notF:a∉B2 (X.env::X.outer):=fun hm=>by
     obtain ⟨oe,ws,he,_,hd,_⟩:=fl.first;exact plain a hm oe he ws hd
   have new1:s1.heap.get? a=none:=by
     cases q:s1.heap.get? a with
     |none=>rfl
     |some o=>
      obtain ⟨o',e'⟩:=tb' a o q notF;rw[notB] at e';cases e'
   have new0:X.s₀.heap.get? a=none:=by
     cases q:X.s₀.heap.get? a with
     |none=>rfl
     |some o=>
      by_cases hx:a∈X.ex
      · rw[hex0] at hx;simp at hx
      · obtain ⟨o',e'⟩:=I1.base.there a o q hx;rw[new1] at e';cases e'
   have hHa:H' a=none:=by
     cases q:H' a with
     |none=>rfl
     |some o=>obtain ⟨u,hu⟩:=(hok a o q).get;rw[notB] at hu;cases hu
   refine wpAny_looks_onW hframes hfr fl fun h₄ held₄ up₄=> ?_
   refine wpAny_landsW held₄ fun h₅ fl₅ up₅=> ?_
   have inv:∀h,B.StaysIn h->s'.heap.UpToSlots h->i8 X pins σ H' {s' with heap:=h}:=fun h st up=>
     I1.call' (ch:=[]) (s':={s' with heap:=h}) os (by rw[hst];exact an9 un kb tb' st up plain) (hok.kept st) bare (fun b z=>absurd z (by simp))
   have I5:=inv h₅ fl₅.1 (up₄.trans up₅);refine wpAny_handleBy_cons (codeAny_handlers_test (R9 (X:=X.marked a) (E:=_) (I5.mark a) hg hm ?_ hdb)) (by intro q;cases q);obtain ⟨ob,hob,hobc⟩:=fl₅.there;have LT:PySem.W.Looks (model X.prog X.w) h₅ (typeOf (.ref a)) (.ref C):=hobc▸(PySem.W.Looks.ld hob).andThen .now;refine PySem.W.exm_one (M:=model X.prog X.w) (h:=h₅) I5.kIn LT hex _ _ _ _ (fun _ _ q=>q) ?_;refine codeAny_handlers_suite_as ?_
   refine lands_againW fl₅ fun h₆ fl₆ up₆=> ?_
   have I6:=inv h₆ fl₆.1 ((up₄.trans up₅).trans up₆)
   have hLa:a≠X.env.locals:=fun z=>notF (by unfold B2;rw[cg2,hfr];rw[z];exact cd0)
   have hca:∀y c,X.env.cells.lookup y=some c->c≠a:=fun y c e z=>by
     obtain ⟨v,o,ho,_⟩:=I1.cell y c e;rw[z,new1] at ho;cases ho
   have hpa:∀q∈X.pn++pins,q.1≠a:=fun q hq z=>by
     obtain ⟨e,_⟩:=I1.pin q hq;rw[z,new1] at e;cases e
   obtain ⟨oe,ws,he6,hc6,hd6,_⟩:=fl₆.first;have I7:i8 X pins σ (c8 H' a (U9 a C)) {s' with heap:=h₆}:=I6.trackNew hHa new0 hLa hca hpa ⟨⟨oe,ws,he6,hc6,hd6⟩,⟨oe,he6⟩,fun h1 h2 ⟨o1,v1,q1,q2⟩ st=>⟨o1,v1,st o1 q1,q2⟩⟩;have hts':=hts a hHa;refine ac2 I7 hN hi (.inl hk) (show o9 (.ref a) (.ref a) from rfl) (fun s2 I8=> ?_) hf
   refine wpAny_mono (hsu a pins s2 _ _ _ (I8.mark a) hts') (fun f s3 q=> ?_) fun _ _ z=>False.elim z
   cases f with
   |next=>
    obtain ⟨σ',H'',I9,q⟩:=q
    exact bo2 (I9.unmark I1.ok) hN hi hk fun s4 I10=>show SP X pins D .next s4 from ⟨_,_,I10,q⟩
   |ret v=>obtain ⟨_,_,_,_,_,q⟩:=q;exact q.elim
   |brk=>obtain ⟨_,_,_,q⟩:=q;exact q.elim
   |cont=>obtain ⟨_,_,_,q⟩:=q;exact q.elim
 · cases f with
   |next=>exact wpAny_execs_nil q
   |ret v=>exact q
   |brk=>exact q
   |cont=>exact q
end
end L2
namespace L2
open PySem PySem.Spec PyProof.Rows PySem.W PySem.Builtin PySem.Builtin.ObjectAttr PySem.Builtin.Getset_descriptor
section
variable {prog:Program} {w:World} {A:Around} {E:Value->Shared->Prop} {s:Shared} {K:PySem.W.Frag} {a C:Addr}
structure ad2 (K:PySem.W.Frag)(C:Addr):Prop where
 ga:PySem.W.findIn K (.ref C) "__getattribute__"=some (some (.builtin "BaseException.__getattribute__"))
 hook:PySem.W.findIn K (.ref C) "__getattr__"=some none
 cls:PySem.W.findIn K (.ref C) "__class__"=some (some (.builtin "object.__class__"))
 get:PySem.W.specialIn K (.builtin "object.__class__") "__get__"=some (some (.builtin "getset_descriptor.__get__"))
 tak:PySem.W.takesIn K (.builtin "object.__class__")=some true
 bex:PySem.W.mroIn K C (.type "BaseException")=some true
 obj:PySem.W.mroIn K C (.type "object")=some true
 isc:∃oc,K.lookup C=some oc/\∃cd,oc.data= .cls cd
theorem ak6 {tp:Value}{R:Result->Shared->Prop}(X:K.In s.heap)(L0:PySem.W.Looks (model prog w) s.heap (typeOf (.ref a)) (.ref C))(hm:PySem.W.mroIn K C (.type "object")=some true)
   (h:R (.ok (.ret (.ref C))) s):codeAny (model prog w) A (.call (.builtin "getset_descriptor.__get__") ⟨[.builtin "object.__class__",.ref a,tp],[]⟩) R s:=by
 obtain ⟨hh,g,dr,t,os⟩:=s;have L1:=looks_mroIn (M:=model prog w) X hm;refine codeAny_call_builtin KF.slot_gs.plain KF.entry_gs (KF.slot_gs.check _ _ _ _ _ _ _ _ KF.type_class (KF.args_gs _ _ _) ?_);unfold Builtin.«getset_descriptor.__get__» descrGet;rw[dga_obj];refine wpAny_bind (wpAny_pure ?_);unfold descrGetter descrCheckInstance descrNameAndClass isInstance;simp only[KF.owner_class]
 repeat lk
 refine ⟨Code.quiet_builtin _ (by decide+kernel),codeAny_builtin KF.entry_class ?_⟩;unfold Builtin.«object.__class__» shownTypeOf
 repeat lk
 exact h
theorem bd6 {M:Model}{nameV:Value}{Q:Unit->Shared->Prop}(X:K.In s.heap)(L0:PySem.W.Looks M s.heap (typeOf (.ref a)) (.ref C))(hm:PySem.W.mroIn K C (.type "BaseException")=some true)
   (hq:Q () s):wpAny M A (checkBuiltinCall "BaseException.__getattribute__" ⟨[.ref a,nameV],[]⟩) Q E s:=by
 obtain ⟨hh,g,dr,t,os⟩:=s;have L1:=looks_mroIn (M:=M) X hm
 have hk:builtinKind "BaseException.__getattribute__"=some .slot:=by decide+kernel
 have hsplit:splitId "BaseException.__getattribute__"=some ("BaseException","__getattribute__"):=by decide+kernel
 have ha:=F.args_bexc_ga (.ref a) nameV;simp only[checkBuiltinCall,hk,hsplit];unfold isInstance
 repeat (first|lk|wp_step)
 exact hq
theorem bd7 {tk:Tok}{Q:Fin->Shared->Prop}(X:K.In s.heap)(L0:PySem.W.Looks (model prog w) s.heap (typeOf (.ref a)) (.ref C))(I:ad2 K C)(hq:Q (.done (.ret (.ref C))) s):
   wpAny (model prog w) A (Builtin.«object.__getattribute__» ⟨[.ref a,.str "__class__" tk],[]⟩) Q E s:=by
 obtain ⟨hh,g,dr,t,os⟩:=s;have L1:=looks_findIn (M:=model prog w) X I.cls;have L2:=looks_specialIn (M:=model prog w) X I.get;have L3:=looks_takesIn (M:=model prog w) X I.tak;unfold Builtin.«object.__getattribute__»
 repeat lk
 refine wpAny_run (ak6 X L0 I.obj ?_)
 repeat (first|exact hq|lk)
theorem ah2 {Q:Option Value->Shared->Prop}(X:K.In s.heap)(L0:PySem.W.Looks (model prog w) s.heap (typeOf (.ref a)) (.ref C))(I:ad2 K C)(h:Q (some (.ref C)) {s with toks:=s.toks+1}):
   wpAny (model prog w) A (getAttr? (.ref a) "__class__") Q E s:=by
 obtain ⟨hh,g,dr,t,os⟩:=s;have L1:=looks_findIn (M:=model prog w) X I.ga;have L2:=looks_findIn (M:=model prog w) X I.hook;have hb:=PySem.F.attrBase_ValueError.ga.bind (.ref a);unfold getAttr? getAttrBy? getAttrBy;refine wpAny_bind (wpAny_mkText (wpAny_bind (wpAny_attempt (wpAny_holding (wpAny_bind (L0.at (wpAny_bind (L1.at ?_))))))))
 dsimp only
 rw[if_neg (show ¬((onTheHeap (Value.ref C)&&Value.builtin "BaseException.__getattribute__"==Value.builtin "object.__getattribute__")=true) from by
   rw[show (Value.builtin "BaseException.__getattribute__"==Value.builtin "object.__getattribute__")=false from by decide+kernel,Bool.and_false];exact cd1)]
 unfold getAttrByItsOwn hookBefore;refine wpAny_bind ?_;rw[if_pos (show onTheHeap (Value.ref C)=true from rfl)];refine L2.at ?_;refine wpAny_bind (wpAny_attempt (wpAny_holding ?_));unfold callGetattribute;rw[if_neg (by simp)];unfold boundAndCalled;rw[hb];refine wpAny_bind (wpAny_pure ?_);refine wpAny_call (codeAny_call_builtin PySem.F.attrBase_ValueError.ga.plain F.entry_bexc_ga (bd6 X L0 I.bex (bd7 X L0 I ?_)));refine handed_on (M:=model prog w) rfl ?_;exact wpAny_pure h
theorem ao2 (I:ad2 K C):PySem.W.KitX K (.ref a) (.ref C) (fun h=>∃oe vs,h.get? a=some oe/\oe.cls= .ref C/\oe.data= .fields vs) where
 ty:=fun M h _ ⟨oe,vs,h1,h2,_⟩=>h2▸(PySem.W.Looks.ld h1).andThen .now
 it:=fun M h X _=>by
   obtain ⟨oc,h1,cd,h2⟩:=I.isc;obtain ⟨c1,c2,c3,c4⟩:=oc
   dsimp only at h2
   subst h2;intro A' Q' E' s' k q;unfold isType loadHead;exact wpAny_bind (wpAny_loadPart (k _ _ (X _ _ h1)) (wpAny_pure q))
 ne:=fun h tp dd its n sl X htp=>by
   obtain ⟨oc,h1,cd,h2⟩:=I.isc
   refine Bool.eq_false_iff.mpr fun q=> ?_
   have e:C=tp:=Value.ref.inj (beq_iff_eq.mp q);subst e;have z:=(X _ _ h1).symm.trans htp;cases z;cases h2
 ca:=fun {prog w A E Q s} X ⟨oe,vs,h1,h2,_⟩ k=>ah2 X (h2▸(PySem.W.Looks.ld h1).andThen .now) I k
end
section
variable {X:Cx}
def bl6 (K:PySem.W.Frag):List V->Hp->VK->Prop:=fun xs H Q=>∃a C c u b,xs=[.ref a,c]/\((∃D,c= .ref D/\u=Value.ref D)\/(∃n,c= .ty n/\u=Value.type n))/\H a=some (U9 a C)/\ad2 K C/\PySem.W.kitOne K (.ref C) u=some b/\Q (.bl b) H
theorem bd8:E4 X (.builtin "isinstance") (bl6 X.K):=by
 intro pins s σ H xs us Q I r h;obtain ⟨a,C,c,u,b,rfl,hc,hH,ei,hk,q⟩:=h;obtain ⟨u1,u2,rfl,r1,r2⟩:=aa8 r;cases (show u1=Value.ref a from r1)
 have e2:u2=u:=by
   rcases hc with ⟨D,rfl,rfl⟩|⟨n,rfl,rfl⟩
   · exact r2
   · exact r2
 subst e2;have p:=(show A1 X.prog X.w H s.heap a (U9 a C) from I.hok a _ hH).1
 exact PySem.W.kia_one (ao2 ei) I.kIn p hk (fun z=>nomatch z) fun tk=>⟨.bl b,H,I.tok tk,rfl,q⟩
theorem N4 {a b:Expr}{ta:TA}{p pos:Pos}(hm:X.mg "isinstance"=none)(ha:PA X [a,b] ta)(hg:Gl X "isinstance":=by rfl)
 (he:starEach [a,b] X.env=(false,eval a X.env)::starEach [b] X.env:=by rfl) (hpl:(backTo pos (starEach [b] X.env)).any (·.1)=false:=by rfl):
 PE X (.Call (.Name "isinstance" p) [a,b] [] pos) (Q8 (bl6 X.K) ta):=G7 bd8 hg hm ac8 ha (by decide) (by decide) he hpl
theorem bo5:bootBuiltins "ValueError"=some (.type "ValueError"):=by decide+kernel
theorem bo6 {p:Pos}(hm:X.mg "ValueError"=none)(hg:Gl X "ValueError":=by rfl):PE X (.Name "ValueError" p) (tC (.ty "ValueError")):=aa6 hg hm bo5 rfl
end
theorem bo7 {K:PySem.W.Frag}{C D:Addr}{b:Bool}(h1:PySem.W.isClsIn K D=true)(h2:PySem.W.typeIn K (.ref D)=some (.type "type"))(h3:PySem.W.mroIn K C (.ref D)=some b)(hs:C=D->b=true):PySem.W.kitOne K (.ref C) (.ref D)=some b:=by
 unfold PySem.W.kitOne
 by_cases e:C=D
 · rw[if_pos (by rw[e];exact beq_self_eq_true _),hs e]
 · rw[if_neg (fun q=>e (Value.ref.inj (beq_iff_eq.mp q)))];unfold PySem.W.kitCls
   dsimp only
   rw[if_pos (by rw[ce9];exact ⟨h1,by rw[h2];exact beq_self_eq_true _⟩)];exact h3
theorem bu0 {K:PySem.W.Frag}{C:Addr}(h3:PySem.W.mroIn K C (.type "ValueError")=some true):PySem.W.kitOne K (.ref C) (.type "ValueError")=some true:=by
 unfold PySem.W.kitOne;rw[if_neg (fun q=>by cases beq_iff_eq.mp q)];unfold PySem.W.kitCls
 dsimp only
 rw[if_pos (by decide+kernel)];exact h3
theorem au1 {K:PySem.W.Frag}{C T:Addr}{b:Bool}(h0:PySem.W.mroIn K T (.type "BaseException")=some true)(h1:PySem.W.isClsIn K T=true)(h2:PySem.W.typeIn K (.ref T)=some (.type "type"))(h3:PySem.W.mroIn K C (.ref T)=some b):PySem.W.exmOne K (.ref C) (.ref T)=some b:=by
 unfold PySem.W.exmOne;rw[if_pos (show (PySem.W.subIn K (.ref T) (.type "BaseException")==some true)=true from beq_iff_eq.mpr h0)];unfold PySem.W.kitCls
 dsimp only
 rw[if_pos (by rw[ce9];exact ⟨h1,by rw[h2];exact beq_self_eq_true _⟩)];exact h3
theorem bo8 {K:PySem.W.Frag}{C:Addr}(ga:PySem.W.findIn K (.ref C) "__getattribute__"=some (some (.builtin "BaseException.__getattribute__")))(hook:PySem.W.findIn K (.ref C) "__getattr__"=some none)(cls:PySem.W.findIn K (.ref C) "__class__"=some (some (.builtin "object.__class__")))
   (get:PySem.W.specialIn K (.builtin "object.__class__") "__get__"=some (some (.builtin "getset_descriptor.__get__"))) (tak:PySem.W.takesIn K (.builtin "object.__class__")=some true) (bex:PySem.W.mroIn K C (.type "BaseException")=some true) (obj:PySem.W.mroIn K C (.type "object")=some true) (isc:PySem.W.isClsIn K C=true):ad2 K C:=
 ⟨ga,hook,cls,get,tak,bex,obj,by
   obtain ⟨cd,h⟩:=cl4.mp (show (PySem.W.clsIn K C).isSome=true from isc);unfold PySem.W.clsIn at h
   split at h
   · rename_i ho;exact ⟨_,ho,_,rfl⟩
   · cases h⟩
structure Z9 (K:PySem.W.Frag)(mg:Str->Option Value)(T:Addr)(cs:List (Str×Addr)):Prop where
 top:mg "TurnError"=some (.ref T)
 err:∀p∈cs,T3 K mg p.1 p.2
 inst:∀p∈cs,ad2 K p.2
 exm:∀p∈cs,PySem.W.exmOne K (.ref p.2) (.ref T)=some true
 ve:∀p∈cs,PySem.W.kitOne K (.ref p.2) (.type "ValueError")=some true
 pair:∀p∈cs,∀q∈cs,PySem.W.kitOne K (.ref p.2) (.ref q.2)=some (decide (p.1=q.1))
 exq:∀p∈cs,∀q∈cs,PySem.W.exmOne K (.ref p.2) (.ref q.2)=some (decide (p.1=q.1))
end L2
namespace L2
open PySem PySem.Spec PyProof.Rows
theorem ab9:∀(ts:List Str) (k:Nat) (acc:Str) (m:Nat),(∀t∈ts,t.length<=m)->(textFrom k acc ts).length<=acc.length+ts.length*(m+2)
 |[],k,acc,m,_=>by show acc.length<=_;omega
 |t::r,k,acc,m,h=>by
  have ih:=ab9 r (k+1) (acc++(if k > 0 then ", " else "":String)++t) m fun x hx=>h x (cc9 _ hx)
  have ht:=h t cd0
  have el:((acc++(if k > 0 then ", " else "":String)++t:Str)).length<=acc.length+2+t.length:=by
    rw[strLen_append,strLen_append]
    by_cases z:k > 0
    · rw[if_pos z];exact cd5 _
    · rw[if_neg z];have:(("":String):Str).length=0:=rfl;omega
  show (textFrom (k+1) (acc++(if k > 0 then ", " else "":String)++t) r).length<=_;rw[cd6,cl7];omega
theorem O2 {ts:List Str}{m:Nat}(h:∀t∈ts,t.length<=m):(listText ts).length<=2+ts.length*(m+2):=by
 unfold listText;rw[strLen_append];have:=ab9 ts 0 "[" m h;have e1:(("[":String):Str).length=1:=rfl;have e2:(("]":String):Str).length=1:=rfl;omega
section
variable {X:Cx} {p pos:Pos} {e:Expr} {t:TA}
theorem ax3:bootBuiltins "repr"=some (.builtin "repr"):=by decide+kernel
end
end L2
namespace L2
open PySem PySem.Spec PyProof.Rows
def ax4 (a b:Sp):Sp:=fun vs H Q E=>a vs H Q E\/b vs H Q E
section
variable {P:Program} {w:World} {K:PySem.W.Frag} {mg:Str->Option Value} {base:Heap} {CX:S6} {k:Nat} {f:Addr} {fd:FuncData} {ps:List Str} {a b:Sp}
theorem bx2 (x:o4 P w K mg base CX k f fd ps a)(y:o4 P w K mg base CX k f fd ps b):o4 P w K mg base CX k f fd ps (ax4 a b):=
 ⟨fun vs H Q E h=>h.elim (x.len vs H Q E) (y.len vs H Q E),fun A outer s H args us vs Q E r e bt v h=>h.elim (x.run A outer s H args us vs Q E r e bt v) (y.run A outer s H args us vs Q E r e bt v)⟩
theorem bl7 {x:Str}(c:A0 P w K mg base x k ps (ax4 a b)):A0 P w K mg base x k ps a:=by
 obtain ⟨f,fd,h1,h2,h3,h4⟩:=c;exact ⟨f,fd,h1,h2,h3,h4.imp fun vs H Q E z=> .inl z⟩
end
theorem C8 (K:PySem.W.Frag){a b:String}(h0:((Value.type a==Value.type b)=true)->False)(h1:PySem.W.kitMeta b=true)(h2:(fastBuiltinMro a).map (·.contains (Value.type b))=some false):PySem.W.kitOne K (.type a) (.type b)=some false:=by
 unfold PySem.W.kitOne PySem.W.kitCls;rw[if_neg h0];show (if PySem.W.kitMeta b=true then (fastBuiltinMro a).map (·.contains (Value.type b)) else none)=some false;rw[if_pos h1];exact h2
theorem ao3 (K:PySem.W.Frag):PySem.W.kitOne K (.type "NoneType") (.type "int")=some false:=C8 K (by decide+kernel) (by decide+kernel) (by decide+kernel)
theorem ak7 (K:PySem.W.Frag):PySem.W.kitOne K (.type "NoneType") (.type "bool")=some false:=C8 K (by decide+kernel) (by decide+kernel) (by decide+kernel)
theorem Q3 (K:PySem.W.Frag):PySem.W.kitOne K (.type "NoneType") (.type "list")=some false:=C8 K (by decide+kernel) (by decide+kernel) (by decide+kernel)
theorem as3 (K:PySem.W.Frag):PySem.W.kitOne K (.type "str") (.type "int")=some false:=C8 K (by decide+kernel) (by decide+kernel) (by decide+kernel)
theorem ao4 (K:PySem.W.Frag):PySem.W.kitOne K (.type "str") (.type "bool")=some false:=C8 K (by decide+kernel) (by decide+kernel) (by decide+kernel)
theorem M3 (K:PySem.W.Frag):PySem.W.kitOne K (.type "str") (.type "list")=some false:=C8 K (by decide+kernel) (by decide+kernel) (by decide+kernel)
theorem ao5 (K:PySem.W.Frag):PySem.W.kitOne K (.type "list") (.type "int")=some false:=C8 K (by decide+kernel) (by decide+kernel) (by decide+kernel)
theorem ak8 (K:PySem.W.Frag):PySem.W.kitOne K (.type "list") (.type "bool")=some false:=C8 K (by decide+kernel) (by decide+kernel) (by decide+kernel)
theorem ak9 (K:PySem.W.Frag):PySem.W.kitOne K (.type "tuple") (.type "int")=some false:=C8 K (by decide+kernel) (by decide+kernel) (by decide+kernel)
theorem ah3 (K:PySem.W.Frag):PySem.W.kitOne K (.type "tuple") (.type "bool")=some false:=C8 K (by decide+kernel) (by decide+kernel) (by decide+kernel)
theorem J6 (K:PySem.W.Frag):PySem.W.kitOne K (.type "tuple") (.type "list")=some false:=C8 K (by decide+kernel) (by decide+kernel) (by decide+kernel)
theorem K4 (K:PySem.W.Frag):PySem.W.kitOne K (.type "dict") (.type "list")=some false:=C8 K (by decide+kernel) (by decide+kernel) (by decide+kernel)
theorem aa0 (K:PySem.W.Frag):PySem.W.kitOne K (.type "int") (.type "list")=some false:=C8 K (by decide+kernel) (by decide+kernel) (by decide+kernel)
theorem al0 (K:PySem.W.Frag):PySem.W.kitOne K (.type "bool") (.type "list")=some false:=C8 K (by decide+kernel) (by decide+kernel) (by decide+kernel)
end L2
namespace L2
open PySem PySem.Spec PyProof.Rows
section
variable {X:Cx} {p pos apos:Pos} {e o:Expr} {es:List Expr} {t:TA} {to:TE}
theorem bo9 (hm:X.mg "str"=none)(ha:PA X [e] t)(hg:Gl X "str":=by rfl)(he:starEach [e] X.env=(false,eval e X.env)::starEach [] X.env:=by rfl):
   PE X (.Call (.Name "str" p) [e] [] pos) (Q8 (fun xs H Q=>∃i,xs=[.int i]/\i.natAbs.log2 < 1920/\Q (.str (toString i)) H) t):=
 K9 am7 hg hm Z8 ha (by decide) (by decide) he rfl
end
end L2
namespace Mth
open L2 (C4)
theorem cb2 {l:List Int}{i:Nat}(h:i < l.length):l.getD i 0=l[i]:=by
 rw[ch5,cc6 h];rfl
end Mth
namespace L2
open PySem PySem.Spec PyProof PyProof.Rows
section
variable {X:Cx}
theorem aj6:∀{ds:List Addr} {its:List Value},k7 (ds.map V.ref) its->its=ds.map Value.ref
 |[],_,h=>by cases h;rfl
 |d::ds,_,h=>by
  cases h with
  |cons r rr=>
   rename_i u us;have e:u=Value.ref d:=r;rw[e,aj6 rr];rfl
def bl8 (K:PySem.W.Frag):List V->Hp->VK->Prop:=fun xs H Q=>∃(a C tp:Addr) (ds:List Addr) (b:Bool),xs=[.ref a,.ref tp]/\H a=some (U9 a C)/\H tp=some (.tup (ds.map V.ref))/\ad2 K C/\PySem.W.kitAny K (.ref C) (ds.map Value.ref)=some b/\Q (.bl b) H
theorem bd9:E4 X (.builtin "isinstance") (bl8 X.K):=by
 intro pins s σ H xs us Q I r h;obtain ⟨a,C,tp,ds,b,rfl,hH,ht,ei,hk,q⟩:=h;obtain ⟨u1,u2,rfl,r1,r2⟩:=aa8 r;cases (show u1=Value.ref a from r1);cases (show u2=Value.ref tp from r2);have p:=(show A1 X.prog X.w H s.heap a (U9 a C) from I.hok a _ hH).1;obtain ⟨its,rv,⟨o,ho,hc,n,hd⟩,_⟩:=I.tuple (V2.of ht);obtain ⟨c,dd,dt,sl⟩:=o;cases hc;cases hd;have e:=aj6 rv;subst e
 exact PySem.W.kia_tup (ao2 ei) I.kIn p ho hk (fun z=>nomatch z) fun tk=>⟨.bl b,H,I.tok tk,rfl,q⟩
theorem bp0 {a b:Expr}{ta:TA}{p pos:Pos}(hm:X.mg "isinstance"=none)(ha:PA X [a,b] ta)(hg:Gl X "isinstance":=by rfl)
 (he:starEach [a,b] X.env=(false,eval a X.env)::starEach [b] X.env:=by rfl) (hpl:(backTo pos (starEach [b] X.env)).any (·.1)=false:=by rfl):
 PE X (.Call (.Name "isinstance" p) [a,b] [] pos) (Q8 (bl8 X.K) ta):=G7 bd9 hg hm ac8 ha (by decide) (by decide) he hpl
end
end L2
namespace L2
open PySem PySem.Spec PyProof PyProof.Rows
open PySem.Builtin PySem.Builtin.Str PySem.Builtin.BaseException PySem.Builtin.Exceptions
section
variable {prog:Program} {w:World} {A:Around} {E:Value->Shared->Prop} {s:Shared} {K:PySem.W.Frag} {a C t0:Addr} {m:Str} {tk:Tok}
structure N5 (h:Heap)(a C t0:Addr)(m:Str)(tk:Tok):Prop where
 ob:∃oe vs,h.get? a=some oe/\oe.cls= .ref C/\oe.data= .fields vs/\vs[0]? =some (.ref t0)
 tup:h.TupAt t0 [.str m tk]
theorem N5.args {M:Model}{Q:Value×List Value->Shared->Prop}(x:N5 s.heap a C t0 m tk)(hq:Q (.ref t0,[.str m tk]) s):wpAny M A (bexcArgs (.ref a)) Q E s:=by
 obtain ⟨⟨o,vs,ho,_,hd,h0⟩,ot,k,hto,_,htd⟩:=x;unfold bexcArgs;exact wpAny_bind (wpAny_field ho hd h0 (wpAny_bind (wpAny_seqItems hto htd (wpAny_pure hq))))
theorem N5.entry {Q:Fin->Shared->Prop}(x:N5 s.heap a C t0 m tk)(hq:Q (.done (.ret (.str m tk))) s):wpAny (model prog w) A (Builtin.«BaseException.__str__» ⟨[.ref a],[]⟩) Q E s:=by
 unfold Builtin.«BaseException.__str__»
 repeat (first|with_reducible refine x.args ?_|wp_step)
 exact hq
theorem ax5 {M:Model}{Q:Unit->Shared->Prop}(X:K.In s.heap)(L0:PySem.W.Looks M s.heap (typeOf (.ref a)) (.ref C))(hm:PySem.W.mroIn K C (.type "BaseException")=some true)
   (hq:Q () s):wpAny M A (checkBuiltinCall "BaseException.__str__" ⟨[.ref a],[]⟩) Q E s:=by
 obtain ⟨hh,g,dr,t,os⟩:=s;have L1:=PySem.W.looks_mroIn (M:=M) X hm
 have hk:builtinKind "BaseException.__str__"=some .slot:=by decide+kernel
 have hsplit:splitId "BaseException.__str__"=some ("BaseException","__str__"):=by decide+kernel
 have ha:=F.args_bexc_str (.ref a);simp only[checkBuiltinCall,hk,hsplit];unfold isInstance
 repeat (first|lk|wp_step)
 exact hq
theorem N5.special {Q:Option Value->Shared->Prop}(x:N5 s.heap a C t0 m tk)(X:K.In s.heap)(hf:PySem.W.findIn K (.ref C) "__str__"=some (some (.builtin "BaseException.__str__")))(hm:PySem.W.mroIn K C (.type "BaseException")=some true)
   (hq:Q (some (.str m tk)) s):wpAny (model prog w) A (callSpecial? (.ref a) "__str__") Q E s:=by
 have L0:PySem.W.Looks (model prog w) s.heap (typeOf (.ref a)) (.ref C):=by
   obtain ⟨⟨o,vs,ho,hc,hd,h0⟩,_⟩:=x;exact hc▸(PySem.W.Looks.ld ho).andThen .now
 have L1:=PySem.W.looks_findIn (M:=model prog w) X hf
 have hx:wpAny (model prog w) A (call (.builtin "BaseException.__str__") [.ref a]) (fun v=>Q (some v)) E s:=
   wpAny_call (codeAny_call_builtin PySem.F.excStr_ValueError.str.plain F.entry_bexc_str (ax5 X L0 hm (x.entry hq)))
 obtain ⟨hh,g,dr,t,os⟩:=s;simp only[callSpecial?];unfold specialOf;refine wpAny_bind (wpAny_bind (L0.at (L1.at ?_)));simp only[PySem.F.excStr_ValueError.str.bind];exact wpAny_holding (wpAny_bind (wpAny_pure (wpAny_bind (wpAny_mono hx (fun v s' h'=>wpAny_pure h') fun _ _ h'=>h'))))
theorem N5.strOf {Q:Value->Shared->Prop}(x:N5 s.heap a C t0 m tk)(X:K.In s.heap)(hf:PySem.W.findIn K (.ref C) "__str__"=some (some (.builtin "BaseException.__str__")))(hm:PySem.W.mroIn K C (.type "BaseException")=some true)
   (hu:A.units < cLine) (hq:Q (.str m tk) s):wpAny (model prog w) A (Builtin.Str.strOf (.ref a)) Q E s:=by
 unfold Builtin.Str.strOf
 repeat (first|with_reducible refine wpAny_cRoomFor hu ?_|with_reducible refine x.special X hf hm ?_|wp_step)
 exact hq
theorem N5.str {Q:Value->Shared->Prop}(x:N5 s.heap a C t0 m tk)(X:K.In s.heap)(hf:PySem.W.findIn K (.ref C) "__str__"=some (some (.builtin "BaseException.__str__")))(hm:PySem.W.mroIn K C (.type "BaseException")=some true)
   (hu:A.units+2 < cLine) (h:Q (.str m tk) s):wpAny (model prog w) A (call (.type "str") [.ref a]) Q E s:=
 callType_new F.called_str (by decide) (F.typeCall_str_1 _) (F.newCall_str_1 _) (fun obj=>F.args_object_init_2 obj _) F.entry_str_new
   (meets_str_new (S:=fun A' R s'=>A'.units+1 < cLine/\N5 s'.heap a C t0 m tk/\K.In s'.heap/\R (.ok (.ret (.str m tk))) s')
     fun _ _ A' _ _ hq=>N5.strOf (A:=A'.in1) hq.2.1 hq.2.2.1 hf hm hq.1 hq.2.2.2)
   ⟨(show A.units+1+1 < cLine from hu),x,X,typeIs_str _ _ _,h⟩
end
section
variable {X:Cx}
structure bi8 (K:PySem.W.Frag)(C:Addr):Prop where
 str:PySem.W.findIn K (.ref C) "__str__"=some (some (.builtin "BaseException.__str__"))
 bex:PySem.W.mroIn K C (.type "BaseException")=some true
def bx3 (te:TE):TE:=fun σ H Q=>te σ H fun v H1=>∃m,v= .str m/\Q (.str m) H1
theorem au2 {x:Str}{C:Addr}{e:Expr}{te:TE}{sp np cpos pos:Pos}(hms:X.mg "str"=none)(c:T3 X.K X.mg x C)(cs:bi8 X.K C)(hu:X.A.units+64 < cLine)(he:PE X e te)(hgs:Gl X "str":=by rfl)(hg:Gl X x:=by rfl)
   (hs:starEach [e] X.env=(false,eval e X.env)::starEach [] X.env:=by rfl) (hd:(x==("__debug__":Str))=false:=by decide)
   (ho:starEach [.Call (.Name x np) [e] [] cpos] X.env=(false,eval (.Call (.Name x np) [e] [] cpos) X.env)::starEach [] X.env:=by rfl):
   PE X (.Call (.Name "str" sp) [.Call (.Name x np) [e] [] cpos] [] pos) (bx3 te):=by
 intro pins s σ H Q I h;obtain ⟨bm,N,nm,qn,bs,hdct,sn,sub,ab,col,dd,k0,k1,k2,k3,k5,mN,hC,hN,hni,T⟩:=au0 I.ok.mod.kin c.ex;refine wpAny_Call_Name_kw (O3 I hgs hms Z8 ?_ (by decide) (by decide));refine PyProof.Rows.callWith_type1 ?_ ho rfl;rw[ho];refine Calls.spliced_cons (wpAny_Call_ofName (R9 I hg c.mg ?_ hd));rw[hs];unfold callWith;refine wpAny_bind (wpAny_holding (Calls.evalArgs_plain (Calls.spliced_cons (v0 (he pins s σ H _ I h) fun v s1 ⟨y,H1,I1,rx,q⟩=>Calls.spliced_nil (wpAny_bind (wpAny_standAt ?_))))));obtain ⟨m,rfl,q⟩:=q;obtain ⟨tk,rfl⟩:=rx;have hC1:=I1.kIn _ _ hC;have hN1:=hN.keeps I1.bk;have T1:=T.keeps I1.bk;obtain ⟨hp,g,d,tks,os⟩:=s1;refine wpAny_bind (wpAny_keeperOf_exc hC1 ?_);refine wpAny_bind (wpAny_call_exc_subT (hrest:=(by show 1<=sizeLine;decide)) PySem.F.excBase_ValueError T1 hC1 hN1 hni fun h' e' hm=>wpAny_bind (wpAny_holding (wpAny_point (wpAny_pure (Calls.spliced_nil ?_)))));have I2:i8 X pins σ H1 ⟨h',g,d,tks,os⟩:=I1.kept (t':=tks) hm.keeps;obtain ⟨t,h1,h2,h3⟩:=hm.there;have et:N5 h' e' C t m tk:=⟨⟨_,_,h1,rfl,rfl,rfl⟩,⟨_,_,h3,rfl,rfl⟩⟩;exact et.str I2.kIn cs.str cs.bex (by omega) ⟨.str m,H1,I2,⟨tk,rfl⟩,q⟩
def bx4:V->V->Hp->VK->Prop:=fun x y H Q=>∃(t:Str) (n:Int),x= .str t/\y= .int n/\PySem.MulOk t n/\Q (.str (Txt.mul t n)) H
theorem bp1:G2 X (binaryOp .Mult) bx4:=by
 intro pins s σ H x y u v Q I rx ry h;obtain ⟨t,n,rfl,rfl,ok,q⟩:=h;obtain ⟨k,rfl⟩:=rx;obtain ⟨k2,rfl⟩:=ry
 exact SB.mul ok fun t' k'=>⟨.str _,H,I.tok k',⟨_,rfl⟩,q⟩
end
end L2
namespace L2
open PySem PySem.Spec PyProof.Rows
section
variable {P:Program} {w:World} {K:PySem.W.Frag} {mg:Str->Option Value} {base h:Heap} {x:Str} {st:Stmt} {f:Addr} {fd:FuncData} {ps:List Str} {k:Nat} {sp:Sp}
def Fu (K:PySem.W.Frag)(x:Str)(st:Stmt)(f:Addr):Prop:=∃fd,PySem.W.nsIn K mainGlobals x=some (some (.ref f))/\B6 K x x st f fd
theorem bx5 {oc:Value}{od an:Option Addr}{osl:Array (Option Value)}{kV doc pm cdv ct:Value}(a:PySem.W.nsIn K mainGlobals x=some (some (.ref f)))(l:K.lookup f=some ⟨oc,od,.func (PySem.W.fnOf x x (S0 st) (L4 st) (j8 st) .none kV doc pm an cdv ct),osl⟩)
 (c:PySem.W.codeIn K cdv x=true) (k:PySem.W.keepIn K (.ref f)=true):Fu K x st f:=⟨_,a,bt4 l c k⟩
theorem A7 (X:K.In h)(G:h.Ns mainGlobals mg)(a:PySem.W.nsIn K mainGlobals x=some (some (.ref f)))(F:B6 K x x st f fd)(b:R3 K fd ps [])(ok:o4 P w K mg base C6 k f fd ps sp):A0 P w K mg base x k ps sp:=⟨f,fd,PySem.W.mg_of X G a,F.kp,b,ok⟩
theorem W1 (X:K.In h)(G:h.Ns mainGlobals mg)(a:PySem.W.nsIn K mainGlobals x=some (some (.ref f)))(F:B6 K x x st f fd)(b:R3 K fd ps [])(ok:o4 P w K mg base (Q9 P w) k f fd ps sp):K0 P w K mg base x k ps sp:=⟨f,fd,PySem.W.mg_of X G a,F.kp,b,ok⟩
def Fre (K:PySem.W.Frag):List Str->Prop
 |[]=>True
 |x::l=>PySem.W.nsIn K mainGlobals x=some none/\Fre K l
structure ClF (K:PySem.W.Frag)(T:Addr)(x:Str)(q:Addr):Prop where
 n:PySem.W.nsIn K mainGlobals x=some (some (.ref q))
 e:PySem.W.excIn K q veB "ValueError.__new__"=true
 g:PySem.W.findIn K (.ref q) "__getattribute__"=some (some (.builtin "BaseException.__getattribute__"))
 h:PySem.W.findIn K (.ref q) "__getattr__"=some none
 c:PySem.W.findIn K (.ref q) "__class__"=some (some (.builtin "object.__class__"))
 b:PySem.W.mroIn K q (.type "BaseException")=some true
 o:PySem.W.mroIn K q (.type "object")=some true
 i:PySem.W.isClsIn K q=true
 t:PySem.W.typeIn K (.ref q)=some (.type "type")
 u:PySem.W.mroIn K q (.ref T)=some true
 v:PySem.W.mroIn K q (.type "ValueError")=some true
 s:PySem.W.findIn K (.ref q) "__str__"=some (some (.builtin "BaseException.__str__"))
def ah4 (K:PySem.W.Frag)(T:Addr):List (Str×Addr)->Prop
 |[]=>True
 |(x,q)::l=>ClF K T x q/\ah4 K T l
def PrI (K:PySem.W.Frag)(i:Nat)(a:Addr):Nat->List (Str×Addr)->Prop
 |_,[]=>True
 |j,(_,b)::l=>PySem.W.mroIn K a (.ref b)=some (Nat.beq i j)/\PrI K i a (j+1) l
def ah5 (K:PySem.W.Frag)(all:List (Str×Addr)):Nat->List (Str×Addr)->Prop
 |_,[]=>True
 |i,(_,a)::l=>PrI K i a 0 all/\ah5 K all (i+1) l
theorem ah4.get {T:Addr}:∀{cs:List (Str×Addr)},ah4 K T cs->∀p∈cs,ClF K T p.1 p.2
 |(x,q)::l,h,p,hp=>by
  rcases ce0.mp hp with rfl|hp
  · exact h.1
  · exact ah4.get h.2 p hp
theorem PrI.get {i:Nat}{a:Addr}:∀{l:List (Str×Addr)} {j0:Nat},PrI K i a j0 l->∀j q,l[j]? =some q->PySem.W.mroIn K a (.ref q.2)=some (Nat.beq i (j0+j))
 |(x,b)::l,j0,h,0,q,e=>by
  cases e;exact h.1
 |(x,b)::l,j0,h,j+1,q,e=>by
  have:=PrI.get h.2 j q e;rw[this,show j0+1+j=j0+(j+1) by omega]
theorem ah5.get {all:List (Str×Addr)}:∀{l:List (Str×Addr)} {i0:Nat},ah5 K all i0 l->∀i p,l[i]? =some p->PrI K (i0+i) p.2 0 all
 |(x,b)::l,i0,h,0,p,e=>by
  cases e;exact h.1
 |(x,b)::l,i0,h,i+1,p,e=>by
  have:=ah5.get h.2 i p e;rw[show i0+1+i=i0+(i+1) by omega] at this;exact this
theorem be0 {T:Addr}{cs:List (Str×Addr)}(X:K.In h)(G:h.Ns mainGlobals mg)(uT:PySem.W.nsIn K mainGlobals "TurnError"=some (some (.ref T)))(uTb:PySem.W.mroIn K T (.type "BaseException")=some true)(uTc:PySem.W.isClsIn K T=true)(uTt:PySem.W.typeIn K (.ref T)=some (.type "type"))
   (uG:PySem.W.specialIn K (.builtin "object.__class__") "__get__"=some (some (.builtin "getset_descriptor.__get__"))) (uK:PySem.W.takesIn K (.builtin "object.__class__")=some true) (uC:ah4 K T cs) (uP:ah5 K cs 0 cs) (nd:(cs.map (·.1)).Nodup):Z9 K mg T cs:=by
 have key:∀p∈cs,∀q∈cs,PySem.W.mroIn K p.2 (.ref q.2)=some (decide (p.1=q.1))/\(p.2=q.2->decide (p.1=q.1)=true):=fun p hp q hq=>by
   obtain ⟨i,hi⟩:=List.getElem?_of_mem hp;obtain ⟨j,hj⟩:=List.getElem?_of_mem hq
   have e:∀{k:Nat} {r:Str×Addr},cs[k]? =some r->PySem.W.mroIn K p.2 (.ref r.2)=some (Nat.beq i k):=fun {k r} hr=>by
     have:=(uP.get i p hi).get k r hr;rw[Nat.zero_add,Nat.zero_add] at this;exact this
   have eb:decide (p.1=q.1)=Nat.beq i j:=by
     by_cases z:i=j
     · subst z;rw[hi] at hj;cases hj;rw[decide_eq_true rfl,Nat.beq_refl]
     · have:Nat.beq i j=false:=by
         cases y:Nat.beq i j with
         |false=>rfl
         |true=>exact absurd (Nat.eq_of_beq_eq_true y) z
       rw[this]
       refine decide_eq_false fun y=>z ?_
       have i1:i < (cs.map (·.1)).length:=by rw[cc4];exact (cc5.mp hi).1
       refine (List.getElem?_inj i1 nd).mp ?_;rw[ce3,ce3,hi,hj];exact congrArg some y
   rw[eb];refine ⟨e hj,fun z=> ?_⟩;have a:=e hi;rw[z] at a;have b:=e hj;rw[z,a,Nat.beq_refl] at b;exact (Option.some.inj b).symm
 refine ⟨PySem.W.mg_of X G uT,fun p hp=> ?_,fun p hp=> ?_,fun p hp=> ?_,fun p hp=> ?_,fun p hp q hq=> ?_,fun p hp q hq=> ?_⟩
 · exact ⟨PySem.W.mg_of X G (uC.get p hp).n,(uC.get p hp).e⟩
 · have c:=uC.get p hp;exact bo8 c.g c.h c.c uG uK c.b c.o c.i
 · exact au1 uTb uTc uTt (uC.get p hp).u
 · exact bu0 (uC.get p hp).v
 · have c:=uC.get q hq;exact bo7 c.i c.t (key p hp q hq).1 (key p hp q hq).2
 · have c:=uC.get q hq;exact au1 c.b c.i c.t (key p hp q hq).1
end
end L2
namespace L2
open PySem PySem.Spec PyProof PyProof.Rows
mutual
inductive I0 (h:Heap):Value->PyData->Prop
 |non:I0 h .none .none
 |bl (b:Bool):I0 h (.bool b) (.bool b)
 |int (i:Int) (t:Tok):I0 h (.int i t) (.int i)
 |str (x:Str) (t:Tok):I0 h (.str x t) (.str x)
 |lst {a:Addr} {o:Obj} {vs:Array Value} {n:Nat} {ds:List PyData} (g:h.get? a=some o) (c:o.cls= .type "list") (e:o.data= .seq vs n) (r:B5 h vs.toList ds):I0 h (.ref a) (.list ds)
 |tup {a:Addr} {o:Obj} {vs:Array Value} {n:Nat} {ds:List PyData} (g:h.get? a=some o) (c:o.cls= .type "tuple") (e:o.data= .seq vs n) (r:B5 h vs.toList ds):I0 h (.ref a) (.tuple ds)
 |dic {a:Addr} {o:Obj} {es:Array DictEntry} {n:Nat} {kds:List (PyData×PyData)} (g:h.get? a=some o) (c:o.cls= .type "dict") (e:o.data= .dict es n) (ns:(a==sysModules)=false)
     (rk:B5 h (es.toList.map (·.key)) (kds.map (·.1))) (rv:B5 h (es.toList.map (·.val)) (kds.map (·.2))):I0 h (.ref a) (.dict kds)
inductive B5 (h:Heap):List Value->List PyData->Prop
 |nil:B5 h [] []
 |cons {u:Value} {us:List Value} {d:PyData} {ds:List PyData} (r:I0 h u d) (rs:B5 h us ds):B5 h (u::us) (d::ds)
end
mutual
theorem I0.reads {h:Heap}:∀{u:Value} {d:PyData},I0 h u d->∃as,Reads h u d as
 |_,_,.non=>⟨_,.none⟩
 |_,_,.bl b=>⟨_,.bool b⟩
 |_,_,.int i t=>⟨_,.int i t⟩
 |_,_,.str x t=>⟨_,.str x t⟩
 |_,_,.lst g c e r=>let ⟨_,q⟩:=B5.reads r;⟨_,.list g c e q⟩
 |_,_,.tup g c e r=>let ⟨_,q⟩:=B5.reads r;⟨_,.tuple g c e q⟩
 |_,_,.dic g c e _ rk rv=>let ⟨_,q⟩:=B5.reads rk;let ⟨_,p⟩:=B5.reads rv;⟨_,.dict g c e q p⟩
theorem B5.reads {h:Heap}:∀{us:List Value} {ds:List PyData},B5 h us ds->∃as,ReadsAll h us ds as
 |_,_,.nil=>⟨_,.nil⟩
 |_,_,.cons r rs=>let ⟨_,q⟩:=I0.reads r;let ⟨_,p⟩:=B5.reads rs;⟨_,.cons q p⟩
end
section
variable {prog:Program} {w:World} {h:Heap}
mutual
theorem I0.shows:∀{u:Value} {d:PyData},I0 h u d->d.showable=true->d.shown.length<=sizeLine->∃bs,ReadAtMost h d.depth bs/\ReprK prog w bs h d.depth u d.shown
 |_,_,.non,_,_=>⟨[],(fun _ z=>nomatch z),by rw[PyData.shown];exact .of_is ReprIs.none _ _ _⟩
 |_,_,.bl b,_,_=>⟨[],(fun _ z=>nomatch z),by rw[PyData.shown];exact .of_is (ReprIs.bool b) _ _ _⟩
 |_,_,.int i t,s,_=>⟨[],(fun _ z=>nomatch z),by rw[PyData.shown];exact .of_is (ReprIs.int t (by simpa [PyData.showable] using s)) _ _ _⟩
 |_,_,.str x t,_,z=>⟨[],(fun _ y=>nomatch y),by rw[PyData.shown] at z ⊢;exact .of_is (ReprIs.str x t z) _ _ _⟩
 |_,_,.lst (a:=a) (vs:=vs) (ds:=ds) g c e r,s,z=>by
  rw[PyData.shown] at z
  obtain ⟨bs,b,k⟩:=B5.shows r (by simpa [PyData.showable] using s) fun t ht=>cd3 (listText_mem_le ht) z
  obtain ⟨as,q⟩:=I0.reads (.lst g c e r);have no:=not_mem_of_deeper q (by rw[PyData.depth];omega) b;refine ⟨a::bs,ReadAtMost.cons q (by rw[PyData.depth];omega) b,?_⟩;rw[PyData.depth,PyData.shown];obtain ⟨l⟩:=vs
  cases l with
  |nil=>
   cases (show B5 h [] ds from r);rw[PyData.shownAll,listText_nil];exact ReprK.listEmpty g c e
  |cons x l=>exact ReprK.list g c e no (by simpa using k.length_eq) fun i y ey=>k.item i y (by simpa using ey)
 |_,_,.tup (a:=a) (ds:=ds) g c e r,s,z=>by
  rw[PyData.shown] at z
  obtain ⟨bs,b,k⟩:=B5.shows r (by simpa [PyData.showable] using s) fun t ht=>cd3 (tupleText_mem_le ht) z
  obtain ⟨as,q⟩:=I0.reads (.tup g c e r);have no:=not_mem_of_deeper q (by rw[PyData.depth];omega) b;refine ⟨a::bs,ReadAtMost.cons q (by rw[PyData.depth];omega) b,?_⟩;rw[PyData.depth,PyData.shown];exact ReprK.tuple g c e no k
 |_,_,.dic (a:=a) (es:=es) (kds:=kds) g c e ns rk rv,s,z=>by
  rw[PyData.shown] at z;obtain ⟨s1,s2⟩:=PyData.showableKv_split kds (by simpa [PyData.showable] using s)
  obtain ⟨b1,m1,k1⟩:=B5.shows rk s1 fun t ht=>by
    obtain ⟨y,hy,l⟩:=PyData.shownKv_key_le kds t ht;exact cd3 l (cd3 (dictText_mem_le hy) z)
  obtain ⟨b2,m2,k2⟩:=B5.shows rv s2 fun t ht=>by
    obtain ⟨y,hy,l⟩:=PyData.shownKv_val_le kds t ht;exact cd3 l (cd3 (dictText_mem_le hy) z)
  obtain ⟨as,q⟩:=I0.reads (.dic g c e ns rk rv);have b:ReadAtMost h (PyData.depthKv kds) (b1++b2):=ReadAtMost.append (m1.mono (PyData.depthAll_keys_le kds)) (m2.mono (PyData.depthAll_vals_le kds));have no:=not_mem_of_deeper q (by rw[PyData.depth];omega) b;refine ⟨a::(b1++b2),ReadAtMost.cons q (by rw[PyData.depth];omega) b,?_⟩;rw[PyData.depth,PyData.shown,PyData.shownKv_eq];have j1:=k1.more_le (as':=b1++b2) (fun _ y=>cf8 _ y) (PyData.depthAll_keys_le kds);have j2:=k2.more_le (as':=b1++b2) (fun _ y=>cd4 _ y) (PyData.depthAll_vals_le kds);exact ReprK.dict g c e ns no (ReprEntriesK.of_two es.toList _ _ j1 j2)
theorem B5.shows:∀{us:List Value} {ds:List PyData},B5 h us ds->PyData.showableAll ds=true->(∀t∈PyData.shownAll ds,t.length<=sizeLine)->
   ∃bs,ReadAtMost h (PyData.depthAll ds) bs/\ReprAllK prog w bs h (PyData.depthAll ds) us (PyData.shownAll ds)
 |_,_,.nil,_,_=>⟨[],(fun _ z=>nomatch z),by rw[PyData.shownAll];exact .nil⟩
 |_,_,.cons (d:=d) (ds:=ds) r rs,s,z=>by
  have s':d.showable=true/\PyData.showableAll ds=true:=by simpa [PyData.showableAll] using s
  rw[PyData.shownAll] at z;obtain ⟨b1,m1,k1⟩:=I0.shows r s'.1 (z _ cd0)
  obtain ⟨b2,m2,k2⟩:=B5.shows rs s'.2 fun t ht=>z t (cc9 _ ht)
  rw[PyData.depthAll,PyData.shownAll];refine ⟨b1++b2,fun b hb=> ?_,.cons ((k1.more fun _ y=>cf8 _ y).level_le (Nat.le_max_left _ _)) (k2.more_le (fun _ y=>cd4 _ y) (Nat.le_max_right _ _))⟩
  rcases cd2.mp hb with y|y
  · obtain ⟨d1,as1,r1,l1⟩:=m1 b y;exact ⟨d1,as1,r1,cd3 l1 (Nat.le_max_left _ _)⟩
  · obtain ⟨d1,as1,r1,l1⟩:=m2 b y;exact ⟨d1,as1,r1,cd3 l1 (Nat.le_max_right _ _)⟩
end
theorem I0.by_ {a:Addr}{d:PyData}(r:I0 h (.ref a) d)(s:d.showable=true)(z:d.shown.length<=sizeLine):∃T idr,ShowsBy prog w h a d T idr:=by
 obtain ⟨as,q⟩:=r.reads
 cases r with
 |lst g c e r=>
  rename_i o vs n ds;rw[PyData.shown] at z
  obtain ⟨bs,b,k⟩:=B5.shows (prog:=prog) (w:=w) r (by simpa [PyData.showable] using s) fun t ht=>cd3 (listText_mem_le ht) z
  have no:=not_mem_of_deeper q (by rw[PyData.depth];omega) b;refine ⟨"list","list.__repr__",F.slot_list_repr.toG,F.slot_list_str,F.slot_list_format,fun s k0=>⟨o,k0 _ _ g,c⟩,fun A E s0 Q hg u k0 hq=> ?_⟩;rw[PyData.depth] at u;rw[PyData.shown] at hq;obtain ⟨l⟩:=vs
  cases l with
  |nil=>
   cases (show B5 h [] ds from r);rw[PyData.shownAll,listText_nil] at hq;exact call_list_repr_empty ⟨o,k0 _ _ g,c⟩ (k0 _ _ g) e (hq s0.heap _ _ fun _ _ y=>y)
  |cons x l=>exact call_list_reprK g c e no (by simpa using k.length_eq) (fun i y ey=>k.item i y (by simpa using ey)) hg (fun b _=>Clear.nil b) u k0 hq z
 |tup g c e r=>
  rename_i o vs n ds;rw[PyData.shown] at z
  obtain ⟨bs,b,k⟩:=B5.shows (prog:=prog) (w:=w) r (by simpa [PyData.showable] using s) fun t ht=>cd3 (tupleText_mem_le ht) z
  have no:=not_mem_of_deeper q (by rw[PyData.depth];omega) b;refine ⟨"tuple","tuple.__repr__",F.slot_tuple_repr,F.slot_tuple_str,F.slot_tuple_format,fun s k0=>⟨o,k0 _ _ g,c⟩,fun A E s0 Q hg u k0 hq=> ?_⟩;rw[PyData.depth] at u;rw[PyData.shown] at hq;exact call_tuple_reprK g c e no k hg (fun b _=>Clear.nil b) u k0 hq z
 |dic g c e ns rk rv=>
  rename_i o es n kds;rw[PyData.shown] at z;obtain ⟨s1,s2⟩:=PyData.showableKv_split kds (by simpa [PyData.showable] using s)
  obtain ⟨b1,m1,k1⟩:=B5.shows (prog:=prog) (w:=w) rk s1 fun t ht=>by
    obtain ⟨y,hy,l⟩:=PyData.shownKv_key_le kds t ht;exact cd3 l (cd3 (dictText_mem_le hy) z)
  obtain ⟨b2,m2,k2⟩:=B5.shows (prog:=prog) (w:=w) rv s2 fun t ht=>by
    obtain ⟨y,hy,l⟩:=PyData.shownKv_val_le kds t ht;exact cd3 l (cd3 (dictText_mem_le hy) z)
  have b:ReadAtMost h (PyData.depthKv kds) (b1++b2):=ReadAtMost.append (m1.mono (PyData.depthAll_keys_le kds)) (m2.mono (PyData.depthAll_vals_le kds));have no:=not_mem_of_deeper q (by rw[PyData.depth];omega) b;refine ⟨"dict","dict.__repr__",F.slot_dict_repr,F.slot_dict_str,F.slot_dict_format,fun s k0=>⟨o,k0 _ _ g,c⟩,fun A E s0 Q hg u k0 hq=> ?_⟩;rw[PyData.depth] at u;rw[PyData.shown,PyData.shownKv_eq] at hq;rw[PyData.shownKv_eq] at z;have j1:=k1.more_le (as':=b1++b2) (fun _ y=>cf8 _ y) (PyData.depthAll_keys_le kds);have j2:=k2.more_le (as':=b1++b2) (fun _ y=>cd4 _ y) (PyData.depthAll_vals_le kds);exact call_dict_reprK g c e ns no (ReprEntriesK.of_two es.toList _ _ j1 j2) hg (fun b _=>Clear.nil b) u k0 hq z
end
mutual
inductive Da (H:Hp):V->PyData->Prop
 |non:Da H .non .none
 |bl (b:Bool):Da H (.bl b) (.bool b)
 |int (i:Int):Da H (.int i) (.int i)
 |str (x:Str):Da H (.str x) (.str x)
 |lst {a:Addr} {xs:List V} {ds:List PyData} (e:H a=some (.lst xs)) (h:M4 H xs ds):Da H (.ref a) (.list ds)
 |tup {a:Addr} {xs:List V} {ds:List PyData} (e:H a=some (.tup xs)) (h:M4 H xs ds):Da H (.ref a) (.tuple ds)
 |dic {a:Addr} (e:H a=some (.dK [])):Da H (.ref a) (.dict [])
inductive M4 (H:Hp):List V->List PyData->Prop
 |nil:M4 H [] []
 |cons {x:V} {xs:List V} {d:PyData} {ds:List PyData} (h:Da H x d) (hs:M4 H xs ds):M4 H (x::xs) (d::ds)
end
mutual
theorem Da.keep {H H':Hp}(s:c9 H H'):∀{v:V} {d:PyData},Da H v d->Da H' v d
 |_,_,.non=> .non
 |_,_,.bl b=> .bl b
 |_,_,.int i=> .int i
 |_,_,.str x=> .str x
 |_,_,.lst e h=> .lst (s _ _ e) (M4.keep s h)
 |_,_,.tup e h=> .tup (s _ _ e) (M4.keep s h)
 |_,_,.dic e=> .dic (s _ _ e)
theorem M4.keep {H H':Hp}(s:c9 H H'):∀{vs:List V} {ds:List PyData},M4 H vs ds->M4 H' vs ds
 |_,_,.nil=> .nil
 |_,_,.cons h hs=> .cons (Da.keep s h) (M4.keep s hs)
end
mutual
theorem Da.rd {X:Cx}{pins:List (Addr×Obj)}{σ:St}{H:Hp}{s:Shared}(I:i8 X pins σ H s):∀{v:V} {d:PyData} {u:Value},Da H v d->o9 v u->I0 s.heap u d
 |_,_,u,.non,r=>by cases (show u=Value.none from r);exact .non
 |_,_,u,.bl b,r=>by cases (show u=Value.bool b from r);exact .bl b
 |_,_,u,.int i,r=>by obtain ⟨t,rfl⟩:=r;exact .int i t
 |_,_,u,.str x,r=>by obtain ⟨t,rfl⟩:=r;exact .str x t
 |_,_,u,.lst e h,r=>by
  cases r;obtain ⟨z,its,n,rv,hl,ho⟩:=I.lstM e;exact .lst ho rfl rfl (by simpa using M4.rd I h rv)
 |_,_,u,.tup e h,r=>by
  cases r;obtain ⟨z,its,rv,o,ho,hc,n,hd⟩:=I.hok _ _ e;exact .tup ho hc hd (by simpa using M4.rd I h rv)
 |_,_,u,.dic e,r=>by
  cases r;obtain ⟨hz,hS,vs,kv,o,es,ep,ho,hx,hd,hk,hp,hn⟩:=I.hok _ _ e;cases kv
  have ee:es.toList=[]:=by
    cases hq:es.toList with
    |nil=>rfl
    |cons x xs=>rw[hq] at hp;cases hp
  exact .dic (kds:=[]) ho hx.1 hd hS (by rw[ee];exact .nil) (by rw[ee];exact .nil)
theorem M4.rd {X:Cx}{pins:List (Addr×Obj)}{σ:St}{H:Hp}{s:Shared}(I:i8 X pins σ H s):∀{vs:List V} {ds:List PyData} {us:List Value},M4 H vs ds->k7 vs us->B5 s.heap us ds
 |_,_,_,.nil,.nil=> .nil
 |_,_,_,.cons h hs,.cons r rs=> .cons (Da.rd I h r) (M4.rd I hs rs)
end
structure DaS (H:Hp)(v:V)(d:PyData):Prop where
 da:Da H v d
 ok:d.showable=true
 le:d.shown.length<=sizeLine
 dp:d.depth<=8
end L2
namespace My
open PySem L2 Mth
def top (i:Nat):Stmt:=PySem.Challenge.pw_turnroots_k05_turns_refused.main.body.getD i (.Pass ⟨0,0,0,0⟩)
abbrev X5:Stmt:=top 13
abbrev V0:Stmt:=top 14
abbrev T4:Stmt:=top 15
abbrev T5:Stmt:=top 16
abbrev O8:Stmt:=top 19
abbrev E7:Stmt:=top 20
abbrev M5:Stmt:=top 21
abbrev J0:Stmt:=top 22
abbrev M6:Stmt:=top 23
abbrev M7:Stmt:=top 24
abbrev X6:Stmt:=top 26
abbrev X7:Stmt:=top 27
abbrev N6:Stmt:=top 28
abbrev K7:Stmt:=top 29
abbrev Q4:Stmt:=top 30
abbrev X8:Stmt:=top 31
abbrev Q5:Stmt:=top 32
abbrev aa1:Stmt:=top 33
abbrev T6:Stmt:=top 34
abbrev ad3:Stmt:=top 35
abbrev T7:Stmt:=top 36
abbrev T8:Stmt:=top 37
abbrev V1:Stmt:=top 38
abbrev ab0:Stmt:=top 39
end My
namespace My
open PySem L2 Mth
structure Bl (mg:Str->Option Value):Prop where
 len:mg "len"=none
 isi:mg "isinstance"=none
 int:mg "int"=none
 bool:mg "bool"=none
 list:mg "list"=none
 range:mg "range"=none
 sum:mg "sum"=none
 min:mg "min"=none
 max:mg "max"=none
 enum:mg "enumerate"=none
 zip:mg "zip"=none
 sorted:mg "sorted"=none
 tuple:mg "tuple"=none
 str:mg "str"=none
 repr:mg "repr"=none
 all:mg "all"=none
 any:mg "any"=none
 set:mg "set"=none
 dict:mg "dict"=none
 ve:mg "ValueError"=none
section
variable {P:Program} {w:World} {K:PySem.W.Frag} {mg:Str->Option Value} {base:Heap}
def ab1 (K:PySem.W.Frag):Sp:=fun vs H Q _=>∃x t b1 b2,vs=[x]/\D5 K H x t/\PySem.W.kitOne K t (.type "int")=some b1/\PySem.W.kitOne K t (.type "bool")=some b2/\Q (.bl (b1&& !b2)) H
theorem bp2:o7 ["thing"] ["thing"] (j8 X5):=by rfl'
theorem bi9 {f:Addr}{fd:FuncData}(F:B6 K "is_whole" "is_whole" X5 f fd)(B:Bl mg):o4 P w K mg base C6 1 f fd ["thing"] (ab1 K):=by
 refine F.ok bp2 (fun vs H Q E h=> ?_) (fun cdv A outer s H vs Q E hr h=> ?_)
 · obtain ⟨x,t,b1,b2,rfl,_⟩:=h;rfl
 · obtain ⟨x,t,b1,b2,rfl,ty,e1,e2,q⟩:=h;refine ⟨_,i9 (l7 (br7 (T0 B.isi (c5 (pv 0) (c5 (an4 B.int) c6))) (br6 (az6 (T0 B.isi (c5 (pv 0) (c5 (aj3 B.bool) c6))))))),?_⟩;refine ⟨x,rfl,x,"int",t,b1,rfl,ty,e1,b1,rfl,?_⟩
   cases b1 with
   |true=>
    refine B9 ⟨x,rfl,x,"bool",t,b2,rfl,ty,e2,b2,rfl,?_⟩;exact q
   |false=>exact A4 q
def X9:Sp:=fun vs H Q _=>∃(a:Addr) (ns:List Int),vs=[.ref a]/\H a=some (.lst (ns.map V.int))/\∀(b:Bool) (H':Hp),c9 H H'->(b=true↔ns.length<=40/\E6 ns)->Q (.bl b) H'
theorem ad4:o7 ["thing","seen","place"] ["thing"] (j8 O8):=by rfl'
theorem be1 {f:Addr}{fd:FuncData}(F:B6 K "is_turn" "is_turn" O8 f fd)(B:Bl mg)(mt:∃t,mg "MOST_THINGS"=some (.int 40 t))(cW:A0 P w K mg base "is_whole" 1 ["thing"] (ab1 K)):o4 P w K mg base C6 2 f fd ["thing"] X9:=by
 refine F.ok ad4 (fun vs H Q E h=> ?_) (fun cdv A outer s H vs Q E hr h=> ?_)
 · obtain ⟨a,ns,rfl,_⟩:=h;rfl
 · obtain ⟨a,ns,rfl,ha,k⟩:=h;obtain ⟨tk,mt⟩:=mt;have hu:=U4 hr
   refine ⟨_,i5 (A3 (C9 (C3 (C0 (T0 B.isi (c5 (pv 0) (c5 (Z3 B.list) c6))))) (G1 (o5 aa7 (w9 B.len (c5 (pv 0) c6)) (D6 (v:= .int 40) (by rfl) mt ⟨tk,rfl⟩) (q9 _)))).pt (i9 (l7 B4)) w6)
     (i5 (j9 (i:=1) ad4.nd rfl (Or.inl rfl) K6)
     (i5 (D9 PassesOwn.never rfl (D7 (pv 0)) (A5 (i:=2) ad4.nd rfl (Or.inl rfl))
       (i5 (A3 (C9 (C3 (C0 (j6 cW hr (c5 (pv 2) c6)))) (C9 (o5 al6 (pv 2) i4 (q9 _)) (C9 (o5 al7 (pv 2) (w9 B.len (c5 (pv 0) c6)) (q9 _)) (G1 (am0 (bb5 hu (pv 2) (pv 1))))))).pt (i9 (l7 B4)) w6)
       (i9 (ah0 hu (pv 1) (pv 2) B4 rfl))))
     (i9 (l7 B4)))),?_⟩
   refine ⟨_,rfl,_,"list",_,true,rfl,.lst ha,G8 K "list",true,rfl,?_⟩;refine A4 ⟨_,rfl,a,_,rfl,.inl (j4.of ha),_,_,rfl,rfl,_,rfl,?_⟩;rw[cc4];refine D2 (fun h40=> ?_) (fun h40=> ?_)
   · have h40:(40:Int) < (ns.length:Int):=of_decide_eq_true h40;exact k false H (c9.refl H) ⟨fun z=>(by cases z),fun z=>(by have:=z.1;omega)⟩
   · have h40:¬(40:Int) < (ns.length:Int):=fun z=>h40 (decide_eq_true z)
     intro d hd;have nad:a≠d:=i7 ha hd
     have ha1:(c8 H d (.dK [])) a=some (.lst (ns.map V.int)):=by rw[i6 nad];exact ha
     refine ⟨_,rfl,a,rfl,⟨_,j4.of ha1⟩,E8 (K:=K) (a:=a) (xs:=ns.map V.int) (fun i σ H2=>∃v:Option V,σ=[some (.ref a),some (.ref d),v]/\c9 H H2/\H2 d=some (.dK (G0 (ns.take i)))/\(ns.take i).Nodup/\∀x∈ns.take i,0<=x/\x < ns.length)
       ⟨none,rfl,c9.upd_new hd,c7,cj4,fun x hx=>by simp at hx⟩ (fun i σ H2 _ zz=>by obtain ⟨_,_,s2,_⟩:=zz;exact j4.of (s2 a _ ha)) ?_ ?_⟩
     · rintro i y σ H2 hi ⟨v,rfl,s2,h2,nd,bd⟩;obtain ⟨z,hz,rfl⟩:=D0 hi;have ha2:=s2 a _ ha;have hil:i < ns.length:=(cc5.mp hz).1;refine ⟨_,rfl,.int z,_,true,false,rfl,.int z,G8 K "int",M1 K,_,rfl,?_⟩;refine A4 ⟨_,rfl,_,_,rfl,rfl,_,rfl,?_⟩;refine D2 (fun hz0=> ?_) (fun hz0=> ?_)
       · have hz0:z < 0:=of_decide_eq_true hz0;exact B9 (k false H2 s2 ⟨fun q=>(by cases q),fun q=>(by have:=q.2.lo z (cd7 hz);omega)⟩)
       have hz0:¬z < 0:=fun q=>hz0 (decide_eq_true q)
       refine ⟨_,rfl,_,rfl,a,_,rfl,.inl (j4.of ha2),_,_,rfl,rfl,_,rfl,?_⟩;rw[cc4];refine D2 (fun hz1=> ?_) (fun hz1=> ?_)
       · have hz1:(ns.length:Int)<=z:=of_decide_eq_true hz1;exact B9 (k false H2 s2 ⟨fun q=>(by cases q),fun q=>(by have:=q.2.hi z (cd7 hz);omega)⟩)
       have hz1:¬(ns.length:Int)<=z:=fun q=>hz1 (decide_eq_true q)
       refine ⟨_,rfl,_,rfl,d,_,rfl,W8.k (k:=Sum.inl z) h2,_,rfl,?_⟩
       by_cases hm:z∈ns.take i
       · rw[ad0 hm];refine B9 (k false H2 s2 ⟨fun q=>(by cases q),fun q=> ?_⟩);exfalso;obtain ⟨j,hj⟩:=ch6.mp hm
         have hjl:j < i:=by
           have:=(cc5.mp hj).1;rw[ce4] at this;omega
         rw[cf3 hjl] at hj;have e1:=(cc5.mp hj).2;have e2:=(cc5.mp hz).2;exact ch7.mp (ce2.mp q.2.nd) j i (by omega) hil hjl (by rw[e1,e2])
       · rw[X2 hm];refine A4 ⟨_,rfl,_,rfl,d,_,rfl,ac7.k (k:=Sum.inl z) h2 (q0 (by unfold G0;rw[cc4,ce4];omega)),?_⟩
         have hds:∀b o,H b=some o->b≠d:=fun b o e=>i7 e hd
         refine ⟨some (.int z),rfl,fun b o e=>by rw[i6 (hds b o e)];exact s2 b o e,?_,?_,?_⟩
         · rw[Z4 hm,c7,B3 hz]
         · rw[B3 hz];exact V8 nd hm
         · intro x hx;rw[B3 hz] at hx
           rcases cd2.mp hx with q|q
           · exact bd x q
           · have:x=z:=by simpa using q
             omega
     · rintro σ H2 ⟨v,rfl,s2,h2,nd,bd⟩;rw[cc4,cf7] at nd bd;refine k true H2 s2 ⟨fun _=>⟨by omega,⟨nd,fun x hx=>(bd x hx).1,fun x hx=>(bd x hx).2⟩⟩,fun _=>rfl⟩
end
end My
namespace My
open PySem L2 Mth
section
variable {P:Program} {w:World} {K:PySem.W.Frag} {mg:Str->Option Value} {base:Heap}
def D3 (H:Hp)(a:Addr)(p:List Int):Prop:=H a=some (.lst (p.map V.int))/\E6 p/\p.length<=40
end
end My
namespace My
open PySem L2 Mth
section
variable {P:Program} {w:World} {K:PySem.W.Frag} {mg:Str->Option Value} {base:Heap}
def T9:Sp:=fun vs H Q _=>∃(a:Addr) (ns:List Int),vs=[.ref a]/\D3 H a ns/\∀(H':Hp),c9 H H'->Q .non H'
theorem be2:o7 ["thing"] ["thing"] (j8 E7):=by rfl'
theorem au4 {f:Addr}{fd:FuncData}(F:B6 K "must_be_turn" "must_be_turn" E7 f fd)(cT:A0 P w K mg base "is_turn" 2 ["thing"] X9):o4 P w K mg base C6 3 f fd ["thing"] T9:=by
 refine F.ok be2 (fun vs H Q E h=> ?_) (fun cdv A outer s H vs Q E hr h=> ?_)
 · obtain ⟨a,ns,rfl,_⟩:=h;rfl
 · obtain ⟨a,ns,rfl,⟨ha,ht,hl⟩,k⟩:=h;refine ⟨_,i9 (A3 (C3 (C0 (j6 cT hr (c5 (pv 0) c6)))) (i9 am1) w6),?_⟩;refine ⟨_,rfl,a,ns,rfl,ha,fun b H' s' hb=>⟨b,rfl,?_⟩⟩;have:b=true:=hb.mpr ⟨hl,ht⟩;subst this;exact A4 (k H' s')
end
end My
namespace My
open PySem L2 Mth
section
variable {P:Program} {w:World} {K:PySem.W.Frag} {mg:Str->Option Value} {base:Heap}
def ao6 (K:PySem.W.Frag):Sp:=fun vs H Q _=>∃(a:Addr) (ns:List Int) (k:Int),vs=[.ref a,.int k]/\j4 K H a (ns.map V.int)/\0<=k/\k<=100/\∀(l:Addr) (H':Hp),H l=none->c9 H H'->o6 H' l 4300->Q (.ref l) H'
theorem ao7:o7 ["script","k","cell"] ["script","k"] (j8 X6):=by rfl'
theorem bp3 {f:Addr}{fd:FuncData}(F:B6 K "_law_pool" "_law_pool" X6 f fd)(B:Bl mg):o4 P w K mg base C6 1 f fd ["script","k"] (ao6 K):=by
 refine F.ok ao7 (fun vs H Q E h=> ?_) (fun cdv A outer s H vs Q E hr h=> ?_)
 · obtain ⟨a,ns,k,rfl,_⟩:=h;rfl
 · obtain ⟨a,ns,k,rfl,ha,k0,k1,q⟩:=h
   refine ⟨_,i5 (j9 (i:=2) ao7.nd rfl (Or.inl rfl) i4)
     (i5 (A3 (o5 al6 (pv 1) (w9 B.len (c5 (pv 0) c6)) (q9 _)) (i9 (j9 (i:=2) ao7.nd rfl (Or.inl rfl) (A9 x9 (pv 0) (pv 1) (fun _ _=>rfl)))) w6)
     (i5 (A3 (o5 al7 (pv 2) (j7 O5 i4 i4) (q9 _)) (i9 (l7 (o0 (c5 (j7 V5 (pv 2) (j7 O5 i4 i4)) (c5 i4 (c5 i4 c6)))))) w6)
     (i9 (l7 (o0 (c5 (pv 2) (c5 i4 (c5 (j7 G3 i4 (pv 1)) c6)))))))),?_⟩
   refine ⟨_,rfl,_,rfl,a,_,rfl,.inl ha,_,_,rfl,rfl,_,rfl,?_⟩;rw[cc4];have cp:av3 10 18:=⟨by decide,by decide,by decide⟩;refine D2 (fun h=> ?_) (fun h=> ?_)
   · have h:k < (ns.length:Int):=of_decide_eq_true h;refine ⟨_,rfl,_,rfl,a,_,k,_,rfl,rfl,ha,N3 k0 h,?_⟩;refine ⟨_,rfl,_,_,rfl,rfl,cp,_,_,rfl,rfl,_,rfl,?_⟩;refine D2 (fun h=> ?_) (fun h=> ?_)
     · refine ⟨_,rfl,_,_,rfl,rfl,cp,_,_,rfl,rfl,(by show 3<=sizeLine;decide),fun l hl=> ?_⟩;exact q l _ hl (c9.upd_new hl) ⟨_,_,_,c7,by decide,by decide⟩
     · refine ⟨_,rfl,_,rfl,_,_,rfl,rfl,.inl ⟨by decide,by decide⟩,(by show 3<=sizeLine;decide),fun l hl=> ?_⟩;exact q l _ hl (c9.upd_new hl) ⟨_,_,_,c7,by omega,by omega⟩
   · refine ⟨_,rfl,_,_,rfl,rfl,cp,_,_,rfl,rfl,_,rfl,?_⟩;refine D2 (fun h=> ?_) (fun h=> ?_)
     · refine ⟨_,rfl,_,_,rfl,rfl,cp,_,_,rfl,rfl,(by show 3<=sizeLine;decide),fun l hl=> ?_⟩;exact q l _ hl (c9.upd_new hl) ⟨_,_,_,c7,by decide,by decide⟩
     · refine ⟨_,rfl,_,rfl,_,_,rfl,rfl,.inl ⟨by decide,by decide⟩,(by show 3<=sizeLine;decide),fun l hl=> ?_⟩;exact q l _ hl (c9.upd_new hl) ⟨_,_,_,c7,by omega,by omega⟩
def M8:Sp:=fun vs H Q _=>∃(a:Addr) (c:Nat) (m:Int),vs=[.ref a,.int m]/\o6 H a c/\c<=1000000/\0 < m/\m<=1000000000000000000000000000000/\∀(r:Int) (H':Hp),0<=r->r < m->o6 H' a (c+1)->j3 a H H'->Q (.int r) H'
theorem W2:o7 ["pool","many","found","step","mark"] ["pool","many"] (j8 X7):=by rfl'
theorem bp4 {f:Addr}{fd:FuncData}(F:B6 K "_law_take" "_law_take" X7 f fd):o4 P w K mg base C6 1 f fd ["pool","many"] M8:=by
 refine F.ok W2 (fun vs H Q E h=> ?_) (fun cdv A outer s H vs Q E hr h=> ?_)
 · obtain ⟨a,c,m,rfl,_⟩:=h;rfl
 · obtain ⟨a,c,m,rfl,⟨x,y,z,ha,hz,hzc⟩,hc,m0,m1,q⟩:=h
   refine ⟨_,i5 (A3 (o5 K3 (A9 x9 (pv 0) i4 (fun _ _=>rfl)) i4 (q9 _))
       (i5 (j9 (i:=2) W2.nd rfl (Or.inl rfl) (j7 O4 (A9 x9 (pv 0) i4 (fun _ _=>rfl)) (pv 1)))
       (i5 (V4 (j7 bi7 (A9 x9 (pv 0) i4 (fun _ _=>rfl)) (pv 1)) (V3 (pv 0) i4 N1))
       (i9 (l7 (pv 2))))) w6)
     (i5 (V4 (j7 A6 (A9 x9 (pv 0) i4 (fun _ _=>rfl)) i4) (V3 (pv 0) i4 N1))
     (i5 (j9 (i:=3) W2.nd rfl (Or.inl rfl) (A9 x9 (pv 0) i4 (fun _ _=>rfl)))
     (i5 (j9 (i:=4) W2.nd rfl (Or.inl rfl) (j7 G3 (j7 A6 (j7 O4 (A9 x9 (pv 0) i4 (fun _ _=>rfl)) i4) i4) (j7 A6 (j7 G3 i4 (pv 3)) i4)))
     (i5 (j9 (i:=4) W2.nd rfl (Or.inl rfl) (j7 A6 (pv 4) (j7 G3 (j7 G3 i4 (pv 3)) (pv 3))))
     (i5 (j9 (i:=4) W2.nd rfl (Or.inl rfl) (j7 O4 (j7 G3 (pv 4) (pv 4)) i4))
     (i9 (l7 (j7 O4 (j7 bm6 (j7 O4 (j7 G3 (pv 4) (j7 A6 (pv 4) i4)) i4) i4) (pv 1))))))))),?_⟩
   refine ⟨_,rfl,a,_,_,_,rfl,rfl,j4.of ha,(o8 (j:=1) rfl),rfl,_,rfl,?_⟩;refine D2 (fun h=> ?_) (fun h=> ?_)
   · refine ⟨_,rfl,a,_,_,_,rfl,rfl,j4.of ha,(o8 (j:=0) rfl),_,rfl,_,_,rfl,rfl,m0,?_⟩;refine ⟨_,rfl,a,_,_,_,rfl,rfl,j4.of ha,(o8 (j:=0) rfl),_,rfl,_,_,rfl,rfl,⟨m0,m1⟩,?_⟩;refine ⟨_,rfl,a,_,_,0,rfl,rfl,ha,rfl,?_⟩;refine ⟨_,rfl,q _ _ (ch1 _ (by omega)) (ch4 _ m0) ⟨_,_,_,c7,hz,by omega⟩ j3.upd⟩
   · refine ⟨_,rfl,a,_,_,_,rfl,rfl,j4.of ha,(o8 (j:=2) rfl),_,_,rfl,rfl,?_⟩;refine ⟨_,rfl,a,_,_,2,rfl,rfl,ha,rfl,?_⟩;have ha2:(c8 H a (.lst [.int x,.int y,.int (z+1)])) a=some (.lst [.int x,.int y,.int (z+1)]):=c7;refine ⟨_,rfl,a,_,_,_,rfl,rfl,j4.of ha2,(o8 (j:=2) rfl),?_⟩;have hxm:0<=x%9999999577/\x%9999999577 < 9999999577:=⟨ch1 _ (by decide),ch4 _ (by decide)⟩;have tb:=aw5 (u:=x%9999999577+1009) (s:=z+1) (by omega) (by omega) (by omega) (by omega)
     have e64:(2:Int)^64=18446744073709551616:=by decide
     refine ⟨_,rfl,a,_,_,_,rfl,rfl,j4.of ha2,(o8 (j:=0) rfl),_,_,rfl,rfl,(by show (0:Int) < 9999999577;decide),_,_,rfl,rfl,_,rfl,_,_,rfl,rfl,.inl ⟨by decide,by decide⟩,_,_,rfl,rfl,_,_,rfl,rfl,.inl ⟨by rw[e64];omega,by rw[e64];omega⟩,?_⟩;refine ⟨_,rfl,_,rfl,_,_,rfl,rfl,.inl ⟨by decide,by decide⟩,_,rfl,_,_,rfl,rfl,.inl ⟨by rw[e64];omega,by rw[e64];omega⟩,_,_,rfl,rfl,?_⟩;refine ⟨_,rfl,_,rfl,_,_,rfl,rfl,.inl ⟨by have:=tb.1;rw[e64];omega,tb.2⟩,_,_,rfl,rfl,(by show (0:Int) < 99999999599;decide),?_⟩;refine ⟨_,rfl,_,rfl,_,_,rfl,rfl,_,_,rfl,rfl,.inl ⟨by rw[e64];omega,by rw[e64];omega⟩,_,_,rfl,rfl,(by show (0:Int) < 99999999907;decide),_,_,rfl,rfl,⟨by decide,by decide⟩,_,rfl,_,_,rfl,rfl,m0,?_⟩;exact q _ _ (ch1 _ (by omega)) (ch4 _ m0) ⟨_,_,_,c7,by omega,by omega⟩ j3.upd
def W3 (K:PySem.W.Frag):Sp:=fun vs H Q _=>∃(a t:Addr) (c:Nat) (xs:List V),vs=[.ref a,.ref t]/\o6 H a c/\c+xs.length<=1000000/\j4 K H t xs/\xs.length<=1000/\
 ∀(l:Addr) (ys:List V) (H':Hp),H l=none->ys.Perm xs->H' l=some (.lst ys)->o6 H' a (c+xs.length)->j3 a H H'->Q (.ref l) H'
def al8 (H:Hp)(l:Addr):Nat:=match H l with
 |some (.lst xs)=>xs.length
 |_=>0
theorem Y0 {H:Hp}{l:Addr}{xs:List V}(h:H l=some (.lst xs)):al8 H l=xs.length:=by unfold al8;rw[h]
theorem ah6:o7 ["pool","things","left","found"] ["pool","things"] (j8 N6):=by rfl'
theorem bj0 {f:Addr}{fd:FuncData}(F:B6 K "_law_mixed_up" "_law_mixed_up" N6 f fd)(B:Bl mg)(cT:A0 P w K mg base "_law_take" 1 ["pool","many"] M8):o4 P w K mg base C6 2 f fd ["pool","things"] (W3 K):=by
 refine F.ok ah6 (fun vs H Q E h=> ?_) (fun cdv A outer s H vs Q E hr h=> ?_)
 · obtain ⟨a,t,c,xs,rfl,_⟩:=h;rfl
 · obtain ⟨a,t,c,xs,rfl,hp,hcx,ht,hx1,q⟩:=h;have hu:=U4 hr
   refine ⟨_,i5 (j9 (i:=2) ah6.nd rfl (Or.inl rfl) (Z5 B.list (c5 (pv 1) c6)))
     (i5 (j9 (i:=3) ah6.nd rfl (Or.inl rfl) (o0 c6))
     (i5 (ac3 PassesOwn.never (o5 (bc2 0 hu) (pv 2) (o0 c6) (q9 _))
       (i9 (C1 (L5 (pv 3) (c5 (bi0 (pv 2) (c5 (j6 cT hr (c5 (pv 0) (c5 (w9 B.len (c5 (pv 2) c6)) c6))) c6)) c6)))))
     (i9 (l7 (pv 3))))),?_⟩
   refine ⟨_,rfl,t,xs,rfl,.inl ht,fun l hl=> ?_⟩;refine ⟨cg0 _,fun m hm=> ?_⟩;obtain ⟨px,py,pz,hpa,hpz⟩:=id hp
   have hml:m≠l:=fun z=>by rw[z,c7] at hm;cases hm
   have hm0:H m=none:=by rw[i6 hml] at hm;exact hm
   have nal:a≠l:=i7 hpa hl;have nam:a≠m:=i7 hpa hm0
   refine ac4 (fun σ H2=>∃ls fs,σ=[some (.ref a),some (.ref t),some (.ref l),some (.ref m)]/\H2 l=some (.lst ls)/\H2 m=some (.lst fs)/\(fs++ls).Perm xs/\o6 H2 a (c+fs.length)/\j3 a H H2) (fun σ H2=>al8 H2 l)
     ⟨xs,[],rfl,by rw[i6 hml.symm,c7],c7,List.Perm.refl _,⟨px,py,pz,by rw[i6 nam,i6 nal];exact hpa,hpz⟩,((j3.refl a H).upd_r hl).upd_r hm0⟩ ?_ ?_
   · rintro σ H2 ⟨ls,fs,rfl,h2l,h2m,pm,⟨x,y,z,h2a,hz0,hz1⟩,kb⟩;refine ⟨_,rfl,cg0 _,fun e he=> ?_⟩;have nle:l≠e:=i7 h2l he;have nme:m≠e:=i7 h2m he;have nae:a≠e:=i7 h2a he;refine ⟨l,e,ls,[],ls.isEmpty,rfl,rfl,j4.of (by rw[i6 nle];exact h2l),j4.of c7,at9 _ _ _ _,_,rfl,?_⟩
     have hlen:fs.length+ls.length=xs.length:=by rw[<-cc7];exact pm.length_eq
     cases ls with
     |nil=>
      refine A4 ?_;rw[ci6] at pm;refine ⟨_,rfl,?_⟩
      have hfl:fs.length=xs.length:=by simpa using hlen
      refine q m fs _ hm0 pm (by rw[i6 nme];exact h2m) ⟨x,y,z,by rw[i6 nae];exact h2a,hz0,by rw[<-hfl];exact hz1⟩ fun b o hb hn=> ?_
      have:=kb b o hb hn;rw[i6 (i7 this he)];exact this
     |cons g r=>
      refine B9 ?_
      have h3m:(c8 H2 e (.lst [])) m=some (.lst fs):=by rw[i6 nme];exact h2m
      have h3l:(c8 H2 e (.lst [])) l=some (.lst (g::r)):=by rw[i6 nle];exact h2l
      refine ⟨_,rfl,.inl ⟨rfl,_,j4.of h3m⟩,_,rfl,.inl ⟨rfl,_,j4.of h3l⟩,_,rfl,_,rfl,l,_,rfl,.inl (j4.of h3l),a,c+fs.length,_,rfl,⟨x,y,z,by rw[i6 nae];exact h2a,hz0,hz1⟩,by simp only[cd6] at hlen;omega,by simp only[cd6];omega,by simp only[cd6] at*;omega,?_⟩;intro j H4 j0 j1 ⟨x',y',z',h4a,hz0',hz1'⟩ kb4;have h4l:=kb4 l _ h3l nal.symm;have h4m:=kb4 m _ h3m nam.symm;obtain ⟨jn,rfl⟩:=cf1 j0
      have hjl:jn < (g::r).length:=by simp only[cd6] at j1 ⊢;omega
      refine ⟨l,_,_,jn,(g::r)[jn],rfl,rfl,h4l,by omega,by simp only[cd6] at*;omega,?_,cc6 hjl,?_⟩
      · have:V6 (g::r).length (jn:Int)=some jn:=by
          unfold V6;rw[if_pos (by omega),if_pos (by omega)];simp
        exact (ag8 this).1
      have h5m:(c8 H4 l (.lst ((g::r).eraseIdx jn))) m=some (.lst fs):=by rw[i6 hml];exact h4m
      refine ⟨m,_,_,rfl,rfl,h5m,q0 (by simp only[cd6] at hlen;omega),?_⟩
      have e5:(c8 (c8 H4 l (.lst ((g::r).eraseIdx jn))) m (.lst (fs++[(g::r)[jn]]))) l=some (.lst ((g::r).eraseIdx jn)):=by rw[i6 hml.symm,c7]
      refine ⟨⟨_,_,rfl,e5,c7,?_,⟨x',y',z',by rw[i6 nam,i6 nal];exact h4a,hz0',by rw[cc7];exact hz1'⟩,?_⟩,?_⟩
      · have pe:=af1 (l:=g::r) (k:=jn) (cc6 hjl);refine List.Perm.trans ?_ pm;rw[ck9];exact List.Perm.append_left fs pe
      · intro b o hb hn;have b2:=kb b o hb hn
        have b3:(c8 H2 e (.lst [])) b=some o:=by rw[i6 (i7 b2 he)];exact b2
        have b4:=kb4 b o b3 hn;rw[i6 (i7 hb hm0),i6 (i7 hb hl)];exact b4
      · rw[Y0 e5,Y0 h2l,List.length_eraseIdx_of_lt hjl];simp only[cd6] at*;omega
   · rintro σ H2 Q Q' hq ⟨v,hv,h1,h2⟩;refine ⟨v,hv,h1,fun e he=> ?_⟩;obtain ⟨a1,b1,xs1,ys1,r1,e1,e2,e3,e4,e5,k1,e6,e7⟩:=h2 e he;exact ⟨a1,b1,xs1,ys1,r1,e1,e2,e3,e4,e5,k1,e6,hq _ _ e7⟩
end
end My
namespace My
open PySem L2 Mth
section
variable {P:Program} {w:World} {K:PySem.W.Frag} {mg:Str->Option Value} {base:Heap}
def aa2:Sp:=fun vs H Q _=>∃(a:Addr) (c:Nat) (n:Int),vs=[.ref a,.int n]/\o6 H a c/\0<=n/\n<=100/\c<=900000/\
 ∀(l:Addr) (ls:List Int) (H':Hp),H l=none->(∀x∈ls,1<=x)->ls.sum=n->H' l=some (.lst (ls.map V.int))->o6 H' a (c+110)->j3 a H H'->Q (.ref l) H'
theorem E2:o7 ["pool","many","way","like","found","left","most","length"] ["pool","many"] (j8 Q4):=by rfl'
def bu2 (σ:St):Nat:=match σ[5]? with
 |some (some (V.int i))=>i.toNat
 |_=>0
theorem ax6 {f:Addr}{fd:FuncData}(F:B6 K "_law_lengths" "_law_lengths" Q4 f fd)(B:Bl mg)(cT:A0 P w K mg base "_law_take" 1 ["pool","many"] M8):o4 P w K mg base C6 2 f fd ["pool","many"] aa2:=by
 refine F.ok E2 (fun vs H Q E h=> ?_) (fun cdv A outer s H vs Q E hr h=> ?_)
 · obtain ⟨a,c,n,rfl,_⟩:=h;rfl
 · obtain ⟨a,c,n,rfl,hp,n0,n1,hc,q⟩:=h
   refine ⟨_,i5 (j9 (i:=2) E2.nd rfl (Or.inl rfl) (j6 cT hr (c5 (pv 0) (c5 i4 c6))))
     (i5 (j9 (i:=3) E2.nd rfl (Or.inl rfl) (j7 A6 i4 (j6 cT hr (c5 (pv 0) (c5 i4 c6)))))
     (i5 (j9 (i:=4) E2.nd rfl (Or.inl rfl) (o0 c6))
     (i5 (j9 (i:=5) E2.nd rfl (Or.inl rfl) (pv 1))
     (i5 (ac3 PassesOwn.never (o5 aa7 (pv 5) i4 (q9 _))
       (i5 (j9 (i:=6) E2.nd rfl (Or.inl rfl) (A9 x9 (o0 (c5 (pv 5) (c5 (aa9 rfl B.min (c5 (pv 5) (c5 i4 c6))) (c5 (aa9 rfl B.min (c5 (pv 5) (c5 (pv 3) c6))) (c5 (pv 5) c6))))) (pv 2) (fun _ _=>rfl)))
       (i5 (A3 (o5 K3 (pv 2) i4 (q9 _)) (i9 (j9 (i:=7) E2.nd rfl (Or.inl rfl) (pv 6))) (i9 (j9 (i:=7) E2.nd rfl (Or.inl rfl) (j7 A6 i4 (j6 cT hr (c5 (pv 0) (c5 (pv 6) c6)))))))
       (i5 (C1 (L5 (pv 4) (c5 (pv 7) c6)))
       (i9 (j9 (i:=5) E2.nd rfl (Or.inl rfl) (j7 V5 (pv 5) (pv 7))))))))
     (i9 (l7 (pv 4))))))),?_⟩
   refine ⟨_,rfl,a,c,4,rfl,hp,by omega,by decide,by decide,fun way H1 w0 w1 p1 kb1=> ?_⟩;refine ⟨_,rfl,a,c+1,6,rfl,p1,by omega,by decide,by decide,fun lk H2 l0 l1 p2 kb2=>⟨_,_,rfl,rfl,?_⟩⟩;refine ⟨cg0 _,fun m hm=> ?_⟩;obtain ⟨x2,y2,z2,h2a,hz2,hz2'⟩:=id p2;have nam:a≠m:=i7 h2a hm;have kb02:j3 a H H2:=kb1.trans kb2
   have hm0:H m=none:=by
     cases e:H m with
     |none=>rfl
     |some o=>have:=kb02 m o e nam.symm;rw[hm] at this;cases this
   refine ⟨_,rfl,?_⟩
   refine ac4 (fun σ H3=>∃(ls:List Int) (lf:Int) (v6 v7:Option V),σ=[some (.ref a),some (.int n),some (.int way),some (.int (1+lk)),some (.ref m),some (.int lf),v6,v7]/\H3 m=some (.lst (ls.map V.int))/\(∀x∈ls,1<=x)/\ls.sum+lf=n/\0<=lf/\o6 H3 a (c+2+ls.length)/\j3 a H H3) (fun σ _=>bu2 σ)
     ⟨[],n,none,none,rfl,c7,fun x hx=>by simp at hx,by simp,n0,⟨x2,y2,z2,by rw[i6 nam];exact h2a,hz2,by simp only[cm0];omega⟩,kb02.upd_r hm0⟩ ?_ ?_
   · rintro σ H3 ⟨ls,lf,v6,v7,rfl,h3m,hge,hsum,lf0,⟨x,y,z,h3a,hz0,hz1⟩,kb⟩;have hll:=aw7 hge;refine ⟨_,rfl,_,_,rfl,rfl,_,rfl,?_⟩;refine D2 (fun h=> ?_) (fun h=> ?_)
     · have h:0 < lf:=of_decide_eq_true h;refine ⟨_,rfl,_,rfl,lf,6,rfl,_,rfl,_,rfl,lf,1+lk,rfl,_,rfl,(by show 4<=sizeLine;decide),fun e he=> ?_⟩;have nme:m≠e:=i7 h3m he;have nae:a≠e:=i7 h3a he
       have key:∃mv,V7 [V.int lf,V.int (if (6:Int) < lf then 6 else lf),V.int (if 1+lk < lf then 1+lk else lf),V.int lf] way=some (.int mv)/\1<=mv/\mv<=lf:=by
         have:way=0\/way=1\/way=2\/way=3:=by omega
         rcases this with rfl|rfl|rfl|rfl
         · exact ⟨lf,o8 (j:=0) rfl,by omega,by omega⟩
         · exact ⟨_,o8 (j:=1) rfl,by split<;>omega,by split<;>omega⟩
         · exact ⟨_,o8 (j:=2) rfl,by split<;>omega,by split<;>omega⟩
         · exact ⟨lf,o8 (j:=3) rfl,by omega,by omega⟩
       obtain ⟨mv,hat,mv1,mv2⟩:=key;refine ⟨_,rfl,e,_,way,_,rfl,rfl,j4.of c7,hat,?_⟩
       have h4m:(c8 H3 e (.lst [V.int lf,V.int (if (6:Int) < lf then 6 else lf),V.int (if 1+lk < lf then 1+lk else lf),V.int lf])) m=some (.lst (ls.map V.int)):=by rw[i6 nme];exact h3m
       have h4a:(c8 H3 e (.lst [V.int lf,V.int (if (6:Int) < lf then 6 else lf),V.int (if 1+lk < lf then 1+lk else lf),V.int lf])) a=some (.lst [.int x,.int y,.int z]):=by rw[i6 nae];exact h3a
       have kb4:j3 a H (c8 H3 e (.lst [V.int lf,V.int (if (6:Int) < lf then 6 else lf),V.int (if 1+lk < lf then 1+lk else lf),V.int lf])):=fun b o hb hn=>by
         have:=kb b o hb hn;rw[i6 (i7 this he)];exact this
       generalize c8 H3 e (.lst [V.int lf,V.int (if (6:Int) < lf then 6 else lf),V.int (if 1+lk < lf then 1+lk else lf),V.int lf])=H4 at h4m h4a kb4 ⊢
       have done:∀(len:Int) (H5:Hp),1<=len->len<=lf->H5 m=some (.lst (ls.map V.int))->o6 H5 a (c+2+ls.length+1)->j3 a H H5->
           (∃(ls':List Int) (lf':Int) (v6 v7:Option V),[some (.ref a),some (.int n),some (.int way),some (.int (1+lk)),some (.ref m),some (.int (lf - len)),some (.int mv),some (.int len)]=[some (.ref a),some (.int n),some (.int way),some (.int (1+lk)),some (.ref m),some (.int lf'),v6,v7]/\(c8 H5 m (.lst (ls.map V.int++[.int len]))) m=some (.lst (ls'.map V.int))/\(∀x∈ls',1<=x)/\ls'.sum+lf'=n/\0<=lf'/\o6 (c8 H5 m (.lst (ls.map V.int++[.int len]))) a (c+2+ls'.length)/\j3 a H (c8 H5 m (.lst (ls.map V.int++[.int len])))):=by
         intro len H5 g1 g2 h5m ⟨x5,y5,z5,h5a,h5z,h5z'⟩ kb5;refine ⟨ls++[len],lf - len,_,_,rfl,by rw[c7,ce6];rfl,fun x hx=> ?_,by rw[ad1];omega,by omega,⟨x5,y5,z5,by rw[i6 nam];exact h5a,h5z,by rw[cc7];simpa [Nat.add_assoc] using h5z'⟩,fun b o hb hn=>by rw[i6 (i7 hb hm0)];exact kb5 b o hb hn⟩
         rcases cd2.mp hx with g|g
         · exact hge x g
         · have:x=len:=by simpa using g
           omega
       refine ⟨_,rfl,rfl,_,rfl,?_⟩;refine D2 (fun hw=> ?_) (fun hw=> ?_)
       · refine ⟨_,rfl,_,rfl,.inl ⟨rfl,_,j4.of h4m⟩,_,rfl,m,_,_,rfl,rfl,h4m,q0 (by rw[cc4];omega),?_⟩;refine ⟨_,rfl,_,rfl,_,_,rfl,rfl,done mv H4 mv1 mv2 h4m ⟨x,y,z,h4a,hz0,by omega⟩ kb4,?_⟩;show (lf - mv).toNat < lf.toNat;omega
       · refine ⟨_,rfl,_,rfl,a,c+2+ls.length,mv,rfl,⟨x,y,z,h4a,hz0,hz1⟩,by omega,by omega,by omega,fun r H5 r0 r1 p5 kb5=>⟨_,_,rfl,rfl,?_⟩⟩;have h5m:=kb5 m _ h4m nam.symm;refine ⟨_,rfl,.inl ⟨rfl,_,j4.of h5m⟩,_,rfl,m,_,_,rfl,rfl,h5m,q0 (by rw[cc4];omega),?_⟩;refine ⟨_,rfl,_,rfl,_,_,rfl,rfl,done (1+r) H5 (by omega) (by omega) h5m p5 (kb4.trans kb5),?_⟩;show (lf - (1+r)).toNat < lf.toNat;omega
     · have h:¬0 < lf:=fun z=>h (decide_eq_true z)
       have:lf=0:=by omega
       refine ⟨_,rfl,q m ls H3 hm0 hge (by omega) h3m ⟨x,y,z,h3a,hz0,by omega⟩ kb⟩
   · rintro σ H3 Q Q' hq ⟨v,hv,i,j,e1,e2,k1,e3,e4⟩;exact ⟨v,hv,i,j,e1,e2,k1,e3,hq _ _ e4⟩
def ah7:Sp:=fun vs H Q _=>∃(a t:Addr) (c:Nat) (ls:List Int),vs=[.ref a,.ref t]/\o6 H a c/\t≠a/\H t=some (.lst (ls.map V.int))/\(∀x∈ls,1<=x)/\ls.sum<=100/\c<=900000/\
 ∀(l:Addr) (ps:List Int) (H':Hp),H l=none->ps.Perm (C4 0 ls.sum.toNat)->H' l=some (.lst (ps.map V.int))->o6 H' a (c+110)->j3 a H H'->Q (.ref l) H'
theorem N7:o7 ["pool","lengths","things","found","at","length","k"] ["pool","lengths"] (j8 K7):=by rfl'
theorem bj1 {f:Addr}{fd:FuncData}(F:B6 K "_law_by_lengths" "_law_by_lengths" K7 f fd)(B:Bl mg)(cM:A0 P w K mg base "_law_mixed_up" 2 ["pool","things"] (W3 K)):o4 P w K mg base C6 3 f fd ["pool","lengths"] ah7:=by
 refine F.ok N7 (fun vs H Q E h=> ?_) (fun cdv A outer s H vs Q E hr h=> ?_)
 · obtain ⟨a,t,c,ls,rfl,_⟩:=h;rfl
 · obtain ⟨a,t,c,ls,rfl,hp,nta,ht,hge,hs,hc,q⟩:=h;have hsum:=(ab6 hge 0).2
   have hs0:0<=ls.sum:=by simpa using hsum
   refine ⟨_,i5 (j9 (i:=2) N7.nd rfl (Or.inl rfl) (j6 cM hr (c5 (pv 0) (c5 (R5 rfl B.list B.range (c5 (bt7 rfl B.sum (c5 (pv 1) c6)) c6)) c6))))
     (i5 (j9 (i:=3) N7.nd rfl (Or.inl rfl) (j7 bt2 (o0 (c5 i4 c6)) (w9 B.len (c5 (pv 2) c6))))
     (i5 (j9 (i:=4) N7.nd rfl (Or.inl rfl) i4)
     (i5 (D9 PassesOwn.never rfl (D7 (pv 1)) (A5 (i:=5) N7.nd rfl (Or.inl rfl))
       (i5 (D9 PassesOwn.never rfl (K8 rfl B.range (c5 (pv 5) c6)) (A5 (i:=6) N7.nd rfl (Or.inl rfl))
         (i9 (V4 (A9 x9 (pv 2) (j7 A6 (pv 4) (j7 O4 (j7 A6 (pv 6) i4) (pv 5))) (fun _ _=>rfl)) (V3 (pv 3) (A9 x9 (pv 2) (j7 A6 (pv 4) (pv 6)) (fun _ _=>rfl)) N1))))
       (i9 (j9 (i:=4) N7.nd rfl (Or.inl rfl) (j7 A6 (pv 4) (pv 5))))))
     (i9 (l7 (pv 3)))))),?_⟩
   refine ⟨_,rfl,_,rfl,t,ls,rfl,j4.of ht,_,rfl,fun r hr'=>⟨r,0,ls.sum,rfl,c7,⟨by decide,by decide,by omega,by omega⟩,by omega,fun g hg=> ?_⟩⟩;obtain ⟨x1,y1,z1,h1a,hz1,hz1'⟩:=id hp;have nar:a≠r:=i7 h1a hr'
   have hgr:g≠r:=fun z=>by rw[z,c7] at hg;cases hg
   have hg0:H g=none:=by rw[i6 hgr] at hg;exact hg
   have nag:a≠g:=i7 h1a hg0;refine ⟨a,g,c,(C4 0 (ls.sum - 0).toNat).map V.int,rfl,⟨x1,y1,z1,by rw[i6 nag,i6 nar];exact h1a,hz1,hz1'⟩,by rw[cc4,A2];omega,j4.of c7,by rw[cc4,A2];omega,?_⟩;intro m ys H1 hm hperm h1m p1 kb1
   have e0:(ls.sum - 0).toNat=ls.sum.toNat:=by rw[Int.sub_zero]
   rw[e0] at hperm p1;rw[cc4,A2] at p1
   have hmg:m≠g:=fun z=>by rw[z,c7] at hm;cases hm
   have hmr:m≠r:=fun z=>by rw[z,i6 hgr.symm,c7] at hm;cases hm
   have hm0:H m=none:=by rw[i6 hmg,i6 hmr] at hm;exact hm
   obtain ⟨ts,rfl,hts⟩:=Z6 hperm;obtain ⟨hT,hTl⟩:=U8 hts;have s0:c9 H (c8 (c8 H r (.rng 0 ls.sum)) g (.lst ((C4 0 (ls.sum - 0).toNat).map V.int))):=(c9.upd_new hr').upd_r hg0
   have kb01:j3 a H H1:=fun b o hb hn=>kb1 b o (s0 b o hb) hn
   have nam:a≠m:=i7 h1a hm0;refine ⟨(by show 1<=sizeLine;decide),fun e he=> ?_⟩;have nme:m≠e:=i7 h1m he;refine ⟨_,rfl,m,_,rfl,.inl (j4.of (by rw[i6 nme];exact h1m)),?_⟩;rw[cc4,hTl];refine ⟨e,_,_,rfl,rfl,c7,by omega,by omega,by show 1*_<=sizeLine;rw[sizeLine_eq];omega,fun n hn=> ?_⟩
   have hne:n≠e:=fun z=>by rw[z,c7] at hn;cases hn
   have hn1:H1 n=none:=by rw[i6 hne] at hn;exact hn
   have hnm:n≠m:=fun z=>by rw[z,h1m] at hn1;cases hn1
   obtain ⟨x2,y2,z2,h2a,hz2,hz2'⟩:=id p1;have nan:a≠n:=i7 h2a hn1;have nae:a≠e:=i7 h2a he
   have hn0:H n=none:=by
     cases ee:H n with
     |none=>rfl
     |some o=>have:=kb01 n o ee nan.symm;rw[hn1] at this;cases this
   have he0:H e=none:=by
     cases ee:H e with
     |none=>rfl
     |some o=>have:=kb01 e o ee nae.symm;rw[he] at this;cases this
   rw[show ((ls.sum.toNat:Nat):Int).toNat=ls.sum.toNat by omega,bi2];have ht1:=kb01 t _ ht nta;have nte:t≠e:=i7 ht1 he;have ntn:t≠n:=i7 ht1 hn1
   refine ⟨_,rfl,t,rfl,⟨ls.map V.int,?ht2⟩,E8 (K:=K) (a:=t) (xs:=ls.map V.int) (fun i σ H2=>∃(fs qs:List Int) (k:Nat) (v5 v6:Option V),σ=[some (.ref a),some (.ref t),some (.ref m),some (.ref n),some (.int k),v5,v6]/\(k:Int)=(ls.take i).sum/\H2 n=some (.lst (fs.map V.int))/\H2 m=some (.lst (ts.map V.int))/\fs.length=ts.length/\qs.Perm (ts.take k)/\(ts.take k).map (G6 fs)=qs.map some/\o6 H2 a (c+ls.sum.toNat)/\j3 a H H2)
     ?h0 (fun i σ H2 _ zz=>by obtain ⟨_,_,_,_,_,_,_,_,_,_,_,_,_,h⟩:=zz;exact j4.of (h t _ ht nta)) ?_ ?_⟩
   case ht2=>
     exact j4.of (by rw[i6 ntn,i6 nte];exact ht1)
   case h0=>
     refine ⟨_,[],0,none,none,rfl,by simp,c7,by rw[i6 hnm.symm,i6 nme];exact h1m,by rw[cj0,hTl],List.Perm.refl _,rfl,⟨x2,y2,z2,by rw[i6 nan,i6 nae];exact h2a,hz2,hz2'⟩,(kb01.upd_r he0).upd_r hn0⟩
   · rintro i y σ H2 hi ⟨fs,qs,k,v5,v6,rfl,hk,h2n,h2m,hfl,hq,hmap,p2,kb2⟩;obtain ⟨L,hL,rfl⟩:=D0 hi;have hL1:=hge L (cd7 hL);have hsL:=(ab6 hge (i+1)).2;rw[B3 hL,ad1] at hsL
     have hkL:k+L.toNat<=ts.length:=by omega
     have hLn:((L.toNat:Nat):Int)=L:=by omega
     refine ⟨_,rfl,L,rfl,by omega,by omega,U3 (lo:=0) (n:=L.toNat) (fun j σ H3=>∃(fs':List Int) (v6':Option V),σ=[some (.ref a),some (.ref t),some (.ref m),some (.ref n),some (.int k),some (.int L),v6']/\H3 n=some (.lst (fs'.map V.int))/\H3 m=some (.lst (ts.map V.int))/\fs'.length=ts.length/\(ts.take k).map (G6 fs')=qs.map some/\(∀u,u < j->G6 fs' (ts.getD (k+u) 0)=some (ts.getD (k+(u+1)%L.toNat) 0))/\o6 H3 a (c+ls.sum.toNat)/\j3 a H H3)
       ⟨fs,v6,rfl,h2n,h2m,hfl,hmap,fun u hu=>by omega,p2,kb2⟩ ?_ ?_⟩
     · rintro j σ H3 hj ⟨fs',v6',rfl,h3n,h3m,hfl',hmap',hu',p3,kb3⟩;have hjm:(j+1)%L.toNat < L.toNat:=Nat.mod_lt _ (by omega)
       have hi1:k+j < ts.length:=by omega
       have hi2:k+(j+1)%L.toNat < ts.length:=by omega
       have ej:(k:Int)+((0:Int)+(j:Int)+1)%L=((k+(j+1)%L.toNat:Nat):Int):=by
         have e1:(0:Int)+(j:Int)+1=((j+1:Nat):Int):=by omega
         have e2:((j+1:Nat):Int)%L=(((j+1)%L.toNat:Nat):Int):=by
           rw[cl5,hLn]
         rw[e1,e2];omega
       have hat1:V7 (ts.map V.int) ((k:Int)+((0:Int)+(j:Int)+1)%L)=some (.int (ts.getD (k+(j+1)%L.toNat) 0)):=by
         rw[ej];have:=N3 (p:=ts) (i:=((k+(j+1)%L.toNat:Nat):Int)) (by omega) (by omega);rw[cj5] at this;exact this
       have hat2:V7 (ts.map V.int) ((k:Int)+((0:Int)+(j:Int)))=some (.int (ts.getD (k+j) 0)):=by
         have e:(k:Int)+((0:Int)+(j:Int))=((k+j:Nat):Int):=by omega
         rw[e];have:=N3 (p:=ts) (i:=((k+j:Nat):Int)) (by omega) (by omega);rw[cj5] at this;exact this
       refine ⟨_,rfl,_,rfl,_,rfl,_,_,rfl,rfl,_,rfl,_,_,rfl,rfl,hL1,_,_,rfl,rfl,m,_,_,_,rfl,rfl,j4.of h3m,hat1,?_⟩;refine ⟨_,rfl,_,rfl,_,rfl,_,rfl,_,_,rfl,rfl,m,_,_,_,rfl,rfl,j4.of h3m,hat2,?_⟩
       have htv:ts.getD (k+j) 0∈ts:=by rw[J5 hi1];exact ce7 hi1
       have t0:=hT.lo _ htv;have t1:=hT.hi _ htv;refine ⟨n,_,_,(ts.getD (k+j) 0).toNat,rfl,rfl,h3n,?_,?_⟩
       · unfold V6;rw[cc4,if_pos t0,if_pos (by omega)]
       obtain ⟨x3,y3,z3,h3a,hz3,hz3'⟩:=id p3
       have es:(fs'.map V.int).set (ts.getD (k+j) 0).toNat (.int (ts.getD (k+(j+1)%L.toNat) 0))=(fs'.set (ts.getD (k+j) 0).toNat (ts.getD (k+(j+1)%L.toNat) 0)).map V.int:=by rw[cl8]
       rw[es];refine ⟨_,_,rfl,c7,by rw[i6 hnm.symm];exact h3m,by rw[cj3];exact hfl',?_,?_,⟨x3,y3,z3,by rw[i6 nan];exact h3a,hz3,hz3'⟩,fun b o hb hnn=>by rw[i6 (i7 hb hn0)];exact kb3 b o hb hnn⟩
       · rw[<-hmap']
         refine ch9 fun u hu=> ?_
         have hut:=ch8 hu
         refine af2 (hT.lo u hut) t0 fun z=> ?_
         obtain ⟨jj,hjj⟩:=ch6.mp hu
         have hjk:jj < k:=by
           have:=(cc5.mp hjj).1;rw[ce4] at this;omega
         rw[cf3 hjk] at hjj;have:=(cc5.mp hjj).2;exact R6 hT.nd (i:=jj) (j:=k+j) (by omega) hi1 (by omega) (by rw[J5 (show jj < ts.length by omega),this];exact z)
       · intro u hu
         by_cases huj:u=j
         · subst huj;exact an6 (by omega)
         · have huj':u < j:=by omega
           rw[af2 (hT.lo _ (by rw[J5 (show k+u < ts.length by omega)];exact ce7 _)) t0 (R6 hT.nd (by omega) hi1 (by omega))];exact hu' u huj'
     · rintro σ H3 ⟨fs',v6',rfl,h3n,h3m,hfl',hmap',hu',p3,kb3⟩;obtain ⟨qs',hq',hmap''⟩:=bi3 (by omega) hkL hmap' hq hu';refine ⟨_,rfl,_,rfl,_,_,rfl,rfl,fs',qs',k+L.toNat,some (.int L),v6',?_,?_,h3n,h3m,hfl',hq',hmap'',p3,kb3⟩
       · rw[show ((k+L.toNat:Nat):Int)=(k:Int)+L by omega];rfl
       · rw[B3 hL,ad1];omega
   · rintro σ H2 ⟨fs,qs,k,v5,v6,rfl,hk,h2n,h2m,hfl,hq,hmap,⟨x2',y2',z2',p2a,p2z,p2z'⟩,kb2⟩;rw[cc4,cf7] at hk
     have hkl:k=ts.length:=by omega
     rw[hkl,cf7] at hq hmap;have:=(aw3 hT hfl hmap).trans (hq.trans hts);exact ⟨_,rfl,q n fs H2 hn0 this h2n ⟨x2',y2',z2',p2a,p2z,by omega⟩ kb2⟩
def ao8:Sp:=fun vs H Q _=>∃(a:Addr) (c:Nat) (m:Int),vs=[.ref a,.int m]/\o6 H a c/\0<=m/\m<=40/\c<=800000/\
 ∀(l:Addr) (p:List Int) (H':Hp),H l=none->E6 p->(p.length:Int)<=m->H' l=some (.lst (p.map V.int))->o6 H' a (c+300)->j3 a H H'->Q (.ref l) H'
theorem be3:o7 ["pool","most","many"] ["pool","most"] (j8 X8):=by rfl'
theorem bp5 {f:Addr}{fd:FuncData}(F:B6 K "_law_turn" "_law_turn" X8 f fd)(B:Bl mg)(cT:A0 P w K mg base "_law_take" 1 ["pool","many"] M8)(cM:A0 P w K mg base "_law_mixed_up" 2 ["pool","things"] (W3 K))
   (cB:A0 P w K mg base "_law_by_lengths" 3 ["pool","lengths"] ah7) (cL:A0 P w K mg base "_law_lengths" 2 ["pool","many"] aa2):o4 P w K mg base C6 4 f fd ["pool","most"] ao8:=by
 refine F.ok be3 (fun vs H Q E h=> ?_) (fun cdv A outer s H vs Q E hr h=> ?_)
 · obtain ⟨a,c,m,rfl,_⟩:=h;rfl
 · obtain ⟨a,c,m,rfl,hp,m0,m1,hc,q⟩:=h;have hr1:y7 1 _:=hr.mono (by decide);have hr2:y7 2 _:=hr.mono (by decide)
   refine ⟨_,i5 (j9 (i:=2) be3.nd rfl (Or.inl rfl) (A9 x9 (o0 (c5 (j6 cT hr1 (c5 (pv 0) (c5 (j7 A6 (aa9 rfl B.min (c5 (pv 1) (c5 i4 c6))) i4) c6))) (c5 (j6 cT hr1 (c5 (pv 0) (c5 (j7 A6 (pv 1) i4) c6))) (c5 (pv 1) c6)))) (j6 cT hr1 (c5 (pv 0) (c5 i4 c6))) (fun _ _=>rfl)))
     (i5 (A3 (o5 K3 (j6 cT hr1 (c5 (pv 0) (c5 i4 c6))) i4 (q9 _)) (i9 (l7 (j6 cM hr2 (c5 (pv 0) (c5 (R5 rfl B.list B.range (c5 (pv 2) c6)) c6))))) w6)
     (i9 (l7 (j6 cB hr (c5 (pv 0) (c5 (j6 cL hr2 (c5 (pv 0) (c5 (pv 2) c6))) c6)))))),?_⟩
   refine ⟨_,rfl,_,rfl,m,9,rfl,_,_,rfl,rfl,a,c,_,rfl,hp,by omega,by split<;>omega,by split<;>omega,fun r1 H1 r10 r11 p1 kb1=> ?_⟩;refine ⟨_,rfl,_,rfl,_,_,rfl,rfl,a,c+1,_,rfl,p1,by omega,by omega,by omega,fun r2 H2 r20 r21 p2 kb2=> ?_⟩;refine ⟨_,rfl,(by show 3<=sizeLine;decide),fun e he=> ?_⟩;obtain ⟨x2,y2,z2,h2a,hz2,hz2'⟩:=id p2;have nae:a≠e:=i7 h2a he;have kb02:j3 a H H2:=kb1.trans kb2
   have he0:H e=none:=by
     cases ee:H e with
     |none=>rfl
     |some o=>have:=kb02 e o ee nae.symm;rw[he] at this;cases this
   refine ⟨_,rfl,a,c+2,3,rfl,⟨x2,y2,z2,by rw[i6 nae];exact h2a,hz2,by omega⟩,by omega,by decide,by decide,fun r3 H3 r30 r31 p3 kb3=> ?_⟩;have h3e:=kb3 e _ c7 nae.symm;have kb03:j3 a H H3:=(kb02.upd_r he0).trans kb3
   have key:∃mv,V7 [V.int r1,V.int r2,V.int m] r3=some (.int mv)/\0<=mv/\mv<=m:=by
     have:r3=0\/r3=1\/r3=2:=by omega
     rcases this with rfl|rfl|rfl
     · exact ⟨r1,o8 (j:=0) rfl,r10,by revert r11;split<;>omega⟩
     · exact ⟨r2,o8 (j:=1) rfl,r20,by omega⟩
     · exact ⟨m,o8 (j:=2) rfl,m0,by omega⟩
   obtain ⟨mv,hat,mv0,mv1⟩:=key;refine ⟨e,_,_,_,rfl,rfl,j4.of h3e,hat,?_⟩;refine ⟨_,rfl,a,c+3,3,rfl,p3,by omega,by decide,by decide,fun r4 H4 r40 r41 p4 kb4=> ?_⟩;have kb04:j3 a H H4:=kb03.trans kb4;refine ⟨rfl,_,rfl,?_⟩;refine D2 (fun h=> ?_) (fun h=> ?_)
   · refine ⟨_,rfl,_,rfl,_,rfl,fun r hr'=>⟨r,0,mv,rfl,c7,⟨by decide,by decide,by omega,by omega⟩,by omega,fun g hg=> ?_⟩⟩;obtain ⟨x4,y4,z4,h4a,hz4,hz4'⟩:=id p4;have nar:a≠r:=i7 h4a hr'
     have hgr:g≠r:=fun z=>by rw[z,c7] at hg;cases hg
     have hg0:H4 g=none:=by rw[i6 hgr] at hg;exact hg
     have nag:a≠g:=i7 h4a hg0;refine ⟨a,g,c+4,(C4 0 (mv - 0).toNat).map V.int,rfl,⟨x4,y4,z4,by rw[i6 nag,i6 nar];exact h4a,hz4,by omega⟩,by rw[cc4,A2];omega,j4.of c7,by rw[cc4,A2];omega,?_⟩;intro l ys H5 hl hperm h5l p5 kb5
     have e0:(mv - 0).toNat=mv.toNat:=by rw[Int.sub_zero]
     rw[e0] at hperm;obtain ⟨ts,rfl,hts⟩:=Z6 hperm;obtain ⟨hT,hTl⟩:=U8 hts
     have hlg:l≠g:=fun z=>by rw[z,c7] at hl;cases hl
     have hlr:l≠r:=fun z=>by rw[z,i6 hgr.symm,c7] at hl;cases hl
     have hl4:H4 l=none:=by rw[i6 hlg,i6 hlr] at hl;exact hl
     have nal:l≠a:=fun z=>by rw[z,h4a] at hl4;cases hl4
     have hl0:H l=none:=by
       cases ee:H l with
       |none=>rfl
       |some o=>have:=kb04 l o ee nal;rw[hl4] at this;cases this
     have s4:c9 H4 (c8 (c8 H4 r (.rng 0 mv)) g (.lst ((C4 0 (mv - 0).toNat).map V.int))):=(c9.upd_new hr').upd_r hg0
     refine q l ts H5 hl0 hT (by omega) h5l (p5.mono (by rw[cc4,A2];omega)) fun b o hb hn=>kb5 b o (s4 b o (kb04 b o hb hn)) hn
   · refine ⟨_,rfl,_,rfl,_,rfl,a,c+4,mv,rfl,p4,mv0,by omega,by omega,?_⟩;intro g ls H5 hg hge hsum h5g p5 kb5
     have nag:g≠a:=by
       obtain ⟨x4,y4,z4,h4a,hz4,hz4'⟩:=id p4
       exact fun z=>by rw[z,h4a] at hg;cases hg
     refine ⟨a,g,c+4+110,ls,rfl,p5,nag,h5g,hge,by omega,by omega,?_⟩;intro l ps H6 hl hperm h6l p6 kb6;obtain ⟨hT,hTl⟩:=U8 hperm;have kb05:=kb04.trans kb5
     have nal:l≠a:=by
       obtain ⟨x5,y5,z5,h5a,_⟩:=id p5
       exact fun z=>by rw[z,h5a] at hl;cases hl
     have hl0:H l=none:=by
       cases ee:H l with
       |none=>rfl
       |some o=>have:=kb05 l o ee nal;rw[hl] at this;cases this
     exact q l ps H6 hl0 hT (by omega) h6l (p6.mono (by omega)) (kb05.trans kb6)
end
end My
namespace My
open PySem L2 Mth
section
variable {P:Program} {w:World} {K:PySem.W.Frag} {mg:Str->Option Value} {base:Heap}
def ah8:Sp:=fun vs H Q _=>∃(a:Addr) (p:List Int),vs=[.ref a]/\D3 H a p/\
 ∀(l:Addr) (as:List Addr) (rs:List (List Int)) (H':Hp),H l=none->c9 H H'->H' l=some (.lst (as.map V.ref))->X3 H' as rs->G5 p p.length rs->(∀b∈as,H b=none)->as.Nodup->l∉as->Q (.ref l) H'
theorem be4 {H:Hp}{as:List Addr}{rs:List (List Int)}{e:Addr}{r:List Int}(h:X3 H as rs)(he:H e=some (.lst (r.map V.int))):X3 H (as++[e]) (rs++[r]):=by
 refine ⟨by rw[cc7,cc7,h.1];rfl,fun j b q h1 h2=> ?_⟩
 by_cases hj:j < as.length
 · rw[cg7 hj] at h1;rw[cg7 (by rw[<-h.1];exact hj)] at h2;exact h.2 j b q h1 h2
 · rw[cg5 (by omega)] at h1;rw[cg5 (by rw[<-h.1];omega),<-h.1] at h2
   have hj0:j - as.length=0:=by
     have:=(cc5.mp h1).1
     simpa using this
   rw[hj0] at h1 h2;cases h1;cases h2;exact he
theorem be5 {H H':Hp}{as:List Addr}{rs:List (List Int)}(h:X3 H as rs)(k:∀b∈as,∀o,H b=some o->H' b=some o):X3 H' as rs:=
 ⟨h.1,fun j a r h1 h2=>k a (cd7 h1) _ (h.2 j a r h1 h2)⟩
theorem ao9 {H:Hp}{as:List Addr}{rs:List (List Int)}(h:X3 H as rs){b:Addr}(hb:b∈as):∃r:List Int,H b=some (.lst (r.map V.int)):=by
 obtain ⟨j,hj⟩:=ch6.mp hb;have hjl:=(cc5.mp hj).1;exact ⟨_,h.2 j b (rs[j]'(by rw[<-h.1];exact hjl)) hj (cc6 _)⟩
theorem bu3 {p:List Int}{i:Nat}{rs:List (List Int)}(tp:E6 p)(h:G5 p i rs):rs.flatten.length<=p.length:=by
 refine Z7 h.nd fun x hx=> ?_
 obtain ⟨r,hr,hxr⟩:=ck0.mp hx;obtain ⟨y,L,a,b,rfl,_⟩:=h.ring r hr;exact T2 tp a x hxr
theorem bj2 {p:List Int}{i:Nat}{rs:List (List Int)}(h:G5 p i rs):rs.length<=rs.flatten.length:=by
 have:∀l:List (List Int),(∀r∈l,1<=r.length)->l.length<=l.flatten.length:=by
   intro l
   induction l with
   |nil=>intro _;exact cd5 _
   |cons a r ih=>
    intro h;have h1:=h a cd0
    have h2:=ih fun x hx=>h x (cc9 _ hx)
    rw[ch0,cc7,cd6];omega
 refine this rs fun r hr=> ?_
 obtain ⟨y,L,a,b,rfl,_⟩:=h.ring r hr;rw[C5];exact b.pos
end
end My
namespace My
open PySem L2 Mth
section
variable {P:Program} {w:World} {K:PySem.W.Frag} {mg:Str->Option Value} {base:Heap}
def ap0:Sp:=fun vs H Q _=>∃(a:Addr) (p:List Int) (x:Int),vs=[.ref a,.int x]/\D3 H a p/\In p x/\
 ∀(l:Addr) (L:Nat) (H':Hp),H l=none->c9 H H'->M2 p x L->L<=40->H' l=some (.lst ((y9 p x L).map V.int))->Q (.ref l) H'
theorem af5:o7 ["p","first","ring","thing"] ["p","first"] (j8 V0):=by rfl'
theorem bp6 {f:Addr}{fd:FuncData}(F:B6 K "walk_ring" "walk_ring" V0 f fd):o4 P w K mg base C6 1 f fd ["p","first"] ap0:=by
 refine F.ok af5 (fun vs H Q E h=> ?_) (fun cdv A outer s H vs Q E hr h=> ?_)
 · obtain ⟨a,p,x,rfl,_⟩:=h;rfl
 · obtain ⟨a,p,x,rfl,⟨ha,tp,lp⟩,hx,q⟩:=h
   refine ⟨_,i5 (j9 (i:=2) af5.nd rfl (Or.inl rfl) (o0 (c5 (pv 1) c6)))
     (i5 (j9 (i:=3) af5.nd rfl (Or.inl rfl) (A9 x9 (pv 0) (pv 1) (fun _ _=>rfl)))
     (i5 (ac3 PassesOwn.never (o5 W6 (pv 3) (pv 1) (q9 _)) (i5 (C1 (L5 (pv 2) (c5 (pv 3) c6))) (i9 (j9 (i:=3) af5.nd rfl (Or.inl rfl) (A9 x9 (pv 0) (pv 3) (fun _ _=>rfl))))))
     (i9 (l7 (pv 2))))),?_⟩
   refine ⟨_,rfl,(by show 1<=sizeLine;decide),fun l hl=> ?_⟩;have nal:a≠l:=i7 ha hl
   have hal:(c8 H l (.lst [.int x])) a=some (.lst (p.map V.int)):=by rw[i6 nal];exact ha
   refine ⟨_,rfl,_,rfl,a,_,_,_,rfl,rfl,j4.of hal,N3 hx.1 hx.2,?_⟩
   refine ac4 (fun σ H2=>∃m:Nat,σ=[some (.ref a),some (.int x),some (.ref l),some (.int (it p m x))]/\1<=m/\H2 l=some (.lst ((y9 p x m).map V.int))/\c9 H H2/\∀i,0 < i->i < m->it p i x≠x) (fun _ H2=>p.length+1 - al8 H2 l)
     ⟨1,rfl,cd5 _,c7,c9.upd_new hl,fun i i0 i1=>by omega⟩ ?_ ?_
   · rintro σ H2 ⟨m,rfl,m1,h2l,s2,hne⟩;have ha2:=s2 a _ ha;refine ⟨_,rfl,_,rfl,rfl,_,rfl,?_⟩
     by_cases hb:it p m x=x
     · refine O0 (congrArg V.int hb) ?_;exact ⟨_,rfl,q l m H2 hl s2 ⟨by omega,hb,hne⟩ (by have:=af3 tp hx hne;omega) h2l⟩
     · have hb':¬V.int (it p m x)=V.int x:=fun z=>hb (V.int.inj z)
       rw[decide_eq_false hb'];refine B9 ?_
       have hne':∀i,0 < i->i < m+1->it p i x≠x:=fun i i0 i1=>by
         by_cases e:i=m
         · rw[e];exact hb
         · exact hne i i0 (by omega)
       have hbd:=af3 tp hx hne';refine ⟨_,rfl,.inl ⟨rfl,_,j4.of h2l⟩,_,rfl,l,_,_,rfl,rfl,h2l,q0 (by rw[cc4,C5];omega),?_⟩;have hi:=X4 tp hx m;refine ⟨_,rfl,_,rfl,a,_,_,_,rfl,rfl,j4.of (by rw[i6 nal];exact ha2),N3 hi.1 hi.2,?_⟩
       have h3l:(c8 H2 l (.lst ((y9 p x m).map V.int++[.int (it p m x)]))) l=some (.lst ((y9 p x (m+1)).map V.int)):=by
         rw[c7,aw8,ce6];rfl
       refine ⟨⟨m+1,rfl,by omega,h3l,fun b o hb=>by rw[i6 (i7 hb hl)];exact s2 b o hb,hne'⟩,?_⟩;rw[Y0 h3l,Y0 h2l,cc4,cc4,C5,C5];omega
   · rintro σ H2 Q Q' hq ⟨v,hv,u,hu,e1,k1,e2,e3⟩;exact ⟨v,hv,u,hu,e1,k1,e2,hq _ _ e3⟩
theorem S1:o7 ["p","rings","seen","first","ring","thing"] ["p"] (j8 T4):=by rfl'
theorem bj3 {f:Addr}{fd:FuncData}(F:B6 K "walk_rings" "walk_rings" T4 f fd)(B:Bl mg)(cR:A0 P w K mg base "walk_ring" 1 ["p","first"] ap0):o4 P w K mg base C6 2 f fd ["p"] ah8:=by
 refine F.ok S1 (fun vs H Q E h=> ?_) (fun cdv A outer s H vs Q E hr h=> ?_)
 · obtain ⟨a,p,rfl,_⟩:=h;rfl
 · obtain ⟨a,p,rfl,⟨ha,tp,lp⟩,q⟩:=h;have hu:=U4 hr
   refine ⟨_,i5 (j9 (i:=1) S1.nd rfl (Or.inl rfl) (o0 c6)) (i5 (j9 (i:=2) S1.nd rfl (Or.inl rfl) K6)
     (i5 (D9 PassesOwn.never rfl (K8 (by rfl) B.range (c5 (w9 B.len (c5 (pv 0) c6)) c6)) (A5 (i:=3) S1.nd rfl (Or.inl rfl))
       (i9 (A3 (am0 (bb6 hu (pv 3) (pv 2))) (i5 (j9 (i:=4) S1.nd rfl (Or.inl rfl) (j6 cR hr (c5 (pv 0) (c5 (pv 3) c6)))) (i5 (C1 (L5 (pv 1) (c5 (pv 4) c6)))
         (i9 (D9 PassesOwn.never rfl (D7 (pv 4)) (A5 (i:=5) S1.nd rfl (Or.inl rfl)) (i9 (ah0 hu (pv 2) (pv 5) B4 rfl)))))) w6)))
     (i9 (l7 (pv 1))))),?_⟩
   refine ⟨cg0 _,fun l hl=> ?_⟩;intro d hd
   have hdl:d≠l:=fun z=>by rw[z,c7] at hd;cases hd
   have hd0:H d=none:=by rw[i6 hdl] at hd;exact hd
   have s0:c9 H (c8 (c8 H l (.lst [])) d (.dK [])):=(c9.upd_new hl).upd_r hd0
   have h0l:(c8 (c8 H l (.lst [])) d (.dK [])) l=some (.lst []):=by rw[i6 hdl.symm,c7]
   refine ⟨_,rfl,a,_,rfl,.inl (j4.of (s0 a _ ha)),(p.length:Int),?_,by omega,by omega,?_⟩
   · rw[cc4]
   rw[show ((p.length:Int)).toNat=p.length by omega]
   refine U3 (lo:=0) (n:=p.length) (fun i σ H2=>∃(as:List Addr) (rs:List (List Int)) (v3 v4 v5:Option V),σ=[some (.ref a),some (.ref l),some (.ref d),v3,v4,v5]/\H2 l=some (.lst (as.map V.ref))/\H2 d=some (.dK (G0 rs.flatten))/\X3 H2 as rs/\G5 p i rs/\c9 H H2/\(∀b∈as,H b=none)/\as.Nodup/\l∉as)
     ⟨[],[],none,none,none,rfl,h0l,c7,⟨rfl,fun j b r h=>by simp at h⟩,aw9 p,s0,fun b hb=>by simp at hb,cj4,by simp⟩ ?_ ?_
   · rintro i σ H2 hi ⟨as,rs,v3,v4,v5,rfl,h2l,h2d,rows,up,s2,fa,nda,nla⟩;have hx:In p (i:Int):=⟨by omega,by omega⟩
     have e0:(0:Int)+(i:Int)=(i:Int):=by omega
     rw[e0];refine ⟨_,rfl,_,rfl,d,_,rfl,W8.k (k:=Sum.inl (i:Int)) h2d,_,rfl,?_⟩
     by_cases hm:(i:Int)∈rs.flatten
     · rw[ad0 hm];refine A4 ?_;exact ⟨as,rs,_,_,_,rfl,h2l,h2d,rows,ax0 up hm,s2,fa,nda,nla⟩
     · rw[X2 hm];refine B9 ?_;refine ⟨_,rfl,_,rfl,a,p,_,rfl,⟨s2 a _ ha,tp,lp⟩,hx,fun e L H3 he s23 pr hL h3e=> ?_⟩;have h3l:=s23 l _ h2l;have h3d:=s23 d _ h2d;have nle:l≠e:=i7 h2l he;have nde:d≠e:=i7 h2d he;have fl:=bu3 tp up;have cl:=bj2 up;have lenas:=rows.1;refine ⟨_,rfl,.inl ⟨rfl,_,j4.of h3l⟩,_,rfl,l,_,_,rfl,rfl,h3l,q0 (by rw[cc4,lenas];omega),?_⟩
       have es:as.map V.ref++[V.ref e]=(as++[e]).map V.ref:=by rw[ce6];rfl
       rw[es];have h4l:(c8 H3 l (.lst ((as++[e]).map V.ref))) l=some (.lst ((as++[e]).map V.ref)):=c7
       have h4d:(c8 H3 l (.lst ((as++[e]).map V.ref))) d=some (.dK (G0 rs.flatten)):=by rw[i6 hdl];exact h3d
       have h4e:(c8 H3 l (.lst ((as++[e]).map V.ref))) e=some (.lst ((y9 p i L).map V.int)):=by rw[i6 nle.symm];exact h3e
       have k4:∀b o,H2 b=some o->b≠l->(c8 H3 l (.lst ((as++[e]).map V.ref))) b=some o:=fun b o hb hn=>by rw[i6 hn];exact s23 b o hb
       generalize (c8 H3 l (.lst ((as++[e]).map V.ref)))=H4 at h4l h4d h4e k4 ⊢;have fr:=ab8 up pr hm
       have ndr:=O1 tp hx fun j j0 j1=>pr.least j j0 j1
       refine ⟨_,rfl,e,rfl,⟨_,j4.of h4e⟩,E8 (K:=K) (a:=e) (xs:=(y9 p i L).map V.int) (fun j σ H5=>∃v5':Option V,σ=[some (.ref a),some (.ref l),some (.ref d),some (.int (i:Int)),some (.ref e),v5']/\H5 d=some (.dK (G0 (rs.flatten++(y9 p i L).take j)))/\j3 d H4 H5)
         ⟨v5,rfl,by rw[List.take_zero,ci6];exact h4d,j3.refl d H4⟩ (fun j σ H5 _ zz=>by obtain ⟨_,_,_,k⟩:=zz;exact j4.of (k e _ h4e nde.symm)) ?_ ?_⟩
       · rintro j y σ H5 hj ⟨v5',rfl,h5d,kb⟩;obtain ⟨z,hz,rfl⟩:=D0 hj;have hjl:j < (y9 p i L).length:=(cc5.mp hz).1;rw[C5] at hjl
         have hzn:z∉rs.flatten++(y9 p i L).take j:=by
           intro hm'
           rcases cd2.mp hm' with g|g
           · exact fr z (cd7 hz) g
           · obtain ⟨jj,hjj⟩:=ch6.mp g
             have hjk:jj < j:=by
               have:=(cc5.mp hjj).1;rw[ce4] at this;omega
             rw[cf3 hjk] at hjj;have e1:=(cc5.mp hjj).2;have e2:=(cc5.mp hz).2;exact ch7.mp (ce2.mp ndr) jj j (by rw[C5];omega) (by rw[C5];omega) hjk (by rw[e1,e2])
         refine ⟨_,rfl,_,rfl,d,_,rfl,ac7.k (k:=Sum.inl z) h5d (q0 (by unfold G0;rw[cc4,cc7,ce4,C5];omega)),?_⟩;refine ⟨_,rfl,?_,kb.upd_a⟩;rw[Z4 hzn,c7,B3 hz,ck9]
       · rintro σ H5 ⟨v5',rfl,h5d,kb⟩;rw[cc4,cf7] at h5d
         have nad:∀b∈as,b≠d/\b≠l:=fun b hb=>by
           obtain ⟨r,hr'⟩:=ao9 rows hb;exact ⟨bk2 hr' h2d (by intro z;cases z),fun z=>nla (z▸hb)⟩
         refine ⟨as++[e],rs++[y9 p i L],_,_,_,rfl,kb l _ h4l hdl.symm,?_,?_,ax1 tp up hx pr hm,?_,?_,?_,?_⟩
         · rw[h5d,ci0,ci9]
         · exact be4 (be5 rows fun b hb o ho=>kb b o (k4 b o ho (nad b hb).2) (nad b hb).1) (kb e _ h4e nde.symm)
         · exact fun b o hb=>kb b o (k4 b o (s2 b o hb) (i7 hb hl)) (i7 hb hd0)
         · intro b hb
           rcases cd2.mp hb with g|g
           · exact fa b g
           · have:b=e:=by simpa using g
             rw[this];exact s2.free he
         · refine V8 nda fun g=> ?_
           obtain ⟨r,hr'⟩:=ao9 rows g;rw[he] at hr';cases hr'
         · intro g
           rcases cd2.mp g with g|g
           · exact nla g
           · exact nle (by simpa using g)
   · rintro σ H2 ⟨as,rs,v3,v4,v5,rfl,h2l,h2d,rows,up,s2,fa,nda,nla⟩;exact ⟨_,rfl,q l as rs H2 hl s2 h2l rows up fa nda nla⟩
end
end My
namespace My
open PySem L2 Mth
section
variable {P:Program} {w:World} {K:PySem.W.Frag} {mg:Str->Option Value} {base:Heap}
def ap1:Sp:=fun vs H Q _=>∃(t r:Addr) (ts rs:List Int) (k:Int),vs=[.ref t,.ref r,.int k]/\H t=some (.lst (ts.map V.int))/\H r=some (.lst (rs.map V.int))/\t≠r/\rs.Nodup/\(∀x∈rs,0<=x/\x < ts.length)/\
 ∀(ts':List Int) (H':Hp),ts'.length=ts.length->(∀j,j < rs.length->G6 ts' (rs.getD j 0)=some (rs.getD (((j:Int)+k)%(rs.length:Int)).toNat 0))->(∀u,0<=u->u∉rs->G6 ts' u=G6 ts u)->H' t=some (.lst (ts'.map V.int))->j3 t H H'->Q .non H'
theorem ap2:o7 ["target","ring","steps","place","thing"] ["target","ring","steps"] (j8 T5):=by rfl'
theorem bp7 {f:Addr}{fd:FuncData}(F:B6 K "send_along" "send_along" T5 f fd)(B:Bl mg):o4 P w K mg base C6 1 f fd ["target","ring","steps"] ap1:=by
 refine F.ok ap2 (fun vs H Q E h=> ?_) (fun cdv A outer s H vs Q E hr h=> ?_)
 · obtain ⟨t,r,ts,rs,k,rfl,_⟩:=h;rfl
 · obtain ⟨t,r,ts,rs,k,rfl,ht,hrr,ntr,nd,bd,q⟩:=h
   refine ⟨_,i9 (D9 PassesOwn.never rfl (bn9 B.enum (c5 (pv 1) c6)) (bs0 rfl (am3 (A5 (i:=3) ap2.nd rfl (Or.inl rfl)) (am3 (A5 (i:=4) ap2.nd rfl (Or.inl rfl)) bm5)))
     (i9 (V4 (A9 x9 (pv 1) (j7 O4 (j7 A6 (pv 3) (pv 2)) (w9 B.len (c5 (pv 1) c6))) (fun _ _=>rfl)) (V3 (pv 0) (pv 4) N1)))),?_⟩
   refine ⟨_,rfl,r,rfl,⟨_,j4.of hrr⟩,bi5 (K:=K) (a:=r) (xs:=rs.map V.int) (fun i σ H2=>∃(ts':List Int) (v3 v4:Option V),σ=[some (.ref t),some (.ref r),some (.int k),v3,v4]/\H2 t=some (.lst (ts'.map V.int))/\ts'.length=ts.length/\(∀j,j < i->G6 ts' (rs.getD j 0)=some (rs.getD (((j:Int)+k)%(rs.length:Int)).toNat 0))/\(∀u,0<=u->u∉rs->G6 ts' u=G6 ts u)/\j3 t H H2)
     ⟨ts,none,none,rfl,ht,rfl,fun j hj=>by omega,fun u _ _=>rfl,j3.refl t H⟩ (fun i σ H2 _ zz=>by obtain ⟨_,_,_,_,_,_,_,_,k⟩:=zz;exact j4.of (k r _ hrr ntr.symm)) ?_ ?_⟩
   · rintro i y σ H2 tt hi ⟨ts',v3,v4,rfl,h2t,hl,hj,hu,kb⟩ htt;obtain ⟨z,hz,rfl⟩:=D0 hi;have hil:i < rs.length:=(cc5.mp hz).1;have h2r:=kb r _ hrr ntr.symm;have nt:t≠tt:=i7 h2t htt;have nr:r≠tt:=i7 h2r htt
     have h3r:(c8 H2 tt (.tup [.int (i:Int),.int z])) r=some (.lst (rs.map V.int)):=by rw[i6 nr];exact h2r
     have h3t:(c8 H2 tt (.tup [.int (i:Int),.int z])) t=some (.lst (ts'.map V.int)):=by rw[i6 nt];exact h2t
     have L0:(0:Int) < (rs.length:Int):=by omega
     have m0:=ch1 ((i:Int)+k) (show (rs.length:Int)≠0 by omega);have m1:=ch4 ((i:Int)+k) L0;refine ⟨tt,_,rfl,V2.of c7,rfl,_,_,rfl,_,_,rfl,rfl,?_⟩;refine ⟨_,rfl,_,rfl,_,rfl,_,_,rfl,rfl,_,rfl,r,_,rfl,.inl (j4.of h3r),?_⟩;rw[cc4];refine ⟨_,_,rfl,rfl,L0,r,_,_,_,rfl,rfl,j4.of h3r,N3 m0 m1,?_⟩;obtain ⟨z0,z1⟩:=bd z (cd7 hz);refine ⟨_,rfl,_,rfl,t,_,_,z.toNat,rfl,rfl,h3t,?_,?_⟩
     · unfold V6;rw[cc4,if_pos z0,if_pos (by omega)]
     have es:(ts'.map V.int).set z.toNat (.int (rs.getD (((i:Int)+k)%(rs.length:Int)).toNat 0))=(ts'.set z.toNat (rs.getD (((i:Int)+k)%(rs.length:Int)).toNat 0)).map V.int:=by rw[cl8]
     rw[es]
     have hzi:rs.getD i 0=z:=by rw[J5 hil];exact (cc5.mp hz).2
     refine ⟨_,_,_,rfl,c7,by rw[cj3];exact hl,fun j hji=> ?_,fun u u0 un=> ?_,fun b o hb hn=> ?_⟩
     · by_cases e:j=i
       · subst e;rw[hzi,an6 (by omega)]
       · have hjl:j < rs.length:=by omega
         have:rs.getD j 0≠z:=by rw[<-hzi];exact R6 nd hjl hil e
         rw[af2 (bd _ (by rw[J5 hjl];exact ce7 hjl)).1 z0 this];exact hj j (by omega)
     · rw[af2 u0 z0 (fun e=>un (e▸cd7 hz))];exact hu u u0 un
     · have:=kb b o hb hn;rw[i6 hn,i6 (i7 this htt)];exact this
   · rintro σ H2 ⟨ts',v3,v4,rfl,h2t,hl,hj,hu,kb⟩;rw[cc4] at hj;exact q ts' H2 hl hj hu h2t kb
end
end My
namespace My
open PySem L2 Mth
section
variable {P:Program} {w:World} {K:PySem.W.Frag} {mg:Str->Option Value} {base:Heap}
def S2:Sp:=fun vs H Q _=>∃(a:Addr) (p:List Int) (k:Int),vs=[.ref a,.int k]/\D3 H a p/\∀(l:Addr) (t:List Int) (H':Hp),H l=none->c9 H H'->bl4 p k t->H' l=some (.lst (t.map V.int))->Q (.ref l) H'
theorem ab2:o7 ["p","k","told","ring"] ["p","k"] (j8 M7):=by rfl'
theorem ap3 {f:Addr}{fd:FuncData}(F:B6 K "power_of" "power_of" M7 f fd)(B:Bl mg)(cM:A0 P w K mg base "must_be_turn" 3 ["thing"] T9)(cR:A0 P w K mg base "walk_rings" 2 ["p"] ah8)(cS:A0 P w K mg base "send_along" 1 ["target","ring","steps"] ap1):o4 P w K mg base C6 4 f fd ["p","k"] S2:=by
 refine F.ok ab2 (fun vs H Q E h=> ?_) (fun cdv A outer s H vs Q E hr h=> ?_)
 · obtain ⟨a,p,k,rfl,_⟩:=h;rfl
 · obtain ⟨a,p,k,rfl,⟨ha,tp,lp⟩,q⟩:=h
   refine ⟨_,i5 (C1 (j6 cM hr (c5 (pv 0) c6))) (i5 (j9 (i:=2) ab2.nd rfl (Or.inl rfl) (Z5 B.list (c5 (pv 0) c6)))
     (i5 (D9 PassesOwn.never rfl (D7 (j6 cR (hr.mono (by decide)) (c5 (pv 0) c6))) (A5 (i:=3) ab2.nd rfl (Or.inl rfl)) (i9 (C1 (j6 cS (hr.mono (by decide)) (c5 (pv 2) (c5 (pv 3) (c5 (pv 1) c6)))))))
     (i9 (l7 (pv 2))))),?_⟩
   refine ⟨_,rfl,a,p,rfl,⟨ha,tp,lp⟩,fun H1 s1=> ?_⟩;refine ⟨_,rfl,a,_,rfl,.inl (j4.of (s1 a _ ha)),fun l hl=> ?_⟩;have hl0:H l=none:=s1.free hl;have s2:c9 H (c8 H1 l (.lst (p.map V.int))):=s1.upd_r hl0;have h2l:(c8 H1 l (.lst (p.map V.int))) l=some (.lst (p.map V.int)):=c7;generalize (c8 H1 l (.lst (p.map V.int)))=H2 at s2 h2l ⊢;refine ⟨_,rfl,a,p,rfl,⟨s2 a _ ha,tp,lp⟩,fun g as rs H3 hg s23 h3g rows up fa nda nga=> ?_⟩;have h3l:=s23 l _ h2l
   have ngl:g≠l:=fun z=>by rw[z,h2l] at hg;cases hg
   refine ⟨g,rfl,⟨_,j4.of h3g⟩,E8 (K:=K) (a:=g) (xs:=as.map V.ref) (fun i σ H4=>∃(ts:List Int) (v3:Option V),σ=[some (.ref a),some (.int k),some (.ref l),v3]/\H4 l=some (.lst (ts.map V.int))/\ts.length=p.length/\(∀x∈(rs.take i).flatten,∃L,M2 p x L/\G6 ts x=some (it p (k%(L:Int)).toNat x))/\j3 l H3 H4)
     ⟨p,none,rfl,h3l,rfl,fun x hx=>by simp at hx,j3.refl l H3⟩ (fun i σ H4 _ zz=>by obtain ⟨_,_,_,_,_,_,kb⟩:=zz;exact j4.of (kb g _ h3g ngl)) ?_ ?_⟩
   · rintro i y σ H4 hi ⟨ts,v3,rfl,h4l,hl4,hx4,kb⟩;rw[ce3] at hi
     cases hai:as[i]? with
     |none=>rw[hai] at hi;cases hi
     |some e=>
      rw[hai] at hi;cases hi;have hil:i < as.length:=(cc5.mp hai).1;have hri:rs[i]? =some (rs[i]'(by rw[<-rows.1];exact hil)):=cc6 _;generalize hR:rs[i]'(by rw[<-rows.1];exact hil)=R at hri;have h3e:=rows.2 i e R hai hri;have hRm:R∈rs:=cd7 hri;obtain ⟨x,L,hx,pr,eR,_⟩:=up.ring R hRm
      have nle:l≠e:=fun z=>by have:=fa e (cd7 hai);rw[<-z,h2l] at this;cases this
      have h4e:=kb e _ h3e nle.symm;refine ⟨_,rfl,_,rfl,_,rfl,l,e,ts,R,k,rfl,h4l,h4e,nle,?_,?_,?_⟩
      · rw[eR];exact O1 tp hx fun j j0 j1=>pr.least j j0 j1
      · intro y hy;rw[eR] at hy;have:=T2 tp hx y hy;rw[hl4];exact this
      intro ts' H5 hl5 hj hu h5l kb5;refine ⟨ts',_,rfl,h5l,by omega,fun y hy=> ?_,kb.trans kb5⟩;rw[B3 hri,ci0,ci9] at hy
      have hsplit:rs.flatten=(rs.take i).flatten++(R++(rs.drop (i+1)).flatten):=by
        conv=>lhs;rw[<-cj9 i rs,ci0]
        rw[List.drop_eq_getElem_cons (by rw[<-rows.1];exact hil),hR,ch0]
      by_cases hyR:y∈R
      · rw[eR] at hyR;obtain ⟨j,hjL,rfl⟩:=L6.mp hyR;refine ⟨L,pr.shift tp hx j,?_⟩
        have hjr:j < R.length:=by rw[eR,C5];exact hjL
        have:=hj j hjr
        have rl:(R.length:Int)=(L:Int):=by rw[eR,C5]
        rw[rl] at this;have b0:=ch1 ((j:Int)+k) (show (L:Int)≠0 by have:=pr.pos;omega);have b1:=ch4 ((j:Int)+k) (show (0:Int) < (L:Int) by have:=pr.pos;omega);rw[eR,R7 hjL,R7 (by omega),ax2 pr] at this;exact this
      · rcases cd2.mp hy with g'|g'
        · obtain ⟨M,pm,em⟩:=hx4 y g';refine ⟨M,pm,?_⟩
          have y0:0<=y:=by
            obtain ⟨r,hr',hyr⟩:=ck0.mp g';obtain ⟨x',L',hx',_,er,_⟩:=up.ring r (ch8 hr');rw[er] at hyr;exact (T2 tp hx' y hyr).1
          rw[hu y y0 hyR];exact em
        · exact absurd g' hyR
   · rintro σ H4 ⟨ts,v3,rfl,h4l,hl4,hx4,kb⟩;rw[cc4,rows.1,cf7] at hx4;refine ⟨_,rfl,q l ts H4 hl0 (fun b o hb=>kb b o (s23 b o (s2 b o hb)) (i7 hb hl0)) ⟨hl4,fun x hx=>hx4 x (up.all x hx.1 hx.2)⟩ h4l⟩
end
end My
namespace My
open PySem L2 Mth
section
variable {P:Program} {w:World} {K:PySem.W.Frag} {mg:Str->Option Value} {base:Heap}
def af6 (K:PySem.W.Frag):Sp:=fun vs H Q _=>∃(a b:Addr) (xs ys:List V),vs=[.ref a,.ref b]/\j4 K H a xs/\j4 K H b ys/\xs.length=ys.length/\Q .non H
theorem bl9:o7 ["p","q"] ["p","q"] (j8 M5):=by rfl'
theorem be6 {f:Addr}{fd:FuncData}(F:B6 K "must_fit" "must_fit" M5 f fd)(B:Bl mg):o4 P w K mg base C6 1 f fd ["p","q"] (af6 K):=by
 refine F.ok bl9 (fun vs H Q E h=> ?_) (fun cdv A outer s H vs Q E hr h=> ?_)
 · obtain ⟨a,b,xs,ys,rfl,_⟩:=h;rfl
 · obtain ⟨a,b,xs,ys,rfl,ha,hb,hl,k⟩:=h;refine ⟨_,i9 (A3 (o5 W6 (w9 B.len (c5 (pv 0) c6)) (w9 B.len (c5 (pv 1) c6)) (q9 _)) (i9 am1) w6),?_⟩;refine ⟨_,rfl,a,xs,rfl,.inl ha,_,rfl,b,ys,rfl,.inl hb,rfl,_,rfl,?_⟩;refine O0 (by rw[hl]) k
def Y1:Sp:=fun vs H Q _=>∃(a b:Addr) (p q:List Int),vs=[.ref a,.ref b]/\D3 H a p/\D3 H b q/\p.length=q.length/\
 ∀(l:Addr) (H':Hp),H l=none->c9 H H'->H' l=some (.lst ((aw4 p q).map V.int))->Q (.ref l) H'
theorem ap4:o7 ["p","q"] ["p","q"] (j8 J0):=by rfl'
theorem bp8:(["place","p"]:List Str).Nodup:=by decide+kernel
theorem aj7 {f:Addr}{fd:FuncData}(F:B6 K "put_behind" "put_behind" J0 f fd)(cM:A0 P w K mg base "must_be_turn" 3 ["thing"] T9)(cF:A0 P w K mg base "must_fit" 1 ["p","q"] (af6 K)):o4 P w K mg base C6 4 f fd ["p","q"] Y1:=by
 refine F.ok ap4 (fun vs H Q E h=> ?_) (fun cdv A outer s H vs Q E hr h=> ?_)
 · obtain ⟨a,b,p,q,rfl,_⟩:=h;rfl
 · obtain ⟨a,b,p,q,rfl,⟨ha,ta,la⟩,⟨hb,tb,lb⟩,hl,k⟩:=h
   refine ⟨_,i5 (C1 (j6 cM hr (c5 (pv 0) c6))) (i5 (C1 (j6 cM hr (c5 (pv 1) c6))) (i5 (C1 (j6 cF (hr.mono (by decide)) (c5 (pv 0) (c5 (pv 1) c6))))
     (i9 (l7 (V9 (N:=["place","p"]) (nl:=1) (fr:=[0]) rfl .of (D7 (pv 1)) (fun _ _ _ _ _=>A5 (i:=0) bp8 rfl (Or.inl rfl)) (fun _ _ _ _ _=>X0) (fun _ _ _ _ _=>A9 (r:=bs9 K) x9 (pv 1) (pv 0) (fun _ _=>rfl))))))),?_⟩
   refine ⟨_,rfl,a,p,rfl,⟨ha,ta,la⟩,fun H1 s1=> ?_⟩;refine ⟨_,rfl,b,q,rfl,⟨s1 _ _ hb,tb,lb⟩,fun H2 s2=> ?_⟩;have s02:=s1.trans s2;refine ⟨_,rfl,_,rfl,a,b,_,_,rfl,j4.of (s02 _ _ ha),j4.of (s02 _ _ hb),by simpa using hl,?_⟩;refine ⟨_,rfl,b,rfl,⟨_,j4.of (s02 _ _ hb)⟩,Z2 (K:=K) (a:=b) (xs:=q.map V.int) (fun i ys σ H3=>∃v,σ=[v,some (.ref a)]/\H3=H2/\ys=(aw4 p (q.take i)).map V.int) ⟨none,rfl,rfl,rfl⟩ (fun i ys σ H3 _ zz=>by obtain ⟨_,_,e,_⟩:=zz;rw[e];exact j4.of (s02 _ _ hb)) ?_ ?_⟩
   · rintro i x ys σ H3 hi ⟨v,rfl,rfl,rfl⟩;obtain ⟨z,hz,rfl⟩:=D0 hi;have hzq:=cd7 hz;refine ⟨_,rfl,_,rfl,a,_,z,_,rfl,rfl,j4.of (s02 _ _ ha),N3 (tb.lo z hzq) (by have:=tb.hi z hzq;omega),?_,?_⟩
     · refine q0 ?_;unfold aw4;rw[cc4,cc4,ce4];omega
     · refine ⟨_,rfl,rfl,?_⟩;rw[B3 hz];unfold aw4;rw[ce6,ce6];rfl
   · rintro ys σ H3 ⟨v,rfl,rfl,rfl⟩ D hD;rw[cc4,cf7];exact k D _ (s02.free hD) (s02.upd_r (s02.free hD)) c7
end
end My
namespace My
open PySem L2 Mth
section
variable {P:Program} {w:World} {K:PySem.W.Frag} {mg:Str->Option Value} {base:Heap}
def af7:Sp:=fun vs H Q _=>∃(a:Addr) (p:List Int),vs=[.ref a]/\D3 H a p/\∀(l:Addr) (t:List Int) (H':Hp),H l=none->c9 H H'->bl4 p (-1) t->H' l=some (.lst (t.map V.int))->Q (.ref l) H'
theorem be7:o7 ["p"] ["p"] (j8 M6):=by rfl'
theorem au5 {f:Addr}{fd:FuncData}(F:B6 K "way_back" "way_back" M6 f fd)(cP:A0 P w K mg base "power_of" 4 ["p","k"] S2):o4 P w K mg base C6 5 f fd ["p"] af7:=by
 refine F.ok be7 (fun vs H Q E h=> ?_) (fun cdv A outer s H vs Q E hr h=> ?_)
 · obtain ⟨a,p,rfl,_⟩:=h;rfl
 · obtain ⟨a,p,rfl,ta,q⟩:=h;refine ⟨_,i9 (l7 (j6 cP hr (c5 (pv 0) (c5 (R1 L7 i4) c6)))),?_⟩;exact ⟨_,rfl,_,rfl,a,p,-1,rfl,ta,q⟩
end
end My
namespace My
open PySem L2 Mth
section
variable {P:Program} {w:World} {K:PySem.W.Frag} {mg:Str->Option Value} {base:Heap}
def ax7:Sp:=fun vs H Q _=>∃(a:Addr) (c:Nat),vs=[.ref a]/\o6 H a c/\c<=900000/\∀(z:Int) (H':Hp),o6 H' a (c+10)->j3 a H H'->Q (.int z) H'
theorem ax8:o7 ["pool","some"] ["pool"] (j8 T7):=by rfl'
theorem bu4 {f:Addr}{fd:FuncData}(F:B6 K "_law_number" "_law_number" T7 f fd)(cT:A0 P w K mg base "_law_take" 1 ["pool","many"] M8):o4 P w K mg base C6 2 f fd ["pool"] ax7:=by
 refine F.ok ax8 (fun vs H Q E h=> ?_) (fun cdv A outer s H vs Q E hr h=> ?_)
 · obtain ⟨a,c,rfl,_⟩:=h;rfl
 · obtain ⟨a,c,rfl,hp,hc,q⟩:=h
   refine ⟨_,i5 (j9 (i:=1) ax8.nd rfl (Or.inl rfl) (o0 (c5 (j6 cT hr (c5 (pv 0) (c5 i4 c6))) (c5 (j6 cT hr (c5 (pv 0) (c5 i4 c6))) (c5 (j7 G3 i4 (j6 cT hr (c5 (pv 0) (c5 i4 c6)))) (c5 (j7 G3 i4 (j6 cT hr (c5 (pv 0) (c5 i4 c6)))) c6))))))
     (i5 (j9 (i:=1) ax8.nd rfl (Or.inl rfl) (j7 D1 (pv 1) (o0 (c5 (j7 A6 (j7 G3 (j6 cT hr (c5 (pv 0) (c5 (j7 O5 i4 i4) c6))) (j7 O5 i4 i4)) (j6 cT hr (c5 (pv 0) (c5 (j7 O5 i4 i4) c6)))) (c5 (j7 G3 i4 (j6 cT hr (c5 (pv 0) (c5 (j7 O5 i4 i4) c6)))) c6)))))
     (i9 (l7 (j7 G3 (A9 x9 (o0 (c5 i4 (c5 (R1 L7 i4) c6))) (j6 cT hr (c5 (pv 0) (c5 i4 c6))) (fun _ _=>rfl)) (A9 x9 (pv 1) (j6 cT hr (c5 (pv 0) (c5 i4 c6))) (fun _ _=>rfl)))))),?_⟩
   refine ⟨_,rfl,a,c,13,rfl,hp,by omega,by decide,by decide,fun r1 H1 r10 r11 p1 kb1=> ?_⟩;refine ⟨_,rfl,a,c+1,200,rfl,p1,by omega,by decide,by decide,fun r2 H2 r20 r21 p2 kb2=> ?_⟩;refine ⟨_,rfl,a,c+2,30,rfl,p2,by omega,by decide,by decide,fun r3 H3 r30 r31 p3 kb3=>⟨_,_,rfl,rfl,.inl ⟨by decide,by decide⟩,?_⟩⟩;refine ⟨_,rfl,a,c+3,32,rfl,p3,by omega,by decide,by decide,fun r4 H4 r40 r41 p4 kb4=>⟨_,_,rfl,rfl,.inl ⟨by decide,by decide⟩,?_⟩⟩;refine ⟨(by show 4<=sizeLine;decide),fun m hm=> ?_⟩;have kb04:j3 a H H4:=((kb1.trans kb2).trans kb3).trans kb4;obtain ⟨x4,y4,z4,h4a,hz4,hz4'⟩:=id p4;have nam:a≠m:=i7 h4a hm;have hm0:H m=none:=kb04.free hm nam.symm;have cp15:av3 10 15:=⟨by decide,by decide,by decide⟩;have cp20:av3 10 20:=⟨by decide,by decide,by decide⟩;have p5:o6 (c8 H4 m (.lst [.int r1,.int r2,.int (27720*r3),.int (2*r4)])) a (c+4):=⟨x4,y4,z4,by rw[i6 nam];exact h4a,hz4,by omega⟩;have h5m:(c8 H4 m (.lst [.int r1,.int r2,.int (27720*r3),.int (2*r4)])) m=some (.lst [.int r1,.int r2,.int (27720*r3),.int (2*r4)]):=c7;have kb05:j3 a H (c8 H4 m (.lst [.int r1,.int r2,.int (27720*r3),.int (2*r4)])):=kb04.upd_r hm0;generalize (c8 H4 m (.lst [.int r1,.int r2,.int (27720*r3),.int (2*r4)]))=H5 at p5 h5m kb05 ⊢;refine ⟨_,rfl,_,rfl,_,_,rfl,rfl,cp15,a,c+4,_,rfl,p5,by omega,by decide,by decide,fun r5 H6 r50 r51 p6 kb6=>⟨_,_,rfl,rfl,cp15,_,_,rfl,rfl,.inr ⟨by decide,by decide⟩,?_⟩⟩;refine ⟨_,rfl,_,_,rfl,rfl,cp15,a,c+5,_,rfl,p6,by omega,by decide,by decide,fun r6 H7 r60 r61 p7 kb7=>⟨_,_,rfl,rfl,?_⟩⟩;refine ⟨_,rfl,_,_,rfl,rfl,cp20,a,c+6,_,rfl,p7,by omega,by decide,by decide,fun r7 H8 r70 r71 p8 kb8=>⟨_,_,rfl,rfl,.inl ⟨by decide,by decide⟩,?_⟩⟩;have h8m:=kb8 m _ (kb7 m _ (kb6 m _ h5m nam.symm) nam.symm) nam.symm;have kb08:j3 a H H8:=((kb05.trans kb6).trans kb7).trans kb8;refine ⟨(by show 2<=sizeLine;decide),fun e he=> ?_⟩;have nme:m≠e:=i7 h8m he;obtain ⟨x8,y8,z8,h8a,hz8,hz8'⟩:=id p8;have nae:a≠e:=i7 h8a he;refine ⟨m,e,_,_,rfl,rfl,by rw[i6 nme];exact h8m,c7,(by show 6<=sizeLine;decide),fun g hg=> ?_⟩
   have hge:g≠e:=fun z=>by rw[z,c7] at hg;cases hg
   have hg8:H8 g=none:=by rw[i6 hge] at hg;exact hg
   have nag:a≠g:=i7 h8a hg8;refine ⟨_,rfl,(by show 2<=sizeLine;decide),fun d hd=> ?_⟩
   have hdg:d≠g:=fun z=>by rw[z,c7] at hd;cases hd
   have hde:d≠e:=fun z=>by rw[z,i6 hge.symm,c7] at hd;cases hd
   have hd8:H8 d=none:=by rw[i6 hdg,i6 hde] at hd;exact hd
   have nad:a≠d:=i7 h8a hd8;have kb09:j3 a H8 (c8 (c8 (c8 H8 e (.lst [.int (r5*10^(15:Int).toNat+r6),.int (720*r7)])) g (.lst ([.int r1,.int r2,.int (27720*r3),.int (2*r4)]++[.int (r5*10^(15:Int).toNat+r6),.int (720*r7)]))) d (.lst [.int 1,.int (-1)])):=(((j3.refl a H8).upd_r he).upd_r hg8).upd_r hd8;refine ⟨_,rfl,a,c+7,2,rfl,⟨x8,y8,z8,by rw[i6 nad,i6 nag,i6 nae];exact h8a,hz8,by omega⟩,by omega,by decide,by decide,fun r8 H9 r80 r81 p9 kb9=> ?_⟩;have h9d:=kb9 d _ c7 nad.symm;have h9g:=kb9 g _ (by rw[i6 hdg.symm,c7]) nag.symm
   have key1:∃u,V7 [V.int 1,V.int (-1)] r8=some (.int u)/\ -1<=u/\u<=1:=by
     have:r8=0\/r8=1:=by omega
     rcases this with rfl|rfl
     · exact ⟨1,o8 (j:=0) rfl,by decide,by decide⟩
     · exact ⟨-1,o8 (j:=1) rfl,by decide,by decide⟩
   obtain ⟨u,hat1,u0,u1⟩:=key1;refine ⟨d,_,_,_,rfl,rfl,j4.of h9d,hat1,?_⟩;refine ⟨_,rfl,_,rfl,a,c+8,6,rfl,p9,by omega,by decide,by decide,fun r9 H10 r90 r91 p10 kb10=> ?_⟩;have h10g:=kb10 g _ h9g nag.symm
   have key2:∃z,V7 ([V.int r1,V.int r2,V.int (27720*r3),V.int (2*r4)]++[V.int (r5*10^(15:Int).toNat+r6),V.int (720*r7)]) r9=some (.int z):=by
     have:r9=0\/r9=1\/r9=2\/r9=3\/r9=4\/r9=5:=by omega
     rcases this with rfl|rfl|rfl|rfl|rfl|rfl
     · exact ⟨_,o8 (j:=0) rfl⟩
     · exact ⟨_,o8 (j:=1) rfl⟩
     · exact ⟨_,o8 (j:=2) rfl⟩
     · exact ⟨_,o8 (j:=3) rfl⟩
     · exact ⟨_,o8 (j:=4) rfl⟩
     · exact ⟨_,o8 (j:=5) rfl⟩
   obtain ⟨z,hat2⟩:=key2
   have e64:(2:Int)^64=18446744073709551616:=by decide
   refine ⟨g,_,_,_,rfl,rfl,j4.of h10g,hat2,_,_,rfl,rfl,.inl ⟨by rw[e64];omega,by rw[e64];omega⟩,?_⟩;exact q _ H10 (p10.mono (by omega)) (((kb08.trans kb09).trans kb9).trans kb10)
end
end My
namespace My
open PySem L2 Mth
section
variable {P:Program} {w:World} {K:PySem.W.Frag} {mg:Str->Option Value} {base:Heap} {zxx zzz zzy zy zyz zyx zyy zw zx zxz zwz:Addr}
def U0 (K:PySem.W.Frag)(H:Hp)(x:V):Prop:=∃t b1 b2,D5 K H x t/\PySem.W.kitOne K t (.type "int")=some b1/\PySem.W.kitOne K t (.type "bool")=some b2/\(b1&& !b2)=false
def D8 (K:PySem.W.Frag)(H:Hp)(v:V):Prop:=(∃t,D5 K H v t/\PySem.W.kitOne K t (.type "list")=some false)\/
 ∃(a:Addr) (xs:List V),v= .ref a/\H a=some (.lst xs)/\(∀x∈xs,(∃i:Int,x= .int i)\/U0 K H x)/\∀p:List Int,xs=p.map V.int->p.length<=40->¬E6 p
theorem aj8 {K:PySem.W.Frag}{H H':Hp}{v:V}{t:Value}(h:D5 K H v t)(s:c9 H H'):D5 K H' v t:=by
 cases h with
 |non=>exact .non
 |bl x=>exact .bl x
 |int i=>exact .int i
 |str x=>exact .str x
 |flt x=>exact .flt x
 |lst e=>exact .lst (s _ _ e)
 |frz e=>exact .frz (s _ _ e)
 |tup e=>exact .tup (s _ _ e)
 |dK e=>exact .dK (s _ _ e)
 |dT e=>exact .dT (s _ _ e)
 |ins e a b c d f=>exact .ins (s _ _ e) a b c d f
theorem U0.keep {K:PySem.W.Frag}{H H':Hp}{x:V}(h:U0 K H x)(s:c9 H H'):U0 K H' x:=by
 obtain ⟨t,b1,b2,ty,r⟩:=h;exact ⟨t,b1,b2,aj8 ty s,r⟩
theorem D8.keep {K:PySem.W.Frag}{H H':Hp}{v:V}(h:D8 K H v)(s:c9 H H'):D8 K H' v:=by
 rcases h with ⟨t,ty,r⟩|⟨a,xs,e,ha,el,no⟩
 · exact .inl ⟨t,aj8 ty s,r⟩
 · exact .inr ⟨a,xs,e,s _ _ ha,fun x hx=>(el x hx).imp id fun z=>z.keep s,no⟩
def ah9 (K:PySem.W.Frag):Sp:=fun vs H Q _=>∃v,vs=[v]/\D8 K H v/\∀H',c9 H H'->Q (.bl false) H'
theorem Y2:o7 ["thing","seen","place"] ["thing"] (j8 O8):=by rfl'
theorem ax9 {f:Addr}{fd:FuncData}(F:B6 K "is_turn" "is_turn" O8 f fd)(B:Bl mg)(znz:∃t,mg "MOST_THINGS"=some (.int 40 t))(zuy:A0 P w K mg base "is_whole" 1 ["thing"] (ab1 K)):o4 P w K mg base C6 2 f fd ["thing"] (ah9 K):=by
 refine F.ok Y2 (fun vs H Q E h=> ?_) (fun cdv A outer s H vs Q E hr h=> ?_)
 · obtain ⟨v,rfl,no,k⟩:=h;rfl
 · obtain ⟨v,rfl,no,k⟩:=h;obtain ⟨_,zny⟩:=znz;have zly:y7 1 _:=hr.mono (by decide);have hu:=U4 hr;refine ⟨_,@i5 _ _ _ _ _ (@A3 _ _ _ _ _ _ _ _ (@C9 _ _ _ _ _ _ _ (@C3 _ _ _ _ (@C0 _ _ _ (@T0 _ _ _ _ _ _ B.isi (@c5 _ _ _ _ _ (pv 0) (@c5 _ _ _ _ _ (@Z3 _ _ B.list (by rfl)) (@c6 _) (by rfl)) (by rfl)) (by rfl) (by rfl) (by rfl)) (by intro _;rfl))) (@G1 _ _ _ _ (@o5 _ _ _ _ _ _ _ _ aa7 (@w9 _ _ _ _ _ B.len (@c5 _ _ _ _ _ (pv 0) (@c6 _) (by rfl)) (by rfl) (by rfl)) (@D6 _ _ (.int 40) _ _ (by rfl) zny ⟨_,rfl⟩ (by decide)) (q9 _)))).pt (@i9 _ _ _ (@l7 _ _ _ _ (@B4 _ _ _ _))) (@w6 _)) (@i5 _ _ _ _ _ (@j9 _ _ (1) _ _ _ _ Y2.nd rfl (Or.inl rfl) (@K6 _ _) (by rfl) (by trivial)) (@i5 _ _ _ _ _ (@D9 _ _ _ _ _ _ _ _ PassesOwn.never rfl (@D7 _ _ _ _ (pv 0)) (@A5 _ _ (2) _ Y2.nd rfl (Or.inl rfl) (by trivial)) (@i5 _ _ _ _ _ (@A3 _ _ _ _ _ _ _ _ (@C9 _ _ _ _ _ _ _ (@C3 _ _ _ _ (@C0 _ _ _ (@j6 _ _ _ _ _ _ _ _ _ _ zuy zly (@c5 _ _ _ _ _ (pv 2) (@c6 _) (by rfl)) (by rfl) (by decide) (by rfl) (by rfl)) (by intro _;rfl))) (@C9 _ _ _ _ _ _ _ (@o5 _ _ _ _ _ _ _ _ al6 (pv 2) (@i4 _ _ _ _) (q9 _)) (@C9 _ _ _ _ _ _ _ (@o5 _ _ _ _ _ _ _ _ al7 (pv 2) (@w9 _ _ _ _ _ B.len (@c5 _ _ _ _ _ (pv 0) (@c6 _) (by rfl)) (by rfl) (by rfl)) (q9 _)) (@G1 _ _ _ _ (@am0 _ _ _ _ _ _ (@bb5 _ _ _ _ _ hu (pv 2) (pv 1)) (by first|exact nobehind _ (by decide) (by decide)|rfl)))))).pt (@i9 _ _ _ (@l7 _ _ _ _ (@B4 _ _ _ _))) (@w6 _)) (@i9 _ _ _ (@ah0 _ _ _ _ _ _ _ _ _ hu (pv 1) (pv 2) (@B4 _ _ _ _) rfl))) (by intro _;rfl)) (@i9 _ _ _ (@l7 _ _ _ _ (@B4 _ _ _ _))))),?_⟩
   rcases no with ⟨t,ty,kt⟩|⟨a,xs,rfl,ha,el,no⟩
   · refine ⟨_,rfl,v,"list",t,false,rfl,ty,kt,false,rfl,?_⟩;exact B9 (k H (c9.refl H))
   · refine ⟨_,rfl,_,"list",_,true,rfl,.lst ha,G8 K "list",true,rfl,?_⟩;refine A4 ⟨_,rfl,a,_,rfl,.inl (j4.of ha),_,_,rfl,rfl,_,rfl,?_⟩;refine D2 (fun h40=>k H (c9.refl H)) (fun h40=> ?_)
     have h40:¬(40:Int) < (xs.length:Int):=fun z=>h40 (decide_eq_true z)
     intro d hd;have nad:a≠d:=i7 ha hd
     have ha1:(c8 H d (.dK [])) a=some (.lst xs):=by rw[i6 nad];exact ha
     refine ⟨_,rfl,a,rfl,⟨_,j4.of ha1⟩,E8 (K:=K) (a:=a) (xs:=xs) (fun i σ H2=>∃(v:Option V) (p:List Int),σ=[some (.ref a),some (.ref d),v]/\c9 H H2/\xs.take i=p.map V.int/\H2 d=some (.dK (G0 p))/\p.Nodup/\∀x∈p,0<=x/\x < xs.length)
       ⟨none,[],rfl,c9.upd_new hd,rfl,c7,cj4,fun x hx=>by simp at hx⟩ (fun i σ H2 _ zz=>by obtain ⟨_,_,_,s2,_⟩:=zz;exact j4.of (s2 a _ ha)) ?_ ?_⟩
     · rintro i y σ H2 hi ⟨v,p,rfl,s2,hp,h2,nd,bd⟩;have ha2:=s2 a _ ha;have hil:i < xs.length:=(cc5.mp hi).1
       rcases el y (cd7 hi) with ⟨z,rfl⟩|odd
       · refine ⟨_,rfl,.int z,_,true,false,rfl,.int z,G8 K "int",M1 K,_,rfl,?_⟩;refine A4 ⟨_,rfl,_,_,rfl,rfl,_,rfl,?_⟩;refine D2 (fun hz0=>B9 (k H2 s2)) (fun hz0=> ?_)
         have hz0:¬z < 0:=fun q=>hz0 (decide_eq_true q)
         refine ⟨_,rfl,_,rfl,a,_,rfl,.inl (j4.of ha2),_,_,rfl,rfl,_,rfl,?_⟩;refine D2 (fun hz1=>B9 (k H2 s2)) (fun hz1=> ?_)
         have hz1:¬(xs.length:Int)<=z:=fun q=>hz1 (decide_eq_true q)
         refine ⟨_,rfl,_,rfl,d,_,rfl,W8.k (k:=Sum.inl z) h2,_,rfl,?_⟩
         have lp:p.length<=i:=by
           have:=congrArg List.length hp;rw[ce4,cc4] at this;omega
         by_cases hm:z∈p
         · rw[ad0 hm];exact B9 (k H2 s2)
         · rw[X2 hm];refine A4 ⟨_,rfl,_,rfl,d,_,rfl,ac7.k (k:=Sum.inl z) h2 (q0 (by unfold G0;rw[cc4];omega)),?_⟩;refine ⟨some (.int z),p++[z],rfl,fun b o e=>by rw[i6 (i7 e hd)];exact s2 b o e,?_,?_,?_,?_⟩
           · rw[B3 hi,hp,ce6];rfl
           · rw[Z4 hm,c7]
           · exact V8 nd hm
           · intro x hx
             rcases cd2.mp hx with q|q
             · exact bd x q
             · have:x=z:=by simpa using q
               omega
       · obtain ⟨t,b1,b2,ty,e1,e2,e3⟩:=odd.keep s2;refine ⟨_,rfl,y,t,b1,b2,rfl,ty,e1,e2,_,rfl,?_⟩;rw[e3];exact B9 (k H2 s2)
     · rintro σ H2 ⟨v,p,rfl,s2,hp,h2,nd,bd⟩;rw[cf7] at hp
       have lp:xs.length=p.length:=by rw[hp,cc4]
       exact absurd (show E6 p from ⟨nd,fun x hx=>(bd x hx).1,fun x hx=>by have:=(bd x hx).2;omega⟩) (no p hp (by omega))
def N8 (K:PySem.W.Frag)(q:Addr):Sp:=fun vs H _ E=>∃v,vs=[v]/\D8 K H v/\∀H',c9 H H'->E (.ref q) none H'
theorem af8:o7 ["thing"] ["thing"] (j8 E7):=be2
theorem ad5 {f:Addr}{fd:FuncData}(F:B6 K "must_be_turn" "must_be_turn" E7 f fd)(zuz:A0 P w K mg base "is_turn" 2 ["thing"] (ax4 X9 (ah9 K)))(zpz:T3 K mg "NoTurn" zzz):o4 P w K mg base (Q9 P w) 3 f fd ["thing"] (N8 K zzz):=by
 refine F.okx af8 (fun vs H Q E h=> ?_) (fun cdv A outer s H vs Q E hr h=> ?_)
 · obtain ⟨v,rfl,no,k⟩:=h;rfl
 · obtain ⟨v,rfl,no,k⟩:=h;have hr_is_turn:y7 2 _:=hr.mono (by decide);refine ⟨_,@i9 _ _ _ (@A3 _ _ _ _ _ _ _ _ (@C3 _ _ _ _ (@C0 _ _ _ (@j6 _ _ _ _ _ _ _ _ _ _ zuz hr_is_turn (@c5 _ _ _ _ _ (pv 0) (@c6 _) (by rfl)) (by rfl) (by decide) (by rfl) (by rfl)) (by intro _;rfl))) (@i9 _ _ _ (@ao1 _ _ _ _ _ _ _ _ _ aj5 rfl zpz (@K1 _ _ _ _) (by rfl) (by rfl) (by decide))) (@w6 _)),?_⟩;refine ⟨_,rfl,.inr ⟨v,rfl,no,fun H' s=>⟨false,rfl,?_⟩⟩⟩;exact B9 (k H' s)
end
end My
namespace My
open PySem L2 Mth
section
variable {P:Program} {w:World} {K:PySem.W.Frag} {mg:Str->Option Value} {base:Heap} {zxx zzz zzy zy zyz zyx zyy zw zx zxz zwz:Addr}
inductive O9 (H:Hp):Nat->V->Prop
 |non {n:Nat}:O9 H n .non
 |bl {n:Nat} (b:Bool):O9 H n (.bl b)
 |int {n:Nat} (i:Int):O9 H n (.int i)
 |str {n:Nat} (x:Str):O9 H n (.str x)
 |tup {n:Nat} {a:Addr} {xs:List V} (e:H a=some (.tup xs)):O9 H n (.ref a)
 |dic {n:Nat} {a:Addr} {kvs:List (x6×V)} (e:H a=some (.dK kvs)):O9 H n (.ref a)
 |lst {n:Nat} {a:Addr} {xs:List V} (e:H a=some (.lst xs)) (l:xs.length<=1000) (h:∀x∈xs,O9 H n x):O9 H (n+1) (.ref a)
theorem O9.keep {H H':Hp}(s:c9 H H'){n:Nat}{v:V}(h:O9 H n v):O9 H' n v:=by
 induction h with
 |non=>exact .non
 |bl b=>exact .bl b
 |int i=>exact .int i
 |str x=>exact .str x
 |tup e=>exact .tup (s _ _ e)
 |dic e=>exact .dic (s _ _ e)
 |lst e l _ ih=>exact .lst (s _ _ e) l ih
theorem O9.ints {H:Hp}{n:Nat}{a:Addr}{ns:List Int}(e:H a=some (.lst (ns.map V.int)))(l:ns.length<=1000):O9 H (n+1) (.ref a):=
 .lst e (by rw[cc4];exact l) fun x hx=>by obtain ⟨i,_,rfl⟩:=cf5.mp hx;exact .int i
end
end My
namespace My
open PySem L2 Mth
section
variable {P:Program} {w:World} {K:PySem.W.Frag} {mg:Str->Option Value} {base:Heap} {zxx zzz zzy zy zyz zyx zyy zw zx zxz zwz:Addr}
def E3 (H:Hp)(g l:Addr):Hp:=fun a=>if a=g\/a=l then none else H a
theorem B0 {H:Hp}{g l a:Addr}{o:HO}(h:H a=some o)(ng:a≠g)(nl:a≠l):E3 H g l a=some o:=by
 unfold E3;rw[if_neg (fun z=>z.elim ng nl)];exact h
theorem aa3 {H:Hp}{g l a:Addr}{o:HO}(h:E3 H g l a=some o):H a=some o/\a≠g/\a≠l:=by
 unfold E3 at h
 by_cases z:a=g\/a=l
 · rw[if_pos z] at h;cases h
 · rw[if_neg z] at h;exact ⟨h,fun e=>z (.inl e),fun e=>z (.inr e)⟩
theorem ab3 {H H':Hp}{g l:Addr}(k:j3 g H H'):c9 (E3 H g l) (E3 H' g l):=fun a o h=>let ⟨e,ng,nl⟩:=aa3 h;B0 (k a o e ng) ng nl
theorem be8 (H:Hp)(g l:Addr):c9 (E3 H g l) H:=fun a o h=>(aa3 h).1
theorem au6 {k:Nat}(hk:200<=k){i:Int}(h1: -10000000000000000000000000000000000000000<=i)(h2:i<=10000000000000000000000000000000000000000):i.natAbs.log2 < k:=by
 by_cases z:i.natAbs=0
 · rw[z,ck2];omega
 · refine (ck1 z).mpr (cd8 (m:=2^200) ?_ (Nat.pow_le_pow_right (by decide) hk))
   have e:(2:Nat)^200=1606938044258990275541962092341162602522202993782792835301376:=by decide
   rw[e];omega
def ay0 (i:Int):Prop:= -10000000000000000000000000000000000000000<=i/\i<=10000000000000000000000000000000000000000
def IE (M:Hp)(x:V):Prop:=∃d,Da M x d/\d.showable=true/\d.shown.length<=2000/\d.depth<=3
theorem IE.keep {M M':Hp}{x:V}(h:IE M x)(s:c9 M M'):IE M' x:=let ⟨d,a,r⟩:=h;⟨d,a.keep s,r⟩
theorem af9 {M:Hp}{i:Int}(h:ay0 i):IE M (.int i):=by
 have lg:i.natAbs.log2 < 1920:=au6 (by decide) h.1 h.2;refine ⟨_,.int i,by rw[PyData.showable];exact decide_eq_true lg,?_,by rw[PyData.depth];decide⟩;rw[PyData.shown]
 have:(Str.ofString (toString i)).length<=1921:=by
   rw[ofString_length];exact int_text_length_le (k:=1920) (by decide) lg
 exact cd3 this (by decide)
theorem bm0 {M:Hp}(b:Bool):IE M (.bl b):=⟨_,.bl b,by rw[PyData.showable],by rw[PyData.shown];cases b<;>decide,by rw[PyData.depth];decide⟩
theorem ag0 {M:Hp}:IE M .non:=⟨_,.non,by rw[PyData.showable],by rw[PyData.shown];decide,by rw[PyData.depth];decide⟩
theorem be9 {M:Hp}{x:Str}(h:(reprText x).length<=2000):IE M (.str x):=⟨_,.str x,by rw[PyData.showable],by rw[PyData.shown];exact h,by rw[PyData.depth];decide⟩
theorem ag1 {M:Hp}{a:Addr}(e:M a=some (.dK [])):IE M (.ref a):=⟨_,.dic e,by decide+kernel,by decide+kernel,by decide+kernel⟩
theorem ap5 {M:Hp}:∀{xs:List V},(∀x∈xs,IE M x)->∃ds,M4 M xs ds/\PyData.showableAll ds=true/\(∀t∈PyData.shownAll ds,t.length<=2000)/\(PyData.shownAll ds).length=xs.length/\PyData.depthAll ds<=3
 |[],_=>⟨[],.nil,by rw[PyData.showableAll],(fun t h=>by rw[PyData.shownAll] at h;cases h),by rw[PyData.shownAll];rfl,by rw[PyData.depthAll];decide⟩
 |x::xs,h=>by
  obtain ⟨ds,h1,h2,h3,h4,h5⟩:=ap5 fun y hy=>h y (cc9 _ hy)
  obtain ⟨d,g1,g2,g3,g4⟩:=h x cd0;refine ⟨d::ds,.cons g1 h1,by rw[PyData.showableAll,g2,h2];rfl,fun t ht=> ?_,by rw[PyData.shownAll,cd6,cd6,h4],by rw[PyData.depthAll];omega⟩;rw[PyData.shownAll] at ht
  rcases ce0.mp ht with z|z
  · rw[z];exact g3
  · exact h3 t z
def ag2 (M:Hp)(v:V):Prop:=∃d,Da M v d/\d.showable=true/\d.shown.length<=700000/\d.depth<=4
theorem ag2.of {M:Hp}{x:V}(h:IE M x):ag2 M x:=let ⟨d,a,b,c,e⟩:=h;⟨d,a,b,by omega,by omega⟩
theorem ay1 {M:Hp}{a:Addr}{xs:List V}(h:M a=some (.lst xs))(hx:∀x∈xs,IE M x)(l:xs.length<=300):ag2 M (.ref a):=by
 obtain ⟨ds,h1,h2,h3,h4,h5⟩:=ap5 hx;refine ⟨.list ds,.lst h h1,by rw[PyData.showable];exact h2,?_,by rw[PyData.depth];omega⟩;rw[PyData.shown];refine cd3 (O2 h3) ?_;rw[h4];have:=ck4 (2000+2) l;omega
theorem bj4 {H:Hp}{a:Addr}{ns:List Int}(h:H a=some (.lst (ns.map V.int)))(no:ns.length<=40->¬E6 ns):D8 K H (.ref a):=
 .inr ⟨a,_,rfl,h,fun x hx=>by obtain ⟨i,_,rfl⟩:=cf5.mp hx;exact .inl ⟨i,rfl⟩,fun p e l=>by rw[ab7 e] at no;exact no l⟩
theorem bu5 {H:Hp}(b:Bool):U0 K H (.bl b):=⟨_,true,true,.bl b,an3 K,G8 K "bool",rfl⟩
theorem bp9 {H:Hp}:U0 K H .non:=⟨_,false,false,.non,ao3 K,ak7 K,rfl⟩
theorem bq0 {H:Hp}(x:Str):U0 K H (.str x):=⟨_,false,false,.str x,as3 K,ao4 K,rfl⟩
theorem bq1 {H:Hp}{a:Addr}{xs:List V}(h:H a=some (.lst xs)):U0 K H (.ref a):=⟨_,false,false,.lst h,ao5 K,ak8 K,rfl⟩
end
end My
namespace PySem
namespace F
theorem bm1:typeLookup (.type "enumerate") "__getattr__"=pure none:=by rw[typeLookup_type,builtinLookup_eq_fast];kernel_rfl
theorem bu6:typeLookup (.type "enumerate") "keys"=pure none:=by rw[typeLookup_type,builtinLookup_eq_fast];kernel_rfl
theorem au7:entryFor table "enumerate.__getattribute__"=some Builtin.«object.__getattribute__»:=
 entryFor_alias (id':="object.__getattribute__") (by kernel_rfl) (by decide+kernel) (by decide+kernel) (by kernel_rfl)
theorem bq8:entryFor table "dict.update.loop"=some Builtin.«dict.update.loop»:=entryFor_of_tree (by kernel_rfl)
theorem bq9:plainId "dict.update.loop"=true:=by decide+kernel
end F
theorem al1 (a:Addr)(fs:Array Value)(u:Tok):
   Meets (Builtin.«object.__getattribute__» ⟨[.ref a,.str "keys" u],[]⟩) (fun A R s=>s.heap.get? a=some {cls:= .type "enumerate",dict:=none,data:= .fields fs,slots:= #[]}/\raisesAttr (.ref a) "keys" A R s):=
 Meets.of_wp fun prog w A R s hs=>by
   obtain ⟨hp,g,d,tk,os⟩:=s;obtain ⟨hx,hs⟩:=hs;have hT:(⟨hp,g,d,tk,os⟩:Shared).TypeIs (.ref a) "enumerate":=⟨_,hx,rfl⟩;have f1:=F.bu6;unfold Builtin.«object.__getattribute__»
   repeat (any_goals (first|assumption|wp_step))
   exact wpAny_raiseAttrError hs.1 hs.2 (attrMsg_fits (by decide+kernel) (by decide+kernel))
section
variable {prog:Program} {w:World} {A:Around} {E:Value->Shared->Prop} {s:Shared}
theorem ay2 {a:Addr}{fs:Array Value}{Q:Option Value->Shared->Prop}(hx:s.heap.get? a=some {cls:= .type "enumerate",dict:=none,data:= .fields fs,slots:= #[]})(hA:A.handled=none)
   (h:∀h' tk,(∀b ob,s.heap.get? b=some ob->h'.get? b=some ob)->Q none {s with heap:=h',toks:=tk}):
   wpAny (model prog w) A (getAttr? (.ref a) "keys") Q E s:=by
 obtain ⟨hp,g,d,tk,os⟩:=s
 have hT:∀tk',(⟨hp,g,d,tk',os⟩:Shared).TypeIs (.ref a) "enumerate":=fun _=>⟨_,hx,rfl⟩
 have f1:=sub_AttributeError;have f3:=F.slot_enumerate_getattribute.lookup;have f4:=F.slot_enumerate_getattribute.bind (.ref a);have f5:=F.bm1;unfold getAttr? getAttrBy? getAttrBy
 repeat (any_goals (first|assumption|exact hT _|((with_reducible show wpAny _ _ (call (Value.builtin "enumerate.__getattribute__") _ _) _ _ _);refine call_meets F.slot_enumerate_getattribute (hT _) F.au7 (F.args_enumerate_getattribute_2 _ _) (al1 a fs _) ⟨hx,hA,fun h' tk' e hx'=> ?_⟩)|wp_step))
 obtain ⟨t',u',he⟩:=hx'.there;show wpAny _ _ (getattributeRaised _ _ _ _ _ _ _) _ _ _;unfold getattributeRaised
 repeat (any_goals (first|assumption|wp_step))
 exact h _ _ hx'.keeps
abbrev Q0 (h:Heap)(e it:Addr)(i:Int)(old:Value)(a:Addr)(f:Bool):Prop:=
 h.get? e=some {cls:= .type "enumerate",dict:=none,data:= .fields #[rawInt a,.bool f,.ref it,rawInt i,.none,old],slots:= #[]}
theorem bj5 {a:Addr}{o:Obj}{Q:Option Obj->Shared->Prop}(ho:s.heap.get? a=some o)(h:Q (some o) s):wpAny (model prog w) A (loadIfAlive a) Q E s:=by
 have h':Q (s.heap.get? a) s:=by rw[ho];exact h
 exact fun _ _ _=>h'
theorem ap6 {e it l a:Addr}{f:Bool}{oa:Obj}{i:Nat}{items:Array Value}{x old:Value}{Q:Value->Shared->Prop}
   (he:Q0 s.heap e it i old a f) (ha:s.heap.get? a=some oa) (hae:a≠e) (hai:a≠it) (hit:s.heap.IsListIter it l i) (hl:s.heap.IsList l items) (hx:items[i]? =some x) (hne:e≠it)
   (hQ:∀h',Q0 h' e it ((i:Int)+1) old a true->h'.IsListIter it l (i+1)->
     h'.get? s.heap.objs.size=some {cls:= .type "tuple",data:= .seq #[.int i s.toks,x]}->h'.objs.size=s.heap.objs.size+1->
     (∀b o,b≠e->b≠it->s.heap.get? b=some o->h'.get? b=some o)->Q (.ref s.heap.objs.size) {s with heap:=h',toks:=s.toks+1}):
   wpAny (model prog w) A (Builtin.«enumerate.__next__» ⟨[.ref e],[]⟩) (fun fin s'=>∃v,fin= .done (.ret v)/\Q v s') E s:=by
 obtain ⟨hp,g,d,tk,os⟩:=s;show wpAny _ _ (field (.ref e) 2 >>=_) _ _ _;refine wpAny_bind (wpAny_field he rfl (x:= .ref it) rfl ?_);refine wpAny_bind (wpAny_nextOf_list_item hit hl hx fun h₁ hit₁ hs₁=> ?_)
 replace hs₁:Heap.SameBut it hp h₁:=hs₁
 have he₁:Q0 h₁ e it i old a f:=(hs₁.2 e hne).trans he;show wpAny _ _ (field (.ref e) 3 >>=_) _ _ ⟨h₁,g,d,tk,os⟩;refine wpAny_bind (wpAny_field he₁ rfl (x:=rawInt i) rfl ?_);show wpAny _ _ (field (.ref e) 4 >>=_) _ _ ⟨h₁,g,d,tk,os⟩;refine wpAny_bind (wpAny_field he₁ rfl (x:= .none) rfl ?_);show wpAny _ _ (mkInt i >>=_) _ _ ⟨h₁,g,d,tk,os⟩;refine wpAny_bind (wpAny_mkInt ?_);show wpAny _ _ (setField (.ref e) 3 (rawInt ((i:Int)+1)) >>=_) _ _ ⟨h₁,g,d,tk+1,os⟩;refine wpAny_bind (wpAny_setField_rec he₁ (by simp) fun h₂ he₂ hs₂=> ?_)
 replace hs₂:Heap.SameBut e h₁ h₂:=hs₂
 replace he₂:Q0 h₂ e it ((i:Int)+1) old a f:=he₂
 show wpAny _ _ (setField (.ref e) 4 .none >>=_) _ _ ⟨h₂,g,d,tk+1,os⟩;refine wpAny_bind (wpAny_setField_rec he₂ (by simp) fun h₃ he₃ hs₃=> ?_)
 replace hs₃:Heap.SameBut e h₂ h₃:=hs₃
 replace he₃:Q0 h₃ e it ((i:Int)+1) old a f:=he₃
 show wpAny _ _ (newTuple [.int i tk,x] >>=_) _ _ ⟨h₃,g,d,tk+1,os⟩;refine wpAny_bind (wpAny_newTuple ?_);have he₄:Q0 (h₃.push {cls:= .type "tuple",data:= .seq #[.int i tk,x]}) e it ((i:Int)+1) old a f:=Heap.get?_push_of_some _ he₃;generalize hh₄:h₃.push {cls:= .type "tuple",data:= .seq #[.int i tk,x]}=h₄ at he₄
 have hsz:h₃.objs.size=hp.objs.size:=by rw[hs₃.1,hs₂.1,hs₁.1]
 have hel:e < hp.objs.size:=Heap.lt_size he
 have ht₄:h₄.get? hp.objs.size=some {cls:= .type "tuple",data:= .seq #[.int i tk,x]}:=by rw[<-hh₄,<-hsz];exact Heap.get?_push_size _ rfl
 have hz₄:h₄.objs.size=hp.objs.size+1:=by rw[<-hh₄,Heap.size_push,hsz]
 have hk₄:∀b o,b≠e->b≠it->hp.get? b=some o->h₄.get? b=some o:=fun b o hbe hbi hb=>by
   rw[<-hh₄];exact Heap.get?_push_of_some _ (hs₃.extBut b o hbe (hs₂.extBut b o hbe (hs₁.extBut b o hbi hb)))
 have hit₄:h₄.IsListIter it l (i+1):=by
   rw[<-hh₄];obtain ⟨o,ho,r⟩:=(hit₁.extBut hs₂.extBut (Ne.symm hne)).extBut hs₃.extBut (Ne.symm hne);exact ⟨o,Heap.get?_push_of_some _ ho,r⟩
 have ha₄:h₄.get? a=some oa:=hk₄ a oa hae hai ha;show wpAny _ _ (Builtin.SmallTypes.ownedTupleIsFree (.ref e) >>=_) _ _ ⟨h₄,g,d,tk+1,os⟩;rw[hsz];clear hh₄ he₃ hs₃ he₂ hs₂ he₁ hs₁ hit₁ hsz h₃ h₂ h₁;refine wpAny_bind ?_;unfold Builtin.SmallTypes.ownedTupleIsFree;refine wpAny_bind (wpAny_field he₄ rfl (x:=rawInt a) rfl ?_);show wpAny _ _ (loadIfAlive a >>=_) _ _ _;refine wpAny_bind (bj5 ha₄ ?_);show wpAny _ _ (field (.ref e) 1 >>=_) _ _ _;refine wpAny_bind (wpAny_field he₄ rfl (x:= .bool f) rfl ?_)
 cases f with
 |true=>
  refine wpAny_pure ?_;refine wpAny_pure ⟨_,rfl,hQ h₄ he₄ hit₄ ht₄ hz₄ hk₄⟩
 |false=>
  show wpAny _ _ (setField (.ref e) 1 (.bool true) >>=_) _ _ _;refine wpAny_bind (wpAny_setField_rec he₄ (by simp) fun h₅ he₅ hs₅=> ?_)
  replace hs₅:Heap.SameBut e h₄ h₅:=hs₅
  replace he₅:Q0 h₅ e it ((i:Int)+1) old a true:=he₅
  refine wpAny_pure ?_;refine wpAny_pure ⟨_,rfl,hQ h₅ he₅ (hit₄.extBut hs₅.extBut (Ne.symm hne)) (hs₅.extBut _ _ (ci1 hel) ht₄) (by rw[hs₅.1,hz₄]) fun b o hbe hbi hb=>hs₅.extBut b o hbe (hk₄ b o hbe hbi hb)⟩
end
end PySem
namespace L2
open PySem PySem.Spec PyProof.Rows
section
variable {prog:Program} {w:World} {A:Around} {E:Value->Shared->Prop} {s:Shared}
def Y3 (h:Heap)(e it D:Addr)(i:Nat):Prop:=
 (∃old,IsEnum h e it i old)\/∃old a f oa,Q0 h e it i old a f/\h.get? a=some oa/\a≠e/\a≠it/\a≠D
theorem Y3.ty {h:Heap}{e it D:Addr}{i:Nat}(x:Y3 h e it D i):∃fs,h.get? e=some {cls:= .type "enumerate",dict:=none,data:= .fields fs,slots:= #[]}:=by
 rcases x with ⟨old,h⟩|⟨old,a,f,oa,h,_⟩
 · exact ⟨_,h⟩
 · exact ⟨_,h⟩
theorem Y3.keep {h h':Heap}{e it D:Addr}{i:Nat}(x:Y3 h e it D i)(hD:D≠e)(k:∀b o,b≠D->h.get? b=some o->h'.get? b=some o):Y3 h' e it D i:=by
 rcases x with ⟨old,h⟩|⟨old,a,f,oa,h,ha,h1,h2,h3⟩
 · exact .inl ⟨old,k _ _ hD.symm h⟩
 · exact .inr ⟨old,a,f,oa,k _ _ hD.symm h,k _ _ h3 ha,h1,h2,h3⟩
theorem bq2 {e it l D:Addr}{i:Nat}{items:Array Value}{x:Value}{Q:Option Value->Shared->Prop}
   (st:Y3 s.heap e it D i) (hit:s.heap.IsListIter it l i) (hl:s.heap.IsList l items) (hx:items[i]? =some x) (hne:e≠it) (hD:D < s.heap.objs.size)
   (hQ:∀h',Y3 h' e it D (i+1)->h'.IsListIter it l (i+1)->
     h'.get? s.heap.objs.size=some {cls:= .type "tuple",data:= .seq #[.int i s.toks,x]}->
     (∀b o,b≠e->b≠it->s.heap.get? b=some o->h'.get? b=some o)->Q (some (.ref s.heap.objs.size)) {s with heap:=h',toks:=s.toks+1}):
   wpAny (model prog w) A (pyNext (.ref e)) Q E s:=by
 have ei:(((i+1:Nat)):Int)=(i:Int)+1:=by push_cast;rfl
 have hil:it < s.heap.objs.size:=by obtain ⟨_,x,_⟩:=hit;exact Heap.lt_size x
 have hel:e < s.heap.objs.size:=by obtain ⟨_,y⟩:=st.ty;exact Heap.lt_size y
 rcases st with ⟨old,he⟩|⟨old,a,f,oa,he,ha,h1,h2,h3⟩
 · exact wpAny_pyNext_enum_item he hit hl hx hne fun h' ho hit' ht hz hk=>hQ h' (.inr ⟨x,s.heap.objs.size,false,_,by rw[ei];exact ho,ht,ci1 hel,ci1 hil,ci1 hD⟩) hit' ht hk
 · have hT:s.TypeIs (.ref e) "enumerate":=⟨_,he,rfl⟩;unfold pyNext
   exact wpAny_bind (wpAny_attempt (wpAny_callSpecial?_slot (name:=Str.ofString "__next__") hT PySem.F.slot_enumerate_next
     (wpAny_call_entry PySem.F.slot_enumerate_next hT PySem.F.entry_enumerate_next
       (ap6 he ha h1 h2 hit hl hx hne fun h' ho hit' ht hz hk=>wpAny_pure (hQ h' (.inr ⟨old,a,true,oa,by rw[ei];exact ho,hk a oa h1 h2 ha,h1,h2,h3⟩) hit' ht hk)) (PySem.F.args_enumerate_next_1 _))))
theorem bu7 {e it l D:Addr}{i:Nat}{items:Array Value}{Q:Option Value->Shared->Prop}(hh:A.handled=none)
   (st:Y3 s.heap e it D i) (hit:s.heap.IsListIter it l i) (hl:s.heap.IsList l items) (hx:items[i]? =none)
   (hQ:∀h',Heap.ExtBut it s.heap h'->Q none {s with heap:=h'}):wpAny (model prog w) A (pyNext (.ref e)) Q E s:=by
 rcases st with ⟨old,he⟩|⟨old,a,f,oa,he,ha,h1,h2,h3⟩
 · exact wpAny_pyNext_enum_end hh he hit hl hx hQ
 · have hT:s.TypeIs (.ref e) "enumerate":=⟨_,he,rfl⟩;unfold pyNext
   refine wpAny_bind (wpAny_attempt (wpAny_callSpecial?_slot (name:=Str.ofString "__next__") hT PySem.F.slot_enumerate_next
     (wpAny_call_entry PySem.F.slot_enumerate_next hT PySem.F.entry_enumerate_next ?_ (PySem.F.args_enumerate_next_1 _))))
   show wpAny _ _ (field (.ref e) 2 >>=_) _ _ _;refine wpAny_bind (wpAny_field he rfl (x:= .ref it) rfl ?_);refine wpAny_bind (wpAny_nextOf_list_end hh hit hl hx fun h' x he' hx'=> ?_);obtain ⟨o,ho,hc⟩:=hx';refine wpAny_bind (wpAny_isInstance (T:="StopIteration") (b:=true) ⟨o,ho,hc⟩ isSubtype_stop ?_);exact wpAny_pure (hQ _ he')
def J7 (xs:List Value):List (x6×Value):=xs.zipIdx.map fun p=>((Sum.inl (p.2:Int):x6),p.1)
theorem bf0 {xs:List Value}{i:Nat}{x:Value}(h:xs[i]? =some x):(J7 xs)[i]? =some ((Sum.inl (i:Int):x6),x):=by
 unfold J7;rw[ce3,List.getElem?_zipIdx,h];simp
theorem as4 (xs:List Value):((J7 xs).map (·.1)).Nodup:=by
 unfold J7;rw[ch2]
 have:((fun x:x6×Value=>x.1)∘fun p:Value×Nat=>((Sum.inl (p.2:Int):x6),p.1))=(fun n:Nat=>(Sum.inl (n:Int):x6))∘Prod.snd:=by funext p;rfl
 rw[this,<-ch2,List.zipIdx_map_snd,List.range'_eq_map_range,ch2];refine List.Pairwise.map _ (fun a b hne h=> ?_) List.nodup_range;have h':=Sum.inl.inj h;simp at h';exact hne (Int.ofNat.inj h')
theorem ap7 (xs:List Value):(J7 xs).length=xs.length:=by unfold J7;simp
theorem bq3 {e it l D:Addr}{items:Array Value}{R:Result->Shared->Prop}(hh:A.handled=none)(hne:e≠it)(hle:l≠e)(hli:l≠it)(hDe:D≠e)(hDi:D≠it)(hDl:D≠l)(hn:items.size<=1000):
   ∀(k i:Nat) (s:Shared),items.size - i=k->i<=items.size->Y3 s.heap e it D i->s.heap.IsListIter it l i->s.heap.IsList l items->s.heap.DictOf (A8 prog w) D (merged [] ((J7 items.toList).take i))->
    (∀h' tk,h'.DictOf (A8 prog w) D (J7 items.toList)->(∀b o,b≠e->b≠it->b≠D->s.heap.get? b=some o->h'.get? b=some o)->R (.ok (.ret .none)) {s with heap:=h',toks:=tk})->
    codeAny (model prog w) A (.builtin "dict.update.loop" ⟨[.ref D,.ref e,rawInt (i:Int),.none],[]⟩) R s:=by
 intro k
 induction k with
 |zero=>
  intro i s hk hi st hit hl hd hR
  have hin:i=items.size:=by omega
  subst hin;refine codeAny_builtin PySem.F.bq8 ?_;rw[Around.under_plainId PySem.F.bq9 _];show wpAny _ A.in1 (pyNext (.ref e) >>=_) _ _ s;refine wpAny_bind (bu7 (by simp [hh]) st hit hl (by simp) fun h' hx=> ?_);show wpAny _ A.in1 (Builtin.Dict.addKeywords D [] >>=_) _ _ _;refine wpAny_bind (wpAny_pure (wpAny_pure ?_));rw[ci8 (by rw[ap7];simp),merged_nil_of_nodup _ (as4 _)] at hd
  refine hR h' s.toks ?_ fun b o h1 h2 _ q=>hx b o h2 q
  obtain ⟨o,es,ep,ho,r⟩:=hd;exact ⟨o,es,ep,hx D o hDi ho,r⟩
 |succ k ih=>
  intro i s hk hi st hit hl hd hR
  have hlt:i < items.size:=by omega
  have hx:items[i]? =some items[i]:=Array.getElem?_eq_getElem hlt
  have hDlt:D < s.heap.objs.size:=by obtain ⟨o,es,ep,ho,r⟩:=hd;exact Heap.lt_size ho
  refine codeAny_builtin PySem.F.bq8 ?_;rw[Around.under_plainId PySem.F.bq9 _];show wpAny _ A.in1 (pyNext (.ref e) >>=_) _ _ s;refine wpAny_bind (bq2 st hit hl hx hne hDlt fun h' st' hit' ht hk'=> ?_)
  have hl':h'.IsList l items:=hl.at fun o q=>hk' l o hle hli q
  have hd':h'.DictOf (A8 prog w) D (merged [] ((J7 items.toList).take i)):=by
    obtain ⟨o,es,ep,ho,r⟩:=hd;exact ⟨o,es,ep,hk' D o hDe hDi ho,r⟩
  refine wpAny_bind (wpAny_holding ?_);refine wpAny_bind (wpAny_tryCatch ?_);unfold Builtin.Dict.pairItems;refine wpAny_bind (wpAny_typeOf (T:="tuple") ⟨_,ht,rfl⟩ ?_);rw[if_pos (by decide)];refine wpAny_bind (wpAny_seqItems ht rfl (wpAny_pure ?_));show wpAny _ _ (holding [.int i s.toks,items[i]] (dictSet D (.int i s.toks) items[i])) _ _ _;refine wpAny_holding ?_
  have hz:(merged [] ((J7 items.toList).take i)).length<=sizeLine:=by
    refine cd3 (merged_length_le _ _) (cd3 (m:=1000) ?_ (by decide));simp;omega
  refine wpAny_dictSet_pairs (hsz:=hz) (k:=(Sum.inl (i:Int):x6)) (ae3 (k:=Sum.inl (i:Int)) ⟨_,rfl⟩) hd' fun h2 hd2 hs2=> ?_
  replace hs2:Heap.SameBut D h' h2:=hs2
  rw[<-merged_take_succ [] (J7 items.toList) i ((Sum.inl (i:Int):x6),items[i]) (bf0 (by simpa using hx))] at hd2
  have st2:=st'.keep (h':=h2) hDe fun b o hb q=>(hs2.2 b hb).trans q
  refine wpAny_pure ⟨plainId_quiet PySem.F.bq9 _,?_⟩
  have ei:((i:Int)+1)=((i+1:Nat):Int):=by push_cast;rfl
  show codeAny _ _ (.builtin "dict.update.loop" ⟨[.ref D,.ref e,rawInt ((i:Int)+1),.none],[]⟩) _ _;rw[ei]
  refine ih (i+1) _ (by omega) hlt st2 (hit'.at fun o q=>(hs2.2 it hDi.symm).trans q) (hl'.at fun o q=>(hs2.2 l hDl.symm).trans q) hd2 fun h3 tk hd3 hk3=> ?_
  exact hR h3 tk hd3 fun b o h1 h2' h3' q=>hk3 b o h1 h2' h3' ((hs2.2 b h3').trans (hk' b o h1 h2' q))
theorem ai0 {e it l:Addr}{items:Array Value}{Q:Value->Shared->Prop}(hh:A.handled=none)(hne:e≠it)(hle:l≠e)(hli:l≠it)(he:IsEnum s.heap e it 0 .none)(hit:s.heap.IsListIter it l 0)(hl:s.heap.IsList l items)(hn:items.size<=1000)
   (h:∀h' tk,h'.DictOf (A8 prog w) s.heap.objs.size (J7 items.toList)->(∀b o,b≠e->b≠it->s.heap.get? b=some o->h'.get? b=some o)->Q (.ref s.heap.objs.size) {s with heap:=h',toks:=tk}):
   wpAny (model prog w) A (call (.type "dict") [.ref e]) Q E s:=by
 refine callType_codes (Q₁:=fun obj s₁=>obj= .ref s.heap.objs.size/\s₁={s with heap:=s.heap.push {cls:= .type "dict",data:= .dict #[]}}) PySem.F.kt_called_dict (PySem.F.kt_typeCall_dict_1 _) PySem.F.entry_dict_init (kt_code_dict_new _ ⟨rfl,rfl⟩) ?_;rintro obj s₁ ⟨rfl,rfl⟩;have hnew:(s.heap.push {cls:= .type "dict",data:= .dict #[]}).DictOf (A8 prog w) s.heap.objs.size []:=Heap.DictOf.new s.heap;refine ⟨hnew.typeIs,PySem.F.args_dict_init_2 _ _,?_⟩;have hes:e < s.heap.objs.size:=Heap.lt_size he
 have his:it < s.heap.objs.size:=by obtain ⟨_,x,_⟩:=hit;exact Heap.lt_size x
 have hls:l < s.heap.objs.size:=by obtain ⟨_,x,_⟩:=hl;exact Heap.lt_size x
 have he':IsEnum (s.heap.push {cls:= .type "dict",data:= .dict #[]}) e it 0 .none:=Heap.get?_push_of_some _ he;unfold Builtin.«dict.__init__»;refine wpAny_bind ?_;unfold Builtin.Dict.selfAndRest;refine wpAny_bind (wpAny_notOrdered_dict hnew.typeIs ?_);show wpAny _ _ (pure (s.heap.objs.size,[Value.ref e])) _ _ _;refine wpAny_pure ?_;show wpAny _ _ (Builtin.Dict.updateFrom "dict.__init__" s.heap.objs.size (.ref e) [] .none) _ _ _;unfold Builtin.Dict.updateFrom;refine wpAny_bind (wpAny_typeOf (T:="enumerate") ⟨_,he',rfl⟩ ?_);rw[if_pos (by decide)];refine wpAny_bind (ay2 (A:=A.in1.in1) he' (by simpa using hh) fun h2 tk2 hk2=> ?_);rw[if_pos (show (none:Option Value).isNone=true from rfl)];refine wpAny_bind (wpAny_rule ?_);have he2:IsEnum h2 e it 0 .none:=hk2 _ _ he';refine wpAny_bind (wpAny_pyIter_enum he2 ?_);refine wpAny_pure ⟨plainId_quiet PySem.F.bq9 _,?_⟩
 have kk:∀b o,s.heap.get? b=some o->h2.get? b=some o:=fun b o q=>hk2 b o (Heap.get?_push_of_some _ q)
 refine bq3 (l:=l) (items:=items) (by simp [hh]) hne hle hli (ci1 hes) (ci1 his) (ci1 hls) hn items.size 0 _ (by simp) (cg0 _) (.inl ⟨_,he2⟩) (hit.at fun o q=>kk it o q) (hl.at fun o q=>kk l o q) ?_ fun h3 tk3 hd3 hk3=> ?_
 · obtain ⟨o,es,ep,ho,r⟩:=hnew;exact ⟨o,es,ep,hk2 _ _ ho,r⟩
 · exact ⟨rfl,h h3 tk3 hd3 fun b o h1 h2 q=>hk3 b o h1 h2 (ce1 (Heap.lt_size q)) (kk b o q)⟩
end
end L2
namespace L2
open PySem PySem.Spec PyProof.Rows
def Q6 (xs:List V):List (x6×V):=xs.zipIdx.map fun p=>((Sum.inl (p.2:Int):x6),p.1)
theorem as5 (xs:List V):(Q6 xs).length=xs.length:=by unfold Q6;simp
theorem bj6 {xs:List V}{us:List Value}(r:k7 xs us):KV (Q6 xs) (J7 us):=by
 have:∀(n:Nat),KV ((xs.zipIdx n).map fun p=>((Sum.inl (p.2:Int):x6),p.1)) ((us.zipIdx n).map fun p=>((Sum.inl (p.2:Int):x6),p.1)):=by
   induction r with
   |nil=>exact fun _=> .nil
   |cons h _ ih=>exact fun n=> .cons ⟨rfl,h⟩ (ih (n+1))
 exact this 0
theorem ay3:bootBuiltins "dict"=some (.type "dict"):=by decide+kernel
section
variable {X:Cx} {l:Expr} {ta:TA} {p p2 pos pos2:Pos}
def bu8 (K:PySem.W.Frag)(ta:TA):TE:=fun σ H Q=>ta σ H fun vs H1=>∃a xs,vs=[.ref a]/\j4 K H1 a xs/\xs.length<=1000/\∀D,H1 D=none->Q (.ref D) (c8 H1 D (.dK (Q6 xs)))
theorem bj7 (hc:X.calm=true)(hm:X.mg "dict"=none)(hm2:X.mg "enumerate"=none)(ha:PA X [l] ta)(hg:Gl X "dict":=by rfl)(hg2:Gl X "enumerate":=by rfl)(hs:starEach [l] X.env=[(false,eval l X.env)]:=by rfl)
   (hs2:starEach [.Call (.Name "enumerate" p2) [l] [] pos2] X.env=(false,eval (.Call (.Name "enumerate" p2) [l] [] pos2) X.env)::starEach [] X.env:=by rfl):
   PE X (.Call (.Name "dict" p) [.Call (.Name "enumerate" p2) [l] [] pos2] [] pos) (bu8 X.K ta):=by
 intro pins s σ H Q I h;refine Call_ (O3 I hg hm ay3 (PyProof.Rows.callWith_type1 ?_ hs2 rfl));rw[hs2];show wpAny _ _ (spliced ((false,eval (.Call (.Name "enumerate" p2) [l] [] pos2) X.env)::backTo pos (starEach [] X.env))) _ _ s;refine Calls.spliced_cons ?_;refine Call_ (O3 I hg2 hm2 aj4 (PyProof.Rows.callWith_type1 (v0 (ha pos2 pins s σ H _ I h) fun us s1 ⟨vs,H1,I1,r1,q1⟩=> ?_) hs rfl));obtain ⟨a,xs,e,hq,hz,q⟩:=q1;subst e;obtain ⟨u,rfl,rx⟩:=L8 r1;cases rx;obtain ⟨its,rv,pl,hz2⟩:=I1.list hq
 refine call_enumerate_list pl.isList fun h' he hit hz' hk=> ?_
 have nil:starEach ([]:List Expr) X.env=[]:=rfl;rw[nil];show wpAny _ _ (pure []) _ _ _;refine wpAny_pure ?_
 have al:a < s1.heap.objs.size:=by obtain ⟨_,x,_⟩:=pl.isList;exact Heap.lt_size x
 have hh:X.A.handled=none:=I1.ok.hd hc
 refine ai0 (l:=a) (items:=its.toArray) hh (Nat.succ_ne_self _) (ce1 (cl1 al)) (ce1 al) he hit (pl.isList.at fun o x=>hk a o x) (by rw[cc8,<-rv.length];exact hz) fun h3 tk hd hk3=> ?_
 have nw:H1 (s1.heap.objs.size+2)=none:=I1.hok.fresh (by omega);rw[show (Shared.heap ⟨h',s1.gens,s1.drawn,s1.toks,s1.os⟩).objs.size=s1.heap.objs.size+2 from hz'] at hd ⊢;refine ⟨.ref (s1.heap.objs.size+2),_,I1.laid (a:=s1.heap.objs.size+2) (o:= .dK (Q6 xs)) (t':=tk) (fun b o x=> ?_) (by omega) ?_,rfl,q _ nw⟩
 · have bl:b < s1.heap.objs.size:=Heap.lt_size x;exact hk3 b o (ce1 (cl1 bl)) (ce1 bl) (hk b o x)
 · have bg:=I1.big;exact bb3 (by rw[as5];exact hz2) (beq_eq_false_iff_ne.mpr (Ne.symm (ce1 (cd8 bg (Nat.le_add_right _ _))))) (bj6 rv) (by simpa using hd)
end
end L2
namespace L2
open PySem PySem.Spec PyProof.Rows
theorem ap8 (K:PySem.W.Frag):PySem.W.kitOne K (.type "dict") (.type "int")=some false:=C8 K (by decide+kernel) (by decide+kernel) (by decide+kernel)
theorem al2 (K:PySem.W.Frag):PySem.W.kitOne K (.type "dict") (.type "bool")=some false:=C8 K (by decide+kernel) (by decide+kernel) (by decide+kernel)
section
variable {X:Cx} {p pos:Pos} {e:Expr} {t:TA}
def bm2:List V->Hp->VK->Prop:=fun xs H Q=>∃a d,xs=[.ref a]/\DaS H (.ref a) d/\d.hasDict=false/\Q (.str d.shown) H
theorem bf1 (hu:X.A.units+16 < cLine)(hg:X.A.guards=some []):E4 X (.type "str") bm2:=by
 intro pins s σ H xs us Q I r h;obtain ⟨a,d,rfl,⟨hs,sh,le,dp⟩,nd,q⟩:=h;obtain ⟨u,rfl,ru⟩:=L8 r;cases ru;obtain ⟨as,rd⟩:=(hs.rd I rfl).reads;exact str_of_reads rd sh (fun h=>by rw[nd] at h;cases h) hg (by omega) (fun _ _ y=>y) (fun h' u tk hk=>⟨.str d.shown,H,I.kept (t':=tk) hk,⟨_,rfl⟩,q⟩) le
theorem bq4 (hu:X.A.units+16 < cLine)(hg0:X.A.guards=some [])(hm:X.mg "str"=none)(ha:PA X [e] t)(hg:Gl X "str":=by rfl)(he:starEach [e] X.env=(false,eval e X.env)::starEach [] X.env:=by rfl):
 PE X (.Call (.Name "str" p) [e] [] pos) (Q8 bm2 t):=K9 (bf1 hu hg0) hg hm Z8 ha (by decide) (by decide) he rfl
def enD (ns:List Int):PyData:= .dict (ns.zipIdx.map fun p=>(.int (p.2:Int),.int p.1))
theorem au8 {P:Program}{w:World}{h:Heap}:∀{ns:List Int} {n:Nat} {es:List DictEntry} {vs:List (x6×Value)},KV (((ns.map V.int).zipIdx n).map fun p=>((Sum.inl (p.2:Int):x6),p.1)) vs->Pairs (A8 P w) es vs->
   B5 h (es.map (·.key)) (((ns.zipIdx n).map fun p=>(PyData.int (p.2:Int),PyData.int p.1)).map (·.1))/\B5 h (es.map (·.val)) (((ns.zipIdx n).map fun p=>(PyData.int (p.2:Int),PyData.int p.1)).map (·.2))
 |[],n,es,vs,kv,ps=>by
  cases kv;cases ps;exact ⟨.nil,.nil⟩
 |i::ns,n,es,vs,kv,ps=>by
  cases kv with
  |cons r kv=>
   cases ps with
   |cons k1 v1 ps=>
    obtain ⟨e1,e2⟩:=au8 kv ps;obtain ⟨r1,r2⟩:=r;rw[<-r1] at k1;rw[<-v1] at r2;obtain ⟨t,rfl'⟩:=r2
    rcases B7 (show W4 (Sum.inl (n:Int)) _=true from k1) with ⟨j,u,a1,a2⟩|⟨y,u,a1,a2⟩
    · have:j=(n:Int):=Sum.inl.inj a1.symm;subst this;refine ⟨.cons ?_ e1,.cons ?_ e2⟩
      · dsimp only
        rw[a2];exact .int _ u
      · dsimp only
        rw[rfl'];exact .int _ t
    · cases a1
theorem bx6 {Y:Cx}{pins:List (Addr×Obj)}{σ:St}{H:Hp}{s:Shared}{a:Addr}{ns:List Int}(I:i8 Y pins σ H s)(e:H a=some (.dK (Q6 (ns.map V.int)))):I0 s.heap (.ref a) (enD ns):=by
 obtain ⟨hz,hS,vs,kv,o,es,ep,ho,hx,hd,hk,hp,hn⟩:=I.hok _ _ e;obtain ⟨e1,e2⟩:=au8 (h:=s.heap) (ns:=ns) (n:=0) kv hp;exact .dic ho hx.1 hd hS e1 e2
theorem bf2 (ns:List Int):(enD ns).depth<=8:=by
 unfold enD;rw[PyData.depth]
 have:∀(l:List (Int×Nat)),PyData.depthKv (l.map fun p=>(PyData.int (p.2:Int),PyData.int p.1))<=1:=by
   intro l
   induction l with
   |nil=>rw[ci2,PyData.depthKv];omega
   |cons x l ih=>rw[ce5,PyData.depthKv,PyData.depth,PyData.depth];omega
 have:=this ns.zipIdx;omega
end
end L2
namespace My
open PySem L2 Mth
section
variable {P:Program} {w:World} {K:PySem.W.Frag} {mg:Str->Option Value} {base:Heap}
def Jd (K:PySem.W.Frag)(H:Hp)(v:V)(b:Bool):Prop:=(D8 K H v/\b=false)\/∃(a:Addr) (p:List Int),v= .ref a/\H a=some (.lst (p.map V.int))/\p.length<=40/\E6 p/\b=true
theorem Jd.keep {H H':Hp}{v:V}{b:Bool}(h:Jd K H v b)(s:c9 H H'):Jd K H' v b:=by
 rcases h with ⟨no,e⟩|⟨a,p,e,ha,r⟩
 · exact .inl ⟨no.keep s,e⟩
 · exact .inr ⟨a,p,e,s _ _ ha,r⟩
theorem bq5 {H:Hp}{a:Addr}{xs:List V}(h:H a=some (.lst xs))(el:∀x∈xs,(∃i:Int,x= .int i)\/U0 K H x):∃b,Jd K H (.ref a) b:=by
 by_cases z:∃p:List Int,xs=p.map V.int/\p.length<=40/\E6 p
 · obtain ⟨p,rfl,l,t⟩:=z;exact ⟨true,.inr ⟨a,p,rfl,h,l,t,rfl⟩⟩
 · exact ⟨false,.inl ⟨.inr ⟨a,xs,rfl,h,el,fun p e l t=>z ⟨p,e,l,t⟩⟩,rfl⟩⟩
theorem Jd.view {H:Hp}{v:V}{b:Bool}(h:Jd K H v b):(∃t,D5 K H v t/\PySem.W.kitOne K t (.type "list")=some false/\b=false)\/
   ∃(a:Addr) (xs:List V),v= .ref a/\H a=some (.lst xs)/\(∀x∈xs,(∃i:Int,x= .int i)\/U0 K H x)/\(b=true↔∃p:List Int,xs=p.map V.int/\p.length<=40/\E6 p):=by
 rcases h with ⟨⟨t,ty,kt⟩|⟨a,xs,rfl,ha,el,no⟩,rfl⟩|⟨a,p,rfl,ha,hl,tp,rfl⟩
 · exact .inl ⟨t,ty,kt,rfl⟩
 · exact .inr ⟨a,xs,rfl,ha,el,⟨(fun z=>by cases z),fun ⟨p,e,l,t⟩=>absurd t (no p e l)⟩⟩
 · exact .inr ⟨a,_,rfl,ha,fun x hx=>by obtain ⟨i,_,rfl⟩:=cf5.mp hx;exact .inl ⟨i,rfl⟩,⟨fun _=>⟨p,rfl,hl,tp⟩,fun _=>rfl⟩⟩
theorem bj8 {z:Int}{p:List Int}:inV (.int z) (p.map V.int)=decide (z∈p):=by
 unfold inV;rw[ci5,decide_eq_true_iff,List.any_eq_true];constructor
 · rintro ⟨x,hx,e⟩;obtain ⟨i,hi,rfl⟩:=cf5.mp hx
   have:i=z\/z=i:=by
     first
       |exact .inl (by simpa [S7] using e)
       |exact .inr (by simpa [S7] using e)
   rcases this with rfl|rfl<;>exact hi
 · intro hz;exact ⟨.int z,cf5.mpr ⟨z,hz,rfl⟩,by simp [S7]⟩
def ay4 (K:PySem.W.Frag):Sp:=fun vs H Q _=>∃(v:V) (b:Bool),vs=[v]/\Jd K H v b/\∀H',c9 H H'->Q (.bl b) H'
theorem N9:o7 ["thing","seen_ones","one"] ["thing"] (j8 Q5):=by rfl'
theorem ai1 {f:Addr}{fd:FuncData}(F:B6 K "_law_is_turn" "_law_is_turn" Q5 f fd)(B:Bl mg):o4 P w K mg base C6 1 f fd ["thing"] (ay4 K):=by
 refine F.ok N9 (fun vs H Q E h=> ?_) (fun cdv A outer s H vs Q E hr h=> ?_)
 · obtain ⟨v,b,rfl,J,q⟩:=h;rfl
 · obtain ⟨v,b,rfl,J,q⟩:=h;have hu:=U4 hr;refine ⟨_,@i5 _ _ _ _ _ (@A3 _ _ _ _ _ _ _ _ (@C9 _ _ _ _ _ _ _ (@C3 _ _ _ _ (@C0 _ _ _ (@T0 _ _ _ _ _ _ B.isi (@c5 _ _ _ _ _ (pv 0) (@c5 _ _ _ _ _ (@Z3 _ _ B.list (by rfl)) (@c6 _) (by rfl)) (by rfl)) (by rfl) (by rfl) (by rfl)) (by intro _;rfl))) (@G1 _ _ _ _ (@o5 _ _ _ _ _ _ _ _ aa7 (@w9 _ _ _ _ _ B.len (@c5 _ _ _ _ _ (pv 0) (@c6 _) (by rfl)) (by rfl) (by rfl)) (@i4 _ _ _ _) (q9 _)))).pt (@i9 _ _ _ (@l7 _ _ _ _ (@B4 _ _ _ _))) (@w6 _)) (@i5 _ _ _ _ _ (@j9 _ _ (1) _ _ _ _ N9.nd rfl (Or.inl rfl) (@o0 _ _ _ _ (@c6 _)) (by rfl) (by trivial)) (@i5 _ _ _ _ _ (@D9 _ _ _ _ _ _ _ _ PassesOwn.never rfl (@D7 _ _ _ _ (pv 0)) (@A5 _ _ (2) _ N9.nd rfl (Or.inl rfl) (by trivial)) (@i5 _ _ _ _ _ (@A3 _ _ _ _ _ _ _ _ (@C9 _ _ _ _ _ _ _ (@C3 _ _ _ _ (@C0 _ _ _ (@T0 _ _ _ _ _ _ B.isi (@c5 _ _ _ _ _ (pv 2) (@c5 _ _ _ _ _ (@an4 _ _ B.int (by rfl)) (@c6 _) (by rfl)) (by rfl)) (by rfl) (by rfl) (by rfl)) (by intro _;rfl))) (@C9 _ _ _ _ _ _ _ (@C0 _ _ _ (@T0 _ _ _ _ _ _ B.isi (@c5 _ _ _ _ _ (pv 2) (@c5 _ _ _ _ _ (@aj3 _ _ B.bool (by rfl)) (@c6 _) (by rfl)) (by rfl)) (by rfl) (by rfl) (by rfl)) (by intro _;rfl)) (@C9 _ _ _ _ _ _ _ (@o5 _ _ _ _ _ _ _ _ al6 (pv 2) (@i4 _ _ _ _) (q9 _)) (@C9 _ _ _ _ _ _ _ (@o5 _ _ _ _ _ _ _ _ al7 (pv 2) (@w9 _ _ _ _ _ B.len (@c5 _ _ _ _ _ (pv 0) (@c6 _) (by rfl)) (by rfl) (by rfl)) (q9 _)) (@G1 _ _ _ _ (@o5 _ _ _ _ _ _ _ _ (bb0) (pv 2) (pv 1) (by with_unfolding_all rfl))))))).pt (@i9 _ _ _ (@l7 _ _ _ _ (@B4 _ _ _ _))) (@w6 _)) (@i9 _ _ _ (@C1 _ _ _ _ (@L5 _ _ _ _ _ _ _ (pv 1) (@c5 _ _ _ _ _ (pv 2) (@c6 _) (by rfl)) (by rfl) (by rfl) (by rfl) (by rfl) (by rfl)) (by rfl)))) (by intro _;rfl)) (@i9 _ _ _ (@l7 _ _ _ _ (@B4 _ _ _ _))))),?_⟩
   rcases J.view with ⟨t,ty,kt,rfl⟩|⟨a,xs,rfl,ha,el,iff⟩
   · exact ⟨_,rfl,v,"list",t,false,rfl,ty,kt,false,rfl,B9 (q H (c9.refl H))⟩
   have no:∀H',c9 H H'->(¬∃p:List Int,xs=p.map V.int/\p.length<=40/\E6 p)->Q (.bl false) H':=fun H' s n=>by
     cases b with
     |true=>exact absurd (iff.mp rfl) n
     |false=>exact q H' s
   refine ⟨_,rfl,_,"list",_,true,rfl,.lst ha,G8 K "list",true,rfl,?_⟩;refine A4 ⟨_,rfl,a,_,rfl,.inl (j4.of ha),_,_,rfl,rfl,_,rfl,?_⟩;refine D2 (fun h40=> ?_) (fun h40=> ?_)
   · have h40:(40:Int) < (xs.length:Int):=of_decide_eq_true h40
     exact no H (c9.refl H) fun ⟨p,e,l,_⟩=>by rw[e,cc4] at h40;omega
   have h40:¬(40:Int) < (xs.length:Int):=fun z=>h40 (decide_eq_true z)
   refine ⟨(show 0<=sizeLine by decide),fun sl nsl=> ?_⟩;have nas:a≠sl:=i7 ha nsl;have s1:c9 H (c8 H sl (.lst [])):=c9.upd_new nsl
   refine ⟨_,rfl,a,rfl,⟨_,j4.of (s1 _ _ ha)⟩,E8 (K:=K) (a:=a) (xs:=xs) (fun i σ H2=>∃(v:Option V) (p:List Int),σ=[some (.ref a),some (.ref sl),v]/\c9 H H2/\xs.take i=p.map V.int/\H2 sl=some (.lst (p.map V.int))/\p.Nodup/\∀x∈p,0<=x/\x < xs.length)
     ⟨none,[],rfl,s1,rfl,c7,cj4,fun x hx=>by simp at hx⟩ (fun i σ H2 _ zz=>by obtain ⟨_,_,_,s2,_⟩:=zz;exact j4.of (s2 a _ ha)) ?_ ?_⟩
   · rintro i y σ H2 hi ⟨v,p,rfl,s2,hp,h2,nd,bd⟩;have ha2:=s2 a _ ha;have hil:i < xs.length:=(cc5.mp hi).1
     rcases el y (cd7 hi) with ⟨z,rfl⟩|odd
     · have tk:∀r:List Int,xs=r.map V.int->r[i]? =some z/\r.take i=p:=fun r e=>by
         constructor
         · rw[e] at hi;obtain ⟨z',hz,ez⟩:=D0 hi;cases ez;exact hz
         · have:(r.take i).map V.int=p.map V.int:=by rw[<-hp,e,List.map_take]
           exact ab7 this
       refine ⟨_,rfl,.int z,"int",_,true,rfl,.int z,G8 K "int",_,rfl,A4 ⟨_,rfl,.int z,"bool",_,false,rfl,.int z,M1 K,_,rfl,A4 ⟨_,rfl,_,_,rfl,rfl,_,rfl,?_⟩⟩⟩;refine D2 (fun hz0=> ?_) (fun hz0=> ?_)
       · have hz0:z < 0:=of_decide_eq_true hz0;exact B9 (no H2 s2 fun ⟨r,e,_,t⟩=>by have:=t.lo z (cd7 (tk r e).1);omega)
       have hz0:¬z < 0:=fun q=>hz0 (decide_eq_true q)
       refine ⟨_,rfl,_,rfl,a,_,rfl,.inl (j4.of ha2),_,_,rfl,rfl,_,rfl,?_⟩;refine D2 (fun hz1=> ?_) (fun hz1=> ?_)
       · have hz1:(xs.length:Int)<=z:=of_decide_eq_true hz1
         exact B9 (no H2 s2 fun ⟨r,e,_,t⟩=>by
           have:=t.hi z (cd7 (tk r e).1);rw[e,cc4] at hz1
           omega)
       have hz1:¬(xs.length:Int)<=z:=fun q=>hz1 (decide_eq_true q)
       have lp:p.length<=i:=by
         have:=congrArg List.length hp;rw[ce4,cc4] at this;omega
       refine ⟨_,rfl,_,rfl,sl,_,rfl,.inl (j4.of h2),rfl,?_,_,rfl,?_⟩
       · rw[cg8];intro x hx;obtain ⟨j,_,rfl⟩:=cf5.mp hx;rfl
       show if inV (V.int z) (p.map V.int)=true then _ else _
       rw[bj8];refine D2 (fun hm=> ?_) (fun hm=> ?_)
       · have hm:z∈p:=of_decide_eq_true hm
         refine no H2 s2 fun ⟨r,e,_,t⟩=> ?_
         obtain ⟨e1,e2⟩:=tk r e;rw[<-e2] at hm;obtain ⟨j,hj⟩:=ch6.mp hm
         have hjl:j < i:=by
           have:=(cc5.mp hj).1;rw[ce4] at this;omega
         rw[cf3 hjl] at hj;have jl:=(cc5.mp hj).1;have:=(List.getElem?_inj jl t.nd).mp (hj.trans e1.symm);omega
       · have hm:z∉p:=fun q=>hm (decide_eq_true q)
         refine ⟨_,rfl,.inl ⟨rfl,_,j4.of h2⟩,_,rfl,sl,_,_,rfl,rfl,h2,q0 (by rw[cc4];omega),?_⟩;refine ⟨some (.int z),p++[z],rfl,fun b o e=>by rw[i6 (i7 e nsl)];exact s2 b o e,?_,?_,?_,?_⟩
         · rw[B3 hi,hp,ce6];rfl
         · rw[c7,ce6];rfl
         · exact V8 nd hm
         · intro x hx
           rcases cd2.mp hx with q|q
           · exact bd x q
           · have:x=z:=by simpa using q
             omega
     · obtain ⟨t,b1,b2,ty,e1,e2,e3⟩:=odd.keep s2
       have nn:¬∃r:List Int,xs=r.map V.int/\r.length<=40/\E6 r:=fun ⟨r,e,_,t'⟩=>by
         rw[e] at hi;obtain ⟨z',hz,rfl⟩:=D0 hi;obtain ⟨t0,c1,c2,ty0,g1,g2,g3⟩:=odd;cases ty0;rw[G8 K "int"] at g1;rw[M1 K] at g2;cases g1;cases g2;cases g3
       refine ⟨_,rfl,y,"int",t,b1,rfl,ty,e1,_,rfl,?_⟩
       cases b1 with
       |false=>exact B9 (no H2 s2 nn)
       |true=>
        cases b2 with
        |false=>cases e3
        |true=>exact A4 ⟨_,rfl,y,"bool",t,true,rfl,ty,e2,_,rfl,B9 (no H2 s2 nn)⟩
   · rintro σ H2 ⟨v,p,rfl,s2,hp,h2,nd,bd⟩;rw[cf7] at hp
     have lp:xs.length=p.length:=by rw[hp,cc4]
     have:b=true:=iff.mpr ⟨p,hp,by omega,nd,fun x hx=>(bd x hx).1,fun x hx=>by have:=(bd x hx).2;omega⟩;rw[this] at q;exact q H2 s2
theorem j5 {H H':Hp}{g:Addr}{c:Nat}(h:o6 H g c)(s:c9 H H'):o6 H' g c:=by
 obtain ⟨x,y,z,e1,e2⟩:=h;exact ⟨x,y,z,s _ _ e1,e2⟩
theorem k6 {H:Hp}{g b:Addr}{c:Nat}(h:o6 H g c)(hb:H b=none):b≠g:=by
 obtain ⟨x,y,z,e1,e2⟩:=h
 exact fun e=>by rw[e,e1] at hb;cases hb
theorem ap9 {H:Hp}{a so:Addr}{o:HO}{c:Nat}(h:o6 H a c)(ne:so≠a):o6 (c8 H so o) a c:=by
 obtain ⟨x,y,z,e1,e2⟩:=h;exact ⟨x,y,z,by rw[i6 ne.symm];exact e1,e2⟩
theorem aq0:∀{ts:List Str} {m:Nat},(∀t∈ts,t.length<=m)->piled ts<=ts.length*(m+2)
 |[],m,_=>by simp [piled]
 |t::ts,m,h=>by
  have:=aq0 (ts:=ts) (m:=m) fun x hx=>h x (cc9 _ hx)
  have:=h t cd0;rw[cd6,cl7,piled_cons];omega
theorem M9 {ts:List Str}{m:Nat}(h:∀t∈ts,t.length<=m):(tupleText ts).length<=4+ts.length*(m+2):=by
 unfold tupleText;rw[strLen_append,strLen_append];have e1:(("(":String):Str).length=1:=rfl
 have e2:(((if ts.length==1 then ",)" else ")":String)):Str).length<=2:=by split<;>decide
 by_cases z:ts=[]
 · subst z;have:(Str.join ", " []).length=0:=rfl;omega
 · have:=join_length_add ts z;have:=aq0 h;omega
theorem bf3 {M:Hp}{a:Addr}{ns:List Int}(h:M a=some (.tup (ns.map V.int)))(l:ns.length<=300)(b:∀x∈ns,ay0 x):ag2 M (.ref a):=by
 obtain ⟨ds,h1,h2,h3,h4,h5⟩:=ap5 (M:=M) (xs:=ns.map V.int) fun x hx=>by obtain ⟨i,hi,rfl⟩:=cf5.mp hx;exact af9 (b i hi)
 refine ⟨.tuple ds,.tup h h1,by rw[PyData.showable];exact h2,?_,by rw[PyData.depth];omega⟩;rw[PyData.shown];refine cd3 (M9 h3) ?_;rw[h4,cc4];have:=ck4 (2000+2) l;omega
theorem ag3 {xs:List V}{i:Int}(h0:0<=i)(h1:i<=(xs.length:Int)):Q2 xs none (some i)=xs.take i.toNat:=by
 obtain ⟨k,rfl⟩:=cf1 h0;unfold Q2;rw[HT.cb0,HT.ca3,List.drop_zero,Nat.sub_zero,cm3 (by omega)];rfl
theorem Y4 {xs:List V}{i:Int}(h0:0<=i)(h1:i<=(xs.length:Int)):Q2 xs (some i) none=xs.drop i.toNat:=by
 obtain ⟨k,rfl⟩:=cf1 h0;unfold Q2;rw[HT.cb0,HT.ca3,cm3 (by omega),ci8 (by rw[cf6];omega)];rfl
theorem bf4 {n:Nat}{k:Int}(h0:0<=k)(h1:k < (n:Int)):V6 n k=some k.toNat:=by
 unfold V6;rw[if_pos h0,if_pos h1]
def Sm (x:Str):Prop:=∀c∈x.cps.toList,c < 16^8
theorem Y5 (s:String):Sm (Str.ofString s):=fun c hc=>by
 rw[PyProof.Rows.signs_ofString] at hc;obtain ⟨d,_,rfl⟩:=cf5.mp hc;have h1:d.toNat < 4294967296:=UInt32.toNat_lt d.val
 have h2:(16:Nat)^8=4294967296:=by decide
 omega
theorem aq1 {x y:Str}(hx:Sm x)(hy:Sm y):Sm (x++y):=fun c hc=>by
 have e:(x++y).cps=x.cps++y.cps:=rfl;rw[e,Array.toList_append] at hc;exact (cd2.mp hc).elim (hx c) (hy c)
theorem au9:∀{ts:List Str} {k:Nat} {acc:Str},Sm acc->(∀t∈ts,Sm t)->Sm (textFrom k acc ts)
 |[],k,acc,h,_=>h
 |t::ts,k,acc,h,hs=>by
  have:textFrom k acc (t::ts)=textFrom (k+1) (acc++(if k > 0 then ", " else "":String)++t) ts:=rfl;rw[this]
  refine au9 (aq1 (aq1 h (Y5 _)) (hs t cd0)) fun x hx=>hs x (cc9 _ hx)
theorem bq6 {ts:List Str}(hs:∀t∈ts,Sm t):Sm (listText ts):=aq1 (au9 (Y5 "[") hs) (Y5 "]")
structure J8 (K:PySem.W.Frag)(M:Hp)(x:V):Prop where
 el:(∃i:Int,x= .int i)\/U0 K M x
 cp:O9 M 1 x
 sh:IE M x
theorem J8.keep {M M':Hp}{x:V}(h:J8 K M x)(s:c9 M M'):J8 K M' x:=⟨h.el.imp id fun z=>z.keep s,h.cp.keep s,h.sh.keep s⟩
theorem U5 {M:Hp}:∀{ns:List Int},(∀x∈ns,-100<=x/\x<=100)->∃ds,M4 M (ns.map V.int) ds/\PyData.showableAll ds=true/\(∀t∈PyData.shownAll ds,t.length<=8/\Sm t)/\(PyData.shownAll ds).length=ns.length/\PyData.depthAll ds<=1/\ds=ns.map PyData.int
 |[],_=>⟨[],.nil,by rw[PyData.showableAll],(fun t h=>by rw[PyData.shownAll] at h;cases h),by rw[PyData.shownAll];rfl,by rw[PyData.depthAll];omega,rfl⟩
 |x::xs,h=>by
  obtain ⟨ds,h1,h2,h3,h4,h5,h6⟩:=U5 (M:=M) fun y hy=>h y (cc9 _ hy)
  have hx:=h x cd0
  have lg:x.natAbs.log2 < 7:=by
    by_cases z:x.natAbs=0
    · rw[z,ck2];omega
    · exact (ck1 z).mpr (by omega)
  refine ⟨.int x::ds,.cons (.int x) h1,?_,fun t ht=> ?_,by rw[PyData.shownAll,cd6,cd6,h4],by rw[PyData.depthAll,PyData.depth];omega,by rw[h6];rfl⟩
  · rw[PyData.showableAll,PyData.showable,h2,cm6];exact decide_eq_true (by omega)
  · rw[PyData.shownAll,PyData.shown] at ht
    rcases ce0.mp ht with z|z
    · rw[z];refine ⟨?_,Y5 _⟩;rw[ofString_length];exact int_text_length_le (k:=7) (by decide) lg
    · exact h3 t z
theorem ad6 {M:Hp}{a:Addr}{ns:List Int}(h:M a=some (.lst (ns.map V.int)))(l:ns.length<=60)(b:∀x∈ns,-100<=x/\x<=100):∃d,Da M (.ref a) d/\d.showable=true/\d.shown.length<=700/\d.depth<=2/\d.hasDict=false/\Sm d.shown:=by
 obtain ⟨ds,h1,h2,h3,h4,h5,h6⟩:=U5 (M:=M) b;refine ⟨.list ds,.lst h h1,by rw[PyData.showable];exact h2,?_,by rw[PyData.depth];omega,?_,?_⟩
 · rw[PyData.shown];refine cd3 (O2 (m:=8) fun t ht=>(h3 t ht).1) ?_;rw[h4];omega
 · rw[PyData.hasDict,h6]
   have:∀l:List Int,PyData.hasDictAll (l.map PyData.int)=false:=by
     intro l
     induction l with
     |nil=>rw[ci2,PyData.hasDictAll]
     |cons x l ih=>rw[ce5,PyData.hasDictAll,PyData.hasDict,ih];rfl
   exact this ns
 · rw[PyData.shown]
   exact bq6 fun t ht=>(h3 t ht).2
theorem J1 {M:Hp}{i:Int}(h:ay0 i):J8 K M (.int i):=⟨.inl ⟨i,rfl⟩,.int i,af9 h⟩
theorem ag4 {M:Hp}(b:Bool):J8 K M (.bl b):=⟨.inr (bu5 b),.bl b,bm0 b⟩
theorem bf5 {M:Hp}:J8 K M .non:=⟨.inr bp9,.non,ag0⟩
theorem aq2 {M:Hp}{x:Str}(h:Sm x)(l:x.length<=100):J8 K M (.str x):=⟨.inr (bq0 x),.str x,be9 (by have:=StrLaws.reprText_len x h;omega)⟩
theorem aq3 {M:Hp}{a:Addr}{ns:List Int}(h:M a=some (.lst (ns.map V.int)))(l:ns.length<=60)(b:∀x∈ns,-100<=x/\x<=100):J8 K M (.ref a):=by
 obtain ⟨d,h1,h2,h3,h4,_⟩:=ad6 h l b;exact ⟨.inr (bq1 h),O9.ints h (by omega),d,h1,h2,by omega,by omega⟩
theorem bu9 {M:Hp}{a:Addr}{i:Int}(h:M a=some (.tup [V.int i]))(b: -100<=i/\i<=100):J8 K M (.ref a):=by
 obtain ⟨ds,h1,h2,h3,h4,h5,h6⟩:=U5 (M:=M) (ns:=[i]) (fun x hx=>by rw[cd9.mp hx];exact b);refine ⟨.inr ⟨_,false,false,.tup h,ak9 K,ah3 K,rfl⟩,.tup h,.tuple ds,.tup h h1,by rw[PyData.showable];exact h2,?_,by rw[PyData.depth];omega⟩;rw[PyData.shown];refine cd3 (M9 (m:=8) fun t ht=>(h3 t ht).1) ?_;rw[h4];simp only[cf4];omega
theorem bv0 {M:Hp}{a:Addr}(h:M a=some (.dK [])):J8 K M (.ref a):=⟨.inr ⟨_,false,false,.dK h,ap8 K,al2 K,rfl⟩,.dic h,ag1 h⟩
def ay5 (K:PySem.W.Frag):Sp:=fun vs H Q _=>∃(g l:Addr) (c:Nat) (p:List Int) (k:Int),vs=[.ref g,.ref l,.int k]/\o6 H g c/\c<=700000/\H l=some (.lst (p.map V.int))/\l≠g/\(∀x∈p,0<=x/\x < 40)/\p.length<=40/\0<=k/\k < p.length/\
 ∀(v:V) (H':Hp),o6 H' g (c+3)->j3 g H H'->J8 K (E3 H' g g) v->Q v H'
theorem R8:o7 ["pool","p","at","one","far","some"] ["pool","p","at"] (j8 aa1):=by rfl'
theorem ay6 {f:Addr}{fd:FuncData}(F:B6 K "_law_odd" "_law_odd" aa1 f fd)(B:Bl mg)(zzx:A0 P w K mg base "_law_take" 1 ["pool","many"] M8):o4 P w K mg base C6 2 f fd ["pool","p","at"] (ay5 K):=by
 refine F.ok R8 (fun vs H Q E h=> ?_) (fun cdv A outer s H vs Q E hr h=> ?_)
 · obtain ⟨g,l,c,p,k,rfl,P0,hc,hl,lg,pb,l40,k0,k1,q⟩:=h;rfl
 · obtain ⟨g,l,c,p,k,rfl,P0,hc,hl,lg,pb,l40,k0,k1,q⟩:=h;have zxy:y7 1 _:=hr.mono (by decide);refine ⟨_,@i5 _ _ _ _ _ (@j9 _ _ (3) _ _ _ _ R8.nd rfl (Or.inl rfl) (@A9 _ _ _ _ _ _ _ x9 (pv 1) (pv 2) (fun _ _=>rfl)) (by rfl) (by trivial)) (@i5 _ _ _ _ _ (@j9 _ _ (4) _ _ _ _ R8.nd rfl (Or.inl rfl) (@j6 _ _ _ _ _ _ _ _ _ _ zzx zxy (@c5 _ _ _ _ _ (pv 0) (@c5 _ _ _ _ _ (@j7 _ _ _ _ _ _ _ _ O5 (@i4 _ _ _ _) (@i4 _ _ _ _)) (@c6 _) (by rfl)) (by rfl)) (by rfl) (by decide) (by rfl) (by rfl)) (by rfl) (by trivial)) (@i5 _ _ _ _ _ (@j9 _ _ (5) _ _ _ _ R8.nd rfl (Or.inl rfl) (@o0 _ _ _ _ (@c5 _ _ _ _ _ (@w9 _ _ _ _ _ B.len (@c5 _ _ _ _ _ (pv 1) (@c6 _) (by rfl)) (by rfl) (by rfl)) (@c5 _ _ _ _ _ (@R1 _ _ _ _ _ _ L7 (@i4 _ _ _ _)) (@c5 _ _ _ _ _ (@j7 _ _ _ _ _ _ _ _ A6 (@w9 _ _ _ _ _ B.len (@c5 _ _ _ _ _ (pv 1) (@c6 _) (by rfl)) (by rfl) (by rfl)) (pv 4)) (@c5 _ _ _ _ _ (@j7 _ _ _ _ _ _ _ _ V5 (@R1 _ _ _ _ _ _ L7 (@i4 _ _ _ _)) (pv 4)) (@c5 _ _ _ _ _ (@B4 _ _ _ _) (@c5 _ _ _ _ _ (@B4 _ _ _ _) (@c5 _ _ _ _ _ (@S4 _ _ _) (@c5 _ _ _ _ _ (@bo9 _ _ _ _ _ B.str (@c5 _ _ _ _ _ (pv 3) (@c6 _) (by rfl)) (by rfl) (by rfl)) (@c5 _ _ _ _ _ (@o0 _ _ _ _ (@c5 _ _ _ _ _ (pv 3) (@c6 _) (by rfl))) (@c5 _ _ _ _ _ (@Y9 _ _ _ _ _ (@c5 _ _ _ _ _ (pv 3) (@c6 _) (by rfl))) (@c5 _ _ _ _ _ (@K6 _ _) (@c5 _ _ _ _ _ (@K1 _ _ _ _) (@c5 _ _ _ _ _ (@j7 _ _ _ _ _ _ _ _ V5 (@i4 _ _ _ _) (pv 3)) (@c6 _) (by rfl)) (by rfl)) (by rfl)) (by rfl)) (by rfl)) (by rfl)) (by rfl)) (by rfl)) (by rfl)) (by rfl)) (by rfl)) (by rfl)) (by rfl))) (by rfl) (by trivial)) (@i9 _ _ _ (@l7 _ _ _ _ (@A9 _ _ _ _ _ _ _ x9 (@j7 _ _ _ _ _ _ _ _ D1 (pv 5) (@o0 _ _ _ _ (@c5 _ _ _ _ _ (@A9 _ _ _ _ _ _ _ x9 (pv 1) (@j6 _ _ _ _ _ _ _ _ _ _ zzx zxy (@c5 _ _ _ _ _ (pv 0) (@c5 _ _ _ _ _ (@w9 _ _ _ _ _ B.len (@c5 _ _ _ _ _ (pv 1) (@c6 _) (by rfl)) (by rfl) (by rfl)) (@c6 _) (by rfl)) (by rfl)) (by rfl) (by decide) (by rfl) (by rfl)) (fun _ _=>rfl)) (@c5 _ _ _ _ _ (@j7 _ _ _ _ _ _ _ _ O4 (@j7 _ _ _ _ _ _ _ _ A6 (pv 3) (@i4 _ _ _ _)) (@w9 _ _ _ _ _ B.len (@c5 _ _ _ _ _ (pv 1) (@c6 _) (by rfl)) (by rfl) (by rfl))) (@c6 _) (by rfl)) (by rfl)))) (@j6 _ _ _ _ _ _ _ _ _ _ zzx zxy (@c5 _ _ _ _ _ (pv 0) (@c5 _ _ _ _ _ (@i4 _ _ _ _) (@c6 _) (by rfl)) (by rfl)) (by rfl) (by decide) (by rfl) (by rfl)) (fun _ _=>rfl)))))),?_⟩
   have kn:k.toNat < p.length:=by omega
   obtain ⟨o,eo⟩:∃o,o=p.getD k.toNat 0:=⟨_,rfl⟩
   have ob:0<=o/\o < 40:=by rw[eo,Mth.cb2 kn];exact pb _ (ce7 kn)
   have hat:=Mth.N3 (p:=p) k0 k1;rw[<-eo] at hat;refine ⟨_,rfl,_,rfl,l,_,k,_,rfl,rfl,j4.of hl,hat,?_⟩;refine ⟨_,rfl,_,_,rfl,rfl,⟨by decide,by decide,by decide⟩,g,c,_,rfl,P0,by omega,(show (0:Int) < 10^29 by decide),(show (10:Int)^29<=_ by decide),fun far H1 a0 a1 P1 kb1=> ?_⟩
   replace a1:far < 10^29:=a1
   have e29:(10:Int)^29=100000000000000000000000000000:=by decide
   rw[e29] at a1;have h1:=kb1 _ _ hl lg;have lgo:o.natAbs.log2 < 1920:=au6 (by decide) (by omega) (by omega);refine ⟨_,rfl,l,_,rfl,.inl (j4.of h1),_,rfl,_,rfl,l,_,rfl,.inl (j4.of h1),_,rfl,_,_,rfl,rfl,_,rfl,_,rfl,_,_,rfl,rfl,_,rfl,_,rfl,lgo,_,rfl,(show 1<=sizeLine by decide),fun l1 n1=> ?_⟩;have s2:c9 H1 (c8 H1 l1 (.lst [V.int o])):=c9.upd_new n1;have g2:(c8 H1 l1 (.lst [V.int o])) l1=some (.lst (([o]:List Int).map V.int)):=c7;have ng1:l1≠g:=k6 P1 n1;have P2:=j5 P1 s2;generalize (c8 H1 l1 (.lst [V.int o]))=H2 at s2 g2 P2 ⊢;refine ⟨_,rfl,(show 1<=sizeLine by decide),fun t1 n2=> ?_⟩;have s3:c9 H2 (c8 H2 t1 (.tup [V.int o])):=c9.upd_new n2;have g3:(c8 H2 t1 (.tup [V.int o])) t1=some (.tup [V.int o]):=c7;have ng2:t1≠g:=k6 P2 n2;have P3:=j5 P2 s3;generalize (c8 H2 t1 (.tup [V.int o]))=H3 at s3 g3 P3 ⊢
   refine fun d1 n3=> ?_
   have s4:c9 H3 (c8 H3 d1 (.dK [])):=c9.upd_new n3;have g4:(c8 H3 d1 (.dK [])) d1=some (.dK []):=c7;have ng3:d1≠g:=k6 P3 n3;have P4:=j5 P3 s4;generalize (c8 H3 d1 (.dK []))=H4 at s4 g4 P4 ⊢;refine ⟨_,rfl,_,_,rfl,rfl,(show 13<=sizeLine by decide),fun so n4=> ?_⟩;obtain ⟨xs,exs⟩:∃xs:List V,xs=[V.int (((p.map V.int).length:Nat):Int),V.int (-1),V.int ((((p.map V.int).length:Nat):Int)+far),V.int (-1 - far),V.bl true,V.bl false,V.non,V.str (Str.ofString (toString o)),V.ref l1,V.ref t1,V.ref d1,V.str (Str.ofString ""),V.int (0 - o)]:=⟨_,rfl⟩;have s5:c9 H4 (c8 H4 so (.lst xs)):=c9.upd_new n4;have g5:(c8 H4 so (.lst xs)) so=some (.lst xs):=c7;have ng4:so≠g:=k6 P4 n4;have P5:=j5 P4 s5;have s15:c9 H1 (c8 H4 so (.lst xs)):=s2.trans (s3.trans (s4.trans s5));have e1:=s5 _ _ (s4 _ _ (s3 _ _ g2));have e2:=s5 _ _ (s4 _ _ g3);have e3:=s5 _ _ g4;show ae0 5 (V.ref so) _ (c8 H4 so (.lst [V.int (((p.map V.int).length:Nat):Int),V.int (-1),V.int ((((p.map V.int).length:Nat):Int)+far),V.int (-1 - far),V.bl true,V.bl false,V.non,V.str (Str.ofString (toString o)),V.ref l1,V.ref t1,V.ref d1,V.str (Str.ofString ""),V.int (0 - o)])) _;rw[<-exs];generalize (c8 H4 so (.lst xs))=H5 at s5 g5 P5 s15 e1 e2 e3 ⊢;have h5:=s15 _ _ h1
   have pl:(0:Int) < (p.length:Int):=by omega
   refine ⟨_,rfl,_,rfl,_,rfl,_,rfl,l,_,rfl,.inl (j4.of h5),g,_,_,rfl,P5,by omega,(by rw[cc4];exact pl),(by rw[cc4];omega),fun r2 H6 b0 b1 P6 kb6=> ?_⟩;rw[cc4] at b1;have h6:=kb6 _ _ h5 lg;refine ⟨l,_,r2,_,rfl,rfl,j4.of h6,Mth.N3 (p:=p) b0 b1,_,rfl,_,_,rfl,rfl,_,rfl,l,_,rfl,.inl (j4.of h6),o+1,((p.length:Nat):Int),rfl,congrArg V.int (by rw[cc4]),pl,(show 2<=sizeLine by decide),fun l2 n6=> ?_⟩;have m0:=ch1 (o+1) (show ((p.length:Nat):Int)≠0 by omega);have m1:=ch4 (o+1) pl;obtain ⟨o2,eo2⟩:∃o2,o2=(o+1)%((p.length:Nat):Int):=⟨_,rfl⟩;obtain ⟨o1,eo1⟩:∃o1,o1=p.getD r2.toNat 0:=⟨_,rfl⟩
   have rn:r2.toNat < p.length:=by omega
   have o1b:0<=o1/\o1 < 40:=by rw[eo1,Mth.cb2 rn];exact pb _ (ce7 rn)
   rw[<-eo2] at m0 m1;show ∃_,_;rw[<-eo1];have s7:c9 H6 (c8 H6 l2 (.lst [V.int o1,V.int ((o+1)%((p.length:Nat):Int))])):=c9.upd_new n6
   have g7:(c8 H6 l2 (.lst [V.int o1,V.int ((o+1)%((p.length:Nat):Int))])) l2=some (.lst [V.int o1,V.int o2]):=by rw[c7,eo2]
   have P7:=j5 P6 s7;generalize (c8 H6 l2 (.lst [V.int o1,V.int ((o+1)%((p.length:Nat):Int))]))=H7 at s7 g7 P7 ⊢
   have lx:xs.length=13:=by rw[exs];rfl
   refine ⟨so,l2,_,_,rfl,rfl,s7 _ _ (kb6 _ _ g5 ng4),g7,(show xs.length+2<=sizeLine by rw[lx];decide),fun l3 n7=> ?_⟩;have s8:c9 H7 (c8 H7 l3 (.lst (xs++[V.int o1,V.int o2]))):=c9.upd_new n7;have g8:(c8 H7 l3 (.lst (xs++[V.int o1,V.int o2]))) l3=some (.lst (xs++[V.int o1,V.int o2])):=c7;have ng5:l3≠g:=k6 P7 n7;have P8:=j5 P7 s8;generalize (c8 H7 l3 (.lst (xs++[V.int o1,V.int o2])))=H8 at s8 g8 P8 ⊢;refine ⟨_,rfl,g,_,_,rfl,P8,by omega,(show (0:Int) < 15 by decide),(show (15:Int)<=_ by decide),fun r3 H9 c0 c1 P9 kb9=> ?_⟩;have g9:=kb9 _ _ g8 ng5
   have ly:(xs++[V.int o1,V.int o2]).length=15:=by rw[cc7,lx];rfl
   obtain ⟨j,rfl⟩:=cf1 c0
   have jl:j < (xs++[V.int o1,V.int o2]).length:=by rw[ly];omega
   refine ⟨l3,_,_,_,rfl,rfl,j4.of g9,o8 (cc6 jl),?_⟩;have k19:j3 g H1 H9:=((s15.but g).trans kb6).trans (((s7.trans s8).but g).trans kb9)
   have kk:∀a u,H5 a=some u->a≠g->E3 H9 g g a=some u:=fun a u e n=>B0 (((kb6.trans ((s7.trans s8).but g)).trans kb9) _ _ e n) n n
   refine q _ H9 P9 (kb1.trans k19) ?_
   have all:∀x∈xs++[V.int o1,V.int o2],J8 K (E3 H9 g g) x:=by
     intro x hx;rw[exs,cc4] at hx;simp only[List.cons_append,List.nil_append,ce0,ch3,or_false] at hx
     have lo:(Str.ofString (toString o)).length<=8:=by
       rw[ofString_length]
       exact int_text_length_le (k:=7) (by decide) (by
         by_cases z:o.natAbs=0
         · rw[z,ck2];omega
         · exact (ck1 z).mpr (by omega))
     rcases hx with rfl|rfl|rfl|rfl|rfl|rfl|rfl|rfl|rfl|rfl|rfl|rfl|rfl|rfl|rfl
     · exact J1 ⟨by omega,by omega⟩
     · exact J1 ⟨by omega,by omega⟩
     · exact J1 ⟨by omega,by omega⟩
     · exact J1 ⟨by omega,by omega⟩
     · exact ag4 true
     · exact ag4 false
     · exact bf5
     · exact aq2 (Y5 _) (by omega)
     · exact aq3 (ns:=[o]) (kk _ _ e1 ng1) (by simp) fun x hx=>by rw[cd9.mp hx];omega
     · exact bu9 (kk _ _ e2 ng2) (by omega)
     · exact bv0 (kk _ _ e3 ng3)
     · exact aq2 (Y5 "") (by decide)
     · exact J1 ⟨by omega,by omega⟩
     · exact J1 ⟨by omega,by omega⟩
     · exact J1 ⟨by omega,by omega⟩
   exact all _ (ce7 jl)
def ShX (M:Hp)(v:V):Prop:=ag2 M v\/∃(a:Addr) (ns:List Int),v= .ref a/\M a=some (.dK (Q6 (ns.map V.int)))/\ns.length<=40/\∀x∈ns,0<=x/\x < 40
structure ThV (K:PySem.W.Frag)(M:Hp)(v:V):Prop where
 jd:∃b,Jd K M v b
 cp:O9 M 2 v
 sh:ShX M v
theorem C2 {M:Hp}{a:Addr}{xs:List V}(h:M a=some (.lst xs))(hx:∀x∈xs,J8 K M x)(l:xs.length<=300):ThV K M (.ref a):=
 ⟨bq5 h (fun x m=>(hx x m).el),.lst h (by omega) (fun x m=>(hx x m).cp),.inl (ay1 h (fun x m=>(hx x m).sh) l)⟩
theorem E5 {M:Hp}{v:V}{t:Value}(ty:D5 K M v t)(kt:PySem.W.kitOne K t (.type "list")=some false)(cp:O9 M 2 v)(sh:ShX M v):ThV K M v:=⟨⟨false,.inl ⟨.inl ⟨t,ty,kt⟩,rfl⟩⟩,cp,sh⟩
theorem D4 {M:Hp}{ns:List Int}(b:∀x∈ns,-100<=x/\x<=100):∀x∈ns.map V.int,J8 K M x:=fun x hx=>by
 obtain ⟨i,hi,rfl⟩:=cf5.mp hx;have:=b i hi;exact J1 ⟨by omega,by omega⟩
theorem bv1 {A B G:Hp->Prop}{T:Prop}{b:Bool}{H1:Hp}(h1:b=true->G H1)(h2:(∀H,G H->A H)->T)(hA:∀H,G H->A H):(if b=true then (if true=true then A H1 else B H1) else T):=by
 cases b with
 |true=>exact hA H1 (h1 rfl)
 |false=>exact h2 hA
def ad7 (K:PySem.W.Frag):Sp:=fun vs H Q _=>∃(g l:Addr) (c:Nat) (p:List Int),vs=[.ref g,.ref l]/\o6 H g c/\c<=600000/\H l=some (.lst (p.map V.int))/\l≠g/\(∀x∈p,0<=x/\x < 40)/\p.length<=40/\
 ∀(v:V) (H':Hp),o6 H' g (c+60)->j3 g H H'->ThV K (E3 H' g g) v->Q v H'
theorem C7:o7 ["pool","p","way","some","at","found","to","step"] ["pool","p"] (j8 T6):=by rfl'
theorem U1:(["one","pool","p"]:List Str).Nodup:=by decide+kernel
theorem al3 {f:Addr}{fd:FuncData}(F:B6 K "_law_spoilt" "_law_spoilt" T6 f fd)(B:Bl mg)(zzx:A0 P w K mg base "_law_take" 1 ["pool","many"] M8)(zsz:A0 P w K mg base "_law_odd" 2 ["pool","p","at"] (ay5 K)):o4 P w K mg base C6 3 f fd ["pool","p"] (ad7 K):=by
 refine F.ok C7 (fun vs H Q E h=> ?_) (fun cdv A outer s H vs Q E hr h=> ?_)
 · obtain ⟨g,l,c,p,rfl,P0,hc,hl,lg,pb,l40,q⟩:=h;rfl
 · obtain ⟨g,l,c,p,rfl,P0,hc,hl,lg,pb,l40,q⟩:=h;have zxy:y7 1 _:=hr.mono (by decide);have zpx:y7 2 _:=hr.mono (by decide);have hu:=U4 hr;have hug:_+16 < cLine:=ci3 (ck6 (by decide:16<=64) _) hr.units;refine ⟨_,@i5 _ _ _ _ _ (@j9 _ _ (2) _ _ _ _ C7.nd rfl (Or.inl rfl) (@j6 _ _ _ _ _ _ _ _ _ _ zzx zxy (@c5 _ _ _ _ _ (pv 0) (@c5 _ _ _ _ _ (@i4 _ _ _ _) (@c6 _) (by rfl)) (by rfl)) (by rfl) (by decide) (by rfl) (by rfl)) (by rfl) (by trivial)) (@i5 _ _ _ _ _ (@A3 _ _ _ _ _ _ _ _ (@C9 _ _ _ _ _ _ _ (@o5 _ _ _ _ _ _ _ _ K3 (pv 2) (@i4 _ _ _ _) (q9 _)) (@G1 _ _ _ _ (@o5 _ _ _ _ _ _ _ _ (bc1 0 hu) (pv 1) (@o0 _ _ _ _ (@c6 _)) (q9 _)))).pt (@i5 _ _ _ _ _ (@j9 _ _ (3) _ _ _ _ C7.nd rfl (Or.inl rfl) (@o0 _ _ _ _ (@c5 _ _ _ _ _ (@K9 _ _ _ _ _ _ _ _ _ ak2 (by rfl) B.tuple as2 (@c5 _ _ _ _ _ (pv 1) (@c6 _) (by rfl)) (by decide) (by decide) (by rfl) (by rfl)) (@c5 _ _ _ _ _ (@S4 _ _ _) (@c5 _ _ _ _ _ (@bq4 _ _ _ _ _ hug hr.gd B.str (@c5 _ _ _ _ _ (pv 1) (@c6 _) (by rfl)) (by rfl) (by rfl)) (@c5 _ _ _ _ _ (@K6 _ _) (@c5 _ _ _ _ _ (@j7 _ _ _ _ _ _ _ _ D1 (pv 1) (@o0 _ _ _ _ (@c5 _ _ _ _ _ (@j7 _ _ _ _ _ _ _ _ A6 (@w9 _ _ _ _ _ B.len (@c5 _ _ _ _ _ (pv 1) (@c6 _) (by rfl)) (by rfl) (by rfl)) (@i4 _ _ _ _)) (@c6 _) (by rfl)))) (@c5 _ _ _ _ _ (@o0 _ _ _ _ (@c5 _ _ _ _ _ (pv 1) (@c6 _) (by rfl))) (@c5 _ _ _ _ _ (@B4 _ _ _ _) (@c5 _ _ _ _ _ (@i4 _ _ _ _) (@c5 _ _ _ _ _ (@Y9 _ _ _ _ _ (@c5 _ _ _ _ _ (pv 1) (@c6 _) (by rfl))) (@c5 _ _ _ _ _ (@bj7 _ _ _ _ _ _ _ rfl B.dict B.enum (@c5 _ _ _ _ _ (pv 1) (@c6 _) (by rfl)) (by rfl) (by rfl) (by rfl) (by rfl)) (@c5 _ _ _ _ _ (@j7 _ _ _ _ _ _ _ _ D1 (pv 1) (@o0 _ _ _ _ (@c5 _ _ _ _ _ (pv 1) (@c6 _) (by rfl)))) (@c5 _ _ _ _ _ (@K1 _ _ _ _) (@c6 _) (by rfl)) (by rfl)) (by rfl)) (by rfl)) (by rfl)) (by rfl)) (by rfl)) (by rfl)) (by rfl)) (by rfl)) (by rfl)) (by rfl))) (by rfl) (by trivial)) (@i9 _ _ _ (@l7 _ _ _ _ (@A9 _ _ _ _ _ _ _ x9 (pv 3) (@j6 _ _ _ _ _ _ _ _ _ _ zzx zxy (@c5 _ _ _ _ _ (pv 0) (@c5 _ _ _ _ _ (@i4 _ _ _ _) (@c6 _) (by rfl)) (by rfl)) (by rfl) (by decide) (by rfl) (by rfl)) (fun _ _=>rfl))))) (@w6 _)) (@i5 _ _ _ _ _ (@j9 _ _ (4) _ _ _ _ C7.nd rfl (Or.inl rfl) (@j6 _ _ _ _ _ _ _ _ _ _ zzx zxy (@c5 _ _ _ _ _ (pv 0) (@c5 _ _ _ _ _ (@w9 _ _ _ _ _ B.len (@c5 _ _ _ _ _ (pv 1) (@c6 _) (by rfl)) (by rfl) (by rfl)) (@c6 _) (by rfl)) (by rfl)) (by rfl) (by decide) (by rfl) (by rfl)) (by rfl) (by trivial)) (@i5 _ _ _ _ _ (@A3 _ _ _ _ _ _ _ _ (@o5 _ _ _ _ _ _ _ _ aa7 (pv 2) (@i4 _ _ _ _) (q9 _)) (@i9 _ _ _ (@l7 _ _ _ _ (@V9 _ _ _ _ _ _ _ _ _ _ _ (["one","pool","p"]) (1) ([0,1]) rfl .of (@D7 _ _ _ _ (pv 1)) (fun _ _ _ _ _=>@A5 _ _ (0) _ U1 rfl (Or.inl rfl) (by trivial)) (fun _ _ _ _ _=>(@X0 _)) (fun _ _ _ _ _=>(@j6 _ _ _ _ _ _ _ _ _ _ zzx zxy (@c5 _ _ _ _ _ (pv 1) (@c5 _ _ _ _ _ (@bi1 _ _ _ _ _ K (by exact B.len) (@c5 _ _ _ _ _ (pv 2) (@c6 _) (by rfl)) (by rfl) (by rfl) (by rfl)) (@c6 _) (by rfl)) (by rfl)) (by rfl) (by decide) (by rfl) (by rfl))) (by intro _;rfl)))) (@w6 _)) (@i5 _ _ _ _ _ (@A3 _ _ _ _ _ _ _ _ (@o5 _ _ _ _ _ _ _ _ aa7 (pv 2) (@i4 _ _ _ _) (q9 _)) (@i5 _ _ _ _ _ (@j9 _ _ (5) _ _ _ _ C7.nd rfl (Or.inl rfl) (@Z5 _ _ _ _ _ B.list (@c5 _ _ _ _ _ (pv 1) (@c6 _) (by rfl)) (by rfl) (by rfl)) (by rfl) (by trivial)) (@i5 _ _ _ _ _ (@j9 _ _ (6) _ _ _ _ C7.nd rfl (Or.inl rfl) (@j6 _ _ _ _ _ _ _ _ _ _ zzx zxy (@c5 _ _ _ _ _ (pv 0) (@c5 _ _ _ _ _ (@w9 _ _ _ _ _ B.len (@c5 _ _ _ _ _ (pv 1) (@c6 _) (by rfl)) (by rfl) (by rfl)) (@c6 _) (by rfl)) (by rfl)) (by rfl) (by decide) (by rfl) (by rfl)) (by rfl) (by trivial)) (@i5 _ _ _ _ _ (@j9 _ _ (7) _ _ _ _ C7.nd rfl (Or.inl rfl) (@j7 _ _ _ _ _ _ _ _ A6 (@i4 _ _ _ _) (@j6 _ _ _ _ _ _ _ _ _ _ zzx zxy (@c5 _ _ _ _ _ (pv 0) (@c5 _ _ _ _ _ (@i4 _ _ _ _) (@c6 _) (by rfl)) (by rfl)) (by rfl) (by decide) (by rfl) (by rfl))) (by rfl) (by trivial)) (@i5 _ _ _ _ _ (@V4 _ _ _ _ _ _ (@j7 _ _ _ _ _ _ _ _ A6 (@A9 _ _ _ _ _ _ _ x9 (pv 5) (pv 4) (fun _ _=>rfl)) (pv 7)) (@V3 _ _ _ _ _ _ _ (pv 5) (pv 4) N1 (by intro _;rfl)) (by rfl) (by rfl) (by rfl)) (@i5 _ _ _ _ _ (@V4 _ _ _ _ _ _ (@j7 _ _ _ _ _ _ _ _ V5 (@A9 _ _ _ _ _ _ _ x9 (pv 5) (pv 6) (fun _ _=>rfl)) (pv 7)) (@V3 _ _ _ _ _ _ _ (pv 5) (pv 6) N1 (by intro _;rfl)) (by rfl) (by rfl) (by rfl)) (@i9 _ _ _ (@l7 _ _ _ _ (pv 5)))))))) (@w6 _)) (@i5 _ _ _ _ _ (@A3 _ _ _ _ _ _ _ _ (@o5 _ _ _ _ _ _ _ _ K3 (pv 2) (@i4 _ _ _ _) (q9 _)) (@i9 _ _ _ (@l7 _ _ _ _ (@j7 _ _ _ _ _ _ _ _ D1 (@E9 _ _ _ _ _ _ _ _ _ _ J4 (pv 1) (@J2 _) (@J3 _ _ _ (pv 4))) (@E9 _ _ _ _ _ _ _ _ _ _ J4 (pv 1) (@J3 _ _ _ (@j7 _ _ _ _ _ _ _ _ A6 (pv 4) (@i4 _ _ _ _))) (@J2 _))))) (@w6 _)) (@i5 _ _ _ _ _ (@A3 _ _ _ _ _ _ _ _ (@o5 _ _ _ _ _ _ _ _ K3 (pv 2) (@i4 _ _ _ _) (q9 _)) (@i9 _ _ _ (@l7 _ _ _ _ (@j7 _ _ _ _ _ _ _ _ D1 (@j7 _ _ _ _ _ _ _ _ D1 (@E9 _ _ _ _ _ _ _ _ _ _ J4 (pv 1) (@J2 _) (@J3 _ _ _ (pv 4))) (@o0 _ _ _ _ (@c5 _ _ _ _ _ (@j6 _ _ _ _ _ _ _ _ _ _ zsz zpx (@c5 _ _ _ _ _ (pv 0) (@c5 _ _ _ _ _ (pv 1) (@c5 _ _ _ _ _ (pv 4) (@c6 _) (by rfl)) (by rfl)) (by rfl)) (by rfl) (by decide) (by rfl) (by rfl)) (@c6 _) (by rfl)))) (@E9 _ _ _ _ _ _ _ _ _ _ J4 (pv 1) (@J3 _ _ _ (pv 4)) (@J2 _))))) (@w6 _)) (@i5 _ _ _ _ _ (@A3 _ _ _ _ _ _ _ _ (@o5 _ _ _ _ _ _ _ _ K3 (pv 2) (@i4 _ _ _ _) (q9 _)) (@i9 _ _ _ (@l7 _ _ _ _ (@j7 _ _ _ _ _ _ _ _ D1 (@j7 _ _ _ _ _ _ _ _ D1 (@E9 _ _ _ _ _ _ _ _ _ _ J4 (pv 1) (@J2 _) (@J3 _ _ _ (pv 4))) (@o0 _ _ _ _ (@c5 _ _ _ _ _ (@A9 _ _ _ _ _ _ _ x9 (@o0 _ _ _ _ (@c5 _ _ _ _ _ (@R1 _ _ _ _ _ _ L7 (@i4 _ _ _ _)) (@c5 _ _ _ _ _ (@B4 _ _ _ _) (@c5 _ _ _ _ _ (@S4 _ _ _) (@c5 _ _ _ _ _ (@w9 _ _ _ _ _ B.len (@c5 _ _ _ _ _ (pv 1) (@c6 _) (by rfl)) (by rfl) (by rfl)) (@c6 _) (by rfl)) (by rfl)) (by rfl)) (by rfl))) (@j6 _ _ _ _ _ _ _ _ _ _ zzx zxy (@c5 _ _ _ _ _ (pv 0) (@c5 _ _ _ _ _ (@i4 _ _ _ _) (@c6 _) (by rfl)) (by rfl)) (by rfl) (by decide) (by rfl) (by rfl)) (fun _ _=>rfl)) (@c6 _) (by rfl)))) (@E9 _ _ _ _ _ _ _ _ _ _ J4 (pv 1) (@J3 _ _ _ (pv 4)) (@J2 _))))) (@w6 _)) (@i9 _ _ _ (@l7 _ _ _ _ (@j7 _ _ _ _ _ _ _ _ D1 (@j7 _ _ _ _ _ _ _ _ D1 (@E9 _ _ _ _ _ _ _ _ _ _ J4 (pv 1) (@J2 _) (@J3 _ _ _ (pv 4))) (@o0 _ _ _ _ (@c5 _ _ _ _ _ (@j6 _ _ _ _ _ _ _ _ _ _ zsz zpx (@c5 _ _ _ _ _ (pv 0) (@c5 _ _ _ _ _ (pv 1) (@c5 _ _ _ _ _ (pv 4) (@c6 _) (by rfl)) (by rfl)) (by rfl)) (by rfl) (by decide) (by rfl) (by rfl)) (@c6 _) (by rfl)))) (@E9 _ _ _ _ _ _ _ _ _ _ J4 (pv 1) (@J3 _ _ _ (@j7 _ _ _ _ _ _ _ _ A6 (pv 4) (@i4 _ _ _ _))) (@J2 _)))))))))))),?_⟩
   refine ⟨_,rfl,g,c,12,rfl,P0,by omega,by decide,by decide,fun way H1 w0 w1 P1 kb1=> ?_⟩;have h1:=kb1 _ _ hl lg;have lm:(p.map V.int).length=p.length:=cc4 ..
   have pb2:∀x∈p,-100<=x/\x<=100:=fun x hx=>by have:=pb x hx;omega
   refine ⟨_,rfl,rfl,_,rfl,bv1 (G:=fun H'=>o6 H' g (c+1)/\j3 g H H') (fun _=>⟨P1,kb1⟩) (fun hA=> ?_) ?_⟩
   rotate_left
   · rintro H2 ⟨P2,kb2⟩;have h2:=kb2 _ _ hl lg;refine ⟨_,rfl,l,_,rfl,.inl ⟨j4.of h2,fun t1 n3=> ?_⟩⟩;have s3:c9 H2 (c8 H2 t1 (.tup (p.map V.int))):=c9.upd_new n3;have g3:(c8 H2 t1 (.tup (p.map V.int))) t1=some (.tup (p.map V.int)):=c7;have ng3:t1≠g:=k6 P2 n3;have P3:=j5 P2 s3;generalize (c8 H2 t1 (.tup (p.map V.int)))=H3 at s3 g3 P3 ⊢;have h3:=s3 _ _ h2;obtain ⟨dp,da,ds,dl,dd,dn,dm⟩:=ad6 h3 (by omega) pb2;refine ⟨_,rfl,l,dp,rfl,⟨da,ds,cd3 dl (by decide),by omega⟩,dn,fun d1 n4=> ?_⟩;have s4:c9 H3 (c8 H3 d1 (.dK [])):=c9.upd_new n4;have g4:(c8 H3 d1 (.dK [])) d1=some (.dK []):=c7;have ng4:d1≠g:=k6 P3 n4;have P4:=j5 P3 s4;generalize (c8 H3 d1 (.dK []))=H4 at s4 g4 P4 ⊢;have h4:=s4 _ _ h3;refine ⟨_,rfl,_,rfl,l,_,rfl,.inl (j4.of h4),_,_,rfl,rfl,(show 1<=sizeLine by decide),fun l2 n5=> ?_⟩;have s5:c9 H4 (c8 H4 l2 (.lst [V.int (((p.map V.int).length:Int)+1)])):=c9.upd_new n5;have g5:(c8 H4 l2 (.lst [V.int (((p.map V.int).length:Int)+1)])) l2=some (.lst [V.int (((p.map V.int).length:Int)+1)]):=c7;have ng5:l2≠g:=k6 P4 n5;have P5:=j5 P4 s5;generalize (c8 H4 l2 (.lst [V.int (((p.map V.int).length:Int)+1)]))=H5 at s5 g5 P5 ⊢;have h5:=s5 _ _ h4;refine ⟨l,l2,_,_,rfl,rfl,h5,g5,cf2 (q0 (by rw[lm];show p.length+1<=1000;omega)),fun l3 n6=> ?_⟩;have s6:c9 H5 (c8 H5 l3 (.lst (p.map V.int++[V.int (((p.map V.int).length:Int)+1)]))):=c9.upd_new n6;have g6:(c8 H5 l3 (.lst (p.map V.int++[V.int (((p.map V.int).length:Int)+1)]))) l3=some (.lst (p.map V.int++[V.int (((p.map V.int).length:Int)+1)])):=c7;have ng6:l3≠g:=k6 P5 n6;have P6:=j5 P5 s6;generalize (c8 H5 l3 (.lst (p.map V.int++[V.int (((p.map V.int).length:Int)+1)])))=H6 at s6 g6 P6 ⊢;have h6:=s6 _ _ h5;refine ⟨_,rfl,(show 1<=sizeLine by decide),fun l4 n7=> ?_⟩;have s7:c9 H6 (c8 H6 l4 (.lst [V.ref l])):=c9.upd_new n7;have g7:(c8 H6 l4 (.lst [V.ref l])) l4=some (.lst [V.ref l]):=c7;have ng7:l4≠g:=k6 P6 n7;have P7:=j5 P6 s7;generalize (c8 H6 l4 (.lst [V.ref l]))=H7 at s7 g7 P7 ⊢;have h7:=s7 _ _ h6;refine ⟨_,rfl,(show 1<=sizeLine by decide),fun t2 n8=> ?_⟩;have s8:c9 H7 (c8 H7 t2 (.tup [V.ref l])):=c9.upd_new n8;have g8:(c8 H7 t2 (.tup [V.ref l])) t2=some (.tup [V.ref l]):=c7;have ng8:t2≠g:=k6 P7 n8;have P8:=j5 P7 s8;generalize (c8 H7 t2 (.tup [V.ref l]))=H8 at s8 g8 P8 ⊢;have h8:=s8 _ _ h7;refine ⟨_,rfl,l,_,rfl,j4.of h8,by rw[lm];omega,fun d2 n9=> ?_⟩;have s9:c9 H8 (c8 H8 d2 (.dK (Q6 (p.map V.int)))):=c9.upd_new n9;have g9:(c8 H8 d2 (.dK (Q6 (p.map V.int)))) d2=some (.dK (Q6 (p.map V.int))):=c7;have ng9:d2≠g:=k6 P8 n9;have P9:=j5 P8 s9;generalize (c8 H8 d2 (.dK (Q6 (p.map V.int))))=H9 at s9 g9 P9 ⊢;have h9:=s9 _ _ h8;refine ⟨_,rfl,_,rfl,(show 1<=sizeLine by decide),fun l5 n10=> ?_⟩;have s10:c9 H9 (c8 H9 l5 (.lst [V.ref l])):=c9.upd_new n10;have g10:(c8 H9 l5 (.lst [V.ref l])) l5=some (.lst [V.ref l]):=c7;have ng10:l5≠g:=k6 P9 n10;have P10:=j5 P9 s10;generalize (c8 H9 l5 (.lst [V.ref l]))=H10 at s10 g10 P10 ⊢;have h10:=s10 _ _ h9;refine ⟨l,l5,_,_,rfl,rfl,h10,g10,cf2 (q0 (by rw[lm];show p.length+1<=1000;omega)),fun l6 n11=> ?_⟩
     have s11:c9 H10 (c8 H10 l6 (.lst (p.map V.int++[V.ref l]))):=c9.upd_new n11;have g11:(c8 H10 l6 (.lst (p.map V.int++[V.ref l]))) l6=some (.lst (p.map V.int++[V.ref l])):=c7;have ng11:l6≠g:=k6 P10 n11;have P11:=j5 P10 s11;generalize (c8 H10 l6 (.lst (p.map V.int++[V.ref l])))=H11 at s11 g11 P11 ⊢;have h11:=s11 _ _ h10;refine ⟨(show 12<=sizeLine by decide),fun so n12=> ?_⟩;obtain ⟨xs,exs⟩:∃xs:List V,xs=[V.ref t1,V.non,V.str dp.shown,V.ref d1,V.ref l3,V.ref l4,V.bl true,V.int 0,V.ref t2,V.ref d2,V.ref l6,V.str (Str.ofString "")]:=⟨_,rfl⟩;show ae0 3 (V.ref so) _ (c8 H11 so (.lst [V.ref t1,V.non,V.str dp.shown,V.ref d1,V.ref l3,V.ref l4,V.bl true,V.int 0,V.ref t2,V.ref d2,V.ref l6,V.str (Str.ofString "")])) _;rw[<-exs];have s12:c9 H11 (c8 H11 so (.lst xs)):=c9.upd_new n12;have g12:(c8 H11 so (.lst xs)) so=some (.lst xs):=c7;have ng12:so≠g:=k6 P11 n12;have P12:=j5 P11 s12;generalize (c8 H11 so (.lst xs))=H12 at s12 g12 P12 ⊢;refine ⟨_,rfl,_,rfl,g,_,12,rfl,P12,by omega,by decide,by decide,fun r H13 c0 c1 P13 kb13=> ?_⟩;obtain ⟨j,rfl⟩:=cf1 c0
     have lx:xs.length=12:=by rw[exs];rfl
     have jl:j < xs.length:=by rw[lx];omega
     refine ⟨so,_,_,_,rfl,rfl,j4.of (kb13 _ _ g12 ng12),o8 (cc6 jl),?_⟩;have t11:=s11.trans s12;have t10:=s10.trans t11;have t9:=s9.trans t10;have t8:=s8.trans t9;have t7:=s7.trans t8;have t6:=s6.trans t7;have t5:=s5.trans t6;have t4:=s4.trans t5;have t3:=s3.trans t4
     have kk:∀a u,H12 a=some u->a≠g->E3 H13 g g a=some u:=fun a u e n=>B0 (kb13 _ _ e n) n n
     refine q _ H13 (P13.mono (by omega)) (kb2.trans ((t3.but g).trans kb13)) ?_;have hp:=kk _ _ (t3 _ _ h2) lg;have itp:J8 K (E3 H13 g g) (.ref l):=aq3 hp (by omega) pb2
     have all:∀x∈xs,ThV K (E3 H13 g g) x:=by
       intro x hx;rw[exs] at hx;simp only[ce0,ch3,or_false] at hx
       rcases hx with rfl|rfl|rfl|rfl|rfl|rfl|rfl|rfl|rfl|rfl|rfl|rfl
       · exact E5 (.tup (kk _ _ (t4 _ _ g3) ng3)) (J6 K) (.tup (kk _ _ (t4 _ _ g3) ng3)) (.inl (bf3 (kk _ _ (t4 _ _ g3) ng3) (by omega) fun x hx=>by have:=pb x hx;exact ⟨by omega,by omega⟩))
       · exact E5 .non (Q3 K) .non (.inl (.of ag0))
       · refine E5 (.str _) (M3 K) (.str _) (.inl ⟨_,.str _,by rw[PyData.showable],?_,by rw[PyData.depth];decide⟩);rw[PyData.shown];have:=StrLaws.reprText_len _ dm;omega
       · exact E5 (.dK (kk _ _ (t5 _ _ g4) ng4)) (K4 K) (.dic (kk _ _ (t5 _ _ g4) ng4)) (.inl (.of (ag1 (kk _ _ (t5 _ _ g4) ng4))))
       · refine C2 (kk _ _ (t7 _ _ g6) ng6) (fun x hx=> ?_) (by rw[cc7,lm];simp only[cf4];omega)
         rcases cd2.mp hx with z|z
         · exact D4 pb2 x z
         · rw[cd9.mp z,lm];exact J1 ⟨by omega,by omega⟩
       · exact C2 (kk _ _ (t8 _ _ g7) ng7) (fun x hx=>by rw[cd9.mp hx];exact itp) (by simp)
       · exact E5 (.bl true) (al0 K) (.bl true) (.inl (.of (bm0 true)))
       · exact E5 (.int 0) (aa0 K) (.int 0) (.inl (.of (af9 ⟨by decide,by decide⟩)))
       · refine E5 (.tup (kk _ _ (t9 _ _ g8) ng8)) (J6 K) (.tup (kk _ _ (t9 _ _ g8) ng8)) (.inl ?_);obtain ⟨d,e1,e2,e3,e4,_⟩:=ad6 hp (by omega) pb2;refine ⟨.tuple [d],.tup (kk _ _ (t9 _ _ g8) ng8) (.cons e1 .nil),by simp only[PyData.showable,PyData.showableAll];rw[e2];rfl,?_,by simp only[PyData.depth,PyData.depthAll];omega⟩;rw[PyData.shown];simp only[PyData.shownAll];refine cd3 (M9 (m:=700) fun t ht=> ?_) (by simp);rw[cd9.mp ht];exact e3
       · exact E5 (.dK (kk _ _ (t10 _ _ g9) ng9)) (K4 K) (.dic (kk _ _ (t10 _ _ g9) ng9)) (.inr ⟨_,p,rfl,kk _ _ (t10 _ _ g9) ng9,l40,pb⟩)
       · refine C2 (kk _ _ (s12 _ _ g11) ng11) (fun x hx=> ?_) (by rw[cc7,lm];simp only[cf4];omega)
         rcases cd2.mp hx with z|z
         · exact D4 pb2 x z
         · rw[cd9.mp z];exact itp
       · exact E5 (.str _) (M3 K) (.str _) (.inl (.of (be9 (by decide+kernel))))
     exact all _ (ce7 jl)
   refine ⟨_,rfl,(show 0<=sizeLine by decide),fun l0 n2=> ?_⟩;have s2:c9 H1 (c8 H1 l0 (.lst [])):=c9.upd_new n2;have g2:(c8 H1 l0 (.lst [])) l0=some (.lst (([]:List Int).map V.int)):=c7;have P2:=j5 P1 s2;generalize (c8 H1 l0 (.lst []))=H2 at s2 g2 P2 ⊢;have h2:=s2 _ _ h1;have kb2:j3 g H H2:=kb1.trans (s2.but g);refine ⟨l,l0,_,_,_,rfl,rfl,j4.of h2,j4.of g2,bh7 K H2 0 p [],_,rfl,?_⟩
   refine D2 (fun _=>hA H2 ⟨P2,kb2⟩) fun ne=> ?_
   have ne:p≠[]:=fun z=>ne (decide_eq_true z)
   have pl:0 < p.length:=List.length_pos_iff.mpr ne;clear hA;refine ⟨_,rfl,_,rfl,l,_,rfl,.inl (j4.of h2),g,_,_,rfl,P2,by omega,(by rw[lm];omega),(by rw[lm];omega),fun at_ H3 a0 a1 P3 kb3=> ?_⟩;rw[lm] at a1;have h3:=kb3 _ _ h2 lg;have kb03:=kb2.trans kb3;clear P0 P1 P2 kb1 kb2 kb3 s2 g2 h1 h2 n2;refine ⟨_,rfl,_,_,rfl,rfl,_,rfl,D2 (fun _=> ?_) fun _=> ?_⟩
   · refine ⟨_,rfl,l,rfl,⟨_,j4.of h3⟩,Z2 (K:=K) (a:=l) (xs:=p.map V.int) (fun i ys σ H4=>∃(v:Option V) (os:List Int),σ=[v,some (.ref g),some (.ref l)]/\ys=os.map V.int/\os.length=i/\(∀x∈os,0<=x/\x<=40)/\o6 H4 g (c+2+i)/\j3 g H3 H4)
       ⟨none,[],rfl,rfl,rfl,(fun x hx=>by cases hx),P3,j3.refl g H3⟩ (fun i ys σ H4 _ zz=>by obtain ⟨_,_,_,_,_,_,_,k⟩:=zz;exact j4.of (k _ _ h3 lg)) ?_ ?_⟩
     · rintro i x ys σ H4 hi ⟨v,os,rfl,rfl,lo,bo,P4,kb4⟩
       have il:i < p.length:=by have:=(cc5.mp hi).1;rw[lm] at this;exact this
       have h4:=kb4 _ _ h3 lg;refine ⟨_,rfl,_,rfl,l,_,rfl,.inl (j4.of h4),g,_,_,rfl,P4,by omega,(by rw[lm];omega),(by rw[lm];omega),fun r H5 i0 i1 P5 kb5=>⟨q0 (by rw[cc4];omega),_,os++[r],rfl,by rw[ce6];rfl,by rw[cc7,lo];rfl,fun y hy=> ?_,P5,kb4.trans kb5⟩⟩;rw[lm] at i1
       rcases cd2.mp hy with z|z
       · exact bo y z
       · rw[cd9.mp z];omega
     · rintro ys σ H4 ⟨v,os,rfl,rfl,lo,bo,P4,kb4⟩ fr nfr;rw[lm] at lo P4;have s5:c9 H4 (c8 H4 fr (.lst (os.map V.int))):=c9.upd_new nfr;have g5:(c8 H4 fr (.lst (os.map V.int))) fr=some (.lst (os.map V.int)):=c7;have nfg:fr≠g:=k6 P4 nfr;have P5:=j5 P4 s5;exact q (.ref fr) _ (P5.mono (by omega)) (kb03.trans (kb4.trans (s5.but g))) (C2 (B0 g5 nfg nfg) (D4 fun x hx=>by have:=bo x hx;omega) (by rw[cc4];omega))
   refine ⟨_,rfl,_,_,rfl,rfl,_,rfl,D2 (fun _=> ?_) fun _=> ?_⟩
   · refine ⟨_,rfl,l,_,rfl,.inl (j4.of h3),fun ml n4=> ?_⟩;have s4:c9 H3 (c8 H3 ml (.lst (p.map V.int))):=c9.upd_new n4;have g4:(c8 H3 ml (.lst (p.map V.int))) ml=some (.lst (p.map V.int)):=c7;have nmg:ml≠g:=k6 P3 n4;have P4:=j5 P3 s4;generalize (c8 H3 ml (.lst (p.map V.int)))=H4 at s4 g4 P4 ⊢;have h4:=s4 _ _ h3;refine ⟨_,rfl,_,rfl,l,_,rfl,.inl (j4.of h4),g,_,_,rfl,P4,by omega,(by rw[lm];omega),(by rw[lm];omega),fun to H5 b0 b1 P5 kb5=> ?_⟩;rw[lm] at b1;refine ⟨_,rfl,g,_,2,rfl,P5,by omega,by decide,by decide,fun st H6 c0 c1 P6 kb6=>⟨_,_,rfl,rfl,?_⟩⟩;have g6:=kb6 _ _ (kb5 _ _ g4 nmg) nmg;have kb46:j3 g H3 H6:=((s4.but g).trans kb5).trans kb6;obtain ⟨sp,esp⟩:∃sp,sp=1+st:=⟨_,rfl⟩;show ae0 7 (V.int (1+st)) _ _ _;rw[<-esp];refine ⟨_,rfl,_,rfl,ml,_,at_,_,rfl,rfl,j4.of g6,Mth.N3 (p:=p) a0 a1,_,rfl,_,_,rfl,rfl,_,rfl,_,rfl,ml,_,at_,at_.toNat,rfl,rfl,g6,bf4 a0 (by rw[lm];exact a1),?_⟩;obtain ⟨m1,em1⟩:∃m1,m1=p.set at_.toNat (p.getD at_.toNat 0+sp):=⟨_,rfl⟩
     have l1':m1.length=p.length:=by rw[em1,cj3]
     have b1':∀x∈m1,-10<=x/\x<=50:=fun x hx=>by
       rw[em1] at hx
       rcases cl3 hx with z|z
       · have:=pb x z;omega
       · have:=pb _ (ce7 (show at_.toNat < p.length by omega));rw[Mth.cb2 (show at_.toNat < p.length by omega)] at z;omega
     have g7:(c8 H6 ml (.lst ((p.map V.int).set at_.toNat (V.int (p.getD at_.toNat 0+sp))))) ml=some (.lst (m1.map V.int)):=by rw[c7,em1,cl8]
     have kb7:j3 g H3 (c8 H6 ml (.lst ((p.map V.int).set at_.toNat (V.int (p.getD at_.toNat 0+sp))))):=kb46.upd_r n4;have P7:o6 (c8 H6 ml (.lst ((p.map V.int).set at_.toNat (V.int (p.getD at_.toNat 0+sp))))) g _:=ap9 P6 nmg;generalize (c8 H6 ml (.lst ((p.map V.int).set at_.toNat (V.int (p.getD at_.toNat 0+sp)))))=H7 at g7 kb7 P7 ⊢;refine ⟨_,rfl,_,rfl,ml,_,to,_,rfl,rfl,j4.of g7,Mth.N3 (p:=m1) b0 (by rw[l1'];exact b1),_,rfl,_,_,rfl,rfl,_,rfl,_,rfl,ml,_,to,to.toNat,rfl,rfl,g7,bf4 b0 (by rw[cc4,l1'];exact b1),?_⟩;obtain ⟨m2,em2⟩:∃m2,m2=m1.set to.toNat (m1.getD to.toNat 0 - sp):=⟨_,rfl⟩
     have l2':m2.length=p.length:=by rw[em2,cj3,l1']
     have b2':∀x∈m2,-20<=x/\x<=50:=fun x hx=>by
       rw[em2] at hx
       rcases cl3 hx with z|z
       · have:=b1' x z;omega
       · have:=b1' _ (ce7 (show to.toNat < m1.length by omega));rw[Mth.cb2 (show to.toNat < m1.length by omega)] at z;omega
     have g8:(c8 H7 ml (.lst ((m1.map V.int).set to.toNat (V.int (m1.getD to.toNat 0 - sp))))) ml=some (.lst (m2.map V.int)):=by rw[c7,em2,cl8]
     have kb8:j3 g H3 (c8 H7 ml (.lst ((m1.map V.int).set to.toNat (V.int (m1.getD to.toNat 0 - sp))))):=kb7.upd_r n4;have P8:o6 (c8 H7 ml (.lst ((m1.map V.int).set to.toNat (V.int (m1.getD to.toNat 0 - sp))))) g _:=ap9 P7 nmg;exact ⟨_,rfl,q (.ref ml) _ (P8.mono (by omega)) (kb03.trans kb8) (C2 (B0 g8 nmg nmg) (D4 fun x hx=>by have:=b2' x hx;omega) (by rw[cc4];omega))⟩
   have ml:((p.map V.int).take at_.toNat).length=at_.toNat:=by rw[ce4,lm];omega
   have mr:((p.map V.int).drop (at_+1).toNat).length<=40:=by rw[cf6,lm];omega
   have mr0:((p.map V.int).drop at_.toNat).length<=40:=by rw[cf6,lm];omega
   have itL:∀{M:Hp},∀x∈(p.map V.int).take at_.toNat,J8 K M x:=fun x hx=>D4 pb2 x (ch8 hx)
   have itR:∀{M:Hp},∀x∈(p.map V.int).drop (at_+1).toNat,J8 K M x:=fun x hx=>D4 pb2 x (ck3 hx)
   have itR0:∀{M:Hp},∀x∈(p.map V.int).drop at_.toNat,J8 K M x:=fun x hx=>D4 pb2 x (ck3 hx)
   refine ⟨_,rfl,rfl,_,rfl,D2 (fun _=> ?_) fun _=> ?_⟩
   · refine ⟨_,rfl,_,rfl,_,rfl,l,_,rfl,j4.of h3,fun w1 n4=> ?_⟩;rw[ag3 a0 (by rw[lm];omega)];have s4:c9 H3 (c8 H3 w1 (.lst ((p.map V.int).take at_.toNat))):=c9.upd_new n4;have g4:(c8 H3 w1 (.lst ((p.map V.int).take at_.toNat))) w1=some (.lst ((p.map V.int).take at_.toNat)):=c7;have ng4:w1≠g:=k6 P3 n4;have P4:=j5 P3 s4;generalize (c8 H3 w1 (.lst ((p.map V.int).take at_.toNat)))=H4 at s4 g4 P4 ⊢;refine ⟨_,rfl,_,rfl,_,_,rfl,rfl,_,rfl,l,_,rfl,j4.of (s4 _ _ h3),fun w2 n5=> ?_⟩;rw[show Q2 (p.map V.int) (some (at_+1)) none=(p.map V.int).drop (at_+1).toNat from Y4 (by omega) (by rw[lm];omega)];have s5:c9 H4 (c8 H4 w2 (.lst ((p.map V.int).drop (at_+1).toNat))):=c9.upd_new n5;have g5:(c8 H4 w2 (.lst ((p.map V.int).drop (at_+1).toNat))) w2=some (.lst ((p.map V.int).drop (at_+1).toNat)):=c7;have ng5:w2≠g:=k6 P4 n5;have P5:=j5 P4 s5;generalize (c8 H4 w2 (.lst ((p.map V.int).drop (at_+1).toNat)))=H5 at s5 g5 P5 ⊢;refine ⟨w1,w2,_,_,rfl,rfl,s5 _ _ g4,g5,cf2 (q0 (by rw[ml];omega)),fun w3 n6=> ?_⟩;have s6:c9 H5 (c8 H5 w3 (.lst ((p.map V.int).take at_.toNat++(p.map V.int).drop (at_+1).toNat))):=c9.upd_new n6;have g6:(c8 H5 w3 (.lst ((p.map V.int).take at_.toNat++(p.map V.int).drop (at_+1).toNat))) w3=some (.lst ((p.map V.int).take at_.toNat++(p.map V.int).drop (at_+1).toNat)):=c7;have ng6:w3≠g:=k6 P5 n6;have P6:=j5 P5 s6;generalize (c8 H5 w3 (.lst ((p.map V.int).take at_.toNat++(p.map V.int).drop (at_+1).toNat)))=H6 at s6 g6 P6 ⊢;have st:=s4.trans (s5.trans s6);exact q (.ref w3) H6 (P6.mono (by omega)) (kb03.trans (st.but g)) (C2 (B0 g6 ng6 ng6) (fun x hx=>(cd2.mp hx).elim (itL x) (itR x)) (by rw[cc7,ml];omega))
   refine ⟨_,rfl,rfl,_,rfl,D2 (fun _=> ?_) fun _=> ?_⟩
   · refine ⟨_,rfl,_,rfl,_,rfl,l,_,rfl,j4.of h3,fun w1 n4=> ?_⟩;rw[ag3 a0 (by rw[lm];omega)];have s4:c9 H3 (c8 H3 w1 (.lst ((p.map V.int).take at_.toNat))):=c9.upd_new n4;have g4:(c8 H3 w1 (.lst ((p.map V.int).take at_.toNat))) w1=some (.lst ((p.map V.int).take at_.toNat)):=c7;have ng4:w1≠g:=k6 P3 n4;have P4:=j5 P3 s4;generalize (c8 H3 w1 (.lst ((p.map V.int).take at_.toNat)))=H4 at s4 g4 P4 ⊢;refine ⟨_,rfl,_,rfl,_,rfl,g,l,_,p,at_,rfl,P4,by omega,s4 _ _ h3,lg,pb,l40,a0,a1,fun y H5 P5 kb5 ity=> ?_⟩;refine ⟨(show 1<=sizeLine by decide),fun w2 n6=> ?_⟩;have s6:c9 H5 (c8 H5 w2 (.lst [y])):=c9.upd_new n6;have g6:(c8 H5 w2 (.lst [y])) w2=some (.lst [y]):=c7;have ng6:w2≠g:=k6 P5 n6;have P6:=j5 P5 s6;generalize (c8 H5 w2 (.lst [y]))=H6 at s6 g6 P6 ⊢;refine ⟨w1,w2,_,_,rfl,rfl,s6 _ _ (kb5 _ _ g4 ng4),g6,cf2 (q0 (by rw[ml];show at_.toNat+1<=1000;omega)),fun w3 n7=> ?_⟩;have s7:c9 H6 (c8 H6 w3 (.lst ((p.map V.int).take at_.toNat++[y]))):=c9.upd_new n7;have g7:(c8 H6 w3 (.lst ((p.map V.int).take at_.toNat++[y]))) w3=some (.lst ((p.map V.int).take at_.toNat++[y])):=c7;have ng7:w3≠g:=k6 P6 n7;have P7:=j5 P6 s7;generalize (c8 H6 w3 (.lst ((p.map V.int).take at_.toNat++[y])))=H7 at s7 g7 P7 ⊢;have h5:=kb5 _ _ (s4 _ _ h3) lg;refine ⟨_,rfl,_,rfl,_,rfl,l,_,rfl,j4.of (s7 _ _ (s6 _ _ h5)),fun w4 n8=> ?_⟩;rw[Y4 a0 (by rw[lm];omega)];have s8:c9 H7 (c8 H7 w4 (.lst ((p.map V.int).drop at_.toNat))):=c9.upd_new n8;have g8:(c8 H7 w4 (.lst ((p.map V.int).drop at_.toNat))) w4=some (.lst ((p.map V.int).drop at_.toNat)):=c7;have ng8:w4≠g:=k6 P7 n8;have P8:=j5 P7 s8;generalize (c8 H7 w4 (.lst ((p.map V.int).drop at_.toNat)))=H8 at s8 g8 P8 ⊢;refine ⟨w3,w4,_,_,rfl,rfl,s8 _ _ g7,g8,cf2 (q0 (by rw[cc7,ml];show at_.toNat+1+_<=1000;omega)),fun w5 n9=> ?_⟩;have s9:c9 H8 (c8 H8 w5 (.lst ((p.map V.int).take at_.toNat++[y]++(p.map V.int).drop at_.toNat))):=c9.upd_new n9;have g9:(c8 H8 w5 (.lst ((p.map V.int).take at_.toNat++[y]++(p.map V.int).drop at_.toNat))) w5=some (.lst ((p.map V.int).take at_.toNat++[y]++(p.map V.int).drop at_.toNat)):=c7;have ng9:w5≠g:=k6 P8 n9;have P9:=j5 P8 s9;generalize (c8 H8 w5 (.lst ((p.map V.int).take at_.toNat++[y]++(p.map V.int).drop at_.toNat)))=H9 at s9 g9 P9 ⊢;have st:=(s6.trans s7).trans (s8.trans s9);refine q (.ref w5) H9 (P9.mono (by omega)) (kb03.trans ((s4.but g).trans (kb5.trans (st.but g)))) (C2 (B0 g9 ng9 ng9) (fun x hx=> ?_) (by rw[cc7,cc7,ml];simp only[cf4];omega))
     rcases cd2.mp hx with z|z
     · rcases cd2.mp z with z|z
       · exact itL x z
       · rw[cd9.mp z];exact ity.keep (ab3 (l:=g) (st.but g))
     · exact itR0 x z
   refine ⟨_,rfl,rfl,_,rfl,D2 (fun _=> ?_) fun _=> ?_⟩
   · refine ⟨_,rfl,_,rfl,_,rfl,l,_,rfl,j4.of h3,fun w1 n4=> ?_⟩;rw[ag3 a0 (by rw[lm];omega)];have s4:c9 H3 (c8 H3 w1 (.lst ((p.map V.int).take at_.toNat))):=c9.upd_new n4;have g4:(c8 H3 w1 (.lst ((p.map V.int).take at_.toNat))) w1=some (.lst ((p.map V.int).take at_.toNat)):=c7;have ng4:w1≠g:=k6 P3 n4;have P4:=j5 P3 s4;generalize (c8 H3 w1 (.lst ((p.map V.int).take at_.toNat)))=H4 at s4 g4 P4 ⊢;refine ⟨_,rfl,_,rfl,l,_,rfl,.inl (j4.of (s4 _ _ h3)),(show 4<=sizeLine by decide),fun w0 n5=> ?_⟩;obtain ⟨xs,exs⟩:∃xs:List V,xs=[V.int (-1),V.bl true,V.non,V.int (((p.map V.int).length:Nat):Int)]:=⟨_,rfl⟩
     have g5:(c8 H4 w0 (.lst [V.int (-1),V.bl true,V.non,V.int (((p.map V.int).length:Nat):Int)])) w0=some (.lst xs):=by rw[c7,exs]
     have s5:c9 H4 (c8 H4 w0 (.lst [V.int (-1),V.bl true,V.non,V.int (((p.map V.int).length:Nat):Int)])):=c9.upd_new n5;have ng5:w0≠g:=k6 P4 n5;have P5:=j5 P4 s5;generalize (c8 H4 w0 (.lst [V.int (-1),V.bl true,V.non,V.int (((p.map V.int).length:Nat):Int)]))=H5 at s5 g5 P5 ⊢;refine ⟨_,rfl,g,_,4,rfl,P5,by omega,by decide,by decide,fun r H6 c0 c1 P6 kb6=> ?_⟩;obtain ⟨j,rfl⟩:=cf1 c0
     have lx:xs.length=4:=by rw[exs];rfl
     have jl:j < xs.length:=by rw[lx];omega
     refine ⟨w0,_,_,_,rfl,rfl,j4.of (kb6 _ _ g5 ng5),o8 (cc6 jl),(show 1<=sizeLine by decide),fun w2 n7=> ?_⟩
     have ity:∀{M:Hp},J8 K M xs[j]:=by
       intro M
       have:∀x∈xs,J8 K M x:=by
         intro x hx;rw[exs,lm] at hx;simp only[ce0,ch3,or_false] at hx
         rcases hx with rfl|rfl|rfl|rfl
         · exact J1 ⟨by decide,by decide⟩
         · exact ag4 true
         · exact bf5
         · exact J1 ⟨by omega,by omega⟩
       exact this _ (ce7 jl)
     generalize xs[j]=y at ity ⊢;have s7:c9 H6 (c8 H6 w2 (.lst [y])):=c9.upd_new n7;have g7:(c8 H6 w2 (.lst [y])) w2=some (.lst [y]):=c7;have ng7:w2≠g:=k6 P6 n7;have P7:=j5 P6 s7;generalize (c8 H6 w2 (.lst [y]))=H7 at s7 g7 P7 ⊢;refine ⟨w1,w2,_,_,rfl,rfl,s7 _ _ (kb6 _ _ (s5 _ _ g4) ng4),g7,cf2 (q0 (by rw[ml];show at_.toNat+1<=1000;omega)),fun w3 n8=> ?_⟩;have s8:c9 H7 (c8 H7 w3 (.lst ((p.map V.int).take at_.toNat++[y]))):=c9.upd_new n8;have g8:(c8 H7 w3 (.lst ((p.map V.int).take at_.toNat++[y]))) w3=some (.lst ((p.map V.int).take at_.toNat++[y])):=c7;have ng8:w3≠g:=k6 P7 n8;have P8:=j5 P7 s8;generalize (c8 H7 w3 (.lst ((p.map V.int).take at_.toNat++[y])))=H8 at s8 g8 P8 ⊢;have h6:=kb6 _ _ (s5 _ _ (s4 _ _ h3)) lg;refine ⟨_,rfl,_,rfl,_,rfl,l,_,rfl,j4.of (s8 _ _ (s7 _ _ h6)),fun w4 n9=> ?_⟩;rw[Y4 a0 (by rw[lm];omega)];have s9:c9 H8 (c8 H8 w4 (.lst ((p.map V.int).drop at_.toNat))):=c9.upd_new n9;have g9:(c8 H8 w4 (.lst ((p.map V.int).drop at_.toNat))) w4=some (.lst ((p.map V.int).drop at_.toNat)):=c7;have ng9:w4≠g:=k6 P8 n9;have P9:=j5 P8 s9;generalize (c8 H8 w4 (.lst ((p.map V.int).drop at_.toNat)))=H9 at s9 g9 P9 ⊢;refine ⟨w3,w4,_,_,rfl,rfl,s9 _ _ g8,g9,cf2 (q0 (by rw[cc7,ml];show at_.toNat+1+_<=1000;omega)),fun w5 n10=> ?_⟩;have s10:c9 H9 (c8 H9 w5 (.lst ((p.map V.int).take at_.toNat++[y]++(p.map V.int).drop at_.toNat))):=c9.upd_new n10;have g10:(c8 H9 w5 (.lst ((p.map V.int).take at_.toNat++[y]++(p.map V.int).drop at_.toNat))) w5=some (.lst ((p.map V.int).take at_.toNat++[y]++(p.map V.int).drop at_.toNat)):=c7;have ng10:w5≠g:=k6 P9 n10;have P10:=j5 P9 s10;generalize (c8 H9 w5 (.lst ((p.map V.int).take at_.toNat++[y]++(p.map V.int).drop at_.toNat)))=H10 at s10 g10 P10 ⊢;have st:=(s7.trans s8).trans (s9.trans s10);refine q (.ref w5) H10 (P10.mono (by omega)) (kb03.trans (((s4.trans s5).but g).trans (kb6.trans (st.but g)))) (C2 (B0 g10 ng10 ng10) (fun x hx=> ?_) (by rw[cc7,cc7,ml];simp only[cf4];omega))
     rcases cd2.mp hx with z|z
     · rcases cd2.mp z with z|z
       · exact itL x z
       · rw[cd9.mp z];exact ity
     · exact itR0 x z
   refine ⟨_,rfl,_,rfl,_,rfl,l,_,rfl,j4.of h3,fun w1 n4=> ?_⟩;rw[ag3 a0 (by rw[lm];omega)];have s4:c9 H3 (c8 H3 w1 (.lst ((p.map V.int).take at_.toNat))):=c9.upd_new n4;have g4:(c8 H3 w1 (.lst ((p.map V.int).take at_.toNat))) w1=some (.lst ((p.map V.int).take at_.toNat)):=c7;have ng4:w1≠g:=k6 P3 n4;have P4:=j5 P3 s4;generalize (c8 H3 w1 (.lst ((p.map V.int).take at_.toNat)))=H4 at s4 g4 P4 ⊢;refine ⟨_,rfl,_,rfl,_,rfl,g,l,_,p,at_,rfl,P4,by omega,s4 _ _ h3,lg,pb,l40,a0,a1,fun y H5 P5 kb5 ity=> ?_⟩;refine ⟨(show 1<=sizeLine by decide),fun w2 n6=> ?_⟩;have s6:c9 H5 (c8 H5 w2 (.lst [y])):=c9.upd_new n6;have g6:(c8 H5 w2 (.lst [y])) w2=some (.lst [y]):=c7;have ng6:w2≠g:=k6 P5 n6;have P6:=j5 P5 s6;generalize (c8 H5 w2 (.lst [y]))=H6 at s6 g6 P6 ⊢;refine ⟨w1,w2,_,_,rfl,rfl,s6 _ _ (kb5 _ _ g4 ng4),g6,cf2 (q0 (by rw[ml];show at_.toNat+1<=1000;omega)),fun w3 n7=> ?_⟩;have s7:c9 H6 (c8 H6 w3 (.lst ((p.map V.int).take at_.toNat++[y]))):=c9.upd_new n7;have g7:(c8 H6 w3 (.lst ((p.map V.int).take at_.toNat++[y]))) w3=some (.lst ((p.map V.int).take at_.toNat++[y])):=c7;have ng7:w3≠g:=k6 P6 n7;have P7:=j5 P6 s7;generalize (c8 H6 w3 (.lst ((p.map V.int).take at_.toNat++[y])))=H7 at s7 g7 P7 ⊢;have h5:=kb5 _ _ (s4 _ _ h3) lg;refine ⟨_,rfl,_,rfl,_,_,rfl,rfl,_,rfl,l,_,rfl,j4.of (s7 _ _ (s6 _ _ h5)),fun w4 n8=> ?_⟩;rw[show Q2 (p.map V.int) (some (at_+1)) none=(p.map V.int).drop (at_+1).toNat from Y4 (by omega) (by rw[lm];omega)];have s8:c9 H7 (c8 H7 w4 (.lst ((p.map V.int).drop (at_+1).toNat))):=c9.upd_new n8;have g8:(c8 H7 w4 (.lst ((p.map V.int).drop (at_+1).toNat))) w4=some (.lst ((p.map V.int).drop (at_+1).toNat)):=c7;have ng8:w4≠g:=k6 P7 n8;have P8:=j5 P7 s8;generalize (c8 H7 w4 (.lst ((p.map V.int).drop (at_+1).toNat)))=H8 at s8 g8 P8 ⊢;refine ⟨w3,w4,_,_,rfl,rfl,s8 _ _ g7,g8,cf2 (q0 (by rw[cc7,ml];show at_.toNat+1+_<=1000;omega)),fun w5 n9=> ?_⟩;have s9:c9 H8 (c8 H8 w5 (.lst ((p.map V.int).take at_.toNat++[y]++(p.map V.int).drop (at_+1).toNat))):=c9.upd_new n9;have g9:(c8 H8 w5 (.lst ((p.map V.int).take at_.toNat++[y]++(p.map V.int).drop (at_+1).toNat))) w5=some (.lst ((p.map V.int).take at_.toNat++[y]++(p.map V.int).drop (at_+1).toNat)):=c7;have ng9:w5≠g:=k6 P8 n9;have P9:=j5 P8 s9;generalize (c8 H8 w5 (.lst ((p.map V.int).take at_.toNat++[y]++(p.map V.int).drop (at_+1).toNat)))=H9 at s9 g9 P9 ⊢;have st:=(s6.trans s7).trans (s8.trans s9);refine q (.ref w5) H9 (P9.mono (by omega)) (kb03.trans ((s4.but g).trans (kb5.trans (st.but g)))) (C2 (B0 g9 ng9 ng9) (fun x hx=> ?_) (by rw[cc7,cc7,ml];simp only[cf4];omega))
   rcases cd2.mp hx with z|z
   · rcases cd2.mp z with z|z
     · exact itL x z
     · rw[cd9.mp z];exact ity.keep (ab3 (l:=g) (st.but g))
   · exact itR x z
theorem bf7 {ts:List Str}{m:Nat}(h:∀t∈ts,t.length<=m):(ts.map (·.length)).sum<=ts.length*m:=by
 induction ts with
 |nil=>simp
 |cons t ts ih=>
  have:=ih fun x hx=>h x (cc9 _ hx)
  have:=h t cd0;rw[ce5,cm5,cd6,cl7];omega
theorem bj9 {ns:List Int}(l:ns.length<=40)(b:∀x∈ns,0<=x/\x < 40):(enD ns).showable=true/\(enD ns).shown.length<=700000:=by
 unfold enD
 have key:∀(l:List (Int×Nat)),(∀x∈l,0<=x.1/\x.1 < 40/\x.2 < 100)->PyData.showableKv (l.map fun p=>(PyData.int (p.2:Int),PyData.int p.1))=true/\(∀t∈PyData.shownKv (l.map fun p=>(PyData.int (p.2:Int),PyData.int p.1)),t.length<=100)/\(PyData.shownKv (l.map fun p=>(PyData.int (p.2:Int),PyData.int p.1))).length=l.length:=by
   intro l
   induction l with
   |nil=>exact fun _=>⟨by rw[ci2,PyData.showableKv],(fun t ht=>by rw[ci2,PyData.shownKv] at ht;cases ht),by rw[ci2,PyData.shownKv];rfl⟩
   |cons x l ih=>
    intro h
    obtain ⟨i1,i2,i3⟩:=ih fun y hy=>h y (cc9 _ hy)
    have hx:=h x cd0
    have lg:∀z:Int,0<=z->z < 100->z.natAbs.log2 < 7:=fun z z0 z1=>by
      by_cases y:z.natAbs=0
      · rw[y,ck2];omega
      · exact (ck1 y).mpr (by omega)
    have g1:=lg (x.2:Int) (by omega) (by omega);have g2:=lg x.1 (by omega) (by omega);refine ⟨?_,fun t ht=> ?_,?_⟩
    · rw[ce5,PyData.showableKv,PyData.showable,PyData.showable,i1,cm6];rw[ce9];exact ⟨decide_eq_true (by omega),decide_eq_true (by omega)⟩
    · rw[ce5,PyData.shownKv,PyData.shown,PyData.shown] at ht
      rcases ce0.mp ht with z|z
      · rw[z];have e1:=int_text_length_le (k:=7) (by decide) g1;have e2:=int_text_length_le (k:=7) (by decide) g2;rw[strLen_append,strLen_append,ofString_length,ofString_length,ofString_length];have:(": ":String).length=2:=rfl;omega
      · exact i2 t z
    · rw[ce5,PyData.shownKv,cd6,cd6,i3]
 obtain ⟨k1,k2,k3⟩:=key ns.zipIdx fun x hx=>by
   have h1:=List.mem_zipIdx hx
   have h2:x.1∈ns:=by
     obtain ⟨_,h,e⟩:=h1;rw[e];exact ce7 _
   have:=b _ h2;omega
 refine ⟨by rw[PyData.showable];exact k1,?_⟩;rw[PyData.shown];refine cd3 (dictText_len_le _) ?_;have:=bf7 k2;rw[k3,List.length_zipIdx] at*;have:=ck4 100 l;omega
theorem bx7 {H:Hp}{a:Addr}{ns:List Int}(h:H a=some (.lst (ns.map V.int)))(no:ns.length<=40->¬E6 ns):Jd K H (.ref a) false:= .inl ⟨bj4 h no,rfl⟩
theorem bm3 {H:Hp}{v:V}{t:Value}(ty:D5 K H v t)(kt:PySem.W.kitOne K t (.type "list")=some false):Jd K H v false:= .inl ⟨.inl ⟨t,ty,kt⟩,rfl⟩
def al9 (K:PySem.W.Frag):Sp:=fun vs H Q _=>∃(a:Addr) (ns:List Int),vs=[.ref a]/\j4 K H a (ns.map V.int)/\ns.length<=63/\∀H',Q (.bl true) H'
end
end My
namespace My
open PySem L2 Mth
section
variable {P:Program} {w:World} {K:PySem.W.Frag} {mg:Str->Option Value} {base:Heap} {zxx zzz zzy zy zyz zyx zyy zw zx zxz zwz:Addr}
theorem bf8 {H H':Hp}{a:Addr}{p:List Int}(h:D3 H a p)(s:c9 H H'):D3 H' a p:=⟨s _ _ h.1,h.2⟩
def aq4 (q:Addr):Sp:=fun vs H _ E=>∃(a b:Addr) (xs ys:List V),vs=[.ref a,.ref b]/\H a=some (.lst xs)/\H b=some (.lst ys)/\xs.length≠ys.length/\E (.ref q) none H
theorem as6:o7 ["p","q"] ["p","q"] (j8 M5):=bl9
theorem aq5 {f:Addr}{fd:FuncData}(F:B6 K "must_fit" "must_fit" M5 f fd)(B:Bl mg)(zoy:T3 K mg "NoFit" zzy):o4 P w K mg base (Q9 P w) 1 f fd ["p","q"] (aq4 zzy):=by
 refine F.okx as6 (fun vs H Q E h=> ?_) (fun cdv A outer s H vs Q E hr h=> ?_)
 · obtain ⟨a,b,xs,ys,rfl,ha,hb,ne,q⟩:=h;rfl
 · obtain ⟨a,b,xs,ys,rfl,ha,hb,ne,q⟩:=h;refine ⟨_,@i9 _ _ _ (@A3 _ _ _ _ _ _ _ _ (@o5 _ _ _ _ _ _ _ _ W6 (@w9 _ _ _ _ _ B.len (@c5 _ _ _ _ _ (pv 0) (@c6 _) (by rfl)) (by rfl) (by rfl)) (@w9 _ _ _ _ _ B.len (@c5 _ _ _ _ _ (pv 1) (@c6 _) (by rfl)) (by rfl) (by rfl)) (q9 _)) (@i9 _ _ _ (@ao1 _ _ _ _ _ _ _ _ _ aj5 rfl zoy (@K1 _ _ _ _) (by rfl) (by rfl) (by decide))) (@w6 _)),?_⟩;refine ⟨_,rfl,a,xs,rfl,.inl (j4.of ha),_,rfl,b,ys,rfl,.inl (j4.of hb),rfl,_,rfl,?_⟩;rw[decide_eq_false fun z=>ne (by have:=V.int.inj z;omega)];exact B9 q
def aq6 (K:PySem.W.Frag)(qt qf:Addr):Sp:=fun vs H _ E=>∃v u,vs=[v,u]/\((D8 K H v/\∀H',c9 H H'->E (.ref qt) none H')\/
 (∃a p,v= .ref a/\D3 H a p/\((D8 K H u/\∀H',c9 H H'->E (.ref qt) none H')\/∃b q,u= .ref b/\D3 H b q/\p.length≠q.length/\∀H',c9 H H'->E (.ref qf) none H')))
theorem al4:o7 ["p","q"] ["p","q"] (j8 J0):=ap4
theorem ai2 {f:Addr}{fd:FuncData}(F:B6 K "put_behind" "put_behind" J0 f fd)(zwy:K0 P w K mg base "must_be_turn" 3 ["thing"] (fun vs H Q E=>T9 vs H Q E\/(N8 K zzz) vs H Q E))(zux:K0 P w K mg base "must_fit" 1 ["p","q"] (fun vs H Q E=>(af6 K) vs H Q E\/(aq4 zzy) vs H Q E)):o4 P w K mg base (Q9 P w) 4 f fd ["p","q"] (aq6 K zzz zzy):=by
 refine F.okx al4 (fun vs H Q E h=> ?_) (fun cdv A outer s H vs Q E hr h=> ?_)
 · obtain ⟨v,u,rfl,h⟩:=h;rfl
 · obtain ⟨v,u,rfl,h⟩:=h;have zvy:y7 3 _:=hr.mono (by decide);have zlx:y7 1 _:=hr.mono (by decide);refine ⟨_,@i5 _ _ _ _ _ (@C1 _ _ _ _ (@W0 _ _ _ _ _ _ _ _ _ _ _ zwy zvy (@O7 _ _ _ _ _ _ _ _ _ _ _ _ _ _ _ _ fun _ _ _ h=>h) (@c5 _ _ _ _ _ (pv 0) (@c6 _) (by rfl)) (by rfl) (by decide) (by rfl) (by rfl)) (by rfl)) (@i5 _ _ _ _ _ (@C1 _ _ _ _ (@W0 _ _ _ _ _ _ _ _ _ _ _ zwy zvy (@O7 _ _ _ _ _ _ _ _ _ _ _ _ _ _ _ _ fun _ _ _ h=>h) (@c5 _ _ _ _ _ (pv 1) (@c6 _) (by rfl)) (by rfl) (by decide) (by rfl) (by rfl)) (by rfl)) (@i5 _ _ _ _ _ (@C1 _ _ _ _ (@W0 _ _ _ _ _ _ _ _ _ _ _ zux zlx (@O7 _ _ _ _ _ _ _ _ _ _ _ _ _ _ _ _ fun _ _ _ h=>h) (@c5 _ _ _ _ _ (pv 0) (@c5 _ _ _ _ _ (pv 1) (@c6 _) (by rfl)) (by rfl)) (by rfl) (by decide) (by rfl) (by rfl)) (by rfl)) (@ai3 _ _))),?_⟩
   rcases h with ⟨no,k⟩|⟨a,p,rfl,tp,h⟩
   · exact ⟨_,rfl,.inr ⟨v,rfl,no,k⟩⟩
   · refine ⟨_,rfl,.inl ⟨a,p,rfl,tp,fun H1 s1=> ?_⟩⟩
     rcases h with ⟨no,k⟩|⟨b,q,rfl,tq,ne,k⟩
     · exact ⟨_,rfl,.inr ⟨u,rfl,no.keep s1,fun H2 s2=>k H2 (s1.trans s2)⟩⟩
     · refine ⟨_,rfl,.inl ⟨b,q,rfl,bf8 tq s1,fun H2 s2=> ?_⟩⟩;have s12:=s1.trans s2;exact ⟨_,rfl,_,rfl,.inr ⟨a,b,_,_,rfl,s12 _ _ tp.1,s12 _ _ tq.1,by simpa using ne,k H2 s12⟩⟩
def ag5 (K:PySem.W.Frag)(q:Addr):Sp:=fun vs H _ E=>∃(v:V) (n:Int),vs=[v,.int n]/\D8 K H v/\∀H',c9 H H'->E (.ref q) none H'
theorem as7:o7 ["p","k","told","ring"] ["p","k"] (j8 M7):=ab2
theorem aq7 {f:Addr}{fd:FuncData}(F:B6 K "power_of" "power_of" M7 f fd)(zwy:K0 P w K mg base "must_be_turn" 3 ["thing"] (fun vs H Q E=>T9 vs H Q E\/(N8 K zzz) vs H Q E)):o4 P w K mg base (Q9 P w) 4 f fd ["p","k"] (ag5 K zzz):=by
 refine F.okx as7 (fun vs H Q E h=> ?_) (fun cdv A outer s H vs Q E hr h=> ?_)
 · obtain ⟨v,n,rfl,no,k⟩:=h;rfl
 · obtain ⟨v,n,rfl,no,k⟩:=h;have zvy:y7 3 _:=hr.mono (by decide);refine ⟨_,@i5 _ _ _ _ _ (@C1 _ _ _ _ (@W0 _ _ _ _ _ _ _ _ _ _ _ zwy zvy (@O7 _ _ _ _ _ _ _ _ _ _ _ _ _ _ _ _ fun _ _ _ h=>h) (@c5 _ _ _ _ _ (pv 0) (@c6 _) (by rfl)) (by rfl) (by decide) (by rfl) (by rfl)) (by rfl)) (@ai3 _ _),?_⟩;exact ⟨_,rfl,.inr ⟨v,rfl,no,k⟩⟩
theorem as8:o7 ["p"] ["p"] (j8 M6):=be7
theorem aq8 {f:Addr}{fd:FuncData}(F:B6 K "way_back" "way_back" M6 f fd)(zvx:K0 P w K mg base "power_of" 4 ["p","k"] (fun vs H Q E=>S2 vs H Q E\/(ag5 K zzz) vs H Q E)):o4 P w K mg base (Q9 P w) 5 f fd ["p"] (N8 K zzz):=by
 refine F.okx as8 (fun vs H Q E h=> ?_) (fun cdv A outer s H vs Q E hr h=> ?_)
 · obtain ⟨v,rfl,no,k⟩:=h;rfl
 · obtain ⟨v,rfl,no,k⟩:=h;have zsx:y7 4 _:=hr.mono (by decide);refine ⟨_,@i9 _ _ _ (@l7 _ _ _ _ (@W0 _ _ _ _ _ _ _ _ _ _ _ zvx zsx (@O7 _ _ _ _ _ _ _ _ _ _ _ _ _ _ _ _ fun _ _ _ h=>h) (@c5 _ _ _ _ _ (pv 0) (@c5 _ _ _ _ _ (@R1 _ _ _ _ _ _ L7 (@i4 _ _ _ _)) (@c6 _) (by rfl)) (by rfl)) (by rfl) (by decide) (by rfl) (by rfl))),?_⟩;exact ⟨_,rfl,_,rfl,.inr ⟨v,_,rfl,no,k⟩⟩
end
end My
namespace L2
open PySem PySem.Spec PyProof.Rows
section
variable {X:Cx} {p pos:Pos} {e:Expr} {t:TA}
def ShP (H:Hp)(v:V)(d:PyData):Prop:=Da H v d\/∃a ns,v= .ref a/\H a=some (.dK (Q6 (ns.map V.int)))/\d=enD ns
theorem ShP.rd {pins:List (Addr×Obj)}{σ:St}{H:Hp}{s:Shared}(I:i8 X pins σ H s){v:V}{d:PyData}{u:Value}(h:ShP H v d)(r:o9 v u):I0 s.heap u d:=by
 rcases h with h|⟨a,ns,rfl,ha,rfl⟩
 · exact h.rd I r
 · cases r;exact bx6 I ha
theorem ShP.keep {H H':Hp}{v:V}{d:PyData}(h:ShP H v d)(s:c9 H H'):ShP H' v d:=by
 rcases h with h|⟨a,ns,e,ha,r⟩
 · exact .inl (h.keep s)
 · exact .inr ⟨a,ns,e,s _ _ ha,r⟩
def bf9:List V->Hp->VK->Prop:=fun xs H Q=>∃(l:Addr) (x y:V) (d c:PyData),xs=[.ref l]/\H l=some (.lst [x,y])/\ShP H x d/\ShP H y c/\(PyData.list [d,c]).showable=true/\(PyData.list [d,c]).shown.length<=sizeLine/\(PyData.list [d,c]).depth<=12/\Q (.str (PyData.list [d,c]).shown) H
theorem ay7 (hu:X.A.units+16 < cLine)(hg:X.A.guards=some []):E4 X (.builtin "repr") bf9:=by
 intro pins s σ H xs us Q I r h;obtain ⟨l,x,y,d,c,rfl,hl,hx,hy,sh,le,dp,q⟩:=h;obtain ⟨u,rfl,ru⟩:=L8 r;cases ru;obtain ⟨z,its,n,rv,hl',ho⟩:=I.lstM hl
 have rd:I0 s.heap (.ref l) (.list [d,c]):= .lst ho rfl rfl (by
   obtain ⟨u1,u2,e,r1,r2⟩:=aa8 rv;subst e
   exact .cons (hx.rd I r1) (.cons (hy.rd I r2) .nil))
 obtain ⟨T,idr,S⟩:=rd.by_ (prog:=X.prog) (w:=X.w) sh le;exact call_repr_slot (by omega) (S.typeIs s fun _ _ y=>y) S.slotRepr (S.call X.A.in1 _ s _ hg (by show X.A.units+1+(PyData.list [d,c]).depth < cLine;omega) (fun _ _ y=>y) fun h' u tk hk=>⟨_,_,rfl,.str _,H,I.kept (t':=tk) hk,⟨_,rfl⟩,q⟩)
theorem aq9 (hu:X.A.units+16 < cLine)(hg0:X.A.guards=some [])(hm:X.mg "repr"=none)(ha:PA X [e] t)(hg:Gl X "repr":=by rfl)(he:starEach [e] X.env=(false,eval e X.env)::starEach [] X.env:=by rfl):
 PE X (.Call (.Name "repr" p) [e] [] pos) (Q8 bf9 t):=G7 (ay7 hu hg0) hg hm ax3 ha (by decide) (by decide) he rfl
end
end L2
namespace My
open PySem L2 Mth
section
variable {P:Program} {w:World} {K:PySem.W.Frag} {mg:Str->Option Value} {base:Heap} {zxx zzz zzy zy zyz zyx zyy zw zx zxz zwz:Addr}
theorem bk0 (K:PySem.W.Frag)(H:Hp)(n:Nat)(xs:List V)(h:xs.all L9=true)(h2:∀x∈xs,S7 x x=true):LEq K H n xs xs true:=by
 refine .inr ⟨fun _=>true,rfl,fun j x y e1 e2=> ?_,by rw[eq_comm,Y6];exact fun _ _=>rfl⟩;rw[e1] at e2;cases e2;have m:=cd7 e1;rw[<-h2 x m];exact .flat (cg8.mp h x m) (cg8.mp h x m)
def Q1 (K:PySem.W.Frag)(M:Hp)(v:V):Prop:=(∃b,Jd K M v b)/\∃d,ShP M v d/\d.showable=true/\d.shown.length<=700000/\d.depth<=8
theorem Q1.keep {M M':Hp}{v:V}(h:Q1 K M v)(s:c9 M M'):Q1 K M' v:=by
 obtain ⟨⟨b,j⟩,d,sh,r⟩:=h;exact ⟨⟨b,j.keep s⟩,d,sh.keep s,r⟩
theorem U6 {M:Hp}{v:V}(h:ThV K M v):Q1 K M v:=by
 refine ⟨h.jd,?_⟩
 rcases h.sh with ⟨d,da,sh,le,dp⟩|⟨a,ns,rfl,ha,l,b⟩
 · exact ⟨d,.inl da,sh,le,by omega⟩
 · obtain ⟨e1,e2⟩:=bj9 l b;exact ⟨enD ns,.inr ⟨a,ns,rfl,ha,rfl⟩,e1,e2,bf2 ns⟩
theorem av0 {M:Hp}:J8 K M (.str (Str.ofString "")):=aq2 (Y5 "") (by decide)
theorem bq7 {M:Hp}{a:Addr}(h:M a=some (.tup [])):Q1 K M (.ref a):=
 ⟨⟨false,bm3 (.tup h) (J6 K)⟩,.tuple [],.inl (.tup h .nil),by rw[PyData.showable,PyData.showableAll],by decide+kernel,by rw[PyData.depth,PyData.depthAll];decide⟩
theorem bk1 {M:Hp}{a:Addr}(h:M a=some (.tup [V.int 0])):Q1 K M (.ref a):=by
 obtain ⟨ds,h1,h2,h3,h4,h5,h6⟩:=U5 (M:=M) (ns:=[0]) (by decide);refine ⟨⟨false,bm3 (.tup h) (J6 K)⟩,.tuple ds,.inl (.tup h h1),by rw[PyData.showable];exact h2,?_,by rw[PyData.depth];omega⟩;rw[PyData.shown];refine cd3 (M9 (m:=8) fun t ht=>(h3 t ht).1) ?_;rw[h4];simp only[cf4];omega
theorem ar0 {M:Hp}:∀{ns:List Int},(∀x∈ns,0<=x/\x < 4096)->∃ds,M4 M (ns.map V.int) ds/\PyData.showableAll ds=true/\(∀t∈PyData.shownAll ds,t.length<=13)/\(PyData.shownAll ds).length=ns.length/\PyData.depthAll ds<=1
 |[],_=>⟨[],.nil,by rw[PyData.showableAll],(fun t h=>by rw[PyData.shownAll] at h;cases h),by rw[PyData.shownAll];rfl,by rw[PyData.depthAll];omega⟩
 |x::xs,h=>by
  obtain ⟨ds,h1,h2,h3,h4,h5⟩:=ar0 (M:=M) fun y hy=>h y (cc9 _ hy)
  have hx:=h x cd0
  have lg:x.natAbs.log2 < 12:=by
    by_cases z:x.natAbs=0
    · rw[z,ck2];omega
    · exact (ck1 z).mpr (by omega)
  refine ⟨.int x::ds,.cons (.int x) h1,?_,fun t ht=> ?_,by rw[PyData.shownAll,cd6,cd6,h4],by rw[PyData.depthAll,PyData.depth];omega⟩
  · rw[PyData.showableAll,PyData.showable,h2,cm6];exact decide_eq_true (by omega)
  · rw[PyData.shownAll,PyData.shown] at ht
    rcases ce0.mp ht with z|z
    · rw[z,ofString_length];exact int_text_length_le (k:=12) (by decide) lg
    · exact h3 t z
theorem ar1 {M:Hp}{a:Addr}{n:Nat}(h:M a=some (.lst ((C4 0 n).map V.int)))(lo:40 < (C4 0 n).length)(hi:(C4 0 n).length < 4096):Q1 K M (.ref a):=by
 rw[A2] at lo hi
 obtain ⟨ds,h1,h2,h3,h4,h5⟩:=ar0 (M:=M) (ns:=C4 0 n) fun x hx=>by have:=ac9.mp hx;omega
 refine ⟨⟨false,bx7 h fun l=>by rw[A2] at l;omega⟩,.list ds,.inl (.lst h h1),by rw[PyData.showable];exact h2,?_,by rw[PyData.depth];omega⟩;rw[PyData.shown];refine cd3 (O2 (m:=13) h3) ?_;rw[h4,A2];omega
theorem bg0 {d c:PyData}(sx:d.showable=true)(sy:c.showable=true)(lx:d.shown.length<=700000)(ly:c.shown.length<=700000)(dx:d.depth<=8)(dy:c.depth<=8):(PyData.list [d,c]).showable=true/\(PyData.list [d,c]).shown.length<=sizeLine/\(PyData.list [d,c]).depth<=12:=by
 refine ⟨by simp only[PyData.showable,PyData.showableAll];rw[sx,sy];rfl,?_,by simp only[PyData.depth,PyData.depthAll];omega⟩;rw[PyData.shown];simp only[PyData.shownAll];refine cd3 (O2 (m:=700000) fun t ht=> ?_) ?_
 · simp only[ce0,ch3,or_false] at ht
   rcases ht with rfl|rfl
   · exact lx
   · exact ly
 · rw[sizeLine_eq];simp only[cd6,cm0];omega
end
end My
namespace My
open PySem L2 Mth
section
variable {P:Program} {w:World} {K:PySem.W.Frag} {mg:Str->Option Value} {base:Heap} {zxx zzz zzy zy zyz zyx zyy zw zx zxz zwz:Addr}
def ay8 (qt qf:Addr):Sp:=fun vs H Q _=>∃(e C:Addr) (due:Int),vs=[.ref e,.int due]/\H e=some (U9 e C)/\((C=qt/\due=0)\/(C=qf/\due=1))/\∀H':Hp,c9 H H'->Q (.bl true) H'
theorem aa4:o7 ["caught","due","kinds"] ["caught","due"] (j8 ad3):=by rfl'
theorem ag6:(["k","due"]:List Str).Nodup:=by decide+kernel
theorem bg1 {f:Addr}{fd:FuncData}(F:B6 K "_law_is" "_law_is" ad3 f fd)(B:Bl mg)(ER:Z9 K mg zxx [("NoTurn",zzz),("NoFit",zzy),("NoRounds",zy),("NoNumber",zyz),("NoRoot",zyx),("TooMany",zyy),("NoKind",zw),("NoText",zx),("NoName",zxz),("NoRow",zwz)]):o4 P w K mg base C6 1 f fd ["caught","due"] (ay8 zzz zzy):=by
 refine F.ok aa4 (fun vs H Q E h=> ?_) (fun cdv A outer s H vs Q E hr h=> ?_)
 · obtain ⟨e,C,due,rfl,he,hd,q⟩:=h;rfl
 · obtain ⟨e,C,due,rfl,he,hd,q⟩:=h;have hu:=U4 hr;refine ⟨_,@i5 _ _ _ _ _ (@j9 _ _ (2) _ _ _ _ aa4.nd rfl (Or.inl rfl) (@o0 _ _ _ _ (@c5 _ _ _ _ _ (@N4 _ _ _ _ _ _ B.isi (@c5 _ _ _ _ _ (pv 0) (@c5 _ _ _ _ _ (@D6 _ _ (.ref zzz) _ _ (by rfl) (ER.err ("NoTurn",zzz) (by simp)).mg rfl (by decide)) (@c6 _) (by rfl)) (by rfl)) (by rfl) (by rfl) (by rfl)) (@c5 _ _ _ _ _ (@N4 _ _ _ _ _ _ B.isi (@c5 _ _ _ _ _ (pv 0) (@c5 _ _ _ _ _ (@D6 _ _ (.ref zzy) _ _ (by rfl) (ER.err ("NoFit",zzy) (by simp)).mg rfl (by decide)) (@c6 _) (by rfl)) (by rfl)) (by rfl) (by rfl) (by rfl)) (@c5 _ _ _ _ _ (@N4 _ _ _ _ _ _ B.isi (@c5 _ _ _ _ _ (pv 0) (@c5 _ _ _ _ _ (@D6 _ _ (.ref zy) _ _ (by rfl) (ER.err ("NoRounds",zy) (by simp)).mg rfl (by decide)) (@c6 _) (by rfl)) (by rfl)) (by rfl) (by rfl) (by rfl)) (@c6 _) (by rfl)) (by rfl)) (by rfl))) (by rfl) (by trivial)) (@i5 _ _ _ _ _ (@j9 _ _ (2) _ _ _ _ aa4.nd rfl (Or.inl rfl) (@j7 _ _ _ _ _ _ _ _ D1 (pv 2) (@o0 _ _ _ _ (@c5 _ _ _ _ _ (@N4 _ _ _ _ _ _ B.isi (@c5 _ _ _ _ _ (pv 0) (@c5 _ _ _ _ _ (@D6 _ _ (.ref zyz) _ _ (by rfl) (ER.err ("NoNumber",zyz) (by simp)).mg rfl (by decide)) (@c6 _) (by rfl)) (by rfl)) (by rfl) (by rfl) (by rfl)) (@c5 _ _ _ _ _ (@N4 _ _ _ _ _ _ B.isi (@c5 _ _ _ _ _ (pv 0) (@c5 _ _ _ _ _ (@D6 _ _ (.ref zyy) _ _ (by rfl) (ER.err ("TooMany",zyy) (by simp)).mg rfl (by decide)) (@c6 _) (by rfl)) (by rfl)) (by rfl) (by rfl) (by rfl)) (@c5 _ _ _ _ _ (@N4 _ _ _ _ _ _ B.isi (@c5 _ _ _ _ _ (pv 0) (@c5 _ _ _ _ _ (@D6 _ _ (.ref zw) _ _ (by rfl) (ER.err ("NoKind",zw) (by simp)).mg rfl (by decide)) (@c6 _) (by rfl)) (by rfl)) (by rfl) (by rfl) (by rfl)) (@c6 _) (by rfl)) (by rfl)) (by rfl)))) (by rfl) (by trivial)) (@i5 _ _ _ _ _ (@A3 _ _ _ _ _ _ _ _ (@C9 _ _ _ _ _ _ _ (@C3 _ _ _ _ (@C0 _ _ _ (@N4 _ _ _ _ _ _ B.isi (@c5 _ _ _ _ _ (pv 0) (@c5 _ _ _ _ _ (@bo6 _ _ B.ve (by rfl)) (@c6 _) (by rfl)) (by rfl)) (by rfl) (by rfl) (by rfl)) (by intro _;rfl))) (@G1 _ _ _ _ (@o5 _ _ _ _ _ _ _ _ (bc2 0 hu) (pv 2) (@V9 _ _ _ _ _ _ _ _ _ _ _ (["k","due"]) (1) ([1]) rfl .of (@K8 _ _ _ _ _ _ (by rfl) B.range (@c5 _ _ _ _ _ (@i4 _ _ _ _) (@c6 _) (by rfl)) (by rfl)) (fun _ _ _ _ _=>@A5 _ _ (0) _ ag6 rfl (Or.inl rfl) (by trivial)) (fun _ _ _ _ _=>(@X0 _)) (fun _ _ _ _ _=>(@ag7 _ _ _ _ _ _ _ _ K3 (pv 0) (pv 1) (q9 _))) (by intro _;rfl)) (q9 _)))).pt (@i9 _ _ _ (@l7 _ _ _ _ (@B4 _ _ _ _))) (@w6 _)) (@i9 _ _ _ (@l7 _ _ _ _ (@az6 _ _ _ _ (bp0 B.isi (@c5 _ _ _ _ _ (pv 0) (@c5 _ _ _ _ _ (@Y9 _ _ _ _ _ (@c5 _ _ _ _ _ (@D6 _ _ (.ref zyx) _ _ (by rfl) (ER.err ("NoRoot",zyx) (by simp)).mg rfl (by decide)) (@c5 _ _ _ _ _ (@D6 _ _ (.ref zx) _ _ (by rfl) (ER.err ("NoText",zx) (by simp)).mg rfl (by decide)) (@c5 _ _ _ _ _ (@D6 _ _ (.ref zxz) _ _ (by rfl) (ER.err ("NoName",zxz) (by simp)).mg rfl (by decide)) (@c5 _ _ _ _ _ (@D6 _ _ (.ref zwz) _ _ (by rfl) (ER.err ("NoRow",zwz) (by simp)).mg rfl (by decide)) (@c6 _) (by rfl)) (by rfl)) (by rfl)) (by rfl))) (@c6 _) (by rfl)) (by rfl)))))))),?_⟩
   obtain ⟨nm,hn,hb,hz⟩:∃nm:Str,(nm,C)∈[(("NoTurn":Str),zzz),("NoFit",zzy),("NoRounds",zy),("NoNumber",zyz),("NoRoot",zyx),("TooMany",zyy),("NoKind",zw),("NoText",zx),("NoName",zxz),("NoRow",zwz)]/\((cg1 6).map fun (i:Nat)=>V.bl (decide (V.int ((0:Int)+(i:Int))=V.int due)))=[V.bl (decide (nm="NoTurn")),V.bl (decide (nm="NoFit")),V.bl (decide (nm="NoRounds")),V.bl (decide (nm="NoNumber")),V.bl (decide (nm="TooMany")),V.bl (decide (nm="NoKind"))]/\decide (nm="NoRoot")=false/\decide (nm="NoText")=false/\decide (nm="NoName")=false/\decide (nm="NoRow")=false:=by
     rcases hd with ⟨rfl,rfl⟩|⟨rfl,rfl⟩
     · exact ⟨"NoTurn",by simp,by decide+kernel,by decide+kernel⟩
     · exact ⟨"NoFit",by simp,by decide+kernel,by decide+kernel⟩
   have IC:=ER.inst (nm,C) hn;have pr:=ER.pair (nm,C) hn;have p0:=pr ("NoTurn",zzz) (by simp);have p1:=pr ("NoFit",zzy) (by simp);have p2:=pr ("NoRounds",zy) (by simp);have p3:=pr ("NoNumber",zyz) (by simp);have p4:=pr ("TooMany",zyy) (by simp);have p5:=pr ("NoKind",zw) (by simp);have p6:=pr ("NoRoot",zyx) (by simp);have p7:=pr ("NoText",zx) (by simp);have p8:=pr ("NoName",zxz) (by simp);have p9:=pr ("NoRow",zwz) (by simp)
   dsimp only at p0 p1 p2 p3 p4 p5 p6 p7 p8 p9
   rw[hz.1] at p6;rw[hz.2.1] at p7;rw[hz.2.2.1] at p8;rw[hz.2.2.2] at p9;generalize decide (nm="NoTurn")=b0 at p0 hb;generalize decide (nm="NoFit")=b1 at p1 hb;generalize decide (nm="NoRounds")=b2 at p2 hb;generalize decide (nm="NoNumber")=b3 at p3 hb;generalize decide (nm="TooMany")=b4 at p4 hb;generalize decide (nm="NoKind")=b5 at p5 hb;refine ⟨_,rfl,e,C,_,_,_,rfl,.inl ⟨_,rfl,rfl⟩,he,IC,p0,_,rfl,e,C,_,_,_,rfl,.inl ⟨_,rfl,rfl⟩,he,IC,p1,_,rfl,e,C,_,_,_,rfl,.inl ⟨_,rfl,rfl⟩,he,IC,p2,(show 3<=sizeLine by decide),fun l1 h1=> ?_⟩;have s1:c9 H (c8 H l1 (.lst [V.bl b0,V.bl b1,V.bl b2])):=c9.upd_new h1;have g1:(c8 H l1 (.lst [V.bl b0,V.bl b1,V.bl b2])) l1=some (.lst [V.bl b0,V.bl b1,V.bl b2]):=c7;generalize (c8 H l1 (.lst [V.bl b0,V.bl b1,V.bl b2]))=H1 at s1 g1 ⊢;have e1:=s1 _ _ he;refine ⟨_,rfl,_,rfl,e,C,_,_,_,rfl,.inl ⟨_,rfl,rfl⟩,e1,IC,p3,_,rfl,e,C,_,_,_,rfl,.inl ⟨_,rfl,rfl⟩,e1,IC,p4,_,rfl,e,C,_,_,_,rfl,.inl ⟨_,rfl,rfl⟩,e1,IC,p5,(show 3<=sizeLine by decide),fun l2 h2=> ?_⟩;have s2:c9 H1 (c8 H1 l2 (.lst [V.bl b3,V.bl b4,V.bl b5])):=c9.upd_new h2;have g2:(c8 H1 l2 (.lst [V.bl b3,V.bl b4,V.bl b5])) l2=some (.lst [V.bl b3,V.bl b4,V.bl b5]):=c7;generalize (c8 H1 l2 (.lst [V.bl b3,V.bl b4,V.bl b5]))=H2 at s2 g2 ⊢;refine ⟨l1,l2,_,_,rfl,rfl,s2 _ _ g1,g2,(show 6<=sizeLine by decide),fun l3 h3=> ?_⟩;have s3:c9 H2 (c8 H2 l3 (.lst ([V.bl b0,V.bl b1,V.bl b2]++[V.bl b3,V.bl b4,V.bl b5]))):=c9.upd_new h3;have g3:(c8 H2 l3 (.lst ([V.bl b0,V.bl b1,V.bl b2]++[V.bl b3,V.bl b4,V.bl b5]))) l3=some (.lst [V.bl b0,V.bl b1,V.bl b2,V.bl b3,V.bl b4,V.bl b5]):=c7;generalize (c8 H2 l3 (.lst ([V.bl b0,V.bl b1,V.bl b2]++[V.bl b3,V.bl b4,V.bl b5])))=H3 at s3 g3 ⊢;have e3:=s3 _ _ (s2 _ _ e1);refine ⟨_,rfl,e,C,_,_,_,rfl,.inr ⟨_,rfl,rfl⟩,e3,IC,ER.ve (nm,C) hn,_,rfl,A4 ?_⟩;refine ⟨_,rfl,6,rfl,by decide,by decide,ae9 (lo:=0) (n:=6) (fun j ys σ H4=>∃v:Option V,σ=[v,some (.int due)]/\H4=H3/\ys=(cg1 j).map fun (i:Nat)=>V.bl (decide (V.int ((0:Int)+(i:Int))=V.int due))) ⟨none,rfl,rfl,rfl⟩ ?_ ?_⟩
   · rintro j ys σ H4 hj ⟨v,rfl,rfl,rfl⟩;refine ⟨_,rfl,_,rfl,rfl,q0 (by rw[cc4,cj1];omega),_,rfl,rfl,?_⟩;rw[cm1,ce6];rfl
   · rintro ys σ H4 ⟨v,rfl,rfl,rfl⟩ D hD;rw[hb];have s5:c9 H4 (c8 H4 D (.lst [V.bl b0,V.bl b1,V.bl b2,V.bl b3,V.bl b4,V.bl b5])):=c9.upd_new hD;have g5:(c8 H4 D (.lst [V.bl b0,V.bl b1,V.bl b2,V.bl b3,V.bl b4,V.bl b5])) D=some (.lst [V.bl b0,V.bl b1,V.bl b2,V.bl b3,V.bl b4,V.bl b5]):=c7;generalize (c8 H4 D (.lst [V.bl b0,V.bl b1,V.bl b2,V.bl b3,V.bl b4,V.bl b5]))=H5 at s5 g5 ⊢;have e5:=s5 _ _ e3;refine ⟨l3,D,_,_,_,rfl,rfl,j4.of (s5 _ _ g3),j4.of g5,bk0 K _ 0 _ (by rfl) (fun x hx=>by simp only[ce0,ch3,or_false] at hx;rcases hx with rfl|rfl|rfl|rfl|rfl|rfl<;>exact decide_eq_true rfl),?_⟩;refine ⟨_,rfl,A4 ⟨_,rfl,(show 4<=sizeLine by decide),fun tp htp=>⟨e,C,tp,[zyx,zx,zxz,zwz],false,rfl,c9.upd_new htp _ _ e5,c7,IC,?_,?_⟩⟩⟩
     · show PySem.W.kitAny K (.ref C) [.ref zyx,.ref zx,.ref zxz,.ref zwz]=some false;simp only[PySem.W.kitAny,p6,p7,p8,p9]
     · exact ⟨false,rfl,q _ (s1.trans (s2.trans (s3.trans (s5.trans (c9.upd_new htp)))))⟩
def ad8 (K:PySem.W.Frag)(qt qf:Addr):Sp:=fun vs H Q _=>∃(way n:Int) (v u:V),vs=[.int way,v,u,.int n]/\0<=way/\way<=2/\
 ((D8 K H v/\∀(e:Addr) (H':Hp),c9 H H'->H' e=some (U9 e qt)->Q (.ref e) H')\/
  ∃a p,v= .ref a/\D3 H a p/\((way=0/\D8 K H u/\∀(e:Addr) (H':Hp),c9 H H'->H' e=some (U9 e qt)->Q (.ref e) H')\/
   (way=0/\∃b q,u= .ref b/\D3 H b q/\((p.length≠q.length/\∀(e:Addr) (H':Hp),c9 H H'->H' e=some (U9 e qf)->Q (.ref e) H')\/(p.length=q.length/\∀H':Hp,c9 H H'->Q .non H')))\/
   (way≠0/\∀H':Hp,c9 H H'->Q .non H')))
theorem K5:o7 ["way","p","q","number","caught","e"] ["way","p","q","number"] (j8 T8):=by rfl'
theorem al5 {f:Addr}{fd:FuncData}(F:B6 K "_law_caught" "_law_caught" T8 f fd)(zrx:K0 P w K mg base "put_behind" 4 ["p","q"] (fun vs H Q E=>Y1 vs H Q E\/(aq6 K zzz zzy) vs H Q E))(zo:K0 P w K mg base "way_back" 5 ["p"] (fun vs H Q E=>af7 vs H Q E\/(N8 K zzz) vs H Q E))(zvx:K0 P w K mg base "power_of" 4 ["p","k"] (fun vs H Q E=>S2 vs H Q E\/(ag5 K zzz) vs H Q E))(ER:Z9 K mg zxx [("NoTurn",zzz),("NoFit",zzy),("NoRounds",zy),("NoNumber",zyz),("NoRoot",zyx),("TooMany",zyy),("NoKind",zw),("NoText",zx),("NoName",zxz),("NoRow",zwz)]):o4 P w K mg base C6 6 f fd ["way","p","q","number"] (ad8 K zzz zzy):=by
 refine F.ok K5 (fun vs H Q E h=> ?_) (fun cdv A outer s H vs Q E hr h=> ?_)
 · obtain ⟨way,n,v,u,rfl,w0,w2,h⟩:=h;rfl
 · obtain ⟨way,n,v,u,rfl,w0,w2,h⟩:=h;have znx:y7 4 _:=hr.mono (by decide);have zk:y7 5 _:=hr.mono (by decide);have zsx:y7 4 _:=hr.mono (by decide);refine ⟨_,@i5 _ _ _ _ _ (@j9 _ _ (4) _ _ _ _ K5.nd rfl (Or.inl rfl) (@S4 _ _ _) (by rfl) (by trivial)) (@i5 _ _ _ _ _ (@bt9 _ _ _ _ _ (5) _ _ _ _ _ _ _ (@bl5 _ _ _ _ _ _ _ _ (@o5 _ _ _ _ _ _ _ _ K3 (pv 0) (@i4 _ _ _ _) (q9 _)) (@ah1 _ _ _ _ _ _ _ _ _ _ _ zrx znx (@c5 _ _ _ _ _ (pv 1) (@c5 _ _ _ _ _ (pv 2) (@c6 _) (by rfl)) (by rfl)) (by rfl) (by decide) (by rfl) (by rfl) (by rfl)) (@bl5 _ _ _ _ _ _ _ _ (@o5 _ _ _ _ _ _ _ _ K3 (pv 0) (@i4 _ _ _ _) (q9 _)) (@ah1 _ _ _ _ _ _ _ _ _ _ _ zo zk (@c5 _ _ _ _ _ (pv 1) (@c6 _) (by rfl)) (by rfl) (by decide) (by rfl) (by rfl) (by rfl)) (@ah1 _ _ _ _ _ _ _ _ _ _ _ zvx zsx (@c5 _ _ _ _ _ (pv 1) (@c5 _ _ _ _ _ (pv 3) (@c6 _) (by rfl)) (by rfl)) (by rfl) (by decide) (by rfl) (by rfl) (by rfl)))) ER.top K5.nd rfl rfl (fun _=>(@i9 _ _ _ (@j9 _ _ (4) _ _ _ _ K5.nd rfl (Or.inl rfl) (pv 5) (by rfl) (by trivial)))) (by rfl) (by rfl) (by rfl) (by rfl) (by decide) (by trivial)) (@i9 _ _ _ (@l7 _ _ _ _ (pv 4)))),?_⟩
   have hw:way=0\/way=1\/way=2:=by omega
   rcases hw with rfl|rfl|rfl
   · refine ⟨_,rfl,rfl,_,rfl,B9 ?_⟩
     rcases h with ⟨no,k⟩|⟨a,p,rfl,tp,⟨_,no,k⟩|⟨_,b,q2,rfl,tq,⟨ne,k⟩|⟨eq,k⟩⟩|⟨z,_⟩⟩
     · exact ⟨_,rfl,_,rfl,.inr ⟨v,u,rfl,.inl ⟨no,fun H1 s1=>⟨zzz,rfl,ER.exm ("NoTurn",zzz) (by simp),fun e he=>⟨_,rfl,_,rfl,k e _ (s1.trans (c9.upd_new he)) c7⟩⟩⟩⟩⟩
     · exact ⟨_,rfl,_,rfl,.inr ⟨.ref a,u,rfl,.inr ⟨a,p,rfl,tp,.inl ⟨no,fun H1 s1=>⟨zzz,rfl,ER.exm ("NoTurn",zzz) (by simp),fun e he=>⟨_,rfl,_,rfl,k e _ (s1.trans (c9.upd_new he)) c7⟩⟩⟩⟩⟩⟩
     · exact ⟨_,rfl,_,rfl,.inr ⟨.ref a,.ref b,rfl,.inr ⟨a,p,rfl,tp,.inr ⟨b,q2,rfl,tq,ne,fun H1 s1=>⟨zzy,rfl,ER.exm ("NoFit",zzy) (by simp),fun e he=>⟨_,rfl,_,rfl,k e _ (s1.trans (c9.upd_new he)) c7⟩⟩⟩⟩⟩⟩
     · exact ⟨_,rfl,_,rfl,.inl ⟨a,b,p,q2,rfl,tp,tq,eq,fun l H1 hl s1 h1=>⟨_,rfl,k H1 s1⟩⟩⟩
     · exact absurd rfl z
   · refine ⟨_,rfl,rfl,_,rfl,A4 ⟨_,rfl,rfl,_,rfl,B9 ?_⟩⟩
     rcases h with ⟨no,k⟩|⟨a,p,rfl,tp,⟨z,_⟩|⟨z,_⟩|⟨_,k⟩⟩
     · exact ⟨_,rfl,.inr ⟨v,rfl,no,fun H1 s1=>⟨zzz,rfl,ER.exm ("NoTurn",zzz) (by simp),fun e he=>⟨_,rfl,_,rfl,k e _ (s1.trans (c9.upd_new he)) c7⟩⟩⟩⟩
     · omega
     · omega
     · exact ⟨_,rfl,.inl ⟨a,p,rfl,tp,fun l t H1 hl s1 pw h1=>⟨_,rfl,k H1 s1⟩⟩⟩
   · refine ⟨_,rfl,rfl,_,rfl,A4 ⟨_,rfl,rfl,_,rfl,A4 ?_⟩⟩
     rcases h with ⟨no,k⟩|⟨a,p,rfl,tp,⟨z,_⟩|⟨z,_⟩|⟨_,k⟩⟩
     · exact ⟨_,rfl,_,rfl,.inr ⟨v,n,rfl,no,fun H1 s1=>⟨zzz,rfl,ER.exm ("NoTurn",zzz) (by simp),fun e he=>⟨_,rfl,_,rfl,k e _ (s1.trans (c9.upd_new he)) c7⟩⟩⟩⟩
     · omega
     · omega
     · exact ⟨_,rfl,_,rfl,.inl ⟨a,p,n,rfl,tp,fun l t H1 hl s1 pw h1=>⟨_,rfl,k H1 s1⟩⟩⟩
def ad9 (K:PySem.W.Frag):Sp:=fun vs H Q _=>∃(way n:Int) (v u:V),vs=[.int way,v,u,.int n]/\0<=way/\way<=2/\Q1 K H v/\Q1 K H u/\∀H':Hp,c9 H H'->Q (.bl true) H'
theorem U2:o7 ["way","p","q","number","kept","caught"] ["way","p","q","number"] (j8 V1):=by rfl'
theorem ar2 {f:Addr}{fd:FuncData}(F:B6 K "_law_right" "_law_right" V1 f fd)(B:Bl mg)(ztz:A0 P w K mg base "_law_caught" 6 ["way","p","q","number"] (ad8 K zzz zzy))(zu:A0 P w K mg base "_law_is_turn" 1 ["thing"] (ay4 K))(zrz:A0 P w K mg base "_law_is" 1 ["caught","due"] (ay8 zzz zzy)):o4 P w K mg base C6 7 f fd ["way","p","q","number"] (ad9 K):=by
 refine F.ok U2 (fun vs H Q E h=> ?_) (fun cdv A outer s H vs Q E hr h=> ?_)
 · obtain ⟨way,n,v,u,rfl,w0,w2,Tv,Tu,q⟩:=h;rfl
 · obtain ⟨way,n,v,u,rfl,w0,w2,Tv,Tu,q⟩:=h;have zm:y7 6 _:=hr.mono (by decide);have zr:y7 1 _:=hr.mono (by decide);have zox:y7 1 _:=hr.mono (by decide);have hug:_+16 < cLine:=ci3 (ck6 (by decide:16<=64) _) hr.units;refine ⟨_,@i5 _ _ _ _ _ (@j9 _ _ (4) _ _ _ _ U2.nd rfl (Or.inl rfl) (aq9 hug hr.gd B.repr (@c5 _ _ _ _ _ (@o0 _ _ _ _ (@c5 _ _ _ _ _ (pv 1) (@c5 _ _ _ _ _ (pv 2) (@c6 _) (by rfl)) (by rfl))) (@c6 _) (by rfl))) (by rfl) (by trivial)) (@i5 _ _ _ _ _ (@j9 _ _ (5) _ _ _ _ U2.nd rfl (Or.inl rfl) (@j6 _ _ _ _ _ _ _ _ _ _ ztz zm (@c5 _ _ _ _ _ (pv 0) (@c5 _ _ _ _ _ (pv 1) (@c5 _ _ _ _ _ (pv 2) (@c5 _ _ _ _ _ (pv 3) (@c6 _) (by rfl)) (by rfl)) (by rfl)) (by rfl)) (by rfl) (by decide) (by rfl) (by rfl)) (by rfl) (by trivial)) (@i5 _ _ _ _ _ (@A3 _ _ _ _ _ _ _ _ (@o5 _ _ _ _ _ _ _ _ W6 (aq9 hug hr.gd B.repr (@c5 _ _ _ _ _ (@o0 _ _ _ _ (@c5 _ _ _ _ _ (pv 1) (@c5 _ _ _ _ _ (pv 2) (@c6 _) (by rfl)) (by rfl))) (@c6 _) (by rfl))) (pv 4) (q9 _)) (@i9 _ _ _ (@l7 _ _ _ _ (@B4 _ _ _ _))) (@w6 _)) (@i5 _ _ _ _ _ (@A3 _ _ _ _ _ _ _ _ (@C9 _ _ _ _ _ _ _ (@C3 _ _ _ _ (@C0 _ _ _ (@j6 _ _ _ _ _ _ _ _ _ _ zu zr (@c5 _ _ _ _ _ (pv 1) (@c6 _) (by rfl)) (by rfl) (by decide) (by rfl) (by rfl)) (by intro _;rfl))) (@G1 _ _ _ _ (@az5 _ _ _ _ _ _ _ (@o5 _ _ _ _ _ _ _ _ K3 (pv 0) (@i4 _ _ _ _) (q9 _)) (@as9 _ _ _ _ (@C3 _ _ _ _ (@C0 _ _ _ (@j6 _ _ _ _ _ _ _ _ _ _ zu zr (@c5 _ _ _ _ _ (pv 2) (@c6 _) (by rfl)) (by rfl) (by decide) (by rfl) (by rfl)) (by intro _;rfl))))).pt)).pt (@i9 _ _ _ (@l7 _ _ _ _ (@j6 _ _ _ _ _ _ _ _ _ _ zrz zox (@c5 _ _ _ _ _ (pv 5) (@c5 _ _ _ _ _ (@i4 _ _ _ _) (@c6 _) (by rfl)) (by rfl)) (by rfl) (by decide) (by rfl) (by rfl)))) (@w6 _)) (@i5 _ _ _ _ _ (@A3 _ _ _ _ _ _ _ _ (@az5 _ _ _ _ _ _ _ (@o5 _ _ _ _ _ _ _ _ K3 (pv 0) (@i4 _ _ _ _) (q9 _)) (@as9 _ _ _ _ (@o5 _ _ _ _ _ _ _ _ W6 (@w9 _ _ _ _ _ B.len (@c5 _ _ _ _ _ (pv 1) (@c6 _) (by rfl)) (by rfl) (by rfl)) (@w9 _ _ _ _ _ B.len (@c5 _ _ _ _ _ (pv 2) (@c6 _) (by rfl)) (by rfl) (by rfl)) (q9 _)))).pt (@i9 _ _ _ (@l7 _ _ _ _ (@j6 _ _ _ _ _ _ _ _ _ _ zrz zox (@c5 _ _ _ _ _ (pv 5) (@c5 _ _ _ _ _ (@i4 _ _ _ _) (@c6 _) (by rfl)) (by rfl)) (by rfl) (by decide) (by rfl) (by rfl)))) (@w6 _)) (@i9 _ _ _ (@l7 _ _ _ _ (@ag7 _ _ _ _ _ _ _ _ bs5 (pv 5) (@S4 _ _ _) (q9 _)))))))),?_⟩;obtain ⟨⟨bv,jv⟩,dv,shv,okv,lev,dpv⟩:=id Tv;obtain ⟨⟨bu,ju⟩,du,shu,oku,leu,dpu⟩:=id Tu;obtain ⟨o1,o2,o3⟩:=bg0 okv oku lev leu dpv dpu;refine ⟨_,rfl,_,rfl,(show 2<=sizeLine by decide),fun l1 n1=> ?_⟩;have s1:c9 H (c8 H l1 (.lst [v,u])):=c9.upd_new n1;have g1:(c8 H l1 (.lst [v,u])) l1=some (.lst [v,u]):=c7;generalize (c8 H l1 (.lst [v,u]))=H1 at s1 g1 ⊢;refine ⟨l1,v,u,dv,du,rfl,g1,shv.keep s1,shu.keep s1,o1,o2,o3,?_⟩
   rcases id jv with ⟨no,rfl⟩|⟨a,p,rfl,ha,hl,tp,rfl⟩
   · refine ⟨_,rfl,_,rfl,_,rfl,_,rfl,way,n,v,u,rfl,w0,w2,.inl ⟨no.keep s1,fun e H2 s2 he=> ?_⟩⟩;refine ⟨_,rfl,_,rfl,(show 2<=sizeLine by decide),fun l2 n2=> ?_⟩;have s3:c9 H2 (c8 H2 l2 (.lst [v,u])):=c9.upd_new n2;have g3:(c8 H2 l2 (.lst [v,u])) l2=some (.lst [v,u]):=c7;generalize (c8 H2 l2 (.lst [v,u]))=H3 at s3 g3 ⊢;have s13:=s2.trans s3;have s03:=s1.trans s13;refine ⟨l2,v,u,dv,du,rfl,g3,shv.keep s03,shu.keep s03,o1,o2,o3,_,rfl,rfl,_,rfl,O0 rfl ?_⟩;refine ⟨_,rfl,v,false,rfl,jv.keep s03,fun H4 s4=>⟨_,rfl,B9 ?_⟩⟩;exact ⟨_,rfl,e,zzz,0,rfl,s4 _ _ (s3 _ _ he),.inl ⟨rfl,rfl⟩,fun H5 s5=>q H5 (s03.trans (s4.trans s5))⟩
   have ta:D3 H1 a p:=⟨s1 _ _ ha,tp,hl⟩
   by_cases hw:way=0
   · subst hw
     rcases id ju with ⟨no,rfl⟩|⟨b,q',rfl,hb,hl2,tq,rfl⟩
     · refine ⟨_,rfl,_,rfl,_,rfl,_,rfl,0,n,.ref a,u,rfl,w0,w2,.inr ⟨a,p,rfl,ta,.inl ⟨rfl,no.keep s1,fun e H2 s2 he=> ?_⟩⟩⟩;refine ⟨_,rfl,_,rfl,(show 2<=sizeLine by decide),fun l2 n2=> ?_⟩;have s3:c9 H2 (c8 H2 l2 (.lst [V.ref a,u])):=c9.upd_new n2;have g3:(c8 H2 l2 (.lst [V.ref a,u])) l2=some (.lst [V.ref a,u]):=c7;generalize (c8 H2 l2 (.lst [V.ref a,u]))=H3 at s3 g3 ⊢;have s13:=s2.trans s3;have s03:=s1.trans s13;refine ⟨l2,V.ref a,u,dv,du,rfl,g3,shv.keep s03,shu.keep s03,o1,o2,o3,_,rfl,rfl,_,rfl,O0 rfl ?_⟩;refine ⟨_,rfl,.ref a,true,rfl,jv.keep s03,fun H4 s4=>⟨_,rfl,A4 ?_⟩⟩;refine ⟨_,rfl,rfl,_,rfl,B9 ⟨_,rfl,u,false,rfl,ju.keep (s03.trans s4),fun H5 s5=>⟨_,rfl,B9 ?_⟩⟩⟩;exact ⟨_,rfl,e,zzz,0,rfl,s5 _ _ (s4 _ _ (s3 _ _ he)),.inl ⟨rfl,rfl⟩,fun H6 s6=>q H6 (s03.trans (s4.trans (s5.trans s6)))⟩
     have tb:D3 H1 b q':=⟨s1 _ _ hb,tq,hl2⟩
     by_cases hn:p.length=q'.length
     · refine ⟨_,rfl,_,rfl,_,rfl,_,rfl,0,n,.ref a,.ref b,rfl,w0,w2,.inr ⟨a,p,rfl,ta,.inr (.inl ⟨rfl,b,q',rfl,tb,.inr ⟨hn,fun H2 s2=> ?_⟩⟩)⟩⟩;refine ⟨_,rfl,_,rfl,(show 2<=sizeLine by decide),fun l2 n2=> ?_⟩;have s3:c9 H2 (c8 H2 l2 (.lst [V.ref a,V.ref b])):=c9.upd_new n2;have g3:(c8 H2 l2 (.lst [V.ref a,V.ref b])) l2=some (.lst [V.ref a,V.ref b]):=c7;generalize (c8 H2 l2 (.lst [V.ref a,V.ref b]))=H3 at s3 g3 ⊢;have s13:=s2.trans s3;have s03:=s1.trans s13;refine ⟨l2,V.ref a,V.ref b,dv,du,rfl,g3,shv.keep s03,shu.keep s03,o1,o2,o3,_,rfl,rfl,_,rfl,O0 rfl ?_⟩;refine ⟨_,rfl,.ref a,true,rfl,jv.keep s03,fun H4 s4=>⟨_,rfl,A4 ?_⟩⟩;refine ⟨_,rfl,rfl,_,rfl,B9 ⟨_,rfl,.ref b,true,rfl,ju.keep (s03.trans s4),fun H5 s5=>⟨_,rfl,A4 ?_⟩⟩⟩;have s15:=s13.trans (s4.trans s5);refine ⟨_,rfl,rfl,_,rfl,B9 ⟨_,rfl,a,_,rfl,.inl (j4.of (s15 _ _ ta.1)),_,rfl,b,_,rfl,.inl (j4.of (s15 _ _ tb.1)),rfl,_,rfl,O0 (by rw[cc4,cc4,hn]) ?_⟩⟩;exact ⟨_,rfl,rfl,q H5 (s1.trans s15)⟩
     · refine ⟨_,rfl,_,rfl,_,rfl,_,rfl,0,n,.ref a,.ref b,rfl,w0,w2,.inr ⟨a,p,rfl,ta,.inr (.inl ⟨rfl,b,q',rfl,tb,.inl ⟨hn,fun e H2 s2 he=> ?_⟩⟩)⟩⟩;refine ⟨_,rfl,_,rfl,(show 2<=sizeLine by decide),fun l2 n2=> ?_⟩;have s3:c9 H2 (c8 H2 l2 (.lst [V.ref a,V.ref b])):=c9.upd_new n2;have g3:(c8 H2 l2 (.lst [V.ref a,V.ref b])) l2=some (.lst [V.ref a,V.ref b]):=c7;generalize (c8 H2 l2 (.lst [V.ref a,V.ref b]))=H3 at s3 g3 ⊢;have s13:=s2.trans s3;have s03:=s1.trans s13;refine ⟨l2,V.ref a,V.ref b,dv,du,rfl,g3,shv.keep s03,shu.keep s03,o1,o2,o3,_,rfl,rfl,_,rfl,O0 rfl ?_⟩;refine ⟨_,rfl,.ref a,true,rfl,jv.keep s03,fun H4 s4=>⟨_,rfl,A4 ?_⟩⟩;refine ⟨_,rfl,rfl,_,rfl,B9 ⟨_,rfl,.ref b,true,rfl,ju.keep (s03.trans s4),fun H5 s5=>⟨_,rfl,A4 ?_⟩⟩⟩;have s15:=s13.trans (s4.trans s5);refine ⟨_,rfl,rfl,_,rfl,B9 ⟨_,rfl,a,_,rfl,.inl (j4.of (s15 _ _ ta.1)),_,rfl,b,_,rfl,.inl (j4.of (s15 _ _ tb.1)),rfl,_,rfl,?_⟩⟩;rw[cc4,cc4,decide_eq_false fun z=>hn (by have:=V.int.inj z;omega)];exact B9 ⟨_,rfl,e,zzy,1,rfl,s5 _ _ (s4 _ _ (s3 _ _ he)),.inr ⟨rfl,rfl⟩,fun H6 s6=>q H6 (s1.trans (s15.trans s6))⟩
   · refine ⟨_,rfl,_,rfl,_,rfl,_,rfl,way,n,.ref a,u,rfl,w0,w2,.inr ⟨a,p,rfl,ta,.inr (.inr ⟨hw,fun H2 s2=> ?_⟩)⟩⟩
     have hw':decide (V.int way=V.int 0)=false:=decide_eq_false fun z=>hw (V.int.inj z)
     refine ⟨_,rfl,_,rfl,(show 2<=sizeLine by decide),fun l2 n2=> ?_⟩;have s3:c9 H2 (c8 H2 l2 (.lst [V.ref a,u])):=c9.upd_new n2;have g3:(c8 H2 l2 (.lst [V.ref a,u])) l2=some (.lst [V.ref a,u]):=c7;generalize (c8 H2 l2 (.lst [V.ref a,u]))=H3 at s3 g3 ⊢;have s13:=s2.trans s3;have s03:=s1.trans s13;refine ⟨l2,V.ref a,u,dv,du,rfl,g3,shv.keep s03,shu.keep s03,o1,o2,o3,_,rfl,rfl,_,rfl,O0 rfl ?_⟩;refine ⟨_,rfl,.ref a,true,rfl,jv.keep s03,fun H4 s4=>⟨_,rfl,A4 ?_⟩⟩;refine ⟨_,rfl,rfl,_,rfl,?_⟩;rw[hw'];refine A4 (A4 ⟨_,rfl,rfl,_,rfl,?_⟩);rw[hw'];exact A4 (A4 ⟨_,rfl,rfl,q H4 (s03.trans s4)⟩)
theorem G4:o7 ["script","k","pool","p","q","none","thing","number","way","some"] ["script"] (j8 ab0):=by rfl'
theorem aa5:(["turn","pool","p"]:List Str).Nodup:=by decide+kernel
theorem ar3:(["words"]:List Str).Nodup:=by decide+kernel
theorem bv2 {f:Addr}{fd:FuncData}(F:B6 K "law" "law" ab0 f fd)(B:Bl mg)(zry:A0 P w K mg base "_law_pool" 1 ["script","k"] (ao6 K))(zt:A0 P w K mg base "_law_turn" 4 ["pool","most"] ao8)(zv:A0 P w K mg base "_law_mixed_up" 2 ["pool","things"] (W3 K))(zzx:A0 P w K mg base "_law_take" 1 ["pool","many"] M8)(zty:A0 P w K mg base "_law_spoilt" 3 ["pool","p"] (ad7 K))(ztx:A0 P w K mg base "_law_number" 2 ["pool"] ax7)(zwx:A0 P w K mg base "_law_right" 7 ["way","p","q","number"] (ad9 K))(ER:Z9 K mg zxx [("NoTurn",zzz),("NoFit",zzy),("NoRounds",zy),("NoNumber",zyz),("NoRoot",zyx),("TooMany",zyy),("NoKind",zw),("NoText",zx),("NoName",zxz),("NoRow",zwz)])(ES:∀p∈[(("NoTurn":Str),zzz),(("NoFit":Str),zzy),(("NoRounds":Str),zy),(("NoNumber":Str),zyz),(("NoRoot":Str),zyx),(("TooMany":Str),zyy),(("NoKind":Str),zw),(("NoText":Str),zx),(("NoName":Str),zxz),(("NoRow":Str),zwz)],bi8 K p.2):o4 P w K mg base C6 8 f fd ["script"] (al9 K):=by
 refine F.ok G4 (fun vs H Q E h=> ?_) (fun cdv A outer s H vs Q E hr h=> ?_)
 · obtain ⟨a,ns,rfl,ha,hl,q⟩:=h;rfl
 · obtain ⟨a,ns,rfl,ha,hl,q⟩:=h;have zkz:y7 1 _:=hr.mono (by decide);have zqy:y7 4 _:=hr.mono (by decide);have zoz:y7 2 _:=hr.mono (by decide);have zxy:y7 1 _:=hr.mono (by decide);have zmz:y7 3 _:=hr.mono (by decide);have zmy:y7 2 _:=hr.mono (by decide);have zvz:y7 7 _:=hr.mono (by decide);have hu:=U4 hr;refine ⟨_,@i5 _ _ _ _ _ (@D9 _ _ _ _ _ _ _ _ PassesOwn.never rfl (@K8 _ _ _ _ _ _ (by rfl) B.range (@c5 _ _ _ _ _ (@bn8 _ _ _ _ _ _ rfl B.max (@c5 _ _ _ _ _ (@i4 _ _ _ _) (@c5 _ _ _ _ _ (@aa9 _ _ _ _ _ _ rfl B.min (@c5 _ _ _ _ _ (@i4 _ _ _ _) (@c5 _ _ _ _ _ (@w9 _ _ _ _ _ B.len (@c5 _ _ _ _ _ (pv 0) (@c6 _) (by rfl)) (by rfl) (by rfl)) (@c6 _) (by rfl)) (by rfl)) (by rfl) (by rfl) (by rfl)) (@c6 _) (by rfl)) (by rfl)) (by rfl) (by rfl) (by rfl)) (@c6 _) (by rfl)) (by rfl)) (@A5 _ _ (1) _ G4.nd rfl (Or.inl rfl) (by trivial)) (@i5 _ _ _ _ _ (@j9 _ _ (2) _ _ _ _ G4.nd rfl (Or.inr rfl) (@j6 _ _ _ _ _ _ _ _ _ _ zry zkz (@c5 _ _ _ _ _ (pv 0) (@c5 _ _ _ _ _ (pv 1) (@c6 _) (by rfl)) (by rfl)) (by rfl) (by decide) (by rfl) (by rfl)) (by rfl) (by trivial)) (@i5 _ _ _ _ _ (@j9 _ _ (3) _ _ _ _ G4.nd rfl (Or.inr rfl) (@j6 _ _ _ _ _ _ _ _ _ _ zt zqy (@c5 _ _ _ _ _ (pv 2) (@c5 _ _ _ _ _ (@i4 _ _ _ _) (@c6 _) (by rfl)) (by rfl)) (by rfl) (by decide) (by rfl) (by rfl)) (by rfl) (by trivial)) (@i5 _ _ _ _ _ (@j9 _ _ (4) _ _ _ _ G4.nd rfl (Or.inl rfl) (@E9 _ _ _ _ _ _ _ _ _ _ J4 (@A9 _ _ _ _ _ _ _ x9 (@o0 _ _ _ _ (@c5 _ _ _ _ _ (@j6 _ _ _ _ _ _ _ _ _ _ zt zqy (@c5 _ _ _ _ _ (pv 2) (@c5 _ _ _ _ _ (@i4 _ _ _ _) (@c6 _) (by rfl)) (by rfl)) (by rfl) (by decide) (by rfl) (by rfl)) (@c5 _ _ _ _ _ (@j6 _ _ _ _ _ _ _ _ _ _ zv zoz (@c5 _ _ _ _ _ (pv 2) (@c5 _ _ _ _ _ (pv 3) (@c6 _) (by rfl)) (by rfl)) (by rfl) (by decide) (by rfl) (by rfl)) (@c5 _ _ _ _ _ (@j7 _ _ _ _ _ _ _ _ D1 (pv 3) (@o0 _ _ _ _ (@c5 _ _ _ _ _ (@w9 _ _ _ _ _ B.len (@c5 _ _ _ _ _ (pv 3) (@c6 _) (by rfl)) (by rfl) (by rfl)) (@c6 _) (by rfl)))) (@c6 _) (by rfl)) (by rfl)) (by rfl))) (@j6 _ _ _ _ _ _ _ _ _ _ zzx zxy (@c5 _ _ _ _ _ (pv 2) (@c5 _ _ _ _ _ (@i4 _ _ _ _) (@c6 _) (by rfl)) (by rfl)) (by rfl) (by decide) (by rfl) (by rfl)) (fun _ _=>rfl)) (@J2 _) (@J3 _ _ _ (@i4 _ _ _ _))) (by rfl) (by trivial)) (@i5 _ _ _ _ _ (@j9 _ _ (5) _ _ _ _ G4.nd rfl (Or.inl rfl) (@j7 _ _ _ _ _ _ _ _ D1 (@V9 _ _ _ _ _ _ _ _ _ _ _ (["turn","pool","p"]) (1) ([2,3]) rfl .of (@K8 _ _ _ _ _ _ (by rfl) B.range (@c5 _ _ _ _ _ (@i4 _ _ _ _) (@c6 _) (by rfl)) (by rfl)) (fun _ _ _ _ _=>@A5 _ _ (0) _ aa5 rfl (Or.inl rfl) (by trivial)) (fun _ _ _ _ _=>(@X0 _)) (fun _ _ _ _ _=>(@j6 _ _ _ _ _ _ _ _ _ _ zty zmz (@c5 _ _ _ _ _ (pv 1) (@c5 _ _ _ _ _ (pv 2) (@c6 _) (by rfl)) (by rfl)) (by rfl) (by decide) (by rfl) (by rfl))) (by intro _;rfl)) (@o0 _ _ _ _ (@c5 _ _ _ _ _ (@S4 _ _ _) (@c5 _ _ _ _ _ (@K1 _ _ _ _) (@c5 _ _ _ _ _ (@Y9 _ _ _ _ _ (@c6 _)) (@c5 _ _ _ _ _ (@j7 _ _ _ _ _ _ _ _ D1 (pv 3) (@o0 _ _ _ _ (@c5 _ _ _ _ _ (@B4 _ _ _ _) (@c6 _) (by rfl)))) (@c5 _ _ _ _ _ (@o0 _ _ _ _ (@c5 _ _ _ _ _ (pv 3) (@c6 _) (by rfl))) (@c5 _ _ _ _ _ (@i4 _ _ _ _) (@c5 _ _ _ _ _ (@K6 _ _) (@c6 _) (by rfl)) (by rfl)) (by rfl)) (by rfl)) (by rfl)) (by rfl)) (by rfl)))) (by rfl) (by trivial)) (@i5 _ _ _ _ _ (@C1 _ _ _ _ (@L5 _ _ _ _ _ _ _ (pv 5) (@c5 _ _ _ _ _ (@R5 _ _ _ _ _ _ _ rfl B.list B.range (@c5 _ _ _ _ _ (@j7 _ _ _ _ _ _ _ _ A6 (@i4 _ _ _ _) (@j6 _ _ _ _ _ _ _ _ _ _ zzx zxy (@c5 _ _ _ _ _ (pv 2) (@c5 _ _ _ _ _ (@i4 _ _ _ _) (@c6 _) (by rfl)) (by rfl)) (by rfl) (by decide) (by rfl) (by rfl))) (@c6 _) (by rfl)) (by rfl) (by rfl) (by rfl) (by rfl)) (@c6 _) (by rfl)) (by rfl) (by rfl) (by rfl) (by rfl) (by rfl)) (by rfl)) (@i5 _ _ _ _ _ (@D9 _ _ _ _ _ _ _ _ PassesOwn.never rfl (@D7 _ _ _ _ (pv 5)) (@A5 _ _ (6) _ G4.nd rfl (Or.inl rfl) (by trivial)) (@i5 _ _ _ _ _ (@j9 _ _ (7) _ _ _ _ G4.nd rfl (Or.inl rfl) (@A9 _ _ _ _ _ _ _ x9 (@o0 _ _ _ _ (@c5 _ _ _ _ _ (@i4 _ _ _ _) (@c5 _ _ _ _ _ (@i4 _ _ _ _) (@c5 _ _ _ _ _ (@R1 _ _ _ _ _ _ L7 (@i4 _ _ _ _)) (@c5 _ _ _ _ _ (@i4 _ _ _ _) (@c5 _ _ _ _ _ (@j6 _ _ _ _ _ _ _ _ _ _ ztx zmy (@c5 _ _ _ _ _ (pv 2) (@c6 _) (by rfl)) (by rfl) (by decide) (by rfl) (by rfl)) (@c5 _ _ _ _ _ (@j7 _ _ _ _ _ _ _ _ V5 (@j7 _ _ _ _ _ _ _ _ O5 (@i4 _ _ _ _) (@i4 _ _ _ _)) (@i4 _ _ _ _)) (@c6 _) (by rfl)) (by rfl)) (by rfl)) (by rfl)) (by rfl)) (by rfl))) (@j6 _ _ _ _ _ _ _ _ _ _ zzx zxy (@c5 _ _ _ _ _ (pv 2) (@c5 _ _ _ _ _ (@i4 _ _ _ _) (@c6 _) (by rfl)) (by rfl)) (by rfl) (by decide) (by rfl) (by rfl)) (fun _ _=>rfl)) (by rfl) (by trivial)) (@i9 _ _ _ (@D9 _ _ _ _ _ _ _ _ PassesOwn.never rfl (@K8 _ _ _ _ _ _ (by rfl) B.range (@c5 _ _ _ _ _ (@i4 _ _ _ _) (@c6 _) (by rfl)) (by rfl)) (@A5 _ _ (8) _ G4.nd rfl (Or.inl rfl) (by trivial)) (@i5 _ _ _ _ _ (@A3 _ _ _ _ _ _ _ _ (@C9 _ _ _ _ _ _ _ (@C3 _ _ _ _ (@C0 _ _ _ (@j6 _ _ _ _ _ _ _ _ _ _ zwx zvz (@c5 _ _ _ _ _ (pv 8) (@c5 _ _ _ _ _ (pv 6) (@c5 _ _ _ _ _ (pv 4) (@c5 _ _ _ _ _ (pv 7) (@c6 _) (by rfl)) (by rfl)) (by rfl)) (by rfl)) (by rfl) (by decide) (by rfl) (by rfl)) (by intro _;rfl))) (@G1 _ _ _ _ (@C3 _ _ _ _ (@C0 _ _ _ (@j6 _ _ _ _ _ _ _ _ _ _ zwx zvz (@c5 _ _ _ _ _ (pv 8) (@c5 _ _ _ _ _ (pv 3) (@c5 _ _ _ _ _ (pv 6) (@c5 _ _ _ _ _ (pv 7) (@c6 _) (by rfl)) (by rfl)) (by rfl)) (by rfl)) (by rfl) (by decide) (by rfl) (by rfl)) (by intro _;rfl))))).pt (@i9 _ _ _ (@l7 _ _ _ _ (@B4 _ _ _ _))) (@w6 _)) (@i9 _ _ _ (@A3 _ _ _ _ _ _ _ _ (@C3 _ _ _ _ (@C0 _ _ _ (@j6 _ _ _ _ _ _ _ _ _ _ zwx zvz (@c5 _ _ _ _ _ (pv 8) (@c5 _ _ _ _ _ (pv 6) (@c5 _ _ _ _ _ (@A9 _ _ _ _ _ _ _ x9 (pv 5) (@j6 _ _ _ _ _ _ _ _ _ _ zzx zxy (@c5 _ _ _ _ _ (pv 2) (@c5 _ _ _ _ _ (@w9 _ _ _ _ _ B.len (@c5 _ _ _ _ _ (pv 5) (@c6 _) (by rfl)) (by rfl) (by rfl)) (@c6 _) (by rfl)) (by rfl)) (by rfl) (by decide) (by rfl) (by rfl)) (fun _ _=>rfl)) (@c5 _ _ _ _ _ (pv 7) (@c6 _) (by rfl)) (by rfl)) (by rfl)) (by rfl)) (by rfl) (by decide) (by rfl) (by rfl)) (by intro _;rfl))) (@i9 _ _ _ (@l7 _ _ _ _ (@B4 _ _ _ _))) (@w6 _)))) (by intro _;rfl)))) (by intro _;rfl)) (@i9 _ _ _ (@A3 _ _ _ _ _ _ _ _ (@C9 _ _ _ _ _ _ _ (@C3 _ _ _ _ (@C0 _ _ _ (@j6 _ _ _ _ _ _ _ _ _ _ zwx zvz (@c5 _ _ _ _ _ (@i4 _ _ _ _) (@c5 _ _ _ _ _ (pv 3) (@c5 _ _ _ _ _ (pv 4) (@c5 _ _ _ _ _ (@i4 _ _ _ _) (@c6 _) (by rfl)) (by rfl)) (by rfl)) (by rfl)) (by rfl) (by decide) (by rfl) (by rfl)) (by intro _;rfl))) (@G1 _ _ _ _ (@C3 _ _ _ _ (@C0 _ _ _ (@j6 _ _ _ _ _ _ _ _ _ _ zwx zvz (@c5 _ _ _ _ _ (@i4 _ _ _ _) (@c5 _ _ _ _ _ (pv 4) (@c5 _ _ _ _ _ (pv 3) (@c5 _ _ _ _ _ (@i4 _ _ _ _) (@c6 _) (by rfl)) (by rfl)) (by rfl)) (by rfl)) (by rfl) (by decide) (by rfl) (by rfl)) (by intro _;rfl))))).pt (@i9 _ _ _ (@l7 _ _ _ _ (@B4 _ _ _ _))) (@w6 _))))))))) (by intro _;rfl)) (@i5 _ _ _ _ _ (@D9 _ _ _ _ _ _ _ _ PassesOwn.never rfl (@D7 _ _ _ _ (@o0 _ _ _ _ (@c5 _ _ _ _ _ (@o0 _ _ _ _ (@c5 _ _ _ _ _ (@i4 _ _ _ _) (@c5 _ _ _ _ _ (@i4 _ _ _ _) (@c6 _) (by rfl)) (by rfl))) (@c5 _ _ _ _ _ (@o0 _ _ _ _ (@c5 _ _ _ _ _ (@i4 _ _ _ _) (@c6 _) (by rfl))) (@c5 _ _ _ _ _ (@Y9 _ _ _ _ _ (@c5 _ _ _ _ _ (@i4 _ _ _ _) (@c6 _) (by rfl))) (@c5 _ _ _ _ _ (@o0 _ _ _ _ (@c5 _ _ _ _ _ (@B4 _ _ _ _) (@c6 _) (by rfl))) (@c5 _ _ _ _ _ (@S4 _ _ _) (@c5 _ _ _ _ _ (@R5 _ _ _ _ _ _ _ rfl B.list B.range (@c5 _ _ _ _ _ (@i4 _ _ _ _) (@c6 _) (by rfl)) (by rfl) (by rfl) (by rfl) (by rfl)) (@c5 _ _ _ _ _ (@o0 _ _ _ _ (@c5 _ _ _ _ _ (@i4 _ _ _ _) (@c5 _ _ _ _ _ (@i4 _ _ _ _) (@c6 _) (by rfl)) (by rfl))) (@c5 _ _ _ _ _ (@o0 _ _ _ _ (@c5 _ _ _ _ _ (@i4 _ _ _ _) (@c5 _ _ _ _ _ (@i4 _ _ _ _) (@c5 _ _ _ _ _ (@i4 _ _ _ _) (@c6 _) (by rfl)) (by rfl)) (by rfl))) (@c5 _ _ _ _ _ (@K1 _ _ _ _) (@c5 _ _ _ _ _ (@K6 _ _) (@c6 _) (by rfl)) (by rfl)) (by rfl)) (by rfl)) (by rfl)) (by rfl)) (by rfl)) (by rfl)) (by rfl)) (by rfl)))) (@A5 _ _ (6) _ G4.nd rfl (Or.inl rfl) (by trivial)) (@i9 _ _ _ (@D9 _ _ _ _ _ _ _ _ PassesOwn.never rfl (@D7 _ _ _ _ (@o0 _ _ _ _ (@c5 _ _ _ _ _ (@i4 _ _ _ _) (@c5 _ _ _ _ _ (@i4 _ _ _ _) (@c5 _ _ _ _ _ (@R1 _ _ _ _ _ _ L7 (@i4 _ _ _ _)) (@c5 _ _ _ _ _ (@i4 _ _ _ _) (@c5 _ _ _ _ _ (@R1 _ _ _ _ _ _ L7 (@i4 _ _ _ _)) (@c5 _ _ _ _ _ (@i4 _ _ _ _) (@c5 _ _ _ _ _ (@i4 _ _ _ _) (@c6 _) (by rfl)) (by rfl)) (by rfl)) (by rfl)) (by rfl)) (by rfl)) (by rfl)))) (@A5 _ _ (7) _ G4.nd rfl (Or.inl rfl) (by trivial)) (@i9 _ _ _ (@A3 _ _ _ _ _ _ _ _ (@C3 _ _ _ _ (@C0 _ _ _ (@j6 _ _ _ _ _ _ _ _ _ _ zwx zvz (@c5 _ _ _ _ _ (@i4 _ _ _ _) (@c5 _ _ _ _ _ (pv 6) (@c5 _ _ _ _ _ (@o0 _ _ _ _ (@c6 _)) (@c5 _ _ _ _ _ (pv 7) (@c6 _) (by rfl)) (by rfl)) (by rfl)) (by rfl)) (by rfl) (by decide) (by rfl) (by rfl)) (by intro _;rfl))) (@i9 _ _ _ (@l7 _ _ _ _ (@B4 _ _ _ _))) (@w6 _))) (by intro _;rfl))) (by intro _;rfl)) (@i5 _ _ _ _ _ (@j9 _ _ (9) _ _ _ _ G4.nd rfl (Or.inl rfl) (@o0 _ _ _ _ (@c5 _ _ _ _ _ (@K1 _ _ _ _) (@c5 _ _ _ _ _ (@K1 _ _ _ _) (@c5 _ _ _ _ _ (@K1 _ _ _ _) (@c5 _ _ _ _ _ (@j7 _ _ _ _ _ _ _ _ bp1 (@K1 _ _ _ _) (@i4 _ _ _ _)) (@c6 _) (by rfl)) (by rfl)) (by rfl)) (by rfl))) (by rfl) (by trivial)) (@i9 _ _ _ (@l7 _ _ _ _ (@ag7 _ _ _ _ _ _ _ _ (bc1 0 hu) (@V9 _ _ _ _ _ _ _ _ _ _ _ (["words"]) (1) ([]) rfl .of (@D7 _ _ _ _ (pv 9)) (fun _ _ _ _ _=>@A5 _ _ (0) _ ar3 rfl (Or.inl rfl) (by trivial)) (fun _ _ _ _ _=>@bh5 _ _ _ (@C9 _ _ _ _ _ _ _ (@o5 _ _ _ _ _ _ _ _ W6 (@au2 _ _ _ _ _ _ _ _ _ B.str (ER.err ("NoTurn",zzz) (by simp)) (ES ("NoTurn",zzz) (by simp)) hr.units (pv 0) (by rfl) (by rfl) (by rfl) (by decide) (by rfl)) (pv 0) (q9 _)) (@G1 _ _ _ _ (@o5 _ _ _ _ _ _ _ _ W6 (@au2 _ _ _ _ _ _ _ _ _ B.str (ER.err ("NoFit",zzy) (by simp)) (ES ("NoFit",zzy) (by simp)) hr.units (pv 0) (by rfl) (by rfl) (by rfl) (by decide) (by rfl)) (pv 0) (q9 _)))).pt) (fun _ _ _ _ _=>(pv 0)) (by intro _;rfl)) (@o0 _ _ _ _ (@c6 _)) (q9 _)))))),?_⟩
   refine ⟨_,rfl,a,_,rfl,.inl ha,10,_,rfl,1,_,rfl,_,rfl,?_⟩;obtain ⟨mx,hmx,hm1,hm2⟩:=bo1 (n:=10) (c:=((ns.map V.int).length:Int)) (by decide) (by omega);rw[hmx]
   refine ⟨by omega,by omega,U3 (lo:=0) (n:=mx.toNat) (fun i σ H2=>∃v1 v2 v3 v4 v5 v6 v7 v8 v9:Option V,σ=[some (.ref a),v1,v2,v3,v4,v5,v6,v7,v8,v9]/\c9 H H2)
     ⟨none,none,none,none,none,none,none,none,none,rfl,c9.refl H⟩ ?_ ?_⟩
   · rintro i σ H2 hi ⟨v1,v2,v3,v4,v5,v6,v7,v8,v9,rfl,s02⟩;refine ⟨_,rfl,_,rfl,a,ns,_,rfl,s02.seq ha,by omega,by omega,fun g H3 hg s23 P3=> ?_⟩;have hg0:H g=none:=s02.free hg;refine ⟨_,rfl,g,_,40,rfl,P3,by decide,by decide,by decide,fun pa p H4 npa tp lp h4 P4 kb4=> ?_⟩;have npg:pa≠g:=k6 P3 npa
     have l40:p.length<=40:=by omega
     have pb:∀x∈p,0<=x/\x < 40:=fun x hx=>by have:=tp.lo x hx;have:=tp.hi x hx;omega
     have s04:c9 H H4:=(s02.trans s23).kb kb4 hg0;refine ⟨_,rfl,g,_,40,rfl,P4,by decide,by decide,by decide,fun l1 p1 H5 nl1 tp1 lp1 h5 P5 kb5=> ?_⟩;have n1g:l1≠g:=k6 P4 nl1;refine ⟨_,rfl,_,rfl,g,pa,_,p.map V.int,rfl,P5,by rw[cc4];omega,j4.of (kb5 _ _ h4 npg),by rw[cc4];omega,fun l2 ys2 H6 nl2 pm h6 P6 kb6=> ?_⟩;rw[cc4] at P6;obtain ⟨p2,rfl,pm2⟩:=Z6 pm;have n2g:l2≠g:=k6 P5 nl2;have k46:j3 g H4 H6:=kb5.trans kb6;refine ⟨_,rfl,_,rfl,pa,_,rfl,.inl (j4.of (k46 _ _ h4 npg)),(show 1<=sizeLine by decide),fun o1 n7=> ?_⟩;have s7:c9 H6 (c8 H6 o1 (.lst [V.int ((p.map V.int).length:Int)])):=c9.upd_new n7;have g7:(c8 H6 o1 (.lst [V.int ((p.map V.int).length:Int)])) o1=some (.lst [V.int ((p.map V.int).length:Int)]):=c7;generalize (c8 H6 o1 (.lst [V.int ((p.map V.int).length:Int)]))=H7 at s7 g7 ⊢;have h7:=s7 _ _ (k46 _ _ h4 npg);refine ⟨pa,o1,_,_,rfl,rfl,h7,g7,cf2 (q0 (by rw[cc4];simp;omega)),fun l3 n8=> ?_⟩
     have e8:p.map V.int++[V.int ((p.map V.int).length:Int)]=(p++[(p.length:Int)]).map V.int:=by rw[ce6,cc4];rfl
     rw[e8];have s8:c9 H7 (c8 H7 l3 (.lst ((p++[(p.length:Int)]).map V.int))):=c9.upd_new n8;have g8:(c8 H7 l3 (.lst ((p++[(p.length:Int)]).map V.int))) l3=some (.lst ((p++[(p.length:Int)]).map V.int)):=c7;generalize (c8 H7 l3 (.lst ((p++[(p.length:Int)]).map V.int)))=H8 at s8 g8 ⊢;refine ⟨(show 3<=sizeLine by decide),fun l4 n9=> ?_⟩;have s9:c9 H8 (c8 H8 l4 (.lst [V.ref l1,V.ref l2,V.ref l3])):=c9.upd_new n9;have g9:(c8 H8 l4 (.lst [V.ref l1,V.ref l2,V.ref l3])) l4=some (.lst [V.ref l1,V.ref l2,V.ref l3]):=c7;generalize (c8 H8 l4 (.lst [V.ref l1,V.ref l2,V.ref l3]))=H9 at s9 g9 ⊢;have s69:=s7.trans (s8.trans s9);have P9:=j5 P6 s69;have n4g:l4≠g:=k6 (j5 P6 (s7.trans s8)) n9;have n3g:l3≠g:=k6 (j5 P6 s7) n8;refine ⟨_,rfl,g,_,3,rfl,P9,by omega,by decide,by decide,fun r H10 r0 r1 P10 kb10=> ?_⟩
     obtain ⟨qa,ms,hat,h10q,nqg,mb⟩:∃(qa:Addr) (ms:List Int),V7 [V.ref l1,V.ref l2,V.ref l3] r=some (.ref qa)/\H10 qa=some (.lst (ms.map V.int))/\qa≠g/\∀x∈ms,0<=x/\x<=40:=by
       have:r=0\/r=1\/r=2:=by omega
       rcases this with rfl|rfl|rfl
       · exact ⟨l1,p1,o8 (j:=0) rfl,kb10 _ _ (s69 _ _ (kb6 _ _ h5 n1g)) n1g,n1g,fun x hx=>by have:=tp1.lo x hx;have:=tp1.hi x hx;omega⟩
       · exact ⟨l2,p2,o8 (j:=1) rfl,kb10 _ _ (s69 _ _ h6) n2g,n2g,fun x hx=>by have:=pb x (pm2.mem_iff.mp hx);omega⟩
       · refine ⟨l3,_,o8 (j:=2) rfl,kb10 _ _ (s9 _ _ g8) n3g,n3g,fun x hx=> ?_⟩
         rcases cd2.mp hx with z|z
         · have:=pb x z;omega
         · rw[cd9.mp z];omega
     refine ⟨l4,_,_,_,rfl,rfl,j4.of (kb10 _ _ g9 n4g),hat,_,rfl,qa,_,rfl,j4.of h10q,fun qb n11=> ?_⟩
     have ec:Q2 (ms.map V.int) none (some 40)=(ms.take 40).map V.int:=by
       unfold Q2;rw[show (some (40:Int))=some ((40:Nat):Int) from rfl,HT.cb0,HT.ca3,List.drop_zero,Nat.sub_zero,List.map_take]
       by_cases z:40<=(ms.map V.int).length
       · rw[cm3 z]
       · rw[Nat.min_eq_right (by omega),cf7,ci8 (by omega)]
     rw[ec];have P11:=j5 P10 (c9.upd_new (o:= .lst ((ms.take 40).map V.int)) n11);have nbg:qb≠g:=k6 P10 n11;have s11:c9 H10 (c8 H10 qb (.lst ((ms.take 40).map V.int))):=c9.upd_new n11;have g11:(c8 H10 qb (.lst ((ms.take 40).map V.int))) qb=some (.lst ((ms.take 40).map V.int)):=c7;generalize (c8 H10 qb (.lst ((ms.take 40).map V.int)))=H11 at s11 g11 P11 ⊢;obtain ⟨mq,emq⟩:∃mq,mq=ms.take 40:=⟨_,rfl⟩
     have mqb:∀x∈mq,0<=x/\x<=40:=fun x hx=>mb x (ch8 (emq▸hx))
     have mql:mq.length<=40:=by rw[emq,ce4];omega
     rw[<-emq] at g11;have k411:j3 g H4 H11:=(k46.trans (s69.but g)).trans (kb10.trans (s11.but g));have h11:=k411 _ _ h4 npg;obtain ⟨c,hc,P11⟩:∃c,c<=5000/\o6 H11 g c:=⟨_,by omega,P11⟩;clear hat h10q nqg mb kb10 g9 n4g n9 P10 r0 r1 s69 s9 s8 g8 s7 g7 k46 kb5 kb6 h5 h6 h7 P6 P5 P9 tp1 lp1 pm pm2 n11 n8 n7 emq ec e8;refine ⟨6,rfl,by decide,by decide,ae9 (lo:=0) (n:=6) (fun t ys σ Hx=>∃v:Option V,σ=[v,some (.ref g),some (.ref pa)]/\ys.length=t/\(∀y∈ys,Q1 K (E3 Hx g g) y)/\o6 Hx g (c+60*t)/\j3 g H11 Hx) ⟨none,rfl,rfl,(fun y hy=>by cases hy),P11,j3.refl _ _⟩ ?_ ?_⟩
     · rintro t ys σ Hx ht ⟨v,rfl,ly,th,Px,kbx⟩;have hx:=kbx _ _ h11 npg;refine ⟨_,rfl,_,rfl,g,pa,_,p,rfl,Px,by omega,hx,npg,pb,l40,fun y H7 P7 kb7 ty=>⟨q0 (by omega),_,rfl,by rw[cc7,ly];rfl,fun x hx=> ?_,P7.mono (by omega),kbx.trans kb7⟩⟩
       rcases cd2.mp hx with z|z
       · exact (th x z).keep (ab3 kb7)
       · rw[cd9.mp z];exact U6 ty
     rintro ys σ H12 ⟨v,rfl,ly,th,P12,kb12⟩ l5 n13;have s13:c9 H12 (c8 H12 l5 (.lst ys)):=c9.upd_new n13;have g13:(c8 H12 l5 (.lst ys)) l5=some (.lst ys):=c7;generalize (c8 H12 l5 (.lst ys))=H13 at s13 g13 ⊢;have h13:=s13 _ _ (kb12 _ _ h11 npg);refine ⟨(show 0<=sizeLine by decide),fun t1 n14=> ?_⟩;have s14:c9 H13 (c8 H13 t1 (.tup [])):=c9.upd_new n14;have g14:(c8 H13 t1 (.tup [])) t1=some (.tup []):=c7;generalize (c8 H13 t1 (.tup []))=H14 at s14 g14 ⊢;refine ⟨_,rfl,(show 1<=sizeLine by decide),fun o2 n15=> ?_⟩;have s15:c9 H14 (c8 H14 o2 (.lst [V.bl true])):=c9.upd_new n15;have g15:(c8 H14 o2 (.lst [V.bl true])) o2=some (.lst [V.bl true]):=c7;generalize (c8 H14 o2 (.lst [V.bl true]))=H15 at s15 g15 ⊢;refine ⟨pa,o2,_,_,rfl,rfl,s15 _ _ (s14 _ _ h13),g15,cf2 (q0 (by rw[cc4];simp;omega)),fun l8 n16=> ?_⟩;have s16:c9 H15 (c8 H15 l8 (.lst (p.map V.int++[V.bl true]))):=c9.upd_new n16;have g16:(c8 H15 l8 (.lst (p.map V.int++[V.bl true]))) l8=some (.lst (p.map V.int++[V.bl true])):=c7;generalize (c8 H15 l8 (.lst (p.map V.int++[V.bl true])))=H16 at s16 g16 ⊢;refine ⟨_,rfl,(show 1<=sizeLine by decide),fun l9 n17=> ?_⟩;have s17:c9 H16 (c8 H16 l9 (.lst [V.ref pa])):=c9.upd_new n17;have g17:(c8 H16 l9 (.lst [V.ref pa])) l9=some (.lst [V.ref pa]):=c7;generalize (c8 H16 l9 (.lst [V.ref pa]))=H17 at s17 g17 ⊢
     refine fun d1 n18=> ?_
     have s18:c9 H17 (c8 H17 d1 (.dK [])):=c9.upd_new n18;have g18:(c8 H17 d1 (.dK [])) d1=some (.dK []):=c7;generalize (c8 H17 d1 (.dK []))=H18 at s18 g18 ⊢;refine ⟨(show 7<=sizeLine by decide),fun lo n19=> ?_⟩;have s19:c9 H18 (c8 H18 lo (.lst [V.non,V.str (Str.ofString ""),V.ref t1,V.ref l8,V.ref l9,V.int 5,V.ref d1])):=c9.upd_new n19;have g19:(c8 H18 lo (.lst [V.non,V.str (Str.ofString ""),V.ref t1,V.ref l8,V.ref l9,V.int 5,V.ref d1])) lo=some (.lst [V.non,V.str (Str.ofString ""),V.ref t1,V.ref l8,V.ref l9,V.int 5,V.ref d1]):=c7;generalize (c8 H18 lo (.lst [V.non,V.str (Str.ofString ""),V.ref t1,V.ref l8,V.ref l9,V.int 5,V.ref d1]))=H19 at s19 g19 ⊢;obtain ⟨zs,ezs⟩:∃zs:List V,zs=[V.non,V.str (Str.ofString ""),V.ref t1,V.ref l8,V.ref l9,V.int 5,V.ref d1]:=⟨_,rfl⟩;rw[<-ezs] at g19
     have zl:zs.length=7:=by rw[ezs];rfl
     have t1318:=s14.trans (s15.trans (s16.trans (s17.trans (s18.trans s19))));refine ⟨l5,lo,_,zs,rfl,rfl,t1318 _ _ g13,g19,cf2 (q0 (by rw[ly,zl];decide)),fun nl n20=> ?_⟩;have s20:c9 H19 (c8 H19 nl (.lst (ys++zs))):=c9.upd_new n20;have g20:(c8 H19 nl (.lst (ys++zs))) nl=some (.lst (ys++zs)):=c7;generalize (c8 H19 nl (.lst (ys++zs)))=H20 at s20 g20 ⊢;have s1220:=s13.trans (t1318.trans s20);have P20:=j5 P12 s1220;have nng:nl≠g:=k6 (j5 P12 (s13.trans t1318)) n20;refine ⟨_,rfl,.inl ⟨rfl,_,j4.of g20⟩,_,rfl,g,_,2959,rfl,P20,by omega,by decide,by decide,fun r H21 r0 r1 P21 kb21=>⟨_,_,rfl,rfl,_,rfl,fun rg n22=> ?_⟩⟩;have g21:=kb21 _ _ g20 nng;have s22:c9 H21 (c8 H21 rg (.rng 0 (42+r))):=c9.upd_new n22;have g22:(c8 H21 rg (.rng 0 (42+r))) rg=some (.rng 0 (42+r)):=c7;generalize (c8 H21 rg (.rng 0 (42+r)))=H22 at s22 g22 ⊢;refine ⟨rg,0,42+r,rfl,g22,⟨by omega,by omega,by omega,by omega⟩,by omega,fun lr n23=> ?_⟩;rw[show (42+r - 0).toNat=(42+r).toNat by omega];have s23:c9 H22 (c8 H22 lr (.lst ((C4 0 (42+r).toNat).map V.int))):=c9.upd_new n23;have g23:(c8 H22 lr (.lst ((C4 0 (42+r).toNat).map V.int))) lr=some (.lst ((C4 0 (42+r).toNat).map V.int)):=c7;generalize (c8 H22 lr (.lst ((C4 0 (42+r).toNat).map V.int)))=H23 at s23 g23 ⊢;have nlr:nl≠lr:=i7 (s22 _ _ g21) n23;have s2123:=s22.trans s23;refine ⟨nl,_,_,rfl,rfl,s2123 _ _ g21,q0 (by rw[cc7,ly,zl];decide),?_⟩;have k24:j3 nl H23 (c8 H23 nl (.lst (ys++zs++[V.ref lr]))):=j3.upd;have g24:(c8 H23 nl (.lst (ys++zs++[V.ref lr]))) nl=some (.lst (ys++zs++[V.ref lr])):=c7;obtain ⟨xs,exs⟩:∃xs:List V,xs=ys++zs++[V.ref lr]:=⟨_,rfl⟩
     have P24:o6 (c8 H23 nl (.lst (ys++zs++[V.ref lr]))) g (c+60*6+1):=by
       obtain ⟨x,y,z,e1,e2⟩:=j5 P21 s2123;exact ⟨x,y,z,by rw[i6 nng.symm];exact e1,e2⟩
     have s423:j3 g H4 H23:=(k411.trans kb12).trans ((s1220.but g).trans (kb21.trans (s2123.but g)));have hnl:H12 nl=none:=(s13.trans t1318).free n20
     have k1224:∀b o,H12 b=some o->b≠g->(c8 H23 nl (.lst (ys++zs++[V.ref lr]))) b=some o:=fun b o hb nb=>by rw[i6 (i7 hb hnl)];exact s2123 _ _ (kb21 _ _ (s1220 _ _ hb) nb)
     have up:∀b o,H19 b=some o->b≠g->(c8 H23 nl (.lst (ys++zs++[V.ref lr]))) b=some o:=fun b o hb nb=>by rw[i6 (i7 hb n20)];exact s2123 _ _ (kb21 _ _ (s20 _ _ hb) nb)
     have hlr:(c8 H23 nl (.lst (ys++zs++[V.ref lr]))) lr=some (.lst ((C4 0 (42+r).toNat).map V.int)):=by rw[i6 nlr.symm];exact g23
     have nrg:lr≠g:=k6 (j5 P21 s22) n23;generalize (c8 H23 nl (.lst (ys++zs++[V.ref lr])))=H24 at k24 g24 P24 k1224 up hlr ⊢;rw[<-exs] at g24;have h24:=k1224 _ _ (kb12 _ _ h11 npg) npg;have q24:=k1224 _ _ (kb12 _ _ g11 nbg) nbg
     have s024:c9 H H24:=fun b o hb=>k1224 _ _ (kb12 _ _ (k411 _ _ (s04 _ _ hb) (i7 hb hg0)) (i7 hb hg0)) (i7 hb hg0)
     have ng12:∀{b:Addr} {Hz:Hp},c9 H12 Hz->Hz b=none->b≠g:=fun {b Hz} s hb=>k6 (j5 P12 s) hb
     have u14:=s15.trans (s16.trans (s17.trans (s18.trans s19)));have u16:=s17.trans (s18.trans s19);have u17:=s18.trans s19;have hp24:E3 H24 g g pa=some (.lst (p.map V.int)):=B0 h24 npg npg
     have itp:J8 K (E3 H24 g g) (.ref pa):=aq3 hp24 (by omega) fun x hx=>by have:=pb x hx;omega
     have all:∀x∈xs,Q1 K (E3 H24 g g) x:=fun x hx=>by
       rw[exs] at hx
       rcases cd2.mp hx with hx|hx
       · rcases cd2.mp hx with hx|hx
         · exact (th x hx).keep fun b o hb=>let ⟨e,n1,n2⟩:=aa3 hb;B0 (k1224 _ _ e n1) n1 n2
         · rw[ezs] at hx;simp only[ce0,ch3,or_false] at hx
           rcases hx with rfl|rfl|rfl|rfl|rfl|rfl|rfl
           · exact U6 (E5 .non (Q3 K) .non (.inl (.of ag0)))
           · exact U6 (E5 (.str _) (M3 K) (.str _) (.inl (.of (av0 (K:=K)).sh)))
           · have ng:=ng12 s13 n14;exact bq7 (B0 (up _ _ (u14 _ _ g14) ng) ng ng)
           · have ng:=ng12 (s13.trans (s14.trans s15)) n16;refine U6 (C2 (B0 (up _ _ (u16 _ _ g16) ng) ng ng) (fun y hy=> ?_) (by rw[cc7,cc4];simp;omega))
             rcases cd2.mp hy with z|z
             · exact D4 (fun x hx=>by have:=pb x hx;omega) y z
             · rw[cd9.mp z];exact ag4 true
           · have ng:=ng12 (s13.trans (s14.trans (s15.trans s16))) n17;exact U6 (C2 (B0 (up _ _ (u17 _ _ g17) ng) ng ng) (fun y hy=>by rw[cd9.mp hy];exact itp) (by simp))
           · exact U6 (E5 (.int 5) (aa0 K) (.int 5) (.inl (.of (af9 ⟨by omega,by omega⟩))))
           · have ng:=ng12 (s13.trans (s14.trans (s15.trans (s16.trans s17)))) n18;exact U6 (E5 (.dK (B0 (up _ _ (s19 _ _ g18) ng) ng ng)) (K4 K) (.dic (B0 (up _ _ (s19 _ _ g18) ng) ng ng)) (.inl (.of (ag1 (B0 (up _ _ (s19 _ _ g18) ng) ng ng)))))
       · rw[cd9.mp hx];exact ar1 (B0 hlr nrg nrg) (by rw[A2];omega) (by rw[A2];omega)
     have thp:Q1 K (E3 H24 g g) (.ref pa):=U6 (C2 hp24 (D4 fun x hx=>by have:=pb x hx;omega) (by rw[cc4];omega));have thq:Q1 K (E3 H24 g g) (.ref qb):=U6 (C2 (B0 q24 nbg nbg) (D4 fun x hx=>by have:=mqb x hx;omega) (by rw[cc4];omega));obtain ⟨c2,hc2,P24⟩:∃c2,c2<=6000/\o6 H24 g c2:=⟨_,by omega,P24⟩
     have xl:xs.length=14:=by rw[exs,cc7,cc7,ly,zl];rfl
     have th24:∀{v:V} {Hz:Hp},Q1 K (E3 H24 g g) v->j3 g H24 Hz->Q1 K Hz v:=fun {v Hz} t kb=>(t.keep (ab3 kb)).keep (be8 Hz g g)
     clear th up k1224 hlr s423 k24 itp hp24 u14 u16 u17 ng12 t1318 s1220 s2123 g13 g14 g15 g16 g17 g18 g19 g20 g21 g22 g23 s13 s14 s15 s16 s17 s18 s19 s20 s22 s23 hnl nlr nrg P20 P21 kb21 n13 n14 n15 n16 n17 n18 n19 n20 n22 n23 P12 P11 kb12 h13 s11 g11
     refine ⟨_,rfl,nl,rfl,⟨_,j4.of g24⟩,E8 (K:=K) (a:=nl) (xs:=xs) (fun j σ Hx=>∃v6 v7 v8:Option V,σ=[some (.ref a),some (.int ((0:Int)+(i:Int))),some (.ref g),some (.ref pa),some (.ref qb),some (.ref nl),v6,v7,v8,v9]/\j3 g H24 Hx/\o6 Hx g (c2+20*j))
       ⟨v6,v7,v8,rfl,j3.refl _ _,P24⟩ (fun j σ Hx _ zz=>by obtain ⟨_,_,_,_,kb,_⟩:=zz;exact j4.of (kb _ _ g24 nng)) ?_ ?_⟩
     · rintro j x σ Hx hj ⟨v6,v7,v8,rfl,kbx,Px⟩
       have jl:j < 14:=by rw[<-xl];exact (cc5.mp hj).1
       have tx:=all x (cd7 hj);refine ⟨_,rfl,_,rfl,g,_,rfl,Px,by omega,fun z H30 P30 kb30=>⟨_,_,rfl,rfl,⟨by decide,by decide,by decide⟩,_,_,rfl,rfl,(show 6<=sizeLine by decide),fun nu n31=> ?_⟩⟩;have s31:c9 H30 (c8 H30 nu (.lst [V.int 0,V.int 1,(fun i=>V.int (-i)) 1,V.int 2,V.int z,(fun i j=>V.int (i - j)) (10^cj7 30) 1])):=c9.upd_new n31;have g31:(c8 H30 nu (.lst [V.int 0,V.int 1,(fun i=>V.int (-i)) 1,V.int 2,V.int z,(fun i j=>V.int (i - j)) (10^cj7 30) 1])) nu=some (.lst [V.int 0,V.int 1,(fun i=>V.int (-i)) 1,V.int 2,V.int z,(fun i j=>V.int (i - j)) (10^cj7 30) 1]):=c7;generalize (c8 H30 nu (.lst [V.int 0,V.int 1,(fun i=>V.int (-i)) 1,V.int 2,V.int z,(fun i j=>V.int (i - j)) (10^cj7 30) 1]))=H31 at s31 g31 ⊢;have g31:H31 nu=some (.lst [V.int 0,V.int 1,V.int (-1),V.int 2,V.int z,V.int (10^(30:Int).toNat - 1)]):=g31;have nug:nu≠g:=k6 P30 n31;have P31:=j5 P30 s31;refine ⟨_,rfl,g,_,6,rfl,P31,by omega,by decide,by decide,fun r3 H32 a0 a1 P32 kb32=> ?_⟩;have g32:=kb32 _ _ g31 nug
       obtain ⟨y,hat⟩:∃y:Int,V7 [V.int 0,V.int 1,V.int (-1),V.int 2,V.int z,V.int (10^(30:Int).toNat - 1)] r3=some (.int y):=by
         have:r3=0\/r3=1\/r3=2\/r3=3\/r3=4\/r3=5:=by omega
         rcases this with rfl|rfl|rfl|rfl|rfl|rfl
         · exact ⟨_,o8 (j:=0) rfl⟩
         · exact ⟨_,o8 (j:=1) rfl⟩
         · exact ⟨_,o8 (j:=2) rfl⟩
         · exact ⟨_,o8 (j:=3) rfl⟩
         · exact ⟨_,o8 (j:=4) rfl⟩
         · exact ⟨_,o8 (j:=5) rfl⟩
       refine ⟨nu,_,_,_,rfl,rfl,j4.of g32,hat,?_⟩;have kb2432:j3 g H24 H32:=kbx.trans (kb30.trans ((s31.but g).trans kb32))
       refine ⟨3,rfl,by decide,by decide,U3 (lo:=0) (n:=3) (fun w σ Hy=>∃v8:Option V,σ=[some (.ref a),some (.int ((0:Int)+(i:Int))),some (.ref g),some (.ref pa),some (.ref qb),some (.ref nl),some x,some (.int y),v8,v9]/\j3 g H24 Hy/\o6 Hy g (c2+20*j+11+w))
         ⟨v8,rfl,kb2432,P32.mono (by omega)⟩ ?_ ?_⟩
       · rintro w σ Hy hw ⟨v8,rfl,kby,Py⟩;refine ⟨_,rfl,_,rfl,_,rfl,_,rfl,_,y,x,.ref qb,rfl,by omega,by omega,th24 tx kby,th24 thq kby,fun H40 s40=>⟨_,rfl,A4 ?_⟩⟩;have kb40:=kby.trans (s40.but g);refine ⟨_,rfl,_,rfl,_,rfl,_,rfl,_,y,.ref pa,x,rfl,by omega,by omega,th24 thp kb40,th24 tx kb40,fun H41 s41=>⟨_,rfl,A4 ?_⟩⟩;have kb41:=kb40.trans (s41.but g);have P41:=j5 Py (s40.trans s41);refine ⟨_,rfl,_,rfl,_,rfl,_,rfl,_,rfl,nl,_,rfl,.inl (j4.of (kb41 _ _ g24 nng)),g,_,_,rfl,P41,by omega,by rw[xl];decide,by rw[xl];decide,fun r4 H42 b0 b1 P42 kb42=> ?_⟩;rw[xl] at b1;obtain ⟨m,rfl⟩:=cf1 b0
         have ml:m < xs.length:=by rw[xl];omega
         have kb4242:=kb41.trans kb42;refine ⟨nl,_,_,_,rfl,rfl,j4.of (kb4242 _ _ g24 nng),o8 (cc6 ml),_,rfl,_,y,x,xs[m],rfl,by omega,by omega,th24 tx kb4242,th24 (all _ (ce7 ml)) kb4242,fun H43 s43=>⟨_,rfl,A4 ?_⟩⟩;exact ⟨_,rfl,kb4242.trans (s43.but g),(j5 P42 s43).mono (by omega)⟩
       rintro σ Hy ⟨v8,rfl,kby,Py⟩;exact ⟨_,_,_,rfl,kby,Py.mono (by omega)⟩
     rintro σ Hx ⟨v6,v7,v8,rfl,kbx,Px⟩;refine ⟨_,rfl,_,rfl,0,0,.ref pa,.ref qb,rfl,by decide,by decide,th24 thp kbx,th24 thq kbx,fun H50 s50=>⟨_,rfl,A4 ?_⟩⟩;have kb50:=kbx.trans (s50.but g);refine ⟨_,rfl,_,rfl,0,0,.ref qb,.ref pa,rfl,by decide,by decide,th24 thq kb50,th24 thp kb50,fun H51 s51=>⟨_,rfl,A4 ?_⟩⟩;exact ⟨_,_,_,_,_,_,_,_,_,rfl,(s024.kb (kb50.trans (s51.but g)) hg0)⟩
   rintro σ H1 ⟨v1,v2,v3,v4,v5,v6,v7,v8,v9,rfl,s01⟩;refine ⟨(show 2<=sizeLine by decide),fun b1 m1=> ?_⟩;have s1:c9 H1 (c8 H1 b1 (.lst [V.int 0,V.int 0])):=c9.upd_new m1;have g1:(c8 H1 b1 (.lst [V.int 0,V.int 0])) b1=some (.lst (([0,0]:List Int).map V.int)):=c7;generalize (c8 H1 b1 (.lst [V.int 0,V.int 0]))=H2 at s1 g1 ⊢;refine ⟨(show 1<=sizeLine by decide),fun b2 m2=> ?_⟩;have s2:c9 H2 (c8 H2 b2 (.lst [V.int 1])):=c9.upd_new m2;have g2:(c8 H2 b2 (.lst [V.int 1])) b2=some (.lst (([1]:List Int).map V.int)):=c7;generalize (c8 H2 b2 (.lst [V.int 1]))=H3 at s2 g2 ⊢;refine ⟨(show 1<=sizeLine by decide),fun b3 m3=> ?_⟩;have s3:c9 H3 (c8 H3 b3 (.tup [V.int 0])):=c9.upd_new m3;have g3:(c8 H3 b3 (.tup [V.int 0])) b3=some (.tup [V.int 0]):=c7;generalize (c8 H3 b3 (.tup [V.int 0]))=H4 at s3 g3 ⊢;refine ⟨(show 1<=sizeLine by decide),fun b4 m4=> ?_⟩;have s4:c9 H4 (c8 H4 b4 (.lst [V.bl true])):=c9.upd_new m4;have g4:(c8 H4 b4 (.lst [V.bl true])) b4=some (.lst [V.bl true]):=c7;generalize (c8 H4 b4 (.lst [V.bl true]))=H5 at s4 g4 ⊢;refine ⟨41,rfl,fun rg m5=> ?_⟩;have s5:c9 H5 (c8 H5 rg (.rng 0 41)):=c9.upd_new m5;have g5:(c8 H5 rg (.rng 0 41)) rg=some (.rng 0 41):=c7;generalize (c8 H5 rg (.rng 0 41))=H6 at s5 g5 ⊢;refine ⟨rg,0,41,rfl,g5,⟨by decide,by decide,by decide,by decide⟩,by decide,fun b5 m6=> ?_⟩;rw[show ((41:Int) - 0).toNat=41 by decide];have s6:c9 H6 (c8 H6 b5 (.lst ((C4 0 41).map V.int))):=c9.upd_new m6;have g6:(c8 H6 b5 (.lst ((C4 0 41).map V.int))) b5=some (.lst ((C4 0 41).map V.int)):=c7;generalize (c8 H6 b5 (.lst ((C4 0 41).map V.int)))=H7 at s6 g6 ⊢;refine ⟨(show 2<=sizeLine by decide),fun b6 m7=> ?_⟩;have s7:c9 H7 (c8 H7 b6 (.lst [V.int 0,V.int 2])):=c9.upd_new m7;have g7:(c8 H7 b6 (.lst [V.int 0,V.int 2])) b6=some (.lst (([0,2]:List Int).map V.int)):=c7;generalize (c8 H7 b6 (.lst [V.int 0,V.int 2]))=H8 at s7 g7 ⊢;refine ⟨(show 3<=sizeLine by decide),fun b7 m8=> ?_⟩;have s8:c9 H8 (c8 H8 b7 (.lst [V.int 1,V.int 1,V.int 1])):=c9.upd_new m8;have g8:(c8 H8 b7 (.lst [V.int 1,V.int 1,V.int 1])) b7=some (.lst (([1,1,1]:List Int).map V.int)):=c7;generalize (c8 H8 b7 (.lst [V.int 1,V.int 1,V.int 1]))=H9 at s8 g8 ⊢
   refine fun b8 m9=> ?_
   have s9:c9 H9 (c8 H9 b8 (.dK [])):=c9.upd_new m9;have g9:(c8 H9 b8 (.dK [])) b8=some (.dK []):=c7;generalize (c8 H9 b8 (.dK []))=H10 at s9 g9 ⊢;refine ⟨(show 10<=sizeLine by decide),fun lo m10=> ?_⟩;have s10:c9 H10 (c8 H10 lo (.lst [V.ref b1,V.ref b2,V.ref b3,V.ref b4,V.non,V.ref b5,V.ref b6,V.ref b7,V.str (Str.ofString ""),V.ref b8])):=c9.upd_new m10;have g10:(c8 H10 lo (.lst [V.ref b1,V.ref b2,V.ref b3,V.ref b4,V.non,V.ref b5,V.ref b6,V.ref b7,V.str (Str.ofString ""),V.ref b8])) lo=some (.lst [V.ref b1,V.ref b2,V.ref b3,V.ref b4,V.non,V.ref b5,V.ref b6,V.ref b7,V.str (Str.ofString ""),V.ref b8]):=c7;generalize (c8 H10 lo (.lst [V.ref b1,V.ref b2,V.ref b3,V.ref b4,V.non,V.ref b5,V.ref b6,V.ref b7,V.str (Str.ofString ""),V.ref b8]))=H11 at s10 g10 ⊢;obtain ⟨xs,exs⟩:∃xs:List V,xs=[V.ref b1,V.ref b2,V.ref b3,V.ref b4,V.non,V.ref b5,V.ref b6,V.ref b7,V.str (Str.ofString ""),V.ref b8]:=⟨_,rfl⟩;rw[<-exs] at g10;have t9:=s10;have t8:=s9.trans t9;have t7:=s8.trans t8;have t6:=s7.trans t7;have t5:=s6.trans t6;have t4:=s5.trans t5;have t3:=s4.trans t4;have t2:=s3.trans t3;have t1:=s2.trans t2
   have sm:∀{M:Hp} {b:Addr} {ns:List Int},M b=some (.lst (ns.map V.int))->ns.length<=60->(∀x∈ns,-100<=x/\x<=100)->Q1 K M (.ref b):=fun {M b ns} h l hb=>U6 (C2 h (D4 hb) (by rw[cc4];omega))
   have all:∀x∈xs,Q1 K H11 x:=fun x hx=>by
     rw[exs] at hx;simp only[ce0,ch3,or_false] at hx
     rcases hx with rfl|rfl|rfl|rfl|rfl|rfl|rfl|rfl|rfl|rfl
     · exact sm (t1 _ _ g1) (by decide) (by decide)
     · exact sm (t2 _ _ g2) (by decide) (by decide)
     · exact bk1 (t3 _ _ g3)
     · exact U6 (C2 (t4 _ _ g4) (fun y hy=>by rw[cd9.mp hy];exact ag4 true) (by decide))
     · exact U6 (E5 .non (Q3 K) .non (.inl (.of ag0)))
     · exact ar1 (t6 _ _ g6) (by rw[A2];decide) (by rw[A2];decide)
     · exact sm (t7 _ _ g7) (by decide) (by decide)
     · exact sm (t8 _ _ g8) (by decide) (by decide)
     · exact U6 (E5 (.str _) (M3 K) (.str _) (.inl (.of (av0 (K:=K)).sh)))
     · exact U6 (E5 (.dK (t9 _ _ g9)) (K4 K) (.dic (t9 _ _ g9)) (.inl (.of (ag1 (t9 _ _ g9)))))
   refine ⟨lo,rfl,⟨_,j4.of g10⟩,E8 (K:=K) (a:=lo) (xs:=xs) (fun j σ Hx=>∃u1 u2 u3 u4 u5 u6 u7 u8 u9:Option V,σ=[some (.ref a),u1,u2,u3,u4,u5,u6,u7,u8,u9]/\c9 H11 Hx)
     ⟨_,_,_,_,_,_,_,_,_,rfl,c9.refl _⟩ (fun j σ Hx _ zz=>by obtain ⟨_,_,_,_,_,_,_,_,_,_,s⟩:=zz;exact j4.of (s _ _ g10)) ?_ ?_⟩
   · rintro j x σ Hx hj ⟨u1,u2,u3,u4,u5,u6,u7,u8,u9,rfl,sx⟩;have tx:=all x (cd7 hj);refine ⟨_,rfl,_,rfl,(show 7<=sizeLine by decide),fun nu m11=> ?_⟩;have s11:c9 Hx (c8 Hx nu (.lst [V.int 0,V.int 1,(fun i=>V.int (-i)) 1,V.int 2,(fun i=>V.int (-i)) 2,V.int 3,V.int 40])):=c9.upd_new m11;have g11:(c8 Hx nu (.lst [V.int 0,V.int 1,(fun i=>V.int (-i)) 1,V.int 2,(fun i=>V.int (-i)) 2,V.int 3,V.int 40])) nu=some (.lst (([0,1,-1,2,-2,3,40]:List Int).map V.int)):=c7;generalize (c8 Hx nu (.lst [V.int 0,V.int 1,(fun i=>V.int (-i)) 1,V.int 2,(fun i=>V.int (-i)) 2,V.int 3,V.int 40]))=H12 at s11 g11 ⊢
     refine ⟨nu,rfl,⟨_,j4.of g11⟩,E8 (K:=K) (a:=nu) (xs:=([0,1,-1,2,-2,3,40]:List Int).map V.int) (fun j σ Hy=>∃u7:Option V,σ=[some (.ref a),u1,u2,u3,u4,u5,some x,u7,u8,u9]/\c9 H12 Hy)
       ⟨_,rfl,c9.refl _⟩ (fun j σ Hy _ zz=>by obtain ⟨_,_,s⟩:=zz;exact j4.of (s _ _ g11)) ?_ ?_⟩
     · rintro j2 y σ Hy hj2 ⟨u7,rfl,sy⟩;obtain ⟨z,hz,rfl⟩:=D0 hj2;refine ⟨_,rfl,(show 0<=sizeLine by decide),fun em m12=> ?_⟩;have s12:c9 Hy (c8 Hy em (.lst [])):=c9.upd_new m12;have g12:(c8 Hy em (.lst [])) em=some (.lst (([]:List Int).map V.int)):=c7;generalize (c8 Hy em (.lst []))=H13 at s12 g12 ⊢;refine ⟨_,rfl,2,z,x,.ref em,rfl,by decide,by decide,tx.keep (sx.trans (s11.trans (sy.trans s12))),sm g12 (by decide) (by decide),fun H14 s14=>⟨_,rfl,A4 ?_⟩⟩;exact ⟨_,rfl,sy.trans (s12.trans s14)⟩
     rintro σ Hy ⟨u7,rfl,sy⟩;exact ⟨_,_,_,_,_,_,_,_,_,rfl,sx.trans (s11.trans sy)⟩
   rintro σ Hx ⟨u1,u2,u3,u4,u5,u6,u7,u8,u9,rfl,sx⟩;refine ⟨_,2000,rfl,rfl,(by unfold PySem.MulOk;decide+kernel),?_⟩;refine ⟨(show 4<=sizeLine by decide),fun lw m13=> ?_⟩;obtain ⟨tw,etw⟩:∃tw:List Str,tw=[Str.ofString "words",Str.ofString "",Str.ofString " Two words, (0 1) ",Txt.mul (Str.ofString "x") 2000]:=⟨_,rfl⟩;have s13:c9 Hx (c8 Hx lw (.lst [V.str (Str.ofString "words"),V.str (Str.ofString ""),V.str (Str.ofString " Two words, (0 1) "),V.str (Txt.mul (Str.ofString "x") 2000)])):=c9.upd_new m13
   have g13:(c8 Hx lw (.lst [V.str (Str.ofString "words"),V.str (Str.ofString ""),V.str (Str.ofString " Two words, (0 1) "),V.str (Txt.mul (Str.ofString "x") 2000)])) lw=some (.lst (tw.map V.str)):=by rw[c7,etw];rfl
   generalize (c8 Hx lw (.lst [V.str (Str.ofString "words"),V.str (Str.ofString ""),V.str (Str.ofString " Two words, (0 1) "),V.str (Txt.mul (Str.ofString "x") 2000)]))=H13 at s13 g13 ⊢;refine ⟨_,rfl,lw,rfl,⟨_,j4.of g13⟩,Z2 (K:=K) (a:=lw) (xs:=tw.map V.str) (fun j zs σ Hy=>∃v:Option V,σ=[v]/\zs=[]/\Hy=H13) ⟨none,rfl,rfl,rfl⟩ (fun j zs σ Hy _ zz=>by obtain ⟨_,_,_,e⟩:=zz;rw[e];exact j4.of g13) ?_ ?_⟩
   · rintro j x zs σ Hy hj ⟨v,rfl,rfl,rfl⟩
     obtain ⟨m,rfl⟩:∃m,x=V.str m:=by
       rw[ce3] at hj;obtain ⟨m,_,e⟩:=Option.map_eq_some_iff.mp hj;exact ⟨m,e.symm⟩
     exact ⟨_,rfl,m,rfl,_,rfl,rfl,_,rfl,O0 rfl ⟨_,rfl,m,rfl,_,rfl,rfl,_,rfl,O0 rfl ⟨_,rfl,rfl,rfl⟩⟩⟩
   rintro zs σ Hy ⟨v,rfl,rfl,rfl⟩ D hD;have s14:c9 Hy (c8 Hy D (.lst [])):=c9.upd_new hD;have g14:(c8 Hy D (.lst [])) D=some (.lst []):=c7;generalize (c8 Hy D (.lst []))=H14 at s14 g14 ⊢;refine ⟨cg0 _,fun e0 he0=> ?_⟩;have s15:c9 H14 (c8 H14 e0 (.lst [])):=c9.upd_new he0;have g15:(c8 H14 e0 (.lst [])) e0=some (.lst []):=c7;generalize (c8 H14 e0 (.lst []))=H15 at s15 g15 ⊢;exact ⟨D,e0,_,_,_,rfl,rfl,j4.of (s15 _ _ g14),j4.of g15,at9 K H15 0 [],q H15⟩
end
end My
namespace My
open PySem L2 Mth
theorem bn1 {P:List Value->Prop}(h:∀x0,P [x0]):∀us:List Value,us.length=1->P us
 |[_],_=>h _
theorem Y7 {P:List Value->Prop}(h:∀x0 x1,P [x0,x1]):∀us:List Value,us.length=2->P us
 |[_,_],_=>h _ _
theorem bn3 {P:List Value->Prop}(h:∀x0 x1 x2,P [x0,x1,x2]):∀us:List Value,us.length=3->P us
 |[_,_,_],_=>h _ _ _
theorem bn4 {P:List Value->Prop}(h:∀x0 x1 x2 x3,P [x0,x1,x2,x3]):∀us:List Value,us.length=4->P us
 |[_,_,_,_],_=>h _ _ _ _
theorem cc2 {l:PySem.W.OpenLaw}{w:World}{K:PySem.W.Frag}{h:Heap}{mg:Str->Option Value}{fa f0 f1 f2 f3 f4 f5 f6 f7 f8 f9 f10 f11 f12 f13 f14 f15 f16 f17 f18 f19 f20 f21 f22 f23:Addr}{zxx zzz zzy zy zyz zyx zyy zw zx zxz zwz:Addr}{tk0:Tok}(X:K.In h)(G:h.Ns mainGlobals mg)(hfa:mg "law"=some (.ref fa))
   (u0:Fu K "is_whole" X5 f0)
   (u1:Fu K "walk_ring" V0 f1)
   (u2:Fu K "walk_rings" T4 f2)
   (u3:Fu K "send_along" T5 f3)
   (u4:Fu K "is_turn" O8 f4)
   (u5:Fu K "must_be_turn" E7 f5)
   (u6:Fu K "must_fit" M5 f6)
   (u7:Fu K "put_behind" J0 f7)
   (u8:Fu K "power_of" M7 f8)
   (u9:Fu K "way_back" M6 f9)
   (u10:Fu K "_law_pool" X6 f10)
   (u11:Fu K "_law_take" X7 f11)
   (u12:Fu K "_law_mixed_up" N6 f12)
   (u13:Fu K "_law_by_lengths" K7 f13)
   (u14:Fu K "_law_lengths" Q4 f14)
   (u15:Fu K "_law_turn" X8 f15)
   (u16:Fu K "_law_is_turn" Q5 f16)
   (u17:Fu K "_law_odd" aa1 f17)
   (u18:Fu K "_law_spoilt" T6 f18)
   (u19:Fu K "_law_is" ad3 f19)
   (u20:Fu K "_law_number" T7 f20)
   (u21:Fu K "_law_caught" T8 f21)
   (u22:Fu K "_law_right" V1 f22)
   (u23:Fu K "law" ab0 f23)
   (m0:PySem.W.nsIn K mainGlobals "MOST_THINGS"=some (some (.int 40 tk0)))
   (zz:Fre K ["len","isinstance","int","bool","list","range","sum","min","max","enumerate","zip","sorted","tuple","str","repr","all","any","set","dict","ValueError"])
   (uT:PySem.W.nsIn K mainGlobals "TurnError"=some (some (.ref zxx)))
   (uTb:PySem.W.mroIn K zxx (.type "BaseException")=some true)
   (uTc:PySem.W.isClsIn K zxx=true)
   (uTt:PySem.W.typeIn K (.ref zxx)=some (.type "type"))
   (uG:PySem.W.specialIn K (.builtin "object.__class__") "__get__"=some (some (.builtin "getset_descriptor.__get__")))
   (uK:PySem.W.takesIn K (.builtin "object.__class__")=some true)
   (uC:ah4 K zxx [(("NoTurn":Str),zzz),(("NoFit":Str),zzy),(("NoRounds":Str),zy),(("NoNumber":Str),zyz),(("NoRoot":Str),zyx),(("TooMany":Str),zyy),(("NoKind":Str),zw),(("NoText":Str),zx),(("NoName":Str),zxz),(("NoRow":Str),zwz)])
   (uP:ah5 K [(("NoTurn":Str),zzz),(("NoFit":Str),zzy),(("NoRounds":Str),zy),(("NoNumber":Str),zyz),(("NoRoot":Str),zyx),(("TooMany":Str),zyy),(("NoKind":Str),zw),(("NoText":Str),zx),(("NoName":Str),zxz),(("NoRow":Str),zwz)] 0 [(("NoTurn":Str),zzz),(("NoFit":Str),zzy),(("NoRounds":Str),zy),(("NoNumber":Str),zyz),(("NoRoot":Str),zyx),(("TooMany":Str),zyy),(("NoKind":Str),zw),(("NoText":Str),zx),(("NoName":Str),zxz),(("NoRow":Str),zwz)])
   :∃fd:FuncData,(∀(s:Shared) (v:Value),BindsTo s fd ⟨[v],[]⟩ [("script",v)])/\∀base:Heap,K.In base->base.Ns mainGlobals mg->o4 l.prog w K mg base C6 8 fa fd ["script"] (al9 K):=by
 obtain ⟨d0,a0,F0⟩:=u0;obtain ⟨d1,a1,F1⟩:=u1;obtain ⟨d2,a2,F2⟩:=u2;obtain ⟨d3,a3,F3⟩:=u3;obtain ⟨d4,a4,F4⟩:=u4;obtain ⟨d5,a5,F5⟩:=u5;obtain ⟨d6,a6,F6⟩:=u6;obtain ⟨d7,a7,F7⟩:=u7;obtain ⟨d8,a8,F8⟩:=u8;obtain ⟨d9,a9,F9⟩:=u9;obtain ⟨d10,a10,F10⟩:=u10;obtain ⟨d11,a11,F11⟩:=u11;obtain ⟨d12,a12,F12⟩:=u12;obtain ⟨d13,a13,F13⟩:=u13;obtain ⟨d14,a14,F14⟩:=u14;obtain ⟨d15,a15,F15⟩:=u15;obtain ⟨d16,a16,F16⟩:=u16;obtain ⟨d17,a17,F17⟩:=u17;obtain ⟨d18,a18,F18⟩:=u18;obtain ⟨d19,a19,F19⟩:=u19;obtain ⟨d20,a20,F20⟩:=u20;obtain ⟨d21,a21,F21⟩:=u21;obtain ⟨d22,a22,F22⟩:=u22;obtain ⟨d23,a23,F23⟩:=u23;have e:=hfa.symm.trans (PySem.W.mg_of X G a23);cases e;obtain ⟨z0,z1,z2,z3,z4,z5,z6,z7,z8,z9,z10,z11,z12,z13,z14,z15,z16,z17,z18,z19,_⟩:=zz;have zn {y:Str} (z:PySem.W.nsIn K mainGlobals y=some none):=PySem.W.mg_none_of X G z;have B:Bl mg:=⟨zn z0,zn z1,zn z2,zn z3,zn z4,zn z5,zn z6,zn z7,zn z8,zn z9,zn z10,zn z11,zn z12,zn z13,zn z14,zn z15,zn z16,zn z17,zn z18,zn z19⟩;have mt:∃t,mg "MOST_THINGS"=some (.int 40 t):=⟨_,PySem.W.mg_of X G m0⟩;have ER:Z9 K mg zxx [(("NoTurn":Str),zzz),(("NoFit":Str),zzy),(("NoRounds":Str),zy),(("NoNumber":Str),zyz),(("NoRoot":Str),zyx),(("TooMany":Str),zyy),(("NoKind":Str),zw),(("NoText":Str),zx),(("NoName":Str),zxz),(("NoRow":Str),zwz)]:=be0 X G uT uTb uTc uTt uG uK uC uP (show (["NoTurn","NoFit","NoRounds","NoNumber","NoRoot","TooMany","NoKind","NoText","NoName","NoRow"]:List Str).Nodup by decide+kernel)
 have ES:∀p∈[(("NoTurn":Str),zzz),(("NoFit":Str),zzy),(("NoRounds":Str),zy),(("NoNumber":Str),zyz),(("NoRoot":Str),zyx),(("TooMany":Str),zyy),(("NoKind":Str),zw),(("NoText":Str),zx),(("NoName":Str),zxz),(("NoRow":Str),zwz)],bi8 K p.2:=fun p hp=>⟨(uC.get p hp).s,(uC.get p hp).b⟩
 have zpz:T3 K mg "NoTurn" zzz:=ER.err ("NoTurn",zzz) (by simp);have zoy:T3 K mg "NoFit" zzy:=ER.err ("NoFit",zzy) (by simp);have e_NoRounds:T3 K mg "NoRounds" zy:=ER.err ("NoRounds",zy) (by simp);have e_NoNumber:T3 K mg "NoNumber" zyz:=ER.err ("NoNumber",zyz) (by simp);have e_NoRoot:T3 K mg "NoRoot" zyx:=ER.err ("NoRoot",zyx) (by simp);have e_TooMany:T3 K mg "TooMany" zyy:=ER.err ("TooMany",zyy) (by simp);have e_NoKind:T3 K mg "NoKind" zw:=ER.err ("NoKind",zw) (by simp);have e_NoText:T3 K mg "NoText" zx:=ER.err ("NoText",zx) (by simp);have e_NoName:T3 K mg "NoName" zxz:=ER.err ("NoName",zxz) (by simp);have e_NoRow:T3 K mg "NoRow" zwz:=ER.err ("NoRow",zwz) (by simp)
 have b0:=F0.binds (ps:=["thing"]) fun _ _ _ _ _ _=>bn1 fun _=>rfl
 have b1:=F1.binds (ps:=["p","first"]) fun _ _ _ _ _ _=>Y7 fun _ _=>rfl
 have b2:=F2.binds (ps:=["p"]) fun _ _ _ _ _ _=>bn1 fun _=>rfl
 have b3:=F3.binds (ps:=["target","ring","steps"]) fun _ _ _ _ _ _=>bn3 fun _ _ _=>rfl
 have b4:=F4.binds (ps:=["thing"]) fun _ _ _ _ _ _=>bn1 fun _=>rfl
 have b5:=F5.binds (ps:=["thing"]) fun _ _ _ _ _ _=>bn1 fun _=>rfl
 have b6:=F6.binds (ps:=["p","q"]) fun _ _ _ _ _ _=>Y7 fun _ _=>rfl
 have b7:=F7.binds (ps:=["p","q"]) fun _ _ _ _ _ _=>Y7 fun _ _=>rfl
 have b8:=F8.binds (ps:=["p","k"]) fun _ _ _ _ _ _=>Y7 fun _ _=>rfl
 have b9:=F9.binds (ps:=["p"]) fun _ _ _ _ _ _=>bn1 fun _=>rfl
 have b10:=F10.binds (ps:=["script","k"]) fun _ _ _ _ _ _=>Y7 fun _ _=>rfl
 have b11:=F11.binds (ps:=["pool","many"]) fun _ _ _ _ _ _=>Y7 fun _ _=>rfl
 have b12:=F12.binds (ps:=["pool","things"]) fun _ _ _ _ _ _=>Y7 fun _ _=>rfl
 have b13:=F13.binds (ps:=["pool","lengths"]) fun _ _ _ _ _ _=>Y7 fun _ _=>rfl
 have b14:=F14.binds (ps:=["pool","many"]) fun _ _ _ _ _ _=>Y7 fun _ _=>rfl
 have b15:=F15.binds (ps:=["pool","most"]) fun _ _ _ _ _ _=>Y7 fun _ _=>rfl
 have b16:=F16.binds (ps:=["thing"]) fun _ _ _ _ _ _=>bn1 fun _=>rfl
 have b17:=F17.binds (ps:=["pool","p","at"]) fun _ _ _ _ _ _=>bn3 fun _ _ _=>rfl
 have b18:=F18.binds (ps:=["pool","p"]) fun _ _ _ _ _ _=>Y7 fun _ _=>rfl
 have b19:=F19.binds (ps:=["caught","due"]) fun _ _ _ _ _ _=>Y7 fun _ _=>rfl
 have b20:=F20.binds (ps:=["pool"]) fun _ _ _ _ _ _=>bn1 fun _=>rfl
 have b21:=F21.binds (ps:=["way","p","q","number"]) fun _ _ _ _ _ _=>bn4 fun _ _ _ _=>rfl
 have b22:=F22.binds (ps:=["way","p","q","number"]) fun _ _ _ _ _ _=>bn4 fun _ _ _ _=>rfl
 obtain ⟨oc,od,kV,dc,pm,an,cd,ct,sl,rfl,lk,hcd⟩:=id F23.ex;refine ⟨PySem.W.fnOf "law" "law" (S0 ab0) (L4 ab0) (j8 ab0) .none kV dc pm an cd ct,fun s v=> .of_eq rfl,fun base _ _=> ?_⟩;have zuy:A0 l.prog w K mg base "is_whole" 1 ["thing"] (ab1 K):=A7 X G a0 F0 b0 (bi9 F0 B);have zky:A0 l.prog w K mg base "walk_ring" 1 ["p","first"] ap0:=A7 X G a1 F1 b1 (bp6 F1);have zq:A0 l.prog w K mg base "walk_rings" 2 ["p"] ah8:=A7 X G a2 F2 b2 (bj3 F2 B zky);have zqz:A0 l.prog w K mg base "send_along" 1 ["target","ring","steps"] ap1:=A7 X G a3 F3 b3 (bp7 F3 B);have zuz:A0 l.prog w K mg base "is_turn" 2 ["thing"] (ax4 X9 (ah9 K)):=A7 X G a4 F4 b4 (bx2 (be1 F4 B mt zuy) (ax9 F4 B mt zuy));have zsy:K0 l.prog w K mg base "must_be_turn" 3 ["thing"] (fun vs H Q E=>T9 vs H Q E\/(N8 K zzz) vs H Q E):=W1 X G a5 F5 b5 (o4.or (o4.lift (au4 F5 (bl7 zuz))) (ad5 F5 zuz zpz));have zwy:A0 l.prog w K mg base "must_be_turn" 3 ["thing"] T9:=A7 X G a5 F5 b5 (au4 F5 (bl7 zuz));have zkx:K0 l.prog w K mg base "must_fit" 1 ["p","q"] (fun vs H Q E=>(af6 K) vs H Q E\/(aq4 zzy) vs H Q E):=W1 X G a6 F6 b6 (o4.or (o4.lift (be6 F6 B)) (aq5 F6 B zoy));have zux:A0 l.prog w K mg base "must_fit" 1 ["p","q"] (af6 K):=A7 X G a6 F6 b6 (be6 F6 B);have zmx:K0 l.prog w K mg base "put_behind" 4 ["p","q"] (fun vs H Q E=>Y1 vs H Q E\/(aq6 K zzz zzy) vs H Q E):=W1 X G a7 F7 b7 (o4.or (o4.lift (aj7 F7 zwy zux)) (ai2 F7 zsy zkx));have zrx:A0 l.prog w K mg base "put_behind" 4 ["p","q"] Y1:=A7 X G a7 F7 b7 (aj7 F7 zwy zux);have zqx:K0 l.prog w K mg base "power_of" 4 ["p","k"] (fun vs H Q E=>S2 vs H Q E\/(ag5 K zzz) vs H Q E):=W1 X G a8 F8 b8 (o4.or (o4.lift (ap3 F8 B zwy zq zqz)) (aq7 F8 zsy));have zvx:A0 l.prog w K mg base "power_of" 4 ["p","k"] S2:=A7 X G a8 F8 b8 (ap3 F8 B zwy zq zqz);have zj:K0 l.prog w K mg base "way_back" 5 ["p"] (fun vs H Q E=>af7 vs H Q E\/(N8 K zzz) vs H Q E):=W1 X G a9 F9 b9 (o4.or (o4.lift (au5 F9 zvx)) (aq8 F9 zqx));have zo:A0 l.prog w K mg base "way_back" 5 ["p"] af7:=A7 X G a9 F9 b9 (au5 F9 zvx);have zry:A0 l.prog w K mg base "_law_pool" 1 ["script","k"] (ao6 K):=A7 X G a10 F10 b10 (bp3 F10 B);have zzx:A0 l.prog w K mg base "_law_take" 1 ["pool","many"] M8:=A7 X G a11 F11 b11 (bp4 F11);have zv:A0 l.prog w K mg base "_law_mixed_up" 2 ["pool","things"] (W3 K):=A7 X G a12 F12 b12 (bj0 F12 B zzx);have zpy:A0 l.prog w K mg base "_law_by_lengths" 3 ["pool","lengths"] ah7:=A7 X G a13 F13 b13 (bj1 F13 B zv);have zlz:A0 l.prog w K mg base "_law_lengths" 2 ["pool","many"] aa2:=A7 X G a14 F14 b14 (ax6 F14 B zzx);have zt:A0 l.prog w K mg base "_law_turn" 4 ["pool","most"] ao8:=A7 X G a15 F15 b15 (bp5 F15 B zzx zv zpy zlz);have zu:A0 l.prog w K mg base "_law_is_turn" 1 ["thing"] (ay4 K):=A7 X G a16 F16 b16 (ai1 F16 B);have zsz:A0 l.prog w K mg base "_law_odd" 2 ["pool","p","at"] (ay5 K):=A7 X G a17 F17 b17 (ay6 F17 B zzx);have zty:A0 l.prog w K mg base "_law_spoilt" 3 ["pool","p"] (ad7 K):=A7 X G a18 F18 b18 (al3 F18 B zzx zsz);have zrz:A0 l.prog w K mg base "_law_is" 1 ["caught","due"] (ay8 zzz zzy):=A7 X G a19 F19 b19 (bg1 F19 B ER)
 have ztx:A0 l.prog w K mg base "_law_number" 2 ["pool"] ax7:=A7 X G a20 F20 b20 (bu4 F20 zzx);have ztz:A0 l.prog w K mg base "_law_caught" 6 ["way","p","q","number"] (ad8 K zzz zzy):=A7 X G a21 F21 b21 (al5 F21 zmx zj zqx ER);have zwx:A0 l.prog w K mg base "_law_right" 7 ["way","p","q","number"] (ad9 K):=A7 X G a22 F22 b22 (ar2 F22 B ztz zu zrz);exact bv2 F23 B zry zt zv zzx zty ztx zwx ER ES
theorem cc3 {l:PySem.W.OpenLaw}{q:Program}{loose:List Str}{XP:(Str->Option Value)->Heap->Prop}{YP:World->Heap->Prop}{d:DefRec}{K:Params->PySem.W.Frag}(hn:l.most=some 63)(hdf:d.params.defaults=[])
   (hY:∀(w:World) (h:Heap),YP w h->(K w.params).In h)
   (F:∀(w:World) (mg:Str->Option Value) (fa:Addr) (h:Heap),(K w.params).In h->h.Ns mainGlobals mg->mg d.name=some (.ref fa)->
     ∃fd:FuncData,(∀(s:Shared) (u:Value),BindsTo s fd ⟨[u],[]⟩ [("script",u)])/\∀base:Heap,(K w.params).In base->base.Ns mainGlobals mg->o4 l.prog w (K w.params) mg base C6 8 fa fd ["script"] (al9 (K w.params))):
   PySem.W.WalkO q loose XP YP l.row.toRowW d [] (fun f vs=>PySem.call f vs):=
 L2.cb1 (n:=63) (k:=8) (x:="script") (CX:=fun _=>C6) (sp:=fun w=>al9 (K w.params)) hn (by decide) hdf ⟨rfl,by decide,by decide,rfl⟩ hY F (fun _ _ a ns hl _ hS=>⟨a,ns,rfl,hS,hl,fun _=>rfl⟩) fun _ _ _ _ _ z=>z
end My
end
open PySem PySem.W PyProof.Rows L2
set_option maxRecDepth 100000 in
set_option maxHeartbeats 0 in
theorem PySem.Challenge.cw_turnroots_k05_turns_refused_holds : PySem.Challenge.rw_turnroots_k05_turns_refused.Holds := by
  w_on; o_law; k_head; (case hw => w_witness2)
  k_fill
  refine My.cc3 (l := PySem.Challenge.rw_turnroots_k05_turns_refused) rfl rfl (fun w h Y => PySem.W.kIn_of Y) ?F
  case F =>
    intro w mg fa h KX G hmg
    refine' My.cc2 KX G hmg ?_ ?_ ?_ ?_ ?_ ?_ ?_ ?_ ?_ ?_ ?_ ?_ ?_ ?_ ?_ ?_ ?_ ?_ ?_ ?_ ?_ ?_ ?_ ?_ ?_ ?_ ?_ ?_ ?_ ?_ ?_ ?_ ?_ ?_
    all_goals first
      | k_is
      | (refine' bx5 ?a ?l ?c ?k; (case a => k_is); (case l => k_is); (case c => k_is); (case k => k_is))
      | ((repeat (refine' And.intro (ClF.mk ?n ?e ?g ?h ?c ?b ?o ?i ?t ?u ?v ?s) ?_; (case n => k_is); (case e => k_exc); (case g => k_is); (case h => k_is); (case c => k_is); (case b => k_is); (case o => k_is); (case i => k_is); (case t => k_is); (case u => k_is); (case v => k_is); (case s => k_is))); exact trivial)
      | ((repeat (refine' And.intro ?n ?_; (case n => k_is))); exact trivial)
      | ((repeat (refine' And.intro ?zp ?_; (case zp => ((repeat (refine' And.intro ?n ?_; (case n => k_is))); exact trivial)))); exact trivial)
      | skip
#print axioms PySem.Challenge.cw_turnroots_k05_turns_refused_holds
