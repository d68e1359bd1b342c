import PyProof.Rows.All
import Wide.All
import OpenK.AllK
import Wide.FinOn
import Lean
import PyProof.EqAt
import PyProof.EqKinds
import PyProof.TupleCall
import PyProof.NeKinds
import PyProof.EnumMake
import PyProof.Rows.SeqMore2
import PyProof.ZipIter
import PyProof.Rows.SortRev
import PyProof.Rows.SortWalk
import PyProof.Rows.CallKwBuiltin
import PyProof.DictIter
import PyProof.DictWalks
import PyProof.MeetsDict
import PyProof.Conv_int_bool
import PyProof.EqAt
import PyProof.CollectWalk
import PyProof.Rows.SortShell
import PyProof.Rows.Range3
import PyProof.CallFns
import PyProof.StrBlockH
import PySem.Challenge.RW_turnroots_k48_whole_texts_of_powers
open List renaming length_map→bs1, getElem?_eq_getElem→bs2, getElem?_eq_some_iff→bs3, mem_cons_self→bs4, size_toArray→bs5, length_append→bs6, mem_cons_of_mem→bs7, mem_of_getElem?→bs8, mem_append_right→bt1, getElem?_map→bt2, map_append→bt3, append_assoc→bt4, mem_append→bt5, length_take→bt6, nodup_iff_pairwise_ne→bt7, getElem?_eq_none→bt8, map_cons→bt9, getElem?_append_right→bu0, replicate→bu2, flatten_cons→bu3, getD_eq_getElem?_getD→bu4, mem_map→bu5, take_length→bu6, range'→bu7, mem_flatten→bu8, getElem?_append_left→bv0, flatten_append→bv1, length_drop→bv2, getElem?_take_of_lt→bv3, getElem_mem→bv4, lookup_cons→bv7, mem_append_left→bv9, append_nil→bw0, pairwise_iff_getElem→bw1, flatten_singleton→bw2, length_cons→bw4, mem_range→bw6, nodup_cons→bw7, mem_cons→bw9, length_set→bx0, eq_nil_of_length_eq_zero→bx1, take_append_drop→bx2, mem_singleton→bx3, ext_getElem?→bx4, range→bx5, nodup_append→bx8, length_reverse→by0, getElem?_set_self→by1, length_range→by2, getElem?_set_ne→by3, mem_of_mem_take→by4, replicate_succ→by5, map_congr_left→by6, map_map→by8, getElem?_drop→by9, find?_cons→bz0, length_replicate→bz1, pairwise_map→bz2, range'_append_1→bz4, all_eq_true→bz5, cons_append→bz7, drop_eq_getElem_cons→bz8, sum_append→ca0, sum_singleton→ca1, nodup_nil→ca4, take_left→ca5, take_of_length_le→ca6, flatten_replicate_singleton→ca7, eraseIdxIfInBounds_toArray→ca8, getElem?_reverse→ca9, mem_iff_getElem?→cb0, getElem?_of_mem→cb1, forIn_cons→cb2, map_set→cb4, filterMap_cons→cb5, getElem?_range→cb6, drop_left→cb8, drop_zero→cb9, append_of_mem→cc1, filter_append→cc2, exists_mem_of_ne_nil→cc5, map_reverse→cc6, ext_getElem→cc7, getElem?_replicate→cc8, map_nil→cc9, filter_cons_of_pos→cd0, getElem?_cons_succ→cd1, length_eq_zero_iff→cd2, of_mem_zip→cd3, nil_append→cd4, length→cd7, any_cons→cd9
open Nat renaming le_refl→bs9, lt_of_lt_of_le→bu1, zero_le→bu9, ne_of_lt→bv5, le_trans→bw3, mod_eq_of_lt→bw5, lt_irrefl→bx9, add_mod_right→bz3, le_of_lt→ca2, add_comm→ca3, zero_add→cb3, mod_lt→cb7, lt_of_le_of_lt→cc0
open Bool renaming false_ne_true→bt0, and_eq_true→bx6, eq_iff_iff→bz9, eq_false_iff→cc4, or_eq_true→cd5, false_and→cd8
open Int renaming emod_nonneg→bv6, toNat_natCast→bv8, eq_ofNat_of_zero_le→bw8, emod_lt_of_pos→bx7, toNat_of_nonneg→by7, natCast_emod→bz6
open Option renaming isSome_map→cc3, map_eq_some_iff→cd6
set_option Elab.async false
set_option linter.all false
set_option maxRecDepth 100000
set_option maxHeartbeats 8000000
section
local macro_rules|`(tactic|omega)=>`(tactic|lia)
local macro_rules|`(tactic|trivial)=>`(tactic|first|exact .inl rfl|exact .inr rfl|assumption)
local macro_rules|`(tactic|rfl')=>`(tactic|exact ⟨rfl,rfl,rfl,by decide+kernel,rfl,by decide+kernel,by decide+kernel⟩)
namespace L2
open PySem PySem.Spec PyProof.Rows
abbrev m3:=Sum Int Str
def T4:m3->Value->Bool
 | .inl k,v=>Value.isInt k v
 | .inr x,v=>Value.isStrOf x v
def bo4 (w:World):m3->Int
 | .inl k=>hashInt k
 | .inr x=>hashStr w x
theorem p6:∀{k:m3} {v:Value},T4 k v=true->(∃i t,k=Sum.inl i/\v=Value.int i t)\/(∃x t,k=Sum.inr x/\v=Value.str x t)
 | .inl i,v,h=>by
   obtain ⟨t,e⟩:=Value.isInt_shape (k:=i) (v:=v) h;exact .inl ⟨i,t,rfl,e⟩
 | .inr x,v,h=>by
   obtain ⟨t,e⟩:=Value.isStrOf_shape (x:=x) (v:=v) h;exact .inr ⟨x,t,rfl,e⟩
theorem aq6 (i:Int)(t:Tok):T4 (.inl i) (.int i t)=true:=by simp [T4,Value.isInt]
theorem aq7 (x:Str)(t:Tok):T4 (.inr x) (.str x t)=true:=by simp [T4,Value.isStrOf]
theorem bg2 (a b:Int):decide ((Sum.inl a:m3)=Sum.inl b)=(a==b):=by
 by_cases e:a=b
 · subst e;simp
 · have h:¬(Sum.inl a:m3)=Sum.inl b:=fun q=>e (Sum.inl.inj q)
   rw[decide_eq_false h];exact (beq_eq_false_iff_ne.mpr e).symm
theorem bg3 (a b:Str):decide ((Sum.inr a:m3)=Sum.inr b)=decide (a=b):=by
 by_cases e:a=b
 · subst e;simp
 · have h:¬(Sum.inr a:m3)=Sum.inr b:=fun q=>e (Sum.inr.inj q)
   rw[decide_eq_false h,decide_eq_false e]
theorem bg4 (a:Int)(b:Str):decide ((Sum.inl a:m3)=Sum.inr b)=false:=decide_eq_false (fun q=>nomatch q)
theorem bg5 (a:Str)(b:Int):decide ((Sum.inr a:m3)=Sum.inl b)=false:=decide_eq_false (fun q=>nomatch q)
def t6 (prog:Program)(w:World):PySem.KeyKind prog w m3 where
 is:=T4
 hash:=bo4 w
 inj:=fun v a b ha hb=>by
   rcases p6 ha with ⟨i,t,rfl,rfl⟩|⟨x,t,rfl,rfl⟩
   · rcases p6 hb with ⟨j,u,rfl,e⟩|⟨y,u,rfl,e⟩
     · injection e with e1 _;rw[e1]
     · exact nomatch e
   · rcases p6 hb with ⟨j,u,rfl,e⟩|⟨y,u,rfl,e⟩
     · exact nomatch e
     · injection e with e1 _;rw[e1]
 byValue:=fun k v h=>by
   rcases p6 h with ⟨i,t,rfl,rfl⟩|⟨x,t,rfl,rfl⟩<;>rfl
 pyHash:=fun hv h=>by
   rcases p6 hv with ⟨i,t,rfl,rfl⟩|⟨x,t,rfl,rfl⟩
   · exact wpAny_pyHash_int h
   · exact wpAny_pyHash_str h
 eqBool:=fun hu hv h=>by
   rcases p6 hu with ⟨i,t,rfl,rfl⟩|⟨x,t,rfl,rfl⟩
   · rcases p6 hv with ⟨j,u,rfl,rfl⟩|⟨y,u,rfl,rfl⟩
     · rw[bg2] at h;exact wpAny_eqBool_int h
     · rw[bg4] at h;exact SeqAt.EqAt.int_str i t y u _ _ _ _ h
   · rcases p6 hv with ⟨j,u,rfl,rfl⟩|⟨y,u,rfl,rfl⟩
     · rw[bg5] at h;exact SeqAt.EqAt.str_int x t j u _ _ _ _ h
     · rw[bg3] at h;exact wpAny_eqBool_str h
 «strs»:=fun k x t v h=>by
   rcases p6 h with ⟨i,u,rfl,e⟩|⟨y,u,rfl,e⟩
   · exact nomatch e
   · injection e with e1 _
     subst e1
     cases v<;>rfl
theorem ak4 (prog:Program)(w:World)(i:Int)(t:Tok):(t6 prog w).is (.inl i) (.int i t)=true:=aq6 i t
theorem ak5 (prog:Program)(w:World)(x:Str)(t:Tok):(t6 prog w).is (.inr x) (.str x t)=true:=aq7 x t
end L2
namespace L2
open PySem PySem.Spec PyProof.Rows
inductive V where
 |non|bl (b:Bool)|int (i:Int)|str (x:Str)|byt (b:Array UInt8)|flt (b:UInt64)|ref (a:Addr)|ty (n:String)
 deriving DecidableEq
def j4:V->Value->Prop
 | .non,u=>u=Value.none
 | .bl b,u=>u=Value.bool b
 | .int i,u=>∃t,u=Value.int i t
 | .str x,u=>∃t,u=Value.str x t
 | .byt b,u=>∃t,u=Value.bytes b t
 | .flt b,u=>∃t,u=Value.float b t
 | .ref a,u=>u=Value.ref a
 | .ty n,u=>u=Value.type n
abbrev h8:List V->List Value->Prop:=Paired j4
theorem h8.length {xs:List V}{us:List Value}(r:h8 xs us):xs.length=us.length:=Paired.length r
theorem h8.get:∀{xs:List V} {us:List Value} {i:Nat} {x:V},h8 xs us->xs[i]? =some x->∃u,us[i]? =some u/\j4 x u
 |_,_,_,_,.nil,e=>by simp at e
 |_,_,0,_,.cons r _,e=>by simp at e;subst e;exact ⟨_,rfl,r⟩
 |_,_,i+1,x,.cons _ t,e=>by
  obtain ⟨u,h1,h2⟩:=h8.get (i:=i) (x:=x) t (by simpa using e);exact ⟨u,by simpa using h1,h2⟩
theorem h8.set {x:V}{u:Value}(r:j4 x u):∀{xs:List V} {us:List Value} (i:Nat),h8 xs us->h8 (xs.set i x) (us.set i u)
 |_,_,_,.nil=> .nil
 |_,_,0,.cons _ t=> .cons r t
 |_,_,i+1,.cons q t=> .cons q (h8.set r i t)
theorem h8.append:∀{xs ys:List V} {us ws:List Value},h8 xs us->h8 ys ws->h8 (xs++ys) (us++ws)
 |_,_,_,_,.nil,s=>s
 |_,_,_,_,.cons r t,s=> .cons r (h8.append t s)
theorem h8.take:∀{xs:List V} {us:List Value} (n:Nat),h8 xs us->h8 (xs.take n) (us.take n)
 |_,_,0,_=> .nil
 |_,_,_+1,.nil=> .nil
 |_,_,n+1,.cons r t=> .cons r (h8.take n t)
theorem h8.drop:∀{xs:List V} {us:List Value} (n:Nat),h8 xs us->h8 (xs.drop n) (us.drop n)
 |_,_,0,r=>r
 |_,_,_+1,.nil=> .nil
 |_,_,n+1,.cons _ t=>h8.drop n t
def U7:Option V->Option Value->Prop
 |some v,some u=>j4 v u
 |none,none=>True
 |_,_=>False
def KV {κ:Type}:List (κ×V)->List (κ×Value)->Prop:=Paired fun (p:κ×V) (q:κ×Value)=>p.1=q.1/\j4 p.2 q.2
def kV:m3->V
 | .inl i=> .int i
 | .inr x=> .str x
inductive HO where
 |lst (xs:List V)
 |tup (xs:List V)
 |dK (kvs:List (m3×V))|dT (kvs:List (List m3×V))
 |set (S:Int->Bool) (n:Nat)
 |ins (C dx:Addr) (fs:List (Str×V))
 |own (x:Addr)
 |xd (fs:List (Str×V))
 |met (f x:Addr)
 |rng (lo hi:Int)
 |frz (o:Obj) (u:HO)
 |tbl (ps:Array Value)
 |ext (φ:Heap->Prop)
abbrev Hp:=Addr->Option HO
def g9 (H:Hp)(a:Addr)(o:HO):Hp:=fun b=>if b=a then some o else H b
theorem c9 {H:Hp}{a:Addr}{o:HO}:g9 H a o a=some o:=by unfold g9;rw[if_pos rfl]
theorem g7 {H:Hp}{a b:Addr}{o:HO}(h:b≠a):g9 H a o b=H b:=by unfold g9;rw[if_neg h]
theorem bb7 {H:Hp}{a b:Addr}{o u:HO}(h:H a=some o)(h':H b=some u)(d:o≠u):a≠b:=by
 intro e;subst e;rw[h] at h';exact d (Option.some.inj h')
theorem g6 {H:Hp}{a b:Addr}{o:HO}(h:H a=some o)(h':H b=none):a≠b:=by
 intro e;subst e;rw[h] at h';cases h'
section
variable (P:Program) (w:World)
def n6 (H:Hp)(h:Heap)(a:Addr):HO->Prop
 | .lst xs=>xs.length<=sizeLine/\∃(its:List Value) (n:Nat),h8 xs its/\h.get? a=some {cls:= .type "list",data:= .seq its.toArray n}
 | .tup xs=>xs.length<=sizeLine/\∃its:List Value,h8 xs its/\IsTup h a its.toArray
 | .dK kvs=>kvs.length<=sizeLine/\(a==sysModules)=false/\∃vs,KV kvs vs/\h.DictOf (t6 P w) a vs
 | .dT kvs=>kvs.length<=sizeLine/\(a==sysModules)=false/\∃xs:List (List m3×Addr×Value),
     Paired (fun (p:List m3×V) (q:List m3×Addr×Value)=>p.1=q.1/\H q.2.1=some (.tup (p.1.map kV))/\j4 p.2 q.2.2) kvs xs/\
     ∃o es ep,h.get? a=some o/\o.ExactDict/\o.data= .dict es ep/\es.toList=xs.map (entryOfKey (tupleKind (t6 P w)))/\(xs.map (·.1)).Nodup
 | .set S n=>h.SetOf (intKind P w) a S n
 | .ins C dx fs=>H dx=some (.own a)/\fs.length<=1000/\dx≠a/\h.get? a=some (PySem.W.instObj C dx)/\
     ∃mA,h.Ns1 dx mA/\(∀f,U7 (fs.lookup f) (mA f))/\PySem.Within mA (fs.map (·.1))
 | .own _=>∃o,h.get? a=some o
 | .xd fs=>∃mA,h.Ns1 a mA/\∀f,U7 (fs.lookup f) (mA f)
 | .rng lo hi=>∃t u v,h.get? a=some {cls:= .type "range",data:= .fields #[.int lo t,.int hi u,.int 1 v]}
 | .frz o u=>h.get? a=some o/\n6 H h a u
 | .tbl ps=>h.get? a=some {cls:= .none,data:= .fields ps}
 | .met f x=>h.get? a=some (PySem.W.methodObj (.ref f) (.ref x))
 | .ext φ=>φ h/\(∃o,h.get? a=some o)/\∀h1 h2:Heap,φ h1->(∀o,h1.get? a=some o->h2.get? a=some o)->φ h2
def q5 (H:Hp)(h:Heap):Prop:=∀a o,H a=some o->n6 P w H h a o
end
section
variable {P:Program} {w:World} {H H':Hp} {h h':Heap} {a:Addr} {o:HO}
theorem n6.lt (x:n6 P w H h a o):a < h.objs.size:=by
 cases o with
 |lst xs=>obtain ⟨_,_,_,_,e⟩:=x;exact Heap.lt_size e
 |tup xs=>obtain ⟨_,_,_,p⟩:=x;exact p.lt
 |dK kvs=>obtain ⟨_,_,_,_,o,_,_,e,_⟩:=x;exact Heap.lt_size e
 |dT kvs=>obtain ⟨_,_,_,_,o,_,_,e,_⟩:=x;exact Heap.lt_size e
 |set S n=>obtain ⟨o,_,_,_,e,_⟩:=x;exact Heap.lt_size e
 |ins C dx fs=>obtain ⟨_,_,_,e,_⟩:=x;exact Heap.lt_size e
 |own y=>obtain ⟨_,e⟩:=x;exact Heap.lt_size e
 |xd fs=>obtain ⟨_,⟨_,_,_,e,_⟩,_⟩:=x;exact Heap.lt_size e
 |rng lo hi=>obtain ⟨_,_,_,e⟩:=x;exact Heap.lt_size e
 |frz ob u=>obtain ⟨e,_⟩:=x;exact Heap.lt_size e
 |tbl ps=>exact Heap.lt_size (show h.get? a=some _ from x)
 |met f y=>exact Heap.lt_size (show h.get? a=some _ from x)
 |ext φ=>obtain ⟨_,⟨_,e⟩,_⟩:=x;exact Heap.lt_size e
theorem Paired.mapP {α β:Type}{F G:α->β->Prop}:∀{l₁:List α} {l₂:List β},Paired F l₁ l₂->(∀a b,F a b->G a b)->Paired G l₁ l₂
 |_,_,.nil,_=> .nil
 |_,_,.cons r t,f=> .cons (f _ _ r) (Paired.mapP t f)
theorem n6.stay (x:n6 P w H h a o)(k:∀b u,(b=a\/H b=some (.own a))->h.get? b=some u->h'.get? b=some u)
   (ho:∀b,H b=some (.own a)->H' b=some (.own a)) (ht:∀b xs,H b=some (.tup xs)->H' b=some (.tup xs)):n6 P w H' h' a o:=by
 induction o with
 |lst xs=>obtain ⟨z,its,n,r,e⟩:=x;exact ⟨z,its,n,r,k _ _ (.inl rfl) e⟩
 |tup xs=>obtain ⟨z,its,r,ob,e,c⟩:=x;exact ⟨z,its,r,ob,k _ _ (.inl rfl) e,c⟩
 |dK kvs=>obtain ⟨z,y,vs,r,ob,es,ep,e,c⟩:=x;exact ⟨z,y,vs,r,ob,es,ep,k _ _ (.inl rfl) e,c⟩
 |dT kvs=>
  obtain ⟨z,y,xs,r,ob,es,ep,e,c⟩:=x;exact ⟨z,y,xs,Paired.mapP r fun p q z=>⟨z.1,ht _ _ z.2.1,z.2.2⟩,ob,es,ep,k _ _ (.inl rfl) e,c⟩
 |set S n=>obtain ⟨ob,es,ep,t,e,c⟩:=x;exact ⟨ob,es,ep,t,k _ _ (.inl rfl) e,c⟩
 |ins C dx fs=>
  obtain ⟨d,z,ne,e,mA,⟨od,es,ep,e2,c⟩,r⟩:=x;exact ⟨ho _ d,z,ne,k _ _ (.inl rfl) e,mA,⟨od,es,ep,k _ _ (.inr d) e2,c⟩,r⟩
 |own y=>obtain ⟨ob,e⟩:=x;exact ⟨ob,k _ _ (.inl rfl) e⟩
 |xd fs=>obtain ⟨mA,⟨od,es,ep,e,c⟩,r⟩:=x;exact ⟨mA,⟨od,es,ep,k _ _ (.inl rfl) e,c⟩,r⟩
 |rng lo hi=>obtain ⟨t,u,v,e⟩:=x;exact ⟨t,u,v,k _ _ (.inl rfl) e⟩
 |frz ob u ih=>obtain ⟨e,q⟩:=x;exact ⟨k _ _ (.inl rfl) e,ih q⟩
 |tbl ps=>
  have e:h.get? a=some {cls:= .none,data:= .fields ps}:=x;show h'.get? a=some {cls:= .none,data:= .fields ps};exact k a _ (.inl rfl) e
 |met f y=>
  have e:h.get? a=some (PySem.W.methodObj (.ref f) (.ref y)):=x;show h'.get? a=some (PySem.W.methodObj (.ref f) (.ref y));exact k a _ (.inl rfl) e
 |ext φ=>obtain ⟨p,⟨o,e⟩,st⟩:=x;exact ⟨st _ _ p fun o q=>k _ _ (.inl rfl) q,⟨o,k _ _ (.inl rfl) e⟩,st⟩
theorem q5.lt (x:q5 P w H h)(e:H a=some o):a < h.objs.size:=(x a o e).lt
theorem q5.fresh (x:q5 P w H h)(e:h.objs.size<=a):H a=none:=by
 cases q:H a with
 |none=>rfl
 |some u=>exact absurd (bu1 (x.lt q) e) (bx9 _)
theorem q5.kept (x:q5 P w H h)(k:∀b u,h.get? b=some u->h'.get? b=some u):q5 P w H h':=fun a o e=>
 (x a o e).stay (fun b u _ q=>k b u q) (fun _ q=>q) fun _ _ q=>q
theorem q5.laid (x:q5 P w H h)(k:∀b u,h.get? b=some u->h'.get? b=some u)(hp:h.objs.size<=a)(new:n6 P w (g9 H a o) h' a o):q5 P w (g9 H a o) h':=fun b u e=>by
 have hn:=x.fresh hp
 by_cases hb:b=a
 · subst hb;rw[c9] at e;cases e;exact new
 · rw[g7 hb] at e
   exact (x b u e).stay (fun c v _ q=>k c v q) (fun c q=>by rw[g7 (g6 q hn)];exact q) fun c xs q=>by rw[g7 (g6 q hn)];exact q
end
def Rd (H:Hp)(a:Addr)(u:HO):Prop:=H a=some u\/∃o,H a=some (.frz o u)
theorem Rd.ok {P:Program}{w:World}{H:Hp}{h:Heap}{a:Addr}{u:HO}(r:Rd H a u)(x:q5 P w H h):n6 P w H h a u:=by
 rcases r with r|⟨o,r⟩
 · exact x a u r
 · obtain ⟨_,q⟩:=x a _ r;exact q
def Mut:Option HO->Prop
 |some (.lst _)=>True
 |some (.dK _)=>True
 |some (.dT _)=>True
 |some (.set _ _)=>True
 |some (.ins _ _ _)=>True
 |some (.ext _)=>True
 |_=>False
section
variable {P:Program} {w:World} {H:Hp} {h h':Heap} {x e:Addr} {o':HO}
theorem q5.write (ok:q5 P w H h)(mu:Mut (H x))(he:e=x\/H e=some (.own x))(k:∀b u,b≠e->h.get? b=some u->h'.get? b=some u)(heo:∃u,h'.get? e=some u)
   (new:n6 P w (g9 H x o') h' x o'):q5 P w (g9 H x o') h':=fun b u q=>by
 have nown:∀c y,H c=some (.own y)->c≠x:=fun c y r z=>by subst z;rw[r] at mu;exact mu
 have ntup:∀c xs,H c=some (.tup xs)->c≠x:=fun c xs r z=>by subst z;rw[r] at mu;exact mu
 by_cases hb:b=x
 · subst hb;rw[c9] at q;cases q;exact new
 · rw[g7 hb] at q
   by_cases hbe:b=e
   · have q':H b=some (.own x):=by
       rcases he with z|z
       · exact absurd (hbe.trans z) hb
       · rw[hbe];exact z
     rw[q] at q';cases q';obtain ⟨v,hv⟩:=heo;exact ⟨v,by rw[hbe];exact hv⟩
   · refine (ok b u q).stay (fun c v hc r=>k c v ?_ r) (fun c r=>by rw[g7 (nown c b r)];exact r) fun c xs r=>by rw[g7 (ntup c xs r)];exact r
     rcases hc with rfl|hc
     · exact hbe
     · rintro rfl
       rcases he with z|z
       · exact nown c b hc z
       · rw[hc] at z;cases z;exact hb rfl
end
structure Un (fs ex:List Addr)(H H':Hp)(h h':Heap):Prop where
 keep:∀b o,h.get? b=some o->H b=none->b∉fs->b∉ex->h'.get? b=some o
 slot:∀b o,h.get? b=some o->H b=none->b∈fs->b∉ex->∃sl,h'.get? b=some {o with slots:=sl}
 free:∀b o,h.get? b=some o->H b=none->b∉ex->H' b=none
 there:∀b o,h.get? b=some o->b∉ex->∃o',h'.get? b=some o'
 tups:∀b xs,H b=some (.tup xs)->H' b=some (.tup xs)
 frzs:∀b o u,H b=some (.frz o u)->H' b=some (.frz o u)
 tbls:∀b ps,H b=some (.tbl ps)->∃more,H' b=some (.tbl (ps++more))
section
variable {fs fs' ex ex':List Addr} {H H1 H2:Hp} {h h1 h2 h':Heap} {a x e:Addr} {o:HO}
theorem Un.any (u:Un fs ex H H1 h h1){b:Addr}{ob:Obj}(q:h.get? b=some ob)(n:H b=none)(hx:b∉ex):∃sl,h1.get? b=some {ob with slots:=sl}:=by
 by_cases hb:b∈fs
 · exact u.slot b ob q n hb hx
 · exact ⟨ob.slots,u.keep b ob q n hb hx⟩
theorem Un.kept (k:∀b u,h.get? b=some u->h'.get? b=some u):Un fs ex H H h h':=
 ⟨fun b ob q _ _ _=>k b ob q,fun b ob q _ _ _=>⟨ob.slots,k b ob q⟩,fun _ _ _ n _=>n,fun b ob q _=>⟨ob,k b ob q⟩,fun _ _ q=>q,fun _ _ _ q=>q,fun _ ps q=>⟨#[],by rw[q];simp⟩⟩
theorem Un.refl:Un fs ex H H h h:=Un.kept fun _ _ q=>q
theorem Un.laid (k:∀b u,h.get? b=some u->h'.get? b=some u)(hp:h.objs.size<=a)(hn:H a=none):Un fs ex H (g9 H a o) h h' where
 keep:=fun b u q _ _ _=>k b u q
 slot:=fun b u q _ _ _=>⟨u.slots,k b u q⟩
 free:=fun b u q n _=>by rw[g7 (bv5 (bu1 (Heap.lt_size q) hp))];exact n
 there:=fun b u q _=>⟨u,k b u q⟩
 tups:=fun b xs q=>by rw[g7 (g6 q hn)];exact q
 frzs:=fun b u xs q=>by rw[g7 (g6 q hn)];exact q
 tbls:=fun b ps q=>⟨#[],by rw[g7 (g6 q hn),q];simp⟩
theorem Un.write (mu:Mut (H x))(he:e=x\/H e=some (.own x))(k:∀b u,b≠e->h.get? b=some u->h'.get? b=some u)(heo:∃u,h'.get? e=some u):Un fs ex H (g9 H x o) h h':=by
 have hx:∀b,H b=none->b≠x:=fun b n z=>by subst z;rw[n] at mu;exact mu
 have hb:∀b,H b=none->b≠e:=fun b n z=>by
   subst z
   rcases he with r|r
   · exact hx b n r
   · rw[n] at r;cases r
 have hm:∀b u,H b=some u->¬Mut (some u)->b≠x:=fun b u q nm z=>by subst z;rw[q] at mu;exact nm mu
 refine ⟨fun b u q n _ _=>k b u (hb b n) q,fun b u q n _ _=>⟨u.slots,k b u (hb b n) q⟩,fun b u q n _=>by rw[g7 (hx b n)];exact n,fun b u q _=> ?_,
   fun b xs q=>by rw[g7 (hm b _ q fun z=>z)];exact q,fun b u xs q=>by rw[g7 (hm b _ q fun z=>z)];exact q,fun b ps q=>⟨#[],by rw[g7 (hm b _ q fun z=>z),q];simp⟩⟩
 by_cases hbe:b=e
 · subst hbe;exact heo
 · exact ⟨u,k b u hbe q⟩
end
def trk (h:Heap)(H:Hp):List Addr:=(bx5 h.objs.size).filter fun a=>(H a).isSome
def P1 (h:Heap)(H:Hp):Heap:=PySem.W.hideAll h (trk h H)
theorem aq9 (h:Heap)(H:Hp):(P1 h H).objs.size=h.objs.size:=PySem.W.hideAll_size _ _
theorem ax0 {h:Heap}{H:Hp}{b:Addr}{o:Obj}(e:h.get? b=some o)(n:H b=none):(P1 h H).get? b=some o:=
 PySem.W.hideAll_get _ e fun hm=>by
   have q:(H b).isSome=true:=(List.mem_filter.mp hm).2;rw[n] at q;simp at q
theorem bd1 {h:Heap}{H:Hp}{b:Addr}{o:Obj}(e:(P1 h H).get? b=some o):h.get? b=some o/\H b=none:=by
 have e':h.get? b=some o:=PySem.W.of_hideAll (trk h H) e;refine ⟨e',?_⟩
 cases q:H b with
 |none=>rfl
 |some x=>
  have hm:b∈trk h H:=List.mem_filter.mpr ⟨bw6.mpr (Heap.lt_size e'),by simp [q]⟩;have z:(P1 h H).get? b=none:=PySem.W.hideAll_none (trk h H) hm;rw[z] at e;cases e
end L2
namespace L2
open PySem PySem.Spec PyProof.Rows
structure Mod (K:PySem.W.Frag)(mg:Str->Option Value)(base:Heap):Prop where
 kin:K.In base
 glob:base.Ns mainGlobals mg
 blt:∃mb,base.Ns builtinsNs mb/\∀x:Str,x≠"__name__"->mb x=bootBuiltins x
 nolimit:base.NoLimit
structure Cx where
 prog:Program
 w:World
 K:PySem.W.Frag
 mg:Str->Option Value
 base:Heap
 A:Around
 N:List Str
 s₀:Shared
 H₀:Hp
 env:Env
 outer:List Env
 stack:List Env
 ex:List Addr
 fn:Str->Bool
 calm:Bool
 pn:List (Addr×Obj)
 xe:Value->Shared->Prop
def M5 (l:List Env):List Addr:=l.filterMap (·.frame)
abbrev Cx.fs (X:Cx):List Addr:=M5 X.outer
def Vis (sc:Scope)(x:Str):Prop:=sc.names.lookup x=some .local\/sc.names.lookup x=some .cell\/sc.names.lookup x=some .free
def Loc (sc:Scope)(x:Str):Prop:=sc.names.lookup x=some .local\/sc.names.lookup x=some .cell
def bo5 (env:Env)(h:Heap)(m:Str->Option Value)(x:Str)(u:Value):Prop:=
 (env.kindOf x=some .local/\m x=some u)\/((env.kindOf x=some .cell\/env.kindOf x=some .free)/\∃c,env.cells.lookup x=some c/\h.IsCell c (some u))
structure Cx.Ok (X:Cx):Prop where
 mod:Mod X.K X.mg X.base
 kind:X.env.scope.kind= .function
 glob:X.env.globals=mainGlobals
 blt:X.env.builtins=builtinsNs
 above:X.s₀.heap.objs.size<=X.env.locals
 inj:∀x y c,X.env.cells.lookup x=some c->X.env.cells.lookup y=some c->x=y
 has:∀x,(X.env.kindOf x=some .cell\/X.env.kindOf x=some .free)->∃c,X.env.cells.lookup x=some c
 cab:∀x c,X.fn x=true->X.env.cells.lookup x=some c->X.s₀.heap.objs.size<=c
 hd:X.calm=true->X.A.handled=none
 frames:X.A.frames=some X.stack
 stk:X.stack=X.outer\/(X.stack=X.env::X.outer/\X.env.frame=some X.env.locals)
 exf:∀b∈X.ex,b≠X.env.locals/\∀x c,X.env.cells.lookup x=some c->c≠b
 bs:∀b o,X.base.get? b=some o->X.s₀.heap.get? b=some o/\X.H₀ b=none
 bsz:X.base.objs.size<=X.s₀.heap.objs.size
 noex:∀b o,X.base.get? b=some o->b∉X.ex
 exfs:∀b∈X.ex,b∉X.fs
 funs:X.s₀.heap.FunFrames X.base X.outer
 frf:∀b∈X.fs,X.H₀ b=none
structure c7 (X:Cx)(pins:List (Addr×Obj))(σ:List (Option V))(H:Hp)(s:Shared):Prop where
 ok:X.Ok
 os:s.os=X.s₀.os
 bare:AllBare s.gens
 base:Un X.fs X.ex X.H₀ H X.s₀.heap s.heap
 loc:∃m,s.heap.Ns X.env.locals m/\∀(i:Nat) (x:Str) (v:V),X.N[i]? =some x->σ[i]? =some (some v)->Vis X.env.scope x->∃u,j4 v u/\bo5 X.env s.heap m x u
 cell:∀x c,X.env.cells.lookup x=some c->∃v,s.heap.IsCell c v
 free:H X.env.locals=none
 freeC:∀x c,X.env.cells.lookup x=some c->H c=none
 pin:∀p∈X.pn++pins,s.heap.get? p.1=some p.2/\H p.1=none/\p.1≠X.env.locals/\p.1∉X.fs/\∀v,p.2.data≠.cell v
 hok:q5 X.prog X.w H s.heap
 len:σ.length=X.N.length
section
variable {X:Cx} {pins:List (Addr×Obj)} {σ:List (Option V)} {H H':Hp} {s:Shared} {h':Heap}
theorem Cx.Ok.nofr (ok:X.Ok){b:Addr}{o:Obj}(e:X.base.get? b=some o):b∉X.fs:=fun hb=>by
 have:=(ok.funs.mem hb).1;rw[e] at this;cases this
theorem c7.bs (I:c7 X pins σ H s):∀b o,X.base.get? b=some o->s.heap.get? b=some o/\H b=none:=fun b o e=>
 ⟨I.base.keep b o (I.ok.bs b o e).1 (I.ok.bs b o e).2 (I.ok.nofr e) (I.ok.noex b o e),I.base.free b o (I.ok.bs b o e).1 (I.ok.bs b o e).2 (I.ok.noex b o e)⟩
theorem c7.bk (I:c7 X pins σ H s):∀b o,X.base.get? b=some o->s.heap.get? b=some o:=fun b o e=>(I.bs b o e).1
theorem c7.mod (I:c7 X pins σ H s):Mod X.K X.mg X.base:=I.ok.mod
theorem c7.kIn (I:c7 X pins σ H s):X.K.In s.heap:=I.ok.mod.kin.keeps I.bk
theorem c7.nolimit (I:c7 X pins σ H s):s.heap.NoLimit:=I.ok.mod.nolimit.keeps I.bk
theorem c7.lt (I:c7 X pins σ H s):X.env.locals < s.heap.objs.size:=let ⟨_,hn,_⟩:=I.loc;hn.lt
theorem c7.sz (I:c7 X pins σ H s):X.s₀.heap.objs.size<=s.heap.objs.size:=bw3 I.ok.above (ca2 I.lt)
theorem c7.nofs (I:c7 X pins σ H s){a:Addr}(h:s.heap.objs.size<=a):a∉X.fs:=fun hb=>by
 obtain ⟨_,o,ho,_⟩:=I.ok.funs.mem hb;exact absurd (bu1 (Heap.lt_size ho) (bw3 I.sz h)) (bx9 _)
theorem c7.cne (I:c7 X pins σ H s):∀x c,X.env.cells.lookup x=some c->c≠X.env.locals:=fun x c e z=>by
 obtain ⟨v,o,ho,hd⟩:=I.cell x c e;obtain ⟨m,⟨o',es,ep,ho',hd',_⟩,_⟩:=I.loc;rw[z,ho'] at ho;cases ho;rw[hd'] at hd;cases hd
theorem c7.funs (I:c7 X pins σ H s):s.heap.FunFrames X.base X.outer:=by
 have all:∀(l:List Env),(∀b∈M5 l,b∈X.fs)->X.s₀.heap.FunFrames X.base l->s.heap.FunFrames X.base l:=by
   intro l
   induction l with
   |nil=>intro _ _;trivial
   |cons env r ih=>
    intro hs hl;obtain ⟨hk,⟨L,o,hf,hn,ho,hd⟩,hr⟩:=hl;have hL:L∈X.fs:=hs L (by unfold M5;rw[cb5,hf];exact bs4)
    obtain ⟨sl,e⟩:=I.base.slot L o ho (I.ok.frf L hL) hL fun z=>I.ok.exfs L z hL
    exact ⟨hk,⟨L,_,hf,hn,e,hd⟩,ih (fun b hb=>hs b (by unfold M5;rw[cb5,hf];exact bs7 _ hb)) hr⟩
 exact all X.outer (fun _ hb=>hb) I.ok.funs
theorem c7.stack (I:c7 X pins σ H s):s.heap.FunFrames X.base X.stack:=by
 rcases I.ok.stk with e|⟨e,hf⟩
 · rw[e];exact I.funs
 · rw[e];obtain ⟨m,hn,_⟩:=I.loc;refine .cons (by rw[I.ok.kind];decide) hf hn ?_ I.funs;exact Heap.get?_none_of_le (bw3 I.ok.bsz I.ok.above)
theorem c7.stkSub (I:c7 X pins σ H s):∀b∈M5 X.stack,b∈X.env.locals::X.fs:=fun b hb=>by
 rcases I.ok.stk with e|⟨e,hf⟩
 · rw[e] at hb;exact bs7 _ hb
 · rw[e] at hb;unfold M5 at hb;rw[cb5,hf] at hb;exact hb
theorem c7.stkFree (I:c7 X pins σ H s):∀b∈M5 X.stack,H b=none:=fun b hb=>by
 rcases bw9.mp (I.stkSub b hb) with e|hb
 · rw[e];exact I.free
 · obtain ⟨_,o,ho,_⟩:=I.ok.funs.mem hb
   exact I.base.free b o ho (I.ok.frf b hb) fun z=>I.ok.exfs b z hb
theorem c7.step {g':Array GenState}{t':Nat}{d':Drawn}{ch:List Addr}(I:c7 X pins σ H s)
   (hch:∀b∈ch,(b∈X.ex\/X.s₀.heap.objs.size<=b)/\b≠X.env.locals/\(∀x c,X.env.cells.lookup x=some c->c≠b)/\∀p∈X.pn++pins,p.1≠b)
   (keep:∀b o,b≠X.env.locals->b∉X.fs->b∉ch->s.heap.get? b=some o->H b=none->h'.get? b=some o)
   (slot:∀b o,b≠X.env.locals->b∈X.fs->b∉ch->s.heap.get? b=some o->H b=none->∃sl,h'.get? b=some {o with slots:=sl}) (free:∀b o,b∉ch->s.heap.get? b=some o->H b=none->H' b=none)
   (there:∀b o,b∉ch->s.heap.get? b=some o->∃o',h'.get? b=some o')
   (tups:∀b xs,H b=some (.tup xs)->H' b=some (.tup xs)) (frzs:∀b o u,H b=some (.frz o u)->H' b=some (.frz o u)) (tbls:∀b ps,H b=some (.tbl ps)->∃more,H' b=some (.tbl (ps++more)))
   (ns:∀m,s.heap.Ns X.env.locals m->h'.Ns X.env.locals m) (hok:q5 X.prog X.w H' h') (hg:AllBare g'):
   c7 X pins σ H' {s with heap:=h',gens:=g',drawn:=d',toks:=t'}:=by
 have neL:∀b o,X.s₀.heap.get? b=some o->b≠X.env.locals:=fun b o e=>bv5 (bu1 (Heap.lt_size e) I.ok.above)
 have neC:∀b o,X.s₀.heap.get? b=some o->b∉X.ex->b∉ch:=fun b o e hx hb=>by
   rcases (hch b hb).1 with z|z
   · exact hx z
   · exact absurd (bu1 (Heap.lt_size e) z) (bx9 _)
 have cellK:∀x c,X.env.cells.lookup x=some c->∀v,s.heap.IsCell c v->h'.IsCell c v:=fun x c e v ⟨o,ho,hd⟩=>by
   have nch:c∉ch:=fun z=>(hch c z).2.2.1 x c e rfl
   by_cases hc:c∈X.fs
   · obtain ⟨sl,q⟩:=slot c o (I.cne x c e) hc nch ho (I.freeC x c e);exact ⟨_,q,hd⟩
   · exact ⟨o,keep c o (I.cne x c e) hc nch ho (I.freeC x c e),hd⟩
 refine ⟨I.ok,I.os,hg,⟨fun b o e n hb hx=> ?_,fun b o e n hb hx=> ?_,fun b o e n hx=> ?_,fun b o e hx=> ?_,fun b xs e=>tups b xs (I.base.tups b xs e),fun b o xs e=>frzs b o xs (I.base.frzs b o xs e),fun b ps e=> ?_⟩,?_,fun x c e=> ?_,?_,fun x c e=> ?_,fun p hp=> ?_,hok,I.len⟩
 · exact keep b o (neL b o e) hb (neC b o e hx) (I.base.keep b o e n hb hx) (I.base.free b o e n hx)
 · obtain ⟨sl,e1⟩:=I.base.slot b o e n hb hx;obtain ⟨sl',e2⟩:=slot b _ (neL b o e) hb (neC b o e hx) e1 (I.base.free b o e n hx);exact ⟨sl',e2⟩
 · obtain ⟨o',e1⟩:=I.base.there b o e hx;exact free b o' (neC b o e hx) e1 (I.base.free b o e n hx)
 · obtain ⟨o',e1⟩:=I.base.there b o e hx;exact there b o' (neC b o e hx) e1
 · obtain ⟨m1,e1⟩:=I.base.tbls b ps e;obtain ⟨m2,e2⟩:=tbls b _ e1;exact ⟨m1++m2,by rw[e2,Array.append_assoc]⟩
 · obtain ⟨m,hn,hl⟩:=I.loc;refine ⟨m,ns m hn,fun i x v e1 e2 e3=> ?_⟩;obtain ⟨u,r,l⟩:=hl i x v e1 e2 e3;refine ⟨u,r,?_⟩
   rcases l with l|⟨k,c,e,z⟩
   · exact .inl l
   · exact .inr ⟨k,c,e,cellK x c e _ z⟩
 · obtain ⟨v,z⟩:=I.cell x c e;exact ⟨v,cellK x c e v z⟩
 · obtain ⟨m,⟨o,_,_,ho,_⟩,_⟩:=I.loc;exact free _ o (fun z=>(hch _ z).2.1 rfl) ho I.free
 · obtain ⟨v,o,ho,hd⟩:=I.cell x c e;exact free c o (fun z=>(hch c z).2.2.1 x c e rfl) ho (I.freeC x c e)
 · obtain ⟨e,n,ne,nf,d⟩:=I.pin p hp
   have nch:p.1∉ch:=fun z=>(hch p.1 z).2.2.2 p hp rfl
   exact ⟨keep p.1 p.2 ne nf nch e n,free p.1 p.2 nch e n,ne,nf,d⟩
theorem c7.un {t':Nat}(I:c7 X pins σ H s)(u:Un X.fs [] H H' s.heap h')(hok:q5 X.prog X.w H' h'):c7 X pins σ H' {s with heap:=h',toks:=t'}:=by
 obtain ⟨m,⟨o,es,ep,ho,r⟩,_⟩:=id I.loc;obtain ⟨sl,hL⟩:=u.any ho I.free (by simp)
 exact I.step (g':=s.gens) (d':=s.drawn) (ch:=[]) (fun _ z=>nomatch z) (fun b o _ hb _ e n=>u.keep b o e n hb (by simp)) (fun b o _ hb _ e n=>u.slot b o e n hb (by simp)) (fun b o _ e n=>u.free b o e n (by simp)) (fun b o _ e=>u.there b o e (by simp)) u.tups u.frzs u.tbls (fun m' hm=>by
   obtain ⟨o',es',ep',ho',r'⟩:=hm;rw[ho] at ho';cases ho'
   exact ⟨_,es',ep',hL,r'⟩) hok I.bare
theorem c7.call {g':Array GenState}{t':Nat}{d':Drawn}{ch:List Addr}(I:c7 X pins σ H s)(u:Un (M5 X.stack) ch H H' s.heap h')(hok:q5 X.prog X.w H' h')(hg:AllBare g')
   (hch:∀b∈ch,(b∈X.ex\/X.s₀.heap.objs.size<=b)/\b≠X.env.locals/\(∀x c,X.env.cells.lookup x=some c->c≠b)/\∀p∈X.pn++pins,p.1≠b):
   c7 X pins σ H' {s with heap:=h',gens:=g',drawn:=d',toks:=t'}:=by
 obtain ⟨m,⟨o,es,ep,ho,r⟩,_⟩:=id I.loc
 obtain ⟨sl,hL⟩:=u.any ho I.free fun z=>(hch _ z).2.1 rfl
 exact I.step (ch:=ch) hch (fun b o hL hb hc e n=>u.keep b o e n (fun z=>(bw9.mp (I.stkSub b z)).elim hL hb) hc) (fun b o _ _ hc e n=>u.any e n hc) (fun b o hc e n=>u.free b o e n hc) (fun b o hc e=>u.there b o e hc) u.tups u.frzs u.tbls (fun m' hm=>by
   obtain ⟨o',es',ep',ho',r'⟩:=hm;rw[ho] at ho';cases ho'
   exact ⟨_,es',ep',hL,r'⟩) hok hg
theorem c7.turned {t':Nat}{it:Addr}(I:c7 X pins σ H s)(k:∀b o,b≠it->s.heap.get? b=some o->h'.get? b=some o)(hn:H it=none)(hL:it≠X.env.locals)
   (h1:it∈X.ex\/X.s₀.heap.objs.size<=it) (h2:∀x c,X.env.cells.lookup x=some c->c≠it) (h3:∀p∈X.pn++pins,p.1≠it):c7 X pins σ H {s with heap:=h',toks:=t'}:=by
 have nit:∀b u,H b=some u->b≠it:=fun b u e z=>by rw[z,hn] at e;cases e
 refine I.step (g':=s.gens) (d':=s.drawn) (ch:=[it]) (fun b hb=> ?_) (fun b o _ _ hc e _=>k b o (fun z=>hc (by simp [z])) e) (fun b o _ _ hc e _=>⟨o.slots,k b o (fun z=>hc (by simp [z])) e⟩) (fun _ _ _ _ n=>n)
   (fun b o hc e=>⟨o,k b o (fun z=>hc (by simp [z])) e⟩) (fun _ _ e=>e) (fun _ _ _ e=>e) (fun b ps e=>⟨#[],by rw[e];simp⟩) (fun m hm=> ?_) (fun b u e=> ?_) I.bare
 · have e:b=it:=by simpa using hb
   subst e;exact ⟨h1,hL,h2,h3⟩
 · obtain ⟨o,es,ep,ho,r⟩:=hm;exact ⟨o,es,ep,k _ o (Ne.symm hL) ho,r⟩
 · refine (I.hok b u e).stay (fun c v hc q=>k c v ?_ q) (fun _ q=>q) fun _ _ q=>q
   rcases hc with z|z
   · rw[z];exact nit b u e
   · exact nit c _ z
theorem c7.tok (I:c7 X pins σ H s)(t:Nat):c7 X pins σ H {s with toks:=t}:=I.un (h':=s.heap) (t':=t) Un.refl I.hok
theorem c7.kept {t':Nat}(I:c7 X pins σ H s)(k:∀b u,s.heap.get? b=some u->h'.get? b=some u):c7 X pins σ H {s with heap:=h',toks:=t'}:=I.un (Un.kept k) (I.hok.kept k)
theorem c7.laid {a:Addr}{o:HO}{t':Nat}(I:c7 X pins σ H s)(k:∀b u,s.heap.get? b=some u->h'.get? b=some u)(hp:s.heap.objs.size<=a)(new:n6 X.prog X.w (g9 H a o) h' a o):
 c7 X pins σ (g9 H a o) {s with heap:=h',toks:=t'}:=I.un (Un.laid k hp (I.hok.fresh hp)) (I.hok.laid k hp new)
theorem c7.write {x e:Addr}{o:HO}{t':Nat}(I:c7 X pins σ H s)(mu:Mut (H x))(he:e=x\/H e=some (.own x))(k:∀b u,b≠e->s.heap.get? b=some u->h'.get? b=some u)(heo:∃u,h'.get? e=some u)
 (new:n6 X.prog X.w (g9 H x o) h' x o):c7 X pins σ (g9 H x o) {s with heap:=h',toks:=t'}:=I.un (Un.write mu he k heo) (I.hok.write mu he k heo new)
theorem c7.pins_of {pins':List (Addr×Obj)}(I:c7 X pins σ H s)(h:∀p∈pins',s.heap.get? p.1=some p.2/\H p.1=none/\p.1≠X.env.locals/\p.1∉X.fs/\∀v,p.2.data≠.cell v):c7 X pins' σ H s:=
 ⟨I.ok,I.os,I.bare,I.base,I.loc,I.cell,I.free,I.freeC,fun p hp=>(bt5.mp hp).elim (fun z=>I.pin p (bv9 _ z)) (h p),I.hok,I.len⟩
theorem af1 {N:List Str}(hN:N.Nodup){i j:Nat}{x:Str}(a:N[i]? =some x)(b:N[j]? =some x):i=j:=by
 obtain ⟨h1,e1⟩:=bs3.mp a;obtain ⟨h2,e2⟩:=bs3.mp b;exact (List.getElem_inj hN).mp (e1.trans e2.symm)
theorem ab0 {M:Model}{A:Around}{E:Value->Shared->Prop}{i:Nat}{x:Str}{v:V}{u:Value}{Q:Unit->Shared->Prop}(I:c7 X pins σ H s)(hN:X.N.Nodup)(hi:X.N[i]? =some x)(hx:Loc X.env.scope x)(r:j4 v u)
   (h:∀s',c7 X pins (σ.set i (some v)) H s'->(∃a,Heap.SameBut a s.heap s'.heap/\(a=X.env.locals\/X.env.cells.lookup x=some a))->Q () s') (hf:X.fn x=true\/X.env.scope.names.lookup x=some .local:=by first|exact .inl rfl|exact .inr rfl|assumption):wpAny M A (storeName X.env x u) Q E s:=by
 obtain ⟨m,hn,hl⟩:=id I.loc
 have hcls:(X.env.scope.kind== .class||(X.env.scope.kind== .module&&X.env.locals !=X.env.globals))=false:=by rw[I.ok.kind];rfl
 have hiσ:i < σ.length:=by rw[I.len];exact (bs3.mp hi).1
 have cne:=I.cne
 have tracked:∀{a:Addr} {h':Heap},(∃o,s.heap.get? a=some o/\H a=none)->Heap.SameBut a s.heap h'->q5 X.prog X.w H h':=fun {a h'} ha hs b ob e=>by
   obtain ⟨_,_,hfree⟩:=ha
   refine (I.hok b ob e).stay (fun c w' hc q=>(hs.2 c ?_).trans q) (fun _ q=>q) fun _ _ q=>q
   rintro rfl
   rcases hc with rfl|hc
   · rw[hfree] at e;cases e
   · rw[hfree] at hc;cases hc
 rcases hx with hk|hk
 · refine wpAny_storeName_local hk hn (fun h' hn' hs=> ?_) hcls;obtain ⟨oL,_,_,hoL,_⟩:=id hn;refine h _ ⟨I.ok,I.os,I.bare,⟨fun b o e n hb hx=> ?_,fun b o e n hb hx=> ?_,I.base.free,fun b o e hx=> ?_,I.base.tups,I.base.frzs,I.base.tbls⟩,⟨_,hn',fun j y v' e1 e2 e3=> ?_⟩,fun y c e=> ?_,I.free,I.freeC,fun p hp=> ?_,tracked ⟨oL,hoL,I.free⟩ hs,by simpa using I.len⟩ ⟨_,hs,.inl rfl⟩
   · exact (hs.2 b (bv5 (bu1 (Heap.lt_size e) I.ok.above))).trans (I.base.keep b o e n hb hx)
   · obtain ⟨sl,e1⟩:=I.base.slot b o e n hb hx;exact ⟨sl,(hs.2 b (bv5 (bu1 (Heap.lt_size e) I.ok.above))).trans e1⟩
   · obtain ⟨o',e1⟩:=I.base.there b o e hx;exact ⟨o',(hs.2 b (bv5 (bu1 (Heap.lt_size e) I.ok.above))).trans e1⟩
   · by_cases hj:j=i
     · subst hj;rw[hi] at e1;cases e1;rw[by1 hiσ] at e2;cases e2;exact ⟨u,r,.inl ⟨hk,by simp⟩⟩
     · rw[by3 (Ne.symm hj)] at e2;obtain ⟨u',r',q⟩:=hl j y v' e1 e2 e3;refine ⟨u',r',?_⟩
       rcases q with ⟨k,e⟩|⟨k,c,e,z⟩
       · refine .inl ⟨k,?_⟩
         have:y≠x:=fun e=>hj (af1 hN e1 (e▸hi))
         simp [this,e]
       · exact .inr ⟨k,c,e,z.sameBut hs (cne y c e)⟩
   · obtain ⟨w',z⟩:=I.cell y c e;exact ⟨w',z.sameBut hs (cne y c e)⟩
   · obtain ⟨e,n,ne,nf,d⟩:=I.pin p hp;exact ⟨(hs.2 p.1 ne).trans e,n,ne,nf,d⟩
 · have hfn:X.fn x=true:=by
     rcases hf with z|z
     · exact z
     · rw[z] at hk;cases hk
   obtain ⟨c,hc⟩:=I.ok.has x (.inl hk);obtain ⟨w',z⟩:=I.cell x c hc;refine wpAny_storeName_cell I.ok.kind hk hc z (fun h' hc' hs=> ?_);obtain ⟨oc,hoc,hocd⟩:=id z;refine h {s with heap:=h'} ⟨I.ok,I.os,I.bare,⟨fun b o e n hb hx=> ?_,fun b o e n hb hx=> ?_,I.base.free,fun b o e hx=> ?_,I.base.tups,I.base.frzs,I.base.tbls⟩,⟨m,hn.sameBut hs (Ne.symm (cne x c hc)),fun j y v' e1 e2 e3=> ?_⟩,fun y c' e=> ?_,I.free,I.freeC,fun p hp=> ?_,tracked ⟨oc,hoc,I.freeC x c hc⟩ hs,by simpa using I.len⟩ ⟨c,hs,.inr hc⟩
   · exact (hs.2 b (bv5 (bu1 (Heap.lt_size e) (I.ok.cab x c hfn hc)))).trans (I.base.keep b o e n hb hx)
   · obtain ⟨sl,e1⟩:=I.base.slot b o e n hb hx;exact ⟨sl,(hs.2 b (bv5 (bu1 (Heap.lt_size e) (I.ok.cab x c hfn hc)))).trans e1⟩
   · obtain ⟨o',e1⟩:=I.base.there b o e hx;exact ⟨o',(hs.2 b (bv5 (bu1 (Heap.lt_size e) (I.ok.cab x c hfn hc)))).trans e1⟩
   · by_cases hj:j=i
     · subst hj;rw[hi] at e1;cases e1;rw[by1 hiσ] at e2;cases e2;exact ⟨u,r,.inr ⟨.inl hk,c,hc,hc'⟩⟩
     · rw[by3 (Ne.symm hj)] at e2;obtain ⟨u',r',q⟩:=hl j y v' e1 e2 e3;refine ⟨u',r',?_⟩
       rcases q with q|⟨k,c',e,z'⟩
       · exact .inl q
       · refine .inr ⟨k,c',e,z'.sameBut hs ?_⟩;rintro rfl;exact hj (af1 hN e1 (I.ok.inj _ _ _ e hc▸hi))
   · by_cases hcc:c'=c
     · subst hcc;exact ⟨_,hc'⟩
     · obtain ⟨w2,z2⟩:=I.cell y c' e;exact ⟨w2,z2.sameBut hs hcc⟩
   · obtain ⟨e,n,ne,nf,d⟩:=I.pin p hp;refine ⟨(hs.2 p.1 ?_).trans e,n,ne,nf,d⟩;intro q;rw[q,hoc] at e;have q':oc=p.2:=Option.some.inj e;exact d w' (by rw[<-q'];exact hocd)
theorem af2 {M:Model}{A:Around}{E:Value->Shared->Prop}{i:Nat}{x:Str}{v:V}{u:Value}{Q:Unit->Shared->Prop}(I:c7 X pins σ H s)(hN:X.N.Nodup)(hi:X.N[i]? =some x)(hx:Loc X.env.scope x)(r:j4 v u)
   (h:∀s',c7 X pins (σ.set i (some v)) H s'->Q () s') (hf:X.fn x=true\/X.env.scope.names.lookup x=some .local:=by first|exact .inl rfl|exact .inr rfl|assumption):wpAny M A (storeName X.env x u) Q E s:=
 ab0 I hN hi hx r (fun s' I' _=>h s' I') hf
theorem c7.call' {s':Shared}{ch:List Addr}(I:c7 X pins σ H s)(ho:s'.os=s.os)(u:Un (M5 X.stack) ch H H' s.heap s'.heap)(hok:q5 X.prog X.w H' s'.heap)(hg:AllBare s'.gens)
   (hch:∀b∈ch,(b∈X.ex\/X.s₀.heap.objs.size<=b)/\b≠X.env.locals/\(∀x c,X.env.cells.lookup x=some c->c≠b)/\∀p∈X.pn++pins,p.1≠b):c7 X pins σ H' s':=by
 obtain ⟨h',g',d',t',o'⟩:=s';have e:o'=s.os:=ho;subst e;exact I.call (g':=g') (t':=t') (d':=d') u hok hg hch
end
abbrev XK:=Value->Option Addr->Hp->Prop
abbrev St:=List (Option V)
abbrev VK:=V->Hp->Prop
abbrev TE:=St->Hp->VK->Prop
abbrev TT:=St->Hp->(Bool->Hp->Prop)->Prop
abbrev TA:=St->Hp->(List V->Hp->Prop)->Prop
structure N3 where
 nx:St->Hp->Prop
 rt:VK
 bk:St->Hp->Prop:=fun _ _=>False
 ct:St->Hp->Prop:=fun _ _=>False
abbrev TS:=N3->St->Hp->Prop
def EP (X:Cx)(pins:List (Addr×Obj))(σ:St)(Q:VK)(u:Value)(s':Shared):Prop:=∃v H',c7 X pins σ H' s'/\j4 v u/\Q v H'
def TP (X:Cx)(pins:List (Addr×Obj))(σ:St)(Q:Bool->Hp->Prop)(b:Bool)(s':Shared):Prop:=∃H',c7 X pins σ H' s'/\Q b H'
def AP (X:Cx)(pins:List (Addr×Obj))(σ:St)(Q:List V->Hp->Prop)(us:List Value)(s':Shared):Prop:=∃vs H',c7 X pins σ H' s'/\h8 vs us/\Q vs H'
def SP (X:Cx)(pins:List (Addr×Obj))(D:N3)(f:Flow)(s':Shared):Prop:=
 match f with
 | .next=>∃σ' H',c7 X pins σ' H' s'/\D.nx σ' H'
 | .brk=>∃σ' H',c7 X pins σ' H' s'/\D.bk σ' H'
 | .cont=>∃σ' H',c7 X pins σ' H' s'/\D.ct σ' H'
 | .ret u=>∃v σ' H',c7 X pins σ' H' s'/\j4 v u/\D.rt v H'
def PE (X:Cx)(e:Expr)(t:TE):Prop:=
 ∀(pins:List (Addr×Obj)) (s:Shared) (σ:St) (H:Hp) (Q:VK),c7 X pins σ H s->t σ H Q->wpAny (model X.prog X.w) X.A (eval e X.env) (EP X pins σ Q) X.xe s
def PT (X:Cx)(e:Expr)(t:TT):Prop:=
 ∀(pins:List (Addr×Obj)) (s:Shared) (σ:St) (H:Hp) (Q:Bool->Hp->Prop),c7 X pins σ H s->t σ H Q->wpAny (model X.prog X.w) X.A (isTrue e X.env (eval e X.env)) (TP X pins σ Q) X.xe s
def PW (X:Cx)(e:Expr)(t:TT):Prop:=
 ∀(whole:Sem Value) (pins:List (Addr×Obj)) (s:Shared) (σ:St) (H:Hp) (Q:Bool->Hp->Prop),c7 X pins σ H s->t σ H Q->wpAny (model X.prog X.w) X.A (isTrue e X.env whole) (TP X pins σ Q) X.xe s
theorem PW.pt {X:Cx}{e:Expr}{t:TT}(h:PW X e t):PT X e t:=h _
def PA (X:Cx)(es:List Expr)(t:TA):Prop:=
 ∀(pos:Pos) (pins:List (Addr×Obj)) (s:Shared) (σ:St) (H:Hp) (Q:List V->Hp->Prop),c7 X pins σ H s->t σ H Q->wpAny (model X.prog X.w) X.A (spliced (backTo pos (starEach es X.env))) (AP X pins σ Q) X.xe s
def PS (X:Cx)(st:Stmt)(t:TS):Prop:=
 ∀(pins:List (Addr×Obj)) (s:Shared) (σ:St) (H:Hp) (D:N3),c7 X pins σ H s->t D σ H->wpAny (model X.prog X.w) X.A (exec st X.env) (SP X pins D) X.xe s
def M6 (X:Cx)(st:List Stmt)(t:TS):Prop:=
 ∀(pins:List (Addr×Obj)) (s:Shared) (σ:St) (H:Hp) (D:N3),c7 X pins σ H s->t D σ H->wpAny (model X.prog X.w) X.A (execs st X.env) (SP X pins D) X.xe s
theorem j3 {α:Type}{t:Sem α}{Q Q':α->Shared->Prop}{M:Model}{A:Around}{E:Value->Shared->Prop}{s:Shared}(h:wpAny M A t Q E s)(hQ:∀a s,Q a s->Q' a s):wpAny M A t Q' E s:=wpAny_mono h hQ fun _ _ x=>x
end L2
namespace L2
open PySem PySem.Spec PyProof.Rows
section
variable {X:Cx}
def bg6 (i:Nat):TE:=fun σ H Q=>∃v,σ[i]? =some (some v)/\Q v H
def tC (v:V):TE:=fun _ H Q=>Q v H
theorem bg7 {i:Nat}{x:Str}{pos:Pos}(hN:X.N[i]? =some x)(hv:Vis X.env.scope x)(hd:(x==("__debug__":Str))=false:=by decide)(hcd:(x==("__classdict__":Str))=false:=by decide):PE X (.Name x pos) (bg6 i):=by
 intro pins s σ H Q I h;obtain ⟨v,e,h⟩:=h;obtain ⟨m,hn,hl⟩:=I.loc;obtain ⟨u,r,l⟩:=hl i x v hN e hv;have fin:EP X pins σ Q u s:=⟨v,H,I,r,h⟩
 rcases l with ⟨hk,hm⟩|⟨hk,c,hc,hcell⟩
 · exact wpAny_Name (wpAny_loadName_local I.ok.kind hk hn hm fin) hd
 · rcases hk with hk|hk
   · exact wpAny_Name (wpAny_loadName_cell I.ok.kind hk hc hcell fin) hd
   · exact wpAny_Name (wpAny_loadName_free I.ok.kind hk hc hcell fin hcd) hd
theorem i8 {i j pos}:PE X (.Constant (.int i) j pos) (tC (.int i)):=fun _ _ _ H _ I h=>wpAny_Constant_int ⟨.int i,H,I.tok _,⟨_,rfl⟩,h⟩
theorem A7 {b j pos}:PE X (.Constant (.bool b) j pos) (tC (.bl b)):=fun _ _ _ H _ I h=>Constant_bool ⟨.bl b,H,I,rfl,h⟩
theorem o4 {x j pos}:PE X (.Constant (.str x) j pos) (tC (.str x)):=fun _ _ _ H _ I h=>Calls.Constant_str ⟨.str x,H,I.tok _,⟨_,rfl⟩,h⟩
def Gl (X:Cx)(x:Str):Prop:=X.env.kindOf x=some .globalImplicit
theorem al7 {E:Value->Shared->Prop}{pins:List (Addr×Obj)}{s:Shared}{σ:St}{H:Hp}{x:Str}{u:Value}{pos:Pos}{Q:Value->Shared->Prop}(I:c7 X pins σ H s)(hg:Gl X x)(hm:X.mg x=some u)(h:Q u s)
   (hd:(x==("__debug__":Str))=false:=by decide):wpAny (model X.prog X.w) X.A (eval (.Name x pos) X.env) Q E s:=
 Calls.Name_function_global I.ok.kind hg (Calls.loadGlobal_global (by rw[I.ok.glob];exact I.mod.glob.keeps I.bk) hm h) hd
theorem R9 {E:Value->Shared->Prop}{pins:List (Addr×Obj)}{s:Shared}{σ:St}{H:Hp}{x:Str}{u:Value}{pos:Pos}{Q:Value->Shared->Prop}(I:c7 X pins σ H s)(hg:Gl X x)(hm:X.mg x=none)(hv:bootBuiltins x=some u)(h:Q u s)
   (hn:x≠"__name__":=by decide) (hd:(x==("__debug__":Str))=false:=by decide):wpAny (model X.prog X.w) X.A (eval (.Name x pos) X.env) Q E s:=by
 obtain ⟨mb,h1,h2⟩:=I.mod.blt;exact Calls.Name_function_global I.ok.kind hg (Calls.loadGlobal_builtin (by rw[I.ok.glob];exact I.mod.glob.keeps I.bk) hm (by rw[I.ok.blt];exact h1.keeps I.bk) ((h2 x hn).trans hv) h) hd
theorem al8 {x:Str}{v:V}{u:Value}{pos:Pos}(hg:Gl X x)(hm:X.mg x=some u)(r:j4 v u)(hd:(x==("__debug__":Str))=false:=by decide):PE X (.Name x pos) (tC v):=
 fun _ _ _ H _ I h=>al7 I hg hm ⟨v,H,I,r,h⟩ hd
theorem T5 {x:Str}{v:V}{u:Value}{pos:Pos}(hg:Gl X x)(hm:X.mg x=none)(hv:bootBuiltins x=some u)(r:j4 v u)(hn:x≠"__name__":=by decide)(hd:(x==("__debug__":Str))=false:=by decide):PE X (.Name x pos) (tC v):=
 fun _ _ _ H _ I h=>R9 I hg hm hv ⟨v,H,I,r,h⟩ hn hd
variable {a b:Expr} {ta tb:TE} {pos:Pos}
def PC (X:Cx)(op:CmpOp)(a b:Expr)(t:TE):Prop:=
 ∀(pins:List (Addr×Obj)) (s:Shared) (σ:St) (H:Hp) (Q:VK),c7 X pins σ H s->t σ H Q->
  wpAny (model X.prog X.w) X.A (eval a X.env) (fun v s₁=>wpAny (model X.prog X.w) X.A (eval b X.env) (fun u s₂=>wpAny (model X.prog X.w) X.A (compareOp op v u) (EP X pins σ Q) X.xe s₂) X.xe s₁) X.xe s
def tB (t:TE):TT:=fun σ H Q=>t σ H fun x H1=>∃c,x= .bl c/\Q c H1
theorem ar2 {op:CmpOp}{t:TE}(h:PC X op a b t)(h1:behindInMarks op b=false:=by first|exact nobehind _ (by decide) (by decide)|rfl):PT X (.Compare a [op] [b] pos) (tB t):=by
 intro pins s σ H Q I hw;refine wpAny_isTrue_Compare1 (j3 (h pins s σ H _ I hw) fun v s1 h1=>j3 h1 fun u s2 h2=>j3 h2 fun c s3 ⟨x,H1,I1,r1,q1⟩=> ?_) h1;obtain ⟨d,rfl,q⟩:=q1;cases r1;exact wpAny_truthy_bool ⟨H1,I1,q⟩
theorem E5 {e:Expr}{t:TE}(h:PE X e t)(he:∀whole,isTrue e X.env whole=(do let v <-whole;standAt e.pos;holding [v] (truthy v)):=by intro _;rfl):PT X e (tB t):=by
 intro pins s σ H Q I hw;refine isTrue_plain (j3 (h pins s σ H _ I hw) fun v s1 ⟨x,H1,I1,r1,q1⟩=> ?_) (he _);obtain ⟨d,rfl,q⟩:=q1;cases r1;exact wpAny_truthy_bool ⟨H1,I1,q⟩
variable {tA tB':TT} {rest:List Expr}
def bo6 (t u:TT):TT:=fun σ H Q=>t σ H fun c H1=>if c=true then u σ H1 Q else Q false H1
def tOr (t u:TT):TT:=fun σ H Q=>t σ H fun c H1=>if c=true then Q true H1 else u σ H1 Q
def bo7 (t:TT):TT:=fun σ H Q=>t σ H fun c H1=>Q (!c) H1
theorem al9 (ha:PT X a tA):PW X (.BoolOp .And [a] pos) tA:=by
 intro wh pins s σ H Q I h;refine isTrue_and (j3 (ha pins s σ H Q I h) fun c s1 e=> ?_)
 cases c with
 |true=>exact isTrue_and_nil e
 |false=>exact e
theorem W5 (ha:PT X a tA):PW X (.BoolOp .Or [a] pos) tA:=by
 intro wh pins s σ H Q I h;refine isTrue_or (j3 (ha pins s σ H Q I h) fun c s1 e=> ?_)
 cases c with
 |false=>exact isTrue_or_nil e
 |true=>exact e
theorem ar3 (ha:PT X a tA)(hb:PW X (.BoolOp .And (b::rest) pos) tB'):PW X (.BoolOp .And (a::b::rest) pos) (bo6 tA tB'):=by
 intro wh pins s σ H Q I h;refine isTrue_and (j3 (ha pins s σ H _ I h) fun c s1 ⟨H1,I1,q1⟩=> ?_)
 cases c with
 |true=>exact hb wh pins s1 σ H1 Q I1 q1
 |false=>exact ⟨H1,I1,q1⟩
theorem T6 (ha:PT X a tA)(hb:PW X (.BoolOp .Or (b::rest) pos) tB'):PW X (.BoolOp .Or (a::b::rest) pos) (tOr tA tB'):=by
 intro wh pins s σ H Q I h;refine isTrue_or (j3 (ha pins s σ H _ I h) fun c s1 ⟨H1,I1,q1⟩=> ?_)
 cases c with
 |true=>exact ⟨H1,I1,q1⟩
 |false=>exact hb wh pins s1 σ H1 Q I1 q1
theorem E6 (ha:PT X a tA):PT X (.UnaryOp .Not a pos) (bo7 tA):=by
 intro pins s σ H Q I h;exact isTrue_not (ha pins s σ H (fun c H1=>Q (!c) H1) I h)
def bl0 (ta tb:TE):TE:=fun σ H Q=>ta σ H fun x H1=>∃c,x= .bl c/\if c=true then tb σ H1 Q else Q (.bl false) H1
def bl1 (ta:TE):TE:=fun σ H Q=>ta σ H fun x H1=>∃c,x= .bl c/\Q (.bl (!c)) H1
theorem bg8 {op}{t:TE}(h:PE X a t):PE X (.BoolOp op [a] pos) t:=fun pins s σ H Q I hw=>BoolOp_one (h pins s σ H Q I hw)
theorem bg9 (ha:PE X a ta)(hb:PE X (.BoolOp .And (b::rest) pos) tb):PE X (.BoolOp .And (a::b::rest) pos) (bl0 ta tb):=by
 intro pins s σ H Q I h;refine BoolOp_and (j3 (ha pins s σ H _ I h) fun v s1 ⟨x,H1,I1,r1,q1⟩=> ?_);obtain ⟨c,rfl,q1⟩:=q1;cases r1;refine wpAny_truthy_bool ?_
 cases c with
 |true=>exact hb pins s1 σ H1 Q I1 q1
 |false=>exact ⟨.bl false,H1,I1,rfl,q1⟩
theorem bh0 (ha:PE X a ta):PE X (.UnaryOp .Not a pos) (bl1 ta):=by
 intro pins s σ H Q I h;refine UnaryOp_ (j3 (ha pins s σ H _ I h) fun v s1 ⟨x,H1,I1,r1,q1⟩=> ?_);obtain ⟨c,rfl,q1⟩:=q1;cases r1;exact not_of (wpAny_truthy_bool ⟨.bl (!c),H1,I1,rfl,q1⟩)
end
end L2
namespace L2
open PySem PySem.Spec PyProof.Rows
def g8 (K:PySem.W.Frag)(H:Hp)(a:Addr)(xs:List V):Prop:=
 Rd H a (.lst xs)\/
   ∃(o:Obj) (its:Array Value) (n:Nat),K.lookup a=some o/\o.cls= .type "list"/\o.dict=none/\o.data= .seq its n/\its.size<=sizeLine/\h8 xs its.toList
def E7 (K:PySem.W.Frag)(H:Hp)(a:Addr)(xs:List V):Prop:=
 Rd H a (.tup xs)\/
   ∃(o:Obj) (its:Array Value) (n:Nat),K.lookup a=some o/\o.cls= .type "tuple"/\o.data= .seq its n/\its.size<=sizeLine/\h8 xs its.toList
def bo8:Value->Option V
 | .none=>some .non
 | .bool b=>some (.bl b)
 | .int i _=>some (.int i)
 | .str x _=>some (.str x)
 | .bytes b _=>some (.byt b)
 | .float b _=>some (.flt b)
 | .ref a=>some (.ref a)
 | .type n=>some (.ty n)
 |_=>none
theorem j4.abs {x:V}{u:Value}(r:j4 x u):bo8 u=some x:=by
 cases x with
 |non=>cases r;rfl
 |bl _=>cases r;rfl
 |int _=>obtain ⟨t,rfl⟩:=r;rfl
 |str _=>obtain ⟨t,rfl⟩:=r;rfl
 |byt _=>obtain ⟨t,rfl⟩:=r;rfl
 |flt _=>obtain ⟨t,rfl⟩:=r;rfl
 |ref _=>cases r;rfl
 |ty _=>cases r;rfl
theorem j4.inj {x y:V}{u:Value}(r:j4 x u)(q:j4 y u):x=y:=Option.some.inj (r.abs.symm.trans q.abs)
theorem h8.inj:∀{xs ys:List V} {us:List Value},h8 xs us->h8 ys us->xs=ys
 |_,_,_,.nil,.nil=>rfl
 |_,_,_,.cons r t,.cons r' t'=>by rw[r.inj r',h8.inj t t']
section
variable {X:Cx} {pins:List (Addr×Obj)} {σ:St} {H:Hp} {s:Shared} {a:Addr} {xs ys:List V}
theorem g8.of {K:PySem.W.Frag}(h:H a=some (.lst xs)):g8 K H a xs:= .inl (.inl h)
theorem E7.of {K:PySem.W.Frag}(h:H a=some (.tup xs)):E7 K H a xs:= .inl (.inl h)
theorem c7.list (I:c7 X pins σ H s)(h:g8 X.K H a xs):∃its:List Value,h8 xs its/\PlainL s.heap a its.toArray/\xs.length<=sizeLine:=by
 rcases h with h|⟨o,its,n,hk,hc,hd,hs,hz,r⟩
 · obtain ⟨z,its,n,r,e⟩:=h.ok I.hok;exact ⟨its,r,⟨_,n,e,rfl,rfl,rfl⟩,z⟩
 · refine ⟨its.toList,r,⟨o,n,I.kIn a o hk,hc,hd,by simpa using hs⟩,?_⟩;have e:=r.length;simp only[Array.length_toList] at e;omega
theorem c7.tuple (I:c7 X pins σ H s)(h:E7 X.K H a xs):∃its:List Value,h8 xs its/\IsTup s.heap a its.toArray/\xs.length<=sizeLine:=by
 rcases h with h|⟨o,its,n,hk,hc,hs,hz,r⟩
 · obtain ⟨z,its,r,p⟩:=h.ok I.hok;exact ⟨its,r,p,z⟩
 · refine ⟨its.toList,r,⟨o,I.kIn a o hk,hc,n,by simpa using hs⟩,?_⟩;have e:=r.length;simp only[Array.length_toList] at e;omega
theorem c7.list_inj (I:c7 X pins σ H s)(h:g8 X.K H a xs)(h':g8 X.K H a ys):xs=ys:=by
 obtain ⟨its,r,⟨o,n,e,_,_,d⟩,_⟩:=I.list h;obtain ⟨its',r',⟨o',n',e',_,_,d'⟩,_⟩:=I.list h';rw[e] at e';cases e';rw[d] at d'
 injection d' with d1 _
 have:its=its':=by simpa using congrArg Array.toList d1
 subst this;exact r.inj r'
theorem c7.tuple_inj (I:c7 X pins σ H s)(h:E7 X.K H a xs)(h':E7 X.K H a ys):xs=ys:=by
 obtain ⟨its,r,⟨o,e,_,n,d⟩,_⟩:=I.tuple h;obtain ⟨its',r',⟨o',e',_,n',d'⟩,_⟩:=I.tuple h';rw[e] at e';cases e';rw[d] at d'
 injection d' with d1 _
 have:its=its':=by simpa using congrArg Array.toList d1
 subst this;exact r.inj r'
end
abbrev Cx.wish (X:Cx)(E:Value->Shared->Prop):Cx:={X with xe:=E}
abbrev Cx.nox (X:Cx):Cx:=X.wish fun _ _=>False
theorem Cx.Ok.wish {X:Cx}(ok:X.Ok)(E:Value->Shared->Prop):(X.wish E).Ok:=
 ⟨ok.mod,ok.kind,ok.glob,ok.blt,ok.above,ok.inj,ok.has,ok.cab,ok.hd,ok.frames,ok.stk,ok.exf,ok.bs,ok.bsz,ok.noex,ok.exfs,ok.funs,ok.frf⟩
theorem Cx.Ok.unwish {X:Cx}{E:Value->Shared->Prop}(ok:(X.wish E).Ok):X.Ok:=
 ⟨ok.mod,ok.kind,ok.glob,ok.blt,ok.above,ok.inj,ok.has,ok.cab,ok.hd,ok.frames,ok.stk,ok.exf,ok.bs,ok.bsz,ok.noex,ok.exfs,ok.funs,ok.frf⟩
section
variable {X:Cx} {pins:List (Addr×Obj)} {σ:St} {H:Hp} {s:Shared} {E:Value->Shared->Prop}
theorem c7.wish (I:c7 X pins σ H s)(E:Value->Shared->Prop):c7 (X.wish E) pins σ H s:=⟨I.ok.wish E,I.os,I.bare,I.base,I.loc,I.cell,I.free,I.freeC,I.pin,I.hok,I.len⟩
theorem c7.unwish (I:c7 (X.wish E) pins σ H s):c7 X pins σ H s:=⟨I.ok.unwish,I.os,I.bare,I.base,I.loc,I.cell,I.free,I.freeC,I.pin,I.hok,I.len⟩
theorem SP.unwish {D:N3}{f:Flow}{s':Shared}(h:SP (X.wish E) pins D f s'):SP X pins D f s':=by
 cases f with
 |next=>obtain ⟨σ',H',I,q⟩:=h;exact ⟨σ',H',I.unwish,q⟩
 |brk=>obtain ⟨σ',H',I,q⟩:=h;exact ⟨σ',H',I.unwish,q⟩
 |cont=>obtain ⟨σ',H',I,q⟩:=h;exact ⟨σ',H',I.unwish,q⟩
 |ret u=>obtain ⟨v,σ',H',I,r,q⟩:=h;exact ⟨v,σ',H',I.unwish,r,q⟩
theorem M6.nox {st:List Stmt}{t:TS}(h:M6 X.nox st t):M6 X st t:=fun pins s σ H D I hw=>
 wpAny_mono (h pins s σ H D (I.wish _) hw) (fun _ _ q=>q.unwish) fun _ _ z=>False.elim z
end
section
variable {X:Cx} {st:Stmt} {rest:List Stmt} {t u:TS} {e:Expr} {te:TE} {pos:Pos}
def bl3:TS:=fun D σ H=>D.nx σ H
def bo9 (t u:TS):TS:=fun D σ H=>t {D with nx:=u D} σ H
theorem m9:M6 X [] bl3:=fun _ _ σ H _ I h=>wpAny_execs_nil ⟨σ,H,I,h⟩
theorem c6 (h1:PS X st t)(h2:M6 X rest u):M6 X (st::rest) (bo9 t u):=by
 intro pins s σ H D I h;refine wpAny_execs_cons (j3 (h1 pins s σ H {D with nx:=u D} I h) fun f s1 q=> ?_)
 cases f with
 |next=>
  obtain ⟨σ',H',I',q⟩:=q;exact h2 pins s1 σ' H' D I' q
 |ret v=>exact q
 |brk=>exact q
 |cont=>exact q
theorem c8 (h1:PS X st t):M6 X [st] t:=by
 intro pins s σ H D I h;refine wpAny_execs_cons (j3 (h1 pins s σ H D I h) fun f s1 q=> ?_)
 cases f with
 |next=>exact wpAny_execs_nil q
 |ret v=>exact q
 |brk=>exact q
 |cont=>exact q
theorem c7.quiet {pins:List (Addr×Obj)}{σ:St}{H:Hp}{s:Shared}(I:c7 X pins σ H s):interactive X.env=false:=by simp [interactive,I.ok.kind]
def bl4 (te:TE):TS:=fun D σ H=>te σ H fun _ H1=>D.nx σ H1
theorem w9 (he:PE X e te)(hs:swapsWith e none pos.line X.env=pure false:=by rfl):PS X (.Expr e pos) (bl4 te):=by
 intro pins s σ H D I h;exact wpAny_Expr_any (j3 (he pins s σ H _ I h) fun v s1 ⟨x,H1,I1,r1,q1⟩=>⟨σ,H1,I1,q1⟩) I.quiet hs
def bp0 (te:TE):TS:=fun D σ H=>te σ H D.rt
theorem j5 (he:PE X e te):PS X (.Return (some e) pos) (bp0 te):=by
 intro pins s σ H D I h;exact wpAny_Return_some (j3 (he pins s σ H _ I h) fun v s1 ⟨x,H1,I1,r1,q1⟩=>⟨x,σ,H1,I1,r1,q1⟩)
def bp1 (c:TT)(t u:TS):TS:=fun D σ H=>c σ H fun b H1=>if b=true then t D σ H1 else u D σ H1
theorem p7 {c:Expr}{a b:List Stmt}{tc:TT}(hc:PT X c tc)(ha:M6 X a t)(hb:M6 X b u):PS X (.If c a b pos) (bp1 tc t u):=by
 intro pins s σ H D I h;refine wpAny_If (j3 (hc pins s σ H _ I h) fun d s1 ⟨H1,I1,q1⟩=> ?_)
 cases d with
 |true=>exact ha pins s1 σ H1 D I1 q1
 |false=>exact hb pins s1 σ H1 D I1 q1
def bh1:TS:=fun _ _ _=>False
theorem G8:PS X st bh1:=fun _ _ _ _ _ _ h=>h.elim
end
abbrev TG:=V->St->Hp->(St->Hp->Prop)->Prop
abbrev TGs:=List V->St->Hp->(St->Hp->Prop)->Prop
def PG (X:Cx)(target:Expr)(t:TG):Prop:=
 ∀(pins:List (Addr×Obj)) (s:Shared) (σ:St) (H:Hp) (v:V) (u:Value) (Q:St->Hp->Prop),c7 X pins σ H s->j4 v u->t v σ H Q->
  wpAny (model X.prog X.w) X.A (assign target X.env u) (fun _ s'=>∃σ' H',c7 X pins σ' H' s'/\Q σ' H') X.xe s
def PGs (X:Cx)(ts:List Expr)(t:TGs):Prop:=
 ∀(pins:List (Addr×Obj)) (s:Shared) (σ:St) (H:Hp) (vs:List V) (us:List Value) (Q:St->Hp->Prop),c7 X pins σ H s->h8 vs us->t vs σ H Q->
  wpAny (model X.prog X.w) X.A (assignInOrder ((assignEach ts X.env).map (·.2)) us) (fun _ s'=>∃σ' H',c7 X pins σ' H' s'/\Q σ' H') X.xe s
abbrev ax1:=V->V->V->Hp->(Hp->Prop)->Prop
def bh2 (X:Cx)(t:ax1):Prop:=
 ∀(pins:List (Addr×Obj)) (s:Shared) (σ:St) (H:Hp) (o i v:V) (ov iv u:Value) (Q:Hp->Prop),c7 X pins σ H s->j4 o ov->j4 i iv->j4 v u->t o i v H Q->
  wpAny (model X.prog X.w) X.A (setItem ov iv u) (fun _ s'=>∃H',c7 X pins σ H' s'/\Q H') X.xe s
section
variable {X:Cx} {pos:Pos}
def an7 (i:Nat):TG:=fun v σ H Q=>Q (σ.set i (some v)) H
theorem j8 {i:Nat}{x:Str}(hN:X.N.Nodup)(hi:X.N[i]? =some x)(hx:Loc X.env.scope x)(hf:X.fn x=true\/X.env.scope.names.lookup x=some .local:=by first|exact .inl rfl|exact .inr rfl|assumption):PG X (.Name x pos) (an7 i):=by
 intro pins s σ H v u Q I r h;exact wpAny_assign_Name (af2 I hN hi hx r (fun s' I'=>⟨_,H,I',h⟩) hf)
def bp2:TGs:=fun vs σ H Q=>vs=[]/\Q σ H
def bl5 (t:TG)(u:TGs):TGs:=fun vs σ H Q=>∃v r,vs=v::r/\t v σ H fun σ' H'=>u r σ' H' Q
theorem bd2:PGs X [] bp2:=by
 intro pins s σ H vs us Q I r h;obtain ⟨e,h⟩:=h;subst e;cases r;exact assignInOrder_nil ⟨σ,H,I,h⟩
theorem af4 {e:Expr}{es:List Expr}{t:TG}{u:TGs}(h1:PG X e t)(h2:PGs X es u)
   (hs:(assignEach (e::es) X.env).map (·.2)=assign e X.env::(assignEach es X.env).map (·.2):=by rfl):PGs X (e::es) (bl5 t u):=by
 intro pins s σ H vs us Q I r h;obtain ⟨v,vr,e1,h⟩:=h;subst e1
 cases r with
 |cons r rr=>
  rw[hs];refine assignInOrder_cons (j3 (h1 pins s σ H _ _ _ I r h) fun _ s1 ⟨σ1,H1,I1,q1⟩=> ?_);exact h2 pins s1 σ1 H1 _ _ Q I1 rr q1
def bp3 (K:PySem.W.Frag)(n:Nat)(t:TGs):TG:=fun v σ H Q=>∃a xs,v= .ref a/\E7 K H a xs/\xs.length=n/\t xs σ H Q
theorem bh3 {es:List Expr}{k:Nat}{t:TGs}{n:Nat}(hc:X.calm=true)(h:PGs X es t)
   (hn:(assignEach es X.env).length=n:=by rfl) (hst:(assignEach es X.env).findIdx? (·.1)=none:=by rfl):PG X (.Tuple es k pos) (bp3 X.K n t):=by
 intro pins s σ H v u Q I r hw;obtain ⟨a,xs,e1,hq,hl,hw⟩:=hw;subst e1;cases r;obtain ⟨its,rv,ht,hz⟩:=I.tuple hq
 refine assign_Tuple_tuple (I.ok.hd hc) ht (by simp [hn,<-hl,rv.length]) hst fun h' hx=> ?_
 have I1:c7 X pins σ H {s with heap:=h'}:=I.kept (t':=s.toks) fun b o e=>hx b o (bv5 (Heap.lt_size e)) e
 exact h pins _ σ H xs _ Q I1 (by simpa using rv) hw
def bp4 (to ti:TE)(t:ax1):TG:=fun v σ H Q=>to σ H fun o H1=>ti σ H1 fun i H2=>t o i v H2 fun H3=>Q σ H3
theorem O3 {o i:Expr}{to ti:TE}{t:ax1}(ho:PE X o to)(hi:PE X i ti)(hs:bh2 X t)
   (ha:∀v,assign (.Subscript o i pos) X.env v=(do
     let ov <-holding [v] (eval o X.env)
     let iv <-holding [v,ov] (eval i X.env)
     standAt pos
     holding [v,ov,iv] (setItem ov iv v)
     release [v,ov,iv] []):=by intro _;rfl):PG X (.Subscript o i pos) (bp4 to ti t):=by
 intro pins s σ H v u Q I r h;rw[ha];refine wpAny_bind (wpAny_holding (j3 (ho pins s σ H _ I h) fun ov s1 ⟨x,H1,I1,r1,q1⟩=> ?_));refine wpAny_bind (wpAny_holding (j3 (hi pins s1 σ H1 _ I1 q1) fun iv s2 ⟨y,H2,I2,r2,q2⟩=> ?_));refine wpAny_bind (wpAny_standAt (wpAny_bind (wpAny_holding (j3 (hs pins s2 σ H2 x y v ov iv u _ I2 r1 r2 r q2) fun _ s3 ⟨H3,I3,q3⟩=> ?_))));exact wpAny_release ⟨σ,H3,I3,q3⟩
def ax2 (te:TE)(g:TG):TS:=fun D σ H=>te σ H fun x H1=>g x σ H1 D.nx
theorem O4 {tg e:Expr}{te:TE}{g:TG}(he:PE X e te)(hg:PG X tg g)(hs:swapsWithSole [tg] e pos.line X.env=pure false:=by rfl)(hw:swappedStores [tg] e X.env=pure none:=by rfl)
   (h1:(assignEach [tg] X.env).map (·.2)=[assign tg X.env]:=by rfl):PS X (.Assign [tg] e pos) (ax2 te g):=by
 intro pins s σ H D I h;refine wpAny_Assign_stores (j3 (he pins s σ H _ I h) fun v s1 ⟨x,H1,I1,r1,q1⟩=> ?_) hs hw;rw[h1]
 exact j3 (hg pins s1 σ H1 x v _ I1 r1 q1) fun _ s2 q=>q
theorem j2 {i:Nat}{x:Str}{e:Expr}{te:TE}{pos':Pos}(hN:X.N.Nodup)(hi:X.N[i]? =some x)(hx:Loc X.env.scope x)(he:PE X e te)(hs:swapsWith e (some (.Name x pos')) pos.line X.env=pure false:=by rfl)(hf:X.fn x=true\/X.env.scope.names.lookup x=some .local:=by first|exact .inl rfl|exact .inr rfl|assumption):
   PS X (.Assign [.Name x pos'] e pos) (ax2 te (an7 i)):=by
 intro pins s σ H D I h;refine wpAny_Assign_Name (j3 (he pins s σ H _ I h) fun v s1 ⟨y,H1,I1,r1,q1⟩=> ?_) hs;exact af2 I1 hN hi hx r1 (fun s2 I2=>⟨_,H1,I2,q1⟩) hf
end
section
variable {X:Cx} {pos:Pos}
def ar4 (c:TT)(tb:TS):TS:=fun D σ H=>∃W:Nat->St->Hp->Prop,(∃m,W m σ H)/\∀m σ H,W m σ H->
 c σ H fun b H1=>if b=true then ∃N:St->Hp->Prop,(∀σ' H',N σ' H'->∃m',m' < m/\W m' σ' H')/\tb {D with nx:=N,ct:=N,bk:=D.nx} σ H1 else D.nx σ H1
theorem U8 {c:Expr}{body:List Stmt}{tc:TT}{tb:TS}(hp:PassesOwn (model X.prog X.w) X.A X.env X.xe)(hc:PT X c tc)(hb:M6 X body tb):PS X (.While c body [] pos) (ar4 tc tb):=by
 intro pins s σ H D I h;obtain ⟨W,⟨m0,w0⟩,turn⟩:=h;refine wpAny_While (codeAny_whileLoop (fun n s'=>∃σ' H',c7 X pins σ' H' s'/\W n σ' H') ?_ m0 ⟨σ,H,I,w0⟩);rintro n s1 ⟨σ1,H1,I1,w1⟩;refine wpAny_passesOwn hp (j3 (hc pins s1 σ1 H1 _ I1 (turn n σ1 H1 w1)) fun b s2 ⟨H2,I2,q2⟩=> ?_)
 cases b with
 |true=>
  obtain ⟨N,hN,q2⟩:=q2;rw[if_pos rfl];refine wpAny_passesOwn hp (j3 (hb pins s2 σ1 H2 _ I2 q2) fun f s3 q3=> ?_)
  cases f with
  |next=>
   obtain ⟨σ3,H3,I3,n3⟩:=q3;obtain ⟨m',hm,w3⟩:=hN σ3 H3 n3;exact ⟨m',hm,σ3,H3,I3,w3⟩
  |cont=>
   obtain ⟨σ3,H3,I3,n3⟩:=q3;obtain ⟨m',hm,w3⟩:=hN σ3 H3 n3;exact ⟨m',hm,σ3,H3,I3,w3⟩
  |brk=>exact q3
  |ret v=>exact q3
 |false=>
  rw[if_neg bt0];exact wpAny_execs_nil ⟨σ1,H2,I2,q2⟩
end
structure It where
 go:Nat->Hp->Prop
 yld:Nat->Hp->V->Hp->Prop
 stop:Nat->Hp->Prop
def S0 (X:Cx)(pins:List (Addr×Obj))(H:Hp)(b:Addr):Prop:=
 H b=none/\b≠X.env.locals/\b∉X.fs/\(b∈X.ex\/X.s₀.heap.objs.size<=b)/\(∀x c,X.env.cells.lookup x=some c->c≠b)/\∀p∈X.pn++pins,p.1≠b
theorem c7.fpOk {X:Cx}{pins:List (Addr×Obj)}{σ:St}{H H':Hp}{s:Shared}{b:Addr}(I:c7 X pins σ H s)(hb:s.heap.objs.size<=b)(hn:H' b=none):S0 X pins H' b:=by
 refine ⟨hn,Nat.ne_of_gt (bu1 I.lt hb),I.nofs hb,.inr (bw3 I.sz hb),fun x c e z=> ?_,fun p hp z=> ?_⟩
 · obtain ⟨v,q⟩:=I.cell x c e;exact absurd (bu1 q.lt (by rw[z];exact hb)) (bx9 _)
 · exact absurd (bu1 (Heap.lt_size (I.pin p hp).1) (by rw[z];exact hb)) (bx9 _)
structure af5 (P:Program)(w:World)(K:PySem.W.Frag)(tg:Expr)(J:It)(fp:List Addr)(it:Addr)(tn:Nat->Heap->Prop):Prop where
 mem:it∈fp
 obj:∀i h,tn i h->∀b∈fp,∃o,h.get? b=some o/\∀v,o.data≠.cell v
 keep:∀i h h',tn i h->(∀b∈fp,∀o,h.get? b=some o->h'.get? b=some o)->tn i h'
 item:∀(X:Cx),X.prog=P->X.w=w->X.K=K->X.calm=true->∀(i:Nat) (pins:List (Addr×Obj)) (s:Shared) (σ:St) (H:Hp) (E:Value->Shared->Prop),c7 X pins σ H s->(∀b∈fp,S0 X pins H b)->tn i s.heap->J.go i H->
   wpAny (model P w) X.A (pyNext (.ref it)) (fun r s1=>∃u,r=some u/\
     wpAny (model P w) X.A (letOwnedTupleGo tg (.ref it) u) (fun _ s2=>∃x H',c7 X pins σ H' s2/\j4 x u/\J.yld i H x H'/\tn (i+1) s2.heap/\∀b∈fp,H' b=none) E s1) E s
 done:∀(X:Cx),X.prog=P->X.w=w->X.K=K->X.calm=true->∀(i:Nat) (pins:List (Addr×Obj)) (s:Shared) (σ:St) (H:Hp) (E:Value->Shared->Prop),c7 X pins σ H s->(∀b∈fp,S0 X pins H b)->tn i s.heap->J.stop i H->
   wpAny (model P w) X.A (pyNext (.ref it)) (fun r s1=>r=none/\c7 X pins σ H s1) E s
 self:∀(A:Around) (i:Nat) (s:Shared) (Q:Value->Shared->Prop) (E:Value->Shared->Prop),tn i s.heap->Q (.ref it) s->wpAny (model P w) A (pyIter (.ref it)) Q E s
abbrev TI:=St->Hp->(It->Hp->Prop)->Prop
def PIE (X:Cx)(pins:List (Addr×Obj))(σ:St)(tg:Expr)(R:It->Hp->Prop)(itv:Value)(s2:Shared):Prop:=
 ∃(it:Addr) (fp:List Addr) (tn:Nat->Heap->Prop) (J:It) (H':Hp),itv= .ref it/\c7 X pins σ H' s2/\af5 X.prog X.w X.K tg J fp it tn/\tn 0 s2.heap/\(∀b∈fp,S0 X pins H' b)/\R J H'
def PI (X:Cx)(tg iter:Expr)(wi:TI):Prop:=
 ∀(pins:List (Addr×Obj)) (s:Shared) (σ:St) (H:Hp) (R:It->Hp->Prop),c7 X pins σ H s->wi σ H R->
  wpAny (model X.prog X.w) X.A (eval iter X.env) (fun v s1=>wpAny (model X.prog X.w) X.A (pyIter v) (PIE X pins σ tg R) X.xe s1) X.xe s
theorem an8 {M:Model}{A:Around}{E:Value->Shared->Prop}{s:Shared}{tg:Expr}{it:Addr}{u:Value}{o:Obj}{n:String}{vs:Array Value}{Q:Unit->Shared->Prop}(ho:s.heap.get? it=some o)(hc:o.cls= .type n)(hd:o.data= .fields vs)
   (hn:["enumerate","zip","dict_itemiterator","dict_reverseitemiterator","odict_iterator","itertools.zip_longest","itertools.pairwise"].contains n=false) (hQ:Q () s):wpAny M A (letOwnedTupleGo tg (.ref it) u) Q E s:=by
 unfold letOwnedTupleGo
 cases tg<;>first
   |exact wpAny_pure hQ
   |(cases u<;>first
       |exact wpAny_pure hQ
       |(refine wpAny_bind (wpAny_load ho ?_)
         rw[hc,hd];show wpAny M A (if (["enumerate","zip","dict_itemiterator","dict_reverseitemiterator","odict_iterator","itertools.zip_longest","itertools.pairwise"].contains n&&vs[0]? ==some (rawInt _))=true then _ else _) Q E s;rw[if_neg (by intro h;rw[hn,cd8] at h;cases h)]
         exact wpAny_pure hQ))
def Itl (K:PySem.W.Frag)(a:Addr):It:=
 ⟨fun i H=>∃xs x,g8 K H a xs/\xs[i]? =some x,fun i H x H'=>H'=H/\∀xs,g8 K H a xs->xs[i]? =some x,fun i H=>∃xs,g8 K H a xs/\xs.length<=i⟩
def Itt (K:PySem.W.Frag)(a:Addr):It:=
 ⟨fun i H=>∃xs x,E7 K H a xs/\xs[i]? =some x,fun i H x H'=>H'=H/\∀xs,E7 K H a xs->xs[i]? =some x,fun i H=>∃xs,E7 K H a xs/\xs.length<=i⟩
def Itr (lo:Int)(n:Nat):It:=⟨fun i _=>i < n,fun i H x H'=>H'=H/\x= .int (lo+i),fun i _=>n<=i⟩
theorem ar6 {P:Program}{w:World}{K:PySem.W.Frag}{tg:Expr}(a it:Addr):af5 P w K tg (Itl K a) [it] it (fun i h=>h.IsListIter it a i) where
 mem:=by simp
 obj:=fun i h st b hb=>by
   have e:b=it:=by simpa using hb
   subst e;obtain ⟨o,e,c,d⟩:=st;exact ⟨o,e,fun v z=>by rw[d] at z;cases z⟩
 keep:=fun i h h' st k=>st.at fun o e=>k it (by simp) o e
 item:=by
   intro X hP hw hK hc i pins s σ H E I hf st hg;subst hP hw hK;obtain ⟨xs,x,hq,hx⟩:=hg;obtain ⟨its,rv,p,hz⟩:=I.list hq;obtain ⟨u,hu,ru⟩:=rv.get hx;obtain ⟨f0,f1,f2,f3,f4,f5⟩:=hf it (by simp)
   refine wpAny_pyNext_list_item st p.isList (x:=u) (by simpa using hu) fun h' st' sb=> ?_
   have I1:c7 X pins σ H {s with heap:=h'}:=I.turned (t':=s.toks) (fun b o hb e=>(sb.2 b hb).trans e) f0 f1 f3 f4 f5;obtain ⟨o,e,c,d⟩:=id st';exact ⟨u,rfl,an8 (s:={s with heap:=h'}) e c d (by decide) ⟨x,H,I1,ru,⟨rfl,fun ys hy=>by rw[I.list_inj hy hq];exact hx⟩,st',fun b hb=>(hf b hb).1⟩⟩
 done:=by
   intro X hP hw hK hc i pins s σ H E I hf st hg;subst hP hw hK;obtain ⟨xs,hq,hx⟩:=hg;obtain ⟨its,rv,p,hz⟩:=I.list hq;obtain ⟨f0,f1,f2,f3,f4,f5⟩:=hf it (by simp);have hl:=rv.length
   exact wpAny_pyNext_list_end (I.ok.hd hc) st p.isList (by simp;omega) fun h' eb=>⟨rfl,I.turned (t':=s.toks) (fun b o hb e=>eb b o hb e) f0 f1 f3 f4 f5⟩
 self:=fun _ _ _ _ _ st h=>wpAny_pyIter_listiter st h
theorem an9 {P:Program}{w:World}{K:PySem.W.Frag}{tg:Expr}(a it:Addr):af5 P w K tg (Itt K a) [it] it (fun i h=>h.IsTupleIter it a i) where
 mem:=by simp
 obj:=fun i h st b hb=>by
   have e:b=it:=by simpa using hb
   subst e;obtain ⟨o,e,c,d⟩:=st;exact ⟨o,e,fun v z=>by rw[d] at z;cases z⟩
 keep:=fun i h h' st k=>st.at fun o e=>k it (by simp) o e
 item:=by
   intro X hP hw hK hc i pins s σ H E I hf st hg;subst hP hw hK;obtain ⟨xs,x,hq,hx⟩:=hg;obtain ⟨its,rv,p,hz⟩:=I.tuple hq;obtain ⟨u,hu,ru⟩:=rv.get hx;obtain ⟨f0,f1,f2,f3,f4,f5⟩:=hf it (by simp)
   refine wpAny_pyNext_tuple_item st (show s.heap.IsTuple a its.toArray from p) (x:=u) (by simpa using hu) fun h' st' sb=> ?_
   have I1:c7 X pins σ H {s with heap:=h'}:=I.turned (t':=s.toks) (fun b o hb e=>(sb.2 b hb).trans e) f0 f1 f3 f4 f5;obtain ⟨o,e,c,d⟩:=id st';exact ⟨u,rfl,an8 (s:={s with heap:=h'}) e c d (by decide) ⟨x,H,I1,ru,⟨rfl,fun ys hy=>by rw[I.tuple_inj hy hq];exact hx⟩,st',fun b hb=>(hf b hb).1⟩⟩
 done:=by
   intro X hP hw hK hc i pins s σ H E I hf st hg;subst hP hw hK;obtain ⟨xs,hq,hx⟩:=hg;obtain ⟨its,rv,p,hz⟩:=I.tuple hq;obtain ⟨f0,f1,f2,f3,f4,f5⟩:=hf it (by simp);have hl:=rv.length
   exact wpAny_pyNext_tuple_end (I.ok.hd hc) st (show s.heap.IsTuple a its.toArray from p) (by simp;omega) fun h' eb=>⟨rfl,I.turned (t':=s.toks) (fun b o hb e=>eb b o hb e) f0 f1 f3 f4 f5⟩
 self:=fun _ _ _ _ _ st h=>wpAny_pyIter_tupleiter st h
theorem ao0 {P:Program}{w:World}{K:PySem.W.Frag}{tg:Expr}(it:Addr)(lo:Int)(n:Nat):af5 P w K tg (Itr lo n) [it] it (fun i h=>IsRangeIter h it (lo+(i:Nat)*1) ((n:Int) - (i:Nat)) 1) where
 mem:=by simp
 obj:=fun i h st b hb=>by
   have e:b=it:=by simpa using hb
   subst e
   exact ⟨_,st,fun v z=>by
     have z':Data.fields _=Data.cell v:=z
     cases z'⟩
 keep:=fun i h h' st k=>k it (by simp) _ st
 item:=by
   intro X hP hw hK hc i pins s σ H E I hf st hg;subst hP hw hK;obtain ⟨f0,f1,f2,f3,f4,f5⟩:=hf it (by simp);have W:=Walks.range (prog:=X.prog) (w:=X.w) (I.ok.hd hc) it lo 1 n
   refine W.item i s _ _ hg st fun v h' tk hv st' kk=> ?_
   obtain ⟨t,rfl⟩:=hv;have I1:c7 X pins σ H {s with heap:=h',toks:=tk}:=I.turned (fun b o hb e=>kk b o (by simpa using hb) e) f0 f1 f3 f4 f5;refine ⟨_,rfl,an8 (s:={s with heap:=h',toks:=tk}) (n:="range_iterator") st' rfl rfl (by decide) ⟨.int (lo+i),H,I1,⟨t,?_⟩,⟨rfl,rfl⟩,st',fun b hb=>(hf b hb).1⟩⟩;rw[Int.mul_one]
 done:=by
   intro X hP hw hK hc i pins s σ H E I hf st hg;subst hP hw hK;obtain ⟨f0,f1,f2,f3,f4,f5⟩:=hf it (by simp)
   exact wpAny_pyNext_range_end (I.ok.hd hc) st (by have:n<=i:=hg;omega) fun h' eb=>⟨rfl,I.turned (t':=s.toks) (fun b o hb e=>eb b o hb e) f0 f1 f3 f4 f5⟩
 self:=fun _ _ _ _ _ st h=>wpAny_pyIter_rangeiter st h
end L2
namespace L2
open PySem PySem.Spec PyProof.Rows
section
variable {X:Cx} {tg:Expr}
def bl6 (K:PySem.W.Frag)(tl:TE):TI:=fun σ H R=>tl σ H fun x H1=>∃a,x= .ref a/\(∃xs,g8 K H1 a xs)/\R (Itl K a) H1
def bp5 (K:PySem.W.Frag)(tl:TE):TI:=fun σ H R=>tl σ H fun x H1=>∃a,x= .ref a/\(∃xs,E7 K H1 a xs)/\R (Itt K a) H1
theorem o5 {l:Expr}{tl:TE}(hl:PE X l tl):PI X tg l (bl6 X.K tl):=by
 intro pins s σ H R I h
 refine j3 (hl pins s σ H _ I h) fun v s1 ⟨x,H1,I1,r1,q1⟩=> ?_
 obtain ⟨a,e,⟨xs,hq⟩,q⟩:=q1;subst e;cases r1;obtain ⟨its,rv,p,hz⟩:=I1.list hq;refine wpAny_pyIter_list p.isList ?_;refine ⟨s1.heap.objs.size,[s1.heap.objs.size],_,_,H1,rfl,I1.kept (t':=s1.toks) fun b o e=>Heap.get?_push_of_some _ e,ar6 a _,⟨_,Heap.get?_push_size _ rfl,rfl,rfl⟩,fun b hb=> ?_,q⟩
 have e:b=s1.heap.objs.size:=by simpa using hb
 subst e;exact I1.fpOk (bs9 _) (I1.hok.fresh (bs9 _))
theorem bh4 {l:Expr}{tl:TE}(hl:PE X l tl):PI X tg l (bp5 X.K tl):=by
 intro pins s σ H R I h
 refine j3 (hl pins s σ H _ I h) fun v s1 ⟨x,H1,I1,r1,q1⟩=> ?_
 obtain ⟨a,e,⟨xs,hq⟩,q⟩:=q1;subst e;cases r1;obtain ⟨its,rv,p,hz⟩:=I1.tuple hq;refine wpAny_pyIter_tuple (show s1.heap.IsTuple a its.toArray from p) ?_;refine ⟨s1.heap.objs.size,[s1.heap.objs.size],_,_,H1,rfl,I1.kept (t':=s1.toks) fun b o e=>Heap.get?_push_of_some _ e,an9 a _,⟨_,Heap.get?_push_size _ rfl,rfl,rfl⟩,fun b hb=> ?_,q⟩
 have e:b=s1.heap.objs.size:=by simpa using hb
 subst e;exact I1.fpOk (bs9 _) (I1.hok.fresh (bs9 _))
theorem ax3 {pins:List (Addr×Obj)}{σ:St}{H:Hp}{s:Shared}{R:It->Hp->Prop}{E:Value->Shared->Prop}{lo hi:Int}{t u v:Tok}{tk:Nat}(I:c7 X pins σ H s)(h1: -(2^62)<=lo)(h2:lo < 2^62)(h3: -(2^62)<=hi)(h4:hi < 2^62)
   (q:R (Itr lo (hi - lo).toNat) H):wpAny (model X.prog X.w) X.A (pyIter (.ref s.heap.objs.size)) (PIE X pins σ tg R) E {s with heap:=s.heap.push {cls:= .type "range",data:= .fields #[.int lo t,.int hi u,.int 1 v]},toks:=tk}:=by
 refine wpAny_pyIter_range (IsRange.new ..) (small_one h1 h2 h3 h4) ?_
 have I1:c7 X pins σ H {s with heap:=s.heap.push {cls:= .type "range",data:= .fields #[.int lo t,.int hi u,.int 1 v]},toks:=tk}:=I.kept fun b o e=>Heap.get?_push_of_some _ e
 refine ⟨(s.heap.push {cls:= .type "range",data:= .fields #[.int lo t,.int hi u,.int 1 v]}).objs.size,[(s.heap.push {cls:= .type "range",data:= .fields #[.int lo t,.int hi u,.int 1 v]}).objs.size],_,_,H,rfl,
   I1.kept (t':=tk) fun b o e=>Heap.get?_push_of_some _ e,ao0 _ lo (hi - lo).toNat,?_,fun b hb=> ?_,q⟩
 · have e1:lo+((0:Nat):Int)*1=lo:=by simp
   have e2:(((hi - lo).toNat:Nat):Int) - ((0:Nat):Int)=Builtin.Range.rangeSize lo hi 1:=by rw[rangeSize_one];split<;>omega
   show IsRangeIter _ _ (lo+((0:Nat):Int)*1) ((((hi - lo).toNat:Nat):Int) - ((0:Nat):Int)) 1;rw[e1,e2];exact Heap.get?_push_size _ rfl
 · have e:b=(s.heap.push {cls:= .type "range",data:= .fields #[.int lo t,.int hi u,.int 1 v]}).objs.size:=by simpa using hb
   subst e;exact I1.fpOk (bs9 _) (I1.hok.fresh (bs9 _))
def bl7 (ta:TA):TI:=fun σ H R=>ta σ H fun vs H1=>∃j:Int,vs=[.int j]/\ -(2^62)<=j/\j < 2^62/\R (Itr 0 j.toNat) H1
theorem x6 {a:Expr}{ta:TA}{p pos:Pos}(hg:Gl X "range")(hm:X.mg "range"=none)(ha:PA X [a] ta)(hs:starEach [a] X.env=[(false,eval a X.env)]:=by rfl):PI X tg (.Call (.Name "range" p) [a] [] pos) (bl7 ta):=by
 intro pins s σ H R I h;refine Call_ (R9 I hg hm boot_range (PyProof.Rows.callWith_type1 (j3 (ha pos pins s σ H _ I h) fun us s1 ⟨vs,H1,I1,r1,q1⟩=> ?_) hs rfl));obtain ⟨j,e,q1,q2,q⟩:=q1;subst e
 cases r1 with
 |cons r rr=>
  cases rr;obtain ⟨t,rfl⟩:=r;exact call_range_1 (ax3 I1 (by omega) (by omega) q1 q2 (by simpa using q))
def bp6 (wi:TI)(g:TG)(tb:TS):TS:=fun D σ H=>wi σ H fun J H1=>∃W:Nat->Nat->St->Hp->Prop,(∃m,W 0 m σ H1)/\∀i m σ H,W i m σ H->
 (J.stop i H/\D.nx σ H)\/(J.go i H/\∃N:St->Hp->Prop,(∀σ' H',N σ' H'->∃m',m' < m/\W (i+1) m' σ' H')/\∀x H',J.yld i H x H'->g x σ H' fun σ2 H2=>tb {D with nx:=N,ct:=N,bk:=D.nx} σ2 H2)
def K8 (fp:List Addr)(h:Heap):List (Addr×Obj):=fp.filterMap fun b=>(h.get? b).map fun o=>(b,o)
theorem K3 {fp:List Addr}{h:Heap}{b:Addr}{o:Obj}(hb:b∈fp)(e:h.get? b=some o):(b,o)∈K8 fp h:=List.mem_filterMap.mpr ⟨b,hb,by rw[e];rfl⟩
theorem ab1 {fp:List Addr}{h:Heap}{p:Addr×Obj}(hp:p∈K8 fp h):p.1∈fp/\h.get? p.1=some p.2:=by
 obtain ⟨b,hb,e⟩:=List.mem_filterMap.mp hp
 cases q:h.get? b with
 |none=>rw[q] at e;cases e
 |some o=>
  rw[q] at e;have e':(b,o)=p:=Option.some.inj e;subst e';exact ⟨hb,q⟩
theorem c7.pinned {pins:List (Addr×Obj)}{σ:St}{H:Hp}{s:Shared}{fp:List Addr}(I:c7 X pins σ H s)(hf:∀b∈fp,S0 X pins H b)(ho:∀b∈fp,∃o,s.heap.get? b=some o/\∀v,o.data≠.cell v):c7 X (pins++K8 fp s.heap) σ H s:=
 I.pins_of fun p hp=>(bt5.mp hp).elim (fun z=>I.pin p (bt1 _ z)) fun z=>by
   obtain ⟨hb,e⟩:=ab1 z;obtain ⟨f0,f1,f2,_⟩:=hf p.1 hb;obtain ⟨o,e',d⟩:=ho p.1 hb;rw[e] at e';cases e';exact ⟨e,f0,f1,f2,d⟩
theorem c7.unpinned {pins pl:List (Addr×Obj)}{σ:St}{H:Hp}{s:Shared}(I:c7 X (pins++pl) σ H s):c7 X pins σ H s:=I.pins_of fun p hp=>I.pin p (bt1 _ (bv9 _ hp))
theorem o1 {iter:Expr}{body:List Stmt}{wi:TI}{g:TG}{tb:TS}{pos:Pos}(hp:PassesOwn (model X.prog X.w) X.A X.env X.xe)(hc:X.calm=true)(hi:PI X tg iter wi)(hg:PG X tg g)(hb:M6 X body tb)
   (hs:∀x,foldedSetIterable iter X.env x=pure x:=by intro _;rfl):PS X (.For tg iter body [] pos) (bp6 wi g tb):=by
 intro pins s σ H D I h;refine wpAny_For (j3 (hi pins s σ H _ I h) fun v s1 h1=>j3 h1 fun itv s2 h2=> ?_) hs;obtain ⟨it,fp,tn,J,H2,e,I2,T,st2,f2,W,⟨m0,w0⟩,turn⟩:=h2;subst e
 have stat:∀{H':Hp},(∀b∈fp,H' b=none)->∀b∈fp,S0 X pins H' b:=fun hn b hb=>⟨hn b hb,(f2 b hb).2⟩
 refine codeAny_forLoop_any (fun n s'=>∃i σ' H',c7 X pins σ' H' s'/\tn i s'.heap/\(∀b∈fp,H' b=none)/\W i n σ' H') ?_ m0 ⟨0,σ,H2,I2,st2,fun b hb=>(f2 b hb).1,w0⟩;rintro n s3 ⟨i,σ3,H3,I3,st3,fr3,w3⟩
 rcases turn i n σ3 H3 w3 with ⟨stop,qn⟩|⟨go,N,hN,step⟩
 · refine wpAny_passesOwn hp (j3 (T.done X rfl rfl rfl hc i pins s3 σ3 H3 X.xe I3 (stat fr3) st3 stop) fun r s4 ⟨hr,I4⟩=> ?_);subst hr;exact wpAny_execs_nil ⟨σ3,H3,I4,qn⟩
 · refine wpAny_passesOwn hp (j3 (T.item X rfl rfl rfl hc i pins s3 σ3 H3 X.xe I3 (stat fr3) st3 go) fun r s4 ⟨u,hr,h4⟩=> ?_);subst hr;refine wpAny_passesOwn hp (j3 h4 fun _ s5 ⟨x,H5,I5,r5,y5,st5,fr5⟩=> ?_);have I5':=I5.pinned (stat fr5) (T.obj _ _ st5);refine wpAny_passesOwn hp (j3 (hg _ s5 σ3 H5 x u _ I5' r5 (step x H5 y5)) fun _ s6 ⟨σ6,H6,I6,q6⟩=> ?_);refine wpAny_passesOwn hp (j3 (hb _ s6 σ6 H6 _ I6 q6) fun f s7 q7=> ?_)
   have again:∀{σ7:St} {H7:Hp},c7 X (pins++K8 fp s5.heap) σ7 H7 s7->N σ7 H7->∃m,m < n/\∃i σ' H',c7 X pins σ' H' s7/\tn i s7.heap/\(∀b∈fp,H' b=none)/\W i m σ' H':=fun {σ7 H7} I7 n7=>by
     obtain ⟨m',hm,w7⟩:=hN σ7 H7 n7;refine ⟨m',hm,i+1,σ7,H7,I7.unpinned,T.keep _ _ _ st5 fun b hb o e=>(I7.pin (b,o) (bt1 _ (bt1 _ (K3 hb e)))).1,fun b hb=> ?_,w7⟩;obtain ⟨o,e,d⟩:=T.obj _ _ st5 b hb;exact (I7.pin (b,o) (bt1 _ (bt1 _ (K3 hb e)))).2.1
   cases f with
   |next=>obtain ⟨σ7,H7,I7,n7⟩:=q7;exact again I7 n7
   |cont=>obtain ⟨σ7,H7,I7,n7⟩:=q7;exact again I7 n7
   |brk=>obtain ⟨σ7,H7,I7,q7⟩:=q7;exact ⟨σ7,H7,I7.unpinned,q7⟩
   |ret v=>obtain ⟨x7,σ7,H7,I7,r7,q7⟩:=q7;exact ⟨x7,σ7,H7,I7.unpinned,r7,q7⟩
end
theorem y8 {K:PySem.W.Frag}{a:Addr}{xs:List V}{g:TG}{tb:TS}{D:N3}{σ:St}{H:Hp}(Pv:Nat->St->Hp->Prop)(h0:Pv 0 σ H)(hl:∀i σ H,i<=xs.length->Pv i σ H->g8 K H a xs)
   (hs:∀i x σ H,xs[i]? =some x->Pv i σ H->g x σ H fun σ2 H2=>tb {D with nx:=Pv (i+1),ct:=Pv (i+1),bk:=D.nx} σ2 H2) (hd:∀σ H,Pv xs.length σ H->D.nx σ H):
   ∃W:Nat->Nat->St->Hp->Prop,(∃m,W 0 m σ H)/\∀i m σ H,W i m σ H->
    ((Itl K a).stop i H/\D.nx σ H)\/((Itl K a).go i H/\∃N:St->Hp->Prop,(∀σ' H',N σ' H'->∃m',m' < m/\W (i+1) m' σ' H')/\∀x H',(Itl K a).yld i H x H'->g x σ H' fun σ2 H2=>tb {D with nx:=N,ct:=N,bk:=D.nx} σ2 H2):=by
 refine ⟨fun i m σ H=>m=xs.length - i/\i<=xs.length/\Pv i σ H,⟨xs.length,by simp,bu9 _,h0⟩,?_⟩;rintro i m σ H ⟨rfl,hi,p⟩;have q:=hl i σ H hi p
 by_cases hlt:i < xs.length
 · refine .inr ⟨⟨xs,xs[i],q,by simp [hlt]⟩,Pv (i+1),fun σ' H' p'=>⟨xs.length - (i+1),by omega,rfl,hlt,p'⟩,fun x H' y=> ?_⟩;obtain ⟨e,y⟩:=y;subst e;exact hs i x σ _ (y xs q) p
 · have e:i=xs.length:=by omega
   subst e;exact .inl ⟨⟨xs,q,bs9 _⟩,hd σ H p⟩
theorem A6 {lo:Int}{n:Nat}{g:TG}{tb:TS}{D:N3}{σ:St}{H:Hp}(Pv:Nat->St->Hp->Prop)(h0:Pv 0 σ H)
   (hs:∀i σ H,i < n->Pv i σ H->g (.int (lo+i)) σ H fun σ2 H2=>tb {D with nx:=Pv (i+1),ct:=Pv (i+1),bk:=D.nx} σ2 H2) (hd:∀σ H,Pv n σ H->D.nx σ H):
   ∃W:Nat->Nat->St->Hp->Prop,(∃m,W 0 m σ H)/\∀i m σ H,W i m σ H->
    ((Itr lo n).stop i H/\D.nx σ H)\/((Itr lo n).go i H/\∃N:St->Hp->Prop,(∀σ' H',N σ' H'->∃m',m' < m/\W (i+1) m' σ' H')/\∀x H',(Itr lo n).yld i H x H'->g x σ H' fun σ2 H2=>tb {D with nx:=N,ct:=N,bk:=D.nx} σ2 H2):=by
 refine ⟨fun i m σ H=>m=n - i/\i<=n/\Pv i σ H,⟨n,by simp,bu9 _,h0⟩,?_⟩;rintro i m σ H ⟨rfl,hi,p⟩
 by_cases hlt:i < n
 · refine .inr ⟨hlt,Pv (i+1),fun σ' H' p'=>⟨n - (i+1),by omega,rfl,hlt,p'⟩,fun x H' y=> ?_⟩;obtain ⟨e,y⟩:=y;subst e y;exact hs i σ _ hlt p
 · have e:i=n:=by omega
   subst e;exact .inl ⟨bs9 _,hd σ H p⟩
theorem ax4 {c:TT}{tb:TS}{D:N3}{σ:St}{H:Hp}(Pv:St->Hp->Prop)(μ:St->Hp->Nat)(h0:Pv σ H)
   (hs:∀σ H,Pv σ H->c σ H fun b H1=>if b=true then tb {D with nx:=fun σ' H'=>Pv σ' H'/\μ σ' H' < μ σ H,ct:=fun σ' H'=>Pv σ' H'/\μ σ' H' < μ σ H,bk:=D.nx} σ H1 else D.nx σ H1)
   (mono:∀σ H Q Q',(∀b H1,Q b H1->Q' b H1)->c σ H Q->c σ H Q'):ar4 c tb D σ H:=by
 refine ⟨fun m σ H=>m=μ σ H/\Pv σ H,⟨_,rfl,h0⟩,?_⟩;rintro m σ H ⟨rfl,p⟩;refine mono σ H _ _ (fun b H1 q=> ?_) (hs σ H p)
 cases b with
 |true=>exact ⟨_,fun σ' H' ⟨p',l⟩=>⟨_,l,rfl,p'⟩,q⟩
 |false=>exact q
end L2
namespace L2
open PySem PySem.Spec PyProof.Rows
abbrev R2:=V->V->Hp->VK->Prop
def C0 (X:Cx)(f:Value->Value->Sem Value)(r:R2):Prop:=
 ∀(pins:List (Addr×Obj)) (s:Shared) (σ:St) (H:Hp) (x y:V) (v u:Value) (Q:VK),c7 X pins σ H s->j4 x v->j4 y u->r x y H Q->
  wpAny (model X.prog X.w) X.A (f v u) (EP X pins σ Q) X.xe s
def UnR (X:Cx)(f:Value->Sem Value)(r:V->Hp->VK->Prop):Prop:=
 ∀(pins:List (Addr×Obj)) (s:Shared) (σ:St) (H:Hp) (x:V) (v:Value) (Q:VK),c7 X pins σ H s->j4 x v->r x H Q->
  wpAny (model X.prog X.w) X.A (f v) (EP X pins σ Q) X.xe s
def C4 (X:Cx)(f:Value)(r:List V->Hp->VK->Prop):Prop:=
 ∀(pins:List (Addr×Obj)) (s:Shared) (σ:St) (H:Hp) (xs:List V) (us:List Value) (Q:VK),c7 X pins σ H s->h8 xs us->r xs H Q->
  wpAny (model X.prog X.w) X.A (call f us) (EP X pins σ Q) X.xe s
def tOp (r:R2)(ta tb:TE):TE:=fun σ H Q=>ta σ H fun x H1=>tb σ H1 fun y H2=>r x y H2 Q
def tUn (r:V->Hp->VK->Prop)(ta:TE):TE:=fun σ H Q=>ta σ H fun x H1=>r x H1 Q
def rI (C:Int->Int->Prop)(g:Int->Int->V):R2:=fun x y H Q=>∃i j,x= .int i/\y= .int j/\C i j/\Q (g i j) H
def rI0 (g:Int->Int->V):R2:=fun x y H Q=>∃i j,x= .int i/\y= .int j/\Q (g i j) H
def rU (g:Int->V):V->Hp->VK->Prop:=fun x H Q=>∃i,x= .int i/\Q (g i) H
section
variable {X:Cx} {a b c:Expr} {ta tb tc:TE} {pos:Pos}
theorem ax5 (ha:PE X a ta)(hb:PE X b tb){pins:List (Addr×Obj)}{s:Shared}{σ:St}{H:Hp}{R:V->V->Hp->Prop}(I:c7 X pins σ H s)
   (h:ta σ H fun x H1=>tb σ H1 fun y H2=>R x y H2) {Q:Value->Shared->Prop} {f:Value->Value->Sem Value}
   (hf:∀v u s2 x y H2,c7 X pins σ H2 s2->j4 x v->j4 y u->R x y H2->wpAny (model X.prog X.w) X.A (f v u) Q X.xe s2):
   wpAny (model X.prog X.w) X.A (eval a X.env) (fun v s₁=>wpAny (model X.prog X.w) X.A (eval b X.env) (fun u s₂=>wpAny (model X.prog X.w) X.A (f v u) Q X.xe s₂) X.xe s₁) X.xe s:=by
 refine j3 (ha pins s σ H _ I h) fun v s1 ⟨x,H1,I1,r1,q1⟩=> ?_
 refine j3 (hb pins s1 σ H1 _ I1 q1) fun u s2 ⟨y,H2,I2,r2,q2⟩=> ?_
 exact hf v u s2 x y H2 I2 r1 r2 q2
theorem l8 {op:Operator}{r:R2}(ho:C0 X (binaryOp op) r)(ha:PE X a ta)(hb:PE X b tb):PE X (.BinOp a op b pos) (tOp r ta tb):=by
 intro pins s σ H Q I h;exact wpAny_BinOp (ax5 ha hb I h fun v u s2 x y H2 I2 rx ry q=>ho pins s2 σ H2 x y v u Q I2 rx ry q)
theorem ae3 {op:UnaryOp}{r:V->Hp->VK->Prop}(ho:UnR X (unaryOp op) r)(ha:PE X a ta):PE X (.UnaryOp op a pos) (tUn r ta):=by
 intro pins s σ H Q I h;exact UnaryOp_ (j3 (ha pins s σ H _ I h) fun v s1 ⟨x,H1,I1,r1,q1⟩=>ho pins s1 σ H1 x v Q I1 r1 q1)
theorem opI {f:Value->Value->Sem Value}{C:Int->Int->Prop}{g:Int->Int->Int}
   (rule:∀(i j:Int) (t u:Tok) (s:Shared) (Q:Value->Shared->Prop) (E:Value->Shared->Prop),C i j->Q (.int (g i j) s.toks) {s with toks:=s.toks+1}->wpAny (model X.prog X.w) X.A (f (.int i t) (.int j u)) Q E s):
   C0 X f (rI C fun i j=> .int (g i j)):=by
 intro pins s σ H x y v u Q I rx ry h;obtain ⟨i,j,rfl,rfl,hc,q⟩:=h;obtain ⟨t,rfl⟩:=rx;obtain ⟨t',rfl⟩:=ry;exact rule i j t t' s _ _ hc ⟨.int (g i j),H,I.tok _,⟨_,rfl⟩,q⟩
theorem bh6 {f:Value->Value->Sem Value}{g:Int->Int->Int}
   (rule:∀(i j:Int) (t u:Tok) (s:Shared) (Q:Value->Shared->Prop) (E:Value->Shared->Prop),Q (.int (g i j) s.toks) {s with toks:=s.toks+1}->wpAny (model X.prog X.w) X.A (f (.int i t) (.int j u)) Q E s):
   C0 X f (rI0 fun i j=> .int (g i j)):=by
 intro pins s σ H x y v u Q I rx ry h;obtain ⟨i,j,rfl,rfl,q⟩:=h;obtain ⟨t,rfl⟩:=rx;obtain ⟨t',rfl⟩:=ry;exact rule i j t t' s _ _ ⟨.int (g i j),H,I.tok _,⟨_,rfl⟩,q⟩
theorem ax6 {f:Value->Value->Sem Value}{g:Int->Int->Bool}
   (rule:∀(i j:Int) (t u:Tok) (s:Shared) (Q:Value->Shared->Prop) (E:Value->Shared->Prop),Q (.bool (g i j)) s->wpAny (model X.prog X.w) X.A (f (.int i t) (.int j u)) Q E s):
   C0 X f (rI0 fun i j=> .bl (g i j)):=by
 intro pins s σ H x y v u Q I rx ry h;obtain ⟨i,j,rfl,rfl,q⟩:=h;obtain ⟨t,rfl⟩:=rx;obtain ⟨t',rfl⟩:=ry;exact rule i j t t' s _ _ ⟨.bl (g i j),H,I,rfl,q⟩
def bh7 (i j:Int):Prop:=0<=j/\j<=1000000/\i.natAbs < 2^64
def ax7 (i j:Int):Prop:=(-(2^64) < i/\i < 2^64)\/(-(2^64) < j/\j < 2^64)
theorem ax7.ok {i j:Int}(h:ax7 i j):IntMulOk i j:=by
 rcases h with ⟨h1,h2⟩|⟨h1,h2⟩
 · exact .of_left (intBits_le_64 h1 h2)
 · exact .of_right (intBits_le_64 h1 h2)
theorem O5:C0 X (binaryOp .Add) (rI0 fun i j=> .int (i+j)):=bh6 fun _ _ _ _ _ _ _ q=>add_int q
theorem af8:C0 X (binaryOp .Sub) (rI0 fun i j=> .int (i - j)):=bh6 fun _ _ _ _ _ _ _ q=>sub_int q
theorem W6:C0 X (binaryOp .Mult) (rI ax7 fun i j=> .int (i*j)):=opI fun _ _ _ _ _ _ _ hc q=>mul_int q hc.ok
theorem E8:C0 X (binaryOp .Mod) (rI (fun _ j=>0 < j) fun i j=> .int (i%j)):=opI fun i j _ _ _ _ _ hc q=>by
 have h1:(0:Int) < j:=hc;exact mod_int' (by omega) (by rw[Int.fmod_eq_emod_of_nonneg i (by omega)];exact q)
theorem bh8:C0 X (binaryOp .Pow) (rI bh7 fun i j=> .int (i^j.toNat)):=opI fun _ _ _ _ _ _ _ hc q=>pow_int_small hc.1 hc.2.1 hc.2.2 q
theorem unI {f:Value->Sem Value}{g:Int->Int}
   (rule:∀(i:Int) (t:Tok) (s:Shared) (Q:Value->Shared->Prop) (E:Value->Shared->Prop),Q (.int (g i) s.toks) {s with toks:=s.toks+1}->wpAny (model X.prog X.w) X.A (f (.int i t)) Q E s):
   UnR X f (rU fun i=> .int (g i)):=by
 intro pins s σ H x v Q I rx h;obtain ⟨i,rfl,q⟩:=h;obtain ⟨t,rfl⟩:=rx;exact rule i t s _ _ ⟨.int (g i),H,I.tok _,⟨_,rfl⟩,q⟩
theorem W7:UnR X (unaryOp .USub) (rU fun i=> .int (-i)):=unI fun _ _ _ _ _ q=>neg_int q
end
def bh9:V->V->Bool
 | .non,.non=>true| .non,.int _=>true| .int _,.non=>true| .non,.bl _=>true| .bl _,.non=>true| .non,.str _=>true| .str _,.non=>true
 | .int _,.int _=>true| .bl _,.bl _=>true| .str _,.str _=>true| .byt _,.byt _=>true
 | .int _,.str _=>true| .str _,.int _=>true| .bl _,.str _=>true| .str _,.bl _=>true
 |_,_=>false
def rEq:R2:=fun x y H Q=>bh9 x y=true/\Q (.bl (decide (x=y))) H
def rNe:R2:=fun x y H Q=>bh9 x y=true/\Q (.bl (!decide (x=y))) H
theorem am1 {i j:Int}:decide (V.int i=V.int j)=(i==j):=by
 rw[bz9];simp
theorem ar7 {i j:Bool}:decide (V.bl i=V.bl j)=(i==j):=by
 rw[bz9];simp
theorem am2 {i j:Str}:decide (V.str i=V.str j)=(i==j):=by
 rw[bz9];simp
theorem am3 {i j:Array UInt8}:decide (V.byt i=V.byt j)=(i.toList==j.toList):=by
 rw[bz9];cases i;cases j;simp
section
variable {X:Cx} {a b c:Expr} {ta tb tc:TE} {pos:Pos}
theorem k7 {pins:List (Addr×Obj)}{σ:St}{H:Hp}{s:Shared}{Q:VK}{k k':Bool}(I:c7 X pins σ H s)(q:Q (.bl k) H)(e:k=k'):EP X pins σ Q (.bool k') s:=by
 subst e;exact ⟨.bl k,H,I,rfl,q⟩
theorem W8:C0 X (compareOp .Eq) rEq:=by
 intro pins s σ H x y v u Q I rx ry h;obtain ⟨hs,q⟩:=h
 cases x with
 |non=>
  cases rx
  cases y with
  |non=>cases ry;exact PySem.EqNone.eq_none_none (k7 I q (by simp))
  |bl j=>cases ry;exact PySem.EqNone.eq_none_bool (k7 I q (by simp))
  |int j=>obtain ⟨t',rfl⟩:=ry;exact PySem.EqNone.eq_none_int (k7 I q (by simp))
  |str j=>obtain ⟨t',rfl⟩:=ry;exact PySem.EqNone.eq_none_str (k7 I q (by simp))
  |_=>exact absurd (show false=true from hs) bt0
 |bl i=>
  cases rx
  cases y with
  |non=>cases ry;exact PySem.EqNone.eq_bool_none (k7 I q (by simp))
  |bl j=>cases ry;exact eq_bool (k7 I q ar7)
  |str j=>obtain ⟨t',rfl⟩:=ry;exact PySem.EqMixed.eq_bool_str (k7 I q (by simp))
  |_=>exact absurd (show false=true from hs) bt0
 |int i=>
  obtain ⟨t,rfl⟩:=rx
  cases y with
  |non=>cases ry;exact PySem.EqNone.eq_int_none (k7 I q (by simp))
  |int j=>obtain ⟨t',rfl⟩:=ry;exact eq_int (k7 I q am1)
  |str j=>obtain ⟨t',rfl⟩:=ry;exact PySem.EqMixed.eq_int_str (k7 I q (by simp))
  |_=>exact absurd (show false=true from hs) bt0
 |str i=>
  obtain ⟨t,rfl⟩:=rx
  cases y with
  |non=>cases ry;exact PySem.EqNone.eq_str_none (k7 I q (by simp))
  |bl j=>cases ry;exact PySem.EqMixed.eq_str_bool (k7 I q (by simp))
  |int j=>obtain ⟨t',rfl⟩:=ry;exact PySem.EqMixed.eq_str_int (k7 I q (by simp))
  |str j=>obtain ⟨t',rfl⟩:=ry;exact eq_str (k7 I q am2)
  |_=>exact absurd (show false=true from hs) bt0
 |byt i=>
  obtain ⟨t,rfl⟩:=rx
  cases y with
  |byt j=>obtain ⟨t',rfl⟩:=ry;exact PySem.W.eq_bytes (k7 I q am3)
  |_=>exact absurd (show false=true from hs) bt0
 |_=>cases y<;>exact absurd (show false=true from hs) bt0
theorem W9:C0 X (compareOp .NotEq) rNe:=by
 intro pins s σ H x y v u Q I rx ry h;obtain ⟨hs,q⟩:=h
 cases x with
 |non=>
  cases rx
  cases y with
  |non=>cases ry;exact PySem.EqNone.ne_none_none (k7 I q (by simp))
  |bl j=>cases ry;exact PySem.EqNone.ne_none_bool (k7 I q (by simp))
  |int j=>obtain ⟨t',rfl⟩:=ry;exact PySem.EqNone.ne_none_int (k7 I q (by simp))
  |str j=>obtain ⟨t',rfl⟩:=ry;exact PySem.EqNone.ne_none_str (k7 I q (by simp))
  |_=>exact absurd (show false=true from hs) bt0
 |bl i=>
  cases rx
  cases y with
  |non=>cases ry;exact PySem.EqNone.ne_bool_none (k7 I q (by simp))
  |bl j=>cases ry;exact ne_bool (k7 I q (congrArg not ar7))
  |str j=>obtain ⟨t',rfl⟩:=ry;exact PySem.EqMixed.ne_bool_str (k7 I q (by simp))
  |_=>exact absurd (show false=true from hs) bt0
 |int i=>
  obtain ⟨t,rfl⟩:=rx
  cases y with
  |non=>cases ry;exact PySem.EqNone.ne_int_none (k7 I q (by simp))
  |int j=>obtain ⟨t',rfl⟩:=ry;exact ne_int (k7 I q (congrArg not am1))
  |str j=>obtain ⟨t',rfl⟩:=ry;exact PySem.EqMixed.ne_int_str (k7 I q (by simp))
  |_=>exact absurd (show false=true from hs) bt0
 |str i=>
  obtain ⟨t,rfl⟩:=rx
  cases y with
  |non=>cases ry;exact PySem.EqNone.ne_str_none (k7 I q (by simp))
  |bl j=>cases ry;exact PySem.EqMixed.ne_str_bool (k7 I q (by simp))
  |int j=>obtain ⟨t',rfl⟩:=ry;exact PySem.EqMixed.ne_str_int (k7 I q (by simp))
  |str j=>obtain ⟨t',rfl⟩:=ry;exact ne_str (k7 I q (congrArg not am2))
  |_=>exact absurd (show false=true from hs) bt0
 |byt i=>
  obtain ⟨t,rfl⟩:=rx
  cases y with
  |byt j=>obtain ⟨t',rfl⟩:=ry;exact PySem.W.ne_bytes (k7 I q (congrArg not am3))
  |_=>exact absurd (show false=true from hs) bt0
 |_=>cases y<;>exact absurd (show false=true from hs) bt0
theorem ao1:C0 X (compareOp .Lt) (rI0 fun i j=> .bl (decide (i < j))):=ax6 fun _ _ _ _ _ _ _ q=>lt_int q
theorem ae4:C0 X (compareOp .Gt) (rI0 fun i j=> .bl (decide (j < i))):=ax6 fun _ _ _ _ _ _ _ q=>gt_int q
theorem bc3:C0 X (compareOp .GtE) (rI0 fun i j=> .bl (decide (j<=i))):=ax6 fun _ _ _ _ _ _ _ q=>ge_int q
theorem m7 (b:Expr){op:CmpOp}(h:op≠.In:=by decide)(h2:op≠.NotIn:=by decide):behindInMarks op b=false:=by
 have e1:(op==CmpOp.In)=false:=by cases op<;>first|rfl|exact absurd rfl h
 have e2:(op==CmpOp.NotIn)=false:=by cases op<;>first|rfl|exact absurd rfl h2
 cases b<;>simp [behindInMarks,e1,e2]
theorem Y7 {op:CmpOp}{r:R2}(ho:C0 X (compareOp op) r)(ha:PE X a ta)(hb:PE X b tb)(hm:behindInMarks op b=false):PE X (.Compare a [op] [b] pos) (tOp r ta tb):=by
 intro pins s σ H Q I h;exact wpAny_Compare1 (ax5 ha hb I h fun v u s2 x y H2 I2 rx ry q=>ho pins s2 σ H2 x y v u Q I2 rx ry q) hm
def bl8 (t:TE):TT:=fun σ H Q=>t σ H fun x H'=>∃k,x= .bl k/\Q k H'
theorem m6 {op:CmpOp}{r:R2}(ho:C0 X (compareOp op) r)(ha:PE X a ta)(hb:PE X b tb)(hm:behindInMarks op b=false):PT X (.Compare a [op] [b] pos) (bl8 (tOp r ta tb)):=by
 intro pins s σ H Q I h
 refine wpAny_isTrue_Compare1 (j3 (ha pins s σ H _ I h) fun v s1 ⟨x,H1,I1,r1,q1⟩=>j3 (hb pins s1 σ H1 _ I1 q1) fun u s2 ⟨y,H2,I2,r2,q2⟩=>
   j3 (ho pins s2 σ H2 x y v u _ I2 r1 r2 q2) fun c s3 ⟨z,H3,I3,r3,k,e,q3⟩=> ?_) hm
 subst e;cases r3;exact wpAny_truthy_bool ⟨H3,I3,q3⟩
theorem af9:(sizeLine:Nat) < 2^63:=by rw[sizeLine_eq];decide
theorem E9:C0 X (binaryOp .Add) (fun x y H Q=>∃i j,x= .str i/\y= .str j/\i.length+j.length<=sizeLine/\Q (.str (i++j)) H):=by
 intro pins s σ H x y v u Q I rx ry h;obtain ⟨i,j,rfl,rfl,hz,q⟩:=h;obtain ⟨t,rfl⟩:=rx;obtain ⟨t',rfl⟩:=ry;exact add_str (fun t' tk=>⟨.str (i++j),H,I.tok _,⟨_,rfl⟩,q⟩) hz
theorem M7 {x:V}{us:List Value}(r:h8 [x] us):∃u,us=[u]/\j4 x u:=by
 cases r with
 |cons r1 r2=>cases r2;exact ⟨_,rfl,r1⟩
theorem ao2 {x y:V}{us:List Value}(r:h8 [x,y] us):∃u w',us=[u,w']/\j4 x u/\j4 y w':=by
 cases r with
 |cons r1 r2=>
  cases r2 with
  |cons r3 r4=>cases r4;exact ⟨_,_,rfl,r1,r3⟩
theorem ar8 (hc:X.calm=true):C4 X (.builtin "max") (fun xs H Q=>∃i j,xs=[.int i,.int j]/\Q (.int (if j > i then j else i)) H):=by
 intro pins s σ H xs us Q I r h;obtain ⟨i,j,rfl,q⟩:=h;obtain ⟨u,w',rfl,⟨t,rfl⟩,⟨t',rfl⟩⟩:=ao2 r
 refine max_two_ints (I.ok.hd hc) fun h' tk k=>⟨_,H,I.kept k,?_,q⟩
 by_cases hj:j > i
 · rw[if_pos hj,if_pos hj];exact ⟨_,rfl⟩
 · rw[if_neg hj,if_neg hj];exact ⟨_,rfl⟩
theorem ar9 (hc:X.calm=true):C4 X (.builtin "min") (fun xs H Q=>∃i j,xs=[.int i,.int j]/\Q (.int (if j < i then j else i)) H):=by
 intro pins s σ H xs us Q I r h;obtain ⟨i,j,rfl,q⟩:=h;obtain ⟨u,w',rfl,⟨t,rfl⟩,⟨t',rfl⟩⟩:=ao2 r
 refine min_two_ints (I.ok.hd hc) fun h' tk k=>⟨_,H,I.kept k,?_,q⟩
 by_cases hj:j < i
 · rw[if_pos hj,if_pos hj];exact ⟨_,rfl⟩
 · rw[if_neg hj,if_neg hj];exact ⟨_,rfl⟩
theorem ag0:C4 X (.type "str") (fun xs H Q=>∃i,xs=[.int i]/\i.natAbs.log2 < 1920/\Q (.str (toString i)) H):=by
 intro pins s σ H xs us Q I r h;obtain ⟨i,rfl,hz,q⟩:=h;obtain ⟨u,rfl,t,rfl⟩:=M7 r;exact PySem.P.str_of_int hz ⟨.str _,H,I.tok _,⟨_,rfl⟩,q⟩
end
end L2
namespace L2
open PySem PySem.Spec PyProof.Rows
structure ax8 (h:Heap)(x dx C:Addr)(mA:Str->Option Value):Prop where
 obj:h.get? x=some (PySem.W.instObj C dx)
 ns:h.Ns1 dx mA
 ne:dx≠x
theorem as0 {h:Heap}{dx:Addr}{mA:Str->Option Value}(n:h.Ns1 dx mA):∃od,h.get? dx=some od/\∀name,PySem.W.lookIn name od=some (mA name):=by
 obtain ⟨o,es,ep,ho,hd,hk,_,hm⟩:=n;refine ⟨o,ho,fun name=> ?_⟩;have e:=hm name;unfold nsFind findBy at e;rw[<-Array.find?_toList] at e;unfold PySem.W.lookIn;rw[hd]
 dsimp only
 split
 · rename_i y q;rw[q] at e;exact congrArg some e
 · rename_i q;rw[q] at e
   have a:es.toList.any (·.refKey)=false:=by
     rw[List.any_eq_false];intro y hy;obtain ⟨z,t,hkey⟩:=hk y (Array.mem_toList_iff.mp hy);simp [DictEntry.refKey,hkey]
   have a':¬es.toList.any (·.refKey)=true:=by rw[a];exact bt0
   rw[if_neg a'];exact congrArg some e
theorem ax8.look {h:Heap}{x dx C:Addr}{mA:Str->Option Value}(I:ax8 h x dx C mA):∃od,PySem.W.InstAt h x (PySem.W.instObj C dx) C (some od)/\∀name,PySem.W.lookIn name od=some (mA name):=
 let ⟨od,ho,hl⟩:=as0 I.ns
 ⟨od,⟨I.obj,rfl,rfl,ho⟩,hl⟩
section
variable {P:Program} {w:World} {H H':Hp} {h h':Heap} {a C dx:Addr} {fs fs':List (Str×V)}
theorem bd3 (hok:q5 P w H h)(e:H a=some (.ins C dx fs)):∃mA,ax8 h a dx C mA/\(∀f,U7 (fs.lookup f) (mA f))/\PySem.Within mA (fs.map (·.1))/\fs.length<=1000/\H dx=some (.own a):=by
 obtain ⟨d,z,ne,ob,mA,n,r,q⟩:=(show n6 P w H h a (.ins C dx fs) from hok a _ e);exact ⟨mA,⟨ob,n,ne⟩,r,q,z,d⟩
end
structure Cls (K:PySem.W.Frag)(C:Addr):Prop where
 pg:PySem.W.plainGet K C Str.empty=true
 hd:PySem.W.hasDictIn K C=true
 po:PySem.W.plainOver K C=true
 sa:PySem.W.findIn K (.ref C) "__setattr__"=some (some (.builtin "object.__setattr__"))
theorem Cls.get {K:PySem.W.Frag}{C:Addr}(c:Cls K C)(f:Str):PySem.W.plainGet K C f=true:=c.pg
section
variable {X:Cx} {pins:List (Addr×Obj)} {σ:St} {H:Hp} {s:Shared} {A:Around} {E:Value->Shared->Prop} {Q:Value->Shared->Prop} {c:Value} {b:Bool}
inductive C5 (K:PySem.W.Frag)(H:Hp):V->Value->Prop where
 |non:C5 K H .non (.type "NoneType")
 |bl (x:Bool):C5 K H (.bl x) (.type "bool")
 |int (i:Int):C5 K H (.int i) (.type "int")
 |str (x:Str):C5 K H (.str x) (.type "str")
 |flt (x:UInt64):C5 K H (.flt x) (.type "float")
 |lst {a:Addr} {xs:List V} (e:H a=some (.lst xs)):C5 K H (.ref a) (.type "list")
 |frz {a:Addr} {o:Obj} {xs:List V} (e:H a=some (.frz o (.lst xs))):C5 K H (.ref a) (.type "list")
 |tup {a:Addr} {xs:List V} (e:H a=some (.tup xs)):C5 K H (.ref a) (.type "tuple")
 |dK {a:Addr} {kvs:List (m3×V)} (e:H a=some (.dK kvs)):C5 K H (.ref a) (.type "dict")
 |dT {a:Addr} {kvs:List (List m3×V)} (e:H a=some (.dT kvs)):C5 K H (.ref a) (.type "dict")
 |ins {a C dx:Addr} {fs:List (Str×V)} (e:H a=some (.ins C dx fs)) (cl:Cls K C) (ha:PySem.W.findIn K (.ref C) "__class__"=some (some (.builtin "object.__class__")))
     (hn:PySem.W.specialIn K (.builtin "object.__class__") "__get__"=some (some (.builtin "getset_descriptor.__get__"))) (htk:PySem.W.takesIn K (.builtin "object.__class__")=some true)
     (hm:PySem.W.mroIn K C (.type "object")=some true):C5 K H (.ref a) (.ref C)
theorem as1 {x:V}{u t:Value}(I:c7 X pins σ H s)(rx:j4 x u)(ty:C5 X.K H x t)(e:PySem.W.kitOne X.K t c=some b)(h:∀tk,Q (.bool b) {s with toks:=tk}):
   wpAny (model X.prog X.w) A (call (.builtin "isinstance") [u,c]) Q E s:=by
 cases ty with
 |non=>cases (show u=Value.none from rx);exact PySem.W.kia_one PySem.W.kitx_none I.kIn True.intro e (fun z=>nomatch z) h
 |bl y=>cases (show u=Value.bool y from rx);exact PySem.W.kia_one PySem.W.kitx_bool I.kIn True.intro e (fun z=>nomatch z) h
 |int i=>obtain ⟨t,q⟩:=(show ∃t,u=Value.int i t from rx);cases q;exact PySem.W.kia_one PySem.W.kitx_int I.kIn True.intro e (fun z=>nomatch z) h
 |str y=>obtain ⟨t,q⟩:=(show ∃t,u=Value.str y t from rx);cases q;exact PySem.W.kia_one PySem.W.kitx_str I.kIn True.intro e (fun z=>nomatch z) h
 |flt y=>obtain ⟨t,q⟩:=(show ∃t,u=Value.float y t from rx);cases q;exact PySem.W.kia_one PySem.W.kitx_float I.kIn True.intro e (fun z=>nomatch z) h
 |@lst a xs ea=>
  cases (show u=Value.ref a from rx);obtain ⟨_,_,n,_,h1⟩:=(show n6 X.prog X.w H s.heap a (.lst xs) from I.hok a _ ea);exact PySem.W.kia_one PySem.W.kitx_list I.kIn ⟨_,h1,rfl⟩ e (fun z=>nomatch z) h
 |@frz a ob xs ea=>
  cases (show u=Value.ref a from rx);obtain ⟨_,_,_,n,_,h1⟩:=(show n6 X.prog X.w H s.heap a (.frz ob (.lst xs)) from I.hok a _ ea);exact PySem.W.kia_one PySem.W.kitx_list I.kIn ⟨_,h1,rfl⟩ e (fun z=>nomatch z) h
 |@tup a xs ea=>
  cases (show u=Value.ref a from rx);obtain ⟨_,_,_,p⟩:=(show n6 X.prog X.w H s.heap a (.tup xs) from I.hok a _ ea);obtain ⟨o,h1,h2,_⟩:=p;exact PySem.W.kia_one PySem.W.kitx_tuple I.kIn ⟨o,h1,h2⟩ e (fun z=>nomatch z) h
 |@dK a kvs ea=>
  cases (show u=Value.ref a from rx);obtain ⟨_,_,vs,_,p⟩:=(show n6 X.prog X.w H s.heap a (.dK kvs) from I.hok a _ ea);obtain ⟨o,es,ep,h1,h2,_⟩:=p;exact PySem.W.kia_one PySem.W.kitx_dict I.kIn ⟨o,h1,h2.1⟩ e (fun z=>nomatch z) h
 |@dT a kvs ea=>
  cases (show u=Value.ref a from rx);obtain ⟨_,_,xs,_,o,es,ep,h1,h2,_⟩:=(show n6 X.prog X.w H s.heap a (.dT kvs) from I.hok a _ ea);exact PySem.W.kia_one PySem.W.kitx_dict I.kIn ⟨o,h1,h2.1⟩ e (fun z=>nomatch z) h
 |@ins a C dx fs ea cl ha hn htk hm=>
  cases (show u=Value.ref a from rx);obtain ⟨mA,O,_⟩:=bd3 I.hok ea;obtain ⟨od,J,_⟩:=O.look;exact PySem.W.kia_one (PySem.W.kitx_own (cl.get _) cl.hd ha hn htk hm) I.kIn J e (fun z=>nomatch z) h
end
end L2
namespace L2
open PySem PySem.Spec PyProof.Rows
structure l5 (k:Nat)(A:Around):Prop where
 hd:A.handled=none
 dp:A.depth+3*k+5 < recursionLimit
 un:A.units+16*k+200 < cLine
 gd:A.guards=some []
theorem l5.mono {j k:Nat}{A:Around}(r:l5 k A)(h:j<=k):l5 j A:=⟨r.hd,by have:=r.dp;omega,by have:=r.un;omega,r.gd⟩
theorem l5.deeper {k:Nat}{A:Around}(r:l5 (k+1) A)(env:Env):l5 k (A.deeper env):=
 ⟨r.hd,by have:=r.dp;show A.depth+1+3*k+5 < _;omega,by have:=r.un;show A.units+3+16*k+200 < _;omega,r.gd⟩
theorem l5.depth {k:Nat}{A:Around}(r:l5 k A):A.depth < recursionLimit:=by have:=r.dp;omega
theorem l5.units {k:Nat}{A:Around}(r:l5 k A):A.units+64 < cLine:=by have:=r.un;omega
def bi1:TA:=fun _ H Q=>Q [] H
def bc4 (ta:TE)(tr:TA):TA:=fun σ H Q=>ta σ H fun x H1=>tr σ H1 fun xs H2=>Q (x::xs) H2
section
variable {X:Cx} {e:Expr} {es:List Expr} {te:TE} {t:TA} {pos:Pos}
theorem c5:PA X [] bi1:=fun _ _ _ _ H Q I h=>Calls.spliced_nil ⟨[],H,I,.nil,h⟩
theorem c4 (ha:PE X e te)(hr:PA X es t)(hs:starEach (e::es) X.env=(false,eval e X.env)::starEach es X.env:=by rfl):PA X (e::es) (bc4 te t):=by
 intro pos pins s σ H Q I h;rw[hs];show wpAny _ _ (spliced ((false,eval e X.env)::backTo pos (starEach es X.env))) _ _ s;refine Calls.spliced_cons (j3 (ha pins s σ H _ I h) fun u s1 ⟨x,H1,I1,r1,q1⟩=> ?_)
 exact j3 (hr pos pins s1 σ H1 _ I1 q1) fun us s2 ⟨xs,H2,I2,r2,q2⟩=>⟨x::xs,H2,I2,.cons r1 r2,q2⟩
def bp7 (t:TA):TE:=fun σ H Q=>t σ H fun xs H1=>xs.length<=sizeLine/\∀p,H1 p=none->Q (.ref p) (g9 H1 p (.tup xs))
def bp8 (t:TA):TE:=fun σ H Q=>t σ H fun xs H1=>xs.length<=sizeLine/\∀p,H1 p=none->Q (.ref p) (g9 H1 p (.lst xs))
theorem bi2 {x1}(h:PA X es t):PE X (.Tuple es x1 pos) (bp7 t):=by
 intro pins s σ H Q I hq;refine wpAny_Tuple_spliced (j3 (h pos pins s σ H _ I hq) fun us s1 ⟨xs,H1,I1,r,z,q⟩=>⟨by rw[<-r.length];exact z,?_⟩);have hf:H1 s1.heap.objs.size=none:=I1.hok.fresh (bs9 _);refine ⟨.ref s1.heap.objs.size,g9 H1 s1.heap.objs.size (.tup xs),I1.laid (t':=s1.toks) (fun b u e=>Heap.get?_push_of_some _ e) (bs9 _) ?_,rfl,q _ hf⟩;exact ⟨z,us,r,⟨_,Heap.get?_push_size _ rfl,rfl,_,rfl⟩⟩
theorem x8 (h:PA X es t):PE X (.List es pos) (bp8 t):=by
 intro pins s σ H Q I hq;refine wpAny_List_spliced (j3 (h pos pins s σ H _ I hq) fun us s1 ⟨xs,H1,I1,r,z,q⟩=>⟨by rw[<-r.length];exact z,?_⟩);have hf:H1 s1.heap.objs.size=none:=I1.hok.fresh (bs9 _);refine ⟨.ref s1.heap.objs.size,g9 H1 s1.heap.objs.size (.lst xs),I1.laid (t':=s1.toks) (fun b u e=>Heap.get?_push_of_some _ e) (bs9 _) ?_,rfl,q _ hf⟩;exact ⟨z,us,0,r,Heap.get?_push_size _ rfl⟩
end
abbrev Sp:=List V->Hp->VK->XK->Prop
abbrev U3:=List Env->Hp->Shared->XK->Value->Shared->Prop
structure ao3 (P:Program)(w:World)(K:PySem.W.Frag)(mg:Str->Option Value)(base:Heap)(A:Around)(outer:List Env)(s:Shared)(H:Hp):Prop where
 frames:A.frames=some outer
 mod:Mod K mg base
 bs:∀b o,base.get? b=some o->s.heap.get? b=some o/\H b=none
 bsz:base.objs.size<=s.heap.objs.size
 funs:s.heap.FunFrames base outer
 frf:∀b∈M5 outer,H b=none
 hok:q5 P w H s.heap
 bare:AllBare s.gens
def CE (outer:List Env)(P:Program)(w:World)(H:Hp)(s:Shared)(Q:VK)(u:Value)(s':Shared):Prop:=
 ∃v H',s'.os=s.os/\AllBare s'.gens/\Un (M5 outer) [] H H' s.heap s'.heap/\q5 P w H' s'.heap/\j4 v u/\Q v H'
def CR (CX:U3)(outer:List Env)(P:Program)(w:World)(H:Hp)(s:Shared)(Q:VK)(E:XK)(r:Result)(s':Shared):Prop:=
 match r with
 | .ok (.ret u)=>CE outer P w H s Q u s'
 | .ok _=>False
 | .error e=>CX outer H s E e s'
structure m5 (P:Program)(w:World)(K:PySem.W.Frag)(mg:Str->Option Value)(base:Heap)(CX:U3)(k:Nat)(f:Addr)(fd:FuncData)(ps:List Str)(sp:Sp):Prop where
 len:∀vs H Q E,sp vs H Q E->vs.length=ps.length
 run:∀(A:Around) (outer:List Env) (s:Shared) (H:Hp) (args:Args) (us:List Value) (vs:List V) (Q:VK) (E:XK),l5 k A->ao3 P w K mg base A outer s H->BindsTo s fd args (ps.zip us)->h8 vs us->sp vs H Q E->
   codeAny (model P w) A (.call (.ref f) args) (CR CX outer P w H s Q E) s
section
variable {X:Cx} {pins:List (Addr×Obj)} {σ:St} {H:Hp} {s s':Shared}
theorem c7.env0 (I:c7 X pins σ H s):ao3 X.prog X.w X.K X.mg X.base X.A X.stack s H:=
 ⟨I.ok.frames,I.ok.mod,I.bs,bw3 I.ok.bsz I.sz,I.stack,I.stkFree,I.hok,I.bare⟩
theorem c7.after {Q:VK}{u:Value}(I:c7 X pins σ H s)(h:CE X.stack X.prog X.w H s Q u s'):EP X pins σ Q u s':=by
 obtain ⟨v,H',os,bare,un,hok,r,q⟩:=h;obtain ⟨hh,g,d,t,os'⟩:=s';obtain rfl:os'=s.os:=os;exact ⟨v,H',I.call (h':=hh) (g':=g) (d':=d) (t':=t) (ch:=[]) un hok bare (fun b z=>absurd z (by simp)),r,q⟩
end
def bc5 (sp:Sp)(dvs:List V)(E:XK)(t:TA):TE:=fun σ H Q=>t σ H fun vs H1=>sp (vs++dvs) H1 Q E
def P2 (K:PySem.W.Frag)(fd:FuncData)(ps:List Str)(ds:List Value):Prop:=
 ∀(s:Shared) (us:List Value),K.In s.heap->(us++ds).length=ps.length->BindsTo s fd ⟨us,[]⟩ (ps.zip (us++ds))
theorem P2.all {K:PySem.W.Frag}{fd:FuncData}{ps:List Str}(h:∀us:List Value,us.length=ps.length->bindArgs fd ⟨us,[]⟩=pure (ps.zip us)):P2 K fd ps []:=fun s us _ hl=>by
 rw[bw0] at hl ⊢;exact .of_eq (h us hl)
def ag1 (CX:U3)(X:Cx)(E:XK):Prop:=∀(pins:List (Addr×Obj)) (σ:St) (H:Hp) (s:Shared) (e:Value) (s':Shared),c7 X pins σ H s->CX X.stack H s E e s'->X.xe e s'
section
variable {X:Cx} {CX:U3} {k:Nat} {f C:Addr} {fd:FuncData} {ps:List Str} {sp:Sp} {dvs:List V} {ds:List Value} {E:XK} {x m:Str} {p pos apos:Pos} {e o:Expr} {es:List Expr} {ta:TE} {t:TA}
theorem bi3 {pins:List (Addr×Obj)}{σ:St}{H:Hp}{s:Shared}{Q:VK}{us:List Value}{vs:List V}(F:m5 X.prog X.w X.K X.mg X.base CX k f fd ps sp)(hr:l5 k X.A)(hb:P2 X.K fd ps ds)(hd:h8 dvs ds)(hx:ag1 CX X E)
   (I:c7 X pins σ H s) (r:h8 vs us) (h:sp (vs++dvs) H Q E):wpAny (model X.prog X.w) X.A (call (.ref f) us) (EP X pins σ Q) X.xe s:=by
 have r2:h8 (vs++dvs) (us++ds):=r.append hd
 have hl:(us++ds).length=ps.length:=by rw[<-r2.length];exact F.len _ _ _ _ h
 refine wpAny_call (codeAny_mono (F.run X.A X.stack s H ⟨us,[]⟩ (us++ds) (vs++dvs) Q E hr I.env0 (hb s us I.kIn hl) r2 h) fun r s' hq=> ?_)
 cases r with
 |error e=>exact hx pins σ H s e s' I hq
 |ok fl=>
  cases fl with
  |ret u=>exact I.after hq
  |next=>exact False.elim hq
  |brk=>exact False.elim hq
  |cont=>exact False.elim hq
theorem bd4 (F:m5 X.prog X.w X.K X.mg X.base CX k f fd ps sp)(hr:l5 k X.A)(hg:Gl X x)(hm:X.mg x=some (.ref f))(hk:PySem.W.keepIn X.K (.ref f)=true)(hb:P2 X.K fd ps ds)(hd:h8 dvs ds)(hx:ag1 CX X E)
   (ha:PA X (e::es) t) (hdb:(x==("__debug__":Str))=false:=by decide) (he:starEach (e::es) X.env=(false,eval e X.env)::starEach es X.env:=by rfl) (hpl:(backTo pos (starEach es X.env)).any (·.1)=false:=by rfl):
   PE X (.Call (.Name x p) (e::es) [] pos) (bc5 sp dvs E t):=by
 intro pins s σ H Q I h;refine wpAny_Call_Name_kw (al7 I hg hm ?_ hdb);refine PySem.W.callWith_K (h₀:=X.base) I.ok.mod.kin hk (j3 (ha pos pins s σ H _ I h) fun us s1 ⟨vs,H1,I1,r,q⟩=>⟨I1.kIn,?_⟩) he hpl;exact bi3 F hr hb hd hx I1 r q
end
structure j7 (N P:List Str)(sc:Scope):Prop where
 kind:sc.kind= .function
 co:sc.isCoroutine=false
 gen:sc.isGenerator=false
 nd:N.Nodup
 pre:N.take P.length=P
 par:∀x∈P,sc.names.lookup x=some .local\/sc.names.lookup x=some .cell
 nofree:∀y∈sc.names,y.2≠.free
theorem ab2 {kindOf:Str->Option NameKind}{x:Str}:∀{binds:List (Str×Value)} {m:Str->Option Value},(∀v,(x,v)∉binds)->bindL kindOf binds m x=m x
 |[],_,_=>rfl
 |(n,v)::r,m,h=>by
  unfold bindL;rw[ab2 fun w hw=>h w (bs7 _ hw)]
  split
  · have:x≠n:=by rintro rfl;exact h v bs4
    simp [this]
  · rfl
theorem ab3 {kindOf:Str->Option NameKind}{x:Str}:∀{binds:List (Str×Value)} {m:Str->Option Value},(∀v,(x,v)∉binds)->bindC kindOf binds m x=m x
 |[],_,_=>rfl
 |(n,v)::r,m,h=>by
  unfold bindC;rw[ab3 fun w hw=>h w (bs7 _ hw)]
  split
  · rfl
  · have:x≠n:=by rintro rfl;exact h v bs4
    simp [this]
theorem ab4 {kindOf:Str->Option NameKind}{x:Str}{v:Value}:∀{P:List Str} {vs:List Value} {i:Nat} {m:Str->Option Value},P.Nodup->P[i]? =some x->vs[i]? =some v->kindOf x=some .local->
   bindL kindOf (P.zip vs) m x=some v
 |[],_,_,_,_,h,_,_=>by simp at h
 |_::_,[],_,_,_,_,h,_=>by simp at h
 |p::P,w::vs,0,m,nd,h1,h2,hk=>by
  simp at h1 h2;subst h1;subst h2;show bindL kindOf ((p,w)::P.zip vs) m p=_;unfold bindL;rw[ab2 fun v hv=>(bw7.mp nd).1 (cd3 hv).1,if_pos hk];simp
 |p::P,w::vs,i+1,m,nd,h1,h2,hk=>by
  show bindL kindOf ((p,w)::P.zip vs) m x=_;unfold bindL;exact ab4 (i:=i) (bw7.mp nd).2 (by simpa using h1) (by simpa using h2) hk
theorem ab5 {kindOf:Str->Option NameKind}{x:Str}{v:Value}:∀{P:List Str} {vs:List Value} {i:Nat} {m:Str->Option Value},P.Nodup->P[i]? =some x->vs[i]? =some v->kindOf x≠some .local->
   bindC kindOf (P.zip vs) m x=some v
 |[],_,_,_,_,h,_,_=>by simp at h
 |_::_,[],_,_,_,_,h,_=>by simp at h
 |p::P,w::vs,0,m,nd,h1,h2,hk=>by
  simp at h1 h2;subst h1;subst h2;show bindC kindOf ((p,w)::P.zip vs) m p=_;unfold bindC;rw[ab3 fun v hv=>(bw7.mp nd).1 (cd3 hv).1,if_neg hk];simp
 |p::P,w::vs,i+1,m,nd,h1,h2,hk=>by
  show bindC kindOf ((p,w)::P.zip vs) m x=_;unfold bindC;exact ab5 (i:=i) (bw7.mp nd).2 (by simpa using h1) (by simpa using h2) hk
def M8 (N:List Str)(vs:List V):St:=vs.map some++bu2 (N.length - vs.length) none
def Y8 (CX:U3)(P:Program)(w:World)(K:PySem.W.Frag)(mg:Str->Option Value)(base:Heap)(N:List Str)(qual:Str)(scope:Scope)(f:Addr)(cd:Value)(A:Around)(outer:List Env)(s:Shared)(H:Hp)(E:XK):Cx where
 prog:=P
 w:=w
 K:=K
 mg:=mg
 base:=base
 A:=A.deeper (envOfC qual scope s.heap.objs.size f cd)
 N:=N
 s₀:=s
 H₀:=H
 env:=envOfC qual scope s.heap.objs.size f cd
 outer:=outer
 stack:=envOfC qual scope s.heap.objs.size f cd::outer
 ex:=[]
 calm:=true
 fn:=fun _=>true
 pn:=[]
 xe:=fun e s'=>wpAny (model P w) (A.deeper (envOfC qual scope s.heap.objs.size f cd)) (leaving (envOfC qual scope s.heap.objs.size f cd) e) (fun _ s''=>CX outer H s E e s'') (fun e' s''=>CX outer H s E e' s'') s'
theorem ag2 {sc:Scope}{n:Nat}{x:Str}(h:sc.names.lookup x=some .cell):∃c,(cellsFrom n sc.names []).lookup x=some c:=by
 have q:=PySem.W.cellsFrom_some sc.names n [] (.inl h);exact Option.isSome_iff_exists.mp q
theorem as2 {CX:U3}{P:Program}{w:World}{K:PySem.W.Frag}{mg:Str->Option Value}{base:Heap}{N ps:List Str}{qual:Str}{scope:Scope}{f:Addr}{cd:Value}{A:Around}{outer:List Env}{s s1:Shared}{H:Hp}{E:XK}{us:List Value}{vs:List V}
   (S:j7 N ps scope) (hd:A.handled=none) (e0:ao3 P w K mg base A outer s H) (hl:vs.length=ps.length) (r:h8 vs us)
   (x:InCallC s s.heap.objs.size (bindL (envOfC qual scope s.heap.objs.size f cd).kindOf (ps.zip us) fun _=>none) (cellsFrom (s.heap.objs.size+1) scope.names []) (bindC (envOfC qual scope s.heap.objs.size f cd).kindOf (ps.zip us) fun _=>none) s1):
   c7 (Y8 CX P w K mg base N qual scope f cd A outer s H E) [] (M8 N vs) H s1:=by
 have hpl:ps.length<=N.length:=by have:=congrArg cd7 S.pre;rw[bt6] at this;omega
 obtain ⟨h1,tk,rfl,hk⟩:=x.done
 have noA:∀b:Addr,b∉(Y8 CX P w K mg base N qual scope f cd A outer s H E).ex:=fun b z=>absurd (show b∈([]:List Addr) from z) (by simp)
 refine ⟨⟨e0.mod,S.kind,rfl,rfl,bs9 _,fun y z c h1 h2=> ?_,fun y hy=> ?_,fun y c _ h=> ?_,fun _=>hd,Around.frames_deeper e0.frames,.inr ⟨rfl,rfl⟩,fun b z=>absurd z (noA b),e0.bs,e0.bsz,fun b _ _=>noA b,fun b z=>absurd z (noA b),e0.funs,e0.frf⟩,
   rfl,e0.bare,Un.kept hk,⟨_,x.toInCall.ns,fun i y v h1 h2 h3=> ?_⟩,fun y c h=>⟨_,x.cell y c h⟩,e0.hok.fresh (bs9 _),fun y c h=> ?_,fun p hp=>absurd (show p∈([]:List (Addr×Obj)) from hp) (by simp),e0.hok.kept hk,?_⟩
 · exact name_of_addr x.apart (PySem.mem_of_lookup h1) (PySem.mem_of_lookup h2)
 · have hy:scope.names.lookup y=some .cell\/scope.names.lookup y=some .free:=hy
   rcases hy with hy|hy
   · exact ag2 hy
   · exact absurd rfl (S.nofree _ (PySem.mem_of_lookup hy))
 · exact ca2 (x.above y c (PySem.mem_of_lookup h))
 · have hi:i < vs.length:=by
     unfold M8 at h2
     by_cases hi:i < vs.length
     · exact hi
     · rw[bu0 (by simpa using hi)] at h2;rw[cc8] at h2
       split at h2<;>cases h2
   have ha:vs[i]? =some v:=by
     unfold M8 at h2;rw[bv0 (by simpa using hi),bt2] at h2
     cases e:vs[i]? with
     |none=>rw[e] at h2;cases h2
     |some a=>rw[e] at h2;cases h2;rfl
   obtain ⟨u,hu,rv⟩:=r.get ha
   have hp:ps[i]? =some y:=by
     rw[<-S.pre,bv3 (by omega)];exact h1
   have ndP:ps.Nodup:=by rw[<-S.pre];exact S.nd.sublist (List.take_sublist _ _)
   refine ⟨u,rv,?_⟩
   rcases S.par y (bs8 hp) with k|k
   · exact .inl ⟨k,ab4 ndP hp hu k⟩
   · obtain ⟨c,e⟩:=ag2 (n:=s.heap.objs.size+1) k;refine .inr ⟨.inl k,c,e,?_⟩;have q:=x.cell y c e;rw[ab5 ndP hp hu (by show scope.names.lookup y≠_;rw[k];decide)] at q;exact q
 · exact e0.hok.fresh (ca2 (x.above y c (PySem.mem_of_lookup h)))
 · unfold M8;show _=N.length;rw[bs6,bs1,bz1];omega
theorem bl9 {CX:U3}{P:Program}{w:World}{K:PySem.W.Frag}{mg:Str->Option Value}{base:Heap}{k:Nat}{f:Addr}{name qual:Str}{params:Arguments}{body:List Stmt}{scope:Scope}{dV kV doc pm cdv ct oc:Value}{an od:Option Addr}
   {osl:Array (Option Value)} {N ps:List Str} {sp:Sp} (lk:K.lookup f=some ⟨oc,od,.func (PySem.W.fnOf name qual params body scope dV kV doc pm an cdv ct),osl⟩) (hcd:PySem.W.codeIn K cdv qual=true) (S:j7 N ps scope)
   (len:∀vs H Q E,sp vs H Q E->vs.length=ps.length)
   (hbody:∀(A:Around) (outer:List Env) (s:Shared) (H:Hp) (vs:List V) (Q:VK) (E:XK),l5 k (A.deeper (envOfC qual scope s.heap.objs.size f cdv))->sp vs H Q E->
     ∃t,M6 (Y8 CX P w K mg base N qual scope f cdv A outer s H E) body t/\t {nx:=fun _ H'=>Q .non H',rt:=Q} (M8 N vs) H):
   m5 P w K mg base CX (k+1) f (PySem.W.fnOf name qual params body scope dV kV doc pm an cdv ct) ps sp:=by
 refine ⟨len,fun A outer s H args us vs Q E hr e0 hb r hsp=> ?_⟩;have hl:=len _ _ _ _ hsp
 have KX:K.In s.heap:=e0.mod.kin.keeps fun b o e=>(e0.bs b o e).1
 have lim:s.heap.NoLimit:=e0.mod.nolimit.keeps fun b o e=>(e0.bs b o e).1
 have hkind:∀y∈ps.zip us,scope.names.lookup y.1=some .local\/(scope.names.lookup y.1=some .cell/\((cellsFrom (s.heap.objs.size+1) scope.names []).lookup y.1).isSome=true):=fun ⟨n,v⟩ hy=>by
   rcases S.par n (cd3 hy).1 with q|q
   · exact .inl q
   · exact .inr ⟨q,PySem.W.cellsFrom_some _ _ _ (.inl q)⟩
 refine codeAny_call_function hr.depth (KX _ _ lk) rfl S.co S.gen rfl (PySem.W.codeRec_of KX hcd) (hb _ _ _ _ ?_)
 refine wpAny_newFunctionEnv_cells S.kind hkind fun env he s1 x=> ?_
 subst he;refine ⟨lim.keeps x.toInCall.keep,codeAny_func ?_⟩;obtain ⟨t,ht,hq⟩:=hbody A outer s H vs Q E (hr.deeper _) hsp;have I:c7 (Y8 CX P w K mg base N qual scope f cdv A outer s H E) [] (M8 N vs) H s1:=as2 S hr.hd e0 hl r x
 refine wpAny_mono (ht [] s1 (M8 N vs) H _ I hq) (fun fl s' hs=> ?_) fun e s' hs=>hs
 have fin:∀{σ':St} {H':Hp} {v:V} {u:Value},c7 (Y8 CX P w K mg base N qual scope f cdv A outer s H E) [] σ' H' s'->j4 v u->Q v H'->CE outer P w H s Q u s':=
   fun {σ' H' v u} J rv q=>⟨v,H',J.os,J.bare,J.base,J.hok,rv,q⟩
 cases fl with
 |ret u=>
  obtain ⟨v,σ',H',J,rv,q⟩:=hs;exact fin J rv q
 |next=>
  obtain ⟨σ',H',J,q⟩:=hs;exact fin (v:=V.non) (u:=Value.none) J rfl q
 |brk=>
  obtain ⟨_,_,_,q⟩:=hs;exact False.elim q
 |cont=>
  obtain ⟨_,_,_,q⟩:=hs;exact False.elim q
end L2
namespace L2
open PySem PySem.Spec PyProof.Rows
section
variable {X:Cx} {x:Str} {p pos:Pos} {e:Expr} {es:List Expr} {t:TA} {id T:String} {r:List V->Hp->VK->Prop}
def O6 (r:List V->Hp->VK->Prop)(t:TA):TE:=fun σ H Q=>t σ H fun vs H1=>r vs H1 Q
theorem K9 (hc:C4 X (.builtin id) r)(hg:Gl X x)(hm:X.mg x=none)(hv:bootBuiltins x=some (.builtin id))(ha:PA X (e::es) t)(hn:x≠"__name__":=by decide)(hdb:(x==("__debug__":Str))=false:=by decide)
   (he:starEach (e::es) X.env=(false,eval e X.env)::starEach es X.env:=by rfl) (hpl:(backTo pos (starEach es X.env)).any (·.1)=false:=by rfl):PE X (.Call (.Name x p) (e::es) [] pos) (O6 r t):=by
 intro pins s σ H Q I h;refine wpAny_Call_Name_kw (R9 I hg hm hv ?_ hn hdb);exact PyProof.Rows.callWith_builtin1 (j3 (ha pos pins s σ H _ I h) fun us s1 ⟨vs,H1,I1,r1,q1⟩=>hc pins s1 σ H1 vs us Q I1 r1 q1) he hpl
theorem J4 (hc:C4 X (.type T) r)(hg:Gl X x)(hm:X.mg x=none)(hv:bootBuiltins x=some (.type T))(ha:PA X (e::es) t)(hn:x≠"__name__":=by decide)(hdb:(x==("__debug__":Str))=false:=by decide)
   (he:starEach (e::es) X.env=(false,eval e X.env)::starEach es X.env:=by rfl) (hpl:(backTo pos (starEach es X.env)).any (·.1)=false:=by rfl):PE X (.Call (.Name x p) (e::es) [] pos) (O6 r t):=by
 intro pins s σ H Q I h;refine wpAny_Call_Name_kw (R9 I hg hm hv ?_ hn hdb);exact PyProof.Rows.callWith_type1 (j3 (ha pos pins s σ H _ I h) fun us s1 ⟨vs,H1,I1,r1,q1⟩=>hc pins s1 σ H1 vs us Q I1 r1 q1) he hpl
end
end L2
namespace HT
open PySem PyProof.Rows
def ae5:List Int->List Int->Bool
 |[],[]=>false
 |[],_::_=>true
 |_::_,[]=>false
 |x::xs,y::ys=>if x=y then ae5 xs ys else decide (x < y)
theorem bm0 (x y:Int)(xs ys:List Int):ae5 (x::xs) (y::ys)=if x=y then ae5 xs ys else decide (x < y):=rfl
theorem bd5 (y:Int)(ys:List Int):ae5 [] (y::ys)=true:=rfl
section
variable {prog:Program} {w:World} {A:Around} {E:Value->Shared->Prop} {s:Shared}
def sIx (n d:Nat):Option Int->Nat
 |none=>d
 |some v=>if v < 0 then (v+(n:Int)).toNat else min v.toNat n
theorem bp9 (n d:Nat):sIx n d none=d:=rfl
theorem br0 (n d k:Nat):sIx n d (some (k:Int))=min k n:=by
 show (if (k:Int) < 0 then ((k:Int)+(n:Int)).toNat else min (k:Int).toNat n)=min k n;rw[if_neg (by omega),bv8]
end
end HT
namespace L2
open PySem PySem.Spec PyProof.Rows
abbrev TO:=St->Hp->(Option Int->Hp->Prop)->Prop
def PO (X:Cx)(e:Option Expr)(t:TO):Prop:=
 ∀(pins:List (Addr×Obj)) (s:Shared) (σ:St) (H:Hp) (Q:Option Int->Hp->Prop),c7 X pins σ H s->t σ H Q->
  wpAny (model X.prog X.w) X.A (evalPart e X.env) (fun u s'=>∃o H',c7 X pins σ H' s'/\IsPart u o/\Q o H') X.xe s
def bd6:TO:=fun _ H Q=>Q none H
def bm1 (t:TE):TO:=fun σ H Q=>t σ H fun x H1=>∃i,x= .int i/\Q (some i) H1
theorem ao4 {ns:List Int}:∀{us:List Value},h8 (ns.map V.int) us->IntsAre us ns:=by
 induction ns with
 |nil=>intro us r;rw[cc9] at r;cases r;exact .nil
 |cons n ns ih=>
  intro us r;rw[bt9] at r
  cases r with
  |cons r1 r2=>
   obtain ⟨t,e⟩:=r1;subst e;exact .cons n t (ih r2)
section
variable {X:Cx} {e:Expr} {te:TE} {lo hi:Option Expr} {tl th:TO} {pos p2:Pos}
theorem bd7:PO X none bd6:=by
 intro pins s σ H Q I h;rw[evalPart_none];exact wpAny_pure ⟨none,H,I,.none,h⟩
theorem K5 (h:PE X e te):PO X (some e) (bm1 te):=by
 intro pins s σ H Q I hw;rw[evalPart_some]
 refine j3 (h pins s σ H _ I hw) fun u s1 ⟨x,H1,I1,r1,q1⟩=> ?_
 obtain ⟨i,rfl,q⟩:=q1;obtain ⟨t,rfl⟩:=r1;exact ⟨some i,H1,I1,.int i t,q⟩
def SlR (X:Cx)(r:V->Option Int->Option Int->Hp->VK->Prop):Prop:=
 ∀(pins:List (Addr×Obj)) (s:Shared) (σ:St) (H:Hp) (x:V) (v vl vu:Value) (lo hi:Option Int) (sl:Addr) (Q:VK),c7 X pins σ H s->j4 x v->s.heap.IsSliceOf sl vl vu .none->IsPart vl lo->IsPart vu hi->r x lo hi H Q->
  ∃T id,typeLookup (.type T) "__getitem__"=pure (some (.builtin id))/\s.TypeIs v T/\wpAny (model X.prog X.w) X.A (getItem v (.ref sl)) (EP X pins σ Q) X.xe s
def tSl (r:V->Option Int->Option Int->Hp->VK->Prop)(te:TE)(tl th:TO):TE:=fun σ H Q=>te σ H fun x H1=>tl σ H1 fun l H2=>th σ H2 fun u H3=>r x l u H3 Q
theorem ag3 {r:V->Option Int->Option Int->Hp->VK->Prop}(hr:SlR X r)(he:PE X e te)(hl:PO X lo tl)(hu:PO X hi th):PE X (.Subscript e (.Slice lo hi none p2) pos) (tSl r te tl th):=by
 intro pins s σ H Q I h;refine Subscript_ (j3 (he pins s σ H _ I h) fun v s1 ⟨x,H1,I1,r1,q1⟩=> ?_);refine wpAny_Slice (j3 (hl pins s1 σ H1 _ I1 q1) fun vl s2 ⟨l,H2,I2,pl,q2⟩=>j3 (hu pins s2 σ H2 _ I2 q2) fun vu s3 ⟨u,H3,I3,pu,q3⟩=> ?_);rw[evalPart_none];refine wpAny_pure ?_
 have I4:c7 X pins σ H3 {s3 with heap:=s3.heap.push {cls:= .type "slice",data:= .fields #[vl,vu,.none]}}:=I3.kept (t':=s3.toks) fun b ob q=>Heap.get?_push_of_some _ q
 obtain ⟨T,id,hT,ht,hg⟩:=hr pins {s3 with heap:=s3.heap.push {cls:= .type "slice",data:= .fields #[vl,vu,.none]}} σ H3 x v vl vu l u s3.heap.objs.size Q I4 r1 (Heap.IsSliceOf.new ..) pl pu q3;show wpAny (model X.prog X.w) X.A (subscriptTail e (.Slice lo hi none p2) v (.ref s3.heap.objs.size)) (EP X pins σ Q) X.xe {s3 with heap:=s3.heap.push {cls:= .type "slice",data:= .fields #[vl,vu,.none]}};exact tail_any (ops:=[.ref s3.heap.objs.size,v]) ht hT hg (by with_unfolding_all rfl)
def Y9 (xs:List V)(lo hi:Option Int):List V:=(xs.drop (HT.sIx xs.length 0 lo)).take (HT.sIx xs.length xs.length hi - HT.sIx xs.length 0 lo)
theorem ak6 (xs:List V)(lo hi:Option Int):(Y9 xs lo hi).length<=xs.length:=by
 unfold Y9;rw[bt6,bv2];omega
end
end L2
namespace L2
open PySem PySem.Spec PyProof.Rows
def G6 (n:Nat)(i:Int):Option Nat:=if 0<=i then (if i < n then some i.toNat else none) else if -(n:Int)<=i then some (i+n).toNat else none
def M9 {α:Type}(xs:List α)(i:Int):Option α:=(G6 xs.length i).bind fun j=>xs[j]?
theorem Z0 {n:Nat}{i:Int}{j:Nat}(h:G6 n i=some j):seqIndex? i n=some j/\j < n/\ -(n:Int)<=i/\i < n:=by
 unfold G6 at h
 by_cases h0:0<=i
 · rw[if_pos h0] at h
   by_cases h1:i < n
   · rw[if_pos h1] at h;have e:i.toNat=j:=Option.some.inj h;exact ⟨by rw[seqIndex_of h0 h1,e],by omega,by omega,h1⟩
   · rw[if_neg h1] at h;cases h
 · rw[if_neg h0] at h
   by_cases h1: -(n:Int)<=i
   · rw[if_pos h1] at h;have e:(i+n).toNat=j:=Option.some.inj h;exact ⟨by rw[seqIndex_neg (by omega) h1,e],by omega,h1,by omega⟩
   · rw[if_neg h1] at h;cases h
theorem bd8 {α:Type}{xs:List α}{i:Int}{v:α}(h:M9 xs i=some v):∃j,seqIndex? i xs.length=some j/\xs[j]? =some v/\j < xs.length/\ -(xs.length:Int)<=i/\i < xs.length:=by
 unfold M9 at h
 cases e:G6 xs.length i with
 |none=>rw[e] at h;cases h
 |some j=>
  rw[e] at h;obtain ⟨h1,h2,h3,h4⟩:=Z0 e;exact ⟨j,h1,h,h2,h3,h4⟩
theorem o9 {α:Type}{xs:List α}{j:Nat}{v:α}(h:xs[j]? =some v):M9 xs (j:Int)=some v:=by
 have hj:j < xs.length:=(bs3.mp h).1
 have e:G6 xs.length (j:Int)=some j:=by
   unfold G6;rw[if_pos (by omega),if_pos (by omega)];simp
 unfold M9;rw[e];exact h
def be0 (b:Expr):Prop:=∀o i,subscripted b false o i=operate [o,i] (getItem o i)
def IxR (X:Cx)(r:R2):Prop:=
 ∀(value slice:Expr) (pins:List (Addr×Obj)) (s:Shared) (σ:St) (H:Hp) (x y:V) (v u:Value) (Q:VK),c7 X pins σ H s->j4 x v->j4 y u->r x y H Q->
  subscripted slice false v u=operate [v,u] (getItem v u)->wpAny (model X.prog X.w) X.A (subscriptTail value slice v u) (EP X pins σ Q) X.xe s
def MtR (X:Cx)(id:String)(r:V->List V->Hp->VK->Prop):Prop:=
 ∀(pins:List (Addr×Obj)) (s:Shared) (σ:St) (H:Hp) (x:V) (xs:List V) (v:Value) (us:List Value) (Q:VK),c7 X pins σ H s->j4 x v->h8 xs us->r x xs H Q->
  wpAny (model X.prog X.w) X.A (call (.builtin id) (v::us)) (EP X pins σ Q) X.xe s
section
variable {X:Cx} {a b:Expr} {ta tb:TE} {pos:Pos}
theorem A3 {r:R2}(hr:IxR X r)(ha:PE X a ta)(hb:PE X b tb)(hs:be0 b):PE X (.Subscript a b pos) (tOp r ta tb):=by
 intro pins s σ H Q I h;exact Subscript_ (ax5 ha hb I h fun v u s2 x y H2 I2 rx ry q=>hr a b pins s2 σ H2 x y v u Q I2 rx ry q (hs _ _))
def bq0 (K:PySem.W.Frag):R2:=fun x y H Q=>∃p xs i v,x= .ref p/\y= .int i/\g8 K H p xs/\M9 xs i=some v/\Q v H
theorem o6:IxR X (bq0 X.K):=by
 intro value slice pins s σ H x y v u Q I rx ry h hs;obtain ⟨p,xs,i,z,rfl,rfl,hq,he,q⟩:=h;cases rx;obtain ⟨t,rfl⟩:=ry;obtain ⟨its,r,pl,hz⟩:=I.list hq;obtain ⟨j,h1,h2,h3,h4,h5⟩:=bd8 he;obtain ⟨w,ew,rw'⟩:=r.get h2;have hl:=r.length;have hn:=af9;have fin:EP X pins σ Q w s:=⟨z,H,I,rw',q⟩
 by_cases h0:0<=i
 · have hj:i.toNat=j:=by
     rw[seqIndex_of h0 h5] at h1;exact Option.some.inj h1
   exact item_listR pl.isList h0 (by omega) (by rw[hj];simpa using ew) fin hs
 · have hj:(i+(its.toArray.size:Int)).toNat=j:=by
     rw[seqIndex_neg (by omega) h4] at h1;rw[bs5,<-hl];exact Option.some.inj h1
   exact subscriptTail_builtinR (x:=w) pl.isList.typeIs slot_list_getitem.lookup
     (wpAny_getItem_list_neg (Q:=fun r s'=>r=w/\EP X pins σ Q r s') pl.isList (by omega) (by rw[bs5]<;>omega) (by omega) (by rw[hj];simpa using ew) ⟨rfl,fin⟩) hs
theorem ao5 (its:List Value)(n j:Nat)(u:Value):Obj.mapSeq (·.setIfInBounds j u) {cls:= .type "list",data:= .seq its.toArray n}={cls:= .type "list",data:= .seq (its.set j u).toArray n}:=by
 simp [Obj.mapSeq]
theorem c7.lst {pins:List (Addr×Obj)}{σ:St}{H:Hp}{s:Shared}{p:Addr}{xs:List V}(I:c7 X pins σ H s)(h:H p=some (.lst xs)):
   ∃(its:List Value) (n:Nat),h8 xs its/\s.heap.get? p=some {cls:= .type "list",data:= .seq its.toArray n}/\xs.length<=sizeLine:=by
 obtain ⟨z,its,n,r,e⟩:=I.hok p _ h;exact ⟨its,n,r,e,z⟩
theorem c7.lstUpd {pins:List (Addr×Obj)}{σ:St}{H:Hp}{s:Shared}{p:Addr}{xs ys:List V}{its its':List Value}{n n':Nat}{f:Obj->Obj}(I:c7 X pins σ H s)(h:H p=some (.lst xs))
   (ho:s.heap.get? p=some {cls:= .type "list",data:= .seq its.toArray n}) (hf:f {cls:= .type "list",data:= .seq its.toArray n}={cls:= .type "list",data:= .seq its'.toArray n'}) (r:h8 ys its') (hz:ys.length<=sizeLine) (t:Nat):
   c7 X pins σ (g9 H p (.lst ys)) {s with heap:=s.heap.update p f,toks:=t}:=by
 have e:(s.heap.update p f).get? p=some {cls:= .type "list",data:= .seq its'.toArray n'}:=by
   rw[Heap.get?_update_self f ho (by rw[hf]<;>rfl),hf]
 refine I.write (x:=p) (e:=p) (by rw[h];trivial) (.inl rfl) (fun b u hb q=>(Heap.get?_update_other _ _ (Ne.symm hb)).trans q) ⟨_,e⟩ ?_;exact ⟨hz,its',n',r,e⟩
def bm2:V->V->V->Hp->(Hp->Prop)->Prop:=fun o i v H Q=>∃p xs k j,o= .ref p/\i= .int k/\H p=some (.lst xs)/\G6 xs.length k=some j/\Q (g9 H p (.lst (xs.set j v)))
theorem G9:bh2 X bm2:=by
 intro pins s σ H o i v ov iv u Q I ro ri rv h;obtain ⟨p,xs,k,j,rfl,rfl,hp,hj,q⟩:=h;cases ro;obtain ⟨t,rfl⟩:=ri;obtain ⟨its,n,r,ho,hz⟩:=I.lst hp;obtain ⟨h1,h2,h3,h4⟩:=Z0 hj;have hl:=r.length;have hn:=af9
 have I':c7 X pins σ (g9 H p (.lst (xs.set j v))) {s with heap:=s.heap.update p (Obj.mapSeq (·.setIfInBounds j u))}:=
   I.lstUpd hp ho (ao5 its n j u) (r.set rv j) (by rw[bx0];exact hz) s.toks
 by_cases h0:0<=k
 · have hk:k.toNat=j:=by
     rw[seqIndex_of h0 h4] at h1;exact Option.some.inj h1
   exact PySem.W.ki_setAt ho h0 (by omega) (by rw[bs5,<-hl];exact h4) (by rw[hk];exact ⟨_,I',q⟩)
 · have hk:(k+(its.toArray.size:Int)).toNat=j:=by
     rw[seqIndex_neg (by omega) h3] at h1;rw[bs5,<-hl];exact Option.some.inj h1
   exact PySem.W.ki_setBack ho (by omega) (by rw[bs5,<-hl];exact h3) (by omega) (by rw[hk];exact ⟨_,I',q⟩)
theorem ag4 (lo hi:Option Int)(n:Nat):(sliceBounds lo hi none n).1=((HT.sIx n 0 lo:Nat):Int)/\(sliceBounds lo hi none n).2.1=((HT.sIx n n hi:Nat):Int)/\(sliceBounds lo hi none n).2.2=1:=by
 refine ⟨?_,?_,rfl⟩
 · cases lo with
   |none=>simp [sliceBounds,HT.sIx]
   |some i=>
    simp only[sliceBounds,HT.sIx,Option.getD_none,show (1:Int) > 0 by decide,if_true]
    by_cases h:i < 0
    · simp only[h,if_true]<;>omega
    · simp only[h,if_false]<;>omega
 · cases hi with
   |none=>simp [sliceBounds,HT.sIx]
   |some i=>
    simp only[sliceBounds,HT.sIx,Option.getD_none,show (1:Int) > 0 by decide,if_true]
    by_cases h:i < 0
    · simp only[h,if_true]<;>omega
    · simp only[h,if_false]<;>omega
theorem ad3 (its:List Value)(lo hi:Option Int):slicePick its.toArray lo hi none=((its.drop (HT.sIx its.length 0 lo)).take (HT.sIx its.length its.length hi - HT.sIx its.length 0 lo)).toArray:=by
 obtain ⟨h1,h2,h3⟩:=ag4 lo hi its.toArray.size;unfold slicePick;rw[h1,h2,h3]
 simp only[sliceRange_one,pick_run,bs5]<;>rfl
def bq1 (K:PySem.W.Frag):V->Option Int->Option Int->Hp->VK->Prop:=fun x lo hi H Q=>∃a xs,x= .ref a/\g8 K H a xs/\∀p,H p=none->Q (.ref p) (g9 H p (.lst (Y9 xs lo hi)))
theorem be1:SlR X (bq1 X.K):=by
 intro pins s σ H x v vl vu lo hi sl Q I rx hs pl pu h;obtain ⟨a,xs,rfl,hx,q⟩:=h;cases rx;obtain ⟨its,r,ht,hz⟩:=I.list hx;have hlen:=r.length;refine ⟨"list",_,slot_list_getitem.lookup,ht.isList.typeIs,?_⟩;refine wpAny_getItem_list_slice ht.isList hs pl pu .none (by simp) ?_ (by rw[bs5]<;>omega);rw[ad3,<-hlen];refine ⟨.ref s.heap.objs.size,_,I.laid (t':=s.toks) (o:= .lst (Y9 xs lo hi)) (fun b ob q=>Heap.get?_push_of_some _ q) (bs9 _) ?_,rfl,q _ (I.hok.fresh (bs9 _))⟩;exact ⟨bw3 (ak6 xs lo hi) hz,_,0,(r.drop (HT.sIx xs.length 0 lo)).take (HT.sIx xs.length xs.length hi - HT.sIx xs.length 0 lo),Heap.get?_push_size _ rfl⟩
def ae6:V->Bool
 | .non=>true
 | .bl _=>true
 | .int _=>true
 | .str _=>true
 |_=>false
def eqV:V->V->Bool
 | .non,.non=>true
 | .bl a,.bl b=>a==b
 | .bl a,.int b=>(if a then 1 else 0)==b
 | .int a,.bl b=>a==(if b then 1 else 0)
 | .int a,.int b=>a==b
 | .str a,.str b=>a==b
 |_,_=>false
theorem bi5 {A:Around}{s:Shared}{y x:V}{u v:Value}(ry:j4 y u)(rx:j4 x v)(fy:ae6 y=true)(fx:ae6 x=true):SeqAt.EqAt A s u v (eqV y x):=by
 cases y with
 |non=>
  cases ry
  cases x with
  |non=>cases rx;exact SeqAt.EqAt.same _
  |bl b=>cases rx;exact SeqAt.EqAt.none_bool b
  |int b=>obtain ⟨t,rfl⟩:=rx;exact SeqAt.EqAt.none_int b t
  |str b=>obtain ⟨t,rfl⟩:=rx;exact SeqAt.EqAt.none_str b t
  |_=>exact absurd (show false=true from fx) bt0
 |bl a=>
  cases ry
  cases x with
  |non=>cases rx;exact SeqAt.EqAt.bool_none a
  |bl b=>cases rx;exact SeqAt.EqAt.bool_bool a b
  |int b=>obtain ⟨t,rfl⟩:=rx;exact SeqAt.EqAt.bool_int a b t
  |str b=>obtain ⟨t,rfl⟩:=rx;exact SeqAt.EqAt.bool_str a b t
  |_=>exact absurd (show false=true from fx) bt0
 |int a=>
  obtain ⟨t',rfl⟩:=ry
  cases x with
  |non=>cases rx;exact SeqAt.EqAt.int_none a t'
  |bl b=>cases rx;exact SeqAt.EqAt.int_bool a t' b
  |int b=>obtain ⟨t,rfl⟩:=rx;exact SeqAt.EqAt.int_int a t' b t
  |str b=>obtain ⟨t,rfl⟩:=rx;exact SeqAt.EqAt.int_str a t' b t
  |_=>exact absurd (show false=true from fx) bt0
 |str a=>
  obtain ⟨t',rfl⟩:=ry
  cases x with
  |non=>cases rx;exact SeqAt.EqAt.str_none a t'
  |bl b=>cases rx;exact SeqAt.EqAt.str_bool a t' b
  |int b=>obtain ⟨t,rfl⟩:=rx;exact SeqAt.EqAt.str_int a t' b t
  |str b=>obtain ⟨t,rfl⟩:=rx;exact SeqAt.EqAt.str_str a t' b t
  |_=>exact absurd (show false=true from fx) bt0
 |_=>exact absurd (show false=true from fy) bt0
theorem ag5:C4 X (.builtin "len") (fun xs H Q=>∃p ys,xs=[.ref p]/\(g8 X.K H p ys\/E7 X.K H p ys)/\Q (.int ys.length) H):=by
 intro pins s σ H xs us Q I r h;obtain ⟨p,ys,rfl,hq,q⟩:=h;obtain ⟨u,rfl,rx⟩:=M7 r;cases rx;have hn:=af9
 rcases hq with hq|hq
 · obtain ⟨its,r',pl,hz⟩:=I.list hq;have hlen:=r'.length;exact Calls.call_len_list pl.isList (by simp only[bs5]<;>omega) ⟨.int ys.length,H,I.tok _,⟨s.toks+1,by rw[bs5,hlen]⟩,q⟩
 · obtain ⟨its,r',pl,hz⟩:=I.tuple hq;have hlen:=r'.length;exact len_tuple pl (by simp only[bs5]<;>omega) ⟨.int ys.length,H,I.tok _,⟨s.toks+1,by rw[bs5,hlen]⟩,q⟩
theorem ag6:C4 X (.type "list") (fun xs H Q=>∃p ys,xs=[.ref p]/\(g8 X.K H p ys\/E7 X.K H p ys)/\∀l,H l=none->Q (.ref l) (g9 H l (.lst ys))):=by
 intro pins s σ H xs us Q I r h;obtain ⟨p,ys,rfl,hq,q⟩:=h;obtain ⟨u,rfl,rx⟩:=M7 r;cases rx
 have fin:∀(its:List Value),h8 ys its->ys.length<=sizeLine->∀(h':Heap) (c':Nat),(∀b o',s.heap.get? b=some o'->h'.get? b=some o')->
     h'.get? s.heap.objs.size=some {cls:= .type "list",dict:=none,data:= .seq its.toArray c',slots:= #[]}->EP X pins σ Q (.ref s.heap.objs.size) {s with heap:=h'}:=fun its r' hz h' c' kp e=>
   ⟨.ref s.heap.objs.size,_,I.laid (t':=s.toks) kp (bs9 _) (show n6 X.prog X.w _ h' _ (.lst ys) from ⟨hz,its,c',r',e⟩),rfl,q _ (I.hok.fresh (bs9 _))⟩
 rcases hq with hq|hq
 · obtain ⟨its,r',pl,hz⟩:=I.list hq;have hlen:=r'.length;obtain ⟨o,ho,hc,n,hd⟩:=pl.isList;exact call_list_seq p (.inl rfl) ho hc hd (fun h' c' kp e=>fin its r' hz h' c' kp e) (by simp only[bs5]<;>omega)
 · obtain ⟨its,r',pl,hz⟩:=I.tuple hq;have hlen:=r'.length;obtain ⟨o,ho,hc,n,hd⟩:=pl;exact call_list_seq p (.inr rfl) ho hc hd (fun h' c' kp e=>fin its r' hz h' c' kp e) (by simp only[bs5]<;>omega)
def tyV (K:PySem.W.Frag)(T:String)(x:V)(H:Hp):Prop:=match x with
 | .str _=>T="str"
 | .int _=>T="int"
 | .ref p=>(T="list"/\∃xs,g8 K H p xs)\/(T="tuple"/\∃o,K.lookup p=some o/\o.cls= .type "tuple"/\o.dict=none)\/
     (T="dict"/\((∃kvs,H p=some (.dK kvs))\/∃kvs,H p=some (.dT kvs)))\/(T="set"/\∃S n,H p=some (.set S n))
 |_=>False
theorem as3 {pins:List (Addr×Obj)}{σ:St}{H:Hp}{s:Shared}{T:String}{x:V}{v:Value}(I:c7 X pins σ H s)(r:j4 x v)(ty:tyV X.K T x H):
   s.TypeIs v T/\∀a,v= .ref a->∃ob,s.heap.get? a=some ob/\ob.dict=none:=by
 cases x with
 |str z=>
  obtain ⟨t,rfl⟩:=r;cases (show T="str" from ty);exact ⟨typeIs_str s z t,fun _ e=>nomatch e⟩
 |int i=>
  obtain ⟨t,rfl⟩:=r;cases (show T="int" from ty);exact ⟨typeIs_int s i t,fun _ e=>nomatch e⟩
 |ref p=>
  cases r
  rcases ty with ⟨rfl,xs,hq⟩|⟨rfl,o,hk,hc,hd⟩|⟨rfl,hk⟩|⟨rfl,S,n,hk⟩
  · obtain ⟨its,_,pl,_⟩:=I.list hq;refine ⟨pl.isList.typeIs,fun a e=> ?_⟩;cases e;obtain ⟨o,n,e,c,hd,_⟩:=pl;exact ⟨o,e,hd⟩
  · refine ⟨⟨o,I.kIn p o hk,hc⟩,fun a e=> ?_⟩;cases e;exact ⟨o,I.kIn _ o hk,hd⟩
  · have z:∃o,s.heap.get? p=some o/\o.ExactDict:=by
      rcases hk with ⟨kvs,hk⟩|⟨kvs,hk⟩
      · obtain ⟨_,_,_,_,o,_,_,e,ex,_⟩:=I.hok p _ hk;exact ⟨o,e,ex⟩
      · obtain ⟨_,_,_,_,o,_,_,e,ex,_⟩:=I.hok p _ hk;exact ⟨o,e,ex⟩
    obtain ⟨o,e,ex⟩:=z;refine ⟨⟨o,e,ex.1⟩,fun a e2=> ?_⟩;cases e2;exact ⟨o,e,ex.2.1⟩
  · obtain ⟨o,_,_,_,e,ex,_⟩:=I.hok p _ hk;refine ⟨⟨o,e,ex.1⟩,fun a e2=> ?_⟩;cases e2;exact ⟨o,e,ex.2.1⟩
 |_=>exact False.elim ty
def bi7 (K:PySem.W.Frag)(T:String)(r:V->List V->Hp->VK->Prop)(to:TE):TE:=fun σ H Q=>to σ H fun x H1=>tyV K T x H1/\r x [] H1 Q
def tBM (K:PySem.W.Frag)(T:String)(r:V->List V->Hp->VK->Prop)(to:TE)(t:TA):TE:=fun σ H Q=>to σ H fun x H1=>tyV K T x H1/\t σ H1 fun xs H2=>r x xs H2 Q
variable {o e:Expr} {es:List Expr} {to:TE} {t:TA} {name:Str} {apos cpos:Pos} {T id:String} {r:V->List V->Hp->VK->Prop}
theorem bi8 (pa:PlainAttrs T)(slot:Slot T name id)(hty:typeOf (.builtin id)=pure (.type "method_descriptor"))(hm:MtR X id r)(ho:PE X o to)
   (hbase:attributeBase o name X.env (eval o X.env)=eval o X.env:=by rfl) (hline:(apos.endLine==cpos.line)=true:=by rfl):PE X (.Call (.Attribute o name apos) [] [] cpos) (bi7 X.K T r to):=by
 intro pins s σ H Q I h;refine wpAny_Call_method0_late hbase hline (j3 (ho pins s σ H _ I h) fun v s1 ⟨x,H1,I1,r1,ty,q1⟩=> ?_);obtain ⟨h1,h2⟩:=as3 I1 r1 ty;exact ⟨T,id,pa,slot,hty,h1,h2,Calls.callWith_builtin rfl (PySem.evalArgs_none (hm pins s1 σ H1 x [] v [] Q I1 r1 .nil q1))⟩
theorem X0 (pa:PlainAttrs T)(slot:Slot T name id)(hty:typeOf (.builtin id)=pure (.type "method_descriptor"))(hm:MtR X id r)(ho:PE X o to)(ha:PA X (e::es) t)
   (hbase:attributeBase o name X.env (eval o X.env)=eval o X.env:=by rfl)
   (hfew:((backTo cpos (starEach (e::es) X.env)).all (fun x=> !x.1)&&(backToKw cpos (keywordEach [] X.env)).all (fun x=>x.1.isSome)
     &&decide ((e::es).length+([]:List Keyword).length+(if ([]:List Keyword).isEmpty then 0 else 1) < 30))=true:=by rfl)
   (hline:(apos.endLine==cpos.line)=true:=by rfl) (hs:starEach (e::es) X.env=(false,eval e X.env)::starEach es X.env:=by rfl) (hplain:(backTo cpos (starEach es X.env)).any (·.1)=false:=by rfl):
   PE X (.Call (.Attribute o name apos) (e::es) [] cpos) (tBM X.K T r to t):=by
 intro pins s σ H Q I h;refine wpAny_Call_method_late hbase hfew hline rfl (j3 (ho pins s σ H _ I h) fun v s1 ⟨x,H1,I1,r1,ty,q1⟩=> ?_);obtain ⟨h1,h2⟩:=as3 I1 r1 ty;refine ⟨T,id,pa,slot,hty,h1,h2,?_⟩;have hA:=ha cpos pins s1 σ H1 _ I1 q1;rw[hs] at hA ⊢;refine Calls.callWith_builtin (by show (false||(backTo cpos (starEach es X.env)).any (·.1))=false;rw[hplain]<;>rfl) (Calls.evalArgs_plain ?_)
 exact j3 hA fun us s2 ⟨vs,H2,I2,r2,q2⟩=>hm pins s2 σ H2 x vs v us Q I2 r1 r2 q2
end
end L2
namespace L2
open PySem PySem.Spec PyProof.Rows
def MtM (X:Cx)(id:String)(r:V->List V->Hp->VK->Prop):Prop:=
 ∀(pins:List (Addr×Obj)) (s:Shared) (σ:St) (H:Hp) (x:V) (xs:List V) (v:Value) (us:List Value) (Q:VK),c7 X pins σ H s->j4 x v->h8 xs us->r x xs H Q->
  wpAny (model X.prog X.w) X.A (call (.builtin id) (v::us)) (EP X pins σ Q) X.xe s
theorem h8.one:∀{x:V} {us:List Value},h8 [x] us->∃u,us=[u]/\j4 x u
 |_,_,.cons r .nil=>⟨_,rfl,r⟩
theorem h8.zero:∀{us:List Value},h8 [] us->us=[]
 |_,.nil=>rfl
theorem h8.dropLast {xs:List V}{us:List Value}(h:h8 xs us):h8 xs.dropLast us.dropLast:=by
 induction h with
 |nil=>exact .nil
 |cons r t ih=>
  cases t with
  |nil=>exact .nil
  |cons q t'=>exact .cons r ih
theorem h8.eraseIdx:∀{xs:List V} {us:List Value} (i:Nat),h8 xs us->h8 (xs.eraseIdx i) (us.eraseIdx i)
 |_,_,_,.nil=> .nil
 |_,_,0,.cons _ t=>t
 |_,_,i+1,.cons r t=> .cons r (h8.eraseIdx i t)
theorem h8.reverse {xs:List V}{us:List Value}(h:h8 xs us):h8 xs.reverse us.reverse:=by
 induction h with
 |nil=>exact .nil
 |cons r t ih=>rw[List.reverse_cons,List.reverse_cons];exact h8.append ih (.cons r .nil)
theorem h8.rep {xs:List V}{us:List Value}(h:h8 xs us):∀k:Nat,h8 (bu2 k xs).flatten (bu2 k us).flatten
 |0=> .nil
 |k+1=>by
  rw[by5,by5,bu3,bu3];exact h8.append h (h8.rep h k)
theorem ao6 {α:Type}(l:List α):l.eraseIdx (l.length - 1)=l.dropLast:=by
 induction l with
 |nil=>rfl
 |cons a r ih=>
  cases r with
  |nil=>rfl
  |cons b r=>
   have e:(a::b::r).length - 1=((b::r).length - 1)+1:=by
     have h1:(a::b::r).length=r.length+2:=rfl;have h2:(b::r).length=r.length+1:=rfl;omega
   rw[e,List.eraseIdx_cons_succ,ih]
   all_goals rfl
theorem ab6 {α:Type}:∀(l:List α) (i:Nat),(l.eraseIdx i).length<=l.length
 |[],_=>bs9 _
 |_::_,0=>Nat.le_succ _
 |_::r,i+1=>Nat.succ_le_succ (ab6 r i)
theorem ab7 (its:List Value):∀(k:Nat) (acc:List Value),
   List.foldl (fun x1 x2=>x1++x2) acc.toArray (bu2 k its.toArray)=(acc++(bu2 k its).flatten).toArray
 |0,acc=>by simp
 |k+1,acc=>by
  have e:acc.toArray++its.toArray=(acc++its).toArray:=by simp
  have e2:(acc++its)++(bu2 k its).flatten=acc++(bu2 (k+1) its).flatten:=by
    rw[by5,bu3,bt4]
  rw[<-e2,<-ab7 its k (acc++its),<-e,by5,List.foldl_cons]
section
variable {X:Cx} {pins:List (Addr×Obj)} {σ:St} {H:Hp} {s:Shared} {l b:Addr} {xs ys zs:List V}
theorem c7.lset {its its':List Value}{n:Nat}{f:Array Value->Array Value}{t':Nat}(I:c7 X pins σ H s)(hH:H l=some (.lst xs))
   (e:s.heap.get? l=some {cls:= .type "list",data:= .seq its.toArray n}) (hf:f its.toArray=its'.toArray) (hv:h8 ys its') (hz:ys.length<=sizeLine):
   c7 X pins σ (g9 H l (.lst ys)) {s with heap:=s.heap.update l (Obj.mapSeq f),toks:=t'}:=by
 have q:=PySem.IsL.update e f;rw[hf] at q;refine I.write (x:=l) (e:=l) (by rw[hH];exact trivial) (.inl rfl) (fun b' u hb hu=>(Heap.get?_update_other s.heap (Obj.mapSeq f) (Ne.symm hb)).trans hu) ⟨_,q⟩ ?_;exact ⟨hz,its',_,hv,q⟩
theorem c7.lnew {its:List Value}{t':Nat}(I:c7 X pins σ H s)(hv:h8 ys its)(hz:ys.length<=sizeLine):
   c7 X pins σ (g9 H s.heap.objs.size (.lst ys)) {s with heap:=s.heap.push {cls:= .type "list",data:= .seq its.toArray},toks:=t'}:=
 I.laid (fun _ _ q=>Heap.get?_push_of_some _ q) (bs9 _) ⟨hz,its,0,hv,Heap.get?_push_size _ rfl⟩
theorem c7.fresh (I:c7 X pins σ H s):H s.heap.objs.size=none:=I.hok.fresh (bs9 _)
theorem c7.lstM (I:c7 X pins σ H s)(hH:H l=some (.lst xs)):xs.length<=sizeLine/\∃(its:List Value) (n:Nat),h8 xs its/\xs.length=its.length/\s.heap.get? l=some {cls:= .type "list",data:= .seq its.toArray n}:=by
 obtain ⟨z,its,n,r,e⟩:=I.hok l _ hH;exact ⟨z,its,n,r,r.length,e⟩
theorem ag7 {n:Nat}(h:n<=sizeLine):Builtin.List.listTooLong n=false:=by
 unfold Builtin.List.listTooLong;exact decide_eq_false (by omega)
end
section
variable {X:Cx}
def am5:V->List V->Hp->VK->Prop:=fun x vs H Q=>∃l xs y,x= .ref l/\vs=[y]/\H l=some (.lst xs)/\xs.length < sizeLine/\Q .non (g9 H l (.lst (xs++[y])))
theorem as4:MtM X "list.append" am5:=by
 intro pins s σ H x vs v us Q I rx rv h;obtain ⟨l,xs,y,rfl,rfl,hH,hz,q⟩:=h;cases rx;obtain ⟨u,rfl,ru⟩:=rv.one;obtain ⟨z,its,n,r,hl,e⟩:=I.lstM hH;refine call_meets F.slot_list_append ⟨_,e,rfl⟩ F.entry_list_append (F.args_list_append_2 _ _) (PySem.list_append l its.toArray n u (by rw[bs5];omega)) ⟨e,?_⟩;refine ⟨.non,_,I.lset (its':=its++[u]) hH e (by simp) (r.append (.cons ru .nil)) ?_,rfl,q⟩;rw[bs6,List.length_singleton];omega
def am6:V->List V->Hp->VK->Prop:=fun x vs H Q=>∃l b xs zs,x= .ref l/\vs=[.ref b]/\H l=some (.lst xs)/\H b=some (.lst zs)/\xs.length+zs.length<=sizeLine/\Q .non (g9 H l (.lst (xs++zs)))
theorem as5:MtM X "list.extend" am6:=by
 intro pins s σ H x vs v us Q I rx rv h;obtain ⟨l,b,xs,zs,rfl,rfl,hH,hB,hz,q⟩:=h;cases rx;obtain ⟨u,rfl,ru⟩:=rv.one;cases ru;obtain ⟨z,its,n,r,hl,e⟩:=I.lstM hH;obtain ⟨z2,its2,n2,r2,hl2,e2⟩:=I.lstM hB
 have hsz:its.toArray.size+its2.toArray.size<=sizeLine:=by rw[bs5,bs5];omega
 have hlong:¬(!its.toArray.isEmpty&&Builtin.List.listTooLong (its.toArray.size+its2.toArray.size))=true:=by
   rw[ag7 hsz,Bool.and_false];exact bt0
 refine call_meets F.slot_list_extend ⟨_,e,rfl⟩ F.entry_list_extend (F.args_list_extend_2 _ _)
   (AutoSeq1.list_extend_list_list_0 l its.toArray n b its2.toArray n2 hlong (by rw[bs5];omega) (by omega)) ⟨e,e2,?_⟩
 refine ⟨.non,_,I.lset (its':=its++its2) hH e (by simp) (r.append r2) ?_,rfl,q⟩;rw[bs6];omega
def bi9:V->List V->Hp->VK->Prop:=fun x vs H Q=>∃l xs y,x= .ref l/\vs=[]/\H l=some (.lst xs)/\xs[xs.length - 1]? =some y/\Q y (g9 H l (.lst xs.dropLast))
theorem bj0:MtM X "list.pop" bi9:=by
 intro pins s σ H x vs v us Q I rx rv h;obtain ⟨l,xs,y,rfl,rfl,hH,hy,q⟩:=h;cases rx;have hus:=rv.zero;subst hus;obtain ⟨z,its,n,r,hl,e⟩:=I.lstM hH;obtain ⟨u,hu,ru⟩:=r.get hy
 have hy':its.toArray[its.toArray.size - 1]? =some u:=by
   show its.toArray[its.length - 1]? =some u;rw[<-Array.getElem?_toList,<-hl];exact hu
 refine call_meets F.slot_list_pop ⟨_,e,rfl⟩ F.entry_list_pop (F.args_list_pop_1 _) (MeetsSeq.list_pop_last l its.toArray n u hy' (by rw[bs5];omega)) ⟨e,?_⟩;refine ⟨y,_,I.lset (its':=its.dropLast) hH e ?_ r.dropLast ?_,ru,q⟩
 · show its.toArray.eraseIdxIfInBounds (its.toArray.size - 1)=its.dropLast.toArray;rw[bs5,ca8,ao6]
 · rw[List.length_dropLast];omega
def as6:V->List V->Hp->VK->Prop:=fun x vs H Q=>∃l xs i k y,x= .ref l/\vs=[.int i]/\H l=some (.lst xs)/\ -(2^63)<=i/\i < 2^63/\seqIndex? i xs.length=some k/\xs[k]? =some y/\Q y (g9 H l (.lst (xs.eraseIdx k)))
theorem ax9:MtM X "list.pop" as6:=by
 intro pins s σ H x vs v us Q I rx rv h;obtain ⟨l,xs,i,k,y,rfl,rfl,hH,h1,h2,hk,hy,q⟩:=h;cases rx;obtain ⟨u,rfl,ru⟩:=rv.one;obtain ⟨t,rfl⟩:=ru;obtain ⟨z,its,n,r,hl,e⟩:=I.lstM hH;obtain ⟨w,hw,rw'⟩:=r.get hy
 refine call_meets F.slot_list_pop ⟨_,e,rfl⟩ F.entry_list_pop (F.args_list_pop_2 _ _)
   (MeetsSeq.list_pop_at l its.toArray n i t k w (fitsIndex_both h1 h2) (by rw[bs5,<-hl];exact hk) (by rw[<-Array.getElem?_toList];exact hw) (by rw[bs5];omega)) ⟨e,?_⟩
 refine ⟨y,_,I.lset (its':=its.eraseIdx k) hH e ?_ (r.eraseIdx k) ?_,rw',q⟩
 · show its.toArray.eraseIdxIfInBounds k=(its.eraseIdx k).toArray;rw[ca8]
 · have:=ab6 xs k;omega
def bq2:R2:=fun x y H Q=>∃l b xs zs,x= .ref l/\y= .ref b/\H l=some (.lst xs)/\H b=some (.lst zs)/\xs.length+zs.length<=sizeLine/\∀p,H p=none->Q (.ref p) (g9 H p (.lst (xs++zs)))
theorem bj1:C0 X (binaryOp .Add) bq2:=by
 intro pins s σ H x y v u Q I rx ry h;obtain ⟨l,b,xs,zs,rfl,rfl,hH,hB,hz,q⟩:=h;cases rx;cases ry;obtain ⟨z,its,n,r,hl,e⟩:=I.lstM hH;obtain ⟨z2,its2,n2,r2,hl2,e2⟩:=I.lstM hB;refine PySem.P.add_list e e2 ?_ (by rw[bs5,bs5];omega)
 have ea:its.toArray++its2.toArray=(its++its2).toArray:=by simp
 rw[ea];exact ⟨.ref _,_,I.lnew (t':=s.toks) (r.append r2) (by rw[bs6];omega),rfl,q _ I.fresh⟩
def bq3:R2:=fun x y H Q=>∃l k xs,x= .ref l/\y= .int k/\H l=some (.lst xs)/\ -(2^63)<=k/\k < 2^63/\xs.length*k.toNat<=sizeLine/\
 ∀p,H p=none->Q (.ref p) (g9 H p (.lst (bu2 k.toNat xs).flatten))
theorem be2 {α:Type}(xs:List α)(k:Nat):(bu2 k xs).flatten.length=k*xs.length:=by
 induction k with
 |zero=>simp
 |succ k ih=>rw[by5,bu3,bs6,ih,Nat.succ_mul,ca3]
theorem as7:C0 X (binaryOp .Mult) bq3:=by
 intro pins s σ H x y v u Q I rx ry h;obtain ⟨l,k,xs,rfl,rfl,hH,h1,h2,hz,q⟩:=h;cases rx;obtain ⟨t,rfl⟩:=ry;obtain ⟨z,its,n,r,hl,e⟩:=I.lstM hH
 have hlen:its.toArray.size*k.toNat<=sizeLine:=by rw[bs5,<-hl];exact hz
 have hcap:¬its.toArray.size*k.toNat > (2^63 - 1)/8:=by
   have:(sizeLine:Nat)<=(2^63 - 1)/8:=by decide
   omega
 have hfit:¬(!Builtin.List.listFitsIndex k)=true:=by
   rw[fitsIndex_both h1 h2];exact bt0
 have hlong:¬Builtin.List.listTooLong (its.toArray.size*k.toNat)=true:=by
   rw[ag7 hlen];exact bt0
 have hnew:List.foldl (fun x1 x2=>x1++x2) #[] (bu2 (if its.toArray.isEmpty=true then 0 else k.toNat) its.toArray)=(bu2 k.toNat its).flatten.toArray:=by
   have f0:∀m:Nat,List.foldl (fun x1 x2=>x1++x2) #[] (bu2 m its.toArray)=(bu2 m its).flatten.toArray:=fun m=>by
     have:=ab7 its m [];rw[cd4] at this;exact this
   rw[f0]
   cases its with
   |nil=>simp
   |cons a r'=>rw[if_neg (by simp)]
 refine wpAny_binaryOp_repeat_ref (T:="list") (U:="int") (by decide) ⟨_,e,rfl⟩ (fun s'=>typeIs_int s' k t) noFill_list_mul F.fills_int_mul F.slot_int_rmul repeat_list F.slot_int_index.lookup
   (call_meets F.slot_int_rmul (typeIs_int s k t) F.entry_int_rmul (F.args_int_rmul_2 _ _) (int___rmul___int_list k t l its.toArray n)
     ⟨e,rfl,⟨_,e,rfl⟩,call_meets F.slot_list_mul ⟨_,e,rfl⟩ F.entry_list_mul (F.args_list_mul_2 _ _) (AutoListH.list___mul___list_int_3 l its.toArray n k t hfit hcap hlong) ⟨e,?_⟩⟩)
 rw[hnew];exact ⟨.ref _,_,I.lnew (t':=s.toks) (r.rep k.toNat) (by rw[be2,Nat.mul_comm];exact hz),rfl,q _ I.fresh⟩
end
end L2
namespace L2
open PySem PySem.Spec PyProof.Rows
section
variable {κ:Type} [DecidableEq κ]
def C1 (kvs:List (κ×V))(k:κ):Option V:=(kvs.find? fun kv=>decide (kv.1=k)).map (·.2)
def G0 (kvs:List (κ×V))(k:κ)(v:V):List (κ×V):=
 if (kvs.any fun kv=>decide (kv.1=k))=true then kvs.map (fun kv=>if kv.1=k then (kv.1,v) else kv) else kvs++[(k,v)]
theorem P3 {p:κ×V}{r:List (κ×V)}{k:κ}(e:p.1=k):C1 (p::r) k=some p.2:=by simp [C1,bz0,e]
theorem L1 {p:κ×V}{r:List (κ×V)}{k:κ}(e:¬p.1=k):C1 (p::r) k=C1 r k:=by simp [C1,bz0,e]
theorem U9 (k:κ):∀kvs:List (κ×V),(kvs.any fun kv=>decide (kv.1=k))=(C1 kvs k).isSome
 |[]=>rfl
 |p::r=>by
  rw[cd9]
  by_cases e:p.1=k
  · simp only[P3 e,decide_eq_true e,Bool.true_or,Option.isSome_some]
  · rw[L1 e,decide_eq_false e,Bool.false_or];exact U9 k r
theorem U4 (kvs:List (κ×V))(k:κ)(v:V):(G0 kvs k v).length<=kvs.length+1:=by
 unfold G0
 split
 · rw[bs1];omega
 · rw[bs6,bw4,List.length_nil];omega
theorem ay0 {kvs:List (κ×V)}{k:κ}(v:V)(h:C1 kvs k=none):G0 kvs k v=kvs++[(k,v)]:=by
 unfold G0;rw[U9,h];exact if_neg (by decide)
theorem U7.isSome_eq {o:Option V}{u:Option Value}(r:U7 o u):o.isSome=u.isSome:=by
 cases o with
 |none=>cases u with
  |none=>rfl
  |some _=>exact (show False from r).elim
 |some _=>cases u with
  |none=>exact (show False from r).elim
  |some _=>rfl
theorem KV.val {kvs:List (κ×V)}{vs:List (κ×Value)}(r:KV kvs vs)(k:κ):U7 (C1 kvs k) (valueAt vs k):=by
 unfold KV at r
 induction r with
 |nil=>exact True.intro
 |@cons p q ps qs h t ih=>
  obtain ⟨h1,h2⟩:=h
  by_cases e:p.1=k
  · have e':q.1=k:=h1.symm.trans e
    have b:valueAt (q::qs) k=some q.2:=by simp [valueAt,bz0,e']
    rw[P3 e,b];exact h2
  · have e':¬q.1=k:=fun z=>e (h1.trans z)
    have b:valueAt (q::qs) k=valueAt qs k:=by simp [valueAt,bz0,e']
    rw[L1 e,b];exact ih
theorem KV.any {kvs:List (κ×V)}{vs:List (κ×Value)}(r:KV kvs vs)(k:κ):(kvs.any fun kv=>decide (kv.1=k))=vs.any fun kv=>decide (kv.1=k):=by
 unfold KV at r
 induction r with
 |nil=>rfl
 |cons h t ih=>rw[cd9,cd9,ih,h.1]
theorem KV.repl {kvs:List (κ×V)}{vs:List (κ×Value)}(r:KV kvs vs)(k:κ){y:V}{u:Value}(ry:j4 y u):
   KV (kvs.map fun kv=>if kv.1=k then (kv.1,y) else kv) (vs.map fun kv=>if kv.1=k then (kv.1,u) else kv):=by
 unfold KV at r ⊢
 induction r with
 |nil=>exact .nil
 |@cons p q ps qs h t ih=>
  rw[bt9,bt9];refine .cons ?_ ih;obtain ⟨h1,h2⟩:=h
  by_cases e:p.1=k
  · rw[if_pos e,if_pos (h1.symm.trans e)];exact ⟨h1,ry⟩
  · rw[if_neg e,if_neg (fun z=>e (h1.trans z))];exact ⟨h1,h2⟩
theorem KV.put {kvs:List (κ×V)}{vs:List (κ×Value)}(r:KV kvs vs)(k:κ){y:V}{u:Value}(ry:j4 y u):KV (G0 kvs k y) (stored vs k u):=by
 unfold G0 stored;rw[r.any k]
 by_cases e:(vs.any fun kv=>decide (kv.1=k))=true
 · rw[if_pos e,if_pos e];exact r.repl k ry
 · rw[if_neg e,if_neg e];exact Paired.snoc r ⟨rfl,ry⟩
theorem KV.length {kvs:List (κ×V)}{vs:List (κ×Value)}(r:KV kvs vs):kvs.length=vs.length:=Paired.length r
end
theorem ae7 {P:Program}{w:World}{k:m3}{u:Value}(r:j4 (kV k) u):(t6 P w).is k u=true:=by
 cases k with
 |inl i=>obtain ⟨t,e⟩:=(show ∃t,u=Value.int i t from r);subst e;exact ak4 P w i t
 |inr x=>obtain ⟨t,e⟩:=(show ∃t,u=Value.str x t from r);subst e;exact ak5 P w x t
theorem ab8 {P:Program}{w:World}:∀{ks:List m3} {us:List Value},h8 (ks.map kV) us->ItemsAre (t6 P w) ks us
 |[],_,r=>by rw[cc9] at r;cases r;exact .nil
 |k::ks,_,r=>by
  rw[bt9] at r
  cases r with
  |cons h t=>exact .cons (ae7 h) (ab8 t)
abbrev KT (H:Hp):List (List m3×V)->List (List m3×Addr×Value)->Prop:=Paired fun p q=>p.1=q.1/\H q.2.1=some (.tup (p.1.map kV))/\j4 p.2 q.2.2
theorem KT.val {H:Hp}{kvs:List (List m3×V)}{xs:List (List m3×Addr×Value)}(r:KT H kvs xs)(k:List m3):U7 (C1 kvs k) ((atKey xs k).map (·.2)):=by
 induction r with
 |nil=>exact True.intro
 |@cons p q ps qs h t ih=>
  obtain ⟨h1,_,h2⟩:=h
  by_cases e:p.1=k
  · have e':q.1=k:=h1.symm.trans e
    have b:atKey (q::qs) k=some q.2:=by simp [atKey,bz0,e']
    rw[P3 e,b];exact h2
  · have e':¬q.1=k:=fun z=>e (h1.trans z)
    have b:atKey (q::qs) k=atKey qs k:=by simp [atKey,bz0,e']
    rw[L1 e,b];exact ih
theorem KT.repl {H:Hp}{kvs:List (List m3×V)}{xs:List (List m3×Addr×Value)}(r:KT H kvs xs)(k:List m3){y:V}{u:Value}(ry:j4 y u):
   KT H (kvs.map fun kv=>if kv.1=k then (kv.1,y) else kv) (xs.map (putAt k u)):=by
 induction r with
 |nil=>exact .nil
 |@cons p q ps qs h t ih=>
  rw[bt9,bt9];refine .cons ?_ ih;obtain ⟨h1,h2,h3⟩:=h;unfold putAt
  by_cases e:p.1=k
  · rw[if_pos e,if_pos (h1.symm.trans e)];exact ⟨h1,h2,ry⟩
  · rw[if_neg e,if_neg (fun z=>e (h1.trans z))];exact ⟨h1,h2,h3⟩
theorem KT.put {H:Hp}{kvs:List (List m3×V)}{xs:List (List m3×Addr×Value)}(r:KT H kvs xs)(k:List m3){b:Addr}{y:V}{u:Value}(hb:H b=some (.tup (k.map kV)))(ry:j4 y u):
   KT H (G0 kvs k y) (storedH xs k b u):=by
 have e:(kvs.any fun kv=>decide (kv.1=k))=(atKey xs k).isSome:=by
   rw[U9,(r.val k).isSome_eq,cc3]
 unfold G0 storedH;rw[e]
 by_cases q:(atKey xs k).isSome=true
 · rw[if_pos q,if_pos q];exact r.repl k ry
 · rw[if_neg q,if_neg q];exact Paired.snoc r ⟨rfl,hb,ry⟩
theorem KT.keeps {H H':Hp}{kvs:List (List m3×V)}{xs:List (List m3×Addr×Value)}(r:KT H kvs xs)(ht:∀b ys,H b=some (.tup ys)->H' b=some (.tup ys)):KT H' kvs xs:=
 Paired.mapP r fun _ _ z=>⟨z.1,ht _ _ z.2.1,z.2.2⟩
section
variable {P:Program} {w:World} {H:Hp} {h:Heap} {a:Addr}
theorem bc9 {u:HO}(ok:q5 P w H h)(e:Rd H a u):n6 P w H h a u:=e.ok ok
theorem ao7 {kvs:List (m3×V)}(ok:q5 P w H h)(e:Rd H a (.dK kvs)):kvs.length<=sizeLine/\(a==sysModules)=false/\∃vs,KV kvs vs/\h.DictOf (t6 P w) a vs:=
 show n6 P w H h a (.dK kvs) from bc9 ok e
theorem bm3 {kvs:List (m3×V)}(ok:q5 P w H h)(e:H a=some (.dK kvs)):kvs.length<=sizeLine/\(a==sysModules)=false/\∃vs,KV kvs vs/\h.DictOf (t6 P w) a vs:=ao7 ok (.inl e)
theorem X1 {ks:List m3}(ok:q5 P w H h)(e:H a=some (.tup (ks.map kV))):(tupleKind (t6 P w)).is h ks a:=by
 obtain ⟨_,its,r,o,h1,h2,n,h3⟩:=(show n6 P w H h a (.tup (ks.map kV)) from ok a _ e);exact ⟨o,its.toArray,n,h1,h2,h3,by simpa using ab8 r⟩
theorem ao8 {kvs:List (List m3×V)}(ok:q5 P w H h)(e:Rd H a (.dT kvs)):kvs.length<=sizeLine/\(a==sysModules)=false/\
   ∃xs,KT H kvs xs/\h.DictOfH (tupleKind (t6 P w)) a xs:=by
 obtain ⟨z,y,xs,r,o,es,ep,h1,h2,h3,h4,h5⟩:=(show n6 P w H h a (.dT kvs) from bc9 ok e);refine ⟨z,y,xs,r,o,es,ep,h1,h2,h3,h4,fun x hx=> ?_,h5⟩
 have all:∀{l:List (List m3×V)} {m:List (List m3×Addr×Value)},KT H l m->∀x∈m,(tupleKind (t6 P w)).is h x.1 x.2.1:=by
   intro l m q
   induction q with
   |nil=>intro x hx;exact nomatch hx
   |@cons p q ps qs hq t ih=>
    intro x hx
    rcases bw9.mp hx with e|hx
    · subst e;exact X1 ok (by rw[<-hq.1];exact hq.2.1)
    · exact ih x hx
 exact all r x hx
theorem bm4 {kvs:List (List m3×V)}(ok:q5 P w H h)(e:H a=some (.dT kvs)):kvs.length<=sizeLine/\(a==sysModules)=false/\
 ∃xs,KT H kvs xs/\h.DictOfH (tupleKind (t6 P w)) a xs:=ao8 ok (.inl e)
end
def S1 (H:Hp)(a:Addr)(y:V)(r:Option V):Prop:=
 (∃kvs k,Rd H a (.dK kvs)/\y=kV k/\r=C1 kvs k)\/∃kvs k b,Rd H a (.dT kvs)/\y= .ref b/\H b=some (.tup (k.map kV))/\r=C1 kvs k
def Z1 (H:Hp)(a:Addr)(y v:V)(H':Hp):Prop:=
 (∃kvs k,H a=some (.dK kvs)/\y=kV k/\kvs.length < sizeLine/\H'=g9 H a (.dK (G0 kvs k v)))\/
 ∃kvs k b,H a=some (.dT kvs)/\y= .ref b/\H b=some (.tup (k.map kV))/\kvs.length < sizeLine/\H'=g9 H a (.dT (G0 kvs k v))
theorem S1.k {H:Hp}{a:Addr}{kvs:List (m3×V)}{k:m3}(e:H a=some (.dK kvs)):S1 H a (kV k) (C1 kvs k):= .inl ⟨kvs,k,.inl e,rfl,rfl⟩
theorem Z1.k {H:Hp}{a:Addr}{kvs:List (m3×V)}{k:m3}{v:V}(e:H a=some (.dK kvs))(hl:kvs.length < sizeLine):Z1 H a (kV k) v (g9 H a (.dK (G0 kvs k v))):= .inl ⟨kvs,k,e,rfl,hl,rfl⟩
section
variable {X:Cx} {pins:List (Addr×Obj)} {σ:St} {H:Hp} {s:Shared} {a:Addr} {y v:V} {u r:Value} {o:Option V} {A:Around} {E:Value->Shared->Prop}
theorem c7.big (I:c7 X pins σ H s):sysModules < s.heap.objs.size:=by
 have h:mainGlobals < s.heap.objs.size:=(I.mod.glob.keeps I.bk).lt;exact Nat.lt_trans (by decide) h
theorem bq4 {Q:Value->Shared->Prop}(hu:A.units+1 < cLine)(I:c7 X pins σ H s)(g:S1 H a y o)(ry:j4 y u)(h:∀s',c7 X pins σ H s'->Q (.bool o.isSome) s'):
   wpAny (model X.prog X.w) A (compareOp .In u (.ref a)) Q E s:=by
 rcases g with ⟨kvs,k,e,ey,l⟩|⟨kvs,k,b,e,ey,eb,l⟩
 · subst ey;obtain ⟨z,hd,vs,rel,dd⟩:=ao7 I.hok e;refine wpAny_in_of (ae7 ry) hd dd.mapOf ?_;rw[<-(rel.val k).isSome_eq,<-l];exact h _ (I.tok _)
 · subst ey;cases (show u=Value.ref b from ry);obtain ⟨z,hd,xs,rel,dd⟩:=ao8 I.hok e;refine wpAny_in_heap (tupleKind_room_in1 hu) (X1 I.hok eb) hd dd ?_;have q:=(rel.val k).isSome_eq;rw[cc3] at q;rw[<-q,<-l];exact h _ (I.tok _)
theorem be3 {Q:Value->Shared->Prop}(hu:A.units+1 < cLine)(I:c7 X pins σ H s)(g:S1 H a y o)(ry:j4 y u)(h:∀s',c7 X pins σ H s'->Q (.bool (!o.isSome)) s'):
   wpAny (model X.prog X.w) A (compareOp .NotIn u (.ref a)) Q E s:=by
 rcases g with ⟨kvs,k,e,ey,l⟩|⟨kvs,k,b,e,ey,eb,l⟩
 · subst ey;obtain ⟨z,hd,vs,rel,dd⟩:=ao7 I.hok e;refine wpAny_notIn_of (ae7 ry) hd dd.mapOf ?_;rw[<-(rel.val k).isSome_eq,<-l];exact h _ (I.tok _)
 · subst ey;cases (show u=Value.ref b from ry);obtain ⟨z,hd,xs,rel,dd⟩:=ao8 I.hok e;refine wpAny_notIn_heap (tupleKind_room_in1 hu) (X1 I.hok eb) hd dd ?_;have q:=(rel.val k).isSome_eq;rw[cc3] at q;rw[<-q,<-l];exact h _ (I.tok _)
theorem am7 {h':Heap}{t':Nat}{ob:HO}(I:c7 X pins σ H s)(mu:Mut (H a))(hs:Heap.SameBut a s.heap h')(he:∃q,h'.get? a=some q)(new:n6 X.prog X.w (g9 H a ob) h' a ob):
   c7 X pins σ (g9 H a ob) {s with heap:=h',toks:=t'}:=
 I.write (x:=a) (e:=a) mu (.inl rfl) (fun b q hb z=>(hs.2 b hb).trans z) he new
theorem bj2 {P:Program}{w:World}{H':Hp}{h':Heap}{kvs:List (m3×V)}{vs:List (m3×Value)}(z:kvs.length<=sizeLine)(hd:(a==sysModules)=false)(rel:KV kvs vs)(dd:h'.DictOf (t6 P w) a vs):
 n6 P w H' h' a (.dK kvs):=⟨z,hd,vs,rel,dd⟩
theorem as8 {H':Hp}{Q:Unit->Shared->Prop}(hu:A.units+1 < cLine)(I:c7 X pins σ H s)(g:Z1 H a y v H')(ry:j4 y u)(rv:j4 v r)(h:∀s',c7 X pins σ H' s'->Q () s'):
   wpAny (model X.prog X.w) A (setItem (.ref a) u r) Q E s:=by
 rcases g with ⟨kvs,k,e,ey,l,eH⟩|⟨kvs,k,b,e,ey,eb,l,eH⟩
 · subst ey eH;obtain ⟨z,hd,vs,rel,dd⟩:=bm3 I.hok e
   have hz:vs.length<=sizeLine:=by rw[<-rel.length];exact z
   have hl:(G0 kvs k v).length<=sizeLine:=by have:=U4 kvs k v;omega
   refine wpAny_setItem_pairs (hsz:=hz) (ae7 ry) dd fun h' dd' hs=>h _ ?_
   have he:∃q,h'.get? a=some q:=let ⟨q,_,_,hq,_⟩:=dd';⟨q,hq⟩;exact am7 I (by rw[e];exact True.intro) hs he (bj2 hl hd (rel.put k rv) dd')
 · subst ey eH;cases (show u=Value.ref b from ry);obtain ⟨z,hd,xs,rel,dd⟩:=bm4 I.hok e
   have hz:xs.length<=sizeLine:=by rw[<-Paired.length rel];exact z
   have hl:(G0 kvs k v).length<=sizeLine:=by have:=U4 kvs k v;omega
   refine wpAny_setItem_heap (hsz:=hz) (tupleKind_room_in1 hu) (X1 I.hok eb) dd fun h' dd' hs=>h _ ?_
   obtain ⟨q,es,ep,hq,h2,h3,h4,_,h5⟩:=dd';refine am7 I (by rw[e];exact True.intro) hs ⟨q,hq⟩ ⟨hl,hd,_,(rel.put k eb rv).keeps fun c ys ec=> ?_,q,es,ep,hq,h2,h3,h4,h5⟩;rw[g7 (bb7 ec e (fun z=>nomatch z))];exact ec
end
def bq5 (ty td:TE):TE:=fun σ H Q=>ty σ H fun y H1=>td σ H1 fun x H2=>∃a o,x= .ref a/\S1 H2 a y o/\Q (.bl o.isSome) H2
def be4 (ty td:TE):TE:=fun σ H Q=>ty σ H fun y H1=>td σ H1 fun x H2=>∃a o,x= .ref a/\S1 H2 a y o/\Q (.bl (!o.isSome)) H2
def bm5 (td ty tv:TE):TS:=fun D σ H=>tv σ H fun v H1=>td σ H1 fun x H2=>ty σ H2 fun y H3=>∃a H4,x= .ref a/\Z1 H3 a y v H4/\D.nx σ H4
section
variable {X:Cx} {o i e value:Expr} {pos pos' tpos:Pos} {td ty tv:TE}
theorem bj3 (hu:X.A.units+1 < cLine)(hi:PE X i ty)(ho:PE X o td):PC X .In i o (bq5 ty td):=by
 intro pins s σ H Q I h
 refine j3 (hi pins s σ H _ I h) fun iv s1 ⟨y,H1,I1,ry,q1⟩=>j3 (ho pins s1 σ H1 _ I1 q1) fun u s2 ⟨x,H2,I2,rx,a,ov,ex,g,q2⟩=> ?_
 subst ex;obtain rfl:u=Value.ref a:=rx
 exact bq4 hu I2 g ry fun s3 I3=>⟨.bl ov.isSome,H2,I3,rfl,q2⟩
theorem as9 (hu:X.A.units+1 < cLine)(hi:PE X i ty)(ho:PE X o td):PC X .NotIn i o (be4 ty td):=by
 intro pins s σ H Q I h
 refine j3 (hi pins s σ H _ I h) fun iv s1 ⟨y,H1,I1,ry,q1⟩=>j3 (ho pins s1 σ H1 _ I1 q1) fun u s2 ⟨x,H2,I2,rx,a,ov,ex,g,q2⟩=> ?_
 subst ex;obtain rfl:u=Value.ref a:=rx
 exact be3 hu I2 g ry fun s3 I3=>⟨.bl (!ov.isSome),H2,I3,rfl,q2⟩
theorem am8 (hu:X.A.units+1 < cLine)(ho:PE X o td)(hi:PE X i ty)(hv:PE X value tv)(hs:swapsWith value (some (.Subscript o i pos')) pos.line X.env=pure false):
   PS X (.Assign [.Subscript o i pos'] value pos) (bm5 td ty tv):=by
 intro pins s σ H D I h;refine wpAny_Assign_Subscript (j3 (hv pins s σ H _ I h) fun r s1 ⟨v,H1,I1,rv,q1⟩=>j3 (ho pins s1 σ H1 _ I1 q1) fun u s2 ⟨x,H2,I2,rx,q2⟩=>j3 (hi pins s2 σ H2 _ I2 q2) fun iv s3 ⟨y,H3,I3,ry,a,H4,ex,g,q3⟩=> ?_) hs;subst ex;obtain rfl:u=Value.ref a:=rx
 exact as8 hu I3 g ry rv fun s4 I4=>⟨σ,H4,I4,q3⟩
end
theorem ay1 {P:Program}{w:World}{H:Hp}(h:Heap)(hb:sysModules < h.objs.size):n6 P w H (h.push {cls:= .type "dict",data:= .dict #[]}) h.objs.size (.dK []):=
 ⟨bu9 _,beq_eq_false_iff_ne.mpr (Ne.symm (bv5 hb)),[],.nil,Heap.DictOf.new h⟩
def bj4:TE:=fun _ H Q=>∀p,H p=none->Q (.ref p) (g9 H p (.dK []))
section
variable {X:Cx} {pos:Pos}
theorem ag8:PE X (.Dict [] [] pos) bj4:=fun pins s σ H Q I h=>
 wpAny_Dict_empty ⟨.ref s.heap.objs.size,_,I.laid (a:=s.heap.objs.size) (o:= .dK []) (t':=s.toks) (fun _ _ q=>Heap.get?_push_of_some _ q) (bs9 _) (ay1 s.heap I.big),rfl,h _ (I.hok.fresh (bs9 _))⟩
end
end L2
namespace Att
open PySem PySem.W PySem.Calls PyProof.Rows
theorem X2 {P:Params}{h:Heap}:∀(ns:List Int) (vs:List Value),WellAll P h vs (ns.map WData.int)->IntsAre vs ns:=by
 intro ns
 induction ns with
 |nil=>
  intro vs w;rw[cc9] at w;cases w;exact .nil
 |cons n ns ih=>
  intro vs w;rw[bt9] at w
  cases w with
  |cons a b=>
   cases a;exact .cons _ _ (ih _ b)
theorem at1 {l:OpenLaw}{n:Nat}(hn:l.most=some n){P:Params}{h:Heap}{args:List WData}{vals:List Value}
   (hpre:l.row.toRowW.claim.pre args=true) (hwl:WellAll P h vals args):
   ∃a vs ns,vals=[Value.ref a]/\args=[WData.list (ns.map WData.int)]/\h.get? a=some {cls:= .type "list",data:= .seq vs.toArray}/\IntsAre vs ns/\ns.length<=n:=by
 have hsh:WShape.hasAll [] args [.list .int]=true:=(pre_splitW hpre).1;have hc:l.pre.holds [] {args:=args}=true:=(pre_splitW hpre).2;obtain ⟨d,r,rfl,h1,h2⟩:=hasAllW_cons hsh;obtain rfl:=hasAllW_nil h2;obtain ⟨xs,rfl,h3⟩:=hasW_list h1;obtain ⟨ns,rfl⟩:=items_int h3
 have hlen:ns.length<=n:=by
   unfold OpenLaw.pre at hc
   have h4:(WTm.not (.lt (.lit (.int (n:Int))) (.len (.arg 0)))).holds [] {args:=[.list (ns.map .int)]}=true:=by
     have h4:=(holds_andW hc).1;rw[hn] at h4;exact h4
   have h5:=condW_of h4 (w_not (w_lt w_lit (w_len_list (w_arg rfl))));rw[bs1] at h5
   refine Nat.le_of_not_lt fun q=> ?_
   have q':(n:Int) < ((ns.length:Nat):Int):=by omega
   first
     |(rw[decide_eq_true q'] at h5;exact absurd h5 (by decide))
     |(simp at h5;omega)
 cases hwl with
 |cons w1 w2=>
  cases w2
  cases w1 with
  |list ho hall=>exact ⟨_,_,ns,rfl,rfl,ho,X2 ns _ hall,hlen⟩
theorem at2 (l:OpenLaw)(args:List WData):l.row.toRowW.claim.post args (.bool true) args=true:=
 postW_of (r:=l.row.toRowW) (X:=(true==true))
   (show WShape.has [] (.bool true) .bool=true by first|rfl|decide|simp [WShape.has,WShape.arms,WShape.armsAll])
   (show (WTm.eq .res (.lit (.bool true))).value [] {args:=args,res:=some (.bool true),after:=args}=some (.bool (true==true)) from w_eq_bool (w_res rfl) w_lit) rfl
theorem bk9 {l:OpenLaw}{n:Nat}{q:Program}{loose:List Str}{XP:(Str->Option Value)->Heap->Prop}{YP:World->Heap->Prop}{d:DefRec}
   (hn:l.most=some n) (hdf:d.params.defaults=[])
   (call:∀(w:World) (s₀ s₁:Shared) (mg mb:Str->Option Value) (fa:Addr) (o:Obj) (pm cd doc:Value) (a:Addr) (vs:List Value) (ns:List Int),
     Ground q loose [] XP w s₀ mg mb s₁.heap->YP w s₁.heap->
     s₁.heap.get? fa=some o->o.data= .func (docDef d.name d.params d.body d.scope pm cd doc)->s₁.heap.CodeRec cd d.name->mg d.name=some (.ref fa)->
     s₁.heap.get? a=some {cls:= .type "list",data:= .seq vs.toArray}->IntsAre vs ns->ns.length<=n->s₁.gens= #[]->
     codeAny (model l.prog w) callerA (.call (.ref fa) ⟨[.ref a],[]⟩) (fun r s'=>r= .ok (.ret (.bool true))/\OldK s₁.heap s'.heap/\s'.os=s₁.os/\AllBare s'.gens) s₁):
   WalkO q loose XP YP l.row.toRowW d [] (fun f vs=>PySem.call f vs):=by
 intro w s₀ s₁ mg mb G Y fa o pm cd doc dV kV ho hd hcd hD hmg hg args vals as hpre hlay hrd hwl hlo;obtain rfl:dV= .none:=Dflts.none hD hdf;obtain rfl:kV= .none:=Dflts.noKw hD;obtain ⟨a,vs,ns,rfl,rfl,hobj,hints,hlen⟩:=at1 hn hpre hwl;refine enter_call (codeAny_mono (call w s₀ s₁ mg mb fa o pm cd doc a vs ns G Y ho (fd_plain hd) hcd hmg hobj hints hlen hg) fun r s' hq=> ?_);obtain ⟨rfl,h2,h3,h4⟩:=hq;exact ⟨.inl ⟨.bool true,.bool true,[],rfl,fun _=>rfl,.bool true,at2 l _,fun _=>⟨List.Pairwise.nil,fun _ hm=>(nomatch hm)⟩⟩,h2,h3,h4⟩
end Att
namespace L2
open PySem PySem.Spec PyProof.Rows
theorem ab9:∀{vs:List Value} {ns:List Int},IntsAre vs ns->h8 (ns.map V.int) vs
 |_,_,.nil=> .nil
 |_,_,.cons n t h=> .cons ⟨t,rfl⟩ (ab9 h)
def ay2 (H:Hp):Prop:=∀b,H b=none\/∃o xs,H b=some (.frz o (.lst xs))
theorem ay3 {P:Program}{w:World}{K:PySem.W.Frag}{mg mb:Str->Option Value}{CX:U3}{k:Nat}{fa a:Addr}{fd:FuncData}{x:Str}{sp:Sp}{s₁:Shared}{vs:List Value}{ns:List Int}
   (KX:K.In s₁.heap) (hns:s₁.heap.Ns mainGlobals mg) (hb:s₁.heap.Ns builtinsNs mb) (hbb:∀x:Str,x≠"__name__"->mb x=bootBuiltins x) (hlim:s₁.heap.NoLimit) (hg:s₁.gens= #[])
   (ha:s₁.heap.get? a=some {cls:= .type "list",data:= .seq vs.toArray}) (hi:IntsAre vs ns) (hl:ns.length<=sizeLine) (hr:l5 k callerA)
   (F:∀base:Heap,K.In base->base.Ns mainGlobals mg->m5 P w K mg base CX k fa fd [x] sp) (hbind:∀(s:Shared) (u:Value),BindsTo s fd ⟨[u],[]⟩ [(x,u)])
   (hsp:∀H:Hp,ay2 H->g8 K H a (ns.map V.int)->sp [.ref a] H (fun v _=>v= .bl true) fun _ _ _=>False)
   (hCX:∀H e s',CX [] H s₁ (fun _ _ _=>False) e s'->False):
   codeAny (model P w) callerA (.call (.ref fa) ⟨[.ref a],[]⟩) (fun r s'=>r= .ok (.ret (.bool true))/\OldK s₁.heap s'.heap/\s'.os=s₁.os/\AllBare s'.gens) s₁:=by
 have rv:=ab9 hi;have lenV:=hi.length
 have core:∀H:Hp,ay2 H->g8 K H a (ns.map V.int)->q5 P w H s₁.heap->(∀b,H b≠none->b=a)->(H a≠none->K.lookup a=none)->
     codeAny (model P w) callerA (.call (.ref fa) ⟨[.ref a],[]⟩) (fun r s'=>r= .ok (.ret (.bool true))/\OldK s₁.heap s'.heap/\s'.os=s₁.os/\AllBare s'.gens) s₁:=by
   intro H hO hS hok hA hK
   have base_of:∀{b:Addr} {o:Obj},s₁.heap.get? b=some o->H b=none->(P1 s₁.heap H).get? b=some o:=fun e n=>ax0 e n
   have noA:∀{b:Addr} {o:Obj} {es:Array DictEntry} {ep:Nat},s₁.heap.get? b=some o->o.data= .dict es ep->H b=none:=fun {b o es ep} e d=>by
     cases q:H b with
     |none=>rfl
     |some u=>
      have e':b=a:=hA b (by rw[q];simp);subst e';rw[ha] at e;cases e;have d':Data.seq vs.toArray _=Data.dict es ep:=d;cases d'
   have nsK:∀{b:Addr} {m:Str->Option Value},s₁.heap.Ns b m->(P1 s₁.heap H).Ns b m:=fun {b m} ⟨o,es,ep,e,d,r⟩=>⟨o,es,ep,base_of e (noA e d),d,r⟩
   have hKb:K.In (P1 s₁.heap H):=fun b o e=>base_of (KX b o e) (by
     cases q:H b with
     |none=>rfl
     |some u=>
      have e':b=a:=hA b (by rw[q];simp);subst e'
      rw[hK (by rw[q];simp)] at e;cases e)
   have hM:Mod K mg (P1 s₁.heap H):=⟨hKb,nsK hns,⟨mb,nsK hb,hbb⟩,let ⟨mc,h1,h2⟩:=hlim;⟨mc,nsK h1,h2⟩⟩;have e0:ao3 P w K mg (P1 s₁.heap H) callerA [] s₁ H:=⟨rfl,hM,fun b o e=>bd1 e,Nat.le_of_eq (aq9 _ _),trivial,fun b hb=>absurd (show b∈([]:List Addr) from hb) (by simp),hok,.of_eq hg⟩
   refine codeAny_mono ((F _ hKb (nsK hns)).run callerA [] s₁ H ⟨[.ref a],[]⟩ [.ref a] [.ref a] _ _ hr e0 (hbind s₁ (.ref a)) (.cons rfl .nil) (hsp H hO hS)) fun r s' h=> ?_
   cases r with
   |error e=>exact (hCX H e s' h).elim
   |ok fl=>
    cases fl with
    |next=>exact False.elim h
    |brk=>exact False.elim h
    |cont=>exact False.elim h
    |ret u=>
     obtain ⟨v,H',os,bare,un,hok',r',q⟩:=h;have q':v= .bl true:=q;subst q';obtain rfl:u=Value.bool true:=r';refine ⟨rfl,OldK.of_keep fun b o e=> ?_,os,bare⟩
     cases q:H b with
     |none=>exact un.keep b o e q (by intro z;exact absurd (show b∈([]:List Addr) from z) (by simp)) (by simp)
     |some u=>
      rcases hO b with z|⟨ob,xs,z⟩
      · rw[q] at z;cases z
      · have z2:=un.frzs b ob _ z;obtain ⟨e1,_⟩:=hok b _ z;obtain ⟨e2,_⟩:=hok' b _ z2;rw[e] at e1;cases e1;exact e2
 cases hk:K.lookup a with
 |some o=>
  have e:=KX a o hk;rw[ha] at e;cases e
  refine core (fun _=>none) (fun _=> .inl rfl) (.inr ⟨_,vs.toArray,_,hk,rfl,rfl,rfl,by rw[bs5,lenV];exact hl,by simpa using rv⟩) (fun b u z=>by have z':(none:Option HO)=some u:=z;cases z') (fun b z=>absurd rfl z) fun z=>absurd rfl z
 |none=>
  refine core (fun b=>if b=a then some (.frz {cls:= .type "list",data:= .seq vs.toArray} (.lst (ns.map V.int))) else none) (fun b=> ?_) (.inl (.inr ⟨{cls:= .type "list",data:= .seq vs.toArray},if_pos rfl⟩)) (fun b u z=> ?_) (fun b z=> ?_) fun _=>hk
  · by_cases hb:b=a
    · exact .inr ⟨_,_,if_pos hb⟩
    · exact .inl (if_neg hb)
  · by_cases hb:b=a
    · have z':=(if_pos hb).symm.trans z;cases z';subst hb;exact ⟨ha,by rw[bs1];exact hl,vs,_,rv,ha⟩
    · have z':=(if_neg hb).symm.trans z;cases z'
  · by_cases hb:b=a
    · exact hb
    · exact absurd (if_neg hb) z
end L2
namespace L2
open PySem PySem.Spec PyProof.Rows
theorem br1 {l:PySem.W.OpenLaw}{n k:Nat}{q:Program}{loose:List Str}{XP:(Str->Option Value)->Heap->Prop}{YP:World->Heap->Prop}{d:DefRec}{K:Params->PySem.W.Frag}{CX:World->U3}{sp:World->Sp}{x:Str}
   (hn:l.most=some n) (hn2:n<=sizeLine) (hdf:d.params.defaults=[]) (hr:l5 k callerA)
   (hY:∀(w:World) (h:Heap),YP w h->(K w.params).In h)
   (F:∀(w:World) (mg:Str->Option Value) (fa:Addr) (h:Heap),(K w.params).In h->h.Ns mainGlobals mg->mg d.name=some (.ref fa)->
     ∃fd:FuncData,(∀(s:Shared) (u:Value),BindsTo s fd ⟨[u],[]⟩ [(x,u)])/\
      ∀base:Heap,(K w.params).In base->base.Ns mainGlobals mg->m5 l.prog w (K w.params) mg base (CX w) k fa fd [x] (sp w))
   (hsp:∀(w:World) (H:Hp) (a:Addr) (ns:List Int),ns.length<=n->ay2 H->g8 (K w.params) H a (ns.map V.int)->sp w [.ref a] H (fun v _=>v= .bl true) fun _ _ _=>False)
   (hCX:∀(w:World) (H:Hp) (s:Shared) (e:Value) (s':Shared),CX w [] H s (fun _ _ _=>False) e s'->False):
   PySem.W.WalkO q loose XP YP l.row.toRowW d [] (fun f vs=>PySem.call f vs):=by
 refine Att.bk9 hn hdf fun w s₀ s₁ mg mb fa o pm cd doc a vs ns G Y ho hd hcd hmg hobj hints hlen hg=> ?_
 have KX:=hY w _ Y;obtain ⟨fd,hb,hF⟩:=F w mg fa _ KX G.T.g hmg
 exact ay3 KX G.T.g G.T.b G.T.builtins G.T.nolimit hg hobj hints (bw3 hlen hn2) hr hF hb (fun H hO hS=>hsp w H a ns hlen hO hS) fun H e s'=>hCX w H s₁ e s'
end L2
namespace L2
open PySem PySem.Spec PyProof.Rows
def K6 (s:Stmt):Arguments:=match s with
 | .FunctionDef _ a _ _ _ _ _ _ _ _=>a
 |_=>{posonlyargs:=[],args:=[],vararg:=none,kwonlyargs:=[],kw_defaults:=[],kwarg:=none,defaults:=[]}
def I0 (s:Stmt):List Stmt:=match s with
 | .FunctionDef _ _ b _ _ _ _ _ _ _=>b
 |_=>[]
def i6 (s:Stmt):Scope:=match s with
 | .FunctionDef _ _ _ _ _ _ sc _ _ _=>sc
 |_=>{kind:= .function,names:=[],isGenerator:=false,isCoroutine:=false}
abbrev p5:U3:=fun _ _ _ _ _ _=>False
abbrev E0:XK:=fun _ _ _=>False
theorem bm6 {X:Cx}:ag1 p5 X E0:=fun _ _ _ _ _ _ _ h=>h.elim
structure q9 (K:PySem.W.Frag)(x qual:Str)(st:Stmt)(f:Addr)(fd:FuncData):Prop where
 ex:∃(oc:Value) (od:Option Addr) (kV doc pm:Value) (an:Option Addr) (cdv ct:Value) (osl:Array (Option Value)),
   fd=PySem.W.fnOf x qual (K6 st) (I0 st) (i6 st) .none kV doc pm an cdv ct/\K.lookup f=some ⟨oc,od,.func fd,osl⟩/\PySem.W.codeIn K cdv qual=true
 kp:PySem.W.keepIn K (.ref f)=true
section
variable {P:Program} {w:World} {K:PySem.W.Frag} {mg:Str->Option Value} {base:Heap}
theorem q9.ok {x qual:Str}{st:Stmt}{f:Addr}{fd:FuncData}{N ps:List Str}{k:Nat}{sp:Sp}(F:q9 K x qual st f fd)(S:j7 N ps (i6 st))(len:∀vs H Q E,sp vs H Q E->vs.length=ps.length)
   (hbody:∀(cdv:Value) (A:Around) (outer:List Env) (s:Shared) (H:Hp) (vs:List V) (Q:VK) (E:XK),l5 k (A.deeper (envOfC qual (i6 st) s.heap.objs.size f cdv))->sp vs H Q E->
     ∃t,M6 (Y8 p5 P w K mg base N qual (i6 st) f cdv A outer s H E).nox (I0 st) t/\t {nx:=fun _ H'=>Q .non H',rt:=Q} (M8 N vs) H):m5 P w K mg base p5 (k+1) f fd ps sp:=by
 obtain ⟨oc,od,kV,doc,pm,an,cdv,ct,osl,rfl,lk,hcd⟩:=F.ex
 refine bl9 lk hcd S len fun A outer s H vs Q E hr hsp=> ?_
 obtain ⟨t,h,q⟩:=hbody cdv A outer s H vs Q E hr hsp;exact ⟨t,h.nox,q⟩
theorem q9.binds {x qual:Str}{st:Stmt}{f:Addr}{fd:FuncData}{ps:List Str}(F:q9 K x qual st f fd)
   (h:∀(kV doc pm:Value) (an:Option Addr) (cdv ct:Value) (us:List Value),us.length=ps.length->bindArgs (PySem.W.fnOf x qual (K6 st) (I0 st) (i6 st) .none kV doc pm an cdv ct) ⟨us,[]⟩=pure (ps.zip us)):P2 K fd ps []:=by
 obtain ⟨oc,od,kV,doc,pm,an,cdv,ct,osl,rfl,lk,hcd⟩:=F.ex;exact .all (h kV doc pm an cdv ct)
theorem bj5 {x qual:Str}{st:Stmt}{f:Addr}{oc:Value}{od an:Option Addr}{osl:Array (Option Value)}{kV doc pm cdv ct:Value}(l:K.lookup f=some ⟨oc,od,.func (PySem.W.fnOf x qual (K6 st) (I0 st) (i6 st) .none kV doc pm an cdv ct),osl⟩)
 (c:PySem.W.codeIn K cdv qual=true) (k:PySem.W.keepIn K (.ref f)=true):q9 K x qual st f (PySem.W.fnOf x qual (K6 st) (I0 st) (i6 st) .none kV doc pm an cdv ct):=⟨⟨oc,od,kV,doc,pm,an,cdv,ct,osl,rfl,l,c⟩,k⟩
end
theorem X3 {A:Around}{k:Nat}(hr:l5 k A):A.units+1 < cLine:=cc0 (Nat.add_le_add_left (by decide:1<=64) _) hr.units
theorem l6 {n:Nat}(h:n<=1000):n < sizeLine:=cc0 h (by decide)
section
variable {X:Cx}
theorem pv (i:Nat){x:Str}{pos:Pos}(hN:X.N[i]? =some x:=by rfl)(hv:Vis X.env.scope x:=by first|exact Or.inl rfl|exact Or.inr (Or.inl rfl)|exact Or.inr (Or.inr rfl))(hd:(x==("__debug__":Str))=false:=by decide)
 (hcd:(x==("__classdict__":Str))=false:=by decide):PE X (.Name x pos) (bg6 i):=bg7 hN hv hd hcd
end
theorem A8 {A B:Prop}(h:B):if false=true then A else B:=by
 rw[if_neg bt0];exact h
theorem L3 {A B:Prop}(h:A):if true=true then A else B:=by
 rw[if_pos rfl];exact h
theorem P4 {c A B:Prop}[Decidable c](h1:c->A)(h2:¬c->B):if c then A else B:=by
 by_cases h:c
 · rw[if_pos h];exact h1 h
 · rw[if_neg h];exact h2 h
theorem P5 {c A B:Prop}[Decidable c](hc:c)(h:B):if (!decide c)=true then A else B:=by
 rw[decide_eq_true hc];exact A8 h
def e8 (H H':Hp):Prop:=∀b o,H b=some o->H' b=some o
theorem e8.refl (H:Hp):e8 H H:=fun _ _ h=>h
theorem e8.trans {H H1 H2:Hp}(a:e8 H H1)(b:e8 H1 H2):e8 H H2:=fun c o h=>b c o (a c o h)
theorem e8.free {H H':Hp}(e:e8 H H'){l:Addr}(h:H' l=Option.none):H l=Option.none:=by
 cases q:H l with
 |none=>rfl
 |some o=>
  rw[e l o q] at h;cases h
theorem e8.seq {K:PySem.W.Frag}{H H':Hp}{a:Addr}{xs:List V}(e:e8 H H')(h:g8 K H a xs):g8 K H' a xs:=by
 rcases h with (h|⟨o,h⟩)|h
 · exact .inl (.inl (e _ _ h))
 · exact .inl (.inr ⟨o,e _ _ h⟩)
 · exact .inr h
section
variable {κ:Type} [DecidableEq κ]
theorem T7:∀{l:List κ} {k:κ},l.Nodup->¬k∈l->(l++[k]).Nodup
 |[],k,_,_=>by simp
 |a::r,k,h,hk=>by
  obtain ⟨h1,h2⟩:=bw7.mp h;show (a::(r++[k])).Nodup;refine bw7.mpr ⟨fun m=> ?_,T7 h2 fun m=>hk (bw9.mpr (Or.inr m))⟩
  rcases bt5.mp m with q|q
  · exact h1 q
  · exact hk (bw9.mpr (Or.inl (bx3.mp q).symm))
end
end L2
namespace L2
open PySem PySem.Spec PyProof.Rows
def C2 (X:Cx)(N:List Str)(scope:Scope)(cl:List (Str×Addr))(C:Addr)(s0:Shared)(H0:Hp)(ex:List Addr):Cx:=
 {X with N:=N,s₀:=s0,H₀:=H0,env:=compEnvC scope cl C X.env,outer:=X.stack,stack:=X.stack,ex:=ex,fn:=fun _=>false,pn:=[],xe:=fun _ _=>False}
def X4 (nl:Nat)(fr:List Nat)(σ:St):St:=bu2 nl none++fr.map fun j=>(σ[j]?).join
def n9 (env:Env):List (Str×NameKind)->List (Str×Addr)->List (Str×Addr)
 |[],cs=>cs
 |(n,k)::r,cs=>n9 env r (if (k==NameKind.free)=true then (n,(env.cells.lookup n).getD 0)::cs else cs)
theorem X5 (env:Env):∀(ns:List (Str×NameKind)) (cs:List (Str×Addr)),(∀p∈ns,p.2= .free->∃c,env.cells.lookup p.1=some c)->(∀y c,cs.lookup y=some c->env.cells.lookup y=some c)->
   ∀y c,(n9 env ns cs).lookup y=some c->env.cells.lookup y=some c
 |[],cs,_,h,y,c,e=>h y c e
 |(n,k)::r,cs,hn,h,y,c,e=>by
  unfold n9 at e;refine X5 env r _ (fun p hp=>hn p (bs7 _ hp)) ?_ y c e;intro z d ez
  split at ez
  · rename_i hk;rw[bv7] at ez
    cases hz:z==n with
    |true=>
     rw[hz] at ez;have hzn:z=n:=eq_of_beq hz;subst hzn
     have hkf:k= .free:=by simpa using hk
     obtain ⟨c',hc'⟩:=hn (z,k) bs4 hkf;have hc':env.cells.lookup z=some c':=hc';rw[hc'] at ez;rw[hc']
     simpa using ez
    |false=>
     rw[hz] at ez;exact h z d ez
  · exact h z d ez
theorem U5 (env:Env):∀(ns:List (Str×NameKind)) (cs:List (Str×Addr)) (y:Str),(∃c,cs.lookup y=some c)->∃c,(n9 env ns cs).lookup y=some c
 |[],cs,y,h=>h
 |(n,k)::r,cs,y,⟨c,h⟩=>by
  unfold n9;refine U5 env r _ y ?_
  split
  · rw[bv7]
    cases hz:y==n with
    |true=>exact ⟨_,rfl⟩
    |false=>exact ⟨c,h⟩
  · exact ⟨c,h⟩
theorem P6 (env:Env):∀(ns:List (Str×NameKind)) (cs:List (Str×Addr)) (p:Str×NameKind),p∈ns->p.2= .free->∃c,(n9 env ns cs).lookup p.1=some c
 |[],cs,p,hp,_=>by simp at hp
 |(n,k)::r,cs,p,hp,hk=>by
  unfold n9
  rcases bw9.mp hp with e|hp
  · subst e;have hk:k= .free:=hk;subst hk;refine U5 env r _ n ?_;rw[if_pos (by rfl),bv7];exact ⟨(List.lookup n env.cells).getD 0,by simp⟩
  · exact P6 env r _ p hp hk
theorem S2 (env:Env):∀(ns:List (Str×NameKind)) (cs:List (Str×Addr)),(∀p∈ns,p.2= .free->∃c,env.cells.lookup p.1=some c)->
   (forIn ns cs (fun (x:Str×NameKind) (r:List (Str×Addr))=>if (x.2==NameKind.free)=true then (do let a <-cellOf env x.1;pure (ForInStep.yield ((x.1,a)::r))) else pure (ForInStep.yield r)):Sem (List (Str×Addr)))=pure (n9 env ns cs)
 |[],cs,_=>rfl
 |(n,k)::r,cs,hn=>by
  have ih:=fun cs'=>S2 env r cs' fun p hp=>hn p (bs7 _ hp)
  rw[cb2];unfold n9
  by_cases hk:(k==NameKind.free)=true
  · obtain ⟨c,hc⟩:=hn (n,k) bs4 (by simpa using hk);have hc:env.cells.lookup n=some c:=hc;rw[if_pos hk,if_pos hk]
    have e1:cellOf env n=pure c:=by unfold cellOf;rw[hc]
    rw[e1,hc];exact ih _
  · rw[if_neg hk,if_neg hk];exact ih _
theorem R4 {scope:Scope}{env:Env}(h:∀p∈scope.names,p.2= .free->∃c,env.cells.lookup p.1=some c):closureFor scope env=pure (n9 env scope.names []):=by
 have e:=S2 env scope.names [] h;unfold closureFor;show (forIn scope.names [] _ >>=_)=_;have e2:(forIn scope.names ([]:List (Str×Addr)) (fun (x:Str×NameKind) (r:List (Str×Addr))=>match x with|(name,kind)=>(if (kind==NameKind.free)=true then (do let a <-cellOf env name;pure PUnit.unit;pure (ForInStep.yield ((name,a)::r))) else (do pure PUnit.unit;pure (ForInStep.yield r)))):Sem (List (Str×Addr)))=pure (n9 env scope.names []):=e
 first
   |exact (congrArg (fun z=>z >>=fun cs=>pure cs) e2)
   |(rw[show (forIn scope.names ([]:List (Str×Addr)) _:Sem (List (Str×Addr)))=pure (n9 env scope.names []) from e];rfl)
section
variable {X:Cx}
def ao9 (X:Cx)(ifs:List Expr)(t:TT):Prop:=
 ∀(pins:List (Addr×Obj)) (s:Shared) (σ:St) (H:Hp) (Q:Bool->Hp->Prop),c7 X pins σ H s->t σ H Q->
  wpAny (model X.prog X.w) X.A (forIn ifs true fun c r=>if r=true then do let ok <-isTrue c X.env (eval c X.env);pure (ForInStep.yield ok) else pure (ForInStep.yield r)) (TP X pins σ Q) X.xe s
def bq6:TT:=fun _ H Q=>Q true H
theorem C6:ao9 X [] bq6:=fun pins s σ H Q I h=>by
 rw[List.forIn_nil];exact wpAny_pure ⟨H,I,h⟩
theorem ag9 {prog:Program}{w:World}{A:Around}{R:Result->Shared->Prop}{s:Shared}{elt target iter:Expr}{ifs:List Expr}{scope:Scope}{pos:Pos}{it acc:Value}{env:Env}(I:Nat->Shared->Prop)
   (turn:∀n s,I n s->wpAny (model prog w) A (pyNext it) (fun r s1=>match r with
     |none=>R (.ok .next) s1
     |some v=>wpAny (model prog w) A (letOwnedTupleGo target it v) (fun _ s2=>wpAny (model prog w) A (assign target env v) (fun _ s3=>
         wpAny (model prog w) A (forIn ifs true fun c r=>if r=true then do let ok <-isTrue c env (eval c env);pure (ForInStep.yield ok) else pure (ForInStep.yield r)) (fun ok s4=>
           if ok=true then wpAny (model prog w) A (eval elt env) (fun x s5=>
             wpAny (model prog w) A (call (.builtin "list.append") [acc,x]) (fun _ s6=>∃m,m < n/\I m s6) (fun _ _=>False) s5) (fun _ _=>False) s4
           else ∃m,m < n/\I m s4) (fun _ _=>False) s3) (fun _ _=>False) s2) (fun _ _=>False) s1) (fun _ _=>False) s)
   (n:Nat) (h:I n s):
   codeAny (model prog w) A (.compLoop (.ListComp elt [⟨target,iter,ifs,0⟩] scope pos) 0 it acc env) R s:=by
 refine codeAny_loop rfl I (fun n s hI=> ?_) n h;show wpAny _ A ((compTurn (.ListComp elt [⟨target,iter,ifs,0⟩] scope pos) 0 it acc env).onRaise (fun x=>do noteFrame x env;theTreesLotGoes x)) _ _ s;refine wpAny_noted ?_;rw[compTurn_list];refine wpAny_bind (wpAny_standAt (wpAny_bind (wpAny_mono (turn n s hI) (fun r s1 h1=> ?_) fun _ _ f=>f.elim)))
 cases r with
 |none=>exact wpAny_pure h1
 |some v=>
  refine wpAny_bind (wpAny_mono h1 (fun _ s2 h2=> ?_) fun _ _ f=>f.elim);refine wpAny_bind (wpAny_mono h2 (fun _ s3 h3=>wpAny_bind (wpAny_mono h3 (fun ok s4 h4=> ?_) fun _ _ f=>f.elim)) fun _ _ f=>f.elim)
  cases ok with
  |false=>exact wpAny_pure ⟨rfl,h4⟩
  |true=>
   exact wpAny_bind (wpAny_bind (wpAny_mono h4 (fun x s5 h5=>wpAny_bind (wpAny_mono h5 (fun _ s6 h6=>wpAny_pure (wpAny_pure ⟨rfl,h6⟩)) fun _ _ f=>f.elim)) fun _ _ f=>f.elim))
def ap0 (J:It)(g:TG)(tc:TT)(te:TE)(Q:VK)(σ0:St)(H0:Hp):Prop:=∃W:Nat->Nat->List V->St->Hp->Prop,(∃m,W 0 m [] σ0 H0)/\∀i m ys σ' H',W i m ys σ' H'->
 (J.stop i H'/\∀D,H' D=none->Q (.ref D) (g9 H' D (.lst ys)))\/
 (J.go i H'/\∃N:List V->St->Hp->Prop,(∀ys' σ2 H2,N ys' σ2 H2->∃m',m' < m/\W (i+1) m' ys' σ2 H2)/\∀x H2,J.yld i H' x H2->g x σ' H2 fun σ2 H3=>tc σ2 H3 fun b H4=>
   if b=true then te σ2 H4 fun y H5=>ys.length < sizeLine/\N (ys++[y]) σ2 H5 else N ys σ2 H4)
def ap1 (nl:Nat)(fr:List Nat)(wi:TI)(g:TG)(tc:TT)(te:TE):TE:=fun σ H Q=>wi σ H fun J H1=>ap0 J g tc te Q (X4 nl fr σ) H1
structure S3 (X:Cx)(N:List Str)(nl:Nat)(fr:List Nat)(scope:Scope):Prop where
 cell:∀y∈scope.names,y.2≠.cell
 kind:scope.kind= .function
 names:∀y∈scope.names,y.2= .local->scope.names.lookup y.1=some .local
 free:∀p∈scope.names,p.2= .free->X.env.kindOf p.1=some .cell\/X.env.kindOf p.1=some .free
 len:N.length=nl+fr.length
 fr:∀(k j:Nat),fr[k]? =some j->∃y,N[nl+k]? =some y/\X.N[j]? =some y/\Vis X.env.scope y/\scope.names.lookup y=some .free
theorem J0 {env:Env}:∀{names:List (Str×NameKind)} {x:Str} {k:NameKind},(names.map fun (n,k)=>if (k==NameKind.free&&env.scope.kind== .function&&env.kindOf n==some .cell) then (n,NameKind.cell) else (n,k)).lookup x=some k->
   k= .cell\/k= .free->(∀y∈names,y.2≠.cell)->∃p∈names,p.1=x/\p.2= .free
 |[],_,_,h,_,_=>by simp at h
 |(n,kn)::r,x,k,h,hk,hc=>by
  have ih:=@J0 env r x k;rw[bt9] at h;have hcn:kn≠.cell:=hc (n,kn) bs4
  have hr:∀y∈r,y.2≠.cell:=fun y hy=>hc y (bs7 _ hy)
  cases hx:x==n with
  |true=>
   have hxn:x=n:=eq_of_beq hx
   by_cases hcc:(kn==NameKind.free&&env.scope.kind== .function&&env.kindOf n==some .cell)=true
   · refine ⟨(n,kn),bs4,hxn.symm,?_⟩;simp only[bx6] at hcc
     simpa using hcc.1.1
   · dsimp only at h
     rw[if_neg hcc,bv7,hx] at h;have hkk:kn=k:=Option.some.inj h;subst hkk
     rcases hk with z|z
     · exact absurd z hcn
     · exact ⟨(n,kn),bs4,hxn.symm,z⟩
  |false=>
   by_cases hcc:(kn==NameKind.free&&env.scope.kind== .function&&env.kindOf n==some .cell)=true
   · dsimp only at h
     rw[if_pos hcc,bv7,hx] at h;obtain ⟨p,hp,q⟩:=ih h hk hr;exact ⟨p,bs7 _ hp,q⟩
   · dsimp only at h
     rw[if_neg hcc,bv7,hx] at h;obtain ⟨p,hp,q⟩:=ih h hk hr;exact ⟨p,bs7 _ hp,q⟩
theorem G7 {env:Env}:∀{names:List (Str×NameKind)} {x:Str},names.lookup x=some .free->
   (names.map fun (n,k)=>if (k==NameKind.free&&env.scope.kind== .function&&env.kindOf n==some .cell) then (n,NameKind.cell) else (n,k)).lookup x=some .cell\/
   (names.map fun (n,k)=>if (k==NameKind.free&&env.scope.kind== .function&&env.kindOf n==some .cell) then (n,NameKind.cell) else (n,k)).lookup x=some .free
 |[],_,h=>by simp at h
 |(n,kn)::r,x,h=>by
  have ih:=@G7 env r x;rw[bt9]
  dsimp only
  cases hx:x==n with
  |true=>
   rw[bv7,hx] at h;have hkn:kn= .free:=Option.some.inj h
   by_cases hcc:(kn==NameKind.free&&env.scope.kind== .function&&env.kindOf n==some .cell)=true
   · rw[if_pos hcc,bv7,hx];exact .inl rfl
   · rw[if_neg hcc,bv7,hx];exact .inr (congrArg some hkn)
  |false=>
   rw[bv7,hx] at h
   by_cases hcc:(kn==NameKind.free&&env.scope.kind== .function&&env.kindOf n==some .cell)=true
   · rw[if_pos hcc,bv7,hx];exact ih h
   · rw[if_neg hcc,bv7,hx];exact ih h
theorem q5.track {P:Program}{w:World}{H:Hp}{h:Heap}{a:Addr}{o:HO}(x:q5 P w H h)(hn:H a=none)(new:n6 P w (g9 H a o) h a o):q5 P w (g9 H a o) h:=fun b u e=>by
 by_cases hb:b=a
 · subst hb;rw[c9] at e;cases e;exact new
 · rw[g7 hb] at e
   exact (x b u e).stay (fun c v _ q=>q) (fun c q=>by rw[g7 (g6 q hn)];exact q) fun c xs q=>by rw[g7 (g6 q hn)];exact q
theorem ac0 {elt tg iter:Expr}{ifs:List Expr}{scope:Scope}{pos:Pos}{wi:TI}{g:TG}{tc:TT}{te:TE}{N:List Str}{nl:Nat}{fr:List Nat}
   (hc:X.calm=true) (hi:PI X tg iter wi) (hg:∀cl C s0 H0 ex,PG (C2 X N scope cl C s0 H0 ex) tg g) (ht:∀cl C s0 H0 ex,ao9 (C2 X N scope cl C s0 H0 ex) ifs tc)
   (he:∀cl C s0 H0 ex,PE (C2 X N scope cl C s0 H0 ex) elt te) (ok:S3 X N nl fr scope)
   {RR:Value->Addr->Result->Shared->Prop} {pins:List (Addr×Obj)} {s:Shared} {σ:St} {H:Hp} {Q:VK} (I:c7 X pins σ H s) (h:ap1 nl fr wi g tc te σ H Q)
   (hRR:∀D C s' H',c7 X pins σ H' s'->Q (.ref D) H'->S0 X pins H' C->(∃m,s'.heap.Ns C m)->RR (.ref D) C (.ok .next) s'):
   wpAny (model X.prog X.w) X.A (eval iter X.env) (fun x s1=>wpAny (model X.prog X.w) X.A (pyIter x) (fun it s2=>wpAny (model X.prog X.w) X.A (newList []) (fun acc s3=>
     wpAny (model X.prog X.w) X.A (newFunctionEnv scope X.env.globals (n9 X.env scope.names []) [] X.env.qual none .none (some X.env)) (fun cenv s4=>
       codeAny (model X.prog X.w) X.A (.compStart (.ListComp elt [⟨tg,iter,ifs,0⟩] scope pos) 0 it acc {cenv with scope:=relabel scope X.env}) (RR acc cenv.locals) s4) X.xe s3) X.xe s2) X.xe s1) X.xe s:=by
 refine j3 (hi pins s σ H _ I h) fun v s1 h1=>j3 h1 fun itv s2 h2=> ?_
 obtain ⟨it,fp,tn,J,H2,rfl,I2,T,st2,f2,W,⟨m0,w0⟩,turn⟩:=h2;refine wpAny_newObj_type (wpAny_newFunctionEnv ok.cell (by intro y hy;simp at hy) (fun h1 hns1 hsb1=> ?_) ok.kind)
 dsimp only at hns1 hsb1 ⊢
 generalize hHH:s2.heap.push {cls:= .type "list",dict:=none,data:= .seq ([]:List Value).toArray}=HH at hns1 hsb1 ⊢
 have hC:HH.objs.size=s2.heap.objs.size+1:=by rw[<-hHH,Heap.size_push]
 have hDC:s2.heap.objs.size≠HH.objs.size:=by rw[hC];exact bv5 (Nat.lt_succ_self _)
 have hCle:s2.heap.objs.size<=HH.objs.size:=by rw[hC];exact Nat.le_succ _
 have below:∀b,b < s2.heap.objs.size->b≠HH.objs.size/\b≠s2.heap.objs.size:=fun b hb=>⟨by rw[hC];exact bv5 (Nat.lt_succ_of_lt hb),bv5 hb⟩
 have old:∀b o,s2.heap.get? b=some o->h1.get? b=some o:=fun b o e=>hsb1.extBut b o (below b (Heap.lt_size e)).1 (Heap.get?_push_of_some _ (hHH▸Heap.get?_push_of_some _ e))
 have hacc:h1.get? s2.heap.objs.size=some {cls:= .type "list",data:= .seq ([]:List Value).toArray}:=hsb1.extBut _ _ hDC (Heap.get?_push_of_some _ (hHH▸Heap.get?_push_size _ rfl))
 have fplt:∀b∈fp,b < s2.heap.objs.size:=fun b hb=>by obtain ⟨o,e,_⟩:=T.obj 0 _ st2 b hb;exact Heap.lt_size e
 generalize hXd:C2 X N scope (n9 X.env scope.names []) HH.objs.size s2 H2 fp=X'
 have hfreeC:∀p∈scope.names,p.2= .free->∃c,X.env.cells.lookup p.1=some c:=fun p hp hf=>I.ok.has p.1 (ok.free p hp hf)
 have cellsSub:∀y c,(n9 X.env scope.names []).lookup y=some c->X.env.cells.lookup y=some c:=X5 X.env scope.names [] hfreeC (fun y c e=>by simp at e)
 have cellLt:∀y c,X.env.cells.lookup y=some c->c < s2.heap.objs.size:=fun y c e=>by obtain ⟨v,z⟩:=I2.cell y c e;exact z.lt
 have ok':X'.Ok:=by
   rw[<-hXd]
   refine ⟨I.ok.mod,?_,I.ok.glob,I.ok.blt,hCle,fun x y c e1 e2=>I.ok.inj x y c (cellsSub x c e1) (cellsSub y c e2),fun x hx=> ?_,fun x c hf=>(by cases hf),I.ok.hd,I.ok.frames,.inl rfl,
     fun b hb=>⟨(below b (fplt b hb)).1,fun x c e=>(f2 b hb).2.2.2.2.1 x c (cellsSub x c e)⟩,I2.bs,bw3 I.ok.bsz I2.sz,fun b o e hb=> ?_,fun b hb hfs=> ?_,I2.stack,I2.stkFree⟩
   · show (relabel scope X.env).kind= .function;exact ok.kind
   · have hx':∃p∈scope.names,p.1=x/\p.2= .free:=by
       rcases hx with z|z
       · exact J0 z (.inl rfl) ok.cell
       · exact J0 z (.inr rfl) ok.cell
     obtain ⟨p,hp,rfl,hpf⟩:=hx';exact P6 X.env scope.names [] p hp hpf
   · rcases (f2 b hb).2.2.2.1 with z|z
     · exact I.ok.noex b o e z
     · exact absurd (bu1 (Heap.lt_size e) (bw3 I.ok.bsz z)) (bx9 _)
   · rcases bw9.mp (I2.stkSub b hfs) with z|z
     · exact (f2 b hb).2.1 z
     · exact (f2 b hb).2.2.1 z
 have hX'd:X'.env.locals=HH.objs.size:=by rw[<-hXd];rfl
 have hX'c:X'.env.cells=n9 X.env scope.names []:=by rw[<-hXd];rfl
 have hX'pn:X'.pn=[]:=by rw[<-hXd];rfl
 have hX'ex:X'.ex=fp:=by rw[<-hXd];rfl
 have hX's0:X'.s₀=s2:=by rw[<-hXd];rfl
 have hX'H0:X'.H₀=H2:=by rw[<-hXd];rfl
 have hX'fs:X'.fs=M5 X.stack:=by rw[<-hXd];rfl
 have hX'xe:X'.xe=fun _ _=>False:=by rw[<-hXd];rfl
 have hX'A:X'.A=X.A:=by rw[<-hXd];rfl
 have hX'P:X'.prog=X.prog:=by rw[<-hXd];rfl
 have hX'w:X'.w=X.w:=by rw[<-hXd];rfl
 have hX'K:X'.K=X.K:=by rw[<-hXd];rfl
 have hX'calm:X'.calm=true:=by rw[<-hXd];exact hc
 have hX'env:X'.env=compEnvC scope (n9 X.env scope.names []) HH.objs.size X.env:=by rw[<-hXd];rfl
 have I':c7 X' [] (X4 nl fr σ) H2 {s2 with heap:=h1,toks:=s2.toks+([]:List (Str×Value)).length}:=by
   refine ⟨ok',by rw[hX's0],I2.bare,?_,?_,fun x c e=> ?_,?_,fun x c e=> ?_,fun p hp=> ?_,?_,?_⟩
   · rw[hX'fs,hX'ex,hX'H0,hX's0];exact Un.kept old
   · obtain ⟨m,hn,hl⟩:=I2.loc;rw[hX'd];refine ⟨_,hns1,fun i x v e1 e2 e3=> ?_⟩
     have hN':N[i]? =some x:=by rw[<-hXd] at e1;exact e1
     unfold X4 at e2
     have hi:¬i < nl:=fun hlt=>by
       rw[bv0 (by simpa using hlt),cc8,if_pos hlt] at e2;cases e2
     rw[bu0 (by simpa using hi),bz1,bt2] at e2
     cases ej:fr[i - nl]? with
     |none=>rw[ej] at e2;cases e2
     |some j=>
      rw[ej] at e2;obtain ⟨y,y1,y2,y3,y4⟩:=ok.fr (i - nl) j ej
      have hii:nl+(i - nl)=i:=by omega
      rw[hii,hN'] at y1;have hxy:x=y:=Option.some.inj y1;subst hxy;have e2':(σ[j]?).join=some v:=Option.some.inj e2
      have e2'':σ[j]? =some (some v):=by
        cases hσ:σ[j]? with
        |none=>rw[hσ] at e2';cases e2'
        |some z=>rw[hσ] at e2';exact congrArg some e2'
      obtain ⟨u,r,l⟩:=hl j x v y2 e2'' y3;have hkX:=ok.free (x,.free) (PySem.mem_of_lookup y4) rfl;refine ⟨u,r,.inr ⟨?_,?_⟩⟩
      · rw[hX'env]
        rcases G7 (env:=X.env) y4 with z|z
        · exact .inl z
        · exact .inr z
      · rcases l with ⟨k1,_⟩|⟨_,c,ec,hcell⟩
        · rcases hkX with z|z
          · rw[z] at k1;cases k1
          · rw[z] at k1;cases k1
        · obtain ⟨c',ec'⟩:=P6 X.env scope.names [] (x,.free) (PySem.mem_of_lookup y4) rfl
          have:c'=c:=by
            have q:=cellsSub x c' ec';rw[ec] at q;exact (Option.some.inj q).symm
          subst this;refine ⟨c',by rw[hX'c];exact ec',?_⟩;obtain ⟨oc,ho,hd⟩:=hcell;exact ⟨oc,old _ _ ho,hd⟩
   · rw[hX'c] at e;obtain ⟨v,oc,ho,hd⟩:=I2.cell x c (cellsSub x c e);exact ⟨v,oc,old _ _ ho,hd⟩
   · rw[hX'd];exact I2.hok.fresh hCle
   · rw[hX'c] at e;exact I2.freeC x c (cellsSub x c e)
   · rw[hX'pn] at hp;simp at hp
   · rw[hX'P,hX'w];exact I2.hok.kept old
   · unfold X4
     have:X'.N=N:=by rw[<-hXd];rfl
     rw[this,ok.len,bs6,bz1,bs1]
 have Dn:∀{H':Hp} {pins'} {s':Shared} {σ'},c7 X' pins' σ' H' s'->H' s2.heap.objs.size=none->∀o,s'.heap.get? s2.heap.objs.size=some o->(∀v,o.data≠.cell v)->c7 X' [(s2.heap.objs.size,o)] σ' H' s':=fun {H' pins' s' σ'} I3 hD o ho hnc=>
   I3.pins_of fun p hp=>by
     have e:p=(s2.heap.objs.size,o):=by simpa using hp
     subst e;refine ⟨ho,hD,by rw[hX'd];exact hDC,?_,hnc⟩;rw[hX'fs];intro hb
     rcases bw9.mp (I2.stkSub _ hb) with z|z
     · exact absurd (z▸I2.lt) (bx9 _)
     · exact I2.nofs (bs9 _) z
 have loop:∀s₃:Shared,s₃={s2 with heap:=h1,toks:=s2.toks+([]:List (Str×Value)).length}->
     codeAny (model X.prog X.w) X.A (.compLoop (.ListComp elt [⟨tg,iter,ifs,0⟩] scope pos) 0 (.ref it) (.ref s2.heap.objs.size) (compEnvC scope (n9 X.env scope.names []) HH.objs.size X.env)) (RR (.ref s2.heap.objs.size) HH.objs.size) s₃:=by
   rintro s₃ rfl
   refine ag9 (fun n s'=>∃(i:Nat) (σ':St) (H':Hp) (ys:List V) (its:List Value) (k:Nat),c7 X' [(s2.heap.objs.size,{cls:= .type "list",data:= .seq its.toArray k})] σ' H' s'/\h8 ys its/\ys.length<=sizeLine/\tn i s'.heap/\(∀b∈fp,H' b=none)/\W i n ys σ' H')
     ?_ m0 ⟨0,_,H2,[],[],0,Dn I' (I2.hok.fresh (bs9 _)) _ hacc (fun v z=>by cases z),.nil,bu9 _,T.keep 0 _ _ st2 fun b hb o e=>old b o e,fun b hb=>(f2 b hb).1,w0⟩
   rintro n s3 ⟨i,σ3,H3,ys,its,k,I3,rv,hyl,st3,fr3,w3⟩;have pinD:=I3.pin (s2.heap.objs.size,{cls:= .type "list",data:= .seq its.toArray k}) (by rw[hX'pn];exact bt1 _ bs4)
   have stat:∀{o:Obj} {H':Hp},(∀b∈fp,H' b=none)->∀b∈fp,S0 X' [(s2.heap.objs.size,o)] H' b:=fun {o H'} hn b hb=>by
     refine ⟨hn b hb,by rw[hX'd];exact (below b (fplt b hb)).1,fun z=>ok'.exfs b (by rw[hX'ex];exact hb) z,.inl (by rw[hX'ex];exact hb),fun x c e=>by rw[hX'c] at e;exact (f2 b hb).2.2.2.2.1 x c (cellsSub x c e),fun p hp=> ?_⟩;rw[hX'pn] at hp
     have e:p=(s2.heap.objs.size,o):=by simpa using hp
     subst e
     exact fun z=>(below b (fplt b hb)).2 z.symm
   rcases turn i n ys σ3 H3 w3 with ⟨stop,qn⟩|⟨go,Nx,hNx,step⟩
   · have dn:=T.done X' hX'P hX'w hX'K hX'calm i _ s3 σ3 H3 (fun _ _=>False) I3 (stat fr3) st3 stop;rw[hX'A] at dn
     refine j3 dn fun r s4 ⟨hr,I4⟩=> ?_
     subst hr;have pinE:=I4.pin (s2.heap.objs.size,{cls:= .type "list",data:= .seq its.toArray k}) (by rw[hX'pn];exact bt1 _ bs4)
     have ub:Un (M5 X.stack) fp H2 H3 s2.heap s4.heap:=by
       have:=I4.base;rw[hX'fs,hX'ex,hX'H0,hX's0] at this;exact this
     have hok4:q5 X.prog X.w H3 s4.heap:=by have:=I4.hok;rw[hX'P,hX'w] at this;exact this
     have nD:∀b u,H3 b=some u->b≠s2.heap.objs.size:=fun b u e z=>by rw[z,pinE.2.1] at e;cases e
     have u2:Un (M5 X.stack) fp H2 (g9 H3 s2.heap.objs.size (.lst ys)) s2.heap s4.heap:=
       ⟨ub.keep,ub.slot,fun b o e n' hx=>by rw[g7 (bv5 (Heap.lt_size e))];exact ub.free b o e n' hx,ub.there,
         fun b xs e=>by have:=ub.tups b xs e;rw[g7 (nD b _ this)];exact this,fun b o u e=>by have:=ub.frzs b o u e;rw[g7 (nD b _ this)];exact this,
         fun b ps e=>by obtain ⟨more,z⟩:=ub.tbls b ps e;exact ⟨more,by rw[g7 (nD b _ z)];exact z⟩⟩
     have I5:c7 X pins σ (g9 H3 s2.heap.objs.size (.lst ys)) s4:=by
       refine I2.call' (by rw[I4.os,hX's0]) u2 ?_ I4.bare fun b hb=>⟨(f2 b hb).2.2.2.1,(f2 b hb).2.1,(f2 b hb).2.2.2.2.1,(f2 b hb).2.2.2.2.2⟩
       exact q5.track hok4 pinE.2.1 ⟨hyl,its,k,rv,pinE.1⟩
     refine hRR _ _ s4 _ I5 (qn _ pinE.2.1) (I2.fpOk hCle ?_) ?_
     · rw[g7 (Ne.symm hDC)];have:=I4.free;rw[hX'd] at this;exact this
     · obtain ⟨m,hn,_⟩:=I4.loc;rw[hX'd] at hn;exact ⟨m,hn⟩
   · have im:=T.item X' hX'P hX'w hX'K hX'calm i _ s3 σ3 H3 (fun _ _=>False) I3 (stat fr3) st3 go;rw[hX'A] at im
     refine j3 im fun r s4 ⟨u,hr,h4⟩=> ?_
     subst hr
     refine j3 h4 fun _ s5 ⟨x,H5,I5,r5,y5,st5,fr5⟩=> ?_
     have I5':=I5.pinned (stat fr5) (T.obj _ _ st5);have gg:=hg (n9 X.env scope.names []) HH.objs.size s2 H2 fp;rw[hXd] at gg;have gg:=gg _ s5 σ3 H5 x u _ I5' r5 (step x H5 y5);rw[hX'A,hX'P,hX'w,hX'xe,hX'env] at gg
     refine j3 gg fun _ s6 ⟨σ6,H6,I6,q6⟩=> ?_
     have tt:=ht (n9 X.env scope.names []) HH.objs.size s2 H2 fp;rw[hXd] at tt;have tt:=tt _ s6 σ6 H6 _ I6 q6;rw[hX'A,hX'P,hX'w,hX'xe,hX'env] at tt
     refine j3 tt fun ok7 s7 ⟨H7,I7,q7⟩=> ?_
     have again:∀{s8:Shared} {σ8:St} {H8:Hp} {ys8:List V} {its8:List Value} {k8:Nat},c7 X' ([(s2.heap.objs.size,{cls:= .type "list",data:= .seq its8.toArray k8})]++K8 fp s5.heap) σ8 H8 s8->h8 ys8 its8->ys8.length<=sizeLine->Nx ys8 σ8 H8->
         ∃m,m < n/\∃(i:Nat) (σ':St) (H':Hp) (ys:List V) (its:List Value) (k:Nat),c7 X' [(s2.heap.objs.size,{cls:= .type "list",data:= .seq its.toArray k})] σ' H' s8/\h8 ys its/\ys.length<=sizeLine/\tn i s8.heap/\(∀b∈fp,H' b=none)/\W i m ys σ' H':=
       fun {s8 σ8 H8 ys8 its8 k8} I8 rv8 hl8 n8=>by
         obtain ⟨m',hm,w8⟩:=hNx ys8 σ8 H8 n8;refine ⟨m',hm,i+1,σ8,H8,ys8,its8,k8,I8.unpinned,rv8,hl8,T.keep _ _ _ st5 fun b hb o e=>(I8.pin (b,o) (bt1 _ (bt1 _ (K3 hb e)))).1,fun b hb=> ?_,w8⟩;obtain ⟨o,e,d⟩:=T.obj _ _ st5 b hb;exact (I8.pin (b,o) (bt1 _ (bt1 _ (K3 hb e)))).2.1
     cases ok7 with
     |false=>
      rw[if_neg bt0] at q7 ⊢;exact again I7 rv hyl q7
     |true=>
      rw[if_pos rfl] at q7 ⊢;have ee:=he (n9 X.env scope.names []) HH.objs.size s2 H2 fp;rw[hXd] at ee;have ee:=ee _ s7 σ6 H7 _ I7 q7;rw[hX'A,hX'P,hX'w,hX'xe,hX'env] at ee
      refine j3 ee fun yv s8 ⟨y,H8,I8,r8,hyl8,q8⟩=> ?_
      have pin8:=I8.pin (s2.heap.objs.size,{cls:= .type "list",data:= .seq its.toArray k}) (bt1 _ (bv9 _ bs4));refine wpAny_list_append_plain (items:=its.toArray) ⟨k,pin8.1⟩ (fun h9 hp9 hs9=> ?_) (by rw[bs5,<-rv.length];exact hyl);obtain ⟨k9,e9⟩:=hp9
      have I9:c7 X' (K8 fp s5.heap) σ6 H8 s8:=I8.pins_of fun p hp=>I8.pin p (bt1 _ (bt1 _ hp))
      have I9':c7 X' (K8 fp s5.heap) σ6 H8 {s8 with heap:=h9,toks:=s8.toks}:=by
        refine I9.turned (t':=s8.toks) (it:=s2.heap.objs.size) (fun b o hb e=>hs9.extBut b o hb e) pin8.2.1 (by rw[hX'd];exact hDC) (.inr (by rw[hX's0];exact bs9 _)) (fun x c e z=> ?_) fun p hp z=> ?_
        · rw[hX'c] at e;exact absurd (z▸cellLt x c (cellsSub x c e)) (bx9 _)
        · rw[hX'pn] at hp;obtain ⟨hb,_⟩:=ab1 (by simpa using hp);exact absurd (z▸fplt _ hb) (bx9 _)
      have e9':h9.get? s2.heap.objs.size=some {cls:= .type "list",data:= .seq (its++[yv]).toArray k9}:=by rw[e9];simp
      refine again (ys8:=ys++[y]) (its8:=its++[yv]) (k8:=k9) ?_ (h8.append rv (.cons r8 .nil)) (by rw[bs6];exact hyl8) q8
      refine I9'.pins_of fun p hp=> ?_
      rcases bt5.mp hp with z|z
      · have e:p=(s2.heap.objs.size,{cls:= .type "list",data:= .seq (its++[yv]).toArray k9}):=by simpa using z
        subst e;exact ⟨e9',pin8.2.1,pin8.2.2.1,pin8.2.2.2.1,fun v z=>by cases z⟩
      · exact I9'.pin p (bt1 _ z)
 exact codeAny_compStart_list (loop _ rfl) (T.self X.A 0 _ _ _ (T.keep 0 _ _ st2 fun b hb o e=>old b o e) (loop _ rfl))
end
end L2
namespace L2
open PySem PySem.Spec PyProof.Rows
section
variable {X:Cx}
theorem O7 {elt tg iter:Expr}{ifs:List Expr}{scope:Scope}{pos:Pos}{wi:TI}{g:TG}{tc:TT}{te:TE}{N:List Str}{nl:Nat}{fr:List Nat}
   (hc:X.calm=true) (ok:S3 X N nl fr scope) (hi:PI X tg iter wi) (hg:∀cl C s0 H0 ex,PG (C2 X N scope cl C s0 H0 ex) tg g) (ht:∀cl C s0 H0 ex,ao9 (C2 X N scope cl C s0 H0 ex) ifs tc)
   (he:∀cl C s0 H0 ex,PE (C2 X N scope cl C s0 H0 ex) elt te) (hs:∀x,foldedSetIterable iter X.env x=pure x:=by intro _;rfl):
   PE X (.ListComp elt [⟨tg,iter,ifs,0⟩] scope pos) (ap1 nl fr wi g tc te):=by
 intro pins s σ H Q I h
 have hclos:closureFor scope X.env=pure (n9 X.env scope.names []):=R4 fun p hp hf=>I.ok.has p.1 (ok.free p hp hf)
 rw[eval_ListComp];refine wpAny_comprehension_free (use:=none) rfl hs hclos ok.kind ok.names (ac0 (RR:=fun acc C=>compPost (model X.prog X.w) X.A X.xe none (EP X pins σ Q) acc C) hc hi hg ht he ok I h ?_);intro D C s' H' I' q f ⟨m,hn⟩;exact ⟨m,hn,fun h' hs'=>⟨.ref D,H',I'.turned (t':=s'.toks) (fun b o hb e=>hs'.extBut b o hb e) f.1 f.2.1 f.2.2.2.1 f.2.2.2.2.1 f.2.2.2.2.2,rfl,q⟩⟩
theorem am9 {i:Nat}{y:Str}{py spos:Pos}{elt tg iter:Expr}{ifs:List Expr}{scope:Scope}{pos:Pos}{wi:TI}{g:TG}{tc:TT}{te:TE}{N:List Str}{nl:Nat}{fr:List Nat}
   (hN:X.N.Nodup) (hi':X.N[i]? =some y) (hx:Loc X.env.scope y)
   (hc:X.calm=true) (ok:S3 X N nl fr scope) (hi:PI X tg iter wi) (hg:∀cl C s0 H0 ex,PG (C2 X N scope cl C s0 H0 ex) tg g) (ht:∀cl C s0 H0 ex,ao9 (C2 X N scope cl C s0 H0 ex) ifs tc)
   (he:∀cl C s0 H0 ex,PE (C2 X N scope cl C s0 H0 ex) elt te) (hsw:swapsWith (.ListComp elt [⟨tg,iter,ifs,0⟩] scope pos) (some (.Name y py)) spos.line X.env=pure true:=by rfl)
   (hs:∀x,foldedSetIterable iter X.env x=pure x:=by intro _;rfl)
   (hf:X.fn y=true\/X.env.scope.names.lookup y=some .local:=by first|exact .inl rfl|exact .inr rfl|assumption):
   PS X (.Assign [.Name y py] (.ListComp elt [⟨tg,iter,ifs,0⟩] scope pos) spos) (ax2 (ap1 nl fr wi g tc te) (an7 i)):=by
 intro pins s σ H Dn I h
 have hclos:closureFor scope X.env=pure (n9 X.env scope.names []):=R4 fun p hp hf=>I.ok.has p.1 (ok.free p hp hf)
 rw[exec_Assign_Name_used _ _ _ _ hsw];refine wpAny_bind (wpAny_standAt (wpAny_bind ?_));show wpAny _ X.A (do let _ <-comprehension (.ListComp elt [⟨tg,iter,ifs,0⟩] scope pos) scope X.env _ (newList []) false (eval iter X.env) (some (assign (.Name y py) X.env))) _ _ s
 refine wpAny_bind (wpAny_mono (wpAny_comprehension_free (use:=some (assign (.Name y py) X.env)) (Q:=fun _ s'=>SP X pins Dn .next s') rfl hs hclos ok.kind ok.names
   (ac0 (RR:=fun acc C=>compPost (model X.prog X.w) X.A X.xe (some (assign (.Name y py) X.env)) (fun _ s'=>SP X pins Dn .next s') acc C) hc hi hg ht he ok I h ?_)) (fun _ s' hq=>wpAny_pure (wpAny_pure hq)) fun _ _ e=>e)
 intro D C s' H' I' q f ⟨m,hn⟩;show wpAny _ X.A (assign (.Name y py) X.env (.ref D)) _ _ _;refine wpAny_assign_Name (ab0 I' hN hi' hx (v:= .ref D) rfl (fun s2 I2 ⟨a,sb,ha⟩=> ?_) hf)
 have hCa:C≠a:=by
   rcases ha with z|z
   · rw[z];exact f.2.1
   · exact fun e=>f.2.2.2.2.1 _ _ z e.symm
 exact ⟨m,hn.sameBut sb hCa,fun h' hs'=>⟨_,H',I2.turned (t':=s2.toks) (fun b o hb e=>hs'.extBut b o hb e) f.1 f.2.1 f.2.2.2.1 f.2.2.2.2.1 f.2.2.2.2.2,q⟩⟩
theorem C9 {K:PySem.W.Frag}{a:Addr}{xs:List V}{g:TG}{tc:TT}{te:TE}{σ0:St}{H:Hp}{Q:VK}(Pv:Nat->List V->St->Hp->Prop)(h0:Pv 0 [] σ0 H)(hl:∀i ys σ H,i<=xs.length->Pv i ys σ H->g8 K H a xs)
   (hs:∀i x ys σ H,xs[i]? =some x->Pv i ys σ H->g x σ H fun σ2 H2=>tc σ2 H2 fun b H4=>if b=true then te σ2 H4 fun y H5=>ys.length < sizeLine/\Pv (i+1) (ys++[y]) σ2 H5 else Pv (i+1) ys σ2 H4)
   (hd:∀ys σ H,Pv xs.length ys σ H->∀D,H D=none->Q (.ref D) (g9 H D (.lst ys))):
   ap0 (Itl K a) g tc te Q σ0 H:=by
 refine ⟨fun i m ys σ H=>m=xs.length - i/\i<=xs.length/\Pv i ys σ H,⟨xs.length,by simp,bu9 _,h0⟩,?_⟩;rintro i m ys σ H ⟨rfl,hi,p⟩;have q:=hl i ys σ H hi p
 by_cases hlt:i < xs.length
 · refine .inr ⟨⟨xs,xs[i],q,by simp [hlt]⟩,Pv (i+1),fun ys' σ' H' p'=>⟨xs.length - (i+1),by omega,rfl,hlt,p'⟩,fun x H' y=> ?_⟩;obtain ⟨e,y⟩:=y;subst e;exact hs i x ys σ _ (y xs q) p
 · have e:i=xs.length:=by omega
   subst e;exact .inl ⟨⟨xs,q,bs9 _⟩,hd ys σ H p⟩
theorem ap2 {lo:Int}{n:Nat}{g:TG}{tc:TT}{te:TE}{σ0:St}{H:Hp}{Q:VK}(Pv:Nat->List V->St->Hp->Prop)(h0:Pv 0 [] σ0 H)
   (hs:∀i ys σ H,i < n->Pv i ys σ H->g (.int (lo+i)) σ H fun σ2 H2=>tc σ2 H2 fun b H4=>if b=true then te σ2 H4 fun y H5=>ys.length < sizeLine/\Pv (i+1) (ys++[y]) σ2 H5 else Pv (i+1) ys σ2 H4)
   (hd:∀ys σ H,Pv n ys σ H->∀D,H D=none->Q (.ref D) (g9 H D (.lst ys))):
   ap0 (Itr lo n) g tc te Q σ0 H:=by
 refine ⟨fun i m ys σ H=>m=n - i/\i<=n/\Pv i ys σ H,⟨n,by simp,bu9 _,h0⟩,?_⟩;rintro i m ys σ H ⟨rfl,hi,p⟩
 by_cases hlt:i < n
 · refine .inr ⟨hlt,Pv (i+1),fun ys' σ' H' p'=>⟨n - (i+1),by omega,rfl,hlt,p'⟩,fun x H' y=> ?_⟩;obtain ⟨e,y⟩:=y;subst e y;exact hs i ys σ _ hlt p
 · have e:i=n:=by omega
   subst e;exact .inl ⟨bs9 _,hd ys σ H p⟩
inductive X6 (K:PySem.W.Frag)(H:Hp):Nat->V->V->Bool->Prop where
 |flat {n:Nat} {x y:V}:ae6 x=true->ae6 y=true->X6 K H n x y (eqV x y)
 |same {n:Nat} (a:Addr):X6 K H n (.ref a) (.ref a) true
 |lists {n:Nat} {a b:Addr} {xs ys:List V} (e:Nat->Bool):a≠b->g8 K H a xs->g8 K H b ys->xs.length=ys.length->(∀(j:Nat) x y,xs[j]? =some x->ys[j]? =some y->X6 K H n x y (e j))->X6 K H (n+1) (.ref a) (.ref b) ((bx5 xs.length).all e)
 |lens {n:Nat} {a b:Addr} {xs ys:List V}:a≠b->g8 K H a xs->g8 K H b ys->xs.length≠ys.length->X6 K H (n+1) (.ref a) (.ref b) false
theorem at3 {pins:List (Addr×Obj)}{σ:St}{H:Hp}{s:Shared}(I:c7 X pins σ H s){n:Nat}{x y:V}{b:Bool}(d:X6 X.K H n x y b):
   ∀{A:Around} {u v:Value},A.units+n < cLine->j4 x u->j4 y v->SeqAt.EqAt A s u v b:=by
 induction d with
 |flat fx fy=>intro A u v _ rx ry;exact bi5 rx ry fx fy
 |same a=>intro A u v _ rx ry;cases rx;cases ry;exact SeqAt.EqAt.same _
 |@lists n a c xs ys e ne ha hb hl _ ih=>
  intro A u v hu rx ry;cases rx;cases ry;obtain ⟨its,r1,p1,_⟩:=I.list ha;obtain ⟨its2,r2,p2,_⟩:=I.list hb;have l1:=r1.length;have l2:=r2.length;refine SeqAt.EqAt.of_refs ne ?_
  have q:=SeqAt.RcAt.lists (A:=A) (e:=e) p1.isList p2.isList (by rw[bs5,bs5];omega) (by omega) (fun j h1 h2=>by
    have h1':j < its.length:=by simpa using h1
    have h2':j < its2.length:=by simpa using h2
    have e1:xs[j]? =some (xs[j]'(by omega)):=bs2 _;have e2:ys[j]? =some (ys[j]'(by omega)):=bs2 _;obtain ⟨u1,z1,q1⟩:=r1.get e1;obtain ⟨u2,z2,q2⟩:=r2.get e2
    have w1:its.toArray[j]=u1:=by
      rw[bs2 h1'] at z1
      simpa using z1
    have w2:its2.toArray[j]=u2:=by
      rw[bs2 h2'] at z2
      simpa using z2
    rw[w1,w2]
    exact ih j _ _ e1 e2 (by show A.in1.units+n < cLine;have:A.in1.units=A.units+1:=by first|rfl|simp [Around.in1]
                             omega) q1 q2)
  rw[bs5,<-l1] at q;exact q
 |lens ne ha hb hl=>
  intro A u v hu rx ry;cases rx;cases ry;obtain ⟨its,r1,p1,_⟩:=I.list ha;obtain ⟨its2,r2,p2,_⟩:=I.list hb;have l1:=r1.length;have l2:=r2.length;exact SeqAt.EqAt.of_refs ne (SeqAt.RcAt.lists_lengths p1.isList p2.isList (by rw[bs5,bs5];simp;omega) (by omega))
def LEq (K:PySem.W.Frag)(H:Hp)(n:Nat)(xs ys:List V)(r:Bool):Prop:=
 (xs.length≠ys.length/\r=false)\/(∃e:Nat->Bool,xs.length=ys.length/\(∀(j:Nat) x y,xs[j]? =some x->ys[j]? =some y->X6 K H n x y (e j))/\r=(bx5 xs.length).all e)
theorem bj6 {pins:List (Addr×Obj)}{σ:St}{H:Hp}{s:Shared}(I:c7 X pins σ H s){A:Around}{n:Nat}{a b:Addr}{xs ys:List V}{r:Bool}(hu:A.units+n+1 < cLine)(ha:g8 X.K H a xs)(hb:g8 X.K H b ys)(d:LEq X.K H n xs ys r):
   SeqAt.RcAt A s (.ref a) (.ref b) r:=by
 obtain ⟨its,r1,p1,_⟩:=I.list ha;obtain ⟨its2,r2,p2,_⟩:=I.list hb;have l1:=r1.length;have l2:=r2.length
 rcases d with ⟨hl,rfl⟩|⟨e,hl,he,rfl⟩
 · exact SeqAt.RcAt.lists_lengths p1.isList p2.isList (by rw[bs5,bs5];simp;omega) (by omega)
 · have q:=SeqAt.RcAt.lists (A:=A) (e:=e) p1.isList p2.isList (by rw[bs5,bs5];omega) (by omega) (fun j h1 h2=>by
     have h1':j < its.length:=by simpa using h1
     have h2':j < its2.length:=by simpa using h2
     have e1:xs[j]? =some (xs[j]'(by omega)):=bs2 _;have e2:ys[j]? =some (ys[j]'(by omega)):=bs2 _;obtain ⟨u1,z1,q1⟩:=r1.get e1;obtain ⟨u2,z2,q2⟩:=r2.get e2
     have w1:its.toArray[j]=u1:=by
       rw[bs2 h1'] at z1
       simpa using z1
     have w2:its2.toArray[j]=u2:=by
       rw[bs2 h2'] at z2
       simpa using z2
     rw[w1,w2]
     exact at3 I (he j _ _ e1 e2) (by show A.in1.units+n < cLine;have:A.in1.units=A.units+1:=by first|rfl|simp [Around.in1]
                                      omega) q1 q2)
   rw[bs5,<-l1] at q;exact q
end
end L2
namespace L2
open PySem PySem.Spec PyProof.Rows
section
variable {X:Cx}
theorem ay4 {pins:List (Addr×Obj)}{σ:St}{H:Hp}{s:Shared}(I:c7 X pins σ H s){A:Around}{n:Nat}{a b:Addr}{xs ys:List V}{r:Bool}(hu:A.units+n+1 < cLine)(ha:g8 X.K H a xs)(hb:g8 X.K H b ys)(d:LEq X.K H n xs ys r):
   SeqAt.RcNeAt A s (.ref a) (.ref b) (!r):=by
 obtain ⟨its,r1,p1,_⟩:=I.list ha;obtain ⟨its2,r2,p2,_⟩:=I.list hb;have l1:=r1.length;have l2:=r2.length
 rcases d with ⟨hl,rfl⟩|⟨e,hl,he,rfl⟩
 · exact SeqAt.RcNeAt.lists_lengths p1.isList p2.isList (by rw[bs5,bs5];simp;omega) (by omega)
 · have q:=SeqAt.RcNeAt.lists (A:=A) (e:=e) p1.isList p2.isList (by rw[bs5,bs5];omega) (by omega) (fun j h1 h2=>by
     have h1':j < its.length:=by simpa using h1
     have h2':j < its2.length:=by simpa using h2
     have e1:xs[j]? =some (xs[j]'(by omega)):=bs2 _;have e2:ys[j]? =some (ys[j]'(by omega)):=bs2 _;obtain ⟨u1,z1,q1⟩:=r1.get e1;obtain ⟨u2,z2,q2⟩:=r2.get e2
     have w1:its.toArray[j]=u1:=by
       rw[bs2 h1'] at z1
       simpa using z1
     have w2:its2.toArray[j]=u2:=by
       rw[bs2 h2'] at z2
       simpa using z2
     rw[w1,w2]
     exact at3 I (he j _ _ e1 e2) (by show A.in1.units+n < cLine;have:A.in1.units=A.units+1:=by first|rfl|simp [Around.in1]
                                      omega) q1 q2)
   rw[bs5,<-l1] at q;exact q
def bj7 (K:PySem.W.Frag)(n:Nat)(neg:Bool):R2:=fun x y H Q=>∃a b xs ys r,x= .ref a/\y= .ref b/\g8 K H a xs/\g8 K H b ys/\LEq K H n xs ys r/\Q (.bl (if neg then !r else r)) H
theorem at5 (n:Nat)(hu:X.A.units+n+1 < cLine):C0 X (compareOp .Eq) (bj7 X.K n false):=by
 intro pins s σ H x y v u Q I rx ry h;obtain ⟨a,b,xs,ys,r,rfl,rfl,ha,hb,d,q⟩:=h;cases rx;cases ry;exact bj6 I hu ha hb d _ _ _ _ ⟨.bl r,H,I,rfl,q⟩
theorem ah0 (n:Nat)(hu:X.A.units+n+1 < cLine):C0 X (compareOp .NotEq) (bj7 X.K n true):=by
 intro pins s σ H x y v u Q I rx ry h;obtain ⟨a,b,xs,ys,r,rfl,rfl,ha,hb,d,q⟩:=h;cases rx;cases ry;exact ay4 I hu ha hb d _ _ _ _ ⟨.bl (!r),H,I,rfl,q⟩
theorem ad4 {n:Nat}{e:Nat->Bool}:(bx5 n).all e=true↔∀j,j < n->e j=true:=by
 rw[bz5];exact ⟨fun h j hj=>h j (bw6.mpr hj),fun h j hj=>h j (bw6.mp hj)⟩
theorem V0 (K:PySem.W.Frag)(H:Hp)(n:Nat)(ns ms:List Int):LEq K H n (ns.map V.int) (ms.map V.int) (decide (ns=ms)):=by
 by_cases hl:ns.length=ms.length
 · refine .inr ⟨fun j=>decide (ns[j]? =ms[j]?),by simpa using hl,fun j x y e1 e2=> ?_,?_⟩
   · rw[bt2] at e1 e2
     cases h1:ns[j]? with
     |none=>rw[h1] at e1;cases e1
     |some a=>
      cases h2:ms[j]? with
      |none=>rw[h2] at e2;cases e2
      |some b=>
       rw[h1] at e1;rw[h2] at e2;cases e1;cases e2;have q:X6 K H n (V.int a) (V.int b) (eqV (V.int a) (V.int b)):= .flat rfl rfl
       have e:eqV (V.int a) (V.int b)=decide (some a=some b):=by
         show (a==b)=_
         by_cases z:a=b
         · subst z;simp
         · rw[decide_eq_false (fun w=>z (Option.some.inj w))];simpa using z
       rw[e] at q;show X6 K H n _ _ (decide (ns[j]? =ms[j]?));rw[h1,h2];exact q
   · rw[bz9,decide_eq_true_iff,ad4];constructor
     · intro h j _;subst h;simp
     · intro h
       refine bx4 fun j=> ?_
       by_cases hj:j < ns.length
       · exact of_decide_eq_true (h j (by simpa using hj))
       · rw[bt8 (by omega),bt8 (by omega)]
 · refine .inl ⟨by simpa using hl,?_⟩
   exact decide_eq_false fun h=>hl (by rw[h])
theorem ak7:C4 X (.type "range") (fun xs H Q=>∃j,xs=[.int j]/\∀p,H p=none->Q (.ref p) (g9 H p (.rng 0 j))):=by
 intro pins s σ H xs us Q I r h;obtain ⟨j,rfl,q⟩:=h;obtain ⟨u,rfl,⟨t,rfl⟩⟩:=M7 r;refine call_range_1 ⟨.ref s.heap.objs.size,_,I.laid (fun b o e=>Heap.get?_push_of_some _ e) (bs9 _) ?_,rfl,q _ (I.hok.fresh (bs9 _))⟩;exact ⟨_,_,_,Heap.get?_push_size _ rfl⟩
def C7 (lo:Int)(n:Nat):List Int:=(bx5 n).map fun (i:Nat)=>lo+(i:Int)
theorem ap3 {lo:Int}{n:Nat}{acc:Array Value}(h:ItemsOf (fun i v=>∃t,v=Value.int (lo+(i:Int)*1) t) acc n):h8 ((C7 lo n).map V.int) acc.toList:=by
 obtain ⟨hs,hv⟩:=h
 have key:∀(l:List Value) (k:Nat),(∀(j:Nat) v,l[j]? =some v->∃t,v=Value.int (lo+((k+j:Nat):Int)) t)->h8 (((bx5 l.length).map fun (i:Nat)=>lo+((k+i:Nat):Int)).map V.int) l:=by
   intro l
   induction l with
   |nil=>intro k _;exact .nil
   |cons v r ih=>
    intro k hk
    have e:(((bx5 r.length).map Nat.succ).map fun (i:Nat)=>lo+((k+i:Nat):Int))=(bx5 r.length).map fun (i:Nat)=>lo+((k+1+i:Nat):Int):=by
      rw[by8]
      refine by6 fun i _=> ?_
      show lo+((k+(i+1):Nat):Int)=_
      congr 2;omega
    rw[bw4,List.range_succ_eq_map,bt9,bt9,e];refine .cons ?_ ?_
    · obtain ⟨t,e⟩:=hk 0 v rfl;exact ⟨t,e⟩
    · have:=ih (k+1) fun j w e=>by
        obtain ⟨t,z⟩:=hk (j+1) w (by simpa using e);exact ⟨t,by rw[z];congr 2;omega⟩
      exact this
 have:=key acc.toList 0 fun j v e=>by
   obtain ⟨t,z⟩:=hv j v (by simpa using e);exact ⟨t,by rw[z,Int.mul_one];simp⟩
 have hl:acc.toList.length=n:=by simpa using hs
 rw[hl] at this
 have e:((bx5 n).map fun (i:Nat)=>lo+((0+i:Nat):Int))=C7 lo n:=by
   unfold C7
   refine by6 fun i _=> ?_
   simp
 rw[e] at this;exact this
theorem ad5 (hc:X.calm=true):C4 X (.type "list") (fun xs H Q=>∃p lo hi,xs=[.ref p]/\H p=some (.rng lo hi)/\(-(2^62)<=lo/\lo < 2^62/\ -(2^62)<=hi/\hi < 2^62)/\(hi - lo).toNat<=2^20/\
   ∀l,H l=none->Q (.ref l) (g9 H l (.lst ((C7 lo (hi - lo).toNat).map V.int)))):=by
 intro pins s σ H xs us Q I r h;obtain ⟨p,lo,hi,rfl,hp,⟨b1,b2,b3,b4⟩,hz,q⟩:=h;obtain ⟨u,rfl,rx⟩:=M7 r;cases rx;obtain ⟨t,u,v,ho⟩:=I.hok p _ hp
 refine call_list_range (n:=(hi - lo).toNat) (I.ok.hd hc) (r:=p) ho (small_one b1 b2 b3 b4) (by rw[rangeSize_one];split<;>omega) (bw3 hz (by decide)) fun h' tk acc' c' hk e it=> ?_
 have rv:=ap3 it;refine ⟨.ref s.heap.objs.size,_,I.laid hk (bs9 _) (show n6 X.prog X.w _ h' _ (.lst ((C7 lo (hi - lo).toNat).map V.int)) from ⟨?_,acc'.toList,c',rv,by rw[e]⟩),rfl,q _ (I.hok.fresh (bs9 _))⟩;unfold C7;rw[bs1,bs1,by2];exact bw3 hz (by rw[sizeLine_eq];decide)
theorem at6 (hc:X.calm=true):C4 X (.builtin "sum") (fun xs H Q=>∃(p:Addr) (ns:List Int),xs=[.ref p]/\g8 X.K H p (ns.map V.int)/\Q (.int ns.sum) H):=by
 intro pins s σ H xs us Q I r h;obtain ⟨p,ns,rfl,hp,q⟩:=h;obtain ⟨u,rfl,rx⟩:=M7 r;cases rx;obtain ⟨its,rv,pl,_⟩:=I.list hp;have ia:=ao4 rv;obtain ⟨xs,hxs⟩:=ia.allInts.items;have hn:=ia.numsOf
 have hxl:its=(intItems xs).toList:=by rw[<-hxs]
 rw[hxl,nums_intItems] at hn;have hl:=pl.isList;rw[hxs] at hl
 refine sum_intListG (I.ok.hd hc) hl fun h' tk t' hk=>⟨.int ns.sum,H,I.kept hk,?_,q⟩
 rw[preSum_eq,ca6 (by simp),hn];exact ⟨_,rfl⟩
end
end L2
namespace L2
open PySem PySem.Spec PyProof.Rows
section
variable {X:Cx}
theorem ay5:C4 X (.builtin "isinstance") (fun xs H Q=>∃x n t b,xs=[x,.ty n]/\C5 X.K H x t/\PySem.W.kitOne X.K t (.type n)=some b/\Q (.bl b) H):=by
 intro pins s σ H xs us Q I r h;obtain ⟨x,n,t,b,rfl,ty,e,q⟩:=h;obtain ⟨u,w',rfl,rx,ry⟩:=ao2 r;cases (show w'=Value.type n from ry)
 exact as1 I rx ty e fun tk=>⟨.bl b,H,I.tok tk,rfl,q⟩
theorem L4 (K:PySem.W.Frag)(n:String):PySem.W.kitOne K (.type n) (.type n)=some true:=by
 unfold PySem.W.kitOne;rw[if_pos (beq_self_eq_true _)]
theorem ah1 (K:PySem.W.Frag):PySem.W.kitOne K (.type "int") (.type "bool")=some false:=by
 unfold PySem.W.kitOne PySem.W.kitCls;rw[if_neg (by decide+kernel)];show (if PySem.W.kitMeta "bool"=true then (fastBuiltinMro "int").map (·.contains (Value.type "bool")) else none)=some false;rw[if_pos (by decide+kernel)]
 decide+kernel
theorem ay6:bootBuiltins "int"=some (.type "int"):=by decide+kernel
theorem at7:bootBuiltins "bool"=some (.type "bool"):=by decide+kernel
theorem P7:bootBuiltins "list"=some (.type "list"):=by decide+kernel
theorem ak8:bootBuiltins "range"=some (.type "range"):=by decide+kernel
theorem ay7:bootBuiltins "isinstance"=some (.builtin "isinstance"):=by decide+kernel
theorem at8:bootBuiltins "sum"=some (.builtin "sum"):=by decide+kernel
theorem at9:bootBuiltins "min"=some (.builtin "min"):=by decide+kernel
theorem au0:bootBuiltins "max"=some (.builtin "max"):=by decide+kernel
end
def i3 (a:Addr)(H H':Hp):Prop:=∀b o,H b=some o->b≠a->H' b=some o
theorem i3.refl (a:Addr)(H:Hp):i3 a H H:=fun _ _ h _=>h
theorem i3.trans {a:Addr}{H H1 H2:Hp}(x:i3 a H H1)(y:i3 a H1 H2):i3 a H H2:=fun b o h n=>y b o (x b o h n) n
theorem e8.but {H H':Hp}(a:Addr)(s:e8 H H'):i3 a H H':=fun b o h _=>s b o h
theorem e8.upd_new {H:Hp}{p:Addr}{o:HO}(h:H p=none):e8 H (g9 H p o):=fun b u e=>by rw[g7 (g6 e h)];exact e
theorem i3.upd {H:Hp}{a:Addr}{o:HO}:i3 a H (g9 H a o):=fun b u e n=>by rw[g7 n];exact e
theorem e8.upd_r {H H':Hp}{p:Addr}{o:HO}(s:e8 H H')(h:H p=none):e8 H (L2.g9 H' p o):=fun b u e=>by rw[g7 (g6 e h)];exact s b u e
theorem i3.upd_r {a:Addr}{H H':Hp}{p:Addr}{o:HO}(k:i3 a H H')(h:H p=none):i3 a H (L2.g9 H' p o):=fun b u e n=>by rw[g7 (g6 e h)];exact k b u e n
theorem i3.upd_a {a:Addr}{H H':Hp}{o:HO}(k:i3 a H H'):i3 a H (L2.g9 H' a o):=fun b u e n=>by rw[g7 n];exact k b u e n
end L2
namespace L2
open PySem PySem.Spec PyProof.Rows
def j9 (P:Program)(w:World)(K:PySem.W.Frag)(mg:Str->Option Value)(base:Heap)(x:Str)(k:Nat)(ps:List Str)(sp:Sp):Prop:=
 ∃(f:Addr) (fd:FuncData),mg x=some (.ref f)/\PySem.W.keepIn K (.ref f)=true/\P2 K fd ps []/\m5 P w K mg base p5 k f fd ps sp
section
variable {X:Cx} {x:Str} {p pos:Pos} {e:Expr} {es:List Expr} {t:TA} {k:Nat} {ps:List Str} {sp:Sp}
theorem i5 (c:j9 X.prog X.w X.K X.mg X.base x k ps sp)(hr:l5 k X.A)(ha:PA X (e::es) t)(hg:Gl X x:=by rfl)(hdb:(x==("__debug__":Str))=false:=by decide)
   (he:starEach (e::es) X.env=(false,eval e X.env)::starEach es X.env:=by rfl) (hpl:(backTo pos (starEach es X.env)).any (·.1)=false:=by rfl):
   PE X (.Call (.Name x p) (e::es) [] pos) (bc5 sp [] E0 t):=by
 obtain ⟨f,fd,h1,h2,h3,h4⟩:=c;exact bd4 h4 hr hg h1 h2 h3 .nil bm6 ha hdb he hpl
theorem O8 {a b:Expr}{ta:TA}(hm:X.mg "isinstance"=none)(ha:PA X [a,b] ta)(hg:Gl X "isinstance":=by rfl)
   (he:starEach [a,b] X.env=(false,eval a X.env)::starEach [b] X.env:=by rfl) (hpl:(backTo pos (starEach [b] X.env)).any (·.1)=false:=by rfl):
   PE X (.Call (.Name "isinstance" p) [a,b] [] pos) (O6 (fun xs H Q=>∃x n t b,xs=[x,.ty n]/\C5 X.K H x t/\PySem.W.kitOne X.K t (.type n)=some b/\Q (.bl b) H) ta):=
 K9 ay5 hg hm ay7 ha (by decide) (by decide) he hpl
theorem ay8 (hm:X.mg "int"=none)(hg:Gl X "int":=by rfl):PE X (.Name "int" p) (tC (.ty "int")):=T5 hg hm ay6 rfl
theorem au1 (hm:X.mg "bool"=none)(hg:Gl X "bool":=by rfl):PE X (.Name "bool" p) (tC (.ty "bool")):=T5 hg hm at7 rfl
theorem S4 (hm:X.mg "list"=none)(hg:Gl X "list":=by rfl):PE X (.Name "list" p) (tC (.ty "list")):=T5 hg hm P7 rfl
theorem p0 (hm:X.mg "len"=none)(ha:PA X [e] t)(hg:Gl X "len":=by rfl)
   (he:starEach [e] X.env=(false,eval e X.env)::starEach [] X.env:=by rfl):PE X (.Call (.Name "len" p) [e] [] pos) (O6 (fun xs H Q=>∃p ys,xs=[.ref p]/\(g8 X.K H p ys\/E7 X.K H p ys)/\Q (.int ys.length) H) t):=
 K9 ag5 hg hm PySem.boot_len ha (by decide) (by decide) he rfl
end
end L2
namespace Mth
structure m4 (p:List Int):Prop where
 nd:p.Nodup
 lo:∀x∈p,0<=x
 hi:∀x∈p,x < p.length
theorem t8 {n:Nat}{x:Int}:x∈L2.C7 0 n↔0<=x/\x < n:=by
 unfold L2.C7;rw[bu5];constructor
 · rintro ⟨i,hi,rfl⟩;have:=bw6.mp hi;omega
 · rintro ⟨h1,h2⟩;exact ⟨x.toNat,bw6.mpr (by omega),by omega⟩
theorem p8 (lo:Int)(n:Nat):(L2.C7 lo n).length=n:=by
 unfold L2.C7;rw[bs1,by2]
theorem r9 (n:Nat):(L2.C7 0 n).Nodup:=by
 unfold L2.C7;rw[bt7,bz2];exact List.Pairwise.imp (fun {a b} (h:a < b)=>by omega) List.pairwise_lt_range
theorem N4 {p:List Int}{n:Nat}(h:p.Perm (L2.C7 0 n)):m4 p/\p.length=n:=by
 have hl:p.length=n:=by rw[h.length_eq,p8]
 refine ⟨⟨h.nodup_iff.mpr (r9 n),fun x hx=>(t8.mp (h.mem_iff.mp hx)).1,fun x hx=> ?_⟩,hl⟩;have:=(t8.mp (h.mem_iff.mp hx)).2;omega
theorem ad6:∀(n:Nat) (p:List Nat),p.Nodup->(∀x∈p,x < n)->p.length=n->p.Perm (bx5 n):=by
 intro n
 induction n with
 |zero=>intro p _ _ hl;rw[bx1 hl];exact List.Perm.refl _
 |succ n ih=>
  intro p nd hb hl
  by_cases hn:n∈p
  · obtain ⟨s,t,rfl⟩:=cc1 hn;have pm:(s++n::t).Perm (n::(s++t)):=List.perm_middle;have nd':=pm.nodup_iff.mp nd;obtain ⟨h1,h2⟩:=bw7.mp nd'
    have:=ih (s++t) h2 (fun x hx=>by
      have hx':x < n+1:=hb x (pm.mem_iff.mpr (bs7 _ hx))
      have:x≠n:=fun e=>h1 (e▸hx)
      omega) (by rw[bs6,bw4] at hl;rw[bs6];omega)
    refine pm.trans ?_;rw[List.range_succ];exact (List.Perm.cons n this).trans (List.perm_append_comm (l₁:=[n]))
  · exfalso
    have hlt:∀x∈p,x < n:=fun x hx=>by
      have h1:=hb x hx
      have:x≠n:=fun e=>hn (e▸hx)
      omega
    match p,nd,hl,hlt with
    |[],_,hl,_=>simp at hl
    |y::q,nd,hl,hlt=>
     obtain ⟨h1,h2⟩:=bw7.mp nd;have hq:=ih q h2 (fun x hx=>hlt x (bs7 _ hx)) (by simpa using hl);have hy:=hlt y bs4;exact h1 (hq.mem_iff.mpr (bw6.mpr hy))
theorem m4.perm {p:List Int}(h:m4 p):p.Perm (L2.C7 0 p.length):=by
 have e:(p.map Int.toNat).map (fun (i:Nat)=>(0:Int)+(i:Int))=p:=by
   rw[by8]
   conv=>rhs;rw[<-List.map_id p]
   refine by6 fun x hx=> ?_
   have:=h.lo x hx;show (0:Int)+((x.toNat:Nat):Int)=x;omega
 have nd:(p.map Int.toNat).Nodup:=by
   rw[bt7,bz2];have:=bt7.mp h.nd;refine List.Pairwise.imp_of_mem (fun {a b} ha hb hne z=>hne ?_) this;have h1:=h.lo a ha;have h2:=h.lo b hb;omega
 have:=ad6 p.length (p.map Int.toNat) nd (fun x hx=>by
   obtain ⟨y,hy,rfl⟩:=bu5.mp hx;have h1:=h.lo y hy;have h2:=h.hi y hy
   omega) (by rw[bs1])
 have q:=this.map (fun (i:Nat)=>(0:Int)+(i:Int));rw[e] at q;exact q
def o8 (fs:List Int)(u:Int):Option Int:=fs[u.toNat]?
theorem ah2 (fs:List Int):(L2.C7 0 fs.length).map (o8 fs)=fs.map some:=by
 unfold L2.C7;rw[by8]
 refine bx4 fun j=> ?_
 rw[bt2,bt2]
 by_cases hj:j < fs.length
 · rw[cb6 hj,bs2 hj];show some (fs[((0:Int)+(j:Int)).toNat]?)=_
   have:((0:Int)+(j:Int)).toNat=j:=by omega
   rw[this,bs2 hj];rfl
 · rw[bt8 (by rw[by2];omega),bt8 (by omega)];rfl
theorem au2 {a b:List Int}(h:(a.map some).Perm (b.map some)):a.Perm b:=by
 have:=h.map (fun o:Option Int=>o.getD 0);rw[by8,by8] at this
 have e:∀l:List Int,l.map ((fun o:Option Int=>o.getD 0)∘some)=l:=fun l=>by
   conv=>rhs;rw[<-List.map_id l]
   rfl
 rw[e,e] at this;exact this
theorem ap4 {fs ts qs:List Int}(ht:m4 ts)(hl:fs.length=ts.length)(h:ts.map (o8 fs)=qs.map some):fs.Perm qs:=by
 refine au2 ?_;have h1:=ht.perm.map (o8 fs);rw[<-hl,ah2,h] at h1;exact h1.symm
end Mth
namespace L2
open PySem PySem.Spec PyProof.Rows
theorem S3.of {X:Cx}{N:List Str}{nl:Nat}{fr:List Nat}{scope:Scope}(h1:(scope.names.all fun y=>y.2 != .cell)=true:=by rfl)(h2:scope.kind= .function:=by rfl)
   (h3:(scope.names.all fun y=>y.2 != .local||scope.names.lookup y.1==some .local)=true:=by rfl)
   (h4:(scope.names.all fun p=>p.2 != .free||(X.env.kindOf p.1==some .cell||X.env.kindOf p.1==some .free))=true:=by rfl) (h5:N.length=nl+fr.length:=by rfl)
   (h6:((bx5 fr.length).all fun k=>match fr[k]? with
     |some j=>(match N[nl+k]?,X.N[j]? with
      |some y,some z=>y==z&&(X.env.scope.names.lookup y==some .local||X.env.scope.names.lookup y==some .cell||X.env.scope.names.lookup y==some .free)&&scope.names.lookup y==some .free
      |_,_=>false)
     |none=>false)=true:=by rfl):S3 X N nl fr scope where
 cell:=fun y hy e=>by
   have:=bz5.mp h1 y hy;rw[e] at this;exact absurd this (by decide)
 kind:=h2
 names:=fun y hy e=>by
   have:=bz5.mp h3 y hy;rw[e] at this
   have q:(scope.names.lookup y.1==some NameKind.local)=true:=by simpa using this
   exact eq_of_beq q
 free:=fun p hp e=>by
   have:=bz5.mp h4 p hp;rw[e] at this
   have q:(X.env.kindOf p.1==some NameKind.cell||X.env.kindOf p.1==some NameKind.free)=true:=by simpa using this
   rcases cd5 _ _|>.mp q with z|z
   · exact .inl (eq_of_beq z)
   · exact .inr (eq_of_beq z)
 len:=h5
 fr:=fun k j e=>by
   have hk:k < fr.length:=(bs3.mp e).1;have:=bz5.mp h6 k (bw6.mpr hk);rw[e] at this
   dsimp only at this
   cases e1:N[nl+k]? with
   |none=>rw[e1] at this;cases this
   |some y=>
    cases e2:X.N[j]? with
    |none=>rw[e1,e2] at this;cases this
    |some z=>
     rw[e1,e2] at this
     dsimp only at this
     rw[bx6,bx6] at this;obtain ⟨⟨q1,q2⟩,q3⟩:=this;have hyz:y=z:=eq_of_beq q1;subst hyz;refine ⟨y,rfl,rfl,?_,eq_of_beq q3⟩;rw[cd5,cd5] at q2
     rcases q2 with (q|q)|q
     · exact .inl (eq_of_beq q)
     · exact .inr (.inl (eq_of_beq q))
     · exact .inr (.inr (eq_of_beq q))
def B7 (l:List Int):List (m3×V):=l.map fun n=>((Sum.inl n:m3),V.bl true)
theorem ah3 {l:List Int}{n:Int}(h:n∈l):C1 (B7 l) (Sum.inl n:m3)=some (.bl true):=by
 induction l with
 |nil=>simp at h
 |cons a r ih=>
  show C1 (((Sum.inl a:m3),V.bl true)::B7 r) _=_
  by_cases e:a=n
  · rw[P3 (by rw[e])]
  · rw[L1 (fun z=>e (Sum.inl.inj z))];exact ih ((bw9.mp h).resolve_left fun z=>e z.symm)
theorem V1 {l:List Int}{n:Int}(h:n∉l):C1 (B7 l) (Sum.inl n:m3)=none:=by
 induction l with
 |nil=>rfl
 |cons a r ih=>
  show C1 (((Sum.inl a:m3),V.bl true)::B7 r) _=_;rw[L1 (fun z=>h (by rw[Sum.inl.inj z];exact bs4))]
  exact ih fun z=>h (bs7 _ z)
theorem ac1 {l:List Int}{n:Int}(h:n∉l):G0 (B7 l) (Sum.inl n:m3) (V.bl true)=B7 (l++[n]):=by
 rw[ay0 _ (V1 h)];unfold B7;rw[bt3];rfl
theorem y9 {ns:List Int}{i:Nat}{y:V}(h:(ns.map V.int)[i]? =some y):∃z,ns[i]? =some z/\y= .int z:=by
 rw[bt2] at h
 cases e:ns[i]? with
 |none=>rw[e] at h;cases h
 |some z=>rw[e] at h;exact ⟨z,rfl,(Option.some.inj h).symm⟩
theorem j6 {α:Type}{l:List α}{i:Nat}{x:α}(h:l[i]? =some x):l.take (i+1)=l.take i++[x]:=by
 rw[List.take_add_one,h];rfl
end L2
namespace Mth
theorem B8 {p:List Int}{i:Int}(h0:0<=i)(h1:i < p.length):L2.M9 (p.map L2.V.int) i=some (.int (p.getD i.toNat 0)):=by
 obtain ⟨j,rfl⟩:=bw8 h0;refine L2.o9 ?_
 have hj:j < p.length:=by omega
 rw[bt2,bs2 hj];show some (L2.V.int p[j])=_;rw[bv8];rw[bu4,bs2 hj];rfl
end Mth
namespace L2
open PySem PySem.Spec PyProof.Rows
theorem Z2 (K:PySem.W.Frag)(H:Hp)(n:Nat)(xs:List V):LEq K H n xs [] xs.isEmpty:=by
 cases xs with
 |nil=>exact .inr ⟨fun _=>true,rfl,fun j x y e=>by simp at e,rfl⟩
 |cons x r=>exact .inl ⟨by simp,rfl⟩
section
variable {X:Cx} {p pos apos:Pos} {e o:Expr} {es:List Expr} {t:TA} {to:TE}
theorem B4 (ho:PE X o to)(ha:PA X [e] t)
   (hbase:attributeBase o "append" X.env (eval o X.env)=eval o X.env:=by rfl)
   (hfew:((backTo pos (starEach [e] X.env)).all (fun x=> !x.1)&&(backToKw pos (keywordEach [] X.env)).all (fun x=>x.1.isSome)
     &&decide ([e].length+([]:List Keyword).length+(if ([]:List Keyword).isEmpty then 0 else 1) < 30))=true:=by rfl)
   (hline:(apos.endLine==pos.line)=true:=by rfl) (hs:starEach [e] X.env=(false,eval e X.env)::starEach [] X.env:=by rfl) (hplain:(backTo pos (starEach [] X.env)).any (·.1)=false:=by rfl):
   PE X (.Call (.Attribute o "append" apos) [e] [] pos) (tBM X.K "list" am5 to t):=
 X0 PySem.F.plainAttrs_list PySem.F.slot_list_append PySem.F.type_list_append as4 ho ha hbase hfew hline hs hplain
theorem S5 (hm:X.mg "list"=none)(ha:PA X [e] t)(hg:Gl X "list":=by rfl)(he:starEach [e] X.env=(false,eval e X.env)::starEach [] X.env:=by rfl):
   PE X (.Call (.Name "list" p) [e] [] pos) (O6 (fun xs H Q=>∃p ys,xs=[.ref p]/\(g8 X.K H p ys\/E7 X.K H p ys)/\∀l,H l=none->Q (.ref l) (g9 H l (.lst ys))) t):=
 J4 ag6 hg hm P7 ha (by decide) (by decide) he rfl
theorem ap5 {p2 pos2:Pos}(hc:X.calm=true)(hm:X.mg "list"=none)(hm2:X.mg "range"=none)(ha:PA X [e] t)(hg:Gl X "list":=by rfl)(hg2:Gl X "range":=by rfl)(he:starEach [e] X.env=(false,eval e X.env)::starEach [] X.env:=by rfl)
   (he2:starEach [.Call (.Name "range" p2) [e] [] pos2] X.env=(false,eval (.Call (.Name "range" p2) [e] [] pos2) X.env)::starEach [] X.env:=by rfl):
   PE X (.Call (.Name "list" p) [.Call (.Name "range" p2) [e] [] pos2] [] pos) (O6 (fun xs H Q=>∃p lo hi,xs=[.ref p]/\H p=some (.rng lo hi)/\(-(2^62)<=lo/\lo < 2^62/\ -(2^62)<=hi/\hi < 2^62)/\(hi - lo).toNat<=2^20/\
   ∀l,H l=none->Q (.ref l) (g9 H l (.lst ((C7 lo (hi - lo).toNat).map V.int)))) (bc4 (O6 (fun xs H Q=>∃j,xs=[.int j]/\∀p,H p=none->Q (.ref p) (g9 H p (.rng 0 j))) t) bi1)):=
 J4 (ad5 hc) hg hm P7 (c4 (J4 ak7 hg2 hm2 ak8 ha (by decide) (by decide) he rfl) c5 he2) (by decide) (by decide) he2 rfl
theorem au3 (hc:X.calm=true)(hm:X.mg "sum"=none)(ha:PA X [e] t)(hg:Gl X "sum":=by rfl)(he:starEach [e] X.env=(false,eval e X.env)::starEach [] X.env:=by rfl):
   PE X (.Call (.Name "sum" p) [e] [] pos) (O6 (fun xs H Q=>∃(p:Addr) (ns:List Int),xs=[.ref p]/\g8 X.K H p (ns.map V.int)/\Q (.int ns.sum) H) t):=
 K9 (at6 hc) hg hm at8 ha (by decide) (by decide) he rfl
theorem an0 {a b:Expr}(hc:X.calm=true)(hm:X.mg "min"=none)(ha:PA X [a,b] t)(hg:Gl X "min":=by rfl)(he:starEach [a,b] X.env=(false,eval a X.env)::starEach [b] X.env:=by rfl)(hpl:(backTo pos (starEach [b] X.env)).any (·.1)=false:=by rfl):
   PE X (.Call (.Name "min" p) [a,b] [] pos) (O6 (fun xs H Q=>∃i j,xs=[.int i,.int j]/\Q (.int (if j < i then j else i)) H) t):=
 K9 (ar9 hc) hg hm at9 ha (by decide) (by decide) he hpl
theorem be5 {a b:Expr}(hc:X.calm=true)(hm:X.mg "max"=none)(ha:PA X [a,b] t)(hg:Gl X "max":=by rfl)(he:starEach [a,b] X.env=(false,eval a X.env)::starEach [b] X.env:=by rfl)(hpl:(backTo pos (starEach [b] X.env)).any (·.1)=false:=by rfl):
   PE X (.Call (.Name "max" p) [a,b] [] pos) (O6 (fun xs H Q=>∃i j,xs=[.int i,.int j]/\Q (.int (if j > i then j else i)) H) t):=
 K9 (ar8 hc) hg hm au0 ha (by decide) (by decide) he hpl
end
end L2
namespace Mth
theorem X7 {α:Type}:∀{l:List α} {k:Nat} {y:α},l[k]? =some y->(y::l.eraseIdx k).Perm l
 |[],k,y,h=>by simp at h
 |a::r,0,y,h=>by
  simp at h;subst h;exact List.Perm.refl _
 |a::r,k+1,y,h=>by
  have h':r[k]? =some y:=by simpa using h
  have ih:=X7 h';show (y::a::r.eraseIdx k).Perm (a::r);exact (List.Perm.swap a y _).trans (ih.cons a)
end Mth
namespace L2
open PySem PySem.Spec PyProof.Rows
def bm7 (K:PySem.W.Frag)(ta:TA):TE:=O6 (fun xs H Q=>∃p ys,xs=[.ref p]/\(g8 K H p ys\/E7 K H p ys)/\Q (.int ys.length) H) ta
section
variable {X:Cx} {p pos:Pos} {e:Expr} {t:TA}
theorem ay9 (K:PySem.W.Frag)(hm:X.mg "len"=none)(ha:PA X [e] t)(hK:X.K=K:=by rfl)(hg:Gl X "len":=by rfl)
   (he:starEach [e] X.env=(false,eval e X.env)::starEach [] X.env:=by rfl):PE X (.Call (.Name "len" p) [e] [] pos) (bm7 K t):=by
 subst hK;exact p0 hm ha hg he
end
end L2
namespace Mth
theorem O9 {fs:List Int}{u v x:Int}(hu:0<=u)(hv:0<=v)(h:u≠v):o8 (fs.set v.toNat x) u=o8 fs u:=by
 unfold o8;rw[by3 (by omega)]
theorem V2 {fs:List Int}{v x:Int}(h:v.toNat < fs.length):o8 (fs.set v.toNat x) v=some x:=by
 unfold o8;rw[by1 h]
theorem o0 {ts:List Int}{i:Nat}(h:i < ts.length):ts.getD i 0=ts[i]:=by
 rw[bu4,bs2 h];rfl
theorem G1 {ts:List Int}(nd:ts.Nodup){i j:Nat}(hi:i < ts.length)(hj:j < ts.length)(h:i≠j):ts.getD i 0≠ts.getD j 0:=by
 rw[o0 hi,o0 hj]
 rcases Nat.lt_or_gt_of_ne h with z|z
 · exact bw1.mp (bt7.mp nd) i j hi hj z
 · exact fun e=>bw1.mp (bt7.mp nd) j i hj hi z e.symm
theorem az0 {ts fs qs:List Int}{k L:Nat}(hL:1<=L)(hb:k+L<=ts.length)(h1:(ts.take k).map (o8 fs)=qs.map some)(hq:qs.Perm (ts.take k))
   (h2:∀j,j < L->o8 fs (ts.getD (k+j) 0)=some (ts.getD (k+(j+1)%L) 0)):∃qs':List Int,qs'.Perm (ts.take (k+L))/\(ts.take (k+L)).map (o8 fs)=qs'.map some:=by
 have hT:((ts.drop k).take L).length=L:=by rw[bt6,bv2];omega
 have hTj:∀j,j < L->((ts.drop k).take L)[j]? =some (ts.getD (k+j) 0):=fun j hj=>by
   rw[bv3 hj,by9,o0 (by omega),bs2 (by omega)]
 have e:((ts.drop k).take L).map (o8 fs)=(((ts.drop k).take L).drop 1++((ts.drop k).take L).take 1).map some:=by
   refine bx4 fun j=> ?_
   by_cases hj:j < L
   · rw[bt2,hTj j hj,bt2];show some (o8 fs (ts.getD (k+j) 0))=_;rw[h2 j hj]
     by_cases hj1:j+1 < L
     · rw[bv0 (by rw[bv2,hT];omega),by9,ca3 1 j,hTj (j+1) hj1,bw5 hj1];rfl
     · have hjL:j+1=L:=by omega
       rw[bu0 (by rw[bv2,hT];omega),bv2,hT,hjL,Nat.mod_self]
       have:j - (L - 1)=0:=by omega
       rw[this,bv3 (by omega),hTj 0 (by omega)];rfl
   · rw[bt8 (by rw[bs1,hT];omega),bt8];rw[bs1,bs6,bv2,bt6 (i:=1),hT];omega
 refine ⟨qs++(((ts.drop k).take L).drop 1++((ts.drop k).take L).take 1),?_,?_⟩
 · rw[List.take_add];refine List.Perm.append hq ?_;refine List.perm_append_comm.trans ?_;rw[bx2]
 · rw[List.take_add,bt3,bt3,h1,e]
end Mth
namespace L2
open PySem PySem.Spec PyProof.Rows
theorem i3.free {a l:Addr}{H H':Hp}(k:i3 a H H')(h:H' l=none)(n:l≠a):H l=none:=by
 cases e:H l with
 |none=>rfl
 |some o=>have:=k l o e n;rw[h] at this;cases this
theorem e8.kb {a:Addr}{H H1 H2:Hp}(s:e8 H H1)(k:i3 a H1 H2)(h:H a=none):e8 H H2:=fun b o e=>k b o (s b o e) (g6 e h)
def B2 (H:Hp)(as:List Addr)(rs:List (List Int)):Prop:=as.length=rs.length/\∀(j:Nat) a r,as[j]? =some a->rs[j]? =some r->H a=some (.lst (r.map V.int))
theorem az1 (lo:Int)(n:Nat):(C7 lo n).length=n:=by
 unfold C7;rw[bs1,by2]
theorem az2 {p:List Int}{j:Nat}(h:j < p.length):M9 (p.map V.int) ((0:Int)+(j:Int))=some (.int (p.getD j 0)):=by
 have e:(0:Int)+(j:Int)=((j:Nat):Int):=by omega
 rw[e];refine o9 ?_;rw[bt2,bs2 h,bu4,bs2 h];rfl
end L2
namespace Mth
theorem az3 {p:List Int}(t:m4 p){j:Nat}(h:j < p.length):0<=p.getD j 0/\p.getD j 0 < p.length:=by
 rw[o0 h];exact ⟨t.lo _ (bv4 h),t.hi _ (bv4 h)⟩
end Mth
namespace L2
open PySem PySem.Spec PyProof.Rows
def Ite (K:PySem.W.Frag)(a:Addr):It:=
 ⟨fun i H=>∃xs x,g8 K H a xs/\xs[i]? =some x,fun i H v H'=>∃x t,(∀xs,g8 K H a xs->xs[i]? =some x)/\H t=none/\v= .ref t/\H'=g9 H t (.tup [.int (i:Int),x]),fun i H=>∃xs,g8 K H a xs/\xs.length<=i⟩
theorem au5 {P:Program}{w:World}{K:PySem.W.Frag}{elts:List Expr}{x1}{pos:Pos}(a e it:Addr)(hne:e≠it):
   af5 P w K (.Tuple elts x1 pos) (Ite K a) [e,it] e (fun i h=>(∃old,IsEnum h e it i old)/\h.IsListIter it a i) where
 mem:=by simp
 obj:=fun i h st b hb=>by
   obtain ⟨⟨old,he⟩,⟨o,ho,c,d⟩⟩:=st
   have hb:b=e\/b=it:=by simpa using hb
   rcases hb with rfl|rfl
   · exact ⟨_,he,fun v z=>by cases z⟩
   · exact ⟨o,ho,fun v z=>by rw[d] at z;cases z⟩
 keep:=fun i h h' st k=>⟨let ⟨old,he⟩:=st.1;⟨old,k e (by simp) _ he⟩,st.2.at fun o q=>k it (by simp) o q⟩
 item:=by
   intro X hP hw hK hc i pins s σ H E I hf st hg;subst hP hw hK;obtain ⟨⟨old,he⟩,hit⟩:=st;obtain ⟨xs,x,hq,hx⟩:=hg;obtain ⟨its,rv,p,hz⟩:=I.list hq;obtain ⟨u,hu,ru⟩:=rv.get hx;obtain ⟨f0,f1,f2,f3,f4,f5⟩:=hf e (by simp);obtain ⟨g0,g1,g2,g3,g4,g5⟩:=hf it (by simp)
   refine wpAny_pyNext_enum_item he hit p.isList (x:=u) (by simpa using hu) hne fun h' he' hit' ht' hz' hk'=> ?_
   refine ⟨_,rfl,wpAny_letOwnedTupleGo_enum he' fun h2 he2 hs2=> ?_⟩;have hs2:Heap.SameBut e h' h2:=hs2;have eT:e≠s.heap.objs.size:=bv5 (Heap.lt_size he);have ht2:h2.get? s.heap.objs.size=some {cls:= .type "tuple",data:= .seq #[.int i s.toks,u]}:=hs2.extBut _ _ eT.symm ht'
   have kk:∀b o,b≠e->b≠it->s.heap.get? b=some o->h2.get? b=some o:=fun b o b1 b2 q=>hs2.extBut b o b1 (hk' b o b1 b2 q)
   have hn:H s.heap.objs.size=none:=I.hok.fresh (bs9 _)
   have nT:∀b u',H b=some u'->b≠s.heap.objs.size:=fun b u' q=>g6 q hn
   have ne:∀b u',H b=some u'->b≠e/\b≠it:=fun b u' q=>⟨fun z=>(by rw[z,f0] at q;cases q),fun z=>(by rw[z,g0] at q;cases q)⟩
   have I1:c7 X pins σ (g9 H s.heap.objs.size (.tup [.int (i:Int),x])) {s with heap:=h2,gens:=s.gens,drawn:=s.drawn,toks:=s.toks+1}:=by
     refine I.step (ch:=[e,it]) (fun b hb=> ?_) (fun b o _ _ hc q _=>kk b o (fun z=>hc (by simp [z])) (fun z=>hc (by simp [z])) q) (fun b o _ _ hc q _=>⟨o.slots,kk b o (fun z=>hc (by simp [z])) (fun z=>hc (by simp [z])) q⟩)
       (fun b o hc q n=>by rw[g7 (bv5 (Heap.lt_size q))];exact n) (fun b o hc q=>⟨o,kk b o (fun z=>hc (by simp [z])) (fun z=>hc (by simp [z])) q⟩)
       (fun b ys q=>by rw[g7 (nT b _ q)];exact q) (fun b o ys q=>by rw[g7 (nT b _ q)];exact q) (fun b ps q=>⟨#[],by rw[g7 (nT b _ q),q];simp⟩) (fun m hm=> ?_) (fun b u' q=> ?_) I.bare
     · have hb:b=e\/b=it:=by simpa using hb
       rcases hb with rfl|rfl
       · exact ⟨f3,f1,f4,f5⟩
       · exact ⟨g3,g1,g4,g5⟩
     · obtain ⟨o,es,ep,ho,r⟩:=hm;exact ⟨o,es,ep,kk _ o (Ne.symm f1) (Ne.symm g1) ho,r⟩
     · by_cases hb:b=s.heap.objs.size
       · subst hb;rw[c9] at q;cases q;exact ⟨by show 2<=sizeLine;decide,[.int i s.toks,u],.cons ⟨_,rfl⟩ (.cons ru .nil),⟨_,ht2,rfl,0,rfl⟩⟩
       · rw[g7 hb] at q
         refine (I.hok b u' q).stay (fun c v hc q'=> ?_) (fun c q'=>by rw[g7 (nT c _ q')];exact q') fun c ys q'=>by rw[g7 (nT c _ q')];exact q'
         rcases hc with z|z
         · rw[z] at q' ⊢;exact kk b v (ne b _ q).1 (ne b _ q).2 q'
         · exact kk c v (ne c _ z).1 (ne c _ z).2 q'
   refine ⟨.ref s.heap.objs.size,_,I1,rfl,⟨x,s.heap.objs.size,fun ys hy=>by rw[I.list_inj hy hq];exact hx,hn,rfl,rfl⟩,⟨⟨u,?_⟩,?_⟩,fun b hb=> ?_⟩
   · have:((i+1:Nat):Int)=(i:Int)+1:=by push_cast;rfl
     rw[this];exact he2
   · exact hit'.extBut hs2.extBut hne.symm
   · have hb:b=e\/b=it:=by simpa using hb
     rcases hb with rfl|rfl
     · rw[g7 eT];exact f0
     · obtain ⟨o,ho,_⟩:=hit;rw[g7 (bv5 (Heap.lt_size ho))];exact g0
 done:=by
   intro X hP hw hK hc i pins s σ H E I hf st hg;subst hP hw hK;obtain ⟨⟨old,he⟩,hit⟩:=st;obtain ⟨xs,hq,hx⟩:=hg;obtain ⟨its,rv,p,hz⟩:=I.list hq;obtain ⟨g0,g1,g2,g3,g4,g5⟩:=hf it (by simp);have hl:=rv.length
   exact wpAny_pyNext_enum_end (I.ok.hd hc) he hit p.isList (by simp;omega) fun h' eb=>⟨rfl,I.turned (t':=s.toks) (fun b o hb q=>eb b o hb q) g0 g1 g3 g4 g5⟩
 self:=fun _ _ _ _ _ st h=>let ⟨_,he⟩:=st.1;wpAny_pyIter_enum he h
theorem au6:bootBuiltins "enumerate"=some (.type "enumerate"):=by decide+kernel
section
variable {X:Cx} {l:Expr} {ta:TA} {p pos:Pos} {elts:List Expr} {x1:Nat} {tpos:Pos}
def bm8 (K:PySem.W.Frag)(ta:TA):TI:=fun σ H R=>ta σ H fun vs H1=>∃a,vs=[.ref a]/\(∃xs,g8 K H1 a xs)/\R (Ite K a) H1
theorem be6 (hm:X.mg "enumerate"=none)(ha:PA X [l] ta)(hg:Gl X "enumerate":=by rfl)(hs:starEach [l] X.env=[(false,eval l X.env)]:=by rfl):PI X (.Tuple elts x1 tpos) (.Call (.Name "enumerate" p) [l] [] pos) (bm8 X.K ta):=by
 intro pins s σ H R I h;refine Call_ (R9 I hg hm au6 (PyProof.Rows.callWith_type1 (j3 (ha pos pins s σ H _ I h) fun us s1 ⟨vs,H1,I1,r1,q1⟩=> ?_) hs rfl));obtain ⟨a,e,⟨xs,hq⟩,q⟩:=q1;subst e;obtain ⟨u,rfl,rx⟩:=M7 r1;cases rx;obtain ⟨its,rv,pl,hz⟩:=I1.list hq
 refine call_enumerate_list pl.isList fun h' he hit hz' hk=> ?_
 refine wpAny_pyIter_enum he ?_;have I2:c7 X pins σ H1 {s1 with heap:=h',toks:=s1.toks}:=I1.kept (t':=s1.toks) hk;refine ⟨s1.heap.objs.size+1,[s1.heap.objs.size+1,s1.heap.objs.size],_,_,H1,rfl,I2,au5 a (s1.heap.objs.size+1) s1.heap.objs.size (Nat.succ_ne_self _),⟨⟨.none,he⟩,hit⟩,fun b hb=> ?_,q⟩
 have hb:b=s1.heap.objs.size+1\/b=s1.heap.objs.size:=by simpa using hb
 rcases hb with rfl|rfl
 · exact I1.fpOk (by omega) (I1.hok.fresh (by omega))
 · exact I1.fpOk (by omega) (I1.hok.fresh (by omega))
end
theorem az4 {K:PySem.W.Frag}{a:Addr}{xs:List V}{g:TG}{tb:TS}{D:N3}{σ:St}{H:Hp}(Pv:Nat->St->Hp->Prop)(h0:Pv 0 σ H)(hl:∀i σ H,i<=xs.length->Pv i σ H->g8 K H a xs)
   (hs:∀i x σ H t,xs[i]? =some x->Pv i σ H->H t=none->g (.ref t) σ (g9 H t (.tup [.int (i:Int),x])) fun σ2 H2=>tb {D with nx:=Pv (i+1),ct:=Pv (i+1),bk:=D.nx} σ2 H2) (hd:∀σ H,Pv xs.length σ H->D.nx σ H):
   ∃W:Nat->Nat->St->Hp->Prop,(∃m,W 0 m σ H)/\∀i m σ H,W i m σ H->
    ((Ite K a).stop i H/\D.nx σ H)\/((Ite K a).go i H/\∃N:St->Hp->Prop,(∀σ' H',N σ' H'->∃m',m' < m/\W (i+1) m' σ' H')/\∀x H',(Ite K a).yld i H x H'->g x σ H' fun σ2 H2=>tb {D with nx:=N,ct:=N,bk:=D.nx} σ2 H2):=by
 refine ⟨fun i m σ H=>m=xs.length - i/\i<=xs.length/\Pv i σ H,⟨xs.length,by simp,bu9 _,h0⟩,?_⟩;rintro i m σ H ⟨rfl,hi,p⟩;have q:=hl i σ H hi p
 by_cases hlt:i < xs.length
 · refine .inr ⟨⟨xs,xs[i],q,by simp [hlt]⟩,Pv (i+1),fun σ' H' p'=>⟨xs.length - (i+1),by omega,rfl,hlt,p'⟩,fun x H' y=> ?_⟩;obtain ⟨x',t,y1,y2,e1,e2⟩:=y;subst e1 e2;exact hs i x' σ _ t (y1 xs q) p y2
 · have e:i=xs.length:=by omega
   subst e;exact .inl ⟨⟨xs,q,bs9 _⟩,hd σ H p⟩
end L2
namespace Mth
def nx (p:List Int)(x:Int):Int:=p.getD x.toNat 0
def it (p:List Int):Nat->Int->Int
 |0,x=>x
 |i+1,x=>nx p (it p i x)
def In (p:List Int)(x:Int):Prop:=0<=x/\x < p.length
theorem bm9 {p:List Int}(t:m4 p){x:Int}(h:In p x):In p (nx p x):=az3 t (j:=x.toNat) (by have:=h.1;have:=h.2;omega)
theorem au7 {p:List Int}(t:m4 p){x y:Int}(hx:In p x)(hy:In p y)(h:nx p x=nx p y):x=y:=by
 have a1:=hx.1;have a2:=hx.2;have b1:=hy.1;have b2:=hy.2
 by_cases e:x.toNat=y.toNat
 · omega
 · exact absurd h (G1 t.nd (i:=x.toNat) (j:=y.toNat) (by omega) (by omega) e)
theorem B3 {p:List Int}(t:m4 p){x:Int}(h:In p x):∀i,In p (it p i x)
 |0=>h
 |i+1=>bm9 t (B3 t h i)
theorem t9 (p:List Int)(x:Int):∀i j,it p (i+j) x=it p i (it p j x)
 |0,j=>by rw[cb3];rfl
 |i+1,j=>by
  rw[Nat.add_right_comm];show nx p (it p (i+j) x)=nx p (it p i (it p j x));rw[t9 p x i j]
theorem be7 (p:List Int)(x:Int)(i:Nat):it p (i+1) x=it p i (nx p x):=by
 rw[t9 p x i 1];rfl
theorem S6 {p:List Int}(t:m4 p){x y:Int}(hx:In p x)(hy:In p y):∀i,it p i x=it p i y->x=y
 |0,h=>h
 |i+1,h=>S6 t hx hy i (au7 t (B3 t hx i) (B3 t hy i) h)
structure v0 (p:List Int)(x:Int)(L:Nat):Prop where
 pos:0 < L
 back:it p L x=x
 least:∀i,0 < i->i < L->it p i x≠x
theorem v0.uniq {p:List Int}{x:Int}{L M:Nat}(h:v0 p x L)(g:v0 p x M):L=M:=by
 rcases Nat.lt_trichotomy L M with z|z|z
 · exact absurd h.back (g.least L h.pos z)
 · exact z
 · exact absurd g.back (h.least M g.pos z)
theorem au8 {p:List Int}{x:Int}{L:Nat}(h:it p L x=x):∀q,it p (L*q) x=x
 |0=>by rw[Nat.mul_zero];rfl
 |q+1=>by rw[Nat.mul_succ,t9,h,au8 h q]
theorem X8 {p:List Int}{x:Int}{L:Nat}(h:it p L x=x)(i:Nat):it p (i%L) x=it p i x:=by
 conv=>rhs;rw[<-Nat.div_add_mod i L,ca3,t9,au8 h]
theorem an1 {p:List Int}{x:Int}{L:Nat}(h:it p L x=x){a b:Nat}(e:a%L=b%L):it p a x=it p b x:=by
 rw[<-X8 h a,e,X8 h]
theorem v0.shift {p:List Int}(t:m4 p){x:Int}{L:Nat}(hx:In p x)(h:v0 p x L)(j:Nat):v0 p (it p j x) L:=by
 refine ⟨h.pos,?_,fun i i0 i1 e=> ?_⟩
 · rw[<-t9,ca3,t9,h.back]
 · rw[<-t9,ca3,t9] at e;exact h.least i i0 i1 (S6 t (B3 t hx i) hx j e)
def i4 (p:List Int)(x:Int)(L:Nat):List Int:=(bx5 L).map fun i=>it p i x
theorem i7 (p:List Int)(x:Int)(L:Nat):(i4 p x L).length=L:=by unfold i4;rw[bs1,by2]
theorem x9 {p:List Int}{x:Int}{L j:Nat}(h:j < L):(i4 p x L)[j]? =some (it p j x):=by
 unfold i4;rw[bt2,cb6 h];rfl
theorem p9 {p:List Int}{x:Int}{L j:Nat}(h:j < L):(i4 p x L).getD j 0=it p j x:=by
 rw[bu4,x9 h];rfl
theorem o7 {p:List Int}{x y:Int}{L:Nat}:y∈i4 p x L↔∃j,j < L/\y=it p j x:=by
 unfold i4;rw[bu5];constructor
 · rintro ⟨j,hj,rfl⟩;exact ⟨j,bw6.mp hj,rfl⟩
 · rintro ⟨j,hj,rfl⟩;exact ⟨j,bw6.mpr hj,rfl⟩
theorem P8 (p:List Int)(x:Int)(m:Nat):i4 p x (m+1)=i4 p x m++[it p m x]:=by
 unfold i4;rw[List.range_succ,bt3];rfl
theorem C3 {p:List Int}(t:m4 p){x:Int}(hx:In p x){m:Nat}(h:∀i,0 < i->i < m->it p i x≠x):(i4 p x m).Nodup:=by
 unfold i4;rw[bt7,bz2];refine List.Pairwise.imp_of_mem (fun {a b} ha hb hlt e=> ?_) List.pairwise_lt_range;have hb:=bw6.mp hb
 have e2:b=a+(b - a):=by omega
 rw[e2,t9] at e;exact h (b - a) (by omega) (by omega) (S6 t (B3 t hx _) hx a e.symm)
theorem au9:∀(n:Nat) (l:List Nat),l.Nodup->(∀x∈l,x < n)->l.length<=n:=by
 intro n
 induction n with
 |zero=>
  intro l _ hb
  cases l with
  |nil=>exact bs9 _
  |cons a r=>exact absurd (hb a bs4) (Nat.not_lt_zero _)
 |succ n ih=>
  intro l nd hb
  by_cases hn:n∈l
  · obtain ⟨s,u,rfl⟩:=cc1 hn;have pm:(s++n::u).Perm (n::(s++u)):=List.perm_middle;obtain ⟨h1,h2⟩:=bw7.mp (pm.nodup_iff.mp nd)
    have:=ih (s++u) h2 fun x hx=>by
      have hx':=hb x (pm.mem_iff.mpr (bs7 _ hx))
      have:x≠n:=fun e=>h1 (e▸hx)
      omega
    rw[pm.length_eq,bw4];omega
  · exact Nat.le_succ_of_le (ih l nd fun x hx=>by
      have h1:=hb x hx
      have:x≠n:=fun e=>hn (e▸hx)
      omega)
theorem w4 {p:List Int}{r:List Int}(nd:r.Nodup)(h:∀x∈r,In p x):r.length<=p.length:=by
 have:=au9 p.length (r.map Int.toNat) (by
   rw[bt7,bz2];refine List.Pairwise.imp_of_mem (fun {a b} ha hb hne z=>hne ?_) (bt7.mp nd);have h1:=(h a ha).1;have h2:=(h b hb).1
   omega) fun x hx=>by
     obtain ⟨y,hy,rfl⟩:=bu5.mp hx;have h1:=(h y hy).1;have h2:=(h y hy).2;omega
 rw[bs1] at this;exact this
theorem A9 {p:List Int}(t:m4 p){x:Int}(hx:In p x){L:Nat}:∀y∈i4 p x L,In p y:=fun y hy=>by
 obtain ⟨j,_,rfl⟩:=o7.mp hy;exact B3 t hx j
theorem G2 {p:List Int}(t:m4 p){x:Int}(hx:In p x){m:Nat}(h:∀i,0 < i->i < m->it p i x≠x):m<=p.length:=by
 have:=w4 (C3 t hx h) (A9 t hx);rw[i7] at this;exact this
theorem ak9 {p:List Int}{x y:Int}{L:Nat}(h:v0 p x L)(hy:y∈i4 p x L)(i:Nat):it p i y∈i4 p x L:=by
 obtain ⟨j,hj,rfl⟩:=o7.mp hy;refine o7.mpr ⟨(i+j)%L,cb7 _ h.pos,?_⟩;rw[X8 h.back,t9]
theorem ac2 {p:List Int}{x y z:Int}{L M:Nat}(h:v0 p x L)(g:v0 p y M)(h1:z∈i4 p x L)(h2:z∈i4 p y M):y∈i4 p x L:=by
 obtain ⟨j,hj,rfl⟩:=o7.mp h2;have:=ak9 h h1 (M - j);rw[<-t9,show M - j+j=M by omega,g.back] at this;exact this
open Classical in
noncomputable def T8 (p:List Int)(x:Int):Nat:=if h:∃L,v0 p x L then Classical.choose h else 0
theorem ah4 {p:List Int}{x:Int}{L:Nat}(h:v0 p x L):T8 p x=L:=by
 have hx:∃L,v0 p x L:=⟨L,h⟩;unfold T8;rw[dif_pos hx];exact (Classical.choose_spec hx).uniq h
noncomputable def i2 (p:List Int):Nat->List (List Int)
 |0=>[]
 |i+1=>if (i:Int)∈(i2 p i).flatten then i2 p i else i2 p i++[i4 p i (T8 p i)]
structure n5 (p:List Int)(i:Nat)(rs:List (List Int)):Prop where
 ring:∀r∈rs,∃x L,In p x/\v0 p x L/\r=i4 p x L/\(∀y∈r,x<=y)/\x < i
 nd:rs.flatten.Nodup
 all:∀u:Int,0<=u->u < i->u∈rs.flatten
 ord:rs.Pairwise fun r s=>r.getD 0 0 < s.getD 0 0
 eq:rs=i2 p i
theorem P9 (p:List Int):n5 p 0 []:=⟨fun r hr=>by simp at hr,ca4,fun u h1 h2=>by omega,List.Pairwise.nil,rfl⟩
theorem Q0 {p:List Int}{i:Nat}{rs:List (List Int)}(h:n5 p i rs)(hi:(i:Int)∈rs.flatten):n5 p (i+1) rs:=by
 refine ⟨fun r hr=> ?_,h.nd,fun u h1 h2=> ?_,h.ord,?_⟩
 · obtain ⟨x,L,a,b,c,d,e⟩:=h.ring r hr;exact ⟨x,L,a,b,c,d,by omega⟩
 · by_cases e:u=i
   · subst e;exact hi
   · exact h.all u h1 (by omega)
 · show rs=if (i:Int)∈(i2 p i).flatten then i2 p i else i2 p i++[i4 p i (T8 p i)]
   rw[<-h.eq,if_pos hi]
theorem N5 {p:List Int}{i:Nat}{rs:List (List Int)}(h:n5 p i rs){L:Nat}(hL:v0 p i L)(hi:(i:Int)∉rs.flatten):∀y∈i4 p i L,y∉rs.flatten:=by
 intro y hy hm;obtain ⟨r,hr,hyr⟩:=bu8.mp hm;obtain ⟨x,M,a,b,rfl,d,e⟩:=h.ring r hr;exact hi (bu8.mpr ⟨_,hr,ac2 b hL hyr hy⟩)
theorem Q1 {p:List Int}(t:m4 p){i:Nat}{rs:List (List Int)}(h:n5 p i rs)(hx:In p i){L:Nat}(hL:v0 p i L)(hi:(i:Int)∉rs.flatten):n5 p (i+1) (rs++[i4 p i L]):=by
 have fr:=N5 h hL hi;refine ⟨fun r hr=> ?_,?_,fun u h1 h2=> ?_,?_,?_⟩
 · rcases bt5.mp hr with z|z
   · obtain ⟨x,L,a,b,c,d,e⟩:=h.ring r z;exact ⟨x,L,a,b,c,d,by omega⟩
   · have:r=i4 p i L:=by simpa using z
     subst this;refine ⟨i,L,hx,hL,rfl,fun y hy=> ?_,by omega⟩;have y0:=(A9 t hx y hy).1
     by_cases hlt:y < i
     · exact absurd (h.all y y0 hlt) (fr y hy)
     · omega
 · rw[bv1,bw2];refine bx8.mpr ⟨h.nd,C3 t hx fun j j0 j1=>hL.least j j0 j1,fun a ha b hb e=> ?_⟩;subst e;exact fr a hb ha
 · rw[bv1,bw2]
   by_cases e:u=i
   · subst e;exact bt1 _ (o7.mpr ⟨0,hL.pos,rfl⟩)
   · exact bv9 _ (h.all u h1 (by omega))
 · refine List.pairwise_append.mpr ⟨h.ord,List.pairwise_singleton _ _,fun r hr s hs=> ?_⟩
   have:s=i4 p i L:=by simpa using hs
   subst this;obtain ⟨x,M,a,b,rfl,d,e⟩:=h.ring r hr;rw[p9 b.pos,p9 hL.pos];exact e
 · show rs++[i4 p i L]=if (i:Int)∈(i2 p i).flatten then i2 p i else i2 p i++[i4 p i (T8 p i)]
   rw[<-h.eq,if_neg hi,ah4 hL]
def A4 (p:List Int)(k:Int)(t:List Int):Prop:=t.length=p.length/\∀x,In p x->∃L,v0 p x L/\o8 t x=some (it p (k%(L:Int)).toNat x)
theorem X9 {p:List Int}{x:Int}{L:Nat}(h:v0 p x L)(k:Int)(j:Nat):it p (((j:Int)+k)%(L:Int)).toNat x=it p (k%(L:Int)).toNat (it p j x):=by
 rw[<-t9];refine an1 h.back ?_
 have hL:(0:Int) < (L:Int):=by have:=h.pos;omega
 have a1:=bv6 ((j:Int)+k) (show (L:Int)≠0 by omega);have b1:=bv6 k (show (L:Int)≠0 by omega)
 have:(((((j:Int)+k)%(L:Int)).toNat%L:Nat):Int)=((((k%(L:Int)).toNat+j)%L:Nat):Int):=by
   rw[bz6,bz6,by7 a1,Int.natCast_add,by7 b1,Int.emod_emod,Int.emod_add_emod,Int.add_comm]
 exact Int.ofNat.inj this
end Mth
namespace Mth
theorem S7 {p:List Int}{x:Int}(h:In p x):o8 p x=some (nx p x):=by
 have a1:=h.1;have a2:=h.2;unfold o8 nx;rw[bu4,bs2 (by omega)];rfl
theorem be8 {p s:List Int}(t:m4 p)(h:A4 p (-1) s){x:Int}(hx:In p x):∃y,o8 s x=some y/\In p y/\nx p y=x:=by
 obtain ⟨L,hL,e⟩:=h.2 x hx;have hpos:=hL.pos
 have e1:((-1:Int)%(L:Int)).toNat=L - 1:=by
   have h1:(-1:Int)%(L:Int)=(L:Int) - 1:=by
     have:=Int.add_emod_right (-1:Int) (L:Int);rw[<-this,Int.emod_eq_of_lt (by omega) (by omega)];omega
   rw[h1];omega
 rw[e1] at e;refine ⟨_,e,B3 t hx _,?_⟩;show it p (L - 1+1) x=x;rw[show L - 1+1=L by omega,hL.back]
end Mth
namespace L2
open PySem PySem.Spec PyProof.Rows
def bn0 (i j:Int):Prop:=0 < j/\j<=1000000000000000000000000000000
theorem ah5 {X:Cx}:C0 X (binaryOp .FloorDiv) (rI bn0 fun i j=> .int (i/j)):=opI fun i j _ _ _ _ _ hc q=>by
 have hp:Builtin.divisionGoesByPylong i j=false:=by
   refine PyProof.noPylong_of_log2 ?_;obtain ⟨h1,h2⟩:=hc;have:j.natAbs < 2^9000:=cc0 (show j.natAbs<=1000000000000000000000000000000 by omega) (by decide+kernel);exact (Nat.log2_lt (by omega)).mpr this
 refine floordiv_int (by have:=hc.1;omega) ?_ (.inl hp);rw[Int.fdiv_eq_ediv_of_nonneg i (by have:=hc.1;omega)];exact q
end L2
namespace Mth
theorem A4.uniq {p:List Int}{k:Int}{s t:List Int}(h:A4 p k s)(g:A4 p k t):s=t:=by
 refine bx4 fun u=> ?_
 by_cases hu:u < p.length
 · have hx:In p (u:Int):=⟨by omega,by omega⟩;obtain ⟨L,h1,h2⟩:=h.2 u hx;obtain ⟨M,g1,g2⟩:=g.2 u hx;have e:=h1.uniq g1;subst e;unfold o8 at h2 g2;rw[bv8] at h2 g2;rw[h2,g2]
 · rw[bt8 (by rw[h.1];omega),bt8 (by rw[g.1];omega)]
end Mth
namespace Mth
theorem av0 {p:List Int}(t:m4 p){x:Int}(hx:In p x):∃L,v0 p x L:=by
 have h0:∃i,0 < i/\i<=p.length/\it p i x=x:=Classical.byContradiction fun hn=>by
   have:=G2 t hx (m:=p.length+1) fun i i0 i1 e=>hn ⟨i,i0,by omega,e⟩
   omega
 have key:∀n,(∃i,0 < i/\i<=n/\it p i x=x)->∃L,v0 p x L:=by
   intro n
   induction n with
   |zero=>rintro ⟨i,i0,i1,_⟩;omega
   |succ n ih=>
    rintro ⟨i,i0,i1,e⟩
    by_cases h:∃j,0 < j/\j<=n/\it p j x=x
    · exact ih h
    · refine ⟨i,i0,e,fun j j0 j1 ej=>h ⟨j,j0,by omega,ej⟩⟩
 exact key _ h0
theorem az5 {p:List Int}{x:Int}{L:Nat}(h:v0 p x L){a b:Nat}(e:((a:Int) - (b:Int))%(L:Int)=0):it p a x=it p b x:=by
 refine an1 h.back ?_
 have:((a%L:Nat):Int)=((b%L:Nat):Int):=by
   rw[bz6,bz6]
   exact Int.emod_emod_of_dvd _ (Int.dvd_refl _)|>.symm.trans (by
     rw[Int.emod_emod]
     exact (Int.emod_eq_emod_iff_emod_sub_eq_zero).mpr e)
 exact Int.ofNat.inj this
theorem bj8 {n:Nat}{s t:List Int}(hs:s.length=n)(ht:t.length=n)(h:∀x:Int,0<=x->x < n->nx s x=nx t x):s=t:=by
 refine bx4 fun u=> ?_
 by_cases hu:u < n
 · have:=h u (by omega) (by omega);unfold nx at this;rw[bv8,o0 (by omega),o0 (by omega)] at this;rw[bs2 (by omega),bs2 (by omega),this]
 · rw[bt8 (by omega),bt8 (by omega)]
theorem av2 {t:List Int}(h1:∀x:Int,0<=x->x < t.length->0<=nx t x/\nx t x < t.length)(h2:∀x y:Int,0<=x->x < t.length->0<=y->y < t.length->nx t x=nx t y->x=y):m4 t:=by
 have g:∀i (hi:i < t.length),nx t (i:Int)=t[i]:=fun i hi=>by unfold nx;rw[bv8,o0 hi]
 refine ⟨?_,fun x hx=> ?_,fun x hx=> ?_⟩
 · rw[bt7,bw1];intro i j hi hj hlt e;have:=h2 i j (by omega) (by omega) (by omega) (by omega) (by rw[g i hi,g j hj];exact e);omega
 · obtain ⟨i,hi,rfl⟩:=List.mem_iff_getElem.mp hx;rw[<-g i hi];exact (h1 i (by omega) (by omega)).1
 · obtain ⟨i,hi,rfl⟩:=List.mem_iff_getElem.mp hx;rw[<-g i hi];exact (h1 i (by omega) (by omega)).2
theorem bj9 {p t:List Int}{k:Int}(h:A4 p k t){x:Int}(hx:In p x):∃L,v0 p x L/\∀m:Nat,((m:Int) - k)%(L:Int)=0->nx t x=it p m x:=by
 obtain ⟨L,hL,e⟩:=h.2 x hx;refine ⟨L,hL,fun m hm=> ?_⟩
 have e1:nx t x=it p (k%(L:Int)).toNat x:=by
   have hx':In t x:=⟨hx.1,by rw[h.1];exact hx.2⟩;rw[S7 hx'] at e;exact Option.some.inj e
 rw[e1];refine az5 hL ?_;have b0:=bv6 k (show (L:Int)≠0 by have:=hL.pos;omega);rw[by7 b0]
 have:k%(L:Int) - (m:Int)= -(((m:Int) - k)+(k - k%(L:Int))):=by omega
 rw[this];have d1:(L:Int)∣((m:Int) - k):=Int.dvd_of_emod_eq_zero hm;have d2:(L:Int)∣(k - k%(L:Int)):=Int.dvd_self_sub_emod;exact Int.emod_eq_zero_of_dvd (Int.dvd_neg.mpr (Int.dvd_add d1 d2))
theorem az6 (k:Int)(L:Nat)(h:0 < L):(((k%(L:Int)).toNat:Int) - k)%(L:Int)=0:=by
 have b0:=bv6 k (show (L:Int)≠0 by omega);rw[by7 b0]
 have:k%(L:Int) - k= -(k - k%(L:Int)):=by omega
 rw[this];exact Int.emod_eq_zero_of_dvd (Int.dvd_neg.mpr Int.dvd_self_sub_emod)
theorem Z3 {p t:List Int}{k:Int}(tp:m4 p)(h:A4 p k t):m4 t:=by
 have tx:∀x,In p x->∃L,v0 p x L/\nx t x=it p (k%(L:Int)).toNat x:=fun x hx=>by
   obtain ⟨L,hL,e⟩:=bj9 h hx;exact ⟨L,hL,e _ (az6 k L hL.pos)⟩
 refine av2 (fun x x0 x1=> ?_) (fun x y x0 x1 y0 y1 e=> ?_)
 · rw[h.1] at x1 ⊢;obtain ⟨L,hL,e⟩:=tx x ⟨x0,x1⟩;rw[e];exact B3 tp ⟨x0,x1⟩ _
 · rw[h.1] at x1 y1;obtain ⟨L,hL,e1⟩:=tx x ⟨x0,x1⟩;obtain ⟨M,hM,e2⟩:=tx y ⟨y0,y1⟩;rw[e1,e2] at e;have pL:=hL.shift tp ⟨x0,x1⟩ (k%(L:Int)).toNat;have pM:=hM.shift tp ⟨y0,y1⟩ (k%(M:Int)).toNat;rw[e] at pL;have:=pL.uniq pM;subst this;exact S6 tp ⟨x0,x1⟩ ⟨y0,y1⟩ _ e
theorem az7 {p s:List Int}(t:m4 p)(h:A4 p (-1) s){x:Int}(hx:In p x):In p (nx s x)/\nx p (nx s x)=x:=by
 obtain ⟨y,e,hy,en⟩:=be8 t h hx;rw[S7 (p:=s) ⟨hx.1,by rw[h.1];exact hx.2⟩] at e;have:nx s x=y:=Option.some.inj e;rw[this];exact ⟨hy,en⟩
end Mth
namespace L2
open PySem PySem.Spec PyProof.Rows
section
variable {X:Cx} {o e:Expr} {to:TE} {t:TA} {apos pos p:Pos}
theorem av3 (ho:PE X o to)(ha:PA X [e] t)
   (hbase:attributeBase o "extend" X.env (eval o X.env)=eval o X.env:=by rfl)
   (hfew:((backTo pos (starEach [e] X.env)).all (fun x=> !x.1)&&(backToKw pos (keywordEach [] X.env)).all (fun x=>x.1.isSome)
     &&decide ([e].length+([]:List Keyword).length+(if ([]:List Keyword).isEmpty then 0 else 1) < 30))=true:=by rfl)
   (hline:(apos.endLine==pos.line)=true:=by rfl) (hs:starEach [e] X.env=(false,eval e X.env)::starEach [] X.env:=by rfl) (hplain:(backTo pos (starEach [] X.env)).any (·.1)=false:=by rfl):
   PE X (.Call (.Attribute o "extend" apos) [e] [] pos) (tBM X.K "list" am6 to t):=
 X0 PySem.F.plainAttrs_list PySem.F.slot_list_extend PySem.F.type_list_extend as5 ho ha hbase hfew hline hs hplain
end
end L2
namespace Mth
theorem D1 {p:List Int}{rs:List (List Int)}(t:m4 p)(h:n5 p p.length rs):rs.flatten.Perm (L2.C7 0 p.length):=by
 have i1:m4 rs.flatten:=by
   have hin:∀x∈rs.flatten,In p x:=fun x hx=>by
     obtain ⟨r,hr,hxr⟩:=bu8.mp hx;obtain ⟨y,L,a,b,rfl,_⟩:=h.ring r hr;exact A9 t a x hxr
   have l1:=w4 h.nd hin
   have l2:p.length<=rs.flatten.length:=by
     have:=w4 (p:=rs.flatten) (r:=L2.C7 0 p.length) (r9 _) fun x hx=>by
       have hx':=t8.mp hx;obtain ⟨r,hr,hxr⟩:=bu8.mp (h.all x hx'.1 hx'.2);refine ⟨hx'.1,?_⟩
       exact Classical.byContradiction fun hn=>by
         have hle:(rs.flatten.length:Int)<=x:=by omega
         have hlt:=w4 h.nd hin
         have q:(L2.C7 0 (x.toNat+1)).length<=rs.flatten.length:=by
           have sub:∀z∈L2.C7 0 (x.toNat+1),z∈rs.flatten:=fun z hz=>by
             have hz':=t8.mp hz;exact h.all z hz'.1 (by have:=hx'.2;omega)
           have:∀(l m:List Int),l.Nodup->(∀z∈l,z∈m)->l.length<=m.length:=by
             intro l
             induction l with
             |nil=>intro m _ _;exact bu9 _
             |cons c l ih=>
              intro m nd hs;obtain ⟨n1,n2⟩:=bw7.mp nd;obtain ⟨s,u,rfl⟩:=cc1 (hs c bs4)
              have:=ih (s++u) n2 fun z hz=>by
                have hzm:=hs z (bs7 _ hz)
                rcases bt5.mp hzm with g|g
                · exact bv9 _ g
                · rcases bw9.mp g with g|g
                  · subst g;exact absurd hz n1
                  · exact bt1 _ g
              rw[bs6] at this;rw[bs6,bw4,bw4];omega
           exact this _ _ (r9 _) sub
         rw[p8] at q;have:=hx'.1;omega
     rw[p8] at this;exact this
   exact ⟨h.nd,fun x hx=>(hin x hx).1,fun x hx=>by have:=(hin x hx).2;omega⟩
 have hl:rs.flatten.length=p.length:=by
   have l1:=w4 h.nd fun x hx=>by
     obtain ⟨r,hr,hxr⟩:=bu8.mp hx;obtain ⟨y,L,a,b,rfl,_⟩:=h.ring r hr;exact A9 t a x hxr
   have l2:p.length<=rs.flatten.length:=by
     have:=w4 (p:=rs.flatten) (r:=L2.C7 0 p.length) (r9 _) fun x hx=>by
       have hx':=t8.mp hx;have hm:=h.all x hx'.1 hx'.2;exact ⟨hx'.1,i1.hi x hm⟩
     rw[p8] at this;exact this
   omega
 have:=i1.perm;rw[hl] at this;exact this
end Mth
namespace L2
open PySem PySem.Spec PyProof.Rows
section
variable {X:Cx}
variable {e:Expr} {t:TA} {p pos kpos:Pos}
def bq7 (K:PySem.W.Frag)(te:TE)(ts:TO):TE:=fun σ H Q=>te σ H fun x H1=>ts σ H1 fun o H2=>o=some (-1)/\∃a xs,x= .ref a/\g8 K H2 a xs/\∀p,H2 p=none->Q (.ref p) (g9 H2 p (.lst xs.reverse))
theorem bk0 {st:Expr}{te:TE}{ts:TO}{p2:Pos}(he:PE X e te)(hst:PO X (some st) ts):PE X (.Subscript e (.Slice none none (some st) p2) pos) (bq7 X.K te ts):=by
 intro pins s σ H Q I h;refine Subscript_ (j3 (he pins s σ H _ I h) fun v s1 ⟨x,H1,I1,r1,q1⟩=> ?_);refine wpAny_Slice ?_;rw[evalPart_none];refine wpAny_pure (wpAny_pure ?_)
 refine j3 (hst pins s1 σ H1 _ I1 q1) fun vk s3 ⟨k,H3,I3,pk,ek,a,xs,ex,hx,q⟩=> ?_
 subst ek ex;cases r1
 have I4:c7 X pins σ H3 {s3 with heap:=s3.heap.push {cls:= .type "slice",data:= .fields #[.none,.none,vk]}}:=I3.kept (t':=s3.toks) fun b ob q=>Heap.get?_push_of_some _ q
 obtain ⟨its,r,ht,hz⟩:=I4.list hx;have hlen:=r.length;show wpAny (model X.prog X.w) X.A (subscriptTail e (.Slice none none (some st) p2) (.ref a) (.ref s3.heap.objs.size)) (EP X pins σ Q) X.xe {s3 with heap:=s3.heap.push {cls:= .type "slice",data:= .fields #[.none,.none,vk]}};refine tail_any (ops:=[.ref a,.ref s3.heap.objs.size]) (T:="list") ht.isList.typeIs slot_list_getitem.lookup ?_ rfl;refine wpAny_getItem_list_slice ht.isList (Heap.IsSliceOf.new ..) .none .none pk (by decide) ?_ (by rw[bs5]<;>omega);rw[PySem.W.krv_pick]
 have I5:=I4.laid (t':=s3.toks) (o:= .lst xs.reverse) (h':=(s3.heap.push {cls:= .type "slice",data:= .fields #[.none,.none,vk]}).push {cls:= .type "list",data:= .seq its.reverse.toArray}) (a:=(s3.heap.push {cls:= .type "slice",data:= .fields #[.none,.none,vk]}).objs.size)
   (fun b ob q=>Heap.get?_push_of_some _ q) (bs9 _) ⟨by rw[by0];exact hz,its.reverse,0,r.reverse,Heap.get?_push_size _ rfl⟩
 exact ⟨.ref _,_,I5,rfl,q _ (I4.hok.fresh (bs9 _))⟩
end
end L2
namespace L2
open PySem PySem.Spec PyProof.Rows
def S8:List Expr->Option (List Int)
 |[]=>some []
 | .Constant (.int i) _ _::es=>(S8 es).map (i:: ·)
 |_::_=>none
def bn4 (ns:List Int):TA:=fun _ H Q=>Q (ns.map V.int) H
def bn5 (ns:List Int):TE:=fun _ H Q=>ns.length<=sizeLine/\∀p,H p=none->Q (.ref p) (g9 H p (.lst (ns.map V.int)))
theorem ah6 (i:Int)(j:Nat)(p:Pos)(es:List Expr)(env:Env):starEach (.Constant (.int i) j p::es) env=(false,eval (.Constant (.int i) j p) env)::starEach es env:=rfl
theorem ah7 {X:Cx}:∀(es:List Expr) (ns:List Int),S8 es=some ns->PA X es (bn4 ns)
 |[],ns,h=>by
  have:ns=[]:=(Option.some.inj h).symm;subst this
  exact fun pos pins s σ H Q I h=>c5 pos pins s σ H Q I h
 |e::es,ns,h=>by
  unfold S8 at h
  split at h
  · rename_i h0;cases h0
  · rename_i i j p es' heq;cases heq
    cases ho:S8 es with
    |none=>rw[ho] at h;cases h
    |some ms=>
     rw[ho] at h;cases h
     exact fun pos pins s σ H Q I h=>(c4 (te:=tC (.int i)) i8 (ah7 es ms ho) (ah6 i j p es X.env)) pos pins s σ H Q I h
  · cases h
theorem V3 {X:Cx}{pos:Pos}{es:List Expr}(ns:List Int)(h:S8 es=some ns):PE X (.List es pos) (bn5 ns):=fun pins s σ H Q I h'=>x8 (ah7 es ns h) pins s σ H Q I (by
 show (ns.map V.int).length<=sizeLine/\_
 rw[bs1];exact h')
end L2
namespace L2
open PySem PySem.Spec PyProof.Rows
section
variable {X:Cx}
theorem av4:bootBuiltins "int"=some (.type "int"):=by decide+kernel
theorem av5:C4 X (.type "int") (fun xs H Q=>∃b,xs=[.bl b]/\Q (.int (if b then 1 else 0)) H):=by
 intro pins s σ H xs us Q I r h;obtain ⟨b,rfl,q⟩:=h;obtain ⟨u,rfl,rx⟩:=M7 r;cases rx;exact call_int_bool ⟨.int _,H,I.tok _,⟨_,rfl⟩,q⟩
theorem be9 {e:Expr}{t:TA}{p pos:Pos}(hm:X.mg "int"=none)(ha:PA X [e] t)(hg:Gl X "int":=by rfl)(he:starEach [e] X.env=(false,eval e X.env)::starEach [] X.env:=by rfl):
   PE X (.Call (.Name "int" p) [e] [] pos) (O6 (fun xs H Q=>∃b,xs=[.bl b]/\Q (.int (if b then 1 else 0)) H) t):=
 J4 av5 hg hm av4 ha (by decide) (by decide) he rfl
end
end L2
namespace Mth
theorem ah8 {p:List Int}(t:m4 p):∀i,i<=p.length->n5 p i (i2 p i)
 |0,_=>P9 p
 |i+1,h=>by
  have ih:=ah8 t i (by omega);show n5 p (i+1) (if (i:Int)∈(i2 p i).flatten then i2 p i else i2 p i++[i4 p i (T8 p i)]);have hx:In p (i:Int):=⟨by omega,by omega⟩
  by_cases hi:(i:Int)∈(i2 p i).flatten
  · rw[if_pos hi];exact Q0 ih hi
  · rw[if_neg hi];obtain ⟨L,hL⟩:=av0 t hx;rw[ah4 hL];exact Q1 t ih hx hL hi
theorem B0 {p:List Int}(t:m4 p):n5 p p.length (i2 p p.length):=ah8 t _ (bs9 _)
end Mth
namespace Mth
theorem bk1 {n c:Int}(hn:1<=n)(hc:0<=c):∃mx,(if (if n < c then n else c) > 1 then (if n < c then n else c) else (1:Int))=mx/\1<=mx/\mx<=n:=by
 refine ⟨_,rfl,?_⟩
 split<;>split at* <;>omega
end Mth
namespace L2
open PySem PySem.Spec PyProof.Rows
theorem ac3:bootBuiltins "str"=some (.type "str"):=by decide+kernel
theorem az8 {X:Cx}{p:Pos}(hm:X.mg "str"=none)(hg:Gl X "str":=by rfl):PE X (.Name "str" p) (tC (.ty "str")):=T5 hg hm ac3 rfl
end L2
namespace L2
open PySem PySem.Spec PyProof.Rows
theorem ah9 {K:Type}:∀{ts:List Str} {us:List Value},h8 (ts.map V.str) us->∃l:List (Str×Tok),us=strValues l/\l.map (·.1)=ts
 |[],us,h=>by cases h;exact ⟨[],rfl,rfl⟩
 |t::ts,us,h=>by
  cases h with
  |cons r h=>
   obtain ⟨l,rfl,e⟩:=ah9 (K:=K) h;obtain ⟨k,rfl⟩:=r;exact ⟨(t,k)::l,rfl,by rw[bt9,e]⟩
theorem ai0:∀(l:List (Str×Tok)),h8 ((l.map (·.1)).map V.str) (strValues l)
 |[]=> .nil
 |p::l=> .cons ⟨p.2,rfl⟩ (ai0 l)
section
variable {X:Cx} {p pos apos:Pos} {e o:Expr} {es:List Expr} {t:TA} {to:TE}
theorem T9 (hm:X.mg "str"=none)(ha:PA X [e] t)(hg:Gl X "str":=by rfl)(he:starEach [e] X.env=(false,eval e X.env)::starEach [] X.env:=by rfl):
   PE X (.Call (.Name "str" p) [e] [] pos) (O6 (fun xs H Q=>∃i,xs=[.int i]/\i.natAbs.log2 < 1920/\Q (.str (toString i)) H) t):=
 J4 ag0 hg hm ac3 ha (by decide) (by decide) he rfl
def bd0 (K:PySem.W.Frag):V->List V->Hp->VK->Prop:=fun x xs H Q=>∃sep a ts,x= .str sep/\xs=[.ref a]/\g8 K H a (ts.map V.str)/\JoinOk sep ts=true/\Q (.str (Txt.join sep ts)) H
theorem bf0:MtR X "str.join" (bd0 X.K):=by
 intro pins s σ H x vs v us Q I rx rv h;obtain ⟨sep,a,ts,rfl,rfl,hx,ok,q⟩:=h;obtain ⟨k,rfl⟩:=rx;obtain ⟨u,rfl,ru⟩:=rv.one;cases ru;obtain ⟨its,r,ht,hz⟩:=I.list hx;obtain ⟨l,rfl,el⟩:=ah9 (K:=Unit) r
 exact SC.join ht.isList el ok fun t' k'=>⟨.str _,H,I.tok k',⟨_,rfl⟩,q⟩
theorem P0 (ho:PE X o to)(ha:PA X [e] t)
   (hbase:attributeBase o "join" X.env (eval o X.env)=eval o X.env:=by rfl)
   (hfew:((backTo pos (starEach [e] X.env)).all (fun x=> !x.1)&&(backToKw pos (keywordEach [] X.env)).all (fun x=>x.1.isSome)
     &&decide ([e].length+([]:List Keyword).length+(if ([]:List Keyword).isEmpty then 0 else 1) < 30))=true:=by rfl)
   (hline:(apos.endLine==pos.line)=true:=by rfl) (hs:starEach [e] X.env=(false,eval e X.env)::starEach [] X.env:=by rfl) (hplain:(backTo pos (starEach [] X.env)).any (·.1)=false:=by rfl):
   PE X (.Call (.Attribute o "join" apos) [e] [] pos) (tBM X.K "str" (bd0 X.K) to t):=
 X0 PySem.F.plainAttrs_str PySem.F.slot_str_join PySem.F.type_str_join bf0 ho ha hbase hfew hline hs hplain
def av6:V->List V->Hp->VK->Prop:=fun x xs H Q=>∃y sep,x= .str y/\xs=[.str sep]/\(sep.length==0)=false/\y.length<=sizeLine/\(Builtin.Str.partsBetween y (Builtin.Str.occurrences y sep 0 y.length (y.length+1)) sep.length).length<=sizeLine/\(Txt.split y sep).length<=sizeLine/\
 ∀l,H l=none->Q (.ref l) (g9 H l (.lst ((Txt.split y sep).map V.str)))
theorem az9:MtR X "str.split" av6:=by
 intro pins s σ H x vs v us Q I rx rv h;obtain ⟨y,sep,rfl,rfl,h0,z1,z2,z3,q⟩:=h;obtain ⟨k,rfl⟩:=rx;obtain ⟨u,rfl,ru⟩:=rv.one;obtain ⟨k2,rfl⟩:=ru
 have fin:∀(l:List (Str×Tok)) (tk:Nat),l.map (·.1)=Txt.split y sep->∃(z:V) (H':Hp),c7 X pins σ H' {s with toks:=tk,heap:=s.heap.push {cls:= .type "list",data:= .seq (strValues l).toArray}}/\j4 z (.ref s.heap.objs.size)/\Q z H':=fun l tk e=>by
   refine ⟨.ref s.heap.objs.size,_,I.laid (t':=tk) (o:= .lst ((Txt.split y sep).map V.str)) (fun b ob g=>Heap.get?_push_of_some _ g) (bs9 _) ?_,rfl,q _ (I.hok.fresh (bs9 _))⟩;exact ⟨by rw[bs1];exact z3,_,0,by rw[<-e];exact ai0 l,Heap.get?_push_size _ rfl⟩
 by_cases c1:(decide (y.length < sep.length)||decide (Builtin.Str.strKind y < Builtin.Str.strKind sep))=true
 · refine call_meets F.slot_str_split (typeIs_str _ _ _) F.entry_str_split (F.args_str_split_2 _ _) (meets_str_split_cannot_occur y sep k k2 c1) ?_;exact fin [(y,k)] s.toks (if_pos c1).symm
 · by_cases c2:(Builtin.Str.occurrences y sep 0 y.length (y.length+1)).isEmpty=true
   · refine call_meets F.slot_str_split (typeIs_str _ _ _) F.entry_str_split (F.args_str_split_2 _ _) (meets_str_split_not_found y sep k k2 (cc4.mpr c1) h0 c2) ?_;exact fin [(y,k)] s.toks ((if_neg c1).trans (if_pos c2)).symm
   · refine call_meets F.slot_str_split (typeIs_str _ _ _) F.entry_str_split (F.args_str_split_2 _ _) (meets_str_split_sep y sep k k2 (cc4.mpr c1) h0 (cc4.mpr c2) z1 z2) ?_;have:=fin (PySem.numbered s.toks (Builtin.Str.partsBetween y (Builtin.Str.occurrences y sep 0 y.length (y.length+1)) sep.length)) (s.toks+(Builtin.Str.partsBetween y (Builtin.Str.occurrences y sep 0 y.length (y.length+1)) sep.length).length) ((numbered_texts _ _).trans ((if_neg c1).trans (if_neg c2)).symm);rw[<-strsFrom_eq] at this;exact this
theorem ai1 (ho:PE X o to)(ha:PA X [e] t)
   (hbase:attributeBase o "split" X.env (eval o X.env)=eval o X.env:=by rfl)
   (hfew:((backTo pos (starEach [e] X.env)).all (fun x=> !x.1)&&(backToKw pos (keywordEach [] X.env)).all (fun x=>x.1.isSome)
     &&decide ([e].length+([]:List Keyword).length+(if ([]:List Keyword).isEmpty then 0 else 1) < 30))=true:=by rfl)
   (hline:(apos.endLine==pos.line)=true:=by rfl) (hs:starEach [e] X.env=(false,eval e X.env)::starEach [] X.env:=by rfl) (hplain:(backTo pos (starEach [] X.env)).any (·.1)=false:=by rfl):
   PE X (.Call (.Attribute o "split" apos) [e] [] pos) (tBM X.K "str" av6 to t):=
 X0 PySem.F.plainAttrs_str PySem.F.slot_str_split PySem.F.type_str_split az9 ho ha hbase hfew hline hs hplain
def bq8:V->Option Int->Option Int->Hp->VK->Prop:=fun x lo hi H Q=>∃y,x= .str y/\y.length<=sizeLine/\Q (.str (Txt.slice y lo hi)) H
theorem bk2:SlR X bq8:=by
 intro pins s σ H x v vl vu lo hi sl Q I rx hs pl pu h;obtain ⟨y,rfl,hz,q⟩:=h;obtain ⟨k,rfl⟩:=rx;refine ⟨"str",_,F.slot_str_getitem.lookup,typeIs_str _ _ _,?_⟩
 have part:∀{w:Value} {n:Option Int},IsPart w n->∃z:Option (Int×Tok),w=partValue z/\z.map (·.1)=n:=fun h=>by
   cases h with
   |none=>exact ⟨none,rfl,rfl⟩
   |int i t=>exact ⟨some (i,t),rfl,rfl⟩
 obtain ⟨zl,rfl,el⟩:=part pl;obtain ⟨zu,rfl,eu⟩:=part pu;refine wpAny_getItem_str_slice (l:=zl) (u:=zu) (st:=none) hs rfl ?_;refine post_val_or_str ?_;have sz:=Txt.slice_le y lo hi;subst el eu;exact ⟨bw3 sz hz,fun t' k'=>⟨.str _,H,I.tok k',⟨_,rfl⟩,q⟩⟩
end
end L2
namespace L2
open PySem PySem.Spec PyProof.Rows
section
variable {X:Cx}
theorem bf1 {body:List Stmt}{h₀:ExceptHandler}{hs:List ExceptHandler}{pos:Pos}{t:TS}(hb:M6 X body t)(hx:∀e s,X.xe e s->False:=by intro _ _ h;exact h):PS X (.Try body (h₀::hs) [] [] pos) t:=by
 intro pins s σ H D I h;refine wpAny_Try_except (wpAny_mono (hb pins s σ H D I h) (fun f s1 q=> ?_) fun e s1 z=>(hx e s1 z).elim)
 cases f with
 |next=>exact wpAny_execs_nil q
 |_=>exact q
theorem bk3 {o:Expr}{to:TE}{apos pos:Pos}(ho:PE X o to)(hbase:attributeBase o "pop" X.env (eval o X.env)=eval o X.env:=by rfl)(hline:(apos.endLine==pos.line)=true:=by rfl):
 PE X (.Call (.Attribute o "pop" apos) [] [] pos) (bi7 X.K "list" bi9 to):=bi8 PySem.F.plainAttrs_list PySem.F.slot_list_pop PySem.F.type_list_pop bj0 ho hbase hline
theorem av7 (K:PySem.W.Frag){o e:Expr}{to:TE}{t:TA}{apos pos:Pos}(ho:PE X o to)(ha:PA X [e] t)(hK:X.K=K:=by rfl)
   (hbase:attributeBase o "pop" X.env (eval o X.env)=eval o X.env:=by rfl)
   (hfew:((backTo pos (starEach [e] X.env)).all (fun x=> !x.1)&&(backToKw pos (keywordEach [] X.env)).all (fun x=>x.1.isSome)
     &&decide ([e].length+([]:List Keyword).length+(if ([]:List Keyword).isEmpty then 0 else 1) < 30))=true:=by rfl)
   (hline:(apos.endLine==pos.line)=true:=by rfl) (hs:starEach [e] X.env=(false,eval e X.env)::starEach [] X.env:=by rfl) (hplain:(backTo pos (starEach [] X.env)).any (·.1)=false:=by rfl):
   PE X (.Call (.Attribute o "pop" apos) [e] [] pos) (tBM K "list" as6 to t):=by
 subst hK;exact X0 PySem.F.plainAttrs_list PySem.F.slot_list_pop PySem.F.type_list_pop ax9 ho ha hbase hfew hline hs hplain
end
end L2
namespace Mth
def K4 (sep:List Nat):List (List Nat)->List Nat
 |[]=>[]
 |[p]=>p
 |p::q::r=>p++sep++K4 sep (q::r)
def ae8 (w:Nat):Nat->List (List Nat)->List Nat
 |_,[]=>[]
 |_,[_]=>[]
 |a,p::q::r=>(a+p.length)::ae8 w (a+p.length+w) (q::r)
def ai2 (xs:List Nat)(w:Nat):Nat->List Nat->List (List Nat)
 |a,[]=>[(xs.drop a).take (xs.length - a)]
 |a,c::r=>(xs.drop a).take (c - a)::ai2 xs w (c+w) r
def mL (xs sep:List Nat)(i:Nat):Bool:=(xs.drop i).take sep.length==sep
theorem ai3 {xs rest:List Nat}{c0 i:Nat}(h:mL xs (c0::rest) i=true):xs[i]? =some c0:=by
 have h:(xs.drop i).take (rest.length+1)=c0::rest:=eq_of_beq h;have h2:=congrArg (fun l=>l[0]?) h;simp only[List.getElem?_cons_zero] at h2;rw[bv3 (by omega),by9] at h2
 simpa using h2
theorem V4 {xs rest:List Nat}{c0 a m:Nat}(h:∀i,a<=i->i < a+m->xs[i]? ≠some c0):(bu7 a m).filter (mL xs (c0::rest))=[]:=by
 rw[List.filter_eq_nil_iff];intro i hi;have:=List.mem_range'_1.mp hi
 exact fun z=>h i this.1 this.2 (ai3 z)
theorem ac4 {sep:List Nat}:∀{p:List Nat} {r:List (List Nat)},p.length<=(K4 sep (p::r)).length
 |p,[]=>bs9 _
 |p,q::r=>by show p.length<=(p++sep++K4 sep (q::r)).length;simp only[bs6];omega
theorem bq9 {rest:List Nat}{c0:Nat}(h0:c0∉rest):∀(parts:List (List Nat)) (pre xs:List Nat),parts≠[]->(∀p∈parts,c0∉p)->xs=pre++K4 (c0::rest) parts->
   (bu7 pre.length (xs.length+1 - pre.length)).filter (mL xs (c0::rest))=ae8 (rest.length+1) pre.length parts
 |[],_,_,h,_,_=>absurd rfl h
 |[p],pre,xs,_,hp,e=>by
  show _=[];have e:xs=pre++p:=e
  refine V4 fun i h1 h2 z=> ?_
  have hl:i < xs.length:=(bs3.mp z).1;rw[e,bu0 h1] at z;exact hp p bs4 (bs8 z)
 |p::q::r,pre,xs,_,hp,e=>by
  have e:xs=pre++(p++(c0::rest)++K4 (c0::rest) (q::r)):=e
  have el:xs.length=pre.length+p.length+(rest.length+1)+(K4 (c0::rest) (q::r)).length:=by
    rw[e];simp only[bs6,bw4];omega
  have ih:=bq9 h0 (q::r) (pre++p++(c0::rest)) xs (by simp) (fun y hy=>hp y (bs7 _ hy)) (by rw[e];simp only[bt4])
  have lpre:(pre++p++(c0::rest)).length=pre.length+p.length+(rest.length+1):=by simp only[bs6,bw4]
  rw[lpre] at ih
  have spl:bu7 pre.length (xs.length+1 - pre.length)=bu7 pre.length p.length++(bu7 (pre.length+p.length) 1++(bu7 (pre.length+p.length+1) rest.length++bu7 (pre.length+p.length+(rest.length+1)) (xs.length+1 - (pre.length+p.length+(rest.length+1))))):=by
    rw[show pre.length+p.length+(rest.length+1)=pre.length+p.length+1+rest.length by omega];rw[bz4,bz4,bz4]
    congr 1;omega
  rw[spl,cc2,cc2,cc2,ih];rw[V4 (fun i h1 h2 z=> ?_),V4 (a:=pre.length+p.length+1) (fun i h1 h2 z=> ?_)]
  · have:mL xs (c0::rest) (pre.length+p.length)=true:=by
      unfold mL
      have:xs.drop (pre.length+p.length)=(c0::rest)++K4 (c0::rest) (q::r):=by
        rw[e,<-bt4,<-bt4,bt4,List.drop_left' (by simp only[bs6])]
      rw[this,ca5];exact beq_self_eq_true _
    show []++(List.filter _ [pre.length+p.length]++([]++_))=_;rw[cd0 this];rfl
  · rw[e,bu0 (by omega),bt4,bu0 (by omega),bz7] at z;rw[show i - pre.length - p.length=(i - pre.length - p.length - 1)+1 by omega,cd1,bv0 (by omega)] at z;exact h0 (bs8 z)
  · rw[e,bu0 (by omega),bt4,bv0 (by omega)] at z;exact hp p bs4 (bs8 z)
theorem ba0 {sep:List Nat}:∀(parts:List (List Nat)) (pre xs:List Nat),parts≠[]->xs=pre++K4 sep parts->ai2 xs sep.length pre.length (ae8 sep.length pre.length parts)=parts
 |[],_,_,h,_=>absurd rfl h
 |[p],pre,xs,_,e=>by
  have e:xs=pre++p:=e;show [(xs.drop pre.length).take (xs.length - pre.length)]=[p];rw[e,cb8,bs6,Nat.add_sub_cancel_left,bu6]
 |p::q::r,pre,xs,_,e=>by
  have e:xs=pre++(p++sep++K4 sep (q::r)):=e;have ih:=ba0 (sep:=sep) (q::r) (pre++p++sep) xs (by simp) (by rw[e];simp only[bt4])
  have lpre:(pre++p++sep).length=pre.length+p.length+sep.length:=by simp only[bs6]
  rw[lpre] at ih;show (xs.drop pre.length).take (pre.length+p.length - pre.length)::ai2 xs sep.length (pre.length+p.length+sep.length) (ae8 sep.length (pre.length+p.length+sep.length) (q::r))=_;rw[ih,e,cb8,Nat.add_sub_cancel_left,bt4,ca5]
end Mth
namespace L2
open PySem PySem.Builtin PySem.Builtin.Str PySem.StrLaws
def mS (s sub:Str)(hi i:Nat):Bool:=decide (i+sub.length<=hi)&&subAt s sub i
theorem V5 (s sub:Str)(hi limit:Nat)(sep:∀i j,i < j->mS s sub hi i=true->mS s sub hi j=true->i+sub.length<=j):∀(m a:Nat) (st:Array Nat×Nat),st.fst.size<=a->a+m<=limit->(∀i,a<=i->mS s sub hi i=true->st.snd<=i)->
   (forIn (bu7 a m) st (occBody s sub hi limit)).run.fst.toList=st.fst.toList++(bu7 a m).filter (mS s sub hi)
 |0,a,st,_,_,_=>by
  show st.fst.toList=st.fst.toList++[];rw[bw0]
 |m+1,a,st,h1,h2,h3=>by
  rw[List.range'_succ,cb2]
  by_cases hm:mS s sub hi a=true
  · have c:((st.fst.size < limit/\st.snd<=a)/\a+sub.length<=hi)/\subAt s sub a=true:=by
      have z:=hm;unfold mS at z;rw[bx6] at z;exact ⟨⟨⟨by omega,h3 a (bs9 _) hm⟩,of_decide_eq_true z.1⟩,z.2⟩
    have e:occBody s sub hi limit a st=pure (ForInStep.yield (st.fst.push a,a+sub.length)):=if_pos c;rw[e,cd0 hm];show (forIn (bu7 (a+1) m) (st.fst.push a,a+sub.length) (occBody s sub hi limit)).run.fst.toList=_;rw[V5 s sub hi limit sep m (a+1) (st.fst.push a,a+sub.length) (by rw[Array.size_push];omega) (by omega) (fun i hi' mi=>sep a i (by omega) hm mi)];rw[Array.toList_push,bt4];rfl
  · have c:¬(((st.fst.size < limit/\st.snd<=a)/\a+sub.length<=hi)/\subAt s sub a=true):=fun z=>hm (by
      unfold mS;rw[bx6]
      exact ⟨decide_eq_true z.1.2,z.2⟩)
    have e:occBody s sub hi limit a st=pure (ForInStep.yield (st.fst,st.snd)):=if_neg c;rw[e,List.filter_cons_of_neg hm];show (forIn (bu7 (a+1) m) (st.fst,st.snd) (occBody s sub hi limit)).run.fst.toList=_;rw[V5 s sub hi limit sep m (a+1) (st.fst,st.snd) (by show st.fst.size<=a+1;omega) (by omega) (fun i hi' mi=>h3 i (by omega) mi)]
theorem ap6 {s sub:Str}(sep:∀i j,i < j->mS s sub s.length i=true->mS s sub s.length j=true->i+sub.length<=j):occurrences s sub 0 s.length (s.length+1)=(bu7 0 (s.length+1)).filter (mS s sub s.length):=by
 rw[occ_eq];show (forIn (bu7 0 (s.length+1 - 0)) ((#[]:Array Nat),0) (occBody s sub s.length (s.length+1))).run.fst.toList=_;rw[V5 s sub s.length (s.length+1) sep _ 0 (#[],0) (by simp) (by omega) (fun i _ _=>bu9 _)];rfl
theorem bn6 {s sub:Str}{c0:Nat}{rest:List Nat}(hs:sub.cps.toList=c0::rest)(i:Nat):mS s sub s.length i=Mth.mL s.cps.toList (c0::rest) i:=by
 have lw:sub.length=(c0::rest).length:=by rw[<-hs];rfl
 have ls:s.length=s.cps.toList.length:=rfl;unfold mS Mth.mL;rw[subAt_eq,lw,hs]
 by_cases h:i+(c0::rest).length<=s.length
 · rw[decide_eq_true h,Bool.true_and]
 · rw[decide_eq_false h,cd8]
   symm
   rw[beq_eq_false_iff_ne];intro e;have:=congrArg cd7 e;rw[bt6,bv2] at this;rw[bw4] at this h;omega
theorem bk4 {xs rest:List Nat}{c0:Nat}(h0:c0∉rest){i j:Nat}(hij:i < j)(hi:Mth.mL xs (c0::rest) i=true)(hj:Mth.mL xs (c0::rest) j=true):i+(c0::rest).length<=j:=by
 rcases Nat.lt_or_ge j (i+(c0::rest).length) with z|z
 · exfalso;have e:(xs.drop i).take (c0::rest).length=c0::rest:=eq_of_beq hi
   have h2:((xs.drop i).take (c0::rest).length)[j - i]? =(c0::rest)[j - i]? :=by rw[e]
   rw[bv3 (by omega),by9,show i+(j - i)=j by omega,Mth.ai3 hj,show j - i=(j - i - 1)+1 by omega,cd1] at h2;exact h0 (bs8 h2.symm)
 · exact z
theorem t7 {a b:Str}(h:a.cps.toList=b.cps.toList):a=b:=Str.ext' (Array.toList_inj.mp h)
theorem y6 (a b:Str):(a++b).cps.toList=a.cps.toList++b.cps.toList:=by rw[Str.cps_append,Array.toList_append]
theorem B5 (sep:Str):∀parts:List Str,(Str.join sep parts).cps.toList=Mth.K4 sep.cps.toList (parts.map (·.cps.toList))
 |[]=>rfl
 |[p]=>rfl
 |p::q::r=>by
  show (p++sep++Str.join sep (q::r)).cps.toList=p.cps.toList++sep.cps.toList++Mth.K4 sep.cps.toList ((q::r).map (·.cps.toList));rw[y6,y6,B5 sep (q::r)]
theorem R5 (x:Str)(w:Nat):∀(cuts:List Nat) (a:Nat),(partsFrom x w a cuts).map (·.cps.toList)=Mth.ai2 x.cps.toList w a cuts
 |[],a=>by
  show [(strSub x a x.length).cps.toList]=_;rw[strSub_toList];rfl
 |c::r,a=>by
  show (strSub x a c).cps.toList::(partsFrom x w (c+w) r).map (·.cps.toList)=_;rw[strSub_toList,R5 x w r (c+w)];rfl
theorem ba1 {sep:Str}{parts:List Str}{c0:Nat}{rest:List Nat}(hs:sep.cps.toList=c0::rest)(h0:c0∉rest)(hp:∀p∈parts,c0∉p.cps.toList)(ne:parts≠[]):
   occurrences (Str.join sep parts) sep 0 (Str.join sep parts).length ((Str.join sep parts).length+1)=Mth.ae8 (rest.length+1) 0 (parts.map (·.cps.toList)):=by
 have em:∀i,mS (Str.join sep parts) sep (Str.join sep parts).length i=Mth.mL (Str.join sep parts).cps.toList (c0::rest) i:=fun i=>bn6 hs i
 rw[ap6 fun i j hij hi hj=>by
   rw[em] at hi hj;have:=bk4 h0 hij hi hj
   have lw:sep.length=(c0::rest).length:=by rw[<-hs];rfl
   omega]
 rw[show mS (Str.join sep parts) sep (Str.join sep parts).length=Mth.mL (Str.join sep parts).cps.toList (c0::rest) from funext em];have:=Mth.bq9 h0 (parts.map (·.cps.toList)) [] (Str.join sep parts).cps.toList (by simpa using ne) (fun p h=>by obtain ⟨q,hq,rfl⟩:=bu5.mp h;exact hp q hq) (by rw[B5,hs];rfl);exact this
theorem Q2 {sep:Str}{parts:List Str}{c0:Nat}{rest:List Nat}(hs:sep.cps.toList=c0::rest)(h0:c0∉rest)(hp:∀p∈parts,c0∉p.cps.toList)(ne:parts≠[])(k1:Builtin.Str.strKind sep=1):
   Txt.split (Txt.join sep parts) sep=parts/\(partsBetween (Txt.join sep parts) (occurrences (Txt.join sep parts) sep 0 (Txt.join sep parts).length ((Txt.join sep parts).length+1)) sep.length).length=parts.length:=by
 have ej:Txt.join sep parts=Str.join sep parts:=glued_eq_join sep parts;have oc:=ba1 hs h0 hp ne
 have lw:sep.length=rest.length+1:=by show sep.cps.toList.length=_;rw[hs];rfl
 have pb:partsBetween (Str.join sep parts) (occurrences (Str.join sep parts) sep 0 (Str.join sep parts).length ((Str.join sep parts).length+1)) sep.length=parts:=by
   rw[partsBetween_eq,oc,lw];have h:=R5 (Str.join sep parts) (rest.length+1) (Mth.ae8 (rest.length+1) 0 (parts.map (·.cps.toList))) 0;have h2:=Mth.ba0 (sep:=c0::rest) (parts.map (·.cps.toList)) [] (Str.join sep parts).cps.toList (by simpa using ne) (by rw[B5,hs];rfl);have h3:=h.trans h2;exact (List.map_inj_right fun a b e=>t7 e).mp h3
 rw[ej];refine ⟨?_,by rw[pb]⟩
 have kd:¬Builtin.Str.strKind (Str.join sep parts) < Builtin.Str.strKind sep:=by
   rw[k1];unfold Builtin.Str.strKind;split
   · omega
   · split<;>omega
 unfold Txt.split;rw[decide_eq_false kd,Bool.or_false]
 cases parts with
 |nil=>exact absurd rfl ne
 |cons p r=>
  cases r with
  |nil=>
   have:(occurrences (Str.join sep [p]) sep 0 (Str.join sep [p]).length ((Str.join sep [p]).length+1)).isEmpty=true:=by rw[oc];rfl
   rw[if_pos this,ite_self];rfl
  |cons q r=>
   have c1:¬(decide ((Str.join sep (p::q::r)).length < sep.length))=true:=by
     rw[decide_eq_true_iff];show ¬(p++sep++Str.join sep (q::r)).length < sep.length;rw[Str.length_append,Str.length_append];omega
   have c2:¬(occurrences (Str.join sep (p::q::r)) sep 0 (Str.join sep (p::q::r)).length ((Str.join sep (p::q::r)).length+1)).isEmpty=true:=by rw[oc];simp [Mth.ae8]
   rw[if_neg c1,if_neg c2,pb]
end L2
namespace L2
open PySem PySem.Spec PyProof.Rows
theorem bf2:∀a b:List Int,HT.ae5 a b=false->HT.ae5 b a=true\/a=b
 |[],[],_=> .inr rfl
 |[],_::_,h=>by rw[HT.bd5] at h;cases h
 |_::_,[],_=> .inl rfl
 |x::a,y::b,h=>by
  rw[HT.bm0] at h ⊢
  by_cases e:x=y
  · rw[if_pos e] at h;rw[if_pos e.symm]
    rcases bf2 a b h with z|z
    · exact .inl z
    · exact .inr (by rw[e,z])
  · rw[if_neg e] at h;rw[if_neg (fun z=>e z.symm)];have:=of_decide_eq_false h;exact .inl (decide_eq_true (by omega))
end L2
namespace Mth
open L2 (C7)
structure J3 (p:List Int)(rs:List (List Int)):Prop where
 ring:∀r∈rs,∃x L,Mth.In p x/\v0 p x L/\r=i4 p x L/\∀y∈r,x<=y
 flat:rs.flatten.Perm (C7 0 p.length)
theorem J3.ne {p:List Int}{rs:List (List Int)}(h:J3 p rs):∀r∈rs,r≠[]:=fun r hr e=>by
 obtain ⟨x,L,_,pr,er,_⟩:=h.ring r hr;have:=i7 p x L;rw[<-er,e] at this;have:=pr.pos;simp at*;omega
theorem J7 {α:Type}:∀{rs:List (List α)},rs.flatten.Nodup->(∀r∈rs,r≠[])->rs.Nodup
 |[],_,_=>ca4
 |r::rs,nd,ne=>by
  rw[bu3,bx8] at nd;refine bw7.mpr ⟨fun hm=> ?_,J7 nd.2.1 fun q hq=>ne q (bs7 _ hq)⟩;obtain ⟨x,hx⟩:=cc5 r (ne r bs4);exact nd.2.2 x hx x (bu8.mpr ⟨r,hm,hx⟩) rfl
theorem J3.sub {p:List Int}{a b:List (List Int)}(ha:J3 p a)(hb:J3 p b):∀r∈a,r∈b:=fun r hr=>by
 obtain ⟨x,L,hx,pr,er,lo⟩:=ha.ring r hr;have hxf:x∈b.flatten:=hb.flat.mem_iff.mpr (t8.mpr hx);obtain ⟨r2,hr2,hxr2⟩:=bu8.mp hxf;obtain ⟨y,M,hy,pr2,er2,lo2⟩:=hb.ring r2 hr2;have self:x∈i4 p x L:=o7.mpr ⟨0,pr.pos,rfl⟩;have hyr:y∈i4 p x L:=ac2 pr pr2 self (by rw[<-er2];exact hxr2);have h1:=lo y (by rw[er];exact hyr);have h2:=lo2 x hxr2
 have e:x=y:=by omega
 subst e;rw[er,pr.uniq pr2,<-er2];exact hr2
theorem J3.perm {p:List Int}{a b:List (List Int)}(ha:J3 p a)(hb:J3 p b):a.Perm b:=by
 have na:=J7 (ha.flat.nodup_iff.mpr (r9 _)) ha.ne;have nb:=J7 (hb.flat.nodup_iff.mpr (r9 _)) hb.ne
 exact (List.perm_ext_iff_of_nodup na nb).mpr fun r=>⟨ha.sub hb r,hb.sub ha r⟩
theorem V6 {p:List Int}(t:m4 p){rs:List (List Int)}(h:n5 p p.length rs):J3 p rs:=⟨fun r hr=>by
 obtain ⟨x,L,a,b,c,d,_⟩:=h.ring r hr
 exact ⟨x,L,a,b,c,d⟩,D1 t h⟩
def Y0 (rs:List (List Int)):Prop:=rs.Pairwise fun r r'=>HT.ae5 r' r=false
theorem Y1:∀{a b:List (List Int)},a.Perm b->Y0 a->Y0 b->a=b
 |[],b,p,_,_=>(List.Perm.nil_eq p)
 |r::a,[],p,_,_=>absurd p.length_eq (by simp)
 |r::a,q::b,p,ha,hb=>by
  have h1:=List.pairwise_cons.mp ha;have h2:=List.pairwise_cons.mp hb
  have e:r=q:=by
    rcases bw9.mp (p.mem_iff.mp bs4) with z|z
    · exact z
    · rcases bw9.mp (p.mem_iff.mpr (bs4:q∈q::b)) with y|y
      · exact y.symm
      · have g1:=h2.1 r z;have g2:=h1.1 q y
        rcases L2.bf2 r q g1 with u|u
        · rw[g2] at u;cases u
        · exact u
  subst e;rw[Y1 (List.Perm.cons_inv p) h1.2 h2.2]
theorem ac5 {rs:List (List Int)}(ne:∀r∈rs,r≠[])(h:rs.Pairwise fun r s=>r.getD 0 0 < s.getD 0 0):Y0 rs:=by
 refine List.Pairwise.imp_of_mem (fun {r s} hr hs lt=> ?_) h
 cases r with
 |nil=>exact absurd rfl (ne _ hr)
 |cons x r=>
  cases s with
  |nil=>exact absurd rfl (ne _ hs)
  |cons y s=>
   have lt:x < y:=lt;rw[HT.bm0,if_neg (by omega)];exact decide_eq_false (by omega)
theorem av8 {p:List Int}(t:m4 p){rs:List (List Int)}(h:n5 p p.length rs):Y0 rs:=ac5 (V6 t h).ne h.ord
theorem ai4 {p:List Int}(t:m4 p){rs qs ts:List (List Int)}(h:n5 p p.length rs)(c:J3 p qs)(pm:ts.Perm qs)(up:Y0 ts):ts=rs:=
 Y1 (pm.trans (c.perm (V6 t h))) up (av8 t h)
theorem ba2 {p b:List Int}(t:m4 p)(h:A4 p (-1) b){x:Int}(hx:Mth.In p x){L:Nat}(pr:v0 p x L):(i4 p x L).reverse=i4 b (it p (L - 1) x) L:=by
 have key:∀i,i < L->it b i (it p (L - 1) x)=it p (L - 1 - i) x:=by
   intro i
   induction i with
   |zero=>intro _;rfl
   |succ i ih=>
    intro hi;show nx b (it b i (it p (L - 1) x))=_;rw[ih (by omega)]
    have e:L - 1 - i=(L - 1 - (i+1))+1:=by omega
    have hy:=B3 t hx (L - 1 - (i+1));have hny:=B3 t hx (L - 1 - i);have:=az7 t h hny;rw[e] at this ⊢;exact au7 t this.1 hy this.2
 refine bx4 fun i=> ?_
 by_cases hi:i < L
 · rw[ca9 (by rw[i7];exact hi),i7,x9 (by omega),x9 hi,key i hi]
 · rw[bt8 (by rw[by0,i7];omega),bt8 (by rw[i7];omega)]
end Mth
namespace L2
open PySem PySem.Spec PyProof.Rows
section
variable {P:Program} {w:World} {K:PySem.W.Frag} {mg:Str->Option Value} {base h:Heap} {x:Str} {st:Stmt} {f:Addr} {fd:FuncData} {ps:List Str} {k:Nat} {sp:Sp}
def Fu (K:PySem.W.Frag)(x:Str)(st:Stmt)(f:Addr):Prop:=∃fd,PySem.W.nsIn K mainGlobals x=some (some (.ref f))/\q9 K x x st f fd
theorem bn7 {oc:Value}{od an:Option Addr}{osl:Array (Option Value)}{kV doc pm cdv ct:Value}(a:PySem.W.nsIn K mainGlobals x=some (some (.ref f)))(l:K.lookup f=some ⟨oc,od,.func (PySem.W.fnOf x x (K6 st) (I0 st) (i6 st) .none kV doc pm an cdv ct),osl⟩)
 (c:PySem.W.codeIn K cdv x=true) (k:PySem.W.keepIn K (.ref f)=true):Fu K x st f:=⟨_,a,bj5 l c k⟩
theorem l9 (X:K.In h)(G:h.Ns mainGlobals mg)(a:PySem.W.nsIn K mainGlobals x=some (some (.ref f)))(F:q9 K x x st f fd)(b:P2 K fd ps [])(ok:m5 P w K mg base p5 k f fd ps sp):j9 P w K mg base x k ps sp:=⟨f,fd,PySem.W.mg_of X G a,F.kp,b,ok⟩
def Fre (K:PySem.W.Frag):List Str->Prop
 |[]=>True
 |x::l=>PySem.W.nsIn K mainGlobals x=some none/\Fre K l
end
end L2
namespace My
open PySem L2 Mth
def A2 (i:Nat):Stmt:=PySem.Challenge.pw_turnroots_k48_whole_texts_of_powers.main.body.getD i (.Pass ⟨0,0,0,0⟩)
abbrev Q3:Stmt:=A2 6
abbrev N6:Stmt:=A2 7
abbrev L5:Stmt:=A2 8
abbrev L6:Stmt:=A2 9
abbrev S9:Stmt:=A2 12
abbrev J1:Stmt:=A2 13
abbrev Q4:Stmt:=A2 14
abbrev Q5:Stmt:=A2 15
abbrev N7:Stmt:=A2 17
abbrev B6:Stmt:=A2 18
abbrev N8:Stmt:=A2 19
abbrev J8:Stmt:=A2 20
abbrev L7:Stmt:=A2 22
abbrev N9:Stmt:=A2 23
abbrev L8:Stmt:=A2 24
abbrev L9:Stmt:=A2 25
abbrev J9:Stmt:=A2 26
abbrev O0:Stmt:=A2 27
abbrev K0:Stmt:=A2 29
abbrev K1:Stmt:=A2 30
abbrev Q6:Stmt:=A2 31
abbrev Q7:Stmt:=A2 32
abbrev Q8:Stmt:=A2 33
abbrev M0:Stmt:=A2 34
abbrev K2:Stmt:=A2 35
abbrev O1:Stmt:=A2 36
abbrev O2:Stmt:=A2 37
abbrev U0:Stmt:=A2 38
end My
namespace My
open PySem L2 Mth
structure Bl (mg:Str->Option Value):Prop where
 len:mg "len"=none
 isi:mg "isinstance"=none
 int:mg "int"=none
 bool:mg "bool"=none
 list:mg "list"=none
 range:mg "range"=none
 sum:mg "sum"=none
 min:mg "min"=none
 max:mg "max"=none
 enum:mg "enumerate"=none
 zip:mg "zip"=none
 sorted:mg "sorted"=none
 tuple:mg "tuple"=none
 str:mg "str"=none
 repr:mg "repr"=none
 all:mg "all"=none
 any:mg "any"=none
 set:mg "set"=none
 dict:mg "dict"=none
 ve:mg "ValueError"=none
section
variable {P:Program} {w:World} {K:PySem.W.Frag} {mg:Str->Option Value} {base:Heap}
def Z4 (K:PySem.W.Frag):Sp:=fun vs H Q _=>∃x t b1 b2,vs=[x]/\C5 K H x t/\PySem.W.kitOne K t (.type "int")=some b1/\PySem.W.kitOne K t (.type "bool")=some b2/\Q (.bl (b1&& !b2)) H
theorem bf3:j7 ["thing"] ["thing"] (i6 Q3):=by rfl'
theorem ba3 {f:Addr}{fd:FuncData}(F:q9 K "is_whole" "is_whole" Q3 f fd)(B:Bl mg):m5 P w K mg base p5 1 f fd ["thing"] (Z4 K):=by
 refine F.ok bf3 (fun vs H Q E h=> ?_) (fun cdv A outer s H vs Q E hr h=> ?_)
 · obtain ⟨x,t,b1,b2,rfl,_⟩:=h;rfl
 · obtain ⟨x,t,b1,b2,rfl,ty,e1,e2,q⟩:=h;refine ⟨_,c8 (j5 (bg9 (O8 B.isi (c4 (pv 0) (c4 (ay8 B.int) c5))) (bg8 (bh0 (O8 B.isi (c4 (pv 0) (c4 (au1 B.bool) c5))))))),?_⟩;refine ⟨x,rfl,x,"int",t,b1,rfl,ty,e1,b1,rfl,?_⟩
   cases b1 with
   |true=>
    refine L3 ⟨x,rfl,x,"bool",t,b2,rfl,ty,e2,b2,rfl,?_⟩;exact q
   |false=>exact A8 q
def Q9:Sp:=fun vs H Q _=>∃(a:Addr) (ns:List Int),vs=[.ref a]/\H a=some (.lst (ns.map V.int))/\∀(b:Bool) (H':Hp),e8 H H'->(b=true↔ns.length<=40/\m4 ns)->Q (.bl b) H'
theorem V7:j7 ["thing","seen","place"] ["thing"] (i6 S9):=by rfl'
theorem av9 {f:Addr}{fd:FuncData}(F:q9 K "is_turn" "is_turn" S9 f fd)(B:Bl mg)(mt:∃t,mg "MOST_THINGS"=some (.int 40 t))(cW:j9 P w K mg base "is_whole" 1 ["thing"] (Z4 K)):m5 P w K mg base p5 2 f fd ["thing"] Q9:=by
 refine F.ok V7 (fun vs H Q E h=> ?_) (fun cdv A outer s H vs Q E hr h=> ?_)
 · obtain ⟨a,ns,rfl,_⟩:=h;rfl
 · obtain ⟨a,ns,rfl,ha,k⟩:=h;obtain ⟨tk,mt⟩:=mt;have hu:=X3 hr
   refine ⟨_,c6 (p7 (T6 (E6 (E5 (O8 B.isi (c4 (pv 0) (c4 (S4 B.list) c5))))) (W5 (m6 ae4 (p0 B.len (c4 (pv 0) c5)) (al8 (v:= .int 40) (by rfl) mt ⟨tk,rfl⟩) (m7 _)))).pt (c8 (j5 A7)) m9)
     (c6 (j2 (i:=1) V7.nd rfl (Or.inl rfl) ag8)
     (c6 (o1 PassesOwn.never rfl (o5 (pv 0)) (j8 (i:=2) V7.nd rfl (Or.inl rfl))
       (c6 (p7 (T6 (E6 (E5 (i5 cW hr (c4 (pv 2) c5)))) (T6 (m6 ao1 (pv 2) i8 (m7 _)) (T6 (m6 bc3 (pv 2) (p0 B.len (c4 (pv 0) c5)) (m7 _)) (W5 (ar2 (bj3 hu (pv 2) (pv 1))))))).pt (c8 (j5 A7)) m9)
       (c8 (am8 hu (pv 1) (pv 2) A7 rfl))))
     (c8 (j5 A7)))),?_⟩
   refine ⟨_,rfl,_,"list",_,true,rfl,.lst ha,L4 K "list",true,rfl,?_⟩;refine A8 ⟨_,rfl,a,_,rfl,.inl (g8.of ha),_,_,rfl,rfl,_,rfl,?_⟩;rw[bs1];refine P4 (fun h40=> ?_) (fun h40=> ?_)
   · have h40:(40:Int) < (ns.length:Int):=of_decide_eq_true h40;exact k false H (e8.refl H) ⟨fun z=>(by cases z),fun z=>(by have:=z.1;omega)⟩
   · have h40:¬(40:Int) < (ns.length:Int):=fun z=>h40 (decide_eq_true z)
     intro d hd;have nad:a≠d:=g6 ha hd
     have ha1:(g9 H d (.dK [])) a=some (.lst (ns.map V.int)):=by rw[g7 nad];exact ha
     refine ⟨_,rfl,a,rfl,⟨_,g8.of ha1⟩,y8 (K:=K) (a:=a) (xs:=ns.map V.int) (fun i σ H2=>∃v:Option V,σ=[some (.ref a),some (.ref d),v]/\e8 H H2/\H2 d=some (.dK (B7 (ns.take i)))/\(ns.take i).Nodup/\∀x∈ns.take i,0<=x/\x < ns.length)
       ⟨none,rfl,e8.upd_new hd,c9,ca4,fun x hx=>by simp at hx⟩ (fun i σ H2 _ zz=>by obtain ⟨_,_,s2,_⟩:=zz;exact g8.of (s2 a _ ha)) ?_ ?_⟩
     · rintro i y σ H2 hi ⟨v,rfl,s2,h2,nd,bd⟩;obtain ⟨z,hz,rfl⟩:=y9 hi;have ha2:=s2 a _ ha;have hil:i < ns.length:=(bs3.mp hz).1;refine ⟨_,rfl,.int z,_,true,false,rfl,.int z,L4 K "int",ah1 K,_,rfl,?_⟩;refine A8 ⟨_,rfl,_,_,rfl,rfl,_,rfl,?_⟩;refine P4 (fun hz0=> ?_) (fun hz0=> ?_)
       · have hz0:z < 0:=of_decide_eq_true hz0;exact L3 (k false H2 s2 ⟨fun q=>(by cases q),fun q=>(by have:=q.2.lo z (bs8 hz);omega)⟩)
       have hz0:¬z < 0:=fun q=>hz0 (decide_eq_true q)
       refine ⟨_,rfl,_,rfl,a,_,rfl,.inl (g8.of ha2),_,_,rfl,rfl,_,rfl,?_⟩;rw[bs1];refine P4 (fun hz1=> ?_) (fun hz1=> ?_)
       · have hz1:(ns.length:Int)<=z:=of_decide_eq_true hz1;exact L3 (k false H2 s2 ⟨fun q=>(by cases q),fun q=>(by have:=q.2.hi z (bs8 hz);omega)⟩)
       have hz1:¬(ns.length:Int)<=z:=fun q=>hz1 (decide_eq_true q)
       refine ⟨_,rfl,_,rfl,d,_,rfl,S1.k (k:=Sum.inl z) h2,_,rfl,?_⟩
       by_cases hm:z∈ns.take i
       · rw[ah3 hm];refine L3 (k false H2 s2 ⟨fun q=>(by cases q),fun q=> ?_⟩);exfalso;obtain ⟨j,hj⟩:=cb0.mp hm
         have hjl:j < i:=by
           have:=(bs3.mp hj).1;rw[bt6] at this;omega
         rw[bv3 hjl] at hj;have e1:=(bs3.mp hj).2;have e2:=(bs3.mp hz).2;exact bw1.mp (bt7.mp q.2.nd) j i (by omega) hil hjl (by rw[e1,e2])
       · rw[V1 hm];refine A8 ⟨_,rfl,_,rfl,d,_,rfl,Z1.k (k:=Sum.inl z) h2 (l6 (by unfold B7;rw[bs1,bt6];omega)),?_⟩
         have hds:∀b o,H b=some o->b≠d:=fun b o e=>g6 e hd
         refine ⟨some (.int z),rfl,fun b o e=>by rw[g7 (hds b o e)];exact s2 b o e,?_,?_,?_⟩
         · rw[ac1 hm,c9,j6 hz]
         · rw[j6 hz];exact T7 nd hm
         · intro x hx;rw[j6 hz] at hx
           rcases bt5.mp hx with q|q
           · exact bd x q
           · have:x=z:=by simpa using q
             omega
     · rintro σ H2 ⟨v,rfl,s2,h2,nd,bd⟩;rw[bs1,bu6] at nd bd;refine k true H2 s2 ⟨fun _=>⟨by omega,⟨nd,fun x hx=>(bd x hx).1,fun x hx=>(bd x hx).2⟩⟩,fun _=>rfl⟩
end
end My
namespace My
open PySem L2 Mth
section
variable {P:Program} {w:World} {K:PySem.W.Frag} {mg:Str->Option Value} {base:Heap}
def y7 (H:Hp)(a:Addr)(p:List Int):Prop:=H a=some (.lst (p.map V.int))/\m4 p/\p.length<=40
end
end My
namespace My
open PySem L2 Mth
section
variable {P:Program} {w:World} {K:PySem.W.Frag} {mg:Str->Option Value} {base:Heap}
def Y2:Sp:=fun vs H Q _=>∃(a:Addr) (ns:List Int),vs=[.ref a]/\y7 H a ns/\∀(H':Hp),e8 H H'->Q .non H'
theorem bk5:j7 ["thing"] ["thing"] (i6 J1):=by rfl'
theorem bf4 {f:Addr}{fd:FuncData}(F:q9 K "must_be_turn" "must_be_turn" J1 f fd)(cT:j9 P w K mg base "is_turn" 2 ["thing"] Q9):m5 P w K mg base p5 3 f fd ["thing"] Y2:=by
 refine F.ok bk5 (fun vs H Q E h=> ?_) (fun cdv A outer s H vs Q E hr h=> ?_)
 · obtain ⟨a,ns,rfl,_⟩:=h;rfl
 · obtain ⟨a,ns,rfl,⟨ha,ht,hl⟩,k⟩:=h;refine ⟨_,c8 (p7 (E6 (E5 (i5 cT hr (c4 (pv 0) c5)))) (c8 G8) m9),?_⟩;refine ⟨_,rfl,a,ns,rfl,ha,fun b H' s' hb=>⟨b,rfl,?_⟩⟩;have:b=true:=hb.mpr ⟨hl,ht⟩;subst this;exact A8 (k H' s')
end
end My
namespace My
open PySem L2 Mth
def ap7 (H:Hp)(l:Addr):Nat:=match H l with
 |some (.lst xs)=>xs.length
 |_=>0
theorem ai5 {H:Hp}{l:Addr}{xs:List V}(h:H l=some (.lst xs)):ap7 H l=xs.length:=by unfold ap7;rw[h]
end My
namespace My
open PySem L2 Mth
section
variable {P:Program} {w:World} {K:PySem.W.Frag} {mg:Str->Option Value} {base:Heap}
def x4:Sp:=fun vs H Q _=>∃(a:Addr) (p:List Int),vs=[.ref a]/\y7 H a p/\
 ∀(l:Addr) (as:List Addr) (rs:List (List Int)) (H':Hp),H l=none->e8 H H'->H' l=some (.lst (as.map V.ref))->B2 H' as rs->n5 p p.length rs->(∀b∈as,H b=none)->as.Nodup->l∉as->Q (.ref l) H'
theorem T0 {H:Hp}{as:List Addr}{rs:List (List Int)}{e:Addr}{r:List Int}(h:B2 H as rs)(he:H e=some (.lst (r.map V.int))):B2 H (as++[e]) (rs++[r]):=by
 refine ⟨by rw[bs6,bs6,h.1];rfl,fun j b q h1 h2=> ?_⟩
 by_cases hj:j < as.length
 · rw[bv0 hj] at h1;rw[bv0 (by rw[<-h.1];exact hj)] at h2;exact h.2 j b q h1 h2
 · rw[bu0 (by omega)] at h1;rw[bu0 (by rw[<-h.1];omega),<-h.1] at h2
   have hj0:j - as.length=0:=by
     have:=(bs3.mp h1).1
     simpa using this
   rw[hj0] at h1 h2;cases h1;cases h2;exact he
theorem E1 {H H':Hp}{as:List Addr}{rs:List (List Int)}(h:B2 H as rs)(k:∀b∈as,∀o,H b=some o->H' b=some o):B2 H' as rs:=
 ⟨h.1,fun j a r h1 h2=>k a (bs8 h1) _ (h.2 j a r h1 h2)⟩
theorem V8 {H:Hp}{as:List Addr}{rs:List (List Int)}(h:B2 H as rs){b:Addr}(hb:b∈as):∃r:List Int,H b=some (.lst (r.map V.int)):=by
 obtain ⟨j,hj⟩:=cb0.mp hb;have hjl:=(bs3.mp hj).1;exact ⟨_,h.2 j b (rs[j]'(by rw[<-h.1];exact hjl)) hj (bs2 _)⟩
theorem aw0 {p:List Int}{i:Nat}{rs:List (List Int)}(tp:m4 p)(h:n5 p i rs):rs.flatten.length<=p.length:=by
 refine w4 h.nd fun x hx=> ?_
 obtain ⟨r,hr,hxr⟩:=bu8.mp hx;obtain ⟨y,L,a,b,rfl,_⟩:=h.ring r hr;exact A9 tp a x hxr
theorem V9 {p:List Int}{i:Nat}{rs:List (List Int)}(h:n5 p i rs):rs.length<=rs.flatten.length:=by
 have:∀l:List (List Int),(∀r∈l,1<=r.length)->l.length<=l.flatten.length:=by
   intro l
   induction l with
   |nil=>intro _;exact bs9 _
   |cons a r ih=>
    intro h;have h1:=h a bs4
    have h2:=ih fun x hx=>h x (bs7 _ hx)
    rw[bu3,bs6,bw4];omega
 refine this rs fun r hr=> ?_
 obtain ⟨y,L,a,b,rfl,_⟩:=h.ring r hr;rw[i7];exact b.pos
end
end My
namespace My
open PySem L2 Mth
section
variable {P:Program} {w:World} {K:PySem.W.Frag} {mg:Str->Option Value} {base:Heap}
def ai6:Sp:=fun vs H Q _=>∃(a:Addr) (p:List Int) (x:Int),vs=[.ref a,.int x]/\y7 H a p/\In p x/\
 ∀(l:Addr) (L:Nat) (H':Hp),H l=none->e8 H H'->v0 p x L->L<=40->H' l=some (.lst ((i4 p x L).map V.int))->Q (.ref l) H'
theorem Y3:j7 ["p","first","ring","thing"] ["p","first"] (i6 N6):=by rfl'
theorem bf5 {f:Addr}{fd:FuncData}(F:q9 K "walk_ring" "walk_ring" N6 f fd):m5 P w K mg base p5 1 f fd ["p","first"] ai6:=by
 refine F.ok Y3 (fun vs H Q E h=> ?_) (fun cdv A outer s H vs Q E hr h=> ?_)
 · obtain ⟨a,p,x,rfl,_⟩:=h;rfl
 · obtain ⟨a,p,x,rfl,⟨ha,tp,lp⟩,hx,q⟩:=h
   refine ⟨_,c6 (j2 (i:=2) Y3.nd rfl (Or.inl rfl) (x8 (c4 (pv 1) c5)))
     (c6 (j2 (i:=3) Y3.nd rfl (Or.inl rfl) (A3 o6 (pv 0) (pv 1) (fun _ _=>rfl)))
     (c6 (U8 PassesOwn.never (m6 W9 (pv 3) (pv 1) (m7 _)) (c6 (w9 (B4 (pv 2) (c4 (pv 3) c5))) (c8 (j2 (i:=3) Y3.nd rfl (Or.inl rfl) (A3 o6 (pv 0) (pv 3) (fun _ _=>rfl))))))
     (c8 (j5 (pv 2))))),?_⟩
   refine ⟨_,rfl,(by show 1<=sizeLine;decide),fun l hl=> ?_⟩;have nal:a≠l:=g6 ha hl
   have hal:(g9 H l (.lst [.int x])) a=some (.lst (p.map V.int)):=by rw[g7 nal];exact ha
   refine ⟨_,rfl,_,rfl,a,_,_,_,rfl,rfl,g8.of hal,B8 hx.1 hx.2,?_⟩
   refine ax4 (fun σ H2=>∃m:Nat,σ=[some (.ref a),some (.int x),some (.ref l),some (.int (it p m x))]/\1<=m/\H2 l=some (.lst ((i4 p x m).map V.int))/\e8 H H2/\∀i,0 < i->i < m->it p i x≠x) (fun _ H2=>p.length+1 - ap7 H2 l)
     ⟨1,rfl,bs9 _,c9,e8.upd_new hl,fun i i0 i1=>by omega⟩ ?_ ?_
   · rintro σ H2 ⟨m,rfl,m1,h2l,s2,hne⟩;have ha2:=s2 a _ ha;refine ⟨_,rfl,_,rfl,rfl,_,rfl,?_⟩
     by_cases hb:it p m x=x
     · refine P5 (congrArg V.int hb) ?_;exact ⟨_,rfl,q l m H2 hl s2 ⟨by omega,hb,hne⟩ (by have:=G2 tp hx hne;omega) h2l⟩
     · have hb':¬V.int (it p m x)=V.int x:=fun z=>hb (V.int.inj z)
       rw[decide_eq_false hb'];refine L3 ?_
       have hne':∀i,0 < i->i < m+1->it p i x≠x:=fun i i0 i1=>by
         by_cases e:i=m
         · rw[e];exact hb
         · exact hne i i0 (by omega)
       have hbd:=G2 tp hx hne';refine ⟨_,rfl,.inl ⟨rfl,_,g8.of h2l⟩,_,rfl,l,_,_,rfl,rfl,h2l,l6 (by rw[bs1,i7];omega),?_⟩;have hi:=B3 tp hx m;refine ⟨_,rfl,_,rfl,a,_,_,_,rfl,rfl,g8.of (by rw[g7 nal];exact ha2),B8 hi.1 hi.2,?_⟩
       have h3l:(g9 H2 l (.lst ((i4 p x m).map V.int++[.int (it p m x)]))) l=some (.lst ((i4 p x (m+1)).map V.int)):=by
         rw[c9,P8,bt3];rfl
       refine ⟨⟨m+1,rfl,by omega,h3l,fun b o hb=>by rw[g7 (g6 hb hl)];exact s2 b o hb,hne'⟩,?_⟩;rw[ai5 h3l,ai5 h2l,bs1,bs1,i7,i7];omega
   · rintro σ H2 Q Q' hq ⟨v,hv,u,hu,e1,k1,e2,e3⟩;exact ⟨v,hv,u,hu,e1,k1,e2,hq _ _ e3⟩
theorem K7:j7 ["p","rings","seen","first","ring","thing"] ["p"] (i6 L5):=by rfl'
theorem ba4 {f:Addr}{fd:FuncData}(F:q9 K "walk_rings" "walk_rings" L5 f fd)(B:Bl mg)(cR:j9 P w K mg base "walk_ring" 1 ["p","first"] ai6):m5 P w K mg base p5 2 f fd ["p"] x4:=by
 refine F.ok K7 (fun vs H Q E h=> ?_) (fun cdv A outer s H vs Q E hr h=> ?_)
 · obtain ⟨a,p,rfl,_⟩:=h;rfl
 · obtain ⟨a,p,rfl,⟨ha,tp,lp⟩,q⟩:=h;have hu:=X3 hr
   refine ⟨_,c6 (j2 (i:=1) K7.nd rfl (Or.inl rfl) (x8 c5)) (c6 (j2 (i:=2) K7.nd rfl (Or.inl rfl) ag8)
     (c6 (o1 PassesOwn.never rfl (x6 (by rfl) B.range (c4 (p0 B.len (c4 (pv 0) c5)) c5)) (j8 (i:=3) K7.nd rfl (Or.inl rfl))
       (c8 (p7 (ar2 (as9 hu (pv 3) (pv 2))) (c6 (j2 (i:=4) K7.nd rfl (Or.inl rfl) (i5 cR hr (c4 (pv 0) (c4 (pv 3) c5)))) (c6 (w9 (B4 (pv 1) (c4 (pv 4) c5)))
         (c8 (o1 PassesOwn.never rfl (o5 (pv 4)) (j8 (i:=5) K7.nd rfl (Or.inl rfl)) (c8 (am8 hu (pv 2) (pv 5) A7 rfl)))))) m9)))
     (c8 (j5 (pv 1))))),?_⟩
   refine ⟨bu9 _,fun l hl=> ?_⟩;intro d hd
   have hdl:d≠l:=fun z=>by rw[z,c9] at hd;cases hd
   have hd0:H d=none:=by rw[g7 hdl] at hd;exact hd
   have s0:e8 H (g9 (g9 H l (.lst [])) d (.dK [])):=(e8.upd_new hl).upd_r hd0
   have h0l:(g9 (g9 H l (.lst [])) d (.dK [])) l=some (.lst []):=by rw[g7 hdl.symm,c9]
   refine ⟨_,rfl,a,_,rfl,.inl (g8.of (s0 a _ ha)),(p.length:Int),?_,by omega,by omega,?_⟩
   · rw[bs1]
   rw[show ((p.length:Int)).toNat=p.length by omega]
   refine A6 (lo:=0) (n:=p.length) (fun i σ H2=>∃(as:List Addr) (rs:List (List Int)) (v3 v4 v5:Option V),σ=[some (.ref a),some (.ref l),some (.ref d),v3,v4,v5]/\H2 l=some (.lst (as.map V.ref))/\H2 d=some (.dK (B7 rs.flatten))/\B2 H2 as rs/\n5 p i rs/\e8 H H2/\(∀b∈as,H b=none)/\as.Nodup/\l∉as)
     ⟨[],[],none,none,none,rfl,h0l,c9,⟨rfl,fun j b r h=>by simp at h⟩,P9 p,s0,fun b hb=>by simp at hb,ca4,by simp⟩ ?_ ?_
   · rintro i σ H2 hi ⟨as,rs,v3,v4,v5,rfl,h2l,h2d,rows,up,s2,fa,nda,nla⟩;have hx:In p (i:Int):=⟨by omega,by omega⟩
     have e0:(0:Int)+(i:Int)=(i:Int):=by omega
     rw[e0];refine ⟨_,rfl,_,rfl,d,_,rfl,S1.k (k:=Sum.inl (i:Int)) h2d,_,rfl,?_⟩
     by_cases hm:(i:Int)∈rs.flatten
     · rw[ah3 hm];refine A8 ?_;exact ⟨as,rs,_,_,_,rfl,h2l,h2d,rows,Q0 up hm,s2,fa,nda,nla⟩
     · rw[V1 hm];refine L3 ?_;refine ⟨_,rfl,_,rfl,a,p,_,rfl,⟨s2 a _ ha,tp,lp⟩,hx,fun e L H3 he s23 pr hL h3e=> ?_⟩;have h3l:=s23 l _ h2l;have h3d:=s23 d _ h2d;have nle:l≠e:=g6 h2l he;have nde:d≠e:=g6 h2d he;have fl:=aw0 tp up;have cl:=V9 up;have lenas:=rows.1;refine ⟨_,rfl,.inl ⟨rfl,_,g8.of h3l⟩,_,rfl,l,_,_,rfl,rfl,h3l,l6 (by rw[bs1,lenas];omega),?_⟩
       have es:as.map V.ref++[V.ref e]=(as++[e]).map V.ref:=by rw[bt3];rfl
       rw[es];have h4l:(g9 H3 l (.lst ((as++[e]).map V.ref))) l=some (.lst ((as++[e]).map V.ref)):=c9
       have h4d:(g9 H3 l (.lst ((as++[e]).map V.ref))) d=some (.dK (B7 rs.flatten)):=by rw[g7 hdl];exact h3d
       have h4e:(g9 H3 l (.lst ((as++[e]).map V.ref))) e=some (.lst ((i4 p i L).map V.int)):=by rw[g7 nle.symm];exact h3e
       have k4:∀b o,H2 b=some o->b≠l->(g9 H3 l (.lst ((as++[e]).map V.ref))) b=some o:=fun b o hb hn=>by rw[g7 hn];exact s23 b o hb
       generalize (g9 H3 l (.lst ((as++[e]).map V.ref)))=H4 at h4l h4d h4e k4 ⊢;have fr:=N5 up pr hm
       have ndr:=C3 tp hx fun j j0 j1=>pr.least j j0 j1
       refine ⟨_,rfl,e,rfl,⟨_,g8.of h4e⟩,y8 (K:=K) (a:=e) (xs:=(i4 p i L).map V.int) (fun j σ H5=>∃v5':Option V,σ=[some (.ref a),some (.ref l),some (.ref d),some (.int (i:Int)),some (.ref e),v5']/\H5 d=some (.dK (B7 (rs.flatten++(i4 p i L).take j)))/\i3 d H4 H5)
         ⟨v5,rfl,by rw[List.take_zero,bw0];exact h4d,i3.refl d H4⟩ (fun j σ H5 _ zz=>by obtain ⟨_,_,_,k⟩:=zz;exact g8.of (k e _ h4e nde.symm)) ?_ ?_⟩
       · rintro j y σ H5 hj ⟨v5',rfl,h5d,kb⟩;obtain ⟨z,hz,rfl⟩:=y9 hj;have hjl:j < (i4 p i L).length:=(bs3.mp hz).1;rw[i7] at hjl
         have hzn:z∉rs.flatten++(i4 p i L).take j:=by
           intro hm'
           rcases bt5.mp hm' with g|g
           · exact fr z (bs8 hz) g
           · obtain ⟨jj,hjj⟩:=cb0.mp g
             have hjk:jj < j:=by
               have:=(bs3.mp hjj).1;rw[bt6] at this;omega
             rw[bv3 hjk] at hjj;have e1:=(bs3.mp hjj).2;have e2:=(bs3.mp hz).2;exact bw1.mp (bt7.mp ndr) jj j (by rw[i7];omega) (by rw[i7];omega) hjk (by rw[e1,e2])
         refine ⟨_,rfl,_,rfl,d,_,rfl,Z1.k (k:=Sum.inl z) h5d (l6 (by unfold B7;rw[bs1,bs6,bt6,i7];omega)),?_⟩;refine ⟨_,rfl,?_,kb.upd_a⟩;rw[ac1 hzn,c9,j6 hz,bt4]
       · rintro σ H5 ⟨v5',rfl,h5d,kb⟩;rw[bs1,bu6] at h5d
         have nad:∀b∈as,b≠d/\b≠l:=fun b hb=>by
           obtain ⟨r,hr'⟩:=V8 rows hb;exact ⟨bb7 hr' h2d (by intro z;cases z),fun z=>nla (z▸hb)⟩
         refine ⟨as++[e],rs++[i4 p i L],_,_,_,rfl,kb l _ h4l hdl.symm,?_,?_,Q1 tp up hx pr hm,?_,?_,?_,?_⟩
         · rw[h5d,bv1,bw2]
         · exact T0 (E1 rows fun b hb o ho=>kb b o (k4 b o ho (nad b hb).2) (nad b hb).1) (kb e _ h4e nde.symm)
         · exact fun b o hb=>kb b o (k4 b o (s2 b o hb) (g6 hb hl)) (g6 hb hd0)
         · intro b hb
           rcases bt5.mp hb with g|g
           · exact fa b g
           · have:b=e:=by simpa using g
             rw[this];exact s2.free he
         · refine T7 nda fun g=> ?_
           obtain ⟨r,hr'⟩:=V8 rows g;rw[he] at hr';cases hr'
         · intro g
           rcases bt5.mp g with g|g
           · exact nla g
           · exact nle (by simpa using g)
   · rintro σ H2 ⟨as,rs,v3,v4,v5,rfl,h2l,h2d,rows,up,s2,fa,nda,nla⟩;exact ⟨_,rfl,q l as rs H2 hl s2 h2l rows up fa nda nla⟩
end
end My
namespace My
open PySem L2 Mth
section
variable {P:Program} {w:World} {K:PySem.W.Frag} {mg:Str->Option Value} {base:Heap}
def Y4:Sp:=fun vs H Q _=>∃(t r:Addr) (ts rs:List Int) (k:Int),vs=[.ref t,.ref r,.int k]/\H t=some (.lst (ts.map V.int))/\H r=some (.lst (rs.map V.int))/\t≠r/\rs.Nodup/\(∀x∈rs,0<=x/\x < ts.length)/\
 ∀(ts':List Int) (H':Hp),ts'.length=ts.length->(∀j,j < rs.length->o8 ts' (rs.getD j 0)=some (rs.getD (((j:Int)+k)%(rs.length:Int)).toNat 0))->(∀u,0<=u->u∉rs->o8 ts' u=o8 ts u)->H' t=some (.lst (ts'.map V.int))->i3 t H H'->Q .non H'
theorem ai7:j7 ["target","ring","steps","place","thing"] ["target","ring","steps"] (i6 L6):=by rfl'
theorem bf6 {f:Addr}{fd:FuncData}(F:q9 K "send_along" "send_along" L6 f fd)(B:Bl mg):m5 P w K mg base p5 1 f fd ["target","ring","steps"] Y4:=by
 refine F.ok ai7 (fun vs H Q E h=> ?_) (fun cdv A outer s H vs Q E hr h=> ?_)
 · obtain ⟨t,r,ts,rs,k,rfl,_⟩:=h;rfl
 · obtain ⟨t,r,ts,rs,k,rfl,ht,hrr,ntr,nd,bd,q⟩:=h
   refine ⟨_,c8 (o1 PassesOwn.never rfl (be6 B.enum (c4 (pv 1) c5)) (bh3 rfl (af4 (j8 (i:=3) ai7.nd rfl (Or.inl rfl)) (af4 (j8 (i:=4) ai7.nd rfl (Or.inl rfl)) bd2)))
     (c8 (O4 (A3 o6 (pv 1) (l8 E8 (l8 O5 (pv 3) (pv 2)) (p0 B.len (c4 (pv 1) c5))) (fun _ _=>rfl)) (O3 (pv 0) (pv 4) G9)))),?_⟩
   refine ⟨_,rfl,r,rfl,⟨_,g8.of hrr⟩,az4 (K:=K) (a:=r) (xs:=rs.map V.int) (fun i σ H2=>∃(ts':List Int) (v3 v4:Option V),σ=[some (.ref t),some (.ref r),some (.int k),v3,v4]/\H2 t=some (.lst (ts'.map V.int))/\ts'.length=ts.length/\(∀j,j < i->o8 ts' (rs.getD j 0)=some (rs.getD (((j:Int)+k)%(rs.length:Int)).toNat 0))/\(∀u,0<=u->u∉rs->o8 ts' u=o8 ts u)/\i3 t H H2)
     ⟨ts,none,none,rfl,ht,rfl,fun j hj=>by omega,fun u _ _=>rfl,i3.refl t H⟩ (fun i σ H2 _ zz=>by obtain ⟨_,_,_,_,_,_,_,_,k⟩:=zz;exact g8.of (k r _ hrr ntr.symm)) ?_ ?_⟩
   · rintro i y σ H2 tt hi ⟨ts',v3,v4,rfl,h2t,hl,hj,hu,kb⟩ htt;obtain ⟨z,hz,rfl⟩:=y9 hi;have hil:i < rs.length:=(bs3.mp hz).1;have h2r:=kb r _ hrr ntr.symm;have nt:t≠tt:=g6 h2t htt;have nr:r≠tt:=g6 h2r htt
     have h3r:(g9 H2 tt (.tup [.int (i:Int),.int z])) r=some (.lst (rs.map V.int)):=by rw[g7 nr];exact h2r
     have h3t:(g9 H2 tt (.tup [.int (i:Int),.int z])) t=some (.lst (ts'.map V.int)):=by rw[g7 nt];exact h2t
     have L0:(0:Int) < (rs.length:Int):=by omega
     have m0:=bv6 ((i:Int)+k) (show (rs.length:Int)≠0 by omega);have m1:=bx7 ((i:Int)+k) L0;refine ⟨tt,_,rfl,E7.of c9,rfl,_,_,rfl,_,_,rfl,rfl,?_⟩;refine ⟨_,rfl,_,rfl,_,rfl,_,_,rfl,rfl,_,rfl,r,_,rfl,.inl (g8.of h3r),?_⟩;rw[bs1];refine ⟨_,_,rfl,rfl,L0,r,_,_,_,rfl,rfl,g8.of h3r,B8 m0 m1,?_⟩;obtain ⟨z0,z1⟩:=bd z (bs8 hz);refine ⟨_,rfl,_,rfl,t,_,_,z.toNat,rfl,rfl,h3t,?_,?_⟩
     · unfold G6;rw[bs1,if_pos z0,if_pos (by omega)]
     have es:(ts'.map V.int).set z.toNat (.int (rs.getD (((i:Int)+k)%(rs.length:Int)).toNat 0))=(ts'.set z.toNat (rs.getD (((i:Int)+k)%(rs.length:Int)).toNat 0)).map V.int:=by rw[cb4]
     rw[es]
     have hzi:rs.getD i 0=z:=by rw[o0 hil];exact (bs3.mp hz).2
     refine ⟨_,_,_,rfl,c9,by rw[bx0];exact hl,fun j hji=> ?_,fun u u0 un=> ?_,fun b o hb hn=> ?_⟩
     · by_cases e:j=i
       · subst e;rw[hzi,V2 (by omega)]
       · have hjl:j < rs.length:=by omega
         have:rs.getD j 0≠z:=by rw[<-hzi];exact G1 nd hjl hil e
         rw[O9 (bd _ (by rw[o0 hjl];exact bv4 hjl)).1 z0 this];exact hj j (by omega)
     · rw[O9 u0 z0 (fun e=>un (e▸bs8 hz))];exact hu u u0 un
     · have:=kb b o hb hn;rw[g7 hn,g7 (g6 this htt)];exact this
   · rintro σ H2 ⟨ts',v3,v4,rfl,h2t,hl,hj,hu,kb⟩;rw[bs1] at hj;exact q ts' H2 hl hj hu h2t kb
end
end My
namespace My
open PySem L2 Mth
section
variable {P:Program} {w:World} {K:PySem.W.Frag} {mg:Str->Option Value} {base:Heap}
def U1:Sp:=fun vs H Q _=>∃(a:Addr) (p:List Int) (k:Int),vs=[.ref a,.int k]/\y7 H a p/\∀(l:Addr) (t:List Int) (H':Hp),H l=none->e8 H H'->A4 p k t->H' l=some (.lst (t.map V.int))->Q (.ref l) H'
theorem Z5:j7 ["p","k","told","ring"] ["p","k"] (i6 Q5):=by rfl'
theorem ba5 {f:Addr}{fd:FuncData}(F:q9 K "power_of" "power_of" Q5 f fd)(B:Bl mg)(cM:j9 P w K mg base "must_be_turn" 3 ["thing"] Y2)(cR:j9 P w K mg base "walk_rings" 2 ["p"] x4)(cS:j9 P w K mg base "send_along" 1 ["target","ring","steps"] Y4):m5 P w K mg base p5 4 f fd ["p","k"] U1:=by
 refine F.ok Z5 (fun vs H Q E h=> ?_) (fun cdv A outer s H vs Q E hr h=> ?_)
 · obtain ⟨a,p,k,rfl,_⟩:=h;rfl
 · obtain ⟨a,p,k,rfl,⟨ha,tp,lp⟩,q⟩:=h
   refine ⟨_,c6 (w9 (i5 cM hr (c4 (pv 0) c5))) (c6 (j2 (i:=2) Z5.nd rfl (Or.inl rfl) (S5 B.list (c4 (pv 0) c5)))
     (c6 (o1 PassesOwn.never rfl (o5 (i5 cR (hr.mono (by decide)) (c4 (pv 0) c5))) (j8 (i:=3) Z5.nd rfl (Or.inl rfl)) (c8 (w9 (i5 cS (hr.mono (by decide)) (c4 (pv 2) (c4 (pv 3) (c4 (pv 1) c5)))))))
     (c8 (j5 (pv 2))))),?_⟩
   refine ⟨_,rfl,a,p,rfl,⟨ha,tp,lp⟩,fun H1 s1=> ?_⟩;refine ⟨_,rfl,a,_,rfl,.inl (g8.of (s1 a _ ha)),fun l hl=> ?_⟩;have hl0:H l=none:=s1.free hl;have s2:e8 H (g9 H1 l (.lst (p.map V.int))):=s1.upd_r hl0;have h2l:(g9 H1 l (.lst (p.map V.int))) l=some (.lst (p.map V.int)):=c9;generalize (g9 H1 l (.lst (p.map V.int)))=H2 at s2 h2l ⊢;refine ⟨_,rfl,a,p,rfl,⟨s2 a _ ha,tp,lp⟩,fun g as rs H3 hg s23 h3g rows up fa nda nga=> ?_⟩;have h3l:=s23 l _ h2l
   have ngl:g≠l:=fun z=>by rw[z,h2l] at hg;cases hg
   refine ⟨g,rfl,⟨_,g8.of h3g⟩,y8 (K:=K) (a:=g) (xs:=as.map V.ref) (fun i σ H4=>∃(ts:List Int) (v3:Option V),σ=[some (.ref a),some (.int k),some (.ref l),v3]/\H4 l=some (.lst (ts.map V.int))/\ts.length=p.length/\(∀x∈(rs.take i).flatten,∃L,v0 p x L/\o8 ts x=some (it p (k%(L:Int)).toNat x))/\i3 l H3 H4)
     ⟨p,none,rfl,h3l,rfl,fun x hx=>by simp at hx,i3.refl l H3⟩ (fun i σ H4 _ zz=>by obtain ⟨_,_,_,_,_,_,kb⟩:=zz;exact g8.of (kb g _ h3g ngl)) ?_ ?_⟩
   · rintro i y σ H4 hi ⟨ts,v3,rfl,h4l,hl4,hx4,kb⟩;rw[bt2] at hi
     cases hai:as[i]? with
     |none=>rw[hai] at hi;cases hi
     |some e=>
      rw[hai] at hi;cases hi;have hil:i < as.length:=(bs3.mp hai).1;have hri:rs[i]? =some (rs[i]'(by rw[<-rows.1];exact hil)):=bs2 _;generalize hR:rs[i]'(by rw[<-rows.1];exact hil)=R at hri;have h3e:=rows.2 i e R hai hri;have hRm:R∈rs:=bs8 hri;obtain ⟨x,L,hx,pr,eR,_⟩:=up.ring R hRm
      have nle:l≠e:=fun z=>by have:=fa e (bs8 hai);rw[<-z,h2l] at this;cases this
      have h4e:=kb e _ h3e nle.symm;refine ⟨_,rfl,_,rfl,_,rfl,l,e,ts,R,k,rfl,h4l,h4e,nle,?_,?_,?_⟩
      · rw[eR];exact C3 tp hx fun j j0 j1=>pr.least j j0 j1
      · intro y hy;rw[eR] at hy;have:=A9 tp hx y hy;rw[hl4];exact this
      intro ts' H5 hl5 hj hu h5l kb5;refine ⟨ts',_,rfl,h5l,by omega,fun y hy=> ?_,kb.trans kb5⟩;rw[j6 hri,bv1,bw2] at hy
      have hsplit:rs.flatten=(rs.take i).flatten++(R++(rs.drop (i+1)).flatten):=by
        conv=>lhs;rw[<-bx2 i rs,bv1]
        rw[bz8 (by rw[<-rows.1];exact hil),hR,bu3]
      by_cases hyR:y∈R
      · rw[eR] at hyR;obtain ⟨j,hjL,rfl⟩:=o7.mp hyR;refine ⟨L,pr.shift tp hx j,?_⟩
        have hjr:j < R.length:=by rw[eR,i7];exact hjL
        have:=hj j hjr
        have rl:(R.length:Int)=(L:Int):=by rw[eR,i7]
        rw[rl] at this;have b0:=bv6 ((j:Int)+k) (show (L:Int)≠0 by have:=pr.pos;omega);have b1:=bx7 ((j:Int)+k) (show (0:Int) < (L:Int) by have:=pr.pos;omega);rw[eR,p9 hjL,p9 (by omega),X9 pr] at this;exact this
      · rcases bt5.mp hy with g'|g'
        · obtain ⟨M,pm,em⟩:=hx4 y g';refine ⟨M,pm,?_⟩
          have y0:0<=y:=by
            obtain ⟨r,hr',hyr⟩:=bu8.mp g';obtain ⟨x',L',hx',_,er,_⟩:=up.ring r (by4 hr');rw[er] at hyr;exact (A9 tp hx' y hyr).1
          rw[hu y y0 hyR];exact em
        · exact absurd g' hyR
   · rintro σ H4 ⟨ts,v3,rfl,h4l,hl4,hx4,kb⟩;rw[bs1,rows.1,bu6] at hx4;refine ⟨_,rfl,q l ts H4 hl0 (fun b o hb=>kb b o (s23 b o (s2 b o hb)) (g6 hb hl0)) ⟨hl4,fun x hx=>hx4 x (up.all x hx.1 hx.2)⟩ h4l⟩
end
end My
namespace My
open PySem L2 Mth
section
variable {P:Program} {w:World} {K:PySem.W.Frag} {mg:Str->Option Value} {base:Heap}
def ai8:Sp:=fun vs H Q _=>∃(a:Addr) (p:List Int),vs=[.ref a]/\y7 H a p/\∀(l:Addr) (t:List Int) (H':Hp),H l=none->e8 H H'->A4 p (-1) t->H' l=some (.lst (t.map V.int))->Q (.ref l) H'
theorem bk6:j7 ["p"] ["p"] (i6 Q4):=by rfl'
theorem bf7 {f:Addr}{fd:FuncData}(F:q9 K "way_back" "way_back" Q4 f fd)(cP:j9 P w K mg base "power_of" 4 ["p","k"] U1):m5 P w K mg base p5 5 f fd ["p"] ai8:=by
 refine F.ok bk6 (fun vs H Q E h=> ?_) (fun cdv A outer s H vs Q E hr h=> ?_)
 · obtain ⟨a,p,rfl,_⟩:=h;rfl
 · obtain ⟨a,p,rfl,ta,q⟩:=h;refine ⟨_,c8 (j5 (i5 cP hr (c4 (pv 0) (c4 (ae3 W7 i8) c5)))),?_⟩;exact ⟨_,rfl,_,rfl,a,p,-1,rfl,ta,q⟩
end
end My
namespace My
open PySem L2 Mth
section
variable {P:Program} {w:World} {K:PySem.W.Frag} {mg:Str->Option Value} {base:Heap}
theorem ap8:j7 ["p"] ["p"] (i6 N7):=by rfl'
theorem al0 {f:Addr}{fd:FuncData}(F:q9 K "rounds_of" "rounds_of" N7 f fd)(cM:j9 P w K mg base "must_be_turn" 3 ["thing"] Y2)(cR:j9 P w K mg base "walk_rings" 2 ["p"] x4):m5 P w K mg base p5 4 f fd ["p"] x4:=by
 refine F.ok ap8 (fun vs H Q E h=> ?_) (fun cdv A outer s H vs Q E hr h=> ?_)
 · obtain ⟨a,p,rfl,_⟩:=h;rfl
 · obtain ⟨a,p,rfl,⟨ha,tp,lp⟩,q⟩:=h;refine ⟨_,c6 (w9 (i5 cM hr (c4 (pv 0) c5))) (c8 (j5 (i5 cR (hr.mono (by decide)) (c4 (pv 0) c5)))),?_⟩;refine ⟨_,rfl,a,p,rfl,⟨ha,tp,lp⟩,fun H1 s1=> ?_⟩;exact ⟨_,rfl,a,p,rfl,⟨s1 a _ ha,tp,lp⟩,fun l as rs H' hl s' h1 h2 h3 h4 h5 h6=>q l as rs H' (s1.free hl) (s1.trans s') h1 h2 h3 (fun b hb=>s1.free (h4 b hb)) h5 h6⟩
end
end My
namespace My
open PySem L2 Mth
section
variable {P:Program} {w:World} {K:PySem.W.Frag} {mg:Str->Option Value} {base:Heap}
def W0:Sp:=fun vs H Q _=>∃(l:Addr) (as:List Addr) (rs:List (List Int)),vs=[.ref l]/\H l=some (.lst (as.map V.ref))/\B2 H as rs/\(∀r∈rs,r≠[])/\Q (.bl true) H
theorem ai9:j7 ["rounds","ring"] ["rounds"] (i6 B6):=by rfl'
theorem aw1 {f:Addr}{fd:FuncData}(F:q9 K "are_filled_lists" "are_filled_lists" B6 f fd)(B:Bl mg):m5 P w K mg base p5 1 f fd ["rounds"] W0:=by
 refine F.ok ai9 (fun vs H Q E h=> ?_) (fun cdv A outer s H vs Q E hr h=> ?_)
 · obtain ⟨l,as,rs,rfl,_⟩:=h;rfl
 · obtain ⟨l,as,rs,rfl,hl,rows,hne,q⟩:=h
   refine ⟨_,c6 (p7 (E6 (E5 (O8 B.isi (c4 (pv 0) (c4 (S4 B.list) c5))))) (c8 (j5 A7)) m9)
     (c6 (o1 PassesOwn.never rfl (o5 (pv 0)) (j8 (i:=1) ai9.nd rfl (Or.inl rfl))
       (c8 (p7 (T6 (E6 (E5 (O8 B.isi (c4 (pv 1) (c4 (S4 B.list) c5))))) (W5 (m6 W8 (p0 B.len (c4 (pv 1) c5)) i8 (m7 _)))).pt (c8 (j5 A7)) m9)))
     (c8 (j5 A7))),?_⟩
   refine ⟨_,rfl,_,"list",_,true,rfl,.lst hl,L4 K "list",true,rfl,?_⟩;refine A8 ?_;refine ⟨_,rfl,l,rfl,⟨_,g8.of hl⟩,y8 (K:=K) (a:=l) (xs:=as.map V.ref) (fun i σ H2=>∃v:Option V,σ=[some (.ref l),v]/\H2=H) ⟨none,rfl,rfl⟩ (fun i σ H2 _ zz=>by obtain ⟨_,_,e⟩:=zz;rw[e];exact g8.of hl) ?_ (fun σ H2 zz=>by obtain ⟨v,_,e⟩:=zz;rw[e];exact q)⟩;rintro i y σ H2 hi ⟨v,rfl,rfl⟩;rw[bt2] at hi
   cases hA:as[i]? with
   |none=>rw[hA] at hi;cases hi
   |some e=>
    rw[hA] at hi;cases hi;have hil:i < as.length:=(bs3.mp hA).1;have hri:rs[i]? =some (rs[i]'(by rw[<-rows.1];exact hil)):=bs2 _;generalize (rs[i]'(by rw[<-rows.1];exact hil))=r at hri;have he:=rows.2 i e r hA hri;have hrn:=hne r (bs8 hri);refine ⟨_,rfl,_,"list",_,true,rfl,.lst he,L4 K "list",true,rfl,?_⟩;refine A8 ⟨_,rfl,e,_,rfl,.inl (g8.of he),rfl,_,rfl,?_⟩
    have hnz:¬V.int (((r.map V.int).length:Nat):Int)=V.int 0:=fun z=>by
      have z:=V.int.inj z;rw[bs1] at z;have:=List.length_pos_iff.mpr hrn;omega
    rw[decide_eq_false hnz];exact A8 ⟨_,rfl,rfl⟩
def W1:Sp:=fun vs H Q _=>∃(l:Addr) (as:List Addr) (rs:List (List Int)),vs=[.ref l]/\H l=some (.lst (as.map V.ref))/\B2 H as rs/\rs.flatten.length<=1000/\
 ∀(o:Addr) (H':Hp),H o=none->e8 H H'->H' o=some (.lst (rs.flatten.map V.int))->Q (.ref o) H'
theorem W2:j7 ["rounds","things","ring"] ["rounds"] (i6 N8):=by rfl'
theorem aj0 (rs:List (List Int))(i:Nat):(rs.take i).flatten.length<=rs.flatten.length:=by
 conv=>rhs;rw[<-bx2 i rs,bv1,bs6]
 omega
theorem aw2 {f:Addr}{fd:FuncData}(F:q9 K "things_in" "things_in" N8 f fd):m5 P w K mg base p5 1 f fd ["rounds"] W1:=by
 refine F.ok W2 (fun vs H Q E h=> ?_) (fun cdv A outer s H vs Q E hr h=> ?_)
 · obtain ⟨l,as,rs,rfl,_⟩:=h;rfl
 · obtain ⟨l,as,rs,rfl,hl,rows,hb,q⟩:=h
   refine ⟨_,c6 (j2 (i:=1) W2.nd rfl (Or.inl rfl) (x8 c5))
     (c6 (o1 PassesOwn.never rfl (o5 (pv 0)) (j8 (i:=2) W2.nd rfl (Or.inl rfl)) (c8 (w9 (av3 (pv 1) (c4 (pv 2) c5)))))
     (c8 (j5 (pv 1)))),?_⟩
   refine ⟨bu9 _,fun o ho=> ?_⟩;have s0:e8 H (g9 H o (.lst [])):=e8.upd_new ho;refine ⟨_,rfl,l,rfl,⟨_,g8.of (s0 l _ hl)⟩,y8 (K:=K) (a:=l) (xs:=as.map V.ref) (fun i σ H2=>∃v:Option V,σ=[some (.ref l),some (.ref o),v]/\e8 H H2/\H2 o=some (.lst ((rs.take i).flatten.map V.int))) ⟨none,rfl,s0,c9⟩ (fun i σ H2 _ zz=>by obtain ⟨_,_,s,_⟩:=zz;exact g8.of (s l _ hl)) ?_ ?_⟩
   · rintro i y σ H2 hi ⟨v,rfl,s2,h2o⟩;rw[bt2] at hi
     cases hA:as[i]? with
     |none=>rw[hA] at hi;cases hi
     |some e=>
      rw[hA] at hi;cases hi;have hil:i < as.length:=(bs3.mp hA).1;have hri:rs[i]? =some (rs[i]'(by rw[<-rows.1];exact hil)):=bs2 _;generalize (rs[i]'(by rw[<-rows.1];exact hil))=r at hri;have he:=s2 e _ (rows.2 i e r hA hri);have hle:=aj0 rs (i+1);rw[j6 hri,bv1,bw2,bs6] at hle;have h1000:=l6 (bs9 1000);refine ⟨_,rfl,.inl ⟨rfl,_,g8.of h2o⟩,_,rfl,o,e,_,_,rfl,rfl,h2o,he,by rw[bs1,bs1];omega,?_⟩;refine ⟨_,rfl,fun b u hb=>by rw[g7 (g6 hb ho)];exact s2 b u hb,?_⟩;rw[c9,j6 hri,bv1,bw2,bt3]
   · rintro σ H2 ⟨v,rfl,s2,h2o⟩;rw[bs1,rows.1,bu6] at h2o;exact ⟨_,rfl,q o H2 ho s2 h2o⟩
def aj1:Sp:=fun vs H Q _=>∃(l:Addr) (as:List Addr) (rs:List (List Int)),vs=[.ref l]/\H l=some (.lst (as.map V.ref))/\B2 H as rs/\(∀r∈rs,r≠[])/\m4 rs.flatten/\rs.flatten.length<=40/\
 ∀(o:Addr) (t:List Int) (H':Hp),H o=none->e8 H H'->H' o=some (.lst (t.map V.int))->t.length=rs.flatten.length->(∀r∈rs,∀j,j < r.length->o8 t (r.getD j 0)=some (r.getD ((j+1)%r.length) 0))->Q (.ref o) H'
theorem aj2:j7 ["rounds","told","ring"] ["rounds"] (i6 J8):=by rfl'
theorem bf8 {f:Addr}{fd:FuncData}(F:q9 K "from_rounds" "from_rounds" J8 f fd)(cF:j9 P w K mg base "are_filled_lists" 1 ["rounds"] W0)(cT:j9 P w K mg base "things_in" 1 ["rounds"] W1)(cI:j9 P w K mg base "is_turn" 2 ["thing"] Q9)
   (cS:j9 P w K mg base "send_along" 1 ["target","ring","steps"] Y4):m5 P w K mg base p5 3 f fd ["rounds"] aj1:=by
 refine F.ok aj2 (fun vs H Q E h=> ?_) (fun cdv A outer s H vs Q E hr h=> ?_)
 · obtain ⟨l,as,rs,rfl,_⟩:=h;rfl
 · obtain ⟨l,as,rs,rfl,hl,rows,hne,tf,lf,q⟩:=h;have hr1:l5 1 _:=hr.mono (by decide)
   refine ⟨_,c6 (p7 (E6 (E5 (i5 cF hr1 (c4 (pv 0) c5)))) (c8 G8) m9)
     (c6 (j2 (i:=1) aj2.nd rfl (Or.inl rfl) (i5 cT hr1 (c4 (pv 0) c5)))
     (c6 (p7 (E6 (E5 (i5 cI hr (c4 (pv 1) c5)))) (c8 G8) m9)
     (c6 (o1 PassesOwn.never rfl (o5 (pv 0)) (j8 (i:=2) aj2.nd rfl (Or.inl rfl)) (c8 (w9 (i5 cS hr1 (c4 (pv 1) (c4 (pv 2) (c4 i8 c5)))))))
     (c8 (j5 (pv 1)))))),?_⟩
   refine ⟨_,rfl,l,as,rs,rfl,hl,rows,hne,true,rfl,?_⟩;refine A8 ?_;refine ⟨_,rfl,l,as,rs,rfl,hl,rows,by omega,fun o H1 ho s1 h1o=> ?_⟩;refine ⟨_,rfl,o,_,rfl,h1o,fun bb H2 s2 hbb=>⟨bb,rfl,?_⟩⟩;have:bb=true:=hbb.mpr ⟨lf,tf⟩;subst this;refine A8 ?_;have s02:=s1.trans s2;have h2o:=s2 o _ h1o;have h2l:=s02 l _ hl
   have rows2:B2 H2 as rs:=E1 rows fun c _ u hu=>s02 c u hu
   have nlo:l≠o:=g6 hl ho
   refine ⟨_,rfl,l,rfl,⟨_,g8.of h2l⟩,y8 (K:=K) (a:=l) (xs:=as.map V.ref) (fun i σ H3=>∃(ts:List Int) (v:Option V),σ=[some (.ref l),some (.ref o),v]/\H3 o=some (.lst (ts.map V.int))/\ts.length=rs.flatten.length/\(∀r∈rs.take i,∀j,j < r.length->o8 ts (r.getD j 0)=some (r.getD ((j+1)%r.length) 0))/\i3 o H2 H3)
     ⟨_,none,rfl,h2o,rfl,fun r hr=>by simp at hr,i3.refl o H2⟩ (fun i σ H3 _ zz=>by obtain ⟨_,_,_,_,_,_,k⟩:=zz;exact g8.of (k l _ h2l nlo)) ?_ ?_⟩
   · rintro i y σ H3 hi ⟨ts,v,rfl,h3o,lts,hts,kb⟩;rw[bt2] at hi
     cases hA:as[i]? with
     |none=>rw[hA] at hi;cases hi
     |some e=>
      rw[hA] at hi;cases hi;have hil:i < as.length:=(bs3.mp hA).1;have hri:rs[i]? =some (rs[i]'(by rw[<-rows.1];exact hil)):=bs2 _;generalize hR:(rs[i]'(by rw[<-rows.1];exact hil))=r at hri
      have neo:o≠e:=fun z=>by
        have:=rows.2 i e r hA hri;rw[<-z,ho] at this;cases this
      have h3e:=kb e _ (rows2.2 i e r hA hri) neo.symm;have hrm:r∈rs:=bs8 hri
      have hsplit:rs.flatten=(rs.take i).flatten++(r++(rs.drop (i+1)).flatten):=by
        conv=>lhs;rw[<-bx2 i rs,bv1]
        rw[bz8 (by rw[<-rows.1];exact hil),hR,bu3]
      have nds:=tf.nd;rw[hsplit] at nds;obtain ⟨nd1,nd2,nd3⟩:=bx8.mp nds;obtain ⟨ndr,_,_⟩:=bx8.mp nd2;refine ⟨_,rfl,_,rfl,o,e,ts,r,1,rfl,h3o,h3e,neo,ndr,fun x hx=> ?_,fun ts' H4 l4 hj hu h4o kb4=> ?_⟩
      · have hxf:x∈rs.flatten:=bu8.mpr ⟨r,hrm,hx⟩;exact ⟨tf.lo x hxf,by rw[lts];exact tf.hi x hxf⟩
      refine ⟨ts',_,rfl,h4o,by omega,fun r' hr' j hj'=> ?_,kb.trans kb4⟩;rw[j6 hri] at hr'
      rcases bt5.mp hr' with g|g
      · have hx:r'.getD j 0∈(rs.take i).flatten:=by
          rw[o0 hj'];exact bu8.mpr ⟨r',g,bv4 hj'⟩
        have hxn:r'.getD j 0∉r:=fun z=>nd3 _ hx _ (bv9 _ z) rfl
        have hx0:0<=r'.getD j 0:=tf.lo _ (by rw[hsplit];exact bv9 _ hx);rw[hu _ hx0 hxn];exact hts r' g j hj'
      · have:r'=r:=by simpa using g
        subst this;have h1:=hj j hj'
        have e1:(((j:Int)+1)%(r'.length:Int)).toNat=(j+1)%r'.length:=by
          have:((j:Int)+1)=((j+1:Nat):Int):=by omega
          rw[this,<-bz6,bv8]
        rw[e1] at h1;exact h1
   · rintro σ H3 ⟨ts,v,rfl,h3o,lts,hts,kb⟩;rw[bs1,rows.1,bu6] at hts;exact ⟨_,rfl,q o ts H3 ho (fun b u hb=>kb b u (s02 b u hb) (g6 hb ho)) h3o lts hts⟩
end
end My
namespace My
open PySem L2 Mth
section
variable {P:Program} {w:World} {K:PySem.W.Frag} {mg:Str->Option Value} {base:Heap}
def aj3 (K:PySem.W.Frag):Sp:=fun vs H Q _=>∃(a:Addr) (ns:List Int) (k:Int),vs=[.ref a,.int k]/\g8 K H a (ns.map V.int)/\0<=k/\∀z:Int,Q (.int z) H
theorem Z6:j7 ["script","k"] ["script","k"] (i6 K0):=by rfl'
theorem Z7 {f:Addr}{fd:FuncData}(F:q9 K "_law_cell_at" "_law_cell_at" K0 f fd)(B:Bl mg):m5 P w K mg base p5 1 f fd ["script","k"] (aj3 K):=by
 refine F.ok Z6 (fun vs H Q E h=> ?_) (fun cdv A outer s H vs Q E hr h=> ?_)
 · obtain ⟨a,ns,k,rfl,ha,k0,q⟩:=h;rfl
 · obtain ⟨a,ns,k,rfl,ha,k0,q⟩:=h;refine ⟨_,@c6 _ _ _ _ _ (@p7 _ _ _ _ _ _ _ _ (@m6 _ _ _ _ _ _ _ _ ao1 (pv 1) (@p0 _ _ _ _ _ B.len (@c4 _ _ _ _ _ (pv 0) (@c5 _) (by rfl)) (by rfl) (by rfl)) (m7 _)) (@c8 _ _ _ (@j5 _ _ _ _ (@A3 _ _ _ _ _ _ _ o6 (pv 0) (pv 1) (fun _ _=>rfl)))) (@m9 _)) (@c8 _ _ _ (@j5 _ _ _ _ (@i8 _ _ _ _))),?_⟩;refine ⟨_,rfl,_,rfl,a,_,rfl,.inl ha,_,_,rfl,rfl,_,rfl,?_⟩;rw[bs1];refine P4 (fun h=> ?_) (fun h=>q 0);have h:k < (ns.length:Int):=of_decide_eq_true h;exact ⟨_,rfl,_,rfl,a,_,k,_,rfl,rfl,ha,B8 k0 h,q _⟩
def m8 (H:Hp)(a:Addr):Prop:=∃ds:List Int,H a=some (.lst (ds.map V.int))/\(∀x∈ds,0<=x)/\ds.length<=1000
theorem m8.some {H:Hp}{a:Addr}(h:m8 H a):∃o,H a=some o:=let ⟨_,e,_⟩:=h;⟨_,e⟩
theorem m8.same {H H':Hp}{a:Addr}(h:m8 H a)(s:e8 H H'):m8 H' a:=let ⟨ds,e,r⟩:=h;⟨ds,s _ _ e,r⟩
theorem m8.upd {H:Hp}{a b:Addr}{o:HO}(h:m8 H a)(n:a≠b):m8 (L2.g9 H b o) a:=let ⟨ds,e,r⟩:=h;⟨ds,by rw[g7 n];exact e,r⟩
theorem m8.ne {H:Hp}{a b:Addr}(h:m8 H a)(n:H b=none):b≠a:=fun z=>by obtain ⟨o,e⟩:=h.some;rw[<-z,n] at e;cases e
def E2:Sp:=fun vs H Q _=>∃(z:Int) (n:Nat),vs=[.int z,.int (n:Int)]/\n<=900/\∀(l:Addr) (H':Hp),H l=none->e8 H H'->m8 H' l->Q (.ref l) H'
theorem o2:j7 ["cell","many","found","rest","stir","k","again"] ["cell","many"] (i6 K1):=by rfl'
theorem Z8 {f:Addr}{fd:FuncData}(F:q9 K "_law_numbers" "_law_numbers" K1 f fd)(B:Bl mg):m5 P w K mg base p5 1 f fd ["cell","many"] E2:=by
 refine F.ok o2 (fun vs H Q E h=> ?_) (fun cdv A outer s H vs Q E hr h=> ?_)
 · obtain ⟨z,n,rfl,hn,q⟩:=h;rfl
 · obtain ⟨z,n,rfl,hn,q⟩:=h;refine ⟨_,@c6 _ _ _ _ _ (@j2 _ _ (2) _ _ _ _ o2.nd rfl (Or.inl rfl) (@x8 _ _ _ _ (@c5 _)) (by rfl) (by trivial)) (@c6 _ _ _ _ _ (@j2 _ _ (3) _ _ _ _ o2.nd rfl (Or.inl rfl) (pv 0) (by rfl) (by trivial)) (@c6 _ _ _ _ _ (@j2 _ _ (4) _ _ _ _ o2.nd rfl (Or.inl rfl) (@l8 _ _ _ _ _ _ _ _ E8 (pv 0) (@i8 _ _ _ _)) (by rfl) (by trivial)) (@c6 _ _ _ _ _ (@o1 _ _ _ _ _ _ _ _ PassesOwn.never rfl (@x6 _ _ _ _ _ _ (by rfl) B.range (@c4 _ _ _ _ _ (pv 1) (@c5 _) (by rfl)) (by rfl)) (@j8 _ _ (5) _ o2.nd rfl (Or.inl rfl) (by trivial)) (@c8 _ _ _ (@p7 _ _ _ _ _ _ _ _ (@ar3 _ _ _ _ _ _ _ (@m6 _ _ _ _ _ _ _ _ bc3 (pv 0) (@l8 _ _ _ _ _ _ _ _ bh8 (@i8 _ _ _ _) (@i8 _ _ _ _)) (m7 _)) (@al9 _ _ _ _ (@m6 _ _ _ _ _ _ _ _ ae4 (pv 3) (@i8 _ _ _ _) (m7 _)))).pt (@c6 _ _ _ _ _ (@w9 _ _ _ _ (@B4 _ _ _ _ _ _ _ (pv 2) (@c4 _ _ _ _ _ (@l8 _ _ _ _ _ _ _ _ E8 (pv 3) (@i8 _ _ _ _)) (@c5 _) (by rfl)) (by rfl) (by rfl) (by rfl) (by rfl) (by rfl)) (by rfl)) (@c8 _ _ _ (@j2 _ _ (3) _ _ _ _ o2.nd rfl (Or.inl rfl) (@l8 _ _ _ _ _ _ _ _ ah5 (pv 3) (@i8 _ _ _ _)) (by rfl) (by trivial)))) (@c6 _ _ _ _ _ (@j2 _ _ (4) _ _ _ _ o2.nd rfl (Or.inl rfl) (@l8 _ _ _ _ _ _ _ _ E8 (@l8 _ _ _ _ _ _ _ _ W6 (@l8 _ _ _ _ _ _ _ _ O5 (@l8 _ _ _ _ _ _ _ _ O5 (pv 4) (@l8 _ _ _ _ _ _ _ _ W6 (@i8 _ _ _ _) (pv 5))) (@i8 _ _ _ _)) (@i8 _ _ _ _)) (@i8 _ _ _ _)) (by rfl) (by trivial)) (@c6 _ _ _ _ _ (@j2 _ _ (6) _ _ _ _ o2.nd rfl (Or.inl rfl) (@l8 _ _ _ _ _ _ _ _ E8 (@l8 _ _ _ _ _ _ _ _ W6 (@l8 _ _ _ _ _ _ _ _ E8 (@l8 _ _ _ _ _ _ _ _ W6 (pv 4) (pv 4)) (@i8 _ _ _ _)) (@i8 _ _ _ _)) (@i8 _ _ _ _)) (by rfl) (by trivial)) (@c8 _ _ _ (@w9 _ _ _ _ (@B4 _ _ _ _ _ _ _ (pv 2) (@c4 _ _ _ _ _ (@l8 _ _ _ _ _ _ _ _ E8 (@l8 _ _ _ _ _ _ _ _ ah5 (pv 6) (@i8 _ _ _ _)) (@i8 _ _ _ _)) (@c5 _) (by rfl)) (by rfl) (by rfl) (by rfl) (by rfl) (by rfl)) (by rfl))))))) (by intro _;rfl)) (@c8 _ _ _ (@j5 _ _ _ _ (pv 2)))))),?_⟩;refine ⟨bu9 _,fun l hl=> ?_⟩;have s1:e8 H (g9 H l (.lst [])):=e8.upd_new hl;have h1l:(g9 H l (.lst [])) l=some (.lst []):=c9;generalize (g9 H l (.lst []))=H1 at s1 h1l ⊢;refine ⟨_,rfl,?_⟩;refine ⟨_,rfl,_,_,rfl,rfl,(by show (0:Int) < 2147483647;decide),?_⟩
   refine ⟨_,rfl,(n:Int),rfl,by omega,by omega,A6 (lo:=0) (n:=((n:Nat):Int).toNat) (fun i σ H2=>∃(ds:List Int) (re st:Int) (v5 v6:Option V),σ=[some (.int z),some (.int (n:Int)),some (.ref l),some (.int re),some (.int st),v5,v6]/\0<=st/\st < 2147483647/\H2 l=some (.lst (ds.map V.int))/\ds.length=i/\(∀x∈ds,0<=x)/\e8 H H2)
     ⟨[],z,_,none,none,rfl,bv6 _ (by decide),bx7 _ (by decide),h1l,rfl,(fun x hx=>by cases hx),s1⟩ ?_ ?_⟩
   · rintro i σ H2 hi ⟨ds,re,st,v5,v6,rfl,st0,st1,h2l,lds,pos,s2⟩;have cp:bh7 10 18:=⟨by decide,by decide,by decide⟩
     have e64:(2:Int)^64=18446744073709551616:=by decide
     have put:∀x:Int,0<=x->(∀y∈ds++[x],0<=y):=fun x x0 y hy=>by
       rcases bt5.mp hy with k|k
       · exact pos y k
       · rw[bx3.mp k];exact x0
     have sl:e8 H (g9 H2 l (.lst (ds.map V.int))):=fun b o hb=>by rw[g7 (g6 hb hl)];exact s2 b o hb
     have kee:∀o:HO,e8 H (g9 H2 l o):=fun o b u hb=>by rw[g7 (g6 hb hl)];exact s2 b u hb
     have ls:(ds.map V.int).length < sizeLine:=l6 (by rw[bs1];omega);refine ⟨_,rfl,_,_,rfl,rfl,cp,_,_,rfl,rfl,_,rfl,?_⟩;refine P4 (fun _=>⟨_,rfl,_,_,rfl,rfl,_,rfl,P4 (fun _=> ?_) (fun _=> ?_)⟩) (fun _=> ?_)
     · refine ⟨_,rfl,.inl ⟨rfl,_,g8.of h2l⟩,_,rfl,_,_,rfl,rfl,(by show (0:Int) < 64;decide),l,_,_,rfl,rfl,h2l,ls,?_⟩;refine ⟨_,rfl,_,_,rfl,rfl,⟨by decide,by decide⟩,?_⟩;exact ⟨ds++[re%64],_,st,_,_,rfl,st0,st1,by rw[c9,bt3];rfl,by rw[bs6,lds];rfl,put _ (bv6 _ (by decide)),kee _⟩
     all_goals
       refine ⟨_,rfl,_,rfl,_,_,rfl,rfl,.inl ⟨by decide,by decide⟩,_,_,rfl,rfl,_,_,rfl,rfl,_,_,rfl,rfl,.inr ⟨by decide,by decide⟩,_,_,rfl,rfl,(by show (0:Int) < 2147483647;decide),?_⟩;have n0:=bv6 ((st+7*(0+(i:Int))+3)*48271) (show (2147483647:Int)≠0 by decide);have n1:=bx7 ((st+7*(0+(i:Int))+3)*48271) (show (0:Int) < 2147483647 by decide);refine ⟨_,rfl,_,rfl,_,_,rfl,rfl,.inl ⟨by rw[e64];omega,by rw[e64];omega⟩,_,_,rfl,rfl,(by show (0:Int) < 2147483629;decide),_,_,rfl,rfl,.inr ⟨by decide,by decide⟩,_,_,rfl,rfl,(by show (0:Int) < 2147483587;decide),?_⟩;refine ⟨_,rfl,.inl ⟨rfl,_,g8.of h2l⟩,_,rfl,_,_,rfl,rfl,⟨by decide,by decide⟩,_,_,rfl,rfl,(by show (0:Int) < 720720;decide),l,_,_,rfl,rfl,h2l,ls,?_⟩;exact ⟨ds++[_],_,_,_,_,rfl,n0,n1,by rw[c9,bt3];rfl,by rw[bs6,lds];rfl,put _ (bv6 _ (by decide)),kee _⟩
   · rintro σ H2 ⟨ds,re,st,v5,v6,rfl,st0,st1,h2l,lds,pos,s2⟩;exact ⟨_,rfl,q l H2 hl s2 ⟨ds,h2l,pos,by omega⟩⟩
theorem al1:j7 ["cell","many"] ["cell","many"] (i6 Q6):=by rfl'
theorem al2 {f:Addr}{fd:FuncData}(F:q9 K "_law_deck" "_law_deck" Q6 f fd)(zx:j9 P w K mg base "_law_numbers" 1 ["cell","many"] E2):m5 P w K mg base p5 2 f fd ["cell","many"] E2:=by
 refine F.ok al1 (fun vs H Q E h=> ?_) (fun cdv A outer s H vs Q E hr h=> ?_)
 · obtain ⟨z,n,rfl,hn,q⟩:=h;rfl
 · obtain ⟨z,n,rfl,hn,q⟩:=h;have zsy:l5 1 _:=hr.mono (by decide);refine ⟨_,@c8 _ _ _ (@j5 _ _ _ _ (@bk0 _ _ _ _ _ _ _ (@i5 _ _ _ _ _ _ _ _ _ _ zx zsy (@c4 _ _ _ _ _ (pv 0) (@c4 _ _ _ _ _ (pv 1) (@c5 _) (by rfl)) (by rfl)) (by rfl) (by decide) (by rfl) (by rfl)) (@K5 _ _ _ (@ae3 _ _ _ _ _ _ W7 (@i8 _ _ _ _))))),?_⟩;refine ⟨_,rfl,_,rfl,z,n,rfl,hn,fun l H2 hl s2 ⟨ds,h2l,pos,ld⟩=> ?_⟩;refine ⟨_,rfl,_,rfl,rfl,l,_,rfl,g8.of h2l,fun o ho=> ?_⟩;exact q o _ (s2.free ho) (s2.upd_r (s2.free ho)) ⟨ds.reverse,by rw[c9,cc6],fun x hx=>pos x (List.mem_reverse.mp hx),by rw[by0];omega⟩
def T1:Sp:=fun vs H Q _=>∃(a:Addr) (m:Int),vs=[.ref a,.int m]/\m8 H a/\0 < m/\∀(r:Int) (H':Hp),0<=r->r < m->m8 H' a->i3 a H H'->Q (.int r) H'
theorem al3:j7 ["deck","many"] ["deck","many"] (i6 Q7):=by rfl'
theorem al4 {f:Addr}{fd:FuncData}(F:q9 K "_law_take" "_law_take" Q7 f fd):m5 P w K mg base p5 1 f fd ["deck","many"] T1:=by
 refine F.ok al3 (fun vs H Q E h=> ?_) (fun cdv A outer s H vs Q E hr h=> ?_)
 · obtain ⟨a,m,rfl,⟨ds,ha,pos,len⟩,m0,q⟩:=h;rfl
 · obtain ⟨a,m,rfl,⟨ds,ha,pos,len⟩,m0,q⟩:=h;have hu:=X3 hr;refine ⟨_,@c6 _ _ _ _ _ (@p7 _ _ _ _ _ _ _ _ (@m6 _ _ _ _ _ _ _ _ (at5 0 hu) (pv 0) (@x8 _ _ _ _ (@c5 _)) (m7 _)) (@c8 _ _ _ (@j5 _ _ _ _ (@i8 _ _ _ _))) (@m9 _)) (@c8 _ _ _ (@j5 _ _ _ _ (@l8 _ _ _ _ _ _ _ _ E8 (@bk3 _ _ _ _ _ (pv 0) (by rfl) (by rfl)) (pv 1)))),?_⟩;refine ⟨_,rfl,bu9 _,fun e he=> ?_⟩;have nae:a≠e:=g6 ha he
   have h1a:(g9 H e (.lst [])) a=some (.lst (ds.map V.int)):=by rw[g7 nae];exact ha
   have kb:i3 a H (g9 H e (.lst [])):=fun b o hb _=>by rw[g7 (g6 hb he)];exact hb
   refine ⟨a,e,ds.map V.int,[],_,rfl,rfl,g8.of h1a,g8.of c9,Z2 _ _ _ _,_,rfl,?_⟩;generalize (g9 H e (.lst []))=H1 at h1a kb ⊢
   cases ds with
   |nil=>exact L3 (q 0 H1 (by decide) m0 ⟨[],h1a,pos,len⟩ kb)
   |cons x xs=>
    refine A8 ?_
    have hl:(x::xs).length - 1 < (x::xs).length:=by simp
    have hg:((x::xs).map V.int)[((x::xs).map V.int).length - 1]? =some (.int (x::xs)[(x::xs).length - 1]):=by
      rw[bs1,bt2,bs2 hl];rfl
    refine ⟨_,rfl,.inl ⟨rfl,_,g8.of h1a⟩,a,_,_,rfl,rfl,h1a,hg,_,rfl,_,_,rfl,rfl,m0,?_⟩
    refine q _ _ (bv6 _ (by omega)) (bx7 _ m0) ⟨(x::xs).dropLast,by rw[c9,List.map_dropLast],fun y hy=>pos y ((List.dropLast_sublist _).mem hy),by rw[List.length_dropLast];omega⟩ fun b o hb hn=>by rw[g7 hn];exact kb b o hb hn
end
end My
namespace My
open PySem L2 Mth
section
variable {P:Program} {w:World} {K:PySem.W.Frag} {mg:Str->Option Value} {base:Heap}
theorem ac6:∀{l:List Int} {k:Nat},(l.map V.int).eraseIdx k=(l.eraseIdx k).map V.int
 |[],k=>by simp
 |a::l,0=>by simp
 |a::l,k+1=>by simp [ac6 (l:=l) (k:=k)]
theorem Y5:∀{l:List Int},(∀x∈l,0<=x)->0<=l.sum
 |[],_=>by simp
 |a::l,h=>by
  have:=Y5 fun y hy=>h y (bs7 _ hy)
  have:=h a bs4;rw[List.sum_cons];omega
def Z9:Sp:=fun vs H Q _=>∃(g:Addr) (n:Nat),vs=[.ref g,.int (n:Int)]/\m8 H g/\n<=40/\∀(l:Addr) (p:List Int) (H':Hp),H l=none->m4 p->p.length<=40->H' l=some (.lst (p.map V.int))->m8 H' g->i3 g H H'->Q (.ref l) H'
theorem o3:j7 ["deck","most","lengths","size","length","turn","left","found","one","k"] ["deck","most"] (i6 Q8):=by rfl'
theorem M4:(["k","left","deck"]:List Str).Nodup:=by decide+kernel
theorem al5 {f:Addr}{fd:FuncData}(F:q9 K "_law_turn" "_law_turn" Q8 f fd)(B:Bl mg)(zzz:j9 P w K mg base "_law_take" 1 ["deck","many"] T1):m5 P w K mg base p5 2 f fd ["deck","most"] Z9:=by
 refine F.ok o3 (fun vs H Q E h=> ?_) (fun cdv A outer s H vs Q E hr h=> ?_)
 · obtain ⟨g,n,rfl,hg,hn,q⟩:=h;rfl
 · obtain ⟨g,n,rfl,hg,hn,q⟩:=h;have zzy:l5 1 _:=hr.mono (by decide);refine ⟨_,@c6 _ _ _ _ _ (@j2 _ _ (2) _ _ _ _ o3.nd rfl (Or.inl rfl) (@x8 _ _ _ _ (@c5 _)) (by rfl) (by trivial)) (@c6 _ _ _ _ _ (@j2 _ _ (3) _ _ _ _ o3.nd rfl (Or.inl rfl) (@i5 _ _ _ _ _ _ _ _ _ _ zzz zzy (@c4 _ _ _ _ _ (pv 0) (@c4 _ _ _ _ _ (@l8 _ _ _ _ _ _ _ _ O5 (pv 1) (@i8 _ _ _ _)) (@c5 _) (by rfl)) (by rfl)) (by rfl) (by decide) (by rfl) (by rfl)) (by rfl) (by trivial)) (@c6 _ _ _ _ _ (@U8 _ _ _ _ _ _ PassesOwn.never (@m6 _ _ _ _ _ _ _ _ ao1 (@au3 _ _ _ _ _ rfl B.sum (@c4 _ _ _ _ _ (pv 2) (@c5 _) (by rfl)) (by rfl) (by rfl)) (pv 3) (m7 _)) (@c6 _ _ _ _ _ (@j2 _ _ (4) _ _ _ _ o3.nd rfl (Or.inl rfl) (@l8 _ _ _ _ _ _ _ _ O5 (@i8 _ _ _ _) (@i5 _ _ _ _ _ _ _ _ _ _ zzz zzy (@c4 _ _ _ _ _ (pv 0) (@c4 _ _ _ _ _ (@A3 _ _ _ _ _ _ _ o6 (@V3 _ _ _ [3,6,2,41] rfl) (@i5 _ _ _ _ _ _ _ _ _ _ zzz zzy (@c4 _ _ _ _ _ (pv 0) (@c4 _ _ _ _ _ (@i8 _ _ _ _) (@c5 _) (by rfl)) (by rfl)) (by rfl) (by decide) (by rfl) (by rfl)) (fun _ _=>rfl)) (@c5 _) (by rfl)) (by rfl)) (by rfl) (by decide) (by rfl) (by rfl))) (by rfl) (by trivial)) (@c8 _ _ _ (@o1 _ _ _ _ _ _ _ _ PassesOwn.never rfl (@x6 _ _ _ _ _ _ (by rfl) B.range (@c4 _ _ _ _ _ (@A3 _ _ _ _ _ _ _ o6 (@V3 _ _ _ [1,2,3,1] rfl) (@i5 _ _ _ _ _ _ _ _ _ _ zzz zzy (@c4 _ _ _ _ _ (pv 0) (@c4 _ _ _ _ _ (@i8 _ _ _ _) (@c5 _) (by rfl)) (by rfl)) (by rfl) (by decide) (by rfl) (by rfl)) (fun _ _=>rfl)) (@c5 _) (by rfl)) (by rfl)) (@j8 _ _ (5) _ o3.nd rfl (Or.inl rfl) (by trivial)) (@c8 _ _ _ (@w9 _ _ _ _ (@B4 _ _ _ _ _ _ _ (pv 2) (@c4 _ _ _ _ _ (@an0 _ _ _ _ _ _ rfl B.min (@c4 _ _ _ _ _ (pv 4) (@c4 _ _ _ _ _ (@l8 _ _ _ _ _ _ _ _ af8 (pv 3) (@au3 _ _ _ _ _ rfl B.sum (@c4 _ _ _ _ _ (pv 2) (@c5 _) (by rfl)) (by rfl) (by rfl))) (@c5 _) (by rfl)) (by rfl)) (by rfl) (by rfl) (by rfl)) (@c5 _) (by rfl)) (by rfl) (by rfl) (by rfl) (by rfl) (by rfl)) (by rfl))) (by intro _;rfl))))) (@c6 _ _ _ _ _ (@j2 _ _ (6) _ _ _ _ o3.nd rfl (Or.inr rfl) (@ap5 _ _ _ _ _ _ _ rfl B.list B.range (@c4 _ _ _ _ _ (pv 3) (@c5 _) (by rfl)) (by rfl) (by rfl) (by rfl) (by rfl)) (by rfl) (by trivial)) (@c6 _ _ _ _ _ (@j2 _ _ (7) _ _ _ _ o3.nd rfl (Or.inl rfl) (@l8 _ _ _ _ _ _ _ _ as7 (@x8 _ _ _ _ (@c4 _ _ _ _ _ (@i8 _ _ _ _) (@c5 _) (by rfl))) (pv 3)) (by rfl) (by trivial)) (@c6 _ _ _ _ _ (@o1 _ _ _ _ _ _ _ _ PassesOwn.never rfl (@o5 _ _ _ _ (pv 2)) (@j8 _ _ (4) _ o3.nd rfl (Or.inl rfl) (by trivial)) (@c6 _ _ _ _ _ (@am9 _ (8) _ _ _ _ _ _ _ _ _ _ _ _ _ (["k","left","deck"]) (1) ([6,0]) o3.nd rfl (Or.inl rfl) rfl .of (@x6 _ _ _ _ _ _ (by rfl) B.range (@c4 _ _ _ _ _ (pv 4) (@c5 _) (by rfl)) (by rfl)) (fun _ _ _ _ _=>@j8 _ _ (0) _ M4 rfl (Or.inl rfl) (by trivial)) (fun _ _ _ _ _=>(@C6 _)) (fun _ _ _ _ _=>(@av7 _ K _ _ _ _ _ _ (pv 1) (@c4 _ _ _ _ _ (@i5 _ _ _ _ _ _ _ _ _ _ zzz zzy (@c4 _ _ _ _ _ (pv 2) (@c4 _ _ _ _ _ (@ay9 _ _ _ _ _ K (by exact B.len) (@c4 _ _ _ _ _ (pv 1) (@c5 _) (by rfl)) (by rfl) (by rfl) (by rfl)) (@c5 _) (by rfl)) (by rfl)) (by rfl) (by decide) (by rfl) (by rfl)) (@c5 _) (by rfl)) (by rfl) (by rfl) (by rfl) (by rfl) (by rfl) (by rfl))) (by rfl) (by intro _;rfl) (by trivial)) (@c8 _ _ _ (@o1 _ _ _ _ _ _ _ _ PassesOwn.never rfl (@x6 _ _ _ _ _ _ (by rfl) B.range (@c4 _ _ _ _ _ (pv 4) (@c5 _) (by rfl)) (by rfl)) (@j8 _ _ (9) _ o3.nd rfl (Or.inl rfl) (by trivial)) (@c8 _ _ _ (@O4 _ _ _ _ _ _ (@A3 _ _ _ _ _ _ _ o6 (pv 8) (pv 9) (fun _ _=>rfl)) (@O3 _ _ _ _ _ _ _ (pv 7) (@A3 _ _ _ _ _ _ _ o6 (pv 8) (@l8 _ _ _ _ _ _ _ _ af8 (pv 9) (@i8 _ _ _ _)) (fun _ _=>rfl)) G9 (by intro _;rfl)) (by rfl) (by rfl) (by rfl))) (by intro _;rfl)))) (by intro _;rfl)) (@c8 _ _ _ (@j5 _ _ _ _ (pv 7)))))))),?_⟩
   refine ⟨bu9 _,fun L hL=> ?_⟩;obtain ⟨H1,e1⟩:∃Hn,Hn=g9 H L (.lst []):=⟨_,rfl⟩;have s1:e8 H H1:=e1▸e8.upd_new hL
   have h1L:H1 L=some (.lst (([]:List Int).map V.int)):=by rw[e1,c9];rfl
   rw[<-e1];have nLg:L≠g:=hg.ne hL;refine ⟨_,rfl,_,rfl,_,_,rfl,rfl,g,(n:Int)+1,rfl,hg.same s1,by omega,fun sz H2 sz0 sz1 D2 kb2=> ?_⟩;obtain ⟨s,rfl⟩:=bw8 sz0
   have hs40:s<=40:=by omega
   have kb02:i3 g H H2:=(s1.but g).trans kb2;have h2L:=kb2 _ _ h1L nLg
   refine ⟨fun mm σ H3=>∃(ls:List Int) (v4 v5:Option V),σ=[some (.ref g),some (.int (n:Int)),some (.ref L),some (.int (s:Int)),v4,v5,none,none,none,none]/\H3 L=some (.lst (ls.map V.int))/\(∀x∈ls,0<=x)/\ls.sum<=(s:Int)/\(ls.length:Int)<=3*ls.sum/\m8 H3 g/\i3 g H H3/\mm=((s:Int) - ls.sum).toNat,
     ⟨_,[],none,none,rfl,h2L,(fun x hx=>by cases hx),by simp,by simp,D2,kb02,rfl⟩,?_⟩
   rintro mm σ H3 ⟨ls,v4,v5,rfl,h3L,lpos,lsum,llen,D3,kb3,rfl⟩;refine ⟨_,rfl,L,ls,rfl,g8.of h3L,_,rfl,_,_,rfl,rfl,_,rfl,?_⟩;refine P4 (fun hlt=> ?_) (fun hge=> ?_)
   · have hlt:ls.sum < (s:Int):=of_decide_eq_true hlt;refine ⟨fun σ' H'=>∃m',m' < ((s:Int) - ls.sum).toNat/\_,fun _ _ h=>h,?_⟩;refine ⟨_,rfl,(show 4<=sizeLine by decide),fun e he=> ?_⟩;have nge:g≠e:=(D3.ne he).symm;refine ⟨_,rfl,g,4,rfl,D3.upd nge,by decide,fun x1 H4 x10 x11 D4 kb4=> ?_⟩;have h4e:=kb4 e _ c9 nge.symm
     obtain ⟨av,hat,av1⟩:∃av,M9 [V.int 3,V.int 6,V.int 2,V.int 41] x1=some (.int av)/\1<=av:=by
       have:x1=0\/x1=1\/x1=2\/x1=3:=by omega
       rcases this with rfl|rfl|rfl|rfl
       · exact ⟨3,o9 (j:=0) rfl,by decide⟩
       · exact ⟨6,o9 (j:=1) rfl,by decide⟩
       · exact ⟨2,o9 (j:=2) rfl,by decide⟩
       · exact ⟨41,o9 (j:=3) rfl,by decide⟩
     have kb34:i3 g H3 H4:=((e8.upd_new he).but g).trans kb4;have h4L:=kb34 _ _ h3L nLg;refine ⟨e,_,_,_,rfl,rfl,g8.of h4e,hat,g,av,rfl,D4,by omega,fun x2 H5 x20 x21 D5 kb5=>⟨_,_,rfl,rfl,?_⟩⟩;have h5L:=kb5 _ _ h4L nLg;have kb35:=kb34.trans kb5;refine ⟨(show 4<=sizeLine by decide),fun e2 he2=> ?_⟩;have nge2:g≠e2:=(D5.ne he2).symm;refine ⟨_,rfl,g,4,rfl,D5.upd nge2,by decide,fun x3 H6 x30 x31 D6 kb6=> ?_⟩;have h6e:=kb6 e2 _ c9 nge2.symm
     obtain ⟨c,hat2,c1,c3⟩:∃c:Nat,M9 [V.int 1,V.int 2,V.int 3,V.int 1] x3=some (.int (c:Int))/\1<=c/\c<=3:=by
       have:x3=0\/x3=1\/x3=2\/x3=3:=by omega
       rcases this with rfl|rfl|rfl|rfl
       · exact ⟨1,o9 (j:=0) rfl,by decide,by decide⟩
       · exact ⟨2,o9 (j:=1) rfl,by decide,by decide⟩
       · exact ⟨3,o9 (j:=2) rfl,by decide,by decide⟩
       · exact ⟨1,o9 (j:=3) rfl,by decide,by decide⟩
     have kb36:i3 g H3 H6:=(kb35.trans ((e8.upd_new he2).but g)).trans kb6;have h6L:=kb36 _ _ h3L nLg
     refine ⟨e2,_,_,_,rfl,rfl,g8.of h6e,hat2,(c:Int),rfl,by omega,by omega,A6 (lo:=0) (n:=((c:Nat):Int).toNat) (fun j σ H7=>∃(ks:List Int) (v5:Option V),σ=[some (.ref g),some (.int (n:Int)),some (.ref L),some (.int (s:Int)),some (.int (1+x2)),v5,none,none,none,none]/\H7 L=some (.lst (ks.map V.int))/\(∀x∈ks,0<=x)/\ks.sum<=(s:Int)/\ks.length=ls.length+j/\ls.sum<=ks.sum/\(0 < j->ls.sum < ks.sum)/\m8 H7 g/\i3 g H H7)
       ⟨ls,_,rfl,h6L,lpos,lsum,rfl,Int.le_refl _,fun h=>absurd h (by omega),D6,kb3.trans kb36⟩ ?_ ?_⟩
     · rintro j σ H7 hj ⟨ks,v5,rfl,h7L,kpos,ksum,klen,kge,kgt,D7,kb7⟩;refine ⟨_,rfl,.inl ⟨rfl,_,g8.of h7L⟩,_,rfl,_,rfl,_,rfl,L,ks,rfl,g8.of h7L,_,_,rfl,rfl,_,_,rfl,L,_,_,rfl,rfl,h7L,l6 (by rw[bs1];omega),?_⟩;obtain ⟨ad,had⟩:∃ad:Int,ad=(if (s:Int) - ks.sum < 1+x2 then (s:Int) - ks.sum else 1+x2):=⟨_,rfl⟩
       have adb:0<=ad/\ks.sum+ad<=(s:Int)/\(ks.sum < (s:Int)->1<=ad):=by
         by_cases z:(s:Int) - ks.sum < 1+x2
         · rw[if_pos z] at had;omega
         · rw[if_neg z] at had;omega
       refine ⟨ks++[ad],_,rfl,by rw[c9,had,bt3];rfl,fun x hx=> ?_,by rw[ca0,ca1];omega,by rw[bs6,List.length_singleton];omega,by rw[ca0,ca1];omega,fun _=>by rw[ca0,ca1];omega,D7.upd nLg.symm,kb7.upd_r hL⟩
       rcases bt5.mp hx with y|y
       · exact kpos x y
       · rw[bx3.mp y];exact adb.1
     · rintro σ H7 ⟨ks,v5,rfl,h7L,kpos,ksum,klen,kge,kgt,D7,kb7⟩;have kgt:=kgt (by omega);exact ⟨_,by omega,ks,_,_,rfl,h7L,kpos,ksum,by omega,D7,kb7,rfl⟩
   · have hge:¬ls.sum < (s:Int):=fun z=>hge (decide_eq_true z)
     have hsum:ls.sum=(s:Int):=by omega
     have l120:ls.length<=120:=by omega
     refine ⟨_,rfl,_,rfl,fun r hr'=> ?_⟩;obtain ⟨H4,e4⟩:∃Hn,Hn=g9 H3 r (.rng 0 (s:Int)):=⟨_,rfl⟩;have s4:e8 H3 H4:=e4▸e8.upd_new hr'
     have h4r:H4 r=some (.rng 0 (s:Int)):=by rw[e4,c9]
     rw[<-e4];refine ⟨r,0,(s:Int),rfl,h4r,⟨by decide,by decide,by omega,by omega⟩,by omega,fun lf hlf=> ?_⟩
     have e0:((s:Int) - 0).toNat=s:=by omega
     rw[e0];obtain ⟨H5,e5⟩:∃Hn,Hn=g9 H4 lf (.lst ((C7 0 s).map V.int)):=⟨_,rfl⟩;have s5:e8 H4 H5:=e5▸e8.upd_new hlf
     have h5f:H5 lf=some (.lst ((C7 0 s).map V.int)):=by rw[e5,c9]
     rw[<-e5];refine ⟨(show 1<=sizeLine by decide),fun z hz=> ?_⟩;obtain ⟨H6,e6⟩:∃Hn,Hn=g9 H5 z (.lst [V.int 0]):=⟨_,rfl⟩;have s6:e8 H5 H6:=e6▸e8.upd_new hz
     have h6z:H6 z=some (.lst [V.int 0]):=by rw[e6,c9]
     rw[<-e6];refine ⟨_,rfl,z,(s:Int),_,rfl,rfl,h6z,by omega,by omega,ca2 (l6 (by simp;omega)),fun fo hfo=> ?_⟩
     have erep:(bu2 (s:Int).toNat [V.int 0]).flatten=(bu2 s (0:Int)).map V.int:=by
       rw[bv8,ca7,List.map_replicate]
     rw[erep];obtain ⟨H7,e7⟩:∃Hn,Hn=g9 H6 fo (.lst ((bu2 s (0:Int)).map V.int)):=⟨_,rfl⟩;have s7:e8 H6 H7:=e7▸e8.upd_new hfo
     have h7o:H7 fo=some (.lst ((bu2 s (0:Int)).map V.int)):=by rw[e7,c9]
     rw[<-e7];have s37:e8 H3 H7:=(s4.trans s5).trans (s6.trans s7);have D7:=D3.same s37;have nfg:lf≠g:=(D3.same s4).ne hlf;have nog:fo≠g:=((D3.same s4).same (s5.trans s6)).ne hfo
     have nof:fo≠lf:=fun z=>by rw[z,s6 _ _ h5f] at hfo;cases hfo
     have nLf:L≠lf:=g6 (s4 _ _ h3L) hlf;have nLo:L≠fo:=g6 ((s4.trans (s5.trans s6)) _ _ h3L) hfo;have hlf0:H lf=none:=kb3.free (s4.free hlf) nfg;have hfo0:H fo=none:=kb3.free ((s4.trans (s5.trans s6)).free hfo) nog;have kb7:i3 g H H7:=kb3.trans (s37.but g);clear e4 e5 e6 e7
     refine ⟨_,rfl,L,rfl,⟨_,g8.of (s37 _ _ h3L)⟩,y8 (K:=K) (a:=L) (xs:=ls.map V.int) (fun i σ Hx=>∃(us fs qs ms:List Int) (v4 v8 v9:Option V),σ=[some (.ref g),some (.int (n:Int)),some (.ref L),some (.int (s:Int)),v4,v5,some (.ref lf),some (.ref fo),v8,v9]/\Hx lf=some (.lst (ms.map V.int))/\Hx fo=some (.lst (fs.map V.int))/\Hx L=some (.lst (ls.map V.int))/\(us++ms).Perm (C7 0 s)/\(us.length:Int)=(ls.take i).sum/\fs.length=s/\qs.Perm us/\us.map (o8 fs)=qs.map some/\m8 Hx g/\i3 g H Hx)
       ⟨[],_,[],_,_,none,none,rfl,(s6.trans s7) _ _ h5f,h7o,s37 _ _ h3L,List.Perm.refl _,rfl,bz1,List.Perm.refl _,rfl,D7,kb7⟩ (fun i σ Hx _ zz=>by obtain ⟨_,_,_,_,_,_,_,_,_,_,h,_⟩:=zz;exact g8.of h) ?_ ?_⟩
     · rintro i x σ H8 hi ⟨us,fs,qs,ms,v4',v8,v9,rfl,h8f,h8o,h8L,pm,ul,fl,qp,qm,D8,kb8⟩;obtain ⟨len,hlen,rfl⟩:=y9 hi;have len0:0<=len:=lpos len (bs8 hlen)
       have tsum:(ls.take (i+1)).sum=(ls.take i).sum+len:=by rw[j6 hlen,ca0,ca1]
       have tle:(ls.take (i+1)).sum<=ls.sum:=by
         have e:ls.sum=(ls.take (i+1)).sum+(ls.drop (i+1)).sum:=by rw[<-ca0,bx2]
         have:0<=(ls.drop (i+1)).sum:=Y5 fun y hy=>lpos y (List.mem_of_mem_drop hy)
         omega
       obtain ⟨ln,rfl⟩:=bw8 len0
       have ums:us.length+ms.length=s:=by
         have:=pm.length_eq;rw[bs6,p8] at this;exact this
       have hln:((ln:Nat):Int).toNat=ln:=by omega
       refine ⟨_,rfl,(ln:Int),rfl,by omega,by omega,ap2 (lo:=0) (n:=((ln:Nat):Int).toNat) (fun j ys σ H9=>∃(v:Option V) (os ms':List Int),σ=[v,some (.ref lf),some (.ref g)]/\ys=os.map V.int/\os.length=j/\H9 lf=some (.lst (ms'.map V.int))/\(us++os++ms').Perm (C7 0 s)/\m8 H9 g/\∀b o,H8 b=some o->b≠g->b≠lf->H9 b=some o)
         ⟨none,[],ms,rfl,rfl,rfl,h8f,by rw[bw0];exact pm,D8,fun b o h _ _=>h⟩ ?_ ?_⟩
       · rintro j ys σ H9 hj ⟨v,os,ms',rfl,rfl,lo,h9f,pm9,D9,kp9⟩
         have lms:us.length+os.length+ms'.length=s:=by
           have:=pm9.length_eq;rw[bs6,bs6,p8] at this;exact this
         have em:(ms'.map V.int).length=ms'.length:=bs1 ..;refine ⟨_,rfl,.inl ⟨rfl,_,g8.of h9f⟩,_,rfl,_,rfl,lf,_,rfl,.inl (g8.of h9f),g,_,rfl,D9,(by rw[em];omega),fun x H10 x0 x1 D10 kb10=> ?_⟩;rw[em] at x1;obtain ⟨jn,rfl⟩:=bw8 x0
         have hjl:jn < ms'.length:=by omega
         have h10f:=kb10 _ _ h9f nfg;refine ⟨lf,_,_,jn,.int ms'[jn],rfl,rfl,h10f,by omega,by omega,?_,by rw[bt2,bs2 hjl];rfl,l6 (by rw[bs1];omega),?_⟩
         · have:G6 (ms'.map V.int).length (jn:Int)=some jn:=by
             unfold G6;rw[em,if_pos (by omega),if_pos (by omega)];simp
           exact (Z0 this).1
         · refine ⟨_,os++[ms'[jn]],ms'.eraseIdx jn,rfl,by rw[bt3];rfl,by rw[bs6,lo];rfl,by rw[c9,ac6],?_,D10.upd nfg.symm,fun b o hb h1 h2=>by rw[g7 h2];exact kb10 b o (kp9 b o hb h1 h2) h1⟩;have pe:=X7 (l:=ms') (k:=jn) (bs2 hjl);refine List.Perm.trans ?_ pm9;rw[bt4,bt4,bt4];refine List.Perm.append_left us (List.Perm.append_left os pe)
       · rintro ys σ H9 ⟨v,os,ms',rfl,rfl,lo,h9f,pm9,D9,kp9⟩ oa hoa;rw[hln] at lo;obtain ⟨H10,e10⟩:∃Hn,Hn=g9 H9 oa (.lst (os.map V.int)):=⟨_,rfl⟩;have s10:e8 H9 H10:=e10▸e8.upd_new hoa
         have h10a:H10 oa=some (.lst (os.map V.int)):=by rw[e10,c9]
         rw[<-e10];have h9o:=kp9 _ _ h8o nog nof;have h9L:=kp9 _ _ h8L nLg nLf;have noag:oa≠g:=D9.ne hoa;have noaf:oa≠lf:=(g6 h9f hoa).symm;have noao:oa≠fo:=(g6 h9o hoa).symm
         have kb9:i3 g H H9:=fun b o hb h1=>kp9 b o (kb8 b o hb h1) h1 (fun z=>by rw[z,hlf0] at hb;cases hb)
         have hoa0:H oa=none:=kb9.free hoa noag;have nd9:(us++os).Nodup:=(bx8.mp (pm9.nodup_iff.mpr (r9 s))).1
         have bd9:∀x∈us++os,0<=x/\x < (s:Int):=fun x hx=>by
           have:=t8.mp (pm9.mem_iff.mp (bv9 ms' hx));omega
         have gd:∀u,(us++os).getD (us.length+u) 0=os.getD u 0:=fun u=>by
           rw[bu4,bu4,bu0 (by omega)]
           congr 2;omega
         refine ⟨_,rfl,(ln:Int),rfl,by omega,by omega,A6 (lo:=0) (n:=((ln:Nat):Int).toNat) (fun j σ H11=>∃(fs':List Int) (v9:Option V),σ=[some (.ref g),some (.int (n:Int)),some (.ref L),some (.int (s:Int)),some (.int (ln:Int)),v5,some (.ref lf),some (.ref fo),some (.ref oa),v9]/\H11 lf=some (.lst (ms'.map V.int))/\H11 fo=some (.lst (fs'.map V.int))/\H11 L=some (.lst (ls.map V.int))/\H11 oa=some (.lst (os.map V.int))/\fs'.length=s/\us.map (o8 fs')=qs.map some/\(∀w,w < j->o8 fs' (os.getD ((w+ln - 1)%ln) 0)=some (os.getD w 0))/\m8 H11 g/\i3 g H H11)
           ⟨fs,_,rfl,s10 _ _ h9f,s10 _ _ h9o,s10 _ _ h9L,h10a,fl,qm,(fun w hw=>by omega),D9.same s10,kb9.trans (s10.but g)⟩ ?_ ?_⟩
         · rintro j σ H11 hj ⟨fs',v9,rfl,h11f,h11o,h11L,h11a,fl',qm',st',D11,kb11⟩
           have hjl:j < ln:=by omega
           have hpl:(j+ln - 1)%ln < ln:=cb7 _ (by omega);refine ⟨_,rfl,_,rfl,oa,_,_,_,rfl,rfl,g8.of h11a,az2 (by omega),?_⟩
           have hat:M9 (os.map V.int) ((0:Int)+(j:Int) - 1)=some (.int (os.getD ((j+ln - 1)%ln) 0)):=by
             have eo:(os.map V.int).length=ln:=by rw[bs1];exact lo
             have key:G6 (os.map V.int).length ((0:Int)+(j:Int) - 1)=some ((j+ln - 1)%ln):=by
               unfold G6;rw[eo]
               by_cases z:j=0
               · rw[if_neg (by omega),if_pos (by omega)]
                 have:(j+ln - 1)%ln=ln - 1:=by rw[z,cb3];exact bw5 (by omega)
                 rw[this];congr 1;omega
               · rw[if_pos (by omega),if_pos (by omega)]
                 have:(j+ln - 1)%ln=j - 1:=by
                   rw[show j+ln - 1=(j - 1)+ln by omega,bz3];exact bw5 (by omega)
                 rw[this];congr 1;omega
             unfold M9;rw[key];show (os.map V.int)[(j+ln - 1)%ln]? =_;rw[bt2,bs2 (by omega),o0 (by omega)];rfl
           refine ⟨_,rfl,_,rfl,_,rfl,_,_,rfl,rfl,oa,_,_,_,rfl,rfl,g8.of h11a,hat,?_⟩;have hv:os.getD ((j+ln - 1)%ln) 0∈us++os:=bt1 us (by rw[o0 (by omega)];exact bv4 _);have hvb:=bd9 _ hv;refine ⟨fo,_,_,(os.getD ((j+ln - 1)%ln) 0).toNat,rfl,rfl,h11o,?_,?_⟩
           · unfold G6;rw[bs1,fl',if_pos hvb.1,if_pos hvb.2]
           rw[<-cb4];refine ⟨_,_,rfl,by rw[g7 nof.symm];exact h11f,c9,by rw[g7 nLo];exact h11L,by rw[g7 noao];exact h11a,by rw[bx0];exact fl',?_,?_,D11.upd nog.symm,kb11.upd_r hfo0⟩
           · rw[<-qm']
             refine by6 fun u hu=> ?_
             have hub:=bd9 u (bv9 os hu)
             refine O9 hub.1 hvb.1 fun z=> ?_
             have:=(bx8.mp nd9).2.2 u hu (os.getD ((j+ln - 1)%ln) 0) (by rw[o0 (by omega)];exact bv4 _);exact this z
           · intro w hw
             by_cases hwj:w=j
             · subst hwj;exact V2 (by omega)
             · have hwj':w < j:=by omega
               have hwl:(w+ln - 1)%ln < ln:=cb7 _ (by omega)
               have ne:(w+ln - 1)%ln≠(j+ln - 1)%ln:=by
                 by_cases z:w=0
                 · rw[z,cb3,bw5 (show ln - 1 < ln by omega),show j+ln - 1=(j - 1)+ln by omega,bz3,bw5 (by omega)];omega
                 · rw[show w+ln - 1=(w - 1)+ln by omega,show j+ln - 1=(j - 1)+ln by omega,bz3,bz3,bw5 (by omega),bw5 (by omega)];omega
               have hw0:=bd9 (os.getD ((w+ln - 1)%ln) 0) (bt1 us (by rw[o0 (by omega)];exact bv4 _));rw[O9 hw0.1 hvb.1 (G1 (bx8.mp nd9).2.1 (by omega) (by omega) ne)];exact st' w hwj'
         · rintro σ H11 ⟨fs',v9,rfl,h11f,h11o,h11L,h11a,fl',qm',st',D11,kb11⟩;rw[hln] at st'
           have done:∃qs':List Int,qs'.Perm (us++os)/\(us++os).map (o8 fs')=qs'.map some:=by
             by_cases z:ln=0
             · have:os=[]:=cd2.mp (by omega);subst this;exact ⟨qs,by rw[bw0];exact qp,by rw[bw0];exact qm'⟩
             · have tk:(us++os).take us.length=us:=ca5;have tk2:(us++os).take (us.length+ln)=us++os:=ca6 (by rw[bs6];omega)
               obtain ⟨qs',a1,a2⟩:=az0 (ts:=us++os) (fs:=fs') (qs:=qs) (k:=us.length) (L:=ln) (by omega) (by rw[bs6];omega) (by rw[tk];exact qm') (by rw[tk];exact qp) (fun u hu=>by
                 rw[gd,gd];have hm:(u+1)%ln < ln:=cb7 _ (by omega);have:=st' ((u+1)%ln) hm
                 have e:((u+1)%ln+ln - 1)%ln=u:=by
                   by_cases y:u+1=ln
                   · rw[y,Nat.mod_self,cb3,bw5 (by omega)];omega
                   · rw[bw5 (show u+1 < ln by omega),show u+1+ln - 1=u+ln by omega,bz3,bw5 hu]
                 rw[e] at this
                 exact this)
               rw[tk2] at a1 a2;exact ⟨qs',a1,a2⟩
           obtain ⟨qs',qp',qm2⟩:=done;exact ⟨us++os,fs',qs',ms',_,_,_,rfl,h11f,h11o,h11L,pm9,by rw[bs6,tsum];omega,fl',qp',qm2,D11,kb11⟩
     · rintro σ H8 ⟨us,fs,qs,ms,v4',v8,v9,rfl,h8f,h8o,h8L,pm,ul,fl,qp,qm,D8,kb8⟩;rw[bs1,bu6,hsum] at ul;have ums:=pm.length_eq;rw[bs6,p8] at ums;have:ms=[]:=cd2.mp (by omega);subst this;rw[bw0] at pm;obtain ⟨hU,hUl⟩:=N4 pm;have pf:=(ap4 hU (by omega) qm).trans (qp.trans pm);obtain ⟨hF,hFl⟩:=N4 pf;exact ⟨_,rfl,q fo fs H8 hfo0 hF (by omega) h8o D8 kb8⟩
def A0 (n:Nat)(xs:List Int):List V:=(bx5 n).map fun (k:Nat)=>V.bl (decide ((k:Int)∈xs))
theorem ba6 (n:Nat):bu2 n (V.bl false)=A0 n []:=by
 unfold A0
 refine cc7 (by simp) fun i h1 h2=> ?_
 simp
theorem ba7 {n:Nat}{xs:List Int}:(A0 n xs).length=n:=by unfold A0;simp
theorem an2 {n:Nat}{xs:List Int}{x:Int}(h0:0<=x)(h1:x < n):G6 (A0 n xs).length x=some x.toNat:=by
 unfold G6;rw[ba7,if_pos h0,if_pos h1]
theorem an3 {n:Nat}{xs:List Int}{x:Int}(h0:0<=x)(h1:x < n):M9 (A0 n xs) x=some (.bl (decide (x∈xs))):=by
 unfold M9;rw[an2 h0 h1];show (A0 n xs)[x.toNat]? =_;unfold A0;rw[bt2,cb6 (by omega)];show some (V.bl (decide (((x.toNat:Nat):Int)∈xs)))=_;rw[by7 h0]
theorem ba8 {n:Nat}{xs:List Int}{x:Int}(h0:0<=x):(A0 n xs).set x.toNat (.bl true)=A0 n (xs++[x]):=by
 unfold A0
 refine cc7 (by simp) fun i h1 h2=> ?_
 rw[List.getElem_set];simp only[List.getElem_map,List.getElem_range,bt5,bx3]
 by_cases z:x.toNat=i
 · rw[if_pos z,decide_eq_true (Or.inr (by omega))]
 · rw[if_neg z]
   congr 1
   exact decide_eq_decide.mpr ⟨Or.inl,fun h=>h.elim id fun e=>absurd (by omega) z⟩
theorem x5:j7 ["p","found","met","thing","one"] ["p"] (i6 M0):=by rfl'
theorem ad7 {f:Addr}{fd:FuncData}(F:q9 K "_law_rounds" "_law_rounds" M0 f fd)(B:Bl mg):m5 P w K mg base p5 1 f fd ["p"] x4:=by
 refine F.ok x5 (fun vs H Q E h=> ?_) (fun cdv A outer s H vs Q E hr h=> ?_)
 · obtain ⟨a,p,rfl,⟨ha,tp,lp⟩,q⟩:=h;rfl
 · obtain ⟨a,p,rfl,⟨ha,tp,lp⟩,q⟩:=h;have hu:=X3 hr;refine ⟨_,@c6 _ _ _ _ _ (@j2 _ _ (1) _ _ _ _ x5.nd rfl (Or.inl rfl) (@x8 _ _ _ _ (@c5 _)) (by rfl) (by trivial)) (@c6 _ _ _ _ _ (@j2 _ _ (2) _ _ _ _ x5.nd rfl (Or.inl rfl) (@l8 _ _ _ _ _ _ _ _ as7 (@x8 _ _ _ _ (@c4 _ _ _ _ _ (@A7 _ _ _ _) (@c5 _) (by rfl))) (@p0 _ _ _ _ _ B.len (@c4 _ _ _ _ _ (pv 0) (@c5 _) (by rfl)) (by rfl) (by rfl))) (by rfl) (by trivial)) (@c6 _ _ _ _ _ (@o1 _ _ _ _ _ _ _ _ PassesOwn.never rfl (@x6 _ _ _ _ _ _ (by rfl) B.range (@c4 _ _ _ _ _ (@p0 _ _ _ _ _ B.len (@c4 _ _ _ _ _ (pv 0) (@c5 _) (by rfl)) (by rfl) (by rfl)) (@c5 _) (by rfl)) (by rfl)) (@j8 _ _ (3) _ x5.nd rfl (Or.inl rfl) (by trivial)) (@c6 _ _ _ _ _ (@j2 _ _ (4) _ _ _ _ x5.nd rfl (Or.inl rfl) (@x8 _ _ _ _ (@c5 _)) (by rfl) (by trivial)) (@c6 _ _ _ _ _ (@U8 _ _ _ _ _ _ PassesOwn.never (@E6 _ _ _ _ (@E5 _ _ _ (@A3 _ _ _ _ _ _ _ o6 (pv 2) (pv 3) (fun _ _=>rfl)) (by intro _;rfl))) (@c6 _ _ _ _ _ (@O4 _ _ _ _ _ _ (@A7 _ _ _ _) (@O3 _ _ _ _ _ _ _ (pv 2) (pv 3) G9 (by intro _;rfl)) (by rfl) (by rfl) (by rfl)) (@c6 _ _ _ _ _ (@w9 _ _ _ _ (@B4 _ _ _ _ _ _ _ (pv 4) (@c4 _ _ _ _ _ (pv 3) (@c5 _) (by rfl)) (by rfl) (by rfl) (by rfl) (by rfl) (by rfl)) (by rfl)) (@c8 _ _ _ (@j2 _ _ (3) _ _ _ _ x5.nd rfl (Or.inl rfl) (@A3 _ _ _ _ _ _ _ o6 (pv 0) (pv 3) (fun _ _=>rfl)) (by rfl) (by trivial)))))) (@c8 _ _ _ (@p7 _ _ _ _ _ _ _ _ (@m6 _ _ _ _ _ _ _ _ (ah0 0 hu) (pv 4) (@x8 _ _ _ _ (@c5 _)) (m7 _)) (@c8 _ _ _ (@w9 _ _ _ _ (@B4 _ _ _ _ _ _ _ (pv 1) (@c4 _ _ _ _ _ (pv 4) (@c5 _) (by rfl)) (by rfl) (by rfl) (by rfl) (by rfl) (by rfl)) (by rfl))) (@m9 _))))) (by intro _;rfl)) (@c8 _ _ _ (@j5 _ _ _ _ (pv 1))))),?_⟩;refine ⟨bu9 _,fun l hl=> ?_⟩;obtain ⟨H1,e1⟩:∃Hn,Hn=g9 H l (.lst []):=⟨_,rfl⟩;have s1:e8 H H1:=e1▸e8.upd_new hl
   have h1l:H1 l=some (.lst []):=by rw[e1,c9]
   rw[<-e1];refine ⟨(show 1<=sizeLine by decide),fun z hz=> ?_⟩;obtain ⟨H2,e2⟩:∃Hn,Hn=g9 H1 z (.lst [V.bl false]):=⟨_,rfl⟩;have s2:e8 H1 H2:=e2▸e8.upd_new hz
   have h2z:H2 z=some (.lst [V.bl false]):=by rw[e2,c9]
   rw[<-e2];refine ⟨_,rfl,a,_,rfl,.inl (g8.of ((s1.trans s2) _ _ ha)),z,_,_,rfl,rfl,h2z,by rw[bs1];omega,by rw[bs1];omega,ca2 (l6 (by simp;omega)),fun d hd=> ?_⟩
   have erep:(bu2 (((p.map V.int).length:Nat):Int).toNat [V.bl false]).flatten=A0 p.length []:=by
     rw[bv8,ca7,bs1];exact ba6 p.length
   rw[erep];obtain ⟨H3,e3⟩:∃Hn,Hn=g9 H2 d (.lst (A0 p.length [])):=⟨_,rfl⟩;have s3:e8 H2 H3:=e3▸e8.upd_new hd
   have h3d:H3 d=some (.lst (A0 p.length [])):=by rw[e3,c9]
   rw[<-e3];have s03:e8 H H3:=s1.trans (s2.trans s3);have hd0:H d=none:=(s1.trans s2).free hd;have nld:l≠d:=g6 (s2 _ _ h1l) hd;have nad:a≠d:=g6 ha hd0;refine ⟨_,rfl,a,_,rfl,.inl (g8.of (s03 a _ ha)),(p.length:Int),by rw[bs1],by omega,by omega,?_⟩;rw[show ((p.length:Int)).toNat=p.length by omega]
   refine A6 (lo:=0) (n:=p.length) (fun i σ H3=>∃(as:List Addr) (rs:List (List Int)) (v3 v4:Option V),σ=[some (.ref a),some (.ref l),some (.ref d),v3,v4]/\H3 l=some (.lst (as.map V.ref))/\H3 d=some (.lst (A0 p.length rs.flatten))/\B2 H3 as rs/\n5 p i rs/\e8 H H3/\(∀b∈as,H b=none)/\as.Nodup/\l∉as/\d∉as)
     ⟨[],[],none,none,rfl,(s2.trans s3) _ _ h1l,h3d,⟨rfl,fun j b r h=>by simp at h⟩,P9 p,s03,(fun b hb=>by cases hb),ca4,by simp,by simp⟩ ?_ ?_
   · rintro i σ H3 hi ⟨as,rs,v3,v4,rfl,h3l,h3d,rows,up,s3,fa,nda,nla,nda2⟩;have hx:In p (i:Int):=⟨by omega,by omega⟩
     have e0:(0:Int)+(i:Int)=(i:Int):=by omega
     rw[e0];refine ⟨bu9 _,fun e he=> ?_⟩;have nle:l≠e:=g6 h3l he;have nde:d≠e:=g6 h3d he;have he0:H e=none:=s3.free he;obtain ⟨H4,e4⟩:∃Hn,Hn=g9 H3 e (.lst []):=⟨_,rfl⟩;have s4:e8 H3 H4:=e4▸e8.upd_new he
     have h4e:H4 e=some (.lst ((i4 p i 0).map V.int)):=by rw[e4,c9];rfl
     rw[<-e4]
     by_cases hm:(i:Int)∈rs.flatten
     · refine ⟨fun mm σ H5=>mm=0/\σ=[some (.ref a),some (.ref l),some (.ref d),some (.int (i:Int)),some (.ref e)]/\H5=H4,⟨0,rfl,rfl,rfl⟩,?_⟩;rintro mm σ H5 ⟨rfl,rfl,rfl⟩;refine ⟨_,rfl,_,rfl,d,_,_,_,rfl,rfl,g8.of (s4 _ _ h3d),an3 hx.1 hx.2,_,rfl,?_⟩;rw[decide_eq_true hm];refine A8 ⟨_,rfl,bu9 _,fun w hw=> ?_⟩;have s5:e8 H5 (g9 H5 w (.lst [])):=e8.upd_new hw;have h5w:(g9 H5 w (.lst [])) w=some (.lst []):=c9;generalize (g9 H5 w (.lst []))=H6 at s5 h5w ⊢;refine ⟨e,w,_,_,_,rfl,rfl,g8.of (s5 _ _ h4e),g8.of h5w,Z2 _ _ _ _,_,rfl,?_⟩;have s36:=s4.trans s5;refine A8 ?_;exact ⟨as,rs,_,_,rfl,s36 _ _ h3l,s36 _ _ h3d,E1 rows fun b hb o ho=>s36 _ _ ho,Q0 up hm,s3.trans s36,fa,nda,nla,nda2⟩
     · obtain ⟨L,pr⟩:=av0 tp hx;have fr:=N5 up pr hm;have fl:=aw0 tp up;have cl:=V9 up;have lenas:=rows.1
       have lL:=G2 tp hx (m:=L) fun j j0 j1=>pr.least j j0 j1
       refine ⟨fun mm σ H5=>∃j:Nat,j<=L/\σ=[some (.ref a),some (.ref l),some (.ref d),some (.int (it p j i)),some (.ref e)]/\H5 e=some (.lst ((i4 p i j).map V.int))/\H5 d=some (.lst (A0 p.length (rs.flatten++i4 p i j)))/\(∀b o,H3 b=some o->b≠d->H5 b=some o)/\mm=L - j,
         ⟨L,0,bu9 _,rfl,h4e,by rw[s4 _ _ h3d];unfold i4;rw[List.range_zero,cc9,bw0],fun b o h _=>s4 b o h,rfl⟩,?_⟩
       rintro mm σ H5 ⟨j,jL,rfl,h5e,h5d,k5,rfl⟩;have hin:=B3 tp hx j;refine ⟨_,rfl,_,rfl,d,_,_,_,rfl,rfl,g8.of h5d,an3 hin.1 hin.2,_,rfl,?_⟩
       by_cases hj:j=L
       · subst hj;rw[decide_eq_true (show it p j i∈rs.flatten++i4 p i j by rw[pr.back];exact bt1 _ (o7.mpr ⟨0,pr.pos,rfl⟩))];refine A8 ⟨_,rfl,bu9 _,fun w hw=> ?_⟩;have s5:e8 H5 (g9 H5 w (.lst [])):=e8.upd_new hw;have h5w:(g9 H5 w (.lst [])) w=some (.lst []):=c9;generalize (g9 H5 w (.lst []))=H6 at s5 h5w ⊢;refine ⟨e,w,_,_,_,rfl,rfl,g8.of (s5 _ _ h5e),g8.of h5w,Z2 _ _ _ _,_,rfl,?_⟩
         have ne0:((i4 p i j).map V.int).isEmpty=false:=by
           rw[List.isEmpty_eq_false_iff];intro z;have:=congrArg cd7 z;rw[bs1,i7] at this;have:=pr.pos;simp at*;omega
         rw[ne0];refine L3 ?_;have h6l:=s5 _ _ (k5 l _ h3l nld);refine ⟨_,rfl,.inl ⟨rfl,_,g8.of h6l⟩,_,rfl,l,_,_,rfl,rfl,h6l,l6 (by rw[bs1,lenas];omega),?_⟩
         have es:as.map V.ref++[V.ref e]=(as++[e]).map V.ref:=by rw[bt3];rfl
         rw[es]
         have nad:∀b∈as,b≠d/\b≠l:=fun b hb=>⟨fun z=>nda2 (z▸hb),fun z=>nla (z▸hb)⟩
         refine ⟨as++[e],rs++[i4 p i j],_,_,rfl,c9,?_,?_,Q1 tp up hx pr hm,?_,?_,?_,?_,?_⟩
         · rw[g7 nld.symm,s5 _ _ h5d,bv1,bw2]
         · refine T0 (E1 rows fun b hb o ho=> ?_) ?_
           · rw[g7 (nad b hb).2];exact s5 _ _ (k5 b o ho (nad b hb).1)
           · rw[g7 nle.symm];exact s5 _ _ h5e
         · intro b o hb;rw[g7 (g6 hb hl)];exact s5 _ _ (k5 b o (s3 b o hb) (g6 hb hd0))
         · intro b hb
           rcases bt5.mp hb with g|g
           · exact fa b g
           · rw[bx3.mp g];exact he0
         · refine T7 nda fun g=> ?_
           obtain ⟨r,hr'⟩:=V8 rows g;rw[he] at hr';cases hr'
         · intro g
           rcases bt5.mp g with g|g
           · exact nla g
           · exact nle (bx3.mp g)
         · intro g
           rcases bt5.mp g with g|g
           · exact nda2 g
           · exact nde (bx3.mp g)
       · have hjL:j < L:=by omega
         have nm:it p j i∉rs.flatten++i4 p i j:=fun g=>by
           rcases bt5.mp g with g|g
           · exact fr _ (o7.mpr ⟨j,hjL,rfl⟩) g
           · obtain ⟨b,hb,e1⟩:=o7.mp g
             have e2:j=(j - b)+b:=by omega
             rw[e2,t9] at e1;have:=S6 tp (B3 tp hx (j - b)) hx b (by rw[<-t9,ca3,t9];exact e1);exact pr.least (j - b) (by omega) (by omega) this
         rw[decide_eq_false nm];refine L3 ⟨fun σ' H'=>∃m',m' < L - j/\_,fun _ _ h=>h,?_⟩;refine ⟨_,rfl,_,rfl,d,_,_,(it p j i).toNat,rfl,rfl,h5d,an2 hin.1 hin.2,?_⟩;rw[ba8 hin.1]
         have h6d:(g9 H5 d (.lst (A0 p.length (rs.flatten++i4 p i j++[it p j i])))) d=some (.lst (A0 p.length (rs.flatten++i4 p i (j+1)))):=by rw[c9,P8,bt4]
         have h6e:(g9 H5 d (.lst (A0 p.length (rs.flatten++i4 p i j++[it p j i])))) e=some (.lst ((i4 p i j).map V.int)):=by rw[g7 nde.symm];exact h5e
         have k6:∀b o,H3 b=some o->b≠d->(g9 H5 d (.lst (A0 p.length (rs.flatten++i4 p i j++[it p j i])))) b=some o:=fun b o hb hn=>by rw[g7 hn];exact k5 b o hb hn
         generalize (g9 H5 d (.lst (A0 p.length (rs.flatten++i4 p i j++[it p j i]))))=H6 at h6d h6e k6 ⊢;refine ⟨_,rfl,.inl ⟨rfl,_,g8.of h6e⟩,_,rfl,e,_,_,rfl,rfl,h6e,l6 (by rw[bs1,i7];omega),?_⟩;have nae:a≠e:=g6 (s3 a _ ha) he;refine ⟨_,rfl,_,rfl,a,_,_,_,rfl,rfl,g8.of (by rw[g7 nae];exact k6 a _ (s3 a _ ha) nad),B8 hin.1 hin.2,?_⟩
         have h7e:(g9 H6 e (.lst ((i4 p i j).map V.int++[.int (it p j i)]))) e=some (.lst ((i4 p i (j+1)).map V.int)):=by
           rw[c9,P8,bt3];rfl
         exact ⟨L - (j+1),by omega,j+1,by omega,rfl,h7e,by rw[g7 nde];exact h6d,fun b o hb hn=>by rw[g7 (g6 hb he)];exact k6 b o hb hn,rfl⟩
   · rintro σ H3 ⟨as,rs,v3,v4,rfl,h3l,h3d,rows,up,s3,fa,nda,nla,nda2⟩;exact ⟨_,rfl,q l as rs H3 hl s3 h3l rows up fa nda nla⟩
end
end My
namespace My
open PySem L2 Mth
section
variable {P:Program} {w:World} {K:PySem.W.Frag} {mg:Str->Option Value} {base:Heap}
def i9 (i:Int):Str:=Str.ofString (toString i)
theorem bf9:∀k,k < 40->(i9 (k:Nat)).cps.toList.length<=2/\1<=(i9 (k:Nat)).cps.toList.length/\32∉(i9 (k:Nat)).cps.toList/\40∉(i9 (k:Nat)).cps.toList/\41∉(i9 (k:Nat)).cps.toList:=by decide+kernel
theorem ba9:∀j,j < 40->∀k,k < 40->i9 (j:Nat)=i9 (k:Nat)->j=k:=by decide+kernel
theorem J5 {i:Int}(h0:0<=i)(h1:i < 40):(i9 i).cps.toList.length<=2/\1<=(i9 i).cps.toList.length/\32∉(i9 i).cps.toList/\40∉(i9 i).cps.toList/\41∉(i9 i).cps.toList:=by
 obtain ⟨k,rfl⟩:=bw8 h0;exact bf9 k (by omega)
theorem an4 {i j:Int}(h0:0<=i)(h1:i < 40)(g0:0<=j)(g1:j < 40)(h:i9 i=i9 j):i=j:=by
 obtain ⟨k,rfl⟩:=bw8 h0;obtain ⟨m,rfl⟩:=bw8 g0;have:=ba9 k (by omega) m (by omega) h;omega
theorem ae9 {k:Nat}(hk:200<=k){i:Int}(h0:0<=i)(h1:i < 40):i.natAbs.log2 < k:=by
 by_cases z:i.natAbs=0
 · rw[z,Nat.log2_zero];omega
 · refine (Nat.log2_lt z).mpr (bu1 (m:=2^6) (by omega) (Nat.pow_le_pow_right (by decide) (by omega)))
def h7 (r:List Int):Str:=Txt.join " " (r.map i9)
theorem N0 {sep:Str}{ts:List Str}{B:Nat}(hB:∀y∈ts,y.length<=B)(h:ts.length*B+ts.length*sep.length<=16777216):JoinOk sep ts=true:=by
 unfold JoinOk;rw[StrLaws.joinFits hB h];rfl
theorem bb0 {sep:Str}{c:Nat}(hs:c∉sep.cps.toList):∀{ts:List Str},(∀t∈ts,c∉t.cps.toList)->c∉(Txt.join sep ts).cps.toList:=by
 intro ts h;show c∉(Builtin.Str.glued sep ts).cps.toList;rw[StrLaws.glued_eq_join,B5]
 induction ts with
 |nil=>exact fun z=>by cases z
 |cons t r ih=>
  cases r with
  |nil=>exact h t bs4
  |cons u r=>
   intro z;have z:c∈t.cps.toList++sep.cps.toList++Mth.K4 sep.cps.toList ((u::r).map (·.cps.toList)):=z
   rcases bt5.mp z with z|z
   · rcases bt5.mp z with z|z
     · exact h t bs4 z
     · exact hs z
   · exact ih (fun y hy=>h y (bs7 _ hy)) z
theorem C8 {r:List Int}{c:Nat}(hc:c=40\/c=41)(br:∀x∈r,0<=x/\x < 40):c∉(h7 r).cps.toList:=by
 refine bb0 (by rcases hc with rfl|rfl<;>decide+kernel) fun t ht=> ?_
 obtain ⟨i,hi,rfl⟩:=bu5.mp ht;have:=J5 (br i hi).1 (br i hi).2
 rcases hc with rfl|rfl
 · exact this.2.2.2.1
 · exact this.2.2.2.2
theorem E3 {r:List Int}(lr:r.length<=40)(br:∀x∈r,0<=x/\x < 40):(h7 r).length<=120:=by
 have h:=StrLaws.join_length_le " " (r.map i9)
 have e:(h7 r).length=(Str.join " " (r.map i9)).length:=by
   show (Builtin.Str.glued " " (r.map i9)).length=_;rw[StrLaws.glued_eq_join]
 have s:=StrLaws.sumLen_le (B:=2) (r.map i9) (fun y hy=>by obtain ⟨i,hi,rfl⟩:=bu5.mp hy;exact (J5 (br i hi).1 (br i hi).2).1)
 have sl:(Str.ofString " ").length=1:=by decide+kernel
 rw[e];rw[bs1] at h s
 have h':(Str.join " " (r.map i9)).length<=((r.map i9).map (·.length)).sum+r.length*1:=by rw[<-sl];exact h
 omega
theorem aw3 {m:Str}:Txt.slice ("("++m++")") (some 1) (some (-1))=m:=by
 have l1:(Str.ofString "(").length=1:=by decide+kernel
 have l2:(Str.ofString ")").length=1:=by decide+kernel
 obtain ⟨y,hy⟩:∃y:Str,y=Str.ofString "("++m++Str.ofString ")":=⟨_,rfl⟩
 have ly:y.length=m.length+2:=by rw[hy,Str.length_append,Str.length_append,l1,l2];omega
 have eb:Builtin.Str.strSliceIndices (some 1) (some (-1)) 1 y.length=Builtin.Str.strSliceIndices (some ((1:Nat):Int)) (some ((m.length+1:Nat):Int)) 1 y.length:=by
   unfold Builtin.Str.strSliceIndices;rw[ly];simp only[show (-1:Int) < 0 by decide,if_true,show ¬(((m.length+1:Nat):Int) < 0) by omega,if_false]
   congr 1
   omega
 show Txt.slice (Str.ofString "("++m++Str.ofString ")") (some 1) (some (-1))=m;rw[<-hy];unfold Txt.slice;rw[eb,StrLaws.sliced_plain y (by omega) (by omega)]
 have nl:(Builtin.Str.strSliceIndices (some ((1:Nat):Int)) (some ((m.length+1:Nat):Int)) 1 y.length).length=m.length:=by
   rw[StrLaws.strSliceIndices_plain (by omega) (by omega),bs1,by2];omega
 rw[if_neg (by rw[nl];simp;omega)];refine t7 ?_;show (y.cps.toList.drop 1).take (m.length+1 - 1)=m.cps.toList;rw[hy,y6,y6,show (Str.ofString "(").cps.toList=[40] by decide+kernel];show (List.drop 1 (40::(m.cps.toList++_))).take m.length=_;rw[List.drop_succ_cons,cb9];exact List.take_left' rfl
def aa0:Sp:=fun vs H Q _=>∃(a:Addr) (r:List Int),vs=[.ref a]/\H a=some (.lst (r.map V.int))/\r.length<=40/\(∀x∈r,0<=x/\x < 40)/\∀H',e8 H H'->Q (.str (h7 r)) H'
theorem ad8:j7 ["ring"] ["ring"] (i6 L7):=by rfl'
theorem R7:(["thing"]:List Str).Nodup:=by decide+kernel
theorem ad9 {f:Addr}{fd:FuncData}(F:q9 K "show_round" "show_round" L7 f fd)(B:Bl mg):m5 P w K mg base p5 1 f fd ["ring"] aa0:=by
 refine F.ok ad8 (fun vs H Q E h=> ?_) (fun cdv A outer s H vs Q E hr h=> ?_)
 · obtain ⟨a,r,rfl,ha,lr,br,q⟩:=h;rfl
 · obtain ⟨a,r,rfl,ha,lr,br,q⟩:=h;refine ⟨_,@c8 _ _ _ (@j5 _ _ _ _ (@P0 _ _ _ _ _ _ _ (@o4 _ _ _ _) (@c4 _ _ _ _ _ (@O7 _ _ _ _ _ _ _ _ _ _ _ (["thing"]) (1) ([]) rfl .of (@o5 _ _ _ _ (pv 0)) (fun _ _ _ _ _=>@j8 _ _ (0) _ R7 rfl (Or.inl rfl) (by trivial)) (fun _ _ _ _ _=>(@C6 _)) (fun _ _ _ _ _=>(@T9 _ _ _ _ _ B.str (@c4 _ _ _ _ _ (pv 0) (@c5 _) (by rfl)) (by rfl) (by rfl))) (by intro _;rfl)) (@c5 _) (by rfl)) (by rfl) (by rfl) (by rfl) (by rfl) (by rfl))),?_⟩;refine ⟨rfl,?_⟩;refine ⟨_,rfl,a,rfl,⟨_,g8.of ha⟩,C9 (K:=K) (a:=a) (xs:=r.map V.int) (fun i ys σ H1=>∃v:Option V,σ=[v]/\H1=H/\ys=((r.take i).map i9).map V.str) ⟨none,rfl,rfl,rfl⟩ (fun i ys σ H1 _ zz=>by obtain ⟨_,_,e,_⟩:=zz;rw[e];exact g8.of ha) ?_ ?_⟩
   · rintro i x ys σ H1 hi ⟨v,rfl,rfl,rfl⟩;obtain ⟨z,hz,rfl⟩:=y9 hi;have zb:=br z (bs8 hz);refine ⟨_,rfl,z,rfl,ae9 (by decide) zb.1 zb.2,l6 (by simp only[bs1,bt6];omega),_,rfl,rfl,?_⟩;rw[j6 hz,bt3,bt3];rfl
   · rintro ys σ H1 ⟨v,rfl,rfl,rfl⟩ D hD;rw[bs1,bu6];refine ⟨" ",D,r.map i9,rfl,rfl,g8.of c9,N0 (B:=2) (fun y hy=> ?_) ?_,q _ (e8.upd_new hD)⟩
     · obtain ⟨i,hi,rfl⟩:=bu5.mp hy;exact (J5 (br i hi).1 (br i hi).2).1
     · have sl:(Str.ofString " ").length=1:=by decide+kernel
       rw[bs1,sl];omega
noncomputable def q4 (p:List Int):Str:=Str.ofString "("++Txt.join (Str.ofString ")(") ((i2 p p.length).map h7)++Str.ofString ")"
theorem A1 {p:List Int}{rs:List (List Int)}(tp:m4 p)(lp:p.length<=40)(up:n5 p p.length rs):rs.length<=40/\∀r∈rs,r≠[]/\r.length<=40/\∀x∈r,0<=x/\x < 40:=by
 have fl:=D1 tp up
 have ll:rs.flatten.length=p.length:=by rw[fl.length_eq,p8]
 refine ⟨by have:=V9 up;omega,fun r hr=>⟨fun z=> ?_,?_,fun x hx=> ?_⟩⟩
 · obtain ⟨y,L,_,pr,er,_⟩:=up.ring r hr;have:=pr.pos;rw[z] at er;have e2:=congrArg cd7 er;rw[i7] at e2;simp at e2;omega
 · have:=(List.sublist_flatten_of_mem hr).length_le;omega
 · have:=t8.mp (fl.mem_iff.mp (bu8.mpr ⟨r,hr,hx⟩));omega
theorem ac7 {rs:List (List Int)}(h:rs.length<=40)(hb:∀r∈rs,r≠[]/\r.length<=40/\∀x∈r,0<=x/\x < 40):JoinOk (Str.ofString ")(") (rs.map h7)=true/\(Txt.join (Str.ofString ")(") (rs.map h7)).length<=4880:=by
 have sl:(Str.ofString ")(").length=2:=by decide+kernel
 have hB:∀y∈rs.map h7,y.length<=120:=fun y hy=>by
   obtain ⟨r,hr,rfl⟩:=bu5.mp hy;exact E3 (hb r hr).2.1 (hb r hr).2.2
 refine ⟨N0 hB (by rw[bs1,sl];omega),?_⟩
 have e:(Txt.join (Str.ofString ")(") (rs.map h7)).length=(Str.join (Str.ofString ")(") (rs.map h7)).length:=by
   show (Builtin.Str.glued _ _).length=_;rw[StrLaws.glued_eq_join]
 have a:=StrLaws.join_length_le (Str.ofString ")(") (rs.map h7);have b:=StrLaws.sumLen_le (B:=120) (rs.map h7) hB;rw[sl] at a;rw[bs1] at a b;omega
def M1:Sp:=fun vs H Q _=>∃(a:Addr) (p:List Int),vs=[.ref a]/\y7 H a p/\∀H',e8 H H'->Q (.str (q4 p)) H'
theorem aj4:j7 ["p"] ["p"] (i6 N9):=by rfl'
theorem U2:(["ring"]:List Str).Nodup:=by decide+kernel
theorem aj5 {f:Addr}{fd:FuncData}(F:q9 K "show_turn" "show_turn" N9 f fd)(zvy:j9 P w K mg base "rounds_of" 4 ["p"] x4)(zwy:j9 P w K mg base "show_round" 1 ["ring"] aa0):m5 P w K mg base p5 5 f fd ["p"] M1:=by
 refine F.ok aj4 (fun vs H Q E h=> ?_) (fun cdv A outer s H vs Q E hr h=> ?_)
 · obtain ⟨a,p,rfl,tp,q⟩:=h;rfl
 · obtain ⟨a,p,rfl,tp,q⟩:=h;have zpy:l5 4 _:=hr.mono (by decide);have zq:l5 1 _:=hr.mono (by decide);refine ⟨_,@c8 _ _ _ (@j5 _ _ _ _ (@l8 _ _ _ _ _ _ _ _ E9 (@l8 _ _ _ _ _ _ _ _ E9 (@o4 _ _ _ _) (@P0 _ _ _ _ _ _ _ (@o4 _ _ _ _) (@c4 _ _ _ _ _ (@O7 _ _ _ _ _ _ _ _ _ _ _ (["ring"]) (1) ([]) rfl .of (@o5 _ _ _ _ (@i5 _ _ _ _ _ _ _ _ _ _ zvy zpy (@c4 _ _ _ _ _ (pv 0) (@c5 _) (by rfl)) (by rfl) (by decide) (by rfl) (by rfl))) (fun _ _ _ _ _=>@j8 _ _ (0) _ U2 rfl (Or.inl rfl) (by trivial)) (fun _ _ _ _ _=>(@C6 _)) (fun _ _ _ _ _=>(@i5 _ _ _ _ _ _ _ _ _ _ zwy zq (@c4 _ _ _ _ _ (pv 0) (@c5 _) (by rfl)) (by rfl) (by decide) (by rfl) (by rfl))) (by intro _;rfl)) (@c5 _) (by rfl)) (by rfl) (by rfl) (by rfl) (by rfl) (by rfl))) (@o4 _ _ _ _))),?_⟩;refine ⟨rfl,?_⟩;refine ⟨_,rfl,a,p,rfl,tp,fun l as rs H1 hl s1 h1l rows up _ _ _=> ?_⟩;obtain ⟨f1,f2⟩:=A1 tp.2.1 tp.2.2 up;refine ⟨l,rfl,⟨_,g8.of h1l⟩,C9 (K:=K) (a:=l) (xs:=as.map V.ref) (fun i ys σ H2=>∃v:Option V,σ=[v]/\e8 H1 H2/\ys=((rs.take i).map h7).map V.str) ⟨none,rfl,e8.refl H1,rfl⟩ (fun i ys σ H2 _ zz=>by obtain ⟨_,_,s,_⟩:=zz;exact g8.of (s _ _ h1l)) ?_ ?_⟩
   · rintro i x ys σ H2 hi ⟨v,rfl,s2,rfl⟩;rw[bt2] at hi
     cases hB:as[i]? with
     |none=>rw[hB] at hi;cases hi
     |some b=>
      rw[hB] at hi;cases hi
      have hil:i < rs.length:=by rw[<-rows.1];exact (bs3.mp hB).1
      have hr':=bs2 hil;have hb:=s2 _ _ (rows.2 i b _ hB hr');obtain ⟨r1,r2,r3⟩:=f2 rs[i] (bv4 hil);refine ⟨_,rfl,b,_,rfl,hb,r2,r3,fun H3 s3=>⟨l6 (by simp only[bs1,bt6];omega),_,rfl,s2.trans s3,?_⟩⟩;rw[j6 hr',bt3,bt3];rfl
   · rintro ys σ H2 ⟨v,rfl,s2,rfl⟩ D hD;rw[bs1,rows.1,bu6];obtain ⟨ok,ln⟩:=ac7 f1 f2
     have l1:(Str.ofString "(").length=1:=by decide+kernel
     have l2:(Str.ofString ")").length=1:=by decide+kernel
     refine ⟨Str.ofString ")(",D,rs.map h7,rfl,rfl,g8.of c9,ok,_,_,rfl,rfl,(by rw[l1,sizeLine_eq];omega),_,_,rfl,rfl,(by rw[Str.length_append,l1,l2,sizeLine_eq];omega),?_⟩;have:=q _ ((s1.trans s2).trans (e8.upd_new (o:= .lst ((rs.map h7).map V.str)) hD));unfold q4 at this;rw[<-up.eq] at this;exact this
def aa1:Sp:=fun vs H Q _=>∃(i:Int),vs=[.str (i9 i)]/\0<=i/\i < 40/\Q (.int i) H
theorem R6:j7 ["word","thing"] ["word"] (i6 L8):=by rfl'
theorem ae0 {f:Addr}{fd:FuncData}(F:q9 K "read_thing" "read_thing" L8 f fd)(B:Bl mg)(zqz:∃t,mg "MOST_THINGS"=some (.int 40 t)):m5 P w K mg base p5 1 f fd ["word"] aa1:=by
 refine F.ok R6 (fun vs H Q E h=> ?_) (fun cdv A outer s H vs Q E hr h=> ?_)
 · obtain ⟨i,rfl,i0,i1,q⟩:=h;rfl
 · obtain ⟨i,rfl,i0,i1,q⟩:=h;obtain ⟨_,zqy⟩:=zqz;refine ⟨_,@c6 _ _ _ _ _ (@o1 _ _ _ _ _ _ _ _ PassesOwn.never rfl (@x6 _ _ _ _ _ _ (by rfl) B.range (@c4 _ _ _ _ _ (@al8 _ _ (.int 40) _ _ (by rfl) zqy ⟨_,rfl⟩ (by decide)) (@c5 _) (by rfl)) (by rfl)) (@j8 _ _ (1) _ R6.nd rfl (Or.inl rfl) (by trivial)) (@c8 _ _ _ (@p7 _ _ _ _ _ _ _ _ (@m6 _ _ _ _ _ _ _ _ W8 (pv 0) (@T9 _ _ _ _ _ B.str (@c4 _ _ _ _ _ (pv 1) (@c5 _) (by rfl)) (by rfl) (by rfl)) (m7 _)) (@c8 _ _ _ (@j5 _ _ _ _ (pv 1))) (@m9 _))) (by intro _;rfl)) (@c8 _ _ _ (@G8 _ _)),?_⟩;refine ⟨40,rfl,by decide,by decide,A6 (lo:=0) (n:=40) (fun j σ H1=>∃v:Option V,σ=[some (.str (i9 i)),v]/\H1=H/\(j:Int)<=i) ⟨none,rfl,rfl,i0⟩ ?_ ?_⟩
   · rintro j σ H1 hj ⟨v,rfl,rfl,ji⟩;refine ⟨_,rfl,_,rfl,_,rfl,ae9 (by decide) (by omega) (by omega),rfl,_,rfl,?_⟩
     by_cases e:i=(0:Int)+(j:Int)
     · subst e;rw[decide_eq_true (show V.str (i9 ((0:Int)+(j:Int)))=V.str (Str.ofString (toString ((0:Int)+(j:Int)))) from rfl)];exact L3 ⟨_,rfl,q⟩
     · rw[decide_eq_false (show ¬V.str (i9 i)=V.str (Str.ofString (toString ((0:Int)+(j:Int)))) from fun z=>e (an4 i0 i1 (by omega) (by omega) (V.str.inj z)))];exact A8 ⟨_,rfl,rfl,by omega⟩
   · rintro σ H1 ⟨v,rfl,rfl,ji⟩;exact absurd ji (by omega)
def aa2:Sp:=fun vs H Q _=>∃(r:List Int),vs=[.str (h7 r)]/\r≠[]/\r.length<=40/\(∀x∈r,0<=x/\x < 40)/\∀l H',H l=none->e8 H H'->H' l=some (.lst (r.map V.int))->Q (.ref l) H'
theorem ae1:j7 ["text"] ["text"] (i6 L9):=by rfl'
theorem T2:(["word"]:List Str).Nodup:=by decide+kernel
theorem ae2 {f:Addr}{fd:FuncData}(F:q9 K "read_round" "read_round" L9 f fd)(zwx:j9 P w K mg base "read_thing" 1 ["word"] aa1):m5 P w K mg base p5 2 f fd ["text"] aa2:=by
 refine F.ok ae1 (fun vs H Q E h=> ?_) (fun cdv A outer s H vs Q E hr h=> ?_)
 · obtain ⟨r,rfl,ne,lr,br,q⟩:=h;rfl
 · obtain ⟨r,rfl,ne,lr,br,q⟩:=h;have zqx:l5 1 _:=hr.mono (by decide);refine ⟨_,@c8 _ _ _ (@j5 _ _ _ _ (@O7 _ _ _ _ _ _ _ _ _ _ _ (["word"]) (1) ([]) rfl .of (@o5 _ _ _ _ (@ai1 _ _ _ _ _ _ _ (pv 0) (@c4 _ _ _ _ _ (@o4 _ _ _ _) (@c5 _) (by rfl)) (by rfl) (by rfl) (by rfl) (by rfl) (by rfl))) (fun _ _ _ _ _=>@j8 _ _ (0) _ T2 rfl (Or.inl rfl) (by trivial)) (fun _ _ _ _ _=>(@C6 _)) (fun _ _ _ _ _=>(@i5 _ _ _ _ _ _ _ _ _ _ zwx zqx (@c4 _ _ _ _ _ (pv 0) (@c5 _) (by rfl)) (by rfl) (by decide) (by rfl) (by rfl))) (by intro _;rfl))),?_⟩;obtain ⟨es,el⟩:=Q2 (sep:=Str.ofString " ") (parts:=r.map i9) (c0:=32) (rest:=[]) (by decide+kernel) (by simp) (fun t ht=>by obtain ⟨i,hi,rfl⟩:=bu5.mp ht;exact (J5 (br i hi).1 (br i hi).2).2.2.1) (by simpa using ne) (by decide+kernel);have lt:=E3 lr br;refine ⟨_,rfl,rfl,_,_,rfl,rfl,(by decide+kernel),(by rw[sizeLine_eq];omega),?_,?_,fun l hl=> ?_⟩
   · refine bw3 (Nat.le_of_eq el) ?_;rw[bs1,sizeLine_eq];omega
   · show (Txt.split (Txt.join (Str.ofString " ") (r.map i9)) _).length<=_;rw[es,bs1,sizeLine_eq];omega
   · have es':Txt.split (h7 r) (Str.ofString " ")=r.map i9:=es;rw[es'];obtain ⟨H1,e1⟩:∃Hn,Hn=g9 H l (.lst ((r.map i9).map V.str)):=⟨_,rfl⟩;have s1:e8 H H1:=e1▸e8.upd_new hl
     have h1l:H1 l=some (.lst ((r.map i9).map V.str)):=by rw[e1,c9]
     rw[<-e1];refine ⟨l,rfl,⟨_,g8.of h1l⟩,C9 (K:=K) (a:=l) (xs:=(r.map i9).map V.str) (fun i ys σ H2=>∃v:Option V,σ=[v]/\H2=H1/\ys=(r.take i).map V.int) ⟨none,rfl,rfl,rfl⟩ (fun i ys σ H2 _ zz=>by obtain ⟨_,_,e,_⟩:=zz;rw[e];exact g8.of h1l) ?_ ?_⟩
     · rintro i x ys σ H2 hi ⟨v,rfl,rfl,rfl⟩;rw[by8,bt2] at hi
       cases hB:r[i]? with
       |none=>rw[hB] at hi;cases hi
       |some z=>
        rw[hB] at hi;cases hi;have zb:=br z (bs8 hB);refine ⟨_,rfl,z,rfl,zb.1,zb.2,l6 (by simp only[bs1,bt6];omega),_,rfl,rfl,?_⟩;rw[j6 hB,bt3];rfl
     · rintro ys σ H2 ⟨v,rfl,rfl,rfl⟩ D hD;rw[bs1,bs1,bu6];exact q D _ (s1.free hD) (s1.trans (e8.upd_new hD)) c9
def W3:Sp:=fun vs H Q _=>∃(p:List Int),vs=[.str (q4 p)]/\m4 p/\p.length<=40/\∀l as H',H l=none->e8 H H'->H' l=some (.lst (as.map V.ref))->B2 H' as (i2 p p.length)->Q (.ref l) H'
theorem N1 {r:List Int}(ne:r≠[])(br:∀x∈r,0<=x/\x < 40):1<=(h7 r).cps.toList.length:=by
 show 1<=(Builtin.Str.glued _ _).cps.toList.length;rw[StrLaws.glued_eq_join,B5]
 cases r with
 |nil=>exact absurd rfl ne
 |cons i r=>
  have:=(J5 (br i bs4).1 (br i bs4).2).2.1;exact bw3 this ac4
theorem aa3:j7 ["text"] ["text"] (i6 J9):=by rfl'
theorem R8:(["part"]:List Str).Nodup:=by decide+kernel
theorem aa4 {f:Addr}{fd:FuncData}(F:q9 K "read_rounds" "read_rounds" J9 f fd)(zv:j9 P w K mg base "read_round" 2 ["text"] aa2):m5 P w K mg base p5 3 f fd ["text"] W3:=by
 refine F.ok aa3 (fun vs H Q E h=> ?_) (fun cdv A outer s H vs Q E hr h=> ?_)
 · obtain ⟨p,rfl,tp,lp,q⟩:=h;rfl
 · obtain ⟨p,rfl,tp,lp,q⟩:=h;have zpz:l5 2 _:=hr.mono (by decide);refine ⟨_,@c6 _ _ _ _ _ (@p7 _ _ _ _ _ _ _ _ (@m6 _ _ _ _ _ _ _ _ W8 (pv 0) (@o4 _ _ _ _) (m7 _)) (@c8 _ _ _ (@j5 _ _ _ _ (@x8 _ _ _ _ (@c5 _)))) (@m9 _)) (@c8 _ _ _ (@j5 _ _ _ _ (@O7 _ _ _ _ _ _ _ _ _ _ _ (["part"]) (1) ([]) rfl .of (@o5 _ _ _ _ (@ai1 _ _ _ _ _ _ _ (@ag3 _ _ _ _ _ _ _ _ _ _ bk2 (pv 0) (@K5 _ _ _ (@i8 _ _ _ _)) (@K5 _ _ _ (@ae3 _ _ _ _ _ _ W7 (@i8 _ _ _ _)))) (@c4 _ _ _ _ _ (@o4 _ _ _ _) (@c5 _) (by rfl)) (by rfl) (by rfl) (by rfl) (by rfl) (by rfl))) (fun _ _ _ _ _=>@j8 _ _ (0) _ R8 rfl (Or.inl rfl) (by trivial)) (fun _ _ _ _ _=>(@C6 _)) (fun _ _ _ _ _=>(@i5 _ _ _ _ _ _ _ _ _ _ zv zpz (@c4 _ _ _ _ _ (pv 0) (@c5 _) (by rfl)) (by rfl) (by decide) (by rfl) (by rfl))) (by intro _;rfl)))),?_⟩;have up:=B0 tp;obtain ⟨f1,f2⟩:=A1 tp lp up;obtain ⟨ok,ln⟩:=ac7 f1 f2;obtain ⟨rs,hrs⟩:∃rs,rs=i2 p p.length:=⟨_,rfl⟩
   have et:q4 p=Str.ofString "("++Txt.join (Str.ofString ")(") (rs.map h7)++Str.ofString ")":=by rw[hrs];rfl
   rw[<-hrs] at f1 f2 ok ln q;refine ⟨_,rfl,rfl,_,rfl,?_⟩;rw[et]
   cases rs with
   |nil=>
    rw[decide_eq_true (show V.str (Str.ofString "("++Txt.join (Str.ofString ")(") (([]:List (List Int)).map h7)++Str.ofString ")")=V.str (Str.ofString "()") by decide+kernel)];refine L3 ⟨bu9 _,fun l hl=> ?_⟩;exact q l [] _ hl (e8.upd_new hl) c9 ⟨rfl,fun j b r h=>by simp at h⟩
   |cons r0 rr=>
    have l1:(Str.ofString "(").length=1:=by decide+kernel
    have l2:(Str.ofString ")").length=1:=by decide+kernel
    have l3:(Str.ofString "()").length=2:=by decide+kernel
    obtain ⟨mid,hmid⟩:∃mid,mid=Txt.join (Str.ofString ")(") ((r0::rr).map h7):=⟨_,rfl⟩
    have mpos:1<=mid.length:=by
      have e:mid.cps.toList=Mth.K4 (Str.ofString ")(").cps.toList (((r0::rr).map h7).map (·.cps.toList)):=by
        rw[hmid];show (Builtin.Str.glued _ _).cps.toList=_;rw[StrLaws.glued_eq_join,B5]
      show 1<=mid.cps.toList.length;rw[e];exact bw3 (N1 (f2 r0 bs4).1 (f2 r0 bs4).2.2) ac4
    rw[<-hmid] at ln ⊢
    have nn:¬V.str (Str.ofString "("++mid++Str.ofString ")")=V.str (Str.ofString "()"):=fun z=>by
      have:=congrArg Str.length (V.str.inj z);rw[Str.length_append,Str.length_append,l1,l2,l3] at this;omega
    rw[decide_eq_false nn];refine A8 ?_
    have lw:(Str.ofString "("++mid++Str.ofString ")").length<=4882:=by rw[Str.length_append,Str.length_append,l1,l2];omega
    obtain ⟨es,el⟩:=Q2 (sep:=Str.ofString ")(") (parts:=(r0::rr).map h7) (c0:=41) (rest:=[40]) (by decide+kernel) (by decide) (fun t ht=>by obtain ⟨r,hr,rfl⟩:=bu5.mp ht;exact C8 (.inr rfl) (f2 r hr).2.2) (by simp) (by decide+kernel);rw[<-hmid] at es el;refine ⟨_,rfl,_,rfl,_,rfl,_,rfl,_,rfl,(by rw[sizeLine_eq];omega),?_⟩;rw[show Txt.slice (Str.ofString "("++mid++Str.ofString ")") (some 1) (some (-1))=mid from aw3];refine ⟨rfl,mid,_,rfl,rfl,(by decide+kernel),(by rw[sizeLine_eq];omega),(by rw[el,bs1,sizeLine_eq];omega),(by rw[es,bs1,sizeLine_eq];omega),fun l hl=> ?_⟩;rw[es];obtain ⟨H1,e1⟩:∃Hn,Hn=g9 H l (.lst (((r0::rr).map h7).map V.str)):=⟨_,rfl⟩;have s1:e8 H H1:=e1▸e8.upd_new hl
    have h1l:H1 l=some (.lst (((r0::rr).map h7).map V.str)):=by rw[e1,c9]
    rw[<-e1];clear e1 et hmid es el nn;generalize r0::rr=rs at*;refine ⟨l,rfl,⟨_,g8.of h1l⟩,C9 (K:=K) (a:=l) (xs:=(rs.map h7).map V.str) (fun i ys σ H2=>∃(v:Option V) (as:List Addr),σ=[v]/\ys=as.map V.ref/\e8 H1 H2/\B2 H2 as (rs.take i)) ⟨none,[],rfl,rfl,e8.refl H1,⟨by rw[List.take_zero];rfl,fun j b r h=>by simp at h⟩⟩ (fun i ys σ H2 _ zz=>by obtain ⟨_,_,_,_,s,_⟩:=zz;exact g8.of (s _ _ h1l)) ?_ ?_⟩
    · rintro i x ys σ H2 hi ⟨v,as,rfl,rfl,s2,rows⟩;rw[by8,bt2] at hi
      cases hB:rs[i]? with
      |none=>rw[hB] at hi;cases hi
      |some z=>
       rw[hB] at hi;cases hi;obtain ⟨z1,z2,z3⟩:=f2 z (bs8 hB);refine ⟨_,rfl,z,rfl,z1,z2,z3,fun b H3 hb s3 h3b=>⟨l6 (by rw[bs1,rows.1,bt6];omega),_,as++[b],rfl,by rw[bt3];rfl,s2.trans s3,?_⟩⟩;rw[j6 hB];exact T0 (E1 rows fun c _ o ho=>s3 _ _ ho) h3b
    · rintro ys σ H2 ⟨v,as,rfl,rfl,s2,rows⟩ D hD;rw[bs1,bs1,bu6] at rows;have s3:e8 H2 (g9 H2 D (.lst (as.map V.ref))):=e8.upd_new hD;exact q D as _ ((s1.trans s2).free hD) ((s1.trans s2).trans s3) c9 (E1 rows fun c _ o ho=>s3 _ _ ho)
def aj6:Sp:=fun vs H Q _=>∃(p:List Int),vs=[.str (q4 p)]/\m4 p/\p.length<=40/\∀l H',H l=none->e8 H H'->H' l=some (.lst (p.map V.int))->Q (.ref l) H'
theorem M2:j7 ["text","rounds","told"] ["text"] (i6 O0):=by rfl'
theorem aj7 {f:Addr}{fd:FuncData}(F:q9 K "read_turn" "read_turn" O0 f fd)(B:Bl mg)(zxz:j9 P w K mg base "read_rounds" 3 ["text"] W3)(zxy:j9 P w K mg base "from_rounds" 3 ["rounds"] aj1)(zzx:j9 P w K mg base "show_turn" 5 ["p"] M1):m5 P w K mg base p5 6 f fd ["text"] aj6:=by
 refine F.ok M2 (fun vs H Q E h=> ?_) (fun cdv A outer s H vs Q E hr h=> ?_)
 · obtain ⟨p,rfl,tp,lp,q⟩:=h;rfl
 · obtain ⟨p,rfl,tp,lp,q⟩:=h;have zsx:l5 3 _:=hr.mono (by decide);have zr:l5 3 _:=hr.mono (by decide);have zyz:l5 5 _:=hr.mono (by decide);refine ⟨_,@c6 _ _ _ _ _ (@p7 _ _ _ _ _ _ _ _ (@E6 _ _ _ _ (@E5 _ _ _ (@O8 _ _ _ _ _ _ B.isi (@c4 _ _ _ _ _ (pv 0) (@c4 _ _ _ _ _ (@az8 _ _ B.str (by rfl)) (@c5 _) (by rfl)) (by rfl)) (by rfl) (by rfl) (by rfl)) (by intro _;rfl))) (@c8 _ _ _ (@G8 _ _)) (@m9 _)) (@c6 _ _ _ _ _ (@j2 _ _ (1) _ _ _ _ M2.nd rfl (Or.inl rfl) (@i5 _ _ _ _ _ _ _ _ _ _ zxz zsx (@c4 _ _ _ _ _ (pv 0) (@c5 _) (by rfl)) (by rfl) (by decide) (by rfl) (by rfl)) (by rfl) (by trivial)) (@c6 _ _ _ _ _ (@bf1 _ _ _ _ _ _ (@c8 _ _ _ (@j2 _ _ (2) _ _ _ _ M2.nd rfl (Or.inl rfl) (@i5 _ _ _ _ _ _ _ _ _ _ zxy zr (@c4 _ _ _ _ _ (pv 1) (@c5 _) (by rfl)) (by rfl) (by decide) (by rfl) (by rfl)) (by rfl) (by trivial))) (by intro _ _ h;exact h)) (@c6 _ _ _ _ _ (@p7 _ _ _ _ _ _ _ _ (@m6 _ _ _ _ _ _ _ _ W9 (@i5 _ _ _ _ _ _ _ _ _ _ zzx zyz (@c4 _ _ _ _ _ (pv 2) (@c5 _) (by rfl)) (by rfl) (by decide) (by rfl) (by rfl)) (pv 0) (m7 _)) (@c8 _ _ _ (@G8 _ _)) (@m9 _)) (@c8 _ _ _ (@j5 _ _ _ _ (pv 2)))))),?_⟩;have up:=B0 tp;obtain ⟨f1,f2⟩:=A1 tp lp up;have fl:=D1 tp up
   have lq:(i2 p p.length).flatten.length=p.length:=by rw[fl.length_eq,az1]
   refine ⟨_,rfl,_,"str",_,true,rfl,.str _,L4 K "str",true,rfl,?_⟩;refine A8 ⟨_,rfl,p,rfl,tp,lp,fun l as H1 hl s1 h1l rows=> ?_⟩;refine ⟨_,rfl,l,as,_,rfl,h1l,rows,fun r hr'=>(f2 r hr').1,(N4 fl).1,by omega,fun fo t H2 hfo s2 h2fo lt hts=> ?_⟩
   have etp:t=p:=by
     refine bj8 (n:=p.length) (by omega) rfl fun x x0 x1=> ?_
     have hxm:x∈(i2 p p.length).flatten:=fl.mem_iff.mpr (t8.mpr ⟨x0,x1⟩);obtain ⟨r,hr',hxr⟩:=bu8.mp hxm;obtain ⟨y,L,hy,pr,er,_⟩:=up.ring r hr';rw[er] at hxr;obtain ⟨jj,hjj,rfl⟩:=o7.mp hxr
     have hl':jj < r.length:=by rw[er,i7];exact hjj
     have h1:=hts r hr' jj hl'
     have rl:r.length=L:=by rw[er,i7]
     rw[rl,er,p9 hjj,p9 (cb7 _ pr.pos),X8 pr.back] at h1;rw[S7 (p:=t) ⟨x0,by omega⟩] at h1;exact Option.some.inj h1
   subst etp;refine ⟨_,rfl,fo,t,rfl,⟨h2fo,tp,lp⟩,fun H3 s3=> ?_⟩;refine ⟨_,rfl,rfl,_,rfl,?_⟩;exact P5 rfl ⟨_,rfl,q fo H3 (s1.free hfo) ((s1.trans s2).trans s3) (s3 _ _ h2fo)⟩
def l7:List (List Int)->Str
 |[]=>Str.ofString ""
 |r::rs=>Str.ofString "("++h7 r++Str.ofString ")"++l7 rs
theorem U6:∀(rs:List (List Int)) (r:List Int),l7 (rs++[r])=l7 rs++Str.ofString "("++h7 r++Str.ofString ")"
 |[],r=>by
  refine t7 ?_;show (Str.ofString "("++h7 r++Str.ofString ")"++Str.ofString "").cps.toList=(Str.ofString ""++Str.ofString "("++h7 r++Str.ofString ")").cps.toList;simp only[y6,show (Str.ofString "").cps.toList=[] by decide+kernel,bw0,cd4]
 |a::rs,r=>by
  refine t7 ?_;show (Str.ofString "("++h7 a++Str.ofString ")"++l7 (rs++[r])).cps.toList=(Str.ofString "("++h7 a++Str.ofString ")"++l7 rs++Str.ofString "("++h7 r++Str.ofString ")").cps.toList;rw[U6 rs r];simp only[y6,bt4]
theorem T3:∀(r:List Int) (rs:List (List Int)),l7 (r::rs)=Str.ofString "("++Txt.join (Str.ofString ")(") ((r::rs).map h7)++Str.ofString ")"
 |r,[]=>by
  refine t7 ?_;show (Str.ofString "("++h7 r++Str.ofString ")"++Str.ofString "").cps.toList=(Str.ofString "("++h7 r++Str.ofString ")").cps.toList;simp only[y6,show (Str.ofString "").cps.toList=[] by decide+kernel,bw0]
 |r,u::rs=>by
  have ih:=congrArg (fun z:Str=>z.cps.toList) (T3 u rs)
  have e1:(Txt.join (Str.ofString ")(") ((u::rs).map h7)).cps.toList=Mth.K4 (Str.ofString ")(").cps.toList (((u::rs).map h7).map (·.cps.toList)):=by
    show (Builtin.Str.glued _ _).cps.toList=_;rw[StrLaws.glued_eq_join,B5]
  have e2:(Txt.join (Str.ofString ")(") ((r::u::rs).map h7)).cps.toList=(h7 r).cps.toList++(Str.ofString ")(").cps.toList++Mth.K4 (Str.ofString ")(").cps.toList (((u::rs).map h7).map (·.cps.toList)):=by
    show (Builtin.Str.glued _ _).cps.toList=_;rw[StrLaws.glued_eq_join,B5];rfl
  refine t7 ?_;show (Str.ofString "("++h7 r++Str.ofString ")"++l7 (u::rs)).cps.toList=_;simp only[y6] at ih ⊢;rw[ih,e1,e2,show (Str.ofString ")(").cps.toList=(Str.ofString ")").cps.toList++(Str.ofString "(").cps.toList by decide+kernel];simp only[bt4]
theorem R0:∀{rs:List (List Int)},(∀r∈rs,r≠[]/\r.length<=40/\∀x∈r,0<=x/\x < 40)->(l7 rs).length<=rs.length*122
 |[],_=>by show (Str.ofString "").length<=_;rw[show (Str.ofString "").length=0 by decide+kernel];omega
 |r::rs,h=>by
  have ih:=R0 fun y hy=>h y (bs7 _ hy)
  have hr:=h r bs4;have l0:=E3 hr.2.1 hr.2.2;show (Str.ofString "("++h7 r++Str.ofString ")"++l7 rs).length<=_;rw[Str.length_append,Str.length_append,Str.length_append,show (Str.ofString "(").length=1 by decide+kernel,show (Str.ofString ")").length=1 by decide+kernel,bw4,Nat.succ_mul];omega
theorem B9:j7 ["p","found","one"] ["p"] (i6 K2):=by rfl'
theorem R1:(["thing"]:List Str).Nodup:=by decide+kernel
theorem aa5 {f:Addr}{fd:FuncData}(F:q9 K "_law_written" "_law_written" K2 f fd)(B:Bl mg)(zy:j9 P w K mg base "_law_rounds" 1 ["p"] x4):m5 P w K mg base p5 2 f fd ["p"] M1:=by
 refine F.ok B9 (fun vs H Q E h=> ?_) (fun cdv A outer s H vs Q E hr h=> ?_)
 · obtain ⟨a,p,rfl,tp,q⟩:=h;rfl
 · obtain ⟨a,p,rfl,tp,q⟩:=h;have zyy:l5 1 _:=hr.mono (by decide);refine ⟨_,@c6 _ _ _ _ _ (@j2 _ _ (1) _ _ _ _ B9.nd rfl (Or.inl rfl) (@o4 _ _ _ _) (by rfl) (by trivial)) (@c6 _ _ _ _ _ (@o1 _ _ _ _ _ _ _ _ PassesOwn.never rfl (@o5 _ _ _ _ (@i5 _ _ _ _ _ _ _ _ _ _ zy zyy (@c4 _ _ _ _ _ (pv 0) (@c5 _) (by rfl)) (by rfl) (by decide) (by rfl) (by rfl))) (@j8 _ _ (2) _ B9.nd rfl (Or.inl rfl) (by trivial)) (@c8 _ _ _ (@j2 _ _ (1) _ _ _ _ B9.nd rfl (Or.inl rfl) (@l8 _ _ _ _ _ _ _ _ E9 (@l8 _ _ _ _ _ _ _ _ E9 (@l8 _ _ _ _ _ _ _ _ E9 (pv 1) (@o4 _ _ _ _)) (@P0 _ _ _ _ _ _ _ (@o4 _ _ _ _) (@c4 _ _ _ _ _ (@O7 _ _ _ _ _ _ _ _ _ _ _ (["thing"]) (1) ([]) rfl .of (@o5 _ _ _ _ (pv 2)) (fun _ _ _ _ _=>@j8 _ _ (0) _ R1 rfl (Or.inl rfl) (by trivial)) (fun _ _ _ _ _=>(@C6 _)) (fun _ _ _ _ _=>(@T9 _ _ _ _ _ B.str (@c4 _ _ _ _ _ (pv 0) (@c5 _) (by rfl)) (by rfl) (by rfl))) (by intro _;rfl)) (@c5 _) (by rfl)) (by rfl) (by rfl) (by rfl) (by rfl) (by rfl))) (@o4 _ _ _ _)) (by rfl) (by trivial))) (by intro _;rfl)) (@c8 _ _ _ (@j5 _ _ _ _ (@A3 _ _ _ _ _ _ _ o6 (@x8 _ _ _ _ (@c4 _ _ _ _ _ (pv 1) (@c4 _ _ _ _ _ (@o4 _ _ _ _) (@c5 _) (by rfl)) (by rfl))) (@be9 _ _ _ _ _ B.int (@c4 _ _ _ _ _ (@Y7 _ _ _ _ _ _ _ _ W8 (pv 1) (@o4 _ _ _ _) (m7 _)) (@c5 _) (by rfl)) (by rfl) (by rfl)) (fun _ _=>rfl))))),?_⟩;refine ⟨_,rfl,a,p,rfl,tp,fun l as rs H1 hl s1 h1l rows up _ _ _=> ?_⟩;obtain ⟨f1,f2⟩:=A1 tp.2.1 tp.2.2 up
   have l1:(Str.ofString "(").length=1:=by decide+kernel
   have l2:(Str.ofString ")").length=1:=by decide+kernel
   refine ⟨l,rfl,⟨_,g8.of h1l⟩,y8 (K:=K) (a:=l) (xs:=as.map V.ref) (fun i σ H2=>∃v:Option V,σ=[some (.ref a),some (.str (l7 (rs.take i))),v]/\e8 H1 H2) ⟨none,rfl,e8.refl H1⟩ (fun i σ H2 _ zz=>by obtain ⟨_,_,s⟩:=zz;exact g8.of (s _ _ h1l)) ?_ ?_⟩
   · rintro i x σ H2 hi ⟨v,rfl,s2⟩;rw[bt2] at hi
     cases hB:as[i]? with
     |none=>rw[hB] at hi;cases hi
     |some b=>
      rw[hB] at hi;cases hi
      have hil:i < rs.length:=by rw[<-rows.1];exact (bs3.mp hB).1
      have hr':=bs2 hil;have hb:=s2 _ _ (rows.2 i b _ hB hr');obtain ⟨r1,r2,r3⟩:=f2 rs[i] (bv4 hil);obtain ⟨r,er⟩:∃r,r=rs[i]:=⟨_,rfl⟩;rw[<-er] at hb r1 r2 r3 hr'
      have tl:=R0 (rs:=rs.take i) fun y hy=>f2 y (by4 hy)
      rw[bt6] at tl;have rl:=E3 r2 r3;refine ⟨_,rfl,_,_,rfl,rfl,(by rw[l1,sizeLine_eq];omega),rfl,?_⟩;refine ⟨_,rfl,b,rfl,⟨_,g8.of hb⟩,C9 (K:=K) (a:=b) (xs:=r.map V.int) (fun i ys σ H3=>∃v:Option V,σ=[v]/\H3=H2/\ys=((r.take i).map i9).map V.str) ⟨none,rfl,rfl,rfl⟩ (fun i ys σ H3 _ zz=>by obtain ⟨_,_,e,_⟩:=zz;rw[e];exact g8.of hb) ?_ ?_⟩
      · rintro i x ys σ H3 hi ⟨v,rfl,rfl,rfl⟩;obtain ⟨z,hz,rfl⟩:=y9 hi;have zb:=r3 z (bs8 hz);refine ⟨_,rfl,z,rfl,ae9 (by decide) zb.1 zb.2,l6 (by simp only[bs1,bt6];omega),_,rfl,rfl,?_⟩;rw[j6 hz,bt3,bt3];rfl
      · rintro ys σ H3 ⟨v,rfl,rfl,rfl⟩ D hD;rw[bs1,bu6];refine ⟨Str.ofString " ",D,r.map i9,rfl,rfl,g8.of c9,N0 (B:=2) (fun y hy=> ?_) ?_,?_⟩
        · obtain ⟨i,hi,rfl⟩:=bu5.mp hy;exact (J5 (r3 i hi).1 (r3 i hi).2).1
        · have sl:(Str.ofString " ").length=1:=by decide+kernel
          rw[bs1,sl];omega
        · have rl':(Txt.join (Str.ofString " ") (r.map i9)).length<=120:=rl;refine ⟨_,_,rfl,rfl,(by rw[Str.length_append,l1,sizeLine_eq];omega),_,_,rfl,rfl,(by rw[Str.length_append,Str.length_append,l1,l2,sizeLine_eq];omega),?_⟩;refine ⟨some (.ref b),?_,s2.trans (e8.upd_new hD)⟩;rw[j6 hr',U6];rfl
   · rintro σ H2 ⟨v,rfl,s2⟩;rw[bs1,rows.1,bu6]
     have et:q4 p=Str.ofString "("++Txt.join (Str.ofString ")(") (rs.map h7)++Str.ofString ")":=by unfold q4;rw[<-up.eq]
     refine ⟨_,rfl,(show 2<=sizeLine by decide),fun w hw=> ?_⟩;refine ⟨_,rfl,rfl,_,rfl,w,_,_,.str (q4 p),rfl,rfl,g8.of c9,?_,q _ ((s1.trans s2).trans (e8.upd_new hw))⟩
     cases rs with
     |nil=>
      rw[et];show M9 [V.str (Str.ofString ""),V.str (Str.ofString "()")] (if decide (V.str (Str.ofString "")=V.str (Str.ofString ""))=true then 1 else 0)=_;rw[decide_eq_true rfl,if_pos rfl];exact o9 (j:=1) (by decide+kernel)
     |cons r0 rr=>
      rw[et,<-T3]
      have nn:¬V.str (l7 (r0::rr))=V.str (Str.ofString ""):=fun z=>by
        have:=congrArg Str.length (V.str.inj z)
        have e:(l7 (r0::rr)).length=1+(h7 r0).length+1+(l7 rr).length:=by
          show (Str.ofString "("++h7 r0++Str.ofString ")"++l7 rr).length=_;rw[Str.length_append,Str.length_append,Str.length_append,l1,l2]
        rw[e,show (Str.ofString "").length=0 by decide+kernel] at this;omega
      rw[decide_eq_false nn,if_neg (by decide)];exact o9 (j:=0) rfl
end
end My
namespace L2
open PySem PySem.Spec PyProof.Rows PySem.Builtin PySem.Builtin.Str
def R3 (x y z:Str):Str:=if (occurrences x y 0 x.length 1).isEmpty=true then x else glued z (partsBetween x (occurrences x y 0 x.length 1) y.length)
theorem bg0 {a:Addr}{K:PySem.W.Frag}{h:Heap}{m:Str->Option Value}{x:Str}(X:K.In h)(G:h.Ns a m)(e:PySem.W.nsIn K a x=some none):m x=none:=by
 obtain ⟨ob,es,ep,h1,h2,h3,h4⟩:=G;unfold PySem.W.nsIn at e
 cases q:K.lookup a with
 |none=>rw[q] at e;cases e
 |some o=>
  have z:=X _ _ q;rw[h1] at z;cases z;rw[q] at e;obtain ⟨c,d,dt,sl⟩:=ob;cases (show dt=_ from h2)
  dsimp only at e
  cases y:es.toList.find? (·.key.isStr x) with
  |some w=>rw[y] at e;cases e
  |none=>rw[<-h4];unfold nsFind findBy;rw[<-Array.find?_toList,y];rfl
theorem bn8 {h:Heap}{K:PySem.W.Frag}(X:K.In h)(L:h.NoLimit)(nb:PySem.W.nsIn K cStatics sharingNotToldKey=some none):NoneBooked h:=by
 obtain ⟨mc,a,r⟩:=L;exact ⟨mc,a,bg0 X a nb⟩
theorem al6 (x y z:Str)(t u v k:Tok)(h0:(u==0||v==0)=false)(huv:(u==v)=false)(hy:(y.length==0)=false)(hl:tooLong (x.length+(occurrences x y 0 x.length 1).length*z.length)=false):
   GivesAt (fun s=>NoneBooked s.heap) («str.replace» ⟨[.str x t,.str y u,.str z v,.int 1 k],[]⟩)
     (if (occurrences x y 0 x.length 1).isEmpty=true then .val (.str x t)
      else if (y==z)=true then .either (.val (.str x t)) (.str (glued z (partsBetween x (occurrences x y 0 x.length 1) y.length)))
      else .str (glued z (partsBetween x (occurrences x y 0 x.length 1) y.length))):=by
 show GivesAt _ (if ((occurrences x y 0 x.length 1).isEmpty||(y.length==0&&z.length==0))=true then (do rule "str.replace.nothing";ret (.str x t)) else
         (do let same <-isSame (.str y u) (.str z v)
             if same=true then (do rule "str.replace.old-is-new";ret (.str x t)) else
             if tooLong (x.length+(occurrences x y 0 x.length 1).length*z.length)=true then unsupported "str.replace:memory" else
             retStr (glued z (partsBetween x (occurrences x y 0 x.length 1) y.length)))) _
 rw[hy,cd8,Bool.or_false];cases hc:(occurrences x y 0 x.length 1).isEmpty
 · cases hyz:(y==z)
   · rw[isSame_str_other y z u v h0 huv hyz,hl];exact Gives.at (.of_eq rfl)
   · intro prog w A R s hb hq;show wpAny _ _ (isSame (.str y u) (.str z v) >>=_) _ _ _;refine wpAny_bind (wpAny_isSame_str h0 hb fun b=> ?_);cases b
     · show wpAny _ _ (if tooLong (x.length+(occurrences x y 0 x.length 1).length*z.length)=true then _
                        else retStr (glued z (partsBetween x (occurrences x y 0 x.length 1) y.length))) _ _ _
       rw[hl];exact wpAny_bind (wpAny_mkStr (wpAny_pure hq.2.2) hq.2.1)
     · exact wpAny_bind (wpAny_rule (wpAny_pure hq.1))
 · exact Gives.at (.rule (.of_eq rfl))
section
variable {X:Cx} {a b c d e f o:Expr} {ta tb tc td te tf to:TE} {p1 p2 p3 p4 apos pos:Pos}
def ap9 (ta tb tc:TE):TE:=fun σ H Q=>ta σ H fun x H1=>tb σ H1 fun y H2=>∃i j,x= .str i/\y= .str j/\0 < i.length/\0 < j.length/\i.length+j.length<=sizeLine/\tc σ H2 fun z H3=>∃k,z= .str k/\0 < k.length/\i.length+j.length+k.length<=sizeLine/\Q (.str (i++j++k)) H3
theorem an5 {prog:Program}{w:World}{A:Around}{E:Value->Shared->Prop}{s:Shared}{x y:Str}{t u:Tok}{Q:Value->Shared->Prop}(hx:0 < x.length)(hy:0 < y.length)(hz:x.length+y.length<=sizeLine)(h:Q (.str (x++y) s.toks) {s with toks:=s.toks+1}):wpAny (model prog w) A (binaryOp .Add (.str x t) (.str y u)) Q E s:=by
 refine P.add_str ?_;rw[if_neg (by simp;omega),if_neg (by simp;omega)];exact ⟨by rw[Str.length_append];exact hz,h⟩
theorem bb1 {α:Type}{t:Sem α}{Q Q':α->Shared->Prop}{M:Model}{A:Around}{E:Value->Shared->Prop}{s:Shared}(h:wpAny M A t Q E s)(hQ:∀a s',s.toks<=s'.toks->Q a s'->Q' a s'):wpAny M A t Q' E s:=wpAny_mono (wpAny_toks h) (fun _ _ x=>hQ _ _ x.1 x.2) fun _ _ x=>x.2
theorem an6 (ha:PE X a ta)(hb:PE X b tb)(hc:PE X c tc){pins:List (Addr×Obj)}{s:Shared}{σ:St}{H:Hp}{Q:VK}(I:c7 X pins σ H s)(h:ap9 ta tb tc σ H Q):
   wpAny (model X.prog X.w) X.A (eval (.BinOp (.BinOp a .Add b p1) .Add c p2) X.env) (fun v s'=>∃y u H',v= .str y u/\1<=u/\s.toks<=u/\u < s'.toks/\c7 X pins σ H' s'/\Q (.str y) H') X.xe s:=by
 refine wpAny_BinOp (wpAny_BinOp ?_)
 refine bb1 (ha pins s σ H _ I h) fun v1 s1 k1 ⟨x,H1,I1,r1,q1⟩=> ?_
 refine bb1 (hb pins s1 σ H1 _ I1 q1) fun v2 s2 k2 ⟨y,H2,I2,r2,i,j,ex,ey,i0,j0,z2,q2⟩=> ?_
 subst ex ey;obtain ⟨t1,rfl⟩:=r1;obtain ⟨t2,rfl⟩:=r2;refine an5 i0 j0 z2 ?_
 refine bb1 (hc pins _ σ H2 _ (I2.tok _) q2) fun v3 s3 k3 ⟨z,H3,I3,r3,k,ez,k0,z3,q3⟩=> ?_
 subst ez;obtain ⟨t3,rfl⟩:=r3;have k3:s2.toks+1<=s3.toks:=k3;refine an5 (by rw[Str.length_append];omega) k0 (by rw[Str.length_append];exact z3) ⟨_,_,H3,rfl,?_,?_,?_,I3.tok _,q3⟩
 · show (1:Nat)<=s3.toks;omega
 · show s.toks<=s3.toks;omega
 · exact Nat.lt_succ_self _
def bn9 (to ty tz:TE):TE:=fun σ H Q=>to σ H fun x H1=>(∃i,x= .str i)/\ty σ H1 fun y H2=>tz σ H2 fun z H3=>∃i j k,x= .str i/\y= .str j/\z= .str k/\0 < j.length/\i.length+k.length<=16777216/\(R3 i j k).length<=sizeLine/\Q (.str (R3 i j k)) H3
theorem bg1 {i0:Nat}{ip:Pos}(NB:PySem.W.nsIn X.K cStatics sharingNotToldKey=some none)(ho:PE X o to)(ha:PE X a ta)(hb:PE X b tb)(hc:PE X c tc)(hd:PE X d td)(he:PE X e te)(hf:PE X f tf)
   (hbase:attributeBase o "replace" X.env (eval o X.env)=eval o X.env:=by rfl)
   (hfew:((backTo pos (starEach [.BinOp (.BinOp a .Add b p1) .Add c p2,.BinOp (.BinOp d .Add e p3) .Add f p4,.Constant (.int 1) i0 ip] X.env)).all (fun x=> !x.1)&&(backToKw pos (keywordEach [] X.env)).all (fun x=>x.1.isSome)
     &&decide ([Expr.BinOp (.BinOp a .Add b p1) .Add c p2,.BinOp (.BinOp d .Add e p3) .Add f p4,.Constant (.int 1) i0 ip].length+([]:List Keyword).length+(if ([]:List Keyword).isEmpty then 0 else 1) < 30))=true:=by rfl)
   (hline:(apos.endLine==pos.line)=true:=by rfl) (hs:starEach [.BinOp (.BinOp a .Add b p1) .Add c p2,.BinOp (.BinOp d .Add e p3) .Add f p4,.Constant (.int 1) i0 ip] X.env=[(false,eval (.BinOp (.BinOp a .Add b p1) .Add c p2) X.env),(false,eval (.BinOp (.BinOp d .Add e p3) .Add f p4) X.env),(false,eval (.Constant (.int 1) i0 ip) X.env)]:=by rfl):
   PE X (.Call (.Attribute o "replace" apos) [.BinOp (.BinOp a .Add b p1) .Add c p2,.BinOp (.BinOp d .Add e p3) .Add f p4,.Constant (.int 1) i0 ip] [] pos) (bn9 to (ap9 ta tb tc) (ap9 td te tf)):=by
 intro pins s σ H Q I h;refine wpAny_Call_method_late hbase hfew hline rfl (j3 (ho pins s σ H _ I h) fun v s1 ⟨x,H1,I1,r1,ex,q1⟩=> ?_);obtain ⟨x0,rfl⟩:=ex;obtain ⟨t0,rfl⟩:=r1;refine ⟨"str","str.replace",PySem.F.plainAttrs_str,PySem.F.slot_str_replace,PySem.F.type_str_replace,typeIs_str s1 x0 t0,(fun _ e=>nomatch e),?_⟩;rw[hs];refine Calls.callWith_builtin (by rfl) (Calls.evalArgs_plain ?_);refine Calls.spliced_cons (j3 (an6 ha hb hc I1 q1) fun v2 s2 ⟨y,u,H2,e2,u1,u2,u3,I2,q2⟩=> ?_);subst e2;show wpAny _ _ (spliced ((false,eval (.BinOp (.BinOp d .Add e p3) .Add f p4) X.env)::backTo pos [(false,eval (.Constant (.int 1) i0 ip) X.env)])) _ _ _;refine Calls.spliced_cons (j3 (an6 hd he hf I2 q2) fun v3 s3 ⟨z,v,H3,e3,v1,v2,v3,I3,i,j,k,ei,ej,ek,j0,hz,hz2,q3⟩=> ?_);subst e3;cases ei;cases ej;cases ek;show wpAny _ _ (spliced ((false,eval (.Constant (.int 1) i0 ip) X.env)::backTo pos [])) _ _ _;refine Calls.spliced_cons (wpAny_Constant_int ?_);refine Calls.spliced_nil ?_;have I4:=I3.tok (s3.toks+1)
 have u0:(u==0||v==0)=false:=by
   have a1:(1:Nat)<=u:=u1;have a2:(1:Nat)<=v:=v1;rw[Bool.or_eq_false_iff];exact ⟨beq_eq_false_iff_ne.mpr fun z=>by rw[z] at a1;exact absurd a1 (by decide),beq_eq_false_iff_ne.mpr fun z=>by rw[z] at a2;exact absurd a2 (by decide)⟩
 have uv:(u==v)=false:=beq_eq_false_iff_ne.mpr fun z=>by
   have a1:s2.toks<=v:=v2;have a2:u < s2.toks:=u3;rw[z] at a2;exact absurd a2 (Nat.not_lt.mpr a1)
 have hl:tooLong (x0.length+(occurrences x0 y 0 x0.length 1).length*z.length)=false:=by
   have h1:=StrLaws.occ_length_le x0 y 0 x0.length 1;have h2:(occurrences x0 y 0 x0.length 1).length*z.length<=1*z.length:=Nat.mul_le_mul_right _ h1;unfold tooLong;rw[sizeLine_eq];exact decide_eq_false (by omega)
 refine call_givesAt F.slot_str_replace (typeIs_str _ _ _) F.entry_str_replace (F.args_str_replace_4 _ _ _ _) (al6 x0 y z t0 u v _ u0 uv (beq_eq_false_iff_ne.mpr (by omega)) hl) (bn8 I4.kIn I4.nolimit NB) ?_;unfold R3 at hz2 q3;cases hc:(occurrences x0 y 0 x0.length 1).isEmpty
 · rw[hc,if_neg bt0] at hz2 q3;rw[if_neg bt0];have fin:(Made.str (glued z (partsBetween x0 (occurrences x0 y 0 x0.length 1) y.length))).post (EP X pins σ Q) {s3 with toks:=s3.toks+1}:=⟨hz2,.str _,H3,I4.tok _,⟨_,rfl⟩,q3⟩
   split
   · rename_i hyz;have ez:y=z:=eq_of_beq hyz;refine ⟨?_,fin⟩;subst ez;rw[StrLaws.glued_between_self] at q3;exact ⟨.str x0,H3,I4,⟨_,rfl⟩,q3⟩
   · exact fin
 · rw[hc,if_pos rfl] at q3;rw[if_pos rfl];exact ⟨.str x0,H3,I4,⟨_,rfl⟩,q3⟩
theorem aq0 {its:List Value}:slicePick its.toArray none (some 0) (some (-1))=((its.drop 1).reverse).toArray:=by
 unfold slicePick
 have hb:sliceBounds none (some 0) (some (-1)) its.toArray.size=((its.length:Int) - 1,(if its.length=0 then -1 else 0),-1):=by
   simp only[sliceBounds,Option.getD_some,bs5];rw[if_neg (by decide),if_neg (by decide),if_neg (by decide)]
   congr 2
   split<;>omega
 rw[hb]
 congr 1
 have hr:sliceRange ((its.length:Int) - 1) (if its.length=0 then -1 else 0) (-1)=(bx5 (its.length - 1)).map fun i=>its.length - 1 - i:=by
   unfold sliceRange
   have hc:(if (-1:Int) > 0 then (if (its.length:Int) - 1 < (if its.length=0 then -1 else 0) then ((if its.length=0 then -1 else 0) - ((its.length:Int) - 1)+(-1) - 1)/(-1) else 0) else (if (its.length:Int) - 1 > (if its.length=0 then -1 else 0) then ((its.length:Int) - 1 - (if its.length=0 then -1 else 0) - (-1) - 1)/(- -1) else 0)).toNat=its.length - 1:=by
     rw[if_neg (by decide)]
     by_cases z:its.length=0
     · rw[if_pos z,z];rfl
     · rw[if_neg z]
       split
       · rw[show ((its.length:Int) - 1 - 0 - (-1) - 1)=((its.length - 1:Nat):Int) by omega,show (- -1:Int)=1 by rfl,Int.ediv_one,bv8]
       · show (0:Int).toNat=_;omega
   simp only[hc]
   refine by6 fun i hi=> ?_
   have:=bw6.mp hi;omega
 rw[hr]
 have e1:∀l:List Nat,(∀i∈l,i < its.length)->(l.filterMap fun i=>its.toArray[i]?)=l.map fun i=>its.getD i .none:=fun l=>by
   induction l with
   |nil=>intro _;rfl
   |cons i l ih=>
    intro h;have hi:=h i bs4;rw[List.filterMap_cons_some (show its.toArray[i]? =some (its.getD i .none) by rw[List.getElem?_toArray,bu4,bs2 hi];rfl),ih fun j hj=>h j (bs7 _ hj),bt9]
 rw[e1 _ (fun i hi=>by
   obtain ⟨j,hj,rfl⟩:=bu5.mp hi;have:=bw6.mp hj
   omega),by8]
 refine cc7 (by simp) fun i h1 h2=> ?_
 have hl:i < its.length - 1:=by simpa using h1
 rw[List.getElem_map,List.getElem_range,List.getElem_reverse,List.getElem_drop];show its.getD (its.length - 1 - i) .none=_;rw[bu4,bs2 (by omega)];show its[its.length - 1 - i]=_
 congr 1
 rw[bv2];omega
theorem aw4 {xs:List V}{its:List Value}(r:h8 xs its):h8 ((xs.drop 1).reverse) ((its.drop 1).reverse):=by
 cases r with
 |nil=>exact .nil
 |cons h1 h2=>exact h8.reverse h2
def bk7 (K:PySem.W.Frag)(te:TE)(th ts:TO):TE:=fun σ H Q=>te σ H fun x H1=>th σ H1 fun l H2=>ts σ H2 fun o H3=>∃(a:Addr) (xs:List V),l=some 0/\o=some (-1)/\x= .ref a/\g8 K H3 a xs/\∀p,H3 p=none->Q (.ref p) (g9 H3 p (.lst ((xs.drop 1).reverse)))
theorem bb2 {e hi st:Expr}{te:TE}{th ts:TO}{p2 pos:Pos}(he:PE X e te)(hh:PO X (some hi) th)(hst:PO X (some st) ts):PE X (.Subscript e (.Slice none (some hi) (some st) p2) pos) (bk7 X.K te th ts):=by
 intro pins s σ H Q I h;refine Subscript_ (j3 (he pins s σ H _ I h) fun v s1 ⟨x,H1,I1,r1,q1⟩=> ?_);refine wpAny_Slice ?_;rw[evalPart_none];refine wpAny_pure ?_
 refine j3 (hh pins s1 σ H1 _ I1 q1) fun vl s2 ⟨l,H2,I2,pl,q2⟩=> ?_
 refine j3 (hst pins s2 σ H2 _ I2 q2) fun vk s3 ⟨o,H3,I3,pk,a,xs,el,eo,ex,hx,q⟩=> ?_
 subst el eo ex;cases r1
 have I4:c7 X pins σ H3 {s3 with heap:=s3.heap.push {cls:= .type "slice",data:= .fields #[.none,vl,vk]}}:=I3.kept (t':=s3.toks) fun b ob q=>Heap.get?_push_of_some _ q
 obtain ⟨its,r,ht,hz⟩:=I4.list hx;have hlen:=r.length;show wpAny (model X.prog X.w) X.A (subscriptTail e (.Slice none (some hi) (some st) p2) (.ref a) (.ref s3.heap.objs.size)) (EP X pins σ Q) X.xe {s3 with heap:=s3.heap.push {cls:= .type "slice",data:= .fields #[.none,vl,vk]}};refine tail_any (ops:=[.ref a,.ref s3.heap.objs.size]) (T:="list") ht.isList.typeIs slot_list_getitem.lookup ?_ rfl;refine wpAny_getItem_list_slice ht.isList (Heap.IsSliceOf.new ..) .none pl pk (by decide) ?_ (by rw[bs5]<;>omega);rw[aq0]
 have I5:=I4.laid (t':=s3.toks) (o:= .lst ((xs.drop 1).reverse)) (h':=(s3.heap.push {cls:= .type "slice",data:= .fields #[.none,vl,vk]}).push {cls:= .type "list",data:= .seq ((its.drop 1).reverse).toArray}) (a:=(s3.heap.push {cls:= .type "slice",data:= .fields #[.none,vl,vk]}).objs.size)
   (fun b ob q=>Heap.get?_push_of_some _ q) (bs9 _) ⟨by rw[by0,bv2];omega,_,0,aw4 r,Heap.get?_push_size _ rfl⟩
 exact ⟨.ref _,_,I5,rfl,q _ (I4.hok.fresh (bs9 _))⟩
end
end L2
namespace L2
open PySem PySem.Builtin PySem.Builtin.Str PySem.StrLaws
theorem W4 (s sub:Str)(hi limit:Nat):∀(l:List Nat) (st:Array Nat×Nat) (m:List Nat),(∀i∈l,¬(st.1.size < limit/\mS s sub hi i=true))->forIn (l++m) st (occBody s sub hi limit)=forIn m st (occBody s sub hi limit)
 |[],st,m,_=>rfl
 |i::l,st,m,h=>by
  rw[bz7,cb2]
  have c:¬(((st.fst.size < limit/\st.snd<=i)/\i+sub.length<=hi)/\subAt s sub i=true):=fun z=>h i bs4 ⟨z.1.1.1,by
    unfold mS;rw[bx6]
    exact ⟨decide_eq_true z.1.2,z.2⟩⟩
  have e:occBody s sub hi limit i st=pure (ForInStep.yield (st.fst,st.snd)):=if_neg c;rw[e];show forIn (l++m) (st.fst,st.snd) (occBody s sub hi limit)=_
  exact W4 s sub hi limit l st m fun j hj=>h j (bs7 _ hj)
theorem aw5 {s sub:Str}{k:Nat}(hk:mS s sub s.length k=true)(no:∀i,i < k->mS s sub s.length i=false):occurrences s sub 0 s.length 1=[k]:=by
 have kl:k+sub.length<=s.length:=by
   unfold mS at hk;rw[bx6] at hk;exact of_decide_eq_true hk.1
 rw[occ_eq];show (forIn (bu7 0 (s.length+1 - 0)) ((#[]:Array Nat),0) (occBody s sub s.length 1)).run.fst.toList=_
 have spl:bu7 0 (s.length+1 - 0)=bu7 0 k++(k::bu7 (k+1) (s.length - k)):=by
   have:k::bu7 (k+1) (s.length - k)=bu7 k (s.length - k+1):=by rw[List.range'_succ]
   rw[this,show bu7 k (s.length - k+1)=bu7 (0+k) (s.length - k+1) by rw[cb3],bz4]
   congr 1
   omega
 rw[spl,W4 s sub s.length 1 _ _ _ (fun i hi z=>by
   have:=List.mem_range'_1.mp hi;rw[no i (by omega)] at z
   exact absurd z.2 (by decide)),cb2]
 have z:=hk;unfold mS at z;rw[bx6] at z;have c:((((#[]:Array Nat),0):Array Nat×Nat).fst.size < 1/\(((#[]:Array Nat),0):Array Nat×Nat).snd<=k)/\k+sub.length<=s.length:=⟨⟨by simp,bu9 _⟩,kl⟩;have e:occBody s sub s.length 1 k (#[],0)=pure (ForInStep.yield (#[k],k+sub.length)):=if_pos ⟨c,z.2⟩;rw[e];show (forIn (bu7 (k+1) (s.length - k)) ((#[k]:Array Nat),k+sub.length) (occBody s sub s.length 1)).run.fst.toList=_;have:=W4 s sub s.length 1 (bu7 (k+1) (s.length - k)) (#[k],k+sub.length) [] (fun i _ z=>absurd z.1 (by simp));rw[bw0] at this;rw[this];rfl
theorem r6 (a b:Str):(a++b).cps.toList=a.cps.toList++b.cps.toList:=by rw[Str.cps_append,Array.toList_append]
theorem B1 (a:Str):a.cps.toList.length=a.length:=rfl
theorem bb3 {a y z b:Str}(no:∀i,i < a.length->Mth.mL (a++y++b).cps.toList y.cps.toList i=false):R3 (a++y++b) y z=a++z++b:=by
 have l:(a++y++b).length=a.length+y.length+b.length:=by rw[Str.length_append,Str.length_append]
 have here:mS (a++y++b) y (a++y++b).length a.length=true:=by
   unfold mS;rw[subAt_eq,r6,r6,bt4,<-B1 a,cb8,<-B1 y,ca5,beq_self_eq_true,Bool.and_true,B1,B1];exact decide_eq_true (by omega)
 have oc:occurrences (a++y++b) y 0 (a++y++b).length 1=[a.length]:=aw5 here fun i hi=>by
   unfold mS;have:=no i hi;unfold Mth.mL at this;rw[subAt_eq,<-B1 y,this,Bool.and_false]
 unfold R3;rw[oc,if_neg (fun z=>by cases z)];refine t7 ?_;rw[glued_eq_join];have pb:partsBetween (a++y++b) [a.length] y.length=[strSub (a++y++b) 0 a.length,strSub (a++y++b) (a.length+y.length) (a++y++b).length]:=rfl;have p1:strSub (a++y++b) 0 a.length=a:=t7 (by rw[strSub_toList,r6,r6,cb9,Nat.sub_zero,bt4,<-B1 a,ca5])
 have p2:strSub (a++y++b) (a.length+y.length) (a++y++b).length=b:=t7 (by
   rw[strSub_toList,r6,r6,l,show a.length+y.length=(a.cps.toList++y.cps.toList).length by rw[bs6];rfl,cb8];refine ca6 ?_;rw[B1,bs6,B1,B1]
   omega)
 rw[pb,p1,p2];rfl
end L2
namespace Mth
def w6 (m:List Nat):List Nat:=40::m++[41]
theorem aa6:∀{k m R S:List Nat},41∉k->41∉m->k++41::R=m++41::S->k=m
 |[],[],_,_,_,_,_=>rfl
 |[],y::m,R,S,_,hm,e=>by
  injection e with e1 _
  exact absurd (e1▸bs4) hm
 |x::k,[],R,S,hk,_,e=>by
  injection e with e1 _
  exact absurd (e1▸bs4) hk
 |x::k,y::m,R,S,hk,hm,e=>by
  injection e with e1 e2
  rw[e1,aa6 (fun z=>hk (bs7 _ z)) (fun z=>hm (bs7 _ z)) e2]
theorem aj8 {m:List Nat}(m1:41∉m):∀(ms:List (List Nat)) (tail:List Nat),(∀k∈ms,40∉k/\41∉k/\k≠m)->∀i,i < (ms.map w6).flatten.length->mL ((ms.map w6).flatten++tail) (w6 m) i=false
 |[],tail,_,i,h=>by simp at h
 |k::ms,tail,hk,i,h=>by
  obtain ⟨k0,k1,kn⟩:=hk k bs4;rw[bt9,bu3,bt4]
  by_cases hi:i < (w6 k).length
  · cases q:mL (w6 k++((ms.map w6).flatten++tail)) (w6 m) i with
    |false=>rfl
    |true=>
     exfalso;have f:=ai3 (show mL (w6 k++((ms.map w6).flatten++tail)) (40::(m++[41])) i=true from q)
     cases i with
     |zero=>
      have e:=eq_of_beq q;rw[cb9] at e;have e2:=congrArg (· ++(w6 k++((ms.map w6).flatten++tail)).drop (w6 m).length) e;rw[bx2] at e2;unfold w6 at e2;simp only[bz7,bt4,List.singleton_append] at e2
      injection e2 with _ e3
      exact kn (aa6 k1 m1 e3)
     |succ i=>
      rw[bv0 hi] at f;have f:(k++[41])[i]? =some 40:=f
      rcases bt5.mp (bs8 f) with z|z
      · exact k0 z
      · exact absurd (bx3.mp z) (by decide)
  · have h':i - (w6 k).length < (ms.map w6).flatten.length:=by
      rw[bt9,bu3,bs6] at h;omega
    have:=aj8 m1 ms tail (fun q hq=>hk q (bs7 _ hq)) (i - (w6 k).length) h';unfold mL at this ⊢;rw[List.drop_append,List.drop_of_length_le (by omega),cd4];exact this
end Mth
namespace My
open PySem L2 Mth
section
variable {P:Program} {w:World} {K:PySem.W.Frag} {mg:Str->Option Value} {base:Heap}
theorem ac8 {r s:List Int}(nr:r≠[])(ns:s≠[])(br:∀x∈r,0<=x/\x < 40)(bs:∀x∈s,0<=x/\x < 40)(h:h7 r=h7 s):r=s:=by
 have sp:∀{r:List Int},r≠[]->(∀x∈r,0<=x/\x < 40)->Txt.split (h7 r) " "=r.map i9:=fun {r} ne br=>
   (Q2 (sep:=" ") (c0:=32) (rest:=[]) (by decide+kernel) (by simp) (fun t ht=>by
     obtain ⟨x,hx,rfl⟩:=bu5.mp ht
     exact (J5 (br x hx).1 (br x hx).2).2.2.1) (by simpa using ne) (by decide+kernel)).1
 have e:=sp nr br;rw[h,sp ns bs] at e
 have key:∀{a b:List Int},(∀x∈a,0<=x/\x < 40)->(∀x∈b,0<=x/\x < 40)->b.map i9=a.map i9->a=b:=by
   intro a
   induction a with
   |nil=>
    intro b _ _ e
    cases b with
    |nil=>rfl
    |cons y b=>cases e
   |cons x a ih=>
    intro b ha hb e
    cases b with
    |nil=>cases e
    |cons y b=>
     rw[bt9,bt9] at e
     injection e with e1 e2
     have hx:=ha x bs4;have hy:=hb y bs4;rw[an4 hx.1 hx.2 hy.1 hy.2 e1.symm,ih (fun z hz=>ha z (bs7 _ hz)) (fun z hz=>hb z (bs7 _ hz)) e2]
 exact key br bs e
theorem t5:∀rs:List (List Int),(l7 rs).cps.toList=((rs.map fun r=>(h7 r).cps.toList).map w6).flatten
 |[]=>by show (Str.ofString "").cps.toList=_;decide+kernel
 |r::rs=>by
  show (Str.ofString "("++h7 r++Str.ofString ")"++l7 rs).cps.toList=_;rw[r6,r6,r6,t5 rs,bt9,bt9,bu3];rfl
theorem aq1 (a b:List (List Int)):l7 (a++b)=l7 a++l7 b:=by
 refine t7 ?_;rw[r6,t5,t5,t5,bt3,bt3,bv1]
def Rw (r:List Int):Prop:=r≠[]/\∀x∈r,0<=x/\x < 40
theorem aw6 {A B:List (List Int)}{r z:List Int}(hA:∀k∈A,Rw k/\k≠r)(hr:Rw r):R3 (l7 (A++r::B)) (Str.ofString "("++h7 r++Str.ofString ")") (Str.ofString "("++h7 z++Str.ofString ")")=l7 (A++z::B):=by
 have e:∀r:List Int,l7 (A++r::B)=l7 A++(Str.ofString "("++h7 r++Str.ofString ")")++l7 B:=fun r=>by
   rw[aq1,Str.append_assoc];rfl
 rw[e r,e z]
 refine bb3 fun i hi=> ?_
 have er:(Str.ofString "("++h7 r++Str.ofString ")").cps.toList=w6 (h7 r).cps.toList:=by
   rw[r6,r6];rfl
 rw[r6,r6,er,t5 A,bt4];refine aj8 (C8 (.inr rfl) hr.2) _ _ (fun k hk=> ?_) i (by rw[<-t5];exact hi);obtain ⟨q,hq,rfl⟩:=bu5.mp hk;obtain ⟨⟨q0,q1⟩,ne⟩:=hA q hq;exact ⟨C8 (.inl rfl) q1,C8 (.inr rfl) q1,fun e=>ne (ac8 q0 hr.1 q1 hr.2 (t7 e))⟩
def w5 (r:List Int):List Int:=r.take 1++(r.drop 1).reverse
theorem aa7 {p b:List Int}(t:m4 p)(h:A4 p (-1) b){x:Int}(hx:Mth.In p x){L:Nat}(pr:v0 p x L){i:Nat}(i1:1<=i)(iL:i<=L):it b i x=it p (L - i) x:=by
 obtain ⟨M,pm,e⟩:=h.2 x hx;have:=pm.uniq pr;subst this;have L0:=pr.pos;rw[S7 ⟨hx.1,by rw[h.1];exact hx.2⟩] at e;have e:=Option.some.inj e
 have em:((-1:Int)%(M:Int)).toNat=M - 1:=by
   have:(-1:Int)%(M:Int)=(M:Int) - 1:=by
     rw[show (-1:Int)=((M:Int) - 1)+(M:Int)*(-1) by omega,Int.add_mul_emod_self_left];exact Int.emod_eq_of_lt (by omega) (by omega)
   rw[this];omega
 rw[em] at e;obtain ⟨j,rfl⟩:∃j,i=j+1:=⟨i - 1,by omega⟩;rw[be7,e]
 have rv:((i4 p x M).reverse)[j]? =(i4 b (it p (M - 1) x) M)[j]? :=by rw[ba2 t h hx pr]
 rw[ca9 (by rw[i7];omega),i7,x9 (by omega),x9 (by omega)] at rv;rw[<-Option.some.inj rv]
 congr 1
 omega
theorem bb4 {p b:List Int}(t:m4 p)(h:A4 p (-1) b){x:Int}(hx:Mth.In p x){L:Nat}(pr:v0 p x L):v0 b x L:=by
 refine ⟨pr.pos,?_,fun i i0 il e=> ?_⟩
 · rw[aa7 t h hx pr pr.pos (bs9 _),Nat.sub_self];rfl
 · rw[aa7 t h hx pr i0 (by omega)] at e;exact pr.least (L - i) (by omega) (by omega) e
theorem aw7 {p b:List Int}(t:m4 p)(h:A4 p (-1) b){x:Int}(hx:Mth.In p x){L:Nat}(pr:v0 p x L):w5 (i4 p x L)=i4 b x L:=by
 have L0:=pr.pos
 refine bx4 fun i=> ?_
 unfold w5
 cases i with
 |zero=>
  rw[bv0 (by rw[bt6,i7];omega),bv3 (by omega),x9 L0,x9 L0];rfl
 |succ i=>
  rw[bu0 (by rw[bt6,i7];omega),bt6,i7,show min 1 L=1 by omega,Nat.add_sub_cancel]
  by_cases hi:i+1 < L
  · rw[ca9 (by rw[bv2,i7];omega),bv2,i7,by9,x9 (by omega),x9 hi,aa7 t h hx pr (by omega) (by omega)]
    congr 2
    omega
  · rw[bt8 (by rw[by0,bv2,i7];omega),bt8 (by rw[i7];omega)]
theorem E4 (r:List Int):(w5 r).Perm r:=by
 unfold w5;have:=(List.reverse_perm (r.drop 1)).append_left (r.take 1);rw[bx2] at this;exact this
theorem ac9 {r:List Int}(ne:r≠[]):(w5 r).getD 0 0=r.getD 0 0:=by
 cases r with
 |nil=>exact absurd rfl ne
 |cons x r=>rfl
theorem aq2 {p b:List Int}(t:m4 p)(h:A4 p (-1) b):i2 b b.length=(i2 p p.length).map w5:=by
 have tb:=Z3 t h;have up:=B0 t;have cn:=V6 t up;refine (ai4 tb (B0 tb) (qs:=(i2 p p.length).map w5) ⟨fun r hr=> ?_,?_⟩ (List.Perm.refl _) (ac5 (fun r hr z=> ?_) ?_)).symm
 · obtain ⟨q,hq,rfl⟩:=bu5.mp hr;obtain ⟨x,L,hx,pr,eq,lo⟩:=cn.ring q hq;refine ⟨x,L,⟨hx.1,by rw[h.1];exact hx.2⟩,bb4 t h hx pr,by rw[eq];exact aw7 t h hx pr,fun y hy=>lo y ((E4 q).mem_iff.mp hy)⟩
 · rw[h.1];refine List.Perm.trans ?_ cn.flat;generalize i2 p p.length=rs
   induction rs with
   |nil=>exact List.Perm.refl _
   |cons r rs ih=>
    rw[bt9,bu3,bu3];exact (E4 r).append ih
 · obtain ⟨q,hq,e⟩:=bu5.mp hr;rw[z] at e;have:=(E4 q).length_eq;rw[e] at this;exact cn.ne q hq (bx1 this.symm)
 · rw[bz2];refine List.Pairwise.imp_of_mem (fun {r s} hr hs lt=> ?_) up.ord;rw[ac9 (cn.ne r hr),ac9 (cn.ne s hs)];exact lt
theorem aj9:∀{ms ns:List (List Nat)},(∀k∈ms,41∉k)->(∀k∈ns,41∉k)->(ms.map w6).flatten=(ns.map w6).flatten->ms=ns
 |[],[],_,_,_=>rfl
 |[],n::ns,_,_,e=>by cases e
 |m::ms,[],_,_,e=>by cases e
 |m::ms,n::ns,hm,hn,e=>by
  rw[bt9,bt9,bu3,bu3] at e;unfold w6 at e;simp only[bz7,bt4,List.singleton_append] at e
  injection e with _ e
  have e1:=aa6 (hm m bs4) (hn n bs4) e;subst e1;have e2:=List.append_cancel_left e
  injection e2 with _ e2
  rw[aj9 (fun k hk=>hm k (bs7 _ hk)) (fun k hk=>hn k (bs7 _ hk)) e2]
theorem ad0:∀{rs ss:List (List Int)},(∀r∈rs,Rw r)->(∀r∈ss,Rw r)->(rs.map fun r=>(h7 r).cps.toList)=(ss.map fun r=>(h7 r).cps.toList)->rs=ss
 |[],[],_,_,_=>rfl
 |[],n::ns,_,_,e=>by cases e
 |m::ms,[],_,_,e=>by cases e
 |m::ms,n::ns,hm,hn,e=>by
  rw[bt9,bt9] at e
  injection e with e1 e2
  have a:=hm m bs4;have b:=hn n bs4;rw[ac8 a.1 b.1 a.2 b.2 (t7 e1),ad0 (fun k hk=>hm k (bs7 _ hk)) (fun k hk=>hn k (bs7 _ hk)) e2]
theorem ad1 {p:List Int}{rs:List (List Int)}(tp:m4 p)(up:n5 p p.length rs){r:List Int}(hr:r∈rs){j:Nat}(hj:j < r.length):o8 p (r.getD j 0)=some (r.getD ((j+1)%r.length) 0):=by
 obtain ⟨y,L,hy,pr,er,_⟩:=up.ring r hr;subst er;rw[i7] at hj ⊢;rw[p9 hj,p9 (cb7 _ pr.pos),S7 (B3 tp hy j)]
 by_cases z:j+1=L
 · rw[z,Nat.mod_self];show some (it p (j+1) y)=some y;rw[z,pr.back]
 · rw[bw5 (by omega)];rfl
theorem aq3 {p q:List Int}(tp:m4 p)(tq:m4 q)(h:i2 p p.length=i2 q q.length):p=q:=by
 have up:=B0 tp;have uq:=B0 tq;have fp:=D1 tp up;have fq:=D1 tq uq
 have hl:p.length=q.length:=by
   have a:=fp.length_eq;have b:=fq.length_eq;rw[p8] at a b;rw[<-a,<-b,h]
 refine bx4 fun i=> ?_
 by_cases hi:i < p.length
 · have hm:((i:Nat):Int)∈(i2 p p.length).flatten:=fp.mem_iff.mpr (t8.mpr ⟨by omega,by omega⟩);obtain ⟨r,hr,hir⟩:=bu8.mp hm;obtain ⟨j,hj⟩:=cb1 hir;have jl:=(bs3.mp hj).1
   have e:r.getD j 0=(i:Int):=by rw[bu4,hj];rfl
   have a:=ad1 tp up hr jl;have b:=ad1 tq uq (h▸hr) jl;rw[e] at a b;unfold o8 at a b;rw[bv8] at a b;rw[a,b]
 · rw[bt8 (by omega),bt8 (by omega)]
theorem J2 {p:List Int}(tp:m4 p)(lp:p.length<=40):∀r∈i2 p p.length,Rw r:=fun r hr=>
 have:=(A1 tp lp (B0 tp)).2 r hr
 ⟨this.1,this.2.2⟩
theorem M3 {p:List Int}(h:i2 p p.length≠[]):q4 p=l7 (i2 p p.length):=by
 unfold q4
 cases e:i2 p p.length with
 |nil=>exact absurd e h
 |cons r rs=>rw[T3]
theorem N2 {p:List Int}(h:i2 p p.length=[]):(q4 p).cps.toList=[40,41]:=by
 unfold q4;rw[h]
 decide+kernel
theorem aw8 {p q:List Int}(tp:m4 p)(tq:m4 q)(lp:p.length<=40)(lq:q.length<=40)(h:q4 p=q4 q):p=q:=by
 have odd:∀{p q:List Int},m4 q->q.length<=40->i2 p p.length=[]->i2 q q.length≠[]->q4 p≠q4 q:=fun {p q} tq lq e n h=>by
   have a:=N2 e;rw[h,M3 n,t5] at a
   cases e2:i2 q q.length with
   |nil=>exact n e2
   |cons r rs=>
    rw[e2,bt9,bt9,bu3] at a;have hr:=J2 tq lq r (by rw[e2];exact bs4);have ps:=N1 hr.1 hr.2;have no:=C8 (c:=41) (.inr rfl) hr.2;unfold w6 at a
    cases e3:(h7 r).cps.toList with
    |nil=>rw[e3] at ps;simp at ps
    |cons c cs=>
     rw[e3] at a no;simp only[bz7] at a
     injection a with _ a
     injection a with a _
     exact no (a▸bs4)
 refine aq3 tp tq ?_
 by_cases e1:i2 p p.length=[]
 · by_cases e2:i2 q q.length=[]
   · rw[e1,e2]
   · exact absurd h (odd tq lq e1 e2)
 · by_cases e2:i2 q q.length=[]
   · exact absurd h.symm (odd tp lp e2 e1)
   · rw[M3 e1,M3 e2] at h;have e:=congrArg (fun z:Str=>z.cps.toList) h;have e:(l7 (i2 p p.length)).cps.toList=(l7 (i2 q q.length)).cps.toList:=e;rw[t5,t5] at e;refine ad0 (J2 tp lp) (J2 tq lq) (aj9 (fun k hk=> ?_) (fun k hk=> ?_) e)
     · obtain ⟨r,hr,rfl⟩:=bu5.mp hk;exact C8 (.inr rfl) (J2 tp lp r hr).2
     · obtain ⟨r,hr,rfl⟩:=bu5.mp hk;exact C8 (.inr rfl) (J2 tq lq r hr).2
noncomputable def G3 (p:List Int)(j:Nat):Str:=if i2 p p.length=[] then q4 p else l7 (((i2 p p.length).take j).map w5++(i2 p p.length).drop j)
theorem aq4 (p:List Int):G3 p 0=q4 p:=by
 unfold G3
 split
 · rfl
 · rename_i h;rw[M3 h];rfl
theorem aq5 {p:List Int}(tp:m4 p)(lp:p.length<=40){j:Nat}{r:List Int}(hr:(i2 p p.length)[j]? =some r):R3 (G3 p j) (Str.ofString "("++h7 r++Str.ofString ")") (Str.ofString "("++h7 (w5 r)++Str.ofString ")")=G3 p (j+1):=by
 have ne:i2 p p.length≠[]:=fun z=>by rw[z] at hr;cases hr
 have rw_:=J2 tp lp;have nf:(i2 p p.length).flatten.Nodup:=(D1 tp (B0 tp)).nodup_iff.mpr (r9 _);unfold G3;rw[if_neg ne,if_neg ne];obtain ⟨jl,ej⟩:=bs3.mp hr;rw[bz8 jl,ej,j6 hr,bt3,bt4];refine aw6 (fun k hk=> ?_) (rw_ r (bs8 hr));obtain ⟨q,hq,rfl⟩:=bu5.mp hk;have hqr:=rw_ q (by4 hq);have pm:=E4 q;refine ⟨⟨fun z=> ?_,fun x hx=>hqr.2 x (pm.mem_iff.mp hx)⟩,fun e=> ?_⟩
 · rw[z] at pm;exact hqr.1 (bx1 pm.length_eq.symm)
 · obtain ⟨i,hi⟩:=cb1 hq
   have il:i < j:=by
     have:=(bs3.mp hi).1;rw[bt6] at this;omega
   rw[bv3 il] at hi;obtain ⟨x,hx⟩:=cc5 q hqr.1
   have xr:x∈r:=by rw[<-e];exact pm.mem_iff.mpr hx
   obtain ⟨il2,ei⟩:=bs3.mp hi;have pw:=List.pairwise_flatten.mp (bt7.mp nf);have:=bw1.mp pw.2 i j il2 jl il;rw[ei,ej] at this;exact this x hx x xr rfl
theorem aw9 {p b:List Int}(tp:m4 p)(h:A4 p (-1) b):q4 b=G3 p (i2 p p.length).length:=by
 have rb:=aq2 tp h;unfold G3
 split
 · rename_i e;refine t7 ?_;rw[N2 e,N2 (by rw[rb,e];rfl)]
 · rename_i e;rw[M3 (by rw[rb];simpa using e),rb,bu6,List.drop_length,bw0]
theorem ad2 {p:List Int}(tp:m4 p)(lp:p.length<=40)(j:Nat):(G3 p j).length<=4882:=by
 have rf:=A1 tp lp (B0 tp);unfold G3
 split
 · rename_i e;rw[<-B1,N2 e]
   decide
 · have l:=R0 (rs:=((i2 p p.length).take j).map w5++(i2 p p.length).drop j) fun r hr=>by
     rcases bt5.mp hr with z|z
     · obtain ⟨q,hq,rfl⟩:=bu5.mp z;have f:=rf.2 q (by4 hq);have pm:=E4 q;exact ⟨fun e=>f.1 (by rw[e] at pm;exact bx1 pm.length_eq.symm),by rw[pm.length_eq];exact f.2.1,fun x hx=>f.2.2 x (pm.mem_iff.mp hx)⟩
     · exact rf.2 r (List.mem_of_mem_drop z)
   rw[bs6,bs1,bt6,bv2] at l;have:=rf.1
   have e:min j (i2 p p.length).length+((i2 p p.length).length - j)=(i2 p p.length).length:=by omega
   rw[e] at l;have:=Nat.mul_le_mul_right 122 rf.1;omega
end
end My
namespace My
open PySem L2 Mth
section
variable {P:Program} {w:World} {K:PySem.W.Frag} {mg:Str->Option Value} {base:Heap}
def ak0:Sp:=fun vs H Q _=>∃(a:Addr) (p:List Int) (k:Int),vs=[.ref a,.int k]/\y7 H a p/\∀(l:Addr) (t:List Int) (H':Hp),H l=none->e8 H H'->A4 p k t->H' l=some (.lst (t.map V.int))->Q (.ref l) H'
theorem G4:j7 ["p","k","found","one","at"] ["p","k"] (i6 O1):=by rfl'
theorem ak1 {f:Addr}{fd:FuncData}(F:q9 K "_law_power" "_law_power" O1 f fd)(B:Bl mg)(zy:j9 P w K mg base "_law_rounds" 1 ["p"] x4):m5 P w K mg base p5 2 f fd ["p","k"] ak0:=by
 refine F.ok G4 (fun vs H Q E h=> ?_) (fun cdv A outer s H vs Q E hr h=> ?_)
 · obtain ⟨a,p,k,rfl,⟨ha,tp,lp⟩,q⟩:=h;rfl
 · obtain ⟨a,p,k,rfl,⟨ha,tp,lp⟩,q⟩:=h;have zyy:l5 1 _:=hr.mono (by decide);refine ⟨_,@c6 _ _ _ _ _ (@j2 _ _ (2) _ _ _ _ G4.nd rfl (Or.inl rfl) (@S5 _ _ _ _ _ B.list (@c4 _ _ _ _ _ (pv 0) (@c5 _) (by rfl)) (by rfl) (by rfl)) (by rfl) (by trivial)) (@c6 _ _ _ _ _ (@o1 _ _ _ _ _ _ _ _ PassesOwn.never rfl (@o5 _ _ _ _ (@i5 _ _ _ _ _ _ _ _ _ _ zy zyy (@c4 _ _ _ _ _ (pv 0) (@c5 _) (by rfl)) (by rfl) (by decide) (by rfl) (by rfl))) (@j8 _ _ (3) _ G4.nd rfl (Or.inl rfl) (by trivial)) (@c8 _ _ _ (@o1 _ _ _ _ _ _ _ _ PassesOwn.never rfl (@x6 _ _ _ _ _ _ (by rfl) B.range (@c4 _ _ _ _ _ (@p0 _ _ _ _ _ B.len (@c4 _ _ _ _ _ (pv 3) (@c5 _) (by rfl)) (by rfl) (by rfl)) (@c5 _) (by rfl)) (by rfl)) (@j8 _ _ (4) _ G4.nd rfl (Or.inl rfl) (by trivial)) (@c8 _ _ _ (@O4 _ _ _ _ _ _ (@A3 _ _ _ _ _ _ _ o6 (pv 3) (@l8 _ _ _ _ _ _ _ _ E8 (@l8 _ _ _ _ _ _ _ _ O5 (pv 4) (pv 1)) (@p0 _ _ _ _ _ B.len (@c4 _ _ _ _ _ (pv 3) (@c5 _) (by rfl)) (by rfl) (by rfl))) (fun _ _=>rfl)) (@O3 _ _ _ _ _ _ _ (pv 2) (@A3 _ _ _ _ _ _ _ o6 (pv 3) (pv 4) (fun _ _=>rfl)) G9 (by intro _;rfl)) (by rfl) (by rfl) (by rfl))) (by intro _;rfl))) (by intro _;rfl)) (@c8 _ _ _ (@j5 _ _ _ _ (pv 2)))),?_⟩;refine ⟨_,rfl,a,_,rfl,.inl (g8.of ha),fun l hl=> ?_⟩;have s2:e8 H (g9 H l (.lst (p.map V.int))):=e8.upd_new hl;have h2l:(g9 H l (.lst (p.map V.int))) l=some (.lst (p.map V.int)):=c9;generalize (g9 H l (.lst (p.map V.int)))=H2 at s2 h2l ⊢;refine ⟨_,rfl,a,p,rfl,⟨s2 a _ ha,tp,lp⟩,fun g as rs H3 hg s23 h3g rows up fa nda nga=> ?_⟩;have h3l:=s23 l _ h2l
   have ngl:g≠l:=fun z=>by rw[z,h2l] at hg;cases hg
   have nf:rs.flatten.Nodup:=(D1 tp up).nodup_iff.mpr (r9 _)
   refine ⟨g,rfl,⟨_,g8.of h3g⟩,y8 (K:=K) (a:=g) (xs:=as.map V.ref) (fun i σ H4=>∃(ts:List Int) (v3 v4:Option V),σ=[some (.ref a),some (.int k),some (.ref l),v3,v4]/\H4 l=some (.lst (ts.map V.int))/\ts.length=p.length/\(∀x∈(rs.take i).flatten,∃L,v0 p x L/\o8 ts x=some (it p (k%(L:Int)).toNat x))/\i3 l H3 H4)
     ⟨p,none,none,rfl,h3l,rfl,(fun x hx=>by simp at hx),i3.refl l H3⟩ (fun i σ H4 _ zz=>by obtain ⟨_,_,_,_,_,_,_,kb⟩:=zz;exact g8.of (kb g _ h3g ngl)) ?_ ?_⟩
   · rintro i y σ H4 hi ⟨ts,v3,v4,rfl,h4l,hl4,hx4,kb⟩;rw[bt2] at hi;obtain ⟨e,hai,rfl⟩:=cd6.mp hi;have hil:i < as.length:=(bs3.mp hai).1;have hri:rs[i]? =some (rs[i]'(by rw[<-rows.1];exact hil)):=bs2 _;generalize hR:rs[i]'(by rw[<-rows.1];exact hil)=R at hri;have h3e:=rows.2 i e R hai hri;have hRm:R∈rs:=bs8 hri;obtain ⟨x,L,hx,pr,eR,_⟩:=up.ring R hRm
     have nle:l≠e:=fun z=>by have:=fa e (bs8 hai);rw[<-z,h2l] at this;cases this
     have rl:R.length=L:=by rw[eR,i7]
     have L0:=pr.pos
     have ndR:R.Nodup:=by rw[eR];exact C3 tp hx fun j j0 j1=>pr.least j j0 j1
     have inR:∀y∈R,Mth.In p y:=fun y hy=>by rw[eR] at hy;exact A9 tp hx y hy
     have lL:R.length<=40:=by
       have:=G2 tp hx (m:=L) fun j j0 j1=>pr.least j j0 j1
       omega
     refine ⟨_,rfl,e,_,rfl,.inl (g8.of (kb e _ h3e nle.symm)),(R.length:Int),by rw[bs1],by omega,by omega,?_⟩;rw[show ((R.length:Int)).toNat=R.length by omega]
     refine A6 (lo:=0) (n:=R.length) (fun j σ H5=>∃(us:List Int) (v4:Option V),σ=[some (.ref a),some (.int k),some (.ref l),some (.ref e),v4]/\H5 l=some (.lst (us.map V.int))/\us.length=p.length/\(∀j',j' < j->o8 us (R.getD j' 0)=some (R.getD (((j':Int)+k)%(R.length:Int)).toNat 0))/\(∀y,0<=y->y∉R->o8 us y=o8 ts y)/\i3 l H3 H5)
       ⟨ts,v4,rfl,h4l,hl4,(fun j' h=>by omega),(fun y _ _=>rfl),kb⟩ ?_ ?_
     · rintro j σ H5 hj ⟨us,v4,rfl,h5l,ul,old,out,kb5⟩
       have e0:(0:Int)+(j:Int)=(j:Int):=by omega
       rw[e0];have h5e:=kb5 e _ h3e nle.symm;have b0:=bv6 ((j:Int)+k) (show (R.length:Int)≠0 by omega);have b1:=bx7 ((j:Int)+k) (show (0:Int) < (R.length:Int) by omega);have xb:=inR (R.getD j 0) (by rw[o0 hj];exact bv4 _);refine ⟨_,rfl,_,rfl,_,rfl,_,_,rfl,rfl,_,rfl,e,_,rfl,.inl (g8.of h5e),_,_,rfl,rfl,?_,?_⟩
       · show (0:Int) < ((R.map V.int).length:Int);rw[bs1];omega
       rw[bs1];refine ⟨e,_,_,_,rfl,rfl,g8.of h5e,B8 b0 b1,_,rfl,_,rfl,_,rfl,e,_,_,_,rfl,rfl,g8.of h5e,B8 (show (0:Int)<=(j:Int) by omega) (by omega),?_⟩;rw[bv8];refine ⟨l,_,_,(R.getD j 0).toNat,rfl,rfl,h5l,?_,?_⟩
       · unfold G6;rw[bs1,ul,if_pos xb.1,if_pos xb.2]
       rw[<-cb4];refine ⟨_,_,rfl,c9,by rw[bx0];exact ul,fun j' hj'=> ?_,fun y y0 hy=> ?_,kb5.upd_a⟩
       · by_cases c:j'=j
         · subst c;exact V2 (by have:=xb.2;have:=xb.1;omega)
         · rw[O9 (inR _ (by rw[o0 (show j' < R.length by omega)];exact bv4 _)).1 xb.1 (G1 ndR (by omega) hj c)];exact old j' (by omega)
       · rw[O9 y0 xb.1 fun z=>hy (by rw[z,o0 hj];exact bv4 _)];exact out y y0 hy
     · rintro σ H5 ⟨us,v4,rfl,h5l,ul,old,out,kb5⟩;refine ⟨us,_,_,rfl,h5l,ul,fun y hy=> ?_,kb5⟩;rw[j6 hri,bv1,bw2] at hy
       by_cases hyR:y∈R
       · rw[eR] at hyR;obtain ⟨j,hjL,rfl⟩:=o7.mp hyR;refine ⟨L,pr.shift tp hx j,?_⟩;have:=old j (by omega)
         have rl':(R.length:Int)=(L:Int):=by rw[rl]
         rw[rl'] at this;have b0:=bv6 ((j:Int)+k) (show (L:Int)≠0 by omega);have b1:=bx7 ((j:Int)+k) (show (0:Int) < (L:Int) by omega);rw[eR,p9 hjL,p9 (by omega),X9 pr] at this;exact this
       · rcases bt5.mp hy with g'|g'
         · obtain ⟨r',hr',hyr'⟩:=bu8.mp g';obtain ⟨x',L',hx',_,er',_⟩:=up.ring r' (by4 hr');rw[out y (by rw[er'] at hyr';exact (A9 tp hx' y hyr').1) hyR];exact hx4 y g'
         · exact absurd g' hyR
   · rintro σ H4 ⟨ts,v3,v4,rfl,h4l,hl4,hx4,kb⟩;rw[bs1,rows.1,bu6] at hx4;refine ⟨_,rfl,q l ts H4 hl (fun b o hb=>kb _ _ (s23 _ _ (s2 _ _ hb)) (g6 hb hl)) ⟨hl4,fun x hx=>hx4 x ((D1 tp up).mem_iff.mpr (t8.mpr hx))⟩ h4l⟩
theorem aa8 {p:List Int}{a b:Nat}(ha:a < p.length)(hb:b < p.length){i:Nat}(hi:i < p.length):((p.set a (p.getD b 0)).set b (p.getD a 0))[i]? =some (p.getD (if i=b then a else if i=a then b else i) 0):=by
 by_cases e1:b=i
 · subst e1;rw[by1 (by rw[bx0];exact hb),if_pos rfl]
 · rw[by3 e1,if_neg fun z=>e1 z.symm]
   by_cases e2:a=i
   · subst e2;rw[by1 ha,if_pos rfl]
   · rw[by3 e2,if_neg (fun z=>e2 z.symm),o0 hi,bs2 hi]
theorem bb5 {p:List Int}(tp:m4 p){a b:Nat}(ha:a < p.length)(hb:b < p.length):m4 ((p.set a (p.getD b 0)).set b (p.getD a 0)):=by
 have len:((p.set a (p.getD b 0)).set b (p.getD a 0)).length=p.length:=by rw[bx0,bx0]
 have lt:∀i,i < p.length->(if i=b then a else if i=a then b else i) < p.length:=fun i hi=>by split<;>(try split)<;>omega
 have bd:∀x∈(p.set a (p.getD b 0)).set b (p.getD a 0),x∈p:=fun x hx=>by
   obtain ⟨i,hi⟩:=cb1 hx
   have il:i < p.length:=by rw[<-len];exact (bs3.mp hi).1
   rw[aa8 ha hb il] at hi;rw[<-Option.some.inj hi,o0 (lt i il)];exact bv4 _
 refine ⟨?_,fun x hx=>tp.lo x (bd x hx),fun x hx=>by rw[len];exact tp.hi x (bd x hx)⟩;rw[bt7,bw1];intro i j hi hj ij e
 have il:i < p.length:=by rw[<-len];exact hi
 have jl:j < p.length:=by rw[<-len];exact hj
 have e1:=aa8 ha hb il;have e2:=aa8 ha hb jl;rw[bs2 hi] at e1;rw[bs2 hj,<-e,e1] at e2;refine G1 tp.nd (lt i il) (lt j jl) ?_ (Option.some.inj e2);intro z
 split at z<;>split at z<;>(try split at z)<;>(try split at z)<;>omega
def aa9:Sp:=fun vs H Q _=>∃(g a:Addr) (p:List Int),vs=[.ref g,.ref a]/\m8 H g/\y7 H a p/\a≠g/\∀(l:Addr) (t:List Int) (H':Hp),H l=none->m4 t->t.length=p.length->H' l=some (.lst (t.map V.int))->m8 H' g->i3 g H H'->Q (.ref l) H'
theorem G5:j7 ["deck","p","found","one","other"] ["deck","p"] (i6 O2):=by rfl'
theorem ak2 {f:Addr}{fd:FuncData}(F:q9 K "_law_other" "_law_other" O2 f fd)(B:Bl mg)(zzz:j9 P w K mg base "_law_take" 1 ["deck","many"] T1):m5 P w K mg base p5 2 f fd ["deck","p"] aa9:=by
 refine F.ok G5 (fun vs H Q E h=> ?_) (fun cdv A outer s H vs Q E hr h=> ?_)
 · obtain ⟨g,a,p,rfl,D0,⟨ha,tp,lp⟩,nag,q⟩:=h;rfl
 · obtain ⟨g,a,p,rfl,D0,⟨ha,tp,lp⟩,nag,q⟩:=h;have zzy:l5 1 _:=hr.mono (by decide);refine ⟨_,@c6 _ _ _ _ _ (@j2 _ _ (2) _ _ _ _ G5.nd rfl (Or.inl rfl) (@S5 _ _ _ _ _ B.list (@c4 _ _ _ _ _ (pv 1) (@c5 _) (by rfl)) (by rfl) (by rfl)) (by rfl) (by trivial)) (@c6 _ _ _ _ _ (@p7 _ _ _ _ _ _ _ _ (@ar3 _ _ _ _ _ _ _ (@m6 _ _ _ _ _ _ _ _ ae4 (@p0 _ _ _ _ _ B.len (@c4 _ _ _ _ _ (pv 1) (@c5 _) (by rfl)) (by rfl) (by rfl)) (@i8 _ _ _ _) (m7 _)) (@al9 _ _ _ _ (@m6 _ _ _ _ _ _ _ _ ae4 (@i5 _ _ _ _ _ _ _ _ _ _ zzz zzy (@c4 _ _ _ _ _ (pv 0) (@c4 _ _ _ _ _ (@i8 _ _ _ _) (@c5 _) (by rfl)) (by rfl)) (by rfl) (by decide) (by rfl) (by rfl)) (@i8 _ _ _ _) (m7 _)))).pt (@c6 _ _ _ _ _ (@j2 _ _ (3) _ _ _ _ G5.nd rfl (Or.inl rfl) (@i5 _ _ _ _ _ _ _ _ _ _ zzz zzy (@c4 _ _ _ _ _ (pv 0) (@c4 _ _ _ _ _ (@p0 _ _ _ _ _ B.len (@c4 _ _ _ _ _ (pv 1) (@c5 _) (by rfl)) (by rfl) (by rfl)) (@c5 _) (by rfl)) (by rfl)) (by rfl) (by decide) (by rfl) (by rfl)) (by rfl) (by trivial)) (@c6 _ _ _ _ _ (@j2 _ _ (4) _ _ _ _ G5.nd rfl (Or.inl rfl) (@i5 _ _ _ _ _ _ _ _ _ _ zzz zzy (@c4 _ _ _ _ _ (pv 0) (@c4 _ _ _ _ _ (@p0 _ _ _ _ _ B.len (@c4 _ _ _ _ _ (pv 1) (@c5 _) (by rfl)) (by rfl) (by rfl)) (@c5 _) (by rfl)) (by rfl)) (by rfl) (by decide) (by rfl) (by rfl)) (by rfl) (by trivial)) (@c6 _ _ _ _ _ (@O4 _ _ _ _ _ _ (@A3 _ _ _ _ _ _ _ o6 (pv 1) (pv 4) (fun _ _=>rfl)) (@O3 _ _ _ _ _ _ _ (pv 2) (pv 3) G9 (by intro _;rfl)) (by rfl) (by rfl) (by rfl)) (@c8 _ _ _ (@O4 _ _ _ _ _ _ (@A3 _ _ _ _ _ _ _ o6 (pv 1) (pv 3) (fun _ _=>rfl)) (@O3 _ _ _ _ _ _ _ (pv 2) (pv 4) G9 (by intro _;rfl)) (by rfl) (by rfl) (by rfl)))))) (@m9 _)) (@c8 _ _ _ (@j5 _ _ _ _ (pv 2)))),?_⟩;refine ⟨_,rfl,a,_,rfl,.inl (g8.of ha),fun l hl=> ?_⟩
   have nlg:l≠g:=fun z=>by obtain ⟨o,e⟩:=D0.some;rw[z,e] at hl;cases hl
   have nla:a≠l:=g6 ha hl;have s2:e8 H (g9 H l (.lst (p.map V.int))):=e8.upd_new hl;have h2l:(g9 H l (.lst (p.map V.int))) l=some (.lst (p.map V.int)):=c9;generalize (g9 H l (.lst (p.map V.int)))=H2 at s2 h2l ⊢;have D2:=D0.same s2;refine ⟨_,rfl,a,_,rfl,.inl (g8.of (s2 _ _ ha)),_,_,rfl,rfl,_,rfl,?_⟩
   refine P4 (fun c1=> ?_) fun c1=> ?_
   · have l1:1 < p.length:=by
       have:=of_decide_eq_true c1;rw[bs1] at this;omega
     refine ⟨_,rfl,g,3,rfl,D2,by decide,fun r1 H3 a0 a1 D3 kb3=>⟨_,_,rfl,rfl,_,rfl,?_⟩⟩;have k03:i3 g H H3:=(s2.but g).trans kb3;have h3l:=kb3 _ _ h2l nlg
     refine P4 (fun c2=> ?_) fun c2=> ?_
     · refine ⟨_,rfl,_,rfl,a,_,rfl,.inl (g8.of (k03 _ _ ha nag)),g,_,rfl,D3,by rw[bs1];omega,fun r2 H4 b0 b1 D4 kb4=> ?_⟩;have k04:=k03.trans kb4;refine ⟨_,rfl,_,rfl,a,_,rfl,.inl (g8.of (k04 _ _ ha nag)),g,_,rfl,D4,by rw[bs1];omega,fun r3 H5 c0 c1 D5 kb5=> ?_⟩;rw[bs1] at b1 c1;have k05:=k04.trans kb5;have h5a:=k05 _ _ ha nag;have h5l:=kb5 _ _ (kb4 _ _ h3l nlg) nlg;refine ⟨_,rfl,_,rfl,a,_,_,_,rfl,rfl,g8.of h5a,B8 c0 c1,_,rfl,_,rfl,l,_,_,r2.toNat,rfl,rfl,h5l,?_,?_⟩
       · unfold G6;rw[bs1,if_pos b0,if_pos b1]
       rw[<-cb4];have kb6:i3 l H5 (g9 H5 l (.lst ((p.set r2.toNat (p.getD r3.toNat 0)).map V.int))):=i3.upd;have h6l:(g9 H5 l (.lst ((p.set r2.toNat (p.getD r3.toNat 0)).map V.int))) l=some (.lst ((p.set r2.toNat (p.getD r3.toNat 0)).map V.int)):=c9;have D6:m8 (g9 H5 l (.lst ((p.set r2.toNat (p.getD r3.toNat 0)).map V.int))) g:=D5.upd nlg.symm;generalize (g9 H5 l (.lst ((p.set r2.toNat (p.getD r3.toNat 0)).map V.int)))=H6 at kb6 h6l D6 ⊢;refine ⟨_,rfl,_,rfl,a,_,_,_,rfl,rfl,g8.of (kb6 _ _ h5a nla),B8 b0 b1,_,rfl,_,rfl,l,_,_,r3.toNat,rfl,rfl,h6l,?_,?_⟩
       · unfold G6;rw[bs1,bx0,if_pos c0,if_pos c1]
       rw[<-cb4];refine ⟨_,rfl,q l _ _ hl (bb5 tp (a:=r2.toNat) (b:=r3.toNat) (by omega) (by omega)) (by rw[bx0,bx0]) c9 (D6.upd nlg.symm) fun b o hb nb=> ?_⟩;have nbl:=g6 hb hl;rw[g7 nbl];exact kb6 _ _ (k05 _ _ hb nb) nbl
     · exact ⟨_,rfl,q l p H3 hl tp rfl h3l D3 k03⟩
   · exact ⟨_,rfl,q l p H2 hl tp rfl h2l D2 (s2.but g)⟩
theorem bb6 {K:PySem.W.Frag}{a:Addr}{xs:List V}{g:TG}{tb:TS}{D:N3}{σ:St}{H:Hp}(Pv:Nat->St->Hp->Prop)(h0:Pv 0 σ H)(hl:∀i σ H,i<=xs.length->Pv i σ H->E7 K H a xs)
   (hs:∀i x σ H,xs[i]? =some x->Pv i σ H->g x σ H fun σ2 H2=>tb {D with nx:=Pv (i+1),ct:=Pv (i+1),bk:=D.nx} σ2 H2) (hd:∀σ H,Pv xs.length σ H->D.nx σ H):
   ∃W:Nat->Nat->St->Hp->Prop,(∃m,W 0 m σ H)/\∀i m σ H,W i m σ H->
    ((Itt K a).stop i H/\D.nx σ H)\/((Itt K a).go i H/\∃N:St->Hp->Prop,(∀σ' H',N σ' H'->∃m',m' < m/\W (i+1) m' σ' H')/\∀x H',(Itt K a).yld i H x H'->g x σ H' fun σ2 H2=>tb {D with nx:=N,ct:=N,bk:=D.nx} σ2 H2):=by
 refine ⟨fun i m σ H=>m=xs.length - i/\i<=xs.length/\Pv i σ H,⟨xs.length,by simp,bu9 _,h0⟩,?_⟩;rintro i m σ H ⟨rfl,hi,p⟩;have q:=hl i σ H hi p
 by_cases hlt:i < xs.length
 · refine .inr ⟨⟨xs,xs[i],q,by simp [hlt]⟩,Pv (i+1),fun σ' H' p'=>⟨xs.length - (i+1),by omega,rfl,hlt,p'⟩,fun x H' y=> ?_⟩;obtain ⟨e,y⟩:=y;subst e;exact hs i x σ _ (y xs q) p
 · have e:i=xs.length:=by omega
   subst e;exact .inl ⟨⟨xs,q,bs9 _⟩,hd σ H p⟩
def af0 (K:PySem.W.Frag):Sp:=fun vs H Q _=>∃(a:Addr) (ns:List Int),vs=[.ref a]/\g8 K H a (ns.map V.int)/\ns.length<=63/\∀H',Q (.bl true) H'
theorem A5:j7 ["script","k","deck","p","q","one","text","back","words","turned","power"] ["script"] (i6 U0):=by rfl'
theorem ak3:(["thing"]:List Str).Nodup:=by decide+kernel
theorem bk8 {f:Addr}{fd:FuncData}(F:q9 K "law" "law" U0 f fd)(B:Bl mg)(zux:j9 P w K mg base "_law_deck" 2 ["cell","many"] E2)(zxx:j9 P w K mg base "_law_cell_at" 1 ["script","k"] (aj3 K))(zt:j9 P w K mg base "_law_turn" 2 ["deck","most"] Z9)(zzz:j9 P w K mg base "_law_take" 1 ["deck","many"] T1)(zvx:j9 P w K mg base "_law_other" 2 ["deck","p"] aa9)(zzx:j9 P w K mg base "show_turn" 5 ["p"] M1)(zyx:j9 P w K mg base "read_turn" 6 ["text"] aj6)(zw:j9 P w K mg base "_law_written" 2 ["p"] M1)(zy:j9 P w K mg base "_law_rounds" 1 ["p"] x4)(ztz:j9 P w K mg base "way_back" 5 ["p"] ai8)(zwz:j9 P w K mg base "power_of" 4 ["p","k"] U1)(zuz:j9 P w K mg base "_law_power" 2 ["p","k"] ak0)(NB:PySem.W.nsIn K cStatics sharingNotToldKey=some none):m5 P w K mg base p5 7 f fd ["script"] (af0 K):=by
 refine F.ok A5 (fun vs H Q E h=> ?_) (fun cdv A outer s H vs Q E hr h=> ?_)
 · obtain ⟨sc,ns,rfl,hsc,hns,q⟩:=h;rfl
 · obtain ⟨sc,ns,rfl,hsc,hns,q⟩:=h;have zoz:l5 2 _:=hr.mono (by decide);have zrz:l5 1 _:=hr.mono (by decide);have zoy:l5 2 _:=hr.mono (by decide);have zzy:l5 1 _:=hr.mono (by decide);have zpx:l5 2 _:=hr.mono (by decide);have zyz:l5 5 _:=hr.mono (by decide);have zvz:l5 6 _:=hr.mono (by decide);have zry:l5 2 _:=hr.mono (by decide);have zyy:l5 1 _:=hr.mono (by decide);have zox:l5 5 _:=hr.mono (by decide);have znz:l5 4 _:=hr.mono (by decide);have zo:l5 2 _:=hr.mono (by decide);have hu:=X3 hr;refine ⟨_,@c6 _ _ _ _ _ (@o1 _ _ _ _ _ _ _ _ PassesOwn.never rfl (@x6 _ _ _ _ _ _ (by rfl) B.range (@c4 _ _ _ _ _ (@be5 _ _ _ _ _ _ rfl B.max (@c4 _ _ _ _ _ (@i8 _ _ _ _) (@c4 _ _ _ _ _ (@an0 _ _ _ _ _ _ rfl B.min (@c4 _ _ _ _ _ (@p0 _ _ _ _ _ B.len (@c4 _ _ _ _ _ (pv 0) (@c5 _) (by rfl)) (by rfl) (by rfl)) (@c4 _ _ _ _ _ (@i8 _ _ _ _) (@c5 _) (by rfl)) (by rfl)) (by rfl) (by rfl) (by rfl)) (@c5 _) (by rfl)) (by rfl)) (by rfl) (by rfl) (by rfl)) (@c5 _) (by rfl)) (by rfl)) (@j8 _ _ (1) _ A5.nd rfl (Or.inl rfl) (by trivial)) (@c6 _ _ _ _ _ (@j2 _ _ (2) _ _ _ _ A5.nd rfl (Or.inl rfl) (@i5 _ _ _ _ _ _ _ _ _ _ zux zoz (@c4 _ _ _ _ _ (@i5 _ _ _ _ _ _ _ _ _ _ zxx zrz (@c4 _ _ _ _ _ (pv 0) (@c4 _ _ _ _ _ (pv 1) (@c5 _) (by rfl)) (by rfl)) (by rfl) (by decide) (by rfl) (by rfl)) (@c4 _ _ _ _ _ (@i8 _ _ _ _) (@c5 _) (by rfl)) (by rfl)) (by rfl) (by decide) (by rfl) (by rfl)) (by rfl) (by trivial)) (@c6 _ _ _ _ _ (@j2 _ _ (3) _ _ _ _ A5.nd rfl (Or.inl rfl) (@i5 _ _ _ _ _ _ _ _ _ _ zt zoy (@c4 _ _ _ _ _ (pv 2) (@c4 _ _ _ _ _ (@A3 _ _ _ _ _ _ _ o6 (@V3 _ _ _ [12,12,12,40] rfl) (@i5 _ _ _ _ _ _ _ _ _ _ zzz zzy (@c4 _ _ _ _ _ (pv 2) (@c4 _ _ _ _ _ (@i8 _ _ _ _) (@c5 _) (by rfl)) (by rfl)) (by rfl) (by decide) (by rfl) (by rfl)) (fun _ _=>rfl)) (@c5 _) (by rfl)) (by rfl)) (by rfl) (by decide) (by rfl) (by rfl)) (by rfl) (by trivial)) (@c6 _ _ _ _ _ (@j2 _ _ (4) _ _ _ _ A5.nd rfl (Or.inl rfl) (@i5 _ _ _ _ _ _ _ _ _ _ zvx zpx (@c4 _ _ _ _ _ (pv 2) (@c4 _ _ _ _ _ (pv 3) (@c5 _) (by rfl)) (by rfl)) (by rfl) (by decide) (by rfl) (by rfl)) (by rfl) (by trivial)) (@c6 _ _ _ _ _ (@p7 _ _ _ _ _ _ _ _ (@m6 _ _ _ _ _ _ _ _ W9 (@Y7 _ _ _ _ _ _ _ _ W8 (@i5 _ _ _ _ _ _ _ _ _ _ zzx zyz (@c4 _ _ _ _ _ (pv 3) (@c5 _) (by rfl)) (by rfl) (by decide) (by rfl) (by rfl)) (@i5 _ _ _ _ _ _ _ _ _ _ zzx zyz (@c4 _ _ _ _ _ (pv 4) (@c5 _) (by rfl)) (by rfl) (by decide) (by rfl) (by rfl)) (m7 _)) (@Y7 _ _ _ _ _ _ _ _ (at5 0 hu) (pv 3) (pv 4) (m7 _)) (m7 _)) (@c8 _ _ _ (@j5 _ _ _ _ (@A7 _ _ _ _))) (@m9 _)) (@c6 _ _ _ _ _ (@o1 _ _ _ _ _ _ _ _ PassesOwn.never rfl (@bh4 _ _ _ _ (@bi2 _ _ _ _ _ (@c4 _ _ _ _ _ (pv 3) (@c4 _ _ _ _ _ (pv 4) (@c5 _) (by rfl)) (by rfl)))) (@j8 _ _ (5) _ A5.nd rfl (Or.inl rfl) (by trivial)) (@c6 _ _ _ _ _ (@j2 _ _ (6) _ _ _ _ A5.nd rfl (Or.inl rfl) (@i5 _ _ _ _ _ _ _ _ _ _ zzx zyz (@c4 _ _ _ _ _ (pv 5) (@c5 _) (by rfl)) (by rfl) (by decide) (by rfl) (by rfl)) (by rfl) (by trivial)) (@c8 _ _ _ (@p7 _ _ _ _ _ _ _ _ (@T6 _ _ _ _ _ _ _ (@m6 _ _ _ _ _ _ _ _ (ah0 0 hu) (@i5 _ _ _ _ _ _ _ _ _ _ zyx zvz (@c4 _ _ _ _ _ (pv 6) (@c5 _) (by rfl)) (by rfl) (by decide) (by rfl) (by rfl)) (pv 5) (m7 _)) (@W5 _ _ _ _ (@m6 _ _ _ _ _ _ _ _ W9 (@i5 _ _ _ _ _ _ _ _ _ _ zzx zyz (@c4 _ _ _ _ _ (@i5 _ _ _ _ _ _ _ _ _ _ zyx zvz (@c4 _ _ _ _ _ (pv 6) (@c5 _) (by rfl)) (by rfl) (by decide) (by rfl) (by rfl)) (@c5 _) (by rfl)) (by rfl) (by decide) (by rfl) (by rfl)) (pv 6) (m7 _)))).pt (@c8 _ _ _ (@j5 _ _ _ _ (@A7 _ _ _ _))) (@m9 _)))) (by intro _;rfl)) (@c6 _ _ _ _ _ (@j2 _ _ (7) _ _ _ _ A5.nd rfl (Or.inl rfl) (@i5 _ _ _ _ _ _ _ _ _ _ zw zry (@c4 _ _ _ _ _ (pv 3) (@c5 _) (by rfl)) (by rfl) (by decide) (by rfl) (by rfl)) (by rfl) (by trivial)) (@c6 _ _ _ _ _ (@o1 _ _ _ _ _ _ _ _ PassesOwn.never rfl (@o5 _ _ _ _ (@i5 _ _ _ _ _ _ _ _ _ _ zy zyy (@c4 _ _ _ _ _ (pv 3) (@c5 _) (by rfl)) (by rfl) (by decide) (by rfl) (by rfl))) (@j8 _ _ (5) _ A5.nd rfl (Or.inl rfl) (by trivial)) (@c6 _ _ _ _ _ (@am9 _ (8) _ _ _ _ _ _ _ _ _ _ _ _ _ (["thing"]) (1) ([]) A5.nd rfl (Or.inl rfl) rfl .of (@o5 _ _ _ _ (pv 5)) (fun _ _ _ _ _=>@j8 _ _ (0) _ ak3 rfl (Or.inl rfl) (by trivial)) (fun _ _ _ _ _=>(@C6 _)) (fun _ _ _ _ _=>(@T9 _ _ _ _ _ B.str (@c4 _ _ _ _ _ (pv 0) (@c5 _) (by rfl)) (by rfl) (by rfl))) (by rfl) (by intro _;rfl) (by trivial)) (@c6 _ _ _ _ _ (@j2 _ _ (9) _ _ _ _ A5.nd rfl (Or.inl rfl) (@l8 _ _ _ _ _ _ _ _ bj1 (@ag3 _ _ _ _ _ _ _ _ _ _ be1 (pv 8) (@bd7 _) (@K5 _ _ _ (@i8 _ _ _ _))) (bb2 (pv 8) (@K5 _ _ _ (@i8 _ _ _ _)) (@K5 _ _ _ (@ae3 _ _ _ _ _ _ W7 (@i8 _ _ _ _))))) (by rfl) (by trivial)) (@c8 _ _ _ (@j2 _ _ (7) _ _ _ _ A5.nd rfl (Or.inl rfl) (bg1 NB (pv 7) (@o4 _ _ _ _) (@P0 _ _ _ _ _ _ _ (@o4 _ _ _ _) (@c4 _ _ _ _ _ (pv 8) (@c5 _) (by rfl)) (by rfl) (by rfl) (by rfl) (by rfl) (by rfl)) (@o4 _ _ _ _) (@o4 _ _ _ _) (@P0 _ _ _ _ _ _ _ (@o4 _ _ _ _) (@c4 _ _ _ _ _ (pv 9) (@c5 _) (by rfl)) (by rfl) (by rfl) (by rfl) (by rfl) (by rfl)) (@o4 _ _ _ _)) (by rfl) (by trivial))))) (by intro _;rfl)) (@c6 _ _ _ _ _ (@p7 _ _ _ _ _ _ _ _ (@m6 _ _ _ _ _ _ _ _ W9 (@i5 _ _ _ _ _ _ _ _ _ _ zzx zyz (@c4 _ _ _ _ _ (@i5 _ _ _ _ _ _ _ _ _ _ ztz zox (@c4 _ _ _ _ _ (pv 3) (@c5 _) (by rfl)) (by rfl) (by decide) (by rfl) (by rfl)) (@c5 _) (by rfl)) (by rfl) (by decide) (by rfl) (by rfl)) (pv 7) (m7 _)) (@c8 _ _ _ (@j5 _ _ _ _ (@A7 _ _ _ _))) (@m9 _)) (@c6 _ _ _ _ _ (@j2 _ _ (10) _ _ _ _ A5.nd rfl (Or.inl rfl) (@l8 _ _ _ _ _ _ _ _ af8 (@i5 _ _ _ _ _ _ _ _ _ _ zzz zzy (@c4 _ _ _ _ _ (pv 2) (@c4 _ _ _ _ _ (@i8 _ _ _ _) (@c5 _) (by rfl)) (by rfl)) (by rfl) (by decide) (by rfl) (by rfl)) (@i8 _ _ _ _)) (by rfl) (by trivial)) (@c8 _ _ _ (@p7 _ _ _ _ _ _ _ _ (@m6 _ _ _ _ _ _ _ _ (ah0 0 hu) (@i5 _ _ _ _ _ _ _ _ _ _ zyx zvz (@c4 _ _ _ _ _ (@i5 _ _ _ _ _ _ _ _ _ _ zzx zyz (@c4 _ _ _ _ _ (@i5 _ _ _ _ _ _ _ _ _ _ zwz znz (@c4 _ _ _ _ _ (pv 3) (@c4 _ _ _ _ _ (pv 10) (@c5 _) (by rfl)) (by rfl)) (by rfl) (by decide) (by rfl) (by rfl)) (@c5 _) (by rfl)) (by rfl) (by decide) (by rfl) (by rfl)) (@c5 _) (by rfl)) (by rfl) (by decide) (by rfl) (by rfl)) (@i5 _ _ _ _ _ _ _ _ _ _ zuz zo (@c4 _ _ _ _ _ (pv 3) (@c4 _ _ _ _ _ (pv 10) (@c5 _) (by rfl)) (by rfl)) (by rfl) (by decide) (by rfl) (by rfl)) (m7 _)) (@c8 _ _ _ (@j5 _ _ _ _ (@A7 _ _ _ _))) (@m9 _)))))))))))) (by intro _;rfl)) (@c8 _ _ _ (@j5 _ _ _ _ (@A7 _ _ _ _))),?_⟩
   refine ⟨_,rfl,sc,_,rfl,.inl hsc,_,8,rfl,1,_,rfl,_,rfl,?_⟩;obtain ⟨mx,hmx,hm1,hm2⟩:=bk1 (n:=8) (c:=((ns.map V.int).length:Int)) (by decide) (by omega);rw[hmx]
   refine ⟨by omega,by omega,A6 (lo:=0) (n:=mx.toNat) (fun i σ H2=>∃v1 v2 v3 v4 v5 v6 v7 v8 v9 v10:Option V,σ=[some (.ref sc),v1,v2,v3,v4,v5,v6,v7,v8,v9,v10]/\e8 H H2)
     ⟨none,none,none,none,none,none,none,none,none,none,rfl,e8.refl H⟩ ?_ (fun σ H2 _=>q H2)⟩
   rintro i σ H2 hi ⟨v1,v2,v3,v4,v5,v6,v7,v8,v9,v10,rfl,s02⟩;refine ⟨_,rfl,_,rfl,sc,ns,_,rfl,s02.seq hsc,by omega,fun z=> ?_⟩;refine ⟨z,130,rfl,by decide,fun g H3 hg s23 D3=> ?_⟩;have hg0:H g=none:=s02.free hg;have s03:=s02.trans s23
   have ng:∀{Hz:Hp} {b:Addr},m8 Hz g->Hz b=none->b≠g:=fun {Hz b} D hb z=>by
     obtain ⟨o,e⟩:=D.some;rw[z,e] at hb;cases hb
   refine ⟨_,rfl,(show 4<=sizeLine by decide),fun ml n4=> ?_⟩;have s4:e8 H3 (g9 H3 ml (.lst (([12,12,12,40]:List Int).map V.int))):=e8.upd_new n4;have g4:(g9 H3 ml (.lst (([12,12,12,40]:List Int).map V.int))) ml=some (.lst (([12,12,12,40]:List Int).map V.int)):=c9;have nmg:=ng D3 n4;have D4:=D3.same s4;generalize (g9 H3 ml (.lst (([12,12,12,40]:List Int).map V.int)))=H4 at s4 g4 D4 ⊢;refine ⟨_,rfl,g,4,rfl,D4,by decide,fun r1 H5 a0 a1 D5 kb5=> ?_⟩;have s05:=(s03.trans s4).kb kb5 hg0
   obtain ⟨m,hm,hat⟩:∃m:Nat,m<=40/\M9 (([12,12,12,40]:List Int).map V.int) r1=some (.int (m:Int)):=by
     have:r1=0\/r1=1\/r1=2\/r1=3:=by omega
     rcases this with rfl|rfl|rfl|rfl
     · exact ⟨12,by decide,o9 (j:=0) rfl⟩
     · exact ⟨12,by decide,o9 (j:=1) rfl⟩
     · exact ⟨12,by decide,o9 (j:=2) rfl⟩
     · exact ⟨40,by decide,o9 (j:=3) rfl⟩
   refine ⟨ml,_,_,_,rfl,rfl,g8.of (kb5 _ _ g4 nmg),hat,g,m,rfl,D5,hm,fun pa p H6 npa tp lp h6p D6 kb6=> ?_⟩;have npg:=ng D5 npa;have s06:=s05.kb kb6 hg0;refine ⟨_,rfl,_,rfl,g,pa,p,rfl,D6,⟨h6p,tp,lp⟩,npg,fun qa q' H7 nqa tq lq h7q D7 kb7=> ?_⟩;have nqg:=ng D6 nqa;have s07:=s06.kb kb7 hg0;have tap:y7 H7 pa p:=⟨kb7 _ _ h6p npg,tp,lp⟩;have taq:y7 H7 qa q':=⟨h7q,tq,by omega⟩;clear s4 g4 kb5 kb6 kb7 hat s23 s02 s03 s05 s06 D3 D4 D5 D6;refine ⟨_,rfl,pa,p,rfl,tap,fun H8 s8=> ?_⟩;refine ⟨_,rfl,qa,q',rfl,⟨s8 _ _ taq.1,taq.2⟩,fun H9 s9=> ?_⟩;have s79:=s8.trans s9;refine ⟨rfl,_,rfl,_,rfl,pa,qa,_,_,_,rfl,rfl,g8.of (s79 _ _ tap.1),g8.of (s79 _ _ taq.1),V0 K H9 0 p q',rfl,_,rfl,P5 (congrArg V.bl (show decide (V.str (q4 p)=V.str (q4 q'))=decide (p=q') from ?_)) ?_⟩
   · by_cases e:p=q'
     · rw[decide_eq_true e,decide_eq_true (by rw[e])]
     · rw[decide_eq_false e,decide_eq_false fun z=>e (aw8 tp tq lp taq.2.2 (V.str.inj z))]
   refine ⟨_,rfl,_,rfl,(show 2<=sizeLine by decide),fun tu n10=> ?_⟩;have s10:e8 H9 (g9 H9 tu (.tup [V.ref pa,V.ref qa])):=e8.upd_new n10;have g10:(g9 H9 tu (.tup [V.ref pa,V.ref qa])) tu=some (.tup [V.ref pa,V.ref qa]):=c9;generalize (g9 H9 tu (.tup [V.ref pa,V.ref qa]))=H10 at s10 g10 ⊢;have s710:=s79.trans s10
   refine ⟨tu,rfl,⟨_,E7.of g10⟩,bb6 (K:=K) (a:=tu) (xs:=[V.ref pa,V.ref qa]) (fun j σ Hx=>∃v5 v6:Option V,σ=[some (.ref sc),some (.int ((0:Int)+(i:Int))),some (.ref g),some (.ref pa),some (.ref qa),v5,v6,v7,v8,v9,v10]/\e8 H10 Hx)
     ⟨v5,v6,rfl,e8.refl _⟩ (fun j σ Hx _ zz=>by obtain ⟨_,_,_,s⟩:=zz;exact E7.of (s _ _ g10)) ?_ ?_⟩
   · rintro j x σ Hx hj ⟨v5,v6,rfl,sx⟩
     obtain ⟨oa,o,tao,rfl⟩:∃(oa:Addr) (o:List Int),y7 H7 oa o/\x=V.ref oa:=by
       rcases j with _|_|j
       · cases hj;exact ⟨pa,p,tap,rfl⟩
       · cases hj;exact ⟨qa,q',taq,rfl⟩
       · cases hj
     have s7x:=s710.trans sx;refine ⟨_,rfl,oa,o,rfl,⟨s7x _ _ tao.1,tao.2⟩,fun H11 s11=> ?_⟩;refine ⟨_,rfl,o,rfl,tao.2.1,tao.2.2,fun l1 H12 nl1 s12 h12=> ?_⟩;have s712:=s7x.trans (s11.trans s12);refine ⟨_,rfl,l1,oa,_,_,_,rfl,rfl,g8.of h12,g8.of (s712 _ _ tao.1),V0 K H12 0 o o,_,rfl,P5 rfl ?_⟩;refine ⟨_,rfl,o,rfl,tao.2.1,tao.2.2,fun l2 H13 nl2 s13 h13=> ?_⟩;refine ⟨l2,o,rfl,⟨h13,tao.2⟩,fun H14 s14=>⟨_,rfl,rfl,_,rfl,P5 rfl ?_⟩⟩;exact ⟨_,_,rfl,sx.trans (s11.trans (s12.trans (s13.trans s14)))⟩
   rintro σ Hx ⟨v5,v6,rfl,sx⟩;have s7x:=s710.trans sx;have tapx:y7 Hx pa p:=⟨s7x _ _ tap.1,tap.2⟩;refine ⟨_,rfl,pa,p,rfl,tapx,fun H20 s20=> ?_⟩;refine ⟨_,rfl,pa,p,rfl,⟨s20 _ _ tapx.1,tapx.2⟩,fun R as rs H21 nR s21 h21 rows up _ _ _=> ?_⟩;have ers:rs=i2 p p.length:=up.eq;have s721:=s7x.trans (s20.trans s21);obtain ⟨f1,f2⟩:=A1 tp lp up
   have l1:(Str.ofString "(").length=1:=by decide+kernel
   have l2:(Str.ofString ")").length=1:=by decide+kernel
   have l3:(Str.ofString " ").length=1:=by decide+kernel
   refine ⟨R,rfl,⟨_,g8.of h21⟩,y8 (K:=K) (a:=R) (xs:=as.map V.ref) (fun j σ Hy=>∃v5 v8 v9:Option V,σ=[some (.ref sc),some (.int ((0:Int)+(i:Int))),some (.ref g),some (.ref pa),some (.ref qa),v5,v6,some (.str (G3 p j)),v8,v9,v10]/\e8 H21 Hy)
     ⟨v5,v8,v9,by rw[aq4];rfl,e8.refl _⟩ (fun j σ Hy _ zz=>by obtain ⟨_,_,_,_,s⟩:=zz;exact g8.of (s _ _ h21)) ?_ ?_⟩
   · rintro j x σ Hy hj ⟨v5,v8,v9,rfl,sy⟩;rw[bt2] at hj;obtain ⟨e,he,rfl⟩:=cd6.mp hj
     have hil:j < rs.length:=by rw[<-rows.1];exact (bs3.mp he).1
     obtain ⟨r,hr⟩:∃r,rs[j]? =some r:=⟨_,bs2 hil⟩;have hb:=sy _ _ (rows.2 j e r he hr);obtain ⟨r1,r2,r3⟩:=f2 r (bs8 hr);have rl:=E3 r2 r3;have bl:=ad2 tp lp j;refine ⟨_,rfl,e,rfl,⟨_,g8.of hb⟩,C9 (K:=K) (a:=e) (xs:=r.map V.int) (fun i ys σ H3=>∃v:Option V,σ=[v]/\H3=Hy/\ys=((r.take i).map i9).map V.str) ⟨none,rfl,rfl,rfl⟩ (fun i ys σ H3 _ zz=>by obtain ⟨_,_,e,_⟩:=zz;rw[e];exact g8.of hb) ?_ ?_⟩
     · rintro i x ys σ H3 hi ⟨v,rfl,rfl,rfl⟩;obtain ⟨z,hz,rfl⟩:=y9 hi;have zb:=r3 z (bs8 hz);refine ⟨_,rfl,z,rfl,ae9 (by decide) zb.1 zb.2,l6 (by simp only[bs1,bt6];omega),_,rfl,rfl,?_⟩;rw[j6 hz,bt3,bt3];rfl
     · rintro ys σ H3 ⟨v,rfl,rfl,rfl⟩ D hD;rw[bs1,bu6];have s30:e8 H3 (g9 H3 D (.lst ((r.map i9).map V.str))):=e8.upd_new hD;have h30:(g9 H3 D (.lst ((r.map i9).map V.str))) D=some (.lst ((r.map i9).map V.str)):=c9;generalize (g9 H3 D (.lst ((r.map i9).map V.str)))=H30 at s30 h30 ⊢;refine ⟨_,rfl,_,rfl,D,_,rfl,g8.of h30,fun c1 n31=> ?_⟩
       have ec:Y9 ((r.map i9).map V.str) none (some 1)=((r.take 1).map i9).map V.str:=by
         unfold Y9;rw[show (some (1:Int))=some ((1:Nat):Int) from rfl,HT.br0,HT.bp9,cb9,Nat.sub_zero];have:0 < r.length:=List.length_pos_iff.mpr r1;rw[Nat.min_eq_left (by rw[bs1,bs1];omega),List.map_take,List.map_take]
       rw[ec];have s31:e8 H30 (g9 H30 c1 (.lst (((r.take 1).map i9).map V.str))):=e8.upd_new n31;have h31:(g9 H30 c1 (.lst (((r.take 1).map i9).map V.str))) c1=some (.lst (((r.take 1).map i9).map V.str)):=c9;generalize (g9 H30 c1 (.lst (((r.take 1).map i9).map V.str)))=H31 at s31 h31 ⊢;refine ⟨_,rfl,_,rfl,_,rfl,_,rfl,D,_,rfl,rfl,rfl,g8.of (s31 _ _ h30),fun c2 n32=> ?_⟩
       have ed:(((r.map i9).map V.str).drop 1).reverse=(((r.drop 1).reverse).map i9).map V.str:=by rw[cc6,cc6,List.map_drop,List.map_drop]
       rw[ed];have s32:e8 H31 (g9 H31 c2 (.lst ((((r.drop 1).reverse).map i9).map V.str))):=e8.upd_new n32;have h32:(g9 H31 c2 (.lst ((((r.drop 1).reverse).map i9).map V.str))) c2=some (.lst ((((r.drop 1).reverse).map i9).map V.str)):=c9;generalize (g9 H31 c2 (.lst ((((r.drop 1).reverse).map i9).map V.str)))=H32 at s32 h32 ⊢;refine ⟨c1,c2,_,_,rfl,rfl,s32 _ _ h31,h32,ca2 (l6 (by simp only[bs1,by0,bt6,bv2];omega)),fun c3 n33=> ?_⟩
       have ee:((r.take 1).map i9).map V.str++(((r.drop 1).reverse).map i9).map V.str=((w5 r).map i9).map V.str:=by
         unfold w5;rw[bt3,bt3]
       rw[ee];have s33:e8 H32 (g9 H32 c3 (.lst (((w5 r).map i9).map V.str))):=e8.upd_new n33;have h33:(g9 H32 c3 (.lst (((w5 r).map i9).map V.str))) c3=some (.lst (((w5 r).map i9).map V.str)):=c9;generalize (g9 H32 c3 (.lst (((w5 r).map i9).map V.str)))=H33 at s33 h33 ⊢;have pm:=E4 r
       have w1:w5 r≠[]:=fun z=>r1 (bx1 (by rw[<-pm.length_eq,z];rfl))
       have w2:(w5 r).length<=40:=by rw[pm.length_eq];exact r2
       have w3:∀x∈w5 r,0<=x/\x < 40:=fun x hx=>r3 x (pm.mem_iff.mp hx)
       have wl:=E3 w2 w3
       have jok:∀{r:List Int},r.length<=40->(∀x∈r,0<=x/\x < 40)->JoinOk (Str.ofString " ") (r.map i9)=true:=fun {r} r2 r3=>N0 (B:=2) (fun y hy=>by
         obtain ⟨i,hi,rfl⟩:=bu5.mp hy
         exact (J5 (r3 i hi).1 (r3 i hi).2).1) (by rw[bs1,l3];omega)
       have rp:0 < (h7 r).length:=N1 r1 r3;have wp:0 < (h7 (w5 r)).length:=N1 w1 w3;have st:=aq5 tp lp (ers▸hr);have bl2:=ad2 tp lp (j+1);refine ⟨_,rfl,⟨_,rfl⟩,rfl,_,rfl,_,D,_,rfl,rfl,g8.of (s33 _ _ (s32 _ _ (s31 _ _ h30))),jok r2 r3,?_⟩;refine ⟨_,_,rfl,rfl,(show 0 < (Str.ofString "(").length by rw[l1];decide),rp,(show (Str.ofString "(").length+(h7 r).length<=sizeLine by rw[l1,sizeLine_eq];omega),_,rfl,(show 0 < (Str.ofString ")").length by rw[l2];decide),(show (Str.ofString "(").length+(h7 r).length+(Str.ofString ")").length<=sizeLine by rw[l1,l2,sizeLine_eq];omega),?_⟩;refine ⟨rfl,_,rfl,_,c3,_,rfl,rfl,g8.of h33,jok w2 w3,?_⟩;refine ⟨_,_,rfl,rfl,(show 0 < (Str.ofString "(").length by rw[l1];decide),wp,(show (Str.ofString "(").length+(h7 (w5 r)).length<=sizeLine by rw[l1,sizeLine_eq];omega),_,rfl,(show 0 < (Str.ofString ")").length by rw[l2];decide),(show (Str.ofString "(").length+(h7 (w5 r)).length+(Str.ofString ")").length<=sizeLine by rw[l1,l2,sizeLine_eq];omega),?_⟩;refine ⟨G3 p j,Str.ofString "("++h7 r++Str.ofString ")",Str.ofString "("++h7 (w5 r)++Str.ofString ")",rfl,rfl,rfl,by rw[Str.length_append,Str.length_append,l1];omega,by rw[Str.length_append,Str.length_append,l1,l2];omega,by rw[st,sizeLine_eq];omega,?_⟩;rw[st];exact ⟨_,_,_,rfl,sy.trans (s30.trans (s31.trans (s32.trans s33)))⟩
   rintro σ Hy ⟨v5,v8,v9,rfl,sy⟩;rw[bs1,rows.1,ers];have s7y:=s721.trans sy;have tapy:y7 Hy pa p:=⟨s7y _ _ tap.1,tap.2⟩;refine ⟨_,rfl,pa,p,rfl,tapy,fun b1 t1 H40 nb1 s40 pw1 h40=> ?_⟩;have tt1:=Z3 tp pw1;refine ⟨b1,t1,rfl,⟨h40,tt1,by rw[pw1.1];exact lp⟩,fun H41 s41=>⟨_,rfl,rfl,_,rfl,P5 (congrArg V.str (aw9 tp pw1)) ?_⟩⟩;have s741:=s7y.trans (s40.trans s41);refine ⟨_,rfl,g,64,rfl,D7.same s741,by decide,fun r5 H42 d0 d1 D42 kb42=>⟨_,_,rfl,rfl,?_⟩⟩;have tap42:y7 H42 pa p:=⟨kb42 _ _ (s741 _ _ tap.1) npg,tap.2⟩;refine ⟨_,rfl,_,rfl,pa,p,_,rfl,tap42,fun b2 t2 H43 nb2 s43 pw2 h43=> ?_⟩;have tt2:=Z3 tp pw2
   have lt2:t2.length<=40:=by rw[pw2.1];exact lp
   refine ⟨b2,t2,rfl,⟨h43,tt2,lt2⟩,fun H44 s44=> ?_⟩;refine ⟨t2,rfl,tt2,lt2,fun b3 H45 nb3 s45 h45=> ?_⟩;have s4245:=s43.trans (s44.trans s45);refine ⟨_,rfl,_,rfl,pa,p,_,rfl,⟨s4245 _ _ tap42.1,tap.2⟩,fun b4 t4 H46 nb4 s46 pw4 h46=> ?_⟩;have e4:t2=t4:=pw2.uniq pw4;subst e4;refine ⟨b3,b4,_,_,_,rfl,rfl,g8.of (s46 _ _ h45),g8.of h46,V0 K H46 0 t2 t2,_,rfl,P5 rfl ?_⟩;exact ⟨_,_,_,_,_,_,_,_,_,_,rfl,((s07.trans s741).kb kb42 hg0).trans (s4245.trans s46)⟩
end
end My
namespace My
open PySem L2 Mth
theorem J6 {P:List Value->Prop}(h:∀x0,P [x0]):∀us:List Value,us.length=1->P us
 |[_],_=>h _
theorem Y6 {P:List Value->Prop}(h:∀x0 x1,P [x0,x1]):∀us:List Value,us.length=2->P us
 |[_,_],_=>h _ _
theorem bn3 {P:List Value->Prop}(h:∀x0 x1 x2,P [x0,x1,x2]):∀us:List Value,us.length=3->P us
 |[_,_,_],_=>h _ _ _
theorem br9 {l:PySem.W.OpenLaw}{w:World}{K:PySem.W.Frag}{h:Heap}{mg:Str->Option Value}{fa f0 f1 f2 f3 f4 f5 f6 f7 f8 f9 f10 f11 f12 f13 f14 f15 f16 f17 f18 f19 f20 f21 f22 f23 f24 f25 f26 f27:Addr}{tk0:Tok}(X:K.In h)(G:h.Ns mainGlobals mg)(hfa:mg "law"=some (.ref fa))
   (u0:Fu K "is_whole" Q3 f0)
   (u1:Fu K "walk_ring" N6 f1)
   (u2:Fu K "walk_rings" L5 f2)
   (u3:Fu K "send_along" L6 f3)
   (u4:Fu K "is_turn" S9 f4)
   (u5:Fu K "must_be_turn" J1 f5)
   (u6:Fu K "power_of" Q5 f6)
   (u7:Fu K "way_back" Q4 f7)
   (u8:Fu K "rounds_of" N7 f8)
   (u9:Fu K "are_filled_lists" B6 f9)
   (u10:Fu K "things_in" N8 f10)
   (u11:Fu K "from_rounds" J8 f11)
   (u12:Fu K "show_round" L7 f12)
   (u13:Fu K "show_turn" N9 f13)
   (u14:Fu K "read_thing" L8 f14)
   (u15:Fu K "read_round" L9 f15)
   (u16:Fu K "read_rounds" J9 f16)
   (u17:Fu K "read_turn" O0 f17)
   (u18:Fu K "_law_cell_at" K0 f18)
   (u19:Fu K "_law_numbers" K1 f19)
   (u20:Fu K "_law_deck" Q6 f20)
   (u21:Fu K "_law_take" Q7 f21)
   (u22:Fu K "_law_turn" Q8 f22)
   (u23:Fu K "_law_rounds" M0 f23)
   (u24:Fu K "_law_written" K2 f24)
   (u25:Fu K "_law_power" O1 f25)
   (u26:Fu K "_law_other" O2 f26)
   (u27:Fu K "law" U0 f27)
   (m0:PySem.W.nsIn K mainGlobals "MOST_THINGS"=some (some (.int 40 tk0)))
   (zz:Fre K ["len","isinstance","int","bool","list","range","sum","min","max","enumerate","zip","sorted","tuple","str","repr","all","any","set","dict","ValueError"])
   (NB:PySem.W.nsIn K cStatics sharingNotToldKey=some none)
   :∃fd:FuncData,(∀(s:Shared) (v:Value),BindsTo s fd ⟨[v],[]⟩ [("script",v)])/\∀base:Heap,K.In base->base.Ns mainGlobals mg->m5 l.prog w K mg base p5 7 fa fd ["script"] (af0 K):=by
 obtain ⟨d0,a0,F0⟩:=u0;obtain ⟨d1,a1,F1⟩:=u1;obtain ⟨d2,a2,F2⟩:=u2;obtain ⟨d3,a3,F3⟩:=u3;obtain ⟨d4,a4,F4⟩:=u4;obtain ⟨d5,a5,F5⟩:=u5;obtain ⟨d6,a6,F6⟩:=u6;obtain ⟨d7,a7,F7⟩:=u7;obtain ⟨d8,a8,F8⟩:=u8;obtain ⟨d9,a9,F9⟩:=u9;obtain ⟨d10,a10,F10⟩:=u10;obtain ⟨d11,a11,F11⟩:=u11;obtain ⟨d12,a12,F12⟩:=u12;obtain ⟨d13,a13,F13⟩:=u13;obtain ⟨d14,a14,F14⟩:=u14;obtain ⟨d15,a15,F15⟩:=u15;obtain ⟨d16,a16,F16⟩:=u16;obtain ⟨d17,a17,F17⟩:=u17;obtain ⟨d18,a18,F18⟩:=u18;obtain ⟨d19,a19,F19⟩:=u19;obtain ⟨d20,a20,F20⟩:=u20;obtain ⟨d21,a21,F21⟩:=u21;obtain ⟨d22,a22,F22⟩:=u22;obtain ⟨d23,a23,F23⟩:=u23;obtain ⟨d24,a24,F24⟩:=u24;obtain ⟨d25,a25,F25⟩:=u25;obtain ⟨d26,a26,F26⟩:=u26;obtain ⟨d27,a27,F27⟩:=u27;have e:=hfa.symm.trans (PySem.W.mg_of X G a27);cases e;obtain ⟨z0,z1,z2,z3,z4,z5,z6,z7,z8,z9,z10,z11,z12,z13,z14,z15,z16,z17,z18,z19,_⟩:=zz;have zn {y:Str} (z:PySem.W.nsIn K mainGlobals y=some none):=PySem.W.mg_none_of X G z;have B:Bl mg:=⟨zn z0,zn z1,zn z2,zn z3,zn z4,zn z5,zn z6,zn z7,zn z8,zn z9,zn z10,zn z11,zn z12,zn z13,zn z14,zn z15,zn z16,zn z17,zn z18,zn z19⟩;have mt:∃t,mg "MOST_THINGS"=some (.int 40 t):=⟨_,PySem.W.mg_of X G m0⟩
 have b0:=F0.binds (ps:=["thing"]) fun _ _ _ _ _ _=>J6 fun _=>rfl
 have b1:=F1.binds (ps:=["p","first"]) fun _ _ _ _ _ _=>Y6 fun _ _=>rfl
 have b2:=F2.binds (ps:=["p"]) fun _ _ _ _ _ _=>J6 fun _=>rfl
 have b3:=F3.binds (ps:=["target","ring","steps"]) fun _ _ _ _ _ _=>bn3 fun _ _ _=>rfl
 have b4:=F4.binds (ps:=["thing"]) fun _ _ _ _ _ _=>J6 fun _=>rfl
 have b5:=F5.binds (ps:=["thing"]) fun _ _ _ _ _ _=>J6 fun _=>rfl
 have b6:=F6.binds (ps:=["p","k"]) fun _ _ _ _ _ _=>Y6 fun _ _=>rfl
 have b7:=F7.binds (ps:=["p"]) fun _ _ _ _ _ _=>J6 fun _=>rfl
 have b8:=F8.binds (ps:=["p"]) fun _ _ _ _ _ _=>J6 fun _=>rfl
 have b9:=F9.binds (ps:=["rounds"]) fun _ _ _ _ _ _=>J6 fun _=>rfl
 have b10:=F10.binds (ps:=["rounds"]) fun _ _ _ _ _ _=>J6 fun _=>rfl
 have b11:=F11.binds (ps:=["rounds"]) fun _ _ _ _ _ _=>J6 fun _=>rfl
 have b12:=F12.binds (ps:=["ring"]) fun _ _ _ _ _ _=>J6 fun _=>rfl
 have b13:=F13.binds (ps:=["p"]) fun _ _ _ _ _ _=>J6 fun _=>rfl
 have b14:=F14.binds (ps:=["word"]) fun _ _ _ _ _ _=>J6 fun _=>rfl
 have b15:=F15.binds (ps:=["text"]) fun _ _ _ _ _ _=>J6 fun _=>rfl
 have b16:=F16.binds (ps:=["text"]) fun _ _ _ _ _ _=>J6 fun _=>rfl
 have b17:=F17.binds (ps:=["text"]) fun _ _ _ _ _ _=>J6 fun _=>rfl
 have b18:=F18.binds (ps:=["script","k"]) fun _ _ _ _ _ _=>Y6 fun _ _=>rfl
 have b19:=F19.binds (ps:=["cell","many"]) fun _ _ _ _ _ _=>Y6 fun _ _=>rfl
 have b20:=F20.binds (ps:=["cell","many"]) fun _ _ _ _ _ _=>Y6 fun _ _=>rfl
 have b21:=F21.binds (ps:=["deck","many"]) fun _ _ _ _ _ _=>Y6 fun _ _=>rfl
 have b22:=F22.binds (ps:=["deck","most"]) fun _ _ _ _ _ _=>Y6 fun _ _=>rfl
 have b23:=F23.binds (ps:=["p"]) fun _ _ _ _ _ _=>J6 fun _=>rfl
 have b24:=F24.binds (ps:=["p"]) fun _ _ _ _ _ _=>J6 fun _=>rfl
 have b25:=F25.binds (ps:=["p","k"]) fun _ _ _ _ _ _=>Y6 fun _ _=>rfl
 have b26:=F26.binds (ps:=["deck","p"]) fun _ _ _ _ _ _=>Y6 fun _ _=>rfl
 obtain ⟨oc,od,kV,dc,pm,an,cd,ct,sl,rfl,lk,hcd⟩:=id F27.ex;refine ⟨PySem.W.fnOf "law" "law" (K6 U0) (I0 U0) (i6 U0) .none kV dc pm an cd ct,fun s v=> .of_eq rfl,fun base _ _=> ?_⟩;have c_is_whole:j9 l.prog w K mg base "is_whole" 1 ["thing"] (Z4 K):=l9 X G a0 F0 b0 (ba3 F0 B);have zny:j9 l.prog w K mg base "walk_ring" 1 ["p","first"] ai6:=l9 X G a1 F1 b1 (bf5 F1);have zty:j9 l.prog w K mg base "walk_rings" 2 ["p"] x4:=l9 X G a2 F2 b2 (ba4 F2 B zny);have ztx:j9 l.prog w K mg base "send_along" 1 ["target","ring","steps"] Y4:=l9 X G a3 F3 b3 (bf6 F3 B);have zrx:j9 l.prog w K mg base "is_turn" 2 ["thing"] Q9:=l9 X G a4 F4 b4 (av9 F4 B mt c_is_whole);have zuy:j9 l.prog w K mg base "must_be_turn" 3 ["thing"] Y2:=l9 X G a5 F5 b5 (bf4 F5 zrx);have zwz:j9 l.prog w K mg base "power_of" 4 ["p","k"] U1:=l9 X G a6 F6 b6 (ba5 F6 B zuy zty ztx);have ztz:j9 l.prog w K mg base "way_back" 5 ["p"] ai8:=l9 X G a7 F7 b7 (bf7 F7 zwz);have zvy:j9 l.prog w K mg base "rounds_of" 4 ["p"] x4:=l9 X G a8 F8 b8 (al0 F8 zuy zty);have zsz:j9 l.prog w K mg base "are_filled_lists" 1 ["rounds"] W0:=l9 X G a9 F9 b9 (aw1 F9 B);have znx:j9 l.prog w K mg base "things_in" 1 ["rounds"] W1:=l9 X G a10 F10 b10 (aw2 F10);have zxy:j9 l.prog w K mg base "from_rounds" 3 ["rounds"] aj1:=l9 X G a11 F11 b11 (bf8 F11 zsz znx zrx ztx);have zwy:j9 l.prog w K mg base "show_round" 1 ["ring"] aa0:=l9 X G a12 F12 b12 (ad9 F12 B);have zzx:j9 l.prog w K mg base "show_turn" 5 ["p"] M1:=l9 X G a13 F13 b13 (aj5 F13 zvy zwy);have zwx:j9 l.prog w K mg base "read_thing" 1 ["word"] aa1:=l9 X G a14 F14 b14 (ae0 F14 B mt);have zv:j9 l.prog w K mg base "read_round" 2 ["text"] aa2:=l9 X G a15 F15 b15 (ae2 F15 zwx);have zxz:j9 l.prog w K mg base "read_rounds" 3 ["text"] W3:=l9 X G a16 F16 b16 (aa4 F16 zv);have zyx:j9 l.prog w K mg base "read_turn" 6 ["text"] aj6:=l9 X G a17 F17 b17 (aj7 F17 B zxz zxy zzx);have zxx:j9 l.prog w K mg base "_law_cell_at" 1 ["script","k"] (aj3 K):=l9 X G a18 F18 b18 (Z7 F18 B);have zx:j9 l.prog w K mg base "_law_numbers" 1 ["cell","many"] E2:=l9 X G a19 F19 b19 (Z8 F19 B);have zux:j9 l.prog w K mg base "_law_deck" 2 ["cell","many"] E2:=l9 X G a20 F20 b20 (al2 F20 zx);have zzz:j9 l.prog w K mg base "_law_take" 1 ["deck","many"] T1:=l9 X G a21 F21 b21 (al4 F21);have zt:j9 l.prog w K mg base "_law_turn" 2 ["deck","most"] Z9:=l9 X G a22 F22 b22 (al5 F22 B zzz);have zy:j9 l.prog w K mg base "_law_rounds" 1 ["p"] x4:=l9 X G a23 F23 b23 (ad7 F23 B);have zw:j9 l.prog w K mg base "_law_written" 2 ["p"] M1:=l9 X G a24 F24 b24 (aa5 F24 B zy);have zuz:j9 l.prog w K mg base "_law_power" 2 ["p","k"] ak0:=l9 X G a25 F25 b25 (ak1 F25 B zy);have zvx:j9 l.prog w K mg base "_law_other" 2 ["deck","p"] aa9:=l9 X G a26 F26 b26 (ak2 F26 B zzz);exact bk8 F27 B zux zxx zt zzz zvx zzx zyx zw zy ztz zwz zuz NB
theorem bs0 {l:PySem.W.OpenLaw}{q:Program}{loose:List Str}{XP:(Str->Option Value)->Heap->Prop}{YP:World->Heap->Prop}{d:DefRec}{K:Params->PySem.W.Frag}(hn:l.most=some 63)(hdf:d.params.defaults=[])
   (hY:∀(w:World) (h:Heap),YP w h->(K w.params).In h)
   (F:∀(w:World) (mg:Str->Option Value) (fa:Addr) (h:Heap),(K w.params).In h->h.Ns mainGlobals mg->mg d.name=some (.ref fa)->
     ∃fd:FuncData,(∀(s:Shared) (u:Value),BindsTo s fd ⟨[u],[]⟩ [("script",u)])/\∀base:Heap,(K w.params).In base->base.Ns mainGlobals mg->m5 l.prog w (K w.params) mg base p5 7 fa fd ["script"] (af0 (K w.params))):
   PySem.W.WalkO q loose XP YP l.row.toRowW d [] (fun f vs=>PySem.call f vs):=
 L2.br1 (n:=63) (k:=7) (x:="script") (CX:=fun _=>p5) (sp:=fun w=>af0 (K w.params)) hn (by decide) hdf ⟨rfl,by decide,by decide,rfl⟩ hY F (fun _ _ a ns hl _ hS=>⟨a,ns,rfl,hS,hl,fun _=>rfl⟩) fun _ _ _ _ _ z=>z
end My
end
open PySem PySem.W PyProof.Rows L2
set_option maxRecDepth 100000 in
set_option maxHeartbeats 0 in
theorem PySem.Challenge.cw_turnroots_k48_whole_texts_of_powers_holds : PySem.Challenge.rw_turnroots_k48_whole_texts_of_powers.Holds := by
  w_on; o_law; k_head; (case hw => w_witness2)
  k_fill
  refine My.bs0 (l := PySem.Challenge.rw_turnroots_k48_whole_texts_of_powers) rfl rfl (fun w h Y => PySem.W.kIn_of Y) ?F
  case F =>
    intro w mg fa h KX G hmg
    refine' My.br9 KX G hmg ?_ ?_ ?_ ?_ ?_ ?_ ?_ ?_ ?_ ?_ ?_ ?_ ?_ ?_ ?_ ?_ ?_ ?_ ?_ ?_ ?_ ?_ ?_ ?_ ?_ ?_ ?_ ?_ ?_ ?_ ?_
    all_goals first
      | k_is
      | (refine' bn7 ?a ?l ?c ?k; (case a => k_is); (case l => k_is); (case c => k_is); (case k => k_is))
      | ((repeat (refine' And.intro (ClF.mk ?n ?e ?g ?h ?c ?b ?o ?i ?t ?u ?v ?s) ?_; (case n => k_is); (case e => k_exc); (case g => k_is); (case h => k_is); (case c => k_is); (case b => k_is); (case o => k_is); (case i => k_is); (case t => k_is); (case u => k_is); (case v => k_is); (case s => k_is))); exact trivial)
      | ((repeat (refine' And.intro ?n ?_; (case n => k_is))); exact trivial)
      | ((repeat (refine' And.intro ?zp ?_; (case zp => ((repeat (refine' And.intro ?n ?_; (case n => k_is))); exact trivial)))); exact trivial)
      | skip
#print axioms PySem.Challenge.cw_turnroots_k48_whole_texts_of_powers_holds
