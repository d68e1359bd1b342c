import PyProof.Rows.All
import Wide.All
import OpenK.AllK
import Wide.FinOn
import Lean
import PyProof.EqAt
import PyProof.EqKinds
import PyProof.TupleCall
import PyProof.NeKinds
import PyProof.EnumMake
import PyProof.Rows.SeqMore2
import PyProof.ZipIter
import PyProof.Rows.SortRev
import PyProof.Rows.SortWalk
import PyProof.Rows.CallKwBuiltin
import PyProof.DictIter
import PyProof.DictWalks
import PyProof.MeetsDict
import PyProof.Conv_int_bool
import PyProof.EqAt
import PyProof.CollectWalk
import PyProof.Rows.SortShell
import PyProof.Rows.Range3
import PyProof.CallFns
import PyProof.StrBlockH
import PySem.Challenge.RW_turnroots_k10_no_rounds
open List renaming length_map→co8, length_append→co9, getElem?_eq_some_iff→cp0, getElem?_eq_getElem→cp1, size_toArray→cp2, mem_of_getElem?→cp3, mem_append→cp4, map_append→cp5, mem_cons_of_mem→cp6, mem_cons_self→cp7, mem_append_right→cp8, length_cons→cp9, length_take→cq2, getElem?_map→cq4, mem_cons→cq5, flatten_append→cq6, mem_singleton→cq7, length_drop→cq9, map_cons→cr0, flatten_singleton→cr1, nodup_iff_pairwise_ne→cr3, flatten_cons→cr4, replicate→cr6, take_length→cr7, getElem?_eq_none→cr8, getElem_mem→cs0, length_singleton→cs2, mem_append_left→cs3, getElem?_append_right→cs4, nodup_cons→cs5, mem_map→cs6, take_append_drop→cs7, getElem?_append_left→cs8, getElem?_take_of_lt→ct0, lookup_cons→ct1, mem_flatten→ct2, getD_eq_getElem?_getD→ct3, mem_iff_getElem?→ct4, length_set→ct5, getElem?_of_mem→ct6, eraseIdx_eq_take_drop_succ→ct8, length_pos_iff→ct9, pairwise_iff_getElem→cu0, map_map→cu1, all_eq_true→cu3, mem_range→cu4, ext_getElem?→cu6, range→cu7, filterMap_cons→cu8, replicate_succ→cu9, map_congr_left→cv4, take_of_length_le→cv5, not_mem_nil→cv6, nodup_nil→cv7, length_replicate→cv9, map_nil→cw0, append_nil→cw1, map_take→cw2, length→cw3, getElem?_set_self→cw5, find?_cons→cw6, eq_nil_of_length_eq_zero→cw7, map_drop→cw9, length_range→cx0, nodup_append→cx1, getElem?_set_ne→cx3, perm_middle→cx4, any_cons→cx5, map_id→cx6, getElem?_drop→cx8, map_set→cy1, append_assoc→cy2, pairwise_map→cy3, perm_append_comm→cy4, eraseIdx_sublist→cy5, mem_of_mem_take→cy6, mem_of_mem_drop→cy7, range_succ→cy9, mem_filterMap→cz1, append_of_mem→cz2, sum_cons→cz8, mem_or_eq_of_mem_set→da1, countP_cons→da5, getElem?_replicate→da7, of_mem_zip→da9, take_zero→db2
open Nat renaming le_refl→cq0, le_trans→cq3, lt_of_lt_of_le→cr2, le_of_lt→cr5, ne_of_lt→cr9, zero_le→cs1, mod_eq_of_lt→ct7, lt_of_le_of_lt→cu2, lt_irrefl→cv0, add_le_add_left→cv3, ne_of_gt→cw4, add_mod_right→cx2, min_eq_left→cx7, add_comm→cx9, zero_add→cy0, mul_le_mul_right→cy8, log2_lt→cz4, lt_succ_of_lt→cz6, gcd→cz9, log2_zero→da0, succ_le_succ→da3, mod_lt→da4, succ_mul→da8, le_succ→db1
open Bool renaming false_ne_true→cq1, and_eq_true→cs9, eq_iff_iff→cv2, or_eq_true→cz0
open Int renaming eq_ofNat_of_zero_le→cq8, toNat_natCast→cu5, emod_lt_of_pos→cv8, emod_nonneg→cw8, fdiv_eq_ediv_of_nonneg→cz3, toNat→cz7, natCast_emod→da6
open Array renaming getElem?_eq_getElem→cv1
open Option renaming isSome_map→cz5, isSome_iff_exists→da2, map_eq_some_iff→db0
set_option Elab.async false
set_option linter.all false
set_option maxRecDepth 100000
set_option maxHeartbeats 8000000
section
local macro_rules|`(tactic|omega)=>`(tactic|lia)
local macro_rules|`(tactic|trivial)=>`(tactic|first|exact .inl rfl|exact .inr rfl|assumption)
local macro_rules|`(tactic|rfl')=>`(tactic|exact ⟨rfl,rfl,rfl,by decide+kernel,rfl,by decide+kernel,by decide+kernel⟩)
namespace L2
open PySem PySem.Spec PyProof.Rows
abbrev A7:=Sum Int Str
def ac8:A7->Value->Bool
 | .inl k,v=>Value.isInt k v
 | .inr x,v=>Value.isStrOf x v
def cl3 (w:World):A7->Int
 | .inl k=>hashInt k
 | .inr x=>hashStr w x
theorem C9:∀{k:A7} {v:Value},ac8 k v=true->(∃i t,k=Sum.inl i/\v=Value.int i t)\/(∃x t,k=Sum.inr x/\v=Value.str x t)
 | .inl i,v,h=>by
   obtain ⟨t,e⟩:=Value.isInt_shape (k:=i) (v:=v) h;exact .inl ⟨i,t,rfl,e⟩
 | .inr x,v,h=>by
   obtain ⟨t,e⟩:=Value.isStrOf_shape (x:=x) (v:=v) h;exact .inr ⟨x,t,rfl,e⟩
theorem bl7 (i:Int)(t:Tok):ac8 (.inl i) (.int i t)=true:=by simp [ac8,Value.isInt]
theorem bl8 (x:Str)(t:Tok):ac8 (.inr x) (.str x t)=true:=by simp [ac8,Value.isStrOf]
theorem cd8 (a b:Int):decide ((Sum.inl a:A7)=Sum.inl b)=(a==b):=by
 by_cases e:a=b
 · subst e;simp
 · have h:¬(Sum.inl a:A7)=Sum.inl b:=fun q=>e (Sum.inl.inj q)
   rw[decide_eq_false h];exact (beq_eq_false_iff_ne.mpr e).symm
theorem cd9 (a b:Str):decide ((Sum.inr a:A7)=Sum.inr b)=decide (a=b):=by
 by_cases e:a=b
 · subst e;simp
 · have h:¬(Sum.inr a:A7)=Sum.inr b:=fun q=>e (Sum.inr.inj q)
   rw[decide_eq_false h,decide_eq_false e]
theorem ce0 (a:Int)(b:Str):decide ((Sum.inl a:A7)=Sum.inr b)=false:=decide_eq_false (fun q=>nomatch q)
theorem ce1 (a:Str)(b:Int):decide ((Sum.inr a:A7)=Sum.inl b)=false:=decide_eq_false (fun q=>nomatch q)
def C0 (prog:Program)(w:World):PySem.KeyKind prog w A7 where
 is:=ac8
 hash:=cl3 w
 inj:=fun v a b ha hb=>by
   rcases C9 ha with ⟨i,t,rfl,rfl⟩|⟨x,t,rfl,rfl⟩
   · rcases C9 hb with ⟨j,u,rfl,e⟩|⟨y,u,rfl,e⟩
     · injection e with e1 _;rw[e1]
     · exact nomatch e
   · rcases C9 hb with ⟨j,u,rfl,e⟩|⟨y,u,rfl,e⟩
     · exact nomatch e
     · injection e with e1 _;rw[e1]
 byValue:=fun k v h=>by
   rcases C9 h with ⟨i,t,rfl,rfl⟩|⟨x,t,rfl,rfl⟩<;>rfl
 pyHash:=fun hv h=>by
   rcases C9 hv with ⟨i,t,rfl,rfl⟩|⟨x,t,rfl,rfl⟩
   · exact wpAny_pyHash_int h
   · exact wpAny_pyHash_str h
 eqBool:=fun hu hv h=>by
   rcases C9 hu with ⟨i,t,rfl,rfl⟩|⟨x,t,rfl,rfl⟩
   · rcases C9 hv with ⟨j,u,rfl,rfl⟩|⟨y,u,rfl,rfl⟩
     · rw[cd8] at h;exact wpAny_eqBool_int h
     · rw[ce0] at h;exact SeqAt.EqAt.int_str i t y u _ _ _ _ h
   · rcases C9 hv with ⟨j,u,rfl,rfl⟩|⟨y,u,rfl,rfl⟩
     · rw[ce1] at h;exact SeqAt.EqAt.str_int x t j u _ _ _ _ h
     · rw[cd9] at h;exact wpAny_eqBool_str h
 «strs»:=fun k x t v h=>by
   rcases C9 h with ⟨i,u,rfl,e⟩|⟨y,u,rfl,e⟩
   · exact nomatch e
   · injection e with e1 _
     subst e1
     cases v<;>rfl
theorem be0 (prog:Program)(w:World)(i:Int)(t:Tok):(C0 prog w).is (.inl i) (.int i t)=true:=bl7 i t
theorem be1 (prog:Program)(w:World)(x:Str)(t:Tok):(C0 prog w).is (.inr x) (.str x t)=true:=bl8 x t
end L2
namespace L2
open PySem PySem.Spec PyProof.Rows
inductive V where
 |non|bl (b:Bool)|int (i:Int)|str (x:Str)|byt (b:Array UInt8)|flt (b:UInt64)|ref (a:Addr)|ty (n:String)
 deriving DecidableEq
def y8:V->Value->Prop
 | .non,u=>u=Value.none
 | .bl b,u=>u=Value.bool b
 | .int i,u=>∃t,u=Value.int i t
 | .str x,u=>∃t,u=Value.str x t
 | .byt b,u=>∃t,u=Value.bytes b t
 | .flt b,u=>∃t,u=Value.float b t
 | .ref a,u=>u=Value.ref a
 | .ty n,u=>u=Value.type n
abbrev o5:List V->List Value->Prop:=Paired y8
theorem o5.length {xs:List V}{us:List Value}(r:o5 xs us):xs.length=us.length:=Paired.length r
theorem o5.get:∀{xs:List V} {us:List Value} {i:Nat} {x:V},o5 xs us->xs[i]? =some x->∃u,us[i]? =some u/\y8 x u
 |_,_,_,_,.nil,e=>by simp at e
 |_,_,0,_,.cons r _,e=>by simp at e;subst e;exact ⟨_,rfl,r⟩
 |_,_,i+1,x,.cons _ t,e=>by
  obtain ⟨u,h1,h2⟩:=o5.get (i:=i) (x:=x) t (by simpa using e);exact ⟨u,by simpa using h1,h2⟩
theorem o5.set {x:V}{u:Value}(r:y8 x u):∀{xs:List V} {us:List Value} (i:Nat),o5 xs us->o5 (xs.set i x) (us.set i u)
 |_,_,_,.nil=> .nil
 |_,_,0,.cons _ t=> .cons r t
 |_,_,i+1,.cons q t=> .cons q (o5.set r i t)
theorem o5.append:∀{xs ys:List V} {us ws:List Value},o5 xs us->o5 ys ws->o5 (xs++ys) (us++ws)
 |_,_,_,_,.nil,s=>s
 |_,_,_,_,.cons r t,s=> .cons r (o5.append t s)
theorem o5.take:∀{xs:List V} {us:List Value} (n:Nat),o5 xs us->o5 (xs.take n) (us.take n)
 |_,_,0,_=> .nil
 |_,_,_+1,.nil=> .nil
 |_,_,n+1,.cons r t=> .cons r (o5.take n t)
theorem o5.drop:∀{xs:List V} {us:List Value} (n:Nat),o5 xs us->o5 (xs.drop n) (us.drop n)
 |_,_,0,r=>r
 |_,_,_+1,.nil=> .nil
 |_,_,n+1,.cons _ t=>o5.drop n t
def al7:Option V->Option Value->Prop
 |some v,some u=>y8 v u
 |none,none=>True
 |_,_=>False
def KV {κ:Type}:List (κ×V)->List (κ×Value)->Prop:=Paired fun (p:κ×V) (q:κ×Value)=>p.1=q.1/\y8 p.2 q.2
def kV:A7->V
 | .inl i=> .int i
 | .inr x=> .str x
inductive HO where
 |lst (xs:List V)
 |tup (xs:List V)
 |dK (kvs:List (A7×V))|dT (kvs:List (List A7×V))
 |set (S:Int->Bool) (n:Nat)
 |ins (C dx:Addr) (fs:List (Str×V))
 |own (x:Addr)
 |xd (fs:List (Str×V))
 |met (f x:Addr)
 |rng (lo hi:Int)
 |frz (o:Obj) (u:HO)
 |tbl (ps:Array Value)
 |ext (φ:Heap->Prop)
abbrev Hp:=Addr->Option HO
def e8 (H:Hp)(a:Addr)(o:HO):Hp:=fun b=>if b=a then some o else H b
theorem c8 {H:Hp}{a:Addr}{o:HO}:e8 H a o a=some o:=by unfold e8;rw[if_pos rfl]
theorem i6 {H:Hp}{a b:Addr}{o:HO}(h:b≠a):e8 H a o b=H b:=by unfold e8;rw[if_neg h]
theorem bx4 {H:Hp}{a b:Addr}{o u:HO}(h:H a=some o)(h':H b=some u)(d:o≠u):a≠b:=by
 intro e;subst e;rw[h] at h';exact d (Option.some.inj h')
theorem i9 {H:Hp}{a b:Addr}{o:HO}(h:H a=some o)(h':H b=none):a≠b:=by
 intro e;subst e;rw[h] at h';cases h'
section
variable (P:Program) (w:World)
def B1 (H:Hp)(h:Heap)(a:Addr):HO->Prop
 | .lst xs=>xs.length<=sizeLine/\∃(its:List Value) (n:Nat),o5 xs its/\h.get? a=some {cls:= .type "list",data:= .seq its.toArray n}
 | .tup xs=>xs.length<=sizeLine/\∃its:List Value,o5 xs its/\IsTup h a its.toArray
 | .dK kvs=>kvs.length<=sizeLine/\(a==sysModules)=false/\∃vs,KV kvs vs/\h.DictOf (C0 P w) a vs
 | .dT kvs=>kvs.length<=sizeLine/\(a==sysModules)=false/\∃xs:List (List A7×Addr×Value),
     Paired (fun (p:List A7×V) (q:List A7×Addr×Value)=>p.1=q.1/\H q.2.1=some (.tup (p.1.map kV))/\y8 p.2 q.2.2) kvs xs/\
     ∃o es ep,h.get? a=some o/\o.ExactDict/\o.data= .dict es ep/\es.toList=xs.map (entryOfKey (tupleKind (C0 P w)))/\(xs.map (·.1)).Nodup
 | .set S n=>h.SetOf (intKind P w) a S n
 | .ins C dx fs=>H dx=some (.own a)/\fs.length<=1000/\dx≠a/\h.get? a=some (PySem.W.instObj C dx)/\
     ∃mA,h.Ns1 dx mA/\(∀f,al7 (fs.lookup f) (mA f))/\PySem.Within mA (fs.map (·.1))
 | .own _=>∃o,h.get? a=some o
 | .xd fs=>∃mA,h.Ns1 a mA/\∀f,al7 (fs.lookup f) (mA f)
 | .rng lo hi=>∃t u v,h.get? a=some {cls:= .type "range",data:= .fields #[.int lo t,.int hi u,.int 1 v]}
 | .frz o u=>h.get? a=some o/\B1 H h a u
 | .tbl ps=>h.get? a=some {cls:= .none,data:= .fields ps}
 | .met f x=>h.get? a=some (PySem.W.methodObj (.ref f) (.ref x))
 | .ext φ=>φ h/\(∃o,h.get? a=some o)/\∀h1 h2:Heap,φ h1->(∀o,h1.get? a=some o->h2.get? a=some o)->φ h2
def D0 (H:Hp)(h:Heap):Prop:=∀a o,H a=some o->B1 P w H h a o
end
section
variable {P:Program} {w:World} {H H':Hp} {h h':Heap} {a:Addr} {o:HO}
theorem B1.lt (x:B1 P w H h a o):a < h.objs.size:=by
 cases o with
 |lst xs=>obtain ⟨_,_,_,_,e⟩:=x;exact Heap.lt_size e
 |tup xs=>obtain ⟨_,_,_,p⟩:=x;exact p.lt
 |dK kvs=>obtain ⟨_,_,_,_,o,_,_,e,_⟩:=x;exact Heap.lt_size e
 |dT kvs=>obtain ⟨_,_,_,_,o,_,_,e,_⟩:=x;exact Heap.lt_size e
 |set S n=>obtain ⟨o,_,_,_,e,_⟩:=x;exact Heap.lt_size e
 |ins C dx fs=>obtain ⟨_,_,_,e,_⟩:=x;exact Heap.lt_size e
 |own y=>obtain ⟨_,e⟩:=x;exact Heap.lt_size e
 |xd fs=>obtain ⟨_,⟨_,_,_,e,_⟩,_⟩:=x;exact Heap.lt_size e
 |rng lo hi=>obtain ⟨_,_,_,e⟩:=x;exact Heap.lt_size e
 |frz ob u=>obtain ⟨e,_⟩:=x;exact Heap.lt_size e
 |tbl ps=>exact Heap.lt_size (show h.get? a=some _ from x)
 |met f y=>exact Heap.lt_size (show h.get? a=some _ from x)
 |ext φ=>obtain ⟨_,⟨_,e⟩,_⟩:=x;exact Heap.lt_size e
theorem Paired.mapP {α β:Type}{F G:α->β->Prop}:∀{l₁:List α} {l₂:List β},Paired F l₁ l₂->(∀a b,F a b->G a b)->Paired G l₁ l₂
 |_,_,.nil,_=> .nil
 |_,_,.cons r t,f=> .cons (f _ _ r) (Paired.mapP t f)
theorem B1.stay (x:B1 P w H h a o)(k:∀b u,(b=a\/H b=some (.own a))->h.get? b=some u->h'.get? b=some u)
   (ho:∀b,H b=some (.own a)->H' b=some (.own a)) (ht:∀b xs,H b=some (.tup xs)->H' b=some (.tup xs)):B1 P w H' h' a o:=by
 induction o with
 |lst xs=>obtain ⟨z,its,n,r,e⟩:=x;exact ⟨z,its,n,r,k _ _ (.inl rfl) e⟩
 |tup xs=>obtain ⟨z,its,r,ob,e,c⟩:=x;exact ⟨z,its,r,ob,k _ _ (.inl rfl) e,c⟩
 |dK kvs=>obtain ⟨z,y,vs,r,ob,es,ep,e,c⟩:=x;exact ⟨z,y,vs,r,ob,es,ep,k _ _ (.inl rfl) e,c⟩
 |dT kvs=>
  obtain ⟨z,y,xs,r,ob,es,ep,e,c⟩:=x;exact ⟨z,y,xs,Paired.mapP r fun p q z=>⟨z.1,ht _ _ z.2.1,z.2.2⟩,ob,es,ep,k _ _ (.inl rfl) e,c⟩
 |set S n=>obtain ⟨ob,es,ep,t,e,c⟩:=x;exact ⟨ob,es,ep,t,k _ _ (.inl rfl) e,c⟩
 |ins C dx fs=>
  obtain ⟨d,z,ne,e,mA,⟨od,es,ep,e2,c⟩,r⟩:=x;exact ⟨ho _ d,z,ne,k _ _ (.inl rfl) e,mA,⟨od,es,ep,k _ _ (.inr d) e2,c⟩,r⟩
 |own y=>obtain ⟨ob,e⟩:=x;exact ⟨ob,k _ _ (.inl rfl) e⟩
 |xd fs=>obtain ⟨mA,⟨od,es,ep,e,c⟩,r⟩:=x;exact ⟨mA,⟨od,es,ep,k _ _ (.inl rfl) e,c⟩,r⟩
 |rng lo hi=>obtain ⟨t,u,v,e⟩:=x;exact ⟨t,u,v,k _ _ (.inl rfl) e⟩
 |frz ob u ih=>obtain ⟨e,q⟩:=x;exact ⟨k _ _ (.inl rfl) e,ih q⟩
 |tbl ps=>
  have e:h.get? a=some {cls:= .none,data:= .fields ps}:=x;show h'.get? a=some {cls:= .none,data:= .fields ps};exact k a _ (.inl rfl) e
 |met f y=>
  have e:h.get? a=some (PySem.W.methodObj (.ref f) (.ref y)):=x;show h'.get? a=some (PySem.W.methodObj (.ref f) (.ref y));exact k a _ (.inl rfl) e
 |ext φ=>obtain ⟨p,⟨o,e⟩,st⟩:=x;exact ⟨st _ _ p fun o q=>k _ _ (.inl rfl) q,⟨o,k _ _ (.inl rfl) e⟩,st⟩
theorem D0.lt (x:D0 P w H h)(e:H a=some o):a < h.objs.size:=(x a o e).lt
theorem D0.fresh (x:D0 P w H h)(e:h.objs.size<=a):H a=none:=by
 cases q:H a with
 |none=>rfl
 |some u=>exact absurd (cr2 (x.lt q) e) (cv0 _)
theorem D0.kept (x:D0 P w H h)(k:∀b u,h.get? b=some u->h'.get? b=some u):D0 P w H h':=fun a o e=>
 (x a o e).stay (fun b u _ q=>k b u q) (fun _ q=>q) fun _ _ q=>q
theorem D0.laid (x:D0 P w H h)(k:∀b u,h.get? b=some u->h'.get? b=some u)(hp:h.objs.size<=a)(new:B1 P w (e8 H a o) h' a o):D0 P w (e8 H a o) h':=fun b u e=>by
 have hn:=x.fresh hp
 by_cases hb:b=a
 · subst hb;rw[c8] at e;cases e;exact new
 · rw[i6 hb] at e
   exact (x b u e).stay (fun c v _ q=>k c v q) (fun c q=>by rw[i6 (i9 q hn)];exact q) fun c xs q=>by rw[i6 (i9 q hn)];exact q
end
def Rd (H:Hp)(a:Addr)(u:HO):Prop:=H a=some u\/∃o,H a=some (.frz o u)
theorem Rd.ok {P:Program}{w:World}{H:Hp}{h:Heap}{a:Addr}{u:HO}(r:Rd H a u)(x:D0 P w H h):B1 P w H h a u:=by
 rcases r with r|⟨o,r⟩
 · exact x a u r
 · obtain ⟨_,q⟩:=x a _ r;exact q
def Mut:Option HO->Prop
 |some (.lst _)=>True
 |some (.dK _)=>True
 |some (.dT _)=>True
 |some (.set _ _)=>True
 |some (.ins _ _ _)=>True
 |some (.ext _)=>True
 |_=>False
section
variable {P:Program} {w:World} {H:Hp} {h h':Heap} {x e:Addr} {o':HO}
theorem D0.write (ok:D0 P w H h)(mu:Mut (H x))(he:e=x\/H e=some (.own x))(k:∀b u,b≠e->h.get? b=some u->h'.get? b=some u)(heo:∃u,h'.get? e=some u)
   (new:B1 P w (e8 H x o') h' x o'):D0 P w (e8 H x o') h':=fun b u q=>by
 have nown:∀c y,H c=some (.own y)->c≠x:=fun c y r z=>by subst z;rw[r] at mu;exact mu
 have ntup:∀c xs,H c=some (.tup xs)->c≠x:=fun c xs r z=>by subst z;rw[r] at mu;exact mu
 by_cases hb:b=x
 · subst hb;rw[c8] at q;cases q;exact new
 · rw[i6 hb] at q
   by_cases hbe:b=e
   · have q':H b=some (.own x):=by
       rcases he with z|z
       · exact absurd (hbe.trans z) hb
       · rw[hbe];exact z
     rw[q] at q';cases q';obtain ⟨v,hv⟩:=heo;exact ⟨v,by rw[hbe];exact hv⟩
   · refine (ok b u q).stay (fun c v hc r=>k c v ?_ r) (fun c r=>by rw[i6 (nown c b r)];exact r) fun c xs r=>by rw[i6 (ntup c xs r)];exact r
     rcases hc with rfl|hc
     · exact hbe
     · rintro rfl
       rcases he with z|z
       · exact nown c b hc z
       · rw[hc] at z;cases z;exact hb rfl
end
structure Un (fs ex:List Addr)(H H':Hp)(h h':Heap):Prop where
 keep:∀b o,h.get? b=some o->H b=none->b∉fs->b∉ex->h'.get? b=some o
 slot:∀b o,h.get? b=some o->H b=none->b∈fs->b∉ex->∃sl,h'.get? b=some {o with slots:=sl}
 free:∀b o,h.get? b=some o->H b=none->b∉ex->H' b=none
 there:∀b o,h.get? b=some o->b∉ex->∃o',h'.get? b=some o'
 tups:∀b xs,H b=some (.tup xs)->H' b=some (.tup xs)
 frzs:∀b o u,H b=some (.frz o u)->H' b=some (.frz o u)
 tbls:∀b ps,H b=some (.tbl ps)->∃more,H' b=some (.tbl (ps++more))
section
variable {fs fs' ex ex':List Addr} {H H1 H2:Hp} {h h1 h2 h':Heap} {a x e:Addr} {o:HO}
theorem Un.any (u:Un fs ex H H1 h h1){b:Addr}{ob:Obj}(q:h.get? b=some ob)(n:H b=none)(hx:b∉ex):∃sl,h1.get? b=some {ob with slots:=sl}:=by
 by_cases hb:b∈fs
 · exact u.slot b ob q n hb hx
 · exact ⟨ob.slots,u.keep b ob q n hb hx⟩
theorem Un.kept (k:∀b u,h.get? b=some u->h'.get? b=some u):Un fs ex H H h h':=
 ⟨fun b ob q _ _ _=>k b ob q,fun b ob q _ _ _=>⟨ob.slots,k b ob q⟩,fun _ _ _ n _=>n,fun b ob q _=>⟨ob,k b ob q⟩,fun _ _ q=>q,fun _ _ _ q=>q,fun _ ps q=>⟨#[],by rw[q];simp⟩⟩
theorem Un.refl:Un fs ex H H h h:=Un.kept fun _ _ q=>q
theorem Un.laid (k:∀b u,h.get? b=some u->h'.get? b=some u)(hp:h.objs.size<=a)(hn:H a=none):Un fs ex H (e8 H a o) h h' where
 keep:=fun b u q _ _ _=>k b u q
 slot:=fun b u q _ _ _=>⟨u.slots,k b u q⟩
 free:=fun b u q n _=>by rw[i6 (cr9 (cr2 (Heap.lt_size q) hp))];exact n
 there:=fun b u q _=>⟨u,k b u q⟩
 tups:=fun b xs q=>by rw[i6 (i9 q hn)];exact q
 frzs:=fun b u xs q=>by rw[i6 (i9 q hn)];exact q
 tbls:=fun b ps q=>⟨#[],by rw[i6 (i9 q hn),q];simp⟩
theorem Un.write (mu:Mut (H x))(he:e=x\/H e=some (.own x))(k:∀b u,b≠e->h.get? b=some u->h'.get? b=some u)(heo:∃u,h'.get? e=some u):Un fs ex H (e8 H x o) h h':=by
 have hx:∀b,H b=none->b≠x:=fun b n z=>by subst z;rw[n] at mu;exact mu
 have hb:∀b,H b=none->b≠e:=fun b n z=>by
   subst z
   rcases he with r|r
   · exact hx b n r
   · rw[n] at r;cases r
 have hm:∀b u,H b=some u->¬Mut (some u)->b≠x:=fun b u q nm z=>by subst z;rw[q] at mu;exact nm mu
 refine ⟨fun b u q n _ _=>k b u (hb b n) q,fun b u q n _ _=>⟨u.slots,k b u (hb b n) q⟩,fun b u q n _=>by rw[i6 (hx b n)];exact n,fun b u q _=> ?_,
   fun b xs q=>by rw[i6 (hm b _ q fun z=>z)];exact q,fun b u xs q=>by rw[i6 (hm b _ q fun z=>z)];exact q,fun b ps q=>⟨#[],by rw[i6 (hm b _ q fun z=>z),q];simp⟩⟩
 by_cases hbe:b=e
 · subst hbe;exact heo
 · exact ⟨u,k b u hbe q⟩
end
def trk (h:Heap)(H:Hp):List Addr:=(cu7 h.objs.size).filter fun a=>(H a).isSome
def ac9 (h:Heap)(H:Hp):Heap:=PySem.W.hideAll h (trk h H)
theorem bm0 (h:Heap)(H:Hp):(ac9 h H).objs.size=h.objs.size:=PySem.W.hideAll_size _ _
theorem bt0 {h:Heap}{H:Hp}{b:Addr}{o:Obj}(e:h.get? b=some o)(n:H b=none):(ac9 h H).get? b=some o:=
 PySem.W.hideAll_get _ e fun hm=>by
   have q:(H b).isSome=true:=(List.mem_filter.mp hm).2;rw[n] at q;simp at q
theorem bz0 {h:Heap}{H:Hp}{b:Addr}{o:Obj}(e:(ac9 h H).get? b=some o):h.get? b=some o/\H b=none:=by
 have e':h.get? b=some o:=PySem.W.of_hideAll (trk h H) e;refine ⟨e',?_⟩
 cases q:H b with
 |none=>rfl
 |some x=>
  have hm:b∈trk h H:=List.mem_filter.mpr ⟨cu4.mpr (Heap.lt_size e'),by simp [q]⟩;have z:(ac9 h H).get? b=none:=PySem.W.hideAll_none (trk h H) hm;rw[z] at e;cases e
end L2
namespace L2
open PySem PySem.Spec PyProof.Rows
structure Mod (K:PySem.W.Frag)(mg:Str->Option Value)(base:Heap):Prop where
 kin:K.In base
 glob:base.Ns mainGlobals mg
 blt:∃mb,base.Ns builtinsNs mb/\∀x:Str,x≠"__name__"->mb x=bootBuiltins x
 nolimit:base.NoLimit
structure Cx where
 prog:Program
 w:World
 K:PySem.W.Frag
 mg:Str->Option Value
 base:Heap
 A:Around
 N:List Str
 s₀:Shared
 H₀:Hp
 env:Env
 outer:List Env
 stack:List Env
 ex:List Addr
 fn:Str->Bool
 calm:Bool
 pn:List (Addr×Obj)
 xe:Value->Shared->Prop
def C5 (l:List Env):List Addr:=l.filterMap (·.frame)
abbrev Cx.fs (X:Cx):List Addr:=C5 X.outer
def Vis (sc:Scope)(x:Str):Prop:=sc.names.lookup x=some .local\/sc.names.lookup x=some .cell\/sc.names.lookup x=some .free
def Loc (sc:Scope)(x:Str):Prop:=sc.names.lookup x=some .local\/sc.names.lookup x=some .cell
def cl4 (env:Env)(h:Heap)(m:Str->Option Value)(x:Str)(u:Value):Prop:=
 (env.kindOf x=some .local/\m x=some u)\/((env.kindOf x=some .cell\/env.kindOf x=some .free)/\∃c,env.cells.lookup x=some c/\h.IsCell c (some u))
structure Cx.Ok (X:Cx):Prop where
 mod:Mod X.K X.mg X.base
 kind:X.env.scope.kind= .function
 glob:X.env.globals=mainGlobals
 blt:X.env.builtins=builtinsNs
 above:X.s₀.heap.objs.size<=X.env.locals
 inj:∀x y c,X.env.cells.lookup x=some c->X.env.cells.lookup y=some c->x=y
 has:∀x,(X.env.kindOf x=some .cell\/X.env.kindOf x=some .free)->∃c,X.env.cells.lookup x=some c
 cab:∀x c,X.fn x=true->X.env.cells.lookup x=some c->X.s₀.heap.objs.size<=c
 hd:X.calm=true->X.A.handled=none
 frames:X.A.frames=some X.stack
 stk:X.stack=X.outer\/(X.stack=X.env::X.outer/\X.env.frame=some X.env.locals)
 exf:∀b∈X.ex,b≠X.env.locals/\∀x c,X.env.cells.lookup x=some c->c≠b
 bs:∀b o,X.base.get? b=some o->X.s₀.heap.get? b=some o/\X.H₀ b=none
 bsz:X.base.objs.size<=X.s₀.heap.objs.size
 noex:∀b o,X.base.get? b=some o->b∉X.ex
 exfs:∀b∈X.ex,b∉X.fs
 funs:X.s₀.heap.FunFrames X.base X.outer
 frf:∀b∈X.fs,X.H₀ b=none
structure j9 (X:Cx)(pins:List (Addr×Obj))(σ:List (Option V))(H:Hp)(s:Shared):Prop where
 ok:X.Ok
 os:s.os=X.s₀.os
 bare:AllBare s.gens
 base:Un X.fs X.ex X.H₀ H X.s₀.heap s.heap
 loc:∃m,s.heap.Ns X.env.locals m/\∀(i:Nat) (x:Str) (v:V),X.N[i]? =some x->σ[i]? =some (some v)->Vis X.env.scope x->∃u,y8 v u/\cl4 X.env s.heap m x u
 cell:∀x c,X.env.cells.lookup x=some c->∃v,s.heap.IsCell c v
 free:H X.env.locals=none
 freeC:∀x c,X.env.cells.lookup x=some c->H c=none
 pin:∀p∈X.pn++pins,s.heap.get? p.1=some p.2/\H p.1=none/\p.1≠X.env.locals/\p.1∉X.fs/\∀v,p.2.data≠.cell v
 hok:D0 X.prog X.w H s.heap
 len:σ.length=X.N.length
section
variable {X:Cx} {pins:List (Addr×Obj)} {σ:List (Option V)} {H H':Hp} {s:Shared} {h':Heap}
theorem Cx.Ok.nofr (ok:X.Ok){b:Addr}{o:Obj}(e:X.base.get? b=some o):b∉X.fs:=fun hb=>by
 have:=(ok.funs.mem hb).1;rw[e] at this;cases this
theorem j9.bs (I:j9 X pins σ H s):∀b o,X.base.get? b=some o->s.heap.get? b=some o/\H b=none:=fun b o e=>
 ⟨I.base.keep b o (I.ok.bs b o e).1 (I.ok.bs b o e).2 (I.ok.nofr e) (I.ok.noex b o e),I.base.free b o (I.ok.bs b o e).1 (I.ok.bs b o e).2 (I.ok.noex b o e)⟩
theorem j9.bk (I:j9 X pins σ H s):∀b o,X.base.get? b=some o->s.heap.get? b=some o:=fun b o e=>(I.bs b o e).1
theorem j9.mod (I:j9 X pins σ H s):Mod X.K X.mg X.base:=I.ok.mod
theorem j9.kIn (I:j9 X pins σ H s):X.K.In s.heap:=I.ok.mod.kin.keeps I.bk
theorem j9.lt (I:j9 X pins σ H s):X.env.locals < s.heap.objs.size:=let ⟨_,hn,_⟩:=I.loc;hn.lt
theorem j9.sz (I:j9 X pins σ H s):X.s₀.heap.objs.size<=s.heap.objs.size:=cq3 I.ok.above (cr5 I.lt)
theorem j9.nofs (I:j9 X pins σ H s){a:Addr}(h:s.heap.objs.size<=a):a∉X.fs:=fun hb=>by
 obtain ⟨_,o,ho,_⟩:=I.ok.funs.mem hb;exact absurd (cr2 (Heap.lt_size ho) (cq3 I.sz h)) (cv0 _)
theorem j9.cne (I:j9 X pins σ H s):∀x c,X.env.cells.lookup x=some c->c≠X.env.locals:=fun x c e z=>by
 obtain ⟨v,o,ho,hd⟩:=I.cell x c e;obtain ⟨m,⟨o',es,ep,ho',hd',_⟩,_⟩:=I.loc;rw[z,ho'] at ho;cases ho;rw[hd'] at hd;cases hd
theorem j9.funs (I:j9 X pins σ H s):s.heap.FunFrames X.base X.outer:=by
 have all:∀(l:List Env),(∀b∈C5 l,b∈X.fs)->X.s₀.heap.FunFrames X.base l->s.heap.FunFrames X.base l:=by
   intro l
   induction l with
   |nil=>intro _ _;trivial
   |cons env r ih=>
    intro hs hl;obtain ⟨hk,⟨L,o,hf,hn,ho,hd⟩,hr⟩:=hl;have hL:L∈X.fs:=hs L (by unfold C5;rw[cu8,hf];exact cp7)
    obtain ⟨sl,e⟩:=I.base.slot L o ho (I.ok.frf L hL) hL fun z=>I.ok.exfs L z hL
    exact ⟨hk,⟨L,_,hf,hn,e,hd⟩,ih (fun b hb=>hs b (by unfold C5;rw[cu8,hf];exact cp6 _ hb)) hr⟩
 exact all X.outer (fun _ hb=>hb) I.ok.funs
theorem j9.stack (I:j9 X pins σ H s):s.heap.FunFrames X.base X.stack:=by
 rcases I.ok.stk with e|⟨e,hf⟩
 · rw[e];exact I.funs
 · rw[e];obtain ⟨m,hn,_⟩:=I.loc;refine .cons (by rw[I.ok.kind];decide) hf hn ?_ I.funs;exact Heap.get?_none_of_le (cq3 I.ok.bsz I.ok.above)
theorem j9.stkSub (I:j9 X pins σ H s):∀b∈C5 X.stack,b∈X.env.locals::X.fs:=fun b hb=>by
 rcases I.ok.stk with e|⟨e,hf⟩
 · rw[e] at hb;exact cp6 _ hb
 · rw[e] at hb;unfold C5 at hb;rw[cu8,hf] at hb;exact hb
theorem j9.stkFree (I:j9 X pins σ H s):∀b∈C5 X.stack,H b=none:=fun b hb=>by
 rcases cq5.mp (I.stkSub b hb) with e|hb
 · rw[e];exact I.free
 · obtain ⟨_,o,ho,_⟩:=I.ok.funs.mem hb
   exact I.base.free b o ho (I.ok.frf b hb) fun z=>I.ok.exfs b z hb
theorem j9.step {g':Array GenState}{t':Nat}{d':Drawn}{ch:List Addr}(I:j9 X pins σ H s)
   (hch:∀b∈ch,(b∈X.ex\/X.s₀.heap.objs.size<=b)/\b≠X.env.locals/\(∀x c,X.env.cells.lookup x=some c->c≠b)/\∀p∈X.pn++pins,p.1≠b)
   (keep:∀b o,b≠X.env.locals->b∉X.fs->b∉ch->s.heap.get? b=some o->H b=none->h'.get? b=some o)
   (slot:∀b o,b≠X.env.locals->b∈X.fs->b∉ch->s.heap.get? b=some o->H b=none->∃sl,h'.get? b=some {o with slots:=sl}) (free:∀b o,b∉ch->s.heap.get? b=some o->H b=none->H' b=none)
   (there:∀b o,b∉ch->s.heap.get? b=some o->∃o',h'.get? b=some o')
   (tups:∀b xs,H b=some (.tup xs)->H' b=some (.tup xs)) (frzs:∀b o u,H b=some (.frz o u)->H' b=some (.frz o u)) (tbls:∀b ps,H b=some (.tbl ps)->∃more,H' b=some (.tbl (ps++more)))
   (ns:∀m,s.heap.Ns X.env.locals m->h'.Ns X.env.locals m) (hok:D0 X.prog X.w H' h') (hg:AllBare g'):
   j9 X pins σ H' {s with heap:=h',gens:=g',drawn:=d',toks:=t'}:=by
 have neL:∀b o,X.s₀.heap.get? b=some o->b≠X.env.locals:=fun b o e=>cr9 (cr2 (Heap.lt_size e) I.ok.above)
 have neC:∀b o,X.s₀.heap.get? b=some o->b∉X.ex->b∉ch:=fun b o e hx hb=>by
   rcases (hch b hb).1 with z|z
   · exact hx z
   · exact absurd (cr2 (Heap.lt_size e) z) (cv0 _)
 have cellK:∀x c,X.env.cells.lookup x=some c->∀v,s.heap.IsCell c v->h'.IsCell c v:=fun x c e v ⟨o,ho,hd⟩=>by
   have nch:c∉ch:=fun z=>(hch c z).2.2.1 x c e rfl
   by_cases hc:c∈X.fs
   · obtain ⟨sl,q⟩:=slot c o (I.cne x c e) hc nch ho (I.freeC x c e);exact ⟨_,q,hd⟩
   · exact ⟨o,keep c o (I.cne x c e) hc nch ho (I.freeC x c e),hd⟩
 refine ⟨I.ok,I.os,hg,⟨fun b o e n hb hx=> ?_,fun b o e n hb hx=> ?_,fun b o e n hx=> ?_,fun b o e hx=> ?_,fun b xs e=>tups b xs (I.base.tups b xs e),fun b o xs e=>frzs b o xs (I.base.frzs b o xs e),fun b ps e=> ?_⟩,?_,fun x c e=> ?_,?_,fun x c e=> ?_,fun p hp=> ?_,hok,I.len⟩
 · exact keep b o (neL b o e) hb (neC b o e hx) (I.base.keep b o e n hb hx) (I.base.free b o e n hx)
 · obtain ⟨sl,e1⟩:=I.base.slot b o e n hb hx;obtain ⟨sl',e2⟩:=slot b _ (neL b o e) hb (neC b o e hx) e1 (I.base.free b o e n hx);exact ⟨sl',e2⟩
 · obtain ⟨o',e1⟩:=I.base.there b o e hx;exact free b o' (neC b o e hx) e1 (I.base.free b o e n hx)
 · obtain ⟨o',e1⟩:=I.base.there b o e hx;exact there b o' (neC b o e hx) e1
 · obtain ⟨m1,e1⟩:=I.base.tbls b ps e;obtain ⟨m2,e2⟩:=tbls b _ e1;exact ⟨m1++m2,by rw[e2,Array.append_assoc]⟩
 · obtain ⟨m,hn,hl⟩:=I.loc;refine ⟨m,ns m hn,fun i x v e1 e2 e3=> ?_⟩;obtain ⟨u,r,l⟩:=hl i x v e1 e2 e3;refine ⟨u,r,?_⟩
   rcases l with l|⟨k,c,e,z⟩
   · exact .inl l
   · exact .inr ⟨k,c,e,cellK x c e _ z⟩
 · obtain ⟨v,z⟩:=I.cell x c e;exact ⟨v,cellK x c e v z⟩
 · obtain ⟨m,⟨o,_,_,ho,_⟩,_⟩:=I.loc;exact free _ o (fun z=>(hch _ z).2.1 rfl) ho I.free
 · obtain ⟨v,o,ho,hd⟩:=I.cell x c e;exact free c o (fun z=>(hch c z).2.2.1 x c e rfl) ho (I.freeC x c e)
 · obtain ⟨e,n,ne,nf,d⟩:=I.pin p hp
   have nch:p.1∉ch:=fun z=>(hch p.1 z).2.2.2 p hp rfl
   exact ⟨keep p.1 p.2 ne nf nch e n,free p.1 p.2 nch e n,ne,nf,d⟩
theorem j9.un {t':Nat}(I:j9 X pins σ H s)(u:Un X.fs [] H H' s.heap h')(hok:D0 X.prog X.w H' h'):j9 X pins σ H' {s with heap:=h',toks:=t'}:=by
 obtain ⟨m,⟨o,es,ep,ho,r⟩,_⟩:=id I.loc;obtain ⟨sl,hL⟩:=u.any ho I.free (by simp)
 exact I.step (g':=s.gens) (d':=s.drawn) (ch:=[]) (fun _ z=>nomatch z) (fun b o _ hb _ e n=>u.keep b o e n hb (by simp)) (fun b o _ hb _ e n=>u.slot b o e n hb (by simp)) (fun b o _ e n=>u.free b o e n (by simp)) (fun b o _ e=>u.there b o e (by simp)) u.tups u.frzs u.tbls (fun m' hm=>by
   obtain ⟨o',es',ep',ho',r'⟩:=hm;rw[ho] at ho';cases ho'
   exact ⟨_,es',ep',hL,r'⟩) hok I.bare
theorem j9.call {g':Array GenState}{t':Nat}{d':Drawn}{ch:List Addr}(I:j9 X pins σ H s)(u:Un (C5 X.stack) ch H H' s.heap h')(hok:D0 X.prog X.w H' h')(hg:AllBare g')
   (hch:∀b∈ch,(b∈X.ex\/X.s₀.heap.objs.size<=b)/\b≠X.env.locals/\(∀x c,X.env.cells.lookup x=some c->c≠b)/\∀p∈X.pn++pins,p.1≠b):
   j9 X pins σ H' {s with heap:=h',gens:=g',drawn:=d',toks:=t'}:=by
 obtain ⟨m,⟨o,es,ep,ho,r⟩,_⟩:=id I.loc
 obtain ⟨sl,hL⟩:=u.any ho I.free fun z=>(hch _ z).2.1 rfl
 exact I.step (ch:=ch) hch (fun b o hL hb hc e n=>u.keep b o e n (fun z=>(cq5.mp (I.stkSub b z)).elim hL hb) hc) (fun b o _ _ hc e n=>u.any e n hc) (fun b o hc e n=>u.free b o e n hc) (fun b o hc e=>u.there b o e hc) u.tups u.frzs u.tbls (fun m' hm=>by
   obtain ⟨o',es',ep',ho',r'⟩:=hm;rw[ho] at ho';cases ho'
   exact ⟨_,es',ep',hL,r'⟩) hok hg
theorem j9.turned {t':Nat}{it:Addr}(I:j9 X pins σ H s)(k:∀b o,b≠it->s.heap.get? b=some o->h'.get? b=some o)(hn:H it=none)(hL:it≠X.env.locals)
   (h1:it∈X.ex\/X.s₀.heap.objs.size<=it) (h2:∀x c,X.env.cells.lookup x=some c->c≠it) (h3:∀p∈X.pn++pins,p.1≠it):j9 X pins σ H {s with heap:=h',toks:=t'}:=by
 have nit:∀b u,H b=some u->b≠it:=fun b u e z=>by rw[z,hn] at e;cases e
 refine I.step (g':=s.gens) (d':=s.drawn) (ch:=[it]) (fun b hb=> ?_) (fun b o _ _ hc e _=>k b o (fun z=>hc (by simp [z])) e) (fun b o _ _ hc e _=>⟨o.slots,k b o (fun z=>hc (by simp [z])) e⟩) (fun _ _ _ _ n=>n)
   (fun b o hc e=>⟨o,k b o (fun z=>hc (by simp [z])) e⟩) (fun _ _ e=>e) (fun _ _ _ e=>e) (fun b ps e=>⟨#[],by rw[e];simp⟩) (fun m hm=> ?_) (fun b u e=> ?_) I.bare
 · have e:b=it:=by simpa using hb
   subst e;exact ⟨h1,hL,h2,h3⟩
 · obtain ⟨o,es,ep,ho,r⟩:=hm;exact ⟨o,es,ep,k _ o (Ne.symm hL) ho,r⟩
 · refine (I.hok b u e).stay (fun c v hc q=>k c v ?_ q) (fun _ q=>q) fun _ _ q=>q
   rcases hc with z|z
   · rw[z];exact nit b u e
   · exact nit c _ z
theorem j9.tok (I:j9 X pins σ H s)(t:Nat):j9 X pins σ H {s with toks:=t}:=I.un (h':=s.heap) (t':=t) Un.refl I.hok
theorem j9.kept {t':Nat}(I:j9 X pins σ H s)(k:∀b u,s.heap.get? b=some u->h'.get? b=some u):j9 X pins σ H {s with heap:=h',toks:=t'}:=I.un (Un.kept k) (I.hok.kept k)
theorem j9.laid {a:Addr}{o:HO}{t':Nat}(I:j9 X pins σ H s)(k:∀b u,s.heap.get? b=some u->h'.get? b=some u)(hp:s.heap.objs.size<=a)(new:B1 X.prog X.w (e8 H a o) h' a o):
 j9 X pins σ (e8 H a o) {s with heap:=h',toks:=t'}:=I.un (Un.laid k hp (I.hok.fresh hp)) (I.hok.laid k hp new)
theorem j9.write {x e:Addr}{o:HO}{t':Nat}(I:j9 X pins σ H s)(mu:Mut (H x))(he:e=x\/H e=some (.own x))(k:∀b u,b≠e->s.heap.get? b=some u->h'.get? b=some u)(heo:∃u,h'.get? e=some u)
 (new:B1 X.prog X.w (e8 H x o) h' x o):j9 X pins σ (e8 H x o) {s with heap:=h',toks:=t'}:=I.un (Un.write mu he k heo) (I.hok.write mu he k heo new)
theorem j9.pins_of {pins':List (Addr×Obj)}(I:j9 X pins σ H s)(h:∀p∈pins',s.heap.get? p.1=some p.2/\H p.1=none/\p.1≠X.env.locals/\p.1∉X.fs/\∀v,p.2.data≠.cell v):j9 X pins' σ H s:=
 ⟨I.ok,I.os,I.bare,I.base,I.loc,I.cell,I.free,I.freeC,fun p hp=>(cp4.mp hp).elim (fun z=>I.pin p (cs3 _ z)) (h p),I.hok,I.len⟩
theorem al8 {N:List Str}(hN:N.Nodup){i j:Nat}{x:Str}(a:N[i]? =some x)(b:N[j]? =some x):i=j:=by
 obtain ⟨h1,e1⟩:=cp0.mp a;obtain ⟨h2,e2⟩:=cp0.mp b;exact (List.getElem_inj hN).mp (e1.trans e2.symm)
theorem at5 {M:Model}{A:Around}{E:Value->Shared->Prop}{i:Nat}{x:Str}{v:V}{u:Value}{Q:Unit->Shared->Prop}(I:j9 X pins σ H s)(hN:X.N.Nodup)(hi:X.N[i]? =some x)(hx:Loc X.env.scope x)(r:y8 v u)
   (h:∀s',j9 X pins (σ.set i (some v)) H s'->(∃a,Heap.SameBut a s.heap s'.heap/\(a=X.env.locals\/X.env.cells.lookup x=some a))->Q () s') (hf:X.fn x=true\/X.env.scope.names.lookup x=some .local:=by first|exact .inl rfl|exact .inr rfl|assumption):wpAny M A (storeName X.env x u) Q E s:=by
 obtain ⟨m,hn,hl⟩:=id I.loc
 have hcls:(X.env.scope.kind== .class||(X.env.scope.kind== .module&&X.env.locals !=X.env.globals))=false:=by rw[I.ok.kind];rfl
 have hiσ:i < σ.length:=by rw[I.len];exact (cp0.mp hi).1
 have cne:=I.cne
 have tracked:∀{a:Addr} {h':Heap},(∃o,s.heap.get? a=some o/\H a=none)->Heap.SameBut a s.heap h'->D0 X.prog X.w H h':=fun {a h'} ha hs b ob e=>by
   obtain ⟨_,_,hfree⟩:=ha
   refine (I.hok b ob e).stay (fun c w' hc q=>(hs.2 c ?_).trans q) (fun _ q=>q) fun _ _ q=>q
   rintro rfl
   rcases hc with rfl|hc
   · rw[hfree] at e;cases e
   · rw[hfree] at hc;cases hc
 rcases hx with hk|hk
 · refine wpAny_storeName_local hk hn (fun h' hn' hs=> ?_) hcls;obtain ⟨oL,_,_,hoL,_⟩:=id hn;refine h _ ⟨I.ok,I.os,I.bare,⟨fun b o e n hb hx=> ?_,fun b o e n hb hx=> ?_,I.base.free,fun b o e hx=> ?_,I.base.tups,I.base.frzs,I.base.tbls⟩,⟨_,hn',fun j y v' e1 e2 e3=> ?_⟩,fun y c e=> ?_,I.free,I.freeC,fun p hp=> ?_,tracked ⟨oL,hoL,I.free⟩ hs,by simpa using I.len⟩ ⟨_,hs,.inl rfl⟩
   · exact (hs.2 b (cr9 (cr2 (Heap.lt_size e) I.ok.above))).trans (I.base.keep b o e n hb hx)
   · obtain ⟨sl,e1⟩:=I.base.slot b o e n hb hx;exact ⟨sl,(hs.2 b (cr9 (cr2 (Heap.lt_size e) I.ok.above))).trans e1⟩
   · obtain ⟨o',e1⟩:=I.base.there b o e hx;exact ⟨o',(hs.2 b (cr9 (cr2 (Heap.lt_size e) I.ok.above))).trans e1⟩
   · by_cases hj:j=i
     · subst hj;rw[hi] at e1;cases e1;rw[cw5 hiσ] at e2;cases e2;exact ⟨u,r,.inl ⟨hk,by simp⟩⟩
     · rw[cx3 (Ne.symm hj)] at e2;obtain ⟨u',r',q⟩:=hl j y v' e1 e2 e3;refine ⟨u',r',?_⟩
       rcases q with ⟨k,e⟩|⟨k,c,e,z⟩
       · refine .inl ⟨k,?_⟩
         have:y≠x:=fun e=>hj (al8 hN e1 (e▸hi))
         simp [this,e]
       · exact .inr ⟨k,c,e,z.sameBut hs (cne y c e)⟩
   · obtain ⟨w',z⟩:=I.cell y c e;exact ⟨w',z.sameBut hs (cne y c e)⟩
   · obtain ⟨e,n,ne,nf,d⟩:=I.pin p hp;exact ⟨(hs.2 p.1 ne).trans e,n,ne,nf,d⟩
 · have hfn:X.fn x=true:=by
     rcases hf with z|z
     · exact z
     · rw[z] at hk;cases hk
   obtain ⟨c,hc⟩:=I.ok.has x (.inl hk);obtain ⟨w',z⟩:=I.cell x c hc;refine wpAny_storeName_cell I.ok.kind hk hc z (fun h' hc' hs=> ?_);obtain ⟨oc,hoc,hocd⟩:=id z;refine h {s with heap:=h'} ⟨I.ok,I.os,I.bare,⟨fun b o e n hb hx=> ?_,fun b o e n hb hx=> ?_,I.base.free,fun b o e hx=> ?_,I.base.tups,I.base.frzs,I.base.tbls⟩,⟨m,hn.sameBut hs (Ne.symm (cne x c hc)),fun j y v' e1 e2 e3=> ?_⟩,fun y c' e=> ?_,I.free,I.freeC,fun p hp=> ?_,tracked ⟨oc,hoc,I.freeC x c hc⟩ hs,by simpa using I.len⟩ ⟨c,hs,.inr hc⟩
   · exact (hs.2 b (cr9 (cr2 (Heap.lt_size e) (I.ok.cab x c hfn hc)))).trans (I.base.keep b o e n hb hx)
   · obtain ⟨sl,e1⟩:=I.base.slot b o e n hb hx;exact ⟨sl,(hs.2 b (cr9 (cr2 (Heap.lt_size e) (I.ok.cab x c hfn hc)))).trans e1⟩
   · obtain ⟨o',e1⟩:=I.base.there b o e hx;exact ⟨o',(hs.2 b (cr9 (cr2 (Heap.lt_size e) (I.ok.cab x c hfn hc)))).trans e1⟩
   · by_cases hj:j=i
     · subst hj;rw[hi] at e1;cases e1;rw[cw5 hiσ] at e2;cases e2;exact ⟨u,r,.inr ⟨.inl hk,c,hc,hc'⟩⟩
     · rw[cx3 (Ne.symm hj)] at e2;obtain ⟨u',r',q⟩:=hl j y v' e1 e2 e3;refine ⟨u',r',?_⟩
       rcases q with q|⟨k,c',e,z'⟩
       · exact .inl q
       · refine .inr ⟨k,c',e,z'.sameBut hs ?_⟩;rintro rfl;exact hj (al8 hN e1 (I.ok.inj _ _ _ e hc▸hi))
   · by_cases hcc:c'=c
     · subst hcc;exact ⟨_,hc'⟩
     · obtain ⟨w2,z2⟩:=I.cell y c' e;exact ⟨w2,z2.sameBut hs hcc⟩
   · obtain ⟨e,n,ne,nf,d⟩:=I.pin p hp;refine ⟨(hs.2 p.1 ?_).trans e,n,ne,nf,d⟩;intro q;rw[q,hoc] at e;have q':oc=p.2:=Option.some.inj e;exact d w' (by rw[<-q'];exact hocd)
theorem ad0 {M:Model}{A:Around}{E:Value->Shared->Prop}{i:Nat}{x:Str}{v:V}{u:Value}{Q:Unit->Shared->Prop}(I:j9 X pins σ H s)(hN:X.N.Nodup)(hi:X.N[i]? =some x)(hx:Loc X.env.scope x)(r:y8 v u)
   (h:∀s',j9 X pins (σ.set i (some v)) H s'->Q () s') (hf:X.fn x=true\/X.env.scope.names.lookup x=some .local:=by first|exact .inl rfl|exact .inr rfl|assumption):wpAny M A (storeName X.env x u) Q E s:=
 at5 I hN hi hx r (fun s' I' _=>h s' I') hf
theorem j9.call' {s':Shared}{ch:List Addr}(I:j9 X pins σ H s)(ho:s'.os=s.os)(u:Un (C5 X.stack) ch H H' s.heap s'.heap)(hok:D0 X.prog X.w H' s'.heap)(hg:AllBare s'.gens)
   (hch:∀b∈ch,(b∈X.ex\/X.s₀.heap.objs.size<=b)/\b≠X.env.locals/\(∀x c,X.env.cells.lookup x=some c->c≠b)/\∀p∈X.pn++pins,p.1≠b):j9 X pins σ H' s':=by
 obtain ⟨h',g',d',t',o'⟩:=s';have e:o'=s.os:=ho;subst e;exact I.call (g':=g') (t':=t') (d':=d') u hok hg hch
end
abbrev XK:=Value->Option Addr->Hp->Prop
abbrev St:=List (Option V)
abbrev VK:=V->Hp->Prop
abbrev TE:=St->Hp->VK->Prop
abbrev TT:=St->Hp->(Bool->Hp->Prop)->Prop
abbrev TA:=St->Hp->(List V->Hp->Prop)->Prop
structure Y2 where
 nx:St->Hp->Prop
 rt:VK
 bk:St->Hp->Prop:=fun _ _=>False
 ct:St->Hp->Prop:=fun _ _=>False
abbrev TS:=Y2->St->Hp->Prop
def EP (X:Cx)(pins:List (Addr×Obj))(σ:St)(Q:VK)(u:Value)(s':Shared):Prop:=∃v H',j9 X pins σ H' s'/\y8 v u/\Q v H'
def TP (X:Cx)(pins:List (Addr×Obj))(σ:St)(Q:Bool->Hp->Prop)(b:Bool)(s':Shared):Prop:=∃H',j9 X pins σ H' s'/\Q b H'
def AP (X:Cx)(pins:List (Addr×Obj))(σ:St)(Q:List V->Hp->Prop)(us:List Value)(s':Shared):Prop:=∃vs H',j9 X pins σ H' s'/\o5 vs us/\Q vs H'
def SP (X:Cx)(pins:List (Addr×Obj))(D:Y2)(f:Flow)(s':Shared):Prop:=
 match f with
 | .next=>∃σ' H',j9 X pins σ' H' s'/\D.nx σ' H'
 | .brk=>∃σ' H',j9 X pins σ' H' s'/\D.bk σ' H'
 | .cont=>∃σ' H',j9 X pins σ' H' s'/\D.ct σ' H'
 | .ret u=>∃v σ' H',j9 X pins σ' H' s'/\y8 v u/\D.rt v H'
def PE (X:Cx)(e:Expr)(t:TE):Prop:=
 ∀(pins:List (Addr×Obj)) (s:Shared) (σ:St) (H:Hp) (Q:VK),j9 X pins σ H s->t σ H Q->wpAny (model X.prog X.w) X.A (eval e X.env) (EP X pins σ Q) X.xe s
def PT (X:Cx)(e:Expr)(t:TT):Prop:=
 ∀(pins:List (Addr×Obj)) (s:Shared) (σ:St) (H:Hp) (Q:Bool->Hp->Prop),j9 X pins σ H s->t σ H Q->wpAny (model X.prog X.w) X.A (isTrue e X.env (eval e X.env)) (TP X pins σ Q) X.xe s
def PW (X:Cx)(e:Expr)(t:TT):Prop:=
 ∀(whole:Sem Value) (pins:List (Addr×Obj)) (s:Shared) (σ:St) (H:Hp) (Q:Bool->Hp->Prop),j9 X pins σ H s->t σ H Q->wpAny (model X.prog X.w) X.A (isTrue e X.env whole) (TP X pins σ Q) X.xe s
theorem PW.pt {X:Cx}{e:Expr}{t:TT}(h:PW X e t):PT X e t:=h _
def PA (X:Cx)(es:List Expr)(t:TA):Prop:=
 ∀(pos:Pos) (pins:List (Addr×Obj)) (s:Shared) (σ:St) (H:Hp) (Q:List V->Hp->Prop),j9 X pins σ H s->t σ H Q->wpAny (model X.prog X.w) X.A (spliced (backTo pos (starEach es X.env))) (AP X pins σ Q) X.xe s
def PS (X:Cx)(st:Stmt)(t:TS):Prop:=
 ∀(pins:List (Addr×Obj)) (s:Shared) (σ:St) (H:Hp) (D:Y2),j9 X pins σ H s->t D σ H->wpAny (model X.prog X.w) X.A (exec st X.env) (SP X pins D) X.xe s
def W9 (X:Cx)(st:List Stmt)(t:TS):Prop:=
 ∀(pins:List (Addr×Obj)) (s:Shared) (σ:St) (H:Hp) (D:Y2),j9 X pins σ H s->t D σ H->wpAny (model X.prog X.w) X.A (execs st X.env) (SP X pins D) X.xe s
theorem y9 {α:Type}{t:Sem α}{Q Q':α->Shared->Prop}{M:Model}{A:Around}{E:Value->Shared->Prop}{s:Shared}(h:wpAny M A t Q E s)(hQ:∀a s,Q a s->Q' a s):wpAny M A t Q' E s:=wpAny_mono h hQ fun _ _ x=>x
end L2
namespace L2
open PySem PySem.Spec PyProof.Rows
section
variable {X:Cx}
def bt1 (i:Nat):TE:=fun σ H Q=>∃v,σ[i]? =some (some v)/\Q v H
def tC (v:V):TE:=fun _ H Q=>Q v H
theorem ce2 {i:Nat}{x:Str}{pos:Pos}(hN:X.N[i]? =some x)(hv:Vis X.env.scope x)(hd:(x==("__debug__":Str))=false:=by decide)(hcd:(x==("__classdict__":Str))=false:=by decide):PE X (.Name x pos) (bt1 i):=by
 intro pins s σ H Q I h;obtain ⟨v,e,h⟩:=h;obtain ⟨m,hn,hl⟩:=I.loc;obtain ⟨u,r,l⟩:=hl i x v hN e hv;have fin:EP X pins σ Q u s:=⟨v,H,I,r,h⟩
 rcases l with ⟨hk,hm⟩|⟨hk,c,hc,hcell⟩
 · exact wpAny_Name (wpAny_loadName_local I.ok.kind hk hn hm fin) hd
 · rcases hk with hk|hk
   · exact wpAny_Name (wpAny_loadName_cell I.ok.kind hk hc hcell fin) hd
   · exact wpAny_Name (wpAny_loadName_free I.ok.kind hk hc hcell fin hcd) hd
theorem i7 {i j pos}:PE X (.Constant (.int i) j pos) (tC (.int i)):=fun _ _ _ H _ I h=>wpAny_Constant_int ⟨.int i,H,I.tok _,⟨_,rfl⟩,h⟩
theorem B5 {b j pos}:PE X (.Constant (.bool b) j pos) (tC (.bl b)):=fun _ _ _ H _ I h=>Constant_bool ⟨.bl b,H,I,rfl,h⟩
theorem O0 {j pos}:PE X (.Constant .none j pos) (tC .non):=fun _ _ _ H _ I h=>Constant_none ⟨.non,H,I,rfl,h⟩
theorem O1 {x j pos}:PE X (.Constant (.str x) j pos) (tC (.str x)):=fun _ _ _ H _ I h=>Calls.Constant_str ⟨.str x,H,I.tok _,⟨_,rfl⟩,h⟩
def Gl (X:Cx)(x:Str):Prop:=X.env.kindOf x=some .globalImplicit
theorem X9 {E:Value->Shared->Prop}{pins:List (Addr×Obj)}{s:Shared}{σ:St}{H:Hp}{x:Str}{u:Value}{pos:Pos}{Q:Value->Shared->Prop}(I:j9 X pins σ H s)(hg:Gl X x)(hm:X.mg x=some u)(h:Q u s)
   (hd:(x==("__debug__":Str))=false:=by decide):wpAny (model X.prog X.w) X.A (eval (.Name x pos) X.env) Q E s:=
 Calls.Name_function_global I.ok.kind hg (Calls.loadGlobal_global (by rw[I.ok.glob];exact I.mod.glob.keeps I.bk) hm h) hd
theorem S0 {E:Value->Shared->Prop}{pins:List (Addr×Obj)}{s:Shared}{σ:St}{H:Hp}{x:Str}{u:Value}{pos:Pos}{Q:Value->Shared->Prop}(I:j9 X pins σ H s)(hg:Gl X x)(hm:X.mg x=none)(hv:bootBuiltins x=some u)(h:Q u s)
   (hn:x≠"__name__":=by decide) (hd:(x==("__debug__":Str))=false:=by decide):wpAny (model X.prog X.w) X.A (eval (.Name x pos) X.env) Q E s:=by
 obtain ⟨mb,h1,h2⟩:=I.mod.blt;exact Calls.Name_function_global I.ok.kind hg (Calls.loadGlobal_builtin (by rw[I.ok.glob];exact I.mod.glob.keeps I.bk) hm (by rw[I.ok.blt];exact h1.keeps I.bk) ((h2 x hn).trans hv) h) hd
theorem G9 {x:Str}{v:V}{u:Value}{pos:Pos}(hg:Gl X x)(hm:X.mg x=some u)(r:y8 v u)(hd:(x==("__debug__":Str))=false:=by decide):PE X (.Name x pos) (tC v):=
 fun _ _ _ H _ I h=>X9 I hg hm ⟨v,H,I,r,h⟩ hd
theorem aj6 {x:Str}{v:V}{u:Value}{pos:Pos}(hg:Gl X x)(hm:X.mg x=none)(hv:bootBuiltins x=some u)(r:y8 v u)(hn:x≠"__name__":=by decide)(hd:(x==("__debug__":Str))=false:=by decide):PE X (.Name x pos) (tC v):=
 fun _ _ _ H _ I h=>S0 I hg hm hv ⟨v,H,I,r,h⟩ hn hd
variable {a b:Expr} {ta tb:TE} {pos:Pos}
def PC (X:Cx)(op:CmpOp)(a b:Expr)(t:TE):Prop:=
 ∀(pins:List (Addr×Obj)) (s:Shared) (σ:St) (H:Hp) (Q:VK),j9 X pins σ H s->t σ H Q->
  wpAny (model X.prog X.w) X.A (eval a X.env) (fun v s₁=>wpAny (model X.prog X.w) X.A (eval b X.env) (fun u s₂=>wpAny (model X.prog X.w) X.A (compareOp op v u) (EP X pins σ Q) X.xe s₂) X.xe s₁) X.xe s
def tB (t:TE):TT:=fun σ H Q=>t σ H fun x H1=>∃c,x= .bl c/\Q c H1
theorem ax8 {op:CmpOp}{t:TE}(h:PC X op a b t)(h1:behindInMarks op b=false:=by first|exact nobehind _ (by decide) (by decide)|rfl):PT X (.Compare a [op] [b] pos) (tB t):=by
 intro pins s σ H Q I hw;refine wpAny_isTrue_Compare1 (y9 (h pins s σ H _ I hw) fun v s1 h1=>y9 h1 fun u s2 h2=>y9 h2 fun c s3 ⟨x,H1,I1,r1,q1⟩=> ?_) h1;obtain ⟨d,rfl,q⟩:=q1;cases r1;exact wpAny_truthy_bool ⟨H1,I1,q⟩
theorem B4 {e:Expr}{t:TE}(h:PE X e t)(he:∀whole,isTrue e X.env whole=(do let v <-whole;standAt e.pos;holding [v] (truthy v)):=by intro _;rfl):PT X e (tB t):=by
 intro pins s σ H Q I hw;refine isTrue_plain (y9 (h pins s σ H _ I hw) fun v s1 ⟨x,H1,I1,r1,q1⟩=> ?_) (he _);obtain ⟨d,rfl,q⟩:=q1;cases r1;exact wpAny_truthy_bool ⟨H1,I1,q⟩
variable {tA tB':TT} {rest:List Expr}
def tOr (t u:TT):TT:=fun σ H Q=>t σ H fun c H1=>if c=true then Q true H1 else u σ H1 Q
def cl5 (t:TT):TT:=fun σ H Q=>t σ H fun c H1=>Q (!c) H1
theorem K8 (ha:PT X a tA):PW X (.BoolOp .Or [a] pos) tA:=by
 intro wh pins s σ H Q I h;refine isTrue_or (y9 (ha pins s σ H Q I h) fun c s1 e=> ?_)
 cases c with
 |false=>exact isTrue_or_nil e
 |true=>exact e
theorem D7 (ha:PT X a tA)(hb:PW X (.BoolOp .Or (b::rest) pos) tB'):PW X (.BoolOp .Or (a::b::rest) pos) (tOr tA tB'):=by
 intro wh pins s σ H Q I h;refine isTrue_or (y9 (ha pins s σ H _ I h) fun c s1 ⟨H1,I1,q1⟩=> ?_)
 cases c with
 |true=>exact ⟨H1,I1,q1⟩
 |false=>exact hb wh pins s1 σ H1 Q I1 q1
theorem C1 (ha:PT X a tA):PT X (.UnaryOp .Not a pos) (cl5 tA):=by
 intro pins s σ H Q I h;exact isTrue_not (ha pins s σ H (fun c H1=>Q (!c) H1) I h)
def ci4 (ta tb:TE):TE:=fun σ H Q=>ta σ H fun x H1=>∃c,x= .bl c/\if c=true then tb σ H1 Q else Q (.bl false) H1
def ci5 (ta:TE):TE:=fun σ H Q=>ta σ H fun x H1=>∃c,x= .bl c/\Q (.bl (!c)) H1
theorem ao0 {op}{t:TE}(h:PE X a t):PE X (.BoolOp op [a] pos) t:=fun pins s σ H Q I hw=>BoolOp_one (h pins s σ H Q I hw)
theorem ag1 (ha:PE X a ta)(hb:PE X (.BoolOp .And (b::rest) pos) tb):PE X (.BoolOp .And (a::b::rest) pos) (ci4 ta tb):=by
 intro pins s σ H Q I h;refine BoolOp_and (y9 (ha pins s σ H _ I h) fun v s1 ⟨x,H1,I1,r1,q1⟩=> ?_);obtain ⟨c,rfl,q1⟩:=q1;cases r1;refine wpAny_truthy_bool ?_
 cases c with
 |true=>exact hb pins s1 σ H1 Q I1 q1
 |false=>exact ⟨.bl false,H1,I1,rfl,q1⟩
theorem bm2 (ha:PE X a ta):PE X (.UnaryOp .Not a pos) (ci5 ta):=by
 intro pins s σ H Q I h;refine UnaryOp_ (y9 (ha pins s σ H _ I h) fun v s1 ⟨x,H1,I1,r1,q1⟩=> ?_);obtain ⟨c,rfl,q1⟩:=q1;cases r1;exact not_of (wpAny_truthy_bool ⟨.bl (!c),H1,I1,rfl,q1⟩)
end
end L2
namespace L2
open PySem PySem.Spec PyProof.Rows
def i8 (K:PySem.W.Frag)(H:Hp)(a:Addr)(xs:List V):Prop:=
 Rd H a (.lst xs)\/
   ∃(o:Obj) (its:Array Value) (n:Nat),K.lookup a=some o/\o.cls= .type "list"/\o.dict=none/\o.data= .seq its n/\its.size<=sizeLine/\o5 xs its.toList
def Y3 (K:PySem.W.Frag)(H:Hp)(a:Addr)(xs:List V):Prop:=
 Rd H a (.tup xs)\/
   ∃(o:Obj) (its:Array Value) (n:Nat),K.lookup a=some o/\o.cls= .type "tuple"/\o.data= .seq its n/\its.size<=sizeLine/\o5 xs its.toList
def cl6:Value->Option V
 | .none=>some .non
 | .bool b=>some (.bl b)
 | .int i _=>some (.int i)
 | .str x _=>some (.str x)
 | .bytes b _=>some (.byt b)
 | .float b _=>some (.flt b)
 | .ref a=>some (.ref a)
 | .type n=>some (.ty n)
 |_=>none
theorem y8.abs {x:V}{u:Value}(r:y8 x u):cl6 u=some x:=by
 cases x with
 |non=>cases r;rfl
 |bl _=>cases r;rfl
 |int _=>obtain ⟨t,rfl⟩:=r;rfl
 |str _=>obtain ⟨t,rfl⟩:=r;rfl
 |byt _=>obtain ⟨t,rfl⟩:=r;rfl
 |flt _=>obtain ⟨t,rfl⟩:=r;rfl
 |ref _=>cases r;rfl
 |ty _=>cases r;rfl
theorem y8.inj {x y:V}{u:Value}(r:y8 x u)(q:y8 y u):x=y:=Option.some.inj (r.abs.symm.trans q.abs)
theorem o5.inj:∀{xs ys:List V} {us:List Value},o5 xs us->o5 ys us->xs=ys
 |_,_,_,.nil,.nil=>rfl
 |_,_,_,.cons r t,.cons r' t'=>by rw[r.inj r',o5.inj t t']
section
variable {X:Cx} {pins:List (Addr×Obj)} {σ:St} {H:Hp} {s:Shared} {a:Addr} {xs ys:List V}
theorem i8.of {K:PySem.W.Frag}(h:H a=some (.lst xs)):i8 K H a xs:= .inl (.inl h)
theorem Y3.of {K:PySem.W.Frag}(h:H a=some (.tup xs)):Y3 K H a xs:= .inl (.inl h)
theorem j9.list (I:j9 X pins σ H s)(h:i8 X.K H a xs):∃its:List Value,o5 xs its/\PlainL s.heap a its.toArray/\xs.length<=sizeLine:=by
 rcases h with h|⟨o,its,n,hk,hc,hd,hs,hz,r⟩
 · obtain ⟨z,its,n,r,e⟩:=h.ok I.hok;exact ⟨its,r,⟨_,n,e,rfl,rfl,rfl⟩,z⟩
 · refine ⟨its.toList,r,⟨o,n,I.kIn a o hk,hc,hd,by simpa using hs⟩,?_⟩;have e:=r.length;simp only[Array.length_toList] at e;omega
theorem j9.tuple (I:j9 X pins σ H s)(h:Y3 X.K H a xs):∃its:List Value,o5 xs its/\IsTup s.heap a its.toArray/\xs.length<=sizeLine:=by
 rcases h with h|⟨o,its,n,hk,hc,hs,hz,r⟩
 · obtain ⟨z,its,r,p⟩:=h.ok I.hok;exact ⟨its,r,p,z⟩
 · refine ⟨its.toList,r,⟨o,I.kIn a o hk,hc,n,by simpa using hs⟩,?_⟩;have e:=r.length;simp only[Array.length_toList] at e;omega
theorem j9.list_inj (I:j9 X pins σ H s)(h:i8 X.K H a xs)(h':i8 X.K H a ys):xs=ys:=by
 obtain ⟨its,r,⟨o,n,e,_,_,d⟩,_⟩:=I.list h;obtain ⟨its',r',⟨o',n',e',_,_,d'⟩,_⟩:=I.list h';rw[e] at e';cases e';rw[d] at d'
 injection d' with d1 _
 have:its=its':=by simpa using congrArg Array.toList d1
 subst this;exact r.inj r'
end
abbrev Cx.wish (X:Cx)(E:Value->Shared->Prop):Cx:={X with xe:=E}
abbrev Cx.nox (X:Cx):Cx:=X.wish fun _ _=>False
theorem Cx.Ok.wish {X:Cx}(ok:X.Ok)(E:Value->Shared->Prop):(X.wish E).Ok:=
 ⟨ok.mod,ok.kind,ok.glob,ok.blt,ok.above,ok.inj,ok.has,ok.cab,ok.hd,ok.frames,ok.stk,ok.exf,ok.bs,ok.bsz,ok.noex,ok.exfs,ok.funs,ok.frf⟩
theorem Cx.Ok.unwish {X:Cx}{E:Value->Shared->Prop}(ok:(X.wish E).Ok):X.Ok:=
 ⟨ok.mod,ok.kind,ok.glob,ok.blt,ok.above,ok.inj,ok.has,ok.cab,ok.hd,ok.frames,ok.stk,ok.exf,ok.bs,ok.bsz,ok.noex,ok.exfs,ok.funs,ok.frf⟩
section
variable {X:Cx} {pins:List (Addr×Obj)} {σ:St} {H:Hp} {s:Shared} {E:Value->Shared->Prop}
theorem j9.wish (I:j9 X pins σ H s)(E:Value->Shared->Prop):j9 (X.wish E) pins σ H s:=⟨I.ok.wish E,I.os,I.bare,I.base,I.loc,I.cell,I.free,I.freeC,I.pin,I.hok,I.len⟩
theorem j9.unwish (I:j9 (X.wish E) pins σ H s):j9 X pins σ H s:=⟨I.ok.unwish,I.os,I.bare,I.base,I.loc,I.cell,I.free,I.freeC,I.pin,I.hok,I.len⟩
theorem SP.unwish {D:Y2}{f:Flow}{s':Shared}(h:SP (X.wish E) pins D f s'):SP X pins D f s':=by
 cases f with
 |next=>obtain ⟨σ',H',I,q⟩:=h;exact ⟨σ',H',I.unwish,q⟩
 |brk=>obtain ⟨σ',H',I,q⟩:=h;exact ⟨σ',H',I.unwish,q⟩
 |cont=>obtain ⟨σ',H',I,q⟩:=h;exact ⟨σ',H',I.unwish,q⟩
 |ret u=>obtain ⟨v,σ',H',I,r,q⟩:=h;exact ⟨v,σ',H',I.unwish,r,q⟩
theorem W9.nox {st:List Stmt}{t:TS}(h:W9 X.nox st t):W9 X st t:=fun pins s σ H D I hw=>
 wpAny_mono (h pins s σ H D (I.wish _) hw) (fun _ _ q=>q.unwish) fun _ _ z=>False.elim z
end
section
variable {X:Cx} {st:Stmt} {rest:List Stmt} {t u:TS} {e:Expr} {te:TE} {pos:Pos}
def ci6:TS:=fun D σ H=>D.nx σ H
def cl7 (t u:TS):TS:=fun D σ H=>t {D with nx:=u D} σ H
theorem o8:W9 X [] ci6:=fun _ _ σ H _ I h=>wpAny_execs_nil ⟨σ,H,I,h⟩
theorem i4 (h1:PS X st t)(h2:W9 X rest u):W9 X (st::rest) (cl7 t u):=by
 intro pins s σ H D I h;refine wpAny_execs_cons (y9 (h1 pins s σ H {D with nx:=u D} I h) fun f s1 q=> ?_)
 cases f with
 |next=>
  obtain ⟨σ',H',I',q⟩:=q;exact h2 pins s1 σ' H' D I' q
 |ret v=>exact q
 |brk=>exact q
 |cont=>exact q
theorem i5 (h1:PS X st t):W9 X [st] t:=by
 intro pins s σ H D I h;refine wpAny_execs_cons (y9 (h1 pins s σ H D I h) fun f s1 q=> ?_)
 cases f with
 |next=>exact wpAny_execs_nil q
 |ret v=>exact q
 |brk=>exact q
 |cont=>exact q
theorem j9.quiet {pins:List (Addr×Obj)}{σ:St}{H:Hp}{s:Shared}(I:j9 X pins σ H s):interactive X.env=false:=by simp [interactive,I.ok.kind]
def ci7 (te:TE):TS:=fun D σ H=>te σ H fun _ H1=>D.nx σ H1
theorem C4 (he:PE X e te)(hs:swapsWith e none pos.line X.env=pure false:=by rfl):PS X (.Expr e pos) (ci7 te):=by
 intro pins s σ H D I h;exact wpAny_Expr_any (y9 (he pins s σ H _ I h) fun v s1 ⟨x,H1,I1,r1,q1⟩=>⟨σ,H1,I1,q1⟩) I.quiet hs
def cl8 (te:TE):TS:=fun D σ H=>te σ H D.rt
theorem m7 (he:PE X e te):PS X (.Return (some e) pos) (cl8 te):=by
 intro pins s σ H D I h;exact wpAny_Return_some (y9 (he pins s σ H _ I h) fun v s1 ⟨x,H1,I1,r1,q1⟩=>⟨x,σ,H1,I1,r1,q1⟩)
def ce3 (c:TT)(t u:TS):TS:=fun D σ H=>c σ H fun b H1=>if b=true then t D σ H1 else u D σ H1
theorem A0 {c:Expr}{a b:List Stmt}{tc:TT}(hc:PT X c tc)(ha:W9 X a t)(hb:W9 X b u):PS X (.If c a b pos) (ce3 tc t u):=by
 intro pins s σ H D I h;refine wpAny_If (y9 (hc pins s σ H _ I h) fun d s1 ⟨H1,I1,q1⟩=> ?_)
 cases d with
 |true=>exact ha pins s1 σ H1 D I1 q1
 |false=>exact hb pins s1 σ H1 D I1 q1
def bm3:TS:=fun _ _ _=>False
theorem al9:PS X st bm3:=fun _ _ _ _ _ _ h=>h.elim
theorem ag2 {sts:List Stmt}:W9 X sts bm3:=fun _ _ _ _ _ _ h=>h.elim
end
abbrev TG:=V->St->Hp->(St->Hp->Prop)->Prop
abbrev TGs:=List V->St->Hp->(St->Hp->Prop)->Prop
def PG (X:Cx)(target:Expr)(t:TG):Prop:=
 ∀(pins:List (Addr×Obj)) (s:Shared) (σ:St) (H:Hp) (v:V) (u:Value) (Q:St->Hp->Prop),j9 X pins σ H s->y8 v u->t v σ H Q->
  wpAny (model X.prog X.w) X.A (assign target X.env u) (fun _ s'=>∃σ' H',j9 X pins σ' H' s'/\Q σ' H') X.xe s
def PGs (X:Cx)(ts:List Expr)(t:TGs):Prop:=
 ∀(pins:List (Addr×Obj)) (s:Shared) (σ:St) (H:Hp) (vs:List V) (us:List Value) (Q:St->Hp->Prop),j9 X pins σ H s->o5 vs us->t vs σ H Q->
  wpAny (model X.prog X.w) X.A (assignInOrder ((assignEach ts X.env).map (·.2)) us) (fun _ s'=>∃σ' H',j9 X pins σ' H' s'/\Q σ' H') X.xe s
abbrev bt2:=V->V->V->Hp->(Hp->Prop)->Prop
def ce4 (X:Cx)(t:bt2):Prop:=
 ∀(pins:List (Addr×Obj)) (s:Shared) (σ:St) (H:Hp) (o i v:V) (ov iv u:Value) (Q:Hp->Prop),j9 X pins σ H s->y8 o ov->y8 i iv->y8 v u->t o i v H Q->
  wpAny (model X.prog X.w) X.A (setItem ov iv u) (fun _ s'=>∃H',j9 X pins σ H' s'/\Q H') X.xe s
section
variable {X:Cx} {pos:Pos}
def aa2 (i:Nat):TG:=fun v σ H Q=>Q (σ.set i (some v)) H
theorem v0 {i:Nat}{x:Str}(hN:X.N.Nodup)(hi:X.N[i]? =some x)(hx:Loc X.env.scope x)(hf:X.fn x=true\/X.env.scope.names.lookup x=some .local:=by first|exact .inl rfl|exact .inr rfl|assumption):PG X (.Name x pos) (aa2 i):=by
 intro pins s σ H v u Q I r h;exact wpAny_assign_Name (ad0 I hN hi hx r (fun s' I'=>⟨_,H,I',h⟩) hf)
def cl9:TGs:=fun vs σ H Q=>vs=[]/\Q σ H
def ci8 (t:TG)(u:TGs):TGs:=fun vs σ H Q=>∃v r,vs=v::r/\t v σ H fun σ' H'=>u r σ' H' Q
theorem bz1:PGs X [] cl9:=by
 intro pins s σ H vs us Q I r h;obtain ⟨e,h⟩:=h;subst e;cases r;exact assignInOrder_nil ⟨σ,H,I,h⟩
theorem ay0 {e:Expr}{es:List Expr}{t:TG}{u:TGs}(h1:PG X e t)(h2:PGs X es u)
   (hs:(assignEach (e::es) X.env).map (·.2)=assign e X.env::(assignEach es X.env).map (·.2):=by rfl):PGs X (e::es) (ci8 t u):=by
 intro pins s σ H vs us Q I r h;obtain ⟨v,vr,e1,h⟩:=h;subst e1
 cases r with
 |cons r rr=>
  rw[hs];refine assignInOrder_cons (y9 (h1 pins s σ H _ _ _ I r h) fun _ s1 ⟨σ1,H1,I1,q1⟩=> ?_);exact h2 pins s1 σ1 H1 _ _ Q I1 rr q1
def cm0 (K:PySem.W.Frag)(n:Nat)(t:TGs):TG:=fun v σ H Q=>∃a xs,v= .ref a/\Y3 K H a xs/\xs.length=n/\t xs σ H Q
theorem ce5 {es:List Expr}{k:Nat}{t:TGs}{n:Nat}(hc:X.calm=true)(h:PGs X es t)
   (hn:(assignEach es X.env).length=n:=by rfl) (hst:(assignEach es X.env).findIdx? (·.1)=none:=by rfl):PG X (.Tuple es k pos) (cm0 X.K n t):=by
 intro pins s σ H v u Q I r hw;obtain ⟨a,xs,e1,hq,hl,hw⟩:=hw;subst e1;cases r;obtain ⟨its,rv,ht,hz⟩:=I.tuple hq
 refine assign_Tuple_tuple (I.ok.hd hc) ht (by simp [hn,<-hl,rv.length]) hst fun h' hx=> ?_
 have I1:j9 X pins σ H {s with heap:=h'}:=I.kept (t':=s.toks) fun b o e=>hx b o (cr9 (Heap.lt_size e)) e
 exact h pins _ σ H xs _ Q I1 (by simpa using rv) hw
def cm1 (to ti:TE)(t:bt2):TG:=fun v σ H Q=>to σ H fun o H1=>ti σ H1 fun i H2=>t o i v H2 fun H3=>Q σ H3
theorem O2 {o i:Expr}{to ti:TE}{t:bt2}(ho:PE X o to)(hi:PE X i ti)(hs:ce4 X t)
   (ha:∀v,assign (.Subscript o i pos) X.env v=(do
     let ov <-holding [v] (eval o X.env)
     let iv <-holding [v,ov] (eval i X.env)
     standAt pos
     holding [v,ov,iv] (setItem ov iv v)
     release [v,ov,iv] []):=by intro _;rfl):PG X (.Subscript o i pos) (cm1 to ti t):=by
 intro pins s σ H v u Q I r h;rw[ha];refine wpAny_bind (wpAny_holding (y9 (ho pins s σ H _ I h) fun ov s1 ⟨x,H1,I1,r1,q1⟩=> ?_));refine wpAny_bind (wpAny_holding (y9 (hi pins s1 σ H1 _ I1 q1) fun iv s2 ⟨y,H2,I2,r2,q2⟩=> ?_));refine wpAny_bind (wpAny_standAt (wpAny_bind (wpAny_holding (y9 (hs pins s2 σ H2 x y v ov iv u _ I2 r1 r2 r q2) fun _ s3 ⟨H3,I3,q3⟩=> ?_))));exact wpAny_release ⟨σ,H3,I3,q3⟩
def bt3 (te:TE)(g:TG):TS:=fun D σ H=>te σ H fun x H1=>g x σ H1 D.nx
theorem O3 {tg e:Expr}{te:TE}{g:TG}(he:PE X e te)(hg:PG X tg g)(hs:swapsWithSole [tg] e pos.line X.env=pure false:=by rfl)(hw:swappedStores [tg] e X.env=pure none:=by rfl)
   (h1:(assignEach [tg] X.env).map (·.2)=[assign tg X.env]:=by rfl):PS X (.Assign [tg] e pos) (bt3 te g):=by
 intro pins s σ H D I h;refine wpAny_Assign_stores (y9 (he pins s σ H _ I h) fun v s1 ⟨x,H1,I1,r1,q1⟩=> ?_) hs hw;rw[h1]
 exact y9 (hg pins s1 σ H1 x v _ I1 r1 q1) fun _ s2 q=>q
theorem l8 {i:Nat}{x:Str}{e:Expr}{te:TE}{pos':Pos}(hN:X.N.Nodup)(hi:X.N[i]? =some x)(hx:Loc X.env.scope x)(he:PE X e te)(hs:swapsWith e (some (.Name x pos')) pos.line X.env=pure false:=by rfl)(hf:X.fn x=true\/X.env.scope.names.lookup x=some .local:=by first|exact .inl rfl|exact .inr rfl|assumption):
   PS X (.Assign [.Name x pos'] e pos) (bt3 te (aa2 i)):=by
 intro pins s σ H D I h;refine wpAny_Assign_Name (y9 (he pins s σ H _ I h) fun v s1 ⟨y,H1,I1,r1,q1⟩=> ?_) hs;exact ad0 I1 hN hi hx r1 (fun s2 I2=>⟨_,H1,I2,q1⟩) hf
end
section
variable {X:Cx} {pos:Pos}
def bm4 (c:TT)(tb:TS):TS:=fun D σ H=>∃W:Nat->St->Hp->Prop,(∃m,W m σ H)/\∀m σ H,W m σ H->
 c σ H fun b H1=>if b=true then ∃N:St->Hp->Prop,(∀σ' H',N σ' H'->∃m',m' < m/\W m' σ' H')/\tb {D with nx:=N,ct:=N,bk:=D.nx} σ H1 else D.nx σ H1
theorem Y4 {c:Expr}{body:List Stmt}{tc:TT}{tb:TS}(hp:PassesOwn (model X.prog X.w) X.A X.env X.xe)(hc:PT X c tc)(hb:W9 X body tb):PS X (.While c body [] pos) (bm4 tc tb):=by
 intro pins s σ H D I h;obtain ⟨W,⟨m0,w0⟩,turn⟩:=h;refine wpAny_While (codeAny_whileLoop (fun n s'=>∃σ' H',j9 X pins σ' H' s'/\W n σ' H') ?_ m0 ⟨σ,H,I,w0⟩);rintro n s1 ⟨σ1,H1,I1,w1⟩;refine wpAny_passesOwn hp (y9 (hc pins s1 σ1 H1 _ I1 (turn n σ1 H1 w1)) fun b s2 ⟨H2,I2,q2⟩=> ?_)
 cases b with
 |true=>
  obtain ⟨N,hN,q2⟩:=q2;rw[if_pos rfl];refine wpAny_passesOwn hp (y9 (hb pins s2 σ1 H2 _ I2 q2) fun f s3 q3=> ?_)
  cases f with
  |next=>
   obtain ⟨σ3,H3,I3,n3⟩:=q3;obtain ⟨m',hm,w3⟩:=hN σ3 H3 n3;exact ⟨m',hm,σ3,H3,I3,w3⟩
  |cont=>
   obtain ⟨σ3,H3,I3,n3⟩:=q3;obtain ⟨m',hm,w3⟩:=hN σ3 H3 n3;exact ⟨m',hm,σ3,H3,I3,w3⟩
  |brk=>exact q3
  |ret v=>exact q3
 |false=>
  rw[if_neg cq1];exact wpAny_execs_nil ⟨σ1,H2,I2,q2⟩
end
structure It where
 go:Nat->Hp->Prop
 yld:Nat->Hp->V->Hp->Prop
 stop:Nat->Hp->Prop
def ag3 (X:Cx)(pins:List (Addr×Obj))(H:Hp)(b:Addr):Prop:=
 H b=none/\b≠X.env.locals/\b∉X.fs/\(b∈X.ex\/X.s₀.heap.objs.size<=b)/\(∀x c,X.env.cells.lookup x=some c->c≠b)/\∀p∈X.pn++pins,p.1≠b
theorem j9.fpOk {X:Cx}{pins:List (Addr×Obj)}{σ:St}{H H':Hp}{s:Shared}{b:Addr}(I:j9 X pins σ H s)(hb:s.heap.objs.size<=b)(hn:H' b=none):ag3 X pins H' b:=by
 refine ⟨hn,cw4 (cr2 I.lt hb),I.nofs hb,.inr (cq3 I.sz hb),fun x c e z=> ?_,fun p hp z=> ?_⟩
 · obtain ⟨v,q⟩:=I.cell x c e;exact absurd (cr2 q.lt (by rw[z];exact hb)) (cv0 _)
 · exact absurd (cr2 (Heap.lt_size (I.pin p hp).1) (by rw[z];exact hb)) (cv0 _)
structure bi2 (P:Program)(w:World)(K:PySem.W.Frag)(tg:Expr)(J:It)(fp:List Addr)(it:Addr)(tn:Nat->Heap->Prop):Prop where
 mem:it∈fp
 obj:∀i h,tn i h->∀b∈fp,∃o,h.get? b=some o/\∀v,o.data≠.cell v
 keep:∀i h h',tn i h->(∀b∈fp,∀o,h.get? b=some o->h'.get? b=some o)->tn i h'
 item:∀(X:Cx),X.prog=P->X.w=w->X.K=K->X.calm=true->∀(i:Nat) (pins:List (Addr×Obj)) (s:Shared) (σ:St) (H:Hp) (E:Value->Shared->Prop),j9 X pins σ H s->(∀b∈fp,ag3 X pins H b)->tn i s.heap->J.go i H->
   wpAny (model P w) X.A (pyNext (.ref it)) (fun r s1=>∃u,r=some u/\
     wpAny (model P w) X.A (letOwnedTupleGo tg (.ref it) u) (fun _ s2=>∃x H',j9 X pins σ H' s2/\y8 x u/\J.yld i H x H'/\tn (i+1) s2.heap/\∀b∈fp,H' b=none) E s1) E s
 done:∀(X:Cx),X.prog=P->X.w=w->X.K=K->X.calm=true->∀(i:Nat) (pins:List (Addr×Obj)) (s:Shared) (σ:St) (H:Hp) (E:Value->Shared->Prop),j9 X pins σ H s->(∀b∈fp,ag3 X pins H b)->tn i s.heap->J.stop i H->
   wpAny (model P w) X.A (pyNext (.ref it)) (fun r s1=>r=none/\j9 X pins σ H s1) E s
 self:∀(A:Around) (i:Nat) (s:Shared) (Q:Value->Shared->Prop) (E:Value->Shared->Prop),tn i s.heap->Q (.ref it) s->wpAny (model P w) A (pyIter (.ref it)) Q E s
abbrev TI:=St->Hp->(It->Hp->Prop)->Prop
def PIE (X:Cx)(pins:List (Addr×Obj))(σ:St)(tg:Expr)(R:It->Hp->Prop)(itv:Value)(s2:Shared):Prop:=
 ∃(it:Addr) (fp:List Addr) (tn:Nat->Heap->Prop) (J:It) (H':Hp),itv= .ref it/\j9 X pins σ H' s2/\bi2 X.prog X.w X.K tg J fp it tn/\tn 0 s2.heap/\(∀b∈fp,ag3 X pins H' b)/\R J H'
def PI (X:Cx)(tg iter:Expr)(wi:TI):Prop:=
 ∀(pins:List (Addr×Obj)) (s:Shared) (σ:St) (H:Hp) (R:It->Hp->Prop),j9 X pins σ H s->wi σ H R->
  wpAny (model X.prog X.w) X.A (eval iter X.env) (fun v s1=>wpAny (model X.prog X.w) X.A (pyIter v) (PIE X pins σ tg R) X.xe s1) X.xe s
theorem bx8 {M:Model}{A:Around}{E:Value->Shared->Prop}{s:Shared}{tg:Expr}{it:Addr}{u:Value}{o:Obj}{n:String}{vs:Array Value}{Q:Unit->Shared->Prop}(ho:s.heap.get? it=some o)(hc:o.cls= .type n)(hd:o.data= .fields vs)
   (hn:["enumerate","zip","dict_itemiterator","dict_reverseitemiterator","odict_iterator","itertools.zip_longest","itertools.pairwise"].contains n=false) (hQ:Q () s):wpAny M A (letOwnedTupleGo tg (.ref it) u) Q E s:=by
 unfold letOwnedTupleGo
 cases tg<;>first
   |exact wpAny_pure hQ
   |(cases u<;>first
       |exact wpAny_pure hQ
       |(refine wpAny_bind (wpAny_load ho ?_)
         rw[hc,hd];show wpAny M A (if (["enumerate","zip","dict_itemiterator","dict_reverseitemiterator","odict_iterator","itertools.zip_longest","itertools.pairwise"].contains n&&vs[0]? ==some (rawInt _))=true then _ else _) Q E s;rw[if_neg (by intro h;rw[hn,Bool.false_and] at h;cases h)]
         exact wpAny_pure hQ))
def Itl (K:PySem.W.Frag)(a:Addr):It:=
 ⟨fun i H=>∃xs x,i8 K H a xs/\xs[i]? =some x,fun i H x H'=>H'=H/\∀xs,i8 K H a xs->xs[i]? =some x,fun i H=>∃xs,i8 K H a xs/\xs.length<=i⟩
def Itr (lo:Int)(n:Nat):It:=⟨fun i _=>i < n,fun i H x H'=>H'=H/\x= .int (lo+i),fun i _=>n<=i⟩
theorem bm5 {P:Program}{w:World}{K:PySem.W.Frag}{tg:Expr}(a it:Addr):bi2 P w K tg (Itl K a) [it] it (fun i h=>h.IsListIter it a i) where
 mem:=by simp
 obj:=fun i h st b hb=>by
   have e:b=it:=by simpa using hb
   subst e;obtain ⟨o,e,c,d⟩:=st;exact ⟨o,e,fun v z=>by rw[d] at z;cases z⟩
 keep:=fun i h h' st k=>st.at fun o e=>k it (by simp) o e
 item:=by
   intro X hP hw hK hc i pins s σ H E I hf st hg;subst hP hw hK;obtain ⟨xs,x,hq,hx⟩:=hg;obtain ⟨its,rv,p,hz⟩:=I.list hq;obtain ⟨u,hu,ru⟩:=rv.get hx;obtain ⟨f0,f1,f2,f3,f4,f5⟩:=hf it (by simp)
   refine wpAny_pyNext_list_item st p.isList (x:=u) (by simpa using hu) fun h' st' sb=> ?_
   have I1:j9 X pins σ H {s with heap:=h'}:=I.turned (t':=s.toks) (fun b o hb e=>(sb.2 b hb).trans e) f0 f1 f3 f4 f5;obtain ⟨o,e,c,d⟩:=id st';exact ⟨u,rfl,bx8 (s:={s with heap:=h'}) e c d (by decide) ⟨x,H,I1,ru,⟨rfl,fun ys hy=>by rw[I.list_inj hy hq];exact hx⟩,st',fun b hb=>(hf b hb).1⟩⟩
 done:=by
   intro X hP hw hK hc i pins s σ H E I hf st hg;subst hP hw hK;obtain ⟨xs,hq,hx⟩:=hg;obtain ⟨its,rv,p,hz⟩:=I.list hq;obtain ⟨f0,f1,f2,f3,f4,f5⟩:=hf it (by simp);have hl:=rv.length
   exact wpAny_pyNext_list_end (I.ok.hd hc) st p.isList (by simp;omega) fun h' eb=>⟨rfl,I.turned (t':=s.toks) (fun b o hb e=>eb b o hb e) f0 f1 f3 f4 f5⟩
 self:=fun _ _ _ _ _ st h=>wpAny_pyIter_listiter st h
theorem bi3 {P:Program}{w:World}{K:PySem.W.Frag}{tg:Expr}(it:Addr)(lo:Int)(n:Nat):bi2 P w K tg (Itr lo n) [it] it (fun i h=>IsRangeIter h it (lo+(i:Nat)*1) ((n:Int) - (i:Nat)) 1) where
 mem:=by simp
 obj:=fun i h st b hb=>by
   have e:b=it:=by simpa using hb
   subst e
   exact ⟨_,st,fun v z=>by
     have z':Data.fields _=Data.cell v:=z
     cases z'⟩
 keep:=fun i h h' st k=>k it (by simp) _ st
 item:=by
   intro X hP hw hK hc i pins s σ H E I hf st hg;subst hP hw hK;obtain ⟨f0,f1,f2,f3,f4,f5⟩:=hf it (by simp);have W:=Walks.range (prog:=X.prog) (w:=X.w) (I.ok.hd hc) it lo 1 n
   refine W.item i s _ _ hg st fun v h' tk hv st' kk=> ?_
   obtain ⟨t,rfl⟩:=hv;have I1:j9 X pins σ H {s with heap:=h',toks:=tk}:=I.turned (fun b o hb e=>kk b o (by simpa using hb) e) f0 f1 f3 f4 f5;refine ⟨_,rfl,bx8 (s:={s with heap:=h',toks:=tk}) (n:="range_iterator") st' rfl rfl (by decide) ⟨.int (lo+i),H,I1,⟨t,?_⟩,⟨rfl,rfl⟩,st',fun b hb=>(hf b hb).1⟩⟩;rw[Int.mul_one]
 done:=by
   intro X hP hw hK hc i pins s σ H E I hf st hg;subst hP hw hK;obtain ⟨f0,f1,f2,f3,f4,f5⟩:=hf it (by simp)
   exact wpAny_pyNext_range_end (I.ok.hd hc) st (by have:n<=i:=hg;omega) fun h' eb=>⟨rfl,I.turned (t':=s.toks) (fun b o hb e=>eb b o hb e) f0 f1 f3 f4 f5⟩
 self:=fun _ _ _ _ _ st h=>wpAny_pyIter_rangeiter st h
end L2
namespace L2
open PySem PySem.Spec PyProof.Rows
section
variable {X:Cx} {tg:Expr}
def bx9 (K:PySem.W.Frag)(tl:TE):TI:=fun σ H R=>tl σ H fun x H1=>∃a,x= .ref a/\(∃xs,i8 K H1 a xs)/\R (Itl K a) H1
theorem A8 {l:Expr}{tl:TE}(hl:PE X l tl):PI X tg l (bx9 X.K tl):=by
 intro pins s σ H R I h
 refine y9 (hl pins s σ H _ I h) fun v s1 ⟨x,H1,I1,r1,q1⟩=> ?_
 obtain ⟨a,e,⟨xs,hq⟩,q⟩:=q1;subst e;cases r1;obtain ⟨its,rv,p,hz⟩:=I1.list hq;refine wpAny_pyIter_list p.isList ?_;refine ⟨s1.heap.objs.size,[s1.heap.objs.size],_,_,H1,rfl,I1.kept (t':=s1.toks) fun b o e=>Heap.get?_push_of_some _ e,bm5 a _,⟨_,Heap.get?_push_size _ rfl,rfl,rfl⟩,fun b hb=> ?_,q⟩
 have e:b=s1.heap.objs.size:=by simpa using hb
 subst e;exact I1.fpOk (cq0 _) (I1.hok.fresh (cq0 _))
theorem bt4 {pins:List (Addr×Obj)}{σ:St}{H:Hp}{s:Shared}{R:It->Hp->Prop}{E:Value->Shared->Prop}{lo hi:Int}{t u v:Tok}{tk:Nat}(I:j9 X pins σ H s)(h1: -(2^62)<=lo)(h2:lo < 2^62)(h3: -(2^62)<=hi)(h4:hi < 2^62)
   (q:R (Itr lo (hi - lo).toNat) H):wpAny (model X.prog X.w) X.A (pyIter (.ref s.heap.objs.size)) (PIE X pins σ tg R) E {s with heap:=s.heap.push {cls:= .type "range",data:= .fields #[.int lo t,.int hi u,.int 1 v]},toks:=tk}:=by
 refine wpAny_pyIter_range (IsRange.new ..) (small_one h1 h2 h3 h4) ?_
 have I1:j9 X pins σ H {s with heap:=s.heap.push {cls:= .type "range",data:= .fields #[.int lo t,.int hi u,.int 1 v]},toks:=tk}:=I.kept fun b o e=>Heap.get?_push_of_some _ e
 refine ⟨(s.heap.push {cls:= .type "range",data:= .fields #[.int lo t,.int hi u,.int 1 v]}).objs.size,[(s.heap.push {cls:= .type "range",data:= .fields #[.int lo t,.int hi u,.int 1 v]}).objs.size],_,_,H,rfl,
   I1.kept (t':=tk) fun b o e=>Heap.get?_push_of_some _ e,bi3 _ lo (hi - lo).toNat,?_,fun b hb=> ?_,q⟩
 · have e1:lo+((0:Nat):Int)*1=lo:=by simp
   have e2:(((hi - lo).toNat:Nat):Int) - ((0:Nat):Int)=Builtin.Range.rangeSize lo hi 1:=by rw[rangeSize_one];split<;>omega
   show IsRangeIter _ _ (lo+((0:Nat):Int)*1) ((((hi - lo).toNat:Nat):Int) - ((0:Nat):Int)) 1;rw[e1,e2];exact Heap.get?_push_size _ rfl
 · have e:b=(s.heap.push {cls:= .type "range",data:= .fields #[.int lo t,.int hi u,.int 1 v]}).objs.size:=by simpa using hb
   subst e;exact I1.fpOk (cq0 _) (I1.hok.fresh (cq0 _))
def ci9 (ta:TA):TI:=fun σ H R=>ta σ H fun vs H1=>∃j:Int,vs=[.int j]/\ -(2^62)<=j/\j < 2^62/\R (Itr 0 j.toNat) H1
theorem D4 {a:Expr}{ta:TA}{p pos:Pos}(hg:Gl X "range")(hm:X.mg "range"=none)(ha:PA X [a] ta)(hs:starEach [a] X.env=[(false,eval a X.env)]:=by rfl):PI X tg (.Call (.Name "range" p) [a] [] pos) (ci9 ta):=by
 intro pins s σ H R I h;refine Call_ (S0 I hg hm boot_range (PyProof.Rows.callWith_type1 (y9 (ha pos pins s σ H _ I h) fun us s1 ⟨vs,H1,I1,r1,q1⟩=> ?_) hs rfl));obtain ⟨j,e,q1,q2,q⟩:=q1;subst e
 cases r1 with
 |cons r rr=>
  cases rr;obtain ⟨t,rfl⟩:=r;exact call_range_1 (bt4 I1 (by omega) (by omega) q1 q2 (by simpa using q))
def cm2 (wi:TI)(g:TG)(tb:TS):TS:=fun D σ H=>wi σ H fun J H1=>∃W:Nat->Nat->St->Hp->Prop,(∃m,W 0 m σ H1)/\∀i m σ H,W i m σ H->
 (J.stop i H/\D.nx σ H)\/(J.go i H/\∃N:St->Hp->Prop,(∀σ' H',N σ' H'->∃m',m' < m/\W (i+1) m' σ' H')/\∀x H',J.yld i H x H'->g x σ H' fun σ2 H2=>tb {D with nx:=N,ct:=N,bk:=D.nx} σ2 H2)
def Y5 (fp:List Addr)(h:Heap):List (Addr×Obj):=fp.filterMap fun b=>(h.get? b).map fun o=>(b,o)
theorem X3 {fp:List Addr}{h:Heap}{b:Addr}{o:Obj}(hb:b∈fp)(e:h.get? b=some o):(b,o)∈Y5 fp h:=cz1.mpr ⟨b,hb,by rw[e];rfl⟩
theorem at7 {fp:List Addr}{h:Heap}{p:Addr×Obj}(hp:p∈Y5 fp h):p.1∈fp/\h.get? p.1=some p.2:=by
 obtain ⟨b,hb,e⟩:=cz1.mp hp
 cases q:h.get? b with
 |none=>rw[q] at e;cases e
 |some o=>
  rw[q] at e;have e':(b,o)=p:=Option.some.inj e;subst e';exact ⟨hb,q⟩
theorem j9.pinned {pins:List (Addr×Obj)}{σ:St}{H:Hp}{s:Shared}{fp:List Addr}(I:j9 X pins σ H s)(hf:∀b∈fp,ag3 X pins H b)(ho:∀b∈fp,∃o,s.heap.get? b=some o/\∀v,o.data≠.cell v):j9 X (pins++Y5 fp s.heap) σ H s:=
 I.pins_of fun p hp=>(cp4.mp hp).elim (fun z=>I.pin p (cp8 _ z)) fun z=>by
   obtain ⟨hb,e⟩:=at7 z;obtain ⟨f0,f1,f2,_⟩:=hf p.1 hb;obtain ⟨o,e',d⟩:=ho p.1 hb;rw[e] at e';cases e';exact ⟨e,f0,f1,f2,d⟩
theorem j9.unpinned {pins pl:List (Addr×Obj)}{σ:St}{H:Hp}{s:Shared}(I:j9 X (pins++pl) σ H s):j9 X pins σ H s:=I.pins_of fun p hp=>I.pin p (cp8 _ (cs3 _ hp))
theorem B7 {iter:Expr}{body:List Stmt}{wi:TI}{g:TG}{tb:TS}{pos:Pos}(hp:PassesOwn (model X.prog X.w) X.A X.env X.xe)(hc:X.calm=true)(hi:PI X tg iter wi)(hg:PG X tg g)(hb:W9 X body tb)
   (hs:∀x,foldedSetIterable iter X.env x=pure x:=by intro _;rfl):PS X (.For tg iter body [] pos) (cm2 wi g tb):=by
 intro pins s σ H D I h;refine wpAny_For (y9 (hi pins s σ H _ I h) fun v s1 h1=>y9 h1 fun itv s2 h2=> ?_) hs;obtain ⟨it,fp,tn,J,H2,e,I2,T,st2,f2,W,⟨m0,w0⟩,turn⟩:=h2;subst e
 have stat:∀{H':Hp},(∀b∈fp,H' b=none)->∀b∈fp,ag3 X pins H' b:=fun hn b hb=>⟨hn b hb,(f2 b hb).2⟩
 refine codeAny_forLoop_any (fun n s'=>∃i σ' H',j9 X pins σ' H' s'/\tn i s'.heap/\(∀b∈fp,H' b=none)/\W i n σ' H') ?_ m0 ⟨0,σ,H2,I2,st2,fun b hb=>(f2 b hb).1,w0⟩;rintro n s3 ⟨i,σ3,H3,I3,st3,fr3,w3⟩
 rcases turn i n σ3 H3 w3 with ⟨stop,qn⟩|⟨go,N,hN,step⟩
 · refine wpAny_passesOwn hp (y9 (T.done X rfl rfl rfl hc i pins s3 σ3 H3 X.xe I3 (stat fr3) st3 stop) fun r s4 ⟨hr,I4⟩=> ?_);subst hr;exact wpAny_execs_nil ⟨σ3,H3,I4,qn⟩
 · refine wpAny_passesOwn hp (y9 (T.item X rfl rfl rfl hc i pins s3 σ3 H3 X.xe I3 (stat fr3) st3 go) fun r s4 ⟨u,hr,h4⟩=> ?_);subst hr;refine wpAny_passesOwn hp (y9 h4 fun _ s5 ⟨x,H5,I5,r5,y5,st5,fr5⟩=> ?_);have I5':=I5.pinned (stat fr5) (T.obj _ _ st5);refine wpAny_passesOwn hp (y9 (hg _ s5 σ3 H5 x u _ I5' r5 (step x H5 y5)) fun _ s6 ⟨σ6,H6,I6,q6⟩=> ?_);refine wpAny_passesOwn hp (y9 (hb _ s6 σ6 H6 _ I6 q6) fun f s7 q7=> ?_)
   have again:∀{σ7:St} {H7:Hp},j9 X (pins++Y5 fp s5.heap) σ7 H7 s7->N σ7 H7->∃m,m < n/\∃i σ' H',j9 X pins σ' H' s7/\tn i s7.heap/\(∀b∈fp,H' b=none)/\W i m σ' H':=fun {σ7 H7} I7 n7=>by
     obtain ⟨m',hm,w7⟩:=hN σ7 H7 n7;refine ⟨m',hm,i+1,σ7,H7,I7.unpinned,T.keep _ _ _ st5 fun b hb o e=>(I7.pin (b,o) (cp8 _ (cp8 _ (X3 hb e)))).1,fun b hb=> ?_,w7⟩;obtain ⟨o,e,d⟩:=T.obj _ _ st5 b hb;exact (I7.pin (b,o) (cp8 _ (cp8 _ (X3 hb e)))).2.1
   cases f with
   |next=>obtain ⟨σ7,H7,I7,n7⟩:=q7;exact again I7 n7
   |cont=>obtain ⟨σ7,H7,I7,n7⟩:=q7;exact again I7 n7
   |brk=>obtain ⟨σ7,H7,I7,q7⟩:=q7;exact ⟨σ7,H7,I7.unpinned,q7⟩
   |ret v=>obtain ⟨x7,σ7,H7,I7,r7,q7⟩:=q7;exact ⟨x7,σ7,H7,I7.unpinned,r7,q7⟩
end
theorem C2 {K:PySem.W.Frag}{a:Addr}{xs:List V}{g:TG}{tb:TS}{D:Y2}{σ:St}{H:Hp}(Pv:Nat->St->Hp->Prop)(h0:Pv 0 σ H)(hl:∀i σ H,i<=xs.length->Pv i σ H->i8 K H a xs)
   (hs:∀i x σ H,xs[i]? =some x->Pv i σ H->g x σ H fun σ2 H2=>tb {D with nx:=Pv (i+1),ct:=Pv (i+1),bk:=D.nx} σ2 H2) (hd:∀σ H,Pv xs.length σ H->D.nx σ H):
   ∃W:Nat->Nat->St->Hp->Prop,(∃m,W 0 m σ H)/\∀i m σ H,W i m σ H->
    ((Itl K a).stop i H/\D.nx σ H)\/((Itl K a).go i H/\∃N:St->Hp->Prop,(∀σ' H',N σ' H'->∃m',m' < m/\W (i+1) m' σ' H')/\∀x H',(Itl K a).yld i H x H'->g x σ H' fun σ2 H2=>tb {D with nx:=N,ct:=N,bk:=D.nx} σ2 H2):=by
 refine ⟨fun i m σ H=>m=xs.length - i/\i<=xs.length/\Pv i σ H,⟨xs.length,by simp,cs1 _,h0⟩,?_⟩;rintro i m σ H ⟨rfl,hi,p⟩;have q:=hl i σ H hi p
 by_cases hlt:i < xs.length
 · refine .inr ⟨⟨xs,xs[i],q,by simp [hlt]⟩,Pv (i+1),fun σ' H' p'=>⟨xs.length - (i+1),by omega,rfl,hlt,p'⟩,fun x H' y=> ?_⟩;obtain ⟨e,y⟩:=y;subst e;exact hs i x σ _ (y xs q) p
 · have e:i=xs.length:=by omega
   subst e;exact .inl ⟨⟨xs,q,cq0 _⟩,hd σ H p⟩
theorem R0 {lo:Int}{n:Nat}{g:TG}{tb:TS}{D:Y2}{σ:St}{H:Hp}(Pv:Nat->St->Hp->Prop)(h0:Pv 0 σ H)
   (hs:∀i σ H,i < n->Pv i σ H->g (.int (lo+i)) σ H fun σ2 H2=>tb {D with nx:=Pv (i+1),ct:=Pv (i+1),bk:=D.nx} σ2 H2) (hd:∀σ H,Pv n σ H->D.nx σ H):
   ∃W:Nat->Nat->St->Hp->Prop,(∃m,W 0 m σ H)/\∀i m σ H,W i m σ H->
    ((Itr lo n).stop i H/\D.nx σ H)\/((Itr lo n).go i H/\∃N:St->Hp->Prop,(∀σ' H',N σ' H'->∃m',m' < m/\W (i+1) m' σ' H')/\∀x H',(Itr lo n).yld i H x H'->g x σ H' fun σ2 H2=>tb {D with nx:=N,ct:=N,bk:=D.nx} σ2 H2):=by
 refine ⟨fun i m σ H=>m=n - i/\i<=n/\Pv i σ H,⟨n,by simp,cs1 _,h0⟩,?_⟩;rintro i m σ H ⟨rfl,hi,p⟩
 by_cases hlt:i < n
 · refine .inr ⟨hlt,Pv (i+1),fun σ' H' p'=>⟨n - (i+1),by omega,rfl,hlt,p'⟩,fun x H' y=> ?_⟩;obtain ⟨e,y⟩:=y;subst e y;exact hs i σ _ hlt p
 · have e:i=n:=by omega
   subst e;exact .inl ⟨cq0 _,hd σ H p⟩
theorem Y6 {c:TT}{tb:TS}{D:Y2}{σ:St}{H:Hp}(Pv:St->Hp->Prop)(μ:St->Hp->Nat)(h0:Pv σ H)
   (hs:∀σ H,Pv σ H->c σ H fun b H1=>if b=true then tb {D with nx:=fun σ' H'=>Pv σ' H'/\μ σ' H' < μ σ H,ct:=fun σ' H'=>Pv σ' H'/\μ σ' H' < μ σ H,bk:=D.nx} σ H1 else D.nx σ H1)
   (mono:∀σ H Q Q',(∀b H1,Q b H1->Q' b H1)->c σ H Q->c σ H Q'):bm4 c tb D σ H:=by
 refine ⟨fun m σ H=>m=μ σ H/\Pv σ H,⟨_,rfl,h0⟩,?_⟩;rintro m σ H ⟨rfl,p⟩;refine mono σ H _ _ (fun b H1 q=> ?_) (hs σ H p)
 cases b with
 |true=>exact ⟨_,fun σ' H' ⟨p',l⟩=>⟨_,l,rfl,p'⟩,q⟩
 |false=>exact q
end L2
namespace L2
open PySem PySem.Spec PyProof.Rows
abbrev R2:=V->V->Hp->VK->Prop
def L9 (X:Cx)(f:Value->Value->Sem Value)(r:R2):Prop:=
 ∀(pins:List (Addr×Obj)) (s:Shared) (σ:St) (H:Hp) (x y:V) (v u:Value) (Q:VK),j9 X pins σ H s->y8 x v->y8 y u->r x y H Q->
  wpAny (model X.prog X.w) X.A (f v u) (EP X pins σ Q) X.xe s
def UnR (X:Cx)(f:Value->Sem Value)(r:V->Hp->VK->Prop):Prop:=
 ∀(pins:List (Addr×Obj)) (s:Shared) (σ:St) (H:Hp) (x:V) (v:Value) (Q:VK),j9 X pins σ H s->y8 x v->r x H Q->
  wpAny (model X.prog X.w) X.A (f v) (EP X pins σ Q) X.xe s
def G8 (X:Cx)(f:Value)(r:List V->Hp->VK->Prop):Prop:=
 ∀(pins:List (Addr×Obj)) (s:Shared) (σ:St) (H:Hp) (xs:List V) (us:List Value) (Q:VK),j9 X pins σ H s->o5 xs us->r xs H Q->
  wpAny (model X.prog X.w) X.A (call f us) (EP X pins σ Q) X.xe s
def tOp (r:R2)(ta tb:TE):TE:=fun σ H Q=>ta σ H fun x H1=>tb σ H1 fun y H2=>r x y H2 Q
def tUn (r:V->Hp->VK->Prop)(ta:TE):TE:=fun σ H Q=>ta σ H fun x H1=>r x H1 Q
def rI (C:Int->Int->Prop)(g:Int->Int->V):R2:=fun x y H Q=>∃i j,x= .int i/\y= .int j/\C i j/\Q (g i j) H
def rI0 (g:Int->Int->V):R2:=fun x y H Q=>∃i j,x= .int i/\y= .int j/\Q (g i j) H
def rU (g:Int->V):V->Hp->VK->Prop:=fun x H Q=>∃i,x= .int i/\Q (g i) H
section
variable {X:Cx} {a b c:Expr} {ta tb tc:TE} {pos:Pos}
theorem bt5 (ha:PE X a ta)(hb:PE X b tb){pins:List (Addr×Obj)}{s:Shared}{σ:St}{H:Hp}{R:V->V->Hp->Prop}(I:j9 X pins σ H s)
   (h:ta σ H fun x H1=>tb σ H1 fun y H2=>R x y H2) {Q:Value->Shared->Prop} {f:Value->Value->Sem Value}
   (hf:∀v u s2 x y H2,j9 X pins σ H2 s2->y8 x v->y8 y u->R x y H2->wpAny (model X.prog X.w) X.A (f v u) Q X.xe s2):
   wpAny (model X.prog X.w) X.A (eval a X.env) (fun v s₁=>wpAny (model X.prog X.w) X.A (eval b X.env) (fun u s₂=>wpAny (model X.prog X.w) X.A (f v u) Q X.xe s₂) X.xe s₁) X.xe s:=by
 refine y9 (ha pins s σ H _ I h) fun v s1 ⟨x,H1,I1,r1,q1⟩=> ?_
 refine y9 (hb pins s1 σ H1 _ I1 q1) fun u s2 ⟨y,H2,I2,r2,q2⟩=> ?_
 exact hf v u s2 x y H2 I2 r1 r2 q2
theorem m3 {op:Operator}{r:R2}(ho:L9 X (binaryOp op) r)(ha:PE X a ta)(hb:PE X b tb):PE X (.BinOp a op b pos) (tOp r ta tb):=by
 intro pins s σ H Q I h;exact wpAny_BinOp (bt5 ha hb I h fun v u s2 x y H2 I2 rx ry q=>ho pins s2 σ H2 x y v u Q I2 rx ry q)
theorem V0 {op:UnaryOp}{r:V->Hp->VK->Prop}(ho:UnR X (unaryOp op) r)(ha:PE X a ta):PE X (.UnaryOp op a pos) (tUn r ta):=by
 intro pins s σ H Q I h;exact UnaryOp_ (y9 (ha pins s σ H _ I h) fun v s1 ⟨x,H1,I1,r1,q1⟩=>ho pins s1 σ H1 x v Q I1 r1 q1)
theorem opI {f:Value->Value->Sem Value}{C:Int->Int->Prop}{g:Int->Int->Int}
   (rule:∀(i j:Int) (t u:Tok) (s:Shared) (Q:Value->Shared->Prop) (E:Value->Shared->Prop),C i j->Q (.int (g i j) s.toks) {s with toks:=s.toks+1}->wpAny (model X.prog X.w) X.A (f (.int i t) (.int j u)) Q E s):
   L9 X f (rI C fun i j=> .int (g i j)):=by
 intro pins s σ H x y v u Q I rx ry h;obtain ⟨i,j,rfl,rfl,hc,q⟩:=h;obtain ⟨t,rfl⟩:=rx;obtain ⟨t',rfl⟩:=ry;exact rule i j t t' s _ _ hc ⟨.int (g i j),H,I.tok _,⟨_,rfl⟩,q⟩
theorem ce7 {f:Value->Value->Sem Value}{g:Int->Int->Int}
   (rule:∀(i j:Int) (t u:Tok) (s:Shared) (Q:Value->Shared->Prop) (E:Value->Shared->Prop),Q (.int (g i j) s.toks) {s with toks:=s.toks+1}->wpAny (model X.prog X.w) X.A (f (.int i t) (.int j u)) Q E s):
   L9 X f (rI0 fun i j=> .int (g i j)):=by
 intro pins s σ H x y v u Q I rx ry h;obtain ⟨i,j,rfl,rfl,q⟩:=h;obtain ⟨t,rfl⟩:=rx;obtain ⟨t',rfl⟩:=ry;exact rule i j t t' s _ _ ⟨.int (g i j),H,I.tok _,⟨_,rfl⟩,q⟩
theorem bt6 {f:Value->Value->Sem Value}{g:Int->Int->Bool}
   (rule:∀(i j:Int) (t u:Tok) (s:Shared) (Q:Value->Shared->Prop) (E:Value->Shared->Prop),Q (.bool (g i j)) s->wpAny (model X.prog X.w) X.A (f (.int i t) (.int j u)) Q E s):
   L9 X f (rI0 fun i j=> .bl (g i j)):=by
 intro pins s σ H x y v u Q I rx ry h;obtain ⟨i,j,rfl,rfl,q⟩:=h;obtain ⟨t,rfl⟩:=rx;obtain ⟨t',rfl⟩:=ry;exact rule i j t t' s _ _ ⟨.bl (g i j),H,I,rfl,q⟩
def cm3 (i j:Int):Prop:=0 < j/\j < 1073741824
def ce8 (i j:Int):Prop:=0<=j/\j<=1000000/\i.natAbs < 2^64
def bt7 (i j:Int):Prop:=(-(2^64) < i/\i < 2^64)\/(-(2^64) < j/\j < 2^64)
theorem bt7.ok {i j:Int}(h:bt7 i j):IntMulOk i j:=by
 rcases h with ⟨h1,h2⟩|⟨h1,h2⟩
 · exact .of_left (intBits_le_64 h1 h2)
 · exact .of_right (intBits_le_64 h1 h2)
theorem B2:L9 X (binaryOp .Add) (rI0 fun i j=> .int (i+j)):=ce7 fun _ _ _ _ _ _ _ q=>add_int q
theorem S1:L9 X (binaryOp .Sub) (rI0 fun i j=> .int (i - j)):=ce7 fun _ _ _ _ _ _ _ q=>sub_int q
theorem V5:L9 X (binaryOp .Mult) (rI bt7 fun i j=> .int (i*j)):=opI fun _ _ _ _ _ _ _ hc q=>mul_int q hc.ok
theorem bf6:L9 X (binaryOp .FloorDiv) (rI cm3 fun i j=> .int (i/j)):=opI fun i j _ _ _ _ _ hc q=>by
 have h1:(0:Int) < j:=hc.1;have h2:j < 1073741824:=hc.2;exact floordiv_int (by omega) (by rw[cz3 i (by omega)];exact q) (.inl (PyProof.noPylong_small (by omega)))
theorem S2:L9 X (binaryOp .Mod) (rI (fun _ j=>0 < j) fun i j=> .int (i%j)):=opI fun i j _ _ _ _ _ hc q=>by
 have h1:(0:Int) < j:=hc;exact mod_int' (by omega) (by rw[Int.fmod_eq_emod_of_nonneg i (by omega)];exact q)
theorem ao1:L9 X (binaryOp .Pow) (rI ce8 fun i j=> .int (i^j.toNat)):=opI fun _ _ _ _ _ _ _ hc q=>pow_int_small hc.1 hc.2.1 hc.2.2 q
theorem unI {f:Value->Sem Value}{g:Int->Int}
   (rule:∀(i:Int) (t:Tok) (s:Shared) (Q:Value->Shared->Prop) (E:Value->Shared->Prop),Q (.int (g i) s.toks) {s with toks:=s.toks+1}->wpAny (model X.prog X.w) X.A (f (.int i t)) Q E s):
   UnR X f (rU fun i=> .int (g i)):=by
 intro pins s σ H x v Q I rx h;obtain ⟨i,rfl,q⟩:=h;obtain ⟨t,rfl⟩:=rx;exact rule i t s _ _ ⟨.int (g i),H,I.tok _,⟨_,rfl⟩,q⟩
theorem O4:UnR X (unaryOp .USub) (rU fun i=> .int (-i)):=unI fun _ _ _ _ _ q=>neg_int q
end
def ce9:V->V->Bool
 | .non,.non=>true| .non,.int _=>true| .int _,.non=>true| .non,.bl _=>true| .bl _,.non=>true| .non,.str _=>true| .str _,.non=>true
 | .int _,.int _=>true| .bl _,.bl _=>true| .str _,.str _=>true| .byt _,.byt _=>true
 | .int _,.str _=>true| .str _,.int _=>true| .bl _,.str _=>true| .str _,.bl _=>true
 |_,_=>false
def rEq:R2:=fun x y H Q=>ce9 x y=true/\Q (.bl (decide (x=y))) H
def rNe:R2:=fun x y H Q=>ce9 x y=true/\Q (.bl (!decide (x=y))) H
theorem bf7 {i j:Int}:decide (V.int i=V.int j)=(i==j):=by
 rw[cv2];simp
theorem bm7 {i j:Bool}:decide (V.bl i=V.bl j)=(i==j):=by
 rw[cv2];simp
theorem bf8 {i j:Str}:decide (V.str i=V.str j)=(i==j):=by
 rw[cv2];simp
theorem bf9 {i j:Array UInt8}:decide (V.byt i=V.byt j)=(i.toList==j.toList):=by
 rw[cv2];cases i;cases j;simp
section
variable {X:Cx} {a b c:Expr} {ta tb tc:TE} {pos:Pos}
theorem B0 {pins:List (Addr×Obj)}{σ:St}{H:Hp}{s:Shared}{Q:VK}{k k':Bool}(I:j9 X pins σ H s)(q:Q (.bl k) H)(e:k=k'):EP X pins σ Q (.bool k') s:=by
 subst e;exact ⟨.bl k,H,I,rfl,q⟩
theorem E3:L9 X (compareOp .Eq) rEq:=by
 intro pins s σ H x y v u Q I rx ry h;obtain ⟨hs,q⟩:=h
 cases x with
 |non=>
  cases rx
  cases y with
  |non=>cases ry;exact PySem.EqNone.eq_none_none (B0 I q (by simp))
  |bl j=>cases ry;exact PySem.EqNone.eq_none_bool (B0 I q (by simp))
  |int j=>obtain ⟨t',rfl⟩:=ry;exact PySem.EqNone.eq_none_int (B0 I q (by simp))
  |str j=>obtain ⟨t',rfl⟩:=ry;exact PySem.EqNone.eq_none_str (B0 I q (by simp))
  |_=>exact absurd (show false=true from hs) cq1
 |bl i=>
  cases rx
  cases y with
  |non=>cases ry;exact PySem.EqNone.eq_bool_none (B0 I q (by simp))
  |bl j=>cases ry;exact eq_bool (B0 I q bm7)
  |str j=>obtain ⟨t',rfl⟩:=ry;exact PySem.EqMixed.eq_bool_str (B0 I q (by simp))
  |_=>exact absurd (show false=true from hs) cq1
 |int i=>
  obtain ⟨t,rfl⟩:=rx
  cases y with
  |non=>cases ry;exact PySem.EqNone.eq_int_none (B0 I q (by simp))
  |int j=>obtain ⟨t',rfl⟩:=ry;exact eq_int (B0 I q bf7)
  |str j=>obtain ⟨t',rfl⟩:=ry;exact PySem.EqMixed.eq_int_str (B0 I q (by simp))
  |_=>exact absurd (show false=true from hs) cq1
 |str i=>
  obtain ⟨t,rfl⟩:=rx
  cases y with
  |non=>cases ry;exact PySem.EqNone.eq_str_none (B0 I q (by simp))
  |bl j=>cases ry;exact PySem.EqMixed.eq_str_bool (B0 I q (by simp))
  |int j=>obtain ⟨t',rfl⟩:=ry;exact PySem.EqMixed.eq_str_int (B0 I q (by simp))
  |str j=>obtain ⟨t',rfl⟩:=ry;exact eq_str (B0 I q bf8)
  |_=>exact absurd (show false=true from hs) cq1
 |byt i=>
  obtain ⟨t,rfl⟩:=rx
  cases y with
  |byt j=>obtain ⟨t',rfl⟩:=ry;exact PySem.W.eq_bytes (B0 I q bf9)
  |_=>exact absurd (show false=true from hs) cq1
 |_=>cases y<;>exact absurd (show false=true from hs) cq1
theorem ao2:L9 X (compareOp .NotEq) rNe:=by
 intro pins s σ H x y v u Q I rx ry h;obtain ⟨hs,q⟩:=h
 cases x with
 |non=>
  cases rx
  cases y with
  |non=>cases ry;exact PySem.EqNone.ne_none_none (B0 I q (by simp))
  |bl j=>cases ry;exact PySem.EqNone.ne_none_bool (B0 I q (by simp))
  |int j=>obtain ⟨t',rfl⟩:=ry;exact PySem.EqNone.ne_none_int (B0 I q (by simp))
  |str j=>obtain ⟨t',rfl⟩:=ry;exact PySem.EqNone.ne_none_str (B0 I q (by simp))
  |_=>exact absurd (show false=true from hs) cq1
 |bl i=>
  cases rx
  cases y with
  |non=>cases ry;exact PySem.EqNone.ne_bool_none (B0 I q (by simp))
  |bl j=>cases ry;exact ne_bool (B0 I q (congrArg not bm7))
  |str j=>obtain ⟨t',rfl⟩:=ry;exact PySem.EqMixed.ne_bool_str (B0 I q (by simp))
  |_=>exact absurd (show false=true from hs) cq1
 |int i=>
  obtain ⟨t,rfl⟩:=rx
  cases y with
  |non=>cases ry;exact PySem.EqNone.ne_int_none (B0 I q (by simp))
  |int j=>obtain ⟨t',rfl⟩:=ry;exact ne_int (B0 I q (congrArg not bf7))
  |str j=>obtain ⟨t',rfl⟩:=ry;exact PySem.EqMixed.ne_int_str (B0 I q (by simp))
  |_=>exact absurd (show false=true from hs) cq1
 |str i=>
  obtain ⟨t,rfl⟩:=rx
  cases y with
  |non=>cases ry;exact PySem.EqNone.ne_str_none (B0 I q (by simp))
  |bl j=>cases ry;exact PySem.EqMixed.ne_str_bool (B0 I q (by simp))
  |int j=>obtain ⟨t',rfl⟩:=ry;exact PySem.EqMixed.ne_str_int (B0 I q (by simp))
  |str j=>obtain ⟨t',rfl⟩:=ry;exact ne_str (B0 I q (congrArg not bf8))
  |_=>exact absurd (show false=true from hs) cq1
 |byt i=>
  obtain ⟨t,rfl⟩:=rx
  cases y with
  |byt j=>obtain ⟨t',rfl⟩:=ry;exact PySem.W.ne_bytes (B0 I q (congrArg not bf9))
  |_=>exact absurd (show false=true from hs) cq1
 |_=>cases y<;>exact absurd (show false=true from hs) cq1
theorem ao3:L9 X (compareOp .Lt) (rI0 fun i j=> .bl (decide (i < j))):=bt6 fun _ _ _ _ _ _ _ q=>lt_int q
theorem aa3:L9 X (compareOp .Gt) (rI0 fun i j=> .bl (decide (j < i))):=bt6 fun _ _ _ _ _ _ _ q=>gt_int q
theorem ax2:L9 X (compareOp .GtE) (rI0 fun i j=> .bl (decide (j<=i))):=bt6 fun _ _ _ _ _ _ _ q=>ge_int q
theorem bm8:L9 X (compareOp .Is) (fun x y H Q=>y= .non/\Q (.bl (decide (x= .non))) H):=by
 intro pins s σ H x y v u Q I rx ry h;obtain ⟨rfl,q⟩:=h;cases ry;refine is_none_gen (B0 I q ?_)
 cases x<;>first
   |(cases rx;rfl)
   |(obtain ⟨t,rfl⟩:=rx;rfl)
theorem q0 (b:Expr){op:CmpOp}(h:op≠.In:=by decide)(h2:op≠.NotIn:=by decide):behindInMarks op b=false:=by
 have e1:(op==CmpOp.In)=false:=by cases op<;>first|rfl|exact absurd rfl h
 have e2:(op==CmpOp.NotIn)=false:=by cases op<;>first|rfl|exact absurd rfl h2
 cases b<;>simp [behindInMarks,e1,e2]
theorem aj7 {op:CmpOp}{r:R2}(ho:L9 X (compareOp op) r)(ha:PE X a ta)(hb:PE X b tb)(hm:behindInMarks op b=false):PE X (.Compare a [op] [b] pos) (tOp r ta tb):=by
 intro pins s σ H Q I h;exact wpAny_Compare1 (bt5 ha hb I h fun v u s2 x y H2 I2 rx ry q=>ho pins s2 σ H2 x y v u Q I2 rx ry q) hm
def cj0 (t:TE):TT:=fun σ H Q=>t σ H fun x H'=>∃k,x= .bl k/\Q k H'
theorem m9 {op:CmpOp}{r:R2}(ho:L9 X (compareOp op) r)(ha:PE X a ta)(hb:PE X b tb)(hm:behindInMarks op b=false):PT X (.Compare a [op] [b] pos) (cj0 (tOp r ta tb)):=by
 intro pins s σ H Q I h
 refine wpAny_isTrue_Compare1 (y9 (ha pins s σ H _ I h) fun v s1 ⟨x,H1,I1,r1,q1⟩=>y9 (hb pins s1 σ H1 _ I1 q1) fun u s2 ⟨y,H2,I2,r2,q2⟩=>
   y9 (ho pins s2 σ H2 x y v u _ I2 r1 r2 q2) fun c s3 ⟨z,H3,I3,r3,k,e,q3⟩=> ?_) hm
 subst e;cases r3;exact wpAny_truthy_bool ⟨H3,I3,q3⟩
theorem ay2:(sizeLine:Nat) < 2^63:=by rw[sizeLine_eq];decide
theorem M2 {x:V}{us:List Value}(r:o5 [x] us):∃u,us=[u]/\y8 x u:=by
 cases r with
 |cons r1 r2=>cases r2;exact ⟨_,rfl,r1⟩
theorem ao4 {x y:V}{us:List Value}(r:o5 [x,y] us):∃u w',us=[u,w']/\y8 x u/\y8 y w':=by
 cases r with
 |cons r1 r2=>
  cases r2 with
  |cons r3 r4=>cases r4;exact ⟨_,_,rfl,r1,r3⟩
theorem bm9 (hc:X.calm=true):G8 X (.builtin "max") (fun xs H Q=>∃i j,xs=[.int i,.int j]/\Q (.int (if j > i then j else i)) H):=by
 intro pins s σ H xs us Q I r h;obtain ⟨i,j,rfl,q⟩:=h;obtain ⟨u,w',rfl,⟨t,rfl⟩,⟨t',rfl⟩⟩:=ao4 r
 refine max_two_ints (I.ok.hd hc) fun h' tk k=>⟨_,H,I.kept k,?_,q⟩
 by_cases hj:j > i
 · rw[if_pos hj,if_pos hj];exact ⟨_,rfl⟩
 · rw[if_neg hj,if_neg hj];exact ⟨_,rfl⟩
theorem bn0 (hc:X.calm=true):G8 X (.builtin "min") (fun xs H Q=>∃i j,xs=[.int i,.int j]/\Q (.int (if j < i then j else i)) H):=by
 intro pins s σ H xs us Q I r h;obtain ⟨i,j,rfl,q⟩:=h;obtain ⟨u,w',rfl,⟨t,rfl⟩,⟨t',rfl⟩⟩:=ao4 r
 refine min_two_ints (I.ok.hd hc) fun h' tk k=>⟨_,H,I.kept k,?_,q⟩
 by_cases hj:j < i
 · rw[if_pos hj,if_pos hj];exact ⟨_,rfl⟩
 · rw[if_neg hj,if_neg hj];exact ⟨_,rfl⟩
theorem ay3:G8 X (.type "str") (fun xs H Q=>∃i,xs=[.int i]/\i.natAbs.log2 < 1920/\Q (.str (toString i)) H):=by
 intro pins s σ H xs us Q I r h;obtain ⟨i,rfl,hz,q⟩:=h;obtain ⟨u,rfl,t,rfl⟩:=M2 r;exact PySem.P.str_of_int hz ⟨.str _,H,I.tok _,⟨_,rfl⟩,q⟩
end
end L2
namespace L2
open PySem PySem.Spec PyProof.Rows
structure bt8 (h:Heap)(x dx C:Addr)(mA:Str->Option Value):Prop where
 obj:h.get? x=some (PySem.W.instObj C dx)
 ns:h.Ns1 dx mA
 ne:dx≠x
theorem bn4 {h:Heap}{dx:Addr}{mA:Str->Option Value}(n:h.Ns1 dx mA):∃od,h.get? dx=some od/\∀name,PySem.W.lookIn name od=some (mA name):=by
 obtain ⟨o,es,ep,ho,hd,hk,_,hm⟩:=n;refine ⟨o,ho,fun name=> ?_⟩;have e:=hm name;unfold nsFind findBy at e;rw[<-Array.find?_toList] at e;unfold PySem.W.lookIn;rw[hd]
 dsimp only
 split
 · rename_i y q;rw[q] at e;exact congrArg some e
 · rename_i q;rw[q] at e
   have a:es.toList.any (·.refKey)=false:=by
     rw[List.any_eq_false];intro y hy;obtain ⟨z,t,hkey⟩:=hk y (Array.mem_toList_iff.mp hy);simp [DictEntry.refKey,hkey]
   have a':¬es.toList.any (·.refKey)=true:=by rw[a];exact cq1
   rw[if_neg a'];exact congrArg some e
theorem bt8.look {h:Heap}{x dx C:Addr}{mA:Str->Option Value}(I:bt8 h x dx C mA):∃od,PySem.W.InstAt h x (PySem.W.instObj C dx) C (some od)/\∀name,PySem.W.lookIn name od=some (mA name):=
 let ⟨od,ho,hl⟩:=bn4 I.ns
 ⟨od,⟨I.obj,rfl,rfl,ho⟩,hl⟩
section
variable {P:Program} {w:World} {H H':Hp} {h h':Heap} {a C dx:Addr} {fs fs':List (Str×V)}
theorem bz2 (hok:D0 P w H h)(e:H a=some (.ins C dx fs)):∃mA,bt8 h a dx C mA/\(∀f,al7 (fs.lookup f) (mA f))/\PySem.Within mA (fs.map (·.1))/\fs.length<=1000/\H dx=some (.own a):=by
 obtain ⟨d,z,ne,ob,mA,n,r,q⟩:=(show B1 P w H h a (.ins C dx fs) from hok a _ e);exact ⟨mA,⟨ob,n,ne⟩,r,q,z,d⟩
end
structure Cls (K:PySem.W.Frag)(C:Addr):Prop where
 pg:PySem.W.plainGet K C Str.empty=true
 hd:PySem.W.hasDictIn K C=true
 po:PySem.W.plainOver K C=true
 sa:PySem.W.findIn K (.ref C) "__setattr__"=some (some (.builtin "object.__setattr__"))
theorem Cls.get {K:PySem.W.Frag}{C:Addr}(c:Cls K C)(f:Str):PySem.W.plainGet K C f=true:=c.pg
section
variable {X:Cx} {pins:List (Addr×Obj)} {σ:St} {H:Hp} {s:Shared} {A:Around} {E:Value->Shared->Prop} {Q:Value->Shared->Prop} {c:Value} {b:Bool}
inductive K0 (K:PySem.W.Frag)(H:Hp):V->Value->Prop where
 |non:K0 K H .non (.type "NoneType")
 |bl (x:Bool):K0 K H (.bl x) (.type "bool")
 |int (i:Int):K0 K H (.int i) (.type "int")
 |str (x:Str):K0 K H (.str x) (.type "str")
 |flt (x:UInt64):K0 K H (.flt x) (.type "float")
 |lst {a:Addr} {xs:List V} (e:H a=some (.lst xs)):K0 K H (.ref a) (.type "list")
 |frz {a:Addr} {o:Obj} {xs:List V} (e:H a=some (.frz o (.lst xs))):K0 K H (.ref a) (.type "list")
 |tup {a:Addr} {xs:List V} (e:H a=some (.tup xs)):K0 K H (.ref a) (.type "tuple")
 |dK {a:Addr} {kvs:List (A7×V)} (e:H a=some (.dK kvs)):K0 K H (.ref a) (.type "dict")
 |dT {a:Addr} {kvs:List (List A7×V)} (e:H a=some (.dT kvs)):K0 K H (.ref a) (.type "dict")
 |ins {a C dx:Addr} {fs:List (Str×V)} (e:H a=some (.ins C dx fs)) (cl:Cls K C) (ha:PySem.W.findIn K (.ref C) "__class__"=some (some (.builtin "object.__class__")))
     (hn:PySem.W.specialIn K (.builtin "object.__class__") "__get__"=some (some (.builtin "getset_descriptor.__get__"))) (htk:PySem.W.takesIn K (.builtin "object.__class__")=some true)
     (hm:PySem.W.mroIn K C (.type "object")=some true):K0 K H (.ref a) (.ref C)
theorem bn5 {x:V}{u t:Value}(I:j9 X pins σ H s)(rx:y8 x u)(ty:K0 X.K H x t)(e:PySem.W.kitOne X.K t c=some b)(h:∀tk,Q (.bool b) {s with toks:=tk}):
   wpAny (model X.prog X.w) A (call (.builtin "isinstance") [u,c]) Q E s:=by
 cases ty with
 |non=>cases (show u=Value.none from rx);exact PySem.W.kia_one PySem.W.kitx_none I.kIn True.intro e (fun z=>nomatch z) h
 |bl y=>cases (show u=Value.bool y from rx);exact PySem.W.kia_one PySem.W.kitx_bool I.kIn True.intro e (fun z=>nomatch z) h
 |int i=>obtain ⟨t,q⟩:=(show ∃t,u=Value.int i t from rx);cases q;exact PySem.W.kia_one PySem.W.kitx_int I.kIn True.intro e (fun z=>nomatch z) h
 |str y=>obtain ⟨t,q⟩:=(show ∃t,u=Value.str y t from rx);cases q;exact PySem.W.kia_one PySem.W.kitx_str I.kIn True.intro e (fun z=>nomatch z) h
 |flt y=>obtain ⟨t,q⟩:=(show ∃t,u=Value.float y t from rx);cases q;exact PySem.W.kia_one PySem.W.kitx_float I.kIn True.intro e (fun z=>nomatch z) h
 |@lst a xs ea=>
  cases (show u=Value.ref a from rx);obtain ⟨_,_,n,_,h1⟩:=(show B1 X.prog X.w H s.heap a (.lst xs) from I.hok a _ ea);exact PySem.W.kia_one PySem.W.kitx_list I.kIn ⟨_,h1,rfl⟩ e (fun z=>nomatch z) h
 |@frz a ob xs ea=>
  cases (show u=Value.ref a from rx);obtain ⟨_,_,_,n,_,h1⟩:=(show B1 X.prog X.w H s.heap a (.frz ob (.lst xs)) from I.hok a _ ea);exact PySem.W.kia_one PySem.W.kitx_list I.kIn ⟨_,h1,rfl⟩ e (fun z=>nomatch z) h
 |@tup a xs ea=>
  cases (show u=Value.ref a from rx);obtain ⟨_,_,_,p⟩:=(show B1 X.prog X.w H s.heap a (.tup xs) from I.hok a _ ea);obtain ⟨o,h1,h2,_⟩:=p;exact PySem.W.kia_one PySem.W.kitx_tuple I.kIn ⟨o,h1,h2⟩ e (fun z=>nomatch z) h
 |@dK a kvs ea=>
  cases (show u=Value.ref a from rx);obtain ⟨_,_,vs,_,p⟩:=(show B1 X.prog X.w H s.heap a (.dK kvs) from I.hok a _ ea);obtain ⟨o,es,ep,h1,h2,_⟩:=p;exact PySem.W.kia_one PySem.W.kitx_dict I.kIn ⟨o,h1,h2.1⟩ e (fun z=>nomatch z) h
 |@dT a kvs ea=>
  cases (show u=Value.ref a from rx);obtain ⟨_,_,xs,_,o,es,ep,h1,h2,_⟩:=(show B1 X.prog X.w H s.heap a (.dT kvs) from I.hok a _ ea);exact PySem.W.kia_one PySem.W.kitx_dict I.kIn ⟨o,h1,h2.1⟩ e (fun z=>nomatch z) h
 |@ins a C dx fs ea cl ha hn htk hm=>
  cases (show u=Value.ref a from rx);obtain ⟨mA,O,_⟩:=bz2 I.hok ea;obtain ⟨od,J,_⟩:=O.look;exact PySem.W.kia_one (PySem.W.kitx_own (cl.get _) cl.hd ha hn htk hm) I.kIn J e (fun z=>nomatch z) h
end
end L2
namespace L2
open PySem PySem.Spec PyProof.Rows
structure A1 (k:Nat)(A:Around):Prop where
 hd:A.handled=none
 dp:A.depth+3*k+5 < recursionLimit
 un:A.units+16*k+200 < cLine
 gd:A.guards=some []
theorem A1.mono {j k:Nat}{A:Around}(r:A1 k A)(h:j<=k):A1 j A:=⟨r.hd,by have:=r.dp;omega,by have:=r.un;omega,r.gd⟩
theorem A1.deeper {k:Nat}{A:Around}(r:A1 (k+1) A)(env:Env):A1 k (A.deeper env):=
 ⟨r.hd,by have:=r.dp;show A.depth+1+3*k+5 < _;omega,by have:=r.un;show A.units+3+16*k+200 < _;omega,r.gd⟩
theorem A1.depth {k:Nat}{A:Around}(r:A1 k A):A.depth < recursionLimit:=by have:=r.dp;omega
theorem A1.units {k:Nat}{A:Around}(r:A1 k A):A.units+64 < cLine:=by have:=r.un;omega
def ay4:TA:=fun _ H Q=>Q [] H
def ao5 (ta:TE)(tr:TA):TA:=fun σ H Q=>ta σ H fun x H1=>tr σ H1 fun xs H2=>Q (x::xs) H2
section
variable {X:Cx} {e:Expr} {es:List Expr} {te:TE} {t:TA} {pos:Pos}
theorem c7:PA X [] ay4:=fun _ _ _ _ H Q I h=>Calls.spliced_nil ⟨[],H,I,.nil,h⟩
theorem c6 (ha:PE X e te)(hr:PA X es t)(hs:starEach (e::es) X.env=(false,eval e X.env)::starEach es X.env:=by rfl):PA X (e::es) (ao5 te t):=by
 intro pos pins s σ H Q I h;rw[hs];show wpAny _ _ (spliced ((false,eval e X.env)::backTo pos (starEach es X.env))) _ _ s;refine Calls.spliced_cons (y9 (ha pins s σ H _ I h) fun u s1 ⟨x,H1,I1,r1,q1⟩=> ?_)
 exact y9 (hr pos pins s1 σ H1 _ I1 q1) fun us s2 ⟨xs,H2,I2,r2,q2⟩=>⟨x::xs,H2,I2,.cons r1 r2,q2⟩
def cm4 (t:TA):TE:=fun σ H Q=>t σ H fun xs H1=>xs.length<=sizeLine/\∀p,H1 p=none->Q (.ref p) (e8 H1 p (.tup xs))
def cf1 (t:TA):TE:=fun σ H Q=>t σ H fun xs H1=>xs.length<=sizeLine/\∀p,H1 p=none->Q (.ref p) (e8 H1 p (.lst xs))
theorem ao6 {x1}(h:PA X es t):PE X (.Tuple es x1 pos) (cm4 t):=by
 intro pins s σ H Q I hq;refine wpAny_Tuple_spliced (y9 (h pos pins s σ H _ I hq) fun us s1 ⟨xs,H1,I1,r,z,q⟩=>⟨by rw[<-r.length];exact z,?_⟩);have hf:H1 s1.heap.objs.size=none:=I1.hok.fresh (cq0 _);refine ⟨.ref s1.heap.objs.size,e8 H1 s1.heap.objs.size (.tup xs),I1.laid (t':=s1.toks) (fun b u e=>Heap.get?_push_of_some _ e) (cq0 _) ?_,rfl,q _ hf⟩;exact ⟨z,us,r,⟨_,Heap.get?_push_size _ rfl,rfl,_,rfl⟩⟩
theorem m8 (h:PA X es t):PE X (.List es pos) (cf1 t):=by
 intro pins s σ H Q I hq;refine wpAny_List_spliced (y9 (h pos pins s σ H _ I hq) fun us s1 ⟨xs,H1,I1,r,z,q⟩=>⟨by rw[<-r.length];exact z,?_⟩);have hf:H1 s1.heap.objs.size=none:=I1.hok.fresh (cq0 _);refine ⟨.ref s1.heap.objs.size,e8 H1 s1.heap.objs.size (.lst xs),I1.laid (t':=s1.toks) (fun b u e=>Heap.get?_push_of_some _ e) (cq0 _) ?_,rfl,q _ hf⟩;exact ⟨z,us,0,r,Heap.get?_push_size _ rfl⟩
end
abbrev Sp:=List V->Hp->VK->XK->Prop
abbrev X0:=List Env->Hp->Shared->XK->Value->Shared->Prop
structure bi4 (P:Program)(w:World)(K:PySem.W.Frag)(mg:Str->Option Value)(base:Heap)(A:Around)(outer:List Env)(s:Shared)(H:Hp):Prop where
 frames:A.frames=some outer
 mod:Mod K mg base
 bs:∀b o,base.get? b=some o->s.heap.get? b=some o/\H b=none
 bsz:base.objs.size<=s.heap.objs.size
 funs:s.heap.FunFrames base outer
 frf:∀b∈C5 outer,H b=none
 hok:D0 P w H s.heap
 bare:AllBare s.gens
def CE (outer:List Env)(P:Program)(w:World)(H:Hp)(s:Shared)(Q:VK)(u:Value)(s':Shared):Prop:=
 ∃v H',s'.os=s.os/\AllBare s'.gens/\Un (C5 outer) [] H H' s.heap s'.heap/\D0 P w H' s'.heap/\y8 v u/\Q v H'
def CR (CX:X0)(outer:List Env)(P:Program)(w:World)(H:Hp)(s:Shared)(Q:VK)(E:XK)(r:Result)(s':Shared):Prop:=
 match r with
 | .ok (.ret u)=>CE outer P w H s Q u s'
 | .ok _=>False
 | .error e=>CX outer H s E e s'
structure q9 (P:Program)(w:World)(K:PySem.W.Frag)(mg:Str->Option Value)(base:Heap)(CX:X0)(k:Nat)(f:Addr)(fd:FuncData)(ps:List Str)(sp:Sp):Prop where
 len:∀vs H Q E,sp vs H Q E->vs.length=ps.length
 run:∀(A:Around) (outer:List Env) (s:Shared) (H:Hp) (args:Args) (us:List Value) (vs:List V) (Q:VK) (E:XK),A1 k A->bi4 P w K mg base A outer s H->BindsTo s fd args (ps.zip us)->o5 vs us->sp vs H Q E->
   codeAny (model P w) A (.call (.ref f) args) (CR CX outer P w H s Q E) s
theorem q9.imp {P:Program}{w:World}{K:PySem.W.Frag}{mg:Str->Option Value}{base:Heap}{CX:X0}{k:Nat}{f:Addr}{fd:FuncData}{ps:List Str}{sp sp':Sp}(F:q9 P w K mg base CX k f fd ps sp)
   (h:∀vs H Q E,sp' vs H Q E->sp vs H Q E):q9 P w K mg base CX k f fd ps sp':=
 ⟨fun vs H Q E q=>F.len vs H Q E (h _ _ _ _ q),fun A outer s H args us vs Q E hr he hb hv hs=>F.run A outer s H args us vs Q E hr he hb hv (h _ _ _ _ hs)⟩
section
variable {X:Cx} {pins:List (Addr×Obj)} {σ:St} {H:Hp} {s s':Shared}
theorem j9.env0 (I:j9 X pins σ H s):bi4 X.prog X.w X.K X.mg X.base X.A X.stack s H:=
 ⟨I.ok.frames,I.ok.mod,I.bs,cq3 I.ok.bsz I.sz,I.stack,I.stkFree,I.hok,I.bare⟩
theorem j9.after {Q:VK}{u:Value}(I:j9 X pins σ H s)(h:CE X.stack X.prog X.w H s Q u s'):EP X pins σ Q u s':=by
 obtain ⟨v,H',os,bare,un,hok,r,q⟩:=h;obtain ⟨hh,g,d,t,os'⟩:=s';obtain rfl:os'=s.os:=os;exact ⟨v,H',I.call (h':=hh) (g':=g) (d':=d) (t':=t) (ch:=[]) un hok bare (fun b z=>absurd z (by simp)),r,q⟩
end
def aj8 (sp:Sp)(dvs:List V)(E:XK)(t:TA):TE:=fun σ H Q=>t σ H fun vs H1=>sp (vs++dvs) H1 Q E
def X4 (K:PySem.W.Frag)(fd:FuncData)(ps:List Str)(ds:List Value):Prop:=
 ∀(s:Shared) (us:List Value),K.In s.heap->(us++ds).length=ps.length->BindsTo s fd ⟨us,[]⟩ (ps.zip (us++ds))
theorem X4.all {K:PySem.W.Frag}{fd:FuncData}{ps:List Str}(h:∀us:List Value,us.length=ps.length->bindArgs fd ⟨us,[]⟩=pure (ps.zip us)):X4 K fd ps []:=fun s us _ hl=>by
 rw[cw1] at hl ⊢;exact .of_eq (h us hl)
def ag4 (CX:X0)(X:Cx)(E:XK):Prop:=∀(pins:List (Addr×Obj)) (σ:St) (H:Hp) (s:Shared) (e:Value) (s':Shared),j9 X pins σ H s->CX X.stack H s E e s'->X.xe e s'
section
variable {X:Cx} {CX:X0} {k:Nat} {f C:Addr} {fd:FuncData} {ps:List Str} {sp:Sp} {dvs:List V} {ds:List Value} {E:XK} {x m:Str} {p pos apos:Pos} {e o:Expr} {es:List Expr} {ta:TE} {t:TA}
theorem cf2 {pins:List (Addr×Obj)}{σ:St}{H:Hp}{s:Shared}{Q:VK}{us:List Value}{vs:List V}(F:q9 X.prog X.w X.K X.mg X.base CX k f fd ps sp)(hr:A1 k X.A)(hb:X4 X.K fd ps ds)(hd:o5 dvs ds)(hx:ag4 CX X E)
   (I:j9 X pins σ H s) (r:o5 vs us) (h:sp (vs++dvs) H Q E):wpAny (model X.prog X.w) X.A (call (.ref f) us) (EP X pins σ Q) X.xe s:=by
 have r2:o5 (vs++dvs) (us++ds):=r.append hd
 have hl:(us++ds).length=ps.length:=by rw[<-r2.length];exact F.len _ _ _ _ h
 refine wpAny_call (codeAny_mono (F.run X.A X.stack s H ⟨us,[]⟩ (us++ds) (vs++dvs) Q E hr I.env0 (hb s us I.kIn hl) r2 h) fun r s' hq=> ?_)
 cases r with
 |error e=>exact hx pins σ H s e s' I hq
 |ok fl=>
  cases fl with
  |ret u=>exact I.after hq
  |next=>exact False.elim hq
  |brk=>exact False.elim hq
  |cont=>exact False.elim hq
theorem bg0 (F:q9 X.prog X.w X.K X.mg X.base CX k f fd ps sp)(hr:A1 k X.A)(hg:Gl X x)(hm:X.mg x=some (.ref f))(hk:PySem.W.keepIn X.K (.ref f)=true)(hb:X4 X.K fd ps ds)(hd:o5 dvs ds)(hx:ag4 CX X E)
   (ha:PA X (e::es) t) (hdb:(x==("__debug__":Str))=false:=by decide) (he:starEach (e::es) X.env=(false,eval e X.env)::starEach es X.env:=by rfl) (hpl:(backTo pos (starEach es X.env)).any (·.1)=false:=by rfl):
   PE X (.Call (.Name x p) (e::es) [] pos) (aj8 sp dvs E t):=by
 intro pins s σ H Q I h;refine wpAny_Call_Name_kw (X9 I hg hm ?_ hdb);refine PySem.W.callWith_K (h₀:=X.base) I.ok.mod.kin hk (y9 (ha pos pins s σ H _ I h) fun us s1 ⟨vs,H1,I1,r,q⟩=>⟨I1.kIn,?_⟩) he hpl;exact cf2 F hr hb hd hx I1 r q
end
def PK (X:Cx)(kws:List Keyword)(t:TA):Prop:=
 ∀(pos:Pos) (pins:List (Addr×Obj)) (s:Shared) (σ:St) (H:Hp) (Q:List V->Hp->Prop),j9 X pins σ H s->t σ H Q->wpAny (model X.prog X.w) X.A (evalAll ((backToKw pos (keywordEach kws X.env)).map (·.2))) (AP X pins σ Q) X.xe s
section
variable {X:Cx} {CX:X0} {k:Nat} {f C:Addr} {fd:FuncData} {ps ks:List Str} {sp:Sp} {E:XK} {x m:Str} {p pos apos kpos:Pos} {e o:Expr} {es:List Expr} {kws:List Keyword} {te ta:TE} {t tk:TA} {nm:Option Str}
theorem cf3:PK X [] ay4:=fun _ _ _ _ H Q I h=>wpAny_evalAll_nil ⟨[],H,I,.nil,h⟩
theorem bz3 (ha:PE X e te)(hr:PK X kws t):PK X (⟨nm,e,kpos⟩::kws) (ao5 te t):=by
 intro pos pins s σ H Q I h;show wpAny _ _ (evalAll ((do let v <-eval e X.env;standAt pos;pure v)::(backToKw pos (keywordEach kws X.env)).map (·.2))) _ _ s;refine wpAny_evalAll_cons (wpAny_bind (y9 (ha pins s σ H _ I h) fun u s1 ⟨x,H1,I1,r1,q1⟩=>wpAny_bind (wpAny_standAt (wpAny_pure ?_))))
 exact y9 (hr pos pins s1 σ H1 _ I1 q1) fun us s2 ⟨xs,H2,I2,r2,q2⟩=>⟨x::xs,H2,I2,.cons r1 r2,q2⟩
variable {g:List Value->List Value->List Value} {gV:List V->List V->List V}
end
structure r6 (N P:List Str)(sc:Scope):Prop where
 kind:sc.kind= .function
 co:sc.isCoroutine=false
 gen:sc.isGenerator=false
 nd:N.Nodup
 pre:N.take P.length=P
 par:∀x∈P,sc.names.lookup x=some .local\/sc.names.lookup x=some .cell
 nofree:∀y∈sc.names,y.2≠.free
theorem at8 {kindOf:Str->Option NameKind}{x:Str}:∀{binds:List (Str×Value)} {m:Str->Option Value},(∀v,(x,v)∉binds)->bindL kindOf binds m x=m x
 |[],_,_=>rfl
 |(n,v)::r,m,h=>by
  unfold bindL;rw[at8 fun w hw=>h w (cp6 _ hw)]
  split
  · have:x≠n:=by rintro rfl;exact h v cp7
    simp [this]
  · rfl
theorem at9 {kindOf:Str->Option NameKind}{x:Str}:∀{binds:List (Str×Value)} {m:Str->Option Value},(∀v,(x,v)∉binds)->bindC kindOf binds m x=m x
 |[],_,_=>rfl
 |(n,v)::r,m,h=>by
  unfold bindC;rw[at9 fun w hw=>h w (cp6 _ hw)]
  split
  · rfl
  · have:x≠n:=by rintro rfl;exact h v cp7
    simp [this]
theorem au0 {kindOf:Str->Option NameKind}{x:Str}{v:Value}:∀{P:List Str} {vs:List Value} {i:Nat} {m:Str->Option Value},P.Nodup->P[i]? =some x->vs[i]? =some v->kindOf x=some .local->
   bindL kindOf (P.zip vs) m x=some v
 |[],_,_,_,_,h,_,_=>by simp at h
 |_::_,[],_,_,_,_,h,_=>by simp at h
 |p::P,w::vs,0,m,nd,h1,h2,hk=>by
  simp at h1 h2;subst h1;subst h2;show bindL kindOf ((p,w)::P.zip vs) m p=_;unfold bindL;rw[at8 fun v hv=>(cs5.mp nd).1 (da9 hv).1,if_pos hk];simp
 |p::P,w::vs,i+1,m,nd,h1,h2,hk=>by
  show bindL kindOf ((p,w)::P.zip vs) m x=_;unfold bindL;exact au0 (i:=i) (cs5.mp nd).2 (by simpa using h1) (by simpa using h2) hk
theorem au1 {kindOf:Str->Option NameKind}{x:Str}{v:Value}:∀{P:List Str} {vs:List Value} {i:Nat} {m:Str->Option Value},P.Nodup->P[i]? =some x->vs[i]? =some v->kindOf x≠some .local->
   bindC kindOf (P.zip vs) m x=some v
 |[],_,_,_,_,h,_,_=>by simp at h
 |_::_,[],_,_,_,_,h,_=>by simp at h
 |p::P,w::vs,0,m,nd,h1,h2,hk=>by
  simp at h1 h2;subst h1;subst h2;show bindC kindOf ((p,w)::P.zip vs) m p=_;unfold bindC;rw[at9 fun v hv=>(cs5.mp nd).1 (da9 hv).1,if_neg hk];simp
 |p::P,w::vs,i+1,m,nd,h1,h2,hk=>by
  show bindC kindOf ((p,w)::P.zip vs) m x=_;unfold bindC;exact au1 (i:=i) (cs5.mp nd).2 (by simpa using h1) (by simpa using h2) hk
def X5 (N:List Str)(vs:List V):St:=vs.map some++cr6 (N.length - vs.length) none
def ab2 (CX:X0)(P:Program)(w:World)(K:PySem.W.Frag)(mg:Str->Option Value)(base:Heap)(N:List Str)(qual:Str)(scope:Scope)(f:Addr)(cd:Value)(A:Around)(outer:List Env)(s:Shared)(H:Hp)(E:XK):Cx where
 prog:=P
 w:=w
 K:=K
 mg:=mg
 base:=base
 A:=A.deeper (envOfC qual scope s.heap.objs.size f cd)
 N:=N
 s₀:=s
 H₀:=H
 env:=envOfC qual scope s.heap.objs.size f cd
 outer:=outer
 stack:=envOfC qual scope s.heap.objs.size f cd::outer
 ex:=[]
 calm:=true
 fn:=fun _=>true
 pn:=[]
 xe:=fun e s'=>wpAny (model P w) (A.deeper (envOfC qual scope s.heap.objs.size f cd)) (leaving (envOfC qual scope s.heap.objs.size f cd) e) (fun _ s''=>CX outer H s E e s'') (fun e' s''=>CX outer H s E e' s'') s'
theorem ay5 {sc:Scope}{n:Nat}{x:Str}(h:sc.names.lookup x=some .cell):∃c,(cellsFrom n sc.names []).lookup x=some c:=by
 have q:=PySem.W.cellsFrom_some sc.names n [] (.inl h);exact da2.mp q
theorem bn6 {CX:X0}{P:Program}{w:World}{K:PySem.W.Frag}{mg:Str->Option Value}{base:Heap}{N ps:List Str}{qual:Str}{scope:Scope}{f:Addr}{cd:Value}{A:Around}{outer:List Env}{s s1:Shared}{H:Hp}{E:XK}{us:List Value}{vs:List V}
   (S:r6 N ps scope) (hd:A.handled=none) (e0:bi4 P w K mg base A outer s H) (hl:vs.length=ps.length) (r:o5 vs us)
   (x:InCallC s s.heap.objs.size (bindL (envOfC qual scope s.heap.objs.size f cd).kindOf (ps.zip us) fun _=>none) (cellsFrom (s.heap.objs.size+1) scope.names []) (bindC (envOfC qual scope s.heap.objs.size f cd).kindOf (ps.zip us) fun _=>none) s1):
   j9 (ab2 CX P w K mg base N qual scope f cd A outer s H E) [] (X5 N vs) H s1:=by
 have hpl:ps.length<=N.length:=by have:=congrArg cw3 S.pre;rw[cq2] at this;omega
 obtain ⟨h1,tk,rfl,hk⟩:=x.done
 have noA:∀b:Addr,b∉(ab2 CX P w K mg base N qual scope f cd A outer s H E).ex:=fun b z=>absurd (show b∈([]:List Addr) from z) (by simp)
 refine ⟨⟨e0.mod,S.kind,rfl,rfl,cq0 _,fun y z c h1 h2=> ?_,fun y hy=> ?_,fun y c _ h=> ?_,fun _=>hd,Around.frames_deeper e0.frames,.inr ⟨rfl,rfl⟩,fun b z=>absurd z (noA b),e0.bs,e0.bsz,fun b _ _=>noA b,fun b z=>absurd z (noA b),e0.funs,e0.frf⟩,
   rfl,e0.bare,Un.kept hk,⟨_,x.toInCall.ns,fun i y v h1 h2 h3=> ?_⟩,fun y c h=>⟨_,x.cell y c h⟩,e0.hok.fresh (cq0 _),fun y c h=> ?_,fun p hp=>absurd (show p∈([]:List (Addr×Obj)) from hp) (by simp),e0.hok.kept hk,?_⟩
 · exact name_of_addr x.apart (PySem.mem_of_lookup h1) (PySem.mem_of_lookup h2)
 · have hy:scope.names.lookup y=some .cell\/scope.names.lookup y=some .free:=hy
   rcases hy with hy|hy
   · exact ay5 hy
   · exact absurd rfl (S.nofree _ (PySem.mem_of_lookup hy))
 · exact cr5 (x.above y c (PySem.mem_of_lookup h))
 · have hi:i < vs.length:=by
     unfold X5 at h2
     by_cases hi:i < vs.length
     · exact hi
     · rw[cs4 (by simpa using hi)] at h2;rw[da7] at h2
       split at h2<;>cases h2
   have ha:vs[i]? =some v:=by
     unfold X5 at h2;rw[cs8 (by simpa using hi),cq4] at h2
     cases e:vs[i]? with
     |none=>rw[e] at h2;cases h2
     |some a=>rw[e] at h2;cases h2;rfl
   obtain ⟨u,hu,rv⟩:=r.get ha
   have hp:ps[i]? =some y:=by
     rw[<-S.pre,ct0 (by omega)];exact h1
   have ndP:ps.Nodup:=by rw[<-S.pre];exact S.nd.sublist (List.take_sublist _ _)
   refine ⟨u,rv,?_⟩
   rcases S.par y (cp3 hp) with k|k
   · exact .inl ⟨k,au0 ndP hp hu k⟩
   · obtain ⟨c,e⟩:=ay5 (n:=s.heap.objs.size+1) k;refine .inr ⟨.inl k,c,e,?_⟩;have q:=x.cell y c e;rw[au1 ndP hp hu (by show scope.names.lookup y≠_;rw[k];decide)] at q;exact q
 · exact e0.hok.fresh (cr5 (x.above y c (PySem.mem_of_lookup h)))
 · unfold X5;show _=N.length;rw[co9,co8,cv9];omega
theorem by1 {CX:X0}{P:Program}{w:World}{K:PySem.W.Frag}{mg:Str->Option Value}{base:Heap}{k:Nat}{f:Addr}{name qual:Str}{params:Arguments}{body:List Stmt}{scope:Scope}{dV kV doc pm cdv ct oc:Value}{an od:Option Addr}
   {osl:Array (Option Value)} {N ps:List Str} {sp:Sp} (lk:K.lookup f=some ⟨oc,od,.func (PySem.W.fnOf name qual params body scope dV kV doc pm an cdv ct),osl⟩) (hcd:PySem.W.codeIn K cdv qual=true) (S:r6 N ps scope)
   (len:∀vs H Q E,sp vs H Q E->vs.length=ps.length)
   (hbody:∀(A:Around) (outer:List Env) (s:Shared) (H:Hp) (vs:List V) (Q:VK) (E:XK),A1 k (A.deeper (envOfC qual scope s.heap.objs.size f cdv))->sp vs H Q E->
     ∃t,W9 (ab2 CX P w K mg base N qual scope f cdv A outer s H E) body t/\t {nx:=fun _ H'=>Q .non H',rt:=Q} (X5 N vs) H):
   q9 P w K mg base CX (k+1) f (PySem.W.fnOf name qual params body scope dV kV doc pm an cdv ct) ps sp:=by
 refine ⟨len,fun A outer s H args us vs Q E hr e0 hb r hsp=> ?_⟩;have hl:=len _ _ _ _ hsp
 have KX:K.In s.heap:=e0.mod.kin.keeps fun b o e=>(e0.bs b o e).1
 have lim:s.heap.NoLimit:=e0.mod.nolimit.keeps fun b o e=>(e0.bs b o e).1
 have hkind:∀y∈ps.zip us,scope.names.lookup y.1=some .local\/(scope.names.lookup y.1=some .cell/\((cellsFrom (s.heap.objs.size+1) scope.names []).lookup y.1).isSome=true):=fun ⟨n,v⟩ hy=>by
   rcases S.par n (da9 hy).1 with q|q
   · exact .inl q
   · exact .inr ⟨q,PySem.W.cellsFrom_some _ _ _ (.inl q)⟩
 refine codeAny_call_function hr.depth (KX _ _ lk) rfl S.co S.gen rfl (PySem.W.codeRec_of KX hcd) (hb _ _ _ _ ?_)
 refine wpAny_newFunctionEnv_cells S.kind hkind fun env he s1 x=> ?_
 subst he;refine ⟨lim.keeps x.toInCall.keep,codeAny_func ?_⟩;obtain ⟨t,ht,hq⟩:=hbody A outer s H vs Q E (hr.deeper _) hsp;have I:j9 (ab2 CX P w K mg base N qual scope f cdv A outer s H E) [] (X5 N vs) H s1:=bn6 S hr.hd e0 hl r x
 refine wpAny_mono (ht [] s1 (X5 N vs) H _ I hq) (fun fl s' hs=> ?_) fun e s' hs=>hs
 have fin:∀{σ':St} {H':Hp} {v:V} {u:Value},j9 (ab2 CX P w K mg base N qual scope f cdv A outer s H E) [] σ' H' s'->y8 v u->Q v H'->CE outer P w H s Q u s':=
   fun {σ' H' v u} J rv q=>⟨v,H',J.os,J.bare,J.base,J.hok,rv,q⟩
 cases fl with
 |ret u=>
  obtain ⟨v,σ',H',J,rv,q⟩:=hs;exact fin J rv q
 |next=>
  obtain ⟨σ',H',J,q⟩:=hs;exact fin (v:=V.non) (u:=Value.none) J rfl q
 |brk=>
  obtain ⟨_,_,_,q⟩:=hs;exact False.elim q
 |cont=>
  obtain ⟨_,_,_,q⟩:=hs;exact False.elim q
end L2
namespace L2
open PySem PySem.Spec PyProof.Rows
section
variable {X:Cx} {x:Str} {p pos:Pos} {e:Expr} {es:List Expr} {t:TA} {id T:String} {r:List V->Hp->VK->Prop}
def S3 (r:List V->Hp->VK->Prop)(t:TA):TE:=fun σ H Q=>t σ H fun vs H1=>r vs H1 Q
theorem M3 (hc:G8 X (.builtin id) r)(hg:Gl X x)(hm:X.mg x=none)(hv:bootBuiltins x=some (.builtin id))(ha:PA X (e::es) t)(hn:x≠"__name__":=by decide)(hdb:(x==("__debug__":Str))=false:=by decide)
   (he:starEach (e::es) X.env=(false,eval e X.env)::starEach es X.env:=by rfl) (hpl:(backTo pos (starEach es X.env)).any (·.1)=false:=by rfl):PE X (.Call (.Name x p) (e::es) [] pos) (S3 r t):=by
 intro pins s σ H Q I h;refine wpAny_Call_Name_kw (S0 I hg hm hv ?_ hn hdb);exact PyProof.Rows.callWith_builtin1 (y9 (ha pos pins s σ H _ I h) fun us s1 ⟨vs,H1,I1,r1,q1⟩=>hc pins s1 σ H1 vs us Q I1 r1 q1) he hpl
theorem N0 (hc:G8 X (.type T) r)(hg:Gl X x)(hm:X.mg x=none)(hv:bootBuiltins x=some (.type T))(ha:PA X (e::es) t)(hn:x≠"__name__":=by decide)(hdb:(x==("__debug__":Str))=false:=by decide)
   (he:starEach (e::es) X.env=(false,eval e X.env)::starEach es X.env:=by rfl) (hpl:(backTo pos (starEach es X.env)).any (·.1)=false:=by rfl):PE X (.Call (.Name x p) (e::es) [] pos) (S3 r t):=by
 intro pins s σ H Q I h;refine wpAny_Call_Name_kw (S0 I hg hm hv ?_ hn hdb);exact PyProof.Rows.callWith_type1 (y9 (ha pos pins s σ H _ I h) fun us s1 ⟨vs,H1,I1,r1,q1⟩=>hc pins s1 σ H1 vs us Q I1 r1 q1) he hpl
end
end L2
namespace HT
open PySem PyProof.Rows
section
variable {prog:Program} {w:World} {A:Around} {E:Value->Shared->Prop} {s:Shared}
def sIx (n d:Nat):Option Int->Nat
 |none=>d
 |some v=>if v < 0 then (v+(n:Int)).toNat else min v.toNat n
theorem cm5 (n d:Nat):sIx n d none=d:=rfl
theorem cn4 (n d k:Nat):sIx n d (some (k:Int))=min k n:=by
 show (if (k:Int) < 0 then ((k:Int)+(n:Int)).toNat else min (k:Int).toNat n)=min k n;rw[if_neg (by omega),cu5]
end
end HT
namespace L2
open PySem PySem.Spec PyProof.Rows
abbrev TO:=St->Hp->(Option Int->Hp->Prop)->Prop
def PO (X:Cx)(e:Option Expr)(t:TO):Prop:=
 ∀(pins:List (Addr×Obj)) (s:Shared) (σ:St) (H:Hp) (Q:Option Int->Hp->Prop),j9 X pins σ H s->t σ H Q->
  wpAny (model X.prog X.w) X.A (evalPart e X.env) (fun u s'=>∃o H',j9 X pins σ H' s'/\IsPart u o/\Q o H') X.xe s
def bz4:TO:=fun _ H Q=>Q none H
def cj1 (t:TE):TO:=fun σ H Q=>t σ H fun x H1=>∃i,x= .int i/\Q (some i) H1
theorem ad1 {ns:List Int}:∀{us:List Value},o5 (ns.map V.int) us->IntsAre us ns:=by
 induction ns with
 |nil=>intro us r;rw[cw0] at r;cases r;exact .nil
 |cons n ns ih=>
  intro us r;rw[cr0] at r
  cases r with
  |cons r1 r2=>
   obtain ⟨t,e⟩:=r1;subst e;exact .cons n t (ih r2)
section
variable {X:Cx} {e:Expr} {te:TE} {lo hi:Option Expr} {tl th:TO} {pos p2:Pos}
theorem E4:PO X none bz4:=by
 intro pins s σ H Q I h;rw[evalPart_none];exact wpAny_pure ⟨none,H,I,.none,h⟩
theorem E5 (h:PE X e te):PO X (some e) (cj1 te):=by
 intro pins s σ H Q I hw;rw[evalPart_some]
 refine y9 (h pins s σ H _ I hw) fun u s1 ⟨x,H1,I1,r1,q1⟩=> ?_
 obtain ⟨i,rfl,q⟩:=q1;obtain ⟨t,rfl⟩:=r1;exact ⟨some i,H1,I1,.int i t,q⟩
def SlR (X:Cx)(r:V->Option Int->Option Int->Hp->VK->Prop):Prop:=
 ∀(pins:List (Addr×Obj)) (s:Shared) (σ:St) (H:Hp) (x:V) (v vl vu:Value) (lo hi:Option Int) (sl:Addr) (Q:VK),j9 X pins σ H s->y8 x v->s.heap.IsSliceOf sl vl vu .none->IsPart vl lo->IsPart vu hi->r x lo hi H Q->
  ∃T id,typeLookup (.type T) "__getitem__"=pure (some (.builtin id))/\s.TypeIs v T/\wpAny (model X.prog X.w) X.A (getItem v (.ref sl)) (EP X pins σ Q) X.xe s
def tSl (r:V->Option Int->Option Int->Hp->VK->Prop)(te:TE)(tl th:TO):TE:=fun σ H Q=>te σ H fun x H1=>tl σ H1 fun l H2=>th σ H2 fun u H3=>r x l u H3 Q
theorem D1 {r:V->Option Int->Option Int->Hp->VK->Prop}(hr:SlR X r)(he:PE X e te)(hl:PO X lo tl)(hu:PO X hi th):PE X (.Subscript e (.Slice lo hi none p2) pos) (tSl r te tl th):=by
 intro pins s σ H Q I h;refine Subscript_ (y9 (he pins s σ H _ I h) fun v s1 ⟨x,H1,I1,r1,q1⟩=> ?_);refine wpAny_Slice (y9 (hl pins s1 σ H1 _ I1 q1) fun vl s2 ⟨l,H2,I2,pl,q2⟩=>y9 (hu pins s2 σ H2 _ I2 q2) fun vu s3 ⟨u,H3,I3,pu,q3⟩=> ?_);rw[evalPart_none];refine wpAny_pure ?_
 have I4:j9 X pins σ H3 {s3 with heap:=s3.heap.push {cls:= .type "slice",data:= .fields #[vl,vu,.none]}}:=I3.kept (t':=s3.toks) fun b ob q=>Heap.get?_push_of_some _ q
 obtain ⟨T,id,hT,ht,hg⟩:=hr pins {s3 with heap:=s3.heap.push {cls:= .type "slice",data:= .fields #[vl,vu,.none]}} σ H3 x v vl vu l u s3.heap.objs.size Q I4 r1 (Heap.IsSliceOf.new ..) pl pu q3;show wpAny (model X.prog X.w) X.A (subscriptTail e (.Slice lo hi none p2) v (.ref s3.heap.objs.size)) (EP X pins σ Q) X.xe {s3 with heap:=s3.heap.push {cls:= .type "slice",data:= .fields #[vl,vu,.none]}};exact tail_any (ops:=[.ref s3.heap.objs.size,v]) ht hT hg (by with_unfolding_all rfl)
def C6 (xs:List V)(lo hi:Option Int):List V:=(xs.drop (HT.sIx xs.length 0 lo)).take (HT.sIx xs.length xs.length hi - HT.sIx xs.length 0 lo)
theorem be2 (xs:List V)(lo hi:Option Int):(C6 xs lo hi).length<=xs.length:=by
 unfold C6;rw[cq2,cq9];omega
end
end L2
namespace L2
open PySem PySem.Spec PyProof.Rows
def R1 (n:Nat)(i:Int):Option Nat:=if 0<=i then (if i < n then some i.toNat else none) else if -(n:Int)<=i then some (i+n).toNat else none
def X1 {α:Type}(xs:List α)(i:Int):Option α:=(R1 xs.length i).bind fun j=>xs[j]?
theorem ab7 {n:Nat}{i:Int}{j:Nat}(h:R1 n i=some j):seqIndex? i n=some j/\j < n/\ -(n:Int)<=i/\i < n:=by
 unfold R1 at h
 by_cases h0:0<=i
 · rw[if_pos h0] at h
   by_cases h1:i < n
   · rw[if_pos h1] at h;have e:i.toNat=j:=Option.some.inj h;exact ⟨by rw[seqIndex_of h0 h1,e],by omega,by omega,h1⟩
   · rw[if_neg h1] at h;cases h
 · rw[if_neg h0] at h
   by_cases h1: -(n:Int)<=i
   · rw[if_pos h1] at h;have e:(i+n).toNat=j:=Option.some.inj h;exact ⟨by rw[seqIndex_neg (by omega) h1,e],by omega,h1,by omega⟩
   · rw[if_neg h1] at h;cases h
theorem bz5 {α:Type}{xs:List α}{i:Int}{v:α}(h:X1 xs i=some v):∃j,seqIndex? i xs.length=some j/\xs[j]? =some v/\j < xs.length/\ -(xs.length:Int)<=i/\i < xs.length:=by
 unfold X1 at h
 cases e:R1 xs.length i with
 |none=>rw[e] at h;cases h
 |some j=>
  rw[e] at h;obtain ⟨h1,h2,h3,h4⟩:=ab7 e;exact ⟨j,h1,h,h2,h3,h4⟩
theorem w6 {α:Type}{xs:List α}{j:Nat}{v:α}(h:xs[j]? =some v):X1 xs (j:Int)=some v:=by
 have hj:j < xs.length:=(cp0.mp h).1
 have e:R1 xs.length (j:Int)=some j:=by
   unfold R1;rw[if_pos (by omega),if_pos (by omega)];simp
 unfold X1;rw[e];exact h
theorem cm6 {α:Type}(xs:List α)(v:α):X1 (xs++[v]) (-1)=some v:=by
 have hl:(xs++[v]).length=xs.length+1:=by simp
 have e:R1 (xs++[v]).length (-1)=some xs.length:=by
   unfold R1;rw[hl,if_neg (by decide),if_pos (by omega)]
   congr 1
   omega
 unfold X1;rw[e];show (xs++[v])[xs.length]? =some v;simp
def bz6 (b:Expr):Prop:=∀o i,subscripted b false o i=operate [o,i] (getItem o i)
def IxR (X:Cx)(r:R2):Prop:=
 ∀(value slice:Expr) (pins:List (Addr×Obj)) (s:Shared) (σ:St) (H:Hp) (x y:V) (v u:Value) (Q:VK),j9 X pins σ H s->y8 x v->y8 y u->r x y H Q->
  subscripted slice false v u=operate [v,u] (getItem v u)->wpAny (model X.prog X.w) X.A (subscriptTail value slice v u) (EP X pins σ Q) X.xe s
def MtR (X:Cx)(id:String)(r:V->List V->Hp->VK->Prop):Prop:=
 ∀(pins:List (Addr×Obj)) (s:Shared) (σ:St) (H:Hp) (x:V) (xs:List V) (v:Value) (us:List Value) (Q:VK),j9 X pins σ H s->y8 x v->o5 xs us->r x xs H Q->
  wpAny (model X.prog X.w) X.A (call (.builtin id) (v::us)) (EP X pins σ Q) X.xe s
section
variable {X:Cx} {a b:Expr} {ta tb:TE} {pos:Pos}
theorem y7 {r:R2}(hr:IxR X r)(ha:PE X a ta)(hb:PE X b tb)(hs:bz6 b):PE X (.Subscript a b pos) (tOp r ta tb):=by
 intro pins s σ H Q I h;exact Subscript_ (bt5 ha hb I h fun v u s2 x y H2 I2 rx ry q=>hr a b pins s2 σ H2 x y v u Q I2 rx ry q (hs _ _))
def cm7 (K:PySem.W.Frag):R2:=fun x y H Q=>∃p xs i v,x= .ref p/\y= .int i/\i8 K H p xs/\X1 xs i=some v/\Q v H
theorem o0:IxR X (cm7 X.K):=by
 intro value slice pins s σ H x y v u Q I rx ry h hs;obtain ⟨p,xs,i,z,rfl,rfl,hq,he,q⟩:=h;cases rx;obtain ⟨t,rfl⟩:=ry;obtain ⟨its,r,pl,hz⟩:=I.list hq;obtain ⟨j,h1,h2,h3,h4,h5⟩:=bz5 he;obtain ⟨w,ew,rw'⟩:=r.get h2;have hl:=r.length;have hn:=ay2;have fin:EP X pins σ Q w s:=⟨z,H,I,rw',q⟩
 by_cases h0:0<=i
 · have hj:i.toNat=j:=by
     rw[seqIndex_of h0 h5] at h1;exact Option.some.inj h1
   exact item_listR pl.isList h0 (by omega) (by rw[hj];simpa using ew) fin hs
 · have hj:(i+(its.toArray.size:Int)).toNat=j:=by
     rw[seqIndex_neg (by omega) h4] at h1;rw[cp2,<-hl];exact Option.some.inj h1
   exact subscriptTail_builtinR (x:=w) pl.isList.typeIs slot_list_getitem.lookup
     (wpAny_getItem_list_neg (Q:=fun r s'=>r=w/\EP X pins σ Q r s') pl.isList (by omega) (by rw[cp2]<;>omega) (by omega) (by rw[hj];simpa using ew) ⟨rfl,fin⟩) hs
theorem bi5 (its:List Value)(n j:Nat)(u:Value):Obj.mapSeq (·.setIfInBounds j u) {cls:= .type "list",data:= .seq its.toArray n}={cls:= .type "list",data:= .seq (its.set j u).toArray n}:=by
 simp [Obj.mapSeq]
theorem j9.lst {pins:List (Addr×Obj)}{σ:St}{H:Hp}{s:Shared}{p:Addr}{xs:List V}(I:j9 X pins σ H s)(h:H p=some (.lst xs)):
   ∃(its:List Value) (n:Nat),o5 xs its/\s.heap.get? p=some {cls:= .type "list",data:= .seq its.toArray n}/\xs.length<=sizeLine:=by
 obtain ⟨z,its,n,r,e⟩:=I.hok p _ h;exact ⟨its,n,r,e,z⟩
theorem j9.lstUpd {pins:List (Addr×Obj)}{σ:St}{H:Hp}{s:Shared}{p:Addr}{xs ys:List V}{its its':List Value}{n n':Nat}{f:Obj->Obj}(I:j9 X pins σ H s)(h:H p=some (.lst xs))
   (ho:s.heap.get? p=some {cls:= .type "list",data:= .seq its.toArray n}) (hf:f {cls:= .type "list",data:= .seq its.toArray n}={cls:= .type "list",data:= .seq its'.toArray n'}) (r:o5 ys its') (hz:ys.length<=sizeLine) (t:Nat):
   j9 X pins σ (e8 H p (.lst ys)) {s with heap:=s.heap.update p f,toks:=t}:=by
 have e:(s.heap.update p f).get? p=some {cls:= .type "list",data:= .seq its'.toArray n'}:=by
   rw[Heap.get?_update_self f ho (by rw[hf]<;>rfl),hf]
 refine I.write (x:=p) (e:=p) (by rw[h];trivial) (.inl rfl) (fun b u hb q=>(Heap.get?_update_other _ _ (Ne.symm hb)).trans q) ⟨_,e⟩ ?_;exact ⟨hz,its',n',r,e⟩
def cj2:V->V->V->Hp->(Hp->Prop)->Prop:=fun o i v H Q=>∃p xs k j,o= .ref p/\i= .int k/\H p=some (.lst xs)/\R1 xs.length k=some j/\Q (e8 H p (.lst (xs.set j v)))
theorem K3:ce4 X cj2:=by
 intro pins s σ H o i v ov iv u Q I ro ri rv h;obtain ⟨p,xs,k,j,rfl,rfl,hp,hj,q⟩:=h;cases ro;obtain ⟨t,rfl⟩:=ri;obtain ⟨its,n,r,ho,hz⟩:=I.lst hp;obtain ⟨h1,h2,h3,h4⟩:=ab7 hj;have hl:=r.length;have hn:=ay2
 have I':j9 X pins σ (e8 H p (.lst (xs.set j v))) {s with heap:=s.heap.update p (Obj.mapSeq (·.setIfInBounds j u))}:=
   I.lstUpd hp ho (bi5 its n j u) (r.set rv j) (by rw[ct5];exact hz) s.toks
 by_cases h0:0<=k
 · have hk:k.toNat=j:=by
     rw[seqIndex_of h0 h4] at h1;exact Option.some.inj h1
   exact PySem.W.ki_setAt ho h0 (by omega) (by rw[cp2,<-hl];exact h4) (by rw[hk];exact ⟨_,I',q⟩)
 · have hk:(k+(its.toArray.size:Int)).toNat=j:=by
     rw[seqIndex_neg (by omega) h3] at h1;rw[cp2,<-hl];exact Option.some.inj h1
   exact PySem.W.ki_setBack ho (by omega) (by rw[cp2,<-hl];exact h3) (by omega) (by rw[hk];exact ⟨_,I',q⟩)
theorem ay6 (lo hi:Option Int)(n:Nat):(sliceBounds lo hi none n).1=((HT.sIx n 0 lo:Nat):Int)/\(sliceBounds lo hi none n).2.1=((HT.sIx n n hi:Nat):Int)/\(sliceBounds lo hi none n).2.2=1:=by
 refine ⟨?_,?_,rfl⟩
 · cases lo with
   |none=>simp [sliceBounds,HT.sIx]
   |some i=>
    simp only[sliceBounds,HT.sIx,Option.getD_none,show (1:Int) > 0 by decide,if_true]
    by_cases h:i < 0
    · simp only[h,if_true]<;>omega
    · simp only[h,if_false]<;>omega
 · cases hi with
   |none=>simp [sliceBounds,HT.sIx]
   |some i=>
    simp only[sliceBounds,HT.sIx,Option.getD_none,show (1:Int) > 0 by decide,if_true]
    by_cases h:i < 0
    · simp only[h,if_true]<;>omega
    · simp only[h,if_false]<;>omega
theorem aw2 (its:List Value)(lo hi:Option Int):slicePick its.toArray lo hi none=((its.drop (HT.sIx its.length 0 lo)).take (HT.sIx its.length its.length hi - HT.sIx its.length 0 lo)).toArray:=by
 obtain ⟨h1,h2,h3⟩:=ay6 lo hi its.toArray.size;unfold slicePick;rw[h1,h2,h3]
 simp only[sliceRange_one,pick_run,cp2]<;>rfl
def cm8 (K:PySem.W.Frag):V->Option Int->Option Int->Hp->VK->Prop:=fun x lo hi H Q=>∃a xs,x= .ref a/\i8 K H a xs/\∀p,H p=none->Q (.ref p) (e8 H p (.lst (C6 xs lo hi)))
theorem E6:SlR X (cm8 X.K):=by
 intro pins s σ H x v vl vu lo hi sl Q I rx hs pl pu h;obtain ⟨a,xs,rfl,hx,q⟩:=h;cases rx;obtain ⟨its,r,ht,hz⟩:=I.list hx;have hlen:=r.length;refine ⟨"list",_,slot_list_getitem.lookup,ht.isList.typeIs,?_⟩;refine wpAny_getItem_list_slice ht.isList hs pl pu .none (by simp) ?_ (by rw[cp2]<;>omega);rw[aw2,<-hlen];refine ⟨.ref s.heap.objs.size,_,I.laid (t':=s.toks) (o:= .lst (C6 xs lo hi)) (fun b ob q=>Heap.get?_push_of_some _ q) (cq0 _) ?_,rfl,q _ (I.hok.fresh (cq0 _))⟩;exact ⟨cq3 (be2 xs lo hi) hz,_,0,(r.drop (HT.sIx xs.length 0 lo)).take (HT.sIx xs.length xs.length hi - HT.sIx xs.length 0 lo),Heap.get?_push_size _ rfl⟩
def S4:V->Bool
 | .non=>true
 | .bl _=>true
 | .int _=>true
 | .str _=>true
 |_=>false
def Y7:V->V->Bool
 | .non,.non=>true
 | .bl a,.bl b=>a==b
 | .bl a,.int b=>(if a then 1 else 0)==b
 | .int a,.bl b=>a==(if b then 1 else 0)
 | .int a,.int b=>a==b
 | .str a,.str b=>a==b
 |_,_=>false
theorem bn7 {A:Around}{s:Shared}{y x:V}{u v:Value}(ry:y8 y u)(rx:y8 x v)(fy:S4 y=true)(fx:S4 x=true):SeqAt.EqAt A s u v (Y7 y x):=by
 cases y with
 |non=>
  cases ry
  cases x with
  |non=>cases rx;exact SeqAt.EqAt.same _
  |bl b=>cases rx;exact SeqAt.EqAt.none_bool b
  |int b=>obtain ⟨t,rfl⟩:=rx;exact SeqAt.EqAt.none_int b t
  |str b=>obtain ⟨t,rfl⟩:=rx;exact SeqAt.EqAt.none_str b t
  |_=>exact absurd (show false=true from fx) cq1
 |bl a=>
  cases ry
  cases x with
  |non=>cases rx;exact SeqAt.EqAt.bool_none a
  |bl b=>cases rx;exact SeqAt.EqAt.bool_bool a b
  |int b=>obtain ⟨t,rfl⟩:=rx;exact SeqAt.EqAt.bool_int a b t
  |str b=>obtain ⟨t,rfl⟩:=rx;exact SeqAt.EqAt.bool_str a b t
  |_=>exact absurd (show false=true from fx) cq1
 |int a=>
  obtain ⟨t',rfl⟩:=ry
  cases x with
  |non=>cases rx;exact SeqAt.EqAt.int_none a t'
  |bl b=>cases rx;exact SeqAt.EqAt.int_bool a t' b
  |int b=>obtain ⟨t,rfl⟩:=rx;exact SeqAt.EqAt.int_int a t' b t
  |str b=>obtain ⟨t,rfl⟩:=rx;exact SeqAt.EqAt.int_str a t' b t
  |_=>exact absurd (show false=true from fx) cq1
 |str a=>
  obtain ⟨t',rfl⟩:=ry
  cases x with
  |non=>cases rx;exact SeqAt.EqAt.str_none a t'
  |bl b=>cases rx;exact SeqAt.EqAt.str_bool a t' b
  |int b=>obtain ⟨t,rfl⟩:=rx;exact SeqAt.EqAt.str_int a t' b t
  |str b=>obtain ⟨t,rfl⟩:=rx;exact SeqAt.EqAt.str_str a t' b t
  |_=>exact absurd (show false=true from fx) cq1
 |_=>exact absurd (show false=true from fy) cq1
def eqU (x:V)(u:Value):Bool:=match u with
 | .none=>Y7 .non x
 | .bool b=>Y7 (.bl b) x
 | .int i _=>Y7 (.int i) x
 | .str z _=>Y7 (.str z) x
 |_=>false
theorem ay7 {x y:V}{u:Value}(r:y8 y u)(f:S4 y=true):eqU x u=Y7 y x:=by
 cases y with
 |non=>cases r;rfl
 |bl b=>cases r;rfl
 |int i=>obtain ⟨t,rfl⟩:=r;rfl
 |str z=>obtain ⟨t,rfl⟩:=r;rfl
 |_=>exact absurd (show false=true from f) cq1
theorem ar5 {x:V}:∀{xs:List V} {us:List Value},o5 xs us->xs.all S4=true->us.any (eqU x)=xs.any fun y=>Y7 y x
 |_,_,.nil,_=>rfl
 |y::xs,u::us,.cons r t,f=>by
  rw[List.all_cons,cs9] at f;rw[cx5,cx5,ay7 r f.1,ar5 t f.2]
theorem ad2 {A:Around}{s:Shared}{x:V}{v:Value}(rx:y8 x v)(fx:S4 x=true):∀{xs:List V} {us:List Value},o5 xs us->xs.all S4=true->∀u∈us,SeqAt.EqAt A s u v (eqU x u)
 |_,_,.nil,_=>fun u hu=>by cases hu
 |y::xs,u::us,.cons r t,f=>fun u' hu=>by
  rw[List.all_cons,cs9] at f
  rcases cq5.mp hu with rfl|hu
  · rw[ay7 r f.1];exact bn7 r rx f.1 fx
  · exact ad2 rx fx t f.2 u' hu
def inV (x:V)(xs:List V):Bool:=xs.any fun y=>Y7 y x
def rIn (K:PySem.W.Frag)(neg:Bool):R2:=fun x y H Q=>∃p xs,y= .ref p/\(i8 K H p xs\/Y3 K H p xs)/\S4 x=true/\xs.all S4=true/\Q (.bl (if neg then !inV x xs else inV x xs)) H
theorem au2:L9 X (compareOp .In) (rIn X.K false):=by
 intro pins s σ H x y v u Q I rx ry h;obtain ⟨p,xs,rfl,hq,fx,fs,q⟩:=h;cases ry
 rcases hq with hq|hq
 · obtain ⟨its,r,pl,hz⟩:=I.list hq;refine SeqAt.in_listAt (eqU x) pl.isList (fun w hw=>ad2 rx fx r fs w (by simpa using hw)) ⟨.bl _,H,I,rfl,?_⟩;rw[show its.toArray.any (eqU x)=its.any (eqU x) by simp,ar5 r fs];exact q
 · obtain ⟨its,r,pl,hz⟩:=I.tuple hq;refine SeqAt.in_tupleAt (eqU x) pl (fun w hw=>ad2 rx fx r fs w (by simpa using hw)) ⟨.bl _,H,I,rfl,?_⟩;rw[show its.toArray.any (eqU x)=its.any (eqU x) by simp,ar5 r fs];exact q
theorem ay8:G8 X (.builtin "len") (fun xs H Q=>∃p ys,xs=[.ref p]/\(i8 X.K H p ys\/Y3 X.K H p ys)/\Q (.int ys.length) H):=by
 intro pins s σ H xs us Q I r h;obtain ⟨p,ys,rfl,hq,q⟩:=h;obtain ⟨u,rfl,rx⟩:=M2 r;cases rx;have hn:=ay2
 rcases hq with hq|hq
 · obtain ⟨its,r',pl,hz⟩:=I.list hq;have hlen:=r'.length;exact Calls.call_len_list pl.isList (by simp only[cp2]<;>omega) ⟨.int ys.length,H,I.tok _,⟨s.toks+1,by rw[cp2,hlen]⟩,q⟩
 · obtain ⟨its,r',pl,hz⟩:=I.tuple hq;have hlen:=r'.length;exact len_tuple pl (by simp only[cp2]<;>omega) ⟨.int ys.length,H,I.tok _,⟨s.toks+1,by rw[cp2,hlen]⟩,q⟩
theorem ay9:G8 X (.type "list") (fun xs H Q=>∃p ys,xs=[.ref p]/\(i8 X.K H p ys\/Y3 X.K H p ys)/\∀l,H l=none->Q (.ref l) (e8 H l (.lst ys))):=by
 intro pins s σ H xs us Q I r h;obtain ⟨p,ys,rfl,hq,q⟩:=h;obtain ⟨u,rfl,rx⟩:=M2 r;cases rx
 have fin:∀(its:List Value),o5 ys its->ys.length<=sizeLine->∀(h':Heap) (c':Nat),(∀b o',s.heap.get? b=some o'->h'.get? b=some o')->
     h'.get? s.heap.objs.size=some {cls:= .type "list",dict:=none,data:= .seq its.toArray c',slots:= #[]}->EP X pins σ Q (.ref s.heap.objs.size) {s with heap:=h'}:=fun its r' hz h' c' kp e=>
   ⟨.ref s.heap.objs.size,_,I.laid (t':=s.toks) kp (cq0 _) (show B1 X.prog X.w _ h' _ (.lst ys) from ⟨hz,its,c',r',e⟩),rfl,q _ (I.hok.fresh (cq0 _))⟩
 rcases hq with hq|hq
 · obtain ⟨its,r',pl,hz⟩:=I.list hq;have hlen:=r'.length;obtain ⟨o,ho,hc,n,hd⟩:=pl.isList;exact call_list_seq p (.inl rfl) ho hc hd (fun h' c' kp e=>fin its r' hz h' c' kp e) (by simp only[cp2]<;>omega)
 · obtain ⟨its,r',pl,hz⟩:=I.tuple hq;have hlen:=r'.length;obtain ⟨o,ho,hc,n,hd⟩:=pl;exact call_list_seq p (.inr rfl) ho hc hd (fun h' c' kp e=>fin its r' hz h' c' kp e) (by simp only[cp2]<;>omega)
theorem af4:G8 X (.type "tuple") (fun xs H Q=>∃p ys,xs=[.ref p]/\((i8 X.K H p ys/\∀l,H l=none->Q (.ref l) (e8 H l (.tup ys)))\/(Y3 X.K H p ys/\Q (.ref p) H))):=by
 intro pins s σ H xs us Q I r h;obtain ⟨p,ys,rfl,h⟩:=h;obtain ⟨u,rfl,rx⟩:=M2 r;cases rx
 rcases h with ⟨hq,q⟩|⟨hq,q⟩
 · obtain ⟨its,r',pl,hz⟩:=I.list hq;have hlen:=r'.length;refine call_tuple_list pl.isList (fun h' kp=> ?_) (by simp only[cp2]<;>omega);have I1:j9 X pins σ H {s with heap:=h'}:=I.kept (t':=s.toks) kp
   have I2:j9 X pins σ (e8 H h'.objs.size (.tup ys)) {s with heap:=h'.push {cls:= .type "tuple",data:= .seq its.toArray}}:=
     I1.laid (t':=s.toks) (fun b o e=>Heap.get?_push_of_some _ e) (cq0 _) (show B1 X.prog X.w _ _ _ (.tup ys) from ⟨hz,its,r',IsTup.new _ _⟩)
   exact ⟨.ref h'.objs.size,_,I2,rfl,q _ (I1.hok.fresh (cq0 _))⟩
 · obtain ⟨its,r',pl,hz⟩:=I.tuple hq;exact call_tuple_same pl ⟨.ref p,H,I,rfl,q⟩
def tyV (K:PySem.W.Frag)(T:String)(x:V)(H:Hp):Prop:=match x with
 | .str _=>T="str"
 | .int _=>T="int"
 | .ref p=>(T="list"/\∃xs,i8 K H p xs)\/(T="tuple"/\∃o,K.lookup p=some o/\o.cls= .type "tuple"/\o.dict=none)\/
     (T="dict"/\((∃kvs,H p=some (.dK kvs))\/∃kvs,H p=some (.dT kvs)))\/(T="set"/\∃S n,H p=some (.set S n))
 |_=>False
theorem cf4 {pins:List (Addr×Obj)}{σ:St}{H:Hp}{s:Shared}{T:String}{x:V}{v:Value}(I:j9 X pins σ H s)(r:y8 x v)(ty:tyV X.K T x H):
   s.TypeIs v T/\∀a,v= .ref a->∃ob,s.heap.get? a=some ob/\ob.dict=none:=by
 cases x with
 |str z=>
  obtain ⟨t,rfl⟩:=r;cases (show T="str" from ty);exact ⟨typeIs_str s z t,fun _ e=>nomatch e⟩
 |int i=>
  obtain ⟨t,rfl⟩:=r;cases (show T="int" from ty);exact ⟨typeIs_int s i t,fun _ e=>nomatch e⟩
 |ref p=>
  cases r
  rcases ty with ⟨rfl,xs,hq⟩|⟨rfl,o,hk,hc,hd⟩|⟨rfl,hk⟩|⟨rfl,S,n,hk⟩
  · obtain ⟨its,_,pl,_⟩:=I.list hq;refine ⟨pl.isList.typeIs,fun a e=> ?_⟩;cases e;obtain ⟨o,n,e,c,hd,_⟩:=pl;exact ⟨o,e,hd⟩
  · refine ⟨⟨o,I.kIn p o hk,hc⟩,fun a e=> ?_⟩;cases e;exact ⟨o,I.kIn _ o hk,hd⟩
  · have z:∃o,s.heap.get? p=some o/\o.ExactDict:=by
      rcases hk with ⟨kvs,hk⟩|⟨kvs,hk⟩
      · obtain ⟨_,_,_,_,o,_,_,e,ex,_⟩:=I.hok p _ hk;exact ⟨o,e,ex⟩
      · obtain ⟨_,_,_,_,o,_,_,e,ex,_⟩:=I.hok p _ hk;exact ⟨o,e,ex⟩
    obtain ⟨o,e,ex⟩:=z;refine ⟨⟨o,e,ex.1⟩,fun a e2=> ?_⟩;cases e2;exact ⟨o,e,ex.2.1⟩
  · obtain ⟨o,_,_,_,e,ex,_⟩:=I.hok p _ hk;refine ⟨⟨o,e,ex.1⟩,fun a e2=> ?_⟩;cases e2;exact ⟨o,e,ex.2.1⟩
 |_=>exact False.elim ty
def tBM (K:PySem.W.Frag)(T:String)(r:V->List V->Hp->VK->Prop)(to:TE)(t:TA):TE:=fun σ H Q=>to σ H fun x H1=>tyV K T x H1/\t σ H1 fun xs H2=>r x xs H2 Q
variable {o e:Expr} {es:List Expr} {to:TE} {t:TA} {name:Str} {apos cpos:Pos} {T id:String} {r:V->List V->Hp->VK->Prop}
theorem ao7 (pa:PlainAttrs T)(slot:Slot T name id)(hty:typeOf (.builtin id)=pure (.type "method_descriptor"))(hm:MtR X id r)(ho:PE X o to)(ha:PA X (e::es) t)
   (hbase:attributeBase o name X.env (eval o X.env)=eval o X.env:=by rfl)
   (hfew:((backTo cpos (starEach (e::es) X.env)).all (fun x=> !x.1)&&(backToKw cpos (keywordEach [] X.env)).all (fun x=>x.1.isSome)
     &&decide ((e::es).length+([]:List Keyword).length+(if ([]:List Keyword).isEmpty then 0 else 1) < 30))=true:=by rfl)
   (hline:(apos.endLine==cpos.line)=true:=by rfl) (hs:starEach (e::es) X.env=(false,eval e X.env)::starEach es X.env:=by rfl) (hplain:(backTo cpos (starEach es X.env)).any (·.1)=false:=by rfl):
   PE X (.Call (.Attribute o name apos) (e::es) [] cpos) (tBM X.K T r to t):=by
 intro pins s σ H Q I h;refine wpAny_Call_method_late hbase hfew hline rfl (y9 (ho pins s σ H _ I h) fun v s1 ⟨x,H1,I1,r1,ty,q1⟩=> ?_);obtain ⟨h1,h2⟩:=cf4 I1 r1 ty;refine ⟨T,id,pa,slot,hty,h1,h2,?_⟩;have hA:=ha cpos pins s1 σ H1 _ I1 q1;rw[hs] at hA ⊢;refine Calls.callWith_builtin (by show (false||(backTo cpos (starEach es X.env)).any (·.1))=false;rw[hplain]<;>rfl) (Calls.evalArgs_plain ?_)
 exact y9 hA fun us s2 ⟨vs,H2,I2,r2,q2⟩=>hm pins s2 σ H2 x vs v us Q I2 r1 r2 q2
end
end L2
namespace L2
open PySem PySem.Spec PyProof.Rows
def MtM (X:Cx)(id:String)(r:V->List V->Hp->VK->Prop):Prop:=
 ∀(pins:List (Addr×Obj)) (s:Shared) (σ:St) (H:Hp) (x:V) (xs:List V) (v:Value) (us:List Value) (Q:VK),j9 X pins σ H s->y8 x v->o5 xs us->r x xs H Q->
  wpAny (model X.prog X.w) X.A (call (.builtin id) (v::us)) (EP X pins σ Q) X.xe s
theorem o5.one:∀{x:V} {us:List Value},o5 [x] us->∃u,us=[u]/\y8 x u
 |_,_,.cons r .nil=>⟨_,rfl,r⟩
theorem o5.two:∀{x y:V} {us:List Value},o5 [x,y] us->∃u v,us=[u,v]/\y8 x u/\y8 y v
 |_,_,_,.cons r (.cons q .nil)=>⟨_,_,rfl,r,q⟩
theorem o5.eraseIdx:∀{xs:List V} {us:List Value} (i:Nat),o5 xs us->o5 (xs.eraseIdx i) (us.eraseIdx i)
 |_,_,_,.nil=> .nil
 |_,_,0,.cons _ t=>t
 |_,_,i+1,.cons r t=> .cons r (o5.eraseIdx i t)
theorem o5.rep {xs:List V}{us:List Value}(h:o5 xs us):∀k:Nat,o5 (cr6 k xs).flatten (cr6 k us).flatten
 |0=> .nil
 |k+1=>by
  rw[cu9,cu9,cr4,cr4];exact o5.append h (o5.rep h k)
theorem au3 {α:Type}:∀(l:List α) (i:Nat),(l.eraseIdx i).length<=l.length
 |[],_=>cq0 _
 |_::_,0=>db1 _
 |_::r,i+1=>da3 (au3 r i)
theorem au4 (its:List Value):∀(k:Nat) (acc:List Value),
   List.foldl (fun x1 x2=>x1++x2) acc.toArray (cr6 k its.toArray)=(acc++(cr6 k its).flatten).toArray
 |0,acc=>by simp
 |k+1,acc=>by
  have e:acc.toArray++its.toArray=(acc++its).toArray:=by simp
  have e2:(acc++its)++(cr6 k its).flatten=acc++(cr6 (k+1) its).flatten:=by
    rw[cu9,cr4,cy2]
  rw[<-e2,<-au4 its k (acc++its),<-e,cu9,List.foldl_cons]
section
variable {X:Cx} {pins:List (Addr×Obj)} {σ:St} {H:Hp} {s:Shared} {l b:Addr} {xs ys zs:List V}
theorem j9.lset {its its':List Value}{n:Nat}{f:Array Value->Array Value}{t':Nat}(I:j9 X pins σ H s)(hH:H l=some (.lst xs))
   (e:s.heap.get? l=some {cls:= .type "list",data:= .seq its.toArray n}) (hf:f its.toArray=its'.toArray) (hv:o5 ys its') (hz:ys.length<=sizeLine):
   j9 X pins σ (e8 H l (.lst ys)) {s with heap:=s.heap.update l (Obj.mapSeq f),toks:=t'}:=by
 have q:=PySem.IsL.update e f;rw[hf] at q;refine I.write (x:=l) (e:=l) (by rw[hH];exact trivial) (.inl rfl) (fun b' u hb hu=>(Heap.get?_update_other s.heap (Obj.mapSeq f) (Ne.symm hb)).trans hu) ⟨_,q⟩ ?_;exact ⟨hz,its',_,hv,q⟩
theorem j9.lnew {its:List Value}{t':Nat}(I:j9 X pins σ H s)(hv:o5 ys its)(hz:ys.length<=sizeLine):
   j9 X pins σ (e8 H s.heap.objs.size (.lst ys)) {s with heap:=s.heap.push {cls:= .type "list",data:= .seq its.toArray},toks:=t'}:=
 I.laid (fun _ _ q=>Heap.get?_push_of_some _ q) (cq0 _) ⟨hz,its,0,hv,Heap.get?_push_size _ rfl⟩
theorem j9.fresh (I:j9 X pins σ H s):H s.heap.objs.size=none:=I.hok.fresh (cq0 _)
theorem j9.lstM (I:j9 X pins σ H s)(hH:H l=some (.lst xs)):xs.length<=sizeLine/\∃(its:List Value) (n:Nat),o5 xs its/\xs.length=its.length/\s.heap.get? l=some {cls:= .type "list",data:= .seq its.toArray n}:=by
 obtain ⟨z,its,n,r,e⟩:=I.hok l _ hH;exact ⟨z,its,n,r,r.length,e⟩
theorem az1 {n:Nat}(h:n<=sizeLine):Builtin.List.listTooLong n=false:=by
 unfold Builtin.List.listTooLong;exact decide_eq_false (by omega)
end
section
variable {X:Cx}
def bg2:V->List V->Hp->VK->Prop:=fun x vs H Q=>∃l xs y,x= .ref l/\vs=[y]/\H l=some (.lst xs)/\xs.length < sizeLine/\Q .non (e8 H l (.lst (xs++[y])))
theorem bn9:MtM X "list.append" bg2:=by
 intro pins s σ H x vs v us Q I rx rv h;obtain ⟨l,xs,y,rfl,rfl,hH,hz,q⟩:=h;cases rx;obtain ⟨u,rfl,ru⟩:=rv.one;obtain ⟨z,its,n,r,hl,e⟩:=I.lstM hH;refine call_meets F.slot_list_append ⟨_,e,rfl⟩ F.entry_list_append (F.args_list_append_2 _ _) (PySem.list_append l its.toArray n u (by rw[cp2];omega)) ⟨e,?_⟩;refine ⟨.non,_,I.lset (its':=its++[u]) hH e (by simp) (r.append (.cons ru .nil)) ?_,rfl,q⟩;rw[co9,cs2];omega
def bg3:V->List V->Hp->VK->Prop:=fun x vs H Q=>∃l b xs zs,x= .ref l/\vs=[.ref b]/\H l=some (.lst xs)/\H b=some (.lst zs)/\xs.length+zs.length<=sizeLine/\Q .non (e8 H l (.lst (xs++zs)))
theorem bo0:MtM X "list.extend" bg3:=by
 intro pins s σ H x vs v us Q I rx rv h;obtain ⟨l,b,xs,zs,rfl,rfl,hH,hB,hz,q⟩:=h;cases rx;obtain ⟨u,rfl,ru⟩:=rv.one;cases ru;obtain ⟨z,its,n,r,hl,e⟩:=I.lstM hH;obtain ⟨z2,its2,n2,r2,hl2,e2⟩:=I.lstM hB
 have hsz:its.toArray.size+its2.toArray.size<=sizeLine:=by rw[cp2,cp2];omega
 have hlong:¬(!its.toArray.isEmpty&&Builtin.List.listTooLong (its.toArray.size+its2.toArray.size))=true:=by
   rw[az1 hsz,Bool.and_false];exact cq1
 refine call_meets F.slot_list_extend ⟨_,e,rfl⟩ F.entry_list_extend (F.args_list_extend_2 _ _)
   (AutoSeq1.list_extend_list_list_0 l its.toArray n b its2.toArray n2 hlong (by rw[cp2];omega) (by omega)) ⟨e,e2,?_⟩
 refine ⟨.non,_,I.lset (its':=its++its2) hH e (by simp) (r.append r2) ?_,rfl,q⟩;rw[co9];omega
def bo1:V->List V->Hp->VK->Prop:=fun x vs H Q=>∃l xs i k y,x= .ref l/\vs=[.int i]/\H l=some (.lst xs)/\ -(2^63)<=i/\i < 2^63/\seqIndex? i xs.length=some k/\xs[k]? =some y/\Q y (e8 H l (.lst (xs.eraseIdx k)))
theorem bt9:MtM X "list.pop" bo1:=by
 intro pins s σ H x vs v us Q I rx rv h;obtain ⟨l,xs,i,k,y,rfl,rfl,hH,h1,h2,hk,hy,q⟩:=h;cases rx;obtain ⟨u,rfl,ru⟩:=rv.one;obtain ⟨t,rfl⟩:=ru;obtain ⟨z,its,n,r,hl,e⟩:=I.lstM hH;obtain ⟨w,hw,rw'⟩:=r.get hy
 refine call_meets F.slot_list_pop ⟨_,e,rfl⟩ F.entry_list_pop (F.args_list_pop_2 _ _)
   (MeetsSeq.list_pop_at l its.toArray n i t k w (fitsIndex_both h1 h2) (by rw[cp2,<-hl];exact hk) (by rw[<-Array.getElem?_toList];exact hw) (by rw[cp2];omega)) ⟨e,?_⟩
 refine ⟨y,_,I.lset (its':=its.eraseIdx k) hH e ?_ (r.eraseIdx k) ?_,rw',q⟩
 · show its.toArray.eraseIdxIfInBounds k=(its.eraseIdx k).toArray;rw[List.eraseIdxIfInBounds_toArray]
 · have:=au3 xs k;omega
def cm9:R2:=fun x y H Q=>∃l b xs zs,x= .ref l/\y= .ref b/\H l=some (.lst xs)/\H b=some (.lst zs)/\xs.length+zs.length<=sizeLine/\∀p,H p=none->Q (.ref p) (e8 H p (.lst (xs++zs)))
theorem B8:L9 X (binaryOp .Add) cm9:=by
 intro pins s σ H x y v u Q I rx ry h;obtain ⟨l,b,xs,zs,rfl,rfl,hH,hB,hz,q⟩:=h;cases rx;cases ry;obtain ⟨z,its,n,r,hl,e⟩:=I.lstM hH;obtain ⟨z2,its2,n2,r2,hl2,e2⟩:=I.lstM hB;refine PySem.P.add_list e e2 ?_ (by rw[cp2,cp2];omega)
 have ea:its.toArray++its2.toArray=(its++its2).toArray:=by simp
 rw[ea];exact ⟨.ref _,_,I.lnew (t':=s.toks) (r.append r2) (by rw[co9];omega),rfl,q _ I.fresh⟩
def cn0:R2:=fun x y H Q=>∃l k xs,x= .ref l/\y= .int k/\H l=some (.lst xs)/\ -(2^63)<=k/\k < 2^63/\xs.length*k.toNat<=sizeLine/\
 ∀p,H p=none->Q (.ref p) (e8 H p (.lst (cr6 k.toNat xs).flatten))
theorem bz7 {α:Type}(xs:List α)(k:Nat):(cr6 k xs).flatten.length=k*xs.length:=by
 induction k with
 |zero=>simp
 |succ k ih=>rw[cu9,cr4,co9,ih,da8,cx9]
theorem bo2:L9 X (binaryOp .Mult) cn0:=by
 intro pins s σ H x y v u Q I rx ry h;obtain ⟨l,k,xs,rfl,rfl,hH,h1,h2,hz,q⟩:=h;cases rx;obtain ⟨t,rfl⟩:=ry;obtain ⟨z,its,n,r,hl,e⟩:=I.lstM hH
 have hlen:its.toArray.size*k.toNat<=sizeLine:=by rw[cp2,<-hl];exact hz
 have hcap:¬its.toArray.size*k.toNat > (2^63 - 1)/8:=by
   have:(sizeLine:Nat)<=(2^63 - 1)/8:=by decide
   omega
 have hfit:¬(!Builtin.List.listFitsIndex k)=true:=by
   rw[fitsIndex_both h1 h2];exact cq1
 have hlong:¬Builtin.List.listTooLong (its.toArray.size*k.toNat)=true:=by
   rw[az1 hlen];exact cq1
 have hnew:List.foldl (fun x1 x2=>x1++x2) #[] (cr6 (if its.toArray.isEmpty=true then 0 else k.toNat) its.toArray)=(cr6 k.toNat its).flatten.toArray:=by
   have f0:∀m:Nat,List.foldl (fun x1 x2=>x1++x2) #[] (cr6 m its.toArray)=(cr6 m its).flatten.toArray:=fun m=>by
     have:=au4 its m [];rw[List.nil_append] at this;exact this
   rw[f0]
   cases its with
   |nil=>simp
   |cons a r'=>rw[if_neg (by simp)]
 refine wpAny_binaryOp_repeat_ref (T:="list") (U:="int") (by decide) ⟨_,e,rfl⟩ (fun s'=>typeIs_int s' k t) noFill_list_mul F.fills_int_mul F.slot_int_rmul repeat_list F.slot_int_index.lookup
   (call_meets F.slot_int_rmul (typeIs_int s k t) F.entry_int_rmul (F.args_int_rmul_2 _ _) (int___rmul___int_list k t l its.toArray n)
     ⟨e,rfl,⟨_,e,rfl⟩,call_meets F.slot_list_mul ⟨_,e,rfl⟩ F.entry_list_mul (F.args_list_mul_2 _ _) (AutoListH.list___mul___list_int_3 l its.toArray n k t hfit hcap hlong) ⟨e,?_⟩⟩)
 rw[hnew];exact ⟨.ref _,_,I.lnew (t':=s.toks) (r.rep k.toNat) (by rw[bz7,Nat.mul_comm];exact hz),rfl,q _ I.fresh⟩
end
end L2
namespace L2
open PySem PySem.Spec PyProof.Rows
section
variable {κ:Type} [DecidableEq κ]
def N8 (kvs:List (κ×V))(k:κ):Option V:=(kvs.find? fun kv=>decide (kv.1=k)).map (·.2)
def S5 (kvs:List (κ×V))(k:κ)(v:V):List (κ×V):=
 if (kvs.any fun kv=>decide (kv.1=k))=true then kvs.map (fun kv=>if kv.1=k then (kv.1,v) else kv) else kvs++[(k,v)]
theorem ad3 {p:κ×V}{r:List (κ×V)}{k:κ}(e:p.1=k):N8 (p::r) k=some p.2:=by simp [N8,cw6,e]
theorem Y8 {p:κ×V}{r:List (κ×V)}{k:κ}(e:¬p.1=k):N8 (p::r) k=N8 r k:=by simp [N8,cw6,e]
theorem am0 (k:κ):∀kvs:List (κ×V),(kvs.any fun kv=>decide (kv.1=k))=(N8 kvs k).isSome
 |[]=>rfl
 |p::r=>by
  rw[cx5]
  by_cases e:p.1=k
  · simp only[ad3 e,decide_eq_true e,Bool.true_or,Option.isSome_some]
  · rw[Y8 e,decide_eq_false e,Bool.false_or];exact am0 k r
theorem ak7 (kvs:List (κ×V))(k:κ)(v:V):(S5 kvs k v).length<=kvs.length+1:=by
 unfold S5
 split
 · rw[co8];omega
 · rw[co9,cp9,List.length_nil];omega
theorem bu0 {kvs:List (κ×V)}{k:κ}(v:V)(h:N8 kvs k=none):S5 kvs k v=kvs++[(k,v)]:=by
 unfold S5;rw[am0,h];exact if_neg (by decide)
theorem al7.isSome_eq {o:Option V}{u:Option Value}(r:al7 o u):o.isSome=u.isSome:=by
 cases o with
 |none=>cases u with
  |none=>rfl
  |some _=>exact (show False from r).elim
 |some _=>cases u with
  |none=>exact (show False from r).elim
  |some _=>rfl
theorem KV.val {kvs:List (κ×V)}{vs:List (κ×Value)}(r:KV kvs vs)(k:κ):al7 (N8 kvs k) (valueAt vs k):=by
 unfold KV at r
 induction r with
 |nil=>exact True.intro
 |@cons p q ps qs h t ih=>
  obtain ⟨h1,h2⟩:=h
  by_cases e:p.1=k
  · have e':q.1=k:=h1.symm.trans e
    have b:valueAt (q::qs) k=some q.2:=by simp [valueAt,cw6,e']
    rw[ad3 e,b];exact h2
  · have e':¬q.1=k:=fun z=>e (h1.trans z)
    have b:valueAt (q::qs) k=valueAt qs k:=by simp [valueAt,cw6,e']
    rw[Y8 e,b];exact ih
theorem KV.any {kvs:List (κ×V)}{vs:List (κ×Value)}(r:KV kvs vs)(k:κ):(kvs.any fun kv=>decide (kv.1=k))=vs.any fun kv=>decide (kv.1=k):=by
 unfold KV at r
 induction r with
 |nil=>rfl
 |cons h t ih=>rw[cx5,cx5,ih,h.1]
theorem KV.repl {kvs:List (κ×V)}{vs:List (κ×Value)}(r:KV kvs vs)(k:κ){y:V}{u:Value}(ry:y8 y u):
   KV (kvs.map fun kv=>if kv.1=k then (kv.1,y) else kv) (vs.map fun kv=>if kv.1=k then (kv.1,u) else kv):=by
 unfold KV at r ⊢
 induction r with
 |nil=>exact .nil
 |@cons p q ps qs h t ih=>
  rw[cr0,cr0];refine .cons ?_ ih;obtain ⟨h1,h2⟩:=h
  by_cases e:p.1=k
  · rw[if_pos e,if_pos (h1.symm.trans e)];exact ⟨h1,ry⟩
  · rw[if_neg e,if_neg (fun z=>e (h1.trans z))];exact ⟨h1,h2⟩
theorem KV.put {kvs:List (κ×V)}{vs:List (κ×Value)}(r:KV kvs vs)(k:κ){y:V}{u:Value}(ry:y8 y u):KV (S5 kvs k y) (stored vs k u):=by
 unfold S5 stored;rw[r.any k]
 by_cases e:(vs.any fun kv=>decide (kv.1=k))=true
 · rw[if_pos e,if_pos e];exact r.repl k ry
 · rw[if_neg e,if_neg e];exact Paired.snoc r ⟨rfl,ry⟩
theorem KV.length {kvs:List (κ×V)}{vs:List (κ×Value)}(r:KV kvs vs):kvs.length=vs.length:=Paired.length r
end
theorem ao8 {P:Program}{w:World}{k:A7}{u:Value}(r:y8 (kV k) u):(C0 P w).is k u=true:=by
 cases k with
 |inl i=>obtain ⟨t,e⟩:=(show ∃t,u=Value.int i t from r);subst e;exact be0 P w i t
 |inr x=>obtain ⟨t,e⟩:=(show ∃t,u=Value.str x t from r);subst e;exact be1 P w x t
theorem au5 {P:Program}{w:World}:∀{ks:List A7} {us:List Value},o5 (ks.map kV) us->ItemsAre (C0 P w) ks us
 |[],_,r=>by rw[cw0] at r;cases r;exact .nil
 |k::ks,_,r=>by
  rw[cr0] at r
  cases r with
  |cons h t=>exact .cons (ao8 h) (au5 t)
abbrev KT (H:Hp):List (List A7×V)->List (List A7×Addr×Value)->Prop:=Paired fun p q=>p.1=q.1/\H q.2.1=some (.tup (p.1.map kV))/\y8 p.2 q.2.2
theorem KT.val {H:Hp}{kvs:List (List A7×V)}{xs:List (List A7×Addr×Value)}(r:KT H kvs xs)(k:List A7):al7 (N8 kvs k) ((atKey xs k).map (·.2)):=by
 induction r with
 |nil=>exact True.intro
 |@cons p q ps qs h t ih=>
  obtain ⟨h1,_,h2⟩:=h
  by_cases e:p.1=k
  · have e':q.1=k:=h1.symm.trans e
    have b:atKey (q::qs) k=some q.2:=by simp [atKey,cw6,e']
    rw[ad3 e,b];exact h2
  · have e':¬q.1=k:=fun z=>e (h1.trans z)
    have b:atKey (q::qs) k=atKey qs k:=by simp [atKey,cw6,e']
    rw[Y8 e,b];exact ih
theorem KT.repl {H:Hp}{kvs:List (List A7×V)}{xs:List (List A7×Addr×Value)}(r:KT H kvs xs)(k:List A7){y:V}{u:Value}(ry:y8 y u):
   KT H (kvs.map fun kv=>if kv.1=k then (kv.1,y) else kv) (xs.map (putAt k u)):=by
 induction r with
 |nil=>exact .nil
 |@cons p q ps qs h t ih=>
  rw[cr0,cr0];refine .cons ?_ ih;obtain ⟨h1,h2,h3⟩:=h;unfold putAt
  by_cases e:p.1=k
  · rw[if_pos e,if_pos (h1.symm.trans e)];exact ⟨h1,h2,ry⟩
  · rw[if_neg e,if_neg (fun z=>e (h1.trans z))];exact ⟨h1,h2,h3⟩
theorem KT.put {H:Hp}{kvs:List (List A7×V)}{xs:List (List A7×Addr×Value)}(r:KT H kvs xs)(k:List A7){b:Addr}{y:V}{u:Value}(hb:H b=some (.tup (k.map kV)))(ry:y8 y u):
   KT H (S5 kvs k y) (storedH xs k b u):=by
 have e:(kvs.any fun kv=>decide (kv.1=k))=(atKey xs k).isSome:=by
   rw[am0,(r.val k).isSome_eq,cz5]
 unfold S5 storedH;rw[e]
 by_cases q:(atKey xs k).isSome=true
 · rw[if_pos q,if_pos q];exact r.repl k ry
 · rw[if_neg q,if_neg q];exact Paired.snoc r ⟨rfl,hb,ry⟩
theorem KT.keeps {H H':Hp}{kvs:List (List A7×V)}{xs:List (List A7×Addr×Value)}(r:KT H kvs xs)(ht:∀b ys,H b=some (.tup ys)->H' b=some (.tup ys)):KT H' kvs xs:=
 Paired.mapP r fun _ _ z=>⟨z.1,ht _ _ z.2.1,z.2.2⟩
section
variable {P:Program} {w:World} {H:Hp} {h:Heap} {a:Addr}
theorem by2 {u:HO}(ok:D0 P w H h)(e:Rd H a u):B1 P w H h a u:=e.ok ok
theorem bi6 {kvs:List (A7×V)}(ok:D0 P w H h)(e:Rd H a (.dK kvs)):kvs.length<=sizeLine/\(a==sysModules)=false/\∃vs,KV kvs vs/\h.DictOf (C0 P w) a vs:=
 show B1 P w H h a (.dK kvs) from by2 ok e
theorem cj3 {kvs:List (A7×V)}(ok:D0 P w H h)(e:H a=some (.dK kvs)):kvs.length<=sizeLine/\(a==sysModules)=false/\∃vs,KV kvs vs/\h.DictOf (C0 P w) a vs:=bi6 ok (.inl e)
theorem ao9 {ks:List A7}(ok:D0 P w H h)(e:H a=some (.tup (ks.map kV))):(tupleKind (C0 P w)).is h ks a:=by
 obtain ⟨_,its,r,o,h1,h2,n,h3⟩:=(show B1 P w H h a (.tup (ks.map kV)) from ok a _ e);exact ⟨o,its.toArray,n,h1,h2,h3,by simpa using au5 r⟩
theorem bi7 {kvs:List (List A7×V)}(ok:D0 P w H h)(e:Rd H a (.dT kvs)):kvs.length<=sizeLine/\(a==sysModules)=false/\
   ∃xs,KT H kvs xs/\h.DictOfH (tupleKind (C0 P w)) a xs:=by
 obtain ⟨z,y,xs,r,o,es,ep,h1,h2,h3,h4,h5⟩:=(show B1 P w H h a (.dT kvs) from by2 ok e);refine ⟨z,y,xs,r,o,es,ep,h1,h2,h3,h4,fun x hx=> ?_,h5⟩
 have all:∀{l:List (List A7×V)} {m:List (List A7×Addr×Value)},KT H l m->∀x∈m,(tupleKind (C0 P w)).is h x.1 x.2.1:=by
   intro l m q
   induction q with
   |nil=>intro x hx;exact nomatch hx
   |@cons p q ps qs hq t ih=>
    intro x hx
    rcases cq5.mp hx with e|hx
    · subst e;exact ao9 ok (by rw[<-hq.1];exact hq.2.1)
    · exact ih x hx
 exact all r x hx
theorem cj4 {kvs:List (List A7×V)}(ok:D0 P w H h)(e:H a=some (.dT kvs)):kvs.length<=sizeLine/\(a==sysModules)=false/\
 ∃xs,KT H kvs xs/\h.DictOfH (tupleKind (C0 P w)) a xs:=bi7 ok (.inl e)
end
def ad4 (H:Hp)(a:Addr)(y:V)(r:Option V):Prop:=
 (∃kvs k,Rd H a (.dK kvs)/\y=kV k/\r=N8 kvs k)\/∃kvs k b,Rd H a (.dT kvs)/\y= .ref b/\H b=some (.tup (k.map kV))/\r=N8 kvs k
def am1 (H:Hp)(a:Addr)(y v:V)(H':Hp):Prop:=
 (∃kvs k,H a=some (.dK kvs)/\y=kV k/\kvs.length < sizeLine/\H'=e8 H a (.dK (S5 kvs k v)))\/
 ∃kvs k b,H a=some (.dT kvs)/\y= .ref b/\H b=some (.tup (k.map kV))/\kvs.length < sizeLine/\H'=e8 H a (.dT (S5 kvs k v))
theorem ad4.k {H:Hp}{a:Addr}{kvs:List (A7×V)}{k:A7}(e:H a=some (.dK kvs)):ad4 H a (kV k) (N8 kvs k):= .inl ⟨kvs,k,.inl e,rfl,rfl⟩
theorem am1.k {H:Hp}{a:Addr}{kvs:List (A7×V)}{k:A7}{v:V}(e:H a=some (.dK kvs))(hl:kvs.length < sizeLine):am1 H a (kV k) v (e8 H a (.dK (S5 kvs k v))):= .inl ⟨kvs,k,e,rfl,hl,rfl⟩
section
variable {X:Cx} {pins:List (Addr×Obj)} {σ:St} {H:Hp} {s:Shared} {a:Addr} {y v:V} {u r:Value} {o:Option V} {A:Around} {E:Value->Shared->Prop}
theorem j9.big (I:j9 X pins σ H s):sysModules < s.heap.objs.size:=by
 have h:mainGlobals < s.heap.objs.size:=(I.mod.glob.keeps I.bk).lt;exact Nat.lt_trans (by decide) h
theorem cn1 {Q:Value->Shared->Prop}(hu:A.units+1 < cLine)(I:j9 X pins σ H s)(g:ad4 H a y o)(ry:y8 y u)(h:∀s',j9 X pins σ H s'->Q (.bool o.isSome) s'):
   wpAny (model X.prog X.w) A (compareOp .In u (.ref a)) Q E s:=by
 rcases g with ⟨kvs,k,e,ey,l⟩|⟨kvs,k,b,e,ey,eb,l⟩
 · subst ey;obtain ⟨z,hd,vs,rel,dd⟩:=bi6 I.hok e;refine wpAny_in_of (ao8 ry) hd dd.mapOf ?_;rw[<-(rel.val k).isSome_eq,<-l];exact h _ (I.tok _)
 · subst ey;cases (show u=Value.ref b from ry);obtain ⟨z,hd,xs,rel,dd⟩:=bi7 I.hok e;refine wpAny_in_heap (tupleKind_room_in1 hu) (ao9 I.hok eb) hd dd ?_;have q:=(rel.val k).isSome_eq;rw[cz5] at q;rw[<-q,<-l];exact h _ (I.tok _)
theorem bz8 {Q:Value->Shared->Prop}(hu:A.units+1 < cLine)(I:j9 X pins σ H s)(g:ad4 H a y o)(ry:y8 y u)(h:∀s',j9 X pins σ H s'->Q (.bool (!o.isSome)) s'):
   wpAny (model X.prog X.w) A (compareOp .NotIn u (.ref a)) Q E s:=by
 rcases g with ⟨kvs,k,e,ey,l⟩|⟨kvs,k,b,e,ey,eb,l⟩
 · subst ey;obtain ⟨z,hd,vs,rel,dd⟩:=bi6 I.hok e;refine wpAny_notIn_of (ao8 ry) hd dd.mapOf ?_;rw[<-(rel.val k).isSome_eq,<-l];exact h _ (I.tok _)
 · subst ey;cases (show u=Value.ref b from ry);obtain ⟨z,hd,xs,rel,dd⟩:=bi7 I.hok e;refine wpAny_notIn_heap (tupleKind_room_in1 hu) (ao9 I.hok eb) hd dd ?_;have q:=(rel.val k).isSome_eq;rw[cz5] at q;rw[<-q,<-l];exact h _ (I.tok _)
theorem bg4 {h':Heap}{t':Nat}{ob:HO}(I:j9 X pins σ H s)(mu:Mut (H a))(hs:Heap.SameBut a s.heap h')(he:∃q,h'.get? a=some q)(new:B1 X.prog X.w (e8 H a ob) h' a ob):
   j9 X pins σ (e8 H a ob) {s with heap:=h',toks:=t'}:=
 I.write (x:=a) (e:=a) mu (.inl rfl) (fun b q hb z=>(hs.2 b hb).trans z) he new
theorem bo3 {P:Program}{w:World}{H':Hp}{h':Heap}{kvs:List (A7×V)}{vs:List (A7×Value)}(z:kvs.length<=sizeLine)(hd:(a==sysModules)=false)(rel:KV kvs vs)(dd:h'.DictOf (C0 P w) a vs):
 B1 P w H' h' a (.dK kvs):=⟨z,hd,vs,rel,dd⟩
theorem bo4 {H':Hp}{Q:Unit->Shared->Prop}(hu:A.units+1 < cLine)(I:j9 X pins σ H s)(g:am1 H a y v H')(ry:y8 y u)(rv:y8 v r)(h:∀s',j9 X pins σ H' s'->Q () s'):
   wpAny (model X.prog X.w) A (setItem (.ref a) u r) Q E s:=by
 rcases g with ⟨kvs,k,e,ey,l,eH⟩|⟨kvs,k,b,e,ey,eb,l,eH⟩
 · subst ey eH;obtain ⟨z,hd,vs,rel,dd⟩:=cj3 I.hok e
   have hz:vs.length<=sizeLine:=by rw[<-rel.length];exact z
   have hl:(S5 kvs k v).length<=sizeLine:=by have:=ak7 kvs k v;omega
   refine wpAny_setItem_pairs (hsz:=hz) (ao8 ry) dd fun h' dd' hs=>h _ ?_
   have he:∃q,h'.get? a=some q:=let ⟨q,_,_,hq,_⟩:=dd';⟨q,hq⟩;exact bg4 I (by rw[e];exact True.intro) hs he (bo3 hl hd (rel.put k rv) dd')
 · subst ey eH;cases (show u=Value.ref b from ry);obtain ⟨z,hd,xs,rel,dd⟩:=cj4 I.hok e
   have hz:xs.length<=sizeLine:=by rw[<-Paired.length rel];exact z
   have hl:(S5 kvs k v).length<=sizeLine:=by have:=ak7 kvs k v;omega
   refine wpAny_setItem_heap (hsz:=hz) (tupleKind_room_in1 hu) (ao9 I.hok eb) dd fun h' dd' hs=>h _ ?_
   obtain ⟨q,es,ep,hq,h2,h3,h4,_,h5⟩:=dd';refine bg4 I (by rw[e];exact True.intro) hs ⟨q,hq⟩ ⟨hl,hd,_,(rel.put k eb rv).keeps fun c ys ec=> ?_,q,es,ep,hq,h2,h3,h4,h5⟩;rw[i6 (bx4 ec e (fun z=>nomatch z))];exact ec
end
def cn2 (ty td:TE):TE:=fun σ H Q=>ty σ H fun y H1=>td σ H1 fun x H2=>∃a o,x= .ref a/\ad4 H2 a y o/\Q (.bl o.isSome) H2
def bz9 (ty td:TE):TE:=fun σ H Q=>ty σ H fun y H1=>td σ H1 fun x H2=>∃a o,x= .ref a/\ad4 H2 a y o/\Q (.bl (!o.isSome)) H2
def cj5 (td ty tv:TE):TS:=fun D σ H=>tv σ H fun v H1=>td σ H1 fun x H2=>ty σ H2 fun y H3=>∃a H4,x= .ref a/\am1 H3 a y v H4/\D.nx σ H4
section
variable {X:Cx} {o i e value:Expr} {pos pos' tpos:Pos} {td ty tv:TE}
theorem bo5 (hu:X.A.units+1 < cLine)(hi:PE X i ty)(ho:PE X o td):PC X .In i o (cn2 ty td):=by
 intro pins s σ H Q I h
 refine y9 (hi pins s σ H _ I h) fun iv s1 ⟨y,H1,I1,ry,q1⟩=>y9 (ho pins s1 σ H1 _ I1 q1) fun u s2 ⟨x,H2,I2,rx,a,ov,ex,g,q2⟩=> ?_
 subst ex;obtain rfl:u=Value.ref a:=rx
 exact cn1 hu I2 g ry fun s3 I3=>⟨.bl ov.isSome,H2,I3,rfl,q2⟩
theorem bo6 (hu:X.A.units+1 < cLine)(hi:PE X i ty)(ho:PE X o td):PC X .NotIn i o (bz9 ty td):=by
 intro pins s σ H Q I h
 refine y9 (hi pins s σ H _ I h) fun iv s1 ⟨y,H1,I1,ry,q1⟩=>y9 (ho pins s1 σ H1 _ I1 q1) fun u s2 ⟨x,H2,I2,rx,a,ov,ex,g,q2⟩=> ?_
 subst ex;obtain rfl:u=Value.ref a:=rx
 exact bz8 hu I2 g ry fun s3 I3=>⟨.bl (!ov.isSome),H2,I3,rfl,q2⟩
theorem ar6 (hu:X.A.units+1 < cLine)(ho:PE X o td)(hi:PE X i ty)(hv:PE X value tv)(hs:swapsWith value (some (.Subscript o i pos')) pos.line X.env=pure false):
   PS X (.Assign [.Subscript o i pos'] value pos) (cj5 td ty tv):=by
 intro pins s σ H D I h;refine wpAny_Assign_Subscript (y9 (hv pins s σ H _ I h) fun r s1 ⟨v,H1,I1,rv,q1⟩=>y9 (ho pins s1 σ H1 _ I1 q1) fun u s2 ⟨x,H2,I2,rx,q2⟩=>y9 (hi pins s2 σ H2 _ I2 q2) fun iv s3 ⟨y,H3,I3,ry,a,H4,ex,g,q3⟩=> ?_) hs;subst ex;obtain rfl:u=Value.ref a:=rx
 exact bo4 hu I3 g ry rv fun s4 I4=>⟨σ,H4,I4,q3⟩
end
theorem bu1 {P:Program}{w:World}{H:Hp}(h:Heap)(hb:sysModules < h.objs.size):B1 P w H (h.push {cls:= .type "dict",data:= .dict #[]}) h.objs.size (.dK []):=
 ⟨cs1 _,beq_eq_false_iff_ne.mpr (Ne.symm (cr9 hb)),[],.nil,Heap.DictOf.new h⟩
def cf5:TE:=fun _ H Q=>∀p,H p=none->Q (.ref p) (e8 H p (.dK []))
section
variable {X:Cx} {pos:Pos}
theorem Y9:PE X (.Dict [] [] pos) cf5:=fun pins s σ H Q I h=>
 wpAny_Dict_empty ⟨.ref s.heap.objs.size,_,I.laid (a:=s.heap.objs.size) (o:= .dK []) (t':=s.toks) (fun _ _ q=>Heap.get?_push_of_some _ q) (cq0 _) (bu1 s.heap I.big),rfl,h _ (I.hok.fresh (cq0 _))⟩
end
end L2
namespace Att
open PySem PySem.W PySem.Calls PyProof.Rows
theorem ap0 {P:Params}{h:Heap}:∀(ns:List Int) (vs:List Value),WellAll P h vs (ns.map WData.int)->IntsAre vs ns:=by
 intro ns
 induction ns with
 |nil=>
  intro vs w;rw[cw0] at w;cases w;exact .nil
 |cons n ns ih=>
  intro vs w;rw[cr0] at w
  cases w with
  |cons a b=>
   cases a;exact .cons _ _ (ih _ b)
theorem bo7 {l:OpenLaw}{n:Nat}(hn:l.most=some n){P:Params}{h:Heap}{args:List WData}{vals:List Value}
   (hpre:l.row.toRowW.claim.pre args=true) (hwl:WellAll P h vals args):
   ∃a vs ns,vals=[Value.ref a]/\args=[WData.list (ns.map WData.int)]/\h.get? a=some {cls:= .type "list",data:= .seq vs.toArray}/\IntsAre vs ns/\ns.length<=n:=by
 have hsh:WShape.hasAll [] args [.list .int]=true:=(pre_splitW hpre).1;have hc:l.pre.holds [] {args:=args}=true:=(pre_splitW hpre).2;obtain ⟨d,r,rfl,h1,h2⟩:=hasAllW_cons hsh;obtain rfl:=hasAllW_nil h2;obtain ⟨xs,rfl,h3⟩:=hasW_list h1;obtain ⟨ns,rfl⟩:=items_int h3
 have hlen:ns.length<=n:=by
   unfold OpenLaw.pre at hc
   have h4:(WTm.not (.lt (.lit (.int (n:Int))) (.len (.arg 0)))).holds [] {args:=[.list (ns.map .int)]}=true:=by
     have h4:=(holds_andW hc).1;rw[hn] at h4;exact h4
   have h5:=condW_of h4 (w_not (w_lt w_lit (w_len_list (w_arg rfl))));rw[co8] at h5
   refine Nat.le_of_not_lt fun q=> ?_
   have q':(n:Int) < ((ns.length:Nat):Int):=by omega
   first
     |(rw[decide_eq_true q'] at h5;exact absurd h5 (by decide))
     |(simp at h5;omega)
 cases hwl with
 |cons w1 w2=>
  cases w2
  cases w1 with
  |list ho hall=>exact ⟨_,_,ns,rfl,rfl,ho,ap0 ns _ hall,hlen⟩
theorem bo8 (l:OpenLaw)(args:List WData):l.row.toRowW.claim.post args (.bool true) args=true:=
 postW_of (r:=l.row.toRowW) (X:=(true==true))
   (show WShape.has [] (.bool true) .bool=true by first|rfl|decide|simp [WShape.has,WShape.arms,WShape.armsAll])
   (show (WTm.eq .res (.lit (.bool true))).value [] {args:=args,res:=some (.bool true),after:=args}=some (.bool (true==true)) from w_eq_bool (w_res rfl) w_lit) rfl
theorem ci3 {l:OpenLaw}{n:Nat}{q:Program}{loose:List Str}{XP:(Str->Option Value)->Heap->Prop}{YP:World->Heap->Prop}{d:DefRec}
   (hn:l.most=some n) (hdf:d.params.defaults=[])
   (call:∀(w:World) (s₀ s₁:Shared) (mg mb:Str->Option Value) (fa:Addr) (o:Obj) (pm cd doc:Value) (a:Addr) (vs:List Value) (ns:List Int),
     Ground q loose [] XP w s₀ mg mb s₁.heap->YP w s₁.heap->
     s₁.heap.get? fa=some o->o.data= .func (docDef d.name d.params d.body d.scope pm cd doc)->s₁.heap.CodeRec cd d.name->mg d.name=some (.ref fa)->
     s₁.heap.get? a=some {cls:= .type "list",data:= .seq vs.toArray}->IntsAre vs ns->ns.length<=n->s₁.gens= #[]->
     codeAny (model l.prog w) callerA (.call (.ref fa) ⟨[.ref a],[]⟩) (fun r s'=>r= .ok (.ret (.bool true))/\OldK s₁.heap s'.heap/\s'.os=s₁.os/\AllBare s'.gens) s₁):
   WalkO q loose XP YP l.row.toRowW d [] (fun f vs=>PySem.call f vs):=by
 intro w s₀ s₁ mg mb G Y fa o pm cd doc dV kV ho hd hcd hD hmg hg args vals as hpre hlay hrd hwl hlo;obtain rfl:dV= .none:=Dflts.none hD hdf;obtain rfl:kV= .none:=Dflts.noKw hD;obtain ⟨a,vs,ns,rfl,rfl,hobj,hints,hlen⟩:=bo7 hn hpre hwl;refine enter_call (codeAny_mono (call w s₀ s₁ mg mb fa o pm cd doc a vs ns G Y ho (fd_plain hd) hcd hmg hobj hints hlen hg) fun r s' hq=> ?_);obtain ⟨rfl,h2,h3,h4⟩:=hq;exact ⟨.inl ⟨.bool true,.bool true,[],rfl,fun _=>rfl,.bool true,bo8 l _,fun _=>⟨List.Pairwise.nil,fun _ hm=>(nomatch hm)⟩⟩,h2,h3,h4⟩
end Att
namespace L2
open PySem PySem.Spec PyProof.Rows
theorem ag5:∀{vs:List Value} {ns:List Int},IntsAre vs ns->o5 (ns.map V.int) vs
 |_,_,.nil=> .nil
 |_,_,.cons n t h=> .cons ⟨t,rfl⟩ (ag5 h)
def bu2 (H:Hp):Prop:=∀b,H b=none\/∃o xs,H b=some (.frz o (.lst xs))
theorem bu3 {P:Program}{w:World}{K:PySem.W.Frag}{mg mb:Str->Option Value}{CX:X0}{k:Nat}{fa a:Addr}{fd:FuncData}{x:Str}{sp:Sp}{s₁:Shared}{vs:List Value}{ns:List Int}
   (KX:K.In s₁.heap) (hns:s₁.heap.Ns mainGlobals mg) (hb:s₁.heap.Ns builtinsNs mb) (hbb:∀x:Str,x≠"__name__"->mb x=bootBuiltins x) (hlim:s₁.heap.NoLimit) (hg:s₁.gens= #[])
   (ha:s₁.heap.get? a=some {cls:= .type "list",data:= .seq vs.toArray}) (hi:IntsAre vs ns) (hl:ns.length<=sizeLine) (hr:A1 k callerA)
   (F:∀base:Heap,K.In base->base.Ns mainGlobals mg->q9 P w K mg base CX k fa fd [x] sp) (hbind:∀(s:Shared) (u:Value),BindsTo s fd ⟨[u],[]⟩ [(x,u)])
   (hsp:∀H:Hp,bu2 H->i8 K H a (ns.map V.int)->sp [.ref a] H (fun v _=>v= .bl true) fun _ _ _=>False)
   (hCX:∀H e s',CX [] H s₁ (fun _ _ _=>False) e s'->False):
   codeAny (model P w) callerA (.call (.ref fa) ⟨[.ref a],[]⟩) (fun r s'=>r= .ok (.ret (.bool true))/\OldK s₁.heap s'.heap/\s'.os=s₁.os/\AllBare s'.gens) s₁:=by
 have rv:=ag5 hi;have lenV:=hi.length
 have core:∀H:Hp,bu2 H->i8 K H a (ns.map V.int)->D0 P w H s₁.heap->(∀b,H b≠none->b=a)->(H a≠none->K.lookup a=none)->
     codeAny (model P w) callerA (.call (.ref fa) ⟨[.ref a],[]⟩) (fun r s'=>r= .ok (.ret (.bool true))/\OldK s₁.heap s'.heap/\s'.os=s₁.os/\AllBare s'.gens) s₁:=by
   intro H hO hS hok hA hK
   have base_of:∀{b:Addr} {o:Obj},s₁.heap.get? b=some o->H b=none->(ac9 s₁.heap H).get? b=some o:=fun e n=>bt0 e n
   have noA:∀{b:Addr} {o:Obj} {es:Array DictEntry} {ep:Nat},s₁.heap.get? b=some o->o.data= .dict es ep->H b=none:=fun {b o es ep} e d=>by
     cases q:H b with
     |none=>rfl
     |some u=>
      have e':b=a:=hA b (by rw[q];simp);subst e';rw[ha] at e;cases e;have d':Data.seq vs.toArray _=Data.dict es ep:=d;cases d'
   have nsK:∀{b:Addr} {m:Str->Option Value},s₁.heap.Ns b m->(ac9 s₁.heap H).Ns b m:=fun {b m} ⟨o,es,ep,e,d,r⟩=>⟨o,es,ep,base_of e (noA e d),d,r⟩
   have hKb:K.In (ac9 s₁.heap H):=fun b o e=>base_of (KX b o e) (by
     cases q:H b with
     |none=>rfl
     |some u=>
      have e':b=a:=hA b (by rw[q];simp);subst e'
      rw[hK (by rw[q];simp)] at e;cases e)
   have hM:Mod K mg (ac9 s₁.heap H):=⟨hKb,nsK hns,⟨mb,nsK hb,hbb⟩,let ⟨mc,h1,h2⟩:=hlim;⟨mc,nsK h1,h2⟩⟩;have e0:bi4 P w K mg (ac9 s₁.heap H) callerA [] s₁ H:=⟨rfl,hM,fun b o e=>bz0 e,Nat.le_of_eq (bm0 _ _),trivial,fun b hb=>absurd (show b∈([]:List Addr) from hb) (by simp),hok,.of_eq hg⟩
   refine codeAny_mono ((F _ hKb (nsK hns)).run callerA [] s₁ H ⟨[.ref a],[]⟩ [.ref a] [.ref a] _ _ hr e0 (hbind s₁ (.ref a)) (.cons rfl .nil) (hsp H hO hS)) fun r s' h=> ?_
   cases r with
   |error e=>exact (hCX H e s' h).elim
   |ok fl=>
    cases fl with
    |next=>exact False.elim h
    |brk=>exact False.elim h
    |cont=>exact False.elim h
    |ret u=>
     obtain ⟨v,H',os,bare,un,hok',r',q⟩:=h;have q':v= .bl true:=q;subst q';obtain rfl:u=Value.bool true:=r';refine ⟨rfl,OldK.of_keep fun b o e=> ?_,os,bare⟩
     cases q:H b with
     |none=>exact un.keep b o e q (by intro z;exact absurd (show b∈([]:List Addr) from z) (by simp)) (by simp)
     |some u=>
      rcases hO b with z|⟨ob,xs,z⟩
      · rw[q] at z;cases z
      · have z2:=un.frzs b ob _ z;obtain ⟨e1,_⟩:=hok b _ z;obtain ⟨e2,_⟩:=hok' b _ z2;rw[e] at e1;cases e1;exact e2
 cases hk:K.lookup a with
 |some o=>
  have e:=KX a o hk;rw[ha] at e;cases e
  refine core (fun _=>none) (fun _=> .inl rfl) (.inr ⟨_,vs.toArray,_,hk,rfl,rfl,rfl,by rw[cp2,lenV];exact hl,by simpa using rv⟩) (fun b u z=>by have z':(none:Option HO)=some u:=z;cases z') (fun b z=>absurd rfl z) fun z=>absurd rfl z
 |none=>
  refine core (fun b=>if b=a then some (.frz {cls:= .type "list",data:= .seq vs.toArray} (.lst (ns.map V.int))) else none) (fun b=> ?_) (.inl (.inr ⟨{cls:= .type "list",data:= .seq vs.toArray},if_pos rfl⟩)) (fun b u z=> ?_) (fun b z=> ?_) fun _=>hk
  · by_cases hb:b=a
    · exact .inr ⟨_,_,if_pos hb⟩
    · exact .inl (if_neg hb)
  · by_cases hb:b=a
    · have z':=(if_pos hb).symm.trans z;cases z';subst hb;exact ⟨ha,by rw[co8];exact hl,vs,_,rv,ha⟩
    · have z':=(if_neg hb).symm.trans z;cases z'
  · by_cases hb:b=a
    · exact hb
    · exact absurd (if_neg hb) z
end L2
namespace L2
open PySem PySem.Spec PyProof.Rows
theorem cn5 {l:PySem.W.OpenLaw}{n k:Nat}{q:Program}{loose:List Str}{XP:(Str->Option Value)->Heap->Prop}{YP:World->Heap->Prop}{d:DefRec}{K:Params->PySem.W.Frag}{CX:World->X0}{sp:World->Sp}{x:Str}
   (hn:l.most=some n) (hn2:n<=sizeLine) (hdf:d.params.defaults=[]) (hr:A1 k callerA)
   (hY:∀(w:World) (h:Heap),YP w h->(K w.params).In h)
   (F:∀(w:World) (mg:Str->Option Value) (fa:Addr) (h:Heap),(K w.params).In h->h.Ns mainGlobals mg->mg d.name=some (.ref fa)->
     ∃fd:FuncData,(∀(s:Shared) (u:Value),BindsTo s fd ⟨[u],[]⟩ [(x,u)])/\
      ∀base:Heap,(K w.params).In base->base.Ns mainGlobals mg->q9 l.prog w (K w.params) mg base (CX w) k fa fd [x] (sp w))
   (hsp:∀(w:World) (H:Hp) (a:Addr) (ns:List Int),ns.length<=n->bu2 H->i8 (K w.params) H a (ns.map V.int)->sp w [.ref a] H (fun v _=>v= .bl true) fun _ _ _=>False)
   (hCX:∀(w:World) (H:Hp) (s:Shared) (e:Value) (s':Shared),CX w [] H s (fun _ _ _=>False) e s'->False):
   PySem.W.WalkO q loose XP YP l.row.toRowW d [] (fun f vs=>PySem.call f vs):=by
 refine Att.ci3 hn hdf fun w s₀ s₁ mg mb fa o pm cd doc a vs ns G Y ho hd hcd hmg hobj hints hlen hg=> ?_
 have KX:=hY w _ Y;obtain ⟨fd,hb,hF⟩:=F w mg fa _ KX G.T.g hmg
 exact bu3 KX G.T.g G.T.b G.T.builtins G.T.nolimit hg hobj hints (cq3 hlen hn2) hr hF hb (fun H hO hS=>hsp w H a ns hlen hO hS) fun H e s'=>hCX w H s₁ e s'
end L2
namespace L2
open PySem PySem.Spec PyProof.Rows
def Y0 (s:Stmt):Arguments:=match s with
 | .FunctionDef _ a _ _ _ _ _ _ _ _=>a
 |_=>{posonlyargs:=[],args:=[],vararg:=none,kwonlyargs:=[],kw_defaults:=[],kwarg:=none,defaults:=[]}
def R3 (s:Stmt):List Stmt:=match s with
 | .FunctionDef _ _ b _ _ _ _ _ _ _=>b
 |_=>[]
def m6 (s:Stmt):Scope:=match s with
 | .FunctionDef _ _ _ _ _ _ sc _ _ _=>sc
 |_=>{kind:= .function,names:=[],isGenerator:=false,isCoroutine:=false}
abbrev C3:X0:=fun _ _ _ _ _ _=>False
abbrev E0:XK:=fun _ _ _=>False
theorem cj6 {X:Cx}:ag4 C3 X E0:=fun _ _ _ _ _ _ _ h=>h.elim
structure B6 (K:PySem.W.Frag)(x qual:Str)(st:Stmt)(f:Addr)(fd:FuncData):Prop where
 ex:∃(oc:Value) (od:Option Addr) (kV doc pm:Value) (an:Option Addr) (cdv ct:Value) (osl:Array (Option Value)),
   fd=PySem.W.fnOf x qual (Y0 st) (R3 st) (m6 st) .none kV doc pm an cdv ct/\K.lookup f=some ⟨oc,od,.func fd,osl⟩/\PySem.W.codeIn K cdv qual=true
 kp:PySem.W.keepIn K (.ref f)=true
section
variable {P:Program} {w:World} {K:PySem.W.Frag} {mg:Str->Option Value} {base:Heap}
theorem B6.ok {x qual:Str}{st:Stmt}{f:Addr}{fd:FuncData}{N ps:List Str}{k:Nat}{sp:Sp}(F:B6 K x qual st f fd)(S:r6 N ps (m6 st))(len:∀vs H Q E,sp vs H Q E->vs.length=ps.length)
   (hbody:∀(cdv:Value) (A:Around) (outer:List Env) (s:Shared) (H:Hp) (vs:List V) (Q:VK) (E:XK),A1 k (A.deeper (envOfC qual (m6 st) s.heap.objs.size f cdv))->sp vs H Q E->
     ∃t,W9 (ab2 C3 P w K mg base N qual (m6 st) f cdv A outer s H E).nox (R3 st) t/\t {nx:=fun _ H'=>Q .non H',rt:=Q} (X5 N vs) H):q9 P w K mg base C3 (k+1) f fd ps sp:=by
 obtain ⟨oc,od,kV,doc,pm,an,cdv,ct,osl,rfl,lk,hcd⟩:=F.ex
 refine by1 lk hcd S len fun A outer s H vs Q E hr hsp=> ?_
 obtain ⟨t,h,q⟩:=hbody cdv A outer s H vs Q E hr hsp;exact ⟨t,h.nox,q⟩
theorem B6.binds {x qual:Str}{st:Stmt}{f:Addr}{fd:FuncData}{ps:List Str}(F:B6 K x qual st f fd)
   (h:∀(kV doc pm:Value) (an:Option Addr) (cdv ct:Value) (us:List Value),us.length=ps.length->bindArgs (PySem.W.fnOf x qual (Y0 st) (R3 st) (m6 st) .none kV doc pm an cdv ct) ⟨us,[]⟩=pure (ps.zip us)):X4 K fd ps []:=by
 obtain ⟨oc,od,kV,doc,pm,an,cdv,ct,osl,rfl,lk,hcd⟩:=F.ex;exact .all (h kV doc pm an cdv ct)
theorem cf6 {x qual:Str}{st:Stmt}{f:Addr}{oc:Value}{od an:Option Addr}{osl:Array (Option Value)}{kV doc pm cdv ct:Value}(l:K.lookup f=some ⟨oc,od,.func (PySem.W.fnOf x qual (Y0 st) (R3 st) (m6 st) .none kV doc pm an cdv ct),osl⟩)
 (c:PySem.W.codeIn K cdv qual=true) (k:PySem.W.keepIn K (.ref f)=true):B6 K x qual st f (PySem.W.fnOf x qual (Y0 st) (R3 st) (m6 st) .none kV doc pm an cdv ct):=⟨⟨oc,od,kV,doc,pm,an,cdv,ct,osl,rfl,l,c⟩,k⟩
end
theorem S6 {A:Around}{k:Nat}(hr:A1 k A):A.units+1 < cLine:=cu2 (cv3 (by decide:1<=64) _) hr.units
theorem m4 {n:Nat}(h:n<=1000):n < sizeLine:=cu2 h (by decide)
section
variable {X:Cx}
theorem pv (i:Nat){x:Str}{pos:Pos}(hN:X.N[i]? =some x:=by rfl)(hv:Vis X.env.scope x:=by first|exact Or.inl rfl|exact Or.inr (Or.inl rfl)|exact Or.inr (Or.inr rfl))(hd:(x==("__debug__":Str))=false:=by decide)
 (hcd:(x==("__classdict__":Str))=false:=by decide):PE X (.Name x pos) (bt1 i):=ce2 hN hv hd hcd
end
theorem A5 {A B:Prop}(h:B):if false=true then A else B:=by
 rw[if_neg cq1];exact h
theorem B3 {A B:Prop}(h:A):if true=true then A else B:=by
 rw[if_pos rfl];exact h
theorem G0 {c A B:Prop}[Decidable c](h1:c->A)(h2:¬c->B):if c then A else B:=by
 by_cases h:c
 · rw[if_pos h];exact h1 h
 · rw[if_neg h];exact h2 h
theorem ad5 {c A B:Prop}[Decidable c](hc:c)(h:B):if (!decide c)=true then A else B:=by
 rw[decide_eq_true hc];exact A5 h
def c9 (H H':Hp):Prop:=∀b o,H b=some o->H' b=some o
theorem c9.refl (H:Hp):c9 H H:=fun _ _ h=>h
theorem c9.trans {H H1 H2:Hp}(a:c9 H H1)(b:c9 H1 H2):c9 H H2:=fun c o h=>b c o (a c o h)
theorem c9.free {H H':Hp}(e:c9 H H'){l:Addr}(h:H' l=Option.none):H l=Option.none:=by
 cases q:H l with
 |none=>rfl
 |some o=>
  rw[e l o q] at h;cases h
theorem c9.seq {K:PySem.W.Frag}{H H':Hp}{a:Addr}{xs:List V}(e:c9 H H')(h:i8 K H a xs):i8 K H' a xs:=by
 rcases h with (h|⟨o,h⟩)|h
 · exact .inl (.inl (e _ _ h))
 · exact .inl (.inr ⟨o,e _ _ h⟩)
 · exact .inr h
section
variable {κ:Type} [DecidableEq κ]
theorem R4:∀{l:List κ} {k:κ},l.Nodup->¬k∈l->(l++[k]).Nodup
 |[],k,_,_=>by simp
 |a::r,k,h,hk=>by
  obtain ⟨h1,h2⟩:=cs5.mp h;show (a::(r++[k])).Nodup;refine cs5.mpr ⟨fun m=> ?_,R4 h2 fun m=>hk (cq5.mpr (Or.inr m))⟩
  rcases cp4.mp m with q|q
  · exact h1 q
  · exact hk (cq5.mpr (Or.inl (cq7.mp q).symm))
end
end L2
namespace L2
open PySem PySem.Spec PyProof.Rows
def O5 (X:Cx)(N:List Str)(scope:Scope)(cl:List (Str×Addr))(C:Addr)(s0:Shared)(H0:Hp)(ex:List Addr):Cx:=
 {X with N:=N,s₀:=s0,H₀:=H0,env:=compEnvC scope cl C X.env,outer:=X.stack,stack:=X.stack,ex:=ex,fn:=fun _=>false,pn:=[],xe:=fun _ _=>False}
def ap1 (nl:Nat)(fr:List Nat)(σ:St):St:=cr6 nl none++fr.map fun j=>(σ[j]?).join
def B9 (env:Env):List (Str×NameKind)->List (Str×Addr)->List (Str×Addr)
 |[],cs=>cs
 |(n,k)::r,cs=>B9 env r (if (k==NameKind.free)=true then (n,(env.cells.lookup n).getD 0)::cs else cs)
theorem ap2 (env:Env):∀(ns:List (Str×NameKind)) (cs:List (Str×Addr)),(∀p∈ns,p.2= .free->∃c,env.cells.lookup p.1=some c)->(∀y c,cs.lookup y=some c->env.cells.lookup y=some c)->
   ∀y c,(B9 env ns cs).lookup y=some c->env.cells.lookup y=some c
 |[],cs,_,h,y,c,e=>h y c e
 |(n,k)::r,cs,hn,h,y,c,e=>by
  unfold B9 at e;refine ap2 env r _ (fun p hp=>hn p (cp6 _ hp)) ?_ y c e;intro z d ez
  split at ez
  · rename_i hk;rw[ct1] at ez
    cases hz:z==n with
    |true=>
     rw[hz] at ez;have hzn:z=n:=eq_of_beq hz;subst hzn
     have hkf:k= .free:=by simpa using hk
     obtain ⟨c',hc'⟩:=hn (z,k) cp7 hkf;have hc':env.cells.lookup z=some c':=hc';rw[hc'] at ez;rw[hc']
     simpa using ez
    |false=>
     rw[hz] at ez;exact h z d ez
  · exact h z d ez
theorem ak8 (env:Env):∀(ns:List (Str×NameKind)) (cs:List (Str×Addr)) (y:Str),(∃c,cs.lookup y=some c)->∃c,(B9 env ns cs).lookup y=some c
 |[],cs,y,h=>h
 |(n,k)::r,cs,y,⟨c,h⟩=>by
  unfold B9;refine ak8 env r _ y ?_
  split
  · rw[ct1]
    cases hz:y==n with
    |true=>exact ⟨_,rfl⟩
    |false=>exact ⟨c,h⟩
  · exact ⟨c,h⟩
theorem ad6 (env:Env):∀(ns:List (Str×NameKind)) (cs:List (Str×Addr)) (p:Str×NameKind),p∈ns->p.2= .free->∃c,(B9 env ns cs).lookup p.1=some c
 |[],cs,p,hp,_=>by simp at hp
 |(n,k)::r,cs,p,hp,hk=>by
  unfold B9
  rcases cq5.mp hp with e|hp
  · subst e;have hk:k= .free:=hk;subst hk;refine ak8 env r _ n ?_;rw[if_pos (by rfl),ct1];exact ⟨(List.lookup n env.cells).getD 0,by simp⟩
  · exact ad6 env r _ p hp hk
theorem ag6 (env:Env):∀(ns:List (Str×NameKind)) (cs:List (Str×Addr)),(∀p∈ns,p.2= .free->∃c,env.cells.lookup p.1=some c)->
   (forIn ns cs (fun (x:Str×NameKind) (r:List (Str×Addr))=>if (x.2==NameKind.free)=true then (do let a <-cellOf env x.1;pure (ForInStep.yield ((x.1,a)::r))) else pure (ForInStep.yield r)):Sem (List (Str×Addr)))=pure (B9 env ns cs)
 |[],cs,_=>rfl
 |(n,k)::r,cs,hn=>by
  have ih:=fun cs'=>ag6 env r cs' fun p hp=>hn p (cp6 _ hp)
  rw[List.forIn_cons];unfold B9
  by_cases hk:(k==NameKind.free)=true
  · obtain ⟨c,hc⟩:=hn (n,k) cp7 (by simpa using hk);have hc:env.cells.lookup n=some c:=hc;rw[if_pos hk,if_pos hk]
    have e1:cellOf env n=pure c:=by unfold cellOf;rw[hc]
    rw[e1,hc];exact ih _
  · rw[if_neg hk,if_neg hk];exact ih _
theorem af5 {scope:Scope}{env:Env}(h:∀p∈scope.names,p.2= .free->∃c,env.cells.lookup p.1=some c):closureFor scope env=pure (B9 env scope.names []):=by
 have e:=ag6 env scope.names [] h;unfold closureFor;show (forIn scope.names [] _ >>=_)=_;have e2:(forIn scope.names ([]:List (Str×Addr)) (fun (x:Str×NameKind) (r:List (Str×Addr))=>match x with|(name,kind)=>(if (kind==NameKind.free)=true then (do let a <-cellOf env name;pure PUnit.unit;pure (ForInStep.yield ((name,a)::r))) else (do pure PUnit.unit;pure (ForInStep.yield r)))):Sem (List (Str×Addr)))=pure (B9 env scope.names []):=e
 first
   |exact (congrArg (fun z=>z >>=fun cs=>pure cs) e2)
   |(rw[show (forIn scope.names ([]:List (Str×Addr)) _:Sem (List (Str×Addr)))=pure (B9 env scope.names []) from e];rfl)
section
variable {X:Cx}
def az2 (X:Cx)(ifs:List Expr)(t:TT):Prop:=
 ∀(pins:List (Addr×Obj)) (s:Shared) (σ:St) (H:Hp) (Q:Bool->Hp->Prop),j9 X pins σ H s->t σ H Q->
  wpAny (model X.prog X.w) X.A (forIn ifs true fun c r=>if r=true then do let ok <-isTrue c X.env (eval c X.env);pure (ForInStep.yield ok) else pure (ForInStep.yield r)) (TP X pins σ Q) X.xe s
def cf7:TT:=fun _ H Q=>Q true H
theorem C7:az2 X [] cf7:=fun pins s σ H Q I h=>by
 rw[List.forIn_nil];exact wpAny_pure ⟨H,I,h⟩
theorem am2 {c:Expr}{t:TT}(h:PT X c t):az2 X [c] t:=by
 intro pins s σ H Q I hw;rw[List.forIn_cons,if_pos rfl];refine wpAny_bind (wpAny_bind (y9 (h pins s σ H Q I hw) fun b s1 q=>wpAny_pure ?_));show wpAny _ _ (forIn [] b _) _ _ s1;rw[List.forIn_nil];exact wpAny_pure q
theorem az3 {prog:Program}{w:World}{A:Around}{R:Result->Shared->Prop}{s:Shared}{elt target iter:Expr}{ifs:List Expr}{scope:Scope}{pos:Pos}{it acc:Value}{env:Env}(I:Nat->Shared->Prop)
   (turn:∀n s,I n s->wpAny (model prog w) A (pyNext it) (fun r s1=>match r with
     |none=>R (.ok .next) s1
     |some v=>wpAny (model prog w) A (letOwnedTupleGo target it v) (fun _ s2=>wpAny (model prog w) A (assign target env v) (fun _ s3=>
         wpAny (model prog w) A (forIn ifs true fun c r=>if r=true then do let ok <-isTrue c env (eval c env);pure (ForInStep.yield ok) else pure (ForInStep.yield r)) (fun ok s4=>
           if ok=true then wpAny (model prog w) A (eval elt env) (fun x s5=>
             wpAny (model prog w) A (call (.builtin "list.append") [acc,x]) (fun _ s6=>∃m,m < n/\I m s6) (fun _ _=>False) s5) (fun _ _=>False) s4
           else ∃m,m < n/\I m s4) (fun _ _=>False) s3) (fun _ _=>False) s2) (fun _ _=>False) s1) (fun _ _=>False) s)
   (n:Nat) (h:I n s):
   codeAny (model prog w) A (.compLoop (.ListComp elt [⟨target,iter,ifs,0⟩] scope pos) 0 it acc env) R s:=by
 refine codeAny_loop rfl I (fun n s hI=> ?_) n h;show wpAny _ A ((compTurn (.ListComp elt [⟨target,iter,ifs,0⟩] scope pos) 0 it acc env).onRaise (fun x=>do noteFrame x env;theTreesLotGoes x)) _ _ s;refine wpAny_noted ?_;rw[compTurn_list];refine wpAny_bind (wpAny_standAt (wpAny_bind (wpAny_mono (turn n s hI) (fun r s1 h1=> ?_) fun _ _ f=>f.elim)))
 cases r with
 |none=>exact wpAny_pure h1
 |some v=>
  refine wpAny_bind (wpAny_mono h1 (fun _ s2 h2=> ?_) fun _ _ f=>f.elim);refine wpAny_bind (wpAny_mono h2 (fun _ s3 h3=>wpAny_bind (wpAny_mono h3 (fun ok s4 h4=> ?_) fun _ _ f=>f.elim)) fun _ _ f=>f.elim)
  cases ok with
  |false=>exact wpAny_pure ⟨rfl,h4⟩
  |true=>
   exact wpAny_bind (wpAny_bind (wpAny_mono h4 (fun x s5 h5=>wpAny_bind (wpAny_mono h5 (fun _ s6 h6=>wpAny_pure (wpAny_pure ⟨rfl,h6⟩)) fun _ _ f=>f.elim)) fun _ _ f=>f.elim))
def ax3 (J:It)(g:TG)(tc:TT)(te:TE)(Q:VK)(σ0:St)(H0:Hp):Prop:=∃W:Nat->Nat->List V->St->Hp->Prop,(∃m,W 0 m [] σ0 H0)/\∀i m ys σ' H',W i m ys σ' H'->
 (J.stop i H'/\∀D,H' D=none->Q (.ref D) (e8 H' D (.lst ys)))\/
 (J.go i H'/\∃N:List V->St->Hp->Prop,(∀ys' σ2 H2,N ys' σ2 H2->∃m',m' < m/\W (i+1) m' ys' σ2 H2)/\∀x H2,J.yld i H' x H2->g x σ' H2 fun σ2 H3=>tc σ2 H3 fun b H4=>
   if b=true then te σ2 H4 fun y H5=>ys.length < sizeLine/\N (ys++[y]) σ2 H5 else N ys σ2 H4)
def bi8 (nl:Nat)(fr:List Nat)(wi:TI)(g:TG)(tc:TT)(te:TE):TE:=fun σ H Q=>wi σ H fun J H1=>ax3 J g tc te Q (ap1 nl fr σ) H1
structure ag7 (X:Cx)(N:List Str)(nl:Nat)(fr:List Nat)(scope:Scope):Prop where
 cell:∀y∈scope.names,y.2≠.cell
 kind:scope.kind= .function
 names:∀y∈scope.names,y.2= .local->scope.names.lookup y.1=some .local
 free:∀p∈scope.names,p.2= .free->X.env.kindOf p.1=some .cell\/X.env.kindOf p.1=some .free
 len:N.length=nl+fr.length
 fr:∀(k j:Nat),fr[k]? =some j->∃y,N[nl+k]? =some y/\X.N[j]? =some y/\Vis X.env.scope y/\scope.names.lookup y=some .free
theorem T8 {env:Env}:∀{names:List (Str×NameKind)} {x:Str} {k:NameKind},(names.map fun (n,k)=>if (k==NameKind.free&&env.scope.kind== .function&&env.kindOf n==some .cell) then (n,NameKind.cell) else (n,k)).lookup x=some k->
   k= .cell\/k= .free->(∀y∈names,y.2≠.cell)->∃p∈names,p.1=x/\p.2= .free
 |[],_,_,h,_,_=>by simp at h
 |(n,kn)::r,x,k,h,hk,hc=>by
  have ih:=@T8 env r x k;rw[cr0] at h;have hcn:kn≠.cell:=hc (n,kn) cp7
  have hr:∀y∈r,y.2≠.cell:=fun y hy=>hc y (cp6 _ hy)
  cases hx:x==n with
  |true=>
   have hxn:x=n:=eq_of_beq hx
   by_cases hcc:(kn==NameKind.free&&env.scope.kind== .function&&env.kindOf n==some .cell)=true
   · refine ⟨(n,kn),cp7,hxn.symm,?_⟩;simp only[cs9] at hcc
     simpa using hcc.1.1
   · dsimp only at h
     rw[if_neg hcc,ct1,hx] at h;have hkk:kn=k:=Option.some.inj h;subst hkk
     rcases hk with z|z
     · exact absurd z hcn
     · exact ⟨(n,kn),cp7,hxn.symm,z⟩
  |false=>
   by_cases hcc:(kn==NameKind.free&&env.scope.kind== .function&&env.kindOf n==some .cell)=true
   · dsimp only at h
     rw[if_pos hcc,ct1,hx] at h;obtain ⟨p,hp,q⟩:=ih h hk hr;exact ⟨p,cp6 _ hp,q⟩
   · dsimp only at h
     rw[if_neg hcc,ct1,hx] at h;obtain ⟨p,hp,q⟩:=ih h hk hr;exact ⟨p,cp6 _ hp,q⟩
theorem T6 {env:Env}:∀{names:List (Str×NameKind)} {x:Str},names.lookup x=some .free->
   (names.map fun (n,k)=>if (k==NameKind.free&&env.scope.kind== .function&&env.kindOf n==some .cell) then (n,NameKind.cell) else (n,k)).lookup x=some .cell\/
   (names.map fun (n,k)=>if (k==NameKind.free&&env.scope.kind== .function&&env.kindOf n==some .cell) then (n,NameKind.cell) else (n,k)).lookup x=some .free
 |[],_,h=>by simp at h
 |(n,kn)::r,x,h=>by
  have ih:=@T6 env r x;rw[cr0]
  dsimp only
  cases hx:x==n with
  |true=>
   rw[ct1,hx] at h;have hkn:kn= .free:=Option.some.inj h
   by_cases hcc:(kn==NameKind.free&&env.scope.kind== .function&&env.kindOf n==some .cell)=true
   · rw[if_pos hcc,ct1,hx];exact .inl rfl
   · rw[if_neg hcc,ct1,hx];exact .inr (congrArg some hkn)
  |false=>
   rw[ct1,hx] at h
   by_cases hcc:(kn==NameKind.free&&env.scope.kind== .function&&env.kindOf n==some .cell)=true
   · rw[if_pos hcc,ct1,hx];exact ih h
   · rw[if_neg hcc,ct1,hx];exact ih h
theorem D0.track {P:Program}{w:World}{H:Hp}{h:Heap}{a:Addr}{o:HO}(x:D0 P w H h)(hn:H a=none)(new:B1 P w (e8 H a o) h a o):D0 P w (e8 H a o) h:=fun b u e=>by
 by_cases hb:b=a
 · subst hb;rw[c8] at e;cases e;exact new
 · rw[i6 hb] at e
   exact (x b u e).stay (fun c v _ q=>q) (fun c q=>by rw[i6 (i9 q hn)];exact q) fun c xs q=>by rw[i6 (i9 q hn)];exact q
theorem au6 {elt tg iter:Expr}{ifs:List Expr}{scope:Scope}{pos:Pos}{wi:TI}{g:TG}{tc:TT}{te:TE}{N:List Str}{nl:Nat}{fr:List Nat}
   (hc:X.calm=true) (hi:PI X tg iter wi) (hg:∀cl C s0 H0 ex,PG (O5 X N scope cl C s0 H0 ex) tg g) (ht:∀cl C s0 H0 ex,az2 (O5 X N scope cl C s0 H0 ex) ifs tc)
   (he:∀cl C s0 H0 ex,PE (O5 X N scope cl C s0 H0 ex) elt te) (ok:ag7 X N nl fr scope)
   {RR:Value->Addr->Result->Shared->Prop} {pins:List (Addr×Obj)} {s:Shared} {σ:St} {H:Hp} {Q:VK} (I:j9 X pins σ H s) (h:bi8 nl fr wi g tc te σ H Q)
   (hRR:∀D C s' H',j9 X pins σ H' s'->Q (.ref D) H'->ag3 X pins H' C->(∃m,s'.heap.Ns C m)->RR (.ref D) C (.ok .next) s'):
   wpAny (model X.prog X.w) X.A (eval iter X.env) (fun x s1=>wpAny (model X.prog X.w) X.A (pyIter x) (fun it s2=>wpAny (model X.prog X.w) X.A (newList []) (fun acc s3=>
     wpAny (model X.prog X.w) X.A (newFunctionEnv scope X.env.globals (B9 X.env scope.names []) [] X.env.qual none .none (some X.env)) (fun cenv s4=>
       codeAny (model X.prog X.w) X.A (.compStart (.ListComp elt [⟨tg,iter,ifs,0⟩] scope pos) 0 it acc {cenv with scope:=relabel scope X.env}) (RR acc cenv.locals) s4) X.xe s3) X.xe s2) X.xe s1) X.xe s:=by
 refine y9 (hi pins s σ H _ I h) fun v s1 h1=>y9 h1 fun itv s2 h2=> ?_
 obtain ⟨it,fp,tn,J,H2,rfl,I2,T,st2,f2,W,⟨m0,w0⟩,turn⟩:=h2;refine wpAny_newObj_type (wpAny_newFunctionEnv ok.cell (by intro y hy;simp at hy) (fun h1 hns1 hsb1=> ?_) ok.kind)
 dsimp only at hns1 hsb1 ⊢
 generalize hHH:s2.heap.push {cls:= .type "list",dict:=none,data:= .seq ([]:List Value).toArray}=HH at hns1 hsb1 ⊢
 have hC:HH.objs.size=s2.heap.objs.size+1:=by rw[<-hHH,Heap.size_push]
 have hDC:s2.heap.objs.size≠HH.objs.size:=by rw[hC];exact cr9 (Nat.lt_succ_self _)
 have hCle:s2.heap.objs.size<=HH.objs.size:=by rw[hC];exact db1 _
 have below:∀b,b < s2.heap.objs.size->b≠HH.objs.size/\b≠s2.heap.objs.size:=fun b hb=>⟨by rw[hC];exact cr9 (cz6 hb),cr9 hb⟩
 have old:∀b o,s2.heap.get? b=some o->h1.get? b=some o:=fun b o e=>hsb1.extBut b o (below b (Heap.lt_size e)).1 (Heap.get?_push_of_some _ (hHH▸Heap.get?_push_of_some _ e))
 have hacc:h1.get? s2.heap.objs.size=some {cls:= .type "list",data:= .seq ([]:List Value).toArray}:=hsb1.extBut _ _ hDC (Heap.get?_push_of_some _ (hHH▸Heap.get?_push_size _ rfl))
 have fplt:∀b∈fp,b < s2.heap.objs.size:=fun b hb=>by obtain ⟨o,e,_⟩:=T.obj 0 _ st2 b hb;exact Heap.lt_size e
 generalize hXd:O5 X N scope (B9 X.env scope.names []) HH.objs.size s2 H2 fp=X'
 have hfreeC:∀p∈scope.names,p.2= .free->∃c,X.env.cells.lookup p.1=some c:=fun p hp hf=>I.ok.has p.1 (ok.free p hp hf)
 have cellsSub:∀y c,(B9 X.env scope.names []).lookup y=some c->X.env.cells.lookup y=some c:=ap2 X.env scope.names [] hfreeC (fun y c e=>by simp at e)
 have cellLt:∀y c,X.env.cells.lookup y=some c->c < s2.heap.objs.size:=fun y c e=>by obtain ⟨v,z⟩:=I2.cell y c e;exact z.lt
 have ok':X'.Ok:=by
   rw[<-hXd]
   refine ⟨I.ok.mod,?_,I.ok.glob,I.ok.blt,hCle,fun x y c e1 e2=>I.ok.inj x y c (cellsSub x c e1) (cellsSub y c e2),fun x hx=> ?_,fun x c hf=>(by cases hf),I.ok.hd,I.ok.frames,.inl rfl,
     fun b hb=>⟨(below b (fplt b hb)).1,fun x c e=>(f2 b hb).2.2.2.2.1 x c (cellsSub x c e)⟩,I2.bs,cq3 I.ok.bsz I2.sz,fun b o e hb=> ?_,fun b hb hfs=> ?_,I2.stack,I2.stkFree⟩
   · show (relabel scope X.env).kind= .function;exact ok.kind
   · have hx':∃p∈scope.names,p.1=x/\p.2= .free:=by
       rcases hx with z|z
       · exact T8 z (.inl rfl) ok.cell
       · exact T8 z (.inr rfl) ok.cell
     obtain ⟨p,hp,rfl,hpf⟩:=hx';exact ad6 X.env scope.names [] p hp hpf
   · rcases (f2 b hb).2.2.2.1 with z|z
     · exact I.ok.noex b o e z
     · exact absurd (cr2 (Heap.lt_size e) (cq3 I.ok.bsz z)) (cv0 _)
   · rcases cq5.mp (I2.stkSub b hfs) with z|z
     · exact (f2 b hb).2.1 z
     · exact (f2 b hb).2.2.1 z
 have hX'd:X'.env.locals=HH.objs.size:=by rw[<-hXd];rfl
 have hX'c:X'.env.cells=B9 X.env scope.names []:=by rw[<-hXd];rfl
 have hX'pn:X'.pn=[]:=by rw[<-hXd];rfl
 have hX'ex:X'.ex=fp:=by rw[<-hXd];rfl
 have hX's0:X'.s₀=s2:=by rw[<-hXd];rfl
 have hX'H0:X'.H₀=H2:=by rw[<-hXd];rfl
 have hX'fs:X'.fs=C5 X.stack:=by rw[<-hXd];rfl
 have hX'xe:X'.xe=fun _ _=>False:=by rw[<-hXd];rfl
 have hX'A:X'.A=X.A:=by rw[<-hXd];rfl
 have hX'P:X'.prog=X.prog:=by rw[<-hXd];rfl
 have hX'w:X'.w=X.w:=by rw[<-hXd];rfl
 have hX'K:X'.K=X.K:=by rw[<-hXd];rfl
 have hX'calm:X'.calm=true:=by rw[<-hXd];exact hc
 have hX'env:X'.env=compEnvC scope (B9 X.env scope.names []) HH.objs.size X.env:=by rw[<-hXd];rfl
 have I':j9 X' [] (ap1 nl fr σ) H2 {s2 with heap:=h1,toks:=s2.toks+([]:List (Str×Value)).length}:=by
   refine ⟨ok',by rw[hX's0],I2.bare,?_,?_,fun x c e=> ?_,?_,fun x c e=> ?_,fun p hp=> ?_,?_,?_⟩
   · rw[hX'fs,hX'ex,hX'H0,hX's0];exact Un.kept old
   · obtain ⟨m,hn,hl⟩:=I2.loc;rw[hX'd];refine ⟨_,hns1,fun i x v e1 e2 e3=> ?_⟩
     have hN':N[i]? =some x:=by rw[<-hXd] at e1;exact e1
     unfold ap1 at e2
     have hi:¬i < nl:=fun hlt=>by
       rw[cs8 (by simpa using hlt),da7,if_pos hlt] at e2;cases e2
     rw[cs4 (by simpa using hi),cv9,cq4] at e2
     cases ej:fr[i - nl]? with
     |none=>rw[ej] at e2;cases e2
     |some j=>
      rw[ej] at e2;obtain ⟨y,y1,y2,y3,y4⟩:=ok.fr (i - nl) j ej
      have hii:nl+(i - nl)=i:=by omega
      rw[hii,hN'] at y1;have hxy:x=y:=Option.some.inj y1;subst hxy;have e2':(σ[j]?).join=some v:=Option.some.inj e2
      have e2'':σ[j]? =some (some v):=by
        cases hσ:σ[j]? with
        |none=>rw[hσ] at e2';cases e2'
        |some z=>rw[hσ] at e2';exact congrArg some e2'
      obtain ⟨u,r,l⟩:=hl j x v y2 e2'' y3;have hkX:=ok.free (x,.free) (PySem.mem_of_lookup y4) rfl;refine ⟨u,r,.inr ⟨?_,?_⟩⟩
      · rw[hX'env]
        rcases T6 (env:=X.env) y4 with z|z
        · exact .inl z
        · exact .inr z
      · rcases l with ⟨k1,_⟩|⟨_,c,ec,hcell⟩
        · rcases hkX with z|z
          · rw[z] at k1;cases k1
          · rw[z] at k1;cases k1
        · obtain ⟨c',ec'⟩:=ad6 X.env scope.names [] (x,.free) (PySem.mem_of_lookup y4) rfl
          have:c'=c:=by
            have q:=cellsSub x c' ec';rw[ec] at q;exact (Option.some.inj q).symm
          subst this;refine ⟨c',by rw[hX'c];exact ec',?_⟩;obtain ⟨oc,ho,hd⟩:=hcell;exact ⟨oc,old _ _ ho,hd⟩
   · rw[hX'c] at e;obtain ⟨v,oc,ho,hd⟩:=I2.cell x c (cellsSub x c e);exact ⟨v,oc,old _ _ ho,hd⟩
   · rw[hX'd];exact I2.hok.fresh hCle
   · rw[hX'c] at e;exact I2.freeC x c (cellsSub x c e)
   · rw[hX'pn] at hp;simp at hp
   · rw[hX'P,hX'w];exact I2.hok.kept old
   · unfold ap1
     have:X'.N=N:=by rw[<-hXd];rfl
     rw[this,ok.len,co9,cv9,co8]
 have Dn:∀{H':Hp} {pins'} {s':Shared} {σ'},j9 X' pins' σ' H' s'->H' s2.heap.objs.size=none->∀o,s'.heap.get? s2.heap.objs.size=some o->(∀v,o.data≠.cell v)->j9 X' [(s2.heap.objs.size,o)] σ' H' s':=fun {H' pins' s' σ'} I3 hD o ho hnc=>
   I3.pins_of fun p hp=>by
     have e:p=(s2.heap.objs.size,o):=by simpa using hp
     subst e;refine ⟨ho,hD,by rw[hX'd];exact hDC,?_,hnc⟩;rw[hX'fs];intro hb
     rcases cq5.mp (I2.stkSub _ hb) with z|z
     · exact absurd (z▸I2.lt) (cv0 _)
     · exact I2.nofs (cq0 _) z
 have loop:∀s₃:Shared,s₃={s2 with heap:=h1,toks:=s2.toks+([]:List (Str×Value)).length}->
     codeAny (model X.prog X.w) X.A (.compLoop (.ListComp elt [⟨tg,iter,ifs,0⟩] scope pos) 0 (.ref it) (.ref s2.heap.objs.size) (compEnvC scope (B9 X.env scope.names []) HH.objs.size X.env)) (RR (.ref s2.heap.objs.size) HH.objs.size) s₃:=by
   rintro s₃ rfl
   refine az3 (fun n s'=>∃(i:Nat) (σ':St) (H':Hp) (ys:List V) (its:List Value) (k:Nat),j9 X' [(s2.heap.objs.size,{cls:= .type "list",data:= .seq its.toArray k})] σ' H' s'/\o5 ys its/\ys.length<=sizeLine/\tn i s'.heap/\(∀b∈fp,H' b=none)/\W i n ys σ' H')
     ?_ m0 ⟨0,_,H2,[],[],0,Dn I' (I2.hok.fresh (cq0 _)) _ hacc (fun v z=>by cases z),.nil,cs1 _,T.keep 0 _ _ st2 fun b hb o e=>old b o e,fun b hb=>(f2 b hb).1,w0⟩
   rintro n s3 ⟨i,σ3,H3,ys,its,k,I3,rv,hyl,st3,fr3,w3⟩;have pinD:=I3.pin (s2.heap.objs.size,{cls:= .type "list",data:= .seq its.toArray k}) (by rw[hX'pn];exact cp8 _ cp7)
   have stat:∀{o:Obj} {H':Hp},(∀b∈fp,H' b=none)->∀b∈fp,ag3 X' [(s2.heap.objs.size,o)] H' b:=fun {o H'} hn b hb=>by
     refine ⟨hn b hb,by rw[hX'd];exact (below b (fplt b hb)).1,fun z=>ok'.exfs b (by rw[hX'ex];exact hb) z,.inl (by rw[hX'ex];exact hb),fun x c e=>by rw[hX'c] at e;exact (f2 b hb).2.2.2.2.1 x c (cellsSub x c e),fun p hp=> ?_⟩;rw[hX'pn] at hp
     have e:p=(s2.heap.objs.size,o):=by simpa using hp
     subst e
     exact fun z=>(below b (fplt b hb)).2 z.symm
   rcases turn i n ys σ3 H3 w3 with ⟨stop,qn⟩|⟨go,Nx,hNx,step⟩
   · have dn:=T.done X' hX'P hX'w hX'K hX'calm i _ s3 σ3 H3 (fun _ _=>False) I3 (stat fr3) st3 stop;rw[hX'A] at dn
     refine y9 dn fun r s4 ⟨hr,I4⟩=> ?_
     subst hr;have pinE:=I4.pin (s2.heap.objs.size,{cls:= .type "list",data:= .seq its.toArray k}) (by rw[hX'pn];exact cp8 _ cp7)
     have ub:Un (C5 X.stack) fp H2 H3 s2.heap s4.heap:=by
       have:=I4.base;rw[hX'fs,hX'ex,hX'H0,hX's0] at this;exact this
     have hok4:D0 X.prog X.w H3 s4.heap:=by have:=I4.hok;rw[hX'P,hX'w] at this;exact this
     have nD:∀b u,H3 b=some u->b≠s2.heap.objs.size:=fun b u e z=>by rw[z,pinE.2.1] at e;cases e
     have u2:Un (C5 X.stack) fp H2 (e8 H3 s2.heap.objs.size (.lst ys)) s2.heap s4.heap:=
       ⟨ub.keep,ub.slot,fun b o e n' hx=>by rw[i6 (cr9 (Heap.lt_size e))];exact ub.free b o e n' hx,ub.there,
         fun b xs e=>by have:=ub.tups b xs e;rw[i6 (nD b _ this)];exact this,fun b o u e=>by have:=ub.frzs b o u e;rw[i6 (nD b _ this)];exact this,
         fun b ps e=>by obtain ⟨more,z⟩:=ub.tbls b ps e;exact ⟨more,by rw[i6 (nD b _ z)];exact z⟩⟩
     have I5:j9 X pins σ (e8 H3 s2.heap.objs.size (.lst ys)) s4:=by
       refine I2.call' (by rw[I4.os,hX's0]) u2 ?_ I4.bare fun b hb=>⟨(f2 b hb).2.2.2.1,(f2 b hb).2.1,(f2 b hb).2.2.2.2.1,(f2 b hb).2.2.2.2.2⟩
       exact D0.track hok4 pinE.2.1 ⟨hyl,its,k,rv,pinE.1⟩
     refine hRR _ _ s4 _ I5 (qn _ pinE.2.1) (I2.fpOk hCle ?_) ?_
     · rw[i6 (Ne.symm hDC)];have:=I4.free;rw[hX'd] at this;exact this
     · obtain ⟨m,hn,_⟩:=I4.loc;rw[hX'd] at hn;exact ⟨m,hn⟩
   · have im:=T.item X' hX'P hX'w hX'K hX'calm i _ s3 σ3 H3 (fun _ _=>False) I3 (stat fr3) st3 go;rw[hX'A] at im
     refine y9 im fun r s4 ⟨u,hr,h4⟩=> ?_
     subst hr
     refine y9 h4 fun _ s5 ⟨x,H5,I5,r5,y5,st5,fr5⟩=> ?_
     have I5':=I5.pinned (stat fr5) (T.obj _ _ st5);have gg:=hg (B9 X.env scope.names []) HH.objs.size s2 H2 fp;rw[hXd] at gg;have gg:=gg _ s5 σ3 H5 x u _ I5' r5 (step x H5 y5);rw[hX'A,hX'P,hX'w,hX'xe,hX'env] at gg
     refine y9 gg fun _ s6 ⟨σ6,H6,I6,q6⟩=> ?_
     have tt:=ht (B9 X.env scope.names []) HH.objs.size s2 H2 fp;rw[hXd] at tt;have tt:=tt _ s6 σ6 H6 _ I6 q6;rw[hX'A,hX'P,hX'w,hX'xe,hX'env] at tt
     refine y9 tt fun ok7 s7 ⟨H7,I7,q7⟩=> ?_
     have again:∀{s8:Shared} {σ8:St} {H8:Hp} {ys8:List V} {its8:List Value} {k8:Nat},j9 X' ([(s2.heap.objs.size,{cls:= .type "list",data:= .seq its8.toArray k8})]++Y5 fp s5.heap) σ8 H8 s8->o5 ys8 its8->ys8.length<=sizeLine->Nx ys8 σ8 H8->
         ∃m,m < n/\∃(i:Nat) (σ':St) (H':Hp) (ys:List V) (its:List Value) (k:Nat),j9 X' [(s2.heap.objs.size,{cls:= .type "list",data:= .seq its.toArray k})] σ' H' s8/\o5 ys its/\ys.length<=sizeLine/\tn i s8.heap/\(∀b∈fp,H' b=none)/\W i m ys σ' H':=
       fun {s8 σ8 H8 ys8 its8 k8} I8 rv8 hl8 n8=>by
         obtain ⟨m',hm,w8⟩:=hNx ys8 σ8 H8 n8;refine ⟨m',hm,i+1,σ8,H8,ys8,its8,k8,I8.unpinned,rv8,hl8,T.keep _ _ _ st5 fun b hb o e=>(I8.pin (b,o) (cp8 _ (cp8 _ (X3 hb e)))).1,fun b hb=> ?_,w8⟩;obtain ⟨o,e,d⟩:=T.obj _ _ st5 b hb;exact (I8.pin (b,o) (cp8 _ (cp8 _ (X3 hb e)))).2.1
     cases ok7 with
     |false=>
      rw[if_neg cq1] at q7 ⊢;exact again I7 rv hyl q7
     |true=>
      rw[if_pos rfl] at q7 ⊢;have ee:=he (B9 X.env scope.names []) HH.objs.size s2 H2 fp;rw[hXd] at ee;have ee:=ee _ s7 σ6 H7 _ I7 q7;rw[hX'A,hX'P,hX'w,hX'xe,hX'env] at ee
      refine y9 ee fun yv s8 ⟨y,H8,I8,r8,hyl8,q8⟩=> ?_
      have pin8:=I8.pin (s2.heap.objs.size,{cls:= .type "list",data:= .seq its.toArray k}) (cp8 _ (cs3 _ cp7));refine wpAny_list_append_plain (items:=its.toArray) ⟨k,pin8.1⟩ (fun h9 hp9 hs9=> ?_) (by rw[cp2,<-rv.length];exact hyl);obtain ⟨k9,e9⟩:=hp9
      have I9:j9 X' (Y5 fp s5.heap) σ6 H8 s8:=I8.pins_of fun p hp=>I8.pin p (cp8 _ (cp8 _ hp))
      have I9':j9 X' (Y5 fp s5.heap) σ6 H8 {s8 with heap:=h9,toks:=s8.toks}:=by
        refine I9.turned (t':=s8.toks) (it:=s2.heap.objs.size) (fun b o hb e=>hs9.extBut b o hb e) pin8.2.1 (by rw[hX'd];exact hDC) (.inr (by rw[hX's0];exact cq0 _)) (fun x c e z=> ?_) fun p hp z=> ?_
        · rw[hX'c] at e;exact absurd (z▸cellLt x c (cellsSub x c e)) (cv0 _)
        · rw[hX'pn] at hp;obtain ⟨hb,_⟩:=at7 (by simpa using hp);exact absurd (z▸fplt _ hb) (cv0 _)
      have e9':h9.get? s2.heap.objs.size=some {cls:= .type "list",data:= .seq (its++[yv]).toArray k9}:=by rw[e9];simp
      refine again (ys8:=ys++[y]) (its8:=its++[yv]) (k8:=k9) ?_ (o5.append rv (.cons r8 .nil)) (by rw[co9];exact hyl8) q8
      refine I9'.pins_of fun p hp=> ?_
      rcases cp4.mp hp with z|z
      · have e:p=(s2.heap.objs.size,{cls:= .type "list",data:= .seq (its++[yv]).toArray k9}):=by simpa using z
        subst e;exact ⟨e9',pin8.2.1,pin8.2.2.1,pin8.2.2.2.1,fun v z=>by cases z⟩
      · exact I9'.pin p (cp8 _ z)
 exact codeAny_compStart_list (loop _ rfl) (T.self X.A 0 _ _ _ (T.keep 0 _ _ st2 fun b hb o e=>old b o e) (loop _ rfl))
end
end L2
namespace L2
open PySem PySem.Spec PyProof.Rows
section
variable {X:Cx}
theorem D5 {elt tg iter:Expr}{ifs:List Expr}{scope:Scope}{pos:Pos}{wi:TI}{g:TG}{tc:TT}{te:TE}{N:List Str}{nl:Nat}{fr:List Nat}
   (hc:X.calm=true) (ok:ag7 X N nl fr scope) (hi:PI X tg iter wi) (hg:∀cl C s0 H0 ex,PG (O5 X N scope cl C s0 H0 ex) tg g) (ht:∀cl C s0 H0 ex,az2 (O5 X N scope cl C s0 H0 ex) ifs tc)
   (he:∀cl C s0 H0 ex,PE (O5 X N scope cl C s0 H0 ex) elt te) (hs:∀x,foldedSetIterable iter X.env x=pure x:=by intro _;rfl):
   PE X (.ListComp elt [⟨tg,iter,ifs,0⟩] scope pos) (bi8 nl fr wi g tc te):=by
 intro pins s σ H Q I h
 have hclos:closureFor scope X.env=pure (B9 X.env scope.names []):=af5 fun p hp hf=>I.ok.has p.1 (ok.free p hp hf)
 rw[eval_ListComp];refine wpAny_comprehension_free (use:=none) rfl hs hclos ok.kind ok.names (au6 (RR:=fun acc C=>compPost (model X.prog X.w) X.A X.xe none (EP X pins σ Q) acc C) hc hi hg ht he ok I h ?_);intro D C s' H' I' q f ⟨m,hn⟩;exact ⟨m,hn,fun h' hs'=>⟨.ref D,H',I'.turned (t':=s'.toks) (fun b o hb e=>hs'.extBut b o hb e) f.1 f.2.1 f.2.2.2.1 f.2.2.2.2.1 f.2.2.2.2.2,rfl,q⟩⟩
theorem ar7 {i:Nat}{y:Str}{py spos:Pos}{elt tg iter:Expr}{ifs:List Expr}{scope:Scope}{pos:Pos}{wi:TI}{g:TG}{tc:TT}{te:TE}{N:List Str}{nl:Nat}{fr:List Nat}
   (hN:X.N.Nodup) (hi':X.N[i]? =some y) (hx:Loc X.env.scope y)
   (hc:X.calm=true) (ok:ag7 X N nl fr scope) (hi:PI X tg iter wi) (hg:∀cl C s0 H0 ex,PG (O5 X N scope cl C s0 H0 ex) tg g) (ht:∀cl C s0 H0 ex,az2 (O5 X N scope cl C s0 H0 ex) ifs tc)
   (he:∀cl C s0 H0 ex,PE (O5 X N scope cl C s0 H0 ex) elt te) (hsw:swapsWith (.ListComp elt [⟨tg,iter,ifs,0⟩] scope pos) (some (.Name y py)) spos.line X.env=pure true:=by rfl)
   (hs:∀x,foldedSetIterable iter X.env x=pure x:=by intro _;rfl)
   (hf:X.fn y=true\/X.env.scope.names.lookup y=some .local:=by first|exact .inl rfl|exact .inr rfl|assumption):
   PS X (.Assign [.Name y py] (.ListComp elt [⟨tg,iter,ifs,0⟩] scope pos) spos) (bt3 (bi8 nl fr wi g tc te) (aa2 i)):=by
 intro pins s σ H Dn I h
 have hclos:closureFor scope X.env=pure (B9 X.env scope.names []):=af5 fun p hp hf=>I.ok.has p.1 (ok.free p hp hf)
 rw[exec_Assign_Name_used _ _ _ _ hsw];refine wpAny_bind (wpAny_standAt (wpAny_bind ?_));show wpAny _ X.A (do let _ <-comprehension (.ListComp elt [⟨tg,iter,ifs,0⟩] scope pos) scope X.env _ (newList []) false (eval iter X.env) (some (assign (.Name y py) X.env))) _ _ s
 refine wpAny_bind (wpAny_mono (wpAny_comprehension_free (use:=some (assign (.Name y py) X.env)) (Q:=fun _ s'=>SP X pins Dn .next s') rfl hs hclos ok.kind ok.names
   (au6 (RR:=fun acc C=>compPost (model X.prog X.w) X.A X.xe (some (assign (.Name y py) X.env)) (fun _ s'=>SP X pins Dn .next s') acc C) hc hi hg ht he ok I h ?_)) (fun _ s' hq=>wpAny_pure (wpAny_pure hq)) fun _ _ e=>e)
 intro D C s' H' I' q f ⟨m,hn⟩;show wpAny _ X.A (assign (.Name y py) X.env (.ref D)) _ _ _;refine wpAny_assign_Name (at5 I' hN hi' hx (v:= .ref D) rfl (fun s2 I2 ⟨a,sb,ha⟩=> ?_) hf)
 have hCa:C≠a:=by
   rcases ha with z|z
   · rw[z];exact f.2.1
   · exact fun e=>f.2.2.2.2.1 _ _ z e.symm
 exact ⟨m,hn.sameBut sb hCa,fun h' hs'=>⟨_,H',I2.turned (t':=s2.toks) (fun b o hb e=>hs'.extBut b o hb e) f.1 f.2.1 f.2.2.2.1 f.2.2.2.2.1 f.2.2.2.2.2,q⟩⟩
theorem G3 {K:PySem.W.Frag}{a:Addr}{xs:List V}{g:TG}{tc:TT}{te:TE}{σ0:St}{H:Hp}{Q:VK}(Pv:Nat->List V->St->Hp->Prop)(h0:Pv 0 [] σ0 H)(hl:∀i ys σ H,i<=xs.length->Pv i ys σ H->i8 K H a xs)
   (hs:∀i x ys σ H,xs[i]? =some x->Pv i ys σ H->g x σ H fun σ2 H2=>tc σ2 H2 fun b H4=>if b=true then te σ2 H4 fun y H5=>ys.length < sizeLine/\Pv (i+1) (ys++[y]) σ2 H5 else Pv (i+1) ys σ2 H4)
   (hd:∀ys σ H,Pv xs.length ys σ H->∀D,H D=none->Q (.ref D) (e8 H D (.lst ys))):
   ax3 (Itl K a) g tc te Q σ0 H:=by
 refine ⟨fun i m ys σ H=>m=xs.length - i/\i<=xs.length/\Pv i ys σ H,⟨xs.length,by simp,cs1 _,h0⟩,?_⟩;rintro i m ys σ H ⟨rfl,hi,p⟩;have q:=hl i ys σ H hi p
 by_cases hlt:i < xs.length
 · refine .inr ⟨⟨xs,xs[i],q,by simp [hlt]⟩,Pv (i+1),fun ys' σ' H' p'=>⟨xs.length - (i+1),by omega,rfl,hlt,p'⟩,fun x H' y=> ?_⟩;obtain ⟨e,y⟩:=y;subst e;exact hs i x ys σ _ (y xs q) p
 · have e:i=xs.length:=by omega
   subst e;exact .inl ⟨⟨xs,q,cq0 _⟩,hd ys σ H p⟩
theorem S7 {lo:Int}{n:Nat}{g:TG}{tc:TT}{te:TE}{σ0:St}{H:Hp}{Q:VK}(Pv:Nat->List V->St->Hp->Prop)(h0:Pv 0 [] σ0 H)
   (hs:∀i ys σ H,i < n->Pv i ys σ H->g (.int (lo+i)) σ H fun σ2 H2=>tc σ2 H2 fun b H4=>if b=true then te σ2 H4 fun y H5=>ys.length < sizeLine/\Pv (i+1) (ys++[y]) σ2 H5 else Pv (i+1) ys σ2 H4)
   (hd:∀ys σ H,Pv n ys σ H->∀D,H D=none->Q (.ref D) (e8 H D (.lst ys))):
   ax3 (Itr lo n) g tc te Q σ0 H:=by
 refine ⟨fun i m ys σ H=>m=n - i/\i<=n/\Pv i ys σ H,⟨n,by simp,cs1 _,h0⟩,?_⟩;rintro i m ys σ H ⟨rfl,hi,p⟩
 by_cases hlt:i < n
 · refine .inr ⟨hlt,Pv (i+1),fun ys' σ' H' p'=>⟨n - (i+1),by omega,rfl,hlt,p'⟩,fun x H' y=> ?_⟩;obtain ⟨e,y⟩:=y;subst e y;exact hs i ys σ _ hlt p
 · have e:i=n:=by omega
   subst e;exact .inl ⟨cq0 _,hd ys σ H p⟩
inductive EqD (K:PySem.W.Frag)(H:Hp):Nat->V->V->Bool->Prop where
 |flat {n:Nat} {x y:V}:S4 x=true->S4 y=true->EqD K H n x y (Y7 x y)
 |same {n:Nat} (a:Addr):EqD K H n (.ref a) (.ref a) true
 |lists {n:Nat} {a b:Addr} {xs ys:List V} (e:Nat->Bool):a≠b->i8 K H a xs->i8 K H b ys->xs.length=ys.length->(∀(j:Nat) x y,xs[j]? =some x->ys[j]? =some y->EqD K H n x y (e j))->EqD K H (n+1) (.ref a) (.ref b) ((cu7 xs.length).all e)
 |lens {n:Nat} {a b:Addr} {xs ys:List V}:a≠b->i8 K H a xs->i8 K H b ys->xs.length≠ys.length->EqD K H (n+1) (.ref a) (.ref b) false
theorem bo9 {pins:List (Addr×Obj)}{σ:St}{H:Hp}{s:Shared}(I:j9 X pins σ H s){n:Nat}{x y:V}{b:Bool}(d:EqD X.K H n x y b):
   ∀{A:Around} {u v:Value},A.units+n < cLine->y8 x u->y8 y v->SeqAt.EqAt A s u v b:=by
 induction d with
 |flat fx fy=>intro A u v _ rx ry;exact bn7 rx ry fx fy
 |same a=>intro A u v _ rx ry;cases rx;cases ry;exact SeqAt.EqAt.same _
 |@lists n a c xs ys e ne ha hb hl _ ih=>
  intro A u v hu rx ry;cases rx;cases ry;obtain ⟨its,r1,p1,_⟩:=I.list ha;obtain ⟨its2,r2,p2,_⟩:=I.list hb;have l1:=r1.length;have l2:=r2.length;refine SeqAt.EqAt.of_refs ne ?_
  have q:=SeqAt.RcAt.lists (A:=A) (e:=e) p1.isList p2.isList (by rw[cp2,cp2];omega) (by omega) (fun j h1 h2=>by
    have h1':j < its.length:=by simpa using h1
    have h2':j < its2.length:=by simpa using h2
    have e1:xs[j]? =some (xs[j]'(by omega)):=cp1 _;have e2:ys[j]? =some (ys[j]'(by omega)):=cp1 _;obtain ⟨u1,z1,q1⟩:=r1.get e1;obtain ⟨u2,z2,q2⟩:=r2.get e2
    have w1:its.toArray[j]=u1:=by
      rw[cp1 h1'] at z1
      simpa using z1
    have w2:its2.toArray[j]=u2:=by
      rw[cp1 h2'] at z2
      simpa using z2
    rw[w1,w2]
    exact ih j _ _ e1 e2 (by show A.in1.units+n < cLine;have:A.in1.units=A.units+1:=by first|rfl|simp [Around.in1]
                             omega) q1 q2)
  rw[cp2,<-l1] at q;exact q
 |lens ne ha hb hl=>
  intro A u v hu rx ry;cases rx;cases ry;obtain ⟨its,r1,p1,_⟩:=I.list ha;obtain ⟨its2,r2,p2,_⟩:=I.list hb;have l1:=r1.length;have l2:=r2.length;exact SeqAt.EqAt.of_refs ne (SeqAt.RcAt.lists_lengths p1.isList p2.isList (by rw[cp2,cp2];simp;omega) (by omega))
def LEq (K:PySem.W.Frag)(H:Hp)(n:Nat)(xs ys:List V)(r:Bool):Prop:=
 (xs.length≠ys.length/\r=false)\/(∃e:Nat->Bool,xs.length=ys.length/\(∀(j:Nat) x y,xs[j]? =some x->ys[j]? =some y->EqD K H n x y (e j))/\r=(cu7 xs.length).all e)
theorem bp0 {pins:List (Addr×Obj)}{σ:St}{H:Hp}{s:Shared}(I:j9 X pins σ H s){A:Around}{n:Nat}{a b:Addr}{xs ys:List V}{r:Bool}(hu:A.units+n+1 < cLine)(ha:i8 X.K H a xs)(hb:i8 X.K H b ys)(d:LEq X.K H n xs ys r):
   SeqAt.RcAt A s (.ref a) (.ref b) r:=by
 obtain ⟨its,r1,p1,_⟩:=I.list ha;obtain ⟨its2,r2,p2,_⟩:=I.list hb;have l1:=r1.length;have l2:=r2.length
 rcases d with ⟨hl,rfl⟩|⟨e,hl,he,rfl⟩
 · exact SeqAt.RcAt.lists_lengths p1.isList p2.isList (by rw[cp2,cp2];simp;omega) (by omega)
 · have q:=SeqAt.RcAt.lists (A:=A) (e:=e) p1.isList p2.isList (by rw[cp2,cp2];omega) (by omega) (fun j h1 h2=>by
     have h1':j < its.length:=by simpa using h1
     have h2':j < its2.length:=by simpa using h2
     have e1:xs[j]? =some (xs[j]'(by omega)):=cp1 _;have e2:ys[j]? =some (ys[j]'(by omega)):=cp1 _;obtain ⟨u1,z1,q1⟩:=r1.get e1;obtain ⟨u2,z2,q2⟩:=r2.get e2
     have w1:its.toArray[j]=u1:=by
       rw[cp1 h1'] at z1
       simpa using z1
     have w2:its2.toArray[j]=u2:=by
       rw[cp1 h2'] at z2
       simpa using z2
     rw[w1,w2]
     exact bo9 I (he j _ _ e1 e2) (by show A.in1.units+n < cLine;have:A.in1.units=A.units+1:=by first|rfl|simp [Around.in1]
                                      omega) q1 q2)
   rw[cp2,<-l1] at q;exact q
end
end L2
namespace L2
open PySem PySem.Spec PyProof.Rows
section
variable {X:Cx}
theorem bu4 {pins:List (Addr×Obj)}{σ:St}{H:Hp}{s:Shared}(I:j9 X pins σ H s){A:Around}{n:Nat}{a b:Addr}{xs ys:List V}{r:Bool}(hu:A.units+n+1 < cLine)(ha:i8 X.K H a xs)(hb:i8 X.K H b ys)(d:LEq X.K H n xs ys r):
   SeqAt.RcNeAt A s (.ref a) (.ref b) (!r):=by
 obtain ⟨its,r1,p1,_⟩:=I.list ha;obtain ⟨its2,r2,p2,_⟩:=I.list hb;have l1:=r1.length;have l2:=r2.length
 rcases d with ⟨hl,rfl⟩|⟨e,hl,he,rfl⟩
 · exact SeqAt.RcNeAt.lists_lengths p1.isList p2.isList (by rw[cp2,cp2];simp;omega) (by omega)
 · have q:=SeqAt.RcNeAt.lists (A:=A) (e:=e) p1.isList p2.isList (by rw[cp2,cp2];omega) (by omega) (fun j h1 h2=>by
     have h1':j < its.length:=by simpa using h1
     have h2':j < its2.length:=by simpa using h2
     have e1:xs[j]? =some (xs[j]'(by omega)):=cp1 _;have e2:ys[j]? =some (ys[j]'(by omega)):=cp1 _;obtain ⟨u1,z1,q1⟩:=r1.get e1;obtain ⟨u2,z2,q2⟩:=r2.get e2
     have w1:its.toArray[j]=u1:=by
       rw[cp1 h1'] at z1
       simpa using z1
     have w2:its2.toArray[j]=u2:=by
       rw[cp1 h2'] at z2
       simpa using z2
     rw[w1,w2]
     exact bo9 I (he j _ _ e1 e2) (by show A.in1.units+n < cLine;have:A.in1.units=A.units+1:=by first|rfl|simp [Around.in1]
                                      omega) q1 q2)
   rw[cp2,<-l1] at q;exact q
def cf8 (K:PySem.W.Frag)(n:Nat)(neg:Bool):R2:=fun x y H Q=>∃a b xs ys r,x= .ref a/\y= .ref b/\i8 K H a xs/\i8 K H b ys/\LEq K H n xs ys r/\Q (.bl (if neg then !r else r)) H
theorem az5 (n:Nat)(hu:X.A.units+n+1 < cLine):L9 X (compareOp .Eq) (cf8 X.K n false):=by
 intro pins s σ H x y v u Q I rx ry h;obtain ⟨a,b,xs,ys,r,rfl,rfl,ha,hb,d,q⟩:=h;cases rx;cases ry;exact bp0 I hu ha hb d _ _ _ _ ⟨.bl r,H,I,rfl,q⟩
theorem ag8 (n:Nat)(hu:X.A.units+n+1 < cLine):L9 X (compareOp .NotEq) (cf8 X.K n true):=by
 intro pins s σ H x y v u Q I rx ry h;obtain ⟨a,b,xs,ys,r,rfl,rfl,ha,hb,d,q⟩:=h;cases rx;cases ry;exact bu4 I hu ha hb d _ _ _ _ ⟨.bl (!r),H,I,rfl,q⟩
theorem W1 {n:Nat}{e:Nat->Bool}:(cu7 n).all e=true↔∀j,j < n->e j=true:=by
 rw[cu3];exact ⟨fun h j hj=>h j (cu4.mpr hj),fun h j hj=>h j (cu4.mp hj)⟩
theorem ad7 (K:PySem.W.Frag)(H:Hp)(n:Nat)(ns ms:List Int):LEq K H n (ns.map V.int) (ms.map V.int) (decide (ns=ms)):=by
 by_cases hl:ns.length=ms.length
 · refine .inr ⟨fun j=>decide (ns[j]? =ms[j]?),by simpa using hl,fun j x y e1 e2=> ?_,?_⟩
   · rw[cq4] at e1 e2
     cases h1:ns[j]? with
     |none=>rw[h1] at e1;cases e1
     |some a=>
      cases h2:ms[j]? with
      |none=>rw[h2] at e2;cases e2
      |some b=>
       rw[h1] at e1;rw[h2] at e2;cases e1;cases e2;have q:EqD K H n (V.int a) (V.int b) (Y7 (V.int a) (V.int b)):= .flat rfl rfl
       have e:Y7 (V.int a) (V.int b)=decide (some a=some b):=by
         show (a==b)=_
         by_cases z:a=b
         · subst z;simp
         · rw[decide_eq_false (fun w=>z (Option.some.inj w))];simpa using z
       rw[e] at q;show EqD K H n _ _ (decide (ns[j]? =ms[j]?));rw[h1,h2];exact q
   · rw[cv2,decide_eq_true_iff,W1];constructor
     · intro h j _;subst h;simp
     · intro h
       refine cu6 fun j=> ?_
       by_cases hj:j < ns.length
       · exact of_decide_eq_true (h j (by simpa using hj))
       · rw[cr8 (by omega),cr8 (by omega)]
 · refine .inl ⟨by simpa using hl,?_⟩
   exact decide_eq_false fun h=>hl (by rw[h])
theorem be3:G8 X (.type "range") (fun xs H Q=>∃j,xs=[.int j]/\∀p,H p=none->Q (.ref p) (e8 H p (.rng 0 j))):=by
 intro pins s σ H xs us Q I r h;obtain ⟨j,rfl,q⟩:=h;obtain ⟨u,rfl,⟨t,rfl⟩⟩:=M2 r;refine call_range_1 ⟨.ref s.heap.objs.size,_,I.laid (fun b o e=>Heap.get?_push_of_some _ e) (cq0 _) ?_,rfl,q _ (I.hok.fresh (cq0 _))⟩;exact ⟨_,_,_,Heap.get?_push_size _ rfl⟩
def D6 (lo:Int)(n:Nat):List Int:=(cu7 n).map fun (i:Nat)=>lo+(i:Int)
theorem bi9 {lo:Int}{n:Nat}{acc:Array Value}(h:ItemsOf (fun i v=>∃t,v=Value.int (lo+(i:Int)*1) t) acc n):o5 ((D6 lo n).map V.int) acc.toList:=by
 obtain ⟨hs,hv⟩:=h
 have key:∀(l:List Value) (k:Nat),(∀(j:Nat) v,l[j]? =some v->∃t,v=Value.int (lo+((k+j:Nat):Int)) t)->o5 (((cu7 l.length).map fun (i:Nat)=>lo+((k+i:Nat):Int)).map V.int) l:=by
   intro l
   induction l with
   |nil=>intro k _;exact .nil
   |cons v r ih=>
    intro k hk
    have e:(((cu7 r.length).map Nat.succ).map fun (i:Nat)=>lo+((k+i:Nat):Int))=(cu7 r.length).map fun (i:Nat)=>lo+((k+1+i:Nat):Int):=by
      rw[cu1]
      refine cv4 fun i _=> ?_
      show lo+((k+(i+1):Nat):Int)=_
      congr 2;omega
    rw[cp9,List.range_succ_eq_map,cr0,cr0,e];refine .cons ?_ ?_
    · obtain ⟨t,e⟩:=hk 0 v rfl;exact ⟨t,e⟩
    · have:=ih (k+1) fun j w e=>by
        obtain ⟨t,z⟩:=hk (j+1) w (by simpa using e);exact ⟨t,by rw[z];congr 2;omega⟩
      exact this
 have:=key acc.toList 0 fun j v e=>by
   obtain ⟨t,z⟩:=hv j v (by simpa using e);exact ⟨t,by rw[z,Int.mul_one];simp⟩
 have hl:acc.toList.length=n:=by simpa using hs
 rw[hl] at this
 have e:((cu7 n).map fun (i:Nat)=>lo+((0+i:Nat):Int))=D6 lo n:=by
   unfold D6
   refine cv4 fun i _=> ?_
   simp
 rw[e] at this;exact this
theorem aw3 (hc:X.calm=true):G8 X (.type "list") (fun xs H Q=>∃p lo hi,xs=[.ref p]/\H p=some (.rng lo hi)/\(-(2^62)<=lo/\lo < 2^62/\ -(2^62)<=hi/\hi < 2^62)/\(hi - lo).toNat<=2^20/\
   ∀l,H l=none->Q (.ref l) (e8 H l (.lst ((D6 lo (hi - lo).toNat).map V.int)))):=by
 intro pins s σ H xs us Q I r h;obtain ⟨p,lo,hi,rfl,hp,⟨b1,b2,b3,b4⟩,hz,q⟩:=h;obtain ⟨u,rfl,rx⟩:=M2 r;cases rx;obtain ⟨t,u,v,ho⟩:=I.hok p _ hp
 refine call_list_range (n:=(hi - lo).toNat) (I.ok.hd hc) (r:=p) ho (small_one b1 b2 b3 b4) (by rw[rangeSize_one];split<;>omega) (cq3 hz (by decide)) fun h' tk acc' c' hk e it=> ?_
 have rv:=bi9 it;refine ⟨.ref s.heap.objs.size,_,I.laid hk (cq0 _) (show B1 X.prog X.w _ h' _ (.lst ((D6 lo (hi - lo).toNat).map V.int)) from ⟨?_,acc'.toList,c',rv,by rw[e]⟩),rfl,q _ (I.hok.fresh (cq0 _))⟩;unfold D6;rw[co8,co8,cx0];exact cq3 hz (by rw[sizeLine_eq];decide)
theorem bp1 (hc:X.calm=true):G8 X (.builtin "sum") (fun xs H Q=>∃(p:Addr) (ns:List Int),xs=[.ref p]/\i8 X.K H p (ns.map V.int)/\Q (.int ns.sum) H):=by
 intro pins s σ H xs us Q I r h;obtain ⟨p,ns,rfl,hp,q⟩:=h;obtain ⟨u,rfl,rx⟩:=M2 r;cases rx;obtain ⟨its,rv,pl,_⟩:=I.list hp;have ia:=ad1 rv;obtain ⟨xs,hxs⟩:=ia.allInts.items;have hn:=ia.numsOf
 have hxl:its=(intItems xs).toList:=by rw[<-hxs]
 rw[hxl,nums_intItems] at hn;have hl:=pl.isList;rw[hxs] at hl
 refine sum_intListG (I.ok.hd hc) hl fun h' tk t' hk=>⟨.int ns.sum,H,I.kept hk,?_,q⟩
 rw[preSum_eq,cv5 (by simp),hn];exact ⟨_,rfl⟩
end
end L2
namespace L2
open PySem PySem.Spec PyProof.Rows
section
variable {X:Cx}
theorem bp2 (hc:X.calm=true):G8 X (.builtin "min") (fun xs H Q=>∃(p:Addr) (ns:List Int),xs=[.ref p]/\i8 X.K H p (ns.map V.int)/\ns≠[]/\∀m,m∈ns->(∀x∈ns,m<=x)->Q (.int m) H):=by
 intro pins s σ H xs us Q I r h;obtain ⟨p,ns,rfl,hp,hne,q⟩:=h;obtain ⟨u,rfl,rx⟩:=M2 r;cases rx;obtain ⟨its,rv,pl,_⟩:=I.list hp;have ia:=ad1 rv;obtain ⟨xs,hxs⟩:=ia.allInts.items;have hn:=ia.numsOf
 have hxl:its=(intItems xs).toList:=by rw[<-hxs]
 rw[hxl,nums_intItems] at hn;have hl:=pl.isList;rw[hxs] at hl
 have hnx:∀j:Nat,ns[j]? =(xs[j]?).map (·.1):=fun j=>by rw[<-hn];simp
 have hlen:ns.length=xs.size:=by rw[<-hn];simp
 have h0:0 < xs.size:=by
   rw[<-hlen];exact ct9.mpr hne
 refine min_intList (I.ok.hd hc) hl h0 fun v h' tk hv hk=> ?_
 obtain ⟨b1,b2⟩:=argBest_lt (numAt xs) (xs.size - 1);generalize hab:argBest (fun i j=>decide (numAt xs i < numAt xs j)) (xs.size - 1)=k at hv b1 b2
 have hk1:k < xs.size:=by omega
 have hv':v=Value.int (xs[k]).1 (xs[k]).2:=by
   unfold intItems at hv;rw[Array.getElem?_map,cv1 hk1] at hv;exact (Option.some.inj hv).symm
 have hnum:∀j (hj:j < xs.size),numAt xs j=(xs[j]).1:=fun j hj=>by unfold numAt;rw[cv1 hj];rfl
 have hm:(xs[k]).1∈ns:=by
   refine cp3 (i:=k) ?_;rw[hnx,cv1 hk1];rfl
 refine ⟨.int (xs[k]).1,H,I.kept hk,⟨_,hv'⟩,q _ hm fun x hx=> ?_⟩;obtain ⟨j,hj⟩:=ct4.mp hx
 have hj1:j < xs.size:=by rw[<-hlen];exact (cp0.mp hj).1
 have:=b2 j (by omega);rw[hnum k hk1,hnum j hj1] at this;rw[hnx,cv1 hj1] at hj;have hj:(xs[j]).1=x:=Option.some.inj hj;rw[<-hj];exact this
theorem bu5:G8 X (.builtin "isinstance") (fun xs H Q=>∃x n t b,xs=[x,.ty n]/\K0 X.K H x t/\PySem.W.kitOne X.K t (.type n)=some b/\Q (.bl b) H):=by
 intro pins s σ H xs us Q I r h;obtain ⟨x,n,t,b,rfl,ty,e,q⟩:=h;obtain ⟨u,w',rfl,rx,ry⟩:=ao4 r;cases (show w'=Value.type n from ry)
 exact bn5 I rx ty e fun tk=>⟨.bl b,H,I.tok tk,rfl,q⟩
theorem D2 (K:PySem.W.Frag)(n:String):PySem.W.kitOne K (.type n) (.type n)=some true:=by
 unfold PySem.W.kitOne;rw[if_pos (beq_self_eq_true _)]
theorem S8 (K:PySem.W.Frag):PySem.W.kitOne K (.type "int") (.type "bool")=some false:=by
 unfold PySem.W.kitOne PySem.W.kitCls;rw[if_neg (by decide+kernel)];show (if PySem.W.kitMeta "bool"=true then (fastBuiltinMro "int").map (·.contains (Value.type "bool")) else none)=some false;rw[if_pos (by decide+kernel)]
 decide+kernel
theorem az6 (K:PySem.W.Frag):PySem.W.kitOne K (.type "bool") (.type "int")=some true:=by
 unfold PySem.W.kitOne PySem.W.kitCls;rw[if_neg (by decide+kernel)];show (if PySem.W.kitMeta "int"=true then (fastBuiltinMro "bool").map (·.contains (Value.type "int")) else none)=some true;rw[if_pos (by decide+kernel)]
 decide+kernel
theorem bu6:bootBuiltins "int"=some (.type "int"):=by decide+kernel
theorem bp3:bootBuiltins "bool"=some (.type "bool"):=by decide+kernel
theorem ad8:bootBuiltins "list"=some (.type "list"):=by decide+kernel
theorem be4:bootBuiltins "range"=some (.type "range"):=by decide+kernel
theorem am3:bootBuiltins "isinstance"=some (.builtin "isinstance"):=by decide+kernel
theorem bp4:bootBuiltins "sum"=some (.builtin "sum"):=by decide+kernel
theorem au7:bootBuiltins "min"=some (.builtin "min"):=by decide+kernel
theorem bp5:bootBuiltins "max"=some (.builtin "max"):=by decide+kernel
end
def l7 (a:Addr)(H H':Hp):Prop:=∀b o,H b=some o->b≠a->H' b=some o
theorem l7.refl (a:Addr)(H:Hp):l7 a H H:=fun _ _ h _=>h
theorem l7.trans {a:Addr}{H H1 H2:Hp}(x:l7 a H H1)(y:l7 a H1 H2):l7 a H H2:=fun b o h n=>y b o (x b o h n) n
theorem c9.but {H H':Hp}(a:Addr)(s:c9 H H'):l7 a H H':=fun b o h _=>s b o h
theorem c9.upd_new {H:Hp}{p:Addr}{o:HO}(h:H p=none):c9 H (e8 H p o):=fun b u e=>by rw[i6 (i9 e h)];exact e
theorem l7.upd {H:Hp}{a:Addr}{o:HO}:l7 a H (e8 H a o):=fun b u e n=>by rw[i6 n];exact e
theorem c9.upd_r {H H':Hp}{p:Addr}{o:HO}(s:c9 H H')(h:H p=none):c9 H (L2.e8 H' p o):=fun b u e=>by rw[i6 (i9 e h)];exact s b u e
theorem l7.upd_r {a:Addr}{H H':Hp}{p:Addr}{o:HO}(k:l7 a H H')(h:H p=none):l7 a H (L2.e8 H' p o):=fun b u e n=>by rw[i6 (i9 e h)];exact k b u e n
theorem l7.upd_a {a:Addr}{H H':Hp}{o:HO}(k:l7 a H H'):l7 a H (L2.e8 H' a o):=fun b u e n=>by rw[i6 n];exact k b u e n
def x6 (H:Hp)(a:Addr)(c:Nat):Prop:=∃x y z:Int,H a=some (.lst [.int x,.int y,.int z])/\0<=z/\z<=c
theorem x6.mono {H:Hp}{a:Addr}{c d:Nat}(h:x6 H a c)(e:c<=d):x6 H a d:=by
 obtain ⟨x,y,z,h1,h2,h3⟩:=h;exact ⟨x,y,z,h1,h2,by omega⟩
end L2
namespace L2
open PySem PySem.Spec PyProof.Rows
def A2 (P:Program)(w:World)(K:PySem.W.Frag)(mg:Str->Option Value)(base:Heap)(x:Str)(k:Nat)(ps:List Str)(sp:Sp):Prop:=
 ∃(f:Addr) (fd:FuncData),mg x=some (.ref f)/\PySem.W.keepIn K (.ref f)=true/\X4 K fd ps []/\q9 P w K mg base C3 k f fd ps sp
section
variable {X:Cx} {x:Str} {p pos:Pos} {e:Expr} {es:List Expr} {t:TA} {k:Nat} {ps:List Str} {sp:Sp}
theorem l9 (c:A2 X.prog X.w X.K X.mg X.base x k ps sp)(hr:A1 k X.A)(ha:PA X (e::es) t)(hg:Gl X x:=by rfl)(hdb:(x==("__debug__":Str))=false:=by decide)
   (he:starEach (e::es) X.env=(false,eval e X.env)::starEach es X.env:=by rfl) (hpl:(backTo pos (starEach es X.env)).any (·.1)=false:=by rfl):
   PE X (.Call (.Name x p) (e::es) [] pos) (aj8 sp [] E0 t):=by
 obtain ⟨f,fd,h1,h2,h3,h4⟩:=c;exact bg0 h4 hr hg h1 h2 h3 .nil cj6 ha hdb he hpl
theorem K9 {a b:Expr}{ta:TA}(hm:X.mg "isinstance"=none)(ha:PA X [a,b] ta)(hg:Gl X "isinstance":=by rfl)
   (he:starEach [a,b] X.env=(false,eval a X.env)::starEach [b] X.env:=by rfl) (hpl:(backTo pos (starEach [b] X.env)).any (·.1)=false:=by rfl):
   PE X (.Call (.Name "isinstance" p) [a,b] [] pos) (S3 (fun xs H Q=>∃x n t b,xs=[x,.ty n]/\K0 X.K H x t/\PySem.W.kitOne X.K t (.type n)=some b/\Q (.bl b) H) ta):=
 M3 bu5 hg hm am3 ha (by decide) (by decide) he hpl
theorem az7 (hm:X.mg "int"=none)(hg:Gl X "int":=by rfl):PE X (.Name "int" p) (tC (.ty "int")):=aj6 hg hm bu6 rfl
theorem au8 (hm:X.mg "bool"=none)(hg:Gl X "bool":=by rfl):PE X (.Name "bool" p) (tC (.ty "bool")):=aj6 hg hm bp3 rfl
theorem J0 (hm:X.mg "list"=none)(hg:Gl X "list":=by rfl):PE X (.Name "list" p) (tC (.ty "list")):=aj6 hg hm ad8 rfl
theorem x9 (hm:X.mg "len"=none)(ha:PA X [e] t)(hg:Gl X "len":=by rfl)
   (he:starEach [e] X.env=(false,eval e X.env)::starEach [] X.env:=by rfl):PE X (.Call (.Name "len" p) [e] [] pos) (S3 (fun xs H Q=>∃p ys,xs=[.ref p]/\(i8 X.K H p ys\/Y3 X.K H p ys)/\Q (.int ys.length) H) t):=
 M3 ay8 hg hm PySem.boot_len ha (by decide) (by decide) he rfl
end
end L2
namespace Mth
structure D8 (p:List Int):Prop where
 nd:p.Nodup
 lo:∀x∈p,0<=x
 hi:∀x∈p,x < p.length
theorem M4 {n:Nat}{x:Int}:x∈L2.D6 0 n↔0<=x/\x < n:=by
 unfold L2.D6;rw[cs6];constructor
 · rintro ⟨i,hi,rfl⟩;have:=cu4.mp hi;omega
 · rintro ⟨h1,h2⟩;exact ⟨x.toNat,cu4.mpr (by omega),by omega⟩
theorem A6 (lo:Int)(n:Nat):(L2.D6 lo n).length=n:=by
 unfold L2.D6;rw[co8,cx0]
theorem S9 (n:Nat):(L2.D6 0 n).Nodup:=by
 unfold L2.D6;rw[cr3,cy3];exact List.Pairwise.imp (fun {a b} (h:a < b)=>by omega) List.pairwise_lt_range
theorem V1 {p:List Int}{n:Nat}(h:p.Perm (L2.D6 0 n)):D8 p/\p.length=n:=by
 have hl:p.length=n:=by rw[h.length_eq,A6]
 refine ⟨⟨h.nodup_iff.mpr (S9 n),fun x hx=>(M4.mp (h.mem_iff.mp hx)).1,fun x hx=> ?_⟩,hl⟩;have:=(M4.mp (h.mem_iff.mp hx)).2;omega
theorem aw4:∀(n:Nat) (p:List Nat),p.Nodup->(∀x∈p,x < n)->p.length=n->p.Perm (cu7 n):=by
 intro n
 induction n with
 |zero=>intro p _ _ hl;rw[cw7 hl];exact List.Perm.refl _
 |succ n ih=>
  intro p nd hb hl
  by_cases hn:n∈p
  · obtain ⟨s,t,rfl⟩:=cz2 hn;have pm:(s++n::t).Perm (n::(s++t)):=cx4;have nd':=pm.nodup_iff.mp nd;obtain ⟨h1,h2⟩:=cs5.mp nd'
    have:=ih (s++t) h2 (fun x hx=>by
      have hx':x < n+1:=hb x (pm.mem_iff.mpr (cp6 _ hx))
      have:x≠n:=fun e=>h1 (e▸hx)
      omega) (by rw[co9,cp9] at hl;rw[co9];omega)
    refine pm.trans ?_;rw[cy9];exact (List.Perm.cons n this).trans (cy4 (l₁:=[n]))
  · exfalso
    have hlt:∀x∈p,x < n:=fun x hx=>by
      have h1:=hb x hx
      have:x≠n:=fun e=>hn (e▸hx)
      omega
    match p,nd,hl,hlt with
    |[],_,hl,_=>simp at hl
    |y::q,nd,hl,hlt=>
     obtain ⟨h1,h2⟩:=cs5.mp nd;have hq:=ih q h2 (fun x hx=>hlt x (cp6 _ hx)) (by simpa using hl);have hy:=hlt y cp7;exact h1 (hq.mem_iff.mpr (cu4.mpr hy))
theorem D8.perm {p:List Int}(h:D8 p):p.Perm (L2.D6 0 p.length):=by
 have e:(p.map cz7).map (fun (i:Nat)=>(0:Int)+(i:Int))=p:=by
   rw[cu1]
   conv=>rhs;rw[<-cx6 p]
   refine cv4 fun x hx=> ?_
   have:=h.lo x hx;show (0:Int)+((x.toNat:Nat):Int)=x;omega
 have nd:(p.map cz7).Nodup:=by
   rw[cr3,cy3];have:=cr3.mp h.nd;refine List.Pairwise.imp_of_mem (fun {a b} ha hb hne z=>hne ?_) this;have h1:=h.lo a ha;have h2:=h.lo b hb;omega
 have:=aw4 p.length (p.map cz7) nd (fun x hx=>by
   obtain ⟨y,hy,rfl⟩:=cs6.mp hx;have h1:=h.lo y hy;have h2:=h.hi y hy
   omega) (by rw[co8])
 have q:=this.map (fun (i:Nat)=>(0:Int)+(i:Int));rw[e] at q;exact q
def L4 (fs:List Int)(u:Int):Option Int:=fs[u.toNat]?
theorem az8 (fs:List Int):(L2.D6 0 fs.length).map (L4 fs)=fs.map some:=by
 unfold L2.D6;rw[cu1]
 refine cu6 fun j=> ?_
 rw[cq4,cq4]
 by_cases hj:j < fs.length
 · rw[List.getElem?_range hj,cp1 hj];show some (fs[((0:Int)+(j:Int)).toNat]?)=_
   have:((0:Int)+(j:Int)).toNat=j:=by omega
   rw[this,cp1 hj];rfl
 · rw[cr8 (by rw[cx0];omega),cr8 (by omega)];rfl
theorem bp6 {a b:List Int}(h:(a.map some).Perm (b.map some)):a.Perm b:=by
 have:=h.map (fun o:Option Int=>o.getD 0);rw[cu1,cu1] at this
 have e:∀l:List Int,l.map ((fun o:Option Int=>o.getD 0)∘some)=l:=fun l=>by
   conv=>rhs;rw[<-cx6 l]
   rfl
 rw[e,e] at this;exact this
theorem bj0 {fs ts qs:List Int}(ht:D8 ts)(hl:fs.length=ts.length)(h:ts.map (L4 fs)=qs.map some):fs.Perm qs:=by
 refine bp6 ?_;have h1:=ht.perm.map (L4 fs);rw[<-hl,az8,h] at h1;exact h1.symm
end Mth
namespace L2
open PySem PySem.Spec PyProof.Rows
theorem ag7.of {X:Cx}{N:List Str}{nl:Nat}{fr:List Nat}{scope:Scope}(h1:(scope.names.all fun y=>y.2 != .cell)=true:=by rfl)(h2:scope.kind= .function:=by rfl)
   (h3:(scope.names.all fun y=>y.2 != .local||scope.names.lookup y.1==some .local)=true:=by rfl)
   (h4:(scope.names.all fun p=>p.2 != .free||(X.env.kindOf p.1==some .cell||X.env.kindOf p.1==some .free))=true:=by rfl) (h5:N.length=nl+fr.length:=by rfl)
   (h6:((cu7 fr.length).all fun k=>match fr[k]? with
     |some j=>(match N[nl+k]?,X.N[j]? with
      |some y,some z=>y==z&&(X.env.scope.names.lookup y==some .local||X.env.scope.names.lookup y==some .cell||X.env.scope.names.lookup y==some .free)&&scope.names.lookup y==some .free
      |_,_=>false)
     |none=>false)=true:=by rfl):ag7 X N nl fr scope where
 cell:=fun y hy e=>by
   have:=cu3.mp h1 y hy;rw[e] at this;exact absurd this (by decide)
 kind:=h2
 names:=fun y hy e=>by
   have:=cu3.mp h3 y hy;rw[e] at this
   have q:(scope.names.lookup y.1==some NameKind.local)=true:=by simpa using this
   exact eq_of_beq q
 free:=fun p hp e=>by
   have:=cu3.mp h4 p hp;rw[e] at this
   have q:(X.env.kindOf p.1==some NameKind.cell||X.env.kindOf p.1==some NameKind.free)=true:=by simpa using this
   rcases cz0 _ _|>.mp q with z|z
   · exact .inl (eq_of_beq z)
   · exact .inr (eq_of_beq z)
 len:=h5
 fr:=fun k j e=>by
   have hk:k < fr.length:=(cp0.mp e).1;have:=cu3.mp h6 k (cu4.mpr hk);rw[e] at this
   dsimp only at this
   cases e1:N[nl+k]? with
   |none=>rw[e1] at this;cases this
   |some y=>
    cases e2:X.N[j]? with
    |none=>rw[e1,e2] at this;cases this
    |some z=>
     rw[e1,e2] at this
     dsimp only at this
     rw[cs9,cs9] at this;obtain ⟨⟨q1,q2⟩,q3⟩:=this;have hyz:y=z:=eq_of_beq q1;subst hyz;refine ⟨y,rfl,rfl,?_,eq_of_beq q3⟩;rw[cz0,cz0] at q2
     rcases q2 with (q|q)|q
     · exact .inl (eq_of_beq q)
     · exact .inr (.inl (eq_of_beq q))
     · exact .inr (.inr (eq_of_beq q))
def M5 (l:List Int):List (A7×V):=l.map fun n=>((Sum.inl n:A7),V.bl true)
theorem am4 {l:List Int}{n:Int}(h:n∈l):N8 (M5 l) (Sum.inl n:A7)=some (.bl true):=by
 induction l with
 |nil=>simp at h
 |cons a r ih=>
  show N8 (((Sum.inl a:A7),V.bl true)::M5 r) _=_
  by_cases e:a=n
  · rw[ad3 (by rw[e])]
  · rw[Y8 (fun z=>e (Sum.inl.inj z))];exact ih ((cq5.mp h).resolve_left fun z=>e z.symm)
theorem ad9 {l:List Int}{n:Int}(h:n∉l):N8 (M5 l) (Sum.inl n:A7)=none:=by
 induction l with
 |nil=>rfl
 |cons a r ih=>
  show N8 (((Sum.inl a:A7),V.bl true)::M5 r) _=_;rw[Y8 (fun z=>h (by rw[Sum.inl.inj z];exact cp7))]
  exact ih fun z=>h (cp6 _ z)
theorem ag9 {l:List Int}{n:Int}(h:n∉l):S5 (M5 l) (Sum.inl n:A7) (V.bl true)=M5 (l++[n]):=by
 rw[bu0 _ (ad9 h)];unfold M5;rw[cp5];rfl
theorem K5 {ns:List Int}{i:Nat}{y:V}(h:(ns.map V.int)[i]? =some y):∃z,ns[i]? =some z/\y= .int z:=by
 rw[cq4] at h
 cases e:ns[i]? with
 |none=>rw[e] at h;cases h
 |some z=>rw[e] at h;exact ⟨z,rfl,(Option.some.inj h).symm⟩
theorem o9 {α:Type}{l:List α}{i:Nat}{x:α}(h:l[i]? =some x):l.take (i+1)=l.take i++[x]:=by
 rw[List.take_add_one,h];rfl
end L2
namespace Mth
theorem T9 {p:List Int}{i:Int}(h0:0<=i)(h1:i < p.length):L2.X1 (p.map L2.V.int) i=some (.int (p.getD i.toNat 0)):=by
 obtain ⟨j,rfl⟩:=cq8 h0;refine L2.w6 ?_
 have hj:j < p.length:=by omega
 rw[cq4,cp1 hj];show some (L2.V.int p[j])=_;rw[cu5];rw[ct3,cp1 hj];rfl
end Mth
namespace L2
open PySem PySem.Spec PyProof.Rows
theorem aj9 (K:PySem.W.Frag)(H:Hp)(n:Nat)(xs:List V):LEq K H n xs [] xs.isEmpty:=by
 cases xs with
 |nil=>exact .inr ⟨fun _=>true,rfl,fun j x y e=>by simp at e,rfl⟩
 |cons x r=>exact .inl ⟨by simp,rfl⟩
section
variable {X:Cx} {p pos apos:Pos} {e o:Expr} {es:List Expr} {t:TA} {to:TE}
theorem M0 (ho:PE X o to)(ha:PA X [e] t)
   (hbase:attributeBase o "append" X.env (eval o X.env)=eval o X.env:=by rfl)
   (hfew:((backTo pos (starEach [e] X.env)).all (fun x=> !x.1)&&(backToKw pos (keywordEach [] X.env)).all (fun x=>x.1.isSome)
     &&decide ([e].length+([]:List Keyword).length+(if ([]:List Keyword).isEmpty then 0 else 1) < 30))=true:=by rfl)
   (hline:(apos.endLine==pos.line)=true:=by rfl) (hs:starEach [e] X.env=(false,eval e X.env)::starEach [] X.env:=by rfl) (hplain:(backTo pos (starEach [] X.env)).any (·.1)=false:=by rfl):
   PE X (.Call (.Attribute o "append" apos) [e] [] pos) (tBM X.K "list" bg2 to t):=
 ao7 PySem.F.plainAttrs_list PySem.F.slot_list_append PySem.F.type_list_append bn9 ho ha hbase hfew hline hs hplain
theorem am5 (ho:PE X o to)(ha:PA X [e] t)
   (hbase:attributeBase o "pop" X.env (eval o X.env)=eval o X.env:=by rfl)
   (hfew:((backTo pos (starEach [e] X.env)).all (fun x=> !x.1)&&(backToKw pos (keywordEach [] X.env)).all (fun x=>x.1.isSome)
     &&decide ([e].length+([]:List Keyword).length+(if ([]:List Keyword).isEmpty then 0 else 1) < 30))=true:=by rfl)
   (hline:(apos.endLine==pos.line)=true:=by rfl) (hs:starEach [e] X.env=(false,eval e X.env)::starEach [] X.env:=by rfl) (hplain:(backTo pos (starEach [] X.env)).any (·.1)=false:=by rfl):
   PE X (.Call (.Attribute o "pop" apos) [e] [] pos) (tBM X.K "list" bo1 to t):=
 ao7 PySem.F.plainAttrs_list PySem.F.slot_list_pop PySem.F.type_list_pop bt9 ho ha hbase hfew hline hs hplain
theorem aa4 (hm:X.mg "list"=none)(ha:PA X [e] t)(hg:Gl X "list":=by rfl)(he:starEach [e] X.env=(false,eval e X.env)::starEach [] X.env:=by rfl):
   PE X (.Call (.Name "list" p) [e] [] pos) (S3 (fun xs H Q=>∃p ys,xs=[.ref p]/\(i8 X.K H p ys\/Y3 X.K H p ys)/\∀l,H l=none->Q (.ref l) (e8 H l (.lst ys))) t):=
 N0 ay9 hg hm ad8 ha (by decide) (by decide) he rfl
theorem ae0 {p2 pos2:Pos}(hc:X.calm=true)(hm:X.mg "list"=none)(hm2:X.mg "range"=none)(ha:PA X [e] t)(hg:Gl X "list":=by rfl)(hg2:Gl X "range":=by rfl)(he:starEach [e] X.env=(false,eval e X.env)::starEach [] X.env:=by rfl)
   (he2:starEach [.Call (.Name "range" p2) [e] [] pos2] X.env=(false,eval (.Call (.Name "range" p2) [e] [] pos2) X.env)::starEach [] X.env:=by rfl):
   PE X (.Call (.Name "list" p) [.Call (.Name "range" p2) [e] [] pos2] [] pos) (S3 (fun xs H Q=>∃p lo hi,xs=[.ref p]/\H p=some (.rng lo hi)/\(-(2^62)<=lo/\lo < 2^62/\ -(2^62)<=hi/\hi < 2^62)/\(hi - lo).toNat<=2^20/\
   ∀l,H l=none->Q (.ref l) (e8 H l (.lst ((D6 lo (hi - lo).toNat).map V.int)))) (ao5 (S3 (fun xs H Q=>∃j,xs=[.int j]/\∀p,H p=none->Q (.ref p) (e8 H p (.rng 0 j))) t) ay4)):=
 N0 (aw3 hc) hg hm ad8 (c6 (N0 be3 hg2 hm2 be4 ha (by decide) (by decide) he rfl) c7 he2) (by decide) (by decide) he2 rfl
theorem bp7 (hc:X.calm=true)(hm:X.mg "sum"=none)(ha:PA X [e] t)(hg:Gl X "sum":=by rfl)(he:starEach [e] X.env=(false,eval e X.env)::starEach [] X.env:=by rfl):
   PE X (.Call (.Name "sum" p) [e] [] pos) (S3 (fun xs H Q=>∃(p:Addr) (ns:List Int),xs=[.ref p]/\i8 X.K H p (ns.map V.int)/\Q (.int ns.sum) H) t):=
 M3 (bp1 hc) hg hm bp4 ha (by decide) (by decide) he rfl
theorem ak0 {a b:Expr}(hc:X.calm=true)(hm:X.mg "min"=none)(ha:PA X [a,b] t)(hg:Gl X "min":=by rfl)(he:starEach [a,b] X.env=(false,eval a X.env)::starEach [b] X.env:=by rfl)(hpl:(backTo pos (starEach [b] X.env)).any (·.1)=false:=by rfl):
   PE X (.Call (.Name "min" p) [a,b] [] pos) (S3 (fun xs H Q=>∃i j,xs=[.int i,.int j]/\Q (.int (if j < i then j else i)) H) t):=
 M3 (bn0 hc) hg hm au7 ha (by decide) (by decide) he hpl
theorem ca0 {a b:Expr}(hc:X.calm=true)(hm:X.mg "max"=none)(ha:PA X [a,b] t)(hg:Gl X "max":=by rfl)(he:starEach [a,b] X.env=(false,eval a X.env)::starEach [b] X.env:=by rfl)(hpl:(backTo pos (starEach [b] X.env)).any (·.1)=false:=by rfl):
   PE X (.Call (.Name "max" p) [a,b] [] pos) (S3 (fun xs H Q=>∃i j,xs=[.int i,.int j]/\Q (.int (if j > i then j else i)) H) t):=
 M3 (bm9 hc) hg hm bp5 ha (by decide) (by decide) he hpl
end
end L2
namespace Mth
theorem ap3 {α:Type}:∀{l:List α} {k:Nat} {y:α},l[k]? =some y->(y::l.eraseIdx k).Perm l
 |[],k,y,h=>by simp at h
 |a::r,0,y,h=>by
  simp at h;subst h;exact List.Perm.refl _
 |a::r,k+1,y,h=>by
  have h':r[k]? =some y:=by simpa using h
  have ih:=ap3 h';show (y::a::r.eraseIdx k).Perm (a::r);exact (List.Perm.swap a y _).trans (ih.cons a)
theorem bj1 {u s:Int}(h1:0<=u)(h2:u < 10000001000)(h3:0<=s)(h4:s<=1000001):0<=u*(37*s+67)+3557*s*s/\u*(37*s+67)+3557*s*s < 2^64:=by
 have a1:0<=37*s+67:=by omega
 have a2:37*s+67<=37000200:=by omega
 have b1:0<=u*(37*s+67):=Int.mul_nonneg h1 a1;have b2:u*(37*s+67)<=10000001000*37000200:=Int.mul_le_mul (by omega) a2 a1 (by omega)
 have c0:0<=3557*s:=by omega
 have c1:0<=3557*s*s:=Int.mul_nonneg c0 h3;have c2:3557*s*s<=(3557*1000001)*1000001:=Int.mul_le_mul (by omega) h4 h3 (by omega)
 have e:(2:Int)^64=18446744073709551616:=by decide
 rw[e];omega
end Mth
namespace L2
open PySem PySem.Spec PyProof.Rows
def cj7 (K:PySem.W.Frag)(ta:TA):TE:=S3 (fun xs H Q=>∃p ys,xs=[.ref p]/\(i8 K H p ys\/Y3 K H p ys)/\Q (.int ys.length) H) ta
section
variable {X:Cx} {p pos:Pos} {e:Expr} {t:TA}
theorem ae1 (K:PySem.W.Frag)(hm:X.mg "len"=none)(ha:PA X [e] t)(hK:X.K=K:=by rfl)(hg:Gl X "len":=by rfl)
   (he:starEach [e] X.env=(false,eval e X.env)::starEach [] X.env:=by rfl):PE X (.Call (.Name "len" p) [e] [] pos) (cj7 K t):=by
 subst hK;exact x9 hm ha hg he
end
theorem bu7 (n:Nat):(cr6 n [V.int 0]).flatten=(cr6 n (0:Int)).map V.int:=by
 induction n with
 |zero=>rfl
 |succ n ih=>rw[cu9,cr4,ih,cu9,cr0];rfl
def ap4:V->Int
 | .int i=>i
 |_=>0
theorem au9 {ys:List V}{xs:List Int}(h:ys.Perm (xs.map V.int)):∃ps:List Int,ys=ps.map V.int/\ps.Perm xs:=by
 refine ⟨ys.map ap4,?_,?_⟩
 · rw[cu1]
   conv=>lhs;rw[<-cx6 ys]
   refine cv4 fun y hy=> ?_
   obtain ⟨i,_,rfl⟩:=cs6.mp (h.mem_iff.mp hy);rfl
 · have:=h.map ap4;rw[cu1] at this
   have e:xs.map (ap4∘V.int)=xs:=by
     conv=>rhs;rw[<-cx6 xs]
     rfl
   rw[e] at this;exact this
end L2
namespace Mth
theorem ab8 {fs:List Int}{u v x:Int}(hu:0<=u)(hv:0<=v)(h:u≠v):L4 (fs.set v.toNat x) u=L4 fs u:=by
 unfold L4;rw[cx3 (by omega)]
theorem am6 {fs:List Int}{v x:Int}(h:v.toNat < fs.length):L4 (fs.set v.toNat x) v=some x:=by
 unfold L4;rw[cw5 h]
theorem G4 {ts:List Int}{i:Nat}(h:i < ts.length):ts.getD i 0=ts[i]:=by
 rw[ct3,cp1 h];rfl
theorem T0 {ts:List Int}(nd:ts.Nodup){i j:Nat}(hi:i < ts.length)(hj:j < ts.length)(h:i≠j):ts.getD i 0≠ts.getD j 0:=by
 rw[G4 hi,G4 hj]
 rcases Nat.lt_or_gt_of_ne h with z|z
 · exact cu0.mp (cr3.mp nd) i j hi hj z
 · exact fun e=>cu0.mp (cr3.mp nd) j i hj hi z e.symm
theorem bu8 {ts fs qs:List Int}{k L:Nat}(hL:1<=L)(hb:k+L<=ts.length)(h1:(ts.take k).map (L4 fs)=qs.map some)(hq:qs.Perm (ts.take k))
   (h2:∀j,j < L->L4 fs (ts.getD (k+j) 0)=some (ts.getD (k+(j+1)%L) 0)):∃qs':List Int,qs'.Perm (ts.take (k+L))/\(ts.take (k+L)).map (L4 fs)=qs'.map some:=by
 have hT:((ts.drop k).take L).length=L:=by rw[cq2,cq9];omega
 have hTj:∀j,j < L->((ts.drop k).take L)[j]? =some (ts.getD (k+j) 0):=fun j hj=>by
   rw[ct0 hj,cx8,G4 (by omega),cp1 (by omega)]
 have e:((ts.drop k).take L).map (L4 fs)=(((ts.drop k).take L).drop 1++((ts.drop k).take L).take 1).map some:=by
   refine cu6 fun j=> ?_
   by_cases hj:j < L
   · rw[cq4,hTj j hj,cq4];show some (L4 fs (ts.getD (k+j) 0))=_;rw[h2 j hj]
     by_cases hj1:j+1 < L
     · rw[cs8 (by rw[cq9,hT];omega),cx8,cx9 1 j,hTj (j+1) hj1,ct7 hj1];rfl
     · have hjL:j+1=L:=by omega
       rw[cs4 (by rw[cq9,hT];omega),cq9,hT,hjL,Nat.mod_self]
       have:j - (L - 1)=0:=by omega
       rw[this,ct0 (by omega),hTj 0 (by omega)];rfl
   · rw[cr8 (by rw[co8,hT];omega),cr8];rw[co8,co9,cq9,cq2 (i:=1),hT];omega
 refine ⟨qs++(((ts.drop k).take L).drop 1++((ts.drop k).take L).take 1),?_,?_⟩
 · rw[List.take_add];refine List.Perm.append hq ?_;refine cy4.trans ?_;rw[cs7]
 · rw[List.take_add,cp5,cp5,h1,e]
theorem ak9 {ls:List Int}(h:∀x∈ls,1<=x)(i:Nat):0<=(ls.take i).sum/\(ls.take i).sum<=ls.sum:=by
 have nn:∀l:List Int,(∀x∈l,1<=x)->0<=l.sum:=by
   intro l
   induction l with
   |nil=>intro _;simp
   |cons a r ih=>
    intro h;have h1:=h a cp7
    have h2:=ih fun x hx=>h x (cp6 _ hx)
    rw[cz8];omega
 refine ⟨nn _ fun x hx=>h x (cy6 hx),?_⟩
 have e:ls.sum=(ls.take i).sum+(ls.drop i).sum:=by
   rw[<-List.sum_append,cs7]
 have:=nn (ls.drop i) fun x hx=>h x (cy7 hx)
 omega
theorem bj2 {ls:List Int}(h:∀x∈ls,1<=x):(ls.length:Int)<=ls.sum:=by
 induction ls with
 |nil=>simp
 |cons a r ih=>
  have h1:=h a cp7
  have h2:=ih fun x hx=>h x (cp6 _ hx)
  rw[cz8,cp9];omega
theorem am7 (ls:List Int)(x:Int):(ls++[x]).sum=ls.sum+x:=by
 rw[List.sum_append];simp
end Mth
namespace L2
open PySem PySem.Spec PyProof.Rows
theorem l7.free {a l:Addr}{H H':Hp}(k:l7 a H H')(h:H' l=none)(n:l≠a):H l=none:=by
 cases e:H l with
 |none=>rfl
 |some o=>have:=k l o e n;rw[h] at this;cases this
theorem c9.kb {a:Addr}{H H1 H2:Hp}(s:c9 H H1)(k:l7 a H1 H2)(h:H a=none):c9 H H2:=fun b o e=>k b o (s b o e) (i9 e h)
def x8 (H:Hp)(as:List Addr)(rs:List (List Int)):Prop:=as.length=rs.length/\∀(j:Nat) a r,as[j]? =some a->rs[j]? =some r->H a=some (.lst (r.map V.int))
theorem V2 {a b:List Int}(h:a.map V.int=b.map V.int):a=b:=(List.map_inj_right (fun x y (h:V.int x=V.int y)=>V.int.inj h)).mp h
theorem av0 {K:PySem.W.Frag}{H:Hp}{as bs:List Addr}{rs qs:List (List Int)}(ha:x8 H as rs)(hb:x8 H bs qs):LEq K H 1 (as.map V.ref) (bs.map V.ref) (decide (rs=qs)):=by
 by_cases hl:as.length=bs.length
 · refine .inr ⟨fun j=>decide (rs[j]? =qs[j]?),by simpa using hl,fun j x y e1 e2=> ?_,?_⟩
   · rw[cq4] at e1 e2
     cases h1:as[j]? with
     |none=>rw[h1] at e1;cases e1
     |some a=>
      cases h2:bs[j]? with
      |none=>rw[h2] at e2;cases e2
      |some b=>
       rw[h1] at e1;rw[h2] at e2;cases e1;cases e2;have j1:j < as.length:=(cp0.mp h1).1;have k1:rs[j]? =some (rs[j]'(by rw[<-ha.1];exact j1)):=cp1 _;have k2:qs[j]? =some (qs[j]'(by rw[<-hb.1,<-hl];exact j1)):=cp1 _;have q1:=ha.2 j a _ h1 k1;have q2:=hb.2 j b _ h2 k2;show EqD K H 1 _ _ (decide (rs[j]? =qs[j]?));rw[k1,k2];generalize (rs[j]'(by rw[<-ha.1];exact j1))=r at q1 ⊢;generalize (qs[j]'(by rw[<-hb.1,<-hl];exact j1))=q at q2 ⊢
       by_cases hab:a=b
       · subst hab;rw[q1] at q2;have e':r=q:=V2 (HO.lst.inj (Option.some.inj q2));rw[e',decide_eq_true rfl];exact .same a
       · rcases ad7 K H 0 r q with ⟨h3,h4⟩|⟨e,h3,h4,h5⟩
         · have:=EqD.lens (n:=0) hab (i8.of (K:=K) q1) (i8.of q2) h3
           rw[decide_eq_false (fun z=>by
             have z':r=q:=Option.some.inj z
             exact h3 (by rw[z']))]
           exact this
         · have:=EqD.lists (n:=0) e hab (i8.of (K:=K) q1) (i8.of q2) h3 h4;rw[<-h5] at this
           have e6:decide (r=q)=decide (some r=some q):=by
             by_cases z:r=q
             · subst z;simp
             · rw[decide_eq_false z,decide_eq_false fun w=>z (Option.some.inj w)]
           rw[<-e6];exact this
   · rw[cv2,decide_eq_true_iff,W1];constructor
     · intro h j _;subst h;simp
     · intro h
       refine cu6 fun j=> ?_
       by_cases hj:j < rs.length
       · exact of_decide_eq_true (h j (by rw[co8,ha.1];exact hj))
       · rw[cr8 (by omega),cr8 (by rw[<-hb.1,<-hl,ha.1];omega)]
 · refine .inl ⟨by simpa using hl,?_⟩
   exact decide_eq_false fun h=>hl (by rw[ha.1,hb.1,h])
theorem bu9 {p:List Int}{j:Nat}(h:j < p.length):X1 (p.map V.int) ((0:Int)+(j:Int))=some (.int (p.getD j 0)):=by
 have e:(0:Int)+(j:Int)=((j:Nat):Int):=by omega
 rw[e];refine w6 ?_;rw[cq4,cp1 h,ct3,cp1 h];rfl
end L2
namespace Mth
theorem bv0 {p:List Int}(t:D8 p){j:Nat}(h:j < p.length):0<=p.getD j 0/\p.getD j 0 < p.length:=by
 rw[G4 h];exact ⟨t.lo _ (cs0 h),t.hi _ (cs0 h)⟩
end Mth
namespace L2
open PySem PySem.Spec PyProof.Rows
def Ite (K:PySem.W.Frag)(a:Addr):It:=
 ⟨fun i H=>∃xs x,i8 K H a xs/\xs[i]? =some x,fun i H v H'=>∃x t,(∀xs,i8 K H a xs->xs[i]? =some x)/\H t=none/\v= .ref t/\H'=e8 H t (.tup [.int (i:Int),x]),fun i H=>∃xs,i8 K H a xs/\xs.length<=i⟩
theorem bp9 {P:Program}{w:World}{K:PySem.W.Frag}{elts:List Expr}{x1}{pos:Pos}(a e it:Addr)(hne:e≠it):
   bi2 P w K (.Tuple elts x1 pos) (Ite K a) [e,it] e (fun i h=>(∃old,IsEnum h e it i old)/\h.IsListIter it a i) where
 mem:=by simp
 obj:=fun i h st b hb=>by
   obtain ⟨⟨old,he⟩,⟨o,ho,c,d⟩⟩:=st
   have hb:b=e\/b=it:=by simpa using hb
   rcases hb with rfl|rfl
   · exact ⟨_,he,fun v z=>by cases z⟩
   · exact ⟨o,ho,fun v z=>by rw[d] at z;cases z⟩
 keep:=fun i h h' st k=>⟨let ⟨old,he⟩:=st.1;⟨old,k e (by simp) _ he⟩,st.2.at fun o q=>k it (by simp) o q⟩
 item:=by
   intro X hP hw hK hc i pins s σ H E I hf st hg;subst hP hw hK;obtain ⟨⟨old,he⟩,hit⟩:=st;obtain ⟨xs,x,hq,hx⟩:=hg;obtain ⟨its,rv,p,hz⟩:=I.list hq;obtain ⟨u,hu,ru⟩:=rv.get hx;obtain ⟨f0,f1,f2,f3,f4,f5⟩:=hf e (by simp);obtain ⟨g0,g1,g2,g3,g4,g5⟩:=hf it (by simp)
   refine wpAny_pyNext_enum_item he hit p.isList (x:=u) (by simpa using hu) hne fun h' he' hit' ht' hz' hk'=> ?_
   refine ⟨_,rfl,wpAny_letOwnedTupleGo_enum he' fun h2 he2 hs2=> ?_⟩;have hs2:Heap.SameBut e h' h2:=hs2;have eT:e≠s.heap.objs.size:=cr9 (Heap.lt_size he);have ht2:h2.get? s.heap.objs.size=some {cls:= .type "tuple",data:= .seq #[.int i s.toks,u]}:=hs2.extBut _ _ eT.symm ht'
   have kk:∀b o,b≠e->b≠it->s.heap.get? b=some o->h2.get? b=some o:=fun b o b1 b2 q=>hs2.extBut b o b1 (hk' b o b1 b2 q)
   have hn:H s.heap.objs.size=none:=I.hok.fresh (cq0 _)
   have nT:∀b u',H b=some u'->b≠s.heap.objs.size:=fun b u' q=>i9 q hn
   have ne:∀b u',H b=some u'->b≠e/\b≠it:=fun b u' q=>⟨fun z=>(by rw[z,f0] at q;cases q),fun z=>(by rw[z,g0] at q;cases q)⟩
   have I1:j9 X pins σ (e8 H s.heap.objs.size (.tup [.int (i:Int),x])) {s with heap:=h2,gens:=s.gens,drawn:=s.drawn,toks:=s.toks+1}:=by
     refine I.step (ch:=[e,it]) (fun b hb=> ?_) (fun b o _ _ hc q _=>kk b o (fun z=>hc (by simp [z])) (fun z=>hc (by simp [z])) q) (fun b o _ _ hc q _=>⟨o.slots,kk b o (fun z=>hc (by simp [z])) (fun z=>hc (by simp [z])) q⟩)
       (fun b o hc q n=>by rw[i6 (cr9 (Heap.lt_size q))];exact n) (fun b o hc q=>⟨o,kk b o (fun z=>hc (by simp [z])) (fun z=>hc (by simp [z])) q⟩)
       (fun b ys q=>by rw[i6 (nT b _ q)];exact q) (fun b o ys q=>by rw[i6 (nT b _ q)];exact q) (fun b ps q=>⟨#[],by rw[i6 (nT b _ q),q];simp⟩) (fun m hm=> ?_) (fun b u' q=> ?_) I.bare
     · have hb:b=e\/b=it:=by simpa using hb
       rcases hb with rfl|rfl
       · exact ⟨f3,f1,f4,f5⟩
       · exact ⟨g3,g1,g4,g5⟩
     · obtain ⟨o,es,ep,ho,r⟩:=hm;exact ⟨o,es,ep,kk _ o (Ne.symm f1) (Ne.symm g1) ho,r⟩
     · by_cases hb:b=s.heap.objs.size
       · subst hb;rw[c8] at q;cases q;exact ⟨by show 2<=sizeLine;decide,[.int i s.toks,u],.cons ⟨_,rfl⟩ (.cons ru .nil),⟨_,ht2,rfl,0,rfl⟩⟩
       · rw[i6 hb] at q
         refine (I.hok b u' q).stay (fun c v hc q'=> ?_) (fun c q'=>by rw[i6 (nT c _ q')];exact q') fun c ys q'=>by rw[i6 (nT c _ q')];exact q'
         rcases hc with z|z
         · rw[z] at q' ⊢;exact kk b v (ne b _ q).1 (ne b _ q).2 q'
         · exact kk c v (ne c _ z).1 (ne c _ z).2 q'
   refine ⟨.ref s.heap.objs.size,_,I1,rfl,⟨x,s.heap.objs.size,fun ys hy=>by rw[I.list_inj hy hq];exact hx,hn,rfl,rfl⟩,⟨⟨u,?_⟩,?_⟩,fun b hb=> ?_⟩
   · have:((i+1:Nat):Int)=(i:Int)+1:=by push_cast;rfl
     rw[this];exact he2
   · exact hit'.extBut hs2.extBut hne.symm
   · have hb:b=e\/b=it:=by simpa using hb
     rcases hb with rfl|rfl
     · rw[i6 eT];exact f0
     · obtain ⟨o,ho,_⟩:=hit;rw[i6 (cr9 (Heap.lt_size ho))];exact g0
 done:=by
   intro X hP hw hK hc i pins s σ H E I hf st hg;subst hP hw hK;obtain ⟨⟨old,he⟩,hit⟩:=st;obtain ⟨xs,hq,hx⟩:=hg;obtain ⟨its,rv,p,hz⟩:=I.list hq;obtain ⟨g0,g1,g2,g3,g4,g5⟩:=hf it (by simp);have hl:=rv.length
   exact wpAny_pyNext_enum_end (I.ok.hd hc) he hit p.isList (by simp;omega) fun h' eb=>⟨rfl,I.turned (t':=s.toks) (fun b o hb q=>eb b o hb q) g0 g1 g3 g4 g5⟩
 self:=fun _ _ _ _ _ st h=>let ⟨_,he⟩:=st.1;wpAny_pyIter_enum he h
theorem av1:bootBuiltins "enumerate"=some (.type "enumerate"):=by decide+kernel
section
variable {X:Cx} {l:Expr} {ta:TA} {p pos:Pos} {elts:List Expr} {x1:Nat} {tpos:Pos}
def cj8 (K:PySem.W.Frag)(ta:TA):TI:=fun σ H R=>ta σ H fun vs H1=>∃a,vs=[.ref a]/\(∃xs,i8 K H1 a xs)/\R (Ite K a) H1
theorem ca1 (hm:X.mg "enumerate"=none)(ha:PA X [l] ta)(hg:Gl X "enumerate":=by rfl)(hs:starEach [l] X.env=[(false,eval l X.env)]:=by rfl):PI X (.Tuple elts x1 tpos) (.Call (.Name "enumerate" p) [l] [] pos) (cj8 X.K ta):=by
 intro pins s σ H R I h;refine Call_ (S0 I hg hm av1 (PyProof.Rows.callWith_type1 (y9 (ha pos pins s σ H _ I h) fun us s1 ⟨vs,H1,I1,r1,q1⟩=> ?_) hs rfl));obtain ⟨a,e,⟨xs,hq⟩,q⟩:=q1;subst e;obtain ⟨u,rfl,rx⟩:=M2 r1;cases rx;obtain ⟨its,rv,pl,hz⟩:=I1.list hq
 refine call_enumerate_list pl.isList fun h' he hit hz' hk=> ?_
 refine wpAny_pyIter_enum he ?_;have I2:j9 X pins σ H1 {s1 with heap:=h',toks:=s1.toks}:=I1.kept (t':=s1.toks) hk;refine ⟨s1.heap.objs.size+1,[s1.heap.objs.size+1,s1.heap.objs.size],_,_,H1,rfl,I2,bp9 a (s1.heap.objs.size+1) s1.heap.objs.size (Nat.succ_ne_self _),⟨⟨.none,he⟩,hit⟩,fun b hb=> ?_,q⟩
 have hb:b=s1.heap.objs.size+1\/b=s1.heap.objs.size:=by simpa using hb
 rcases hb with rfl|rfl
 · exact I1.fpOk (by omega) (I1.hok.fresh (by omega))
 · exact I1.fpOk (by omega) (I1.hok.fresh (by omega))
end
theorem bv1 {K:PySem.W.Frag}{a:Addr}{xs:List V}{g:TG}{tb:TS}{D:Y2}{σ:St}{H:Hp}(Pv:Nat->St->Hp->Prop)(h0:Pv 0 σ H)(hl:∀i σ H,i<=xs.length->Pv i σ H->i8 K H a xs)
   (hs:∀i x σ H t,xs[i]? =some x->Pv i σ H->H t=none->g (.ref t) σ (e8 H t (.tup [.int (i:Int),x])) fun σ2 H2=>tb {D with nx:=Pv (i+1),ct:=Pv (i+1),bk:=D.nx} σ2 H2) (hd:∀σ H,Pv xs.length σ H->D.nx σ H):
   ∃W:Nat->Nat->St->Hp->Prop,(∃m,W 0 m σ H)/\∀i m σ H,W i m σ H->
    ((Ite K a).stop i H/\D.nx σ H)\/((Ite K a).go i H/\∃N:St->Hp->Prop,(∀σ' H',N σ' H'->∃m',m' < m/\W (i+1) m' σ' H')/\∀x H',(Ite K a).yld i H x H'->g x σ H' fun σ2 H2=>tb {D with nx:=N,ct:=N,bk:=D.nx} σ2 H2):=by
 refine ⟨fun i m σ H=>m=xs.length - i/\i<=xs.length/\Pv i σ H,⟨xs.length,by simp,cs1 _,h0⟩,?_⟩;rintro i m σ H ⟨rfl,hi,p⟩;have q:=hl i σ H hi p
 by_cases hlt:i < xs.length
 · refine .inr ⟨⟨xs,xs[i],q,by simp [hlt]⟩,Pv (i+1),fun σ' H' p'=>⟨xs.length - (i+1),by omega,rfl,hlt,p'⟩,fun x H' y=> ?_⟩;obtain ⟨x',t,y1,y2,e1,e2⟩:=y;subst e1 e2;exact hs i x' σ _ t (y1 xs q) p y2
 · have e:i=xs.length:=by omega
   subst e;exact .inl ⟨⟨xs,q,cq0 _⟩,hd σ H p⟩
end L2
namespace Mth
def nx (p:List Int)(x:Int):Int:=p.getD x.toNat 0
def it (p:List Int):Nat->Int->Int
 |0,x=>x
 |i+1,x=>nx p (it p i x)
def In (p:List Int)(x:Int):Prop:=0<=x/\x < p.length
theorem cj9 {p:List Int}(t:D8 p){x:Int}(h:In p x):In p (nx p x):=bv0 t (j:=x.toNat) (by have:=h.1;have:=h.2;omega)
theorem cf9 {p:List Int}(t:D8 p){x y:Int}(hx:In p x)(hy:In p y)(h:nx p x=nx p y):x=y:=by
 have a1:=hx.1;have a2:=hx.2;have b1:=hy.1;have b2:=hy.2
 by_cases e:x.toNat=y.toNat
 · omega
 · exact absurd h (T0 t.nd (i:=x.toNat) (j:=y.toNat) (by omega) (by omega) e)
theorem X6 {p:List Int}(t:D8 p){x:Int}(h:In p x):∀i,In p (it p i x)
 |0=>h
 |i+1=>cj9 t (X6 t h i)
theorem M7 (p:List Int)(x:Int):∀i j,it p (i+j) x=it p i (it p j x)
 |0,j=>by rw[cy0];rfl
 |i+1,j=>by
  rw[Nat.add_right_comm];show nx p (it p (i+j) x)=nx p (it p i (it p j x));rw[M7 p x i j]
theorem az9 {p:List Int}(t:D8 p){x y:Int}(hx:In p x)(hy:In p y):∀i,it p i x=it p i y->x=y
 |0,h=>h
 |i+1,h=>az9 t hx hy i (cf9 t (X6 t hx i) (X6 t hy i) h)
structure O6 (p:List Int)(x:Int)(L:Nat):Prop where
 pos:0 < L
 back:it p L x=x
 least:∀i,0 < i->i < L->it p i x≠x
theorem O6.uniq {p:List Int}{x:Int}{L M:Nat}(h:O6 p x L)(g:O6 p x M):L=M:=by
 rcases Nat.lt_trichotomy L M with z|z|z
 · exact absurd h.back (g.least L h.pos z)
 · exact z
 · exact absurd g.back (h.least M g.pos z)
theorem bq0 {p:List Int}{x:Int}{L:Nat}(h:it p L x=x):∀q,it p (L*q) x=x
 |0=>by rw[Nat.mul_zero];rfl
 |q+1=>by rw[Nat.mul_succ,M7,h,bq0 h q]
theorem cg0 {p:List Int}{x:Int}{L:Nat}(h:it p L x=x)(i:Nat):it p (i%L) x=it p i x:=by
 conv=>rhs;rw[<-Nat.div_add_mod i L,cx9,M7,bq0 h]
theorem O6.shift {p:List Int}(t:D8 p){x:Int}{L:Nat}(hx:In p x)(h:O6 p x L)(j:Nat):O6 p (it p j x) L:=by
 refine ⟨h.pos,?_,fun i i0 i1 e=> ?_⟩
 · rw[<-M7,cx9,M7,h.back]
 · rw[<-M7,cx9,M7] at e;exact h.least i i0 i1 (az9 t (X6 t hx i) hx j e)
def o6 (p:List Int)(x:Int)(L:Nat):List Int:=(cu7 L).map fun i=>it p i x
theorem A4 (p:List Int)(x:Int)(L:Nat):(o6 p x L).length=L:=by unfold o6;rw[co8,cx0]
theorem aa5 {p:List Int}{x:Int}{L j:Nat}(h:j < L):(o6 p x L)[j]? =some (it p j x):=by
 unfold o6;rw[cq4,List.getElem?_range h];rfl
theorem ap5 {p:List Int}{x:Int}{L j:Nat}(h:j < L):(o6 p x L).getD j 0=it p j x:=by
 rw[ct3,aa5 h];rfl
theorem R5 {p:List Int}{x y:Int}{L:Nat}:y∈o6 p x L↔∃j,j < L/\y=it p j x:=by
 unfold o6;rw[cs6];constructor
 · rintro ⟨j,hj,rfl⟩;exact ⟨j,cu4.mp hj,rfl⟩
 · rintro ⟨j,hj,rfl⟩;exact ⟨j,cu4.mpr hj,rfl⟩
theorem ae2 (p:List Int)(x:Int)(m:Nat):o6 p x (m+1)=o6 p x m++[it p m x]:=by
 unfold o6;rw[cy9,cp5];rfl
theorem ab3 {p:List Int}(t:D8 p){x:Int}(hx:In p x){m:Nat}(h:∀i,0 < i->i < m->it p i x≠x):(o6 p x m).Nodup:=by
 unfold o6;rw[cr3,cy3];refine List.Pairwise.imp_of_mem (fun {a b} ha hb hlt e=> ?_) List.pairwise_lt_range;have hb:=cu4.mp hb
 have e2:b=a+(b - a):=by omega
 rw[e2,M7] at e;exact h (b - a) (by omega) (by omega) (az9 t (X6 t hx _) hx a e.symm)
theorem bq1:∀(n:Nat) (l:List Nat),l.Nodup->(∀x∈l,x < n)->l.length<=n:=by
 intro n
 induction n with
 |zero=>
  intro l _ hb
  cases l with
  |nil=>exact cq0 _
  |cons a r=>exact absurd (hb a cp7) (Nat.not_lt_zero _)
 |succ n ih=>
  intro l nd hb
  by_cases hn:n∈l
  · obtain ⟨s,u,rfl⟩:=cz2 hn;have pm:(s++n::u).Perm (n::(s++u)):=cx4;obtain ⟨h1,h2⟩:=cs5.mp (pm.nodup_iff.mp nd)
    have:=ih (s++u) h2 fun x hx=>by
      have hx':=hb x (pm.mem_iff.mpr (cp6 _ hx))
      have:x≠n:=fun e=>h1 (e▸hx)
      omega
    rw[pm.length_eq,cp9];omega
  · exact Nat.le_succ_of_le (ih l nd fun x hx=>by
      have h1:=hb x hx
      have:x≠n:=fun e=>hn (e▸hx)
      omega)
theorem G6 {p:List Int}{r:List Int}(nd:r.Nodup)(h:∀x∈r,In p x):r.length<=p.length:=by
 have:=bq1 p.length (r.map cz7) (by
   rw[cr3,cy3];refine List.Pairwise.imp_of_mem (fun {a b} ha hb hne z=>hne ?_) (cr3.mp nd);have h1:=(h a ha).1;have h2:=(h b hb).1
   omega) fun x hx=>by
     obtain ⟨y,hy,rfl⟩:=cs6.mp hx;have h1:=(h y hy).1;have h2:=(h y hy).2;omega
 rw[co8] at this;exact this
theorem U0 {p:List Int}(t:D8 p){x:Int}(hx:In p x){L:Nat}:∀y∈o6 p x L,In p y:=fun y hy=>by
 obtain ⟨j,_,rfl⟩:=R5.mp hy;exact X6 t hx j
theorem N5 {p:List Int}(t:D8 p){x:Int}(hx:In p x){m:Nat}(h:∀i,0 < i->i < m->it p i x≠x):m<=p.length:=by
 have:=G6 (ab3 t hx h) (U0 t hx);rw[A4] at this;exact this
theorem be5 {p:List Int}{x y:Int}{L:Nat}(h:O6 p x L)(hy:y∈o6 p x L)(i:Nat):it p i y∈o6 p x L:=by
 obtain ⟨j,hj,rfl⟩:=R5.mp hy;refine R5.mpr ⟨(i+j)%L,da4 _ h.pos,?_⟩;rw[cg0 h.back,M7]
theorem av2 {p:List Int}{x y z:Int}{L M:Nat}(h:O6 p x L)(g:O6 p y M)(h1:z∈o6 p x L)(h2:z∈o6 p y M):y∈o6 p x L:=by
 obtain ⟨j,hj,rfl⟩:=R5.mp h2;have:=be5 h h1 (M - j);rw[<-M7,show M - j+j=M by omega,g.back] at this;exact this
open Classical in
noncomputable def ap6 (p:List Int)(x:Int):Nat:=if h:∃L,O6 p x L then Classical.choose h else 0
theorem bv2 {p:List Int}{x:Int}{L:Nat}(h:O6 p x L):ap6 p x=L:=by
 have hx:∃L,O6 p x L:=⟨L,h⟩;unfold ap6;rw[dif_pos hx];exact (Classical.choose_spec hx).uniq h
noncomputable def N1 (p:List Int):Nat->List (List Int)
 |0=>[]
 |i+1=>if (i:Int)∈(N1 p i).flatten then N1 p i else N1 p i++[o6 p i (ap6 p i)]
structure G5 (p:List Int)(i:Nat)(rs:List (List Int)):Prop where
 ring:∀r∈rs,∃x L,In p x/\O6 p x L/\r=o6 p x L/\(∀y∈r,x<=y)/\x < i
 nd:rs.flatten.Nodup
 all:∀u:Int,0<=u->u < i->u∈rs.flatten
 ord:rs.Pairwise fun r s=>r.getD 0 0 < s.getD 0 0
 eq:rs=N1 p i
theorem ap7 (p:List Int):G5 p 0 []:=⟨fun r hr=>by simp at hr,cv7,fun u h1 h2=>by omega,List.Pairwise.nil,rfl⟩
theorem ap8 {p:List Int}{i:Nat}{rs:List (List Int)}(h:G5 p i rs)(hi:(i:Int)∈rs.flatten):G5 p (i+1) rs:=by
 refine ⟨fun r hr=> ?_,h.nd,fun u h1 h2=> ?_,h.ord,?_⟩
 · obtain ⟨x,L,a,b,c,d,e⟩:=h.ring r hr;exact ⟨x,L,a,b,c,d,by omega⟩
 · by_cases e:u=i
   · subst e;exact hi
   · exact h.all u h1 (by omega)
 · show rs=if (i:Int)∈(N1 p i).flatten then N1 p i else N1 p i++[o6 p i (ap6 p i)]
   rw[<-h.eq,if_pos hi]
theorem ab4 {p:List Int}{i:Nat}{rs:List (List Int)}(h:G5 p i rs){L:Nat}(hL:O6 p i L)(hi:(i:Int)∉rs.flatten):∀y∈o6 p i L,y∉rs.flatten:=by
 intro y hy hm;obtain ⟨r,hr,hyr⟩:=ct2.mp hm;obtain ⟨x,M,a,b,rfl,d,e⟩:=h.ring r hr;exact hi (ct2.mpr ⟨_,hr,av2 b hL hyr hy⟩)
theorem ap9 {p:List Int}(t:D8 p){i:Nat}{rs:List (List Int)}(h:G5 p i rs)(hx:In p i){L:Nat}(hL:O6 p i L)(hi:(i:Int)∉rs.flatten):G5 p (i+1) (rs++[o6 p i L]):=by
 have fr:=ab4 h hL hi;refine ⟨fun r hr=> ?_,?_,fun u h1 h2=> ?_,?_,?_⟩
 · rcases cp4.mp hr with z|z
   · obtain ⟨x,L,a,b,c,d,e⟩:=h.ring r z;exact ⟨x,L,a,b,c,d,by omega⟩
   · have:r=o6 p i L:=by simpa using z
     subst this;refine ⟨i,L,hx,hL,rfl,fun y hy=> ?_,by omega⟩;have y0:=(U0 t hx y hy).1
     by_cases hlt:y < i
     · exact absurd (h.all y y0 hlt) (fr y hy)
     · omega
 · rw[cq6,cr1];refine cx1.mpr ⟨h.nd,ab3 t hx fun j j0 j1=>hL.least j j0 j1,fun a ha b hb e=> ?_⟩;subst e;exact fr a hb ha
 · rw[cq6,cr1]
   by_cases e:u=i
   · subst e;exact cp8 _ (R5.mpr ⟨0,hL.pos,rfl⟩)
   · exact cs3 _ (h.all u h1 (by omega))
 · refine List.pairwise_append.mpr ⟨h.ord,List.pairwise_singleton _ _,fun r hr s hs=> ?_⟩
   have:s=o6 p i L:=by simpa using hs
   subst this;obtain ⟨x,M,a,b,rfl,d,e⟩:=h.ring r hr;rw[ap5 b.pos,ap5 hL.pos];exact e
 · show rs++[o6 p i L]=if (i:Int)∈(N1 p i).flatten then N1 p i else N1 p i++[o6 p i (ap6 p i)]
   rw[<-h.eq,if_neg hi,bv2 hL]
end Mth
namespace L2
open PySem PySem.Spec PyProof.Rows
def ck0 (i j:Int):Prop:=0 < j/\j<=1000000000000000000000000000000
theorem bv3 {X:Cx}:L9 X (binaryOp .FloorDiv) (rI ck0 fun i j=> .int (i/j)):=opI fun i j _ _ _ _ _ hc q=>by
 have hp:Builtin.divisionGoesByPylong i j=false:=by
   refine PyProof.noPylong_of_log2 ?_;obtain ⟨h1,h2⟩:=hc;have:j.natAbs < 2^9000:=cu2 (show j.natAbs<=1000000000000000000000000000000 by omega) (by decide+kernel);exact (cz4 (by omega)).mpr this
 refine floordiv_int (by have:=hc.1;omega) ?_ (.inl hp);rw[cz3 i (by have:=hc.1;omega)];exact q
end L2
namespace Mth
theorem bg5 {p:List Int}{x:Int}{m:Nat}(h:1<=m):L2.X1 ((o6 p x m).map L2.V.int) (-1)=some (.int (it p (m - 1) x)):=by
 obtain ⟨k,rfl⟩:∃k,m=k+1:=⟨m - 1,by omega⟩;rw[ae2,cp5];exact L2.cm6 _ _
end Mth
namespace L2
open PySem PySem.Spec PyProof.Rows
section
variable {X:Cx} {e:Expr} {t:TA} {p pos:Pos}
theorem ca2 (hc:X.calm=true)(hm:X.mg "min"=none)(ha:PA X [e] t)(hg:Gl X "min":=by rfl)(he:starEach [e] X.env=(false,eval e X.env)::starEach [] X.env:=by rfl):
   PE X (.Call (.Name "min" p) [e] [] pos) (S3 (fun xs H Q=>∃(p:Addr) (ns:List Int),xs=[.ref p]/\i8 X.K H p (ns.map V.int)/\ns≠[]/\∀m,m∈ns->(∀x∈ns,m<=x)->Q (.int m) H) t):=
 M3 (bp2 hc) hg hm au7 ha (by decide) (by decide) he rfl
end
end L2
namespace L2
open PySem PySem.Spec PyProof.Rows
section
variable {X:Cx} {o e:Expr} {to:TE} {t:TA} {apos pos p:Pos}
theorem av3 (ho:PE X o to)(ha:PA X [e] t)
   (hbase:attributeBase o "extend" X.env (eval o X.env)=eval o X.env:=by rfl)
   (hfew:((backTo pos (starEach [e] X.env)).all (fun x=> !x.1)&&(backToKw pos (keywordEach [] X.env)).all (fun x=>x.1.isSome)
     &&decide ([e].length+([]:List Keyword).length+(if ([]:List Keyword).isEmpty then 0 else 1) < 30))=true:=by rfl)
   (hline:(apos.endLine==pos.line)=true:=by rfl) (hs:starEach [e] X.env=(false,eval e X.env)::starEach [] X.env:=by rfl) (hplain:(backTo pos (starEach [] X.env)).any (·.1)=false:=by rfl):
   PE X (.Call (.Attribute o "extend" apos) [e] [] pos) (tBM X.K "list" bg3 to t):=
 ao7 PySem.F.plainAttrs_list PySem.F.slot_list_extend PySem.F.type_list_extend bo0 ho ha hbase hfew hline hs hplain
def ca3 (K:PySem.W.Frag)(t:TA):TE:=S3 (fun xs H Q=>∃p ys,xs=[.ref p]/\(i8 K H p ys\/Y3 K H p ys)/\∀l,H l=none->Q (.ref l) (e8 H l (.lst ys))) t
theorem aq0 (K:PySem.W.Frag)(hm:X.mg "list"=none)(ha:PA X [e] t)(hK:X.K=K:=by rfl)(hg:Gl X "list":=by rfl)(he:starEach [e] X.env=(false,eval e X.env)::starEach [] X.env:=by rfl):
   PE X (.Call (.Name "list" p) [e] [] pos) (ca3 K t):=by
 subst hK;exact aa4 hm ha hg he
end
theorem Z0 (xs:List V)(k:Nat)(h:k<=xs.length):C6 xs (some (k:Int)) none=xs.drop k:=by
 unfold C6;rw[HT.cn4,HT.cm5,cx7 h,cv5 (by rw[cq9];omega)]
theorem ah0 (xs:List V)(k:Nat)(h:k<=xs.length):C6 xs none (some (k:Int))=xs.take k:=by
 unfold C6;rw[HT.cn4,HT.cm5,cx7 h,List.drop_zero,Nat.sub_zero]
def V3 (H:Hp)(e:Addr):List Int:=match H e with
 |some (.lst xs)=>xs.map ap4
 |_=>[]
theorem ba0 {H:Hp}{e:Addr}{r:List Int}(h:H e=some (.lst (r.map V.int))):V3 H e=r:=by
 unfold V3;rw[h];show (r.map V.int).map ap4=r;rw[cu1]
 conv=>rhs;rw[<-cx6 r]
 rfl
theorem bj3 {H:Hp}{as:List Addr}{rs:List (List Int)}(h:x8 H as rs):as.map (V3 H)=rs:=by
 refine cu6 fun j=> ?_
 rw[cq4]
 by_cases hj:j < as.length
 · have e1:as[j]? =some as[j]:=cp1 hj;have e2:rs[j]? =some (rs[j]'(by rw[<-h.1];exact hj)):=cp1 _;rw[e1,e2];show some (V3 H as[j])=_;rw[ba0 (h.2 j _ _ e1 e2)]
 · rw[cr8 (by omega),cr8 (by rw[<-h.1];omega)];rfl
def bj4:V->Addr
 | .ref a=>a
 |_=>0
theorem bq2 {ys:List V}{xs:List Addr}(h:ys.Perm (xs.map V.ref)):∃ps:List Addr,ys=ps.map V.ref/\ps.Perm xs:=by
 refine ⟨ys.map bj4,?_,?_⟩
 · rw[cu1]
   conv=>lhs;rw[<-cx6 ys]
   refine cv4 fun y hy=> ?_
   obtain ⟨i,_,rfl⟩:=cs6.mp (h.mem_iff.mp hy);rfl
 · have:=h.map bj4;rw[cu1] at this
   have e:xs.map (bj4∘V.ref)=xs:=by
     conv=>rhs;rw[<-cx6 xs]
     rfl
   rw[e] at this;exact this
end L2
namespace Mth
theorem av4 {p:List Int}{x:Int}{L k:Nat}(h:O6 p x L)(hk:k<=L):(o6 p x L).drop k++(o6 p x L).take k=o6 p (it p k x) L:=by
 refine cu6 fun j=> ?_
 by_cases hj:j < L
 · rw[aa5 hj,<-M7]
   by_cases hj1:j < L - k
   · rw[cs8 (by rw[cq9,A4];omega),cx8,aa5 (by omega),cx9]
   · rw[cs4 (by rw[cq9,A4];omega),cq9,A4,ct0 (by omega),aa5 (by omega)]
     have:it p (j - (L - k)) x=it p (j+k) x:=by
       conv=>rhs;rw[show j+k=(j - (L - k))+L by omega,M7,h.back]
     rw[this]
 · rw[cr8 (by rw[co9,cq9,cq2,A4];omega),cr8 (by rw[A4];omega)]
theorem bv4 {α:Type}(r:List α)(k:Nat):(r.drop k++r.take k).Perm r:=by
 refine cy4.trans ?_;rw[cs7]
theorem ca4 {p:List Int}{rs:List (List Int)}(t:D8 p)(h:G5 p p.length rs):rs.flatten.Perm (L2.D6 0 p.length):=by
 have i1:D8 rs.flatten:=by
   have hin:∀x∈rs.flatten,In p x:=fun x hx=>by
     obtain ⟨r,hr,hxr⟩:=ct2.mp hx;obtain ⟨y,L,a,b,rfl,_⟩:=h.ring r hr;exact U0 t a x hxr
   have l1:=G6 h.nd hin
   have l2:p.length<=rs.flatten.length:=by
     have:=G6 (p:=rs.flatten) (r:=L2.D6 0 p.length) (S9 _) fun x hx=>by
       have hx':=M4.mp hx;obtain ⟨r,hr,hxr⟩:=ct2.mp (h.all x hx'.1 hx'.2);refine ⟨hx'.1,?_⟩
       exact Classical.byContradiction fun hn=>by
         have hle:(rs.flatten.length:Int)<=x:=by omega
         have hlt:=G6 h.nd hin
         have q:(L2.D6 0 (x.toNat+1)).length<=rs.flatten.length:=by
           have sub:∀z∈L2.D6 0 (x.toNat+1),z∈rs.flatten:=fun z hz=>by
             have hz':=M4.mp hz;exact h.all z hz'.1 (by have:=hx'.2;omega)
           have:∀(l m:List Int),l.Nodup->(∀z∈l,z∈m)->l.length<=m.length:=by
             intro l
             induction l with
             |nil=>intro m _ _;exact cs1 _
             |cons c l ih=>
              intro m nd hs;obtain ⟨n1,n2⟩:=cs5.mp nd;obtain ⟨s,u,rfl⟩:=cz2 (hs c cp7)
              have:=ih (s++u) n2 fun z hz=>by
                have hzm:=hs z (cp6 _ hz)
                rcases cp4.mp hzm with g|g
                · exact cs3 _ g
                · rcases cq5.mp g with g|g
                  · subst g;exact absurd hz n1
                  · exact cp8 _ g
              rw[co9] at this;rw[co9,cp9,cp9];omega
           exact this _ _ (S9 _) sub
         rw[A6] at q;have:=hx'.1;omega
     rw[A6] at this;exact this
   exact ⟨h.nd,fun x hx=>(hin x hx).1,fun x hx=>by have:=(hin x hx).2;omega⟩
 have hl:rs.flatten.length=p.length:=by
   have l1:=G6 h.nd fun x hx=>by
     obtain ⟨r,hr,hxr⟩:=ct2.mp hx;obtain ⟨y,L,a,b,rfl,_⟩:=h.ring r hr;exact U0 t a x hxr
   have l2:p.length<=rs.flatten.length:=by
     have:=G6 (p:=rs.flatten) (r:=L2.D6 0 p.length) (S9 _) fun x hx=>by
       have hx':=M4.mp hx;have hm:=h.all x hx'.1 hx'.2;exact ⟨hx'.1,i1.hi x hm⟩
     rw[A6] at this;exact this
   omega
 have:=i1.perm;rw[hl] at this;exact this
end Mth
namespace L2
open PySem PySem.Spec PyProof.Rows
theorem ba1:bootBuiltins "sorted"=some (.builtin "sorted"):=by decide+kernel
section
variable {X:Cx}
theorem be6 {pins:List (Addr×Obj)}{σ:St}{H:Hp}{s:Shared}(I:j9 X pins σ H s){vs:List Value}{out:Array Value}{ms:List Int}(h:IntsAre out.toList ms)(hl:ms.length<=sizeLine):
   j9 X pins σ (e8 H (s.heap.objs.size+1) (.lst (ms.map V.int))) {s with heap:=sortedAll s.heap vs out,toks:=s.toks}:=by
 obtain ⟨e,he⟩:=sortedAll_at s.heap vs out;refine I.laid (t':=s.toks) (fun _ _ q=>sortedAll_old q) (db1 _) (show B1 X.prog X.w _ _ _ (.lst (ms.map V.int)) from ⟨by rw[co8];exact hl,out.toList,e,ag5 h,he⟩)
variable {e:Expr} {t:TA} {p pos kpos:Pos}
theorem ah1 {j:Nat}{kp:Pos}(hm:X.mg "sorted"=none)(ha:PA X [e] t)(hg:Gl X "sorted":=by rfl)
   (he:backTo pos (starEach [e] X.env)=(false,eval e X.env)::backTo pos (starEach [] X.env):=by rfl) (hplain:(backTo pos (starEach [e] X.env)).any (·.1)=false:=by rfl):
   PE X (.Call (.Name "sorted" p) [e] [⟨some "reverse",.Constant (.bool true) j kp,kpos⟩] pos) (S3 (fun xs H Q=>∃(p:Addr) (ns:List Int),xs=[.ref p]/\i8 X.K H p (ns.map V.int)/\ns.length < 64/\∀(ms:List Int) l,ms.Perm ns->ms.Pairwise (· ≥ ·)->H l=none->Q (.ref l) (e8 H l (.lst (ms.map V.int)))) t):=by
 intro pins s σ H Q I h;refine wpAny_Call_Name_kw (S0 I hg hm ba1 ?_ (by decide) (by decide));refine callWith_kw (y9 (ha pos pins s σ H _ I h) fun us s1 ⟨vs,H1,I1,r1,q1⟩=> ?_) he hplain;obtain ⟨a,ns,rfl,hp,h64,q⟩:=q1;obtain ⟨u,rfl,rx⟩:=M2 r1;cases rx;have hk:PK X [⟨some "reverse",.Constant (.bool true) j kp,kpos⟩] (ao5 (tC (.bl true)) ay4):=bz3 B5 cf3
 refine y9 (hk pos pins s1 σ H1 (fun zs H2=>zs=[.bl true]/\H2=H1) I1 ⟨rfl,rfl⟩) fun ws s2 ⟨zs,H2,I2,rz,ez,eH⟩=> ?_
 subst ez eH;obtain ⟨u2,rfl,rx2⟩:=M2 rz;cases (show u2=Value.bool true from rx2);obtain ⟨its,rv,pl,_⟩:=I2.list hp;have ia:=ad1 rv;have il:=ia.length
 refine sorted_ints_rev (b:=true) pl.isList ia (by omega) fun out ms a1 a2 a3=> ?_
 have hl:ms.length<=sizeLine:=by rw[a2.length_eq];exact cr5 (m4 (by omega))
 exact ⟨.ref (s2.heap.objs.size+1),_,be6 I2 a1 hl,rfl,q ms _ a2 a3 (I2.hok.fresh (db1 _))⟩
end
end L2
namespace Mth
structure T2 (ls:List Nat)(h:Nat):Prop where
 pos:0 < h
 up:∀l∈ls,l∣h
 least:∀m,(∀l∈ls,l∣m)->h∣m
theorem T2.perm {ls ms:List Nat}{a:Nat}(x:T2 ls a)(h:ms.Perm ls):T2 ms a:=⟨x.pos,fun l hl=>x.up l (h.mem_iff.mp hl),fun m hm=>x.least m fun l hl=>hm l (h.mem_iff.mpr hl)⟩
theorem T2.nil:T2 [] 1:=⟨by decide,fun l hl=>by simp at hl,fun m _=>Nat.one_dvd m⟩
theorem T2.snoc {ls:List Nat}{h l:Nat}(x:T2 ls h)(hl:0 < l):T2 (ls++[l]) (Nat.lcm h l):=by
 refine ⟨Nat.lcm_pos x.pos hl,fun m hm=> ?_,fun m hm=> ?_⟩
 · rcases cp4.mp hm with z|z
   · exact Nat.dvd_trans (x.up m z) (Nat.dvd_lcm_left h l)
   · have:m=l:=by simpa using z
     rw[this];exact Nat.dvd_lcm_right h l
 · exact Nat.lcm_dvd (x.least m fun k hk=>hm k (cs3 _ hk)) (hm l (cp8 _ (by simp)))
theorem ca5 (a b:Nat):a/cz9 a b*b=Nat.lcm a b:=by
 unfold Nat.lcm;rw[Nat.div_mul_right_comm (Nat.gcd_dvd_left a b)]
end Mth
namespace L2
open PySem PySem.Spec PyProof.Rows
section
variable {X:Cx}
def ba2:V->List V->Hp->VK->Prop:=fun x vs H Q=>∃(l:Addr) (ns:List Int) (v:Int),x= .ref l/\vs=[.int v]/\H l=some (.lst (ns.map V.int))/\Q (.int ((ns.countP fun i=>decide (i=v):Nat):Int)) H
theorem bv5:MtM X "list.count" ba2:=by
 intro pins s σ H x vs v us Q I rx rv h;obtain ⟨l,ns,k,rfl,rfl,hH,q⟩:=h;cases rx;obtain ⟨u,rfl,t,rfl⟩:=rv.one;obtain ⟨z,its,n,r,hl,e⟩:=I.lstM hH
 refine call_meets F.slot_list_count ⟨_,e,rfl⟩ F.entry_list_count (F.args_list_count_2 _ _)
   (SeqAt.list_countAt l its.toArray n none #[] (.int k t) (eqU (.int k))) ⟨e,fun y hy=> ?_,?_⟩
 · exact ad2 (x:= .int k) ⟨t,rfl⟩ rfl r (by rw[cu3];intro y hy;obtain ⟨i,_,rfl⟩:=cs6.mp hy;rfl) y (by simpa using hy)
 · have cnt:∀(ms:List Int) (us:List Value),o5 (ms.map V.int) us->us.countP (eqU (.int k))=ms.countP fun i=>decide (i=k):=by
     intro ms
     induction ms with
     |nil=>intro us h;rw[cw0] at h;cases h;rfl
     |cons m ms ih=>
      intro us h;rw[cr0] at h
      cases h with
      |cons h1 h2=>
       obtain ⟨t',rfl⟩:=h1;rw[da5,da5,ih _ h2,ay7 (y:= .int m) ⟨t',rfl⟩ rfl]
       congr 1
   rw[show its.toArray.toList.countP (eqU (.int k))=ns.countP fun i=>decide (i=k) from cnt ns its r];exact ⟨.int _,H,I.tok _,⟨_,rfl⟩,q⟩
theorem bv6 {o e:Expr}{to:TE}{t:TA}{apos pos:Pos}(ho:PE X o to)(ha:PA X [e] t)
   (hbase:attributeBase o "count" X.env (eval o X.env)=eval o X.env:=by rfl)
   (hfew:((backTo pos (starEach [e] X.env)).all (fun x=> !x.1)&&(backToKw pos (keywordEach [] X.env)).all (fun x=>x.1.isSome)
     &&decide ([e].length+([]:List Keyword).length+(if ([]:List Keyword).isEmpty then 0 else 1) < 30))=true:=by rfl)
   (hline:(apos.endLine==pos.line)=true:=by rfl) (hs:starEach [e] X.env=(false,eval e X.env)::starEach [] X.env:=by rfl) (hplain:(backTo pos (starEach [] X.env)).any (·.1)=false:=by rfl):
   PE X (.Call (.Attribute o "count" apos) [e] [] pos) (tBM X.K "list" ba2 to t):=
 ao7 PySem.F.plainAttrs_list PySem.F.slot_list_count PySem.F.type_list_count bv5 ho ha hbase hfew hline hs hplain
end
end L2
namespace Mth
theorem ca6 {n c:Int}(hn:1<=n)(hc:0<=c):∃mx,(if (if c < n then c else n) > 1 then (if c < n then c else n) else (1:Int))=mx/\1<=mx/\mx<=n:=by
 refine ⟨_,rfl,?_⟩
 split<;>split at* <;>omega
end Mth
namespace L2
open PySem PySem.Spec PyProof.Rows
theorem al0:bootBuiltins "tuple"=some (.type "tuple"):=by decide+kernel
theorem ah2:bootBuiltins "str"=some (.type "str"):=by decide+kernel
end L2
namespace L2
open PySem PySem.Spec PyProof.Rows
theorem D0.hide {P:Program}{w:World}{H:Hp}{h:Heap}{as:List Addr}(x:D0 P w H h)(hn:∀b∈as,H b=none):D0 P w H (PySem.W.hideAll h as):=fun a o e=>
 (x a o e).stay (fun b u hb q=>PySem.W.hideAll_get _ q fun hm=>by
   have:=hn b hm
   rcases hb with rfl|hb
   · rw[e] at this;cases this
   · rw[hb] at this;cases this) (fun _ q=>q) fun _ _ q=>q
def X2 (P:Program)(w:World):X0:=fun outer H s E e s'=>
 ∃(a t C:Addr) (vs:List Value) (B:Heap) (H':Hp),e= .ref a/\s'.os=s.os/\AllBare s'.gens/\Un (C5 outer) [] H H' s.heap s'.heap/\D0 P w H' B/\
  (∀b o,s.heap.get? b=some o->H b=none->b∉C5 outer->B.get? b=some o)/\(∀b o,s.heap.get? b=some o->b∉C5 outer->∃o',B.get? b=some o')/\
  Heap.FlyingW B outer a (.ref C) (.ref t) s'.heap/\s'.heap.TupAt t vs/\B.get? t=none/\E (.ref C) none H'
theorem ba3 {fs:List Addr}{H0 H1:Hp}{h0 h1 h2 B:Heap}(u:Un fs [] H0 H1 h0 h1)(kb:∀b o,h0.get? b=some o->H0 b=none->b∉fs->B.get? b=some o)(tb:∀b o,h0.get? b=some o->b∉fs->∃o',B.get? b=some o')
   (st:B.StaysIn h2) (up:h1.UpToSlots h2) (fr:∀b∈fs,∀o,h1.get? b=some o->∀vs,o.data≠.fields vs):Un fs [] H0 H1 h0 h2 where
 keep:=fun b o q n hb _=>st b o (kb b o q n hb)
 slot:=fun b o q n hb hx=>by
   obtain ⟨sl,e⟩:=u.slot b o q n hb hx;obtain ⟨sl2,e2⟩:=up b _ e (fr b hb _ e);exact ⟨sl2,e2⟩
 free:=u.free
 there:=fun b o q hx=>by
   by_cases hb:b∈fs
   · obtain ⟨o',e⟩:=u.there b o q hx;obtain ⟨sl,e2⟩:=up b o' e (fr b hb _ e);exact ⟨_,e2⟩
   · obtain ⟨o',e⟩:=tb b o q hb;exact ⟨o',st b o' e⟩
 tups:=u.tups
 frzs:=u.frzs
 tbls:=u.tbls
def bq3 (X:Cx)(E:XK):Prop:=∀(pins:List (Addr×Obj)) (σ:St) (H:Hp) (s:Shared) (h':Heap) (e C:Addr) (vs:List Value),j9 X pins σ H s->Heap.MadeExcOf s.heap h' e (.ref C) vs->E (.ref C) none H->X.xe (.ref e) {s with heap:=h'}
theorem ba4 {X:Cx}{pins:List (Addr×Obj)}{σ:St}{H:Hp}{s:Shared}(I:j9 X pins σ H s):∀b∈C5 X.stack,∀o,s.heap.get? b=some o->∀vs,o.data≠.fields vs:=fun b hb o ho=>by
 obtain ⟨_,o',ho',hn⟩:=I.stack.mem hb;rw[ho] at ho';cases ho';exact hn
section
variable {P:Program} {w:World} {K:PySem.W.Frag} {mg:Str->Option Value} {base:Heap} {N:List Str} {qual:Str} {scope:Scope} {f:Addr} {cd:Value} {A:Around} {outer:List Env} {s₀:Shared} {H₀:Hp} {E E':XK}
theorem V6 {pins:List (Addr×Obj)}{σ:St}{H:Hp}{s:Shared}(I:j9 (ab2 (X2 P w) P w K mg base N qual scope f cd A outer s₀ H₀ E) pins σ H s){b:Addr}{o:Obj}(h:s₀.heap.get? b=some o)(hb:b∉C5 outer):
   b∉C5 (envOfC qual scope s₀.heap.objs.size f cd::outer):=fun hm=>by
 unfold C5 at hm hb;rw[cu8] at hm;have hf:(envOfC qual scope s₀.heap.objs.size f cd).frame=some s₀.heap.objs.size:=rfl;rw[hf] at hm
 rcases cq5.mp hm with z|z
 · have:=Heap.lt_size h;rw[z] at this;exact absurd this (cv0 _)
 · exact hb z
theorem ah3:bq3 (ab2 (X2 P w) P w K mg base N qual scope f cd A outer s₀ H₀ E) E:=by
 intro pins σ H s h' e C vs I hx hE;show wpAny (model P w) _ (leaving _ (.ref e)) _ _ _
 have hin:∀env∈(envOfC qual scope s₀.heap.objs.size f cd::outer),∀b,env.frame=some b->b∈C5 (envOfC qual scope s₀.heap.objs.size f cd::outer):=fun env he b hb=>cz1.mpr ⟨env,he,hb⟩
 have hst:s.heap.FunFrames base (envOfC qual scope s₀.heap.objs.size f cd::outer):=I.stack;have hsf:∀b∈C5 (envOfC qual scope s₀.heap.objs.size f cd::outer),H b=none:=I.stkFree;have hub:Un (C5 outer) [] H₀ H s₀.heap s.heap:=I.base
 refine wpAny_leaves_madeW (base:=PySem.W.hideAll s.heap (C5 (envOfC qual scope s₀.heap.objs.size f cd::outer))) (h:=s.heap) I.ok.frames rfl (fun b o q=>PySem.W.of_hideAll _ q) (PySem.W.funFrames_hide hst hin) hx fun h2 t fl tup tn up=> ?_
 have up':s.heap.UpToSlots h2:=(Heap.UpToSlots.of_keeps hx.keeps).trans up
 have kb:∀b o,s₀.heap.get? b=some o->H₀ b=none->b∉C5 outer->(PySem.W.hideAll s.heap (C5 (envOfC qual scope s₀.heap.objs.size f cd::outer))).get? b=some o:=fun b o q n hb=>
   PySem.W.hideAll_get _ (hub.keep b o q n hb (by simp)) (V6 I q hb)
 have tb:∀b o,s₀.heap.get? b=some o->b∉C5 outer->∃o',(PySem.W.hideAll s.heap (C5 (envOfC qual scope s₀.heap.objs.size f cd::outer))).get? b=some o':=fun b o q hb=>by
   obtain ⟨o',e'⟩:=hub.there b o q (by simp);exact ⟨o',PySem.W.hideAll_get _ e' (V6 I q hb)⟩
 refine ⟨e,t,C,vs,_,H,rfl,I.os,I.bare,ba3 hub kb tb fl.1 up' (fun b hb o ho=> ?_),I.hok.hide hsf,kb,tb,fl,tup,tn,hE⟩;exact ba4 I b (by show b∈C5 (envOfC qual scope s₀.heap.objs.size f cd::outer);unfold C5 at hb ⊢;rw[cu8];exact cp6 _ hb) o ho
theorem ah4 (imp:∀c d H,E c d H->E' c d H):ag4 (X2 P w) (ab2 (X2 P w) P w K mg base N qual scope f cd A outer s₀ H₀ E') E:=by
 intro pins σ H s e s' I h;obtain ⟨a,t,C,vs,B,H',rfl,os,bare,un,hok,kb,tb,fl,tup,tn,hE⟩:=h;show wpAny (model P w) _ (leaving _ (.ref a)) _ _ _;have hub:Un (C5 outer) [] H₀ H s₀.heap s.heap:=I.base;have un':Un (C5 (envOfC qual scope s₀.heap.objs.size f cd::outer)) [] H H' s.heap s'.heap:=un
 have sub:∀b,b∈C5 outer->b∈C5 (envOfC qual scope s₀.heap.objs.size f cd::outer):=fun b hb=>by
   unfold C5 at hb ⊢;rw[cu8];exact cp6 _ hb
 refine wpAny_leaves_onW (L:=s₀.heap.objs.size) I.ok.frames rfl fl fun h2 fl2 up=> ?_
 have kb':∀b o,s₀.heap.get? b=some o->H₀ b=none->b∉C5 outer->B.get? b=some o:=fun b o q n hb=>
   kb b o (hub.keep b o q n hb (by simp)) (hub.free b o q n (by simp)) (V6 I q hb)
 have tb':∀b o,s₀.heap.get? b=some o->b∉C5 outer->∃o',B.get? b=some o':=fun b o q hb=>by
   obtain ⟨o',e'⟩:=hub.there b o q (by simp);exact tb b o' e' (V6 I q hb)
 have plain:∀b∈C5 outer,∀o,s'.heap.get? b=some o->∀vs,o.data≠.fields vs:=fun b hb o ho=>by
   obtain ⟨_,o1,ho1,hn⟩:=I.stack.mem (sub b hb);obtain ⟨sl,e1⟩:=un'.slot b o1 ho1 (I.stkFree b (sub b hb)) (sub b hb) (by simp);rw[ho] at e1;cases e1;exact hn
 have unw:Un (C5 outer) [] H₀ H' s₀.heap s'.heap:={
   keep:=fun b o q n hb _=>un'.keep b o (hub.keep b o q n hb (by simp)) (hub.free b o q n (by simp)) (V6 I q hb) (by simp)
   slot:=fun b o q n hb _=>by
     obtain ⟨sl,e1⟩:=hub.slot b o q n hb (by simp);obtain ⟨sl2,e2⟩:=un'.slot b _ e1 (hub.free b o q n (by simp)) (sub b hb) (by simp);exact ⟨sl2,e2⟩
   free:=fun b o q n _=>by
     obtain ⟨sl,e1⟩:=hub.any q n (by simp);exact un'.free b _ e1 (hub.free b o q n (by simp)) (by simp)
   there:=fun b o q _=>by
     obtain ⟨o',e1⟩:=hub.there b o q (by simp);exact un'.there b o' e1 (by simp)
   tups:=fun b xs q=>un'.tups b xs (hub.tups b xs q)
   frzs:=fun b o u q=>un'.frzs b o u (hub.frzs b o u q)
   tbls:=fun b ps q=>by
     obtain ⟨m1,q1⟩:=hub.tbls b ps q;obtain ⟨m2,q2⟩:=un'.tbls b _ q1
     exact ⟨m1++m2,by rw[q2,Array.append_assoc]⟩}
 exact ⟨a,t,C,vs,B,H',rfl,os.trans I.os,bare,ba3 unw kb' tb' fl2.1 up plain,hok,kb',tb',fl2,tup.of_slots up,tn,imp _ _ _ hE⟩
end
theorem bg6 {K:PySem.W.Frag}{h:Heap}{C:Addr}{bmB:List Value}{newId:String}(X:K.In h)(q:PySem.W.excIn K C bmB newId=true):
   ∃(bm:List Value) (N:Addr) (nm qn:Str) (bs:List Value) (hdct:Bool) (sn:List Str) (sub:List Value) (ab:Bool) (col:Option Bool) (dd:Option Addr) (k0 k1 k2 k3 k5:Option Value) (mN:Str->Option Value),
    K.lookup C=some (excClassObj nm qn C N bs bm hdct sn sub ab col dd k0 k1 k2 k3 k5 newId)/\h.Ns N mN/\mN "__init__"=none/\OwnTail h bmB bm:=by
 unfold PySem.W.excIn at q
 split at q
 · rename_i dd cd sl look
   split at q
   · rename_i C' bm k0 k1 k2 k3 n k5 hmro hsl;rw[cs9,cs9,cs9,cs9,cs9] at q;obtain ⟨⟨⟨⟨⟨q1,q2⟩,q3⟩,q4⟩,q5⟩,q6⟩:=q;have e1:C'=C:=beq_iff_eq.mp q1;have e2:n=newId:=beq_iff_eq.mp q2;subst e1 e2;obtain ⟨nm,bs,mro,ns,qn,hd,sn,sub,ab,col,del⟩:=cd;have e3:mro= .ref C'::bm:=hmro
     have e4:del=false:=by
       cases del with
       |false=>rfl
       |true=>cases q3
     subst e3 e4
     have e5:sl= #[k0,k1,k2,k3,some (.builtin n),k5]:=by
       apply Array.ext'
       exact hsl
     subst e5;exact ⟨bm,ns,nm,qn,bs,hd,sn,sub,ab,col,dd,k0,k1,k2,k3,k5,_,look,.of_isNs (PySem.W.isNs_of_in X q5),PySem.W.nsMap_none_of_in X q5 (beq_iff_eq.mp q6),PySem.W.tail_of_in X q4⟩
   · cases q
 · cases q
abbrev veB:List Value:=[.type "ValueError",.type "Exception",.type "BaseException",.type "object"]
structure Z1 (K:PySem.W.Frag)(mg:Str->Option Value)(x:Str)(C:Addr):Prop where
 mg:mg x=some (.ref C)
 ex:PySem.W.excIn K C veB "ValueError.__new__"=true
section
variable {X:Cx}
theorem am8 {x:Str}{C:Addr}{E:XK}{e:Expr}{te:TE}{np cpos pos:Pos}(R:bq3 X E)(hc:X.calm=true)(c:Z1 X.K X.mg x C)(he:PE X e te)(hg:Gl X x:=by rfl)
   (hs:starEach [e] X.env=(false,eval e X.env)::starEach [] X.env:=by rfl) (hd:(x==("__debug__":Str))=false:=by decide):
   PS X (.Raise (some (.Call (.Name x np) [e] [] cpos)) none pos) (fun _ σ H=>te σ H fun _ H1=>E (.ref C) none H1):=by
 intro pins s σ H D I h;obtain ⟨bm,N,nm,qn,bs,hdct,sn,sub,ab,col,dd,k0,k1,k2,k3,k5,mN,hC,hN,hni,T⟩:=bg6 I.ok.mod.kin c.ex
 refine wpAny_Raise_call_subT (C:=C) (nm:=nm) (q:=qn) (N:=N) (bs:=bs) (bm:=bm) (hdct:=hdct) (sn:=sn) (sub:=sub) (ab:=ab) (col:=col) (dd:=dd) (k0:=k0) (k1:=k1) (k2:=k2) (k3:=k3) (k5:=k5)
   PySem.F.excBase_ValueError (mN:=mN) (T.hasType PySem.F.excBase_ValueError.hasBase) (I.ok.hd hc) (by rw[hs];rfl) hni (X9 I hg c.mg ⟨rfl,?_⟩ hd)
 rw[hs];refine Calls.evalArgs_plain (Calls.spliced_cons (y9 (he pins s σ H _ I h) fun v s1 ⟨x,H1,I1,rx,q⟩=>Calls.spliced_nil ?_));exact ⟨rfl,(by show 1<=sizeLine;decide),I1.kIn _ _ hC,hN.keeps I1.bk,T.keeps I1.bk,fun h' e' hm=>R pins σ H1 s1 h' e' C _ I1 hm q⟩
end
section
variable {P:Program} {w:World} {K:PySem.W.Frag} {mg:Str->Option Value} {base:Heap}
theorem q9.lift {k:Nat}{f:Addr}{fd:FuncData}{ps:List Str}{sp:Sp}{CX:X0}(F:q9 P w K mg base C3 k f fd ps sp):q9 P w K mg base CX k f fd ps sp:=
 ⟨F.len,fun A outer s H args us vs Q E hr e0 hb hv hs=>codeAny_mono (F.run A outer s H args us vs Q E hr e0 hb hv hs) fun r s' h=>by
   cases r with
   |error e=>exact (show False from h).elim
   |ok v=>cases v<;>exact h⟩
theorem q9.or {k:Nat}{f:Addr}{fd:FuncData}{ps:List Str}{sp sp':Sp}{CX:X0}(F:q9 P w K mg base CX k f fd ps sp)(G:q9 P w K mg base CX k f fd ps sp'):q9 P w K mg base CX k f fd ps (fun vs H Q E=>sp vs H Q E\/sp' vs H Q E):=
 ⟨fun vs H Q E h=>h.elim (F.len vs H Q E) (G.len vs H Q E),fun A outer s H args us vs Q E hr e0 hb hv hs=>hs.elim (F.run A outer s H args us vs Q E hr e0 hb hv) (G.run A outer s H args us vs Q E hr e0 hb hv)⟩
theorem B6.okx {x qual:Str}{st:Stmt}{f:Addr}{fd:FuncData}{N ps:List Str}{k:Nat}{sp:Sp}(F:B6 K x qual st f fd)(S:r6 N ps (m6 st))(len:∀vs H Q E,sp vs H Q E->vs.length=ps.length)
   (hbody:∀(cdv:Value) (A:Around) (outer:List Env) (s:Shared) (H:Hp) (vs:List V) (Q:VK) (E:XK),A1 k (A.deeper (envOfC qual (m6 st) s.heap.objs.size f cdv))->sp vs H Q E->
     ∃t,W9 (ab2 (X2 P w) P w K mg base N qual (m6 st) f cdv A outer s H E) (R3 st) t/\t {nx:=fun _ H'=>Q .non H',rt:=Q} (X5 N vs) H):q9 P w K mg base (X2 P w) (k+1) f fd ps sp:=by
 obtain ⟨oc,od,kV,doc,pm,an,cdv,ct,osl,rfl,lk,hcd⟩:=F.ex
 exact by1 lk hcd S len fun A outer s H vs Q E hr hsp=>hbody cdv A outer s H vs Q E hr hsp
def N2 (P:Program)(w:World)(K:PySem.W.Frag)(mg:Str->Option Value)(base:Heap)(x:Str)(k:Nat)(ps:List Str)(sp:Sp):Prop:=
 ∃(f:Addr) (fd:FuncData),mg x=some (.ref f)/\PySem.W.keepIn K (.ref f)=true/\X4 K fd ps []/\q9 P w K mg base (X2 P w) k f fd ps sp
end
section
variable {X:Cx} {x:Str} {k:Nat} {ps:List Str} {sp:Sp} {e:Expr} {es:List Expr} {t:TA} {p pos:Pos} {E:XK}
theorem ar8 (c:N2 X.prog X.w X.K X.mg X.base x k ps sp)(hr:A1 k X.A)(hx:ag4 (X2 X.prog X.w) X E)(ha:PA X (e::es) t)(hg:Gl X x:=by rfl)(hdb:(x==("__debug__":Str))=false:=by decide)
   (he:starEach (e::es) X.env=(false,eval e X.env)::starEach es X.env:=by rfl) (hpl:(backTo pos (starEach es X.env)).any (·.1)=false:=by rfl):PE X (.Call (.Name x p) (e::es) [] pos) (aj8 sp [] E t):=by
 obtain ⟨f,fd,h1,h2,h3,h4⟩:=c;exact bg0 h4 hr hg h1 h2 h3 .nil hx ha hdb he hpl
end
end L2
namespace L2
open PySem PySem.Spec PyProof.Rows
theorem B1.get {P:Program}{w:World}{H:Hp}{h:Heap}{a:Addr}{o:HO}(x:B1 P w H h a o):∃u,h.get? a=some u:=by
 cases o with
 |lst xs=>obtain ⟨_,_,_,_,e⟩:=x;exact ⟨_,e⟩
 |tup xs=>obtain ⟨_,_,_,ob,e,_⟩:=x;exact ⟨_,e⟩
 |dK kvs=>obtain ⟨_,_,_,_,o,_,_,e,_⟩:=x;exact ⟨_,e⟩
 |dT kvs=>obtain ⟨_,_,_,_,o,_,_,e,_⟩:=x;exact ⟨_,e⟩
 |set S n=>obtain ⟨o,_,_,_,e,_⟩:=x;exact ⟨_,e⟩
 |ins C dx fs=>obtain ⟨_,_,_,e,_⟩:=x;exact ⟨_,e⟩
 |own y=>obtain ⟨_,e⟩:=x;exact ⟨_,e⟩
 |xd fs=>obtain ⟨_,⟨_,_,_,e,_⟩,_⟩:=x;exact ⟨_,e⟩
 |rng lo hi=>obtain ⟨_,_,_,e⟩:=x;exact ⟨_,e⟩
 |frz ob u=>obtain ⟨e,_⟩:=x;exact ⟨_,e⟩
 |tbl ps=>exact ⟨_,show h.get? a=some _ from x⟩
 |met f y=>exact ⟨_,show h.get? a=some _ from x⟩
 |ext φ=>obtain ⟨_,⟨_,e⟩,_⟩:=x;exact ⟨_,e⟩
def W2 (a C:Addr):HO:= .ext fun h=>∃oe vs,h.get? a=some oe/\oe.cls= .ref C/\oe.data= .fields vs
section
variable {X:Cx} {pins:List (Addr×Obj)} {σ:St} {H H':Hp} {s s':Shared}
theorem ca7 {M:Model}{A:Around}{E:Value->Shared->Prop}{i:Nat}{n:Str}{pos:Pos}{Q:Unit->Shared->Prop}(I:j9 X pins σ H s)(hN:X.N.Nodup)(hi:X.N[i]? =some n)(hk:X.env.kindOf n=some .local)
   (h:∀s',j9 X pins (σ.set i none) H s'->Q () s'):wpAny M A (do bindName X.env n .none;unbindBehindTheSuite X.env n pos) Q E s:=by
 obtain ⟨m,hn,hl⟩:=id I.loc
 have hcls:(X.env.scope.kind== .class||(X.env.scope.kind== .module&&X.env.locals !=X.env.globals))=false:=by rw[I.ok.kind];rfl
 have hiσ:i < σ.length:=by rw[I.len];exact (cp0.mp hi).1
 have cne:=I.cne
 refine wpAny_nameGoes_keeps hk hn hcls fun h' v hn' hs=>h _ ?_
 obtain ⟨oL,_,_,hoL,_⟩:=id hn
 have low:∀b o,X.s₀.heap.get? b=some o->b≠X.env.locals:=fun b o e=>cr9 (cr2 (Heap.lt_size e) I.ok.above)
 refine ⟨I.ok,I.os,I.bare,⟨fun b o e n hb hx=> ?_,fun b o e n hb hx=> ?_,I.base.free,fun b o e hx=> ?_,I.base.tups,I.base.frzs,I.base.tbls⟩,⟨_,hn',fun j y v' e1 e2 e3=> ?_⟩,fun y c e=> ?_,I.free,I.freeC,fun p hp=> ?_,fun b ob e=> ?_,by simpa using I.len⟩
 · exact (hs.2 b (low b o e)).trans (I.base.keep b o e n hb hx)
 · obtain ⟨sl,e1⟩:=I.base.slot b o e n hb hx;exact ⟨sl,(hs.2 b (low b o e)).trans e1⟩
 · obtain ⟨o',e1⟩:=I.base.there b o e hx;exact ⟨o',(hs.2 b (low b o e)).trans e1⟩
 · by_cases hj:j=i
   · subst hj;rw[cw5 hiσ] at e2;cases e2
   · rw[cx3 (Ne.symm hj)] at e2;obtain ⟨u',r',q⟩:=hl j y v' e1 e2 e3;refine ⟨u',r',?_⟩
     rcases q with ⟨k,e⟩|⟨k,c,e,z⟩
     · refine .inl ⟨k,?_⟩
       have:y≠n:=fun e=>hj (al8 hN e1 (e▸hi))
       simp [this,e]
     · exact .inr ⟨k,c,e,z.sameBut hs (cne y c e)⟩
 · obtain ⟨w',z⟩:=I.cell y c e;exact ⟨w',z.sameBut hs (cne y c e)⟩
 · obtain ⟨e,n,ne,nf,d⟩:=I.pin p hp;exact ⟨(hs.2 p.1 ne).trans e,n,ne,nf,d⟩
 · refine (I.hok b ob e).stay (fun c w' hc q=>(hs.2 c ?_).trans q) (fun _ q=>q) fun _ _ q=>q
   rintro rfl
   rcases hc with rfl|hc
   · rw[I.free] at e;cases e
   · rw[I.free] at hc;cases hc
abbrev Cx.marked (X:Cx)(a:Addr):Cx:={X with A:=X.A.mark (some (.ref a)),calm:=false,xe:=fun _ _=>False}
theorem j9.mark (I:j9 X pins σ H s)(a:Addr):j9 (X.marked a) pins σ H s:=
 ⟨⟨I.ok.mod,I.ok.kind,I.ok.glob,I.ok.blt,I.ok.above,I.ok.inj,I.ok.has,I.ok.cab,(fun z=>nomatch z),I.ok.frames,I.ok.stk,I.ok.exf,I.ok.bs,I.ok.bsz,I.ok.noex,I.ok.exfs,I.ok.funs,I.ok.frf⟩,I.os,I.bare,I.base,I.loc,I.cell,I.free,I.freeC,I.pin,I.hok,I.len⟩
theorem j9.unmark {a:Addr}(ok:X.Ok)(I:j9 (X.marked a) pins σ H s):j9 X pins σ H s:=
 ⟨ok,I.os,I.bare,I.base,I.loc,I.cell,I.free,I.freeC,I.pin,I.hok,I.len⟩
theorem j9.trackNew {a:Addr}{o:HO}(I:j9 X pins σ H s)(hn:H a=none)(h0:X.s₀.heap.get? a=none)(hL:a≠X.env.locals)(hc:∀x c,X.env.cells.lookup x=some c->c≠a)(hp:∀p∈X.pn++pins,p.1≠a)(new:B1 X.prog X.w (e8 H a o) s.heap a o):
   j9 X pins σ (e8 H a o) s:=by
 refine ⟨I.ok,I.os,I.bare,⟨I.base.keep,I.base.slot,fun b o' e n hx=> ?_,I.base.there,fun b xs e=> ?_,fun b o' u e=> ?_,fun b ps e=> ?_⟩,I.loc,I.cell,?_,fun x c e=> ?_,fun p hq=> ?_,I.hok.track hn new,I.len⟩
 · rw[i6 (fun z=>by rw[z,h0] at e;cases e)];exact I.base.free b o' e n hx
 · have:=I.base.tups b xs e;rw[i6 (i9 this hn)];exact this
 · have:=I.base.frzs b o' u e;rw[i6 (i9 this hn)];exact this
 · obtain ⟨m,this⟩:=I.base.tbls b ps e;exact ⟨m,by rw[i6 (i9 this hn)];exact this⟩
 · rw[i6 (Ne.symm hL)];exact I.free
 · rw[i6 (hc x c e)];exact I.freeC x c e
 · obtain ⟨e,n,ne,nf,d⟩:=I.pin p hq;exact ⟨e,by rw[i6 (hp p hq)];exact n,ne,nf,d⟩
end
def PX (X:Cx)(st:List Stmt)(t:XK->TS):Prop:=
 ∀(pins:List (Addr×Obj)) (s:Shared) (σ:St) (H:Hp) (D:Y2) (E:XK) (E1:Value->Shared->Prop),j9 X pins σ H s->
  (∀(H1:Hp) (s1:Shared) (e:Value) (s':Shared),j9 X pins σ H1 s1->X2 X.prog X.w X.stack H1 s1 E e s'->E1 e s')->t E D σ H->wpAny (model X.prog X.w) X.A (execs st X.env) (SP X pins D) E1 s
section
variable {X:Cx} {x:Str} {k:Nat} {ps:List Str} {sp:Sp} {e:Expr} {es:List Expr} {t:TA} {p pos:Pos}
theorem PA.any (h:PA X.nox es t)(E1:Value->Shared->Prop):PA (X.wish E1) es t:=fun pos pins s σ H Q I hw=>
 wpAny_mono (h pos pins s σ H Q (I.unwish.wish _) hw) (fun _ _ ⟨v,H',I',r,q⟩=>⟨v,H',I'.unwish.wish E1,r,q⟩) fun _ _ z=>False.elim z
theorem bg7 {pins:List (Addr×Obj)}{σ:St}{H:Hp}{s:Shared}{Q:VK}{E:XK}{E1:Value->Shared->Prop}(c:N2 X.prog X.w X.K X.mg X.base x k ps sp)(hr:A1 k X.A)(ha:PA X.nox (e::es) t)(I:j9 X pins σ H s)
   (hx:∀(H1:Hp) (s1:Shared) (e:Value) (s':Shared),j9 X pins σ H1 s1->X2 X.prog X.w X.stack H1 s1 E e s'->E1 e s') (h:aj8 sp [] E t σ H Q) (hg:Gl X x) (hdb:(x==("__debug__":Str))=false)
   (he:starEach (e::es) X.env=(false,eval e X.env)::starEach es X.env) (hpl:(backTo pos (starEach es X.env)).any (·.1)=false):
   wpAny (model X.prog X.w) X.A (eval (.Call (.Name x p) (e::es) [] pos) X.env) (EP X pins σ Q) E1 s:=by
 obtain ⟨f,fd,h1,h2,h3,h4⟩:=c;have Iw:j9 (X.wish E1) pins σ H s:=I.wish E1;refine wpAny_Call_Name_kw (X9 (E:=E1) I hg h1 ?_ hdb);refine PySem.W.callWith_K (h₀:=X.base) I.ok.mod.kin h2 (y9 ((PA.any ha E1) pos pins s σ H _ Iw h) fun us s1 ⟨vs,H1,I1,r,q⟩=>⟨I1.kIn,?_⟩) he hpl;have I1':j9 X pins σ H1 s1:=I1.unwish
 have r2:o5 (vs++[]) us:=by rw[cw1];exact r
 have hl:(us++[]).length=ps.length:=by rw[cw1,<-r2.length];exact h4.len _ _ _ _ q
 have hb:=h3 s1 us I1'.kIn hl;rw[cw1] at hb;refine wpAny_call (codeAny_mono (h4.run X.A X.stack s1 H1 ⟨us,[]⟩ us (vs++[]) Q E hr I1'.env0 hb r2 q) fun rr s' hq=> ?_)
 cases rr with
 |error e=>exact hx H1 s1 e s' I1' hq
 |ok fl=>
  cases fl with
  |ret u=>exact I1'.after hq
  |next=>exact False.elim hq
  |brk=>exact False.elim hq
  |cont=>exact False.elim hq
theorem cg1 {i:Nat}{y:Str}{py sp':Pos}(c:N2 X.prog X.w X.K X.mg X.base x k ps sp)(hr:A1 k X.A)(hN:X.N.Nodup)(hi:X.N[i]? =some y)(hy:Loc X.env.scope y)(ha:PA X.nox (e::es) t)(hg:Gl X x:=by rfl)(hdb:(x==("__debug__":Str))=false:=by decide)
   (he:starEach (e::es) X.env=(false,eval e X.env)::starEach es X.env:=by rfl) (hpl:(backTo pos (starEach es X.env)).any (·.1)=false:=by rfl)
   (hs:swapsWith (.Call (.Name x p) (e::es) [] pos) (some (.Name y py)) sp'.line X.env=pure false:=by rfl) (hf:X.fn y=true\/X.env.scope.names.lookup y=some .local:=by first|exact .inl rfl|exact .inr rfl|assumption):
   PX X [.Assign [.Name y py] (.Call (.Name x p) (e::es) [] pos) sp'] (fun E D σ H=>aj8 sp [] E t σ H fun v H1=>D.nx (σ.set i (some v)) H1):=by
 intro pins s σ H D E E1 I hx h
 have first:wpAny (model X.prog X.w) X.A (exec (.Assign [.Name y py] (.Call (.Name x p) (e::es) [] pos) sp') X.env) (SP X pins D) E1 s:=
   wpAny_Assign_Name (y9 (bg7 c hr ha I hx h hg hdb he hpl) fun v s1 ⟨y',H1,I1,r1,q1⟩=>ad0 I1 hN hi hy r1 (fun s2 I2=>show SP X pins D .next s2 from ⟨_,H1,I2,q1⟩) hf) hs
 refine wpAny_execs_cons (y9 first fun f s1 q=> ?_)
 cases f with
 |next=>exact wpAny_execs_nil q
 |ret v=>exact q
 |brk=>exact q
 |cont=>exact q
theorem ar9 {ep:Pos}(c:N2 X.prog X.w X.K X.mg X.base x k ps sp)(hr:A1 k X.A)(ha:PA X.nox (e::es) t)(hg:Gl X x:=by rfl)(hdb:(x==("__debug__":Str))=false:=by decide)
   (he:starEach (e::es) X.env=(false,eval e X.env)::starEach es X.env:=by rfl) (hpl:(backTo pos (starEach es X.env)).any (·.1)=false:=by rfl) (hs:swapsWith (.Call (.Name x p) (e::es) [] pos) none ep.line X.env=pure false:=by rfl):
   PX X [.Expr (.Call (.Name x p) (e::es) [] pos) ep] (fun E D σ H=>aj8 sp [] E t σ H fun _ H1=>D.nx σ H1):=by
 intro pins s σ H D E E1 I hx h
 have first:wpAny (model X.prog X.w) X.A (exec (.Expr (.Call (.Name x p) (e::es) [] pos) ep) X.env) (SP X pins D) E1 s:=
   wpAny_Expr_any (y9 (bg7 c hr ha I hx h hg hdb he hpl) fun v s1 ⟨y',H1,I1,r1,q1⟩=>⟨σ,H1,I1,q1⟩) I.quiet hs
 refine wpAny_execs_cons (y9 first fun f s1 q=> ?_)
 cases f with
 |next=>exact wpAny_execs_nil q
 |ret v=>exact q
 |brk=>exact q
 |cont=>exact q
theorem by3 {c:Expr}{a b:List Stmt}{tc:TT}{ta tb:XK->TS}(hc:PT X.nox c tc)(ha:PX X a ta)(hb:PX X b tb):PX X [.If c a b pos] (fun E=>ce3 tc (ta E) (tb E)):=by
 intro pins s σ H D E E1 I hx h
 have first:wpAny (model X.prog X.w) X.A (exec (.If c a b pos) X.env) (SP X pins D) E1 s:=by
   refine wpAny_If (wpAny_mono (hc pins s σ H _ (I.wish _) h) (fun v s1 ⟨H1,I1,q⟩=> ?_) fun _ _ z=>False.elim z)
   cases v with
   |true=>exact ha pins s1 σ H1 D E E1 I1.unwish hx (by simpa using q)
   |false=>exact hb pins s1 σ H1 D E E1 I1.unwish hx (by simpa using q)
 refine wpAny_execs_cons (y9 first fun f s1 q=> ?_)
 cases f with
 |next=>exact wpAny_execs_nil q
 |ret v=>exact q
 |brk=>exact q
 |cont=>exact q
end
section
variable {X:Cx}
def ca8 (K:PySem.W.Frag)(T:Addr)(i:Nat)(ts:TS)(D:Y2)(σ:St):XK:=fun c _ H'=>
 ∃C,c= .ref C/\PySem.W.exmOne K (.ref C) (.ref T)=some true/\∀a,H' a=none->ts {nx:=fun σ' H''=>D.nx (σ'.set i none) H'',rt:=fun _ _=>False} (σ.set i (some (.ref a))) (e8 H' a (W2 a C))
theorem bq4 {body:List Stmt}{x n:Str}{T:Addr}{i:Nat}{np hp pos:Pos}{b₀:Stmt}{suite:List Stmt}{tb:XK->TS}{ts:TS}(hb:PX X body tb)(hm:X.mg x=some (.ref T))(hN:X.N.Nodup)(hi:X.N[i]? =some n)(hk:X.env.kindOf n=some .local)
   (hsu:∀a,W9 (X.marked a) (b₀::suite) ts) (hst:X.stack=X.env::X.outer:=by rfl) (hfr:X.env.frame=some X.env.locals:=by rfl) (hex0:X.ex=[]:=by rfl) (hg:Gl X x:=by rfl) (hdb:(x==("__debug__":Str))=false:=by decide) (hf:X.fn n=true\/X.env.scope.names.lookup n=some .local:=by first|exact .inl rfl|exact .inr rfl|assumption):
   PS X (.Try body [.ExceptHandler (some (.Name x np)) (some n) (b₀::suite) hp] [] [] pos) (fun D σ H=>tb (ca8 X.K T i ts D σ) D σ H):=by
 intro pins s σ H D I h;refine wpAny_Try_except (wpAny_mono (hb pins s σ H D _ (fun e s₁=>wpAny (model X.prog X.w) X.A (noteFrame e X.env) (fun _ s₂=>wpAny (model X.prog X.w) X.A (setFlight e none) (fun _ s₃=>wpAny (model X.prog X.w) X.A (handleBy e X.env [.ExceptHandler (some (.Name x np)) (some n) (b₀::suite) hp]) (SP X pins D) X.xe s₃) X.xe s₂) X.xe s₁) I (fun H1 s1 e s' I1 hcx=> ?_) h) (fun f s1 q=> ?_) fun _ _ z=>z)
 · obtain ⟨a,t,C,vs,B,H',rfl,os,bare,un,hok,kb,tb',fl,tup,tn,C',hCe,hex,hts⟩:=hcx;cases hCe;rw[hst] at un fl kb tb'
   have hframes:X.A.frames=some (X.env::X.outer):=by rw[<-hst];exact I1.ok.frames
   have plain:∀b∈C5 (X.env::X.outer),∀o,s'.heap.get? b=some o->∀vs,o.data≠.fields vs:=fun b hb o ho=>by
     obtain ⟨_,o',ho',hn⟩:=fl.2.2.1.mem hb;rw[ho] at ho';cases ho';exact hn
   have notB:B.get? a=none:=fl.2.1
   have notF:a∉C5 (X.env::X.outer):=fun hm=>by
     obtain ⟨oe,ws,he,_,hd,_⟩:=fl.first;exact plain a hm oe he ws hd
   have new1:s1.heap.get? a=none:=by
     cases q:s1.heap.get? a with
     |none=>rfl
     |some o=>
      obtain ⟨o',e'⟩:=tb' a o q notF;rw[notB] at e';cases e'
   have new0:X.s₀.heap.get? a=none:=by
     cases q:X.s₀.heap.get? a with
     |none=>rfl
     |some o=>
      by_cases hx:a∈X.ex
      · rw[hex0] at hx;simp at hx
      · obtain ⟨o',e'⟩:=I1.base.there a o q hx;rw[new1] at e';cases e'
   have hHa:H' a=none:=by
     cases q:H' a with
     |none=>rfl
     |some o=>obtain ⟨u,hu⟩:=(hok a o q).get;rw[notB] at hu;cases hu
   refine wpAny_looks_onW hframes hfr fl fun h₄ held₄ up₄=> ?_
   refine wpAny_landsW held₄ fun h₅ fl₅ up₅=> ?_
   have inv:∀h,B.StaysIn h->s'.heap.UpToSlots h->j9 X pins σ H' {s' with heap:=h}:=fun h st up=>
     I1.call' (ch:=[]) (s':={s' with heap:=h}) os (by rw[hst];exact ba3 un kb tb' st up plain) (hok.kept st) bare (fun b z=>absurd z (by simp))
   have I5:=inv h₅ fl₅.1 (up₄.trans up₅);refine wpAny_handleBy_cons (codeAny_handlers_test (X9 (X:=X.marked a) (E:=_) (I5.mark a) hg hm ?_ hdb)) (by intro q;cases q);obtain ⟨ob,hob,hobc⟩:=fl₅.there;have LT:PySem.W.Looks (model X.prog X.w) h₅ (typeOf (.ref a)) (.ref C):=hobc▸(PySem.W.Looks.ld hob).andThen .now;refine PySem.W.exm_one (M:=model X.prog X.w) (h:=h₅) I5.kIn LT hex _ _ _ _ (fun _ _ q=>q) ?_;refine codeAny_handlers_suite_as ?_
   refine lands_againW fl₅ fun h₆ fl₆ up₆=> ?_
   have I6:=inv h₆ fl₆.1 ((up₄.trans up₅).trans up₆)
   have hLa:a≠X.env.locals:=fun z=>notF (by unfold C5;rw[cu8,hfr];rw[z];exact cp7)
   have hca:∀y c,X.env.cells.lookup y=some c->c≠a:=fun y c e z=>by
     obtain ⟨v,o,ho,_⟩:=I1.cell y c e;rw[z,new1] at ho;cases ho
   have hpa:∀q∈X.pn++pins,q.1≠a:=fun q hq z=>by
     obtain ⟨e,_⟩:=I1.pin q hq;rw[z,new1] at e;cases e
   obtain ⟨oe,ws,he6,hc6,hd6,_⟩:=fl₆.first;have I7:j9 X pins σ (e8 H' a (W2 a C)) {s' with heap:=h₆}:=I6.trackNew hHa new0 hLa hca hpa ⟨⟨oe,ws,he6,hc6,hd6⟩,⟨oe,he6⟩,fun h1 h2 ⟨o1,v1,q1,q2⟩ st=>⟨o1,v1,st o1 q1,q2⟩⟩;have hts':=hts a hHa;refine ad0 I7 hN hi (.inl hk) (show y8 (.ref a) (.ref a) from rfl) (fun s2 I8=> ?_) hf
   refine wpAny_mono (hsu a pins s2 _ _ _ (I8.mark a) hts') (fun f s3 q=> ?_) fun _ _ z=>False.elim z
   cases f with
   |next=>
    obtain ⟨σ',H'',I9,q⟩:=q
    exact ca7 (I9.unmark I1.ok) hN hi hk fun s4 I10=>show SP X pins D .next s4 from ⟨_,_,I10,q⟩
   |ret v=>obtain ⟨_,_,_,_,_,q⟩:=q;exact q.elim
   |brk=>obtain ⟨_,_,_,q⟩:=q;exact q.elim
   |cont=>obtain ⟨_,_,_,q⟩:=q;exact q.elim
 · cases f with
   |next=>exact wpAny_execs_nil q
   |ret v=>exact q
   |brk=>exact q
   |cont=>exact q
end
end L2
namespace L2
open PySem PySem.Spec PyProof.Rows PySem.W PySem.Builtin PySem.Builtin.ObjectAttr PySem.Builtin.Getset_descriptor
section
variable {prog:Program} {w:World} {A:Around} {E:Value->Shared->Prop} {s:Shared} {K:PySem.W.Frag} {a C:Addr}
structure am9 (K:PySem.W.Frag)(C:Addr):Prop where
 ga:PySem.W.findIn K (.ref C) "__getattribute__"=some (some (.builtin "BaseException.__getattribute__"))
 hook:PySem.W.findIn K (.ref C) "__getattr__"=some none
 cls:PySem.W.findIn K (.ref C) "__class__"=some (some (.builtin "object.__class__"))
 get:PySem.W.specialIn K (.builtin "object.__class__") "__get__"=some (some (.builtin "getset_descriptor.__get__"))
 tak:PySem.W.takesIn K (.builtin "object.__class__")=some true
 bex:PySem.W.mroIn K C (.type "BaseException")=some true
 obj:PySem.W.mroIn K C (.type "object")=some true
 isc:∃oc,K.lookup C=some oc/\∃cd,oc.data= .cls cd
theorem aw5 {tp:Value}{R:Result->Shared->Prop}(X:K.In s.heap)(L0:PySem.W.Looks (model prog w) s.heap (typeOf (.ref a)) (.ref C))(hm:PySem.W.mroIn K C (.type "object")=some true)
   (h:R (.ok (.ret (.ref C))) s):codeAny (model prog w) A (.call (.builtin "getset_descriptor.__get__") ⟨[.builtin "object.__class__",.ref a,tp],[]⟩) R s:=by
 obtain ⟨hh,g,dr,t,os⟩:=s;have L1:=looks_mroIn (M:=model prog w) X hm;refine codeAny_call_builtin KF.slot_gs.plain KF.entry_gs (KF.slot_gs.check _ _ _ _ _ _ _ _ KF.type_class (KF.args_gs _ _ _) ?_);unfold Builtin.«getset_descriptor.__get__» descrGet;rw[dga_obj];refine wpAny_bind (wpAny_pure ?_);unfold descrGetter descrCheckInstance descrNameAndClass isInstance;simp only[KF.owner_class]
 repeat lk
 refine ⟨Code.quiet_builtin _ (by decide+kernel),codeAny_builtin KF.entry_class ?_⟩;unfold Builtin.«object.__class__» shownTypeOf
 repeat lk
 exact h
theorem bq5 {M:Model}{nameV:Value}{Q:Unit->Shared->Prop}(X:K.In s.heap)(L0:PySem.W.Looks M s.heap (typeOf (.ref a)) (.ref C))(hm:PySem.W.mroIn K C (.type "BaseException")=some true)
   (hq:Q () s):wpAny M A (checkBuiltinCall "BaseException.__getattribute__" ⟨[.ref a,nameV],[]⟩) Q E s:=by
 obtain ⟨hh,g,dr,t,os⟩:=s;have L1:=looks_mroIn (M:=M) X hm
 have hk:builtinKind "BaseException.__getattribute__"=some .slot:=by decide+kernel
 have hsplit:splitId "BaseException.__getattribute__"=some ("BaseException","__getattribute__"):=by decide+kernel
 have ha:=F.args_bexc_ga (.ref a) nameV;simp only[checkBuiltinCall,hk,hsplit];unfold isInstance
 repeat (first|lk|wp_step)
 exact hq
theorem bq6 {tk:Tok}{Q:Fin->Shared->Prop}(X:K.In s.heap)(L0:PySem.W.Looks (model prog w) s.heap (typeOf (.ref a)) (.ref C))(I:am9 K C)(hq:Q (.done (.ret (.ref C))) s):
   wpAny (model prog w) A (Builtin.«object.__getattribute__» ⟨[.ref a,.str "__class__" tk],[]⟩) Q E s:=by
 obtain ⟨hh,g,dr,t,os⟩:=s;have L1:=looks_findIn (M:=model prog w) X I.cls;have L2:=looks_specialIn (M:=model prog w) X I.get;have L3:=looks_takesIn (M:=model prog w) X I.tak;unfold Builtin.«object.__getattribute__»
 repeat lk
 refine wpAny_run (aw5 X L0 I.obj ?_)
 repeat (first|exact hq|lk)
theorem as0 {Q:Option Value->Shared->Prop}(X:K.In s.heap)(L0:PySem.W.Looks (model prog w) s.heap (typeOf (.ref a)) (.ref C))(I:am9 K C)(h:Q (some (.ref C)) {s with toks:=s.toks+1}):
   wpAny (model prog w) A (getAttr? (.ref a) "__class__") Q E s:=by
 obtain ⟨hh,g,dr,t,os⟩:=s;have L1:=looks_findIn (M:=model prog w) X I.ga;have L2:=looks_findIn (M:=model prog w) X I.hook;have hb:=PySem.F.attrBase_ValueError.ga.bind (.ref a);unfold getAttr? getAttrBy? getAttrBy;refine wpAny_bind (wpAny_mkText (wpAny_bind (wpAny_attempt (wpAny_holding (wpAny_bind (L0.at (wpAny_bind (L1.at ?_))))))))
 dsimp only
 rw[if_neg (show ¬((onTheHeap (Value.ref C)&&Value.builtin "BaseException.__getattribute__"==Value.builtin "object.__getattribute__")=true) from by
   rw[show (Value.builtin "BaseException.__getattribute__"==Value.builtin "object.__getattribute__")=false from by decide+kernel,Bool.and_false];exact cq1)]
 unfold getAttrByItsOwn hookBefore;refine wpAny_bind ?_;rw[if_pos (show onTheHeap (Value.ref C)=true from rfl)];refine L2.at ?_;refine wpAny_bind (wpAny_attempt (wpAny_holding ?_));unfold callGetattribute;rw[if_neg (by simp)];unfold boundAndCalled;rw[hb];refine wpAny_bind (wpAny_pure ?_);refine wpAny_call (codeAny_call_builtin PySem.F.attrBase_ValueError.ga.plain F.entry_bexc_ga (bq5 X L0 I.bex (bq6 X L0 I ?_)));refine handed_on (M:=model prog w) rfl ?_;exact wpAny_pure h
theorem ba5 (I:am9 K C):PySem.W.KitX K (.ref a) (.ref C) (fun h=>∃oe vs,h.get? a=some oe/\oe.cls= .ref C/\oe.data= .fields vs) where
 ty:=fun M h _ ⟨oe,vs,h1,h2,_⟩=>h2▸(PySem.W.Looks.ld h1).andThen .now
 it:=fun M h X _=>by
   obtain ⟨oc,h1,cd,h2⟩:=I.isc;obtain ⟨c1,c2,c3,c4⟩:=oc
   dsimp only at h2
   subst h2;intro A' Q' E' s' k q;unfold isType loadHead;exact wpAny_bind (wpAny_loadPart (k _ _ (X _ _ h1)) (wpAny_pure q))
 ne:=fun h tp dd its n sl X htp=>by
   obtain ⟨oc,h1,cd,h2⟩:=I.isc
   refine Bool.eq_false_iff.mpr fun q=> ?_
   have e:C=tp:=Value.ref.inj (beq_iff_eq.mp q);subst e;have z:=(X _ _ h1).symm.trans htp;cases z;cases h2
 ca:=fun {prog w A E Q s} X ⟨oe,vs,h1,h2,_⟩ k=>as0 X (h2▸(PySem.W.Looks.ld h1).andThen .now) I k
end
section
variable {X:Cx}
def by4 (K:PySem.W.Frag):List V->Hp->VK->Prop:=fun xs H Q=>∃a C c u b,xs=[.ref a,c]/\((∃D,c= .ref D/\u=Value.ref D)\/(∃n,c= .ty n/\u=Value.type n))/\H a=some (W2 a C)/\am9 K C/\PySem.W.kitOne K (.ref C) u=some b/\Q (.bl b) H
theorem bq7:G8 X (.builtin "isinstance") (by4 X.K):=by
 intro pins s σ H xs us Q I r h;obtain ⟨a,C,c,u,b,rfl,hc,hH,ei,hk,q⟩:=h;obtain ⟨u1,u2,rfl,r1,r2⟩:=ao4 r;cases (show u1=Value.ref a from r1)
 have e2:u2=u:=by
   rcases hc with ⟨D,rfl,rfl⟩|⟨n,rfl,rfl⟩
   · exact r2
   · exact r2
 subst e2;have p:=(show B1 X.prog X.w H s.heap a (W2 a C) from I.hok a _ hH).1
 exact PySem.W.kia_one (ba5 ei) I.kIn p hk (fun z=>nomatch z) fun tk=>⟨.bl b,H,I.tok tk,rfl,q⟩
theorem U1 {a b:Expr}{ta:TA}{p pos:Pos}(hm:X.mg "isinstance"=none)(ha:PA X [a,b] ta)(hg:Gl X "isinstance":=by rfl)
 (he:starEach [a,b] X.env=(false,eval a X.env)::starEach [b] X.env:=by rfl) (hpl:(backTo pos (starEach [b] X.env)).any (·.1)=false:=by rfl):
 PE X (.Call (.Name "isinstance" p) [a,b] [] pos) (S3 (by4 X.K) ta):=M3 bq7 hg hm am3 ha (by decide) (by decide) he hpl
theorem ca9:bootBuiltins "ValueError"=some (.type "ValueError"):=by decide+kernel
theorem cb0 {p:Pos}(hm:X.mg "ValueError"=none)(hg:Gl X "ValueError":=by rfl):PE X (.Name "ValueError" p) (tC (.ty "ValueError")):=aj6 hg hm ca9 rfl
end
theorem cb1 {K:PySem.W.Frag}{C D:Addr}{b:Bool}(h1:PySem.W.isClsIn K D=true)(h2:PySem.W.typeIn K (.ref D)=some (.type "type"))(h3:PySem.W.mroIn K C (.ref D)=some b)(hs:C=D->b=true):PySem.W.kitOne K (.ref C) (.ref D)=some b:=by
 unfold PySem.W.kitOne
 by_cases e:C=D
 · rw[if_pos (by rw[e];exact beq_self_eq_true _),hs e]
 · rw[if_neg (fun q=>e (Value.ref.inj (beq_iff_eq.mp q)))];unfold PySem.W.kitCls
   dsimp only
   rw[if_pos (by rw[cs9];exact ⟨h1,by rw[h2];exact beq_self_eq_true _⟩)];exact h3
theorem cg2 {K:PySem.W.Frag}{C:Addr}(h3:PySem.W.mroIn K C (.type "ValueError")=some true):PySem.W.kitOne K (.ref C) (.type "ValueError")=some true:=by
 unfold PySem.W.kitOne;rw[if_neg (fun q=>by cases beq_iff_eq.mp q)];unfold PySem.W.kitCls
 dsimp only
 rw[if_pos (by decide+kernel)];exact h3
theorem cb2 {K:PySem.W.Frag}{C T:Addr}{b:Bool}(h0:PySem.W.mroIn K T (.type "BaseException")=some true)(h1:PySem.W.isClsIn K T=true)(h2:PySem.W.typeIn K (.ref T)=some (.type "type"))(h3:PySem.W.mroIn K C (.ref T)=some b):PySem.W.exmOne K (.ref C) (.ref T)=some b:=by
 unfold PySem.W.exmOne;rw[if_pos (show (PySem.W.subIn K (.ref T) (.type "BaseException")==some true)=true from beq_iff_eq.mpr h0)];unfold PySem.W.kitCls
 dsimp only
 rw[if_pos (by rw[cs9];exact ⟨h1,by rw[h2];exact beq_self_eq_true _⟩)];exact h3
theorem cb3 {K:PySem.W.Frag}{C:Addr}(ga:PySem.W.findIn K (.ref C) "__getattribute__"=some (some (.builtin "BaseException.__getattribute__")))(hook:PySem.W.findIn K (.ref C) "__getattr__"=some none)(cls:PySem.W.findIn K (.ref C) "__class__"=some (some (.builtin "object.__class__")))
   (get:PySem.W.specialIn K (.builtin "object.__class__") "__get__"=some (some (.builtin "getset_descriptor.__get__"))) (tak:PySem.W.takesIn K (.builtin "object.__class__")=some true) (bex:PySem.W.mroIn K C (.type "BaseException")=some true) (obj:PySem.W.mroIn K C (.type "object")=some true) (isc:PySem.W.isClsIn K C=true):am9 K C:=
 ⟨ga,hook,cls,get,tak,bex,obj,by
   obtain ⟨cd,h⟩:=da2.mp (show (PySem.W.clsIn K C).isSome=true from isc);unfold PySem.W.clsIn at h
   split at h
   · rename_i ho;exact ⟨_,ho,_,rfl⟩
   · cases h⟩
structure ab9 (K:PySem.W.Frag)(mg:Str->Option Value)(T:Addr)(cs:List (Str×Addr)):Prop where
 top:mg "TurnError"=some (.ref T)
 err:∀p∈cs,Z1 K mg p.1 p.2
 inst:∀p∈cs,am9 K p.2
 exm:∀p∈cs,PySem.W.exmOne K (.ref p.2) (.ref T)=some true
 ve:∀p∈cs,PySem.W.kitOne K (.ref p.2) (.type "ValueError")=some true
 pair:∀p∈cs,∀q∈cs,PySem.W.kitOne K (.ref p.2) (.ref q.2)=some (decide (p.1=q.1))
end L2
namespace L2
open PySem PySem.Spec PyProof.Rows
theorem al1:∀(ts:List Str) (k:Nat) (acc:Str) (m:Nat),(∀t∈ts,t.length<=m)->(textFrom k acc ts).length<=acc.length+ts.length*(m+2)
 |[],k,acc,m,_=>by show acc.length<=_;omega
 |t::r,k,acc,m,h=>by
  have ih:=al1 r (k+1) (acc++(if k > 0 then ", " else "":String)++t) m fun x hx=>h x (cp6 _ hx)
  have ht:=h t cp7
  have el:((acc++(if k > 0 then ", " else "":String)++t:Str)).length<=acc.length+2+t.length:=by
    rw[strLen_append,strLen_append]
    by_cases z:k > 0
    · rw[if_pos z];exact cq0 _
    · rw[if_neg z];have:(("":String):Str).length=0:=rfl;omega
  show (textFrom (k+1) (acc++(if k > 0 then ", " else "":String)++t) r).length<=_;rw[cp9,da8];omega
theorem al3 {ts:List Str}{m:Nat}(h:∀t∈ts,t.length<=m):(listText ts).length<=2+ts.length*(m+2):=by
 unfold listText;rw[strLen_append];have:=al1 ts 0 "[" m h;have e1:(("[":String):Str).length=1:=rfl;have e2:(("]":String):Str).length=1:=rfl;omega
section
variable {X:Cx} {p pos:Pos} {e:Expr} {t:TA}
theorem bj5:bootBuiltins "repr"=some (.builtin "repr"):=by decide+kernel
end
end L2
namespace L2
open PySem PySem.Spec PyProof.Rows
def ae3 (a b:Sp):Sp:=fun vs H Q E=>a vs H Q E\/b vs H Q E
section
variable {P:Program} {w:World} {K:PySem.W.Frag} {mg:Str->Option Value} {base:Heap} {CX:X0} {k:Nat} {f:Addr} {fd:FuncData} {ps:List Str} {a b:Sp}
theorem bj6 (x:q9 P w K mg base CX k f fd ps a)(y:q9 P w K mg base CX k f fd ps b):q9 P w K mg base CX k f fd ps (ae3 a b):=
 ⟨fun vs H Q E h=>h.elim (x.len vs H Q E) (y.len vs H Q E),fun A outer s H args us vs Q E r e bt v h=>h.elim (x.run A outer s H args us vs Q E r e bt v) (y.run A outer s H args us vs Q E r e bt v)⟩
theorem aa6 {x:Str}(c:A2 P w K mg base x k ps (ae3 a b)):A2 P w K mg base x k ps a:=by
 obtain ⟨f,fd,h1,h2,h3,h4⟩:=c;exact ⟨f,fd,h1,h2,h3,h4.imp fun vs H Q E z=> .inl z⟩
end
theorem G2 (K:PySem.W.Frag){a b:String}(h0:((Value.type a==Value.type b)=true)->False)(h1:PySem.W.kitMeta b=true)(h2:(fastBuiltinMro a).map (·.contains (Value.type b))=some false):PySem.W.kitOne K (.type a) (.type b)=some false:=by
 unfold PySem.W.kitOne PySem.W.kitCls;rw[if_neg h0];show (if PySem.W.kitMeta b=true then (fastBuiltinMro a).map (·.contains (Value.type b)) else none)=some false;rw[if_pos h1];exact h2
theorem ba6 (K:PySem.W.Frag):PySem.W.kitOne K (.type "NoneType") (.type "int")=some false:=G2 K (by decide+kernel) (by decide+kernel) (by decide+kernel)
theorem aw6 (K:PySem.W.Frag):PySem.W.kitOne K (.type "NoneType") (.type "bool")=some false:=G2 K (by decide+kernel) (by decide+kernel) (by decide+kernel)
theorem Q2 (K:PySem.W.Frag):PySem.W.kitOne K (.type "NoneType") (.type "list")=some false:=G2 K (by decide+kernel) (by decide+kernel) (by decide+kernel)
theorem be7 (K:PySem.W.Frag):PySem.W.kitOne K (.type "str") (.type "int")=some false:=G2 K (by decide+kernel) (by decide+kernel) (by decide+kernel)
theorem ba7 (K:PySem.W.Frag):PySem.W.kitOne K (.type "str") (.type "bool")=some false:=G2 K (by decide+kernel) (by decide+kernel) (by decide+kernel)
theorem N3 (K:PySem.W.Frag):PySem.W.kitOne K (.type "str") (.type "list")=some false:=G2 K (by decide+kernel) (by decide+kernel) (by decide+kernel)
theorem ah5 (K:PySem.W.Frag):PySem.W.kitOne K (.type "list") (.type "int")=some false:=G2 K (by decide+kernel) (by decide+kernel) (by decide+kernel)
theorem af7 (K:PySem.W.Frag):PySem.W.kitOne K (.type "list") (.type "bool")=some false:=G2 K (by decide+kernel) (by decide+kernel) (by decide+kernel)
theorem aw7 (K:PySem.W.Frag):PySem.W.kitOne K (.type "tuple") (.type "int")=some false:=G2 K (by decide+kernel) (by decide+kernel) (by decide+kernel)
theorem as2 (K:PySem.W.Frag):PySem.W.kitOne K (.type "tuple") (.type "bool")=some false:=G2 K (by decide+kernel) (by decide+kernel) (by decide+kernel)
theorem L5 (K:PySem.W.Frag):PySem.W.kitOne K (.type "tuple") (.type "list")=some false:=G2 K (by decide+kernel) (by decide+kernel) (by decide+kernel)
theorem Q3 (K:PySem.W.Frag):PySem.W.kitOne K (.type "dict") (.type "list")=some false:=G2 K (by decide+kernel) (by decide+kernel) (by decide+kernel)
theorem Z2 (K:PySem.W.Frag):PySem.W.kitOne K (.type "int") (.type "list")=some false:=G2 K (by decide+kernel) (by decide+kernel) (by decide+kernel)
theorem W3 (K:PySem.W.Frag):PySem.W.kitOne K (.type "bool") (.type "list")=some false:=G2 K (by decide+kernel) (by decide+kernel) (by decide+kernel)
end L2
namespace L2
open PySem PySem.Spec PyProof.Rows
section
variable {X:Cx} {p pos apos:Pos} {e o:Expr} {es:List Expr} {t:TA} {to:TE}
theorem cb4 (hm:X.mg "str"=none)(ha:PA X [e] t)(hg:Gl X "str":=by rfl)(he:starEach [e] X.env=(false,eval e X.env)::starEach [] X.env:=by rfl):
   PE X (.Call (.Name "str" p) [e] [] pos) (S3 (fun xs H Q=>∃i,xs=[.int i]/\i.natAbs.log2 < 1920/\Q (.str (toString i)) H) t):=
 N0 ay3 hg hm ah2 ha (by decide) (by decide) he rfl
end
end L2
namespace L2
open PySem PySem.Spec PyProof.Rows
section
variable {X:Cx}
theorem bv7 {e:Expr}:PE X e (fun _ _ _=>False):=fun _ _ _ _ _ _ h=>h.elim
end
end L2
namespace Mth
open L2 (D6)
def aq1 (t:List Int)(rs:List (List Int)):Prop:=∀r∈rs,∀j,j < r.length->L4 t (r.getD j 0)=some (r.getD ((j+1)%r.length) 0)
theorem cn6 {l:List Int}{i:Nat}(h:i < l.length):l.getD i 0=l[i]:=by
 rw[ct3,cp1 h];rfl
end Mth
namespace L2
open PySem PySem.Spec PyProof.Rows
variable {X:Cx}
theorem bv8 {tg l:Expr}{tl:TE}(K:PySem.W.Frag)(hl:PE X l tl)(hK:X.K=K:=by rfl):PI X tg l (bx9 K tl):=by
 subst hK;exact A8 hl
end L2
namespace Mth
open L2 (D6)
theorem al4 {α:Type}[DecidableEq α]:∀{a b:List α},a.Nodup->(∀x∈a,x∈b)->b.length<=a.length->a.Perm b
 |[],b,_,_,hl=>by
  have:b=[]:=cw7 (by simpa using hl);rw[this]
 |x::a,b,nd,h,hl=>by
  obtain ⟨n1,n2⟩:=cs5.mp nd;have hx:=h x cp7;have pb:=List.perm_cons_erase hx;refine List.Perm.trans (List.Perm.cons x (al4 n2 (fun y hy=> ?_) ?_)) pb.symm
  · have hyb:=pb.mem_iff.mp (h y (cp6 _ hy))
    rcases cq5.mp hyb with e|e
    · exact absurd (e▸hy) n1
    · exact e
  · rw[List.length_erase_of_mem hx];rw[cp9] at hl;omega
end Mth
namespace L2
open PySem PySem.Spec PyProof PyProof.Rows
section
variable {X:Cx}
theorem av5:∀{ds:List Addr} {its:List Value},o5 (ds.map V.ref) its->its=ds.map Value.ref
 |[],_,h=>by cases h;rfl
 |d::ds,_,h=>by
  cases h with
  |cons r rr=>
   rename_i u us;have e:u=Value.ref d:=r;rw[e,av5 rr];rfl
def by5 (K:PySem.W.Frag):List V->Hp->VK->Prop:=fun xs H Q=>∃(a C tp:Addr) (ds:List Addr) (b:Bool),xs=[.ref a,.ref tp]/\H a=some (W2 a C)/\H tp=some (.tup (ds.map V.ref))/\am9 K C/\PySem.W.kitAny K (.ref C) (ds.map Value.ref)=some b/\Q (.bl b) H
theorem bq8:G8 X (.builtin "isinstance") (by5 X.K):=by
 intro pins s σ H xs us Q I r h;obtain ⟨a,C,tp,ds,b,rfl,hH,ht,ei,hk,q⟩:=h;obtain ⟨u1,u2,rfl,r1,r2⟩:=ao4 r;cases (show u1=Value.ref a from r1);cases (show u2=Value.ref tp from r2);have p:=(show B1 X.prog X.w H s.heap a (W2 a C) from I.hok a _ hH).1;obtain ⟨its,rv,⟨o,ho,hc,n,hd⟩,_⟩:=I.tuple (Y3.of ht);obtain ⟨c,dd,dt,sl⟩:=o;cases hc;cases hd;have e:=av5 rv;subst e
 exact PySem.W.kia_tup (ba5 ei) I.kIn p ho hk (fun z=>nomatch z) fun tk=>⟨.bl b,H,I.tok tk,rfl,q⟩
theorem cb5 {a b:Expr}{ta:TA}{p pos:Pos}(hm:X.mg "isinstance"=none)(ha:PA X [a,b] ta)(hg:Gl X "isinstance":=by rfl)
 (he:starEach [a,b] X.env=(false,eval a X.env)::starEach [b] X.env:=by rfl) (hpl:(backTo pos (starEach [b] X.env)).any (·.1)=false:=by rfl):
 PE X (.Call (.Name "isinstance" p) [a,b] [] pos) (S3 (by5 X.K) ta):=M3 bq8 hg hm am3 ha (by decide) (by decide) he hpl
end
end L2
namespace L2
open PySem PySem.Spec PyProof PyProof.Rows
open PySem.Builtin PySem.Builtin.Str PySem.Builtin.BaseException PySem.Builtin.Exceptions
section
variable {prog:Program} {w:World} {A:Around} {E:Value->Shared->Prop} {s:Shared} {K:PySem.W.Frag} {a C t0:Addr} {m:Str} {tk:Tok}
structure U2 (h:Heap)(a C t0:Addr)(m:Str)(tk:Tok):Prop where
 ob:∃oe vs,h.get? a=some oe/\oe.cls= .ref C/\oe.data= .fields vs/\vs[0]? =some (.ref t0)
 tup:h.TupAt t0 [.str m tk]
theorem U2.args {M:Model}{Q:Value×List Value->Shared->Prop}(x:U2 s.heap a C t0 m tk)(hq:Q (.ref t0,[.str m tk]) s):wpAny M A (bexcArgs (.ref a)) Q E s:=by
 obtain ⟨⟨o,vs,ho,_,hd,h0⟩,ot,k,hto,_,htd⟩:=x;unfold bexcArgs;exact wpAny_bind (wpAny_field ho hd h0 (wpAny_bind (wpAny_seqItems hto htd (wpAny_pure hq))))
theorem U2.entry {Q:Fin->Shared->Prop}(x:U2 s.heap a C t0 m tk)(hq:Q (.done (.ret (.str m tk))) s):wpAny (model prog w) A (Builtin.«BaseException.__str__» ⟨[.ref a],[]⟩) Q E s:=by
 unfold Builtin.«BaseException.__str__»
 repeat (first|with_reducible refine x.args ?_|wp_step)
 exact hq
theorem bj7 {M:Model}{Q:Unit->Shared->Prop}(X:K.In s.heap)(L0:PySem.W.Looks M s.heap (typeOf (.ref a)) (.ref C))(hm:PySem.W.mroIn K C (.type "BaseException")=some true)
   (hq:Q () s):wpAny M A (checkBuiltinCall "BaseException.__str__" ⟨[.ref a],[]⟩) Q E s:=by
 obtain ⟨hh,g,dr,t,os⟩:=s;have L1:=PySem.W.looks_mroIn (M:=M) X hm
 have hk:builtinKind "BaseException.__str__"=some .slot:=by decide+kernel
 have hsplit:splitId "BaseException.__str__"=some ("BaseException","__str__"):=by decide+kernel
 have ha:=F.args_bexc_str (.ref a);simp only[checkBuiltinCall,hk,hsplit];unfold isInstance
 repeat (first|lk|wp_step)
 exact hq
theorem U2.special {Q:Option Value->Shared->Prop}(x:U2 s.heap a C t0 m tk)(X:K.In s.heap)(hf:PySem.W.findIn K (.ref C) "__str__"=some (some (.builtin "BaseException.__str__")))(hm:PySem.W.mroIn K C (.type "BaseException")=some true)
   (hq:Q (some (.str m tk)) s):wpAny (model prog w) A (callSpecial? (.ref a) "__str__") Q E s:=by
 have L0:PySem.W.Looks (model prog w) s.heap (typeOf (.ref a)) (.ref C):=by
   obtain ⟨⟨o,vs,ho,hc,hd,h0⟩,_⟩:=x;exact hc▸(PySem.W.Looks.ld ho).andThen .now
 have L1:=PySem.W.looks_findIn (M:=model prog w) X hf
 have hx:wpAny (model prog w) A (call (.builtin "BaseException.__str__") [.ref a]) (fun v=>Q (some v)) E s:=
   wpAny_call (codeAny_call_builtin PySem.F.excStr_ValueError.str.plain F.entry_bexc_str (bj7 X L0 hm (x.entry hq)))
 obtain ⟨hh,g,dr,t,os⟩:=s;simp only[callSpecial?];unfold specialOf;refine wpAny_bind (wpAny_bind (L0.at (L1.at ?_)));simp only[PySem.F.excStr_ValueError.str.bind];exact wpAny_holding (wpAny_bind (wpAny_pure (wpAny_bind (wpAny_mono hx (fun v s' h'=>wpAny_pure h') fun _ _ h'=>h'))))
theorem U2.strOf {Q:Value->Shared->Prop}(x:U2 s.heap a C t0 m tk)(X:K.In s.heap)(hf:PySem.W.findIn K (.ref C) "__str__"=some (some (.builtin "BaseException.__str__")))(hm:PySem.W.mroIn K C (.type "BaseException")=some true)
   (hu:A.units < cLine) (hq:Q (.str m tk) s):wpAny (model prog w) A (Builtin.Str.strOf (.ref a)) Q E s:=by
 unfold Builtin.Str.strOf
 repeat (first|with_reducible refine wpAny_cRoomFor hu ?_|with_reducible refine x.special X hf hm ?_|wp_step)
 exact hq
theorem U2.str {Q:Value->Shared->Prop}(x:U2 s.heap a C t0 m tk)(X:K.In s.heap)(hf:PySem.W.findIn K (.ref C) "__str__"=some (some (.builtin "BaseException.__str__")))(hm:PySem.W.mroIn K C (.type "BaseException")=some true)
   (hu:A.units+2 < cLine) (h:Q (.str m tk) s):wpAny (model prog w) A (call (.type "str") [.ref a]) Q E s:=
 callType_new F.called_str (by decide) (F.typeCall_str_1 _) (F.newCall_str_1 _) (fun obj=>F.args_object_init_2 obj _) F.entry_str_new
   (meets_str_new (S:=fun A' R s'=>A'.units+1 < cLine/\U2 s'.heap a C t0 m tk/\K.In s'.heap/\R (.ok (.ret (.str m tk))) s')
     fun _ _ A' _ _ hq=>U2.strOf (A:=A'.in1) hq.2.1 hq.2.2.1 hf hm hq.1 hq.2.2.2)
   ⟨(show A.units+1+1 < cLine from hu),x,X,typeIs_str _ _ _,h⟩
end
section
variable {X:Cx}
structure bv9 (K:PySem.W.Frag)(C:Addr):Prop where
 str:PySem.W.findIn K (.ref C) "__str__"=some (some (.builtin "BaseException.__str__"))
 bex:PySem.W.mroIn K C (.type "BaseException")=some true
def ck1 (te:TE):TE:=fun σ H Q=>te σ H fun v H1=>∃m,v= .str m/\Q (.str m) H1
theorem cb6 {x:Str}{C:Addr}{e:Expr}{te:TE}{sp np cpos pos:Pos}(hms:X.mg "str"=none)(c:Z1 X.K X.mg x C)(cs:bv9 X.K C)(hu:X.A.units+64 < cLine)(he:PE X e te)(hgs:Gl X "str":=by rfl)(hg:Gl X x:=by rfl)
   (hs:starEach [e] X.env=(false,eval e X.env)::starEach [] X.env:=by rfl) (hd:(x==("__debug__":Str))=false:=by decide)
   (ho:starEach [.Call (.Name x np) [e] [] cpos] X.env=(false,eval (.Call (.Name x np) [e] [] cpos) X.env)::starEach [] X.env:=by rfl):
   PE X (.Call (.Name "str" sp) [.Call (.Name x np) [e] [] cpos] [] pos) (ck1 te):=by
 intro pins s σ H Q I h;obtain ⟨bm,N,nm,qn,bs,hdct,sn,sub,ab,col,dd,k0,k1,k2,k3,k5,mN,hC,hN,hni,T⟩:=bg6 I.ok.mod.kin c.ex;refine wpAny_Call_Name_kw (S0 I hgs hms ah2 ?_ (by decide) (by decide));refine PyProof.Rows.callWith_type1 ?_ ho rfl;rw[ho];refine Calls.spliced_cons (wpAny_Call_ofName (X9 I hg c.mg ?_ hd));rw[hs];unfold callWith;refine wpAny_bind (wpAny_holding (Calls.evalArgs_plain (Calls.spliced_cons (y9 (he pins s σ H _ I h) fun v s1 ⟨y,H1,I1,rx,q⟩=>Calls.spliced_nil (wpAny_bind (wpAny_standAt ?_))))));obtain ⟨m,rfl,q⟩:=q;obtain ⟨tk,rfl⟩:=rx;have hC1:=I1.kIn _ _ hC;have hN1:=hN.keeps I1.bk;have T1:=T.keeps I1.bk;obtain ⟨hp,g,d,tks,os⟩:=s1;refine wpAny_bind (wpAny_keeperOf_exc hC1 ?_);refine wpAny_bind (wpAny_call_exc_subT (hrest:=(by show 1<=sizeLine;decide)) PySem.F.excBase_ValueError T1 hC1 hN1 hni fun h' e' hm=>wpAny_bind (wpAny_holding (wpAny_point (wpAny_pure (Calls.spliced_nil ?_)))));have I2:j9 X pins σ H1 ⟨h',g,d,tks,os⟩:=I1.kept (t':=tks) hm.keeps;obtain ⟨t,h1,h2,h3⟩:=hm.there;have et:U2 h' e' C t m tk:=⟨⟨_,_,h1,rfl,rfl,rfl⟩,⟨_,_,h3,rfl,rfl⟩⟩;exact et.str I2.kIn cs.str cs.bex (by omega) ⟨.str m,H1,I2,⟨tk,rfl⟩,q⟩
def ck2:V->V->Hp->VK->Prop:=fun x y H Q=>∃(t:Str) (n:Int),x= .str t/\y= .int n/\PySem.MulOk t n/\Q (.str (Txt.mul t n)) H
theorem cb7:L9 X (binaryOp .Mult) ck2:=by
 intro pins s σ H x y u v Q I rx ry h;obtain ⟨t,n,rfl,rfl,ok,q⟩:=h;obtain ⟨k,rfl⟩:=rx;obtain ⟨k2,rfl⟩:=ry
 exact SB.mul ok fun t' k'=>⟨.str _,H,I.tok k',⟨_,rfl⟩,q⟩
end
end L2
namespace L2
open PySem PySem.Spec PyProof.Rows
section
variable {P:Program} {w:World} {K:PySem.W.Frag} {mg:Str->Option Value} {base h:Heap} {x:Str} {st:Stmt} {f:Addr} {fd:FuncData} {ps:List Str} {k:Nat} {sp:Sp}
def Fu (K:PySem.W.Frag)(x:Str)(st:Stmt)(f:Addr):Prop:=∃fd,PySem.W.nsIn K mainGlobals x=some (some (.ref f))/\B6 K x x st f fd
theorem ck3 {oc:Value}{od an:Option Addr}{osl:Array (Option Value)}{kV doc pm cdv ct:Value}(a:PySem.W.nsIn K mainGlobals x=some (some (.ref f)))(l:K.lookup f=some ⟨oc,od,.func (PySem.W.fnOf x x (Y0 st) (R3 st) (m6 st) .none kV doc pm an cdv ct),osl⟩)
 (c:PySem.W.codeIn K cdv x=true) (k:PySem.W.keepIn K (.ref f)=true):Fu K x st f:=⟨_,a,cf6 l c k⟩
theorem A9 (X:K.In h)(G:h.Ns mainGlobals mg)(a:PySem.W.nsIn K mainGlobals x=some (some (.ref f)))(F:B6 K x x st f fd)(b:X4 K fd ps [])(ok:q9 P w K mg base C3 k f fd ps sp):A2 P w K mg base x k ps sp:=⟨f,fd,PySem.W.mg_of X G a,F.kp,b,ok⟩
theorem ac0 (X:K.In h)(G:h.Ns mainGlobals mg)(a:PySem.W.nsIn K mainGlobals x=some (some (.ref f)))(F:B6 K x x st f fd)(b:X4 K fd ps [])(ok:q9 P w K mg base (X2 P w) k f fd ps sp):N2 P w K mg base x k ps sp:=⟨f,fd,PySem.W.mg_of X G a,F.kp,b,ok⟩
def Fre (K:PySem.W.Frag):List Str->Prop
 |[]=>True
 |x::l=>PySem.W.nsIn K mainGlobals x=some none/\Fre K l
structure ClF (K:PySem.W.Frag)(T:Addr)(x:Str)(q:Addr):Prop where
 n:PySem.W.nsIn K mainGlobals x=some (some (.ref q))
 e:PySem.W.excIn K q veB "ValueError.__new__"=true
 g:PySem.W.findIn K (.ref q) "__getattribute__"=some (some (.builtin "BaseException.__getattribute__"))
 h:PySem.W.findIn K (.ref q) "__getattr__"=some none
 c:PySem.W.findIn K (.ref q) "__class__"=some (some (.builtin "object.__class__"))
 b:PySem.W.mroIn K q (.type "BaseException")=some true
 o:PySem.W.mroIn K q (.type "object")=some true
 i:PySem.W.isClsIn K q=true
 t:PySem.W.typeIn K (.ref q)=some (.type "type")
 u:PySem.W.mroIn K q (.ref T)=some true
 v:PySem.W.mroIn K q (.type "ValueError")=some true
 s:PySem.W.findIn K (.ref q) "__str__"=some (some (.builtin "BaseException.__str__"))
def as3 (K:PySem.W.Frag)(T:Addr):List (Str×Addr)->Prop
 |[]=>True
 |(x,q)::l=>ClF K T x q/\as3 K T l
def PrI (K:PySem.W.Frag)(i:Nat)(a:Addr):Nat->List (Str×Addr)->Prop
 |_,[]=>True
 |j,(_,b)::l=>PySem.W.mroIn K a (.ref b)=some (Nat.beq i j)/\PrI K i a (j+1) l
def as4 (K:PySem.W.Frag)(all:List (Str×Addr)):Nat->List (Str×Addr)->Prop
 |_,[]=>True
 |i,(_,a)::l=>PrI K i a 0 all/\as4 K all (i+1) l
theorem as3.get {T:Addr}:∀{cs:List (Str×Addr)},as3 K T cs->∀p∈cs,ClF K T p.1 p.2
 |(x,q)::l,h,p,hp=>by
  rcases cq5.mp hp with rfl|hp
  · exact h.1
  · exact as3.get h.2 p hp
theorem PrI.get {i:Nat}{a:Addr}:∀{l:List (Str×Addr)} {j0:Nat},PrI K i a j0 l->∀j q,l[j]? =some q->PySem.W.mroIn K a (.ref q.2)=some (Nat.beq i (j0+j))
 |(x,b)::l,j0,h,0,q,e=>by
  cases e;exact h.1
 |(x,b)::l,j0,h,j+1,q,e=>by
  have:=PrI.get h.2 j q e;rw[this,show j0+1+j=j0+(j+1) by omega]
theorem as4.get {all:List (Str×Addr)}:∀{l:List (Str×Addr)} {i0:Nat},as4 K all i0 l->∀i p,l[i]? =some p->PrI K (i0+i) p.2 0 all
 |(x,b)::l,i0,h,0,p,e=>by
  cases e;exact h.1
 |(x,b)::l,i0,h,i+1,p,e=>by
  have:=as4.get h.2 i p e;rw[show i0+1+i=i0+(i+1) by omega] at this;exact this
theorem bq9 {T:Addr}{cs:List (Str×Addr)}(X:K.In h)(G:h.Ns mainGlobals mg)(uT:PySem.W.nsIn K mainGlobals "TurnError"=some (some (.ref T)))(uTb:PySem.W.mroIn K T (.type "BaseException")=some true)(uTc:PySem.W.isClsIn K T=true)(uTt:PySem.W.typeIn K (.ref T)=some (.type "type"))
   (uG:PySem.W.specialIn K (.builtin "object.__class__") "__get__"=some (some (.builtin "getset_descriptor.__get__"))) (uK:PySem.W.takesIn K (.builtin "object.__class__")=some true) (uC:as3 K T cs) (uP:as4 K cs 0 cs) (nd:(cs.map (·.1)).Nodup):ab9 K mg T cs:=by
 refine ⟨PySem.W.mg_of X G uT,fun p hp=> ?_,fun p hp=> ?_,fun p hp=> ?_,fun p hp=> ?_,fun p hp q hq=> ?_⟩
 · exact ⟨PySem.W.mg_of X G (uC.get p hp).n,(uC.get p hp).e⟩
 · have c:=uC.get p hp;exact cb3 c.g c.h c.c uG uK c.b c.o c.i
 · exact cb2 uTb uTc uTt (uC.get p hp).u
 · exact cg2 (uC.get p hp).v
 · have c:=uC.get q hq;obtain ⟨i,hi⟩:=ct6 hp;obtain ⟨j,hj⟩:=ct6 hq
   have e:∀{k:Nat} {r:Str×Addr},cs[k]? =some r->PySem.W.mroIn K p.2 (.ref r.2)=some (Nat.beq i k):=fun {k r} hr=>by
     have:=(uP.get i p hi).get k r hr;rw[cy0,cy0] at this;exact this
   have eb:decide (p.1=q.1)=Nat.beq i j:=by
     by_cases z:i=j
     · subst z;rw[hi] at hj;cases hj;rw[decide_eq_true rfl,Nat.beq_refl]
     · have:Nat.beq i j=false:=by
         cases y:Nat.beq i j with
         |false=>rfl
         |true=>exact absurd (Nat.eq_of_beq_eq_true y) z
       rw[this]
       refine decide_eq_false fun y=>z ?_
       have i1:i < (cs.map (·.1)).length:=by rw[co8];exact (cp0.mp hi).1
       refine (List.getElem?_inj i1 nd).mp ?_;rw[cq4,cq4,hi,hj];exact congrArg some y
   rw[eb]
   refine cb1 c.i c.t (e hj) fun z=> ?_
   have a:=e hi;rw[z] at a;have b:=e hj;rw[z,a,Nat.beq_refl] at b;exact (Option.some.inj b).symm
end
end L2
namespace L2
open PySem PySem.Spec PyProof PyProof.Rows
mutual
inductive O7 (h:Heap):Value->PyData->Prop
 |non:O7 h .none .none
 |bl (b:Bool):O7 h (.bool b) (.bool b)
 |int (i:Int) (t:Tok):O7 h (.int i t) (.int i)
 |str (x:Str) (t:Tok):O7 h (.str x t) (.str x)
 |lst {a:Addr} {o:Obj} {vs:Array Value} {n:Nat} {ds:List PyData} (g:h.get? a=some o) (c:o.cls= .type "list") (e:o.data= .seq vs n) (r:C8 h vs.toList ds):O7 h (.ref a) (.list ds)
 |tup {a:Addr} {o:Obj} {vs:Array Value} {n:Nat} {ds:List PyData} (g:h.get? a=some o) (c:o.cls= .type "tuple") (e:o.data= .seq vs n) (r:C8 h vs.toList ds):O7 h (.ref a) (.tuple ds)
 |dic {a:Addr} {o:Obj} {es:Array DictEntry} {n:Nat} {kds:List (PyData×PyData)} (g:h.get? a=some o) (c:o.cls= .type "dict") (e:o.data= .dict es n) (ns:(a==sysModules)=false)
     (rk:C8 h (es.toList.map (·.key)) (kds.map (·.1))) (rv:C8 h (es.toList.map (·.val)) (kds.map (·.2))):O7 h (.ref a) (.dict kds)
inductive C8 (h:Heap):List Value->List PyData->Prop
 |nil:C8 h [] []
 |cons {u:Value} {us:List Value} {d:PyData} {ds:List PyData} (r:O7 h u d) (rs:C8 h us ds):C8 h (u::us) (d::ds)
end
mutual
theorem O7.reads {h:Heap}:∀{u:Value} {d:PyData},O7 h u d->∃as,Reads h u d as
 |_,_,.non=>⟨_,.none⟩
 |_,_,.bl b=>⟨_,.bool b⟩
 |_,_,.int i t=>⟨_,.int i t⟩
 |_,_,.str x t=>⟨_,.str x t⟩
 |_,_,.lst g c e r=>let ⟨_,q⟩:=C8.reads r;⟨_,.list g c e q⟩
 |_,_,.tup g c e r=>let ⟨_,q⟩:=C8.reads r;⟨_,.tuple g c e q⟩
 |_,_,.dic g c e _ rk rv=>let ⟨_,q⟩:=C8.reads rk;let ⟨_,p⟩:=C8.reads rv;⟨_,.dict g c e q p⟩
theorem C8.reads {h:Heap}:∀{us:List Value} {ds:List PyData},C8 h us ds->∃as,ReadsAll h us ds as
 |_,_,.nil=>⟨_,.nil⟩
 |_,_,.cons r rs=>let ⟨_,q⟩:=O7.reads r;let ⟨_,p⟩:=C8.reads rs;⟨_,.cons q p⟩
end
section
variable {prog:Program} {w:World} {h:Heap}
mutual
theorem O7.shows:∀{u:Value} {d:PyData},O7 h u d->d.showable=true->d.shown.length<=sizeLine->∃bs,ReadAtMost h d.depth bs/\ReprK prog w bs h d.depth u d.shown
 |_,_,.non,_,_=>⟨[],(fun _ z=>nomatch z),by rw[PyData.shown];exact .of_is ReprIs.none _ _ _⟩
 |_,_,.bl b,_,_=>⟨[],(fun _ z=>nomatch z),by rw[PyData.shown];exact .of_is (ReprIs.bool b) _ _ _⟩
 |_,_,.int i t,s,_=>⟨[],(fun _ z=>nomatch z),by rw[PyData.shown];exact .of_is (ReprIs.int t (by simpa [PyData.showable] using s)) _ _ _⟩
 |_,_,.str x t,_,z=>⟨[],(fun _ y=>nomatch y),by rw[PyData.shown] at z ⊢;exact .of_is (ReprIs.str x t z) _ _ _⟩
 |_,_,.lst (a:=a) (vs:=vs) (ds:=ds) g c e r,s,z=>by
  rw[PyData.shown] at z
  obtain ⟨bs,b,k⟩:=C8.shows r (by simpa [PyData.showable] using s) fun t ht=>cq3 (listText_mem_le ht) z
  obtain ⟨as,q⟩:=O7.reads (.lst g c e r);have no:=not_mem_of_deeper q (by rw[PyData.depth];omega) b;refine ⟨a::bs,ReadAtMost.cons q (by rw[PyData.depth];omega) b,?_⟩;rw[PyData.depth,PyData.shown];obtain ⟨l⟩:=vs
  cases l with
  |nil=>
   cases (show C8 h [] ds from r);rw[PyData.shownAll,listText_nil];exact ReprK.listEmpty g c e
  |cons x l=>exact ReprK.list g c e no (by simpa using k.length_eq) fun i y ey=>k.item i y (by simpa using ey)
 |_,_,.tup (a:=a) (ds:=ds) g c e r,s,z=>by
  rw[PyData.shown] at z
  obtain ⟨bs,b,k⟩:=C8.shows r (by simpa [PyData.showable] using s) fun t ht=>cq3 (tupleText_mem_le ht) z
  obtain ⟨as,q⟩:=O7.reads (.tup g c e r);have no:=not_mem_of_deeper q (by rw[PyData.depth];omega) b;refine ⟨a::bs,ReadAtMost.cons q (by rw[PyData.depth];omega) b,?_⟩;rw[PyData.depth,PyData.shown];exact ReprK.tuple g c e no k
 |_,_,.dic (a:=a) (es:=es) (kds:=kds) g c e ns rk rv,s,z=>by
  rw[PyData.shown] at z;obtain ⟨s1,s2⟩:=PyData.showableKv_split kds (by simpa [PyData.showable] using s)
  obtain ⟨b1,m1,k1⟩:=C8.shows rk s1 fun t ht=>by
    obtain ⟨y,hy,l⟩:=PyData.shownKv_key_le kds t ht;exact cq3 l (cq3 (dictText_mem_le hy) z)
  obtain ⟨b2,m2,k2⟩:=C8.shows rv s2 fun t ht=>by
    obtain ⟨y,hy,l⟩:=PyData.shownKv_val_le kds t ht;exact cq3 l (cq3 (dictText_mem_le hy) z)
  obtain ⟨as,q⟩:=O7.reads (.dic g c e ns rk rv);have b:ReadAtMost h (PyData.depthKv kds) (b1++b2):=ReadAtMost.append (m1.mono (PyData.depthAll_keys_le kds)) (m2.mono (PyData.depthAll_vals_le kds));have no:=not_mem_of_deeper q (by rw[PyData.depth];omega) b;refine ⟨a::(b1++b2),ReadAtMost.cons q (by rw[PyData.depth];omega) b,?_⟩;rw[PyData.depth,PyData.shown,PyData.shownKv_eq];have j1:=k1.more_le (as':=b1++b2) (fun _ y=>cs3 _ y) (PyData.depthAll_keys_le kds);have j2:=k2.more_le (as':=b1++b2) (fun _ y=>cp8 _ y) (PyData.depthAll_vals_le kds);exact ReprK.dict g c e ns no (ReprEntriesK.of_two es.toList _ _ j1 j2)
theorem C8.shows:∀{us:List Value} {ds:List PyData},C8 h us ds->PyData.showableAll ds=true->(∀t∈PyData.shownAll ds,t.length<=sizeLine)->
   ∃bs,ReadAtMost h (PyData.depthAll ds) bs/\ReprAllK prog w bs h (PyData.depthAll ds) us (PyData.shownAll ds)
 |_,_,.nil,_,_=>⟨[],(fun _ z=>nomatch z),by rw[PyData.shownAll];exact .nil⟩
 |_,_,.cons (d:=d) (ds:=ds) r rs,s,z=>by
  have s':d.showable=true/\PyData.showableAll ds=true:=by simpa [PyData.showableAll] using s
  rw[PyData.shownAll] at z;obtain ⟨b1,m1,k1⟩:=O7.shows r s'.1 (z _ cp7)
  obtain ⟨b2,m2,k2⟩:=C8.shows rs s'.2 fun t ht=>z t (cp6 _ ht)
  rw[PyData.depthAll,PyData.shownAll];refine ⟨b1++b2,fun b hb=> ?_,.cons ((k1.more fun _ y=>cs3 _ y).level_le (Nat.le_max_left _ _)) (k2.more_le (fun _ y=>cp8 _ y) (Nat.le_max_right _ _))⟩
  rcases cp4.mp hb with y|y
  · obtain ⟨d1,as1,r1,l1⟩:=m1 b y;exact ⟨d1,as1,r1,cq3 l1 (Nat.le_max_left _ _)⟩
  · obtain ⟨d1,as1,r1,l1⟩:=m2 b y;exact ⟨d1,as1,r1,cq3 l1 (Nat.le_max_right _ _)⟩
end
theorem O7.by_ {a:Addr}{d:PyData}(r:O7 h (.ref a) d)(s:d.showable=true)(z:d.shown.length<=sizeLine):∃T idr,ShowsBy prog w h a d T idr:=by
 obtain ⟨as,q⟩:=r.reads
 cases r with
 |lst g c e r=>
  rename_i o vs n ds;rw[PyData.shown] at z
  obtain ⟨bs,b,k⟩:=C8.shows (prog:=prog) (w:=w) r (by simpa [PyData.showable] using s) fun t ht=>cq3 (listText_mem_le ht) z
  have no:=not_mem_of_deeper q (by rw[PyData.depth];omega) b;refine ⟨"list","list.__repr__",F.slot_list_repr.toG,F.slot_list_str,F.slot_list_format,fun s k0=>⟨o,k0 _ _ g,c⟩,fun A E s0 Q hg u k0 hq=> ?_⟩;rw[PyData.depth] at u;rw[PyData.shown] at hq;obtain ⟨l⟩:=vs
  cases l with
  |nil=>
   cases (show C8 h [] ds from r);rw[PyData.shownAll,listText_nil] at hq;exact call_list_repr_empty ⟨o,k0 _ _ g,c⟩ (k0 _ _ g) e (hq s0.heap _ _ fun _ _ y=>y)
  |cons x l=>exact call_list_reprK g c e no (by simpa using k.length_eq) (fun i y ey=>k.item i y (by simpa using ey)) hg (fun b _=>Clear.nil b) u k0 hq z
 |tup g c e r=>
  rename_i o vs n ds;rw[PyData.shown] at z
  obtain ⟨bs,b,k⟩:=C8.shows (prog:=prog) (w:=w) r (by simpa [PyData.showable] using s) fun t ht=>cq3 (tupleText_mem_le ht) z
  have no:=not_mem_of_deeper q (by rw[PyData.depth];omega) b;refine ⟨"tuple","tuple.__repr__",F.slot_tuple_repr,F.slot_tuple_str,F.slot_tuple_format,fun s k0=>⟨o,k0 _ _ g,c⟩,fun A E s0 Q hg u k0 hq=> ?_⟩;rw[PyData.depth] at u;rw[PyData.shown] at hq;exact call_tuple_reprK g c e no k hg (fun b _=>Clear.nil b) u k0 hq z
 |dic g c e ns rk rv=>
  rename_i o es n kds;rw[PyData.shown] at z;obtain ⟨s1,s2⟩:=PyData.showableKv_split kds (by simpa [PyData.showable] using s)
  obtain ⟨b1,m1,k1⟩:=C8.shows (prog:=prog) (w:=w) rk s1 fun t ht=>by
    obtain ⟨y,hy,l⟩:=PyData.shownKv_key_le kds t ht;exact cq3 l (cq3 (dictText_mem_le hy) z)
  obtain ⟨b2,m2,k2⟩:=C8.shows (prog:=prog) (w:=w) rv s2 fun t ht=>by
    obtain ⟨y,hy,l⟩:=PyData.shownKv_val_le kds t ht;exact cq3 l (cq3 (dictText_mem_le hy) z)
  have b:ReadAtMost h (PyData.depthKv kds) (b1++b2):=ReadAtMost.append (m1.mono (PyData.depthAll_keys_le kds)) (m2.mono (PyData.depthAll_vals_le kds));have no:=not_mem_of_deeper q (by rw[PyData.depth];omega) b;refine ⟨"dict","dict.__repr__",F.slot_dict_repr,F.slot_dict_str,F.slot_dict_format,fun s k0=>⟨o,k0 _ _ g,c⟩,fun A E s0 Q hg u k0 hq=> ?_⟩;rw[PyData.depth] at u;rw[PyData.shown,PyData.shownKv_eq] at hq;rw[PyData.shownKv_eq] at z;have j1:=k1.more_le (as':=b1++b2) (fun _ y=>cs3 _ y) (PyData.depthAll_keys_le kds);have j2:=k2.more_le (as':=b1++b2) (fun _ y=>cp8 _ y) (PyData.depthAll_vals_le kds);exact call_dict_reprK g c e ns no (ReprEntriesK.of_two es.toList _ _ j1 j2) hg (fun b _=>Clear.nil b) u k0 hq z
end
mutual
inductive Da (H:Hp):V->PyData->Prop
 |non:Da H .non .none
 |bl (b:Bool):Da H (.bl b) (.bool b)
 |int (i:Int):Da H (.int i) (.int i)
 |str (x:Str):Da H (.str x) (.str x)
 |lst {a:Addr} {xs:List V} {ds:List PyData} (e:H a=some (.lst xs)) (h:R6 H xs ds):Da H (.ref a) (.list ds)
 |tup {a:Addr} {xs:List V} {ds:List PyData} (e:H a=some (.tup xs)) (h:R6 H xs ds):Da H (.ref a) (.tuple ds)
 |dic {a:Addr} (e:H a=some (.dK [])):Da H (.ref a) (.dict [])
inductive R6 (H:Hp):List V->List PyData->Prop
 |nil:R6 H [] []
 |cons {x:V} {xs:List V} {d:PyData} {ds:List PyData} (h:Da H x d) (hs:R6 H xs ds):R6 H (x::xs) (d::ds)
end
mutual
theorem Da.keep {H H':Hp}(s:c9 H H'):∀{v:V} {d:PyData},Da H v d->Da H' v d
 |_,_,.non=> .non
 |_,_,.bl b=> .bl b
 |_,_,.int i=> .int i
 |_,_,.str x=> .str x
 |_,_,.lst e h=> .lst (s _ _ e) (R6.keep s h)
 |_,_,.tup e h=> .tup (s _ _ e) (R6.keep s h)
 |_,_,.dic e=> .dic (s _ _ e)
theorem R6.keep {H H':Hp}(s:c9 H H'):∀{vs:List V} {ds:List PyData},R6 H vs ds->R6 H' vs ds
 |_,_,.nil=> .nil
 |_,_,.cons h hs=> .cons (Da.keep s h) (R6.keep s hs)
end
mutual
theorem Da.rd {X:Cx}{pins:List (Addr×Obj)}{σ:St}{H:Hp}{s:Shared}(I:j9 X pins σ H s):∀{v:V} {d:PyData} {u:Value},Da H v d->y8 v u->O7 s.heap u d
 |_,_,u,.non,r=>by cases (show u=Value.none from r);exact .non
 |_,_,u,.bl b,r=>by cases (show u=Value.bool b from r);exact .bl b
 |_,_,u,.int i,r=>by obtain ⟨t,rfl⟩:=r;exact .int i t
 |_,_,u,.str x,r=>by obtain ⟨t,rfl⟩:=r;exact .str x t
 |_,_,u,.lst e h,r=>by
  cases r;obtain ⟨z,its,n,rv,hl,ho⟩:=I.lstM e;exact .lst ho rfl rfl (by simpa using R6.rd I h rv)
 |_,_,u,.tup e h,r=>by
  cases r;obtain ⟨z,its,rv,o,ho,hc,n,hd⟩:=I.hok _ _ e;exact .tup ho hc hd (by simpa using R6.rd I h rv)
 |_,_,u,.dic e,r=>by
  cases r;obtain ⟨hz,hS,vs,kv,o,es,ep,ho,hx,hd,hk,hp,hn⟩:=I.hok _ _ e;cases kv
  have ee:es.toList=[]:=by
    cases hq:es.toList with
    |nil=>rfl
    |cons x xs=>rw[hq] at hp;cases hp
  exact .dic (kds:=[]) ho hx.1 hd hS (by rw[ee];exact .nil) (by rw[ee];exact .nil)
theorem R6.rd {X:Cx}{pins:List (Addr×Obj)}{σ:St}{H:Hp}{s:Shared}(I:j9 X pins σ H s):∀{vs:List V} {ds:List PyData} {us:List Value},R6 H vs ds->o5 vs us->C8 s.heap us ds
 |_,_,_,.nil,.nil=> .nil
 |_,_,_,.cons h hs,.cons r rs=> .cons (Da.rd I h r) (R6.rd I hs rs)
end
structure DaS (H:Hp)(v:V)(d:PyData):Prop where
 da:Da H v d
 ok:d.showable=true
 le:d.shown.length<=sizeLine
 dp:d.depth<=8
section
variable {X:Cx} {p pos:Pos} {e:Expr} {t:TA}
def cg5:List V->Hp->VK->Prop:=fun xs H Q=>∃v d,xs=[v]/\DaS H v d/\Q (.str d.shown) H
theorem bj8 (hu:X.A.units+16 < cLine)(hg:X.A.guards=some []):G8 X (.builtin "repr") cg5:=by
 intro pins s σ H xs us Q I r h;obtain ⟨v,d,rfl,⟨hs,sh,le,dp⟩,q⟩:=h;obtain ⟨u,rfl,ru⟩:=M2 r
 have fin:∀tk0 tk,(EP X pins σ Q) (.str d.shown tk0) {s with toks:=tk}:=fun tk0 tk=>⟨.str d.shown,H,I.tok _,⟨_,rfl⟩,q⟩
 have onref:∀{a:Addr},u= .ref a->wpAny (model X.prog X.w) X.A (call (.builtin "repr") [u]) (EP X pins σ Q) X.xe s:=fun {a} eu=>by
   subst eu;obtain ⟨T,idr,S⟩:=(hs.rd I ru).by_ (prog:=X.prog) (w:=X.w) sh le;exact call_repr_slot (by omega) (S.typeIs s fun _ _ y=>y) S.slotRepr (S.call X.A.in1 _ s _ hg (by show X.A.units+1+d.depth < cLine;omega) (fun _ _ y=>y) fun h' u tk hk=>⟨_,_,rfl,.str d.shown,H,I.kept (t':=tk) hk,⟨_,rfl⟩,q⟩)
 cases hs with
 |non=>cases (show u=Value.none from ru);exact PySem.P.repr_of_none (by simpa only[PyData.shown] using fin _ _)
 |bl b=>cases (show u=Value.bool b from ru);exact PySem.P.repr_of_bool (by simpa only[PyData.shown] using fin _ _)
 |int i=>obtain ⟨t,rfl⟩:=ru;exact PySem.P.repr_of_int (by simpa [PyData.showable] using sh) (by simpa only[PyData.shown] using fin _ _)
 |str x=>obtain ⟨t,rfl⟩:=ru;exact PySem.P.repr_of_str (by simpa only[PyData.shown] using fin _ _) (by simpa only[PyData.shown] using le)
 |lst e h=>exact onref ru
 |tup e h=>exact onref ru
 |dic e=>exact onref ru
end
end L2
namespace My
open PySem L2 Mth
def top (i:Nat):Stmt:=PySem.Challenge.pw_turnroots_k10_no_rounds.main.body.getD i (.Pass ⟨0,0,0,0⟩)
abbrev ae4:Stmt:=top 13
abbrev T3:Stmt:=top 14
abbrev ab5:Stmt:=top 15
abbrev Z3:Stmt:=top 16
abbrev Z4:Stmt:=top 17
abbrev V7:Stmt:=top 20
abbrev L6:Stmt:=top 21
abbrev O8:Stmt:=top 23
abbrev V8:Stmt:=top 24
abbrev V9:Stmt:=top 25
abbrev D9:Stmt:=top 26
abbrev O9:Stmt:=top 27
abbrev M8:Stmt:=top 28
abbrev ae5:Stmt:=top 30
abbrev ae6:Stmt:=top 31
abbrev U3:Stmt:=top 32
abbrev Q5:Stmt:=top 33
abbrev W4:Stmt:=top 34
abbrev ae7:Stmt:=top 35
abbrev ah6:Stmt:=top 36
abbrev W5:Stmt:=top 37
abbrev Z5:Stmt:=top 38
abbrev Z6:Stmt:=top 39
abbrev N9:Stmt:=top 40
abbrev an0:Stmt:=top 41
abbrev Q6:Stmt:=top 42
abbrev ah7:Stmt:=top 43
abbrev ab6:Stmt:=top 44
abbrev X7:Stmt:=top 45
abbrev W6:Stmt:=top 46
abbrev ak1:Stmt:=top 47
end My
namespace My
open PySem L2 Mth
structure Bl (mg:Str->Option Value):Prop where
 len:mg "len"=none
 isi:mg "isinstance"=none
 int:mg "int"=none
 bool:mg "bool"=none
 list:mg "list"=none
 range:mg "range"=none
 sum:mg "sum"=none
 min:mg "min"=none
 max:mg "max"=none
 enum:mg "enumerate"=none
 zip:mg "zip"=none
 sorted:mg "sorted"=none
 tuple:mg "tuple"=none
 str:mg "str"=none
 repr:mg "repr"=none
 all:mg "all"=none
 any:mg "any"=none
 set:mg "set"=none
 dict:mg "dict"=none
 ve:mg "ValueError"=none
section
variable {P:Program} {w:World} {K:PySem.W.Frag} {mg:Str->Option Value} {base:Heap}
def ak2 (K:PySem.W.Frag):Sp:=fun vs H Q _=>∃x t b1 b2,vs=[x]/\K0 K H x t/\PySem.W.kitOne K t (.type "int")=some b1/\PySem.W.kitOne K t (.type "bool")=some b2/\Q (.bl (b1&& !b2)) H
theorem cb8:r6 ["thing"] ["thing"] (m6 ae4):=by rfl'
theorem bw0 {f:Addr}{fd:FuncData}(F:B6 K "is_whole" "is_whole" ae4 f fd)(B:Bl mg):q9 P w K mg base C3 1 f fd ["thing"] (ak2 K):=by
 refine F.ok cb8 (fun vs H Q E h=> ?_) (fun cdv A outer s H vs Q E hr h=> ?_)
 · obtain ⟨x,t,b1,b2,rfl,_⟩:=h;rfl
 · obtain ⟨x,t,b1,b2,rfl,ty,e1,e2,q⟩:=h;refine ⟨_,i5 (m7 (ag1 (K9 B.isi (c6 (pv 0) (c6 (az7 B.int) c7))) (ao0 (bm2 (K9 B.isi (c6 (pv 0) (c6 (au8 B.bool) c7))))))),?_⟩;refine ⟨x,rfl,x,"int",t,b1,rfl,ty,e1,b1,rfl,?_⟩
   cases b1 with
   |true=>
    refine B3 ⟨x,rfl,x,"bool",t,b2,rfl,ty,e2,b2,rfl,?_⟩;exact q
   |false=>exact A5 q
def U4:Sp:=fun vs H Q _=>∃(a:Addr) (ns:List Int),vs=[.ref a]/\H a=some (.lst (ns.map V.int))/\∀(b:Bool) (H':Hp),c9 H H'->(b=true↔ns.length<=40/\D8 ns)->Q (.bl b) H'
theorem an1:r6 ["thing","seen","place"] ["thing"] (m6 V7):=by rfl'
theorem br0 {f:Addr}{fd:FuncData}(F:B6 K "is_turn" "is_turn" V7 f fd)(B:Bl mg)(mt:∃t,mg "MOST_THINGS"=some (.int 40 t))(cW:A2 P w K mg base "is_whole" 1 ["thing"] (ak2 K)):q9 P w K mg base C3 2 f fd ["thing"] U4:=by
 refine F.ok an1 (fun vs H Q E h=> ?_) (fun cdv A outer s H vs Q E hr h=> ?_)
 · obtain ⟨a,ns,rfl,_⟩:=h;rfl
 · obtain ⟨a,ns,rfl,ha,k⟩:=h;obtain ⟨tk,mt⟩:=mt;have hu:=S6 hr
   refine ⟨_,i4 (A0 (D7 (C1 (B4 (K9 B.isi (c6 (pv 0) (c6 (J0 B.list) c7))))) (K8 (m9 aa3 (x9 B.len (c6 (pv 0) c7)) (G9 (v:= .int 40) (by rfl) mt ⟨tk,rfl⟩) (q0 _)))).pt (i5 (m7 B5)) o8)
     (i4 (l8 (i:=1) an1.nd rfl (Or.inl rfl) Y9)
     (i4 (B7 PassesOwn.never rfl (A8 (pv 0)) (v0 (i:=2) an1.nd rfl (Or.inl rfl))
       (i4 (A0 (D7 (C1 (B4 (l9 cW hr (c6 (pv 2) c7)))) (D7 (m9 ao3 (pv 2) i7 (q0 _)) (D7 (m9 ax2 (pv 2) (x9 B.len (c6 (pv 0) c7)) (q0 _)) (K8 (ax8 (bo5 hu (pv 2) (pv 1))))))).pt (i5 (m7 B5)) o8)
       (i5 (ar6 hu (pv 1) (pv 2) B5 rfl))))
     (i5 (m7 B5)))),?_⟩
   refine ⟨_,rfl,_,"list",_,true,rfl,.lst ha,D2 K "list",true,rfl,?_⟩;refine A5 ⟨_,rfl,a,_,rfl,.inl (i8.of ha),_,_,rfl,rfl,_,rfl,?_⟩;rw[co8];refine G0 (fun h40=> ?_) (fun h40=> ?_)
   · have h40:(40:Int) < (ns.length:Int):=of_decide_eq_true h40;exact k false H (c9.refl H) ⟨fun z=>(by cases z),fun z=>(by have:=z.1;omega)⟩
   · have h40:¬(40:Int) < (ns.length:Int):=fun z=>h40 (decide_eq_true z)
     intro d hd;have nad:a≠d:=i9 ha hd
     have ha1:(e8 H d (.dK [])) a=some (.lst (ns.map V.int)):=by rw[i6 nad];exact ha
     refine ⟨_,rfl,a,rfl,⟨_,i8.of ha1⟩,C2 (K:=K) (a:=a) (xs:=ns.map V.int) (fun i σ H2=>∃v:Option V,σ=[some (.ref a),some (.ref d),v]/\c9 H H2/\H2 d=some (.dK (M5 (ns.take i)))/\(ns.take i).Nodup/\∀x∈ns.take i,0<=x/\x < ns.length)
       ⟨none,rfl,c9.upd_new hd,c8,cv7,fun x hx=>by simp at hx⟩ (fun i σ H2 _ zz=>by obtain ⟨_,_,s2,_⟩:=zz;exact i8.of (s2 a _ ha)) ?_ ?_⟩
     · rintro i y σ H2 hi ⟨v,rfl,s2,h2,nd,bd⟩;obtain ⟨z,hz,rfl⟩:=K5 hi;have ha2:=s2 a _ ha;have hil:i < ns.length:=(cp0.mp hz).1;refine ⟨_,rfl,.int z,_,true,false,rfl,.int z,D2 K "int",S8 K,_,rfl,?_⟩;refine A5 ⟨_,rfl,_,_,rfl,rfl,_,rfl,?_⟩;refine G0 (fun hz0=> ?_) (fun hz0=> ?_)
       · have hz0:z < 0:=of_decide_eq_true hz0;exact B3 (k false H2 s2 ⟨fun q=>(by cases q),fun q=>(by have:=q.2.lo z (cp3 hz);omega)⟩)
       have hz0:¬z < 0:=fun q=>hz0 (decide_eq_true q)
       refine ⟨_,rfl,_,rfl,a,_,rfl,.inl (i8.of ha2),_,_,rfl,rfl,_,rfl,?_⟩;rw[co8];refine G0 (fun hz1=> ?_) (fun hz1=> ?_)
       · have hz1:(ns.length:Int)<=z:=of_decide_eq_true hz1;exact B3 (k false H2 s2 ⟨fun q=>(by cases q),fun q=>(by have:=q.2.hi z (cp3 hz);omega)⟩)
       have hz1:¬(ns.length:Int)<=z:=fun q=>hz1 (decide_eq_true q)
       refine ⟨_,rfl,_,rfl,d,_,rfl,ad4.k (k:=Sum.inl z) h2,_,rfl,?_⟩
       by_cases hm:z∈ns.take i
       · rw[am4 hm];refine B3 (k false H2 s2 ⟨fun q=>(by cases q),fun q=> ?_⟩);exfalso;obtain ⟨j,hj⟩:=ct4.mp hm
         have hjl:j < i:=by
           have:=(cp0.mp hj).1;rw[cq2] at this;omega
         rw[ct0 hjl] at hj;have e1:=(cp0.mp hj).2;have e2:=(cp0.mp hz).2;exact cu0.mp (cr3.mp q.2.nd) j i (by omega) hil hjl (by rw[e1,e2])
       · rw[ad9 hm];refine A5 ⟨_,rfl,_,rfl,d,_,rfl,am1.k (k:=Sum.inl z) h2 (m4 (by unfold M5;rw[co8,cq2];omega)),?_⟩
         have hds:∀b o,H b=some o->b≠d:=fun b o e=>i9 e hd
         refine ⟨some (.int z),rfl,fun b o e=>by rw[i6 (hds b o e)];exact s2 b o e,?_,?_,?_⟩
         · rw[ag9 hm,c8,o9 hz]
         · rw[o9 hz];exact R4 nd hm
         · intro x hx;rw[o9 hz] at hx
           rcases cp4.mp hx with q|q
           · exact bd x q
           · have:x=z:=by simpa using q
             omega
     · rintro σ H2 ⟨v,rfl,s2,h2,nd,bd⟩;rw[co8,cr7] at nd bd;refine k true H2 s2 ⟨fun _=>⟨by omega,⟨nd,fun x hx=>(bd x hx).1,fun x hx=>(bd x hx).2⟩⟩,fun _=>rfl⟩
end
end My
namespace My
open PySem L2 Mth
section
variable {P:Program} {w:World} {K:PySem.W.Frag} {mg:Str->Option Value} {base:Heap}
def ac1 (H:Hp)(a:Addr)(p:List Int):Prop:=H a=some (.lst (p.map V.int))/\D8 p/\p.length<=40
end
end My
namespace My
open PySem L2 Mth
section
variable {P:Program} {w:World} {K:PySem.W.Frag} {mg:Str->Option Value} {base:Heap}
def ah8:Sp:=fun vs H Q _=>∃(a:Addr) (ns:List Int),vs=[.ref a]/\ac1 H a ns/\∀(H':Hp),c9 H H'->Q .non H'
theorem br1:r6 ["thing"] ["thing"] (m6 L6):=by rfl'
theorem bg9 {f:Addr}{fd:FuncData}(F:B6 K "must_be_turn" "must_be_turn" L6 f fd)(cT:A2 P w K mg base "is_turn" 2 ["thing"] U4):q9 P w K mg base C3 3 f fd ["thing"] ah8:=by
 refine F.ok br1 (fun vs H Q E h=> ?_) (fun cdv A outer s H vs Q E hr h=> ?_)
 · obtain ⟨a,ns,rfl,_⟩:=h;rfl
 · obtain ⟨a,ns,rfl,⟨ha,ht,hl⟩,k⟩:=h;refine ⟨_,i5 (A0 (C1 (B4 (l9 cT hr (c6 (pv 0) c7)))) (i5 al9) o8),?_⟩;refine ⟨_,rfl,a,ns,rfl,ha,fun b H' s' hb=>⟨b,rfl,?_⟩⟩;have:b=true:=hb.mpr ⟨hl,ht⟩;subst this;exact A5 (k H' s')
end
end My
namespace My
open PySem L2 Mth
section
variable {P:Program} {w:World} {K:PySem.W.Frag} {mg:Str->Option Value} {base:Heap}
def ba8 (K:PySem.W.Frag):Sp:=fun vs H Q _=>∃(a:Addr) (ns:List Int) (k:Int),vs=[.ref a,.int k]/\i8 K H a (ns.map V.int)/\0<=k/\k<=100/\∀(l:Addr) (H':Hp),H l=none->c9 H H'->x6 H' l 4300->Q (.ref l) H'
theorem ba9:r6 ["script","k","cell"] ["script","k"] (m6 ae5):=by rfl'
theorem cb9 {f:Addr}{fd:FuncData}(F:B6 K "_law_pool" "_law_pool" ae5 f fd)(B:Bl mg):q9 P w K mg base C3 1 f fd ["script","k"] (ba8 K):=by
 refine F.ok ba9 (fun vs H Q E h=> ?_) (fun cdv A outer s H vs Q E hr h=> ?_)
 · obtain ⟨a,ns,k,rfl,_⟩:=h;rfl
 · obtain ⟨a,ns,k,rfl,ha,k0,k1,q⟩:=h
   refine ⟨_,i4 (l8 (i:=2) ba9.nd rfl (Or.inl rfl) i7)
     (i4 (A0 (m9 ao3 (pv 1) (x9 B.len (c6 (pv 0) c7)) (q0 _)) (i5 (l8 (i:=2) ba9.nd rfl (Or.inl rfl) (y7 o0 (pv 0) (pv 1) (fun _ _=>rfl)))) o8)
     (i4 (A0 (m9 ax2 (pv 2) (m3 ao1 i7 i7) (q0 _)) (i5 (m7 (m8 (c6 (m3 S1 (pv 2) (m3 ao1 i7 i7)) (c6 i7 (c6 i7 c7)))))) o8)
     (i5 (m7 (m8 (c6 (pv 2) (c6 i7 (c6 (m3 V5 i7 (pv 1)) c7)))))))),?_⟩
   refine ⟨_,rfl,_,rfl,a,_,rfl,.inl ha,_,_,rfl,rfl,_,rfl,?_⟩;rw[co8];have cp:ce8 10 18:=⟨by decide,by decide,by decide⟩;refine G0 (fun h=> ?_) (fun h=> ?_)
   · have h:k < (ns.length:Int):=of_decide_eq_true h;refine ⟨_,rfl,_,rfl,a,_,k,_,rfl,rfl,ha,T9 k0 h,?_⟩;refine ⟨_,rfl,_,_,rfl,rfl,cp,_,_,rfl,rfl,_,rfl,?_⟩;refine G0 (fun h=> ?_) (fun h=> ?_)
     · refine ⟨_,rfl,_,_,rfl,rfl,cp,_,_,rfl,rfl,(by show 3<=sizeLine;decide),fun l hl=> ?_⟩;exact q l _ hl (c9.upd_new hl) ⟨_,_,_,c8,by decide,by decide⟩
     · refine ⟨_,rfl,_,rfl,_,_,rfl,rfl,.inl ⟨by decide,by decide⟩,(by show 3<=sizeLine;decide),fun l hl=> ?_⟩;exact q l _ hl (c9.upd_new hl) ⟨_,_,_,c8,by omega,by omega⟩
   · refine ⟨_,rfl,_,_,rfl,rfl,cp,_,_,rfl,rfl,_,rfl,?_⟩;refine G0 (fun h=> ?_) (fun h=> ?_)
     · refine ⟨_,rfl,_,_,rfl,rfl,cp,_,_,rfl,rfl,(by show 3<=sizeLine;decide),fun l hl=> ?_⟩;exact q l _ hl (c9.upd_new hl) ⟨_,_,_,c8,by decide,by decide⟩
     · refine ⟨_,rfl,_,rfl,_,_,rfl,rfl,.inl ⟨by decide,by decide⟩,(by show 3<=sizeLine;decide),fun l hl=> ?_⟩;exact q l _ hl (c9.upd_new hl) ⟨_,_,_,c8,by omega,by omega⟩
def Q0:Sp:=fun vs H Q _=>∃(a:Addr) (c:Nat) (m:Int),vs=[.ref a,.int m]/\x6 H a c/\c<=1000000/\0 < m/\m<=1000000000000000000000000000000/\∀(r:Int) (H':Hp),0<=r->r < m->x6 H' a (c+1)->l7 a H H'->Q (.int r) H'
theorem ac2:r6 ["pool","many","found","step","mark"] ["pool","many"] (m6 ae6):=by rfl'
theorem cc0 {f:Addr}{fd:FuncData}(F:B6 K "_law_take" "_law_take" ae6 f fd):q9 P w K mg base C3 1 f fd ["pool","many"] Q0:=by
 refine F.ok ac2 (fun vs H Q E h=> ?_) (fun cdv A outer s H vs Q E hr h=> ?_)
 · obtain ⟨a,c,m,rfl,_⟩:=h;rfl
 · obtain ⟨a,c,m,rfl,⟨x,y,z,ha,hz,hzc⟩,hc,m0,m1,q⟩:=h
   refine ⟨_,i4 (A0 (m9 E3 (y7 o0 (pv 0) i7 (fun _ _=>rfl)) i7 (q0 _))
       (i4 (l8 (i:=2) ac2.nd rfl (Or.inl rfl) (m3 S2 (y7 o0 (pv 0) i7 (fun _ _=>rfl)) (pv 1)))
       (i4 (O3 (m3 bv3 (y7 o0 (pv 0) i7 (fun _ _=>rfl)) (pv 1)) (O2 (pv 0) i7 K3))
       (i5 (m7 (pv 2))))) o8)
     (i4 (O3 (m3 B2 (y7 o0 (pv 0) i7 (fun _ _=>rfl)) i7) (O2 (pv 0) i7 K3))
     (i4 (l8 (i:=3) ac2.nd rfl (Or.inl rfl) (y7 o0 (pv 0) i7 (fun _ _=>rfl)))
     (i4 (l8 (i:=4) ac2.nd rfl (Or.inl rfl) (m3 V5 (m3 B2 (m3 S2 (y7 o0 (pv 0) i7 (fun _ _=>rfl)) i7) i7) (m3 B2 (m3 V5 i7 (pv 3)) i7)))
     (i4 (l8 (i:=4) ac2.nd rfl (Or.inl rfl) (m3 B2 (pv 4) (m3 V5 (m3 V5 i7 (pv 3)) (pv 3))))
     (i4 (l8 (i:=4) ac2.nd rfl (Or.inl rfl) (m3 S2 (m3 V5 (pv 4) (pv 4)) i7))
     (i5 (m7 (m3 S2 (m3 bf6 (m3 S2 (m3 V5 (pv 4) (m3 B2 (pv 4) i7)) i7) i7) (pv 1))))))))),?_⟩
   refine ⟨_,rfl,a,_,_,_,rfl,rfl,i8.of ha,(w6 (j:=1) rfl),rfl,_,rfl,?_⟩;refine G0 (fun h=> ?_) (fun h=> ?_)
   · refine ⟨_,rfl,a,_,_,_,rfl,rfl,i8.of ha,(w6 (j:=0) rfl),_,rfl,_,_,rfl,rfl,m0,?_⟩;refine ⟨_,rfl,a,_,_,_,rfl,rfl,i8.of ha,(w6 (j:=0) rfl),_,rfl,_,_,rfl,rfl,⟨m0,m1⟩,?_⟩;refine ⟨_,rfl,a,_,_,0,rfl,rfl,ha,rfl,?_⟩;refine ⟨_,rfl,q _ _ (cw8 _ (by omega)) (cv8 _ m0) ⟨_,_,_,c8,hz,by omega⟩ l7.upd⟩
   · refine ⟨_,rfl,a,_,_,_,rfl,rfl,i8.of ha,(w6 (j:=2) rfl),_,_,rfl,rfl,?_⟩;refine ⟨_,rfl,a,_,_,2,rfl,rfl,ha,rfl,?_⟩;have ha2:(e8 H a (.lst [.int x,.int y,.int (z+1)])) a=some (.lst [.int x,.int y,.int (z+1)]):=c8;refine ⟨_,rfl,a,_,_,_,rfl,rfl,i8.of ha2,(w6 (j:=2) rfl),?_⟩;have hxm:0<=x%9999999577/\x%9999999577 < 9999999577:=⟨cw8 _ (by decide),cv8 _ (by decide)⟩;have tb:=bj1 (u:=x%9999999577+1009) (s:=z+1) (by omega) (by omega) (by omega) (by omega)
     have e64:(2:Int)^64=18446744073709551616:=by decide
     refine ⟨_,rfl,a,_,_,_,rfl,rfl,i8.of ha2,(w6 (j:=0) rfl),_,_,rfl,rfl,(by show (0:Int) < 9999999577;decide),_,_,rfl,rfl,_,rfl,_,_,rfl,rfl,.inl ⟨by decide,by decide⟩,_,_,rfl,rfl,_,_,rfl,rfl,.inl ⟨by rw[e64];omega,by rw[e64];omega⟩,?_⟩;refine ⟨_,rfl,_,rfl,_,_,rfl,rfl,.inl ⟨by decide,by decide⟩,_,rfl,_,_,rfl,rfl,.inl ⟨by rw[e64];omega,by rw[e64];omega⟩,_,_,rfl,rfl,?_⟩;refine ⟨_,rfl,_,rfl,_,_,rfl,rfl,.inl ⟨by have:=tb.1;rw[e64];omega,tb.2⟩,_,_,rfl,rfl,(by show (0:Int) < 99999999599;decide),?_⟩;refine ⟨_,rfl,_,rfl,_,_,rfl,rfl,_,_,rfl,rfl,.inl ⟨by rw[e64];omega,by rw[e64];omega⟩,_,_,rfl,rfl,(by show (0:Int) < 99999999907;decide),_,_,rfl,rfl,⟨by decide,by decide⟩,_,rfl,_,_,rfl,rfl,m0,?_⟩;exact q _ _ (cw8 _ (by omega)) (cv8 _ m0) ⟨_,_,_,c8,by omega,by omega⟩ l7.upd
def ac3 (K:PySem.W.Frag):Sp:=fun vs H Q _=>∃(a t:Addr) (c:Nat) (xs:List V),vs=[.ref a,.ref t]/\x6 H a c/\c+xs.length<=1000000/\i8 K H t xs/\xs.length<=1000/\
 ∀(l:Addr) (ys:List V) (H':Hp),H l=none->ys.Perm xs->H' l=some (.lst ys)->x6 H' a (c+xs.length)->l7 a H H'->Q (.ref l) H'
def aq2 (H:Hp)(l:Addr):Nat:=match H l with
 |some (.lst xs)=>xs.length
 |_=>0
theorem U5 {H:Hp}{l:Addr}{xs:List V}(h:H l=some (.lst xs)):aq2 H l=xs.length:=by unfold aq2;rw[h]
theorem as5:r6 ["pool","things","left","found"] ["pool","things"] (m6 U3):=by rfl'
theorem bw1 {f:Addr}{fd:FuncData}(F:B6 K "_law_mixed_up" "_law_mixed_up" U3 f fd)(B:Bl mg)(cT:A2 P w K mg base "_law_take" 1 ["pool","many"] Q0):q9 P w K mg base C3 2 f fd ["pool","things"] (ac3 K):=by
 refine F.ok as5 (fun vs H Q E h=> ?_) (fun cdv A outer s H vs Q E hr h=> ?_)
 · obtain ⟨a,t,c,xs,rfl,_⟩:=h;rfl
 · obtain ⟨a,t,c,xs,rfl,hp,hcx,ht,hx1,q⟩:=h;have hu:=S6 hr
   refine ⟨_,i4 (l8 (i:=2) as5.nd rfl (Or.inl rfl) (aa4 B.list (c6 (pv 1) c7)))
     (i4 (l8 (i:=3) as5.nd rfl (Or.inl rfl) (m8 c7))
     (i4 (Y4 PassesOwn.never (m9 (ag8 0 hu) (pv 2) (m8 c7) (q0 _))
       (i5 (C4 (M0 (pv 3) (c6 (am5 (pv 2) (c6 (l9 cT hr (c6 (pv 0) (c6 (x9 B.len (c6 (pv 2) c7)) c7))) c7)) c7)))))
     (i5 (m7 (pv 3))))),?_⟩
   refine ⟨_,rfl,t,xs,rfl,.inl ht,fun l hl=> ?_⟩;refine ⟨cs1 _,fun m hm=> ?_⟩;obtain ⟨px,py,pz,hpa,hpz⟩:=id hp
   have hml:m≠l:=fun z=>by rw[z,c8] at hm;cases hm
   have hm0:H m=none:=by rw[i6 hml] at hm;exact hm
   have nal:a≠l:=i9 hpa hl;have nam:a≠m:=i9 hpa hm0
   refine Y6 (fun σ H2=>∃ls fs,σ=[some (.ref a),some (.ref t),some (.ref l),some (.ref m)]/\H2 l=some (.lst ls)/\H2 m=some (.lst fs)/\(fs++ls).Perm xs/\x6 H2 a (c+fs.length)/\l7 a H H2) (fun σ H2=>aq2 H2 l)
     ⟨xs,[],rfl,by rw[i6 hml.symm,c8],c8,List.Perm.refl _,⟨px,py,pz,by rw[i6 nam,i6 nal];exact hpa,hpz⟩,((l7.refl a H).upd_r hl).upd_r hm0⟩ ?_ ?_
   · rintro σ H2 ⟨ls,fs,rfl,h2l,h2m,pm,⟨x,y,z,h2a,hz0,hz1⟩,kb⟩;refine ⟨_,rfl,cs1 _,fun e he=> ?_⟩;have nle:l≠e:=i9 h2l he;have nme:m≠e:=i9 h2m he;have nae:a≠e:=i9 h2a he;refine ⟨l,e,ls,[],ls.isEmpty,rfl,rfl,i8.of (by rw[i6 nle];exact h2l),i8.of c8,aj9 _ _ _ _,_,rfl,?_⟩
     have hlen:fs.length+ls.length=xs.length:=by rw[<-co9];exact pm.length_eq
     cases ls with
     |nil=>
      refine A5 ?_;rw[cw1] at pm;refine ⟨_,rfl,?_⟩
      have hfl:fs.length=xs.length:=by simpa using hlen
      refine q m fs _ hm0 pm (by rw[i6 nme];exact h2m) ⟨x,y,z,by rw[i6 nae];exact h2a,hz0,by rw[<-hfl];exact hz1⟩ fun b o hb hn=> ?_
      have:=kb b o hb hn;rw[i6 (i9 this he)];exact this
     |cons g r=>
      refine B3 ?_
      have h3m:(e8 H2 e (.lst [])) m=some (.lst fs):=by rw[i6 nme];exact h2m
      have h3l:(e8 H2 e (.lst [])) l=some (.lst (g::r)):=by rw[i6 nle];exact h2l
      refine ⟨_,rfl,.inl ⟨rfl,_,i8.of h3m⟩,_,rfl,.inl ⟨rfl,_,i8.of h3l⟩,_,rfl,_,rfl,l,_,rfl,.inl (i8.of h3l),a,c+fs.length,_,rfl,⟨x,y,z,by rw[i6 nae];exact h2a,hz0,hz1⟩,by simp only[cp9] at hlen;omega,by simp only[cp9];omega,by simp only[cp9] at*;omega,?_⟩;intro j H4 j0 j1 ⟨x',y',z',h4a,hz0',hz1'⟩ kb4;have h4l:=kb4 l _ h3l nal.symm;have h4m:=kb4 m _ h3m nam.symm;obtain ⟨jn,rfl⟩:=cq8 j0
      have hjl:jn < (g::r).length:=by simp only[cp9] at j1 ⊢;omega
      refine ⟨l,_,_,jn,(g::r)[jn],rfl,rfl,h4l,by omega,by simp only[cp9] at*;omega,?_,cp1 hjl,?_⟩
      · have:R1 (g::r).length (jn:Int)=some jn:=by
          unfold R1;rw[if_pos (by omega),if_pos (by omega)];simp
        exact (ab7 this).1
      have h5m:(e8 H4 l (.lst ((g::r).eraseIdx jn))) m=some (.lst fs):=by rw[i6 hml];exact h4m
      refine ⟨m,_,_,rfl,rfl,h5m,m4 (by simp only[cp9] at hlen;omega),?_⟩
      have e5:(e8 (e8 H4 l (.lst ((g::r).eraseIdx jn))) m (.lst (fs++[(g::r)[jn]]))) l=some (.lst ((g::r).eraseIdx jn)):=by rw[i6 hml.symm,c8]
      refine ⟨⟨_,_,rfl,e5,c8,?_,⟨x',y',z',by rw[i6 nam,i6 nal];exact h4a,hz0',by rw[co9];exact hz1'⟩,?_⟩,?_⟩
      · have pe:=ap3 (l:=g::r) (k:=jn) (cp1 hjl);refine List.Perm.trans ?_ pm;rw[cy2];exact List.Perm.append_left fs pe
      · intro b o hb hn;have b2:=kb b o hb hn
        have b3:(e8 H2 e (.lst [])) b=some o:=by rw[i6 (i9 b2 he)];exact b2
        have b4:=kb4 b o b3 hn;rw[i6 (i9 hb hm0),i6 (i9 hb hl)];exact b4
      · rw[U5 e5,U5 h2l,List.length_eraseIdx_of_lt hjl];simp only[cp9] at*;omega
   · rintro σ H2 Q Q' hq ⟨v,hv,h1,h2⟩;refine ⟨v,hv,h1,fun e he=> ?_⟩;obtain ⟨a1,b1,xs1,ys1,r1,e1,e2,e3,e4,e5,k1,e6,e7⟩:=h2 e he;exact ⟨a1,b1,xs1,ys1,r1,e1,e2,e3,e4,e5,k1,e6,hq _ _ e7⟩
end
end My
namespace My
open PySem L2 Mth
section
variable {P:Program} {w:World} {K:PySem.W.Frag} {mg:Str->Option Value} {base:Heap}
def ah9:Sp:=fun vs H Q _=>∃(a:Addr) (c:Nat) (n:Int),vs=[.ref a,.int n]/\x6 H a c/\0<=n/\n<=100/\c<=900000/\
 ∀(l:Addr) (ls:List Int) (H':Hp),H l=none->(∀x∈ls,1<=x)->ls.sum=n->H' l=some (.lst (ls.map V.int))->x6 H' a (c+110)->l7 a H H'->Q (.ref l) H'
theorem J8:r6 ["pool","many","way","like","found","left","most","length"] ["pool","many"] (m6 W4):=by rfl'
def cg6 (σ:St):Nat:=match σ[5]? with
 |some (some (V.int i))=>i.toNat
 |_=>0
theorem bj9 {f:Addr}{fd:FuncData}(F:B6 K "_law_lengths" "_law_lengths" W4 f fd)(B:Bl mg)(cT:A2 P w K mg base "_law_take" 1 ["pool","many"] Q0):q9 P w K mg base C3 2 f fd ["pool","many"] ah9:=by
 refine F.ok J8 (fun vs H Q E h=> ?_) (fun cdv A outer s H vs Q E hr h=> ?_)
 · obtain ⟨a,c,n,rfl,_⟩:=h;rfl
 · obtain ⟨a,c,n,rfl,hp,n0,n1,hc,q⟩:=h
   refine ⟨_,i4 (l8 (i:=2) J8.nd rfl (Or.inl rfl) (l9 cT hr (c6 (pv 0) (c6 i7 c7))))
     (i4 (l8 (i:=3) J8.nd rfl (Or.inl rfl) (m3 B2 i7 (l9 cT hr (c6 (pv 0) (c6 i7 c7)))))
     (i4 (l8 (i:=4) J8.nd rfl (Or.inl rfl) (m8 c7))
     (i4 (l8 (i:=5) J8.nd rfl (Or.inl rfl) (pv 1))
     (i4 (Y4 PassesOwn.never (m9 aa3 (pv 5) i7 (q0 _))
       (i4 (l8 (i:=6) J8.nd rfl (Or.inl rfl) (y7 o0 (m8 (c6 (pv 5) (c6 (ak0 rfl B.min (c6 (pv 5) (c6 i7 c7))) (c6 (ak0 rfl B.min (c6 (pv 5) (c6 (pv 3) c7))) (c6 (pv 5) c7))))) (pv 2) (fun _ _=>rfl)))
       (i4 (A0 (m9 E3 (pv 2) i7 (q0 _)) (i5 (l8 (i:=7) J8.nd rfl (Or.inl rfl) (pv 6))) (i5 (l8 (i:=7) J8.nd rfl (Or.inl rfl) (m3 B2 i7 (l9 cT hr (c6 (pv 0) (c6 (pv 6) c7)))))))
       (i4 (C4 (M0 (pv 4) (c6 (pv 7) c7)))
       (i5 (l8 (i:=5) J8.nd rfl (Or.inl rfl) (m3 S1 (pv 5) (pv 7))))))))
     (i5 (m7 (pv 4))))))),?_⟩
   refine ⟨_,rfl,a,c,4,rfl,hp,by omega,by decide,by decide,fun way H1 w0 w1 p1 kb1=> ?_⟩;refine ⟨_,rfl,a,c+1,6,rfl,p1,by omega,by decide,by decide,fun lk H2 l0 l1 p2 kb2=>⟨_,_,rfl,rfl,?_⟩⟩;refine ⟨cs1 _,fun m hm=> ?_⟩;obtain ⟨x2,y2,z2,h2a,hz2,hz2'⟩:=id p2;have nam:a≠m:=i9 h2a hm;have kb02:l7 a H H2:=kb1.trans kb2
   have hm0:H m=none:=by
     cases e:H m with
     |none=>rfl
     |some o=>have:=kb02 m o e nam.symm;rw[hm] at this;cases this
   refine ⟨_,rfl,?_⟩
   refine Y6 (fun σ H3=>∃(ls:List Int) (lf:Int) (v6 v7:Option V),σ=[some (.ref a),some (.int n),some (.int way),some (.int (1+lk)),some (.ref m),some (.int lf),v6,v7]/\H3 m=some (.lst (ls.map V.int))/\(∀x∈ls,1<=x)/\ls.sum+lf=n/\0<=lf/\x6 H3 a (c+2+ls.length)/\l7 a H H3) (fun σ _=>cg6 σ)
     ⟨[],n,none,none,rfl,c8,fun x hx=>by simp at hx,by simp,n0,⟨x2,y2,z2,by rw[i6 nam];exact h2a,hz2,by simp only[List.length_nil];omega⟩,kb02.upd_r hm0⟩ ?_ ?_
   · rintro σ H3 ⟨ls,lf,v6,v7,rfl,h3m,hge,hsum,lf0,⟨x,y,z,h3a,hz0,hz1⟩,kb⟩;have hll:=bj2 hge;refine ⟨_,rfl,_,_,rfl,rfl,_,rfl,?_⟩;refine G0 (fun h=> ?_) (fun h=> ?_)
     · have h:0 < lf:=of_decide_eq_true h;refine ⟨_,rfl,_,rfl,lf,6,rfl,_,rfl,_,rfl,lf,1+lk,rfl,_,rfl,(by show 4<=sizeLine;decide),fun e he=> ?_⟩;have nme:m≠e:=i9 h3m he;have nae:a≠e:=i9 h3a he
       have key:∃mv,X1 [V.int lf,V.int (if (6:Int) < lf then 6 else lf),V.int (if 1+lk < lf then 1+lk else lf),V.int lf] way=some (.int mv)/\1<=mv/\mv<=lf:=by
         have:way=0\/way=1\/way=2\/way=3:=by omega
         rcases this with rfl|rfl|rfl|rfl
         · exact ⟨lf,w6 (j:=0) rfl,by omega,by omega⟩
         · exact ⟨_,w6 (j:=1) rfl,by split<;>omega,by split<;>omega⟩
         · exact ⟨_,w6 (j:=2) rfl,by split<;>omega,by split<;>omega⟩
         · exact ⟨lf,w6 (j:=3) rfl,by omega,by omega⟩
       obtain ⟨mv,hat,mv1,mv2⟩:=key;refine ⟨_,rfl,e,_,way,_,rfl,rfl,i8.of c8,hat,?_⟩
       have h4m:(e8 H3 e (.lst [V.int lf,V.int (if (6:Int) < lf then 6 else lf),V.int (if 1+lk < lf then 1+lk else lf),V.int lf])) m=some (.lst (ls.map V.int)):=by rw[i6 nme];exact h3m
       have h4a:(e8 H3 e (.lst [V.int lf,V.int (if (6:Int) < lf then 6 else lf),V.int (if 1+lk < lf then 1+lk else lf),V.int lf])) a=some (.lst [.int x,.int y,.int z]):=by rw[i6 nae];exact h3a
       have kb4:l7 a H (e8 H3 e (.lst [V.int lf,V.int (if (6:Int) < lf then 6 else lf),V.int (if 1+lk < lf then 1+lk else lf),V.int lf])):=fun b o hb hn=>by
         have:=kb b o hb hn;rw[i6 (i9 this he)];exact this
       generalize e8 H3 e (.lst [V.int lf,V.int (if (6:Int) < lf then 6 else lf),V.int (if 1+lk < lf then 1+lk else lf),V.int lf])=H4 at h4m h4a kb4 ⊢
       have done:∀(len:Int) (H5:Hp),1<=len->len<=lf->H5 m=some (.lst (ls.map V.int))->x6 H5 a (c+2+ls.length+1)->l7 a H H5->
           (∃(ls':List Int) (lf':Int) (v6 v7:Option V),[some (.ref a),some (.int n),some (.int way),some (.int (1+lk)),some (.ref m),some (.int (lf - len)),some (.int mv),some (.int len)]=[some (.ref a),some (.int n),some (.int way),some (.int (1+lk)),some (.ref m),some (.int lf'),v6,v7]/\(e8 H5 m (.lst (ls.map V.int++[.int len]))) m=some (.lst (ls'.map V.int))/\(∀x∈ls',1<=x)/\ls'.sum+lf'=n/\0<=lf'/\x6 (e8 H5 m (.lst (ls.map V.int++[.int len]))) a (c+2+ls'.length)/\l7 a H (e8 H5 m (.lst (ls.map V.int++[.int len])))):=by
         intro len H5 g1 g2 h5m ⟨x5,y5,z5,h5a,h5z,h5z'⟩ kb5;refine ⟨ls++[len],lf - len,_,_,rfl,by rw[c8,cp5];rfl,fun x hx=> ?_,by rw[am7];omega,by omega,⟨x5,y5,z5,by rw[i6 nam];exact h5a,h5z,by rw[co9];simpa [Nat.add_assoc] using h5z'⟩,fun b o hb hn=>by rw[i6 (i9 hb hm0)];exact kb5 b o hb hn⟩
         rcases cp4.mp hx with g|g
         · exact hge x g
         · have:x=len:=by simpa using g
           omega
       refine ⟨_,rfl,rfl,_,rfl,?_⟩;refine G0 (fun hw=> ?_) (fun hw=> ?_)
       · refine ⟨_,rfl,_,rfl,.inl ⟨rfl,_,i8.of h4m⟩,_,rfl,m,_,_,rfl,rfl,h4m,m4 (by rw[co8];omega),?_⟩;refine ⟨_,rfl,_,rfl,_,_,rfl,rfl,done mv H4 mv1 mv2 h4m ⟨x,y,z,h4a,hz0,by omega⟩ kb4,?_⟩;show (lf - mv).toNat < lf.toNat;omega
       · refine ⟨_,rfl,_,rfl,a,c+2+ls.length,mv,rfl,⟨x,y,z,h4a,hz0,hz1⟩,by omega,by omega,by omega,fun r H5 r0 r1 p5 kb5=>⟨_,_,rfl,rfl,?_⟩⟩;have h5m:=kb5 m _ h4m nam.symm;refine ⟨_,rfl,.inl ⟨rfl,_,i8.of h5m⟩,_,rfl,m,_,_,rfl,rfl,h5m,m4 (by rw[co8];omega),?_⟩;refine ⟨_,rfl,_,rfl,_,_,rfl,rfl,done (1+r) H5 (by omega) (by omega) h5m p5 (kb4.trans kb5),?_⟩;show (lf - (1+r)).toNat < lf.toNat;omega
     · have h:¬0 < lf:=fun z=>h (decide_eq_true z)
       have:lf=0:=by omega
       refine ⟨_,rfl,q m ls H3 hm0 hge (by omega) h3m ⟨x,y,z,h3a,hz0,by omega⟩ kb⟩
   · rintro σ H3 Q Q' hq ⟨v,hv,i,j,e1,e2,k1,e3,e4⟩;exact ⟨v,hv,i,j,e1,e2,k1,e3,hq _ _ e4⟩
def as6:Sp:=fun vs H Q _=>∃(a t:Addr) (c:Nat) (ls:List Int),vs=[.ref a,.ref t]/\x6 H a c/\t≠a/\H t=some (.lst (ls.map V.int))/\(∀x∈ls,1<=x)/\ls.sum<=100/\c<=900000/\
 ∀(l:Addr) (ps:List Int) (H':Hp),H l=none->ps.Perm (D6 0 ls.sum.toNat)->H' l=some (.lst (ps.map V.int))->x6 H' a (c+110)->l7 a H H'->Q (.ref l) H'
theorem U6:r6 ["pool","lengths","things","found","at","length","k"] ["pool","lengths"] (m6 Q5):=by rfl'
theorem bw2 {f:Addr}{fd:FuncData}(F:B6 K "_law_by_lengths" "_law_by_lengths" Q5 f fd)(B:Bl mg)(cM:A2 P w K mg base "_law_mixed_up" 2 ["pool","things"] (ac3 K)):q9 P w K mg base C3 3 f fd ["pool","lengths"] as6:=by
 refine F.ok U6 (fun vs H Q E h=> ?_) (fun cdv A outer s H vs Q E hr h=> ?_)
 · obtain ⟨a,t,c,ls,rfl,_⟩:=h;rfl
 · obtain ⟨a,t,c,ls,rfl,hp,nta,ht,hge,hs,hc,q⟩:=h;have hsum:=(ak9 hge 0).2
   have hs0:0<=ls.sum:=by simpa using hsum
   refine ⟨_,i4 (l8 (i:=2) U6.nd rfl (Or.inl rfl) (l9 cM hr (c6 (pv 0) (c6 (ae0 rfl B.list B.range (c6 (bp7 rfl B.sum (c6 (pv 1) c7)) c7)) c7))))
     (i4 (l8 (i:=3) U6.nd rfl (Or.inl rfl) (m3 bo2 (m8 (c6 i7 c7)) (x9 B.len (c6 (pv 2) c7))))
     (i4 (l8 (i:=4) U6.nd rfl (Or.inl rfl) i7)
     (i4 (B7 PassesOwn.never rfl (A8 (pv 1)) (v0 (i:=5) U6.nd rfl (Or.inl rfl))
       (i4 (B7 PassesOwn.never rfl (D4 rfl B.range (c6 (pv 5) c7)) (v0 (i:=6) U6.nd rfl (Or.inl rfl))
         (i5 (O3 (y7 o0 (pv 2) (m3 B2 (pv 4) (m3 S2 (m3 B2 (pv 6) i7) (pv 5))) (fun _ _=>rfl)) (O2 (pv 3) (y7 o0 (pv 2) (m3 B2 (pv 4) (pv 6)) (fun _ _=>rfl)) K3))))
       (i5 (l8 (i:=4) U6.nd rfl (Or.inl rfl) (m3 B2 (pv 4) (pv 5))))))
     (i5 (m7 (pv 3)))))),?_⟩
   refine ⟨_,rfl,_,rfl,t,ls,rfl,i8.of ht,_,rfl,fun r hr'=>⟨r,0,ls.sum,rfl,c8,⟨by decide,by decide,by omega,by omega⟩,by omega,fun g hg=> ?_⟩⟩;obtain ⟨x1,y1,z1,h1a,hz1,hz1'⟩:=id hp;have nar:a≠r:=i9 h1a hr'
   have hgr:g≠r:=fun z=>by rw[z,c8] at hg;cases hg
   have hg0:H g=none:=by rw[i6 hgr] at hg;exact hg
   have nag:a≠g:=i9 h1a hg0;refine ⟨a,g,c,(D6 0 (ls.sum - 0).toNat).map V.int,rfl,⟨x1,y1,z1,by rw[i6 nag,i6 nar];exact h1a,hz1,hz1'⟩,by rw[co8,A6];omega,i8.of c8,by rw[co8,A6];omega,?_⟩;intro m ys H1 hm hperm h1m p1 kb1
   have e0:(ls.sum - 0).toNat=ls.sum.toNat:=by rw[Int.sub_zero]
   rw[e0] at hperm p1;rw[co8,A6] at p1
   have hmg:m≠g:=fun z=>by rw[z,c8] at hm;cases hm
   have hmr:m≠r:=fun z=>by rw[z,i6 hgr.symm,c8] at hm;cases hm
   have hm0:H m=none:=by rw[i6 hmg,i6 hmr] at hm;exact hm
   obtain ⟨ts,rfl,hts⟩:=au9 hperm;obtain ⟨hT,hTl⟩:=V1 hts;have s0:c9 H (e8 (e8 H r (.rng 0 ls.sum)) g (.lst ((D6 0 (ls.sum - 0).toNat).map V.int))):=(c9.upd_new hr').upd_r hg0
   have kb01:l7 a H H1:=fun b o hb hn=>kb1 b o (s0 b o hb) hn
   have nam:a≠m:=i9 h1a hm0;refine ⟨(by show 1<=sizeLine;decide),fun e he=> ?_⟩;have nme:m≠e:=i9 h1m he;refine ⟨_,rfl,m,_,rfl,.inl (i8.of (by rw[i6 nme];exact h1m)),?_⟩;rw[co8,hTl];refine ⟨e,_,_,rfl,rfl,c8,by omega,by omega,by show 1*_<=sizeLine;rw[sizeLine_eq];omega,fun n hn=> ?_⟩
   have hne:n≠e:=fun z=>by rw[z,c8] at hn;cases hn
   have hn1:H1 n=none:=by rw[i6 hne] at hn;exact hn
   have hnm:n≠m:=fun z=>by rw[z,h1m] at hn1;cases hn1
   obtain ⟨x2,y2,z2,h2a,hz2,hz2'⟩:=id p1;have nan:a≠n:=i9 h2a hn1;have nae:a≠e:=i9 h2a he
   have hn0:H n=none:=by
     cases ee:H n with
     |none=>rfl
     |some o=>have:=kb01 n o ee nan.symm;rw[hn1] at this;cases this
   have he0:H e=none:=by
     cases ee:H e with
     |none=>rfl
     |some o=>have:=kb01 e o ee nae.symm;rw[he] at this;cases this
   rw[show ((ls.sum.toNat:Nat):Int).toNat=ls.sum.toNat by omega,bu7];have ht1:=kb01 t _ ht nta;have nte:t≠e:=i9 ht1 he;have ntn:t≠n:=i9 ht1 hn1
   refine ⟨_,rfl,t,rfl,⟨ls.map V.int,?ht2⟩,C2 (K:=K) (a:=t) (xs:=ls.map V.int) (fun i σ H2=>∃(fs qs:List Int) (k:Nat) (v5 v6:Option V),σ=[some (.ref a),some (.ref t),some (.ref m),some (.ref n),some (.int k),v5,v6]/\(k:Int)=(ls.take i).sum/\H2 n=some (.lst (fs.map V.int))/\H2 m=some (.lst (ts.map V.int))/\fs.length=ts.length/\qs.Perm (ts.take k)/\(ts.take k).map (L4 fs)=qs.map some/\x6 H2 a (c+ls.sum.toNat)/\l7 a H H2)
     ?h0 (fun i σ H2 _ zz=>by obtain ⟨_,_,_,_,_,_,_,_,_,_,_,_,_,h⟩:=zz;exact i8.of (h t _ ht nta)) ?_ ?_⟩
   case ht2=>
     exact i8.of (by rw[i6 ntn,i6 nte];exact ht1)
   case h0=>
     refine ⟨_,[],0,none,none,rfl,by simp,c8,by rw[i6 hnm.symm,i6 nme];exact h1m,by rw[cv9,hTl],List.Perm.refl _,rfl,⟨x2,y2,z2,by rw[i6 nan,i6 nae];exact h2a,hz2,hz2'⟩,(kb01.upd_r he0).upd_r hn0⟩
   · rintro i y σ H2 hi ⟨fs,qs,k,v5,v6,rfl,hk,h2n,h2m,hfl,hq,hmap,p2,kb2⟩;obtain ⟨L,hL,rfl⟩:=K5 hi;have hL1:=hge L (cp3 hL);have hsL:=(ak9 hge (i+1)).2;rw[o9 hL,am7] at hsL
     have hkL:k+L.toNat<=ts.length:=by omega
     have hLn:((L.toNat:Nat):Int)=L:=by omega
     refine ⟨_,rfl,L,rfl,by omega,by omega,R0 (lo:=0) (n:=L.toNat) (fun j σ H3=>∃(fs':List Int) (v6':Option V),σ=[some (.ref a),some (.ref t),some (.ref m),some (.ref n),some (.int k),some (.int L),v6']/\H3 n=some (.lst (fs'.map V.int))/\H3 m=some (.lst (ts.map V.int))/\fs'.length=ts.length/\(ts.take k).map (L4 fs')=qs.map some/\(∀u,u < j->L4 fs' (ts.getD (k+u) 0)=some (ts.getD (k+(u+1)%L.toNat) 0))/\x6 H3 a (c+ls.sum.toNat)/\l7 a H H3)
       ⟨fs,v6,rfl,h2n,h2m,hfl,hmap,fun u hu=>by omega,p2,kb2⟩ ?_ ?_⟩
     · rintro j σ H3 hj ⟨fs',v6',rfl,h3n,h3m,hfl',hmap',hu',p3,kb3⟩;have hjm:(j+1)%L.toNat < L.toNat:=da4 _ (by omega)
       have hi1:k+j < ts.length:=by omega
       have hi2:k+(j+1)%L.toNat < ts.length:=by omega
       have ej:(k:Int)+((0:Int)+(j:Int)+1)%L=((k+(j+1)%L.toNat:Nat):Int):=by
         have e1:(0:Int)+(j:Int)+1=((j+1:Nat):Int):=by omega
         have e2:((j+1:Nat):Int)%L=(((j+1)%L.toNat:Nat):Int):=by
           rw[da6,hLn]
         rw[e1,e2];omega
       have hat1:X1 (ts.map V.int) ((k:Int)+((0:Int)+(j:Int)+1)%L)=some (.int (ts.getD (k+(j+1)%L.toNat) 0)):=by
         rw[ej];have:=T9 (p:=ts) (i:=((k+(j+1)%L.toNat:Nat):Int)) (by omega) (by omega);rw[cu5] at this;exact this
       have hat2:X1 (ts.map V.int) ((k:Int)+((0:Int)+(j:Int)))=some (.int (ts.getD (k+j) 0)):=by
         have e:(k:Int)+((0:Int)+(j:Int))=((k+j:Nat):Int):=by omega
         rw[e];have:=T9 (p:=ts) (i:=((k+j:Nat):Int)) (by omega) (by omega);rw[cu5] at this;exact this
       refine ⟨_,rfl,_,rfl,_,rfl,_,_,rfl,rfl,_,rfl,_,_,rfl,rfl,hL1,_,_,rfl,rfl,m,_,_,_,rfl,rfl,i8.of h3m,hat1,?_⟩;refine ⟨_,rfl,_,rfl,_,rfl,_,rfl,_,_,rfl,rfl,m,_,_,_,rfl,rfl,i8.of h3m,hat2,?_⟩
       have htv:ts.getD (k+j) 0∈ts:=by rw[G4 hi1];exact cs0 hi1
       have t0:=hT.lo _ htv;have t1:=hT.hi _ htv;refine ⟨n,_,_,(ts.getD (k+j) 0).toNat,rfl,rfl,h3n,?_,?_⟩
       · unfold R1;rw[co8,if_pos t0,if_pos (by omega)]
       obtain ⟨x3,y3,z3,h3a,hz3,hz3'⟩:=id p3
       have es:(fs'.map V.int).set (ts.getD (k+j) 0).toNat (.int (ts.getD (k+(j+1)%L.toNat) 0))=(fs'.set (ts.getD (k+j) 0).toNat (ts.getD (k+(j+1)%L.toNat) 0)).map V.int:=by rw[cy1]
       rw[es];refine ⟨_,_,rfl,c8,by rw[i6 hnm.symm];exact h3m,by rw[ct5];exact hfl',?_,?_,⟨x3,y3,z3,by rw[i6 nan];exact h3a,hz3,hz3'⟩,fun b o hb hnn=>by rw[i6 (i9 hb hn0)];exact kb3 b o hb hnn⟩
       · rw[<-hmap']
         refine cv4 fun u hu=> ?_
         have hut:=cy6 hu
         refine ab8 (hT.lo u hut) t0 fun z=> ?_
         obtain ⟨jj,hjj⟩:=ct4.mp hu
         have hjk:jj < k:=by
           have:=(cp0.mp hjj).1;rw[cq2] at this;omega
         rw[ct0 hjk] at hjj;have:=(cp0.mp hjj).2;exact T0 hT.nd (i:=jj) (j:=k+j) (by omega) hi1 (by omega) (by rw[G4 (show jj < ts.length by omega),this];exact z)
       · intro u hu
         by_cases huj:u=j
         · subst huj;exact am6 (by omega)
         · have huj':u < j:=by omega
           rw[ab8 (hT.lo _ (by rw[G4 (show k+u < ts.length by omega)];exact cs0 _)) t0 (T0 hT.nd (by omega) hi1 (by omega))];exact hu' u huj'
     · rintro σ H3 ⟨fs',v6',rfl,h3n,h3m,hfl',hmap',hu',p3,kb3⟩;obtain ⟨qs',hq',hmap''⟩:=bu8 (by omega) hkL hmap' hq hu';refine ⟨_,rfl,_,rfl,_,_,rfl,rfl,fs',qs',k+L.toNat,some (.int L),v6',?_,?_,h3n,h3m,hfl',hq',hmap'',p3,kb3⟩
       · rw[show ((k+L.toNat:Nat):Int)=(k:Int)+L by omega];rfl
       · rw[o9 hL,am7];omega
   · rintro σ H2 ⟨fs,qs,k,v5,v6,rfl,hk,h2n,h2m,hfl,hq,hmap,⟨x2',y2',z2',p2a,p2z,p2z'⟩,kb2⟩;rw[co8,cr7] at hk
     have hkl:k=ts.length:=by omega
     rw[hkl,cr7] at hq hmap;have:=(bj0 hT hfl hmap).trans (hq.trans hts);exact ⟨_,rfl,q n fs H2 hn0 this h2n ⟨x2',y2',z2',p2a,p2z,by omega⟩ kb2⟩
def bb0:Sp:=fun vs H Q _=>∃(a:Addr) (c:Nat) (m:Int),vs=[.ref a,.int m]/\x6 H a c/\0<=m/\m<=40/\c<=800000/\
 ∀(l:Addr) (p:List Int) (H':Hp),H l=none->D8 p->(p.length:Int)<=m->H' l=some (.lst (p.map V.int))->x6 H' a (c+300)->l7 a H H'->Q (.ref l) H'
theorem br2:r6 ["pool","most","many"] ["pool","most"] (m6 ae7):=by rfl'
theorem cc1 {f:Addr}{fd:FuncData}(F:B6 K "_law_turn" "_law_turn" ae7 f fd)(B:Bl mg)(cT:A2 P w K mg base "_law_take" 1 ["pool","many"] Q0)(cM:A2 P w K mg base "_law_mixed_up" 2 ["pool","things"] (ac3 K))
   (cB:A2 P w K mg base "_law_by_lengths" 3 ["pool","lengths"] as6) (cL:A2 P w K mg base "_law_lengths" 2 ["pool","many"] ah9):q9 P w K mg base C3 4 f fd ["pool","most"] bb0:=by
 refine F.ok br2 (fun vs H Q E h=> ?_) (fun cdv A outer s H vs Q E hr h=> ?_)
 · obtain ⟨a,c,m,rfl,_⟩:=h;rfl
 · obtain ⟨a,c,m,rfl,hp,m0,m1,hc,q⟩:=h;have hr1:A1 1 _:=hr.mono (by decide);have hr2:A1 2 _:=hr.mono (by decide)
   refine ⟨_,i4 (l8 (i:=2) br2.nd rfl (Or.inl rfl) (y7 o0 (m8 (c6 (l9 cT hr1 (c6 (pv 0) (c6 (m3 B2 (ak0 rfl B.min (c6 (pv 1) (c6 i7 c7))) i7) c7))) (c6 (l9 cT hr1 (c6 (pv 0) (c6 (m3 B2 (pv 1) i7) c7))) (c6 (pv 1) c7)))) (l9 cT hr1 (c6 (pv 0) (c6 i7 c7))) (fun _ _=>rfl)))
     (i4 (A0 (m9 E3 (l9 cT hr1 (c6 (pv 0) (c6 i7 c7))) i7 (q0 _)) (i5 (m7 (l9 cM hr2 (c6 (pv 0) (c6 (ae0 rfl B.list B.range (c6 (pv 2) c7)) c7))))) o8)
     (i5 (m7 (l9 cB hr (c6 (pv 0) (c6 (l9 cL hr2 (c6 (pv 0) (c6 (pv 2) c7))) c7)))))),?_⟩
   refine ⟨_,rfl,_,rfl,m,9,rfl,_,_,rfl,rfl,a,c,_,rfl,hp,by omega,by split<;>omega,by split<;>omega,fun r1 H1 r10 r11 p1 kb1=> ?_⟩;refine ⟨_,rfl,_,rfl,_,_,rfl,rfl,a,c+1,_,rfl,p1,by omega,by omega,by omega,fun r2 H2 r20 r21 p2 kb2=> ?_⟩;refine ⟨_,rfl,(by show 3<=sizeLine;decide),fun e he=> ?_⟩;obtain ⟨x2,y2,z2,h2a,hz2,hz2'⟩:=id p2;have nae:a≠e:=i9 h2a he;have kb02:l7 a H H2:=kb1.trans kb2
   have he0:H e=none:=by
     cases ee:H e with
     |none=>rfl
     |some o=>have:=kb02 e o ee nae.symm;rw[he] at this;cases this
   refine ⟨_,rfl,a,c+2,3,rfl,⟨x2,y2,z2,by rw[i6 nae];exact h2a,hz2,by omega⟩,by omega,by decide,by decide,fun r3 H3 r30 r31 p3 kb3=> ?_⟩;have h3e:=kb3 e _ c8 nae.symm;have kb03:l7 a H H3:=(kb02.upd_r he0).trans kb3
   have key:∃mv,X1 [V.int r1,V.int r2,V.int m] r3=some (.int mv)/\0<=mv/\mv<=m:=by
     have:r3=0\/r3=1\/r3=2:=by omega
     rcases this with rfl|rfl|rfl
     · exact ⟨r1,w6 (j:=0) rfl,r10,by revert r11;split<;>omega⟩
     · exact ⟨r2,w6 (j:=1) rfl,r20,by omega⟩
     · exact ⟨m,w6 (j:=2) rfl,m0,by omega⟩
   obtain ⟨mv,hat,mv0,mv1⟩:=key;refine ⟨e,_,_,_,rfl,rfl,i8.of h3e,hat,?_⟩;refine ⟨_,rfl,a,c+3,3,rfl,p3,by omega,by decide,by decide,fun r4 H4 r40 r41 p4 kb4=> ?_⟩;have kb04:l7 a H H4:=kb03.trans kb4;refine ⟨rfl,_,rfl,?_⟩;refine G0 (fun h=> ?_) (fun h=> ?_)
   · refine ⟨_,rfl,_,rfl,_,rfl,fun r hr'=>⟨r,0,mv,rfl,c8,⟨by decide,by decide,by omega,by omega⟩,by omega,fun g hg=> ?_⟩⟩;obtain ⟨x4,y4,z4,h4a,hz4,hz4'⟩:=id p4;have nar:a≠r:=i9 h4a hr'
     have hgr:g≠r:=fun z=>by rw[z,c8] at hg;cases hg
     have hg0:H4 g=none:=by rw[i6 hgr] at hg;exact hg
     have nag:a≠g:=i9 h4a hg0;refine ⟨a,g,c+4,(D6 0 (mv - 0).toNat).map V.int,rfl,⟨x4,y4,z4,by rw[i6 nag,i6 nar];exact h4a,hz4,by omega⟩,by rw[co8,A6];omega,i8.of c8,by rw[co8,A6];omega,?_⟩;intro l ys H5 hl hperm h5l p5 kb5
     have e0:(mv - 0).toNat=mv.toNat:=by rw[Int.sub_zero]
     rw[e0] at hperm;obtain ⟨ts,rfl,hts⟩:=au9 hperm;obtain ⟨hT,hTl⟩:=V1 hts
     have hlg:l≠g:=fun z=>by rw[z,c8] at hl;cases hl
     have hlr:l≠r:=fun z=>by rw[z,i6 hgr.symm,c8] at hl;cases hl
     have hl4:H4 l=none:=by rw[i6 hlg,i6 hlr] at hl;exact hl
     have nal:l≠a:=fun z=>by rw[z,h4a] at hl4;cases hl4
     have hl0:H l=none:=by
       cases ee:H l with
       |none=>rfl
       |some o=>have:=kb04 l o ee nal;rw[hl4] at this;cases this
     have s4:c9 H4 (e8 (e8 H4 r (.rng 0 mv)) g (.lst ((D6 0 (mv - 0).toNat).map V.int))):=(c9.upd_new hr').upd_r hg0
     refine q l ts H5 hl0 hT (by omega) h5l (p5.mono (by rw[co8,A6];omega)) fun b o hb hn=>kb5 b o (s4 b o (kb04 b o hb hn)) hn
   · refine ⟨_,rfl,_,rfl,_,rfl,a,c+4,mv,rfl,p4,mv0,by omega,by omega,?_⟩;intro g ls H5 hg hge hsum h5g p5 kb5
     have nag:g≠a:=by
       obtain ⟨x4,y4,z4,h4a,hz4,hz4'⟩:=id p4
       exact fun z=>by rw[z,h4a] at hg;cases hg
     refine ⟨a,g,c+4+110,ls,rfl,p5,nag,h5g,hge,by omega,by omega,?_⟩;intro l ps H6 hl hperm h6l p6 kb6;obtain ⟨hT,hTl⟩:=V1 hperm;have kb05:=kb04.trans kb5
     have nal:l≠a:=by
       obtain ⟨x5,y5,z5,h5a,_⟩:=id p5
       exact fun z=>by rw[z,h5a] at hl;cases hl
     have hl0:H l=none:=by
       cases ee:H l with
       |none=>rfl
       |some o=>have:=kb05 l o ee nal;rw[hl] at this;cases this
     exact q l ps H6 hl0 hT (by omega) h6l (p6.mono (by omega)) (kb05.trans kb6)
end
end My
namespace My
open PySem L2 Mth
section
variable {P:Program} {w:World} {K:PySem.W.Frag} {mg:Str->Option Value} {base:Heap}
def I0:Sp:=fun vs H Q _=>∃(a:Addr) (p:List Int),vs=[.ref a]/\ac1 H a p/\
 ∀(l:Addr) (as:List Addr) (rs:List (List Int)) (H':Hp),H l=none->c9 H H'->H' l=some (.lst (as.map V.ref))->x8 H' as rs->G5 p p.length rs->(∀b∈as,H b=none)->as.Nodup->l∉as->Q (.ref l) H'
theorem M1 {H:Hp}{as:List Addr}{rs:List (List Int)}{e:Addr}{r:List Int}(h:x8 H as rs)(he:H e=some (.lst (r.map V.int))):x8 H (as++[e]) (rs++[r]):=by
 refine ⟨by rw[co9,co9,h.1];rfl,fun j b q h1 h2=> ?_⟩
 by_cases hj:j < as.length
 · rw[cs8 hj] at h1;rw[cs8 (by rw[<-h.1];exact hj)] at h2;exact h.2 j b q h1 h2
 · rw[cs4 (by omega)] at h1;rw[cs4 (by rw[<-h.1];omega),<-h.1] at h2
   have hj0:j - as.length=0:=by
     have:=(cp0.mp h1).1
     simpa using this
   rw[hj0] at h1 h2;cases h1;cases h2;exact he
theorem y6 {H H':Hp}{as:List Addr}{rs:List (List Int)}(h:x8 H as rs)(k:∀b∈as,∀o,H b=some o->H' b=some o):x8 H' as rs:=
 ⟨h.1,fun j a r h1 h2=>k a (cp3 h1) _ (h.2 j a r h1 h2)⟩
theorem an2 {H:Hp}{as:List Addr}{rs:List (List Int)}(h:x8 H as rs){b:Addr}(hb:b∈as):∃r:List Int,H b=some (.lst (r.map V.int)):=by
 obtain ⟨j,hj⟩:=ct4.mp hb;have hjl:=(cp0.mp hj).1;exact ⟨_,h.2 j b (rs[j]'(by rw[<-h.1];exact hjl)) hj (cp1 _)⟩
theorem aq3 {p:List Int}{i:Nat}{rs:List (List Int)}(tp:D8 p)(h:G5 p i rs):rs.flatten.length<=p.length:=by
 refine G6 h.nd fun x hx=> ?_
 obtain ⟨r,hr,hxr⟩:=ct2.mp hx;obtain ⟨y,L,a,b,rfl,_⟩:=h.ring r hr;exact U0 tp a x hxr
theorem ae8 {p:List Int}{i:Nat}{rs:List (List Int)}(h:G5 p i rs):rs.length<=rs.flatten.length:=by
 have:∀l:List (List Int),(∀r∈l,1<=r.length)->l.length<=l.flatten.length:=by
   intro l
   induction l with
   |nil=>intro _;exact cq0 _
   |cons a r ih=>
    intro h;have h1:=h a cp7
    have h2:=ih fun x hx=>h x (cp6 _ hx)
    rw[cr4,co9,cp9];omega
 refine this rs fun r hr=> ?_
 obtain ⟨y,L,a,b,rfl,_⟩:=h.ring r hr;rw[A4];exact b.pos
end
end My
namespace My
open PySem L2 Mth
section
variable {P:Program} {w:World} {K:PySem.W.Frag} {mg:Str->Option Value} {base:Heap}
def bb1:Sp:=fun vs H Q _=>∃(a:Addr) (p:List Int) (x:Int),vs=[.ref a,.int x]/\ac1 H a p/\In p x/\
 ∀(l:Addr) (L:Nat) (H':Hp),H l=none->c9 H H'->O6 p x L->L<=40->H' l=some (.lst ((o6 p x L).map V.int))->Q (.ref l) H'
theorem aq4:r6 ["p","first","ring","thing"] ["p","first"] (m6 ab5):=by rfl'
theorem cc2 {f:Addr}{fd:FuncData}(F:B6 K "walk_ring" "walk_ring" ab5 f fd):q9 P w K mg base C3 1 f fd ["p","first"] bb1:=by
 refine F.ok aq4 (fun vs H Q E h=> ?_) (fun cdv A outer s H vs Q E hr h=> ?_)
 · obtain ⟨a,p,x,rfl,_⟩:=h;rfl
 · obtain ⟨a,p,x,rfl,⟨ha,tp,lp⟩,hx,q⟩:=h
   refine ⟨_,i4 (l8 (i:=2) aq4.nd rfl (Or.inl rfl) (m8 (c6 (pv 1) c7)))
     (i4 (l8 (i:=3) aq4.nd rfl (Or.inl rfl) (y7 o0 (pv 0) (pv 1) (fun _ _=>rfl)))
     (i4 (Y4 PassesOwn.never (m9 ao2 (pv 3) (pv 1) (q0 _)) (i4 (C4 (M0 (pv 2) (c6 (pv 3) c7))) (i5 (l8 (i:=3) aq4.nd rfl (Or.inl rfl) (y7 o0 (pv 0) (pv 3) (fun _ _=>rfl))))))
     (i5 (m7 (pv 2))))),?_⟩
   refine ⟨_,rfl,(by show 1<=sizeLine;decide),fun l hl=> ?_⟩;have nal:a≠l:=i9 ha hl
   have hal:(e8 H l (.lst [.int x])) a=some (.lst (p.map V.int)):=by rw[i6 nal];exact ha
   refine ⟨_,rfl,_,rfl,a,_,_,_,rfl,rfl,i8.of hal,T9 hx.1 hx.2,?_⟩
   refine Y6 (fun σ H2=>∃m:Nat,σ=[some (.ref a),some (.int x),some (.ref l),some (.int (it p m x))]/\1<=m/\H2 l=some (.lst ((o6 p x m).map V.int))/\c9 H H2/\∀i,0 < i->i < m->it p i x≠x) (fun _ H2=>p.length+1 - aq2 H2 l)
     ⟨1,rfl,cq0 _,c8,c9.upd_new hl,fun i i0 i1=>by omega⟩ ?_ ?_
   · rintro σ H2 ⟨m,rfl,m1,h2l,s2,hne⟩;have ha2:=s2 a _ ha;refine ⟨_,rfl,_,rfl,rfl,_,rfl,?_⟩
     by_cases hb:it p m x=x
     · refine ad5 (congrArg V.int hb) ?_;exact ⟨_,rfl,q l m H2 hl s2 ⟨by omega,hb,hne⟩ (by have:=N5 tp hx hne;omega) h2l⟩
     · have hb':¬V.int (it p m x)=V.int x:=fun z=>hb (V.int.inj z)
       rw[decide_eq_false hb'];refine B3 ?_
       have hne':∀i,0 < i->i < m+1->it p i x≠x:=fun i i0 i1=>by
         by_cases e:i=m
         · rw[e];exact hb
         · exact hne i i0 (by omega)
       have hbd:=N5 tp hx hne';refine ⟨_,rfl,.inl ⟨rfl,_,i8.of h2l⟩,_,rfl,l,_,_,rfl,rfl,h2l,m4 (by rw[co8,A4];omega),?_⟩;have hi:=X6 tp hx m;refine ⟨_,rfl,_,rfl,a,_,_,_,rfl,rfl,i8.of (by rw[i6 nal];exact ha2),T9 hi.1 hi.2,?_⟩
       have h3l:(e8 H2 l (.lst ((o6 p x m).map V.int++[.int (it p m x)]))) l=some (.lst ((o6 p x (m+1)).map V.int)):=by
         rw[c8,ae2,cp5];rfl
       refine ⟨⟨m+1,rfl,by omega,h3l,fun b o hb=>by rw[i6 (i9 hb hl)];exact s2 b o hb,hne'⟩,?_⟩;rw[U5 h3l,U5 h2l,co8,co8,A4,A4];omega
   · rintro σ H2 Q Q' hq ⟨v,hv,u,hu,e1,k1,e2,e3⟩;exact ⟨v,hv,u,hu,e1,k1,e2,hq _ _ e3⟩
theorem Y1:r6 ["p","rings","seen","first","ring","thing"] ["p"] (m6 Z3):=by rfl'
theorem bw3 {f:Addr}{fd:FuncData}(F:B6 K "walk_rings" "walk_rings" Z3 f fd)(B:Bl mg)(cR:A2 P w K mg base "walk_ring" 1 ["p","first"] bb1):q9 P w K mg base C3 2 f fd ["p"] I0:=by
 refine F.ok Y1 (fun vs H Q E h=> ?_) (fun cdv A outer s H vs Q E hr h=> ?_)
 · obtain ⟨a,p,rfl,_⟩:=h;rfl
 · obtain ⟨a,p,rfl,⟨ha,tp,lp⟩,q⟩:=h;have hu:=S6 hr
   refine ⟨_,i4 (l8 (i:=1) Y1.nd rfl (Or.inl rfl) (m8 c7)) (i4 (l8 (i:=2) Y1.nd rfl (Or.inl rfl) Y9)
     (i4 (B7 PassesOwn.never rfl (D4 (by rfl) B.range (c6 (x9 B.len (c6 (pv 0) c7)) c7)) (v0 (i:=3) Y1.nd rfl (Or.inl rfl))
       (i5 (A0 (ax8 (bo6 hu (pv 3) (pv 2))) (i4 (l8 (i:=4) Y1.nd rfl (Or.inl rfl) (l9 cR hr (c6 (pv 0) (c6 (pv 3) c7)))) (i4 (C4 (M0 (pv 1) (c6 (pv 4) c7)))
         (i5 (B7 PassesOwn.never rfl (A8 (pv 4)) (v0 (i:=5) Y1.nd rfl (Or.inl rfl)) (i5 (ar6 hu (pv 2) (pv 5) B5 rfl)))))) o8)))
     (i5 (m7 (pv 1))))),?_⟩
   refine ⟨cs1 _,fun l hl=> ?_⟩;intro d hd
   have hdl:d≠l:=fun z=>by rw[z,c8] at hd;cases hd
   have hd0:H d=none:=by rw[i6 hdl] at hd;exact hd
   have s0:c9 H (e8 (e8 H l (.lst [])) d (.dK [])):=(c9.upd_new hl).upd_r hd0
   have h0l:(e8 (e8 H l (.lst [])) d (.dK [])) l=some (.lst []):=by rw[i6 hdl.symm,c8]
   refine ⟨_,rfl,a,_,rfl,.inl (i8.of (s0 a _ ha)),(p.length:Int),?_,by omega,by omega,?_⟩
   · rw[co8]
   rw[show ((p.length:Int)).toNat=p.length by omega]
   refine R0 (lo:=0) (n:=p.length) (fun i σ H2=>∃(as:List Addr) (rs:List (List Int)) (v3 v4 v5:Option V),σ=[some (.ref a),some (.ref l),some (.ref d),v3,v4,v5]/\H2 l=some (.lst (as.map V.ref))/\H2 d=some (.dK (M5 rs.flatten))/\x8 H2 as rs/\G5 p i rs/\c9 H H2/\(∀b∈as,H b=none)/\as.Nodup/\l∉as)
     ⟨[],[],none,none,none,rfl,h0l,c8,⟨rfl,fun j b r h=>by simp at h⟩,ap7 p,s0,fun b hb=>by simp at hb,cv7,by simp⟩ ?_ ?_
   · rintro i σ H2 hi ⟨as,rs,v3,v4,v5,rfl,h2l,h2d,rows,up,s2,fa,nda,nla⟩;have hx:In p (i:Int):=⟨by omega,by omega⟩
     have e0:(0:Int)+(i:Int)=(i:Int):=by omega
     rw[e0];refine ⟨_,rfl,_,rfl,d,_,rfl,ad4.k (k:=Sum.inl (i:Int)) h2d,_,rfl,?_⟩
     by_cases hm:(i:Int)∈rs.flatten
     · rw[am4 hm];refine A5 ?_;exact ⟨as,rs,_,_,_,rfl,h2l,h2d,rows,ap8 up hm,s2,fa,nda,nla⟩
     · rw[ad9 hm];refine B3 ?_;refine ⟨_,rfl,_,rfl,a,p,_,rfl,⟨s2 a _ ha,tp,lp⟩,hx,fun e L H3 he s23 pr hL h3e=> ?_⟩;have h3l:=s23 l _ h2l;have h3d:=s23 d _ h2d;have nle:l≠e:=i9 h2l he;have nde:d≠e:=i9 h2d he;have fl:=aq3 tp up;have cl:=ae8 up;have lenas:=rows.1;refine ⟨_,rfl,.inl ⟨rfl,_,i8.of h3l⟩,_,rfl,l,_,_,rfl,rfl,h3l,m4 (by rw[co8,lenas];omega),?_⟩
       have es:as.map V.ref++[V.ref e]=(as++[e]).map V.ref:=by rw[cp5];rfl
       rw[es];have h4l:(e8 H3 l (.lst ((as++[e]).map V.ref))) l=some (.lst ((as++[e]).map V.ref)):=c8
       have h4d:(e8 H3 l (.lst ((as++[e]).map V.ref))) d=some (.dK (M5 rs.flatten)):=by rw[i6 hdl];exact h3d
       have h4e:(e8 H3 l (.lst ((as++[e]).map V.ref))) e=some (.lst ((o6 p i L).map V.int)):=by rw[i6 nle.symm];exact h3e
       have k4:∀b o,H2 b=some o->b≠l->(e8 H3 l (.lst ((as++[e]).map V.ref))) b=some o:=fun b o hb hn=>by rw[i6 hn];exact s23 b o hb
       generalize (e8 H3 l (.lst ((as++[e]).map V.ref)))=H4 at h4l h4d h4e k4 ⊢;have fr:=ab4 up pr hm
       have ndr:=ab3 tp hx fun j j0 j1=>pr.least j j0 j1
       refine ⟨_,rfl,e,rfl,⟨_,i8.of h4e⟩,C2 (K:=K) (a:=e) (xs:=(o6 p i L).map V.int) (fun j σ H5=>∃v5':Option V,σ=[some (.ref a),some (.ref l),some (.ref d),some (.int (i:Int)),some (.ref e),v5']/\H5 d=some (.dK (M5 (rs.flatten++(o6 p i L).take j)))/\l7 d H4 H5)
         ⟨v5,rfl,by rw[db2,cw1];exact h4d,l7.refl d H4⟩ (fun j σ H5 _ zz=>by obtain ⟨_,_,_,k⟩:=zz;exact i8.of (k e _ h4e nde.symm)) ?_ ?_⟩
       · rintro j y σ H5 hj ⟨v5',rfl,h5d,kb⟩;obtain ⟨z,hz,rfl⟩:=K5 hj;have hjl:j < (o6 p i L).length:=(cp0.mp hz).1;rw[A4] at hjl
         have hzn:z∉rs.flatten++(o6 p i L).take j:=by
           intro hm'
           rcases cp4.mp hm' with g|g
           · exact fr z (cp3 hz) g
           · obtain ⟨jj,hjj⟩:=ct4.mp g
             have hjk:jj < j:=by
               have:=(cp0.mp hjj).1;rw[cq2] at this;omega
             rw[ct0 hjk] at hjj;have e1:=(cp0.mp hjj).2;have e2:=(cp0.mp hz).2;exact cu0.mp (cr3.mp ndr) jj j (by rw[A4];omega) (by rw[A4];omega) hjk (by rw[e1,e2])
         refine ⟨_,rfl,_,rfl,d,_,rfl,am1.k (k:=Sum.inl z) h5d (m4 (by unfold M5;rw[co8,co9,cq2,A4];omega)),?_⟩;refine ⟨_,rfl,?_,kb.upd_a⟩;rw[ag9 hzn,c8,o9 hz,cy2]
       · rintro σ H5 ⟨v5',rfl,h5d,kb⟩;rw[co8,cr7] at h5d
         have nad:∀b∈as,b≠d/\b≠l:=fun b hb=>by
           obtain ⟨r,hr'⟩:=an2 rows hb;exact ⟨bx4 hr' h2d (by intro z;cases z),fun z=>nla (z▸hb)⟩
         refine ⟨as++[e],rs++[o6 p i L],_,_,_,rfl,kb l _ h4l hdl.symm,?_,?_,ap9 tp up hx pr hm,?_,?_,?_,?_⟩
         · rw[h5d,cq6,cr1]
         · exact M1 (y6 rows fun b hb o ho=>kb b o (k4 b o ho (nad b hb).2) (nad b hb).1) (kb e _ h4e nde.symm)
         · exact fun b o hb=>kb b o (k4 b o (s2 b o hb) (i9 hb hl)) (i9 hb hd0)
         · intro b hb
           rcases cp4.mp hb with g|g
           · exact fa b g
           · have:b=e:=by simpa using g
             rw[this];exact s2.free he
         · refine R4 nda fun g=> ?_
           obtain ⟨r,hr'⟩:=an2 rows g;rw[he] at hr';cases hr'
         · intro g
           rcases cp4.mp g with g|g
           · exact nla g
           · exact nle (by simpa using g)
   · rintro σ H2 ⟨as,rs,v3,v4,v5,rfl,h2l,h2d,rows,up,s2,fa,nda,nla⟩;exact ⟨_,rfl,q l as rs H2 hl s2 h2l rows up fa nda nla⟩
end
end My
namespace My
open PySem L2 Mth
section
variable {P:Program} {w:World} {K:PySem.W.Frag} {mg:Str->Option Value} {base:Heap}
def bb2:Sp:=fun vs H Q _=>∃(t r:Addr) (ts rs:List Int) (k:Int),vs=[.ref t,.ref r,.int k]/\H t=some (.lst (ts.map V.int))/\H r=some (.lst (rs.map V.int))/\t≠r/\rs.Nodup/\(∀x∈rs,0<=x/\x < ts.length)/\
 ∀(ts':List Int) (H':Hp),ts'.length=ts.length->(∀j,j < rs.length->L4 ts' (rs.getD j 0)=some (rs.getD (((j:Int)+k)%(rs.length:Int)).toNat 0))->(∀u,0<=u->u∉rs->L4 ts' u=L4 ts u)->H' t=some (.lst (ts'.map V.int))->l7 t H H'->Q .non H'
theorem bb3:r6 ["target","ring","steps","place","thing"] ["target","ring","steps"] (m6 Z4):=by rfl'
theorem cc3 {f:Addr}{fd:FuncData}(F:B6 K "send_along" "send_along" Z4 f fd)(B:Bl mg):q9 P w K mg base C3 1 f fd ["target","ring","steps"] bb2:=by
 refine F.ok bb3 (fun vs H Q E h=> ?_) (fun cdv A outer s H vs Q E hr h=> ?_)
 · obtain ⟨t,r,ts,rs,k,rfl,_⟩:=h;rfl
 · obtain ⟨t,r,ts,rs,k,rfl,ht,hrr,ntr,nd,bd,q⟩:=h
   refine ⟨_,i5 (B7 PassesOwn.never rfl (ca1 B.enum (c6 (pv 1) c7)) (ce5 rfl (ay0 (v0 (i:=3) bb3.nd rfl (Or.inl rfl)) (ay0 (v0 (i:=4) bb3.nd rfl (Or.inl rfl)) bz1)))
     (i5 (O3 (y7 o0 (pv 1) (m3 S2 (m3 B2 (pv 3) (pv 2)) (x9 B.len (c6 (pv 1) c7))) (fun _ _=>rfl)) (O2 (pv 0) (pv 4) K3)))),?_⟩
   refine ⟨_,rfl,r,rfl,⟨_,i8.of hrr⟩,bv1 (K:=K) (a:=r) (xs:=rs.map V.int) (fun i σ H2=>∃(ts':List Int) (v3 v4:Option V),σ=[some (.ref t),some (.ref r),some (.int k),v3,v4]/\H2 t=some (.lst (ts'.map V.int))/\ts'.length=ts.length/\(∀j,j < i->L4 ts' (rs.getD j 0)=some (rs.getD (((j:Int)+k)%(rs.length:Int)).toNat 0))/\(∀u,0<=u->u∉rs->L4 ts' u=L4 ts u)/\l7 t H H2)
     ⟨ts,none,none,rfl,ht,rfl,fun j hj=>by omega,fun u _ _=>rfl,l7.refl t H⟩ (fun i σ H2 _ zz=>by obtain ⟨_,_,_,_,_,_,_,_,k⟩:=zz;exact i8.of (k r _ hrr ntr.symm)) ?_ ?_⟩
   · rintro i y σ H2 tt hi ⟨ts',v3,v4,rfl,h2t,hl,hj,hu,kb⟩ htt;obtain ⟨z,hz,rfl⟩:=K5 hi;have hil:i < rs.length:=(cp0.mp hz).1;have h2r:=kb r _ hrr ntr.symm;have nt:t≠tt:=i9 h2t htt;have nr:r≠tt:=i9 h2r htt
     have h3r:(e8 H2 tt (.tup [.int (i:Int),.int z])) r=some (.lst (rs.map V.int)):=by rw[i6 nr];exact h2r
     have h3t:(e8 H2 tt (.tup [.int (i:Int),.int z])) t=some (.lst (ts'.map V.int)):=by rw[i6 nt];exact h2t
     have L0:(0:Int) < (rs.length:Int):=by omega
     have m0:=cw8 ((i:Int)+k) (show (rs.length:Int)≠0 by omega);have m1:=cv8 ((i:Int)+k) L0;refine ⟨tt,_,rfl,Y3.of c8,rfl,_,_,rfl,_,_,rfl,rfl,?_⟩;refine ⟨_,rfl,_,rfl,_,rfl,_,_,rfl,rfl,_,rfl,r,_,rfl,.inl (i8.of h3r),?_⟩;rw[co8];refine ⟨_,_,rfl,rfl,L0,r,_,_,_,rfl,rfl,i8.of h3r,T9 m0 m1,?_⟩;obtain ⟨z0,z1⟩:=bd z (cp3 hz);refine ⟨_,rfl,_,rfl,t,_,_,z.toNat,rfl,rfl,h3t,?_,?_⟩
     · unfold R1;rw[co8,if_pos z0,if_pos (by omega)]
     have es:(ts'.map V.int).set z.toNat (.int (rs.getD (((i:Int)+k)%(rs.length:Int)).toNat 0))=(ts'.set z.toNat (rs.getD (((i:Int)+k)%(rs.length:Int)).toNat 0)).map V.int:=by rw[cy1]
     rw[es]
     have hzi:rs.getD i 0=z:=by rw[G4 hil];exact (cp0.mp hz).2
     refine ⟨_,_,_,rfl,c8,by rw[ct5];exact hl,fun j hji=> ?_,fun u u0 un=> ?_,fun b o hb hn=> ?_⟩
     · by_cases e:j=i
       · subst e;rw[hzi,am6 (by omega)]
       · have hjl:j < rs.length:=by omega
         have:rs.getD j 0≠z:=by rw[<-hzi];exact T0 nd hjl hil e
         rw[ab8 (bd _ (by rw[G4 hjl];exact cs0 hjl)).1 z0 this];exact hj j (by omega)
     · rw[ab8 u0 z0 (fun e=>un (e▸cp3 hz))];exact hu u u0 un
     · have:=kb b o hb hn;rw[i6 hn,i6 (i9 this htt)];exact this
   · rintro σ H2 ⟨ts',v3,v4,rfl,h2t,hl,hj,hu,kb⟩;rw[co8] at hj;exact q ts' H2 hl hj hu h2t kb
end
end My
namespace My
open PySem L2 Mth
section
variable {P:Program} {w:World} {K:PySem.W.Frag} {mg:Str->Option Value} {base:Heap}
theorem V4:r6 ["p","found","first","here"] ["p"] (m6 Z6):=by rfl'
theorem bb4 {f:Addr}{fd:FuncData}(F:B6 K "_law_rounds" "_law_rounds" Z6 f fd)(B:Bl mg):q9 P w K mg base C3 1 f fd ["p"] I0:=by
 refine F.ok V4 (fun vs H Q E h=> ?_) (fun cdv A outer s H vs Q E hr h=> ?_)
 · obtain ⟨a,p,rfl,_⟩:=h;rfl
 · obtain ⟨a,p,rfl,⟨ha,tp,lp⟩,q⟩:=h
   refine ⟨_,i4 (l8 (i:=1) V4.nd rfl (Or.inl rfl) (m8 c7))
     (i4 (B7 PassesOwn.never rfl (D4 (by rfl) B.range (c6 (x9 B.len (c6 (pv 0) c7)) c7)) (v0 (i:=2) V4.nd rfl (Or.inl rfl))
       (i4 (l8 (i:=3) V4.nd rfl (Or.inl rfl) (m8 (c6 (pv 2) c7)))
       (i4 (Y4 PassesOwn.never (m9 ao2 (y7 o0 (pv 0) (y7 o0 (pv 3) (V0 O4 i7) (fun _ _=>rfl)) (fun _ _=>rfl)) (pv 2) (q0 _))
         (i5 (C4 (M0 (pv 3) (c6 (y7 o0 (pv 0) (y7 o0 (pv 3) (V0 O4 i7) (fun _ _=>rfl)) (fun _ _=>rfl)) c7)))))
       (i5 (A0 (m9 E3 (ca2 rfl B.min (c6 (pv 3) c7)) (pv 2) (q0 _)) (i5 (C4 (M0 (pv 1) (c6 (pv 3) c7)))) o8)))))
     (i5 (m7 (pv 1)))),?_⟩
   refine ⟨cs1 _,fun l hl=> ?_⟩;have s0:c9 H (e8 H l (.lst [])):=c9.upd_new hl;refine ⟨_,rfl,a,_,rfl,.inl (i8.of (s0 a _ ha)),(p.length:Int),?_,by omega,by omega,?_⟩
   · rw[co8]
   rw[show ((p.length:Int)).toNat=p.length by omega]
   refine R0 (lo:=0) (n:=p.length) (fun i σ H2=>∃(as:List Addr) (rs:List (List Int)) (v2 v3:Option V),σ=[some (.ref a),some (.ref l),v2,v3]/\H2 l=some (.lst (as.map V.ref))/\x8 H2 as rs/\G5 p i rs/\c9 H H2/\(∀b∈as,H b=none)/\as.Nodup/\l∉as)
     ⟨[],[],none,none,rfl,c8,⟨rfl,fun j b r h=>by simp at h⟩,ap7 p,s0,fun b hb=>by simp at hb,cv7,by simp⟩ ?_ ?_
   · rintro i σ H2 hi ⟨as,rs,v2,v3,rfl,h2l,rows,up,s2,fa,nda,nla⟩
     have e0:(0:Int)+(i:Int)=(i:Int):=by omega
     rw[e0];have hx:In p (i:Int):=⟨by omega,by omega⟩;refine ⟨_,rfl,(by show 1<=sizeLine;decide),fun e he=> ?_⟩;have nle:l≠e:=i9 h2l he;have he0:H e=none:=s2.free he
     refine Y6 (fun σ H3=>∃m:Nat,σ=[some (.ref a),some (.ref l),some (.int (i:Int)),some (.ref e)]/\1<=m/\H3 e=some (.lst ((o6 p i m).map V.int))/\l7 e H2 H3/\∀j,0 < j->j < m->it p j i≠i) (fun _ H3=>p.length+1 - aq2 H3 e)
       ⟨1,rfl,cq0 _,c8,l7.upd,fun j j0 j1=>by omega⟩ ?_ ?_
     · rintro σ H3 ⟨m,rfl,m1,h3e,kb,hne⟩;have nae:a≠e:=i9 (s2 a _ ha) he;have h3a:=kb a _ (s2 a _ ha) nae;have h3l:=kb l _ h2l nle;have hin:=X6 tp hx (m - 1)
       have hm1:m - 1+1=m:=by omega
       have est:p.getD (it p (m - 1) i).toNat 0=it p m i:=by
         show nx p (it p (m - 1) i)=it p m i;rw[<-hm1];rfl
       have hat:=T9 hin.1 hin.2;rw[est] at hat;refine ⟨_,rfl,_,rfl,_,rfl,e,_,_,_,rfl,rfl,i8.of h3e,bg5 m1,a,_,_,_,rfl,rfl,i8.of h3a,hat,_,rfl,rfl,_,rfl,?_⟩
       by_cases hb:it p m i=i
       · refine ad5 (congrArg V.int hb) ?_;have pr:O6 p i m:=⟨by omega,hb,hne⟩;have hmm:=N5 tp hx hne
         have kb':∀b∈as,b≠e:=fun b hb z=>by
           obtain ⟨r,hr'⟩:=an2 rows hb;rw[z,he] at hr';cases hr'
         have rows3:x8 H3 as rs:=y6 rows fun b hb o ho=>kb b o ho (kb' b hb)
         have s3:c9 H H3:=fun b o hb=>kb b o (s2 b o hb) (i9 hb he0)
         have self:(i:Int)∈o6 p i m:=R5.mpr ⟨0,pr.pos,rfl⟩;refine ⟨_,rfl,e,o6 p i m,rfl,i8.of h3e,fun z=>by rw[z] at self;simp at self,fun mn hmn hle=> ?_⟩;refine ⟨_,rfl,rfl,_,rfl,?_⟩
         by_cases hfl:(i:Int)∈rs.flatten
         · have hne':¬V.int mn=V.int i:=fun z=>by
             have z:=V.int.inj z;obtain ⟨r,hr',hyr⟩:=ct2.mp hfl;obtain ⟨x,M,ax,bx,rfl,dx,ex⟩:=up.ring r hr';have:=hle x (av2 pr bx self hyr);omega
           rw[decide_eq_false hne'];exact A5 ⟨as,rs,_,_,rfl,h3l,rows3,ap8 up hfl,s3,fa,nda,nla⟩
         · have heq:V.int mn=V.int i:=by
             have h1:=hle i self;have h2:=ab4 up pr hfl mn hmn;have h3:=(U0 tp hx mn hmn).1
             have:¬mn < i:=fun z=>h2 (up.all mn h3 z)
             congr 1
             omega
           rw[decide_eq_true heq];refine B3 ?_;have cl:=ae8 up;have fl:=aq3 tp up;refine ⟨_,rfl,.inl ⟨rfl,_,i8.of h3l⟩,_,rfl,l,_,_,rfl,rfl,h3l,m4 (by rw[co8,rows.1];omega),?_⟩
           have es:as.map V.ref++[V.ref e]=(as++[e]).map V.ref:=by rw[cp5];rfl
           rw[es];refine ⟨as++[e],rs++[o6 p i m],_,_,rfl,c8,?_,ap9 tp up hx pr hfl,fun b o hb=>by rw[i6 (i9 hb hl)];exact s3 b o hb,?_,?_,?_⟩
           · exact M1 (y6 rows3 fun b hb o ho=>by
               have hbl:b≠l:=fun z=>nla (by rw[<-z];exact hb)
               rw[i6 hbl];exact ho) (by rw[i6 nle.symm];exact h3e)
           · intro b hb
             rcases cp4.mp hb with g|g
             · exact fa b g
             · have:b=e:=by simpa using g
               rw[this];exact he0
           · exact R4 nda fun g=>kb' e g rfl
           · intro g
             rcases cp4.mp g with g|g
             · exact nla g
             · exact nle (by simpa using g)
       · have hb':¬V.int (it p m i)=V.int i:=fun z=>hb (V.int.inj z)
         rw[decide_eq_false hb'];refine B3 ?_
         have hne':∀j,0 < j->j < m+1->it p j i≠i:=fun j j0 j1=>by
           by_cases e:j=m
           · rw[e];exact hb
           · exact hne j j0 (by omega)
         have hbd:=N5 tp hx hne';refine ⟨_,rfl,.inl ⟨rfl,_,i8.of h3e⟩,_,rfl,_,rfl,_,rfl,e,_,_,_,rfl,rfl,i8.of h3e,bg5 m1,a,_,_,_,rfl,rfl,i8.of h3a,hat,e,_,_,rfl,rfl,h3e,m4 (by rw[co8,A4];omega),?_⟩
         have h4e:(e8 H3 e (.lst ((o6 p i m).map V.int++[.int (it p m i)]))) e=some (.lst ((o6 p i (m+1)).map V.int)):=by
           rw[c8,ae2,cp5];rfl
         refine ⟨⟨m+1,rfl,by omega,h4e,kb.upd_a,hne'⟩,?_⟩;rw[U5 h4e,U5 h3e,co8,co8,A4,A4];omega
     · rintro σ H3 Q Q' hq ⟨v,hv,v1,hv1,v2,hv2,p1,xs1,i1,y1,e1,e2,e3,e4,p2,xs2,i2,y2,f1,f2,f3,f4,v3,hv3,g1,k1,g2,g3⟩;exact ⟨v,hv,v1,hv1,v2,hv2,p1,xs1,i1,y1,e1,e2,e3,e4,p2,xs2,i2,y2,f1,f2,f3,f4,v3,hv3,g1,k1,g2,hq _ _ g3⟩
   · rintro σ H2 ⟨as,rs,v2,v3,rfl,h2l,rows,up,s2,fa,nda,nla⟩;exact ⟨_,rfl,q l as rs H2 hl s2 h2l rows up fa nda nla⟩
end
end My
namespace My
open PySem L2 Mth
section
variable {P:Program} {w:World} {K:PySem.W.Frag} {mg:Str->Option Value} {base:Heap}
theorem bk0:r6 ["p"] ["p"] (m6 O8):=by rfl'
theorem al5 {f:Addr}{fd:FuncData}(F:B6 K "rounds_of" "rounds_of" O8 f fd)(cM:A2 P w K mg base "must_be_turn" 3 ["thing"] ah8)(cR:A2 P w K mg base "walk_rings" 2 ["p"] I0):q9 P w K mg base C3 4 f fd ["p"] I0:=by
 refine F.ok bk0 (fun vs H Q E h=> ?_) (fun cdv A outer s H vs Q E hr h=> ?_)
 · obtain ⟨a,p,rfl,_⟩:=h;rfl
 · obtain ⟨a,p,rfl,⟨ha,tp,lp⟩,q⟩:=h;refine ⟨_,i4 (C4 (l9 cM hr (c6 (pv 0) c7))) (i5 (m7 (l9 cR (hr.mono (by decide)) (c6 (pv 0) c7)))),?_⟩;refine ⟨_,rfl,a,p,rfl,⟨ha,tp,lp⟩,fun H1 s1=> ?_⟩;exact ⟨_,rfl,a,p,rfl,⟨s1 a _ ha,tp,lp⟩,fun l as rs H' hl s' h1 h2 h3 h4 h5 h6=>q l as rs H' (s1.free hl) (s1.trans s') h1 h2 h3 (fun b hb=>s1.free (h4 b hb)) h5 h6⟩
end
end My
namespace My
open PySem L2 Mth
section
variable {P:Program} {w:World} {K:PySem.W.Frag} {mg:Str->Option Value} {base:Heap}
def bk1:Sp:=fun vs H Q _=>∃(x y:Nat),vs=[.int (x:Int),.int (y:Int)]/\Q (.int (cz9 x y:Nat)) H
theorem ax4:r6 ["a","b","rest"] ["a","b"] (m6 T3):=by rfl'
def bw4 (σ:St):Nat:=match σ[1]? with
 |some (some (V.int i))=>i.toNat
 |_=>0
theorem cg7 {f:Addr}{fd:FuncData}(F:B6 K "greatest_part" "greatest_part" T3 f fd):q9 P w K mg base C3 1 f fd ["a","b"] bk1:=by
 refine F.ok ax4 (fun vs H Q E h=> ?_) (fun cdv A outer s H vs Q E hr h=> ?_)
 · obtain ⟨x,y,rfl,_⟩:=h;rfl
 · obtain ⟨x,y,rfl,q⟩:=h
   refine ⟨_,i4 (Y4 PassesOwn.never (m9 ao2 (pv 1) i7 (q0 _))
       (i4 (l8 (i:=2) ax4.nd rfl (Or.inl rfl) (m3 S2 (pv 0) (pv 1))) (i4 (l8 (i:=0) ax4.nd rfl (Or.inl rfl) (pv 1)) (i5 (l8 (i:=1) ax4.nd rfl (Or.inl rfl) (pv 2))))))
     (i5 (m7 (pv 0))),?_⟩
   refine Y6 (fun σ H2=>∃(a b:Nat) (v:Option V),σ=[some (.int (a:Int)),some (.int (b:Int)),v]/\cz9 a b=cz9 x y/\H2=H) (fun σ _=>bw4 σ) ⟨x,y,none,rfl,rfl,rfl⟩ ?_ ?_
   · rintro σ H2 ⟨a,b,v,rfl,hg,rfl⟩;refine ⟨_,rfl,rfl,_,rfl,?_⟩
     by_cases hb:b=0
     · subst hb;refine ad5 (by rfl) ?_;refine ⟨_,rfl,?_⟩;rw[Nat.gcd_zero_right] at hg;rw[hg];exact q
     · have hb':¬V.int (b:Int)=V.int 0:=fun z=>hb (by have:=V.int.inj z;omega)
       rw[decide_eq_false hb'];refine B3 ?_;refine ⟨_,rfl,_,rfl,_,_,rfl,rfl,(by show (0:Int) < (b:Int);omega),_,rfl,_,rfl,⟨b,a%b,some (.int ((a:Int)%(b:Int))),?_,?_,rfl⟩,?_⟩
       · rw[da6];rfl
       · rw[<-hg,Nat.gcd_comm a b,Nat.gcd_rec b a,Nat.gcd_comm]
       · show ((a:Int)%(b:Int)).toNat < ((b:Int)).toNat;have:=cv8 (a:Int) (show (0:Int) < (b:Int) by omega);have:=cw8 (a:Int) (show (b:Int)≠0 by omega);omega
   · rintro σ H2 Q Q' hq ⟨v,hv,e1,k1,e2,e3⟩;exact ⟨v,hv,e1,k1,e2,hq _ _ e3⟩
end
end My
namespace My
open PySem L2 Mth
section
variable {P:Program} {w:World} {K:PySem.W.Frag} {mg:Str->Option Value} {base:Heap}
noncomputable def ax5 (p:List Int):List Int:=(N1 p p.length).map fun r=>(r.length:Int)
def ac4:Sp:=fun vs H Q _=>∃(a:Addr) (p:List Int),vs=[.ref a]/\ac1 H a p/\∀(l:Addr) (ms:List Int) (H':Hp),H l=none->c9 H H'->ms.Perm (ax5 p)->ms.Pairwise (· ≥ ·)->(∀x∈ms,1<=x/\x<=40)->ms.length<=40->H' l=some (.lst (ms.map V.int))->Q (.ref l) H'
theorem cg8:r6 ["p"] ["p"] (m6 V8):=by rfl'
theorem cg9:(["ring"]:List Str).Nodup:=by decide+kernel
theorem cc4 {p:List Int}{rs:List (List Int)}(tp:D8 p)(lp:p.length<=40)(up:G5 p p.length rs):(∀x∈rs.map (fun r=>(r.length:Int)),1<=x/\x<=40)/\rs.length<=40:=by
 refine ⟨fun x hx=> ?_,by have:=ae8 up;have:=aq3 tp up;omega⟩;obtain ⟨r,hr,rfl⟩:=cs6.mp hx;obtain ⟨y,L,hy,pr,er,_⟩:=up.ring r hr
 have:=N5 tp hy (m:=L) fun i i0 i1=>pr.least i i0 i1
 have:=pr.pos;rw[er,A4];omega
theorem bh0 {f:Addr}{fd:FuncData}(F:B6 K "kind_of" "kind_of" V8 f fd)(B:Bl mg)(bs:mg "sorted"=none)(cR:A2 P w K mg base "rounds_of" 4 ["p"] I0):q9 P w K mg base C3 5 f fd ["p"] ac4:=by
 refine F.ok cg8 (fun vs H Q E h=> ?_) (fun cdv A outer s H vs Q E hr h=> ?_)
 · obtain ⟨a,p,rfl,_⟩:=h;rfl
 · obtain ⟨a,p,rfl,⟨ha,tp,lp⟩,q⟩:=h;refine ⟨_,i5 (m7 (ah1 bs (c6 (D5 (N:=["ring"]) (nl:=1) (fr:=[]) rfl .of (A8 (l9 cR hr (c6 (pv 0) c7))) (fun _ _ _ _ _=>v0 (i:=0) cg9 rfl (Or.inl rfl)) (fun _ _ _ _ _=>C7) (fun _ _ _ _ _=>ae1 K B.len (c6 (pv 0) c7))) c7))),?_⟩;refine ⟨_,rfl,a,p,rfl,⟨ha,tp,lp⟩,fun l as rs H1 hl s1 h1l rows up fa nda nla=> ?_⟩;obtain ⟨bd,lrs⟩:=cc4 tp lp up;refine ⟨l,rfl,⟨_,i8.of h1l⟩,G3 (K:=K) (a:=l) (xs:=as.map V.ref) (fun i ys σ H2=>∃v:Option V,σ=[v]/\H2=H1/\ys=((rs.take i).map fun r=>(r.length:Int)).map V.int) ⟨none,rfl,rfl,rfl⟩ (fun i ys σ H2 _ zz=>by obtain ⟨_,_,e,_⟩:=zz;rw[e];exact i8.of h1l) ?_ ?_⟩
   · rintro i y ys σ H2 hi ⟨v,rfl,rfl,rfl⟩;rw[cq4] at hi
     cases hA:as[i]? with
     |none=>rw[hA] at hi;cases hi
     |some e=>
      rw[hA] at hi;cases hi;have hil:i < as.length:=(cp0.mp hA).1;have hri:rs[i]? =some (rs[i]'(by rw[<-rows.1];exact hil)):=cp1 _;generalize (rs[i]'(by rw[<-rows.1];exact hil))=r at hri;have he:=rows.2 i e r hA hri;refine ⟨_,rfl,e,_,rfl,.inl (i8.of he),m4 (by rw[co8,co8,cq2];omega),_,rfl,rfl,?_⟩;rw[o9 hri,cp5,cp5,co8];rfl
   · rintro ys σ H2 ⟨v,rfl,rfl,rfl⟩ D hD;rw[co8,rows.1,cr7];have s2:c9 H2 (e8 H2 D (.lst ((rs.map fun r=>(r.length:Int)).map V.int))):=c9.upd_new hD;refine ⟨D,_,rfl,i8.of c8,by rw[co8];omega,fun ms l2 pm srt hl2=> ?_⟩
     have hlD:l2≠D:=fun z=>by rw[z,c8] at hl2;cases hl2
     have hl22:H2 l2=none:=by rw[i6 hlD] at hl2;exact hl2
     have ek:rs.map (fun r=>(r.length:Int))=ax5 p:=by unfold ax5;rw[<-up.eq]
     refine q l2 ms _ (s1.free hl22) ((s1.trans s2).upd_r (s1.free hl22)) (by rw[<-ek];exact pm) srt (fun x hx=>bd x (pm.mem_iff.mp hx)) (by rw[pm.length_eq,co8];exact lrs) c8
end
end My
namespace My
open PySem L2 Mth
section
variable {P:Program} {w:World} {K:PySem.W.Frag} {mg:Str->Option Value} {base:Heap}
def aq5:Sp:=fun vs H Q _=>∃(a:Addr) (p:List Int),vs=[.ref a]/\ac1 H a p/\∀(h:Nat) (H':Hp),c9 H H'->T2 ((ax5 p).map cz7) h->Q (.int (h:Int)) H'
theorem aq6:r6 ["p","home","length"] ["p"] (m6 V9):=by rfl'
theorem bh1 {f:Addr}{fd:FuncData}(F:B6 K "home_of" "home_of" V9 f fd)(cK:A2 P w K mg base "kind_of" 5 ["p"] ac4)(cG:A2 P w K mg base "greatest_part" 1 ["a","b"] bk1):q9 P w K mg base C3 6 f fd ["p"] aq5:=by
 refine F.ok aq6 (fun vs H Q E h=> ?_) (fun cdv A outer s H vs Q E hr h=> ?_)
 · obtain ⟨a,p,rfl,_⟩:=h;rfl
 · obtain ⟨a,p,rfl,⟨ha,tp,lp⟩,q⟩:=h
   refine ⟨_,i4 (l8 (i:=1) aq6.nd rfl (Or.inl rfl) i7)
     (i4 (B7 PassesOwn.never rfl (A8 (l9 cK hr (c6 (pv 0) c7))) (v0 (i:=2) aq6.nd rfl (Or.inl rfl)) (i5 (l8 (i:=1) aq6.nd rfl (Or.inl rfl) (m3 V5 (m3 bf6 (pv 1) (l9 cG (hr.mono (by decide)) (c6 (pv 1) (c6 (pv 2) c7)))) (pv 2)))))
     (i5 (m7 (pv 1)))),?_⟩
   refine ⟨_,rfl,a,p,rfl,⟨ha,tp,lp⟩,fun l ms H1 hl s1 pm srt bd lm h1l=> ?_⟩;refine ⟨l,rfl,⟨_,i8.of h1l⟩,C2 (K:=K) (a:=l) (xs:=ms.map V.int) (fun i σ H2=>∃(h:Nat) (v:Option V),σ=[some (.ref a),some (.int (h:Int)),v]/\H2=H1/\T2 ((ms.take i).map cz7) h) ⟨1,none,rfl,rfl,T2.nil⟩ (fun i σ H2 _ zz=>by obtain ⟨_,_,_,e,_⟩:=zz;rw[e];exact i8.of h1l) ?_ ?_⟩
   · rintro i y σ H2 hi ⟨h,v,rfl,rfl,lc⟩;obtain ⟨z,hz,rfl⟩:=K5 hi;obtain ⟨z1,z2⟩:=bd z (cp3 hz);obtain ⟨zn,rfl⟩:=cq8 (show 0<=z by omega);have hpos:=lc.pos;have g0:0 < cz9 h zn:=Nat.gcd_pos_of_pos_left _ hpos;have g1:cz9 h zn<=zn:=Nat.le_of_dvd (by omega) (Nat.gcd_dvd_right h zn);refine ⟨_,rfl,_,rfl,_,rfl,h,zn,rfl,_,_,rfl,rfl,⟨by omega,by omega⟩,_,rfl,_,_,rfl,rfl,.inr ⟨by omega,by omega⟩,?_⟩;refine ⟨Nat.lcm h zn,some (.int (zn:Int)),?_,rfl,?_⟩
     · have e:(h:Int)/(cz9 h zn:Int)*(zn:Int)=((Nat.lcm h zn:Nat):Int):=by
         rw[<-ca5,Int.natCast_mul,Int.natCast_ediv]
       show [some (V.ref a),some (V.int ((h:Int)/(cz9 h zn:Int)*(zn:Int))),some (V.int (zn:Int))]=_;rw[e]
     · rw[o9 hz,cp5];exact lc.snoc (by omega)
   · rintro σ H2 ⟨h,v,rfl,rfl,lc⟩;rw[co8,cr7] at lc;exact ⟨_,rfl,q h H2 s1 (lc.perm (pm.symm.map _))⟩
end
end My
namespace My
open PySem L2 Mth
section
variable {P:Program} {w:World} {K:PySem.W.Frag} {mg:Str->Option Value} {base:Heap}
def ae9:Sp:=fun vs H Q _=>∃(l:Addr) (as:List Addr) (rs:List (List Int)),vs=[.ref l]/\H l=some (.lst (as.map V.ref))/\x8 H as rs/\(∀r∈rs,r≠[])/\Q (.bl true) H
theorem bb5:r6 ["rounds","ring"] ["rounds"] (m6 D9):=by rfl'
theorem br3 {f:Addr}{fd:FuncData}(F:B6 K "are_filled_lists" "are_filled_lists" D9 f fd)(B:Bl mg):q9 P w K mg base C3 1 f fd ["rounds"] ae9:=by
 refine F.ok bb5 (fun vs H Q E h=> ?_) (fun cdv A outer s H vs Q E hr h=> ?_)
 · obtain ⟨l,as,rs,rfl,_⟩:=h;rfl
 · obtain ⟨l,as,rs,rfl,hl,rows,hne,q⟩:=h
   refine ⟨_,i4 (A0 (C1 (B4 (K9 B.isi (c6 (pv 0) (c6 (J0 B.list) c7))))) (i5 (m7 B5)) o8)
     (i4 (B7 PassesOwn.never rfl (A8 (pv 0)) (v0 (i:=1) bb5.nd rfl (Or.inl rfl))
       (i5 (A0 (D7 (C1 (B4 (K9 B.isi (c6 (pv 1) (c6 (J0 B.list) c7))))) (K8 (m9 E3 (x9 B.len (c6 (pv 1) c7)) i7 (q0 _)))).pt (i5 (m7 B5)) o8)))
     (i5 (m7 B5))),?_⟩
   refine ⟨_,rfl,_,"list",_,true,rfl,.lst hl,D2 K "list",true,rfl,?_⟩;refine A5 ?_;refine ⟨_,rfl,l,rfl,⟨_,i8.of hl⟩,C2 (K:=K) (a:=l) (xs:=as.map V.ref) (fun i σ H2=>∃v:Option V,σ=[some (.ref l),v]/\H2=H) ⟨none,rfl,rfl⟩ (fun i σ H2 _ zz=>by obtain ⟨_,_,e⟩:=zz;rw[e];exact i8.of hl) ?_ (fun σ H2 zz=>by obtain ⟨v,_,e⟩:=zz;rw[e];exact q)⟩;rintro i y σ H2 hi ⟨v,rfl,rfl⟩;rw[cq4] at hi
   cases hA:as[i]? with
   |none=>rw[hA] at hi;cases hi
   |some e=>
    rw[hA] at hi;cases hi;have hil:i < as.length:=(cp0.mp hA).1;have hri:rs[i]? =some (rs[i]'(by rw[<-rows.1];exact hil)):=cp1 _;generalize (rs[i]'(by rw[<-rows.1];exact hil))=r at hri;have he:=rows.2 i e r hA hri;have hrn:=hne r (cp3 hri);refine ⟨_,rfl,_,"list",_,true,rfl,.lst he,D2 K "list",true,rfl,?_⟩;refine A5 ⟨_,rfl,e,_,rfl,.inl (i8.of he),rfl,_,rfl,?_⟩
    have hnz:¬V.int (((r.map V.int).length:Nat):Int)=V.int 0:=fun z=>by
      have z:=V.int.inj z;rw[co8] at z;have:=ct9.mpr hrn;omega
    rw[decide_eq_false hnz];exact A5 ⟨_,rfl,rfl⟩
def af0:Sp:=fun vs H Q _=>∃(l:Addr) (as:List Addr) (rs:List (List Int)),vs=[.ref l]/\H l=some (.lst (as.map V.ref))/\x8 H as rs/\rs.flatten.length<=1000/\
 ∀(o:Addr) (H':Hp),H o=none->c9 H H'->H' o=some (.lst (rs.flatten.map V.int))->Q (.ref o) H'
theorem an3:r6 ["rounds","things","ring"] ["rounds"] (m6 O9):=by rfl'
theorem Z7 (rs:List (List Int))(i:Nat):(rs.take i).flatten.length<=rs.flatten.length:=by
 conv=>rhs;rw[<-cs7 i rs,cq6,co9]
 omega
theorem br4 {f:Addr}{fd:FuncData}(F:B6 K "things_in" "things_in" O9 f fd):q9 P w K mg base C3 1 f fd ["rounds"] af0:=by
 refine F.ok an3 (fun vs H Q E h=> ?_) (fun cdv A outer s H vs Q E hr h=> ?_)
 · obtain ⟨l,as,rs,rfl,_⟩:=h;rfl
 · obtain ⟨l,as,rs,rfl,hl,rows,hb,q⟩:=h
   refine ⟨_,i4 (l8 (i:=1) an3.nd rfl (Or.inl rfl) (m8 c7))
     (i4 (B7 PassesOwn.never rfl (A8 (pv 0)) (v0 (i:=2) an3.nd rfl (Or.inl rfl)) (i5 (C4 (av3 (pv 1) (c6 (pv 2) c7)))))
     (i5 (m7 (pv 1)))),?_⟩
   refine ⟨cs1 _,fun o ho=> ?_⟩;have s0:c9 H (e8 H o (.lst [])):=c9.upd_new ho;refine ⟨_,rfl,l,rfl,⟨_,i8.of (s0 l _ hl)⟩,C2 (K:=K) (a:=l) (xs:=as.map V.ref) (fun i σ H2=>∃v:Option V,σ=[some (.ref l),some (.ref o),v]/\c9 H H2/\H2 o=some (.lst ((rs.take i).flatten.map V.int))) ⟨none,rfl,s0,c8⟩ (fun i σ H2 _ zz=>by obtain ⟨_,_,s,_⟩:=zz;exact i8.of (s l _ hl)) ?_ ?_⟩
   · rintro i y σ H2 hi ⟨v,rfl,s2,h2o⟩;rw[cq4] at hi
     cases hA:as[i]? with
     |none=>rw[hA] at hi;cases hi
     |some e=>
      rw[hA] at hi;cases hi;have hil:i < as.length:=(cp0.mp hA).1;have hri:rs[i]? =some (rs[i]'(by rw[<-rows.1];exact hil)):=cp1 _;generalize (rs[i]'(by rw[<-rows.1];exact hil))=r at hri;have he:=s2 e _ (rows.2 i e r hA hri);have hle:=Z7 rs (i+1);rw[o9 hri,cq6,cr1,co9] at hle;have h1000:=m4 (cq0 1000);refine ⟨_,rfl,.inl ⟨rfl,_,i8.of h2o⟩,_,rfl,o,e,_,_,rfl,rfl,h2o,he,by rw[co8,co8];omega,?_⟩;refine ⟨_,rfl,fun b u hb=>by rw[i6 (i9 hb ho)];exact s2 b u hb,?_⟩;rw[c8,o9 hri,cq6,cr1,cp5]
   · rintro σ H2 ⟨v,rfl,s2,h2o⟩;rw[co8,rows.1,cr7] at h2o;exact ⟨_,rfl,q o H2 ho s2 h2o⟩
def aq7:Sp:=fun vs H Q _=>∃(l:Addr) (as:List Addr) (rs:List (List Int)),vs=[.ref l]/\H l=some (.lst (as.map V.ref))/\x8 H as rs/\(∀r∈rs,r≠[])/\D8 rs.flatten/\rs.flatten.length<=40/\
 ∀(o:Addr) (t:List Int) (H':Hp),H o=none->c9 H H'->H' o=some (.lst (t.map V.int))->t.length=rs.flatten.length->(∀r∈rs,∀j,j < r.length->L4 t (r.getD j 0)=some (r.getD ((j+1)%r.length) 0))->Q (.ref o) H'
theorem aq8:r6 ["rounds","told","ring"] ["rounds"] (m6 M8):=by rfl'
theorem bh2 {f:Addr}{fd:FuncData}(F:B6 K "from_rounds" "from_rounds" M8 f fd)(cF:A2 P w K mg base "are_filled_lists" 1 ["rounds"] ae9)(cT:A2 P w K mg base "things_in" 1 ["rounds"] af0)(cI:A2 P w K mg base "is_turn" 2 ["thing"] U4)
   (cS:A2 P w K mg base "send_along" 1 ["target","ring","steps"] bb2):q9 P w K mg base C3 3 f fd ["rounds"] aq7:=by
 refine F.ok aq8 (fun vs H Q E h=> ?_) (fun cdv A outer s H vs Q E hr h=> ?_)
 · obtain ⟨l,as,rs,rfl,_⟩:=h;rfl
 · obtain ⟨l,as,rs,rfl,hl,rows,hne,tf,lf,q⟩:=h;have hr1:A1 1 _:=hr.mono (by decide)
   refine ⟨_,i4 (A0 (C1 (B4 (l9 cF hr1 (c6 (pv 0) c7)))) (i5 al9) o8)
     (i4 (l8 (i:=1) aq8.nd rfl (Or.inl rfl) (l9 cT hr1 (c6 (pv 0) c7)))
     (i4 (A0 (C1 (B4 (l9 cI hr (c6 (pv 1) c7)))) (i5 al9) o8)
     (i4 (B7 PassesOwn.never rfl (A8 (pv 0)) (v0 (i:=2) aq8.nd rfl (Or.inl rfl)) (i5 (C4 (l9 cS hr1 (c6 (pv 1) (c6 (pv 2) (c6 i7 c7)))))))
     (i5 (m7 (pv 1)))))),?_⟩
   refine ⟨_,rfl,l,as,rs,rfl,hl,rows,hne,true,rfl,?_⟩;refine A5 ?_;refine ⟨_,rfl,l,as,rs,rfl,hl,rows,by omega,fun o H1 ho s1 h1o=> ?_⟩;refine ⟨_,rfl,o,_,rfl,h1o,fun bb H2 s2 hbb=>⟨bb,rfl,?_⟩⟩;have:bb=true:=hbb.mpr ⟨lf,tf⟩;subst this;refine A5 ?_;have s02:=s1.trans s2;have h2o:=s2 o _ h1o;have h2l:=s02 l _ hl
   have rows2:x8 H2 as rs:=y6 rows fun c _ u hu=>s02 c u hu
   have nlo:l≠o:=i9 hl ho
   refine ⟨_,rfl,l,rfl,⟨_,i8.of h2l⟩,C2 (K:=K) (a:=l) (xs:=as.map V.ref) (fun i σ H3=>∃(ts:List Int) (v:Option V),σ=[some (.ref l),some (.ref o),v]/\H3 o=some (.lst (ts.map V.int))/\ts.length=rs.flatten.length/\(∀r∈rs.take i,∀j,j < r.length->L4 ts (r.getD j 0)=some (r.getD ((j+1)%r.length) 0))/\l7 o H2 H3)
     ⟨_,none,rfl,h2o,rfl,fun r hr=>by simp at hr,l7.refl o H2⟩ (fun i σ H3 _ zz=>by obtain ⟨_,_,_,_,_,_,k⟩:=zz;exact i8.of (k l _ h2l nlo)) ?_ ?_⟩
   · rintro i y σ H3 hi ⟨ts,v,rfl,h3o,lts,hts,kb⟩;rw[cq4] at hi
     cases hA:as[i]? with
     |none=>rw[hA] at hi;cases hi
     |some e=>
      rw[hA] at hi;cases hi;have hil:i < as.length:=(cp0.mp hA).1;have hri:rs[i]? =some (rs[i]'(by rw[<-rows.1];exact hil)):=cp1 _;generalize hR:(rs[i]'(by rw[<-rows.1];exact hil))=r at hri
      have neo:o≠e:=fun z=>by
        have:=rows.2 i e r hA hri;rw[<-z,ho] at this;cases this
      have h3e:=kb e _ (rows2.2 i e r hA hri) neo.symm;have hrm:r∈rs:=cp3 hri
      have hsplit:rs.flatten=(rs.take i).flatten++(r++(rs.drop (i+1)).flatten):=by
        conv=>lhs;rw[<-cs7 i rs,cq6]
        rw[List.drop_eq_getElem_cons (by rw[<-rows.1];exact hil),hR,cr4]
      have nds:=tf.nd;rw[hsplit] at nds;obtain ⟨nd1,nd2,nd3⟩:=cx1.mp nds;obtain ⟨ndr,_,_⟩:=cx1.mp nd2;refine ⟨_,rfl,_,rfl,o,e,ts,r,1,rfl,h3o,h3e,neo,ndr,fun x hx=> ?_,fun ts' H4 l4 hj hu h4o kb4=> ?_⟩
      · have hxf:x∈rs.flatten:=ct2.mpr ⟨r,hrm,hx⟩;exact ⟨tf.lo x hxf,by rw[lts];exact tf.hi x hxf⟩
      refine ⟨ts',_,rfl,h4o,by omega,fun r' hr' j hj'=> ?_,kb.trans kb4⟩;rw[o9 hri] at hr'
      rcases cp4.mp hr' with g|g
      · have hx:r'.getD j 0∈(rs.take i).flatten:=by
          rw[G4 hj'];exact ct2.mpr ⟨r',g,cs0 hj'⟩
        have hxn:r'.getD j 0∉r:=fun z=>nd3 _ hx _ (cs3 _ z) rfl
        have hx0:0<=r'.getD j 0:=tf.lo _ (by rw[hsplit];exact cs3 _ hx);rw[hu _ hx0 hxn];exact hts r' g j hj'
      · have:r'=r:=by simpa using g
        subst this;have h1:=hj j hj'
        have e1:(((j:Int)+1)%(r'.length:Int)).toNat=(j+1)%r'.length:=by
          have:((j:Int)+1)=((j+1:Nat):Int):=by omega
          rw[this,<-da6,cu5]
        rw[e1] at h1;exact h1
   · rintro σ H3 ⟨ts,v,rfl,h3o,lts,hts,kb⟩;rw[co8,rows.1,cr7] at hts;exact ⟨_,rfl,q o ts H3 ho (fun b u hb=>kb b u (s02 b u hb) (i9 hb ho)) h3o lts hts⟩
end
end My
namespace My
open PySem L2 Mth
section
variable {P:Program} {w:World} {K:PySem.W.Frag} {mg:Str->Option Value} {base:Heap} {zxy zzz zwz zzy zyz zyx zyy zxx zx zxz zw:Addr}
def W7 (K:PySem.W.Frag)(H:Hp)(x:V):Prop:=∃t b1 b2,K0 K H x t/\PySem.W.kitOne K t (.type "int")=some b1/\PySem.W.kitOne K t (.type "bool")=some b2/\(b1&& !b2)=false
def E7 (K:PySem.W.Frag)(H:Hp)(v:V):Prop:=(∃t,K0 K H v t/\PySem.W.kitOne K t (.type "list")=some false)\/
 ∃(a:Addr) (xs:List V),v= .ref a/\H a=some (.lst xs)/\(∀x∈xs,(∃i:Int,x= .int i)\/W7 K H x)/\∀p:List Int,xs=p.map V.int->p.length<=40->¬D8 p
theorem av6 {K:PySem.W.Frag}{H H':Hp}{v:V}{t:Value}(h:K0 K H v t)(s:c9 H H'):K0 K H' v t:=by
 cases h with
 |non=>exact .non
 |bl x=>exact .bl x
 |int i=>exact .int i
 |str x=>exact .str x
 |flt x=>exact .flt x
 |lst e=>exact .lst (s _ _ e)
 |frz e=>exact .frz (s _ _ e)
 |tup e=>exact .tup (s _ _ e)
 |dK e=>exact .dK (s _ _ e)
 |dT e=>exact .dT (s _ _ e)
 |ins e a b c d f=>exact .ins (s _ _ e) a b c d f
theorem W7.keep {K:PySem.W.Frag}{H H':Hp}{x:V}(h:W7 K H x)(s:c9 H H'):W7 K H' x:=by
 obtain ⟨t,b1,b2,ty,r⟩:=h;exact ⟨t,b1,b2,av6 ty s,r⟩
theorem E7.keep {K:PySem.W.Frag}{H H':Hp}{v:V}(h:E7 K H v)(s:c9 H H'):E7 K H' v:=by
 rcases h with ⟨t,ty,r⟩|⟨a,xs,e,ha,el,no⟩
 · exact .inl ⟨t,av6 ty s,r⟩
 · exact .inr ⟨a,xs,e,s _ _ ha,fun x hx=>(el x hx).imp id fun z=>z.keep s,no⟩
def ak3 (K:PySem.W.Frag):Sp:=fun vs H Q _=>∃v,vs=[v]/\E7 K H v/\∀H',c9 H H'->Q (.bl false) H'
theorem af1:r6 ["thing","seen","place"] ["thing"] (m6 V7):=by rfl'
theorem bk2 {f:Addr}{fd:FuncData}(F:B6 K "is_turn" "is_turn" V7 f fd)(B:Bl mg)(zjz:∃t,mg "MOST_THINGS"=some (.int 40 t))(zsy:A2 P w K mg base "is_whole" 1 ["thing"] (ak2 K)):q9 P w K mg base C3 2 f fd ["thing"] (ak3 K):=by
 refine F.ok af1 (fun vs H Q E h=> ?_) (fun cdv A outer s H vs Q E hr h=> ?_)
 · obtain ⟨v,rfl,no,k⟩:=h;rfl
 · obtain ⟨v,rfl,no,k⟩:=h;obtain ⟨_,zjy⟩:=zjz;have zix:A1 1 _:=hr.mono (by decide);have hu:=S6 hr;refine ⟨_,@i4 _ _ _ _ _ (@A0 _ _ _ _ _ _ _ _ (@D7 _ _ _ _ _ _ _ (@C1 _ _ _ _ (@B4 _ _ _ (@K9 _ _ _ _ _ _ B.isi (@c6 _ _ _ _ _ (pv 0) (@c6 _ _ _ _ _ (@J0 _ _ B.list (by rfl)) (@c7 _) (by rfl)) (by rfl)) (by rfl) (by rfl) (by rfl)) (by intro _;rfl))) (@K8 _ _ _ _ (@m9 _ _ _ _ _ _ _ _ aa3 (@x9 _ _ _ _ _ B.len (@c6 _ _ _ _ _ (pv 0) (@c7 _) (by rfl)) (by rfl) (by rfl)) (@G9 _ _ (.int 40) _ _ (by rfl) zjy ⟨_,rfl⟩ (by decide)) (q0 _)))).pt (@i5 _ _ _ (@m7 _ _ _ _ (@B5 _ _ _ _))) (@o8 _)) (@i4 _ _ _ _ _ (@l8 _ _ (1) _ _ _ _ af1.nd rfl (Or.inl rfl) (@Y9 _ _) (by rfl) (by trivial)) (@i4 _ _ _ _ _ (@B7 _ _ _ _ _ _ _ _ PassesOwn.never rfl (@A8 _ _ _ _ (pv 0)) (@v0 _ _ (2) _ af1.nd rfl (Or.inl rfl) (by trivial)) (@i4 _ _ _ _ _ (@A0 _ _ _ _ _ _ _ _ (@D7 _ _ _ _ _ _ _ (@C1 _ _ _ _ (@B4 _ _ _ (@l9 _ _ _ _ _ _ _ _ _ _ zsy zix (@c6 _ _ _ _ _ (pv 2) (@c7 _) (by rfl)) (by rfl) (by decide) (by rfl) (by rfl)) (by intro _;rfl))) (@D7 _ _ _ _ _ _ _ (@m9 _ _ _ _ _ _ _ _ ao3 (pv 2) (@i7 _ _ _ _) (q0 _)) (@D7 _ _ _ _ _ _ _ (@m9 _ _ _ _ _ _ _ _ ax2 (pv 2) (@x9 _ _ _ _ _ B.len (@c6 _ _ _ _ _ (pv 0) (@c7 _) (by rfl)) (by rfl) (by rfl)) (q0 _)) (@K8 _ _ _ _ (@ax8 _ _ _ _ _ _ (@bo5 _ _ _ _ _ hu (pv 2) (pv 1)) (by first|exact nobehind _ (by decide) (by decide)|rfl)))))).pt (@i5 _ _ _ (@m7 _ _ _ _ (@B5 _ _ _ _))) (@o8 _)) (@i5 _ _ _ (@ar6 _ _ _ _ _ _ _ _ _ hu (pv 1) (pv 2) (@B5 _ _ _ _) rfl))) (by intro _;rfl)) (@i5 _ _ _ (@m7 _ _ _ _ (@B5 _ _ _ _))))),?_⟩
   rcases no with ⟨t,ty,kt⟩|⟨a,xs,rfl,ha,el,no⟩
   · refine ⟨_,rfl,v,"list",t,false,rfl,ty,kt,false,rfl,?_⟩;exact B3 (k H (c9.refl H))
   · refine ⟨_,rfl,_,"list",_,true,rfl,.lst ha,D2 K "list",true,rfl,?_⟩;refine A5 ⟨_,rfl,a,_,rfl,.inl (i8.of ha),_,_,rfl,rfl,_,rfl,?_⟩;refine G0 (fun h40=>k H (c9.refl H)) (fun h40=> ?_)
     have h40:¬(40:Int) < (xs.length:Int):=fun z=>h40 (decide_eq_true z)
     intro d hd;have nad:a≠d:=i9 ha hd
     have ha1:(e8 H d (.dK [])) a=some (.lst xs):=by rw[i6 nad];exact ha
     refine ⟨_,rfl,a,rfl,⟨_,i8.of ha1⟩,C2 (K:=K) (a:=a) (xs:=xs) (fun i σ H2=>∃(v:Option V) (p:List Int),σ=[some (.ref a),some (.ref d),v]/\c9 H H2/\xs.take i=p.map V.int/\H2 d=some (.dK (M5 p))/\p.Nodup/\∀x∈p,0<=x/\x < xs.length)
       ⟨none,[],rfl,c9.upd_new hd,rfl,c8,cv7,fun x hx=>by simp at hx⟩ (fun i σ H2 _ zz=>by obtain ⟨_,_,_,s2,_⟩:=zz;exact i8.of (s2 a _ ha)) ?_ ?_⟩
     · rintro i y σ H2 hi ⟨v,p,rfl,s2,hp,h2,nd,bd⟩;have ha2:=s2 a _ ha;have hil:i < xs.length:=(cp0.mp hi).1
       rcases el y (cp3 hi) with ⟨z,rfl⟩|odd
       · refine ⟨_,rfl,.int z,_,true,false,rfl,.int z,D2 K "int",S8 K,_,rfl,?_⟩;refine A5 ⟨_,rfl,_,_,rfl,rfl,_,rfl,?_⟩;refine G0 (fun hz0=>B3 (k H2 s2)) (fun hz0=> ?_)
         have hz0:¬z < 0:=fun q=>hz0 (decide_eq_true q)
         refine ⟨_,rfl,_,rfl,a,_,rfl,.inl (i8.of ha2),_,_,rfl,rfl,_,rfl,?_⟩;refine G0 (fun hz1=>B3 (k H2 s2)) (fun hz1=> ?_)
         have hz1:¬(xs.length:Int)<=z:=fun q=>hz1 (decide_eq_true q)
         refine ⟨_,rfl,_,rfl,d,_,rfl,ad4.k (k:=Sum.inl z) h2,_,rfl,?_⟩
         have lp:p.length<=i:=by
           have:=congrArg cw3 hp;rw[cq2,co8] at this;omega
         by_cases hm:z∈p
         · rw[am4 hm];exact B3 (k H2 s2)
         · rw[ad9 hm];refine A5 ⟨_,rfl,_,rfl,d,_,rfl,am1.k (k:=Sum.inl z) h2 (m4 (by unfold M5;rw[co8];omega)),?_⟩;refine ⟨some (.int z),p++[z],rfl,fun b o e=>by rw[i6 (i9 e hd)];exact s2 b o e,?_,?_,?_,?_⟩
           · rw[o9 hi,hp,cp5];rfl
           · rw[ag9 hm,c8]
           · exact R4 nd hm
           · intro x hx
             rcases cp4.mp hx with q|q
             · exact bd x q
             · have:x=z:=by simpa using q
               omega
       · obtain ⟨t,b1,b2,ty,e1,e2,e3⟩:=odd.keep s2;refine ⟨_,rfl,y,t,b1,b2,rfl,ty,e1,e2,_,rfl,?_⟩;rw[e3];exact B3 (k H2 s2)
     · rintro σ H2 ⟨v,p,rfl,s2,hp,h2,nd,bd⟩;rw[cr7] at hp
       have lp:xs.length=p.length:=by rw[hp,co8]
       exact absurd (show D8 p from ⟨nd,fun x hx=>(bd x hx).1,fun x hx=>by have:=(bd x hx).2;omega⟩) (no p hp (by omega))
def E8 (K:PySem.W.Frag)(q:Addr):Sp:=fun vs H _ E=>∃v,vs=[v]/\E7 K H v/\∀H',c9 H H'->E (.ref q) none H'
theorem aq9:r6 ["thing"] ["thing"] (m6 L6):=br1
theorem an4 {f:Addr}{fd:FuncData}(F:B6 K "must_be_turn" "must_be_turn" L6 f fd)(zwx:A2 P w K mg base "is_turn" 2 ["thing"] (ae3 U4 (ak3 K)))(zmz:Z1 K mg "NoTurn" zzz):q9 P w K mg base (X2 P w) 3 f fd ["thing"] (E8 K zzz):=by
 refine F.okx aq9 (fun vs H Q E h=> ?_) (fun cdv A outer s H vs Q E hr h=> ?_)
 · obtain ⟨v,rfl,no,k⟩:=h;rfl
 · obtain ⟨v,rfl,no,k⟩:=h;have zqy:A1 2 _:=hr.mono (by decide);refine ⟨_,@i5 _ _ _ (@A0 _ _ _ _ _ _ _ _ (@C1 _ _ _ _ (@B4 _ _ _ (@l9 _ _ _ _ _ _ _ _ _ _ zwx zqy (@c6 _ _ _ _ _ (pv 0) (@c7 _) (by rfl)) (by rfl) (by decide) (by rfl) (by rfl)) (by intro _;rfl))) (@i5 _ _ _ (@am8 _ _ _ _ _ _ _ _ _ ah3 rfl zmz (@O1 _ _ _ _) (by rfl) (by rfl) (by decide))) (@o8 _)),?_⟩;refine ⟨_,rfl,.inr ⟨v,rfl,no,fun H' s=>⟨false,rfl,?_⟩⟩⟩;exact B3 (k H' s)
theorem bb6:r6 ["p"] ["p"] (m6 O8):=by rfl'
theorem aw8 {f:Addr}{fd:FuncData}(F:B6 K "rounds_of" "rounds_of" O8 f fd)(zu:N2 P w K mg base "must_be_turn" 3 ["thing"] (fun vs H Q E=>ah8 vs H Q E\/(E8 K zzz) vs H Q E)):q9 P w K mg base (X2 P w) 4 f fd ["p"] (E8 K zzz):=by
 refine F.okx bb6 (fun vs H Q E h=> ?_) (fun cdv A outer s H vs Q E hr h=> ?_)
 · obtain ⟨v,rfl,no,k⟩:=h;rfl
 · obtain ⟨v,rfl,no,k⟩:=h;have zmx:A1 3 _:=hr.mono (by decide);refine ⟨_,@i4 _ _ _ _ _ (@C4 _ _ _ _ (@ar8 _ _ _ _ _ _ _ _ _ _ _ zu zmx (@ah4 _ _ _ _ _ _ _ _ _ _ _ _ _ _ _ _ fun _ _ _ h=>h) (@c6 _ _ _ _ _ (pv 0) (@c7 _) (by rfl)) (by rfl) (by decide) (by rfl) (by rfl)) (by rfl)) (@ag2 _ _),?_⟩;exact ⟨_,rfl,.inr ⟨v,rfl,no,k⟩⟩
end
end My
namespace My
open PySem L2 Mth
section
variable {P:Program} {w:World} {K:PySem.W.Frag} {mg:Str->Option Value} {base:Heap} {zxy zzz zwz zzy zyz zyx zyy zxx zx zxz zw:Addr}
inductive T4 (H:Hp):Nat->V->Prop
 |non {n:Nat}:T4 H n .non
 |bl {n:Nat} (b:Bool):T4 H n (.bl b)
 |int {n:Nat} (i:Int):T4 H n (.int i)
 |str {n:Nat} (x:Str):T4 H n (.str x)
 |tup {n:Nat} {a:Addr} {xs:List V} (e:H a=some (.tup xs)):T4 H n (.ref a)
 |dic {n:Nat} {a:Addr} {kvs:List (A7×V)} (e:H a=some (.dK kvs)):T4 H n (.ref a)
 |lst {n:Nat} {a:Addr} {xs:List V} (e:H a=some (.lst xs)) (l:xs.length<=1000) (h:∀x∈xs,T4 H n x):T4 H (n+1) (.ref a)
theorem T4.keep {H H':Hp}(s:c9 H H'){n:Nat}{v:V}(h:T4 H n v):T4 H' n v:=by
 induction h with
 |non=>exact .non
 |bl b=>exact .bl b
 |int i=>exact .int i
 |str x=>exact .str x
 |tup e=>exact .tup (s _ _ e)
 |dic e=>exact .dic (s _ _ e)
 |lst e l _ ih=>exact .lst (s _ _ e) l ih
theorem T4.ints {H:Hp}{n:Nat}{a:Addr}{ns:List Int}(e:H a=some (.lst (ns.map V.int)))(l:ns.length<=1000):T4 H (n+1) (.ref a):=
 .lst e (by rw[co8];exact l) fun x hx=>by obtain ⟨i,_,rfl⟩:=cs6.mp hx;exact .int i
inductive CpR (H:Hp):Nat->V->V->Prop
 |same {n:Nat} {v:V} (h:T4 H n v):CpR H n v v
 |lst {n:Nat} {a b:Addr} {xs ys:List V} (e:H a=some (.lst xs)) (e':H b=some (.lst ys)) (ne:a≠b) (len:xs.length=ys.length) (h:∀(j:Nat) x y,xs[j]? =some x->ys[j]? =some y->CpR H n x y):CpR H (n+1) (.ref a) (.ref b)
theorem CpR.keep {H H':Hp}(s:c9 H H'){n:Nat}{v u:V}(h:CpR H n v u):CpR H' n v u:=by
 induction h with
 |same h=>exact .same (h.keep s)
 |lst e e' ne len _ ih=>exact .lst (s _ _ e) (s _ _ e') ne len ih
theorem br5 {H:Hp}:∀{xs ys:List V} {ds:List PyData},R6 H xs ds->xs.length=ys.length->(∀(j:Nat) x y d,xs[j]? =some x->ys[j]? =some y->Da H x d->Da H y d)->R6 H ys ds
 |[],[],_,.nil,_,_=> .nil
 |x::xs,y::ys,_,.cons h hs,l,f=> .cons (f 0 x y _ rfl rfl h) (br5 hs (by simpa using l) fun j a b d ea eb=>f (j+1) a b d ea eb)
theorem CpR.da {H:Hp}{n:Nat}{v u:V}(h:CpR H n v u):∀{d:PyData},Da H v d->Da H u d:=by
 induction h with
 |same h=>exact fun x=>x
 |lst e e' ne len _ ih=>
  intro d hd
  cases hd with
  |lst e2 h2=>
   rw[e] at e2;cases e2;exact .lst e' (br5 h2 len fun j x y d ex ey hx=>ih j x y ex ey hx)
  |tup e2=>rw[e] at e2;cases e2
  |dic e2=>rw[e] at e2;cases e2
theorem CpR.noT {H:Hp}{n:Nat}{v u:V}(h:CpR H n v u)(no:E7 K H v):E7 K H u:=by
 cases h with
 |same h=>exact no
 |lst e e' ne len h=>
  rename_i m a b xs ys
  rcases no with ⟨t,ty,kt⟩|⟨a2,xs2,ea,e2,el,no⟩
  · have kl:=D2 K "list"
    cases ty with
    |lst e2=>rw[kl] at kt;cases kt
    |frz e2=>rw[e] at e2;cases e2
    |tup e2=>rw[e] at e2;cases e2
    |dK e2=>rw[e] at e2;cases e2
    |dT e2=>rw[e] at e2;cases e2
    |ins e2 _ _ _ _ _=>rw[e] at e2;cases e2
  · cases ea;rw[e] at e2;cases e2
    have at_:∀(j:Nat) y,ys[j]? =some y->∃x,xs[j]? =some x/\CpR H m x y:=fun j y ey=>by
      have jl:j < xs.length:=by rw[len];exact (cp0.mp ey).1
      exact ⟨_,cp1 jl,h j _ y (cp1 jl) ey⟩
    refine .inr ⟨b,ys,rfl,e',fun y hy=> ?_,fun p ep lp=> ?_⟩
    · obtain ⟨j,ej⟩:=ct6 hy;obtain ⟨x,ex,c⟩:=at_ j y ej
      cases c with
      |same c=>exact el _ (cp3 ex)
      |lst c1 c2 _ _ _=>exact .inr ⟨_,false,false,.lst c2,ah5 K,af7 K,rfl⟩
    · have:xs=ys:=by
        refine cu6 fun j=> ?_
        cases ey:ys[j]? with
        |none=>
         rw[List.getElem?_eq_none_iff] at ey ⊢;omega
        |some y=>
         obtain ⟨x,ex,c⟩:=at_ j y ey;rw[ep,cq4] at ey;obtain ⟨i,_,rfl⟩:=db0.mp ey
         cases c with
         |same c=>exact ex
      exact no p (this.trans ep) lp
def ai0 (n:Nat):Sp:=fun vs H Q _=>∃v,vs=[v]/\T4 H n v/\∀u H',c9 H H'->CpR H' n v u->Q u H'
theorem al6:r6 ["thing"] ["thing"] (m6 X7):=by rfl'
theorem aa8:(["one"]:List Str).Nodup:=by decide+kernel
theorem be8 {f:Addr}{fd:FuncData}(F:B6 K "_law_copy" "_law_copy" X7 f fd)(B:Bl mg):q9 P w K mg base C3 1 f fd ["thing"] (ai0 0):=by
 refine F.ok al6 (fun vs H Q E h=> ?_) (fun cdv A outer s H vs Q E hr h=> ?_)
 · obtain ⟨v,rfl,c,q⟩:=h;rfl
 · obtain ⟨v,rfl,c,q⟩:=h;refine ⟨_,@i4 _ _ _ _ _ (@A0 _ _ _ _ _ _ _ _ (@B4 _ _ _ (@K9 _ _ _ _ _ _ B.isi (@c6 _ _ _ _ _ (pv 0) (@c6 _ _ _ _ _ (@J0 _ _ B.list (by rfl)) (@c7 _) (by rfl)) (by rfl)) (by rfl) (by rfl) (by rfl)) (by intro _;rfl)) (@i5 _ _ _ (@m7 _ _ _ _ (@D5 _ _ _ _ _ _ _ _ _ _ _ (["one"]) (1) ([]) rfl .of (@A8 _ _ _ _ (pv 0)) (fun _ _ _ _ _=>@v0 _ _ (0) _ aa8 rfl (Or.inl rfl) (by trivial)) (fun _ _ _ _ _=>(@C7 _)) (fun _ _ _ _ _=>(@bv7 _ _)) (by intro _;rfl)))) (@o8 _)) (@i5 _ _ _ (@m7 _ _ _ _ (pv 0))),?_⟩;have fin:=q v H (c9.refl H) (.same c)
   cases c with
   |non=>exact ⟨_,rfl,_,"list",_,false,rfl,.non,Q2 K,false,rfl,A5 ⟨_,rfl,fin⟩⟩
   |bl b=>exact ⟨_,rfl,_,"list",_,false,rfl,.bl b,W3 K,false,rfl,A5 ⟨_,rfl,fin⟩⟩
   |int i=>exact ⟨_,rfl,_,"list",_,false,rfl,.int i,Z2 K,false,rfl,A5 ⟨_,rfl,fin⟩⟩
   |str x=>exact ⟨_,rfl,_,"list",_,false,rfl,.str x,N3 K,false,rfl,A5 ⟨_,rfl,fin⟩⟩
   |tup e=>exact ⟨_,rfl,_,"list",_,false,rfl,.tup e,L5 K,false,rfl,A5 ⟨_,rfl,fin⟩⟩
   |dic e=>exact ⟨_,rfl,_,"list",_,false,rfl,.dK e,Q3 K,false,rfl,A5 ⟨_,rfl,fin⟩⟩
theorem ai1 {d k:Nat}{f:Addr}{fd:FuncData}(F:B6 K "_law_copy" "_law_copy" X7 f fd)(B:Bl mg)(ztz:A2 P w K mg base "_law_copy" (k+1) ["thing"] (ai0 d)):q9 P w K mg base C3 (k+1+1) f fd ["thing"] (ai0 (d+1)):=by
 refine F.ok al6 (fun vs H Q E h=> ?_) (fun cdv A outer s H vs Q E hr h=> ?_)
 · obtain ⟨v,rfl,c,q⟩:=h;rfl
 · obtain ⟨v,rfl,c,q⟩:=h;have zqz:A1 (k+1) _:=hr.mono (by omega);refine ⟨_,@i4 _ _ _ _ _ (@A0 _ _ _ _ _ _ _ _ (@B4 _ _ _ (@K9 _ _ _ _ _ _ B.isi (@c6 _ _ _ _ _ (pv 0) (@c6 _ _ _ _ _ (@J0 _ _ B.list (by rfl)) (@c7 _) (by rfl)) (by rfl)) (by rfl) (by rfl) (by rfl)) (by intro _;rfl)) (@i5 _ _ _ (@m7 _ _ _ _ (@D5 _ _ _ _ _ _ _ _ _ _ _ (["one"]) (1) ([]) rfl .of (@A8 _ _ _ _ (pv 0)) (fun _ _ _ _ _=>@v0 _ _ (0) _ aa8 rfl (Or.inl rfl) (by trivial)) (fun _ _ _ _ _=>(@C7 _)) (fun _ _ _ _ _=>(@l9 _ _ _ _ _ _ _ _ _ _ ztz zqz (@c6 _ _ _ _ _ (pv 0) (@c7 _) (by rfl)) (by rfl) (by decide) (by rfl) (by rfl))) (by intro _;rfl)))) (@o8 _)) (@i5 _ _ _ (@m7 _ _ _ _ (pv 0))),?_⟩;have fin:=q v H (c9.refl H) (.same c)
   cases c with
   |non=>exact ⟨_,rfl,_,"list",_,false,rfl,.non,Q2 K,false,rfl,A5 ⟨_,rfl,fin⟩⟩
   |bl b=>exact ⟨_,rfl,_,"list",_,false,rfl,.bl b,W3 K,false,rfl,A5 ⟨_,rfl,fin⟩⟩
   |int i=>exact ⟨_,rfl,_,"list",_,false,rfl,.int i,Z2 K,false,rfl,A5 ⟨_,rfl,fin⟩⟩
   |str x=>exact ⟨_,rfl,_,"list",_,false,rfl,.str x,N3 K,false,rfl,A5 ⟨_,rfl,fin⟩⟩
   |tup e=>exact ⟨_,rfl,_,"list",_,false,rfl,.tup e,L5 K,false,rfl,A5 ⟨_,rfl,fin⟩⟩
   |dic e=>exact ⟨_,rfl,_,"list",_,false,rfl,.dK e,Q3 K,false,rfl,A5 ⟨_,rfl,fin⟩⟩
   |lst e l h=>
    rename_i a xs;refine ⟨_,rfl,_,"list",_,true,rfl,.lst e,D2 K "list",true,rfl,B3 ?_⟩;refine ⟨_,rfl,a,rfl,⟨_,i8.of e⟩,G3 (K:=K) (a:=a) (xs:=xs) (fun j ys σ H2=>∃v:Option V,σ=[v]/\c9 H H2/\ys.length=j/\∀(i:Nat) x y,xs[i]? =some x->ys[i]? =some y->CpR H2 d x y) ⟨none,rfl,c9.refl H,rfl,fun i x y _ ey=>by simp at ey⟩ (fun j ys σ H2 _ zz=>by obtain ⟨_,_,s,_⟩:=zz;exact i8.of (s _ _ e)) ?_ ?_⟩
    · rintro j x ys σ H2 hj ⟨v,rfl,s2,ly,cp⟩;have jl:j < xs.length:=(cp0.mp hj).1;refine ⟨_,rfl,x,rfl,(h x (cp3 hj)).keep s2,fun u H3 s3 c=>⟨m4 (by omega),_,rfl,s2.trans s3,by rw[co9,ly];rfl,fun i x' y ex ey=> ?_⟩⟩
      rcases Nat.lt_or_ge i ys.length with il|il
      · rw[cs8 il] at ey;exact (cp i x' y ex ey).keep s3
      · have il2:i < (ys++[u]).length:=(cp0.mp ey).1;rw[co9] at il2
        have ei:i=j:=by simp at il2;omega
        subst ei;rw[hj] at ex;cases ex;rw[cs4 il,ly,Nat.sub_self] at ey;cases ey;exact c
    · rintro ys σ H2 ⟨v,rfl,s2,ly,cp⟩ D hD;have e2:=s2 _ _ e;have s3:c9 H2 (e8 H2 D (.lst ys)):=c9.upd_new hD;exact q (.ref D) _ (s2.trans s3) (.lst (s3 _ _ e2) c8 (i9 e2 hD) (by omega) fun i x y ex ey=>(cp i x y ex ey).keep s3)
end
end My
namespace My
open PySem L2 Mth
section
variable {P:Program} {w:World} {K:PySem.W.Frag} {mg:Str->Option Value} {base:Heap} {zxy zzz zwz zzy zyz zyx zyy zxx zx zxz zw:Addr}
def Q7 (H:Hp)(g l:Addr):Hp:=fun a=>if a=g\/a=l then none else H a
theorem N6 {H:Hp}{g l a:Addr}{o:HO}(h:H a=some o)(ng:a≠g)(nl:a≠l):Q7 H g l a=some o:=by
 unfold Q7;rw[if_neg (fun z=>z.elim ng nl)];exact h
theorem av7 {H:Hp}{g l a:Addr}{o:HO}(h:Q7 H g l a=some o):H a=some o/\a≠g/\a≠l:=by
 unfold Q7 at h
 by_cases z:a=g\/a=l
 · rw[if_pos z] at h;cases h
 · rw[if_neg z] at h;exact ⟨h,fun e=>z (.inl e),fun e=>z (.inr e)⟩
theorem ak4 {H H':Hp}{g l:Addr}(k:l7 g H H'):c9 (Q7 H g l) (Q7 H' g l):=fun a o h=>let ⟨e,ng,nl⟩:=av7 h;N6 (k a o e ng) ng nl
theorem br6 (H:Hp)(g l:Addr):c9 (Q7 H g l) H:=fun a o h=>(av7 h).1
theorem bh3 {k:Nat}(hk:200<=k){i:Int}(h1: -10000000000000000000000000000000000000000<=i)(h2:i<=10000000000000000000000000000000000000000):i.natAbs.log2 < k:=by
 by_cases z:i.natAbs=0
 · rw[z,da0];omega
 · refine (cz4 z).mpr (cr2 (m:=2^200) ?_ (Nat.pow_le_pow_right (by decide) hk))
   have e:(2:Nat)^200=1606938044258990275541962092341162602522202993782792835301376:=by decide
   rw[e];omega
def bk3 (i:Int):Prop:= -10000000000000000000000000000000000000000<=i/\i<=10000000000000000000000000000000000000000
def IE (M:Hp)(x:V):Prop:=∃d,Da M x d/\d.showable=true/\d.shown.length<=2000/\d.depth<=3
theorem IE.keep {M M':Hp}{x:V}(h:IE M x)(s:c9 M M'):IE M' x:=let ⟨d,a,r⟩:=h;⟨d,a.keep s,r⟩
theorem bb7 {M:Hp}{i:Int}(h:bk3 i):IE M (.int i):=by
 have lg:i.natAbs.log2 < 1920:=bh3 (by decide) h.1 h.2;refine ⟨_,.int i,by rw[PyData.showable];exact decide_eq_true lg,?_,by rw[PyData.depth];decide⟩;rw[PyData.shown]
 have:(Str.ofString (toString i)).length<=1921:=by
   rw[ofString_length];exact int_text_length_le (k:=1920) (by decide) lg
 exact cq3 this (by decide)
theorem by6 {M:Hp}(b:Bool):IE M (.bl b):=⟨_,.bl b,by rw[PyData.showable],by rw[PyData.shown];cases b<;>decide,by rw[PyData.depth];decide⟩
theorem bb8 {M:Hp}:IE M .non:=⟨_,.non,by rw[PyData.showable],by rw[PyData.shown];decide,by rw[PyData.depth];decide⟩
theorem bb9 {M:Hp}{x:Str}(h:(reprText x).length<=2000):IE M (.str x):=⟨_,.str x,by rw[PyData.showable],by rw[PyData.shown];exact h,by rw[PyData.depth];decide⟩
theorem br7 {M:Hp}{a:Addr}(e:M a=some (.dK [])):IE M (.ref a):=⟨_,.dic e,by decide+kernel,by decide+kernel,by decide+kernel⟩
theorem bc0 {M:Hp}:∀{xs:List V},(∀x∈xs,IE M x)->∃ds,R6 M xs ds/\PyData.showableAll ds=true/\(∀t∈PyData.shownAll ds,t.length<=2000)/\(PyData.shownAll ds).length=xs.length/\PyData.depthAll ds<=3
 |[],_=>⟨[],.nil,by rw[PyData.showableAll],(fun t h=>by rw[PyData.shownAll] at h;cases h),by rw[PyData.shownAll];rfl,by rw[PyData.depthAll];decide⟩
 |x::xs,h=>by
  obtain ⟨ds,h1,h2,h3,h4,h5⟩:=bc0 fun y hy=>h y (cp6 _ hy)
  obtain ⟨d,g1,g2,g3,g4⟩:=h x cp7;refine ⟨d::ds,.cons g1 h1,by rw[PyData.showableAll,g2,h2];rfl,fun t ht=> ?_,by rw[PyData.shownAll,cp9,cp9,h4],by rw[PyData.depthAll];omega⟩;rw[PyData.shownAll] at ht
  rcases cq5.mp ht with z|z
  · rw[z];exact g3
  · exact h3 t z
def aa9 (M:Hp)(v:V):Prop:=∃d,Da M v d/\d.showable=true/\d.shown.length<=700000/\d.depth<=4
theorem aa9.keep {M M':Hp}{x:V}(h:aa9 M x)(s:c9 M M'):aa9 M' x:=let ⟨d,a,r⟩:=h;⟨d,a.keep s,r⟩
theorem aa9.of {M:Hp}{x:V}(h:IE M x):aa9 M x:=let ⟨d,a,b,c,e⟩:=h;⟨d,a,b,by omega,by omega⟩
theorem bk4 {M:Hp}{a:Addr}{xs:List V}(h:M a=some (.lst xs))(hx:∀x∈xs,IE M x)(l:xs.length<=300):aa9 M (.ref a):=by
 obtain ⟨ds,h1,h2,h3,h4,h5⟩:=bc0 hx;refine ⟨.list ds,.lst h h1,by rw[PyData.showable];exact h2,?_,by rw[PyData.depth];omega⟩;rw[PyData.shown];refine cq3 (al3 h3) ?_;rw[h4];have:=cy8 (2000+2) l;omega
theorem bw5 {H:Hp}{a:Addr}{ns:List Int}(h:H a=some (.lst (ns.map V.int)))(no:ns.length<=40->¬D8 ns):E7 K H (.ref a):=
 .inr ⟨a,_,rfl,h,fun x hx=>by obtain ⟨i,_,rfl⟩:=cs6.mp hx;exact .inl ⟨i,rfl⟩,fun p e l=>by rw[V2 e] at no;exact no l⟩
theorem cc5 {H:Hp}{a:Addr}{xs:List V}{y:V}(h:H a=some (.lst xs))(el:∀x∈xs,(∃i:Int,x= .int i)\/W7 K H x)(hy:y∈xs)(ny:∀i:Int,y= .int i->i < 0\/(xs.length:Int)<=i):E7 K H (.ref a):=
 .inr ⟨a,xs,rfl,h,el,fun p e l t=>by
   rw[e] at hy ny;obtain ⟨i,hi,rfl⟩:=cs6.mp hy;have h1:=t.lo i hi;have h2:=t.hi i hi
   rcases ny i rfl with z|z
   · omega
   · rw[co8] at z;omega⟩
theorem ch0 {H:Hp}(b:Bool):W7 K H (.bl b):=⟨_,true,true,.bl b,az6 K,D2 K "bool",rfl⟩
theorem cc6 {H:Hp}:W7 K H .non:=⟨_,false,false,.non,ba6 K,aw6 K,rfl⟩
theorem cc7 {H:Hp}(x:Str):W7 K H (.str x):=⟨_,false,false,.str x,be7 K,ba7 K,rfl⟩
theorem cc8 {H:Hp}{a:Addr}{xs:List V}(h:H a=some (.lst xs)):W7 K H (.ref a):=⟨_,false,false,.lst h,ah5 K,af7 K,rfl⟩
end
end My
namespace PySem
namespace F
theorem by7:typeLookup (.type "enumerate") "__getattr__"=pure none:=by rw[typeLookup_type,builtinLookup_eq_fast];kernel_rfl
theorem ch1:typeLookup (.type "enumerate") "keys"=pure none:=by rw[typeLookup_type,builtinLookup_eq_fast];kernel_rfl
theorem bh4:entryFor table "enumerate.__getattribute__"=some Builtin.«object.__getattribute__»:=
 entryFor_alias (id':="object.__getattribute__") (by kernel_rfl) (by decide+kernel) (by decide+kernel) (by kernel_rfl)
theorem cd6:entryFor table "dict.update.loop"=some Builtin.«dict.update.loop»:=entryFor_of_tree (by kernel_rfl)
theorem cd7:plainId "dict.update.loop"=true:=by decide+kernel
end F
theorem aw9 (a:Addr)(fs:Array Value)(u:Tok):
   Meets (Builtin.«object.__getattribute__» ⟨[.ref a,.str "keys" u],[]⟩) (fun A R s=>s.heap.get? a=some {cls:= .type "enumerate",dict:=none,data:= .fields fs,slots:= #[]}/\raisesAttr (.ref a) "keys" A R s):=
 Meets.of_wp fun prog w A R s hs=>by
   obtain ⟨hp,g,d,tk,os⟩:=s;obtain ⟨hx,hs⟩:=hs;have hT:(⟨hp,g,d,tk,os⟩:Shared).TypeIs (.ref a) "enumerate":=⟨_,hx,rfl⟩;have f1:=F.ch1;unfold Builtin.«object.__getattribute__»
   repeat (any_goals (first|assumption|wp_step))
   exact wpAny_raiseAttrError hs.1 hs.2 (attrMsg_fits (by decide+kernel) (by decide+kernel))
section
variable {prog:Program} {w:World} {A:Around} {E:Value->Shared->Prop} {s:Shared}
theorem bk5 {a:Addr}{fs:Array Value}{Q:Option Value->Shared->Prop}(hx:s.heap.get? a=some {cls:= .type "enumerate",dict:=none,data:= .fields fs,slots:= #[]})(hA:A.handled=none)
   (h:∀h' tk,(∀b ob,s.heap.get? b=some ob->h'.get? b=some ob)->Q none {s with heap:=h',toks:=tk}):
   wpAny (model prog w) A (getAttr? (.ref a) "keys") Q E s:=by
 obtain ⟨hp,g,d,tk,os⟩:=s
 have hT:∀tk',(⟨hp,g,d,tk',os⟩:Shared).TypeIs (.ref a) "enumerate":=fun _=>⟨_,hx,rfl⟩
 have f1:=sub_AttributeError;have f3:=F.slot_enumerate_getattribute.lookup;have f4:=F.slot_enumerate_getattribute.bind (.ref a);have f5:=F.by7;unfold getAttr? getAttrBy? getAttrBy
 repeat (any_goals (first|assumption|exact hT _|((with_reducible show wpAny _ _ (call (Value.builtin "enumerate.__getattribute__") _ _) _ _ _);refine call_meets F.slot_enumerate_getattribute (hT _) F.bh4 (F.args_enumerate_getattribute_2 _ _) (aw9 a fs _) ⟨hx,hA,fun h' tk' e hx'=> ?_⟩)|wp_step))
 obtain ⟨t',u',he⟩:=hx'.there;show wpAny _ _ (getattributeRaised _ _ _ _ _ _ _) _ _ _;unfold getattributeRaised
 repeat (any_goals (first|assumption|wp_step))
 exact h _ _ hx'.keeps
abbrev W0 (h:Heap)(e it:Addr)(i:Int)(old:Value)(a:Addr)(f:Bool):Prop:=
 h.get? e=some {cls:= .type "enumerate",dict:=none,data:= .fields #[rawInt a,.bool f,.ref it,rawInt i,.none,old],slots:= #[]}
theorem bw6 {a:Addr}{o:Obj}{Q:Option Obj->Shared->Prop}(ho:s.heap.get? a=some o)(h:Q (some o) s):wpAny (model prog w) A (loadIfAlive a) Q E s:=by
 have h':Q (s.heap.get? a) s:=by rw[ho];exact h
 exact fun _ _ _=>h'
theorem bc1 {e it l a:Addr}{f:Bool}{oa:Obj}{i:Nat}{items:Array Value}{x old:Value}{Q:Value->Shared->Prop}
   (he:W0 s.heap e it i old a f) (ha:s.heap.get? a=some oa) (hae:a≠e) (hai:a≠it) (hit:s.heap.IsListIter it l i) (hl:s.heap.IsList l items) (hx:items[i]? =some x) (hne:e≠it)
   (hQ:∀h',W0 h' e it ((i:Int)+1) old a true->h'.IsListIter it l (i+1)->
     h'.get? s.heap.objs.size=some {cls:= .type "tuple",data:= .seq #[.int i s.toks,x]}->h'.objs.size=s.heap.objs.size+1->
     (∀b o,b≠e->b≠it->s.heap.get? b=some o->h'.get? b=some o)->Q (.ref s.heap.objs.size) {s with heap:=h',toks:=s.toks+1}):
   wpAny (model prog w) A (Builtin.«enumerate.__next__» ⟨[.ref e],[]⟩) (fun fin s'=>∃v,fin= .done (.ret v)/\Q v s') E s:=by
 obtain ⟨hp,g,d,tk,os⟩:=s;show wpAny _ _ (field (.ref e) 2 >>=_) _ _ _;refine wpAny_bind (wpAny_field he rfl (x:= .ref it) rfl ?_);refine wpAny_bind (wpAny_nextOf_list_item hit hl hx fun h₁ hit₁ hs₁=> ?_)
 replace hs₁:Heap.SameBut it hp h₁:=hs₁
 have he₁:W0 h₁ e it i old a f:=(hs₁.2 e hne).trans he;show wpAny _ _ (field (.ref e) 3 >>=_) _ _ ⟨h₁,g,d,tk,os⟩;refine wpAny_bind (wpAny_field he₁ rfl (x:=rawInt i) rfl ?_);show wpAny _ _ (field (.ref e) 4 >>=_) _ _ ⟨h₁,g,d,tk,os⟩;refine wpAny_bind (wpAny_field he₁ rfl (x:= .none) rfl ?_);show wpAny _ _ (mkInt i >>=_) _ _ ⟨h₁,g,d,tk,os⟩;refine wpAny_bind (wpAny_mkInt ?_);show wpAny _ _ (setField (.ref e) 3 (rawInt ((i:Int)+1)) >>=_) _ _ ⟨h₁,g,d,tk+1,os⟩;refine wpAny_bind (wpAny_setField_rec he₁ (by simp) fun h₂ he₂ hs₂=> ?_)
 replace hs₂:Heap.SameBut e h₁ h₂:=hs₂
 replace he₂:W0 h₂ e it ((i:Int)+1) old a f:=he₂
 show wpAny _ _ (setField (.ref e) 4 .none >>=_) _ _ ⟨h₂,g,d,tk+1,os⟩;refine wpAny_bind (wpAny_setField_rec he₂ (by simp) fun h₃ he₃ hs₃=> ?_)
 replace hs₃:Heap.SameBut e h₂ h₃:=hs₃
 replace he₃:W0 h₃ e it ((i:Int)+1) old a f:=he₃
 show wpAny _ _ (newTuple [.int i tk,x] >>=_) _ _ ⟨h₃,g,d,tk+1,os⟩;refine wpAny_bind (wpAny_newTuple ?_);have he₄:W0 (h₃.push {cls:= .type "tuple",data:= .seq #[.int i tk,x]}) e it ((i:Int)+1) old a f:=Heap.get?_push_of_some _ he₃;generalize hh₄:h₃.push {cls:= .type "tuple",data:= .seq #[.int i tk,x]}=h₄ at he₄
 have hsz:h₃.objs.size=hp.objs.size:=by rw[hs₃.1,hs₂.1,hs₁.1]
 have hel:e < hp.objs.size:=Heap.lt_size he
 have ht₄:h₄.get? hp.objs.size=some {cls:= .type "tuple",data:= .seq #[.int i tk,x]}:=by rw[<-hh₄,<-hsz];exact Heap.get?_push_size _ rfl
 have hz₄:h₄.objs.size=hp.objs.size+1:=by rw[<-hh₄,Heap.size_push,hsz]
 have hk₄:∀b o,b≠e->b≠it->hp.get? b=some o->h₄.get? b=some o:=fun b o hbe hbi hb=>by
   rw[<-hh₄];exact Heap.get?_push_of_some _ (hs₃.extBut b o hbe (hs₂.extBut b o hbe (hs₁.extBut b o hbi hb)))
 have hit₄:h₄.IsListIter it l (i+1):=by
   rw[<-hh₄];obtain ⟨o,ho,r⟩:=(hit₁.extBut hs₂.extBut (Ne.symm hne)).extBut hs₃.extBut (Ne.symm hne);exact ⟨o,Heap.get?_push_of_some _ ho,r⟩
 have ha₄:h₄.get? a=some oa:=hk₄ a oa hae hai ha;show wpAny _ _ (Builtin.SmallTypes.ownedTupleIsFree (.ref e) >>=_) _ _ ⟨h₄,g,d,tk+1,os⟩;rw[hsz];clear hh₄ he₃ hs₃ he₂ hs₂ he₁ hs₁ hit₁ hsz h₃ h₂ h₁;refine wpAny_bind ?_;unfold Builtin.SmallTypes.ownedTupleIsFree;refine wpAny_bind (wpAny_field he₄ rfl (x:=rawInt a) rfl ?_);show wpAny _ _ (loadIfAlive a >>=_) _ _ _;refine wpAny_bind (bw6 ha₄ ?_);show wpAny _ _ (field (.ref e) 1 >>=_) _ _ _;refine wpAny_bind (wpAny_field he₄ rfl (x:= .bool f) rfl ?_)
 cases f with
 |true=>
  refine wpAny_pure ?_;refine wpAny_pure ⟨_,rfl,hQ h₄ he₄ hit₄ ht₄ hz₄ hk₄⟩
 |false=>
  show wpAny _ _ (setField (.ref e) 1 (.bool true) >>=_) _ _ _;refine wpAny_bind (wpAny_setField_rec he₄ (by simp) fun h₅ he₅ hs₅=> ?_)
  replace hs₅:Heap.SameBut e h₄ h₅:=hs₅
  replace he₅:W0 h₅ e it ((i:Int)+1) old a true:=he₅
  refine wpAny_pure ?_;refine wpAny_pure ⟨_,rfl,hQ h₅ he₅ (hit₄.extBut hs₅.extBut (Ne.symm hne)) (hs₅.extBut _ _ (cw4 hel) ht₄) (by rw[hs₅.1,hz₄]) fun b o hbe hbi hb=>hs₅.extBut b o hbe (hk₄ b o hbe hbi hb)⟩
end
end PySem
namespace L2
open PySem PySem.Spec PyProof.Rows
section
variable {prog:Program} {w:World} {A:Around} {E:Value->Shared->Prop} {s:Shared}
def af2 (h:Heap)(e it D:Addr)(i:Nat):Prop:=
 (∃old,IsEnum h e it i old)\/∃old a f oa,W0 h e it i old a f/\h.get? a=some oa/\a≠e/\a≠it/\a≠D
theorem af2.ty {h:Heap}{e it D:Addr}{i:Nat}(x:af2 h e it D i):∃fs,h.get? e=some {cls:= .type "enumerate",dict:=none,data:= .fields fs,slots:= #[]}:=by
 rcases x with ⟨old,h⟩|⟨old,a,f,oa,h,_⟩
 · exact ⟨_,h⟩
 · exact ⟨_,h⟩
theorem af2.keep {h h':Heap}{e it D:Addr}{i:Nat}(x:af2 h e it D i)(hD:D≠e)(k:∀b o,b≠D->h.get? b=some o->h'.get? b=some o):af2 h' e it D i:=by
 rcases x with ⟨old,h⟩|⟨old,a,f,oa,h,ha,h1,h2,h3⟩
 · exact .inl ⟨old,k _ _ hD.symm h⟩
 · exact .inr ⟨old,a,f,oa,k _ _ hD.symm h,k _ _ h3 ha,h1,h2,h3⟩
theorem cc9 {e it l D:Addr}{i:Nat}{items:Array Value}{x:Value}{Q:Option Value->Shared->Prop}
   (st:af2 s.heap e it D i) (hit:s.heap.IsListIter it l i) (hl:s.heap.IsList l items) (hx:items[i]? =some x) (hne:e≠it) (hD:D < s.heap.objs.size)
   (hQ:∀h',af2 h' e it D (i+1)->h'.IsListIter it l (i+1)->
     h'.get? s.heap.objs.size=some {cls:= .type "tuple",data:= .seq #[.int i s.toks,x]}->
     (∀b o,b≠e->b≠it->s.heap.get? b=some o->h'.get? b=some o)->Q (some (.ref s.heap.objs.size)) {s with heap:=h',toks:=s.toks+1}):
   wpAny (model prog w) A (pyNext (.ref e)) Q E s:=by
 have ei:(((i+1:Nat)):Int)=(i:Int)+1:=by push_cast;rfl
 have hil:it < s.heap.objs.size:=by obtain ⟨_,x,_⟩:=hit;exact Heap.lt_size x
 have hel:e < s.heap.objs.size:=by obtain ⟨_,y⟩:=st.ty;exact Heap.lt_size y
 rcases st with ⟨old,he⟩|⟨old,a,f,oa,he,ha,h1,h2,h3⟩
 · exact wpAny_pyNext_enum_item he hit hl hx hne fun h' ho hit' ht hz hk=>hQ h' (.inr ⟨x,s.heap.objs.size,false,_,by rw[ei];exact ho,ht,cw4 hel,cw4 hil,cw4 hD⟩) hit' ht hk
 · have hT:s.TypeIs (.ref e) "enumerate":=⟨_,he,rfl⟩;unfold pyNext
   exact wpAny_bind (wpAny_attempt (wpAny_callSpecial?_slot (name:=Str.ofString "__next__") hT PySem.F.slot_enumerate_next
     (wpAny_call_entry PySem.F.slot_enumerate_next hT PySem.F.entry_enumerate_next
       (bc1 he ha h1 h2 hit hl hx hne fun h' ho hit' ht hz hk=>wpAny_pure (hQ h' (.inr ⟨old,a,true,oa,by rw[ei];exact ho,hk a oa h1 h2 ha,h1,h2,h3⟩) hit' ht hk)) (PySem.F.args_enumerate_next_1 _))))
theorem ch2 {e it l D:Addr}{i:Nat}{items:Array Value}{Q:Option Value->Shared->Prop}(hh:A.handled=none)
   (st:af2 s.heap e it D i) (hit:s.heap.IsListIter it l i) (hl:s.heap.IsList l items) (hx:items[i]? =none)
   (hQ:∀h',Heap.ExtBut it s.heap h'->Q none {s with heap:=h'}):wpAny (model prog w) A (pyNext (.ref e)) Q E s:=by
 rcases st with ⟨old,he⟩|⟨old,a,f,oa,he,ha,h1,h2,h3⟩
 · exact wpAny_pyNext_enum_end hh he hit hl hx hQ
 · have hT:s.TypeIs (.ref e) "enumerate":=⟨_,he,rfl⟩;unfold pyNext
   refine wpAny_bind (wpAny_attempt (wpAny_callSpecial?_slot (name:=Str.ofString "__next__") hT PySem.F.slot_enumerate_next
     (wpAny_call_entry PySem.F.slot_enumerate_next hT PySem.F.entry_enumerate_next ?_ (PySem.F.args_enumerate_next_1 _))))
   show wpAny _ _ (field (.ref e) 2 >>=_) _ _ _;refine wpAny_bind (wpAny_field he rfl (x:= .ref it) rfl ?_);refine wpAny_bind (wpAny_nextOf_list_end hh hit hl hx fun h' x he' hx'=> ?_);obtain ⟨o,ho,hc⟩:=hx';refine wpAny_bind (wpAny_isInstance (T:="StopIteration") (b:=true) ⟨o,ho,hc⟩ isSubtype_stop ?_);exact wpAny_pure (hQ _ he')
def N7 (xs:List Value):List (A7×Value):=xs.zipIdx.map fun p=>((Sum.inl (p.2:Int):A7),p.1)
theorem br8 {xs:List Value}{i:Nat}{x:Value}(h:xs[i]? =some x):(N7 xs)[i]? =some ((Sum.inl (i:Int):A7),x):=by
 unfold N7;rw[cq4,List.getElem?_zipIdx,h];simp
theorem be9 (xs:List Value):((N7 xs).map (·.1)).Nodup:=by
 unfold N7;rw[cu1]
 have:((fun x:A7×Value=>x.1)∘fun p:Value×Nat=>((Sum.inl (p.2:Int):A7),p.1))=(fun n:Nat=>(Sum.inl (n:Int):A7))∘Prod.snd:=by funext p;rfl
 rw[this,<-cu1,List.zipIdx_map_snd,List.range'_eq_map_range,cu1];refine List.Pairwise.map _ (fun a b hne h=> ?_) List.nodup_range;have h':=Sum.inl.inj h;simp at h';exact hne (Int.ofNat.inj h')
theorem bc2 (xs:List Value):(N7 xs).length=xs.length:=by unfold N7;simp
theorem cd0 {e it l D:Addr}{items:Array Value}{R:Result->Shared->Prop}(hh:A.handled=none)(hne:e≠it)(hle:l≠e)(hli:l≠it)(hDe:D≠e)(hDi:D≠it)(hDl:D≠l)(hn:items.size<=1000):
   ∀(k i:Nat) (s:Shared),items.size - i=k->i<=items.size->af2 s.heap e it D i->s.heap.IsListIter it l i->s.heap.IsList l items->s.heap.DictOf (C0 prog w) D (merged [] ((N7 items.toList).take i))->
    (∀h' tk,h'.DictOf (C0 prog w) D (N7 items.toList)->(∀b o,b≠e->b≠it->b≠D->s.heap.get? b=some o->h'.get? b=some o)->R (.ok (.ret .none)) {s with heap:=h',toks:=tk})->
    codeAny (model prog w) A (.builtin "dict.update.loop" ⟨[.ref D,.ref e,rawInt (i:Int),.none],[]⟩) R s:=by
 intro k
 induction k with
 |zero=>
  intro i s hk hi st hit hl hd hR
  have hin:i=items.size:=by omega
  subst hin;refine codeAny_builtin PySem.F.cd6 ?_;rw[Around.under_plainId PySem.F.cd7 _];show wpAny _ A.in1 (pyNext (.ref e) >>=_) _ _ s;refine wpAny_bind (ch2 (by simp [hh]) st hit hl (by simp) fun h' hx=> ?_);show wpAny _ A.in1 (Builtin.Dict.addKeywords D [] >>=_) _ _ _;refine wpAny_bind (wpAny_pure (wpAny_pure ?_));rw[cv5 (by rw[bc2];simp),merged_nil_of_nodup _ (be9 _)] at hd
  refine hR h' s.toks ?_ fun b o h1 h2 _ q=>hx b o h2 q
  obtain ⟨o,es,ep,ho,r⟩:=hd;exact ⟨o,es,ep,hx D o hDi ho,r⟩
 |succ k ih=>
  intro i s hk hi st hit hl hd hR
  have hlt:i < items.size:=by omega
  have hx:items[i]? =some items[i]:=cv1 hlt
  have hDlt:D < s.heap.objs.size:=by obtain ⟨o,es,ep,ho,r⟩:=hd;exact Heap.lt_size ho
  refine codeAny_builtin PySem.F.cd6 ?_;rw[Around.under_plainId PySem.F.cd7 _];show wpAny _ A.in1 (pyNext (.ref e) >>=_) _ _ s;refine wpAny_bind (cc9 st hit hl hx hne hDlt fun h' st' hit' ht hk'=> ?_)
  have hl':h'.IsList l items:=hl.at fun o q=>hk' l o hle hli q
  have hd':h'.DictOf (C0 prog w) D (merged [] ((N7 items.toList).take i)):=by
    obtain ⟨o,es,ep,ho,r⟩:=hd;exact ⟨o,es,ep,hk' D o hDe hDi ho,r⟩
  refine wpAny_bind (wpAny_holding ?_);refine wpAny_bind (wpAny_tryCatch ?_);unfold Builtin.Dict.pairItems;refine wpAny_bind (wpAny_typeOf (T:="tuple") ⟨_,ht,rfl⟩ ?_);rw[if_pos (by decide)];refine wpAny_bind (wpAny_seqItems ht rfl (wpAny_pure ?_));show wpAny _ _ (holding [.int i s.toks,items[i]] (dictSet D (.int i s.toks) items[i])) _ _ _;refine wpAny_holding ?_
  have hz:(merged [] ((N7 items.toList).take i)).length<=sizeLine:=by
    refine cq3 (merged_length_le _ _) (cq3 (m:=1000) ?_ (by decide));simp;omega
  refine wpAny_dictSet_pairs (hsz:=hz) (k:=(Sum.inl (i:Int):A7)) (ao8 (k:=Sum.inl (i:Int)) ⟨_,rfl⟩) hd' fun h2 hd2 hs2=> ?_
  replace hs2:Heap.SameBut D h' h2:=hs2
  rw[<-merged_take_succ [] (N7 items.toList) i ((Sum.inl (i:Int):A7),items[i]) (br8 (by simpa using hx))] at hd2
  have st2:=st'.keep (h':=h2) hDe fun b o hb q=>(hs2.2 b hb).trans q
  refine wpAny_pure ⟨plainId_quiet PySem.F.cd7 _,?_⟩
  have ei:((i:Int)+1)=((i+1:Nat):Int):=by push_cast;rfl
  show codeAny _ _ (.builtin "dict.update.loop" ⟨[.ref D,.ref e,rawInt ((i:Int)+1),.none],[]⟩) _ _;rw[ei]
  refine ih (i+1) _ (by omega) hlt st2 (hit'.at fun o q=>(hs2.2 it hDi.symm).trans q) (hl'.at fun o q=>(hs2.2 l hDl.symm).trans q) hd2 fun h3 tk hd3 hk3=> ?_
  exact hR h3 tk hd3 fun b o h1 h2' h3' q=>hk3 b o h1 h2' h3' ((hs2.2 b h3').trans (hk' b o h1 h2' q))
theorem as7 {e it l:Addr}{items:Array Value}{Q:Value->Shared->Prop}(hh:A.handled=none)(hne:e≠it)(hle:l≠e)(hli:l≠it)(he:IsEnum s.heap e it 0 .none)(hit:s.heap.IsListIter it l 0)(hl:s.heap.IsList l items)(hn:items.size<=1000)
   (h:∀h' tk,h'.DictOf (C0 prog w) s.heap.objs.size (N7 items.toList)->(∀b o,b≠e->b≠it->s.heap.get? b=some o->h'.get? b=some o)->Q (.ref s.heap.objs.size) {s with heap:=h',toks:=tk}):
   wpAny (model prog w) A (call (.type "dict") [.ref e]) Q E s:=by
 refine callType_codes (Q₁:=fun obj s₁=>obj= .ref s.heap.objs.size/\s₁={s with heap:=s.heap.push {cls:= .type "dict",data:= .dict #[]}}) PySem.F.kt_called_dict (PySem.F.kt_typeCall_dict_1 _) PySem.F.entry_dict_init (kt_code_dict_new _ ⟨rfl,rfl⟩) ?_;rintro obj s₁ ⟨rfl,rfl⟩;have hnew:(s.heap.push {cls:= .type "dict",data:= .dict #[]}).DictOf (C0 prog w) s.heap.objs.size []:=Heap.DictOf.new s.heap;refine ⟨hnew.typeIs,PySem.F.args_dict_init_2 _ _,?_⟩;have hes:e < s.heap.objs.size:=Heap.lt_size he
 have his:it < s.heap.objs.size:=by obtain ⟨_,x,_⟩:=hit;exact Heap.lt_size x
 have hls:l < s.heap.objs.size:=by obtain ⟨_,x,_⟩:=hl;exact Heap.lt_size x
 have he':IsEnum (s.heap.push {cls:= .type "dict",data:= .dict #[]}) e it 0 .none:=Heap.get?_push_of_some _ he;unfold Builtin.«dict.__init__»;refine wpAny_bind ?_;unfold Builtin.Dict.selfAndRest;refine wpAny_bind (wpAny_notOrdered_dict hnew.typeIs ?_);show wpAny _ _ (pure (s.heap.objs.size,[Value.ref e])) _ _ _;refine wpAny_pure ?_;show wpAny _ _ (Builtin.Dict.updateFrom "dict.__init__" s.heap.objs.size (.ref e) [] .none) _ _ _;unfold Builtin.Dict.updateFrom;refine wpAny_bind (wpAny_typeOf (T:="enumerate") ⟨_,he',rfl⟩ ?_);rw[if_pos (by decide)];refine wpAny_bind (bk5 (A:=A.in1.in1) he' (by simpa using hh) fun h2 tk2 hk2=> ?_);rw[if_pos (show (none:Option Value).isNone=true from rfl)];refine wpAny_bind (wpAny_rule ?_);have he2:IsEnum h2 e it 0 .none:=hk2 _ _ he';refine wpAny_bind (wpAny_pyIter_enum he2 ?_);refine wpAny_pure ⟨plainId_quiet PySem.F.cd7 _,?_⟩
 have kk:∀b o,s.heap.get? b=some o->h2.get? b=some o:=fun b o q=>hk2 b o (Heap.get?_push_of_some _ q)
 refine cd0 (l:=l) (items:=items) (by simp [hh]) hne hle hli (cw4 hes) (cw4 his) (cw4 hls) hn items.size 0 _ (by simp) (cs1 _) (.inl ⟨_,he2⟩) (hit.at fun o q=>kk it o q) (hl.at fun o q=>kk l o q) ?_ fun h3 tk3 hd3 hk3=> ?_
 · obtain ⟨o,es,ep,ho,r⟩:=hnew;exact ⟨o,es,ep,hk2 _ _ ho,r⟩
 · exact ⟨rfl,h h3 tk3 hd3 fun b o h1 h2 q=>hk3 b o h1 h2 (cr9 (Heap.lt_size q)) (kk b o q)⟩
end
end L2
namespace L2
open PySem PySem.Spec PyProof.Rows
def W8 (xs:List V):List (A7×V):=xs.zipIdx.map fun p=>((Sum.inl (p.2:Int):A7),p.1)
theorem bf0 (xs:List V):(W8 xs).length=xs.length:=by unfold W8;simp
theorem bw7 {xs:List V}{us:List Value}(r:o5 xs us):KV (W8 xs) (N7 us):=by
 have:∀(n:Nat),KV ((xs.zipIdx n).map fun p=>((Sum.inl (p.2:Int):A7),p.1)) ((us.zipIdx n).map fun p=>((Sum.inl (p.2:Int):A7),p.1)):=by
   induction r with
   |nil=>exact fun _=> .nil
   |cons h _ ih=>exact fun n=> .cons ⟨rfl,h⟩ (ih (n+1))
 exact this 0
theorem bk6:bootBuiltins "dict"=some (.type "dict"):=by decide+kernel
section
variable {X:Cx} {l:Expr} {ta:TA} {p p2 pos pos2:Pos}
def ch3 (K:PySem.W.Frag)(ta:TA):TE:=fun σ H Q=>ta σ H fun vs H1=>∃a xs,vs=[.ref a]/\i8 K H1 a xs/\xs.length<=1000/\∀D,H1 D=none->Q (.ref D) (e8 H1 D (.dK (W8 xs)))
theorem bw8 (hc:X.calm=true)(hm:X.mg "dict"=none)(hm2:X.mg "enumerate"=none)(ha:PA X [l] ta)(hg:Gl X "dict":=by rfl)(hg2:Gl X "enumerate":=by rfl)(hs:starEach [l] X.env=[(false,eval l X.env)]:=by rfl)
   (hs2:starEach [.Call (.Name "enumerate" p2) [l] [] pos2] X.env=(false,eval (.Call (.Name "enumerate" p2) [l] [] pos2) X.env)::starEach [] X.env:=by rfl):
   PE X (.Call (.Name "dict" p) [.Call (.Name "enumerate" p2) [l] [] pos2] [] pos) (ch3 X.K ta):=by
 intro pins s σ H Q I h;refine Call_ (S0 I hg hm bk6 (PyProof.Rows.callWith_type1 ?_ hs2 rfl));rw[hs2];show wpAny _ _ (spliced ((false,eval (.Call (.Name "enumerate" p2) [l] [] pos2) X.env)::backTo pos (starEach [] X.env))) _ _ s;refine Calls.spliced_cons ?_;refine Call_ (S0 I hg2 hm2 av1 (PyProof.Rows.callWith_type1 (y9 (ha pos2 pins s σ H _ I h) fun us s1 ⟨vs,H1,I1,r1,q1⟩=> ?_) hs rfl));obtain ⟨a,xs,e,hq,hz,q⟩:=q1;subst e;obtain ⟨u,rfl,rx⟩:=M2 r1;cases rx;obtain ⟨its,rv,pl,hz2⟩:=I1.list hq
 refine call_enumerate_list pl.isList fun h' he hit hz' hk=> ?_
 have nil:starEach ([]:List Expr) X.env=[]:=rfl;rw[nil];show wpAny _ _ (pure []) _ _ _;refine wpAny_pure ?_
 have al:a < s1.heap.objs.size:=by obtain ⟨_,x,_⟩:=pl.isList;exact Heap.lt_size x
 have hh:X.A.handled=none:=I1.ok.hd hc
 refine as7 (l:=a) (items:=its.toArray) hh (Nat.succ_ne_self _) (cr9 (cz6 al)) (cr9 al) he hit (pl.isList.at fun o x=>hk a o x) (by rw[cp2,<-rv.length];exact hz) fun h3 tk hd hk3=> ?_
 have nw:H1 (s1.heap.objs.size+2)=none:=I1.hok.fresh (by omega);rw[show (Shared.heap ⟨h',s1.gens,s1.drawn,s1.toks,s1.os⟩).objs.size=s1.heap.objs.size+2 from hz'] at hd ⊢;refine ⟨.ref (s1.heap.objs.size+2),_,I1.laid (a:=s1.heap.objs.size+2) (o:= .dK (W8 xs)) (t':=tk) (fun b o x=> ?_) (by omega) ?_,rfl,q _ nw⟩
 · have bl:b < s1.heap.objs.size:=Heap.lt_size x;exact hk3 b o (cr9 (cz6 bl)) (cr9 bl) (hk b o x)
 · have bg:=I1.big;exact bo3 (by rw[bf0];exact hz2) (beq_eq_false_iff_ne.mpr (Ne.symm (cr9 (cr2 bg (Nat.le_add_right _ _))))) (bw7 rv) (by simpa using hd)
end
end L2
namespace L2
open PySem PySem.Spec PyProof.Rows
theorem bc3 (K:PySem.W.Frag):PySem.W.kitOne K (.type "dict") (.type "int")=some false:=G2 K (by decide+kernel) (by decide+kernel) (by decide+kernel)
theorem ax0 (K:PySem.W.Frag):PySem.W.kitOne K (.type "dict") (.type "bool")=some false:=G2 K (by decide+kernel) (by decide+kernel) (by decide+kernel)
section
variable {X:Cx} {p pos:Pos} {e:Expr} {t:TA}
def by8:List V->Hp->VK->Prop:=fun xs H Q=>∃a d,xs=[.ref a]/\DaS H (.ref a) d/\d.hasDict=false/\Q (.str d.shown) H
theorem br9 (hu:X.A.units+16 < cLine)(hg:X.A.guards=some []):G8 X (.type "str") by8:=by
 intro pins s σ H xs us Q I r h;obtain ⟨a,d,rfl,⟨hs,sh,le,dp⟩,nd,q⟩:=h;obtain ⟨u,rfl,ru⟩:=M2 r;cases ru;obtain ⟨as,rd⟩:=(hs.rd I rfl).reads;exact str_of_reads rd sh (fun h=>by rw[nd] at h;cases h) hg (by omega) (fun _ _ y=>y) (fun h' u tk hk=>⟨.str d.shown,H,I.kept (t':=tk) hk,⟨_,rfl⟩,q⟩) le
theorem cd1 (hu:X.A.units+16 < cLine)(hg0:X.A.guards=some [])(hm:X.mg "str"=none)(ha:PA X [e] t)(hg:Gl X "str":=by rfl)(he:starEach [e] X.env=(false,eval e X.env)::starEach [] X.env:=by rfl):
 PE X (.Call (.Name "str" p) [e] [] pos) (S3 by8 t):=N0 (br9 hu hg0) hg hm ah2 ha (by decide) (by decide) he rfl
def enD (ns:List Int):PyData:= .dict (ns.zipIdx.map fun p=>(.int (p.2:Int),.int p.1))
def ShT (H:Hp)(v:V)(t:Str):Prop:=(∃d,DaS H v d/\t=d.shown)\/∃a ns,v= .ref a/\H a=some (.dK (W8 (ns.map V.int)))/\(enD ns).showable=true/\(enD ns).shown.length<=sizeLine/\t=(enD ns).shown
def bs0:List V->Hp->VK->Prop:=fun xs H Q=>∃v t,xs=[v]/\ShT H v t/\Q (.str t) H
theorem bh6 {P:Program}{w:World}{h:Heap}:∀{ns:List Int} {n:Nat} {es:List DictEntry} {vs:List (A7×Value)},KV (((ns.map V.int).zipIdx n).map fun p=>((Sum.inl (p.2:Int):A7),p.1)) vs->Pairs (C0 P w) es vs->
   C8 h (es.map (·.key)) (((ns.zipIdx n).map fun p=>(PyData.int (p.2:Int),PyData.int p.1)).map (·.1))/\C8 h (es.map (·.val)) (((ns.zipIdx n).map fun p=>(PyData.int (p.2:Int),PyData.int p.1)).map (·.2))
 |[],n,es,vs,kv,ps=>by
  cases kv;cases ps;exact ⟨.nil,.nil⟩
 |i::ns,n,es,vs,kv,ps=>by
  cases kv with
  |cons r kv=>
   cases ps with
   |cons k1 v1 ps=>
    obtain ⟨e1,e2⟩:=bh6 kv ps;obtain ⟨r1,r2⟩:=r;rw[<-r1] at k1;rw[<-v1] at r2;obtain ⟨t,rfl'⟩:=r2
    rcases C9 (show ac8 (Sum.inl (n:Int)) _=true from k1) with ⟨j,u,a1,a2⟩|⟨y,u,a1,a2⟩
    · have:j=(n:Int):=Sum.inl.inj a1.symm;subst this;refine ⟨.cons ?_ e1,.cons ?_ e2⟩
      · dsimp only
        rw[a2];exact .int _ u
      · dsimp only
        rw[rfl'];exact .int _ t
    · cases a1
theorem ck4 {Y:Cx}{pins:List (Addr×Obj)}{σ:St}{H:Hp}{s:Shared}{a:Addr}{ns:List Int}(I:j9 Y pins σ H s)(e:H a=some (.dK (W8 (ns.map V.int)))):O7 s.heap (.ref a) (enD ns):=by
 obtain ⟨hz,hS,vs,kv,o,es,ep,ho,hx,hd,hk,hp,hn⟩:=I.hok _ _ e;obtain ⟨e1,e2⟩:=bh6 (h:=s.heap) (ns:=ns) (n:=0) kv hp;exact .dic ho hx.1 hd hS e1 e2
theorem bs1 (ns:List Int):(enD ns).depth<=8:=by
 unfold enD;rw[PyData.depth]
 have:∀(l:List (Int×Nat)),PyData.depthKv (l.map fun p=>(PyData.int (p.2:Int),PyData.int p.1))<=1:=by
   intro l
   induction l with
   |nil=>rw[cw0,PyData.depthKv];omega
   |cons x l ih=>rw[cr0,PyData.depthKv,PyData.depth,PyData.depth];omega
 have:=this ns.zipIdx;omega
theorem bk7 (hu:X.A.units+16 < cLine)(hg:X.A.guards=some []):G8 X (.builtin "repr") bs0:=by
 intro pins s σ H xs us Q I r h;obtain ⟨v,t,rfl,⟨d,hd,rfl⟩|⟨a,ns,rfl,ha,sh,le,rfl⟩,q⟩:=h
 · exact bj8 hu hg pins s σ H _ us Q I r ⟨v,d,rfl,hd,q⟩
 · obtain ⟨u,rfl,ru⟩:=M2 r;cases ru;obtain ⟨T,idr,S⟩:=(ck4 I ha).by_ (prog:=X.prog) (w:=X.w) sh le;have dp:=bs1 ns;exact call_repr_slot (by omega) (S.typeIs s fun _ _ y=>y) S.slotRepr (S.call X.A.in1 _ s _ hg (by show X.A.units+1+(enD ns).depth < cLine;omega) (fun _ _ y=>y) fun h' u tk hk=>⟨_,_,rfl,.str _,H,I.kept (t':=tk) hk,⟨_,rfl⟩,q⟩)
theorem bc4 (hu:X.A.units+16 < cLine)(hg0:X.A.guards=some [])(hm:X.mg "repr"=none)(ha:PA X [e] t)(hg:Gl X "repr":=by rfl)(he:starEach [e] X.env=(false,eval e X.env)::starEach [] X.env:=by rfl):
 PE X (.Call (.Name "repr" p) [e] [] pos) (S3 bs0 t):=M3 (bk7 hu hg0) hg hm bj5 ha (by decide) (by decide) he rfl
end
end L2
namespace L2
open PySem PySem.Spec PyProof.Rows
def bh7:V->List V->Hp->VK->Prop:=fun x vs H Q=>∃(l:Addr) (xs:List V) (i:Int) (y:V),x= .ref l/\vs=[.int i,y]/\H l=some (.lst xs)/\0<=i/\i<=(xs.length:Int)/\xs.length < 100000/\Q .non (e8 H l (.lst (xs.take i.toNat++y::xs.drop i.toNat)))
section
variable {X:Cx} {p pos apos:Pos} {e e2 o:Expr} {t:TA} {to:TE}
theorem av8 {xs:List V}{us:List Value}(h:o5 xs us)(k:Nat):o5 (xs.take k) (us.take k)/\o5 (xs.drop k) (us.drop k):=by
 induction h generalizing k with
 |nil=>rw[List.take_nil,List.take_nil,List.drop_nil,List.drop_nil];exact ⟨.nil,.nil⟩
 |cons r h ih=>
  cases k with
  |zero=>exact ⟨.nil,.cons r h⟩
  |succ k=>exact ⟨.cons r (ih k).1,(ih k).2⟩
theorem bs2:MtM X "list.insert" bh7:=by
 intro pins s σ H x vs v us Q I rx rv h;obtain ⟨l,xs,i,y,rfl,rfl,hH,i0,hk,hz,q⟩:=h;cases rx;obtain ⟨u1,u2,rfl,r1,r2⟩:=rv.two;obtain ⟨tk,rfl⟩:=r1;obtain ⟨z,its,n,r,hl,e⟩:=I.lstM hH
 have hf:Builtin.List.listFitsIndex i=true:=by
   unfold Builtin.List.listFitsIndex;rw[cs9];exact ⟨decide_eq_true (by omega),decide_eq_true (by omega)⟩
 have sz:its.toArray.size<=sizeLine:=by rw[cp2];omega
 have nf:¬(!Builtin.List.listFitsIndex i)=true:=by rw[hf];exact cq1
 refine call_meets F.slot_list_insert ⟨_,e,rfl⟩ F.entry_list_insert (F.args_list_insert_3 _ _ _) (AutoSeq1.list_insert_list_int_val_1 l its.toArray n i tk u2 nf sz) ⟨e,?_⟩;refine ⟨.non,_,I.lset (its':=its.take i.toNat++u2::its.drop i.toNat) hH e ?_ ((av8 r i.toNat).1.append (.cons r2 (av8 r i.toNat).2)) ?_,rfl,q⟩
 · show ((its.toArray.extract 0 (if i < 0 then _ else min i.toNat its.toArray.size)).push u2++its.toArray.extract (if i < 0 then _ else min i.toNat its.toArray.size))=_;rw[if_neg (by omega),cp2,cx7 (by omega)]
   apply Array.toList_inj.mp
   simp;exact cv5 (by rw[cq9];exact cq0 _)
 · rw[co9,cp9,cq2,cq9,sizeLine_eq];omega
theorem ai3 (ho:PE X o to)(ha:PA X [e,e2] t)
   (hbase:attributeBase o "insert" X.env (eval o X.env)=eval o X.env:=by rfl)
   (hfew:((backTo pos (starEach [e,e2] X.env)).all (fun x=> !x.1)&&(backToKw pos (keywordEach [] X.env)).all (fun x=>x.1.isSome)
     &&decide ([e,e2].length+([]:List Keyword).length+(if ([]:List Keyword).isEmpty then 0 else 1) < 30))=true:=by rfl)
   (hline:(apos.endLine==pos.line)=true:=by rfl) (hs:starEach [e,e2] X.env=(false,eval e X.env)::starEach [e2] X.env:=by rfl) (hplain:(backTo pos (starEach [e2] X.env)).any (·.1)=false:=by rfl):
   PE X (.Call (.Attribute o "insert" apos) [e,e2] [] pos) (tBM X.K "list" bh7 to t):=
 ao7 PySem.F.plainAttrs_list PySem.F.slot_list_insert PySem.F.type_list_insert bs2 ho ha hbase hfew hline hs hplain
end
end L2
namespace My
open PySem L2 Mth
section
variable {P:Program} {w:World} {K:PySem.W.Frag} {mg:Str->Option Value} {base:Heap}
def Jd (K:PySem.W.Frag)(H:Hp)(v:V)(b:Bool):Prop:=(E7 K H v/\b=false)\/∃(a:Addr) (p:List Int),v= .ref a/\H a=some (.lst (p.map V.int))/\p.length<=40/\D8 p/\b=true
theorem Jd.keep {H H':Hp}{v:V}{b:Bool}(h:Jd K H v b)(s:c9 H H'):Jd K H' v b:=by
 rcases h with ⟨no,e⟩|⟨a,p,e,ha,r⟩
 · exact .inl ⟨no.keep s,e⟩
 · exact .inr ⟨a,p,e,s _ _ ha,r⟩
theorem cd2 {H:Hp}{a:Addr}{xs:List V}(h:H a=some (.lst xs))(el:∀x∈xs,(∃i:Int,x= .int i)\/W7 K H x):∃b,Jd K H (.ref a) b:=by
 by_cases z:∃p:List Int,xs=p.map V.int/\p.length<=40/\D8 p
 · obtain ⟨p,rfl,l,t⟩:=z;exact ⟨true,.inr ⟨a,p,rfl,h,l,t,rfl⟩⟩
 · exact ⟨false,.inl ⟨.inr ⟨a,xs,rfl,h,el,fun p e l t=>z ⟨p,e,l,t⟩⟩,rfl⟩⟩
theorem Jd.view {H:Hp}{v:V}{b:Bool}(h:Jd K H v b):(∃t,K0 K H v t/\PySem.W.kitOne K t (.type "list")=some false/\b=false)\/
   ∃(a:Addr) (xs:List V),v= .ref a/\H a=some (.lst xs)/\(∀x∈xs,(∃i:Int,x= .int i)\/W7 K H x)/\(b=true↔∃p:List Int,xs=p.map V.int/\p.length<=40/\D8 p):=by
 rcases h with ⟨⟨t,ty,kt⟩|⟨a,xs,rfl,ha,el,no⟩,rfl⟩|⟨a,p,rfl,ha,hl,tp,rfl⟩
 · exact .inl ⟨t,ty,kt,rfl⟩
 · exact .inr ⟨a,xs,rfl,ha,el,⟨(fun z=>by cases z),fun ⟨p,e,l,t⟩=>absurd t (no p e l)⟩⟩
 · exact .inr ⟨a,_,rfl,ha,fun x hx=>by obtain ⟨i,_,rfl⟩:=cs6.mp hx;exact .inl ⟨i,rfl⟩,⟨fun _=>⟨p,rfl,hl,tp⟩,fun _=>rfl⟩⟩
theorem bc5 {z:Int}{p:List Int}:inV (.int z) (p.map V.int)=decide (z∈p):=by
 unfold inV;rw[cv2,decide_eq_true_iff,List.any_eq_true];constructor
 · rintro ⟨x,hx,e⟩;obtain ⟨i,hi,rfl⟩:=cs6.mp hx
   have:i=z\/z=i:=by
     first
       |exact .inl (by simpa [Y7] using e)
       |exact .inr (by simpa [Y7] using e)
   rcases this with rfl|rfl<;>exact hi
 · intro hz;exact ⟨.int z,cs6.mpr ⟨z,hz,rfl⟩,by simp [Y7]⟩
def bk8 (K:PySem.W.Frag):Sp:=fun vs H Q _=>∃(v:V) (b:Bool),vs=[v]/\Jd K H v b/\∀H',c9 H H'->Q (.bl b) H'
theorem U7:r6 ["thing","seen_ones","one"] ["thing"] (m6 W5):=by rfl'
theorem as8 {f:Addr}{fd:FuncData}(F:B6 K "_law_is_turn" "_law_is_turn" W5 f fd)(B:Bl mg):q9 P w K mg base C3 1 f fd ["thing"] (bk8 K):=by
 refine F.ok U7 (fun vs H Q E h=> ?_) (fun cdv A outer s H vs Q E hr h=> ?_)
 · obtain ⟨v,b,rfl,J,q⟩:=h;rfl
 · obtain ⟨v,b,rfl,J,q⟩:=h;have hu:=S6 hr;refine ⟨_,@i4 _ _ _ _ _ (@A0 _ _ _ _ _ _ _ _ (@D7 _ _ _ _ _ _ _ (@C1 _ _ _ _ (@B4 _ _ _ (@K9 _ _ _ _ _ _ B.isi (@c6 _ _ _ _ _ (pv 0) (@c6 _ _ _ _ _ (@J0 _ _ B.list (by rfl)) (@c7 _) (by rfl)) (by rfl)) (by rfl) (by rfl) (by rfl)) (by intro _;rfl))) (@K8 _ _ _ _ (@m9 _ _ _ _ _ _ _ _ aa3 (@x9 _ _ _ _ _ B.len (@c6 _ _ _ _ _ (pv 0) (@c7 _) (by rfl)) (by rfl) (by rfl)) (@i7 _ _ _ _) (q0 _)))).pt (@i5 _ _ _ (@m7 _ _ _ _ (@B5 _ _ _ _))) (@o8 _)) (@i4 _ _ _ _ _ (@l8 _ _ (1) _ _ _ _ U7.nd rfl (Or.inl rfl) (@m8 _ _ _ _ (@c7 _)) (by rfl) (by trivial)) (@i4 _ _ _ _ _ (@B7 _ _ _ _ _ _ _ _ PassesOwn.never rfl (@A8 _ _ _ _ (pv 0)) (@v0 _ _ (2) _ U7.nd rfl (Or.inl rfl) (by trivial)) (@i4 _ _ _ _ _ (@A0 _ _ _ _ _ _ _ _ (@D7 _ _ _ _ _ _ _ (@C1 _ _ _ _ (@B4 _ _ _ (@K9 _ _ _ _ _ _ B.isi (@c6 _ _ _ _ _ (pv 2) (@c6 _ _ _ _ _ (@az7 _ _ B.int (by rfl)) (@c7 _) (by rfl)) (by rfl)) (by rfl) (by rfl) (by rfl)) (by intro _;rfl))) (@D7 _ _ _ _ _ _ _ (@B4 _ _ _ (@K9 _ _ _ _ _ _ B.isi (@c6 _ _ _ _ _ (pv 2) (@c6 _ _ _ _ _ (@au8 _ _ B.bool (by rfl)) (@c7 _) (by rfl)) (by rfl)) (by rfl) (by rfl) (by rfl)) (by intro _;rfl)) (@D7 _ _ _ _ _ _ _ (@m9 _ _ _ _ _ _ _ _ ao3 (pv 2) (@i7 _ _ _ _) (q0 _)) (@D7 _ _ _ _ _ _ _ (@m9 _ _ _ _ _ _ _ _ ax2 (pv 2) (@x9 _ _ _ _ _ B.len (@c6 _ _ _ _ _ (pv 0) (@c7 _) (by rfl)) (by rfl) (by rfl)) (q0 _)) (@K8 _ _ _ _ (@m9 _ _ _ _ _ _ _ _ (au2) (pv 2) (pv 1) (by with_unfolding_all rfl))))))).pt (@i5 _ _ _ (@m7 _ _ _ _ (@B5 _ _ _ _))) (@o8 _)) (@i5 _ _ _ (@C4 _ _ _ _ (@M0 _ _ _ _ _ _ _ (pv 1) (@c6 _ _ _ _ _ (pv 2) (@c7 _) (by rfl)) (by rfl) (by rfl) (by rfl) (by rfl) (by rfl)) (by rfl)))) (by intro _;rfl)) (@i5 _ _ _ (@m7 _ _ _ _ (@B5 _ _ _ _))))),?_⟩
   rcases J.view with ⟨t,ty,kt,rfl⟩|⟨a,xs,rfl,ha,el,iff⟩
   · exact ⟨_,rfl,v,"list",t,false,rfl,ty,kt,false,rfl,B3 (q H (c9.refl H))⟩
   have no:∀H',c9 H H'->(¬∃p:List Int,xs=p.map V.int/\p.length<=40/\D8 p)->Q (.bl false) H':=fun H' s n=>by
     cases b with
     |true=>exact absurd (iff.mp rfl) n
     |false=>exact q H' s
   refine ⟨_,rfl,_,"list",_,true,rfl,.lst ha,D2 K "list",true,rfl,?_⟩;refine A5 ⟨_,rfl,a,_,rfl,.inl (i8.of ha),_,_,rfl,rfl,_,rfl,?_⟩;refine G0 (fun h40=> ?_) (fun h40=> ?_)
   · have h40:(40:Int) < (xs.length:Int):=of_decide_eq_true h40
     exact no H (c9.refl H) fun ⟨p,e,l,_⟩=>by rw[e,co8] at h40;omega
   have h40:¬(40:Int) < (xs.length:Int):=fun z=>h40 (decide_eq_true z)
   refine ⟨(show 0<=sizeLine by decide),fun sl nsl=> ?_⟩;have nas:a≠sl:=i9 ha nsl;have s1:c9 H (e8 H sl (.lst [])):=c9.upd_new nsl
   refine ⟨_,rfl,a,rfl,⟨_,i8.of (s1 _ _ ha)⟩,C2 (K:=K) (a:=a) (xs:=xs) (fun i σ H2=>∃(v:Option V) (p:List Int),σ=[some (.ref a),some (.ref sl),v]/\c9 H H2/\xs.take i=p.map V.int/\H2 sl=some (.lst (p.map V.int))/\p.Nodup/\∀x∈p,0<=x/\x < xs.length)
     ⟨none,[],rfl,s1,rfl,c8,cv7,fun x hx=>by simp at hx⟩ (fun i σ H2 _ zz=>by obtain ⟨_,_,_,s2,_⟩:=zz;exact i8.of (s2 a _ ha)) ?_ ?_⟩
   · rintro i y σ H2 hi ⟨v,p,rfl,s2,hp,h2,nd,bd⟩;have ha2:=s2 a _ ha;have hil:i < xs.length:=(cp0.mp hi).1
     rcases el y (cp3 hi) with ⟨z,rfl⟩|odd
     · have tk:∀r:List Int,xs=r.map V.int->r[i]? =some z/\r.take i=p:=fun r e=>by
         constructor
         · rw[e] at hi;obtain ⟨z',hz,ez⟩:=K5 hi;cases ez;exact hz
         · have:(r.take i).map V.int=p.map V.int:=by rw[<-hp,e,cw2]
           exact V2 this
       refine ⟨_,rfl,.int z,"int",_,true,rfl,.int z,D2 K "int",_,rfl,A5 ⟨_,rfl,.int z,"bool",_,false,rfl,.int z,S8 K,_,rfl,A5 ⟨_,rfl,_,_,rfl,rfl,_,rfl,?_⟩⟩⟩;refine G0 (fun hz0=> ?_) (fun hz0=> ?_)
       · have hz0:z < 0:=of_decide_eq_true hz0;exact B3 (no H2 s2 fun ⟨r,e,_,t⟩=>by have:=t.lo z (cp3 (tk r e).1);omega)
       have hz0:¬z < 0:=fun q=>hz0 (decide_eq_true q)
       refine ⟨_,rfl,_,rfl,a,_,rfl,.inl (i8.of ha2),_,_,rfl,rfl,_,rfl,?_⟩;refine G0 (fun hz1=> ?_) (fun hz1=> ?_)
       · have hz1:(xs.length:Int)<=z:=of_decide_eq_true hz1
         exact B3 (no H2 s2 fun ⟨r,e,_,t⟩=>by
           have:=t.hi z (cp3 (tk r e).1);rw[e,co8] at hz1
           omega)
       have hz1:¬(xs.length:Int)<=z:=fun q=>hz1 (decide_eq_true q)
       have lp:p.length<=i:=by
         have:=congrArg cw3 hp;rw[cq2,co8] at this;omega
       refine ⟨_,rfl,_,rfl,sl,_,rfl,.inl (i8.of h2),rfl,?_,_,rfl,?_⟩
       · rw[cu3];intro x hx;obtain ⟨j,_,rfl⟩:=cs6.mp hx;rfl
       show if inV (V.int z) (p.map V.int)=true then _ else _
       rw[bc5];refine G0 (fun hm=> ?_) (fun hm=> ?_)
       · have hm:z∈p:=of_decide_eq_true hm
         refine no H2 s2 fun ⟨r,e,_,t⟩=> ?_
         obtain ⟨e1,e2⟩:=tk r e;rw[<-e2] at hm;obtain ⟨j,hj⟩:=ct4.mp hm
         have hjl:j < i:=by
           have:=(cp0.mp hj).1;rw[cq2] at this;omega
         rw[ct0 hjl] at hj;have jl:=(cp0.mp hj).1;have:=(List.getElem?_inj jl t.nd).mp (hj.trans e1.symm);omega
       · have hm:z∉p:=fun q=>hm (decide_eq_true q)
         refine ⟨_,rfl,.inl ⟨rfl,_,i8.of h2⟩,_,rfl,sl,_,_,rfl,rfl,h2,m4 (by rw[co8];omega),?_⟩;refine ⟨some (.int z),p++[z],rfl,fun b o e=>by rw[i6 (i9 e nsl)];exact s2 b o e,?_,?_,?_,?_⟩
         · rw[o9 hi,hp,cp5];rfl
         · rw[c8,cp5];rfl
         · exact R4 nd hm
         · intro x hx
           rcases cp4.mp hx with q|q
           · exact bd x q
           · have:x=z:=by simpa using q
             omega
     · obtain ⟨t,b1,b2,ty,e1,e2,e3⟩:=odd.keep s2
       have nn:¬∃r:List Int,xs=r.map V.int/\r.length<=40/\D8 r:=fun ⟨r,e,_,t'⟩=>by
         rw[e] at hi;obtain ⟨z',hz,rfl⟩:=K5 hi;obtain ⟨t0,c1,c2,ty0,g1,g2,g3⟩:=odd;cases ty0;rw[D2 K "int"] at g1;rw[S8 K] at g2;cases g1;cases g2;cases g3
       refine ⟨_,rfl,y,"int",t,b1,rfl,ty,e1,_,rfl,?_⟩
       cases b1 with
       |false=>exact B3 (no H2 s2 nn)
       |true=>
        cases b2 with
        |false=>cases e3
        |true=>exact A5 ⟨_,rfl,y,"bool",t,true,rfl,ty,e2,_,rfl,B3 (no H2 s2 nn)⟩
   · rintro σ H2 ⟨v,p,rfl,s2,hp,h2,nd,bd⟩;rw[cr7] at hp
     have lp:xs.length=p.length:=by rw[hp,co8]
     have:b=true:=iff.mpr ⟨p,hp,by omega,nd,fun x hx=>(bd x hx).1,fun x hx=>by have:=(bd x hx).2;omega⟩;rw[this] at q;exact q H2 s2
theorem m5 {H H':Hp}{g:Addr}{c:Nat}(h:x6 H g c)(s:c9 H H'):x6 H' g c:=by
 obtain ⟨x,y,z,e1,e2⟩:=h;exact ⟨x,y,z,s _ _ e1,e2⟩
theorem r9 {H:Hp}{g b:Addr}{c:Nat}(h:x6 H g c)(hb:H b=none):b≠g:=by
 obtain ⟨x,y,z,e1,e2⟩:=h
 exact fun e=>by rw[e,e1] at hb;cases hb
theorem bc6 {H:Hp}{a so:Addr}{o:HO}{c:Nat}(h:x6 H a c)(ne:so≠a):x6 (e8 H so o) a c:=by
 obtain ⟨x,y,z,e1,e2⟩:=h;exact ⟨x,y,z,by rw[i6 ne.symm];exact e1,e2⟩
theorem bc7:∀{ts:List Str} {m:Nat},(∀t∈ts,t.length<=m)->piled ts<=ts.length*(m+2)
 |[],m,_=>by simp [piled]
 |t::ts,m,h=>by
  have:=bc7 (ts:=ts) (m:=m) fun x hx=>h x (cp6 _ hx)
  have:=h t cp7;rw[cp9,da8,piled_cons];omega
theorem Z8 {ts:List Str}{m:Nat}(h:∀t∈ts,t.length<=m):(tupleText ts).length<=4+ts.length*(m+2):=by
 unfold tupleText;rw[strLen_append,strLen_append];have e1:(("(":String):Str).length=1:=rfl
 have e2:(((if ts.length==1 then ",)" else ")":String)):Str).length<=2:=by split<;>decide
 by_cases z:ts=[]
 · subst z;have:(Str.join ", " []).length=0:=rfl;omega
 · have:=join_length_add ts z;have:=bc7 h;omega
theorem av9 {M:Hp}{a:Addr}{ns:List Int}(h:M a=some (.tup (ns.map V.int)))(l:ns.length<=300)(b:∀x∈ns,bk3 x):aa9 M (.ref a):=by
 obtain ⟨ds,h1,h2,h3,h4,h5⟩:=bc0 (M:=M) (xs:=ns.map V.int) fun x hx=>by obtain ⟨i,hi,rfl⟩:=cs6.mp hx;exact bb7 (b i hi)
 refine ⟨.tuple ds,.tup h h1,by rw[PyData.showable];exact h2,?_,by rw[PyData.depth];omega⟩;rw[PyData.shown];refine cq3 (Z8 h3) ?_;rw[h4,co8];have:=cy8 (2000+2) l;omega
theorem ah0 {xs:List V}{i:Int}(h0:0<=i)(h1:i<=(xs.length:Int)):C6 xs none (some i)=xs.take i.toNat:=by
 obtain ⟨k,rfl⟩:=cq8 h0;unfold C6;rw[HT.cn4,HT.cm5,List.drop_zero,Nat.sub_zero,cx7 (by omega)];rfl
theorem Z0 {xs:List V}{i:Int}(h0:0<=i)(h1:i<=(xs.length:Int)):C6 xs (some i) none=xs.drop i.toNat:=by
 obtain ⟨k,rfl⟩:=cq8 h0;unfold C6;rw[HT.cn4,HT.cm5,cx7 (by omega),cv5 (by rw[cq9];omega)];rfl
theorem bs3 {n:Nat}{k:Int}(h0:0<=k)(h1:k < (n:Int)):R1 n k=some k.toNat:=by
 unfold R1;rw[if_pos h0,if_pos h1]
def Sm (x:Str):Prop:=∀c∈x.cps.toList,c < 16^8
theorem ak5 (s:String):Sm (Str.ofString s):=fun c hc=>by
 rw[PyProof.Rows.signs_ofString] at hc;obtain ⟨d,_,rfl⟩:=cs6.mp hc;have h1:d.toNat < 4294967296:=UInt32.toNat_lt d.val
 have h2:(16:Nat)^8=4294967296:=by decide
 omega
theorem bc8 {x y:Str}(hx:Sm x)(hy:Sm y):Sm (x++y):=fun c hc=>by
 have e:(x++y).cps=x.cps++y.cps:=rfl;rw[e,Array.toList_append] at hc;exact (cp4.mp hc).elim (hx c) (hy c)
theorem bh8:∀{ts:List Str} {k:Nat} {acc:Str},Sm acc->(∀t∈ts,Sm t)->Sm (textFrom k acc ts)
 |[],k,acc,h,_=>h
 |t::ts,k,acc,h,hs=>by
  have:textFrom k acc (t::ts)=textFrom (k+1) (acc++(if k > 0 then ", " else "":String)++t) ts:=rfl;rw[this]
  refine bh8 (bc8 (bc8 h (ak5 _)) (hs t cp7)) fun x hx=>hs x (cp6 _ hx)
theorem cd3 {ts:List Str}(hs:∀t∈ts,Sm t):Sm (listText ts):=bc8 (bh8 (ak5 "[") hs) (ak5 "]")
structure Q1 (K:PySem.W.Frag)(M:Hp)(x:V):Prop where
 el:(∃i:Int,x= .int i)\/W7 K M x
 cp:T4 M 1 x
 sh:IE M x
theorem Q1.keep {M M':Hp}{x:V}(h:Q1 K M x)(s:c9 M M'):Q1 K M' x:=⟨h.el.imp id fun z=>z.keep s,h.cp.keep s,h.sh.keep s⟩
theorem ai4 {M:Hp}:∀{ns:List Int},(∀x∈ns,-100<=x/\x<=100)->∃ds,R6 M (ns.map V.int) ds/\PyData.showableAll ds=true/\(∀t∈PyData.shownAll ds,t.length<=8/\Sm t)/\(PyData.shownAll ds).length=ns.length/\PyData.depthAll ds<=1/\ds=ns.map PyData.int
 |[],_=>⟨[],.nil,by rw[PyData.showableAll],(fun t h=>by rw[PyData.shownAll] at h;cases h),by rw[PyData.shownAll];rfl,by rw[PyData.depthAll];omega,rfl⟩
 |x::xs,h=>by
  obtain ⟨ds,h1,h2,h3,h4,h5,h6⟩:=ai4 (M:=M) fun y hy=>h y (cp6 _ hy)
  have hx:=h x cp7
  have lg:x.natAbs.log2 < 7:=by
    by_cases z:x.natAbs=0
    · rw[z,da0];omega
    · exact (cz4 z).mpr (by omega)
  refine ⟨.int x::ds,.cons (.int x) h1,?_,fun t ht=> ?_,by rw[PyData.shownAll,cp9,cp9,h4],by rw[PyData.depthAll,PyData.depth];omega,by rw[h6];rfl⟩
  · rw[PyData.showableAll,PyData.showable,h2,Bool.and_true];exact decide_eq_true (by omega)
  · rw[PyData.shownAll,PyData.shown] at ht
    rcases cq5.mp ht with z|z
    · rw[z];refine ⟨?_,ak5 _⟩;rw[ofString_length];exact int_text_length_le (k:=7) (by decide) lg
    · exact h3 t z
theorem an5 {M:Hp}{a:Addr}{ns:List Int}(h:M a=some (.lst (ns.map V.int)))(l:ns.length<=60)(b:∀x∈ns,-100<=x/\x<=100):∃d,Da M (.ref a) d/\d.showable=true/\d.shown.length<=700/\d.depth<=2/\d.hasDict=false/\Sm d.shown:=by
 obtain ⟨ds,h1,h2,h3,h4,h5,h6⟩:=ai4 (M:=M) b;refine ⟨.list ds,.lst h h1,by rw[PyData.showable];exact h2,?_,by rw[PyData.depth];omega,?_,?_⟩
 · rw[PyData.shown];refine cq3 (al3 (m:=8) fun t ht=>(h3 t ht).1) ?_;rw[h4];omega
 · rw[PyData.hasDict,h6]
   have:∀l:List Int,PyData.hasDictAll (l.map PyData.int)=false:=by
     intro l
     induction l with
     |nil=>rw[cw0,PyData.hasDictAll]
     |cons x l ih=>rw[cr0,PyData.hasDictAll,PyData.hasDict,ih];rfl
   exact this ns
 · rw[PyData.shown]
   exact cd3 fun t ht=>(h3 t ht).2
theorem L7 {M:Hp}{i:Int}(h:bk3 i):Q1 K M (.int i):=⟨.inl ⟨i,rfl⟩,.int i,bb7 h⟩
theorem ax6 {M:Hp}(b:Bool):Q1 K M (.bl b):=⟨.inr (ch0 b),.bl b,by6 b⟩
theorem bs4 {M:Hp}:Q1 K M .non:=⟨.inr cc6,.non,bb8⟩
theorem bs5 {M:Hp}{x:Str}(h:Sm x)(l:x.length<=100):Q1 K M (.str x):=⟨.inr (cc7 x),.str x,bb9 (by have:=StrLaws.reprText_len x h;omega)⟩
theorem bc9 {M:Hp}{a:Addr}{ns:List Int}(h:M a=some (.lst (ns.map V.int)))(l:ns.length<=60)(b:∀x∈ns,-100<=x/\x<=100):Q1 K M (.ref a):=by
 obtain ⟨d,h1,h2,h3,h4,_⟩:=an5 h l b;exact ⟨.inr (cc8 h),T4.ints h (by omega),d,h1,h2,by omega,by omega⟩
theorem ch4 {M:Hp}{a:Addr}{i:Int}(h:M a=some (.tup [V.int i]))(b: -100<=i/\i<=100):Q1 K M (.ref a):=by
 obtain ⟨ds,h1,h2,h3,h4,h5,h6⟩:=ai4 (M:=M) (ns:=[i]) (fun x hx=>by rw[cq7.mp hx];exact b);refine ⟨.inr ⟨_,false,false,.tup h,aw7 K,as2 K,rfl⟩,.tup h,.tuple ds,.tup h h1,by rw[PyData.showable];exact h2,?_,by rw[PyData.depth];omega⟩;rw[PyData.shown];refine cq3 (Z8 (m:=8) fun t ht=>(h3 t ht).1) ?_;rw[h4];simp only[cs2];omega
theorem ch5 {M:Hp}{a:Addr}(h:M a=some (.dK [])):Q1 K M (.ref a):=⟨.inr ⟨_,false,false,.dK h,bc3 K,ax0 K,rfl⟩,.dic h,br7 h⟩
def bk9 (K:PySem.W.Frag):Sp:=fun vs H Q _=>∃(g l:Addr) (c:Nat) (p:List Int) (k:Int),vs=[.ref g,.ref l,.int k]/\x6 H g c/\c<=700000/\H l=some (.lst (p.map V.int))/\l≠g/\(∀x∈p,0<=x/\x < 40)/\p.length<=40/\0<=k/\k < p.length/\
 ∀(v:V) (H':Hp),x6 H' g (c+3)->l7 g H H'->Q1 K (Q7 H' g g) v->Q v H'
theorem X8:r6 ["pool","p","at","one","far","some"] ["pool","p","at"] (m6 ah6):=by rfl'
theorem bl0 {f:Addr}{fd:FuncData}(F:B6 K "_law_odd" "_law_odd" ah6 f fd)(B:Bl mg)(zzx:A2 P w K mg base "_law_take" 1 ["pool","many"] Q0):q9 P w K mg base C3 2 f fd ["pool","p","at"] (bk9 K):=by
 refine F.ok X8 (fun vs H Q E h=> ?_) (fun cdv A outer s H vs Q E hr h=> ?_)
 · obtain ⟨g,l,c,p,k,rfl,P0,hc,hl,lg,pb,l40,k0,k1,q⟩:=h;rfl
 · obtain ⟨g,l,c,p,k,rfl,P0,hc,hl,lg,pb,l40,k0,k1,q⟩:=h;have zy:A1 1 _:=hr.mono (by decide);refine ⟨_,@i4 _ _ _ _ _ (@l8 _ _ (3) _ _ _ _ X8.nd rfl (Or.inl rfl) (@y7 _ _ _ _ _ _ _ o0 (pv 1) (pv 2) (fun _ _=>rfl)) (by rfl) (by trivial)) (@i4 _ _ _ _ _ (@l8 _ _ (4) _ _ _ _ X8.nd rfl (Or.inl rfl) (@l9 _ _ _ _ _ _ _ _ _ _ zzx zy (@c6 _ _ _ _ _ (pv 0) (@c6 _ _ _ _ _ (@m3 _ _ _ _ _ _ _ _ ao1 (@i7 _ _ _ _) (@i7 _ _ _ _)) (@c7 _) (by rfl)) (by rfl)) (by rfl) (by decide) (by rfl) (by rfl)) (by rfl) (by trivial)) (@i4 _ _ _ _ _ (@l8 _ _ (5) _ _ _ _ X8.nd rfl (Or.inl rfl) (@m8 _ _ _ _ (@c6 _ _ _ _ _ (@x9 _ _ _ _ _ B.len (@c6 _ _ _ _ _ (pv 1) (@c7 _) (by rfl)) (by rfl) (by rfl)) (@c6 _ _ _ _ _ (@V0 _ _ _ _ _ _ O4 (@i7 _ _ _ _)) (@c6 _ _ _ _ _ (@m3 _ _ _ _ _ _ _ _ B2 (@x9 _ _ _ _ _ B.len (@c6 _ _ _ _ _ (pv 1) (@c7 _) (by rfl)) (by rfl) (by rfl)) (pv 4)) (@c6 _ _ _ _ _ (@m3 _ _ _ _ _ _ _ _ S1 (@V0 _ _ _ _ _ _ O4 (@i7 _ _ _ _)) (pv 4)) (@c6 _ _ _ _ _ (@B5 _ _ _ _) (@c6 _ _ _ _ _ (@B5 _ _ _ _) (@c6 _ _ _ _ _ (@O0 _ _ _) (@c6 _ _ _ _ _ (@cb4 _ _ _ _ _ B.str (@c6 _ _ _ _ _ (pv 3) (@c7 _) (by rfl)) (by rfl) (by rfl)) (@c6 _ _ _ _ _ (@m8 _ _ _ _ (@c6 _ _ _ _ _ (pv 3) (@c7 _) (by rfl))) (@c6 _ _ _ _ _ (@ao6 _ _ _ _ _ (@c6 _ _ _ _ _ (pv 3) (@c7 _) (by rfl))) (@c6 _ _ _ _ _ (@Y9 _ _) (@c6 _ _ _ _ _ (@O1 _ _ _ _) (@c6 _ _ _ _ _ (@m3 _ _ _ _ _ _ _ _ S1 (@i7 _ _ _ _) (pv 3)) (@c7 _) (by rfl)) (by rfl)) (by rfl)) (by rfl)) (by rfl)) (by rfl)) (by rfl)) (by rfl)) (by rfl)) (by rfl)) (by rfl)) (by rfl)) (by rfl))) (by rfl) (by trivial)) (@i5 _ _ _ (@m7 _ _ _ _ (@y7 _ _ _ _ _ _ _ o0 (@m3 _ _ _ _ _ _ _ _ B8 (pv 5) (@m8 _ _ _ _ (@c6 _ _ _ _ _ (@y7 _ _ _ _ _ _ _ o0 (pv 1) (@l9 _ _ _ _ _ _ _ _ _ _ zzx zy (@c6 _ _ _ _ _ (pv 0) (@c6 _ _ _ _ _ (@x9 _ _ _ _ _ B.len (@c6 _ _ _ _ _ (pv 1) (@c7 _) (by rfl)) (by rfl) (by rfl)) (@c7 _) (by rfl)) (by rfl)) (by rfl) (by decide) (by rfl) (by rfl)) (fun _ _=>rfl)) (@c6 _ _ _ _ _ (@m3 _ _ _ _ _ _ _ _ S2 (@m3 _ _ _ _ _ _ _ _ B2 (pv 3) (@i7 _ _ _ _)) (@x9 _ _ _ _ _ B.len (@c6 _ _ _ _ _ (pv 1) (@c7 _) (by rfl)) (by rfl) (by rfl))) (@c7 _) (by rfl)) (by rfl)))) (@l9 _ _ _ _ _ _ _ _ _ _ zzx zy (@c6 _ _ _ _ _ (pv 0) (@c6 _ _ _ _ _ (@i7 _ _ _ _) (@c7 _) (by rfl)) (by rfl)) (by rfl) (by decide) (by rfl) (by rfl)) (fun _ _=>rfl)))))),?_⟩
   have kn:k.toNat < p.length:=by omega
   obtain ⟨o,eo⟩:∃o,o=p.getD k.toNat 0:=⟨_,rfl⟩
   have ob:0<=o/\o < 40:=by rw[eo,Mth.cn6 kn];exact pb _ (cs0 kn)
   have hat:=Mth.T9 (p:=p) k0 k1;rw[<-eo] at hat;refine ⟨_,rfl,_,rfl,l,_,k,_,rfl,rfl,i8.of hl,hat,?_⟩;refine ⟨_,rfl,_,_,rfl,rfl,⟨by decide,by decide,by decide⟩,g,c,_,rfl,P0,by omega,(show (0:Int) < 10^29 by decide),(show (10:Int)^29<=_ by decide),fun far H1 a0 a1 P1 kb1=> ?_⟩
   replace a1:far < 10^29:=a1
   have e29:(10:Int)^29=100000000000000000000000000000:=by decide
   rw[e29] at a1;have h1:=kb1 _ _ hl lg;have lgo:o.natAbs.log2 < 1920:=bh3 (by decide) (by omega) (by omega);refine ⟨_,rfl,l,_,rfl,.inl (i8.of h1),_,rfl,_,rfl,l,_,rfl,.inl (i8.of h1),_,rfl,_,_,rfl,rfl,_,rfl,_,rfl,_,_,rfl,rfl,_,rfl,_,rfl,lgo,_,rfl,(show 1<=sizeLine by decide),fun l1 n1=> ?_⟩;have s2:c9 H1 (e8 H1 l1 (.lst [V.int o])):=c9.upd_new n1;have g2:(e8 H1 l1 (.lst [V.int o])) l1=some (.lst (([o]:List Int).map V.int)):=c8;have ng1:l1≠g:=r9 P1 n1;have P2:=m5 P1 s2;generalize (e8 H1 l1 (.lst [V.int o]))=H2 at s2 g2 P2 ⊢;refine ⟨_,rfl,(show 1<=sizeLine by decide),fun t1 n2=> ?_⟩;have s3:c9 H2 (e8 H2 t1 (.tup [V.int o])):=c9.upd_new n2;have g3:(e8 H2 t1 (.tup [V.int o])) t1=some (.tup [V.int o]):=c8;have ng2:t1≠g:=r9 P2 n2;have P3:=m5 P2 s3;generalize (e8 H2 t1 (.tup [V.int o]))=H3 at s3 g3 P3 ⊢
   refine fun d1 n3=> ?_
   have s4:c9 H3 (e8 H3 d1 (.dK [])):=c9.upd_new n3;have g4:(e8 H3 d1 (.dK [])) d1=some (.dK []):=c8;have ng3:d1≠g:=r9 P3 n3;have P4:=m5 P3 s4;generalize (e8 H3 d1 (.dK []))=H4 at s4 g4 P4 ⊢;refine ⟨_,rfl,_,_,rfl,rfl,(show 13<=sizeLine by decide),fun so n4=> ?_⟩;obtain ⟨xs,exs⟩:∃xs:List V,xs=[V.int (((p.map V.int).length:Nat):Int),V.int (-1),V.int ((((p.map V.int).length:Nat):Int)+far),V.int (-1 - far),V.bl true,V.bl false,V.non,V.str (Str.ofString (toString o)),V.ref l1,V.ref t1,V.ref d1,V.str (Str.ofString ""),V.int (0 - o)]:=⟨_,rfl⟩;have s5:c9 H4 (e8 H4 so (.lst xs)):=c9.upd_new n4;have g5:(e8 H4 so (.lst xs)) so=some (.lst xs):=c8;have ng4:so≠g:=r9 P4 n4;have P5:=m5 P4 s5;have s15:c9 H1 (e8 H4 so (.lst xs)):=s2.trans (s3.trans (s4.trans s5));have e1:=s5 _ _ (s4 _ _ (s3 _ _ g2));have e2:=s5 _ _ (s4 _ _ g3);have e3:=s5 _ _ g4;show aa2 5 (V.ref so) _ (e8 H4 so (.lst [V.int (((p.map V.int).length:Nat):Int),V.int (-1),V.int ((((p.map V.int).length:Nat):Int)+far),V.int (-1 - far),V.bl true,V.bl false,V.non,V.str (Str.ofString (toString o)),V.ref l1,V.ref t1,V.ref d1,V.str (Str.ofString ""),V.int (0 - o)])) _;rw[<-exs];generalize (e8 H4 so (.lst xs))=H5 at s5 g5 P5 s15 e1 e2 e3 ⊢;have h5:=s15 _ _ h1
   have pl:(0:Int) < (p.length:Int):=by omega
   refine ⟨_,rfl,_,rfl,_,rfl,_,rfl,l,_,rfl,.inl (i8.of h5),g,_,_,rfl,P5,by omega,(by rw[co8];exact pl),(by rw[co8];omega),fun r2 H6 b0 b1 P6 kb6=> ?_⟩;rw[co8] at b1;have h6:=kb6 _ _ h5 lg;refine ⟨l,_,r2,_,rfl,rfl,i8.of h6,Mth.T9 (p:=p) b0 b1,_,rfl,_,_,rfl,rfl,_,rfl,l,_,rfl,.inl (i8.of h6),o+1,((p.length:Nat):Int),rfl,congrArg V.int (by rw[co8]),pl,(show 2<=sizeLine by decide),fun l2 n6=> ?_⟩;have m0:=cw8 (o+1) (show ((p.length:Nat):Int)≠0 by omega);have m1:=cv8 (o+1) pl;obtain ⟨o2,eo2⟩:∃o2,o2=(o+1)%((p.length:Nat):Int):=⟨_,rfl⟩;obtain ⟨o1,eo1⟩:∃o1,o1=p.getD r2.toNat 0:=⟨_,rfl⟩
   have rn:r2.toNat < p.length:=by omega
   have o1b:0<=o1/\o1 < 40:=by rw[eo1,Mth.cn6 rn];exact pb _ (cs0 rn)
   rw[<-eo2] at m0 m1;show ∃_,_;rw[<-eo1];have s7:c9 H6 (e8 H6 l2 (.lst [V.int o1,V.int ((o+1)%((p.length:Nat):Int))])):=c9.upd_new n6
   have g7:(e8 H6 l2 (.lst [V.int o1,V.int ((o+1)%((p.length:Nat):Int))])) l2=some (.lst [V.int o1,V.int o2]):=by rw[c8,eo2]
   have P7:=m5 P6 s7;generalize (e8 H6 l2 (.lst [V.int o1,V.int ((o+1)%((p.length:Nat):Int))]))=H7 at s7 g7 P7 ⊢
   have lx:xs.length=13:=by rw[exs];rfl
   refine ⟨so,l2,_,_,rfl,rfl,s7 _ _ (kb6 _ _ g5 ng4),g7,(show xs.length+2<=sizeLine by rw[lx];decide),fun l3 n7=> ?_⟩;have s8:c9 H7 (e8 H7 l3 (.lst (xs++[V.int o1,V.int o2]))):=c9.upd_new n7;have g8:(e8 H7 l3 (.lst (xs++[V.int o1,V.int o2]))) l3=some (.lst (xs++[V.int o1,V.int o2])):=c8;have ng5:l3≠g:=r9 P7 n7;have P8:=m5 P7 s8;generalize (e8 H7 l3 (.lst (xs++[V.int o1,V.int o2])))=H8 at s8 g8 P8 ⊢;refine ⟨_,rfl,g,_,_,rfl,P8,by omega,(show (0:Int) < 15 by decide),(show (15:Int)<=_ by decide),fun r3 H9 c0 c1 P9 kb9=> ?_⟩;have g9:=kb9 _ _ g8 ng5
   have ly:(xs++[V.int o1,V.int o2]).length=15:=by rw[co9,lx];rfl
   obtain ⟨j,rfl⟩:=cq8 c0
   have jl:j < (xs++[V.int o1,V.int o2]).length:=by rw[ly];omega
   refine ⟨l3,_,_,_,rfl,rfl,i8.of g9,w6 (cp1 jl),?_⟩;have k19:l7 g H1 H9:=((s15.but g).trans kb6).trans (((s7.trans s8).but g).trans kb9)
   have kk:∀a u,H5 a=some u->a≠g->Q7 H9 g g a=some u:=fun a u e n=>N6 (((kb6.trans ((s7.trans s8).but g)).trans kb9) _ _ e n) n n
   refine q _ H9 P9 (kb1.trans k19) ?_
   have all:∀x∈xs++[V.int o1,V.int o2],Q1 K (Q7 H9 g g) x:=by
     intro x hx;rw[exs,co8] at hx;simp only[List.cons_append,List.nil_append,cq5,cv6,or_false] at hx
     have lo:(Str.ofString (toString o)).length<=8:=by
       rw[ofString_length]
       exact int_text_length_le (k:=7) (by decide) (by
         by_cases z:o.natAbs=0
         · rw[z,da0];omega
         · exact (cz4 z).mpr (by omega))
     rcases hx with rfl|rfl|rfl|rfl|rfl|rfl|rfl|rfl|rfl|rfl|rfl|rfl|rfl|rfl|rfl
     · exact L7 ⟨by omega,by omega⟩
     · exact L7 ⟨by omega,by omega⟩
     · exact L7 ⟨by omega,by omega⟩
     · exact L7 ⟨by omega,by omega⟩
     · exact ax6 true
     · exact ax6 false
     · exact bs4
     · exact bs5 (ak5 _) (by omega)
     · exact bc9 (ns:=[o]) (kk _ _ e1 ng1) (by simp) fun x hx=>by rw[cq7.mp hx];omega
     · exact ch4 (kk _ _ e2 ng2) (by omega)
     · exact ch5 (kk _ _ e3 ng3)
     · exact bs5 (ak5 "") (by decide)
     · exact L7 ⟨by omega,by omega⟩
     · exact L7 ⟨by omega,by omega⟩
     · exact L7 ⟨by omega,by omega⟩
   exact all _ (cs0 jl)
def ShX (M:Hp)(v:V):Prop:=aa9 M v\/∃(a:Addr) (ns:List Int),v= .ref a/\M a=some (.dK (W8 (ns.map V.int)))/\ns.length<=40/\∀x∈ns,0<=x/\x < 40
theorem ShX.keep {M M':Hp}{v:V}(h:ShX M v)(s:c9 M M'):ShX M' v:=by
 rcases h with h|⟨a,ns,e,h,r⟩
 · exact .inl (h.keep s)
 · exact .inr ⟨a,ns,e,s _ _ h,r⟩
structure ThV (K:PySem.W.Frag)(M:Hp)(v:V):Prop where
 jd:∃b,Jd K M v b
 cp:T4 M 2 v
 sh:ShX M v
theorem ThV.keep {M M':Hp}{v:V}(h:ThV K M v)(s:c9 M M'):ThV K M' v:=⟨let ⟨b,j⟩:=h.jd;⟨b,j.keep s⟩,h.cp.keep s,h.sh.keep s⟩
theorem E9 {M:Hp}{a:Addr}{xs:List V}(h:M a=some (.lst xs))(hx:∀x∈xs,Q1 K M x)(l:xs.length<=300):ThV K M (.ref a):=
 ⟨cd2 h (fun x m=>(hx x m).el),.lst h (by omega) (fun x m=>(hx x m).cp),.inl (bk4 h (fun x m=>(hx x m).sh) l)⟩
theorem Q4 {M:Hp}{v:V}{t:Value}(ty:K0 K M v t)(kt:PySem.W.kitOne K t (.type "list")=some false)(cp:T4 M 2 v)(sh:ShX M v):ThV K M v:=⟨⟨false,.inl ⟨.inl ⟨t,ty,kt⟩,rfl⟩⟩,cp,sh⟩
theorem G7 {M:Hp}{ns:List Int}(b:∀x∈ns,-100<=x/\x<=100):∀x∈ns.map V.int,Q1 K M x:=fun x hx=>by
 obtain ⟨i,hi,rfl⟩:=cs6.mp hx;have:=b i hi;exact L7 ⟨by omega,by omega⟩
theorem ch6 {A B G:Hp->Prop}{T:Prop}{b:Bool}{H1:Hp}(h1:b=true->G H1)(h2:(∀H,G H->A H)->T)(hA:∀H,G H->A H):(if b=true then (if true=true then A H1 else B H1) else T):=by
 cases b with
 |true=>exact hA H1 (h1 rfl)
 |false=>exact h2 hA
def an6 (K:PySem.W.Frag):Sp:=fun vs H Q _=>∃(g l:Addr) (c:Nat) (p:List Int),vs=[.ref g,.ref l]/\x6 H g c/\c<=600000/\H l=some (.lst (p.map V.int))/\l≠g/\(∀x∈p,0<=x/\x < 40)/\p.length<=40/\
 ∀(v:V) (H':Hp),x6 H' g (c+60)->l7 g H H'->ThV K (Q7 H' g g) v->Q v H'
theorem G1:r6 ["pool","p","way","some","at","found","to","step"] ["pool","p"] (m6 Z5):=by rfl'
theorem Z9:(["one","pool","p"]:List Str).Nodup:=by decide+kernel
theorem ax1 {f:Addr}{fd:FuncData}(F:B6 K "_law_spoilt" "_law_spoilt" Z5 f fd)(B:Bl mg)(zzx:A2 P w K mg base "_law_take" 1 ["pool","many"] Q0)(zrx:A2 P w K mg base "_law_odd" 2 ["pool","p","at"] (bk9 K)):q9 P w K mg base C3 3 f fd ["pool","p"] (an6 K):=by
 refine F.ok G1 (fun vs H Q E h=> ?_) (fun cdv A outer s H vs Q E hr h=> ?_)
 · obtain ⟨g,l,c,p,rfl,P0,hc,hl,lg,pb,l40,q⟩:=h;rfl
 · obtain ⟨g,l,c,p,rfl,P0,hc,hl,lg,pb,l40,q⟩:=h;have zy:A1 1 _:=hr.mono (by decide);have zl:A1 2 _:=hr.mono (by decide);have hu:=S6 hr;have hug:_+16 < cLine:=cu2 (cv3 (by decide:16<=64) _) hr.units;refine ⟨_,@i4 _ _ _ _ _ (@l8 _ _ (2) _ _ _ _ G1.nd rfl (Or.inl rfl) (@l9 _ _ _ _ _ _ _ _ _ _ zzx zy (@c6 _ _ _ _ _ (pv 0) (@c6 _ _ _ _ _ (@i7 _ _ _ _) (@c7 _) (by rfl)) (by rfl)) (by rfl) (by decide) (by rfl) (by rfl)) (by rfl) (by trivial)) (@i4 _ _ _ _ _ (@A0 _ _ _ _ _ _ _ _ (@D7 _ _ _ _ _ _ _ (@m9 _ _ _ _ _ _ _ _ E3 (pv 2) (@i7 _ _ _ _) (q0 _)) (@K8 _ _ _ _ (@m9 _ _ _ _ _ _ _ _ (az5 0 hu) (pv 1) (@m8 _ _ _ _ (@c7 _)) (q0 _)))).pt (@i4 _ _ _ _ _ (@l8 _ _ (3) _ _ _ _ G1.nd rfl (Or.inl rfl) (@m8 _ _ _ _ (@c6 _ _ _ _ _ (@N0 _ _ _ _ _ _ _ _ _ af4 (by rfl) B.tuple al0 (@c6 _ _ _ _ _ (pv 1) (@c7 _) (by rfl)) (by decide) (by decide) (by rfl) (by rfl)) (@c6 _ _ _ _ _ (@O0 _ _ _) (@c6 _ _ _ _ _ (@cd1 _ _ _ _ _ hug hr.gd B.str (@c6 _ _ _ _ _ (pv 1) (@c7 _) (by rfl)) (by rfl) (by rfl)) (@c6 _ _ _ _ _ (@Y9 _ _) (@c6 _ _ _ _ _ (@m3 _ _ _ _ _ _ _ _ B8 (pv 1) (@m8 _ _ _ _ (@c6 _ _ _ _ _ (@m3 _ _ _ _ _ _ _ _ B2 (@x9 _ _ _ _ _ B.len (@c6 _ _ _ _ _ (pv 1) (@c7 _) (by rfl)) (by rfl) (by rfl)) (@i7 _ _ _ _)) (@c7 _) (by rfl)))) (@c6 _ _ _ _ _ (@m8 _ _ _ _ (@c6 _ _ _ _ _ (pv 1) (@c7 _) (by rfl))) (@c6 _ _ _ _ _ (@B5 _ _ _ _) (@c6 _ _ _ _ _ (@i7 _ _ _ _) (@c6 _ _ _ _ _ (@ao6 _ _ _ _ _ (@c6 _ _ _ _ _ (pv 1) (@c7 _) (by rfl))) (@c6 _ _ _ _ _ (@bw8 _ _ _ _ _ _ _ rfl B.dict B.enum (@c6 _ _ _ _ _ (pv 1) (@c7 _) (by rfl)) (by rfl) (by rfl) (by rfl) (by rfl)) (@c6 _ _ _ _ _ (@m3 _ _ _ _ _ _ _ _ B8 (pv 1) (@m8 _ _ _ _ (@c6 _ _ _ _ _ (pv 1) (@c7 _) (by rfl)))) (@c6 _ _ _ _ _ (@O1 _ _ _ _) (@c7 _) (by rfl)) (by rfl)) (by rfl)) (by rfl)) (by rfl)) (by rfl)) (by rfl)) (by rfl)) (by rfl)) (by rfl)) (by rfl)) (by rfl))) (by rfl) (by trivial)) (@i5 _ _ _ (@m7 _ _ _ _ (@y7 _ _ _ _ _ _ _ o0 (pv 3) (@l9 _ _ _ _ _ _ _ _ _ _ zzx zy (@c6 _ _ _ _ _ (pv 0) (@c6 _ _ _ _ _ (@i7 _ _ _ _) (@c7 _) (by rfl)) (by rfl)) (by rfl) (by decide) (by rfl) (by rfl)) (fun _ _=>rfl))))) (@o8 _)) (@i4 _ _ _ _ _ (@l8 _ _ (4) _ _ _ _ G1.nd rfl (Or.inl rfl) (@l9 _ _ _ _ _ _ _ _ _ _ zzx zy (@c6 _ _ _ _ _ (pv 0) (@c6 _ _ _ _ _ (@x9 _ _ _ _ _ B.len (@c6 _ _ _ _ _ (pv 1) (@c7 _) (by rfl)) (by rfl) (by rfl)) (@c7 _) (by rfl)) (by rfl)) (by rfl) (by decide) (by rfl) (by rfl)) (by rfl) (by trivial)) (@i4 _ _ _ _ _ (@A0 _ _ _ _ _ _ _ _ (@m9 _ _ _ _ _ _ _ _ aa3 (pv 2) (@i7 _ _ _ _) (q0 _)) (@i5 _ _ _ (@m7 _ _ _ _ (@D5 _ _ _ _ _ _ _ _ _ _ _ (["one","pool","p"]) (1) ([0,1]) rfl .of (@A8 _ _ _ _ (pv 1)) (fun _ _ _ _ _=>@v0 _ _ (0) _ Z9 rfl (Or.inl rfl) (by trivial)) (fun _ _ _ _ _=>(@C7 _)) (fun _ _ _ _ _=>(@l9 _ _ _ _ _ _ _ _ _ _ zzx zy (@c6 _ _ _ _ _ (pv 1) (@c6 _ _ _ _ _ (@ae1 _ _ _ _ _ K (by exact B.len) (@c6 _ _ _ _ _ (pv 2) (@c7 _) (by rfl)) (by rfl) (by rfl) (by rfl)) (@c7 _) (by rfl)) (by rfl)) (by rfl) (by decide) (by rfl) (by rfl))) (by intro _;rfl)))) (@o8 _)) (@i4 _ _ _ _ _ (@A0 _ _ _ _ _ _ _ _ (@m9 _ _ _ _ _ _ _ _ aa3 (pv 2) (@i7 _ _ _ _) (q0 _)) (@i4 _ _ _ _ _ (@l8 _ _ (5) _ _ _ _ G1.nd rfl (Or.inl rfl) (@aa4 _ _ _ _ _ B.list (@c6 _ _ _ _ _ (pv 1) (@c7 _) (by rfl)) (by rfl) (by rfl)) (by rfl) (by trivial)) (@i4 _ _ _ _ _ (@l8 _ _ (6) _ _ _ _ G1.nd rfl (Or.inl rfl) (@l9 _ _ _ _ _ _ _ _ _ _ zzx zy (@c6 _ _ _ _ _ (pv 0) (@c6 _ _ _ _ _ (@x9 _ _ _ _ _ B.len (@c6 _ _ _ _ _ (pv 1) (@c7 _) (by rfl)) (by rfl) (by rfl)) (@c7 _) (by rfl)) (by rfl)) (by rfl) (by decide) (by rfl) (by rfl)) (by rfl) (by trivial)) (@i4 _ _ _ _ _ (@l8 _ _ (7) _ _ _ _ G1.nd rfl (Or.inl rfl) (@m3 _ _ _ _ _ _ _ _ B2 (@i7 _ _ _ _) (@l9 _ _ _ _ _ _ _ _ _ _ zzx zy (@c6 _ _ _ _ _ (pv 0) (@c6 _ _ _ _ _ (@i7 _ _ _ _) (@c7 _) (by rfl)) (by rfl)) (by rfl) (by decide) (by rfl) (by rfl))) (by rfl) (by trivial)) (@i4 _ _ _ _ _ (@O3 _ _ _ _ _ _ (@m3 _ _ _ _ _ _ _ _ B2 (@y7 _ _ _ _ _ _ _ o0 (pv 5) (pv 4) (fun _ _=>rfl)) (pv 7)) (@O2 _ _ _ _ _ _ _ (pv 5) (pv 4) K3 (by intro _;rfl)) (by rfl) (by rfl) (by rfl)) (@i4 _ _ _ _ _ (@O3 _ _ _ _ _ _ (@m3 _ _ _ _ _ _ _ _ S1 (@y7 _ _ _ _ _ _ _ o0 (pv 5) (pv 6) (fun _ _=>rfl)) (pv 7)) (@O2 _ _ _ _ _ _ _ (pv 5) (pv 6) K3 (by intro _;rfl)) (by rfl) (by rfl) (by rfl)) (@i5 _ _ _ (@m7 _ _ _ _ (pv 5)))))))) (@o8 _)) (@i4 _ _ _ _ _ (@A0 _ _ _ _ _ _ _ _ (@m9 _ _ _ _ _ _ _ _ E3 (pv 2) (@i7 _ _ _ _) (q0 _)) (@i5 _ _ _ (@m7 _ _ _ _ (@m3 _ _ _ _ _ _ _ _ B8 (@D1 _ _ _ _ _ _ _ _ _ _ E6 (pv 1) (@E4 _) (@E5 _ _ _ (pv 4))) (@D1 _ _ _ _ _ _ _ _ _ _ E6 (pv 1) (@E5 _ _ _ (@m3 _ _ _ _ _ _ _ _ B2 (pv 4) (@i7 _ _ _ _))) (@E4 _))))) (@o8 _)) (@i4 _ _ _ _ _ (@A0 _ _ _ _ _ _ _ _ (@m9 _ _ _ _ _ _ _ _ E3 (pv 2) (@i7 _ _ _ _) (q0 _)) (@i5 _ _ _ (@m7 _ _ _ _ (@m3 _ _ _ _ _ _ _ _ B8 (@m3 _ _ _ _ _ _ _ _ B8 (@D1 _ _ _ _ _ _ _ _ _ _ E6 (pv 1) (@E4 _) (@E5 _ _ _ (pv 4))) (@m8 _ _ _ _ (@c6 _ _ _ _ _ (@l9 _ _ _ _ _ _ _ _ _ _ zrx zl (@c6 _ _ _ _ _ (pv 0) (@c6 _ _ _ _ _ (pv 1) (@c6 _ _ _ _ _ (pv 4) (@c7 _) (by rfl)) (by rfl)) (by rfl)) (by rfl) (by decide) (by rfl) (by rfl)) (@c7 _) (by rfl)))) (@D1 _ _ _ _ _ _ _ _ _ _ E6 (pv 1) (@E5 _ _ _ (pv 4)) (@E4 _))))) (@o8 _)) (@i4 _ _ _ _ _ (@A0 _ _ _ _ _ _ _ _ (@m9 _ _ _ _ _ _ _ _ E3 (pv 2) (@i7 _ _ _ _) (q0 _)) (@i5 _ _ _ (@m7 _ _ _ _ (@m3 _ _ _ _ _ _ _ _ B8 (@m3 _ _ _ _ _ _ _ _ B8 (@D1 _ _ _ _ _ _ _ _ _ _ E6 (pv 1) (@E4 _) (@E5 _ _ _ (pv 4))) (@m8 _ _ _ _ (@c6 _ _ _ _ _ (@y7 _ _ _ _ _ _ _ o0 (@m8 _ _ _ _ (@c6 _ _ _ _ _ (@V0 _ _ _ _ _ _ O4 (@i7 _ _ _ _)) (@c6 _ _ _ _ _ (@B5 _ _ _ _) (@c6 _ _ _ _ _ (@O0 _ _ _) (@c6 _ _ _ _ _ (@x9 _ _ _ _ _ B.len (@c6 _ _ _ _ _ (pv 1) (@c7 _) (by rfl)) (by rfl) (by rfl)) (@c7 _) (by rfl)) (by rfl)) (by rfl)) (by rfl))) (@l9 _ _ _ _ _ _ _ _ _ _ zzx zy (@c6 _ _ _ _ _ (pv 0) (@c6 _ _ _ _ _ (@i7 _ _ _ _) (@c7 _) (by rfl)) (by rfl)) (by rfl) (by decide) (by rfl) (by rfl)) (fun _ _=>rfl)) (@c7 _) (by rfl)))) (@D1 _ _ _ _ _ _ _ _ _ _ E6 (pv 1) (@E5 _ _ _ (pv 4)) (@E4 _))))) (@o8 _)) (@i5 _ _ _ (@m7 _ _ _ _ (@m3 _ _ _ _ _ _ _ _ B8 (@m3 _ _ _ _ _ _ _ _ B8 (@D1 _ _ _ _ _ _ _ _ _ _ E6 (pv 1) (@E4 _) (@E5 _ _ _ (pv 4))) (@m8 _ _ _ _ (@c6 _ _ _ _ _ (@l9 _ _ _ _ _ _ _ _ _ _ zrx zl (@c6 _ _ _ _ _ (pv 0) (@c6 _ _ _ _ _ (pv 1) (@c6 _ _ _ _ _ (pv 4) (@c7 _) (by rfl)) (by rfl)) (by rfl)) (by rfl) (by decide) (by rfl) (by rfl)) (@c7 _) (by rfl)))) (@D1 _ _ _ _ _ _ _ _ _ _ E6 (pv 1) (@E5 _ _ _ (@m3 _ _ _ _ _ _ _ _ B2 (pv 4) (@i7 _ _ _ _))) (@E4 _)))))))))))),?_⟩
   refine ⟨_,rfl,g,c,12,rfl,P0,by omega,by decide,by decide,fun way H1 w0 w1 P1 kb1=> ?_⟩;have h1:=kb1 _ _ hl lg;have lm:(p.map V.int).length=p.length:=co8 ..
   have pb2:∀x∈p,-100<=x/\x<=100:=fun x hx=>by have:=pb x hx;omega
   refine ⟨_,rfl,rfl,_,rfl,ch6 (G:=fun H'=>x6 H' g (c+1)/\l7 g H H') (fun _=>⟨P1,kb1⟩) (fun hA=> ?_) ?_⟩
   rotate_left
   · rintro H2 ⟨P2,kb2⟩;have h2:=kb2 _ _ hl lg;refine ⟨_,rfl,l,_,rfl,.inl ⟨i8.of h2,fun t1 n3=> ?_⟩⟩;have s3:c9 H2 (e8 H2 t1 (.tup (p.map V.int))):=c9.upd_new n3;have g3:(e8 H2 t1 (.tup (p.map V.int))) t1=some (.tup (p.map V.int)):=c8;have ng3:t1≠g:=r9 P2 n3;have P3:=m5 P2 s3;generalize (e8 H2 t1 (.tup (p.map V.int)))=H3 at s3 g3 P3 ⊢;have h3:=s3 _ _ h2;obtain ⟨dp,da,ds,dl,dd,dn,dm⟩:=an5 h3 (by omega) pb2;refine ⟨_,rfl,l,dp,rfl,⟨da,ds,cq3 dl (by decide),by omega⟩,dn,fun d1 n4=> ?_⟩;have s4:c9 H3 (e8 H3 d1 (.dK [])):=c9.upd_new n4;have g4:(e8 H3 d1 (.dK [])) d1=some (.dK []):=c8;have ng4:d1≠g:=r9 P3 n4;have P4:=m5 P3 s4;generalize (e8 H3 d1 (.dK []))=H4 at s4 g4 P4 ⊢;have h4:=s4 _ _ h3;refine ⟨_,rfl,_,rfl,l,_,rfl,.inl (i8.of h4),_,_,rfl,rfl,(show 1<=sizeLine by decide),fun l2 n5=> ?_⟩;have s5:c9 H4 (e8 H4 l2 (.lst [V.int (((p.map V.int).length:Int)+1)])):=c9.upd_new n5;have g5:(e8 H4 l2 (.lst [V.int (((p.map V.int).length:Int)+1)])) l2=some (.lst [V.int (((p.map V.int).length:Int)+1)]):=c8;have ng5:l2≠g:=r9 P4 n5;have P5:=m5 P4 s5;generalize (e8 H4 l2 (.lst [V.int (((p.map V.int).length:Int)+1)]))=H5 at s5 g5 P5 ⊢;have h5:=s5 _ _ h4;refine ⟨l,l2,_,_,rfl,rfl,h5,g5,cr5 (m4 (by rw[lm];show p.length+1<=1000;omega)),fun l3 n6=> ?_⟩;have s6:c9 H5 (e8 H5 l3 (.lst (p.map V.int++[V.int (((p.map V.int).length:Int)+1)]))):=c9.upd_new n6;have g6:(e8 H5 l3 (.lst (p.map V.int++[V.int (((p.map V.int).length:Int)+1)]))) l3=some (.lst (p.map V.int++[V.int (((p.map V.int).length:Int)+1)])):=c8;have ng6:l3≠g:=r9 P5 n6;have P6:=m5 P5 s6;generalize (e8 H5 l3 (.lst (p.map V.int++[V.int (((p.map V.int).length:Int)+1)])))=H6 at s6 g6 P6 ⊢;have h6:=s6 _ _ h5;refine ⟨_,rfl,(show 1<=sizeLine by decide),fun l4 n7=> ?_⟩;have s7:c9 H6 (e8 H6 l4 (.lst [V.ref l])):=c9.upd_new n7;have g7:(e8 H6 l4 (.lst [V.ref l])) l4=some (.lst [V.ref l]):=c8;have ng7:l4≠g:=r9 P6 n7;have P7:=m5 P6 s7;generalize (e8 H6 l4 (.lst [V.ref l]))=H7 at s7 g7 P7 ⊢;have h7:=s7 _ _ h6;refine ⟨_,rfl,(show 1<=sizeLine by decide),fun t2 n8=> ?_⟩;have s8:c9 H7 (e8 H7 t2 (.tup [V.ref l])):=c9.upd_new n8;have g8:(e8 H7 t2 (.tup [V.ref l])) t2=some (.tup [V.ref l]):=c8;have ng8:t2≠g:=r9 P7 n8;have P8:=m5 P7 s8;generalize (e8 H7 t2 (.tup [V.ref l]))=H8 at s8 g8 P8 ⊢;have h8:=s8 _ _ h7;refine ⟨_,rfl,l,_,rfl,i8.of h8,by rw[lm];omega,fun d2 n9=> ?_⟩;have s9:c9 H8 (e8 H8 d2 (.dK (W8 (p.map V.int)))):=c9.upd_new n9;have g9:(e8 H8 d2 (.dK (W8 (p.map V.int)))) d2=some (.dK (W8 (p.map V.int))):=c8;have ng9:d2≠g:=r9 P8 n9;have P9:=m5 P8 s9;generalize (e8 H8 d2 (.dK (W8 (p.map V.int))))=H9 at s9 g9 P9 ⊢;have h9:=s9 _ _ h8;refine ⟨_,rfl,_,rfl,(show 1<=sizeLine by decide),fun l5 n10=> ?_⟩;have s10:c9 H9 (e8 H9 l5 (.lst [V.ref l])):=c9.upd_new n10;have g10:(e8 H9 l5 (.lst [V.ref l])) l5=some (.lst [V.ref l]):=c8;have ng10:l5≠g:=r9 P9 n10;have P10:=m5 P9 s10;generalize (e8 H9 l5 (.lst [V.ref l]))=H10 at s10 g10 P10 ⊢;have h10:=s10 _ _ h9;refine ⟨l,l5,_,_,rfl,rfl,h10,g10,cr5 (m4 (by rw[lm];show p.length+1<=1000;omega)),fun l6 n11=> ?_⟩
     have s11:c9 H10 (e8 H10 l6 (.lst (p.map V.int++[V.ref l]))):=c9.upd_new n11;have g11:(e8 H10 l6 (.lst (p.map V.int++[V.ref l]))) l6=some (.lst (p.map V.int++[V.ref l])):=c8;have ng11:l6≠g:=r9 P10 n11;have P11:=m5 P10 s11;generalize (e8 H10 l6 (.lst (p.map V.int++[V.ref l])))=H11 at s11 g11 P11 ⊢;have h11:=s11 _ _ h10;refine ⟨(show 12<=sizeLine by decide),fun so n12=> ?_⟩;obtain ⟨xs,exs⟩:∃xs:List V,xs=[V.ref t1,V.non,V.str dp.shown,V.ref d1,V.ref l3,V.ref l4,V.bl true,V.int 0,V.ref t2,V.ref d2,V.ref l6,V.str (Str.ofString "")]:=⟨_,rfl⟩;show aa2 3 (V.ref so) _ (e8 H11 so (.lst [V.ref t1,V.non,V.str dp.shown,V.ref d1,V.ref l3,V.ref l4,V.bl true,V.int 0,V.ref t2,V.ref d2,V.ref l6,V.str (Str.ofString "")])) _;rw[<-exs];have s12:c9 H11 (e8 H11 so (.lst xs)):=c9.upd_new n12;have g12:(e8 H11 so (.lst xs)) so=some (.lst xs):=c8;have ng12:so≠g:=r9 P11 n12;have P12:=m5 P11 s12;generalize (e8 H11 so (.lst xs))=H12 at s12 g12 P12 ⊢;refine ⟨_,rfl,_,rfl,g,_,12,rfl,P12,by omega,by decide,by decide,fun r H13 c0 c1 P13 kb13=> ?_⟩;obtain ⟨j,rfl⟩:=cq8 c0
     have lx:xs.length=12:=by rw[exs];rfl
     have jl:j < xs.length:=by rw[lx];omega
     refine ⟨so,_,_,_,rfl,rfl,i8.of (kb13 _ _ g12 ng12),w6 (cp1 jl),?_⟩;have t11:=s11.trans s12;have t10:=s10.trans t11;have t9:=s9.trans t10;have t8:=s8.trans t9;have t7:=s7.trans t8;have t6:=s6.trans t7;have t5:=s5.trans t6;have t4:=s4.trans t5;have t3:=s3.trans t4
     have kk:∀a u,H12 a=some u->a≠g->Q7 H13 g g a=some u:=fun a u e n=>N6 (kb13 _ _ e n) n n
     refine q _ H13 (P13.mono (by omega)) (kb2.trans ((t3.but g).trans kb13)) ?_;have hp:=kk _ _ (t3 _ _ h2) lg;have itp:Q1 K (Q7 H13 g g) (.ref l):=bc9 hp (by omega) pb2
     have all:∀x∈xs,ThV K (Q7 H13 g g) x:=by
       intro x hx;rw[exs] at hx;simp only[cq5,cv6,or_false] at hx
       rcases hx with rfl|rfl|rfl|rfl|rfl|rfl|rfl|rfl|rfl|rfl|rfl|rfl
       · exact Q4 (.tup (kk _ _ (t4 _ _ g3) ng3)) (L5 K) (.tup (kk _ _ (t4 _ _ g3) ng3)) (.inl (av9 (kk _ _ (t4 _ _ g3) ng3) (by omega) fun x hx=>by have:=pb x hx;exact ⟨by omega,by omega⟩))
       · exact Q4 .non (Q2 K) .non (.inl (.of bb8))
       · refine Q4 (.str _) (N3 K) (.str _) (.inl ⟨_,.str _,by rw[PyData.showable],?_,by rw[PyData.depth];decide⟩);rw[PyData.shown];have:=StrLaws.reprText_len _ dm;omega
       · exact Q4 (.dK (kk _ _ (t5 _ _ g4) ng4)) (Q3 K) (.dic (kk _ _ (t5 _ _ g4) ng4)) (.inl (.of (br7 (kk _ _ (t5 _ _ g4) ng4))))
       · refine E9 (kk _ _ (t7 _ _ g6) ng6) (fun x hx=> ?_) (by rw[co9,lm];simp only[cs2];omega)
         rcases cp4.mp hx with z|z
         · exact G7 pb2 x z
         · rw[cq7.mp z,lm];exact L7 ⟨by omega,by omega⟩
       · exact E9 (kk _ _ (t8 _ _ g7) ng7) (fun x hx=>by rw[cq7.mp hx];exact itp) (by simp)
       · exact Q4 (.bl true) (W3 K) (.bl true) (.inl (.of (by6 true)))
       · exact Q4 (.int 0) (Z2 K) (.int 0) (.inl (.of (bb7 ⟨by decide,by decide⟩)))
       · refine Q4 (.tup (kk _ _ (t9 _ _ g8) ng8)) (L5 K) (.tup (kk _ _ (t9 _ _ g8) ng8)) (.inl ?_);obtain ⟨d,e1,e2,e3,e4,_⟩:=an5 hp (by omega) pb2;refine ⟨.tuple [d],.tup (kk _ _ (t9 _ _ g8) ng8) (.cons e1 .nil),by simp only[PyData.showable,PyData.showableAll];rw[e2];rfl,?_,by simp only[PyData.depth,PyData.depthAll];omega⟩;rw[PyData.shown];simp only[PyData.shownAll];refine cq3 (Z8 (m:=700) fun t ht=> ?_) (by simp);rw[cq7.mp ht];exact e3
       · exact Q4 (.dK (kk _ _ (t10 _ _ g9) ng9)) (Q3 K) (.dic (kk _ _ (t10 _ _ g9) ng9)) (.inr ⟨_,p,rfl,kk _ _ (t10 _ _ g9) ng9,l40,pb⟩)
       · refine E9 (kk _ _ (s12 _ _ g11) ng11) (fun x hx=> ?_) (by rw[co9,lm];simp only[cs2];omega)
         rcases cp4.mp hx with z|z
         · exact G7 pb2 x z
         · rw[cq7.mp z];exact itp
       · exact Q4 (.str _) (N3 K) (.str _) (.inl (.of (bb9 (by decide+kernel))))
     exact all _ (cs0 jl)
   refine ⟨_,rfl,(show 0<=sizeLine by decide),fun l0 n2=> ?_⟩;have s2:c9 H1 (e8 H1 l0 (.lst [])):=c9.upd_new n2;have g2:(e8 H1 l0 (.lst [])) l0=some (.lst (([]:List Int).map V.int)):=c8;have P2:=m5 P1 s2;generalize (e8 H1 l0 (.lst []))=H2 at s2 g2 P2 ⊢;have h2:=s2 _ _ h1;have kb2:l7 g H H2:=kb1.trans (s2.but g);refine ⟨l,l0,_,_,_,rfl,rfl,i8.of h2,i8.of g2,ad7 K H2 0 p [],_,rfl,?_⟩
   refine G0 (fun _=>hA H2 ⟨P2,kb2⟩) fun ne=> ?_
   have ne:p≠[]:=fun z=>ne (decide_eq_true z)
   have pl:0 < p.length:=ct9.mpr ne;clear hA;refine ⟨_,rfl,_,rfl,l,_,rfl,.inl (i8.of h2),g,_,_,rfl,P2,by omega,(by rw[lm];omega),(by rw[lm];omega),fun at_ H3 a0 a1 P3 kb3=> ?_⟩;rw[lm] at a1;have h3:=kb3 _ _ h2 lg;have kb03:=kb2.trans kb3;clear P0 P1 P2 kb1 kb2 kb3 s2 g2 h1 h2 n2;refine ⟨_,rfl,_,_,rfl,rfl,_,rfl,G0 (fun _=> ?_) fun _=> ?_⟩
   · refine ⟨_,rfl,l,rfl,⟨_,i8.of h3⟩,G3 (K:=K) (a:=l) (xs:=p.map V.int) (fun i ys σ H4=>∃(v:Option V) (os:List Int),σ=[v,some (.ref g),some (.ref l)]/\ys=os.map V.int/\os.length=i/\(∀x∈os,0<=x/\x<=40)/\x6 H4 g (c+2+i)/\l7 g H3 H4)
       ⟨none,[],rfl,rfl,rfl,(fun x hx=>by cases hx),P3,l7.refl g H3⟩ (fun i ys σ H4 _ zz=>by obtain ⟨_,_,_,_,_,_,_,k⟩:=zz;exact i8.of (k _ _ h3 lg)) ?_ ?_⟩
     · rintro i x ys σ H4 hi ⟨v,os,rfl,rfl,lo,bo,P4,kb4⟩
       have il:i < p.length:=by have:=(cp0.mp hi).1;rw[lm] at this;exact this
       have h4:=kb4 _ _ h3 lg;refine ⟨_,rfl,_,rfl,l,_,rfl,.inl (i8.of h4),g,_,_,rfl,P4,by omega,(by rw[lm];omega),(by rw[lm];omega),fun r H5 i0 i1 P5 kb5=>⟨m4 (by rw[co8];omega),_,os++[r],rfl,by rw[cp5];rfl,by rw[co9,lo];rfl,fun y hy=> ?_,P5,kb4.trans kb5⟩⟩;rw[lm] at i1
       rcases cp4.mp hy with z|z
       · exact bo y z
       · rw[cq7.mp z];omega
     · rintro ys σ H4 ⟨v,os,rfl,rfl,lo,bo,P4,kb4⟩ fr nfr;rw[lm] at lo P4;have s5:c9 H4 (e8 H4 fr (.lst (os.map V.int))):=c9.upd_new nfr;have g5:(e8 H4 fr (.lst (os.map V.int))) fr=some (.lst (os.map V.int)):=c8;have nfg:fr≠g:=r9 P4 nfr;have P5:=m5 P4 s5;exact q (.ref fr) _ (P5.mono (by omega)) (kb03.trans (kb4.trans (s5.but g))) (E9 (N6 g5 nfg nfg) (G7 fun x hx=>by have:=bo x hx;omega) (by rw[co8];omega))
   refine ⟨_,rfl,_,_,rfl,rfl,_,rfl,G0 (fun _=> ?_) fun _=> ?_⟩
   · refine ⟨_,rfl,l,_,rfl,.inl (i8.of h3),fun ml n4=> ?_⟩;have s4:c9 H3 (e8 H3 ml (.lst (p.map V.int))):=c9.upd_new n4;have g4:(e8 H3 ml (.lst (p.map V.int))) ml=some (.lst (p.map V.int)):=c8;have nmg:ml≠g:=r9 P3 n4;have P4:=m5 P3 s4;generalize (e8 H3 ml (.lst (p.map V.int)))=H4 at s4 g4 P4 ⊢;have h4:=s4 _ _ h3;refine ⟨_,rfl,_,rfl,l,_,rfl,.inl (i8.of h4),g,_,_,rfl,P4,by omega,(by rw[lm];omega),(by rw[lm];omega),fun to H5 b0 b1 P5 kb5=> ?_⟩;rw[lm] at b1;refine ⟨_,rfl,g,_,2,rfl,P5,by omega,by decide,by decide,fun st H6 c0 c1 P6 kb6=>⟨_,_,rfl,rfl,?_⟩⟩;have g6:=kb6 _ _ (kb5 _ _ g4 nmg) nmg;have kb46:l7 g H3 H6:=((s4.but g).trans kb5).trans kb6;obtain ⟨sp,esp⟩:∃sp,sp=1+st:=⟨_,rfl⟩;show aa2 7 (V.int (1+st)) _ _ _;rw[<-esp];refine ⟨_,rfl,_,rfl,ml,_,at_,_,rfl,rfl,i8.of g6,Mth.T9 (p:=p) a0 a1,_,rfl,_,_,rfl,rfl,_,rfl,_,rfl,ml,_,at_,at_.toNat,rfl,rfl,g6,bs3 a0 (by rw[lm];exact a1),?_⟩;obtain ⟨m1,em1⟩:∃m1,m1=p.set at_.toNat (p.getD at_.toNat 0+sp):=⟨_,rfl⟩
     have l1':m1.length=p.length:=by rw[em1,ct5]
     have b1':∀x∈m1,-10<=x/\x<=50:=fun x hx=>by
       rw[em1] at hx
       rcases da1 hx with z|z
       · have:=pb x z;omega
       · have:=pb _ (cs0 (show at_.toNat < p.length by omega));rw[Mth.cn6 (show at_.toNat < p.length by omega)] at z;omega
     have g7:(e8 H6 ml (.lst ((p.map V.int).set at_.toNat (V.int (p.getD at_.toNat 0+sp))))) ml=some (.lst (m1.map V.int)):=by rw[c8,em1,cy1]
     have kb7:l7 g H3 (e8 H6 ml (.lst ((p.map V.int).set at_.toNat (V.int (p.getD at_.toNat 0+sp))))):=kb46.upd_r n4;have P7:x6 (e8 H6 ml (.lst ((p.map V.int).set at_.toNat (V.int (p.getD at_.toNat 0+sp))))) g _:=bc6 P6 nmg;generalize (e8 H6 ml (.lst ((p.map V.int).set at_.toNat (V.int (p.getD at_.toNat 0+sp)))))=H7 at g7 kb7 P7 ⊢;refine ⟨_,rfl,_,rfl,ml,_,to,_,rfl,rfl,i8.of g7,Mth.T9 (p:=m1) b0 (by rw[l1'];exact b1),_,rfl,_,_,rfl,rfl,_,rfl,_,rfl,ml,_,to,to.toNat,rfl,rfl,g7,bs3 b0 (by rw[co8,l1'];exact b1),?_⟩;obtain ⟨m2,em2⟩:∃m2,m2=m1.set to.toNat (m1.getD to.toNat 0 - sp):=⟨_,rfl⟩
     have l2':m2.length=p.length:=by rw[em2,ct5,l1']
     have b2':∀x∈m2,-20<=x/\x<=50:=fun x hx=>by
       rw[em2] at hx
       rcases da1 hx with z|z
       · have:=b1' x z;omega
       · have:=b1' _ (cs0 (show to.toNat < m1.length by omega));rw[Mth.cn6 (show to.toNat < m1.length by omega)] at z;omega
     have g8:(e8 H7 ml (.lst ((m1.map V.int).set to.toNat (V.int (m1.getD to.toNat 0 - sp))))) ml=some (.lst (m2.map V.int)):=by rw[c8,em2,cy1]
     have kb8:l7 g H3 (e8 H7 ml (.lst ((m1.map V.int).set to.toNat (V.int (m1.getD to.toNat 0 - sp))))):=kb7.upd_r n4;have P8:x6 (e8 H7 ml (.lst ((m1.map V.int).set to.toNat (V.int (m1.getD to.toNat 0 - sp))))) g _:=bc6 P7 nmg;exact ⟨_,rfl,q (.ref ml) _ (P8.mono (by omega)) (kb03.trans kb8) (E9 (N6 g8 nmg nmg) (G7 fun x hx=>by have:=b2' x hx;omega) (by rw[co8];omega))⟩
   have ml:((p.map V.int).take at_.toNat).length=at_.toNat:=by rw[cq2,lm];omega
   have mr:((p.map V.int).drop (at_+1).toNat).length<=40:=by rw[cq9,lm];omega
   have mr0:((p.map V.int).drop at_.toNat).length<=40:=by rw[cq9,lm];omega
   have itL:∀{M:Hp},∀x∈(p.map V.int).take at_.toNat,Q1 K M x:=fun x hx=>G7 pb2 x (cy6 hx)
   have itR:∀{M:Hp},∀x∈(p.map V.int).drop (at_+1).toNat,Q1 K M x:=fun x hx=>G7 pb2 x (cy7 hx)
   have itR0:∀{M:Hp},∀x∈(p.map V.int).drop at_.toNat,Q1 K M x:=fun x hx=>G7 pb2 x (cy7 hx)
   refine ⟨_,rfl,rfl,_,rfl,G0 (fun _=> ?_) fun _=> ?_⟩
   · refine ⟨_,rfl,_,rfl,_,rfl,l,_,rfl,i8.of h3,fun w1 n4=> ?_⟩;rw[ah0 a0 (by rw[lm];omega)];have s4:c9 H3 (e8 H3 w1 (.lst ((p.map V.int).take at_.toNat))):=c9.upd_new n4;have g4:(e8 H3 w1 (.lst ((p.map V.int).take at_.toNat))) w1=some (.lst ((p.map V.int).take at_.toNat)):=c8;have ng4:w1≠g:=r9 P3 n4;have P4:=m5 P3 s4;generalize (e8 H3 w1 (.lst ((p.map V.int).take at_.toNat)))=H4 at s4 g4 P4 ⊢;refine ⟨_,rfl,_,rfl,_,_,rfl,rfl,_,rfl,l,_,rfl,i8.of (s4 _ _ h3),fun w2 n5=> ?_⟩;rw[show C6 (p.map V.int) (some (at_+1)) none=(p.map V.int).drop (at_+1).toNat from Z0 (by omega) (by rw[lm];omega)];have s5:c9 H4 (e8 H4 w2 (.lst ((p.map V.int).drop (at_+1).toNat))):=c9.upd_new n5;have g5:(e8 H4 w2 (.lst ((p.map V.int).drop (at_+1).toNat))) w2=some (.lst ((p.map V.int).drop (at_+1).toNat)):=c8;have ng5:w2≠g:=r9 P4 n5;have P5:=m5 P4 s5;generalize (e8 H4 w2 (.lst ((p.map V.int).drop (at_+1).toNat)))=H5 at s5 g5 P5 ⊢;refine ⟨w1,w2,_,_,rfl,rfl,s5 _ _ g4,g5,cr5 (m4 (by rw[ml];omega)),fun w3 n6=> ?_⟩;have s6:c9 H5 (e8 H5 w3 (.lst ((p.map V.int).take at_.toNat++(p.map V.int).drop (at_+1).toNat))):=c9.upd_new n6;have g6:(e8 H5 w3 (.lst ((p.map V.int).take at_.toNat++(p.map V.int).drop (at_+1).toNat))) w3=some (.lst ((p.map V.int).take at_.toNat++(p.map V.int).drop (at_+1).toNat)):=c8;have ng6:w3≠g:=r9 P5 n6;have P6:=m5 P5 s6;generalize (e8 H5 w3 (.lst ((p.map V.int).take at_.toNat++(p.map V.int).drop (at_+1).toNat)))=H6 at s6 g6 P6 ⊢;have st:=s4.trans (s5.trans s6);exact q (.ref w3) H6 (P6.mono (by omega)) (kb03.trans (st.but g)) (E9 (N6 g6 ng6 ng6) (fun x hx=>(cp4.mp hx).elim (itL x) (itR x)) (by rw[co9,ml];omega))
   refine ⟨_,rfl,rfl,_,rfl,G0 (fun _=> ?_) fun _=> ?_⟩
   · refine ⟨_,rfl,_,rfl,_,rfl,l,_,rfl,i8.of h3,fun w1 n4=> ?_⟩;rw[ah0 a0 (by rw[lm];omega)];have s4:c9 H3 (e8 H3 w1 (.lst ((p.map V.int).take at_.toNat))):=c9.upd_new n4;have g4:(e8 H3 w1 (.lst ((p.map V.int).take at_.toNat))) w1=some (.lst ((p.map V.int).take at_.toNat)):=c8;have ng4:w1≠g:=r9 P3 n4;have P4:=m5 P3 s4;generalize (e8 H3 w1 (.lst ((p.map V.int).take at_.toNat)))=H4 at s4 g4 P4 ⊢;refine ⟨_,rfl,_,rfl,_,rfl,g,l,_,p,at_,rfl,P4,by omega,s4 _ _ h3,lg,pb,l40,a0,a1,fun y H5 P5 kb5 ity=> ?_⟩;refine ⟨(show 1<=sizeLine by decide),fun w2 n6=> ?_⟩;have s6:c9 H5 (e8 H5 w2 (.lst [y])):=c9.upd_new n6;have g6:(e8 H5 w2 (.lst [y])) w2=some (.lst [y]):=c8;have ng6:w2≠g:=r9 P5 n6;have P6:=m5 P5 s6;generalize (e8 H5 w2 (.lst [y]))=H6 at s6 g6 P6 ⊢;refine ⟨w1,w2,_,_,rfl,rfl,s6 _ _ (kb5 _ _ g4 ng4),g6,cr5 (m4 (by rw[ml];show at_.toNat+1<=1000;omega)),fun w3 n7=> ?_⟩;have s7:c9 H6 (e8 H6 w3 (.lst ((p.map V.int).take at_.toNat++[y]))):=c9.upd_new n7;have g7:(e8 H6 w3 (.lst ((p.map V.int).take at_.toNat++[y]))) w3=some (.lst ((p.map V.int).take at_.toNat++[y])):=c8;have ng7:w3≠g:=r9 P6 n7;have P7:=m5 P6 s7;generalize (e8 H6 w3 (.lst ((p.map V.int).take at_.toNat++[y])))=H7 at s7 g7 P7 ⊢;have h5:=kb5 _ _ (s4 _ _ h3) lg;refine ⟨_,rfl,_,rfl,_,rfl,l,_,rfl,i8.of (s7 _ _ (s6 _ _ h5)),fun w4 n8=> ?_⟩;rw[Z0 a0 (by rw[lm];omega)];have s8:c9 H7 (e8 H7 w4 (.lst ((p.map V.int).drop at_.toNat))):=c9.upd_new n8;have g8:(e8 H7 w4 (.lst ((p.map V.int).drop at_.toNat))) w4=some (.lst ((p.map V.int).drop at_.toNat)):=c8;have ng8:w4≠g:=r9 P7 n8;have P8:=m5 P7 s8;generalize (e8 H7 w4 (.lst ((p.map V.int).drop at_.toNat)))=H8 at s8 g8 P8 ⊢;refine ⟨w3,w4,_,_,rfl,rfl,s8 _ _ g7,g8,cr5 (m4 (by rw[co9,ml];show at_.toNat+1+_<=1000;omega)),fun w5 n9=> ?_⟩;have s9:c9 H8 (e8 H8 w5 (.lst ((p.map V.int).take at_.toNat++[y]++(p.map V.int).drop at_.toNat))):=c9.upd_new n9;have g9:(e8 H8 w5 (.lst ((p.map V.int).take at_.toNat++[y]++(p.map V.int).drop at_.toNat))) w5=some (.lst ((p.map V.int).take at_.toNat++[y]++(p.map V.int).drop at_.toNat)):=c8;have ng9:w5≠g:=r9 P8 n9;have P9:=m5 P8 s9;generalize (e8 H8 w5 (.lst ((p.map V.int).take at_.toNat++[y]++(p.map V.int).drop at_.toNat)))=H9 at s9 g9 P9 ⊢;have st:=(s6.trans s7).trans (s8.trans s9);refine q (.ref w5) H9 (P9.mono (by omega)) (kb03.trans ((s4.but g).trans (kb5.trans (st.but g)))) (E9 (N6 g9 ng9 ng9) (fun x hx=> ?_) (by rw[co9,co9,ml];simp only[cs2];omega))
     rcases cp4.mp hx with z|z
     · rcases cp4.mp z with z|z
       · exact itL x z
       · rw[cq7.mp z];exact ity.keep (ak4 (l:=g) (st.but g))
     · exact itR0 x z
   refine ⟨_,rfl,rfl,_,rfl,G0 (fun _=> ?_) fun _=> ?_⟩
   · refine ⟨_,rfl,_,rfl,_,rfl,l,_,rfl,i8.of h3,fun w1 n4=> ?_⟩;rw[ah0 a0 (by rw[lm];omega)];have s4:c9 H3 (e8 H3 w1 (.lst ((p.map V.int).take at_.toNat))):=c9.upd_new n4;have g4:(e8 H3 w1 (.lst ((p.map V.int).take at_.toNat))) w1=some (.lst ((p.map V.int).take at_.toNat)):=c8;have ng4:w1≠g:=r9 P3 n4;have P4:=m5 P3 s4;generalize (e8 H3 w1 (.lst ((p.map V.int).take at_.toNat)))=H4 at s4 g4 P4 ⊢;refine ⟨_,rfl,_,rfl,l,_,rfl,.inl (i8.of (s4 _ _ h3)),(show 4<=sizeLine by decide),fun w0 n5=> ?_⟩;obtain ⟨xs,exs⟩:∃xs:List V,xs=[V.int (-1),V.bl true,V.non,V.int (((p.map V.int).length:Nat):Int)]:=⟨_,rfl⟩
     have g5:(e8 H4 w0 (.lst [V.int (-1),V.bl true,V.non,V.int (((p.map V.int).length:Nat):Int)])) w0=some (.lst xs):=by rw[c8,exs]
     have s5:c9 H4 (e8 H4 w0 (.lst [V.int (-1),V.bl true,V.non,V.int (((p.map V.int).length:Nat):Int)])):=c9.upd_new n5;have ng5:w0≠g:=r9 P4 n5;have P5:=m5 P4 s5;generalize (e8 H4 w0 (.lst [V.int (-1),V.bl true,V.non,V.int (((p.map V.int).length:Nat):Int)]))=H5 at s5 g5 P5 ⊢;refine ⟨_,rfl,g,_,4,rfl,P5,by omega,by decide,by decide,fun r H6 c0 c1 P6 kb6=> ?_⟩;obtain ⟨j,rfl⟩:=cq8 c0
     have lx:xs.length=4:=by rw[exs];rfl
     have jl:j < xs.length:=by rw[lx];omega
     refine ⟨w0,_,_,_,rfl,rfl,i8.of (kb6 _ _ g5 ng5),w6 (cp1 jl),(show 1<=sizeLine by decide),fun w2 n7=> ?_⟩
     have ity:∀{M:Hp},Q1 K M xs[j]:=by
       intro M
       have:∀x∈xs,Q1 K M x:=by
         intro x hx;rw[exs,lm] at hx;simp only[cq5,cv6,or_false] at hx
         rcases hx with rfl|rfl|rfl|rfl
         · exact L7 ⟨by decide,by decide⟩
         · exact ax6 true
         · exact bs4
         · exact L7 ⟨by omega,by omega⟩
       exact this _ (cs0 jl)
     generalize xs[j]=y at ity ⊢;have s7:c9 H6 (e8 H6 w2 (.lst [y])):=c9.upd_new n7;have g7:(e8 H6 w2 (.lst [y])) w2=some (.lst [y]):=c8;have ng7:w2≠g:=r9 P6 n7;have P7:=m5 P6 s7;generalize (e8 H6 w2 (.lst [y]))=H7 at s7 g7 P7 ⊢;refine ⟨w1,w2,_,_,rfl,rfl,s7 _ _ (kb6 _ _ (s5 _ _ g4) ng4),g7,cr5 (m4 (by rw[ml];show at_.toNat+1<=1000;omega)),fun w3 n8=> ?_⟩;have s8:c9 H7 (e8 H7 w3 (.lst ((p.map V.int).take at_.toNat++[y]))):=c9.upd_new n8;have g8:(e8 H7 w3 (.lst ((p.map V.int).take at_.toNat++[y]))) w3=some (.lst ((p.map V.int).take at_.toNat++[y])):=c8;have ng8:w3≠g:=r9 P7 n8;have P8:=m5 P7 s8;generalize (e8 H7 w3 (.lst ((p.map V.int).take at_.toNat++[y])))=H8 at s8 g8 P8 ⊢;have h6:=kb6 _ _ (s5 _ _ (s4 _ _ h3)) lg;refine ⟨_,rfl,_,rfl,_,rfl,l,_,rfl,i8.of (s8 _ _ (s7 _ _ h6)),fun w4 n9=> ?_⟩;rw[Z0 a0 (by rw[lm];omega)];have s9:c9 H8 (e8 H8 w4 (.lst ((p.map V.int).drop at_.toNat))):=c9.upd_new n9;have g9:(e8 H8 w4 (.lst ((p.map V.int).drop at_.toNat))) w4=some (.lst ((p.map V.int).drop at_.toNat)):=c8;have ng9:w4≠g:=r9 P8 n9;have P9:=m5 P8 s9;generalize (e8 H8 w4 (.lst ((p.map V.int).drop at_.toNat)))=H9 at s9 g9 P9 ⊢;refine ⟨w3,w4,_,_,rfl,rfl,s9 _ _ g8,g9,cr5 (m4 (by rw[co9,ml];show at_.toNat+1+_<=1000;omega)),fun w5 n10=> ?_⟩;have s10:c9 H9 (e8 H9 w5 (.lst ((p.map V.int).take at_.toNat++[y]++(p.map V.int).drop at_.toNat))):=c9.upd_new n10;have g10:(e8 H9 w5 (.lst ((p.map V.int).take at_.toNat++[y]++(p.map V.int).drop at_.toNat))) w5=some (.lst ((p.map V.int).take at_.toNat++[y]++(p.map V.int).drop at_.toNat)):=c8;have ng10:w5≠g:=r9 P9 n10;have P10:=m5 P9 s10;generalize (e8 H9 w5 (.lst ((p.map V.int).take at_.toNat++[y]++(p.map V.int).drop at_.toNat)))=H10 at s10 g10 P10 ⊢;have st:=(s7.trans s8).trans (s9.trans s10);refine q (.ref w5) H10 (P10.mono (by omega)) (kb03.trans (((s4.trans s5).but g).trans (kb6.trans (st.but g)))) (E9 (N6 g10 ng10 ng10) (fun x hx=> ?_) (by rw[co9,co9,ml];simp only[cs2];omega))
     rcases cp4.mp hx with z|z
     · rcases cp4.mp z with z|z
       · exact itL x z
       · rw[cq7.mp z];exact ity
     · exact itR0 x z
   refine ⟨_,rfl,_,rfl,_,rfl,l,_,rfl,i8.of h3,fun w1 n4=> ?_⟩;rw[ah0 a0 (by rw[lm];omega)];have s4:c9 H3 (e8 H3 w1 (.lst ((p.map V.int).take at_.toNat))):=c9.upd_new n4;have g4:(e8 H3 w1 (.lst ((p.map V.int).take at_.toNat))) w1=some (.lst ((p.map V.int).take at_.toNat)):=c8;have ng4:w1≠g:=r9 P3 n4;have P4:=m5 P3 s4;generalize (e8 H3 w1 (.lst ((p.map V.int).take at_.toNat)))=H4 at s4 g4 P4 ⊢;refine ⟨_,rfl,_,rfl,_,rfl,g,l,_,p,at_,rfl,P4,by omega,s4 _ _ h3,lg,pb,l40,a0,a1,fun y H5 P5 kb5 ity=> ?_⟩;refine ⟨(show 1<=sizeLine by decide),fun w2 n6=> ?_⟩;have s6:c9 H5 (e8 H5 w2 (.lst [y])):=c9.upd_new n6;have g6:(e8 H5 w2 (.lst [y])) w2=some (.lst [y]):=c8;have ng6:w2≠g:=r9 P5 n6;have P6:=m5 P5 s6;generalize (e8 H5 w2 (.lst [y]))=H6 at s6 g6 P6 ⊢;refine ⟨w1,w2,_,_,rfl,rfl,s6 _ _ (kb5 _ _ g4 ng4),g6,cr5 (m4 (by rw[ml];show at_.toNat+1<=1000;omega)),fun w3 n7=> ?_⟩;have s7:c9 H6 (e8 H6 w3 (.lst ((p.map V.int).take at_.toNat++[y]))):=c9.upd_new n7;have g7:(e8 H6 w3 (.lst ((p.map V.int).take at_.toNat++[y]))) w3=some (.lst ((p.map V.int).take at_.toNat++[y])):=c8;have ng7:w3≠g:=r9 P6 n7;have P7:=m5 P6 s7;generalize (e8 H6 w3 (.lst ((p.map V.int).take at_.toNat++[y])))=H7 at s7 g7 P7 ⊢;have h5:=kb5 _ _ (s4 _ _ h3) lg;refine ⟨_,rfl,_,rfl,_,_,rfl,rfl,_,rfl,l,_,rfl,i8.of (s7 _ _ (s6 _ _ h5)),fun w4 n8=> ?_⟩;rw[show C6 (p.map V.int) (some (at_+1)) none=(p.map V.int).drop (at_+1).toNat from Z0 (by omega) (by rw[lm];omega)];have s8:c9 H7 (e8 H7 w4 (.lst ((p.map V.int).drop (at_+1).toNat))):=c9.upd_new n8;have g8:(e8 H7 w4 (.lst ((p.map V.int).drop (at_+1).toNat))) w4=some (.lst ((p.map V.int).drop (at_+1).toNat)):=c8;have ng8:w4≠g:=r9 P7 n8;have P8:=m5 P7 s8;generalize (e8 H7 w4 (.lst ((p.map V.int).drop (at_+1).toNat)))=H8 at s8 g8 P8 ⊢;refine ⟨w3,w4,_,_,rfl,rfl,s8 _ _ g7,g8,cr5 (m4 (by rw[co9,ml];show at_.toNat+1+_<=1000;omega)),fun w5 n9=> ?_⟩;have s9:c9 H8 (e8 H8 w5 (.lst ((p.map V.int).take at_.toNat++[y]++(p.map V.int).drop (at_+1).toNat))):=c9.upd_new n9;have g9:(e8 H8 w5 (.lst ((p.map V.int).take at_.toNat++[y]++(p.map V.int).drop (at_+1).toNat))) w5=some (.lst ((p.map V.int).take at_.toNat++[y]++(p.map V.int).drop (at_+1).toNat)):=c8;have ng9:w5≠g:=r9 P8 n9;have P9:=m5 P8 s9;generalize (e8 H8 w5 (.lst ((p.map V.int).take at_.toNat++[y]++(p.map V.int).drop (at_+1).toNat)))=H9 at s9 g9 P9 ⊢;have st:=(s6.trans s7).trans (s8.trans s9);refine q (.ref w5) H9 (P9.mono (by omega)) (kb03.trans ((s4.but g).trans (kb5.trans (st.but g)))) (E9 (N6 g9 ng9 ng9) (fun x hx=> ?_) (by rw[co9,co9,ml];simp only[cs2];omega))
   rcases cp4.mp hx with z|z
   · rcases cp4.mp z with z|z
     · exact itL x z
     · rw[cq7.mp z];exact ity.keep (ak4 (l:=g) (st.but g))
   · exact itR x z
theorem bs6 {ts:List Str}{m:Nat}(h:∀t∈ts,t.length<=m):(ts.map (·.length)).sum<=ts.length*m:=by
 induction ts with
 |nil=>simp
 |cons t ts ih=>
  have:=ih fun x hx=>h x (cp6 _ hx)
  have:=h t cp7;rw[cr0,cz8,cp9,da8];omega
theorem cd4 {ns:List Int}(l:ns.length<=40)(b:∀x∈ns,0<=x/\x < 40):(enD ns).showable=true/\(enD ns).shown.length<=sizeLine:=by
 unfold enD
 have key:∀(l:List (Int×Nat)),(∀x∈l,0<=x.1/\x.1 < 40/\x.2 < 100)->PyData.showableKv (l.map fun p=>(PyData.int (p.2:Int),PyData.int p.1))=true/\(∀t∈PyData.shownKv (l.map fun p=>(PyData.int (p.2:Int),PyData.int p.1)),t.length<=100)/\(PyData.shownKv (l.map fun p=>(PyData.int (p.2:Int),PyData.int p.1))).length=l.length:=by
   intro l
   induction l with
   |nil=>exact fun _=>⟨by rw[cw0,PyData.showableKv],(fun t ht=>by rw[cw0,PyData.shownKv] at ht;cases ht),by rw[cw0,PyData.shownKv];rfl⟩
   |cons x l ih=>
    intro h
    obtain ⟨i1,i2,i3⟩:=ih fun y hy=>h y (cp6 _ hy)
    have hx:=h x cp7
    have lg:∀z:Int,0<=z->z < 100->z.natAbs.log2 < 7:=fun z z0 z1=>by
      by_cases y:z.natAbs=0
      · rw[y,da0];omega
      · exact (cz4 y).mpr (by omega)
    have g1:=lg (x.2:Int) (by omega) (by omega);have g2:=lg x.1 (by omega) (by omega);refine ⟨?_,fun t ht=> ?_,?_⟩
    · rw[cr0,PyData.showableKv,PyData.showable,PyData.showable,i1,Bool.and_true];rw[cs9];exact ⟨decide_eq_true (by omega),decide_eq_true (by omega)⟩
    · rw[cr0,PyData.shownKv,PyData.shown,PyData.shown] at ht
      rcases cq5.mp ht with z|z
      · rw[z];have e1:=int_text_length_le (k:=7) (by decide) g1;have e2:=int_text_length_le (k:=7) (by decide) g2;rw[strLen_append,strLen_append,ofString_length,ofString_length,ofString_length];have:(": ":String).length=2:=rfl;omega
      · exact i2 t z
    · rw[cr0,PyData.shownKv,cp9,cp9,i3]
 obtain ⟨k1,k2,k3⟩:=key ns.zipIdx fun x hx=>by
   have h1:=List.mem_zipIdx hx
   have h2:x.1∈ns:=by
     obtain ⟨_,h,e⟩:=h1;rw[e];exact cs0 _
   have:=b _ h2;omega
 refine ⟨by rw[PyData.showable];exact k1,?_⟩;rw[PyData.shown];refine cq3 (dictText_len_le _) ?_;have:=bs6 k2;rw[k3,List.length_zipIdx] at*;rw[sizeLine_eq];have:=cy8 100 l;omega
theorem ch7 {H:Hp}{n:Nat}{x u:V}(c:CpR H n x u)(h:ShX H x):∃t,ShT H u t/\ShT H x t:=by
 rcases h with ⟨d,da,sh,le,dp⟩|⟨a,ns,rfl,ha,l,b⟩
 · have le':d.shown.length<=sizeLine:=cq3 le (by rw[sizeLine_eq];omega);exact ⟨d.shown,.inl ⟨d,⟨c.da da,sh,le',by omega⟩,rfl⟩,.inl ⟨d,⟨da,sh,le',by omega⟩,rfl⟩⟩
 · obtain ⟨e1,e2⟩:=cd4 l b;have r:ShT H (.ref a) (enD ns).shown:= .inr ⟨a,ns,rfl,ha,e1,e2,rfl⟩
   cases c with
   |same _=>exact ⟨_,r,r⟩
   |lst e _ _ _ _=>rw[ha] at e;cases e
def bl1 (K:PySem.W.Frag):Sp:=fun vs H Q _=>∃(a:Addr) (ns:List Int),vs=[.ref a]/\i8 K H a (ns.map V.int)/\ns.length<=63/\∀H',Q (.bl true) H'
end
end My
namespace My
open PySem L2 Mth
section
variable {P:Program} {w:World} {K:PySem.W.Frag} {mg:Str->Option Value} {base:Heap} {zxy zzz zwz zzy zyz zyx zyy zxx zx zxz zw:Addr}
theorem T5 {as:List Addr}{j:Nat}{x:V}(h:(as.map V.ref)[j]? =some x):∃a,as[j]? =some a/\x=V.ref a:=by
 rw[cq4] at h
 cases e:as[j]? with
 |none=>rw[e] at h;cases h
 |some a=>rw[e] at h;exact ⟨a,rfl,(Option.some.inj h).symm⟩
theorem M9 {H:Hp}{as:List Addr}{rs:List (List Int)}{j:Nat}{a:Addr}(rows:x8 H as rs)(h:as[j]? =some a):∃r,rs[j]? =some r/\H a=some (.lst (r.map V.int)):=by
 have il:j < rs.length:=by rw[<-rows.1];exact (cp0.mp h).1
 exact ⟨_,cp1 il,rows.2 j a _ h (cp1 il)⟩
def ai5:Sp:=fun vs H Q _=>∃(l:Addr) (as:List Addr) (rs:List (List Int)),vs=[.ref l]/\H l=some (.lst (as.map V.ref))/\x8 H as rs/\[]∈rs/\Q (.bl false) H
theorem T7:r6 ["rounds","ring"] ["rounds"] (m6 D9):=by rfl'
theorem af9 {f:Addr}{fd:FuncData}(F:B6 K "are_filled_lists" "are_filled_lists" D9 f fd)(B:Bl mg):q9 P w K mg base C3 1 f fd ["rounds"] ai5:=by
 refine F.ok T7 (fun vs H Q E h=> ?_) (fun cdv A outer s H vs Q E hr h=> ?_)
 · obtain ⟨l,as,rs,rfl,hl,rows,hne,q⟩:=h;rfl
 · obtain ⟨l,as,rs,rfl,hl,rows,hne,q⟩:=h;refine ⟨_,@i4 _ _ _ _ _ (@A0 _ _ _ _ _ _ _ _ (@C1 _ _ _ _ (@B4 _ _ _ (@K9 _ _ _ _ _ _ B.isi (@c6 _ _ _ _ _ (pv 0) (@c6 _ _ _ _ _ (@J0 _ _ B.list (by rfl)) (@c7 _) (by rfl)) (by rfl)) (by rfl) (by rfl) (by rfl)) (by intro _;rfl))) (@i5 _ _ _ (@m7 _ _ _ _ (@B5 _ _ _ _))) (@o8 _)) (@i4 _ _ _ _ _ (@B7 _ _ _ _ _ _ _ _ PassesOwn.never rfl (@A8 _ _ _ _ (pv 0)) (@v0 _ _ (1) _ T7.nd rfl (Or.inl rfl) (by trivial)) (@i5 _ _ _ (@A0 _ _ _ _ _ _ _ _ (@D7 _ _ _ _ _ _ _ (@C1 _ _ _ _ (@B4 _ _ _ (@K9 _ _ _ _ _ _ B.isi (@c6 _ _ _ _ _ (pv 1) (@c6 _ _ _ _ _ (@J0 _ _ B.list (by rfl)) (@c7 _) (by rfl)) (by rfl)) (by rfl) (by rfl) (by rfl)) (by intro _;rfl))) (@K8 _ _ _ _ (@m9 _ _ _ _ _ _ _ _ E3 (@x9 _ _ _ _ _ B.len (@c6 _ _ _ _ _ (pv 1) (@c7 _) (by rfl)) (by rfl) (by rfl)) (@i7 _ _ _ _) (q0 _)))).pt (@i5 _ _ _ (@m7 _ _ _ _ (@B5 _ _ _ _))) (@o8 _))) (by intro _;rfl)) (@i5 _ _ _ (@m7 _ _ _ _ (@B5 _ _ _ _)))),?_⟩;refine ⟨_,rfl,_,"list",_,true,rfl,.lst hl,D2 K "list",true,rfl,A5 ?_⟩;refine ⟨_,rfl,l,rfl,⟨_,i8.of hl⟩,C2 (K:=K) (a:=l) (xs:=as.map V.ref) (fun i σ H2=>∃v:Option V,σ=[some (.ref l),v]/\H2=H/\[]∉rs.take i) ⟨none,rfl,rfl,by rw[db2];exact cv6⟩ (fun i σ H2 _ zz=>by obtain ⟨_,_,e,_⟩:=zz;rw[e];exact i8.of hl) ?_ ?_⟩
   · rintro i y σ H2 hi ⟨v,rfl,rfl,no⟩;obtain ⟨e,he,rfl⟩:=T5 hi;obtain ⟨r,hr,h2⟩:=M9 rows he;refine ⟨_,rfl,_,"list",_,true,rfl,.lst h2,D2 K "list",true,rfl,A5 ⟨_,rfl,e,_,rfl,.inl (i8.of h2),rfl,_,rfl,?_⟩⟩
     by_cases z:r=[]
     · subst z;exact B3 q
     · rw[decide_eq_false fun y=>z ?_]
       · refine A5 ⟨_,rfl,rfl,?_⟩;rw[o9 hr]
         exact fun y=>(cp4.mp y).elim no fun y=>z (cq7.mp y).symm
       · have y:=V.int.inj y;rw[co8] at y;exact cw7 (by omega)
   · rintro σ H2 ⟨v,rfl,rfl,no⟩;rw[co8,rows.1,cr7] at no;exact absurd hne no
theorem ab0 {n:Nat}(h:n<=100000):n < sizeLine:=by
 rw[sizeLine_eq];omega
def ai6:Sp:=fun vs H Q _=>∃(l:Addr) (as:List Addr) (rs:List (List Int)),vs=[.ref l]/\H l=some (.lst (as.map V.ref))/\x8 H as rs/\rs.flatten.length<=100000/\
 ∀(o:Addr) (H':Hp),H o=none->c9 H H'->H' o=some (.lst (rs.flatten.map V.int))->Q (.ref o) H'
theorem aa0:r6 ["rounds","things","ring"] ["rounds"] (m6 O9):=by rfl'
theorem bd0 {f:Addr}{fd:FuncData}(F:B6 K "things_in" "things_in" O9 f fd):q9 P w K mg base C3 1 f fd ["rounds"] ai6:=by
 refine F.ok aa0 (fun vs H Q E h=> ?_) (fun cdv A outer s H vs Q E hr h=> ?_)
 · obtain ⟨l,as,rs,rfl,hl,rows,hb,q⟩:=h;rfl
 · obtain ⟨l,as,rs,rfl,hl,rows,hb,q⟩:=h;refine ⟨_,@i4 _ _ _ _ _ (@l8 _ _ (1) _ _ _ _ aa0.nd rfl (Or.inl rfl) (@m8 _ _ _ _ (@c7 _)) (by rfl) (by trivial)) (@i4 _ _ _ _ _ (@B7 _ _ _ _ _ _ _ _ PassesOwn.never rfl (@A8 _ _ _ _ (pv 0)) (@v0 _ _ (2) _ aa0.nd rfl (Or.inl rfl) (by trivial)) (@i5 _ _ _ (@C4 _ _ _ _ (@av3 _ _ _ _ _ _ _ (pv 1) (@c6 _ _ _ _ _ (pv 2) (@c7 _) (by rfl)) (by rfl) (by rfl) (by rfl) (by rfl) (by rfl)) (by rfl))) (by intro _;rfl)) (@i5 _ _ _ (@m7 _ _ _ _ (pv 1)))),?_⟩;refine ⟨cs1 _,fun o ho=> ?_⟩;have s0:c9 H (e8 H o (.lst [])):=c9.upd_new ho;refine ⟨_,rfl,l,rfl,⟨_,i8.of (s0 l _ hl)⟩,C2 (K:=K) (a:=l) (xs:=as.map V.ref) (fun i σ H2=>∃v:Option V,σ=[some (.ref l),some (.ref o),v]/\c9 H H2/\H2 o=some (.lst ((rs.take i).flatten.map V.int))) ⟨none,rfl,s0,c8⟩ (fun i σ H2 _ zz=>by obtain ⟨_,_,s,_⟩:=zz;exact i8.of (s l _ hl)) ?_ ?_⟩
   · rintro i y σ H2 hi ⟨v,rfl,s2,h2o⟩;obtain ⟨e,he,rfl⟩:=T5 hi;obtain ⟨r,hr,h2⟩:=M9 rows he;have hle:=Z7 rs (i+1);rw[o9 hr,cq6,cr1,co9] at hle;refine ⟨_,rfl,.inl ⟨rfl,_,i8.of h2o⟩,_,rfl,o,e,_,_,rfl,rfl,h2o,s2 _ _ h2,cr5 (ab0 (by rw[co8,co8];omega)),?_⟩;refine ⟨_,rfl,fun b u hb=>by rw[i6 (i9 hb ho)];exact s2 b u hb,?_⟩;rw[c8,o9 hr,cq6,cr1,cp5]
   · rintro σ H2 ⟨v,rfl,s2,h2o⟩;rw[co8,rows.1,cr7] at h2o;exact ⟨_,rfl,q o H2 ho s2 h2o⟩
theorem ac5:r6 ["rounds","told","ring"] ["rounds"] (m6 M8):=aq8
theorem bw9 {p q:List Int}(h:p.map V.int=q.map V.int):p=q:=(List.map_inj_right (fun x y (h:V.int x=V.int y)=>V.int.inj h)).mp h
def as9 (q:Addr):Sp:=fun vs H _ E=>∃(l:Addr) (as:List Addr) (rs:List (List Int)),vs=[.ref l]/\H l=some (.lst (as.map V.ref))/\x8 H as rs/\¬((∀r∈rs,r≠[])/\D8 rs.flatten/\rs.flatten.length<=40)/\rs.flatten.length<=100000/\∀H',c9 H H'->E (.ref q) none H'
theorem ar0 {f:Addr}{fd:FuncData}(F:B6 K "from_rounds" "from_rounds" M8 f fd)(zwy:A2 P w K mg base "are_filled_lists" 1 ["rounds"] (ae3 ae9 ai5))(zuy:A2 P w K mg base "things_in" 1 ["rounds"] (ae3 af0 ai6))(zwx:A2 P w K mg base "is_turn" 2 ["thing"] (ae3 U4 (ak3 K)))(zsx:Z1 K mg "NoRounds" zzy):q9 P w K mg base (X2 P w) 3 f fd ["rounds"] (as9 zzy):=by
 refine F.okx ac5 (fun vs H Q E h=> ?_) (fun cdv A outer s H vs Q E hr h=> ?_)
 · obtain ⟨l,as,rs,rfl,hl,rows,no,len,q⟩:=h;rfl
 · obtain ⟨l,as,rs,rfl,hl,rows,no,len,q⟩:=h;have zo:A1 1 _:=hr.mono (by decide);have ziy:A1 1 _:=hr.mono (by decide);have zqy:A1 2 _:=hr.mono (by decide);refine ⟨_,@i4 _ _ _ _ _ (@A0 _ _ _ _ _ _ _ _ (@C1 _ _ _ _ (@B4 _ _ _ (@l9 _ _ _ _ _ _ _ _ _ _ zwy zo (@c6 _ _ _ _ _ (pv 0) (@c7 _) (by rfl)) (by rfl) (by decide) (by rfl) (by rfl)) (by intro _;rfl))) (@i5 _ _ _ (@am8 _ _ _ _ _ _ _ _ _ ah3 rfl zsx (@O1 _ _ _ _) (by rfl) (by rfl) (by decide))) (@o8 _)) (@i4 _ _ _ _ _ (@l8 _ _ (1) _ _ _ _ ac5.nd rfl (Or.inl rfl) (@l9 _ _ _ _ _ _ _ _ _ _ zuy ziy (@c6 _ _ _ _ _ (pv 0) (@c7 _) (by rfl)) (by rfl) (by decide) (by rfl) (by rfl)) (by rfl) (by trivial)) (@i4 _ _ _ _ _ (@A0 _ _ _ _ _ _ _ _ (@C1 _ _ _ _ (@B4 _ _ _ (@l9 _ _ _ _ _ _ _ _ _ _ zwx zqy (@c6 _ _ _ _ _ (pv 1) (@c7 _) (by rfl)) (by rfl) (by decide) (by rfl) (by rfl)) (by intro _;rfl))) (@i5 _ _ _ (@am8 _ _ _ _ _ _ _ _ _ ah3 rfl zsx (@O1 _ _ _ _) (by rfl) (by rfl) (by decide))) (@o8 _)) (@ag2 _ _))),?_⟩
   by_cases hne:[]∈rs
   · exact ⟨_,rfl,.inr ⟨l,as,rs,rfl,hl,rows,hne,false,rfl,B3 (q H (c9.refl H))⟩⟩
   · have ne:∀r∈rs,r≠[]:=fun r hr e=>hne (e▸hr)
     refine ⟨_,rfl,.inl ⟨l,as,rs,rfl,hl,rows,ne,true,rfl,A5 ⟨_,rfl,.inr ⟨l,as,rs,rfl,hl,rows,len,fun o H1 ho s1 h1=>⟨_,rfl,.inr ⟨_,rfl,?_,fun H2 s2=>⟨false,rfl,B3 (q H2 (s1.trans s2))⟩⟩⟩⟩⟩⟩⟩;refine .inr ⟨o,_,rfl,h1,fun x hx=> ?_,fun p e l t=>no ⟨ne,?_⟩⟩
     · obtain ⟨i,_,rfl⟩:=cs6.mp hx;exact .inl ⟨i,rfl⟩
     · rw[bw9 e];exact ⟨t,l⟩
theorem ar1:(["ring"]:List Str).Nodup:=by decide+kernel
theorem bl2:r6 ["p"] ["p"] (m6 V8):=by rfl'
theorem bf1 {f:Addr}{fd:FuncData}(F:B6 K "kind_of" "kind_of" V8 f fd)(B:Bl mg)(zvx:N2 P w K mg base "rounds_of" 4 ["p"] (fun vs H Q E=>I0 vs H Q E\/(E8 K zzz) vs H Q E)):q9 P w K mg base (X2 P w) 5 f fd ["p"] (E8 K zzz):=by
 refine F.okx bl2 (fun vs H Q E h=> ?_) (fun cdv A outer s H vs Q E hr h=> ?_)
 · obtain ⟨v,rfl,no,k⟩:=h;rfl
 · obtain ⟨v,rfl,no,k⟩:=h;have zr:A1 4 _:=hr.mono (by decide);refine ⟨_,@i5 _ _ _ (@m7 _ _ _ _ (@ah1 _ _ _ _ _ _ _ _ B.sorted (@c6 _ _ _ _ _ (@D5 _ _ _ _ _ _ _ _ _ _ _ (["ring"]) (1) ([]) rfl .of (@A8 _ _ _ _ (@ar8 _ _ _ _ _ _ _ _ _ _ _ zvx zr (@ah4 _ _ _ _ _ _ _ _ _ _ _ _ _ _ _ _ fun _ _ _ h=>h) (@c6 _ _ _ _ _ (pv 0) (@c7 _) (by rfl)) (by rfl) (by decide) (by rfl) (by rfl))) (fun _ _ _ _ _=>@v0 _ _ (0) _ ar1 rfl (Or.inl rfl) (by trivial)) (fun _ _ _ _ _=>(@C7 _)) (fun _ _ _ _ _=>(@ae1 _ _ _ _ _ K (by exact B.len) (@c6 _ _ _ _ _ (pv 0) (@c7 _) (by rfl)) (by rfl) (by rfl) (by rfl))) (by intro _;rfl)) (@c7 _) (by rfl)) (by rfl) (by rfl) (by rfl))),?_⟩;exact ⟨_,rfl,.inr ⟨v,rfl,no,k⟩⟩
theorem bf2 {X:Cx}{tg iter:Expr}{body:List Stmt}{ti:TE}{pos:Pos}(hi:PE X iter ti)(hs:∀x,foldedSetIterable iter X.env x=pure x:=by intro _;rfl):PS X (.For tg iter body [] pos) (fun _ σ H=>ti σ H fun _ _=>False):=by
 intro pins s σ H D I h;exact wpAny_For (y9 (hi pins s σ H _ I h) fun v s1 ⟨x,H1,I1,r1,q1⟩=>q1.elim) hs
theorem ar2:r6 ["p","home","length"] ["p"] (m6 V9):=by rfl'
theorem bf3 {f:Addr}{fd:FuncData}(F:B6 K "home_of" "home_of" V9 f fd)(zt:N2 P w K mg base "kind_of" 5 ["p"] (fun vs H Q E=>ac4 vs H Q E\/(E8 K zzz) vs H Q E)):q9 P w K mg base (X2 P w) 6 f fd ["p"] (E8 K zzz):=by
 refine F.okx ar2 (fun vs H Q E h=> ?_) (fun cdv A outer s H vs Q E hr h=> ?_)
 · obtain ⟨v,rfl,no,k⟩:=h;rfl
 · obtain ⟨v,rfl,no,k⟩:=h;have zqx:A1 5 _:=hr.mono (by decide);refine ⟨_,@i4 _ _ _ _ _ (@l8 _ _ (1) _ _ _ _ ar2.nd rfl (Or.inl rfl) (@i7 _ _ _ _) (by rfl) (by trivial)) (@i4 _ _ _ _ _ (bf2 (@ar8 _ _ _ _ _ _ _ _ _ _ _ zt zqx (@ah4 _ _ _ _ _ _ _ _ _ _ _ _ _ _ _ _ fun _ _ _ h=>h) (@c6 _ _ _ _ _ (pv 0) (@c7 _) (by rfl)) (by rfl) (by decide) (by rfl) (by rfl))) (@ag2 _ _)),?_⟩;exact ⟨_,rfl,.inr ⟨v,rfl,no,k⟩⟩
end
end My
namespace My
open PySem L2 Mth
section
variable {P:Program} {w:World} {K:PySem.W.Frag} {mg:Str->Option Value} {base:Heap} {zxy zzz zwz zzy zyz zyx zyy zxx zx zxz zw:Addr}
structure ch8 (p:List Int)(qs:List (List Int)):Prop where
 ring:∀r∈qs,∃y L,In p y/\O6 p y L/\r=o6 p y L
 flat:qs.flatten.Perm (D6 0 p.length)
def bd1:Sp:=fun vs H Q _=>∃(g a:Addr) (p:List Int) (c:Nat),vs=[.ref g,.ref a]/\x6 H g c/\c<=800000/\a≠g/\ac1 H a p/\
 ∀(l:Addr) (cs:List Addr) (qs:List (List Int)) (H':Hp),H l=none->H' l=some (.lst (cs.map V.ref))->x8 H' cs qs->ch8 p qs->g∉cs->x6 H' g (c+200)->l7 g H H'->Q (.ref l) H'
theorem J9:r6 ["pool","p","found","one","at"] ["pool","p"] (m6 N9):=by rfl'
theorem ai7 {f:Addr}{fd:FuncData}(F:B6 K "_law_told_rounds" "_law_told_rounds" N9 f fd)(B:Bl mg)(zvz:A2 P w K mg base "_law_mixed_up" 2 ["pool","things"] (ac3 K))(zrz:A2 P w K mg base "_law_rounds" 1 ["p"] I0)(zzx:A2 P w K mg base "_law_take" 1 ["pool","many"] Q0):q9 P w K mg base C3 3 f fd ["pool","p"] bd1:=by
 refine F.ok J9 (fun vs H Q E h=> ?_) (fun cdv A outer s H vs Q E hr h=> ?_)
 · obtain ⟨g,a,p,c,rfl,hp,hc,nag,⟨ha,tp,lp⟩,q⟩:=h;rfl
 · obtain ⟨g,a,p,c,rfl,hp,hc,nag,⟨ha,tp,lp⟩,q⟩:=h;have zlz:A1 2 _:=hr.mono (by decide);have zjx:A1 1 _:=hr.mono (by decide);have zy:A1 1 _:=hr.mono (by decide);refine ⟨_,@i4 _ _ _ _ _ (@l8 _ _ (2) _ _ _ _ J9.nd rfl (Or.inl rfl) (@m8 _ _ _ _ (@c7 _)) (by rfl) (by trivial)) (@i4 _ _ _ _ _ (@B7 _ _ _ _ _ _ _ _ PassesOwn.never rfl (@A8 _ _ _ _ (@l9 _ _ _ _ _ _ _ _ _ _ zvz zlz (@c6 _ _ _ _ _ (pv 0) (@c6 _ _ _ _ _ (@l9 _ _ _ _ _ _ _ _ _ _ zrz zjx (@c6 _ _ _ _ _ (pv 1) (@c7 _) (by rfl)) (by rfl) (by decide) (by rfl) (by rfl)) (@c7 _) (by rfl)) (by rfl)) (by rfl) (by decide) (by rfl) (by rfl))) (@v0 _ _ (3) _ J9.nd rfl (Or.inl rfl) (by trivial)) (@i4 _ _ _ _ _ (@l8 _ _ (4) _ _ _ _ J9.nd rfl (Or.inl rfl) (@l9 _ _ _ _ _ _ _ _ _ _ zzx zy (@c6 _ _ _ _ _ (pv 0) (@c6 _ _ _ _ _ (@x9 _ _ _ _ _ B.len (@c6 _ _ _ _ _ (pv 3) (@c7 _) (by rfl)) (by rfl) (by rfl)) (@c7 _) (by rfl)) (by rfl)) (by rfl) (by decide) (by rfl) (by rfl)) (by rfl) (by trivial)) (@i5 _ _ _ (@C4 _ _ _ _ (@M0 _ _ _ _ _ _ _ (pv 2) (@c6 _ _ _ _ _ (@m3 _ _ _ _ _ _ _ _ B8 (@D1 _ _ _ _ _ _ _ _ _ _ E6 (pv 3) (@E5 _ _ _ (pv 4)) (@E4 _)) (@D1 _ _ _ _ _ _ _ _ _ _ E6 (pv 3) (@E4 _) (@E5 _ _ _ (pv 4)))) (@c7 _) (by rfl)) (by rfl) (by rfl) (by rfl) (by rfl) (by rfl)) (by rfl)))) (by intro _;rfl)) (@i5 _ _ _ (@m7 _ _ _ _ (pv 2)))),?_⟩;refine ⟨cs1 _,fun l hl=> ?_⟩;obtain ⟨x0,y0,z0,hga,hz0,hz0'⟩:=id hp;have ngl:g≠l:=i9 hga hl;have s1:c9 H (e8 H l (.lst [])):=c9.upd_new hl;have h1l:(e8 H l (.lst [])) l=some (.lst []):=c8;generalize (e8 H l (.lst []))=H1 at s1 h1l ⊢;refine ⟨_,rfl,_,rfl,a,p,rfl,⟨s1 a _ ha,tp,lp⟩,fun ro as rs H2 hro s12 h2ro rows up fa nda nra=> ?_⟩;have cl:=ae8 up;have fl:=aq3 tp up
   have las:as.length<=40:=by rw[rows.1];omega
   have P2:x6 H2 g c:=⟨x0,y0,z0,s12 g _ (s1 g _ hga),hz0,hz0'⟩;refine ⟨g,ro,c,as.map V.ref,rfl,P2,by rw[co8];omega,i8.of h2ro,by rw[co8];omega,fun mx ys H3 hmx hperm h3mx P3 kb23=> ?_⟩;obtain ⟨as',rfl,hpr⟩:=bq2 hperm
   have nmg:mx≠g:=fun z=>by rw[z,s12 g _ (s1 g _ hga)] at hmx;cases hmx
   have h3l:=kb23 l _ (s12 l _ h1l) ngl.symm
   have nml:mx≠l:=fun z=>by rw[z,s12 l _ h1l] at hmx;cases hmx
   have kb03:l7 g H H3:=fun b o hb hn=>kb23 b o (s12 b o (s1 b o hb)) hn
   have P3:=P3.mono (d:=c+40) (by rw[co8];omega);have hrow:as.map (V3 H2)=rs:=bj3 rows
   have nasg:∀e∈as,e≠g/\e≠l/\∃x L,In p x/\O6 p x L/\V3 H2 e=o6 p x L/\H2 e=some (.lst ((o6 p x L).map V.int)):=fun e he=>by
     obtain ⟨j,hj⟩:=ct4.mp he;have hjl:=(cp0.mp hj).1;have hrj:rs[j]? =some (rs[j]'(by rw[<-rows.1];exact hjl)):=cp1 _;have h2e:=rows.2 j e _ hj hrj;obtain ⟨x,L,hx,pr,er,_⟩:=up.ring _ (cp3 hrj);refine ⟨fun z=> ?_,fun z=> ?_,x,L,hx,pr,by rw[ba0 h2e,er],by rw[<-er];exact h2e⟩
     · have:=fa e he;rw[z,s1 g _ hga] at this;cases this
     · have:=fa e he;rw[z,h1l] at this;cases this
   refine ⟨mx,rfl,⟨_,i8.of h3mx⟩,C2 (K:=K) (a:=mx) (xs:=as'.map V.ref) (fun i σ H4=>∃(cs:List Addr) (qs:List (List Int)) (v3 v4:Option V),σ=[some (.ref g),some (.ref a),some (.ref l),v3,v4]/\H4 l=some (.lst (cs.map V.ref))/\x8 H4 cs qs/\cs.length=i/\l∉cs/\g∉cs/\(∀r∈qs,∃y L,In p y/\O6 p y L/\r=o6 p y L)/\qs.flatten.Perm ((as'.take i).map (V3 H2)).flatten/\x6 H4 g (c+40+i)/\(∀b o,H3 b=some o->b≠g->b≠l->H4 b=some o))
     ⟨[],[],none,none,rfl,h3l,⟨rfl,fun j b r h=>by simp at h⟩,rfl,by simp,by simp,fun r hr=>by simp at hr,List.Perm.refl _,P3,fun b o h _ _=>h⟩
     (fun i σ H4 _ zz=>by obtain ⟨_,_,_,_,_,_,_,_,_,_,_,_,_,k⟩:=zz;exact i8.of (k mx _ h3mx nmg nml)) ?_ ?_⟩
   · rintro i y σ H4 hi ⟨cs,qs,v3,v4,rfl,h4l,rowsC,lcs,nlc,ngc,hring,hflat,P4,k4⟩;rw[cq4] at hi
     cases hA:as'[i]? with
     |none=>rw[hA] at hi;cases hi
     |some e=>
      rw[hA] at hi;cases hi;have hil:i < as'.length:=(cp0.mp hA).1;have lpr:=hpr.length_eq;have hea:e∈as:=hpr.mem_iff.mp (cp3 hA);obtain ⟨neg,nel,x,L,hx,pr,erow,h2e⟩:=nasg e hea;have h4e:=k4 e _ (kb23 e _ h2e neg) neg nel
      have hL40:=N5 tp hx (m:=L) fun i i0 i1=>pr.least i i0 i1
      have hpos:=pr.pos;refine ⟨_,rfl,_,rfl,e,_,rfl,.inl (i8.of h4e),?_⟩;rw[co8,A4];refine ⟨g,c+40+i,(L:Int),rfl,P4,by omega,by omega,by omega,fun at_ H5 at0' at1 P5 kb45=> ?_⟩;obtain ⟨k,rfl⟩:=cq8 at0';have h5e:=kb45 e _ h4e neg;have h5l:=kb45 l _ h4l ngl.symm;refine ⟨_,rfl,.inl ⟨rfl,_,i8.of h5l⟩,_,rfl,_,rfl,_,rfl,e,_,rfl,i8.of h5e,fun c1 hc1=> ?_⟩;rw[L2.Z0 _ k (by rw[co8,A4];omega)];have nec1:e≠c1:=i9 h5e hc1;refine ⟨_,rfl,_,rfl,_,rfl,e,_,rfl,i8.of (by rw[i6 nec1];exact h5e),fun c2 hc2=> ?_⟩;rw[L2.ah0 _ k (by rw[co8,A4];omega)]
      have h21:c2≠c1:=fun z=>by rw[z,c8] at hc2;cases hc2
      have hc25:H5 c2=none:=by rw[i6 h21] at hc2;exact hc2
      refine ⟨c1,c2,_,_,rfl,rfl,by rw[i6 h21.symm,c8],c8,?_,fun c3 hc3=> ?_⟩
      · have:=m4 (show L<=1000 by omega);rw[cq9,cq2,co8,A4];omega
      have h32:c3≠c2:=fun z=>by rw[z,c8] at hc3;cases hc3
      have h31:c3≠c1:=fun z=>by rw[z,i6 h21.symm,c8] at hc3;cases hc3
      have hc35:H5 c3=none:=by rw[i6 h32,i6 h31] at hc3;exact hc3
      have erot:(List.drop k ((o6 p x L).map V.int))++(List.take k ((o6 p x L).map V.int))=(o6 p (it p k x) L).map V.int:=by
        rw[<-av4 pr (show k<=L by omega),cp5,cw9,cw2]
      rw[erot];have s58:c9 H5 (e8 (e8 (e8 H5 c1 (.lst (List.drop k ((o6 p x L).map V.int)))) c2 (.lst (List.take k ((o6 p x L).map V.int)))) c3 (.lst ((o6 p (it p k x) L).map V.int))):=((c9.upd_new hc1).upd_r hc25).upd_r hc35;have h8c:(e8 (e8 (e8 H5 c1 (.lst (List.drop k ((o6 p x L).map V.int)))) c2 (.lst (List.take k ((o6 p x L).map V.int)))) c3 (.lst ((o6 p (it p k x) L).map V.int))) c3=some (.lst ((o6 p (it p k x) L).map V.int)):=c8;generalize (e8 (e8 (e8 H5 c1 (.lst (List.drop k ((o6 p x L).map V.int)))) c2 (.lst (List.take k ((o6 p x L).map V.int)))) c3 (.lst ((o6 p (it p k x) L).map V.int)))=H8 at s58 h8c ⊢;have h8l:=s58 l _ h5l;have nlc3:l≠c3:=i9 h5l hc35;refine ⟨l,_,_,rfl,rfl,h8l,m4 (by rw[co8];omega),?_⟩;obtain ⟨x5,y5,z5,h5g,hz5,hz5'⟩:=id P5;have ngc3:g≠c3:=i9 h5g hc35;refine ⟨cs++[c3],qs++[o6 p (it p k x) L],_,_,rfl,by rw[c8,cp5];rfl,?_,by rw[co9,lcs];rfl,?_,?_,?_,?_,⟨x5,y5,z5,by rw[i6 ngl];exact s58 g _ h5g,hz5,by omega⟩,fun b o hb hbg hbl=> ?_⟩
      · refine M1 (y6 rowsC fun b hb o ho=> ?_) (by rw[i6 nlc3.symm];exact h8c)
        have hbl:b≠l:=fun z=>nlc (by rw[<-z];exact hb)
        have hbg:b≠g:=fun z=>ngc (by rw[<-z];exact hb)
        rw[i6 hbl];exact s58 b o (kb45 b o ho hbg)
      · intro z
        rcases cp4.mp z with z|z
        · exact nlc z
        · exact nlc3 (by simpa using z)
      · intro z
        rcases cp4.mp z with z|z
        · exact ngc z
        · exact ngc3 (by simpa using z)
      · intro r hr'
        rcases cp4.mp hr' with z|z
        · exact hring r z
        · have:r=o6 p (it p k x) L:=by simpa using z
          exact ⟨_,L,X6 tp hx k,pr.shift tp hx k,this⟩
      · rw[o9 hA,cp5,cq6,cq6];refine List.Perm.append hflat ?_;show ([o6 p (it p k x) L]).flatten.Perm ([V3 H2 e]).flatten;rw[cr1,cr1,erow,<-av4 pr (show k<=L by omega)];exact bv4 _ _
      · rw[i6 hbl];exact s58 b o (kb45 b o (k4 b o hb hbg hbl) hbg)
   · rintro σ H4 ⟨cs,qs,v3,v4,rfl,h4l,rowsC,lcs,nlc,ngc,hring,hflat,P4,k4⟩;rw[co8] at lcs P4;have lpr:=hpr.length_eq;rw[co8,cr7] at hflat
     have hfl2:qs.flatten.Perm (D6 0 p.length):=by
       have h1:((as'.map (V3 H2)).flatten).Perm ((as.map (V3 H2)).flatten):=List.Perm.flatten (hpr.map _);rw[hrow] at h1;exact hflat.trans (h1.trans (ca4 tp up))
     refine ⟨_,rfl,q l cs qs H4 hl h4l rowsC ⟨hring,hfl2⟩ ngc (P4.mono (by omega)) fun b o hb hn=>k4 b o (kb03 b o hb hn) hn (i9 hb hl)⟩
end
end My
namespace My
open PySem L2 Mth
section
variable {P:Program} {w:World} {K:PySem.W.Frag} {mg:Str->Option Value} {base:Heap} {zxy zzz zwz zzy zyz zyx zyy zxx zx zxz zw:Addr}
structure by9 (rs:List (List Int)):Prop where
 ne:∀r∈rs,r≠[]
 bd:∀r∈rs,∀x∈r,0<=x/\x < 40
 len:rs.flatten.length<=40
theorem K6 {H:Hp}{as:List Addr}{rs:List (List Int)}{j:Nat}{r:List Int}(rows:x8 H as rs)(h:rs[j]? =some r):∃b,as[j]? =some b/\H b=some (.lst (r.map V.int)):=by
 have il:j < as.length:=by rw[rows.1];exact (cp0.mp h).1
 exact ⟨_,cp1 il,rows.2 j _ r (cp1 il) h⟩
theorem Q8 {H:Hp}{as bs:List Addr}{rs qs:List (List Int)}(a:x8 H as rs)(b:x8 H bs qs):x8 H (as++bs) (rs++qs):=by
 refine ⟨by rw[co9,co9,a.1,b.1],fun j x r h1 h2=> ?_⟩
 by_cases c:j < as.length
 · rw[cs8 c] at h1;rw[cs8 (by rw[<-a.1];exact c)] at h2;exact a.2 j x r h1 h2
 · rw[cs4 (by omega)] at h1;rw[cs4 (by rw[<-a.1];omega),<-a.1] at h2;exact b.2 _ x r h1 h2
theorem ai8 {H:Hp}{as:List Addr}{rs:List (List Int)}(a:x8 H as rs)(k:Nat):x8 H (as.take k) (rs.take k):=by
 refine ⟨by rw[cq2,cq2,a.1],fun j x r h1 h2=> ?_⟩;have l1:=(cp0.mp h1).1;rw[cq2] at l1;rw[ct0 (by omega)] at h1 h2;exact a.2 j x r h1 h2
theorem ai9 {H:Hp}{as:List Addr}{rs:List (List Int)}(a:x8 H as rs)(k:Nat):x8 H (as.drop k) (rs.drop k):=by
 refine ⟨by rw[cq9,cq9,a.1],fun j x r h1 h2=> ?_⟩;rw[cx8] at h1 h2;exact a.2 _ x r h1 h2
theorem Q9 {H:Hp}{b:Addr}{r:List Int}(h:H b=some (.lst (r.map V.int))):x8 H [b] [r]:=M1 (as:=[]) (rs:=[]) ⟨rfl,fun j b r h=>by cases h⟩ h
theorem ch9 {α:Type}{as:List α}(nd:as.Nodup){i j:Nat}{x:α}(h:as[i]? =some x)(g:as[j]? =some x):i=j:=by
 obtain ⟨l1,e1⟩:=cp0.mp h;obtain ⟨l2,e2⟩:=cp0.mp g
 rcases Nat.lt_trichotomy i j with z|z|z
 · exact absurd (e1.trans e2.symm) (cu0.mp (cr3.mp nd) i j l1 l2 z)
 · exact z
 · exact absurd (e2.trans e1.symm) (cu0.mp (cr3.mp nd) j i l2 l1 z)
theorem bx0 {H:Hp}{as:List Addr}{rs:List (List Int)}{i:Nat}{b:Addr}{r:List Int}(a:x8 H as rs)(nd:as.Nodup)(h:as[i]? =some b):x8 (e8 H b (.lst (r.map V.int))) as (rs.set i r):=by
 refine ⟨by rw[ct5];exact a.1,fun j x q h1 h2=> ?_⟩;rw[List.getElem?_set] at h2
 by_cases c:i=j
 · subst c;rw[h] at h1;cases h1;rw[if_pos rfl] at h2
   split at h2
   · cases h2;exact c8
   · cases h2
 · rw[if_neg c] at h2
   have nx:x≠b:=fun z=>by
     subst z;exact c (ch9 nd h h1)
   rw[i6 nx];exact a.2 j x q h1 h2
theorem an7:∀{rs:List (List Int)} {i:Nat} {r q:List Int},rs[i]? =some r->(rs.set i q).flatten.length+r.length=rs.flatten.length+q.length
 |[],i,r,q,h=>by cases h
 |x::rs,0,r,q,h=>by
  cases h;rw[List.set_cons_zero,cr4,cr4,co9,co9];omega
 |x::rs,i+1,r,q,h=>by
  have:=an7 (q:=q) (show rs[i]? =some r from h);rw[List.set_cons_succ,cr4,cr4,co9,co9];omega
theorem U8 (rs:List (List Int))(k:Nat):(rs.take k).flatten.length+(rs.drop k).flatten.length=rs.flatten.length:=by
 rw[<-co9,<-cq6,cs7]
theorem an8 {rs:List (List Int)}{r:List Int}(h:r∈rs):r.length<=rs.flatten.length:=(List.sublist_flatten_of_mem h).length_le
structure K7 (H0:Hp)(g:Addr)(H:Hp)(F:Addr)(cs:List Addr)(qs:List (List Int))(c:Nat):Prop where
 at_:H F=some (.lst (cs.map V.ref))
 rows:x8 H cs qs
 nd:cs.Nodup
 nF:F∉cs
 fF:H0 F=none
 fr:∀b∈cs,H0 b=none
 ng:g∉cs
 nFg:F≠g
 pool:x6 H g c
 kp:l7 g H0 H
 ln:qs.length<=60
 sz:qs.flatten.length<=200
theorem K7.kb {H0 H H':Hp}{g F:Addr}{cs:List Addr}{qs:List (List Int)}{c c':Nat}(b:K7 H0 g H F cs qs c)(k:l7 g H H')(p:x6 H' g c'):K7 H0 g H' F cs qs c':=
 ⟨k _ _ b.at_ b.nFg,y6 b.rows fun x hx o e=>k x o e fun z=>b.ng (z▸hx),b.nd,b.nF,b.fF,b.fr,b.ng,b.nFg,p,b.kp.trans k,b.ln,b.sz⟩
theorem K7.same {H0 H H':Hp}{g F:Addr}{cs:List Addr}{qs:List (List Int)}{c:Nat}(b:K7 H0 g H F cs qs c)(s:c9 H H'):K7 H0 g H' F cs qs c:=b.kb (s.but g) (m5 b.pool s)
theorem K7.kpo {H0 H:Hp}{g F:Addr}{cs:List Addr}{qs:List (List Int)}{c:Nat}(b:K7 H0 g H F cs qs c){x:Addr}{o:HO}(fx:H0 x=none)(nx:x≠g):x6 (e8 H x o) g c/\l7 g H0 (e8 H x o):=by
 obtain ⟨u,v,z,e,r⟩:=b.pool;exact ⟨⟨u,v,z,by rw[i6 nx.symm];exact e,r⟩,fun y u hy ny=>by rw[i6 (i9 hy fx)];exact b.kp y u hy ny⟩
theorem K7.row {H0 H:Hp}{g F x:Addr}{cs:List Addr}{qs:List (List Int)}{c i:Nat}{r q:List Int}(b:K7 H0 g H F cs qs c)(hx:cs[i]? =some x)(hr:qs[i]? =some r)(le:q.length<=r.length+1)(sz:qs.flatten.length<=100):K7 H0 g (e8 H x (.lst (q.map V.int))) F cs (qs.set i q) c:=by
 have mx:=cp3 hx
 have nF:F≠x:=fun z=>b.nF (z▸mx)
 have k:=b.kpo (o:= .lst (q.map V.int)) (b.fr x mx) (fun z=>b.ng (z▸mx));have f:=an7 (q:=q) hr;exact ⟨by rw[i6 nF];exact b.at_,bx0 b.rows b.nd hx,b.nd,b.nF,b.fF,b.fr,b.ng,b.nFg,k.1,k.2,by rw[ct5];exact b.ln,by omega⟩
theorem K7.put {H0 H:Hp}{g F:Addr}{cs ds:List Addr}{qs ps:List (List Int)}{c:Nat}(b:K7 H0 g H F cs qs c)(rows:x8 H ds ps)(nd:ds.Nodup)(nF:F∉ds)(fr:∀b∈ds,H0 b=none)(ng:g∉ds)(ln:ps.length<=60)(sz:ps.flatten.length<=200):K7 H0 g (e8 H F (.lst (ds.map V.ref))) F ds ps c:=by
 have k:=b.kpo (o:= .lst (ds.map V.ref)) b.fF b.nFg;exact ⟨c8,y6 rows fun x hx o e=>by rw[i6 fun z=>nF (by rw[<-z];exact hx)];exact e,nd,nF,b.fF,fr,ng,b.nFg,k.1,k.2,ln,sz⟩
theorem K7.out {H0 H:Hp}{g F x:Addr}{cs:List Addr}{qs:List (List Int)}{c:Nat}(b:K7 H0 g H F cs qs c)(h:H x=none):x∉cs/\x≠F/\x≠g/\H0 x=none:=by
 have ng:=r9 b.pool h;refine ⟨fun z=> ?_,fun z=> ?_,ng,b.kp.free h ng⟩
 · obtain ⟨i,hi⟩:=ct6 z;obtain ⟨q,_,e⟩:=M9 b.rows hi;rw[h] at e;cases e
 · rw[z,b.at_] at h;cases h
theorem K7.ins {H0 H:Hp}{g F x:Addr}{cs:List Addr}{qs:List (List Int)}{c:Nat}{r:List Int}(b:K7 H0 g H F cs qs c)(o:x∉cs/\x≠F/\x≠g/\H0 x=none)(hx:H x=some (.lst (r.map V.int)))(k:Nat)(ln:qs.length<=50)(sz:qs.flatten.length+r.length<=200):
   K7 H0 g (e8 H F (.lst ((cs.map V.ref).take k++V.ref x::(cs.map V.ref).drop k))) F (cs.take k++x::cs.drop k) (qs.take k++r::qs.drop k) c:=by
 have e:(cs.map V.ref).take k++V.ref x::(cs.map V.ref).drop k=(cs.take k++x::cs.drop k).map V.ref:=by
   rw[cp5,cr0,cw2,cw9]
 have pm:(cs.take k++x::cs.drop k).Perm (x::cs):=by
   refine cx4.trans ?_;rw[cs7]
 rw[e];refine b.put (Q8 (ai8 b.rows k) (Q8 (Q9 hx) (ai9 b.rows k))) (pm.nodup_iff.mpr (cs5.mpr ⟨o.1,b.nd⟩)) (fun z=> ?_) (fun y hy=> ?_) (fun z=> ?_) ?_ ?_
 · rcases cq5.mp (pm.mem_iff.mp z) with z|z
   · exact o.2.1 z.symm
   · exact b.nF z
 · rcases cq5.mp (pm.mem_iff.mp hy) with z|z
   · rw[z];exact o.2.2.2
   · exact b.fr y z
 · rcases cq5.mp (pm.mem_iff.mp z) with z|z
   · exact o.2.2.1 z.symm
   · exact b.ng z
 · have:qs.length=(qs.take k).length+(qs.drop k).length:=by rw[<-co9,cs7]
   rw[co9,cp9];omega
 · have:=U8 qs k;rw[cq6,cr4,co9,co9];omega
theorem orB {c d:Bool}{A B T:Prop}(hT:(if d=true then A else B)->T)(hA:c=true\/d=true->A)(hB:c=false->d=false->B):if c=true then (if true=true then A else B) else T:=by
 cases c with
 |true=>exact B3 (B3 (hA (.inl rfl)))
 |false=>
  refine A5 (hT ?_)
  cases d with
  |true=>exact B3 (hA (.inr rfl))
  |false=>exact A5 (hB rfl rfl)
theorem D3 {cs:List Addr}{i:Nat}{x:Addr}(h:cs[i]? =some x):(cs.map V.ref)[i]? =some (V.ref x):=by rw[cq4,h];rfl
theorem U9 {r:List Int}{i:Nat}(h:i < r.length):(r.map V.int)[i]? =some (V.int (r.getD i 0)):=by
 rw[cq4,cp1 h,ct3,cp1 h];rfl
theorem aj0 {n i:Nat}(h:i < n):R1 n (i:Int)=some i:=by
 unfold R1;rw[if_pos (by omega),if_pos (by omega)];simp
theorem bd2:∀rs:List (List Int),(rs.map fun r=>(r.length:Int)).sum=(rs.flatten.length:Int)
 |[]=>rfl
 |r::rs=>by rw[cr0,cz8,bd2 rs,cr4,co9,Int.natCast_add]
theorem ab1 {R:St->Hp->Prop}{σ:St}{H:Hp}{A:Prop}{b:Bool}(G:St->Hp->Prop)(rest:∀σ' H',G σ' H'->R σ' H')(hb:b=false->G σ H)(ha:b=true->(∀σ' H',G σ' H'->R σ' H')->A):if b=true then A else R σ H:=by
 cases b with
 |true=>exact ha rfl rest
 |false=>exact rest σ H (hb rfl)
theorem bd3 {H:Hp}{E:Addr}{o:HO}{T:Hp->Prop}(hE:H E=none)(k:∀H',c9 H H'->H' E=some o->T H'):T (e8 H E o):=k _ (c9.upd_new hE) c8
theorem bi0 {ns:List Int}{x:Int}(h0:0<=x)(h1:x < (ns.length:Int)):∃v:Int,X1 (ns.map V.int) x=some (.int v):=by
 obtain ⟨i,rfl⟩:=cq8 h0;exact ⟨_,w6 (U9 (by omega))⟩
theorem K7.set {H0 H:Hp}{g F x:Addr}{cs:List Addr}{qs:List (List Int)}{c i k:Nat}{r:List Int}{v:Int}(b:K7 H0 g H F cs qs c)(hx:cs[i]? =some x)(hr:qs[i]? =some r)(sz:qs.flatten.length<=100):K7 H0 g (e8 H x (.lst ((r.map V.int).set k (.int v)))) F cs (qs.set i (r.set k v)) c:=by
 have e:(r.map V.int).set k (.int v)=(r.set k v).map V.int:=by rw[cy1]
 rw[e];exact b.row hx hr (by rw[ct5];omega) sz
theorem K7.era {H0 H:Hp}{g F:Addr}{cs:List Addr}{qs:List (List Int)}{c:Nat}(b:K7 H0 g H F cs qs c)(k:Nat):K7 H0 g (e8 H F (.lst ((cs.map V.ref).eraseIdx k))) F (cs.take k++cs.drop (k+1)) (qs.take k++qs.drop (k+1)) c:=by
 have e:(cs.map V.ref).eraseIdx k=(cs.take k++cs.drop (k+1)).map V.ref:=by
   rw[ct8,cp5,cw2,cw9]
 have sub:(cs.take k++cs.drop (k+1)).Sublist cs:=by rw[<-ct8];exact cy5 cs k
 have sub2:(qs.take k++qs.drop (k+1)).Sublist qs:=by rw[<-ct8];exact cy5 qs k
 rw[e]
 exact b.put (Q8 (ai8 b.rows k) (ai9 b.rows (k+1))) (b.nd.sublist sub) (fun z=>b.nF (sub.mem z)) (fun y hy=>b.fr y (sub.mem hy)) (fun z=>b.ng (sub.mem z)) (cq3 sub2.length_le b.ln) (by
   have h1:=U8 qs k;have h2:=U8 (qs.drop k) 1;rw[List.drop_drop] at h2;have:=b.sz;rw[cq6,co9]
   omega)
theorem aw0:∀{ps rs:List (List Int)},ps.map cw3=rs.map cw3->ps.flatten.length=rs.flatten.length/\ps.length=rs.length
 |[],[],_=>⟨rfl,rfl⟩
 |[],_::_,h=>by cases h
 |_::_,[],h=>by cases h
 |p::ps,r::rs,h=>by
  rw[cr0,cr0] at h
  injection h with h1 h2
  have:=aw0 h2;rw[cr4,cr4,co9,co9,cp9,cp9];omega
theorem bd4 {H:Hp}{ds:List Addr}{ps:List (List Int)}{x:Addr}(r:x8 H ds ps)(h:H x=none):x∉ds:=fun z=>by
 obtain ⟨i,hi⟩:=ct6 z;obtain ⟨q,_,e⟩:=M9 r hi;rw[h] at e;cases e
def bd5:Sp:=fun vs H Q _=>∃(g l:Addr) (as:List Addr) (rs:List (List Int)) (c:Nat),vs=[.ref g,.ref l]/\x6 H g c/\c<=800000/\H l=some (.lst (as.map V.ref))/\x8 H as rs/\g∉as/\by9 rs/\
 ∀(o:Addr) (cs:List Addr) (qs:List (List Int)) (H':Hp),H o=none->H' o=some (.lst (cs.map V.ref))->x8 H' cs qs->g∉cs->qs.length<=60->qs.flatten.length<=200->x6 H' g (c+300)->l7 g H H'->Q (.ref o) H'
theorem A3:r6 ["pool","rounds","found","far","way","at","to","place","many","thing"] ["pool","rounds"] (m6 Q6):=by rfl'
theorem R7:(["one"]:List Str).Nodup:=by decide+kernel
theorem R8:(["row","pool","many"]:List Str).Nodup:=by decide+kernel
theorem R9:(["one","pool","many"]:List Str).Nodup:=by decide+kernel
theorem ak6 {f:Addr}{fd:FuncData}(F:B6 K "_law_bad_rounds" "_law_bad_rounds" Q6 f fd)(B:Bl mg)(zzx:A2 P w K mg base "_law_take" 1 ["pool","many"] Q0):q9 P w K mg base C3 2 f fd ["pool","rounds"] bd5:=by
 refine F.ok A3 (fun vs H Q E h=> ?_) (fun cdv A outer s H vs Q E hr h=> ?_)
 · obtain ⟨g,l,as,rs,c,rfl,P0,hc,hl,rows,nga,few,q⟩:=h;rfl
 · obtain ⟨g,l,as,rs,c,rfl,P0,hc,hl,rows,nga,few,q⟩:=h;have zy:A1 1 _:=hr.mono (by decide);have hu:=S6 hr;have hu2:_+1+1 < cLine:=cu2 (cv3 (by decide:2<=64) _) hr.units;refine ⟨_,@i4 _ _ _ _ _ (@ar7 _ (2) _ _ _ _ _ _ _ _ _ _ _ _ _ (["one"]) (1) ([]) A3.nd rfl (Or.inl rfl) rfl .of (@A8 _ _ _ _ (pv 1)) (fun _ _ _ _ _=>@v0 _ _ (0) _ R7 rfl (Or.inl rfl) (by trivial)) (fun _ _ _ _ _=>(@C7 _)) (fun _ _ _ _ _=>(@aq0 _ _ _ _ _ K B.list (@c6 _ _ _ _ _ (pv 0) (@c7 _) (by rfl)) (by rfl) (by rfl) (by rfl))) (by rfl) (by intro _;rfl) (by trivial)) (@i4 _ _ _ _ _ (@l8 _ _ (3) _ _ _ _ A3.nd rfl (Or.inl rfl) (@l9 _ _ _ _ _ _ _ _ _ _ zzx zy (@c6 _ _ _ _ _ (pv 0) (@c6 _ _ _ _ _ (@m3 _ _ _ _ _ _ _ _ ao1 (@i7 _ _ _ _) (@i7 _ _ _ _)) (@c7 _) (by rfl)) (by rfl)) (by rfl) (by decide) (by rfl) (by rfl)) (by rfl) (by trivial)) (@i4 _ _ _ _ _ (@l8 _ _ (4) _ _ _ _ A3.nd rfl (Or.inl rfl) (@l9 _ _ _ _ _ _ _ _ _ _ zzx zy (@c6 _ _ _ _ _ (pv 0) (@c6 _ _ _ _ _ (@i7 _ _ _ _) (@c7 _) (by rfl)) (by rfl)) (by rfl) (by decide) (by rfl) (by rfl)) (by rfl) (by trivial)) (@i4 _ _ _ _ _ (@A0 _ _ _ _ _ _ _ _ (@D7 _ _ _ _ _ _ _ (@m9 _ _ _ _ _ _ _ _ (az5 1 hu2) (pv 2) (@m8 _ _ _ _ (@c7 _)) (q0 _)) (@K8 _ _ _ _ (@m9 _ _ _ _ _ _ _ _ E3 (pv 4) (@i7 _ _ _ _) (q0 _)))).pt (@i4 _ _ _ _ _ (@C4 _ _ _ _ (@ai3 _ _ _ _ _ _ _ _ (pv 2) (@c6 _ _ _ _ _ (@l9 _ _ _ _ _ _ _ _ _ _ zzx zy (@c6 _ _ _ _ _ (pv 0) (@c6 _ _ _ _ _ (@m3 _ _ _ _ _ _ _ _ B2 (@x9 _ _ _ _ _ B.len (@c6 _ _ _ _ _ (pv 2) (@c7 _) (by rfl)) (by rfl) (by rfl)) (@i7 _ _ _ _)) (@c7 _) (by rfl)) (by rfl)) (by rfl) (by decide) (by rfl) (by rfl)) (@c6 _ _ _ _ _ (@y7 _ _ _ _ _ _ _ o0 (@m8 _ _ _ _ (@c6 _ _ _ _ _ (@m8 _ _ _ _ (@c7 _)) (@c6 _ _ _ _ _ (@m8 _ _ _ _ (@c6 _ _ _ _ _ (@V0 _ _ _ _ _ _ O4 (@i7 _ _ _ _)) (@c7 _) (by rfl))) (@c6 _ _ _ _ _ (@m8 _ _ _ _ (@c6 _ _ _ _ _ (pv 3) (@c7 _) (by rfl))) (@c6 _ _ _ _ _ (@m8 _ _ _ _ (@c6 _ _ _ _ _ (@i7 _ _ _ _) (@c6 _ _ _ _ _ (@i7 _ _ _ _) (@c7 _) (by rfl)) (by rfl))) (@c7 _) (by rfl)) (by rfl)) (by rfl)) (by rfl))) (@l9 _ _ _ _ _ _ _ _ _ _ zzx zy (@c6 _ _ _ _ _ (pv 0) (@c6 _ _ _ _ _ (@i7 _ _ _ _) (@c7 _) (by rfl)) (by rfl)) (by rfl) (by decide) (by rfl) (by rfl)) (fun _ _=>rfl)) (@c7 _) (by rfl)) (by rfl)) (by rfl) (by rfl) (by rfl) (by rfl) (by rfl)) (by rfl)) (@i5 _ _ _ (@m7 _ _ _ _ (pv 2)))) (@o8 _)) (@i4 _ _ _ _ _ (@l8 _ _ (5) _ _ _ _ A3.nd rfl (Or.inl rfl) (@l9 _ _ _ _ _ _ _ _ _ _ zzx zy (@c6 _ _ _ _ _ (pv 0) (@c6 _ _ _ _ _ (@x9 _ _ _ _ _ B.len (@c6 _ _ _ _ _ (pv 2) (@c7 _) (by rfl)) (by rfl) (by rfl)) (@c7 _) (by rfl)) (by rfl)) (by rfl) (by decide) (by rfl) (by rfl)) (by rfl) (by trivial)) (@i4 _ _ _ _ _ (@l8 _ _ (6) _ _ _ _ A3.nd rfl (Or.inl rfl) (@l9 _ _ _ _ _ _ _ _ _ _ zzx zy (@c6 _ _ _ _ _ (pv 0) (@c6 _ _ _ _ _ (@x9 _ _ _ _ _ B.len (@c6 _ _ _ _ _ (pv 2) (@c7 _) (by rfl)) (by rfl) (by rfl)) (@c7 _) (by rfl)) (by rfl)) (by rfl) (by decide) (by rfl) (by rfl)) (by rfl) (by trivial)) (@i4 _ _ _ _ _ (@l8 _ _ (7) _ _ _ _ A3.nd rfl (Or.inl rfl) (@l9 _ _ _ _ _ _ _ _ _ _ zzx zy (@c6 _ _ _ _ _ (pv 0) (@c6 _ _ _ _ _ (@x9 _ _ _ _ _ B.len (@c6 _ _ _ _ _ (@y7 _ _ _ _ _ _ _ o0 (pv 2) (pv 5) (fun _ _=>rfl)) (@c7 _) (by rfl)) (by rfl) (by rfl)) (@c7 _) (by rfl)) (by rfl)) (by rfl) (by decide) (by rfl) (by rfl)) (by rfl) (by trivial)) (@i4 _ _ _ _ _ (@l8 _ _ (8) _ _ _ _ A3.nd rfl (Or.inr rfl) (@bp7 _ _ _ _ _ rfl B.sum (@c6 _ _ _ _ _ (@D5 _ _ _ _ _ _ _ _ _ _ _ (["one"]) (1) ([]) rfl .of (@A8 _ _ _ _ (pv 2)) (fun _ _ _ _ _=>@v0 _ _ (0) _ R7 rfl (Or.inl rfl) (by trivial)) (fun _ _ _ _ _=>(@C7 _)) (fun _ _ _ _ _=>(@ae1 _ _ _ _ _ K (by exact B.len) (@c6 _ _ _ _ _ (pv 0) (@c7 _) (by rfl)) (by rfl) (by rfl) (by rfl))) (by intro _;rfl)) (@c7 _) (by rfl)) (by rfl) (by rfl)) (by rfl) (by trivial)) (@i4 _ _ _ _ _ (@l8 _ _ (9) _ _ _ _ A3.nd rfl (Or.inl rfl) (@y7 _ _ _ _ _ _ _ o0 (@y7 _ _ _ _ _ _ _ o0 (pv 2) (pv 6) (fun _ _=>rfl)) (@l9 _ _ _ _ _ _ _ _ _ _ zzx zy (@c6 _ _ _ _ _ (pv 0) (@c6 _ _ _ _ _ (@x9 _ _ _ _ _ B.len (@c6 _ _ _ _ _ (@y7 _ _ _ _ _ _ _ o0 (pv 2) (pv 6) (fun _ _=>rfl)) (@c7 _) (by rfl)) (by rfl) (by rfl)) (@c7 _) (by rfl)) (by rfl)) (by rfl) (by decide) (by rfl) (by rfl)) (fun _ _=>rfl)) (by rfl) (by trivial)) (@i4 _ _ _ _ _ (@A0 _ _ _ _ _ _ _ _ (@m9 _ _ _ _ _ _ _ _ ao3 (pv 4) (@i7 _ _ _ _) (q0 _)) (@i5 _ _ _ (@O3 _ _ _ _ _ _ (@y7 _ _ _ _ _ _ _ o0 (@m8 _ _ _ _ (@c6 _ _ _ _ _ (pv 9) (@c6 _ _ _ _ _ (@V0 _ _ _ _ _ _ O4 (@i7 _ _ _ _)) (@c6 _ _ _ _ _ (pv 8) (@c6 _ _ _ _ _ (@m3 _ _ _ _ _ _ _ _ B2 (pv 8) (pv 3)) (@c6 _ _ _ _ _ (@m3 _ _ _ _ _ _ _ _ S1 (@V0 _ _ _ _ _ _ O4 (@i7 _ _ _ _)) (pv 3)) (@c6 _ _ _ _ _ (@m3 _ _ _ _ _ _ _ _ S1 (@i7 _ _ _ _) (@y7 _ _ _ _ _ _ _ o0 (@y7 _ _ _ _ _ _ _ o0 (pv 2) (pv 5) (fun _ _=>rfl)) (pv 7) (fun _ _=>rfl))) (@c7 _) (by rfl)) (by rfl)) (by rfl)) (by rfl)) (by rfl)) (by rfl))) (@l9 _ _ _ _ _ _ _ _ _ _ zzx zy (@c6 _ _ _ _ _ (pv 0) (@c6 _ _ _ _ _ (@i7 _ _ _ _) (@c7 _) (by rfl)) (by rfl)) (by rfl) (by decide) (by rfl) (by rfl)) (fun _ _=>rfl)) (@O2 _ _ _ _ _ _ _ (@y7 _ _ _ _ _ _ _ o0 (pv 2) (pv 5) (fun _ _=>rfl)) (pv 7) K3 (by intro _;rfl)) (by rfl) (by rfl) (by rfl))) (@o8 _)) (@i4 _ _ _ _ _ (@A0 _ _ _ _ _ _ _ _ (@m9 _ _ _ _ _ _ _ _ E3 (pv 4) (@i7 _ _ _ _) (q0 _)) (@i5 _ _ _ (@C4 _ _ _ _ (@ai3 _ _ _ _ _ _ _ _ (@y7 _ _ _ _ _ _ _ o0 (pv 2) (pv 5) (fun _ _=>rfl)) (@c6 _ _ _ _ _ (pv 7) (@c6 _ _ _ _ _ (@y7 _ _ _ _ _ _ _ o0 (@m8 _ _ _ _ (@c6 _ _ _ _ _ (pv 9) (@c6 _ _ _ _ _ (pv 8) (@c6 _ _ _ _ _ (@m3 _ _ _ _ _ _ _ _ B2 (pv 8) (@i7 _ _ _ _)) (@c6 _ _ _ _ _ (@V0 _ _ _ _ _ _ O4 (@i7 _ _ _ _)) (@c7 _) (by rfl)) (by rfl)) (by rfl)) (by rfl))) (@l9 _ _ _ _ _ _ _ _ _ _ zzx zy (@c6 _ _ _ _ _ (pv 0) (@c6 _ _ _ _ _ (@i7 _ _ _ _) (@c7 _) (by rfl)) (by rfl)) (by rfl) (by decide) (by rfl) (by rfl)) (fun _ _=>rfl)) (@c7 _) (by rfl)) (by rfl)) (by rfl) (by rfl) (by rfl) (by rfl) (by rfl)) (by rfl))) (@o8 _)) (@i4 _ _ _ _ _ (@A0 _ _ _ _ _ _ _ _ (@m9 _ _ _ _ _ _ _ _ E3 (pv 4) (@i7 _ _ _ _) (q0 _)) (@i5 _ _ _ (@C4 _ _ _ _ (@am5 _ _ _ _ _ _ _ (@y7 _ _ _ _ _ _ _ o0 (pv 2) (pv 5) (fun _ _=>rfl)) (@c6 _ _ _ _ _ (pv 7) (@c7 _) (by rfl)) (by rfl) (by rfl) (by rfl) (by rfl) (by rfl)) (by rfl))) (@o8 _)) (@i4 _ _ _ _ _ (@A0 _ _ _ _ _ _ _ _ (@m9 _ _ _ _ _ _ _ _ E3 (pv 4) (@i7 _ _ _ _) (q0 _)) (@i5 _ _ _ (@C4 _ _ _ _ (@ai3 _ _ _ _ _ _ _ _ (pv 2) (@c6 _ _ _ _ _ (pv 6) (@c6 _ _ _ _ _ (@aa4 _ _ _ _ _ B.list (@c6 _ _ _ _ _ (@y7 _ _ _ _ _ _ _ o0 (pv 2) (pv 5) (fun _ _=>rfl)) (@c7 _) (by rfl)) (by rfl) (by rfl)) (@c7 _) (by rfl)) (by rfl)) (by rfl) (by rfl) (by rfl) (by rfl) (by rfl)) (by rfl))) (@o8 _)) (@i4 _ _ _ _ _ (@A0 _ _ _ _ _ _ _ _ (@m9 _ _ _ _ _ _ _ _ E3 (pv 4) (@i7 _ _ _ _) (q0 _)) (@i5 _ _ _ (@C4 _ _ _ _ (@am5 _ _ _ _ _ _ _ (pv 2) (@c6 _ _ _ _ _ (pv 5) (@c7 _) (by rfl)) (by rfl) (by rfl) (by rfl) (by rfl) (by rfl)) (by rfl))) (@o8 _)) (@i4 _ _ _ _ _ (@A0 _ _ _ _ _ _ _ _ (@m9 _ _ _ _ _ _ _ _ aa3 (pv 4) (@i7 _ _ _ _) (q0 _)) (@i5 _ _ _ (@ar7 _ (2) _ _ _ _ _ _ _ _ _ _ _ _ _ (["row","pool","many"]) (1) ([0,8]) A3.nd rfl (Or.inl rfl) rfl .of (@A8 _ _ _ _ (pv 2)) (fun _ _ _ _ _=>@v0 _ _ (0) _ R8 rfl (Or.inl rfl) (by trivial)) (fun _ _ _ _ _=>(@C7 _)) (fun _ _ _ _ _=>(@D5 _ _ _ _ _ _ _ _ _ _ _ (["one","pool","many"]) (1) ([1,2]) rfl .of (bv8 K (pv 0)) (fun _ _ _ _ _=>@v0 _ _ (0) _ R9 rfl (Or.inl rfl) (by trivial)) (fun _ _ _ _ _=>(@C7 _)) (fun _ _ _ _ _=>(@l9 _ _ _ _ _ _ _ _ _ _ zzx zy (@c6 _ _ _ _ _ (pv 1) (@c6 _ _ _ _ _ (pv 2) (@c7 _) (by rfl)) (by rfl)) (by rfl) (by decide) (by rfl) (by rfl))) (by intro _;rfl))) (by rfl) (by intro _;rfl) (by trivial))) (@o8 _)) (@i4 _ _ _ _ _ (@A0 _ _ _ _ _ _ _ _ (@m9 _ _ _ _ _ _ _ _ (au2) (pv 4) (@ao6 _ _ _ _ _ (@c6 _ _ _ _ _ (@i7 _ _ _ _) (@c6 _ _ _ _ _ (@i7 _ _ _ _) (@c7 _) (by rfl)) (by rfl))) (by with_unfolding_all rfl)) (@i4 _ _ _ _ _ (@O3 _ _ _ _ _ _ (@m3 _ _ _ _ _ _ _ _ B2 (@y7 _ _ _ _ _ _ _ o0 (@y7 _ _ _ _ _ _ _ o0 (pv 2) (pv 5) (fun _ _=>rfl)) (pv 7) (fun _ _=>rfl)) (@i7 _ _ _ _)) (@O2 _ _ _ _ _ _ _ (@y7 _ _ _ _ _ _ _ o0 (pv 2) (pv 5) (fun _ _=>rfl)) (pv 7) K3 (by intro _;rfl)) (by rfl) (by rfl) (by rfl)) (@i4 _ _ _ _ _ (@l8 _ _ (7) _ _ _ _ A3.nd rfl (Or.inl rfl) (@l9 _ _ _ _ _ _ _ _ _ _ zzx zy (@c6 _ _ _ _ _ (pv 0) (@c6 _ _ _ _ _ (@x9 _ _ _ _ _ B.len (@c6 _ _ _ _ _ (@y7 _ _ _ _ _ _ _ o0 (pv 2) (pv 6) (fun _ _=>rfl)) (@c7 _) (by rfl)) (by rfl) (by rfl)) (@c7 _) (by rfl)) (by rfl)) (by rfl) (by decide) (by rfl) (by rfl)) (by rfl) (by trivial)) (@i5 _ _ _ (@O3 _ _ _ _ _ _ (@m3 _ _ _ _ _ _ _ _ S1 (@y7 _ _ _ _ _ _ _ o0 (@y7 _ _ _ _ _ _ _ o0 (pv 2) (pv 6) (fun _ _=>rfl)) (pv 7) (fun _ _=>rfl)) (@i7 _ _ _ _)) (@O2 _ _ _ _ _ _ _ (@y7 _ _ _ _ _ _ _ o0 (pv 2) (pv 6) (fun _ _=>rfl)) (pv 7) K3 (by intro _;rfl)) (by rfl) (by rfl) (by rfl))))) (@o8 _)) (@i4 _ _ _ _ _ (@A0 _ _ _ _ _ _ _ _ (@m9 _ _ _ _ _ _ _ _ E3 (pv 4) (@i7 _ _ _ _) (q0 _)) (@i5 _ _ _ (@l8 _ _ (2) _ _ _ _ A3.nd rfl (Or.inl rfl) (@m3 _ _ _ _ _ _ _ _ B8 (@m3 _ _ _ _ _ _ _ _ B8 (@D1 _ _ _ _ _ _ _ _ _ _ E6 (pv 2) (@E4 _) (@E5 _ _ _ (pv 5))) (@m8 _ _ _ _ (@c6 _ _ _ _ _ (@D1 _ _ _ _ _ _ _ _ _ _ E6 (@y7 _ _ _ _ _ _ _ o0 (pv 2) (pv 5) (fun _ _=>rfl)) (@E4 _) (@E5 _ _ _ (pv 7))) (@c6 _ _ _ _ _ (@D1 _ _ _ _ _ _ _ _ _ _ E6 (@y7 _ _ _ _ _ _ _ o0 (pv 2) (pv 5) (fun _ _=>rfl)) (@E5 _ _ _ (pv 7)) (@E4 _)) (@c7 _) (by rfl)) (by rfl)))) (@D1 _ _ _ _ _ _ _ _ _ _ E6 (pv 2) (@E5 _ _ _ (@m3 _ _ _ _ _ _ _ _ B2 (pv 5) (@i7 _ _ _ _))) (@E4 _))) (by rfl) (by trivial))) (@o8 _)) (@i5 _ _ _ (@m7 _ _ _ _ (pv 2))))))))))))))))))),?_⟩
   have rl:rs.length<=40:=by
     have:∀l:List (List Int),(∀r∈l,r≠[])->l.length<=l.flatten.length:=fun l=>by
       induction l with
       |nil=>intro _;exact cq0 _
       |cons x l ih=>
        intro h
        have a:=ih fun r hr=>h r (cp6 _ hr)
        have b:=ct9.mpr (h x cp7);rw[cr4,co9,cp9];omega
     exact cq3 (this rs few.ne) few.len
   have nlg:l≠g:=fun z=>by obtain ⟨u,v,x,e,_⟩:=P0;rw[<-z,hl] at e;cases as with|nil=>cases e|cons a as=>cases e
   refine ⟨_,rfl,l,rfl,⟨_,i8.of hl⟩,G3 (K:=K) (a:=l) (xs:=as.map V.ref) (fun j ys σ H2=>∃(v:Option V) (cs:List Addr),σ=[v]/\ys=cs.map V.ref/\c9 H H2/\x8 H2 cs (rs.take j)/\cs.Nodup/\∀b∈cs,H b=none)
     ⟨none,[],rfl,rfl,c9.refl H,⟨rfl,fun j b r h=>by cases h⟩,cv7,fun b hb=>by cases hb⟩ (fun j ys σ H2 _ zz=>by obtain ⟨_,_,_,_,s,_⟩:=zz;exact i8.of (s _ _ hl)) ?_ ?_⟩
   · rintro j x ys σ H2 hj ⟨v,cs,rfl,rfl,s2,rows2,nd,fr⟩;obtain ⟨e,he,rfl⟩:=T5 hj;obtain ⟨r,hr,he2⟩:=M9 rows he;refine ⟨_,rfl,e,_,rfl,.inl (i8.of (s2 _ _ he2)),fun o ho=> ?_⟩;have s3:c9 H2 (e8 H2 o (.lst (r.map V.int))):=c9.upd_new ho;have h3:(e8 H2 o (.lst (r.map V.int))) o=some (.lst (r.map V.int)):=c8
     have nin:o∉cs:=fun z=>by
       obtain ⟨i,hi⟩:=ct6 z;obtain ⟨q,_,e⟩:=M9 rows2 hi;rw[ho] at e;cases e
     refine ⟨m4 (by rw[co8,rows2.1,cq2];omega),some (.ref e),cs++[o],rfl,by rw[cp5];rfl,s2.trans s3,?_,R4 nd nin,fun b hb=> ?_⟩
     · rw[o9 hr];exact M1 (y6 rows2 fun x hx o e=>s3 _ _ e) h3
     · rcases cp4.mp hb with z|z
       · exact fr b z
       · rw[cq7.mp z];exact s2.free ho
   rintro ys σ H2 ⟨v,cs,rfl,rfl,s2,rows2,nd,fr⟩ F hF;rw[co8,rows.1,cr7] at rows2;have s3:c9 H2 (e8 H2 F (.lst (cs.map V.ref))):=c9.upd_new hF;have h3:(e8 H2 F (.lst (cs.map V.ref))) F=some (.lst (cs.map V.ref)):=c8;generalize (e8 H2 F (.lst (cs.map V.ref)))=H3 at s3 h3 ⊢
   have nF:F∉cs:=fun z=>by
     obtain ⟨i,hi⟩:=ct6 z;obtain ⟨q,_,e⟩:=M9 rows2 hi;rw[hF] at e;cases e
   have b3:K7 H g H3 F cs rs c:=⟨h3,y6 rows2 fun x hx o e=>s3 _ _ e,nd,nF,s2.free hF,fr,fun z=>r9 P0 (fr g z) rfl,r9 P0 (s2.free hF),m5 P0 (s2.trans s3),(s2.trans s3).but g,by omega,by have:=few.len;omega⟩;refine ⟨_,rfl,_,_,rfl,rfl,⟨by decide,by decide,by decide⟩,g,_,_,rfl,b3.pool,by omega,by decide,by decide,fun far H4 f0 f1 P4 kb4=> ?_⟩;refine ⟨_,rfl,g,_,12,rfl,P4,by omega,by decide,by decide,fun way H5 w0 w1 P5 kb5=> ?_⟩;have b5:=(b3.kb kb4 P4).kb kb5 P5;clear b3;refine ⟨_,rfl,cs1 _,fun e0 he0=> ?_⟩;have s6:c9 H5 (e8 H5 e0 (.lst [])):=c9.upd_new he0;have h6:(e8 H5 e0 (.lst [])) e0=some (.lst []):=c8;generalize (e8 H5 e0 (.lst []))=H6 at s6 h6 ⊢;have b6:=b5.same s6;clear b5;refine ⟨F,e0,_,_,_,rfl,rfl,i8.of b6.at_,i8.of h6,aj9 K H6 1 _,_,rfl,?_⟩;refine orB (d:=decide (V.int way=V.int 0)) (fun x=>⟨_,rfl,rfl,_,rfl,x⟩) (fun _=> ?_) (fun n1 n2=> ?_)
   · refine ⟨_,rfl,.inl ⟨rfl,_,i8.of b6.at_⟩,_,rfl,_,rfl,F,_,rfl,.inl (i8.of b6.at_),_,_,rfl,rfl,g,_,_,rfl,b6.pool,by omega,by omega,by rw[co8,b6.rows.1];omega,fun k H7 k0 k1 P7 kb7=> ?_⟩;have b7:=b6.kb kb7 P7;clear b6;refine ⟨cs1 _,fun e1 he1=> ?_⟩;have o1:=b7.out he1;have s8:c9 H7 (e8 H7 e1 (.lst [])):=c9.upd_new he1;have g8:(e8 H7 e1 (.lst [])) e1=some (.lst (([]:List Int).map V.int)):=c8;generalize (e8 H7 e1 (.lst []))=H8 at s8 g8 ⊢;have b8:=b7.same s8;clear b7;refine ⟨_,rfl,(show 1<=sizeLine by decide),fun e2 he2=> ?_⟩;have o2:=b8.out he2;have s9:c9 H8 (e8 H8 e2 (.lst [V.int (-1)])):=c9.upd_new he2;have g9:(e8 H8 e2 (.lst [V.int (-1)])) e2=some (.lst (([-1]:List Int).map V.int)):=c8;generalize (e8 H8 e2 (.lst [V.int (-1)]))=H9 at s9 g9 ⊢;have b9:=b8.same s9;clear b8;refine ⟨_,rfl,(show 1<=sizeLine by decide),fun e3 he3=> ?_⟩;have o3:=b9.out he3;have s10:c9 H9 (e8 H9 e3 (.lst [V.int far])):=c9.upd_new he3;have g10:(e8 H9 e3 (.lst [V.int far])) e3=some (.lst (([far]:List Int).map V.int)):=c8;generalize (e8 H9 e3 (.lst [V.int far]))=H10 at s10 g10 ⊢;have b10:=b9.same s10;clear b9;refine ⟨(show 2<=sizeLine by decide),fun e4 he4=> ?_⟩;have o4:=b10.out he4;have s11:c9 H10 (e8 H10 e4 (.lst [V.int 0,V.int 0])):=c9.upd_new he4;have g11:(e8 H10 e4 (.lst [V.int 0,V.int 0])) e4=some (.lst (([0,0]:List Int).map V.int)):=c8;generalize (e8 H10 e4 (.lst [V.int 0,V.int 0]))=H11 at s11 g11 ⊢;have b11:=b10.same s11;clear b10;refine ⟨(show 4<=sizeLine by decide),fun E hE=> ?_⟩;have oE:=b11.out hE;have s12:c9 H11 (e8 H11 E (.lst [V.ref e1,V.ref e2,V.ref e3,V.ref e4])):=c9.upd_new hE;have g12:(e8 H11 E (.lst [V.ref e1,V.ref e2,V.ref e3,V.ref e4])) E=some (.lst [V.ref e1,V.ref e2,V.ref e3,V.ref e4]):=c8;generalize (e8 H11 E (.lst [V.ref e1,V.ref e2,V.ref e3,V.ref e4]))=H12 at s12 g12 ⊢;have b12:=b11.same s12;clear b11;refine ⟨_,rfl,g,_,4,rfl,b12.pool,by omega,by decide,by decide,fun x H13 x0 x1 P13 kb13=> ?_⟩;have b13:=b12.kb kb13 P13;clear b12
     obtain ⟨b,r,hat,ob,hb,lr⟩:∃(b:Addr) (r:List Int),X1 [V.ref e1,V.ref e2,V.ref e3,V.ref e4] x=some (.ref b)/\(b∉cs/\b≠F/\b≠g/\H b=none)/\H13 b=some (.lst (r.map V.int))/\r.length<=2:=by
       rcases (show x=0\/x=1\/x=2\/x=3 by omega) with rfl|rfl|rfl|rfl
       · exact ⟨e1,[],w6 (j:=0) rfl,o1,kb13 _ _ (s12 _ _ (s11 _ _ (s10 _ _ (s9 _ _ g8)))) o1.2.2.1,by decide⟩
       · exact ⟨e2,[-1],w6 (j:=1) rfl,o2,kb13 _ _ (s12 _ _ (s11 _ _ (s10 _ _ g9))) o2.2.2.1,by decide⟩
       · exact ⟨e3,[far],w6 (j:=2) rfl,o3,kb13 _ _ (s12 _ _ (s11 _ _ g10)) o3.2.2.1,by show 1<=2;decide⟩
       · exact ⟨e4,[0,0],w6 (j:=3) rfl,o4,kb13 _ _ (s12 _ _ g11) o4.2.2.1,by decide⟩
     refine ⟨E,_,_,_,rfl,rfl,i8.of (kb13 _ _ g12 oE.2.2.1),hat,F,_,_,_,rfl,rfl,b13.at_,k0,by omega,by rw[co8,b13.rows.1];omega,?_⟩;have b14:=b13.ins ob hb k.toNat (by omega) (by have:=few.len;omega);exact ⟨_,rfl,q F _ _ _ b14.fF b14.at_ b14.rows b14.ng b14.ln b14.sz (b14.pool.mono (by omega)) b14.kp⟩
   have rn:0 < rs.length:=by
     have n1:(cs.map V.ref).isEmpty=false:=n1;rw[<-b6.rows.1]
     cases cs with
     |nil=>cases n1
     |cons a cs=>exact Nat.succ_pos _
   refine ⟨_,rfl,_,rfl,F,_,rfl,.inl (i8.of b6.at_),g,_,_,rfl,b6.pool,by omega,by rw[co8,b6.rows.1];omega,by rw[co8,b6.rows.1];omega,fun ai H7 a0 a1 P7 kb7=> ?_⟩;have b7:=b6.kb kb7 P7;clear b6;rw[co8,b7.rows.1] at a1;refine ⟨_,rfl,_,rfl,F,_,rfl,.inl (i8.of b7.at_),g,_,_,rfl,b7.pool,by omega,by rw[co8,b7.rows.1];omega,by rw[co8,b7.rows.1];omega,fun ti H8 t0 t1 P8 kb8=> ?_⟩;have b8:=b7.kb kb8 P8;clear b7;rw[co8,b8.rows.1] at t1;obtain ⟨ia,rfl⟩:=cq8 a0;obtain ⟨it,rfl⟩:=cq8 t0;obtain ⟨r1,hr1⟩:∃r,rs[ia]? =some r:=⟨_,cp1 (by omega)⟩;obtain ⟨r2,hr2⟩:∃r,rs[it]? =some r:=⟨_,cp1 (by omega)⟩;have fl:=few.len;have r1n:0 < r1.length:=ct9.mpr (few.ne r1 (cp3 hr1));have r2n:0 < r2.length:=ct9.mpr (few.ne r2 (cp3 hr2));have r1l:=an8 (cp3 hr1);have r2l:=an8 (cp3 hr2);obtain ⟨x1,hx1,h8x⟩:=K6 b8.rows hr1;refine ⟨_,rfl,_,rfl,_,rfl,F,_,_,_,rfl,rfl,i8.of b8.at_,w6 (D3 hx1),x1,_,rfl,.inl (i8.of h8x),g,_,_,rfl,b8.pool,by omega,by rw[co8];omega,by rw[co8];omega,fun pl H9 p0 p1 P9 kb9=> ?_⟩;have b9:=b8.kb kb9 P9;clear b8 h8x;rw[co8] at p1;obtain ⟨ip,rfl⟩:=cq8 p0;refine ⟨_,rfl,F,rfl,⟨_,i8.of b9.at_⟩,G3 (K:=K) (a:=F) (xs:=cs.map V.ref) (fun j ys σ Hx=>∃v:Option V,σ=[v]/\Hx=H9/\ys=((rs.take j).map fun r=>(r.length:Int)).map V.int) ⟨none,rfl,rfl,rfl⟩ (fun j ys σ Hx _ zz=>by obtain ⟨_,_,e,_⟩:=zz;rw[e];exact i8.of b9.at_) ?_ ?_⟩
   · rintro j x ys σ Hx hj ⟨v,rfl,rfl,rfl⟩;obtain ⟨e,he,rfl⟩:=T5 hj;obtain ⟨r,hr,he2⟩:=M9 b9.rows he;refine ⟨_,rfl,e,_,rfl,.inl (i8.of he2),m4 (by rw[co8,co8,cq2];omega),some (.ref e),rfl,rfl,?_⟩;rw[o9 hr,cp5,cp5,co8];rfl
   rintro ys σ Hx ⟨v,rfl,rfl,rfl⟩ D hD;rw[co8,b9.rows.1,cr7];have s10:c9 Hx (e8 Hx D (.lst ((rs.map fun r=>(r.length:Int)).map V.int))):=c9.upd_new hD;have h10:(e8 Hx D (.lst ((rs.map fun r=>(r.length:Int)).map V.int))) D=some (.lst ((rs.map fun r=>(r.length:Int)).map V.int)):=c8;generalize (e8 Hx D (.lst ((rs.map fun r=>(r.length:Int)).map V.int)))=H10 at s10 h10 ⊢;have b10:=b9.same s10;clear b9;refine ⟨D,_,rfl,i8.of h10,?_⟩;rw[bd2]
   have mn:0 < rs.flatten.length:=by omega
   obtain ⟨many,em⟩:∃many:Nat,many=rs.flatten.length:=⟨_,rfl⟩;rw[<-em];obtain ⟨x2,hx2,h10y⟩:=K6 b10.rows hr2;refine ⟨_,rfl,_,rfl,F,_,_,_,rfl,rfl,i8.of b10.at_,w6 (D3 hx2),_,rfl,_,rfl,_,rfl,F,_,_,_,rfl,rfl,i8.of b10.at_,w6 (D3 hx2),x2,_,rfl,.inl (i8.of h10y),g,_,_,rfl,b10.pool,by omega,by rw[co8];omega,by rw[co8];omega,fun th H11 th0 th1 P11 kb11=> ?_⟩;have b11:=b10.kb kb11 P11;clear b10;rw[co8] at th1;obtain ⟨ith,rfl⟩:=cq8 th0;refine ⟨x2,_,_,_,rfl,rfl,i8.of (kb11 _ _ h10y fun z=>b11.ng (z▸cp3 hx2)),w6 (U9 (by omega)),?_⟩;obtain ⟨thing,eth⟩:∃thing:Int,thing=r2.getD ith 0:=⟨_,rfl⟩;rw[<-eth];have G:∃G:Prop->St->Hp->Prop,∀p σ' H',G p σ' H'↔∃(F:Addr) (cs:List Addr) (qs:List (List Int)) (pl:Int) (c':Nat),σ'=[some (.ref g),some (.ref l),some (.ref F),some (.int far),some (.int way),some (.int (ia:Int)),some (.int (it:Int)),some (.int pl),some (.int (many:Int)),some (.int thing)]/\K7 H g H' F cs qs c'/\c'<=c+200/\(p->qs=rs/\pl=(ip:Int)/\c'<=c+20):=⟨fun p σ' H'=>_,fun p σ' H'=>Iff.rfl⟩;obtain ⟨G,hG⟩:=G;refine ⟨_,rfl,_,_,rfl,rfl,_,rfl,ab1 (G (4<=way)) ?_ (fun _=>(hG _ _ _).mpr ⟨F,cs,rs,_,_,rfl,b11,by omega,fun _=>⟨rfl,rfl,by omega⟩⟩) (fun hw rest=> ?_)⟩
   rotate_left
   · have hw:way < 4:=of_decide_eq_true hw;have h11x:=(K6 b11.rows hr1);obtain ⟨y1,hy1,h11x⟩:=h11x
     have:y1=x1:=by rw[hx1] at hy1;exact (Option.some.inj hy1).symm
     subst this;refine ⟨_,rfl,_,rfl,_,rfl,_,rfl,_,rfl,_,_,rfl,rfl,_,rfl,_,rfl,_,_,rfl,rfl,_,rfl,_,rfl,F,_,_,_,rfl,rfl,i8.of b11.at_,w6 (D3 hx1),_,rfl,y1,_,_,_,rfl,rfl,i8.of h11x,w6 (U9 (by omega)),_,_,rfl,rfl,(show 6<=sizeLine by decide),fun E hE=> ?_⟩;have oE:=b11.out hE
     refine bd3 hE fun H12 s12 h12=> ?_
     have b12:=b11.same s12;refine ⟨_,rfl,g,_,6,rfl,b12.pool,by omega,by decide,by decide,fun x H13 y0 y1' P13 kb13=> ?_⟩;have b13:=b12.kb kb13 P13;obtain ⟨v,hv⟩:=bi0 (ns:=[thing,-1,(many:Int),(many:Int)+far,-1 - far,0 - r1.getD ip 0]) y0 y1';refine ⟨E,_,_,_,rfl,rfl,i8.of (show H13 E=some (.lst (([thing,-1,(many:Int),(many:Int)+far,-1 - far,0 - r1.getD ip 0]:List Int).map V.int)) from kb13 _ _ h12 oE.2.2.1),hv,?_⟩;have h13x:=kb13 _ _ (s12 _ _ h11x) (fun z=>b11.ng (z▸cp3 hx1));refine ⟨_,rfl,_,rfl,F,_,_,_,rfl,rfl,i8.of b13.at_,w6 (D3 hx1),_,rfl,y1,_,_,_,rfl,rfl,h13x,aj0 (by rw[co8];omega),?_⟩;exact rest _ _ ((hG _ _ _).mpr ⟨F,cs,_,_,_,rfl,b13.set hx1 hr1 (by omega),by omega,fun z=>absurd z (by omega)⟩)
   clear b11;rintro σ1 K1 hg1;obtain ⟨F,cs,qs,pl,c1,rfl,b,lc,hp⟩:=(hG _ _ _).mp hg1;clear hg1;refine ⟨_,rfl,rfl,_,rfl,ab1 (G (5<=way)) ?_ (fun hw=>(hG _ _ _).mpr ⟨F,cs,qs,pl,c1,rfl,b,lc,fun z=>hp (by omega)⟩) (fun hw rest=> ?_)⟩
   rotate_left
   · have hw:way=4:=V.int.inj (of_decide_eq_true hw);obtain ⟨rfl,rfl,lc2⟩:=hp (by omega);obtain ⟨x,hx,hrow⟩:=K6 b.rows hr1;refine ⟨_,rfl,_,rfl,F,_,_,_,rfl,rfl,i8.of b.at_,w6 (D3 hx),.inl ⟨rfl,_,i8.of hrow⟩,_,rfl,_,rfl,_,rfl,_,rfl,_,_,rfl,rfl,_,rfl,(show 4<=sizeLine by decide),fun E hE=> ?_⟩;have oE:=b.out hE
     refine bd3 hE fun H12 s12 h12=> ?_
     have b12:=b.same s12;refine ⟨_,rfl,g,_,4,rfl,b12.pool,by omega,by decide,by decide,fun y H13 y0 y1' P13 kb13=> ?_⟩;have b13:=b12.kb kb13 P13;obtain ⟨v,hv⟩:=bi0 (ns:=[thing,(many:Int),(many:Int)+1,-1]) y0 y1';refine ⟨E,_,_,_,rfl,rfl,i8.of (show H13 E=some (.lst (([thing,(many:Int),(many:Int)+1,-1]:List Int).map V.int)) from kb13 _ _ h12 oE.2.2.1),hv,?_⟩;have h13x:=kb13 _ _ (s12 _ _ hrow) (fun z=>b.ng (z▸cp3 hx));refine ⟨x,_,_,_,rfl,rfl,h13x,by omega,by rw[co8];omega,by rw[co8];omega,?_⟩
     have e:(r1.map V.int).take (ip:Int).toNat++V.int v::(r1.map V.int).drop (ip:Int).toNat=(r1.take ip++v::r1.drop ip).map V.int:=by
       rw[cp5,cr0,cw2,cw9];rfl
     rw[e];exact rest _ _ ((hG _ _ _).mpr ⟨F,cs,_,_,_,rfl,b13.row hx hr1 (by rw[co9,cp9,cq2,cq9];omega) (by omega),by omega,fun z=>absurd z (by omega)⟩)
   clear b;rintro σ1 K1 hg1;obtain ⟨F,cs,qs,pl,c1,rfl,b,lc,hp⟩:=(hG _ _ _).mp hg1;clear hg1;refine ⟨_,rfl,rfl,_,rfl,ab1 (G (6<=way)) ?_ (fun hw=>(hG _ _ _).mpr ⟨F,cs,qs,pl,c1,rfl,b,lc,fun z=>hp (by omega)⟩) (fun hw rest=> ?_)⟩
   rotate_left
   · have hw:way=5:=V.int.inj (of_decide_eq_true hw);obtain ⟨rfl,rfl,lc2⟩:=hp (by omega);obtain ⟨x,hx,hrow⟩:=K6 b.rows hr1;refine ⟨_,rfl,_,rfl,F,_,_,_,rfl,rfl,i8.of b.at_,w6 (D3 hx),.inl ⟨rfl,_,i8.of hrow⟩,_,rfl,x,_,_,ip,_,rfl,rfl,hrow,by omega,by omega,(ab7 (aj0 (by rw[co8];omega))).1,U9 (by omega),?_⟩
     have e:(r1.map V.int).eraseIdx ip=(r1.take ip++r1.drop (ip+1)).map V.int:=by
       rw[ct8,cp5,cw2,cw9]
     rw[e];exact rest _ _ ((hG _ _ _).mpr ⟨F,cs,_,_,_,rfl,b.row hx hr1 (by rw[co9,cq2,cq9];omega) (by omega),by omega,fun z=>absurd z (by omega)⟩)
   clear b;rintro σ1 K1 hg1;obtain ⟨F,cs,qs,pl,c1,rfl,b,lc,hp⟩:=(hG _ _ _).mp hg1;clear hg1;refine ⟨_,rfl,rfl,_,rfl,ab1 (G (7<=way)) ?_ (fun hw=>(hG _ _ _).mpr ⟨F,cs,qs,pl,c1,rfl,b,lc,fun z=>hp (by omega)⟩) (fun hw rest=> ?_)⟩
   rotate_left
   · have hw:way=6:=V.int.inj (of_decide_eq_true hw);obtain ⟨rfl,rfl,lc2⟩:=hp (by omega);obtain ⟨x,hx,hrow⟩:=K6 b.rows hr1;refine ⟨_,rfl,.inl ⟨rfl,_,i8.of b.at_⟩,_,rfl,_,rfl,_,rfl,F,_,_,_,rfl,rfl,i8.of b.at_,w6 (D3 hx),x,_,rfl,.inl (i8.of hrow),fun o ho=> ?_⟩;have oo:=b.out ho
     refine bd3 ho fun H12 s12 h12=> ?_
     have b12:=b.same s12;refine ⟨F,_,_,_,rfl,rfl,b12.at_,by omega,by rw[co8,b12.rows.1];omega,by rw[co8,b12.rows.1];omega,?_⟩;exact rest _ _ ((hG _ _ _).mpr ⟨F,_,_,_,_,rfl,b12.ins oo h12 _ (by omega) (by omega),by omega,fun z=>absurd z (by omega)⟩)
   clear b;rintro σ1 K1 hg1;obtain ⟨F,cs,qs,pl,c1,rfl,b,lc,hp⟩:=(hG _ _ _).mp hg1;clear hg1;refine ⟨_,rfl,rfl,_,rfl,ab1 (G (8<=way)) ?_ (fun hw=>(hG _ _ _).mpr ⟨F,cs,qs,pl,c1,rfl,b,lc,fun z=>hp (by omega)⟩) (fun hw rest=> ?_)⟩
   rotate_left
   · have hw:way=7:=V.int.inj (of_decide_eq_true hw);obtain ⟨rfl,rfl,lc2⟩:=hp (by omega);refine ⟨_,rfl,.inl ⟨rfl,_,i8.of b.at_⟩,_,rfl,F,_,_,ia,_,rfl,rfl,b.at_,by omega,by omega,(ab7 (aj0 (by rw[co8,b.rows.1];omega))).1,D3 (K6 b.rows hr1).choose_spec.1,?_⟩;exact rest _ _ ((hG _ _ _).mpr ⟨F,_,_,_,_,rfl,b.era ia,by omega,fun z=>absurd z (by omega)⟩)
   clear b;rintro σ1 K1 hg1;obtain ⟨F,cs,qs,pl,c1,rfl,b,lc,hp⟩:=(hG _ _ _).mp hg1;clear hg1;refine ⟨_,rfl,_,_,rfl,rfl,_,rfl,ab1 (G (8<=way/\way<=10)) ?_ (fun hw=>(hG _ _ _).mpr ⟨F,cs,qs,pl,c1,rfl,b,lc,fun z=>hp z.1⟩) (fun hw rest=> ?_)⟩
   rotate_left
   · have hw:10 < way:=of_decide_eq_true hw;obtain ⟨rfl,rfl,lc2⟩:=hp (by omega)
     have ft:∀j,(qs.take j).flatten.length<=40:=fun j=>by have:=U8 qs j;omega
     refine ⟨_,rfl,F,rfl,⟨_,i8.of b.at_⟩,G3 (K:=K) (a:=F) (xs:=cs.map V.ref) (fun j ys σ Hx=>∃(v:Option V) (ds:List Addr) (ps:List (List Int)),σ=[v,some (.ref g),some (.int (many:Int))]/\ys=ds.map V.ref/\x8 Hx ds ps/\ps.map cw3=(qs.take j).map cw3/\ds.Nodup/\(∀x∈ds,x∉cs/\x≠F/\x≠g/\H x=none)/\K7 H g Hx F cs qs (c1+(qs.take j).flatten.length))
       ⟨none,[],[],rfl,rfl,⟨rfl,fun j b r h=>by cases h⟩,rfl,cv7,(fun x hx=>by cases hx),b⟩ (fun j ys σ Hx _ zz=>by obtain ⟨_,_,_,_,_,_,_,_,_,bx⟩:=zz;exact i8.of bx.at_) ?_ ?_⟩
     · rintro j x ys σ Hx hj ⟨v,ds,ps,rfl,rfl,rw_,el,nd,out,bx⟩;obtain ⟨e,he,rfl⟩:=T5 hj;obtain ⟨r,hr,he2⟩:=M9 bx.rows he
       have ne:e≠g:=fun z=>bx.ng (z▸cp3 he)
       have tk:=ft (j+1);rw[o9 hr,cq6,cr1,co9] at tk
       refine ⟨_,rfl,e,rfl,⟨_,i8.of he2⟩,G3 (K:=K) (a:=e) (xs:=r.map V.int) (fun i ys σ Hy=>∃(v:Option V) (os:List Int),σ=[v,some (.ref g),some (.int (many:Int))]/\ys=os.map V.int/\os.length=i/\x6 Hy g (c1+(qs.take j).flatten.length+i)/\l7 g Hx Hy)
         ⟨none,[],rfl,rfl,rfl,bx.pool,l7.refl _ _⟩ (fun i ys σ Hy _ zz=>by obtain ⟨_,_,_,_,_,_,kb⟩:=zz;exact i8.of (kb _ _ he2 ne)) ?_ ?_⟩
       · rintro i y ys σ Hy hi ⟨v,os,rfl,rfl,lo,Py,kby⟩
         have il:i < r.length:=by have:=(cp0.mp hi).1;rw[co8] at this;exact this
         refine ⟨_,rfl,_,rfl,g,_,_,rfl,Py,by omega,by omega,by omega,fun z Hz z0 z1 Pz kbz=>⟨m4 (by rw[co8];omega),_,os++[z],rfl,by rw[cp5];rfl,by rw[co9,lo];rfl,Pz,kby.trans kbz⟩⟩
       · rintro ys σ Hy ⟨v,os,rfl,rfl,lo,Py,kby⟩ D hD;rw[co8] at lo Py;have by_:=bx.kb kby Py;have oD:=by_.out hD
         have rw2:x8 Hy ds ps:=y6 rw_ fun x hx o e=>kby x o e (out x hx).2.2.1
         have nD:=bd4 rw2 hD;have sz:c9 Hy (e8 Hy D (.lst (os.map V.int))):=c9.upd_new hD;have hz:(e8 Hy D (.lst (os.map V.int))) D=some (.lst (os.map V.int)):=c8;generalize (e8 Hy D (.lst (os.map V.int)))=Hz at sz hz ⊢
         have dl:ds.length<=60:=by
           have a:=congrArg cw3 el;rw[co8,co8,cq2] at a;have:=rw_.1;omega
         refine ⟨m4 (by rw[co8];omega),_,ds++[D],ps++[os],rfl,by rw[cp5];rfl,M1 (y6 rw2 fun x hx o e=>sz _ _ e) hz,?_,R4 nd nD,fun x hx=> ?_,?_⟩
         · rw[o9 hr,cp5,cp5,el,List.map_singleton,List.map_singleton,lo]
         · rcases cp4.mp hx with z|z
           · exact out x z
           · rw[cq7.mp z];exact oD
         · rw[o9 hr,cq6,cr1,co9,<-Nat.add_assoc];exact by_.same sz
     · rintro ys σ Hx ⟨v,ds,ps,rfl,rfl,rw_,el,nd,out,bx⟩ D hD;rw[co8,bx.rows.1,cr7] at el bx;have oD:=bx.out hD;have nD:=bd4 rw_ hD;have fl2:=aw0 el;have sz:c9 Hx (e8 Hx D (.lst (ds.map V.ref))):=c9.upd_new hD;have hz:(e8 Hx D (.lst (ds.map V.ref))) D=some (.lst (ds.map V.ref)):=c8;generalize (e8 Hx D (.lst (ds.map V.ref)))=Hz at sz hz ⊢;refine rest _ _ ((hG _ _ _).mpr ⟨D,ds,ps,_,_,rfl,⟨hz,y6 rw_ fun x hx o e=>sz _ _ e,nd,nD,oD.2.2.2,fun x hx=>(out x hx).2.2.2,fun z=>(out g z).2.2.1 rfl,oD.2.2.1,m5 bx.pool sz,bx.kp.trans (sz.but g),by omega,by omega⟩,by omega,fun z=>absurd z.2 (by omega)⟩)
   clear b;rintro σ1 K1 hg1;obtain ⟨F,cs,qs,pl,c1,rfl,b,lc,hp⟩:=(hG _ _ _).mp hg1;clear hg1;refine ⟨_,rfl,(show 2<=sizeLine by decide),fun T hT=> ?_⟩;have sT:c9 K1 (e8 K1 T (.tup [V.int 9,V.int 10])):=c9.upd_new hT;have hT2:(e8 K1 T (.tup [V.int 9,V.int 10])) T=some (.tup [V.int 9,V.int 10]):=c8;generalize (e8 K1 T (.tup [V.int 9,V.int 10]))=K2 at sT hT2 ⊢;have b2:=b.same sT;clear b;refine ⟨T,_,rfl,.inr (Y3.of hT2),rfl,rfl,_,rfl,ab1 (G (way=8)) ?_ (fun hw=>(hG _ _ _).mpr ⟨F,cs,qs,pl,c1,rfl,b2,lc,fun z=>hp (by omega)⟩) (fun hw rest=> ?_)⟩
   rotate_left
   · have hw:inV (V.int way) (([9,10]:List Int).map V.int)=true:=hw;rw[bc5] at hw
     have hw:way=9\/way=10:=by simpa using of_decide_eq_true hw
     obtain ⟨rfl,rfl,lc2⟩:=hp (by omega);obtain ⟨x,hx,hrow⟩:=K6 b2.rows hr1;refine ⟨_,rfl,_,rfl,F,_,_,_,rfl,rfl,i8.of b2.at_,w6 (D3 hx),_,rfl,x,_,_,_,rfl,rfl,i8.of hrow,w6 (U9 (by omega)),_,_,rfl,rfl,_,rfl,_,rfl,F,_,_,_,rfl,rfl,i8.of b2.at_,w6 (D3 hx),_,rfl,x,_,_,_,rfl,rfl,hrow,aj0 (by rw[co8];omega),?_⟩;have b3:=b2.set (k:=ip) (v:=r1.getD ip 0+1) hx hr1 (by omega);have f3:=an7 (q:=r1.set ip (r1.getD ip 0+1)) hr1;rw[ct5] at f3
     obtain ⟨r3,hr3,l3⟩:∃r,(qs.set ia (r1.set ip (r1.getD ip 0+1)))[it]? =some r/\r.length=r2.length:=by
       rw[List.getElem?_set]
       by_cases z:ia=it
       · rw[if_pos z,if_pos (by omega)];refine ⟨_,rfl,?_⟩;rw[<-z,hr1] at hr2;rw[ct5,Option.some.inj hr2]
       · rw[if_neg z];exact ⟨r2,hr2,rfl⟩
     obtain ⟨y,hy,hrow2⟩:=K6 b3.rows hr3;refine ⟨_,rfl,_,rfl,_,rfl,F,_,_,_,rfl,rfl,i8.of b3.at_,w6 (D3 hy),y,_,rfl,.inl (i8.of hrow2),g,_,_,rfl,b3.pool,by omega,by rw[co8];omega,by rw[co8];omega,fun pz K4 z0 z1 P4' kb4'=> ?_⟩;have b4:=b3.kb kb4' P4';rw[co8] at z1;obtain ⟨iz,rfl⟩:=cq8 z0;have hrow4:=kb4' _ _ hrow2 (fun z=>b3.ng (z▸cp3 hy));refine ⟨_,rfl,_,rfl,F,_,_,_,rfl,rfl,i8.of b4.at_,w6 (D3 hy),_,rfl,y,_,_,_,rfl,rfl,i8.of hrow4,w6 (U9 (by omega)),_,_,rfl,rfl,_,rfl,_,rfl,F,_,_,_,rfl,rfl,i8.of b4.at_,w6 (D3 hy),_,rfl,y,_,_,_,rfl,rfl,hrow4,aj0 (by rw[co8];omega),?_⟩;exact rest _ _ ((hG _ _ _).mpr ⟨F,cs,_,_,_,rfl,b4.set (v:=r3.getD iz 0 - 1) hy hr3 (by omega),by omega,fun z=>absurd z (by omega)⟩)
   clear b2;rintro σ1 K1 hg1;obtain ⟨F,cs,qs,pl,c1,rfl,b,lc,hp⟩:=(hG _ _ _).mp hg1;clear hg1;refine ⟨_,rfl,rfl,_,rfl,ab1 (G False) ?_ (fun hw=>(hG _ _ _).mpr ⟨F,cs,qs,pl,c1,rfl,b,lc,fun z=>z.elim⟩) (fun hw rest=> ?_)⟩
   rotate_left
   · have hw:way=8:=V.int.inj (of_decide_eq_true hw);obtain ⟨rfl,rfl,lc2⟩:=hp hw;obtain ⟨x,hx,hrow⟩:=K6 b.rows hr1;have cl:=b.rows.1;refine ⟨_,rfl,_,rfl,_,rfl,F,_,rfl,i8.of b.at_,fun d1 hd1=> ?_⟩;have s1:c9 K1 (e8 K1 d1 (.lst (C6 (cs.map V.ref) none (some (ia:Int))))):=c9.upd_new hd1;have h1:(e8 K1 d1 (.lst (C6 (cs.map V.ref) none (some (ia:Int))))) d1=some (.lst (C6 (cs.map V.ref) none (some (ia:Int)))):=c8;generalize (e8 K1 d1 (.lst (C6 (cs.map V.ref) none (some (ia:Int)))))=J1 at s1 h1 ⊢;rw[L2.ah0 _ ia (by rw[co8];omega)] at h1;have b1:=b.same s1;refine ⟨_,rfl,_,rfl,F,_,_,_,rfl,rfl,i8.of b1.at_,w6 (D3 hx),_,rfl,_,rfl,x,_,rfl,i8.of (s1 _ _ hrow),fun d2 hd2=> ?_⟩;have o2:=b1.out hd2;have s2:c9 J1 (e8 J1 d2 (.lst (C6 (r1.map V.int) none (some (ip:Int))))):=c9.upd_new hd2;have h2:(e8 J1 d2 (.lst (C6 (r1.map V.int) none (some (ip:Int))))) d2=some (.lst (C6 (r1.map V.int) none (some (ip:Int)))):=c8;generalize (e8 J1 d2 (.lst (C6 (r1.map V.int) none (some (ip:Int)))))=J2 at s2 h2 ⊢;rw[L2.ah0 _ ip (by rw[co8];omega)] at h2;have b2:=b1.same s2;refine ⟨_,rfl,_,rfl,F,_,_,_,rfl,rfl,i8.of b2.at_,w6 (D3 hx),_,rfl,_,rfl,x,_,rfl,i8.of (s2 _ _ (s1 _ _ hrow)),fun d3 hd3=> ?_⟩;have o3:=b2.out hd3
     have n23:d2≠d3:=fun z=>by rw[<-z,h2] at hd3;cases hd3
     have s3:c9 J2 (e8 J2 d3 (.lst (C6 (r1.map V.int) (some (ip:Int)) none))):=c9.upd_new hd3;have h3:(e8 J2 d3 (.lst (C6 (r1.map V.int) (some (ip:Int)) none))) d3=some (.lst (C6 (r1.map V.int) (some (ip:Int)) none)):=c8;generalize (e8 J2 d3 (.lst (C6 (r1.map V.int) (some (ip:Int)) none)))=J3 at s3 h3 ⊢;rw[L2.Z0 _ ip (by rw[co8];omega)] at h3;have b3:=b2.same s3;refine ⟨(show 2<=sizeLine by decide),fun d4 hd4=> ?_⟩;have s4:c9 J3 (e8 J3 d4 (.lst ([V.ref d2,V.ref d3]))):=c9.upd_new hd4;have h4:(e8 J3 d4 (.lst ([V.ref d2,V.ref d3]))) d4=some (.lst ([V.ref d2,V.ref d3])):=c8;generalize (e8 J3 d4 (.lst ([V.ref d2,V.ref d3])))=J4 at s4 h4 ⊢;have b4:=b3.same s4;refine ⟨d1,d4,_,_,rfl,rfl,s4 _ _ (s3 _ _ (s2 _ _ h1)),h4,cr5 (m4 (by rw[cq2,co8];show _+2<=1000;omega)),fun d5 hd5=> ?_⟩;have s5:c9 J4 (e8 J4 d5 (.lst ((cs.map V.ref).take ia++[V.ref d2,V.ref d3]))):=c9.upd_new hd5;have h5:(e8 J4 d5 (.lst ((cs.map V.ref).take ia++[V.ref d2,V.ref d3]))) d5=some (.lst ((cs.map V.ref).take ia++[V.ref d2,V.ref d3])):=c8;generalize (e8 J4 d5 (.lst ((cs.map V.ref).take ia++[V.ref d2,V.ref d3])))=J5 at s5 h5 ⊢;have b5:=b4.same s5;refine ⟨_,rfl,_,rfl,_,_,rfl,rfl,_,rfl,F,_,rfl,i8.of b5.at_,fun d6 hd6=> ?_⟩;have s6:c9 J5 (e8 J5 d6 (.lst (C6 (cs.map V.ref) (some ((ia:Int)+1)) none))):=c9.upd_new hd6;have h6:(e8 J5 d6 (.lst (C6 (cs.map V.ref) (some ((ia:Int)+1)) none))) d6=some (.lst (C6 (cs.map V.ref) (some ((ia:Int)+1)) none)):=c8;generalize (e8 J5 d6 (.lst (C6 (cs.map V.ref) (some ((ia:Int)+1)) none)))=J6 at s6 h6 ⊢;have b6:=b5.same s6
     replace h6:J6 d6=some (.lst (C6 (cs.map V.ref) (some (((ia+1:Nat):Int))) none)):=h6
     rw[L2.Z0 _ (ia+1) (by rw[co8];omega)] at h6;refine ⟨d5,d6,_,_,rfl,rfl,s6 _ _ h5,h6,cr5 (m4 (by rw[co9,cq2,cq9,co8];show _+2+_<=1000;omega)),fun d7 hd7=> ?_⟩;have o7:=b6.out hd7;have s36:c9 J3 J6:=s4.trans (s5.trans s6);have g2:=s36 _ _ (s3 _ _ h2);have g3:=s36 _ _ h3;have n72:d7≠d2:=(i9 g2 hd7).symm;have n73:d7≠d3:=(i9 g3 hd7).symm;have s7:c9 J6 (e8 J6 d7 (.lst ((cs.map V.ref).take ia++[V.ref d2,V.ref d3]++(cs.map V.ref).drop (ia+1)))):=c9.upd_new hd7;have h7:(e8 J6 d7 (.lst ((cs.map V.ref).take ia++[V.ref d2,V.ref d3]++(cs.map V.ref).drop (ia+1)))) d7=some (.lst ((cs.map V.ref).take ia++[V.ref d2,V.ref d3]++(cs.map V.ref).drop (ia+1))):=c8;generalize (e8 J6 d7 (.lst ((cs.map V.ref).take ia++[V.ref d2,V.ref d3]++(cs.map V.ref).drop (ia+1))))=J7 at s7 h7 ⊢
     have sub:(cs.take ia++cs.drop (ia+1)).Sublist cs:=by rw[<-ct8];exact cy5 cs ia
     have e7:(cs.map V.ref).take ia++[V.ref d2,V.ref d3]++(cs.map V.ref).drop (ia+1)=(cs.take ia++([d2,d3]++cs.drop (ia+1))).map V.ref:=by
       rw[cp5,cp5,cw2,cw9,cy2];rfl
     have pm:(cs.take ia++([d2,d3]++cs.drop (ia+1))).Perm (d2::d3::(cs.take ia++cs.drop (ia+1))):=by
       refine cx4.trans (List.Perm.cons d2 cx4)
     have rr:=Q8 (ai8 b6.rows ia) (Q8 (Q8 (Q9 (r:=r1.take ip) (by rw[cw2];exact g2)) (Q9 (r:=r1.drop ip) (by rw[cw9];exact g3))) (ai9 b6.rows (ia+1)));have nd2:(d2::d3::(cs.take ia++cs.drop (ia+1))).Nodup:=cs5.mpr ⟨fun z=>(cq5.mp z).elim n23 fun z=>o2.1 (sub.mem z),cs5.mpr ⟨fun z=>o3.1 (sub.mem z),b.nd.sublist sub⟩⟩
     have mm:∀y∈cs.take ia++([d2,d3]++cs.drop (ia+1)),y=d2\/y=d3\/y∈cs:=fun y hy=>by
       rcases cq5.mp (pm.mem_iff.mp hy) with z|z
       · exact .inl z
       · rcases cq5.mp z with z|z
         · exact .inr (.inl z)
         · exact .inr (.inr (sub.mem z))
     refine rest _ _ ((hG _ _ _).mpr ⟨d7,cs.take ia++([d2,d3]++cs.drop (ia+1)),_,_,_,rfl,⟨by rw[<-e7];exact h7,y6 rr fun x hx o e=>s7 _ _ e,pm.nodup_iff.mpr nd2,fun z=> ?_,o7.2.2.2,fun y hy=> ?_,fun z=> ?_,o7.2.2.1,m5 b6.pool s7,b6.kp.trans (s7.but g),?_,?_⟩,by omega,fun z=>z.elim⟩)
     · rcases mm _ z with z|z|z
       · exact n72 z
       · exact n73 z
       · exact o7.1 z
     · rcases mm _ hy with z|z|z
       · rw[z];exact o2.2.2.2
       · rw[z];exact o3.2.2.2
       · exact b.fr y z
     · rcases mm _ z with z|z|z
       · exact o2.2.2.1 z.symm
       · exact o3.2.2.1 z.symm
       · exact b.ng z
     · rw[co9,co9,cq2,cq9];show _+(2+_)<=60;omega
     · have h1:=U8 qs ia;have h2:=U8 (qs.drop ia) 1;rw[List.drop_drop] at h2
       have:r1.length=(r1.take ip).length+(r1.drop ip).length:=by rw[<-co9,cs7]
       rw[cq6,cq6,co9,co9]
       have e3:([r1.take ip]++[r1.drop ip]).flatten.length=r1.length:=by
         show (r1.take ip++(r1.drop ip++[])).length=_;rw[cw1,cs7]
       rw[e3];omega
   clear b;rintro σ1 K1 hg1;obtain ⟨F,cs,qs,pl,c1,rfl,b,lc,hp⟩:=(hG _ _ _).mp hg1;exact ⟨_,rfl,q F _ _ _ b.fF b.at_ b.rows b.ng b.ln b.sz (b.pool.mono (by omega)) b.kp⟩
end
end My
namespace My
open PySem L2 Mth PySem.Spec PyProof.Rows
section
def cn3 (K:PySem.W.Frag)(neg:Bool):R2:=fun x y H Q=>∃(p r:Addr) (bs:List Addr) (ts:List (List Int)) (q:List Int),x= .ref r/\y= .ref p/\i8 K H p (bs.map V.ref)/\x8 H bs ts/\H r=some (.lst (q.map V.int))/\Q (.bl (if neg then !decide (q∈ts) else decide (q∈ts))) H
open Classical in
noncomputable def eqR (H:Hp)(q:List Int)(y:Value):Bool:=decide (∃b,y= .ref b/\H b=some (.lst (q.map V.int)))
theorem at2 {H:Hp}{q row:List Int}{b:Addr}(hb:H b=some (.lst (row.map V.int))):eqR H q (.ref b)=decide (row=q):=by
 unfold eqR
 by_cases c:row=q
 · rw[decide_eq_true c];exact @decide_eq_true _ (Classical.propDecidable _) ⟨b,rfl,by rw[<-c];exact hb⟩
 · rw[decide_eq_false c]
   refine @decide_eq_false _ (Classical.propDecidable _) fun ⟨b',e,h⟩=> ?_
   cases e;rw[hb] at h
   injection h with h
   injection h with h
   exact c (V2 h)
theorem bs7 {bs:List Addr}:∀{its:List Value},o5 (bs.map V.ref) its->its=bs.map Value.ref:=by
 induction bs with
 |nil=>intro its h;cases h;rfl
 |cons b bs ih=>
  intro its h
  cases h with
  |cons r t=>
   cases r;rw[ih t];rfl
theorem bd6 {H:Hp}{q:List Int}:∀{bs:List Addr} {ts:List (List Int)},x8 H bs ts->(bs.map Value.ref).any (eqR H q)=decide (q∈ts)
 |[],[],_=>rfl
 |[],t::ts,h=>by have:=h.1;simp at this
 |b::bs,[],h=>by have:=h.1;simp at this
 |b::bs,t::ts,h=>by
  have h0:=h.2 0 b t rfl rfl;have ht:x8 H bs ts:=⟨by have:=h.1;simpa using this,fun j a r e1 e2=>h.2 (j+1) a r e1 e2⟩;rw[cr0,cx5,bd6 ht,at2 h0,cv2,cz0,decide_eq_true_iff,decide_eq_true_iff,decide_eq_true_iff,cq5];exact ⟨fun z=>z.elim (fun e=> .inl e.symm) .inr,fun z=>z.elim (fun e=> .inl e.symm) .inr⟩
theorem ci0 {X:Cx}(hu0:X.A.units+1+1 < cLine):L9 X (compareOp .In) (cn3 X.K false):=by
 have hu:X.A.in1.units+0+1 < cLine:=by rw[Around.in1_units];exact hu0
 intro pins s σ H x y v u Q I rx ry h;obtain ⟨p,r,bs,ts,q,rfl,rfl,hq,rows,hr,k⟩:=h;cases rx;cases ry;obtain ⟨its,rr,pl,hz⟩:=I.list hq;have ei:=bs7 rr;refine SeqAt.in_listAt (eqR H q) pl.isList (fun w hw=> ?_) ⟨.bl _,H,I,rfl,?_⟩
 · have hw:w∈its:=by simpa using hw
   rw[ei] at hw;obtain ⟨b,hb,rfl⟩:=cs6.mp hw;obtain ⟨j,hj⟩:=ct4.mp hb;have jl:=(cp0.mp hj).1;have h1:=rows.2 j b _ hj (cp1 (by rw[<-rows.1];exact jl))
   by_cases e:b=r
   · subst e;rw[at2 hr,decide_eq_true rfl];exact SeqAt.EqAt.same _
   · rw[at2 h1];exact SeqAt.EqAt.of_refs e (bp0 (n:=0) I hu (i8.of h1) (i8.of hr) (ad7 _ _ _ _ _))
 · rw[show its.toArray.any (eqR H q)=its.any (eqR H q) by simp,ei,bd6 rows];exact k
end
end My
namespace My
open PySem L2 Mth
section
variable {P:Program} {w:World} {K:PySem.W.Frag} {mg:Str->Option Value} {base:Heap}
theorem bs8 (K:PySem.W.Frag){X:Cx}{o e:Expr}{to:TE}{t:TA}{apos pos:Pos}(ho:PE X o to)(ha:PA X [e] t)(hK:X.K=K:=by rfl)
   (hbase:attributeBase o "count" X.env (eval o X.env)=eval o X.env:=by rfl)
   (hfew:((backTo pos (starEach [e] X.env)).all (fun x=> !x.1)&&(backToKw pos (keywordEach [] X.env)).all (fun x=>x.1.isSome)
     &&decide ([e].length+([]:List Keyword).length+(if ([]:List Keyword).isEmpty then 0 else 1) < 30))=true:=by rfl)
   (hline:(apos.endLine==pos.line)=true:=by rfl) (hs:starEach [e] X.env=(false,eval e X.env)::starEach [] X.env:=by rfl) (hplain:(backTo pos (starEach [] X.env)).any (·.1)=false:=by rfl):
   PE X (.Call (.Attribute o "count" apos) [e] [] pos) (tBM K "list" ba2 to t):=by
 subst hK;exact bv6 ho ha hbase hfew hline hs hplain
end
end My
namespace My
open PySem L2 Mth
section
variable {P:Program} {w:World} {K:PySem.W.Frag} {mg:Str->Option Value} {base:Heap} {zxy zzz zwz zzy zyz zyx zyy zxx zx zxz zw:Addr}
def ax7 (rs:List (List Int)):Prop:=(∀r∈rs,r≠[])/\D8 rs.flatten/\rs.flatten.length<=40
theorem ci1 {x:Int}:∀{l:List Int},l.Nodup->x∈l->(l.countP fun i=>decide (i=x))=1
 |y::l,nd,h=>by
  rw[cs5] at nd;rw[da5]
  by_cases c:y=x
  · rw[if_pos (decide_eq_true c),List.countP_eq_zero.mpr fun z hz e=>nd.1 (by rw[c,<-of_decide_eq_true e];exact hz)]
  · rw[if_neg (fun e=>c (of_decide_eq_true e)),ci1 nd.2 ((cq5.mp h).resolve_left fun e=>c e.symm)]
theorem bx1 {p:List Int}:(∀k,k < p.length->(p.countP fun i=>decide (i=(k:Int)))=1)↔D8 p:=by
 constructor
 · intro h;refine (V1 (n:=p.length) ?_).1;refine (al4 (S9 p.length) (fun x hx=> ?_) (by rw[A6];exact cq0 _)).symm;have b:=M4.mp hx;obtain ⟨k,rfl⟩:=cq8 b.1;have:=h k (by omega);obtain ⟨y,hy,e⟩:=List.countP_pos_iff.mp (show 0 < p.countP fun i=>decide (i=(k:Int)) by omega);rw[<-of_decide_eq_true e];exact hy
 · intro h k hk;exact ci1 h.1 (h.perm.mem_iff.mpr (M4.mpr ⟨by omega,by omega⟩))
def bl3:Sp:=fun vs H Q _=>∃(l:Addr) (as:List Addr) (rs:List (List Int)),vs=[.ref l]/\H l=some (.lst (as.map V.ref))/\x8 H as rs/\rs.flatten.length<=2000/\rs.length<=2000/\
 (¬ax7 rs->∀H',c9 H H'->Q .non H')/\(ax7 rs->∀(o:Addr) (t:List Int) (H':Hp),H o=none->c9 H H'->H' o=some (.lst (t.map V.int))->t.length=rs.flatten.length->aq1 t rs->Q (.ref o) H')
theorem M6:r6 ["rounds","things","one","found","k"] ["rounds"] (m6 ah7):=by rfl'
theorem ag0:(["k","things"]:List Str).Nodup:=by decide+kernel
theorem bl4 {f:Addr}{fd:FuncData}(F:B6 K "_law_due" "_law_due" ah7 f fd)(B:Bl mg):q9 P w K mg base C3 1 f fd ["rounds"] bl3:=by
 refine F.ok M6 (fun vs H Q E h=> ?_) (fun cdv A outer s H vs Q E hr h=> ?_)
 · obtain ⟨l,as,rs,rfl,hl,rows,len,ln,qn,qg⟩:=h;rfl
 · obtain ⟨l,as,rs,rfl,hl,rows,len,ln,qn,qg⟩:=h;have hu:=S6 hr;have hu2:_+1+1 < cLine:=cu2 (cv3 (by decide:2<=64) _) hr.units;refine ⟨_,@i4 _ _ _ _ _ (@l8 _ _ (1) _ _ _ _ M6.nd rfl (Or.inr rfl) (@m8 _ _ _ _ (@c7 _)) (by rfl) (by trivial)) (@i4 _ _ _ _ _ (@B7 _ _ _ _ _ _ _ _ PassesOwn.never rfl (@A8 _ _ _ _ (pv 0)) (@v0 _ _ (2) _ M6.nd rfl (Or.inl rfl) (by trivial)) (@i5 _ _ _ (@l8 _ _ (1) _ _ _ _ M6.nd rfl (Or.inr rfl) (@m3 _ _ _ _ _ _ _ _ B8 (pv 1) (pv 2)) (by rfl) (by trivial))) (by intro _;rfl)) (@i4 _ _ _ _ _ (@A0 _ _ _ _ _ _ _ _ (@D7 _ _ _ _ _ _ _ (@m9 _ _ _ _ _ _ _ _ (ci0 hu2) (@m8 _ _ _ _ (@c7 _)) (pv 0) (by with_unfolding_all rfl)) (@D7 _ _ _ _ _ _ _ (@m9 _ _ _ _ _ _ _ _ aa3 (@x9 _ _ _ _ _ B.len (@c6 _ _ _ _ _ (pv 1) (@c7 _) (by rfl)) (by rfl) (by rfl)) (@i7 _ _ _ _) (q0 _)) (@K8 _ _ _ _ (@m9 _ _ _ _ _ _ _ _ (ag8 0 hu) (@D5 _ _ _ _ _ _ _ _ _ _ _ (["k","things"]) (1) ([1]) rfl .of (@D4 _ _ _ _ _ _ (by rfl) B.range (@c6 _ _ _ _ _ (@x9 _ _ _ _ _ B.len (@c6 _ _ _ _ _ (pv 1) (@c7 _) (by rfl)) (by rfl) (by rfl)) (@c7 _) (by rfl)) (by rfl)) (fun _ _ _ _ _=>@v0 _ _ (0) _ ag0 rfl (Or.inl rfl) (by trivial)) (fun _ _ _ _ _=>@am2 _ _ _ (@m9 _ _ _ _ _ _ _ _ ao2 (@bs8 K _ _ _ _ _ _ _ (pv 1) (@c6 _ _ _ _ _ (pv 0) (@c7 _) (by rfl)) (by rfl) (by rfl) (by rfl) (by rfl) (by rfl) (by rfl)) (@i7 _ _ _ _) (q0 _))) (fun _ _ _ _ _=>(pv 0)) (by intro _;rfl)) (@m8 _ _ _ _ (@c7 _)) (q0 _))))).pt (@i5 _ _ _ (@m7 _ _ _ _ (@O0 _ _ _))) (@o8 _)) (@i4 _ _ _ _ _ (@l8 _ _ (3) _ _ _ _ M6.nd rfl (Or.inl rfl) (@m3 _ _ _ _ _ _ _ _ bo2 (@m8 _ _ _ _ (@c6 _ _ _ _ _ (@i7 _ _ _ _) (@c7 _) (by rfl))) (@x9 _ _ _ _ _ B.len (@c6 _ _ _ _ _ (pv 1) (@c7 _) (by rfl)) (by rfl) (by rfl))) (by rfl) (by trivial)) (@i4 _ _ _ _ _ (@B7 _ _ _ _ _ _ _ _ PassesOwn.never rfl (@A8 _ _ _ _ (pv 0)) (@v0 _ _ (2) _ M6.nd rfl (Or.inl rfl) (by trivial)) (@i5 _ _ _ (@B7 _ _ _ _ _ _ _ _ PassesOwn.never rfl (@D4 _ _ _ _ _ _ (by rfl) B.range (@c6 _ _ _ _ _ (@x9 _ _ _ _ _ B.len (@c6 _ _ _ _ _ (pv 2) (@c7 _) (by rfl)) (by rfl) (by rfl)) (@c7 _) (by rfl)) (by rfl)) (@v0 _ _ (4) _ M6.nd rfl (Or.inl rfl) (by trivial)) (@i5 _ _ _ (@O3 _ _ _ _ _ _ (@y7 _ _ _ _ _ _ _ o0 (pv 2) (pv 4) (fun _ _=>rfl)) (@O2 _ _ _ _ _ _ _ (pv 3) (@y7 _ _ _ _ _ _ _ o0 (pv 2) (@m3 _ _ _ _ _ _ _ _ S1 (pv 4) (@i7 _ _ _ _)) (fun _ _=>rfl)) K3 (by intro _;rfl)) (by rfl) (by rfl) (by rfl))) (by intro _;rfl))) (by intro _;rfl)) (@i5 _ _ _ (@m7 _ _ _ _ (pv 3))))))),?_⟩;refine ⟨cs1 _,fun t0 ht0=> ?_⟩;have s1:c9 H (e8 H t0 (.lst [])):=c9.upd_new ht0;have h1:(e8 H t0 (.lst [])) t0=some (.lst (([]:List Int).map V.int)):=c8;generalize (e8 H t0 (.lst []))=H1 at s1 h1 ⊢
   refine ⟨_,rfl,l,rfl,⟨_,i8.of (s1 _ _ hl)⟩,C2 (K:=K) (a:=l) (xs:=as.map V.ref) (fun i σ H2=>∃(th:Addr) (v:Option V),σ=[some (.ref l),some (.ref th),v,none,none]/\c9 H H2/\H2 th=some (.lst ((rs.take i).flatten.map V.int)))
     ⟨t0,none,rfl,s1,h1⟩ (fun i σ H2 _ zz=>by obtain ⟨_,_,_,s,_⟩:=zz;exact i8.of (s _ _ hl)) ?_ ?_⟩
   · rintro i x σ H2 hi ⟨th,v,rfl,s2,h2⟩;obtain ⟨e,he,rfl⟩:=T5 hi;obtain ⟨r,hr,he2⟩:=M9 rows he;have hle:=Z7 rs (i+1);rw[o9 hr,cq6,cr1,co9] at hle;refine ⟨_,rfl,_,rfl,th,e,_,_,rfl,rfl,h2,s2 _ _ he2,cr5 (ab0 (by rw[co8,co8];omega)),fun p hp=> ?_⟩;refine ⟨p,_,rfl,s2.trans (c9.upd_new hp),?_⟩;rw[c8,o9 hr,cq6,cr1,cp5]
   rintro σ H2 ⟨th,v,rfl,s2,h2⟩;rw[co8,rows.1,cr7] at h2;refine ⟨cs1 _,fun e0 he0=> ?_⟩;have s3:c9 H2 (e8 H2 e0 (.lst [])):=c9.upd_new he0;have h3:(e8 H2 e0 (.lst [])) e0=some (.lst (([]:List Int).map V.int)):=c8;generalize (e8 H2 e0 (.lst []))=H3 at s3 h3 ⊢;have s03:=s2.trans s3
   have rows3:x8 H3 as rs:=y6 rows fun x hx o e=>s03 _ _ e
   refine ⟨_,rfl,l,e0,as,rs,[],rfl,rfl,i8.of (s03 _ _ hl),rows3,h3,_,rfl,G0 (fun c=>B3 (qn (fun g=>g.1 [] (of_decide_eq_true c) rfl) H3 s03)) (fun c1=> ?_)⟩
   have ne:∀r∈rs,r≠[]:=fun r hr e=>c1 (decide_eq_true (e▸hr))
   have h3t:=s3 _ _ h2;refine ⟨_,rfl,th,_,rfl,.inl (i8.of h3t),_,_,rfl,rfl,_,rfl,G0 (fun c=>B3 (qn (fun g=> ?_) H3 s03)) (fun c2=> ?_)⟩
   · have c:=of_decide_eq_true c;have:=g.2.2;rw[co8] at c;omega
   have l40:rs.flatten.length<=40:=by
     have:¬(40:Int) < ((rs.flatten.map V.int).length:Int):=fun z=>c2 (decide_eq_true z)
     rw[co8] at this;omega
   refine ⟨_,rfl,th,_,rfl,.inl (i8.of h3t),(rs.flatten.length:Int),by rw[co8],by omega,by omega,S7 (lo:=0) (n:=(rs.flatten.length:Int).toNat) (fun j ys σ Hx=>∃(v:Option V) (zs:List Int),σ=[v,some (.ref th)]/\Hx=H3/\ys=zs.map V.int/\zs.length<=j/\(zs=[]↔∀k,k < j->(rs.flatten.countP fun i=>decide (i=(k:Int)))=1))
     ⟨none,[],rfl,rfl,rfl,cq0 _,⟨fun _ k hk=>by omega,fun _=>rfl⟩⟩ ?_ ?_⟩
   · rintro j ys σ Hx hj ⟨v,zs,rfl,rfl,rfl,lz,ez⟩;rw[show (0:Int)+(j:Int)=(j:Int) by omega];refine ⟨_,rfl,.inl ⟨rfl,_,i8.of h3t⟩,_,rfl,th,_,_,rfl,rfl,h3t,rfl,_,rfl,?_⟩
     by_cases z:(rs.flatten.countP fun i=>decide (i=(j:Int)))=1
     · refine ad5 (congrArg V.int (by rw[z];rfl)) ⟨_,zs,rfl,rfl,rfl,by omega,ez.trans ⟨fun a k hk=> ?_,fun a k hk=>a k (by omega)⟩⟩
       by_cases y:k=j
       · rw[y];exact z
       · exact a k (by omega)
     · have d:decide (V.int ((rs.flatten.countP fun i=>decide (i=(j:Int)):Nat):Int)=V.int 1)=false:=decide_eq_false fun y=>z (by have:=V.int.inj y;omega)
       rw[d];refine B3 ⟨_,rfl,m4 (by rw[co8];omega),_,zs++[(j:Int)],rfl,rfl,by rw[cp5];rfl,by rw[co9];exact da3 lz,⟨fun y=> ?_,fun y=>absurd (y j (by omega)) z⟩⟩;exact absurd (congrArg cw3 y) (by rw[co9];simp)
   rintro ys σ Hx ⟨v,zs,rfl,rfl,rfl,lz,ez⟩ D hD;have s4:c9 Hx (e8 Hx D (.lst (zs.map V.int))):=c9.upd_new hD;have h4:(e8 Hx D (.lst (zs.map V.int))) D=some (.lst (zs.map V.int)):=c8;generalize (e8 Hx D (.lst (zs.map V.int)))=H4 at s4 h4 ⊢;refine ⟨cs1 _,fun e1 he1=> ?_⟩;have s5:c9 H4 (e8 H4 e1 (.lst [])):=c9.upd_new he1;have h5:(e8 H4 e1 (.lst [])) e1=some (.lst []):=c8;generalize (e8 H4 e1 (.lst []))=H5 at s5 h5 ⊢;have s05:=s03.trans (s4.trans s5);refine ⟨D,e1,_,_,_,rfl,rfl,i8.of (s5 _ _ h4),i8.of h5,aj9 K H5 0 _,_,rfl,?_⟩;rw[show (rs.flatten.length:Int).toNat=rs.flatten.length by omega] at ez;rw[bx1] at ez
   by_cases zz:¬zs=[]
   · have:(!(zs.map V.int).isEmpty)=true:=by
       cases zs with
       |nil=>exact absurd rfl zz
       |cons a b=>rfl
     show if (!(zs.map V.int).isEmpty)=true then _ else _
     rw[this];exact B3 (qn (fun g=>zz (ez.mpr g.2.1)) H5 s05)
   replace zz:zs=[]:=Classical.not_not.mp zz
   have good:ax7 rs:=⟨ne,ez.mp zz,l40⟩;subst zz;refine A5 ?_;refine ⟨(show 1<=sizeLine by decide),fun z hz=> ?_⟩;have s6:c9 H5 (e8 H5 z (.lst [V.int 0])):=c9.upd_new hz;have h6:(e8 H5 z (.lst [V.int 0])) z=some (.lst [V.int 0]):=c8;generalize (e8 H5 z (.lst [V.int 0]))=H6 at s6 h6 ⊢;have h6t:=(s4.trans (s5.trans s6)) _ _ h3t;have s06:=s05.trans s6;refine ⟨_,rfl,th,_,rfl,.inl (i8.of h6t),z,_,_,rfl,rfl,h6,by rw[co8];omega,by rw[co8];omega,cr5 (m4 (by rw[cu5,co8];show 1*_<=1000;omega)),fun fo hfo=> ?_⟩
   have erep:(cr6 ((rs.flatten.map V.int).length:Int).toNat [V.int 0]).flatten=(cr6 rs.flatten.length (0:Int)).map V.int:=by
     rw[cu5,co8,List.flatten_replicate_singleton,List.map_replicate]
   rw[erep];have s7:c9 H6 (e8 H6 fo (.lst ((cr6 rs.flatten.length (0:Int)).map V.int))):=c9.upd_new hfo;have h7:(e8 H6 fo (.lst ((cr6 rs.flatten.length (0:Int)).map V.int))) fo=some (.lst ((cr6 rs.flatten.length (0:Int)).map V.int)):=c8;generalize (e8 H6 fo (.lst ((cr6 rs.flatten.length (0:Int)).map V.int)))=H7 at s7 h7 ⊢;have s07:=s06.trans s7;have hfo0:H fo=none:=s06.free hfo;obtain ⟨nf,lo0,hi0⟩:=good.2.1
   refine ⟨_,rfl,l,rfl,⟨_,i8.of (s07 _ _ hl)⟩,C2 (K:=K) (a:=l) (xs:=as.map V.ref) (fun i σ Hx=>∃(fs:List Int) (v2 v4:Option V),σ=[some (.ref l),some (.ref th),v2,some (.ref fo),v4]/\c9 H Hx/\Hx fo=some (.lst (fs.map V.int))/\fs.length=rs.flatten.length/\aq1 fs (rs.take i))
     ⟨_,_,none,rfl,s07,h7,cv9,fun r hr=>by rw[db2] at hr;cases hr⟩ (fun i σ Hx _ zz=>by obtain ⟨_,_,_,_,s,_⟩:=zz;exact i8.of (s _ _ hl)) ?_ ?_⟩
   · rintro i x σ Hx hi ⟨fs,v2,v4,rfl,sx,hx,fl,al⟩;obtain ⟨e,he,rfl⟩:=T5 hi;obtain ⟨r,hr,he2⟩:=M9 rows he;have rn:=ct9.mpr (ne r (cp3 hr));have rle:=an8 (cp3 hr);have nfo:e≠fo:=i9 he2 hfo0
     have sub:((rs.take i).flatten++r).Sublist rs.flatten:=by
       have e:(rs.take i).flatten++r=(rs.take (i+1)).flatten:=by rw[o9 hr,cq6,cr1]
       rw[e]
       conv=>rhs;rw[<-cs7 (i+1) rs,cq6]
       exact List.sublist_append_left _ _
     have nd9:=nf.sublist sub
     have bd9:∀x∈(rs.take i).flatten++r,0<=x/\x < (rs.flatten.length:Int):=fun x hx=>⟨lo0 x (sub.mem hx),hi0 x (sub.mem hx)⟩
     refine ⟨_,rfl,e,_,rfl,.inl (i8.of (sx _ _ he2)),(r.length:Int),by rw[co8],by omega,by omega,R0 (lo:=0) (n:=(r.length:Int).toNat) (fun j σ Hy=>∃(fs':List Int) (v4:Option V),σ=[some (.ref l),some (.ref th),some (.ref e),some (.ref fo),v4]/\c9 H Hy/\Hy fo=some (.lst (fs'.map V.int))/\fs'.length=rs.flatten.length/\aq1 fs' (rs.take i)/\∀w,w < j->L4 fs' (r.getD ((w+r.length - 1)%r.length) 0)=some (r.getD w 0))
       ⟨fs,_,rfl,sx,hx,fl,al,fun w hw=>by omega⟩ ?_ ?_⟩
     · rintro j σ Hy hj ⟨fs',w4,rfl,sy,hy,fl',al',st'⟩
       have hjl:j < r.length:=by omega
       have hpl:(j+r.length - 1)%r.length < r.length:=da4 _ (by omega);have hye:=sy _ _ he2;refine ⟨_,rfl,_,rfl,e,_,_,_,rfl,rfl,i8.of hye,bu9 (by omega),?_⟩
       have hat:X1 (r.map V.int) ((0:Int)+(j:Int) - 1)=some (.int (r.getD ((j+r.length - 1)%r.length) 0)):=by
         have key:R1 (r.map V.int).length ((0:Int)+(j:Int) - 1)=some ((j+r.length - 1)%r.length):=by
           unfold R1;rw[co8]
           by_cases z:j=0
           · rw[if_neg (by omega),if_pos (by omega)]
             have:(j+r.length - 1)%r.length=r.length - 1:=by rw[z,cy0];exact ct7 (by omega)
             rw[this];congr 1;omega
           · rw[if_pos (by omega),if_pos (by omega)]
             have:(j+r.length - 1)%r.length=j - 1:=by
               rw[show j+r.length - 1=(j - 1)+r.length by omega,cx2];exact ct7 (by omega)
             rw[this];congr 1;omega
         unfold X1;rw[key];exact U9 hpl
       have hv:r.getD ((j+r.length - 1)%r.length) 0∈r:=by rw[G4 hpl];exact cs0 _
       have hvb:=bd9 _ (cp8 _ hv);refine ⟨_,rfl,_,rfl,_,rfl,_,_,rfl,rfl,e,_,_,_,rfl,rfl,i8.of hye,hat,fo,_,_,(r.getD ((j+r.length - 1)%r.length) 0).toNat,rfl,rfl,hy,?_,?_⟩
       · unfold R1;rw[co8,fl',if_pos hvb.1,if_pos hvb.2]
       rw[<-cy1];refine ⟨_,_,rfl,sy.upd_r hfo0,c8,by rw[ct5];exact fl',fun r' hr' j' hj'=> ?_,fun w hw=> ?_⟩
       · have hm:r'.getD j' 0∈(rs.take i).flatten:=ct2.mpr ⟨r',hr',by rw[G4 hj'];exact cs0 _⟩;rw[ab8 (bd9 _ (cs3 _ hm)).1 hvb.1 ((cx1.mp nd9).2.2 _ hm _ hv)];exact al' r' hr' j' hj'
       · by_cases hwj:w=j
         · subst hwj;exact am6 (by omega)
         · have hwl:(w+r.length - 1)%r.length < r.length:=da4 _ (by omega)
           have ne:(w+r.length - 1)%r.length≠(j+r.length - 1)%r.length:=by
             by_cases z:w=0
             · rw[z,cy0,ct7 (show r.length - 1 < r.length by omega),show j+r.length - 1=(j - 1)+r.length by omega,cx2,ct7 (by omega)];omega
             · rw[show w+r.length - 1=(w - 1)+r.length by omega,show j+r.length - 1=(j - 1)+r.length by omega,cx2,cx2,ct7 (by omega),ct7 (by omega)];omega
           have hw0:=bd9 (r.getD ((w+r.length - 1)%r.length) 0) (cp8 _ (by rw[G4 hwl];exact cs0 _));rw[ab8 hw0.1 hvb.1 (T0 (cx1.mp nd9).2.1 hwl hpl ne)];exact st' w (by omega)
     · rintro σ Hy ⟨fs',w4,rfl,sy,hy,fl',al',st'⟩;rw[show (r.length:Int).toNat=r.length by omega] at st';refine ⟨fs',_,_,rfl,sy,hy,fl',fun r' hr'=> ?_⟩;rw[o9 hr] at hr'
       rcases cp4.mp hr' with z|z
       · exact al' r' z
       · rw[cq7.mp z];intro u hu;have hm:(u+1)%r.length < r.length:=da4 _ (by omega);have:=st' ((u+1)%r.length) hm
         have e:((u+1)%r.length+r.length - 1)%r.length=u:=by
           by_cases y:u+1=r.length
           · rw[y,Nat.mod_self,cy0,ct7 (by omega)];omega
           · rw[ct7 (show u+1 < r.length by omega),show u+1+r.length - 1=u+r.length by omega,cx2,ct7 hu]
         rw[e] at this;exact this
   · rintro σ Hx ⟨fs,v2,v4,rfl,sx,hx,fl,al⟩;rw[co8,rows.1,cr7] at al;exact ⟨_,rfl,qg good fo fs Hx hfo0 sx hx fl al⟩
end
end My
namespace My
open PySem L2 Mth
section
variable {P:Program} {w:World} {K:PySem.W.Frag} {mg:Str->Option Value} {base:Heap} {zxy zzz zwz zzy zyz zyx zyy zxx zx zxz zw:Addr}
theorem bx2 (K:PySem.W.Frag)(H:Hp)(n:Nat)(xs:List V)(h:xs.all S4=true)(h2:∀x∈xs,Y7 x x=true):LEq K H n xs xs true:=by
 refine .inr ⟨fun _=>true,rfl,fun j x y e1 e2=> ?_,by rw[eq_comm,W1];exact fun _ _=>rfl⟩;rw[e1] at e2;cases e2;have m:=cp3 e1;rw[<-h2 x m];exact .flat (cu3.mp h x m) (cu3.mp h x m)
def ar3 (qt qr:Addr):Sp:=fun vs H Q _=>∃(e C:Addr) (due:Int),vs=[.ref e,.int due]/\H e=some (W2 e C)/\((C=qt/\due=0)\/(C=qr/\due=2))/\∀H':Hp,c9 H H'->Q (.bl true) H'
theorem aj1:r6 ["caught","due","kinds"] ["caught","due"] (m6 an0):=by rfl'
theorem ar4:(["k","due"]:List Str).Nodup:=by decide+kernel
theorem bs9 {f:Addr}{fd:FuncData}(F:B6 K "_law_is" "_law_is" an0 f fd)(B:Bl mg)(ER:ab9 K mg zxy [("NoTurn",zzz),("NoFit",zwz),("NoRounds",zzy),("NoNumber",zyz),("NoRoot",zyx),("TooMany",zyy),("NoKind",zxx),("NoText",zx),("NoName",zxz),("NoRow",zw)]):q9 P w K mg base C3 1 f fd ["caught","due"] (ar3 zzz zzy):=by
 refine F.ok aj1 (fun vs H Q E h=> ?_) (fun cdv A outer s H vs Q E hr h=> ?_)
 · obtain ⟨e,C,due,rfl,he,hd,q⟩:=h;rfl
 · obtain ⟨e,C,due,rfl,he,hd,q⟩:=h;have hu:=S6 hr;refine ⟨_,@i4 _ _ _ _ _ (@l8 _ _ (2) _ _ _ _ aj1.nd rfl (Or.inl rfl) (@m8 _ _ _ _ (@c6 _ _ _ _ _ (@U1 _ _ _ _ _ _ B.isi (@c6 _ _ _ _ _ (pv 0) (@c6 _ _ _ _ _ (@G9 _ _ (.ref zzz) _ _ (by rfl) (ER.err ("NoTurn",zzz) (by simp)).mg rfl (by decide)) (@c7 _) (by rfl)) (by rfl)) (by rfl) (by rfl) (by rfl)) (@c6 _ _ _ _ _ (@U1 _ _ _ _ _ _ B.isi (@c6 _ _ _ _ _ (pv 0) (@c6 _ _ _ _ _ (@G9 _ _ (.ref zwz) _ _ (by rfl) (ER.err ("NoFit",zwz) (by simp)).mg rfl (by decide)) (@c7 _) (by rfl)) (by rfl)) (by rfl) (by rfl) (by rfl)) (@c6 _ _ _ _ _ (@U1 _ _ _ _ _ _ B.isi (@c6 _ _ _ _ _ (pv 0) (@c6 _ _ _ _ _ (@G9 _ _ (.ref zzy) _ _ (by rfl) (ER.err ("NoRounds",zzy) (by simp)).mg rfl (by decide)) (@c7 _) (by rfl)) (by rfl)) (by rfl) (by rfl) (by rfl)) (@c7 _) (by rfl)) (by rfl)) (by rfl))) (by rfl) (by trivial)) (@i4 _ _ _ _ _ (@l8 _ _ (2) _ _ _ _ aj1.nd rfl (Or.inl rfl) (@m3 _ _ _ _ _ _ _ _ B8 (pv 2) (@m8 _ _ _ _ (@c6 _ _ _ _ _ (@U1 _ _ _ _ _ _ B.isi (@c6 _ _ _ _ _ (pv 0) (@c6 _ _ _ _ _ (@G9 _ _ (.ref zyz) _ _ (by rfl) (ER.err ("NoNumber",zyz) (by simp)).mg rfl (by decide)) (@c7 _) (by rfl)) (by rfl)) (by rfl) (by rfl) (by rfl)) (@c6 _ _ _ _ _ (@U1 _ _ _ _ _ _ B.isi (@c6 _ _ _ _ _ (pv 0) (@c6 _ _ _ _ _ (@G9 _ _ (.ref zyy) _ _ (by rfl) (ER.err ("TooMany",zyy) (by simp)).mg rfl (by decide)) (@c7 _) (by rfl)) (by rfl)) (by rfl) (by rfl) (by rfl)) (@c6 _ _ _ _ _ (@U1 _ _ _ _ _ _ B.isi (@c6 _ _ _ _ _ (pv 0) (@c6 _ _ _ _ _ (@G9 _ _ (.ref zxx) _ _ (by rfl) (ER.err ("NoKind",zxx) (by simp)).mg rfl (by decide)) (@c7 _) (by rfl)) (by rfl)) (by rfl) (by rfl) (by rfl)) (@c7 _) (by rfl)) (by rfl)) (by rfl)))) (by rfl) (by trivial)) (@i4 _ _ _ _ _ (@A0 _ _ _ _ _ _ _ _ (@D7 _ _ _ _ _ _ _ (@C1 _ _ _ _ (@B4 _ _ _ (@U1 _ _ _ _ _ _ B.isi (@c6 _ _ _ _ _ (pv 0) (@c6 _ _ _ _ _ (@cb0 _ _ B.ve (by rfl)) (@c7 _) (by rfl)) (by rfl)) (by rfl) (by rfl) (by rfl)) (by intro _;rfl))) (@K8 _ _ _ _ (@m9 _ _ _ _ _ _ _ _ (ag8 0 hu) (pv 2) (@D5 _ _ _ _ _ _ _ _ _ _ _ (["k","due"]) (1) ([1]) rfl .of (@D4 _ _ _ _ _ _ (by rfl) B.range (@c6 _ _ _ _ _ (@i7 _ _ _ _) (@c7 _) (by rfl)) (by rfl)) (fun _ _ _ _ _=>@v0 _ _ (0) _ ar4 rfl (Or.inl rfl) (by trivial)) (fun _ _ _ _ _=>(@C7 _)) (fun _ _ _ _ _=>(@aj7 _ _ _ _ _ _ _ _ E3 (pv 0) (pv 1) (q0 _))) (by intro _;rfl)) (q0 _)))).pt (@i5 _ _ _ (@m7 _ _ _ _ (@B5 _ _ _ _))) (@o8 _)) (@i5 _ _ _ (@m7 _ _ _ _ (@bm2 _ _ _ _ (cb5 B.isi (@c6 _ _ _ _ _ (pv 0) (@c6 _ _ _ _ _ (@ao6 _ _ _ _ _ (@c6 _ _ _ _ _ (@G9 _ _ (.ref zyx) _ _ (by rfl) (ER.err ("NoRoot",zyx) (by simp)).mg rfl (by decide)) (@c6 _ _ _ _ _ (@G9 _ _ (.ref zx) _ _ (by rfl) (ER.err ("NoText",zx) (by simp)).mg rfl (by decide)) (@c6 _ _ _ _ _ (@G9 _ _ (.ref zxz) _ _ (by rfl) (ER.err ("NoName",zxz) (by simp)).mg rfl (by decide)) (@c6 _ _ _ _ _ (@G9 _ _ (.ref zw) _ _ (by rfl) (ER.err ("NoRow",zw) (by simp)).mg rfl (by decide)) (@c7 _) (by rfl)) (by rfl)) (by rfl)) (by rfl))) (@c7 _) (by rfl)) (by rfl)))))))),?_⟩
   obtain ⟨nm,hn,hb,hz⟩:∃nm:Str,(nm,C)∈[(("NoTurn":Str),zzz),("NoFit",zwz),("NoRounds",zzy),("NoNumber",zyz),("NoRoot",zyx),("TooMany",zyy),("NoKind",zxx),("NoText",zx),("NoName",zxz),("NoRow",zw)]/\((cu7 6).map fun (i:Nat)=>V.bl (decide (V.int ((0:Int)+(i:Int))=V.int due)))=[V.bl (decide (nm="NoTurn")),V.bl (decide (nm="NoFit")),V.bl (decide (nm="NoRounds")),V.bl (decide (nm="NoNumber")),V.bl (decide (nm="TooMany")),V.bl (decide (nm="NoKind"))]/\decide (nm="NoRoot")=false/\decide (nm="NoText")=false/\decide (nm="NoName")=false/\decide (nm="NoRow")=false:=by
     rcases hd with ⟨rfl,rfl⟩|⟨rfl,rfl⟩
     · exact ⟨"NoTurn",by simp,by decide+kernel,by decide+kernel⟩
     · exact ⟨"NoRounds",by simp,by decide+kernel,by decide+kernel⟩
   have IC:=ER.inst (nm,C) hn;have pr:=ER.pair (nm,C) hn;have p0:=pr ("NoTurn",zzz) (by simp);have p1:=pr ("NoFit",zwz) (by simp);have p2:=pr ("NoRounds",zzy) (by simp);have p3:=pr ("NoNumber",zyz) (by simp);have p4:=pr ("TooMany",zyy) (by simp);have p5:=pr ("NoKind",zxx) (by simp);have p6:=pr ("NoRoot",zyx) (by simp);have p7:=pr ("NoText",zx) (by simp);have p8:=pr ("NoName",zxz) (by simp);have p9:=pr ("NoRow",zw) (by simp)
   dsimp only at p0 p1 p2 p3 p4 p5 p6 p7 p8 p9
   rw[hz.1] at p6;rw[hz.2.1] at p7;rw[hz.2.2.1] at p8;rw[hz.2.2.2] at p9;generalize decide (nm="NoTurn")=b0 at p0 hb;generalize decide (nm="NoFit")=b1 at p1 hb;generalize decide (nm="NoRounds")=b2 at p2 hb;generalize decide (nm="NoNumber")=b3 at p3 hb;generalize decide (nm="TooMany")=b4 at p4 hb;generalize decide (nm="NoKind")=b5 at p5 hb;refine ⟨_,rfl,e,C,_,_,_,rfl,.inl ⟨_,rfl,rfl⟩,he,IC,p0,_,rfl,e,C,_,_,_,rfl,.inl ⟨_,rfl,rfl⟩,he,IC,p1,_,rfl,e,C,_,_,_,rfl,.inl ⟨_,rfl,rfl⟩,he,IC,p2,(show 3<=sizeLine by decide),fun l1 h1=> ?_⟩;have s1:c9 H (e8 H l1 (.lst [V.bl b0,V.bl b1,V.bl b2])):=c9.upd_new h1;have g1:(e8 H l1 (.lst [V.bl b0,V.bl b1,V.bl b2])) l1=some (.lst [V.bl b0,V.bl b1,V.bl b2]):=c8;generalize (e8 H l1 (.lst [V.bl b0,V.bl b1,V.bl b2]))=H1 at s1 g1 ⊢;have e1:=s1 _ _ he;refine ⟨_,rfl,_,rfl,e,C,_,_,_,rfl,.inl ⟨_,rfl,rfl⟩,e1,IC,p3,_,rfl,e,C,_,_,_,rfl,.inl ⟨_,rfl,rfl⟩,e1,IC,p4,_,rfl,e,C,_,_,_,rfl,.inl ⟨_,rfl,rfl⟩,e1,IC,p5,(show 3<=sizeLine by decide),fun l2 h2=> ?_⟩;have s2:c9 H1 (e8 H1 l2 (.lst [V.bl b3,V.bl b4,V.bl b5])):=c9.upd_new h2;have g2:(e8 H1 l2 (.lst [V.bl b3,V.bl b4,V.bl b5])) l2=some (.lst [V.bl b3,V.bl b4,V.bl b5]):=c8;generalize (e8 H1 l2 (.lst [V.bl b3,V.bl b4,V.bl b5]))=H2 at s2 g2 ⊢;refine ⟨l1,l2,_,_,rfl,rfl,s2 _ _ g1,g2,(show 6<=sizeLine by decide),fun l3 h3=> ?_⟩;have s3:c9 H2 (e8 H2 l3 (.lst ([V.bl b0,V.bl b1,V.bl b2]++[V.bl b3,V.bl b4,V.bl b5]))):=c9.upd_new h3;have g3:(e8 H2 l3 (.lst ([V.bl b0,V.bl b1,V.bl b2]++[V.bl b3,V.bl b4,V.bl b5]))) l3=some (.lst [V.bl b0,V.bl b1,V.bl b2,V.bl b3,V.bl b4,V.bl b5]):=c8;generalize (e8 H2 l3 (.lst ([V.bl b0,V.bl b1,V.bl b2]++[V.bl b3,V.bl b4,V.bl b5])))=H3 at s3 g3 ⊢;have e3:=s3 _ _ (s2 _ _ e1);refine ⟨_,rfl,e,C,_,_,_,rfl,.inr ⟨_,rfl,rfl⟩,e3,IC,ER.ve (nm,C) hn,_,rfl,A5 ?_⟩;refine ⟨_,rfl,6,rfl,by decide,by decide,S7 (lo:=0) (n:=6) (fun j ys σ H4=>∃v:Option V,σ=[v,some (.int due)]/\H4=H3/\ys=(cu7 j).map fun (i:Nat)=>V.bl (decide (V.int ((0:Int)+(i:Int))=V.int due))) ⟨none,rfl,rfl,rfl⟩ ?_ ?_⟩
   · rintro j ys σ H4 hj ⟨v,rfl,rfl,rfl⟩;refine ⟨_,rfl,_,rfl,rfl,m4 (by rw[co8,cx0];omega),_,rfl,rfl,?_⟩;rw[cy9,cp5];rfl
   · rintro ys σ H4 ⟨v,rfl,rfl,rfl⟩ D hD;rw[hb];have s5:c9 H4 (e8 H4 D (.lst [V.bl b0,V.bl b1,V.bl b2,V.bl b3,V.bl b4,V.bl b5])):=c9.upd_new hD;have g5:(e8 H4 D (.lst [V.bl b0,V.bl b1,V.bl b2,V.bl b3,V.bl b4,V.bl b5])) D=some (.lst [V.bl b0,V.bl b1,V.bl b2,V.bl b3,V.bl b4,V.bl b5]):=c8;generalize (e8 H4 D (.lst [V.bl b0,V.bl b1,V.bl b2,V.bl b3,V.bl b4,V.bl b5]))=H5 at s5 g5 ⊢;have e5:=s5 _ _ e3;refine ⟨l3,D,_,_,_,rfl,rfl,i8.of (s5 _ _ g3),i8.of g5,bx2 K _ 0 _ (by rfl) (fun x hx=>by simp only[cq5,cv6,or_false] at hx;rcases hx with rfl|rfl|rfl|rfl|rfl|rfl<;>exact decide_eq_true rfl),?_⟩;refine ⟨_,rfl,A5 ⟨_,rfl,(show 4<=sizeLine by decide),fun tp htp=>⟨e,C,tp,[zyx,zx,zxz,zw],false,rfl,c9.upd_new htp _ _ e5,c8,IC,?_,?_⟩⟩⟩
     · show PySem.W.kitAny K (.ref C) [.ref zyx,.ref zx,.ref zxz,.ref zw]=some false;simp only[PySem.W.kitAny,p6,p7,p8,p9]
     · exact ⟨false,rfl,q _ (s1.trans (s2.trans (s3.trans (s5.trans (c9.upd_new htp)))))⟩
theorem bl5 {t u:List Int}{rs:List (List Int)}(al:aq1 t rs)(au:aq1 u rs)(is:D8 rs.flatten)(tl:t.length=rs.flatten.length)(ul:u.length=rs.flatten.length):t=u:=by
 refine cu6 fun i=> ?_
 by_cases h:i < rs.flatten.length
 · have hm:((i:Nat):Int)∈rs.flatten:=is.perm.mem_iff.mpr (M4.mpr ⟨by omega,by omega⟩);obtain ⟨r,hr,hi⟩:=ct2.mp hm;obtain ⟨j,hj⟩:=ct6 hi;have jl:j < r.length:=(cp0.mp hj).1
   have e:r.getD j 0=(i:Int):=by rw[ct3,hj];rfl
   have a:=al r hr j jl;have b:=au r hr j jl;rw[e] at a b;unfold L4 at a b;rw[cu5] at a b;rw[a,b]
 · rw[cr8 (by omega),cr8 (by omega)]
def aj2:Sp:=fun vs H Q _=>∃(l:Addr) (as:List Addr) (rs:List (List Int)),vs=[.ref l]/\H l=some (.lst (as.map V.ref))/\x8 H as rs/\rs.flatten.length<=2000/\rs.length<=2000/\∀H',c9 H H'->Q (.bl true) H'
theorem E2:r6 ["rounds","handed","caught","found","e","due"] ["rounds"] (m6 ab6):=by rfl'
theorem an9:(["one"]:List Str).Nodup:=by decide+kernel
theorem bd7 {f:Addr}{fd:FuncData}(F:B6 K "_law_right" "_law_right" ab6 f fd)(B:Bl mg)(zpx:N2 P w K mg base "from_rounds" 3 ["rounds"] (fun vs H Q E=>aq7 vs H Q E\/(as9 zzy) vs H Q E))(zoz:A2 P w K mg base "_law_due" 1 ["rounds"] bl3)(zty:A2 P w K mg base "_law_is" 1 ["caught","due"] (ar3 zzz zzy))(ER:ab9 K mg zxy [("NoTurn",zzz),("NoFit",zwz),("NoRounds",zzy),("NoNumber",zyz),("NoRoot",zyx),("TooMany",zyy),("NoKind",zxx),("NoText",zx),("NoName",zxz),("NoRow",zw)]):q9 P w K mg base C3 4 f fd ["rounds"] aj2:=by
 refine F.ok E2 (fun vs H Q E h=> ?_) (fun cdv A outer s H vs Q E hr h=> ?_)
 · obtain ⟨l,as,rs,rfl,hl,rows,len,ln,q⟩:=h;rfl
 · obtain ⟨l,as,rs,rfl,hl,rows,len,ln,q⟩:=h;have zk:A1 3 _:=hr.mono (by decide);have hr_law_due:A1 1 _:=hr.mono (by decide);have zoy:A1 1 _:=hr.mono (by decide);have hu:=S6 hr;have hu2:_+1+1 < cLine:=cu2 (cv3 (by decide:2<=64) _) hr.units;refine ⟨_,@i4 _ _ _ _ _ (@ar7 _ (1) _ _ _ _ _ _ _ _ _ _ _ _ _ (["one"]) (1) ([]) E2.nd rfl (Or.inl rfl) rfl .of (@A8 _ _ _ _ (pv 0)) (fun _ _ _ _ _=>@v0 _ _ (0) _ an9 rfl (Or.inl rfl) (by trivial)) (fun _ _ _ _ _=>(@C7 _)) (fun _ _ _ _ _=>(@aq0 _ _ _ _ _ K B.list (@c6 _ _ _ _ _ (pv 0) (@c7 _) (by rfl)) (by rfl) (by rfl) (by rfl))) (by rfl) (by intro _;rfl) (by trivial)) (@i4 _ _ _ _ _ (@l8 _ _ (2) _ _ _ _ E2.nd rfl (Or.inl rfl) (@O0 _ _ _) (by rfl) (by trivial)) (@i4 _ _ _ _ _ (@l8 _ _ (3) _ _ _ _ E2.nd rfl (Or.inl rfl) (@O0 _ _ _) (by rfl) (by trivial)) (@i4 _ _ _ _ _ (@bq4 _ _ _ _ _ (4) _ _ _ _ _ _ _ (@cg1 _ _ _ _ _ _ _ _ _ _ (3) _ _ _ zpx zk E2.nd rfl (Or.inl rfl) (@c6 _ _ _ _ _ (pv 1) (@c7 _) (by rfl)) (by rfl) (by decide) (by rfl) (by rfl) (by rfl) (by trivial)) ER.top E2.nd rfl rfl (fun _=>(@i5 _ _ _ (@l8 _ _ (2) _ _ _ _ E2.nd rfl (Or.inl rfl) (pv 4) (by rfl) (by trivial)))) (by rfl) (by rfl) (by rfl) (by rfl) (by decide) (by trivial)) (@i4 _ _ _ _ _ (@l8 _ _ (5) _ _ _ _ E2.nd rfl (Or.inl rfl) (@l9 _ _ _ _ _ _ _ _ _ _ zoz hr_law_due (@c6 _ _ _ _ _ (pv 0) (@c7 _) (by rfl)) (by rfl) (by decide) (by rfl) (by rfl)) (by rfl) (by trivial)) (@i4 _ _ _ _ _ (@A0 _ _ _ _ _ _ _ _ (@m9 _ _ _ _ _ _ _ _ (ag8 1 hu2) (pv 1) (pv 0) (q0 _)) (@i5 _ _ _ (@m7 _ _ _ _ (@B5 _ _ _ _))) (@o8 _)) (@i4 _ _ _ _ _ (@A0 _ _ _ _ _ _ _ _ (@m9 _ _ _ _ _ _ _ _ bm8 (pv 5) (@O0 _ _ _) (q0 _)) (@i5 _ _ _ (@m7 _ _ _ _ (@l9 _ _ _ _ _ _ _ _ _ _ zty zoy (@c6 _ _ _ _ _ (pv 2) (@c6 _ _ _ _ _ (@i7 _ _ _ _) (@c7 _) (by rfl)) (by rfl)) (by rfl) (by decide) (by rfl) (by rfl)))) (@o8 _)) (@i5 _ _ _ (@m7 _ _ _ _ (@ag1 _ _ _ _ _ _ _ (@aj7 _ _ _ _ _ _ _ _ bm8 (pv 2) (@O0 _ _ _) (q0 _)) (@ao0 _ _ _ _ _ (@aj7 _ _ _ _ _ _ _ _ (az5 0 hu) (pv 3) (pv 5) (q0 _)))))))))))),?_⟩
   refine ⟨_,rfl,l,rfl,⟨_,i8.of hl⟩,G3 (K:=K) (a:=l) (xs:=as.map V.ref) (fun j ys σ H2=>∃(v:Option V) (cs:List Addr),σ=[v]/\ys=cs.map V.ref/\c9 H H2/\x8 H2 cs (rs.take j))
     ⟨none,[],rfl,rfl,c9.refl H,⟨rfl,fun j b r h=>by cases h⟩⟩ (fun j ys σ H2 _ zz=>by obtain ⟨_,_,_,_,s,_⟩:=zz;exact i8.of (s _ _ hl)) ?_ ?_⟩
   · rintro j x ys σ H2 hj ⟨v,cs,rfl,rfl,s2,rows2⟩;obtain ⟨e,he,rfl⟩:=T5 hj;obtain ⟨r,hr,he2⟩:=M9 rows he;refine ⟨_,rfl,e,_,rfl,.inl (i8.of (s2 _ _ he2)),fun o ho=> ?_⟩;have s3:c9 H2 (e8 H2 o (.lst (r.map V.int))):=c9.upd_new ho;have h3:(e8 H2 o (.lst (r.map V.int))) o=some (.lst (r.map V.int)):=c8;refine ⟨ab0 (by rw[co8,rows2.1,cq2];omega),some (.ref e),cs++[o],rfl,by rw[cp5];rfl,s2.trans s3,?_⟩;rw[o9 hr];exact M1 (y6 rows2 fun x hx o e=>s3 _ _ e) h3
   rintro ys σ H2 ⟨v,cs,rfl,rfl,s2,rows2⟩ F hF;rw[co8,rows.1,cr7] at rows2;have s3:c9 H2 (e8 H2 F (.lst (cs.map V.ref))):=c9.upd_new hF;have h3:(e8 H2 F (.lst (cs.map V.ref))) F=some (.lst (cs.map V.ref)):=c8;generalize (e8 H2 F (.lst (cs.map V.ref)))=H3 at s3 h3 ⊢;have s03:=s2.trans s3
   have rows3:x8 H3 cs rs:=y6 rows2 fun x hx o e=>s3 _ _ e
   by_cases good:ax7 rs
   · refine ⟨_,rfl,.inl ⟨F,cs,rs,rfl,h3,rows3,good.1,good.2.1,good.2.2,fun o t H4 ho s4 h4 tl al=> ?_⟩⟩;have s04:=s03.trans s4;refine ⟨_,rfl,l,as,rs,rfl,s04 _ _ hl,y6 rows fun x hx o e=>s04 _ _ e,len,ln,(fun n=>absurd good n),fun _ o2 t2 H5 ho2 s5 h5 tl2 al2=> ?_⟩;have s05:=s04.trans s5;have s35:=s4.trans s5;refine ⟨_,rfl,_,rfl,F,l,_,_,_,rfl,rfl,i8.of (s35 _ _ h3),i8.of (s05 _ _ hl),av0 (y6 rows3 fun x hx o e=>s35 _ _ e) (y6 rows fun x hx o e=>s05 _ _ e),_,rfl,ad5 rfl ?_⟩;refine ⟨_,rfl,rfl,_,rfl,?_⟩;rw[decide_eq_false (show ¬V.ref o2=V.non from fun z=>by cases z)];refine A5 ⟨_,rfl,rfl,_,rfl,B3 ⟨_,rfl,_,rfl,o,o2,_,_,_,rfl,rfl,i8.of (s5 _ _ h4),i8.of h5,ad7 K H5 0 t t2,?_⟩⟩;show Q (.bl (decide (t=t2))) H5;rw[decide_eq_true (bl5 al al2 good.2.1 tl tl2)];exact q H5 s05
   · refine ⟨_,rfl,.inr ⟨F,cs,rs,rfl,h3,rows3,good,by omega,fun H4 s4=>⟨zzy,rfl,ER.exm ("NoRounds",zzy) (by simp),fun e he=>⟨_,rfl,?_⟩⟩⟩⟩;have s5:c9 H4 (e8 H4 e (W2 e zzy)):=c9.upd_new he;have h5:(e8 H4 e (W2 e zzy)) e=some (W2 e zzy):=c8;generalize (e8 H4 e (W2 e zzy))=H5 at s5 h5 ⊢;have s35:=s4.trans s5;have s05:=s03.trans s35;refine ⟨_,rfl,l,as,rs,rfl,s05 _ _ hl,y6 rows fun x hx o e=>s05 _ _ e,len,ln,(fun _ H6 s6=> ?_),fun g=>absurd g good⟩;have s06:=s05.trans s6;have s36:=s35.trans s6;refine ⟨_,rfl,_,rfl,F,l,_,_,_,rfl,rfl,i8.of (s36 _ _ h3),i8.of (s06 _ _ hl),av0 (y6 rows3 fun x hx o e=>s36 _ _ e) (y6 rows fun x hx o e=>s06 _ _ e),_,rfl,ad5 rfl ?_⟩;exact ⟨_,rfl,rfl,_,rfl,B3 ⟨_,rfl,e,zzy,2,rfl,s6 _ _ h5,.inr ⟨rfl,rfl⟩,fun H7 s7=>q H7 (s06.trans s7)⟩⟩
end
end My
namespace My
open PySem L2 Mth
section
variable {P:Program} {w:World} {K:PySem.W.Frag} {mg:Str->Option Value} {base:Heap} {zxy zzz zwz zzy zyz zyx zyy zxx zx zxz zw:Addr}
def at3 (K:PySem.W.Frag):Sp:=fun vs H Q _=>∃(way:Int) (v:V),vs=[.int way,v]/\0<=way/\way<=2/\ThV K H v/\E7 K H v/\∀H',c9 H H'->Q (.bl true) H'
theorem L8:r6 ["way","handed","thing","caught","e"] ["way","handed"] (m6 W6):=by rfl'
theorem at4 {f:Addr}{fd:FuncData}(F:B6 K "_law_refused" "_law_refused" W6 f fd)(B:Bl mg)(ztz:A2 P w K mg base "_law_copy" 3 ["thing"] (ai0 2))(zvx:N2 P w K mg base "rounds_of" 4 ["p"] (fun vs H Q E=>I0 vs H Q E\/(E8 K zzz) vs H Q E))(zt:N2 P w K mg base "kind_of" 5 ["p"] (fun vs H Q E=>ac4 vs H Q E\/(E8 K zzz) vs H Q E))(zj:N2 P w K mg base "home_of" 6 ["p"] (fun vs H Q E=>aq5 vs H Q E\/(E8 K zzz) vs H Q E))(zty:A2 P w K mg base "_law_is" 1 ["caught","due"] (ar3 zzz zzy))(ER:ab9 K mg zxy [("NoTurn",zzz),("NoFit",zwz),("NoRounds",zzy),("NoNumber",zyz),("NoRoot",zyx),("TooMany",zyy),("NoKind",zxx),("NoText",zx),("NoName",zxz),("NoRow",zw)]):q9 P w K mg base C3 7 f fd ["way","handed"] (at3 K):=by
 refine F.ok L8 (fun vs H Q E h=> ?_) (fun cdv A outer s H vs Q E hr h=> ?_)
 · obtain ⟨way,v,rfl,w0,w2,T,no,q⟩:=h;rfl
 · obtain ⟨way,v,rfl,w0,w2,T,no,q⟩:=h;have zqz:A1 3 _:=hr.mono (by decide);have zr:A1 4 _:=hr.mono (by decide);have zqx:A1 5 _:=hr.mono (by decide);have hr_home_of:A1 6 _:=hr.mono (by decide);have zoy:A1 1 _:=hr.mono (by decide);have hug:_+16 < cLine:=cu2 (cv3 (by decide:16<=64) _) hr.units;refine ⟨_,@i4 _ _ _ _ _ (@l8 _ _ (2) _ _ _ _ L8.nd rfl (Or.inl rfl) (@l9 _ _ _ _ _ _ _ _ _ _ ztz zqz (@c6 _ _ _ _ _ (pv 1) (@c7 _) (by rfl)) (by rfl) (by decide) (by rfl) (by rfl)) (by rfl) (by trivial)) (@i4 _ _ _ _ _ (@l8 _ _ (3) _ _ _ _ L8.nd rfl (Or.inl rfl) (@O0 _ _ _) (by rfl) (by trivial)) (@i4 _ _ _ _ _ (@bq4 _ _ _ _ _ (4) _ _ _ _ _ _ _ (@by3 _ _ _ _ _ _ _ _ (@m9 _ _ _ _ _ _ _ _ E3 (pv 0) (@i7 _ _ _ _) (q0 _)) (@ar9 _ _ _ _ _ _ _ _ _ _ _ zvx zr (@c6 _ _ _ _ _ (pv 2) (@c7 _) (by rfl)) (by rfl) (by decide) (by rfl) (by rfl) (by rfl)) (@by3 _ _ _ _ _ _ _ _ (@m9 _ _ _ _ _ _ _ _ E3 (pv 0) (@i7 _ _ _ _) (q0 _)) (@ar9 _ _ _ _ _ _ _ _ _ _ _ zt zqx (@c6 _ _ _ _ _ (pv 2) (@c7 _) (by rfl)) (by rfl) (by decide) (by rfl) (by rfl) (by rfl)) (@ar9 _ _ _ _ _ _ _ _ _ _ _ zj hr_home_of (@c6 _ _ _ _ _ (pv 2) (@c7 _) (by rfl)) (by rfl) (by decide) (by rfl) (by rfl) (by rfl)))) ER.top L8.nd rfl rfl (fun _=>(@i5 _ _ _ (@l8 _ _ (3) _ _ _ _ L8.nd rfl (Or.inl rfl) (pv 4) (by rfl) (by trivial)))) (by rfl) (by rfl) (by rfl) (by rfl) (by decide) (by trivial)) (@i5 _ _ _ (@m7 _ _ _ _ (@ag1 _ _ _ _ _ _ _ (@l9 _ _ _ _ _ _ _ _ _ _ zty zoy (@c6 _ _ _ _ _ (pv 3) (@c6 _ _ _ _ _ (@i7 _ _ _ _) (@c7 _) (by rfl)) (by rfl)) (by rfl) (by decide) (by rfl) (by rfl)) (@ao0 _ _ _ _ _ (@aj7 _ _ _ _ _ _ _ _ E3 (@bc4 _ _ _ _ _ hug hr.gd B.repr (@c6 _ _ _ _ _ (pv 2) (@c7 _) (by rfl)) (by rfl) (by rfl)) (@bc4 _ _ _ _ _ hug hr.gd B.repr (@c6 _ _ _ _ _ (pv 1) (@c7 _) (by rfl)) (by rfl) (by rfl)) (q0 _)))))))),?_⟩;refine ⟨_,rfl,v,rfl,T.cp,fun u H1 s1 cr=> ?_⟩;have no1:E7 K H1 u:=cr.noT (no.keep s1)
   have fin:∀(e:Addr) (H2:Hp),c9 H1 H2->H2 e=some (W2 e zzz)->∀H3,c9 H2 H3->∃t,ShT H3 u t/\ShT H3 v t:=fun e H2 s2 _ H3 s3=>ch7 (cr.keep (s2.trans s3)) (T.sh.keep (s1.trans (s2.trans s3)))
   rcases (show way=0\/way=1\/way=2 by omega) with rfl|rfl|rfl
   · refine ⟨_,rfl,rfl,_,rfl,B3 ⟨_,rfl,.inr ⟨u,rfl,no1,fun H2 s2=>⟨zzz,rfl,ER.exm ("NoTurn",zzz) (by simp),fun e he=>⟨_,rfl,?_⟩⟩⟩⟩⟩;refine ⟨_,rfl,e,zzz,0,rfl,c8,.inl ⟨rfl,rfl⟩,fun H3 s3=>⟨true,rfl,B3 ?_⟩⟩;obtain ⟨t,t1,t2⟩:=fin e _ (s2.trans (c9.upd_new he)) c8 H3 s3;refine ⟨_,rfl,u,t,rfl,t1,_,rfl,v,t,rfl,t2,rfl,?_⟩;rw[decide_eq_true rfl];exact q H3 (s1.trans (s2.trans ((c9.upd_new he).trans s3)))
   · refine ⟨_,rfl,rfl,_,rfl,A5 ⟨_,rfl,rfl,_,rfl,B3 ⟨_,rfl,.inr ⟨u,rfl,no1,fun H2 s2=>⟨zzz,rfl,ER.exm ("NoTurn",zzz) (by simp),fun e he=>⟨_,rfl,?_⟩⟩⟩⟩⟩⟩;refine ⟨_,rfl,e,zzz,0,rfl,c8,.inl ⟨rfl,rfl⟩,fun H3 s3=>⟨true,rfl,B3 ?_⟩⟩;obtain ⟨t,t1,t2⟩:=fin e _ (s2.trans (c9.upd_new he)) c8 H3 s3;refine ⟨_,rfl,u,t,rfl,t1,_,rfl,v,t,rfl,t2,rfl,?_⟩;rw[decide_eq_true rfl];exact q H3 (s1.trans (s2.trans ((c9.upd_new he).trans s3)))
   · refine ⟨_,rfl,rfl,_,rfl,A5 ⟨_,rfl,rfl,_,rfl,A5 ⟨_,rfl,.inr ⟨u,rfl,no1,fun H2 s2=>⟨zzz,rfl,ER.exm ("NoTurn",zzz) (by simp),fun e he=>⟨_,rfl,?_⟩⟩⟩⟩⟩⟩;refine ⟨_,rfl,e,zzz,0,rfl,c8,.inl ⟨rfl,rfl⟩,fun H3 s3=>⟨true,rfl,B3 ?_⟩⟩;obtain ⟨t,t1,t2⟩:=fin e _ (s2.trans (c9.upd_new he)) c8 H3 s3;refine ⟨_,rfl,u,t,rfl,t1,_,rfl,v,t,rfl,t2,rfl,?_⟩;rw[decide_eq_true rfl];exact q H3 (s1.trans (s2.trans ((c9.upd_new he).trans s3)))
theorem aj3:∀l:List Int,(l.map fun x=>[x]).flatten=l
 |[]=>rfl
 |x::l=>by rw[cr0,cr4,aj3 l];rfl
theorem aw1 {n:Nat}(hn:n<=2000){H:Hp}{Q:VK}(k:∀(D:Addr) (bs:List Addr) (H':Hp),c9 H H'->H' D=some (.lst (bs.map V.ref))->x8 H' bs ((D6 0 n).map fun x=>[x])->Q (.ref D) H'):ax3 (Itr 0 n) (aa2 0) cf7 (cf1 (ao5 (bt1 0) ay4)) Q [none] H:=
 S7 (lo:=0) (n:=n) (fun j ys σ Hx=>∃(v:Option V) (bs:List Addr),σ=[v]/\ys=bs.map V.ref/\x8 Hx bs ((D6 0 j).map fun x=>[x])/\c9 H Hx)
   ⟨none,[],rfl,rfl,⟨rfl,fun j b r h=>by cases h⟩,c9.refl H⟩
   (by
     rintro j ys σ Hx hj ⟨v,bs,rfl,rfl,rows,sx⟩;refine ⟨_,rfl,(show 1<=sizeLine by decide),fun o ho=> ?_⟩
     have bl:bs.length=j:=by rw[rows.1,co8,A6]
     refine ⟨ab0 (by rw[co8];omega),_,bs++[o],rfl,by rw[cp5];rfl,?_,sx.trans (c9.upd_new ho)⟩
     have e:(D6 0 (j+1)).map (fun x=>[x])=(D6 0 j).map (fun x=>[x])++[[(0:Int)+(j:Int)]]:=by
       unfold L2.D6;rw[cy9,cp5,cp5];rfl
     rw[e]
     exact M1 (y6 rows fun x hx u e=>c9.upd_new ho _ _ e) c8)
   (by
     rintro ys σ Hx ⟨v,bs,rfl,rfl,rows,sx⟩ D hD
     exact k D bs _ (sx.trans (c9.upd_new hD)) c8 (y6 rows fun x hx u e=>c9.upd_new hD _ _ e))
def RB (g:Addr)(M:Hp)(b:Addr):Prop:=b≠g/\∃(cs:List Addr) (qs:List (List Int)),M b=some (.lst (cs.map V.ref))/\x8 M cs qs/\g∉cs/\qs.length<=60/\qs.flatten.length<=200
theorem RB.keep {g b:Addr}{M M':Hp}(h:RB g M b)(k:l7 g M M'):RB g M' b:=by
 obtain ⟨n,cs,qs,e,r,ng,l⟩:=h;exact ⟨n,cs,qs,k _ _ e n,y6 r fun x hx o e=>k _ _ e fun z=>ng (z▸hx),ng,l⟩
theorem bx3 {p:List Int}{qs:List (List Int)}(tp:D8 p)(l:p.length<=40)(t:ch8 p qs):by9 qs:=by
 refine ⟨fun r hr e=> ?_,fun r hr x hx=> ?_,?_⟩
 · obtain ⟨y,L,_,pr,er⟩:=t.ring r hr;have:=A4 p y L;rw[<-er,e] at this;have:=pr.pos;simp at*;omega
 · have:=M4.mp (t.flat.mem_iff.mp (ct2.mpr ⟨r,hr,hx⟩));omega
 · rw[t.flat.length_eq,A6];exact l
def cd5 (K:PySem.W.Frag):Sp:=fun vs H Q _=>∃(a:Addr) (ns:List Int),vs=[.ref a]/\i8 K H a (ns.map V.int)/\ns.length<=63/\∀H',Q (.bl true) H'
theorem N4:r6 ["script","k","pool","p","told","rounds","many","none","thing","way","some"] ["script"] (m6 ak1):=by rfl'
theorem ac6:(["turn","pool","told"]:List Str).Nodup:=by decide+kernel
theorem aj4:(["thing"]:List Str).Nodup:=by decide+kernel
theorem aj5:(["turn","pool","p"]:List Str).Nodup:=by decide+kernel
theorem bl6:(["one"]:List Str).Nodup:=by decide+kernel
theorem bd8:(["words"]:List Str).Nodup:=by decide+kernel
theorem ci2 {f:Addr}{fd:FuncData}(F:B6 K "law" "law" ak1 f fd)(B:Bl mg)(zpz:A2 P w K mg base "_law_pool" 1 ["script","k"] (ba8 K))(zpy:A2 P w K mg base "_law_turn" 4 ["pool","most"] bb0)(zuz:A2 P w K mg base "_law_told_rounds" 3 ["pool","p"] bd1)(zux:A2 P w K mg base "_law_bad_rounds" 2 ["pool","rounds"] bd5)(zv:A2 P w K mg base "_law_right" 4 ["rounds"] aj2)(zzx:A2 P w K mg base "_law_take" 1 ["pool","many"] Q0)(zry:A2 P w K mg base "_law_spoilt" 3 ["pool","p"] (an6 K))(ztx:A2 P w K mg base "_law_is_turn" 1 ["thing"] (bk8 K))(zsz:A2 P w K mg base "_law_refused" 7 ["way","handed"] (at3 K))(ER:ab9 K mg zxy [("NoTurn",zzz),("NoFit",zwz),("NoRounds",zzy),("NoNumber",zyz),("NoRoot",zyx),("TooMany",zyy),("NoKind",zxx),("NoText",zx),("NoName",zxz),("NoRow",zw)])(ES:∀p∈[(("NoTurn":Str),zzz),(("NoFit":Str),zwz),(("NoRounds":Str),zzy),(("NoNumber":Str),zyz),(("NoRoot":Str),zyx),(("TooMany":Str),zyy),(("NoKind":Str),zxx),(("NoText":Str),zx),(("NoName":Str),zxz),(("NoRow":Str),zw)],bv9 K p.2):q9 P w K mg base C3 8 f fd ["script"] (cd5 K):=by
 refine F.ok N4 (fun vs H Q E h=> ?_) (fun cdv A outer s H vs Q E hr h=> ?_)
 · obtain ⟨a,ns,rfl,ha,hl,q⟩:=h;rfl
 · obtain ⟨a,ns,rfl,ha,hl,q⟩:=h;have zh:A1 1 _:=hr.mono (by decide);have zhz:A1 4 _:=hr.mono (by decide);have zox:A1 3 _:=hr.mono (by decide);have zm:A1 2 _:=hr.mono (by decide);have zvy:A1 4 _:=hr.mono (by decide);have zy:A1 1 _:=hr.mono (by decide);have zi:A1 3 _:=hr.mono (by decide);have zkz:A1 1 _:=hr.mono (by decide);have zky:A1 7 _:=hr.mono (by decide);have hu:=S6 hr;refine ⟨_,@i4 _ _ _ _ _ (@B7 _ _ _ _ _ _ _ _ PassesOwn.never rfl (@D4 _ _ _ _ _ _ (by rfl) B.range (@c6 _ _ _ _ _ (@ca0 _ _ _ _ _ _ rfl B.max (@c6 _ _ _ _ _ (@i7 _ _ _ _) (@c6 _ _ _ _ _ (@ak0 _ _ _ _ _ _ rfl B.min (@c6 _ _ _ _ _ (@i7 _ _ _ _) (@c6 _ _ _ _ _ (@x9 _ _ _ _ _ B.len (@c6 _ _ _ _ _ (pv 0) (@c7 _) (by rfl)) (by rfl) (by rfl)) (@c7 _) (by rfl)) (by rfl)) (by rfl) (by rfl) (by rfl)) (@c7 _) (by rfl)) (by rfl)) (by rfl) (by rfl) (by rfl)) (@c7 _) (by rfl)) (by rfl)) (@v0 _ _ (1) _ N4.nd rfl (Or.inl rfl) (by trivial)) (@i4 _ _ _ _ _ (@l8 _ _ (2) _ _ _ _ N4.nd rfl (Or.inr rfl) (@l9 _ _ _ _ _ _ _ _ _ _ zpz zh (@c6 _ _ _ _ _ (pv 0) (@c6 _ _ _ _ _ (pv 1) (@c7 _) (by rfl)) (by rfl)) (by rfl) (by decide) (by rfl) (by rfl)) (by rfl) (by trivial)) (@i4 _ _ _ _ _ (@l8 _ _ (3) _ _ _ _ N4.nd rfl (Or.inr rfl) (@l9 _ _ _ _ _ _ _ _ _ _ zpy zhz (@c6 _ _ _ _ _ (pv 2) (@c6 _ _ _ _ _ (@i7 _ _ _ _) (@c7 _) (by rfl)) (by rfl)) (by rfl) (by decide) (by rfl) (by rfl)) (by rfl) (by trivial)) (@i4 _ _ _ _ _ (@l8 _ _ (4) _ _ _ _ N4.nd rfl (Or.inr rfl) (@l9 _ _ _ _ _ _ _ _ _ _ zuz zox (@c6 _ _ _ _ _ (pv 2) (@c6 _ _ _ _ _ (pv 3) (@c7 _) (by rfl)) (by rfl)) (by rfl) (by decide) (by rfl) (by rfl)) (by rfl) (by trivial)) (@i4 _ _ _ _ _ (@B7 _ _ _ _ _ _ _ _ PassesOwn.never rfl (@A8 _ _ _ _ (@m3 _ _ _ _ _ _ _ _ B8 (@m8 _ _ _ _ (@c6 _ _ _ _ _ (pv 4) (@c7 _) (by rfl))) (@D5 _ _ _ _ _ _ _ _ _ _ _ (["turn","pool","told"]) (1) ([2,4]) rfl .of (@D4 _ _ _ _ _ _ (by rfl) B.range (@c6 _ _ _ _ _ (@i7 _ _ _ _) (@c7 _) (by rfl)) (by rfl)) (fun _ _ _ _ _=>@v0 _ _ (0) _ ac6 rfl (Or.inl rfl) (by trivial)) (fun _ _ _ _ _=>(@C7 _)) (fun _ _ _ _ _=>(@l9 _ _ _ _ _ _ _ _ _ _ zux zm (@c6 _ _ _ _ _ (pv 1) (@c6 _ _ _ _ _ (pv 2) (@c7 _) (by rfl)) (by rfl)) (by rfl) (by decide) (by rfl) (by rfl))) (by intro _;rfl)))) (@v0 _ _ (5) _ N4.nd rfl (Or.inl rfl) (by trivial)) (@i5 _ _ _ (@A0 _ _ _ _ _ _ _ _ (@C1 _ _ _ _ (@B4 _ _ _ (@l9 _ _ _ _ _ _ _ _ _ _ zv zvy (@c6 _ _ _ _ _ (pv 5) (@c7 _) (by rfl)) (by rfl) (by decide) (by rfl) (by rfl)) (by intro _;rfl))) (@i5 _ _ _ (@m7 _ _ _ _ (@B5 _ _ _ _))) (@o8 _))) (by intro _;rfl)) (@i4 _ _ _ _ _ (@l8 _ _ (6) _ _ _ _ N4.nd rfl (Or.inl rfl) (@m3 _ _ _ _ _ _ _ _ B2 (@i7 _ _ _ _) (@l9 _ _ _ _ _ _ _ _ _ _ zzx zy (@c6 _ _ _ _ _ (pv 2) (@c6 _ _ _ _ _ (@i7 _ _ _ _) (@c7 _) (by rfl)) (by rfl)) (by rfl) (by decide) (by rfl) (by rfl))) (by rfl) (by trivial)) (@i4 _ _ _ _ _ (@A0 _ _ _ _ _ _ _ _ (@D7 _ _ _ _ _ _ _ (@C1 _ _ _ _ (@B4 _ _ _ (@l9 _ _ _ _ _ _ _ _ _ _ zv zvy (@c6 _ _ _ _ _ (@D5 _ _ _ _ _ _ _ _ _ _ _ (["thing"]) (1) ([]) rfl .of (@D4 _ _ _ _ _ _ (by rfl) B.range (@c6 _ _ _ _ _ (pv 6) (@c7 _) (by rfl)) (by rfl)) (fun _ _ _ _ _=>@v0 _ _ (0) _ aj4 rfl (Or.inl rfl) (by trivial)) (fun _ _ _ _ _=>(@C7 _)) (fun _ _ _ _ _=>(@m8 _ _ _ _ (@c6 _ _ _ _ _ (pv 0) (@c7 _) (by rfl)))) (by intro _;rfl)) (@c7 _) (by rfl)) (by rfl) (by decide) (by rfl) (by rfl)) (by intro _;rfl))) (@K8 _ _ _ _ (@C1 _ _ _ _ (@B4 _ _ _ (@l9 _ _ _ _ _ _ _ _ _ _ zv zvy (@c6 _ _ _ _ _ (@m8 _ _ _ _ (@c6 _ _ _ _ _ (@ae0 _ _ _ _ _ _ _ rfl B.list B.range (@c6 _ _ _ _ _ (pv 6) (@c7 _) (by rfl)) (by rfl) (by rfl) (by rfl) (by rfl)) (@c7 _) (by rfl))) (@c7 _) (by rfl)) (by rfl) (by decide) (by rfl) (by rfl)) (by intro _;rfl))))).pt (@i5 _ _ _ (@m7 _ _ _ _ (@B5 _ _ _ _))) (@o8 _)) (@i4 _ _ _ _ _ (@l8 _ _ (7) _ _ _ _ N4.nd rfl (Or.inl rfl) (@m3 _ _ _ _ _ _ _ _ B8 (@D5 _ _ _ _ _ _ _ _ _ _ _ (["turn","pool","p"]) (1) ([2,3]) rfl .of (@D4 _ _ _ _ _ _ (by rfl) B.range (@c6 _ _ _ _ _ (@i7 _ _ _ _) (@c7 _) (by rfl)) (by rfl)) (fun _ _ _ _ _=>@v0 _ _ (0) _ aj5 rfl (Or.inl rfl) (by trivial)) (fun _ _ _ _ _=>(@C7 _)) (fun _ _ _ _ _=>(@l9 _ _ _ _ _ _ _ _ _ _ zry zi (@c6 _ _ _ _ _ (pv 1) (@c6 _ _ _ _ _ (pv 2) (@c7 _) (by rfl)) (by rfl)) (by rfl) (by decide) (by rfl) (by rfl))) (by intro _;rfl)) (@m8 _ _ _ _ (@c6 _ _ _ _ _ (@O0 _ _ _) (@c6 _ _ _ _ _ (@O1 _ _ _ _) (@c6 _ _ _ _ _ (@m3 _ _ _ _ _ _ _ _ B8 (pv 3) (@m8 _ _ _ _ (@c6 _ _ _ _ _ (@B5 _ _ _ _) (@c7 _) (by rfl)))) (@c6 _ _ _ _ _ (@m3 _ _ _ _ _ _ _ _ B8 (pv 3) (@m8 _ _ _ _ (@c6 _ _ _ _ _ (@V0 _ _ _ _ _ _ O4 (@i7 _ _ _ _)) (@c7 _) (by rfl)))) (@c6 _ _ _ _ _ (@N0 _ _ _ _ _ _ _ _ _ af4 (by rfl) B.tuple al0 (@c6 _ _ _ _ _ (pv 3) (@c7 _) (by rfl)) (by decide) (by decide) (by rfl) (by rfl)) (@c6 _ _ _ _ _ (@m8 _ _ _ _ (@c6 _ _ _ _ _ (pv 3) (@c7 _) (by rfl))) (@c7 _) (by rfl)) (by rfl)) (by rfl)) (by rfl)) (by rfl)) (by rfl)))) (by rfl) (by trivial)) (@i5 _ _ _ (@B7 _ _ _ _ _ _ _ _ PassesOwn.never rfl (@A8 _ _ _ _ (@m3 _ _ _ _ _ _ _ _ B8 (@D5 _ _ _ _ _ _ _ _ _ _ _ (["one"]) (1) ([]) rfl .of (@A8 _ _ _ _ (pv 7)) (fun _ _ _ _ _=>@v0 _ _ (0) _ bl6 rfl (Or.inl rfl) (by trivial)) (fun _ _ _ _ _=>@am2 _ _ _ (@C1 _ _ _ _ (@B4 _ _ _ (@l9 _ _ _ _ _ _ _ _ _ _ ztx zkz (@c6 _ _ _ _ _ (pv 0) (@c7 _) (by rfl)) (by rfl) (by decide) (by rfl) (by rfl)) (by intro _;rfl)))) (fun _ _ _ _ _=>(pv 0)) (by intro _;rfl)) (@m8 _ _ _ _ (@c6 _ _ _ _ _ (@m3 _ _ _ _ _ _ _ _ B8 (pv 3) (@m8 _ _ _ _ (@c6 _ _ _ _ _ (@m3 _ _ _ _ _ _ _ _ B2 (@x9 _ _ _ _ _ B.len (@c6 _ _ _ _ _ (pv 3) (@c7 _) (by rfl)) (by rfl) (by rfl)) (@i7 _ _ _ _)) (@c7 _) (by rfl)))) (@c6 _ _ _ _ _ (@m3 _ _ _ _ _ _ _ _ B8 (@m3 _ _ _ _ _ _ _ _ B8 (@m8 _ _ _ _ (@c6 _ _ _ _ _ (@i7 _ _ _ _) (@c7 _) (by rfl))) (pv 3)) (@m8 _ _ _ _ (@c6 _ _ _ _ _ (@i7 _ _ _ _) (@c7 _) (by rfl)))) (@c7 _) (by rfl)) (by rfl))))) (@v0 _ _ (8) _ N4.nd rfl (Or.inl rfl) (by trivial)) (@i5 _ _ _ (@B7 _ _ _ _ _ _ _ _ PassesOwn.never rfl (@D4 _ _ _ _ _ _ (by rfl) B.range (@c6 _ _ _ _ _ (@i7 _ _ _ _) (@c7 _) (by rfl)) (by rfl)) (@v0 _ _ (9) _ N4.nd rfl (Or.inl rfl) (by trivial)) (@i5 _ _ _ (@A0 _ _ _ _ _ _ _ _ (@C1 _ _ _ _ (@B4 _ _ _ (@l9 _ _ _ _ _ _ _ _ _ _ zsz zky (@c6 _ _ _ _ _ (pv 9) (@c6 _ _ _ _ _ (pv 8) (@c7 _) (by rfl)) (by rfl)) (by rfl) (by decide) (by rfl) (by rfl)) (by intro _;rfl))) (@i5 _ _ _ (@m7 _ _ _ _ (@B5 _ _ _ _))) (@o8 _))) (by intro _;rfl))) (by intro _;rfl)))))))))) (by intro _;rfl)) (@i4 _ _ _ _ _ (@l8 _ _ (10) _ _ _ _ N4.nd rfl (Or.inl rfl) (@m8 _ _ _ _ (@c6 _ _ _ _ _ (@O1 _ _ _ _) (@c6 _ _ _ _ _ (@O1 _ _ _ _) (@c6 _ _ _ _ _ (@O1 _ _ _ _) (@c6 _ _ _ _ _ (@m3 _ _ _ _ _ _ _ _ cb7 (@O1 _ _ _ _) (@i7 _ _ _ _)) (@c7 _) (by rfl)) (by rfl)) (by rfl)) (by rfl))) (by rfl) (by trivial)) (@i4 _ _ _ _ _ (@A0 _ _ _ _ _ _ _ _ (@m9 _ _ _ _ _ _ _ _ (ag8 0 hu) (@D5 _ _ _ _ _ _ _ _ _ _ _ (["words"]) (1) ([]) rfl .of (@A8 _ _ _ _ (pv 10)) (fun _ _ _ _ _=>@v0 _ _ (0) _ bd8 rfl (Or.inl rfl) (by trivial)) (fun _ _ _ _ _=>@am2 _ _ _ (@m9 _ _ _ _ _ _ _ _ ao2 (@cb6 _ _ _ _ _ _ _ _ _ B.str (ER.err ("NoRounds",zzy) (by simp)) (ES ("NoRounds",zzy) (by simp)) hr.units (pv 0) (by rfl) (by rfl) (by rfl) (by decide) (by rfl)) (pv 0) (q0 _))) (fun _ _ _ _ _=>(pv 0)) (by intro _;rfl)) (@m8 _ _ _ _ (@c7 _)) (q0 _)) (@i5 _ _ _ (@m7 _ _ _ _ (@B5 _ _ _ _))) (@o8 _)) (@i5 _ _ _ (@m7 _ _ _ _ (@ag1 _ _ _ _ _ _ _ (@l9 _ _ _ _ _ _ _ _ _ _ zv zvy (@c6 _ _ _ _ _ (@m8 _ _ _ _ (@c6 _ _ _ _ _ (@m8 _ _ _ _ (@c7 _)) (@c7 _) (by rfl))) (@c7 _) (by rfl)) (by rfl) (by decide) (by rfl) (by rfl)) (@ag1 _ _ _ _ _ _ _ (@l9 _ _ _ _ _ _ _ _ _ _ zv zvy (@c6 _ _ _ _ _ (@m8 _ _ _ _ (@c6 _ _ _ _ _ (@m8 _ _ _ _ (@c6 _ _ _ _ _ (@i7 _ _ _ _) (@c7 _) (by rfl))) (@c6 _ _ _ _ _ (@m8 _ _ _ _ (@c7 _)) (@c7 _) (by rfl)) (by rfl))) (@c7 _) (by rfl)) (by rfl) (by decide) (by rfl) (by rfl)) (@ao0 _ _ _ _ _ (@l9 _ _ _ _ _ _ _ _ _ _ zv zvy (@c6 _ _ _ _ _ (@D5 _ _ _ _ _ _ _ _ _ _ _ (["thing"]) (1) ([]) rfl .of (@D4 _ _ _ _ _ _ (by rfl) B.range (@c6 _ _ _ _ _ (@i7 _ _ _ _) (@c7 _) (by rfl)) (by rfl)) (fun _ _ _ _ _=>@v0 _ _ (0) _ aj4 rfl (Or.inl rfl) (by trivial)) (fun _ _ _ _ _=>(@C7 _)) (fun _ _ _ _ _=>(@m8 _ _ _ _ (@c6 _ _ _ _ _ (pv 0) (@c7 _) (by rfl)))) (by intro _;rfl)) (@c7 _) (by rfl)) (by rfl) (by decide) (by rfl) (by rfl))))))))),?_⟩
   refine ⟨_,rfl,a,_,rfl,.inl ha,10,_,rfl,1,_,rfl,_,rfl,?_⟩;obtain ⟨mx,hmx,hm1,hm2⟩:=ca6 (n:=10) (c:=((ns.map V.int).length:Int)) (by decide) (by omega);rw[hmx]
   refine ⟨by omega,by omega,R0 (lo:=0) (n:=mx.toNat) (fun i σ H2=>∃v1 v2 v3 v4 v5 v6 v7 v8 v9:Option V,σ=[some (.ref a),v1,v2,v3,v4,v5,v6,v7,v8,v9,none]/\c9 H H2)
     ⟨none,none,none,none,none,none,none,none,none,rfl,c9.refl H⟩ ?_ ?_⟩
   · rintro i σ H2 hi ⟨v1,v2,v3,v4,v5,v6,v7,v8,v9,rfl,s02⟩;refine ⟨_,rfl,_,rfl,a,ns,_,rfl,s02.seq ha,by omega,by omega,fun g H3 hg s23 P3=> ?_⟩;have hg0:H g=none:=s02.free hg;refine ⟨_,rfl,g,_,40,rfl,P3,by decide,by decide,by decide,fun pa p H4 npa tp lp h4 P4 kb4=> ?_⟩;have npg:pa≠g:=r9 P3 npa
     have l40:p.length<=40:=by omega
     have pb:∀x∈p,0<=x/\x < 40:=fun x hx=>by have:=tp.lo x hx;have:=tp.hi x hx;omega
     have s04:c9 H H4:=(s02.trans s23).kb kb4 hg0;refine ⟨_,rfl,_,rfl,g,pa,p,_,rfl,P4,by decide,npg,⟨h4,tp,l40⟩,fun tl cs qs H5 htl h5 rows5 told ngc P5 kb5=> ?_⟩;have few:=bx3 tp l40 told;have ntg:tl≠g:=r9 P4 htl;have s05:c9 H H5:=s04.kb kb5 hg0;have h5p:=kb5 _ _ h4 npg;refine ⟨_,rfl,(show 1<=sizeLine by decide),fun l1 n1=> ?_⟩;have s6:c9 H5 (e8 H5 l1 (.lst ([V.ref tl]))):=c9.upd_new n1;have g6:(e8 H5 l1 (.lst ([V.ref tl]))) l1=some (.lst ([V.ref tl])):=c8;generalize (e8 H5 l1 (.lst ([V.ref tl])))=H6 at s6 g6 ⊢;have n1g:l1≠g:=r9 P5 n1;have P6:=m5 P5 s6
     refine ⟨8,rfl,by decide,by decide,S7 (lo:=0) (n:=8) (fun t ys σ Hx=>∃(v:Option V) (bs:List Addr),σ=[v,some (.ref g),some (.ref tl)]/\ys=bs.map V.ref/\bs.length=t/\(∀b∈bs,RB g Hx b)/\x6 Hx g (5000+300*t)/\l7 g H6 Hx)
       ⟨none,[],rfl,rfl,rfl,(fun b hb=>by cases hb),P6.mono (by omega),l7.refl _ _⟩ ?_ ?_⟩
     · rintro t ys σ Hx ht ⟨v,bs,rfl,rfl,lb,rb,Px,kbx⟩;refine ⟨_,rfl,_,rfl,g,tl,cs,qs,_,rfl,Px,by omega,kbx _ _ (s6 _ _ h5) ntg,y6 rows5 fun x hx o e=>kbx _ _ (s6 _ _ e) fun z=>ngc (z▸hx),ngc,few,fun o ds ps Hy ho hy rowsy ngd ly1 ly2 Py kby=> ?_⟩;refine ⟨m4 (by rw[co8];omega),_,bs++[o],rfl,by rw[cp5];rfl,by rw[co9,lb];rfl,fun b hb=> ?_,Py.mono (by omega),kbx.trans kby⟩
       rcases cp4.mp hb with z|z
       · exact (rb b z).keep kby
       · rw[cq7.mp z];exact ⟨r9 Px ho,ds,ps,hy,rowsy,ngd,ly1,ly2⟩
     rintro ys σ Hx ⟨v,bs,rfl,rfl,lb,rb,Px,kbx⟩ l2 n2;have s7:c9 Hx (e8 Hx l2 (.lst (bs.map V.ref))):=c9.upd_new n2;have g7:(e8 Hx l2 (.lst (bs.map V.ref))) l2=some (.lst (bs.map V.ref)):=c8;generalize (e8 Hx l2 (.lst (bs.map V.ref)))=H7 at s7 g7 ⊢;refine ⟨l1,l2,_,_,rfl,rfl,s7 _ _ (kbx _ _ g6 n1g),g7,cr5 (m4 (by rw[co8,lb];show 1+8<=1000;omega)),fun l3 n3=> ?_⟩
     have rt:RB g Hx tl:=⟨ntg,cs,qs,kbx _ _ (s6 _ _ h5) ntg,y6 rows5 fun x hx o e=>kbx _ _ (s6 _ _ e) fun z=>ngc (z▸hx),ngc,by
       have:∀l:List (List Int),(∀r∈l,r≠[])->l.length<=l.flatten.length:=fun l=>by
         induction l with
         |nil=>intro _;exact cq0 _
         |cons x l ih=>
          intro h
          have a:=ih fun r hr=>h r (cp6 _ hr)
          have b:=ct9.mpr (h x cp7);rw[cr4,co9,cp9];omega
       have:=this qs few.ne;have:=few.len
       omega,by have:=few.len;omega⟩
     have s8:c9 H7 (e8 H7 l3 (.lst ([V.ref tl]++bs.map V.ref))):=c9.upd_new n3;have g8:(e8 H7 l3 (.lst ([V.ref tl]++bs.map V.ref))) l3=some (.lst ([V.ref tl]++bs.map V.ref)):=c8;generalize (e8 H7 l3 (.lst ([V.ref tl]++bs.map V.ref)))=H8 at s8 g8 ⊢;have g8:H8 l3=some (.lst ((tl::bs).map V.ref)):=g8;have s78:=s7.trans s8;have P8:=m5 Px s78
     have all:∀b∈tl::bs,RB g H8 b:=fun b hb=>by
       rcases cq5.mp hb with rfl|z
       · exact rt.keep (s78.but g)
       · exact (rb b z).keep (s78.but g)
     have s08:c9 H H8:=((s05.trans s6).kb kbx hg0).trans s78;have h8p:=s78 _ _ (kbx _ _ (s6 _ _ h5p) npg)
     refine ⟨l3,rfl,⟨_,i8.of g8⟩,C2 (K:=K) (a:=l3) (xs:=(tl::bs).map V.ref) (fun j σ H9=>∃v5:Option V,σ=[some (.ref a),some (.int ((0:Int)+(i:Int))),some (.ref g),some (.ref pa),some (.ref tl),v5,v6,v7,v8,v9,none]/\c9 H8 H9)
       ⟨_,rfl,c9.refl _⟩ (fun j σ H9 _ zz=>by obtain ⟨_,_,s⟩:=zz;exact i8.of (s _ _ g8)) ?_ ?_⟩
     · rintro j x σ H9 hj ⟨w5,rfl,s9⟩;obtain ⟨b,hb,rfl⟩:=T5 hj;obtain ⟨_,ds,ps,e,rr,_,z1,z2⟩:=(all b (cp3 hb)).keep (s9.but g);exact ⟨_,rfl,b,ds,ps,rfl,e,rr,by omega,by omega,fun H10 s10=>⟨true,rfl,A5 ⟨_,rfl,s9.trans s10⟩⟩⟩
     rintro σ H9 ⟨w5,rfl,s9⟩;have P9:=m5 P8 s9;refine ⟨_,rfl,g,_,5,rfl,P9,by decide,by decide,by decide,fun r H10 r0 r1 P10 kb10=>⟨_,_,rfl,rfl,?_⟩⟩;have s010:c9 H H10:=(s08.trans s9).kb kb10 hg0;have h10p:=kb10 _ _ (s9 _ _ h8p) npg;obtain ⟨m,em⟩:=cq8 (show 0<=38+r by omega);show aa2 6 (V.int (38+r)) _ _ _;rw[em];refine ⟨_,rfl,(m:Int),rfl,by omega,by omega,aw1 (n:=(m:Int).toNat) (by omega) fun D ds H11 s11 h11 rows11=> ?_⟩
     have fo:∀n:Nat,((D6 0 n).map fun x=>[x]).flatten.length=n/\((D6 0 n).map fun x=>[x]).length=n:=fun n=>⟨by rw[aj3,A6],by rw[co8,A6]⟩
     refine ⟨D,ds,_,rfl,h11,rows11,by rw[(fo _).1];omega,by rw[(fo _).2];omega,fun H12 s12=>⟨true,rfl,A5 ?_⟩⟩;have P12:=m5 P10 (s11.trans s12);refine ⟨_,rfl,(m:Int),rfl,fun rg hrg=> ?_⟩;have s13:c9 H12 (e8 H12 rg (.rng 0 (m:Int))):=c9.upd_new hrg;have g13:(e8 H12 rg (.rng 0 (m:Int))) rg=some (.rng 0 (m:Int)):=c8;generalize (e8 H12 rg (.rng 0 (m:Int)))=H13 at s13 g13 ⊢;refine ⟨rg,0,_,rfl,g13,⟨by omega,by omega,by omega,by omega⟩,by omega,fun st hst=> ?_⟩;rw[show ((m:Int) - 0).toNat=m by omega];have s14:c9 H13 (e8 H13 st (.lst ((D6 0 m).map V.int))):=c9.upd_new hst;have g14:(e8 H13 st (.lst ((D6 0 m).map V.int))) st=some (.lst ((D6 0 m).map V.int)):=c8;generalize (e8 H13 st (.lst ((D6 0 m).map V.int)))=H14 at s14 g14 ⊢;refine ⟨(show 1<=sizeLine by decide),fun lo hlo=> ?_⟩;have s15:c9 H14 (e8 H14 lo (.lst ([V.ref st]))):=c9.upd_new hlo;have g15:(e8 H14 lo (.lst ([V.ref st]))) lo=some (.lst ([V.ref st])):=c8;generalize (e8 H14 lo (.lst ([V.ref st])))=H15 at s15 g15 ⊢;refine ⟨lo,[st],[D6 0 m],rfl,g15,Q9 (s15 _ _ g14),by rw[cr1,A6];omega,by show 1<=2000;omega,fun H16 s16=>⟨true,rfl,A5 ?_⟩⟩;have s1016:c9 H10 H16:=s11.trans (s12.trans (s13.trans (s14.trans (s15.trans s16))));have P16:=m5 P10 s1016;have h16p:=s1016 _ _ h10p;have s016:=s010.trans s1016;refine ⟨6,rfl,by decide,by decide,S7 (lo:=0) (n:=6) (fun t ys σ Hx=>∃v:Option V,σ=[v,some (.ref g),some (.ref pa)]/\ys.length=t/\(∀y∈ys,ThV K (Q7 Hx g g) y)/\x6 Hx g (8000+60*t)/\l7 g H16 Hx) ⟨none,rfl,rfl,(fun y hy=>by cases hy),P16.mono (by omega),l7.refl _ _⟩ ?_ ?_⟩
     · rintro t ys σ Hx ht ⟨v,rfl,ly,th,Px,kbx⟩;refine ⟨_,rfl,_,rfl,g,pa,_,p,rfl,Px,by omega,kbx _ _ h16p npg,npg,pb,l40,fun y Hy Py kby ty=>⟨m4 (by omega),_,rfl,by rw[co9,ly];rfl,fun x hx=> ?_,Py.mono (by omega),kbx.trans kby⟩⟩
       rcases cp4.mp hx with z|z
       · exact (th x z).keep (ak4 kby)
       · rw[cq7.mp z];exact ty
     rintro ys σ Hy ⟨v,rfl,ly,th,Py,kby⟩ l4 n4;have s016y:c9 H Hy:=s016.kb kby hg0;have hyp:=kby _ _ h16p npg;have s17:c9 Hy (e8 Hy l4 (.lst (ys))):=c9.upd_new n4;have g17:(e8 Hy l4 (.lst (ys))) l4=some (.lst (ys)):=c8;generalize (e8 Hy l4 (.lst (ys)))=H17 at s17 g17 ⊢;have lm:(p.map V.int).length=p.length:=co8 ..;refine ⟨_,rfl,(show 1<=sizeLine by decide),fun a1 k1=> ?_⟩;have s18:c9 H17 (e8 H17 a1 (.lst ([V.bl true]))):=c9.upd_new k1;have g18:(e8 H17 a1 (.lst ([V.bl true]))) a1=some (.lst ([V.bl true])):=c8;generalize (e8 H17 a1 (.lst ([V.bl true])))=H18 at s18 g18 ⊢;refine ⟨pa,a1,_,_,rfl,rfl,s18 _ _ (s17 _ _ hyp),g18,cr5 (m4 (by rw[lm];show _+1<=1000;omega)),fun a2 k2=> ?_⟩;have s19:c9 H18 (e8 H18 a2 (.lst (p.map V.int++[V.bl true]))):=c9.upd_new k2;have g19:(e8 H18 a2 (.lst (p.map V.int++[V.bl true]))) a2=some (.lst (p.map V.int++[V.bl true])):=c8;generalize (e8 H18 a2 (.lst (p.map V.int++[V.bl true])))=H19 at s19 g19 ⊢;refine ⟨_,rfl,_,rfl,(show 1<=sizeLine by decide),fun a3 k3=> ?_⟩;have s20:c9 H19 (e8 H19 a3 (.lst ([V.int (-1)]))):=c9.upd_new k3;have g20:(e8 H19 a3 (.lst ([V.int (-1)]))) a3=some (.lst ([V.int (-1)])):=c8;generalize (e8 H19 a3 (.lst ([V.int (-1)])))=H20 at s20 g20 ⊢;refine ⟨pa,a3,_,_,rfl,rfl,s20 _ _ (s19 _ _ (s18 _ _ (s17 _ _ hyp))),g20,cr5 (m4 (by rw[lm];show _+1<=1000;omega)),fun a4 k4=> ?_⟩;have s21:c9 H20 (e8 H20 a4 (.lst (p.map V.int++[V.int (-1)]))):=c9.upd_new k4;have g21:(e8 H20 a4 (.lst (p.map V.int++[V.int (-1)]))) a4=some (.lst (p.map V.int++[V.int (-1)])):=c8;generalize (e8 H20 a4 (.lst (p.map V.int++[V.int (-1)])))=H21 at s21 g21 ⊢;have sy21:c9 Hy H21:=s17.trans (s18.trans (s19.trans (s20.trans s21)));refine ⟨_,rfl,pa,_,rfl,.inl ⟨i8.of (sy21 _ _ hyp),fun a5 k5=> ?_⟩⟩;have s22:c9 H21 (e8 H21 a5 (.tup (p.map V.int))):=c9.upd_new k5;have g22:(e8 H21 a5 (.tup (p.map V.int))) a5=some (.tup (p.map V.int)):=c8;generalize (e8 H21 a5 (.tup (p.map V.int)))=H22 at s22 g22 ⊢;refine ⟨_,rfl,(show 1<=sizeLine by decide),fun a6 k6=> ?_⟩;have s23':c9 H22 (e8 H22 a6 (.lst ([V.ref pa]))):=c9.upd_new k6;have g23:(e8 H22 a6 (.lst ([V.ref pa]))) a6=some (.lst ([V.ref pa])):=c8;generalize (e8 H22 a6 (.lst ([V.ref pa])))=H23 at s23' g23 ⊢;refine ⟨(show 6<=sizeLine by decide),fun a7 k7=> ?_⟩;have s24:c9 H23 (e8 H23 a7 (.lst ([V.non,V.str "",V.ref a2,V.ref a4,V.ref a5,V.ref a6]))):=c9.upd_new k7;have g24:(e8 H23 a7 (.lst ([V.non,V.str "",V.ref a2,V.ref a4,V.ref a5,V.ref a6]))) a7=some (.lst ([V.non,V.str "",V.ref a2,V.ref a4,V.ref a5,V.ref a6])):=c8;generalize (e8 H23 a7 (.lst ([V.non,V.str "",V.ref a2,V.ref a4,V.ref a5,V.ref a6])))=H24 at s24 g24 ⊢;have s1924:c9 H19 H24:=s20.trans (s21.trans (s22.trans (s23'.trans s24)));have sy24:c9 Hy H24:=sy21.trans (s22.trans (s23'.trans s24));refine ⟨l4,a7,_,_,rfl,rfl,s1924 _ _ (s19 _ _ (s18 _ _ g17)),g24,cr5 (m4 (by rw[ly];show 6+6<=1000;omega)),fun a8 k8=> ?_⟩;have s25:c9 H24 (e8 H24 a8 (.lst (ys++[V.non,V.str "",V.ref a2,V.ref a4,V.ref a5,V.ref a6]))):=c9.upd_new k8;have g25:(e8 H24 a8 (.lst (ys++[V.non,V.str "",V.ref a2,V.ref a4,V.ref a5,V.ref a6]))) a8=some (.lst (ys++[V.non,V.str "",V.ref a2,V.ref a4,V.ref a5,V.ref a6])):=c8
     generalize (e8 H24 a8 (.lst (ys++[V.non,V.str "",V.ref a2,V.ref a4,V.ref a5,V.ref a6])))=H25 at s25 g25 ⊢;have sy25:c9 Hy H25:=sy24.trans s25;have s1925:c9 H19 H25:=s1924.trans s25;have h25p:=sy25 _ _ hyp
     have pb2:∀x∈p,-100<=x/\x<=100:=fun x hx=>by have:=pb x hx;omega
     have all25:∀x∈ys++[V.non,V.str "",V.ref a2,V.ref a4,V.ref a5,V.ref a6],ThV K H25 x:=fun x hx=>by
       rcases cp4.mp hx with z|z
       · exact ((th x z).keep (ak4 (l:=g) (sy25.but g))).keep (br6 H25 g g)
       · simp only[cq5,cv6,or_false] at z
         rcases z with rfl|rfl|rfl|rfl|rfl|rfl
         · exact Q4 .non (Q2 K) .non (.inl (.of bb8))
         · exact Q4 (.str _) (N3 K) (.str _) (.inl (.of (bb9 (by decide+kernel))))
         · refine E9 (s1925 _ _ g19) (fun x hx=> ?_) (by rw[co9,lm];simp only[cs2];omega)
           rcases cp4.mp hx with z|z
           · exact G7 pb2 x z
           · rw[cq7.mp z];exact ax6 true
         · refine E9 ((s22.trans (s23'.trans (s24.trans s25))) _ _ g21) (fun x hx=> ?_) (by rw[co9,lm];simp only[cs2];omega)
           rcases cp4.mp hx with z|z
           · exact G7 pb2 x z
           · rw[cq7.mp z];exact L7 ⟨by omega,by omega⟩
         · have h:=(s23'.trans (s24.trans s25)) _ _ g22;exact Q4 (.tup h) (L5 K) (.tup h) (.inl (av9 h (by omega) fun x hx=>by have:=pb x hx;exact ⟨by omega,by omega⟩))
         · exact E9 ((s24.trans s25) _ _ g23) (fun x hx=>by rw[cq7.mp hx];exact bc9 h25p (by omega) pb2) (by simp)
     refine ⟨_,rfl,a8,rfl,⟨_,i8.of g25⟩,G3 (K:=K) (a:=a8) (xs:=ys++[V.non,V.str "",V.ref a2,V.ref a4,V.ref a5,V.ref a6]) (fun j zs σ Hx=>∃v:Option V,σ=[v]/\c9 H25 Hx/\zs.length<=j/\∀y∈zs,ThV K Hx y/\E7 K Hx y)
       ⟨none,rfl,c9.refl _,cq0 _,fun y hy=>by cases hy⟩ (fun j zs σ Hx _ zz=>by obtain ⟨_,_,s,_⟩:=zz;exact i8.of (s _ _ g25)) ?_ ?_⟩
     · rintro j x zs σ Hx hj ⟨v,rfl,sx,lz,ok⟩;have T:=(all25 x (cp3 hj)).keep sx
       have jl:j < 12:=by
         have:=(cp0.mp hj).1;rw[co9,ly] at this;exact this
       obtain ⟨b,J⟩:=T.jd;refine ⟨_,rfl,x,b,rfl,J,fun Hz sz=>⟨b,rfl,?_⟩⟩
       cases b with
       |true=>exact A5 ⟨_,rfl,sx.trans sz,by omega,fun y hy=>⟨(ok y hy).1.keep sz,(ok y hy).2.keep sz⟩⟩
       |false=>
        refine B3 ⟨_,rfl,m4 (by omega),_,rfl,sx.trans sz,by rw[co9];exact da3 lz,fun y hy=> ?_⟩
        rcases cp4.mp hy with z|z
        · exact ⟨(ok y z).1.keep sz,(ok y z).2.keep sz⟩
        · rw[cq7.mp z];refine ⟨T.keep sz,?_⟩
          rcases J with ⟨no,_⟩|⟨_,_,_,_,_,_,e⟩
          · exact no.keep sz
          · cases e
     rintro zs σ Hx ⟨v,rfl,sx,lz,ok⟩ D hD
     have lz12:zs.length<=12:=by rw[co9,ly] at lz;exact lz
     have hxp:=sx _ _ h25p;have s26:c9 Hx (e8 Hx D (.lst (zs))):=c9.upd_new hD;have g26:(e8 Hx D (.lst (zs))) D=some (.lst (zs)):=c8;generalize (e8 Hx D (.lst (zs)))=H26 at s26 g26 ⊢;have h26p:=s26 _ _ hxp;refine ⟨_,rfl,_,rfl,pa,_,rfl,.inl (i8.of h26p),_,_,rfl,rfl,(show 1<=sizeLine by decide),fun b1 j1=> ?_⟩;have s27:c9 H26 (e8 H26 b1 (.lst ([V.int (((p.map V.int).length:Int)+1)]))):=c9.upd_new j1;have g27:(e8 H26 b1 (.lst ([V.int (((p.map V.int).length:Int)+1)]))) b1=some (.lst ([V.int (((p.map V.int).length:Int)+1)])):=c8;generalize (e8 H26 b1 (.lst ([V.int (((p.map V.int).length:Int)+1)])))=H27 at s27 g27 ⊢;refine ⟨pa,b1,_,_,rfl,rfl,s27 _ _ h26p,g27,cr5 (m4 (by rw[lm];show _+1<=1000;omega)),fun b2 j2=> ?_⟩;have s28:c9 H27 (e8 H27 b2 (.lst (p.map V.int++[V.int (((p.map V.int).length:Int)+1)]))):=c9.upd_new j2;have g28:(e8 H27 b2 (.lst (p.map V.int++[V.int (((p.map V.int).length:Int)+1)]))) b2=some (.lst (p.map V.int++[V.int (((p.map V.int).length:Int)+1)])):=c8;generalize (e8 H27 b2 (.lst (p.map V.int++[V.int (((p.map V.int).length:Int)+1)])))=H28 at s28 g28 ⊢;refine ⟨(show 1<=sizeLine by decide),fun b3 j3=> ?_⟩;have s29:c9 H28 (e8 H28 b3 (.lst ([V.int 0]))):=c9.upd_new j3;have g29:(e8 H28 b3 (.lst ([V.int 0]))) b3=some (.lst ([V.int 0])):=c8;generalize (e8 H28 b3 (.lst ([V.int 0])))=H29 at s29 g29 ⊢;have s2629:c9 H26 H29:=s27.trans (s28.trans s29);refine ⟨_,rfl,b3,pa,_,_,rfl,rfl,g29,s2629 _ _ h26p,cr5 (m4 (by rw[lm];show 1+_<=1000;omega)),fun b4 j4=> ?_⟩;have s30:c9 H29 (e8 H29 b4 (.lst ([V.int 0]++p.map V.int))):=c9.upd_new j4;have g30:(e8 H29 b4 (.lst ([V.int 0]++p.map V.int))) b4=some (.lst ([V.int 0]++p.map V.int)):=c8;generalize (e8 H29 b4 (.lst ([V.int 0]++p.map V.int)))=H30 at s30 g30 ⊢;refine ⟨(show 1<=sizeLine by decide),fun b5 j5=> ?_⟩;have s31:c9 H30 (e8 H30 b5 (.lst ([V.int 0]))):=c9.upd_new j5;have g31:(e8 H30 b5 (.lst ([V.int 0]))) b5=some (.lst ([V.int 0])):=c8;generalize (e8 H30 b5 (.lst ([V.int 0])))=H31 at s31 g31 ⊢;refine ⟨b4,b5,_,_,rfl,rfl,s31 _ _ g30,g31,cr5 (m4 (by rw[co9,lm];show 1+_+1<=1000;omega)),fun b6 j6=> ?_⟩;have s32:c9 H31 (e8 H31 b6 (.lst ([V.int 0]++p.map V.int++[V.int 0]))):=c9.upd_new j6;have g32:(e8 H31 b6 (.lst ([V.int 0]++p.map V.int++[V.int 0]))) b6=some (.lst ([V.int 0]++p.map V.int++[V.int 0])):=c8;generalize (e8 H31 b6 (.lst ([V.int 0]++p.map V.int++[V.int 0])))=H32 at s32 g32 ⊢;refine ⟨(show 2<=sizeLine by decide),fun b7 j7=> ?_⟩;have s33:c9 H32 (e8 H32 b7 (.lst ([V.ref b2,V.ref b6]))):=c9.upd_new j7;have g33:(e8 H32 b7 (.lst ([V.ref b2,V.ref b6]))) b7=some (.lst ([V.ref b2,V.ref b6])):=c8;generalize (e8 H32 b7 (.lst ([V.ref b2,V.ref b6])))=H33 at s33 g33 ⊢;have s2833:c9 H28 H33:=s29.trans (s30.trans (s31.trans (s32.trans s33)));refine ⟨D,b7,_,_,rfl,rfl,s2833 _ _ (s28 _ _ (s27 _ _ g26)),g33,cr5 (m4 (by show _+2<=1000;omega)),fun b8 j8=> ?_⟩;have s34:c9 H33 (e8 H33 b8 (.lst (zs++[V.ref b2,V.ref b6]))):=c9.upd_new j8;have g34:(e8 H33 b8 (.lst (zs++[V.ref b2,V.ref b6]))) b8=some (.lst (zs++[V.ref b2,V.ref b6])):=c8
     generalize (e8 H33 b8 (.lst (zs++[V.ref b2,V.ref b6])))=H34 at s34 g34 ⊢;have s2834:=s2833.trans s34;have s2634:c9 H26 H34:=s27.trans (s28.trans s2834)
     have all34:∀x∈zs++[V.ref b2,V.ref b6],ThV K H34 x/\E7 K H34 x:=fun x hx=>by
       rcases cp4.mp hx with z|z
       · exact ⟨(ok x z).1.keep (s26.trans s2634),(ok x z).2.keep (s26.trans s2634)⟩
       · simp only[cq5,cv6,or_false] at z
         rcases z with rfl|rfl
         · have h:=s2834 _ _ g28
           have it:∀x∈p.map V.int++[V.int (((p.map V.int).length:Int)+1)],Q1 K H34 x:=fun x hx=>by
             rcases cp4.mp hx with z|z
             · exact G7 pb2 x z
             · rw[cq7.mp z,lm];exact L7 ⟨by omega,by omega⟩
           refine ⟨E9 h it (by rw[co9,lm];simp only[cs2];omega),cc5 (y:=V.int (((p.map V.int).length:Int)+1)) h (fun x hx=>(it x hx).el) (cp8 _ cp7) fun i e=> ?_⟩;have:=V.int.inj e;rw[co9,cs2]
           right
           omega
         · have h:H34 b6=some (.lst ((0::(p++[0])).map V.int)):=by
             rw[cr0,cp5];exact (s33.trans s34) _ _ g32
           refine ⟨E9 h (G7 fun x hx=> ?_) (by rw[co8,cp9,co9];simp only[cs2];omega),bw5 h fun _ t=> ?_⟩
           · rcases cq5.mp hx with z|z
             · omega
             · rcases cp4.mp z with z|z
               · exact pb2 x z
               · have:=cq7.mp z;omega
           · exact (cs5.mp t.1).1 (cp8 _ cp7)
     have s034:c9 H H34:=s016y.trans (sy25.trans (sx.trans (s26.trans s2634)))
     refine ⟨b8,rfl,⟨_,i8.of g34⟩,C2 (K:=K) (a:=b8) (xs:=zs++[V.ref b2,V.ref b6]) (fun j σ Hz=>∃v8 v9:Option V,σ=[some (.ref a),some (.int ((0:Int)+(i:Int))),some (.ref g),some (.ref pa),some (.ref tl),w5,some (.int (m:Int)),some (.ref a8),v8,v9,none]/\c9 H34 Hz)
       ⟨_,_,rfl,c9.refl _⟩ (fun j σ Hz _ zz=>by obtain ⟨_,_,_,s⟩:=zz;exact i8.of (s _ _ g34)) ?_ ?_⟩
     · rintro j x σ Hz hj ⟨w8,w9,rfl,sz⟩;obtain ⟨T,N⟩:=all34 x (cp3 hj);refine ⟨3,rfl,by decide,by decide,R0 (lo:=0) (n:=3) (fun t σ Hw=>∃v9:Option V,σ=[some (.ref a),some (.int ((0:Int)+(i:Int))),some (.ref g),some (.ref pa),some (.ref tl),w5,some (.int (m:Int)),some (.ref a8),some x,v9,none]/\c9 H34 Hw) ⟨_,rfl,sz⟩ ?_ (fun σ Hw ⟨_,e,s⟩=>⟨_,_,e,s⟩)⟩;rintro t σ Hw ht ⟨u9,rfl,sw⟩;exact ⟨_,rfl,_,rfl,_,x,rfl,by omega,by omega,T.keep sw,N.keep sw,fun Hv sv=>⟨true,rfl,A5 ⟨_,rfl,sw.trans sv⟩⟩⟩
     · rintro σ Hz ⟨w8,w9,rfl,sz⟩;exact ⟨_,_,_,_,_,_,_,_,_,rfl,s034.trans sz⟩
   · rintro σ H2 ⟨v1,v2,v3,v4,v5,v6,v7,v8,v9,rfl,s02⟩;refine ⟨"x",2000,rfl,rfl,?_,(show 4<=sizeLine by decide),fun wl nwl=> ?_⟩
     · exact ⟨by decide,fun _ _=>by decide+kernel,fun _ _=>by decide+kernel⟩
     obtain ⟨xx,exx⟩:∃xx,xx=Txt.mul "x" 2000:=⟨_,rfl⟩;rw[<-exx];have g3:(e8 H2 wl (.lst [V.str "words",V.str "",V.str " Two words, (0 1) ",V.str xx])) wl=some (.lst ((["words",""," Two words, (0 1) ",xx]:List Str).map V.str)):=c8;generalize (e8 H2 wl (.lst [V.str "words",V.str "",V.str " Two words, (0 1) ",V.str xx]))=H3 at g3 ⊢;refine ⟨_,rfl,wl,rfl,⟨_,i8.of g3⟩,G3 (K:=K) (a:=wl) (xs:=(["words",""," Two words, (0 1) ",xx]:List Str).map V.str) (fun j zs σ Hx=>∃v:Option V,σ=[v]/\Hx=H3/\zs=[]) ⟨none,rfl,rfl,rfl⟩ (fun j zs σ Hx _ zz=>by obtain ⟨_,_,e,_⟩:=zz;rw[e];exact i8.of g3) ?_ ?_⟩
     · rintro j x zs σ Hx hj ⟨v,rfl,rfl,rfl⟩
       obtain ⟨m,rfl⟩:∃m,x=V.str m:=by
         rw[cq4] at hj;obtain ⟨m,_,e⟩:=db0.mp hj;exact ⟨m,e.symm⟩
       exact ⟨_,rfl,m,rfl,_,rfl,rfl,_,rfl,ad5 rfl ⟨_,rfl,rfl,rfl⟩⟩
     rintro zs σ Hx ⟨v,rfl,rfl,rfl⟩ D hD;have s4:c9 Hx (e8 Hx D (.lst ([]))):=c9.upd_new hD;have g4:(e8 Hx D (.lst ([]))) D=some (.lst ([])):=c8;generalize (e8 Hx D (.lst ([])))=H4 at s4 g4 ⊢;refine ⟨cs1 _,fun e0 he0=> ?_⟩;have s5:c9 H4 (e8 H4 e0 (.lst ([]))):=c9.upd_new he0;have g5:(e8 H4 e0 (.lst ([]))) e0=some (.lst ([])):=c8;generalize (e8 H4 e0 (.lst ([])))=H5 at s5 g5 ⊢;refine ⟨D,e0,_,_,_,rfl,rfl,i8.of (s5 _ _ g4),i8.of g5,aj9 K H5 0 [],_,rfl,A5 ?_⟩;refine ⟨cs1 _,fun c1 d1=> ?_⟩;have s6:c9 H5 (e8 H5 c1 (.lst ([]))):=c9.upd_new d1;have g6:(e8 H5 c1 (.lst ([]))) c1=some (.lst ([])):=c8;generalize (e8 H5 c1 (.lst ([])))=H6 at s6 g6 ⊢;refine ⟨(show 1<=sizeLine by decide),fun c2 d2=> ?_⟩;have s7:c9 H6 (e8 H6 c2 (.lst ([V.ref c1]))):=c9.upd_new d2;have g7:(e8 H6 c2 (.lst ([V.ref c1]))) c2=some (.lst ([V.ref c1])):=c8;generalize (e8 H6 c2 (.lst ([V.ref c1])))=H7 at s7 g7 ⊢;refine ⟨c2,[c1],[[]],rfl,g7,Q9 (s7 _ _ g6),by decide,by decide,fun H8 s8=>⟨true,rfl,B3 ?_⟩⟩;refine ⟨(show 1<=sizeLine by decide),fun c3 d3=> ?_⟩;have s9:c9 H8 (e8 H8 c3 (.lst ([V.int 0]))):=c9.upd_new d3;have g9:(e8 H8 c3 (.lst ([V.int 0]))) c3=some (.lst ([V.int 0])):=c8;generalize (e8 H8 c3 (.lst ([V.int 0])))=H9 at s9 g9 ⊢;refine ⟨cs1 _,fun c4 d4=> ?_⟩;have s10:c9 H9 (e8 H9 c4 (.lst ([]))):=c9.upd_new d4;have g10:(e8 H9 c4 (.lst ([]))) c4=some (.lst ([])):=c8;generalize (e8 H9 c4 (.lst ([])))=H10 at s10 g10 ⊢;refine ⟨(show 2<=sizeLine by decide),fun c5 d5=> ?_⟩;have s11:c9 H10 (e8 H10 c5 (.lst ([V.ref c3,V.ref c4]))):=c9.upd_new d5;have g11:(e8 H10 c5 (.lst ([V.ref c3,V.ref c4]))) c5=some (.lst ([V.ref c3,V.ref c4])):=c8;generalize (e8 H10 c5 (.lst ([V.ref c3,V.ref c4])))=H11 at s11 g11 ⊢;refine ⟨c5,[c3,c4],[[0],[]],rfl,g11,Q8 (Q9 (r:=[0]) (s11 _ _ (s10 _ _ g9))) (Q9 (r:=[]) (s11 _ _ g10)),by decide,by decide,fun H12 s12=>⟨true,rfl,B3 ?_⟩⟩;refine ⟨1100,rfl,by decide,by decide,aw1 (n:=1100) (by decide) fun E ds H13 s13 h13 rows13=>⟨E,ds,_,rfl,h13,rows13,by rw[aj3,A6];decide,by rw[co8,A6];decide,fun H14 s14=>q H14⟩⟩
end
end My
namespace My
open PySem L2 Mth
theorem bn1 {P:List Value->Prop}(h:∀x0,P [x0]):∀us:List Value,us.length=1->P us
 |[_],_=>h _
theorem bn2 {P:List Value->Prop}(h:∀x0 x1,P [x0,x1]):∀us:List Value,us.length=2->P us
 |[_,_],_=>h _ _
theorem bn3 {P:List Value->Prop}(h:∀x0 x1 x2,P [x0,x1,x2]):∀us:List Value,us.length=3->P us
 |[_,_,_],_=>h _ _ _
theorem co6 {l:PySem.W.OpenLaw}{w:World}{K:PySem.W.Frag}{h:Heap}{mg:Str->Option Value}{fa f0 f1 f2 f3 f4 f5 f6 f7 f8 f9 f10 f11 f12 f13 f14 f15 f16 f17 f18 f19 f20 f21 f22 f23 f24 f25 f26 f27 f28 f29 f30:Addr}{zxy zzz zwz zzy zyz zyx zyy zxx zx zxz zw:Addr}{tk0:Tok}(X:K.In h)(G:h.Ns mainGlobals mg)(hfa:mg "law"=some (.ref fa))
   (u0:Fu K "is_whole" ae4 f0)
   (u1:Fu K "greatest_part" T3 f1)
   (u2:Fu K "walk_ring" ab5 f2)
   (u3:Fu K "walk_rings" Z3 f3)
   (u4:Fu K "send_along" Z4 f4)
   (u5:Fu K "is_turn" V7 f5)
   (u6:Fu K "must_be_turn" L6 f6)
   (u7:Fu K "rounds_of" O8 f7)
   (u8:Fu K "kind_of" V8 f8)
   (u9:Fu K "home_of" V9 f9)
   (u10:Fu K "are_filled_lists" D9 f10)
   (u11:Fu K "things_in" O9 f11)
   (u12:Fu K "from_rounds" M8 f12)
   (u13:Fu K "_law_pool" ae5 f13)
   (u14:Fu K "_law_take" ae6 f14)
   (u15:Fu K "_law_mixed_up" U3 f15)
   (u16:Fu K "_law_by_lengths" Q5 f16)
   (u17:Fu K "_law_lengths" W4 f17)
   (u18:Fu K "_law_turn" ae7 f18)
   (u19:Fu K "_law_odd" ah6 f19)
   (u20:Fu K "_law_is_turn" W5 f20)
   (u21:Fu K "_law_spoilt" Z5 f21)
   (u22:Fu K "_law_rounds" Z6 f22)
   (u23:Fu K "_law_told_rounds" N9 f23)
   (u24:Fu K "_law_is" an0 f24)
   (u25:Fu K "_law_bad_rounds" Q6 f25)
   (u26:Fu K "_law_due" ah7 f26)
   (u27:Fu K "_law_right" ab6 f27)
   (u28:Fu K "_law_copy" X7 f28)
   (u29:Fu K "_law_refused" W6 f29)
   (u30:Fu K "law" ak1 f30)
   (m0:PySem.W.nsIn K mainGlobals "MOST_THINGS"=some (some (.int 40 tk0)))
   (zz:Fre K ["len","isinstance","int","bool","list","range","sum","min","max","enumerate","zip","sorted","tuple","str","repr","all","any","set","dict","ValueError"])
   (uT:PySem.W.nsIn K mainGlobals "TurnError"=some (some (.ref zxy)))
   (uTb:PySem.W.mroIn K zxy (.type "BaseException")=some true)
   (uTc:PySem.W.isClsIn K zxy=true)
   (uTt:PySem.W.typeIn K (.ref zxy)=some (.type "type"))
   (uG:PySem.W.specialIn K (.builtin "object.__class__") "__get__"=some (some (.builtin "getset_descriptor.__get__")))
   (uK:PySem.W.takesIn K (.builtin "object.__class__")=some true)
   (uC:as3 K zxy [(("NoTurn":Str),zzz),(("NoFit":Str),zwz),(("NoRounds":Str),zzy),(("NoNumber":Str),zyz),(("NoRoot":Str),zyx),(("TooMany":Str),zyy),(("NoKind":Str),zxx),(("NoText":Str),zx),(("NoName":Str),zxz),(("NoRow":Str),zw)])
   (uP:as4 K [(("NoTurn":Str),zzz),(("NoFit":Str),zwz),(("NoRounds":Str),zzy),(("NoNumber":Str),zyz),(("NoRoot":Str),zyx),(("TooMany":Str),zyy),(("NoKind":Str),zxx),(("NoText":Str),zx),(("NoName":Str),zxz),(("NoRow":Str),zw)] 0 [(("NoTurn":Str),zzz),(("NoFit":Str),zwz),(("NoRounds":Str),zzy),(("NoNumber":Str),zyz),(("NoRoot":Str),zyx),(("TooMany":Str),zyy),(("NoKind":Str),zxx),(("NoText":Str),zx),(("NoName":Str),zxz),(("NoRow":Str),zw)])
   :∃fd:FuncData,(∀(s:Shared) (v:Value),BindsTo s fd ⟨[v],[]⟩ [("script",v)])/\∀base:Heap,K.In base->base.Ns mainGlobals mg->q9 l.prog w K mg base C3 8 fa fd ["script"] (bl1 K):=by
 obtain ⟨d0,a0,F0⟩:=u0;obtain ⟨d1,a1,F1⟩:=u1;obtain ⟨d2,a2,F2⟩:=u2;obtain ⟨d3,a3,F3⟩:=u3;obtain ⟨d4,a4,F4⟩:=u4;obtain ⟨d5,a5,F5⟩:=u5;obtain ⟨d6,a6,F6⟩:=u6;obtain ⟨d7,a7,F7⟩:=u7;obtain ⟨d8,a8,F8⟩:=u8;obtain ⟨d9,a9,F9⟩:=u9;obtain ⟨d10,a10,F10⟩:=u10;obtain ⟨d11,a11,F11⟩:=u11;obtain ⟨d12,a12,F12⟩:=u12;obtain ⟨d13,a13,F13⟩:=u13;obtain ⟨d14,a14,F14⟩:=u14;obtain ⟨d15,a15,F15⟩:=u15;obtain ⟨d16,a16,F16⟩:=u16;obtain ⟨d17,a17,F17⟩:=u17;obtain ⟨d18,a18,F18⟩:=u18;obtain ⟨d19,a19,F19⟩:=u19;obtain ⟨d20,a20,F20⟩:=u20;obtain ⟨d21,a21,F21⟩:=u21;obtain ⟨d22,a22,F22⟩:=u22;obtain ⟨d23,a23,F23⟩:=u23;obtain ⟨d24,a24,F24⟩:=u24;obtain ⟨d25,a25,F25⟩:=u25;obtain ⟨d26,a26,F26⟩:=u26;obtain ⟨d27,a27,F27⟩:=u27;obtain ⟨d28,a28,F28⟩:=u28;obtain ⟨d29,a29,F29⟩:=u29;obtain ⟨d30,a30,F30⟩:=u30;have e:=hfa.symm.trans (PySem.W.mg_of X G a30);cases e;obtain ⟨z0,z1,z2,z3,z4,z5,z6,z7,z8,z9,z10,z11,z12,z13,z14,z15,z16,z17,z18,z19,_⟩:=zz;have zn {y:Str} (z:PySem.W.nsIn K mainGlobals y=some none):=PySem.W.mg_none_of X G z;have B:Bl mg:=⟨zn z0,zn z1,zn z2,zn z3,zn z4,zn z5,zn z6,zn z7,zn z8,zn z9,zn z10,zn z11,zn z12,zn z13,zn z14,zn z15,zn z16,zn z17,zn z18,zn z19⟩;have mt:∃t,mg "MOST_THINGS"=some (.int 40 t):=⟨_,PySem.W.mg_of X G m0⟩;have ER:ab9 K mg zxy [(("NoTurn":Str),zzz),(("NoFit":Str),zwz),(("NoRounds":Str),zzy),(("NoNumber":Str),zyz),(("NoRoot":Str),zyx),(("TooMany":Str),zyy),(("NoKind":Str),zxx),(("NoText":Str),zx),(("NoName":Str),zxz),(("NoRow":Str),zw)]:=bq9 X G uT uTb uTc uTt uG uK uC uP (show (["NoTurn","NoFit","NoRounds","NoNumber","NoRoot","TooMany","NoKind","NoText","NoName","NoRow"]:List Str).Nodup by decide+kernel)
 have ES:∀p∈[(("NoTurn":Str),zzz),(("NoFit":Str),zwz),(("NoRounds":Str),zzy),(("NoNumber":Str),zyz),(("NoRoot":Str),zyx),(("TooMany":Str),zyy),(("NoKind":Str),zxx),(("NoText":Str),zx),(("NoName":Str),zxz),(("NoRow":Str),zw)],bv9 K p.2:=fun p hp=>⟨(uC.get p hp).s,(uC.get p hp).b⟩
 have zmz:Z1 K mg "NoTurn" zzz:=ER.err ("NoTurn",zzz) (by simp);have e_NoFit:Z1 K mg "NoFit" zwz:=ER.err ("NoFit",zwz) (by simp);have zsx:Z1 K mg "NoRounds" zzy:=ER.err ("NoRounds",zzy) (by simp);have e_NoNumber:Z1 K mg "NoNumber" zyz:=ER.err ("NoNumber",zyz) (by simp);have e_NoRoot:Z1 K mg "NoRoot" zyx:=ER.err ("NoRoot",zyx) (by simp);have e_TooMany:Z1 K mg "TooMany" zyy:=ER.err ("TooMany",zyy) (by simp);have e_NoKind:Z1 K mg "NoKind" zxx:=ER.err ("NoKind",zxx) (by simp);have e_NoText:Z1 K mg "NoText" zx:=ER.err ("NoText",zx) (by simp);have e_NoName:Z1 K mg "NoName" zxz:=ER.err ("NoName",zxz) (by simp);have e_NoRow:Z1 K mg "NoRow" zw:=ER.err ("NoRow",zw) (by simp)
 have b0:=F0.binds (ps:=["thing"]) fun _ _ _ _ _ _=>bn1 fun _=>rfl
 have b1:=F1.binds (ps:=["a","b"]) fun _ _ _ _ _ _=>bn2 fun _ _=>rfl
 have b2:=F2.binds (ps:=["p","first"]) fun _ _ _ _ _ _=>bn2 fun _ _=>rfl
 have b3:=F3.binds (ps:=["p"]) fun _ _ _ _ _ _=>bn1 fun _=>rfl
 have b4:=F4.binds (ps:=["target","ring","steps"]) fun _ _ _ _ _ _=>bn3 fun _ _ _=>rfl
 have b5:=F5.binds (ps:=["thing"]) fun _ _ _ _ _ _=>bn1 fun _=>rfl
 have b6:=F6.binds (ps:=["thing"]) fun _ _ _ _ _ _=>bn1 fun _=>rfl
 have b7:=F7.binds (ps:=["p"]) fun _ _ _ _ _ _=>bn1 fun _=>rfl
 have b8:=F8.binds (ps:=["p"]) fun _ _ _ _ _ _=>bn1 fun _=>rfl
 have b9:=F9.binds (ps:=["p"]) fun _ _ _ _ _ _=>bn1 fun _=>rfl
 have b10:=F10.binds (ps:=["rounds"]) fun _ _ _ _ _ _=>bn1 fun _=>rfl
 have b11:=F11.binds (ps:=["rounds"]) fun _ _ _ _ _ _=>bn1 fun _=>rfl
 have b12:=F12.binds (ps:=["rounds"]) fun _ _ _ _ _ _=>bn1 fun _=>rfl
 have b13:=F13.binds (ps:=["script","k"]) fun _ _ _ _ _ _=>bn2 fun _ _=>rfl
 have b14:=F14.binds (ps:=["pool","many"]) fun _ _ _ _ _ _=>bn2 fun _ _=>rfl
 have b15:=F15.binds (ps:=["pool","things"]) fun _ _ _ _ _ _=>bn2 fun _ _=>rfl
 have b16:=F16.binds (ps:=["pool","lengths"]) fun _ _ _ _ _ _=>bn2 fun _ _=>rfl
 have b17:=F17.binds (ps:=["pool","many"]) fun _ _ _ _ _ _=>bn2 fun _ _=>rfl
 have b18:=F18.binds (ps:=["pool","most"]) fun _ _ _ _ _ _=>bn2 fun _ _=>rfl
 have b19:=F19.binds (ps:=["pool","p","at"]) fun _ _ _ _ _ _=>bn3 fun _ _ _=>rfl
 have b20:=F20.binds (ps:=["thing"]) fun _ _ _ _ _ _=>bn1 fun _=>rfl
 have b21:=F21.binds (ps:=["pool","p"]) fun _ _ _ _ _ _=>bn2 fun _ _=>rfl
 have b22:=F22.binds (ps:=["p"]) fun _ _ _ _ _ _=>bn1 fun _=>rfl
 have b23:=F23.binds (ps:=["pool","p"]) fun _ _ _ _ _ _=>bn2 fun _ _=>rfl
 have b24:=F24.binds (ps:=["caught","due"]) fun _ _ _ _ _ _=>bn2 fun _ _=>rfl
 have b25:=F25.binds (ps:=["pool","rounds"]) fun _ _ _ _ _ _=>bn2 fun _ _=>rfl
 have b26:=F26.binds (ps:=["rounds"]) fun _ _ _ _ _ _=>bn1 fun _=>rfl
 have b27:=F27.binds (ps:=["rounds"]) fun _ _ _ _ _ _=>bn1 fun _=>rfl
 have b28:=F28.binds (ps:=["thing"]) fun _ _ _ _ _ _=>bn1 fun _=>rfl
 have b29:=F29.binds (ps:=["way","handed"]) fun _ _ _ _ _ _=>bn2 fun _ _=>rfl
 obtain ⟨oc,od,kV,dc,pm,an,cd,ct,sl,rfl,lk,hcd⟩:=id F30.ex;refine ⟨PySem.W.fnOf "law" "law" (Y0 ak1) (R3 ak1) (m6 ak1) .none kV dc pm an cd ct,fun s v=> .of_eq rfl,fun base _ _=> ?_⟩;have zsy:A2 l.prog w K mg base "is_whole" 1 ["thing"] (ak2 K):=A9 X G a0 F0 b0 (bw0 F0 B);have zq:A2 l.prog w K mg base "greatest_part" 1 ["a","b"] bk1:=A9 X G a1 F1 b1 (cg7 F1);have zhy:A2 l.prog w K mg base "walk_ring" 1 ["p","first"] bb1:=A9 X G a2 F2 b2 (cc2 F2);have znz:A2 l.prog w K mg base "walk_rings" 2 ["p"] I0:=A9 X G a3 F3 b3 (bw3 F3 B zhy);have zny:A2 l.prog w K mg base "send_along" 1 ["target","ring","steps"] bb2:=A9 X G a4 F4 b4 (cc3 F4 B);have zwx:A2 l.prog w K mg base "is_turn" 2 ["thing"] (ae3 U4 (ak3 K)):=A9 X G a5 F5 b5 (bj6 (br0 F5 B mt zsy) (bk2 F5 B mt zsy));have zly:N2 l.prog w K mg base "must_be_turn" 3 ["thing"] (fun vs H Q E=>ah8 vs H Q E\/(E8 K zzz) vs H Q E):=ac0 X G a6 F6 b6 (q9.or (q9.lift (bg9 F6 (aa6 zwx))) (an4 F6 zwx zmz));have zu:A2 l.prog w K mg base "must_be_turn" 3 ["thing"] ah8:=A9 X G a6 F6 b6 (bg9 F6 (aa6 zwx));have znx:N2 l.prog w K mg base "rounds_of" 4 ["p"] (fun vs H Q E=>I0 vs H Q E\/(E8 K zzz) vs H Q E):=ac0 X G a7 F7 b7 (q9.or (q9.lift (al5 F7 zu znz)) (aw8 F7 zly));have zvx:A2 l.prog w K mg base "rounds_of" 4 ["p"] I0:=A9 X G a7 F7 b7 (al5 F7 zu znz);have zlx:N2 l.prog w K mg base "kind_of" 5 ["p"] (fun vs H Q E=>ac4 vs H Q E\/(E8 K zzz) vs H Q E):=ac0 X G a8 F8 b8 (q9.or (q9.lift (bh0 F8 B B.sorted zvx)) (bf1 F8 B znx));have zt:A2 l.prog w K mg base "kind_of" 5 ["p"] ac4:=A9 X G a8 F8 b8 (bh0 F8 B B.sorted zvx);have cx_home_of:N2 l.prog w K mg base "home_of" 6 ["p"] (fun vs H Q E=>aq5 vs H Q E\/(E8 K zzz) vs H Q E):=ac0 X G a9 F9 b9 (q9.or (q9.lift (bh1 F9 zt zq)) (bf3 F9 zlx));have zj:A2 l.prog w K mg base "home_of" 6 ["p"] aq5:=A9 X G a9 F9 b9 (bh1 F9 zt zq);have zwy:A2 l.prog w K mg base "are_filled_lists" 1 ["rounds"] (ae3 ae9 ai5):=A9 X G a10 F10 b10 (bj6 (br3 F10 B) (af9 F10 B));have zuy:A2 l.prog w K mg base "things_in" 1 ["rounds"] (ae3 af0 ai6):=A9 X G a11 F11 b11 (bj6 (br4 F11) (bd0 F11));have zkx:N2 l.prog w K mg base "from_rounds" 3 ["rounds"] (fun vs H Q E=>aq7 vs H Q E\/(as9 zzy) vs H Q E):=ac0 X G a12 F12 b12 (q9.or (q9.lift (bh2 F12 (aa6 zwy) (aa6 zuy) (aa6 zwx) zny)) (ar0 F12 zwy zuy zwx zsx));have zpx:A2 l.prog w K mg base "from_rounds" 3 ["rounds"] aq7:=A9 X G a12 F12 b12 (bh2 F12 (aa6 zwy) (aa6 zuy) (aa6 zwx) zny);have zpz:A2 l.prog w K mg base "_law_pool" 1 ["script","k"] (ba8 K):=A9 X G a13 F13 b13 (cb9 F13 B);have zzx:A2 l.prog w K mg base "_law_take" 1 ["pool","many"] Q0:=A9 X G a14 F14 b14 (cc0 F14);have zvz:A2 l.prog w K mg base "_law_mixed_up" 2 ["pool","things"] (ac3 K):=A9 X G a15 F15 b15 (bw1 F15 B zzx);have zmy:A2 l.prog w K mg base "_law_by_lengths" 3 ["pool","lengths"] as6:=A9 X G a16 F16 b16 (bw2 F16 B zvz);have ziz:A2 l.prog w K mg base "_law_lengths" 2 ["pool","many"] ah9:=A9 X G a17 F17 b17 (bj9 F17 B zzx);have zpy:A2 l.prog w K mg base "_law_turn" 4 ["pool","most"] bb0:=A9 X G a18 F18 b18 (cc1 F18 B zzx zvz zmy ziz)
 have zrx:A2 l.prog w K mg base "_law_odd" 2 ["pool","p","at"] (bk9 K):=A9 X G a19 F19 b19 (bl0 F19 B zzx);have ztx:A2 l.prog w K mg base "_law_is_turn" 1 ["thing"] (bk8 K):=A9 X G a20 F20 b20 (as8 F20 B);have zry:A2 l.prog w K mg base "_law_spoilt" 3 ["pool","p"] (an6 K):=A9 X G a21 F21 b21 (ax1 F21 B zzx zrx);have zrz:A2 l.prog w K mg base "_law_rounds" 1 ["p"] I0:=A9 X G a22 F22 b22 (bb4 F22 B);have zuz:A2 l.prog w K mg base "_law_told_rounds" 3 ["pool","p"] bd1:=A9 X G a23 F23 b23 (ai7 F23 B zvz zrz zzx);have zty:A2 l.prog w K mg base "_law_is" 1 ["caught","due"] (ar3 zzz zzy):=A9 X G a24 F24 b24 (bs9 F24 B ER);have zux:A2 l.prog w K mg base "_law_bad_rounds" 2 ["pool","rounds"] bd5:=A9 X G a25 F25 b25 (ak6 F25 B zzx);have zoz:A2 l.prog w K mg base "_law_due" 1 ["rounds"] bl3:=A9 X G a26 F26 b26 (bl4 F26 B);have zv:A2 l.prog w K mg base "_law_right" 4 ["rounds"] aj2:=A9 X G a27 F27 b27 (bd7 F27 B zkx zoz zty ER);have ztz:A2 l.prog w K mg base "_law_copy" 3 ["thing"] (ai0 2):=A9 X G a28 F28 b28 (ai1 F28 B (A9 X G a28 F28 b28 (ai1 F28 B (A9 X G a28 F28 b28 (be8 F28 B)))));have zsz:A2 l.prog w K mg base "_law_refused" 7 ["way","handed"] (at3 K):=A9 X G a29 F29 b29 (at4 F29 B ztz znx zlx cx_home_of zty ER);exact ci2 F30 B zpz zpy zuz zux zv zzx zry ztx zsz ER ES
theorem co7 {l:PySem.W.OpenLaw}{q:Program}{loose:List Str}{XP:(Str->Option Value)->Heap->Prop}{YP:World->Heap->Prop}{d:DefRec}{K:Params->PySem.W.Frag}(hn:l.most=some 63)(hdf:d.params.defaults=[])
   (hY:∀(w:World) (h:Heap),YP w h->(K w.params).In h)
   (F:∀(w:World) (mg:Str->Option Value) (fa:Addr) (h:Heap),(K w.params).In h->h.Ns mainGlobals mg->mg d.name=some (.ref fa)->
     ∃fd:FuncData,(∀(s:Shared) (u:Value),BindsTo s fd ⟨[u],[]⟩ [("script",u)])/\∀base:Heap,(K w.params).In base->base.Ns mainGlobals mg->q9 l.prog w (K w.params) mg base C3 8 fa fd ["script"] (bl1 (K w.params))):
   PySem.W.WalkO q loose XP YP l.row.toRowW d [] (fun f vs=>PySem.call f vs):=
 L2.cn5 (n:=63) (k:=8) (x:="script") (CX:=fun _=>C3) (sp:=fun w=>bl1 (K w.params)) hn (by decide) hdf ⟨rfl,by decide,by decide,rfl⟩ hY F (fun _ _ a ns hl _ hS=>⟨a,ns,rfl,hS,hl,fun _=>rfl⟩) fun _ _ _ _ _ z=>z
end My
end
def PySem.W.Fast.tw816677731315545179 : Unit := ()
def PySem.W.Fast.tw12526121528646813566 : Unit := ()
def PySem.W.Fast.tw12091917086356519948 : Unit := ()
def PySem.W.Fast.tw14246713907900848673 : Unit := ()
def PySem.W.Fast.tw7205958902343358495 : Unit := ()
def PySem.W.Fast.tw18425585024225460228 : Unit := ()
def PySem.W.Fast.tw6894431790150322224 : Unit := ()
def PySem.W.Fast.tw5176751769353897999 : Unit := ()
def PySem.W.Fast.tw3951469973344468842 : Unit := ()
def PySem.W.Fast.tw7044428718439528409 : Unit := ()
def PySem.W.Fast.tw11633579645795463207 : Unit := ()
def PySem.W.Fast.tw15206419830194813423 : Unit := ()
def PySem.W.Fast.tw3342275492769834901 : Unit := ()
def PySem.W.Fast.tw4752389641304472397 : Unit := ()
def PySem.W.Fast.tw2358109264707231375 : Unit := ()
abbrev PySem.W.Fast.tw5411435560841688409:PySem.Program:=PySem.Challenge.pw_turnroots_k10_no_rounds
theorem PySem.W.Fast.te5411435560841688409:PySem.Challenge.pw_turnroots_k10_no_rounds=PySem.W.Fast.tw5411435560841688409:=rfl
abbrev PySem.W.Fast.tw90343872475197607:Type:=PySem.Params
theorem PySem.W.Fast.te90343872475197607:PySem.Params=PySem.W.Fast.tw90343872475197607:=rfl
open PySem PySem.W PyProof.Rows L2
set_option maxRecDepth 100000 in
set_option maxHeartbeats 0 in
theorem PySem.Challenge.cw_turnroots_k10_no_rounds_holds : PySem.Challenge.rw_turnroots_k10_no_rounds.Holds := by
  w_on; o_law; k_head; (case hw => w_witness2)
  k_fill
  refine My.co7 (l := PySem.Challenge.rw_turnroots_k10_no_rounds) rfl rfl (fun w h Y => PySem.W.kIn_of Y) ?F
  case F =>
    intro w mg fa h KX G hmg
    refine' My.co6 KX G hmg ?_ ?_ ?_ ?_ ?_ ?_ ?_ ?_ ?_ ?_ ?_ ?_ ?_ ?_ ?_ ?_ ?_ ?_ ?_ ?_ ?_ ?_ ?_ ?_ ?_ ?_ ?_ ?_ ?_ ?_ ?_ ?_ ?_ ?_ ?_ ?_ ?_ ?_ ?_ ?_ ?_
    all_goals first
      | k_is
      | (refine' ck3 ?a ?l ?c ?k; (case a => k_is); (case l => k_is); (case c => k_is); (case k => k_is))
      | ((repeat (refine' And.intro (ClF.mk ?n ?e ?g ?h ?c ?b ?o ?i ?t ?u ?v ?s) ?_; (case n => k_is); (case e => k_exc); (case g => k_is); (case h => k_is); (case c => k_is); (case b => k_is); (case o => k_is); (case i => k_is); (case t => k_is); (case u => k_is); (case v => k_is); (case s => k_is))); exact trivial)
      | ((repeat (refine' And.intro ?n ?_; (case n => k_is))); exact trivial)
      | ((repeat (refine' And.intro ?zp ?_; (case zp => ((repeat (refine' And.intro ?n ?_; (case n => k_is))); exact trivial)))); exact trivial)
      | skip
#print axioms PySem.Challenge.cw_turnroots_k10_no_rounds_holds
