import PyProof.Rows.All
import Wide.All
import OpenK.AllK
import Wide.FinOn
import Lean
import PyProof.EqAt
import PyProof.EqKinds
import PyProof.TupleCall
import PyProof.NeKinds
import PyProof.EnumMake
import PyProof.Rows.SeqMore2
import PyProof.ZipIter
import PyProof.Rows.SortRev
import PyProof.Rows.SortWalk
import PyProof.Rows.CallKwBuiltin
import PyProof.DictIter
import PyProof.DictWalks
import PyProof.MeetsDict
import PyProof.Conv_int_bool
import PyProof.EqAt
import PyProof.CollectWalk
import PyProof.Rows.SortShell
import PyProof.Rows.Range3
import PyProof.CallFns
import PyProof.StrBlockH
import PySem.Challenge.RW_turnroots_k31_powers_of_one
open List renaming length_map→ck5, getElem?_eq_getElem→ck6, getElem?_eq_some_iff→ck7, size_toArray→ck9, getElem?_map→cl0, mem_cons_of_mem→cl1, length_append→cl2, mem_cons_self→cl4, getElem?_eq_none→cl5, map_append→cl6, length_take→cl8, mem_of_getElem?→cl9, mem_append_right→cm0, mem_append→cm1, append_assoc→cm2, mem_iff_getElem?→cm3, nodup_iff_pairwise_ne→cm4, mem_map→cm8, length_cons→cm9, pairwise_iff_getElem→cn0, map_congr_left→cn6, getElem?_take_of_lt→cn9, mem_cons→co0, mem_singleton→co1, mem_range→co2, length_drop→co5, lookup_cons→co6, getD_eq_getElem?_getD→co9, append_nil→cp1, map_map→cp2, take_length→cp3, range→cp4, ext_getElem?→cp5, getElem?_append_right→cp6, getElem?_append_left→cp8, map_cons→cp9, take_append_drop→cq0, filterMap_cons→cq3, nodup_cons→cq5, perm_append_comm→cq9, mem_of_mem_take→cr0, pairwise_map→cr1, all_eq_true→cr3, getElem_mem→cr4, drop_eq_nil_of_le→cr5, length_range→cr8, drop_eq_getElem_cons→cr9, mem_append_left→cs1, getElem?_range→cs2, flatten_append→cs3, reverse_append→cs5, mem_reverse→cs6, pairwise_singleton→cs7, getElem?_set_self→cs8, find?_cons→cs9, range_succ→ct0, flatten_singleton→ct1, take_of_length_le→ct2, length_singleton→ct3, getElem?_set_ne→ct6, mem_flatten→ct9, length_reverse→cu0, map_id→cu1, getElem?_drop→cu3, nodup_nil→cu5, length→cu8, length_replicate→cu9, getElem?_reverse→cv6, eq_nil_of_length_eq_zero→cv7, drop_append_of_le_length→cw0, mem_filterMap→cw4, any_cons→cw7, extract_eq_take_drop→cx2, getElem?_replicate→cx5, map_nil→cx6, of_mem_zip→cx7, length_set→cx8, drop_zero→cy1
open Nat renaming le_refl→ck8, lt_of_lt_of_le→cm5, ne_of_lt→cm7, le_trans→cn2, zero_le→cn3, le_of_lt→cn8, lt_of_le_of_lt→cp0, add_le_add_left→cq6, lt_irrefl→cq8, zero_add→ct4, add_zero→ct5, eq_zero_of_dvd_of_lt→cu2, lt_or_ge→cu4, lt_trichotomy→cu7, le_succ→cv0, le_of_eq→cw1, add_comm→cw2, lt_or_eq_of_le→cw5, lt_succ_of_lt→cw9, gcd→cx1, min_eq_left→cy0
open Array renaming length_toList→cl3, toList_append→cm6, getElem?_toList→cn4, toList→co3, perm_iff_toList_perm→cq7, toList_push→cs0, toList_reverse→ct8, toList_map→cx4
open Bool renaming false_ne_true→cl7, and_eq_true→cp7, false_eq_true→cq1, eq_iff_iff→cq4, or_eq_true→cv9
open Int renaming emod_nonneg→cn1, dvd_of_emod_eq_zero→cn5, emod_eq_emod_iff_emod_sub_eq_zero→cn7, emod_lt_of_pos→co4, eq_ofNat_of_zero_le→co7, natCast_dvd_natCast→co8, emod_eq_zero_of_dvd→cq2, toNat_of_nonneg→cr2, toNat_natCast→cr7, natCast_emod→cs4, emod_emod_of_dvd→ct7, dvd_natAbs→cu6, dvd_self_sub_emod→cv5, toNat→cv8, dvd_refl→cw3, fdiv_eq_ediv_of_nonneg→cw6, mul_assoc→cx0, natCast_mul→cx9
open Option renaming map_eq_some_iff→cr6, isSome_map→cw8, isSome_iff_exists→cx3
set_option Elab.async false
set_option linter.all false
set_option maxRecDepth 100000
set_option maxHeartbeats 8000000
section
local macro_rules|`(tactic|omega)=>`(tactic|lia)
local macro_rules|`(tactic|trivial)=>`(tactic|first|exact .inl rfl|exact .inr rfl|assumption)
local macro_rules|`(tactic|rfl')=>`(tactic|exact ⟨rfl,rfl,rfl,by decide+kernel,rfl,by decide+kernel,by decide+kernel⟩)
namespace L2
open PySem PySem.Spec PyProof.Rows
abbrev x4:=Sum Int Str
def ae9:x4->Value->Bool
 | .inl k,v=>Value.isInt k v
 | .inr x,v=>Value.isStrOf x v
def cg4 (w:World):x4->Int
 | .inl k=>hashInt k
 | .inr x=>hashStr w x
theorem C8:∀{k:x4} {v:Value},ae9 k v=true->(∃i t,k=Sum.inl i/\v=Value.int i t)\/(∃x t,k=Sum.inr x/\v=Value.str x t)
 | .inl i,v,h=>by
   obtain ⟨t,e⟩:=Value.isInt_shape (k:=i) (v:=v) h;exact .inl ⟨i,t,rfl,e⟩
 | .inr x,v,h=>by
   obtain ⟨t,e⟩:=Value.isStrOf_shape (x:=x) (v:=v) h;exact .inr ⟨x,t,rfl,e⟩
theorem bh2 (i:Int)(t:Tok):ae9 (.inl i) (.int i t)=true:=by simp [ae9,Value.isInt]
theorem bh3 (x:Str)(t:Tok):ae9 (.inr x) (.str x t)=true:=by simp [ae9,Value.isStrOf]
theorem by4 (a b:Int):decide ((Sum.inl a:x4)=Sum.inl b)=(a==b):=by
 by_cases e:a=b
 · subst e;simp
 · have h:¬(Sum.inl a:x4)=Sum.inl b:=fun q=>e (Sum.inl.inj q)
   rw[decide_eq_false h];exact (beq_eq_false_iff_ne.mpr e).symm
theorem by5 (a b:Str):decide ((Sum.inr a:x4)=Sum.inr b)=decide (a=b):=by
 by_cases e:a=b
 · subst e;simp
 · have h:¬(Sum.inr a:x4)=Sum.inr b:=fun q=>e (Sum.inr.inj q)
   rw[decide_eq_false h,decide_eq_false e]
theorem by6 (a:Int)(b:Str):decide ((Sum.inl a:x4)=Sum.inr b)=false:=decide_eq_false (fun q=>nomatch q)
theorem by7 (a:Str)(b:Int):decide ((Sum.inr a:x4)=Sum.inl b)=false:=decide_eq_false (fun q=>nomatch q)
def D7 (prog:Program)(w:World):PySem.KeyKind prog w x4 where
 is:=ae9
 hash:=cg4 w
 inj:=fun v a b ha hb=>by
   rcases C8 ha with ⟨i,t,rfl,rfl⟩|⟨x,t,rfl,rfl⟩
   · rcases C8 hb with ⟨j,u,rfl,e⟩|⟨y,u,rfl,e⟩
     · injection e with e1 _;rw[e1]
     · exact nomatch e
   · rcases C8 hb with ⟨j,u,rfl,e⟩|⟨y,u,rfl,e⟩
     · exact nomatch e
     · injection e with e1 _;rw[e1]
 byValue:=fun k v h=>by
   rcases C8 h with ⟨i,t,rfl,rfl⟩|⟨x,t,rfl,rfl⟩<;>rfl
 pyHash:=fun hv h=>by
   rcases C8 hv with ⟨i,t,rfl,rfl⟩|⟨x,t,rfl,rfl⟩
   · exact wpAny_pyHash_int h
   · exact wpAny_pyHash_str h
 eqBool:=fun hu hv h=>by
   rcases C8 hu with ⟨i,t,rfl,rfl⟩|⟨x,t,rfl,rfl⟩
   · rcases C8 hv with ⟨j,u,rfl,rfl⟩|⟨y,u,rfl,rfl⟩
     · rw[by4] at h;exact wpAny_eqBool_int h
     · rw[by6] at h;exact SeqAt.EqAt.int_str i t y u _ _ _ _ h
   · rcases C8 hv with ⟨j,u,rfl,rfl⟩|⟨y,u,rfl,rfl⟩
     · rw[by7] at h;exact SeqAt.EqAt.str_int x t j u _ _ _ _ h
     · rw[by5] at h;exact wpAny_eqBool_str h
 «strs»:=fun k x t v h=>by
   rcases C8 h with ⟨i,u,rfl,e⟩|⟨y,u,rfl,e⟩
   · exact nomatch e
   · injection e with e1 _
     subst e1
     cases v<;>rfl
theorem az3 (prog:Program)(w:World)(i:Int)(t:Tok):(D7 prog w).is (.inl i) (.int i t)=true:=bh2 i t
theorem az4 (prog:Program)(w:World)(x:Str)(t:Tok):(D7 prog w).is (.inr x) (.str x t)=true:=bh3 x t
end L2
namespace L2
open PySem PySem.Spec PyProof.Rows
inductive V where
 |non|bl (b:Bool)|int (i:Int)|str (x:Str)|byt (b:Array UInt8)|flt (b:UInt64)|ref (a:Addr)|ty (n:String)
 deriving DecidableEq
def o8:V->Value->Prop
 | .non,u=>u=Value.none
 | .bl b,u=>u=Value.bool b
 | .int i,u=>∃t,u=Value.int i t
 | .str x,u=>∃t,u=Value.str x t
 | .byt b,u=>∃t,u=Value.bytes b t
 | .flt b,u=>∃t,u=Value.float b t
 | .ref a,u=>u=Value.ref a
 | .ty n,u=>u=Value.type n
abbrev m7:List V->List Value->Prop:=Paired o8
theorem m7.length {xs:List V}{us:List Value}(r:m7 xs us):xs.length=us.length:=Paired.length r
theorem m7.get:∀{xs:List V} {us:List Value} {i:Nat} {x:V},m7 xs us->xs[i]? =some x->∃u,us[i]? =some u/\o8 x u
 |_,_,_,_,.nil,e=>by simp at e
 |_,_,0,_,.cons r _,e=>by simp at e;subst e;exact ⟨_,rfl,r⟩
 |_,_,i+1,x,.cons _ t,e=>by
  obtain ⟨u,h1,h2⟩:=m7.get (i:=i) (x:=x) t (by simpa using e);exact ⟨u,by simpa using h1,h2⟩
theorem m7.set {x:V}{u:Value}(r:o8 x u):∀{xs:List V} {us:List Value} (i:Nat),m7 xs us->m7 (xs.set i x) (us.set i u)
 |_,_,_,.nil=> .nil
 |_,_,0,.cons _ t=> .cons r t
 |_,_,i+1,.cons q t=> .cons q (m7.set r i t)
theorem m7.append:∀{xs ys:List V} {us ws:List Value},m7 xs us->m7 ys ws->m7 (xs++ys) (us++ws)
 |_,_,_,_,.nil,s=>s
 |_,_,_,_,.cons r t,s=> .cons r (m7.append t s)
theorem m7.take:∀{xs:List V} {us:List Value} (n:Nat),m7 xs us->m7 (xs.take n) (us.take n)
 |_,_,0,_=> .nil
 |_,_,_+1,.nil=> .nil
 |_,_,n+1,.cons r t=> .cons r (m7.take n t)
theorem m7.drop:∀{xs:List V} {us:List Value} (n:Nat),m7 xs us->m7 (xs.drop n) (us.drop n)
 |_,_,0,r=>r
 |_,_,_+1,.nil=> .nil
 |_,_,n+1,.cons _ t=>m7.drop n t
def ah6:Option V->Option Value->Prop
 |some v,some u=>o8 v u
 |none,none=>True
 |_,_=>False
def KV {κ:Type}:List (κ×V)->List (κ×Value)->Prop:=Paired fun (p:κ×V) (q:κ×Value)=>p.1=q.1/\o8 p.2 q.2
def kV:x4->V
 | .inl i=> .int i
 | .inr x=> .str x
inductive HO where
 |lst (xs:List V)
 |tup (xs:List V)
 |dK (kvs:List (x4×V))|dT (kvs:List (List x4×V))
 |set (S:Int->Bool) (n:Nat)
 |ins (C dx:Addr) (fs:List (Str×V))
 |own (x:Addr)
 |xd (fs:List (Str×V))
 |met (f x:Addr)
 |rng (lo hi:Int)
 |frz (o:Obj) (u:HO)
 |tbl (ps:Array Value)
 |ext (φ:Heap->Prop)
abbrev Hp:=Addr->Option HO
def e8 (H:Hp)(a:Addr)(o:HO):Hp:=fun b=>if b=a then some o else H b
theorem c9 {H:Hp}{a:Addr}{o:HO}:e8 H a o a=some o:=by unfold e8;rw[if_pos rfl]
theorem i8 {H:Hp}{a b:Addr}{o:HO}(h:b≠a):e8 H a o b=H b:=by unfold e8;rw[if_neg h]
theorem bs3 {H:Hp}{a b:Addr}{o u:HO}(h:H a=some o)(h':H b=some u)(d:o≠u):a≠b:=by
 intro e;subst e;rw[h] at h';exact d (Option.some.inj h')
theorem j5 {H:Hp}{a b:Addr}{o:HO}(h:H a=some o)(h':H b=none):a≠b:=by
 intro e;subst e;rw[h] at h';cases h'
section
variable (P:Program) (w:World)
def t5 (H:Hp)(h:Heap)(a:Addr):HO->Prop
 | .lst xs=>xs.length<=sizeLine/\∃(its:List Value) (n:Nat),m7 xs its/\h.get? a=some {cls:= .type "list",data:= .seq its.toArray n}
 | .tup xs=>xs.length<=sizeLine/\∃its:List Value,m7 xs its/\IsTup h a its.toArray
 | .dK kvs=>kvs.length<=sizeLine/\(a==sysModules)=false/\∃vs,KV kvs vs/\h.DictOf (D7 P w) a vs
 | .dT kvs=>kvs.length<=sizeLine/\(a==sysModules)=false/\∃xs:List (List x4×Addr×Value),
     Paired (fun (p:List x4×V) (q:List x4×Addr×Value)=>p.1=q.1/\H q.2.1=some (.tup (p.1.map kV))/\o8 p.2 q.2.2) kvs xs/\
     ∃o es ep,h.get? a=some o/\o.ExactDict/\o.data= .dict es ep/\es.toList=xs.map (entryOfKey (tupleKind (D7 P w)))/\(xs.map (·.1)).Nodup
 | .set S n=>h.SetOf (intKind P w) a S n
 | .ins C dx fs=>H dx=some (.own a)/\fs.length<=1000/\dx≠a/\h.get? a=some (PySem.W.instObj C dx)/\
     ∃mA,h.Ns1 dx mA/\(∀f,ah6 (fs.lookup f) (mA f))/\PySem.Within mA (fs.map (·.1))
 | .own _=>∃o,h.get? a=some o
 | .xd fs=>∃mA,h.Ns1 a mA/\∀f,ah6 (fs.lookup f) (mA f)
 | .rng lo hi=>∃t u v,h.get? a=some {cls:= .type "range",data:= .fields #[.int lo t,.int hi u,.int 1 v]}
 | .frz o u=>h.get? a=some o/\t5 H h a u
 | .tbl ps=>h.get? a=some {cls:= .none,data:= .fields ps}
 | .met f x=>h.get? a=some (PySem.W.methodObj (.ref f) (.ref x))
 | .ext φ=>φ h/\(∃o,h.get? a=some o)/\∀h1 h2:Heap,φ h1->(∀o,h1.get? a=some o->h2.get? a=some o)->φ h2
def B9 (H:Hp)(h:Heap):Prop:=∀a o,H a=some o->t5 P w H h a o
end
section
variable {P:Program} {w:World} {H H':Hp} {h h':Heap} {a:Addr} {o:HO}
theorem t5.lt (x:t5 P w H h a o):a < h.objs.size:=by
 cases o with
 |lst xs=>obtain ⟨_,_,_,_,e⟩:=x;exact Heap.lt_size e
 |tup xs=>obtain ⟨_,_,_,p⟩:=x;exact p.lt
 |dK kvs=>obtain ⟨_,_,_,_,o,_,_,e,_⟩:=x;exact Heap.lt_size e
 |dT kvs=>obtain ⟨_,_,_,_,o,_,_,e,_⟩:=x;exact Heap.lt_size e
 |set S n=>obtain ⟨o,_,_,_,e,_⟩:=x;exact Heap.lt_size e
 |ins C dx fs=>obtain ⟨_,_,_,e,_⟩:=x;exact Heap.lt_size e
 |own y=>obtain ⟨_,e⟩:=x;exact Heap.lt_size e
 |xd fs=>obtain ⟨_,⟨_,_,_,e,_⟩,_⟩:=x;exact Heap.lt_size e
 |rng lo hi=>obtain ⟨_,_,_,e⟩:=x;exact Heap.lt_size e
 |frz ob u=>obtain ⟨e,_⟩:=x;exact Heap.lt_size e
 |tbl ps=>exact Heap.lt_size (show h.get? a=some _ from x)
 |met f y=>exact Heap.lt_size (show h.get? a=some _ from x)
 |ext φ=>obtain ⟨_,⟨_,e⟩,_⟩:=x;exact Heap.lt_size e
theorem Paired.mapP {α β:Type}{F G:α->β->Prop}:∀{l₁:List α} {l₂:List β},Paired F l₁ l₂->(∀a b,F a b->G a b)->Paired G l₁ l₂
 |_,_,.nil,_=> .nil
 |_,_,.cons r t,f=> .cons (f _ _ r) (Paired.mapP t f)
theorem t5.stay (x:t5 P w H h a o)(k:∀b u,(b=a\/H b=some (.own a))->h.get? b=some u->h'.get? b=some u)
   (ho:∀b,H b=some (.own a)->H' b=some (.own a)) (ht:∀b xs,H b=some (.tup xs)->H' b=some (.tup xs)):t5 P w H' h' a o:=by
 induction o with
 |lst xs=>obtain ⟨z,its,n,r,e⟩:=x;exact ⟨z,its,n,r,k _ _ (.inl rfl) e⟩
 |tup xs=>obtain ⟨z,its,r,ob,e,c⟩:=x;exact ⟨z,its,r,ob,k _ _ (.inl rfl) e,c⟩
 |dK kvs=>obtain ⟨z,y,vs,r,ob,es,ep,e,c⟩:=x;exact ⟨z,y,vs,r,ob,es,ep,k _ _ (.inl rfl) e,c⟩
 |dT kvs=>
  obtain ⟨z,y,xs,r,ob,es,ep,e,c⟩:=x;exact ⟨z,y,xs,Paired.mapP r fun p q z=>⟨z.1,ht _ _ z.2.1,z.2.2⟩,ob,es,ep,k _ _ (.inl rfl) e,c⟩
 |set S n=>obtain ⟨ob,es,ep,t,e,c⟩:=x;exact ⟨ob,es,ep,t,k _ _ (.inl rfl) e,c⟩
 |ins C dx fs=>
  obtain ⟨d,z,ne,e,mA,⟨od,es,ep,e2,c⟩,r⟩:=x;exact ⟨ho _ d,z,ne,k _ _ (.inl rfl) e,mA,⟨od,es,ep,k _ _ (.inr d) e2,c⟩,r⟩
 |own y=>obtain ⟨ob,e⟩:=x;exact ⟨ob,k _ _ (.inl rfl) e⟩
 |xd fs=>obtain ⟨mA,⟨od,es,ep,e,c⟩,r⟩:=x;exact ⟨mA,⟨od,es,ep,k _ _ (.inl rfl) e,c⟩,r⟩
 |rng lo hi=>obtain ⟨t,u,v,e⟩:=x;exact ⟨t,u,v,k _ _ (.inl rfl) e⟩
 |frz ob u ih=>obtain ⟨e,q⟩:=x;exact ⟨k _ _ (.inl rfl) e,ih q⟩
 |tbl ps=>
  have e:h.get? a=some {cls:= .none,data:= .fields ps}:=x;show h'.get? a=some {cls:= .none,data:= .fields ps};exact k a _ (.inl rfl) e
 |met f y=>
  have e:h.get? a=some (PySem.W.methodObj (.ref f) (.ref y)):=x;show h'.get? a=some (PySem.W.methodObj (.ref f) (.ref y));exact k a _ (.inl rfl) e
 |ext φ=>obtain ⟨p,⟨o,e⟩,st⟩:=x;exact ⟨st _ _ p fun o q=>k _ _ (.inl rfl) q,⟨o,k _ _ (.inl rfl) e⟩,st⟩
theorem B9.lt (x:B9 P w H h)(e:H a=some o):a < h.objs.size:=(x a o e).lt
theorem B9.fresh (x:B9 P w H h)(e:h.objs.size<=a):H a=none:=by
 cases q:H a with
 |none=>rfl
 |some u=>exact absurd (cm5 (x.lt q) e) (cq8 _)
theorem B9.kept (x:B9 P w H h)(k:∀b u,h.get? b=some u->h'.get? b=some u):B9 P w H h':=fun a o e=>
 (x a o e).stay (fun b u _ q=>k b u q) (fun _ q=>q) fun _ _ q=>q
theorem B9.laid (x:B9 P w H h)(k:∀b u,h.get? b=some u->h'.get? b=some u)(hp:h.objs.size<=a)(new:t5 P w (e8 H a o) h' a o):B9 P w (e8 H a o) h':=fun b u e=>by
 have hn:=x.fresh hp
 by_cases hb:b=a
 · subst hb;rw[c9] at e;cases e;exact new
 · rw[i8 hb] at e
   exact (x b u e).stay (fun c v _ q=>k c v q) (fun c q=>by rw[i8 (j5 q hn)];exact q) fun c xs q=>by rw[i8 (j5 q hn)];exact q
end
def Rd (H:Hp)(a:Addr)(u:HO):Prop:=H a=some u\/∃o,H a=some (.frz o u)
theorem Rd.ok {P:Program}{w:World}{H:Hp}{h:Heap}{a:Addr}{u:HO}(r:Rd H a u)(x:B9 P w H h):t5 P w H h a u:=by
 rcases r with r|⟨o,r⟩
 · exact x a u r
 · obtain ⟨_,q⟩:=x a _ r;exact q
def Mut:Option HO->Prop
 |some (.lst _)=>True
 |some (.dK _)=>True
 |some (.dT _)=>True
 |some (.set _ _)=>True
 |some (.ins _ _ _)=>True
 |some (.ext _)=>True
 |_=>False
section
variable {P:Program} {w:World} {H:Hp} {h h':Heap} {x e:Addr} {o':HO}
theorem B9.write (ok:B9 P w H h)(mu:Mut (H x))(he:e=x\/H e=some (.own x))(k:∀b u,b≠e->h.get? b=some u->h'.get? b=some u)(heo:∃u,h'.get? e=some u)
   (new:t5 P w (e8 H x o') h' x o'):B9 P w (e8 H x o') h':=fun b u q=>by
 have nown:∀c y,H c=some (.own y)->c≠x:=fun c y r z=>by subst z;rw[r] at mu;exact mu
 have ntup:∀c xs,H c=some (.tup xs)->c≠x:=fun c xs r z=>by subst z;rw[r] at mu;exact mu
 by_cases hb:b=x
 · subst hb;rw[c9] at q;cases q;exact new
 · rw[i8 hb] at q
   by_cases hbe:b=e
   · have q':H b=some (.own x):=by
       rcases he with z|z
       · exact absurd (hbe.trans z) hb
       · rw[hbe];exact z
     rw[q] at q';cases q';obtain ⟨v,hv⟩:=heo;exact ⟨v,by rw[hbe];exact hv⟩
   · refine (ok b u q).stay (fun c v hc r=>k c v ?_ r) (fun c r=>by rw[i8 (nown c b r)];exact r) fun c xs r=>by rw[i8 (ntup c xs r)];exact r
     rcases hc with rfl|hc
     · exact hbe
     · rintro rfl
       rcases he with z|z
       · exact nown c b hc z
       · rw[hc] at z;cases z;exact hb rfl
end
structure Un (fs ex:List Addr)(H H':Hp)(h h':Heap):Prop where
 keep:∀b o,h.get? b=some o->H b=none->b∉fs->b∉ex->h'.get? b=some o
 slot:∀b o,h.get? b=some o->H b=none->b∈fs->b∉ex->∃sl,h'.get? b=some {o with slots:=sl}
 free:∀b o,h.get? b=some o->H b=none->b∉ex->H' b=none
 there:∀b o,h.get? b=some o->b∉ex->∃o',h'.get? b=some o'
 tups:∀b xs,H b=some (.tup xs)->H' b=some (.tup xs)
 frzs:∀b o u,H b=some (.frz o u)->H' b=some (.frz o u)
 tbls:∀b ps,H b=some (.tbl ps)->∃more,H' b=some (.tbl (ps++more))
section
variable {fs fs' ex ex':List Addr} {H H1 H2:Hp} {h h1 h2 h':Heap} {a x e:Addr} {o:HO}
theorem Un.any (u:Un fs ex H H1 h h1){b:Addr}{ob:Obj}(q:h.get? b=some ob)(n:H b=none)(hx:b∉ex):∃sl,h1.get? b=some {ob with slots:=sl}:=by
 by_cases hb:b∈fs
 · exact u.slot b ob q n hb hx
 · exact ⟨ob.slots,u.keep b ob q n hb hx⟩
theorem Un.kept (k:∀b u,h.get? b=some u->h'.get? b=some u):Un fs ex H H h h':=
 ⟨fun b ob q _ _ _=>k b ob q,fun b ob q _ _ _=>⟨ob.slots,k b ob q⟩,fun _ _ _ n _=>n,fun b ob q _=>⟨ob,k b ob q⟩,fun _ _ q=>q,fun _ _ _ q=>q,fun _ ps q=>⟨#[],by rw[q];simp⟩⟩
theorem Un.refl:Un fs ex H H h h:=Un.kept fun _ _ q=>q
theorem Un.laid (k:∀b u,h.get? b=some u->h'.get? b=some u)(hp:h.objs.size<=a)(hn:H a=none):Un fs ex H (e8 H a o) h h' where
 keep:=fun b u q _ _ _=>k b u q
 slot:=fun b u q _ _ _=>⟨u.slots,k b u q⟩
 free:=fun b u q n _=>by rw[i8 (cm7 (cm5 (Heap.lt_size q) hp))];exact n
 there:=fun b u q _=>⟨u,k b u q⟩
 tups:=fun b xs q=>by rw[i8 (j5 q hn)];exact q
 frzs:=fun b u xs q=>by rw[i8 (j5 q hn)];exact q
 tbls:=fun b ps q=>⟨#[],by rw[i8 (j5 q hn),q];simp⟩
theorem Un.write (mu:Mut (H x))(he:e=x\/H e=some (.own x))(k:∀b u,b≠e->h.get? b=some u->h'.get? b=some u)(heo:∃u,h'.get? e=some u):Un fs ex H (e8 H x o) h h':=by
 have hx:∀b,H b=none->b≠x:=fun b n z=>by subst z;rw[n] at mu;exact mu
 have hb:∀b,H b=none->b≠e:=fun b n z=>by
   subst z
   rcases he with r|r
   · exact hx b n r
   · rw[n] at r;cases r
 have hm:∀b u,H b=some u->¬Mut (some u)->b≠x:=fun b u q nm z=>by subst z;rw[q] at mu;exact nm mu
 refine ⟨fun b u q n _ _=>k b u (hb b n) q,fun b u q n _ _=>⟨u.slots,k b u (hb b n) q⟩,fun b u q n _=>by rw[i8 (hx b n)];exact n,fun b u q _=> ?_,
   fun b xs q=>by rw[i8 (hm b _ q fun z=>z)];exact q,fun b u xs q=>by rw[i8 (hm b _ q fun z=>z)];exact q,fun b ps q=>⟨#[],by rw[i8 (hm b _ q fun z=>z),q];simp⟩⟩
 by_cases hbe:b=e
 · subst hbe;exact heo
 · exact ⟨u,k b u hbe q⟩
end
def trk (h:Heap)(H:Hp):List Addr:=(cp4 h.objs.size).filter fun a=>(H a).isSome
def Z8 (h:Heap)(H:Hp):Heap:=PySem.W.hideAll h (trk h H)
theorem bh5 (h:Heap)(H:Hp):(Z8 h H).objs.size=h.objs.size:=PySem.W.hideAll_size _ _
theorem bo0 {h:Heap}{H:Hp}{b:Addr}{o:Obj}(e:h.get? b=some o)(n:H b=none):(Z8 h H).get? b=some o:=
 PySem.W.hideAll_get _ e fun hm=>by
   have q:(H b).isSome=true:=(List.mem_filter.mp hm).2;rw[n] at q;simp at q
theorem bt7 {h:Heap}{H:Hp}{b:Addr}{o:Obj}(e:(Z8 h H).get? b=some o):h.get? b=some o/\H b=none:=by
 have e':h.get? b=some o:=PySem.W.of_hideAll (trk h H) e;refine ⟨e',?_⟩
 cases q:H b with
 |none=>rfl
 |some x=>
  have hm:b∈trk h H:=List.mem_filter.mpr ⟨co2.mpr (Heap.lt_size e'),by simp [q]⟩;have z:(Z8 h H).get? b=none:=PySem.W.hideAll_none (trk h H) hm;rw[z] at e;cases e
end L2
namespace L2
open PySem PySem.Spec PyProof.Rows
structure Mod (K:PySem.W.Frag)(mg:Str->Option Value)(base:Heap):Prop where
 kin:K.In base
 glob:base.Ns mainGlobals mg
 blt:∃mb,base.Ns builtinsNs mb/\∀x:Str,x≠"__name__"->mb x=bootBuiltins x
 nolimit:base.NoLimit
structure Cx where
 prog:Program
 w:World
 K:PySem.W.Frag
 mg:Str->Option Value
 base:Heap
 A:Around
 N:List Str
 s₀:Shared
 H₀:Hp
 env:Env
 outer:List Env
 stack:List Env
 ex:List Addr
 fn:Str->Bool
 calm:Bool
 pn:List (Addr×Obj)
 xe:Value->Shared->Prop
def A8 (l:List Env):List Addr:=l.filterMap (·.frame)
abbrev Cx.fs (X:Cx):List Addr:=A8 X.outer
def Vis (sc:Scope)(x:Str):Prop:=sc.names.lookup x=some .local\/sc.names.lookup x=some .cell\/sc.names.lookup x=some .free
def Loc (sc:Scope)(x:Str):Prop:=sc.names.lookup x=some .local\/sc.names.lookup x=some .cell
def cg5 (env:Env)(h:Heap)(m:Str->Option Value)(x:Str)(u:Value):Prop:=
 (env.kindOf x=some .local/\m x=some u)\/((env.kindOf x=some .cell\/env.kindOf x=some .free)/\∃c,env.cells.lookup x=some c/\h.IsCell c (some u))
structure Cx.Ok (X:Cx):Prop where
 mod:Mod X.K X.mg X.base
 kind:X.env.scope.kind= .function
 glob:X.env.globals=mainGlobals
 blt:X.env.builtins=builtinsNs
 above:X.s₀.heap.objs.size<=X.env.locals
 inj:∀x y c,X.env.cells.lookup x=some c->X.env.cells.lookup y=some c->x=y
 has:∀x,(X.env.kindOf x=some .cell\/X.env.kindOf x=some .free)->∃c,X.env.cells.lookup x=some c
 cab:∀x c,X.fn x=true->X.env.cells.lookup x=some c->X.s₀.heap.objs.size<=c
 hd:X.calm=true->X.A.handled=none
 frames:X.A.frames=some X.stack
 stk:X.stack=X.outer\/(X.stack=X.env::X.outer/\X.env.frame=some X.env.locals)
 exf:∀b∈X.ex,b≠X.env.locals/\∀x c,X.env.cells.lookup x=some c->c≠b
 bs:∀b o,X.base.get? b=some o->X.s₀.heap.get? b=some o/\X.H₀ b=none
 bsz:X.base.objs.size<=X.s₀.heap.objs.size
 noex:∀b o,X.base.get? b=some o->b∉X.ex
 exfs:∀b∈X.ex,b∉X.fs
 funs:X.s₀.heap.FunFrames X.base X.outer
 frf:∀b∈X.fs,X.H₀ b=none
structure h8 (X:Cx)(pins:List (Addr×Obj))(σ:List (Option V))(H:Hp)(s:Shared):Prop where
 ok:X.Ok
 os:s.os=X.s₀.os
 bare:AllBare s.gens
 base:Un X.fs X.ex X.H₀ H X.s₀.heap s.heap
 loc:∃m,s.heap.Ns X.env.locals m/\∀(i:Nat) (x:Str) (v:V),X.N[i]? =some x->σ[i]? =some (some v)->Vis X.env.scope x->∃u,o8 v u/\cg5 X.env s.heap m x u
 cell:∀x c,X.env.cells.lookup x=some c->∃v,s.heap.IsCell c v
 free:H X.env.locals=none
 freeC:∀x c,X.env.cells.lookup x=some c->H c=none
 pin:∀p∈X.pn++pins,s.heap.get? p.1=some p.2/\H p.1=none/\p.1≠X.env.locals/\p.1∉X.fs/\∀v,p.2.data≠.cell v
 hok:B9 X.prog X.w H s.heap
 len:σ.length=X.N.length
section
variable {X:Cx} {pins:List (Addr×Obj)} {σ:List (Option V)} {H H':Hp} {s:Shared} {h':Heap}
theorem Cx.Ok.nofr (ok:X.Ok){b:Addr}{o:Obj}(e:X.base.get? b=some o):b∉X.fs:=fun hb=>by
 have:=(ok.funs.mem hb).1;rw[e] at this;cases this
theorem h8.bs (I:h8 X pins σ H s):∀b o,X.base.get? b=some o->s.heap.get? b=some o/\H b=none:=fun b o e=>
 ⟨I.base.keep b o (I.ok.bs b o e).1 (I.ok.bs b o e).2 (I.ok.nofr e) (I.ok.noex b o e),I.base.free b o (I.ok.bs b o e).1 (I.ok.bs b o e).2 (I.ok.noex b o e)⟩
theorem h8.bk (I:h8 X pins σ H s):∀b o,X.base.get? b=some o->s.heap.get? b=some o:=fun b o e=>(I.bs b o e).1
theorem h8.mod (I:h8 X pins σ H s):Mod X.K X.mg X.base:=I.ok.mod
theorem h8.kIn (I:h8 X pins σ H s):X.K.In s.heap:=I.ok.mod.kin.keeps I.bk
theorem h8.lt (I:h8 X pins σ H s):X.env.locals < s.heap.objs.size:=let ⟨_,hn,_⟩:=I.loc;hn.lt
theorem h8.sz (I:h8 X pins σ H s):X.s₀.heap.objs.size<=s.heap.objs.size:=cn2 I.ok.above (cn8 I.lt)
theorem h8.nofs (I:h8 X pins σ H s){a:Addr}(h:s.heap.objs.size<=a):a∉X.fs:=fun hb=>by
 obtain ⟨_,o,ho,_⟩:=I.ok.funs.mem hb;exact absurd (cm5 (Heap.lt_size ho) (cn2 I.sz h)) (cq8 _)
theorem h8.cne (I:h8 X pins σ H s):∀x c,X.env.cells.lookup x=some c->c≠X.env.locals:=fun x c e z=>by
 obtain ⟨v,o,ho,hd⟩:=I.cell x c e;obtain ⟨m,⟨o',es,ep,ho',hd',_⟩,_⟩:=I.loc;rw[z,ho'] at ho;cases ho;rw[hd'] at hd;cases hd
theorem h8.funs (I:h8 X pins σ H s):s.heap.FunFrames X.base X.outer:=by
 have all:∀(l:List Env),(∀b∈A8 l,b∈X.fs)->X.s₀.heap.FunFrames X.base l->s.heap.FunFrames X.base l:=by
   intro l
   induction l with
   |nil=>intro _ _;trivial
   |cons env r ih=>
    intro hs hl;obtain ⟨hk,⟨L,o,hf,hn,ho,hd⟩,hr⟩:=hl;have hL:L∈X.fs:=hs L (by unfold A8;rw[cq3,hf];exact cl4)
    obtain ⟨sl,e⟩:=I.base.slot L o ho (I.ok.frf L hL) hL fun z=>I.ok.exfs L z hL
    exact ⟨hk,⟨L,_,hf,hn,e,hd⟩,ih (fun b hb=>hs b (by unfold A8;rw[cq3,hf];exact cl1 _ hb)) hr⟩
 exact all X.outer (fun _ hb=>hb) I.ok.funs
theorem h8.stack (I:h8 X pins σ H s):s.heap.FunFrames X.base X.stack:=by
 rcases I.ok.stk with e|⟨e,hf⟩
 · rw[e];exact I.funs
 · rw[e];obtain ⟨m,hn,_⟩:=I.loc;refine .cons (by rw[I.ok.kind];decide) hf hn ?_ I.funs;exact Heap.get?_none_of_le (cn2 I.ok.bsz I.ok.above)
theorem h8.stkSub (I:h8 X pins σ H s):∀b∈A8 X.stack,b∈X.env.locals::X.fs:=fun b hb=>by
 rcases I.ok.stk with e|⟨e,hf⟩
 · rw[e] at hb;exact cl1 _ hb
 · rw[e] at hb;unfold A8 at hb;rw[cq3,hf] at hb;exact hb
theorem h8.stkFree (I:h8 X pins σ H s):∀b∈A8 X.stack,H b=none:=fun b hb=>by
 rcases co0.mp (I.stkSub b hb) with e|hb
 · rw[e];exact I.free
 · obtain ⟨_,o,ho,_⟩:=I.ok.funs.mem hb
   exact I.base.free b o ho (I.ok.frf b hb) fun z=>I.ok.exfs b z hb
theorem h8.step {g':Array GenState}{t':Nat}{d':Drawn}{ch:List Addr}(I:h8 X pins σ H s)
   (hch:∀b∈ch,(b∈X.ex\/X.s₀.heap.objs.size<=b)/\b≠X.env.locals/\(∀x c,X.env.cells.lookup x=some c->c≠b)/\∀p∈X.pn++pins,p.1≠b)
   (keep:∀b o,b≠X.env.locals->b∉X.fs->b∉ch->s.heap.get? b=some o->H b=none->h'.get? b=some o)
   (slot:∀b o,b≠X.env.locals->b∈X.fs->b∉ch->s.heap.get? b=some o->H b=none->∃sl,h'.get? b=some {o with slots:=sl}) (free:∀b o,b∉ch->s.heap.get? b=some o->H b=none->H' b=none)
   (there:∀b o,b∉ch->s.heap.get? b=some o->∃o',h'.get? b=some o')
   (tups:∀b xs,H b=some (.tup xs)->H' b=some (.tup xs)) (frzs:∀b o u,H b=some (.frz o u)->H' b=some (.frz o u)) (tbls:∀b ps,H b=some (.tbl ps)->∃more,H' b=some (.tbl (ps++more)))
   (ns:∀m,s.heap.Ns X.env.locals m->h'.Ns X.env.locals m) (hok:B9 X.prog X.w H' h') (hg:AllBare g'):
   h8 X pins σ H' {s with heap:=h',gens:=g',drawn:=d',toks:=t'}:=by
 have neL:∀b o,X.s₀.heap.get? b=some o->b≠X.env.locals:=fun b o e=>cm7 (cm5 (Heap.lt_size e) I.ok.above)
 have neC:∀b o,X.s₀.heap.get? b=some o->b∉X.ex->b∉ch:=fun b o e hx hb=>by
   rcases (hch b hb).1 with z|z
   · exact hx z
   · exact absurd (cm5 (Heap.lt_size e) z) (cq8 _)
 have cellK:∀x c,X.env.cells.lookup x=some c->∀v,s.heap.IsCell c v->h'.IsCell c v:=fun x c e v ⟨o,ho,hd⟩=>by
   have nch:c∉ch:=fun z=>(hch c z).2.2.1 x c e rfl
   by_cases hc:c∈X.fs
   · obtain ⟨sl,q⟩:=slot c o (I.cne x c e) hc nch ho (I.freeC x c e);exact ⟨_,q,hd⟩
   · exact ⟨o,keep c o (I.cne x c e) hc nch ho (I.freeC x c e),hd⟩
 refine ⟨I.ok,I.os,hg,⟨fun b o e n hb hx=> ?_,fun b o e n hb hx=> ?_,fun b o e n hx=> ?_,fun b o e hx=> ?_,fun b xs e=>tups b xs (I.base.tups b xs e),fun b o xs e=>frzs b o xs (I.base.frzs b o xs e),fun b ps e=> ?_⟩,?_,fun x c e=> ?_,?_,fun x c e=> ?_,fun p hp=> ?_,hok,I.len⟩
 · exact keep b o (neL b o e) hb (neC b o e hx) (I.base.keep b o e n hb hx) (I.base.free b o e n hx)
 · obtain ⟨sl,e1⟩:=I.base.slot b o e n hb hx;obtain ⟨sl',e2⟩:=slot b _ (neL b o e) hb (neC b o e hx) e1 (I.base.free b o e n hx);exact ⟨sl',e2⟩
 · obtain ⟨o',e1⟩:=I.base.there b o e hx;exact free b o' (neC b o e hx) e1 (I.base.free b o e n hx)
 · obtain ⟨o',e1⟩:=I.base.there b o e hx;exact there b o' (neC b o e hx) e1
 · obtain ⟨m1,e1⟩:=I.base.tbls b ps e;obtain ⟨m2,e2⟩:=tbls b _ e1;exact ⟨m1++m2,by rw[e2,Array.append_assoc]⟩
 · obtain ⟨m,hn,hl⟩:=I.loc;refine ⟨m,ns m hn,fun i x v e1 e2 e3=> ?_⟩;obtain ⟨u,r,l⟩:=hl i x v e1 e2 e3;refine ⟨u,r,?_⟩
   rcases l with l|⟨k,c,e,z⟩
   · exact .inl l
   · exact .inr ⟨k,c,e,cellK x c e _ z⟩
 · obtain ⟨v,z⟩:=I.cell x c e;exact ⟨v,cellK x c e v z⟩
 · obtain ⟨m,⟨o,_,_,ho,_⟩,_⟩:=I.loc;exact free _ o (fun z=>(hch _ z).2.1 rfl) ho I.free
 · obtain ⟨v,o,ho,hd⟩:=I.cell x c e;exact free c o (fun z=>(hch c z).2.2.1 x c e rfl) ho (I.freeC x c e)
 · obtain ⟨e,n,ne,nf,d⟩:=I.pin p hp
   have nch:p.1∉ch:=fun z=>(hch p.1 z).2.2.2 p hp rfl
   exact ⟨keep p.1 p.2 ne nf nch e n,free p.1 p.2 nch e n,ne,nf,d⟩
theorem h8.un {t':Nat}(I:h8 X pins σ H s)(u:Un X.fs [] H H' s.heap h')(hok:B9 X.prog X.w H' h'):h8 X pins σ H' {s with heap:=h',toks:=t'}:=by
 obtain ⟨m,⟨o,es,ep,ho,r⟩,_⟩:=id I.loc;obtain ⟨sl,hL⟩:=u.any ho I.free (by simp)
 exact I.step (g':=s.gens) (d':=s.drawn) (ch:=[]) (fun _ z=>nomatch z) (fun b o _ hb _ e n=>u.keep b o e n hb (by simp)) (fun b o _ hb _ e n=>u.slot b o e n hb (by simp)) (fun b o _ e n=>u.free b o e n (by simp)) (fun b o _ e=>u.there b o e (by simp)) u.tups u.frzs u.tbls (fun m' hm=>by
   obtain ⟨o',es',ep',ho',r'⟩:=hm;rw[ho] at ho';cases ho'
   exact ⟨_,es',ep',hL,r'⟩) hok I.bare
theorem h8.call {g':Array GenState}{t':Nat}{d':Drawn}{ch:List Addr}(I:h8 X pins σ H s)(u:Un (A8 X.stack) ch H H' s.heap h')(hok:B9 X.prog X.w H' h')(hg:AllBare g')
   (hch:∀b∈ch,(b∈X.ex\/X.s₀.heap.objs.size<=b)/\b≠X.env.locals/\(∀x c,X.env.cells.lookup x=some c->c≠b)/\∀p∈X.pn++pins,p.1≠b):
   h8 X pins σ H' {s with heap:=h',gens:=g',drawn:=d',toks:=t'}:=by
 obtain ⟨m,⟨o,es,ep,ho,r⟩,_⟩:=id I.loc
 obtain ⟨sl,hL⟩:=u.any ho I.free fun z=>(hch _ z).2.1 rfl
 exact I.step (ch:=ch) hch (fun b o hL hb hc e n=>u.keep b o e n (fun z=>(co0.mp (I.stkSub b z)).elim hL hb) hc) (fun b o _ _ hc e n=>u.any e n hc) (fun b o hc e n=>u.free b o e n hc) (fun b o hc e=>u.there b o e hc) u.tups u.frzs u.tbls (fun m' hm=>by
   obtain ⟨o',es',ep',ho',r'⟩:=hm;rw[ho] at ho';cases ho'
   exact ⟨_,es',ep',hL,r'⟩) hok hg
theorem h8.turned {t':Nat}{it:Addr}(I:h8 X pins σ H s)(k:∀b o,b≠it->s.heap.get? b=some o->h'.get? b=some o)(hn:H it=none)(hL:it≠X.env.locals)
   (h1:it∈X.ex\/X.s₀.heap.objs.size<=it) (h2:∀x c,X.env.cells.lookup x=some c->c≠it) (h3:∀p∈X.pn++pins,p.1≠it):h8 X pins σ H {s with heap:=h',toks:=t'}:=by
 have nit:∀b u,H b=some u->b≠it:=fun b u e z=>by rw[z,hn] at e;cases e
 refine I.step (g':=s.gens) (d':=s.drawn) (ch:=[it]) (fun b hb=> ?_) (fun b o _ _ hc e _=>k b o (fun z=>hc (by simp [z])) e) (fun b o _ _ hc e _=>⟨o.slots,k b o (fun z=>hc (by simp [z])) e⟩) (fun _ _ _ _ n=>n)
   (fun b o hc e=>⟨o,k b o (fun z=>hc (by simp [z])) e⟩) (fun _ _ e=>e) (fun _ _ _ e=>e) (fun b ps e=>⟨#[],by rw[e];simp⟩) (fun m hm=> ?_) (fun b u e=> ?_) I.bare
 · have e:b=it:=by simpa using hb
   subst e;exact ⟨h1,hL,h2,h3⟩
 · obtain ⟨o,es,ep,ho,r⟩:=hm;exact ⟨o,es,ep,k _ o (Ne.symm hL) ho,r⟩
 · refine (I.hok b u e).stay (fun c v hc q=>k c v ?_ q) (fun _ q=>q) fun _ _ q=>q
   rcases hc with z|z
   · rw[z];exact nit b u e
   · exact nit c _ z
theorem h8.tok (I:h8 X pins σ H s)(t:Nat):h8 X pins σ H {s with toks:=t}:=I.un (h':=s.heap) (t':=t) Un.refl I.hok
theorem h8.kept {t':Nat}(I:h8 X pins σ H s)(k:∀b u,s.heap.get? b=some u->h'.get? b=some u):h8 X pins σ H {s with heap:=h',toks:=t'}:=I.un (Un.kept k) (I.hok.kept k)
theorem h8.laid {a:Addr}{o:HO}{t':Nat}(I:h8 X pins σ H s)(k:∀b u,s.heap.get? b=some u->h'.get? b=some u)(hp:s.heap.objs.size<=a)(new:t5 X.prog X.w (e8 H a o) h' a o):
 h8 X pins σ (e8 H a o) {s with heap:=h',toks:=t'}:=I.un (Un.laid k hp (I.hok.fresh hp)) (I.hok.laid k hp new)
theorem h8.write {x e:Addr}{o:HO}{t':Nat}(I:h8 X pins σ H s)(mu:Mut (H x))(he:e=x\/H e=some (.own x))(k:∀b u,b≠e->s.heap.get? b=some u->h'.get? b=some u)(heo:∃u,h'.get? e=some u)
 (new:t5 X.prog X.w (e8 H x o) h' x o):h8 X pins σ (e8 H x o) {s with heap:=h',toks:=t'}:=I.un (Un.write mu he k heo) (I.hok.write mu he k heo new)
theorem h8.pins_of {pins':List (Addr×Obj)}(I:h8 X pins σ H s)(h:∀p∈pins',s.heap.get? p.1=some p.2/\H p.1=none/\p.1≠X.env.locals/\p.1∉X.fs/\∀v,p.2.data≠.cell v):h8 X pins' σ H s:=
 ⟨I.ok,I.os,I.bare,I.base,I.loc,I.cell,I.free,I.freeC,fun p hp=>(cm1.mp hp).elim (fun z=>I.pin p (cs1 _ z)) (h p),I.hok,I.len⟩
theorem ah7 {N:List Str}(hN:N.Nodup){i j:Nat}{x:Str}(a:N[i]? =some x)(b:N[j]? =some x):i=j:=by
 obtain ⟨h1,e1⟩:=ck7.mp a;obtain ⟨h2,e2⟩:=ck7.mp b;exact (List.getElem_inj hN).mp (e1.trans e2.symm)
theorem bh7 {M:Model}{A:Around}{E:Value->Shared->Prop}{i:Nat}{x:Str}{v:V}{u:Value}{Q:Unit->Shared->Prop}(I:h8 X pins σ H s)(hN:X.N.Nodup)(hi:X.N[i]? =some x)(hx:Loc X.env.scope x)(r:o8 v u)
   (h:∀s',h8 X pins (σ.set i (some v)) H s'->(∃a,Heap.SameBut a s.heap s'.heap/\(a=X.env.locals\/X.env.cells.lookup x=some a))->Q () s') (hf:X.fn x=true\/X.env.scope.names.lookup x=some .local:=by first|exact .inl rfl|exact .inr rfl|assumption):wpAny M A (storeName X.env x u) Q E s:=by
 obtain ⟨m,hn,hl⟩:=id I.loc
 have hcls:(X.env.scope.kind== .class||(X.env.scope.kind== .module&&X.env.locals !=X.env.globals))=false:=by rw[I.ok.kind];rfl
 have hiσ:i < σ.length:=by rw[I.len];exact (ck7.mp hi).1
 have cne:=I.cne
 have tracked:∀{a:Addr} {h':Heap},(∃o,s.heap.get? a=some o/\H a=none)->Heap.SameBut a s.heap h'->B9 X.prog X.w H h':=fun {a h'} ha hs b ob e=>by
   obtain ⟨_,_,hfree⟩:=ha
   refine (I.hok b ob e).stay (fun c w' hc q=>(hs.2 c ?_).trans q) (fun _ q=>q) fun _ _ q=>q
   rintro rfl
   rcases hc with rfl|hc
   · rw[hfree] at e;cases e
   · rw[hfree] at hc;cases hc
 rcases hx with hk|hk
 · refine wpAny_storeName_local hk hn (fun h' hn' hs=> ?_) hcls;obtain ⟨oL,_,_,hoL,_⟩:=id hn;refine h _ ⟨I.ok,I.os,I.bare,⟨fun b o e n hb hx=> ?_,fun b o e n hb hx=> ?_,I.base.free,fun b o e hx=> ?_,I.base.tups,I.base.frzs,I.base.tbls⟩,⟨_,hn',fun j y v' e1 e2 e3=> ?_⟩,fun y c e=> ?_,I.free,I.freeC,fun p hp=> ?_,tracked ⟨oL,hoL,I.free⟩ hs,by simpa using I.len⟩ ⟨_,hs,.inl rfl⟩
   · exact (hs.2 b (cm7 (cm5 (Heap.lt_size e) I.ok.above))).trans (I.base.keep b o e n hb hx)
   · obtain ⟨sl,e1⟩:=I.base.slot b o e n hb hx;exact ⟨sl,(hs.2 b (cm7 (cm5 (Heap.lt_size e) I.ok.above))).trans e1⟩
   · obtain ⟨o',e1⟩:=I.base.there b o e hx;exact ⟨o',(hs.2 b (cm7 (cm5 (Heap.lt_size e) I.ok.above))).trans e1⟩
   · by_cases hj:j=i
     · subst hj;rw[hi] at e1;cases e1;rw[cs8 hiσ] at e2;cases e2;exact ⟨u,r,.inl ⟨hk,by simp⟩⟩
     · rw[ct6 (Ne.symm hj)] at e2;obtain ⟨u',r',q⟩:=hl j y v' e1 e2 e3;refine ⟨u',r',?_⟩
       rcases q with ⟨k,e⟩|⟨k,c,e,z⟩
       · refine .inl ⟨k,?_⟩
         have:y≠x:=fun e=>hj (ah7 hN e1 (e▸hi))
         simp [this,e]
       · exact .inr ⟨k,c,e,z.sameBut hs (cne y c e)⟩
   · obtain ⟨w',z⟩:=I.cell y c e;exact ⟨w',z.sameBut hs (cne y c e)⟩
   · obtain ⟨e,n,ne,nf,d⟩:=I.pin p hp;exact ⟨(hs.2 p.1 ne).trans e,n,ne,nf,d⟩
 · have hfn:X.fn x=true:=by
     rcases hf with z|z
     · exact z
     · rw[z] at hk;cases hk
   obtain ⟨c,hc⟩:=I.ok.has x (.inl hk);obtain ⟨w',z⟩:=I.cell x c hc;refine wpAny_storeName_cell I.ok.kind hk hc z (fun h' hc' hs=> ?_);obtain ⟨oc,hoc,hocd⟩:=id z;refine h {s with heap:=h'} ⟨I.ok,I.os,I.bare,⟨fun b o e n hb hx=> ?_,fun b o e n hb hx=> ?_,I.base.free,fun b o e hx=> ?_,I.base.tups,I.base.frzs,I.base.tbls⟩,⟨m,hn.sameBut hs (Ne.symm (cne x c hc)),fun j y v' e1 e2 e3=> ?_⟩,fun y c' e=> ?_,I.free,I.freeC,fun p hp=> ?_,tracked ⟨oc,hoc,I.freeC x c hc⟩ hs,by simpa using I.len⟩ ⟨c,hs,.inr hc⟩
   · exact (hs.2 b (cm7 (cm5 (Heap.lt_size e) (I.ok.cab x c hfn hc)))).trans (I.base.keep b o e n hb hx)
   · obtain ⟨sl,e1⟩:=I.base.slot b o e n hb hx;exact ⟨sl,(hs.2 b (cm7 (cm5 (Heap.lt_size e) (I.ok.cab x c hfn hc)))).trans e1⟩
   · obtain ⟨o',e1⟩:=I.base.there b o e hx;exact ⟨o',(hs.2 b (cm7 (cm5 (Heap.lt_size e) (I.ok.cab x c hfn hc)))).trans e1⟩
   · by_cases hj:j=i
     · subst hj;rw[hi] at e1;cases e1;rw[cs8 hiσ] at e2;cases e2;exact ⟨u,r,.inr ⟨.inl hk,c,hc,hc'⟩⟩
     · rw[ct6 (Ne.symm hj)] at e2;obtain ⟨u',r',q⟩:=hl j y v' e1 e2 e3;refine ⟨u',r',?_⟩
       rcases q with q|⟨k,c',e,z'⟩
       · exact .inl q
       · refine .inr ⟨k,c',e,z'.sameBut hs ?_⟩;rintro rfl;exact hj (ah7 hN e1 (I.ok.inj _ _ _ e hc▸hi))
   · by_cases hcc:c'=c
     · subst hcc;exact ⟨_,hc'⟩
     · obtain ⟨w2,z2⟩:=I.cell y c' e;exact ⟨w2,z2.sameBut hs hcc⟩
   · obtain ⟨e,n,ne,nf,d⟩:=I.pin p hp;refine ⟨(hs.2 p.1 ?_).trans e,n,ne,nf,d⟩;intro q;rw[q,hoc] at e;have q':oc=p.2:=Option.some.inj e;exact d w' (by rw[<-q'];exact hocd)
theorem ah8 {M:Model}{A:Around}{E:Value->Shared->Prop}{i:Nat}{x:Str}{v:V}{u:Value}{Q:Unit->Shared->Prop}(I:h8 X pins σ H s)(hN:X.N.Nodup)(hi:X.N[i]? =some x)(hx:Loc X.env.scope x)(r:o8 v u)
   (h:∀s',h8 X pins (σ.set i (some v)) H s'->Q () s') (hf:X.fn x=true\/X.env.scope.names.lookup x=some .local:=by first|exact .inl rfl|exact .inr rfl|assumption):wpAny M A (storeName X.env x u) Q E s:=
 bh7 I hN hi hx r (fun s' I' _=>h s' I') hf
theorem h8.call' {s':Shared}{ch:List Addr}(I:h8 X pins σ H s)(ho:s'.os=s.os)(u:Un (A8 X.stack) ch H H' s.heap s'.heap)(hok:B9 X.prog X.w H' s'.heap)(hg:AllBare s'.gens)
   (hch:∀b∈ch,(b∈X.ex\/X.s₀.heap.objs.size<=b)/\b≠X.env.locals/\(∀x c,X.env.cells.lookup x=some c->c≠b)/\∀p∈X.pn++pins,p.1≠b):h8 X pins σ H' s':=by
 obtain ⟨h',g',d',t',o'⟩:=s';have e:o'=s.os:=ho;subst e;exact I.call (g':=g') (t':=t') (d':=d') u hok hg hch
end
abbrev XK:=Value->Option Addr->Hp->Prop
abbrev St:=List (Option V)
abbrev VK:=V->Hp->Prop
abbrev TE:=St->Hp->VK->Prop
abbrev TT:=St->Hp->(Bool->Hp->Prop)->Prop
abbrev TA:=St->Hp->(List V->Hp->Prop)->Prop
structure U6 where
 nx:St->Hp->Prop
 rt:VK
 bk:St->Hp->Prop:=fun _ _=>False
 ct:St->Hp->Prop:=fun _ _=>False
abbrev TS:=U6->St->Hp->Prop
def EP (X:Cx)(pins:List (Addr×Obj))(σ:St)(Q:VK)(u:Value)(s':Shared):Prop:=∃v H',h8 X pins σ H' s'/\o8 v u/\Q v H'
def TP (X:Cx)(pins:List (Addr×Obj))(σ:St)(Q:Bool->Hp->Prop)(b:Bool)(s':Shared):Prop:=∃H',h8 X pins σ H' s'/\Q b H'
def AP (X:Cx)(pins:List (Addr×Obj))(σ:St)(Q:List V->Hp->Prop)(us:List Value)(s':Shared):Prop:=∃vs H',h8 X pins σ H' s'/\m7 vs us/\Q vs H'
def SP (X:Cx)(pins:List (Addr×Obj))(D:U6)(f:Flow)(s':Shared):Prop:=
 match f with
 | .next=>∃σ' H',h8 X pins σ' H' s'/\D.nx σ' H'
 | .brk=>∃σ' H',h8 X pins σ' H' s'/\D.bk σ' H'
 | .cont=>∃σ' H',h8 X pins σ' H' s'/\D.ct σ' H'
 | .ret u=>∃v σ' H',h8 X pins σ' H' s'/\o8 v u/\D.rt v H'
def PE (X:Cx)(e:Expr)(t:TE):Prop:=
 ∀(pins:List (Addr×Obj)) (s:Shared) (σ:St) (H:Hp) (Q:VK),h8 X pins σ H s->t σ H Q->wpAny (model X.prog X.w) X.A (eval e X.env) (EP X pins σ Q) X.xe s
def PT (X:Cx)(e:Expr)(t:TT):Prop:=
 ∀(pins:List (Addr×Obj)) (s:Shared) (σ:St) (H:Hp) (Q:Bool->Hp->Prop),h8 X pins σ H s->t σ H Q->wpAny (model X.prog X.w) X.A (isTrue e X.env (eval e X.env)) (TP X pins σ Q) X.xe s
def PW (X:Cx)(e:Expr)(t:TT):Prop:=
 ∀(whole:Sem Value) (pins:List (Addr×Obj)) (s:Shared) (σ:St) (H:Hp) (Q:Bool->Hp->Prop),h8 X pins σ H s->t σ H Q->wpAny (model X.prog X.w) X.A (isTrue e X.env whole) (TP X pins σ Q) X.xe s
theorem PW.pt {X:Cx}{e:Expr}{t:TT}(h:PW X e t):PT X e t:=h _
def PA (X:Cx)(es:List Expr)(t:TA):Prop:=
 ∀(pos:Pos) (pins:List (Addr×Obj)) (s:Shared) (σ:St) (H:Hp) (Q:List V->Hp->Prop),h8 X pins σ H s->t σ H Q->wpAny (model X.prog X.w) X.A (spliced (backTo pos (starEach es X.env))) (AP X pins σ Q) X.xe s
def PS (X:Cx)(st:Stmt)(t:TS):Prop:=
 ∀(pins:List (Addr×Obj)) (s:Shared) (σ:St) (H:Hp) (D:U6),h8 X pins σ H s->t D σ H->wpAny (model X.prog X.w) X.A (exec st X.env) (SP X pins D) X.xe s
def S3 (X:Cx)(st:List Stmt)(t:TS):Prop:=
 ∀(pins:List (Addr×Obj)) (s:Shared) (σ:St) (H:Hp) (D:U6),h8 X pins σ H s->t D σ H->wpAny (model X.prog X.w) X.A (execs st X.env) (SP X pins D) X.xe s
theorem o5 {α:Type}{t:Sem α}{Q Q':α->Shared->Prop}{M:Model}{A:Around}{E:Value->Shared->Prop}{s:Shared}(h:wpAny M A t Q E s)(hQ:∀a s,Q a s->Q' a s):wpAny M A t Q' E s:=wpAny_mono h hQ fun _ _ x=>x
end L2
namespace L2
open PySem PySem.Spec PyProof.Rows
section
variable {X:Cx}
def by8 (i:Nat):TE:=fun σ H Q=>∃v,σ[i]? =some (some v)/\Q v H
def tC (v:V):TE:=fun _ H Q=>Q v H
theorem by9 {i:Nat}{x:Str}{pos:Pos}(hN:X.N[i]? =some x)(hv:Vis X.env.scope x)(hd:(x==("__debug__":Str))=false:=by decide)(hcd:(x==("__classdict__":Str))=false:=by decide):PE X (.Name x pos) (by8 i):=by
 intro pins s σ H Q I h;obtain ⟨v,e,h⟩:=h;obtain ⟨m,hn,hl⟩:=I.loc;obtain ⟨u,r,l⟩:=hl i x v hN e hv;have fin:EP X pins σ Q u s:=⟨v,H,I,r,h⟩
 rcases l with ⟨hk,hm⟩|⟨hk,c,hc,hcell⟩
 · exact wpAny_Name (wpAny_loadName_local I.ok.kind hk hn hm fin) hd
 · rcases hk with hk|hk
   · exact wpAny_Name (wpAny_loadName_cell I.ok.kind hk hc hcell fin) hd
   · exact wpAny_Name (wpAny_loadName_free I.ok.kind hk hc hcell fin hcd) hd
theorem j7 {i j pos}:PE X (.Constant (.int i) j pos) (tC (.int i)):=fun _ _ _ H _ I h=>wpAny_Constant_int ⟨.int i,H,I.tok _,⟨_,rfl⟩,h⟩
theorem t6 {b j pos}:PE X (.Constant (.bool b) j pos) (tC (.bl b)):=fun _ _ _ H _ I h=>Constant_bool ⟨.bl b,H,I,rfl,h⟩
theorem L7 {j pos}:PE X (.Constant .none j pos) (tC .non):=fun _ _ _ H _ I h=>Constant_none ⟨.non,H,I,rfl,h⟩
theorem au0 {x j pos}:PE X (.Constant (.str x) j pos) (tC (.str x)):=fun _ _ _ H _ I h=>Calls.Constant_str ⟨.str x,H,I.tok _,⟨_,rfl⟩,h⟩
def Gl (X:Cx)(x:Str):Prop:=X.env.kindOf x=some .globalImplicit
theorem Y2 {E:Value->Shared->Prop}{pins:List (Addr×Obj)}{s:Shared}{σ:St}{H:Hp}{x:Str}{u:Value}{pos:Pos}{Q:Value->Shared->Prop}(I:h8 X pins σ H s)(hg:Gl X x)(hm:X.mg x=some u)(h:Q u s)
   (hd:(x==("__debug__":Str))=false:=by decide):wpAny (model X.prog X.w) X.A (eval (.Name x pos) X.env) Q E s:=
 Calls.Name_function_global I.ok.kind hg (Calls.loadGlobal_global (by rw[I.ok.glob];exact I.mod.glob.keeps I.bk) hm h) hd
theorem Y3 {E:Value->Shared->Prop}{pins:List (Addr×Obj)}{s:Shared}{σ:St}{H:Hp}{x:Str}{u:Value}{pos:Pos}{Q:Value->Shared->Prop}(I:h8 X pins σ H s)(hg:Gl X x)(hm:X.mg x=none)(hv:bootBuiltins x=some u)(h:Q u s)
   (hn:x≠"__name__":=by decide) (hd:(x==("__debug__":Str))=false:=by decide):wpAny (model X.prog X.w) X.A (eval (.Name x pos) X.env) Q E s:=by
 obtain ⟨mb,h1,h2⟩:=I.mod.blt;exact Calls.Name_function_global I.ok.kind hg (Calls.loadGlobal_builtin (by rw[I.ok.glob];exact I.mod.glob.keeps I.bk) hm (by rw[I.ok.blt];exact h1.keeps I.bk) ((h2 x hn).trans hv) h) hd
theorem T8 {x:Str}{v:V}{u:Value}{pos:Pos}(hg:Gl X x)(hm:X.mg x=some u)(r:o8 v u)(hd:(x==("__debug__":Str))=false:=by decide):PE X (.Name x pos) (tC v):=
 fun _ _ _ H _ I h=>Y2 I hg hm ⟨v,H,I,r,h⟩ hd
theorem af0 {x:Str}{v:V}{u:Value}{pos:Pos}(hg:Gl X x)(hm:X.mg x=none)(hv:bootBuiltins x=some u)(r:o8 v u)(hn:x≠"__name__":=by decide)(hd:(x==("__debug__":Str))=false:=by decide):PE X (.Name x pos) (tC v):=
 fun _ _ _ H _ I h=>Y3 I hg hm hv ⟨v,H,I,r,h⟩ hn hd
variable {a b:Expr} {ta tb:TE} {pos:Pos}
def PC (X:Cx)(op:CmpOp)(a b:Expr)(t:TE):Prop:=
 ∀(pins:List (Addr×Obj)) (s:Shared) (σ:St) (H:Hp) (Q:VK),h8 X pins σ H s->t σ H Q->
  wpAny (model X.prog X.w) X.A (eval a X.env) (fun v s₁=>wpAny (model X.prog X.w) X.A (eval b X.env) (fun u s₂=>wpAny (model X.prog X.w) X.A (compareOp op v u) (EP X pins σ Q) X.xe s₂) X.xe s₁) X.xe s
def tB (t:TE):TT:=fun σ H Q=>t σ H fun x H1=>∃c,x= .bl c/\Q c H1
theorem au1 {op:CmpOp}{t:TE}(h:PC X op a b t)(h1:behindInMarks op b=false:=by first|exact nobehind _ (by decide) (by decide)|rfl):PT X (.Compare a [op] [b] pos) (tB t):=by
 intro pins s σ H Q I hw;refine wpAny_isTrue_Compare1 (o5 (h pins s σ H _ I hw) fun v s1 h1=>o5 h1 fun u s2 h2=>o5 h2 fun c s3 ⟨x,H1,I1,r1,q1⟩=> ?_) h1;obtain ⟨d,rfl,q⟩:=q1;cases r1;exact wpAny_truthy_bool ⟨H1,I1,q⟩
theorem D8 {e:Expr}{t:TE}(h:PE X e t)(he:∀whole,isTrue e X.env whole=(do let v <-whole;standAt e.pos;holding [v] (truthy v)):=by intro _;rfl):PT X e (tB t):=by
 intro pins s σ H Q I hw;refine isTrue_plain (o5 (h pins s σ H _ I hw) fun v s1 ⟨x,H1,I1,r1,q1⟩=> ?_) (he _);obtain ⟨d,rfl,q⟩:=q1;cases r1;exact wpAny_truthy_bool ⟨H1,I1,q⟩
variable {tA tB':TT} {rest:List Expr}
def cg6 (t u:TT):TT:=fun σ H Q=>t σ H fun c H1=>if c=true then u σ H1 Q else Q false H1
def tOr (t u:TT):TT:=fun σ H Q=>t σ H fun c H1=>if c=true then Q true H1 else u σ H1 Q
def cg7 (t:TT):TT:=fun σ H Q=>t σ H fun c H1=>Q (!c) H1
theorem af1 (ha:PT X a tA):PW X (.BoolOp .And [a] pos) tA:=by
 intro wh pins s σ H Q I h;refine isTrue_and (o5 (ha pins s σ H Q I h) fun c s1 e=> ?_)
 cases c with
 |true=>exact isTrue_and_nil e
 |false=>exact e
theorem J3 (ha:PT X a tA):PW X (.BoolOp .Or [a] pos) tA:=by
 intro wh pins s σ H Q I h;refine isTrue_or (o5 (ha pins s σ H Q I h) fun c s1 e=> ?_)
 cases c with
 |false=>exact isTrue_or_nil e
 |true=>exact e
theorem aj5 (ha:PT X a tA)(hb:PW X (.BoolOp .And (b::rest) pos) tB'):PW X (.BoolOp .And (a::b::rest) pos) (cg6 tA tB'):=by
 intro wh pins s σ H Q I h;refine isTrue_and (o5 (ha pins s σ H _ I h) fun c s1 ⟨H1,I1,q1⟩=> ?_)
 cases c with
 |true=>exact hb wh pins s1 σ H1 Q I1 q1
 |false=>exact ⟨H1,I1,q1⟩
theorem D5 (ha:PT X a tA)(hb:PW X (.BoolOp .Or (b::rest) pos) tB'):PW X (.BoolOp .Or (a::b::rest) pos) (tOr tA tB'):=by
 intro wh pins s σ H Q I h;refine isTrue_or (o5 (ha pins s σ H _ I h) fun c s1 ⟨H1,I1,q1⟩=> ?_)
 cases c with
 |true=>exact ⟨H1,I1,q1⟩
 |false=>exact hb wh pins s1 σ H1 Q I1 q1
theorem E8 (ha:PT X a tA):PT X (.UnaryOp .Not a pos) (cg7 tA):=by
 intro pins s σ H Q I h;exact isTrue_not (ha pins s σ H (fun c H1=>Q (!c) H1) I h)
def cd3 (ta tb:TE):TE:=fun σ H Q=>ta σ H fun x H1=>∃c,x= .bl c/\if c=true then tb σ H1 Q else Q (.bl false) H1
def cd4 (ta:TE):TE:=fun σ H Q=>ta σ H fun x H1=>∃c,x= .bl c/\Q (.bl (!c)) H1
theorem au2 {op}{t:TE}(h:PE X a t):PE X (.BoolOp op [a] pos) t:=fun pins s σ H Q I hw=>BoolOp_one (h pins s σ H Q I hw)
theorem au3 (ha:PE X a ta)(hb:PE X (.BoolOp .And (b::rest) pos) tb):PE X (.BoolOp .And (a::b::rest) pos) (cd3 ta tb):=by
 intro pins s σ H Q I h;refine BoolOp_and (o5 (ha pins s σ H _ I h) fun v s1 ⟨x,H1,I1,r1,q1⟩=> ?_);obtain ⟨c,rfl,q1⟩:=q1;cases r1;refine wpAny_truthy_bool ?_
 cases c with
 |true=>exact hb pins s1 σ H1 Q I1 q1
 |false=>exact ⟨.bl false,H1,I1,rfl,q1⟩
theorem bz0 (ha:PE X a ta):PE X (.UnaryOp .Not a pos) (cd4 ta):=by
 intro pins s σ H Q I h;refine UnaryOp_ (o5 (ha pins s σ H _ I h) fun v s1 ⟨x,H1,I1,r1,q1⟩=> ?_);obtain ⟨c,rfl,q1⟩:=q1;cases r1;exact not_of (wpAny_truthy_bool ⟨.bl (!c),H1,I1,rfl,q1⟩)
end
end L2
namespace L2
open PySem PySem.Spec PyProof.Rows
def i7 (K:PySem.W.Frag)(H:Hp)(a:Addr)(xs:List V):Prop:=
 Rd H a (.lst xs)\/
   ∃(o:Obj) (its:Array Value) (n:Nat),K.lookup a=some o/\o.cls= .type "list"/\o.dict=none/\o.data= .seq its n/\its.size<=sizeLine/\m7 xs its.toList
def D9 (K:PySem.W.Frag)(H:Hp)(a:Addr)(xs:List V):Prop:=
 Rd H a (.tup xs)\/
   ∃(o:Obj) (its:Array Value) (n:Nat),K.lookup a=some o/\o.cls= .type "tuple"/\o.data= .seq its n/\its.size<=sizeLine/\m7 xs its.toList
def cg8:Value->Option V
 | .none=>some .non
 | .bool b=>some (.bl b)
 | .int i _=>some (.int i)
 | .str x _=>some (.str x)
 | .bytes b _=>some (.byt b)
 | .float b _=>some (.flt b)
 | .ref a=>some (.ref a)
 | .type n=>some (.ty n)
 |_=>none
theorem o8.abs {x:V}{u:Value}(r:o8 x u):cg8 u=some x:=by
 cases x with
 |non=>cases r;rfl
 |bl _=>cases r;rfl
 |int _=>obtain ⟨t,rfl⟩:=r;rfl
 |str _=>obtain ⟨t,rfl⟩:=r;rfl
 |byt _=>obtain ⟨t,rfl⟩:=r;rfl
 |flt _=>obtain ⟨t,rfl⟩:=r;rfl
 |ref _=>cases r;rfl
 |ty _=>cases r;rfl
theorem o8.inj {x y:V}{u:Value}(r:o8 x u)(q:o8 y u):x=y:=Option.some.inj (r.abs.symm.trans q.abs)
theorem m7.inj:∀{xs ys:List V} {us:List Value},m7 xs us->m7 ys us->xs=ys
 |_,_,_,.nil,.nil=>rfl
 |_,_,_,.cons r t,.cons r' t'=>by rw[r.inj r',m7.inj t t']
section
variable {X:Cx} {pins:List (Addr×Obj)} {σ:St} {H:Hp} {s:Shared} {a:Addr} {xs ys:List V}
theorem i7.of {K:PySem.W.Frag}(h:H a=some (.lst xs)):i7 K H a xs:= .inl (.inl h)
theorem D9.of {K:PySem.W.Frag}(h:H a=some (.tup xs)):D9 K H a xs:= .inl (.inl h)
theorem h8.list (I:h8 X pins σ H s)(h:i7 X.K H a xs):∃its:List Value,m7 xs its/\PlainL s.heap a its.toArray/\xs.length<=sizeLine:=by
 rcases h with h|⟨o,its,n,hk,hc,hd,hs,hz,r⟩
 · obtain ⟨z,its,n,r,e⟩:=h.ok I.hok;exact ⟨its,r,⟨_,n,e,rfl,rfl,rfl⟩,z⟩
 · refine ⟨its.toList,r,⟨o,n,I.kIn a o hk,hc,hd,by simpa using hs⟩,?_⟩;have e:=r.length;simp only[cl3] at e;omega
theorem h8.tuple (I:h8 X pins σ H s)(h:D9 X.K H a xs):∃its:List Value,m7 xs its/\IsTup s.heap a its.toArray/\xs.length<=sizeLine:=by
 rcases h with h|⟨o,its,n,hk,hc,hs,hz,r⟩
 · obtain ⟨z,its,r,p⟩:=h.ok I.hok;exact ⟨its,r,p,z⟩
 · refine ⟨its.toList,r,⟨o,I.kIn a o hk,hc,n,by simpa using hs⟩,?_⟩;have e:=r.length;simp only[cl3] at e;omega
theorem h8.list_inj (I:h8 X pins σ H s)(h:i7 X.K H a xs)(h':i7 X.K H a ys):xs=ys:=by
 obtain ⟨its,r,⟨o,n,e,_,_,d⟩,_⟩:=I.list h;obtain ⟨its',r',⟨o',n',e',_,_,d'⟩,_⟩:=I.list h';rw[e] at e';cases e';rw[d] at d'
 injection d' with d1 _
 have:its=its':=by simpa using congrArg co3 d1
 subst this;exact r.inj r'
end
abbrev Cx.wish (X:Cx)(E:Value->Shared->Prop):Cx:={X with xe:=E}
abbrev Cx.nox (X:Cx):Cx:=X.wish fun _ _=>False
theorem Cx.Ok.wish {X:Cx}(ok:X.Ok)(E:Value->Shared->Prop):(X.wish E).Ok:=
 ⟨ok.mod,ok.kind,ok.glob,ok.blt,ok.above,ok.inj,ok.has,ok.cab,ok.hd,ok.frames,ok.stk,ok.exf,ok.bs,ok.bsz,ok.noex,ok.exfs,ok.funs,ok.frf⟩
theorem Cx.Ok.unwish {X:Cx}{E:Value->Shared->Prop}(ok:(X.wish E).Ok):X.Ok:=
 ⟨ok.mod,ok.kind,ok.glob,ok.blt,ok.above,ok.inj,ok.has,ok.cab,ok.hd,ok.frames,ok.stk,ok.exf,ok.bs,ok.bsz,ok.noex,ok.exfs,ok.funs,ok.frf⟩
section
variable {X:Cx} {pins:List (Addr×Obj)} {σ:St} {H:Hp} {s:Shared} {E:Value->Shared->Prop}
theorem h8.wish (I:h8 X pins σ H s)(E:Value->Shared->Prop):h8 (X.wish E) pins σ H s:=⟨I.ok.wish E,I.os,I.bare,I.base,I.loc,I.cell,I.free,I.freeC,I.pin,I.hok,I.len⟩
theorem h8.unwish (I:h8 (X.wish E) pins σ H s):h8 X pins σ H s:=⟨I.ok.unwish,I.os,I.bare,I.base,I.loc,I.cell,I.free,I.freeC,I.pin,I.hok,I.len⟩
theorem SP.unwish {D:U6}{f:Flow}{s':Shared}(h:SP (X.wish E) pins D f s'):SP X pins D f s':=by
 cases f with
 |next=>obtain ⟨σ',H',I,q⟩:=h;exact ⟨σ',H',I.unwish,q⟩
 |brk=>obtain ⟨σ',H',I,q⟩:=h;exact ⟨σ',H',I.unwish,q⟩
 |cont=>obtain ⟨σ',H',I,q⟩:=h;exact ⟨σ',H',I.unwish,q⟩
 |ret u=>obtain ⟨v,σ',H',I,r,q⟩:=h;exact ⟨v,σ',H',I.unwish,r,q⟩
theorem S3.nox {st:List Stmt}{t:TS}(h:S3 X.nox st t):S3 X st t:=fun pins s σ H D I hw=>
 wpAny_mono (h pins s σ H D (I.wish _) hw) (fun _ _ q=>q.unwish) fun _ _ z=>False.elim z
end
section
variable {X:Cx} {st:Stmt} {rest:List Stmt} {t u:TS} {e:Expr} {te:TE} {pos:Pos}
def cd5:TS:=fun D σ H=>D.nx σ H
def cg9 (t u:TS):TS:=fun D σ H=>t {D with nx:=u D} σ H
theorem p5:S3 X [] cd5:=fun _ _ σ H _ I h=>wpAny_execs_nil ⟨σ,H,I,h⟩
theorem c7 (h1:PS X st t)(h2:S3 X rest u):S3 X (st::rest) (cg9 t u):=by
 intro pins s σ H D I h;refine wpAny_execs_cons (o5 (h1 pins s σ H {D with nx:=u D} I h) fun f s1 q=> ?_)
 cases f with
 |next=>
  obtain ⟨σ',H',I',q⟩:=q;exact h2 pins s1 σ' H' D I' q
 |ret v=>exact q
 |brk=>exact q
 |cont=>exact q
theorem i6 (h1:PS X st t):S3 X [st] t:=by
 intro pins s σ H D I h;refine wpAny_execs_cons (o5 (h1 pins s σ H D I h) fun f s1 q=> ?_)
 cases f with
 |next=>exact wpAny_execs_nil q
 |ret v=>exact q
 |brk=>exact q
 |cont=>exact q
theorem h8.quiet {pins:List (Addr×Obj)}{σ:St}{H:Hp}{s:Shared}(I:h8 X pins σ H s):interactive X.env=false:=by simp [interactive,I.ok.kind]
def cd6 (te:TE):TS:=fun D σ H=>te σ H fun _ H1=>D.nx σ H1
theorem C0 (he:PE X e te)(hs:swapsWith e none pos.line X.env=pure false:=by rfl):PS X (.Expr e pos) (cd6 te):=by
 intro pins s σ H D I h;exact wpAny_Expr_any (o5 (he pins s σ H _ I h) fun v s1 ⟨x,H1,I1,r1,q1⟩=>⟨σ,H1,I1,q1⟩) I.quiet hs
def ch0 (te:TE):TS:=fun D σ H=>te σ H D.rt
theorem l0 (he:PE X e te):PS X (.Return (some e) pos) (ch0 te):=by
 intro pins s σ H D I h;exact wpAny_Return_some (o5 (he pins s σ H _ I h) fun v s1 ⟨x,H1,I1,r1,q1⟩=>⟨x,σ,H1,I1,r1,q1⟩)
def ch1 (c:TT)(t u:TS):TS:=fun D σ H=>c σ H fun b H1=>if b=true then t D σ H1 else u D σ H1
theorem y8 {c:Expr}{a b:List Stmt}{tc:TT}(hc:PT X c tc)(ha:S3 X a t)(hb:S3 X b u):PS X (.If c a b pos) (ch1 tc t u):=by
 intro pins s σ H D I h;refine wpAny_If (o5 (hc pins s σ H _ I h) fun d s1 ⟨H1,I1,q1⟩=> ?_)
 cases d with
 |true=>exact ha pins s1 σ H1 D I1 q1
 |false=>exact hb pins s1 σ H1 D I1 q1
def bh8:TS:=fun _ _ _=>False
theorem ah9:PS X st bh8:=fun _ _ _ _ _ _ h=>h.elim
theorem ac0 {sts:List Stmt}:S3 X sts bh8:=fun _ _ _ _ _ _ h=>h.elim
end
abbrev TG:=V->St->Hp->(St->Hp->Prop)->Prop
abbrev TGs:=List V->St->Hp->(St->Hp->Prop)->Prop
def PG (X:Cx)(target:Expr)(t:TG):Prop:=
 ∀(pins:List (Addr×Obj)) (s:Shared) (σ:St) (H:Hp) (v:V) (u:Value) (Q:St->Hp->Prop),h8 X pins σ H s->o8 v u->t v σ H Q->
  wpAny (model X.prog X.w) X.A (assign target X.env u) (fun _ s'=>∃σ' H',h8 X pins σ' H' s'/\Q σ' H') X.xe s
def PGs (X:Cx)(ts:List Expr)(t:TGs):Prop:=
 ∀(pins:List (Addr×Obj)) (s:Shared) (σ:St) (H:Hp) (vs:List V) (us:List Value) (Q:St->Hp->Prop),h8 X pins σ H s->m7 vs us->t vs σ H Q->
  wpAny (model X.prog X.w) X.A (assignInOrder ((assignEach ts X.env).map (·.2)) us) (fun _ s'=>∃σ' H',h8 X pins σ' H' s'/\Q σ' H') X.xe s
abbrev bo1:=V->V->V->Hp->(Hp->Prop)->Prop
def bz1 (X:Cx)(t:bo1):Prop:=
 ∀(pins:List (Addr×Obj)) (s:Shared) (σ:St) (H:Hp) (o i v:V) (ov iv u:Value) (Q:Hp->Prop),h8 X pins σ H s->o8 o ov->o8 i iv->o8 v u->t o i v H Q->
  wpAny (model X.prog X.w) X.A (setItem ov iv u) (fun _ s'=>∃H',h8 X pins σ H' s'/\Q H') X.xe s
section
variable {X:Cx} {pos:Pos}
def at2 (i:Nat):TG:=fun v σ H Q=>Q (σ.set i (some v)) H
theorem o9 {i:Nat}{x:Str}(hN:X.N.Nodup)(hi:X.N[i]? =some x)(hx:Loc X.env.scope x)(hf:X.fn x=true\/X.env.scope.names.lookup x=some .local:=by first|exact .inl rfl|exact .inr rfl|assumption):PG X (.Name x pos) (at2 i):=by
 intro pins s σ H v u Q I r h;exact wpAny_assign_Name (ah8 I hN hi hx r (fun s' I'=>⟨_,H,I',h⟩) hf)
def ch2:TGs:=fun vs σ H Q=>vs=[]/\Q σ H
def cd7 (t:TG)(u:TGs):TGs:=fun vs σ H Q=>∃v r,vs=v::r/\t v σ H fun σ' H'=>u r σ' H' Q
theorem Y4:PGs X [] ch2:=by
 intro pins s σ H vs us Q I r h;obtain ⟨e,h⟩:=h;subst e;cases r;exact assignInOrder_nil ⟨σ,H,I,h⟩
theorem D3 {e:Expr}{es:List Expr}{t:TG}{u:TGs}(h1:PG X e t)(h2:PGs X es u)
   (hs:(assignEach (e::es) X.env).map (·.2)=assign e X.env::(assignEach es X.env).map (·.2):=by rfl):PGs X (e::es) (cd7 t u):=by
 intro pins s σ H vs us Q I r h;obtain ⟨v,vr,e1,h⟩:=h;subst e1
 cases r with
 |cons r rr=>
  rw[hs];refine assignInOrder_cons (o5 (h1 pins s σ H _ _ _ I r h) fun _ s1 ⟨σ1,H1,I1,q1⟩=> ?_);exact h2 pins s1 σ1 H1 _ _ Q I1 rr q1
def ch3 (K:PySem.W.Frag)(n:Nat)(t:TGs):TG:=fun v σ H Q=>∃a xs,v= .ref a/\D9 K H a xs/\xs.length=n/\t xs σ H Q
theorem ac1 {es:List Expr}{k:Nat}{t:TGs}{n:Nat}(hc:X.calm=true)(h:PGs X es t)
   (hn:(assignEach es X.env).length=n:=by rfl) (hst:(assignEach es X.env).findIdx? (·.1)=none:=by rfl):PG X (.Tuple es k pos) (ch3 X.K n t):=by
 intro pins s σ H v u Q I r hw;obtain ⟨a,xs,e1,hq,hl,hw⟩:=hw;subst e1;cases r;obtain ⟨its,rv,ht,hz⟩:=I.tuple hq
 refine assign_Tuple_tuple (I.ok.hd hc) ht (by simp [hn,<-hl,rv.length]) hst fun h' hx=> ?_
 have I1:h8 X pins σ H {s with heap:=h'}:=I.kept (t':=s.toks) fun b o e=>hx b o (cm7 (Heap.lt_size e)) e
 exact h pins _ σ H xs _ Q I1 (by simpa using rv) hw
def ch4 (to ti:TE)(t:bo1):TG:=fun v σ H Q=>to σ H fun o H1=>ti σ H1 fun i H2=>t o i v H2 fun H3=>Q σ H3
theorem aj6 {o i:Expr}{to ti:TE}{t:bo1}(ho:PE X o to)(hi:PE X i ti)(hs:bz1 X t)
   (ha:∀v,assign (.Subscript o i pos) X.env v=(do
     let ov <-holding [v] (eval o X.env)
     let iv <-holding [v,ov] (eval i X.env)
     standAt pos
     holding [v,ov,iv] (setItem ov iv v)
     release [v,ov,iv] []):=by intro _;rfl):PG X (.Subscript o i pos) (ch4 to ti t):=by
 intro pins s σ H v u Q I r h;rw[ha];refine wpAny_bind (wpAny_holding (o5 (ho pins s σ H _ I h) fun ov s1 ⟨x,H1,I1,r1,q1⟩=> ?_));refine wpAny_bind (wpAny_holding (o5 (hi pins s1 σ H1 _ I1 q1) fun iv s2 ⟨y,H2,I2,r2,q2⟩=> ?_));refine wpAny_bind (wpAny_standAt (wpAny_bind (wpAny_holding (o5 (hs pins s2 σ H2 x y v ov iv u _ I2 r1 r2 r q2) fun _ s3 ⟨H3,I3,q3⟩=> ?_))));exact wpAny_release ⟨σ,H3,I3,q3⟩
def bz2 (te:TE)(g:TG):TS:=fun D σ H=>te σ H fun x H1=>g x σ H1 D.nx
theorem Y5 {tg e:Expr}{te:TE}{g:TG}(he:PE X e te)(hg:PG X tg g)(hs:swapsWithSole [tg] e pos.line X.env=pure false:=by rfl)(hw:swappedStores [tg] e X.env=pure none:=by rfl)
   (h1:(assignEach [tg] X.env).map (·.2)=[assign tg X.env]:=by rfl):PS X (.Assign [tg] e pos) (bz2 te g):=by
 intro pins s σ H D I h;refine wpAny_Assign_stores (o5 (he pins s σ H _ I h) fun v s1 ⟨x,H1,I1,r1,q1⟩=> ?_) hs hw;rw[h1]
 exact o5 (hg pins s1 σ H1 x v _ I1 r1 q1) fun _ s2 q=>q
theorem k6 {i:Nat}{x:Str}{e:Expr}{te:TE}{pos':Pos}(hN:X.N.Nodup)(hi:X.N[i]? =some x)(hx:Loc X.env.scope x)(he:PE X e te)(hs:swapsWith e (some (.Name x pos')) pos.line X.env=pure false:=by rfl)(hf:X.fn x=true\/X.env.scope.names.lookup x=some .local:=by first|exact .inl rfl|exact .inr rfl|assumption):
   PS X (.Assign [.Name x pos'] e pos) (bz2 te (at2 i)):=by
 intro pins s σ H D I h;refine wpAny_Assign_Name (o5 (he pins s σ H _ I h) fun v s1 ⟨y,H1,I1,r1,q1⟩=> ?_) hs;exact ah8 I1 hN hi hx r1 (fun s2 I2=>⟨_,H1,I2,q1⟩) hf
end
section
variable {X:Cx} {pos:Pos}
def bh9 (c:TT)(tb:TS):TS:=fun D σ H=>∃W:Nat->St->Hp->Prop,(∃m,W m σ H)/\∀m σ H,W m σ H->
 c σ H fun b H1=>if b=true then ∃N:St->Hp->Prop,(∀σ' H',N σ' H'->∃m',m' < m/\W m' σ' H')/\tb {D with nx:=N,ct:=N,bk:=D.nx} σ H1 else D.nx σ H1
theorem U7 {c:Expr}{body:List Stmt}{tc:TT}{tb:TS}(hp:PassesOwn (model X.prog X.w) X.A X.env X.xe)(hc:PT X c tc)(hb:S3 X body tb):PS X (.While c body [] pos) (bh9 tc tb):=by
 intro pins s σ H D I h;obtain ⟨W,⟨m0,w0⟩,turn⟩:=h;refine wpAny_While (codeAny_whileLoop (fun n s'=>∃σ' H',h8 X pins σ' H' s'/\W n σ' H') ?_ m0 ⟨σ,H,I,w0⟩);rintro n s1 ⟨σ1,H1,I1,w1⟩;refine wpAny_passesOwn hp (o5 (hc pins s1 σ1 H1 _ I1 (turn n σ1 H1 w1)) fun b s2 ⟨H2,I2,q2⟩=> ?_)
 cases b with
 |true=>
  obtain ⟨N,hN,q2⟩:=q2;rw[if_pos rfl];refine wpAny_passesOwn hp (o5 (hb pins s2 σ1 H2 _ I2 q2) fun f s3 q3=> ?_)
  cases f with
  |next=>
   obtain ⟨σ3,H3,I3,n3⟩:=q3;obtain ⟨m',hm,w3⟩:=hN σ3 H3 n3;exact ⟨m',hm,σ3,H3,I3,w3⟩
  |cont=>
   obtain ⟨σ3,H3,I3,n3⟩:=q3;obtain ⟨m',hm,w3⟩:=hN σ3 H3 n3;exact ⟨m',hm,σ3,H3,I3,w3⟩
  |brk=>exact q3
  |ret v=>exact q3
 |false=>
  rw[if_neg cl7];exact wpAny_execs_nil ⟨σ1,H2,I2,q2⟩
end
structure It where
 go:Nat->Hp->Prop
 yld:Nat->Hp->V->Hp->Prop
 stop:Nat->Hp->Prop
def ac2 (X:Cx)(pins:List (Addr×Obj))(H:Hp)(b:Addr):Prop:=
 H b=none/\b≠X.env.locals/\b∉X.fs/\(b∈X.ex\/X.s₀.heap.objs.size<=b)/\(∀x c,X.env.cells.lookup x=some c->c≠b)/\∀p∈X.pn++pins,p.1≠b
theorem h8.fpOk {X:Cx}{pins:List (Addr×Obj)}{σ:St}{H H':Hp}{s:Shared}{b:Addr}(I:h8 X pins σ H s)(hb:s.heap.objs.size<=b)(hn:H' b=none):ac2 X pins H' b:=by
 refine ⟨hn,Nat.ne_of_gt (cm5 I.lt hb),I.nofs hb,.inr (cn2 I.sz hb),fun x c e z=> ?_,fun p hp z=> ?_⟩
 · obtain ⟨v,q⟩:=I.cell x c e;exact absurd (cm5 q.lt (by rw[z];exact hb)) (cq8 _)
 · exact absurd (cm5 (Heap.lt_size (I.pin p hp).1) (by rw[z];exact hb)) (cq8 _)
structure bd9 (P:Program)(w:World)(K:PySem.W.Frag)(tg:Expr)(J:It)(fp:List Addr)(it:Addr)(tn:Nat->Heap->Prop):Prop where
 mem:it∈fp
 obj:∀i h,tn i h->∀b∈fp,∃o,h.get? b=some o/\∀v,o.data≠.cell v
 keep:∀i h h',tn i h->(∀b∈fp,∀o,h.get? b=some o->h'.get? b=some o)->tn i h'
 item:∀(X:Cx),X.prog=P->X.w=w->X.K=K->X.calm=true->∀(i:Nat) (pins:List (Addr×Obj)) (s:Shared) (σ:St) (H:Hp) (E:Value->Shared->Prop),h8 X pins σ H s->(∀b∈fp,ac2 X pins H b)->tn i s.heap->J.go i H->
   wpAny (model P w) X.A (pyNext (.ref it)) (fun r s1=>∃u,r=some u/\
     wpAny (model P w) X.A (letOwnedTupleGo tg (.ref it) u) (fun _ s2=>∃x H',h8 X pins σ H' s2/\o8 x u/\J.yld i H x H'/\tn (i+1) s2.heap/\∀b∈fp,H' b=none) E s1) E s
 done:∀(X:Cx),X.prog=P->X.w=w->X.K=K->X.calm=true->∀(i:Nat) (pins:List (Addr×Obj)) (s:Shared) (σ:St) (H:Hp) (E:Value->Shared->Prop),h8 X pins σ H s->(∀b∈fp,ac2 X pins H b)->tn i s.heap->J.stop i H->
   wpAny (model P w) X.A (pyNext (.ref it)) (fun r s1=>r=none/\h8 X pins σ H s1) E s
 self:∀(A:Around) (i:Nat) (s:Shared) (Q:Value->Shared->Prop) (E:Value->Shared->Prop),tn i s.heap->Q (.ref it) s->wpAny (model P w) A (pyIter (.ref it)) Q E s
abbrev TI:=St->Hp->(It->Hp->Prop)->Prop
def PIE (X:Cx)(pins:List (Addr×Obj))(σ:St)(tg:Expr)(R:It->Hp->Prop)(itv:Value)(s2:Shared):Prop:=
 ∃(it:Addr) (fp:List Addr) (tn:Nat->Heap->Prop) (J:It) (H':Hp),itv= .ref it/\h8 X pins σ H' s2/\bd9 X.prog X.w X.K tg J fp it tn/\tn 0 s2.heap/\(∀b∈fp,ac2 X pins H' b)/\R J H'
def PI (X:Cx)(tg iter:Expr)(wi:TI):Prop:=
 ∀(pins:List (Addr×Obj)) (s:Shared) (σ:St) (H:Hp) (R:It->Hp->Prop),h8 X pins σ H s->wi σ H R->
  wpAny (model X.prog X.w) X.A (eval iter X.env) (fun v s1=>wpAny (model X.prog X.w) X.A (pyIter v) (PIE X pins σ tg R) X.xe s1) X.xe s
theorem bs8 {M:Model}{A:Around}{E:Value->Shared->Prop}{s:Shared}{tg:Expr}{it:Addr}{u:Value}{o:Obj}{n:String}{vs:Array Value}{Q:Unit->Shared->Prop}(ho:s.heap.get? it=some o)(hc:o.cls= .type n)(hd:o.data= .fields vs)
   (hn:["enumerate","zip","dict_itemiterator","dict_reverseitemiterator","odict_iterator","itertools.zip_longest","itertools.pairwise"].contains n=false) (hQ:Q () s):wpAny M A (letOwnedTupleGo tg (.ref it) u) Q E s:=by
 unfold letOwnedTupleGo
 cases tg<;>first
   |exact wpAny_pure hQ
   |(cases u<;>first
       |exact wpAny_pure hQ
       |(refine wpAny_bind (wpAny_load ho ?_)
         rw[hc,hd];show wpAny M A (if (["enumerate","zip","dict_itemiterator","dict_reverseitemiterator","odict_iterator","itertools.zip_longest","itertools.pairwise"].contains n&&vs[0]? ==some (rawInt _))=true then _ else _) Q E s;rw[if_neg (by intro h;rw[hn,Bool.false_and] at h;cases h)]
         exact wpAny_pure hQ))
def Itl (K:PySem.W.Frag)(a:Addr):It:=
 ⟨fun i H=>∃xs x,i7 K H a xs/\xs[i]? =some x,fun i H x H'=>H'=H/\∀xs,i7 K H a xs->xs[i]? =some x,fun i H=>∃xs,i7 K H a xs/\xs.length<=i⟩
def Itr (lo:Int)(n:Nat):It:=⟨fun i _=>i < n,fun i H x H'=>H'=H/\x= .int (lo+i),fun i _=>n<=i⟩
theorem bi0 {P:Program}{w:World}{K:PySem.W.Frag}{tg:Expr}(a it:Addr):bd9 P w K tg (Itl K a) [it] it (fun i h=>h.IsListIter it a i) where
 mem:=by simp
 obj:=fun i h st b hb=>by
   have e:b=it:=by simpa using hb
   subst e;obtain ⟨o,e,c,d⟩:=st;exact ⟨o,e,fun v z=>by rw[d] at z;cases z⟩
 keep:=fun i h h' st k=>st.at fun o e=>k it (by simp) o e
 item:=by
   intro X hP hw hK hc i pins s σ H E I hf st hg;subst hP hw hK;obtain ⟨xs,x,hq,hx⟩:=hg;obtain ⟨its,rv,p,hz⟩:=I.list hq;obtain ⟨u,hu,ru⟩:=rv.get hx;obtain ⟨f0,f1,f2,f3,f4,f5⟩:=hf it (by simp)
   refine wpAny_pyNext_list_item st p.isList (x:=u) (by simpa using hu) fun h' st' sb=> ?_
   have I1:h8 X pins σ H {s with heap:=h'}:=I.turned (t':=s.toks) (fun b o hb e=>(sb.2 b hb).trans e) f0 f1 f3 f4 f5;obtain ⟨o,e,c,d⟩:=id st';exact ⟨u,rfl,bs8 (s:={s with heap:=h'}) e c d (by decide) ⟨x,H,I1,ru,⟨rfl,fun ys hy=>by rw[I.list_inj hy hq];exact hx⟩,st',fun b hb=>(hf b hb).1⟩⟩
 done:=by
   intro X hP hw hK hc i pins s σ H E I hf st hg;subst hP hw hK;obtain ⟨xs,hq,hx⟩:=hg;obtain ⟨its,rv,p,hz⟩:=I.list hq;obtain ⟨f0,f1,f2,f3,f4,f5⟩:=hf it (by simp);have hl:=rv.length
   exact wpAny_pyNext_list_end (I.ok.hd hc) st p.isList (by simp;omega) fun h' eb=>⟨rfl,I.turned (t':=s.toks) (fun b o hb e=>eb b o hb e) f0 f1 f3 f4 f5⟩
 self:=fun _ _ _ _ _ st h=>wpAny_pyIter_listiter st h
theorem be0 {P:Program}{w:World}{K:PySem.W.Frag}{tg:Expr}(it:Addr)(lo:Int)(n:Nat):bd9 P w K tg (Itr lo n) [it] it (fun i h=>IsRangeIter h it (lo+(i:Nat)*1) ((n:Int) - (i:Nat)) 1) where
 mem:=by simp
 obj:=fun i h st b hb=>by
   have e:b=it:=by simpa using hb
   subst e
   exact ⟨_,st,fun v z=>by
     have z':Data.fields _=Data.cell v:=z
     cases z'⟩
 keep:=fun i h h' st k=>k it (by simp) _ st
 item:=by
   intro X hP hw hK hc i pins s σ H E I hf st hg;subst hP hw hK;obtain ⟨f0,f1,f2,f3,f4,f5⟩:=hf it (by simp);have W:=Walks.range (prog:=X.prog) (w:=X.w) (I.ok.hd hc) it lo 1 n
   refine W.item i s _ _ hg st fun v h' tk hv st' kk=> ?_
   obtain ⟨t,rfl⟩:=hv;have I1:h8 X pins σ H {s with heap:=h',toks:=tk}:=I.turned (fun b o hb e=>kk b o (by simpa using hb) e) f0 f1 f3 f4 f5;refine ⟨_,rfl,bs8 (s:={s with heap:=h',toks:=tk}) (n:="range_iterator") st' rfl rfl (by decide) ⟨.int (lo+i),H,I1,⟨t,?_⟩,⟨rfl,rfl⟩,st',fun b hb=>(hf b hb).1⟩⟩;rw[Int.mul_one]
 done:=by
   intro X hP hw hK hc i pins s σ H E I hf st hg;subst hP hw hK;obtain ⟨f0,f1,f2,f3,f4,f5⟩:=hf it (by simp)
   exact wpAny_pyNext_range_end (I.ok.hd hc) st (by have:n<=i:=hg;omega) fun h' eb=>⟨rfl,I.turned (t':=s.toks) (fun b o hb e=>eb b o hb e) f0 f1 f3 f4 f5⟩
 self:=fun _ _ _ _ _ st h=>wpAny_pyIter_rangeiter st h
end L2
namespace L2
open PySem PySem.Spec PyProof.Rows
section
variable {X:Cx} {tg:Expr}
def cd8 (K:PySem.W.Frag)(tl:TE):TI:=fun σ H R=>tl σ H fun x H1=>∃a,x= .ref a/\(∃xs,i7 K H1 a xs)/\R (Itl K a) H1
theorem D1 {l:Expr}{tl:TE}(hl:PE X l tl):PI X tg l (cd8 X.K tl):=by
 intro pins s σ H R I h
 refine o5 (hl pins s σ H _ I h) fun v s1 ⟨x,H1,I1,r1,q1⟩=> ?_
 obtain ⟨a,e,⟨xs,hq⟩,q⟩:=q1;subst e;cases r1;obtain ⟨its,rv,p,hz⟩:=I1.list hq;refine wpAny_pyIter_list p.isList ?_;refine ⟨s1.heap.objs.size,[s1.heap.objs.size],_,_,H1,rfl,I1.kept (t':=s1.toks) fun b o e=>Heap.get?_push_of_some _ e,bi0 a _,⟨_,Heap.get?_push_size _ rfl,rfl,rfl⟩,fun b hb=> ?_,q⟩
 have e:b=s1.heap.objs.size:=by simpa using hb
 subst e;exact I1.fpOk (ck8 _) (I1.hok.fresh (ck8 _))
theorem bo2 {pins:List (Addr×Obj)}{σ:St}{H:Hp}{s:Shared}{R:It->Hp->Prop}{E:Value->Shared->Prop}{lo hi:Int}{t u v:Tok}{tk:Nat}(I:h8 X pins σ H s)(h1: -(2^62)<=lo)(h2:lo < 2^62)(h3: -(2^62)<=hi)(h4:hi < 2^62)
   (q:R (Itr lo (hi - lo).toNat) H):wpAny (model X.prog X.w) X.A (pyIter (.ref s.heap.objs.size)) (PIE X pins σ tg R) E {s with heap:=s.heap.push {cls:= .type "range",data:= .fields #[.int lo t,.int hi u,.int 1 v]},toks:=tk}:=by
 refine wpAny_pyIter_range (IsRange.new ..) (small_one h1 h2 h3 h4) ?_
 have I1:h8 X pins σ H {s with heap:=s.heap.push {cls:= .type "range",data:= .fields #[.int lo t,.int hi u,.int 1 v]},toks:=tk}:=I.kept fun b o e=>Heap.get?_push_of_some _ e
 refine ⟨(s.heap.push {cls:= .type "range",data:= .fields #[.int lo t,.int hi u,.int 1 v]}).objs.size,[(s.heap.push {cls:= .type "range",data:= .fields #[.int lo t,.int hi u,.int 1 v]}).objs.size],_,_,H,rfl,
   I1.kept (t':=tk) fun b o e=>Heap.get?_push_of_some _ e,be0 _ lo (hi - lo).toNat,?_,fun b hb=> ?_,q⟩
 · have e1:lo+((0:Nat):Int)*1=lo:=by simp
   have e2:(((hi - lo).toNat:Nat):Int) - ((0:Nat):Int)=Builtin.Range.rangeSize lo hi 1:=by rw[rangeSize_one];split<;>omega
   show IsRangeIter _ _ (lo+((0:Nat):Int)*1) ((((hi - lo).toNat:Nat):Int) - ((0:Nat):Int)) 1;rw[e1,e2];exact Heap.get?_push_size _ rfl
 · have e:b=(s.heap.push {cls:= .type "range",data:= .fields #[.int lo t,.int hi u,.int 1 v]}).objs.size:=by simpa using hb
   subst e;exact I1.fpOk (ck8 _) (I1.hok.fresh (ck8 _))
def cd9 (ta:TA):TI:=fun σ H R=>ta σ H fun vs H1=>∃j:Int,vs=[.int j]/\ -(2^62)<=j/\j < 2^62/\R (Itr 0 j.toNat) H1
theorem R3 {a:Expr}{ta:TA}{p pos:Pos}(hg:Gl X "range")(hm:X.mg "range"=none)(ha:PA X [a] ta)(hs:starEach [a] X.env=[(false,eval a X.env)]:=by rfl):PI X tg (.Call (.Name "range" p) [a] [] pos) (cd9 ta):=by
 intro pins s σ H R I h;refine Call_ (Y3 I hg hm boot_range (PyProof.Rows.callWith_type1 (o5 (ha pos pins s σ H _ I h) fun us s1 ⟨vs,H1,I1,r1,q1⟩=> ?_) hs rfl));obtain ⟨j,e,q1,q2,q⟩:=q1;subst e
 cases r1 with
 |cons r rr=>
  cases rr;obtain ⟨t,rfl⟩:=r;exact call_range_1 (bo2 I1 (by omega) (by omega) q1 q2 (by simpa using q))
def ch5 (wi:TI)(g:TG)(tb:TS):TS:=fun D σ H=>wi σ H fun J H1=>∃W:Nat->Nat->St->Hp->Prop,(∃m,W 0 m σ H1)/\∀i m σ H,W i m σ H->
 (J.stop i H/\D.nx σ H)\/(J.go i H/\∃N:St->Hp->Prop,(∀σ' H',N σ' H'->∃m',m' < m/\W (i+1) m' σ' H')/\∀x H',J.yld i H x H'->g x σ H' fun σ2 H2=>tb {D with nx:=N,ct:=N,bk:=D.nx} σ2 H2)
def U8 (fp:List Addr)(h:Heap):List (Addr×Obj):=fp.filterMap fun b=>(h.get? b).map fun o=>(b,o)
theorem S7 {fp:List Addr}{h:Heap}{b:Addr}{o:Obj}(hb:b∈fp)(e:h.get? b=some o):(b,o)∈U8 fp h:=cw4.mpr ⟨b,hb,by rw[e];rfl⟩
theorem aq2 {fp:List Addr}{h:Heap}{p:Addr×Obj}(hp:p∈U8 fp h):p.1∈fp/\h.get? p.1=some p.2:=by
 obtain ⟨b,hb,e⟩:=cw4.mp hp
 cases q:h.get? b with
 |none=>rw[q] at e;cases e
 |some o=>
  rw[q] at e;have e':(b,o)=p:=Option.some.inj e;subst e';exact ⟨hb,q⟩
theorem h8.pinned {pins:List (Addr×Obj)}{σ:St}{H:Hp}{s:Shared}{fp:List Addr}(I:h8 X pins σ H s)(hf:∀b∈fp,ac2 X pins H b)(ho:∀b∈fp,∃o,s.heap.get? b=some o/\∀v,o.data≠.cell v):h8 X (pins++U8 fp s.heap) σ H s:=
 I.pins_of fun p hp=>(cm1.mp hp).elim (fun z=>I.pin p (cm0 _ z)) fun z=>by
   obtain ⟨hb,e⟩:=aq2 z;obtain ⟨f0,f1,f2,_⟩:=hf p.1 hb;obtain ⟨o,e',d⟩:=ho p.1 hb;rw[e] at e';cases e';exact ⟨e,f0,f1,f2,d⟩
theorem h8.unpinned {pins pl:List (Addr×Obj)}{σ:St}{H:Hp}{s:Shared}(I:h8 X (pins++pl) σ H s):h8 X pins σ H s:=I.pins_of fun p hp=>I.pin p (cm0 _ (cs1 _ hp))
theorem E2 {iter:Expr}{body:List Stmt}{wi:TI}{g:TG}{tb:TS}{pos:Pos}(hp:PassesOwn (model X.prog X.w) X.A X.env X.xe)(hc:X.calm=true)(hi:PI X tg iter wi)(hg:PG X tg g)(hb:S3 X body tb)
   (hs:∀x,foldedSetIterable iter X.env x=pure x:=by intro _;rfl):PS X (.For tg iter body [] pos) (ch5 wi g tb):=by
 intro pins s σ H D I h;refine wpAny_For (o5 (hi pins s σ H _ I h) fun v s1 h1=>o5 h1 fun itv s2 h2=> ?_) hs;obtain ⟨it,fp,tn,J,H2,e,I2,T,st2,f2,W,⟨m0,w0⟩,turn⟩:=h2;subst e
 have stat:∀{H':Hp},(∀b∈fp,H' b=none)->∀b∈fp,ac2 X pins H' b:=fun hn b hb=>⟨hn b hb,(f2 b hb).2⟩
 refine codeAny_forLoop_any (fun n s'=>∃i σ' H',h8 X pins σ' H' s'/\tn i s'.heap/\(∀b∈fp,H' b=none)/\W i n σ' H') ?_ m0 ⟨0,σ,H2,I2,st2,fun b hb=>(f2 b hb).1,w0⟩;rintro n s3 ⟨i,σ3,H3,I3,st3,fr3,w3⟩
 rcases turn i n σ3 H3 w3 with ⟨stop,qn⟩|⟨go,N,hN,step⟩
 · refine wpAny_passesOwn hp (o5 (T.done X rfl rfl rfl hc i pins s3 σ3 H3 X.xe I3 (stat fr3) st3 stop) fun r s4 ⟨hr,I4⟩=> ?_);subst hr;exact wpAny_execs_nil ⟨σ3,H3,I4,qn⟩
 · refine wpAny_passesOwn hp (o5 (T.item X rfl rfl rfl hc i pins s3 σ3 H3 X.xe I3 (stat fr3) st3 go) fun r s4 ⟨u,hr,h4⟩=> ?_);subst hr;refine wpAny_passesOwn hp (o5 h4 fun _ s5 ⟨x,H5,I5,r5,y5,st5,fr5⟩=> ?_);have I5':=I5.pinned (stat fr5) (T.obj _ _ st5);refine wpAny_passesOwn hp (o5 (hg _ s5 σ3 H5 x u _ I5' r5 (step x H5 y5)) fun _ s6 ⟨σ6,H6,I6,q6⟩=> ?_);refine wpAny_passesOwn hp (o5 (hb _ s6 σ6 H6 _ I6 q6) fun f s7 q7=> ?_)
   have again:∀{σ7:St} {H7:Hp},h8 X (pins++U8 fp s5.heap) σ7 H7 s7->N σ7 H7->∃m,m < n/\∃i σ' H',h8 X pins σ' H' s7/\tn i s7.heap/\(∀b∈fp,H' b=none)/\W i m σ' H':=fun {σ7 H7} I7 n7=>by
     obtain ⟨m',hm,w7⟩:=hN σ7 H7 n7;refine ⟨m',hm,i+1,σ7,H7,I7.unpinned,T.keep _ _ _ st5 fun b hb o e=>(I7.pin (b,o) (cm0 _ (cm0 _ (S7 hb e)))).1,fun b hb=> ?_,w7⟩;obtain ⟨o,e,d⟩:=T.obj _ _ st5 b hb;exact (I7.pin (b,o) (cm0 _ (cm0 _ (S7 hb e)))).2.1
   cases f with
   |next=>obtain ⟨σ7,H7,I7,n7⟩:=q7;exact again I7 n7
   |cont=>obtain ⟨σ7,H7,I7,n7⟩:=q7;exact again I7 n7
   |brk=>obtain ⟨σ7,H7,I7,q7⟩:=q7;exact ⟨σ7,H7,I7.unpinned,q7⟩
   |ret v=>obtain ⟨x7,σ7,H7,I7,r7,q7⟩:=q7;exact ⟨x7,σ7,H7,I7.unpinned,r7,q7⟩
end
theorem I0 {K:PySem.W.Frag}{a:Addr}{xs:List V}{g:TG}{tb:TS}{D:U6}{σ:St}{H:Hp}(Pv:Nat->St->Hp->Prop)(h0:Pv 0 σ H)(hl:∀i σ H,i<=xs.length->Pv i σ H->i7 K H a xs)
   (hs:∀i x σ H,xs[i]? =some x->Pv i σ H->g x σ H fun σ2 H2=>tb {D with nx:=Pv (i+1),ct:=Pv (i+1),bk:=D.nx} σ2 H2) (hd:∀σ H,Pv xs.length σ H->D.nx σ H):
   ∃W:Nat->Nat->St->Hp->Prop,(∃m,W 0 m σ H)/\∀i m σ H,W i m σ H->
    ((Itl K a).stop i H/\D.nx σ H)\/((Itl K a).go i H/\∃N:St->Hp->Prop,(∀σ' H',N σ' H'->∃m',m' < m/\W (i+1) m' σ' H')/\∀x H',(Itl K a).yld i H x H'->g x σ H' fun σ2 H2=>tb {D with nx:=N,ct:=N,bk:=D.nx} σ2 H2):=by
 refine ⟨fun i m σ H=>m=xs.length - i/\i<=xs.length/\Pv i σ H,⟨xs.length,by simp,cn3 _,h0⟩,?_⟩;rintro i m σ H ⟨rfl,hi,p⟩;have q:=hl i σ H hi p
 by_cases hlt:i < xs.length
 · refine .inr ⟨⟨xs,xs[i],q,by simp [hlt]⟩,Pv (i+1),fun σ' H' p'=>⟨xs.length - (i+1),by omega,rfl,hlt,p'⟩,fun x H' y=> ?_⟩;obtain ⟨e,y⟩:=y;subst e;exact hs i x σ _ (y xs q) p
 · have e:i=xs.length:=by omega
   subst e;exact .inl ⟨⟨xs,q,ck8 _⟩,hd σ H p⟩
theorem X0 {lo:Int}{n:Nat}{g:TG}{tb:TS}{D:U6}{σ:St}{H:Hp}(Pv:Nat->St->Hp->Prop)(h0:Pv 0 σ H)
   (hs:∀i σ H,i < n->Pv i σ H->g (.int (lo+i)) σ H fun σ2 H2=>tb {D with nx:=Pv (i+1),ct:=Pv (i+1),bk:=D.nx} σ2 H2) (hd:∀σ H,Pv n σ H->D.nx σ H):
   ∃W:Nat->Nat->St->Hp->Prop,(∃m,W 0 m σ H)/\∀i m σ H,W i m σ H->
    ((Itr lo n).stop i H/\D.nx σ H)\/((Itr lo n).go i H/\∃N:St->Hp->Prop,(∀σ' H',N σ' H'->∃m',m' < m/\W (i+1) m' σ' H')/\∀x H',(Itr lo n).yld i H x H'->g x σ H' fun σ2 H2=>tb {D with nx:=N,ct:=N,bk:=D.nx} σ2 H2):=by
 refine ⟨fun i m σ H=>m=n - i/\i<=n/\Pv i σ H,⟨n,by simp,cn3 _,h0⟩,?_⟩;rintro i m σ H ⟨rfl,hi,p⟩
 by_cases hlt:i < n
 · refine .inr ⟨hlt,Pv (i+1),fun σ' H' p'=>⟨n - (i+1),by omega,rfl,hlt,p'⟩,fun x H' y=> ?_⟩;obtain ⟨e,y⟩:=y;subst e y;exact hs i σ _ hlt p
 · have e:i=n:=by omega
   subst e;exact .inl ⟨ck8 _,hd σ H p⟩
theorem ai0 {c:TT}{tb:TS}{D:U6}{σ:St}{H:Hp}(Pv:St->Hp->Prop)(μ:St->Hp->Nat)(h0:Pv σ H)
   (hs:∀σ H,Pv σ H->c σ H fun b H1=>if b=true then tb {D with nx:=fun σ' H'=>Pv σ' H'/\μ σ' H' < μ σ H,ct:=fun σ' H'=>Pv σ' H'/\μ σ' H' < μ σ H,bk:=D.nx} σ H1 else D.nx σ H1)
   (mono:∀σ H Q Q',(∀b H1,Q b H1->Q' b H1)->c σ H Q->c σ H Q'):bh9 c tb D σ H:=by
 refine ⟨fun m σ H=>m=μ σ H/\Pv σ H,⟨_,rfl,h0⟩,?_⟩;rintro m σ H ⟨rfl,p⟩;refine mono σ H _ _ (fun b H1 q=> ?_) (hs σ H p)
 cases b with
 |true=>exact ⟨_,fun σ' H' ⟨p',l⟩=>⟨_,l,rfl,p'⟩,q⟩
 |false=>exact q
end L2
namespace L2
open PySem PySem.Spec PyProof.Rows
abbrev R2:=V->V->Hp->VK->Prop
def E3 (X:Cx)(f:Value->Value->Sem Value)(r:R2):Prop:=
 ∀(pins:List (Addr×Obj)) (s:Shared) (σ:St) (H:Hp) (x y:V) (v u:Value) (Q:VK),h8 X pins σ H s->o8 x v->o8 y u->r x y H Q->
  wpAny (model X.prog X.w) X.A (f v u) (EP X pins σ Q) X.xe s
def K8 (X:Cx)(f:Value)(r:List V->Hp->VK->Prop):Prop:=
 ∀(pins:List (Addr×Obj)) (s:Shared) (σ:St) (H:Hp) (xs:List V) (us:List Value) (Q:VK),h8 X pins σ H s->m7 xs us->r xs H Q->
  wpAny (model X.prog X.w) X.A (call f us) (EP X pins σ Q) X.xe s
def tOp (r:R2)(ta tb:TE):TE:=fun σ H Q=>ta σ H fun x H1=>tb σ H1 fun y H2=>r x y H2 Q
def rI (C:Int->Int->Prop)(g:Int->Int->V):R2:=fun x y H Q=>∃i j,x= .int i/\y= .int j/\C i j/\Q (g i j) H
def rI0 (g:Int->Int->V):R2:=fun x y H Q=>∃i j,x= .int i/\y= .int j/\Q (g i j) H
section
variable {X:Cx} {a b c:Expr} {ta tb tc:TE} {pos:Pos}
theorem bo3 (ha:PE X a ta)(hb:PE X b tb){pins:List (Addr×Obj)}{s:Shared}{σ:St}{H:Hp}{R:V->V->Hp->Prop}(I:h8 X pins σ H s)
   (h:ta σ H fun x H1=>tb σ H1 fun y H2=>R x y H2) {Q:Value->Shared->Prop} {f:Value->Value->Sem Value}
   (hf:∀v u s2 x y H2,h8 X pins σ H2 s2->o8 x v->o8 y u->R x y H2->wpAny (model X.prog X.w) X.A (f v u) Q X.xe s2):
   wpAny (model X.prog X.w) X.A (eval a X.env) (fun v s₁=>wpAny (model X.prog X.w) X.A (eval b X.env) (fun u s₂=>wpAny (model X.prog X.w) X.A (f v u) Q X.xe s₂) X.xe s₁) X.xe s:=by
 refine o5 (ha pins s σ H _ I h) fun v s1 ⟨x,H1,I1,r1,q1⟩=> ?_
 refine o5 (hb pins s1 σ H1 _ I1 q1) fun u s2 ⟨y,H2,I2,r2,q2⟩=> ?_
 exact hf v u s2 x y H2 I2 r1 r2 q2
theorem r0 {op:Operator}{r:R2}(ho:E3 X (binaryOp op) r)(ha:PE X a ta)(hb:PE X b tb):PE X (.BinOp a op b pos) (tOp r ta tb):=by
 intro pins s σ H Q I h;exact wpAny_BinOp (bo3 ha hb I h fun v u s2 x y H2 I2 rx ry q=>ho pins s2 σ H2 x y v u Q I2 rx ry q)
theorem opI {f:Value->Value->Sem Value}{C:Int->Int->Prop}{g:Int->Int->Int}
   (rule:∀(i j:Int) (t u:Tok) (s:Shared) (Q:Value->Shared->Prop) (E:Value->Shared->Prop),C i j->Q (.int (g i j) s.toks) {s with toks:=s.toks+1}->wpAny (model X.prog X.w) X.A (f (.int i t) (.int j u)) Q E s):
   E3 X f (rI C fun i j=> .int (g i j)):=by
 intro pins s σ H x y v u Q I rx ry h;obtain ⟨i,j,rfl,rfl,hc,q⟩:=h;obtain ⟨t,rfl⟩:=rx;obtain ⟨t',rfl⟩:=ry;exact rule i j t t' s _ _ hc ⟨.int (g i j),H,I.tok _,⟨_,rfl⟩,q⟩
theorem bz3 {f:Value->Value->Sem Value}{g:Int->Int->Int}
   (rule:∀(i j:Int) (t u:Tok) (s:Shared) (Q:Value->Shared->Prop) (E:Value->Shared->Prop),Q (.int (g i j) s.toks) {s with toks:=s.toks+1}->wpAny (model X.prog X.w) X.A (f (.int i t) (.int j u)) Q E s):
   E3 X f (rI0 fun i j=> .int (g i j)):=by
 intro pins s σ H x y v u Q I rx ry h;obtain ⟨i,j,rfl,rfl,q⟩:=h;obtain ⟨t,rfl⟩:=rx;obtain ⟨t',rfl⟩:=ry;exact rule i j t t' s _ _ ⟨.int (g i j),H,I.tok _,⟨_,rfl⟩,q⟩
theorem be1 {f:Value->Value->Sem Value}{g:Int->Int->Bool}
   (rule:∀(i j:Int) (t u:Tok) (s:Shared) (Q:Value->Shared->Prop) (E:Value->Shared->Prop),Q (.bool (g i j)) s->wpAny (model X.prog X.w) X.A (f (.int i t) (.int j u)) Q E s):
   E3 X f (rI0 fun i j=> .bl (g i j)):=by
 intro pins s σ H x y v u Q I rx ry h;obtain ⟨i,j,rfl,rfl,q⟩:=h;obtain ⟨t,rfl⟩:=rx;obtain ⟨t',rfl⟩:=ry;exact rule i j t t' s _ _ ⟨.bl (g i j),H,I,rfl,q⟩
def ch6 (i j:Int):Prop:=0 < j/\j < 1073741824
def bz4 (i j:Int):Prop:=0<=j/\j<=1000000/\i.natAbs < 2^64
def bo4 (i j:Int):Prop:=(-(2^64) < i/\i < 2^64)\/(-(2^64) < j/\j < 2^64)
theorem bo4.ok {i j:Int}(h:bo4 i j):IntMulOk i j:=by
 rcases h with ⟨h1,h2⟩|⟨h1,h2⟩
 · exact .of_left (intBits_le_64 h1 h2)
 · exact .of_right (intBits_le_64 h1 h2)
theorem J4:E3 X (binaryOp .Add) (rI0 fun i j=> .int (i+j)):=bz3 fun _ _ _ _ _ _ _ q=>add_int q
theorem bz5:E3 X (binaryOp .Sub) (rI0 fun i j=> .int (i - j)):=bz3 fun _ _ _ _ _ _ _ q=>sub_int q
theorem ac3:E3 X (binaryOp .Mult) (rI bo4 fun i j=> .int (i*j)):=opI fun _ _ _ _ _ _ _ hc q=>mul_int q hc.ok
theorem bb0:E3 X (binaryOp .FloorDiv) (rI ch6 fun i j=> .int (i/j)):=opI fun i j _ _ _ _ _ hc q=>by
 have h1:(0:Int) < j:=hc.1;have h2:j < 1073741824:=hc.2;exact floordiv_int (by omega) (by rw[cw6 i (by omega)];exact q) (.inl (PyProof.noPylong_small (by omega)))
theorem N4:E3 X (binaryOp .Mod) (rI (fun _ j=>0 < j) fun i j=> .int (i%j)):=opI fun i j _ _ _ _ _ hc q=>by
 have h1:(0:Int) < j:=hc;exact mod_int' (by omega) (by rw[Int.fmod_eq_emod_of_nonneg i (by omega)];exact q)
theorem bz6:E3 X (binaryOp .Pow) (rI bz4 fun i j=> .int (i^j.toNat)):=opI fun _ _ _ _ _ _ _ hc q=>pow_int_small hc.1 hc.2.1 hc.2.2 q
end
def bz7:V->V->Bool
 | .non,.non=>true| .non,.int _=>true| .int _,.non=>true| .non,.bl _=>true| .bl _,.non=>true| .non,.str _=>true| .str _,.non=>true
 | .int _,.int _=>true| .bl _,.bl _=>true| .str _,.str _=>true| .byt _,.byt _=>true
 | .int _,.str _=>true| .str _,.int _=>true| .bl _,.str _=>true| .str _,.bl _=>true
 |_,_=>false
def rEq:R2:=fun x y H Q=>bz7 x y=true/\Q (.bl (decide (x=y))) H
def rNe:R2:=fun x y H Q=>bz7 x y=true/\Q (.bl (!decide (x=y))) H
theorem bb1 {i j:Int}:decide (V.int i=V.int j)=(i==j):=by
 rw[cq4];simp
theorem bi2 {i j:Bool}:decide (V.bl i=V.bl j)=(i==j):=by
 rw[cq4];simp
theorem bb2 {i j:Str}:decide (V.str i=V.str j)=(i==j):=by
 rw[cq4];simp
theorem bb3 {i j:Array UInt8}:decide (V.byt i=V.byt j)=(i.toList==j.toList):=by
 rw[cq4];cases i;cases j;simp
section
variable {X:Cx} {a b c:Expr} {ta tb tc:TE} {pos:Pos}
theorem p6 {pins:List (Addr×Obj)}{σ:St}{H:Hp}{s:Shared}{Q:VK}{k k':Bool}(I:h8 X pins σ H s)(q:Q (.bl k) H)(e:k=k'):EP X pins σ Q (.bool k') s:=by
 subst e;exact ⟨.bl k,H,I,rfl,q⟩
theorem aj7:E3 X (compareOp .Eq) rEq:=by
 intro pins s σ H x y v u Q I rx ry h;obtain ⟨hs,q⟩:=h
 cases x with
 |non=>
  cases rx
  cases y with
  |non=>cases ry;exact PySem.EqNone.eq_none_none (p6 I q (by simp))
  |bl j=>cases ry;exact PySem.EqNone.eq_none_bool (p6 I q (by simp))
  |int j=>obtain ⟨t',rfl⟩:=ry;exact PySem.EqNone.eq_none_int (p6 I q (by simp))
  |str j=>obtain ⟨t',rfl⟩:=ry;exact PySem.EqNone.eq_none_str (p6 I q (by simp))
  |_=>exact absurd (show false=true from hs) cl7
 |bl i=>
  cases rx
  cases y with
  |non=>cases ry;exact PySem.EqNone.eq_bool_none (p6 I q (by simp))
  |bl j=>cases ry;exact eq_bool (p6 I q bi2)
  |str j=>obtain ⟨t',rfl⟩:=ry;exact PySem.EqMixed.eq_bool_str (p6 I q (by simp))
  |_=>exact absurd (show false=true from hs) cl7
 |int i=>
  obtain ⟨t,rfl⟩:=rx
  cases y with
  |non=>cases ry;exact PySem.EqNone.eq_int_none (p6 I q (by simp))
  |int j=>obtain ⟨t',rfl⟩:=ry;exact eq_int (p6 I q bb1)
  |str j=>obtain ⟨t',rfl⟩:=ry;exact PySem.EqMixed.eq_int_str (p6 I q (by simp))
  |_=>exact absurd (show false=true from hs) cl7
 |str i=>
  obtain ⟨t,rfl⟩:=rx
  cases y with
  |non=>cases ry;exact PySem.EqNone.eq_str_none (p6 I q (by simp))
  |bl j=>cases ry;exact PySem.EqMixed.eq_str_bool (p6 I q (by simp))
  |int j=>obtain ⟨t',rfl⟩:=ry;exact PySem.EqMixed.eq_str_int (p6 I q (by simp))
  |str j=>obtain ⟨t',rfl⟩:=ry;exact eq_str (p6 I q bb2)
  |_=>exact absurd (show false=true from hs) cl7
 |byt i=>
  obtain ⟨t,rfl⟩:=rx
  cases y with
  |byt j=>obtain ⟨t',rfl⟩:=ry;exact PySem.W.eq_bytes (p6 I q bb3)
  |_=>exact absurd (show false=true from hs) cl7
 |_=>cases y<;>exact absurd (show false=true from hs) cl7
theorem Z9:E3 X (compareOp .NotEq) rNe:=by
 intro pins s σ H x y v u Q I rx ry h;obtain ⟨hs,q⟩:=h
 cases x with
 |non=>
  cases rx
  cases y with
  |non=>cases ry;exact PySem.EqNone.ne_none_none (p6 I q (by simp))
  |bl j=>cases ry;exact PySem.EqNone.ne_none_bool (p6 I q (by simp))
  |int j=>obtain ⟨t',rfl⟩:=ry;exact PySem.EqNone.ne_none_int (p6 I q (by simp))
  |str j=>obtain ⟨t',rfl⟩:=ry;exact PySem.EqNone.ne_none_str (p6 I q (by simp))
  |_=>exact absurd (show false=true from hs) cl7
 |bl i=>
  cases rx
  cases y with
  |non=>cases ry;exact PySem.EqNone.ne_bool_none (p6 I q (by simp))
  |bl j=>cases ry;exact ne_bool (p6 I q (congrArg not bi2))
  |str j=>obtain ⟨t',rfl⟩:=ry;exact PySem.EqMixed.ne_bool_str (p6 I q (by simp))
  |_=>exact absurd (show false=true from hs) cl7
 |int i=>
  obtain ⟨t,rfl⟩:=rx
  cases y with
  |non=>cases ry;exact PySem.EqNone.ne_int_none (p6 I q (by simp))
  |int j=>obtain ⟨t',rfl⟩:=ry;exact ne_int (p6 I q (congrArg not bb1))
  |str j=>obtain ⟨t',rfl⟩:=ry;exact PySem.EqMixed.ne_int_str (p6 I q (by simp))
  |_=>exact absurd (show false=true from hs) cl7
 |str i=>
  obtain ⟨t,rfl⟩:=rx
  cases y with
  |non=>cases ry;exact PySem.EqNone.ne_str_none (p6 I q (by simp))
  |bl j=>cases ry;exact PySem.EqMixed.ne_str_bool (p6 I q (by simp))
  |int j=>obtain ⟨t',rfl⟩:=ry;exact PySem.EqMixed.ne_str_int (p6 I q (by simp))
  |str j=>obtain ⟨t',rfl⟩:=ry;exact ne_str (p6 I q (congrArg not bb2))
  |_=>exact absurd (show false=true from hs) cl7
 |byt i=>
  obtain ⟨t,rfl⟩:=rx
  cases y with
  |byt j=>obtain ⟨t',rfl⟩:=ry;exact PySem.W.ne_bytes (p6 I q (congrArg not bb3))
  |_=>exact absurd (show false=true from hs) cl7
 |_=>cases y<;>exact absurd (show false=true from hs) cl7
theorem aj8:E3 X (compareOp .Lt) (rI0 fun i j=> .bl (decide (i < j))):=be1 fun _ _ _ _ _ _ _ q=>lt_int q
theorem ce0:E3 X (compareOp .LtE) (rI0 fun i j=> .bl (decide (i<=j))):=be1 fun _ _ _ _ _ _ _ q=>le_int q
theorem at3:E3 X (compareOp .Gt) (rI0 fun i j=> .bl (decide (j < i))):=be1 fun _ _ _ _ _ _ _ q=>gt_int q
theorem be2:E3 X (compareOp .GtE) (rI0 fun i j=> .bl (decide (j<=i))):=be1 fun _ _ _ _ _ _ _ q=>ge_int q
theorem bi3:E3 X (compareOp .Is) (fun x y H Q=>y= .non/\Q (.bl (decide (x= .non))) H):=by
 intro pins s σ H x y v u Q I rx ry h;obtain ⟨rfl,q⟩:=h;cases ry;refine is_none_gen (p6 I q ?_)
 cases x<;>first
   |(cases rx;rfl)
   |(obtain ⟨t,rfl⟩:=rx;rfl)
theorem af2:E3 X (compareOp .IsNot) (fun x y H Q=>y= .non/\Q (.bl (!decide (x= .non))) H):=by
 intro pins s σ H x y v u Q I rx ry h;obtain ⟨rfl,q⟩:=h;cases ry;refine isnot_none_gen (p6 I q ?_)
 cases x<;>first
   |(cases rx;rfl)
   |(obtain ⟨t,rfl⟩:=rx;rfl)
theorem m8 (b:Expr){op:CmpOp}(h:op≠.In:=by decide)(h2:op≠.NotIn:=by decide):behindInMarks op b=false:=by
 have e1:(op==CmpOp.In)=false:=by cases op<;>first|rfl|exact absurd rfl h
 have e2:(op==CmpOp.NotIn)=false:=by cases op<;>first|rfl|exact absurd rfl h2
 cases b<;>simp [behindInMarks,e1,e2]
theorem G3 {op:CmpOp}{r:R2}(ho:E3 X (compareOp op) r)(ha:PE X a ta)(hb:PE X b tb)(hm:behindInMarks op b=false):PE X (.Compare a [op] [b] pos) (tOp r ta tb):=by
 intro pins s σ H Q I h;exact wpAny_Compare1 (bo3 ha hb I h fun v u s2 x y H2 I2 rx ry q=>ho pins s2 σ H2 x y v u Q I2 rx ry q) hm
def bt0 (t:TE):TT:=fun σ H Q=>t σ H fun x H'=>∃k,x= .bl k/\Q k H'
theorem m9 {op:CmpOp}{r:R2}(ho:E3 X (compareOp op) r)(ha:PE X a ta)(hb:PE X b tb)(hm:behindInMarks op b=false):PT X (.Compare a [op] [b] pos) (bt0 (tOp r ta tb)):=by
 intro pins s σ H Q I h
 refine wpAny_isTrue_Compare1 (o5 (ha pins s σ H _ I h) fun v s1 ⟨x,H1,I1,r1,q1⟩=>o5 (hb pins s1 σ H1 _ I1 q1) fun u s2 ⟨y,H2,I2,r2,q2⟩=>
   o5 (ho pins s2 σ H2 x y v u _ I2 r1 r2 q2) fun c s3 ⟨z,H3,I3,r3,k,e,q3⟩=> ?_) hm
 subst e;cases r3;exact wpAny_truthy_bool ⟨H3,I3,q3⟩
def bz8 (r r':R2)(ta tb tc:TE):TE:=fun σ H Q=>ta σ H fun x H1=>tb σ H1 fun y H2=>r x y H2 fun z H3=>∃k,z= .bl k/\
 (if k=true then tc σ H3 fun w' H4=>r' y w' H4 Q else Q (.bl false) H3)
theorem bo5 {op op':CmpOp}{r r':R2}(ho:E3 X (compareOp op) r)(ho':E3 X (compareOp op') r')(ha:PE X a ta)(hb:PE X b tb)(hc:PE X c tc)
   (hm:lastMarks [op,op'] [b,c]=false:=by with_unfolding_all rfl):PT X (.Compare a [op,op'] [b,c] pos) (bt0 (bz8 r r' ta tb tc)):=by
 intro pins s σ H Q I h
 refine isTrue_chain (o5 (ha pins s σ H _ I h) fun v s1 ⟨x,H1,I1,r1,q1⟩=>test_link (o5 (hb pins s1 σ H1 _ I1 q1) fun u s2 ⟨y,H2,I2,r2,q2⟩=>
   o5 (ho pins s2 σ H2 x y v u _ I2 r1 r2 q2) fun d s3 ⟨z,H3,I3,r3,k,e,q3⟩=> ?_)) hm
 subst e;cases r3;refine wpAny_truthy_bool ?_
 cases k with
 |false=>
  obtain ⟨k',e',q'⟩:=q3;cases e';exact ite_ff ⟨H3,I3,q'⟩
 |true=>
  refine ite_tt (test_last (o5 (hc pins s3 σ H3 _ I3 q3) fun w' s4 ⟨z',H4,I4,r4,q4⟩=>o5 (ho' pins s4 σ H4 y z' u w' _ I4 r2 r4 q4) fun d' s5 ⟨z2,H5,I5,r5,k2,e2,q5⟩=> ?_));subst e2;cases r5;exact wpAny_truthy_bool ⟨H5,I5,q5⟩
theorem aj9:(sizeLine:Nat) < 2^63:=by rw[sizeLine_eq];decide
theorem S8 {x:V}{us:List Value}(r:m7 [x] us):∃u,us=[u]/\o8 x u:=by
 cases r with
 |cons r1 r2=>cases r2;exact ⟨_,rfl,r1⟩
theorem ak0 {x y:V}{us:List Value}(r:m7 [x,y] us):∃u w',us=[u,w']/\o8 x u/\o8 y w':=by
 cases r with
 |cons r1 r2=>
  cases r2 with
  |cons r3 r4=>cases r4;exact ⟨_,_,rfl,r1,r3⟩
theorem bi4 (hc:X.calm=true):K8 X (.builtin "max") (fun xs H Q=>∃i j,xs=[.int i,.int j]/\Q (.int (if j > i then j else i)) H):=by
 intro pins s σ H xs us Q I r h;obtain ⟨i,j,rfl,q⟩:=h;obtain ⟨u,w',rfl,⟨t,rfl⟩,⟨t',rfl⟩⟩:=ak0 r
 refine max_two_ints (I.ok.hd hc) fun h' tk k=>⟨_,H,I.kept k,?_,q⟩
 by_cases hj:j > i
 · rw[if_pos hj,if_pos hj];exact ⟨_,rfl⟩
 · rw[if_neg hj,if_neg hj];exact ⟨_,rfl⟩
theorem bi5 (hc:X.calm=true):K8 X (.builtin "min") (fun xs H Q=>∃i j,xs=[.int i,.int j]/\Q (.int (if j < i then j else i)) H):=by
 intro pins s σ H xs us Q I r h;obtain ⟨i,j,rfl,q⟩:=h;obtain ⟨u,w',rfl,⟨t,rfl⟩,⟨t',rfl⟩⟩:=ak0 r
 refine min_two_ints (I.ok.hd hc) fun h' tk k=>⟨_,H,I.kept k,?_,q⟩
 by_cases hj:j < i
 · rw[if_pos hj,if_pos hj];exact ⟨_,rfl⟩
 · rw[if_neg hj,if_neg hj];exact ⟨_,rfl⟩
end
end L2
namespace L2
open PySem PySem.Spec PyProof.Rows
structure bo6 (h:Heap)(x dx C:Addr)(mA:Str->Option Value):Prop where
 obj:h.get? x=some (PySem.W.instObj C dx)
 ns:h.Ns1 dx mA
 ne:dx≠x
theorem bi6 {h:Heap}{dx:Addr}{mA:Str->Option Value}(n:h.Ns1 dx mA):∃od,h.get? dx=some od/\∀name,PySem.W.lookIn name od=some (mA name):=by
 obtain ⟨o,es,ep,ho,hd,hk,_,hm⟩:=n;refine ⟨o,ho,fun name=> ?_⟩;have e:=hm name;unfold nsFind findBy at e;rw[<-Array.find?_toList] at e;unfold PySem.W.lookIn;rw[hd]
 dsimp only
 split
 · rename_i y q;rw[q] at e;exact congrArg some e
 · rename_i q;rw[q] at e
   have a:es.toList.any (·.refKey)=false:=by
     rw[List.any_eq_false];intro y hy;obtain ⟨z,t,hkey⟩:=hk y (Array.mem_toList_iff.mp hy);simp [DictEntry.refKey,hkey]
   have a':¬es.toList.any (·.refKey)=true:=by rw[a];exact cl7
   rw[if_neg a'];exact congrArg some e
theorem bo6.look {h:Heap}{x dx C:Addr}{mA:Str->Option Value}(I:bo6 h x dx C mA):∃od,PySem.W.InstAt h x (PySem.W.instObj C dx) C (some od)/\∀name,PySem.W.lookIn name od=some (mA name):=
 let ⟨od,ho,hl⟩:=bi6 I.ns
 ⟨od,⟨I.obj,rfl,rfl,ho⟩,hl⟩
section
variable {P:Program} {w:World} {H H':Hp} {h h':Heap} {a C dx:Addr} {fs fs':List (Str×V)}
theorem bt8 (hok:B9 P w H h)(e:H a=some (.ins C dx fs)):∃mA,bo6 h a dx C mA/\(∀f,ah6 (fs.lookup f) (mA f))/\PySem.Within mA (fs.map (·.1))/\fs.length<=1000/\H dx=some (.own a):=by
 obtain ⟨d,z,ne,ob,mA,n,r,q⟩:=(show t5 P w H h a (.ins C dx fs) from hok a _ e);exact ⟨mA,⟨ob,n,ne⟩,r,q,z,d⟩
end
structure Cls (K:PySem.W.Frag)(C:Addr):Prop where
 pg:PySem.W.plainGet K C Str.empty=true
 hd:PySem.W.hasDictIn K C=true
 po:PySem.W.plainOver K C=true
 sa:PySem.W.findIn K (.ref C) "__setattr__"=some (some (.builtin "object.__setattr__"))
theorem Cls.get {K:PySem.W.Frag}{C:Addr}(c:Cls K C)(f:Str):PySem.W.plainGet K C f=true:=c.pg
section
variable {X:Cx} {pins:List (Addr×Obj)} {σ:St} {H:Hp} {s:Shared} {A:Around} {E:Value->Shared->Prop} {Q:Value->Shared->Prop} {c:Value} {b:Bool}
inductive J0 (K:PySem.W.Frag)(H:Hp):V->Value->Prop where
 |non:J0 K H .non (.type "NoneType")
 |bl (x:Bool):J0 K H (.bl x) (.type "bool")
 |int (i:Int):J0 K H (.int i) (.type "int")
 |str (x:Str):J0 K H (.str x) (.type "str")
 |flt (x:UInt64):J0 K H (.flt x) (.type "float")
 |lst {a:Addr} {xs:List V} (e:H a=some (.lst xs)):J0 K H (.ref a) (.type "list")
 |frz {a:Addr} {o:Obj} {xs:List V} (e:H a=some (.frz o (.lst xs))):J0 K H (.ref a) (.type "list")
 |tup {a:Addr} {xs:List V} (e:H a=some (.tup xs)):J0 K H (.ref a) (.type "tuple")
 |dK {a:Addr} {kvs:List (x4×V)} (e:H a=some (.dK kvs)):J0 K H (.ref a) (.type "dict")
 |dT {a:Addr} {kvs:List (List x4×V)} (e:H a=some (.dT kvs)):J0 K H (.ref a) (.type "dict")
 |ins {a C dx:Addr} {fs:List (Str×V)} (e:H a=some (.ins C dx fs)) (cl:Cls K C) (ha:PySem.W.findIn K (.ref C) "__class__"=some (some (.builtin "object.__class__")))
     (hn:PySem.W.specialIn K (.builtin "object.__class__") "__get__"=some (some (.builtin "getset_descriptor.__get__"))) (htk:PySem.W.takesIn K (.builtin "object.__class__")=some true)
     (hm:PySem.W.mroIn K C (.type "object")=some true):J0 K H (.ref a) (.ref C)
theorem bi7 {x:V}{u t:Value}(I:h8 X pins σ H s)(rx:o8 x u)(ty:J0 X.K H x t)(e:PySem.W.kitOne X.K t c=some b)(h:∀tk,Q (.bool b) {s with toks:=tk}):
   wpAny (model X.prog X.w) A (call (.builtin "isinstance") [u,c]) Q E s:=by
 cases ty with
 |non=>cases (show u=Value.none from rx);exact PySem.W.kia_one PySem.W.kitx_none I.kIn True.intro e (fun z=>nomatch z) h
 |bl y=>cases (show u=Value.bool y from rx);exact PySem.W.kia_one PySem.W.kitx_bool I.kIn True.intro e (fun z=>nomatch z) h
 |int i=>obtain ⟨t,q⟩:=(show ∃t,u=Value.int i t from rx);cases q;exact PySem.W.kia_one PySem.W.kitx_int I.kIn True.intro e (fun z=>nomatch z) h
 |str y=>obtain ⟨t,q⟩:=(show ∃t,u=Value.str y t from rx);cases q;exact PySem.W.kia_one PySem.W.kitx_str I.kIn True.intro e (fun z=>nomatch z) h
 |flt y=>obtain ⟨t,q⟩:=(show ∃t,u=Value.float y t from rx);cases q;exact PySem.W.kia_one PySem.W.kitx_float I.kIn True.intro e (fun z=>nomatch z) h
 |@lst a xs ea=>
  cases (show u=Value.ref a from rx);obtain ⟨_,_,n,_,h1⟩:=(show t5 X.prog X.w H s.heap a (.lst xs) from I.hok a _ ea);exact PySem.W.kia_one PySem.W.kitx_list I.kIn ⟨_,h1,rfl⟩ e (fun z=>nomatch z) h
 |@frz a ob xs ea=>
  cases (show u=Value.ref a from rx);obtain ⟨_,_,_,n,_,h1⟩:=(show t5 X.prog X.w H s.heap a (.frz ob (.lst xs)) from I.hok a _ ea);exact PySem.W.kia_one PySem.W.kitx_list I.kIn ⟨_,h1,rfl⟩ e (fun z=>nomatch z) h
 |@tup a xs ea=>
  cases (show u=Value.ref a from rx);obtain ⟨_,_,_,p⟩:=(show t5 X.prog X.w H s.heap a (.tup xs) from I.hok a _ ea);obtain ⟨o,h1,h2,_⟩:=p;exact PySem.W.kia_one PySem.W.kitx_tuple I.kIn ⟨o,h1,h2⟩ e (fun z=>nomatch z) h
 |@dK a kvs ea=>
  cases (show u=Value.ref a from rx);obtain ⟨_,_,vs,_,p⟩:=(show t5 X.prog X.w H s.heap a (.dK kvs) from I.hok a _ ea);obtain ⟨o,es,ep,h1,h2,_⟩:=p;exact PySem.W.kia_one PySem.W.kitx_dict I.kIn ⟨o,h1,h2.1⟩ e (fun z=>nomatch z) h
 |@dT a kvs ea=>
  cases (show u=Value.ref a from rx);obtain ⟨_,_,xs,_,o,es,ep,h1,h2,_⟩:=(show t5 X.prog X.w H s.heap a (.dT kvs) from I.hok a _ ea);exact PySem.W.kia_one PySem.W.kitx_dict I.kIn ⟨o,h1,h2.1⟩ e (fun z=>nomatch z) h
 |@ins a C dx fs ea cl ha hn htk hm=>
  cases (show u=Value.ref a from rx);obtain ⟨mA,O,_⟩:=bt8 I.hok ea;obtain ⟨od,J,_⟩:=O.look;exact PySem.W.kia_one (PySem.W.kitx_own (cl.get _) cl.hd ha hn htk hm) I.kIn J e (fun z=>nomatch z) h
end
end L2
namespace L2
open PySem PySem.Spec PyProof.Rows
structure o6 (k:Nat)(A:Around):Prop where
 hd:A.handled=none
 dp:A.depth+3*k+5 < recursionLimit
 un:A.units+16*k+200 < cLine
 gd:A.guards=some []
theorem o6.mono {j k:Nat}{A:Around}(r:o6 k A)(h:j<=k):o6 j A:=⟨r.hd,by have:=r.dp;omega,by have:=r.un;omega,r.gd⟩
theorem o6.deeper {k:Nat}{A:Around}(r:o6 (k+1) A)(env:Env):o6 k (A.deeper env):=
 ⟨r.hd,by have:=r.dp;show A.depth+1+3*k+5 < _;omega,by have:=r.un;show A.units+3+16*k+200 < _;omega,r.gd⟩
theorem o6.depth {k:Nat}{A:Around}(r:o6 k A):A.depth < recursionLimit:=by have:=r.dp;omega
theorem o6.units {k:Nat}{A:Around}(r:o6 k A):A.units+64 < cLine:=by have:=r.un;omega
def au6:TA:=fun _ H Q=>Q [] H
def ak1 (ta:TE)(tr:TA):TA:=fun σ H Q=>ta σ H fun x H1=>tr σ H1 fun xs H2=>Q (x::xs) H2
section
variable {X:Cx} {e:Expr} {es:List Expr} {te:TE} {t:TA} {pos:Pos}
theorem c6:PA X [] au6:=fun _ _ _ _ H Q I h=>Calls.spliced_nil ⟨[],H,I,.nil,h⟩
theorem c5 (ha:PE X e te)(hr:PA X es t)(hs:starEach (e::es) X.env=(false,eval e X.env)::starEach es X.env:=by rfl):PA X (e::es) (ak1 te t):=by
 intro pos pins s σ H Q I h;rw[hs];show wpAny _ _ (spliced ((false,eval e X.env)::backTo pos (starEach es X.env))) _ _ s;refine Calls.spliced_cons (o5 (ha pins s σ H _ I h) fun u s1 ⟨x,H1,I1,r1,q1⟩=> ?_)
 exact o5 (hr pos pins s1 σ H1 _ I1 q1) fun us s2 ⟨xs,H2,I2,r2,q2⟩=>⟨x::xs,H2,I2,.cons r1 r2,q2⟩
def ch7 (t:TA):TE:=fun σ H Q=>t σ H fun xs H1=>xs.length<=sizeLine/\∀p,H1 p=none->Q (.ref p) (e8 H1 p (.tup xs))
def ch8 (t:TA):TE:=fun σ H Q=>t σ H fun xs H1=>xs.length<=sizeLine/\∀p,H1 p=none->Q (.ref p) (e8 H1 p (.lst xs))
theorem U9 {x1}(h:PA X es t):PE X (.Tuple es x1 pos) (ch7 t):=by
 intro pins s σ H Q I hq;refine wpAny_Tuple_spliced (o5 (h pos pins s σ H _ I hq) fun us s1 ⟨xs,H1,I1,r,z,q⟩=>⟨by rw[<-r.length];exact z,?_⟩);have hf:H1 s1.heap.objs.size=none:=I1.hok.fresh (ck8 _);refine ⟨.ref s1.heap.objs.size,e8 H1 s1.heap.objs.size (.tup xs),I1.laid (t':=s1.toks) (fun b u e=>Heap.get?_push_of_some _ e) (ck8 _) ?_,rfl,q _ hf⟩;exact ⟨z,us,r,⟨_,Heap.get?_push_size _ rfl,rfl,_,rfl⟩⟩
theorem x6 (h:PA X es t):PE X (.List es pos) (ch8 t):=by
 intro pins s σ H Q I hq;refine wpAny_List_spliced (o5 (h pos pins s σ H _ I hq) fun us s1 ⟨xs,H1,I1,r,z,q⟩=>⟨by rw[<-r.length];exact z,?_⟩);have hf:H1 s1.heap.objs.size=none:=I1.hok.fresh (ck8 _);refine ⟨.ref s1.heap.objs.size,e8 H1 s1.heap.objs.size (.lst xs),I1.laid (t':=s1.toks) (fun b u e=>Heap.get?_push_of_some _ e) (ck8 _) ?_,rfl,q _ hf⟩;exact ⟨z,us,0,r,Heap.get?_push_size _ rfl⟩
end
abbrev Sp:=List V->Hp->VK->XK->Prop
abbrev S4:=List Env->Hp->Shared->XK->Value->Shared->Prop
structure be3 (P:Program)(w:World)(K:PySem.W.Frag)(mg:Str->Option Value)(base:Heap)(A:Around)(outer:List Env)(s:Shared)(H:Hp):Prop where
 frames:A.frames=some outer
 mod:Mod K mg base
 bs:∀b o,base.get? b=some o->s.heap.get? b=some o/\H b=none
 bsz:base.objs.size<=s.heap.objs.size
 funs:s.heap.FunFrames base outer
 frf:∀b∈A8 outer,H b=none
 hok:B9 P w H s.heap
 bare:AllBare s.gens
def CE (outer:List Env)(P:Program)(w:World)(H:Hp)(s:Shared)(Q:VK)(u:Value)(s':Shared):Prop:=
 ∃v H',s'.os=s.os/\AllBare s'.gens/\Un (A8 outer) [] H H' s.heap s'.heap/\B9 P w H' s'.heap/\o8 v u/\Q v H'
def CR (CX:S4)(outer:List Env)(P:Program)(w:World)(H:Hp)(s:Shared)(Q:VK)(E:XK)(r:Result)(s':Shared):Prop:=
 match r with
 | .ok (.ret u)=>CE outer P w H s Q u s'
 | .ok _=>False
 | .error e=>CX outer H s E e s'
structure l6 (P:Program)(w:World)(K:PySem.W.Frag)(mg:Str->Option Value)(base:Heap)(CX:S4)(k:Nat)(f:Addr)(fd:FuncData)(ps:List Str)(sp:Sp):Prop where
 len:∀vs H Q E,sp vs H Q E->vs.length=ps.length
 run:∀(A:Around) (outer:List Env) (s:Shared) (H:Hp) (args:Args) (us:List Value) (vs:List V) (Q:VK) (E:XK),o6 k A->be3 P w K mg base A outer s H->BindsTo s fd args (ps.zip us)->m7 vs us->sp vs H Q E->
   codeAny (model P w) A (.call (.ref f) args) (CR CX outer P w H s Q E) s
theorem l6.imp {P:Program}{w:World}{K:PySem.W.Frag}{mg:Str->Option Value}{base:Heap}{CX:S4}{k:Nat}{f:Addr}{fd:FuncData}{ps:List Str}{sp sp':Sp}(F:l6 P w K mg base CX k f fd ps sp)
   (h:∀vs H Q E,sp' vs H Q E->sp vs H Q E):l6 P w K mg base CX k f fd ps sp':=
 ⟨fun vs H Q E q=>F.len vs H Q E (h _ _ _ _ q),fun A outer s H args us vs Q E hr he hb hv hs=>F.run A outer s H args us vs Q E hr he hb hv (h _ _ _ _ hs)⟩
section
variable {X:Cx} {pins:List (Addr×Obj)} {σ:St} {H:Hp} {s s':Shared}
theorem h8.env0 (I:h8 X pins σ H s):be3 X.prog X.w X.K X.mg X.base X.A X.stack s H:=
 ⟨I.ok.frames,I.ok.mod,I.bs,cn2 I.ok.bsz I.sz,I.stack,I.stkFree,I.hok,I.bare⟩
theorem h8.after {Q:VK}{u:Value}(I:h8 X pins σ H s)(h:CE X.stack X.prog X.w H s Q u s'):EP X pins σ Q u s':=by
 obtain ⟨v,H',os,bare,un,hok,r,q⟩:=h;obtain ⟨hh,g,d,t,os'⟩:=s';obtain rfl:os'=s.os:=os;exact ⟨v,H',I.call (h':=hh) (g':=g) (d':=d) (t':=t) (ch:=[]) un hok bare (fun b z=>absurd z (by simp)),r,q⟩
end
def ak2 (sp:Sp)(dvs:List V)(E:XK)(t:TA):TE:=fun σ H Q=>t σ H fun vs H1=>sp (vs++dvs) H1 Q E
def S9 (K:PySem.W.Frag)(fd:FuncData)(ps:List Str)(ds:List Value):Prop:=
 ∀(s:Shared) (us:List Value),K.In s.heap->(us++ds).length=ps.length->BindsTo s fd ⟨us,[]⟩ (ps.zip (us++ds))
theorem S9.all {K:PySem.W.Frag}{fd:FuncData}{ps:List Str}(h:∀us:List Value,us.length=ps.length->bindArgs fd ⟨us,[]⟩=pure (ps.zip us)):S9 K fd ps []:=fun s us _ hl=>by
 rw[cp1] at hl ⊢;exact .of_eq (h us hl)
def ac4 (CX:S4)(X:Cx)(E:XK):Prop:=∀(pins:List (Addr×Obj)) (σ:St) (H:Hp) (s:Shared) (e:Value) (s':Shared),h8 X pins σ H s->CX X.stack H s E e s'->X.xe e s'
section
variable {X:Cx} {CX:S4} {k:Nat} {f C:Addr} {fd:FuncData} {ps:List Str} {sp:Sp} {dvs:List V} {ds:List Value} {E:XK} {x m:Str} {p pos apos:Pos} {e o:Expr} {es:List Expr} {ta:TE} {t:TA}
theorem ca0 {pins:List (Addr×Obj)}{σ:St}{H:Hp}{s:Shared}{Q:VK}{us:List Value}{vs:List V}(F:l6 X.prog X.w X.K X.mg X.base CX k f fd ps sp)(hr:o6 k X.A)(hb:S9 X.K fd ps ds)(hd:m7 dvs ds)(hx:ac4 CX X E)
   (I:h8 X pins σ H s) (r:m7 vs us) (h:sp (vs++dvs) H Q E):wpAny (model X.prog X.w) X.A (call (.ref f) us) (EP X pins σ Q) X.xe s:=by
 have r2:m7 (vs++dvs) (us++ds):=r.append hd
 have hl:(us++ds).length=ps.length:=by rw[<-r2.length];exact F.len _ _ _ _ h
 refine wpAny_call (codeAny_mono (F.run X.A X.stack s H ⟨us,[]⟩ (us++ds) (vs++dvs) Q E hr I.env0 (hb s us I.kIn hl) r2 h) fun r s' hq=> ?_)
 cases r with
 |error e=>exact hx pins σ H s e s' I hq
 |ok fl=>
  cases fl with
  |ret u=>exact I.after hq
  |next=>exact False.elim hq
  |brk=>exact False.elim hq
  |cont=>exact False.elim hq
theorem bb4 (F:l6 X.prog X.w X.K X.mg X.base CX k f fd ps sp)(hr:o6 k X.A)(hg:Gl X x)(hm:X.mg x=some (.ref f))(hk:PySem.W.keepIn X.K (.ref f)=true)(hb:S9 X.K fd ps ds)(hd:m7 dvs ds)(hx:ac4 CX X E)
   (ha:PA X (e::es) t) (hdb:(x==("__debug__":Str))=false:=by decide) (he:starEach (e::es) X.env=(false,eval e X.env)::starEach es X.env:=by rfl) (hpl:(backTo pos (starEach es X.env)).any (·.1)=false:=by rfl):
   PE X (.Call (.Name x p) (e::es) [] pos) (ak2 sp dvs E t):=by
 intro pins s σ H Q I h;refine wpAny_Call_Name_kw (Y2 I hg hm ?_ hdb);refine PySem.W.callWith_K (h₀:=X.base) I.ok.mod.kin hk (o5 (ha pos pins s σ H _ I h) fun us s1 ⟨vs,H1,I1,r,q⟩=>⟨I1.kIn,?_⟩) he hpl;exact ca0 F hr hb hd hx I1 r q
end
def PK (X:Cx)(kws:List Keyword)(t:TA):Prop:=
 ∀(pos:Pos) (pins:List (Addr×Obj)) (s:Shared) (σ:St) (H:Hp) (Q:List V->Hp->Prop),h8 X pins σ H s->t σ H Q->wpAny (model X.prog X.w) X.A (evalAll ((backToKw pos (keywordEach kws X.env)).map (·.2))) (AP X pins σ Q) X.xe s
section
variable {X:Cx} {CX:S4} {k:Nat} {f C:Addr} {fd:FuncData} {ps ks:List Str} {sp:Sp} {E:XK} {x m:Str} {p pos apos kpos:Pos} {e o:Expr} {es:List Expr} {kws:List Keyword} {te ta:TE} {t tk:TA} {nm:Option Str}
theorem ca1:PK X [] au6:=fun _ _ _ _ H Q I h=>wpAny_evalAll_nil ⟨[],H,I,.nil,h⟩
theorem bt9 (ha:PE X e te)(hr:PK X kws t):PK X (⟨nm,e,kpos⟩::kws) (ak1 te t):=by
 intro pos pins s σ H Q I h;show wpAny _ _ (evalAll ((do let v <-eval e X.env;standAt pos;pure v)::(backToKw pos (keywordEach kws X.env)).map (·.2))) _ _ s;refine wpAny_evalAll_cons (wpAny_bind (o5 (ha pins s σ H _ I h) fun u s1 ⟨x,H1,I1,r1,q1⟩=>wpAny_bind (wpAny_standAt (wpAny_pure ?_))))
 exact o5 (hr pos pins s1 σ H1 _ I1 q1) fun us s2 ⟨xs,H2,I2,r2,q2⟩=>⟨x::xs,H2,I2,.cons r1 r2,q2⟩
variable {g:List Value->List Value->List Value} {gV:List V->List V->List V}
end
structure o3 (N P:List Str)(sc:Scope):Prop where
 kind:sc.kind= .function
 co:sc.isCoroutine=false
 gen:sc.isGenerator=false
 nd:N.Nodup
 pre:N.take P.length=P
 par:∀x∈P,sc.names.lookup x=some .local\/sc.names.lookup x=some .cell
 nofree:∀y∈sc.names,y.2≠.free
theorem aq4 {kindOf:Str->Option NameKind}{x:Str}:∀{binds:List (Str×Value)} {m:Str->Option Value},(∀v,(x,v)∉binds)->bindL kindOf binds m x=m x
 |[],_,_=>rfl
 |(n,v)::r,m,h=>by
  unfold bindL;rw[aq4 fun w hw=>h w (cl1 _ hw)]
  split
  · have:x≠n:=by rintro rfl;exact h v cl4
    simp [this]
  · rfl
theorem aq5 {kindOf:Str->Option NameKind}{x:Str}:∀{binds:List (Str×Value)} {m:Str->Option Value},(∀v,(x,v)∉binds)->bindC kindOf binds m x=m x
 |[],_,_=>rfl
 |(n,v)::r,m,h=>by
  unfold bindC;rw[aq5 fun w hw=>h w (cl1 _ hw)]
  split
  · rfl
  · have:x≠n:=by rintro rfl;exact h v cl4
    simp [this]
theorem aq6 {kindOf:Str->Option NameKind}{x:Str}{v:Value}:∀{P:List Str} {vs:List Value} {i:Nat} {m:Str->Option Value},P.Nodup->P[i]? =some x->vs[i]? =some v->kindOf x=some .local->
   bindL kindOf (P.zip vs) m x=some v
 |[],_,_,_,_,h,_,_=>by simp at h
 |_::_,[],_,_,_,_,h,_=>by simp at h
 |p::P,w::vs,0,m,nd,h1,h2,hk=>by
  simp at h1 h2;subst h1;subst h2;show bindL kindOf ((p,w)::P.zip vs) m p=_;unfold bindL;rw[aq4 fun v hv=>(cq5.mp nd).1 (cx7 hv).1,if_pos hk];simp
 |p::P,w::vs,i+1,m,nd,h1,h2,hk=>by
  show bindL kindOf ((p,w)::P.zip vs) m x=_;unfold bindL;exact aq6 (i:=i) (cq5.mp nd).2 (by simpa using h1) (by simpa using h2) hk
theorem aq7 {kindOf:Str->Option NameKind}{x:Str}{v:Value}:∀{P:List Str} {vs:List Value} {i:Nat} {m:Str->Option Value},P.Nodup->P[i]? =some x->vs[i]? =some v->kindOf x≠some .local->
   bindC kindOf (P.zip vs) m x=some v
 |[],_,_,_,_,h,_,_=>by simp at h
 |_::_,[],_,_,_,_,h,_=>by simp at h
 |p::P,w::vs,0,m,nd,h1,h2,hk=>by
  simp at h1 h2;subst h1;subst h2;show bindC kindOf ((p,w)::P.zip vs) m p=_;unfold bindC;rw[aq5 fun v hv=>(cq5.mp nd).1 (cx7 hv).1,if_neg hk];simp
 |p::P,w::vs,i+1,m,nd,h1,h2,hk=>by
  show bindC kindOf ((p,w)::P.zip vs) m x=_;unfold bindC;exact aq7 (i:=i) (cq5.mp nd).2 (by simpa using h1) (by simpa using h2) hk
def T0 (N:List Str)(vs:List V):St:=vs.map some++List.replicate (N.length - vs.length) none
def X6 (CX:S4)(P:Program)(w:World)(K:PySem.W.Frag)(mg:Str->Option Value)(base:Heap)(N:List Str)(qual:Str)(scope:Scope)(f:Addr)(cd:Value)(A:Around)(outer:List Env)(s:Shared)(H:Hp)(E:XK):Cx where
 prog:=P
 w:=w
 K:=K
 mg:=mg
 base:=base
 A:=A.deeper (envOfC qual scope s.heap.objs.size f cd)
 N:=N
 s₀:=s
 H₀:=H
 env:=envOfC qual scope s.heap.objs.size f cd
 outer:=outer
 stack:=envOfC qual scope s.heap.objs.size f cd::outer
 ex:=[]
 calm:=true
 fn:=fun _=>true
 pn:=[]
 xe:=fun e s'=>wpAny (model P w) (A.deeper (envOfC qual scope s.heap.objs.size f cd)) (leaving (envOfC qual scope s.heap.objs.size f cd) e) (fun _ s''=>CX outer H s E e s'') (fun e' s''=>CX outer H s E e' s'') s'
theorem au7 {sc:Scope}{n:Nat}{x:Str}(h:sc.names.lookup x=some .cell):∃c,(cellsFrom n sc.names []).lookup x=some c:=by
 have q:=PySem.W.cellsFrom_some sc.names n [] (.inl h);exact cx3.mp q
theorem bi8 {CX:S4}{P:Program}{w:World}{K:PySem.W.Frag}{mg:Str->Option Value}{base:Heap}{N ps:List Str}{qual:Str}{scope:Scope}{f:Addr}{cd:Value}{A:Around}{outer:List Env}{s s1:Shared}{H:Hp}{E:XK}{us:List Value}{vs:List V}
   (S:o3 N ps scope) (hd:A.handled=none) (e0:be3 P w K mg base A outer s H) (hl:vs.length=ps.length) (r:m7 vs us)
   (x:InCallC s s.heap.objs.size (bindL (envOfC qual scope s.heap.objs.size f cd).kindOf (ps.zip us) fun _=>none) (cellsFrom (s.heap.objs.size+1) scope.names []) (bindC (envOfC qual scope s.heap.objs.size f cd).kindOf (ps.zip us) fun _=>none) s1):
   h8 (X6 CX P w K mg base N qual scope f cd A outer s H E) [] (T0 N vs) H s1:=by
 have hpl:ps.length<=N.length:=by have:=congrArg cu8 S.pre;rw[cl8] at this;omega
 obtain ⟨h1,tk,rfl,hk⟩:=x.done
 have noA:∀b:Addr,b∉(X6 CX P w K mg base N qual scope f cd A outer s H E).ex:=fun b z=>absurd (show b∈([]:List Addr) from z) (by simp)
 refine ⟨⟨e0.mod,S.kind,rfl,rfl,ck8 _,fun y z c h1 h2=> ?_,fun y hy=> ?_,fun y c _ h=> ?_,fun _=>hd,Around.frames_deeper e0.frames,.inr ⟨rfl,rfl⟩,fun b z=>absurd z (noA b),e0.bs,e0.bsz,fun b _ _=>noA b,fun b z=>absurd z (noA b),e0.funs,e0.frf⟩,
   rfl,e0.bare,Un.kept hk,⟨_,x.toInCall.ns,fun i y v h1 h2 h3=> ?_⟩,fun y c h=>⟨_,x.cell y c h⟩,e0.hok.fresh (ck8 _),fun y c h=> ?_,fun p hp=>absurd (show p∈([]:List (Addr×Obj)) from hp) (by simp),e0.hok.kept hk,?_⟩
 · exact name_of_addr x.apart (PySem.mem_of_lookup h1) (PySem.mem_of_lookup h2)
 · have hy:scope.names.lookup y=some .cell\/scope.names.lookup y=some .free:=hy
   rcases hy with hy|hy
   · exact au7 hy
   · exact absurd rfl (S.nofree _ (PySem.mem_of_lookup hy))
 · exact cn8 (x.above y c (PySem.mem_of_lookup h))
 · have hi:i < vs.length:=by
     unfold T0 at h2
     by_cases hi:i < vs.length
     · exact hi
     · rw[cp6 (by simpa using hi)] at h2;rw[cx5] at h2
       split at h2<;>cases h2
   have ha:vs[i]? =some v:=by
     unfold T0 at h2;rw[cp8 (by simpa using hi),cl0] at h2
     cases e:vs[i]? with
     |none=>rw[e] at h2;cases h2
     |some a=>rw[e] at h2;cases h2;rfl
   obtain ⟨u,hu,rv⟩:=r.get ha
   have hp:ps[i]? =some y:=by
     rw[<-S.pre,cn9 (by omega)];exact h1
   have ndP:ps.Nodup:=by rw[<-S.pre];exact S.nd.sublist (List.take_sublist _ _)
   refine ⟨u,rv,?_⟩
   rcases S.par y (cl9 hp) with k|k
   · exact .inl ⟨k,aq6 ndP hp hu k⟩
   · obtain ⟨c,e⟩:=au7 (n:=s.heap.objs.size+1) k;refine .inr ⟨.inl k,c,e,?_⟩;have q:=x.cell y c e;rw[aq7 ndP hp hu (by show scope.names.lookup y≠_;rw[k];decide)] at q;exact q
 · exact e0.hok.fresh (cn8 (x.above y c (PySem.mem_of_lookup h)))
 · unfold T0;show _=N.length;rw[cl2,ck5,cu9];omega
theorem bt1 {CX:S4}{P:Program}{w:World}{K:PySem.W.Frag}{mg:Str->Option Value}{base:Heap}{k:Nat}{f:Addr}{name qual:Str}{params:Arguments}{body:List Stmt}{scope:Scope}{dV kV doc pm cdv ct oc:Value}{an od:Option Addr}
   {osl:Array (Option Value)} {N ps:List Str} {sp:Sp} (lk:K.lookup f=some ⟨oc,od,.func (PySem.W.fnOf name qual params body scope dV kV doc pm an cdv ct),osl⟩) (hcd:PySem.W.codeIn K cdv qual=true) (S:o3 N ps scope)
   (len:∀vs H Q E,sp vs H Q E->vs.length=ps.length)
   (hbody:∀(A:Around) (outer:List Env) (s:Shared) (H:Hp) (vs:List V) (Q:VK) (E:XK),o6 k (A.deeper (envOfC qual scope s.heap.objs.size f cdv))->sp vs H Q E->
     ∃t,S3 (X6 CX P w K mg base N qual scope f cdv A outer s H E) body t/\t {nx:=fun _ H'=>Q .non H',rt:=Q} (T0 N vs) H):
   l6 P w K mg base CX (k+1) f (PySem.W.fnOf name qual params body scope dV kV doc pm an cdv ct) ps sp:=by
 refine ⟨len,fun A outer s H args us vs Q E hr e0 hb r hsp=> ?_⟩;have hl:=len _ _ _ _ hsp
 have KX:K.In s.heap:=e0.mod.kin.keeps fun b o e=>(e0.bs b o e).1
 have lim:s.heap.NoLimit:=e0.mod.nolimit.keeps fun b o e=>(e0.bs b o e).1
 have hkind:∀y∈ps.zip us,scope.names.lookup y.1=some .local\/(scope.names.lookup y.1=some .cell/\((cellsFrom (s.heap.objs.size+1) scope.names []).lookup y.1).isSome=true):=fun ⟨n,v⟩ hy=>by
   rcases S.par n (cx7 hy).1 with q|q
   · exact .inl q
   · exact .inr ⟨q,PySem.W.cellsFrom_some _ _ _ (.inl q)⟩
 refine codeAny_call_function hr.depth (KX _ _ lk) rfl S.co S.gen rfl (PySem.W.codeRec_of KX hcd) (hb _ _ _ _ ?_)
 refine wpAny_newFunctionEnv_cells S.kind hkind fun env he s1 x=> ?_
 subst he;refine ⟨lim.keeps x.toInCall.keep,codeAny_func ?_⟩;obtain ⟨t,ht,hq⟩:=hbody A outer s H vs Q E (hr.deeper _) hsp;have I:h8 (X6 CX P w K mg base N qual scope f cdv A outer s H E) [] (T0 N vs) H s1:=bi8 S hr.hd e0 hl r x
 refine wpAny_mono (ht [] s1 (T0 N vs) H _ I hq) (fun fl s' hs=> ?_) fun e s' hs=>hs
 have fin:∀{σ':St} {H':Hp} {v:V} {u:Value},h8 (X6 CX P w K mg base N qual scope f cdv A outer s H E) [] σ' H' s'->o8 v u->Q v H'->CE outer P w H s Q u s':=
   fun {σ' H' v u} J rv q=>⟨v,H',J.os,J.bare,J.base,J.hok,rv,q⟩
 cases fl with
 |ret u=>
  obtain ⟨v,σ',H',J,rv,q⟩:=hs;exact fin J rv q
 |next=>
  obtain ⟨σ',H',J,q⟩:=hs;exact fin (v:=V.non) (u:=Value.none) J rfl q
 |brk=>
  obtain ⟨_,_,_,q⟩:=hs;exact False.elim q
 |cont=>
  obtain ⟨_,_,_,q⟩:=hs;exact False.elim q
end L2
namespace L2
open PySem PySem.Spec PyProof.Rows
section
variable {X:Cx} {x:Str} {p pos:Pos} {e:Expr} {es:List Expr} {t:TA} {id T:String} {r:List V->Hp->VK->Prop}
def S5 (r:List V->Hp->VK->Prop)(t:TA):TE:=fun σ H Q=>t σ H fun vs H1=>r vs H1 Q
theorem O7 (hc:K8 X (.builtin id) r)(hg:Gl X x)(hm:X.mg x=none)(hv:bootBuiltins x=some (.builtin id))(ha:PA X (e::es) t)(hn:x≠"__name__":=by decide)(hdb:(x==("__debug__":Str))=false:=by decide)
   (he:starEach (e::es) X.env=(false,eval e X.env)::starEach es X.env:=by rfl) (hpl:(backTo pos (starEach es X.env)).any (·.1)=false:=by rfl):PE X (.Call (.Name x p) (e::es) [] pos) (S5 r t):=by
 intro pins s σ H Q I h;refine wpAny_Call_Name_kw (Y3 I hg hm hv ?_ hn hdb);exact PyProof.Rows.callWith_builtin1 (o5 (ha pos pins s σ H _ I h) fun us s1 ⟨vs,H1,I1,r1,q1⟩=>hc pins s1 σ H1 vs us Q I1 r1 q1) he hpl
theorem M6 (hc:K8 X (.type T) r)(hg:Gl X x)(hm:X.mg x=none)(hv:bootBuiltins x=some (.type T))(ha:PA X (e::es) t)(hn:x≠"__name__":=by decide)(hdb:(x==("__debug__":Str))=false:=by decide)
   (he:starEach (e::es) X.env=(false,eval e X.env)::starEach es X.env:=by rfl) (hpl:(backTo pos (starEach es X.env)).any (·.1)=false:=by rfl):PE X (.Call (.Name x p) (e::es) [] pos) (S5 r t):=by
 intro pins s σ H Q I h;refine wpAny_Call_Name_kw (Y3 I hg hm hv ?_ hn hdb);exact PyProof.Rows.callWith_type1 (o5 (ha pos pins s σ H _ I h) fun us s1 ⟨vs,H1,I1,r1,q1⟩=>hc pins s1 σ H1 vs us Q I1 r1 q1) he hpl
end
end L2
namespace HT
open PySem PyProof.Rows
def af3:List Int->List Int->Bool
 |[],[]=>false
 |[],_::_=>true
 |_::_,[]=>false
 |x::xs,y::ys=>if x=y then af3 xs ys else decide (x < y)
theorem be4 (x y:Int)(xs ys:List Int):af3 (x::xs) (y::ys)=if x=y then af3 xs ys else decide (x < y):=rfl
theorem bu0 (y:Int)(ys:List Int):af3 [] (y::ys)=true:=rfl
theorem bo7 (A:Around)(s:Shared)(a:Int)(t:Tok)(c:Int)(u:Tok):∃e,SeqAt.EqAt A s (.int a t) (.int c u) e/\(e=true↔a=c):=
 ⟨(a==c),SeqAt.EqAt.int_int a t c u,by simp⟩
theorem bo8 (A:Around)(s:Shared)(a:Int)(t:Tok)(c:Int)(u:Tok)(prog:Program)(w:World)(E:Value->Shared->Prop)(Q:Value->Shared->Prop)(h:Q (.bool (decide (a < c))) s):
   wpAny (model prog w) A (richCompare .Lt (.int a t) (.int c u)) Q E s:=
 (PyProof.Rows.lt_int h:wpAny (model prog w) A (compareOp .Lt (.int a t) (.int c u)) Q E s)
section
variable {prog:Program} {w:World} {A:Around} {E:Value->Shared->Prop} {s:Shared}
def sIx (n d:Nat):Option Int->Nat
 |none=>d
 |some v=>if v < 0 then (v+(n:Int)).toNat else min v.toNat n
theorem ch9 (n d:Nat):sIx n d none=d:=rfl
theorem cj2 (n d k:Nat):sIx n d (some (k:Int))=min k n:=by
 show (if (k:Int) < 0 then ((k:Int)+(n:Int)).toNat else min (k:Int).toNat n)=min k n;rw[if_neg (by omega),cr7]
end
end HT
namespace L2
open PySem PySem.Spec PyProof.Rows
abbrev TO:=St->Hp->(Option Int->Hp->Prop)->Prop
def PO (X:Cx)(e:Option Expr)(t:TO):Prop:=
 ∀(pins:List (Addr×Obj)) (s:Shared) (σ:St) (H:Hp) (Q:Option Int->Hp->Prop),h8 X pins σ H s->t σ H Q->
  wpAny (model X.prog X.w) X.A (evalPart e X.env) (fun u s'=>∃o H',h8 X pins σ H' s'/\IsPart u o/\Q o H') X.xe s
def bu1:TO:=fun _ H Q=>Q none H
def ce1 (t:TE):TO:=fun σ H Q=>t σ H fun x H1=>∃i,x= .int i/\Q (some i) H1
theorem ak3 {ns:List Int}:∀{us:List Value},m7 (ns.map V.int) us->IntsAre us ns:=by
 induction ns with
 |nil=>intro us r;rw[cx6] at r;cases r;exact .nil
 |cons n ns ih=>
  intro us r;rw[cp9] at r
  cases r with
  |cons r1 r2=>
   obtain ⟨t,e⟩:=r1;subst e;exact .cons n t (ih r2)
section
variable {X:Cx} {e:Expr} {te:TE} {lo hi:Option Expr} {tl th:TO} {pos p2:Pos}
theorem bb5:PO X none bu1:=by
 intro pins s σ H Q I h;rw[evalPart_none];exact wpAny_pure ⟨none,H,I,.none,h⟩
theorem af4 (h:PE X e te):PO X (some e) (ce1 te):=by
 intro pins s σ H Q I hw;rw[evalPart_some]
 refine o5 (h pins s σ H _ I hw) fun u s1 ⟨x,H1,I1,r1,q1⟩=> ?_
 obtain ⟨i,rfl,q⟩:=q1;obtain ⟨t,rfl⟩:=r1;exact ⟨some i,H1,I1,.int i t,q⟩
def SlR (X:Cx)(r:V->Option Int->Option Int->Hp->VK->Prop):Prop:=
 ∀(pins:List (Addr×Obj)) (s:Shared) (σ:St) (H:Hp) (x:V) (v vl vu:Value) (lo hi:Option Int) (sl:Addr) (Q:VK),h8 X pins σ H s->o8 x v->s.heap.IsSliceOf sl vl vu .none->IsPart vl lo->IsPart vu hi->r x lo hi H Q->
  ∃T id,typeLookup (.type T) "__getitem__"=pure (some (.builtin id))/\s.TypeIs v T/\wpAny (model X.prog X.w) X.A (getItem v (.ref sl)) (EP X pins σ Q) X.xe s
def tSl (r:V->Option Int->Option Int->Hp->VK->Prop)(te:TE)(tl th:TO):TE:=fun σ H Q=>te σ H fun x H1=>tl σ H1 fun l H2=>th σ H2 fun u H3=>r x l u H3 Q
theorem ai1 {r:V->Option Int->Option Int->Hp->VK->Prop}(hr:SlR X r)(he:PE X e te)(hl:PO X lo tl)(hu:PO X hi th):PE X (.Subscript e (.Slice lo hi none p2) pos) (tSl r te tl th):=by
 intro pins s σ H Q I h;refine Subscript_ (o5 (he pins s σ H _ I h) fun v s1 ⟨x,H1,I1,r1,q1⟩=> ?_);refine wpAny_Slice (o5 (hl pins s1 σ H1 _ I1 q1) fun vl s2 ⟨l,H2,I2,pl,q2⟩=>o5 (hu pins s2 σ H2 _ I2 q2) fun vu s3 ⟨u,H3,I3,pu,q3⟩=> ?_);rw[evalPart_none];refine wpAny_pure ?_
 have I4:h8 X pins σ H3 {s3 with heap:=s3.heap.push {cls:= .type "slice",data:= .fields #[vl,vu,.none]}}:=I3.kept (t':=s3.toks) fun b ob q=>Heap.get?_push_of_some _ q
 obtain ⟨T,id,hT,ht,hg⟩:=hr pins {s3 with heap:=s3.heap.push {cls:= .type "slice",data:= .fields #[vl,vu,.none]}} σ H3 x v vl vu l u s3.heap.objs.size Q I4 r1 (Heap.IsSliceOf.new ..) pl pu q3;show wpAny (model X.prog X.w) X.A (subscriptTail e (.Slice lo hi none p2) v (.ref s3.heap.objs.size)) (EP X pins σ Q) X.xe {s3 with heap:=s3.heap.push {cls:= .type "slice",data:= .fields #[vl,vu,.none]}};exact tail_any (ops:=[.ref s3.heap.objs.size,v]) ht hT hg (by with_unfolding_all rfl)
def V0 (xs:List V)(lo hi:Option Int):List V:=(xs.drop (HT.sIx xs.length 0 lo)).take (HT.sIx xs.length xs.length hi - HT.sIx xs.length 0 lo)
theorem az5 (xs:List V)(lo hi:Option Int):(V0 xs lo hi).length<=xs.length:=by
 unfold V0;rw[cl8,co5];omega
end
end L2
namespace L2
open PySem PySem.Spec PyProof.Rows
def ixN (n:Nat)(i:Int):Option Nat:=if 0<=i then (if i < n then some i.toNat else none) else if -(n:Int)<=i then some (i+n).toNat else none
def atI {α:Type}(xs:List α)(i:Int):Option α:=(ixN xs.length i).bind fun j=>xs[j]?
theorem ao1 {n:Nat}{i:Int}{j:Nat}(h:ixN n i=some j):seqIndex? i n=some j/\j < n/\ -(n:Int)<=i/\i < n:=by
 unfold ixN at h
 by_cases h0:0<=i
 · rw[if_pos h0] at h
   by_cases h1:i < n
   · rw[if_pos h1] at h;have e:i.toNat=j:=Option.some.inj h;exact ⟨by rw[seqIndex_of h0 h1,e],by omega,by omega,h1⟩
   · rw[if_neg h1] at h;cases h
 · rw[if_neg h0] at h
   by_cases h1: -(n:Int)<=i
   · rw[if_pos h1] at h;have e:(i+n).toNat=j:=Option.some.inj h;exact ⟨by rw[seqIndex_neg (by omega) h1,e],by omega,h1,by omega⟩
   · rw[if_neg h1] at h;cases h
theorem bb6 {α:Type}{xs:List α}{i:Int}{v:α}(h:atI xs i=some v):∃j,seqIndex? i xs.length=some j/\xs[j]? =some v/\j < xs.length/\ -(xs.length:Int)<=i/\i < xs.length:=by
 unfold atI at h
 cases e:ixN xs.length i with
 |none=>rw[e] at h;cases h
 |some j=>
  rw[e] at h;obtain ⟨h1,h2,h3,h4⟩:=ao1 e;exact ⟨j,h1,h,h2,h3,h4⟩
theorem p7 {α:Type}{xs:List α}{j:Nat}{v:α}(h:xs[j]? =some v):atI xs (j:Int)=some v:=by
 have hj:j < xs.length:=(ck7.mp h).1
 have e:ixN xs.length (j:Int)=some j:=by
   unfold ixN;rw[if_pos (by omega),if_pos (by omega)];simp
 unfold atI;rw[e];exact h
def bu2 (b:Expr):Prop:=∀o i,subscripted b false o i=operate [o,i] (getItem o i)
def IxR (X:Cx)(r:R2):Prop:=
 ∀(value slice:Expr) (pins:List (Addr×Obj)) (s:Shared) (σ:St) (H:Hp) (x y:V) (v u:Value) (Q:VK),h8 X pins σ H s->o8 x v->o8 y u->r x y H Q->
  subscripted slice false v u=operate [v,u] (getItem v u)->wpAny (model X.prog X.w) X.A (subscriptTail value slice v u) (EP X pins σ Q) X.xe s
def MtR (X:Cx)(id:String)(r:V->List V->Hp->VK->Prop):Prop:=
 ∀(pins:List (Addr×Obj)) (s:Shared) (σ:St) (H:Hp) (x:V) (xs:List V) (v:Value) (us:List Value) (Q:VK),h8 X pins σ H s->o8 x v->m7 xs us->r x xs H Q->
  wpAny (model X.prog X.w) X.A (call (.builtin id) (v::us)) (EP X pins σ Q) X.xe s
section
variable {X:Cx} {a b:Expr} {ta tb:TE} {pos:Pos}
theorem w6 {r:R2}(hr:IxR X r)(ha:PE X a ta)(hb:PE X b tb)(hs:bu2 b):PE X (.Subscript a b pos) (tOp r ta tb):=by
 intro pins s σ H Q I h;exact Subscript_ (bo3 ha hb I h fun v u s2 x y H2 I2 rx ry q=>hr a b pins s2 σ H2 x y v u Q I2 rx ry q (hs _ _))
def bp0 (K:PySem.W.Frag):R2:=fun x y H Q=>∃p xs i v,x= .ref p/\y= .int i/\i7 K H p xs/\atI xs i=some v/\Q v H
def ci0 (K:PySem.W.Frag):R2:=fun x y H Q=>∃p xs i v,x= .ref p/\y= .int i/\D9 K H p xs/\atI xs i=some v/\Q v H
theorem t8:IxR X (bp0 X.K):=by
 intro value slice pins s σ H x y v u Q I rx ry h hs;obtain ⟨p,xs,i,z,rfl,rfl,hq,he,q⟩:=h;cases rx;obtain ⟨t,rfl⟩:=ry;obtain ⟨its,r,pl,hz⟩:=I.list hq;obtain ⟨j,h1,h2,h3,h4,h5⟩:=bb6 he;obtain ⟨w,ew,rw'⟩:=r.get h2;have hl:=r.length;have hn:=aj9;have fin:EP X pins σ Q w s:=⟨z,H,I,rw',q⟩
 by_cases h0:0<=i
 · have hj:i.toNat=j:=by
     rw[seqIndex_of h0 h5] at h1;exact Option.some.inj h1
   exact item_listR pl.isList h0 (by omega) (by rw[hj];simpa using ew) fin hs
 · have hj:(i+(its.toArray.size:Int)).toNat=j:=by
     rw[seqIndex_neg (by omega) h4] at h1;rw[ck9,<-hl];exact Option.some.inj h1
   exact subscriptTail_builtinR (x:=w) pl.isList.typeIs slot_list_getitem.lookup
     (wpAny_getItem_list_neg (Q:=fun r s'=>r=w/\EP X pins σ Q r s') pl.isList (by omega) (by rw[ck9]<;>omega) (by omega) (by rw[hj];simpa using ew) ⟨rfl,fin⟩) hs
theorem N5:IxR X (ci0 X.K):=by
 intro value slice pins s σ H x y v u Q I rx ry h hs;obtain ⟨p,xs,i,z,rfl,rfl,hq,he,q⟩:=h;cases rx;obtain ⟨t,rfl⟩:=ry;obtain ⟨its,r,pl,hz⟩:=I.tuple hq;obtain ⟨j,h1,h2,h3,h4,h5⟩:=bb6 he;obtain ⟨w,ew,rw'⟩:=r.get h2;have hl:=r.length;have hn:=aj9;have fin:EP X pins σ Q w s:=⟨z,H,I,rw',q⟩
 exact subscriptTail_builtinR (x:=w) pl.typeIs slot_tuple_getitem.lookup
   (getItem_tuple (j:=j) (Q:=fun r s'=>r=w/\EP X pins σ Q r s') pl (by omega) (by omega) (by rw[ck9,<-hl];exact h1) (by simpa using ew) ⟨rfl,fin⟩) hs
theorem be5 (its:List Value)(n j:Nat)(u:Value):Obj.mapSeq (·.setIfInBounds j u) {cls:= .type "list",data:= .seq its.toArray n}={cls:= .type "list",data:= .seq (its.set j u).toArray n}:=by
 simp [Obj.mapSeq]
theorem h8.lst {pins:List (Addr×Obj)}{σ:St}{H:Hp}{s:Shared}{p:Addr}{xs:List V}(I:h8 X pins σ H s)(h:H p=some (.lst xs)):
   ∃(its:List Value) (n:Nat),m7 xs its/\s.heap.get? p=some {cls:= .type "list",data:= .seq its.toArray n}/\xs.length<=sizeLine:=by
 obtain ⟨z,its,n,r,e⟩:=I.hok p _ h;exact ⟨its,n,r,e,z⟩
theorem h8.lstUpd {pins:List (Addr×Obj)}{σ:St}{H:Hp}{s:Shared}{p:Addr}{xs ys:List V}{its its':List Value}{n n':Nat}{f:Obj->Obj}(I:h8 X pins σ H s)(h:H p=some (.lst xs))
   (ho:s.heap.get? p=some {cls:= .type "list",data:= .seq its.toArray n}) (hf:f {cls:= .type "list",data:= .seq its.toArray n}={cls:= .type "list",data:= .seq its'.toArray n'}) (r:m7 ys its') (hz:ys.length<=sizeLine) (t:Nat):
   h8 X pins σ (e8 H p (.lst ys)) {s with heap:=s.heap.update p f,toks:=t}:=by
 have e:(s.heap.update p f).get? p=some {cls:= .type "list",data:= .seq its'.toArray n'}:=by
   rw[Heap.get?_update_self f ho (by rw[hf]<;>rfl),hf]
 refine I.write (x:=p) (e:=p) (by rw[h];trivial) (.inl rfl) (fun b u hb q=>(Heap.get?_update_other _ _ (Ne.symm hb)).trans q) ⟨_,e⟩ ?_;exact ⟨hz,its',n',r,e⟩
def ce2:V->V->V->Hp->(Hp->Prop)->Prop:=fun o i v H Q=>∃p xs k j,o= .ref p/\i= .int k/\H p=some (.lst xs)/\ixN xs.length k=some j/\Q (e8 H p (.lst (xs.set j v)))
theorem aa0:bz1 X ce2:=by
 intro pins s σ H o i v ov iv u Q I ro ri rv h;obtain ⟨p,xs,k,j,rfl,rfl,hp,hj,q⟩:=h;cases ro;obtain ⟨t,rfl⟩:=ri;obtain ⟨its,n,r,ho,hz⟩:=I.lst hp;obtain ⟨h1,h2,h3,h4⟩:=ao1 hj;have hl:=r.length;have hn:=aj9
 have I':h8 X pins σ (e8 H p (.lst (xs.set j v))) {s with heap:=s.heap.update p (Obj.mapSeq (·.setIfInBounds j u))}:=
   I.lstUpd hp ho (be5 its n j u) (r.set rv j) (by rw[cx8];exact hz) s.toks
 by_cases h0:0<=k
 · have hk:k.toNat=j:=by
     rw[seqIndex_of h0 h4] at h1;exact Option.some.inj h1
   exact PySem.W.ki_setAt ho h0 (by omega) (by rw[ck9,<-hl];exact h4) (by rw[hk];exact ⟨_,I',q⟩)
 · have hk:(k+(its.toArray.size:Int)).toNat=j:=by
     rw[seqIndex_neg (by omega) h3] at h1;rw[ck9,<-hl];exact Option.some.inj h1
   exact PySem.W.ki_setBack ho (by omega) (by rw[ck9,<-hl];exact h3) (by omega) (by rw[hk];exact ⟨_,I',q⟩)
theorem au8 (lo hi:Option Int)(n:Nat):(sliceBounds lo hi none n).1=((HT.sIx n 0 lo:Nat):Int)/\(sliceBounds lo hi none n).2.1=((HT.sIx n n hi:Nat):Int)/\(sliceBounds lo hi none n).2.2=1:=by
 refine ⟨?_,?_,rfl⟩
 · cases lo with
   |none=>simp [sliceBounds,HT.sIx]
   |some i=>
    simp only[sliceBounds,HT.sIx,Option.getD_none,show (1:Int) > 0 by decide,if_true]
    by_cases h:i < 0
    · simp only[h,if_true]<;>omega
    · simp only[h,if_false]<;>omega
 · cases hi with
   |none=>simp [sliceBounds,HT.sIx]
   |some i=>
    simp only[sliceBounds,HT.sIx,Option.getD_none,show (1:Int) > 0 by decide,if_true]
    by_cases h:i < 0
    · simp only[h,if_true]<;>omega
    · simp only[h,if_false]<;>omega
theorem as2 (its:List Value)(lo hi:Option Int):slicePick its.toArray lo hi none=((its.drop (HT.sIx its.length 0 lo)).take (HT.sIx its.length its.length hi - HT.sIx its.length 0 lo)).toArray:=by
 obtain ⟨h1,h2,h3⟩:=au8 lo hi its.toArray.size;unfold slicePick;rw[h1,h2,h3]
 simp only[sliceRange_one,pick_run,ck9]<;>rfl
def ci1 (K:PySem.W.Frag):V->Option Int->Option Int->Hp->VK->Prop:=fun x lo hi H Q=>∃a xs,x= .ref a/\i7 K H a xs/\∀p,H p=none->Q (.ref p) (e8 H p (.lst (V0 xs lo hi)))
theorem ao2:SlR X (ci1 X.K):=by
 intro pins s σ H x v vl vu lo hi sl Q I rx hs pl pu h;obtain ⟨a,xs,rfl,hx,q⟩:=h;cases rx;obtain ⟨its,r,ht,hz⟩:=I.list hx;have hlen:=r.length;refine ⟨"list",_,slot_list_getitem.lookup,ht.isList.typeIs,?_⟩;refine wpAny_getItem_list_slice ht.isList hs pl pu .none (by simp) ?_ (by rw[ck9]<;>omega);rw[as2,<-hlen];refine ⟨.ref s.heap.objs.size,_,I.laid (t':=s.toks) (o:= .lst (V0 xs lo hi)) (fun b ob q=>Heap.get?_push_of_some _ q) (ck8 _) ?_,rfl,q _ (I.hok.fresh (ck8 _))⟩;exact ⟨cn2 (az5 xs lo hi) hz,_,0,(r.drop (HT.sIx xs.length 0 lo)).take (HT.sIx xs.length xs.length hi - HT.sIx xs.length 0 lo),Heap.get?_push_size _ rfl⟩
def at4:V->Bool
 | .non=>true
 | .bl _=>true
 | .int _=>true
 | .str _=>true
 |_=>false
def eqV:V->V->Bool
 | .non,.non=>true
 | .bl a,.bl b=>a==b
 | .bl a,.int b=>(if a then 1 else 0)==b
 | .int a,.bl b=>a==(if b then 1 else 0)
 | .int a,.int b=>a==b
 | .str a,.str b=>a==b
 |_,_=>false
theorem ca3 {A:Around}{s:Shared}{y x:V}{u v:Value}(ry:o8 y u)(rx:o8 x v)(fy:at4 y=true)(fx:at4 x=true):SeqAt.EqAt A s u v (eqV y x):=by
 cases y with
 |non=>
  cases ry
  cases x with
  |non=>cases rx;exact SeqAt.EqAt.same _
  |bl b=>cases rx;exact SeqAt.EqAt.none_bool b
  |int b=>obtain ⟨t,rfl⟩:=rx;exact SeqAt.EqAt.none_int b t
  |str b=>obtain ⟨t,rfl⟩:=rx;exact SeqAt.EqAt.none_str b t
  |_=>exact absurd (show false=true from fx) cl7
 |bl a=>
  cases ry
  cases x with
  |non=>cases rx;exact SeqAt.EqAt.bool_none a
  |bl b=>cases rx;exact SeqAt.EqAt.bool_bool a b
  |int b=>obtain ⟨t,rfl⟩:=rx;exact SeqAt.EqAt.bool_int a b t
  |str b=>obtain ⟨t,rfl⟩:=rx;exact SeqAt.EqAt.bool_str a b t
  |_=>exact absurd (show false=true from fx) cl7
 |int a=>
  obtain ⟨t',rfl⟩:=ry
  cases x with
  |non=>cases rx;exact SeqAt.EqAt.int_none a t'
  |bl b=>cases rx;exact SeqAt.EqAt.int_bool a t' b
  |int b=>obtain ⟨t,rfl⟩:=rx;exact SeqAt.EqAt.int_int a t' b t
  |str b=>obtain ⟨t,rfl⟩:=rx;exact SeqAt.EqAt.int_str a t' b t
  |_=>exact absurd (show false=true from fx) cl7
 |str a=>
  obtain ⟨t',rfl⟩:=ry
  cases x with
  |non=>cases rx;exact SeqAt.EqAt.str_none a t'
  |bl b=>cases rx;exact SeqAt.EqAt.str_bool a t' b
  |int b=>obtain ⟨t,rfl⟩:=rx;exact SeqAt.EqAt.str_int a t' b t
  |str b=>obtain ⟨t,rfl⟩:=rx;exact SeqAt.EqAt.str_str a t' b t
  |_=>exact absurd (show false=true from fx) cl7
 |_=>exact absurd (show false=true from fy) cl7
theorem au9:K8 X (.builtin "len") (fun xs H Q=>∃p ys,xs=[.ref p]/\(i7 X.K H p ys\/D9 X.K H p ys)/\Q (.int ys.length) H):=by
 intro pins s σ H xs us Q I r h;obtain ⟨p,ys,rfl,hq,q⟩:=h;obtain ⟨u,rfl,rx⟩:=S8 r;cases rx;have hn:=aj9
 rcases hq with hq|hq
 · obtain ⟨its,r',pl,hz⟩:=I.list hq;have hlen:=r'.length;exact Calls.call_len_list pl.isList (by simp only[ck9]<;>omega) ⟨.int ys.length,H,I.tok _,⟨s.toks+1,by rw[ck9,hlen]⟩,q⟩
 · obtain ⟨its,r',pl,hz⟩:=I.tuple hq;have hlen:=r'.length;exact len_tuple pl (by simp only[ck9]<;>omega) ⟨.int ys.length,H,I.tok _,⟨s.toks+1,by rw[ck9,hlen]⟩,q⟩
theorem av0:K8 X (.type "list") (fun xs H Q=>∃p ys,xs=[.ref p]/\(i7 X.K H p ys\/D9 X.K H p ys)/\∀l,H l=none->Q (.ref l) (e8 H l (.lst ys))):=by
 intro pins s σ H xs us Q I r h;obtain ⟨p,ys,rfl,hq,q⟩:=h;obtain ⟨u,rfl,rx⟩:=S8 r;cases rx
 have fin:∀(its:List Value),m7 ys its->ys.length<=sizeLine->∀(h':Heap) (c':Nat),(∀b o',s.heap.get? b=some o'->h'.get? b=some o')->
     h'.get? s.heap.objs.size=some {cls:= .type "list",dict:=none,data:= .seq its.toArray c',slots:= #[]}->EP X pins σ Q (.ref s.heap.objs.size) {s with heap:=h'}:=fun its r' hz h' c' kp e=>
   ⟨.ref s.heap.objs.size,_,I.laid (t':=s.toks) kp (ck8 _) (show t5 X.prog X.w _ h' _ (.lst ys) from ⟨hz,its,c',r',e⟩),rfl,q _ (I.hok.fresh (ck8 _))⟩
 rcases hq with hq|hq
 · obtain ⟨its,r',pl,hz⟩:=I.list hq;have hlen:=r'.length;obtain ⟨o,ho,hc,n,hd⟩:=pl.isList;exact call_list_seq p (.inl rfl) ho hc hd (fun h' c' kp e=>fin its r' hz h' c' kp e) (by simp only[ck9]<;>omega)
 · obtain ⟨its,r',pl,hz⟩:=I.tuple hq;have hlen:=r'.length;obtain ⟨o,ho,hc,n,hd⟩:=pl;exact call_list_seq p (.inr rfl) ho hc hd (fun h' c' kp e=>fin its r' hz h' c' kp e) (by simp only[ck9]<;>omega)
def tyV (K:PySem.W.Frag)(T:String)(x:V)(H:Hp):Prop:=match x with
 | .str _=>T="str"
 | .int _=>T="int"
 | .ref p=>(T="list"/\∃xs,i7 K H p xs)\/(T="tuple"/\∃o,K.lookup p=some o/\o.cls= .type "tuple"/\o.dict=none)\/
     (T="dict"/\((∃kvs,H p=some (.dK kvs))\/∃kvs,H p=some (.dT kvs)))\/(T="set"/\∃S n,H p=some (.set S n))
 |_=>False
theorem ca4 {pins:List (Addr×Obj)}{σ:St}{H:Hp}{s:Shared}{T:String}{x:V}{v:Value}(I:h8 X pins σ H s)(r:o8 x v)(ty:tyV X.K T x H):
   s.TypeIs v T/\∀a,v= .ref a->∃ob,s.heap.get? a=some ob/\ob.dict=none:=by
 cases x with
 |str z=>
  obtain ⟨t,rfl⟩:=r;cases (show T="str" from ty);exact ⟨typeIs_str s z t,fun _ e=>nomatch e⟩
 |int i=>
  obtain ⟨t,rfl⟩:=r;cases (show T="int" from ty);exact ⟨typeIs_int s i t,fun _ e=>nomatch e⟩
 |ref p=>
  cases r
  rcases ty with ⟨rfl,xs,hq⟩|⟨rfl,o,hk,hc,hd⟩|⟨rfl,hk⟩|⟨rfl,S,n,hk⟩
  · obtain ⟨its,_,pl,_⟩:=I.list hq;refine ⟨pl.isList.typeIs,fun a e=> ?_⟩;cases e;obtain ⟨o,n,e,c,hd,_⟩:=pl;exact ⟨o,e,hd⟩
  · refine ⟨⟨o,I.kIn p o hk,hc⟩,fun a e=> ?_⟩;cases e;exact ⟨o,I.kIn _ o hk,hd⟩
  · have z:∃o,s.heap.get? p=some o/\o.ExactDict:=by
      rcases hk with ⟨kvs,hk⟩|⟨kvs,hk⟩
      · obtain ⟨_,_,_,_,o,_,_,e,ex,_⟩:=I.hok p _ hk;exact ⟨o,e,ex⟩
      · obtain ⟨_,_,_,_,o,_,_,e,ex,_⟩:=I.hok p _ hk;exact ⟨o,e,ex⟩
    obtain ⟨o,e,ex⟩:=z;refine ⟨⟨o,e,ex.1⟩,fun a e2=> ?_⟩;cases e2;exact ⟨o,e,ex.2.1⟩
  · obtain ⟨o,_,_,_,e,ex,_⟩:=I.hok p _ hk;refine ⟨⟨o,e,ex.1⟩,fun a e2=> ?_⟩;cases e2;exact ⟨o,e,ex.2.1⟩
 |_=>exact False.elim ty
def tBM (K:PySem.W.Frag)(T:String)(r:V->List V->Hp->VK->Prop)(to:TE)(t:TA):TE:=fun σ H Q=>to σ H fun x H1=>tyV K T x H1/\t σ H1 fun xs H2=>r x xs H2 Q
variable {o e:Expr} {es:List Expr} {to:TE} {t:TA} {name:Str} {apos cpos:Pos} {T id:String} {r:V->List V->Hp->VK->Prop}
theorem be6 (pa:PlainAttrs T)(slot:Slot T name id)(hty:typeOf (.builtin id)=pure (.type "method_descriptor"))(hm:MtR X id r)(ho:PE X o to)(ha:PA X (e::es) t)
   (hbase:attributeBase o name X.env (eval o X.env)=eval o X.env:=by rfl)
   (hfew:((backTo cpos (starEach (e::es) X.env)).all (fun x=> !x.1)&&(backToKw cpos (keywordEach [] X.env)).all (fun x=>x.1.isSome)
     &&decide ((e::es).length+([]:List Keyword).length+(if ([]:List Keyword).isEmpty then 0 else 1) < 30))=true:=by rfl)
   (hline:(apos.endLine==cpos.line)=true:=by rfl) (hs:starEach (e::es) X.env=(false,eval e X.env)::starEach es X.env:=by rfl) (hplain:(backTo cpos (starEach es X.env)).any (·.1)=false:=by rfl):
   PE X (.Call (.Attribute o name apos) (e::es) [] cpos) (tBM X.K T r to t):=by
 intro pins s σ H Q I h;refine wpAny_Call_method_late hbase hfew hline rfl (o5 (ho pins s σ H _ I h) fun v s1 ⟨x,H1,I1,r1,ty,q1⟩=> ?_);obtain ⟨h1,h2⟩:=ca4 I1 r1 ty;refine ⟨T,id,pa,slot,hty,h1,h2,?_⟩;have hA:=ha cpos pins s1 σ H1 _ I1 q1;rw[hs] at hA ⊢;refine Calls.callWith_builtin (by show (false||(backTo cpos (starEach es X.env)).any (·.1))=false;rw[hplain]<;>rfl) (Calls.evalArgs_plain ?_)
 exact o5 hA fun us s2 ⟨vs,H2,I2,r2,q2⟩=>hm pins s2 σ H2 x vs v us Q I2 r1 r2 q2
end
end L2
namespace L2
open PySem PySem.Spec PyProof.Rows
def MtM (X:Cx)(id:String)(r:V->List V->Hp->VK->Prop):Prop:=
 ∀(pins:List (Addr×Obj)) (s:Shared) (σ:St) (H:Hp) (x:V) (xs:List V) (v:Value) (us:List Value) (Q:VK),h8 X pins σ H s->o8 x v->m7 xs us->r x xs H Q->
  wpAny (model X.prog X.w) X.A (call (.builtin id) (v::us)) (EP X pins σ Q) X.xe s
theorem m7.one:∀{x:V} {us:List Value},m7 [x] us->∃u,us=[u]/\o8 x u
 |_,_,.cons r .nil=>⟨_,rfl,r⟩
theorem m7.eraseIdx:∀{xs:List V} {us:List Value} (i:Nat),m7 xs us->m7 (xs.eraseIdx i) (us.eraseIdx i)
 |_,_,_,.nil=> .nil
 |_,_,0,.cons _ t=>t
 |_,_,i+1,.cons r t=> .cons r (m7.eraseIdx i t)
theorem aq9 {α:Type}:∀(l:List α) (i:Nat),(l.eraseIdx i).length<=l.length
 |[],_=>ck8 _
 |_::_,0=>cv0 _
 |_::r,i+1=>Nat.succ_le_succ (aq9 r i)
section
variable {X:Cx} {pins:List (Addr×Obj)} {σ:St} {H:Hp} {s:Shared} {l b:Addr} {xs ys zs:List V}
theorem h8.lset {its its':List Value}{n:Nat}{f:Array Value->Array Value}{t':Nat}(I:h8 X pins σ H s)(hH:H l=some (.lst xs))
   (e:s.heap.get? l=some {cls:= .type "list",data:= .seq its.toArray n}) (hf:f its.toArray=its'.toArray) (hv:m7 ys its') (hz:ys.length<=sizeLine):
   h8 X pins σ (e8 H l (.lst ys)) {s with heap:=s.heap.update l (Obj.mapSeq f),toks:=t'}:=by
 have q:=PySem.IsL.update e f;rw[hf] at q;refine I.write (x:=l) (e:=l) (by rw[hH];exact trivial) (.inl rfl) (fun b' u hb hu=>(Heap.get?_update_other s.heap (Obj.mapSeq f) (Ne.symm hb)).trans hu) ⟨_,q⟩ ?_;exact ⟨hz,its',_,hv,q⟩
theorem h8.lnew {its:List Value}{t':Nat}(I:h8 X pins σ H s)(hv:m7 ys its)(hz:ys.length<=sizeLine):
   h8 X pins σ (e8 H s.heap.objs.size (.lst ys)) {s with heap:=s.heap.push {cls:= .type "list",data:= .seq its.toArray},toks:=t'}:=
 I.laid (fun _ _ q=>Heap.get?_push_of_some _ q) (ck8 _) ⟨hz,its,0,hv,Heap.get?_push_size _ rfl⟩
theorem h8.fresh (I:h8 X pins σ H s):H s.heap.objs.size=none:=I.hok.fresh (ck8 _)
theorem h8.lstM (I:h8 X pins σ H s)(hH:H l=some (.lst xs)):xs.length<=sizeLine/\∃(its:List Value) (n:Nat),m7 xs its/\xs.length=its.length/\s.heap.get? l=some {cls:= .type "list",data:= .seq its.toArray n}:=by
 obtain ⟨z,its,n,r,e⟩:=I.hok l _ hH;exact ⟨z,its,n,r,r.length,e⟩
end
section
variable {X:Cx}
def bb8:V->List V->Hp->VK->Prop:=fun x vs H Q=>∃l xs y,x= .ref l/\vs=[y]/\H l=some (.lst xs)/\xs.length < sizeLine/\Q .non (e8 H l (.lst (xs++[y])))
theorem bi9:MtM X "list.append" bb8:=by
 intro pins s σ H x vs v us Q I rx rv h;obtain ⟨l,xs,y,rfl,rfl,hH,hz,q⟩:=h;cases rx;obtain ⟨u,rfl,ru⟩:=rv.one;obtain ⟨z,its,n,r,hl,e⟩:=I.lstM hH;refine call_meets F.slot_list_append ⟨_,e,rfl⟩ F.entry_list_append (F.args_list_append_2 _ _) (PySem.list_append l its.toArray n u (by rw[ck9];omega)) ⟨e,?_⟩;refine ⟨.non,_,I.lset (its':=its++[u]) hH e (by simp) (r.append (.cons ru .nil)) ?_,rfl,q⟩;rw[cl2,ct3];omega
def bj0:V->List V->Hp->VK->Prop:=fun x vs H Q=>∃l xs i k y,x= .ref l/\vs=[.int i]/\H l=some (.lst xs)/\ -(2^63)<=i/\i < 2^63/\seqIndex? i xs.length=some k/\xs[k]? =some y/\Q y (e8 H l (.lst (xs.eraseIdx k)))
theorem bp1:MtM X "list.pop" bj0:=by
 intro pins s σ H x vs v us Q I rx rv h;obtain ⟨l,xs,i,k,y,rfl,rfl,hH,h1,h2,hk,hy,q⟩:=h;cases rx;obtain ⟨u,rfl,ru⟩:=rv.one;obtain ⟨t,rfl⟩:=ru;obtain ⟨z,its,n,r,hl,e⟩:=I.lstM hH;obtain ⟨w,hw,rw'⟩:=r.get hy
 refine call_meets F.slot_list_pop ⟨_,e,rfl⟩ F.entry_list_pop (F.args_list_pop_2 _ _)
   (MeetsSeq.list_pop_at l its.toArray n i t k w (fitsIndex_both h1 h2) (by rw[ck9,<-hl];exact hk) (by rw[<-cn4];exact hw) (by rw[ck9];omega)) ⟨e,?_⟩
 refine ⟨y,_,I.lset (its':=its.eraseIdx k) hH e ?_ (r.eraseIdx k) ?_,rw',q⟩
 · show its.toArray.eraseIdxIfInBounds k=(its.eraseIdx k).toArray;rw[List.eraseIdxIfInBounds_toArray]
 · have:=aq9 xs k;omega
def ci2:R2:=fun x y H Q=>∃l b xs zs,x= .ref l/\y= .ref b/\H l=some (.lst xs)/\H b=some (.lst zs)/\xs.length+zs.length<=sizeLine/\∀p,H p=none->Q (.ref p) (e8 H p (.lst (xs++zs)))
theorem ak4:E3 X (binaryOp .Add) ci2:=by
 intro pins s σ H x y v u Q I rx ry h;obtain ⟨l,b,xs,zs,rfl,rfl,hH,hB,hz,q⟩:=h;cases rx;cases ry;obtain ⟨z,its,n,r,hl,e⟩:=I.lstM hH;obtain ⟨z2,its2,n2,r2,hl2,e2⟩:=I.lstM hB;refine PySem.P.add_list e e2 ?_ (by rw[ck9,ck9];omega)
 have ea:its.toArray++its2.toArray=(its++its2).toArray:=by simp
 rw[ea];exact ⟨.ref _,_,I.lnew (t':=s.toks) (r.append r2) (by rw[cl2];omega),rfl,q _ I.fresh⟩
end
end L2
namespace L2
open PySem PySem.Spec PyProof.Rows
section
variable {κ:Type} [DecidableEq κ]
def L4 (kvs:List (κ×V))(k:κ):Option V:=(kvs.find? fun kv=>decide (kv.1=k)).map (·.2)
def N6 (kvs:List (κ×V))(k:κ)(v:V):List (κ×V):=
 if (kvs.any fun kv=>decide (kv.1=k))=true then kvs.map (fun kv=>if kv.1=k then (kv.1,v) else kv) else kvs++[(k,v)]
theorem aa1 {p:κ×V}{r:List (κ×V)}{k:κ}(e:p.1=k):L4 (p::r) k=some p.2:=by simp [L4,cs9,e]
theorem V1 {p:κ×V}{r:List (κ×V)}{k:κ}(e:¬p.1=k):L4 (p::r) k=L4 r k:=by simp [L4,cs9,e]
theorem ai2 (k:κ):∀kvs:List (κ×V),(kvs.any fun kv=>decide (kv.1=k))=(L4 kvs k).isSome
 |[]=>rfl
 |p::r=>by
  rw[cw7]
  by_cases e:p.1=k
  · simp only[aa1 e,decide_eq_true e,Bool.true_or,Option.isSome_some]
  · rw[V1 e,decide_eq_false e,Bool.false_or];exact ai2 k r
theorem ah1 (kvs:List (κ×V))(k:κ)(v:V):(N6 kvs k v).length<=kvs.length+1:=by
 unfold N6
 split
 · rw[ck5];omega
 · rw[cl2,cm9,List.length_nil];omega
theorem bp2 {kvs:List (κ×V)}{k:κ}(v:V)(h:L4 kvs k=none):N6 kvs k v=kvs++[(k,v)]:=by
 unfold N6;rw[ai2,h];exact if_neg (by decide)
theorem ah6.isSome_eq {o:Option V}{u:Option Value}(r:ah6 o u):o.isSome=u.isSome:=by
 cases o with
 |none=>cases u with
  |none=>rfl
  |some _=>exact (show False from r).elim
 |some _=>cases u with
  |none=>exact (show False from r).elim
  |some _=>rfl
theorem KV.val {kvs:List (κ×V)}{vs:List (κ×Value)}(r:KV kvs vs)(k:κ):ah6 (L4 kvs k) (valueAt vs k):=by
 unfold KV at r
 induction r with
 |nil=>exact True.intro
 |@cons p q ps qs h t ih=>
  obtain ⟨h1,h2⟩:=h
  by_cases e:p.1=k
  · have e':q.1=k:=h1.symm.trans e
    have b:valueAt (q::qs) k=some q.2:=by simp [valueAt,cs9,e']
    rw[aa1 e,b];exact h2
  · have e':¬q.1=k:=fun z=>e (h1.trans z)
    have b:valueAt (q::qs) k=valueAt qs k:=by simp [valueAt,cs9,e']
    rw[V1 e,b];exact ih
theorem KV.any {kvs:List (κ×V)}{vs:List (κ×Value)}(r:KV kvs vs)(k:κ):(kvs.any fun kv=>decide (kv.1=k))=vs.any fun kv=>decide (kv.1=k):=by
 unfold KV at r
 induction r with
 |nil=>rfl
 |cons h t ih=>rw[cw7,cw7,ih,h.1]
theorem KV.repl {kvs:List (κ×V)}{vs:List (κ×Value)}(r:KV kvs vs)(k:κ){y:V}{u:Value}(ry:o8 y u):
   KV (kvs.map fun kv=>if kv.1=k then (kv.1,y) else kv) (vs.map fun kv=>if kv.1=k then (kv.1,u) else kv):=by
 unfold KV at r ⊢
 induction r with
 |nil=>exact .nil
 |@cons p q ps qs h t ih=>
  rw[cp9,cp9];refine .cons ?_ ih;obtain ⟨h1,h2⟩:=h
  by_cases e:p.1=k
  · rw[if_pos e,if_pos (h1.symm.trans e)];exact ⟨h1,ry⟩
  · rw[if_neg e,if_neg (fun z=>e (h1.trans z))];exact ⟨h1,h2⟩
theorem KV.put {kvs:List (κ×V)}{vs:List (κ×Value)}(r:KV kvs vs)(k:κ){y:V}{u:Value}(ry:o8 y u):KV (N6 kvs k y) (stored vs k u):=by
 unfold N6 stored;rw[r.any k]
 by_cases e:(vs.any fun kv=>decide (kv.1=k))=true
 · rw[if_pos e,if_pos e];exact r.repl k ry
 · rw[if_neg e,if_neg e];exact Paired.snoc r ⟨rfl,ry⟩
theorem KV.length {kvs:List (κ×V)}{vs:List (κ×Value)}(r:KV kvs vs):kvs.length=vs.length:=Paired.length r
end
theorem at5 {P:Program}{w:World}{k:x4}{u:Value}(r:o8 (kV k) u):(D7 P w).is k u=true:=by
 cases k with
 |inl i=>obtain ⟨t,e⟩:=(show ∃t,u=Value.int i t from r);subst e;exact az3 P w i t
 |inr x=>obtain ⟨t,e⟩:=(show ∃t,u=Value.str x t from r);subst e;exact az4 P w x t
theorem ar0 {P:Program}{w:World}:∀{ks:List x4} {us:List Value},m7 (ks.map kV) us->ItemsAre (D7 P w) ks us
 |[],_,r=>by rw[cx6] at r;cases r;exact .nil
 |k::ks,_,r=>by
  rw[cp9] at r
  cases r with
  |cons h t=>exact .cons (at5 h) (ar0 t)
abbrev KT (H:Hp):List (List x4×V)->List (List x4×Addr×Value)->Prop:=Paired fun p q=>p.1=q.1/\H q.2.1=some (.tup (p.1.map kV))/\o8 p.2 q.2.2
theorem KT.val {H:Hp}{kvs:List (List x4×V)}{xs:List (List x4×Addr×Value)}(r:KT H kvs xs)(k:List x4):ah6 (L4 kvs k) ((atKey xs k).map (·.2)):=by
 induction r with
 |nil=>exact True.intro
 |@cons p q ps qs h t ih=>
  obtain ⟨h1,_,h2⟩:=h
  by_cases e:p.1=k
  · have e':q.1=k:=h1.symm.trans e
    have b:atKey (q::qs) k=some q.2:=by simp [atKey,cs9,e']
    rw[aa1 e,b];exact h2
  · have e':¬q.1=k:=fun z=>e (h1.trans z)
    have b:atKey (q::qs) k=atKey qs k:=by simp [atKey,cs9,e']
    rw[V1 e,b];exact ih
theorem KT.repl {H:Hp}{kvs:List (List x4×V)}{xs:List (List x4×Addr×Value)}(r:KT H kvs xs)(k:List x4){y:V}{u:Value}(ry:o8 y u):
   KT H (kvs.map fun kv=>if kv.1=k then (kv.1,y) else kv) (xs.map (putAt k u)):=by
 induction r with
 |nil=>exact .nil
 |@cons p q ps qs h t ih=>
  rw[cp9,cp9];refine .cons ?_ ih;obtain ⟨h1,h2,h3⟩:=h;unfold putAt
  by_cases e:p.1=k
  · rw[if_pos e,if_pos (h1.symm.trans e)];exact ⟨h1,h2,ry⟩
  · rw[if_neg e,if_neg (fun z=>e (h1.trans z))];exact ⟨h1,h2,h3⟩
theorem KT.put {H:Hp}{kvs:List (List x4×V)}{xs:List (List x4×Addr×Value)}(r:KT H kvs xs)(k:List x4){b:Addr}{y:V}{u:Value}(hb:H b=some (.tup (k.map kV)))(ry:o8 y u):
   KT H (N6 kvs k y) (storedH xs k b u):=by
 have e:(kvs.any fun kv=>decide (kv.1=k))=(atKey xs k).isSome:=by
   rw[ai2,(r.val k).isSome_eq,cw8]
 unfold N6 storedH;rw[e]
 by_cases q:(atKey xs k).isSome=true
 · rw[if_pos q,if_pos q];exact r.repl k ry
 · rw[if_neg q,if_neg q];exact Paired.snoc r ⟨rfl,hb,ry⟩
theorem KT.keeps {H H':Hp}{kvs:List (List x4×V)}{xs:List (List x4×Addr×Value)}(r:KT H kvs xs)(ht:∀b ys,H b=some (.tup ys)->H' b=some (.tup ys)):KT H' kvs xs:=
 Paired.mapP r fun _ _ z=>⟨z.1,ht _ _ z.2.1,z.2.2⟩
section
variable {P:Program} {w:World} {H:Hp} {h:Heap} {a:Addr}
theorem bt3 {u:HO}(ok:B9 P w H h)(e:Rd H a u):t5 P w H h a u:=e.ok ok
theorem be7 {kvs:List (x4×V)}(ok:B9 P w H h)(e:Rd H a (.dK kvs)):kvs.length<=sizeLine/\(a==sysModules)=false/\∃vs,KV kvs vs/\h.DictOf (D7 P w) a vs:=
 show t5 P w H h a (.dK kvs) from bt3 ok e
theorem ce3 {kvs:List (x4×V)}(ok:B9 P w H h)(e:H a=some (.dK kvs)):kvs.length<=sizeLine/\(a==sysModules)=false/\∃vs,KV kvs vs/\h.DictOf (D7 P w) a vs:=be7 ok (.inl e)
theorem ak5 {ks:List x4}(ok:B9 P w H h)(e:H a=some (.tup (ks.map kV))):(tupleKind (D7 P w)).is h ks a:=by
 obtain ⟨_,its,r,o,h1,h2,n,h3⟩:=(show t5 P w H h a (.tup (ks.map kV)) from ok a _ e);exact ⟨o,its.toArray,n,h1,h2,h3,by simpa using ar0 r⟩
theorem be8 {kvs:List (List x4×V)}(ok:B9 P w H h)(e:Rd H a (.dT kvs)):kvs.length<=sizeLine/\(a==sysModules)=false/\
   ∃xs,KT H kvs xs/\h.DictOfH (tupleKind (D7 P w)) a xs:=by
 obtain ⟨z,y,xs,r,o,es,ep,h1,h2,h3,h4,h5⟩:=(show t5 P w H h a (.dT kvs) from bt3 ok e);refine ⟨z,y,xs,r,o,es,ep,h1,h2,h3,h4,fun x hx=> ?_,h5⟩
 have all:∀{l:List (List x4×V)} {m:List (List x4×Addr×Value)},KT H l m->∀x∈m,(tupleKind (D7 P w)).is h x.1 x.2.1:=by
   intro l m q
   induction q with
   |nil=>intro x hx;exact nomatch hx
   |@cons p q ps qs hq t ih=>
    intro x hx
    rcases co0.mp hx with e|hx
    · subst e;exact ak5 ok (by rw[<-hq.1];exact hq.2.1)
    · exact ih x hx
 exact all r x hx
theorem ce4 {kvs:List (List x4×V)}(ok:B9 P w H h)(e:H a=some (.dT kvs)):kvs.length<=sizeLine/\(a==sysModules)=false/\
 ∃xs,KT H kvs xs/\h.DictOfH (tupleKind (D7 P w)) a xs:=be8 ok (.inl e)
end
def aa2 (H:Hp)(a:Addr)(y:V)(r:Option V):Prop:=
 (∃kvs k,Rd H a (.dK kvs)/\y=kV k/\r=L4 kvs k)\/∃kvs k b,Rd H a (.dT kvs)/\y= .ref b/\H b=some (.tup (k.map kV))/\r=L4 kvs k
def ai3 (H:Hp)(a:Addr)(y v:V)(H':Hp):Prop:=
 (∃kvs k,H a=some (.dK kvs)/\y=kV k/\kvs.length < sizeLine/\H'=e8 H a (.dK (N6 kvs k v)))\/
 ∃kvs k b,H a=some (.dT kvs)/\y= .ref b/\H b=some (.tup (k.map kV))/\kvs.length < sizeLine/\H'=e8 H a (.dT (N6 kvs k v))
theorem aa2.k {H:Hp}{a:Addr}{kvs:List (x4×V)}{k:x4}(e:H a=some (.dK kvs)):aa2 H a (kV k) (L4 kvs k):= .inl ⟨kvs,k,.inl e,rfl,rfl⟩
theorem ai3.k {H:Hp}{a:Addr}{kvs:List (x4×V)}{k:x4}{v:V}(e:H a=some (.dK kvs))(hl:kvs.length < sizeLine):ai3 H a (kV k) v (e8 H a (.dK (N6 kvs k v))):= .inl ⟨kvs,k,e,rfl,hl,rfl⟩
section
variable {X:Cx} {pins:List (Addr×Obj)} {σ:St} {H:Hp} {s:Shared} {a:Addr} {y v:V} {u r:Value} {o:Option V} {A:Around} {E:Value->Shared->Prop}
theorem h8.big (I:h8 X pins σ H s):sysModules < s.heap.objs.size:=by
 have h:mainGlobals < s.heap.objs.size:=(I.mod.glob.keeps I.bk).lt;exact Nat.lt_trans (by decide) h
theorem ci3 {Q:Value->Shared->Prop}(hu:A.units+1 < cLine)(I:h8 X pins σ H s)(g:aa2 H a y o)(ry:o8 y u)(h:∀s',h8 X pins σ H s'->Q (.bool o.isSome) s'):
   wpAny (model X.prog X.w) A (compareOp .In u (.ref a)) Q E s:=by
 rcases g with ⟨kvs,k,e,ey,l⟩|⟨kvs,k,b,e,ey,eb,l⟩
 · subst ey;obtain ⟨z,hd,vs,rel,dd⟩:=be7 I.hok e;refine wpAny_in_of (at5 ry) hd dd.mapOf ?_;rw[<-(rel.val k).isSome_eq,<-l];exact h _ (I.tok _)
 · subst ey;cases (show u=Value.ref b from ry);obtain ⟨z,hd,xs,rel,dd⟩:=be8 I.hok e;refine wpAny_in_heap (tupleKind_room_in1 hu) (ak5 I.hok eb) hd dd ?_;have q:=(rel.val k).isSome_eq;rw[cw8] at q;rw[<-q,<-l];exact h _ (I.tok _)
theorem bu3 {Q:Value->Shared->Prop}(hu:A.units+1 < cLine)(I:h8 X pins σ H s)(g:aa2 H a y o)(ry:o8 y u)(h:∀s',h8 X pins σ H s'->Q (.bool (!o.isSome)) s'):
   wpAny (model X.prog X.w) A (compareOp .NotIn u (.ref a)) Q E s:=by
 rcases g with ⟨kvs,k,e,ey,l⟩|⟨kvs,k,b,e,ey,eb,l⟩
 · subst ey;obtain ⟨z,hd,vs,rel,dd⟩:=be7 I.hok e;refine wpAny_notIn_of (at5 ry) hd dd.mapOf ?_;rw[<-(rel.val k).isSome_eq,<-l];exact h _ (I.tok _)
 · subst ey;cases (show u=Value.ref b from ry);obtain ⟨z,hd,xs,rel,dd⟩:=be8 I.hok e;refine wpAny_notIn_heap (tupleKind_room_in1 hu) (ak5 I.hok eb) hd dd ?_;have q:=(rel.val k).isSome_eq;rw[cw8] at q;rw[<-q,<-l];exact h _ (I.tok _)
theorem bb9 {h':Heap}{t':Nat}{ob:HO}(I:h8 X pins σ H s)(mu:Mut (H a))(hs:Heap.SameBut a s.heap h')(he:∃q,h'.get? a=some q)(new:t5 X.prog X.w (e8 H a ob) h' a ob):
   h8 X pins σ (e8 H a ob) {s with heap:=h',toks:=t'}:=
 I.write (x:=a) (e:=a) mu (.inl rfl) (fun b q hb z=>(hs.2 b hb).trans z) he new
theorem ca6 {P:Program}{w:World}{H':Hp}{h':Heap}{kvs:List (x4×V)}{vs:List (x4×Value)}(z:kvs.length<=sizeLine)(hd:(a==sysModules)=false)(rel:KV kvs vs)(dd:h'.DictOf (D7 P w) a vs):
 t5 P w H' h' a (.dK kvs):=⟨z,hd,vs,rel,dd⟩
theorem bj1 {H':Hp}{Q:Unit->Shared->Prop}(hu:A.units+1 < cLine)(I:h8 X pins σ H s)(g:ai3 H a y v H')(ry:o8 y u)(rv:o8 v r)(h:∀s',h8 X pins σ H' s'->Q () s'):
   wpAny (model X.prog X.w) A (setItem (.ref a) u r) Q E s:=by
 rcases g with ⟨kvs,k,e,ey,l,eH⟩|⟨kvs,k,b,e,ey,eb,l,eH⟩
 · subst ey eH;obtain ⟨z,hd,vs,rel,dd⟩:=ce3 I.hok e
   have hz:vs.length<=sizeLine:=by rw[<-rel.length];exact z
   have hl:(N6 kvs k v).length<=sizeLine:=by have:=ah1 kvs k v;omega
   refine wpAny_setItem_pairs (hsz:=hz) (at5 ry) dd fun h' dd' hs=>h _ ?_
   have he:∃q,h'.get? a=some q:=let ⟨q,_,_,hq,_⟩:=dd';⟨q,hq⟩;exact bb9 I (by rw[e];exact True.intro) hs he (ca6 hl hd (rel.put k rv) dd')
 · subst ey eH;cases (show u=Value.ref b from ry);obtain ⟨z,hd,xs,rel,dd⟩:=ce4 I.hok e
   have hz:xs.length<=sizeLine:=by rw[<-Paired.length rel];exact z
   have hl:(N6 kvs k v).length<=sizeLine:=by have:=ah1 kvs k v;omega
   refine wpAny_setItem_heap (hsz:=hz) (tupleKind_room_in1 hu) (ak5 I.hok eb) dd fun h' dd' hs=>h _ ?_
   obtain ⟨q,es,ep,hq,h2,h3,h4,_,h5⟩:=dd';refine bb9 I (by rw[e];exact True.intro) hs ⟨q,hq⟩ ⟨hl,hd,_,(rel.put k eb rv).keeps fun c ys ec=> ?_,q,es,ep,hq,h2,h3,h4,h5⟩;rw[i8 (bs3 ec e (fun z=>nomatch z))];exact ec
end
def ci4 (ty td:TE):TE:=fun σ H Q=>ty σ H fun y H1=>td σ H1 fun x H2=>∃a o,x= .ref a/\aa2 H2 a y o/\Q (.bl o.isSome) H2
def bu4 (ty td:TE):TE:=fun σ H Q=>ty σ H fun y H1=>td σ H1 fun x H2=>∃a o,x= .ref a/\aa2 H2 a y o/\Q (.bl (!o.isSome)) H2
def ce5 (td ty tv:TE):TS:=fun D σ H=>tv σ H fun v H1=>td σ H1 fun x H2=>ty σ H2 fun y H3=>∃a H4,x= .ref a/\ai3 H3 a y v H4/\D.nx σ H4
section
variable {X:Cx} {o i e value:Expr} {pos pos' tpos:Pos} {td ty tv:TE}
theorem bj2 (hu:X.A.units+1 < cLine)(hi:PE X i ty)(ho:PE X o td):PC X .In i o (ci4 ty td):=by
 intro pins s σ H Q I h
 refine o5 (hi pins s σ H _ I h) fun iv s1 ⟨y,H1,I1,ry,q1⟩=>o5 (ho pins s1 σ H1 _ I1 q1) fun u s2 ⟨x,H2,I2,rx,a,ov,ex,g,q2⟩=> ?_
 subst ex;obtain rfl:u=Value.ref a:=rx
 exact ci3 hu I2 g ry fun s3 I3=>⟨.bl ov.isSome,H2,I3,rfl,q2⟩
theorem bj3 (hu:X.A.units+1 < cLine)(hi:PE X i ty)(ho:PE X o td):PC X .NotIn i o (bu4 ty td):=by
 intro pins s σ H Q I h
 refine o5 (hi pins s σ H _ I h) fun iv s1 ⟨y,H1,I1,ry,q1⟩=>o5 (ho pins s1 σ H1 _ I1 q1) fun u s2 ⟨x,H2,I2,rx,a,ov,ex,g,q2⟩=> ?_
 subst ex;obtain rfl:u=Value.ref a:=rx
 exact bu3 hu I2 g ry fun s3 I3=>⟨.bl (!ov.isSome),H2,I3,rfl,q2⟩
theorem ao3 (hu:X.A.units+1 < cLine)(ho:PE X o td)(hi:PE X i ty)(hv:PE X value tv)(hs:swapsWith value (some (.Subscript o i pos')) pos.line X.env=pure false):
   PS X (.Assign [.Subscript o i pos'] value pos) (ce5 td ty tv):=by
 intro pins s σ H D I h;refine wpAny_Assign_Subscript (o5 (hv pins s σ H _ I h) fun r s1 ⟨v,H1,I1,rv,q1⟩=>o5 (ho pins s1 σ H1 _ I1 q1) fun u s2 ⟨x,H2,I2,rx,q2⟩=>o5 (hi pins s2 σ H2 _ I2 q2) fun iv s3 ⟨y,H3,I3,ry,a,H4,ex,g,q3⟩=> ?_) hs;subst ex;obtain rfl:u=Value.ref a:=rx
 exact bj1 hu I3 g ry rv fun s4 I4=>⟨σ,H4,I4,q3⟩
end
theorem bp3 {P:Program}{w:World}{H:Hp}(h:Heap)(hb:sysModules < h.objs.size):t5 P w H (h.push {cls:= .type "dict",data:= .dict #[]}) h.objs.size (.dK []):=
 ⟨cn3 _,beq_eq_false_iff_ne.mpr (Ne.symm (cm7 hb)),[],.nil,Heap.DictOf.new h⟩
def ca7:TE:=fun _ H Q=>∀p,H p=none->Q (.ref p) (e8 H p (.dK []))
section
variable {X:Cx} {pos:Pos}
theorem ai4:PE X (.Dict [] [] pos) ca7:=fun pins s σ H Q I h=>
 wpAny_Dict_empty ⟨.ref s.heap.objs.size,_,I.laid (a:=s.heap.objs.size) (o:= .dK []) (t':=s.toks) (fun _ _ q=>Heap.get?_push_of_some _ q) (ck8 _) (bp3 s.heap I.big),rfl,h _ (I.hok.fresh (ck8 _))⟩
end
end L2
namespace Att
open PySem PySem.W PySem.Calls PyProof.Rows
theorem ak6 {P:Params}{h:Heap}:∀(ns:List Int) (vs:List Value),WellAll P h vs (ns.map WData.int)->IntsAre vs ns:=by
 intro ns
 induction ns with
 |nil=>
  intro vs w;rw[cx6] at w;cases w;exact .nil
 |cons n ns ih=>
  intro vs w;rw[cp9] at w
  cases w with
  |cons a b=>
   cases a;exact .cons _ _ (ih _ b)
theorem bj4 {l:OpenLaw}{n:Nat}(hn:l.most=some n){P:Params}{h:Heap}{args:List WData}{vals:List Value}
   (hpre:l.row.toRowW.claim.pre args=true) (hwl:WellAll P h vals args):
   ∃a vs ns,vals=[Value.ref a]/\args=[WData.list (ns.map WData.int)]/\h.get? a=some {cls:= .type "list",data:= .seq vs.toArray}/\IntsAre vs ns/\ns.length<=n:=by
 have hsh:WShape.hasAll [] args [.list .int]=true:=(pre_splitW hpre).1;have hc:l.pre.holds [] {args:=args}=true:=(pre_splitW hpre).2;obtain ⟨d,r,rfl,h1,h2⟩:=hasAllW_cons hsh;obtain rfl:=hasAllW_nil h2;obtain ⟨xs,rfl,h3⟩:=hasW_list h1;obtain ⟨ns,rfl⟩:=items_int h3
 have hlen:ns.length<=n:=by
   unfold OpenLaw.pre at hc
   have h4:(WTm.not (.lt (.lit (.int (n:Int))) (.len (.arg 0)))).holds [] {args:=[.list (ns.map .int)]}=true:=by
     have h4:=(holds_andW hc).1;rw[hn] at h4;exact h4
   have h5:=condW_of h4 (w_not (w_lt w_lit (w_len_list (w_arg rfl))));rw[ck5] at h5
   refine Nat.le_of_not_lt fun q=> ?_
   have q':(n:Int) < ((ns.length:Nat):Int):=by omega
   first
     |(rw[decide_eq_true q'] at h5;exact absurd h5 (by decide))
     |(simp at h5;omega)
 cases hwl with
 |cons w1 w2=>
  cases w2
  cases w1 with
  |list ho hall=>exact ⟨_,_,ns,rfl,rfl,ho,ak6 ns _ hall,hlen⟩
theorem bj5 (l:OpenLaw)(args:List WData):l.row.toRowW.claim.post args (.bool true) args=true:=
 postW_of (r:=l.row.toRowW) (X:=(true==true))
   (show WShape.has [] (.bool true) .bool=true by first|rfl|decide|simp [WShape.has,WShape.arms,WShape.armsAll])
   (show (WTm.eq .res (.lit (.bool true))).value [] {args:=args,res:=some (.bool true),after:=args}=some (.bool (true==true)) from w_eq_bool (w_res rfl) w_lit) rfl
theorem cd2 {l:OpenLaw}{n:Nat}{q:Program}{loose:List Str}{XP:(Str->Option Value)->Heap->Prop}{YP:World->Heap->Prop}{d:DefRec}
   (hn:l.most=some n) (hdf:d.params.defaults=[])
   (call:∀(w:World) (s₀ s₁:Shared) (mg mb:Str->Option Value) (fa:Addr) (o:Obj) (pm cd doc:Value) (a:Addr) (vs:List Value) (ns:List Int),
     Ground q loose [] XP w s₀ mg mb s₁.heap->YP w s₁.heap->
     s₁.heap.get? fa=some o->o.data= .func (docDef d.name d.params d.body d.scope pm cd doc)->s₁.heap.CodeRec cd d.name->mg d.name=some (.ref fa)->
     s₁.heap.get? a=some {cls:= .type "list",data:= .seq vs.toArray}->IntsAre vs ns->ns.length<=n->s₁.gens= #[]->
     codeAny (model l.prog w) callerA (.call (.ref fa) ⟨[.ref a],[]⟩) (fun r s'=>r= .ok (.ret (.bool true))/\OldK s₁.heap s'.heap/\s'.os=s₁.os/\AllBare s'.gens) s₁):
   WalkO q loose XP YP l.row.toRowW d [] (fun f vs=>PySem.call f vs):=by
 intro w s₀ s₁ mg mb G Y fa o pm cd doc dV kV ho hd hcd hD hmg hg args vals as hpre hlay hrd hwl hlo;obtain rfl:dV= .none:=Dflts.none hD hdf;obtain rfl:kV= .none:=Dflts.noKw hD;obtain ⟨a,vs,ns,rfl,rfl,hobj,hints,hlen⟩:=bj4 hn hpre hwl;refine enter_call (codeAny_mono (call w s₀ s₁ mg mb fa o pm cd doc a vs ns G Y ho (fd_plain hd) hcd hmg hobj hints hlen hg) fun r s' hq=> ?_);obtain ⟨rfl,h2,h3,h4⟩:=hq;exact ⟨.inl ⟨.bool true,.bool true,[],rfl,fun _=>rfl,.bool true,bj5 l _,fun _=>⟨List.Pairwise.nil,fun _ hm=>(nomatch hm)⟩⟩,h2,h3,h4⟩
end Att
namespace L2
open PySem PySem.Spec PyProof.Rows
theorem ac6:∀{vs:List Value} {ns:List Int},IntsAre vs ns->m7 (ns.map V.int) vs
 |_,_,.nil=> .nil
 |_,_,.cons n t h=> .cons ⟨t,rfl⟩ (ac6 h)
def bp4 (H:Hp):Prop:=∀b,H b=none\/∃o xs,H b=some (.frz o (.lst xs))
theorem bp5 {P:Program}{w:World}{K:PySem.W.Frag}{mg mb:Str->Option Value}{CX:S4}{k:Nat}{fa a:Addr}{fd:FuncData}{x:Str}{sp:Sp}{s₁:Shared}{vs:List Value}{ns:List Int}
   (KX:K.In s₁.heap) (hns:s₁.heap.Ns mainGlobals mg) (hb:s₁.heap.Ns builtinsNs mb) (hbb:∀x:Str,x≠"__name__"->mb x=bootBuiltins x) (hlim:s₁.heap.NoLimit) (hg:s₁.gens= #[])
   (ha:s₁.heap.get? a=some {cls:= .type "list",data:= .seq vs.toArray}) (hi:IntsAre vs ns) (hl:ns.length<=sizeLine) (hr:o6 k callerA)
   (F:∀base:Heap,K.In base->base.Ns mainGlobals mg->l6 P w K mg base CX k fa fd [x] sp) (hbind:∀(s:Shared) (u:Value),BindsTo s fd ⟨[u],[]⟩ [(x,u)])
   (hsp:∀H:Hp,bp4 H->i7 K H a (ns.map V.int)->sp [.ref a] H (fun v _=>v= .bl true) fun _ _ _=>False)
   (hCX:∀H e s',CX [] H s₁ (fun _ _ _=>False) e s'->False):
   codeAny (model P w) callerA (.call (.ref fa) ⟨[.ref a],[]⟩) (fun r s'=>r= .ok (.ret (.bool true))/\OldK s₁.heap s'.heap/\s'.os=s₁.os/\AllBare s'.gens) s₁:=by
 have rv:=ac6 hi;have lenV:=hi.length
 have core:∀H:Hp,bp4 H->i7 K H a (ns.map V.int)->B9 P w H s₁.heap->(∀b,H b≠none->b=a)->(H a≠none->K.lookup a=none)->
     codeAny (model P w) callerA (.call (.ref fa) ⟨[.ref a],[]⟩) (fun r s'=>r= .ok (.ret (.bool true))/\OldK s₁.heap s'.heap/\s'.os=s₁.os/\AllBare s'.gens) s₁:=by
   intro H hO hS hok hA hK
   have base_of:∀{b:Addr} {o:Obj},s₁.heap.get? b=some o->H b=none->(Z8 s₁.heap H).get? b=some o:=fun e n=>bo0 e n
   have noA:∀{b:Addr} {o:Obj} {es:Array DictEntry} {ep:Nat},s₁.heap.get? b=some o->o.data= .dict es ep->H b=none:=fun {b o es ep} e d=>by
     cases q:H b with
     |none=>rfl
     |some u=>
      have e':b=a:=hA b (by rw[q];simp);subst e';rw[ha] at e;cases e;have d':Data.seq vs.toArray _=Data.dict es ep:=d;cases d'
   have nsK:∀{b:Addr} {m:Str->Option Value},s₁.heap.Ns b m->(Z8 s₁.heap H).Ns b m:=fun {b m} ⟨o,es,ep,e,d,r⟩=>⟨o,es,ep,base_of e (noA e d),d,r⟩
   have hKb:K.In (Z8 s₁.heap H):=fun b o e=>base_of (KX b o e) (by
     cases q:H b with
     |none=>rfl
     |some u=>
      have e':b=a:=hA b (by rw[q];simp);subst e'
      rw[hK (by rw[q];simp)] at e;cases e)
   have hM:Mod K mg (Z8 s₁.heap H):=⟨hKb,nsK hns,⟨mb,nsK hb,hbb⟩,let ⟨mc,h1,h2⟩:=hlim;⟨mc,nsK h1,h2⟩⟩;have e0:be3 P w K mg (Z8 s₁.heap H) callerA [] s₁ H:=⟨rfl,hM,fun b o e=>bt7 e,cw1 (bh5 _ _),trivial,fun b hb=>absurd (show b∈([]:List Addr) from hb) (by simp),hok,.of_eq hg⟩
   refine codeAny_mono ((F _ hKb (nsK hns)).run callerA [] s₁ H ⟨[.ref a],[]⟩ [.ref a] [.ref a] _ _ hr e0 (hbind s₁ (.ref a)) (.cons rfl .nil) (hsp H hO hS)) fun r s' h=> ?_
   cases r with
   |error e=>exact (hCX H e s' h).elim
   |ok fl=>
    cases fl with
    |next=>exact False.elim h
    |brk=>exact False.elim h
    |cont=>exact False.elim h
    |ret u=>
     obtain ⟨v,H',os,bare,un,hok',r',q⟩:=h;have q':v= .bl true:=q;subst q';obtain rfl:u=Value.bool true:=r';refine ⟨rfl,OldK.of_keep fun b o e=> ?_,os,bare⟩
     cases q:H b with
     |none=>exact un.keep b o e q (by intro z;exact absurd (show b∈([]:List Addr) from z) (by simp)) (by simp)
     |some u=>
      rcases hO b with z|⟨ob,xs,z⟩
      · rw[q] at z;cases z
      · have z2:=un.frzs b ob _ z;obtain ⟨e1,_⟩:=hok b _ z;obtain ⟨e2,_⟩:=hok' b _ z2;rw[e] at e1;cases e1;exact e2
 cases hk:K.lookup a with
 |some o=>
  have e:=KX a o hk;rw[ha] at e;cases e
  refine core (fun _=>none) (fun _=> .inl rfl) (.inr ⟨_,vs.toArray,_,hk,rfl,rfl,rfl,by rw[ck9,lenV];exact hl,by simpa using rv⟩) (fun b u z=>by have z':(none:Option HO)=some u:=z;cases z') (fun b z=>absurd rfl z) fun z=>absurd rfl z
 |none=>
  refine core (fun b=>if b=a then some (.frz {cls:= .type "list",data:= .seq vs.toArray} (.lst (ns.map V.int))) else none) (fun b=> ?_) (.inl (.inr ⟨{cls:= .type "list",data:= .seq vs.toArray},if_pos rfl⟩)) (fun b u z=> ?_) (fun b z=> ?_) fun _=>hk
  · by_cases hb:b=a
    · exact .inr ⟨_,_,if_pos hb⟩
    · exact .inl (if_neg hb)
  · by_cases hb:b=a
    · have z':=(if_pos hb).symm.trans z;cases z';subst hb;exact ⟨ha,by rw[ck5];exact hl,vs,_,rv,ha⟩
    · have z':=(if_neg hb).symm.trans z;cases z'
  · by_cases hb:b=a
    · exact hb
    · exact absurd (if_neg hb) z
end L2
namespace L2
open PySem PySem.Spec PyProof.Rows
theorem cj3 {l:PySem.W.OpenLaw}{n k:Nat}{q:Program}{loose:List Str}{XP:(Str->Option Value)->Heap->Prop}{YP:World->Heap->Prop}{d:DefRec}{K:Params->PySem.W.Frag}{CX:World->S4}{sp:World->Sp}{x:Str}
   (hn:l.most=some n) (hn2:n<=sizeLine) (hdf:d.params.defaults=[]) (hr:o6 k callerA)
   (hY:∀(w:World) (h:Heap),YP w h->(K w.params).In h)
   (F:∀(w:World) (mg:Str->Option Value) (fa:Addr) (h:Heap),(K w.params).In h->h.Ns mainGlobals mg->mg d.name=some (.ref fa)->
     ∃fd:FuncData,(∀(s:Shared) (u:Value),BindsTo s fd ⟨[u],[]⟩ [(x,u)])/\
      ∀base:Heap,(K w.params).In base->base.Ns mainGlobals mg->l6 l.prog w (K w.params) mg base (CX w) k fa fd [x] (sp w))
   (hsp:∀(w:World) (H:Hp) (a:Addr) (ns:List Int),ns.length<=n->bp4 H->i7 (K w.params) H a (ns.map V.int)->sp w [.ref a] H (fun v _=>v= .bl true) fun _ _ _=>False)
   (hCX:∀(w:World) (H:Hp) (s:Shared) (e:Value) (s':Shared),CX w [] H s (fun _ _ _=>False) e s'->False):
   PySem.W.WalkO q loose XP YP l.row.toRowW d [] (fun f vs=>PySem.call f vs):=by
 refine Att.cd2 hn hdf fun w s₀ s₁ mg mb fa o pm cd doc a vs ns G Y ho hd hcd hmg hobj hints hlen hg=> ?_
 have KX:=hY w _ Y;obtain ⟨fd,hb,hF⟩:=F w mg fa _ KX G.T.g hmg
 exact bp5 KX G.T.g G.T.b G.T.builtins G.T.nolimit hg hobj hints (cn2 hlen hn2) hr hF hb (fun H hO hS=>hsp w H a ns hlen hO hS) fun H e s'=>hCX w H s₁ e s'
end L2
namespace L2
open PySem PySem.Spec PyProof.Rows
def T9 (s:Stmt):Arguments:=match s with
 | .FunctionDef _ a _ _ _ _ _ _ _ _=>a
 |_=>{posonlyargs:=[],args:=[],vararg:=none,kwonlyargs:=[],kw_defaults:=[],kwarg:=none,defaults:=[]}
def M7 (s:Stmt):List Stmt:=match s with
 | .FunctionDef _ _ b _ _ _ _ _ _ _=>b
 |_=>[]
def j8 (s:Stmt):Scope:=match s with
 | .FunctionDef _ _ _ _ _ _ sc _ _ _=>sc
 |_=>{kind:= .function,names:=[],isGenerator:=false,isCoroutine:=false}
abbrev B8:S4:=fun _ _ _ _ _ _=>False
abbrev E0:XK:=fun _ _ _=>False
theorem ce6 {X:Cx}:ac4 B8 X E0:=fun _ _ _ _ _ _ _ h=>h.elim
structure A2 (K:PySem.W.Frag)(x qual:Str)(st:Stmt)(f:Addr)(fd:FuncData):Prop where
 ex:∃(oc:Value) (od:Option Addr) (kV doc pm:Value) (an:Option Addr) (cdv ct:Value) (osl:Array (Option Value)),
   fd=PySem.W.fnOf x qual (T9 st) (M7 st) (j8 st) .none kV doc pm an cdv ct/\K.lookup f=some ⟨oc,od,.func fd,osl⟩/\PySem.W.codeIn K cdv qual=true
 kp:PySem.W.keepIn K (.ref f)=true
section
variable {P:Program} {w:World} {K:PySem.W.Frag} {mg:Str->Option Value} {base:Heap}
theorem A2.ok {x qual:Str}{st:Stmt}{f:Addr}{fd:FuncData}{N ps:List Str}{k:Nat}{sp:Sp}(F:A2 K x qual st f fd)(S:o3 N ps (j8 st))(len:∀vs H Q E,sp vs H Q E->vs.length=ps.length)
   (hbody:∀(cdv:Value) (A:Around) (outer:List Env) (s:Shared) (H:Hp) (vs:List V) (Q:VK) (E:XK),o6 k (A.deeper (envOfC qual (j8 st) s.heap.objs.size f cdv))->sp vs H Q E->
     ∃t,S3 (X6 B8 P w K mg base N qual (j8 st) f cdv A outer s H E).nox (M7 st) t/\t {nx:=fun _ H'=>Q .non H',rt:=Q} (T0 N vs) H):l6 P w K mg base B8 (k+1) f fd ps sp:=by
 obtain ⟨oc,od,kV,doc,pm,an,cdv,ct,osl,rfl,lk,hcd⟩:=F.ex
 refine bt1 lk hcd S len fun A outer s H vs Q E hr hsp=> ?_
 obtain ⟨t,h,q⟩:=hbody cdv A outer s H vs Q E hr hsp;exact ⟨t,h.nox,q⟩
theorem A2.binds {x qual:Str}{st:Stmt}{f:Addr}{fd:FuncData}{ps:List Str}(F:A2 K x qual st f fd)
   (h:∀(kV doc pm:Value) (an:Option Addr) (cdv ct:Value) (us:List Value),us.length=ps.length->bindArgs (PySem.W.fnOf x qual (T9 st) (M7 st) (j8 st) .none kV doc pm an cdv ct) ⟨us,[]⟩=pure (ps.zip us)):S9 K fd ps []:=by
 obtain ⟨oc,od,kV,doc,pm,an,cdv,ct,osl,rfl,lk,hcd⟩:=F.ex;exact .all (h kV doc pm an cdv ct)
theorem ca8 {x qual:Str}{st:Stmt}{f:Addr}{oc:Value}{od an:Option Addr}{osl:Array (Option Value)}{kV doc pm cdv ct:Value}(l:K.lookup f=some ⟨oc,od,.func (PySem.W.fnOf x qual (T9 st) (M7 st) (j8 st) .none kV doc pm an cdv ct),osl⟩)
 (c:PySem.W.codeIn K cdv qual=true) (k:PySem.W.keepIn K (.ref f)=true):A2 K x qual st f (PySem.W.fnOf x qual (T9 st) (M7 st) (j8 st) .none kV doc pm an cdv ct):=⟨⟨oc,od,kV,doc,pm,an,cdv,ct,osl,rfl,l,c⟩,k⟩
end
theorem M1 {A:Around}{k:Nat}(hr:o6 k A):A.units+1 < cLine:=cp0 (cq6 (by decide:1<=64) _) hr.units
theorem q9 {n:Nat}(h:n<=1000):n < sizeLine:=cp0 h (by decide)
section
variable {X:Cx}
theorem pv (i:Nat){x:Str}{pos:Pos}(hN:X.N[i]? =some x:=by rfl)(hv:Vis X.env.scope x:=by first|exact Or.inl rfl|exact Or.inr (Or.inl rfl)|exact Or.inr (Or.inr rfl))(hd:(x==("__debug__":Str))=false:=by decide)
 (hcd:(x==("__classdict__":Str))=false:=by decide):PE X (.Name x pos) (by8 i):=by9 hN hv hd hcd
end
theorem y7 {A B:Prop}(h:B):if false=true then A else B:=by
 rw[if_neg cl7];exact h
theorem C6 {A B:Prop}(h:A):if true=true then A else B:=by
 rw[if_pos rfl];exact h
theorem S1 {c A B:Prop}[Decidable c](h1:c->A)(h2:¬c->B):if c then A else B:=by
 by_cases h:c
 · rw[if_pos h];exact h1 h
 · rw[if_neg h];exact h2 h
theorem af5 {c A B:Prop}[Decidable c](hc:c)(h:B):if (!decide c)=true then A else B:=by
 rw[decide_eq_true hc];exact y7 h
def c8 (H H':Hp):Prop:=∀b o,H b=some o->H' b=some o
theorem c8.refl (H:Hp):c8 H H:=fun _ _ h=>h
theorem c8.trans {H H1 H2:Hp}(a:c8 H H1)(b:c8 H1 H2):c8 H H2:=fun c o h=>b c o (a c o h)
theorem c8.free {H H':Hp}(e:c8 H H'){l:Addr}(h:H' l=Option.none):H l=Option.none:=by
 cases q:H l with
 |none=>rfl
 |some o=>
  rw[e l o q] at h;cases h
theorem c8.seq {K:PySem.W.Frag}{H H':Hp}{a:Addr}{xs:List V}(e:c8 H H')(h:i7 K H a xs):i7 K H' a xs:=by
 rcases h with (h|⟨o,h⟩)|h
 · exact .inl (.inl (e _ _ h))
 · exact .inl (.inr ⟨o,e _ _ h⟩)
 · exact .inr h
section
variable {κ:Type} [DecidableEq κ]
theorem af6:∀{l:List κ} {k:κ},l.Nodup->¬k∈l->(l++[k]).Nodup
 |[],k,_,_=>by simp
 |a::r,k,h,hk=>by
  obtain ⟨h1,h2⟩:=cq5.mp h;show (a::(r++[k])).Nodup;refine cq5.mpr ⟨fun m=> ?_,af6 h2 fun m=>hk (co0.mpr (Or.inr m))⟩
  rcases cm1.mp m with q|q
  · exact h1 q
  · exact hk (co0.mpr (Or.inl (co1.mp q).symm))
end
end L2
namespace L2
open PySem PySem.Spec PyProof.Rows
def V2 (X:Cx)(N:List Str)(scope:Scope)(cl:List (Str×Addr))(C:Addr)(s0:Shared)(H0:Hp)(ex:List Addr):Cx:=
 {X with N:=N,s₀:=s0,H₀:=H0,env:=compEnvC scope cl C X.env,outer:=X.stack,stack:=X.stack,ex:=ex,fn:=fun _=>false,pn:=[],xe:=fun _ _=>False}
def ak7 (nl:Nat)(fr:List Nat)(σ:St):St:=List.replicate nl none++fr.map fun j=>(σ[j]?).join
def A5 (env:Env):List (Str×NameKind)->List (Str×Addr)->List (Str×Addr)
 |[],cs=>cs
 |(n,k)::r,cs=>A5 env r (if (k==NameKind.free)=true then (n,(env.cells.lookup n).getD 0)::cs else cs)
theorem ak8 (env:Env):∀(ns:List (Str×NameKind)) (cs:List (Str×Addr)),(∀p∈ns,p.2= .free->∃c,env.cells.lookup p.1=some c)->(∀y c,cs.lookup y=some c->env.cells.lookup y=some c)->
   ∀y c,(A5 env ns cs).lookup y=some c->env.cells.lookup y=some c
 |[],cs,_,h,y,c,e=>h y c e
 |(n,k)::r,cs,hn,h,y,c,e=>by
  unfold A5 at e;refine ak8 env r _ (fun p hp=>hn p (cl1 _ hp)) ?_ y c e;intro z d ez
  split at ez
  · rename_i hk;rw[co6] at ez
    cases hz:z==n with
    |true=>
     rw[hz] at ez;have hzn:z=n:=eq_of_beq hz;subst hzn
     have hkf:k= .free:=by simpa using hk
     obtain ⟨c',hc'⟩:=hn (z,k) cl4 hkf;have hc':env.cells.lookup z=some c':=hc';rw[hc'] at ez;rw[hc']
     simpa using ez
    |false=>
     rw[hz] at ez;exact h z d ez
  · exact h z d ez
theorem ah2 (env:Env):∀(ns:List (Str×NameKind)) (cs:List (Str×Addr)) (y:Str),(∃c,cs.lookup y=some c)->∃c,(A5 env ns cs).lookup y=some c
 |[],cs,y,h=>h
 |(n,k)::r,cs,y,⟨c,h⟩=>by
  unfold A5;refine ah2 env r _ y ?_
  split
  · rw[co6]
    cases hz:y==n with
    |true=>exact ⟨_,rfl⟩
    |false=>exact ⟨c,h⟩
  · exact ⟨c,h⟩
theorem aa3 (env:Env):∀(ns:List (Str×NameKind)) (cs:List (Str×Addr)) (p:Str×NameKind),p∈ns->p.2= .free->∃c,(A5 env ns cs).lookup p.1=some c
 |[],cs,p,hp,_=>by simp at hp
 |(n,k)::r,cs,p,hp,hk=>by
  unfold A5
  rcases co0.mp hp with e|hp
  · subst e;have hk:k= .free:=hk;subst hk;refine ah2 env r _ n ?_;rw[if_pos (by rfl),co6];exact ⟨(List.lookup n env.cells).getD 0,by simp⟩
  · exact aa3 env r _ p hp hk
theorem ac7 (env:Env):∀(ns:List (Str×NameKind)) (cs:List (Str×Addr)),(∀p∈ns,p.2= .free->∃c,env.cells.lookup p.1=some c)->
   (forIn ns cs (fun (x:Str×NameKind) (r:List (Str×Addr))=>if (x.2==NameKind.free)=true then (do let a <-cellOf env x.1;pure (ForInStep.yield ((x.1,a)::r))) else pure (ForInStep.yield r)):Sem (List (Str×Addr)))=pure (A5 env ns cs)
 |[],cs,_=>rfl
 |(n,k)::r,cs,hn=>by
  have ih:=fun cs'=>ac7 env r cs' fun p hp=>hn p (cl1 _ hp)
  rw[List.forIn_cons];unfold A5
  by_cases hk:(k==NameKind.free)=true
  · obtain ⟨c,hc⟩:=hn (n,k) cl4 (by simpa using hk);have hc:env.cells.lookup n=some c:=hc;rw[if_pos hk,if_pos hk]
    have e1:cellOf env n=pure c:=by unfold cellOf;rw[hc]
    rw[e1,hc];exact ih _
  · rw[if_neg hk,if_neg hk];exact ih _
theorem as3 {scope:Scope}{env:Env}(h:∀p∈scope.names,p.2= .free->∃c,env.cells.lookup p.1=some c):closureFor scope env=pure (A5 env scope.names []):=by
 have e:=ac7 env scope.names [] h;unfold closureFor;show (forIn scope.names [] _ >>=_)=_;have e2:(forIn scope.names ([]:List (Str×Addr)) (fun (x:Str×NameKind) (r:List (Str×Addr))=>match x with|(name,kind)=>(if (kind==NameKind.free)=true then (do let a <-cellOf env name;pure PUnit.unit;pure (ForInStep.yield ((name,a)::r))) else (do pure PUnit.unit;pure (ForInStep.yield r)))):Sem (List (Str×Addr)))=pure (A5 env scope.names []):=e
 first
   |exact (congrArg (fun z=>z >>=fun cs=>pure cs) e2)
   |(rw[show (forIn scope.names ([]:List (Str×Addr)) _:Sem (List (Str×Addr)))=pure (A5 env scope.names []) from e];rfl)
section
variable {X:Cx}
def be9 (X:Cx)(ifs:List Expr)(t:TT):Prop:=
 ∀(pins:List (Addr×Obj)) (s:Shared) (σ:St) (H:Hp) (Q:Bool->Hp->Prop),h8 X pins σ H s->t σ H Q->
  wpAny (model X.prog X.w) X.A (forIn ifs true fun c r=>if r=true then do let ok <-isTrue c X.env (eval c X.env);pure (ForInStep.yield ok) else pure (ForInStep.yield r)) (TP X pins σ Q) X.xe s
def ci5:TT:=fun _ H Q=>Q true H
theorem V3:be9 X [] ci5:=fun pins s σ H Q I h=>by
 rw[List.forIn_nil];exact wpAny_pure ⟨H,I,h⟩
theorem bp6 {c:Expr}{t:TT}(h:PT X c t):be9 X [c] t:=by
 intro pins s σ H Q I hw;rw[List.forIn_cons,if_pos rfl];refine wpAny_bind (wpAny_bind (o5 (h pins s σ H Q I hw) fun b s1 q=>wpAny_pure ?_));show wpAny _ _ (forIn [] b _) _ _ s1;rw[List.forIn_nil];exact wpAny_pure q
theorem av1 {prog:Program}{w:World}{A:Around}{R:Result->Shared->Prop}{s:Shared}{elt target iter:Expr}{ifs:List Expr}{scope:Scope}{pos:Pos}{it acc:Value}{env:Env}(I:Nat->Shared->Prop)
   (turn:∀n s,I n s->wpAny (model prog w) A (pyNext it) (fun r s1=>match r with
     |none=>R (.ok .next) s1
     |some v=>wpAny (model prog w) A (letOwnedTupleGo target it v) (fun _ s2=>wpAny (model prog w) A (assign target env v) (fun _ s3=>
         wpAny (model prog w) A (forIn ifs true fun c r=>if r=true then do let ok <-isTrue c env (eval c env);pure (ForInStep.yield ok) else pure (ForInStep.yield r)) (fun ok s4=>
           if ok=true then wpAny (model prog w) A (eval elt env) (fun x s5=>
             wpAny (model prog w) A (call (.builtin "list.append") [acc,x]) (fun _ s6=>∃m,m < n/\I m s6) (fun _ _=>False) s5) (fun _ _=>False) s4
           else ∃m,m < n/\I m s4) (fun _ _=>False) s3) (fun _ _=>False) s2) (fun _ _=>False) s1) (fun _ _=>False) s)
   (n:Nat) (h:I n s):
   codeAny (model prog w) A (.compLoop (.ListComp elt [⟨target,iter,ifs,0⟩] scope pos) 0 it acc env) R s:=by
 refine codeAny_loop rfl I (fun n s hI=> ?_) n h;show wpAny _ A ((compTurn (.ListComp elt [⟨target,iter,ifs,0⟩] scope pos) 0 it acc env).onRaise (fun x=>do noteFrame x env;theTreesLotGoes x)) _ _ s;refine wpAny_noted ?_;rw[compTurn_list];refine wpAny_bind (wpAny_standAt (wpAny_bind (wpAny_mono (turn n s hI) (fun r s1 h1=> ?_) fun _ _ f=>f.elim)))
 cases r with
 |none=>exact wpAny_pure h1
 |some v=>
  refine wpAny_bind (wpAny_mono h1 (fun _ s2 h2=> ?_) fun _ _ f=>f.elim);refine wpAny_bind (wpAny_mono h2 (fun _ s3 h3=>wpAny_bind (wpAny_mono h3 (fun ok s4 h4=> ?_) fun _ _ f=>f.elim)) fun _ _ f=>f.elim)
  cases ok with
  |false=>exact wpAny_pure ⟨rfl,h4⟩
  |true=>
   exact wpAny_bind (wpAny_bind (wpAny_mono h4 (fun x s5 h5=>wpAny_bind (wpAny_mono h5 (fun _ s6 h6=>wpAny_pure (wpAny_pure ⟨rfl,h6⟩)) fun _ _ f=>f.elim)) fun _ _ f=>f.elim))
def bf0 (J:It)(g:TG)(tc:TT)(te:TE)(Q:VK)(σ0:St)(H0:Hp):Prop:=∃W:Nat->Nat->List V->St->Hp->Prop,(∃m,W 0 m [] σ0 H0)/\∀i m ys σ' H',W i m ys σ' H'->
 (J.stop i H'/\∀D,H' D=none->Q (.ref D) (e8 H' D (.lst ys)))\/
 (J.go i H'/\∃N:List V->St->Hp->Prop,(∀ys' σ2 H2,N ys' σ2 H2->∃m',m' < m/\W (i+1) m' ys' σ2 H2)/\∀x H2,J.yld i H' x H2->g x σ' H2 fun σ2 H3=>tc σ2 H3 fun b H4=>
   if b=true then te σ2 H4 fun y H5=>ys.length < sizeLine/\N (ys++[y]) σ2 H5 else N ys σ2 H4)
def bt4 (nl:Nat)(fr:List Nat)(wi:TI)(g:TG)(tc:TT)(te:TE):TE:=fun σ H Q=>wi σ H fun J H1=>bf0 J g tc te Q (ak7 nl fr σ) H1
structure ak9 (X:Cx)(N:List Str)(nl:Nat)(fr:List Nat)(scope:Scope):Prop where
 cell:∀y∈scope.names,y.2≠.cell
 kind:scope.kind= .function
 names:∀y∈scope.names,y.2= .local->scope.names.lookup y.1=some .local
 free:∀p∈scope.names,p.2= .free->X.env.kindOf p.1=some .cell\/X.env.kindOf p.1=some .free
 len:N.length=nl+fr.length
 fr:∀(k j:Nat),fr[k]? =some j->∃y,N[nl+k]? =some y/\X.N[j]? =some y/\Vis X.env.scope y/\scope.names.lookup y=some .free
theorem O8 {env:Env}:∀{names:List (Str×NameKind)} {x:Str} {k:NameKind},(names.map fun (n,k)=>if (k==NameKind.free&&env.scope.kind== .function&&env.kindOf n==some .cell) then (n,NameKind.cell) else (n,k)).lookup x=some k->
   k= .cell\/k= .free->(∀y∈names,y.2≠.cell)->∃p∈names,p.1=x/\p.2= .free
 |[],_,_,h,_,_=>by simp at h
 |(n,kn)::r,x,k,h,hk,hc=>by
  have ih:=@O8 env r x k;rw[cp9] at h;have hcn:kn≠.cell:=hc (n,kn) cl4
  have hr:∀y∈r,y.2≠.cell:=fun y hy=>hc y (cl1 _ hy)
  cases hx:x==n with
  |true=>
   have hxn:x=n:=eq_of_beq hx
   by_cases hcc:(kn==NameKind.free&&env.scope.kind== .function&&env.kindOf n==some .cell)=true
   · refine ⟨(n,kn),cl4,hxn.symm,?_⟩;simp only[cp7] at hcc
     simpa using hcc.1.1
   · dsimp only at h
     rw[if_neg hcc,co6,hx] at h;have hkk:kn=k:=Option.some.inj h;subst hkk
     rcases hk with z|z
     · exact absurd z hcn
     · exact ⟨(n,kn),cl4,hxn.symm,z⟩
  |false=>
   by_cases hcc:(kn==NameKind.free&&env.scope.kind== .function&&env.kindOf n==some .cell)=true
   · dsimp only at h
     rw[if_pos hcc,co6,hx] at h;obtain ⟨p,hp,q⟩:=ih h hk hr;exact ⟨p,cl1 _ hp,q⟩
   · dsimp only at h
     rw[if_neg hcc,co6,hx] at h;obtain ⟨p,hp,q⟩:=ih h hk hr;exact ⟨p,cl1 _ hp,q⟩
theorem O6 {env:Env}:∀{names:List (Str×NameKind)} {x:Str},names.lookup x=some .free->
   (names.map fun (n,k)=>if (k==NameKind.free&&env.scope.kind== .function&&env.kindOf n==some .cell) then (n,NameKind.cell) else (n,k)).lookup x=some .cell\/
   (names.map fun (n,k)=>if (k==NameKind.free&&env.scope.kind== .function&&env.kindOf n==some .cell) then (n,NameKind.cell) else (n,k)).lookup x=some .free
 |[],_,h=>by simp at h
 |(n,kn)::r,x,h=>by
  have ih:=@O6 env r x;rw[cp9]
  dsimp only
  cases hx:x==n with
  |true=>
   rw[co6,hx] at h;have hkn:kn= .free:=Option.some.inj h
   by_cases hcc:(kn==NameKind.free&&env.scope.kind== .function&&env.kindOf n==some .cell)=true
   · rw[if_pos hcc,co6,hx];exact .inl rfl
   · rw[if_neg hcc,co6,hx];exact .inr (congrArg some hkn)
  |false=>
   rw[co6,hx] at h
   by_cases hcc:(kn==NameKind.free&&env.scope.kind== .function&&env.kindOf n==some .cell)=true
   · rw[if_pos hcc,co6,hx];exact ih h
   · rw[if_neg hcc,co6,hx];exact ih h
theorem B9.track {P:Program}{w:World}{H:Hp}{h:Heap}{a:Addr}{o:HO}(x:B9 P w H h)(hn:H a=none)(new:t5 P w (e8 H a o) h a o):B9 P w (e8 H a o) h:=fun b u e=>by
 by_cases hb:b=a
 · subst hb;rw[c9] at e;cases e;exact new
 · rw[i8 hb] at e
   exact (x b u e).stay (fun c v _ q=>q) (fun c q=>by rw[i8 (j5 q hn)];exact q) fun c xs q=>by rw[i8 (j5 q hn)];exact q
theorem bj6 {elt tg iter:Expr}{ifs:List Expr}{scope:Scope}{pos:Pos}{wi:TI}{g:TG}{tc:TT}{te:TE}{N:List Str}{nl:Nat}{fr:List Nat}
   (hc:X.calm=true) (hi:PI X tg iter wi) (hg:∀cl C s0 H0 ex,PG (V2 X N scope cl C s0 H0 ex) tg g) (ht:∀cl C s0 H0 ex,be9 (V2 X N scope cl C s0 H0 ex) ifs tc)
   (he:∀cl C s0 H0 ex,PE (V2 X N scope cl C s0 H0 ex) elt te) (ok:ak9 X N nl fr scope)
   {RR:Value->Addr->Result->Shared->Prop} {pins:List (Addr×Obj)} {s:Shared} {σ:St} {H:Hp} {Q:VK} (I:h8 X pins σ H s) (h:bt4 nl fr wi g tc te σ H Q)
   (hRR:∀D C s' H',h8 X pins σ H' s'->Q (.ref D) H'->ac2 X pins H' C->(∃m,s'.heap.Ns C m)->RR (.ref D) C (.ok .next) s'):
   wpAny (model X.prog X.w) X.A (eval iter X.env) (fun x s1=>wpAny (model X.prog X.w) X.A (pyIter x) (fun it s2=>wpAny (model X.prog X.w) X.A (newList []) (fun acc s3=>
     wpAny (model X.prog X.w) X.A (newFunctionEnv scope X.env.globals (A5 X.env scope.names []) [] X.env.qual none .none (some X.env)) (fun cenv s4=>
       codeAny (model X.prog X.w) X.A (.compStart (.ListComp elt [⟨tg,iter,ifs,0⟩] scope pos) 0 it acc {cenv with scope:=relabel scope X.env}) (RR acc cenv.locals) s4) X.xe s3) X.xe s2) X.xe s1) X.xe s:=by
 refine o5 (hi pins s σ H _ I h) fun v s1 h1=>o5 h1 fun itv s2 h2=> ?_
 obtain ⟨it,fp,tn,J,H2,rfl,I2,T,st2,f2,W,⟨m0,w0⟩,turn⟩:=h2;refine wpAny_newObj_type (wpAny_newFunctionEnv ok.cell (by intro y hy;simp at hy) (fun h1 hns1 hsb1=> ?_) ok.kind)
 dsimp only at hns1 hsb1 ⊢
 generalize hHH:s2.heap.push {cls:= .type "list",dict:=none,data:= .seq ([]:List Value).toArray}=HH at hns1 hsb1 ⊢
 have hC:HH.objs.size=s2.heap.objs.size+1:=by rw[<-hHH,Heap.size_push]
 have hDC:s2.heap.objs.size≠HH.objs.size:=by rw[hC];exact cm7 (Nat.lt_succ_self _)
 have hCle:s2.heap.objs.size<=HH.objs.size:=by rw[hC];exact cv0 _
 have below:∀b,b < s2.heap.objs.size->b≠HH.objs.size/\b≠s2.heap.objs.size:=fun b hb=>⟨by rw[hC];exact cm7 (cw9 hb),cm7 hb⟩
 have old:∀b o,s2.heap.get? b=some o->h1.get? b=some o:=fun b o e=>hsb1.extBut b o (below b (Heap.lt_size e)).1 (Heap.get?_push_of_some _ (hHH▸Heap.get?_push_of_some _ e))
 have hacc:h1.get? s2.heap.objs.size=some {cls:= .type "list",data:= .seq ([]:List Value).toArray}:=hsb1.extBut _ _ hDC (Heap.get?_push_of_some _ (hHH▸Heap.get?_push_size _ rfl))
 have fplt:∀b∈fp,b < s2.heap.objs.size:=fun b hb=>by obtain ⟨o,e,_⟩:=T.obj 0 _ st2 b hb;exact Heap.lt_size e
 generalize hXd:V2 X N scope (A5 X.env scope.names []) HH.objs.size s2 H2 fp=X'
 have hfreeC:∀p∈scope.names,p.2= .free->∃c,X.env.cells.lookup p.1=some c:=fun p hp hf=>I.ok.has p.1 (ok.free p hp hf)
 have cellsSub:∀y c,(A5 X.env scope.names []).lookup y=some c->X.env.cells.lookup y=some c:=ak8 X.env scope.names [] hfreeC (fun y c e=>by simp at e)
 have cellLt:∀y c,X.env.cells.lookup y=some c->c < s2.heap.objs.size:=fun y c e=>by obtain ⟨v,z⟩:=I2.cell y c e;exact z.lt
 have ok':X'.Ok:=by
   rw[<-hXd]
   refine ⟨I.ok.mod,?_,I.ok.glob,I.ok.blt,hCle,fun x y c e1 e2=>I.ok.inj x y c (cellsSub x c e1) (cellsSub y c e2),fun x hx=> ?_,fun x c hf=>(by cases hf),I.ok.hd,I.ok.frames,.inl rfl,
     fun b hb=>⟨(below b (fplt b hb)).1,fun x c e=>(f2 b hb).2.2.2.2.1 x c (cellsSub x c e)⟩,I2.bs,cn2 I.ok.bsz I2.sz,fun b o e hb=> ?_,fun b hb hfs=> ?_,I2.stack,I2.stkFree⟩
   · show (relabel scope X.env).kind= .function;exact ok.kind
   · have hx':∃p∈scope.names,p.1=x/\p.2= .free:=by
       rcases hx with z|z
       · exact O8 z (.inl rfl) ok.cell
       · exact O8 z (.inr rfl) ok.cell
     obtain ⟨p,hp,rfl,hpf⟩:=hx';exact aa3 X.env scope.names [] p hp hpf
   · rcases (f2 b hb).2.2.2.1 with z|z
     · exact I.ok.noex b o e z
     · exact absurd (cm5 (Heap.lt_size e) (cn2 I.ok.bsz z)) (cq8 _)
   · rcases co0.mp (I2.stkSub b hfs) with z|z
     · exact (f2 b hb).2.1 z
     · exact (f2 b hb).2.2.1 z
 have hX'd:X'.env.locals=HH.objs.size:=by rw[<-hXd];rfl
 have hX'c:X'.env.cells=A5 X.env scope.names []:=by rw[<-hXd];rfl
 have hX'pn:X'.pn=[]:=by rw[<-hXd];rfl
 have hX'ex:X'.ex=fp:=by rw[<-hXd];rfl
 have hX's0:X'.s₀=s2:=by rw[<-hXd];rfl
 have hX'H0:X'.H₀=H2:=by rw[<-hXd];rfl
 have hX'fs:X'.fs=A8 X.stack:=by rw[<-hXd];rfl
 have hX'xe:X'.xe=fun _ _=>False:=by rw[<-hXd];rfl
 have hX'A:X'.A=X.A:=by rw[<-hXd];rfl
 have hX'P:X'.prog=X.prog:=by rw[<-hXd];rfl
 have hX'w:X'.w=X.w:=by rw[<-hXd];rfl
 have hX'K:X'.K=X.K:=by rw[<-hXd];rfl
 have hX'calm:X'.calm=true:=by rw[<-hXd];exact hc
 have hX'env:X'.env=compEnvC scope (A5 X.env scope.names []) HH.objs.size X.env:=by rw[<-hXd];rfl
 have I':h8 X' [] (ak7 nl fr σ) H2 {s2 with heap:=h1,toks:=s2.toks+([]:List (Str×Value)).length}:=by
   refine ⟨ok',by rw[hX's0],I2.bare,?_,?_,fun x c e=> ?_,?_,fun x c e=> ?_,fun p hp=> ?_,?_,?_⟩
   · rw[hX'fs,hX'ex,hX'H0,hX's0];exact Un.kept old
   · obtain ⟨m,hn,hl⟩:=I2.loc;rw[hX'd];refine ⟨_,hns1,fun i x v e1 e2 e3=> ?_⟩
     have hN':N[i]? =some x:=by rw[<-hXd] at e1;exact e1
     unfold ak7 at e2
     have hi:¬i < nl:=fun hlt=>by
       rw[cp8 (by simpa using hlt),cx5,if_pos hlt] at e2;cases e2
     rw[cp6 (by simpa using hi),cu9,cl0] at e2
     cases ej:fr[i - nl]? with
     |none=>rw[ej] at e2;cases e2
     |some j=>
      rw[ej] at e2;obtain ⟨y,y1,y2,y3,y4⟩:=ok.fr (i - nl) j ej
      have hii:nl+(i - nl)=i:=by omega
      rw[hii,hN'] at y1;have hxy:x=y:=Option.some.inj y1;subst hxy;have e2':(σ[j]?).join=some v:=Option.some.inj e2
      have e2'':σ[j]? =some (some v):=by
        cases hσ:σ[j]? with
        |none=>rw[hσ] at e2';cases e2'
        |some z=>rw[hσ] at e2';exact congrArg some e2'
      obtain ⟨u,r,l⟩:=hl j x v y2 e2'' y3;have hkX:=ok.free (x,.free) (PySem.mem_of_lookup y4) rfl;refine ⟨u,r,.inr ⟨?_,?_⟩⟩
      · rw[hX'env]
        rcases O6 (env:=X.env) y4 with z|z
        · exact .inl z
        · exact .inr z
      · rcases l with ⟨k1,_⟩|⟨_,c,ec,hcell⟩
        · rcases hkX with z|z
          · rw[z] at k1;cases k1
          · rw[z] at k1;cases k1
        · obtain ⟨c',ec'⟩:=aa3 X.env scope.names [] (x,.free) (PySem.mem_of_lookup y4) rfl
          have:c'=c:=by
            have q:=cellsSub x c' ec';rw[ec] at q;exact (Option.some.inj q).symm
          subst this;refine ⟨c',by rw[hX'c];exact ec',?_⟩;obtain ⟨oc,ho,hd⟩:=hcell;exact ⟨oc,old _ _ ho,hd⟩
   · rw[hX'c] at e;obtain ⟨v,oc,ho,hd⟩:=I2.cell x c (cellsSub x c e);exact ⟨v,oc,old _ _ ho,hd⟩
   · rw[hX'd];exact I2.hok.fresh hCle
   · rw[hX'c] at e;exact I2.freeC x c (cellsSub x c e)
   · rw[hX'pn] at hp;simp at hp
   · rw[hX'P,hX'w];exact I2.hok.kept old
   · unfold ak7
     have:X'.N=N:=by rw[<-hXd];rfl
     rw[this,ok.len,cl2,cu9,ck5]
 have Dn:∀{H':Hp} {pins'} {s':Shared} {σ'},h8 X' pins' σ' H' s'->H' s2.heap.objs.size=none->∀o,s'.heap.get? s2.heap.objs.size=some o->(∀v,o.data≠.cell v)->h8 X' [(s2.heap.objs.size,o)] σ' H' s':=fun {H' pins' s' σ'} I3 hD o ho hnc=>
   I3.pins_of fun p hp=>by
     have e:p=(s2.heap.objs.size,o):=by simpa using hp
     subst e;refine ⟨ho,hD,by rw[hX'd];exact hDC,?_,hnc⟩;rw[hX'fs];intro hb
     rcases co0.mp (I2.stkSub _ hb) with z|z
     · exact absurd (z▸I2.lt) (cq8 _)
     · exact I2.nofs (ck8 _) z
 have loop:∀s₃:Shared,s₃={s2 with heap:=h1,toks:=s2.toks+([]:List (Str×Value)).length}->
     codeAny (model X.prog X.w) X.A (.compLoop (.ListComp elt [⟨tg,iter,ifs,0⟩] scope pos) 0 (.ref it) (.ref s2.heap.objs.size) (compEnvC scope (A5 X.env scope.names []) HH.objs.size X.env)) (RR (.ref s2.heap.objs.size) HH.objs.size) s₃:=by
   rintro s₃ rfl
   refine av1 (fun n s'=>∃(i:Nat) (σ':St) (H':Hp) (ys:List V) (its:List Value) (k:Nat),h8 X' [(s2.heap.objs.size,{cls:= .type "list",data:= .seq its.toArray k})] σ' H' s'/\m7 ys its/\ys.length<=sizeLine/\tn i s'.heap/\(∀b∈fp,H' b=none)/\W i n ys σ' H')
     ?_ m0 ⟨0,_,H2,[],[],0,Dn I' (I2.hok.fresh (ck8 _)) _ hacc (fun v z=>by cases z),.nil,cn3 _,T.keep 0 _ _ st2 fun b hb o e=>old b o e,fun b hb=>(f2 b hb).1,w0⟩
   rintro n s3 ⟨i,σ3,H3,ys,its,k,I3,rv,hyl,st3,fr3,w3⟩;have pinD:=I3.pin (s2.heap.objs.size,{cls:= .type "list",data:= .seq its.toArray k}) (by rw[hX'pn];exact cm0 _ cl4)
   have stat:∀{o:Obj} {H':Hp},(∀b∈fp,H' b=none)->∀b∈fp,ac2 X' [(s2.heap.objs.size,o)] H' b:=fun {o H'} hn b hb=>by
     refine ⟨hn b hb,by rw[hX'd];exact (below b (fplt b hb)).1,fun z=>ok'.exfs b (by rw[hX'ex];exact hb) z,.inl (by rw[hX'ex];exact hb),fun x c e=>by rw[hX'c] at e;exact (f2 b hb).2.2.2.2.1 x c (cellsSub x c e),fun p hp=> ?_⟩;rw[hX'pn] at hp
     have e:p=(s2.heap.objs.size,o):=by simpa using hp
     subst e
     exact fun z=>(below b (fplt b hb)).2 z.symm
   rcases turn i n ys σ3 H3 w3 with ⟨stop,qn⟩|⟨go,Nx,hNx,step⟩
   · have dn:=T.done X' hX'P hX'w hX'K hX'calm i _ s3 σ3 H3 (fun _ _=>False) I3 (stat fr3) st3 stop;rw[hX'A] at dn
     refine o5 dn fun r s4 ⟨hr,I4⟩=> ?_
     subst hr;have pinE:=I4.pin (s2.heap.objs.size,{cls:= .type "list",data:= .seq its.toArray k}) (by rw[hX'pn];exact cm0 _ cl4)
     have ub:Un (A8 X.stack) fp H2 H3 s2.heap s4.heap:=by
       have:=I4.base;rw[hX'fs,hX'ex,hX'H0,hX's0] at this;exact this
     have hok4:B9 X.prog X.w H3 s4.heap:=by have:=I4.hok;rw[hX'P,hX'w] at this;exact this
     have nD:∀b u,H3 b=some u->b≠s2.heap.objs.size:=fun b u e z=>by rw[z,pinE.2.1] at e;cases e
     have u2:Un (A8 X.stack) fp H2 (e8 H3 s2.heap.objs.size (.lst ys)) s2.heap s4.heap:=
       ⟨ub.keep,ub.slot,fun b o e n' hx=>by rw[i8 (cm7 (Heap.lt_size e))];exact ub.free b o e n' hx,ub.there,
         fun b xs e=>by have:=ub.tups b xs e;rw[i8 (nD b _ this)];exact this,fun b o u e=>by have:=ub.frzs b o u e;rw[i8 (nD b _ this)];exact this,
         fun b ps e=>by obtain ⟨more,z⟩:=ub.tbls b ps e;exact ⟨more,by rw[i8 (nD b _ z)];exact z⟩⟩
     have I5:h8 X pins σ (e8 H3 s2.heap.objs.size (.lst ys)) s4:=by
       refine I2.call' (by rw[I4.os,hX's0]) u2 ?_ I4.bare fun b hb=>⟨(f2 b hb).2.2.2.1,(f2 b hb).2.1,(f2 b hb).2.2.2.2.1,(f2 b hb).2.2.2.2.2⟩
       exact B9.track hok4 pinE.2.1 ⟨hyl,its,k,rv,pinE.1⟩
     refine hRR _ _ s4 _ I5 (qn _ pinE.2.1) (I2.fpOk hCle ?_) ?_
     · rw[i8 (Ne.symm hDC)];have:=I4.free;rw[hX'd] at this;exact this
     · obtain ⟨m,hn,_⟩:=I4.loc;rw[hX'd] at hn;exact ⟨m,hn⟩
   · have im:=T.item X' hX'P hX'w hX'K hX'calm i _ s3 σ3 H3 (fun _ _=>False) I3 (stat fr3) st3 go;rw[hX'A] at im
     refine o5 im fun r s4 ⟨u,hr,h4⟩=> ?_
     subst hr
     refine o5 h4 fun _ s5 ⟨x,H5,I5,r5,y5,st5,fr5⟩=> ?_
     have I5':=I5.pinned (stat fr5) (T.obj _ _ st5);have gg:=hg (A5 X.env scope.names []) HH.objs.size s2 H2 fp;rw[hXd] at gg;have gg:=gg _ s5 σ3 H5 x u _ I5' r5 (step x H5 y5);rw[hX'A,hX'P,hX'w,hX'xe,hX'env] at gg
     refine o5 gg fun _ s6 ⟨σ6,H6,I6,q6⟩=> ?_
     have tt:=ht (A5 X.env scope.names []) HH.objs.size s2 H2 fp;rw[hXd] at tt;have tt:=tt _ s6 σ6 H6 _ I6 q6;rw[hX'A,hX'P,hX'w,hX'xe,hX'env] at tt
     refine o5 tt fun ok7 s7 ⟨H7,I7,q7⟩=> ?_
     have again:∀{s8:Shared} {σ8:St} {H8:Hp} {ys8:List V} {its8:List Value} {k8:Nat},h8 X' ([(s2.heap.objs.size,{cls:= .type "list",data:= .seq its8.toArray k8})]++U8 fp s5.heap) σ8 H8 s8->m7 ys8 its8->ys8.length<=sizeLine->Nx ys8 σ8 H8->
         ∃m,m < n/\∃(i:Nat) (σ':St) (H':Hp) (ys:List V) (its:List Value) (k:Nat),h8 X' [(s2.heap.objs.size,{cls:= .type "list",data:= .seq its.toArray k})] σ' H' s8/\m7 ys its/\ys.length<=sizeLine/\tn i s8.heap/\(∀b∈fp,H' b=none)/\W i m ys σ' H':=
       fun {s8 σ8 H8 ys8 its8 k8} I8 rv8 hl8 n8=>by
         obtain ⟨m',hm,w8⟩:=hNx ys8 σ8 H8 n8;refine ⟨m',hm,i+1,σ8,H8,ys8,its8,k8,I8.unpinned,rv8,hl8,T.keep _ _ _ st5 fun b hb o e=>(I8.pin (b,o) (cm0 _ (cm0 _ (S7 hb e)))).1,fun b hb=> ?_,w8⟩;obtain ⟨o,e,d⟩:=T.obj _ _ st5 b hb;exact (I8.pin (b,o) (cm0 _ (cm0 _ (S7 hb e)))).2.1
     cases ok7 with
     |false=>
      rw[if_neg cl7] at q7 ⊢;exact again I7 rv hyl q7
     |true=>
      rw[if_pos rfl] at q7 ⊢;have ee:=he (A5 X.env scope.names []) HH.objs.size s2 H2 fp;rw[hXd] at ee;have ee:=ee _ s7 σ6 H7 _ I7 q7;rw[hX'A,hX'P,hX'w,hX'xe,hX'env] at ee
      refine o5 ee fun yv s8 ⟨y,H8,I8,r8,hyl8,q8⟩=> ?_
      have pin8:=I8.pin (s2.heap.objs.size,{cls:= .type "list",data:= .seq its.toArray k}) (cm0 _ (cs1 _ cl4));refine wpAny_list_append_plain (items:=its.toArray) ⟨k,pin8.1⟩ (fun h9 hp9 hs9=> ?_) (by rw[ck9,<-rv.length];exact hyl);obtain ⟨k9,e9⟩:=hp9
      have I9:h8 X' (U8 fp s5.heap) σ6 H8 s8:=I8.pins_of fun p hp=>I8.pin p (cm0 _ (cm0 _ hp))
      have I9':h8 X' (U8 fp s5.heap) σ6 H8 {s8 with heap:=h9,toks:=s8.toks}:=by
        refine I9.turned (t':=s8.toks) (it:=s2.heap.objs.size) (fun b o hb e=>hs9.extBut b o hb e) pin8.2.1 (by rw[hX'd];exact hDC) (.inr (by rw[hX's0];exact ck8 _)) (fun x c e z=> ?_) fun p hp z=> ?_
        · rw[hX'c] at e;exact absurd (z▸cellLt x c (cellsSub x c e)) (cq8 _)
        · rw[hX'pn] at hp;obtain ⟨hb,_⟩:=aq2 (by simpa using hp);exact absurd (z▸fplt _ hb) (cq8 _)
      have e9':h9.get? s2.heap.objs.size=some {cls:= .type "list",data:= .seq (its++[yv]).toArray k9}:=by rw[e9];simp
      refine again (ys8:=ys++[y]) (its8:=its++[yv]) (k8:=k9) ?_ (m7.append rv (.cons r8 .nil)) (by rw[cl2];exact hyl8) q8
      refine I9'.pins_of fun p hp=> ?_
      rcases cm1.mp hp with z|z
      · have e:p=(s2.heap.objs.size,{cls:= .type "list",data:= .seq (its++[yv]).toArray k9}):=by simpa using z
        subst e;exact ⟨e9',pin8.2.1,pin8.2.2.1,pin8.2.2.2.1,fun v z=>by cases z⟩
      · exact I9'.pin p (cm0 _ z)
 exact codeAny_compStart_list (loop _ rfl) (T.self X.A 0 _ _ _ (T.keep 0 _ _ st2 fun b hb o e=>old b o e) (loop _ rfl))
end
end L2
namespace L2
open PySem PySem.Spec PyProof.Rows
section
variable {X:Cx}
theorem U0 {elt tg iter:Expr}{ifs:List Expr}{scope:Scope}{pos:Pos}{wi:TI}{g:TG}{tc:TT}{te:TE}{N:List Str}{nl:Nat}{fr:List Nat}
   (hc:X.calm=true) (ok:ak9 X N nl fr scope) (hi:PI X tg iter wi) (hg:∀cl C s0 H0 ex,PG (V2 X N scope cl C s0 H0 ex) tg g) (ht:∀cl C s0 H0 ex,be9 (V2 X N scope cl C s0 H0 ex) ifs tc)
   (he:∀cl C s0 H0 ex,PE (V2 X N scope cl C s0 H0 ex) elt te) (hs:∀x,foldedSetIterable iter X.env x=pure x:=by intro _;rfl):
   PE X (.ListComp elt [⟨tg,iter,ifs,0⟩] scope pos) (bt4 nl fr wi g tc te):=by
 intro pins s σ H Q I h
 have hclos:closureFor scope X.env=pure (A5 X.env scope.names []):=as3 fun p hp hf=>I.ok.has p.1 (ok.free p hp hf)
 rw[eval_ListComp];refine wpAny_comprehension_free (use:=none) rfl hs hclos ok.kind ok.names (bj6 (RR:=fun acc C=>compPost (model X.prog X.w) X.A X.xe none (EP X pins σ Q) acc C) hc hi hg ht he ok I h ?_);intro D C s' H' I' q f ⟨m,hn⟩;exact ⟨m,hn,fun h' hs'=>⟨.ref D,H',I'.turned (t':=s'.toks) (fun b o hb e=>hs'.extBut b o hb e) f.1 f.2.1 f.2.2.2.1 f.2.2.2.2.1 f.2.2.2.2.2,rfl,q⟩⟩
theorem R4 {K:PySem.W.Frag}{a:Addr}{xs:List V}{g:TG}{tc:TT}{te:TE}{σ0:St}{H:Hp}{Q:VK}(Pv:Nat->List V->St->Hp->Prop)(h0:Pv 0 [] σ0 H)(hl:∀i ys σ H,i<=xs.length->Pv i ys σ H->i7 K H a xs)
   (hs:∀i x ys σ H,xs[i]? =some x->Pv i ys σ H->g x σ H fun σ2 H2=>tc σ2 H2 fun b H4=>if b=true then te σ2 H4 fun y H5=>ys.length < sizeLine/\Pv (i+1) (ys++[y]) σ2 H5 else Pv (i+1) ys σ2 H4)
   (hd:∀ys σ H,Pv xs.length ys σ H->∀D,H D=none->Q (.ref D) (e8 H D (.lst ys))):
   bf0 (Itl K a) g tc te Q σ0 H:=by
 refine ⟨fun i m ys σ H=>m=xs.length - i/\i<=xs.length/\Pv i ys σ H,⟨xs.length,by simp,cn3 _,h0⟩,?_⟩;rintro i m ys σ H ⟨rfl,hi,p⟩;have q:=hl i ys σ H hi p
 by_cases hlt:i < xs.length
 · refine .inr ⟨⟨xs,xs[i],q,by simp [hlt]⟩,Pv (i+1),fun ys' σ' H' p'=>⟨xs.length - (i+1),by omega,rfl,hlt,p'⟩,fun x H' y=> ?_⟩;obtain ⟨e,y⟩:=y;subst e;exact hs i x ys σ _ (y xs q) p
 · have e:i=xs.length:=by omega
   subst e;exact .inl ⟨⟨xs,q,ck8 _⟩,hd ys σ H p⟩
theorem bf1 {lo:Int}{n:Nat}{g:TG}{tc:TT}{te:TE}{σ0:St}{H:Hp}{Q:VK}(Pv:Nat->List V->St->Hp->Prop)(h0:Pv 0 [] σ0 H)
   (hs:∀i ys σ H,i < n->Pv i ys σ H->g (.int (lo+i)) σ H fun σ2 H2=>tc σ2 H2 fun b H4=>if b=true then te σ2 H4 fun y H5=>ys.length < sizeLine/\Pv (i+1) (ys++[y]) σ2 H5 else Pv (i+1) ys σ2 H4)
   (hd:∀ys σ H,Pv n ys σ H->∀D,H D=none->Q (.ref D) (e8 H D (.lst ys))):
   bf0 (Itr lo n) g tc te Q σ0 H:=by
 refine ⟨fun i m ys σ H=>m=n - i/\i<=n/\Pv i ys σ H,⟨n,by simp,cn3 _,h0⟩,?_⟩;rintro i m ys σ H ⟨rfl,hi,p⟩
 by_cases hlt:i < n
 · refine .inr ⟨hlt,Pv (i+1),fun ys' σ' H' p'=>⟨n - (i+1),by omega,rfl,hlt,p'⟩,fun x H' y=> ?_⟩;obtain ⟨e,y⟩:=y;subst e y;exact hs i ys σ _ hlt p
 · have e:i=n:=by omega
   subst e;exact .inl ⟨ck8 _,hd ys σ H p⟩
inductive N7 (K:PySem.W.Frag)(H:Hp):Nat->V->V->Bool->Prop where
 |flat {n:Nat} {x y:V}:at4 x=true->at4 y=true->N7 K H n x y (eqV x y)
 |same {n:Nat} (a:Addr):N7 K H n (.ref a) (.ref a) true
 |lists {n:Nat} {a b:Addr} {xs ys:List V} (e:Nat->Bool):a≠b->i7 K H a xs->i7 K H b ys->xs.length=ys.length->(∀(j:Nat) x y,xs[j]? =some x->ys[j]? =some y->N7 K H n x y (e j))->N7 K H (n+1) (.ref a) (.ref b) ((cp4 xs.length).all e)
 |lens {n:Nat} {a b:Addr} {xs ys:List V}:a≠b->i7 K H a xs->i7 K H b ys->xs.length≠ys.length->N7 K H (n+1) (.ref a) (.ref b) false
theorem al0 {pins:List (Addr×Obj)}{σ:St}{H:Hp}{s:Shared}(I:h8 X pins σ H s){n:Nat}{x y:V}{b:Bool}(d:N7 X.K H n x y b):
   ∀{A:Around} {u v:Value},A.units+n < cLine->o8 x u->o8 y v->SeqAt.EqAt A s u v b:=by
 induction d with
 |flat fx fy=>intro A u v _ rx ry;exact ca3 rx ry fx fy
 |same a=>intro A u v _ rx ry;cases rx;cases ry;exact SeqAt.EqAt.same _
 |@lists n a c xs ys e ne ha hb hl _ ih=>
  intro A u v hu rx ry;cases rx;cases ry;obtain ⟨its,r1,p1,_⟩:=I.list ha;obtain ⟨its2,r2,p2,_⟩:=I.list hb;have l1:=r1.length;have l2:=r2.length;refine SeqAt.EqAt.of_refs ne ?_
  have q:=SeqAt.RcAt.lists (A:=A) (e:=e) p1.isList p2.isList (by rw[ck9,ck9];omega) (by omega) (fun j h1 h2=>by
    have h1':j < its.length:=by simpa using h1
    have h2':j < its2.length:=by simpa using h2
    have e1:xs[j]? =some (xs[j]'(by omega)):=ck6 _;have e2:ys[j]? =some (ys[j]'(by omega)):=ck6 _;obtain ⟨u1,z1,q1⟩:=r1.get e1;obtain ⟨u2,z2,q2⟩:=r2.get e2
    have w1:its.toArray[j]=u1:=by
      rw[ck6 h1'] at z1
      simpa using z1
    have w2:its2.toArray[j]=u2:=by
      rw[ck6 h2'] at z2
      simpa using z2
    rw[w1,w2]
    exact ih j _ _ e1 e2 (by show A.in1.units+n < cLine;have:A.in1.units=A.units+1:=by first|rfl|simp [Around.in1]
                             omega) q1 q2)
  rw[ck9,<-l1] at q;exact q
 |lens ne ha hb hl=>
  intro A u v hu rx ry;cases rx;cases ry;obtain ⟨its,r1,p1,_⟩:=I.list ha;obtain ⟨its2,r2,p2,_⟩:=I.list hb;have l1:=r1.length;have l2:=r2.length;exact SeqAt.EqAt.of_refs ne (SeqAt.RcAt.lists_lengths p1.isList p2.isList (by rw[ck9,ck9];simp;omega) (by omega))
def LEq (K:PySem.W.Frag)(H:Hp)(n:Nat)(xs ys:List V)(r:Bool):Prop:=
 (xs.length≠ys.length/\r=false)\/(∃e:Nat->Bool,xs.length=ys.length/\(∀(j:Nat) x y,xs[j]? =some x->ys[j]? =some y->N7 K H n x y (e j))/\r=(cp4 xs.length).all e)
theorem av2 {pins:List (Addr×Obj)}{σ:St}{H:Hp}{s:Shared}(I:h8 X pins σ H s){A:Around}{n:Nat}{a b:Addr}{xs ys:List V}{r:Bool}(hu:A.units+n+1 < cLine)(ha:i7 X.K H a xs)(hb:i7 X.K H b ys)(d:LEq X.K H n xs ys r):
   SeqAt.RcAt A s (.ref a) (.ref b) r:=by
 obtain ⟨its,r1,p1,_⟩:=I.list ha;obtain ⟨its2,r2,p2,_⟩:=I.list hb;have l1:=r1.length;have l2:=r2.length
 rcases d with ⟨hl,rfl⟩|⟨e,hl,he,rfl⟩
 · exact SeqAt.RcAt.lists_lengths p1.isList p2.isList (by rw[ck9,ck9];simp;omega) (by omega)
 · have q:=SeqAt.RcAt.lists (A:=A) (e:=e) p1.isList p2.isList (by rw[ck9,ck9];omega) (by omega) (fun j h1 h2=>by
     have h1':j < its.length:=by simpa using h1
     have h2':j < its2.length:=by simpa using h2
     have e1:xs[j]? =some (xs[j]'(by omega)):=ck6 _;have e2:ys[j]? =some (ys[j]'(by omega)):=ck6 _;obtain ⟨u1,z1,q1⟩:=r1.get e1;obtain ⟨u2,z2,q2⟩:=r2.get e2
     have w1:its.toArray[j]=u1:=by
       rw[ck6 h1'] at z1
       simpa using z1
     have w2:its2.toArray[j]=u2:=by
       rw[ck6 h2'] at z2
       simpa using z2
     rw[w1,w2]
     exact al0 I (he j _ _ e1 e2) (by show A.in1.units+n < cLine;have:A.in1.units=A.units+1:=by first|rfl|simp [Around.in1]
                                      omega) q1 q2)
   rw[ck9,<-l1] at q;exact q
end
end L2
namespace L2
open PySem PySem.Spec PyProof.Rows
section
variable {X:Cx}
theorem bp7 {pins:List (Addr×Obj)}{σ:St}{H:Hp}{s:Shared}(I:h8 X pins σ H s){A:Around}{n:Nat}{a b:Addr}{xs ys:List V}{r:Bool}(hu:A.units+n+1 < cLine)(ha:i7 X.K H a xs)(hb:i7 X.K H b ys)(d:LEq X.K H n xs ys r):
   SeqAt.RcNeAt A s (.ref a) (.ref b) (!r):=by
 obtain ⟨its,r1,p1,_⟩:=I.list ha;obtain ⟨its2,r2,p2,_⟩:=I.list hb;have l1:=r1.length;have l2:=r2.length
 rcases d with ⟨hl,rfl⟩|⟨e,hl,he,rfl⟩
 · exact SeqAt.RcNeAt.lists_lengths p1.isList p2.isList (by rw[ck9,ck9];simp;omega) (by omega)
 · have q:=SeqAt.RcNeAt.lists (A:=A) (e:=e) p1.isList p2.isList (by rw[ck9,ck9];omega) (by omega) (fun j h1 h2=>by
     have h1':j < its.length:=by simpa using h1
     have h2':j < its2.length:=by simpa using h2
     have e1:xs[j]? =some (xs[j]'(by omega)):=ck6 _;have e2:ys[j]? =some (ys[j]'(by omega)):=ck6 _;obtain ⟨u1,z1,q1⟩:=r1.get e1;obtain ⟨u2,z2,q2⟩:=r2.get e2
     have w1:its.toArray[j]=u1:=by
       rw[ck6 h1'] at z1
       simpa using z1
     have w2:its2.toArray[j]=u2:=by
       rw[ck6 h2'] at z2
       simpa using z2
     rw[w1,w2]
     exact al0 I (he j _ _ e1 e2) (by show A.in1.units+n < cLine;have:A.in1.units=A.units+1:=by first|rfl|simp [Around.in1]
                                      omega) q1 q2)
   rw[ck9,<-l1] at q;exact q
def ca9 (K:PySem.W.Frag)(n:Nat)(neg:Bool):R2:=fun x y H Q=>∃a b xs ys r,x= .ref a/\y= .ref b/\i7 K H a xs/\i7 K H b ys/\LEq K H n xs ys r/\Q (.bl (if neg then !r else r)) H
theorem Y6 (n:Nat)(hu:X.A.units+n+1 < cLine):E3 X (compareOp .Eq) (ca9 X.K n false):=by
 intro pins s σ H x y v u Q I rx ry h;obtain ⟨a,b,xs,ys,r,rfl,rfl,ha,hb,d,q⟩:=h;cases rx;cases ry;exact av2 I hu ha hb d _ _ _ _ ⟨.bl r,H,I,rfl,q⟩
theorem N8 (n:Nat)(hu:X.A.units+n+1 < cLine):E3 X (compareOp .NotEq) (ca9 X.K n true):=by
 intro pins s σ H x y v u Q I rx ry h;obtain ⟨a,b,xs,ys,r,rfl,rfl,ha,hb,d,q⟩:=h;cases rx;cases ry;exact bp7 I hu ha hb d _ _ _ _ ⟨.bl (!r),H,I,rfl,q⟩
theorem ab8 {n:Nat}{e:Nat->Bool}:(cp4 n).all e=true↔∀j,j < n->e j=true:=by
 rw[cr3];exact ⟨fun h j hj=>h j (co2.mpr hj),fun h j hj=>h j (co2.mp hj)⟩
theorem M3 (K:PySem.W.Frag)(H:Hp)(n:Nat)(ns ms:List Int):LEq K H n (ns.map V.int) (ms.map V.int) (decide (ns=ms)):=by
 by_cases hl:ns.length=ms.length
 · refine .inr ⟨fun j=>decide (ns[j]? =ms[j]?),by simpa using hl,fun j x y e1 e2=> ?_,?_⟩
   · rw[cl0] at e1 e2
     cases h1:ns[j]? with
     |none=>rw[h1] at e1;cases e1
     |some a=>
      cases h2:ms[j]? with
      |none=>rw[h2] at e2;cases e2
      |some b=>
       rw[h1] at e1;rw[h2] at e2;cases e1;cases e2;have q:N7 K H n (V.int a) (V.int b) (eqV (V.int a) (V.int b)):= .flat rfl rfl
       have e:eqV (V.int a) (V.int b)=decide (some a=some b):=by
         show (a==b)=_
         by_cases z:a=b
         · subst z;simp
         · rw[decide_eq_false (fun w=>z (Option.some.inj w))];simpa using z
       rw[e] at q;show N7 K H n _ _ (decide (ns[j]? =ms[j]?));rw[h1,h2];exact q
   · rw[cq4,decide_eq_true_iff,ab8];constructor
     · intro h j _;subst h;simp
     · intro h
       refine cp5 fun j=> ?_
       by_cases hj:j < ns.length
       · exact of_decide_eq_true (h j (by simpa using hj))
       · rw[cl5 (by omega),cl5 (by omega)]
 · refine .inl ⟨by simpa using hl,?_⟩
   exact decide_eq_false fun h=>hl (by rw[h])
theorem az6:K8 X (.type "range") (fun xs H Q=>∃j,xs=[.int j]/\∀p,H p=none->Q (.ref p) (e8 H p (.rng 0 j))):=by
 intro pins s σ H xs us Q I r h;obtain ⟨j,rfl,q⟩:=h;obtain ⟨u,rfl,⟨t,rfl⟩⟩:=S8 r;refine call_range_1 ⟨.ref s.heap.objs.size,_,I.laid (fun b o e=>Heap.get?_push_of_some _ e) (ck8 _) ?_,rfl,q _ (I.hok.fresh (ck8 _))⟩;exact ⟨_,_,_,Heap.get?_push_size _ rfl⟩
theorem az7:K8 X (.type "range") (fun xs H Q=>∃i j,xs=[.int i,.int j]/\∀p,H p=none->Q (.ref p) (e8 H p (.rng i j))):=by
 intro pins s σ H xs us Q I r h;obtain ⟨i,j,rfl,q⟩:=h;obtain ⟨u,w',rfl,⟨t,rfl⟩,⟨t',rfl⟩⟩:=ak0 r;refine call_range_2 ⟨.ref s.heap.objs.size,_,I.laid (fun b o e=>Heap.get?_push_of_some _ e) (ck8 _) ?_,rfl,q _ (I.hok.fresh (ck8 _))⟩;exact ⟨_,_,_,Heap.get?_push_size _ rfl⟩
def r6 (lo:Int)(n:Nat):List Int:=(cp4 n).map fun (i:Nat)=>lo+(i:Int)
theorem bf2 {lo:Int}{n:Nat}{acc:Array Value}(h:ItemsOf (fun i v=>∃t,v=Value.int (lo+(i:Int)*1) t) acc n):m7 ((r6 lo n).map V.int) acc.toList:=by
 obtain ⟨hs,hv⟩:=h
 have key:∀(l:List Value) (k:Nat),(∀(j:Nat) v,l[j]? =some v->∃t,v=Value.int (lo+((k+j:Nat):Int)) t)->m7 (((cp4 l.length).map fun (i:Nat)=>lo+((k+i:Nat):Int)).map V.int) l:=by
   intro l
   induction l with
   |nil=>intro k _;exact .nil
   |cons v r ih=>
    intro k hk
    have e:(((cp4 r.length).map Nat.succ).map fun (i:Nat)=>lo+((k+i:Nat):Int))=(cp4 r.length).map fun (i:Nat)=>lo+((k+1+i:Nat):Int):=by
      rw[cp2]
      refine cn6 fun i _=> ?_
      show lo+((k+(i+1):Nat):Int)=_
      congr 2;omega
    rw[cm9,List.range_succ_eq_map,cp9,cp9,e];refine .cons ?_ ?_
    · obtain ⟨t,e⟩:=hk 0 v rfl;exact ⟨t,e⟩
    · have:=ih (k+1) fun j w e=>by
        obtain ⟨t,z⟩:=hk (j+1) w (by simpa using e);exact ⟨t,by rw[z];congr 2;omega⟩
      exact this
 have:=key acc.toList 0 fun j v e=>by
   obtain ⟨t,z⟩:=hv j v (by simpa using e);exact ⟨t,by rw[z,Int.mul_one];simp⟩
 have hl:acc.toList.length=n:=by simpa using hs
 rw[hl] at this
 have e:((cp4 n).map fun (i:Nat)=>lo+((0+i:Nat):Int))=r6 lo n:=by
   unfold r6
   refine cn6 fun i _=> ?_
   simp
 rw[e] at this;exact this
theorem ab9 (hc:X.calm=true):K8 X (.type "list") (fun xs H Q=>∃p lo hi,xs=[.ref p]/\H p=some (.rng lo hi)/\(-(2^62)<=lo/\lo < 2^62/\ -(2^62)<=hi/\hi < 2^62)/\(hi - lo).toNat<=2^20/\
   ∀l,H l=none->Q (.ref l) (e8 H l (.lst ((r6 lo (hi - lo).toNat).map V.int)))):=by
 intro pins s σ H xs us Q I r h;obtain ⟨p,lo,hi,rfl,hp,⟨b1,b2,b3,b4⟩,hz,q⟩:=h;obtain ⟨u,rfl,rx⟩:=S8 r;cases rx;obtain ⟨t,u,v,ho⟩:=I.hok p _ hp
 refine call_list_range (n:=(hi - lo).toNat) (I.ok.hd hc) (r:=p) ho (small_one b1 b2 b3 b4) (by rw[rangeSize_one];split<;>omega) (cn2 hz (by decide)) fun h' tk acc' c' hk e it=> ?_
 have rv:=bf2 it;refine ⟨.ref s.heap.objs.size,_,I.laid hk (ck8 _) (show t5 X.prog X.w _ h' _ (.lst ((r6 lo (hi - lo).toNat).map V.int)) from ⟨?_,acc'.toList,c',rv,by rw[e]⟩),rfl,q _ (I.hok.fresh (ck8 _))⟩;unfold r6;rw[ck5,ck5,cr8];exact cn2 hz (by rw[sizeLine_eq];decide)
end
end L2
namespace L2
open PySem PySem.Spec PyProof.Rows
section
variable {X:Cx}
theorem bp8:K8 X (.builtin "isinstance") (fun xs H Q=>∃x n t b,xs=[x,.ty n]/\J0 X.K H x t/\PySem.W.kitOne X.K t (.type n)=some b/\Q (.bl b) H):=by
 intro pins s σ H xs us Q I r h;obtain ⟨x,n,t,b,rfl,ty,e,q⟩:=h;obtain ⟨u,w',rfl,rx,ry⟩:=ak0 r;cases (show w'=Value.type n from ry)
 exact bi7 I rx ty e fun tk=>⟨.bl b,H,I.tok tk,rfl,q⟩
theorem O9 (K:PySem.W.Frag)(n:String):PySem.W.kitOne K (.type n) (.type n)=some true:=by
 unfold PySem.W.kitOne;rw[if_pos (beq_self_eq_true _)]
theorem V4 (K:PySem.W.Frag):PySem.W.kitOne K (.type "int") (.type "bool")=some false:=by
 unfold PySem.W.kitOne PySem.W.kitCls;rw[if_neg (by decide+kernel)];show (if PySem.W.kitMeta "bool"=true then (fastBuiltinMro "int").map (·.contains (Value.type "bool")) else none)=some false;rw[if_pos (by decide+kernel)]
 decide+kernel
theorem bp9:bootBuiltins "int"=some (.type "int"):=by decide+kernel
theorem bj7:bootBuiltins "bool"=some (.type "bool"):=by decide+kernel
theorem T1:bootBuiltins "list"=some (.type "list"):=by decide+kernel
theorem ah3:bootBuiltins "range"=some (.type "range"):=by decide+kernel
theorem av3:bootBuiltins "isinstance"=some (.builtin "isinstance"):=by decide+kernel
theorem bj8:bootBuiltins "min"=some (.builtin "min"):=by decide+kernel
theorem bj9:bootBuiltins "max"=some (.builtin "max"):=by decide+kernel
end
def k7 (a:Addr)(H H':Hp):Prop:=∀b o,H b=some o->b≠a->H' b=some o
theorem k7.refl (a:Addr)(H:Hp):k7 a H H:=fun _ _ h _=>h
theorem k7.trans {a:Addr}{H H1 H2:Hp}(x:k7 a H H1)(y:k7 a H1 H2):k7 a H H2:=fun b o h n=>y b o (x b o h n) n
theorem c8.but {H H':Hp}(a:Addr)(s:c8 H H'):k7 a H H':=fun b o h _=>s b o h
theorem c8.upd_new {H:Hp}{p:Addr}{o:HO}(h:H p=none):c8 H (e8 H p o):=fun b u e=>by rw[i8 (j5 e h)];exact e
theorem k7.upd {H:Hp}{a:Addr}{o:HO}:k7 a H (e8 H a o):=fun b u e n=>by rw[i8 n];exact e
theorem c8.upd_r {H H':Hp}{p:Addr}{o:HO}(s:c8 H H')(h:H p=none):c8 H (L2.e8 H' p o):=fun b u e=>by rw[i8 (j5 e h)];exact s b u e
theorem k7.upd_a {a:Addr}{H H':Hp}{o:HO}(k:k7 a H H'):k7 a H (L2.e8 H' a o):=fun b u e n=>by rw[i8 n];exact k b u e n
def A9 (H:Hp)(a:Addr)(c:Nat):Prop:=∃x y z:Int,H a=some (.lst [.int x,.int y,.int z])/\0<=z/\z<=c
theorem A9.mono {H:Hp}{a:Addr}{c d:Nat}(h:A9 H a c)(e:c<=d):A9 H a d:=by
 obtain ⟨x,y,z,h1,h2,h3⟩:=h;exact ⟨x,y,z,h1,h2,by omega⟩
end L2
namespace L2
open PySem PySem.Spec PyProof.Rows
def o7 (P:Program)(w:World)(K:PySem.W.Frag)(mg:Str->Option Value)(base:Heap)(x:Str)(k:Nat)(ps:List Str)(sp:Sp):Prop:=
 ∃(f:Addr) (fd:FuncData),mg x=some (.ref f)/\PySem.W.keepIn K (.ref f)=true/\S9 K fd ps []/\l6 P w K mg base B8 k f fd ps sp
section
variable {X:Cx} {x:Str} {p pos:Pos} {e:Expr} {es:List Expr} {t:TA} {k:Nat} {ps:List Str} {sp:Sp}
theorem j6 (c:o7 X.prog X.w X.K X.mg X.base x k ps sp)(hr:o6 k X.A)(ha:PA X (e::es) t)(hg:Gl X x:=by rfl)(hdb:(x==("__debug__":Str))=false:=by decide)
   (he:starEach (e::es) X.env=(false,eval e X.env)::starEach es X.env:=by rfl) (hpl:(backTo pos (starEach es X.env)).any (·.1)=false:=by rfl):
   PE X (.Call (.Name x p) (e::es) [] pos) (ak2 sp [] E0 t):=by
 obtain ⟨f,fd,h1,h2,h3,h4⟩:=c;exact bb4 h4 hr hg h1 h2 h3 .nil ce6 ha hdb he hpl
theorem V5 {a b:Expr}{ta:TA}(hm:X.mg "isinstance"=none)(ha:PA X [a,b] ta)(hg:Gl X "isinstance":=by rfl)
   (he:starEach [a,b] X.env=(false,eval a X.env)::starEach [b] X.env:=by rfl) (hpl:(backTo pos (starEach [b] X.env)).any (·.1)=false:=by rfl):
   PE X (.Call (.Name "isinstance" p) [a,b] [] pos) (S5 (fun xs H Q=>∃x n t b,xs=[x,.ty n]/\J0 X.K H x t/\PySem.W.kitOne X.K t (.type n)=some b/\Q (.bl b) H) ta):=
 O7 bp8 hg hm av3 ha (by decide) (by decide) he hpl
theorem av4 (hm:X.mg "int"=none)(hg:Gl X "int":=by rfl):PE X (.Name "int" p) (tC (.ty "int")):=af0 hg hm bp9 rfl
theorem ar1 (hm:X.mg "bool"=none)(hg:Gl X "bool":=by rfl):PE X (.Name "bool" p) (tC (.ty "bool")):=af0 hg hm bj7 rfl
theorem ar2 (hm:X.mg "list"=none)(hg:Gl X "list":=by rfl):PE X (.Name "list" p) (tC (.ty "list")):=af0 hg hm T1 rfl
theorem p8 (hm:X.mg "len"=none)(ha:PA X [e] t)(hg:Gl X "len":=by rfl)
   (he:starEach [e] X.env=(false,eval e X.env)::starEach [] X.env:=by rfl):PE X (.Call (.Name "len" p) [e] [] pos) (S5 (fun xs H Q=>∃p ys,xs=[.ref p]/\(i7 X.K H p ys\/D9 X.K H p ys)/\Q (.int ys.length) H) t):=
 O7 au9 hg hm PySem.boot_len ha (by decide) (by decide) he rfl
end
end L2
namespace Mth
structure p9 (p:List Int):Prop where
 nd:p.Nodup
 lo:∀x∈p,0<=x
 hi:∀x∈p,x < p.length
theorem ai5 {n:Nat}{x:Int}:x∈L2.r6 0 n↔0<=x/\x < n:=by
 unfold L2.r6;rw[cm8];constructor
 · rintro ⟨i,hi,rfl⟩;have:=co2.mp hi;omega
 · rintro ⟨h1,h2⟩;exact ⟨x.toNat,co2.mpr (by omega),by omega⟩
theorem J5 (lo:Int)(n:Nat):(L2.r6 lo n).length=n:=by
 unfold L2.r6;rw[ck5,cr8]
theorem bf3 (n:Nat):(L2.r6 0 n).Nodup:=by
 unfold L2.r6;rw[cm4,cr1];exact List.Pairwise.imp (fun {a b} (h:a < b)=>by omega) List.pairwise_lt_range
theorem J6 {p:List Int}{n:Nat}(h:p.Perm (L2.r6 0 n)):p9 p/\p.length=n:=by
 have hl:p.length=n:=by rw[h.length_eq,J5]
 refine ⟨⟨h.nodup_iff.mpr (bf3 n),fun x hx=>(ai5.mp (h.mem_iff.mp hx)).1,fun x hx=> ?_⟩,hl⟩;have:=(ai5.mp (h.mem_iff.mp hx)).2;omega
theorem as4:∀(n:Nat) (p:List Nat),p.Nodup->(∀x∈p,x < n)->p.length=n->p.Perm (cp4 n):=by
 intro n
 induction n with
 |zero=>intro p _ _ hl;rw[cv7 hl];exact List.Perm.refl _
 |succ n ih=>
  intro p nd hb hl
  by_cases hn:n∈p
  · obtain ⟨s,t,rfl⟩:=List.append_of_mem hn;have pm:(s++n::t).Perm (n::(s++t)):=List.perm_middle;have nd':=pm.nodup_iff.mp nd;obtain ⟨h1,h2⟩:=cq5.mp nd'
    have:=ih (s++t) h2 (fun x hx=>by
      have hx':x < n+1:=hb x (pm.mem_iff.mpr (cl1 _ hx))
      have:x≠n:=fun e=>h1 (e▸hx)
      omega) (by rw[cl2,cm9] at hl;rw[cl2];omega)
    refine pm.trans ?_;rw[ct0];exact (List.Perm.cons n this).trans (cq9 (l₁:=[n]))
  · exfalso
    have hlt:∀x∈p,x < n:=fun x hx=>by
      have h1:=hb x hx
      have:x≠n:=fun e=>hn (e▸hx)
      omega
    match p,nd,hl,hlt with
    |[],_,hl,_=>simp at hl
    |y::q,nd,hl,hlt=>
     obtain ⟨h1,h2⟩:=cq5.mp nd;have hq:=ih q h2 (fun x hx=>hlt x (cl1 _ hx)) (by simpa using hl);have hy:=hlt y cl4;exact h1 (hq.mem_iff.mpr (co2.mpr hy))
theorem p9.perm {p:List Int}(h:p9 p):p.Perm (L2.r6 0 p.length):=by
 have e:(p.map cv8).map (fun (i:Nat)=>(0:Int)+(i:Int))=p:=by
   rw[cp2]
   conv=>rhs;rw[<-cu1 p]
   refine cn6 fun x hx=> ?_
   have:=h.lo x hx;show (0:Int)+((x.toNat:Nat):Int)=x;omega
 have nd:(p.map cv8).Nodup:=by
   rw[cm4,cr1];have:=cm4.mp h.nd;refine List.Pairwise.imp_of_mem (fun {a b} ha hb hne z=>hne ?_) this;have h1:=h.lo a ha;have h2:=h.lo b hb;omega
 have:=as4 p.length (p.map cv8) nd (fun x hx=>by
   obtain ⟨y,hy,rfl⟩:=cm8.mp hx;have h1:=h.lo y hy;have h2:=h.hi y hy
   omega) (by rw[ck5])
 have q:=this.map (fun (i:Nat)=>(0:Int)+(i:Int));rw[e] at q;exact q
def G2 (fs:List Int)(u:Int):Option Int:=fs[u.toNat]?
theorem av5 (fs:List Int):(L2.r6 0 fs.length).map (G2 fs)=fs.map some:=by
 unfold L2.r6;rw[cp2]
 refine cp5 fun j=> ?_
 rw[cl0,cl0]
 by_cases hj:j < fs.length
 · rw[cs2 hj,ck6 hj];show some (fs[((0:Int)+(j:Int)).toNat]?)=_
   have:((0:Int)+(j:Int)).toNat=j:=by omega
   rw[this,ck6 hj];rfl
 · rw[cl5 (by rw[cr8];omega),cl5 (by omega)];rfl
theorem bk0 {a b:List Int}(h:(a.map some).Perm (b.map some)):a.Perm b:=by
 have:=h.map (fun o:Option Int=>o.getD 0);rw[cp2,cp2] at this
 have e:∀l:List Int,l.map ((fun o:Option Int=>o.getD 0)∘some)=l:=fun l=>by
   conv=>rhs;rw[<-cu1 l]
   rfl
 rw[e,e] at this;exact this
theorem bf4 {fs ts qs:List Int}(ht:p9 ts)(hl:fs.length=ts.length)(h:ts.map (G2 fs)=qs.map some):fs.Perm qs:=by
 refine bk0 ?_;have h1:=ht.perm.map (G2 fs);rw[<-hl,av5,h] at h1;exact h1.symm
end Mth
namespace L2
open PySem PySem.Spec PyProof.Rows
theorem ak9.of {X:Cx}{N:List Str}{nl:Nat}{fr:List Nat}{scope:Scope}(h1:(scope.names.all fun y=>y.2 != .cell)=true:=by rfl)(h2:scope.kind= .function:=by rfl)
   (h3:(scope.names.all fun y=>y.2 != .local||scope.names.lookup y.1==some .local)=true:=by rfl)
   (h4:(scope.names.all fun p=>p.2 != .free||(X.env.kindOf p.1==some .cell||X.env.kindOf p.1==some .free))=true:=by rfl) (h5:N.length=nl+fr.length:=by rfl)
   (h6:((cp4 fr.length).all fun k=>match fr[k]? with
     |some j=>(match N[nl+k]?,X.N[j]? with
      |some y,some z=>y==z&&(X.env.scope.names.lookup y==some .local||X.env.scope.names.lookup y==some .cell||X.env.scope.names.lookup y==some .free)&&scope.names.lookup y==some .free
      |_,_=>false)
     |none=>false)=true:=by rfl):ak9 X N nl fr scope where
 cell:=fun y hy e=>by
   have:=cr3.mp h1 y hy;rw[e] at this;exact absurd this (by decide)
 kind:=h2
 names:=fun y hy e=>by
   have:=cr3.mp h3 y hy;rw[e] at this
   have q:(scope.names.lookup y.1==some NameKind.local)=true:=by simpa using this
   exact eq_of_beq q
 free:=fun p hp e=>by
   have:=cr3.mp h4 p hp;rw[e] at this
   have q:(X.env.kindOf p.1==some NameKind.cell||X.env.kindOf p.1==some NameKind.free)=true:=by simpa using this
   rcases cv9 _ _|>.mp q with z|z
   · exact .inl (eq_of_beq z)
   · exact .inr (eq_of_beq z)
 len:=h5
 fr:=fun k j e=>by
   have hk:k < fr.length:=(ck7.mp e).1;have:=cr3.mp h6 k (co2.mpr hk);rw[e] at this
   dsimp only at this
   cases e1:N[nl+k]? with
   |none=>rw[e1] at this;cases this
   |some y=>
    cases e2:X.N[j]? with
    |none=>rw[e1,e2] at this;cases this
    |some z=>
     rw[e1,e2] at this
     dsimp only at this
     rw[cp7,cp7] at this;obtain ⟨⟨q1,q2⟩,q3⟩:=this;have hyz:y=z:=eq_of_beq q1;subst hyz;refine ⟨y,rfl,rfl,?_,eq_of_beq q3⟩;rw[cv9,cv9] at q2
     rcases q2 with (q|q)|q
     · exact .inl (eq_of_beq q)
     · exact .inr (.inl (eq_of_beq q))
     · exact .inr (.inr (eq_of_beq q))
def J1 (l:List Int):List (x4×V):=l.map fun n=>((Sum.inl n:x4),V.bl true)
theorem ai6 {l:List Int}{n:Int}(h:n∈l):L4 (J1 l) (Sum.inl n:x4)=some (.bl true):=by
 induction l with
 |nil=>simp at h
 |cons a r ih=>
  show L4 (((Sum.inl a:x4),V.bl true)::J1 r) _=_
  by_cases e:a=n
  · rw[aa1 (by rw[e])]
  · rw[V1 (fun z=>e (Sum.inl.inj z))];exact ih ((co0.mp h).resolve_left fun z=>e z.symm)
theorem aa4 {l:List Int}{n:Int}(h:n∉l):L4 (J1 l) (Sum.inl n:x4)=none:=by
 induction l with
 |nil=>rfl
 |cons a r ih=>
  show L4 (((Sum.inl a:x4),V.bl true)::J1 r) _=_;rw[V1 (fun z=>h (by rw[Sum.inl.inj z];exact cl4))]
  exact ih fun z=>h (cl1 _ z)
theorem ac8 {l:List Int}{n:Int}(h:n∉l):N6 (J1 l) (Sum.inl n:x4) (V.bl true)=J1 (l++[n]):=by
 rw[bp2 _ (aa4 h)];unfold J1;rw[cl6];rfl
theorem D6 {ns:List Int}{i:Nat}{y:V}(h:(ns.map V.int)[i]? =some y):∃z,ns[i]? =some z/\y= .int z:=by
 rw[cl0] at h
 cases e:ns[i]? with
 |none=>rw[e] at h;cases h
 |some z=>rw[e] at h;exact ⟨z,rfl,(Option.some.inj h).symm⟩
theorem A3 {α:Type}{l:List α}{i:Nat}{x:α}(h:l[i]? =some x):l.take (i+1)=l.take i++[x]:=by
 rw[List.take_add_one,h];rfl
end L2
namespace Mth
def C9 (p q:List Int):List Int:=q.map fun i=>p.getD i.toNat 0
theorem U1 {p:List Int}{i:Int}(h0:0<=i)(h1:i < p.length):L2.atI (p.map L2.V.int) i=some (.int (p.getD i.toNat 0)):=by
 obtain ⟨j,rfl⟩:=co7 h0;refine L2.p7 ?_
 have hj:j < p.length:=by omega
 rw[cl0,ck6 hj];show some (L2.V.int p[j])=_;rw[cr7];rw[co9,ck6 hj];rfl
end Mth
namespace L2
open PySem PySem.Spec PyProof.Rows
theorem bc0 (K:PySem.W.Frag)(H:Hp)(n:Nat)(xs:List V):LEq K H n xs [] xs.isEmpty:=by
 cases xs with
 |nil=>exact .inr ⟨fun _=>true,rfl,fun j x y e=>by simp at e,rfl⟩
 |cons x r=>exact .inl ⟨by simp,rfl⟩
section
variable {X:Cx} {p pos apos:Pos} {e o:Expr} {es:List Expr} {t:TA} {to:TE}
theorem M8 (ho:PE X o to)(ha:PA X [e] t)
   (hbase:attributeBase o "append" X.env (eval o X.env)=eval o X.env:=by rfl)
   (hfew:((backTo pos (starEach [e] X.env)).all (fun x=> !x.1)&&(backToKw pos (keywordEach [] X.env)).all (fun x=>x.1.isSome)
     &&decide ([e].length+([]:List Keyword).length+(if ([]:List Keyword).isEmpty then 0 else 1) < 30))=true:=by rfl)
   (hline:(apos.endLine==pos.line)=true:=by rfl) (hs:starEach [e] X.env=(false,eval e X.env)::starEach [] X.env:=by rfl) (hplain:(backTo pos (starEach [] X.env)).any (·.1)=false:=by rfl):
   PE X (.Call (.Attribute o "append" apos) [e] [] pos) (tBM X.K "list" bb8 to t):=
 be6 PySem.F.plainAttrs_list PySem.F.slot_list_append PySem.F.type_list_append bi9 ho ha hbase hfew hline hs hplain
theorem bq0 (ho:PE X o to)(ha:PA X [e] t)
   (hbase:attributeBase o "pop" X.env (eval o X.env)=eval o X.env:=by rfl)
   (hfew:((backTo pos (starEach [e] X.env)).all (fun x=> !x.1)&&(backToKw pos (keywordEach [] X.env)).all (fun x=>x.1.isSome)
     &&decide ([e].length+([]:List Keyword).length+(if ([]:List Keyword).isEmpty then 0 else 1) < 30))=true:=by rfl)
   (hline:(apos.endLine==pos.line)=true:=by rfl) (hs:starEach [e] X.env=(false,eval e X.env)::starEach [] X.env:=by rfl) (hplain:(backTo pos (starEach [] X.env)).any (·.1)=false:=by rfl):
   PE X (.Call (.Attribute o "pop" apos) [e] [] pos) (tBM X.K "list" bj0 to t):=
 be6 PySem.F.plainAttrs_list PySem.F.slot_list_pop PySem.F.type_list_pop bp1 ho ha hbase hfew hline hs hplain
theorem C2 (hm:X.mg "list"=none)(ha:PA X [e] t)(hg:Gl X "list":=by rfl)(he:starEach [e] X.env=(false,eval e X.env)::starEach [] X.env:=by rfl):
   PE X (.Call (.Name "list" p) [e] [] pos) (S5 (fun xs H Q=>∃p ys,xs=[.ref p]/\(i7 X.K H p ys\/D9 X.K H p ys)/\∀l,H l=none->Q (.ref l) (e8 H l (.lst ys))) t):=
 M6 av0 hg hm T1 ha (by decide) (by decide) he rfl
theorem T2 {p2 pos2:Pos}(hc:X.calm=true)(hm:X.mg "list"=none)(hm2:X.mg "range"=none)(ha:PA X [e] t)(hg:Gl X "list":=by rfl)(hg2:Gl X "range":=by rfl)(he:starEach [e] X.env=(false,eval e X.env)::starEach [] X.env:=by rfl)
   (he2:starEach [.Call (.Name "range" p2) [e] [] pos2] X.env=(false,eval (.Call (.Name "range" p2) [e] [] pos2) X.env)::starEach [] X.env:=by rfl):
   PE X (.Call (.Name "list" p) [.Call (.Name "range" p2) [e] [] pos2] [] pos) (S5 (fun xs H Q=>∃p lo hi,xs=[.ref p]/\H p=some (.rng lo hi)/\(-(2^62)<=lo/\lo < 2^62/\ -(2^62)<=hi/\hi < 2^62)/\(hi - lo).toNat<=2^20/\
   ∀l,H l=none->Q (.ref l) (e8 H l (.lst ((r6 lo (hi - lo).toNat).map V.int)))) (ak1 (S5 (fun xs H Q=>∃j,xs=[.int j]/\∀p,H p=none->Q (.ref p) (e8 H p (.rng 0 j))) t) au6)):=
 M6 (ab9 hc) hg hm T1 (c5 (M6 az6 hg2 hm2 ah3 ha (by decide) (by decide) he rfl) c6 he2) (by decide) (by decide) he2 rfl
theorem bu5 {a b:Expr}(hc:X.calm=true)(hm:X.mg "min"=none)(ha:PA X [a,b] t)(hg:Gl X "min":=by rfl)(he:starEach [a,b] X.env=(false,eval a X.env)::starEach [b] X.env:=by rfl)(hpl:(backTo pos (starEach [b] X.env)).any (·.1)=false:=by rfl):
   PE X (.Call (.Name "min" p) [a,b] [] pos) (S5 (fun xs H Q=>∃i j,xs=[.int i,.int j]/\Q (.int (if j < i then j else i)) H) t):=
 O7 (bi5 hc) hg hm bj8 ha (by decide) (by decide) he hpl
theorem bu6 {a b:Expr}(hc:X.calm=true)(hm:X.mg "max"=none)(ha:PA X [a,b] t)(hg:Gl X "max":=by rfl)(he:starEach [a,b] X.env=(false,eval a X.env)::starEach [b] X.env:=by rfl)(hpl:(backTo pos (starEach [b] X.env)).any (·.1)=false:=by rfl):
   PE X (.Call (.Name "max" p) [a,b] [] pos) (S5 (fun xs H Q=>∃i j,xs=[.int i,.int j]/\Q (.int (if j > i then j else i)) H) t):=
 O7 (bi4 hc) hg hm bj9 ha (by decide) (by decide) he hpl
end
end L2
namespace Mth
theorem al2 {α:Type}:∀{l:List α} {k:Nat} {y:α},l[k]? =some y->(y::l.eraseIdx k).Perm l
 |[],k,y,h=>by simp at h
 |a::r,0,y,h=>by
  simp at h;subst h;exact List.Perm.refl _
 |a::r,k+1,y,h=>by
  have h':r[k]? =some y:=by simpa using h
  have ih:=al2 h';show (y::a::r.eraseIdx k).Perm (a::r);exact (List.Perm.swap a y _).trans (ih.cons a)
end Mth
namespace L2
open PySem PySem.Spec PyProof.Rows
def ce7 (K:PySem.W.Frag)(ta:TA):TE:=S5 (fun xs H Q=>∃p ys,xs=[.ref p]/\(i7 K H p ys\/D9 K H p ys)/\Q (.int ys.length) H) ta
section
variable {X:Cx} {p pos:Pos} {e:Expr} {t:TA}
theorem bq1 (K:PySem.W.Frag)(hm:X.mg "len"=none)(ha:PA X [e] t)(hK:X.K=K:=by rfl)(hg:Gl X "len":=by rfl)
   (he:starEach [e] X.env=(false,eval e X.env)::starEach [] X.env:=by rfl):PE X (.Call (.Name "len" p) [e] [] pos) (ce7 K t):=by
 subst hK;exact p8 hm ha hg he
end
def al3:V->Int
 | .int i=>i
 |_=>0
theorem bk1 {ys:List V}{xs:List Int}(h:ys.Perm (xs.map V.int)):∃ps:List Int,ys=ps.map V.int/\ps.Perm xs:=by
 refine ⟨ys.map al3,?_,?_⟩
 · rw[cp2]
   conv=>lhs;rw[<-cu1 ys]
   refine cn6 fun y hy=> ?_
   obtain ⟨i,_,rfl⟩:=cm8.mp (h.mem_iff.mp hy);rfl
 · have:=h.map al3;rw[cp2] at this
   have e:xs.map (al3∘V.int)=xs:=by
     conv=>rhs;rw[<-cu1 xs]
     rfl
   rw[e] at this;exact this
end L2
namespace Mth
theorem al4 {fs:List Int}{u v x:Int}(hu:0<=u)(hv:0<=v)(h:u≠v):G2 (fs.set v.toNat x) u=G2 fs u:=by
 unfold G2;rw[ct6 (by omega)]
theorem av6 {fs:List Int}{v x:Int}(h:v.toNat < fs.length):G2 (fs.set v.toNat x) v=some x:=by
 unfold G2;rw[cs8 h]
theorem G4 {ts:List Int}{i:Nat}(h:i < ts.length):ts.getD i 0=ts[i]:=by
 rw[co9,ck6 h];rfl
theorem T3 {ts:List Int}(nd:ts.Nodup){i j:Nat}(hi:i < ts.length)(hj:j < ts.length)(h:i≠j):ts.getD i 0≠ts.getD j 0:=by
 rw[G4 hi,G4 hj]
 rcases Nat.lt_or_gt_of_ne h with z|z
 · exact cn0.mp (cm4.mp nd) i j hi hj z
 · exact fun e=>cn0.mp (cm4.mp nd) j i hj hi z e.symm
theorem bq2 {ts fs qs:List Int}{k L:Nat}(hL:1<=L)(hb:k+L<=ts.length)(h1:(ts.take k).map (G2 fs)=qs.map some)(hq:qs.Perm (ts.take k))
   (h2:∀j,j < L->G2 fs (ts.getD (k+j) 0)=some (ts.getD (k+(j+1)%L) 0)):∃qs':List Int,qs'.Perm (ts.take (k+L))/\(ts.take (k+L)).map (G2 fs)=qs'.map some:=by
 have hT:((ts.drop k).take L).length=L:=by rw[cl8,co5];omega
 have hTj:∀j,j < L->((ts.drop k).take L)[j]? =some (ts.getD (k+j) 0):=fun j hj=>by
   rw[cn9 hj,cu3,G4 (by omega),ck6 (by omega)]
 have e:((ts.drop k).take L).map (G2 fs)=(((ts.drop k).take L).drop 1++((ts.drop k).take L).take 1).map some:=by
   refine cp5 fun j=> ?_
   by_cases hj:j < L
   · rw[cl0,hTj j hj,cl0];show some (G2 fs (ts.getD (k+j) 0))=_;rw[h2 j hj]
     by_cases hj1:j+1 < L
     · rw[cp8 (by rw[co5,hT];omega),cu3,cw2 1 j,hTj (j+1) hj1,Nat.mod_eq_of_lt hj1];rfl
     · have hjL:j+1=L:=by omega
       rw[cp6 (by rw[co5,hT];omega),co5,hT,hjL,Nat.mod_self]
       have:j - (L - 1)=0:=by omega
       rw[this,cn9 (by omega),hTj 0 (by omega)];rfl
   · rw[cl5 (by rw[ck5,hT];omega),cl5];rw[ck5,cl2,co5,cl8 (i:=1),hT];omega
 refine ⟨qs++(((ts.drop k).take L).drop 1++((ts.drop k).take L).take 1),?_,?_⟩
 · rw[List.take_add];refine List.Perm.append hq ?_;refine cq9.trans ?_;rw[cq0]
 · rw[List.take_add,cl6,cl6,h1,e]
end Mth
namespace L2
open PySem PySem.Spec PyProof.Rows
theorem c8.kb {a:Addr}{H H1 H2:Hp}(s:c8 H H1)(k:k7 a H1 H2)(h:H a=none):c8 H H2:=fun b o e=>k b o (s b o e) (j5 e h)
def w9 (H:Hp)(as:List Addr)(rs:List (List Int)):Prop:=as.length=rs.length/\∀(j:Nat) a r,as[j]? =some a->rs[j]? =some r->H a=some (.lst (r.map V.int))
theorem X7 {a b:List Int}(h:a.map V.int=b.map V.int):a=b:=(List.map_inj_right (fun x y (h:V.int x=V.int y)=>V.int.inj h)).mp h
theorem ac9 {K:PySem.W.Frag}{H:Hp}{as bs:List Addr}{rs qs:List (List Int)}(ha:w9 H as rs)(hb:w9 H bs qs):LEq K H 1 (as.map V.ref) (bs.map V.ref) (decide (rs=qs)):=by
 by_cases hl:as.length=bs.length
 · refine .inr ⟨fun j=>decide (rs[j]? =qs[j]?),by simpa using hl,fun j x y e1 e2=> ?_,?_⟩
   · rw[cl0] at e1 e2
     cases h1:as[j]? with
     |none=>rw[h1] at e1;cases e1
     |some a=>
      cases h2:bs[j]? with
      |none=>rw[h2] at e2;cases e2
      |some b=>
       rw[h1] at e1;rw[h2] at e2;cases e1;cases e2;have j1:j < as.length:=(ck7.mp h1).1;have k1:rs[j]? =some (rs[j]'(by rw[<-ha.1];exact j1)):=ck6 _;have k2:qs[j]? =some (qs[j]'(by rw[<-hb.1,<-hl];exact j1)):=ck6 _;have q1:=ha.2 j a _ h1 k1;have q2:=hb.2 j b _ h2 k2;show N7 K H 1 _ _ (decide (rs[j]? =qs[j]?));rw[k1,k2];generalize (rs[j]'(by rw[<-ha.1];exact j1))=r at q1 ⊢;generalize (qs[j]'(by rw[<-hb.1,<-hl];exact j1))=q at q2 ⊢
       by_cases hab:a=b
       · subst hab;rw[q1] at q2;have e':r=q:=X7 (HO.lst.inj (Option.some.inj q2));rw[e',decide_eq_true rfl];exact .same a
       · rcases M3 K H 0 r q with ⟨h3,h4⟩|⟨e,h3,h4,h5⟩
         · have:=N7.lens (n:=0) hab (i7.of (K:=K) q1) (i7.of q2) h3
           rw[decide_eq_false (fun z=>by
             have z':r=q:=Option.some.inj z
             exact h3 (by rw[z']))]
           exact this
         · have:=N7.lists (n:=0) e hab (i7.of (K:=K) q1) (i7.of q2) h3 h4;rw[<-h5] at this
           have e6:decide (r=q)=decide (some r=some q):=by
             by_cases z:r=q
             · subst z;simp
             · rw[decide_eq_false z,decide_eq_false fun w=>z (Option.some.inj w)]
           rw[<-e6];exact this
   · rw[cq4,decide_eq_true_iff,ab8];constructor
     · intro h j _;subst h;simp
     · intro h
       refine cp5 fun j=> ?_
       by_cases hj:j < rs.length
       · exact of_decide_eq_true (h j (by rw[ck5,ha.1];exact hj))
       · rw[cl5 (by omega),cl5 (by rw[<-hb.1,<-hl,ha.1];omega)]
 · refine .inl ⟨by simpa using hl,?_⟩
   exact decide_eq_false fun h=>hl (by rw[ha.1,hb.1,h])
end L2
namespace Mth
theorem bq3 {p:List Int}(t:p9 p){j:Nat}(h:j < p.length):0<=p.getD j 0/\p.getD j 0 < p.length:=by
 rw[G4 h];exact ⟨t.lo _ (cr4 h),t.hi _ (cr4 h)⟩
theorem L8 (p q:List Int):(C9 p q).length=q.length:=by unfold C9;rw[ck5]
end Mth
namespace L2
open PySem PySem.Spec PyProof.Rows
def Ite (K:PySem.W.Frag)(a:Addr):It:=
 ⟨fun i H=>∃xs x,i7 K H a xs/\xs[i]? =some x,fun i H v H'=>∃x t,(∀xs,i7 K H a xs->xs[i]? =some x)/\H t=none/\v= .ref t/\H'=e8 H t (.tup [.int (i:Int),x]),fun i H=>∃xs,i7 K H a xs/\xs.length<=i⟩
theorem bk3 {P:Program}{w:World}{K:PySem.W.Frag}{elts:List Expr}{x1}{pos:Pos}(a e it:Addr)(hne:e≠it):
   bd9 P w K (.Tuple elts x1 pos) (Ite K a) [e,it] e (fun i h=>(∃old,IsEnum h e it i old)/\h.IsListIter it a i) where
 mem:=by simp
 obj:=fun i h st b hb=>by
   obtain ⟨⟨old,he⟩,⟨o,ho,c,d⟩⟩:=st
   have hb:b=e\/b=it:=by simpa using hb
   rcases hb with rfl|rfl
   · exact ⟨_,he,fun v z=>by cases z⟩
   · exact ⟨o,ho,fun v z=>by rw[d] at z;cases z⟩
 keep:=fun i h h' st k=>⟨let ⟨old,he⟩:=st.1;⟨old,k e (by simp) _ he⟩,st.2.at fun o q=>k it (by simp) o q⟩
 item:=by
   intro X hP hw hK hc i pins s σ H E I hf st hg;subst hP hw hK;obtain ⟨⟨old,he⟩,hit⟩:=st;obtain ⟨xs,x,hq,hx⟩:=hg;obtain ⟨its,rv,p,hz⟩:=I.list hq;obtain ⟨u,hu,ru⟩:=rv.get hx;obtain ⟨f0,f1,f2,f3,f4,f5⟩:=hf e (by simp);obtain ⟨g0,g1,g2,g3,g4,g5⟩:=hf it (by simp)
   refine wpAny_pyNext_enum_item he hit p.isList (x:=u) (by simpa using hu) hne fun h' he' hit' ht' hz' hk'=> ?_
   refine ⟨_,rfl,wpAny_letOwnedTupleGo_enum he' fun h2 he2 hs2=> ?_⟩;have hs2:Heap.SameBut e h' h2:=hs2;have eT:e≠s.heap.objs.size:=cm7 (Heap.lt_size he);have ht2:h2.get? s.heap.objs.size=some {cls:= .type "tuple",data:= .seq #[.int i s.toks,u]}:=hs2.extBut _ _ eT.symm ht'
   have kk:∀b o,b≠e->b≠it->s.heap.get? b=some o->h2.get? b=some o:=fun b o b1 b2 q=>hs2.extBut b o b1 (hk' b o b1 b2 q)
   have hn:H s.heap.objs.size=none:=I.hok.fresh (ck8 _)
   have nT:∀b u',H b=some u'->b≠s.heap.objs.size:=fun b u' q=>j5 q hn
   have ne:∀b u',H b=some u'->b≠e/\b≠it:=fun b u' q=>⟨fun z=>(by rw[z,f0] at q;cases q),fun z=>(by rw[z,g0] at q;cases q)⟩
   have I1:h8 X pins σ (e8 H s.heap.objs.size (.tup [.int (i:Int),x])) {s with heap:=h2,gens:=s.gens,drawn:=s.drawn,toks:=s.toks+1}:=by
     refine I.step (ch:=[e,it]) (fun b hb=> ?_) (fun b o _ _ hc q _=>kk b o (fun z=>hc (by simp [z])) (fun z=>hc (by simp [z])) q) (fun b o _ _ hc q _=>⟨o.slots,kk b o (fun z=>hc (by simp [z])) (fun z=>hc (by simp [z])) q⟩)
       (fun b o hc q n=>by rw[i8 (cm7 (Heap.lt_size q))];exact n) (fun b o hc q=>⟨o,kk b o (fun z=>hc (by simp [z])) (fun z=>hc (by simp [z])) q⟩)
       (fun b ys q=>by rw[i8 (nT b _ q)];exact q) (fun b o ys q=>by rw[i8 (nT b _ q)];exact q) (fun b ps q=>⟨#[],by rw[i8 (nT b _ q),q];simp⟩) (fun m hm=> ?_) (fun b u' q=> ?_) I.bare
     · have hb:b=e\/b=it:=by simpa using hb
       rcases hb with rfl|rfl
       · exact ⟨f3,f1,f4,f5⟩
       · exact ⟨g3,g1,g4,g5⟩
     · obtain ⟨o,es,ep,ho,r⟩:=hm;exact ⟨o,es,ep,kk _ o (Ne.symm f1) (Ne.symm g1) ho,r⟩
     · by_cases hb:b=s.heap.objs.size
       · subst hb;rw[c9] at q;cases q;exact ⟨by show 2<=sizeLine;decide,[.int i s.toks,u],.cons ⟨_,rfl⟩ (.cons ru .nil),⟨_,ht2,rfl,0,rfl⟩⟩
       · rw[i8 hb] at q
         refine (I.hok b u' q).stay (fun c v hc q'=> ?_) (fun c q'=>by rw[i8 (nT c _ q')];exact q') fun c ys q'=>by rw[i8 (nT c _ q')];exact q'
         rcases hc with z|z
         · rw[z] at q' ⊢;exact kk b v (ne b _ q).1 (ne b _ q).2 q'
         · exact kk c v (ne c _ z).1 (ne c _ z).2 q'
   refine ⟨.ref s.heap.objs.size,_,I1,rfl,⟨x,s.heap.objs.size,fun ys hy=>by rw[I.list_inj hy hq];exact hx,hn,rfl,rfl⟩,⟨⟨u,?_⟩,?_⟩,fun b hb=> ?_⟩
   · have:((i+1:Nat):Int)=(i:Int)+1:=by push_cast;rfl
     rw[this];exact he2
   · exact hit'.extBut hs2.extBut hne.symm
   · have hb:b=e\/b=it:=by simpa using hb
     rcases hb with rfl|rfl
     · rw[i8 eT];exact f0
     · obtain ⟨o,ho,_⟩:=hit;rw[i8 (cm7 (Heap.lt_size ho))];exact g0
 done:=by
   intro X hP hw hK hc i pins s σ H E I hf st hg;subst hP hw hK;obtain ⟨⟨old,he⟩,hit⟩:=st;obtain ⟨xs,hq,hx⟩:=hg;obtain ⟨its,rv,p,hz⟩:=I.list hq;obtain ⟨g0,g1,g2,g3,g4,g5⟩:=hf it (by simp);have hl:=rv.length
   exact wpAny_pyNext_enum_end (I.ok.hd hc) he hit p.isList (by simp;omega) fun h' eb=>⟨rfl,I.turned (t':=s.toks) (fun b o hb q=>eb b o hb q) g0 g1 g3 g4 g5⟩
 self:=fun _ _ _ _ _ st h=>let ⟨_,he⟩:=st.1;wpAny_pyIter_enum he h
theorem bk4:bootBuiltins "enumerate"=some (.type "enumerate"):=by decide+kernel
section
variable {X:Cx} {l:Expr} {ta:TA} {p pos:Pos} {elts:List Expr} {x1:Nat} {tpos:Pos}
def ce8 (K:PySem.W.Frag)(ta:TA):TI:=fun σ H R=>ta σ H fun vs H1=>∃a,vs=[.ref a]/\(∃xs,i7 K H1 a xs)/\R (Ite K a) H1
theorem bc1 (hm:X.mg "enumerate"=none)(ha:PA X [l] ta)(hg:Gl X "enumerate":=by rfl)(hs:starEach [l] X.env=[(false,eval l X.env)]:=by rfl):PI X (.Tuple elts x1 tpos) (.Call (.Name "enumerate" p) [l] [] pos) (ce8 X.K ta):=by
 intro pins s σ H R I h;refine Call_ (Y3 I hg hm bk4 (PyProof.Rows.callWith_type1 (o5 (ha pos pins s σ H _ I h) fun us s1 ⟨vs,H1,I1,r1,q1⟩=> ?_) hs rfl));obtain ⟨a,e,⟨xs,hq⟩,q⟩:=q1;subst e;obtain ⟨u,rfl,rx⟩:=S8 r1;cases rx;obtain ⟨its,rv,pl,hz⟩:=I1.list hq
 refine call_enumerate_list pl.isList fun h' he hit hz' hk=> ?_
 refine wpAny_pyIter_enum he ?_;have I2:h8 X pins σ H1 {s1 with heap:=h',toks:=s1.toks}:=I1.kept (t':=s1.toks) hk;refine ⟨s1.heap.objs.size+1,[s1.heap.objs.size+1,s1.heap.objs.size],_,_,H1,rfl,I2,bk3 a (s1.heap.objs.size+1) s1.heap.objs.size (Nat.succ_ne_self _),⟨⟨.none,he⟩,hit⟩,fun b hb=> ?_,q⟩
 have hb:b=s1.heap.objs.size+1\/b=s1.heap.objs.size:=by simpa using hb
 rcases hb with rfl|rfl
 · exact I1.fpOk (by omega) (I1.hok.fresh (by omega))
 · exact I1.fpOk (by omega) (I1.hok.fresh (by omega))
end
theorem av7 {K:PySem.W.Frag}{a:Addr}{xs:List V}{g:TG}{tb:TS}{D:U6}{σ:St}{H:Hp}(Pv:Nat->St->Hp->Prop)(h0:Pv 0 σ H)(hl:∀i σ H,i<=xs.length->Pv i σ H->i7 K H a xs)
   (hs:∀i x σ H t,xs[i]? =some x->Pv i σ H->H t=none->g (.ref t) σ (e8 H t (.tup [.int (i:Int),x])) fun σ2 H2=>tb {D with nx:=Pv (i+1),ct:=Pv (i+1),bk:=D.nx} σ2 H2) (hd:∀σ H,Pv xs.length σ H->D.nx σ H):
   ∃W:Nat->Nat->St->Hp->Prop,(∃m,W 0 m σ H)/\∀i m σ H,W i m σ H->
    ((Ite K a).stop i H/\D.nx σ H)\/((Ite K a).go i H/\∃N:St->Hp->Prop,(∀σ' H',N σ' H'->∃m',m' < m/\W (i+1) m' σ' H')/\∀x H',(Ite K a).yld i H x H'->g x σ H' fun σ2 H2=>tb {D with nx:=N,ct:=N,bk:=D.nx} σ2 H2):=by
 refine ⟨fun i m σ H=>m=xs.length - i/\i<=xs.length/\Pv i σ H,⟨xs.length,by simp,cn3 _,h0⟩,?_⟩;rintro i m σ H ⟨rfl,hi,p⟩;have q:=hl i σ H hi p
 by_cases hlt:i < xs.length
 · refine .inr ⟨⟨xs,xs[i],q,by simp [hlt]⟩,Pv (i+1),fun σ' H' p'=>⟨xs.length - (i+1),by omega,rfl,hlt,p'⟩,fun x H' y=> ?_⟩;obtain ⟨x',t,y1,y2,e1,e2⟩:=y;subst e1 e2;exact hs i x' σ _ t (y1 xs q) p y2
 · have e:i=xs.length:=by omega
   subst e;exact .inl ⟨⟨xs,q,ck8 _⟩,hd σ H p⟩
end L2
namespace Mth
def nx (p:List Int)(x:Int):Int:=p.getD x.toNat 0
def it (p:List Int):Nat->Int->Int
 |0,x=>x
 |i+1,x=>nx p (it p i x)
def In (p:List Int)(x:Int):Prop:=0<=x/\x < p.length
theorem al5 {p:List Int}(t:p9 p){x:Int}(h:In p x):In p (nx p x):=bq3 t (j:=x.toNat) (by have:=h.1;have:=h.2;omega)
theorem av8 {p:List Int}(t:p9 p){x y:Int}(hx:In p x)(hy:In p y)(h:nx p x=nx p y):x=y:=by
 have a1:=hx.1;have a2:=hx.2;have b1:=hy.1;have b2:=hy.2
 by_cases e:x.toNat=y.toNat
 · omega
 · exact absurd h (T3 t.nd (i:=x.toNat) (j:=y.toNat) (by omega) (by omega) e)
theorem Q7 {p:List Int}(t:p9 p){x:Int}(h:In p x):∀i,In p (it p i x)
 |0=>h
 |i+1=>al5 t (Q7 t h i)
theorem E4 (p:List Int)(x:Int):∀i j,it p (i+j) x=it p i (it p j x)
 |0,j=>by rw[ct4];rfl
 |i+1,j=>by
  rw[Nat.add_right_comm];show nx p (it p (i+j) x)=nx p (it p i (it p j x));rw[E4 p x i j]
theorem al6 {p:List Int}(t:p9 p){x y:Int}(hx:In p x)(hy:In p y):∀i,it p i x=it p i y->x=y
 |0,h=>h
 |i+1,h=>al6 t hx hy i (av8 t (Q7 t hx i) (Q7 t hy i) h)
structure G7 (p:List Int)(x:Int)(L:Nat):Prop where
 pos:0 < L
 back:it p L x=x
 least:∀i,0 < i->i < L->it p i x≠x
theorem G7.uniq {p:List Int}{x:Int}{L M:Nat}(h:G7 p x L)(g:G7 p x M):L=M:=by
 rcases cu7 L M with z|z|z
 · exact absurd h.back (g.least L h.pos z)
 · exact z
 · exact absurd g.back (h.least M g.pos z)
theorem bk5 {p:List Int}{x:Int}{L:Nat}(h:it p L x=x):∀q,it p (L*q) x=x
 |0=>by rw[Nat.mul_zero];rfl
 |q+1=>by rw[Nat.mul_succ,E4,h,bk5 h q]
theorem al7 {p:List Int}{x:Int}{L:Nat}(h:it p L x=x)(i:Nat):it p (i%L) x=it p i x:=by
 conv=>rhs;rw[<-Nat.div_add_mod i L,cw2,E4,bk5 h]
theorem bc2 {p:List Int}{x:Int}{L:Nat}(h:it p L x=x){a b:Nat}(e:a%L=b%L):it p a x=it p b x:=by
 rw[<-al7 h a,e,al7 h]
theorem G7.shift {p:List Int}(t:p9 p){x:Int}{L:Nat}(hx:In p x)(h:G7 p x L)(j:Nat):G7 p (it p j x) L:=by
 refine ⟨h.pos,?_,fun i i0 i1 e=> ?_⟩
 · rw[<-E4,cw2,E4,h.back]
 · rw[<-E4,cw2,E4] at e;exact h.least i i0 i1 (al6 t (Q7 t hx i) hx j e)
def q0 (p:List Int)(x:Int)(L:Nat):List Int:=(cp4 L).map fun i=>it p i x
theorem A7 (p:List Int)(x:Int)(L:Nat):(q0 p x L).length=L:=by unfold q0;rw[ck5,cr8]
theorem bk6 {p:List Int}{x:Int}{L j:Nat}(h:j < L):(q0 p x L)[j]? =some (it p j x):=by
 unfold q0;rw[cl0,cs2 h];rfl
theorem T4 {p:List Int}{x:Int}{L j:Nat}(h:j < L):(q0 p x L).getD j 0=it p j x:=by
 rw[co9,bk6 h];rfl
theorem G8 {p:List Int}{x y:Int}{L:Nat}:y∈q0 p x L↔∃j,j < L/\y=it p j x:=by
 unfold q0;rw[cm8];constructor
 · rintro ⟨j,hj,rfl⟩;exact ⟨j,co2.mp hj,rfl⟩
 · rintro ⟨j,hj,rfl⟩;exact ⟨j,co2.mpr hj,rfl⟩
theorem bf5 (p:List Int)(x:Int)(m:Nat):q0 p x (m+1)=q0 p x m++[it p m x]:=by
 unfold q0;rw[ct0,cl6];rfl
theorem Q8 {p:List Int}(t:p9 p){x:Int}(hx:In p x){m:Nat}(h:∀i,0 < i->i < m->it p i x≠x):(q0 p x m).Nodup:=by
 unfold q0;rw[cm4,cr1];refine List.Pairwise.imp_of_mem (fun {a b} ha hb hlt e=> ?_) List.pairwise_lt_range;have hb:=co2.mp hb
 have e2:b=a+(b - a):=by omega
 rw[e2,E4] at e;exact h (b - a) (by omega) (by omega) (al6 t (Q7 t hx _) hx a e.symm)
theorem bk7:∀(n:Nat) (l:List Nat),l.Nodup->(∀x∈l,x < n)->l.length<=n:=by
 intro n
 induction n with
 |zero=>
  intro l _ hb
  cases l with
  |nil=>exact ck8 _
  |cons a r=>exact absurd (hb a cl4) (Nat.not_lt_zero _)
 |succ n ih=>
  intro l nd hb
  by_cases hn:n∈l
  · obtain ⟨s,u,rfl⟩:=List.append_of_mem hn;have pm:(s++n::u).Perm (n::(s++u)):=List.perm_middle;obtain ⟨h1,h2⟩:=cq5.mp (pm.nodup_iff.mp nd)
    have:=ih (s++u) h2 fun x hx=>by
      have hx':=hb x (pm.mem_iff.mpr (cl1 _ hx))
      have:x≠n:=fun e=>h1 (e▸hx)
      omega
    rw[pm.length_eq,cm9];omega
  · exact Nat.le_succ_of_le (ih l nd fun x hx=>by
      have h1:=hb x hx
      have:x≠n:=fun e=>hn (e▸hx)
      omega)
theorem ad0 {p:List Int}{r:List Int}(nd:r.Nodup)(h:∀x∈r,In p x):r.length<=p.length:=by
 have:=bk7 p.length (r.map cv8) (by
   rw[cm4,cr1];refine List.Pairwise.imp_of_mem (fun {a b} ha hb hne z=>hne ?_) (cm4.mp nd);have h1:=(h a ha).1;have h2:=(h b hb).1
   omega) fun x hx=>by
     obtain ⟨y,hy,rfl⟩:=cm8.mp hx;have h1:=(h y hy).1;have h2:=(h y hy).2;omega
 rw[ck5] at this;exact this
theorem V6 {p:List Int}(t:p9 p){x:Int}(hx:In p x){L:Nat}:∀y∈q0 p x L,In p y:=fun y hy=>by
 obtain ⟨j,_,rfl⟩:=G8.mp hy;exact Q7 t hx j
theorem N9 {p:List Int}(t:p9 p){x:Int}(hx:In p x){m:Nat}(h:∀i,0 < i->i < m->it p i x≠x):m<=p.length:=by
 have:=ad0 (Q8 t hx h) (V6 t hx);rw[A7] at this;exact this
theorem az8 {p:List Int}{x y:Int}{L:Nat}(h:G7 p x L)(hy:y∈q0 p x L)(i:Nat):it p i y∈q0 p x L:=by
 obtain ⟨j,hj,rfl⟩:=G8.mp hy;refine G8.mpr ⟨(i+j)%L,Nat.mod_lt _ h.pos,?_⟩;rw[al7 h.back,E4]
theorem bk8 {p:List Int}{x y z:Int}{L M:Nat}(h:G7 p x L)(g:G7 p y M)(h1:z∈q0 p x L)(h2:z∈q0 p y M):y∈q0 p x L:=by
 obtain ⟨j,hj,rfl⟩:=G8.mp h2;have:=az8 h h1 (M - j);rw[<-E4,show M - j+j=M by omega,g.back] at this;exact this
open Classical in
noncomputable def J8 (p:List Int)(x:Int):Nat:=if h:∃L,G7 p x L then Classical.choose h else 0
theorem Q0 {p:List Int}{x:Int}{L:Nat}(h:G7 p x L):J8 p x=L:=by
 have hx:∃L,G7 p x L:=⟨L,h⟩;unfold J8;rw[dif_pos hx];exact (Classical.choose_spec hx).uniq h
noncomputable def B0 (p:List Int):Nat->List (List Int)
 |0=>[]
 |i+1=>if (i:Int)∈(B0 p i).flatten then B0 p i else B0 p i++[q0 p i (J8 p i)]
structure C7 (p:List Int)(i:Nat)(rs:List (List Int)):Prop where
 ring:∀r∈rs,∃x L,In p x/\G7 p x L/\r=q0 p x L/\(∀y∈r,x<=y)/\x < i
 nd:rs.flatten.Nodup
 all:∀u:Int,0<=u->u < i->u∈rs.flatten
 ord:rs.Pairwise fun r s=>r.getD 0 0 < s.getD 0 0
 eq:rs=B0 p i
theorem al8 (p:List Int):C7 p 0 []:=⟨fun r hr=>by simp at hr,cu5,fun u h1 h2=>by omega,List.Pairwise.nil,rfl⟩
theorem al9 {p:List Int}{i:Nat}{rs:List (List Int)}(h:C7 p i rs)(hi:(i:Int)∈rs.flatten):C7 p (i+1) rs:=by
 refine ⟨fun r hr=> ?_,h.nd,fun u h1 h2=> ?_,h.ord,?_⟩
 · obtain ⟨x,L,a,b,c,d,e⟩:=h.ring r hr;exact ⟨x,L,a,b,c,d,by omega⟩
 · by_cases e:u=i
   · subst e;exact hi
   · exact h.all u h1 (by omega)
 · show rs=if (i:Int)∈(B0 p i).flatten then B0 p i else B0 p i++[q0 p i (J8 p i)]
   rw[<-h.eq,if_pos hi]
theorem ah4 {p:List Int}{i:Nat}{rs:List (List Int)}(h:C7 p i rs){L:Nat}(hL:G7 p i L)(hi:(i:Int)∉rs.flatten):∀y∈q0 p i L,y∉rs.flatten:=by
 intro y hy hm;obtain ⟨r,hr,hyr⟩:=ct9.mp hm;obtain ⟨x,M,a,b,rfl,d,e⟩:=h.ring r hr;exact hi (ct9.mpr ⟨_,hr,bk8 b hL hyr hy⟩)
theorem am0 {p:List Int}(t:p9 p){i:Nat}{rs:List (List Int)}(h:C7 p i rs)(hx:In p i){L:Nat}(hL:G7 p i L)(hi:(i:Int)∉rs.flatten):C7 p (i+1) (rs++[q0 p i L]):=by
 have fr:=ah4 h hL hi;refine ⟨fun r hr=> ?_,?_,fun u h1 h2=> ?_,?_,?_⟩
 · rcases cm1.mp hr with z|z
   · obtain ⟨x,L,a,b,c,d,e⟩:=h.ring r z;exact ⟨x,L,a,b,c,d,by omega⟩
   · have:r=q0 p i L:=by simpa using z
     subst this;refine ⟨i,L,hx,hL,rfl,fun y hy=> ?_,by omega⟩;have y0:=(V6 t hx y hy).1
     by_cases hlt:y < i
     · exact absurd (h.all y y0 hlt) (fr y hy)
     · omega
 · rw[cs3,ct1];refine List.nodup_append.mpr ⟨h.nd,Q8 t hx fun j j0 j1=>hL.least j j0 j1,fun a ha b hb e=> ?_⟩;subst e;exact fr a hb ha
 · rw[cs3,ct1]
   by_cases e:u=i
   · subst e;exact cm0 _ (G8.mpr ⟨0,hL.pos,rfl⟩)
   · exact cs1 _ (h.all u h1 (by omega))
 · refine List.pairwise_append.mpr ⟨h.ord,cs7 _ _,fun r hr s hs=> ?_⟩
   have:s=q0 p i L:=by simpa using hs
   subst this;obtain ⟨x,M,a,b,rfl,d,e⟩:=h.ring r hr;rw[T4 b.pos,T4 hL.pos];exact e
 · show rs++[q0 p i L]=if (i:Int)∈(B0 p i).flatten then B0 p i else B0 p i++[q0 p i (J8 p i)]
   rw[<-h.eq,if_neg hi,Q0 hL]
def B7 (p:List Int)(k:Int)(t:List Int):Prop:=t.length=p.length/\∀x,In p x->∃L,G7 p x L/\G2 t x=some (it p (k%(L:Int)).toNat x)
theorem bf6 {p:List Int}{x:Int}{L:Nat}(h:G7 p x L)(k:Int)(j:Nat):it p (((j:Int)+k)%(L:Int)).toNat x=it p (k%(L:Int)).toNat (it p j x):=by
 rw[<-E4];refine bc2 h.back ?_
 have hL:(0:Int) < (L:Int):=by have:=h.pos;omega
 have a1:=cn1 ((j:Int)+k) (show (L:Int)≠0 by omega);have b1:=cn1 k (show (L:Int)≠0 by omega)
 have:(((((j:Int)+k)%(L:Int)).toNat%L:Nat):Int)=((((k%(L:Int)).toNat+j)%L:Nat):Int):=by
   rw[cs4,cs4,cr2 a1,Int.natCast_add,cr2 b1,Int.emod_emod,Int.emod_add_emod,Int.add_comm]
 exact Int.ofNat.inj this
end Mth
namespace Mth
theorem bk9 {p:List Int}{x:Int}(h:In p x):G2 p x=some (nx p x):=by
 have a1:=h.1;have a2:=h.2;unfold G2 nx;rw[co9,ck6 (by omega)];rfl
end Mth
namespace L2
open PySem PySem.Spec PyProof.Rows
def ce9 (i j:Int):Prop:=0 < j/\j<=1000000000000000000000000000000
theorem av9 {X:Cx}:E3 X (binaryOp .FloorDiv) (rI ce9 fun i j=> .int (i/j)):=opI fun i j _ _ _ _ _ hc q=>by
 have hp:Builtin.divisionGoesByPylong i j=false:=by
   refine PyProof.noPylong_of_log2 ?_;obtain ⟨h1,h2⟩:=hc;have:j.natAbs < 2^9000:=cp0 (show j.natAbs<=1000000000000000000000000000000 by omega) (by decide+kernel);exact (Nat.log2_lt (by omega)).mpr this
 refine floordiv_int (by have:=hc.1;omega) ?_ (.inl hp);rw[cw6 i (by have:=hc.1;omega)];exact q
end L2
namespace Mth
theorem B7.uniq {p:List Int}{k:Int}{s t:List Int}(h:B7 p k s)(g:B7 p k t):s=t:=by
 refine cp5 fun u=> ?_
 by_cases hu:u < p.length
 · have hx:In p (u:Int):=⟨by omega,by omega⟩;obtain ⟨L,h1,h2⟩:=h.2 u hx;obtain ⟨M,g1,g2⟩:=g.2 u hx;have e:=h1.uniq g1;subst e;unfold G2 at h2 g2;rw[cr7] at h2 g2;rw[h2,g2]
 · rw[cl5 (by rw[h.1];omega),cl5 (by rw[g.1];omega)]
end Mth
namespace Mth
theorem ad1 {p:List Int}(t:p9 p){x:Int}(hx:In p x):∃L,G7 p x L:=by
 have h0:∃i,0 < i/\i<=p.length/\it p i x=x:=Classical.byContradiction fun hn=>by
   have:=N9 t hx (m:=p.length+1) fun i i0 i1 e=>hn ⟨i,i0,by omega,e⟩
   omega
 have key:∀n,(∃i,0 < i/\i<=n/\it p i x=x)->∃L,G7 p x L:=by
   intro n
   induction n with
   |zero=>rintro ⟨i,i0,i1,_⟩;omega
   |succ n ih=>
    rintro ⟨i,i0,i1,e⟩
    by_cases h:∃j,0 < j/\j<=n/\it p j x=x
    · exact ih h
    · refine ⟨i,i0,e,fun j j0 j1 ej=>h ⟨j,j0,by omega,ej⟩⟩
 exact key _ h0
theorem bu7 {p:List Int}{x:Int}{L:Nat}(h:G7 p x L){i:Nat}(e:it p i x=x):L∣i:=by
 rw[<-al7 h.back] at e;refine Nat.dvd_of_mod_eq_zero (Classical.byContradiction fun hn=> ?_);exact h.least (i%L) (by omega) (Nat.mod_lt _ h.pos) e
theorem aw0 {p:List Int}{x:Int}{L:Nat}(h:G7 p x L){a b:Nat}(e:((a:Int) - (b:Int))%(L:Int)=0):it p a x=it p b x:=by
 refine bc2 h.back ?_
 have:((a%L:Nat):Int)=((b%L:Nat):Int):=by
   rw[cs4,cs4]
   exact ct7 _ (cw3 _)|>.symm.trans (by
     rw[Int.emod_emod]
     exact (cn7).mpr e)
 exact Int.ofNat.inj this
theorem ar3 {t:List Int}(h1:∀x:Int,0<=x->x < t.length->0<=nx t x/\nx t x < t.length)(h2:∀x y:Int,0<=x->x < t.length->0<=y->y < t.length->nx t x=nx t y->x=y):p9 t:=by
 have g:∀i (hi:i < t.length),nx t (i:Int)=t[i]:=fun i hi=>by unfold nx;rw[cr7,G4 hi]
 refine ⟨?_,fun x hx=> ?_,fun x hx=> ?_⟩
 · rw[cm4,cn0];intro i j hi hj hlt e;have:=h2 i j (by omega) (by omega) (by omega) (by omega) (by rw[g i hi,g j hj];exact e);omega
 · obtain ⟨i,hi,rfl⟩:=List.mem_iff_getElem.mp hx;rw[<-g i hi];exact (h1 i (by omega) (by omega)).1
 · obtain ⟨i,hi,rfl⟩:=List.mem_iff_getElem.mp hx;rw[<-g i hi];exact (h1 i (by omega) (by omega)).2
theorem af7 {p q:List Int}{x:Int}(h:In q x):nx (C9 p q) x=nx p (nx q x):=by
 have a1:=h.1;have a2:=h.2;unfold nx C9;rw[co9,cl0,ck6 (by omega),co9 (l:=q),ck6 (by omega)];rfl
theorem aw1 {p q:List Int}(tp:p9 p)(tq:p9 q)(hl:p.length=q.length):p9 (C9 p q):=by
 have cl:=L8 p q;refine ar3 (fun x x0 x1=> ?_) (fun x y x0 x1 y0 y1 e=> ?_)
 · rw[cl] at x1 ⊢;have hx:In q x:=⟨x0,x1⟩;rw[af7 hx];have h1:=al5 tq hx;have h2:=al5 tp (x:=nx q x) ⟨h1.1,by rw[hl];exact h1.2⟩;exact ⟨h2.1,by rw[<-hl];exact h2.2⟩
 · rw[cl] at x1 y1;have hx:In q x:=⟨x0,x1⟩;have hy:In q y:=⟨y0,y1⟩;rw[af7 hx,af7 hy] at e;have h1:=al5 tq hx;have h2:=al5 tq hy;exact av8 tq hx hy (av8 tp ⟨h1.1,by rw[hl];exact h1.2⟩ ⟨h2.1,by rw[hl];exact h2.2⟩ e)
theorem ad2 {p t:List Int}{k:Int}(h:B7 p k t){x:Int}(hx:In p x):∃L,G7 p x L/\∀m:Nat,((m:Int) - k)%(L:Int)=0->nx t x=it p m x:=by
 obtain ⟨L,hL,e⟩:=h.2 x hx;refine ⟨L,hL,fun m hm=> ?_⟩
 have e1:nx t x=it p (k%(L:Int)).toNat x:=by
   have hx':In t x:=⟨hx.1,by rw[h.1];exact hx.2⟩;rw[bk9 hx'] at e;exact Option.some.inj e
 rw[e1];refine aw0 hL ?_;have b0:=cn1 k (show (L:Int)≠0 by have:=hL.pos;omega);rw[cr2 b0]
 have:k%(L:Int) - (m:Int)= -(((m:Int) - k)+(k - k%(L:Int))):=by omega
 rw[this];have d1:(L:Int)∣((m:Int) - k):=cn5 hm;have d2:(L:Int)∣(k - k%(L:Int)):=cv5;exact cq2 (Int.dvd_neg.mpr (Int.dvd_add d1 d2))
theorem am1 {p t:List Int}{k:Int}(tp:p9 p)(hl:t.length=p.length)(h:∀x,In p x->∀L,G7 p x L->∃m:Nat,((m:Int) - k)%(L:Int)=0/\nx t x=it p m x):B7 p k t:=by
 refine ⟨hl,fun x hx=> ?_⟩;obtain ⟨L,hL⟩:=ad1 tp hx;obtain ⟨m,hm,e⟩:=h x hx L hL;refine ⟨L,hL,?_⟩;rw[bk9 (p:=t) ⟨hx.1,by rw[hl];exact hx.2⟩,e]
 congr 1
 refine aw0 hL ?_;have b0:=cn1 k (show (L:Int)≠0 by have:=hL.pos;omega);rw[cr2 b0]
 have:(m:Int) - k%(L:Int)=((m:Int) - k)+(k - k%(L:Int)):=by omega
 rw[this];exact cq2 (Int.dvd_add (cn5 hm) cv5)
theorem K2 (k:Int)(L:Nat)(h:0 < L):(((k%(L:Int)).toNat:Int) - k)%(L:Int)=0:=by
 have b0:=cn1 k (show (L:Int)≠0 by omega);rw[cr2 b0]
 have:k%(L:Int) - k= -(k - k%(L:Int)):=by omega
 rw[this];exact cq2 (Int.dvd_neg.mpr cv5)
theorem af8 {p t:List Int}{k:Int}(tp:p9 p)(h:B7 p k t):p9 t:=by
 have tx:∀x,In p x->∃L,G7 p x L/\nx t x=it p (k%(L:Int)).toNat x:=fun x hx=>by
   obtain ⟨L,hL,e⟩:=ad2 h hx;exact ⟨L,hL,e _ (K2 k L hL.pos)⟩
 refine ar3 (fun x x0 x1=> ?_) (fun x y x0 x1 y0 y1 e=> ?_)
 · rw[h.1] at x1 ⊢;obtain ⟨L,hL,e⟩:=tx x ⟨x0,x1⟩;rw[e];exact Q7 tp ⟨x0,x1⟩ _
 · rw[h.1] at x1 y1;obtain ⟨L,hL,e1⟩:=tx x ⟨x0,x1⟩;obtain ⟨M,hM,e2⟩:=tx y ⟨y0,y1⟩;rw[e1,e2] at e;have pL:=hL.shift tp ⟨x0,x1⟩ (k%(L:Int)).toNat;have pM:=hM.shift tp ⟨y0,y1⟩ (k%(M:Int)).toNat;rw[e] at pL;have:=pL.uniq pM;subst this;exact al6 tp ⟨x0,x1⟩ ⟨y0,y1⟩ _ e
theorem bq4 {p s t:List Int}{a b:Int}(tp:p9 p)(hs:B7 p a s)(ht:B7 p b t):B7 p (a+b) (C9 s t):=by
 refine am1 tp (by rw[L8,ht.1]) fun x hx L hL=> ?_
 have hpos:=hL.pos;obtain ⟨L1,p1,e1⟩:=ad2 ht hx;have:=p1.uniq hL;subst this;have e1:=e1 _ (K2 b L1 hpos);have hy:=Q7 tp hx (b%(L1:Int)).toNat;obtain ⟨L2,p2,e2⟩:=ad2 hs hy;have:=p2.uniq (hL.shift tp hx _);subst this;have e2:=e2 _ (K2 a L2 hpos);refine ⟨(a%(L2:Int)).toNat+(b%(L2:Int)).toNat,?_,?_⟩
 · have h1:=cn5 (K2 a L2 hpos);have h2:=cn5 (K2 b L2 hpos);refine cq2 ?_
   have:(((a%(L2:Int)).toNat+(b%(L2:Int)).toNat:Nat):Int) - (a+b)=(((a%(L2:Int)).toNat:Int) - a)+(((b%(L2:Int)).toNat:Int) - b):=by omega
   rw[this];exact Int.dvd_add h1 h2
 · rw[af7 ⟨hx.1,by rw[ht.1];exact hx.2⟩,e1,e2,E4]
theorem bu8 {p s u:List Int}{a b:Int}(tp:p9 p)(hs:B7 p a s)(hu:B7 s b u):B7 p (a*b) u:=by
 have ts:=af8 tp hs
 refine am1 tp (by rw[hu.1,hs.1]) fun x hx L hL=> ?_
 have hpos:=hL.pos;have hxs:In s x:=⟨hx.1,by rw[hs.1];exact hx.2⟩
 have step:∀j:Nat,it s j x=it p ((a%(L:Int)).toNat*j) x:=by
   intro j
   induction j with
   |zero=>rfl
   |succ j ih=>
    show nx s (it s j x)=_;have hy:=Q7 tp hx ((a%(L:Int)).toNat*j);obtain ⟨L1,p1,e1⟩:=ad2 hs hy;have:=p1.uniq (hL.shift tp hx _);subst this;rw[ih,e1 _ (K2 a L1 hpos),<-E4,Nat.mul_succ,cw2]
 obtain ⟨M,pM,eM⟩:=ad2 hu hxs;have hback:=pM.back;rw[step] at hback;have dL:L∣(a%(L:Int)).toNat*M:=bu7 hL hback;refine ⟨(a%(L:Int)).toNat*(b%(M:Int)).toNat,?_,?_⟩
 · refine cq2 ?_;have h1:=cn5 (K2 a L hpos);have hM:=pM.pos;have b0:=cn1 b (show (M:Int)≠0 by omega);have hb:b=(M:Int)*(b/(M:Int))+b%(M:Int):=(Int.mul_ediv_add_emod b (M:Int)).symm;generalize (a%(L:Int)).toNat=A at h1 dL;have eb:(((b%(M:Int)).toNat:Nat):Int)=b%(M:Int):=cr2 b0;rw[cx9,eb]
   have dL':(L:Int)∣(A:Int)*(M:Int):=by
     have:=co8.mpr dL;rw[cx9] at this;exact this
   have e1:(A:Int)*(b%(M:Int)) - a*b=((A:Int) - a)*b - (A:Int)*(M:Int)*(b/(M:Int)):=by
     have:(A:Int)*b=(A:Int)*(M:Int)*(b/(M:Int))+(A:Int)*(b%(M:Int)):=by
       conv=>lhs;rw[hb]
       rw[Int.mul_add,cx0]
     rw[Int.sub_mul,this];omega
   rw[e1];exact Int.dvd_sub (Int.dvd_mul_of_dvd_left h1) (Int.dvd_mul_of_dvd_left dL')
 · rw[eM _ (K2 b M pM.pos),step]
theorem bu9 {p:List Int}(tp:p9 p):B7 p 1 p:=am1 tp rfl fun x hx L hL=>⟨1,by simp,rfl⟩
theorem bv0 {n:Nat}{x:Int}(h0:0<=x)(h1:x < n):nx (L2.r6 0 n) x=x:=by
 unfold nx L2.r6;rw[co9,cl0,cs2 (by omega)];show (0:Int)+((x.toNat:Nat):Int)=x;omega
theorem bq5 {p:List Int}(tp:p9 p):B7 p 0 (L2.r6 0 p.length):=am1 tp (J5 0 _) fun x hx L hL=>⟨0,by simp,by rw[bv0 hx.1 hx.2];rfl⟩
end Mth
namespace L2
open PySem PySem.Spec PyProof.Rows
def J9 (H:Hp)(e:Addr):List Int:=match H e with
 |some (.lst xs)=>xs.map al3
 |_=>[]
theorem V7 {H:Hp}{e:Addr}{r:List Int}(h:H e=some (.lst (r.map V.int))):J9 H e=r:=by
 unfold J9;rw[h];show (r.map V.int).map al3=r;rw[cp2]
 conv=>rhs;rw[<-cu1 r]
 rfl
theorem bf7 {H:Hp}{as:List Addr}{rs:List (List Int)}(h:w9 H as rs):as.map (J9 H)=rs:=by
 refine cp5 fun j=> ?_
 rw[cl0]
 by_cases hj:j < as.length
 · have e1:as[j]? =some as[j]:=ck6 hj;have e2:rs[j]? =some (rs[j]'(by rw[<-h.1];exact hj)):=ck6 _;rw[e1,e2];show some (J9 H as[j])=_;rw[V7 (h.2 j _ _ e1 e2)]
 · rw[cl5 (by omega),cl5 (by rw[<-h.1];omega)];rfl
end L2
namespace L2
open PySem PySem.Spec PyProof.Rows
theorem ad3:bootBuiltins "sorted"=some (.builtin "sorted"):=by decide+kernel
section
variable {X:Cx}
theorem az9 {pins:List (Addr×Obj)}{σ:St}{H:Hp}{s:Shared}(I:h8 X pins σ H s){vs:List Value}{out:Array Value}{ms:List Int}(h:IntsAre out.toList ms)(hl:ms.length<=sizeLine):
   h8 X pins σ (e8 H (s.heap.objs.size+1) (.lst (ms.map V.int))) {s with heap:=sortedAll s.heap vs out,toks:=s.toks}:=by
 obtain ⟨e,he⟩:=sortedAll_at s.heap vs out;refine I.laid (t':=s.toks) (fun _ _ q=>sortedAll_old q) (cv0 _) (show t5 X.prog X.w _ _ _ (.lst (ms.map V.int)) from ⟨by rw[ck5];exact hl,out.toList,e,ac6 h,he⟩)
variable {e:Expr} {t:TA} {p pos kpos:Pos}
theorem aw2 {j:Nat}{kp:Pos}(hm:X.mg "sorted"=none)(ha:PA X [e] t)(hg:Gl X "sorted":=by rfl)
   (he:backTo pos (starEach [e] X.env)=(false,eval e X.env)::backTo pos (starEach [] X.env):=by rfl) (hplain:(backTo pos (starEach [e] X.env)).any (·.1)=false:=by rfl):
   PE X (.Call (.Name "sorted" p) [e] [⟨some "reverse",.Constant (.bool true) j kp,kpos⟩] pos) (S5 (fun xs H Q=>∃(p:Addr) (ns:List Int),xs=[.ref p]/\i7 X.K H p (ns.map V.int)/\ns.length < 64/\∀(ms:List Int) l,ms.Perm ns->ms.Pairwise (· ≥ ·)->H l=none->Q (.ref l) (e8 H l (.lst (ms.map V.int)))) t):=by
 intro pins s σ H Q I h;refine wpAny_Call_Name_kw (Y3 I hg hm ad3 ?_ (by decide) (by decide));refine callWith_kw (o5 (ha pos pins s σ H _ I h) fun us s1 ⟨vs,H1,I1,r1,q1⟩=> ?_) he hplain;obtain ⟨a,ns,rfl,hp,h64,q⟩:=q1;obtain ⟨u,rfl,rx⟩:=S8 r1;cases rx;have hk:PK X [⟨some "reverse",.Constant (.bool true) j kp,kpos⟩] (ak1 (tC (.bl true)) au6):=bt9 t6 ca1
 refine o5 (hk pos pins s1 σ H1 (fun zs H2=>zs=[.bl true]/\H2=H1) I1 ⟨rfl,rfl⟩) fun ws s2 ⟨zs,H2,I2,rz,ez,eH⟩=> ?_
 subst ez eH;obtain ⟨u2,rfl,rx2⟩:=S8 rz;cases (show u2=Value.bool true from rx2);obtain ⟨its,rv,pl,_⟩:=I2.list hp;have ia:=ak3 rv;have il:=ia.length
 refine sorted_ints_rev (b:=true) pl.isList ia (by omega) fun out ms a1 a2 a3=> ?_
 have hl:ms.length<=sizeLine:=by rw[a2.length_eq];exact cn8 (q9 (by omega))
 exact ⟨.ref (s2.heap.objs.size+1),_,az9 I2 a1 hl,rfl,q ms _ a2 a3 (I2.hok.fresh (cv0 _))⟩
end
end L2
namespace Mth
structure K0 (ls:List Nat)(h:Nat):Prop where
 pos:0 < h
 up:∀l∈ls,l∣h
 least:∀m,(∀l∈ls,l∣m)->h∣m
theorem K0.perm {ls ms:List Nat}{a:Nat}(x:K0 ls a)(h:ms.Perm ls):K0 ms a:=⟨x.pos,fun l hl=>x.up l (h.mem_iff.mp hl),fun m hm=>x.least m fun l hl=>hm l (h.mem_iff.mpr hl)⟩
theorem K0.nil:K0 [] 1:=⟨by decide,fun l hl=>by simp at hl,fun m _=>Nat.one_dvd m⟩
theorem K0.snoc {ls:List Nat}{h l:Nat}(x:K0 ls h)(hl:0 < l):K0 (ls++[l]) (Nat.lcm h l):=by
 refine ⟨Nat.lcm_pos x.pos hl,fun m hm=> ?_,fun m hm=> ?_⟩
 · rcases cm1.mp hm with z|z
   · exact Nat.dvd_trans (x.up m z) (Nat.dvd_lcm_left h l)
   · have:m=l:=by simpa using z
     rw[this];exact Nat.dvd_lcm_right h l
 · exact Nat.lcm_dvd (x.least m fun k hk=>hm k (cs1 _ hk)) (hm l (cm0 _ (by simp)))
theorem bv1 (a b:Nat):a/cx1 a b*b=Nat.lcm a b:=by
 unfold Nat.lcm;rw[Nat.div_mul_right_comm (Nat.gcd_dvd_left a b)]
end Mth
namespace L2
open PySem PySem.Spec PyProof.Rows
section
variable {X:Cx}
theorem bl0:bootBuiltins "int"=some (.type "int"):=by decide+kernel
theorem bl1:K8 X (.type "int") (fun xs H Q=>∃b,xs=[.bl b]/\Q (.int (if b then 1 else 0)) H):=by
 intro pins s σ H xs us Q I r h;obtain ⟨b,rfl,q⟩:=h;obtain ⟨u,rfl,rx⟩:=S8 r;cases rx;exact call_int_bool ⟨.int _,H,I.tok _,⟨_,rfl⟩,q⟩
theorem bc3 {e:Expr}{t:TA}{p pos:Pos}(hm:X.mg "int"=none)(ha:PA X [e] t)(hg:Gl X "int":=by rfl)(he:starEach [e] X.env=(false,eval e X.env)::starEach [] X.env:=by rfl):
   PE X (.Call (.Name "int" p) [e] [] pos) (S5 (fun xs H Q=>∃b,xs=[.bl b]/\Q (.int (if b then 1 else 0)) H) t):=
 M6 bl1 hg hm bl0 ha (by decide) (by decide) he rfl
end
theorem bv2 (xs:List V)(k j:Nat)(h:k<=xs.length):V0 xs (some (k:Int)) (some (j:Int))=(xs.drop k).take (min j xs.length - k):=by
 unfold V0;rw[HT.cj2,HT.cj2,cy0 h]
end L2
namespace Mth
theorem bc4 {p:List Int}(t:p9 p){rs:List (List Int)}(up:C7 p p.length rs):∀r∈rs,∀x∈r,J8 p x=r.length:=by
 intro r hr x hx;obtain ⟨y,L,hy,pr,er,_⟩:=up.ring r hr;subst er;obtain ⟨j,hj,rfl⟩:=G8.mp hx;rw[A7];exact Q0 (pr.shift t hy j)
end Mth
namespace L2
open PySem PySem.Spec PyProof.Rows
section
variable {X:Cx}
def TEq (K:PySem.W.Frag)(H:Hp)(n:Nat)(xs ys:List V)(r:Bool):Prop:=
 ∃e:Nat->Bool,(∀(j:Nat) x y,xs[j]? =some x->ys[j]? =some y->N7 K H n x y (e j))/\r=((cp4 (min xs.length ys.length)).all e&&xs.length==ys.length)
theorem bl2 {pins:List (Addr×Obj)}{σ:St}{H:Hp}{s:Shared}(I:h8 X pins σ H s){A:Around}{n:Nat}{xs ys:List V}{its its2:List Value}{e:Nat->Bool}(hu:A.units+n+1 < cLine)(r1:m7 xs its)(r2:m7 ys its2)
   (he:∀(j:Nat) x y,xs[j]? =some x->ys[j]? =some y->N7 X.K H n x y (e j)):∀j (h1:j < its.toArray.size) (h2:j < its2.toArray.size),SeqAt.EqAt A.in1 s its.toArray[j] its2.toArray[j] (e j):=fun j h1 h2=>by
 have l1:=r1.length;have l2:=r2.length
 have h1':j < its.length:=by simpa using h1
 have h2':j < its2.length:=by simpa using h2
 have e1:xs[j]? =some (xs[j]'(by omega)):=ck6 _;have e2:ys[j]? =some (ys[j]'(by omega)):=ck6 _;obtain ⟨u1,z1,q1⟩:=r1.get e1;obtain ⟨u2,z2,q2⟩:=r2.get e2
 have w1:its.toArray[j]=u1:=by
   rw[ck6 h1'] at z1
   simpa using z1
 have w2:its2.toArray[j]=u2:=by
   rw[ck6 h2'] at z2
   simpa using z2
 rw[w1,w2]
 exact al0 I (he j _ _ e1 e2) (by show A.in1.units+n < cLine;have:A.in1.units=A.units+1:=by first|rfl|simp [Around.in1]
                                  omega) q1 q2
theorem cb0 {pins:List (Addr×Obj)}{σ:St}{H:Hp}{s:Shared}(I:h8 X pins σ H s){A:Around}{n:Nat}{a b:Addr}{xs ys:List V}{r:Bool}(hu:A.units+n+1 < cLine)(ha:D9 X.K H a xs)(hb:D9 X.K H b ys)(d:TEq X.K H n xs ys r):
   SeqAt.RcAt A s (.ref a) (.ref b) r:=by
 obtain ⟨its,r1,p1,_⟩:=I.tuple ha;obtain ⟨its2,r2,p2,_⟩:=I.tuple hb;obtain ⟨e,he,rfl⟩:=d;have q:=SeqAt.RcAt.tuples (A:=A) (e:=e) (show s.heap.IsTuple a its.toArray from p1) (show s.heap.IsTuple b its2.toArray from p2) (by omega) (bl2 I hu r1 r2 he);rw[ck9,ck9,<-r1.length,<-r2.length] at q;exact q
def ci6 (K:PySem.W.Frag)(n:Nat)(neg:Bool):R2:=fun x y H Q=>∃a b xs ys r,x= .ref a/\y= .ref b/\D9 K H a xs/\D9 K H b ys/\TEq K H n xs ys r/\Q (.bl (if neg then !r else r)) H
theorem cb1 (n:Nat)(hu:X.A.units+n+1 < cLine):E3 X (compareOp .Eq) (ci6 X.K n false):=by
 intro pins s σ H x y v u Q I rx ry h;obtain ⟨a,b,xs,ys,r,rfl,rfl,ha,hb,d,q⟩:=h;cases rx;cases ry;exact cb0 I hu ha hb d _ _ _ _ ⟨.bl r,H,I,rfl,q⟩
end
end L2
namespace Mth
theorem aw3 {p:List Int}(t:p9 p):∀i,i<=p.length->C7 p i (B0 p i)
 |0,_=>al8 p
 |i+1,h=>by
  have ih:=aw3 t i (by omega);show C7 p (i+1) (if (i:Int)∈(B0 p i).flatten then B0 p i else B0 p i++[q0 p i (J8 p i)]);have hx:In p (i:Int):=⟨by omega,by omega⟩
  by_cases hi:(i:Int)∈(B0 p i).flatten
  · rw[if_pos hi];exact al9 ih hi
  · rw[if_neg hi];obtain ⟨L,hL⟩:=ad1 t hx;rw[Q0 hL];exact am0 t ih hx hL hi
theorem V8 {p:List Int}(t:p9 p):C7 p p.length (B0 p p.length):=aw3 t _ (ck8 _)
end Mth
namespace Mth
theorem bv3 {p:List Int}(t:p9 p){x:Int}(hx:In p x):∃r∈B0 p p.length,x∈r:=by
 have:=(V8 t).all x hx.1 hx.2;obtain ⟨r,hr,h⟩:=ct9.mp this;exact ⟨r,hr,h⟩
end Mth
namespace Mth
theorem bv4 {n c:Int}(hn:1<=n)(hc:0<=c):∃mx,(if (if c < n then c else n) > 1 then (if c < n then c else n) else (1:Int))=mx/\1<=mx/\mx<=n:=by
 refine ⟨_,rfl,?_⟩
 split<;>split at* <;>omega
structure A6 (p:List Int)(h:Nat):Prop where
 pos:0 < h
 up:∀x,In p x->J8 p x∣h
 least:∀g,(∀x,In p x->J8 p x∣g)->h∣g
theorem A6.uniq {p:List Int}{a b:Nat}(x:A6 p a)(y:A6 p b):a=b:=Nat.dvd_antisymm (x.least b y.up) (y.least a x.up)
theorem ar4 {p:List Int}(t:p9 p){ls:List Nat}{h:Nat}(e:ls=(B0 p p.length).map cu8)(x:K0 ls h):A6 p h:=by
 subst e;refine ⟨x.pos,fun y hy=> ?_,fun g hg=>x.least g fun l hl=> ?_⟩
 · obtain ⟨r,hr,hxr⟩:=bv3 t hy;rw[bc4 t (V8 t) r hr y hxr];exact x.up _ (cm8.mpr ⟨r,hr,rfl⟩)
 · obtain ⟨r,hr,rfl⟩:=cm8.mp hl;obtain ⟨y,L,hy,pr,er,_⟩:=(V8 t).ring r hr
   have hm:y∈r:=by rw[er];exact G8.mpr ⟨0,pr.pos,rfl⟩
   rw[<-bc4 t (V8 t) r hr y hm];exact hg y hy
end Mth
namespace L2
open PySem PySem.Spec PyProof.Rows
theorem ba0:bootBuiltins "tuple"=some (.type "tuple"):=by decide+kernel
theorem bf8 {X:Cx}{p:Pos}(hm:X.mg "tuple"=none)(hg:Gl X "tuple":=by rfl):PE X (.Name "tuple" p) (tC (.ty "tuple")):=af0 hg hm ba0 rfl
end L2
namespace L2
open PySem PySem.Spec PyProof.Rows
theorem B9.hide {P:Program}{w:World}{H:Hp}{h:Heap}{as:List Addr}(x:B9 P w H h)(hn:∀b∈as,H b=none):B9 P w H (PySem.W.hideAll h as):=fun a o e=>
 (x a o e).stay (fun b u hb q=>PySem.W.hideAll_get _ q fun hm=>by
   have:=hn b hm
   rcases hb with rfl|hb
   · rw[e] at this;cases this
   · rw[hb] at this;cases this) (fun _ q=>q) fun _ _ q=>q
def R5 (P:Program)(w:World):S4:=fun outer H s E e s'=>
 ∃(a t C:Addr) (vs:List Value) (B:Heap) (H':Hp),e= .ref a/\s'.os=s.os/\AllBare s'.gens/\Un (A8 outer) [] H H' s.heap s'.heap/\B9 P w H' B/\
  (∀b o,s.heap.get? b=some o->H b=none->b∉A8 outer->B.get? b=some o)/\(∀b o,s.heap.get? b=some o->b∉A8 outer->∃o',B.get? b=some o')/\
  Heap.FlyingW B outer a (.ref C) (.ref t) s'.heap/\s'.heap.TupAt t vs/\B.get? t=none/\E (.ref C) none H'
theorem aw4 {fs:List Addr}{H0 H1:Hp}{h0 h1 h2 B:Heap}(u:Un fs [] H0 H1 h0 h1)(kb:∀b o,h0.get? b=some o->H0 b=none->b∉fs->B.get? b=some o)(tb:∀b o,h0.get? b=some o->b∉fs->∃o',B.get? b=some o')
   (st:B.StaysIn h2) (up:h1.UpToSlots h2) (fr:∀b∈fs,∀o,h1.get? b=some o->∀vs,o.data≠.fields vs):Un fs [] H0 H1 h0 h2 where
 keep:=fun b o q n hb _=>st b o (kb b o q n hb)
 slot:=fun b o q n hb hx=>by
   obtain ⟨sl,e⟩:=u.slot b o q n hb hx;obtain ⟨sl2,e2⟩:=up b _ e (fr b hb _ e);exact ⟨sl2,e2⟩
 free:=u.free
 there:=fun b o q hx=>by
   by_cases hb:b∈fs
   · obtain ⟨o',e⟩:=u.there b o q hx;obtain ⟨sl,e2⟩:=up b o' e (fr b hb _ e);exact ⟨_,e2⟩
   · obtain ⟨o',e⟩:=tb b o q hb;exact ⟨o',st b o' e⟩
 tups:=u.tups
 frzs:=u.frzs
 tbls:=u.tbls
def bl3 (X:Cx)(E:XK):Prop:=∀(pins:List (Addr×Obj)) (σ:St) (H:Hp) (s:Shared) (h':Heap) (e C:Addr) (vs:List Value),h8 X pins σ H s->Heap.MadeExcOf s.heap h' e (.ref C) vs->E (.ref C) none H->X.xe (.ref e) {s with heap:=h'}
theorem aw5 {X:Cx}{pins:List (Addr×Obj)}{σ:St}{H:Hp}{s:Shared}(I:h8 X pins σ H s):∀b∈A8 X.stack,∀o,s.heap.get? b=some o->∀vs,o.data≠.fields vs:=fun b hb o ho=>by
 obtain ⟨_,o',ho',hn⟩:=I.stack.mem hb;rw[ho] at ho';cases ho';exact hn
section
variable {P:Program} {w:World} {K:PySem.W.Frag} {mg:Str->Option Value} {base:Heap} {N:List Str} {qual:Str} {scope:Scope} {f:Addr} {cd:Value} {A:Around} {outer:List Env} {s₀:Shared} {H₀:Hp} {E E':XK}
theorem R6 {pins:List (Addr×Obj)}{σ:St}{H:Hp}{s:Shared}(I:h8 (X6 (R5 P w) P w K mg base N qual scope f cd A outer s₀ H₀ E) pins σ H s){b:Addr}{o:Obj}(h:s₀.heap.get? b=some o)(hb:b∉A8 outer):
   b∉A8 (envOfC qual scope s₀.heap.objs.size f cd::outer):=fun hm=>by
 unfold A8 at hm hb;rw[cq3] at hm;have hf:(envOfC qual scope s₀.heap.objs.size f cd).frame=some s₀.heap.objs.size:=rfl;rw[hf] at hm
 rcases co0.mp hm with z|z
 · have:=Heap.lt_size h;rw[z] at this;exact absurd this (cq8 _)
 · exact hb z
theorem ad4:bl3 (X6 (R5 P w) P w K mg base N qual scope f cd A outer s₀ H₀ E) E:=by
 intro pins σ H s h' e C vs I hx hE;show wpAny (model P w) _ (leaving _ (.ref e)) _ _ _
 have hin:∀env∈(envOfC qual scope s₀.heap.objs.size f cd::outer),∀b,env.frame=some b->b∈A8 (envOfC qual scope s₀.heap.objs.size f cd::outer):=fun env he b hb=>cw4.mpr ⟨env,he,hb⟩
 have hst:s.heap.FunFrames base (envOfC qual scope s₀.heap.objs.size f cd::outer):=I.stack;have hsf:∀b∈A8 (envOfC qual scope s₀.heap.objs.size f cd::outer),H b=none:=I.stkFree;have hub:Un (A8 outer) [] H₀ H s₀.heap s.heap:=I.base
 refine wpAny_leaves_madeW (base:=PySem.W.hideAll s.heap (A8 (envOfC qual scope s₀.heap.objs.size f cd::outer))) (h:=s.heap) I.ok.frames rfl (fun b o q=>PySem.W.of_hideAll _ q) (PySem.W.funFrames_hide hst hin) hx fun h2 t fl tup tn up=> ?_
 have up':s.heap.UpToSlots h2:=(Heap.UpToSlots.of_keeps hx.keeps).trans up
 have kb:∀b o,s₀.heap.get? b=some o->H₀ b=none->b∉A8 outer->(PySem.W.hideAll s.heap (A8 (envOfC qual scope s₀.heap.objs.size f cd::outer))).get? b=some o:=fun b o q n hb=>
   PySem.W.hideAll_get _ (hub.keep b o q n hb (by simp)) (R6 I q hb)
 have tb:∀b o,s₀.heap.get? b=some o->b∉A8 outer->∃o',(PySem.W.hideAll s.heap (A8 (envOfC qual scope s₀.heap.objs.size f cd::outer))).get? b=some o':=fun b o q hb=>by
   obtain ⟨o',e'⟩:=hub.there b o q (by simp);exact ⟨o',PySem.W.hideAll_get _ e' (R6 I q hb)⟩
 refine ⟨e,t,C,vs,_,H,rfl,I.os,I.bare,aw4 hub kb tb fl.1 up' (fun b hb o ho=> ?_),I.hok.hide hsf,kb,tb,fl,tup,tn,hE⟩;exact aw5 I b (by show b∈A8 (envOfC qual scope s₀.heap.objs.size f cd::outer);unfold A8 at hb ⊢;rw[cq3];exact cl1 _ hb) o ho
theorem K3 (imp:∀c d H,E c d H->E' c d H):ac4 (R5 P w) (X6 (R5 P w) P w K mg base N qual scope f cd A outer s₀ H₀ E') E:=by
 intro pins σ H s e s' I h;obtain ⟨a,t,C,vs,B,H',rfl,os,bare,un,hok,kb,tb,fl,tup,tn,hE⟩:=h;show wpAny (model P w) _ (leaving _ (.ref a)) _ _ _;have hub:Un (A8 outer) [] H₀ H s₀.heap s.heap:=I.base;have un':Un (A8 (envOfC qual scope s₀.heap.objs.size f cd::outer)) [] H H' s.heap s'.heap:=un
 have sub:∀b,b∈A8 outer->b∈A8 (envOfC qual scope s₀.heap.objs.size f cd::outer):=fun b hb=>by
   unfold A8 at hb ⊢;rw[cq3];exact cl1 _ hb
 refine wpAny_leaves_onW (L:=s₀.heap.objs.size) I.ok.frames rfl fl fun h2 fl2 up=> ?_
 have kb':∀b o,s₀.heap.get? b=some o->H₀ b=none->b∉A8 outer->B.get? b=some o:=fun b o q n hb=>
   kb b o (hub.keep b o q n hb (by simp)) (hub.free b o q n (by simp)) (R6 I q hb)
 have tb':∀b o,s₀.heap.get? b=some o->b∉A8 outer->∃o',B.get? b=some o':=fun b o q hb=>by
   obtain ⟨o',e'⟩:=hub.there b o q (by simp);exact tb b o' e' (R6 I q hb)
 have plain:∀b∈A8 outer,∀o,s'.heap.get? b=some o->∀vs,o.data≠.fields vs:=fun b hb o ho=>by
   obtain ⟨_,o1,ho1,hn⟩:=I.stack.mem (sub b hb);obtain ⟨sl,e1⟩:=un'.slot b o1 ho1 (I.stkFree b (sub b hb)) (sub b hb) (by simp);rw[ho] at e1;cases e1;exact hn
 have unw:Un (A8 outer) [] H₀ H' s₀.heap s'.heap:={
   keep:=fun b o q n hb _=>un'.keep b o (hub.keep b o q n hb (by simp)) (hub.free b o q n (by simp)) (R6 I q hb) (by simp)
   slot:=fun b o q n hb _=>by
     obtain ⟨sl,e1⟩:=hub.slot b o q n hb (by simp);obtain ⟨sl2,e2⟩:=un'.slot b _ e1 (hub.free b o q n (by simp)) (sub b hb) (by simp);exact ⟨sl2,e2⟩
   free:=fun b o q n _=>by
     obtain ⟨sl,e1⟩:=hub.any q n (by simp);exact un'.free b _ e1 (hub.free b o q n (by simp)) (by simp)
   there:=fun b o q _=>by
     obtain ⟨o',e1⟩:=hub.there b o q (by simp);exact un'.there b o' e1 (by simp)
   tups:=fun b xs q=>un'.tups b xs (hub.tups b xs q)
   frzs:=fun b o u q=>un'.frzs b o u (hub.frzs b o u q)
   tbls:=fun b ps q=>by
     obtain ⟨m1,q1⟩:=hub.tbls b ps q;obtain ⟨m2,q2⟩:=un'.tbls b _ q1
     exact ⟨m1++m2,by rw[q2,Array.append_assoc]⟩}
 exact ⟨a,t,C,vs,B,H',rfl,os.trans I.os,bare,aw4 unw kb' tb' fl2.1 up plain,hok,kb',tb',fl2,tup.of_slots up,tn,imp _ _ _ hE⟩
end
theorem bv5 {K:PySem.W.Frag}{h:Heap}{C:Addr}{bmB:List Value}{newId:String}(X:K.In h)(q:PySem.W.excIn K C bmB newId=true):
   ∃(bm:List Value) (N:Addr) (nm qn:Str) (bs:List Value) (hdct:Bool) (sn:List Str) (sub:List Value) (ab:Bool) (col:Option Bool) (dd:Option Addr) (k0 k1 k2 k3 k5:Option Value) (mN:Str->Option Value),
    K.lookup C=some (excClassObj nm qn C N bs bm hdct sn sub ab col dd k0 k1 k2 k3 k5 newId)/\h.Ns N mN/\mN "__init__"=none/\OwnTail h bmB bm:=by
 unfold PySem.W.excIn at q
 split at q
 · rename_i dd cd sl look
   split at q
   · rename_i C' bm k0 k1 k2 k3 n k5 hmro hsl;rw[cp7,cp7,cp7,cp7,cp7] at q;obtain ⟨⟨⟨⟨⟨q1,q2⟩,q3⟩,q4⟩,q5⟩,q6⟩:=q;have e1:C'=C:=beq_iff_eq.mp q1;have e2:n=newId:=beq_iff_eq.mp q2;subst e1 e2;obtain ⟨nm,bs,mro,ns,qn,hd,sn,sub,ab,col,del⟩:=cd;have e3:mro= .ref C'::bm:=hmro
     have e4:del=false:=by
       cases del with
       |false=>rfl
       |true=>cases q3
     subst e3 e4
     have e5:sl= #[k0,k1,k2,k3,some (.builtin n),k5]:=by
       apply Array.ext'
       exact hsl
     subst e5;exact ⟨bm,ns,nm,qn,bs,hd,sn,sub,ab,col,dd,k0,k1,k2,k3,k5,_,look,.of_isNs (PySem.W.isNs_of_in X q5),PySem.W.nsMap_none_of_in X q5 (beq_iff_eq.mp q6),PySem.W.tail_of_in X q4⟩
   · cases q
 · cases q
abbrev veB:List Value:=[.type "ValueError",.type "Exception",.type "BaseException",.type "object"]
structure Err (K:PySem.W.Frag)(mg:Str->Option Value)(x:Str)(C:Addr):Prop where
 mg:mg x=some (.ref C)
 ex:PySem.W.excIn K C veB "ValueError.__new__"=true
section
variable {X:Cx}
theorem ai7 {x:Str}{C:Addr}{E:XK}{e:Expr}{te:TE}{np cpos pos:Pos}(R:bl3 X E)(hc:X.calm=true)(c:Err X.K X.mg x C)(he:PE X e te)(hg:Gl X x:=by rfl)
   (hs:starEach [e] X.env=(false,eval e X.env)::starEach [] X.env:=by rfl) (hd:(x==("__debug__":Str))=false:=by decide):
   PS X (.Raise (some (.Call (.Name x np) [e] [] cpos)) none pos) (fun _ σ H=>te σ H fun _ H1=>E (.ref C) none H1):=by
 intro pins s σ H D I h;obtain ⟨bm,N,nm,qn,bs,hdct,sn,sub,ab,col,dd,k0,k1,k2,k3,k5,mN,hC,hN,hni,T⟩:=bv5 I.ok.mod.kin c.ex
 refine wpAny_Raise_call_subT (C:=C) (nm:=nm) (q:=qn) (N:=N) (bs:=bs) (bm:=bm) (hdct:=hdct) (sn:=sn) (sub:=sub) (ab:=ab) (col:=col) (dd:=dd) (k0:=k0) (k1:=k1) (k2:=k2) (k3:=k3) (k5:=k5)
   PySem.F.excBase_ValueError (mN:=mN) (T.hasType PySem.F.excBase_ValueError.hasBase) (I.ok.hd hc) (by rw[hs];rfl) hni (Y2 I hg c.mg ⟨rfl,?_⟩ hd)
 rw[hs];refine Calls.evalArgs_plain (Calls.spliced_cons (o5 (he pins s σ H _ I h) fun v s1 ⟨x,H1,I1,rx,q⟩=>Calls.spliced_nil ?_));exact ⟨rfl,(by show 1<=sizeLine;decide),I1.kIn _ _ hC,hN.keeps I1.bk,T.keeps I1.bk,fun h' e' hm=>R pins σ H1 s1 h' e' C _ I1 hm q⟩
end
section
variable {P:Program} {w:World} {K:PySem.W.Frag} {mg:Str->Option Value} {base:Heap}
theorem l6.lift {k:Nat}{f:Addr}{fd:FuncData}{ps:List Str}{sp:Sp}{CX:S4}(F:l6 P w K mg base B8 k f fd ps sp):l6 P w K mg base CX k f fd ps sp:=
 ⟨F.len,fun A outer s H args us vs Q E hr e0 hb hv hs=>codeAny_mono (F.run A outer s H args us vs Q E hr e0 hb hv hs) fun r s' h=>by
   cases r with
   |error e=>exact (show False from h).elim
   |ok v=>cases v<;>exact h⟩
theorem l6.or {k:Nat}{f:Addr}{fd:FuncData}{ps:List Str}{sp sp':Sp}{CX:S4}(F:l6 P w K mg base CX k f fd ps sp)(G:l6 P w K mg base CX k f fd ps sp'):l6 P w K mg base CX k f fd ps (fun vs H Q E=>sp vs H Q E\/sp' vs H Q E):=
 ⟨fun vs H Q E h=>h.elim (F.len vs H Q E) (G.len vs H Q E),fun A outer s H args us vs Q E hr e0 hb hv hs=>hs.elim (F.run A outer s H args us vs Q E hr e0 hb hv) (G.run A outer s H args us vs Q E hr e0 hb hv)⟩
theorem A2.okx {x qual:Str}{st:Stmt}{f:Addr}{fd:FuncData}{N ps:List Str}{k:Nat}{sp:Sp}(F:A2 K x qual st f fd)(S:o3 N ps (j8 st))(len:∀vs H Q E,sp vs H Q E->vs.length=ps.length)
   (hbody:∀(cdv:Value) (A:Around) (outer:List Env) (s:Shared) (H:Hp) (vs:List V) (Q:VK) (E:XK),o6 k (A.deeper (envOfC qual (j8 st) s.heap.objs.size f cdv))->sp vs H Q E->
     ∃t,S3 (X6 (R5 P w) P w K mg base N qual (j8 st) f cdv A outer s H E) (M7 st) t/\t {nx:=fun _ H'=>Q .non H',rt:=Q} (T0 N vs) H):l6 P w K mg base (R5 P w) (k+1) f fd ps sp:=by
 obtain ⟨oc,od,kV,doc,pm,an,cdv,ct,osl,rfl,lk,hcd⟩:=F.ex
 exact bt1 lk hcd S len fun A outer s H vs Q E hr hsp=>hbody cdv A outer s H vs Q E hr hsp
def L5 (P:Program)(w:World)(K:PySem.W.Frag)(mg:Str->Option Value)(base:Heap)(x:Str)(k:Nat)(ps:List Str)(sp:Sp):Prop:=
 ∃(f:Addr) (fd:FuncData),mg x=some (.ref f)/\PySem.W.keepIn K (.ref f)=true/\S9 K fd ps []/\l6 P w K mg base (R5 P w) k f fd ps sp
end
section
variable {X:Cx} {x:Str} {k:Nat} {ps:List Str} {sp:Sp} {e:Expr} {es:List Expr} {t:TA} {p pos:Pos} {E:XK}
theorem Q1 (c:L5 X.prog X.w X.K X.mg X.base x k ps sp)(hr:o6 k X.A)(hx:ac4 (R5 X.prog X.w) X E)(ha:PA X (e::es) t)(hg:Gl X x:=by rfl)(hdb:(x==("__debug__":Str))=false:=by decide)
   (he:starEach (e::es) X.env=(false,eval e X.env)::starEach es X.env:=by rfl) (hpl:(backTo pos (starEach es X.env)).any (·.1)=false:=by rfl):PE X (.Call (.Name x p) (e::es) [] pos) (ak2 sp [] E t):=by
 obtain ⟨f,fd,h1,h2,h3,h4⟩:=c;exact bb4 h4 hr hg h1 h2 h3 .nil hx ha hdb he hpl
end
end L2
namespace L2
open PySem PySem.Spec PyProof.Rows
theorem t5.get {P:Program}{w:World}{H:Hp}{h:Heap}{a:Addr}{o:HO}(x:t5 P w H h a o):∃u,h.get? a=some u:=by
 cases o with
 |lst xs=>obtain ⟨_,_,_,_,e⟩:=x;exact ⟨_,e⟩
 |tup xs=>obtain ⟨_,_,_,ob,e,_⟩:=x;exact ⟨_,e⟩
 |dK kvs=>obtain ⟨_,_,_,_,o,_,_,e,_⟩:=x;exact ⟨_,e⟩
 |dT kvs=>obtain ⟨_,_,_,_,o,_,_,e,_⟩:=x;exact ⟨_,e⟩
 |set S n=>obtain ⟨o,_,_,_,e,_⟩:=x;exact ⟨_,e⟩
 |ins C dx fs=>obtain ⟨_,_,_,e,_⟩:=x;exact ⟨_,e⟩
 |own y=>obtain ⟨_,e⟩:=x;exact ⟨_,e⟩
 |xd fs=>obtain ⟨_,⟨_,_,_,e,_⟩,_⟩:=x;exact ⟨_,e⟩
 |rng lo hi=>obtain ⟨_,_,_,e⟩:=x;exact ⟨_,e⟩
 |frz ob u=>obtain ⟨e,_⟩:=x;exact ⟨_,e⟩
 |tbl ps=>exact ⟨_,show h.get? a=some _ from x⟩
 |met f y=>exact ⟨_,show h.get? a=some _ from x⟩
 |ext φ=>obtain ⟨_,⟨_,e⟩,_⟩:=x;exact ⟨_,e⟩
def S2 (a C:Addr):HO:= .ext fun h=>∃oe vs,h.get? a=some oe/\oe.cls= .ref C/\oe.data= .fields vs
section
variable {X:Cx} {pins:List (Addr×Obj)} {σ:St} {H H':Hp} {s s':Shared}
theorem bv6 {M:Model}{A:Around}{E:Value->Shared->Prop}{i:Nat}{n:Str}{pos:Pos}{Q:Unit->Shared->Prop}(I:h8 X pins σ H s)(hN:X.N.Nodup)(hi:X.N[i]? =some n)(hk:X.env.kindOf n=some .local)
   (h:∀s',h8 X pins (σ.set i none) H s'->Q () s'):wpAny M A (do bindName X.env n .none;unbindBehindTheSuite X.env n pos) Q E s:=by
 obtain ⟨m,hn,hl⟩:=id I.loc
 have hcls:(X.env.scope.kind== .class||(X.env.scope.kind== .module&&X.env.locals !=X.env.globals))=false:=by rw[I.ok.kind];rfl
 have hiσ:i < σ.length:=by rw[I.len];exact (ck7.mp hi).1
 have cne:=I.cne
 refine wpAny_nameGoes_keeps hk hn hcls fun h' v hn' hs=>h _ ?_
 obtain ⟨oL,_,_,hoL,_⟩:=id hn
 have low:∀b o,X.s₀.heap.get? b=some o->b≠X.env.locals:=fun b o e=>cm7 (cm5 (Heap.lt_size e) I.ok.above)
 refine ⟨I.ok,I.os,I.bare,⟨fun b o e n hb hx=> ?_,fun b o e n hb hx=> ?_,I.base.free,fun b o e hx=> ?_,I.base.tups,I.base.frzs,I.base.tbls⟩,⟨_,hn',fun j y v' e1 e2 e3=> ?_⟩,fun y c e=> ?_,I.free,I.freeC,fun p hp=> ?_,fun b ob e=> ?_,by simpa using I.len⟩
 · exact (hs.2 b (low b o e)).trans (I.base.keep b o e n hb hx)
 · obtain ⟨sl,e1⟩:=I.base.slot b o e n hb hx;exact ⟨sl,(hs.2 b (low b o e)).trans e1⟩
 · obtain ⟨o',e1⟩:=I.base.there b o e hx;exact ⟨o',(hs.2 b (low b o e)).trans e1⟩
 · by_cases hj:j=i
   · subst hj;rw[cs8 hiσ] at e2;cases e2
   · rw[ct6 (Ne.symm hj)] at e2;obtain ⟨u',r',q⟩:=hl j y v' e1 e2 e3;refine ⟨u',r',?_⟩
     rcases q with ⟨k,e⟩|⟨k,c,e,z⟩
     · refine .inl ⟨k,?_⟩
       have:y≠n:=fun e=>hj (ah7 hN e1 (e▸hi))
       simp [this,e]
     · exact .inr ⟨k,c,e,z.sameBut hs (cne y c e)⟩
 · obtain ⟨w',z⟩:=I.cell y c e;exact ⟨w',z.sameBut hs (cne y c e)⟩
 · obtain ⟨e,n,ne,nf,d⟩:=I.pin p hp;exact ⟨(hs.2 p.1 ne).trans e,n,ne,nf,d⟩
 · refine (I.hok b ob e).stay (fun c w' hc q=>(hs.2 c ?_).trans q) (fun _ q=>q) fun _ _ q=>q
   rintro rfl
   rcases hc with rfl|hc
   · rw[I.free] at e;cases e
   · rw[I.free] at hc;cases hc
abbrev Cx.marked (X:Cx)(a:Addr):Cx:={X with A:=X.A.mark (some (.ref a)),calm:=false,xe:=fun _ _=>False}
theorem h8.mark (I:h8 X pins σ H s)(a:Addr):h8 (X.marked a) pins σ H s:=
 ⟨⟨I.ok.mod,I.ok.kind,I.ok.glob,I.ok.blt,I.ok.above,I.ok.inj,I.ok.has,I.ok.cab,(fun z=>nomatch z),I.ok.frames,I.ok.stk,I.ok.exf,I.ok.bs,I.ok.bsz,I.ok.noex,I.ok.exfs,I.ok.funs,I.ok.frf⟩,I.os,I.bare,I.base,I.loc,I.cell,I.free,I.freeC,I.pin,I.hok,I.len⟩
theorem h8.unmark {a:Addr}(ok:X.Ok)(I:h8 (X.marked a) pins σ H s):h8 X pins σ H s:=
 ⟨ok,I.os,I.bare,I.base,I.loc,I.cell,I.free,I.freeC,I.pin,I.hok,I.len⟩
theorem h8.trackNew {a:Addr}{o:HO}(I:h8 X pins σ H s)(hn:H a=none)(h0:X.s₀.heap.get? a=none)(hL:a≠X.env.locals)(hc:∀x c,X.env.cells.lookup x=some c->c≠a)(hp:∀p∈X.pn++pins,p.1≠a)(new:t5 X.prog X.w (e8 H a o) s.heap a o):
   h8 X pins σ (e8 H a o) s:=by
 refine ⟨I.ok,I.os,I.bare,⟨I.base.keep,I.base.slot,fun b o' e n hx=> ?_,I.base.there,fun b xs e=> ?_,fun b o' u e=> ?_,fun b ps e=> ?_⟩,I.loc,I.cell,?_,fun x c e=> ?_,fun p hq=> ?_,I.hok.track hn new,I.len⟩
 · rw[i8 (fun z=>by rw[z,h0] at e;cases e)];exact I.base.free b o' e n hx
 · have:=I.base.tups b xs e;rw[i8 (j5 this hn)];exact this
 · have:=I.base.frzs b o' u e;rw[i8 (j5 this hn)];exact this
 · obtain ⟨m,this⟩:=I.base.tbls b ps e;exact ⟨m,by rw[i8 (j5 this hn)];exact this⟩
 · rw[i8 (Ne.symm hL)];exact I.free
 · rw[i8 (hc x c e)];exact I.freeC x c e
 · obtain ⟨e,n,ne,nf,d⟩:=I.pin p hq;exact ⟨e,by rw[i8 (hp p hq)];exact n,ne,nf,d⟩
end
def PX (X:Cx)(st:List Stmt)(t:XK->TS):Prop:=
 ∀(pins:List (Addr×Obj)) (s:Shared) (σ:St) (H:Hp) (D:U6) (E:XK) (E1:Value->Shared->Prop),h8 X pins σ H s->
  (∀(H1:Hp) (s1:Shared) (e:Value) (s':Shared),h8 X pins σ H1 s1->R5 X.prog X.w X.stack H1 s1 E e s'->E1 e s')->t E D σ H->wpAny (model X.prog X.w) X.A (execs st X.env) (SP X pins D) E1 s
section
variable {X:Cx} {x:Str} {k:Nat} {ps:List Str} {sp:Sp} {e:Expr} {es:List Expr} {t:TA} {p pos:Pos}
theorem PA.any (h:PA X.nox es t)(E1:Value->Shared->Prop):PA (X.wish E1) es t:=fun pos pins s σ H Q I hw=>
 wpAny_mono (h pos pins s σ H Q (I.unwish.wish _) hw) (fun _ _ ⟨v,H',I',r,q⟩=>⟨v,H',I'.unwish.wish E1,r,q⟩) fun _ _ z=>False.elim z
theorem bv7 {pins:List (Addr×Obj)}{σ:St}{H:Hp}{s:Shared}{Q:VK}{E:XK}{E1:Value->Shared->Prop}(c:L5 X.prog X.w X.K X.mg X.base x k ps sp)(hr:o6 k X.A)(ha:PA X.nox (e::es) t)(I:h8 X pins σ H s)
   (hx:∀(H1:Hp) (s1:Shared) (e:Value) (s':Shared),h8 X pins σ H1 s1->R5 X.prog X.w X.stack H1 s1 E e s'->E1 e s') (h:ak2 sp [] E t σ H Q) (hg:Gl X x) (hdb:(x==("__debug__":Str))=false)
   (he:starEach (e::es) X.env=(false,eval e X.env)::starEach es X.env) (hpl:(backTo pos (starEach es X.env)).any (·.1)=false):
   wpAny (model X.prog X.w) X.A (eval (.Call (.Name x p) (e::es) [] pos) X.env) (EP X pins σ Q) E1 s:=by
 obtain ⟨f,fd,h1,h2,h3,h4⟩:=c;have Iw:h8 (X.wish E1) pins σ H s:=I.wish E1;refine wpAny_Call_Name_kw (Y2 (E:=E1) I hg h1 ?_ hdb);refine PySem.W.callWith_K (h₀:=X.base) I.ok.mod.kin h2 (o5 ((PA.any ha E1) pos pins s σ H _ Iw h) fun us s1 ⟨vs,H1,I1,r,q⟩=>⟨I1.kIn,?_⟩) he hpl;have I1':h8 X pins σ H1 s1:=I1.unwish
 have r2:m7 (vs++[]) us:=by rw[cp1];exact r
 have hl:(us++[]).length=ps.length:=by rw[cp1,<-r2.length];exact h4.len _ _ _ _ q
 have hb:=h3 s1 us I1'.kIn hl;rw[cp1] at hb;refine wpAny_call (codeAny_mono (h4.run X.A X.stack s1 H1 ⟨us,[]⟩ us (vs++[]) Q E hr I1'.env0 hb r2 q) fun rr s' hq=> ?_)
 cases rr with
 |error e=>exact hx H1 s1 e s' I1' hq
 |ok fl=>
  cases fl with
  |ret u=>exact I1'.after hq
  |next=>exact False.elim hq
  |brk=>exact False.elim hq
  |cont=>exact False.elim hq
theorem bv8 {ep:Pos}(c:L5 X.prog X.w X.K X.mg X.base x k ps sp)(hr:o6 k X.A)(ha:PA X.nox (e::es) t)(hg:Gl X x:=by rfl)(hdb:(x==("__debug__":Str))=false:=by decide)
   (he:starEach (e::es) X.env=(false,eval e X.env)::starEach es X.env:=by rfl) (hpl:(backTo pos (starEach es X.env)).any (·.1)=false:=by rfl) (hs:swapsWith (.Call (.Name x p) (e::es) [] pos) none ep.line X.env=pure false:=by rfl):
   PX X [.Expr (.Call (.Name x p) (e::es) [] pos) ep] (fun E D σ H=>ak2 sp [] E t σ H fun _ H1=>D.nx σ H1):=by
 intro pins s σ H D E E1 I hx h
 have first:wpAny (model X.prog X.w) X.A (exec (.Expr (.Call (.Name x p) (e::es) [] pos) ep) X.env) (SP X pins D) E1 s:=
   wpAny_Expr_any (o5 (bv7 c hr ha I hx h hg hdb he hpl) fun v s1 ⟨y',H1,I1,r1,q1⟩=>⟨σ,H1,I1,q1⟩) I.quiet hs
 refine wpAny_execs_cons (o5 first fun f s1 q=> ?_)
 cases f with
 |next=>exact wpAny_execs_nil q
 |ret v=>exact q
 |brk=>exact q
 |cont=>exact q
end
section
variable {X:Cx}
def bv9 (K:PySem.W.Frag)(T:Addr)(i:Nat)(ts:TS)(D:U6)(σ:St):XK:=fun c _ H'=>
 ∃C,c= .ref C/\PySem.W.exmOne K (.ref C) (.ref T)=some true/\∀a,H' a=none->ts {nx:=fun σ' H''=>D.nx (σ'.set i none) H'',rt:=fun _ _=>False} (σ.set i (some (.ref a))) (e8 H' a (S2 a C))
theorem cb2 {body:List Stmt}{x n:Str}{T:Addr}{i:Nat}{np hp pos:Pos}{b₀:Stmt}{suite:List Stmt}{tb:XK->TS}{ts:TS}(hb:PX X body tb)(hm:X.mg x=some (.ref T))(hN:X.N.Nodup)(hi:X.N[i]? =some n)(hk:X.env.kindOf n=some .local)
   (hsu:∀a,S3 (X.marked a) (b₀::suite) ts) (hst:X.stack=X.env::X.outer:=by rfl) (hfr:X.env.frame=some X.env.locals:=by rfl) (hex0:X.ex=[]:=by rfl) (hg:Gl X x:=by rfl) (hdb:(x==("__debug__":Str))=false:=by decide) (hf:X.fn n=true\/X.env.scope.names.lookup n=some .local:=by first|exact .inl rfl|exact .inr rfl|assumption):
   PS X (.Try body [.ExceptHandler (some (.Name x np)) (some n) (b₀::suite) hp] [] [] pos) (fun D σ H=>tb (bv9 X.K T i ts D σ) D σ H):=by
 intro pins s σ H D I h;refine wpAny_Try_except (wpAny_mono (hb pins s σ H D _ (fun e s₁=>wpAny (model X.prog X.w) X.A (noteFrame e X.env) (fun _ s₂=>wpAny (model X.prog X.w) X.A (setFlight e none) (fun _ s₃=>wpAny (model X.prog X.w) X.A (handleBy e X.env [.ExceptHandler (some (.Name x np)) (some n) (b₀::suite) hp]) (SP X pins D) X.xe s₃) X.xe s₂) X.xe s₁) I (fun H1 s1 e s' I1 hcx=> ?_) h) (fun f s1 q=> ?_) fun _ _ z=>z)
 · obtain ⟨a,t,C,vs,B,H',rfl,os,bare,un,hok,kb,tb',fl,tup,tn,C',hCe,hex,hts⟩:=hcx;cases hCe;rw[hst] at un fl kb tb'
   have hframes:X.A.frames=some (X.env::X.outer):=by rw[<-hst];exact I1.ok.frames
   have plain:∀b∈A8 (X.env::X.outer),∀o,s'.heap.get? b=some o->∀vs,o.data≠.fields vs:=fun b hb o ho=>by
     obtain ⟨_,o',ho',hn⟩:=fl.2.2.1.mem hb;rw[ho] at ho';cases ho';exact hn
   have notB:B.get? a=none:=fl.2.1
   have notF:a∉A8 (X.env::X.outer):=fun hm=>by
     obtain ⟨oe,ws,he,_,hd,_⟩:=fl.first;exact plain a hm oe he ws hd
   have new1:s1.heap.get? a=none:=by
     cases q:s1.heap.get? a with
     |none=>rfl
     |some o=>
      obtain ⟨o',e'⟩:=tb' a o q notF;rw[notB] at e';cases e'
   have new0:X.s₀.heap.get? a=none:=by
     cases q:X.s₀.heap.get? a with
     |none=>rfl
     |some o=>
      by_cases hx:a∈X.ex
      · rw[hex0] at hx;simp at hx
      · obtain ⟨o',e'⟩:=I1.base.there a o q hx;rw[new1] at e';cases e'
   have hHa:H' a=none:=by
     cases q:H' a with
     |none=>rfl
     |some o=>obtain ⟨u,hu⟩:=(hok a o q).get;rw[notB] at hu;cases hu
   refine wpAny_looks_onW hframes hfr fl fun h₄ held₄ up₄=> ?_
   refine wpAny_landsW held₄ fun h₅ fl₅ up₅=> ?_
   have inv:∀h,B.StaysIn h->s'.heap.UpToSlots h->h8 X pins σ H' {s' with heap:=h}:=fun h st up=>
     I1.call' (ch:=[]) (s':={s' with heap:=h}) os (by rw[hst];exact aw4 un kb tb' st up plain) (hok.kept st) bare (fun b z=>absurd z (by simp))
   have I5:=inv h₅ fl₅.1 (up₄.trans up₅);refine wpAny_handleBy_cons (codeAny_handlers_test (Y2 (X:=X.marked a) (E:=_) (I5.mark a) hg hm ?_ hdb)) (by intro q;cases q);obtain ⟨ob,hob,hobc⟩:=fl₅.there;have LT:PySem.W.Looks (model X.prog X.w) h₅ (typeOf (.ref a)) (.ref C):=hobc▸(PySem.W.Looks.ld hob).andThen .now;refine PySem.W.exm_one (M:=model X.prog X.w) (h:=h₅) I5.kIn LT hex _ _ _ _ (fun _ _ q=>q) ?_;refine codeAny_handlers_suite_as ?_
   refine lands_againW fl₅ fun h₆ fl₆ up₆=> ?_
   have I6:=inv h₆ fl₆.1 ((up₄.trans up₅).trans up₆)
   have hLa:a≠X.env.locals:=fun z=>notF (by unfold A8;rw[cq3,hfr];rw[z];exact cl4)
   have hca:∀y c,X.env.cells.lookup y=some c->c≠a:=fun y c e z=>by
     obtain ⟨v,o,ho,_⟩:=I1.cell y c e;rw[z,new1] at ho;cases ho
   have hpa:∀q∈X.pn++pins,q.1≠a:=fun q hq z=>by
     obtain ⟨e,_⟩:=I1.pin q hq;rw[z,new1] at e;cases e
   obtain ⟨oe,ws,he6,hc6,hd6,_⟩:=fl₆.first;have I7:h8 X pins σ (e8 H' a (S2 a C)) {s' with heap:=h₆}:=I6.trackNew hHa new0 hLa hca hpa ⟨⟨oe,ws,he6,hc6,hd6⟩,⟨oe,he6⟩,fun h1 h2 ⟨o1,v1,q1,q2⟩ st=>⟨o1,v1,st o1 q1,q2⟩⟩;have hts':=hts a hHa;refine ah8 I7 hN hi (.inl hk) (show o8 (.ref a) (.ref a) from rfl) (fun s2 I8=> ?_) hf
   refine wpAny_mono (hsu a pins s2 _ _ _ (I8.mark a) hts') (fun f s3 q=> ?_) fun _ _ z=>False.elim z
   cases f with
   |next=>
    obtain ⟨σ',H'',I9,q⟩:=q
    exact bv6 (I9.unmark I1.ok) hN hi hk fun s4 I10=>show SP X pins D .next s4 from ⟨_,_,I10,q⟩
   |ret v=>obtain ⟨_,_,_,_,_,q⟩:=q;exact q.elim
   |brk=>obtain ⟨_,_,_,q⟩:=q;exact q.elim
   |cont=>obtain ⟨_,_,_,q⟩:=q;exact q.elim
 · cases f with
   |next=>exact wpAny_execs_nil q
   |ret v=>exact q
   |brk=>exact q
   |cont=>exact q
end
end L2
namespace L2
open PySem PySem.Spec PyProof.Rows PySem.W PySem.Builtin PySem.Builtin.ObjectAttr PySem.Builtin.Getset_descriptor
section
variable {prog:Program} {w:World} {A:Around} {E:Value->Shared->Prop} {s:Shared} {K:PySem.W.Frag} {a C:Addr}
structure ao4 (K:PySem.W.Frag)(C:Addr):Prop where
 ga:PySem.W.findIn K (.ref C) "__getattribute__"=some (some (.builtin "BaseException.__getattribute__"))
 hook:PySem.W.findIn K (.ref C) "__getattr__"=some none
 cls:PySem.W.findIn K (.ref C) "__class__"=some (some (.builtin "object.__class__"))
 get:PySem.W.specialIn K (.builtin "object.__class__") "__get__"=some (some (.builtin "getset_descriptor.__get__"))
 tak:PySem.W.takesIn K (.builtin "object.__class__")=some true
 bex:PySem.W.mroIn K C (.type "BaseException")=some true
 obj:PySem.W.mroIn K C (.type "object")=some true
 isc:∃oc,K.lookup C=some oc/\∃cd,oc.data= .cls cd
theorem as5 {tp:Value}{R:Result->Shared->Prop}(X:K.In s.heap)(L0:PySem.W.Looks (model prog w) s.heap (typeOf (.ref a)) (.ref C))(hm:PySem.W.mroIn K C (.type "object")=some true)
   (h:R (.ok (.ret (.ref C))) s):codeAny (model prog w) A (.call (.builtin "getset_descriptor.__get__") ⟨[.builtin "object.__class__",.ref a,tp],[]⟩) R s:=by
 obtain ⟨hh,g,dr,t,os⟩:=s;have L1:=looks_mroIn (M:=model prog w) X hm;refine codeAny_call_builtin KF.slot_gs.plain KF.entry_gs (KF.slot_gs.check _ _ _ _ _ _ _ _ KF.type_class (KF.args_gs _ _ _) ?_);unfold Builtin.«getset_descriptor.__get__» descrGet;rw[dga_obj];refine wpAny_bind (wpAny_pure ?_);unfold descrGetter descrCheckInstance descrNameAndClass isInstance;simp only[KF.owner_class]
 repeat lk
 refine ⟨Code.quiet_builtin _ (by decide+kernel),codeAny_builtin KF.entry_class ?_⟩;unfold Builtin.«object.__class__» shownTypeOf
 repeat lk
 exact h
theorem bl4 {M:Model}{nameV:Value}{Q:Unit->Shared->Prop}(X:K.In s.heap)(L0:PySem.W.Looks M s.heap (typeOf (.ref a)) (.ref C))(hm:PySem.W.mroIn K C (.type "BaseException")=some true)
   (hq:Q () s):wpAny M A (checkBuiltinCall "BaseException.__getattribute__" ⟨[.ref a,nameV],[]⟩) Q E s:=by
 obtain ⟨hh,g,dr,t,os⟩:=s;have L1:=looks_mroIn (M:=M) X hm
 have hk:builtinKind "BaseException.__getattribute__"=some .slot:=by decide+kernel
 have hsplit:splitId "BaseException.__getattribute__"=some ("BaseException","__getattribute__"):=by decide+kernel
 have ha:=F.args_bexc_ga (.ref a) nameV;simp only[checkBuiltinCall,hk,hsplit];unfold isInstance
 repeat (first|lk|wp_step)
 exact hq
theorem bl5 {tk:Tok}{Q:Fin->Shared->Prop}(X:K.In s.heap)(L0:PySem.W.Looks (model prog w) s.heap (typeOf (.ref a)) (.ref C))(I:ao4 K C)(hq:Q (.done (.ret (.ref C))) s):
   wpAny (model prog w) A (Builtin.«object.__getattribute__» ⟨[.ref a,.str "__class__" tk],[]⟩) Q E s:=by
 obtain ⟨hh,g,dr,t,os⟩:=s;have L1:=looks_findIn (M:=model prog w) X I.cls;have L2:=looks_specialIn (M:=model prog w) X I.get;have L3:=looks_takesIn (M:=model prog w) X I.tak;unfold Builtin.«object.__getattribute__»
 repeat lk
 refine wpAny_run (as5 X L0 I.obj ?_)
 repeat (first|exact hq|lk)
theorem ao5 {Q:Option Value->Shared->Prop}(X:K.In s.heap)(L0:PySem.W.Looks (model prog w) s.heap (typeOf (.ref a)) (.ref C))(I:ao4 K C)(h:Q (some (.ref C)) {s with toks:=s.toks+1}):
   wpAny (model prog w) A (getAttr? (.ref a) "__class__") Q E s:=by
 obtain ⟨hh,g,dr,t,os⟩:=s;have L1:=looks_findIn (M:=model prog w) X I.ga;have L2:=looks_findIn (M:=model prog w) X I.hook;have hb:=PySem.F.attrBase_ValueError.ga.bind (.ref a);unfold getAttr? getAttrBy? getAttrBy;refine wpAny_bind (wpAny_mkText (wpAny_bind (wpAny_attempt (wpAny_holding (wpAny_bind (L0.at (wpAny_bind (L1.at ?_))))))))
 dsimp only
 rw[if_neg (show ¬((onTheHeap (Value.ref C)&&Value.builtin "BaseException.__getattribute__"==Value.builtin "object.__getattribute__")=true) from by
   rw[show (Value.builtin "BaseException.__getattribute__"==Value.builtin "object.__getattribute__")=false from by decide+kernel,Bool.and_false];exact cl7)]
 unfold getAttrByItsOwn hookBefore;refine wpAny_bind ?_;rw[if_pos (show onTheHeap (Value.ref C)=true from rfl)];refine L2.at ?_;refine wpAny_bind (wpAny_attempt (wpAny_holding ?_));unfold callGetattribute;rw[if_neg (by simp)];unfold boundAndCalled;rw[hb];refine wpAny_bind (wpAny_pure ?_);refine wpAny_call (codeAny_call_builtin PySem.F.attrBase_ValueError.ga.plain F.entry_bexc_ga (bl4 X L0 I.bex (bl5 X L0 I ?_)));refine handed_on (M:=model prog w) rfl ?_;exact wpAny_pure h
theorem bq6 (I:ao4 K C):PySem.W.KitX K (.ref a) (.ref C) (fun h=>∃oe vs,h.get? a=some oe/\oe.cls= .ref C/\oe.data= .fields vs) where
 ty:=fun M h _ ⟨oe,vs,h1,h2,_⟩=>h2▸(PySem.W.Looks.ld h1).andThen .now
 it:=fun M h X _=>by
   obtain ⟨oc,h1,cd,h2⟩:=I.isc;obtain ⟨c1,c2,c3,c4⟩:=oc
   dsimp only at h2
   subst h2;intro A' Q' E' s' k q;unfold isType loadHead;exact wpAny_bind (wpAny_loadPart (k _ _ (X _ _ h1)) (wpAny_pure q))
 ne:=fun h tp dd its n sl X htp=>by
   obtain ⟨oc,h1,cd,h2⟩:=I.isc
   refine Bool.eq_false_iff.mpr fun q=> ?_
   have e:C=tp:=Value.ref.inj (beq_iff_eq.mp q);subst e;have z:=(X _ _ h1).symm.trans htp;cases z;cases h2
 ca:=fun {prog w A E Q s} X ⟨oe,vs,h1,h2,_⟩ k=>ao5 X (h2▸(PySem.W.Looks.ld h1).andThen .now) I k
end
section
variable {X:Cx}
def bt5 (K:PySem.W.Frag):List V->Hp->VK->Prop:=fun xs H Q=>∃a C c u b,xs=[.ref a,c]/\((∃D,c= .ref D/\u=Value.ref D)\/(∃n,c= .ty n/\u=Value.type n))/\H a=some (S2 a C)/\ao4 K C/\PySem.W.kitOne K (.ref C) u=some b/\Q (.bl b) H
theorem bl6:K8 X (.builtin "isinstance") (bt5 X.K):=by
 intro pins s σ H xs us Q I r h;obtain ⟨a,C,c,u,b,rfl,hc,hH,ei,hk,q⟩:=h;obtain ⟨u1,u2,rfl,r1,r2⟩:=ak0 r;cases (show u1=Value.ref a from r1)
 have e2:u2=u:=by
   rcases hc with ⟨D,rfl,rfl⟩|⟨n,rfl,rfl⟩
   · exact r2
   · exact r2
 subst e2;have p:=(show t5 X.prog X.w H s.heap a (S2 a C) from I.hok a _ hH).1
 exact PySem.W.kia_one (bq6 ei) I.kIn p hk (fun z=>nomatch z) fun tk=>⟨.bl b,H,I.tok tk,rfl,q⟩
theorem bc5 {a b:Expr}{ta:TA}{p pos:Pos}(hm:X.mg "isinstance"=none)(ha:PA X [a,b] ta)(hg:Gl X "isinstance":=by rfl)
 (he:starEach [a,b] X.env=(false,eval a X.env)::starEach [b] X.env:=by rfl) (hpl:(backTo pos (starEach [b] X.env)).any (·.1)=false:=by rfl):
 PE X (.Call (.Name "isinstance" p) [a,b] [] pos) (S5 (bt5 X.K) ta):=O7 bl6 hg hm av3 ha (by decide) (by decide) he hpl
end
theorem bw0 {K:PySem.W.Frag}{C D:Addr}{b:Bool}(h1:PySem.W.isClsIn K D=true)(h2:PySem.W.typeIn K (.ref D)=some (.type "type"))(h3:PySem.W.mroIn K C (.ref D)=some b)(hs:C=D->b=true):PySem.W.kitOne K (.ref C) (.ref D)=some b:=by
 unfold PySem.W.kitOne
 by_cases e:C=D
 · rw[if_pos (by rw[e];exact beq_self_eq_true _),hs e]
 · rw[if_neg (fun q=>e (Value.ref.inj (beq_iff_eq.mp q)))];unfold PySem.W.kitCls
   dsimp only
   rw[if_pos (by rw[cp7];exact ⟨h1,by rw[h2];exact beq_self_eq_true _⟩)];exact h3
theorem cb3 {K:PySem.W.Frag}{C:Addr}(h3:PySem.W.mroIn K C (.type "ValueError")=some true):PySem.W.kitOne K (.ref C) (.type "ValueError")=some true:=by
 unfold PySem.W.kitOne;rw[if_neg (fun q=>by cases beq_iff_eq.mp q)];unfold PySem.W.kitCls
 dsimp only
 rw[if_pos (by decide+kernel)];exact h3
theorem bw1 {K:PySem.W.Frag}{C T:Addr}{b:Bool}(h0:PySem.W.mroIn K T (.type "BaseException")=some true)(h1:PySem.W.isClsIn K T=true)(h2:PySem.W.typeIn K (.ref T)=some (.type "type"))(h3:PySem.W.mroIn K C (.ref T)=some b):PySem.W.exmOne K (.ref C) (.ref T)=some b:=by
 unfold PySem.W.exmOne;rw[if_pos (show (PySem.W.subIn K (.ref T) (.type "BaseException")==some true)=true from beq_iff_eq.mpr h0)];unfold PySem.W.kitCls
 dsimp only
 rw[if_pos (by rw[cp7];exact ⟨h1,by rw[h2];exact beq_self_eq_true _⟩)];exact h3
theorem bw2 {K:PySem.W.Frag}{C:Addr}(ga:PySem.W.findIn K (.ref C) "__getattribute__"=some (some (.builtin "BaseException.__getattribute__")))(hook:PySem.W.findIn K (.ref C) "__getattr__"=some none)(cls:PySem.W.findIn K (.ref C) "__class__"=some (some (.builtin "object.__class__")))
   (get:PySem.W.specialIn K (.builtin "object.__class__") "__get__"=some (some (.builtin "getset_descriptor.__get__"))) (tak:PySem.W.takesIn K (.builtin "object.__class__")=some true) (bex:PySem.W.mroIn K C (.type "BaseException")=some true) (obj:PySem.W.mroIn K C (.type "object")=some true) (isc:PySem.W.isClsIn K C=true):ao4 K C:=
 ⟨ga,hook,cls,get,tak,bex,obj,by
   obtain ⟨cd,h⟩:=cx3.mp (show (PySem.W.clsIn K C).isSome=true from isc);unfold PySem.W.clsIn at h
   split at h
   · rename_i ho;exact ⟨_,ho,_,rfl⟩
   · cases h⟩
structure aw6 (K:PySem.W.Frag)(mg:Str->Option Value)(T:Addr)(cs:List (Str×Addr)):Prop where
 top:mg "TurnError"=some (.ref T)
 err:∀p∈cs,Err K mg p.1 p.2
 inst:∀p∈cs,ao4 K p.2
 exm:∀p∈cs,PySem.W.exmOne K (.ref p.2) (.ref T)=some true
 ve:∀p∈cs,PySem.W.kitOne K (.ref p.2) (.type "ValueError")=some true
 pair:∀p∈cs,∀q∈cs,PySem.W.kitOne K (.ref p.2) (.ref q.2)=some (decide (p.1=q.1))
end L2
namespace L2
open PySem PySem.Spec PyProof.Rows
def ao6 (a b:Sp):Sp:=fun vs H Q E=>a vs H Q E\/b vs H Q E
section
variable {P:Program} {w:World} {K:PySem.W.Frag} {mg:Str->Option Value} {base:Heap} {CX:S4} {k:Nat} {f:Addr} {fd:FuncData} {ps:List Str} {a b:Sp}
theorem cf0 (x:l6 P w K mg base CX k f fd ps a)(y:l6 P w K mg base CX k f fd ps b):l6 P w K mg base CX k f fd ps (ao6 a b):=
 ⟨fun vs H Q E h=>h.elim (x.len vs H Q E) (y.len vs H Q E),fun A outer s H args us vs Q E r e bt v h=>h.elim (x.run A outer s H args us vs Q E r e bt v) (y.run A outer s H args us vs Q E r e bt v)⟩
theorem bt6 {x:Str}(c:o7 P w K mg base x k ps (ao6 a b)):o7 P w K mg base x k ps a:=by
 obtain ⟨f,fd,h1,h2,h3,h4⟩:=c;exact ⟨f,fd,h1,h2,h3,h4.imp fun vs H Q E z=> .inl z⟩
end
end L2
namespace HT
open PySem PySem.Spec PyProof.Rows
open PySem.AutoSeq1
open PySem.MeetsSeq PySem.MeetsSeq2 PySem.MeetsSeq3
theorem ao7 {xs:Array Value}{i:Nat}{x:Value}{r:List Value}(h:xs.toList.drop i=x::r):xs[((i:Nat):Int).toNat]? =some x/\xs.toList.drop (i+1)=r/\i < xs.size:=by
 have hl:i < xs.size:=by
   rcases cu4 i xs.size with z|z
   · exact z
   · rw[List.drop_of_length_le (by simpa using z)] at h;cases h
 refine ⟨?_,?_,hl⟩
 · rw[cr7,<-cn4];have:=congrArg List.head? h;rw[List.head?_drop] at this
   simpa using this
 · have:=congrArg List.tail h;rw[List.tail_drop] at this;exact this
theorem aw7 {xs:Array Value}{i:Nat}(h:xs.toList.drop i=[]):xs[((i:Nat):Int).toNat]? =none/\xs.size<=i:=by
 have hl:xs.size<=i:=by
   have:=congrArg cu8 h;rw[co5] at this;simp at this;omega
 exact ⟨by rw[cr7];simp [hl],hl⟩
abbrev bf9 (h:Heap)(a:Addr)(xs:Array Value)(n:Nat):Prop:=h.get? a=some {cls:= .type "list",dict:=none,data:= .seq xs n,slots:= #[]}
theorem bw3 (l b:Addr)(items items2:Array Value)(n n2:Nat):∀(ns ms:List Int) (vs ws:List Value) (i:Nat),IntsAre vs ns->IntsAre ws ms->items.toList.drop i=vs->items2.toList.drop i=ws->i<=items.size->i<=items2.size->
   Meets (Builtin.«list.__eq__.loop» ⟨[.ref l,.ref b,rawInt i,rawInt 0],[]⟩)
     (fun _ R s=>(bf9 s.heap l items n/\bf9 s.heap b items2 n2)/\R (.ok (.ret (.bool (af3 ns ms)))) s):=by
 intro ns
 induction ns with
 |nil=>
  intro ms vs ws i hv hw e1 e2 i1 i2 prog w A R s h;obtain ⟨h0,g0,d0,k0,o0⟩:=s;obtain ⟨⟨hx,hy⟩,h⟩:=h;cases hv;obtain ⟨g1,z1⟩:=aw7 e1
  wp_walk using wpAny_loadPart' hx,wpAny_loadPart' hy
  rw[g1]
  cases hw with
  |nil=>
   obtain ⟨g2,z2⟩:=aw7 e2
   wp_walk using wpAny_loadPart' hx,wpAny_loadPart' hy
   show R (.ok (.ret (.bool (decide (items.size < items2.size))))) _;rw[decide_eq_false (by omega)];exact h
  |cons c u hw'=>
   obtain ⟨g2,_,z2⟩:=ao7 e2
   wp_walk using wpAny_loadPart' hx,wpAny_loadPart' hy
   show R (.ok (.ret (.bool (decide (items.size < items2.size))))) _;rw[decide_eq_true (by omega)];exact h
 |cons a ns ih=>
  intro ms vs ws i hv hw e1 e2 i1 i2 prog w A R s h;obtain ⟨h0,g0,d0,k0,o0⟩:=s;obtain ⟨⟨hx,hy⟩,h⟩:=h
  cases hv with
  |cons _ t hv'=>
   obtain ⟨g1,d1,z1⟩:=ao7 e1
   wp_walk using wpAny_loadPart' hx,wpAny_loadPart' hy
   rw[g1]
   cases hw with
   |nil=>
    obtain ⟨g2,z2⟩:=aw7 e2;rw[g2]
    wp_walk using wpAny_loadPart' hx,wpAny_loadPart' hy
    show R (.ok (.ret (.bool (decide (items.size < items2.size))))) _;rw[decide_eq_false (by omega)];exact h
   |cons c u hw'=>
    obtain ⟨g2,d2,z2⟩:=ao7 e2;rw[g2];rw[be4] at h;obtain ⟨e,he,hiff⟩:=bo7 A.in1 ⟨h0,g0,d0,k0,o0⟩ a t c u;refine wpAny_bind (he prog w _ _ ?_)
    cases e with
    |true=>
     rw[if_pos (hiff.mp rfl)] at h
     wp_walk
     rw[show ((i:Int)+1)=((i+1:Nat):Int) from rfl];refine ⟨plainId_quiet plain_eq_loop _,codeAny_builtin entry_eq_loop ?_⟩
     (rw[Around.under_plainId plain_eq_loop _];exact ih _ _ _ (i+1) hv' hw' d1 d2 (by omega) (by omega) prog w A R _ ⟨⟨hx,hy⟩,h⟩)
    |false=>
     rw[if_neg (fun q=>absurd (hiff.mpr q) cl7)] at h;have less:=bo8 A.in1 ⟨h0,g0,d0,k0,o0⟩ a t c u prog w
     wp_walk using wpAny_loadPart' hx,wpAny_loadPart' hy
     rw[g1,g2]
     wp_walk using less
     exact h
theorem cb4 (l b:Addr)(items items2:Array Value)(n n2:Nat)(ns ms:List Int)(hi:IntsAre items.toList ns)(hj:IntsAre items2.toList ms):
   Meets (Builtin.«list.__lt__» ⟨[.ref l,.ref b],[]⟩)
     (fun _ R s=>(bf9 s.heap l items n/\bf9 s.heap b items2 n2)/\R (.ok (.ret (.bool (af3 ns ms)))) s):=by
 intro prog w A R s h;obtain ⟨h0,g0,d0,k0,o0⟩:=s;obtain ⟨⟨hx,hy⟩,h⟩:=h;have sub:=AutoSeq1.sub_list_list
 wp_walk using wpAny_loadPart' hx,wpAny_loadPart' hy
 refine ⟨plainId_quiet plain_eq_loop _,codeAny_builtin entry_eq_loop ?_⟩
 (rw[Around.under_plainId plain_eq_loop _];exact bw3 l b items items2 n n2 ns ms _ _ 0 hi hj rfl rfl (cn3 _) (cn3 _) prog w A R _ ⟨⟨hx,hy⟩,h⟩)
end HT
namespace L2
open PySem PySem.Spec PyProof.Rows
section
variable {prog:Program} {w:World} {A:Around} {E:Value->Shared->Prop} {s:Shared}
def X1 (h:Heap)(v:Value)(ns:List Int):Prop:=∃p xs n,v= .ref p/\HT.bf9 h p xs n/\IntsAre xs.toList ns
theorem am2 {α β:Type}{f:α->Sem β}(g:α->β):∀{vs:List α} {Q:List β->Shared->Prop},(∀v,v∈vs->∀R:β->Shared->Prop,R (g v) s->wpAny (model prog w) A (f v) R E s)->Q (vs.map g) s->wpAny (model prog w) A (vs.mapM f) Q E s
 |[],Q,_,q=>by rw[List.mapM_nil];exact wpAny_pure q
 |v::vs,Q,k,q=>by
  rw[List.mapM_cons];refine wpAny_bind (k v (cl4 ..) _ ?_);refine wpAny_bind (am2 g (fun u hu=>k u (cl1 _ hu)) ?_);exact wpAny_pure q
theorem aw8 {α β:Type}{f:α->Sem β}(g:α->β){vs:List α}{Q:Array β->Shared->Prop}(k:∀v,v∈vs->∀R:β->Shared->Prop,R (g v) s->wpAny (model prog w) A (f v) R E s)(q:Q (vs.map g).toArray s):wpAny (model prog w) A (vs.toArray.mapM f) Q E s:=by
 rw[List.mapM_toArray,map_eq_pure_bind];exact wpAny_bind (am2 g k (wpAny_pure q))
theorem bg0 (v:Value):firstOfTuple' v=(do
 if (<-typeOf v)!= .type "tuple" then return none
 return (<-Builtin.List.listItems v)[0]?):=rfl
theorem bl7 {v:Value}{ns:List Int}(r:X1 s.heap v ns){Q:Option Value->Shared->Prop}(k:Q none s):wpAny (model prog w) A (firstOfTuple' v) Q E s:=by
 obtain ⟨p,xs,n,rfl,ox,ix⟩:=r;rw[bg0];refine wpAny_bind (wpAny_typeOf (T:="list") ⟨_,ox,rfl⟩ ?_);rw[if_pos (by decide)];exact wpAny_pure k
theorem bq7 {v:Value}{ns:List Int}(r:X1 s.heap v ns){Q:Value->Shared->Prop}(k:Q (.type "list") s):wpAny (model prog w) A (typeOf v) Q E s:=by
 obtain ⟨p,xs,n,rfl,ox,ix⟩:=r;exact wpAny_typeOf (T:="list") ⟨_,ox,rfl⟩ k
theorem bl8 {v₁ v₂:Value}{vs:List Value}{Q:SortKind->Shared->Prop}(r:∀v,v∈v₁::v₂::vs->∃ns,X1 s.heap v ns)(k:Q oneType' s):wpAny (model prog w) A (keyKind' (v₁::v₂::vs).toArray) Q E s:=by
 rw[keyKind'_eq];refine wpAny_bind (aw8 (fun _=>none) (fun v hv R q=>by obtain ⟨ns,z⟩:=r v hv;exact bl7 z q) ?_);rw[if_neg (by simp),if_neg (by simp)];rw[oneTypeOnly'_eq];refine wpAny_bind (wpAny_bind (aw8 (fun _=>Value.type "list") (fun v hv R q=>by obtain ⟨ns,z⟩:=r v hv;exact bq7 z q) ?_))
 have h0:(List.map (fun _=>Value.type "list") (v₁::v₂::vs)).toArray[0]? =some (Value.type "list"):=by simp
 rw[h0]
 dsimp only
 rw[if_pos (by
   simp only[List.all_toArray,List.all_map,cr3];intro _ _
   rfl)]
 exact wpAny_pure (wpAny_pure k)
theorem ar6 (vs:List Value):(pairsOf vs).map (·.2)=vs.toArray:=by
 apply Array.toList_inj.mp
 rw[cx4,pairsOf_toList];exact List.map_snd_zip (ck8 _)
end
end L2
namespace L2
open PySem PySem.Spec PyProof.Rows
theorem bw4 {K:PySem.W.Frag}{H:Hp}{n:Nat}{a b:Addr}{xs ys:List V}{r:Bool}(ne:a≠b)(ha:i7 K H a xs)(hb:i7 K H b ys)(d:LEq K H n xs ys r):N7 K H (n+1) (.ref a) (.ref b) r:=by
 rcases d with ⟨hl,rfl⟩|⟨e,hl,he,rfl⟩
 · exact .lens ne ha hb hl
 · exact .lists e ne ha hb hl he
theorem aw9 {K:PySem.W.Frag}{H:Hp}{a b:Addr}{r q:List Int}(ha:H a=some (.lst (r.map V.int)))(hb:H b=some (.lst (q.map V.int))):N7 K H 1 (.ref a) (.ref b) (decide (r=q)):=by
 by_cases z:a=b
 · subst z;rw[ha] at hb;rw[decide_eq_true (X7 (HO.lst.inj (Option.some.inj hb)))];exact .same a
 · exact bw4 z (i7.of ha) (i7.of hb) (M3 K H 0 r q)
def at6 (H:Hp)(r:List Int):Value->Bool
 | .ref a=>decide (J9 H a=r)
 |_=>false
end L2
namespace L2
open PySem PySem.Spec PyProof.Rows
def bl9 (t:TA):TE:=S5 (fun xs H Q=>∃p lo hi,xs=[.ref p]/\H p=some (.rng lo hi)/\(-(2^62)<=lo/\lo < 2^62/\ -(2^62)<=hi/\hi < 2^62)/\(hi - lo).toNat<=2^20/\
 ∀l,H l=none->Q (.ref l) (e8 H l (.lst ((r6 lo (hi - lo).toNat).map V.int)))) (ak1 (S5 (fun xs H Q=>∃i j,xs=[.int i,.int j]/\∀p,H p=none->Q (.ref p) (e8 H p (.rng i j))) t) au6)
theorem ba1 {X:Cx}{a b:Expr}{t:TA}{p p2 pos pos2:Pos}(hc:X.calm=true)(hm:X.mg "list"=none)(hm2:X.mg "range"=none)(ha:PA X [a,b] t)(hg:Gl X "list":=by rfl)(hg2:Gl X "range":=by rfl)
   (he:starEach [a,b] X.env=(false,eval a X.env)::starEach [b] X.env:=by rfl) (hpl:(backTo pos2 (starEach [b] X.env)).any (·.1)=false:=by rfl)
   (he2:starEach [.Call (.Name "range" p2) [a,b] [] pos2] X.env=(false,eval (.Call (.Name "range" p2) [a,b] [] pos2) X.env)::starEach [] X.env:=by rfl):
   PE X (.Call (.Name "list" p) [.Call (.Name "range" p2) [a,b] [] pos2] [] pos) (bl9 t):=
 M6 (ab9 hc) hg hm T1 (c5 (M6 az7 hg2 hm2 ah3 ha (by decide) (by decide) he hpl) c6 he2) (by decide) (by decide) he2 rfl
end L2
namespace TS
open PySem PyProof.Rows
section
variable (rk:Keyed->Nat)
def R (xs:Array Keyed)(i:Nat):Nat:=match xs[i]? with
 |some p=>rk p
 |none=>0
def Up (xs:Array Keyed)(lo hi:Nat):Prop:=∀i j,lo<=i->i<=j->j < hi->R rk xs i<=R rk xs j
def ao8 (xs:Array Keyed)(lo hi:Nat):Prop:=∀i j,lo<=i->i<=j->j < hi->R rk xs j<=R rk xs i
end
def A0 (xs ys:Array Keyed)(lo hi:Nat):Prop:=∀k,k < lo\/hi<=k->ys[k]? =xs[k]?
theorem A0.refl (xs:Array Keyed)(lo hi:Nat):A0 xs xs lo hi:=fun _ _=>rfl
theorem A0.trans {xs ys zs:Array Keyed}{lo hi:Nat}(h:A0 xs ys lo hi)(g:A0 ys zs lo hi):A0 xs zs lo hi:=fun k hk=>(g k hk).trans (h k hk)
theorem A0.wide {xs ys:Array Keyed}{lo hi lo' hi':Nat}(h:A0 xs ys lo hi)(h1:lo'<=lo)(h2:hi<=hi'):A0 xs ys lo' hi':=fun k hk=>h k (by omega)
section
variable {rk:Keyed->Nat}
theorem ao9 {xs ys:Array Keyed}{i j:Nat}(h:xs[i]? =ys[j]?):R rk xs i=R rk ys j:=by unfold R;rw[h]
theorem A0.R {xs ys:Array Keyed}{lo hi k:Nat}(h:A0 xs ys lo hi)(hk:k < lo\/hi<=k):TS.R rk ys k=TS.R rk xs k:=ao9 (h k hk)
theorem A0.up {xs ys:Array Keyed}{lo hi a b:Nat}(h:A0 xs ys lo hi)(u:Up rk xs a b)(hk:b<=lo\/hi<=a):Up rk ys a b:=fun i j h1 h2 h3=>by
 rw[h.R (by omega),h.R (by omega)];exact u i j h1 h2 h3
theorem ax0 {xs:Array Keyed}{src d:Nat}(hs:src < xs.size)(hd:d<=src)(k:Nat):
   R rk (bubble xs src d) k=if k=src - d then R rk xs src else if src - d < k/\k<=src then R rk xs (k - 1) else R rk xs k:=by
 have e:=getElem?_bubble hs d hd k
 split
 · rename_i h;rw[if_pos h] at e;exact ao9 e
 · rename_i h;rw[if_neg h] at e
   split
   · rename_i h2;rw[if_pos h2] at e;exact ao9 e
   · rename_i h2;rw[if_neg h2] at e;exact ao9 e
theorem ba2 {xs:Array Keyed}{src d lo hi:Nat}(hs:src < xs.size)(hd:d<=src)(h1:lo<=src - d)(h2:src < hi):A0 xs (bubble xs src d) lo hi:=fun k hk=>by
 rw[getElem?_bubble hs d hd k,if_neg (by omega),if_neg (by omega)]
theorem ai8 {xs:Array Keyed}{i j:Nat}(hj:j<=xs.size)(k:Nat):R rk (mirror xs i j ((j - i)/2)) k=if i<=k/\k < j then R rk xs (i+j - 1 - k) else R rk xs k:=by
 have e:=getElem?_mirror_all (i:=i) hj k
 split
 · rename_i h;rw[if_pos h] at e;exact ao9 e
 · rename_i h;rw[if_neg h] at e;exact ao9 e
theorem Q9 {xs:Array Keyed}{i j lo hi:Nat}(hj:j<=xs.size)(h1:lo<=i)(h2:j<=hi):A0 xs (mirror xs i j ((j - i)/2)) lo hi:=fun k hk=>by
 rw[getElem?_mirror_all hj k,if_neg (by omega)]
theorem J7 {xs:Array Keyed}{i j:Nat}(hj:j<=xs.size)(h:∀k,i<=k->k < j->R rk xs k=R rk xs (j - 1))(k:Nat):R rk (mirror xs i j ((j - i)/2)) k=R rk xs k:=by
 rw[ai8 hj]
 split
 · rw[h _ (by omega) (by omega),h k (by omega) (by omega)]
 · rfl
end
structure Bs (a0:Array Keyed)(κ:SortKind)(st:SortSt):Prop where
 perm:(arrOf st).Perm a0
 kind:kindOf st=κ
 ok:failedOf st=none
theorem Bs.size {a0:Array Keyed}{κ:SortKind}{st:SortSt}(h:Bs a0 κ st):(arrOf st).size=a0.size:=h.perm.size_eq
theorem Bs.set {a0:Array Keyed}{κ:SortKind}{st:SortSt}(h:Bs a0 κ st){xs:Array Keyed}(hp:xs.Perm (arrOf st)):Bs a0 κ (setArr st xs):=⟨hp.trans h.perm,h.kind,h.ok⟩
theorem Bs.mem {a0:Array Keyed}{κ:SortKind}{st:SortSt}(h:Bs a0 κ st){i:Nat}(hi:i < a0.size):∃p,(arrOf st)[i]? =some p/\p∈a0.toList:=by
 have hi':i < (arrOf st).size:=by rw[h.size];exact hi
 exact ⟨(arrOf st)[i],getElem?_pos _ i hi',(cq7.mp h.perm).mem_iff.mp (by simp)⟩
section
variable {prog:Program} {w:World} {A:Around} {E:Value->Shared->Prop} {s:Shared}
def Cm (prog:Program)(w:World)(A:Around)(s:Shared)(κ:SortKind)(rk:Keyed->Nat)(a0:Array Keyed):Prop:=
 ∀x∈a0.toList,∀y∈a0.toList,∀(Q:Bool->Shared->Prop) (E':Value->Shared->Prop),Q (decide (rk x < rk y)) s->wpAny (model prog w) A (keyLt' κ x.1 y.1) Q E' s
variable {rk:Keyed->Nat} {a0:Array Keyed} {κ:SortKind}
theorem am3 {st:SortSt}{x y:Keyed}{Q:Option Bool->SortSt->Prop}(C:Cm prog w A s κ rk a0)(hk:kindOf st=κ)(hx:x∈a0.toList)(hy:y∈a0.toList)(h:Q (some (decide (rk x < rk y))) st):
   wpS (model prog w) A E s (lt' x y) Q st:=by
 rw[lt'_eq];refine wpS_bind (wpS_get ?_);rw[hk];exact wpS_bind (wpS_lift (wpAny_attempt (C x hx y hy _ _ ⟨rfl,wpS_pure h⟩)))
theorem U2 {st:SortSt}{i j:Nat}{Q:Option Bool->SortSt->Prop}(C:Cm prog w A s κ rk a0)(B:Bs a0 κ st)(hi:i < a0.size)(hj:j < a0.size)(h:Q (some (decide (R rk (arrOf st) i < R rk (arrOf st) j))) st):
   wpS (model prog w) A E s (ltAt' i j) Q st:=by
 obtain ⟨x,ex,mx⟩:=B.mem hi;obtain ⟨y,ey,my⟩:=B.mem hj;rw[ltAt'_eq];refine wpS_bind (wpS_get ?_);show wpS _ _ _ _ (do let u <-elem' (arrOf st) i;let v <-elem' (arrOf st) j;lt' u v) Q st;rw[elem'_eq,elem'_eq,ex,ey];refine wpS_bind (wpS_pure (wpS_bind (wpS_pure (am3 C B.kind mx my ?_))));unfold R at h;rw[ex,ey] at h;exact h
theorem am4 {st:SortSt}{i j:Nat}{Q:Unit->SortSt->Prop}(h:Q () (setArr st (mirror (arrOf st) i j ((j - i)/2)))):wpS (model prog w) A E s (reverseSlice' i j) Q st:=by
 rw[reverseSlice'_eq];exact wpS_modify h
theorem cb5 {st:SortSt}{lo n ok:Nat}{Q:Bool->SortSt->Prop}(C:Cm prog w A s κ rk a0)(hn:lo+n<=a0.size)(hok:ok<=n)(B:Bs a0 κ st)(hs:Up rk (arrOf st) lo (lo+ok))
   (h:∀st',Bs a0 κ st'->Up rk (arrOf st') lo (lo+n)->A0 (arrOf st) (arrOf st') lo (lo+n)->pendingOf st'=pendingOf st->Q true st'):wpS (model prog w) A E s (binarySort' lo n ok) Q st:=by
 rw[binarySort'_eq]
 refine wpS_bind (wpS_mono (wpS_forRange (I:=fun k c t=>c=(none,())/\Bs a0 κ t/\Up rk (arrOf t) lo (lo+min k n)/\A0 (arrOf st) (arrOf t) lo (lo+n)/\pendingOf t=pendingOf st)
   (Q:=fun c t=>c=(none,())/\Bs a0 κ t/\Up rk (arrOf t) lo (lo+n)/\A0 (arrOf st) (arrOf t) lo (lo+n)/\pendingOf t=pendingOf st) ?step ?fin ?init) ?post)
 case post=>
   rintro c t ⟨rfl,B',u,k,p⟩;exact wpS_pure (h t B' u k p)
 case init=>
   refine ⟨rfl,B,fun i j h1 h2 h3=> ?_,A0.refl _ _ _,rfl⟩
   by_cases z:ok=0
   · have:i=j:=by omega
     rw[this];exact ck8 _
   · exact hs i j h1 h2 (by omega)
 case fin=>
   rintro c t ⟨hc,B',u,k,p⟩;refine ⟨hc,B',?_,k,p⟩
   rwa [show min (max (max ok 1) n) n=n by omega] at u
 case step=>
   rintro k c t h1 h2 ⟨rfl,B',u,kp,pe⟩;rw[show min k n=k by omega] at u
   refine wpS_bind (wpS_mono (wpS_forRange (I:=fun x c t'=>t'=t/\∃l r,c=(none,l,r)/\l<=r/\r<=k/\r - l<=k - x/\
       (∀i,i < l->R rk (arrOf t) (lo+i)<=R rk (arrOf t) (lo+k))/\(∀i,r<=i->i < k->R rk (arrOf t) (lo+k) < R rk (arrOf t) (lo+i)))
     (Q:=fun c t'=>t'=t/\∃l r,c=(none,l,r)/\l<=k/\(∀i,i < l->R rk (arrOf t) (lo+i)<=R rk (arrOf t) (lo+k))/\(∀i,l<=i->i < k->R rk (arrOf t) (lo+k) < R rk (arrOf t) (lo+i))) ?st2 ?fin2 ?init2) ?post2)
   case init2=>exact ⟨rfl,0,k,rfl,by omega,by omega,by omega,fun i hi=>by omega,fun i h1 h2=>by omega⟩
   case fin2=>
     rintro c t' ⟨rfl,l,r,rfl,a1,a2,a3,a4,a5⟩
     have:l=r:=by omega
     subst this;exact ⟨rfl,l,l,rfl,a2,a4,a5⟩
   case st2=>
     rintro x c t' _ hx ⟨rfl,l,r,rfl,a1,a2,a3,a4,a5⟩
     dsimp only
     by_cases z:l≥r
     · rw[if_pos z]
       have:l=r:=by omega
       subst this;exact wpS_pure ⟨rfl,l,l,rfl,a2,a4,a5⟩
     · rw[if_neg z];refine wpS_bind (U2 C B' (by omega) (by omega) ?_)
       by_cases y:R rk (arrOf t') (lo+k) < R rk (arrOf t') (lo+(l+r)/2)
       · simp only[y,decide_true,if_true];refine wpS_pure ⟨rfl,l,(l+r)/2,rfl,by omega,by omega,by omega,a4,fun i b1 b2=> ?_⟩;have:=u (lo+(l+r)/2) (lo+i) (by omega) (by omega) (by omega);omega
       · simp only[y,decide_false,cq1,if_false];refine wpS_pure ⟨rfl,(l+r)/2+1,r,rfl,by omega,by omega,by omega,fun i b1=> ?_,a5⟩;have:=u (lo+i) (lo+(l+r)/2) (by omega) (by omega) (by omega);omega
   case post2=>
     rintro c t' ⟨rfl,l,r,rfl,a1,a2,a3⟩;show wpS _ _ _ _ (do moveDown' (lo+k) (lo+l);pure (ForInStep.yield (none,()))) _ _;rw[moveDown'_eq]
     have hz:lo+k < (arrOf t').size:=by rw[B'.size];omega
     refine wpS_bind (wpS_modify (wpS_pure ⟨rfl,B'.set (bubble_perm _ _ _),?_,kp.trans (ba2 hz (by omega) (by omega) (by omega)),pe⟩));rw[show min (k+1) n=k+1 by omega];intro i j b1 b2 b3;show R rk (bubble (arrOf t') (lo+k) (lo+k - (lo+l))) i<=R rk (bubble (arrOf t') (lo+k) (lo+k - (lo+l))) j
     have f1:∀i,lo<=i->i < lo+l->R rk (arrOf t') i<=R rk (arrOf t') (lo+k):=fun i c1 c2=>by have:=a2 (i - lo) (by omega);rwa [show lo+(i - lo)=i by omega] at this
     have f2:∀i,lo+l<=i->i < lo+k->R rk (arrOf t') (lo+k) < R rk (arrOf t') i:=fun i c1 c2=>by have:=a3 (i - lo) (by omega) (by omega);rwa [show lo+(i - lo)=i by omega] at this
     rw[ax0 hz (by omega),ax0 hz (by omega),show lo+k - (lo+k - (lo+l))=lo+l by omega]
     repeat' split
     all_goals first
       |(exfalso;omega)
       |exact ck8 _
       |exact f1 _ (by omega) (by omega)
       |exact cn8 (f2 _ (by omega) (by omega))
       |exact u _ _ (by omega) (by omega) (by omega)
end
end TS
namespace TS
open PySem PyProof.Rows
section
variable {prog:Program} {w:World} {A:Around} {E:Value->Shared->Prop} {s:Shared}
variable {rk:Keyed->Nat} {a0:Array Keyed} {κ:SortKind}
theorem bm0 {xs:Array Keyed}{lo x:Nat}(u:Up rk xs lo (lo+x))(x1:1<=x)(h:¬R rk xs (lo+x) < R rk xs (lo+x - 1)):Up rk xs lo (lo+(x+1)):=fun i j h1 h2 h3=>by
 by_cases hj:j < lo+x
 · exact u i j h1 h2 hj
 · have e:j=lo+x:=by omega
   subst e
   by_cases hi:i=lo+x
   · rw[hi];exact ck8 _
   · have:=u i (lo+x - 1) h1 (by omega) (by omega);omega
theorem V9 {xs:Array Keyed}{lo x:Nat}(u:ao8 rk xs lo (lo+x))(x1:1<=x)(h:R rk xs (lo+x)<=R rk xs (lo+x - 1)):ao8 rk xs lo (lo+(x+1)):=fun i j h1 h2 h3=>by
 by_cases hj:j < lo+x
 · exact u i j h1 h2 hj
 · have e:j=lo+x:=by omega
   subst e
   by_cases hi:i=lo+x
   · rw[hi];exact ck8 _
   · have:=u i (lo+x - 1) h1 (by omega) (by omega);omega
def bq8 (a0:Array Keyed)(κ:SortKind)(rk:Keyed->Nat)(lo nrem:Nat)(st:SortSt)(r:Option Nat)(t:SortSt):Prop:=
 ∃m,r=some m/\Bs a0 κ t/\1<=m/\m<=nrem/\Up rk (arrOf t) lo (lo+m)/\A0 (arrOf st) (arrOf t) lo (lo+nrem)/\pendingOf t=pendingOf st
theorem cb6 {st:SortSt}{lo nrem:Nat}(C:Cm prog w A s κ rk a0)(hn:lo+nrem<=a0.size)(n1:1<=nrem)(B:Bs a0 κ st):wpS (model prog w) A E s (countRun' lo nrem) (bq8 a0 κ rk lo nrem st) st:=by
 rw[countRun'_eq]
 refine wpS_bind (wpS_mono (wpS_forRange (I:=fun x c t=>t=st/\c=(none,x)/\Up rk (arrOf st) lo (lo+x))
   (Q:=fun c t=>t=st/\∃n,c=(none,n)/\1<=n/\n<=nrem/\Up rk (arrOf st) lo (lo+n)/\(n=nrem\/R rk (arrOf st) (lo+n) < R rk (arrOf st) (lo+n - 1))) ?step ?fin
   ⟨rfl,rfl,fun i j h1 h2 h3=>by rw[show i=j by omega];exact ck8 _⟩) ?post)
 case fin=>
   rintro c t ⟨rfl,rfl,u⟩;rw[show max 1 nrem=nrem by omega] at u ⊢;exact ⟨rfl,nrem,rfl,n1,ck8 _,u,.inl rfl⟩
 case step=>
   rintro x c t x1 xn ⟨rfl,rfl,u⟩
   dsimp only
   refine wpS_bind (U2 C B (by omega) (by omega) ?_)
   by_cases y:R rk (arrOf t) (lo+x) < R rk (arrOf t) (lo+x - 1)
   · simp only[y,decide_true,if_true];exact wpS_pure ⟨rfl,x,rfl,x1,by omega,u,.inr y⟩
   · simp only[y,decide_false,cq1,if_false];exact wpS_pure ⟨rfl,rfl,bm0 u x1 y⟩
 case post=>
   rintro c t ⟨rfl,n,rfl,m1,mn,u,hor⟩
   dsimp only
   by_cases z:n=nrem
   · rw[if_pos (by simpa using z)];exact wpS_pure ⟨n,rfl,B,m1,mn,u,A0.refl _ _ _,rfl⟩
   · rw[if_neg (by simpa using z)];have lt:=hor.resolve_left z
     suffices D:∀t',Bs a0 κ t'->ao8 rk (arrOf t') lo (lo+(n+1))->A0 (arrOf t) (arrOf t') lo (lo+nrem)->pendingOf t'=pendingOf t->wpS (model prog w) A E s _ (bq8 a0 κ rk lo nrem t) t' by
       by_cases g:n > 1
       · rw[if_pos g];refine wpS_bind (U2 C B (by omega) (by omega) ?_)
         by_cases y:R rk (arrOf t) lo < R rk (arrOf t) (lo+n - 1)
         · simp only[y,decide_true,if_true];exact wpS_pure ⟨n,rfl,B,m1,mn,u,A0.refl _ _ _,rfl⟩
         · simp only[y,decide_false,cq1,if_false]
           have hz:lo+n<=(arrOf t).size:=by rw[B.size];omega
           have all:∀k,lo<=k->k < lo+n->R rk (arrOf t) k=R rk (arrOf t) (lo+n - 1):=fun k h1 h2=>by
             have a1:=u lo k (by omega) h1 h2;have a2:=u k (lo+n - 1) h1 (by omega) (by omega);omega
           refine wpS_bind (am4 (D _ (B.set (mirror_perm _ _ _ _)) ?_ (Q9 hz (ck8 _) (by omega)) rfl));refine V9 (fun i j h1 h2 h3=> ?_) m1 ?_
           · show R rk (mirror (arrOf t) _ _ _) j<=R rk (mirror (arrOf t) _ _ _) i;rw[J7 hz all,J7 hz all,all i h1 (by omega),all j (by omega) h3];exact ck8 _
           · show R rk (mirror (arrOf t) _ _ _) _<=R rk (mirror (arrOf t) _ _ _) _;rw[J7 hz all,J7 hz all];omega
       · rw[if_neg g];refine D _ B (V9 (fun i j h1 h2 h3=>by rw[show i=j by omega];exact ck8 _) m1 (by omega)) (A0.refl _ _ _) rfl
     intro t1 B1 d1 k1 p1;refine wpS_bind (wpS_lift (wpAny_rule ⟨rfl,?_⟩))
     refine wpS_bind (wpS_mono (wpS_forRange (I:=fun x c t'=>∃q,c=(none,x,q)/\Bs a0 κ t'/\ao8 rk (arrOf t') lo (lo+x)/\q+1<=x/\(∀i,lo+x - (q+1)<=i->i < lo+x->R rk (arrOf t') i=R rk (arrOf t') (lo+x - 1))/\A0 (arrOf t) (arrOf t') lo (lo+nrem)/\pendingOf t'=pendingOf t)
       (Q:=fun c t'=>∃x q,c=(none,x,q)/\n+1<=x/\x<=nrem/\Bs a0 κ t'/\ao8 rk (arrOf t') lo (lo+x)/\q+1<=x/\(∀i,lo+x - (q+1)<=i->i < lo+x->R rk (arrOf t') i=R rk (arrOf t') (lo+x - 1))/\A0 (arrOf t) (arrOf t') lo (lo+nrem)/\pendingOf t'=pendingOf t) ?step2 ?fin2
       ⟨0,rfl,B1,d1,by omega,(fun i h1 h2=>by rw[show i=lo+(n+1) - 1 by omega]),k1,p1⟩) ?post2)
     case fin2=>
       rintro c t' ⟨q,rfl,B',d,q1,al,k,p⟩;rw[show max (n+1) nrem=nrem by omega] at d q1 al ⊢;exact ⟨nrem,q,rfl,by omega,ck8 _,B',d,q1,al,k,p⟩
     case step2=>
       rintro x c t' x1 xn ⟨q,rfl,B',d,q1,al,k,p⟩
       dsimp only
       have hz:lo+x<=(arrOf t').size:=by rw[B'.size];omega
       refine wpS_bind (U2 C B' (by omega) (by omega) ?_)
       by_cases y:R rk (arrOf t') (lo+x) < R rk (arrOf t') (lo+x - 1)
       · simp only[y,decide_true,if_true]
         by_cases g:q > 0
         · rw[if_pos g];refine wpS_bind (am4 (wpS_pure ⟨0,rfl,B'.set (mirror_perm _ _ _ _),?_,by omega,(fun i h1 h2=>by rw[show i=lo+(x+1) - 1 by omega]),k.trans (Q9 hz (by omega) (by omega)),p⟩));refine V9 (fun i j h1 h2 h3=> ?_) (by omega) ?_
           · show R rk (mirror (arrOf t') _ _ _) j<=R rk (mirror (arrOf t') _ _ _) i;rw[J7 hz al,J7 hz al];exact d i j h1 h2 h3
           · show R rk (mirror (arrOf t') _ _ _) _<=R rk (mirror (arrOf t') _ _ _) _;rw[J7 hz al,J7 hz al];omega
         · rw[if_neg g];exact wpS_pure ⟨0,rfl,B',V9 d (by omega) (by omega),by omega,(fun i h1 h2=>by rw[show i=lo+(x+1) - 1 by omega]),k,p⟩
       · simp only[y,decide_false,cq1,if_false];refine wpS_bind (U2 C B' (by omega) (by omega) ?_)
         by_cases g:R rk (arrOf t') (lo+x - 1) < R rk (arrOf t') (lo+x)
         · simp only[g,decide_true,if_true];exact wpS_pure ⟨x,q,rfl,x1,by omega,B',d,q1,al,k,p⟩
         · simp only[g,decide_false,cq1,if_false]
           have e:R rk (arrOf t') (lo+x)=R rk (arrOf t') (lo+x - 1):=by omega
           refine wpS_pure ⟨q+1,rfl,B',V9 d (by omega) (by omega),by omega,fun i h1 h2=> ?_,k,p⟩;rw[show lo+(x+1) - 1=lo+x by omega]
           by_cases hi:i=lo+x
           · rw[hi]
           · rw[e];exact al i (by omega) (by omega)
     case post2=>
       rintro c t2 ⟨x,q,rfl,x1,xn,B2,d,q1,al,k2,p2⟩
       dsimp only
       have hz:lo+x<=(arrOf t2).size:=by rw[B2.size];omega
       suffices T:∀t3,Bs a0 κ t3->ao8 rk (arrOf t3) lo (lo+x)->A0 (arrOf t) (arrOf t3) lo (lo+nrem)->pendingOf t3=pendingOf t->wpS (model prog w) A E s _ (bq8 a0 κ rk lo nrem t) t3 by
         by_cases g:q > 0
         · rw[if_pos g];refine wpS_bind (am4 (T _ (B2.set (mirror_perm _ _ _ _)) (fun i j h1 h2 h3=> ?_) (k2.trans (Q9 hz (by omega) (by omega))) p2));show R rk (mirror (arrOf t2) _ _ _) j<=R rk (mirror (arrOf t2) _ _ _) i;rw[J7 hz al,J7 hz al];exact d i j h1 h2 h3
         · rw[if_neg g];exact T _ B2 d k2 p2
       intro t3 B3 d3 k3 p3
       have hz3:lo+x<=(arrOf t3).size:=by rw[B3.size];omega
       refine wpS_bind (am4 ?_);have B4:=B3.set (mirror_perm (arrOf t3) lo (lo+x) ((lo+x - lo)/2))
       have u4:Up rk (arrOf (setArr t3 (mirror (arrOf t3) lo (lo+x) ((lo+x - lo)/2)))) lo (lo+x):=fun i j h1 h2 h3=>by
         show R rk (mirror (arrOf t3) _ _ _) i<=R rk (mirror (arrOf t3) _ _ _) j;rw[ai8 hz3,ai8 hz3,if_pos (by omega),if_pos (by omega)];exact d3 _ _ (by omega) (by omega) (by omega)
       have k4:A0 (arrOf t) (arrOf (setArr t3 (mirror (arrOf t3) lo (lo+x) ((lo+x - lo)/2)))) lo (lo+nrem):=k3.trans (Q9 hz3 (ck8 _) (by omega));have p4:pendingOf (setArr t3 (mirror (arrOf t3) lo (lo+x) ((lo+x - lo)/2)))=pendingOf t:=p3;generalize setArr t3 (mirror (arrOf t3) lo (lo+x) ((lo+x - lo)/2))=t4 at B4 u4 k4 p4 ⊢;refine wpS_bind (wpS_mono (wpS_forRange (I:=fun y c t'=>t'=t4/\c=(none,y)/\Up rk (arrOf t4) lo (lo+y)) (Q:=fun c t'=>t'=t4/\∃y,c=(none,y)/\x<=y/\y<=nrem/\Up rk (arrOf t4) lo (lo+y)) ?step3 ?fin3 ⟨rfl,rfl,u4⟩) ?post3)
       case fin3=>
         rintro c t' ⟨rfl,rfl,v⟩;rw[show max x nrem=nrem by omega] at v ⊢;exact ⟨rfl,nrem,rfl,xn,ck8 _,v⟩
       case step3=>
         rintro y c t' y1 yn ⟨rfl,rfl,v⟩
         dsimp only
         refine wpS_bind (U2 C B4 (by omega) (by omega) ?_)
         by_cases g:R rk (arrOf t') (lo+y) < R rk (arrOf t') (lo+y - 1)
         · simp only[g,decide_true,if_true];exact wpS_pure ⟨rfl,y,rfl,y1,by omega,v⟩
         · simp only[g,decide_false,cq1,if_false];exact wpS_pure ⟨rfl,rfl,bm0 v (by omega) g⟩
       case post3=>
         rintro c t' ⟨rfl,y,rfl,y1,yn,v⟩;exact wpS_pure ⟨y,rfl,B4,by omega,yn,v,k4,p4⟩
end
end TS
namespace TS
open PySem PyProof.Rows
def gal:Bool->Keyed->Array Keyed->Nat->Nat->Nat->StateT SortSt Sem (Option Nat):=sortPriv%PySem.Builtin.gallop
section
variable {prog:Program} {w:World} {A:Around} {E:Value->Shared->Prop} {s:Shared}
variable {rk:Keyed->Nat} {a0:Array Keyed} {κ:SortKind}
def A4 (rk:Keyed->Nat)(left:Bool)(key:Keyed)(arr:Array Keyed)(base i:Nat):Bool:=if left then decide (R rk arr (base+i) < rk key) else !decide (rk key < R rk arr (base+i))
theorem K4 {left:Bool}{key:Keyed}{arr:Array Keyed}{base n i j:Nat}(u:Up rk arr base (base+n))(h1:i<=j)(h2:j < n)(h:A4 rk left key arr base j=true):A4 rk left key arr base i=true:=by
 have:=u (base+i) (base+j) (by omega) (by omega) (by omega);unfold A4 at h ⊢;cases left
 · simp at h ⊢;omega
 · simp at h ⊢;omega
theorem x8 {arr:Array Keyed}{i:Nat}{st:SortSt}{Q:Keyed->SortSt->Prop}{p:Keyed}(h:arr[i]? =some p)(q:Q p st):wpS (model prog w) A E s (elem' arr i) Q st:=by
 rw[elem'_eq,h];exact wpS_pure q
def In0 (a0 arr:Array Keyed):Prop:=∀x∈arr.toList,x∈a0.toList
theorem In0.at {arr:Array Keyed}(h:In0 a0 arr){i:Nat}(hi:i < arr.size):∃p,arr[i]? =some p/\p∈a0.toList:=⟨arr[i],getElem?_pos _ i hi,h _ (by simp)⟩
theorem C3 {arr:Array Keyed}{i:Nat}{p:Keyed}(h:arr[i]? =some p):R rk arr i=rk p:=by unfold R;rw[h]
theorem Y7 {st:SortSt}{left:Bool}{key:Keyed}{arr:Array Keyed}{base n hint:Nat}{Q:Option Nat->SortSt->Prop}(C:Cm prog w A s κ rk a0)(hk:kindOf st=κ)(ia:In0 a0 arr)(ik:key∈a0.toList)(hz:base+n<=arr.size)(hh:hint < n)
   (u:Up rk arr base (base+n)) (h:∀k,k<=n->(∀i,i < k->A4 rk left key arr base i=true)->(∀i,k<=i->i < n->A4 rk left key arr base i=false)->Q (some k) st):wpS (model prog w) A E s (gal left key arr base n hint) Q st:=by
 have by0:∀(i:Nat) (Q':Option Bool->SortSt->Prop),i < n->Q' (some (A4 rk left key arr base i)) st->wpS (model prog w) A E s (do let x <-elem' arr (base+i);if left then lt' x key else return (<-lt' key x).map (!·)) Q' st:=by
   intro i Q' hi q;obtain ⟨p,e,m⟩:=ia.at (show base+i < arr.size by omega);refine wpS_bind (x8 e ?_);unfold A4 at q;rw[C3 e] at q
   cases left with
   |true=>
    rw[if_pos rfl] at q ⊢;exact am3 C hk m ik q
   |false=>
    rw[if_neg (by decide)] at q ⊢;exact wpS_bind (am3 C hk ik m (wpS_pure q))
 refine wpS_bind (by0 hint _ hh ?_)
 cases hr:A4 rk left key arr base hint with
 |true=>
  dsimp only
  rw[if_pos rfl]
  refine wpS_bind (wpS_mono (wpS_forRange (I:=fun x c t=>t=st/\∃l o,c=(none,l,o)/\l < o/\l < n - hint/\x+1<=o/\A4 rk left key arr base (hint+l)=true)
    (Q:=fun c t=>t=st/\∃l o,c=(none,l,o)/\l < o/\l < n - hint/\A4 rk left key arr base (hint+l)=true/\(n - hint<=o\/A4 rk left key arr base (hint+o)=false)) ?step ?fin ⟨rfl,0,1,rfl,by omega,by omega,by omega,hr⟩) ?post)
  case fin=>
    rintro c t ⟨rfl,l,o,rfl,a1,a2,a3,a4⟩;exact ⟨rfl,l,o,rfl,a1,a2,a4,.inl (by omega)⟩
  case step=>
    rintro x c t _ xn ⟨rfl,l,o,rfl,a1,a2,a3,a4⟩
    dsimp only
    by_cases z:o≥n - hint
    · rw[if_pos z];exact wpS_pure ⟨rfl,l,o,rfl,a1,a2,a4,.inl z⟩
    · rw[if_neg z];refine wpS_bind (by0 (hint+o) _ (by omega) ?_)
      cases y:A4 rk left key arr base (hint+o) with
      |true=>
       dsimp only
       rw[if_neg (by decide)];exact wpS_pure ⟨rfl,_,_,rfl,by omega,by omega,by omega,y⟩
      |false=>
       dsimp only
       rw[if_pos (by decide)];exact wpS_pure ⟨rfl,l,o,rfl,a1,a2,a4,.inr y⟩
  case post=>
    rintro c t ⟨ht,l,o,rfl,a1,a2,a3,a4⟩;obtain rfl:=ht.symm
    dsimp only
    have le1:hint+l+1<=hint+min o (n - hint):=by omega
    have le2:hint+min o (n - hint)<=n:=by omega
    have b1:∀i,i < hint+l+1->A4 rk left key arr base i=true:=fun i h1=>K4 u (show i<=hint+l by omega) (by omega) a3
    have b2:∀i,hint+min o (n - hint)<=i->i < n->A4 rk left key arr base i=false:=fun i h1 h2=>by
      rcases a4 with a4|a4
      · omega
      · cases y':A4 rk left key arr base i with
        |false=>rfl
        |true=>rw[K4 u (show hint+o<=i by omega) h2 y'] at a4;cases a4
    refine wpS_bind (wpS_mono (wpS_forRange (I:=fun x c t=>t=st/\∃lo hi,c=(none,lo,hi)/\lo<=hi/\hi<=n/\hi - lo<=n - x/\(∀i,i < lo->A4 rk left key arr base i=true)/\(∀i,hi<=i->i < n->A4 rk left key arr base i=false))
      (Q:=fun c t=>t=st/\∃lo hi,c=(none,lo,hi)/\hi<=n/\(∀i,i < hi->A4 rk left key arr base i=true)/\(∀i,hi<=i->i < n->A4 rk left key arr base i=false)) ?stepB ?finB ⟨rfl,_,_,rfl,le1,le2,by omega,b1,b2⟩) ?postB)
    case finB=>
      rintro c t ⟨rfl,lo,hi,rfl,a1,a2,a3,a4,a5⟩;rw[show lo=hi by omega] at a4;exact ⟨rfl,lo,hi,rfl,a2,a4,a5⟩
    case stepB=>
      rintro x c t _ xn ⟨rfl,lo,hi,rfl,a1,a2,a3,a4,a5⟩
      dsimp only
      by_cases z:lo≥hi
      · rw[if_pos z];rw[show lo=hi by omega] at a4;exact wpS_pure ⟨rfl,lo,hi,rfl,a2,a4,a5⟩
      · rw[if_neg z];refine wpS_bind (by0 (lo+(hi - lo)/2) _ (by omega) ?_)
        cases y:A4 rk left key arr base (lo+(hi - lo)/2) with
        |true=>
         dsimp only
         rw[if_pos rfl];exact wpS_pure ⟨rfl,_,_,rfl,by omega,a2,by omega,fun i h1=>K4 u (show i<=lo+(hi - lo)/2 by omega) (by omega) y,a5⟩
        |false=>
         dsimp only
         rw[if_neg (by decide)];refine wpS_pure ⟨rfl,_,_,rfl,by omega,by omega,by omega,a4,fun i h1 h2=> ?_⟩
         cases y':A4 rk left key arr base i with
         |false=>rfl
         |true=>rw[K4 u h1 h2 y'] at y;cases y
    case postB=>
      rintro c t ⟨rfl,lo,hi,rfl,a1,a2,a3⟩;exact wpS_pure (h hi a1 a2 a3)
 |false=>
  dsimp only
  rw[if_neg (by decide)]
  refine wpS_bind (wpS_mono (wpS_forRange (I:=fun x c t=>t=st/\∃l o,c=(none,l,o)/\l < o/\l < hint+1/\x+1<=o/\A4 rk left key arr base (hint - l)=false)
    (Q:=fun c t=>t=st/\∃l o,c=(none,l,o)/\l < o/\l < hint+1/\A4 rk left key arr base (hint - l)=false/\(hint+1<=o\/A4 rk left key arr base (hint - o)=true)) ?step ?fin ⟨rfl,0,1,rfl,by omega,by omega,by omega,hr⟩) ?post)
  case fin=>
    rintro c t ⟨rfl,l,o,rfl,a1,a2,a3,a4⟩;exact ⟨rfl,l,o,rfl,a1,a2,a4,.inl (by omega)⟩
  case step=>
    rintro x c t _ xn ⟨rfl,l,o,rfl,a1,a2,a3,a4⟩
    dsimp only
    by_cases z:o≥hint+1
    · rw[if_pos z];exact wpS_pure ⟨rfl,l,o,rfl,a1,a2,a4,.inl z⟩
    · rw[if_neg z];refine wpS_bind (by0 (hint - o) _ (by omega) ?_)
      cases y:A4 rk left key arr base (hint - o) with
      |false=>
       dsimp only
       rw[if_neg (by decide)];exact wpS_pure ⟨rfl,_,_,rfl,by omega,by omega,by omega,y⟩
      |true=>
       dsimp only
       rw[if_pos rfl];exact wpS_pure ⟨rfl,l,o,rfl,a1,a2,a4,.inr y⟩
  case post=>
    rintro c t ⟨ht,l,o,rfl,a1,a2,a3,a4⟩;obtain rfl:=ht.symm
    dsimp only
    have le1:hint+1 - min o (hint+1)<=hint - l:=by omega
    have le2:hint - l<=n:=by omega
    have b1:∀i,i < hint+1 - min o (hint+1)->A4 rk left key arr base i=true:=fun i h1=>by
      rcases a4 with a4|a4
      · omega
      · exact K4 u (show i<=hint - o by omega) (by omega) a4
    have b2:∀i,hint - l<=i->i < n->A4 rk left key arr base i=false:=fun i h1 h2=>by
      cases y':A4 rk left key arr base i with
      |false=>rfl
      |true=>rw[K4 u h1 h2 y'] at a3;cases a3
    refine wpS_bind (wpS_mono (wpS_forRange (I:=fun x c t=>t=st/\∃lo hi,c=(none,lo,hi)/\lo<=hi/\hi<=n/\hi - lo<=n - x/\(∀i,i < lo->A4 rk left key arr base i=true)/\(∀i,hi<=i->i < n->A4 rk left key arr base i=false))
      (Q:=fun c t=>t=st/\∃lo hi,c=(none,lo,hi)/\hi<=n/\(∀i,i < hi->A4 rk left key arr base i=true)/\(∀i,hi<=i->i < n->A4 rk left key arr base i=false)) ?stepB ?finB ⟨rfl,_,_,rfl,le1,le2,by omega,b1,b2⟩) ?postB)
    case finB=>
      rintro c t ⟨rfl,lo,hi,rfl,a1,a2,a3,a4,a5⟩;rw[show lo=hi by omega] at a4;exact ⟨rfl,lo,hi,rfl,a2,a4,a5⟩
    case stepB=>
      rintro x c t _ xn ⟨rfl,lo,hi,rfl,a1,a2,a3,a4,a5⟩
      dsimp only
      by_cases z:lo≥hi
      · rw[if_pos z];rw[show lo=hi by omega] at a4;exact wpS_pure ⟨rfl,lo,hi,rfl,a2,a4,a5⟩
      · rw[if_neg z];refine wpS_bind (by0 (lo+(hi - lo)/2) _ (by omega) ?_)
        cases y:A4 rk left key arr base (lo+(hi - lo)/2) with
        |true=>
         dsimp only
         rw[if_pos rfl];exact wpS_pure ⟨rfl,_,_,rfl,by omega,a2,by omega,fun i h1=>K4 u (show i<=lo+(hi - lo)/2 by omega) (by omega) y,a5⟩
        |false=>
         dsimp only
         rw[if_neg (by decide)];refine wpS_pure ⟨rfl,_,_,rfl,by omega,by omega,by omega,a4,fun i h1 h2=> ?_⟩
         cases y':A4 rk left key arr base i with
         |false=>rfl
         |true=>rw[K4 u h1 h2 y'] at y;cases y
    case postB=>
      rintro c t ⟨rfl,lo,hi,rfl,a1,a2,a3⟩;exact wpS_pure (h hi a1 a2 a3)
end
end TS
namespace TS
open PySem PyProof.Rows
section
variable {rk:Keyed->Nat}
def Le (rk:Keyed->Nat)(x y:Keyed):Prop:=rk x<=rk y
section
variable {le:Keyed->Keyed->Prop}
def C4 (le:Keyed->Keyed->Prop)(l:List Keyed):Prop:=l.Pairwise le
structure Mi (le:Keyed->Keyed->Prop)(a b out:List Keyed)(i j:Nat):Prop where
 pm:out.Perm (a.take i++b.take j)
 up:C4 le out
 ba:∀x∈out,∀y∈a.drop i,le x y
 bb:∀x∈out,∀y∈b.drop j,le x y
theorem M9 {l m:List Keyed}:C4 le (l++m)↔C4 le l/\C4 le m/\∀x∈l,∀y∈m,le x y:=List.pairwise_append
theorem W0 {l:List Keyed}(h:C4 le l)(i:Nat):C4 le (l.drop i):=List.Pairwise.sublist (List.drop_sublist i l) h
theorem af9 {l:List Keyed}{i:Nat}{x:Keyed}(h:l[i]? =some x):l.drop i=x::l.drop (i+1):=by
 obtain ⟨hi,e⟩:=ck7.mp h;rw[cr9 hi,e]
theorem ap0 {l:List Keyed}{i:Nat}{x:Keyed}(h:l[i]? =some x):l.take (i+1)=l.take i++[x]:=by rw[List.take_succ,h];rfl
theorem Q2 (rf:∀x,le x x){l:List Keyed}(s:C4 le l){i:Nat}{x:Keyed}(h:l[i]? =some x):∀y∈l.drop i,le x y:=fun y hy=>by
 have:=W0 s i;rw[af9 h] at this hy
 rcases co0.mp hy with e|e
 · rw[e];exact rf _
 · exact (List.pairwise_cons.mp this).1 y e
theorem Mi.pushA (rf:∀x,le x x){a b out:List Keyed}{i j:Nat}{x:Keyed}(h:Mi le a b out i j)(sa:C4 le a)(hx:a[i]? =some x)(hb:∀y∈b.drop j,le x y):Mi le a b (out++[x]) (i+1) j:=by
 have da:=af9 hx
 have mx:x∈a.drop i:=by rw[da];exact cl4
 refine ⟨?_,?_,?_,?_⟩
 · rw[ap0 hx,cm2];refine (h.pm.append_right [x]).trans ?_;rw[cm2];exact List.Perm.append_left _ cq9
 · refine M9.mpr ⟨h.up,cs7 _ _,fun y hy z hz=> ?_⟩;rw[co1.mp hz];exact h.ba y hy x mx
 · intro y hy z hz
   have hz':z∈a.drop i:=by rw[da];exact cl1 _ hz
   rcases cm1.mp hy with e|e
   · exact h.ba y e z hz'
   · rw[co1.mp e];exact Q2 rf sa hx z hz'
 · intro y hy z hz
   rcases cm1.mp hy with e|e
   · exact h.bb y e z hz
   · rw[co1.mp e];exact hb z hz
theorem Mi.pushB (rf:∀x,le x x){a b out:List Keyed}{i j:Nat}{x:Keyed}(h:Mi le a b out i j)(sb:C4 le b)(hx:b[j]? =some x)(ha:∀y∈a.drop i,le x y):Mi le a b (out++[x]) i (j+1):=by
 have db:=af9 hx
 have mx:x∈b.drop j:=by rw[db];exact cl4
 refine ⟨?_,?_,?_,?_⟩
 · rw[ap0 hx,<-cm2];exact h.pm.append_right [x]
 · refine M9.mpr ⟨h.up,cs7 _ _,fun y hy z hz=> ?_⟩;rw[co1.mp hz];exact h.bb y hy x mx
 · intro y hy z hz
   rcases cm1.mp hy with e|e
   · exact h.ba y e z hz
   · rw[co1.mp e];exact ha z hz
 · intro y hy z hz
   have hz':z∈b.drop j:=by rw[db];exact cl1 _ hz
   rcases cm1.mp hy with e|e
   · exact h.bb y e z hz'
   · rw[co1.mp e];exact Q2 rf sb hx z hz'
theorem ax1 {l:List Keyed}{i k:Nat}{x:Keyed}(h:l[i+k]? =some x):(l.take (i+(k+1))).drop i=(l.take (i+k)).drop i++[x]:=by
 have hl:=(ck7.mp h).1;rw[show i+(k+1)=(i+k)+1 by omega,ap0 h,cw0 (by rw[cl8];omega)]
theorem Mi.manyA (rf:∀x,le x x){a b out:List Keyed}{i j:Nat}(h:Mi le a b out i j)(sa:C4 le a):∀k,i+k<=a.length->(∀n x,n < k->a[i+n]? =some x->∀y∈b.drop j,le x y)->Mi le a b (out++(a.take (i+k)).drop i) (i+k) j
 |0,_,_=>by rw[ct5,cr5 (by rw[cl8];omega),cp1];exact h
 |k+1,hl,hc=>by
  have e:a[i+k]? =some a[i+k]:=ck6 (by omega);rw[ax1 e,<-cm2,show i+(k+1)=i+k+1 by omega];exact (Mi.manyA rf h sa k (by omega) fun n x hn=>hc n x (by omega)).pushA rf sa e (hc k _ (by omega) e)
theorem Mi.manyB (rf:∀x,le x x){a b out:List Keyed}{i j:Nat}(h:Mi le a b out i j)(sb:C4 le b):∀k,j+k<=b.length->(∀n x,n < k->b[j+n]? =some x->∀y∈a.drop i,le x y)->Mi le a b (out++(b.take (j+k)).drop j) i (j+k)
 |0,_,_=>by rw[ct5,cr5 (by rw[cl8];omega),cp1];exact h
 |k+1,hl,hc=>by
  have e:b[j+k]? =some b[j+k]:=ck6 (by omega);rw[ax1 e,<-cm2,show j+(k+1)=j+k+1 by omega];exact (Mi.manyB rf h sb k (by omega) fun n x hn=>hc n x (by omega)).pushB rf sb e (hc k _ (by omega) e)
def Mg (le:Keyed->Keyed->Prop)(a b r:List Keyed):Prop:=r.Perm (a++b)/\C4 le r
theorem ad5 (a b out:List Keyed)(i j:Nat)(h:out.Perm (a.take i++b.take j)):(out++a.drop i++b.drop j).Perm (a++b):=by
 have e1:=(h.append_right (a.drop i)).append_right (b.drop j);refine e1.trans ?_
 have e2:((a.take i++b.take j)++a.drop i).Perm (a++b.take j):=by
   rw[cm2];refine (List.Perm.append_left _ cq9).trans ?_;rw[<-cm2,cq0]
 refine (e2.append_right _).trans ?_;rw[cm2,cq0]
theorem Mi.doneB {a b out:List Keyed}{i j:Nat}(h:Mi le a b out i j)(sa:C4 le a)(hj:b.length<=j):Mg le a b (out++a.drop i++b.drop j):=by
 refine ⟨ad5 a b out i j h.pm,?_⟩;rw[cr5 hj,cp1];exact M9.mpr ⟨h.up,W0 sa i,h.ba⟩
theorem Mi.doneA {a b out:List Keyed}{i j:Nat}(h:Mi le a b out i j)(sb:C4 le b)(hi:a.length<=i):Mg le a b (out++a.drop i++b.drop j):=by
 refine ⟨ad5 a b out i j h.pm,?_⟩;rw[cr5 hi,cp1];exact M9.mpr ⟨h.up,W0 sb j,h.bb⟩
theorem Mi.last {a b out:List Keyed}{i j:Nat}(h:Mi le a b out i j)(sa:C4 le a)(sb:C4 le b)(top:∀x∈b.drop j,∀y∈a.drop i,le x y):Mg le a b (out++b.drop j++a.drop i):=by
 constructor
 · refine List.Perm.trans ?_ (ad5 a b out i j h.pm);rw[cm2,cm2];exact List.Perm.append_left _ cq9
 · rw[cm2];refine M9.mpr ⟨h.up,M9.mpr ⟨W0 sb j,W0 sa i,top⟩,fun x hx y hy=> ?_⟩
   rcases cm1.mp hy with e|e
   · exact h.bb x hx y e
   · exact h.ba x hx y e
end
theorem cg2 {xs:Array Keyed}(u:Up rk xs 0 xs.size):C4 (Le rk) xs.toList:=by
 refine cn0.mpr fun i j hi hj hij=> ?_
 have:=u i j (cn3 _) (by omega) (by simpa using hj);rw[C3 (p:=xs.toList[i]) (by simp),C3 (p:=xs.toList[j]) (by simp)] at this;exact this
theorem X2 {xs:Array Keyed}(h:C4 (Le rk) xs.toList):Up rk xs 0 xs.size:=fun i j _ hij hj=>by
 rcases cw5 hij with z|z
 · have:=cn0.mp h i j (by simp;omega) (by simpa using hj) z;rw[C3 (i:=i) (p:=xs.toList[i]'(by simp;omega)) (by simp),C3 (i:=j) (p:=xs.toList[j]'(by simpa using hj)) (by simp)];exact this
 · rw[z];exact ck8 _
end
end TS
namespace TS
open PySem PyProof.Rows
def mLo:Array Keyed->Array Keyed->StateT SortSt Sem (Array Keyed):=sortPriv%PySem.Builtin.mergeLo
section
variable {prog:Program} {w:World} {A:Around} {E:Value->Shared->Prop} {s:Shared}
variable {rk:Keyed->Nat} {a0:Array Keyed} {κ:SortKind}
structure D4 (st t:SortSt):Prop where
 arr:arrOf t=arrOf st
 pend:pendingOf t=pendingOf st
 kind:kindOf t=kindOf st
 ok:failedOf t=failedOf st
theorem D4.refl (st:SortSt):D4 st st:=⟨rfl,rfl,rfl,rfl⟩
def MQ (rk:Keyed->Nat)(a b:Array Keyed)(st:SortSt)(r:Array Keyed)(t:SortSt):Prop:=Mg (Le rk) a.toList b.toList r.toList/\D4 st t
theorem hv {β γ:Type}{F:γ}{K:γ->StateT SortSt Sem β}{Q:β->SortSt->Prop}{st:SortSt}(h:wpS (model prog w) A E s (K F) Q st):wpS (model prog w) A E s (have x:=F;K x) Q st:=h
theorem A1 {β:Type}{c:Prop}[Decidable c]{m n:StateT SortSt Sem β}{Q:β->SortSt->Prop}{st:SortSt}(h1:c->wpS (model prog w) A E s m Q st)(h2:¬c->wpS (model prog w) A E s n Q st):wpS (model prog w) A E s (if c then m else n) Q st:=by
 split
 · exact h1 ‹_›
 · exact h2 ‹_›
theorem K5 {a b:Nat}(h:(a==b)=true):a=b:=by simpa using h
theorem L6 {a b:Nat}(h:¬(a==b)=true):¬a=b:=by simpa using h
theorem Q3 (xs:Array Keyed)(i:Nat):(xs.extract i).toList=xs.toList.drop i:=by rw[Array.toList_extract,cx2,ct2 (by simp)]
theorem K9 (xs:Array Keyed)(i j:Nat):(xs.extract i j).toList=(xs.toList.take j).drop i:=by rw[Array.toList_extract,cx2,List.drop_take]
theorem D2 {xs:Array Keyed}{i:Nat}{x:Keyed}(h:xs[i]? =some x):xs.toList[i]? =some x:=by rw[<-h];simp
theorem cb7 {st:SortSt}{g:Nat}{Q:Unit->SortSt->Prop}(h:Q () (SortSt.mk' (kindOf st) (arrOf st) (pendingOf st) g (failedOf st))):wpS (model prog w) A E s ((sortPriv%PySem.Builtin.setMinGallop) g) Q st:=wpS_modify h
theorem D4.gal {st t:SortSt}(h:D4 st t)(g:Nat):D4 st (SortSt.mk' (kindOf t) (arrOf t) (pendingOf t) g (failedOf t)):=⟨h.arr,h.pend,h.kind,h.ok⟩
theorem bq9 {st0 st:SortSt}{g:Nat}{Q:Unit->SortSt->Prop}(l:D4 st0 st)(h:∀t,D4 st0 t->Q () t):wpS (model prog w) A E s ((sortPriv%PySem.Builtin.setMinGallop) g) Q st:=cb7 (h _ (l.gal g))
theorem cb8 {st:SortSt}{a b:Array Keyed}(C:Cm prog w A s κ rk a0)(hk:kindOf st=κ)(ia:In0 a0 a)(ib:In0 a0 b)(a1:1<=a.size)(b1:1<=b.size)(sa:C4 (Le rk) a.toList)(sb:C4 (Le rk) b.toList)
   (first:∀x,b[0]? =some x->∀y∈a.toList,Le rk x y) (last:∀x∈b.toList,∀y,a[a.size - 1]? =some y->Le rk x y):wpS (model prog w) A E s (mLo a b) (MQ rk a b st) st:=by
 have la:a.toList.length=a.size:=cl3;have lb:b.toList.length=b.size:=cl3;have ua:=X2 sa;have ub:=X2 sb
 have doneB:∀out i j t,Mi (Le rk) a.toList b.toList (co3 out) i j->D4 st t->b.size<=j->MQ rk a b st (out++a.extract i++b.extract j) t:=fun out i j t m l hj=>by
   refine ⟨?_,l⟩;rw[cm6,cm6,Q3,Q3];exact m.doneB sa (by omega)
 have doneA:∀out i j t,Mi (Le rk) a.toList b.toList (co3 out) i j->D4 st t->a.size<=i->MQ rk a b st (out++a.extract i++b.extract j) t:=fun out i j t m l hi=>by
   refine ⟨?_,l⟩;rw[cm6,cm6,Q3,Q3];exact m.doneA sb (by omega)
 have lastA:∀out i j t,Mi (Le rk) a.toList b.toList (co3 out) i j->D4 st t->i+1=a.size->MQ rk a b st (out++b.extract j++a.extract i) t:=fun out i j t m l hi=>by
   refine ⟨?_,l⟩;rw[cm6,cm6,Q3,Q3]
   refine m.last sa sb fun x hx y hy=>last x (List.mem_of_mem_drop hx) y ?_
   have e:a.toList[i]? =some a.toList[i]:=ck6 (by omega);rw[af9 e,cr5 (by omega)] at hy;rw[co1.mp hy,show a.size - 1=i by omega,<-cn4];exact e
 have stepB:∀out i j x y,Mi (Le rk) a.toList b.toList (co3 out) i j->a[i]? =some x->b[j]? =some y->rk y<=rk x->Mi (Le rk) a.toList b.toList (co3 (out.push y)) i (j+1):=fun out i j x y m hx hy le=>by
   rw[cs0]
   exact m.pushB (fun _=>ck8 _) sb (D2 hy) fun z hz=>cn2 le (Q2 (fun _=>ck8 _) sa (D2 hx) z hz)
 have stepA:∀out i j x y,Mi (Le rk) a.toList b.toList (co3 out) i j->a[i]? =some x->b[j]? =some y->rk x<=rk y->Mi (Le rk) a.toList b.toList (co3 (out.push x)) (i+1) j:=fun out i j x y m hx hy le=>by
   rw[cs0]
   exact m.pushA (fun _=>ck8 _) sa (D2 hx) fun z hz=>cn2 le (Q2 (fun _=>ck8 _) sb (D2 hy) z hz)
 refine wpS_bind (wpS_lift (wpAny_rule ⟨rfl,?_⟩));obtain ⟨b0,eb0,mb0⟩:=ib.at (show 0 < b.size by omega);refine wpS_bind (x8 eb0 ?_)
 have m0:Mi (Le rk) a.toList b.toList (co3 #[b0]) 0 1:=by
   have e:b.toList[0]? =some b0:=D2 eb0;have n:Mi (Le rk) a.toList b.toList [] 0 0:=⟨List.Perm.refl _,List.Pairwise.nil,(fun x h=>by cases h),(fun x h=>by cases h)⟩
   exact n.pushB (fun _=>ck8 _) sb e fun y hy=>first b0 eb0 y hy
 refine hv (hv (hv ?_))
 by_cases z1:1=b.size
 · rw[if_pos (by simpa using z1)];exact wpS_pure (doneB _ _ _ _ m0 (D4.refl st) (by omega))
 rw[if_neg (by simpa using z1)]
 by_cases z2:0+1=a.size
 · rw[if_pos (by simpa using z2)];exact wpS_pure (lastA _ _ _ _ m0 (D4.refl st) z2)
 rw[if_neg (by simpa using z2)];refine wpS_bind (wpS_get ?_)
 refine wpS_bind (wpS_mono (wpS_forRange (I:=fun x c t=>∃out i j g,c=(none,out,i,j,g)/\Mi (Le rk) a.toList b.toList (co3 out) i j/\i+1 < a.size/\j < b.size/\x<=i+j/\D4 st t)
   (Q:=fun c t=>∃r,c.1=some r/\MQ rk a b st r t) ?step ?fin ⟨_,_,_,_,rfl,m0,by omega,by omega,by omega,D4.refl st⟩) ?post)
 case post=>
   rintro c t ⟨r,hr,q⟩;obtain ⟨c1,c2⟩:=c;cases hr;exact wpS_pure q
 case fin=>
   rintro c t ⟨out,i,j,g,rfl,m,h1,h2,h3,l⟩;omega
 case step=>
   rintro x c t _ xn ⟨out,i,j,g,rfl,m,h1,h2,h3,l⟩
   refine wpS_bind (wpS_mono (wpS_forRange (I:=fun y c t'=>∃out' i' j' p q,c=(none,out',i',j',p,q)/\t'=t/\Mi (Le rk) a.toList b.toList (co3 out') i' j'/\i'+1 < a.size/\j' < b.size/\i'+j'=i+j+y)
     (Q:=fun c t'=>(∃r,c.1=some r/\MQ rk a b st r t')\/(∃out' i' j' p q,c=(none,out',i',j',p,q)/\t'=t/\Mi (Le rk) a.toList b.toList (co3 out') i' j'/\i'+1 < a.size/\j' < b.size/\x+1<=i'+j')) ?step2 ?fin2 ⟨_,_,_,_,_,rfl,rfl,m,h1,h2,rfl⟩) ?post2)
   case fin2=>
     rintro c t' ⟨out',i',j',p,q,rfl,rfl,m',k1,k2,k3⟩;omega
   case step2=>
     rintro y c t' _ yn ⟨out',i',j',p,q,rfl,rfl,m',k1,k2,k3⟩;obtain ⟨u,eu,mu⟩:=ia.at (show i' < a.size by omega);obtain ⟨v,ev,mv⟩:=ib.at k2;refine wpS_bind (x8 ev (wpS_bind (x8 eu (wpS_bind (am3 C (l.kind.trans hk) mv mu ?_)))))
     by_cases d:rk v < rk u
     · rw[decide_eq_true d]
       dsimp only
       rw[if_pos rfl];have m2:=stepB out' i' j' u v m' eu ev (cn8 d);refine wpS_bind (x8 ev ?_)
       by_cases z:j'+1=b.size
       · rw[if_pos (by simpa using z)];exact wpS_pure (.inl ⟨_,rfl,doneB _ _ _ _ m2 l (by omega)⟩)
       · rw[if_neg (by simpa using z)]
         split
         · exact wpS_pure (.inr ⟨_,_,_,_,_,rfl,rfl,m2,k1,by omega,by omega⟩)
         · exact wpS_pure ⟨_,_,_,_,_,rfl,rfl,m2,k1,by omega,by omega⟩
     · rw[decide_eq_false d]
       dsimp only
       rw[if_neg (by decide)];have m2:=stepA out' i' j' u v m' eu ev (by omega);refine wpS_bind (x8 eu ?_)
       by_cases z:i'+1+1=a.size
       · rw[if_pos (by simpa using z)];exact wpS_pure (.inl ⟨_,rfl,lastA _ _ _ _ m2 l z⟩)
       · rw[if_neg (by simpa using z)]
         split
         · exact wpS_pure (.inr ⟨_,_,_,_,_,rfl,rfl,m2,by omega,k2,by omega⟩)
         · exact wpS_pure ⟨_,_,_,_,_,rfl,rfl,m2,by omega,k2,by omega⟩
   case post2=>
     rintro c t' (⟨r,hr,q⟩|⟨out',i',j',p,q,rfl,rfl,m',k1,k2,k3⟩)
     · obtain ⟨c1,c2⟩:=c;cases hr;exact wpS_pure ⟨r,rfl,q⟩
     · refine wpS_bind (wpS_lift (wpAny_rule ⟨rfl,?_⟩))
       refine wpS_bind (wpS_mono (wpS_forRange (I:=fun y c t2=>∃out2 i2 j2 g2 p q,c=(none,out2,i2,j2,g2,p,q)/\D4 st t2/\Mi (Le rk) a.toList b.toList (co3 out2) i2 j2/\i2+1 < a.size/\j2 < b.size/\x+1<=i2+j2)
         (Q:=fun c t2=>(∃r,c.1=some r/\MQ rk a b st r t2)\/(∃out2 i2 j2 g2 p q,c=(none,out2,i2,j2,g2,p,q)/\D4 st t2/\Mi (Le rk) a.toList b.toList (co3 out2) i2 j2/\i2+1 < a.size/\j2 < b.size/\x+1<=i2+j2)) ?step3 ?fin3 ⟨_,_,_,_,_,_,rfl,l,m',k1,k2,k3⟩) ?post3)
       case fin3=>
         rintro c t2 h;exact .inr h
       case post3=>
         rintro c t2 (⟨r,hr,q⟩|⟨out2,i2,j2,g2,p,q,rfl,l2,m2,n1,n2,n3⟩)
         · obtain ⟨c1,c2⟩:=c;cases hr;exact wpS_pure ⟨r,rfl,q⟩
         · refine wpS_bind (cb7 ?_);exact wpS_pure ⟨_,_,_,_,rfl,m2,n1,n2,n3,l2.gal _⟩
       case step3=>
         rintro y c t2 _ yn ⟨out2,i2,j2,g2,p,q,rfl,l2,m2,n1,n2,n3⟩;obtain ⟨v,ev,mv⟩:=ib.at n2;refine A1 (fun _=> ?_) (fun _=> ?_)
         all_goals
           refine wpS_bind (bq9 l2 fun t3 l3=> ?_);refine wpS_bind (x8 ev ?_);refine wpS_bind (Y7 (base:=i2) (n:=a.size - i2) (hint:=0) C (l3.kind.trans hk) ia mv (show i2+(a.size - i2)<=a.size by omega) (by omega) (fun x y h1 h2 h3=>ua x y (by omega) h2 (by omega)) fun k kn ka kb=> ?_)
           have mA:∀k',k'<=k->Mi (Le rk) a.toList b.toList (co3 (out2++a.extract i2 (i2+k'))) (i2+k') j2:=fun k' hk'=>by
             rw[cm6,K9]
             refine m2.manyA (fun _=>ck8 _) sa k' (by omega) fun n x hn hx z hz=> ?_
             have h:=ka n (by omega);unfold A4 at h;rw[if_neg (by decide),C3 (p:=x) (by rw[<-cn4];exact hx)] at h
             have hle:rk x<=rk v:=by simpa using h
             exact cn2 hle (Q2 (fun _=>ck8 _) sb (D2 ev) z hz)
           have gB:i2+k < a.size->rk v < R rk a (i2+k):=fun h=>by
             have h:=kb k (ck8 _) (by omega);unfold A4 at h;rw[if_neg (by decide)] at h
             simpa using h
           have m3:=mA k (ck8 _);refine A1 (fun kz=> ?_) (fun kz=> ?_);refine A1 (fun z=>wpS_pure (.inl ⟨_,rfl,lastA _ _ _ _ m3 l3 (K5 z)⟩)) (fun z1=> ?_);refine A1 (fun z=>wpS_pure (.inl ⟨_,rfl,doneA _ _ _ _ m3 l3 (cw1 (K5 z).symm)⟩)) (fun z2=> ?_);have z1:¬i2+k+1=a.size:=L6 z1;have z2:¬i2+k=a.size:=L6 z2
           have f1:i2+k+1 < a.size:=by omega
           have f2:x+1<=i2+k+j2:=by omega
           have f3:=gB (by omega);generalize out2++a.extract i2 (i2+k)=out3 at m3 ⊢;generalize i2+k=i3 at m3 f1 f2 f3 ⊢
           rotate_left
           have k0:k=0:=by omega
           subst k0
           have e0:out2++a.extract i2 (i2+0)=out2:=by simp<;>omega
           rw[e0,ct5] at m3
           have f1:i2+1 < a.size:=by omega
           have f2:x+1<=i2+j2:=by omega
           have f3:=gB (by omega);rw[ct5] at f3;clear e0;generalize out2=out3 at m3 ⊢;generalize i2=i3 at m3 f1 f2 f3 ⊢
           rotate_left
           all_goals
             obtain ⟨u3,eu3,mu3⟩:=ia.at (show i3 < a.size by omega);rw[C3 eu3] at f3;refine wpS_bind (x8 ev ?_);have m4:=stepB out3 i3 j2 u3 v m3 eu3 ev (cn8 f3);refine A1 (fun z=>wpS_pure (.inl ⟨_,rfl,doneB _ _ _ _ m4 l3 (cw1 (K5 z).symm)⟩)) (fun z3=> ?_);have z3:¬j2+1=b.size:=L6 z3;refine wpS_bind (x8 eu3 ?_);refine wpS_bind (Y7 (base:=j2+1) (n:=b.size - (j2+1)) (hint:=0) C (l3.kind.trans hk) ib mu3 (show j2+1+(b.size - (j2+1))<=b.size by omega) (by omega) (fun x y h1 h2 h3=>ub x y (by omega) h2 (by omega)) fun k' kn' ka' kb'=> ?_)
             have m5:Mi (Le rk) a.toList b.toList (co3 (out3.push v++b.extract (j2+1) (j2+1+k'))) i3 (j2+1+k'):=by
               rw[cm6,K9]
               refine m4.manyB (fun _=>ck8 _) sb k' (by omega) fun n x hn hx z hz=> ?_
               have h:=ka' n hn;unfold A4 at h;rw[if_pos rfl,C3 (p:=x) (by rw[<-cn4];exact hx)] at h
               have hle:rk x < rk u3:=by simpa using h
               exact cn2 (cn8 hle) (Q2 (fun _=>ck8 _) sa (D2 eu3) z hz)
             have gA:j2+1+k' < b.size->rk u3<=R rk b (j2+1+k'):=fun h=>by
               have h:=kb' k' (ck8 _) (by omega);unfold A4 at h;rw[if_pos rfl] at h
               simpa using h
             refine A1 (fun kz'=> ?_) (fun kz'=> ?_);refine A1 (fun z=>wpS_pure (.inl ⟨_,rfl,doneB _ _ _ _ m5 l3 (cw1 (K5 z).symm)⟩)) (fun z4=> ?_);have z4:¬j2+1+k'=b.size:=L6 z4
             have f4:j2+1+k' < b.size:=by omega
             have f5:x+1<=i3+(j2+1+k'):=by omega
             have f6:=gA f4;generalize out3.push v++b.extract (j2+1) (j2+1+k')=out4 at m5 ⊢;generalize j2+1+k'=j4 at m5 f4 f5 f6 ⊢
             rotate_left
             have k0:k'=0:=by omega
             subst k0
             have e0:out3.push v++b.extract (j2+1) (j2+1+0)=out3.push v:=by simp<;>omega
             rw[e0,ct5] at m5
             have f4:j2+1 < b.size:=by omega
             have f5:x+1<=i3+(j2+1):=by omega
             have f6:=gA (by omega);rw[ct5] at f6;clear e0;generalize out3.push v=out4 at m5 ⊢;generalize j2+1=j4 at m5 f4 f5 f6 ⊢
             rotate_left
             all_goals
               obtain ⟨v4,ev4,mv4⟩:=ib.at f4;rw[C3 ev4] at f6;have m6:=stepA out4 i3 j4 u3 v4 m5 eu3 ev4 f6;refine wpS_bind (x8 eu3 ?_);refine A1 (fun z=>wpS_pure (.inl ⟨_,rfl,lastA _ _ _ _ m6 l3 (K5 z)⟩)) (fun z5=> ?_);have z5:¬i3+1+1=a.size:=L6 z5;refine A1 (fun _=> ?_) (fun _=> ?_)
               · exact wpS_pure (.inr ⟨out4.push u3,i3+1,j4,_,_,_,rfl,l3,m6,by omega,f4,by omega⟩)
               · exact wpS_pure ⟨out4.push u3,i3+1,j4,_,_,_,rfl,l3,m6,by omega,f4,by omega⟩
end
end TS
namespace TS
open PySem PyProof.Rows
def mHi:Array Keyed->Array Keyed->StateT SortSt Sem (Array Keyed):=sortPriv%PySem.Builtin.mergeHi
def Ge (rk:Keyed->Nat)(x y:Keyed):Prop:=rk y<=rk x
theorem N0 {rk:Keyed->Nat}{l:List Keyed}(h:C4 (Le rk) l):C4 (Ge rk) l.reverse:=List.pairwise_reverse.mpr h
theorem bm1 {rk:Keyed->Nat}{a b r:List Keyed}(h:Mg (Ge rk) b.reverse a.reverse r.reverse):Mg (Le rk) a b r:=by
 obtain ⟨p,u⟩:=h;refine ⟨?_,List.pairwise_reverse.mp u⟩
 have e:b.reverse++a.reverse=(a++b).reverse:=by rw[cs5]
 rw[e] at p;exact (List.reverse_perm r).symm.trans (p.trans (List.reverse_perm _))
theorem E5 {l:List Keyed}{n:Nat}(h:n<=l.length):l.reverse.drop (l.length - n)=(l.take n).reverse:=by
 rw[List.drop_reverse];congr 2;omega
theorem bc6 {l:List Keyed}{n:Nat}{x:Keyed}(h1:1<=n)(h:l[n - 1]? =some x):l.reverse[l.length - n]? =some x:=by
 have hl:=(ck7.mp h).1;rw[cv6 (by omega),<-h]
 congr 1
 omega
theorem bc7 {l:List Keyed}{m n:Nat}(h1:m<=n)(h:n<=l.length):(l.reverse.take (l.length - n+(n - m))).drop (l.length - n)=((l.take n).drop m).reverse:=by
 rw[List.drop_take,E5 h,Nat.add_sub_cancel_left,List.take_reverse,cl8]
 congr 2
 omega
theorem Y8 {rk:Keyed->Nat}{l:List Keyed}{n:Nat}{x:Keyed}(s:C4 (Le rk) l)(h1:1<=n)(h:l[n - 1]? =some x):∀y∈l.take n,rk y<=rk x:=fun y hy=>by
 obtain ⟨hl,e⟩:=ck7.mp h;obtain ⟨i,hi⟩:=cm3.mp hy;have hil:=(ck7.mp hi).1;rw[cl8] at hil;rw[cn9 (by omega),ck6 (by omega)] at hi;have ey:=Option.some.inj hi
 rcases cw5 (show i<=n - 1 by omega) with z|z
 · have:=cn0.mp s i (n - 1) (by omega) hl z;rw[ey,e] at this;exact this
 · subst z;rw[<-ey,e];exact ck8 _
section
variable {prog:Program} {w:World} {A:Around} {E:Value->Shared->Prop} {s:Shared}
variable {rk:Keyed->Nat} {a0:Array Keyed} {κ:SortKind}
def Mh (rk:Keyed->Nat)(a b out:Array Keyed)(na nb:Nat):Prop:=na<=a.size/\nb<=b.size/\Mi (Ge rk) b.toList.reverse a.toList.reverse out.toList (b.size - nb) (a.size - na)
theorem Mh.pushB {a b out:Array Keyed}{na nb:Nat}{x:Keyed}(h:Mh rk a b out na nb)(sb:C4 (Le rk) b.toList)(n1:1<=nb)(hx:b[nb - 1]? =some x)(ha:∀y∈a.toList.take na,rk y<=rk x):Mh rk a b (out.push x) na (nb - 1):=by
 obtain ⟨h1,h2,m⟩:=h;refine ⟨h1,by omega,?_⟩;have lb:b.toList.length=b.size:=cl3;have la:a.toList.length=a.size:=cl3;rw[cs0,show b.size - (nb - 1)=b.size - nb+1 by omega]
 refine m.pushA (fun _=>ck8 _) (N0 sb) ?_ fun y hy=>ha y ?_
 · rw[<-lb];exact bc6 n1 (D2 hx)
 · rw[<-la,E5 (by omega)] at hy;exact cs6.mp hy
theorem Mh.pushA {a b out:Array Keyed}{na nb:Nat}{x:Keyed}(h:Mh rk a b out na nb)(sa:C4 (Le rk) a.toList)(n1:1<=na)(hx:a[na - 1]? =some x)(hb:∀y∈b.toList.take nb,rk y<=rk x):Mh rk a b (out.push x) (na - 1) nb:=by
 obtain ⟨h1,h2,m⟩:=h;refine ⟨by omega,h2,?_⟩;have lb:b.toList.length=b.size:=cl3;have la:a.toList.length=a.size:=cl3;rw[cs0,show a.size - (na - 1)=a.size - na+1 by omega]
 refine m.pushB (fun _=>ck8 _) (N0 sa) ?_ fun y hy=>hb y ?_
 · rw[<-la];exact bc6 n1 (D2 hx)
 · rw[<-lb,E5 (by omega)] at hy;exact cs6.mp hy
theorem Mh.manyA {a b out:Array Keyed}{na nb m:Nat}(h:Mh rk a b out na nb)(sa:C4 (Le rk) a.toList)(hm:m<=na)(hc:∀n x,m<=n->n < na->a[n]? =some x->∀y∈b.toList.take nb,rk y<=rk x):Mh rk a b (out++(a.extract m na).reverse) m nb:=by
 obtain ⟨h1,h2,mi⟩:=h;refine ⟨by omega,h2,?_⟩;have lb:b.toList.length=b.size:=cl3;have la:a.toList.length=a.size:=cl3
 have:=mi.manyB (fun _=>ck8 _) (N0 sa) (na - m) (by rw[cu0];omega) fun n x hn hx y hy=>hc (na - 1 - n) x (by omega) (by omega) ?_ y ?_
 · rw[<-la,bc7 hm (by omega),<-K9,la,show a.size - na+(na - m)=a.size - m by omega] at this;rw[cm6,ct8];exact this
 · rw[cv6 (by omega)] at hx;rw[<-cn4,<-hx]
   congr 1
   omega
 · rw[<-lb,E5 (by omega)] at hy;exact cs6.mp hy
theorem Mh.manyB {a b out:Array Keyed}{na nb m:Nat}(h:Mh rk a b out na nb)(sb:C4 (Le rk) b.toList)(hm:m<=nb)(hc:∀n x,m<=n->n < nb->b[n]? =some x->∀y∈a.toList.take na,rk y<=rk x):Mh rk a b (out++(b.extract m nb).reverse) na m:=by
 obtain ⟨h1,h2,mi⟩:=h;refine ⟨h1,by omega,?_⟩;have lb:b.toList.length=b.size:=cl3;have la:a.toList.length=a.size:=cl3
 have:=mi.manyA (fun _=>ck8 _) (N0 sb) (nb - m) (by rw[cu0];omega) fun n x hn hx y hy=>hc (nb - 1 - n) x (by omega) (by omega) ?_ y ?_
 · rw[<-lb,bc7 hm (by omega),<-K9,lb,show b.size - nb+(nb - m)=b.size - m by omega] at this;rw[cm6,ct8];exact this
 · rw[cv6 (by omega)] at hx;rw[<-cn4,<-hx]
   congr 1
   omega
 · rw[<-la,E5 (by omega)] at hy;exact cs6.mp hy
theorem aa5 (xs:Array Keyed)(j:Nat):(xs.extract 0 j).toList=xs.toList.take j:=by rw[K9,cy1]
theorem Mh.done {a b out:Array Keyed}{na nb:Nat}(h:Mh rk a b out na nb)(sa:C4 (Le rk) a.toList)(sb:C4 (Le rk) b.toList)(z:na=0\/nb=0):Mg (Le rk) a.toList b.toList (a.extract 0 na++b.extract 0 nb++out.reverse).toList:=by
 obtain ⟨h1,h2,m⟩:=h;have lb:b.toList.length=b.size:=cl3;have la:a.toList.length=a.size:=cl3;refine bm1 ?_
 have e:(a.extract 0 na++b.extract 0 nb++out.reverse).toList.reverse=out.toList++b.toList.reverse.drop (b.size - nb)++a.toList.reverse.drop (a.size - na):=by
   rw[cm6,cm6,ct8,aa5,aa5,cs5,cs5,List.reverse_reverse,<-la,<-lb,E5 (by omega),E5 (by omega),cm2]
 rw[e]
 rcases z with z|z
 · exact m.doneB (N0 sb) (by rw[cu0];omega)
 · exact m.doneA (N0 sa) (by rw[cu0];omega)
theorem Mh.first {a b out:Array Keyed}{na nb:Nat}(h:Mh rk a b out na nb)(sa:C4 (Le rk) a.toList)(sb:C4 (Le rk) b.toList)(lo:∀x∈a.toList.take na,∀y∈b.toList.take nb,rk y<=rk x):Mg (Le rk) a.toList b.toList (b.extract 0 nb++a.extract 0 na++out.reverse).toList:=by
 obtain ⟨h1,h2,m⟩:=h;have lb:b.toList.length=b.size:=cl3;have la:a.toList.length=a.size:=cl3;refine bm1 ?_
 have e:(b.extract 0 nb++a.extract 0 na++out.reverse).toList.reverse=out.toList++a.toList.reverse.drop (a.size - na)++b.toList.reverse.drop (b.size - nb):=by
   rw[cm6,cm6,ct8,aa5,aa5,cs5,cs5,List.reverse_reverse,<-la,<-lb,E5 (by omega),E5 (by omega),cm2]
 rw[e]
 refine m.last (N0 sb) (N0 sa) fun x hx y hy=> ?_
 rw[<-la,E5 (by omega)] at hx;rw[<-lb,E5 (by omega)] at hy;exact lo x (cs6.mp hx) y (cs6.mp hy)
theorem cb9 {st:SortSt}{a b:Array Keyed}(C:Cm prog w A s κ rk a0)(hk:kindOf st=κ)(ia:In0 a0 a)(ib:In0 a0 b)(a1:1<=a.size)(b1:1<=b.size)(sa:C4 (Le rk) a.toList)(sb:C4 (Le rk) b.toList)
   (first:∀x,b[0]? =some x->∀y∈a.toList,Le rk x y) (last:∀x∈b.toList,∀y,a[a.size - 1]? =some y->Le rk x y):wpS (model prog w) A E s (mHi a b) (MQ rk a b st) st:=by
 have la:a.toList.length=a.size:=cl3;have lb:b.toList.length=b.size:=cl3;have ua:=X2 sa;have ub:=X2 sb;refine wpS_bind (wpS_lift (wpAny_rule ⟨rfl,?_⟩));obtain ⟨x0,ex0,mx0⟩:=ia.at (show a.size - 1 < a.size by omega);refine wpS_bind (x8 ex0 ?_)
 have doneM:∀out na nb t,Mh rk a b out na nb->D4 st t->na=0\/nb=0->MQ rk a b st (a.extract 0 na++b.extract 0 nb++Array.reverse out) t:=fun out na nb t m l z=>⟨m.done sa sb z,l⟩
 have firstM:∀out na nb t,Mh rk a b out na nb->D4 st t->nb=1->MQ rk a b st (b.extract 0 nb++a.extract 0 na++Array.reverse out) t:=fun out na nb t m l z=>by
   refine ⟨m.first sa sb fun x hx y hy=> ?_,l⟩;subst z;obtain ⟨b0,eb0,mb0⟩:=ib.at (show 0 < b.size by omega);have:=Y8 sb (ck8 1) (D2 eb0) y hy;exact cn2 this (first b0 eb0 x (cr0 hx))
 have stepA:∀out na nb x y,Mh rk a b out na nb->1<=na->1<=nb->a[na - 1]? =some x->b[nb - 1]? =some y->rk y<=rk x->Mh rk a b (out.push x) (na - 1) nb:=fun out na nb x y m h1 h2 hx hy le=>
   m.pushA sa h1 hx fun z hz=>cn2 (Y8 sb h2 (D2 hy) z hz) le
 have stepB:∀out na nb x y,Mh rk a b out na nb->1<=na->1<=nb->a[na - 1]? =some x->b[nb - 1]? =some y->rk x<=rk y->Mh rk a b (out.push y) na (nb - 1):=fun out na nb x y m h1 h2 hx hy le=>
   m.pushB sb h2 hy fun z hz=>cn2 (Y8 sa h1 (D2 hx) z hz) le
 have m0:Mh rk a b #[x0] (a.size - 1) b.size:=by
   have n:Mh rk a b #[] a.size b.size:=⟨ck8 _,ck8 _,by rw[Nat.sub_self,Nat.sub_self];exact ⟨List.Perm.refl _,List.Pairwise.nil,(fun x h=>by cases h),(fun x h=>by cases h)⟩⟩
   exact n.pushA sa a1 ex0 fun y hy=>last y (cr0 hy) x0 ex0
 refine A1 (fun z=>wpS_pure (doneM _ _ _ _ m0 (D4.refl st) (.inl (K5 z)))) (fun z1=> ?_);have z1:¬a.size - 1=0:=L6 z1;refine A1 (fun z=>wpS_pure (firstM _ _ _ _ m0 (D4.refl st) (K5 z))) (fun z2=> ?_);have z2:¬b.size=1:=L6 z2;refine wpS_bind (wpS_get ?_)
 refine wpS_bind (wpS_mono (wpS_forRange (I:=fun x c t=>∃na nb out g,c=(none,na,nb,out,g)/\Mh rk a b out na nb/\1<=na/\2<=nb/\x+na+nb<=a.size+b.size/\D4 st t)
   (Q:=fun c t=>∃r,c.1=some r/\MQ rk a b st r t) ?step ?fin ⟨_,_,_,_,rfl,m0,by omega,by omega,by omega,D4.refl st⟩) ?post)
 case post=>
   rintro c t ⟨r,hr,q⟩;obtain ⟨c1,c2⟩:=c;cases hr;exact wpS_pure q
 case fin=>
   rintro c t ⟨na,nb,out,g,rfl,m,h1,h2,h3,l⟩;omega
 case step=>
   rintro x c t _ xn ⟨na,nb,out,g,rfl,m,h1,h2,h3,l⟩
   refine wpS_bind (wpS_mono (wpS_forRange (I:=fun y c t'=>∃na' nb' out' p q,c=(none,na',nb',out',p,q)/\t'=t/\Mh rk a b out' na' nb'/\1<=na'/\2<=nb'/\na'+nb'+y=na+nb)
     (Q:=fun c t'=>(∃r,c.1=some r/\MQ rk a b st r t')\/(∃na' nb' out' p q,c=(none,na',nb',out',p,q)/\t'=t/\Mh rk a b out' na' nb'/\1<=na'/\2<=nb'/\x+1+na'+nb'<=a.size+b.size)) ?step2 ?fin2 ⟨_,_,_,_,_,rfl,rfl,m,h1,h2,rfl⟩) ?post2)
   case fin2=>
     rintro c t' ⟨na',nb',out',p,q,rfl,rfl,m',k1,k2,k3⟩;omega
   case step2=>
     rintro y c t' _ yn ⟨na',nb',out',p,q,rfl,rfl,m',k1,k2,k3⟩;obtain ⟨u,eu,mu⟩:=ia.at (show na' - 1 < a.size by have:=m'.1;omega);obtain ⟨v,ev,mv⟩:=ib.at (show nb' - 1 < b.size by have:=m'.2.1;omega);refine wpS_bind (x8 ev (wpS_bind (x8 eu (wpS_bind (am3 C (l.kind.trans hk) mv mu ?_)))))
     by_cases d:rk v < rk u
     · rw[decide_eq_true d];refine A1 (fun _=> ?_) (fun h=>absurd rfl h);have m2:=stepA out' na' nb' u v m' k1 (by omega) eu ev (cn8 d);refine wpS_bind (x8 eu ?_);refine A1 (fun z=>wpS_pure (.inl ⟨_,rfl,doneM _ _ _ _ m2 l (.inl (K5 z))⟩)) (fun z=> ?_);have z:¬na' - 1=0:=L6 z;refine A1 (fun _=> ?_) (fun _=> ?_)
       · exact wpS_pure (.inr ⟨na' - 1,nb',out'.push u,_,_,rfl,rfl,m2,by omega,k2,by omega⟩)
       · exact wpS_pure ⟨na' - 1,nb',out'.push u,_,_,rfl,rfl,m2,by omega,k2,by omega⟩
     · rw[decide_eq_false d];refine A1 (fun h=>absurd h (by decide)) (fun _=> ?_);have m2:=stepB out' na' nb' u v m' k1 (by omega) eu ev (by omega);refine wpS_bind (x8 ev ?_);refine A1 (fun z=>wpS_pure (.inl ⟨_,rfl,firstM _ _ _ _ m2 l (K5 z)⟩)) (fun z=> ?_);have z:¬nb' - 1=1:=L6 z;refine A1 (fun _=> ?_) (fun _=> ?_)
       · exact wpS_pure (.inr ⟨na',nb' - 1,out'.push v,_,_,rfl,rfl,m2,k1,by omega,by omega⟩)
       · exact wpS_pure ⟨na',nb' - 1,out'.push v,_,_,rfl,rfl,m2,k1,by omega,by omega⟩
   case post2=>
     rintro c t' (⟨r,hr,q⟩|⟨na',nb',out',p,q,rfl,rfl,m',k1,k2,k3⟩)
     · obtain ⟨c1,c2⟩:=c;cases hr;exact wpS_pure ⟨r,rfl,q⟩
     · refine wpS_bind (wpS_lift (wpAny_rule ⟨rfl,?_⟩))
       refine wpS_bind (wpS_mono (wpS_forRange (I:=fun y c t2=>∃na2 nb2 out2 g2 p q,c=(none,na2,nb2,out2,g2,p,q)/\D4 st t2/\Mh rk a b out2 na2 nb2/\1<=na2/\2<=nb2/\x+1+na2+nb2<=a.size+b.size)
         (Q:=fun c t2=>(∃r,c.1=some r/\MQ rk a b st r t2)\/(∃na2 nb2 out2 g2 p q,c=(none,na2,nb2,out2,g2,p,q)/\D4 st t2/\Mh rk a b out2 na2 nb2/\1<=na2/\2<=nb2/\x+1+na2+nb2<=a.size+b.size)) ?step3 ?fin3 ⟨_,_,_,_,_,_,rfl,l,m',k1,k2,k3⟩) ?post3)
       case fin3=>
         rintro c t2 h;exact .inr h
       case post3=>
         rintro c t2 (⟨r,hr,q⟩|⟨na2,nb2,out2,g2,p,q,rfl,l2,m2,n1,n2,n3⟩)
         · obtain ⟨c1,c2⟩:=c;cases hr;exact wpS_pure ⟨r,rfl,q⟩
         · refine wpS_bind (bq9 l2 fun t3 l3=> ?_);exact wpS_pure ⟨_,_,_,_,rfl,m2,n1,n2,n3,l3⟩
       case step3=>
         rintro y c t2 _ yn ⟨na2,nb2,out2,g2,p,q,rfl,l2,m2,n1,n2,n3⟩;have q1:=m2.1;have q2:=m2.2.1;obtain ⟨v,ev,mv⟩:=ib.at (show nb2 - 1 < b.size by omega);refine A1 (fun _=> ?_) (fun _=> ?_)
         all_goals
           refine wpS_bind (bq9 l2 fun t3 l3=> ?_);refine wpS_bind (x8 ev ?_);refine wpS_bind (Y7 (base:=0) (n:=na2) (hint:=na2 - 1) C (l3.kind.trans hk) ia mv (by omega) (by omega) (fun x y h1 h2 h3=>ua x y (by omega) h2 (by omega)) fun k kn ka kb=> ?_)
           have m3:Mh rk a b (out2++(a.extract k na2).reverse) k nb2:=m2.manyA sa kn fun n x h1 h2 hx z hz=>by
             have h:=kb n h1 h2;unfold A4 at h;rw[if_neg (by decide),ct4,C3 hx] at h
             have hle:rk v < rk x:=by simpa using h
             exact cn2 (Y8 sb (by omega) (D2 ev) z hz) (cn8 hle)
           have gA:1<=k->R rk a (k - 1)<=rk v:=fun h=>by
             have h:=ka (k - 1) (by omega);unfold A4 at h;rw[if_neg (by decide),ct4] at h
             simpa using h
           refine A1 (fun kz=> ?_) (fun kz=> ?_);have kz:na2 - k > 0:=kz;refine A1 (fun z=>wpS_pure (.inl ⟨_,rfl,doneM _ _ _ _ m3 l3 (.inl (K5 z))⟩)) (fun z1=> ?_);have z1:¬k=0:=L6 z1
           have f1:1<=k:=by omega
           have f2:x+1+k+nb2<=a.size+b.size:=by omega
           have f3:=gA f1;generalize out2++(a.extract k na2).reverse=out3 at m3 ⊢
           rotate_left
           have kz:¬na2 - k > 0:=kz
           have k0:k=na2:=by omega
           have e0:out2++(a.extract k na2).reverse=out2:=by rw[k0];simp<;>omega
           rw[e0] at m3
           have f1:1<=k:=by omega
           have f2:x+1+k+nb2<=a.size+b.size:=by omega
           have f3:=gA f1;clear e0;subst k0;generalize out2=out3 at m3 ⊢
           rotate_left
           all_goals
             obtain ⟨u3,eu3,mu3⟩:=ia.at (show k - 1 < a.size by omega);rw[C3 eu3] at f3;refine wpS_bind (x8 ev ?_);have m4:=stepB out3 k nb2 u3 v m3 f1 (by omega) eu3 ev f3;refine A1 (fun z=>wpS_pure (.inl ⟨_,rfl,firstM _ _ _ _ m4 l3 (K5 z)⟩)) (fun z3=> ?_);have z3:¬nb2 - 1=1:=L6 z3;refine wpS_bind (x8 eu3 ?_);refine wpS_bind (Y7 (base:=0) (n:=nb2 - 1) (hint:=nb2 - 1 - 1) C (l3.kind.trans hk) ib mu3 (by omega) (by omega) (fun x y h1 h2 h3=>ub x y (by omega) h2 (by omega)) fun k' kn' ka' kb'=> ?_)
             have m5:Mh rk a b (out3.push v++(b.extract k' (nb2 - 1)).reverse) k k':=m4.manyB sb kn' fun n x h1 h2 hx z hz=>by
               have h:=kb' n h1 h2;unfold A4 at h;rw[if_pos rfl,ct4,C3 hx] at h
               have hle:rk u3<=rk x:=by simpa using h
               exact cn2 (Y8 sa f1 (D2 eu3) z hz) hle
             have gB:1<=k'->R rk b (k' - 1) < rk u3:=fun h=>by
               have h:=ka' (k' - 1) (by omega);unfold A4 at h;rw[if_pos rfl,ct4] at h
               simpa using h
             refine A1 (fun kz'=> ?_) (fun kz'=> ?_);have kz':nb2 - 1 - k' > 0:=kz';refine A1 (fun z=>wpS_pure (.inl ⟨_,rfl,firstM _ _ _ _ m5 l3 (K5 z)⟩)) (fun z4=> ?_);have z4:¬k'=1:=L6 z4;refine A1 (fun z=>wpS_pure (.inl ⟨_,rfl,doneM _ _ _ _ m5 l3 (.inr (K5 z))⟩)) (fun z5=> ?_);have z5:¬k'=0:=L6 z5
             have f4:2<=k':=by omega
             have f5:x+1+k+k'<=a.size+b.size:=by omega
             have f6:=gB (by omega);generalize out3.push v++(b.extract k' (nb2 - 1)).reverse=out4 at m5 ⊢
             rotate_left
             have kz':¬nb2 - 1 - k' > 0:=kz'
             have k0':k'=nb2 - 1:=by omega
             have e0:out3.push v++(b.extract k' (nb2 - 1)).reverse=out3.push v:=by rw[k0'];simp<;>omega
             rw[e0] at m5
             have f4:2<=k':=by omega
             have f5:x+1+k+k'<=a.size+b.size:=by omega
             have f6:=gB (by omega);clear e0;generalize out3.push v=out4 at m5 ⊢
             rotate_left
             all_goals
               have q3:=m5.2.1;obtain ⟨v4,ev4,mv4⟩:=ib.at (show k' - 1 < b.size by omega);rw[C3 ev4] at f6;have m6:=stepA out4 k k' u3 v4 m5 f1 (by omega) eu3 ev4 (cn8 f6);refine wpS_bind (x8 eu3 ?_)
               first
                 |refine A1 (fun z=>wpS_pure (.inl ⟨_,rfl,doneM _ _ _ _ m6 l3 (.inl (K5 z))⟩)) (fun z6=> ?_)
                 |(rw[k0'] at m6;refine A1 (fun z=>wpS_pure (.inl ⟨_,rfl,doneM _ _ _ _ m6 l3 (.inl (K5 z))⟩)) (fun z6=> ?_))
               have z6:¬k - 1=0:=L6 z6;refine A1 (fun _=> ?_) (fun _=> ?_)
               · first
                   |exact wpS_pure (.inr ⟨k - 1,k',out4.push u3,_,_,_,rfl,l3,m6,by omega,f4,by omega⟩)
                   |exact wpS_pure (.inr ⟨k - 1,nb2 - 1,out4.push u3,_,_,_,rfl,l3,m6,by omega,by omega,by omega⟩)
               · first
                   |exact wpS_pure ⟨k - 1,k',out4.push u3,_,_,_,rfl,l3,m6,by omega,f4,by omega⟩
                   |exact wpS_pure ⟨k - 1,nb2 - 1,out4.push u3,_,_,_,rfl,l3,m6,by omega,by omega,by omega⟩
end
end TS
namespace TS
open PySem PyProof.Rows
section
variable {rk:Keyed->Nat}
def C5 (xs:Array Keyed)(lo hi:Nat):List Keyed:=(xs.toList.take hi).drop lo
theorem G5 {xs:Array Keyed}{lo hi:Nat}(h:hi<=xs.size):(C5 xs lo hi).length=hi - lo:=by unfold C5;rw[co5,cl8];simp;omega
theorem E7 {xs:Array Keyed}{lo hi i:Nat}(hi':lo+i < hi):(C5 xs lo hi)[i]? =xs[lo+i]? :=by
 unfold C5;rw[cu3,cn9 hi',cn4]
theorem ag0 {xs:Array Keyed}{lo hi:Nat}(u:Up rk xs lo hi)(h:hi<=xs.size):C4 (Le rk) (C5 xs lo hi):=by
 refine cn0.mpr fun i j h1 h2 hij=> ?_
 have l:=G5 (lo:=lo) h;have e1:(C5 xs lo hi)[i]? =some (C5 xs lo hi)[i]:=ck6 h1;have e2:(C5 xs lo hi)[j]? =some (C5 xs lo hi)[j]:=ck6 h2;rw[E7 (by omega)] at e1 e2;have:=u (lo+i) (lo+j) (by omega) (by omega) (by omega);rw[C3 e1,C3 e2] at this;exact this
theorem cc0 {xs:Array Keyed}{lo hi:Nat}(s:C4 (Le rk) (C5 xs lo hi))(h:hi<=xs.size):Up rk xs lo hi:=fun i j h1 h2 h3=>by
 have l:=G5 (lo:=lo) h
 rcases cw5 h2 with z|z
 · have:=cn0.mp s (i - lo) (j - lo) (by omega) (by omega) (by omega);have e1:(C5 xs lo hi)[i - lo]? =some (C5 xs lo hi)[i - lo]:=ck6 (by omega);have e2:(C5 xs lo hi)[j - lo]? =some (C5 xs lo hi)[j - lo]:=ck6 (by omega);rw[E7 (by omega),show lo+(i - lo)=i by omega] at e1;rw[E7 (by omega),show lo+(j - lo)=j by omega] at e2;rw[C3 e1,C3 e2];exact this
 · rw[z];exact ck8 _
theorem Q4 {xs:Array Keyed}{lo hi:Nat}{x:Keyed}(h:hi<=xs.size)(hx:x∈C5 xs lo hi):∃i,lo<=i/\i < hi/\xs[i]? =some x:=by
 obtain ⟨i,hi'⟩:=cm3.mp hx;have l:=G5 (lo:=lo) h;have:=(ck7.mp hi').1;exact ⟨lo+i,by omega,by omega,by rw[<-E7 (hi:=hi) (by omega)];exact hi'⟩
theorem Q5 {xs:Array Keyed}{a b c:Nat}(h1:a<=b)(h2:b<=c)(h:c<=xs.size):C5 xs a b++C5 xs b c=C5 xs a c:=by
 refine cp5 fun i=> ?_
 by_cases z:i < b - a
 · rw[cp8 (by rw[G5 (by omega)];omega),E7 (by omega),E7 (by omega)]
 · rw[cp6 (by rw[G5 (by omega)];omega),G5 (by omega)]
   by_cases y:i < c - a
   · rw[E7 (by omega),E7 (by omega)];congr 1;omega
   · rw[cl5 (by rw[G5 h];omega),cl5 (by rw[G5 h];omega)]
theorem bc8 (xs:Array Keyed):C5 xs 0 xs.size=xs.toList:=by
 unfold C5;rw[cy1,ct2 (by simp)]
def wr (p:Nat)(l:List (Keyed×Nat))(xs:Array Keyed):Array Keyed:=l.foldl (fun a q=>a.setIfInBounds (p+q.2) q.1) xs
theorem Y9 (p:Nat):∀(l:List (Keyed×Nat)) (xs:Array Keyed),(wr p l xs).size=xs.size
 |[],xs=>rfl
 |q::l,xs=>(Y9 p l _).trans (by simp)
theorem ax2 (p:Nat):∀(m:List Keyed) (n:Nat) (xs:Array Keyed),p+n+m.length<=xs.size->∀k,(wr p (m.zipIdx n) xs)[k]? =if p+n<=k/\k < p+n+m.length then m[k - (p+n)]? else xs[k]?
 |[],n,xs,_,k=>by
  show xs[k]? =_;rw[if_neg (by simp)]
 |x::m,n,xs,h,k=>by
  rw[cm9] at h ⊢;show (wr p (m.zipIdx (n+1)) (xs.setIfInBounds (p+n) x))[k]? =_;rw[ax2 p m (n+1) _ (by rw[Array.size_setIfInBounds];omega) k,Array.getElem?_setIfInBounds]
  by_cases z:k=p+n
  · subst z;rw[if_neg (by omega),if_pos rfl,if_pos (by omega),if_pos (by omega),Nat.sub_self];rfl
  · by_cases y:p+n<=k/\k < p+n+(m.length+1)
    · rw[if_pos (by omega),if_pos y,show k - (p+n)=k - (p+(n+1))+1 by omega];rfl
    · rw[if_neg (by omega),if_neg (by omega),if_neg y]
theorem bm2 {m:List Keyed}{p:Nat}{xs:Array Keyed}(h:p+m.length<=xs.size):C5 (wr p m.zipIdx xs) p (p+m.length)=m:=by
 refine cp5 fun i=> ?_
 by_cases z:i < m.length
 · rw[E7 (by omega),ax2 p m 0 xs h,if_pos (by omega)]
   congr 1;omega
 · rw[cl5 (by rw[G5 (by rw[Y9];omega)];omega),cl5 (by omega)]
theorem bc9 {m:List Keyed}{p:Nat}{xs:Array Keyed}(h:p+m.length<=xs.size):A0 xs (wr p m.zipIdx xs) p (p+m.length):=fun k hk=>by
 rw[ax2 p m 0 xs h,if_neg (by omega)]
theorem aa6 {xs ys:Array Keyed}{lo hi a b:Nat}(hz:ys.size=xs.size)(k:A0 xs ys lo hi)(h:b<=lo\/hi<=a)(hb:b<=xs.size):C5 ys a b=C5 xs a b:=by
 refine cp5 fun i=> ?_
 by_cases z:a+i < b
 · rw[E7 z,E7 z];exact k _ (by omega)
 · rw[cl5 (by rw[G5 (by omega)];omega),cl5 (by rw[G5 hb];omega)]
theorem bw5 {m:List Keyed}{p:Nat}{xs:Array Keyed}(h:p+m.length<=xs.size)(pm:m.Perm (C5 xs p (p+m.length))):(wr p m.zipIdx xs).Perm xs:=by
 rw[cq7,<-bc8 xs,<-bc8 (wr p m.zipIdx xs),Y9];have hk:=bc9 h;have hs:=Y9 p m.zipIdx xs;rw[<-Q5 (cn3 p) (show p<=xs.size by omega) (ck8 _),<-Q5 (show p<=p+m.length by omega) (show p+m.length<=xs.size by omega) (ck8 _)];rw[<-Q5 (xs:=wr p m.zipIdx xs) (cn3 p) (show p<=xs.size by omega) (by omega),<-Q5 (xs:=wr p m.zipIdx xs) (show p<=p+m.length by omega) (show p+m.length<=xs.size by omega) (by omega)];rw[aa6 hs hk (.inl (ck8 _)) (by omega),aa6 hs hk (.inr (ck8 _)) (ck8 _),bm2 h];exact List.Perm.append_left _ (pm.append_right _)
end
end TS
namespace TS
open PySem PyProof.Rows
section
variable {prog:Program} {w:World} {A:Around} {E:Value->Shared->Prop} {s:Shared}
variable {rk:Keyed->Nat} {a0:Array Keyed} {κ:SortKind}
theorem bw6 {st:SortSt}(B:Bs a0 κ st)(lo hi:Nat):In0 a0 ((arrOf st).extract lo hi):=fun x hx=>by
 rw[K9] at hx;exact (cq7.mp B.perm).mem_iff.mp (cr0 (List.mem_of_mem_drop hx))
theorem ap1 {st:SortSt}(B:Bs a0 κ st):In0 a0 (arrOf st):=fun x hx=>(cq7.mp B.perm).mem_iff.mp hx
theorem bd0 {xs:Array Keyed}{lo hi i:Nat}(h:lo+i < hi):(xs.extract lo hi)[i]? =xs[lo+i]? :=by
 rw[<-cn4,K9];exact E7 h
theorem cc1 {st:SortSt}{i sa na nb pw pw2:Nat}{Q:Bool->SortSt->Prop}(C:Cm prog w A s κ rk a0)(B:Bs a0 κ st)(e1:(pendingOf st)[i]? =some (sa,na,pw))(e2:(pendingOf st)[i+1]? =some (sa+na,nb,pw2))(n1:1<=na)(n2:1<=nb)
   (hz:sa+na+nb<=a0.size) (u1:Up rk (arrOf st) sa (sa+na)) (u2:Up rk (arrOf st) (sa+na) (sa+na+nb))
   (h:∀t,Bs a0 κ t->Up rk (arrOf t) sa (sa+na+nb)->A0 (arrOf st) (arrOf t) sa (sa+na+nb)->pendingOf t=((pendingOf st).setIfInBounds i (sa,na+nb,pw)).eraseIdxIfInBounds (i+1)->Q true t):
   wpS (model prog w) A E s (mergeAt' i) Q st:=by
 have hs:=B.size;refine wpS_bind (wpS_get ?_);rw[show (sortPriv%PySem.Builtin.SortState.pending) st=pendingOf st from rfl,e1,e2];refine wpS_bind (wpS_modify (f:=fun _=>setPending st (((pendingOf st).setIfInBounds i (sa,na+nb,pw)).eraseIdxIfInBounds (i+1))) ?_);obtain ⟨pd,hpd⟩:∃pd,pd=((pendingOf st).setIfInBounds i (sa,na+nb,pw)).eraseIdxIfInBounds (i+1):=⟨_,rfl⟩;rw[<-hpd] at h ⊢;have B1:Bs a0 κ (setPending st pd):=⟨B.perm,B.kind,B.ok⟩;obtain ⟨xs,hxs⟩:∃xs,xs=arrOf st:=⟨_,rfl⟩;have In:=ap1 B
 have ext0:=fun lo hi=>bw6 B lo hi
 rw[<-hxs] at hs u1 u2 h In ext0
 have hxz:sa+na+nb<=xs.size:=by omega
 obtain ⟨key,ek,mk⟩:=In.at (show sa+na < xs.size by omega)
 have ek':(arrOf st)[sa+na]? =some key:=by rw[<-hxs];exact ek
 refine wpS_bind (x8 ek' ?_);refine wpS_bind (Y7 (left:=false) (arr:=arrOf st) (base:=sa) (n:=na) (hint:=0) C B1.kind (ap1 B) mk (by rw[<-hxs];omega) (by omega) (by rw[<-hxs];exact u1) fun k kn ka kb=> ?_)
 have ka1:∀i,sa<=i->i < sa+k->R rk xs i<=rk key:=fun i h1 h2=>by
   have:=ka (i - sa) (by omega);unfold A4 at this;rw[if_neg (by decide),<-hxs,show sa+(i - sa)=i by omega] at this
   simpa using this
 have kb1:∀i,sa+k<=i->i < sa+na->rk key < R rk xs i:=fun i h1 h2=>by
   have:=kb (i - sa) (by omega) (by omega);unfold A4 at this;rw[if_neg (by decide),<-hxs,show sa+(i - sa)=i by omega] at this
   simpa using this
 have rkey:R rk xs (sa+na)=rk key:=C3 ek
 have joined:(∀i,sa<=i->i < sa+na->∀j,sa+na<=j->j < sa+na+nb->R rk xs i<=R rk xs j)->Up rk xs sa (sa+na+nb):=fun g i j h1 h2 h3=>by
   by_cases y:j < sa+na
   · exact u1 i j h1 h2 y
   · by_cases z:i < sa+na
     · exact g i h1 z j (by omega) h3
     · exact u2 i j (by omega) h2 h3
 refine A1 (fun z=> ?_) (fun z=> ?_)
 · have z:na - k=0:=K5 z;refine wpS_pure (h _ B1 ?_ (by rw[hxs];exact A0.refl _ _ _) rfl);show Up rk (arrOf st) _ _;rw[<-hxs]
   refine joined fun i h1 h2 j h3 h4=> ?_
   have a1:=ka1 i h1 (by omega);have a2:=u2 (sa+na) j (ck8 _) h3 h4;omega
 have z:¬na - k=0:=L6 z
 have ep:sa+k+(na - k) - 1=sa+na - 1:=by omega
 obtain ⟨key2,ek2,mk2⟩:=In.at (show sa+na - 1 < xs.size by omega)
 have ek2':(arrOf st)[sa+k+(na - k) - 1]? =some key2:=by rw[ep,<-hxs];exact ek2
 have rkey2:R rk xs (sa+na - 1)=rk key2:=C3 ek2;refine wpS_bind (x8 ek2' ?_);refine wpS_bind (Y7 (left:=true) (arr:=arrOf st) (base:=sa+na) (n:=nb) (hint:=nb - 1) C B1.kind (ap1 B) mk2 (by rw[<-hxs];omega) (by omega) (by rw[<-hxs];exact u2) fun k' kn' ka' kb'=> ?_)
 have ka2:∀i,sa+na<=i->i < sa+na+k'->R rk xs i < rk key2:=fun i h1 h2=>by
   have:=ka' (i - (sa+na)) (by omega);unfold A4 at this;rw[if_pos rfl,<-hxs,show sa+na+(i - (sa+na))=i by omega] at this
   simpa using this
 have kb2:∀i,sa+na+k'<=i->i < sa+na+nb->rk key2<=R rk xs i:=fun i h1 h2=>by
   have:=kb' (i - (sa+na)) (by omega) (by omega);unfold A4 at this;rw[if_pos rfl,<-hxs,show sa+na+(i - (sa+na))=i by omega] at this
   simpa using this
 refine A1 (fun z'=> ?_) (fun z'=> ?_)
 · have z':k'=0:=K5 z';refine wpS_pure (h _ B1 ?_ (by rw[hxs];exact A0.refl _ _ _) rfl);show Up rk (arrOf st) _ _;rw[<-hxs]
   refine joined fun i h1 h2 j h3 h4=> ?_
   have a1:=kb2 j (by omega) h4;have a2:=u1 i (sa+na - 1) h1 (by omega) (by omega);omega
 have z':¬k'=0:=L6 z';have xl:(xs.extract (sa+k) (sa+na)).toList=C5 xs (sa+k) (sa+na):=K9 _ _ _;have yl:(xs.extract (sa+na) (sa+na+k')).toList=C5 xs (sa+na) (sa+na+k'):=K9 _ _ _
 have xz:(xs.extract (sa+k) (sa+na)).size=na - k:=by rw[Array.size_extract];omega
 have yz:(xs.extract (sa+na) (sa+na+k')).size=k':=by rw[Array.size_extract];omega
 have sx:C4 (Le rk) (xs.extract (sa+k) (sa+na)).toList:=by rw[xl];exact ag0 (fun i j h1 h2 h3=>u1 i j (by omega) h2 h3) (by omega)
 have sy:C4 (Le rk) (xs.extract (sa+na) (sa+na+k')).toList:=by rw[yl];exact ag0 (fun i j h1 h2 h3=>u2 i j h1 h2 (by omega)) (by omega)
 have fx:∀x,(xs.extract (sa+na) (sa+na+k'))[0]? =some x->∀y∈(xs.extract (sa+k) (sa+na)).toList,Le rk x y:=fun x hx y hy=>by
   rw[bd0 (by omega),ct5,ek] at hx;rw[xl] at hy;obtain ⟨i,h1,h2,h3⟩:=Q4 (by omega) hy;have:=kb1 i h1 h2;rw[C3 h3] at this;rw[<-Option.some.inj hx];exact cn8 this
 have ly:∀x∈(xs.extract (sa+na) (sa+na+k')).toList,∀y,(xs.extract (sa+k) (sa+na))[(xs.extract (sa+k) (sa+na)).size - 1]? =some y->Le rk x y:=fun x hx y hy=>by
   rw[xz,bd0 (by omega),show sa+k+(na - k - 1)=sa+na - 1 by omega,ek2] at hy;rw[yl] at hx;obtain ⟨i,h1,h2,h3⟩:=Q4 (by omega) hx;have:=ka2 i h1 h2;rw[C3 h3] at this;rw[<-Option.some.inj hy];exact cn8 this
 have fin:∀m t,MQ rk (xs.extract (sa+k) (sa+na)) (xs.extract (sa+na) (sa+na+k')) (setPending st pd) m t->Q true (setArr t (wr (sa+k) m.toList.zipIdx (arrOf t)))/\failedOf t=none:=by
   rintro m t ⟨⟨pm,sm⟩,l⟩
   have lm:m.toList.length=na - k+k':=by rw[pm.length_eq,cl2,cl3,cl3,xz,yz]
   have ea:arrOf t=xs:=by rw[l.arr,hxs]
   have hle:sa+k+m.toList.length<=xs.size:=by omega
   have esg:C5 xs (sa+k) (sa+k+m.toList.length)=C5 xs (sa+k) (sa+na)++C5 xs (sa+na) (sa+na+k'):=by
     rw[Q5 (by omega) (by omega) (by omega)];congr 1;omega
   have pm':m.toList.Perm (C5 xs (sa+k) (sa+k+m.toList.length)):=by rw[esg,<-xl,<-yl];exact pm
   have kw:=bc9 hle;have zw:=Y9 (sa+k) m.toList.zipIdx xs;refine ⟨h _ ⟨?_,l.kind.trans B1.kind,l.ok.trans B1.ok⟩ ?_ ?_ l.pend,l.ok.trans B1.ok⟩
   · show (wr (sa+k) m.toList.zipIdx (arrOf t)).Perm a0;rw[ea];refine (bw5 hle pm').trans ?_;rw[hxs];exact B.perm
   · show Up rk (wr (sa+k) m.toList.zipIdx (arrOf t)) sa (sa+na+nb);rw[ea];refine cc0 ?_ (by omega)
     rw[<-Q5 (show sa<=sa+k by omega) (show sa+k<=sa+na+nb by omega) (by omega),<-Q5 (show sa+k<=sa+k+m.toList.length by omega) (show sa+k+m.toList.length<=sa+na+nb by omega) (by omega),bm2 hle,
       aa6 zw kw (.inl (ck8 _)) (by omega),aa6 zw kw (.inr (ck8 _)) (by omega)]
     have mm:∀x∈m.toList,(∃i,sa+k<=i/\i < sa+na/\xs[i]? =some x)\/(∃i,sa+na<=i/\i < sa+na+k'/\xs[i]? =some x):=fun x hx=>by
       have:=pm.mem_iff.mp hx;rw[xl,yl] at this
       rcases cm1.mp this with e|e
       · exact .inl (Q4 (by omega) e)
       · exact .inr (Q4 (by omega) e)
     refine M9.mpr ⟨ag0 (fun i j h1 h2 h3=>u1 i j h1 h2 (by omega)) (by omega),M9.mpr ⟨sm,ag0 (fun i j h1 h2 h3=>u2 i j (by omega) h2 h3) (by omega),fun x hx y hy=> ?_⟩,fun x hx y hy=> ?_⟩
     · obtain ⟨j,j1,j2,j3⟩:=Q4 (by omega) hy;have b2:=kb2 j (by omega) j2;rw[C3 j3] at b2
       rcases mm x hx with ⟨i,i1,i2,i3⟩|⟨i,i1,i2,i3⟩
       · have b1:=u1 i (sa+na - 1) (by omega) (by omega) (by omega);rw[C3 i3,rkey2] at b1;exact cn2 b1 b2
       · have b1:=ka2 i i1 i2;rw[C3 i3] at b1;show rk x<=rk y;omega
     · obtain ⟨i,i1,i2,i3⟩:=Q4 (by omega) hx;have b1:=ka1 i i1 i2;rw[C3 i3] at b1;show rk x<=rk y
       rcases cm1.mp hy with e|e
       · rcases mm y e with ⟨j,j1,j2,j3⟩|⟨j,j1,j2,j3⟩
         · have b2:=kb1 j j1 j2;rw[C3 j3] at b2;omega
         · have b2:=u2 (sa+na) j (ck8 _) j1 (by omega);rw[C3 j3,rkey] at b2;omega
       · obtain ⟨j,j1,j2,j3⟩:=Q4 (by omega) e;have b2:=u2 (sa+na) j (ck8 _) (by omega) j2;rw[C3 j3,rkey] at b2;omega
   · show A0 xs (wr (sa+k) m.toList.zipIdx (arrOf t)) _ _;rw[ea];exact kw.wide (by omega) (by omega)
 have ix:=ext0 (sa+k) (sa+na);have iy:=ext0 (sa+na) (sa+na+k');have k1:kindOf (setPending st pd)=κ:=B1.kind
 have end_:∀m t,MQ rk (xs.extract (sa+k) (sa+na)) (xs.extract (sa+na) (sa+na+k')) (setPending st pd) m t->Q (failedOf (setArr t (wr (sa+k) m.toList.zipIdx (arrOf t)))).isNone (setArr t (wr (sa+k) m.toList.zipIdx (arrOf t))):=fun m t q=>by
   obtain ⟨f1,f2⟩:=fin m t q;show Q (failedOf t).isNone _;rw[f2];exact f1
 rw[hxs] at ix iy sx sy fx ly end_ xz yz
 have g1:1<=((arrOf st).extract (sa+k) (sa+na)).size:=by rw[xz];omega
 have g2:1<=((arrOf st).extract (sa+na) (sa+na+k')).size:=by rw[yz];omega
 refine A1 (fun _=> ?_) (fun _=> ?_)
 · refine wpS_bind (wpS_mono (cb8 C k1 ix iy g1 g2 sx sy fx ly) fun m t q=> ?_);exact wpS_bind (wpS_modify (wpS_bind (wpS_get (wpS_pure (end_ m t q)))))
 · refine wpS_bind (wpS_mono (cb9 C k1 ix iy g1 g2 sx sy fx ly) fun m t q=> ?_);exact wpS_bind (wpS_modify (wpS_bind (wpS_get (wpS_pure (end_ m t q)))))
end
end TS
namespace TS
open PySem PyProof.Rows
section
variable {rk:Keyed->Nat}
def B5 (rk:Keyed->Nat)(xs:Array Keyed):List (Nat×Nat×Nat)->Nat->Nat->Prop
 |[],a,b=>a=b
 |q::r,a,b=>q.1=a/\1<=q.2.1/\Up rk xs a (a+q.2.1)/\B5 rk xs r (a+q.2.1) b
theorem B5.len {xs:Array Keyed}:∀{l:List (Nat×Nat×Nat)} {a b:Nat},B5 rk xs l a b->a+l.length<=b
 |[],a,b,h=>cw1 h
 |q::r,a,b,⟨h1,h2,h3,h4⟩=>by
  have:=B5.len h4;rw[cm9];omega
theorem B5.app {xs:Array Keyed}:∀{l m:List (Nat×Nat×Nat)} {a b:Nat},B5 rk xs (l++m) a b↔∃c,B5 rk xs l a c/\B5 rk xs m c b
 |[],m,a,b=>⟨fun h=>⟨a,rfl,h⟩,fun ⟨c,e,h⟩=>by cases e;exact h⟩
 |q::r,m,a,b=>by
  constructor
  · rintro ⟨h1,h2,h3,h4⟩;obtain ⟨c,g1,g2⟩:=B5.app.mp h4;exact ⟨c,⟨h1,h2,h3,g1⟩,g2⟩
  · rintro ⟨c,⟨h1,h2,h3,h4⟩,g⟩;exact ⟨h1,h2,h3,B5.app.mpr ⟨c,h4,g⟩⟩
theorem B5.kept {xs ys:Array Keyed}{lo hi:Nat}(k:A0 xs ys lo hi):∀{l:List (Nat×Nat×Nat)} {a b:Nat},B5 rk xs l a b->b<=lo\/hi<=a->B5 rk ys l a b
 |[],a,b,h,_=>h
 |q::r,a,b,⟨h1,h2,h3,h4⟩,hk=>by
  have:=B5.len h4;exact ⟨h1,h2,k.up h3 (by omega),B5.kept k h4 (by omega)⟩
theorem ar7 {α:Type}:∀(l:List α) (x y z:α) (m:List α),((l++x::y::m).set l.length z).eraseIdx (l.length+1)=l++z::m
 |[],x,y,z,m=>rfl
 |a::l,x,y,z,m=>by
  show a::(((l++x::y::m).set l.length z).eraseIdx (l.length+1))=_;rw[ar7 l x y z m];rfl
theorem cc2 {α:Type}{l:List α}{i:Nat}(h:i+1 < l.length):l=l.take i++l[i]::l[i+1]::l.drop (i+2):=by
 have e1:=cr9 (show i < l.length by omega);have e2:=cr9 h;rw[<-e2,<-e1,cq0]
theorem bd1 {xs:Array Keyed}{pw:Nat}:∀{l:List (Nat×Nat×Nat)} {n a b:Nat},B5 rk xs l a b->B5 rk xs (l.modify n fun q=>(q.1,q.2.1,pw)) a b
 |[],n,a,b,h=>by cases n<;>exact h
 |q::r,0,a,b,⟨h1,h2,h3,h4⟩=>⟨h1,h2,h3,h4⟩
 |q::r,n+1,a,b,⟨h1,h2,h3,h4⟩=>⟨h1,h2,h3,bd1 h4⟩
end
section
variable {prog:Program} {w:World} {A:Around} {E:Value->Shared->Prop} {s:Shared}
variable {rk:Keyed->Nat} {a0:Array Keyed} {κ:SortKind}
theorem bm3 {st:SortSt}{i lo:Nat}{Q:Bool->SortSt->Prop}(C:Cm prog w A s κ rk a0)(B:Bs a0 κ st)(cv:B5 rk (arrOf st) (pendingOf st).toList 0 lo)(hl:lo<=a0.size)(hi:i+1 < (pendingOf st).size)
   (h:∀t,Bs a0 κ t->B5 rk (arrOf t) (pendingOf t).toList 0 lo->(pendingOf t).size+1=(pendingOf st).size->A0 (arrOf st) (arrOf t) 0 lo->Q true t):wpS (model prog w) A E s (mergeAt' i) Q st:=by
 obtain ⟨l,hl0⟩:∃l,l=(pendingOf st).toList:=⟨_,rfl⟩
 have ll:l.length=(pendingOf st).size:=by rw[hl0];simp
 have hil:i+1 < l.length:=by omega
 have e:=cc2 hil;rw[<-hl0,e] at cv;obtain ⟨c,c1,d1,d2,d3,f1,f2,f3,g⟩:=B5.app.mp cv;have lg:=B5.len g
 have e1:(pendingOf st)[i]? =some (c,l[i].2.1,l[i].2.2):=by
   rw[<-cn4,<-hl0,ck6 (by omega),<-d1]
 have e2:(pendingOf st)[i+1]? =some (c+l[i].2.1,l[i+1].2.1,l[i+1].2.2):=by
   rw[<-cn4,<-hl0,ck6 hil,<-f1]
 refine cc1 C B e1 e2 d2 f2 (by omega) d3 f3 fun t B' u k p=> ?_
 have lt:(l.take i).length=i:=by rw[cl8];omega
 have ep:(pendingOf t).toList=l.take i++(c,l[i].2.1+l[i+1].2.1,l[i].2.2)::l.drop (i+2):=by
   rw[p,Array.toList_eraseIdxIfInBounds,Array.toList_setIfInBounds,<-hl0];have:=ar7 (l.take i) l[i] l[i+1] (c,l[i].2.1+l[i+1].2.1,l[i].2.2) (l.drop (i+2));rw[lt,<-e] at this;exact this
 have lc:=B5.len c1;refine h t B' ?_ ?_ (k.wide (cn3 _) (by omega))
 · rw[ep];refine B5.app.mpr ⟨c,B5.kept k c1 (.inl (ck8 _)),rfl,by show 1<=l[i].2.1+l[i+1].2.1;omega,?_,?_⟩
   · show Up rk (arrOf t) c (c+(l[i].2.1+l[i+1].2.1));rw[<-Nat.add_assoc];exact u
   · show B5 rk (arrOf t) (l.drop (i+2)) (c+(l[i].2.1+l[i+1].2.1)) lo;rw[<-Nat.add_assoc];exact B5.kept k g (.inr (ck8 _))
 · rw[<-cl3,ep,cl2,cm9,co5,lt];omega
theorem cf1 {c:Prop}[Decidable c]{a b n:Nat}(h1:a<=n)(h2:b<=n):(if c then a else b)<=n:=by split<;>assumption
theorem br0 {t:SortSt}{lo n:Nat}(cv:B5 rk (arrOf t) (pendingOf t).toList 0 lo)(n1:1<=n)(u:Up rk (arrOf t) lo (lo+n)):B5 rk (arrOf t) ((pendingOf t).push (lo,n,0)).toList 0 (lo+n):=by
 rw[cs0];exact B5.app.mpr ⟨lo,cv,rfl,n1,u,rfl⟩
theorem cj4 {st:SortSt}{Q:Unit->SortSt->Prop}(C:Cm prog w A s κ rk a0)(B:Bs a0 κ st)(pe:pendingOf st= #[])(h2:2<=a0.size)
   (h:∀t,Bs a0 κ t->Up rk (arrOf t) 0 a0.size->Q () t):wpS (model prog w) A E s sortRuns' Q st:=by
 rw[sortRuns'_eq];refine wpS_bind (wpS_get ?_)
 dsimp only
 rw[B.size];generalize minRun' a0.size a0.size 0=mr
 refine wpS_bind (wpS_mono (wpS_forRange (I:=fun x c t=>∃lo,c=(none,lo)/\Bs a0 κ t/\B5 rk (arrOf t) (pendingOf t).toList 0 lo/\lo<=a0.size/\(x<=lo\/a0.size<=lo))
   (Q:=fun c t=>∃lo,c=(none,lo)/\Bs a0 κ t/\B5 rk (arrOf t) (pendingOf t).toList 0 lo/\lo=a0.size) ?step ?fin ⟨0,rfl,B,by rw[pe];exact rfl,cn3 _,.inl (ck8 _)⟩) ?post)
 case fin=>
   rintro c t ⟨lo,rfl,B',cv,h3,h4⟩;exact ⟨lo,rfl,B',cv,by omega⟩
 case step=>
   rintro x c t _ xn ⟨lo,rfl,B',cv,h3,h4⟩;refine A1 (fun z=>wpS_pure ⟨lo,rfl,B',cv,by have z:lo≥a0.size:=z;omega⟩) (fun z=> ?_);have z:¬lo≥a0.size:=z;refine wpS_bind (wpS_mono (cb6 (lo:=lo) (nrem:=a0.size - lo) C (by omega) (by omega) B') ?_);rintro r t1 ⟨n,rfl,B1,n1,n2,u1,k1,p1⟩
   have cv1:B5 rk (arrOf t1) (pendingOf t1).toList 0 lo:=by rw[p1];exact B5.kept k1 cv (.inl (ck8 _))
   clear k1 p1;refine A1 (fun y=> ?_) (fun y=> ?_);have y:n < mr:=y;refine wpS_bind (wpS_lift (wpAny_rule ⟨rfl,?_⟩));refine wpS_bind (cb5 (lo:=lo) (n:=min (a0.size - lo) mr) (ok:=n) C (by omega) (by omega) B1 u1 fun t2 B2 u2 k2 p2=> ?_);refine A1 (fun h=>absurd h (by decide)) (fun _=> ?_)
   have cv2:B5 rk (arrOf t2) (pendingOf t2).toList 0 lo:=by rw[p2];exact B5.kept k2 cv1 (.inl (ck8 _))
   have N1:1<=min (a0.size - lo) mr:=by omega
   have N2:lo+min (a0.size - lo) mr<=a0.size:=by omega
   clear p2 k2;generalize min (a0.size - lo) mr=N at u2 N1 N2 ⊢
   rotate_left
   have N1:1<=n:=n1
   have N2:lo+n<=a0.size:=by omega
   have B2:=B1;have u2:=u1;have cv2:=cv1;generalize t1=t2 at B2 u2 cv2 ⊢;generalize n=N at N1 N2 u2 ⊢
   rotate_left
   all_goals
     refine wpS_bind (wpS_get ?_)
     cases hb:(pendingOf t2).back? with
     |none=>
      exact wpS_bind (wpS_modify (wpS_pure ⟨lo+N,rfl,⟨B2.perm,B2.kind,B2.ok⟩,br0 cv2 N1 u2,N2,by omega⟩))
     |some q=>
      obtain ⟨s1,m1,pw⟩:=q
      refine wpS_bind (wpS_mono (wpS_forRange (I:=fun y c t=>c=(none,())/\Bs a0 κ t/\B5 rk (arrOf t) (pendingOf t).toList 0 lo/\Up rk (arrOf t) lo (lo+N))
        (Q:=fun c t=>c=(none,())/\Bs a0 κ t/\B5 rk (arrOf t) (pendingOf t).toList 0 lo/\Up rk (arrOf t) lo (lo+N)) ?_ (fun _ _ h=>h) ⟨rfl,B2,cv2,u2⟩) ?_)
      · rintro y c t3 _ yn ⟨rfl,B3,cv3,u3⟩;refine wpS_bind (wpS_get ?_)
        by_cases g:(pendingOf t3).size > 1
        · rw[if_pos g,Array.getElem?_eq_getElem (show (pendingOf t3).size - 2 < (pendingOf t3).size by omega)];refine A1 (fun _=>wpS_pure ⟨rfl,B3,cv3,u3⟩) (fun _=> ?_);refine wpS_bind (bm3 C B3 cv3 (by omega) (by omega) fun t4 B4 cv4 sz k4=> ?_);refine A1 (fun h=>absurd h (by decide)) (fun _=> ?_);exact wpS_pure ⟨rfl,B4,cv4,k4.up u3 (.inr (ck8 _))⟩
        · rw[if_neg g];exact wpS_pure ⟨rfl,B3,cv3,u3⟩
      · rintro c t3 ⟨rfl,B3,cv3,u3⟩;refine wpS_bind (wpS_modify (wpS_bind (wpS_modify (wpS_pure ⟨lo+N,rfl,⟨B3.perm,B3.kind,B3.ok⟩,?_,N2,by omega⟩))));show B5 rk (arrOf t3) (co3 (Array.push (Array.modify (pendingOf t3) _ _) (lo,N,0))) 0 (lo+N);rw[cs0,Array.toList_modify];exact B5.app.mpr ⟨lo,bd1 cv3,rfl,N1,u3,rfl⟩
 case post=>
   rintro c t ⟨lo,rfl,B',cv,rfl⟩
   dsimp only
   have lc:=B5.len cv
   refine wpS_bind (wpS_mono (wpS_forRange (I:=fun x c t=>c=(none,())/\Bs a0 κ t/\B5 rk (arrOf t) (pendingOf t).toList 0 a0.size/\((pendingOf t).size<=1\/(pendingOf t).size+x<=a0.size))
     (Q:=fun c t=>c=(none,())/\Bs a0 κ t/\B5 rk (arrOf t) (pendingOf t).toList 0 a0.size/\(pendingOf t).size<=1) ?stepE ?finE ⟨rfl,B',cv,.inr (by rw[<-cl3];omega)⟩) ?postE)
   case finE=>
     rintro c t ⟨rfl,B',cv,z⟩;exact ⟨rfl,B',cv,by omega⟩
   case stepE=>
     rintro x c t _ xn ⟨rfl,B',cv,z⟩;refine wpS_bind (wpS_get ?_);refine A1 (fun y=>wpS_pure ⟨rfl,B',cv,y⟩) (fun y=> ?_);have y:¬(pendingOf t).size<=1:=y;refine wpS_bind (bm3 C B' cv (ck8 _) ?_ fun t2 B2 cv2 sz _=> ?_)
     · exact cp0 (Nat.succ_le_succ (cf1 (n:=(pendingOf t).size - 2) (by omega) (ck8 _))) (by omega)
     · exact wpS_pure ⟨rfl,B2,cv2,by omega⟩
   case postE=>
     rintro c t ⟨rfl,B',cv,z⟩;refine wpS_pure (h t B' ?_);obtain ⟨l,hl⟩:∃l,l=(pendingOf t).toList:=⟨_,rfl⟩
     have ll:l.length<=1:=by rw[hl,cl3];exact z
     rw[<-hl] at cv
     match l,ll,cv with
     |[],_,cv=>have:0=a0.size:=cv;omega
     |[q],_,⟨c1,c2,c3,c4⟩=>
      have c4:0+q.2.1=a0.size:=c4;rw[c4] at c3;exact c3
end
end TS
namespace L2
open PySem PySem.Spec PyProof.Rows
section
variable {prog:Program} {w:World} {A:Around} {E:Value->Shared->Prop} {s:Shared}
structure am6 (prog:Program)(w:World)(A:Around)(s:Shared)(rk:Value->Nat)(vs:List Value):Prop where
 kind:2<=vs.length->∀(Q:SortKind->Shared->Prop) (E:Value->Shared->Prop),Q oneType' s->wpAny (model prog w) A (keyKind' vs.toArray) Q E s
 less:∀x∈vs,∀y∈vs,∀(Q:Bool->Shared->Prop) (E:Value->Shared->Prop),Q (decide (rk x < rk y)) s->wpAny (model prog w) A (oneLt' true x y) Q E s
theorem ap2 {vs:List Value}{p:Keyed}(h:p∈(pairsOf vs).toList):p.1∈vs/\p.2=p.1:=by
 rw[pairsOf_toList] at h;obtain ⟨i,hi⟩:=cm3.mp h;obtain ⟨x,y⟩:=p;rw[List.getElem?_zip_eq_some] at hi;obtain ⟨e1,e2⟩:=hi;rw[e1] at e2;exact ⟨cl9 e1,(Option.some.inj e2).symm⟩
theorem cc3 {rk:Value->Nat}{vs:List Value}{xs:Array Keyed}(hp:xs.Perm (pairsOf vs))(u:TS.Up (fun p=>rk p.1) xs 0 xs.size):(xs.map (·.2)).toList.Perm vs/\(xs.map (·.2)).toList.Pairwise (fun x y=>rk x<=rk y):=by
 have pl:=cq7.mp hp
 have e:xs.toList.map (·.2)=xs.toList.map (·.1):=cn6 fun p hp'=>(ap2 (pl.mem_iff.mp hp')).2
 rw[cx4];constructor
 · refine (pl.map _).trans ?_;rw[<-cx4,ar6]
 · show List.Pairwise _ (xs.toList.map (·.2));rw[e];exact cr1.mpr (TS.cg2 u)
theorem cf2 {rk:Value->Nat}{vs:List Value}(h:am6 prog w A s rk vs):TS.Cm prog w A s oneType' (fun p=>rk p.1) (pairsOf vs):=fun x hx y hy Q E' q=>by
 rw[keyLt'_oneType];exact h.less x.1 (ap2 hx).1 y.1 (ap2 hy).1 Q E' q
theorem cf3 {a:Addr}{vs:List Value}{rk:Value->Nat}{n:Nat}{P:Fin->Shared->Prop}(ho:s.heap.get? a=some (seqObj "list" vs.toArray n))(hl:vs.length<=sizeLine)
   (ok:∀h':Heap,(∀b o,b≠a->s.heap.get? b=some o->h'.get? b=some o)->am6 prog w A {s with heap:=h'} rk vs)
   (h:∀out:List Value,out.Perm vs->out.Pairwise (fun x y=>rk x<=rk y)->P (.done (.ret .none)) {s with heap:=sortedHeap s.heap a vs out.toArray}):wpAny (model prog w) A (Builtin.«list.sort» ⟨[.ref a],[]⟩) P E s:=by
 rw[list_sort_plain];have ha:a < s.heap.objs.size:=Heap.lt_size ho
 have hsz:vs.toArray.size=vs.length:=by simp
 refine wpAny_bind (listItems_at ho rfl ?_);refine wpAny_bind (listUpdate_at ho rfl ?_ (by rw[hsz];exact hl) (cn3 _));obtain ⟨e1,ho1⟩:∃e1,(s.heap.update a (Obj.mapSeq fun _=> #[])).get? a=some (seqObj "list" #[] e1):=⟨_,get?_update_seq ho (fun _=> #[])⟩;refine wpAny_bind (seqEpoch_at ho1 rfl ?_);refine wpAny_bind (wpAny_newTuple ?_ (hsz:=hl));refine wpAny_bind (wpAny_newList ?_);refine wpAny_holding ?_;obtain ⟨H6,e6⟩:∃H6,H6=((s.heap.update a (Obj.mapSeq fun _=> #[])).push (seqObj "tuple" vs.toArray 0)).push (seqObj "list" #[] 0):=⟨_,rfl⟩
 have ho6:H6.get? a=some (seqObj "list" #[] e1):=by
   rw[e6,Heap.get?_push_ne _ _ _ (by rw[size_push',Heap.size_update];exact cm7 (cw9 ha)),Heap.get?_push_ne _ _ _ (by rw[Heap.size_update];exact cm7 ha)];exact ho1
 have old:∀b o,b≠a->s.heap.get? b=some o->H6.get? b=some o:=by
   intro b o nb hb;rw[e6];refine Heap.get?_push_of_some _ (Heap.get?_push_of_some _ ?_);rw[Heap.get?_update_ne _ _ _ _ nb];exact hb
 have ok6:=ok H6 old;show wpAny (model prog w) A _ P E {s with heap:=((s.heap.update a (Obj.mapSeq fun _=> #[])).push (seqObj "tuple" vs.toArray 0)).push (seqObj "list" #[] 0)};unfold sortedHeap at h;rw[<-e6] at h ⊢
 dsimp only
 by_cases h2:vs.toArray.size < 2
 · rw[if_pos h2,if_pos h2];refine wpAny_bind (wpAny_pure ?_);rw[StateT.run_pure];refine wpAny_bind (wpAny_pure ?_)
   dsimp only
   refine wpAny_bind (seqEpoch_at ho6 rfl ?_);have ee:(arrOf (SortSt.mk' general' (vs.toArray.zip vs.toArray) #[] 7 none)).map (·.2)=vs.toArray:=ar6 vs;rw[ee];refine wpAny_bind (listUpdate_at ho6 rfl ?_ (cn3 _) (by rw[hsz];omega));simp only[bne_self_eq_false,cq1,if_false];refine wpAny_pure (h vs (List.Perm.refl _) ?_)
   match vs,hsz,h2 with
   |[],_,_=>exact List.Pairwise.nil
   |[_],_,_=>exact cs7 _ _
   |_::_::_,_,h2=>simp at h2;omega
 · rw[if_neg h2,if_neg h2];refine wpAny_bind (ok6.kind (by omega) _ _ ?_)
   refine wpAny_bind (wpAny_mono (TS.cj4 (s:={s with heap:=H6}) (st:=SortSt.mk' oneType' (vs.toArray.zip vs.toArray) #[] 7 none) (a0:=pairsOf vs) (rk:=fun p=>rk p.1)
     (Q:=fun _ st'=>(arrOf st').Perm (pairsOf vs)/\failedOf st'=none/\TS.Up (fun p=>rk p.1) (arrOf st') 0 (pairsOf vs).size) (cf2 ok6) ⟨Array.Perm.refl _,rfl,rfl⟩ rfl (by rw[pairsOf_size];omega) fun t B u=>⟨B.perm,B.ok,u⟩) ?_ fun _ _ e=>e)
   rintro ⟨⟨⟩,st'⟩ s' ⟨rfl,hp,hf,hu⟩
   dsimp only
   rw[<-hp.size_eq] at hu;obtain ⟨o1,o2⟩:=cc3 hp hu;refine wpAny_bind (seqEpoch_at ho6 rfl ?_);refine wpAny_bind (listUpdate_at ho6 rfl ?_ (cn3 _) (by rw[Array.size_map,hp.size_eq,pairsOf_size];omega));rw[hf];simp only[bne_self_eq_false,cq1,if_false];have:=h _ o1 o2;rw[Array.toArray_toList] at this;exact wpAny_pure this
theorem bw7 {l:Addr}{vs:List Value}{rk:Value->Nat}{Q:Value->Shared->Prop}(pl:s.heap.IsList l vs.toArray)(hl:vs.length<=sizeLine)
   (ok:∀h':Heap,(∀b o,b < s.heap.objs.size->s.heap.get? b=some o->h'.get? b=some o)->am6 prog w A.in1.in1 {s with heap:=h'} rk vs)
   (h:∀out:List Value,out.Perm vs->out.Pairwise (fun x y=>rk x<=rk y)->Q (.ref (s.heap.objs.size+1)) {s with heap:=sortedAll s.heap vs out.toArray}):wpAny (model prog w) A (call (.builtin "sorted") [.ref l]) Q E s:=by
 refine Calls.call_function_entry kind_sorted plain_sorted entry_sorted (args_sorted1 _) ?_;unfold Builtin.«sorted»;refine wpAny_bind (m:=checkCount "sorted" 1 1 _) (wpAny_pure ?_);refine wpAny_bind (collect_list pl ?_ hl);refine wpAny_bind (wpAny_newList ?_ (hsz:=hl))
 have hsz:((s.heap.push (seqObj "list" #[] 0)).update s.heap.objs.size (Obj.mapSeq (· ++vs.toArray))).objs.size=s.heap.objs.size+1:=by
   rw[Heap.size_update,size_push']
 have hoL:(((s.heap.push (seqObj "list" #[] 0)).update s.heap.objs.size (Obj.mapSeq (· ++vs.toArray))).push (seqObj "list" vs.toArray 0)).get? (s.heap.objs.size+1)=some (seqObj "list" vs.toArray 0):=by
   rw[<-hsz];exact Heap.get?_push_size _ rfl
 show wpAny _ _ _ _ _ {s with heap:=((s.heap.push (seqObj "list" #[] 0)).update s.heap.objs.size (Obj.mapSeq (· ++vs.toArray))).push (seqObj "list" vs.toArray 0)};rw[hsz];refine wpAny_bind (wpAny_holding (wpAny_call_entry slot_list_sort ⟨_,hoL,rfl⟩ entry_list_sort (cf3 hoL hl (rk:=rk) (fun h' old=>ok h' fun b o lt e=>old b o (cm7 (cw9 lt)) ?_) fun out o1 o2=>⟨_,rfl,?_⟩) (args_list_sort _)))
 · refine Heap.get?_push_of_some _ ?_;rw[Heap.get?_update_ne _ _ _ _ (cm7 lt)];exact Heap.get?_push_of_some _ e
 · exact wpAny_pure ⟨_,rfl,h out o1 o2⟩
end
end L2
namespace L2
open PySem PySem.Spec PyProof.Rows
section
variable {α:Type}
theorem aa7 {p q:α->Bool}(h:∀a,p a=true->q a=true):∀{l:List α} {x:α},x∈l->p x=false->q x=true->l.countP p < l.countP q
 |[],x,hx,_,_=>by cases hx
 |y::l,x,hx,px,qx=>by
  have le:l.countP p<=l.countP q:=List.countP_mono_left fun a _=>h a
  rw[List.countP_cons,List.countP_cons]
  by_cases e:x=y
  · subst e;rw[px,qx];simp;omega
  · have hx':x∈l:=by
      rcases co0.mp hx with z|z
      · exact absurd z e
      · exact z
    have:=aa7 h hx' px qx
    cases hp:p y with
    |false=>simp;split<;>omega
    |true=>rw[h y hp];simp;omega
def ad6 (lt:α->α->Bool)(l:List α)(x:α):Nat:=l.countP fun y=>lt y x
theorem bw8 {lt:α->α->Bool}(ir:∀a,lt a a=false)(tr:∀a b c,lt a b=true->lt b c=true->lt a c=true)(tot:∀a b,lt a b=false->lt b a=true\/a=b){l:List α}{x y:α}(hx:x∈l)(hy:y∈l):decide (ad6 lt l x < ad6 lt l y)=lt x y:=by
 unfold ad6
 cases h:lt x y with
 |true=>exact decide_eq_true (aa7 (fun a ha=>tr a x y ha h) hx (ir x) h)
 |false=>
  refine decide_eq_false ?_
  rcases tot x y h with z|z
  · have:=aa7 (fun a ha=>tr a y x ha z) hy (ir y) z;omega
  · rw[z];omega
theorem bw9 {lt:α->α->Bool}(ir:∀a,lt a a=false)(tr:∀a b c,lt a b=true->lt b c=true->lt a c=true){l:List α}{x y:α}(hy:y∈l)(h:ad6 lt l x<=ad6 lt l y):lt y x=false:=by
 cases z:lt y x with
 |false=>rfl
 |true=>
  have:=aa7 (l:=l) (fun a ha=>tr a y x ha z) hy (ir y) z;unfold ad6 at h;omega
end
theorem ap3:∀a:List Int,HT.af3 a a=false
 |[]=>rfl
 |x::a=>by rw[HT.be4,if_pos rfl];exact ap3 a
theorem bd2:∀a b:List Int,HT.af3 a b=false->HT.af3 b a=true\/a=b
 |[],[],_=> .inr rfl
 |[],_::_,h=>by rw[HT.bu0] at h;cases h
 |_::_,[],_=> .inl rfl
 |x::a,y::b,h=>by
  rw[HT.be4] at h ⊢
  by_cases e:x=y
  · rw[if_pos e] at h;rw[if_pos e.symm]
    rcases bd2 a b h with z|z
    · exact .inl z
    · exact .inr (by rw[e,z])
  · rw[if_neg e] at h;rw[if_neg (fun z=>e z.symm)];have:=of_decide_eq_false h;exact .inl (decide_eq_true (by omega))
theorem ax3:∀a b c:List Int,HT.af3 a b=true->HT.af3 b c=true->HT.af3 a c=true
 |[],[],_,h,_=>by cases h
 |_::_,[],_,h,_=>by cases h
 |_,_::_,[],_,h=>by cases h
 |[],_::_,_::_,_,_=>rfl
 |x::a,y::b,z::c,h,g=>by
  rw[HT.be4] at h g ⊢
  by_cases e:x=y
  · subst e;rw[if_pos rfl] at h
    by_cases e2:x=z
    · subst e2;rw[if_pos rfl] at g ⊢;exact ax3 a b c h g
    · rw[if_neg e2] at g ⊢;exact g
  · rw[if_neg e] at h;have h1:=of_decide_eq_true h
    by_cases e2:y=z
    · subst e2;rw[if_neg e];exact h
    · rw[if_neg e2] at g;have g1:=of_decide_eq_true g;rw[if_neg (by omega)];exact decide_eq_true (by omega)
section
variable {prog:Program} {w:World} {A:Around} {E:Value->Shared->Prop} {s:Shared}
theorem bm4 (hu:A.units < cLine){x y:Value}{ns ms:List Int}(hx:X1 s.heap x ns)(hy:X1 s.heap y ms){Q:Bool->Shared->Prop}(q:Q (HT.af3 ns ms) s):wpAny (model prog w) A (oneLt' true x y) Q E s:=by
 obtain ⟨p,xs,n,rfl,ox,ix⟩:=hx;obtain ⟨p2,ys,m,rfl,oy,iy⟩:=hy;rw[oneLt'_eq];simp only[if_true];refine wpAny_bind (wpAny_cRoomFor hu ?_);refine wpAny_bind (wpAny_callSpecialIfBound?_slot (T:="list") ⟨_,ox,rfl⟩ PySem.F.slot_list_lt (call_meets PySem.F.slot_list_lt ⟨_,ox,rfl⟩ PySem.F.entry_list_lt (PySem.F.args_list_lt_2 _ _) (HT.cb4 p p2 xs ys n m ns ms ix iy) ⟨⟨ox,oy⟩,?_⟩));exact wpAny_truthy_bool q
def Z0:Value->Addr
 | .ref a=>a
 |_=>0
theorem R7:∀{bs:List Addr} {us:List Value},m7 (bs.map V.ref) us->us=bs.map Value.ref
 |[],us,h=>by cases h;rfl
 |b::bs,us,h=>by
  cases h with
  |cons h1 h2=>
   cases h1;rw[R7 h2];rfl
theorem ar8:∀bs:List Addr,m7 (bs.map V.ref) (bs.map Value.ref)
 |[]=> .nil
 |b::bs=> .cons rfl (ar8 bs)
theorem br1 {bs:List Addr}{R:Addr->List Int}(hu:A.units < cLine)(row:∀b∈bs,X1 s.heap (.ref b) (R b)):am6 prog w A s (fun v=>ad6 HT.af3 (bs.map R) (R (Z0 v))) (bs.map Value.ref):=by
 constructor
 · intro h2 Q E q
   match bs,h2,row with
   |[],h2,_=>simp at h2
   |[_],h2,_=>simp at h2
   |b1::b2::bs,_,row=>
    have hr:∀v,v∈Value.ref b1::Value.ref b2::bs.map Value.ref->∃ns,X1 s.heap v ns:=fun v hv=>by
      obtain ⟨b,hb,rfl⟩:=cm8.mp (show v∈(b1::b2::bs).map Value.ref from hv);exact ⟨_,row b hb⟩
    exact bl8 hr q
 · intro x hx y hy Q E q;obtain ⟨b,hb,rfl⟩:=cm8.mp hx;obtain ⟨c,hc,rfl⟩:=cm8.mp hy;refine bm4 hu (row b hb) (row c hc) ?_;have:=bw8 ap3 ax3 bd2 (l:=bs.map R) (cm8.mpr ⟨b,hb,rfl⟩) (cm8.mpr ⟨c,hc,rfl⟩);show Q (HT.af3 (R b) (R c)) s;rw[<-this];exact q
end
end L2
namespace L2
open PySem PySem.Spec PyProof.Rows
section
variable {X:Cx}
theorem ax4 (hu:X.A.in1.in1.units < cLine):K8 X (.builtin "sorted") (fun xs H Q=>∃(p:Addr) (bs:List Addr) (rs:List (List Int)),xs=[.ref p]/\i7 X.K H p (bs.map V.ref)/\w9 H bs rs/\
   ∀(cs:List Addr) (ts:List (List Int)) l,cs.Perm bs->ts.Perm rs->w9 H cs ts->ts.Pairwise (fun r r'=>HT.af3 r' r=false)->H l=none->Q (.ref l) (e8 H l (.lst (cs.map V.ref)))):=by
 intro pins s σ H xs us Q I r h;obtain ⟨p,bs,rs,rfl,hp,hr,q⟩:=h;obtain ⟨u,rfl,rx⟩:=S8 r;cases rx;obtain ⟨its,rv,pl,hl⟩:=I.list hp;have ev:=R7 rv;subst ev
 have rows:∀b∈bs,∃r:List Int,H b=some (.lst (r.map V.int)):=fun b hb=>by
   obtain ⟨j,hj⟩:=cm3.mp hb
   have hjl:j < rs.length:=by rw[<-hr.1];exact (ck7.mp hj).1
   exact ⟨_,hr.2 j b _ hj (ck6 hjl)⟩
 have er:=bf7 hr
 have each:∀h':Heap,(∀b o,b < s.heap.objs.size->s.heap.get? b=some o->h'.get? b=some o)->∀b∈bs,X1 h' (.ref b) (J9 H b):=by
   intro h' old b hb;obtain ⟨r,e⟩:=rows b hb;obtain ⟨_,its,n,v,g⟩:=(show t5 X.prog X.w H s.heap b (.lst (r.map V.int)) from I.hok b _ e);rw[V7 e];exact ⟨b,its.toArray,n,rfl,old b _ (Heap.lt_size g) g,by simpa using ak3 v⟩
 have hll:(bs.map V.ref).length=bs.length:=ck5 ..
 refine bw7 (rk:=fun v=>ad6 HT.af3 (bs.map (J9 H)) (J9 H (Z0 v))) pl.isList (by rw[ck5];omega) (fun h' old=>br1 hu (each h' old)) fun out o1 o2=> ?_
 have eo:out=(out.map Z0).map Value.ref:=by
   rw[cp2];refine (cu1 out).symm.trans (cn6 fun v hv=> ?_);obtain ⟨b,_,rfl⟩:=cm8.mp (o1.mem_iff.mp hv);rfl
 have pb:(out.map Z0).Perm bs:=by
   have:=o1.map Z0;rw[cp2] at this;have e2:bs.map (Z0∘Value.ref)=bs:=(cn6 fun b _=>rfl).trans (cu1 bs);rw[e2] at this;exact this
 have st:((out.map Z0).map (J9 H)).Pairwise (fun r r'=>HT.af3 r' r=false):=by
   rw[cp2];refine cr1.mpr (List.Pairwise.imp_of_mem (fun {x y} hx hy h=> ?_) o2);refine bw9 ap3 ax3 (l:=bs.map (J9 H)) ?_ h;exact cm8.mpr ⟨Z0 y,pb.mem_iff.mp (cm8.mpr ⟨y,hy,rfl⟩),rfl⟩
 have rw':w9 H (out.map Z0) ((out.map Z0).map (J9 H)):=⟨(ck5 ..).symm,fun j a r e1 e2=>by
   rw[cl0,e1] at e2;have:=Option.some.inj e2;obtain ⟨r',e⟩:=rows a (pb.mem_iff.mp (cl9 e1))
   rw[<-this,V7 e];exact e⟩
 have pr:((out.map Z0).map (J9 H)).Perm rs:=by rw[<-er];exact pb.map _
 obtain ⟨e,he⟩:=sortedAll_at s.heap (bs.map Value.ref) out.toArray;refine ⟨.ref (s.heap.objs.size+1),_,I.laid (t':=s.toks) (fun _ _ q=>sortedAll_old q) (cv0 _) (show t5 X.prog X.w _ _ _ (.lst ((out.map Z0).map V.ref)) from ⟨by rw[ck5,pb.length_eq];omega,out,e,?_,he⟩),rfl,q _ _ _ pb pr rw' st (I.hok.fresh (cv0 _))⟩;have:=ar8 (out.map Z0);rw[<-eo] at this;exact this
variable {e:Expr} {t:TA} {p pos kpos:Pos}
def br2 (K:PySem.W.Frag)(t:TA):TE:=S5 (fun xs H Q=>∃(p:Addr) (bs:List Addr) (rs:List (List Int)),xs=[.ref p]/\i7 K H p (bs.map V.ref)/\w9 H bs rs/\
 ∀(cs:List Addr) (ts:List (List Int)) l,cs.Perm bs->ts.Perm rs->w9 H cs ts->ts.Pairwise (fun r r'=>HT.af3 r' r=false)->H l=none->Q (.ref l) (e8 H l (.lst (cs.map V.ref)))) t
theorem ba3 (hu:X.A.units+1+1 < cLine)(hm:X.mg "sorted"=none)(ha:PA X [e] t)(hg:Gl X "sorted":=by rfl)(he:starEach [e] X.env=(false,eval e X.env)::starEach [] X.env:=by rfl):
 PE X (.Call (.Name "sorted" p) [e] [] pos) (br2 X.K t):=O7 (ax4 (by simpa [Around.in1] using hu)) hg hm ad3 ha (by decide) (by decide) he rfl
end
end L2
namespace L2
open PySem PySem.Spec PyProof PyProof.Rows
open PySem.Builtin PySem.Builtin.Str PySem.Builtin.BaseException PySem.Builtin.Exceptions
section
variable {X:Cx}
structure ci7 (K:PySem.W.Frag)(C:Addr):Prop where
 str:PySem.W.findIn K (.ref C) "__str__"=some (some (.builtin "BaseException.__str__"))
 bex:PySem.W.mroIn K C (.type "BaseException")=some true
end
end L2
namespace L2
open PySem PySem.Spec PyProof.Rows
section
variable {P:Program} {w:World} {K:PySem.W.Frag} {mg:Str->Option Value} {base h:Heap} {x:Str} {st:Stmt} {f:Addr} {fd:FuncData} {ps:List Str} {k:Nat} {sp:Sp}
def Fu (K:PySem.W.Frag)(x:Str)(st:Stmt)(f:Addr):Prop:=∃fd,PySem.W.nsIn K mainGlobals x=some (some (.ref f))/\A2 K x x st f fd
theorem cf4 {oc:Value}{od an:Option Addr}{osl:Array (Option Value)}{kV doc pm cdv ct:Value}(a:PySem.W.nsIn K mainGlobals x=some (some (.ref f)))(l:K.lookup f=some ⟨oc,od,.func (PySem.W.fnOf x x (T9 st) (M7 st) (j8 st) .none kV doc pm an cdv ct),osl⟩)
 (c:PySem.W.codeIn K cdv x=true) (k:PySem.W.keepIn K (.ref f)=true):Fu K x st f:=⟨_,a,ca8 l c k⟩
theorem t7 (X:K.In h)(G:h.Ns mainGlobals mg)(a:PySem.W.nsIn K mainGlobals x=some (some (.ref f)))(F:A2 K x x st f fd)(b:S9 K fd ps [])(ok:l6 P w K mg base B8 k f fd ps sp):o7 P w K mg base x k ps sp:=⟨f,fd,PySem.W.mg_of X G a,F.kp,b,ok⟩
theorem U3 (X:K.In h)(G:h.Ns mainGlobals mg)(a:PySem.W.nsIn K mainGlobals x=some (some (.ref f)))(F:A2 K x x st f fd)(b:S9 K fd ps [])(ok:l6 P w K mg base (R5 P w) k f fd ps sp):L5 P w K mg base x k ps sp:=⟨f,fd,PySem.W.mg_of X G a,F.kp,b,ok⟩
def Fre (K:PySem.W.Frag):List Str->Prop
 |[]=>True
 |x::l=>PySem.W.nsIn K mainGlobals x=some none/\Fre K l
structure ClF (K:PySem.W.Frag)(T:Addr)(x:Str)(q:Addr):Prop where
 n:PySem.W.nsIn K mainGlobals x=some (some (.ref q))
 e:PySem.W.excIn K q veB "ValueError.__new__"=true
 g:PySem.W.findIn K (.ref q) "__getattribute__"=some (some (.builtin "BaseException.__getattribute__"))
 h:PySem.W.findIn K (.ref q) "__getattr__"=some none
 c:PySem.W.findIn K (.ref q) "__class__"=some (some (.builtin "object.__class__"))
 b:PySem.W.mroIn K q (.type "BaseException")=some true
 o:PySem.W.mroIn K q (.type "object")=some true
 i:PySem.W.isClsIn K q=true
 t:PySem.W.typeIn K (.ref q)=some (.type "type")
 u:PySem.W.mroIn K q (.ref T)=some true
 v:PySem.W.mroIn K q (.type "ValueError")=some true
 s:PySem.W.findIn K (.ref q) "__str__"=some (some (.builtin "BaseException.__str__"))
def ap4 (K:PySem.W.Frag)(T:Addr):List (Str×Addr)->Prop
 |[]=>True
 |(x,q)::l=>ClF K T x q/\ap4 K T l
def PrI (K:PySem.W.Frag)(i:Nat)(a:Addr):Nat->List (Str×Addr)->Prop
 |_,[]=>True
 |j,(_,b)::l=>PySem.W.mroIn K a (.ref b)=some (Nat.beq i j)/\PrI K i a (j+1) l
def ap5 (K:PySem.W.Frag)(all:List (Str×Addr)):Nat->List (Str×Addr)->Prop
 |_,[]=>True
 |i,(_,a)::l=>PrI K i a 0 all/\ap5 K all (i+1) l
theorem ap4.get {T:Addr}:∀{cs:List (Str×Addr)},ap4 K T cs->∀p∈cs,ClF K T p.1 p.2
 |(x,q)::l,h,p,hp=>by
  rcases co0.mp hp with rfl|hp
  · exact h.1
  · exact ap4.get h.2 p hp
theorem PrI.get {i:Nat}{a:Addr}:∀{l:List (Str×Addr)} {j0:Nat},PrI K i a j0 l->∀j q,l[j]? =some q->PySem.W.mroIn K a (.ref q.2)=some (Nat.beq i (j0+j))
 |(x,b)::l,j0,h,0,q,e=>by
  cases e;exact h.1
 |(x,b)::l,j0,h,j+1,q,e=>by
  have:=PrI.get h.2 j q e;rw[this,show j0+1+j=j0+(j+1) by omega]
theorem ap5.get {all:List (Str×Addr)}:∀{l:List (Str×Addr)} {i0:Nat},ap5 K all i0 l->∀i p,l[i]? =some p->PrI K (i0+i) p.2 0 all
 |(x,b)::l,i0,h,0,p,e=>by
  cases e;exact h.1
 |(x,b)::l,i0,h,i+1,p,e=>by
  have:=ap5.get h.2 i p e;rw[show i0+1+i=i0+(i+1) by omega] at this;exact this
theorem bm5 {T:Addr}{cs:List (Str×Addr)}(X:K.In h)(G:h.Ns mainGlobals mg)(uT:PySem.W.nsIn K mainGlobals "TurnError"=some (some (.ref T)))(uTb:PySem.W.mroIn K T (.type "BaseException")=some true)(uTc:PySem.W.isClsIn K T=true)(uTt:PySem.W.typeIn K (.ref T)=some (.type "type"))
   (uG:PySem.W.specialIn K (.builtin "object.__class__") "__get__"=some (some (.builtin "getset_descriptor.__get__"))) (uK:PySem.W.takesIn K (.builtin "object.__class__")=some true) (uC:ap4 K T cs) (uP:ap5 K cs 0 cs) (nd:(cs.map (·.1)).Nodup):aw6 K mg T cs:=by
 refine ⟨PySem.W.mg_of X G uT,fun p hp=> ?_,fun p hp=> ?_,fun p hp=> ?_,fun p hp=> ?_,fun p hp q hq=> ?_⟩
 · exact ⟨PySem.W.mg_of X G (uC.get p hp).n,(uC.get p hp).e⟩
 · have c:=uC.get p hp;exact bw2 c.g c.h c.c uG uK c.b c.o c.i
 · exact bw1 uTb uTc uTt (uC.get p hp).u
 · exact cb3 (uC.get p hp).v
 · have c:=uC.get q hq;obtain ⟨i,hi⟩:=List.getElem?_of_mem hp;obtain ⟨j,hj⟩:=List.getElem?_of_mem hq
   have e:∀{k:Nat} {r:Str×Addr},cs[k]? =some r->PySem.W.mroIn K p.2 (.ref r.2)=some (Nat.beq i k):=fun {k r} hr=>by
     have:=(uP.get i p hi).get k r hr;rw[ct4,ct4] at this;exact this
   have eb:decide (p.1=q.1)=Nat.beq i j:=by
     by_cases z:i=j
     · subst z;rw[hi] at hj;cases hj;rw[decide_eq_true rfl,Nat.beq_refl]
     · have:Nat.beq i j=false:=by
         cases y:Nat.beq i j with
         |false=>rfl
         |true=>exact absurd (Nat.eq_of_beq_eq_true y) z
       rw[this]
       refine decide_eq_false fun y=>z ?_
       have i1:i < (cs.map (·.1)).length:=by rw[ck5];exact (ck7.mp hi).1
       refine (List.getElem?_inj i1 nd).mp ?_;rw[cl0,cl0,hi,hj];exact congrArg some y
   rw[eb]
   refine bw0 c.i c.t (e hj) fun z=> ?_
   have a:=e hi;rw[z] at a;have b:=e hj;rw[z,a,Nat.beq_refl] at b;exact (Option.some.inj b).symm
end
end L2
namespace My
open PySem L2 Mth
def top (i:Nat):Stmt:=PySem.Challenge.pw_turnroots_k31_powers_of_one.main.body.getD i (.Pass ⟨0,0,0,0⟩)
abbrev aa8:Stmt:=top 6
abbrev O0:Stmt:=top 7
abbrev X8:Stmt:=top 8
abbrev W1:Stmt:=top 9
abbrev W2:Stmt:=top 10
abbrev R8:Stmt:=top 13
abbrev G6:Stmt:=top 14
abbrev O1:Stmt:=top 15
abbrev K6:Stmt:=top 16
abbrev aa9:Stmt:=top 17
abbrev L9:Stmt:=top 19
abbrev ad7:Stmt:=top 20
abbrev ad8:Stmt:=top 21
abbrev X3:Stmt:=top 23
abbrev W3:Stmt:=top 26
abbrev M4:Stmt:=top 27
abbrev K1:Stmt:=top 28
abbrev ab0:Stmt:=top 30
abbrev ab1:Stmt:=top 31
abbrev ab2:Stmt:=top 32
abbrev W4:Stmt:=top 33
abbrev ad9:Stmt:=top 36
abbrev ae0:Stmt:=top 37
abbrev W5:Stmt:=top 38
abbrev ab3:Stmt:=top 39
abbrev X9:Stmt:=top 40
abbrev ab4:Stmt:=top 41
abbrev ae1:Stmt:=top 42
abbrev O2:Stmt:=top 43
abbrev ag1:Stmt:=top 44
end My
namespace My
open PySem L2 Mth
structure Bl (mg:Str->Option Value):Prop where
 len:mg "len"=none
 isi:mg "isinstance"=none
 int:mg "int"=none
 bool:mg "bool"=none
 list:mg "list"=none
 range:mg "range"=none
 sum:mg "sum"=none
 min:mg "min"=none
 max:mg "max"=none
 enum:mg "enumerate"=none
 zip:mg "zip"=none
 sorted:mg "sorted"=none
 tuple:mg "tuple"=none
 str:mg "str"=none
 repr:mg "repr"=none
 all:mg "all"=none
 any:mg "any"=none
 set:mg "set"=none
 dict:mg "dict"=none
 ve:mg "ValueError"=none
section
variable {P:Program} {w:World} {K:PySem.W.Frag} {mg:Str->Option Value} {base:Heap}
def ag2 (K:PySem.W.Frag):Sp:=fun vs H Q _=>∃x t b1 b2,vs=[x]/\J0 K H x t/\PySem.W.kitOne K t (.type "int")=some b1/\PySem.W.kitOne K t (.type "bool")=some b2/\Q (.bl (b1&& !b2)) H
theorem bx0:o3 ["thing"] ["thing"] (j8 aa8):=by rfl'
theorem br3 {f:Addr}{fd:FuncData}(F:A2 K "is_whole" "is_whole" aa8 f fd)(B:Bl mg):l6 P w K mg base B8 1 f fd ["thing"] (ag2 K):=by
 refine F.ok bx0 (fun vs H Q E h=> ?_) (fun cdv A outer s H vs Q E hr h=> ?_)
 · obtain ⟨x,t,b1,b2,rfl,_⟩:=h;rfl
 · obtain ⟨x,t,b1,b2,rfl,ty,e1,e2,q⟩:=h;refine ⟨_,i6 (l0 (au3 (V5 B.isi (c5 (pv 0) (c5 (av4 B.int) c6))) (au2 (bz0 (V5 B.isi (c5 (pv 0) (c5 (ar1 B.bool) c6))))))),?_⟩;refine ⟨x,rfl,x,"int",t,b1,rfl,ty,e1,b1,rfl,?_⟩
   cases b1 with
   |true=>
    refine C6 ⟨x,rfl,x,"bool",t,b2,rfl,ty,e2,b2,rfl,?_⟩;exact q
   |false=>exact y7 q
def Q6:Sp:=fun vs H Q _=>∃(a:Addr) (ns:List Int),vs=[.ref a]/\H a=some (.lst (ns.map V.int))/\∀(b:Bool) (H':Hp),c8 H H'->(b=true↔ns.length<=40/\p9 ns)->Q (.bl b) H'
theorem ai9:o3 ["thing","seen","place"] ["thing"] (j8 R8):=by rfl'
theorem bm6 {f:Addr}{fd:FuncData}(F:A2 K "is_turn" "is_turn" R8 f fd)(B:Bl mg)(mt:∃t,mg "MOST_THINGS_turns"=some (.int 40 t))(cW:o7 P w K mg base "is_whole" 1 ["thing"] (ag2 K)):l6 P w K mg base B8 2 f fd ["thing"] Q6:=by
 refine F.ok ai9 (fun vs H Q E h=> ?_) (fun cdv A outer s H vs Q E hr h=> ?_)
 · obtain ⟨a,ns,rfl,_⟩:=h;rfl
 · obtain ⟨a,ns,rfl,ha,k⟩:=h;obtain ⟨tk,mt⟩:=mt;have hu:=M1 hr
   refine ⟨_,c7 (y8 (D5 (E8 (D8 (V5 B.isi (c5 (pv 0) (c5 (ar2 B.list) c6))))) (J3 (m9 at3 (p8 B.len (c5 (pv 0) c6)) (T8 (v:= .int 40) (by rfl) mt ⟨tk,rfl⟩) (m8 _)))).pt (i6 (l0 t6)) p5)
     (c7 (k6 (i:=1) ai9.nd rfl (Or.inl rfl) ai4)
     (c7 (E2 PassesOwn.never rfl (D1 (pv 0)) (o9 (i:=2) ai9.nd rfl (Or.inl rfl))
       (c7 (y8 (D5 (E8 (D8 (j6 cW hr (c5 (pv 2) c6)))) (D5 (m9 aj8 (pv 2) j7 (m8 _)) (D5 (m9 be2 (pv 2) (p8 B.len (c5 (pv 0) c6)) (m8 _)) (J3 (au1 (bj2 hu (pv 2) (pv 1))))))).pt (i6 (l0 t6)) p5)
       (i6 (ao3 hu (pv 1) (pv 2) t6 rfl))))
     (i6 (l0 t6)))),?_⟩
   refine ⟨_,rfl,_,"list",_,true,rfl,.lst ha,O9 K "list",true,rfl,?_⟩;refine y7 ⟨_,rfl,a,_,rfl,.inl (i7.of ha),_,_,rfl,rfl,_,rfl,?_⟩;rw[ck5];refine S1 (fun h40=> ?_) (fun h40=> ?_)
   · have h40:(40:Int) < (ns.length:Int):=of_decide_eq_true h40;exact k false H (c8.refl H) ⟨fun z=>(by cases z),fun z=>(by have:=z.1;omega)⟩
   · have h40:¬(40:Int) < (ns.length:Int):=fun z=>h40 (decide_eq_true z)
     intro d hd;have nad:a≠d:=j5 ha hd
     have ha1:(e8 H d (.dK [])) a=some (.lst (ns.map V.int)):=by rw[i8 nad];exact ha
     refine ⟨_,rfl,a,rfl,⟨_,i7.of ha1⟩,I0 (K:=K) (a:=a) (xs:=ns.map V.int) (fun i σ H2=>∃v:Option V,σ=[some (.ref a),some (.ref d),v]/\c8 H H2/\H2 d=some (.dK (J1 (ns.take i)))/\(ns.take i).Nodup/\∀x∈ns.take i,0<=x/\x < ns.length)
       ⟨none,rfl,c8.upd_new hd,c9,cu5,fun x hx=>by simp at hx⟩ (fun i σ H2 _ ⟨_,_,s2,_⟩=>i7.of (s2 a _ ha)) ?_ ?_⟩
     · rintro i y σ H2 hi ⟨v,rfl,s2,h2,nd,bd⟩;obtain ⟨z,hz,rfl⟩:=D6 hi;have ha2:=s2 a _ ha;have hil:i < ns.length:=(ck7.mp hz).1;refine ⟨_,rfl,.int z,_,true,false,rfl,.int z,O9 K "int",V4 K,_,rfl,?_⟩;refine y7 ⟨_,rfl,_,_,rfl,rfl,_,rfl,?_⟩;refine S1 (fun hz0=> ?_) (fun hz0=> ?_)
       · have hz0:z < 0:=of_decide_eq_true hz0;exact C6 (k false H2 s2 ⟨fun q=>(by cases q),fun q=>(by have:=q.2.lo z (cl9 hz);omega)⟩)
       have hz0:¬z < 0:=fun q=>hz0 (decide_eq_true q)
       refine ⟨_,rfl,_,rfl,a,_,rfl,.inl (i7.of ha2),_,_,rfl,rfl,_,rfl,?_⟩;rw[ck5];refine S1 (fun hz1=> ?_) (fun hz1=> ?_)
       · have hz1:(ns.length:Int)<=z:=of_decide_eq_true hz1;exact C6 (k false H2 s2 ⟨fun q=>(by cases q),fun q=>(by have:=q.2.hi z (cl9 hz);omega)⟩)
       have hz1:¬(ns.length:Int)<=z:=fun q=>hz1 (decide_eq_true q)
       refine ⟨_,rfl,_,rfl,d,_,rfl,aa2.k (k:=Sum.inl z) h2,_,rfl,?_⟩
       by_cases hm:z∈ns.take i
       · rw[ai6 hm];refine C6 (k false H2 s2 ⟨fun q=>(by cases q),fun q=> ?_⟩);exfalso;obtain ⟨j,hj⟩:=cm3.mp hm
         have hjl:j < i:=by
           have:=(ck7.mp hj).1;rw[cl8] at this;omega
         rw[cn9 hjl] at hj;have e1:=(ck7.mp hj).2;have e2:=(ck7.mp hz).2;exact cn0.mp (cm4.mp q.2.nd) j i (by omega) hil hjl (by rw[e1,e2])
       · rw[aa4 hm];refine y7 ⟨_,rfl,_,rfl,d,_,rfl,ai3.k (k:=Sum.inl z) h2 (q9 (by unfold J1;rw[ck5,cl8];omega)),?_⟩
         have hds:∀b o,H b=some o->b≠d:=fun b o e=>j5 e hd
         refine ⟨some (.int z),rfl,fun b o e=>by rw[i8 (hds b o e)];exact s2 b o e,?_,?_,?_⟩
         · rw[ac8 hm,c9,A3 hz]
         · rw[A3 hz];exact af6 nd hm
         · intro x hx;rw[A3 hz] at hx
           rcases cm1.mp hx with q|q
           · exact bd x q
           · have:x=z:=by simpa using q
             omega
     · rintro σ H2 ⟨v,rfl,s2,h2,nd,bd⟩;rw[ck5,cp3] at nd bd;refine k true H2 s2 ⟨fun _=>⟨by omega,⟨nd,fun x hx=>(bd x hx).1,fun x hx=>(bd x hx).2⟩⟩,fun _=>rfl⟩
end
end My
namespace My
open PySem L2 Mth
section
variable {P:Program} {w:World} {K:PySem.W.Frag} {mg:Str->Option Value} {base:Heap}
def o4 (H:Hp)(a:Addr)(p:List Int):Prop:=H a=some (.lst (p.map V.int))/\p9 p/\p.length<=40
end
end My
namespace My
open PySem L2 Mth
section
variable {P:Program} {w:World} {K:PySem.W.Frag} {mg:Str->Option Value} {base:Heap}
def R9:Sp:=fun vs H Q _=>∃(a:Addr) (ns:List Int),vs=[.ref a]/\o4 H a ns/\∀(H':Hp),c8 H H'->Q .non H'
theorem bm7:o3 ["thing"] ["thing"] (j8 G6):=by rfl'
theorem bd4 {f:Addr}{fd:FuncData}(F:A2 K "must_be_turn" "must_be_turn" G6 f fd)(cT:o7 P w K mg base "is_turn" 2 ["thing"] Q6):l6 P w K mg base B8 3 f fd ["thing"] R9:=by
 refine F.ok bm7 (fun vs H Q E h=> ?_) (fun cdv A outer s H vs Q E hr h=> ?_)
 · obtain ⟨a,ns,rfl,_⟩:=h;rfl
 · obtain ⟨a,ns,rfl,⟨ha,ht,hl⟩,k⟩:=h;refine ⟨_,i6 (y8 (E8 (D8 (j6 cT hr (c5 (pv 0) c6)))) (i6 ah9) p5),?_⟩;refine ⟨_,rfl,a,ns,rfl,ha,fun b H' s' hb=>⟨b,rfl,?_⟩⟩;have:b=true:=hb.mpr ⟨hl,ht⟩;subst this;exact y7 (k H' s')
end
end My
namespace My
open PySem L2 Mth
section
variable {P:Program} {w:World} {K:PySem.W.Frag} {mg:Str->Option Value} {base:Heap}
def am7 (K:PySem.W.Frag):Sp:=fun vs H Q _=>∃(a b:Addr) (xs ys:List V),vs=[.ref a,.ref b]/\i7 K H a xs/\i7 K H b ys/\xs.length=ys.length/\Q .non H
theorem cf5:o3 ["p","q"] ["p","q"] (j8 O1):=by rfl'
theorem bm8 {f:Addr}{fd:FuncData}(F:A2 K "must_fit" "must_fit" O1 f fd)(B:Bl mg):l6 P w K mg base B8 1 f fd ["p","q"] (am7 K):=by
 refine F.ok cf5 (fun vs H Q E h=> ?_) (fun cdv A outer s H vs Q E hr h=> ?_)
 · obtain ⟨a,b,xs,ys,rfl,_⟩:=h;rfl
 · obtain ⟨a,b,xs,ys,rfl,ha,hb,hl,k⟩:=h;refine ⟨_,i6 (y8 (m9 Z9 (p8 B.len (c5 (pv 0) c6)) (p8 B.len (c5 (pv 1) c6)) (m8 _)) (i6 ah9) p5),?_⟩;refine ⟨_,rfl,a,xs,rfl,.inl ha,_,rfl,b,ys,rfl,.inl hb,rfl,_,rfl,?_⟩;refine af5 (by rw[hl]) k
def G0:Sp:=fun vs H Q _=>∃(a b:Addr) (p q:List Int),vs=[.ref a,.ref b]/\o4 H a p/\o4 H b q/\p.length=q.length/\
 ∀(l:Addr) (H':Hp),H l=none->c8 H H'->H' l=some (.lst ((C9 p q).map V.int))->Q (.ref l) H'
theorem br4:o3 ["p","q"] ["p","q"] (j8 K6):=by rfl'
theorem bx1:(["place","p"]:List Str).Nodup:=by decide+kernel
theorem ar9 {f:Addr}{fd:FuncData}(F:A2 K "put_behind" "put_behind" K6 f fd)(cM:o7 P w K mg base "must_be_turn" 3 ["thing"] R9)(cF:o7 P w K mg base "must_fit" 1 ["p","q"] (am7 K)):l6 P w K mg base B8 4 f fd ["p","q"] G0:=by
 refine F.ok br4 (fun vs H Q E h=> ?_) (fun cdv A outer s H vs Q E hr h=> ?_)
 · obtain ⟨a,b,p,q,rfl,_⟩:=h;rfl
 · obtain ⟨a,b,p,q,rfl,⟨ha,ta,la⟩,⟨hb,tb,lb⟩,hl,k⟩:=h
   refine ⟨_,c7 (C0 (j6 cM hr (c5 (pv 0) c6))) (c7 (C0 (j6 cM hr (c5 (pv 1) c6))) (c7 (C0 (j6 cF (hr.mono (by decide)) (c5 (pv 0) (c5 (pv 1) c6))))
     (i6 (l0 (U0 (N:=["place","p"]) (nl:=1) (fr:=[0]) rfl .of (D1 (pv 1)) (fun _ _ _ _ _=>o9 (i:=0) bx1 rfl (Or.inl rfl)) (fun _ _ _ _ _=>V3) (fun _ _ _ _ _=>w6 (r:=bp0 K) t8 (pv 1) (pv 0) (fun _ _=>rfl))))))),?_⟩
   refine ⟨_,rfl,a,p,rfl,⟨ha,ta,la⟩,fun H1 s1=> ?_⟩;refine ⟨_,rfl,b,q,rfl,⟨s1 _ _ hb,tb,lb⟩,fun H2 s2=> ?_⟩;have s02:=s1.trans s2;refine ⟨_,rfl,_,rfl,a,b,_,_,rfl,i7.of (s02 _ _ ha),i7.of (s02 _ _ hb),by simpa using hl,?_⟩;refine ⟨_,rfl,b,rfl,⟨_,i7.of (s02 _ _ hb)⟩,R4 (K:=K) (a:=b) (xs:=q.map V.int) (fun i ys σ H3=>∃v,σ=[v,some (.ref a)]/\H3=H2/\ys=(C9 p (q.take i)).map V.int) ⟨none,rfl,rfl,rfl⟩ (fun i ys σ H3 _ ⟨_,_,e,_⟩=>by rw[e];exact i7.of (s02 _ _ hb)) ?_ ?_⟩
   · rintro i x ys σ H3 hi ⟨v,rfl,rfl,rfl⟩;obtain ⟨z,hz,rfl⟩:=D6 hi;have hzq:=cl9 hz;refine ⟨_,rfl,_,rfl,a,_,z,_,rfl,rfl,i7.of (s02 _ _ ha),U1 (tb.lo z hzq) (by have:=tb.hi z hzq;omega),?_,?_⟩
     · refine q9 ?_;unfold C9;rw[ck5,ck5,cl8];omega
     · refine ⟨_,rfl,rfl,?_⟩;rw[A3 hz];unfold C9;rw[cl6,cl6];rfl
   · rintro ys σ H3 ⟨v,rfl,rfl,rfl⟩ D hD;rw[ck5,cp3];exact k D _ (s02.free hD) (s02.upd_r (s02.free hD)) c9
end
end My
namespace My
open PySem L2 Mth
section
variable {P:Program} {w:World} {K:PySem.W.Frag} {mg:Str->Option Value} {base:Heap}
def ax5 (K:PySem.W.Frag):Sp:=fun vs H Q _=>∃(a:Addr) (ns:List Int) (k:Int),vs=[.ref a,.int k]/\i7 K H a (ns.map V.int)/\0<=k/\k<=100/\∀(l:Addr) (H':Hp),H l=none->c8 H H'->A9 H' l 4300->Q (.ref l) H'
theorem ax6:o3 ["script","k","cell"] ["script","k"] (j8 ab0):=by rfl'
theorem bx2 {f:Addr}{fd:FuncData}(F:A2 K "_law_pool" "_law_pool" ab0 f fd)(B:Bl mg):l6 P w K mg base B8 1 f fd ["script","k"] (ax5 K):=by
 refine F.ok ax6 (fun vs H Q E h=> ?_) (fun cdv A outer s H vs Q E hr h=> ?_)
 · obtain ⟨a,ns,k,rfl,_⟩:=h;rfl
 · obtain ⟨a,ns,k,rfl,ha,k0,k1,q⟩:=h
   refine ⟨_,c7 (k6 (i:=2) ax6.nd rfl (Or.inl rfl) j7)
     (c7 (y8 (m9 aj8 (pv 1) (p8 B.len (c5 (pv 0) c6)) (m8 _)) (i6 (k6 (i:=2) ax6.nd rfl (Or.inl rfl) (w6 t8 (pv 0) (pv 1) (fun _ _=>rfl)))) p5)
     (i6 (l0 (x6 (c5 (pv 2) (c5 (bc3 B.int (c5 (G3 be2 (pv 2) (r0 bz6 j7 j7) (m8 _)) c6)) (c5 (r0 ac3 j7 (pv 1)) c6))))))),?_⟩
   refine ⟨_,rfl,_,rfl,a,_,rfl,.inl ha,_,_,rfl,rfl,_,rfl,?_⟩;rw[ck5];have cp:bz4 10 18:=⟨by decide,by decide,by decide⟩;refine S1 (fun h=> ?_) (fun h=> ?_)
   · have h:k < (ns.length:Int):=of_decide_eq_true h;refine ⟨_,rfl,_,rfl,a,_,k,_,rfl,rfl,ha,U1 k0 h,?_⟩;refine ⟨_,rfl,_,rfl,_,_,rfl,rfl,cp,_,_,rfl,rfl,_,rfl,_,rfl,_,_,rfl,rfl,.inl ⟨by decide,by decide⟩,(by show 3<=sizeLine;decide),fun l hl=> ?_⟩;exact q l _ hl (c8.upd_new hl) ⟨_,_,_,c9,by omega,by omega⟩
   · refine ⟨_,rfl,_,rfl,_,_,rfl,rfl,cp,_,_,rfl,rfl,_,rfl,_,rfl,_,_,rfl,rfl,.inl ⟨by decide,by decide⟩,(by show 3<=sizeLine;decide),fun l hl=> ?_⟩;exact q l _ hl (c8.upd_new hl) ⟨_,_,_,c9,by omega,by omega⟩
def Z1:Sp:=fun vs H Q _=>∃(a:Addr) (c:Nat) (m:Int),vs=[.ref a,.int m]/\A9 H a c/\c<=1000000/\0 < m/\m<=1000000000000000000000000000000/\∀(r:Int) (H':Hp),0<=r->r < m->A9 H' a (c+1)->k7 a H H'->Q (.int r) H'
theorem ae2:o3 ["pool","many","found","x"] ["pool","many"] (j8 ab1):=by rfl'
theorem bx3 {f:Addr}{fd:FuncData}(F:A2 K "_law_draw" "_law_draw" ab1 f fd):l6 P w K mg base B8 1 f fd ["pool","many"] Z1:=by
 refine F.ok ae2 (fun vs H Q E h=> ?_) (fun cdv A outer s H vs Q E hr h=> ?_)
 · obtain ⟨a,c,m,rfl,_⟩:=h;rfl
 · obtain ⟨a,c,m,rfl,⟨x,y,z,ha,hz,hzc⟩,hc,m0,m1,q⟩:=h
   refine ⟨_,c7 (y8 (m9 aj7 (w6 t8 (pv 0) j7 (fun _ _=>rfl)) j7 (m8 _))
       (c7 (k6 (i:=2) ae2.nd rfl (Or.inl rfl) (r0 N4 (w6 t8 (pv 0) j7 (fun _ _=>rfl)) (pv 1)))
       (c7 (Y5 (r0 av9 (w6 t8 (pv 0) j7 (fun _ _=>rfl)) (pv 1)) (aj6 (pv 0) j7 aa0))
       (i6 (l0 (pv 2))))) p5)
     (c7 (Y5 (r0 J4 (w6 t8 (pv 0) j7 (fun _ _=>rfl)) j7) (aj6 (pv 0) j7 aa0))
     (c7 (k6 (i:=3) ae2.nd rfl (Or.inl rfl) (r0 N4 (r0 J4 (r0 N4 (w6 t8 (pv 0) j7 (fun _ _=>rfl)) j7) (r0 ac3 j7 (w6 t8 (pv 0) j7 (fun _ _=>rfl)))) j7))
     (c7 (k6 (i:=3) ae2.nd rfl (Or.inl rfl) (r0 N4 (r0 ac3 (pv 3) (pv 3)) j7))
     (c7 (k6 (i:=3) ae2.nd rfl (Or.inl rfl) (r0 N4 (r0 ac3 (r0 J4 (pv 3) j7) (pv 3)) j7))
     (i6 (l0 (r0 N4 (r0 bb0 (pv 3) j7) (pv 1)))))))),?_⟩
   refine ⟨_,rfl,a,_,_,_,rfl,rfl,i7.of ha,(p7 (j:=1) rfl),rfl,_,rfl,?_⟩;refine S1 (fun h=> ?_) (fun h=> ?_)
   · refine ⟨_,rfl,a,_,_,_,rfl,rfl,i7.of ha,(p7 (j:=0) rfl),_,rfl,_,_,rfl,rfl,m0,?_⟩;refine ⟨_,rfl,a,_,_,_,rfl,rfl,i7.of ha,(p7 (j:=0) rfl),_,rfl,_,_,rfl,rfl,⟨m0,m1⟩,?_⟩;refine ⟨_,rfl,a,_,_,0,rfl,rfl,ha,rfl,?_⟩;refine ⟨_,rfl,q _ _ (cn1 _ (by omega)) (co4 _ m0) ⟨_,_,_,c9,hz,by omega⟩ k7.upd⟩
   · refine ⟨_,rfl,a,_,_,_,rfl,rfl,i7.of ha,(p7 (j:=2) rfl),_,_,rfl,rfl,?_⟩;refine ⟨_,rfl,a,_,_,2,rfl,rfl,ha,rfl,?_⟩;have ha2:(e8 H a (.lst [.int x,.int y,.int (z+1)])) a=some (.lst [.int x,.int y,.int (z+1)]):=c9
     have e64:(2:Int)^64=18446744073709551616:=by decide
     refine ⟨_,rfl,a,_,_,_,rfl,rfl,i7.of ha2,(p7 (j:=0) rfl),_,_,rfl,rfl,(by show (0:Int) < 999999999989;decide),_,rfl,a,_,_,_,rfl,rfl,i7.of ha2,(p7 (j:=2) rfl),_,_,rfl,rfl,.inl ⟨by decide,by decide⟩,_,_,rfl,rfl,_,_,rfl,rfl,(by show (0:Int) < 999999999989;decide),?_⟩;refine ⟨_,rfl,_,rfl,_,_,rfl,rfl,.inl ⟨by rw[e64];omega,by rw[e64];omega⟩,_,_,rfl,rfl,(by show (0:Int) < 1000000000039;decide),?_⟩;refine ⟨_,rfl,_,_,rfl,rfl,_,rfl,_,_,rfl,rfl,.inl ⟨by rw[e64];omega,by rw[e64];omega⟩,_,_,rfl,rfl,(by show (0:Int) < 999999999961;decide),?_⟩;refine ⟨_,rfl,_,_,rfl,rfl,⟨by decide,by decide⟩,_,rfl,_,_,rfl,rfl,m0,?_⟩;exact q _ _ (cn1 _ (by omega)) (co4 _ m0) ⟨_,_,_,c9,by omega,by omega⟩ k7.upd
def at7 (H:Hp)(l:Addr):Nat:=match H l with
 |some (.lst xs)=>xs.length
 |_=>0
theorem ab5 {H:Hp}{l:Addr}{xs:List V}(h:H l=some (.lst xs)):at7 H l=xs.length:=by unfold at7;rw[h]
def am8:Sp:=fun vs H Q _=>∃(a:Addr) (c:Nat) (m:Int),vs=[.ref a,.int m]/\A9 H a c/\0<=m/\m<=40/\c<=800000/\
 ∀(l:Addr) (p:List Int) (H':Hp),H l=none->p9 p->(p.length:Int)=m->H' l=some (.lst (p.map V.int))->A9 H' a (c+100)->k7 a H H'->Q (.ref l) H'
theorem M0:o3 ["pool","many","left","row","most","found","at","part","k","thing"] ["pool","many"] (j8 ab2):=by rfl'
theorem bx4 {f:Addr}{fd:FuncData}(F:A2 K "_law_turn" "_law_turn" ab2 f fd)(B:Bl mg)(cT:o7 P w K mg base "_law_draw" 1 ["pool","many"] Z1):l6 P w K mg base B8 2 f fd ["pool","many"] am8:=by
 refine F.ok M0 (fun vs H Q E h=> ?_) (fun cdv A outer s H vs Q E hr h=> ?_)
 · obtain ⟨a,c,m,rfl,_⟩:=h;rfl
 · obtain ⟨a,c,n,rfl,hp,n0,n1,hc,q⟩:=h;have hu:=M1 hr
   refine ⟨_,c7 (k6 (i:=2) M0.nd rfl (Or.inl rfl) (T2 rfl B.list B.range (c5 (pv 1) c6)))
     (c7 (k6 (i:=3) M0.nd rfl (Or.inl rfl) (x6 c6))
     (c7 (U7 PassesOwn.never (m9 (N8 0 hu) (pv 2) (x6 c6) (m8 _))
       (i6 (C0 (M8 (pv 3) (c5 (bq0 (pv 2) (c5 (j6 cT hr (c5 (pv 0) (c5 (p8 B.len (c5 (pv 2) c6)) c6))) c6)) c6)))))
     (c7 (y8 (m9 aj7 (j6 cT hr (c5 (pv 0) (c5 j7 c6))) j7 (m8 _)) (i6 (l0 (pv 3))) p5)
     (c7 (k6 (i:=4) M0.nd rfl (Or.inl rfl) (r0 J4 j7 (j6 cT hr (c5 (pv 0) (c5 j7 c6)))))
     (c7 (k6 (i:=5) M0.nd rfl (Or.inl rfl) (T2 rfl B.list B.range (c5 (pv 1) c6)))
     (c7 (k6 (i:=6) M0.nd rfl (Or.inl rfl) j7)
     (c7 (U7 PassesOwn.never (m9 aj8 (pv 6) (pv 1) (m8 _))
       (c7 (k6 (i:=7) M0.nd rfl (Or.inl rfl) (ai1 ao2 (pv 3) (af4 (pv 6)) (af4 (r0 J4 (r0 J4 (pv 6) j7) (j6 cT hr (c5 (pv 0) (c5 (pv 4) c6)))))))
       (c7 (E2 PassesOwn.never rfl (bc1 B.enum (c5 (pv 7) c6)) (ac1 rfl (D3 (o9 (i:=8) M0.nd rfl (Or.inl rfl)) (D3 (o9 (i:=9) M0.nd rfl (Or.inl rfl)) Y4)))
         (i6 (Y5 (w6 t8 (pv 7) (r0 N4 (r0 J4 (pv 8) j7) (p8 B.len (c5 (pv 7) c6))) (fun _ _=>rfl)) (aj6 (pv 5) (pv 9) aa0))))
       (i6 (k6 (i:=6) M0.nd rfl (Or.inl rfl) (r0 J4 (pv 6) (p8 B.len (c5 (pv 7) c6))))))))
     (i6 (l0 (pv 5)))))))))),?_⟩
   obtain ⟨px,py,pz,hpa,hpz,hpz'⟩:=id hp;refine ⟨_,rfl,_,rfl,fun r hr'=>⟨r,0,n,rfl,c9,⟨by decide,by decide,by omega,by omega⟩,by omega,fun l hl=> ?_⟩⟩
   have hlr:l≠r:=fun z=>by rw[z,c9] at hl;cases hl
   have hl0:H l=none:=by rw[i8 hlr] at hl;exact hl
   have s1:c8 H (e8 (e8 H r (.rng 0 n)) l (.lst ((r6 0 (n - 0).toNat).map V.int))):=(c8.upd_new hr').upd_r hl0
   have e0:(n - 0).toNat=n.toNat:=by rw[Int.sub_zero]
   rw[e0] at s1;rw[e0];have h1l:(e8 (e8 H r (.rng 0 n)) l (.lst ((r6 0 n.toNat).map V.int))) l=some (.lst ((r6 0 n.toNat).map V.int)):=c9;generalize (e8 (e8 H r (.rng 0 n)) l (.lst ((r6 0 n.toNat).map V.int)))=H1 at s1 h1l ⊢;refine ⟨cn3 _,fun m hm=> ?_⟩;have hm0:H m=none:=s1.free hm;have nal:a≠l:=j5 hpa hl0;have nam:a≠m:=j5 hpa hm0
   have hml:m≠l:=fun z=>by rw[z,h1l] at hm;cases hm
   refine ai0 (fun σ H2=>∃(ls fs:List V),σ=[some (.ref a),some (.int n),some (.ref l),some (.ref m),none,none,none,none,none,none]/\H2 l=some (.lst ls)/\H2 m=some (.lst fs)/\(fs++ls).Perm ((r6 0 n.toNat).map V.int)/\A9 H2 a (c+fs.length)/\k7 a H H2) (fun σ H2=>at7 H2 l)
     ⟨(r6 0 n.toNat).map V.int,[],rfl,by rw[i8 hml.symm];exact h1l,c9,List.Perm.refl _,⟨px,py,pz,by rw[i8 nam];exact s1 a _ hpa,hpz,hpz'⟩,fun b o hb _=>by rw[i8 (j5 hb hm0)];exact s1 b o hb⟩ ?_ ?_
   · rintro σ H2 ⟨ls,fs,rfl,h2l,h2m,pm,⟨x,y,z,h2a,hz0,hz1⟩,kb⟩;refine ⟨_,rfl,cn3 _,fun e he=> ?_⟩;have nle:l≠e:=j5 h2l he;have nme:m≠e:=j5 h2m he;have nae:a≠e:=j5 h2a he;refine ⟨l,e,ls,[],ls.isEmpty,rfl,rfl,i7.of (by rw[i8 nle];exact h2l),i7.of c9,bc0 _ _ _ _,_,rfl,?_⟩
     have hlen:fs.length+ls.length=n.toNat:=by
       have:=pm.length_eq;rw[cl2,ck5,J5] at this;exact this
     cases ls with
     |nil=>
      refine y7 ?_;rw[cp1] at pm;obtain ⟨ts,rfl,hts⟩:=bk1 pm;obtain ⟨hT,hTl⟩:=J6 hts;rw[ck5] at hz1
      have h3m:(e8 H2 e (.lst [])) m=some (.lst (ts.map V.int)):=by rw[i8 nme];exact h2m
      have P3:A9 (e8 H2 e (.lst [])) a (c+40):=⟨x,y,z,by rw[i8 nae];exact h2a,hz0,by omega⟩
      have kb3:k7 a H (e8 H2 e (.lst [])):=fun b o hb hn=>by
        have:=kb b o hb hn;rw[i8 (j5 this he)];exact this
      generalize (e8 H2 e (.lst []))=H3 at h3m P3 kb3 ⊢;refine ⟨_,rfl,a,c+40,2,rfl,P3,by omega,by decide,by decide,fun r1 H4 r10 r11 P4 kb34=>⟨rfl,_,rfl,?_⟩⟩;have h4m:=kb34 m _ h3m nam.symm;have kb4:=kb3.trans kb34;refine S1 (fun _=>⟨_,rfl,q m ts H4 hm0 hT (by omega) h4m (P4.mono (by omega)) kb4⟩) (fun _=> ?_);refine ⟨_,rfl,a,c+41,4,rfl,P4,by omega,by decide,by decide,fun r2 H5 r20 r21 P5 kb45=>⟨_,_,rfl,rfl,?_⟩⟩;have h5m:=kb45 m _ h4m nam.symm;have kb5:=kb4.trans kb45;obtain ⟨x5,y5,z5,h5a,hz5,hz5'⟩:=id P5;refine ⟨_,rfl,_,rfl,fun r' hr''=>⟨r',0,n,rfl,c9,⟨by decide,by decide,by omega,by omega⟩,by omega,fun fo hfo=> ?_⟩⟩;rw[e0]
      have hfr:fo≠r':=fun z=>by rw[z,c9] at hfo;cases hfo
      have hfo5:H5 fo=none:=by rw[i8 hfr] at hfo;exact hfo
      have s6:c8 H5 (e8 (e8 H5 r' (.rng 0 n)) fo (.lst ((r6 0 n.toNat).map V.int))):=(c8.upd_new hr'').upd_r hfo5;have h6f:(e8 (e8 H5 r' (.rng 0 n)) fo (.lst ((r6 0 n.toNat).map V.int))) fo=some (.lst ((r6 0 n.toNat).map V.int)):=c9;generalize (e8 (e8 H5 r' (.rng 0 n)) fo (.lst ((r6 0 n.toNat).map V.int)))=H6 at s6 h6f ⊢;have h6m:=s6 m _ h5m;have naf:a≠fo:=j5 h5a hfo5;have hmf:m≠fo:=j5 h5m hfo5
      have hfo0:H fo=none:=by
        cases ee:H fo with
        |none=>rfl
        |some o=>have:=kb5 fo o ee naf.symm;rw[hfo5] at this;cases this
      have kb6:k7 a H H6:=fun b o hb hn=>s6 b o (kb5 b o hb hn)
      have P6:A9 H6 a (c+42):=⟨x5,y5,z5,s6 a _ h5a,hz5,hz5'⟩
      have mob:1<=1+r2/\1+r2<=4:=by omega
      obtain ⟨mo,hmo⟩:∃mo,mo=1+r2:=⟨_,rfl⟩;rw[<-hmo] at mob
      refine ⟨fun mm σ H7=>∃(fs qs:List Int) (k:Nat) (v7 v8 v9:Option V),σ=[some (.ref a),some (.int n),some (.ref l),some (.ref m),some (.int mo),some (.ref fo),some (.int (k:Int)),v7,v8,v9]/\k<=ts.length/\H7 fo=some (.lst (fs.map V.int))/\H7 m=some (.lst (ts.map V.int))/\fs.length=ts.length/\qs.Perm (ts.take k)/\(ts.take k).map (G2 fs)=qs.map some/\A9 H7 a (c+42+k)/\k7 a H H7/\mm=ts.length - k,
        ⟨ts.length,_,[],0,none,none,none,by rw[hmo];rfl,cn3 _,h6f,h6m,by rw[J5,hTl],List.Perm.refl _,rfl,P6,kb6,by omega⟩,?_⟩
      rintro mm σ H7 ⟨fs,qs,k,v7,v8,v9,rfl,hk,h7f,h7m,hfl,hq,hmap,P7,kb7,rfl⟩;refine ⟨_,rfl,_,rfl,_,_,rfl,rfl,_,rfl,?_⟩;refine S1 (fun hlt=> ?_) (fun hge=> ?_)
      · have hlt:(k:Int) < n:=of_decide_eq_true hlt
        have hkl:k < ts.length:=by omega
        refine ⟨fun σ' H'=>∃m',m' < ts.length - k/\_,fun _ _ h=>h,?_⟩;refine ⟨_,rfl,_,rfl,_,rfl,_,rfl,_,_,rfl,rfl,_,rfl,_,rfl,a,c+42+k,mo,rfl,P7,by omega,by omega,by omega,fun r3 H8 r30 r31 P8 kb78=>⟨_,_,rfl,rfl,_,rfl,?_⟩⟩;have h8m:=kb78 m _ h7m nam.symm;have h8f:=kb78 fo _ h7f naf.symm;have kb8:=kb7.trans kb78;refine ⟨m,_,rfl,i7.of h8m,fun pa hpa'=> ?_⟩;obtain ⟨rn,rfl⟩:=co7 r30
        have ecut:V0 (ts.map V.int) (some (k:Int)) (some ((k:Int)+1+(rn:Int)))=(((ts.drop k).take (min (k+1+rn) ts.length - k))).map V.int:=by
          rw[show (k:Int)+1+(rn:Int)=((k+1+rn:Nat):Int) by omega,bv2 _ _ _ (by rw[ck5];exact hk),ck5,List.map_take,List.map_drop]
        rw[ecut];obtain ⟨L,hL⟩:∃L,L=min (k+1+rn) ts.length - k:=⟨_,rfl⟩;rw[<-hL]
        have L1:1<=L:=by omega
        have hkL:k+L<=ts.length:=by omega
        have segL:((ts.drop k).take L).length=L:=by rw[cl8,co5];omega
        have segAt:∀u,u < L->((ts.drop k).take L)[u]? =some (ts.getD (k+u) 0):=fun u hu=>by
          rw[cn9 hu,cu3,G4 (by omega),ck6 (by omega)]
        have s89:c8 H8 (e8 H8 pa (.lst (((ts.drop k).take L).map V.int))):=c8.upd_new hpa';have h9p:(e8 H8 pa (.lst (((ts.drop k).take L).map V.int))) pa=some (.lst (((ts.drop k).take L).map V.int)):=c9;generalize (e8 H8 pa (.lst (((ts.drop k).take L).map V.int)))=H9 at s89 h9p ⊢;obtain ⟨C5,hseg⟩:∃C5,C5=(ts.drop k).take L:=⟨_,rfl⟩;rw[<-hseg] at segL segAt h9p;have h9m:=s89 m _ h8m;have h9f:=s89 fo _ h8f
        have kb9:k7 a H H9:=fun b o hb hn=>s89 b o (kb8 b o hb hn)
        have P9:A9 H9 a (c+43+k):=by
          obtain ⟨x,y,z,e,z0,z1⟩:=id P8;exact ⟨x,y,z,s89 a _ e,z0,by omega⟩
        have npf:pa≠fo:=fun z=>by rw[z,h8f] at hpa';cases hpa'
        have npm:pa≠m:=fun z=>by rw[z,h8m] at hpa';cases hpa'
        refine ⟨_,rfl,pa,rfl,⟨_,i7.of h9p⟩,av7 (K:=K) (a:=pa) (xs:=C5.map V.int) (fun j σ H10=>∃(fs':List Int) (v8' v9':Option V),σ=[some (.ref a),some (.int n),some (.ref l),some (.ref m),some (.int mo),some (.ref fo),some (.int (k:Int)),some (.ref pa),v8',v9']/\H10 fo=some (.lst (fs'.map V.int))/\H10 m=some (.lst (ts.map V.int))/\H10 pa=some (.lst (C5.map V.int))/\fs'.length=ts.length/\(ts.take k).map (G2 fs')=qs.map some/\(∀u,u < j->G2 fs' (ts.getD (k+u) 0)=some (ts.getD (k+(u+1)%L) 0))/\A9 H10 a (c+43+k)/\k7 a H H10)
          ⟨fs,v8,v9,rfl,h9f,h9m,h9p,hfl,hmap,fun u hu=>by omega,P9,kb9⟩ (fun j σ H10 _ ⟨_,_,_,_,_,_,h,_⟩=>i7.of h) ?_ ?_⟩
        · rintro j y σ H10 t hj ⟨fs',v8',v9',rfl,h10f,h10m,h10p,hfl',hmap',hu',P10,kb10⟩ ht;obtain ⟨zz,hzz,rfl⟩:=D6 hj
          have hjL:j < L:=by rw[<-segL];exact (ck7.mp hzz).1
          have ezz:zz=ts.getD (k+j) 0:=by
            rw[segAt j hjL] at hzz;exact (Option.some.inj hzz).symm
          subst ezz;have hjm:(j+1)%L < L:=Nat.mod_lt _ (by omega)
          have hi1:k+j < ts.length:=by omega
          have s1011:c8 H10 (e8 H10 t (.tup [.int (j:Int),.int (ts.getD (k+j) 0)])):=c8.upd_new ht;refine ⟨t,_,rfl,D9.of c9,rfl,_,_,rfl,_,_,rfl,rfl,?_⟩;generalize (e8 H10 t (.tup [.int (j:Int),.int (ts.getD (k+j) 0)]))=H11 at s1011 ⊢;have h11p:=s1011 pa _ h10p;have h11f:=s1011 fo _ h10f
          have hat1:atI (C5.map V.int) (((j:Int)+1)%((C5.map V.int).length:Int))=some (.int (ts.getD (k+(j+1)%L) 0)):=by
            rw[ck5,segL,show ((j:Int)+1)%(L:Int)=(((j+1)%L:Nat):Int) by rw[cs4];rfl];exact p7 (by rw[cl0,segAt _ hjm];rfl)
          refine ⟨_,rfl,_,rfl,_,_,rfl,rfl,_,rfl,pa,_,rfl,.inl (i7.of h11p),_,_,rfl,rfl,(by rw[ck5,segL];show (0:Int) < (L:Int);omega),pa,_,_,_,rfl,rfl,i7.of h11p,hat1,?_⟩
          have htv:ts.getD (k+j) 0∈ts:=by rw[G4 hi1];exact cr4 hi1
          have t0:=hT.lo _ htv;have t1:=hT.hi _ htv;refine ⟨_,rfl,_,rfl,fo,_,_,(ts.getD (k+j) 0).toNat,rfl,rfl,h11f,?_,?_⟩
          · unfold ixN;rw[ck5,if_pos t0,if_pos (by omega)]
          have es:(fs'.map V.int).set (ts.getD (k+j) 0).toNat (.int (ts.getD (k+(j+1)%L) 0))=(fs'.set (ts.getD (k+j) 0).toNat (ts.getD (k+(j+1)%L) 0)).map V.int:=by rw[List.map_set]
          rw[es];refine ⟨_,_,_,rfl,c9,by rw[i8 hmf];exact s1011 m _ h10m,by rw[i8 npf];exact h11p,by rw[cx8];exact hfl',?_,?_,?_,fun b o hb hn=>by rw[i8 (j5 hb hfo0)];exact s1011 b o (kb10 b o hb hn)⟩
          · rw[<-hmap']
            refine cn6 fun u hu=> ?_
            have hut:=cr0 hu
            refine al4 (hT.lo u hut) t0 fun z=> ?_
            obtain ⟨jj,hjj⟩:=cm3.mp hu
            have hjk:jj < k:=by
              have:=(ck7.mp hjj).1;rw[cl8] at this;omega
            rw[cn9 hjk] at hjj;have:=(ck7.mp hjj).2;exact T3 hT.nd (i:=jj) (j:=k+j) (by omega) hi1 (by omega) (by rw[G4 (show jj < ts.length by omega),this];exact z)
          · intro u hu
            by_cases huj:u=j
            · subst huj;exact av6 (by omega)
            · have huj':u < j:=by omega
              rw[al4 (hT.lo _ (by rw[G4 (show k+u < ts.length by omega)];exact cr4 _)) t0 (T3 hT.nd (by omega) hi1 (by omega))];exact hu' u huj'
          · obtain ⟨x,y,z,e,z0,z1⟩:=id P10;exact ⟨x,y,z,by rw[i8 naf];exact s1011 a _ e,z0,z1⟩
        · rintro σ H10 ⟨fs',v8',v9',rfl,h10f,h10m,h10p,hfl',hmap',hu',P10,kb10⟩;rw[ck5,segL] at hu';obtain ⟨qs',hq',hmap''⟩:=bq2 L1 hkL hmap' hq hu';refine ⟨_,rfl,_,rfl,pa,_,rfl,.inl (i7.of h10p),_,_,rfl,rfl,ts.length - (k+L),by omega,fs',qs',k+L,some (.ref pa),v8',v9',?_,by omega,h10f,h10m,hfl',hq',hmap'',P10.mono (by omega),kb10,rfl⟩;rw[ck5,segL,show ((k+L:Nat):Int)=(k:Int)+(L:Int) by omega];rfl
      · have hge:¬(k:Int) < n:=fun z=>hge (decide_eq_true z)
        have hkl:k=ts.length:=by omega
        rw[hkl,cp3] at hq hmap;have:=(bf4 hT hfl hmap).trans (hq.trans hts);obtain ⟨hF,hFl⟩:=J6 this;exact ⟨_,rfl,q fo fs H7 hfo0 hF (by omega) h7f (P7.mono (by omega)) kb7⟩
     |cons g rr=>
      refine C6 ?_
      have h3m:(e8 H2 e (.lst [])) m=some (.lst fs):=by rw[i8 nme];exact h2m
      have h3l:(e8 H2 e (.lst [])) l=some (.lst (g::rr)):=by rw[i8 nle];exact h2l
      refine ⟨_,rfl,.inl ⟨rfl,_,i7.of h3m⟩,_,rfl,.inl ⟨rfl,_,i7.of h3l⟩,_,rfl,_,rfl,l,_,rfl,.inl (i7.of h3l),a,c+fs.length,_,rfl,⟨x,y,z,by rw[i8 nae];exact h2a,hz0,hz1⟩,by simp only[cm9] at hlen;omega,by simp only[cm9];omega,by simp only[cm9] at*;omega,?_⟩;intro j H4 j0 j1 ⟨x',y',z',h4a,hz0',hz1'⟩ kb4;have h4l:=kb4 l _ h3l nal.symm;have h4m:=kb4 m _ h3m nam.symm;obtain ⟨jn,rfl⟩:=co7 j0
      have hjl:jn < (g::rr).length:=by simp only[cm9] at j1 ⊢;omega
      refine ⟨l,_,_,jn,(g::rr)[jn],rfl,rfl,h4l,by omega,by simp only[cm9] at*;omega,?_,ck6 hjl,?_⟩
      · have:ixN (g::rr).length (jn:Int)=some jn:=by
          unfold ixN;rw[if_pos (by omega),if_pos (by omega)];simp
        exact (ao1 this).1
      have h5m:(e8 H4 l (.lst ((g::rr).eraseIdx jn))) m=some (.lst fs):=by rw[i8 hml];exact h4m
      refine ⟨m,_,_,rfl,rfl,h5m,q9 (by simp only[cm9] at hlen;omega),?_⟩
      have e5:(e8 (e8 H4 l (.lst ((g::rr).eraseIdx jn))) m (.lst (fs++[(g::rr)[jn]]))) l=some (.lst ((g::rr).eraseIdx jn)):=by rw[i8 hml.symm,c9]
      refine ⟨⟨_,_,rfl,e5,c9,?_,⟨x',y',z',by rw[i8 nam,i8 nal];exact h4a,hz0',by rw[cl2];exact hz1'⟩,?_⟩,?_⟩
      · have pe:=al2 (l:=g::rr) (k:=jn) (ck6 hjl);refine List.Perm.trans ?_ pm;rw[cm2];exact List.Perm.append_left fs pe
      · intro b o hb hn;have b2:=kb b o hb hn
        have b3:(e8 H2 e (.lst [])) b=some o:=by rw[i8 (j5 b2 he)];exact b2
        have b4:=kb4 b o b3 hn;rw[i8 (j5 hb hm0),i8 (j5 hb hl0)];exact b4
      · rw[ab5 e5,ab5 h2l,List.length_eraseIdx_of_lt hjl];simp only[cm9] at*;omega
   · rintro σ H2 Q Q' hq ⟨v,hv,h1,h2⟩;refine ⟨v,hv,h1,fun e he=> ?_⟩;obtain ⟨a1,b1,xs1,ys1,r1,e1,e2,e3,e4,e5,k1,e6,e7⟩:=h2 e he;exact ⟨a1,b1,xs1,ys1,r1,e1,e2,e3,e4,e5,k1,e6,hq _ _ e7⟩
end
end My
namespace My
open PySem L2 Mth
section
variable {P:Program} {w:World} {K:PySem.W.Frag} {mg:Str->Option Value} {base:Heap}
def N3:Sp:=fun vs H Q _=>∃(a:Addr) (p:List Int),vs=[.ref a]/\o4 H a p/\
 ∀(l:Addr) (as:List Addr) (rs:List (List Int)) (H':Hp),H l=none->c8 H H'->H' l=some (.lst (as.map V.ref))->w9 H' as rs->C7 p p.length rs->(∀b∈as,H b=none)->as.Nodup->l∉as->Q (.ref l) H'
theorem X4 {H:Hp}{as:List Addr}{rs:List (List Int)}{e:Addr}{r:List Int}(h:w9 H as rs)(he:H e=some (.lst (r.map V.int))):w9 H (as++[e]) (rs++[r]):=by
 refine ⟨by rw[cl2,cl2,h.1];rfl,fun j b q h1 h2=> ?_⟩
 by_cases hj:j < as.length
 · rw[cp8 hj] at h1;rw[cp8 (by rw[<-h.1];exact hj)] at h2;exact h.2 j b q h1 h2
 · rw[cp6 (by omega)] at h1;rw[cp6 (by rw[<-h.1];omega),<-h.1] at h2
   have hj0:j - as.length=0:=by
     have:=(ck7.mp h1).1
     simpa using this
   rw[hj0] at h1 h2;cases h1;cases h2;exact he
theorem K7 {H H':Hp}{as:List Addr}{rs:List (List Int)}(h:w9 H as rs)(k:∀b∈as,∀o,H b=some o->H' b=some o):w9 H' as rs:=
 ⟨h.1,fun j a r h1 h2=>k a (cl9 h1) _ (h.2 j a r h1 h2)⟩
theorem aj0 {H:Hp}{as:List Addr}{rs:List (List Int)}(h:w9 H as rs){b:Addr}(hb:b∈as):∃r:List Int,H b=some (.lst (r.map V.int)):=by
 obtain ⟨j,hj⟩:=cm3.mp hb;have hjl:=(ck7.mp hj).1;exact ⟨_,h.2 j b (rs[j]'(by rw[<-h.1];exact hjl)) hj (ck6 _)⟩
theorem bm9 {p:List Int}{i:Nat}{rs:List (List Int)}(tp:p9 p)(h:C7 p i rs):rs.flatten.length<=p.length:=by
 refine ad0 h.nd fun x hx=> ?_
 obtain ⟨r,hr,hxr⟩:=ct9.mp hx;obtain ⟨y,L,a,b,rfl,_⟩:=h.ring r hr;exact V6 tp a x hxr
theorem ax7 {p:List Int}{i:Nat}{rs:List (List Int)}(h:C7 p i rs):rs.length<=rs.flatten.length:=by
 have:∀l:List (List Int),(∀r∈l,1<=r.length)->l.length<=l.flatten.length:=by
   intro l
   induction l with
   |nil=>intro _;exact ck8 _
   |cons a r ih=>
    intro h;have h1:=h a cl4
    have h2:=ih fun x hx=>h x (cl1 _ hx)
    rw[List.flatten_cons,cl2,cm9];omega
 refine this rs fun r hr=> ?_
 obtain ⟨y,L,a,b,rfl,_⟩:=h.ring r hr;rw[A7];exact b.pos
end
end My
namespace My
open PySem L2 Mth
section
variable {P:Program} {w:World} {K:PySem.W.Frag} {mg:Str->Option Value} {base:Heap}
def ax8:Sp:=fun vs H Q _=>∃(a:Addr) (p:List Int) (x:Int),vs=[.ref a,.int x]/\o4 H a p/\In p x/\
 ∀(l:Addr) (L:Nat) (H':Hp),H l=none->c8 H H'->G7 p x L->L<=40->H' l=some (.lst ((q0 p x L).map V.int))->Q (.ref l) H'
theorem am9:o3 ["p","first","ring","thing"] ["p","first"] (j8 X8):=by rfl'
theorem bx5 {f:Addr}{fd:FuncData}(F:A2 K "walk_ring" "walk_ring" X8 f fd):l6 P w K mg base B8 1 f fd ["p","first"] ax8:=by
 refine F.ok am9 (fun vs H Q E h=> ?_) (fun cdv A outer s H vs Q E hr h=> ?_)
 · obtain ⟨a,p,x,rfl,_⟩:=h;rfl
 · obtain ⟨a,p,x,rfl,⟨ha,tp,lp⟩,hx,q⟩:=h
   refine ⟨_,c7 (k6 (i:=2) am9.nd rfl (Or.inl rfl) (x6 (c5 (pv 1) c6)))
     (c7 (k6 (i:=3) am9.nd rfl (Or.inl rfl) (w6 t8 (pv 0) (pv 1) (fun _ _=>rfl)))
     (c7 (U7 PassesOwn.never (m9 Z9 (pv 3) (pv 1) (m8 _)) (c7 (C0 (M8 (pv 2) (c5 (pv 3) c6))) (i6 (k6 (i:=3) am9.nd rfl (Or.inl rfl) (w6 t8 (pv 0) (pv 3) (fun _ _=>rfl))))))
     (i6 (l0 (pv 2))))),?_⟩
   refine ⟨_,rfl,(by show 1<=sizeLine;decide),fun l hl=> ?_⟩;have nal:a≠l:=j5 ha hl
   have hal:(e8 H l (.lst [.int x])) a=some (.lst (p.map V.int)):=by rw[i8 nal];exact ha
   refine ⟨_,rfl,_,rfl,a,_,_,_,rfl,rfl,i7.of hal,U1 hx.1 hx.2,?_⟩
   refine ai0 (fun σ H2=>∃m:Nat,σ=[some (.ref a),some (.int x),some (.ref l),some (.int (it p m x))]/\1<=m/\H2 l=some (.lst ((q0 p x m).map V.int))/\c8 H H2/\∀i,0 < i->i < m->it p i x≠x) (fun _ H2=>p.length+1 - at7 H2 l)
     ⟨1,rfl,ck8 _,c9,c8.upd_new hl,fun i i0 i1=>by omega⟩ ?_ ?_
   · rintro σ H2 ⟨m,rfl,m1,h2l,s2,hne⟩;have ha2:=s2 a _ ha;refine ⟨_,rfl,_,rfl,rfl,_,rfl,?_⟩
     by_cases hb:it p m x=x
     · refine af5 (congrArg V.int hb) ?_;exact ⟨_,rfl,q l m H2 hl s2 ⟨by omega,hb,hne⟩ (by have:=N9 tp hx hne;omega) h2l⟩
     · have hb':¬V.int (it p m x)=V.int x:=fun z=>hb (V.int.inj z)
       rw[decide_eq_false hb'];refine C6 ?_
       have hne':∀i,0 < i->i < m+1->it p i x≠x:=fun i i0 i1=>by
         by_cases e:i=m
         · rw[e];exact hb
         · exact hne i i0 (by omega)
       have hbd:=N9 tp hx hne';refine ⟨_,rfl,.inl ⟨rfl,_,i7.of h2l⟩,_,rfl,l,_,_,rfl,rfl,h2l,q9 (by rw[ck5,A7];omega),?_⟩;have hi:=Q7 tp hx m;refine ⟨_,rfl,_,rfl,a,_,_,_,rfl,rfl,i7.of (by rw[i8 nal];exact ha2),U1 hi.1 hi.2,?_⟩
       have h3l:(e8 H2 l (.lst ((q0 p x m).map V.int++[.int (it p m x)]))) l=some (.lst ((q0 p x (m+1)).map V.int)):=by
         rw[c9,bf5,cl6];rfl
       refine ⟨⟨m+1,rfl,by omega,h3l,fun b o hb=>by rw[i8 (j5 hb hl)];exact s2 b o hb,hne'⟩,?_⟩;rw[ab5 h3l,ab5 h2l,ck5,ck5,A7,A7];omega
   · rintro σ H2 Q Q' hq ⟨v,hv,u,hu,e1,k1,e2,e3⟩;exact ⟨v,hv,u,hu,e1,k1,e2,hq _ _ e3⟩
theorem U4:o3 ["p","rings","seen","first","ring","thing"] ["p"] (j8 W1):=by rfl'
theorem br5 {f:Addr}{fd:FuncData}(F:A2 K "walk_rings" "walk_rings" W1 f fd)(B:Bl mg)(cR:o7 P w K mg base "walk_ring" 1 ["p","first"] ax8):l6 P w K mg base B8 2 f fd ["p"] N3:=by
 refine F.ok U4 (fun vs H Q E h=> ?_) (fun cdv A outer s H vs Q E hr h=> ?_)
 · obtain ⟨a,p,rfl,_⟩:=h;rfl
 · obtain ⟨a,p,rfl,⟨ha,tp,lp⟩,q⟩:=h;have hu:=M1 hr
   refine ⟨_,c7 (k6 (i:=1) U4.nd rfl (Or.inl rfl) (x6 c6)) (c7 (k6 (i:=2) U4.nd rfl (Or.inl rfl) ai4)
     (c7 (E2 PassesOwn.never rfl (R3 (by rfl) B.range (c5 (p8 B.len (c5 (pv 0) c6)) c6)) (o9 (i:=3) U4.nd rfl (Or.inl rfl))
       (i6 (y8 (au1 (bj3 hu (pv 3) (pv 2))) (c7 (k6 (i:=4) U4.nd rfl (Or.inl rfl) (j6 cR hr (c5 (pv 0) (c5 (pv 3) c6)))) (c7 (C0 (M8 (pv 1) (c5 (pv 4) c6)))
         (i6 (E2 PassesOwn.never rfl (D1 (pv 4)) (o9 (i:=5) U4.nd rfl (Or.inl rfl)) (i6 (ao3 hu (pv 2) (pv 5) t6 rfl)))))) p5)))
     (i6 (l0 (pv 1))))),?_⟩
   refine ⟨cn3 _,fun l hl=> ?_⟩;intro d hd
   have hdl:d≠l:=fun z=>by rw[z,c9] at hd;cases hd
   have hd0:H d=none:=by rw[i8 hdl] at hd;exact hd
   have s0:c8 H (e8 (e8 H l (.lst [])) d (.dK [])):=(c8.upd_new hl).upd_r hd0
   have h0l:(e8 (e8 H l (.lst [])) d (.dK [])) l=some (.lst []):=by rw[i8 hdl.symm,c9]
   refine ⟨_,rfl,a,_,rfl,.inl (i7.of (s0 a _ ha)),(p.length:Int),?_,by omega,by omega,?_⟩
   · rw[ck5]
   rw[show ((p.length:Int)).toNat=p.length by omega]
   refine X0 (lo:=0) (n:=p.length) (fun i σ H2=>∃(as:List Addr) (rs:List (List Int)) (v3 v4 v5:Option V),σ=[some (.ref a),some (.ref l),some (.ref d),v3,v4,v5]/\H2 l=some (.lst (as.map V.ref))/\H2 d=some (.dK (J1 rs.flatten))/\w9 H2 as rs/\C7 p i rs/\c8 H H2/\(∀b∈as,H b=none)/\as.Nodup/\l∉as)
     ⟨[],[],none,none,none,rfl,h0l,c9,⟨rfl,fun j b r h=>by simp at h⟩,al8 p,s0,fun b hb=>by simp at hb,cu5,by simp⟩ ?_ ?_
   · rintro i σ H2 hi ⟨as,rs,v3,v4,v5,rfl,h2l,h2d,rows,up,s2,fa,nda,nla⟩;have hx:In p (i:Int):=⟨by omega,by omega⟩
     have e0:(0:Int)+(i:Int)=(i:Int):=by omega
     rw[e0];refine ⟨_,rfl,_,rfl,d,_,rfl,aa2.k (k:=Sum.inl (i:Int)) h2d,_,rfl,?_⟩
     by_cases hm:(i:Int)∈rs.flatten
     · rw[ai6 hm];refine y7 ?_;exact ⟨as,rs,_,_,_,rfl,h2l,h2d,rows,al9 up hm,s2,fa,nda,nla⟩
     · rw[aa4 hm];refine C6 ?_;refine ⟨_,rfl,_,rfl,a,p,_,rfl,⟨s2 a _ ha,tp,lp⟩,hx,fun e L H3 he s23 pr hL h3e=> ?_⟩;have h3l:=s23 l _ h2l;have h3d:=s23 d _ h2d;have nle:l≠e:=j5 h2l he;have nde:d≠e:=j5 h2d he;have fl:=bm9 tp up;have cl:=ax7 up;have lenas:=rows.1;refine ⟨_,rfl,.inl ⟨rfl,_,i7.of h3l⟩,_,rfl,l,_,_,rfl,rfl,h3l,q9 (by rw[ck5,lenas];omega),?_⟩
       have es:as.map V.ref++[V.ref e]=(as++[e]).map V.ref:=by rw[cl6];rfl
       rw[es];have h4l:(e8 H3 l (.lst ((as++[e]).map V.ref))) l=some (.lst ((as++[e]).map V.ref)):=c9
       have h4d:(e8 H3 l (.lst ((as++[e]).map V.ref))) d=some (.dK (J1 rs.flatten)):=by rw[i8 hdl];exact h3d
       have h4e:(e8 H3 l (.lst ((as++[e]).map V.ref))) e=some (.lst ((q0 p i L).map V.int)):=by rw[i8 nle.symm];exact h3e
       have k4:∀b o,H2 b=some o->b≠l->(e8 H3 l (.lst ((as++[e]).map V.ref))) b=some o:=fun b o hb hn=>by rw[i8 hn];exact s23 b o hb
       generalize (e8 H3 l (.lst ((as++[e]).map V.ref)))=H4 at h4l h4d h4e k4 ⊢;have fr:=ah4 up pr hm
       have ndr:=Q8 tp hx fun j j0 j1=>pr.least j j0 j1
       refine ⟨_,rfl,e,rfl,⟨_,i7.of h4e⟩,I0 (K:=K) (a:=e) (xs:=(q0 p i L).map V.int) (fun j σ H5=>∃v5':Option V,σ=[some (.ref a),some (.ref l),some (.ref d),some (.int (i:Int)),some (.ref e),v5']/\H5 d=some (.dK (J1 (rs.flatten++(q0 p i L).take j)))/\k7 d H4 H5)
         ⟨v5,rfl,by rw[List.take_zero,cp1];exact h4d,k7.refl d H4⟩ (fun j σ H5 _ ⟨_,_,_,k⟩=>i7.of (k e _ h4e nde.symm)) ?_ ?_⟩
       · rintro j y σ H5 hj ⟨v5',rfl,h5d,kb⟩;obtain ⟨z,hz,rfl⟩:=D6 hj;have hjl:j < (q0 p i L).length:=(ck7.mp hz).1;rw[A7] at hjl
         have hzn:z∉rs.flatten++(q0 p i L).take j:=by
           intro hm'
           rcases cm1.mp hm' with g|g
           · exact fr z (cl9 hz) g
           · obtain ⟨jj,hjj⟩:=cm3.mp g
             have hjk:jj < j:=by
               have:=(ck7.mp hjj).1;rw[cl8] at this;omega
             rw[cn9 hjk] at hjj;have e1:=(ck7.mp hjj).2;have e2:=(ck7.mp hz).2;exact cn0.mp (cm4.mp ndr) jj j (by rw[A7];omega) (by rw[A7];omega) hjk (by rw[e1,e2])
         refine ⟨_,rfl,_,rfl,d,_,rfl,ai3.k (k:=Sum.inl z) h5d (q9 (by unfold J1;rw[ck5,cl2,cl8,A7];omega)),?_⟩;refine ⟨_,rfl,?_,kb.upd_a⟩;rw[ac8 hzn,c9,A3 hz,cm2]
       · rintro σ H5 ⟨v5',rfl,h5d,kb⟩;rw[ck5,cp3] at h5d
         have nad:∀b∈as,b≠d/\b≠l:=fun b hb=>by
           obtain ⟨r,hr'⟩:=aj0 rows hb;exact ⟨bs3 hr' h2d (by intro z;cases z),fun z=>nla (z▸hb)⟩
         refine ⟨as++[e],rs++[q0 p i L],_,_,_,rfl,kb l _ h4l hdl.symm,?_,?_,am0 tp up hx pr hm,?_,?_,?_,?_⟩
         · rw[h5d,cs3,ct1]
         · exact X4 (K7 rows fun b hb o ho=>kb b o (k4 b o ho (nad b hb).2) (nad b hb).1) (kb e _ h4e nde.symm)
         · exact fun b o hb=>kb b o (k4 b o (s2 b o hb) (j5 hb hl)) (j5 hb hd0)
         · intro b hb
           rcases cm1.mp hb with g|g
           · exact fa b g
           · have:b=e:=by simpa using g
             rw[this];exact s2.free he
         · refine af6 nda fun g=> ?_
           obtain ⟨r,hr'⟩:=aj0 rows g;rw[he] at hr';cases hr'
         · intro g
           rcases cm1.mp g with g|g
           · exact nla g
           · exact nle (by simpa using g)
   · rintro σ H2 ⟨as,rs,v3,v4,v5,rfl,h2l,h2d,rows,up,s2,fa,nda,nla⟩;exact ⟨_,rfl,q l as rs H2 hl s2 h2l rows up fa nda nla⟩
end
end My
namespace My
open PySem L2 Mth
section
variable {P:Program} {w:World} {K:PySem.W.Frag} {mg:Str->Option Value} {base:Heap}
def ax9:Sp:=fun vs H Q _=>∃(t r:Addr) (ts rs:List Int) (k:Int),vs=[.ref t,.ref r,.int k]/\H t=some (.lst (ts.map V.int))/\H r=some (.lst (rs.map V.int))/\t≠r/\rs.Nodup/\(∀x∈rs,0<=x/\x < ts.length)/\
 ∀(ts':List Int) (H':Hp),ts'.length=ts.length->(∀j,j < rs.length->G2 ts' (rs.getD j 0)=some (rs.getD (((j:Int)+k)%(rs.length:Int)).toNat 0))->(∀u,0<=u->u∉rs->G2 ts' u=G2 ts u)->H' t=some (.lst (ts'.map V.int))->k7 t H H'->Q .non H'
theorem ay0:o3 ["target","ring","steps","place","thing"] ["target","ring","steps"] (j8 W2):=by rfl'
theorem bx6 {f:Addr}{fd:FuncData}(F:A2 K "send_along" "send_along" W2 f fd)(B:Bl mg):l6 P w K mg base B8 1 f fd ["target","ring","steps"] ax9:=by
 refine F.ok ay0 (fun vs H Q E h=> ?_) (fun cdv A outer s H vs Q E hr h=> ?_)
 · obtain ⟨t,r,ts,rs,k,rfl,_⟩:=h;rfl
 · obtain ⟨t,r,ts,rs,k,rfl,ht,hrr,ntr,nd,bd,q⟩:=h
   refine ⟨_,i6 (E2 PassesOwn.never rfl (bc1 B.enum (c5 (pv 1) c6)) (ac1 rfl (D3 (o9 (i:=3) ay0.nd rfl (Or.inl rfl)) (D3 (o9 (i:=4) ay0.nd rfl (Or.inl rfl)) Y4)))
     (i6 (Y5 (w6 t8 (pv 1) (r0 N4 (r0 J4 (pv 3) (pv 2)) (p8 B.len (c5 (pv 1) c6))) (fun _ _=>rfl)) (aj6 (pv 0) (pv 4) aa0)))),?_⟩
   refine ⟨_,rfl,r,rfl,⟨_,i7.of hrr⟩,av7 (K:=K) (a:=r) (xs:=rs.map V.int) (fun i σ H2=>∃(ts':List Int) (v3 v4:Option V),σ=[some (.ref t),some (.ref r),some (.int k),v3,v4]/\H2 t=some (.lst (ts'.map V.int))/\ts'.length=ts.length/\(∀j,j < i->G2 ts' (rs.getD j 0)=some (rs.getD (((j:Int)+k)%(rs.length:Int)).toNat 0))/\(∀u,0<=u->u∉rs->G2 ts' u=G2 ts u)/\k7 t H H2)
     ⟨ts,none,none,rfl,ht,rfl,fun j hj=>by omega,fun u _ _=>rfl,k7.refl t H⟩ (fun i σ H2 _ ⟨_,_,_,_,_,_,_,_,k⟩=>i7.of (k r _ hrr ntr.symm)) ?_ ?_⟩
   · rintro i y σ H2 tt hi ⟨ts',v3,v4,rfl,h2t,hl,hj,hu,kb⟩ htt;obtain ⟨z,hz,rfl⟩:=D6 hi;have hil:i < rs.length:=(ck7.mp hz).1;have h2r:=kb r _ hrr ntr.symm;have nt:t≠tt:=j5 h2t htt;have nr:r≠tt:=j5 h2r htt
     have h3r:(e8 H2 tt (.tup [.int (i:Int),.int z])) r=some (.lst (rs.map V.int)):=by rw[i8 nr];exact h2r
     have h3t:(e8 H2 tt (.tup [.int (i:Int),.int z])) t=some (.lst (ts'.map V.int)):=by rw[i8 nt];exact h2t
     have L0:(0:Int) < (rs.length:Int):=by omega
     have m0:=cn1 ((i:Int)+k) (show (rs.length:Int)≠0 by omega);have m1:=co4 ((i:Int)+k) L0;refine ⟨tt,_,rfl,D9.of c9,rfl,_,_,rfl,_,_,rfl,rfl,?_⟩;refine ⟨_,rfl,_,rfl,_,rfl,_,_,rfl,rfl,_,rfl,r,_,rfl,.inl (i7.of h3r),?_⟩;rw[ck5];refine ⟨_,_,rfl,rfl,L0,r,_,_,_,rfl,rfl,i7.of h3r,U1 m0 m1,?_⟩;obtain ⟨z0,z1⟩:=bd z (cl9 hz);refine ⟨_,rfl,_,rfl,t,_,_,z.toNat,rfl,rfl,h3t,?_,?_⟩
     · unfold ixN;rw[ck5,if_pos z0,if_pos (by omega)]
     have es:(ts'.map V.int).set z.toNat (.int (rs.getD (((i:Int)+k)%(rs.length:Int)).toNat 0))=(ts'.set z.toNat (rs.getD (((i:Int)+k)%(rs.length:Int)).toNat 0)).map V.int:=by rw[List.map_set]
     rw[es]
     have hzi:rs.getD i 0=z:=by rw[G4 hil];exact (ck7.mp hz).2
     refine ⟨_,_,_,rfl,c9,by rw[cx8];exact hl,fun j hji=> ?_,fun u u0 un=> ?_,fun b o hb hn=> ?_⟩
     · by_cases e:j=i
       · subst e;rw[hzi,av6 (by omega)]
       · have hjl:j < rs.length:=by omega
         have:rs.getD j 0≠z:=by rw[<-hzi];exact T3 nd hjl hil e
         rw[al4 (bd _ (by rw[G4 hjl];exact cr4 hjl)).1 z0 this];exact hj j (by omega)
     · rw[al4 u0 z0 (fun e=>un (e▸cl9 hz))];exact hu u u0 un
     · have:=kb b o hb hn;rw[i8 hn,i8 (j5 this htt)];exact this
   · rintro σ H2 ⟨ts',v3,v4,rfl,h2t,hl,hj,hu,kb⟩;rw[ck5] at hj;exact q ts' H2 hl hj hu h2t kb
end
end My
namespace My
open PySem L2 Mth
section
variable {P:Program} {w:World} {K:PySem.W.Frag} {mg:Str->Option Value} {base:Heap}
def ap6:Sp:=fun vs H Q _=>∃(a:Addr) (p:List Int) (k:Int),vs=[.ref a,.int k]/\o4 H a p/\∀(l:Addr) (t:List Int) (H':Hp),H l=none->c8 H H'->B7 p k t->H' l=some (.lst (t.map V.int))->Q (.ref l) H'
theorem ap7:o3 ["p","k","told","ring"] ["p","k"] (j8 aa9):=by rfl'
theorem br6 {f:Addr}{fd:FuncData}(F:A2 K "power_of" "power_of" aa9 f fd)(B:Bl mg)(cM:o7 P w K mg base "must_be_turn" 3 ["thing"] R9)(cR:o7 P w K mg base "walk_rings" 2 ["p"] N3)(cS:o7 P w K mg base "send_along" 1 ["target","ring","steps"] ax9):l6 P w K mg base B8 4 f fd ["p","k"] ap6:=by
 refine F.ok ap7 (fun vs H Q E h=> ?_) (fun cdv A outer s H vs Q E hr h=> ?_)
 · obtain ⟨a,p,k,rfl,_⟩:=h;rfl
 · obtain ⟨a,p,k,rfl,⟨ha,tp,lp⟩,q⟩:=h
   refine ⟨_,c7 (C0 (j6 cM hr (c5 (pv 0) c6))) (c7 (k6 (i:=2) ap7.nd rfl (Or.inl rfl) (C2 B.list (c5 (pv 0) c6)))
     (c7 (E2 PassesOwn.never rfl (D1 (j6 cR (hr.mono (by decide)) (c5 (pv 0) c6))) (o9 (i:=3) ap7.nd rfl (Or.inl rfl)) (i6 (C0 (j6 cS (hr.mono (by decide)) (c5 (pv 2) (c5 (pv 3) (c5 (pv 1) c6)))))))
     (i6 (l0 (pv 2))))),?_⟩
   refine ⟨_,rfl,a,p,rfl,⟨ha,tp,lp⟩,fun H1 s1=> ?_⟩;refine ⟨_,rfl,a,_,rfl,.inl (i7.of (s1 a _ ha)),fun l hl=> ?_⟩;have hl0:H l=none:=s1.free hl;have s2:c8 H (e8 H1 l (.lst (p.map V.int))):=s1.upd_r hl0;have h2l:(e8 H1 l (.lst (p.map V.int))) l=some (.lst (p.map V.int)):=c9;generalize (e8 H1 l (.lst (p.map V.int)))=H2 at s2 h2l ⊢;refine ⟨_,rfl,a,p,rfl,⟨s2 a _ ha,tp,lp⟩,fun g as rs H3 hg s23 h3g rows up fa nda nga=> ?_⟩;have h3l:=s23 l _ h2l
   have ngl:g≠l:=fun z=>by rw[z,h2l] at hg;cases hg
   refine ⟨g,rfl,⟨_,i7.of h3g⟩,I0 (K:=K) (a:=g) (xs:=as.map V.ref) (fun i σ H4=>∃(ts:List Int) (v3:Option V),σ=[some (.ref a),some (.int k),some (.ref l),v3]/\H4 l=some (.lst (ts.map V.int))/\ts.length=p.length/\(∀x∈(rs.take i).flatten,∃L,G7 p x L/\G2 ts x=some (it p (k%(L:Int)).toNat x))/\k7 l H3 H4)
     ⟨p,none,rfl,h3l,rfl,fun x hx=>by simp at hx,k7.refl l H3⟩ (fun i σ H4 _ ⟨_,_,_,_,_,_,kb⟩=>i7.of (kb g _ h3g ngl)) ?_ ?_⟩
   · rintro i y σ H4 hi ⟨ts,v3,rfl,h4l,hl4,hx4,kb⟩;rw[cl0] at hi
     cases hai:as[i]? with
     |none=>rw[hai] at hi;cases hi
     |some e=>
      rw[hai] at hi;cases hi;have hil:i < as.length:=(ck7.mp hai).1;have hri:rs[i]? =some (rs[i]'(by rw[<-rows.1];exact hil)):=ck6 _;generalize hR:rs[i]'(by rw[<-rows.1];exact hil)=R at hri;have h3e:=rows.2 i e R hai hri;have hRm:R∈rs:=cl9 hri;obtain ⟨x,L,hx,pr,eR,_⟩:=up.ring R hRm
      have nle:l≠e:=fun z=>by have:=fa e (cl9 hai);rw[<-z,h2l] at this;cases this
      have h4e:=kb e _ h3e nle.symm;refine ⟨_,rfl,_,rfl,_,rfl,l,e,ts,R,k,rfl,h4l,h4e,nle,?_,?_,?_⟩
      · rw[eR];exact Q8 tp hx fun j j0 j1=>pr.least j j0 j1
      · intro y hy;rw[eR] at hy;have:=V6 tp hx y hy;rw[hl4];exact this
      intro ts' H5 hl5 hj hu h5l kb5;refine ⟨ts',_,rfl,h5l,by omega,fun y hy=> ?_,kb.trans kb5⟩;rw[A3 hri,cs3,ct1] at hy
      have hsplit:rs.flatten=(rs.take i).flatten++(R++(rs.drop (i+1)).flatten):=by
        conv=>lhs;rw[<-cq0 i rs,cs3]
        rw[cr9 (by rw[<-rows.1];exact hil),hR,List.flatten_cons]
      by_cases hyR:y∈R
      · rw[eR] at hyR;obtain ⟨j,hjL,rfl⟩:=G8.mp hyR;refine ⟨L,pr.shift tp hx j,?_⟩
        have hjr:j < R.length:=by rw[eR,A7];exact hjL
        have:=hj j hjr
        have rl:(R.length:Int)=(L:Int):=by rw[eR,A7]
        rw[rl] at this;have b0:=cn1 ((j:Int)+k) (show (L:Int)≠0 by have:=pr.pos;omega);have b1:=co4 ((j:Int)+k) (show (0:Int) < (L:Int) by have:=pr.pos;omega);rw[eR,T4 hjL,T4 (by omega),bf6 pr] at this;exact this
      · rcases cm1.mp hy with g'|g'
        · obtain ⟨M,pm,em⟩:=hx4 y g';refine ⟨M,pm,?_⟩
          have y0:0<=y:=by
            obtain ⟨r,hr',hyr⟩:=ct9.mp g';obtain ⟨x',L',hx',_,er,_⟩:=up.ring r (cr0 hr');rw[er] at hyr;exact (V6 tp hx' y hyr).1
          rw[hu y y0 hyR];exact em
        · exact absurd g' hyR
   · rintro σ H4 ⟨ts,v3,rfl,h4l,hl4,hx4,kb⟩;rw[ck5,rows.1,cp3] at hx4;refine ⟨_,rfl,q l ts H4 hl0 (fun b o hb=>kb b o (s23 b o (s2 b o hb)) (j5 hb hl0)) ⟨hl4,fun x hx=>hx4 x (up.all x hx.1 hx.2)⟩ h4l⟩
end
end My
namespace My
open PySem L2 Mth
section
variable {P:Program} {w:World} {K:PySem.W.Frag} {mg:Str->Option Value} {base:Heap}
theorem bg1:o3 ["p"] ["p"] (j8 L9):=by rfl'
theorem ah5 {f:Addr}{fd:FuncData}(F:A2 K "rounds_of" "rounds_of" L9 f fd)(cM:o7 P w K mg base "must_be_turn" 3 ["thing"] R9)(cR:o7 P w K mg base "walk_rings" 2 ["p"] N3):l6 P w K mg base B8 4 f fd ["p"] N3:=by
 refine F.ok bg1 (fun vs H Q E h=> ?_) (fun cdv A outer s H vs Q E hr h=> ?_)
 · obtain ⟨a,p,rfl,_⟩:=h;rfl
 · obtain ⟨a,p,rfl,⟨ha,tp,lp⟩,q⟩:=h;refine ⟨_,c7 (C0 (j6 cM hr (c5 (pv 0) c6))) (i6 (l0 (j6 cR (hr.mono (by decide)) (c5 (pv 0) c6)))),?_⟩;refine ⟨_,rfl,a,p,rfl,⟨ha,tp,lp⟩,fun H1 s1=> ?_⟩;exact ⟨_,rfl,a,p,rfl,⟨s1 a _ ha,tp,lp⟩,fun l as rs H' hl s' h1 h2 h3 h4 h5 h6=>q l as rs H' (s1.free hl) (s1.trans s') h1 h2 h3 (fun b hb=>s1.free (h4 b hb)) h5 h6⟩
end
end My
namespace My
open PySem L2 Mth
section
variable {P:Program} {w:World} {K:PySem.W.Frag} {mg:Str->Option Value} {base:Heap}
def bg2:Sp:=fun vs H Q _=>∃(x y:Nat),vs=[.int (x:Int),.int (y:Int)]/\Q (.int (cx1 x y:Nat)) H
theorem at8:o3 ["a","b","rest"] ["a","b"] (j8 O0):=by rfl'
def br7 (σ:St):Nat:=match σ[1]? with
 |some (some (V.int i))=>i.toNat
 |_=>0
theorem cc5 {f:Addr}{fd:FuncData}(F:A2 K "greatest_part" "greatest_part" O0 f fd):l6 P w K mg base B8 1 f fd ["a","b"] bg2:=by
 refine F.ok at8 (fun vs H Q E h=> ?_) (fun cdv A outer s H vs Q E hr h=> ?_)
 · obtain ⟨x,y,rfl,_⟩:=h;rfl
 · obtain ⟨x,y,rfl,q⟩:=h
   refine ⟨_,c7 (U7 PassesOwn.never (m9 Z9 (pv 1) j7 (m8 _))
       (c7 (k6 (i:=2) at8.nd rfl (Or.inl rfl) (r0 N4 (pv 0) (pv 1))) (c7 (k6 (i:=0) at8.nd rfl (Or.inl rfl) (pv 1)) (i6 (k6 (i:=1) at8.nd rfl (Or.inl rfl) (pv 2))))))
     (i6 (l0 (pv 0))),?_⟩
   refine ai0 (fun σ H2=>∃(a b:Nat) (v:Option V),σ=[some (.int (a:Int)),some (.int (b:Int)),v]/\cx1 a b=cx1 x y/\H2=H) (fun σ _=>br7 σ) ⟨x,y,none,rfl,rfl,rfl⟩ ?_ ?_
   · rintro σ H2 ⟨a,b,v,rfl,hg,rfl⟩;refine ⟨_,rfl,rfl,_,rfl,?_⟩
     by_cases hb:b=0
     · subst hb;refine af5 (by rfl) ?_;refine ⟨_,rfl,?_⟩;rw[Nat.gcd_zero_right] at hg;rw[hg];exact q
     · have hb':¬V.int (b:Int)=V.int 0:=fun z=>hb (by have:=V.int.inj z;omega)
       rw[decide_eq_false hb'];refine C6 ?_;refine ⟨_,rfl,_,rfl,_,_,rfl,rfl,(by show (0:Int) < (b:Int);omega),_,rfl,_,rfl,⟨b,a%b,some (.int ((a:Int)%(b:Int))),?_,?_,rfl⟩,?_⟩
       · rw[cs4];rfl
       · rw[<-hg,Nat.gcd_comm a b,Nat.gcd_rec b a,Nat.gcd_comm]
       · show ((a:Int)%(b:Int)).toNat < ((b:Int)).toNat;have:=co4 (a:Int) (show (0:Int) < (b:Int) by omega);have:=cn1 (a:Int) (show (b:Int)≠0 by omega);omega
   · rintro σ H2 Q Q' hq ⟨v,hv,e1,k1,e2,e3⟩;exact ⟨v,hv,e1,k1,e2,hq _ _ e3⟩
end
end My
namespace My
open PySem L2 Mth
section
variable {P:Program} {w:World} {K:PySem.W.Frag} {mg:Str->Option Value} {base:Heap}
noncomputable def ag3 (p:List Int):List Int:=(B0 p p.length).map fun r=>(r.length:Int)
def ay1:Sp:=fun vs H Q _=>∃(a:Addr) (p:List Int),vs=[.ref a]/\o4 H a p/\∀(l:Addr) (ms:List Int) (H':Hp),H l=none->c8 H H'->ms.Perm (ag3 p)->ms.Pairwise (· ≥ ·)->(∀x∈ms,1<=x/\x<=40)->ms.length<=40->H' l=some (.lst (ms.map V.int))->Q (.ref l) H'
theorem cc6:o3 ["p"] ["p"] (j8 ad7):=by rfl'
theorem cc7:(["ring"]:List Str).Nodup:=by decide+kernel
theorem bx7 {p:List Int}{rs:List (List Int)}(tp:p9 p)(lp:p.length<=40)(up:C7 p p.length rs):(∀x∈rs.map (fun r=>(r.length:Int)),1<=x/\x<=40)/\rs.length<=40:=by
 refine ⟨fun x hx=> ?_,by have:=ax7 up;have:=bm9 tp up;omega⟩;obtain ⟨r,hr,rfl⟩:=cm8.mp hx;obtain ⟨y,L,hy,pr,er,_⟩:=up.ring r hr
 have:=N9 tp hy (m:=L) fun i i0 i1=>pr.least i i0 i1
 have:=pr.pos;rw[er,A7];omega
theorem bx8 {f:Addr}{fd:FuncData}(F:A2 K "kind_of" "kind_of" ad7 f fd)(B:Bl mg)(bs:mg "sorted"=none)(cR:o7 P w K mg base "rounds_of" 4 ["p"] N3):l6 P w K mg base B8 5 f fd ["p"] ay1:=by
 refine F.ok cc6 (fun vs H Q E h=> ?_) (fun cdv A outer s H vs Q E hr h=> ?_)
 · obtain ⟨a,p,rfl,_⟩:=h;rfl
 · obtain ⟨a,p,rfl,⟨ha,tp,lp⟩,q⟩:=h;refine ⟨_,i6 (l0 (aw2 bs (c5 (U0 (N:=["ring"]) (nl:=1) (fr:=[]) rfl .of (D1 (j6 cR hr (c5 (pv 0) c6))) (fun _ _ _ _ _=>o9 (i:=0) cc7 rfl (Or.inl rfl)) (fun _ _ _ _ _=>V3) (fun _ _ _ _ _=>bq1 K B.len (c5 (pv 0) c6))) c6))),?_⟩;refine ⟨_,rfl,a,p,rfl,⟨ha,tp,lp⟩,fun l as rs H1 hl s1 h1l rows up fa nda nla=> ?_⟩;obtain ⟨bd,lrs⟩:=bx7 tp lp up;refine ⟨l,rfl,⟨_,i7.of h1l⟩,R4 (K:=K) (a:=l) (xs:=as.map V.ref) (fun i ys σ H2=>∃v:Option V,σ=[v]/\H2=H1/\ys=((rs.take i).map fun r=>(r.length:Int)).map V.int) ⟨none,rfl,rfl,rfl⟩ (fun i ys σ H2 _ ⟨_,_,e,_⟩=>by rw[e];exact i7.of h1l) ?_ ?_⟩
   · rintro i y ys σ H2 hi ⟨v,rfl,rfl,rfl⟩;rw[cl0] at hi
     cases hA:as[i]? with
     |none=>rw[hA] at hi;cases hi
     |some e=>
      rw[hA] at hi;cases hi;have hil:i < as.length:=(ck7.mp hA).1;have hri:rs[i]? =some (rs[i]'(by rw[<-rows.1];exact hil)):=ck6 _;generalize (rs[i]'(by rw[<-rows.1];exact hil))=r at hri;have he:=rows.2 i e r hA hri;refine ⟨_,rfl,e,_,rfl,.inl (i7.of he),q9 (by rw[ck5,ck5,cl8];omega),_,rfl,rfl,?_⟩;rw[A3 hri,cl6,cl6,ck5];rfl
   · rintro ys σ H2 ⟨v,rfl,rfl,rfl⟩ D hD;rw[ck5,rows.1,cp3];have s2:c8 H2 (e8 H2 D (.lst ((rs.map fun r=>(r.length:Int)).map V.int))):=c8.upd_new hD;refine ⟨D,_,rfl,i7.of c9,by rw[ck5];omega,fun ms l2 pm srt hl2=> ?_⟩
     have hlD:l2≠D:=fun z=>by rw[z,c9] at hl2;cases hl2
     have hl22:H2 l2=none:=by rw[i8 hlD] at hl2;exact hl2
     have ek:rs.map (fun r=>(r.length:Int))=ag3 p:=by unfold ag3;rw[<-up.eq]
     refine q l2 ms _ (s1.free hl22) ((s1.trans s2).upd_r (s1.free hl22)) (by rw[<-ek];exact pm) srt (fun x hx=>bd x (pm.mem_iff.mp hx)) (by rw[pm.length_eq,ck5];exact lrs) c9
end
end My
namespace My
open PySem L2 Mth
section
variable {P:Program} {w:World} {K:PySem.W.Frag} {mg:Str->Option Value} {base:Heap}
def ay2:Sp:=fun vs H Q _=>∃(a:Addr) (p:List Int),vs=[.ref a]/\o4 H a p/\∀(h:Nat) (H':Hp),c8 H H'->K0 ((ag3 p).map cv8) h->Q (.int (h:Int)) H'
theorem an0:o3 ["p","home","length"] ["p"] (j8 ad8):=by rfl'
theorem bx9 {f:Addr}{fd:FuncData}(F:A2 K "home_of" "home_of" ad8 f fd)(cK:o7 P w K mg base "kind_of" 5 ["p"] ay1)(cG:o7 P w K mg base "greatest_part" 1 ["a","b"] bg2):l6 P w K mg base B8 6 f fd ["p"] ay2:=by
 refine F.ok an0 (fun vs H Q E h=> ?_) (fun cdv A outer s H vs Q E hr h=> ?_)
 · obtain ⟨a,p,rfl,_⟩:=h;rfl
 · obtain ⟨a,p,rfl,⟨ha,tp,lp⟩,q⟩:=h
   refine ⟨_,c7 (k6 (i:=1) an0.nd rfl (Or.inl rfl) j7)
     (c7 (E2 PassesOwn.never rfl (D1 (j6 cK hr (c5 (pv 0) c6))) (o9 (i:=2) an0.nd rfl (Or.inl rfl)) (i6 (k6 (i:=1) an0.nd rfl (Or.inl rfl) (r0 ac3 (r0 bb0 (pv 1) (j6 cG (hr.mono (by decide)) (c5 (pv 1) (c5 (pv 2) c6)))) (pv 2)))))
     (i6 (l0 (pv 1)))),?_⟩
   refine ⟨_,rfl,a,p,rfl,⟨ha,tp,lp⟩,fun l ms H1 hl s1 pm srt bd lm h1l=> ?_⟩;refine ⟨l,rfl,⟨_,i7.of h1l⟩,I0 (K:=K) (a:=l) (xs:=ms.map V.int) (fun i σ H2=>∃(h:Nat) (v:Option V),σ=[some (.ref a),some (.int (h:Int)),v]/\H2=H1/\K0 ((ms.take i).map cv8) h) ⟨1,none,rfl,rfl,K0.nil⟩ (fun i σ H2 _ ⟨_,_,_,e,_⟩=>by rw[e];exact i7.of h1l) ?_ ?_⟩
   · rintro i y σ H2 hi ⟨h,v,rfl,rfl,lc⟩;obtain ⟨z,hz,rfl⟩:=D6 hi;obtain ⟨z1,z2⟩:=bd z (cl9 hz);obtain ⟨zn,rfl⟩:=co7 (show 0<=z by omega);have hpos:=lc.pos;have g0:0 < cx1 h zn:=Nat.gcd_pos_of_pos_left _ hpos;have g1:cx1 h zn<=zn:=Nat.le_of_dvd (by omega) (Nat.gcd_dvd_right h zn);refine ⟨_,rfl,_,rfl,_,rfl,h,zn,rfl,_,_,rfl,rfl,⟨by omega,by omega⟩,_,rfl,_,_,rfl,rfl,.inr ⟨by omega,by omega⟩,?_⟩;refine ⟨Nat.lcm h zn,some (.int (zn:Int)),?_,rfl,?_⟩
     · have e:(h:Int)/(cx1 h zn:Int)*(zn:Int)=((Nat.lcm h zn:Nat):Int):=by
         rw[<-bv1,cx9,Int.natCast_ediv]
       show [some (V.ref a),some (V.int ((h:Int)/(cx1 h zn:Int)*(zn:Int))),some (V.int (zn:Int))]=_;rw[e]
     · rw[A3 hz,cl6];exact lc.snoc (by omega)
   · rintro σ H2 ⟨h,v,rfl,rfl,lc⟩;rw[ck5,cp3] at lc;exact ⟨_,rfl,q h H2 s1 (lc.perm (pm.symm.map _))⟩
end
end My
namespace My
open PySem L2 Mth
section
variable {P:Program} {w:World} {K:PySem.W.Frag} {mg:Str->Option Value} {base:Heap}
theorem ci8:o3 ["p","q"] ["p","q"] (j8 W4):=by rfl'
theorem ci9:(["thing","p"]:List Str).Nodup:=by decide+kernel
theorem ay3 {f:Addr}{fd:FuncData}(F:A2 K "_law_behind" "_law_behind" W4 f fd):l6 P w K mg base B8 1 f fd ["p","q"] G0:=by
 refine F.ok ci8 (fun vs H Q E h=> ?_) (fun cdv A outer s H vs Q E hr h=> ?_)
 · obtain ⟨a,b,p,q,rfl,_⟩:=h;rfl
 · obtain ⟨a,b,p,q,rfl,⟨ha,ta,la⟩,⟨hb,tb,lb⟩,hl,k⟩:=h;refine ⟨_,i6 (l0 (U0 (N:=["thing","p"]) (nl:=1) (fr:=[0]) rfl .of (D1 (pv 1)) (fun _ _ _ _ _=>o9 (i:=0) ci9 rfl (Or.inl rfl)) (fun _ _ _ _ _=>V3) (fun _ _ _ _ _=>w6 (r:=bp0 K) t8 (pv 1) (pv 0) (fun _ _=>rfl)))),?_⟩;refine ⟨_,rfl,b,rfl,⟨_,i7.of hb⟩,R4 (K:=K) (a:=b) (xs:=q.map V.int) (fun i ys σ H3=>∃v,σ=[v,some (.ref a)]/\H3=H/\ys=(C9 p (q.take i)).map V.int) ⟨none,rfl,rfl,rfl⟩ (fun i ys σ H3 _ ⟨_,_,e,_⟩=>by rw[e];exact i7.of hb) ?_ ?_⟩
   · rintro i x ys σ H3 hi ⟨v,rfl,rfl,rfl⟩;obtain ⟨z,hz,rfl⟩:=D6 hi;have hzq:=cl9 hz;refine ⟨_,rfl,_,rfl,a,_,z,_,rfl,rfl,i7.of ha,U1 (tb.lo z hzq) (by have:=tb.hi z hzq;omega),?_,?_⟩
     · refine q9 ?_;unfold C9;rw[ck5,ck5,cl8];omega
     · refine ⟨_,rfl,rfl,?_⟩;rw[A3 hz];unfold C9;rw[cl6,cl6];rfl
   · rintro ys σ H3 ⟨v,rfl,rfl,rfl⟩ D hD;rw[ck5,cp3];exact k D _ hD (c8.upd_new hD) c9
end
end My
namespace My
open PySem L2 Mth
section
variable {P:Program} {w:World} {K:PySem.W.Frag} {mg:Str->Option Value} {base:Heap} {zwy zx zzz q_NoRounds q_NoNumber q_NoRoot zzy q_NoKind q_NoText q_NoName q_NoRow:Addr}
def bg3 (K:PySem.W.Frag)(H:Hp)(x:V):Prop:=∃t b1 b2,J0 K H x t/\PySem.W.kitOne K t (.type "int")=some b1/\PySem.W.kitOne K t (.type "bool")=some b2/\(b1&& !b2)=false
def bd5 (K:PySem.W.Frag)(H:Hp)(v:V):Prop:=(∃t,J0 K H v t/\PySem.W.kitOne K t (.type "list")=some false)\/
 ∃(a:Addr) (xs:List V),v= .ref a/\H a=some (.lst xs)/\(∀x∈xs,(∃i:Int,x= .int i)\/bg3 K H x)/\∀p:List Int,xs=p.map V.int->p.length<=40->¬p9 p
theorem bn0 {K:PySem.W.Frag}{H H':Hp}{v:V}{t:Value}(h:J0 K H v t)(s:c8 H H'):J0 K H' v t:=by
 cases h with
 |non=>exact .non
 |bl x=>exact .bl x
 |int i=>exact .int i
 |str x=>exact .str x
 |flt x=>exact .flt x
 |lst e=>exact .lst (s _ _ e)
 |frz e=>exact .frz (s _ _ e)
 |tup e=>exact .tup (s _ _ e)
 |dK e=>exact .dK (s _ _ e)
 |dT e=>exact .dT (s _ _ e)
 |ins e a b c d f=>exact .ins (s _ _ e) a b c d f
theorem bg3.keep {K:PySem.W.Frag}{H H':Hp}{x:V}(h:bg3 K H x)(s:c8 H H'):bg3 K H' x:=by
 obtain ⟨t,b1,b2,ty,r⟩:=h;exact ⟨t,b1,b2,bn0 ty s,r⟩
def Z2 (K:PySem.W.Frag):Sp:=fun vs H Q _=>∃v,vs=[v]/\bd5 K H v/\∀H',c8 H H'->Q (.bl false) H'
theorem ab6:o3 ["thing","seen","place"] ["thing"] (j8 R8):=by rfl'
theorem bg4 {f:Addr}{fd:FuncData}(F:A2 K "is_turn" "is_turn" R8 f fd)(B:Bl mg)(zpy:∃t,mg "MOST_THINGS_turns"=some (.int 40 t))(zsx:o7 P w K mg base "is_whole" 1 ["thing"] (ag2 K)):l6 P w K mg base B8 2 f fd ["thing"] (Z2 K):=by
 refine F.ok ab6 (fun vs H Q E h=> ?_) (fun cdv A outer s H vs Q E hr h=> ?_)
 · obtain ⟨v,rfl,no,k⟩:=h;rfl
 · obtain ⟨v,rfl,no,k⟩:=h;obtain ⟨_,zpx⟩:=zpy;have zk:o6 1 _:=hr.mono (by decide);have hu:=M1 hr;refine ⟨_,@c7 _ _ _ _ _ (@y8 _ _ _ _ _ _ _ _ (@D5 _ _ _ _ _ _ _ (@E8 _ _ _ _ (@D8 _ _ _ (@V5 _ _ _ _ _ _ B.isi (@c5 _ _ _ _ _ (pv 0) (@c5 _ _ _ _ _ (@ar2 _ _ B.list (by rfl)) (@c6 _) (by rfl)) (by rfl)) (by rfl) (by rfl) (by rfl)) (by intro _;rfl))) (@J3 _ _ _ _ (@m9 _ _ _ _ _ _ _ _ at3 (@p8 _ _ _ _ _ B.len (@c5 _ _ _ _ _ (pv 0) (@c6 _) (by rfl)) (by rfl) (by rfl)) (@T8 _ _ (.int 40) _ _ (by rfl) zpx ⟨_,rfl⟩ (by decide)) (m8 _)))).pt (@i6 _ _ _ (@l0 _ _ _ _ (@t6 _ _ _ _))) (@p5 _)) (@c7 _ _ _ _ _ (@k6 _ _ (1) _ _ _ _ ab6.nd rfl (Or.inl rfl) (@ai4 _ _) (by rfl) (by trivial)) (@c7 _ _ _ _ _ (@E2 _ _ _ _ _ _ _ _ PassesOwn.never rfl (@D1 _ _ _ _ (pv 0)) (@o9 _ _ (2) _ ab6.nd rfl (Or.inl rfl) (by trivial)) (@c7 _ _ _ _ _ (@y8 _ _ _ _ _ _ _ _ (@D5 _ _ _ _ _ _ _ (@E8 _ _ _ _ (@D8 _ _ _ (@j6 _ _ _ _ _ _ _ _ _ _ zsx zk (@c5 _ _ _ _ _ (pv 2) (@c6 _) (by rfl)) (by rfl) (by decide) (by rfl) (by rfl)) (by intro _;rfl))) (@D5 _ _ _ _ _ _ _ (@m9 _ _ _ _ _ _ _ _ aj8 (pv 2) (@j7 _ _ _ _) (m8 _)) (@D5 _ _ _ _ _ _ _ (@m9 _ _ _ _ _ _ _ _ be2 (pv 2) (@p8 _ _ _ _ _ B.len (@c5 _ _ _ _ _ (pv 0) (@c6 _) (by rfl)) (by rfl) (by rfl)) (m8 _)) (@J3 _ _ _ _ (@au1 _ _ _ _ _ _ (@bj2 _ _ _ _ _ hu (pv 2) (pv 1)) (by first|exact nobehind _ (by decide) (by decide)|rfl)))))).pt (@i6 _ _ _ (@l0 _ _ _ _ (@t6 _ _ _ _))) (@p5 _)) (@i6 _ _ _ (@ao3 _ _ _ _ _ _ _ _ _ hu (pv 1) (pv 2) (@t6 _ _ _ _) rfl))) (by intro _;rfl)) (@i6 _ _ _ (@l0 _ _ _ _ (@t6 _ _ _ _))))),?_⟩
   rcases no with ⟨t,ty,kt⟩|⟨a,xs,rfl,ha,el,no⟩
   · refine ⟨_,rfl,v,"list",t,false,rfl,ty,kt,false,rfl,?_⟩;exact C6 (k H (c8.refl H))
   · refine ⟨_,rfl,_,"list",_,true,rfl,.lst ha,O9 K "list",true,rfl,?_⟩;refine y7 ⟨_,rfl,a,_,rfl,.inl (i7.of ha),_,_,rfl,rfl,_,rfl,?_⟩;refine S1 (fun h40=>k H (c8.refl H)) (fun h40=> ?_)
     have h40:¬(40:Int) < (xs.length:Int):=fun z=>h40 (decide_eq_true z)
     intro d hd;have nad:a≠d:=j5 ha hd
     have ha1:(e8 H d (.dK [])) a=some (.lst xs):=by rw[i8 nad];exact ha
     refine ⟨_,rfl,a,rfl,⟨_,i7.of ha1⟩,I0 (K:=K) (a:=a) (xs:=xs) (fun i σ H2=>∃(v:Option V) (p:List Int),σ=[some (.ref a),some (.ref d),v]/\c8 H H2/\xs.take i=p.map V.int/\H2 d=some (.dK (J1 p))/\p.Nodup/\∀x∈p,0<=x/\x < xs.length)
       ⟨none,[],rfl,c8.upd_new hd,rfl,c9,cu5,fun x hx=>by simp at hx⟩ (fun i σ H2 _ ⟨_,_,_,s2,_⟩=>i7.of (s2 a _ ha)) ?_ ?_⟩
     · rintro i y σ H2 hi ⟨v,p,rfl,s2,hp,h2,nd,bd⟩;have ha2:=s2 a _ ha;have hil:i < xs.length:=(ck7.mp hi).1
       rcases el y (cl9 hi) with ⟨z,rfl⟩|odd
       · refine ⟨_,rfl,.int z,_,true,false,rfl,.int z,O9 K "int",V4 K,_,rfl,?_⟩;refine y7 ⟨_,rfl,_,_,rfl,rfl,_,rfl,?_⟩;refine S1 (fun hz0=>C6 (k H2 s2)) (fun hz0=> ?_)
         have hz0:¬z < 0:=fun q=>hz0 (decide_eq_true q)
         refine ⟨_,rfl,_,rfl,a,_,rfl,.inl (i7.of ha2),_,_,rfl,rfl,_,rfl,?_⟩;refine S1 (fun hz1=>C6 (k H2 s2)) (fun hz1=> ?_)
         have hz1:¬(xs.length:Int)<=z:=fun q=>hz1 (decide_eq_true q)
         refine ⟨_,rfl,_,rfl,d,_,rfl,aa2.k (k:=Sum.inl z) h2,_,rfl,?_⟩
         have lp:p.length<=i:=by
           have:=congrArg cu8 hp;rw[cl8,ck5] at this;omega
         by_cases hm:z∈p
         · rw[ai6 hm];exact C6 (k H2 s2)
         · rw[aa4 hm];refine y7 ⟨_,rfl,_,rfl,d,_,rfl,ai3.k (k:=Sum.inl z) h2 (q9 (by unfold J1;rw[ck5];omega)),?_⟩;refine ⟨some (.int z),p++[z],rfl,fun b o e=>by rw[i8 (j5 e hd)];exact s2 b o e,?_,?_,?_,?_⟩
           · rw[A3 hi,hp,cl6];rfl
           · rw[ac8 hm,c9]
           · exact af6 nd hm
           · intro x hx
             rcases cm1.mp hx with q|q
             · exact bd x q
             · have:x=z:=by simpa using q
               omega
       · obtain ⟨t,b1,b2,ty,e1,e2,e3⟩:=odd.keep s2;refine ⟨_,rfl,y,t,b1,b2,rfl,ty,e1,e2,_,rfl,?_⟩;rw[e3];exact C6 (k H2 s2)
     · rintro σ H2 ⟨v,p,rfl,s2,hp,h2,nd,bd⟩;rw[cp3] at hp
       have lp:xs.length=p.length:=by rw[hp,ck5]
       exact absurd (show p9 p from ⟨nd,fun x hx=>(bd x hx).1,fun x hx=>by have:=(bd x hx).2;omega⟩) (no p hp (by omega))
def U5 (K:PySem.W.Frag)(q:Addr):Sp:=fun vs H _ E=>∃v,vs=[v]/\bd5 K H v/\∀H',c8 H H'->E (.ref q) none H'
theorem an1:o3 ["thing"] ["thing"] (j8 G6):=bm7
theorem aj1 {f:Addr}{fd:FuncData}(F:A2 K "must_be_turn" "must_be_turn" G6 f fd)(zuz:o7 P w K mg base "is_turn" 2 ["thing"] (ao6 Q6 (Z2 K)))(zmz:Err K mg "NoTurn" zx):l6 P w K mg base (R5 P w) 3 f fd ["thing"] (U5 K zx):=by
 refine F.okx an1 (fun vs H Q E h=> ?_) (fun cdv A outer s H vs Q E hr h=> ?_)
 · obtain ⟨v,rfl,no,k⟩:=h;rfl
 · obtain ⟨v,rfl,no,k⟩:=h;have zqz:o6 2 _:=hr.mono (by decide);refine ⟨_,@i6 _ _ _ (@y8 _ _ _ _ _ _ _ _ (@E8 _ _ _ _ (@D8 _ _ _ (@j6 _ _ _ _ _ _ _ _ _ _ zuz zqz (@c5 _ _ _ _ _ (pv 0) (@c6 _) (by rfl)) (by rfl) (by decide) (by rfl) (by rfl)) (by intro _;rfl))) (@i6 _ _ _ (@ai7 _ _ _ _ _ _ _ _ _ ad4 rfl zmz (@au0 _ _ _ _) (by rfl) (by rfl) (by decide))) (@p5 _)),?_⟩;refine ⟨_,rfl,.inr ⟨v,rfl,no,fun H' s=>⟨false,rfl,?_⟩⟩⟩;exact C6 (k H' s)
theorem ay4:o3 ["p"] ["p"] (j8 L9):=by rfl'
theorem as6 {f:Addr}{fd:FuncData}(F:A2 K "rounds_of" "rounds_of" L9 f fd)(zyy:L5 P w K mg base "must_be_turn" 3 ["thing"] (fun vs H Q E=>R9 vs H Q E\/(U5 K zx) vs H Q E)):l6 P w K mg base (R5 P w) 4 f fd ["p"] (U5 K zx):=by
 refine F.okx ay4 (fun vs H Q E h=> ?_) (fun cdv A outer s H vs Q E hr h=> ?_)
 · obtain ⟨v,rfl,no,k⟩:=h;rfl
 · obtain ⟨v,rfl,no,k⟩:=h;have zt:o6 3 _:=hr.mono (by decide);refine ⟨_,@c7 _ _ _ _ _ (@C0 _ _ _ _ (@Q1 _ _ _ _ _ _ _ _ _ _ _ zyy zt (@K3 _ _ _ _ _ _ _ _ _ _ _ _ _ _ _ _ fun _ _ _ h=>h) (@c5 _ _ _ _ _ (pv 0) (@c6 _) (by rfl)) (by rfl) (by decide) (by rfl) (by rfl)) (by rfl)) (@ac0 _ _),?_⟩;exact ⟨_,rfl,.inr ⟨v,rfl,no,k⟩⟩
end
end My
namespace My
open PySem L2 Mth PySem.Spec PyProof.Rows
section
def br8 (K:PySem.W.Frag)(neg:Bool):R2:=fun x y H Q=>∃(p r:Addr) (bs:List Addr) (ts:List (List Int)) (q:List Int),x= .ref r/\y= .ref p/\i7 K H p (bs.map V.ref)/\w9 H bs ts/\H r=some (.lst (q.map V.int))/\Q (.bl (if neg then !decide (q∈ts) else decide (q∈ts))) H
open Classical in
noncomputable def eqR (H:Hp)(q:List Int)(y:Value):Bool:=decide (∃b,y= .ref b/\H b=some (.lst (q.map V.int)))
theorem Z3 {H:Hp}{q row:List Int}{b:Addr}(hb:H b=some (.lst (row.map V.int))):eqR H q (.ref b)=decide (row=q):=by
 unfold eqR
 by_cases c:row=q
 · rw[decide_eq_true c];exact @decide_eq_true _ (Classical.propDecidable _) ⟨b,rfl,by rw[<-c];exact hb⟩
 · rw[decide_eq_false c]
   refine @decide_eq_false _ (Classical.propDecidable _) fun ⟨b',e,h⟩=> ?_
   cases e;rw[hb] at h
   injection h with h
   injection h with h
   exact c (X7 h)
theorem R7 {bs:List Addr}:∀{its:List Value},m7 (bs.map V.ref) its->its=bs.map Value.ref:=by
 induction bs with
 |nil=>intro its h;cases h;rfl
 |cons b bs ih=>
  intro its h
  cases h with
  |cons r t=>
   cases r;rw[ih t];rfl
theorem aj2 {H:Hp}{q:List Int}:∀{bs:List Addr} {ts:List (List Int)},w9 H bs ts->(bs.map Value.ref).any (eqR H q)=decide (q∈ts)
 |[],[],_=>rfl
 |[],t::ts,h=>by have:=h.1;simp at this
 |b::bs,[],h=>by have:=h.1;simp at this
 |b::bs,t::ts,h=>by
  have h0:=h.2 0 b t rfl rfl;have ht:w9 H bs ts:=⟨by have:=h.1;simpa using this,fun j a r e1 e2=>h.2 (j+1) a r e1 e2⟩;rw[cp9,cw7,aj2 ht,Z3 h0,cq4,cv9,decide_eq_true_iff,decide_eq_true_iff,decide_eq_true_iff,co0];exact ⟨fun z=>z.elim (fun e=> .inl e.symm) .inr,fun z=>z.elim (fun e=> .inl e.symm) .inr⟩
theorem as0 {X:Cx}(hu0:X.A.units+1+1 < cLine):E3 X (compareOp .NotIn) (br8 X.K true):=by
 have hu:X.A.in1.units+0+1 < cLine:=by rw[Around.in1_units];exact hu0
 intro pins s σ H x y v u Q I rx ry h;obtain ⟨p,r,bs,ts,q,rfl,rfl,hq,rows,hr,k⟩:=h;cases rx;cases ry;obtain ⟨its,rr,pl,hz⟩:=I.list hq;have ei:=R7 rr;refine SeqAt.notIn_listAt (eqR H q) pl.isList (fun w hw=> ?_) ⟨.bl _,H,I,rfl,?_⟩
 · have hw:w∈its:=by simpa using hw
   rw[ei] at hw;obtain ⟨b,hb,rfl⟩:=cm8.mp hw;obtain ⟨j,hj⟩:=cm3.mp hb;have jl:=(ck7.mp hj).1;have h1:=rows.2 j b _ hj (ck6 (by rw[<-rows.1];exact jl))
   by_cases e:b=r
   · subst e;rw[Z3 hr,decide_eq_true rfl];exact SeqAt.EqAt.same _
   · rw[Z3 h1];exact SeqAt.EqAt.of_refs e (av2 (n:=0) I hu (i7.of h1) (i7.of hr) (M3 _ _ _ _ _))
 · rw[show its.toArray.any (eqR H q)=its.any (eqR H q) by simp,ei,aj2 rows];exact k
theorem cc8 {X:Cx}(hu0:X.A.units+1+1 < cLine):E3 X (compareOp .In) (br8 X.K false):=by
 have hu:X.A.in1.units+0+1 < cLine:=by rw[Around.in1_units];exact hu0
 intro pins s σ H x y v u Q I rx ry h;obtain ⟨p,r,bs,ts,q,rfl,rfl,hq,rows,hr,k⟩:=h;cases rx;cases ry;obtain ⟨its,rr,pl,hz⟩:=I.list hq;have ei:=R7 rr;refine SeqAt.in_listAt (eqR H q) pl.isList (fun w hw=> ?_) ⟨.bl _,H,I,rfl,?_⟩
 · have hw:w∈its:=by simpa using hw
   rw[ei] at hw;obtain ⟨b,hb,rfl⟩:=cm8.mp hw;obtain ⟨j,hj⟩:=cm3.mp hb;have jl:=(ck7.mp hj).1;have h1:=rows.2 j b _ hj (ck6 (by rw[<-rows.1];exact jl))
   by_cases e:b=r
   · subst e;rw[Z3 hr,decide_eq_true rfl];exact SeqAt.EqAt.same _
   · rw[Z3 h1];exact SeqAt.EqAt.of_refs e (av2 (n:=0) I hu (i7.of h1) (i7.of hr) (M3 _ _ _ _ _))
 · rw[show its.toArray.any (eqR H q)=its.any (eqR H q) by simp,ei,aj2 rows];exact k
end
end My
namespace L2
open PySem PySem.Spec PyProof.Rows
section
variable {X:Cx}
def bd6:V->List V->Hp->VK->Prop:=fun x vs H Q=>∃(l b:Addr) (as:List Addr) (rs:List (List Int)) (r:List Int) (j:Nat),x= .ref l/\vs=[.ref b]/\H l=some (.lst (as.map V.ref))/\w9 H as rs/\H b=some (.lst (r.map V.int))/\rs[j]? =some r/\(∀i,i < j->rs[i]? ≠some r)/\rs.length<=100000/\Q (.int (j:Int)) H
theorem bn4 (hu:X.A.units+2+1 < cLine):MtM X "list.index" bd6:=by
 intro pins s σ H x vs v us Q I rx rv h;obtain ⟨l,b,as,rs,r,j,rfl,rfl,hH,rows,hb,hj,hno,hz,q⟩:=h;cases rx
 cases rv with
 |cons rk rr=>
 rename_i u _;cases rr;cases rk;obtain ⟨z,its,n,rv,hl,e⟩:=I.lstM hH;have la:=rv.length;rw[ck5] at la;have lr:=rows.1;have hjl:j < rs.length:=(ck7.mp hj).1
 have at_:∀m (hm:m < its.length),at6 H r its[m]=decide (rs[m]? =some r):=fun m hm=>by
   have ea:as[m]? =some (as[m]'(by omega)):=ck6 (by omega);have er:rs[m]? =some (rs[m]'(by omega)):=ck6 (by omega);obtain ⟨u1,z1,q1⟩:=rv.get (show (as.map V.ref)[m]? =some (.ref (as[m]'(by omega))) by rw[cl0,ea];rfl);rw[ck6 hm] at z1;rw[Option.some.inj z1];cases q1;show decide (J9 H _=r)=_;rw[V7 (rows.2 m _ _ ea er),er];exact decide_eq_decide.mpr ⟨fun h=>by rw[h],fun h=>Option.some.inj h⟩
 refine call_meets F.slot_list_index ⟨_,e,rfl⟩ F.entry_list_index (F.args_list_index_2 _ _)
   (SeqAt.list_indexAt l its.toArray n none #[] (.ref b) (at6 H r) j (by simp only[ck9];omega) (by omega) ?_ ?_) ⟨e,fun y hy=> ?_,?_⟩
 · show at6 H r (its[j]'(by omega))=true;rw[at_ j (by omega),decide_eq_true hj]
 · intro m hm hmj
   have hm':m < its.length:=by simpa using hm
   show at6 H r its[m]=false;rw[at_ m hm',decide_eq_false (hno m hmj)]
 · obtain ⟨k,hk⟩:=cm3.mp (show y∈its by simpa using hy);have hkl:k < its.length:=(ck7.mp hk).1;obtain ⟨a,ea⟩:∃a,as[k]? =some a:=⟨_,ck6 (by omega)⟩;have er:rs[k]? =some (rs[k]'(by omega)):=ck6 _;obtain ⟨u1,z1,q1⟩:=rv.get (show (as.map V.ref)[k]? =some (.ref a) by rw[cl0,ea];rfl);rw[hk] at z1;cases z1;cases q1;have ha:=rows.2 k a _ ea er;show SeqAt.EqAt _ s (.ref a) (.ref b) (decide (J9 H a=r));rw[V7 ha]
   exact al0 I (aw9 ha hb) (by have:X.A.in1.units=X.A.units+1:=by first|rfl|simp [Around.in1]
                               have:X.A.in1.in1.units=X.A.units+1+1:=by first|rfl|simp [Around.in1]
                               first|omega|(simp [Around.in1] at*;omega)) rfl rfl
 · exact ⟨.int j,H,I.tok _,⟨_,rfl⟩,q⟩
theorem as1 (K:PySem.W.Frag){o e:Expr}{to:TE}{t:TA}{apos pos:Pos}(hu:X.A.units+2+1 < cLine)(ho:PE X o to)(ha:PA X [e] t)(hK:X.K=K:=by rfl)
   (hbase:attributeBase o "index" X.env (eval o X.env)=eval o X.env:=by rfl)
   (hfew:((backTo pos (starEach [e] X.env)).all (fun x=> !x.1)&&(backToKw pos (keywordEach [] X.env)).all (fun x=>x.1.isSome)
     &&decide ([e].length+([]:List Keyword).length+(if ([]:List Keyword).isEmpty then 0 else 1) < 30))=true:=by rfl)
   (hline:(apos.endLine==pos.line)=true:=by rfl) (hs:starEach [e] X.env=(false,eval e X.env)::starEach [] X.env:=by rfl) (hplain:(backTo pos (starEach [] X.env)).any (·.1)=false:=by rfl):
   PE X (.Call (.Attribute o "index" apos) [e] [] pos) (tBM K "list" bd6 to t):=by
 subst hK;exact be6 PySem.F.plainAttrs_list PySem.F.slot_list_index PySem.F.type_list_index (bn4 hu) ho ha hbase hfew hline hs hplain
end
end L2
namespace Mth
noncomputable def pw (p:List Int)(k:Int):List Int:=(L2.r6 0 p.length).map fun x=>it p (k%(J8 p x:Int)).toNat x
theorem J2 {p:List Int}(t:p9 p)(k:Int):B7 p k (pw p k):=by
 refine ⟨by unfold pw;rw[ck5,J5],fun x hx=> ?_⟩;obtain ⟨L,hL⟩:=ad1 t hx;refine ⟨L,hL,?_⟩;unfold G2 pw;have h0:=hx.1;have h1:=hx.2
 have e:(L2.r6 0 p.length)[x.toNat]? =some x:=by
   unfold L2.r6;rw[cl0,cs2 (by omega)];show some ((0:Int)+(x.toNat:Int))=some x
   congr 1
   omega
 rw[cl0,e];show some (it p (k%(J8 p x:Int)).toNat x)=_;rw[Q0 hL]
theorem R0 {p t:List Int}{k:Int}(tp:p9 p)(h:B7 p k t):t=pw p k:=h.uniq (J2 tp k)
theorem O3 (p:List Int)(k:Int):(pw p k).length=p.length:=by unfold pw;rw[ck5,J5]
theorem S0 {p:List Int}(t:p9 p)(k:Int):p9 (pw p k):=af8 t (J2 t k)
theorem an3 {p:List Int}(t:p9 p)(a b:Int):C9 (pw p a) (pw p b)=pw p (a+b):=R0 t (bq4 t (J2 t a) (J2 t b))
theorem an4 {p:List Int}(t:p9 p)(a b:Int):pw (pw p a) b=pw p (a*b):=R0 t (bu8 t (J2 t a) (J2 (S0 t a) b))
theorem ag4 {p:List Int}(t:p9 p):pw p 0=L2.r6 0 p.length:=(R0 t (bq5 t)).symm
theorem bn5 {p:List Int}(t:p9 p):pw p 1=p:=(R0 t (bu9 t)).symm
theorem Z4 {p:List Int}{h:Nat}(hh:A6 p h){a b:Int}(d:(h:Int)∣a - b):pw p a=pw p b:=by
 unfold pw
 refine cn6 fun x hx=> ?_
 have hx:In p x:=by have:=ai5.mp hx;exact ⟨this.1,this.2⟩
 have d2:(J8 p x:Int)∣a - b:=Int.dvd_trans (co8.mpr (hh.up x hx)) d;have:a%(J8 p x:Int)=b%(J8 p x:Int):=cn7.mpr (cq2 d2);rw[this]
theorem ag5 {p:List Int}{h:Nat}(t:p9 p)(hh:A6 p h){a b:Int}(e:pw p a=pw p b):(h:Int)∣a - b:=by
 have:h∣(a - b).natAbs:=hh.least _ fun x hx=>by
   obtain ⟨L,hL⟩:=ad1 t hx;rw[Q0 hL];have pos:=hL.pos;obtain ⟨L1,p1,e1⟩:=(J2 t a).2 x hx;obtain ⟨L2',p2,e2⟩:=(J2 t b).2 x hx;have u1:=p1.uniq hL;have u2:=p2.uniq hL;subst u1;subst u2;rw[e,e2] at e1;have e3:=Option.some.inj e1;have a0:=cn1 a (show (L2':Int)≠0 by omega);have a1:=co4 a (show (0:Int) < (L2':Int) by omega);have b0:=cn1 b (show (L2':Int)≠0 by omega);have b1:=co4 b (show (0:Int) < (L2':Int) by omega)
   have same:(a%(L2':Int)).toNat=(b%(L2':Int)).toNat:=by
     rcases cu7 (a%(L2':Int)).toNat (b%(L2':Int)).toNat with z|z|z
     · exfalso;have:=E4 p x ((b%(L2':Int)).toNat - (a%(L2':Int)).toNat) (a%(L2':Int)).toNat;rw[Nat.sub_add_cancel (cn8 z)] at this;rw[e3] at this;have pr:=hL.shift t hx (a%(L2':Int)).toNat;exact pr.least _ (by omega) (by omega) this.symm
     · exact z
     · exfalso;have:=E4 p x ((a%(L2':Int)).toNat - (b%(L2':Int)).toNat) (b%(L2':Int)).toNat;rw[Nat.sub_add_cancel (cn8 z)] at this;rw[<-e3] at this;have pr:=hL.shift t hx (b%(L2':Int)).toNat;exact pr.least _ (by omega) (by omega) this.symm
   have:a%(L2':Int)=b%(L2':Int):=by omega
   exact co8.mp (cu6.mpr (cn5 (cn7.mp this)))
 exact cu6.mp (co8.mpr this)
noncomputable def x3 (p:List Int)(h:Nat):List (List Int):=(cp4 h).map fun (k:Nat)=>pw p (k:Int)
theorem X5 {p t:List Int}{h:Nat}(tp:p9 p)(hh:A6 p h):t∈x3 p h↔∃a:Int,B7 p a t:=by
 unfold x3;rw[cm8];constructor
 · rintro ⟨k,_,rfl⟩;exact ⟨k,J2 tp _⟩
 · rintro ⟨a,ha⟩;have hp:=hh.pos;have a0:=cn1 a (show (h:Int)≠0 by omega);have a1:=co4 a (show (0:Int) < (h:Int) by omega);refine ⟨(a%(h:Int)).toNat,co2.mpr (by omega),?_⟩;rw[R0 tp ha];refine Z4 hh ?_;rw[show (((a%(h:Int)).toNat:Nat):Int)=a%(h:Int) by omega];exact cn5 (by rw[<-cn7];exact ct7 a (cw3 _))
theorem G9 {p:List Int}{h k:Nat}(hk:k < h):(x3 p h)[k]? =some (pw p (k:Int)):=by
 unfold x3;rw[cl0,cs2 hk];rfl
theorem D0 (p:List Int)(h:Nat):(x3 p h).length=h:=by unfold x3;simp
theorem ba4 {p:List Int}{h:Nat}(tp:p9 p)(hh:A6 p h):(x3 p h).Nodup:=by
 unfold x3;refine cr1.mpr (List.Pairwise.imp_of_mem (fun {a b} ha hb hab e=> ?_) (List.nodup_range (n:=h)));have a1:=co2.mp ha;have b1:=co2.mp hb;have d:=ag5 tp hh e;have:((a:Int) - (b:Int)).natAbs=0:=cu2 (co8.mp (cu6.mpr d)) (by omega);omega
theorem br9 {S:Nat->Prop}:∀n,S n->∃d,S d/\∀m,m < d->¬S m:=by
 intro n
 induction n using Nat.strongRecOn with
 |_ n ih=>
  intro hn
  by_cases z:∃m,m < n/\S m
  · obtain ⟨m,hm,sm⟩:=z;exact ih m hm sm
  · exact ⟨n,hn,fun m hm sm=>z ⟨m,hm,sm⟩⟩
theorem bn6 {p q r:List Int}{a b:Int}{h hp hq:Nat}(tr:p9 r)(hh:A6 r h)(ha:B7 r a p)(hb:B7 r b q)(hhp:A6 p hp)(hhq:A6 q hq):
   ∃i j:Nat,i < hp/\j < hq/\(∃c,B7 (C9 (pw p (i:Int)) (pw q (j:Int))) c p)/\∃c,B7 (C9 (pw p (i:Int)) (pw q (j:Int))) c q:=by
 have tp:=af8 tr ha;have tq:=af8 tr hb;obtain ⟨d,⟨d0,x,y,z,ed⟩,dl⟩:=br9 (S:=fun n=>0 < n/\∃x y z:Int,(n:Int)=a*x+b*y+(h:Int)*z) h ⟨hh.pos,0,0,1,by simp⟩
 have dv:∀c:Int,(∃x' y' z':Int,c=a*x'+b*y'+(h:Int)*z')->(d:Int)∣c:=by
   rintro c ⟨x',y',z',ec⟩;have m0:=cn1 c (show (d:Int)≠0 by omega);have m1:=co4 c (show (0:Int) < (d:Int) by omega);have m2:=Int.emod_add_mul_ediv c (d:Int);refine cn5 ?_
   by_cases nz:c%(d:Int)=0
   · exact nz
   · exfalso;refine dl (c%(d:Int)).toNat (by omega) ⟨by omega,x' - x*(c/d),y' - y*(c/d),z' - z*(c/d),?_⟩;rw[show (((c%(d:Int)).toNat:Nat):Int)=c - d*(c/d) by omega];rw[Int.mul_sub,Int.mul_sub,Int.mul_sub,<-cx0,<-cx0,<-cx0]
     have e2:(d:Int)*(c/d)=a*x*(c/d)+b*y*(c/d)+(h:Int)*z*(c/d):=by rw[<-Int.add_mul,<-Int.add_mul,<-ed]
     rw[e2];generalize a*x*(c/ ↑d)=u1;generalize b*y*(c/ ↑d)=u2;generalize (h:Int)*z*(c/ ↑d)=u3;omega
 obtain ⟨a',ea⟩:=dv a ⟨1,0,0,by simp⟩;obtain ⟨b',eb⟩:=dv b ⟨0,1,0,by simp⟩;have ep:=R0 tr ha;have eq:=R0 tr hb
 have es:C9 (pw p x) (pw q y)=pw r (d:Int):=by
   rw[ep,eq,an4 tr,an4 tr,an3 tr];refine Z4 hh ⟨-z,?_⟩;rw[ed,Int.mul_neg];omega
 have i0:=cn1 x (show (hp:Int)≠0 by have:=hhp.pos;omega);have i1:=co4 x (show (0:Int) < (hp:Int) by have:=hhp.pos;omega);have j0:=cn1 y (show (hq:Int)≠0 by have:=hhq.pos;omega);have j1:=co4 y (show (0:Int) < (hq:Int) by have:=hhq.pos;omega);refine ⟨(x%(hp:Int)).toNat,(y%(hq:Int)).toNat,by omega,by omega,?_⟩
 have ex:pw p (((x%(hp:Int)).toNat:Nat):Int)=pw p x:=Z4 hhp (by
   rw[show (((x%(hp:Int)).toNat:Nat):Int)=x%(hp:Int) by omega]
   exact cn5 (by rw[<-cn7];exact ct7 x (cw3 _)))
 have ey:pw q (((y%(hq:Int)).toNat:Nat):Int)=pw q y:=Z4 hhq (by
   rw[show (((y%(hq:Int)).toNat:Nat):Int)=y%(hq:Int) by omega]
   exact cn5 (by rw[<-cn7];exact ct7 y (cw3 _)))
 rw[ex,ey,es];refine ⟨⟨a',?_⟩,⟨b',?_⟩⟩
 · have:=J2 (S0 tr (d:Int)) a';rw[an4 tr,<-ea,<-ep] at this;exact this
 · have:=J2 (S0 tr (d:Int)) b';rw[an4 tr,<-eb,<-eq] at this;exact this
theorem W6 {p:List Int}{h:Nat}(t:p9 p)(l:p.length<=8)(hh:A6 p h):h<=840:=by
 refine Nat.le_of_dvd (by decide) (hh.least 840 fun x hx=> ?_);obtain ⟨L,hL⟩:=ad1 t hx;rw[Q0 hL];have h1:=hL.pos;have h2:=N9 t hx hL.least
 have:L=1\/L=2\/L=3\/L=4\/L=5\/L=6\/L=7\/L=8:=by omega
 rcases this with rfl|rfl|rfl|rfl|rfl|rfl|rfl|rfl<;>decide
end Mth
namespace L2
open PySem PySem.Spec PyProof.Rows
section
variable {X:Cx} {p pos:Pos} {e:Expr} {t:TA}
theorem bs0:E3 X (compareOp .IsNot) (fun x y H Q=>∃b c,x= .bl b/\y= .bl c/\Q (.bl (b !=c)) H):=by
 intro pins s σ H x y v u Q I rx ry h;obtain ⟨b,c,rfl,rfl,q⟩:=h;cases rx;cases ry;exact isnot_bool (p6 I q rfl)
end
end L2
namespace My
open PySem L2 Mth
section
variable {P:Program} {w:World} {K:PySem.W.Frag} {mg:Str->Option Value} {base:Heap} {zwy zx zzz q_NoRounds q_NoNumber q_NoRoot zzy q_NoKind q_NoText q_NoName q_NoRow:Addr}
theorem bd7 {X:Cx}(K:PySem.W.Frag)(hu0:X.A.units+1+1 < cLine)(hK:X.K=K:=by rfl):E3 X (compareOp .In) (br8 K false):=by
 subst hK;exact cc8 hu0
theorem bn7 (p:List Int):(ag3 p).map cv8=(B0 p p.length).map cu8:=by
 unfold ag3;rw[cp2]
 exact cn6 fun r _=>by show (r.length:Int).toNat=r.length;omega
theorem l7 {H H':Hp}{a:Addr}{p:List Int}(h:o4 H a p)(s:c8 H H'):o4 H' a p:=⟨s _ _ h.1,h.2⟩
def ae3:Sp:=fun vs H Q _=>∃(a b:Addr) (p q:List Int),vs=[.ref a,.ref b]/\o4 H a p/\o4 H b q/\p.length=q.length/\∀H',c8 H H'->Q (.bl (decide (C9 p q=C9 q p))) H'
theorem an5:o3 ["p","q"] ["p","q"] (j8 X3):=by rfl'
theorem an6 {f:Addr}{fd:FuncData}(F:A2 K "go_past" "go_past" X3 f fd)(zyz:o7 P w K mg base "put_behind" 4 ["p","q"] G0):l6 P w K mg base B8 5 f fd ["p","q"] ae3:=by
 refine F.ok an5 (fun vs H Q E h=> ?_) (fun cdv A outer s H vs Q E hr h=> ?_)
 · obtain ⟨a,b,p,q,rfl,ta,tb,hl,k⟩:=h;rfl
 · obtain ⟨a,b,p,q,rfl,ta,tb,hl,k⟩:=h;have zv:o6 4 _:=hr.mono (by decide);have hu:=M1 hr;refine ⟨_,@i6 _ _ _ (@l0 _ _ _ _ (@G3 _ _ _ _ _ _ _ _ (Y6 0 hu) (@j6 _ _ _ _ _ _ _ _ _ _ zyz zv (@c5 _ _ _ _ _ (pv 0) (@c5 _ _ _ _ _ (pv 1) (@c6 _) (by rfl)) (by rfl)) (by rfl) (by decide) (by rfl) (by rfl)) (@j6 _ _ _ _ _ _ _ _ _ _ zyz zv (@c5 _ _ _ _ _ (pv 1) (@c5 _ _ _ _ _ (pv 0) (@c6 _) (by rfl)) (by rfl)) (by rfl) (by decide) (by rfl) (by rfl)) (m8 _))),?_⟩;refine ⟨_,rfl,_,rfl,a,b,p,q,rfl,ta,tb,hl,fun l1 H1 n1 s1 h1=> ?_⟩;refine ⟨_,rfl,_,rfl,b,a,q,p,rfl,l7 tb s1,l7 ta s1,hl.symm,fun l2 H2 n2 s2 h2=> ?_⟩;exact ⟨l1,l2,_,_,_,rfl,rfl,i7.of (s2 _ _ h1),i7.of h2,M3 K H2 0 _ _,k H2 (s1.trans s2)⟩
def an7:Sp:=fun vs H Q _=>∃(a:Addr) (p:List Int),vs=[.ref a]/\o4 H a p/\p.length<=8/\∀(l:Addr) (as:List Addr) (h:Nat) (H':Hp),H l=none->c8 H H'->A6 p h->H' l=some (.lst (as.map V.ref))->w9 H' as (x3 p h)->Q (.ref l) H'
theorem as7:o3 ["p"] ["p"] (j8 W3):=by rfl'
theorem ag8:(["k","p"]:List Str).Nodup:=by decide+kernel
theorem as8 {f:Addr}{fd:FuncData}(F:A2 K "all_powers" "all_powers" W3 f fd)(B:Bl mg)(zo:o7 P w K mg base "home_of" 6 ["p"] ay2)(zqy:o7 P w K mg base "power_of" 4 ["p","k"] ap6):l6 P w K mg base B8 7 f fd ["p"] an7:=by
 refine F.ok as7 (fun vs H Q E h=> ?_) (fun cdv A outer s H vs Q E hr h=> ?_)
 · obtain ⟨a,p,rfl,ta,l8,k⟩:=h;rfl
 · obtain ⟨a,p,rfl,ta,l8,k⟩:=h;have hr_home_of:o6 6 _:=hr.mono (by decide);have zkz:o6 4 _:=hr.mono (by decide);refine ⟨_,@i6 _ _ _ (@l0 _ _ _ _ (@U0 _ _ _ _ _ _ _ _ _ _ _ (["k","p"]) (1) ([0]) rfl .of (@R3 _ _ _ _ _ _ (by rfl) B.range (@c5 _ _ _ _ _ (@j6 _ _ _ _ _ _ _ _ _ _ zo hr_home_of (@c5 _ _ _ _ _ (pv 0) (@c6 _) (by rfl)) (by rfl) (by decide) (by rfl) (by rfl)) (@c6 _) (by rfl)) (by rfl)) (fun _ _ _ _ _=>@o9 _ _ (0) _ ag8 rfl (Or.inl rfl) (by trivial)) (fun _ _ _ _ _=>(@V3 _)) (fun _ _ _ _ _=>(@j6 _ _ _ _ _ _ _ _ _ _ zqy zkz (@c5 _ _ _ _ _ (pv 1) (@c5 _ _ _ _ _ (pv 0) (@c6 _) (by rfl)) (by rfl)) (by rfl) (by decide) (by rfl) (by rfl))) (by intro _;rfl))),?_⟩;refine ⟨_,rfl,a,p,rfl,ta,fun h H1 s1 lc=> ?_⟩;have hh:A6 p h:=ar4 ta.2.1 (bn7 p) lc;have h840:=W6 ta.2.1 l8 hh;refine ⟨_,rfl,by omega,by omega,?_⟩;rw[show ((h:Int)).toNat=h by omega];refine bf1 (lo:=0) (n:=h) (fun t ys σ H2=>∃(cs:List Addr) (v:Option V),σ=[v,some (.ref a)]/\ys=cs.map V.ref/\w9 H2 cs (x3 p t)/\c8 H H2) ⟨[],none,rfl,rfl,⟨rfl,fun j b r h=>by cases h⟩,s1⟩ ?_ ?_
   · rintro t ys σ H2 ht ⟨cs,v,rfl,rfl,rows,s2⟩
     have lc:cs.length=t:=by rw[rows.1,D0]
     refine ⟨_,rfl,_,rfl,a,p,_,rfl,l7 ta s2,fun l t' H3 nl s3 pw' h3=> ?_⟩
     have e0:(0:Int)+(t:Int)=(t:Int):=by omega
     rw[e0] at pw';refine ⟨q9 (by rw[ck5];omega),cs++[l],_,rfl,by rw[cl6];rfl,?_,s2.trans s3⟩
     have:x3 p (t+1)=x3 p t++[t']:=by
       unfold x3;rw[ct0,cl6,R0 ta.2.1 pw'];rfl
     rw[this];exact X4 (K7 rows fun b _ o e=>s3 b o e) h3
   · rintro ys σ H2 ⟨cs,v,rfl,rfl,rows,s2⟩ D hD;have s3:c8 H2 (e8 H2 D (.lst (cs.map V.ref))):=c8.upd_new hD;exact k D cs h _ (s2.free hD) (s2.trans s3) hh c9 (K7 rows fun b _ o e=>s3 b o e)
def Gd (p q s:List Int):Prop:=(∃c,B7 s c p)/\∃c,B7 s c q
structure ae4 (r p q:List Int)(i j:Nat):Prop where
 ex:∃h,A6 r h/\i < h/\j < h
 l:pw r (i:Int)=p
 r:pw r (j:Int)=q
theorem ae4.gd {r p q:List Int}{i j:Nat}(tr:p9 r)(b:ae4 r p q i j):Gd p q r:=⟨⟨_,by rw[<-b.l];exact J2 tr _⟩,⟨_,by rw[<-b.r];exact J2 tr _⟩⟩
theorem ae4.uniq {r p q:List Int}{i j i' j':Nat}(tr:p9 r)(b:ae4 r p q i j)(c:ae4 r p q i' j'):i=i'/\j=j':=by
 obtain ⟨h,hh,i1,j1⟩:=b.ex;obtain ⟨h',hh',i2,j2⟩:=c.ex;have:=hh.uniq hh';subst this;have d1:=ag5 tr hh (b.l.trans c.l.symm);have d2:=ag5 tr hh (b.r.trans c.r.symm);have z1:((i:Int) - (i':Int)).natAbs=0:=cu2 (co8.mp (cu6.mpr d1)) (by omega);have z2:((j:Int) - (j':Int)).natAbs=0:=cu2 (co8.mp (cu6.mpr d2)) (by omega);omega
theorem ay5 {r p:List Int}{h:Nat}(tr:p9 r)(hh:A6 r h)(m:p∈x3 r h):∃i,i < h/\(x3 r h)[i]? =some p/\pw r (i:Int)=p/\∀k,k < i->¬(x3 r h)[k]? =some p:=by
 obtain ⟨i,hi⟩:=cm3.mp m;have il:=(ck7.mp hi).1;rw[D0] at il;refine ⟨i,il,hi,?_,fun k hk e=> ?_⟩
 · rw[G9 il] at hi;exact Option.some.inj hi
 · have:=(List.getElem?_inj (by rw[D0];omega) (ba4 tr hh)).mp (e.trans hi.symm);omega
def ap8:Sp:=fun vs H Q _=>∃(r a b:Addr) (rr p q:List Int),vs=[.ref r,.ref a,.ref b]/\o4 H r rr/\o4 H a p/\o4 H b q/\rr.length<=8/\(∀H',c8 H H'->¬Gd p q rr->Q .non H')/\
 ∀(t:Addr) (i j:Nat) (H':Hp),H t=none->c8 H H'->ae4 rr p q i j->H' t=some (.tup [.ref r,.int (i:Int),.int (j:Int)])->Q (.ref t) H'
theorem S6:o3 ["r","p","q","powers"] ["r","p","q"] (j8 M4):=by rfl'
theorem ag9 {f:Addr}{fd:FuncData}(F:A2 K "told_as_powers" "told_as_powers" M4 f fd)(zwx:o7 P w K mg base "all_powers" 7 ["p"] an7):l6 P w K mg base B8 8 f fd ["r","p","q"] ap8:=by
 refine F.ok S6 (fun vs H Q E h=> ?_) (fun cdv A outer s H vs Q E hr h=> ?_)
 · obtain ⟨r,a,b,rr,p,q,rfl,tr,ta,tb,l8,k0,k1⟩:=h;rfl
 · obtain ⟨r,a,b,rr,p,q,rfl,tr,ta,tb,l8,k0,k1⟩:=h;have zty:o6 7 _:=hr.mono (by decide);have hu:=M1 hr;have hu2:_+1+1 < cLine:=cp0 (cq6 (by decide:2<=64) _) hr.units;have hu3:_+2+1 < cLine:=cp0 (cq6 (by decide:3<=64) _) hr.units;refine ⟨_,@c7 _ _ _ _ _ (@k6 _ _ (3) _ _ _ _ S6.nd rfl (Or.inl rfl) (@j6 _ _ _ _ _ _ _ _ _ _ zwx zty (@c5 _ _ _ _ _ (pv 0) (@c6 _) (by rfl)) (by rfl) (by decide) (by rfl) (by rfl)) (by rfl) (by trivial)) (@c7 _ _ _ _ _ (@y8 _ _ _ _ _ _ _ _ (@D5 _ _ _ _ _ _ _ (@m9 _ _ _ _ _ _ _ _ (as0 hu2) (pv 1) (pv 3) (by with_unfolding_all rfl)) (@J3 _ _ _ _ (@m9 _ _ _ _ _ _ _ _ (as0 hu2) (pv 2) (pv 3) (by with_unfolding_all rfl)))).pt (@i6 _ _ _ (@l0 _ _ _ _ (@L7 _ _ _))) (@p5 _)) (@i6 _ _ _ (@l0 _ _ _ _ (@U9 _ _ _ _ _ (@c5 _ _ _ _ _ (pv 0) (@c5 _ _ _ _ _ (as1 K hu3 (pv 3) (@c5 _ _ _ _ _ (pv 1) (@c6 _) (by rfl))) (@c5 _ _ _ _ _ (as1 K hu3 (pv 3) (@c5 _ _ _ _ _ (pv 2) (@c6 _) (by rfl))) (@c6 _) (by rfl)) (by rfl)) (by rfl)))))),?_⟩;refine ⟨_,rfl,r,rr,rfl,tr,l8,fun l as h H1 nl s1 hh h1 rows=> ?_⟩;have ta1:=l7 ta s1;have tb1:=l7 tb s1;refine ⟨_,rfl,_,rfl,l,a,as,_,p,rfl,rfl,i7.of h1,rows,ta1.1,_,rfl,?_⟩;have m1:=X5 (t:=p) tr.2.1 hh;have m2:=X5 (t:=q) tr.2.1 hh
   by_cases e1:p∈x3 rr h
   · rw[decide_eq_true e1];refine y7 ⟨_,rfl,_,rfl,l,b,as,_,q,rfl,rfl,i7.of h1,rows,tb1.1,_,rfl,?_⟩
     by_cases e2:q∈x3 rr h
     · rw[decide_eq_true e2];obtain ⟨i,i1,i2,i3,i4⟩:=ay5 tr.2.1 hh e1;obtain ⟨j,j1,j2,j3,j4⟩:=ay5 tr.2.1 hh e2;have h840:=W6 tr.2.1 l8 hh;have lr:(x3 rr h).length=h:=D0 _ _;refine y7 ⟨_,rfl,_,rfl,.inl ⟨rfl,_,i7.of h1⟩,_,rfl,l,a,as,_,p,i,rfl,rfl,h1,rows,ta1.1,i2,i4,by rw[lr];omega,?_⟩;refine ⟨_,rfl,.inl ⟨rfl,_,i7.of h1⟩,_,rfl,l,b,as,_,q,j,rfl,rfl,h1,rows,tb1.1,j2,j4,by rw[lr];omega,(show 3<=sizeLine by decide),fun t nt=> ?_⟩;exact k1 t i j _ (s1.free nt) (s1.trans (c8.upd_new nt)) ⟨⟨h,hh,i1,j1⟩,i3,j3⟩ c9
     · rw[decide_eq_false e2];exact C6 (k0 H1 s1 fun g=>e2 (m2.mpr g.2))
   · rw[decide_eq_false e1];exact C6 (k0 H1 s1 fun g=>e1 (m1.mpr g.1))
noncomputable def W7 (p q:List Int)(x y:Nat):List Int:=C9 (pw p (x:Int)) (pw q (y:Int))
structure ag6 (p q:List Int)(hq x y:Nat):Prop where
 lt:y < hq
 gd:Gd p q (W7 p q x y)
 before:∀x',x' < x->∀y',y' < hq->¬Gd p q (W7 p q x' y')
 row:∀y',y' < y->¬Gd p q (W7 p q x y')
theorem ag6.uniq {p q:List Int}{hq x y x2 y2:Nat}(a:ag6 p q hq x y)(b:ag6 p q hq x2 y2):x=x2/\y=y2:=by
 have e:x=x2:=by
   rcases cu7 x x2 with z|z|z
   · exact absurd a.gd (b.before x z y a.lt)
   · exact z
   · exact absurd b.gd (a.before x2 z y2 b.lt)
 subst e;refine ⟨rfl,?_⟩
 rcases cu7 y y2 with z|z|z
 · exact absurd a.gd (b.row y z)
 · exact z
 · exact absurd b.gd (a.row y2 z)
def One (p q:List Int):Prop:=∃r,p9 r/\r.length=p.length/\Gd p q r
theorem One.past {p q:List Int}(o:One p q):C9 p q=C9 q p:=by
 obtain ⟨r,tr,_,⟨a,ha⟩,⟨b,hb⟩⟩:=o;rw[R0 tr ha,R0 tr hb,an3 tr,an3 tr,Int.add_comm]
theorem ap9 {p:List Int}(t:p9 p):∃h,A6 p h:=by
 have:∀ls:List Nat,(∀l∈ls,0 < l)->∃h,K0 ls h:=by
   intro ls
   induction ls with
   |nil=>exact fun _=>⟨1,K0.nil⟩
   |cons l ls ih=>
    intro hp
    obtain ⟨h,hh⟩:=ih fun x hx=>hp x (cl1 _ hx)
    refine ⟨Nat.lcm l h,⟨Nat.lcm_pos (hp l cl4) hh.pos,fun x hx=> ?_,fun g hg=> ?_⟩⟩
    · rcases co0.mp hx with rfl|z
      · exact Nat.dvd_lcm_left _ _
      · exact Nat.dvd_trans (hh.up x z) (Nat.dvd_lcm_right _ _)
    · exact Nat.lcm_dvd (hg l cl4) (hh.least g fun x hx=>hg x (cl1 _ hx))
 obtain ⟨h,hh⟩:=this ((B0 p p.length).map cu8) fun l hl=>by
   obtain ⟨r,hr,rfl⟩:=cm8.mp hl;obtain ⟨y,L,hy,pr,er,_⟩:=(V8 t).ring r hr;rw[er,A7];exact pr.pos
 exact ⟨h,ar4 t rfl hh⟩
theorem One.found {p q:List Int}{hp hq:Nat}(o:One p q)(hhp:A6 p hp)(hhq:A6 q hq):∃x y,x < hp/\y < hq/\Gd p q (W7 p q x y):=by
 obtain ⟨r,tr,_,⟨a,ha⟩,⟨b,hb⟩⟩:=o;obtain ⟨h,hh⟩:=ap9 tr;obtain ⟨i,j,h1,h2,h3⟩:=bn6 tr hh ha hb hhp hhq;exact ⟨i,j,h1,h2,h3⟩
def bs1 (H H':Hp)(p q:List Int)(v:V):Prop:=(v= .non/\¬One p q)\/∃(t r:Addr) (rr:List Int) (i j hq x y:Nat),v= .ref t/\H t=none/\H r=none/\H' t=some (.tup [.ref r,.int (i:Int),.int (j:Int)])/\H' r=some (.lst (rr.map V.int))/\
 p9 rr/\rr.length=p.length/\ae4 rr p q i j/\A6 q hq/\ag6 p q hq x y/\rr=W7 p q x y
def ag7:Sp:=fun vs H Q _=>∃(a b:Addr) (p q:List Int),vs=[.ref a,.ref b]/\o4 H a p/\o4 H b q/\p.length=q.length/\p.length<=8/\∀(v:V) (H':Hp),c8 H H'->bs1 H H' p q v->Q v H'
theorem B6:o3 ["p","q","are_past","one","other","told"] ["p","q"] (j8 K1):=by rfl'
theorem W8 {f:Addr}{fd:FuncData}(F:A2 K "powers_of_one" "powers_of_one" K1 f fd)(B:Bl mg)(zyx:∃t,mg "MOST_THINGS_ofone"=some (.int 8 t))(ztx:o7 P w K mg base "go_past" 5 ["p","q"] ae3)(zwx:o7 P w K mg base "all_powers" 7 ["p"] an7)(zuy:o7 P w K mg base "told_as_powers" 8 ["r","p","q"] ap8)(zyz:o7 P w K mg base "put_behind" 4 ["p","q"] G0):l6 P w K mg base B8 9 f fd ["p","q"] ag7:=by
 refine F.ok B6 (fun vs H Q E h=> ?_) (fun cdv A outer s H vs Q E hr h=> ?_)
 · obtain ⟨a,b,p,q,rfl,ta,tb,hl,l8,k⟩:=h;rfl
 · obtain ⟨a,b,p,q,rfl,ta,tb,hl,l8,k⟩:=h;obtain ⟨_,zux⟩:=zyx;have zqx:o6 5 _:=hr.mono (by decide);have zty:o6 7 _:=hr.mono (by decide);have zny:o6 8 _:=hr.mono (by decide);have zv:o6 4 _:=hr.mono (by decide);refine ⟨_,@c7 _ _ _ _ _ (@k6 _ _ (2) _ _ _ _ B6.nd rfl (Or.inl rfl) (@j6 _ _ _ _ _ _ _ _ _ _ ztx zqx (@c5 _ _ _ _ _ (pv 0) (@c5 _ _ _ _ _ (pv 1) (@c6 _) (by rfl)) (by rfl)) (by rfl) (by decide) (by rfl) (by rfl)) (by rfl) (by trivial)) (@c7 _ _ _ _ _ (@y8 _ _ _ _ _ _ _ _ (@m9 _ _ _ _ _ _ _ _ at3 (@p8 _ _ _ _ _ B.len (@c5 _ _ _ _ _ (pv 0) (@c6 _) (by rfl)) (by rfl) (by rfl)) (@T8 _ _ (.int 8) _ _ (by rfl) zux ⟨_,rfl⟩ (by decide)) (m8 _)) (@i6 _ _ _ (@ah9 _ _)) (@p5 _)) (@c7 _ _ _ _ _ (@y8 _ _ _ _ _ _ _ _ (@E8 _ _ _ _ (@D8 _ _ _ (pv 2) (by intro _;rfl))) (@i6 _ _ _ (@l0 _ _ _ _ (@L7 _ _ _))) (@p5 _)) (@c7 _ _ _ _ _ (@E2 _ _ _ _ _ _ _ _ PassesOwn.never rfl (@D1 _ _ _ _ (@j6 _ _ _ _ _ _ _ _ _ _ zwx zty (@c5 _ _ _ _ _ (pv 0) (@c6 _) (by rfl)) (by rfl) (by decide) (by rfl) (by rfl))) (@o9 _ _ (3) _ B6.nd rfl (Or.inl rfl) (by trivial)) (@i6 _ _ _ (@E2 _ _ _ _ _ _ _ _ PassesOwn.never rfl (@D1 _ _ _ _ (@j6 _ _ _ _ _ _ _ _ _ _ zwx zty (@c5 _ _ _ _ _ (pv 1) (@c6 _) (by rfl)) (by rfl) (by decide) (by rfl) (by rfl))) (@o9 _ _ (4) _ B6.nd rfl (Or.inl rfl) (by trivial)) (@c7 _ _ _ _ _ (@k6 _ _ (5) _ _ _ _ B6.nd rfl (Or.inl rfl) (@j6 _ _ _ _ _ _ _ _ _ _ zuy zny (@c5 _ _ _ _ _ (@j6 _ _ _ _ _ _ _ _ _ _ zyz zv (@c5 _ _ _ _ _ (pv 3) (@c5 _ _ _ _ _ (pv 4) (@c6 _) (by rfl)) (by rfl)) (by rfl) (by decide) (by rfl) (by rfl)) (@c5 _ _ _ _ _ (pv 0) (@c5 _ _ _ _ _ (pv 1) (@c6 _) (by rfl)) (by rfl)) (by rfl)) (by rfl) (by decide) (by rfl) (by rfl)) (by rfl) (by trivial)) (@i6 _ _ _ (@y8 _ _ _ _ _ _ _ _ (@m9 _ _ _ _ _ _ _ _ af2 (pv 5) (@L7 _ _ _) (m8 _)) (@i6 _ _ _ (@l0 _ _ _ _ (pv 5))) (@p5 _)))) (by intro _;rfl))) (by intro _;rfl)) (@i6 _ _ _ (@l0 _ _ _ _ (@L7 _ _ _)))))),?_⟩;refine ⟨_,rfl,_,rfl,a,b,p,q,rfl,ta,tb,hl,fun H1 s1=> ?_⟩;refine ⟨_,rfl,a,_,rfl,.inl (i7.of (s1 _ _ ta.1)),_,_,rfl,rfl,_,rfl,?_⟩;rw[show decide ((8:Int) < ((p.map V.int).length:Int))=false from decide_eq_false (by rw[ck5];omega)];refine y7 ⟨_,rfl,_,rfl,?_⟩
   by_cases pc:C9 p q=C9 q p
   · rw[decide_eq_true pc];refine y7 ⟨_,rfl,a,p,rfl,l7 ta s1,l8,fun l as hp H2 nl s2 hhp h2 rows=> ?_⟩;have s02:=s1.trans s2
     refine ⟨l,rfl,⟨_,i7.of h2⟩,I0 (K:=K) (a:=l) (xs:=as.map V.ref) (fun x σ H3=>∃v3 v4 v5:Option V,σ=[some (.ref a),some (.ref b),some (.bl true),v3,v4,v5]/\c8 H2 H3/\∀hq,A6 q hq->∀x',x' < x->∀y',y' < hq->¬Gd p q (W7 p q x' y'))
       ⟨none,none,none,rfl,c8.refl _,fun hq _ x' hx=>by omega⟩ (fun x σ H3 _ ⟨_,_,_,_,s,_⟩=>i7.of (s _ _ h2)) ?_ ?_⟩
     · rintro x o σ H3 hx ⟨v3,v4,v5,rfl,s3,no⟩;rw[cl0] at hx;obtain ⟨ao,hao,rfl⟩:=cr6.mp hx
       have xl:x < hp:=by have:=(ck7.mp hao).1;rw[rows.1,D0] at this;exact this
       have h3o:=s3 _ _ (rows.2 x ao _ hao (G9 xl));have s03:=s02.trans s3;refine ⟨_,rfl,b,q,rfl,l7 tb s03,by omega,fun l' bs hq H4 nl' s4 hhq h4 rows'=> ?_⟩;have s04:=s03.trans s4
       refine ⟨l',rfl,⟨_,i7.of h4⟩,I0 (K:=K) (a:=l') (xs:=bs.map V.ref) (fun y σ H5=>∃v4 v5:Option V,σ=[some (.ref a),some (.ref b),some (.bl true),some (.ref ao),v4,v5]/\c8 H4 H5/\∀y',y' < y->¬Gd p q (W7 p q x y'))
         ⟨v4,v5,rfl,c8.refl _,fun y' hy=>by omega⟩ (fun y σ H5 _ ⟨_,_,_,s,_⟩=>i7.of (s _ _ h4)) ?_ ?_⟩
       · rintro y o' σ H5 hy ⟨v4,v5,rfl,s5,no'⟩;rw[cl0] at hy;obtain ⟨bo,hbo,rfl⟩:=cr6.mp hy
         have yl:y < hq:=by have:=(ck7.mp hbo).1;rw[rows'.1,D0] at this;exact this
         have h5o:=s5 _ _ (s4 _ _ h3o);have h5b:=s5 _ _ (rows'.2 y bo _ hbo (G9 yl));have s05:=s04.trans s5;have t1:p9 (pw p (x:Int)):=S0 ta.2.1 _;have t2:p9 (pw q (y:Int)):=S0 tb.2.1 _;have e1:(pw p (x:Int)).length=p.length:=O3 _ _;have e2:(pw q (y:Int)).length=q.length:=O3 _ _;have tc:p9 (W7 p q x y):=aw1 t1 t2 (by omega)
         have ec:(W7 p q x y).length=p.length:=by unfold W7;rw[L8];omega
         refine ⟨_,rfl,_,rfl,ao,bo,_,_,rfl,⟨h5o,t1,by omega⟩,⟨h5b,t2,by omega⟩,by omega,fun r H6 nr s6 h6=> ?_⟩;have s06:=s05.trans s6;refine ⟨_,rfl,_,rfl,r,a,b,W7 p q x y,p,q,rfl,⟨h6,tc,by omega⟩,l7 ta s06,l7 tb s06,by omega,fun H7 s7 ng=> ?_,fun t i j H7 nt s7 bo' h7=> ?_⟩
         · refine ⟨_,rfl,rfl,_,rfl,y7 ?_⟩;refine ⟨_,_,rfl,s5.trans (s6.trans s7),fun y' hy'=> ?_⟩
           rcases cu4 y' y with z|z
           · exact no' y' z
           · have:y'=y:=by omega
             rw[this];exact ng
         · refine ⟨_,rfl,rfl,_,rfl,C6 ⟨_,rfl,k (.ref t) H7 (s06.trans s7) (.inr ⟨t,r,_,i,j,hq,x,y,rfl,s06.free nt,s05.free nr,h7,s7 _ _ h6,tc,ec,bo',hhq,⟨yl,bo'.gd tc,fun x' hx' y' hy'=>no hq hhq x' hx' y' hy',no'⟩,rfl⟩)⟩⟩
       · rintro σ H5 ⟨v4,v5,rfl,s5,no'⟩;rw[ck5,rows'.1,D0] at no';refine ⟨_,_,_,rfl,s3.trans (s4.trans s5),fun hq2 hh2 x' hx' y' hy'=> ?_⟩;have:=hh2.uniq hhq;subst this
         rcases cu4 x' x with z|z
         · exact no _ hhq x' z y' hy'
         · have:x'=x:=by omega
           rw[this];exact no' y' hy'
     · rintro σ H3 ⟨v3,v4,v5,rfl,s3,no⟩;rw[ck5,rows.1,D0] at no;refine k .non H3 (s02.trans s3) (.inl ⟨rfl,fun o=> ?_⟩);obtain ⟨hq,hhq⟩:=ap9 tb.2.1;obtain ⟨x,y,hx,hy,g⟩:=o.found hhp hhq;exact no hq hhq x hx y hy g
   · rw[decide_eq_false pc];exact C6 (k .non H1 s1 (.inl ⟨rfl,fun o=>pc o.past⟩))
def ay6 (q:Addr):Sp:=fun vs H _ E=>∃(a b:Addr) (xs ys:List V),vs=[.ref a,.ref b]/\H a=some (.lst xs)/\H b=some (.lst ys)/\xs.length≠ys.length/\E (.ref q) none H
theorem ba5:o3 ["p","q"] ["p","q"] (j8 O1):=by rfl'
theorem ay7 {f:Addr}{fd:FuncData}(F:A2 K "must_fit" "must_fit" O1 f fd)(B:Bl mg)(zlz:Err K mg "NoFit" zzz):l6 P w K mg base (R5 P w) 1 f fd ["p","q"] (ay6 zzz):=by
 refine F.okx ba5 (fun vs H Q E h=> ?_) (fun cdv A outer s H vs Q E hr h=> ?_)
 · obtain ⟨a,b,xs,ys,rfl,ha,hb,ne,q⟩:=h;rfl
 · obtain ⟨a,b,xs,ys,rfl,ha,hb,ne,q⟩:=h;refine ⟨_,@i6 _ _ _ (@y8 _ _ _ _ _ _ _ _ (@m9 _ _ _ _ _ _ _ _ Z9 (@p8 _ _ _ _ _ B.len (@c5 _ _ _ _ _ (pv 0) (@c6 _) (by rfl)) (by rfl) (by rfl)) (@p8 _ _ _ _ _ B.len (@c5 _ _ _ _ _ (pv 1) (@c6 _) (by rfl)) (by rfl) (by rfl)) (m8 _)) (@i6 _ _ _ (@ai7 _ _ _ _ _ _ _ _ _ ad4 rfl zlz (@au0 _ _ _ _) (by rfl) (by rfl) (by decide))) (@p5 _)),?_⟩;refine ⟨_,rfl,a,xs,rfl,.inl (i7.of ha),_,rfl,b,ys,rfl,.inl (i7.of hb),rfl,_,rfl,?_⟩;rw[decide_eq_false fun z=>ne (by have:=V.int.inj z;omega)];exact C6 q
def Z5 (qf:Addr):Sp:=fun vs H _ E=>∃(a b:Addr) (p q:List Int),vs=[.ref a,.ref b]/\o4 H a p/\o4 H b q/\p.length≠q.length/\∀H',c8 H H'->E (.ref qf) none H'
theorem as9:o3 ["p","q"] ["p","q"] (j8 K6):=by rfl'
theorem aq0 {f:Addr}{fd:FuncData}(F:A2 K "put_behind" "put_behind" K6 f fd)(zyy:L5 P w K mg base "must_be_turn" 3 ["thing"] (fun vs H Q E=>R9 vs H Q E\/(U5 K zx) vs H Q E))(zr:L5 P w K mg base "must_fit" 1 ["p","q"] (fun vs H Q E=>(am7 K) vs H Q E\/(ay6 zzz) vs H Q E)):l6 P w K mg base (R5 P w) 4 f fd ["p","q"] (Z5 zzz):=by
 refine F.okx as9 (fun vs H Q E h=> ?_) (fun cdv A outer s H vs Q E hr h=> ?_)
 · obtain ⟨a,b,p,q,rfl,tp,tq,ne,k⟩:=h;rfl
 · obtain ⟨a,b,p,q,rfl,tp,tq,ne,k⟩:=h;have zt:o6 3 _:=hr.mono (by decide);have zky:o6 1 _:=hr.mono (by decide);refine ⟨_,@c7 _ _ _ _ _ (@C0 _ _ _ _ (@Q1 _ _ _ _ _ _ _ _ _ _ _ zyy zt (@K3 _ _ _ _ _ _ _ _ _ _ _ _ _ _ _ _ fun _ _ _ h=>h) (@c5 _ _ _ _ _ (pv 0) (@c6 _) (by rfl)) (by rfl) (by decide) (by rfl) (by rfl)) (by rfl)) (@c7 _ _ _ _ _ (@C0 _ _ _ _ (@Q1 _ _ _ _ _ _ _ _ _ _ _ zyy zt (@K3 _ _ _ _ _ _ _ _ _ _ _ _ _ _ _ _ fun _ _ _ h=>h) (@c5 _ _ _ _ _ (pv 1) (@c6 _) (by rfl)) (by rfl) (by decide) (by rfl) (by rfl)) (by rfl)) (@c7 _ _ _ _ _ (@C0 _ _ _ _ (@Q1 _ _ _ _ _ _ _ _ _ _ _ zr zky (@K3 _ _ _ _ _ _ _ _ _ _ _ _ _ _ _ _ fun _ _ _ h=>h) (@c5 _ _ _ _ _ (pv 0) (@c5 _ _ _ _ _ (pv 1) (@c6 _) (by rfl)) (by rfl)) (by rfl) (by decide) (by rfl) (by rfl)) (by rfl)) (@ac0 _ _))),?_⟩;refine ⟨_,rfl,.inl ⟨a,p,rfl,tp,fun H1 s1=> ?_⟩⟩;refine ⟨_,rfl,.inl ⟨b,q,rfl,l7 tq s1,fun H2 s2=> ?_⟩⟩;have s12:=s1.trans s2;exact ⟨_,rfl,_,rfl,.inr ⟨a,b,_,_,rfl,s12 _ _ tp.1,s12 _ _ tq.1,by simpa using ne,k H2 s12⟩⟩
theorem ba6 {f:Addr}{fd:FuncData}(F:A2 K "go_past" "go_past" X3 f fd)(zyz:L5 P w K mg base "put_behind" 4 ["p","q"] (fun vs H Q E=>G0 vs H Q E\/(Z5 zzz) vs H Q E)):l6 P w K mg base (R5 P w) 5 f fd ["p","q"] (Z5 zzz):=by
 refine F.okx an5 (fun vs H Q E h=> ?_) (fun cdv A outer s H vs Q E hr h=> ?_)
 · obtain ⟨a,b,p,q,rfl,tp,tq,ne,k⟩:=h;rfl
 · obtain ⟨a,b,p,q,rfl,tp,tq,ne,k⟩:=h;have zv:o6 4 _:=hr.mono (by decide);have hu:=M1 hr;refine ⟨_,@i6 _ _ _ (@l0 _ _ _ _ (@G3 _ _ _ _ _ _ _ _ (Y6 0 hu) (@Q1 _ _ _ _ _ _ _ _ _ _ _ zyz zv (@K3 _ _ _ _ _ _ _ _ _ _ _ _ _ _ _ _ fun _ _ _ h=>h) (@c5 _ _ _ _ _ (pv 0) (@c5 _ _ _ _ _ (pv 1) (@c6 _) (by rfl)) (by rfl)) (by rfl) (by decide) (by rfl) (by rfl)) (@Q1 _ _ _ _ _ _ _ _ _ _ _ zyz zv (@K3 _ _ _ _ _ _ _ _ _ _ _ _ _ _ _ _ fun _ _ _ h=>h) (@c5 _ _ _ _ _ (pv 1) (@c5 _ _ _ _ _ (pv 0) (@c6 _) (by rfl)) (by rfl)) (by rfl) (by decide) (by rfl) (by rfl)) (m8 _))),?_⟩;exact ⟨_,rfl,_,rfl,.inr ⟨a,b,p,q,rfl,tp,tq,ne,k⟩⟩
def ay8 (qf qm:Addr):Sp:=fun vs H _ E=>∃(a b:Addr) (p q:List Int),vs=[.ref a,.ref b]/\o4 H a p/\o4 H b q/\((p.length≠q.length/\∀H',c8 H H'->E (.ref qf) none H')\/(p.length=q.length/\8 < p.length/\∀H',c8 H H'->E (.ref qm) none H'))
theorem ah0 {f:Addr}{fd:FuncData}(F:A2 K "powers_of_one" "powers_of_one" K1 f fd)(B:Bl mg)(zyx:∃t,mg "MOST_THINGS_ofone"=some (.int 8 t))(ztx:L5 P w K mg base "go_past" 5 ["p","q"] (fun vs H Q E=>ae3 vs H Q E\/(Z5 zzz) vs H Q E))(zoz:Err K mg "TooMany" zzy):l6 P w K mg base (R5 P w) 9 f fd ["p","q"] (ay8 zzz zzy):=by
 refine F.okx B6 (fun vs H Q E h=> ?_) (fun cdv A outer s H vs Q E hr h=> ?_)
 · obtain ⟨a,b,p,q,rfl,ta,tb,k⟩:=h;rfl
 · obtain ⟨a,b,p,q,rfl,ta,tb,k⟩:=h;obtain ⟨_,zux⟩:=zyx;have zqx:o6 5 _:=hr.mono (by decide);refine ⟨_,@c7 _ _ _ _ _ (@k6 _ _ (2) _ _ _ _ B6.nd rfl (Or.inl rfl) (@Q1 _ _ _ _ _ _ _ _ _ _ _ ztx zqx (@K3 _ _ _ _ _ _ _ _ _ _ _ _ _ _ _ _ fun _ _ _ h=>h) (@c5 _ _ _ _ _ (pv 0) (@c5 _ _ _ _ _ (pv 1) (@c6 _) (by rfl)) (by rfl)) (by rfl) (by decide) (by rfl) (by rfl)) (by rfl) (by trivial)) (@c7 _ _ _ _ _ (@y8 _ _ _ _ _ _ _ _ (@m9 _ _ _ _ _ _ _ _ at3 (@p8 _ _ _ _ _ B.len (@c5 _ _ _ _ _ (pv 0) (@c6 _) (by rfl)) (by rfl) (by rfl)) (@T8 _ _ (.int 8) _ _ (by rfl) zux ⟨_,rfl⟩ (by decide)) (m8 _)) (@i6 _ _ _ (@ai7 _ _ _ _ _ _ _ _ _ ad4 rfl zoz (@au0 _ _ _ _) (by rfl) (by rfl) (by decide))) (@p5 _)) (@ac0 _ _)),?_⟩
   rcases k with ⟨ne,k⟩|⟨hl,l8,k⟩
   · exact ⟨_,rfl,_,rfl,.inr ⟨a,b,p,q,rfl,ta,tb,ne,k⟩⟩
   · refine ⟨_,rfl,_,rfl,.inl ⟨a,b,p,q,rfl,ta,tb,hl,fun H1 s1=> ?_⟩⟩;refine ⟨_,rfl,a,_,rfl,.inl (i7.of (s1 _ _ ta.1)),_,_,rfl,rfl,_,rfl,?_⟩;rw[show decide ((8:Int) < ((p.map V.int).length:Int))=true from decide_eq_true (by rw[ck5];omega)];exact C6 (k H1 s1)
theorem cj0 (xs:List V)(k:Nat)(h:k<=xs.length):V0 xs none (some (k:Int))=xs.take k:=by
 unfold V0;rw[HT.cj2,HT.ch9,cy1,Nat.sub_zero,cy0 h]
theorem cj1 (xs:List V)(k:Nat)(h:k<=xs.length):V0 xs (some (k:Int)) none=xs.drop k:=by
 unfold V0;rw[HT.cj2,HT.ch9,cy0 h,ct2 (by rw[co5];omega)]
def O4 (n:Nat)(p:List Int)(k:Nat):List Int:=p.take k++[(n:Int)]++p.drop k
def ae5 (n:Nat)(p:List Int):List (List Int):=(cp4 (p.length+1)).map (O4 n p)
def Y0:Nat->List (List Int)
 |0=>[[]]
 |n+1=>(Y0 n).flatMap (ae5 n)
theorem ae6 (i:Nat):∀ps:List (List Int),(∀q∈ps,q.length=i)->(ps.flatMap (ae5 i)).length=ps.length*(i+1)
 |[],_=>by rw[List.length_nil,Nat.zero_mul];rfl
 |q::ps,h=>by
  rw[List.flatMap_cons,cl2,ae6 i ps fun q hq=>h q (cl1 _ hq),cm9];unfold ae5;rw[ck5,cr8,h q cl4,Nat.add_mul];omega
theorem ae7 (n:Nat):L2.r6 0 (n+1)=L2.r6 0 n++[(n:Int)]:=by
 unfold L2.r6;rw[ct0,cl6];show _++[(0:Int)+(n:Int)]=_;rw[Int.zero_add]
theorem an9 (n:Nat)(p:List Int)(k:Nat):(O4 n p k).Perm (p++[(n:Int)]):=by
 unfold O4
 have h1:(p.take k++[(n:Int)]++p.drop k).Perm (p.take k++p.drop k++[(n:Int)]):=by
   rw[cm2,cm2];exact List.Perm.append_left _ cq9
 rw[cq0] at h1;exact h1
theorem M5:∀(n:Nat) (r:List Int),r∈Y0 n↔p9 r/\r.length=n
 |0,r=>by
  constructor
  · intro h
    have:r=[]:=by simpa [Y0] using h
    subst this;exact ⟨⟨cu5,(fun x hx=>by cases hx),(fun x hx=>by cases hx)⟩,rfl⟩
  · rintro ⟨_,h⟩;rw[cv7 h];simp [Y0]
 |n+1,r=>by
  constructor
  · intro h;obtain ⟨q,hq,hr⟩:=List.mem_flatMap.mp h;obtain ⟨tq,lq⟩:=(M5 n q).mp hq;obtain ⟨k,_,rfl⟩:=cm8.mp hr
    have pm:(O4 n q k).Perm (L2.r6 0 (n+1)):=by
      rw[ae7];refine (an9 n q k).trans (List.Perm.append_right _ ?_);rw[<-lq];exact tq.perm
    exact J6 pm
  · rintro ⟨tr,lr⟩;have pm:=tr.perm;rw[lr] at pm;have mn:(n:Int)∈r:=pm.mem_iff.mpr (by rw[ae7];simp);obtain ⟨k,hk⟩:=cm3.mp mn;have kl:=(ck7.mp hk).1;have ek:r[k]=(n:Int):=(ck7.mp hk).2
    have er:r=r.take k++(n:Int)::r.drop (k+1):=by rw[<-ek,List.getElem_cons_drop,cq0]
    obtain ⟨q,eq⟩:∃q,q=r.take k++r.drop (k+1):=⟨_,rfl⟩
    have ltk:(r.take k).length=k:=by rw[cl8];omega
    have e1:q.take k=r.take k:=by rw[eq,List.take_append_of_le_length (by omega),ct2 (by omega)]
    have e2:q.drop k=r.drop (k+1):=by rw[eq,cw0 (by omega),List.drop_of_length_le (by omega),List.nil_append]
    have ep:O4 n q k=r:=by
      unfold O4;rw[e1,e2,cm2];exact er.symm
    have pq:(q++[(n:Int)]).Perm (L2.r6 0 n++[(n:Int)]):=by
      rw[<-ae7];refine ((an9 n q k).symm.trans ?_);rw[ep];exact pm
    obtain ⟨tq,lq⟩:=J6 ((List.perm_append_right_iff _).mp pq);refine List.mem_flatMap.mpr ⟨q,(M5 n q).mpr ⟨tq,lq⟩,cm8.mpr ⟨k,co2.mpr (by omega),ep⟩⟩
theorem aj3:∀i,i<=5->(Y0 i).length<=120:=by decide+kernel
theorem bn8 {n:Nat}(hn:n<=6):(Y0 n).length<=720:=by
 by_cases z:n<=5
 · have:=aj3 n z;omega
 · have:n=5+1:=by omega
   rw[this];show ((Y0 5).flatMap (ae5 5)).length<=720;rw[ae6 5 _ fun q hq=>((M5 5 q).mp hq).2];have:=aj3 5 (by decide);omega
def bg5:Sp:=fun vs H Q _=>∃(F:Addr) (i:Nat) (as:List Addr) (ps:List (List Int)),vs=[.ref F,.int (i:Int)]/\H F=some (.lst (as.map V.ref))/\w9 H as ps/\(∀q∈ps,q.length=i)/\i<=5/\ps.length<=120/\
 ∀(L:Addr) (bs:List Addr) (H':Hp),H L=none->c8 H H'->H' L=some (.lst (bs.map V.ref))->w9 H' bs (ps.flatMap (ae5 i))->Q (.ref L) H'
theorem T5:o3 ["rows","thing","found","row","at"] ["rows","thing"] (j8 ae0):=by rfl'
theorem bg6 {f:Addr}{fd:FuncData}(F:A2 K "_law_put" "_law_put" ae0 f fd)(B:Bl mg):l6 P w K mg base B8 1 f fd ["rows","thing"] bg5:=by
 refine F.ok T5 (fun vs H Q E h=> ?_) (fun cdv A outer s H vs Q E hr h=> ?_)
 · obtain ⟨F,i,as,ps,rfl,h3F,rows,hps,hi,lenA,q⟩:=h;rfl
 · obtain ⟨F,i,as,ps,rfl,h3F,rows,hps,hi,lenA,q⟩:=h;refine ⟨_,@c7 _ _ _ _ _ (@k6 _ _ (2) _ _ _ _ T5.nd rfl (Or.inl rfl) (@x6 _ _ _ _ (@c6 _)) (by rfl) (by trivial)) (@c7 _ _ _ _ _ (@E2 _ _ _ _ _ _ _ _ PassesOwn.never rfl (@D1 _ _ _ _ (pv 0)) (@o9 _ _ (3) _ T5.nd rfl (Or.inl rfl) (by trivial)) (@i6 _ _ _ (@E2 _ _ _ _ _ _ _ _ PassesOwn.never rfl (@R3 _ _ _ _ _ _ (by rfl) B.range (@c5 _ _ _ _ _ (@r0 _ _ _ _ _ _ _ _ J4 (@p8 _ _ _ _ _ B.len (@c5 _ _ _ _ _ (pv 3) (@c6 _) (by rfl)) (by rfl) (by rfl)) (@j7 _ _ _ _)) (@c6 _) (by rfl)) (by rfl)) (@o9 _ _ (4) _ T5.nd rfl (Or.inl rfl) (by trivial)) (@i6 _ _ _ (@C0 _ _ _ _ (@M8 _ _ _ _ _ _ _ (pv 2) (@c5 _ _ _ _ _ (@r0 _ _ _ _ _ _ _ _ ak4 (@r0 _ _ _ _ _ _ _ _ ak4 (@ai1 _ _ _ _ _ _ _ _ _ _ ao2 (pv 3) (@bb5 _) (@af4 _ _ _ (pv 4))) (@x6 _ _ _ _ (@c5 _ _ _ _ _ (pv 1) (@c6 _) (by rfl)))) (@ai1 _ _ _ _ _ _ _ _ _ _ ao2 (pv 3) (@af4 _ _ _ (pv 4)) (@bb5 _))) (@c6 _) (by rfl)) (by rfl) (by rfl) (by rfl) (by rfl) (by rfl)) (by rfl))) (by intro _;rfl))) (by intro _;rfl)) (@i6 _ _ _ (@l0 _ _ _ _ (pv 2)))),?_⟩;refine ⟨cn3 _,fun L hL=> ?_⟩;obtain ⟨H3,eH⟩:∃H3,H3=H:=⟨_,rfl⟩;rw[<-eH] at hL h3F rows q ⊢;have nFL:F≠L:=j5 h3F hL;have kb1:k7 L H3 (e8 H3 L (.lst [])):=k7.upd;have h4L:(e8 H3 L (.lst [])) L=some (.lst (([]:List Addr).map V.ref)):=c9;generalize (e8 H3 L (.lst []))=H4 at kb1 h4L ⊢;have h4F:=kb1 _ _ h3F nFL
   have nLas:L∉as:=fun z=>by
     obtain ⟨r,hr'⟩:=aj0 rows z;rw[hL] at hr';cases hr'
   refine ⟨_,rfl,F,rfl,⟨_,i7.of h4F⟩,I0 (K:=K) (a:=F) (xs:=as.map V.ref) (fun j σ H5=>∃(bs:List Addr) (v4 v5:Option V),σ=[some (.ref F),some (.int (i:Int)),some (.ref L),v4,v5]/\H5 L=some (.lst (bs.map V.ref))/\w9 H5 bs ((ps.take j).flatMap (ae5 i))/\k7 L H3 H5/\L∉bs)
     ⟨[],none,none,rfl,h4L,⟨rfl,fun j b r h=>by cases h⟩,kb1,fun z=>by cases z⟩ (fun j σ H5 _ ⟨_,_,_,_,_,_,k,_⟩=>i7.of (k _ _ h3F nFL)) ?_ ?_⟩
   · rintro j x σ H5 hj ⟨bs,v4,v5,rfl,h5L,rowsB,kb5,nLb⟩
     obtain ⟨a,ha,rfl⟩:∃a,as[j]? =some a/\x=V.ref a:=by
       rw[cl0] at hj
       cases e:as[j]? with
       |none=>rw[e] at hj;cases hj
       |some a=>rw[e] at hj;exact ⟨a,rfl,(Option.some.inj hj).symm⟩
     have jl:j < ps.length:=by rw[<-rows.1];exact (ck7.mp ha).1
     obtain ⟨p,hp⟩:∃p,ps[j]? =some p:=⟨_,ck6 jl⟩;have lp:p.length=i:=hps p (cl9 hp);have h3a:=rows.2 j a p ha hp
     have naL:a≠L:=fun z=>nLas (z▸cl9 ha)
     have h5a:=kb5 _ _ h3a naL
     have etk:ps.take (j+1)=ps.take j++[p]:=by rw[List.take_succ,hp];rfl
     refine ⟨_,rfl,a,_,rfl,.inl (i7.of h5a),_,_,rfl,rfl,((p.map V.int).length:Int)+1,rfl,by rw[ck5];omega,by rw[ck5];omega,?_⟩;rw[ck5,show ((p.length:Int)+1).toNat=p.length+1 by omega]
     have cntj:((ps.take j).flatMap (ae5 i)).length=j*(i+1):=by
       rw[ae6 i _ fun q hq=>hps q (cr0 hq),cl8]
       congr 1
       omega
     refine X0 (lo:=0) (n:=p.length+1) (fun k σ H6=>∃(bs:List Addr) (v5:Option V),σ=[some (.ref F),some (.int (i:Int)),some (.ref L),some (.ref a),v5]/\H6 L=some (.lst (bs.map V.ref))/\w9 H6 bs ((ps.take j).flatMap (ae5 i)++(cp4 k).map (O4 i p))/\k7 L H3 H6/\L∉bs)
       ⟨bs,v5,rfl,h5L,by rw[List.range_zero,cx6,cp1];exact rowsB,kb5,nLb⟩ ?_ ?_
     · rintro k σ H6 hk ⟨bs,v5,rfl,h6L,rowsC,kb6,nLc⟩
       have e0:(0:Int)+(k:Int)=(k:Int):=by omega
       rw[e0];have h6a:=kb6 _ _ h3a naL
       have kl:k<=p.length:=by omega
       refine ⟨_,rfl,.inl ⟨rfl,_,i7.of h6L⟩,_,rfl,_,rfl,_,rfl,a,_,rfl,i7.of h6a,fun sl hsl=> ?_⟩;rw[cj0 (p.map V.int) k (by rw[ck5];exact kl),<-List.map_take];have s7:c8 H6 (e8 H6 sl (.lst ((p.take k).map V.int))):=c8.upd_new hsl;have h7s:(e8 H6 sl (.lst ((p.take k).map V.int))) sl=some (.lst ((p.take k).map V.int)):=c9;generalize (e8 H6 sl (.lst ((p.take k).map V.int)))=H7 at s7 h7s ⊢;refine ⟨_,rfl,(show 1<=sizeLine by decide),fun o ho=> ?_⟩;have s8:c8 H7 (e8 H7 o (.lst [V.int (i:Int)])):=c8.upd_new ho;have h8o:(e8 H7 o (.lst [V.int (i:Int)])) o=some (.lst [V.int (i:Int)]):=c9;generalize (e8 H7 o (.lst [V.int (i:Int)]))=H8 at s8 h8o ⊢;refine ⟨sl,o,_,_,rfl,rfl,s8 _ _ h7s,h8o,cn8 (q9 (by simp only[cl2,ck5,cl8,ct3];omega)),fun c hc=> ?_⟩
       have ec:(p.take k).map V.int++[V.int (i:Int)]=(p.take k++[(i:Int)]).map V.int:=by rw[cl6];rfl
       rw[ec];have s9:c8 H8 (e8 H8 c (.lst ((p.take k++[(i:Int)]).map V.int))):=c8.upd_new hc;have h9c:(e8 H8 c (.lst ((p.take k++[(i:Int)]).map V.int))) c=some (.lst ((p.take k++[(i:Int)]).map V.int)):=c9;generalize (e8 H8 c (.lst ((p.take k++[(i:Int)]).map V.int)))=H9 at s9 h9c ⊢;have s69:=(s7.trans s8).trans s9;refine ⟨_,rfl,_,rfl,_,rfl,a,_,rfl,i7.of (s69 _ _ h6a),fun d hd=> ?_⟩;rw[cj1 (p.map V.int) k (by rw[ck5];exact kl),<-List.map_drop];have s10:c8 H9 (e8 H9 d (.lst ((p.drop k).map V.int))):=c8.upd_new hd;have h10d:(e8 H9 d (.lst ((p.drop k).map V.int))) d=some (.lst ((p.drop k).map V.int)):=c9;generalize (e8 H9 d (.lst ((p.drop k).map V.int)))=H10 at s10 h10d ⊢;refine ⟨c,d,_,_,rfl,rfl,s10 _ _ h9c,h10d,cn8 (q9 (by simp only[cl2,ck5,cl8,co5,ct3];omega)),fun e he=> ?_⟩;rw[<-cl6];have s610:=s69.trans s10;have nLe:L≠e:=j5 (s610 _ _ h6L) he
       have h11L:(e8 H10 e (.lst ((p.take k++[(i:Int)]++p.drop k).map V.int))) L=some (.lst (bs.map V.ref)):=by rw[i8 nLe];exact s610 _ _ h6L
       have h11e:(e8 H10 e (.lst ((p.take k++[(i:Int)]++p.drop k).map V.int))) e=some (.lst ((O4 i p k).map V.int)):=c9;have s11:c8 H6 (e8 H10 e (.lst ((p.take k++[(i:Int)]++p.drop k).map V.int))):=s610.trans (c8.upd_new he);generalize (e8 H10 e (.lst ((p.take k++[(i:Int)]++p.drop k).map V.int)))=H11 at s11 h11L h11e ⊢
       have lenC:bs.length<=720:=by
         have:=rowsC.1;rw[cl2,cntj,ck5,cr8] at this;have h1:j*(i+1)<=119*(i+1):=Nat.mul_le_mul_right _ (by omega);omega
       refine ⟨L,_,_,rfl,rfl,h11L,q9 (by rw[ck5];omega),?_⟩
       have es:bs.map V.ref++[V.ref e]=(bs++[e]).map V.ref:=by rw[cl6];rfl
       rw[es];refine ⟨bs++[e],_,rfl,c9,?_,(kb6.trans (s11.but L)).upd_a,?_⟩
       · rw[show (cp4 (k+1)).map (O4 i p)=(cp4 k).map (O4 i p)++[O4 i p k] by rw[ct0,cl6];rfl,<-cm2];refine X4 (K7 rowsC fun b hb o e=> ?_) (by rw[i8 nLe.symm];exact h11e);rw[i8 (show b≠L from fun z=>nLc (z▸hb))];exact s11 _ _ e
       · intro z
         rcases cm1.mp z with z|z
         · exact nLc z
         · exact nLe (co1.mp z)
     · rintro σ H6 ⟨bs,v5,rfl,h6L,rowsC,kb6,nLc⟩;refine ⟨bs,_,_,rfl,h6L,?_,kb6,nLc⟩;rw[etk,List.flatMap_append,List.flatMap_cons,List.flatMap_nil,cp1];exact rowsC
   · rintro σ H5 ⟨bs,v4,v5,rfl,h5L,rowsB,kb5,nLb⟩;rw[ck5,rows.1,cp3] at rowsB;exact ⟨_,rfl,q L bs H5 hL ((c8.refl H3).kb kb5 hL) h5L rowsB⟩
def bg7:Sp:=fun vs H Q _=>∃n:Nat,vs=[.int (n:Int)]/\n<=6/\∀(l:Addr) (as:List Addr) (ts:List (List Int)) (H':Hp),H l=none->c8 H H'->H' l=some (.lst (as.map V.ref))->w9 H' as ts->ts.Perm (Y0 n)->Q (.ref l) H'
theorem T6:o3 ["many","found","thing"] ["many"] (j8 ad9):=by rfl'
theorem bg8 {f:Addr}{fd:FuncData}(F:A2 K "_law_all" "_law_all" ad9 f fd)(B:Bl mg)(zoy:o7 P w K mg base "_law_put" 1 ["rows","thing"] bg5):l6 P w K mg base B8 2 f fd ["many"] bg7:=by
 refine F.ok T6 (fun vs H Q E h=> ?_) (fun cdv A outer s H vs Q E hr h=> ?_)
 · obtain ⟨n,rfl,hn,q⟩:=h;rfl
 · obtain ⟨n,rfl,hn,q⟩:=h;have hr_law_put:o6 1 _:=hr.mono (by decide);have hu2:_+1+1 < cLine:=cp0 (cq6 (by decide:2<=64) _) hr.units;refine ⟨_,@c7 _ _ _ _ _ (@k6 _ _ (1) _ _ _ _ T6.nd rfl (Or.inl rfl) (@x6 _ _ _ _ (@c5 _ _ _ _ _ (@x6 _ _ _ _ (@c6 _)) (@c6 _) (by rfl))) (by rfl) (by trivial)) (@c7 _ _ _ _ _ (@E2 _ _ _ _ _ _ _ _ PassesOwn.never rfl (@R3 _ _ _ _ _ _ (by rfl) B.range (@c5 _ _ _ _ _ (pv 0) (@c6 _) (by rfl)) (by rfl)) (@o9 _ _ (2) _ T6.nd rfl (Or.inl rfl) (by trivial)) (@i6 _ _ _ (@k6 _ _ (1) _ _ _ _ T6.nd rfl (Or.inl rfl) (@j6 _ _ _ _ _ _ _ _ _ _ zoy hr_law_put (@c5 _ _ _ _ _ (pv 1) (@c5 _ _ _ _ _ (pv 2) (@c6 _) (by rfl)) (by rfl)) (by rfl) (by decide) (by rfl) (by rfl)) (by rfl) (by trivial))) (by intro _;rfl)) (@i6 _ _ _ (@l0 _ _ _ _ (ba3 hu2 B.sorted (@c5 _ _ _ _ _ (pv 1) (@c6 _) (by rfl)))))),?_⟩;refine ⟨cn3 _,fun e0 he0=> ?_⟩;have s1:c8 H (e8 H e0 (.lst [])):=c8.upd_new he0;have h1e:(e8 H e0 (.lst [])) e0=some (.lst (([]:List Int).map V.int)):=c9;generalize (e8 H e0 (.lst []))=H1 at s1 h1e ⊢;refine ⟨(show 1<=sizeLine by decide),fun F0 hF0=> ?_⟩;have s2:c8 H1 (e8 H1 F0 (.lst [V.ref e0])):=c8.upd_new hF0;have h2F:(e8 H1 F0 (.lst [V.ref e0])) F0=some (.lst (([e0]:List Addr).map V.ref)):=c9;generalize (e8 H1 F0 (.lst [V.ref e0]))=H2 at s2 h2F ⊢;have h2e:=s2 _ _ h1e;have s02:=s1.trans s2;refine ⟨_,rfl,(n:Int),rfl,by omega,by omega,?_⟩;rw[show ((n:Int)).toNat=n by omega]
   refine X0 (lo:=0) (n:=n) (fun i σ H3=>∃(F:Addr) (as:List Addr) (v2:Option V),σ=[some (.int (n:Int)),some (.ref F),v2]/\H3 F=some (.lst (as.map V.ref))/\w9 H3 as (Y0 i)/\c8 H H3)
     ⟨F0,[e0],none,rfl,h2F,⟨rfl,fun j b r e1 e2=>by
       rcases j with _|j
       · cases e1;cases e2;exact h2e
       · cases e1⟩,s02⟩ ?_ ?_
   · rintro i σ H3 hi ⟨F,as,v2,rfl,h3F,rows,s3⟩
     have e0:(0:Int)+(i:Int)=(i:Int):=by omega
     rw[e0]
     have i5:i<=5:=by omega
     have lenA:=aj3 i i5;exact ⟨_,rfl,_,rfl,F,i,as,_,rfl,h3F,rows,fun q hq=>((M5 i q).mp hq).2,i5,lenA,fun L bs H4 nL s4 h4 rows4=>⟨L,bs,_,rfl,h4,rows4,s3.trans s4⟩⟩
   · rintro σ H3 ⟨F,as,v2,rfl,h3F,rows,s3⟩;refine ⟨_,rfl,F,as,_,rfl,i7.of h3F,rows,fun cs ts l pb pt rows' st hl=> ?_⟩;have s4:c8 H3 (e8 H3 l (.lst (cs.map V.ref))):=c8.upd_new hl;exact q l cs ts _ (s3.free hl) (s3.trans s4) c9 (K7 rows' fun b _ o e=>s4 b o e) pt
def Z6:Sp:=fun vs H Q _=>∃(a:Addr) (r:List Int),vs=[.ref a]/\o4 H a r/\r.length<=8/\∀(l:Addr) (as:List Addr) (h:Nat) (H':Hp),H l=none->c8 H H'->A6 r h->H' l=some (.lst (as.map V.ref))->w9 H' as (x3 r h)->(∀b∈as,H b=none)->Q (.ref l) H'
theorem M2:o3 ["r","found","here"] ["r"] (j8 W5):=by rfl'
theorem at1 {f:Addr}{fd:FuncData}(F:A2 K "_law_powers" "_law_powers" W5 f fd)(B:Bl mg)(zu:o7 P w K mg base "_law_behind" 1 ["p","q"] G0):l6 P w K mg base B8 2 f fd ["r"] Z6:=by
 refine F.ok M2 (fun vs H Q E h=> ?_) (fun cdv A outer s H vs Q E hr h=> ?_)
 · obtain ⟨a,r,rfl,ta,l8,q⟩:=h;rfl
 · obtain ⟨a,r,rfl,ta,l8,q⟩:=h;have zsy:o6 1 _:=hr.mono (by decide);have hu:=M1 hr;refine ⟨_,@c7 _ _ _ _ _ (@k6 _ _ (1) _ _ _ _ M2.nd rfl (Or.inl rfl) (@x6 _ _ _ _ (@c5 _ _ _ _ _ (@T2 _ _ _ _ _ _ _ rfl B.list B.range (@c5 _ _ _ _ _ (@p8 _ _ _ _ _ B.len (@c5 _ _ _ _ _ (pv 0) (@c6 _) (by rfl)) (by rfl) (by rfl)) (@c6 _) (by rfl)) (by rfl) (by rfl) (by rfl) (by rfl)) (@c6 _) (by rfl))) (by rfl) (by trivial)) (@c7 _ _ _ _ _ (@k6 _ _ (2) _ _ _ _ M2.nd rfl (Or.inl rfl) (@C2 _ _ _ _ _ B.list (@c5 _ _ _ _ _ (pv 0) (@c6 _) (by rfl)) (by rfl) (by rfl)) (by rfl) (by trivial)) (@c7 _ _ _ _ _ (@U7 _ _ _ _ _ _ PassesOwn.never (@m9 _ _ _ _ _ _ _ _ (N8 0 hu) (pv 2) (@w6 _ _ _ _ _ _ _ t8 (pv 1) (@j7 _ _ _ _) (fun _ _=>rfl)) (m8 _)) (@c7 _ _ _ _ _ (@C0 _ _ _ _ (@M8 _ _ _ _ _ _ _ (pv 1) (@c5 _ _ _ _ _ (pv 2) (@c6 _) (by rfl)) (by rfl) (by rfl) (by rfl) (by rfl) (by rfl)) (by rfl)) (@i6 _ _ _ (@k6 _ _ (2) _ _ _ _ M2.nd rfl (Or.inl rfl) (@j6 _ _ _ _ _ _ _ _ _ _ zu zsy (@c5 _ _ _ _ _ (pv 0) (@c5 _ _ _ _ _ (pv 2) (@c6 _) (by rfl)) (by rfl)) (by rfl) (by decide) (by rfl) (by rfl)) (by rfl) (by trivial))))) (@i6 _ _ _ (@l0 _ _ _ _ (pv 1))))),?_⟩;obtain ⟨h,hh⟩:=ap9 ta.2.1;have h840:=W6 ta.2.1 l8 hh;have hpos:=hh.pos;have tr:=ta.2.1;refine ⟨_,rfl,a,_,rfl,.inl (i7.of ta.1),(r.length:Int),by rw[ck5],fun rg hrg=> ?_⟩;have s1:c8 H (e8 H rg (.rng 0 (r.length:Int))):=c8.upd_new hrg;have g1:(e8 H rg (.rng 0 (r.length:Int))) rg=some (.rng 0 (r.length:Int)):=c9;generalize (e8 H rg (.rng 0 (r.length:Int)))=H1 at s1 g1 ⊢;refine ⟨rg,0,_,rfl,g1,⟨by omega,by omega,by omega,by omega⟩,by omega,fun i0 n2=> ?_⟩;rw[show ((r.length:Int) - 0).toNat=r.length by omega];have s2:c8 H1 (e8 H1 i0 (.lst ((r6 0 r.length).map V.int))):=c8.upd_new n2;have g2:(e8 H1 i0 (.lst ((r6 0 r.length).map V.int))) i0=some (.lst ((r6 0 r.length).map V.int)):=c9;generalize (e8 H1 i0 (.lst ((r6 0 r.length).map V.int)))=H2 at s2 g2 ⊢;refine ⟨(show 1<=sizeLine by decide),fun fl n3=> ?_⟩;have s3:c8 H2 (e8 H2 fl (.lst [V.ref i0])):=c8.upd_new n3;have g3:(e8 H2 fl (.lst [V.ref i0])) fl=some (.lst (([i0]:List Addr).map V.ref)):=c9;generalize (e8 H2 fl (.lst [V.ref i0]))=H3 at s3 g3 ⊢;have s03:=s1.trans (s2.trans s3);refine ⟨_,rfl,a,_,rfl,.inl (i7.of (s03 _ _ ta.1)),fun he n4=> ?_⟩;have s4:c8 H3 (e8 H3 he (.lst (r.map V.int))):=c8.upd_new n4;have g4:(e8 H3 he (.lst (r.map V.int))) he=some (.lst (r.map V.int)):=c9;generalize (e8 H3 he (.lst (r.map V.int)))=H4 at s4 g4 ⊢;have flH:H fl=none:=(s1.trans s2).free n3;have nif:i0≠fl:=j5 g2 n3
   have rows0:w9 H4 [i0] (x3 r 1):=⟨rfl,fun j b t e1 e2=>by
     rcases j with _|j
     · cases e1;rw[G9 (by decide)] at e2;cases e2;rw[show ((0:Nat):Int)=0 from rfl,ag4 tr];exact s4 _ _ (s3 _ _ g2)
     · cases e1⟩
   refine ⟨fun mm σ H5=>∃(k:Nat) (as:List Addr) (e:Addr),1<=k/\k<=h/\σ=[some (.ref a),some (.ref fl),some (.ref e)]/\H5 fl=some (.lst ((i0::as).map V.ref))/\w9 H5 (i0::as) (x3 r k)/\fl∉i0::as/\e≠fl/\H5 e=some (.lst ((pw r (k:Int)).map V.int))/\c8 H H5/\(∀b∈i0::as,H b=none)/\H e=none/\mm=h - k,
     ⟨_,1,[],he,ck8 _,hpos,rfl,s4 _ _ g3,rows0,by simpa using nif.symm,(j5 g3 n4).symm,by rw[show ((1:Nat):Int)=1 from rfl,bn5 tr];exact g4,s03.trans s4,(fun b hb=>by rw[co1.mp hb];exact s1.free n2),s03.free n4,rfl⟩,?_⟩
   rintro mm σ H5 ⟨k,as,e,k1,kh,rfl,h5f,rows,nfa,nef,h5e,s5,fra,fre,rfl⟩
   have id0:H5 i0=some (.lst ((r6 0 r.length).map V.int)):=by
     have:=rows.2 0 i0 _ rfl (G9 (by omega));rw[show ((0:Nat):Int)=0 from rfl,ag4 tr] at this;exact this
   refine ⟨_,rfl,_,rfl,fl,_,0,_,rfl,rfl,i7.of h5f,p7 (j:=0) rfl,e,i0,_,_,_,rfl,rfl,i7.of h5e,i7.of id0,M3 K H5 0 _ _,_,rfl,?_⟩
   by_cases fin:pw r (k:Int)=r6 0 r.length
   · rw[show decide (pw r (k:Int)=r6 0 r.length)=true from decide_eq_true fin];refine y7 ?_;have d:=ag5 tr hh (fin.trans (ag4 tr).symm);rw[Int.sub_zero] at d;have:h<=k:=Nat.le_of_dvd (by omega) (co8.mp d)
     have ek:k=h:=by omega
     subst ek;exact ⟨_,rfl,q fl (i0::as) k H5 flH s5 hh h5f rows fra⟩
   · rw[show decide (pw r (k:Int)=r6 0 r.length)=false from decide_eq_false fin]
     have klt:k < h:=by
       rcases cu4 k h with z|z
       · exact z
       · have:k=h:=by omega
         exact absurd (by rw[this,<-ag4 tr];exact Z4 hh (by rw[Int.sub_zero];exact cw3 _)) fin
     refine C6 ⟨fun σ' H'=>∃m',m' < h - k/\_,fun _ _ h=>h,?_⟩
     have la:(i0::as).length=k:=by rw[rows.1,D0]
     refine ⟨_,rfl,.inl ⟨rfl,_,i7.of h5f⟩,_,rfl,fl,_,_,rfl,rfl,h5f,q9 (by rw[ck5,la];omega),?_⟩
     have es:(i0::as).map V.ref++[V.ref e]=(i0::(as++[e])).map V.ref:=by simp
     rw[es];have kb6:k7 fl H5 (e8 H5 fl (.lst ((i0::(as++[e])).map V.ref))):=k7.upd;have g6:(e8 H5 fl (.lst ((i0::(as++[e])).map V.ref))) fl=some (.lst ((i0::(as++[e])).map V.ref)):=c9;generalize (e8 H5 fl (.lst ((i0::(as++[e])).map V.ref)))=H6 at kb6 g6 ⊢;have h6e:=kb6 _ _ h5e nef;have s6:c8 H H6:=s5.kb kb6 flH
     have ep:x3 r (k+1)=x3 r k++[pw r (k:Int)]:=by
       unfold x3;rw[ct0,cl6];rfl
     have rows6:w9 H6 (i0::(as++[e])) (x3 r (k+1)):=by
       rw[ep];exact X4 (as:=i0::as) (K7 rows fun b hb o eo=>kb6 b o eo fun z=>nfa (z▸hb)) h6e
     refine ⟨_,rfl,_,rfl,a,e,r,_,rfl,l7 ta s6,⟨h6e,S0 tr _,by rw[O3];omega⟩,(O3 _ _).symm,fun l H7 nl s7 h7=> ?_⟩;refine ⟨_,(show h - (k+1) < h - k by omega),k+1,as++[e],l,by omega,by omega,rfl,s7 _ _ g6,K7 rows6 fun b _ o eo=>s7 b o eo,?_,(j5 g6 nl).symm,?_,s6.trans s7,(fun b hb=> ?_),s6.free nl,rfl⟩
     · intro z
       rcases co0.mp z with z|z
       · exact nfa (by rw[z];exact cl4)
       · rcases cm1.mp z with z|z
         · exact nfa (cl1 _ z)
         · exact nef (co1.mp z).symm
     · have:C9 r (pw r (k:Int))=pw r ((k+1:Nat):Int):=by
         have:=an3 tr 1 (k:Int);rw[bn5 tr] at this;rw[this]
         congr 1
         omega
       rw[<-this];exact h7
     · rcases co0.mp hb with z|z
       · exact fra b (by rw[z];exact cl4)
       · rcases cm1.mp z with z|z
         · exact fra b (cl1 _ z)
         · rw[co1.mp z];exact fre
theorem cc9 {H:Hp}{a:Addr}{p:List Int}{Q:VK}{E:XK}(t:o4 H a p)(q:∀H',c8 H H'->Q (.bl true) H'):ao6 Q6 (Z2 K) [.ref a] H Q E:=by
 refine .inl ⟨a,p,rfl,t.1,fun b' H' s iff=> ?_⟩;rw[iff.mpr ⟨t.2.2,t.2.1⟩];exact q H' s
def ay9:Sp:=fun vs H Q _=>∃(a b t r:Addr) (p q rr:List Int) (i j:Nat),vs=[.ref a,.ref b,.ref t]/\o4 H a p/\o4 H b q/\H t=some (.tup [.ref r,.int (i:Int),.int (j:Int)])/\o4 H r rr/\rr.length=p.length/\p.length<=8/\ae4 rr p q i j/\∀H',c8 H H'->Q (.bl true) H'
theorem R1:o3 ["p","q","told","powers","number","due"] ["p","q","told"] (j8 ab3):=by rfl'
theorem ba7 {f:Addr}{fd:FuncData}(F:A2 K "_law_good" "_law_good" ab3 f fd)(B:Bl mg)(zuz:o7 P w K mg base "is_turn" 2 ["thing"] (ao6 Q6 (Z2 K)))(zxz:o7 P w K mg base "_law_powers" 2 ["r"] Z6):l6 P w K mg base B8 3 f fd ["p","q","told"] ay9:=by
 refine F.ok R1 (fun vs H Q E h=> ?_) (fun cdv A outer s H vs Q E hr h=> ?_)
 · obtain ⟨a,b,t,r,p,q,rr,i,j,rfl,ta,tb,ht,tr,lr,l8,bo,k⟩:=h;rfl
 · obtain ⟨a,b,t,r,p,q,rr,i,j,rfl,ta,tb,ht,tr,lr,l8,bo,k⟩:=h;have zqz:o6 2 _:=hr.mono (by decide);have zvy:o6 2 _:=hr.mono (by decide);have hu:=M1 hr;refine ⟨_,@c7 _ _ _ _ _ (@y8 _ _ _ _ _ _ _ _ (@D5 _ _ _ _ _ _ _ (@E8 _ _ _ _ (@D8 _ _ _ (@V5 _ _ _ _ _ _ B.isi (@c5 _ _ _ _ _ (pv 2) (@c5 _ _ _ _ _ (@bf8 _ _ B.tuple (by rfl)) (@c6 _) (by rfl)) (by rfl)) (by rfl) (by rfl) (by rfl)) (by intro _;rfl))) (@D5 _ _ _ _ _ _ _ (@m9 _ _ _ _ _ _ _ _ Z9 (@p8 _ _ _ _ _ B.len (@c5 _ _ _ _ _ (pv 2) (@c6 _) (by rfl)) (by rfl) (by rfl)) (@j7 _ _ _ _) (m8 _)) (@J3 _ _ _ _ (@m9 _ _ _ _ _ _ _ _ bs0 (@j6 _ _ _ _ _ _ _ _ _ _ zuz zqz (@c5 _ _ _ _ _ (@w6 _ _ _ _ _ _ _ N5 (pv 2) (@j7 _ _ _ _) (fun _ _=>rfl)) (@c6 _) (by rfl)) (by rfl) (by decide) (by rfl) (by rfl)) (@t6 _ _ _ _) (m8 _))))).pt (@i6 _ _ _ (@l0 _ _ _ _ (@t6 _ _ _ _))) (@p5 _)) (@c7 _ _ _ _ _ (@y8 _ _ _ _ _ _ _ _ (@m9 _ _ _ _ _ _ _ _ Z9 (@p8 _ _ _ _ _ B.len (@c5 _ _ _ _ _ (@w6 _ _ _ _ _ _ _ N5 (pv 2) (@j7 _ _ _ _) (fun _ _=>rfl)) (@c6 _) (by rfl)) (by rfl) (by rfl)) (@p8 _ _ _ _ _ B.len (@c5 _ _ _ _ _ (pv 0) (@c6 _) (by rfl)) (by rfl) (by rfl)) (m8 _)) (@i6 _ _ _ (@l0 _ _ _ _ (@t6 _ _ _ _))) (@p5 _)) (@c7 _ _ _ _ _ (@k6 _ _ (3) _ _ _ _ R1.nd rfl (Or.inl rfl) (@j6 _ _ _ _ _ _ _ _ _ _ zxz zvy (@c5 _ _ _ _ _ (@w6 _ _ _ _ _ _ _ N5 (pv 2) (@j7 _ _ _ _) (fun _ _=>rfl)) (@c6 _) (by rfl)) (by rfl) (by decide) (by rfl) (by rfl)) (by rfl) (by trivial)) (@c7 _ _ _ _ _ (@E2 _ _ _ _ _ _ _ _ PassesOwn.never rfl (@D1 _ _ _ _ (@x6 _ _ _ _ (@c5 _ _ _ _ _ (@U9 _ _ _ _ _ (@c5 _ _ _ _ _ (@w6 _ _ _ _ _ _ _ N5 (pv 2) (@j7 _ _ _ _) (fun _ _=>rfl)) (@c5 _ _ _ _ _ (pv 0) (@c6 _) (by rfl)) (by rfl))) (@c5 _ _ _ _ _ (@U9 _ _ _ _ _ (@c5 _ _ _ _ _ (@w6 _ _ _ _ _ _ _ N5 (pv 2) (@j7 _ _ _ _) (fun _ _=>rfl)) (@c5 _ _ _ _ _ (pv 1) (@c6 _) (by rfl)) (by rfl))) (@c6 _) (by rfl)) (by rfl)))) (@ac1 _ _ _ _ _ _ rfl (@D3 _ _ _ _ _ (@o9 _ _ (4) _ R1.nd rfl (Or.inl rfl) (by trivial)) (@D3 _ _ _ _ _ (@o9 _ _ (5) _ R1.nd rfl (Or.inl rfl) (by trivial)) (@Y4 _) (by rfl)) (by rfl)) (by rfl) (by rfl)) (@c7 _ _ _ _ _ (@y8 _ _ _ _ _ _ _ _ (@D5 _ _ _ _ _ _ _ (@E8 _ _ _ _ (@D8 _ _ _ (@V5 _ _ _ _ _ _ B.isi (@c5 _ _ _ _ _ (pv 4) (@c5 _ _ _ _ _ (@av4 _ _ B.int (by rfl)) (@c6 _) (by rfl)) (by rfl)) (by rfl) (by rfl) (by rfl)) (by intro _;rfl))) (@D5 _ _ _ _ _ _ _ (@D8 _ _ _ (@V5 _ _ _ _ _ _ B.isi (@c5 _ _ _ _ _ (pv 4) (@c5 _ _ _ _ _ (@ar1 _ _ B.bool (by rfl)) (@c6 _) (by rfl)) (by rfl)) (by rfl) (by rfl) (by rfl)) (by intro _;rfl)) (@J3 _ _ _ _ (@E8 _ _ _ _ (@bo5 _ _ _ _ _ _ _ _ _ _ _ _ ce0 aj8 (@j7 _ _ _ _) (pv 4) (@p8 _ _ _ _ _ B.len (@c5 _ _ _ _ _ (pv 3) (@c6 _) (by rfl)) (by rfl) (by rfl)) (by with_unfolding_all rfl)))))).pt (@i6 _ _ _ (@l0 _ _ _ _ (@t6 _ _ _ _))) (@p5 _)) (@i6 _ _ _ (@y8 _ _ _ _ _ _ _ _ (@m9 _ _ _ _ _ _ _ _ (N8 0 hu) (@w6 _ _ _ _ _ _ _ t8 (pv 3) (pv 4) (fun _ _=>rfl)) (pv 5) (m8 _)) (@i6 _ _ _ (@l0 _ _ _ _ (@t6 _ _ _ _))) (@p5 _)))) (by intro _;rfl)) (@i6 _ _ _ (@l0 _ _ _ _ (@t6 _ _ _ _)))))),?_⟩
   refine ⟨_,rfl,_,"tuple",_,true,rfl,.tup ht,O9 K "tuple",_,rfl,y7 ⟨_,rfl,t,_,rfl,.inr (D9.of ht),rfl,_,rfl,af5 rfl ⟨_,rfl,t,_,0,_,rfl,rfl,D9.of ht,p7 (j:=0) rfl,cc9 tr fun H1 s1=>⟨true,true,rfl,rfl,_,rfl,y7 ?_⟩⟩⟩⟩;have ht1:=s1 _ _ ht;have tr1:=l7 tr s1;refine ⟨_,rfl,t,_,0,_,rfl,rfl,D9.of ht1,p7 (j:=0) rfl,r,_,rfl,.inl (i7.of tr1.1),_,rfl,a,_,rfl,.inl (i7.of (s1 _ _ ta.1)),rfl,_,rfl,af5 (by rw[ck5,ck5,lr]) ?_⟩;refine ⟨_,rfl,t,_,0,_,rfl,rfl,D9.of ht1,p7 (j:=0) rfl,r,rr,rfl,tr1,by omega,fun l as h H2 nl s2 hh h2 rows _=> ?_⟩;have s02:=s1.trans s2;have ht2:=s02 _ _ ht;have h840:=W6 tr.2.1 (by omega) hh;obtain ⟨h',hh',i1,j1⟩:=bo.ex;have:=hh'.uniq hh;subst this;refine ⟨_,rfl,t,_,1,_,rfl,rfl,D9.of ht2,p7 (j:=1) rfl,_,rfl,(show 2<=sizeLine by decide),fun t1 n3=> ?_⟩;have s3:c8 H2 (e8 H2 t1 (.tup [V.int (i:Int),V.ref a])):=c8.upd_new n3;have g3:(e8 H2 t1 (.tup [V.int (i:Int),V.ref a])) t1=some (.tup [V.int (i:Int),V.ref a]):=c9;generalize (e8 H2 t1 (.tup [V.int (i:Int),V.ref a]))=H3 at s3 g3 ⊢;refine ⟨_,rfl,t,_,2,_,rfl,rfl,D9.of (s3 _ _ ht2),p7 (j:=2) rfl,_,rfl,(show 2<=sizeLine by decide),fun t2 n4=> ?_⟩;have s4:c8 H3 (e8 H3 t2 (.tup [V.int (j:Int),V.ref b])):=c8.upd_new n4;have g4:(e8 H3 t2 (.tup [V.int (j:Int),V.ref b])) t2=some (.tup [V.int (j:Int),V.ref b]):=c9;generalize (e8 H3 t2 (.tup [V.int (j:Int),V.ref b]))=H4 at s4 g4 ⊢;refine ⟨(show 2<=sizeLine by decide),fun tl n5=> ?_⟩;have s5:c8 H4 (e8 H4 tl (.lst [V.ref t1,V.ref t2])):=c8.upd_new n5;have g5:(e8 H4 tl (.lst [V.ref t1,V.ref t2])) tl=some (.lst [V.ref t1,V.ref t2]):=c9;generalize (e8 H4 tl (.lst [V.ref t1,V.ref t2]))=H5 at s5 g5 ⊢;have s25:=s3.trans (s4.trans s5);have s05:=s02.trans s25
   have each:∀(m:Nat) x,[V.ref t1,V.ref t2][m]? =some x->∃(u c:Addr) (n:Nat) (d:List Int),x=V.ref u/\H5 u=some (.tup [V.int (n:Int),V.ref c])/\H5 c=some (.lst (d.map V.int))/\n < h'/\pw rr (n:Int)=d:=fun m x hx=>by
     rcases m with _|_|m
     · cases hx;exact ⟨t1,a,i,p,rfl,s5 _ _ (s4 _ _ g3),s05 _ _ ta.1,i1,bo.l⟩
     · cases hx;exact ⟨t2,b,j,q,rfl,s5 _ _ g4,s05 _ _ tb.1,j1,bo.r⟩
     · simp at hx
   refine ⟨tl,rfl,⟨_,i7.of g5⟩,I0 (K:=K) (a:=tl) (xs:=[V.ref t1,V.ref t2]) (fun m σ H6=>∃v4 v5:Option V,σ=[some (.ref a),some (.ref b),some (.ref t),some (.ref l),v4,v5]/\c8 H5 H6)
     ⟨none,none,rfl,c8.refl _⟩ (fun m σ H6 _ ⟨_,_,_,s⟩=>i7.of (s _ _ g5)) ?_ ?_⟩
   · rintro m x σ H6 hm ⟨v4,v5,rfl,s6⟩;obtain ⟨u,c,n,d,rfl,hu',hc,nh,pd⟩:=each m x hm;refine ⟨u,_,rfl,D9.of (s6 _ _ hu'),rfl,_,_,rfl,_,_,rfl,rfl,?_⟩;have h6l:=s6 _ _ (s25 _ _ h2)
     have la:as.length=h':=by rw[rows.1,D0]
     refine ⟨_,rfl,_,"int",_,true,rfl,.int _,O9 K "int",_,rfl,y7 ⟨_,rfl,_,"bool",_,false,rfl,.int _,V4 K,_,rfl,y7 ?_⟩⟩;refine ⟨_,rfl,_,_,rfl,rfl,_,rfl,?_⟩;rw[show decide ((0:Int)<=(n:Int))=true from decide_eq_true (by omega)];refine C6 ⟨_,rfl,l,_,rfl,.inl (i7.of h6l),_,_,rfl,rfl,_,rfl,?_⟩;rw[show decide ((n:Int) < ((as.map V.ref).length:Int))=true from decide_eq_true (by rw[ck5];omega)];refine y7 ?_
     have an:n < as.length:=by omega
     have en:(as.map V.ref)[n]? =some (V.ref as[n]):=by rw[cl0,ck6 an];rfl
     refine ⟨_,rfl,_,rfl,l,_,_,_,rfl,rfl,i7.of h6l,p7 en,_,rfl,as[n],c,_,_,_,rfl,rfl,i7.of (s6 _ _ (s25 _ _ (rows.2 n _ _ (ck6 an) (G9 nh)))),i7.of (s6 _ _ hc),M3 K H6 0 _ _,_,rfl,?_⟩;rw[show decide (pw rr (n:Int)=d)=true from decide_eq_true pd];exact y7 ⟨_,_,rfl,s6⟩
   · rintro σ H6 ⟨v4,v5,rfl,s6⟩;exact k H6 (s05.trans s6)
def aq1:Sp:=fun vs H Q _=>∃(a b:Addr) (p q:List Int) (m:Bool),vs=[.ref a,.ref b]/\o4 H a p/\o4 H b q/\((p.length≠q.length/\m=false)\/(p.length=q.length/\8 < p.length/\m=true))/\
 ∀(l:Addr) (H':Hp),H l=none->c8 H H'->H' l=some (.lst (([!m,m]:List Bool).map V.bl))->Q (.ref l) H'
theorem O5:o3 ["p","q","caught","e"] ["p","q"] (j8 X9):=by rfl'
theorem az0 {f:Addr}{fd:FuncData}(F:A2 K "_law_which" "_law_which" X9 f fd)(B:Bl mg)(zzx:L5 P w K mg base "powers_of_one" 9 ["p","q"] (fun vs H Q E=>ag7 vs H Q E\/(ay8 zzz zzy) vs H Q E))(ER:aw6 K mg zwy [("NoTurn",zx),("NoFit",zzz),("TooMany",zzy)]):l6 P w K mg base B8 10 f fd ["p","q"] aq1:=by
 refine F.ok O5 (fun vs H Q E h=> ?_) (fun cdv A outer s H vs Q E hr h=> ?_)
 · obtain ⟨a,b,p,q,m,rfl,ta,tb,hm,k⟩:=h;rfl
 · obtain ⟨a,b,p,q,m,rfl,ta,tb,hm,k⟩:=h;have zxy:o6 9 _:=hr.mono (by decide);refine ⟨_,@c7 _ _ _ _ _ (@k6 _ _ (2) _ _ _ _ O5.nd rfl (Or.inl rfl) (@L7 _ _ _) (by rfl) (by trivial)) (@c7 _ _ _ _ _ (@cb2 _ _ _ _ _ (3) _ _ _ _ _ _ _ (@bv8 _ _ _ _ _ _ _ _ _ _ _ zzx zxy (@c5 _ _ _ _ _ (pv 0) (@c5 _ _ _ _ _ (pv 1) (@c6 _) (by rfl)) (by rfl)) (by rfl) (by decide) (by rfl) (by rfl) (by rfl)) ER.top O5.nd rfl rfl (fun _=>(@i6 _ _ _ (@k6 _ _ (2) _ _ _ _ O5.nd rfl (Or.inl rfl) (pv 3) (by rfl) (by trivial)))) (by rfl) (by rfl) (by rfl) (by rfl) (by decide) (by trivial)) (@i6 _ _ _ (@l0 _ _ _ _ (@x6 _ _ _ _ (@c5 _ _ _ _ _ (@bc5 _ _ _ _ _ _ B.isi (@c5 _ _ _ _ _ (pv 2) (@c5 _ _ _ _ _ (@T8 _ _ (.ref zzz) _ _ (by rfl) (ER.err ("NoFit",zzz) (by simp)).mg rfl (by decide)) (@c6 _) (by rfl)) (by rfl)) (by rfl) (by rfl) (by rfl)) (@c5 _ _ _ _ _ (@bc5 _ _ _ _ _ _ B.isi (@c5 _ _ _ _ _ (pv 2) (@c5 _ _ _ _ _ (@T8 _ _ (.ref zzy) _ _ (by rfl) (ER.err ("TooMany",zzy) (by simp)).mg rfl (by decide)) (@c6 _) (by rfl)) (by rfl)) (by rfl) (by rfl) (by rfl)) (@c6 _) (by rfl)) (by rfl)))))),?_⟩
   rcases hm with ⟨ne,rfl⟩|⟨hl,l8,rfl⟩
   · refine ⟨_,rfl,_,rfl,.inr ⟨a,b,p,q,rfl,ta,tb,.inl ⟨ne,fun H1 s1=>⟨zzz,rfl,ER.exm ("NoFit",zzz) (by simp),fun e he=> ?_⟩⟩⟩⟩;refine ⟨_,rfl,?_⟩;have s2:c8 H1 (e8 H1 e (S2 e zzz)):=c8.upd_new he;have g2:(e8 H1 e (S2 e zzz)) e=some (S2 e zzz):=c9;generalize (e8 H1 e (S2 e zzz))=H2 at s2 g2 ⊢;have IC:=ER.inst ("NoFit",zzz) (by simp);have p0:=ER.pair ("NoFit",zzz) (by simp) ("NoFit",zzz) (by simp);have p1:=ER.pair ("NoFit",zzz) (by simp) ("TooMany",zzy) (by simp);refine ⟨_,rfl,e,zzz,_,_,_,rfl,.inl ⟨_,rfl,rfl⟩,g2,IC,p0,_,rfl,e,zzz,_,_,_,rfl,.inl ⟨_,rfl,rfl⟩,g2,IC,p1,(show 2<=sizeLine by decide),fun l nl=> ?_⟩;exact k l _ ((s1.trans s2).free nl) ((s1.trans s2).trans (c8.upd_new nl)) c9
   · refine ⟨_,rfl,_,rfl,.inr ⟨a,b,p,q,rfl,ta,tb,.inr ⟨hl,l8,fun H1 s1=>⟨zzy,rfl,ER.exm ("TooMany",zzy) (by simp),fun e he=> ?_⟩⟩⟩⟩;refine ⟨_,rfl,?_⟩;have s2:c8 H1 (e8 H1 e (S2 e zzy)):=c8.upd_new he;have g2:(e8 H1 e (S2 e zzy)) e=some (S2 e zzy):=c9;generalize (e8 H1 e (S2 e zzy))=H2 at s2 g2 ⊢;have IC:=ER.inst ("TooMany",zzy) (by simp);have p0:=ER.pair ("TooMany",zzy) (by simp) ("NoFit",zzz) (by simp);have p1:=ER.pair ("TooMany",zzy) (by simp) ("TooMany",zzy) (by simp);refine ⟨_,rfl,e,zzy,_,_,_,rfl,.inl ⟨_,rfl,rfl⟩,g2,IC,p0,_,rfl,e,zzy,_,_,_,rfl,.inl ⟨_,rfl,rfl⟩,g2,IC,p1,(show 2<=sizeLine by decide),fun l nl=> ?_⟩;exact k l _ ((s1.trans s2).free nl) ((s1.trans s2).trans (c8.upd_new nl)) c9
theorem y6 {H H':Hp}{g:Addr}{c:Nat}(h:A9 H g c)(s:c8 H H'):A9 H' g c:=by
 obtain ⟨x,y,z,e1,e2⟩:=h;exact ⟨x,y,z,s _ _ e1,e2⟩
theorem C1 {H:Hp}{g b:Addr}{c:Nat}(h:A9 H g c)(hb:H b=none):b≠g:=by
 obtain ⟨x,y,z,e1,e2⟩:=h
 exact fun e=>by rw[e,e1] at hb;cases hb
theorem bd8 {H H':Hp}{g a:Addr}{p:List Int}(h:o4 H a p)(k:k7 g H H')(n:a≠g):o4 H' a p:=⟨k _ _ h.1 n,h.2⟩
theorem by1 {p:List Int}{n:Nat}(t:p9 p)(h:p.length<=n):p9 (p++L2.r6 (p.length:Int) (n - p.length)):=by
 have:(p++L2.r6 (p.length:Int) (n - p.length)).Perm (L2.r6 0 n):=by
   have e:L2.r6 0 n=L2.r6 0 p.length++L2.r6 (p.length:Int) (n - p.length):=by
     unfold L2.r6;rw[show n=p.length+(n - p.length) by omega,List.range_add,cl6,cp2]
     congr 1
     rw[show p.length+(n - p.length) - p.length=n - p.length by omega]
     refine cn6 fun x _=> ?_
     show (0:Int)+((p.length+x:Nat):Int)=(p.length:Int)+(x:Int);omega
   rw[e];exact List.Perm.append_right _ t.perm
 exact (J6 this).1
theorem bs2 {p:List Int}{k:Nat}(t:p9 p):p9 (L2.r6 0 k++p.map fun x=>(k:Int)+x):=by
 have:(L2.r6 0 k++p.map fun x=>(k:Int)+x).Perm (L2.r6 0 (k+p.length)):=by
   have e:L2.r6 0 (k+p.length)=L2.r6 0 k++(L2.r6 0 p.length).map fun x=>(k:Int)+x:=by
     unfold L2.r6;rw[List.range_add,cl6,cp2,cp2]
     congr 1
     refine cn6 fun x _=> ?_
     show (0:Int)+((k+x:Nat):Int)=(k:Int)+(0+(x:Int));omega
   rw[e];exact List.Perm.append_left _ (t.perm.map _)
 exact (J6 this).1
def az1:Sp:=fun vs H Q _=>∃(g:Addr) (c n:Nat),vs=[.ref g,.int (n:Int)]/\A9 H g c/\c<=700000/\n<=8/\
 ∀(t a b:Addr) (p q:List Int) (sure:Bool) (H':Hp),H' t=some (.tup [.ref a,.ref b,.bl sure])->t≠g->o4 H' a p->o4 H' b q->p.length=n->q.length=n->a≠g->b≠g->(sure=true->One p q)->A9 H' g (c+400)->k7 g H H'->Q (.ref t) H'
theorem G1:o3 ["pool","many","r","powers","way","half","first","other"] ["pool","many"] (j8 ab4):=by rfl'
theorem Y1:(["place","half"]:List Str).Nodup:=by decide+kernel
theorem ba8 {f:Addr}{fd:FuncData}(F:A2 K "_law_pair" "_law_pair" ab4 f fd)(B:Bl mg)(zwz:o7 P w K mg base "_law_turn" 2 ["pool","many"] am8)(zxz:o7 P w K mg base "_law_powers" 2 ["r"] Z6)(zy:o7 P w K mg base "_law_draw" 1 ["pool","many"] Z1):l6 P w K mg base B8 3 f fd ["pool","many"] az1:=by
 refine F.ok G1 (fun vs H Q E h=> ?_) (fun cdv A outer s H vs Q E hr h=> ?_)
 · obtain ⟨g,c,n,rfl,P0,hc,hn,k⟩:=h;rfl
 · obtain ⟨g,c,n,rfl,P0,hc,hn,k⟩:=h;have zvz:o6 2 _:=hr.mono (by decide);have zvy:o6 2 _:=hr.mono (by decide);have zxx:o6 1 _:=hr.mono (by decide);refine ⟨_,@c7 _ _ _ _ _ (@k6 _ _ (2) _ _ _ _ G1.nd rfl (Or.inl rfl) (@j6 _ _ _ _ _ _ _ _ _ _ zwz zvz (@c5 _ _ _ _ _ (pv 0) (@c5 _ _ _ _ _ (pv 1) (@c6 _) (by rfl)) (by rfl)) (by rfl) (by decide) (by rfl) (by rfl)) (by rfl) (by trivial)) (@c7 _ _ _ _ _ (@k6 _ _ (3) _ _ _ _ G1.nd rfl (Or.inl rfl) (@j6 _ _ _ _ _ _ _ _ _ _ zxz zvy (@c5 _ _ _ _ _ (pv 2) (@c6 _) (by rfl)) (by rfl) (by decide) (by rfl) (by rfl)) (by rfl) (by trivial)) (@c7 _ _ _ _ _ (@k6 _ _ (4) _ _ _ _ G1.nd rfl (Or.inl rfl) (@j6 _ _ _ _ _ _ _ _ _ _ zy zxx (@c5 _ _ _ _ _ (pv 0) (@c5 _ _ _ _ _ (@j7 _ _ _ _) (@c6 _) (by rfl)) (by rfl)) (by rfl) (by decide) (by rfl) (by rfl)) (by rfl) (by trivial)) (@c7 _ _ _ _ _ (@y8 _ _ _ _ _ _ _ _ (@m9 _ _ _ _ _ _ _ _ aj7 (pv 4) (@j7 _ _ _ _) (m8 _)) (@i6 _ _ _ (@l0 _ _ _ _ (@U9 _ _ _ _ _ (@c5 _ _ _ _ _ (pv 2) (@c5 _ _ _ _ _ (@j6 _ _ _ _ _ _ _ _ _ _ zwz zvz (@c5 _ _ _ _ _ (pv 0) (@c5 _ _ _ _ _ (pv 1) (@c6 _) (by rfl)) (by rfl)) (by rfl) (by decide) (by rfl) (by rfl)) (@c5 _ _ _ _ _ (@t6 _ _ _ _) (@c6 _) (by rfl)) (by rfl)) (by rfl))))) (@p5 _)) (@c7 _ _ _ _ _ (@y8 _ _ _ _ _ _ _ _ (@m9 _ _ _ _ _ _ _ _ aj7 (pv 4) (@j7 _ _ _ _) (m8 _)) (@i6 _ _ _ (@l0 _ _ _ _ (@U9 _ _ _ _ _ (@c5 _ _ _ _ _ (@w6 _ _ _ _ _ _ _ t8 (pv 3) (@j6 _ _ _ _ _ _ _ _ _ _ zy zxx (@c5 _ _ _ _ _ (pv 0) (@c5 _ _ _ _ _ (@p8 _ _ _ _ _ B.len (@c5 _ _ _ _ _ (pv 3) (@c6 _) (by rfl)) (by rfl) (by rfl)) (@c6 _) (by rfl)) (by rfl)) (by rfl) (by decide) (by rfl) (by rfl)) (fun _ _=>rfl)) (@c5 _ _ _ _ _ (@w6 _ _ _ _ _ _ _ t8 (pv 3) (@j6 _ _ _ _ _ _ _ _ _ _ zy zxx (@c5 _ _ _ _ _ (pv 0) (@c5 _ _ _ _ _ (@p8 _ _ _ _ _ B.len (@c5 _ _ _ _ _ (pv 3) (@c6 _) (by rfl)) (by rfl) (by rfl)) (@c6 _) (by rfl)) (by rfl)) (by rfl) (by decide) (by rfl) (by rfl)) (fun _ _=>rfl)) (@c5 _ _ _ _ _ (@t6 _ _ _ _) (@c6 _) (by rfl)) (by rfl)) (by rfl))))) (@p5 _)) (@c7 _ _ _ _ _ (@k6 _ _ (5) _ _ _ _ G1.nd rfl (Or.inr rfl) (@r0 _ _ _ _ _ _ _ _ av9 (pv 1) (@j7 _ _ _ _)) (by rfl) (by trivial)) (@c7 _ _ _ _ _ (@k6 _ _ (6) _ _ _ _ G1.nd rfl (Or.inl rfl) (@r0 _ _ _ _ _ _ _ _ ak4 (@j6 _ _ _ _ _ _ _ _ _ _ zwz zvz (@c5 _ _ _ _ _ (pv 0) (@c5 _ _ _ _ _ (pv 5) (@c6 _) (by rfl)) (by rfl)) (by rfl) (by decide) (by rfl) (by rfl)) (@ba1 _ _ _ _ _ _ _ _ rfl B.list B.range (@c5 _ _ _ _ _ (pv 5) (@c5 _ _ _ _ _ (pv 1) (@c6 _) (by rfl)) (by rfl)) (by rfl) (by rfl) (by rfl) (by rfl) (by rfl))) (by rfl) (by trivial)) (@c7 _ _ _ _ _ (@k6 _ _ (7) _ _ _ _ G1.nd rfl (Or.inl rfl) (@r0 _ _ _ _ _ _ _ _ ak4 (@T2 _ _ _ _ _ _ _ rfl B.list B.range (@c5 _ _ _ _ _ (pv 5) (@c6 _) (by rfl)) (by rfl) (by rfl) (by rfl) (by rfl)) (@U0 _ _ _ _ _ _ _ _ _ _ _ (["place","half"]) (1) ([5]) rfl .of (@D1 _ _ _ _ (@j6 _ _ _ _ _ _ _ _ _ _ zwz zvz (@c5 _ _ _ _ _ (pv 0) (@c5 _ _ _ _ _ (@r0 _ _ _ _ _ _ _ _ bz5 (pv 1) (pv 5)) (@c6 _) (by rfl)) (by rfl)) (by rfl) (by decide) (by rfl) (by rfl))) (fun _ _ _ _ _=>@o9 _ _ (0) _ Y1 rfl (Or.inl rfl) (by trivial)) (fun _ _ _ _ _=>(@V3 _)) (fun _ _ _ _ _=>(@r0 _ _ _ _ _ _ _ _ J4 (pv 1) (pv 0))) (by intro _;rfl))) (by rfl) (by trivial)) (@i6 _ _ _ (@l0 _ _ _ _ (@U9 _ _ _ _ _ (@c5 _ _ _ _ _ (pv 6) (@c5 _ _ _ _ _ (pv 7) (@c5 _ _ _ _ _ (@t6 _ _ _ _) (@c6 _) (by rfl)) (by rfl)) (by rfl)))))))))))),?_⟩
   refine ⟨_,rfl,_,rfl,g,c,(n:Int),rfl,P0,by omega,by omega,by omega,fun ra r H1 nra tr lr h1 P1 kb1=> ?_⟩
   have lr:r.length=n:=by omega
   have nrg:ra≠g:=C1 P0 nra;refine ⟨_,rfl,ra,r,rfl,⟨h1,tr,by omega⟩,by omega,fun l as h H2 nl s2 hh h2 rows fra=> ?_⟩;have P2:=y6 P1 s2;have nlg:l≠g:=C1 P1 nl;have h840:=W6 tr (by omega) hh
   have la:as.length=h:=by rw[rows.1,D0]
   have asg:∀b∈as,b≠g:=fun b hb=>C1 P1 (fra b hb)
   refine ⟨_,rfl,g,_,3,rfl,P2,by omega,by decide,by decide,fun way H3 w0 w1 P3 kb3=> ?_⟩;have kb03:k7 g H H3:=(kb1.trans (s2.but g)).trans kb3;have h3r:=kb3 _ _ (s2 _ _ h1) nrg;refine ⟨_,rfl,rfl,_,rfl,S1 (fun _=> ?_) fun _=> ?_⟩
   · refine ⟨_,rfl,_,rfl,_,rfl,g,_,(n:Int),rfl,P3,by omega,by omega,by omega,fun qa q H4 nqa tq lq h4 P4 kb4=>⟨(show 3<=sizeLine by decide),fun t nt=> ?_⟩⟩;have s5:c8 H4 (e8 H4 t (.tup [V.ref ra,V.ref qa,V.bl false])):=c8.upd_new nt;exact k t ra qa r q false _ c9 (C1 P4 nt) ⟨s5 _ _ (kb4 _ _ h3r nrg),tr,by omega⟩ ⟨s5 _ _ h4,tq,by omega⟩ lr (by omega) nrg (C1 P3 nqa) (fun z=>by cases z) ((y6 P4 s5).mono (by omega)) (kb03.trans (kb4.trans (s5.but g)))
   refine ⟨_,rfl,rfl,_,rfl,S1 (fun _=> ?_) fun _=> ?_⟩
   · have h3l:=kb3 _ _ h2 nlg;refine ⟨_,rfl,_,rfl,_,rfl,l,_,rfl,.inl (i7.of h3l),g,_,_,rfl,P3,by omega,(by rw[ck5,la];have:=hh.pos;omega),(by rw[ck5,la];omega),fun x H4 x0 x1 P4 kb4=> ?_⟩;rw[ck5,la] at x1;have h4l:=kb4 _ _ h3l nlg;obtain ⟨x,rfl⟩:=co7 x0
     have xa:x < as.length:=by omega
     refine ⟨l,_,_,_,rfl,rfl,i7.of h4l,p7 (show (as.map V.ref)[x]? =some (V.ref as[x]) by rw[cl0,ck6 xa];rfl),?_⟩;refine ⟨_,rfl,_,rfl,_,rfl,l,_,rfl,.inl (i7.of h4l),g,_,_,rfl,P4,by omega,(by rw[ck5,la];have:=hh.pos;omega),(by rw[ck5,la];omega),fun y H5 y0 y1 P5 kb5=> ?_⟩;rw[ck5,la] at y1;have h5l:=kb5 _ _ h4l nlg;obtain ⟨y,rfl⟩:=co7 y0
     have ya:y < as.length:=by omega
     refine ⟨l,_,_,_,rfl,rfl,i7.of h5l,p7 (show (as.map V.ref)[y]? =some (V.ref as[y]) by rw[cl0,ck6 ya];rfl),(show 3<=sizeLine by decide),fun t nt=> ?_⟩;have ax:=asg _ (cr4 xa);have ay:=asg _ (cr4 ya);have k25:=(kb3.trans kb4).trans kb5;have rx:=k25 _ _ (rows.2 x _ _ (ck6 xa) (G9 (by omega))) ax;have ry:=k25 _ _ (rows.2 y _ _ (ck6 ya) (G9 (by omega))) ay;have s6:c8 H5 (e8 H5 t (.tup [V.ref as[x],V.ref as[y],V.bl true])):=c8.upd_new nt
     exact k t _ _ _ _ true _ c9 (C1 P5 nt) ⟨s6 _ _ rx,S0 tr _,by rw[O3];omega⟩ ⟨s6 _ _ ry,S0 tr _,by rw[O3];omega⟩ (by rw[O3];exact lr) (by rw[O3];exact lr) ax ay
       (fun _=>⟨r,tr,by rw[O3],⟨_,J2 tr _⟩,⟨_,J2 tr _⟩⟩) ((y6 P5 s6).mono (by omega)) (kb03.trans (kb4.trans (kb5.trans (s6.but g))))
   refine ⟨_,rfl,_,_,rfl,rfl,⟨by decide,by decide⟩,?_⟩;obtain ⟨hf,ehf⟩:∃hf:Nat,hf=n/2:=⟨_,rfl⟩
   have e2:(n:Int)/2=(hf:Int):=by omega
   show at2 5 (V.int ((n:Int)/2)) _ _ _;rw[e2];refine ⟨_,rfl,_,rfl,g,_,(hf:Int),rfl,P3,by omega,by omega,by omega,fun fa f H4 nfa tf lf h4 P4 kb4=> ?_⟩;have nfg:fa≠g:=C1 P3 nfa
   have lf:f.length=hf:=by omega
   refine ⟨_,rfl,_,rfl,_,_,rfl,fun rg hrg=> ?_⟩;have s5:c8 H4 (e8 H4 rg (.rng (hf:Int) (n:Int))):=c8.upd_new hrg;have g5:(e8 H4 rg (.rng (hf:Int) (n:Int))) rg=some (.rng (hf:Int) (n:Int)):=c9;generalize (e8 H4 rg (.rng (hf:Int) (n:Int)))=H5 at s5 g5 ⊢;refine ⟨rg,_,_,rfl,g5,⟨by omega,by omega,by omega,by omega⟩,by omega,fun l5 n6=> ?_⟩;rw[show ((n:Int) - (hf:Int)).toNat=n - hf by omega];have s6:c8 H5 (e8 H5 l5 (.lst ((r6 (hf:Int) (n - hf)).map V.int))):=c8.upd_new n6;have g6:(e8 H5 l5 (.lst ((r6 (hf:Int) (n - hf)).map V.int))) l5=some (.lst ((r6 (hf:Int) (n - hf)).map V.int)):=c9;generalize (e8 H5 l5 (.lst ((r6 (hf:Int) (n - hf)).map V.int)))=H6 at s6 g6 ⊢
   have lu:∀(a:Int) (m:Nat),(r6 a m).length=m:=fun a m=>by unfold L2.r6;simp
   refine ⟨fa,l5,_,_,rfl,rfl,s6 _ _ (s5 _ _ h4),g6,cn8 (q9 (by rw[ck5,ck5,lu];omega)),fun ff n7=> ?_⟩;rw[<-cl6];have s7:c8 H6 (e8 H6 ff (.lst ((f++r6 (hf:Int) (n - hf)).map V.int))):=c8.upd_new n7;have g7:(e8 H6 ff (.lst ((f++r6 (hf:Int) (n - hf)).map V.int))) ff=some (.lst ((f++r6 (hf:Int) (n - hf)).map V.int)):=c9;have P6:=y6 P4 (s5.trans s6);have ng7:ff≠g:=C1 P6 n7;have P7:=y6 P6 s7;generalize (e8 H6 ff (.lst ((f++r6 (hf:Int) (n - hf)).map V.int)))=H7 at s7 g7 P7 ⊢;have kb07:k7 g H H7:=kb03.trans (kb4.trans ((s5.trans (s6.trans s7)).but g))
   have tF:p9 (f++r6 (hf:Int) (n - hf)):=by have:=by1 (n:=n) tf (by omega);rw[lf] at this;exact this
   have lF:(f++r6 (hf:Int) (n - hf)).length=n:=by rw[cl2,lu];omega
   refine ⟨_,rfl,_,rfl,fun rg2 hrg2=> ?_⟩;have s8:c8 H7 (e8 H7 rg2 (.rng 0 (hf:Int))):=c8.upd_new hrg2;have g8:(e8 H7 rg2 (.rng 0 (hf:Int))) rg2=some (.rng 0 (hf:Int)):=c9;generalize (e8 H7 rg2 (.rng 0 (hf:Int)))=H8 at s8 g8 ⊢;refine ⟨rg2,0,_,rfl,g8,⟨by omega,by omega,by omega,by omega⟩,by omega,fun l9 n9=> ?_⟩;rw[show ((hf:Int) - 0).toNat=hf by omega];have s9:c8 H8 (e8 H8 l9 (.lst ((r6 0 hf).map V.int))):=c8.upd_new n9;have g9:(e8 H8 l9 (.lst ((r6 0 hf).map V.int))) l9=some (.lst ((r6 0 hf).map V.int)):=c9;have P8:=y6 P7 s8;have ng9:l9≠g:=C1 P8 n9;have P9:=y6 P8 s9;generalize (e8 H8 l9 (.lst ((r6 0 hf).map V.int)))=H9 at s9 g9 P9 ⊢;refine ⟨_,rfl,_,rfl,_,rfl,_,_,rfl,rfl,g,_,(n:Int) - (hf:Int),rfl,P9,by omega,by omega,by omega,fun oa o H10 noa to lo h10 P10 kb10=> ?_⟩;have nog:oa≠g:=C1 P9 noa;refine ⟨oa,rfl,⟨_,i7.of h10⟩,R4 (K:=K) (a:=oa) (xs:=o.map V.int) (fun i ys σ H11=>∃v:Option V,σ=[v,some (.int (hf:Int))]/\H11=H10/\ys=((o.take i).map fun x=>(hf:Int)+x).map V.int) ⟨none,rfl,rfl,rfl⟩ (fun i ys σ H11 _ ⟨_,_,e,_⟩=>by rw[e];exact i7.of h10) ?_ ?_⟩
   · rintro i x ys σ H11 hi ⟨v,rfl,rfl,rfl⟩;obtain ⟨z,hz,rfl⟩:=D6 hi;refine ⟨_,rfl,_,rfl,_,_,rfl,rfl,q9 (by rw[ck5,ck5,cl8];omega),_,rfl,rfl,?_⟩;rw[A3 hz,cl6,cl6];rfl
   · rintro ys σ H11 ⟨v,rfl,rfl,rfl⟩ D n11;rw[ck5,cp3];have s11:c8 H11 (e8 H11 D (.lst ((o.map fun x=>(hf:Int)+x).map V.int))):=c8.upd_new n11;have g11:(e8 H11 D (.lst ((o.map fun x=>(hf:Int)+x).map V.int))) D=some (.lst ((o.map fun x=>(hf:Int)+x).map V.int)):=c9;have P11:=y6 P10 s11;generalize (e8 H11 D (.lst ((o.map fun x=>(hf:Int)+x).map V.int)))=H12 at s11 g11 P11 ⊢;refine ⟨l9,D,_,_,rfl,rfl,s11 _ _ (kb10 _ _ g9 ng9),g11,cn8 (q9 (by rw[ck5,ck5,ck5,lu];omega)),fun ob n12=> ?_⟩;rw[<-cl6];have s12:c8 H12 (e8 H12 ob (.lst ((r6 0 hf++o.map fun x=>(hf:Int)+x).map V.int))):=c8.upd_new n12;have g12:(e8 H12 ob (.lst ((r6 0 hf++o.map fun x=>(hf:Int)+x).map V.int))) ob=some (.lst ((r6 0 hf++o.map fun x=>(hf:Int)+x).map V.int)):=c9;have ng12:ob≠g:=C1 P11 n12;have P12:=y6 P11 s12;generalize (e8 H12 ob (.lst ((r6 0 hf++o.map fun x=>(hf:Int)+x).map V.int)))=H13 at s12 g12 P12 ⊢;have k713:k7 g H7 H13:=((s8.trans s9).but g).trans (kb10.trans ((s11.trans s12).but g));refine ⟨_,rfl,_,rfl,(show 3<=sizeLine by decide),fun t nt=> ?_⟩;have s14:c8 H13 (e8 H13 t (.tup [V.ref ff,V.ref ob,V.bl false])):=c8.upd_new nt;exact k t ff ob _ _ false _ c9 (C1 P12 nt) ⟨s14 _ _ (k713 _ _ g7 ng7),tF,by omega⟩ ⟨s14 _ _ g12,bs2 to,by rw[cl2,ck5,lu];omega⟩ lF (by rw[cl2,ck5,lu];omega) ng7 ng12 (fun z=>by cases z) ((y6 P12 s14).mono (by omega)) (kb07.trans (k713.trans (s14.but g)))
theorem ab7 {H:Hp}{x y:Addr}{p q:List Int}(hx:H x=some (.lst (p.map V.int)))(hy:H y=some (.lst (q.map V.int))):w9 H [x,y] [p,q]:=⟨rfl,fun j a r e1 e2=>by
 rcases j with _|_|j
 · cases e1;cases e2;exact hx
 · cases e1;cases e2;exact hy
 · simp at e1⟩
theorem ao0 {H:Hp}{x y z:Addr}{p q r:List Int}(hx:H x=some (.lst (p.map V.int)))(hy:H y=some (.lst (q.map V.int)))(hz:H z=some (.lst (r.map V.int))):w9 H [x,y,z] [p,q,r]:=⟨rfl,fun j a r e1 e2=>by
 rcases j with _|_|_|j
 · cases e1;cases e2;exact hx
 · cases e1;cases e2;exact hy
 · cases e1;cases e2;exact hz
 · simp at e1⟩
def bg9:Sp:=fun vs H Q _=>∃(a b:Addr) (p q:List Int),vs=[.ref a,.ref b]/\o4 H a p/\o4 H b q/\p.length=q.length/\p.length<=8/\∀H',c8 H H'->Q (.bl true) H'
theorem T7:o3 ["p","q","handed","told","kept"] ["p","q"] (j8 ae1):=by rfl'
theorem bh0 {f:Addr}{fd:FuncData}(F:A2 K "_law_own" "_law_own" ae1 f fd)(B:Bl mg)(zzx:o7 P w K mg base "powers_of_one" 9 ["p","q"] ag7):l6 P w K mg base B8 10 f fd ["p","q"] bg9:=by
 refine F.ok T7 (fun vs H Q E h=> ?_) (fun cdv A outer s H vs Q E hr h=> ?_)
 · obtain ⟨a,b,p,q,rfl,ta,tb,hl,l8,k⟩:=h;rfl
 · obtain ⟨a,b,p,q,rfl,ta,tb,hl,l8,k⟩:=h;have zxy:o6 9 _:=hr.mono (by decide);have hu:=M1 hr;have hu2:_+1+1 < cLine:=cp0 (cq6 (by decide:2<=64) _) hr.units;refine ⟨_,@c7 _ _ _ _ _ (@k6 _ _ (2) _ _ _ _ T7.nd rfl (Or.inl rfl) (@x6 _ _ _ _ (@c5 _ _ _ _ _ (@C2 _ _ _ _ _ B.list (@c5 _ _ _ _ _ (pv 0) (@c6 _) (by rfl)) (by rfl) (by rfl)) (@c5 _ _ _ _ _ (@C2 _ _ _ _ _ B.list (@c5 _ _ _ _ _ (pv 1) (@c6 _) (by rfl)) (by rfl) (by rfl)) (@c6 _) (by rfl)) (by rfl))) (by rfl) (by trivial)) (@c7 _ _ _ _ _ (@k6 _ _ (3) _ _ _ _ T7.nd rfl (Or.inl rfl) (@j6 _ _ _ _ _ _ _ _ _ _ zzx zxy (@c5 _ _ _ _ _ (@w6 _ _ _ _ _ _ _ t8 (pv 2) (@j7 _ _ _ _) (fun _ _=>rfl)) (@c5 _ _ _ _ _ (@w6 _ _ _ _ _ _ _ t8 (pv 2) (@j7 _ _ _ _) (fun _ _=>rfl)) (@c6 _) (by rfl)) (by rfl)) (by rfl) (by decide) (by rfl) (by rfl)) (by rfl) (by trivial)) (@c7 _ _ _ _ _ (@y8 _ _ _ _ _ _ _ _ (@m9 _ _ _ _ _ _ _ _ bi3 (pv 3) (@L7 _ _ _) (m8 _)) (@i6 _ _ _ (@l0 _ _ _ _ (@G3 _ _ _ _ _ _ _ _ (Y6 1 hu2) (pv 2) (@x6 _ _ _ _ (@c5 _ _ _ _ _ (pv 0) (@c5 _ _ _ _ _ (pv 1) (@c6 _) (by rfl)) (by rfl))) (m8 _)))) (@p5 _)) (@c7 _ _ _ _ _ (@k6 _ _ (4) _ _ _ _ T7.nd rfl (Or.inl rfl) (@U9 _ _ _ _ _ (@c5 _ _ _ _ _ (@C2 _ _ _ _ _ B.list (@c5 _ _ _ _ _ (@w6 _ _ _ _ _ _ _ N5 (pv 3) (@j7 _ _ _ _) (fun _ _=>rfl)) (@c6 _) (by rfl)) (by rfl) (by rfl)) (@c5 _ _ _ _ _ (@w6 _ _ _ _ _ _ _ N5 (pv 3) (@j7 _ _ _ _) (fun _ _=>rfl)) (@c5 _ _ _ _ _ (@w6 _ _ _ _ _ _ _ N5 (pv 3) (@j7 _ _ _ _) (fun _ _=>rfl)) (@c6 _) (by rfl)) (by rfl)) (by rfl))) (by rfl) (by trivial)) (@c7 _ _ _ _ _ (@C0 _ _ _ _ (@M8 _ _ _ _ _ _ _ (@w6 _ _ _ _ _ _ _ N5 (pv 3) (@j7 _ _ _ _) (fun _ _=>rfl)) (@c5 _ _ _ _ _ (@j7 _ _ _ _) (@c6 _) (by rfl)) (by rfl) (by rfl) (by rfl) (by rfl) (by rfl)) (by rfl)) (@i6 _ _ _ (@l0 _ _ _ _ (@au3 _ _ _ _ _ _ _ (@G3 _ _ _ _ _ _ _ _ (Y6 1 hu2) (pv 2) (@x6 _ _ _ _ (@c5 _ _ _ _ _ (pv 0) (@c5 _ _ _ _ _ (pv 1) (@c6 _) (by rfl)) (by rfl))) (m8 _)) (@au2 _ _ _ _ _ (@G3 _ _ _ _ _ _ _ _ (cb1 1 hu2) (@j6 _ _ _ _ _ _ _ _ _ _ zzx zxy (@c5 _ _ _ _ _ (@w6 _ _ _ _ _ _ _ t8 (pv 2) (@j7 _ _ _ _) (fun _ _=>rfl)) (@c5 _ _ _ _ _ (@w6 _ _ _ _ _ _ _ t8 (pv 2) (@j7 _ _ _ _) (fun _ _=>rfl)) (@c6 _) (by rfl)) (by rfl)) (by rfl) (by decide) (by rfl) (by rfl)) (pv 4) (m8 _)))))))))),?_⟩;refine ⟨_,rfl,a,_,rfl,.inl (i7.of ta.1),fun l1 n1=> ?_⟩;have s1:c8 H (e8 H l1 (.lst (p.map V.int))):=c8.upd_new n1;have g1:(e8 H l1 (.lst (p.map V.int))) l1=some (.lst (p.map V.int)):=c9;generalize (e8 H l1 (.lst (p.map V.int)))=H1 at s1 g1 ⊢;refine ⟨_,rfl,b,_,rfl,.inl (i7.of (s1 _ _ tb.1)),fun l2 n2=> ?_⟩;have s2:c8 H1 (e8 H1 l2 (.lst (q.map V.int))):=c8.upd_new n2;have g2:(e8 H1 l2 (.lst (q.map V.int))) l2=some (.lst (q.map V.int)):=c9;generalize (e8 H1 l2 (.lst (q.map V.int)))=H2 at s2 g2 ⊢;refine ⟨(show 2<=sizeLine by decide),fun hd n3=> ?_⟩;have s3:c8 H2 (e8 H2 hd (.lst [V.ref l1,V.ref l2])):=c8.upd_new n3;have g3:(e8 H2 hd (.lst [V.ref l1,V.ref l2])) hd=some (.lst (([l1,l2]:List Addr).map V.ref)):=c9
   generalize (e8 H2 hd (.lst [V.ref l1,V.ref l2]))=H3 at s3 g3 ⊢;have s03:=s1.trans (s2.trans s3);have e1:=s3 _ _ (s2 _ _ g1);have e2:=s3 _ _ g2;have tl1:o4 H3 l1 p:=⟨e1,ta.2⟩;have tl2:o4 H3 l2 q:=⟨e2,tb.2⟩;refine ⟨_,rfl,hd,_,0,_,rfl,rfl,i7.of g3,p7 (j:=0) rfl,_,rfl,hd,_,1,_,rfl,rfl,i7.of g3,p7 (j:=1) rfl,l1,l2,p,q,rfl,tl1,tl2,hl,l8,fun v H4 s4 ov=> ?_⟩;have s04:=s03.trans s4
   have eqs:∀H5,c8 H H5->c8 H3 H5->∀z,H5 z=some (.lst ([V.ref a,V.ref b]))->LEq K H5 1 (([l1,l2]:List Addr).map V.ref) (([a,b]:List Addr).map V.ref) true:=fun H5 sa sb z hz=>by
     have:=ac9 (K:=K) (ab7 (sb _ _ e1) (sb _ _ e2)) (ab7 (sa _ _ ta.1) (sa _ _ tb.1));rw[decide_eq_true rfl] at this;exact this
   rcases ov with ⟨rfl,no⟩|⟨t,r,rr,i,j,hq,x,y,rfl,nt,nr,ht,hr',trr,lrr,bo,hhq,fa,er⟩
   · refine ⟨_,rfl,rfl,_,rfl,C6 ⟨_,rfl,_,rfl,_,rfl,(show 2<=sizeLine by decide),fun z nz=> ?_⟩⟩;have s5:c8 H4 (e8 H4 z (.lst [V.ref a,V.ref b])):=c8.upd_new nz;have g5:(e8 H4 z (.lst [V.ref a,V.ref b])) z=some (.lst (([a,b]:List Addr).map V.ref)):=c9;generalize (e8 H4 z (.lst [V.ref a,V.ref b]))=H5 at s5 g5 ⊢;exact ⟨hd,z,_,_,_,rfl,rfl,i7.of (s5 _ _ (s4 _ _ g3)),i7.of g5,eqs H5 (s04.trans s5) (s4.trans s5) z g5,k H5 (s04.trans s5)⟩
   · refine ⟨_,rfl,rfl,_,rfl,y7 ?_⟩;refine ⟨_,rfl,t,_,0,_,rfl,rfl,D9.of ht,p7 (j:=0) rfl,r,_,rfl,.inl (i7.of hr'),fun rc n5=> ?_⟩;have s5:c8 H4 (e8 H4 rc (.lst (rr.map V.int))):=c8.upd_new n5;have g5:(e8 H4 rc (.lst (rr.map V.int))) rc=some (.lst (rr.map V.int)):=c9;generalize (e8 H4 rc (.lst (rr.map V.int)))=H5 at s5 g5 ⊢;have ht5:=s5 _ _ ht
     have nrc:rc≠r:=fun z=>by rw[z,hr'] at n5;cases n5
     refine ⟨_,rfl,t,_,1,_,rfl,rfl,D9.of ht5,p7 (j:=1) rfl,_,rfl,t,_,2,_,rfl,rfl,D9.of ht5,p7 (j:=2) rfl,(show 3<=sizeLine by decide),fun kp n6=> ?_⟩;have s6:c8 H5 (e8 H5 kp (.tup [V.ref rc,V.int (i:Int),V.int (j:Int)])):=c8.upd_new n6;have g6:(e8 H5 kp (.tup [V.ref rc,V.int (i:Int),V.int (j:Int)])) kp=some (.tup [V.ref rc,V.int (i:Int),V.int (j:Int)]):=c9;generalize (e8 H5 kp (.tup [V.ref rc,V.int (i:Int),V.int (j:Int)]))=H6 at s6 g6 ⊢;have h6r:=s6 _ _ (s5 _ _ hr');have ht6:=s6 _ _ ht5;refine ⟨_,rfl,t,_,0,_,rfl,rfl,D9.of ht6,p7 (j:=0) rfl,.inl ⟨rfl,_,i7.of h6r⟩,r,_,_,rfl,rfl,h6r,q9 (by rw[ck5];omega),?_⟩;have nH3:H3 r=none:=nr;have kb7:k7 r H6 (e8 H6 r (.lst (rr.map V.int++[V.int 9]))):=k7.upd;generalize (e8 H6 r (.lst (rr.map V.int++[V.int 9])))=H7 at kb7 ⊢;have s37:c8 H3 H7:=(s4.trans (s5.trans s6)).kb kb7 nH3;have s07:=s03.trans s37;have h7k:=kb7 _ _ g6 (fun z=>by rw[z] at g6;rw[h6r] at g6;cases g6);have h7c:=kb7 _ _ (s6 _ _ g5) nrc;refine ⟨_,rfl,_,rfl,_,rfl,(show 2<=sizeLine by decide),fun z nz=> ?_⟩;have s8:c8 H7 (e8 H7 z (.lst [V.ref a,V.ref b])):=c8.upd_new nz;have g8:(e8 H7 z (.lst [V.ref a,V.ref b])) z=some (.lst (([a,b]:List Addr).map V.ref)):=c9;generalize (e8 H7 z (.lst [V.ref a,V.ref b]))=H8 at s8 g8 ⊢;have s38:=s37.trans s8;refine ⟨hd,z,_,_,_,rfl,rfl,i7.of (s38 _ _ g3),i7.of g8,eqs H8 (s07.trans s8) s38 z g8,_,rfl,C6 ?_⟩;refine ⟨_,rfl,hd,_,0,_,rfl,rfl,i7.of (s38 _ _ g3),p7 (j:=0) rfl,_,rfl,hd,_,1,_,rfl,rfl,i7.of (s38 _ _ g3),p7 (j:=1) rfl,l1,l2,p,q,rfl,l7 tl1 s38,l7 tl2 s38,hl,l8,fun v9 H9 s9 ov9=> ?_⟩
     rcases ov9 with ⟨rfl,no⟩|⟨t9,r9,rr9,i9,j9,hq9,x9,y9,rfl,nt9,nr9,ht9,hr9,trr9,lrr9,bo9,hhq9,fa9,er9⟩
     · exact absurd ⟨rr,trr,lrr,bo.gd trr⟩ no
     · have:=hhq.uniq hhq9;subst this;obtain ⟨ex,ey⟩:=fa.uniq fa9;subst ex;subst ey;rw[<-er] at er9;subst er9;obtain ⟨ei,ej⟩:=bo.uniq trr bo9;subst ei;subst ej;have h9c:=s9 _ _ (s8 _ _ h7c);refine ⟨_,rfl,t9,kp,_,_,true,rfl,rfl,D9.of ht9,D9.of (s9 _ _ (s8 _ _ h7k)),?_,k H9 (s07.trans (s8.trans s9))⟩
       have fl:∀m:Nat,N7 K H9 1 (.int (m:Int)) (.int (m:Int)) true:=fun m=>by
         have:=N7.flat (K:=K) (H:=H9) (n:=1) (x:= .int (m:Int)) (y:= .int (m:Int)) rfl rfl;rw[show eqV (.int (m:Int)) (.int (m:Int))=true from decide_eq_true rfl] at this;exact this
       refine ⟨fun _=>true,fun m x y ex ey=> ?_,rfl⟩
       rcases m with _|_|_|m
       · cases ex;cases ey;have:=aw9 (K:=K) hr9 h9c;rw[decide_eq_true rfl] at this;exact this
       · cases ex;cases ey;exact fl _
       · cases ex;cases ey;exact fl _
       · simp at ex
theorem Z7 (K:PySem.W.Frag)(H:Hp)(n:Nat):∀bs cs:List Bool,LEq K H n (bs.map V.bl) (cs.map V.bl) (decide (bs=cs)):=fun bs cs=>by
 by_cases hl:bs.length=cs.length
 · refine .inr ⟨fun j=>decide (bs[j]? =cs[j]?),by simpa using hl,fun j x y hx hy=> ?_,?_⟩
   · rw[cl0] at hx hy;obtain ⟨b,hb,rfl⟩:=cr6.mp hx;obtain ⟨c,hc,rfl⟩:=cr6.mp hy;have:=N7.flat (K:=K) (H:=H) (n:=n) (x:= .bl b) (y:= .bl c) rfl rfl;rw[show eqV (.bl b) (.bl c)=decide (bs[j]? =cs[j]?) by rw[hb,hc];cases b<;>cases c<;>rfl] at this;exact this
   · rw[cq4,decide_eq_true_iff,cr3];constructor
     · rintro rfl x _;exact decide_eq_true rfl
     · intro h
       refine cp5 fun j=> ?_
       rcases cu4 j bs.length with z|z
       · exact of_decide_eq_true (h j (co2.mpr (by simpa using z)))
       · rw[cl5 z,cl5 (by omega)]
 · exact .inl ⟨by simpa using hl,decide_eq_false fun e=>hl (by rw[e])⟩
def bh1:Sp:=fun vs H Q _=>∃(g:Addr) (c:Nat),vs=[.ref g]/\A9 H g c/\c<=700000/\∀H',A9 H' g (c+400)->k7 g H H'->Q (.bl true) H'
theorem E6:o3 ["pool","far","other","less","kept"] ["pool"] (j8 O2):=by rfl'
theorem aj4 {f:Addr}{fd:FuncData}(F:A2 K "_law_far_right" "_law_far_right" O2 f fd)(B:Bl mg)(zwz:o7 P w K mg base "_law_turn" 2 ["pool","many"] am8)(zy:o7 P w K mg base "_law_draw" 1 ["pool","many"] Z1)(zvx:o7 P w K mg base "_law_which" 10 ["p","q"] aq1)(zu:o7 P w K mg base "_law_behind" 1 ["p","q"] G0):l6 P w K mg base B8 11 f fd ["pool"] bh1:=by
 refine F.ok E6 (fun vs H Q E h=> ?_) (fun cdv A outer s H vs Q E hr h=> ?_)
 · obtain ⟨g,c,rfl,P0,hc,k⟩:=h;rfl
 · obtain ⟨g,c,rfl,P0,hc,k⟩:=h;have zvz:o6 2 _:=hr.mono (by decide);have zxx:o6 1 _:=hr.mono (by decide);have ztz:o6 10 _:=hr.mono (by decide);have zsy:o6 1 _:=hr.mono (by decide);have hu:=M1 hr;have hu2:_+1+1 < cLine:=cp0 (cq6 (by decide:2<=64) _) hr.units;refine ⟨_,@c7 _ _ _ _ _ (@k6 _ _ (1) _ _ _ _ E6.nd rfl (Or.inl rfl) (@j6 _ _ _ _ _ _ _ _ _ _ zwz zvz (@c5 _ _ _ _ _ (pv 0) (@c5 _ _ _ _ _ (@r0 _ _ _ _ _ _ _ _ J4 (@j7 _ _ _ _) (@j6 _ _ _ _ _ _ _ _ _ _ zy zxx (@c5 _ _ _ _ _ (pv 0) (@c5 _ _ _ _ _ (@j7 _ _ _ _) (@c6 _) (by rfl)) (by rfl)) (by rfl) (by decide) (by rfl) (by rfl))) (@c6 _) (by rfl)) (by rfl)) (by rfl) (by decide) (by rfl) (by rfl)) (by rfl) (by trivial)) (@c7 _ _ _ _ _ (@k6 _ _ (2) _ _ _ _ E6.nd rfl (Or.inl rfl) (@j6 _ _ _ _ _ _ _ _ _ _ zwz zvz (@c5 _ _ _ _ _ (pv 0) (@c5 _ _ _ _ _ (@p8 _ _ _ _ _ B.len (@c5 _ _ _ _ _ (pv 1) (@c6 _) (by rfl)) (by rfl) (by rfl)) (@c6 _) (by rfl)) (by rfl)) (by rfl) (by decide) (by rfl) (by rfl)) (by rfl) (by trivial)) (@c7 _ _ _ _ _ (@y8 _ _ _ _ _ _ _ _ (@D5 _ _ _ _ _ _ _ (@m9 _ _ _ _ _ _ _ _ (N8 0 hu) (@j6 _ _ _ _ _ _ _ _ _ _ zvx ztz (@c5 _ _ _ _ _ (pv 1) (@c5 _ _ _ _ _ (pv 2) (@c6 _) (by rfl)) (by rfl)) (by rfl) (by decide) (by rfl) (by rfl)) (@x6 _ _ _ _ (@c5 _ _ _ _ _ (@t6 _ _ _ _) (@c5 _ _ _ _ _ (@t6 _ _ _ _) (@c6 _) (by rfl)) (by rfl))) (m8 _)) (@J3 _ _ _ _ (@m9 _ _ _ _ _ _ _ _ (N8 0 hu) (@j6 _ _ _ _ _ _ _ _ _ _ zvx ztz (@c5 _ _ _ _ _ (pv 1) (@c5 _ _ _ _ _ (@j6 _ _ _ _ _ _ _ _ _ _ zu zsy (@c5 _ _ _ _ _ (pv 1) (@c5 _ _ _ _ _ (pv 1) (@c6 _) (by rfl)) (by rfl)) (by rfl) (by decide) (by rfl) (by rfl)) (@c6 _) (by rfl)) (by rfl)) (by rfl) (by decide) (by rfl) (by rfl)) (@x6 _ _ _ _ (@c5 _ _ _ _ _ (@t6 _ _ _ _) (@c5 _ _ _ _ _ (@t6 _ _ _ _) (@c6 _) (by rfl)) (by rfl))) (m8 _)))).pt (@i6 _ _ _ (@l0 _ _ _ _ (@t6 _ _ _ _))) (@p5 _)) (@c7 _ _ _ _ _ (@k6 _ _ (3) _ _ _ _ E6.nd rfl (Or.inl rfl) (@j6 _ _ _ _ _ _ _ _ _ _ zwz zvz (@c5 _ _ _ _ _ (pv 0) (@c5 _ _ _ _ _ (@j6 _ _ _ _ _ _ _ _ _ _ zy zxx (@c5 _ _ _ _ _ (pv 0) (@c5 _ _ _ _ _ (@p8 _ _ _ _ _ B.len (@c5 _ _ _ _ _ (pv 1) (@c6 _) (by rfl)) (by rfl) (by rfl)) (@c6 _) (by rfl)) (by rfl)) (by rfl) (by decide) (by rfl) (by rfl)) (@c6 _) (by rfl)) (by rfl)) (by rfl) (by decide) (by rfl) (by rfl)) (by rfl) (by trivial)) (@c7 _ _ _ _ _ (@k6 _ _ (4) _ _ _ _ E6.nd rfl (Or.inl rfl) (@x6 _ _ _ _ (@c5 _ _ _ _ _ (@C2 _ _ _ _ _ B.list (@c5 _ _ _ _ _ (pv 1) (@c6 _) (by rfl)) (by rfl) (by rfl)) (@c5 _ _ _ _ _ (@C2 _ _ _ _ _ B.list (@c5 _ _ _ _ _ (pv 2) (@c6 _) (by rfl)) (by rfl) (by rfl)) (@c5 _ _ _ _ _ (@C2 _ _ _ _ _ B.list (@c5 _ _ _ _ _ (pv 3) (@c6 _) (by rfl)) (by rfl) (by rfl)) (@c6 _) (by rfl)) (by rfl)) (by rfl))) (by rfl) (by trivial)) (@c7 _ _ _ _ _ (@y8 _ _ _ _ _ _ _ _ (@D5 _ _ _ _ _ _ _ (@m9 _ _ _ _ _ _ _ _ (N8 0 hu) (@j6 _ _ _ _ _ _ _ _ _ _ zvx ztz (@c5 _ _ _ _ _ (pv 1) (@c5 _ _ _ _ _ (pv 3) (@c6 _) (by rfl)) (by rfl)) (by rfl) (by decide) (by rfl) (by rfl)) (@x6 _ _ _ _ (@c5 _ _ _ _ _ (@t6 _ _ _ _) (@c5 _ _ _ _ _ (@t6 _ _ _ _) (@c6 _) (by rfl)) (by rfl))) (m8 _)) (@J3 _ _ _ _ (@m9 _ _ _ _ _ _ _ _ (N8 0 hu) (@j6 _ _ _ _ _ _ _ _ _ _ zvx ztz (@c5 _ _ _ _ _ (pv 3) (@c5 _ _ _ _ _ (pv 1) (@c6 _) (by rfl)) (by rfl)) (by rfl) (by decide) (by rfl) (by rfl)) (@x6 _ _ _ _ (@c5 _ _ _ _ _ (@t6 _ _ _ _) (@c5 _ _ _ _ _ (@t6 _ _ _ _) (@c6 _) (by rfl)) (by rfl))) (m8 _)))).pt (@i6 _ _ _ (@l0 _ _ _ _ (@t6 _ _ _ _))) (@p5 _)) (@i6 _ _ _ (@l0 _ _ _ _ (@au3 _ _ _ _ _ _ _ (@G3 _ _ _ _ _ _ _ _ (Y6 0 hu) (@j6 _ _ _ _ _ _ _ _ _ _ zvx ztz (@c5 _ _ _ _ _ (pv 1) (@c5 _ _ _ _ _ (pv 2) (@c6 _) (by rfl)) (by rfl)) (by rfl) (by decide) (by rfl) (by rfl)) (@x6 _ _ _ _ (@c5 _ _ _ _ _ (@t6 _ _ _ _) (@c5 _ _ _ _ _ (@t6 _ _ _ _) (@c6 _) (by rfl)) (by rfl))) (m8 _)) (@au2 _ _ _ _ _ (@G3 _ _ _ _ _ _ _ _ (Y6 1 hu2) (@x6 _ _ _ _ (@c5 _ _ _ _ _ (pv 1) (@c5 _ _ _ _ _ (pv 2) (@c5 _ _ _ _ _ (pv 3) (@c6 _) (by rfl)) (by rfl)) (by rfl))) (pv 4) (m8 _))))))))))),?_⟩
   refine ⟨_,rfl,_,rfl,g,c,32,rfl,P0,by omega,by decide,by decide,fun r1 H1 a0 a1 P1 kb1=>⟨_,_,rfl,rfl,g,_,9+r1,rfl,P1,by omega,by omega,by omega,fun fa f H2 nfa tf lf h2 P2 kb2=> ?_⟩⟩;have nfg:fa≠g:=C1 P1 nfa
   have f9:9<=f.length:=by omega
   have f40:f.length<=40:=by omega
   refine ⟨_,rfl,_,rfl,fa,_,rfl,.inl (i7.of h2),g,_,(f.length:Int),congrArg (fun n:Nat=>[V.ref g,V.int (n:Int)]) (ck5 ..),P2,by omega,by omega,by omega,fun oa o H3 noa to lo h3 P3 kb3=> ?_⟩;have nog:oa≠g:=C1 P2 noa
   have lo:o.length=f.length:=by omega
   have h3f:=kb3 _ _ h2 nfg;have tF:o4 H3 fa f:=⟨h3f,tf,f40⟩;have tO:o4 H3 oa o:=⟨h3,to,by omega⟩;have kb03:k7 g H H3:=(kb1.trans kb2).trans kb3;refine ⟨_,rfl,_,rfl,fa,oa,f,o,true,rfl,tF,tO,.inr ⟨lo.symm,by omega,rfl⟩,fun w1 H4 n4 s4 h4=>⟨(show 2<=sizeLine by decide),fun d1 n5=> ?_⟩⟩;have s5:c8 H4 (e8 H4 d1 (.lst [V.bl false,V.bl true])):=c8.upd_new n5;have g5:(e8 H4 d1 (.lst [V.bl false,V.bl true])) d1=some (.lst (([false,true]:List Bool).map V.bl)):=c9;generalize (e8 H4 d1 (.lst [V.bl false,V.bl true]))=H5 at s5 g5 ⊢;refine ⟨w1,d1,_,_,_,rfl,rfl,i7.of (s5 _ _ h4),i7.of g5,Z7 K H5 0 _ _,_,rfl,y7 ?_⟩;have s35:=s4.trans s5;have tF5:=l7 tF s35;refine ⟨_,rfl,_,rfl,_,rfl,fa,fa,f,f,rfl,tF5,tF5,rfl,fun bb H6 n6 s6 h6=> ?_⟩;have tF6:=l7 tF5 s6;refine ⟨fa,bb,f,C9 f f,true,rfl,tF6,⟨h6,aw1 tf tf rfl,by rw[L8];exact f40⟩,.inr ⟨(L8 f f).symm,by omega,rfl⟩,fun w2 H7 n7 s7 h7=>⟨(show 2<=sizeLine by decide),fun d2 n8=> ?_⟩⟩;have s8:c8 H7 (e8 H7 d2 (.lst [V.bl false,V.bl true])):=c8.upd_new n8;have g8:(e8 H7 d2 (.lst [V.bl false,V.bl true])) d2=some (.lst (([false,true]:List Bool).map V.bl)):=c9;generalize (e8 H7 d2 (.lst [V.bl false,V.bl true]))=H8 at s8 g8 ⊢;refine ⟨w2,d2,_,_,_,rfl,rfl,i7.of (s8 _ _ h7),i7.of g8,Z7 K H8 0 _ _,_,rfl,y7 ?_⟩;have s38:=s35.trans (s6.trans (s7.trans s8));have P8:=y6 P3 s38;have tF8:=l7 tF s38;have tO8:=l7 tO s38;refine ⟨_,rfl,_,rfl,_,rfl,fa,_,rfl,.inl (i7.of tF8.1),g,_,(f.length:Int),congrArg (fun n:Nat=>[V.ref g,V.int (n:Int)]) (ck5 ..),P8,by omega,by omega,by omega,fun r2 H9 b0 b1 P9 kb9=>⟨g,_,r2,rfl,P9,by omega,by omega,by omega,fun la e H10 nla te le h10 P10 kb10=> ?_⟩⟩;have nlg:la≠g:=C1 P9 nla
   have le':e.length < f.length:=by omega
   have k810:=kb9.trans kb10;have tF10:=bd8 tF8 k810 nfg;have tO10:=bd8 tO8 k810 nog;have tL10:o4 H10 la e:=⟨h10,te,by omega⟩;refine ⟨_,rfl,fa,_,rfl,.inl (i7.of tF10.1),fun c1 m1=> ?_⟩;have u1:c8 H10 (e8 H10 c1 (.lst (f.map V.int))):=c8.upd_new m1;have v1:(e8 H10 c1 (.lst (f.map V.int))) c1=some (.lst (f.map V.int)):=c9;generalize (e8 H10 c1 (.lst (f.map V.int)))=H11 at u1 v1 ⊢;refine ⟨_,rfl,oa,_,rfl,.inl (i7.of (u1 _ _ tO10.1)),fun c2 m2=> ?_⟩;have u2:c8 H11 (e8 H11 c2 (.lst (o.map V.int))):=c8.upd_new m2;have v2:(e8 H11 c2 (.lst (o.map V.int))) c2=some (.lst (o.map V.int)):=c9;generalize (e8 H11 c2 (.lst (o.map V.int)))=H12 at u2 v2 ⊢;refine ⟨_,rfl,la,_,rfl,.inl (i7.of (u2 _ _ (u1 _ _ h10))),fun c3 m3=> ?_⟩;have u3:c8 H12 (e8 H12 c3 (.lst (e.map V.int))):=c8.upd_new m3;have v3:(e8 H12 c3 (.lst (e.map V.int))) c3=some (.lst (e.map V.int)):=c9;generalize (e8 H12 c3 (.lst (e.map V.int)))=H13 at u3 v3 ⊢;refine ⟨(show 3<=sizeLine by decide),fun kp m4=> ?_⟩;have u4:c8 H13 (e8 H13 kp (.lst [V.ref c1,V.ref c2,V.ref c3])):=c8.upd_new m4;have v4:(e8 H13 kp (.lst [V.ref c1,V.ref c2,V.ref c3])) kp=some (.lst (([c1,c2,c3]:List Addr).map V.ref)):=c9;generalize (e8 H13 kp (.lst [V.ref c1,V.ref c2,V.ref c3]))=H14 at u4 v4 ⊢;have u:=u1.trans (u2.trans (u3.trans u4));have w1':=u4 _ _ (u3 _ _ (u2 _ _ v1));have w2':=u4 _ _ (u3 _ _ v2);have w3':=u4 _ _ v3;have tF14:=l7 tF10 u;have tO14:=l7 tO10 u;have tL14:=l7 tL10 u;refine ⟨_,rfl,_,rfl,fa,la,f,e,false,rfl,tF14,tL14,.inl ⟨by omega,rfl⟩,fun w3 H15 n15 s15 h15=>⟨(show 2<=sizeLine by decide),fun d3 n16=> ?_⟩⟩;have s16:c8 H15 (e8 H15 d3 (.lst [V.bl true,V.bl false])):=c8.upd_new n16;have g16:(e8 H15 d3 (.lst [V.bl true,V.bl false])) d3=some (.lst (([true,false]:List Bool).map V.bl)):=c9;generalize (e8 H15 d3 (.lst [V.bl true,V.bl false]))=H16 at s16 g16 ⊢;refine ⟨w3,d3,_,_,_,rfl,rfl,i7.of (s16 _ _ h15),i7.of g16,Z7 K H16 0 _ _,_,rfl,y7 ?_⟩;have s1416:=s15.trans s16;refine ⟨_,rfl,_,rfl,la,fa,e,f,false,rfl,l7 tL14 s1416,l7 tF14 s1416,.inl ⟨by omega,rfl⟩,fun w4 H17 n17 s17 h17=>⟨(show 2<=sizeLine by decide),fun d4 n18=> ?_⟩⟩;have s18:c8 H17 (e8 H17 d4 (.lst [V.bl true,V.bl false])):=c8.upd_new n18;have g18:(e8 H17 d4 (.lst [V.bl true,V.bl false])) d4=some (.lst (([true,false]:List Bool).map V.bl)):=c9;generalize (e8 H17 d4 (.lst [V.bl true,V.bl false]))=H18 at s18 g18 ⊢;refine ⟨w4,d4,_,_,_,rfl,rfl,i7.of (s18 _ _ h17),i7.of g18,Z7 K H18 0 _ _,_,rfl,y7 ?_⟩;have s1418:=s1416.trans (s17.trans s18);refine ⟨_,rfl,_,rfl,fa,oa,f,o,true,rfl,l7 tF14 s1418,l7 tO14 s1418,.inr ⟨lo.symm,by omega,rfl⟩,fun w5 H19 n19 s19 h19=>⟨(show 2<=sizeLine by decide),fun d5 n20=> ?_⟩⟩;have s20:c8 H19 (e8 H19 d5 (.lst [V.bl false,V.bl true])):=c8.upd_new n20;have g20:(e8 H19 d5 (.lst [V.bl false,V.bl true])) d5=some (.lst (([false,true]:List Bool).map V.bl)):=c9;generalize (e8 H19 d5 (.lst [V.bl false,V.bl true]))=H20 at s20 g20 ⊢;refine ⟨w5,d5,_,_,_,rfl,rfl,i7.of (s20 _ _ h19),i7.of g20,Z7 K H20 0 _ _,_,rfl,C6 ?_⟩;have s1420:=s1418.trans (s19.trans s20)
   refine ⟨_,rfl,_,rfl,_,rfl,(show 3<=sizeLine by decide),fun z n21=> ?_⟩;have s21:c8 H20 (e8 H20 z (.lst [V.ref fa,V.ref oa,V.ref la])):=c8.upd_new n21;have g21:(e8 H20 z (.lst [V.ref fa,V.ref oa,V.ref la])) z=some (.lst (([fa,oa,la]:List Addr).map V.ref)):=c9;generalize (e8 H20 z (.lst [V.ref fa,V.ref oa,V.ref la]))=H21 at s21 g21 ⊢;have s1421:=s1420.trans s21;have R:=ac9 (K:=K) (ao0 (s1421 _ _ tF14.1) (s1421 _ _ tO14.1) (s1421 _ _ tL14.1)) (ao0 (s1421 _ _ w1') (s1421 _ _ w2') (s1421 _ _ w3'));rw[decide_eq_true rfl] at R;refine ⟨_,rfl,z,kp,_,_,_,rfl,rfl,i7.of g21,i7.of (s1421 _ _ v4),R,?_⟩;exact k H21 ((y6 P10 (u.trans s1421)).mono (by omega)) (kb03.trans ((s38.but g).trans (k810.trans ((u.trans s1421).but g))))
theorem bn9 {R:St->Hp->Prop}{σ:St}{H:Hp}{A B:Prop}{b:Bool}(G:St->Hp->Prop)(rest:∀σ' H',G σ' H'->R σ' H')(hb:G σ H)(ha:b=true->(∀σ' H',G σ' H'->R σ' H')->A):if b=true then A else if false=true then B else R σ H:=by
 cases b with
 |true=>exact ha rfl rest
 |false=>exact rest σ H hb
theorem by2 {b:Bool}{A B C:Prop}(h2:C->B)(h1:b=true->C->A)(c:C):if b=true then A else B:=by
 cases b with
 |true=>exact h1 rfl c
 |false=>exact h2 c
theorem bs1.iff {H H':Hp}{p q:List Int}{v:V}(o:bs1 H H' p q v):v= .non↔¬One p q:=by
 rcases o with ⟨rfl,no⟩|⟨t,r,rr,i,j,hq,x,y,rfl,_,_,_,_,trr,lrr,bo,_⟩
 · exact ⟨fun _=>no,fun _=>rfl⟩
 · exact ⟨(fun z=>by cases z),fun no=>absurd ⟨rr,trr,lrr,bo.gd trr⟩ no⟩
theorem by3 {p q:List Int}{n:Nat}(lp:p.length=n):One p q↔∃r∈Y0 n,Gd p q r:=by
 constructor
 · rintro ⟨r,tr,lr,g⟩;exact ⟨r,(M5 n r).mpr ⟨tr,by omega⟩,g⟩
 · rintro ⟨r,hr,g⟩;obtain ⟨tr,lr⟩:=(M5 n r).mp hr;exact ⟨r,tr,by omega,g⟩
def at9 (K:PySem.W.Frag):Sp:=fun vs H Q _=>∃(a:Addr) (ns:List Int),vs=[.ref a]/\i7 K H a (ns.map V.int)/\ns.length<=63/\∀H',Q (.bl true) H'
theorem E9:o3 ["script","k","pool","many","p","q","sure","handed","told","there"] ["script"] (j8 ag1):=by rfl'
theorem az2:(["r","p","q"]:List Str).Nodup:=by decide+kernel
theorem cd0 {f:Addr}{fd:FuncData}(F:A2 K "law" "law" ag1 f fd)(B:Bl mg)(zpz:o7 P w K mg base "_law_pool" 1 ["script","k"] (ax5 K))(zy:o7 P w K mg base "_law_draw" 1 ["pool","many"] Z1)(zrz:o7 P w K mg base "_law_pair" 3 ["pool","many"] az1)(zzx:o7 P w K mg base "powers_of_one" 9 ["p","q"] ag7)(zox:o7 P w K mg base "_law_all" 2 ["many"] bg7)(zxz:o7 P w K mg base "_law_powers" 2 ["r"] Z6)(zry:o7 P w K mg base "_law_good" 3 ["p","q","told"] ay9)(znz:o7 P w K mg base "_law_own" 10 ["p","q"] bg9)(zsz:o7 P w K mg base "_law_far_right" 11 ["pool"] bh1):l6 P w K mg base B8 12 f fd ["script"] (at9 K):=by
 refine F.ok E9 (fun vs H Q E h=> ?_) (fun cdv A outer s H vs Q E hr h=> ?_)
 · obtain ⟨a,ns,rfl,ha,hl,k⟩:=h;rfl
 · obtain ⟨a,ns,rfl,ha,hl,k⟩:=h;have zkx:o6 1 _:=hr.mono (by decide);have zxx:o6 1 _:=hr.mono (by decide);have znx:o6 3 _:=hr.mono (by decide);have zxy:o6 9 _:=hr.mono (by decide);have hr_law_all:o6 2 _:=hr.mono (by decide);have zvy:o6 2 _:=hr.mono (by decide);have zm:o6 3 _:=hr.mono (by decide);have hr_law_own:o6 10 _:=hr.mono (by decide);have zmy:o6 11 _:=hr.mono (by decide);have hu:=M1 hr;have hu2:_+1+1 < cLine:=cp0 (cq6 (by decide:2<=64) _) hr.units;refine ⟨_,@c7 _ _ _ _ _ (@E2 _ _ _ _ _ _ _ _ PassesOwn.never rfl (@R3 _ _ _ _ _ _ (by rfl) B.range (@c5 _ _ _ _ _ (@bu6 _ _ _ _ _ _ rfl B.max (@c5 _ _ _ _ _ (@j7 _ _ _ _) (@c5 _ _ _ _ _ (@bu5 _ _ _ _ _ _ rfl B.min (@c5 _ _ _ _ _ (@j7 _ _ _ _) (@c5 _ _ _ _ _ (@p8 _ _ _ _ _ B.len (@c5 _ _ _ _ _ (pv 0) (@c6 _) (by rfl)) (by rfl) (by rfl)) (@c6 _) (by rfl)) (by rfl)) (by rfl) (by rfl) (by rfl)) (@c6 _) (by rfl)) (by rfl)) (by rfl) (by rfl) (by rfl)) (@c6 _) (by rfl)) (by rfl)) (@o9 _ _ (1) _ E9.nd rfl (Or.inl rfl) (by trivial)) (@c7 _ _ _ _ _ (@k6 _ _ (2) _ _ _ _ E9.nd rfl (Or.inl rfl) (@j6 _ _ _ _ _ _ _ _ _ _ zpz zkx (@c5 _ _ _ _ _ (pv 0) (@c5 _ _ _ _ _ (pv 1) (@c6 _) (by rfl)) (by rfl)) (by rfl) (by decide) (by rfl) (by rfl)) (by rfl) (by trivial)) (@c7 _ _ _ _ _ (@k6 _ _ (3) _ _ _ _ E9.nd rfl (Or.inl rfl) (@w6 _ _ _ _ _ _ _ t8 (@x6 _ _ _ _ (@c5 _ _ _ _ _ (@j6 _ _ _ _ _ _ _ _ _ _ zy zxx (@c5 _ _ _ _ _ (pv 2) (@c5 _ _ _ _ _ (@j7 _ _ _ _) (@c6 _) (by rfl)) (by rfl)) (by rfl) (by decide) (by rfl) (by rfl)) (@c5 _ _ _ _ _ (@j7 _ _ _ _) (@c6 _) (by rfl)) (by rfl))) (@bc3 _ _ _ _ _ B.int (@c5 _ _ _ _ _ (@G3 _ _ _ _ _ _ _ _ aj7 (@j6 _ _ _ _ _ _ _ _ _ _ zy zxx (@c5 _ _ _ _ _ (pv 2) (@c5 _ _ _ _ _ (@j7 _ _ _ _) (@c6 _) (by rfl)) (by rfl)) (by rfl) (by decide) (by rfl) (by rfl)) (@j7 _ _ _ _) (m8 _)) (@c6 _) (by rfl)) (by rfl) (by rfl)) (fun _ _=>rfl)) (by rfl) (by trivial)) (@c7 _ _ _ _ _ (@Y5 _ _ _ _ _ _ (@j6 _ _ _ _ _ _ _ _ _ _ zrz znx (@c5 _ _ _ _ _ (pv 2) (@c5 _ _ _ _ _ (pv 3) (@c6 _) (by rfl)) (by rfl)) (by rfl) (by decide) (by rfl) (by rfl)) (@ac1 _ _ _ _ _ _ rfl (@D3 _ _ _ _ _ (@o9 _ _ (4) _ E9.nd rfl (Or.inr rfl) (by trivial)) (@D3 _ _ _ _ _ (@o9 _ _ (5) _ E9.nd rfl (Or.inr rfl) (by trivial)) (@D3 _ _ _ _ _ (@o9 _ _ (6) _ E9.nd rfl (Or.inl rfl) (by trivial)) (@Y4 _) (by rfl)) (by rfl)) (by rfl)) (by rfl) (by rfl)) (by rfl) (by rfl) (by rfl)) (@c7 _ _ _ _ _ (@k6 _ _ (7) _ _ _ _ E9.nd rfl (Or.inl rfl) (@x6 _ _ _ _ (@c5 _ _ _ _ _ (@C2 _ _ _ _ _ B.list (@c5 _ _ _ _ _ (pv 4) (@c6 _) (by rfl)) (by rfl) (by rfl)) (@c5 _ _ _ _ _ (@C2 _ _ _ _ _ B.list (@c5 _ _ _ _ _ (pv 5) (@c6 _) (by rfl)) (by rfl) (by rfl)) (@c6 _) (by rfl)) (by rfl))) (by rfl) (by trivial)) (@c7 _ _ _ _ _ (@k6 _ _ (8) _ _ _ _ E9.nd rfl (Or.inl rfl) (@j6 _ _ _ _ _ _ _ _ _ _ zzx zxy (@c5 _ _ _ _ _ (@w6 _ _ _ _ _ _ _ t8 (pv 7) (@j7 _ _ _ _) (fun _ _=>rfl)) (@c5 _ _ _ _ _ (@w6 _ _ _ _ _ _ _ t8 (pv 7) (@j7 _ _ _ _) (fun _ _=>rfl)) (@c6 _) (by rfl)) (by rfl)) (by rfl) (by decide) (by rfl) (by rfl)) (by rfl) (by trivial)) (@c7 _ _ _ _ _ (@k6 _ _ (9) _ _ _ _ E9.nd rfl (Or.inl rfl) (@G3 _ _ _ _ _ _ _ _ (N8 1 hu2) (@U0 _ _ _ _ _ _ _ _ _ _ _ (["r","p","q"]) (1) ([4,5]) rfl .of (@D1 _ _ _ _ (@j6 _ _ _ _ _ _ _ _ _ _ zox hr_law_all (@c5 _ _ _ _ _ (pv 3) (@c6 _) (by rfl)) (by rfl) (by decide) (by rfl) (by rfl))) (fun _ _ _ _ _=>@o9 _ _ (0) _ az2 rfl (Or.inl rfl) (by trivial)) (fun _ _ _ _ _=>@bp6 _ _ _ (@aj5 _ _ _ _ _ _ _ (@m9 _ _ _ _ _ _ _ _ (bd7 K hu2) (pv 1) (@j6 _ _ _ _ _ _ _ _ _ _ zxz zvy (@c5 _ _ _ _ _ (pv 0) (@c6 _) (by rfl)) (by rfl) (by decide) (by rfl) (by rfl)) (by with_unfolding_all rfl)) (@af1 _ _ _ _ (@m9 _ _ _ _ _ _ _ _ (bd7 K hu2) (pv 2) (@j6 _ _ _ _ _ _ _ _ _ _ zxz zvy (@c5 _ _ _ _ _ (pv 0) (@c6 _) (by rfl)) (by rfl) (by decide) (by rfl) (by rfl)) (by with_unfolding_all rfl)))).pt) (fun _ _ _ _ _=>(pv 0)) (by intro _;rfl)) (@x6 _ _ _ _ (@c6 _)) (m8 _)) (by rfl) (by trivial)) (@c7 _ _ _ _ _ (@y8 _ _ _ _ _ _ _ _ (@D5 _ _ _ _ _ _ _ (@m9 _ _ _ _ _ _ _ _ (N8 1 hu2) (pv 7) (@x6 _ _ _ _ (@c5 _ _ _ _ _ (pv 4) (@c5 _ _ _ _ _ (pv 5) (@c6 _) (by rfl)) (by rfl))) (m8 _)) (@D5 _ _ _ _ _ _ _ (@m9 _ _ _ _ _ _ _ _ Z9 (@G3 _ _ _ _ _ _ _ _ af2 (pv 8) (@L7 _ _ _) (m8 _)) (pv 9) (m8 _)) (@J3 _ _ _ _ (@aj5 _ _ _ _ _ _ _ (@m9 _ _ _ _ _ _ _ _ af2 (pv 8) (@L7 _ _ _) (m8 _)) (@af1 _ _ _ _ (@E8 _ _ _ _ (@D8 _ _ _ (@j6 _ _ _ _ _ _ _ _ _ _ zry zm (@c5 _ _ _ _ _ (pv 4) (@c5 _ _ _ _ _ (pv 5) (@c5 _ _ _ _ _ (pv 8) (@c6 _) (by rfl)) (by rfl)) (by rfl)) (by rfl) (by decide) (by rfl) (by rfl)) (by intro _;rfl))))).pt))).pt (@i6 _ _ _ (@l0 _ _ _ _ (@t6 _ _ _ _))) (@p5 _)) (@c7 _ _ _ _ _ (@Y5 _ _ _ _ _ _ (@j6 _ _ _ _ _ _ _ _ _ _ zrz znx (@c5 _ _ _ _ _ (pv 2) (@c5 _ _ _ _ _ (@j6 _ _ _ _ _ _ _ _ _ _ zy zxx (@c5 _ _ _ _ _ (pv 2) (@c5 _ _ _ _ _ (@j7 _ _ _ _) (@c6 _) (by rfl)) (by rfl)) (by rfl) (by decide) (by rfl) (by rfl)) (@c6 _) (by rfl)) (by rfl)) (by rfl) (by decide) (by rfl) (by rfl)) (@ac1 _ _ _ _ _ _ rfl (@D3 _ _ _ _ _ (@o9 _ _ (4) _ E9.nd rfl (Or.inr rfl) (by trivial)) (@D3 _ _ _ _ _ (@o9 _ _ (5) _ E9.nd rfl (Or.inr rfl) (by trivial)) (@D3 _ _ _ _ _ (@o9 _ _ (6) _ E9.nd rfl (Or.inl rfl) (by trivial)) (@Y4 _) (by rfl)) (by rfl)) (by rfl)) (by rfl) (by rfl)) (by rfl) (by rfl) (by rfl)) (@c7 _ _ _ _ _ (@k6 _ _ (8) _ _ _ _ E9.nd rfl (Or.inl rfl) (@j6 _ _ _ _ _ _ _ _ _ _ zzx zxy (@c5 _ _ _ _ _ (@C2 _ _ _ _ _ B.list (@c5 _ _ _ _ _ (pv 4) (@c6 _) (by rfl)) (by rfl) (by rfl)) (@c5 _ _ _ _ _ (@C2 _ _ _ _ _ B.list (@c5 _ _ _ _ _ (pv 5) (@c6 _) (by rfl)) (by rfl) (by rfl)) (@c6 _) (by rfl)) (by rfl)) (by rfl) (by decide) (by rfl) (by rfl)) (by rfl) (by trivial)) (@c7 _ _ _ _ _ (@y8 _ _ _ _ _ _ _ _ (@D5 _ _ _ _ _ _ _ (@aj5 _ _ _ _ _ _ _ (@D8 _ _ _ (pv 6) (by intro _;rfl)) (@af1 _ _ _ _ (@m9 _ _ _ _ _ _ _ _ bi3 (pv 8) (@L7 _ _ _) (m8 _)))).pt (@J3 _ _ _ _ (@aj5 _ _ _ _ _ _ _ (@m9 _ _ _ _ _ _ _ _ af2 (pv 8) (@L7 _ _ _) (m8 _)) (@af1 _ _ _ _ (@E8 _ _ _ _ (@D8 _ _ _ (@j6 _ _ _ _ _ _ _ _ _ _ zry zm (@c5 _ _ _ _ _ (pv 4) (@c5 _ _ _ _ _ (pv 5) (@c5 _ _ _ _ _ (pv 8) (@c6 _) (by rfl)) (by rfl)) (by rfl)) (by rfl) (by decide) (by rfl) (by rfl)) (by intro _;rfl))))).pt)).pt (@i6 _ _ _ (@l0 _ _ _ _ (@t6 _ _ _ _))) (@p5 _)) (@i6 _ _ _ (@y8 _ _ _ _ _ _ _ _ (@D5 _ _ _ _ _ _ _ (@E8 _ _ _ _ (@D8 _ _ _ (@j6 _ _ _ _ _ _ _ _ _ _ znz hr_law_own (@c5 _ _ _ _ _ (pv 4) (@c5 _ _ _ _ _ (pv 5) (@c6 _) (by rfl)) (by rfl)) (by rfl) (by decide) (by rfl) (by rfl)) (by intro _;rfl))) (@J3 _ _ _ _ (@E8 _ _ _ _ (@D8 _ _ _ (@j6 _ _ _ _ _ _ _ _ _ _ zsz zmy (@c5 _ _ _ _ _ (pv 2) (@c6 _) (by rfl)) (by rfl) (by decide) (by rfl) (by rfl)) (by intro _;rfl))))).pt (@i6 _ _ _ (@l0 _ _ _ _ (@t6 _ _ _ _))) (@p5 _))))))))))))) (by intro _;rfl)) (@i6 _ _ _ (@l0 _ _ _ _ (@t6 _ _ _ _))),?_⟩
   refine ⟨_,rfl,a,_,rfl,.inl ha,6,_,rfl,1,_,rfl,_,rfl,?_⟩;obtain ⟨mx,hmx,hm1,hm2⟩:=bv4 (n:=6) (c:=((ns.map V.int).length:Int)) (by decide) (by omega);rw[hmx]
   refine ⟨by omega,by omega,X0 (lo:=0) (n:=mx.toNat) (fun i σ H2=>∃v1 v2 v3 v4 v5 v6 v7 v8 v9:Option V,σ=[some (.ref a),v1,v2,v3,v4,v5,v6,v7,v8,v9]/\c8 H H2)
     ⟨none,none,none,none,none,none,none,none,none,rfl,c8.refl H⟩ ?_ (fun σ H2 _=>k H2)⟩
   rintro i σ H2 hi ⟨v1,v2,v3,v4,v5,v6,v7,v8,v9,rfl,s02⟩;refine ⟨_,rfl,_,rfl,a,ns,_,rfl,s02.seq ha,by omega,by omega,fun g H3 hg s23 P3=> ?_⟩;have hg0:H g=none:=s02.free hg;have s03:=s02.trans s23;refine ⟨_,rfl,g,_,6,rfl,P3,by decide,by decide,by decide,fun r1 H4 a0 a1 P4 kb4=>⟨(show 2<=sizeLine by decide),fun ml n5=> ?_⟩⟩;have s5:c8 H4 (e8 H4 ml (.lst [V.int r1,V.int 6])):=c8.upd_new n5;have g5:(e8 H4 ml (.lst [V.int r1,V.int 6])) ml=some (.lst (([r1,6]:List Int).map V.int)):=c9;have ng5:ml≠g:=C1 P4 n5;have P5:=y6 P4 s5;generalize (e8 H4 ml (.lst [V.int r1,V.int 6]))=H5 at s5 g5 P5 ⊢;refine ⟨_,rfl,g,_,4,rfl,P5,by decide,by decide,by decide,fun r2 H6 b0 b1 P6 kb6=>⟨rfl,_,rfl,?_⟩⟩;have s06:c8 H H6:=((s03.kb kb4 hg0).trans s5).kb kb6 hg0
   obtain ⟨n,en,hat⟩:∃n:Nat,n<=6/\atI (([r1,6]:List Int).map V.int) (if decide (V.int r2=V.int 1)=true then 1 else 0)=some (.int (n:Int)):=by
     obtain ⟨m,rfl⟩:=co7 a0
     split
     · exact ⟨6,by omega,p7 (j:=1) rfl⟩
     · exact ⟨m,by omega,p7 (j:=0) rfl⟩
   refine ⟨ml,_,_,_,rfl,rfl,i7.of (kb6 _ _ g5 ng5),hat,?_⟩;refine ⟨_,rfl,_,rfl,g,_,n,rfl,P6,by decide,by omega,fun t pa qa p q sure H7 ht ntg ta tb lp lq nag nbg one P7 kb7=> ?_⟩;refine ⟨t,_,rfl,D9.of ht,rfl,_,_,rfl,_,_,rfl,_,_,rfl,rfl,?_⟩;have s07:=s06.kb kb7 hg0;refine ⟨_,rfl,pa,_,rfl,.inl (i7.of ta.1),fun l1 n8=> ?_⟩;have s8:c8 H7 (e8 H7 l1 (.lst (p.map V.int))):=c8.upd_new n8;have g8:(e8 H7 l1 (.lst (p.map V.int))) l1=some (.lst (p.map V.int)):=c9;generalize (e8 H7 l1 (.lst (p.map V.int)))=H8 at s8 g8 ⊢;refine ⟨_,rfl,qa,_,rfl,.inl (i7.of (s8 _ _ tb.1)),fun l2 n9=> ?_⟩;have s9:c8 H8 (e8 H8 l2 (.lst (q.map V.int))):=c8.upd_new n9;have g9:(e8 H8 l2 (.lst (q.map V.int))) l2=some (.lst (q.map V.int)):=c9;generalize (e8 H8 l2 (.lst (q.map V.int)))=H9 at s9 g9 ⊢;refine ⟨(show 2<=sizeLine by decide),fun hd n10=> ?_⟩;have s10:c8 H9 (e8 H9 hd (.lst [V.ref l1,V.ref l2])):=c8.upd_new n10;have g10:(e8 H9 hd (.lst [V.ref l1,V.ref l2])) hd=some (.lst (([l1,l2]:List Addr).map V.ref)):=c9;generalize (e8 H9 hd (.lst [V.ref l1,V.ref l2]))=H10 at s10 g10 ⊢;have s710:=s8.trans (s9.trans s10);have e1:=s10 _ _ (s9 _ _ g8);have e2:=s10 _ _ g9;refine ⟨_,rfl,hd,_,0,_,rfl,rfl,i7.of g10,p7 (j:=0) rfl,_,rfl,hd,_,1,_,rfl,rfl,i7.of g10,p7 (j:=1) rfl,l1,l2,p,q,rfl,⟨e1,ta.2⟩,⟨e2,tb.2⟩,by omega,by omega,fun v H11 s11 ov=> ?_⟩;have s711:=s710.trans s11;refine ⟨_,rfl,n,rfl,by omega,fun al as ts H12 nal s12 h12 rows pm=> ?_⟩;have s712:=s711.trans s12
   have la:as.length<=720:=by rw[rows.1,pm.length_eq];exact bn8 en
   refine ⟨al,rfl,⟨_,i7.of h12⟩,R4 (K:=K) (a:=al) (xs:=as.map V.ref) (fun m ys σ H13=>∃v0:Option V,σ=[v0,some (.ref pa),some (.ref qa)]/\c8 H12 H13/\ys.length<=m/\(ys=[]↔∀j r,j < m->ts[j]? =some r->¬Gd p q r)) ⟨none,rfl,c8.refl _,ck8 _,⟨fun _ j r hj=>by omega,fun _=>rfl⟩⟩ (fun m ys σ H13 _ ⟨_,_,s,_⟩=>i7.of (s _ _ h12)) ?_ ?_⟩
   · rintro m x ys σ H13 hm ⟨v0,rfl,s13,ly,ey⟩;rw[cl0] at hm;obtain ⟨ra,hra,rfl⟩:=cr6.mp hm;have ml':=(ck7.mp hra).1;have et:ts[m]? =some (ts[m]'(by rw[<-rows.1];exact ml')):=ck6 _;obtain ⟨r,er⟩:∃r,r=ts[m]'(by rw[<-rows.1];exact ml'):=⟨_,rfl⟩;rw[<-er] at et;obtain ⟨tr,lr⟩:=(M5 n r).mp (pm.mem_iff.mp (cl9 et));have h13r:=s13 _ _ (rows.2 m ra r hra et);have tr13:o4 H13 ra r:=⟨h13r,tr,by omega⟩;have s713:=s712.trans s13
     have next:∀(b:Bool),(b=true↔Gd p q r)->∀y:V,((if b=true then ys++[y] else ys)=[]↔∀j r',j < m+1->ts[j]? =some r'->¬Gd p q r'):=fun b hb y=>by
       cases b with
       |true=>
        refine ⟨fun z=>by simp at z,fun z=>absurd (hb.mp rfl) (z m r (by omega) et)⟩
       |false=>
        rw[if_neg (by decide),ey];refine ⟨fun z j r' hj e=> ?_,fun z j r' hj e=>z j r' (by omega) e⟩
        rcases cu4 j m with y|y
        · exact z j r' y e
        · have:j=m:=by omega
          rw[this,et] at e;cases e
          exact fun g=>by have:=hb.mpr g;cases this
     refine ⟨_,rfl,_,rfl,ra,r,rfl,tr13,by omega,fun l3 cs h3 H14 nl3 s14 hh3 h14 rows3 _=> ?_⟩;have m1:=X5 (t:=p) tr hh3;have m2:=X5 (t:=q) tr hh3;have s714:=s713.trans s14;refine ⟨l3,pa,cs,_,p,rfl,rfl,i7.of h14,rows3,s714 _ _ ta.1,_,rfl,?_⟩
     by_cases c1:p∈x3 r h3
     · rw[show decide (p∈x3 r h3)=true from decide_eq_true c1];refine C6 ⟨_,rfl,_,rfl,ra,r,rfl,l7 tr13 s14,by omega,fun l4 ds h4 H15 nl4 s15 hh4 h15 rows4 _=> ?_⟩;have:=hh4.uniq hh3;subst this;refine ⟨l4,qa,ds,_,q,rfl,rfl,i7.of h15,rows4,(s714.trans s15) _ _ tb.1,_,rfl,?_⟩
       by_cases c2:q∈x3 r h4
       · rw[show decide (q∈x3 r h4)=true from decide_eq_true c2];have gd:Gd p q r:=⟨m1.mp c1,m2.mp c2⟩;refine C6 ⟨_,rfl,q9 (by omega),_,rfl,s13.trans (s14.trans s15),by rw[cl2,ct3];omega,?_⟩;have:=next true ⟨fun _=>gd,fun _=>rfl⟩ (V.ref ra);rw[if_pos rfl] at this;exact this
       · rw[show decide (q∈x3 r h4)=false from decide_eq_false c2];refine y7 ⟨_,rfl,s13.trans (s14.trans s15),by omega,?_⟩;have:=next false ⟨(fun z=>by cases z),fun gd=>absurd (m2.mpr gd.2) c2⟩ .non;rw[if_neg (by decide)] at this;exact this
     · rw[show decide (p∈x3 r h3)=false from decide_eq_false c1];refine y7 ⟨_,rfl,s13.trans s14,by omega,?_⟩;have:=next false ⟨(fun z=>by cases z),fun gd=>absurd (m1.mpr gd.1) c1⟩ .non;rw[if_neg (by decide)] at this;exact this
   rintro ys σ H13 ⟨v0,rfl,s13,ly,ey⟩ D n14;have s14:c8 H13 (e8 H13 D (.lst ys)):=c8.upd_new n14;have g14:(e8 H13 D (.lst ys)) D=some (.lst ys):=c9;generalize (e8 H13 D (.lst ys))=H14 at s14 g14 ⊢;refine ⟨(show 0<=sizeLine by decide),fun e0 n15=> ?_⟩;have s15:c8 H14 (e8 H14 e0 (.lst [])):=c8.upd_new n15;have g15:(e8 H14 e0 (.lst [])) e0=some (.lst []):=c9;generalize (e8 H14 e0 (.lst []))=H15 at s15 g15 ⊢
   have th:(!ys.isEmpty)=true↔One p q:=by
     rw[by3 lp];have e1:ys.isEmpty=true↔ys=[]:=List.isEmpty_iff;rw[ck5] at ey;constructor
     · intro z
       refine Classical.byContradiction fun no=> ?_
       have:ys=[]:=ey.mpr fun j r hj e g=>no ⟨r,pm.mem_iff.mp (cl9 e),g⟩
       rw[this] at z;cases z
     · rintro ⟨r,hr,g⟩
       cases ye:ys.isEmpty with
       |false=>rfl
       |true=>
        obtain ⟨j,hj⟩:=cm3.mp (pm.mem_iff.mpr hr);exact absurd g (ey.mp (e1.mp ye) j r (by have:=(ck7.mp hj).1;rw[rows.1];exact this) hj)
   refine ⟨D,e0,_,_,_,rfl,rfl,i7.of (s15 _ _ g14),i7.of g15,bc0 K H15 _ ys,?_⟩;obtain ⟨tb',etb⟩:∃b:Bool,b= !ys.isEmpty:=⟨_,rfl⟩;show at2 9 (V.bl (!ys.isEmpty)) _ _ _;rw[<-etb] at th ⊢;have s1115:=s12.trans (s13.trans (s14.trans s15));have s715:=s711.trans s1115;refine ⟨_,rfl,_,rfl,_,rfl,(show 2<=sizeLine by decide),fun z n16=> ?_⟩;have s16:c8 H15 (e8 H15 z (.lst [V.ref pa,V.ref qa])):=c8.upd_new n16;have g16:(e8 H15 z (.lst [V.ref pa,V.ref qa])) z=some (.lst (([pa,qa]:List Addr).map V.ref)):=c9;generalize (e8 H15 z (.lst [V.ref pa,V.ref qa]))=H16 at s16 g16 ⊢;have s1116:=s1115.trans s16;have s716:=s715.trans s16;have s1016:=s11.trans s1116;have R:=ac9 (K:=K) (ab7 (s1016 _ _ e1) (s1016 _ _ e2)) (ab7 (s716 _ _ ta.1) (s716 _ _ tb.1));rw[decide_eq_true rfl] at R;refine ⟨hd,z,_,_,_,rfl,rfl,i7.of (s1016 _ _ g10),i7.of g16,R,_,rfl,y7 ?_⟩;have P16:=y6 P7 s716;have s016:=s07.trans s716;have iv:=ov.iff
   have etb2:(!decide (v=V.non))=tb':=by
     rw[cq4,th,Bool.not_eq_true',decide_eq_false_iff_not,iv];exact Classical.not_not
   refine ⟨_,rfl,rfl,_,rfl,rfl,_,rfl,af5 (congrArg V.bl etb2) ?_⟩;refine ⟨_,rfl,rfl,_,rfl,bn9 (fun σ' H'=>σ'=[some (.ref a),some (.int ((0:Int)+(i:Int))),some (.ref g),some (.int (n:Int)),some (.ref pa),some (.ref qa),some (.bl sure),some (.ref hd),some v,some (.bl tb')]/\c8 H16 H') ?_ ⟨rfl,c8.refl _⟩ fun hb rest=> ?_⟩
   rotate_left
   · rcases ov with ⟨rfl,_⟩|⟨t',r,rr,ii,jj,hq,x,y,rfl,_,_,ht',hr',trr,lrr,bo,_⟩
     · cases hb
     · refine ⟨_,rfl,_,rfl,_,rfl,pa,qa,t',r,p,q,rr,ii,jj,rfl,l7 ta s716,l7 tb s716,s1116 _ _ ht',⟨s1116 _ _ hr',trr,by omega⟩,lrr,by omega,bo,fun H17 s17=>⟨_,rfl,y7 (rest _ _ ⟨rfl,s17⟩)⟩⟩
   rintro σ' H17 ⟨rfl,s17⟩;have P17:=y6 P16 s17;have s017:=s016.trans s17;refine ⟨_,rfl,_,rfl,g,_,9,rfl,P17,by decide,by decide,by decide,fun r3 H18 c0 c1 P18 kb18=> ?_⟩;obtain ⟨n2,rfl⟩:=co7 c0;refine ⟨g,_,n2,rfl,P18,by decide,by omega,fun t2 pa2 qa2 p2 q2 sure2 H19 ht2 ntg2 ta2 tb2 lp2 lq2 nag2 nbg2 one2 P19 kb19=> ?_⟩;refine ⟨t2,_,rfl,D9.of ht2,rfl,_,_,rfl,_,_,rfl,_,_,rfl,rfl,?_⟩;have s019:=(s017.kb kb18 hg0).kb kb19 hg0;refine ⟨_,rfl,pa2,_,rfl,.inl (i7.of ta2.1),fun m1 n20=> ?_⟩;have s20:c8 H19 (e8 H19 m1 (.lst (p2.map V.int))):=c8.upd_new n20;have g20:(e8 H19 m1 (.lst (p2.map V.int))) m1=some (.lst (p2.map V.int)):=c9;generalize (e8 H19 m1 (.lst (p2.map V.int)))=H20 at s20 g20 ⊢;refine ⟨_,rfl,qa2,_,rfl,.inl (i7.of (s20 _ _ tb2.1)),fun m2 n21=> ?_⟩;have s21:c8 H20 (e8 H20 m2 (.lst (q2.map V.int))):=c8.upd_new n21;have g21:(e8 H20 m2 (.lst (q2.map V.int))) m2=some (.lst (q2.map V.int)):=c9;generalize (e8 H20 m2 (.lst (q2.map V.int)))=H21 at s21 g21 ⊢;refine ⟨m1,m2,p2,q2,rfl,⟨s21 _ _ g20,ta2.2⟩,⟨g21,tb2.2⟩,by omega,by omega,fun v2 H22 s22 ov2=> ?_⟩;have s1922:=s20.trans (s21.trans s22);have iv2:=ov2.iff;refine ⟨_,rfl,_,rfl,by2 (fun c=>y7 c) (fun hs c=>⟨_,rfl,rfl,_,rfl,?_⟩) ?_⟩
   · rw[show decide (v2=V.non)=false from decide_eq_false fun z=>iv2.mp z (one2 hs)];exact y7 c
   refine ⟨_,rfl,rfl,_,rfl,bn9 (fun σ' H'=>σ'=[some (.ref a),some (.int ((0:Int)+(i:Int))),some (.ref g),some (.int (n:Int)),some (.ref pa2),some (.ref qa2),some (.bl sure2),some (.ref hd),some v2,some (.bl tb')]/\c8 H22 H') ?_ ⟨rfl,c8.refl _⟩ fun hb rest=> ?_⟩
   rotate_left
   · rcases ov2 with ⟨rfl,_⟩|⟨t',r,rr,ii,jj,hq,x,y,rfl,_,_,ht',hr',trr,lrr,bo,_⟩
     · cases hb
     · refine ⟨_,rfl,_,rfl,_,rfl,pa2,qa2,t',r,p2,q2,rr,ii,jj,rfl,l7 ta2 s1922,l7 tb2 s1922,ht',⟨hr',trr,by omega⟩,lrr,by omega,bo,fun H23 s23=>⟨_,rfl,y7 (rest _ _ ⟨rfl,s23⟩)⟩⟩
   rintro σ' H23 ⟨rfl,s23'⟩;have s1923:=s1922.trans s23';refine ⟨_,rfl,_,rfl,pa2,qa2,p2,q2,rfl,l7 ta2 s1923,l7 tb2 s1923,by omega,by omega,fun H24 s24=>⟨_,rfl,y7 ?_⟩⟩;have s1924:=s1923.trans s24;refine ⟨_,rfl,g,_,rfl,y6 P19 s1924,by decide,fun H25 P25 kb25=>⟨_,rfl,y7 ?_⟩⟩;exact ⟨_,_,_,_,_,_,_,_,_,rfl,(s019.trans s1924).kb kb25 hg0⟩
end
end My
namespace My
open PySem L2 Mth
theorem bn1 {P:List Value->Prop}(h:∀x0,P [x0]):∀us:List Value,us.length=1->P us
 |[_],_=>h _
theorem W9 {P:List Value->Prop}(h:∀x0 x1,P [x0,x1]):∀us:List Value,us.length=2->P us
 |[_,_],_=>h _ _
theorem bn3 {P:List Value->Prop}(h:∀x0 x1 x2,P [x0,x1,x2]):∀us:List Value,us.length=3->P us
 |[_,_,_],_=>h _ _ _
theorem ck3 {l:PySem.W.OpenLaw}{w:World}{K:PySem.W.Frag}{h:Heap}{mg:Str->Option Value}{fa f0 f1 f2 f3 f4 f5 f6 f7 f8 f9 f10 f11 f12 f13 f14 f15 f16 f17 f18 f19 f20 f21 f22 f23 f24 f25 f26 f27 f28 f29:Addr}{zwy zx zzz zzy:Addr}{tk0 tk1:Tok}(X:K.In h)(G:h.Ns mainGlobals mg)(hfa:mg "law"=some (.ref fa))
   (u0:Fu K "is_whole" aa8 f0)
   (u1:Fu K "greatest_part" O0 f1)
   (u2:Fu K "walk_ring" X8 f2)
   (u3:Fu K "walk_rings" W1 f3)
   (u4:Fu K "send_along" W2 f4)
   (u5:Fu K "is_turn" R8 f5)
   (u6:Fu K "must_be_turn" G6 f6)
   (u7:Fu K "must_fit" O1 f7)
   (u8:Fu K "put_behind" K6 f8)
   (u9:Fu K "power_of" aa9 f9)
   (u10:Fu K "rounds_of" L9 f10)
   (u11:Fu K "kind_of" ad7 f11)
   (u12:Fu K "home_of" ad8 f12)
   (u13:Fu K "go_past" X3 f13)
   (u14:Fu K "all_powers" W3 f14)
   (u15:Fu K "told_as_powers" M4 f15)
   (u16:Fu K "powers_of_one" K1 f16)
   (u17:Fu K "_law_pool" ab0 f17)
   (u18:Fu K "_law_draw" ab1 f18)
   (u19:Fu K "_law_turn" ab2 f19)
   (u20:Fu K "_law_behind" W4 f20)
   (u21:Fu K "_law_put" ae0 f21)
   (u22:Fu K "_law_all" ad9 f22)
   (u23:Fu K "_law_powers" W5 f23)
   (u24:Fu K "_law_good" ab3 f24)
   (u25:Fu K "_law_which" X9 f25)
   (u26:Fu K "_law_pair" ab4 f26)
   (u27:Fu K "_law_own" ae1 f27)
   (u28:Fu K "_law_far_right" O2 f28)
   (u29:Fu K "law" ag1 f29)
   (m0:PySem.W.nsIn K mainGlobals "MOST_THINGS_ofone"=some (some (.int 8 tk0)))
   (m1:PySem.W.nsIn K mainGlobals "MOST_THINGS_turns"=some (some (.int 40 tk1)))
   (zz:Fre K ["len","isinstance","int","bool","list","range","sum","min","max","enumerate","zip","sorted","tuple","str","repr","all","any","set","dict","ValueError"])
   (uT:PySem.W.nsIn K mainGlobals "TurnError"=some (some (.ref zwy)))
   (uTb:PySem.W.mroIn K zwy (.type "BaseException")=some true)
   (uTc:PySem.W.isClsIn K zwy=true)
   (uTt:PySem.W.typeIn K (.ref zwy)=some (.type "type"))
   (uG:PySem.W.specialIn K (.builtin "object.__class__") "__get__"=some (some (.builtin "getset_descriptor.__get__")))
   (uK:PySem.W.takesIn K (.builtin "object.__class__")=some true)
   (uC:ap4 K zwy [(("NoTurn":Str),zx),(("NoFit":Str),zzz),(("TooMany":Str),zzy)])
   (uP:ap5 K [(("NoTurn":Str),zx),(("NoFit":Str),zzz),(("TooMany":Str),zzy)] 0 [(("NoTurn":Str),zx),(("NoFit":Str),zzz),(("TooMany":Str),zzy)])
   :∃fd:FuncData,(∀(s:Shared) (v:Value),BindsTo s fd ⟨[v],[]⟩ [("script",v)])/\∀base:Heap,K.In base->base.Ns mainGlobals mg->l6 l.prog w K mg base B8 12 fa fd ["script"] (at9 K):=by
 obtain ⟨d0,a0,F0⟩:=u0;obtain ⟨d1,a1,F1⟩:=u1;obtain ⟨d2,a2,F2⟩:=u2;obtain ⟨d3,a3,F3⟩:=u3;obtain ⟨d4,a4,F4⟩:=u4;obtain ⟨d5,a5,F5⟩:=u5;obtain ⟨d6,a6,F6⟩:=u6;obtain ⟨d7,a7,F7⟩:=u7;obtain ⟨d8,a8,F8⟩:=u8;obtain ⟨d9,a9,F9⟩:=u9;obtain ⟨d10,a10,F10⟩:=u10;obtain ⟨d11,a11,F11⟩:=u11;obtain ⟨d12,a12,F12⟩:=u12;obtain ⟨d13,a13,F13⟩:=u13;obtain ⟨d14,a14,F14⟩:=u14;obtain ⟨d15,a15,F15⟩:=u15;obtain ⟨d16,a16,F16⟩:=u16;obtain ⟨d17,a17,F17⟩:=u17;obtain ⟨d18,a18,F18⟩:=u18;obtain ⟨d19,a19,F19⟩:=u19;obtain ⟨d20,a20,F20⟩:=u20;obtain ⟨d21,a21,F21⟩:=u21;obtain ⟨d22,a22,F22⟩:=u22;obtain ⟨d23,a23,F23⟩:=u23;obtain ⟨d24,a24,F24⟩:=u24;obtain ⟨d25,a25,F25⟩:=u25;obtain ⟨d26,a26,F26⟩:=u26;obtain ⟨d27,a27,F27⟩:=u27;obtain ⟨d28,a28,F28⟩:=u28;obtain ⟨d29,a29,F29⟩:=u29;have e:=hfa.symm.trans (PySem.W.mg_of X G a29);cases e;obtain ⟨z0,z1,z2,z3,z4,z5,z6,z7,z8,z9,z10,z11,z12,z13,z14,z15,z16,z17,z18,z19,_⟩:=zz;have zn {y:Str} (z:PySem.W.nsIn K mainGlobals y=some none):=PySem.W.mg_none_of X G z;have B:Bl mg:=⟨zn z0,zn z1,zn z2,zn z3,zn z4,zn z5,zn z6,zn z7,zn z8,zn z9,zn z10,zn z11,zn z12,zn z13,zn z14,zn z15,zn z16,zn z17,zn z18,zn z19⟩;have zyx:∃t,mg "MOST_THINGS_ofone"=some (.int 8 t):=⟨_,PySem.W.mg_of X G m0⟩;have mt:∃t,mg "MOST_THINGS_turns"=some (.int 40 t):=⟨_,PySem.W.mg_of X G m1⟩;have ER:aw6 K mg zwy [(("NoTurn":Str),zx),(("NoFit":Str),zzz),(("TooMany":Str),zzy)]:=bm5 X G uT uTb uTc uTt uG uK uC uP (show (["NoTurn","NoFit","TooMany"]:List Str).Nodup by decide+kernel)
 have ES:∀p∈[(("NoTurn":Str),zx),(("NoFit":Str),zzz),(("TooMany":Str),zzy)],ci7 K p.2:=fun p hp=>⟨(uC.get p hp).s,(uC.get p hp).b⟩
 have zmz:Err K mg "NoTurn" zx:=ER.err ("NoTurn",zx) (by simp);have zlz:Err K mg "NoFit" zzz:=ER.err ("NoFit",zzz) (by simp);have zoz:Err K mg "TooMany" zzy:=ER.err ("TooMany",zzy) (by simp)
 have b0:=F0.binds (ps:=["thing"]) fun _ _ _ _ _ _=>bn1 fun _=>rfl
 have b1:=F1.binds (ps:=["a","b"]) fun _ _ _ _ _ _=>W9 fun _ _=>rfl
 have b2:=F2.binds (ps:=["p","first"]) fun _ _ _ _ _ _=>W9 fun _ _=>rfl
 have b3:=F3.binds (ps:=["p"]) fun _ _ _ _ _ _=>bn1 fun _=>rfl
 have b4:=F4.binds (ps:=["target","ring","steps"]) fun _ _ _ _ _ _=>bn3 fun _ _ _=>rfl
 have b5:=F5.binds (ps:=["thing"]) fun _ _ _ _ _ _=>bn1 fun _=>rfl
 have b6:=F6.binds (ps:=["thing"]) fun _ _ _ _ _ _=>bn1 fun _=>rfl
 have b7:=F7.binds (ps:=["p","q"]) fun _ _ _ _ _ _=>W9 fun _ _=>rfl
 have b8:=F8.binds (ps:=["p","q"]) fun _ _ _ _ _ _=>W9 fun _ _=>rfl
 have b9:=F9.binds (ps:=["p","k"]) fun _ _ _ _ _ _=>W9 fun _ _=>rfl
 have b10:=F10.binds (ps:=["p"]) fun _ _ _ _ _ _=>bn1 fun _=>rfl
 have b11:=F11.binds (ps:=["p"]) fun _ _ _ _ _ _=>bn1 fun _=>rfl
 have b12:=F12.binds (ps:=["p"]) fun _ _ _ _ _ _=>bn1 fun _=>rfl
 have b13:=F13.binds (ps:=["p","q"]) fun _ _ _ _ _ _=>W9 fun _ _=>rfl
 have b14:=F14.binds (ps:=["p"]) fun _ _ _ _ _ _=>bn1 fun _=>rfl
 have b15:=F15.binds (ps:=["r","p","q"]) fun _ _ _ _ _ _=>bn3 fun _ _ _=>rfl
 have b16:=F16.binds (ps:=["p","q"]) fun _ _ _ _ _ _=>W9 fun _ _=>rfl
 have b17:=F17.binds (ps:=["script","k"]) fun _ _ _ _ _ _=>W9 fun _ _=>rfl
 have b18:=F18.binds (ps:=["pool","many"]) fun _ _ _ _ _ _=>W9 fun _ _=>rfl
 have b19:=F19.binds (ps:=["pool","many"]) fun _ _ _ _ _ _=>W9 fun _ _=>rfl
 have b20:=F20.binds (ps:=["p","q"]) fun _ _ _ _ _ _=>W9 fun _ _=>rfl
 have b21:=F21.binds (ps:=["rows","thing"]) fun _ _ _ _ _ _=>W9 fun _ _=>rfl
 have b22:=F22.binds (ps:=["many"]) fun _ _ _ _ _ _=>bn1 fun _=>rfl
 have b23:=F23.binds (ps:=["r"]) fun _ _ _ _ _ _=>bn1 fun _=>rfl
 have b24:=F24.binds (ps:=["p","q","told"]) fun _ _ _ _ _ _=>bn3 fun _ _ _=>rfl
 have b25:=F25.binds (ps:=["p","q"]) fun _ _ _ _ _ _=>W9 fun _ _=>rfl
 have b26:=F26.binds (ps:=["pool","many"]) fun _ _ _ _ _ _=>W9 fun _ _=>rfl
 have b27:=F27.binds (ps:=["p","q"]) fun _ _ _ _ _ _=>W9 fun _ _=>rfl
 have b28:=F28.binds (ps:=["pool"]) fun _ _ _ _ _ _=>bn1 fun _=>rfl
 obtain ⟨oc,od,kV,dc,pm,an,cd,ct,sl,rfl,lk,hcd⟩:=id F29.ex;refine ⟨PySem.W.fnOf "law" "law" (T9 ag1) (M7 ag1) (j8 ag1) .none kV dc pm an cd ct,fun s v=> .of_eq rfl,fun base _ _=> ?_⟩;have zsx:o7 l.prog w K mg base "is_whole" 1 ["thing"] (ag2 K):=t7 X G a0 F0 b0 (br3 F0 B);have zl:o7 l.prog w K mg base "greatest_part" 1 ["a","b"] bg2:=t7 X G a1 F1 b1 (cc5 F1);have zj:o7 l.prog w K mg base "walk_ring" 1 ["p","first"] ax8:=t7 X G a2 F2 b2 (bx5 F2);have zrx:o7 l.prog w K mg base "walk_rings" 2 ["p"] N3:=t7 X G a3 F3 b3 (br5 F3 B zj);have zlx:o7 l.prog w K mg base "send_along" 1 ["target","ring","steps"] ax9:=t7 X G a4 F4 b4 (bx6 F4 B);have zuz:o7 l.prog w K mg base "is_turn" 2 ["thing"] (ao6 Q6 (Z2 K)):=t7 X G a5 F5 b5 (cf0 (bm6 F5 B mt zsx) (bg4 F5 B mt zsx));have zq:L5 l.prog w K mg base "must_be_turn" 3 ["thing"] (fun vs H Q E=>R9 vs H Q E\/(U5 K zx) vs H Q E):=U3 X G a6 F6 b6 (l6.or (l6.lift (bd4 F6 (bt6 zuz))) (aj1 F6 zuz zmz));have zyy:o7 l.prog w K mg base "must_be_turn" 3 ["thing"] R9:=t7 X G a6 F6 b6 (bd4 F6 (bt6 zuz));have zjz:L5 l.prog w K mg base "must_fit" 1 ["p","q"] (fun vs H Q E=>(am7 K) vs H Q E\/(ay6 zzz) vs H Q E):=U3 X G a7 F7 b7 (l6.or (l6.lift (bm8 F7 B)) (ay7 F7 B zlz));have zr:o7 l.prog w K mg base "must_fit" 1 ["p","q"] (am7 K):=t7 X G a7 F7 b7 (bm8 F7 B);have zly:L5 l.prog w K mg base "put_behind" 4 ["p","q"] (fun vs H Q E=>G0 vs H Q E\/(Z5 zzz) vs H Q E):=U3 X G a8 F8 b8 (l6.or (l6.lift (ar9 F8 zyy zr)) (aq0 F8 zq zjz));have zyz:o7 l.prog w K mg base "put_behind" 4 ["p","q"] G0:=t7 X G a8 F8 b8 (ar9 F8 zyy zr);have zqy:o7 l.prog w K mg base "power_of" 4 ["p","k"] ap6:=t7 X G a9 F9 b9 (br6 F9 B zyy zrx zlx);have cx_rounds_of:L5 l.prog w K mg base "rounds_of" 4 ["p"] (fun vs H Q E=>N3 vs H Q E\/(U5 K zx) vs H Q E):=U3 X G a10 F10 b10 (l6.or (l6.lift (ah5 F10 zyy zrx)) (as6 F10 zq));have zjy:o7 l.prog w K mg base "rounds_of" 4 ["p"] N3:=t7 X G a10 F10 b10 (ah5 F10 zyy zrx);have c_kind_of:o7 l.prog w K mg base "kind_of" 5 ["p"] ay1:=t7 X G a11 F11 b11 (bx8 F11 B B.sorted zjy);have zo:o7 l.prog w K mg base "home_of" 6 ["p"] ay2:=t7 X G a12 F12 b12 (bx9 F12 c_kind_of zl);have cx_go_past:L5 l.prog w K mg base "go_past" 5 ["p","q"] (fun vs H Q E=>ae3 vs H Q E\/(Z5 zzz) vs H Q E):=U3 X G a13 F13 b13 (l6.or (l6.lift (an6 F13 zyz)) (ba6 F13 zly));have ztx:o7 l.prog w K mg base "go_past" 5 ["p","q"] ae3:=t7 X G a13 F13 b13 (an6 F13 zyz);have zwx:o7 l.prog w K mg base "all_powers" 7 ["p"] an7:=t7 X G a14 F14 b14 (as8 F14 B zo zqy);have zuy:o7 l.prog w K mg base "told_as_powers" 8 ["r","p","q"] ap8:=t7 X G a15 F15 b15 (ag9 F15 zwx);have zmx:L5 l.prog w K mg base "powers_of_one" 9 ["p","q"] (fun vs H Q E=>ag7 vs H Q E\/(ay8 zzz zzy) vs H Q E):=U3 X G a16 F16 b16 (l6.or (l6.lift (W8 F16 B zyx ztx zwx zuy zyz)) (ah0 F16 B zyx cx_go_past zoz));have zzx:o7 l.prog w K mg base "powers_of_one" 9 ["p","q"] ag7:=t7 X G a16 F16 b16 (W8 F16 B zyx ztx zwx zuy zyz);have zpz:o7 l.prog w K mg base "_law_pool" 1 ["script","k"] (ax5 K):=t7 X G a17 F17 b17 (bx2 F17 B)
 have zy:o7 l.prog w K mg base "_law_draw" 1 ["pool","many"] Z1:=t7 X G a18 F18 b18 (bx3 F18);have zwz:o7 l.prog w K mg base "_law_turn" 2 ["pool","many"] am8:=t7 X G a19 F19 b19 (bx4 F19 B zy);have zu:o7 l.prog w K mg base "_law_behind" 1 ["p","q"] G0:=t7 X G a20 F20 b20 (ay3 F20);have zoy:o7 l.prog w K mg base "_law_put" 1 ["rows","thing"] bg5:=t7 X G a21 F21 b21 (bg6 F21 B);have zox:o7 l.prog w K mg base "_law_all" 2 ["many"] bg7:=t7 X G a22 F22 b22 (bg8 F22 B zoy);have zxz:o7 l.prog w K mg base "_law_powers" 2 ["r"] Z6:=t7 X G a23 F23 b23 (at1 F23 B zu);have zry:o7 l.prog w K mg base "_law_good" 3 ["p","q","told"] ay9:=t7 X G a24 F24 b24 (ba7 F24 B zuz zxz);have zvx:o7 l.prog w K mg base "_law_which" 10 ["p","q"] aq1:=t7 X G a25 F25 b25 (az0 F25 B zmx ER);have zrz:o7 l.prog w K mg base "_law_pair" 3 ["pool","many"] az1:=t7 X G a26 F26 b26 (ba8 F26 B zwz zxz zy);have znz:o7 l.prog w K mg base "_law_own" 10 ["p","q"] bg9:=t7 X G a27 F27 b27 (bh0 F27 B zzx);have zsz:o7 l.prog w K mg base "_law_far_right" 11 ["pool"] bh1:=t7 X G a28 F28 b28 (aj4 F28 B zwz zy zvx zu);exact cd0 F29 B zpz zy zrz zzx zox zxz zry znz zsz
theorem ck4 {l:PySem.W.OpenLaw}{q:Program}{loose:List Str}{XP:(Str->Option Value)->Heap->Prop}{YP:World->Heap->Prop}{d:DefRec}{K:Params->PySem.W.Frag}(hn:l.most=some 63)(hdf:d.params.defaults=[])
   (hY:∀(w:World) (h:Heap),YP w h->(K w.params).In h)
   (F:∀(w:World) (mg:Str->Option Value) (fa:Addr) (h:Heap),(K w.params).In h->h.Ns mainGlobals mg->mg d.name=some (.ref fa)->
     ∃fd:FuncData,(∀(s:Shared) (u:Value),BindsTo s fd ⟨[u],[]⟩ [("script",u)])/\∀base:Heap,(K w.params).In base->base.Ns mainGlobals mg->l6 l.prog w (K w.params) mg base B8 12 fa fd ["script"] (at9 (K w.params))):
   PySem.W.WalkO q loose XP YP l.row.toRowW d [] (fun f vs=>PySem.call f vs):=
 L2.cj3 (n:=63) (k:=12) (x:="script") (CX:=fun _=>B8) (sp:=fun w=>at9 (K w.params)) hn (by decide) hdf ⟨rfl,by decide,by decide,rfl⟩ hY F (fun _ _ a ns hl _ hS=>⟨a,ns,rfl,hS,hl,fun _=>rfl⟩) fun _ _ _ _ _ z=>z
end My
end
abbrev PySem.W.Fast.tw90343872475197607:Type:=PySem.Params
theorem PySem.W.Fast.te90343872475197607:PySem.Params=PySem.W.Fast.tw90343872475197607:=rfl
open PySem PySem.W PyProof.Rows L2
set_option maxRecDepth 100000 in
set_option maxHeartbeats 0 in
theorem PySem.Challenge.cw_turnroots_k31_powers_of_one_holds : PySem.Challenge.rw_turnroots_k31_powers_of_one.Holds := by
  w_on; o_law; k_head; (case hw => w_witness2)
  k_fill
  refine My.ck4 (l := PySem.Challenge.rw_turnroots_k31_powers_of_one) rfl rfl (fun w h Y => PySem.W.kIn_of Y) ?F
  case F =>
    intro w mg fa h KX G hmg
    refine' My.ck3 KX G hmg ?_ ?_ ?_ ?_ ?_ ?_ ?_ ?_ ?_ ?_ ?_ ?_ ?_ ?_ ?_ ?_ ?_ ?_ ?_ ?_ ?_ ?_ ?_ ?_ ?_ ?_ ?_ ?_ ?_ ?_ ?_ ?_ ?_ ?_ ?_ ?_ ?_ ?_ ?_ ?_ ?_
    all_goals first
      | k_is
      | (refine' cf4 ?a ?l ?c ?k; (case a => k_is); (case l => k_is); (case c => k_is); (case k => k_is))
      | ((repeat (refine' And.intro (ClF.mk ?n ?e ?g ?h ?c ?b ?o ?i ?t ?u ?v ?s) ?_; (case n => k_is); (case e => k_exc); (case g => k_is); (case h => k_is); (case c => k_is); (case b => k_is); (case o => k_is); (case i => k_is); (case t => k_is); (case u => k_is); (case v => k_is); (case s => k_is))); exact trivial)
      | ((repeat (refine' And.intro ?n ?_; (case n => k_is))); exact trivial)
      | ((repeat (refine' And.intro ?zp ?_; (case zp => ((repeat (refine' And.intro ?n ?_; (case n => k_is))); exact trivial)))); exact trivial)
      | skip
#print axioms PySem.Challenge.cw_turnroots_k31_powers_of_one_holds
