import PyProof.Rows.All
import Wide.All
import OpenK.AllK
import Wide.FinOn
import Lean
import PyProof.EqAt
import PyProof.EqKinds
import PyProof.TupleCall
import PyProof.NeKinds
import PyProof.EnumMake
import PyProof.Rows.SeqMore2
import PyProof.ZipIter
import PyProof.Rows.SortRev
import PyProof.Rows.SortWalk
import PyProof.Rows.CallKwBuiltin
import PyProof.DictIter
import PyProof.DictWalks
import PyProof.MeetsDict
import PyProof.Conv_int_bool
import PyProof.EqAt
import PyProof.CollectWalk
import PyProof.Rows.SortShell
import PyProof.Rows.Range3
import PyProof.CallFns
import PyProof.StrBlockH
import PySem.Challenge.RW_turnroots_k47_texts_of_no_turn
open List renaming length_map→dt3, length_append→dt4, getElem?_eq_getElem→dt5, mem_cons_self→dt6, mem_cons_of_mem→dt8, getElem?_eq_some_iff→dt9, mem_append_right→du0, mem_append→du1, size_toArray→du2, mem_singleton→du4, length_take→du5, map_append→du6, getElem?_map→du7, mem_of_getElem?→du8, length_cons→du9, append_assoc→dv0, length_drop→dv1, getElem?_eq_none→dv2, mem_map→dv3, getD_eq_getElem?_getD→dv6, map_cons→dv7, mem_cons→dw1, replicate→dw2, getElem?_append_right→dw5, filterMap_cons→dw6, append_nil→dw7, mem_append_left→dw8, pairwise_iff_getElem→dx0, take_length→dx2, length_set→dx3, nodup_iff_pairwise_ne→dx4, mem_flatten→dx5, flatten_append→dx6, flatten_cons→dx7, getElem_mem→dx8, getElem?_append_left→dx9, flatten_singleton→dy1, getElem?_take_of_lt→dy3, length_singleton→dy4, mem_iff_getElem?→dy5, ext_getElem?→dy8, mem_of_mem_drop→dy9, mem_of_mem_take→dz0, length_nil→dz2, length→dz3, lookup_cons→dz4, take_append_drop→dz5, nodup_append→dz7, nodup_cons→dz9, take_of_length_le→ea2, drop_eq_nil_of_le→ea3, map_congr_left→ea4, map_map→ea6, length_replicate→ea7, mem_range→eb2, range'→eb3, map_set→eb6, perm_append_comm→eb7, range→eb8, length_range→eb9, pairwise_map→ec0, length_pos_iff→ec3, length_reverse→ec5, getElem?_set_self→ec6, all_eq_true→ec7, cons_append→ec8, mem_reverse→ec9, sublist_flatten_of_mem→ed0, drop_eq_getElem_cons→ed1, mem_or_eq_of_mem_set→ed2, getElem?_set_ne→ed3, flatten_replicate_singleton→ed4, nodup_nil→ed5, replicate_succ→ed6, reverse_append→ed7, not_mem_nil→ed8, pairwise_singleton→ee0, length_eq_zero_iff→ee2, mem_filterMap→ee3, getElem?_drop→ee4, pairwise_cons→ee5, find?_cons→ee7, pairwise_reverse→ee9, isEmpty_eq_false_iff→ef1, sum_append→ef3, sum_singleton→ef4, getElem?_replicate→ef5, map_nil→ef6, getElem?_cons_succ→ef7, drop_zero→ef9, reverse_perm→eg2, eraseIdxIfInBounds_toArray→eg3, getElem?_reverse→eg4, sum_cons→eg5, map_drop→eg7, range'_append_1→eg8, getElem?_of_mem→eg9, eq_nil_of_length_eq_zero→eh0, getElem?_range→eh2, append_of_mem→eh4, map_inj_right→eh5, filter_append→eh6, map_id→eh8, extract_eq_take_drop→ei0, map_take→ei1, cons_ne_nil→ei4, filter_cons_of_pos→ei7, append_cancel_left→ei9, of_mem_zip→ej0, forIn_cons→ej1, take_left→ej4, any_cons→ej5
open Nat renaming le_refl→dt7, le_trans→du3, zero_le→dv5, lt_of_lt_of_le→dv9, mod_eq_of_lt→dw0, ne_of_lt→dx1, lt_irrefl→dy2, le_of_lt→dz6, add_mod_right→dz8, zero_add→ea0, lt_of_le_of_lt→ea1, le_succ_of_le→eb4, add_le_add_left→ec2, mod_lt→ec4, le_of_eq→ed9, add_zero→ee1, le_succ→ef2, add_sub_cancel_left→ef8, lt_succ_of_lt→eg0, mod_self→eh1, lt_or_eq_of_le→eh7, add_comm→ei5, sub_self→ei8, log2_lt→ej3
open Bool renaming false_ne_true→dv4, and_eq_true→dy6, false_eq_true→ea9, eq_iff_iff→ee6, eq_false_iff→eg1, or_eq_true→ej2
open Array renaming length_toList→dv8, toList_append→dw3, getElem?_eq_some_iff→dw9, getElem?_toList→dy0, toList→dz1, getElem?_eq_getElem→ea5, perm_iff_toList_perm→eb5, toList_push→ec1, toList_reverse→ef0, getElem?_setIfInBounds_ne→eg6, append_assoc→eh3, toList_map→ei3
open Int renaming eq_ofNat_of_zero_le→dw4, toNat_natCast→dy7, emod_nonneg→ea8, emod_lt_of_pos→eb1
open Option renaming map_eq_some_iff→ee8, isSome_map→eh9, isSome_iff_exists→ei2, bind_eq_some_iff→ei6
set_option Elab.async false
set_option linter.all false
set_option maxRecDepth 100000
set_option maxHeartbeats 8000000
section
local macro_rules|`(tactic|omega)=>`(tactic|lia)
local macro_rules|`(tactic|trivial)=>`(tactic|first|exact .inl rfl|exact .inr rfl|assumption)
local macro_rules|`(tactic|rfl')=>`(tactic|exact ⟨rfl,rfl,rfl,by decide+kernel,rfl,by decide+kernel,by decide+kernel⟩)
namespace L2
open PySem PySem.Spec PyProof.Rows
abbrev C9:=Sum Int Str
def an6:C9->Value->Bool
 | .inl k,v=>Value.isInt k v
 | .inr x,v=>Value.isStrOf x v
def do5 (w:World):C9->Int
 | .inl k=>hashInt k
 | .inr x=>hashStr w x
theorem K9:∀{k:C9} {v:Value},an6 k v=true->(∃i t,k=Sum.inl i/\v=Value.int i t)\/(∃x t,k=Sum.inr x/\v=Value.str x t)
 | .inl i,v,h=>by
   obtain ⟨t,e⟩:=Value.isInt_shape (k:=i) (v:=v) h;exact .inl ⟨i,t,rfl,e⟩
 | .inr x,v,h=>by
   obtain ⟨t,e⟩:=Value.isStrOf_shape (x:=x) (v:=v) h;exact .inr ⟨x,t,rfl,e⟩
theorem ci1 (i:Int)(t:Tok):an6 (.inl i) (.int i t)=true:=by simp [an6,Value.isInt]
theorem ci2 (x:Str)(t:Tok):an6 (.inr x) (.str x t)=true:=by simp [an6,Value.isStrOf]
theorem de5 (a b:Int):decide ((Sum.inl a:C9)=Sum.inl b)=(a==b):=by
 by_cases e:a=b
 · subst e;simp
 · have h:¬(Sum.inl a:C9)=Sum.inl b:=fun q=>e (Sum.inl.inj q)
   rw[decide_eq_false h];exact (beq_eq_false_iff_ne.mpr e).symm
theorem de6 (a b:Str):decide ((Sum.inr a:C9)=Sum.inr b)=decide (a=b):=by
 by_cases e:a=b
 · subst e;simp
 · have h:¬(Sum.inr a:C9)=Sum.inr b:=fun q=>e (Sum.inr.inj q)
   rw[decide_eq_false h,decide_eq_false e]
theorem de7 (a:Int)(b:Str):decide ((Sum.inl a:C9)=Sum.inr b)=false:=decide_eq_false (fun q=>nomatch q)
theorem de8 (a:Str)(b:Int):decide ((Sum.inr a:C9)=Sum.inl b)=false:=decide_eq_false (fun q=>nomatch q)
def N9 (prog:Program)(w:World):PySem.KeyKind prog w C9 where
 is:=an6
 hash:=do5 w
 inj:=fun v a b ha hb=>by
   rcases K9 ha with ⟨i,t,rfl,rfl⟩|⟨x,t,rfl,rfl⟩
   · rcases K9 hb with ⟨j,u,rfl,e⟩|⟨y,u,rfl,e⟩
     · injection e with e1 _;rw[e1]
     · exact nomatch e
   · rcases K9 hb with ⟨j,u,rfl,e⟩|⟨y,u,rfl,e⟩
     · exact nomatch e
     · injection e with e1 _;rw[e1]
 byValue:=fun k v h=>by
   rcases K9 h with ⟨i,t,rfl,rfl⟩|⟨x,t,rfl,rfl⟩<;>rfl
 pyHash:=fun hv h=>by
   rcases K9 hv with ⟨i,t,rfl,rfl⟩|⟨x,t,rfl,rfl⟩
   · exact wpAny_pyHash_int h
   · exact wpAny_pyHash_str h
 eqBool:=fun hu hv h=>by
   rcases K9 hu with ⟨i,t,rfl,rfl⟩|⟨x,t,rfl,rfl⟩
   · rcases K9 hv with ⟨j,u,rfl,rfl⟩|⟨y,u,rfl,rfl⟩
     · rw[de5] at h;exact wpAny_eqBool_int h
     · rw[de7] at h;exact SeqAt.EqAt.int_str i t y u _ _ _ _ h
   · rcases K9 hv with ⟨j,u,rfl,rfl⟩|⟨y,u,rfl,rfl⟩
     · rw[de8] at h;exact SeqAt.EqAt.str_int x t j u _ _ _ _ h
     · rw[de6] at h;exact wpAny_eqBool_str h
 «strs»:=fun k x t v h=>by
   rcases K9 h with ⟨i,u,rfl,e⟩|⟨y,u,rfl,e⟩
   · exact nomatch e
   · injection e with e1 _
     subst e1
     cases v<;>rfl
theorem bx5 (prog:Program)(w:World)(i:Int)(t:Tok):(N9 prog w).is (.inl i) (.int i t)=true:=ci1 i t
theorem bx6 (prog:Program)(w:World)(x:Str)(t:Tok):(N9 prog w).is (.inr x) (.str x t)=true:=ci2 x t
end L2
namespace L2
open PySem PySem.Spec PyProof.Rows
inductive V where
 |non|bl (b:Bool)|int (i:Int)|str (x:Str)|byt (b:Array UInt8)|flt (b:UInt64)|ref (a:Addr)|ty (n:String)
 deriving DecidableEq
def A7:V->Value->Prop
 | .non,u=>u=Value.none
 | .bl b,u=>u=Value.bool b
 | .int i,u=>∃t,u=Value.int i t
 | .str x,u=>∃t,u=Value.str x t
 | .byt b,u=>∃t,u=Value.bytes b t
 | .flt b,u=>∃t,u=Value.float b t
 | .ref a,u=>u=Value.ref a
 | .ty n,u=>u=Value.type n
abbrev r6:List V->List Value->Prop:=Paired A7
theorem r6.length {xs:List V}{us:List Value}(r:r6 xs us):xs.length=us.length:=Paired.length r
theorem r6.get:∀{xs:List V} {us:List Value} {i:Nat} {x:V},r6 xs us->xs[i]? =some x->∃u,us[i]? =some u/\A7 x u
 |_,_,_,_,.nil,e=>by simp at e
 |_,_,0,_,.cons r _,e=>by simp at e;subst e;exact ⟨_,rfl,r⟩
 |_,_,i+1,x,.cons _ t,e=>by
  obtain ⟨u,h1,h2⟩:=r6.get (i:=i) (x:=x) t (by simpa using e);exact ⟨u,by simpa using h1,h2⟩
theorem r6.set {x:V}{u:Value}(r:A7 x u):∀{xs:List V} {us:List Value} (i:Nat),r6 xs us->r6 (xs.set i x) (us.set i u)
 |_,_,_,.nil=> .nil
 |_,_,0,.cons _ t=> .cons r t
 |_,_,i+1,.cons q t=> .cons q (r6.set r i t)
theorem r6.append:∀{xs ys:List V} {us ws:List Value},r6 xs us->r6 ys ws->r6 (xs++ys) (us++ws)
 |_,_,_,_,.nil,s=>s
 |_,_,_,_,.cons r t,s=> .cons r (r6.append t s)
theorem r6.take:∀{xs:List V} {us:List Value} (n:Nat),r6 xs us->r6 (xs.take n) (us.take n)
 |_,_,0,_=> .nil
 |_,_,_+1,.nil=> .nil
 |_,_,n+1,.cons r t=> .cons r (r6.take n t)
theorem r6.drop:∀{xs:List V} {us:List Value} (n:Nat),r6 xs us->r6 (xs.drop n) (us.drop n)
 |_,_,0,r=>r
 |_,_,_+1,.nil=> .nil
 |_,_,n+1,.cons _ t=>r6.drop n t
def az6:Option V->Option Value->Prop
 |some v,some u=>A7 v u
 |none,none=>True
 |_,_=>False
def KV {κ:Type}:List (κ×V)->List (κ×Value)->Prop:=Paired fun (p:κ×V) (q:κ×Value)=>p.1=q.1/\A7 p.2 q.2
def kV:C9->V
 | .inl i=> .int i
 | .inr x=> .str x
inductive HO where
 |lst (xs:List V)
 |tup (xs:List V)
 |dK (kvs:List (C9×V))|dT (kvs:List (List C9×V))
 |set (S:Int->Bool) (n:Nat)
 |ins (C dx:Addr) (fs:List (Str×V))
 |own (x:Addr)
 |xd (fs:List (Str×V))
 |met (f x:Addr)
 |rng (lo hi:Int)
 |frz (o:Obj) (u:HO)
 |tbl (ps:Array Value)
 |ext (φ:Heap->Prop)
abbrev Hp:=Addr->Option HO
def i8 (H:Hp)(a:Addr)(o:HO):Hp:=fun b=>if b=a then some o else H b
theorem j6 {H:Hp}{a:Addr}{o:HO}:i8 H a o a=some o:=by unfold i8;rw[if_pos rfl]
theorem j8 {H:Hp}{a b:Addr}{o:HO}(h:b≠a):i8 H a o b=H b:=by unfold i8;rw[if_neg h]
theorem cx9 {H:Hp}{a b:Addr}{o u:HO}(h:H a=some o)(h':H b=some u)(d:o≠u):a≠b:=by
 intro e;subst e;rw[h] at h';exact d (Option.some.inj h')
theorem j9 {H:Hp}{a b:Addr}{o:HO}(h:H a=some o)(h':H b=none):a≠b:=by
 intro e;subst e;rw[h] at h';cases h'
section
variable (P:Program) (w:World)
def C5 (H:Hp)(h:Heap)(a:Addr):HO->Prop
 | .lst xs=>xs.length<=sizeLine/\∃(its:List Value) (n:Nat),r6 xs its/\h.get? a=some {cls:= .type "list",data:= .seq its.toArray n}
 | .tup xs=>xs.length<=sizeLine/\∃its:List Value,r6 xs its/\IsTup h a its.toArray
 | .dK kvs=>kvs.length<=sizeLine/\(a==sysModules)=false/\∃vs,KV kvs vs/\h.DictOf (N9 P w) a vs
 | .dT kvs=>kvs.length<=sizeLine/\(a==sysModules)=false/\∃xs:List (List C9×Addr×Value),
     Paired (fun (p:List C9×V) (q:List C9×Addr×Value)=>p.1=q.1/\H q.2.1=some (.tup (p.1.map kV))/\A7 p.2 q.2.2) kvs xs/\
     ∃o es ep,h.get? a=some o/\o.ExactDict/\o.data= .dict es ep/\es.toList=xs.map (entryOfKey (tupleKind (N9 P w)))/\(xs.map (·.1)).Nodup
 | .set S n=>h.SetOf (intKind P w) a S n
 | .ins C dx fs=>H dx=some (.own a)/\fs.length<=1000/\dx≠a/\h.get? a=some (PySem.W.instObj C dx)/\
     ∃mA,h.Ns1 dx mA/\(∀f,az6 (fs.lookup f) (mA f))/\PySem.Within mA (fs.map (·.1))
 | .own _=>∃o,h.get? a=some o
 | .xd fs=>∃mA,h.Ns1 a mA/\∀f,az6 (fs.lookup f) (mA f)
 | .rng lo hi=>∃t u v,h.get? a=some {cls:= .type "range",data:= .fields #[.int lo t,.int hi u,.int 1 v]}
 | .frz o u=>h.get? a=some o/\C5 H h a u
 | .tbl ps=>h.get? a=some {cls:= .none,data:= .fields ps}
 | .met f x=>h.get? a=some (PySem.W.methodObj (.ref f) (.ref x))
 | .ext φ=>φ h/\(∃o,h.get? a=some o)/\∀h1 h2:Heap,φ h1->(∀o,h1.get? a=some o->h2.get? a=some o)->φ h2
def J4 (H:Hp)(h:Heap):Prop:=∀a o,H a=some o->C5 P w H h a o
end
section
variable {P:Program} {w:World} {H H':Hp} {h h':Heap} {a:Addr} {o:HO}
theorem C5.lt (x:C5 P w H h a o):a < h.objs.size:=by
 cases o with
 |lst xs=>obtain ⟨_,_,_,_,e⟩:=x;exact Heap.lt_size e
 |tup xs=>obtain ⟨_,_,_,p⟩:=x;exact p.lt
 |dK kvs=>obtain ⟨_,_,_,_,o,_,_,e,_⟩:=x;exact Heap.lt_size e
 |dT kvs=>obtain ⟨_,_,_,_,o,_,_,e,_⟩:=x;exact Heap.lt_size e
 |set S n=>obtain ⟨o,_,_,_,e,_⟩:=x;exact Heap.lt_size e
 |ins C dx fs=>obtain ⟨_,_,_,e,_⟩:=x;exact Heap.lt_size e
 |own y=>obtain ⟨_,e⟩:=x;exact Heap.lt_size e
 |xd fs=>obtain ⟨_,⟨_,_,_,e,_⟩,_⟩:=x;exact Heap.lt_size e
 |rng lo hi=>obtain ⟨_,_,_,e⟩:=x;exact Heap.lt_size e
 |frz ob u=>obtain ⟨e,_⟩:=x;exact Heap.lt_size e
 |tbl ps=>exact Heap.lt_size (show h.get? a=some _ from x)
 |met f y=>exact Heap.lt_size (show h.get? a=some _ from x)
 |ext φ=>obtain ⟨_,⟨_,e⟩,_⟩:=x;exact Heap.lt_size e
theorem Paired.mapP {α β:Type}{F G:α->β->Prop}:∀{l₁:List α} {l₂:List β},Paired F l₁ l₂->(∀a b,F a b->G a b)->Paired G l₁ l₂
 |_,_,.nil,_=> .nil
 |_,_,.cons r t,f=> .cons (f _ _ r) (Paired.mapP t f)
theorem C5.stay (x:C5 P w H h a o)(k:∀b u,(b=a\/H b=some (.own a))->h.get? b=some u->h'.get? b=some u)
   (ho:∀b,H b=some (.own a)->H' b=some (.own a)) (ht:∀b xs,H b=some (.tup xs)->H' b=some (.tup xs)):C5 P w H' h' a o:=by
 induction o with
 |lst xs=>obtain ⟨z,its,n,r,e⟩:=x;exact ⟨z,its,n,r,k _ _ (.inl rfl) e⟩
 |tup xs=>obtain ⟨z,its,r,ob,e,c⟩:=x;exact ⟨z,its,r,ob,k _ _ (.inl rfl) e,c⟩
 |dK kvs=>obtain ⟨z,y,vs,r,ob,es,ep,e,c⟩:=x;exact ⟨z,y,vs,r,ob,es,ep,k _ _ (.inl rfl) e,c⟩
 |dT kvs=>
  obtain ⟨z,y,xs,r,ob,es,ep,e,c⟩:=x;exact ⟨z,y,xs,Paired.mapP r fun p q z=>⟨z.1,ht _ _ z.2.1,z.2.2⟩,ob,es,ep,k _ _ (.inl rfl) e,c⟩
 |set S n=>obtain ⟨ob,es,ep,t,e,c⟩:=x;exact ⟨ob,es,ep,t,k _ _ (.inl rfl) e,c⟩
 |ins C dx fs=>
  obtain ⟨d,z,ne,e,mA,⟨od,es,ep,e2,c⟩,r⟩:=x;exact ⟨ho _ d,z,ne,k _ _ (.inl rfl) e,mA,⟨od,es,ep,k _ _ (.inr d) e2,c⟩,r⟩
 |own y=>obtain ⟨ob,e⟩:=x;exact ⟨ob,k _ _ (.inl rfl) e⟩
 |xd fs=>obtain ⟨mA,⟨od,es,ep,e,c⟩,r⟩:=x;exact ⟨mA,⟨od,es,ep,k _ _ (.inl rfl) e,c⟩,r⟩
 |rng lo hi=>obtain ⟨t,u,v,e⟩:=x;exact ⟨t,u,v,k _ _ (.inl rfl) e⟩
 |frz ob u ih=>obtain ⟨e,q⟩:=x;exact ⟨k _ _ (.inl rfl) e,ih q⟩
 |tbl ps=>
  have e:h.get? a=some {cls:= .none,data:= .fields ps}:=x;show h'.get? a=some {cls:= .none,data:= .fields ps};exact k a _ (.inl rfl) e
 |met f y=>
  have e:h.get? a=some (PySem.W.methodObj (.ref f) (.ref y)):=x;show h'.get? a=some (PySem.W.methodObj (.ref f) (.ref y));exact k a _ (.inl rfl) e
 |ext φ=>obtain ⟨p,⟨o,e⟩,st⟩:=x;exact ⟨st _ _ p fun o q=>k _ _ (.inl rfl) q,⟨o,k _ _ (.inl rfl) e⟩,st⟩
theorem J4.lt (x:J4 P w H h)(e:H a=some o):a < h.objs.size:=(x a o e).lt
theorem J4.fresh (x:J4 P w H h)(e:h.objs.size<=a):H a=none:=by
 cases q:H a with
 |none=>rfl
 |some u=>exact absurd (dv9 (x.lt q) e) (dy2 _)
theorem J4.kept (x:J4 P w H h)(k:∀b u,h.get? b=some u->h'.get? b=some u):J4 P w H h':=fun a o e=>
 (x a o e).stay (fun b u _ q=>k b u q) (fun _ q=>q) fun _ _ q=>q
theorem J4.laid (x:J4 P w H h)(k:∀b u,h.get? b=some u->h'.get? b=some u)(hp:h.objs.size<=a)(new:C5 P w (i8 H a o) h' a o):J4 P w (i8 H a o) h':=fun b u e=>by
 have hn:=x.fresh hp
 by_cases hb:b=a
 · subst hb;rw[j6] at e;cases e;exact new
 · rw[j8 hb] at e
   exact (x b u e).stay (fun c v _ q=>k c v q) (fun c q=>by rw[j8 (j9 q hn)];exact q) fun c xs q=>by rw[j8 (j9 q hn)];exact q
end
def Rd (H:Hp)(a:Addr)(u:HO):Prop:=H a=some u\/∃o,H a=some (.frz o u)
theorem Rd.ok {P:Program}{w:World}{H:Hp}{h:Heap}{a:Addr}{u:HO}(r:Rd H a u)(x:J4 P w H h):C5 P w H h a u:=by
 rcases r with r|⟨o,r⟩
 · exact x a u r
 · obtain ⟨_,q⟩:=x a _ r;exact q
def Mut:Option HO->Prop
 |some (.lst _)=>True
 |some (.dK _)=>True
 |some (.dT _)=>True
 |some (.set _ _)=>True
 |some (.ins _ _ _)=>True
 |some (.ext _)=>True
 |_=>False
section
variable {P:Program} {w:World} {H:Hp} {h h':Heap} {x e:Addr} {o':HO}
theorem J4.write (ok:J4 P w H h)(mu:Mut (H x))(he:e=x\/H e=some (.own x))(k:∀b u,b≠e->h.get? b=some u->h'.get? b=some u)(heo:∃u,h'.get? e=some u)
   (new:C5 P w (i8 H x o') h' x o'):J4 P w (i8 H x o') h':=fun b u q=>by
 have nown:∀c y,H c=some (.own y)->c≠x:=fun c y r z=>by subst z;rw[r] at mu;exact mu
 have ntup:∀c xs,H c=some (.tup xs)->c≠x:=fun c xs r z=>by subst z;rw[r] at mu;exact mu
 by_cases hb:b=x
 · subst hb;rw[j6] at q;cases q;exact new
 · rw[j8 hb] at q
   by_cases hbe:b=e
   · have q':H b=some (.own x):=by
       rcases he with z|z
       · exact absurd (hbe.trans z) hb
       · rw[hbe];exact z
     rw[q] at q';cases q';obtain ⟨v,hv⟩:=heo;exact ⟨v,by rw[hbe];exact hv⟩
   · refine (ok b u q).stay (fun c v hc r=>k c v ?_ r) (fun c r=>by rw[j8 (nown c b r)];exact r) fun c xs r=>by rw[j8 (ntup c xs r)];exact r
     rcases hc with rfl|hc
     · exact hbe
     · rintro rfl
       rcases he with z|z
       · exact nown c b hc z
       · rw[hc] at z;cases z;exact hb rfl
end
structure Un (fs ex:List Addr)(H H':Hp)(h h':Heap):Prop where
 keep:∀b o,h.get? b=some o->H b=none->b∉fs->b∉ex->h'.get? b=some o
 slot:∀b o,h.get? b=some o->H b=none->b∈fs->b∉ex->∃sl,h'.get? b=some {o with slots:=sl}
 free:∀b o,h.get? b=some o->H b=none->b∉ex->H' b=none
 there:∀b o,h.get? b=some o->b∉ex->∃o',h'.get? b=some o'
 tups:∀b xs,H b=some (.tup xs)->H' b=some (.tup xs)
 frzs:∀b o u,H b=some (.frz o u)->H' b=some (.frz o u)
 tbls:∀b ps,H b=some (.tbl ps)->∃more,H' b=some (.tbl (ps++more))
section
variable {fs fs' ex ex':List Addr} {H H1 H2:Hp} {h h1 h2 h':Heap} {a x e:Addr} {o:HO}
theorem Un.any (u:Un fs ex H H1 h h1){b:Addr}{ob:Obj}(q:h.get? b=some ob)(n:H b=none)(hx:b∉ex):∃sl,h1.get? b=some {ob with slots:=sl}:=by
 by_cases hb:b∈fs
 · exact u.slot b ob q n hb hx
 · exact ⟨ob.slots,u.keep b ob q n hb hx⟩
theorem Un.kept (k:∀b u,h.get? b=some u->h'.get? b=some u):Un fs ex H H h h':=
 ⟨fun b ob q _ _ _=>k b ob q,fun b ob q _ _ _=>⟨ob.slots,k b ob q⟩,fun _ _ _ n _=>n,fun b ob q _=>⟨ob,k b ob q⟩,fun _ _ q=>q,fun _ _ _ q=>q,fun _ ps q=>⟨#[],by rw[q];simp⟩⟩
theorem Un.refl:Un fs ex H H h h:=Un.kept fun _ _ q=>q
theorem Un.laid (k:∀b u,h.get? b=some u->h'.get? b=some u)(hp:h.objs.size<=a)(hn:H a=none):Un fs ex H (i8 H a o) h h' where
 keep:=fun b u q _ _ _=>k b u q
 slot:=fun b u q _ _ _=>⟨u.slots,k b u q⟩
 free:=fun b u q n _=>by rw[j8 (dx1 (dv9 (Heap.lt_size q) hp))];exact n
 there:=fun b u q _=>⟨u,k b u q⟩
 tups:=fun b xs q=>by rw[j8 (j9 q hn)];exact q
 frzs:=fun b u xs q=>by rw[j8 (j9 q hn)];exact q
 tbls:=fun b ps q=>⟨#[],by rw[j8 (j9 q hn),q];simp⟩
theorem Un.write (mu:Mut (H x))(he:e=x\/H e=some (.own x))(k:∀b u,b≠e->h.get? b=some u->h'.get? b=some u)(heo:∃u,h'.get? e=some u):Un fs ex H (i8 H x o) h h':=by
 have hx:∀b,H b=none->b≠x:=fun b n z=>by subst z;rw[n] at mu;exact mu
 have hb:∀b,H b=none->b≠e:=fun b n z=>by
   subst z
   rcases he with r|r
   · exact hx b n r
   · rw[n] at r;cases r
 have hm:∀b u,H b=some u->¬Mut (some u)->b≠x:=fun b u q nm z=>by subst z;rw[q] at mu;exact nm mu
 refine ⟨fun b u q n _ _=>k b u (hb b n) q,fun b u q n _ _=>⟨u.slots,k b u (hb b n) q⟩,fun b u q n _=>by rw[j8 (hx b n)];exact n,fun b u q _=> ?_,
   fun b xs q=>by rw[j8 (hm b _ q fun z=>z)];exact q,fun b u xs q=>by rw[j8 (hm b _ q fun z=>z)];exact q,fun b ps q=>⟨#[],by rw[j8 (hm b _ q fun z=>z),q];simp⟩⟩
 by_cases hbe:b=e
 · subst hbe;exact heo
 · exact ⟨u,k b u hbe q⟩
end
def trk (h:Heap)(H:Hp):List Addr:=(eb8 h.objs.size).filter fun a=>(H a).isSome
def an7 (h:Heap)(H:Hp):Heap:=PySem.W.hideAll h (trk h H)
theorem ci4 (h:Heap)(H:Hp):(an7 h H).objs.size=h.objs.size:=PySem.W.hideAll_size _ _
theorem cr4 {h:Heap}{H:Hp}{b:Addr}{o:Obj}(e:h.get? b=some o)(n:H b=none):(an7 h H).get? b=some o:=
 PySem.W.hideAll_get _ e fun hm=>by
   have q:(H b).isSome=true:=(List.mem_filter.mp hm).2;rw[n] at q;simp at q
theorem da0 {h:Heap}{H:Hp}{b:Addr}{o:Obj}(e:(an7 h H).get? b=some o):h.get? b=some o/\H b=none:=by
 have e':h.get? b=some o:=PySem.W.of_hideAll (trk h H) e;refine ⟨e',?_⟩
 cases q:H b with
 |none=>rfl
 |some x=>
  have hm:b∈trk h H:=List.mem_filter.mpr ⟨eb2.mpr (Heap.lt_size e'),by simp [q]⟩;have z:(an7 h H).get? b=none:=PySem.W.hideAll_none (trk h H) hm;rw[z] at e;cases e
end L2
namespace L2
open PySem PySem.Spec PyProof.Rows
structure Mod (K:PySem.W.Frag)(mg:Str->Option Value)(base:Heap):Prop where
 kin:K.In base
 glob:base.Ns mainGlobals mg
 blt:∃mb,base.Ns builtinsNs mb/\∀x:Str,x≠"__name__"->mb x=bootBuiltins x
 nolimit:base.NoLimit
structure Cx where
 prog:Program
 w:World
 K:PySem.W.Frag
 mg:Str->Option Value
 base:Heap
 A:Around
 N:List Str
 s₀:Shared
 H₀:Hp
 env:Env
 outer:List Env
 stack:List Env
 ex:List Addr
 fn:Str->Bool
 calm:Bool
 pn:List (Addr×Obj)
 xe:Value->Shared->Prop
def v0 (l:List Env):List Addr:=l.filterMap (·.frame)
abbrev Cx.fs (X:Cx):List Addr:=v0 X.outer
def Vis (sc:Scope)(x:Str):Prop:=sc.names.lookup x=some .local\/sc.names.lookup x=some .cell\/sc.names.lookup x=some .free
def Loc (sc:Scope)(x:Str):Prop:=sc.names.lookup x=some .local\/sc.names.lookup x=some .cell
def do6 (env:Env)(h:Heap)(m:Str->Option Value)(x:Str)(u:Value):Prop:=
 (env.kindOf x=some .local/\m x=some u)\/((env.kindOf x=some .cell\/env.kindOf x=some .free)/\∃c,env.cells.lookup x=some c/\h.IsCell c (some u))
structure Cx.Ok (X:Cx):Prop where
 mod:Mod X.K X.mg X.base
 kind:X.env.scope.kind= .function
 glob:X.env.globals=mainGlobals
 blt:X.env.builtins=builtinsNs
 above:X.s₀.heap.objs.size<=X.env.locals
 inj:∀x y c,X.env.cells.lookup x=some c->X.env.cells.lookup y=some c->x=y
 has:∀x,(X.env.kindOf x=some .cell\/X.env.kindOf x=some .free)->∃c,X.env.cells.lookup x=some c
 cab:∀x c,X.fn x=true->X.env.cells.lookup x=some c->X.s₀.heap.objs.size<=c
 hd:X.calm=true->X.A.handled=none
 frames:X.A.frames=some X.stack
 stk:X.stack=X.outer\/(X.stack=X.env::X.outer/\X.env.frame=some X.env.locals)
 exf:∀b∈X.ex,b≠X.env.locals/\∀x c,X.env.cells.lookup x=some c->c≠b
 bs:∀b o,X.base.get? b=some o->X.s₀.heap.get? b=some o/\X.H₀ b=none
 bsz:X.base.objs.size<=X.s₀.heap.objs.size
 noex:∀b o,X.base.get? b=some o->b∉X.ex
 exfs:∀b∈X.ex,b∉X.fs
 funs:X.s₀.heap.FunFrames X.base X.outer
 frf:∀b∈X.fs,X.H₀ b=none
structure j5 (X:Cx)(pins:List (Addr×Obj))(σ:List (Option V))(H:Hp)(s:Shared):Prop where
 ok:X.Ok
 os:s.os=X.s₀.os
 bare:AllBare s.gens
 base:Un X.fs X.ex X.H₀ H X.s₀.heap s.heap
 loc:∃m,s.heap.Ns X.env.locals m/\∀(i:Nat) (x:Str) (v:V),X.N[i]? =some x->σ[i]? =some (some v)->Vis X.env.scope x->∃u,A7 v u/\do6 X.env s.heap m x u
 cell:∀x c,X.env.cells.lookup x=some c->∃v,s.heap.IsCell c v
 free:H X.env.locals=none
 freeC:∀x c,X.env.cells.lookup x=some c->H c=none
 pin:∀p∈X.pn++pins,s.heap.get? p.1=some p.2/\H p.1=none/\p.1≠X.env.locals/\p.1∉X.fs/\∀v,p.2.data≠.cell v
 hok:J4 X.prog X.w H s.heap
 len:σ.length=X.N.length
section
variable {X:Cx} {pins:List (Addr×Obj)} {σ:List (Option V)} {H H':Hp} {s:Shared} {h':Heap}
theorem Cx.Ok.nofr (ok:X.Ok){b:Addr}{o:Obj}(e:X.base.get? b=some o):b∉X.fs:=fun hb=>by
 have:=(ok.funs.mem hb).1;rw[e] at this;cases this
theorem j5.bs (I:j5 X pins σ H s):∀b o,X.base.get? b=some o->s.heap.get? b=some o/\H b=none:=fun b o e=>
 ⟨I.base.keep b o (I.ok.bs b o e).1 (I.ok.bs b o e).2 (I.ok.nofr e) (I.ok.noex b o e),I.base.free b o (I.ok.bs b o e).1 (I.ok.bs b o e).2 (I.ok.noex b o e)⟩
theorem j5.bk (I:j5 X pins σ H s):∀b o,X.base.get? b=some o->s.heap.get? b=some o:=fun b o e=>(I.bs b o e).1
theorem j5.mod (I:j5 X pins σ H s):Mod X.K X.mg X.base:=I.ok.mod
theorem j5.kIn (I:j5 X pins σ H s):X.K.In s.heap:=I.ok.mod.kin.keeps I.bk
theorem j5.lt (I:j5 X pins σ H s):X.env.locals < s.heap.objs.size:=let ⟨_,hn,_⟩:=I.loc;hn.lt
theorem j5.sz (I:j5 X pins σ H s):X.s₀.heap.objs.size<=s.heap.objs.size:=du3 I.ok.above (dz6 I.lt)
theorem j5.nofs (I:j5 X pins σ H s){a:Addr}(h:s.heap.objs.size<=a):a∉X.fs:=fun hb=>by
 obtain ⟨_,o,ho,_⟩:=I.ok.funs.mem hb;exact absurd (dv9 (Heap.lt_size ho) (du3 I.sz h)) (dy2 _)
theorem j5.cne (I:j5 X pins σ H s):∀x c,X.env.cells.lookup x=some c->c≠X.env.locals:=fun x c e z=>by
 obtain ⟨v,o,ho,hd⟩:=I.cell x c e;obtain ⟨m,⟨o',es,ep,ho',hd',_⟩,_⟩:=I.loc;rw[z,ho'] at ho;cases ho;rw[hd'] at hd;cases hd
theorem j5.funs (I:j5 X pins σ H s):s.heap.FunFrames X.base X.outer:=by
 have all:∀(l:List Env),(∀b∈v0 l,b∈X.fs)->X.s₀.heap.FunFrames X.base l->s.heap.FunFrames X.base l:=by
   intro l
   induction l with
   |nil=>intro _ _;trivial
   |cons env r ih=>
    intro hs hl;obtain ⟨hk,⟨L,o,hf,hn,ho,hd⟩,hr⟩:=hl;have hL:L∈X.fs:=hs L (by unfold v0;rw[dw6,hf];exact dt6)
    obtain ⟨sl,e⟩:=I.base.slot L o ho (I.ok.frf L hL) hL fun z=>I.ok.exfs L z hL
    exact ⟨hk,⟨L,_,hf,hn,e,hd⟩,ih (fun b hb=>hs b (by unfold v0;rw[dw6,hf];exact dt8 _ hb)) hr⟩
 exact all X.outer (fun _ hb=>hb) I.ok.funs
theorem j5.stack (I:j5 X pins σ H s):s.heap.FunFrames X.base X.stack:=by
 rcases I.ok.stk with e|⟨e,hf⟩
 · rw[e];exact I.funs
 · rw[e];obtain ⟨m,hn,_⟩:=I.loc;refine .cons (by rw[I.ok.kind];decide) hf hn ?_ I.funs;exact Heap.get?_none_of_le (du3 I.ok.bsz I.ok.above)
theorem j5.stkSub (I:j5 X pins σ H s):∀b∈v0 X.stack,b∈X.env.locals::X.fs:=fun b hb=>by
 rcases I.ok.stk with e|⟨e,hf⟩
 · rw[e] at hb;exact dt8 _ hb
 · rw[e] at hb;unfold v0 at hb;rw[dw6,hf] at hb;exact hb
theorem j5.stkFree (I:j5 X pins σ H s):∀b∈v0 X.stack,H b=none:=fun b hb=>by
 rcases dw1.mp (I.stkSub b hb) with e|hb
 · rw[e];exact I.free
 · obtain ⟨_,o,ho,_⟩:=I.ok.funs.mem hb
   exact I.base.free b o ho (I.ok.frf b hb) fun z=>I.ok.exfs b z hb
theorem j5.step {g':Array GenState}{t':Nat}{d':Drawn}{ch:List Addr}(I:j5 X pins σ H s)
   (hch:∀b∈ch,(b∈X.ex\/X.s₀.heap.objs.size<=b)/\b≠X.env.locals/\(∀x c,X.env.cells.lookup x=some c->c≠b)/\∀p∈X.pn++pins,p.1≠b)
   (keep:∀b o,b≠X.env.locals->b∉X.fs->b∉ch->s.heap.get? b=some o->H b=none->h'.get? b=some o)
   (slot:∀b o,b≠X.env.locals->b∈X.fs->b∉ch->s.heap.get? b=some o->H b=none->∃sl,h'.get? b=some {o with slots:=sl}) (free:∀b o,b∉ch->s.heap.get? b=some o->H b=none->H' b=none)
   (there:∀b o,b∉ch->s.heap.get? b=some o->∃o',h'.get? b=some o')
   (tups:∀b xs,H b=some (.tup xs)->H' b=some (.tup xs)) (frzs:∀b o u,H b=some (.frz o u)->H' b=some (.frz o u)) (tbls:∀b ps,H b=some (.tbl ps)->∃more,H' b=some (.tbl (ps++more)))
   (ns:∀m,s.heap.Ns X.env.locals m->h'.Ns X.env.locals m) (hok:J4 X.prog X.w H' h') (hg:AllBare g'):
   j5 X pins σ H' {s with heap:=h',gens:=g',drawn:=d',toks:=t'}:=by
 have neL:∀b o,X.s₀.heap.get? b=some o->b≠X.env.locals:=fun b o e=>dx1 (dv9 (Heap.lt_size e) I.ok.above)
 have neC:∀b o,X.s₀.heap.get? b=some o->b∉X.ex->b∉ch:=fun b o e hx hb=>by
   rcases (hch b hb).1 with z|z
   · exact hx z
   · exact absurd (dv9 (Heap.lt_size e) z) (dy2 _)
 have cellK:∀x c,X.env.cells.lookup x=some c->∀v,s.heap.IsCell c v->h'.IsCell c v:=fun x c e v ⟨o,ho,hd⟩=>by
   have nch:c∉ch:=fun z=>(hch c z).2.2.1 x c e rfl
   by_cases hc:c∈X.fs
   · obtain ⟨sl,q⟩:=slot c o (I.cne x c e) hc nch ho (I.freeC x c e);exact ⟨_,q,hd⟩
   · exact ⟨o,keep c o (I.cne x c e) hc nch ho (I.freeC x c e),hd⟩
 refine ⟨I.ok,I.os,hg,⟨fun b o e n hb hx=> ?_,fun b o e n hb hx=> ?_,fun b o e n hx=> ?_,fun b o e hx=> ?_,fun b xs e=>tups b xs (I.base.tups b xs e),fun b o xs e=>frzs b o xs (I.base.frzs b o xs e),fun b ps e=> ?_⟩,?_,fun x c e=> ?_,?_,fun x c e=> ?_,fun p hp=> ?_,hok,I.len⟩
 · exact keep b o (neL b o e) hb (neC b o e hx) (I.base.keep b o e n hb hx) (I.base.free b o e n hx)
 · obtain ⟨sl,e1⟩:=I.base.slot b o e n hb hx;obtain ⟨sl',e2⟩:=slot b _ (neL b o e) hb (neC b o e hx) e1 (I.base.free b o e n hx);exact ⟨sl',e2⟩
 · obtain ⟨o',e1⟩:=I.base.there b o e hx;exact free b o' (neC b o e hx) e1 (I.base.free b o e n hx)
 · obtain ⟨o',e1⟩:=I.base.there b o e hx;exact there b o' (neC b o e hx) e1
 · obtain ⟨m1,e1⟩:=I.base.tbls b ps e;obtain ⟨m2,e2⟩:=tbls b _ e1;exact ⟨m1++m2,by rw[e2,eh3]⟩
 · obtain ⟨m,hn,hl⟩:=I.loc;refine ⟨m,ns m hn,fun i x v e1 e2 e3=> ?_⟩;obtain ⟨u,r,l⟩:=hl i x v e1 e2 e3;refine ⟨u,r,?_⟩
   rcases l with l|⟨k,c,e,z⟩
   · exact .inl l
   · exact .inr ⟨k,c,e,cellK x c e _ z⟩
 · obtain ⟨v,z⟩:=I.cell x c e;exact ⟨v,cellK x c e v z⟩
 · obtain ⟨m,⟨o,_,_,ho,_⟩,_⟩:=I.loc;exact free _ o (fun z=>(hch _ z).2.1 rfl) ho I.free
 · obtain ⟨v,o,ho,hd⟩:=I.cell x c e;exact free c o (fun z=>(hch c z).2.2.1 x c e rfl) ho (I.freeC x c e)
 · obtain ⟨e,n,ne,nf,d⟩:=I.pin p hp
   have nch:p.1∉ch:=fun z=>(hch p.1 z).2.2.2 p hp rfl
   exact ⟨keep p.1 p.2 ne nf nch e n,free p.1 p.2 nch e n,ne,nf,d⟩
theorem j5.un {t':Nat}(I:j5 X pins σ H s)(u:Un X.fs [] H H' s.heap h')(hok:J4 X.prog X.w H' h'):j5 X pins σ H' {s with heap:=h',toks:=t'}:=by
 obtain ⟨m,⟨o,es,ep,ho,r⟩,_⟩:=id I.loc;obtain ⟨sl,hL⟩:=u.any ho I.free (by simp)
 exact I.step (g':=s.gens) (d':=s.drawn) (ch:=[]) (fun _ z=>nomatch z) (fun b o _ hb _ e n=>u.keep b o e n hb (by simp)) (fun b o _ hb _ e n=>u.slot b o e n hb (by simp)) (fun b o _ e n=>u.free b o e n (by simp)) (fun b o _ e=>u.there b o e (by simp)) u.tups u.frzs u.tbls (fun m' hm=>by
   obtain ⟨o',es',ep',ho',r'⟩:=hm;rw[ho] at ho';cases ho'
   exact ⟨_,es',ep',hL,r'⟩) hok I.bare
theorem j5.call {g':Array GenState}{t':Nat}{d':Drawn}{ch:List Addr}(I:j5 X pins σ H s)(u:Un (v0 X.stack) ch H H' s.heap h')(hok:J4 X.prog X.w H' h')(hg:AllBare g')
   (hch:∀b∈ch,(b∈X.ex\/X.s₀.heap.objs.size<=b)/\b≠X.env.locals/\(∀x c,X.env.cells.lookup x=some c->c≠b)/\∀p∈X.pn++pins,p.1≠b):
   j5 X pins σ H' {s with heap:=h',gens:=g',drawn:=d',toks:=t'}:=by
 obtain ⟨m,⟨o,es,ep,ho,r⟩,_⟩:=id I.loc
 obtain ⟨sl,hL⟩:=u.any ho I.free fun z=>(hch _ z).2.1 rfl
 exact I.step (ch:=ch) hch (fun b o hL hb hc e n=>u.keep b o e n (fun z=>(dw1.mp (I.stkSub b z)).elim hL hb) hc) (fun b o _ _ hc e n=>u.any e n hc) (fun b o hc e n=>u.free b o e n hc) (fun b o hc e=>u.there b o e hc) u.tups u.frzs u.tbls (fun m' hm=>by
   obtain ⟨o',es',ep',ho',r'⟩:=hm;rw[ho] at ho';cases ho'
   exact ⟨_,es',ep',hL,r'⟩) hok hg
theorem j5.turned {t':Nat}{it:Addr}(I:j5 X pins σ H s)(k:∀b o,b≠it->s.heap.get? b=some o->h'.get? b=some o)(hn:H it=none)(hL:it≠X.env.locals)
   (h1:it∈X.ex\/X.s₀.heap.objs.size<=it) (h2:∀x c,X.env.cells.lookup x=some c->c≠it) (h3:∀p∈X.pn++pins,p.1≠it):j5 X pins σ H {s with heap:=h',toks:=t'}:=by
 have nit:∀b u,H b=some u->b≠it:=fun b u e z=>by rw[z,hn] at e;cases e
 refine I.step (g':=s.gens) (d':=s.drawn) (ch:=[it]) (fun b hb=> ?_) (fun b o _ _ hc e _=>k b o (fun z=>hc (by simp [z])) e) (fun b o _ _ hc e _=>⟨o.slots,k b o (fun z=>hc (by simp [z])) e⟩) (fun _ _ _ _ n=>n)
   (fun b o hc e=>⟨o,k b o (fun z=>hc (by simp [z])) e⟩) (fun _ _ e=>e) (fun _ _ _ e=>e) (fun b ps e=>⟨#[],by rw[e];simp⟩) (fun m hm=> ?_) (fun b u e=> ?_) I.bare
 · have e:b=it:=by simpa using hb
   subst e;exact ⟨h1,hL,h2,h3⟩
 · obtain ⟨o,es,ep,ho,r⟩:=hm;exact ⟨o,es,ep,k _ o (Ne.symm hL) ho,r⟩
 · refine (I.hok b u e).stay (fun c v hc q=>k c v ?_ q) (fun _ q=>q) fun _ _ q=>q
   rcases hc with z|z
   · rw[z];exact nit b u e
   · exact nit c _ z
theorem j5.tok (I:j5 X pins σ H s)(t:Nat):j5 X pins σ H {s with toks:=t}:=I.un (h':=s.heap) (t':=t) Un.refl I.hok
theorem j5.kept {t':Nat}(I:j5 X pins σ H s)(k:∀b u,s.heap.get? b=some u->h'.get? b=some u):j5 X pins σ H {s with heap:=h',toks:=t'}:=I.un (Un.kept k) (I.hok.kept k)
theorem j5.laid {a:Addr}{o:HO}{t':Nat}(I:j5 X pins σ H s)(k:∀b u,s.heap.get? b=some u->h'.get? b=some u)(hp:s.heap.objs.size<=a)(new:C5 X.prog X.w (i8 H a o) h' a o):
 j5 X pins σ (i8 H a o) {s with heap:=h',toks:=t'}:=I.un (Un.laid k hp (I.hok.fresh hp)) (I.hok.laid k hp new)
theorem j5.write {x e:Addr}{o:HO}{t':Nat}(I:j5 X pins σ H s)(mu:Mut (H x))(he:e=x\/H e=some (.own x))(k:∀b u,b≠e->s.heap.get? b=some u->h'.get? b=some u)(heo:∃u,h'.get? e=some u)
 (new:C5 X.prog X.w (i8 H x o) h' x o):j5 X pins σ (i8 H x o) {s with heap:=h',toks:=t'}:=I.un (Un.write mu he k heo) (I.hok.write mu he k heo new)
theorem j5.pins_of {pins':List (Addr×Obj)}(I:j5 X pins σ H s)(h:∀p∈pins',s.heap.get? p.1=some p.2/\H p.1=none/\p.1≠X.env.locals/\p.1∉X.fs/\∀v,p.2.data≠.cell v):j5 X pins' σ H s:=
 ⟨I.ok,I.os,I.bare,I.base,I.loc,I.cell,I.free,I.freeC,fun p hp=>(du1.mp hp).elim (fun z=>I.pin p (dw8 _ z)) (h p),I.hok,I.len⟩
theorem az7 {N:List Str}(hN:N.Nodup){i j:Nat}{x:Str}(a:N[i]? =some x)(b:N[j]? =some x):i=j:=by
 obtain ⟨h1,e1⟩:=dt9.mp a;obtain ⟨h2,e2⟩:=dt9.mp b;exact (List.getElem_inj hN).mp (e1.trans e2.symm)
theorem bj3 {M:Model}{A:Around}{E:Value->Shared->Prop}{i:Nat}{x:Str}{v:V}{u:Value}{Q:Unit->Shared->Prop}(I:j5 X pins σ H s)(hN:X.N.Nodup)(hi:X.N[i]? =some x)(hx:Loc X.env.scope x)(r:A7 v u)
   (h:∀s',j5 X pins (σ.set i (some v)) H s'->(∃a,Heap.SameBut a s.heap s'.heap/\(a=X.env.locals\/X.env.cells.lookup x=some a))->Q () s') (hf:X.fn x=true\/X.env.scope.names.lookup x=some .local:=by first|exact .inl rfl|exact .inr rfl|assumption):wpAny M A (storeName X.env x u) Q E s:=by
 obtain ⟨m,hn,hl⟩:=id I.loc
 have hcls:(X.env.scope.kind== .class||(X.env.scope.kind== .module&&X.env.locals !=X.env.globals))=false:=by rw[I.ok.kind];rfl
 have hiσ:i < σ.length:=by rw[I.len];exact (dt9.mp hi).1
 have cne:=I.cne
 have tracked:∀{a:Addr} {h':Heap},(∃o,s.heap.get? a=some o/\H a=none)->Heap.SameBut a s.heap h'->J4 X.prog X.w H h':=fun {a h'} ha hs b ob e=>by
   obtain ⟨_,_,hfree⟩:=ha
   refine (I.hok b ob e).stay (fun c w' hc q=>(hs.2 c ?_).trans q) (fun _ q=>q) fun _ _ q=>q
   rintro rfl
   rcases hc with rfl|hc
   · rw[hfree] at e;cases e
   · rw[hfree] at hc;cases hc
 rcases hx with hk|hk
 · refine wpAny_storeName_local hk hn (fun h' hn' hs=> ?_) hcls;obtain ⟨oL,_,_,hoL,_⟩:=id hn;refine h _ ⟨I.ok,I.os,I.bare,⟨fun b o e n hb hx=> ?_,fun b o e n hb hx=> ?_,I.base.free,fun b o e hx=> ?_,I.base.tups,I.base.frzs,I.base.tbls⟩,⟨_,hn',fun j y v' e1 e2 e3=> ?_⟩,fun y c e=> ?_,I.free,I.freeC,fun p hp=> ?_,tracked ⟨oL,hoL,I.free⟩ hs,by simpa using I.len⟩ ⟨_,hs,.inl rfl⟩
   · exact (hs.2 b (dx1 (dv9 (Heap.lt_size e) I.ok.above))).trans (I.base.keep b o e n hb hx)
   · obtain ⟨sl,e1⟩:=I.base.slot b o e n hb hx;exact ⟨sl,(hs.2 b (dx1 (dv9 (Heap.lt_size e) I.ok.above))).trans e1⟩
   · obtain ⟨o',e1⟩:=I.base.there b o e hx;exact ⟨o',(hs.2 b (dx1 (dv9 (Heap.lt_size e) I.ok.above))).trans e1⟩
   · by_cases hj:j=i
     · subst hj;rw[hi] at e1;cases e1;rw[ec6 hiσ] at e2;cases e2;exact ⟨u,r,.inl ⟨hk,by simp⟩⟩
     · rw[ed3 (Ne.symm hj)] at e2;obtain ⟨u',r',q⟩:=hl j y v' e1 e2 e3;refine ⟨u',r',?_⟩
       rcases q with ⟨k,e⟩|⟨k,c,e,z⟩
       · refine .inl ⟨k,?_⟩
         have:y≠x:=fun e=>hj (az7 hN e1 (e▸hi))
         simp [this,e]
       · exact .inr ⟨k,c,e,z.sameBut hs (cne y c e)⟩
   · obtain ⟨w',z⟩:=I.cell y c e;exact ⟨w',z.sameBut hs (cne y c e)⟩
   · obtain ⟨e,n,ne,nf,d⟩:=I.pin p hp;exact ⟨(hs.2 p.1 ne).trans e,n,ne,nf,d⟩
 · have hfn:X.fn x=true:=by
     rcases hf with z|z
     · exact z
     · rw[z] at hk;cases hk
   obtain ⟨c,hc⟩:=I.ok.has x (.inl hk);obtain ⟨w',z⟩:=I.cell x c hc;refine wpAny_storeName_cell I.ok.kind hk hc z (fun h' hc' hs=> ?_);obtain ⟨oc,hoc,hocd⟩:=id z;refine h {s with heap:=h'} ⟨I.ok,I.os,I.bare,⟨fun b o e n hb hx=> ?_,fun b o e n hb hx=> ?_,I.base.free,fun b o e hx=> ?_,I.base.tups,I.base.frzs,I.base.tbls⟩,⟨m,hn.sameBut hs (Ne.symm (cne x c hc)),fun j y v' e1 e2 e3=> ?_⟩,fun y c' e=> ?_,I.free,I.freeC,fun p hp=> ?_,tracked ⟨oc,hoc,I.freeC x c hc⟩ hs,by simpa using I.len⟩ ⟨c,hs,.inr hc⟩
   · exact (hs.2 b (dx1 (dv9 (Heap.lt_size e) (I.ok.cab x c hfn hc)))).trans (I.base.keep b o e n hb hx)
   · obtain ⟨sl,e1⟩:=I.base.slot b o e n hb hx;exact ⟨sl,(hs.2 b (dx1 (dv9 (Heap.lt_size e) (I.ok.cab x c hfn hc)))).trans e1⟩
   · obtain ⟨o',e1⟩:=I.base.there b o e hx;exact ⟨o',(hs.2 b (dx1 (dv9 (Heap.lt_size e) (I.ok.cab x c hfn hc)))).trans e1⟩
   · by_cases hj:j=i
     · subst hj;rw[hi] at e1;cases e1;rw[ec6 hiσ] at e2;cases e2;exact ⟨u,r,.inr ⟨.inl hk,c,hc,hc'⟩⟩
     · rw[ed3 (Ne.symm hj)] at e2;obtain ⟨u',r',q⟩:=hl j y v' e1 e2 e3;refine ⟨u',r',?_⟩
       rcases q with q|⟨k,c',e,z'⟩
       · exact .inl q
       · refine .inr ⟨k,c',e,z'.sameBut hs ?_⟩;rintro rfl;exact hj (az7 hN e1 (I.ok.inj _ _ _ e hc▸hi))
   · by_cases hcc:c'=c
     · subst hcc;exact ⟨_,hc'⟩
     · obtain ⟨w2,z2⟩:=I.cell y c' e;exact ⟨w2,z2.sameBut hs hcc⟩
   · obtain ⟨e,n,ne,nf,d⟩:=I.pin p hp;refine ⟨(hs.2 p.1 ?_).trans e,n,ne,nf,d⟩;intro q;rw[q,hoc] at e;have q':oc=p.2:=Option.some.inj e;exact d w' (by rw[<-q'];exact hocd)
theorem ag2 {M:Model}{A:Around}{E:Value->Shared->Prop}{i:Nat}{x:Str}{v:V}{u:Value}{Q:Unit->Shared->Prop}(I:j5 X pins σ H s)(hN:X.N.Nodup)(hi:X.N[i]? =some x)(hx:Loc X.env.scope x)(r:A7 v u)
   (h:∀s',j5 X pins (σ.set i (some v)) H s'->Q () s') (hf:X.fn x=true\/X.env.scope.names.lookup x=some .local:=by first|exact .inl rfl|exact .inr rfl|assumption):wpAny M A (storeName X.env x u) Q E s:=
 bj3 I hN hi hx r (fun s' I' _=>h s' I') hf
theorem j5.call' {s':Shared}{ch:List Addr}(I:j5 X pins σ H s)(ho:s'.os=s.os)(u:Un (v0 X.stack) ch H H' s.heap s'.heap)(hok:J4 X.prog X.w H' s'.heap)(hg:AllBare s'.gens)
   (hch:∀b∈ch,(b∈X.ex\/X.s₀.heap.objs.size<=b)/\b≠X.env.locals/\(∀x c,X.env.cells.lookup x=some c->c≠b)/\∀p∈X.pn++pins,p.1≠b):j5 X pins σ H' s':=by
 obtain ⟨h',g',d',t',o'⟩:=s';have e:o'=s.os:=ho;subst e;exact I.call (g':=g') (t':=t') (d':=d') u hok hg hch
end
abbrev XK:=Value->Option Addr->Hp->Prop
abbrev St:=List (Option V)
abbrev VK:=V->Hp->Prop
abbrev TE:=St->Hp->VK->Prop
abbrev TT:=St->Hp->(Bool->Hp->Prop)->Prop
abbrev TA:=St->Hp->(List V->Hp->Prop)->Prop
structure ad1 where
 nx:St->Hp->Prop
 rt:VK
 bk:St->Hp->Prop:=fun _ _=>False
 ct:St->Hp->Prop:=fun _ _=>False
abbrev TS:=ad1->St->Hp->Prop
def EP (X:Cx)(pins:List (Addr×Obj))(σ:St)(Q:VK)(u:Value)(s':Shared):Prop:=∃v H',j5 X pins σ H' s'/\A7 v u/\Q v H'
def TP (X:Cx)(pins:List (Addr×Obj))(σ:St)(Q:Bool->Hp->Prop)(b:Bool)(s':Shared):Prop:=∃H',j5 X pins σ H' s'/\Q b H'
def AP (X:Cx)(pins:List (Addr×Obj))(σ:St)(Q:List V->Hp->Prop)(us:List Value)(s':Shared):Prop:=∃vs H',j5 X pins σ H' s'/\r6 vs us/\Q vs H'
def SP (X:Cx)(pins:List (Addr×Obj))(D:ad1)(f:Flow)(s':Shared):Prop:=
 match f with
 | .next=>∃σ' H',j5 X pins σ' H' s'/\D.nx σ' H'
 | .brk=>∃σ' H',j5 X pins σ' H' s'/\D.bk σ' H'
 | .cont=>∃σ' H',j5 X pins σ' H' s'/\D.ct σ' H'
 | .ret u=>∃v σ' H',j5 X pins σ' H' s'/\A7 v u/\D.rt v H'
def PE (X:Cx)(e:Expr)(t:TE):Prop:=
 ∀(pins:List (Addr×Obj)) (s:Shared) (σ:St) (H:Hp) (Q:VK),j5 X pins σ H s->t σ H Q->wpAny (model X.prog X.w) X.A (eval e X.env) (EP X pins σ Q) X.xe s
def PT (X:Cx)(e:Expr)(t:TT):Prop:=
 ∀(pins:List (Addr×Obj)) (s:Shared) (σ:St) (H:Hp) (Q:Bool->Hp->Prop),j5 X pins σ H s->t σ H Q->wpAny (model X.prog X.w) X.A (isTrue e X.env (eval e X.env)) (TP X pins σ Q) X.xe s
def PW (X:Cx)(e:Expr)(t:TT):Prop:=
 ∀(whole:Sem Value) (pins:List (Addr×Obj)) (s:Shared) (σ:St) (H:Hp) (Q:Bool->Hp->Prop),j5 X pins σ H s->t σ H Q->wpAny (model X.prog X.w) X.A (isTrue e X.env whole) (TP X pins σ Q) X.xe s
theorem PW.pt {X:Cx}{e:Expr}{t:TT}(h:PW X e t):PT X e t:=h _
def PA (X:Cx)(es:List Expr)(t:TA):Prop:=
 ∀(pos:Pos) (pins:List (Addr×Obj)) (s:Shared) (σ:St) (H:Hp) (Q:List V->Hp->Prop),j5 X pins σ H s->t σ H Q->wpAny (model X.prog X.w) X.A (spliced (backTo pos (starEach es X.env))) (AP X pins σ Q) X.xe s
def PS (X:Cx)(st:Stmt)(t:TS):Prop:=
 ∀(pins:List (Addr×Obj)) (s:Shared) (σ:St) (H:Hp) (D:ad1),j5 X pins σ H s->t D σ H->wpAny (model X.prog X.w) X.A (exec st X.env) (SP X pins D) X.xe s
def Z0 (X:Cx)(st:List Stmt)(t:TS):Prop:=
 ∀(pins:List (Addr×Obj)) (s:Shared) (σ:St) (H:Hp) (D:ad1),j5 X pins σ H s->t D σ H->wpAny (model X.prog X.w) X.A (execs st X.env) (SP X pins D) X.xe s
theorem A3 {α:Type}{t:Sem α}{Q Q':α->Shared->Prop}{M:Model}{A:Around}{E:Value->Shared->Prop}{s:Shared}(h:wpAny M A t Q E s)(hQ:∀a s,Q a s->Q' a s):wpAny M A t Q' E s:=wpAny_mono h hQ fun _ _ x=>x
end L2
namespace L2
open PySem PySem.Spec PyProof.Rows
section
variable {X:Cx}
def de9 (i:Nat):TE:=fun σ H Q=>∃v,σ[i]? =some (some v)/\Q v H
def tC (v:V):TE:=fun _ H Q=>Q v H
theorem df0 {i:Nat}{x:Str}{pos:Pos}(hN:X.N[i]? =some x)(hv:Vis X.env.scope x)(hd:(x==("__debug__":Str))=false:=by decide)(hcd:(x==("__classdict__":Str))=false:=by decide):PE X (.Name x pos) (de9 i):=by
 intro pins s σ H Q I h;obtain ⟨v,e,h⟩:=h;obtain ⟨m,hn,hl⟩:=I.loc;obtain ⟨u,r,l⟩:=hl i x v hN e hv;have fin:EP X pins σ Q u s:=⟨v,H,I,r,h⟩
 rcases l with ⟨hk,hm⟩|⟨hk,c,hc,hcell⟩
 · exact wpAny_Name (wpAny_loadName_local I.ok.kind hk hn hm fin) hd
 · rcases hk with hk|hk
   · exact wpAny_Name (wpAny_loadName_cell I.ok.kind hk hc hcell fin) hd
   · exact wpAny_Name (wpAny_loadName_free I.ok.kind hk hc hcell fin hcd) hd
theorem i9 {i j pos}:PE X (.Constant (.int i) j pos) (tC (.int i)):=fun _ _ _ H _ I h=>wpAny_Constant_int ⟨.int i,H,I.tok _,⟨_,rfl⟩,h⟩
theorem G1 {b j pos}:PE X (.Constant (.bool b) j pos) (tC (.bl b)):=fun _ _ _ H _ I h=>Constant_bool ⟨.bl b,H,I,rfl,h⟩
theorem G4 {j pos}:PE X (.Constant .none j pos) (tC .non):=fun _ _ _ H _ I h=>Constant_none ⟨.non,H,I,rfl,h⟩
theorem o6 {x j pos}:PE X (.Constant (.str x) j pos) (tC (.str x)):=fun _ _ _ H _ I h=>Calls.Constant_str ⟨.str x,H,I.tok _,⟨_,rfl⟩,h⟩
def Gl (X:Cx)(x:Str):Prop:=X.env.kindOf x=some .globalImplicit
theorem Y4 {E:Value->Shared->Prop}{pins:List (Addr×Obj)}{s:Shared}{σ:St}{H:Hp}{x:Str}{u:Value}{pos:Pos}{Q:Value->Shared->Prop}(I:j5 X pins σ H s)(hg:Gl X x)(hm:X.mg x=some u)(h:Q u s)
   (hd:(x==("__debug__":Str))=false:=by decide):wpAny (model X.prog X.w) X.A (eval (.Name x pos) X.env) Q E s:=
 Calls.Name_function_global I.ok.kind hg (Calls.loadGlobal_global (by rw[I.ok.glob];exact I.mod.glob.keeps I.bk) hm h) hd
theorem as3 {E:Value->Shared->Prop}{pins:List (Addr×Obj)}{s:Shared}{σ:St}{H:Hp}{x:Str}{u:Value}{pos:Pos}{Q:Value->Shared->Prop}(I:j5 X pins σ H s)(hg:Gl X x)(hm:X.mg x=none)(hv:bootBuiltins x=some u)(h:Q u s)
   (hn:x≠"__name__":=by decide) (hd:(x==("__debug__":Str))=false:=by decide):wpAny (model X.prog X.w) X.A (eval (.Name x pos) X.env) Q E s:=by
 obtain ⟨mb,h1,h2⟩:=I.mod.blt;exact Calls.Name_function_global I.ok.kind hg (Calls.loadGlobal_builtin (by rw[I.ok.glob];exact I.mod.glob.keeps I.bk) hm (by rw[I.ok.blt];exact h1.keeps I.bk) ((h2 x hn).trans hv) h) hd
theorem E3 {x:Str}{v:V}{u:Value}{pos:Pos}(hg:Gl X x)(hm:X.mg x=some u)(r:A7 v u)(hd:(x==("__debug__":Str))=false:=by decide):PE X (.Name x pos) (tC v):=
 fun _ _ _ H _ I h=>Y4 I hg hm ⟨v,H,I,r,h⟩ hd
theorem af5 {x:Str}{v:V}{u:Value}{pos:Pos}(hg:Gl X x)(hm:X.mg x=none)(hv:bootBuiltins x=some u)(r:A7 v u)(hn:x≠"__name__":=by decide)(hd:(x==("__debug__":Str))=false:=by decide):PE X (.Name x pos) (tC v):=
 fun _ _ _ H _ I h=>as3 I hg hm hv ⟨v,H,I,r,h⟩ hn hd
variable {a b:Expr} {ta tb:TE} {pos:Pos}
def PC (X:Cx)(op:CmpOp)(a b:Expr)(t:TE):Prop:=
 ∀(pins:List (Addr×Obj)) (s:Shared) (σ:St) (H:Hp) (Q:VK),j5 X pins σ H s->t σ H Q->
  wpAny (model X.prog X.w) X.A (eval a X.env) (fun v s₁=>wpAny (model X.prog X.w) X.A (eval b X.env) (fun u s₂=>wpAny (model X.prog X.w) X.A (compareOp op v u) (EP X pins σ Q) X.xe s₂) X.xe s₁) X.xe s
def tB (t:TE):TT:=fun σ H Q=>t σ H fun x H1=>∃c,x= .bl c/\Q c H1
theorem bp5 {op:CmpOp}{t:TE}(h:PC X op a b t)(h1:behindInMarks op b=false:=by first|exact nobehind _ (by decide) (by decide)|rfl):PT X (.Compare a [op] [b] pos) (tB t):=by
 intro pins s σ H Q I hw;refine wpAny_isTrue_Compare1 (A3 (h pins s σ H _ I hw) fun v s1 h1=>A3 h1 fun u s2 h2=>A3 h2 fun c s3 ⟨x,H1,I1,r1,q1⟩=> ?_) h1;obtain ⟨d,rfl,q⟩:=q1;cases r1;exact wpAny_truthy_bool ⟨H1,I1,q⟩
theorem C6 {e:Expr}{t:TE}(h:PE X e t)(he:∀whole,isTrue e X.env whole=(do let v <-whole;standAt e.pos;holding [v] (truthy v)):=by intro _;rfl):PT X e (tB t):=by
 intro pins s σ H Q I hw;refine isTrue_plain (A3 (h pins s σ H _ I hw) fun v s1 ⟨x,H1,I1,r1,q1⟩=> ?_) (he _);obtain ⟨d,rfl,q⟩:=q1;cases r1;exact wpAny_truthy_bool ⟨H1,I1,q⟩
variable {tA tB':TT} {rest:List Expr}
def do7 (t u:TT):TT:=fun σ H Q=>t σ H fun c H1=>if c=true then u σ H1 Q else Q false H1
def tOr (t u:TT):TT:=fun σ H Q=>t σ H fun c H1=>if c=true then Q true H1 else u σ H1 Q
def do8 (t:TT):TT:=fun σ H Q=>t σ H fun c H1=>Q (!c) H1
theorem al5 (ha:PT X a tA):PW X (.BoolOp .And [a] pos) tA:=by
 intro wh pins s σ H Q I h;refine isTrue_and (A3 (ha pins s σ H Q I h) fun c s1 e=> ?_)
 cases c with
 |true=>exact isTrue_and_nil e
 |false=>exact e
theorem Q1 (ha:PT X a tA):PW X (.BoolOp .Or [a] pos) tA:=by
 intro wh pins s σ H Q I h;refine isTrue_or (A3 (ha pins s σ H Q I h) fun c s1 e=> ?_)
 cases c with
 |false=>exact isTrue_or_nil e
 |true=>exact e
theorem as4 (ha:PT X a tA)(hb:PW X (.BoolOp .And (b::rest) pos) tB'):PW X (.BoolOp .And (a::b::rest) pos) (do7 tA tB'):=by
 intro wh pins s σ H Q I h;refine isTrue_and (A3 (ha pins s σ H _ I h) fun c s1 ⟨H1,I1,q1⟩=> ?_)
 cases c with
 |true=>exact hb wh pins s1 σ H1 Q I1 q1
 |false=>exact ⟨H1,I1,q1⟩
theorem M7 (ha:PT X a tA)(hb:PW X (.BoolOp .Or (b::rest) pos) tB'):PW X (.BoolOp .Or (a::b::rest) pos) (tOr tA tB'):=by
 intro wh pins s σ H Q I h;refine isTrue_or (A3 (ha pins s σ H _ I h) fun c s1 ⟨H1,I1,q1⟩=> ?_)
 cases c with
 |true=>exact ⟨H1,I1,q1⟩
 |false=>exact hb wh pins s1 σ H1 Q I1 q1
theorem J5 (ha:PT X a tA):PT X (.UnaryOp .Not a pos) (do8 tA):=by
 intro pins s σ H Q I h;exact isTrue_not (ha pins s σ H (fun c H1=>Q (!c) H1) I h)
def dk5 (ta tb:TE):TE:=fun σ H Q=>ta σ H fun x H1=>∃c,x= .bl c/\if c=true then tb σ H1 Q else Q (.bl false) H1
def dk6 (ta:TE):TE:=fun σ H Q=>ta σ H fun x H1=>∃c,x= .bl c/\Q (.bl (!c)) H1
theorem al6 {op}{t:TE}(h:PE X a t):PE X (.BoolOp op [a] pos) t:=fun pins s σ H Q I hw=>BoolOp_one (h pins s σ H Q I hw)
theorem Z1 (ha:PE X a ta)(hb:PE X (.BoolOp .And (b::rest) pos) tb):PE X (.BoolOp .And (a::b::rest) pos) (dk5 ta tb):=by
 intro pins s σ H Q I h;refine BoolOp_and (A3 (ha pins s σ H _ I h) fun v s1 ⟨x,H1,I1,r1,q1⟩=> ?_);obtain ⟨c,rfl,q1⟩:=q1;cases r1;refine wpAny_truthy_bool ?_
 cases c with
 |true=>exact hb pins s1 σ H1 Q I1 q1
 |false=>exact ⟨.bl false,H1,I1,rfl,q1⟩
theorem bp6 (ha:PE X a ta):PE X (.UnaryOp .Not a pos) (dk6 ta):=by
 intro pins s σ H Q I h;refine UnaryOp_ (A3 (ha pins s σ H _ I h) fun v s1 ⟨x,H1,I1,r1,q1⟩=> ?_);obtain ⟨c,rfl,q1⟩:=q1;cases r1;exact not_of (wpAny_truthy_bool ⟨.bl (!c),H1,I1,rfl,q1⟩)
def tIf (t:TT)(ta tb:TE):TE:=fun σ H Q=>t σ H fun c H1=>if c=true then ta σ H1 Q else tb σ H1 Q
theorem cr5 {c:Expr}(hc:PT X c tA)(ha:PE X a ta)(hb:PE X b tb):PE X (.IfExp c a b pos) (tIf tA ta tb):=by
 intro pins s σ H Q I h;refine wpAny_IfExp (A3 (hc pins s σ H _ I h) fun d s1 ⟨H1,I1,q1⟩=> ?_)
 cases d with
 |true=>exact ha pins s1 σ H1 Q I1 q1
 |false=>exact hb pins s1 σ H1 Q I1 q1
end
end L2
namespace L2
open PySem PySem.Spec PyProof.Rows
def j7 (K:PySem.W.Frag)(H:Hp)(a:Addr)(xs:List V):Prop:=
 Rd H a (.lst xs)\/
   ∃(o:Obj) (its:Array Value) (n:Nat),K.lookup a=some o/\o.cls= .type "list"/\o.dict=none/\o.data= .seq its n/\its.size<=sizeLine/\r6 xs its.toList
def SqT (K:PySem.W.Frag)(H:Hp)(a:Addr)(xs:List V):Prop:=
 Rd H a (.tup xs)\/
   ∃(o:Obj) (its:Array Value) (n:Nat),K.lookup a=some o/\o.cls= .type "tuple"/\o.data= .seq its n/\its.size<=sizeLine/\r6 xs its.toList
def do9:Value->Option V
 | .none=>some .non
 | .bool b=>some (.bl b)
 | .int i _=>some (.int i)
 | .str x _=>some (.str x)
 | .bytes b _=>some (.byt b)
 | .float b _=>some (.flt b)
 | .ref a=>some (.ref a)
 | .type n=>some (.ty n)
 |_=>none
theorem A7.abs {x:V}{u:Value}(r:A7 x u):do9 u=some x:=by
 cases x with
 |non=>cases r;rfl
 |bl _=>cases r;rfl
 |int _=>obtain ⟨t,rfl⟩:=r;rfl
 |str _=>obtain ⟨t,rfl⟩:=r;rfl
 |byt _=>obtain ⟨t,rfl⟩:=r;rfl
 |flt _=>obtain ⟨t,rfl⟩:=r;rfl
 |ref _=>cases r;rfl
 |ty _=>cases r;rfl
theorem A7.inj {x y:V}{u:Value}(r:A7 x u)(q:A7 y u):x=y:=Option.some.inj (r.abs.symm.trans q.abs)
theorem r6.inj:∀{xs ys:List V} {us:List Value},r6 xs us->r6 ys us->xs=ys
 |_,_,_,.nil,.nil=>rfl
 |_,_,_,.cons r t,.cons r' t'=>by rw[r.inj r',r6.inj t t']
section
variable {X:Cx} {pins:List (Addr×Obj)} {σ:St} {H:Hp} {s:Shared} {a:Addr} {xs ys:List V}
theorem j7.of {K:PySem.W.Frag}(h:H a=some (.lst xs)):j7 K H a xs:= .inl (.inl h)
theorem SqT.of {K:PySem.W.Frag}(h:H a=some (.tup xs)):SqT K H a xs:= .inl (.inl h)
theorem j5.list (I:j5 X pins σ H s)(h:j7 X.K H a xs):∃its:List Value,r6 xs its/\PlainL s.heap a its.toArray/\xs.length<=sizeLine:=by
 rcases h with h|⟨o,its,n,hk,hc,hd,hs,hz,r⟩
 · obtain ⟨z,its,n,r,e⟩:=h.ok I.hok;exact ⟨its,r,⟨_,n,e,rfl,rfl,rfl⟩,z⟩
 · refine ⟨its.toList,r,⟨o,n,I.kIn a o hk,hc,hd,by simpa using hs⟩,?_⟩;have e:=r.length;simp only[dv8] at e;omega
theorem j5.tuple (I:j5 X pins σ H s)(h:SqT X.K H a xs):∃its:List Value,r6 xs its/\IsTup s.heap a its.toArray/\xs.length<=sizeLine:=by
 rcases h with h|⟨o,its,n,hk,hc,hs,hz,r⟩
 · obtain ⟨z,its,r,p⟩:=h.ok I.hok;exact ⟨its,r,p,z⟩
 · refine ⟨its.toList,r,⟨o,I.kIn a o hk,hc,n,by simpa using hs⟩,?_⟩;have e:=r.length;simp only[dv8] at e;omega
theorem j5.list_inj (I:j5 X pins σ H s)(h:j7 X.K H a xs)(h':j7 X.K H a ys):xs=ys:=by
 obtain ⟨its,r,⟨o,n,e,_,_,d⟩,_⟩:=I.list h;obtain ⟨its',r',⟨o',n',e',_,_,d'⟩,_⟩:=I.list h';rw[e] at e';cases e';rw[d] at d'
 injection d' with d1 _
 have:its=its':=by simpa using congrArg dz1 d1
 subst this;exact r.inj r'
end
abbrev Cx.wish (X:Cx)(E:Value->Shared->Prop):Cx:={X with xe:=E}
abbrev Cx.nox (X:Cx):Cx:=X.wish fun _ _=>False
theorem Cx.Ok.wish {X:Cx}(ok:X.Ok)(E:Value->Shared->Prop):(X.wish E).Ok:=
 ⟨ok.mod,ok.kind,ok.glob,ok.blt,ok.above,ok.inj,ok.has,ok.cab,ok.hd,ok.frames,ok.stk,ok.exf,ok.bs,ok.bsz,ok.noex,ok.exfs,ok.funs,ok.frf⟩
theorem Cx.Ok.unwish {X:Cx}{E:Value->Shared->Prop}(ok:(X.wish E).Ok):X.Ok:=
 ⟨ok.mod,ok.kind,ok.glob,ok.blt,ok.above,ok.inj,ok.has,ok.cab,ok.hd,ok.frames,ok.stk,ok.exf,ok.bs,ok.bsz,ok.noex,ok.exfs,ok.funs,ok.frf⟩
section
variable {X:Cx} {pins:List (Addr×Obj)} {σ:St} {H:Hp} {s:Shared} {E:Value->Shared->Prop}
theorem j5.wish (I:j5 X pins σ H s)(E:Value->Shared->Prop):j5 (X.wish E) pins σ H s:=⟨I.ok.wish E,I.os,I.bare,I.base,I.loc,I.cell,I.free,I.freeC,I.pin,I.hok,I.len⟩
theorem j5.unwish (I:j5 (X.wish E) pins σ H s):j5 X pins σ H s:=⟨I.ok.unwish,I.os,I.bare,I.base,I.loc,I.cell,I.free,I.freeC,I.pin,I.hok,I.len⟩
theorem SP.unwish {D:ad1}{f:Flow}{s':Shared}(h:SP (X.wish E) pins D f s'):SP X pins D f s':=by
 cases f with
 |next=>obtain ⟨σ',H',I,q⟩:=h;exact ⟨σ',H',I.unwish,q⟩
 |brk=>obtain ⟨σ',H',I,q⟩:=h;exact ⟨σ',H',I.unwish,q⟩
 |cont=>obtain ⟨σ',H',I,q⟩:=h;exact ⟨σ',H',I.unwish,q⟩
 |ret u=>obtain ⟨v,σ',H',I,r,q⟩:=h;exact ⟨v,σ',H',I.unwish,r,q⟩
theorem Z0.nox {st:List Stmt}{t:TS}(h:Z0 X.nox st t):Z0 X st t:=fun pins s σ H D I hw=>
 wpAny_mono (h pins s σ H D (I.wish _) hw) (fun _ _ q=>q.unwish) fun _ _ z=>False.elim z
end
section
variable {X:Cx} {st:Stmt} {rest:List Stmt} {t u:TS} {e:Expr} {te:TE} {pos:Pos}
def dk7:TS:=fun D σ H=>D.nx σ H
def cr6 (t u:TS):TS:=fun D σ H=>t {D with nx:=u D} σ H
theorem o9:Z0 X [] dk7:=fun _ _ σ H _ I h=>wpAny_execs_nil ⟨σ,H,I,h⟩
theorem i5 (h1:PS X st t)(h2:Z0 X rest u):Z0 X (st::rest) (cr6 t u):=by
 intro pins s σ H D I h;refine wpAny_execs_cons (A3 (h1 pins s σ H {D with nx:=u D} I h) fun f s1 q=> ?_)
 cases f with
 |next=>
  obtain ⟨σ',H',I',q⟩:=q;exact h2 pins s1 σ' H' D I' q
 |ret v=>exact q
 |brk=>exact q
 |cont=>exact q
theorem i7 (h1:PS X st t):Z0 X [st] t:=by
 intro pins s σ H D I h;refine wpAny_execs_cons (A3 (h1 pins s σ H D I h) fun f s1 q=> ?_)
 cases f with
 |next=>exact wpAny_execs_nil q
 |ret v=>exact q
 |brk=>exact q
 |cont=>exact q
theorem j5.quiet {pins:List (Addr×Obj)}{σ:St}{H:Hp}{s:Shared}(I:j5 X pins σ H s):interactive X.env=false:=by simp [interactive,I.ok.kind]
def dk8 (te:TE):TS:=fun D σ H=>te σ H fun _ H1=>D.nx σ H1
theorem O0 (he:PE X e te)(hs:swapsWith e none pos.line X.env=pure false:=by rfl):PS X (.Expr e pos) (dk8 te):=by
 intro pins s σ H D I h;exact wpAny_Expr_any (A3 (he pins s σ H _ I h) fun v s1 ⟨x,H1,I1,r1,q1⟩=>⟨σ,H1,I1,q1⟩) I.quiet hs
def dp0 (te:TE):TS:=fun D σ H=>te σ H D.rt
theorem o5 (he:PE X e te):PS X (.Return (some e) pos) (dp0 te):=by
 intro pins s σ H D I h;exact wpAny_Return_some (A3 (he pins s σ H _ I h) fun v s1 ⟨x,H1,I1,r1,q1⟩=>⟨x,σ,H1,I1,r1,q1⟩)
def dp1 (c:TT)(t u:TS):TS:=fun D σ H=>c σ H fun b H1=>if b=true then t D σ H1 else u D σ H1
theorem w9 {c:Expr}{a b:List Stmt}{tc:TT}(hc:PT X c tc)(ha:Z0 X a t)(hb:Z0 X b u):PS X (.If c a b pos) (dp1 tc t u):=by
 intro pins s σ H D I h;refine wpAny_If (A3 (hc pins s σ H _ I h) fun d s1 ⟨H1,I1,q1⟩=> ?_)
 cases d with
 |true=>exact ha pins s1 σ H1 D I1 q1
 |false=>exact hb pins s1 σ H1 D I1 q1
def ci6:TS:=fun _ _ _=>False
theorem az8:PS X st ci6:=fun _ _ _ _ _ _ h=>h.elim
theorem bj4 {sts:List Stmt}:Z0 X sts ci6:=fun _ _ _ _ _ _ h=>h.elim
end
abbrev TG:=V->St->Hp->(St->Hp->Prop)->Prop
abbrev TGs:=List V->St->Hp->(St->Hp->Prop)->Prop
def PG (X:Cx)(target:Expr)(t:TG):Prop:=
 ∀(pins:List (Addr×Obj)) (s:Shared) (σ:St) (H:Hp) (v:V) (u:Value) (Q:St->Hp->Prop),j5 X pins σ H s->A7 v u->t v σ H Q->
  wpAny (model X.prog X.w) X.A (assign target X.env u) (fun _ s'=>∃σ' H',j5 X pins σ' H' s'/\Q σ' H') X.xe s
def PGs (X:Cx)(ts:List Expr)(t:TGs):Prop:=
 ∀(pins:List (Addr×Obj)) (s:Shared) (σ:St) (H:Hp) (vs:List V) (us:List Value) (Q:St->Hp->Prop),j5 X pins σ H s->r6 vs us->t vs σ H Q->
  wpAny (model X.prog X.w) X.A (assignInOrder ((assignEach ts X.env).map (·.2)) us) (fun _ s'=>∃σ' H',j5 X pins σ' H' s'/\Q σ' H') X.xe s
abbrev cr7:=V->V->V->Hp->(Hp->Prop)->Prop
def df1 (X:Cx)(t:cr7):Prop:=
 ∀(pins:List (Addr×Obj)) (s:Shared) (σ:St) (H:Hp) (o i v:V) (ov iv u:Value) (Q:Hp->Prop),j5 X pins σ H s->A7 o ov->A7 i iv->A7 v u->t o i v H Q->
  wpAny (model X.prog X.w) X.A (setItem ov iv u) (fun _ s'=>∃H',j5 X pins σ H' s'/\Q H') X.xe s
section
variable {X:Cx} {pos:Pos}
def aw6 (i:Nat):TG:=fun v σ H Q=>Q (σ.set i (some v)) H
theorem y8 {i:Nat}{x:Str}(hN:X.N.Nodup)(hi:X.N[i]? =some x)(hx:Loc X.env.scope x)(hf:X.fn x=true\/X.env.scope.names.lookup x=some .local:=by first|exact .inl rfl|exact .inr rfl|assumption):PG X (.Name x pos) (aw6 i):=by
 intro pins s σ H v u Q I r h;exact wpAny_assign_Name (ag2 I hN hi hx r (fun s' I'=>⟨_,H,I',h⟩) hf)
def dp2:TGs:=fun vs σ H Q=>vs=[]/\Q σ H
def dk9 (t:TG)(u:TGs):TGs:=fun vs σ H Q=>∃v r,vs=v::r/\t v σ H fun σ' H'=>u r σ' H' Q
theorem bf7:PGs X [] dp2:=by
 intro pins s σ H vs us Q I r h;obtain ⟨e,h⟩:=h;subst e;cases r;exact assignInOrder_nil ⟨σ,H,I,h⟩
theorem Y3 {e:Expr}{es:List Expr}{t:TG}{u:TGs}(h1:PG X e t)(h2:PGs X es u)
   (hs:(assignEach (e::es) X.env).map (·.2)=assign e X.env::(assignEach es X.env).map (·.2):=by rfl):PGs X (e::es) (dk9 t u):=by
 intro pins s σ H vs us Q I r h;obtain ⟨v,vr,e1,h⟩:=h;subst e1
 cases r with
 |cons r rr=>
  rw[hs];refine assignInOrder_cons (A3 (h1 pins s σ H _ _ _ I r h) fun _ s1 ⟨σ1,H1,I1,q1⟩=> ?_);exact h2 pins s1 σ1 H1 _ _ Q I1 rr q1
def dp3 (K:PySem.W.Frag)(n:Nat)(t:TGs):TG:=fun v σ H Q=>∃a xs,v= .ref a/\SqT K H a xs/\xs.length=n/\t xs σ H Q
theorem bp8 {es:List Expr}{k:Nat}{t:TGs}{n:Nat}(hc:X.calm=true)(h:PGs X es t)
   (hn:(assignEach es X.env).length=n:=by rfl) (hst:(assignEach es X.env).findIdx? (·.1)=none:=by rfl):PG X (.Tuple es k pos) (dp3 X.K n t):=by
 intro pins s σ H v u Q I r hw;obtain ⟨a,xs,e1,hq,hl,hw⟩:=hw;subst e1;cases r;obtain ⟨its,rv,ht,hz⟩:=I.tuple hq
 refine assign_Tuple_tuple (I.ok.hd hc) ht (by simp [hn,<-hl,rv.length]) hst fun h' hx=> ?_
 have I1:j5 X pins σ H {s with heap:=h'}:=I.kept (t':=s.toks) fun b o e=>hx b o (dx1 (Heap.lt_size e)) e
 exact h pins _ σ H xs _ Q I1 (by simpa using rv) hw
def dp4 (to ti:TE)(t:cr7):TG:=fun v σ H Q=>to σ H fun o H1=>ti σ H1 fun i H2=>t o i v H2 fun H3=>Q σ H3
theorem T5 {o i:Expr}{to ti:TE}{t:cr7}(ho:PE X o to)(hi:PE X i ti)(hs:df1 X t)
   (ha:∀v,assign (.Subscript o i pos) X.env v=(do
     let ov <-holding [v] (eval o X.env)
     let iv <-holding [v,ov] (eval i X.env)
     standAt pos
     holding [v,ov,iv] (setItem ov iv v)
     release [v,ov,iv] []):=by intro _;rfl):PG X (.Subscript o i pos) (dp4 to ti t):=by
 intro pins s σ H v u Q I r h;rw[ha];refine wpAny_bind (wpAny_holding (A3 (ho pins s σ H _ I h) fun ov s1 ⟨x,H1,I1,r1,q1⟩=> ?_));refine wpAny_bind (wpAny_holding (A3 (hi pins s1 σ H1 _ I1 q1) fun iv s2 ⟨y,H2,I2,r2,q2⟩=> ?_));refine wpAny_bind (wpAny_standAt (wpAny_bind (wpAny_holding (A3 (hs pins s2 σ H2 x y v ov iv u _ I2 r1 r2 r q2) fun _ s3 ⟨H3,I3,q3⟩=> ?_))));exact wpAny_release ⟨σ,H3,I3,q3⟩
def cd8 (te:TE)(g:TG):TS:=fun D σ H=>te σ H fun x H1=>g x σ H1 D.nx
theorem Q2 {tg e:Expr}{te:TE}{g:TG}(he:PE X e te)(hg:PG X tg g)(hs:swapsWithSole [tg] e pos.line X.env=pure false:=by rfl)(hw:swappedStores [tg] e X.env=pure none:=by rfl)
   (h1:(assignEach [tg] X.env).map (·.2)=[assign tg X.env]:=by rfl):PS X (.Assign [tg] e pos) (cd8 te g):=by
 intro pins s σ H D I h;refine wpAny_Assign_stores (A3 (he pins s σ H _ I h) fun v s1 ⟨x,H1,I1,r1,q1⟩=> ?_) hs hw;rw[h1]
 exact A3 (hg pins s1 σ H1 x v _ I1 r1 q1) fun _ s2 q=>q
theorem m9 {i:Nat}{x:Str}{e:Expr}{te:TE}{pos':Pos}(hN:X.N.Nodup)(hi:X.N[i]? =some x)(hx:Loc X.env.scope x)(he:PE X e te)(hs:swapsWith e (some (.Name x pos')) pos.line X.env=pure false:=by rfl)(hf:X.fn x=true\/X.env.scope.names.lookup x=some .local:=by first|exact .inl rfl|exact .inr rfl|assumption):
   PS X (.Assign [.Name x pos'] e pos) (cd8 te (aw6 i)):=by
 intro pins s σ H D I h;refine wpAny_Assign_Name (A3 (he pins s σ H _ I h) fun v s1 ⟨y,H1,I1,r1,q1⟩=> ?_) hs;exact ag2 I1 hN hi hx r1 (fun s2 I2=>⟨_,H1,I2,q1⟩) hf
end
section
variable {X:Cx} {pos:Pos}
def ci7 (c:TT)(tb:TS):TS:=fun D σ H=>∃W:Nat->St->Hp->Prop,(∃m,W m σ H)/\∀m σ H,W m σ H->
 c σ H fun b H1=>if b=true then ∃N:St->Hp->Prop,(∀σ' H',N σ' H'->∃m',m' < m/\W m' σ' H')/\tb {D with nx:=N,ct:=N,bk:=D.nx} σ H1 else D.nx σ H1
theorem an8 {c:Expr}{body:List Stmt}{tc:TT}{tb:TS}(hp:PassesOwn (model X.prog X.w) X.A X.env X.xe)(hc:PT X c tc)(hb:Z0 X body tb):PS X (.While c body [] pos) (ci7 tc tb):=by
 intro pins s σ H D I h;obtain ⟨W,⟨m0,w0⟩,turn⟩:=h;refine wpAny_While (codeAny_whileLoop (fun n s'=>∃σ' H',j5 X pins σ' H' s'/\W n σ' H') ?_ m0 ⟨σ,H,I,w0⟩);rintro n s1 ⟨σ1,H1,I1,w1⟩;refine wpAny_passesOwn hp (A3 (hc pins s1 σ1 H1 _ I1 (turn n σ1 H1 w1)) fun b s2 ⟨H2,I2,q2⟩=> ?_)
 cases b with
 |true=>
  obtain ⟨N,hN,q2⟩:=q2;rw[if_pos rfl];refine wpAny_passesOwn hp (A3 (hb pins s2 σ1 H2 _ I2 q2) fun f s3 q3=> ?_)
  cases f with
  |next=>
   obtain ⟨σ3,H3,I3,n3⟩:=q3;obtain ⟨m',hm,w3⟩:=hN σ3 H3 n3;exact ⟨m',hm,σ3,H3,I3,w3⟩
  |cont=>
   obtain ⟨σ3,H3,I3,n3⟩:=q3;obtain ⟨m',hm,w3⟩:=hN σ3 H3 n3;exact ⟨m',hm,σ3,H3,I3,w3⟩
  |brk=>exact q3
  |ret v=>exact q3
 |false=>
  rw[if_neg dv4];exact wpAny_execs_nil ⟨σ1,H2,I2,q2⟩
end
structure It where
 go:Nat->Hp->Prop
 yld:Nat->Hp->V->Hp->Prop
 stop:Nat->Hp->Prop
def ag3 (X:Cx)(pins:List (Addr×Obj))(H:Hp)(b:Addr):Prop:=
 H b=none/\b≠X.env.locals/\b∉X.fs/\(b∈X.ex\/X.s₀.heap.objs.size<=b)/\(∀x c,X.env.cells.lookup x=some c->c≠b)/\∀p∈X.pn++pins,p.1≠b
theorem j5.fpOk {X:Cx}{pins:List (Addr×Obj)}{σ:St}{H H':Hp}{s:Shared}{b:Addr}(I:j5 X pins σ H s)(hb:s.heap.objs.size<=b)(hn:H' b=none):ag3 X pins H' b:=by
 refine ⟨hn,Nat.ne_of_gt (dv9 I.lt hb),I.nofs hb,.inr (du3 I.sz hb),fun x c e z=> ?_,fun p hp z=> ?_⟩
 · obtain ⟨v,q⟩:=I.cell x c e;exact absurd (dv9 q.lt (by rw[z];exact hb)) (dy2 _)
 · exact absurd (dv9 (Heap.lt_size (I.pin p hp).1) (by rw[z];exact hb)) (dy2 _)
structure bp9 (P:Program)(w:World)(K:PySem.W.Frag)(tg:Expr)(J:It)(fp:List Addr)(it:Addr)(tn:Nat->Heap->Prop):Prop where
 mem:it∈fp
 obj:∀i h,tn i h->∀b∈fp,∃o,h.get? b=some o/\∀v,o.data≠.cell v
 keep:∀i h h',tn i h->(∀b∈fp,∀o,h.get? b=some o->h'.get? b=some o)->tn i h'
 item:∀(X:Cx),X.prog=P->X.w=w->X.K=K->X.calm=true->∀(i:Nat) (pins:List (Addr×Obj)) (s:Shared) (σ:St) (H:Hp) (E:Value->Shared->Prop),j5 X pins σ H s->(∀b∈fp,ag3 X pins H b)->tn i s.heap->J.go i H->
   wpAny (model P w) X.A (pyNext (.ref it)) (fun r s1=>∃u,r=some u/\
     wpAny (model P w) X.A (letOwnedTupleGo tg (.ref it) u) (fun _ s2=>∃x H',j5 X pins σ H' s2/\A7 x u/\J.yld i H x H'/\tn (i+1) s2.heap/\∀b∈fp,H' b=none) E s1) E s
 done:∀(X:Cx),X.prog=P->X.w=w->X.K=K->X.calm=true->∀(i:Nat) (pins:List (Addr×Obj)) (s:Shared) (σ:St) (H:Hp) (E:Value->Shared->Prop),j5 X pins σ H s->(∀b∈fp,ag3 X pins H b)->tn i s.heap->J.stop i H->
   wpAny (model P w) X.A (pyNext (.ref it)) (fun r s1=>r=none/\j5 X pins σ H s1) E s
 self:∀(A:Around) (i:Nat) (s:Shared) (Q:Value->Shared->Prop) (E:Value->Shared->Prop),tn i s.heap->Q (.ref it) s->wpAny (model P w) A (pyIter (.ref it)) Q E s
abbrev TI:=St->Hp->(It->Hp->Prop)->Prop
def PIE (X:Cx)(pins:List (Addr×Obj))(σ:St)(tg:Expr)(R:It->Hp->Prop)(itv:Value)(s2:Shared):Prop:=
 ∃(it:Addr) (fp:List Addr) (tn:Nat->Heap->Prop) (J:It) (H':Hp),itv= .ref it/\j5 X pins σ H' s2/\bp9 X.prog X.w X.K tg J fp it tn/\tn 0 s2.heap/\(∀b∈fp,ag3 X pins H' b)/\R J H'
def PI (X:Cx)(tg iter:Expr)(wi:TI):Prop:=
 ∀(pins:List (Addr×Obj)) (s:Shared) (σ:St) (H:Hp) (R:It->Hp->Prop),j5 X pins σ H s->wi σ H R->
  wpAny (model X.prog X.w) X.A (eval iter X.env) (fun v s1=>wpAny (model X.prog X.w) X.A (pyIter v) (PIE X pins σ tg R) X.xe s1) X.xe s
theorem cd9 {M:Model}{A:Around}{E:Value->Shared->Prop}{s:Shared}{tg:Expr}{it:Addr}{u:Value}{o:Obj}{n:String}{vs:Array Value}{Q:Unit->Shared->Prop}(ho:s.heap.get? it=some o)(hc:o.cls= .type n)(hd:o.data= .fields vs)
   (hn:["enumerate","zip","dict_itemiterator","dict_reverseitemiterator","odict_iterator","itertools.zip_longest","itertools.pairwise"].contains n=false) (hQ:Q () s):wpAny M A (letOwnedTupleGo tg (.ref it) u) Q E s:=by
 unfold letOwnedTupleGo
 cases tg<;>first
   |exact wpAny_pure hQ
   |(cases u<;>first
       |exact wpAny_pure hQ
       |(refine wpAny_bind (wpAny_load ho ?_)
         rw[hc,hd];show wpAny M A (if (["enumerate","zip","dict_itemiterator","dict_reverseitemiterator","odict_iterator","itertools.zip_longest","itertools.pairwise"].contains n&&vs[0]? ==some (rawInt _))=true then _ else _) Q E s;rw[if_neg (by intro h;rw[hn,Bool.false_and] at h;cases h)]
         exact wpAny_pure hQ))
def Itl (K:PySem.W.Frag)(a:Addr):It:=
 ⟨fun i H=>∃xs x,j7 K H a xs/\xs[i]? =some x,fun i H x H'=>H'=H/\∀xs,j7 K H a xs->xs[i]? =some x,fun i H=>∃xs,j7 K H a xs/\xs.length<=i⟩
def Itr (lo:Int)(n:Nat):It:=⟨fun i _=>i < n,fun i H x H'=>H'=H/\x= .int (lo+i),fun i _=>n<=i⟩
theorem ci8 {P:Program}{w:World}{K:PySem.W.Frag}{tg:Expr}(a it:Addr):bp9 P w K tg (Itl K a) [it] it (fun i h=>h.IsListIter it a i) where
 mem:=by simp
 obj:=fun i h st b hb=>by
   have e:b=it:=by simpa using hb
   subst e;obtain ⟨o,e,c,d⟩:=st;exact ⟨o,e,fun v z=>by rw[d] at z;cases z⟩
 keep:=fun i h h' st k=>st.at fun o e=>k it (by simp) o e
 item:=by
   intro X hP hw hK hc i pins s σ H E I hf st hg;subst hP hw hK;obtain ⟨xs,x,hq,hx⟩:=hg;obtain ⟨its,rv,p,hz⟩:=I.list hq;obtain ⟨u,hu,ru⟩:=rv.get hx;obtain ⟨f0,f1,f2,f3,f4,f5⟩:=hf it (by simp)
   refine wpAny_pyNext_list_item st p.isList (x:=u) (by simpa using hu) fun h' st' sb=> ?_
   have I1:j5 X pins σ H {s with heap:=h'}:=I.turned (t':=s.toks) (fun b o hb e=>(sb.2 b hb).trans e) f0 f1 f3 f4 f5;obtain ⟨o,e,c,d⟩:=id st';exact ⟨u,rfl,cd9 (s:={s with heap:=h'}) e c d (by decide) ⟨x,H,I1,ru,⟨rfl,fun ys hy=>by rw[I.list_inj hy hq];exact hx⟩,st',fun b hb=>(hf b hb).1⟩⟩
 done:=by
   intro X hP hw hK hc i pins s σ H E I hf st hg;subst hP hw hK;obtain ⟨xs,hq,hx⟩:=hg;obtain ⟨its,rv,p,hz⟩:=I.list hq;obtain ⟨f0,f1,f2,f3,f4,f5⟩:=hf it (by simp);have hl:=rv.length
   exact wpAny_pyNext_list_end (I.ok.hd hc) st p.isList (by simp;omega) fun h' eb=>⟨rfl,I.turned (t':=s.toks) (fun b o hb e=>eb b o hb e) f0 f1 f3 f4 f5⟩
 self:=fun _ _ _ _ _ st h=>wpAny_pyIter_listiter st h
theorem ce0 {P:Program}{w:World}{K:PySem.W.Frag}{tg:Expr}(it:Addr)(lo:Int)(n:Nat):bp9 P w K tg (Itr lo n) [it] it (fun i h=>IsRangeIter h it (lo+(i:Nat)*1) ((n:Int) - (i:Nat)) 1) where
 mem:=by simp
 obj:=fun i h st b hb=>by
   have e:b=it:=by simpa using hb
   subst e
   exact ⟨_,st,fun v z=>by
     have z':Data.fields _=Data.cell v:=z
     cases z'⟩
 keep:=fun i h h' st k=>k it (by simp) _ st
 item:=by
   intro X hP hw hK hc i pins s σ H E I hf st hg;subst hP hw hK;obtain ⟨f0,f1,f2,f3,f4,f5⟩:=hf it (by simp);have W:=Walks.range (prog:=X.prog) (w:=X.w) (I.ok.hd hc) it lo 1 n
   refine W.item i s _ _ hg st fun v h' tk hv st' kk=> ?_
   obtain ⟨t,rfl⟩:=hv;have I1:j5 X pins σ H {s with heap:=h',toks:=tk}:=I.turned (fun b o hb e=>kk b o (by simpa using hb) e) f0 f1 f3 f4 f5;refine ⟨_,rfl,cd9 (s:={s with heap:=h',toks:=tk}) (n:="range_iterator") st' rfl rfl (by decide) ⟨.int (lo+i),H,I1,⟨t,?_⟩,⟨rfl,rfl⟩,st',fun b hb=>(hf b hb).1⟩⟩;rw[Int.mul_one]
 done:=by
   intro X hP hw hK hc i pins s σ H E I hf st hg;subst hP hw hK;obtain ⟨f0,f1,f2,f3,f4,f5⟩:=hf it (by simp)
   exact wpAny_pyNext_range_end (I.ok.hd hc) st (by have:n<=i:=hg;omega) fun h' eb=>⟨rfl,I.turned (t':=s.toks) (fun b o hb e=>eb b o hb e) f0 f1 f3 f4 f5⟩
 self:=fun _ _ _ _ _ st h=>wpAny_pyIter_rangeiter st h
end L2
namespace L2
open PySem PySem.Spec PyProof.Rows
section
variable {X:Cx} {tg:Expr}
def cy3 (K:PySem.W.Frag)(tl:TE):TI:=fun σ H R=>tl σ H fun x H1=>∃a,x= .ref a/\(∃xs,j7 K H1 a xs)/\R (Itl K a) H1
theorem E4 {l:Expr}{tl:TE}(hl:PE X l tl):PI X tg l (cy3 X.K tl):=by
 intro pins s σ H R I h
 refine A3 (hl pins s σ H _ I h) fun v s1 ⟨x,H1,I1,r1,q1⟩=> ?_
 obtain ⟨a,e,⟨xs,hq⟩,q⟩:=q1;subst e;cases r1;obtain ⟨its,rv,p,hz⟩:=I1.list hq;refine wpAny_pyIter_list p.isList ?_;refine ⟨s1.heap.objs.size,[s1.heap.objs.size],_,_,H1,rfl,I1.kept (t':=s1.toks) fun b o e=>Heap.get?_push_of_some _ e,ci8 a _,⟨_,Heap.get?_push_size _ rfl,rfl,rfl⟩,fun b hb=> ?_,q⟩
 have e:b=s1.heap.objs.size:=by simpa using hb
 subst e;exact I1.fpOk (dt7 _) (I1.hok.fresh (dt7 _))
theorem cr8 {pins:List (Addr×Obj)}{σ:St}{H:Hp}{s:Shared}{R:It->Hp->Prop}{E:Value->Shared->Prop}{lo hi:Int}{t u v:Tok}{tk:Nat}(I:j5 X pins σ H s)(h1: -(2^62)<=lo)(h2:lo < 2^62)(h3: -(2^62)<=hi)(h4:hi < 2^62)
   (q:R (Itr lo (hi - lo).toNat) H):wpAny (model X.prog X.w) X.A (pyIter (.ref s.heap.objs.size)) (PIE X pins σ tg R) E {s with heap:=s.heap.push {cls:= .type "range",data:= .fields #[.int lo t,.int hi u,.int 1 v]},toks:=tk}:=by
 refine wpAny_pyIter_range (IsRange.new ..) (small_one h1 h2 h3 h4) ?_
 have I1:j5 X pins σ H {s with heap:=s.heap.push {cls:= .type "range",data:= .fields #[.int lo t,.int hi u,.int 1 v]},toks:=tk}:=I.kept fun b o e=>Heap.get?_push_of_some _ e
 refine ⟨(s.heap.push {cls:= .type "range",data:= .fields #[.int lo t,.int hi u,.int 1 v]}).objs.size,[(s.heap.push {cls:= .type "range",data:= .fields #[.int lo t,.int hi u,.int 1 v]}).objs.size],_,_,H,rfl,
   I1.kept (t':=tk) fun b o e=>Heap.get?_push_of_some _ e,ce0 _ lo (hi - lo).toNat,?_,fun b hb=> ?_,q⟩
 · have e1:lo+((0:Nat):Int)*1=lo:=by simp
   have e2:(((hi - lo).toNat:Nat):Int) - ((0:Nat):Int)=Builtin.Range.rangeSize lo hi 1:=by rw[rangeSize_one];split<;>omega
   show IsRangeIter _ _ (lo+((0:Nat):Int)*1) ((((hi - lo).toNat:Nat):Int) - ((0:Nat):Int)) 1;rw[e1,e2];exact Heap.get?_push_size _ rfl
 · have e:b=(s.heap.push {cls:= .type "range",data:= .fields #[.int lo t,.int hi u,.int 1 v]}).objs.size:=by simpa using hb
   subst e;exact I1.fpOk (dt7 _) (I1.hok.fresh (dt7 _))
def dl0 (ta:TA):TI:=fun σ H R=>ta σ H fun vs H1=>∃j:Int,vs=[.int j]/\ -(2^62)<=j/\j < 2^62/\R (Itr 0 j.toNat) H1
theorem N6 {a:Expr}{ta:TA}{p pos:Pos}(hg:Gl X "range")(hm:X.mg "range"=none)(ha:PA X [a] ta)(hs:starEach [a] X.env=[(false,eval a X.env)]:=by rfl):PI X tg (.Call (.Name "range" p) [a] [] pos) (dl0 ta):=by
 intro pins s σ H R I h;refine Call_ (as3 I hg hm boot_range (PyProof.Rows.callWith_type1 (A3 (ha pos pins s σ H _ I h) fun us s1 ⟨vs,H1,I1,r1,q1⟩=> ?_) hs rfl));obtain ⟨j,e,q1,q2,q⟩:=q1;subst e
 cases r1 with
 |cons r rr=>
  cases rr;obtain ⟨t,rfl⟩:=r;exact call_range_1 (cr8 I1 (by omega) (by omega) q1 q2 (by simpa using q))
def dp5 (wi:TI)(g:TG)(tb:TS):TS:=fun D σ H=>wi σ H fun J H1=>∃W:Nat->Nat->St->Hp->Prop,(∃m,W 0 m σ H1)/\∀i m σ H,W i m σ H->
 (J.stop i H/\D.nx σ H)\/(J.go i H/\∃N:St->Hp->Prop,(∀σ' H',N σ' H'->∃m',m' < m/\W (i+1) m' σ' H')/\∀x H',J.yld i H x H'->g x σ H' fun σ2 H2=>tb {D with nx:=N,ct:=N,bk:=D.nx} σ2 H2)
def X8 (fp:List Addr)(h:Heap):List (Addr×Obj):=fp.filterMap fun b=>(h.get? b).map fun o=>(b,o)
theorem V9 {fp:List Addr}{h:Heap}{b:Addr}{o:Obj}(hb:b∈fp)(e:h.get? b=some o):(b,o)∈X8 fp h:=ee3.mpr ⟨b,hb,by rw[e];rfl⟩
theorem as5 {fp:List Addr}{h:Heap}{p:Addr×Obj}(hp:p∈X8 fp h):p.1∈fp/\h.get? p.1=some p.2:=by
 obtain ⟨b,hb,e⟩:=ee3.mp hp
 cases q:h.get? b with
 |none=>rw[q] at e;cases e
 |some o=>
  rw[q] at e;have e':(b,o)=p:=Option.some.inj e;subst e';exact ⟨hb,q⟩
theorem j5.pinned {pins:List (Addr×Obj)}{σ:St}{H:Hp}{s:Shared}{fp:List Addr}(I:j5 X pins σ H s)(hf:∀b∈fp,ag3 X pins H b)(ho:∀b∈fp,∃o,s.heap.get? b=some o/\∀v,o.data≠.cell v):j5 X (pins++X8 fp s.heap) σ H s:=
 I.pins_of fun p hp=>(du1.mp hp).elim (fun z=>I.pin p (du0 _ z)) fun z=>by
   obtain ⟨hb,e⟩:=as5 z;obtain ⟨f0,f1,f2,_⟩:=hf p.1 hb;obtain ⟨o,e',d⟩:=ho p.1 hb;rw[e] at e';cases e';exact ⟨e,f0,f1,f2,d⟩
theorem j5.unpinned {pins pl:List (Addr×Obj)}{σ:St}{H:Hp}{s:Shared}(I:j5 X (pins++pl) σ H s):j5 X pins σ H s:=I.pins_of fun p hp=>I.pin p (du0 _ (dw8 _ hp))
theorem I0 {iter:Expr}{body:List Stmt}{wi:TI}{g:TG}{tb:TS}{pos:Pos}(hp:PassesOwn (model X.prog X.w) X.A X.env X.xe)(hc:X.calm=true)(hi:PI X tg iter wi)(hg:PG X tg g)(hb:Z0 X body tb)
   (hs:∀x,foldedSetIterable iter X.env x=pure x:=by intro _;rfl):PS X (.For tg iter body [] pos) (dp5 wi g tb):=by
 intro pins s σ H D I h;refine wpAny_For (A3 (hi pins s σ H _ I h) fun v s1 h1=>A3 h1 fun itv s2 h2=> ?_) hs;obtain ⟨it,fp,tn,J,H2,e,I2,T,st2,f2,W,⟨m0,w0⟩,turn⟩:=h2;subst e
 have stat:∀{H':Hp},(∀b∈fp,H' b=none)->∀b∈fp,ag3 X pins H' b:=fun hn b hb=>⟨hn b hb,(f2 b hb).2⟩
 refine codeAny_forLoop_any (fun n s'=>∃i σ' H',j5 X pins σ' H' s'/\tn i s'.heap/\(∀b∈fp,H' b=none)/\W i n σ' H') ?_ m0 ⟨0,σ,H2,I2,st2,fun b hb=>(f2 b hb).1,w0⟩;rintro n s3 ⟨i,σ3,H3,I3,st3,fr3,w3⟩
 rcases turn i n σ3 H3 w3 with ⟨stop,qn⟩|⟨go,N,hN,step⟩
 · refine wpAny_passesOwn hp (A3 (T.done X rfl rfl rfl hc i pins s3 σ3 H3 X.xe I3 (stat fr3) st3 stop) fun r s4 ⟨hr,I4⟩=> ?_);subst hr;exact wpAny_execs_nil ⟨σ3,H3,I4,qn⟩
 · refine wpAny_passesOwn hp (A3 (T.item X rfl rfl rfl hc i pins s3 σ3 H3 X.xe I3 (stat fr3) st3 go) fun r s4 ⟨u,hr,h4⟩=> ?_);subst hr;refine wpAny_passesOwn hp (A3 h4 fun _ s5 ⟨x,H5,I5,r5,y5,st5,fr5⟩=> ?_);have I5':=I5.pinned (stat fr5) (T.obj _ _ st5);refine wpAny_passesOwn hp (A3 (hg _ s5 σ3 H5 x u _ I5' r5 (step x H5 y5)) fun _ s6 ⟨σ6,H6,I6,q6⟩=> ?_);refine wpAny_passesOwn hp (A3 (hb _ s6 σ6 H6 _ I6 q6) fun f s7 q7=> ?_)
   have again:∀{σ7:St} {H7:Hp},j5 X (pins++X8 fp s5.heap) σ7 H7 s7->N σ7 H7->∃m,m < n/\∃i σ' H',j5 X pins σ' H' s7/\tn i s7.heap/\(∀b∈fp,H' b=none)/\W i m σ' H':=fun {σ7 H7} I7 n7=>by
     obtain ⟨m',hm,w7⟩:=hN σ7 H7 n7;refine ⟨m',hm,i+1,σ7,H7,I7.unpinned,T.keep _ _ _ st5 fun b hb o e=>(I7.pin (b,o) (du0 _ (du0 _ (V9 hb e)))).1,fun b hb=> ?_,w7⟩;obtain ⟨o,e,d⟩:=T.obj _ _ st5 b hb;exact (I7.pin (b,o) (du0 _ (du0 _ (V9 hb e)))).2.1
   cases f with
   |next=>obtain ⟨σ7,H7,I7,n7⟩:=q7;exact again I7 n7
   |cont=>obtain ⟨σ7,H7,I7,n7⟩:=q7;exact again I7 n7
   |brk=>obtain ⟨σ7,H7,I7,q7⟩:=q7;exact ⟨σ7,H7,I7.unpinned,q7⟩
   |ret v=>obtain ⟨x7,σ7,H7,I7,r7,q7⟩:=q7;exact ⟨x7,σ7,H7,I7.unpinned,r7,q7⟩
end
theorem N0 {K:PySem.W.Frag}{a:Addr}{xs:List V}{g:TG}{tb:TS}{D:ad1}{σ:St}{H:Hp}(Pv:Nat->St->Hp->Prop)(h0:Pv 0 σ H)(hl:∀i σ H,i<=xs.length->Pv i σ H->j7 K H a xs)
   (hs:∀i x σ H,xs[i]? =some x->Pv i σ H->g x σ H fun σ2 H2=>tb {D with nx:=Pv (i+1),ct:=Pv (i+1),bk:=D.nx} σ2 H2) (hd:∀σ H,Pv xs.length σ H->D.nx σ H):
   ∃W:Nat->Nat->St->Hp->Prop,(∃m,W 0 m σ H)/\∀i m σ H,W i m σ H->
    ((Itl K a).stop i H/\D.nx σ H)\/((Itl K a).go i H/\∃N:St->Hp->Prop,(∀σ' H',N σ' H'->∃m',m' < m/\W (i+1) m' σ' H')/\∀x H',(Itl K a).yld i H x H'->g x σ H' fun σ2 H2=>tb {D with nx:=N,ct:=N,bk:=D.nx} σ2 H2):=by
 refine ⟨fun i m σ H=>m=xs.length - i/\i<=xs.length/\Pv i σ H,⟨xs.length,by simp,dv5 _,h0⟩,?_⟩;rintro i m σ H ⟨rfl,hi,p⟩;have q:=hl i σ H hi p
 by_cases hlt:i < xs.length
 · refine .inr ⟨⟨xs,xs[i],q,by simp [hlt]⟩,Pv (i+1),fun σ' H' p'=>⟨xs.length - (i+1),by omega,rfl,hlt,p'⟩,fun x H' y=> ?_⟩;obtain ⟨e,y⟩:=y;subst e;exact hs i x σ _ (y xs q) p
 · have e:i=xs.length:=by omega
   subst e;exact .inl ⟨⟨xs,q,dt7 _⟩,hd σ H p⟩
theorem S4 {lo:Int}{n:Nat}{g:TG}{tb:TS}{D:ad1}{σ:St}{H:Hp}(Pv:Nat->St->Hp->Prop)(h0:Pv 0 σ H)
   (hs:∀i σ H,i < n->Pv i σ H->g (.int (lo+i)) σ H fun σ2 H2=>tb {D with nx:=Pv (i+1),ct:=Pv (i+1),bk:=D.nx} σ2 H2) (hd:∀σ H,Pv n σ H->D.nx σ H):
   ∃W:Nat->Nat->St->Hp->Prop,(∃m,W 0 m σ H)/\∀i m σ H,W i m σ H->
    ((Itr lo n).stop i H/\D.nx σ H)\/((Itr lo n).go i H/\∃N:St->Hp->Prop,(∀σ' H',N σ' H'->∃m',m' < m/\W (i+1) m' σ' H')/\∀x H',(Itr lo n).yld i H x H'->g x σ H' fun σ2 H2=>tb {D with nx:=N,ct:=N,bk:=D.nx} σ2 H2):=by
 refine ⟨fun i m σ H=>m=n - i/\i<=n/\Pv i σ H,⟨n,by simp,dv5 _,h0⟩,?_⟩;rintro i m σ H ⟨rfl,hi,p⟩
 by_cases hlt:i < n
 · refine .inr ⟨hlt,Pv (i+1),fun σ' H' p'=>⟨n - (i+1),by omega,rfl,hlt,p'⟩,fun x H' y=> ?_⟩;obtain ⟨e,y⟩:=y;subst e y;exact hs i σ _ hlt p
 · have e:i=n:=by omega
   subst e;exact .inl ⟨dt7 _,hd σ H p⟩
theorem cr9 {c:TT}{tb:TS}{D:ad1}{σ:St}{H:Hp}(Pv:St->Hp->Prop)(μ:St->Hp->Nat)(h0:Pv σ H)
   (hs:∀σ H,Pv σ H->c σ H fun b H1=>if b=true then tb {D with nx:=fun σ' H'=>Pv σ' H'/\μ σ' H' < μ σ H,ct:=fun σ' H'=>Pv σ' H'/\μ σ' H' < μ σ H,bk:=D.nx} σ H1 else D.nx σ H1)
   (mono:∀σ H Q Q',(∀b H1,Q b H1->Q' b H1)->c σ H Q->c σ H Q'):ci7 c tb D σ H:=by
 refine ⟨fun m σ H=>m=μ σ H/\Pv σ H,⟨_,rfl,h0⟩,?_⟩;rintro m σ H ⟨rfl,p⟩;refine mono σ H _ _ (fun b H1 q=> ?_) (hs σ H p)
 cases b with
 |true=>exact ⟨_,fun σ' H' ⟨p',l⟩=>⟨_,l,rfl,p'⟩,q⟩
 |false=>exact q
end L2
namespace L2
open PySem PySem.Spec PyProof.Rows
abbrev R2:=V->V->Hp->VK->Prop
def S5 (X:Cx)(f:Value->Value->Sem Value)(r:R2):Prop:=
 ∀(pins:List (Addr×Obj)) (s:Shared) (σ:St) (H:Hp) (x y:V) (v u:Value) (Q:VK),j5 X pins σ H s->A7 x v->A7 y u->r x y H Q->
  wpAny (model X.prog X.w) X.A (f v u) (EP X pins σ Q) X.xe s
def UnR (X:Cx)(f:Value->Sem Value)(r:V->Hp->VK->Prop):Prop:=
 ∀(pins:List (Addr×Obj)) (s:Shared) (σ:St) (H:Hp) (x:V) (v:Value) (Q:VK),j5 X pins σ H s->A7 x v->r x H Q->
  wpAny (model X.prog X.w) X.A (f v) (EP X pins σ Q) X.xe s
def K6 (X:Cx)(f:Value)(r:List V->Hp->VK->Prop):Prop:=
 ∀(pins:List (Addr×Obj)) (s:Shared) (σ:St) (H:Hp) (xs:List V) (us:List Value) (Q:VK),j5 X pins σ H s->r6 xs us->r xs H Q->
  wpAny (model X.prog X.w) X.A (call f us) (EP X pins σ Q) X.xe s
def tOp (r:R2)(ta tb:TE):TE:=fun σ H Q=>ta σ H fun x H1=>tb σ H1 fun y H2=>r x y H2 Q
def tUn (r:V->Hp->VK->Prop)(ta:TE):TE:=fun σ H Q=>ta σ H fun x H1=>r x H1 Q
def rI (C:Int->Int->Prop)(g:Int->Int->V):R2:=fun x y H Q=>∃i j,x= .int i/\y= .int j/\C i j/\Q (g i j) H
def rI0 (g:Int->Int->V):R2:=fun x y H Q=>∃i j,x= .int i/\y= .int j/\Q (g i j) H
def rU (g:Int->V):V->Hp->VK->Prop:=fun x H Q=>∃i,x= .int i/\Q (g i) H
section
variable {X:Cx} {a b c:Expr} {ta tb tc:TE} {pos:Pos}
theorem ce1 (ha:PE X a ta)(hb:PE X b tb){pins:List (Addr×Obj)}{s:Shared}{σ:St}{H:Hp}{R:V->V->Hp->Prop}(I:j5 X pins σ H s)
   (h:ta σ H fun x H1=>tb σ H1 fun y H2=>R x y H2) {Q:Value->Shared->Prop} {f:Value->Value->Sem Value}
   (hf:∀v u s2 x y H2,j5 X pins σ H2 s2->A7 x v->A7 y u->R x y H2->wpAny (model X.prog X.w) X.A (f v u) Q X.xe s2):
   wpAny (model X.prog X.w) X.A (eval a X.env) (fun v s₁=>wpAny (model X.prog X.w) X.A (eval b X.env) (fun u s₂=>wpAny (model X.prog X.w) X.A (f v u) Q X.xe s₂) X.xe s₁) X.xe s:=by
 refine A3 (ha pins s σ H _ I h) fun v s1 ⟨x,H1,I1,r1,q1⟩=> ?_
 refine A3 (hb pins s1 σ H1 _ I1 q1) fun u s2 ⟨y,H2,I2,r2,q2⟩=> ?_
 exact hf v u s2 x y H2 I2 r1 r2 q2
theorem k7 {op:Operator}{r:R2}(ho:S5 X (binaryOp op) r)(ha:PE X a ta)(hb:PE X b tb):PE X (.BinOp a op b pos) (tOp r ta tb):=by
 intro pins s σ H Q I h;exact wpAny_BinOp (ce1 ha hb I h fun v u s2 x y H2 I2 rx ry q=>ho pins s2 σ H2 x y v u Q I2 rx ry q)
theorem aw7 {op:UnaryOp}{r:V->Hp->VK->Prop}(ho:UnR X (unaryOp op) r)(ha:PE X a ta):PE X (.UnaryOp op a pos) (tUn r ta):=by
 intro pins s σ H Q I h;exact UnaryOp_ (A3 (ha pins s σ H _ I h) fun v s1 ⟨x,H1,I1,r1,q1⟩=>ho pins s1 σ H1 x v Q I1 r1 q1)
theorem opI {f:Value->Value->Sem Value}{C:Int->Int->Prop}{g:Int->Int->Int}
   (rule:∀(i j:Int) (t u:Tok) (s:Shared) (Q:Value->Shared->Prop) (E:Value->Shared->Prop),C i j->Q (.int (g i j) s.toks) {s with toks:=s.toks+1}->wpAny (model X.prog X.w) X.A (f (.int i t) (.int j u)) Q E s):
   S5 X f (rI C fun i j=> .int (g i j)):=by
 intro pins s σ H x y v u Q I rx ry h;obtain ⟨i,j,rfl,rfl,hc,q⟩:=h;obtain ⟨t,rfl⟩:=rx;obtain ⟨t',rfl⟩:=ry;exact rule i j t t' s _ _ hc ⟨.int (g i j),H,I.tok _,⟨_,rfl⟩,q⟩
theorem df3 {f:Value->Value->Sem Value}{g:Int->Int->Int}
   (rule:∀(i j:Int) (t u:Tok) (s:Shared) (Q:Value->Shared->Prop) (E:Value->Shared->Prop),Q (.int (g i j) s.toks) {s with toks:=s.toks+1}->wpAny (model X.prog X.w) X.A (f (.int i t) (.int j u)) Q E s):
   S5 X f (rI0 fun i j=> .int (g i j)):=by
 intro pins s σ H x y v u Q I rx ry h;obtain ⟨i,j,rfl,rfl,q⟩:=h;obtain ⟨t,rfl⟩:=rx;obtain ⟨t',rfl⟩:=ry;exact rule i j t t' s _ _ ⟨.int (g i j),H,I.tok _,⟨_,rfl⟩,q⟩
theorem cs0 {f:Value->Value->Sem Value}{g:Int->Int->Bool}
   (rule:∀(i j:Int) (t u:Tok) (s:Shared) (Q:Value->Shared->Prop) (E:Value->Shared->Prop),Q (.bool (g i j)) s->wpAny (model X.prog X.w) X.A (f (.int i t) (.int j u)) Q E s):
   S5 X f (rI0 fun i j=> .bl (g i j)):=by
 intro pins s σ H x y v u Q I rx ry h;obtain ⟨i,j,rfl,rfl,q⟩:=h;obtain ⟨t,rfl⟩:=rx;obtain ⟨t',rfl⟩:=ry;exact rule i j t t' s _ _ ⟨.bl (g i j),H,I,rfl,q⟩
def df4 (i j:Int):Prop:=0<=j/\j<=1000000/\i.natAbs < 2^64
def cs1 (i j:Int):Prop:=(-(2^64) < i/\i < 2^64)\/(-(2^64) < j/\j < 2^64)
theorem cs1.ok {i j:Int}(h:cs1 i j):IntMulOk i j:=by
 rcases h with ⟨h1,h2⟩|⟨h1,h2⟩
 · exact .of_left (intBits_le_64 h1 h2)
 · exact .of_right (intBits_le_64 h1 h2)
theorem J6:S5 X (binaryOp .Add) (rI0 fun i j=> .int (i+j)):=df3 fun _ _ _ _ _ _ _ q=>add_int q
theorem as6:S5 X (binaryOp .Sub) (rI0 fun i j=> .int (i - j)):=df3 fun _ _ _ _ _ _ _ q=>sub_int q
theorem as7:S5 X (binaryOp .Mult) (rI cs1 fun i j=> .int (i*j)):=opI fun _ _ _ _ _ _ _ hc q=>mul_int q hc.ok
theorem T7:S5 X (binaryOp .Mod) (rI (fun _ j=>0 < j) fun i j=> .int (i%j)):=opI fun i j _ _ _ _ _ hc q=>by
 have h1:(0:Int) < j:=hc;exact mod_int' (by omega) (by rw[Int.fmod_eq_emod_of_nonneg i (by omega)];exact q)
theorem bc7:S5 X (binaryOp .Pow) (rI df4 fun i j=> .int (i^j.toNat)):=opI fun _ _ _ _ _ _ _ hc q=>pow_int_small hc.1 hc.2.1 hc.2.2 q
theorem unI {f:Value->Sem Value}{g:Int->Int}
   (rule:∀(i:Int) (t:Tok) (s:Shared) (Q:Value->Shared->Prop) (E:Value->Shared->Prop),Q (.int (g i) s.toks) {s with toks:=s.toks+1}->wpAny (model X.prog X.w) X.A (f (.int i t)) Q E s):
   UnR X f (rU fun i=> .int (g i)):=by
 intro pins s σ H x v Q I rx h;obtain ⟨i,rfl,q⟩:=h;obtain ⟨t,rfl⟩:=rx;exact rule i t s _ _ ⟨.int (g i),H,I.tok _,⟨_,rfl⟩,q⟩
theorem al7:UnR X (unaryOp .USub) (rU fun i=> .int (-i)):=unI fun _ _ _ _ _ q=>neg_int q
end
def df5:V->V->Bool
 | .non,.non=>true| .non,.int _=>true| .int _,.non=>true| .non,.bl _=>true| .bl _,.non=>true| .non,.str _=>true| .str _,.non=>true
 | .int _,.int _=>true| .bl _,.bl _=>true| .str _,.str _=>true| .byt _,.byt _=>true
 | .int _,.str _=>true| .str _,.int _=>true| .bl _,.str _=>true| .str _,.bl _=>true
 |_,_=>false
def rEq:R2:=fun x y H Q=>df5 x y=true/\Q (.bl (decide (x=y))) H
def rNe:R2:=fun x y H Q=>df5 x y=true/\Q (.bl (!decide (x=y))) H
theorem bz7 {i j:Int}:decide (V.int i=V.int j)=(i==j):=by
 rw[ee6];simp
theorem cj0 {i j:Bool}:decide (V.bl i=V.bl j)=(i==j):=by
 rw[ee6];simp
theorem bz8 {i j:Str}:decide (V.str i=V.str j)=(i==j):=by
 rw[ee6];simp
theorem bz9 {i j:Array UInt8}:decide (V.byt i=V.byt j)=(i.toList==j.toList):=by
 rw[ee6];cases i;cases j;simp
section
variable {X:Cx} {a b c:Expr} {ta tb tc:TE} {pos:Pos}
theorem C3 {pins:List (Addr×Obj)}{σ:St}{H:Hp}{s:Shared}{Q:VK}{k k':Bool}(I:j5 X pins σ H s)(q:Q (.bl k) H)(e:k=k'):EP X pins σ Q (.bool k') s:=by
 subst e;exact ⟨.bl k,H,I,rfl,q⟩
theorem E5:S5 X (compareOp .Eq) rEq:=by
 intro pins s σ H x y v u Q I rx ry h;obtain ⟨hs,q⟩:=h
 cases x with
 |non=>
  cases rx
  cases y with
  |non=>cases ry;exact PySem.EqNone.eq_none_none (C3 I q (by simp))
  |bl j=>cases ry;exact PySem.EqNone.eq_none_bool (C3 I q (by simp))
  |int j=>obtain ⟨t',rfl⟩:=ry;exact PySem.EqNone.eq_none_int (C3 I q (by simp))
  |str j=>obtain ⟨t',rfl⟩:=ry;exact PySem.EqNone.eq_none_str (C3 I q (by simp))
  |_=>exact absurd (show false=true from hs) dv4
 |bl i=>
  cases rx
  cases y with
  |non=>cases ry;exact PySem.EqNone.eq_bool_none (C3 I q (by simp))
  |bl j=>cases ry;exact eq_bool (C3 I q cj0)
  |str j=>obtain ⟨t',rfl⟩:=ry;exact PySem.EqMixed.eq_bool_str (C3 I q (by simp))
  |_=>exact absurd (show false=true from hs) dv4
 |int i=>
  obtain ⟨t,rfl⟩:=rx
  cases y with
  |non=>cases ry;exact PySem.EqNone.eq_int_none (C3 I q (by simp))
  |int j=>obtain ⟨t',rfl⟩:=ry;exact eq_int (C3 I q bz7)
  |str j=>obtain ⟨t',rfl⟩:=ry;exact PySem.EqMixed.eq_int_str (C3 I q (by simp))
  |_=>exact absurd (show false=true from hs) dv4
 |str i=>
  obtain ⟨t,rfl⟩:=rx
  cases y with
  |non=>cases ry;exact PySem.EqNone.eq_str_none (C3 I q (by simp))
  |bl j=>cases ry;exact PySem.EqMixed.eq_str_bool (C3 I q (by simp))
  |int j=>obtain ⟨t',rfl⟩:=ry;exact PySem.EqMixed.eq_str_int (C3 I q (by simp))
  |str j=>obtain ⟨t',rfl⟩:=ry;exact eq_str (C3 I q bz8)
  |_=>exact absurd (show false=true from hs) dv4
 |byt i=>
  obtain ⟨t,rfl⟩:=rx
  cases y with
  |byt j=>obtain ⟨t',rfl⟩:=ry;exact PySem.W.eq_bytes (C3 I q bz9)
  |_=>exact absurd (show false=true from hs) dv4
 |_=>cases y<;>exact absurd (show false=true from hs) dv4
theorem U7:S5 X (compareOp .NotEq) rNe:=by
 intro pins s σ H x y v u Q I rx ry h;obtain ⟨hs,q⟩:=h
 cases x with
 |non=>
  cases rx
  cases y with
  |non=>cases ry;exact PySem.EqNone.ne_none_none (C3 I q (by simp))
  |bl j=>cases ry;exact PySem.EqNone.ne_none_bool (C3 I q (by simp))
  |int j=>obtain ⟨t',rfl⟩:=ry;exact PySem.EqNone.ne_none_int (C3 I q (by simp))
  |str j=>obtain ⟨t',rfl⟩:=ry;exact PySem.EqNone.ne_none_str (C3 I q (by simp))
  |_=>exact absurd (show false=true from hs) dv4
 |bl i=>
  cases rx
  cases y with
  |non=>cases ry;exact PySem.EqNone.ne_bool_none (C3 I q (by simp))
  |bl j=>cases ry;exact ne_bool (C3 I q (congrArg not cj0))
  |str j=>obtain ⟨t',rfl⟩:=ry;exact PySem.EqMixed.ne_bool_str (C3 I q (by simp))
  |_=>exact absurd (show false=true from hs) dv4
 |int i=>
  obtain ⟨t,rfl⟩:=rx
  cases y with
  |non=>cases ry;exact PySem.EqNone.ne_int_none (C3 I q (by simp))
  |int j=>obtain ⟨t',rfl⟩:=ry;exact ne_int (C3 I q (congrArg not bz7))
  |str j=>obtain ⟨t',rfl⟩:=ry;exact PySem.EqMixed.ne_int_str (C3 I q (by simp))
  |_=>exact absurd (show false=true from hs) dv4
 |str i=>
  obtain ⟨t,rfl⟩:=rx
  cases y with
  |non=>cases ry;exact PySem.EqNone.ne_str_none (C3 I q (by simp))
  |bl j=>cases ry;exact PySem.EqMixed.ne_str_bool (C3 I q (by simp))
  |int j=>obtain ⟨t',rfl⟩:=ry;exact PySem.EqMixed.ne_str_int (C3 I q (by simp))
  |str j=>obtain ⟨t',rfl⟩:=ry;exact ne_str (C3 I q (congrArg not bz8))
  |_=>exact absurd (show false=true from hs) dv4
 |byt i=>
  obtain ⟨t,rfl⟩:=rx
  cases y with
  |byt j=>obtain ⟨t',rfl⟩:=ry;exact PySem.W.ne_bytes (C3 I q (congrArg not bz9))
  |_=>exact absurd (show false=true from hs) dv4
 |_=>cases y<;>exact absurd (show false=true from hs) dv4
theorem aw8:S5 X (compareOp .Lt) (rI0 fun i j=> .bl (decide (i < j))):=cs0 fun _ _ _ _ _ _ _ q=>lt_int q
theorem aw9:S5 X (compareOp .Gt) (rI0 fun i j=> .bl (decide (j < i))):=cs0 fun _ _ _ _ _ _ _ q=>gt_int q
theorem ce2:S5 X (compareOp .GtE) (rI0 fun i j=> .bl (decide (j<=i))):=cs0 fun _ _ _ _ _ _ _ q=>ge_int q
theorem al8:S5 X (compareOp .Is) (fun x y H Q=>y= .non/\Q (.bl (decide (x= .non))) H):=by
 intro pins s σ H x y v u Q I rx ry h;obtain ⟨rfl,q⟩:=h;cases ry;refine is_none_gen (C3 I q ?_)
 cases x<;>first
   |(cases rx;rfl)
   |(obtain ⟨t,rfl⟩:=rx;rfl)
theorem da1:S5 X (compareOp .IsNot) (fun x y H Q=>y= .non/\Q (.bl (!decide (x= .non))) H):=by
 intro pins s σ H x y v u Q I rx ry h;obtain ⟨rfl,q⟩:=h;cases ry;refine isnot_none_gen (C3 I q ?_)
 cases x<;>first
   |(cases rx;rfl)
   |(obtain ⟨t,rfl⟩:=rx;rfl)
theorem bq2:S5 X (compareOp .NotIn) (fun x y H Q=>∃i j,x= .str i/\y= .str j/\Q (.bl (!(!(Builtin.Str.occurrences j i 0 j.length 1).isEmpty))) H):=by
 intro pins s σ H x y v u Q I rx ry h;obtain ⟨i,j,rfl,rfl,q⟩:=h;obtain ⟨t,rfl⟩:=rx;obtain ⟨t',rfl⟩:=ry;exact notIn_str (C3 I q rfl)
theorem o4 (b:Expr){op:CmpOp}(h:op≠.In:=by decide)(h2:op≠.NotIn:=by decide):behindInMarks op b=false:=by
 have e1:(op==CmpOp.In)=false:=by cases op<;>first|rfl|exact absurd rfl h
 have e2:(op==CmpOp.NotIn)=false:=by cases op<;>first|rfl|exact absurd rfl h2
 cases b<;>simp [behindInMarks,e1,e2]
theorem R0 {op:CmpOp}{r:R2}(ho:S5 X (compareOp op) r)(ha:PE X a ta)(hb:PE X b tb)(hm:behindInMarks op b=false):PE X (.Compare a [op] [b] pos) (tOp r ta tb):=by
 intro pins s σ H Q I h;exact wpAny_Compare1 (ce1 ha hb I h fun v u s2 x y H2 I2 rx ry q=>ho pins s2 σ H2 x y v u Q I2 rx ry q) hm
def dl1 (t:TE):TT:=fun σ H Q=>t σ H fun x H'=>∃k,x= .bl k/\Q k H'
theorem m8 {op:CmpOp}{r:R2}(ho:S5 X (compareOp op) r)(ha:PE X a ta)(hb:PE X b tb)(hm:behindInMarks op b=false):PT X (.Compare a [op] [b] pos) (dl1 (tOp r ta tb)):=by
 intro pins s σ H Q I h
 refine wpAny_isTrue_Compare1 (A3 (ha pins s σ H _ I h) fun v s1 ⟨x,H1,I1,r1,q1⟩=>A3 (hb pins s1 σ H1 _ I1 q1) fun u s2 ⟨y,H2,I2,r2,q2⟩=>
   A3 (ho pins s2 σ H2 x y v u _ I2 r1 r2 q2) fun c s3 ⟨z,H3,I3,r3,k,e,q3⟩=> ?_) hm
 subst e;cases r3;exact wpAny_truthy_bool ⟨H3,I3,q3⟩
theorem bc8:(sizeLine:Nat) < 2^63:=by rw[sizeLine_eq];decide
theorem A9:S5 X (binaryOp .Add) (fun x y H Q=>∃i j,x= .str i/\y= .str j/\i.length+j.length<=sizeLine/\Q (.str (i++j)) H):=by
 intro pins s σ H x y v u Q I rx ry h;obtain ⟨i,j,rfl,rfl,hz,q⟩:=h;obtain ⟨t,rfl⟩:=rx;obtain ⟨t',rfl⟩:=ry;exact add_str (fun t' tk=>⟨.str (i++j),H,I.tok _,⟨_,rfl⟩,q⟩) hz
def cs2 (b:Expr):Prop:=∀o i,subscripted b false o i=operate [o,i] (getItem o i)
theorem ak4 (ha:PE X a ta)(hb:PE X b tb)(hs:cs2 b):
   PE X (.Subscript a b pos) (tOp (fun x y H Q=>∃z i c,x= .str z/\y= .int i/\0<=i/\i < 2^63/\i < z.length/\z.cps[i.toNat]? =some c/\Q (.str ⟨#[c]⟩) H) ta tb):=by
 intro pins s σ H Q I h;refine Subscript_ (ce1 ha hb I h fun v u s2 x y H2 I2 rx ry q=> ?_);obtain ⟨z,i,c,rfl,rfl,h0,h63,h1,hc,q⟩:=q;obtain ⟨t,rfl⟩:=rx;obtain ⟨t',rfl⟩:=ry;have e:seqIndex? i z.length=some i.toNat:=PySem.StrLaws.seqIndex_nonneg h0 h1
 exact tail_any (typeIs_str s2 z t) slot_str_getitem.lookup (getItem_str (c:=c) (by
   have e1:decide (i < -(2^63:Int))=false:=decide_eq_false (by omega);have e2:decide (i≥2^63)=false:=decide_eq_false (by omega)
   rw[e1,e2]<;>rfl) (by rw[e];exact hc) ⟨.str ⟨#[c]⟩,H2,I2.tok _,⟨_,rfl⟩,q⟩) (hs _ _)
theorem P6 {x:V}{us:List Value}(r:r6 [x] us):∃u,us=[u]/\A7 x u:=by
 cases r with
 |cons r1 r2=>cases r2;exact ⟨_,rfl,r1⟩
theorem bc9 {x y:V}{us:List Value}(r:r6 [x,y] us):∃u w',us=[u,w']/\A7 x u/\A7 y w':=by
 cases r with
 |cons r1 r2=>
  cases r2 with
  |cons r3 r4=>cases r4;exact ⟨_,_,rfl,r1,r3⟩
theorem cj1 (hc:X.calm=true):K6 X (.builtin "max") (fun xs H Q=>∃i j,xs=[.int i,.int j]/\Q (.int (if j > i then j else i)) H):=by
 intro pins s σ H xs us Q I r h;obtain ⟨i,j,rfl,q⟩:=h;obtain ⟨u,w',rfl,⟨t,rfl⟩,⟨t',rfl⟩⟩:=bc9 r
 refine max_two_ints (I.ok.hd hc) fun h' tk k=>⟨_,H,I.kept k,?_,q⟩
 by_cases hj:j > i
 · rw[if_pos hj,if_pos hj];exact ⟨_,rfl⟩
 · rw[if_neg hj,if_neg hj];exact ⟨_,rfl⟩
theorem cj2 (hc:X.calm=true):K6 X (.builtin "min") (fun xs H Q=>∃i j,xs=[.int i,.int j]/\Q (.int (if j < i then j else i)) H):=by
 intro pins s σ H xs us Q I r h;obtain ⟨i,j,rfl,q⟩:=h;obtain ⟨u,w',rfl,⟨t,rfl⟩,⟨t',rfl⟩⟩:=bc9 r
 refine min_two_ints (I.ok.hd hc) fun h' tk k=>⟨_,H,I.kept k,?_,q⟩
 by_cases hj:j < i
 · rw[if_pos hj,if_pos hj];exact ⟨_,rfl⟩
 · rw[if_neg hj,if_neg hj];exact ⟨_,rfl⟩
theorem bq3:K6 X (.type "str") (fun xs H Q=>∃i,xs=[.int i]/\i.natAbs.log2 < 1920/\Q (.str (toString i)) H):=by
 intro pins s σ H xs us Q I r h;obtain ⟨i,rfl,hz,q⟩:=h;obtain ⟨u,rfl,t,rfl⟩:=P6 r;exact PySem.P.str_of_int hz ⟨.str _,H,I.tok _,⟨_,rfl⟩,q⟩
end
end L2
namespace L2
open PySem PySem.Spec PyProof.Rows
structure cs3 (h:Heap)(x dx C:Addr)(mA:Str->Option Value):Prop where
 obj:h.get? x=some (PySem.W.instObj C dx)
 ns:h.Ns1 dx mA
 ne:dx≠x
theorem cj3 {h:Heap}{dx:Addr}{mA:Str->Option Value}(n:h.Ns1 dx mA):∃od,h.get? dx=some od/\∀name,PySem.W.lookIn name od=some (mA name):=by
 obtain ⟨o,es,ep,ho,hd,hk,_,hm⟩:=n;refine ⟨o,ho,fun name=> ?_⟩;have e:=hm name;unfold nsFind findBy at e;rw[<-Array.find?_toList] at e;unfold PySem.W.lookIn;rw[hd]
 dsimp only
 split
 · rename_i y q;rw[q] at e;exact congrArg some e
 · rename_i q;rw[q] at e
   have a:es.toList.any (·.refKey)=false:=by
     rw[List.any_eq_false];intro y hy;obtain ⟨z,t,hkey⟩:=hk y (Array.mem_toList_iff.mp hy);simp [DictEntry.refKey,hkey]
   have a':¬es.toList.any (·.refKey)=true:=by rw[a];exact dv4
   rw[if_neg a'];exact congrArg some e
theorem cs3.look {h:Heap}{x dx C:Addr}{mA:Str->Option Value}(I:cs3 h x dx C mA):∃od,PySem.W.InstAt h x (PySem.W.instObj C dx) C (some od)/\∀name,PySem.W.lookIn name od=some (mA name):=
 let ⟨od,ho,hl⟩:=cj3 I.ns
 ⟨od,⟨I.obj,rfl,rfl,ho⟩,hl⟩
section
variable {P:Program} {w:World} {H H':Hp} {h h':Heap} {a C dx:Addr} {fs fs':List (Str×V)}
theorem da2 (hok:J4 P w H h)(e:H a=some (.ins C dx fs)):∃mA,cs3 h a dx C mA/\(∀f,az6 (fs.lookup f) (mA f))/\PySem.Within mA (fs.map (·.1))/\fs.length<=1000/\H dx=some (.own a):=by
 obtain ⟨d,z,ne,ob,mA,n,r,q⟩:=(show C5 P w H h a (.ins C dx fs) from hok a _ e);exact ⟨mA,⟨ob,n,ne⟩,r,q,z,d⟩
end
structure Cls (K:PySem.W.Frag)(C:Addr):Prop where
 pg:PySem.W.plainGet K C Str.empty=true
 hd:PySem.W.hasDictIn K C=true
 po:PySem.W.plainOver K C=true
 sa:PySem.W.findIn K (.ref C) "__setattr__"=some (some (.builtin "object.__setattr__"))
theorem Cls.get {K:PySem.W.Frag}{C:Addr}(c:Cls K C)(f:Str):PySem.W.plainGet K C f=true:=c.pg
section
variable {X:Cx} {pins:List (Addr×Obj)} {σ:St} {H:Hp} {s:Shared} {A:Around} {E:Value->Shared->Prop} {Q:Value->Shared->Prop} {c:Value} {b:Bool}
inductive R1 (K:PySem.W.Frag)(H:Hp):V->Value->Prop where
 |non:R1 K H .non (.type "NoneType")
 |bl (x:Bool):R1 K H (.bl x) (.type "bool")
 |int (i:Int):R1 K H (.int i) (.type "int")
 |str (x:Str):R1 K H (.str x) (.type "str")
 |flt (x:UInt64):R1 K H (.flt x) (.type "float")
 |lst {a:Addr} {xs:List V} (e:H a=some (.lst xs)):R1 K H (.ref a) (.type "list")
 |frz {a:Addr} {o:Obj} {xs:List V} (e:H a=some (.frz o (.lst xs))):R1 K H (.ref a) (.type "list")
 |tup {a:Addr} {xs:List V} (e:H a=some (.tup xs)):R1 K H (.ref a) (.type "tuple")
 |dK {a:Addr} {kvs:List (C9×V)} (e:H a=some (.dK kvs)):R1 K H (.ref a) (.type "dict")
 |dT {a:Addr} {kvs:List (List C9×V)} (e:H a=some (.dT kvs)):R1 K H (.ref a) (.type "dict")
 |ins {a C dx:Addr} {fs:List (Str×V)} (e:H a=some (.ins C dx fs)) (cl:Cls K C) (ha:PySem.W.findIn K (.ref C) "__class__"=some (some (.builtin "object.__class__")))
     (hn:PySem.W.specialIn K (.builtin "object.__class__") "__get__"=some (some (.builtin "getset_descriptor.__get__"))) (htk:PySem.W.takesIn K (.builtin "object.__class__")=some true)
     (hm:PySem.W.mroIn K C (.type "object")=some true):R1 K H (.ref a) (.ref C)
theorem cj4 {x:V}{u t:Value}(I:j5 X pins σ H s)(rx:A7 x u)(ty:R1 X.K H x t)(e:PySem.W.kitOne X.K t c=some b)(h:∀tk,Q (.bool b) {s with toks:=tk}):
   wpAny (model X.prog X.w) A (call (.builtin "isinstance") [u,c]) Q E s:=by
 cases ty with
 |non=>cases (show u=Value.none from rx);exact PySem.W.kia_one PySem.W.kitx_none I.kIn True.intro e (fun z=>nomatch z) h
 |bl y=>cases (show u=Value.bool y from rx);exact PySem.W.kia_one PySem.W.kitx_bool I.kIn True.intro e (fun z=>nomatch z) h
 |int i=>obtain ⟨t,q⟩:=(show ∃t,u=Value.int i t from rx);cases q;exact PySem.W.kia_one PySem.W.kitx_int I.kIn True.intro e (fun z=>nomatch z) h
 |str y=>obtain ⟨t,q⟩:=(show ∃t,u=Value.str y t from rx);cases q;exact PySem.W.kia_one PySem.W.kitx_str I.kIn True.intro e (fun z=>nomatch z) h
 |flt y=>obtain ⟨t,q⟩:=(show ∃t,u=Value.float y t from rx);cases q;exact PySem.W.kia_one PySem.W.kitx_float I.kIn True.intro e (fun z=>nomatch z) h
 |@lst a xs ea=>
  cases (show u=Value.ref a from rx);obtain ⟨_,_,n,_,h1⟩:=(show C5 X.prog X.w H s.heap a (.lst xs) from I.hok a _ ea);exact PySem.W.kia_one PySem.W.kitx_list I.kIn ⟨_,h1,rfl⟩ e (fun z=>nomatch z) h
 |@frz a ob xs ea=>
  cases (show u=Value.ref a from rx);obtain ⟨_,_,_,n,_,h1⟩:=(show C5 X.prog X.w H s.heap a (.frz ob (.lst xs)) from I.hok a _ ea);exact PySem.W.kia_one PySem.W.kitx_list I.kIn ⟨_,h1,rfl⟩ e (fun z=>nomatch z) h
 |@tup a xs ea=>
  cases (show u=Value.ref a from rx);obtain ⟨_,_,_,p⟩:=(show C5 X.prog X.w H s.heap a (.tup xs) from I.hok a _ ea);obtain ⟨o,h1,h2,_⟩:=p;exact PySem.W.kia_one PySem.W.kitx_tuple I.kIn ⟨o,h1,h2⟩ e (fun z=>nomatch z) h
 |@dK a kvs ea=>
  cases (show u=Value.ref a from rx);obtain ⟨_,_,vs,_,p⟩:=(show C5 X.prog X.w H s.heap a (.dK kvs) from I.hok a _ ea);obtain ⟨o,es,ep,h1,h2,_⟩:=p;exact PySem.W.kia_one PySem.W.kitx_dict I.kIn ⟨o,h1,h2.1⟩ e (fun z=>nomatch z) h
 |@dT a kvs ea=>
  cases (show u=Value.ref a from rx);obtain ⟨_,_,xs,_,o,es,ep,h1,h2,_⟩:=(show C5 X.prog X.w H s.heap a (.dT kvs) from I.hok a _ ea);exact PySem.W.kia_one PySem.W.kitx_dict I.kIn ⟨o,h1,h2.1⟩ e (fun z=>nomatch z) h
 |@ins a C dx fs ea cl ha hn htk hm=>
  cases (show u=Value.ref a from rx);obtain ⟨mA,O,_⟩:=da2 I.hok ea;obtain ⟨od,J,_⟩:=O.look;exact PySem.W.kia_one (PySem.W.kitx_own (cl.get _) cl.hd ha hn htk hm) I.kIn J e (fun z=>nomatch z) h
end
end L2
namespace L2
open PySem PySem.Spec PyProof.Rows
structure A4 (k:Nat)(A:Around):Prop where
 hd:A.handled=none
 dp:A.depth+3*k+5 < recursionLimit
 un:A.units+16*k+200 < cLine
 gd:A.guards=some []
theorem A4.mono {j k:Nat}{A:Around}(r:A4 k A)(h:j<=k):A4 j A:=⟨r.hd,by have:=r.dp;omega,by have:=r.un;omega,r.gd⟩
theorem A4.deeper {k:Nat}{A:Around}(r:A4 (k+1) A)(env:Env):A4 k (A.deeper env):=
 ⟨r.hd,by have:=r.dp;show A.depth+1+3*k+5 < _;omega,by have:=r.un;show A.units+3+16*k+200 < _;omega,r.gd⟩
theorem A4.depth {k:Nat}{A:Around}(r:A4 k A):A.depth < recursionLimit:=by have:=r.dp;omega
theorem A4.units {k:Nat}{A:Around}(r:A4 k A):A.units+64 < cLine:=by have:=r.un;omega
def df7:TA:=fun _ H Q=>Q [] H
def cy5 (ta:TE)(tr:TA):TA:=fun σ H Q=>ta σ H fun x H1=>tr σ H1 fun xs H2=>Q (x::xs) H2
section
variable {X:Cx} {e:Expr} {es:List Expr} {te:TE} {t:TA} {pos:Pos}
theorem i4:PA X [] df7:=fun _ _ _ _ H Q I h=>Calls.spliced_nil ⟨[],H,I,.nil,h⟩
theorem c9 (ha:PE X e te)(hr:PA X es t)(hs:starEach (e::es) X.env=(false,eval e X.env)::starEach es X.env:=by rfl):PA X (e::es) (cy5 te t):=by
 intro pos pins s σ H Q I h;rw[hs];show wpAny _ _ (spliced ((false,eval e X.env)::backTo pos (starEach es X.env))) _ _ s;refine Calls.spliced_cons (A3 (ha pins s σ H _ I h) fun u s1 ⟨x,H1,I1,r1,q1⟩=> ?_)
 exact A3 (hr pos pins s1 σ H1 _ I1 q1) fun us s2 ⟨xs,H2,I2,r2,q2⟩=>⟨x::xs,H2,I2,.cons r1 r2,q2⟩
def dp6 (t:TA):TE:=fun σ H Q=>t σ H fun xs H1=>xs.length<=sizeLine/\∀p,H1 p=none->Q (.ref p) (i8 H1 p (.tup xs))
def dp7 (t:TA):TE:=fun σ H Q=>t σ H fun xs H1=>xs.length<=sizeLine/\∀p,H1 p=none->Q (.ref p) (i8 H1 p (.lst xs))
theorem X9 {x1}(h:PA X es t):PE X (.Tuple es x1 pos) (dp6 t):=by
 intro pins s σ H Q I hq;refine wpAny_Tuple_spliced (A3 (h pos pins s σ H _ I hq) fun us s1 ⟨xs,H1,I1,r,z,q⟩=>⟨by rw[<-r.length];exact z,?_⟩);have hf:H1 s1.heap.objs.size=none:=I1.hok.fresh (dt7 _);refine ⟨.ref s1.heap.objs.size,i8 H1 s1.heap.objs.size (.tup xs),I1.laid (t':=s1.toks) (fun b u e=>Heap.get?_push_of_some _ e) (dt7 _) ?_,rfl,q _ hf⟩;exact ⟨z,us,r,⟨_,Heap.get?_push_size _ rfl,rfl,_,rfl⟩⟩
theorem w4 (h:PA X es t):PE X (.List es pos) (dp7 t):=by
 intro pins s σ H Q I hq;refine wpAny_List_spliced (A3 (h pos pins s σ H _ I hq) fun us s1 ⟨xs,H1,I1,r,z,q⟩=>⟨by rw[<-r.length];exact z,?_⟩);have hf:H1 s1.heap.objs.size=none:=I1.hok.fresh (dt7 _);refine ⟨.ref s1.heap.objs.size,i8 H1 s1.heap.objs.size (.lst xs),I1.laid (t':=s1.toks) (fun b u e=>Heap.get?_push_of_some _ e) (dt7 _) ?_,rfl,q _ hf⟩;exact ⟨z,us,0,r,Heap.get?_push_size _ rfl⟩
end
abbrev Sp:=List V->Hp->VK->XK->Prop
abbrev CXT:=List Env->Hp->Shared->XK->Value->Shared->Prop
structure ce3 (P:Program)(w:World)(K:PySem.W.Frag)(mg:Str->Option Value)(base:Heap)(A:Around)(outer:List Env)(s:Shared)(H:Hp):Prop where
 frames:A.frames=some outer
 mod:Mod K mg base
 bs:∀b o,base.get? b=some o->s.heap.get? b=some o/\H b=none
 bsz:base.objs.size<=s.heap.objs.size
 funs:s.heap.FunFrames base outer
 frf:∀b∈v0 outer,H b=none
 hok:J4 P w H s.heap
 bare:AllBare s.gens
def CE (outer:List Env)(P:Program)(w:World)(H:Hp)(s:Shared)(Q:VK)(u:Value)(s':Shared):Prop:=
 ∃v H',s'.os=s.os/\AllBare s'.gens/\Un (v0 outer) [] H H' s.heap s'.heap/\J4 P w H' s'.heap/\A7 v u/\Q v H'
def CR (CX:CXT)(outer:List Env)(P:Program)(w:World)(H:Hp)(s:Shared)(Q:VK)(E:XK)(r:Result)(s':Shared):Prop:=
 match r with
 | .ok (.ret u)=>CE outer P w H s Q u s'
 | .ok _=>False
 | .error e=>CX outer H s E e s'
structure w6 (P:Program)(w:World)(K:PySem.W.Frag)(mg:Str->Option Value)(base:Heap)(CX:CXT)(k:Nat)(f:Addr)(fd:FuncData)(ps:List Str)(sp:Sp):Prop where
 len:∀vs H Q E,sp vs H Q E->vs.length=ps.length
 run:∀(A:Around) (outer:List Env) (s:Shared) (H:Hp) (args:Args) (us:List Value) (vs:List V) (Q:VK) (E:XK),A4 k A->ce3 P w K mg base A outer s H->BindsTo s fd args (ps.zip us)->r6 vs us->sp vs H Q E->
   codeAny (model P w) A (.call (.ref f) args) (CR CX outer P w H s Q E) s
theorem w6.mono {P:Program}{w:World}{K:PySem.W.Frag}{mg:Str->Option Value}{base:Heap}{CX:CXT}{j k:Nat}{f:Addr}{fd:FuncData}{ps:List Str}{sp:Sp}(F:w6 P w K mg base CX j f fd ps sp)(h:j<=k):
 w6 P w K mg base CX k f fd ps sp:=⟨F.len,fun A outer s H args us vs Q E hr=>F.run A outer s H args us vs Q E (hr.mono h)⟩
theorem w6.imp {P:Program}{w:World}{K:PySem.W.Frag}{mg:Str->Option Value}{base:Heap}{CX:CXT}{k:Nat}{f:Addr}{fd:FuncData}{ps:List Str}{sp sp':Sp}(F:w6 P w K mg base CX k f fd ps sp)
   (h:∀vs H Q E,sp' vs H Q E->sp vs H Q E):w6 P w K mg base CX k f fd ps sp':=
 ⟨fun vs H Q E q=>F.len vs H Q E (h _ _ _ _ q),fun A outer s H args us vs Q E hr he hb hv hs=>F.run A outer s H args us vs Q E hr he hb hv (h _ _ _ _ hs)⟩
section
variable {X:Cx} {pins:List (Addr×Obj)} {σ:St} {H:Hp} {s s':Shared}
theorem j5.env0 (I:j5 X pins σ H s):ce3 X.prog X.w X.K X.mg X.base X.A X.stack s H:=
 ⟨I.ok.frames,I.ok.mod,I.bs,du3 I.ok.bsz I.sz,I.stack,I.stkFree,I.hok,I.bare⟩
theorem j5.after {Q:VK}{u:Value}(I:j5 X pins σ H s)(h:CE X.stack X.prog X.w H s Q u s'):EP X pins σ Q u s':=by
 obtain ⟨v,H',os,bare,un,hok,r,q⟩:=h;obtain ⟨hh,g,d,t,os'⟩:=s';obtain rfl:os'=s.os:=os;exact ⟨v,H',I.call (h':=hh) (g':=g) (d':=d) (t':=t) (ch:=[]) un hok bare (fun b z=>absurd z (by simp)),r,q⟩
end
def aj4 (sp:Sp)(dvs:List V)(E:XK)(t:TA):TE:=fun σ H Q=>t σ H fun vs H1=>sp (vs++dvs) H1 Q E
def Z2 (K:PySem.W.Frag)(fd:FuncData)(ps:List Str)(ds:List Value):Prop:=
 ∀(s:Shared) (us:List Value),K.In s.heap->(us++ds).length=ps.length->BindsTo s fd ⟨us,[]⟩ (ps.zip (us++ds))
theorem Z2.all {K:PySem.W.Frag}{fd:FuncData}{ps:List Str}(h:∀us:List Value,us.length=ps.length->bindArgs fd ⟨us,[]⟩=pure (ps.zip us)):Z2 K fd ps []:=fun s us _ hl=>by
 rw[dw7] at hl ⊢;exact .of_eq (h us hl)
def al9 (CX:CXT)(X:Cx)(E:XK):Prop:=∀(pins:List (Addr×Obj)) (σ:St) (H:Hp) (s:Shared) (e:Value) (s':Shared),j5 X pins σ H s->CX X.stack H s E e s'->X.xe e s'
section
variable {X:Cx} {CX:CXT} {k:Nat} {f C:Addr} {fd:FuncData} {ps:List Str} {sp:Sp} {dvs:List V} {ds:List Value} {E:XK} {x m:Str} {p pos apos:Pos} {e o:Expr} {es:List Expr} {ta:TE} {t:TA}
theorem df8 {pins:List (Addr×Obj)}{σ:St}{H:Hp}{s:Shared}{Q:VK}{us:List Value}{vs:List V}(F:w6 X.prog X.w X.K X.mg X.base CX k f fd ps sp)(hr:A4 k X.A)(hb:Z2 X.K fd ps ds)(hd:r6 dvs ds)(hx:al9 CX X E)
   (I:j5 X pins σ H s) (r:r6 vs us) (h:sp (vs++dvs) H Q E):wpAny (model X.prog X.w) X.A (call (.ref f) us) (EP X pins σ Q) X.xe s:=by
 have r2:r6 (vs++dvs) (us++ds):=r.append hd
 have hl:(us++ds).length=ps.length:=by rw[<-r2.length];exact F.len _ _ _ _ h
 refine wpAny_call (codeAny_mono (F.run X.A X.stack s H ⟨us,[]⟩ (us++ds) (vs++dvs) Q E hr I.env0 (hb s us I.kIn hl) r2 h) fun r s' hq=> ?_)
 cases r with
 |error e=>exact hx pins σ H s e s' I hq
 |ok fl=>
  cases fl with
  |ret u=>exact I.after hq
  |next=>exact False.elim hq
  |brk=>exact False.elim hq
  |cont=>exact False.elim hq
theorem ca0 (F:w6 X.prog X.w X.K X.mg X.base CX k f fd ps sp)(hr:A4 k X.A)(hg:Gl X x)(hm:X.mg x=some (.ref f))(hk:PySem.W.keepIn X.K (.ref f)=true)(hb:Z2 X.K fd ps ds)(hd:r6 dvs ds)(hx:al9 CX X E)
   (ha:PA X (e::es) t) (hdb:(x==("__debug__":Str))=false:=by decide) (he:starEach (e::es) X.env=(false,eval e X.env)::starEach es X.env:=by rfl) (hpl:(backTo pos (starEach es X.env)).any (·.1)=false:=by rfl):
   PE X (.Call (.Name x p) (e::es) [] pos) (aj4 sp dvs E t):=by
 intro pins s σ H Q I h;refine wpAny_Call_Name_kw (Y4 I hg hm ?_ hdb);refine PySem.W.callWith_K (h₀:=X.base) I.ok.mod.kin hk (A3 (ha pos pins s σ H _ I h) fun us s1 ⟨vs,H1,I1,r,q⟩=>⟨I1.kIn,?_⟩) he hpl;exact df8 F hr hb hd hx I1 r q
end
structure y7 (N P:List Str)(sc:Scope):Prop where
 kind:sc.kind= .function
 co:sc.isCoroutine=false
 gen:sc.isGenerator=false
 nd:N.Nodup
 pre:N.take P.length=P
 par:∀x∈P,sc.names.lookup x=some .local\/sc.names.lookup x=some .cell
 nofree:∀y∈sc.names,y.2≠.free
theorem bj5 {kindOf:Str->Option NameKind}{x:Str}:∀{binds:List (Str×Value)} {m:Str->Option Value},(∀v,(x,v)∉binds)->bindL kindOf binds m x=m x
 |[],_,_=>rfl
 |(n,v)::r,m,h=>by
  unfold bindL;rw[bj5 fun w hw=>h w (dt8 _ hw)]
  split
  · have:x≠n:=by rintro rfl;exact h v dt6
    simp [this]
  · rfl
theorem bj6 {kindOf:Str->Option NameKind}{x:Str}:∀{binds:List (Str×Value)} {m:Str->Option Value},(∀v,(x,v)∉binds)->bindC kindOf binds m x=m x
 |[],_,_=>rfl
 |(n,v)::r,m,h=>by
  unfold bindC;rw[bj6 fun w hw=>h w (dt8 _ hw)]
  split
  · rfl
  · have:x≠n:=by rintro rfl;exact h v dt6
    simp [this]
theorem bj7 {kindOf:Str->Option NameKind}{x:Str}{v:Value}:∀{P:List Str} {vs:List Value} {i:Nat} {m:Str->Option Value},P.Nodup->P[i]? =some x->vs[i]? =some v->kindOf x=some .local->
   bindL kindOf (P.zip vs) m x=some v
 |[],_,_,_,_,h,_,_=>by simp at h
 |_::_,[],_,_,_,_,h,_=>by simp at h
 |p::P,w::vs,0,m,nd,h1,h2,hk=>by
  simp at h1 h2;subst h1;subst h2;show bindL kindOf ((p,w)::P.zip vs) m p=_;unfold bindL;rw[bj5 fun v hv=>(dz9.mp nd).1 (ej0 hv).1,if_pos hk];simp
 |p::P,w::vs,i+1,m,nd,h1,h2,hk=>by
  show bindL kindOf ((p,w)::P.zip vs) m x=_;unfold bindL;exact bj7 (i:=i) (dz9.mp nd).2 (by simpa using h1) (by simpa using h2) hk
theorem bj8 {kindOf:Str->Option NameKind}{x:Str}{v:Value}:∀{P:List Str} {vs:List Value} {i:Nat} {m:Str->Option Value},P.Nodup->P[i]? =some x->vs[i]? =some v->kindOf x≠some .local->
   bindC kindOf (P.zip vs) m x=some v
 |[],_,_,_,_,h,_,_=>by simp at h
 |_::_,[],_,_,_,_,h,_=>by simp at h
 |p::P,w::vs,0,m,nd,h1,h2,hk=>by
  simp at h1 h2;subst h1;subst h2;show bindC kindOf ((p,w)::P.zip vs) m p=_;unfold bindC;rw[bj6 fun v hv=>(dz9.mp nd).1 (ej0 hv).1,if_neg hk];simp
 |p::P,w::vs,i+1,m,nd,h1,h2,hk=>by
  show bindC kindOf ((p,w)::P.zip vs) m x=_;unfold bindC;exact bj8 (i:=i) (dz9.mp nd).2 (by simpa using h1) (by simpa using h2) hk
def ab8 (N:List Str)(vs:List V):St:=vs.map some++dw2 (N.length - vs.length) none
def U5 (CX:CXT)(P:Program)(w:World)(K:PySem.W.Frag)(mg:Str->Option Value)(base:Heap)(N:List Str)(qual:Str)(scope:Scope)(f:Addr)(cd:Value)(A:Around)(outer:List Env)(s:Shared)(H:Hp)(E:XK):Cx where
 prog:=P
 w:=w
 K:=K
 mg:=mg
 base:=base
 A:=A.deeper (envOfC qual scope s.heap.objs.size f cd)
 N:=N
 s₀:=s
 H₀:=H
 env:=envOfC qual scope s.heap.objs.size f cd
 outer:=outer
 stack:=envOfC qual scope s.heap.objs.size f cd::outer
 ex:=[]
 calm:=true
 fn:=fun _=>true
 pn:=[]
 xe:=fun e s'=>wpAny (model P w) (A.deeper (envOfC qual scope s.heap.objs.size f cd)) (leaving (envOfC qual scope s.heap.objs.size f cd) e) (fun _ s''=>CX outer H s E e s'') (fun e' s''=>CX outer H s E e' s'') s'
theorem bq4 {sc:Scope}{n:Nat}{x:Str}(h:sc.names.lookup x=some .cell):∃c,(cellsFrom n sc.names []).lookup x=some c:=by
 have q:=PySem.W.cellsFrom_some sc.names n [] (.inl h);exact ei2.mp q
theorem cj5 {CX:CXT}{P:Program}{w:World}{K:PySem.W.Frag}{mg:Str->Option Value}{base:Heap}{N ps:List Str}{qual:Str}{scope:Scope}{f:Addr}{cd:Value}{A:Around}{outer:List Env}{s s1:Shared}{H:Hp}{E:XK}{us:List Value}{vs:List V}
   (S:y7 N ps scope) (hd:A.handled=none) (e0:ce3 P w K mg base A outer s H) (hl:vs.length=ps.length) (r:r6 vs us)
   (x:InCallC s s.heap.objs.size (bindL (envOfC qual scope s.heap.objs.size f cd).kindOf (ps.zip us) fun _=>none) (cellsFrom (s.heap.objs.size+1) scope.names []) (bindC (envOfC qual scope s.heap.objs.size f cd).kindOf (ps.zip us) fun _=>none) s1):
   j5 (U5 CX P w K mg base N qual scope f cd A outer s H E) [] (ab8 N vs) H s1:=by
 have hpl:ps.length<=N.length:=by have:=congrArg dz3 S.pre;rw[du5] at this;omega
 obtain ⟨h1,tk,rfl,hk⟩:=x.done
 have noA:∀b:Addr,b∉(U5 CX P w K mg base N qual scope f cd A outer s H E).ex:=fun b z=>absurd (show b∈([]:List Addr) from z) (by simp)
 refine ⟨⟨e0.mod,S.kind,rfl,rfl,dt7 _,fun y z c h1 h2=> ?_,fun y hy=> ?_,fun y c _ h=> ?_,fun _=>hd,Around.frames_deeper e0.frames,.inr ⟨rfl,rfl⟩,fun b z=>absurd z (noA b),e0.bs,e0.bsz,fun b _ _=>noA b,fun b z=>absurd z (noA b),e0.funs,e0.frf⟩,
   rfl,e0.bare,Un.kept hk,⟨_,x.toInCall.ns,fun i y v h1 h2 h3=> ?_⟩,fun y c h=>⟨_,x.cell y c h⟩,e0.hok.fresh (dt7 _),fun y c h=> ?_,fun p hp=>absurd (show p∈([]:List (Addr×Obj)) from hp) (by simp),e0.hok.kept hk,?_⟩
 · exact name_of_addr x.apart (PySem.mem_of_lookup h1) (PySem.mem_of_lookup h2)
 · have hy:scope.names.lookup y=some .cell\/scope.names.lookup y=some .free:=hy
   rcases hy with hy|hy
   · exact bq4 hy
   · exact absurd rfl (S.nofree _ (PySem.mem_of_lookup hy))
 · exact dz6 (x.above y c (PySem.mem_of_lookup h))
 · have hi:i < vs.length:=by
     unfold ab8 at h2
     by_cases hi:i < vs.length
     · exact hi
     · rw[dw5 (by simpa using hi)] at h2;rw[ef5] at h2
       split at h2<;>cases h2
   have ha:vs[i]? =some v:=by
     unfold ab8 at h2;rw[dx9 (by simpa using hi),du7] at h2
     cases e:vs[i]? with
     |none=>rw[e] at h2;cases h2
     |some a=>rw[e] at h2;cases h2;rfl
   obtain ⟨u,hu,rv⟩:=r.get ha
   have hp:ps[i]? =some y:=by
     rw[<-S.pre,dy3 (by omega)];exact h1
   have ndP:ps.Nodup:=by rw[<-S.pre];exact S.nd.sublist (List.take_sublist _ _)
   refine ⟨u,rv,?_⟩
   rcases S.par y (du8 hp) with k|k
   · exact .inl ⟨k,bj7 ndP hp hu k⟩
   · obtain ⟨c,e⟩:=bq4 (n:=s.heap.objs.size+1) k;refine .inr ⟨.inl k,c,e,?_⟩;have q:=x.cell y c e;rw[bj8 ndP hp hu (by show scope.names.lookup y≠_;rw[k];decide)] at q;exact q
 · exact e0.hok.fresh (dz6 (x.above y c (PySem.mem_of_lookup h)))
 · unfold ab8;show _=N.length;rw[dt4,dt3,ea7];omega
theorem ce4 {CX:CXT}{P:Program}{w:World}{K:PySem.W.Frag}{mg:Str->Option Value}{base:Heap}{k:Nat}{f:Addr}{name qual:Str}{params:Arguments}{body:List Stmt}{scope:Scope}{dV kV doc pm cdv ct oc:Value}{an od:Option Addr}
   {osl:Array (Option Value)} {N ps:List Str} {sp:Sp} (lk:K.lookup f=some ⟨oc,od,.func (PySem.W.fnOf name qual params body scope dV kV doc pm an cdv ct),osl⟩) (hcd:PySem.W.codeIn K cdv qual=true) (S:y7 N ps scope)
   (len:∀vs H Q E,sp vs H Q E->vs.length=ps.length)
   (hbody:∀(A:Around) (outer:List Env) (s:Shared) (H:Hp) (vs:List V) (Q:VK) (E:XK),A4 k (A.deeper (envOfC qual scope s.heap.objs.size f cdv))->sp vs H Q E->
     ∃t,Z0 (U5 CX P w K mg base N qual scope f cdv A outer s H E) body t/\t {nx:=fun _ H'=>Q .non H',rt:=Q} (ab8 N vs) H):
   w6 P w K mg base CX (k+1) f (PySem.W.fnOf name qual params body scope dV kV doc pm an cdv ct) ps sp:=by
 refine ⟨len,fun A outer s H args us vs Q E hr e0 hb r hsp=> ?_⟩;have hl:=len _ _ _ _ hsp
 have KX:K.In s.heap:=e0.mod.kin.keeps fun b o e=>(e0.bs b o e).1
 have lim:s.heap.NoLimit:=e0.mod.nolimit.keeps fun b o e=>(e0.bs b o e).1
 have hkind:∀y∈ps.zip us,scope.names.lookup y.1=some .local\/(scope.names.lookup y.1=some .cell/\((cellsFrom (s.heap.objs.size+1) scope.names []).lookup y.1).isSome=true):=fun ⟨n,v⟩ hy=>by
   rcases S.par n (ej0 hy).1 with q|q
   · exact .inl q
   · exact .inr ⟨q,PySem.W.cellsFrom_some _ _ _ (.inl q)⟩
 refine codeAny_call_function hr.depth (KX _ _ lk) rfl S.co S.gen rfl (PySem.W.codeRec_of KX hcd) (hb _ _ _ _ ?_)
 refine wpAny_newFunctionEnv_cells S.kind hkind fun env he s1 x=> ?_
 subst he;refine ⟨lim.keeps x.toInCall.keep,codeAny_func ?_⟩;obtain ⟨t,ht,hq⟩:=hbody A outer s H vs Q E (hr.deeper _) hsp;have I:j5 (U5 CX P w K mg base N qual scope f cdv A outer s H E) [] (ab8 N vs) H s1:=cj5 S hr.hd e0 hl r x
 refine wpAny_mono (ht [] s1 (ab8 N vs) H _ I hq) (fun fl s' hs=> ?_) fun e s' hs=>hs
 have fin:∀{σ':St} {H':Hp} {v:V} {u:Value},j5 (U5 CX P w K mg base N qual scope f cdv A outer s H E) [] σ' H' s'->A7 v u->Q v H'->CE outer P w H s Q u s':=
   fun {σ' H' v u} J rv q=>⟨v,H',J.os,J.bare,J.base,J.hok,rv,q⟩
 cases fl with
 |ret u=>
  obtain ⟨v,σ',H',J,rv,q⟩:=hs;exact fin J rv q
 |next=>
  obtain ⟨σ',H',J,q⟩:=hs;exact fin (v:=V.non) (u:=Value.none) J rfl q
 |brk=>
  obtain ⟨_,_,_,q⟩:=hs;exact False.elim q
 |cont=>
  obtain ⟨_,_,_,q⟩:=hs;exact False.elim q
end L2
namespace L2
open PySem PySem.Spec PyProof.Rows
section
variable {X:Cx} {x:Str} {p pos:Pos} {e:Expr} {es:List Expr} {t:TA} {id T:String} {r:List V->Hp->VK->Prop}
def X4 (r:List V->Hp->VK->Prop)(t:TA):TE:=fun σ H Q=>t σ H fun vs H1=>r vs H1 Q
theorem N3 (hc:K6 X (.builtin id) r)(hg:Gl X x)(hm:X.mg x=none)(hv:bootBuiltins x=some (.builtin id))(ha:PA X (e::es) t)(hn:x≠"__name__":=by decide)(hdb:(x==("__debug__":Str))=false:=by decide)
   (he:starEach (e::es) X.env=(false,eval e X.env)::starEach es X.env:=by rfl) (hpl:(backTo pos (starEach es X.env)).any (·.1)=false:=by rfl):PE X (.Call (.Name x p) (e::es) [] pos) (X4 r t):=by
 intro pins s σ H Q I h;refine wpAny_Call_Name_kw (as3 I hg hm hv ?_ hn hdb);exact PyProof.Rows.callWith_builtin1 (A3 (ha pos pins s σ H _ I h) fun us s1 ⟨vs,H1,I1,r1,q1⟩=>hc pins s1 σ H1 vs us Q I1 r1 q1) he hpl
theorem Q3 (hc:K6 X (.type T) r)(hg:Gl X x)(hm:X.mg x=none)(hv:bootBuiltins x=some (.type T))(ha:PA X (e::es) t)(hn:x≠"__name__":=by decide)(hdb:(x==("__debug__":Str))=false:=by decide)
   (he:starEach (e::es) X.env=(false,eval e X.env)::starEach es X.env:=by rfl) (hpl:(backTo pos (starEach es X.env)).any (·.1)=false:=by rfl):PE X (.Call (.Name x p) (e::es) [] pos) (X4 r t):=by
 intro pins s σ H Q I h;refine wpAny_Call_Name_kw (as3 I hg hm hv ?_ hn hdb);exact PyProof.Rows.callWith_type1 (A3 (ha pos pins s σ H _ I h) fun us s1 ⟨vs,H1,I1,r1,q1⟩=>hc pins s1 σ H1 vs us Q I1 r1 q1) he hpl
end
end L2
namespace HT
open PySem PyProof.Rows
def ax0:List Int->List Int->Bool
 |[],[]=>false
 |[],_::_=>true
 |_::_,[]=>false
 |x::xs,y::ys=>if x=y then ax0 xs ys else decide (x < y)
theorem ce5 (x y:Int)(xs ys:List Int):ax0 (x::xs) (y::ys)=if x=y then ax0 xs ys else decide (x < y):=rfl
theorem da3 (y:Int)(ys:List Int):ax0 [] (y::ys)=true:=rfl
theorem cs4 (A:Around)(s:Shared)(a:Int)(t:Tok)(c:Int)(u:Tok):∃e,SeqAt.EqAt A s (.int a t) (.int c u) e/\(e=true↔a=c):=
 ⟨(a==c),SeqAt.EqAt.int_int a t c u,by simp⟩
theorem cs5 (A:Around)(s:Shared)(a:Int)(t:Tok)(c:Int)(u:Tok)(prog:Program)(w:World)(E:Value->Shared->Prop)(Q:Value->Shared->Prop)(h:Q (.bool (decide (a < c))) s):
   wpAny (model prog w) A (richCompare .Lt (.int a t) (.int c u)) Q E s:=
 (PyProof.Rows.lt_int h:wpAny (model prog w) A (compareOp .Lt (.int a t) (.int c u)) Q E s)
section
variable {prog:Program} {w:World} {A:Around} {E:Value->Shared->Prop} {s:Shared}
def sIx (n d:Nat):Option Int->Nat
 |none=>d
 |some v=>if v < 0 then (v+(n:Int)).toNat else min v.toNat n
theorem dp8 (n d:Nat):sIx n d none=d:=rfl
theorem dr3 (n d k:Nat):sIx n d (some (k:Int))=min k n:=by
 show (if (k:Int) < 0 then ((k:Int)+(n:Int)).toNat else min (k:Int).toNat n)=min k n;rw[if_neg (by omega),dy7]
end
end HT
namespace L2
open PySem PySem.Spec PyProof.Rows
abbrev TO:=St->Hp->(Option Int->Hp->Prop)->Prop
def PO (X:Cx)(e:Option Expr)(t:TO):Prop:=
 ∀(pins:List (Addr×Obj)) (s:Shared) (σ:St) (H:Hp) (Q:Option Int->Hp->Prop),j5 X pins σ H s->t σ H Q->
  wpAny (model X.prog X.w) X.A (evalPart e X.env) (fun u s'=>∃o H',j5 X pins σ H' s'/\IsPart u o/\Q o H') X.xe s
def da4:TO:=fun _ H Q=>Q none H
def dl2 (t:TE):TO:=fun σ H Q=>t σ H fun x H1=>∃i,x= .int i/\Q (some i) H1
theorem ae4 {ns:List Int}:∀{us:List Value},r6 (ns.map V.int) us->IntsAre us ns:=by
 induction ns with
 |nil=>intro us r;rw[ef6] at r;cases r;exact .nil
 |cons n ns ih=>
  intro us r;rw[dv7] at r
  cases r with
  |cons r1 r2=>
   obtain ⟨t,e⟩:=r1;subst e;exact .cons n t (ih r2)
section
variable {X:Cx} {e:Expr} {te:TE} {lo hi:Option Expr} {tl th:TO} {pos p2:Pos}
theorem E7:PO X none da4:=by
 intro pins s σ H Q I h;rw[evalPart_none];exact wpAny_pure ⟨none,H,I,.none,h⟩
theorem B6 (h:PE X e te):PO X (some e) (dl2 te):=by
 intro pins s σ H Q I hw;rw[evalPart_some]
 refine A3 (h pins s σ H _ I hw) fun u s1 ⟨x,H1,I1,r1,q1⟩=> ?_
 obtain ⟨i,rfl,q⟩:=q1;obtain ⟨t,rfl⟩:=r1;exact ⟨some i,H1,I1,.int i t,q⟩
def SlR (X:Cx)(r:V->Option Int->Option Int->Hp->VK->Prop):Prop:=
 ∀(pins:List (Addr×Obj)) (s:Shared) (σ:St) (H:Hp) (x:V) (v vl vu:Value) (lo hi:Option Int) (sl:Addr) (Q:VK),j5 X pins σ H s->A7 x v->s.heap.IsSliceOf sl vl vu .none->IsPart vl lo->IsPart vu hi->r x lo hi H Q->
  ∃T id,typeLookup (.type T) "__getitem__"=pure (some (.builtin id))/\s.TypeIs v T/\wpAny (model X.prog X.w) X.A (getItem v (.ref sl)) (EP X pins σ Q) X.xe s
def tSl (r:V->Option Int->Option Int->Hp->VK->Prop)(te:TE)(tl th:TO):TE:=fun σ H Q=>te σ H fun x H1=>tl σ H1 fun l H2=>th σ H2 fun u H3=>r x l u H3 Q
theorem C2 {r:V->Option Int->Option Int->Hp->VK->Prop}(hr:SlR X r)(he:PE X e te)(hl:PO X lo tl)(hu:PO X hi th):PE X (.Subscript e (.Slice lo hi none p2) pos) (tSl r te tl th):=by
 intro pins s σ H Q I h;refine Subscript_ (A3 (he pins s σ H _ I h) fun v s1 ⟨x,H1,I1,r1,q1⟩=> ?_);refine wpAny_Slice (A3 (hl pins s1 σ H1 _ I1 q1) fun vl s2 ⟨l,H2,I2,pl,q2⟩=>A3 (hu pins s2 σ H2 _ I2 q2) fun vu s3 ⟨u,H3,I3,pu,q3⟩=> ?_);rw[evalPart_none];refine wpAny_pure ?_
 have I4:j5 X pins σ H3 {s3 with heap:=s3.heap.push {cls:= .type "slice",data:= .fields #[vl,vu,.none]}}:=I3.kept (t':=s3.toks) fun b ob q=>Heap.get?_push_of_some _ q
 obtain ⟨T,id,hT,ht,hg⟩:=hr pins {s3 with heap:=s3.heap.push {cls:= .type "slice",data:= .fields #[vl,vu,.none]}} σ H3 x v vl vu l u s3.heap.objs.size Q I4 r1 (Heap.IsSliceOf.new ..) pl pu q3;show wpAny (model X.prog X.w) X.A (subscriptTail e (.Slice lo hi none p2) v (.ref s3.heap.objs.size)) (EP X pins σ Q) X.xe {s3 with heap:=s3.heap.push {cls:= .type "slice",data:= .fields #[vl,vu,.none]}};exact tail_any (ops:=[.ref s3.heap.objs.size,v]) ht hT hg (by with_unfolding_all rfl)
def as8 (xs:List V)(lo hi:Option Int):List V:=(xs.drop (HT.sIx xs.length 0 lo)).take (HT.sIx xs.length xs.length hi - HT.sIx xs.length 0 lo)
theorem bx7 (xs:List V)(lo hi:Option Int):(as8 xs lo hi).length<=xs.length:=by
 unfold as8;rw[du5,dv1];omega
end
end L2
namespace L2
open PySem PySem.Spec PyProof.Rows
def U9 (n:Nat)(i:Int):Option Nat:=if 0<=i then (if i < n then some i.toNat else none) else if -(n:Int)<=i then some (i+n).toNat else none
def Y0 {α:Type}(xs:List α)(i:Int):Option α:=(U9 xs.length i).bind fun j=>xs[j]?
theorem ax1 {n:Nat}{i:Int}{j:Nat}(h:U9 n i=some j):seqIndex? i n=some j/\j < n/\ -(n:Int)<=i/\i < n:=by
 unfold U9 at h
 by_cases h0:0<=i
 · rw[if_pos h0] at h
   by_cases h1:i < n
   · rw[if_pos h1] at h;have e:i.toNat=j:=Option.some.inj h;exact ⟨by rw[seqIndex_of h0 h1,e],by omega,by omega,h1⟩
   · rw[if_neg h1] at h;cases h
 · rw[if_neg h0] at h
   by_cases h1: -(n:Int)<=i
   · rw[if_pos h1] at h;have e:(i+n).toNat=j:=Option.some.inj h;exact ⟨by rw[seqIndex_neg (by omega) h1,e],by omega,h1,by omega⟩
   · rw[if_neg h1] at h;cases h
theorem da5 {α:Type}{xs:List α}{i:Int}{v:α}(h:Y0 xs i=some v):∃j,seqIndex? i xs.length=some j/\xs[j]? =some v/\j < xs.length/\ -(xs.length:Int)<=i/\i < xs.length:=by
 unfold Y0 at h
 cases e:U9 xs.length i with
 |none=>rw[e] at h;cases h
 |some j=>
  rw[e] at h;obtain ⟨h1,h2,h3,h4⟩:=ax1 e;exact ⟨j,h1,h,h2,h3,h4⟩
theorem o8 {α:Type}{xs:List α}{j:Nat}{v:α}(h:xs[j]? =some v):Y0 xs (j:Int)=some v:=by
 have hj:j < xs.length:=(dt9.mp h).1
 have e:U9 xs.length (j:Int)=some j:=by
   unfold U9;rw[if_pos (by omega),if_pos (by omega)];simp
 unfold Y0;rw[e];exact h
def da6 (b:Expr):Prop:=∀o i,subscripted b false o i=operate [o,i] (getItem o i)
def IxR (X:Cx)(r:R2):Prop:=
 ∀(value slice:Expr) (pins:List (Addr×Obj)) (s:Shared) (σ:St) (H:Hp) (x y:V) (v u:Value) (Q:VK),j5 X pins σ H s->A7 x v->A7 y u->r x y H Q->
  subscripted slice false v u=operate [v,u] (getItem v u)->wpAny (model X.prog X.w) X.A (subscriptTail value slice v u) (EP X pins σ Q) X.xe s
def MtR (X:Cx)(id:String)(r:V->List V->Hp->VK->Prop):Prop:=
 ∀(pins:List (Addr×Obj)) (s:Shared) (σ:St) (H:Hp) (x:V) (xs:List V) (v:Value) (us:List Value) (Q:VK),j5 X pins σ H s->A7 x v->r6 xs us->r x xs H Q->
  wpAny (model X.prog X.w) X.A (call (.builtin id) (v::us)) (EP X pins σ Q) X.xe s
section
variable {X:Cx} {a b:Expr} {ta tb:TE} {pos:Pos}
theorem B8 {r:R2}(hr:IxR X r)(ha:PE X a ta)(hb:PE X b tb)(hs:da6 b):PE X (.Subscript a b pos) (tOp r ta tb):=by
 intro pins s σ H Q I h;exact Subscript_ (ce1 ha hb I h fun v u s2 x y H2 I2 rx ry q=>hr a b pins s2 σ H2 x y v u Q I2 rx ry q (hs _ _))
def cs6 (K:PySem.W.Frag):R2:=fun x y H Q=>∃p xs i v,x= .ref p/\y= .int i/\j7 K H p xs/\Y0 xs i=some v/\Q v H
theorem y9:IxR X (cs6 X.K):=by
 intro value slice pins s σ H x y v u Q I rx ry h hs;obtain ⟨p,xs,i,z,rfl,rfl,hq,he,q⟩:=h;cases rx;obtain ⟨t,rfl⟩:=ry;obtain ⟨its,r,pl,hz⟩:=I.list hq;obtain ⟨j,h1,h2,h3,h4,h5⟩:=da5 he;obtain ⟨w,ew,rw'⟩:=r.get h2;have hl:=r.length;have hn:=bc8;have fin:EP X pins σ Q w s:=⟨z,H,I,rw',q⟩
 by_cases h0:0<=i
 · have hj:i.toNat=j:=by
     rw[seqIndex_of h0 h5] at h1;exact Option.some.inj h1
   exact item_listR pl.isList h0 (by omega) (by rw[hj];simpa using ew) fin hs
 · have hj:(i+(its.toArray.size:Int)).toNat=j:=by
     rw[seqIndex_neg (by omega) h4] at h1;rw[du2,<-hl];exact Option.some.inj h1
   exact subscriptTail_builtinR (x:=w) pl.isList.typeIs slot_list_getitem.lookup
     (wpAny_getItem_list_neg (Q:=fun r s'=>r=w/\EP X pins σ Q r s') pl.isList (by omega) (by rw[du2]<;>omega) (by omega) (by rw[hj];simpa using ew) ⟨rfl,fin⟩) hs
theorem ce6 (its:List Value)(n j:Nat)(u:Value):Obj.mapSeq (·.setIfInBounds j u) {cls:= .type "list",data:= .seq its.toArray n}={cls:= .type "list",data:= .seq (its.set j u).toArray n}:=by
 simp [Obj.mapSeq]
theorem j5.lst {pins:List (Addr×Obj)}{σ:St}{H:Hp}{s:Shared}{p:Addr}{xs:List V}(I:j5 X pins σ H s)(h:H p=some (.lst xs)):
   ∃(its:List Value) (n:Nat),r6 xs its/\s.heap.get? p=some {cls:= .type "list",data:= .seq its.toArray n}/\xs.length<=sizeLine:=by
 obtain ⟨z,its,n,r,e⟩:=I.hok p _ h;exact ⟨its,n,r,e,z⟩
theorem j5.lstUpd {pins:List (Addr×Obj)}{σ:St}{H:Hp}{s:Shared}{p:Addr}{xs ys:List V}{its its':List Value}{n n':Nat}{f:Obj->Obj}(I:j5 X pins σ H s)(h:H p=some (.lst xs))
   (ho:s.heap.get? p=some {cls:= .type "list",data:= .seq its.toArray n}) (hf:f {cls:= .type "list",data:= .seq its.toArray n}={cls:= .type "list",data:= .seq its'.toArray n'}) (r:r6 ys its') (hz:ys.length<=sizeLine) (t:Nat):
   j5 X pins σ (i8 H p (.lst ys)) {s with heap:=s.heap.update p f,toks:=t}:=by
 have e:(s.heap.update p f).get? p=some {cls:= .type "list",data:= .seq its'.toArray n'}:=by
   rw[Heap.get?_update_self f ho (by rw[hf]<;>rfl),hf]
 refine I.write (x:=p) (e:=p) (by rw[h];trivial) (.inl rfl) (fun b u hb q=>(Heap.get?_update_other _ _ (Ne.symm hb)).trans q) ⟨_,e⟩ ?_;exact ⟨hz,its',n',r,e⟩
def dl3:V->V->V->Hp->(Hp->Prop)->Prop:=fun o i v H Q=>∃p xs k j,o= .ref p/\i= .int k/\H p=some (.lst xs)/\U9 xs.length k=some j/\Q (i8 H p (.lst (xs.set j v)))
theorem O2:df1 X dl3:=by
 intro pins s σ H o i v ov iv u Q I ro ri rv h;obtain ⟨p,xs,k,j,rfl,rfl,hp,hj,q⟩:=h;cases ro;obtain ⟨t,rfl⟩:=ri;obtain ⟨its,n,r,ho,hz⟩:=I.lst hp;obtain ⟨h1,h2,h3,h4⟩:=ax1 hj;have hl:=r.length;have hn:=bc8
 have I':j5 X pins σ (i8 H p (.lst (xs.set j v))) {s with heap:=s.heap.update p (Obj.mapSeq (·.setIfInBounds j u))}:=
   I.lstUpd hp ho (ce6 its n j u) (r.set rv j) (by rw[dx3];exact hz) s.toks
 by_cases h0:0<=k
 · have hk:k.toNat=j:=by
     rw[seqIndex_of h0 h4] at h1;exact Option.some.inj h1
   exact PySem.W.ki_setAt ho h0 (by omega) (by rw[du2,<-hl];exact h4) (by rw[hk];exact ⟨_,I',q⟩)
 · have hk:(k+(its.toArray.size:Int)).toNat=j:=by
     rw[seqIndex_neg (by omega) h3] at h1;rw[du2,<-hl];exact Option.some.inj h1
   exact PySem.W.ki_setBack ho (by omega) (by rw[du2,<-hl];exact h3) (by omega) (by rw[hk];exact ⟨_,I',q⟩)
theorem bq5 (lo hi:Option Int)(n:Nat):(sliceBounds lo hi none n).1=((HT.sIx n 0 lo:Nat):Int)/\(sliceBounds lo hi none n).2.1=((HT.sIx n n hi:Nat):Int)/\(sliceBounds lo hi none n).2.2=1:=by
 refine ⟨?_,?_,rfl⟩
 · cases lo with
   |none=>simp [sliceBounds,HT.sIx]
   |some i=>
    simp only[sliceBounds,HT.sIx,Option.getD_none,show (1:Int) > 0 by decide,if_true]
    by_cases h:i < 0
    · simp only[h,if_true]<;>omega
    · simp only[h,if_false]<;>omega
 · cases hi with
   |none=>simp [sliceBounds,HT.sIx]
   |some i=>
    simp only[sliceBounds,HT.sIx,Option.getD_none,show (1:Int) > 0 by decide,if_true]
    by_cases h:i < 0
    · simp only[h,if_true]<;>omega
    · simp only[h,if_false]<;>omega
theorem bm2 (its:List Value)(lo hi:Option Int):slicePick its.toArray lo hi none=((its.drop (HT.sIx its.length 0 lo)).take (HT.sIx its.length its.length hi - HT.sIx its.length 0 lo)).toArray:=by
 obtain ⟨h1,h2,h3⟩:=bq5 lo hi its.toArray.size;unfold slicePick;rw[h1,h2,h3]
 simp only[sliceRange_one,pick_run,du2]<;>rfl
def dp9 (K:PySem.W.Frag):V->Option Int->Option Int->Hp->VK->Prop:=fun x lo hi H Q=>∃a xs,x= .ref a/\j7 K H a xs/\∀p,H p=none->Q (.ref p) (i8 H p (.lst (as8 xs lo hi)))
theorem O8:SlR X (dp9 X.K):=by
 intro pins s σ H x v vl vu lo hi sl Q I rx hs pl pu h;obtain ⟨a,xs,rfl,hx,q⟩:=h;cases rx;obtain ⟨its,r,ht,hz⟩:=I.list hx;have hlen:=r.length;refine ⟨"list",_,slot_list_getitem.lookup,ht.isList.typeIs,?_⟩;refine wpAny_getItem_list_slice ht.isList hs pl pu .none (by simp) ?_ (by rw[du2]<;>omega);rw[bm2,<-hlen];refine ⟨.ref s.heap.objs.size,_,I.laid (t':=s.toks) (o:= .lst (as8 xs lo hi)) (fun b ob q=>Heap.get?_push_of_some _ q) (dt7 _) ?_,rfl,q _ (I.hok.fresh (dt7 _))⟩;exact ⟨du3 (bx7 xs lo hi) hz,_,0,(r.drop (HT.sIx xs.length 0 lo)).take (HT.sIx xs.length xs.length hi - HT.sIx xs.length 0 lo),Heap.get?_push_size _ rfl⟩
def bo6:V->Bool
 | .non=>true
 | .bl _=>true
 | .int _=>true
 | .str _=>true
 |_=>false
def eqV:V->V->Bool
 | .non,.non=>true
 | .bl a,.bl b=>a==b
 | .bl a,.int b=>(if a then 1 else 0)==b
 | .int a,.bl b=>a==(if b then 1 else 0)
 | .int a,.int b=>a==b
 | .str a,.str b=>a==b
 |_,_=>false
theorem dg0 {A:Around}{s:Shared}{y x:V}{u v:Value}(ry:A7 y u)(rx:A7 x v)(fy:bo6 y=true)(fx:bo6 x=true):SeqAt.EqAt A s u v (eqV y x):=by
 cases y with
 |non=>
  cases ry
  cases x with
  |non=>cases rx;exact SeqAt.EqAt.same _
  |bl b=>cases rx;exact SeqAt.EqAt.none_bool b
  |int b=>obtain ⟨t,rfl⟩:=rx;exact SeqAt.EqAt.none_int b t
  |str b=>obtain ⟨t,rfl⟩:=rx;exact SeqAt.EqAt.none_str b t
  |_=>exact absurd (show false=true from fx) dv4
 |bl a=>
  cases ry
  cases x with
  |non=>cases rx;exact SeqAt.EqAt.bool_none a
  |bl b=>cases rx;exact SeqAt.EqAt.bool_bool a b
  |int b=>obtain ⟨t,rfl⟩:=rx;exact SeqAt.EqAt.bool_int a b t
  |str b=>obtain ⟨t,rfl⟩:=rx;exact SeqAt.EqAt.bool_str a b t
  |_=>exact absurd (show false=true from fx) dv4
 |int a=>
  obtain ⟨t',rfl⟩:=ry
  cases x with
  |non=>cases rx;exact SeqAt.EqAt.int_none a t'
  |bl b=>cases rx;exact SeqAt.EqAt.int_bool a t' b
  |int b=>obtain ⟨t,rfl⟩:=rx;exact SeqAt.EqAt.int_int a t' b t
  |str b=>obtain ⟨t,rfl⟩:=rx;exact SeqAt.EqAt.int_str a t' b t
  |_=>exact absurd (show false=true from fx) dv4
 |str a=>
  obtain ⟨t',rfl⟩:=ry
  cases x with
  |non=>cases rx;exact SeqAt.EqAt.str_none a t'
  |bl b=>cases rx;exact SeqAt.EqAt.str_bool a t' b
  |int b=>obtain ⟨t,rfl⟩:=rx;exact SeqAt.EqAt.str_int a t' b t
  |str b=>obtain ⟨t,rfl⟩:=rx;exact SeqAt.EqAt.str_str a t' b t
  |_=>exact absurd (show false=true from fx) dv4
 |_=>exact absurd (show false=true from fy) dv4
theorem bq6:K6 X (.builtin "len") (fun xs H Q=>∃p ys,xs=[.ref p]/\(j7 X.K H p ys\/SqT X.K H p ys)/\Q (.int ys.length) H):=by
 intro pins s σ H xs us Q I r h;obtain ⟨p,ys,rfl,hq,q⟩:=h;obtain ⟨u,rfl,rx⟩:=P6 r;cases rx;have hn:=bc8
 rcases hq with hq|hq
 · obtain ⟨its,r',pl,hz⟩:=I.list hq;have hlen:=r'.length;exact Calls.call_len_list pl.isList (by simp only[du2]<;>omega) ⟨.int ys.length,H,I.tok _,⟨s.toks+1,by rw[du2,hlen]⟩,q⟩
 · obtain ⟨its,r',pl,hz⟩:=I.tuple hq;have hlen:=r'.length;exact len_tuple pl (by simp only[du2]<;>omega) ⟨.int ys.length,H,I.tok _,⟨s.toks+1,by rw[du2,hlen]⟩,q⟩
theorem as9:K6 X (.builtin "len") (fun xs H Q=>∃z,xs=[.str z]/\z.length<=sizeLine/\Q (.int z.length) H):=by
 intro pins s σ H xs us Q I r h;obtain ⟨z,rfl,hz,q⟩:=h;obtain ⟨u,rfl,t,rfl⟩:=P6 r;have hn:=bc8;exact len_str (by omega) ⟨.int z.length,H,I.tok _,⟨_,rfl⟩,q⟩
theorem bq7:K6 X (.type "list") (fun xs H Q=>∃p ys,xs=[.ref p]/\(j7 X.K H p ys\/SqT X.K H p ys)/\∀l,H l=none->Q (.ref l) (i8 H l (.lst ys))):=by
 intro pins s σ H xs us Q I r h;obtain ⟨p,ys,rfl,hq,q⟩:=h;obtain ⟨u,rfl,rx⟩:=P6 r;cases rx
 have fin:∀(its:List Value),r6 ys its->ys.length<=sizeLine->∀(h':Heap) (c':Nat),(∀b o',s.heap.get? b=some o'->h'.get? b=some o')->
     h'.get? s.heap.objs.size=some {cls:= .type "list",dict:=none,data:= .seq its.toArray c',slots:= #[]}->EP X pins σ Q (.ref s.heap.objs.size) {s with heap:=h'}:=fun its r' hz h' c' kp e=>
   ⟨.ref s.heap.objs.size,_,I.laid (t':=s.toks) kp (dt7 _) (show C5 X.prog X.w _ h' _ (.lst ys) from ⟨hz,its,c',r',e⟩),rfl,q _ (I.hok.fresh (dt7 _))⟩
 rcases hq with hq|hq
 · obtain ⟨its,r',pl,hz⟩:=I.list hq;have hlen:=r'.length;obtain ⟨o,ho,hc,n,hd⟩:=pl.isList;exact call_list_seq p (.inl rfl) ho hc hd (fun h' c' kp e=>fin its r' hz h' c' kp e) (by simp only[du2]<;>omega)
 · obtain ⟨its,r',pl,hz⟩:=I.tuple hq;have hlen:=r'.length;obtain ⟨o,ho,hc,n,hd⟩:=pl;exact call_list_seq p (.inr rfl) ho hc hd (fun h' c' kp e=>fin its r' hz h' c' kp e) (by simp only[du2]<;>omega)
theorem bm3:K6 X (.type "tuple") (fun xs H Q=>∃p ys,xs=[.ref p]/\((j7 X.K H p ys/\∀l,H l=none->Q (.ref l) (i8 H l (.tup ys)))\/(SqT X.K H p ys/\Q (.ref p) H))):=by
 intro pins s σ H xs us Q I r h;obtain ⟨p,ys,rfl,h⟩:=h;obtain ⟨u,rfl,rx⟩:=P6 r;cases rx
 rcases h with ⟨hq,q⟩|⟨hq,q⟩
 · obtain ⟨its,r',pl,hz⟩:=I.list hq;have hlen:=r'.length;refine call_tuple_list pl.isList (fun h' kp=> ?_) (by simp only[du2]<;>omega);have I1:j5 X pins σ H {s with heap:=h'}:=I.kept (t':=s.toks) kp
   have I2:j5 X pins σ (i8 H h'.objs.size (.tup ys)) {s with heap:=h'.push {cls:= .type "tuple",data:= .seq its.toArray}}:=
     I1.laid (t':=s.toks) (fun b o e=>Heap.get?_push_of_some _ e) (dt7 _) (show C5 X.prog X.w _ _ _ (.tup ys) from ⟨hz,its,r',IsTup.new _ _⟩)
   exact ⟨.ref h'.objs.size,_,I2,rfl,q _ (I1.hok.fresh (dt7 _))⟩
 · obtain ⟨its,r',pl,hz⟩:=I.tuple hq;exact call_tuple_same pl ⟨.ref p,H,I,rfl,q⟩
def tyV (K:PySem.W.Frag)(T:String)(x:V)(H:Hp):Prop:=match x with
 | .str _=>T="str"
 | .int _=>T="int"
 | .ref p=>(T="list"/\∃xs,j7 K H p xs)\/(T="tuple"/\∃o,K.lookup p=some o/\o.cls= .type "tuple"/\o.dict=none)\/
     (T="dict"/\((∃kvs,H p=some (.dK kvs))\/∃kvs,H p=some (.dT kvs)))\/(T="set"/\∃S n,H p=some (.set S n))
 |_=>False
theorem cj7 {pins:List (Addr×Obj)}{σ:St}{H:Hp}{s:Shared}{T:String}{x:V}{v:Value}(I:j5 X pins σ H s)(r:A7 x v)(ty:tyV X.K T x H):
   s.TypeIs v T/\∀a,v= .ref a->∃ob,s.heap.get? a=some ob/\ob.dict=none:=by
 cases x with
 |str z=>
  obtain ⟨t,rfl⟩:=r;cases (show T="str" from ty);exact ⟨typeIs_str s z t,fun _ e=>nomatch e⟩
 |int i=>
  obtain ⟨t,rfl⟩:=r;cases (show T="int" from ty);exact ⟨typeIs_int s i t,fun _ e=>nomatch e⟩
 |ref p=>
  cases r
  rcases ty with ⟨rfl,xs,hq⟩|⟨rfl,o,hk,hc,hd⟩|⟨rfl,hk⟩|⟨rfl,S,n,hk⟩
  · obtain ⟨its,_,pl,_⟩:=I.list hq;refine ⟨pl.isList.typeIs,fun a e=> ?_⟩;cases e;obtain ⟨o,n,e,c,hd,_⟩:=pl;exact ⟨o,e,hd⟩
  · refine ⟨⟨o,I.kIn p o hk,hc⟩,fun a e=> ?_⟩;cases e;exact ⟨o,I.kIn _ o hk,hd⟩
  · have z:∃o,s.heap.get? p=some o/\o.ExactDict:=by
      rcases hk with ⟨kvs,hk⟩|⟨kvs,hk⟩
      · obtain ⟨_,_,_,_,o,_,_,e,ex,_⟩:=I.hok p _ hk;exact ⟨o,e,ex⟩
      · obtain ⟨_,_,_,_,o,_,_,e,ex,_⟩:=I.hok p _ hk;exact ⟨o,e,ex⟩
    obtain ⟨o,e,ex⟩:=z;refine ⟨⟨o,e,ex.1⟩,fun a e2=> ?_⟩;cases e2;exact ⟨o,e,ex.2.1⟩
  · obtain ⟨o,_,_,_,e,ex,_⟩:=I.hok p _ hk;refine ⟨⟨o,e,ex.1⟩,fun a e2=> ?_⟩;cases e2;exact ⟨o,e,ex.2.1⟩
 |_=>exact False.elim ty
def dg2 (K:PySem.W.Frag)(T:String)(r:V->List V->Hp->VK->Prop)(to:TE):TE:=fun σ H Q=>to σ H fun x H1=>tyV K T x H1/\r x [] H1 Q
def tBM (K:PySem.W.Frag)(T:String)(r:V->List V->Hp->VK->Prop)(to:TE)(t:TA):TE:=fun σ H Q=>to σ H fun x H1=>tyV K T x H1/\t σ H1 fun xs H2=>r x xs H2 Q
variable {o e:Expr} {es:List Expr} {to:TE} {t:TA} {name:Str} {apos cpos:Pos} {T id:String} {r:V->List V->Hp->VK->Prop}
theorem dg3 (pa:PlainAttrs T)(slot:Slot T name id)(hty:typeOf (.builtin id)=pure (.type "method_descriptor"))(hm:MtR X id r)(ho:PE X o to)
   (hbase:attributeBase o name X.env (eval o X.env)=eval o X.env:=by rfl) (hline:(apos.endLine==cpos.line)=true:=by rfl):PE X (.Call (.Attribute o name apos) [] [] cpos) (dg2 X.K T r to):=by
 intro pins s σ H Q I h;refine wpAny_Call_method0_late hbase hline (A3 (ho pins s σ H _ I h) fun v s1 ⟨x,H1,I1,r1,ty,q1⟩=> ?_);obtain ⟨h1,h2⟩:=cj7 I1 r1 ty;exact ⟨T,id,pa,slot,hty,h1,h2,Calls.callWith_builtin rfl (PySem.evalArgs_none (hm pins s1 σ H1 x [] v [] Q I1 r1 .nil q1))⟩
theorem an9 (pa:PlainAttrs T)(slot:Slot T name id)(hty:typeOf (.builtin id)=pure (.type "method_descriptor"))(hm:MtR X id r)(ho:PE X o to)(ha:PA X (e::es) t)
   (hbase:attributeBase o name X.env (eval o X.env)=eval o X.env:=by rfl)
   (hfew:((backTo cpos (starEach (e::es) X.env)).all (fun x=> !x.1)&&(backToKw cpos (keywordEach [] X.env)).all (fun x=>x.1.isSome)
     &&decide ((e::es).length+([]:List Keyword).length+(if ([]:List Keyword).isEmpty then 0 else 1) < 30))=true:=by rfl)
   (hline:(apos.endLine==cpos.line)=true:=by rfl) (hs:starEach (e::es) X.env=(false,eval e X.env)::starEach es X.env:=by rfl) (hplain:(backTo cpos (starEach es X.env)).any (·.1)=false:=by rfl):
   PE X (.Call (.Attribute o name apos) (e::es) [] cpos) (tBM X.K T r to t):=by
 intro pins s σ H Q I h;refine wpAny_Call_method_late hbase hfew hline rfl (A3 (ho pins s σ H _ I h) fun v s1 ⟨x,H1,I1,r1,ty,q1⟩=> ?_);obtain ⟨h1,h2⟩:=cj7 I1 r1 ty;refine ⟨T,id,pa,slot,hty,h1,h2,?_⟩;have hA:=ha cpos pins s1 σ H1 _ I1 q1;rw[hs] at hA ⊢;refine Calls.callWith_builtin (by show (false||(backTo cpos (starEach es X.env)).any (·.1))=false;rw[hplain]<;>rfl) (Calls.evalArgs_plain ?_)
 exact A3 hA fun us s2 ⟨vs,H2,I2,r2,q2⟩=>hm pins s2 σ H2 x vs v us Q I2 r1 r2 q2
end
end L2
namespace L2
open PySem PySem.Spec PyProof.Rows
def MtM (X:Cx)(id:String)(r:V->List V->Hp->VK->Prop):Prop:=
 ∀(pins:List (Addr×Obj)) (s:Shared) (σ:St) (H:Hp) (x:V) (xs:List V) (v:Value) (us:List Value) (Q:VK),j5 X pins σ H s->A7 x v->r6 xs us->r x xs H Q->
  wpAny (model X.prog X.w) X.A (call (.builtin id) (v::us)) (EP X pins σ Q) X.xe s
theorem r6.one:∀{x:V} {us:List Value},r6 [x] us->∃u,us=[u]/\A7 x u
 |_,_,.cons r .nil=>⟨_,rfl,r⟩
theorem r6.zero:∀{us:List Value},r6 [] us->us=[]
 |_,.nil=>rfl
theorem r6.dropLast {xs:List V}{us:List Value}(h:r6 xs us):r6 xs.dropLast us.dropLast:=by
 induction h with
 |nil=>exact .nil
 |cons r t ih=>
  cases t with
  |nil=>exact .nil
  |cons q t'=>exact .cons r ih
theorem r6.eraseIdx:∀{xs:List V} {us:List Value} (i:Nat),r6 xs us->r6 (xs.eraseIdx i) (us.eraseIdx i)
 |_,_,_,.nil=> .nil
 |_,_,0,.cons _ t=>t
 |_,_,i+1,.cons r t=> .cons r (r6.eraseIdx i t)
theorem r6.reverse {xs:List V}{us:List Value}(h:r6 xs us):r6 xs.reverse us.reverse:=by
 induction h with
 |nil=>exact .nil
 |cons r t ih=>rw[List.reverse_cons,List.reverse_cons];exact r6.append ih (.cons r .nil)
theorem r6.rep {xs:List V}{us:List Value}(h:r6 xs us):∀k:Nat,r6 (dw2 k xs).flatten (dw2 k us).flatten
 |0=> .nil
 |k+1=>by
  rw[ed6,ed6,dx7,dx7];exact r6.append h (r6.rep h k)
theorem ce7 {α:Type}(l:List α):l.eraseIdx (l.length - 1)=l.dropLast:=by
 induction l with
 |nil=>rfl
 |cons a r ih=>
  cases r with
  |nil=>rfl
  |cons b r=>
   have e:(a::b::r).length - 1=((b::r).length - 1)+1:=by
     have h1:(a::b::r).length=r.length+2:=rfl;have h2:(b::r).length=r.length+1:=rfl;omega
   rw[e,List.eraseIdx_cons_succ,ih]
   all_goals rfl
theorem bj9 {α:Type}:∀(l:List α) (i:Nat),(l.eraseIdx i).length<=l.length
 |[],_=>dt7 _
 |_::_,0=>ef2 _
 |_::r,i+1=>Nat.succ_le_succ (bj9 r i)
theorem bk0 (its:List Value):∀(k:Nat) (acc:List Value),
   List.foldl (fun x1 x2=>x1++x2) acc.toArray (dw2 k its.toArray)=(acc++(dw2 k its).flatten).toArray
 |0,acc=>by simp
 |k+1,acc=>by
  have e:acc.toArray++its.toArray=(acc++its).toArray:=by simp
  have e2:(acc++its)++(dw2 k its).flatten=acc++(dw2 (k+1) its).flatten:=by
    rw[ed6,dx7,dv0]
  rw[<-e2,<-bk0 its k (acc++its),<-e,ed6,List.foldl_cons]
section
variable {X:Cx} {pins:List (Addr×Obj)} {σ:St} {H:Hp} {s:Shared} {l b:Addr} {xs ys zs:List V}
theorem j5.lset {its its':List Value}{n:Nat}{f:Array Value->Array Value}{t':Nat}(I:j5 X pins σ H s)(hH:H l=some (.lst xs))
   (e:s.heap.get? l=some {cls:= .type "list",data:= .seq its.toArray n}) (hf:f its.toArray=its'.toArray) (hv:r6 ys its') (hz:ys.length<=sizeLine):
   j5 X pins σ (i8 H l (.lst ys)) {s with heap:=s.heap.update l (Obj.mapSeq f),toks:=t'}:=by
 have q:=PySem.IsL.update e f;rw[hf] at q;refine I.write (x:=l) (e:=l) (by rw[hH];exact trivial) (.inl rfl) (fun b' u hb hu=>(Heap.get?_update_other s.heap (Obj.mapSeq f) (Ne.symm hb)).trans hu) ⟨_,q⟩ ?_;exact ⟨hz,its',_,hv,q⟩
theorem j5.lnew {its:List Value}{t':Nat}(I:j5 X pins σ H s)(hv:r6 ys its)(hz:ys.length<=sizeLine):
   j5 X pins σ (i8 H s.heap.objs.size (.lst ys)) {s with heap:=s.heap.push {cls:= .type "list",data:= .seq its.toArray},toks:=t'}:=
 I.laid (fun _ _ q=>Heap.get?_push_of_some _ q) (dt7 _) ⟨hz,its,0,hv,Heap.get?_push_size _ rfl⟩
theorem j5.fresh (I:j5 X pins σ H s):H s.heap.objs.size=none:=I.hok.fresh (dt7 _)
theorem j5.lstM (I:j5 X pins σ H s)(hH:H l=some (.lst xs)):xs.length<=sizeLine/\∃(its:List Value) (n:Nat),r6 xs its/\xs.length=its.length/\s.heap.get? l=some {cls:= .type "list",data:= .seq its.toArray n}:=by
 obtain ⟨z,its,n,r,e⟩:=I.hok l _ hH;exact ⟨z,its,n,r,r.length,e⟩
theorem bq8 {n:Nat}(h:n<=sizeLine):Builtin.List.listTooLong n=false:=by
 unfold Builtin.List.listTooLong;exact decide_eq_false (by omega)
end
section
variable {X:Cx}
def ca1:V->List V->Hp->VK->Prop:=fun x vs H Q=>∃l xs y,x= .ref l/\vs=[y]/\H l=some (.lst xs)/\xs.length < sizeLine/\Q .non (i8 H l (.lst (xs++[y])))
theorem cj8:MtM X "list.append" ca1:=by
 intro pins s σ H x vs v us Q I rx rv h;obtain ⟨l,xs,y,rfl,rfl,hH,hz,q⟩:=h;cases rx;obtain ⟨u,rfl,ru⟩:=rv.one;obtain ⟨z,its,n,r,hl,e⟩:=I.lstM hH;refine call_meets F.slot_list_append ⟨_,e,rfl⟩ F.entry_list_append (F.args_list_append_2 _ _) (PySem.list_append l its.toArray n u (by rw[du2];omega)) ⟨e,?_⟩;refine ⟨.non,_,I.lset (its':=its++[u]) hH e (by simp) (r.append (.cons ru .nil)) ?_,rfl,q⟩;rw[dt4,dy4];omega
def ca2:V->List V->Hp->VK->Prop:=fun x vs H Q=>∃l b xs zs,x= .ref l/\vs=[.ref b]/\H l=some (.lst xs)/\H b=some (.lst zs)/\xs.length+zs.length<=sizeLine/\Q .non (i8 H l (.lst (xs++zs)))
theorem cj9:MtM X "list.extend" ca2:=by
 intro pins s σ H x vs v us Q I rx rv h;obtain ⟨l,b,xs,zs,rfl,rfl,hH,hB,hz,q⟩:=h;cases rx;obtain ⟨u,rfl,ru⟩:=rv.one;cases ru;obtain ⟨z,its,n,r,hl,e⟩:=I.lstM hH;obtain ⟨z2,its2,n2,r2,hl2,e2⟩:=I.lstM hB
 have hsz:its.toArray.size+its2.toArray.size<=sizeLine:=by rw[du2,du2];omega
 have hlong:¬(!its.toArray.isEmpty&&Builtin.List.listTooLong (its.toArray.size+its2.toArray.size))=true:=by
   rw[bq8 hsz,Bool.and_false];exact dv4
 refine call_meets F.slot_list_extend ⟨_,e,rfl⟩ F.entry_list_extend (F.args_list_extend_2 _ _)
   (AutoSeq1.list_extend_list_list_0 l its.toArray n b its2.toArray n2 hlong (by rw[du2];omega) (by omega)) ⟨e,e2,?_⟩
 refine ⟨.non,_,I.lset (its':=its++its2) hH e (by simp) (r.append r2) ?_,rfl,q⟩;rw[dt4];omega
def dg4:V->List V->Hp->VK->Prop:=fun x vs H Q=>∃l xs y,x= .ref l/\vs=[]/\H l=some (.lst xs)/\xs[xs.length - 1]? =some y/\Q y (i8 H l (.lst xs.dropLast))
theorem dg5:MtM X "list.pop" dg4:=by
 intro pins s σ H x vs v us Q I rx rv h;obtain ⟨l,xs,y,rfl,rfl,hH,hy,q⟩:=h;cases rx;have hus:=rv.zero;subst hus;obtain ⟨z,its,n,r,hl,e⟩:=I.lstM hH;obtain ⟨u,hu,ru⟩:=r.get hy
 have hy':its.toArray[its.toArray.size - 1]? =some u:=by
   show its.toArray[its.length - 1]? =some u;rw[<-dy0,<-hl];exact hu
 refine call_meets F.slot_list_pop ⟨_,e,rfl⟩ F.entry_list_pop (F.args_list_pop_1 _) (MeetsSeq.list_pop_last l its.toArray n u hy' (by rw[du2];omega)) ⟨e,?_⟩;refine ⟨y,_,I.lset (its':=its.dropLast) hH e ?_ r.dropLast ?_,ru,q⟩
 · show its.toArray.eraseIdxIfInBounds (its.toArray.size - 1)=its.dropLast.toArray;rw[du2,eg3,ce7]
 · rw[List.length_dropLast];omega
def bq9:V->List V->Hp->VK->Prop:=fun x vs H Q=>∃l xs i k y,x= .ref l/\vs=[.int i]/\H l=some (.lst xs)/\ -(2^63)<=i/\i < 2^63/\seqIndex? i xs.length=some k/\xs[k]? =some y/\Q y (i8 H l (.lst (xs.eraseIdx k)))
theorem br0:MtM X "list.pop" bq9:=by
 intro pins s σ H x vs v us Q I rx rv h;obtain ⟨l,xs,i,k,y,rfl,rfl,hH,h1,h2,hk,hy,q⟩:=h;cases rx;obtain ⟨u,rfl,ru⟩:=rv.one;obtain ⟨t,rfl⟩:=ru;obtain ⟨z,its,n,r,hl,e⟩:=I.lstM hH;obtain ⟨w,hw,rw'⟩:=r.get hy
 refine call_meets F.slot_list_pop ⟨_,e,rfl⟩ F.entry_list_pop (F.args_list_pop_2 _ _)
   (MeetsSeq.list_pop_at l its.toArray n i t k w (fitsIndex_both h1 h2) (by rw[du2,<-hl];exact hk) (by rw[<-dy0];exact hw) (by rw[du2];omega)) ⟨e,?_⟩
 refine ⟨y,_,I.lset (its':=its.eraseIdx k) hH e ?_ (r.eraseIdx k) ?_,rw',q⟩
 · show its.toArray.eraseIdxIfInBounds k=(its.eraseIdx k).toArray;rw[eg3]
 · have:=bj9 xs k;omega
def dq0:R2:=fun x y H Q=>∃l b xs zs,x= .ref l/\y= .ref b/\H l=some (.lst xs)/\H b=some (.lst zs)/\xs.length+zs.length<=sizeLine/\∀p,H p=none->Q (.ref p) (i8 H p (.lst (xs++zs)))
theorem J0:S5 X (binaryOp .Add) dq0:=by
 intro pins s σ H x y v u Q I rx ry h;obtain ⟨l,b,xs,zs,rfl,rfl,hH,hB,hz,q⟩:=h;cases rx;cases ry;obtain ⟨z,its,n,r,hl,e⟩:=I.lstM hH;obtain ⟨z2,its2,n2,r2,hl2,e2⟩:=I.lstM hB;refine PySem.P.add_list e e2 ?_ (by rw[du2,du2];omega)
 have ea:its.toArray++its2.toArray=(its++its2).toArray:=by simp
 rw[ea];exact ⟨.ref _,_,I.lnew (t':=s.toks) (r.append r2) (by rw[dt4];omega),rfl,q _ I.fresh⟩
def dq1:R2:=fun x y H Q=>∃l k xs,x= .ref l/\y= .int k/\H l=some (.lst xs)/\ -(2^63)<=k/\k < 2^63/\xs.length*k.toNat<=sizeLine/\
 ∀p,H p=none->Q (.ref p) (i8 H p (.lst (dw2 k.toNat xs).flatten))
theorem da7 {α:Type}(xs:List α)(k:Nat):(dw2 k xs).flatten.length=k*xs.length:=by
 induction k with
 |zero=>simp
 |succ k ih=>rw[ed6,dx7,dt4,ih,Nat.succ_mul,ei5]
theorem bd1:S5 X (binaryOp .Mult) dq1:=by
 intro pins s σ H x y v u Q I rx ry h;obtain ⟨l,k,xs,rfl,rfl,hH,h1,h2,hz,q⟩:=h;cases rx;obtain ⟨t,rfl⟩:=ry;obtain ⟨z,its,n,r,hl,e⟩:=I.lstM hH
 have hlen:its.toArray.size*k.toNat<=sizeLine:=by rw[du2,<-hl];exact hz
 have hcap:¬its.toArray.size*k.toNat > (2^63 - 1)/8:=by
   have:(sizeLine:Nat)<=(2^63 - 1)/8:=by decide
   omega
 have hfit:¬(!Builtin.List.listFitsIndex k)=true:=by
   rw[fitsIndex_both h1 h2];exact dv4
 have hlong:¬Builtin.List.listTooLong (its.toArray.size*k.toNat)=true:=by
   rw[bq8 hlen];exact dv4
 have hnew:List.foldl (fun x1 x2=>x1++x2) #[] (dw2 (if its.toArray.isEmpty=true then 0 else k.toNat) its.toArray)=(dw2 k.toNat its).flatten.toArray:=by
   have f0:∀m:Nat,List.foldl (fun x1 x2=>x1++x2) #[] (dw2 m its.toArray)=(dw2 m its).flatten.toArray:=fun m=>by
     have:=bk0 its m [];rw[List.nil_append] at this;exact this
   rw[f0]
   cases its with
   |nil=>simp
   |cons a r'=>rw[if_neg (by simp)]
 refine wpAny_binaryOp_repeat_ref (T:="list") (U:="int") (by decide) ⟨_,e,rfl⟩ (fun s'=>typeIs_int s' k t) noFill_list_mul F.fills_int_mul F.slot_int_rmul repeat_list F.slot_int_index.lookup
   (call_meets F.slot_int_rmul (typeIs_int s k t) F.entry_int_rmul (F.args_int_rmul_2 _ _) (int___rmul___int_list k t l its.toArray n)
     ⟨e,rfl,⟨_,e,rfl⟩,call_meets F.slot_list_mul ⟨_,e,rfl⟩ F.entry_list_mul (F.args_list_mul_2 _ _) (AutoListH.list___mul___list_int_3 l its.toArray n k t hfit hcap hlong) ⟨e,?_⟩⟩)
 rw[hnew];exact ⟨.ref _,_,I.lnew (t':=s.toks) (r.rep k.toNat) (by rw[da7,Nat.mul_comm];exact hz),rfl,q _ I.fresh⟩
end
end L2
namespace L2
open PySem PySem.Spec PyProof.Rows
section
variable {κ:Type} [DecidableEq κ]
def X6 (kvs:List (κ×V))(k:κ):Option V:=(kvs.find? fun kv=>decide (kv.1=k)).map (·.2)
def Z3 (kvs:List (κ×V))(k:κ)(v:V):List (κ×V):=
 if (kvs.any fun kv=>decide (kv.1=k))=true then kvs.map (fun kv=>if kv.1=k then (kv.1,v) else kv) else kvs++[(k,v)]
theorem ao0 {p:κ×V}{r:List (κ×V)}{k:κ}(e:p.1=k):X6 (p::r) k=some p.2:=by simp [X6,ee7,e]
theorem ag4 {p:κ×V}{r:List (κ×V)}{k:κ}(e:¬p.1=k):X6 (p::r) k=X6 r k:=by simp [X6,ee7,e]
theorem az9 (k:κ):∀kvs:List (κ×V),(kvs.any fun kv=>decide (kv.1=k))=(X6 kvs k).isSome
 |[]=>rfl
 |p::r=>by
  rw[ej5]
  by_cases e:p.1=k
  · simp only[ao0 e,decide_eq_true e,Bool.true_or,Option.isSome_some]
  · rw[ag4 e,decide_eq_false e,Bool.false_or];exact az9 k r
theorem ay6 (kvs:List (κ×V))(k:κ)(v:V):(Z3 kvs k v).length<=kvs.length+1:=by
 unfold Z3
 split
 · rw[dt3];omega
 · rw[dt4,du9,dz2];omega
theorem cs7 {kvs:List (κ×V)}{k:κ}(v:V)(h:X6 kvs k=none):Z3 kvs k v=kvs++[(k,v)]:=by
 unfold Z3;rw[az9,h];exact if_neg (by decide)
theorem az6.isSome_eq {o:Option V}{u:Option Value}(r:az6 o u):o.isSome=u.isSome:=by
 cases o with
 |none=>cases u with
  |none=>rfl
  |some _=>exact (show False from r).elim
 |some _=>cases u with
  |none=>exact (show False from r).elim
  |some _=>rfl
theorem KV.val {kvs:List (κ×V)}{vs:List (κ×Value)}(r:KV kvs vs)(k:κ):az6 (X6 kvs k) (valueAt vs k):=by
 unfold KV at r
 induction r with
 |nil=>exact True.intro
 |@cons p q ps qs h t ih=>
  obtain ⟨h1,h2⟩:=h
  by_cases e:p.1=k
  · have e':q.1=k:=h1.symm.trans e
    have b:valueAt (q::qs) k=some q.2:=by simp [valueAt,ee7,e']
    rw[ao0 e,b];exact h2
  · have e':¬q.1=k:=fun z=>e (h1.trans z)
    have b:valueAt (q::qs) k=valueAt qs k:=by simp [valueAt,ee7,e']
    rw[ag4 e,b];exact ih
theorem KV.any {kvs:List (κ×V)}{vs:List (κ×Value)}(r:KV kvs vs)(k:κ):(kvs.any fun kv=>decide (kv.1=k))=vs.any fun kv=>decide (kv.1=k):=by
 unfold KV at r
 induction r with
 |nil=>rfl
 |cons h t ih=>rw[ej5,ej5,ih,h.1]
theorem KV.repl {kvs:List (κ×V)}{vs:List (κ×Value)}(r:KV kvs vs)(k:κ){y:V}{u:Value}(ry:A7 y u):
   KV (kvs.map fun kv=>if kv.1=k then (kv.1,y) else kv) (vs.map fun kv=>if kv.1=k then (kv.1,u) else kv):=by
 unfold KV at r ⊢
 induction r with
 |nil=>exact .nil
 |@cons p q ps qs h t ih=>
  rw[dv7,dv7];refine .cons ?_ ih;obtain ⟨h1,h2⟩:=h
  by_cases e:p.1=k
  · rw[if_pos e,if_pos (h1.symm.trans e)];exact ⟨h1,ry⟩
  · rw[if_neg e,if_neg (fun z=>e (h1.trans z))];exact ⟨h1,h2⟩
theorem KV.put {kvs:List (κ×V)}{vs:List (κ×Value)}(r:KV kvs vs)(k:κ){y:V}{u:Value}(ry:A7 y u):KV (Z3 kvs k y) (stored vs k u):=by
 unfold Z3 stored;rw[r.any k]
 by_cases e:(vs.any fun kv=>decide (kv.1=k))=true
 · rw[if_pos e,if_pos e];exact r.repl k ry
 · rw[if_neg e,if_neg e];exact Paired.snoc r ⟨rfl,ry⟩
theorem KV.length {kvs:List (κ×V)}{vs:List (κ×Value)}(r:KV kvs vs):kvs.length=vs.length:=Paired.length r
end
theorem bo7 {P:Program}{w:World}{k:C9}{u:Value}(r:A7 (kV k) u):(N9 P w).is k u=true:=by
 cases k with
 |inl i=>obtain ⟨t,e⟩:=(show ∃t,u=Value.int i t from r);subst e;exact bx5 P w i t
 |inr x=>obtain ⟨t,e⟩:=(show ∃t,u=Value.str x t from r);subst e;exact bx6 P w x t
theorem bk1 {P:Program}{w:World}:∀{ks:List C9} {us:List Value},r6 (ks.map kV) us->ItemsAre (N9 P w) ks us
 |[],_,r=>by rw[ef6] at r;cases r;exact .nil
 |k::ks,_,r=>by
  rw[dv7] at r
  cases r with
  |cons h t=>exact .cons (bo7 h) (bk1 t)
abbrev KT (H:Hp):List (List C9×V)->List (List C9×Addr×Value)->Prop:=Paired fun p q=>p.1=q.1/\H q.2.1=some (.tup (p.1.map kV))/\A7 p.2 q.2.2
theorem KT.val {H:Hp}{kvs:List (List C9×V)}{xs:List (List C9×Addr×Value)}(r:KT H kvs xs)(k:List C9):az6 (X6 kvs k) ((atKey xs k).map (·.2)):=by
 induction r with
 |nil=>exact True.intro
 |@cons p q ps qs h t ih=>
  obtain ⟨h1,_,h2⟩:=h
  by_cases e:p.1=k
  · have e':q.1=k:=h1.symm.trans e
    have b:atKey (q::qs) k=some q.2:=by simp [atKey,ee7,e']
    rw[ao0 e,b];exact h2
  · have e':¬q.1=k:=fun z=>e (h1.trans z)
    have b:atKey (q::qs) k=atKey qs k:=by simp [atKey,ee7,e']
    rw[ag4 e,b];exact ih
theorem KT.repl {H:Hp}{kvs:List (List C9×V)}{xs:List (List C9×Addr×Value)}(r:KT H kvs xs)(k:List C9){y:V}{u:Value}(ry:A7 y u):
   KT H (kvs.map fun kv=>if kv.1=k then (kv.1,y) else kv) (xs.map (putAt k u)):=by
 induction r with
 |nil=>exact .nil
 |@cons p q ps qs h t ih=>
  rw[dv7,dv7];refine .cons ?_ ih;obtain ⟨h1,h2,h3⟩:=h;unfold putAt
  by_cases e:p.1=k
  · rw[if_pos e,if_pos (h1.symm.trans e)];exact ⟨h1,h2,ry⟩
  · rw[if_neg e,if_neg (fun z=>e (h1.trans z))];exact ⟨h1,h2,h3⟩
theorem KT.put {H:Hp}{kvs:List (List C9×V)}{xs:List (List C9×Addr×Value)}(r:KT H kvs xs)(k:List C9){b:Addr}{y:V}{u:Value}(hb:H b=some (.tup (k.map kV)))(ry:A7 y u):
   KT H (Z3 kvs k y) (storedH xs k b u):=by
 have e:(kvs.any fun kv=>decide (kv.1=k))=(atKey xs k).isSome:=by
   rw[az9,(r.val k).isSome_eq,eh9]
 unfold Z3 storedH;rw[e]
 by_cases q:(atKey xs k).isSome=true
 · rw[if_pos q,if_pos q];exact r.repl k ry
 · rw[if_neg q,if_neg q];exact Paired.snoc r ⟨rfl,hb,ry⟩
theorem KT.keeps {H H':Hp}{kvs:List (List C9×V)}{xs:List (List C9×Addr×Value)}(r:KT H kvs xs)(ht:∀b ys,H b=some (.tup ys)->H' b=some (.tup ys)):KT H' kvs xs:=
 Paired.mapP r fun _ _ z=>⟨z.1,ht _ _ z.2.1,z.2.2⟩
section
variable {P:Program} {w:World} {H:Hp} {h:Heap} {a:Addr}
theorem cy8 {u:HO}(ok:J4 P w H h)(e:Rd H a u):C5 P w H h a u:=e.ok ok
theorem ce8 {kvs:List (C9×V)}(ok:J4 P w H h)(e:Rd H a (.dK kvs)):kvs.length<=sizeLine/\(a==sysModules)=false/\∃vs,KV kvs vs/\h.DictOf (N9 P w) a vs:=
 show C5 P w H h a (.dK kvs) from cy8 ok e
theorem dl4 {kvs:List (C9×V)}(ok:J4 P w H h)(e:H a=some (.dK kvs)):kvs.length<=sizeLine/\(a==sysModules)=false/\∃vs,KV kvs vs/\h.DictOf (N9 P w) a vs:=ce8 ok (.inl e)
theorem bd2 {ks:List C9}(ok:J4 P w H h)(e:H a=some (.tup (ks.map kV))):(tupleKind (N9 P w)).is h ks a:=by
 obtain ⟨_,its,r,o,h1,h2,n,h3⟩:=(show C5 P w H h a (.tup (ks.map kV)) from ok a _ e);exact ⟨o,its.toArray,n,h1,h2,h3,by simpa using bk1 r⟩
theorem ce9 {kvs:List (List C9×V)}(ok:J4 P w H h)(e:Rd H a (.dT kvs)):kvs.length<=sizeLine/\(a==sysModules)=false/\
   ∃xs,KT H kvs xs/\h.DictOfH (tupleKind (N9 P w)) a xs:=by
 obtain ⟨z,y,xs,r,o,es,ep,h1,h2,h3,h4,h5⟩:=(show C5 P w H h a (.dT kvs) from cy8 ok e);refine ⟨z,y,xs,r,o,es,ep,h1,h2,h3,h4,fun x hx=> ?_,h5⟩
 have all:∀{l:List (List C9×V)} {m:List (List C9×Addr×Value)},KT H l m->∀x∈m,(tupleKind (N9 P w)).is h x.1 x.2.1:=by
   intro l m q
   induction q with
   |nil=>intro x hx;exact nomatch hx
   |@cons p q ps qs hq t ih=>
    intro x hx
    rcases dw1.mp hx with e|hx
    · subst e;exact bd2 ok (by rw[<-hq.1];exact hq.2.1)
    · exact ih x hx
 exact all r x hx
theorem dl5 {kvs:List (List C9×V)}(ok:J4 P w H h)(e:H a=some (.dT kvs)):kvs.length<=sizeLine/\(a==sysModules)=false/\
 ∃xs,KT H kvs xs/\h.DictOfH (tupleKind (N9 P w)) a xs:=ce9 ok (.inl e)
end
def ao1 (H:Hp)(a:Addr)(y:V)(r:Option V):Prop:=
 (∃kvs k,Rd H a (.dK kvs)/\y=kV k/\r=X6 kvs k)\/∃kvs k b,Rd H a (.dT kvs)/\y= .ref b/\H b=some (.tup (k.map kV))/\r=X6 kvs k
def ba0 (H:Hp)(a:Addr)(y v:V)(H':Hp):Prop:=
 (∃kvs k,H a=some (.dK kvs)/\y=kV k/\kvs.length < sizeLine/\H'=i8 H a (.dK (Z3 kvs k v)))\/
 ∃kvs k b,H a=some (.dT kvs)/\y= .ref b/\H b=some (.tup (k.map kV))/\kvs.length < sizeLine/\H'=i8 H a (.dT (Z3 kvs k v))
theorem ao1.k {H:Hp}{a:Addr}{kvs:List (C9×V)}{k:C9}(e:H a=some (.dK kvs)):ao1 H a (kV k) (X6 kvs k):= .inl ⟨kvs,k,.inl e,rfl,rfl⟩
theorem ba0.k {H:Hp}{a:Addr}{kvs:List (C9×V)}{k:C9}{v:V}(e:H a=some (.dK kvs))(hl:kvs.length < sizeLine):ba0 H a (kV k) v (i8 H a (.dK (Z3 kvs k v))):= .inl ⟨kvs,k,e,rfl,hl,rfl⟩
section
variable {X:Cx} {pins:List (Addr×Obj)} {σ:St} {H:Hp} {s:Shared} {a:Addr} {y v:V} {u r:Value} {o:Option V} {A:Around} {E:Value->Shared->Prop}
theorem j5.big (I:j5 X pins σ H s):sysModules < s.heap.objs.size:=by
 have h:mainGlobals < s.heap.objs.size:=(I.mod.glob.keeps I.bk).lt;exact Nat.lt_trans (by decide) h
theorem dq2 {Q:Value->Shared->Prop}(hu:A.units+1 < cLine)(I:j5 X pins σ H s)(g:ao1 H a y o)(ry:A7 y u)(h:∀s',j5 X pins σ H s'->Q (.bool o.isSome) s'):
   wpAny (model X.prog X.w) A (compareOp .In u (.ref a)) Q E s:=by
 rcases g with ⟨kvs,k,e,ey,l⟩|⟨kvs,k,b,e,ey,eb,l⟩
 · subst ey;obtain ⟨z,hd,vs,rel,dd⟩:=ce8 I.hok e;refine wpAny_in_of (bo7 ry) hd dd.mapOf ?_;rw[<-(rel.val k).isSome_eq,<-l];exact h _ (I.tok _)
 · subst ey;cases (show u=Value.ref b from ry);obtain ⟨z,hd,xs,rel,dd⟩:=ce9 I.hok e;refine wpAny_in_heap (tupleKind_room_in1 hu) (bd2 I.hok eb) hd dd ?_;have q:=(rel.val k).isSome_eq;rw[eh9] at q;rw[<-q,<-l];exact h _ (I.tok _)
theorem da8 {Q:Value->Shared->Prop}(hu:A.units+1 < cLine)(I:j5 X pins σ H s)(g:ao1 H a y o)(ry:A7 y u)(h:∀s',j5 X pins σ H s'->Q (.bool (!o.isSome)) s'):
   wpAny (model X.prog X.w) A (compareOp .NotIn u (.ref a)) Q E s:=by
 rcases g with ⟨kvs,k,e,ey,l⟩|⟨kvs,k,b,e,ey,eb,l⟩
 · subst ey;obtain ⟨z,hd,vs,rel,dd⟩:=ce8 I.hok e;refine wpAny_notIn_of (bo7 ry) hd dd.mapOf ?_;rw[<-(rel.val k).isSome_eq,<-l];exact h _ (I.tok _)
 · subst ey;cases (show u=Value.ref b from ry);obtain ⟨z,hd,xs,rel,dd⟩:=ce9 I.hok e;refine wpAny_notIn_heap (tupleKind_room_in1 hu) (bd2 I.hok eb) hd dd ?_;have q:=(rel.val k).isSome_eq;rw[eh9] at q;rw[<-q,<-l];exact h _ (I.tok _)
theorem ca3 {h':Heap}{t':Nat}{ob:HO}(I:j5 X pins σ H s)(mu:Mut (H a))(hs:Heap.SameBut a s.heap h')(he:∃q,h'.get? a=some q)(new:C5 X.prog X.w (i8 H a ob) h' a ob):
   j5 X pins σ (i8 H a ob) {s with heap:=h',toks:=t'}:=
 I.write (x:=a) (e:=a) mu (.inl rfl) (fun b q hb z=>(hs.2 b hb).trans z) he new
theorem dg6 {P:Program}{w:World}{H':Hp}{h':Heap}{kvs:List (C9×V)}{vs:List (C9×Value)}(z:kvs.length<=sizeLine)(hd:(a==sysModules)=false)(rel:KV kvs vs)(dd:h'.DictOf (N9 P w) a vs):
 C5 P w H' h' a (.dK kvs):=⟨z,hd,vs,rel,dd⟩
theorem ck0 {H':Hp}{Q:Unit->Shared->Prop}(hu:A.units+1 < cLine)(I:j5 X pins σ H s)(g:ba0 H a y v H')(ry:A7 y u)(rv:A7 v r)(h:∀s',j5 X pins σ H' s'->Q () s'):
   wpAny (model X.prog X.w) A (setItem (.ref a) u r) Q E s:=by
 rcases g with ⟨kvs,k,e,ey,l,eH⟩|⟨kvs,k,b,e,ey,eb,l,eH⟩
 · subst ey eH;obtain ⟨z,hd,vs,rel,dd⟩:=dl4 I.hok e
   have hz:vs.length<=sizeLine:=by rw[<-rel.length];exact z
   have hl:(Z3 kvs k v).length<=sizeLine:=by have:=ay6 kvs k v;omega
   refine wpAny_setItem_pairs (hsz:=hz) (bo7 ry) dd fun h' dd' hs=>h _ ?_
   have he:∃q,h'.get? a=some q:=let ⟨q,_,_,hq,_⟩:=dd';⟨q,hq⟩;exact ca3 I (by rw[e];exact True.intro) hs he (dg6 hl hd (rel.put k rv) dd')
 · subst ey eH;cases (show u=Value.ref b from ry);obtain ⟨z,hd,xs,rel,dd⟩:=dl5 I.hok e
   have hz:xs.length<=sizeLine:=by rw[<-Paired.length rel];exact z
   have hl:(Z3 kvs k v).length<=sizeLine:=by have:=ay6 kvs k v;omega
   refine wpAny_setItem_heap (hsz:=hz) (tupleKind_room_in1 hu) (bd2 I.hok eb) dd fun h' dd' hs=>h _ ?_
   obtain ⟨q,es,ep,hq,h2,h3,h4,_,h5⟩:=dd';refine ca3 I (by rw[e];exact True.intro) hs ⟨q,hq⟩ ⟨hl,hd,_,(rel.put k eb rv).keeps fun c ys ec=> ?_,q,es,ep,hq,h2,h3,h4,h5⟩;rw[j8 (cx9 ec e (fun z=>nomatch z))];exact ec
end
def dq3 (ty td:TE):TE:=fun σ H Q=>ty σ H fun y H1=>td σ H1 fun x H2=>∃a o,x= .ref a/\ao1 H2 a y o/\Q (.bl o.isSome) H2
def da9 (ty td:TE):TE:=fun σ H Q=>ty σ H fun y H1=>td σ H1 fun x H2=>∃a o,x= .ref a/\ao1 H2 a y o/\Q (.bl (!o.isSome)) H2
def dl6 (td ty tv:TE):TS:=fun D σ H=>tv σ H fun v H1=>td σ H1 fun x H2=>ty σ H2 fun y H3=>∃a H4,x= .ref a/\ba0 H3 a y v H4/\D.nx σ H4
section
variable {X:Cx} {o i e value:Expr} {pos pos' tpos:Pos} {td ty tv:TE}
theorem ck1 (hu:X.A.units+1 < cLine)(hi:PE X i ty)(ho:PE X o td):PC X .In i o (dq3 ty td):=by
 intro pins s σ H Q I h
 refine A3 (hi pins s σ H _ I h) fun iv s1 ⟨y,H1,I1,ry,q1⟩=>A3 (ho pins s1 σ H1 _ I1 q1) fun u s2 ⟨x,H2,I2,rx,a,ov,ex,g,q2⟩=> ?_
 subst ex;obtain rfl:u=Value.ref a:=rx
 exact dq2 hu I2 g ry fun s3 I3=>⟨.bl ov.isSome,H2,I3,rfl,q2⟩
theorem ck2 (hu:X.A.units+1 < cLine)(hi:PE X i ty)(ho:PE X o td):PC X .NotIn i o (da9 ty td):=by
 intro pins s σ H Q I h
 refine A3 (hi pins s σ H _ I h) fun iv s1 ⟨y,H1,I1,ry,q1⟩=>A3 (ho pins s1 σ H1 _ I1 q1) fun u s2 ⟨x,H2,I2,rx,a,ov,ex,g,q2⟩=> ?_
 subst ex;obtain rfl:u=Value.ref a:=rx
 exact da8 hu I2 g ry fun s3 I3=>⟨.bl (!ov.isSome),H2,I3,rfl,q2⟩
theorem bf8 (hu:X.A.units+1 < cLine)(ho:PE X o td)(hi:PE X i ty)(hv:PE X value tv)(hs:swapsWith value (some (.Subscript o i pos')) pos.line X.env=pure false):
   PS X (.Assign [.Subscript o i pos'] value pos) (dl6 td ty tv):=by
 intro pins s σ H D I h;refine wpAny_Assign_Subscript (A3 (hv pins s σ H _ I h) fun r s1 ⟨v,H1,I1,rv,q1⟩=>A3 (ho pins s1 σ H1 _ I1 q1) fun u s2 ⟨x,H2,I2,rx,q2⟩=>A3 (hi pins s2 σ H2 _ I2 q2) fun iv s3 ⟨y,H3,I3,ry,a,H4,ex,g,q3⟩=> ?_) hs;subst ex;obtain rfl:u=Value.ref a:=rx
 exact ck0 hu I3 g ry rv fun s4 I4=>⟨σ,H4,I4,q3⟩
end
theorem cs8 {P:Program}{w:World}{H:Hp}(h:Heap)(hb:sysModules < h.objs.size):C5 P w H (h.push {cls:= .type "dict",data:= .dict #[]}) h.objs.size (.dK []):=
 ⟨dv5 _,beq_eq_false_iff_ne.mpr (Ne.symm (dx1 hb)),[],.nil,Heap.DictOf.new h⟩
def dg7:TE:=fun _ H Q=>∀p,H p=none->Q (.ref p) (i8 H p (.dK []))
section
variable {X:Cx} {pos:Pos}
theorem ag5:PE X (.Dict [] [] pos) dg7:=fun pins s σ H Q I h=>
 wpAny_Dict_empty ⟨.ref s.heap.objs.size,_,I.laid (a:=s.heap.objs.size) (o:= .dK []) (t':=s.toks) (fun _ _ q=>Heap.get?_push_of_some _ q) (dt7 _) (cs8 s.heap I.big),rfl,h _ (I.hok.fresh (dt7 _))⟩
end
end L2
namespace Att
open PySem PySem.W PySem.Calls PyProof.Rows
theorem bd3 {P:Params}{h:Heap}:∀(ns:List Int) (vs:List Value),WellAll P h vs (ns.map WData.int)->IntsAre vs ns:=by
 intro ns
 induction ns with
 |nil=>
  intro vs w;rw[ef6] at w;cases w;exact .nil
 |cons n ns ih=>
  intro vs w;rw[dv7] at w
  cases w with
  |cons a b=>
   cases a;exact .cons _ _ (ih _ b)
theorem ck3 {l:OpenLaw}{n:Nat}(hn:l.most=some n){P:Params}{h:Heap}{args:List WData}{vals:List Value}
   (hpre:l.row.toRowW.claim.pre args=true) (hwl:WellAll P h vals args):
   ∃a vs ns,vals=[Value.ref a]/\args=[WData.list (ns.map WData.int)]/\h.get? a=some {cls:= .type "list",data:= .seq vs.toArray}/\IntsAre vs ns/\ns.length<=n:=by
 have hsh:WShape.hasAll [] args [.list .int]=true:=(pre_splitW hpre).1;have hc:l.pre.holds [] {args:=args}=true:=(pre_splitW hpre).2;obtain ⟨d,r,rfl,h1,h2⟩:=hasAllW_cons hsh;obtain rfl:=hasAllW_nil h2;obtain ⟨xs,rfl,h3⟩:=hasW_list h1;obtain ⟨ns,rfl⟩:=items_int h3
 have hlen:ns.length<=n:=by
   unfold OpenLaw.pre at hc
   have h4:(WTm.not (.lt (.lit (.int (n:Int))) (.len (.arg 0)))).holds [] {args:=[.list (ns.map .int)]}=true:=by
     have h4:=(holds_andW hc).1;rw[hn] at h4;exact h4
   have h5:=condW_of h4 (w_not (w_lt w_lit (w_len_list (w_arg rfl))));rw[dt3] at h5
   refine Nat.le_of_not_lt fun q=> ?_
   have q':(n:Int) < ((ns.length:Nat):Int):=by omega
   first
     |(rw[decide_eq_true q'] at h5;exact absurd h5 (by decide))
     |(simp at h5;omega)
 cases hwl with
 |cons w1 w2=>
  cases w2
  cases w1 with
  |list ho hall=>exact ⟨_,_,ns,rfl,rfl,ho,bd3 ns _ hall,hlen⟩
theorem ck4 (l:OpenLaw)(args:List WData):l.row.toRowW.claim.post args (.bool true) args=true:=
 postW_of (r:=l.row.toRowW) (X:=(true==true))
   (show WShape.has [] (.bool true) .bool=true by first|rfl|decide|simp [WShape.has,WShape.arms,WShape.armsAll])
   (show (WTm.eq .res (.lit (.bool true))).value [] {args:=args,res:=some (.bool true),after:=args}=some (.bool (true==true)) from w_eq_bool (w_res rfl) w_lit) rfl
theorem dk4 {l:OpenLaw}{n:Nat}{q:Program}{loose:List Str}{XP:(Str->Option Value)->Heap->Prop}{YP:World->Heap->Prop}{d:DefRec}
   (hn:l.most=some n) (hdf:d.params.defaults=[])
   (call:∀(w:World) (s₀ s₁:Shared) (mg mb:Str->Option Value) (fa:Addr) (o:Obj) (pm cd doc:Value) (a:Addr) (vs:List Value) (ns:List Int),
     Ground q loose [] XP w s₀ mg mb s₁.heap->YP w s₁.heap->
     s₁.heap.get? fa=some o->o.data= .func (docDef d.name d.params d.body d.scope pm cd doc)->s₁.heap.CodeRec cd d.name->mg d.name=some (.ref fa)->
     s₁.heap.get? a=some {cls:= .type "list",data:= .seq vs.toArray}->IntsAre vs ns->ns.length<=n->s₁.gens= #[]->
     codeAny (model l.prog w) callerA (.call (.ref fa) ⟨[.ref a],[]⟩) (fun r s'=>r= .ok (.ret (.bool true))/\OldK s₁.heap s'.heap/\s'.os=s₁.os/\AllBare s'.gens) s₁):
   WalkO q loose XP YP l.row.toRowW d [] (fun f vs=>PySem.call f vs):=by
 intro w s₀ s₁ mg mb G Y fa o pm cd doc dV kV ho hd hcd hD hmg hg args vals as hpre hlay hrd hwl hlo;obtain rfl:dV= .none:=Dflts.none hD hdf;obtain rfl:kV= .none:=Dflts.noKw hD;obtain ⟨a,vs,ns,rfl,rfl,hobj,hints,hlen⟩:=ck3 hn hpre hwl;refine enter_call (codeAny_mono (call w s₀ s₁ mg mb fa o pm cd doc a vs ns G Y ho (fd_plain hd) hcd hmg hobj hints hlen hg) fun r s' hq=> ?_);obtain ⟨rfl,h2,h3,h4⟩:=hq;exact ⟨.inl ⟨.bool true,.bool true,[],rfl,fun _=>rfl,.bool true,ck4 l _,fun _=>⟨List.Pairwise.nil,fun _ hm=>(nomatch hm)⟩⟩,h2,h3,h4⟩
end Att
namespace L2
open PySem PySem.Spec PyProof.Rows
theorem at3:∀{vs:List Value} {ns:List Int},IntsAre vs ns->r6 (ns.map V.int) vs
 |_,_,.nil=> .nil
 |_,_,.cons n t h=> .cons ⟨t,rfl⟩ (at3 h)
def cs9 (H:Hp):Prop:=∀b,H b=none\/∃o xs,H b=some (.frz o (.lst xs))
theorem ct0 {P:Program}{w:World}{K:PySem.W.Frag}{mg mb:Str->Option Value}{CX:CXT}{k:Nat}{fa a:Addr}{fd:FuncData}{x:Str}{sp:Sp}{s₁:Shared}{vs:List Value}{ns:List Int}
   (KX:K.In s₁.heap) (hns:s₁.heap.Ns mainGlobals mg) (hb:s₁.heap.Ns builtinsNs mb) (hbb:∀x:Str,x≠"__name__"->mb x=bootBuiltins x) (hlim:s₁.heap.NoLimit) (hg:s₁.gens= #[])
   (ha:s₁.heap.get? a=some {cls:= .type "list",data:= .seq vs.toArray}) (hi:IntsAre vs ns) (hl:ns.length<=sizeLine) (hr:A4 k callerA)
   (F:∀base:Heap,K.In base->base.Ns mainGlobals mg->w6 P w K mg base CX k fa fd [x] sp) (hbind:∀(s:Shared) (u:Value),BindsTo s fd ⟨[u],[]⟩ [(x,u)])
   (hsp:∀H:Hp,cs9 H->j7 K H a (ns.map V.int)->sp [.ref a] H (fun v _=>v= .bl true) fun _ _ _=>False)
   (hCX:∀H e s',CX [] H s₁ (fun _ _ _=>False) e s'->False):
   codeAny (model P w) callerA (.call (.ref fa) ⟨[.ref a],[]⟩) (fun r s'=>r= .ok (.ret (.bool true))/\OldK s₁.heap s'.heap/\s'.os=s₁.os/\AllBare s'.gens) s₁:=by
 have rv:=at3 hi;have lenV:=hi.length
 have core:∀H:Hp,cs9 H->j7 K H a (ns.map V.int)->J4 P w H s₁.heap->(∀b,H b≠none->b=a)->(H a≠none->K.lookup a=none)->
     codeAny (model P w) callerA (.call (.ref fa) ⟨[.ref a],[]⟩) (fun r s'=>r= .ok (.ret (.bool true))/\OldK s₁.heap s'.heap/\s'.os=s₁.os/\AllBare s'.gens) s₁:=by
   intro H hO hS hok hA hK
   have base_of:∀{b:Addr} {o:Obj},s₁.heap.get? b=some o->H b=none->(an7 s₁.heap H).get? b=some o:=fun e n=>cr4 e n
   have noA:∀{b:Addr} {o:Obj} {es:Array DictEntry} {ep:Nat},s₁.heap.get? b=some o->o.data= .dict es ep->H b=none:=fun {b o es ep} e d=>by
     cases q:H b with
     |none=>rfl
     |some u=>
      have e':b=a:=hA b (by rw[q];simp);subst e';rw[ha] at e;cases e;have d':Data.seq vs.toArray _=Data.dict es ep:=d;cases d'
   have nsK:∀{b:Addr} {m:Str->Option Value},s₁.heap.Ns b m->(an7 s₁.heap H).Ns b m:=fun {b m} ⟨o,es,ep,e,d,r⟩=>⟨o,es,ep,base_of e (noA e d),d,r⟩
   have hKb:K.In (an7 s₁.heap H):=fun b o e=>base_of (KX b o e) (by
     cases q:H b with
     |none=>rfl
     |some u=>
      have e':b=a:=hA b (by rw[q];simp);subst e'
      rw[hK (by rw[q];simp)] at e;cases e)
   have hM:Mod K mg (an7 s₁.heap H):=⟨hKb,nsK hns,⟨mb,nsK hb,hbb⟩,let ⟨mc,h1,h2⟩:=hlim;⟨mc,nsK h1,h2⟩⟩;have e0:ce3 P w K mg (an7 s₁.heap H) callerA [] s₁ H:=⟨rfl,hM,fun b o e=>da0 e,ed9 (ci4 _ _),trivial,fun b hb=>absurd (show b∈([]:List Addr) from hb) (by simp),hok,.of_eq hg⟩
   refine codeAny_mono ((F _ hKb (nsK hns)).run callerA [] s₁ H ⟨[.ref a],[]⟩ [.ref a] [.ref a] _ _ hr e0 (hbind s₁ (.ref a)) (.cons rfl .nil) (hsp H hO hS)) fun r s' h=> ?_
   cases r with
   |error e=>exact (hCX H e s' h).elim
   |ok fl=>
    cases fl with
    |next=>exact False.elim h
    |brk=>exact False.elim h
    |cont=>exact False.elim h
    |ret u=>
     obtain ⟨v,H',os,bare,un,hok',r',q⟩:=h;have q':v= .bl true:=q;subst q';obtain rfl:u=Value.bool true:=r';refine ⟨rfl,OldK.of_keep fun b o e=> ?_,os,bare⟩
     cases q:H b with
     |none=>exact un.keep b o e q (by intro z;exact absurd (show b∈([]:List Addr) from z) (by simp)) (by simp)
     |some u=>
      rcases hO b with z|⟨ob,xs,z⟩
      · rw[q] at z;cases z
      · have z2:=un.frzs b ob _ z;obtain ⟨e1,_⟩:=hok b _ z;obtain ⟨e2,_⟩:=hok' b _ z2;rw[e] at e1;cases e1;exact e2
 cases hk:K.lookup a with
 |some o=>
  have e:=KX a o hk;rw[ha] at e;cases e
  refine core (fun _=>none) (fun _=> .inl rfl) (.inr ⟨_,vs.toArray,_,hk,rfl,rfl,rfl,by rw[du2,lenV];exact hl,by simpa using rv⟩) (fun b u z=>by have z':(none:Option HO)=some u:=z;cases z') (fun b z=>absurd rfl z) fun z=>absurd rfl z
 |none=>
  refine core (fun b=>if b=a then some (.frz {cls:= .type "list",data:= .seq vs.toArray} (.lst (ns.map V.int))) else none) (fun b=> ?_) (.inl (.inr ⟨{cls:= .type "list",data:= .seq vs.toArray},if_pos rfl⟩)) (fun b u z=> ?_) (fun b z=> ?_) fun _=>hk
  · by_cases hb:b=a
    · exact .inr ⟨_,_,if_pos hb⟩
    · exact .inl (if_neg hb)
  · by_cases hb:b=a
    · have z':=(if_pos hb).symm.trans z;cases z';subst hb;exact ⟨ha,by rw[dt3];exact hl,vs,_,rv,ha⟩
    · have z':=(if_neg hb).symm.trans z;cases z'
  · by_cases hb:b=a
    · exact hb
    · exact absurd (if_neg hb) z
end L2
namespace L2
open PySem PySem.Spec PyProof.Rows
theorem dr4 {l:PySem.W.OpenLaw}{n k:Nat}{q:Program}{loose:List Str}{XP:(Str->Option Value)->Heap->Prop}{YP:World->Heap->Prop}{d:DefRec}{K:Params->PySem.W.Frag}{CX:World->CXT}{sp:World->Sp}{x:Str}
   (hn:l.most=some n) (hn2:n<=sizeLine) (hdf:d.params.defaults=[]) (hr:A4 k callerA)
   (hY:∀(w:World) (h:Heap),YP w h->(K w.params).In h)
   (F:∀(w:World) (mg:Str->Option Value) (fa:Addr) (h:Heap),(K w.params).In h->h.Ns mainGlobals mg->mg d.name=some (.ref fa)->
     ∃fd:FuncData,(∀(s:Shared) (u:Value),BindsTo s fd ⟨[u],[]⟩ [(x,u)])/\
      ∀base:Heap,(K w.params).In base->base.Ns mainGlobals mg->w6 l.prog w (K w.params) mg base (CX w) k fa fd [x] (sp w))
   (hsp:∀(w:World) (H:Hp) (a:Addr) (ns:List Int),ns.length<=n->cs9 H->j7 (K w.params) H a (ns.map V.int)->sp w [.ref a] H (fun v _=>v= .bl true) fun _ _ _=>False)
   (hCX:∀(w:World) (H:Hp) (s:Shared) (e:Value) (s':Shared),CX w [] H s (fun _ _ _=>False) e s'->False):
   PySem.W.WalkO q loose XP YP l.row.toRowW d [] (fun f vs=>PySem.call f vs):=by
 refine Att.dk4 hn hdf fun w s₀ s₁ mg mb fa o pm cd doc a vs ns G Y ho hd hcd hmg hobj hints hlen hg=> ?_
 have KX:=hY w _ Y;obtain ⟨fd,hb,hF⟩:=F w mg fa _ KX G.T.g hmg
 exact ct0 KX G.T.g G.T.b G.T.builtins G.T.nolimit hg hobj hints (du3 hlen hn2) hr hF hb (fun H hO hS=>hsp w H a ns hlen hO hS) fun H e s'=>hCX w H s₁ e s'
end L2
namespace L2
open PySem PySem.Spec PyProof.Rows
def af6 (s:Stmt):Arguments:=match s with
 | .FunctionDef _ a _ _ _ _ _ _ _ _=>a
 |_=>{posonlyargs:=[],args:=[],vararg:=none,kwonlyargs:=[],kw_defaults:=[],kwarg:=none,defaults:=[]}
def W0 (s:Stmt):List Stmt:=match s with
 | .FunctionDef _ _ b _ _ _ _ _ _ _=>b
 |_=>[]
def o7 (s:Stmt):Scope:=match s with
 | .FunctionDef _ _ _ _ _ _ sc _ _ _=>sc
 |_=>{kind:= .function,names:=[],isGenerator:=false,isCoroutine:=false}
abbrev J8:CXT:=fun _ _ _ _ _ _=>False
abbrev E0:XK:=fun _ _ _=>False
theorem dl7 {X:Cx}:al9 J8 X E0:=fun _ _ _ _ _ _ _ h=>h.elim
structure E6 (K:PySem.W.Frag)(x qual:Str)(st:Stmt)(f:Addr)(fd:FuncData):Prop where
 ex:∃(oc:Value) (od:Option Addr) (kV doc pm:Value) (an:Option Addr) (cdv ct:Value) (osl:Array (Option Value)),
   fd=PySem.W.fnOf x qual (af6 st) (W0 st) (o7 st) .none kV doc pm an cdv ct/\K.lookup f=some ⟨oc,od,.func fd,osl⟩/\PySem.W.codeIn K cdv qual=true
 kp:PySem.W.keepIn K (.ref f)=true
section
variable {P:Program} {w:World} {K:PySem.W.Frag} {mg:Str->Option Value} {base:Heap}
theorem E6.ok {x qual:Str}{st:Stmt}{f:Addr}{fd:FuncData}{N ps:List Str}{k:Nat}{sp:Sp}(F:E6 K x qual st f fd)(S:y7 N ps (o7 st))(len:∀vs H Q E,sp vs H Q E->vs.length=ps.length)
   (hbody:∀(cdv:Value) (A:Around) (outer:List Env) (s:Shared) (H:Hp) (vs:List V) (Q:VK) (E:XK),A4 k (A.deeper (envOfC qual (o7 st) s.heap.objs.size f cdv))->sp vs H Q E->
     ∃t,Z0 (U5 J8 P w K mg base N qual (o7 st) f cdv A outer s H E).nox (W0 st) t/\t {nx:=fun _ H'=>Q .non H',rt:=Q} (ab8 N vs) H):w6 P w K mg base J8 (k+1) f fd ps sp:=by
 obtain ⟨oc,od,kV,doc,pm,an,cdv,ct,osl,rfl,lk,hcd⟩:=F.ex
 refine ce4 lk hcd S len fun A outer s H vs Q E hr hsp=> ?_
 obtain ⟨t,h,q⟩:=hbody cdv A outer s H vs Q E hr hsp;exact ⟨t,h.nox,q⟩
theorem E6.binds {x qual:Str}{st:Stmt}{f:Addr}{fd:FuncData}{ps:List Str}(F:E6 K x qual st f fd)
   (h:∀(kV doc pm:Value) (an:Option Addr) (cdv ct:Value) (us:List Value),us.length=ps.length->bindArgs (PySem.W.fnOf x qual (af6 st) (W0 st) (o7 st) .none kV doc pm an cdv ct) ⟨us,[]⟩=pure (ps.zip us)):Z2 K fd ps []:=by
 obtain ⟨oc,od,kV,doc,pm,an,cdv,ct,osl,rfl,lk,hcd⟩:=F.ex;exact .all (h kV doc pm an cdv ct)
theorem dg8 {x qual:Str}{st:Stmt}{f:Addr}{oc:Value}{od an:Option Addr}{osl:Array (Option Value)}{kV doc pm cdv ct:Value}(l:K.lookup f=some ⟨oc,od,.func (PySem.W.fnOf x qual (af6 st) (W0 st) (o7 st) .none kV doc pm an cdv ct),osl⟩)
 (c:PySem.W.codeIn K cdv qual=true) (k:PySem.W.keepIn K (.ref f)=true):E6 K x qual st f (PySem.W.fnOf x qual (af6 st) (W0 st) (o7 st) .none kV doc pm an cdv ct):=⟨⟨oc,od,kV,doc,pm,an,cdv,ct,osl,rfl,l,c⟩,k⟩
end
theorem ae5 {A:Around}{k:Nat}(hr:A4 k A):A.units+1 < cLine:=ea1 (ec2 (by decide:1<=64) _) hr.units
theorem C4 {n:Nat}(h:n<=1000):n < sizeLine:=ea1 h (by decide)
section
variable {X:Cx}
theorem pv (i:Nat){x:Str}{pos:Pos}(hN:X.N[i]? =some x:=by rfl)(hv:Vis X.env.scope x:=by first|exact Or.inl rfl|exact Or.inr (Or.inl rfl)|exact Or.inr (Or.inr rfl))(hd:(x==("__debug__":Str))=false:=by decide)
 (hcd:(x==("__classdict__":Str))=false:=by decide):PE X (.Name x pos) (de9 i):=df0 hN hv hd hcd
end
theorem B9 {A B:Prop}(h:B):if false=true then A else B:=by
 rw[if_neg dv4];exact h
theorem A5 {A B:Prop}(h:A):if true=true then A else B:=by
 rw[if_pos rfl];exact h
theorem K7 {c A B:Prop}[Decidable c](h1:c->A)(h2:¬c->B):if c then A else B:=by
 by_cases h:c
 · rw[if_pos h];exact h1 h
 · rw[if_neg h];exact h2 h
theorem Q9 {c A B:Prop}[Decidable c](hc:c)(h:B):if (!decide c)=true then A else B:=by
 rw[decide_eq_true hc];exact B9 h
def i6 (H H':Hp):Prop:=∀b o,H b=some o->H' b=some o
theorem i6.refl (H:Hp):i6 H H:=fun _ _ h=>h
theorem i6.trans {H H1 H2:Hp}(a:i6 H H1)(b:i6 H1 H2):i6 H H2:=fun c o h=>b c o (a c o h)
theorem i6.free {H H':Hp}(e:i6 H H'){l:Addr}(h:H' l=Option.none):H l=Option.none:=by
 cases q:H l with
 |none=>rfl
 |some o=>
  rw[e l o q] at h;cases h
theorem i6.seq {K:PySem.W.Frag}{H H':Hp}{a:Addr}{xs:List V}(e:i6 H H')(h:j7 K H a xs):j7 K H' a xs:=by
 rcases h with (h|⟨o,h⟩)|h
 · exact .inl (.inl (e _ _ h))
 · exact .inl (.inr ⟨o,e _ _ h⟩)
 · exact .inr h
section
variable {κ:Type} [DecidableEq κ]
theorem am0:∀{l:List κ} {k:κ},l.Nodup->¬k∈l->(l++[k]).Nodup
 |[],k,_,_=>by simp
 |a::r,k,h,hk=>by
  obtain ⟨h1,h2⟩:=dz9.mp h;show (a::(r++[k])).Nodup;refine dz9.mpr ⟨fun m=> ?_,am0 h2 fun m=>hk (dw1.mpr (Or.inr m))⟩
  rcases du1.mp m with q|q
  · exact h1 q
  · exact hk (dw1.mpr (Or.inl (du4.mp q).symm))
end
end L2
namespace L2
open PySem PySem.Spec PyProof.Rows
def J3 (X:Cx)(N:List Str)(scope:Scope)(cl:List (Str×Addr))(C:Addr)(s0:Shared)(H0:Hp)(ex:List Addr):Cx:=
 {X with N:=N,s₀:=s0,H₀:=H0,env:=compEnvC scope cl C X.env,outer:=X.stack,stack:=X.stack,ex:=ex,fn:=fun _=>false,pn:=[],xe:=fun _ _=>False}
def ag6 (nl:Nat)(fr:List Nat)(σ:St):St:=dw2 nl none++fr.map fun j=>(σ[j]?).join
def B5 (env:Env):List (Str×NameKind)->List (Str×Addr)->List (Str×Addr)
 |[],cs=>cs
 |(n,k)::r,cs=>B5 env r (if (k==NameKind.free)=true then (n,(env.cells.lookup n).getD 0)::cs else cs)
theorem ao2 (env:Env):∀(ns:List (Str×NameKind)) (cs:List (Str×Addr)),(∀p∈ns,p.2= .free->∃c,env.cells.lookup p.1=some c)->(∀y c,cs.lookup y=some c->env.cells.lookup y=some c)->
   ∀y c,(B5 env ns cs).lookup y=some c->env.cells.lookup y=some c
 |[],cs,_,h,y,c,e=>h y c e
 |(n,k)::r,cs,hn,h,y,c,e=>by
  unfold B5 at e;refine ao2 env r _ (fun p hp=>hn p (dt8 _ hp)) ?_ y c e;intro z d ez
  split at ez
  · rename_i hk;rw[dz4] at ez
    cases hz:z==n with
    |true=>
     rw[hz] at ez;have hzn:z=n:=eq_of_beq hz;subst hzn
     have hkf:k= .free:=by simpa using hk
     obtain ⟨c',hc'⟩:=hn (z,k) dt6 hkf;have hc':env.cells.lookup z=some c':=hc';rw[hc'] at ez;rw[hc']
     simpa using ez
    |false=>
     rw[hz] at ez;exact h z d ez
  · exact h z d ez
theorem ay7 (env:Env):∀(ns:List (Str×NameKind)) (cs:List (Str×Addr)) (y:Str),(∃c,cs.lookup y=some c)->∃c,(B5 env ns cs).lookup y=some c
 |[],cs,y,h=>h
 |(n,k)::r,cs,y,⟨c,h⟩=>by
  unfold B5;refine ay7 env r _ y ?_
  split
  · rw[dz4]
    cases hz:y==n with
    |true=>exact ⟨_,rfl⟩
    |false=>exact ⟨c,h⟩
  · exact ⟨c,h⟩
theorem Z4 (env:Env):∀(ns:List (Str×NameKind)) (cs:List (Str×Addr)) (p:Str×NameKind),p∈ns->p.2= .free->∃c,(B5 env ns cs).lookup p.1=some c
 |[],cs,p,hp,_=>by simp at hp
 |(n,k)::r,cs,p,hp,hk=>by
  unfold B5
  rcases dw1.mp hp with e|hp
  · subst e;have hk:k= .free:=hk;subst hk;refine ay7 env r _ n ?_;rw[if_pos (by rfl),dz4];exact ⟨(List.lookup n env.cells).getD 0,by simp⟩
  · exact Z4 env r _ p hp hk
theorem at4 (env:Env):∀(ns:List (Str×NameKind)) (cs:List (Str×Addr)),(∀p∈ns,p.2= .free->∃c,env.cells.lookup p.1=some c)->
   (forIn ns cs (fun (x:Str×NameKind) (r:List (Str×Addr))=>if (x.2==NameKind.free)=true then (do let a <-cellOf env x.1;pure (ForInStep.yield ((x.1,a)::r))) else pure (ForInStep.yield r)):Sem (List (Str×Addr)))=pure (B5 env ns cs)
 |[],cs,_=>rfl
 |(n,k)::r,cs,hn=>by
  have ih:=fun cs'=>at4 env r cs' fun p hp=>hn p (dt8 _ hp)
  rw[ej1];unfold B5
  by_cases hk:(k==NameKind.free)=true
  · obtain ⟨c,hc⟩:=hn (n,k) dt6 (by simpa using hk);have hc:env.cells.lookup n=some c:=hc;rw[if_pos hk,if_pos hk]
    have e1:cellOf env n=pure c:=by unfold cellOf;rw[hc]
    rw[e1,hc];exact ih _
  · rw[if_neg hk,if_neg hk];exact ih _
theorem ad2 {scope:Scope}{env:Env}(h:∀p∈scope.names,p.2= .free->∃c,env.cells.lookup p.1=some c):closureFor scope env=pure (B5 env scope.names []):=by
 have e:=at4 env scope.names [] h;unfold closureFor;show (forIn scope.names [] _ >>=_)=_;have e2:(forIn scope.names ([]:List (Str×Addr)) (fun (x:Str×NameKind) (r:List (Str×Addr))=>match x with|(name,kind)=>(if (kind==NameKind.free)=true then (do let a <-cellOf env name;pure PUnit.unit;pure (ForInStep.yield ((name,a)::r))) else (do pure PUnit.unit;pure (ForInStep.yield r)))):Sem (List (Str×Addr)))=pure (B5 env scope.names []):=e
 first
   |exact (congrArg (fun z=>z >>=fun cs=>pure cs) e2)
   |(rw[show (forIn scope.names ([]:List (Str×Addr)) _:Sem (List (Str×Addr)))=pure (B5 env scope.names []) from e];rfl)
section
variable {X:Cx}
def ba1 (X:Cx)(ifs:List Expr)(t:TT):Prop:=
 ∀(pins:List (Addr×Obj)) (s:Shared) (σ:St) (H:Hp) (Q:Bool->Hp->Prop),j5 X pins σ H s->t σ H Q->
  wpAny (model X.prog X.w) X.A (forIn ifs true fun c r=>if r=true then do let ok <-isTrue c X.env (eval c X.env);pure (ForInStep.yield ok) else pure (ForInStep.yield r)) (TP X pins σ Q) X.xe s
def dq4:TT:=fun _ H Q=>Q true H
theorem P0:ba1 X [] dq4:=fun pins s σ H Q I h=>by
 rw[List.forIn_nil];exact wpAny_pure ⟨H,I,h⟩
theorem ba2 {c:Expr}{t:TT}(h:PT X c t):ba1 X [c] t:=by
 intro pins s σ H Q I hw;rw[ej1,if_pos rfl];refine wpAny_bind (wpAny_bind (A3 (h pins s σ H Q I hw) fun b s1 q=>wpAny_pure ?_));show wpAny _ _ (forIn [] b _) _ _ s1;rw[List.forIn_nil];exact wpAny_pure q
theorem br1 {prog:Program}{w:World}{A:Around}{R:Result->Shared->Prop}{s:Shared}{elt target iter:Expr}{ifs:List Expr}{scope:Scope}{pos:Pos}{it acc:Value}{env:Env}(I:Nat->Shared->Prop)
   (turn:∀n s,I n s->wpAny (model prog w) A (pyNext it) (fun r s1=>match r with
     |none=>R (.ok .next) s1
     |some v=>wpAny (model prog w) A (letOwnedTupleGo target it v) (fun _ s2=>wpAny (model prog w) A (assign target env v) (fun _ s3=>
         wpAny (model prog w) A (forIn ifs true fun c r=>if r=true then do let ok <-isTrue c env (eval c env);pure (ForInStep.yield ok) else pure (ForInStep.yield r)) (fun ok s4=>
           if ok=true then wpAny (model prog w) A (eval elt env) (fun x s5=>
             wpAny (model prog w) A (call (.builtin "list.append") [acc,x]) (fun _ s6=>∃m,m < n/\I m s6) (fun _ _=>False) s5) (fun _ _=>False) s4
           else ∃m,m < n/\I m s4) (fun _ _=>False) s3) (fun _ _=>False) s2) (fun _ _=>False) s1) (fun _ _=>False) s)
   (n:Nat) (h:I n s):
   codeAny (model prog w) A (.compLoop (.ListComp elt [⟨target,iter,ifs,0⟩] scope pos) 0 it acc env) R s:=by
 refine codeAny_loop rfl I (fun n s hI=> ?_) n h;show wpAny _ A ((compTurn (.ListComp elt [⟨target,iter,ifs,0⟩] scope pos) 0 it acc env).onRaise (fun x=>do noteFrame x env;theTreesLotGoes x)) _ _ s;refine wpAny_noted ?_;rw[compTurn_list];refine wpAny_bind (wpAny_standAt (wpAny_bind (wpAny_mono (turn n s hI) (fun r s1 h1=> ?_) fun _ _ f=>f.elim)))
 cases r with
 |none=>exact wpAny_pure h1
 |some v=>
  refine wpAny_bind (wpAny_mono h1 (fun _ s2 h2=> ?_) fun _ _ f=>f.elim);refine wpAny_bind (wpAny_mono h2 (fun _ s3 h3=>wpAny_bind (wpAny_mono h3 (fun ok s4 h4=> ?_) fun _ _ f=>f.elim)) fun _ _ f=>f.elim)
  cases ok with
  |false=>exact wpAny_pure ⟨rfl,h4⟩
  |true=>
   exact wpAny_bind (wpAny_bind (wpAny_mono h4 (fun x s5 h5=>wpAny_bind (wpAny_mono h5 (fun _ s6 h6=>wpAny_pure (wpAny_pure ⟨rfl,h6⟩)) fun _ _ f=>f.elim)) fun _ _ f=>f.elim))
def bo8 (J:It)(g:TG)(tc:TT)(te:TE)(Q:VK)(σ0:St)(H0:Hp):Prop:=∃W:Nat->Nat->List V->St->Hp->Prop,(∃m,W 0 m [] σ0 H0)/\∀i m ys σ' H',W i m ys σ' H'->
 (J.stop i H'/\∀D,H' D=none->Q (.ref D) (i8 H' D (.lst ys)))\/
 (J.go i H'/\∃N:List V->St->Hp->Prop,(∀ys' σ2 H2,N ys' σ2 H2->∃m',m' < m/\W (i+1) m' ys' σ2 H2)/\∀x H2,J.yld i H' x H2->g x σ' H2 fun σ2 H3=>tc σ2 H3 fun b H4=>
   if b=true then te σ2 H4 fun y H5=>ys.length < sizeLine/\N (ys++[y]) σ2 H5 else N ys σ2 H4)
def bd4 (nl:Nat)(fr:List Nat)(wi:TI)(g:TG)(tc:TT)(te:TE):TE:=fun σ H Q=>wi σ H fun J H1=>bo8 J g tc te Q (ag6 nl fr σ) H1
structure ag7 (X:Cx)(N:List Str)(nl:Nat)(fr:List Nat)(scope:Scope):Prop where
 cell:∀y∈scope.names,y.2≠.cell
 kind:scope.kind= .function
 names:∀y∈scope.names,y.2= .local->scope.names.lookup y.1=some .local
 free:∀p∈scope.names,p.2= .free->X.env.kindOf p.1=some .cell\/X.env.kindOf p.1=some .free
 len:N.length=nl+fr.length
 fr:∀(k j:Nat),fr[k]? =some j->∃y,N[nl+k]? =some y/\X.N[j]? =some y/\Vis X.env.scope y/\scope.names.lookup y=some .free
theorem R7 {env:Env}:∀{names:List (Str×NameKind)} {x:Str} {k:NameKind},(names.map fun (n,k)=>if (k==NameKind.free&&env.scope.kind== .function&&env.kindOf n==some .cell) then (n,NameKind.cell) else (n,k)).lookup x=some k->
   k= .cell\/k= .free->(∀y∈names,y.2≠.cell)->∃p∈names,p.1=x/\p.2= .free
 |[],_,_,h,_,_=>by simp at h
 |(n,kn)::r,x,k,h,hk,hc=>by
  have ih:=@R7 env r x k;rw[dv7] at h;have hcn:kn≠.cell:=hc (n,kn) dt6
  have hr:∀y∈r,y.2≠.cell:=fun y hy=>hc y (dt8 _ hy)
  cases hx:x==n with
  |true=>
   have hxn:x=n:=eq_of_beq hx
   by_cases hcc:(kn==NameKind.free&&env.scope.kind== .function&&env.kindOf n==some .cell)=true
   · refine ⟨(n,kn),dt6,hxn.symm,?_⟩;simp only[dy6] at hcc
     simpa using hcc.1.1
   · dsimp only at h
     rw[if_neg hcc,dz4,hx] at h;have hkk:kn=k:=Option.some.inj h;subst hkk
     rcases hk with z|z
     · exact absurd z hcn
     · exact ⟨(n,kn),dt6,hxn.symm,z⟩
  |false=>
   by_cases hcc:(kn==NameKind.free&&env.scope.kind== .function&&env.kindOf n==some .cell)=true
   · dsimp only at h
     rw[if_pos hcc,dz4,hx] at h;obtain ⟨p,hp,q⟩:=ih h hk hr;exact ⟨p,dt8 _ hp,q⟩
   · dsimp only at h
     rw[if_neg hcc,dz4,hx] at h;obtain ⟨p,hp,q⟩:=ih h hk hr;exact ⟨p,dt8 _ hp,q⟩
theorem U6 {env:Env}:∀{names:List (Str×NameKind)} {x:Str},names.lookup x=some .free->
   (names.map fun (n,k)=>if (k==NameKind.free&&env.scope.kind== .function&&env.kindOf n==some .cell) then (n,NameKind.cell) else (n,k)).lookup x=some .cell\/
   (names.map fun (n,k)=>if (k==NameKind.free&&env.scope.kind== .function&&env.kindOf n==some .cell) then (n,NameKind.cell) else (n,k)).lookup x=some .free
 |[],_,h=>by simp at h
 |(n,kn)::r,x,h=>by
  have ih:=@U6 env r x;rw[dv7]
  dsimp only
  cases hx:x==n with
  |true=>
   rw[dz4,hx] at h;have hkn:kn= .free:=Option.some.inj h
   by_cases hcc:(kn==NameKind.free&&env.scope.kind== .function&&env.kindOf n==some .cell)=true
   · rw[if_pos hcc,dz4,hx];exact .inl rfl
   · rw[if_neg hcc,dz4,hx];exact .inr (congrArg some hkn)
  |false=>
   rw[dz4,hx] at h
   by_cases hcc:(kn==NameKind.free&&env.scope.kind== .function&&env.kindOf n==some .cell)=true
   · rw[if_pos hcc,dz4,hx];exact ih h
   · rw[if_neg hcc,dz4,hx];exact ih h
theorem J4.track {P:Program}{w:World}{H:Hp}{h:Heap}{a:Addr}{o:HO}(x:J4 P w H h)(hn:H a=none)(new:C5 P w (i8 H a o) h a o):J4 P w (i8 H a o) h:=fun b u e=>by
 by_cases hb:b=a
 · subst hb;rw[j6] at e;cases e;exact new
 · rw[j8 hb] at e
   exact (x b u e).stay (fun c v _ q=>q) (fun c q=>by rw[j8 (j9 q hn)];exact q) fun c xs q=>by rw[j8 (j9 q hn)];exact q
theorem bk2 {elt tg iter:Expr}{ifs:List Expr}{scope:Scope}{pos:Pos}{wi:TI}{g:TG}{tc:TT}{te:TE}{N:List Str}{nl:Nat}{fr:List Nat}
   (hc:X.calm=true) (hi:PI X tg iter wi) (hg:∀cl C s0 H0 ex,PG (J3 X N scope cl C s0 H0 ex) tg g) (ht:∀cl C s0 H0 ex,ba1 (J3 X N scope cl C s0 H0 ex) ifs tc)
   (he:∀cl C s0 H0 ex,PE (J3 X N scope cl C s0 H0 ex) elt te) (ok:ag7 X N nl fr scope)
   {RR:Value->Addr->Result->Shared->Prop} {pins:List (Addr×Obj)} {s:Shared} {σ:St} {H:Hp} {Q:VK} (I:j5 X pins σ H s) (h:bd4 nl fr wi g tc te σ H Q)
   (hRR:∀D C s' H',j5 X pins σ H' s'->Q (.ref D) H'->ag3 X pins H' C->(∃m,s'.heap.Ns C m)->RR (.ref D) C (.ok .next) s'):
   wpAny (model X.prog X.w) X.A (eval iter X.env) (fun x s1=>wpAny (model X.prog X.w) X.A (pyIter x) (fun it s2=>wpAny (model X.prog X.w) X.A (newList []) (fun acc s3=>
     wpAny (model X.prog X.w) X.A (newFunctionEnv scope X.env.globals (B5 X.env scope.names []) [] X.env.qual none .none (some X.env)) (fun cenv s4=>
       codeAny (model X.prog X.w) X.A (.compStart (.ListComp elt [⟨tg,iter,ifs,0⟩] scope pos) 0 it acc {cenv with scope:=relabel scope X.env}) (RR acc cenv.locals) s4) X.xe s3) X.xe s2) X.xe s1) X.xe s:=by
 refine A3 (hi pins s σ H _ I h) fun v s1 h1=>A3 h1 fun itv s2 h2=> ?_
 obtain ⟨it,fp,tn,J,H2,rfl,I2,T,st2,f2,W,⟨m0,w0⟩,turn⟩:=h2;refine wpAny_newObj_type (wpAny_newFunctionEnv ok.cell (by intro y hy;simp at hy) (fun h1 hns1 hsb1=> ?_) ok.kind)
 dsimp only at hns1 hsb1 ⊢
 generalize hHH:s2.heap.push {cls:= .type "list",dict:=none,data:= .seq ([]:List Value).toArray}=HH at hns1 hsb1 ⊢
 have hC:HH.objs.size=s2.heap.objs.size+1:=by rw[<-hHH,Heap.size_push]
 have hDC:s2.heap.objs.size≠HH.objs.size:=by rw[hC];exact dx1 (Nat.lt_succ_self _)
 have hCle:s2.heap.objs.size<=HH.objs.size:=by rw[hC];exact ef2 _
 have below:∀b,b < s2.heap.objs.size->b≠HH.objs.size/\b≠s2.heap.objs.size:=fun b hb=>⟨by rw[hC];exact dx1 (eg0 hb),dx1 hb⟩
 have old:∀b o,s2.heap.get? b=some o->h1.get? b=some o:=fun b o e=>hsb1.extBut b o (below b (Heap.lt_size e)).1 (Heap.get?_push_of_some _ (hHH▸Heap.get?_push_of_some _ e))
 have hacc:h1.get? s2.heap.objs.size=some {cls:= .type "list",data:= .seq ([]:List Value).toArray}:=hsb1.extBut _ _ hDC (Heap.get?_push_of_some _ (hHH▸Heap.get?_push_size _ rfl))
 have fplt:∀b∈fp,b < s2.heap.objs.size:=fun b hb=>by obtain ⟨o,e,_⟩:=T.obj 0 _ st2 b hb;exact Heap.lt_size e
 generalize hXd:J3 X N scope (B5 X.env scope.names []) HH.objs.size s2 H2 fp=X'
 have hfreeC:∀p∈scope.names,p.2= .free->∃c,X.env.cells.lookup p.1=some c:=fun p hp hf=>I.ok.has p.1 (ok.free p hp hf)
 have cellsSub:∀y c,(B5 X.env scope.names []).lookup y=some c->X.env.cells.lookup y=some c:=ao2 X.env scope.names [] hfreeC (fun y c e=>by simp at e)
 have cellLt:∀y c,X.env.cells.lookup y=some c->c < s2.heap.objs.size:=fun y c e=>by obtain ⟨v,z⟩:=I2.cell y c e;exact z.lt
 have ok':X'.Ok:=by
   rw[<-hXd]
   refine ⟨I.ok.mod,?_,I.ok.glob,I.ok.blt,hCle,fun x y c e1 e2=>I.ok.inj x y c (cellsSub x c e1) (cellsSub y c e2),fun x hx=> ?_,fun x c hf=>(by cases hf),I.ok.hd,I.ok.frames,.inl rfl,
     fun b hb=>⟨(below b (fplt b hb)).1,fun x c e=>(f2 b hb).2.2.2.2.1 x c (cellsSub x c e)⟩,I2.bs,du3 I.ok.bsz I2.sz,fun b o e hb=> ?_,fun b hb hfs=> ?_,I2.stack,I2.stkFree⟩
   · show (relabel scope X.env).kind= .function;exact ok.kind
   · have hx':∃p∈scope.names,p.1=x/\p.2= .free:=by
       rcases hx with z|z
       · exact R7 z (.inl rfl) ok.cell
       · exact R7 z (.inr rfl) ok.cell
     obtain ⟨p,hp,rfl,hpf⟩:=hx';exact Z4 X.env scope.names [] p hp hpf
   · rcases (f2 b hb).2.2.2.1 with z|z
     · exact I.ok.noex b o e z
     · exact absurd (dv9 (Heap.lt_size e) (du3 I.ok.bsz z)) (dy2 _)
   · rcases dw1.mp (I2.stkSub b hfs) with z|z
     · exact (f2 b hb).2.1 z
     · exact (f2 b hb).2.2.1 z
 have hX'd:X'.env.locals=HH.objs.size:=by rw[<-hXd];rfl
 have hX'c:X'.env.cells=B5 X.env scope.names []:=by rw[<-hXd];rfl
 have hX'pn:X'.pn=[]:=by rw[<-hXd];rfl
 have hX'ex:X'.ex=fp:=by rw[<-hXd];rfl
 have hX's0:X'.s₀=s2:=by rw[<-hXd];rfl
 have hX'H0:X'.H₀=H2:=by rw[<-hXd];rfl
 have hX'fs:X'.fs=v0 X.stack:=by rw[<-hXd];rfl
 have hX'xe:X'.xe=fun _ _=>False:=by rw[<-hXd];rfl
 have hX'A:X'.A=X.A:=by rw[<-hXd];rfl
 have hX'P:X'.prog=X.prog:=by rw[<-hXd];rfl
 have hX'w:X'.w=X.w:=by rw[<-hXd];rfl
 have hX'K:X'.K=X.K:=by rw[<-hXd];rfl
 have hX'calm:X'.calm=true:=by rw[<-hXd];exact hc
 have hX'env:X'.env=compEnvC scope (B5 X.env scope.names []) HH.objs.size X.env:=by rw[<-hXd];rfl
 have I':j5 X' [] (ag6 nl fr σ) H2 {s2 with heap:=h1,toks:=s2.toks+([]:List (Str×Value)).length}:=by
   refine ⟨ok',by rw[hX's0],I2.bare,?_,?_,fun x c e=> ?_,?_,fun x c e=> ?_,fun p hp=> ?_,?_,?_⟩
   · rw[hX'fs,hX'ex,hX'H0,hX's0];exact Un.kept old
   · obtain ⟨m,hn,hl⟩:=I2.loc;rw[hX'd];refine ⟨_,hns1,fun i x v e1 e2 e3=> ?_⟩
     have hN':N[i]? =some x:=by rw[<-hXd] at e1;exact e1
     unfold ag6 at e2
     have hi:¬i < nl:=fun hlt=>by
       rw[dx9 (by simpa using hlt),ef5,if_pos hlt] at e2;cases e2
     rw[dw5 (by simpa using hi),ea7,du7] at e2
     cases ej:fr[i - nl]? with
     |none=>rw[ej] at e2;cases e2
     |some j=>
      rw[ej] at e2;obtain ⟨y,y1,y2,y3,y4⟩:=ok.fr (i - nl) j ej
      have hii:nl+(i - nl)=i:=by omega
      rw[hii,hN'] at y1;have hxy:x=y:=Option.some.inj y1;subst hxy;have e2':(σ[j]?).join=some v:=Option.some.inj e2
      have e2'':σ[j]? =some (some v):=by
        cases hσ:σ[j]? with
        |none=>rw[hσ] at e2';cases e2'
        |some z=>rw[hσ] at e2';exact congrArg some e2'
      obtain ⟨u,r,l⟩:=hl j x v y2 e2'' y3;have hkX:=ok.free (x,.free) (PySem.mem_of_lookup y4) rfl;refine ⟨u,r,.inr ⟨?_,?_⟩⟩
      · rw[hX'env]
        rcases U6 (env:=X.env) y4 with z|z
        · exact .inl z
        · exact .inr z
      · rcases l with ⟨k1,_⟩|⟨_,c,ec,hcell⟩
        · rcases hkX with z|z
          · rw[z] at k1;cases k1
          · rw[z] at k1;cases k1
        · obtain ⟨c',ec'⟩:=Z4 X.env scope.names [] (x,.free) (PySem.mem_of_lookup y4) rfl
          have:c'=c:=by
            have q:=cellsSub x c' ec';rw[ec] at q;exact (Option.some.inj q).symm
          subst this;refine ⟨c',by rw[hX'c];exact ec',?_⟩;obtain ⟨oc,ho,hd⟩:=hcell;exact ⟨oc,old _ _ ho,hd⟩
   · rw[hX'c] at e;obtain ⟨v,oc,ho,hd⟩:=I2.cell x c (cellsSub x c e);exact ⟨v,oc,old _ _ ho,hd⟩
   · rw[hX'd];exact I2.hok.fresh hCle
   · rw[hX'c] at e;exact I2.freeC x c (cellsSub x c e)
   · rw[hX'pn] at hp;simp at hp
   · rw[hX'P,hX'w];exact I2.hok.kept old
   · unfold ag6
     have:X'.N=N:=by rw[<-hXd];rfl
     rw[this,ok.len,dt4,ea7,dt3]
 have Dn:∀{H':Hp} {pins'} {s':Shared} {σ'},j5 X' pins' σ' H' s'->H' s2.heap.objs.size=none->∀o,s'.heap.get? s2.heap.objs.size=some o->(∀v,o.data≠.cell v)->j5 X' [(s2.heap.objs.size,o)] σ' H' s':=fun {H' pins' s' σ'} I3 hD o ho hnc=>
   I3.pins_of fun p hp=>by
     have e:p=(s2.heap.objs.size,o):=by simpa using hp
     subst e;refine ⟨ho,hD,by rw[hX'd];exact hDC,?_,hnc⟩;rw[hX'fs];intro hb
     rcases dw1.mp (I2.stkSub _ hb) with z|z
     · exact absurd (z▸I2.lt) (dy2 _)
     · exact I2.nofs (dt7 _) z
 have loop:∀s₃:Shared,s₃={s2 with heap:=h1,toks:=s2.toks+([]:List (Str×Value)).length}->
     codeAny (model X.prog X.w) X.A (.compLoop (.ListComp elt [⟨tg,iter,ifs,0⟩] scope pos) 0 (.ref it) (.ref s2.heap.objs.size) (compEnvC scope (B5 X.env scope.names []) HH.objs.size X.env)) (RR (.ref s2.heap.objs.size) HH.objs.size) s₃:=by
   rintro s₃ rfl
   refine br1 (fun n s'=>∃(i:Nat) (σ':St) (H':Hp) (ys:List V) (its:List Value) (k:Nat),j5 X' [(s2.heap.objs.size,{cls:= .type "list",data:= .seq its.toArray k})] σ' H' s'/\r6 ys its/\ys.length<=sizeLine/\tn i s'.heap/\(∀b∈fp,H' b=none)/\W i n ys σ' H')
     ?_ m0 ⟨0,_,H2,[],[],0,Dn I' (I2.hok.fresh (dt7 _)) _ hacc (fun v z=>by cases z),.nil,dv5 _,T.keep 0 _ _ st2 fun b hb o e=>old b o e,fun b hb=>(f2 b hb).1,w0⟩
   rintro n s3 ⟨i,σ3,H3,ys,its,k,I3,rv,hyl,st3,fr3,w3⟩;have pinD:=I3.pin (s2.heap.objs.size,{cls:= .type "list",data:= .seq its.toArray k}) (by rw[hX'pn];exact du0 _ dt6)
   have stat:∀{o:Obj} {H':Hp},(∀b∈fp,H' b=none)->∀b∈fp,ag3 X' [(s2.heap.objs.size,o)] H' b:=fun {o H'} hn b hb=>by
     refine ⟨hn b hb,by rw[hX'd];exact (below b (fplt b hb)).1,fun z=>ok'.exfs b (by rw[hX'ex];exact hb) z,.inl (by rw[hX'ex];exact hb),fun x c e=>by rw[hX'c] at e;exact (f2 b hb).2.2.2.2.1 x c (cellsSub x c e),fun p hp=> ?_⟩;rw[hX'pn] at hp
     have e:p=(s2.heap.objs.size,o):=by simpa using hp
     subst e
     exact fun z=>(below b (fplt b hb)).2 z.symm
   rcases turn i n ys σ3 H3 w3 with ⟨stop,qn⟩|⟨go,Nx,hNx,step⟩
   · have dn:=T.done X' hX'P hX'w hX'K hX'calm i _ s3 σ3 H3 (fun _ _=>False) I3 (stat fr3) st3 stop;rw[hX'A] at dn
     refine A3 dn fun r s4 ⟨hr,I4⟩=> ?_
     subst hr;have pinE:=I4.pin (s2.heap.objs.size,{cls:= .type "list",data:= .seq its.toArray k}) (by rw[hX'pn];exact du0 _ dt6)
     have ub:Un (v0 X.stack) fp H2 H3 s2.heap s4.heap:=by
       have:=I4.base;rw[hX'fs,hX'ex,hX'H0,hX's0] at this;exact this
     have hok4:J4 X.prog X.w H3 s4.heap:=by have:=I4.hok;rw[hX'P,hX'w] at this;exact this
     have nD:∀b u,H3 b=some u->b≠s2.heap.objs.size:=fun b u e z=>by rw[z,pinE.2.1] at e;cases e
     have u2:Un (v0 X.stack) fp H2 (i8 H3 s2.heap.objs.size (.lst ys)) s2.heap s4.heap:=
       ⟨ub.keep,ub.slot,fun b o e n' hx=>by rw[j8 (dx1 (Heap.lt_size e))];exact ub.free b o e n' hx,ub.there,
         fun b xs e=>by have:=ub.tups b xs e;rw[j8 (nD b _ this)];exact this,fun b o u e=>by have:=ub.frzs b o u e;rw[j8 (nD b _ this)];exact this,
         fun b ps e=>by obtain ⟨more,z⟩:=ub.tbls b ps e;exact ⟨more,by rw[j8 (nD b _ z)];exact z⟩⟩
     have I5:j5 X pins σ (i8 H3 s2.heap.objs.size (.lst ys)) s4:=by
       refine I2.call' (by rw[I4.os,hX's0]) u2 ?_ I4.bare fun b hb=>⟨(f2 b hb).2.2.2.1,(f2 b hb).2.1,(f2 b hb).2.2.2.2.1,(f2 b hb).2.2.2.2.2⟩
       exact J4.track hok4 pinE.2.1 ⟨hyl,its,k,rv,pinE.1⟩
     refine hRR _ _ s4 _ I5 (qn _ pinE.2.1) (I2.fpOk hCle ?_) ?_
     · rw[j8 (Ne.symm hDC)];have:=I4.free;rw[hX'd] at this;exact this
     · obtain ⟨m,hn,_⟩:=I4.loc;rw[hX'd] at hn;exact ⟨m,hn⟩
   · have im:=T.item X' hX'P hX'w hX'K hX'calm i _ s3 σ3 H3 (fun _ _=>False) I3 (stat fr3) st3 go;rw[hX'A] at im
     refine A3 im fun r s4 ⟨u,hr,h4⟩=> ?_
     subst hr
     refine A3 h4 fun _ s5 ⟨x,H5,I5,r5,y5,st5,fr5⟩=> ?_
     have I5':=I5.pinned (stat fr5) (T.obj _ _ st5);have gg:=hg (B5 X.env scope.names []) HH.objs.size s2 H2 fp;rw[hXd] at gg;have gg:=gg _ s5 σ3 H5 x u _ I5' r5 (step x H5 y5);rw[hX'A,hX'P,hX'w,hX'xe,hX'env] at gg
     refine A3 gg fun _ s6 ⟨σ6,H6,I6,q6⟩=> ?_
     have tt:=ht (B5 X.env scope.names []) HH.objs.size s2 H2 fp;rw[hXd] at tt;have tt:=tt _ s6 σ6 H6 _ I6 q6;rw[hX'A,hX'P,hX'w,hX'xe,hX'env] at tt
     refine A3 tt fun ok7 s7 ⟨H7,I7,q7⟩=> ?_
     have again:∀{s8:Shared} {σ8:St} {H8:Hp} {ys8:List V} {its8:List Value} {k8:Nat},j5 X' ([(s2.heap.objs.size,{cls:= .type "list",data:= .seq its8.toArray k8})]++X8 fp s5.heap) σ8 H8 s8->r6 ys8 its8->ys8.length<=sizeLine->Nx ys8 σ8 H8->
         ∃m,m < n/\∃(i:Nat) (σ':St) (H':Hp) (ys:List V) (its:List Value) (k:Nat),j5 X' [(s2.heap.objs.size,{cls:= .type "list",data:= .seq its.toArray k})] σ' H' s8/\r6 ys its/\ys.length<=sizeLine/\tn i s8.heap/\(∀b∈fp,H' b=none)/\W i m ys σ' H':=
       fun {s8 σ8 H8 ys8 its8 k8} I8 rv8 hl8 n8=>by
         obtain ⟨m',hm,w8⟩:=hNx ys8 σ8 H8 n8;refine ⟨m',hm,i+1,σ8,H8,ys8,its8,k8,I8.unpinned,rv8,hl8,T.keep _ _ _ st5 fun b hb o e=>(I8.pin (b,o) (du0 _ (du0 _ (V9 hb e)))).1,fun b hb=> ?_,w8⟩;obtain ⟨o,e,d⟩:=T.obj _ _ st5 b hb;exact (I8.pin (b,o) (du0 _ (du0 _ (V9 hb e)))).2.1
     cases ok7 with
     |false=>
      rw[if_neg dv4] at q7 ⊢;exact again I7 rv hyl q7
     |true=>
      rw[if_pos rfl] at q7 ⊢;have ee:=he (B5 X.env scope.names []) HH.objs.size s2 H2 fp;rw[hXd] at ee;have ee:=ee _ s7 σ6 H7 _ I7 q7;rw[hX'A,hX'P,hX'w,hX'xe,hX'env] at ee
      refine A3 ee fun yv s8 ⟨y,H8,I8,r8,hyl8,q8⟩=> ?_
      have pin8:=I8.pin (s2.heap.objs.size,{cls:= .type "list",data:= .seq its.toArray k}) (du0 _ (dw8 _ dt6));refine wpAny_list_append_plain (items:=its.toArray) ⟨k,pin8.1⟩ (fun h9 hp9 hs9=> ?_) (by rw[du2,<-rv.length];exact hyl);obtain ⟨k9,e9⟩:=hp9
      have I9:j5 X' (X8 fp s5.heap) σ6 H8 s8:=I8.pins_of fun p hp=>I8.pin p (du0 _ (du0 _ hp))
      have I9':j5 X' (X8 fp s5.heap) σ6 H8 {s8 with heap:=h9,toks:=s8.toks}:=by
        refine I9.turned (t':=s8.toks) (it:=s2.heap.objs.size) (fun b o hb e=>hs9.extBut b o hb e) pin8.2.1 (by rw[hX'd];exact hDC) (.inr (by rw[hX's0];exact dt7 _)) (fun x c e z=> ?_) fun p hp z=> ?_
        · rw[hX'c] at e;exact absurd (z▸cellLt x c (cellsSub x c e)) (dy2 _)
        · rw[hX'pn] at hp;obtain ⟨hb,_⟩:=as5 (by simpa using hp);exact absurd (z▸fplt _ hb) (dy2 _)
      have e9':h9.get? s2.heap.objs.size=some {cls:= .type "list",data:= .seq (its++[yv]).toArray k9}:=by rw[e9];simp
      refine again (ys8:=ys++[y]) (its8:=its++[yv]) (k8:=k9) ?_ (r6.append rv (.cons r8 .nil)) (by rw[dt4];exact hyl8) q8
      refine I9'.pins_of fun p hp=> ?_
      rcases du1.mp hp with z|z
      · have e:p=(s2.heap.objs.size,{cls:= .type "list",data:= .seq (its++[yv]).toArray k9}):=by simpa using z
        subst e;exact ⟨e9',pin8.2.1,pin8.2.2.1,pin8.2.2.2.1,fun v z=>by cases z⟩
      · exact I9'.pin p (du0 _ z)
 exact codeAny_compStart_list (loop _ rfl) (T.self X.A 0 _ _ _ (T.keep 0 _ _ st2 fun b hb o e=>old b o e) (loop _ rfl))
end
end L2
namespace L2
open PySem PySem.Spec PyProof.Rows
section
variable {X:Cx}
theorem U3 {elt tg iter:Expr}{ifs:List Expr}{scope:Scope}{pos:Pos}{wi:TI}{g:TG}{tc:TT}{te:TE}{N:List Str}{nl:Nat}{fr:List Nat}
   (hc:X.calm=true) (ok:ag7 X N nl fr scope) (hi:PI X tg iter wi) (hg:∀cl C s0 H0 ex,PG (J3 X N scope cl C s0 H0 ex) tg g) (ht:∀cl C s0 H0 ex,ba1 (J3 X N scope cl C s0 H0 ex) ifs tc)
   (he:∀cl C s0 H0 ex,PE (J3 X N scope cl C s0 H0 ex) elt te) (hs:∀x,foldedSetIterable iter X.env x=pure x:=by intro _;rfl):
   PE X (.ListComp elt [⟨tg,iter,ifs,0⟩] scope pos) (bd4 nl fr wi g tc te):=by
 intro pins s σ H Q I h
 have hclos:closureFor scope X.env=pure (B5 X.env scope.names []):=ad2 fun p hp hf=>I.ok.has p.1 (ok.free p hp hf)
 rw[eval_ListComp];refine wpAny_comprehension_free (use:=none) rfl hs hclos ok.kind ok.names (bk2 (RR:=fun acc C=>compPost (model X.prog X.w) X.A X.xe none (EP X pins σ Q) acc C) hc hi hg ht he ok I h ?_);intro D C s' H' I' q f ⟨m,hn⟩;exact ⟨m,hn,fun h' hs'=>⟨.ref D,H',I'.turned (t':=s'.toks) (fun b o hb e=>hs'.extBut b o hb e) f.1 f.2.1 f.2.2.2.1 f.2.2.2.2.1 f.2.2.2.2.2,rfl,q⟩⟩
theorem ca4 {i:Nat}{y:Str}{py spos:Pos}{elt tg iter:Expr}{ifs:List Expr}{scope:Scope}{pos:Pos}{wi:TI}{g:TG}{tc:TT}{te:TE}{N:List Str}{nl:Nat}{fr:List Nat}
   (hN:X.N.Nodup) (hi':X.N[i]? =some y) (hx:Loc X.env.scope y)
   (hc:X.calm=true) (ok:ag7 X N nl fr scope) (hi:PI X tg iter wi) (hg:∀cl C s0 H0 ex,PG (J3 X N scope cl C s0 H0 ex) tg g) (ht:∀cl C s0 H0 ex,ba1 (J3 X N scope cl C s0 H0 ex) ifs tc)
   (he:∀cl C s0 H0 ex,PE (J3 X N scope cl C s0 H0 ex) elt te) (hsw:swapsWith (.ListComp elt [⟨tg,iter,ifs,0⟩] scope pos) (some (.Name y py)) spos.line X.env=pure true:=by rfl)
   (hs:∀x,foldedSetIterable iter X.env x=pure x:=by intro _;rfl)
   (hf:X.fn y=true\/X.env.scope.names.lookup y=some .local:=by first|exact .inl rfl|exact .inr rfl|assumption):
   PS X (.Assign [.Name y py] (.ListComp elt [⟨tg,iter,ifs,0⟩] scope pos) spos) (cd8 (bd4 nl fr wi g tc te) (aw6 i)):=by
 intro pins s σ H Dn I h
 have hclos:closureFor scope X.env=pure (B5 X.env scope.names []):=ad2 fun p hp hf=>I.ok.has p.1 (ok.free p hp hf)
 rw[exec_Assign_Name_used _ _ _ _ hsw];refine wpAny_bind (wpAny_standAt (wpAny_bind ?_));show wpAny _ X.A (do let _ <-comprehension (.ListComp elt [⟨tg,iter,ifs,0⟩] scope pos) scope X.env _ (newList []) false (eval iter X.env) (some (assign (.Name y py) X.env))) _ _ s
 refine wpAny_bind (wpAny_mono (wpAny_comprehension_free (use:=some (assign (.Name y py) X.env)) (Q:=fun _ s'=>SP X pins Dn .next s') rfl hs hclos ok.kind ok.names
   (bk2 (RR:=fun acc C=>compPost (model X.prog X.w) X.A X.xe (some (assign (.Name y py) X.env)) (fun _ s'=>SP X pins Dn .next s') acc C) hc hi hg ht he ok I h ?_)) (fun _ s' hq=>wpAny_pure (wpAny_pure hq)) fun _ _ e=>e)
 intro D C s' H' I' q f ⟨m,hn⟩;show wpAny _ X.A (assign (.Name y py) X.env (.ref D)) _ _ _;refine wpAny_assign_Name (bj3 I' hN hi' hx (v:= .ref D) rfl (fun s2 I2 ⟨a,sb,ha⟩=> ?_) hf)
 have hCa:C≠a:=by
   rcases ha with z|z
   · rw[z];exact f.2.1
   · exact fun e=>f.2.2.2.2.1 _ _ z e.symm
 exact ⟨m,hn.sameBut sb hCa,fun h' hs'=>⟨_,H',I2.turned (t':=s2.toks) (fun b o hb e=>hs'.extBut b o hb e) f.1 f.2.1 f.2.2.2.1 f.2.2.2.2.1 f.2.2.2.2.2,q⟩⟩
theorem Q4 {K:PySem.W.Frag}{a:Addr}{xs:List V}{g:TG}{tc:TT}{te:TE}{σ0:St}{H:Hp}{Q:VK}(Pv:Nat->List V->St->Hp->Prop)(h0:Pv 0 [] σ0 H)(hl:∀i ys σ H,i<=xs.length->Pv i ys σ H->j7 K H a xs)
   (hs:∀i x ys σ H,xs[i]? =some x->Pv i ys σ H->g x σ H fun σ2 H2=>tc σ2 H2 fun b H4=>if b=true then te σ2 H4 fun y H5=>ys.length < sizeLine/\Pv (i+1) (ys++[y]) σ2 H5 else Pv (i+1) ys σ2 H4)
   (hd:∀ys σ H,Pv xs.length ys σ H->∀D,H D=none->Q (.ref D) (i8 H D (.lst ys))):
   bo8 (Itl K a) g tc te Q σ0 H:=by
 refine ⟨fun i m ys σ H=>m=xs.length - i/\i<=xs.length/\Pv i ys σ H,⟨xs.length,by simp,dv5 _,h0⟩,?_⟩;rintro i m ys σ H ⟨rfl,hi,p⟩;have q:=hl i ys σ H hi p
 by_cases hlt:i < xs.length
 · refine .inr ⟨⟨xs,xs[i],q,by simp [hlt]⟩,Pv (i+1),fun ys' σ' H' p'=>⟨xs.length - (i+1),by omega,rfl,hlt,p'⟩,fun x H' y=> ?_⟩;obtain ⟨e,y⟩:=y;subst e;exact hs i x ys σ _ (y xs q) p
 · have e:i=xs.length:=by omega
   subst e;exact .inl ⟨⟨xs,q,dt7 _⟩,hd ys σ H p⟩
theorem bd5 {lo:Int}{n:Nat}{g:TG}{tc:TT}{te:TE}{σ0:St}{H:Hp}{Q:VK}(Pv:Nat->List V->St->Hp->Prop)(h0:Pv 0 [] σ0 H)
   (hs:∀i ys σ H,i < n->Pv i ys σ H->g (.int (lo+i)) σ H fun σ2 H2=>tc σ2 H2 fun b H4=>if b=true then te σ2 H4 fun y H5=>ys.length < sizeLine/\Pv (i+1) (ys++[y]) σ2 H5 else Pv (i+1) ys σ2 H4)
   (hd:∀ys σ H,Pv n ys σ H->∀D,H D=none->Q (.ref D) (i8 H D (.lst ys))):
   bo8 (Itr lo n) g tc te Q σ0 H:=by
 refine ⟨fun i m ys σ H=>m=n - i/\i<=n/\Pv i ys σ H,⟨n,by simp,dv5 _,h0⟩,?_⟩;rintro i m ys σ H ⟨rfl,hi,p⟩
 by_cases hlt:i < n
 · refine .inr ⟨hlt,Pv (i+1),fun ys' σ' H' p'=>⟨n - (i+1),by omega,rfl,hlt,p'⟩,fun x H' y=> ?_⟩;obtain ⟨e,y⟩:=y;subst e y;exact hs i ys σ _ hlt p
 · have e:i=n:=by omega
   subst e;exact .inl ⟨dt7 _,hd ys σ H p⟩
inductive EqD (K:PySem.W.Frag)(H:Hp):Nat->V->V->Bool->Prop where
 |flat {n:Nat} {x y:V}:bo6 x=true->bo6 y=true->EqD K H n x y (eqV x y)
 |same {n:Nat} (a:Addr):EqD K H n (.ref a) (.ref a) true
 |lists {n:Nat} {a b:Addr} {xs ys:List V} (e:Nat->Bool):a≠b->j7 K H a xs->j7 K H b ys->xs.length=ys.length->(∀(j:Nat) x y,xs[j]? =some x->ys[j]? =some y->EqD K H n x y (e j))->EqD K H (n+1) (.ref a) (.ref b) ((eb8 xs.length).all e)
 |lens {n:Nat} {a b:Addr} {xs ys:List V}:a≠b->j7 K H a xs->j7 K H b ys->xs.length≠ys.length->EqD K H (n+1) (.ref a) (.ref b) false
theorem ck5 {pins:List (Addr×Obj)}{σ:St}{H:Hp}{s:Shared}(I:j5 X pins σ H s){n:Nat}{x y:V}{b:Bool}(d:EqD X.K H n x y b):
   ∀{A:Around} {u v:Value},A.units+n < cLine->A7 x u->A7 y v->SeqAt.EqAt A s u v b:=by
 induction d with
 |flat fx fy=>intro A u v _ rx ry;exact dg0 rx ry fx fy
 |same a=>intro A u v _ rx ry;cases rx;cases ry;exact SeqAt.EqAt.same _
 |@lists n a c xs ys e ne ha hb hl _ ih=>
  intro A u v hu rx ry;cases rx;cases ry;obtain ⟨its,r1,p1,_⟩:=I.list ha;obtain ⟨its2,r2,p2,_⟩:=I.list hb;have l1:=r1.length;have l2:=r2.length;refine SeqAt.EqAt.of_refs ne ?_
  have q:=SeqAt.RcAt.lists (A:=A) (e:=e) p1.isList p2.isList (by rw[du2,du2];omega) (by omega) (fun j h1 h2=>by
    have h1':j < its.length:=by simpa using h1
    have h2':j < its2.length:=by simpa using h2
    have e1:xs[j]? =some (xs[j]'(by omega)):=dt5 _;have e2:ys[j]? =some (ys[j]'(by omega)):=dt5 _;obtain ⟨u1,z1,q1⟩:=r1.get e1;obtain ⟨u2,z2,q2⟩:=r2.get e2
    have w1:its.toArray[j]=u1:=by
      rw[dt5 h1'] at z1
      simpa using z1
    have w2:its2.toArray[j]=u2:=by
      rw[dt5 h2'] at z2
      simpa using z2
    rw[w1,w2]
    exact ih j _ _ e1 e2 (by show A.in1.units+n < cLine;have:A.in1.units=A.units+1:=by first|rfl|simp [Around.in1]
                             omega) q1 q2)
  rw[du2,<-l1] at q;exact q
 |lens ne ha hb hl=>
  intro A u v hu rx ry;cases rx;cases ry;obtain ⟨its,r1,p1,_⟩:=I.list ha;obtain ⟨its2,r2,p2,_⟩:=I.list hb;have l1:=r1.length;have l2:=r2.length;exact SeqAt.EqAt.of_refs ne (SeqAt.RcAt.lists_lengths p1.isList p2.isList (by rw[du2,du2];simp;omega) (by omega))
def LEq (K:PySem.W.Frag)(H:Hp)(n:Nat)(xs ys:List V)(r:Bool):Prop:=
 (xs.length≠ys.length/\r=false)\/(∃e:Nat->Bool,xs.length=ys.length/\(∀(j:Nat) x y,xs[j]? =some x->ys[j]? =some y->EqD K H n x y (e j))/\r=(eb8 xs.length).all e)
theorem dg9 {pins:List (Addr×Obj)}{σ:St}{H:Hp}{s:Shared}(I:j5 X pins σ H s){A:Around}{n:Nat}{a b:Addr}{xs ys:List V}{r:Bool}(hu:A.units+n+1 < cLine)(ha:j7 X.K H a xs)(hb:j7 X.K H b ys)(d:LEq X.K H n xs ys r):
   SeqAt.RcAt A s (.ref a) (.ref b) r:=by
 obtain ⟨its,r1,p1,_⟩:=I.list ha;obtain ⟨its2,r2,p2,_⟩:=I.list hb;have l1:=r1.length;have l2:=r2.length
 rcases d with ⟨hl,rfl⟩|⟨e,hl,he,rfl⟩
 · exact SeqAt.RcAt.lists_lengths p1.isList p2.isList (by rw[du2,du2];simp;omega) (by omega)
 · have q:=SeqAt.RcAt.lists (A:=A) (e:=e) p1.isList p2.isList (by rw[du2,du2];omega) (by omega) (fun j h1 h2=>by
     have h1':j < its.length:=by simpa using h1
     have h2':j < its2.length:=by simpa using h2
     have e1:xs[j]? =some (xs[j]'(by omega)):=dt5 _;have e2:ys[j]? =some (ys[j]'(by omega)):=dt5 _;obtain ⟨u1,z1,q1⟩:=r1.get e1;obtain ⟨u2,z2,q2⟩:=r2.get e2
     have w1:its.toArray[j]=u1:=by
       rw[dt5 h1'] at z1
       simpa using z1
     have w2:its2.toArray[j]=u2:=by
       rw[dt5 h2'] at z2
       simpa using z2
     rw[w1,w2]
     exact ck5 I (he j _ _ e1 e2) (by show A.in1.units+n < cLine;have:A.in1.units=A.units+1:=by first|rfl|simp [Around.in1]
                                      omega) q1 q2)
   rw[du2,<-l1] at q;exact q
end
end L2
namespace L2
open PySem PySem.Spec PyProof.Rows
section
variable {X:Cx}
theorem ct1 {pins:List (Addr×Obj)}{σ:St}{H:Hp}{s:Shared}(I:j5 X pins σ H s){A:Around}{n:Nat}{a b:Addr}{xs ys:List V}{r:Bool}(hu:A.units+n+1 < cLine)(ha:j7 X.K H a xs)(hb:j7 X.K H b ys)(d:LEq X.K H n xs ys r):
   SeqAt.RcNeAt A s (.ref a) (.ref b) (!r):=by
 obtain ⟨its,r1,p1,_⟩:=I.list ha;obtain ⟨its2,r2,p2,_⟩:=I.list hb;have l1:=r1.length;have l2:=r2.length
 rcases d with ⟨hl,rfl⟩|⟨e,hl,he,rfl⟩
 · exact SeqAt.RcNeAt.lists_lengths p1.isList p2.isList (by rw[du2,du2];simp;omega) (by omega)
 · have q:=SeqAt.RcNeAt.lists (A:=A) (e:=e) p1.isList p2.isList (by rw[du2,du2];omega) (by omega) (fun j h1 h2=>by
     have h1':j < its.length:=by simpa using h1
     have h2':j < its2.length:=by simpa using h2
     have e1:xs[j]? =some (xs[j]'(by omega)):=dt5 _;have e2:ys[j]? =some (ys[j]'(by omega)):=dt5 _;obtain ⟨u1,z1,q1⟩:=r1.get e1;obtain ⟨u2,z2,q2⟩:=r2.get e2
     have w1:its.toArray[j]=u1:=by
       rw[dt5 h1'] at z1
       simpa using z1
     have w2:its2.toArray[j]=u2:=by
       rw[dt5 h2'] at z2
       simpa using z2
     rw[w1,w2]
     exact ck5 I (he j _ _ e1 e2) (by show A.in1.units+n < cLine;have:A.in1.units=A.units+1:=by first|rfl|simp [Around.in1]
                                      omega) q1 q2)
   rw[du2,<-l1] at q;exact q
def dh0 (K:PySem.W.Frag)(n:Nat)(neg:Bool):R2:=fun x y H Q=>∃a b xs ys r,x= .ref a/\y= .ref b/\j7 K H a xs/\j7 K H b ys/\LEq K H n xs ys r/\Q (.bl (if neg then !r else r)) H
theorem at5 (n:Nat)(hu:X.A.units+n+1 < cLine):S5 X (compareOp .Eq) (dh0 X.K n false):=by
 intro pins s σ H x y v u Q I rx ry h;obtain ⟨a,b,xs,ys,r,rfl,rfl,ha,hb,d,q⟩:=h;cases rx;cases ry;exact dg9 I hu ha hb d _ _ _ _ ⟨.bl r,H,I,rfl,q⟩
theorem bd6 (n:Nat)(hu:X.A.units+n+1 < cLine):S5 X (compareOp .NotEq) (dh0 X.K n true):=by
 intro pins s σ H x y v u Q I rx ry h;obtain ⟨a,b,xs,ys,r,rfl,rfl,ha,hb,d,q⟩:=h;cases rx;cases ry;exact ct1 I hu ha hb d _ _ _ _ ⟨.bl (!r),H,I,rfl,q⟩
theorem ar3 {n:Nat}{e:Nat->Bool}:(eb8 n).all e=true↔∀j,j < n->e j=true:=by
 rw[ec7];exact ⟨fun h j hj=>h j (eb2.mpr hj),fun h j hj=>h j (eb2.mp hj)⟩
theorem br2 (K:PySem.W.Frag)(H:Hp)(n:Nat)(ns ms:List Int):LEq K H n (ns.map V.int) (ms.map V.int) (decide (ns=ms)):=by
 by_cases hl:ns.length=ms.length
 · refine .inr ⟨fun j=>decide (ns[j]? =ms[j]?),by simpa using hl,fun j x y e1 e2=> ?_,?_⟩
   · rw[du7] at e1 e2
     cases h1:ns[j]? with
     |none=>rw[h1] at e1;cases e1
     |some a=>
      cases h2:ms[j]? with
      |none=>rw[h2] at e2;cases e2
      |some b=>
       rw[h1] at e1;rw[h2] at e2;cases e1;cases e2;have q:EqD K H n (V.int a) (V.int b) (eqV (V.int a) (V.int b)):= .flat rfl rfl
       have e:eqV (V.int a) (V.int b)=decide (some a=some b):=by
         show (a==b)=_
         by_cases z:a=b
         · subst z;simp
         · rw[decide_eq_false (fun w=>z (Option.some.inj w))];simpa using z
       rw[e] at q;show EqD K H n _ _ (decide (ns[j]? =ms[j]?));rw[h1,h2];exact q
   · rw[ee6,decide_eq_true_iff,ar3];constructor
     · intro h j _;subst h;simp
     · intro h
       refine dy8 fun j=> ?_
       by_cases hj:j < ns.length
       · exact of_decide_eq_true (h j (by simpa using hj))
       · rw[dv2 (by omega),dv2 (by omega)]
 · refine .inl ⟨by simpa using hl,?_⟩
   exact decide_eq_false fun h=>hl (by rw[h])
theorem bx8:K6 X (.type "range") (fun xs H Q=>∃j,xs=[.int j]/\∀p,H p=none->Q (.ref p) (i8 H p (.rng 0 j))):=by
 intro pins s σ H xs us Q I r h;obtain ⟨j,rfl,q⟩:=h;obtain ⟨u,rfl,⟨t,rfl⟩⟩:=P6 r;refine call_range_1 ⟨.ref s.heap.objs.size,_,I.laid (fun b o e=>Heap.get?_push_of_some _ e) (dt7 _) ?_,rfl,q _ (I.hok.fresh (dt7 _))⟩;exact ⟨_,_,_,Heap.get?_push_size _ rfl⟩
def M0 (lo:Int)(n:Nat):List Int:=(eb8 n).map fun (i:Nat)=>lo+(i:Int)
theorem cf0 {lo:Int}{n:Nat}{acc:Array Value}(h:ItemsOf (fun i v=>∃t,v=Value.int (lo+(i:Int)*1) t) acc n):r6 ((M0 lo n).map V.int) acc.toList:=by
 obtain ⟨hs,hv⟩:=h
 have key:∀(l:List Value) (k:Nat),(∀(j:Nat) v,l[j]? =some v->∃t,v=Value.int (lo+((k+j:Nat):Int)) t)->r6 (((eb8 l.length).map fun (i:Nat)=>lo+((k+i:Nat):Int)).map V.int) l:=by
   intro l
   induction l with
   |nil=>intro k _;exact .nil
   |cons v r ih=>
    intro k hk
    have e:(((eb8 r.length).map Nat.succ).map fun (i:Nat)=>lo+((k+i:Nat):Int))=(eb8 r.length).map fun (i:Nat)=>lo+((k+1+i:Nat):Int):=by
      rw[ea6]
      refine ea4 fun i _=> ?_
      show lo+((k+(i+1):Nat):Int)=_
      congr 2;omega
    rw[du9,List.range_succ_eq_map,dv7,dv7,e];refine .cons ?_ ?_
    · obtain ⟨t,e⟩:=hk 0 v rfl;exact ⟨t,e⟩
    · have:=ih (k+1) fun j w e=>by
        obtain ⟨t,z⟩:=hk (j+1) w (by simpa using e);exact ⟨t,by rw[z];congr 2;omega⟩
      exact this
 have:=key acc.toList 0 fun j v e=>by
   obtain ⟨t,z⟩:=hv j v (by simpa using e);exact ⟨t,by rw[z,Int.mul_one];simp⟩
 have hl:acc.toList.length=n:=by simpa using hs
 rw[hl] at this
 have e:((eb8 n).map fun (i:Nat)=>lo+((0+i:Nat):Int))=M0 lo n:=by
   unfold M0
   refine ea4 fun i _=> ?_
   simp
 rw[e] at this;exact this
theorem bm4 (hc:X.calm=true):K6 X (.type "list") (fun xs H Q=>∃p lo hi,xs=[.ref p]/\H p=some (.rng lo hi)/\(-(2^62)<=lo/\lo < 2^62/\ -(2^62)<=hi/\hi < 2^62)/\(hi - lo).toNat<=2^20/\
   ∀l,H l=none->Q (.ref l) (i8 H l (.lst ((M0 lo (hi - lo).toNat).map V.int)))):=by
 intro pins s σ H xs us Q I r h;obtain ⟨p,lo,hi,rfl,hp,⟨b1,b2,b3,b4⟩,hz,q⟩:=h;obtain ⟨u,rfl,rx⟩:=P6 r;cases rx;obtain ⟨t,u,v,ho⟩:=I.hok p _ hp
 refine call_list_range (n:=(hi - lo).toNat) (I.ok.hd hc) (r:=p) ho (small_one b1 b2 b3 b4) (by rw[rangeSize_one];split<;>omega) (du3 hz (by decide)) fun h' tk acc' c' hk e it=> ?_
 have rv:=cf0 it;refine ⟨.ref s.heap.objs.size,_,I.laid hk (dt7 _) (show C5 X.prog X.w _ h' _ (.lst ((M0 lo (hi - lo).toNat).map V.int)) from ⟨?_,acc'.toList,c',rv,by rw[e]⟩),rfl,q _ (I.hok.fresh (dt7 _))⟩;unfold M0;rw[dt3,dt3,eb9];exact du3 hz (by rw[sizeLine_eq];decide)
theorem ck6 (hc:X.calm=true):K6 X (.builtin "sum") (fun xs H Q=>∃(p:Addr) (ns:List Int),xs=[.ref p]/\j7 X.K H p (ns.map V.int)/\Q (.int ns.sum) H):=by
 intro pins s σ H xs us Q I r h;obtain ⟨p,ns,rfl,hp,q⟩:=h;obtain ⟨u,rfl,rx⟩:=P6 r;cases rx;obtain ⟨its,rv,pl,_⟩:=I.list hp;have ia:=ae4 rv;obtain ⟨xs,hxs⟩:=ia.allInts.items;have hn:=ia.numsOf
 have hxl:its=(intItems xs).toList:=by rw[<-hxs]
 rw[hxl,nums_intItems] at hn;have hl:=pl.isList;rw[hxs] at hl
 refine sum_intListG (I.ok.hd hc) hl fun h' tk t' hk=>⟨.int ns.sum,H,I.kept hk,?_,q⟩
 rw[preSum_eq,ea2 (by simp),hn];exact ⟨_,rfl⟩
end
end L2
namespace L2
open PySem PySem.Spec PyProof.Rows
section
variable {X:Cx}
theorem ck7 (hc:X.calm=true):K6 X (.builtin "min") (fun xs H Q=>∃(p:Addr) (ns:List Int),xs=[.ref p]/\j7 X.K H p (ns.map V.int)/\ns≠[]/\∀m,m∈ns->(∀x∈ns,m<=x)->Q (.int m) H):=by
 intro pins s σ H xs us Q I r h;obtain ⟨p,ns,rfl,hp,hne,q⟩:=h;obtain ⟨u,rfl,rx⟩:=P6 r;cases rx;obtain ⟨its,rv,pl,_⟩:=I.list hp;have ia:=ae4 rv;obtain ⟨xs,hxs⟩:=ia.allInts.items;have hn:=ia.numsOf
 have hxl:its=(intItems xs).toList:=by rw[<-hxs]
 rw[hxl,nums_intItems] at hn;have hl:=pl.isList;rw[hxs] at hl
 have hnx:∀j:Nat,ns[j]? =(xs[j]?).map (·.1):=fun j=>by rw[<-hn];simp
 have hlen:ns.length=xs.size:=by rw[<-hn];simp
 have h0:0 < xs.size:=by
   rw[<-hlen];exact ec3.mpr hne
 refine min_intList (I.ok.hd hc) hl h0 fun v h' tk hv hk=> ?_
 obtain ⟨b1,b2⟩:=argBest_lt (numAt xs) (xs.size - 1);generalize hab:argBest (fun i j=>decide (numAt xs i < numAt xs j)) (xs.size - 1)=k at hv b1 b2
 have hk1:k < xs.size:=by omega
 have hv':v=Value.int (xs[k]).1 (xs[k]).2:=by
   unfold intItems at hv;rw[Array.getElem?_map,ea5 hk1] at hv;exact (Option.some.inj hv).symm
 have hnum:∀j (hj:j < xs.size),numAt xs j=(xs[j]).1:=fun j hj=>by unfold numAt;rw[ea5 hj];rfl
 have hm:(xs[k]).1∈ns:=by
   refine du8 (i:=k) ?_;rw[hnx,ea5 hk1];rfl
 refine ⟨.int (xs[k]).1,H,I.kept hk,⟨_,hv'⟩,q _ hm fun x hx=> ?_⟩;obtain ⟨j,hj⟩:=dy5.mp hx
 have hj1:j < xs.size:=by rw[<-hlen];exact (dt9.mp hj).1
 have:=b2 j (by omega);rw[hnum k hk1,hnum j hj1] at this;rw[hnx,ea5 hj1] at hj;have hj:(xs[j]).1=x:=Option.some.inj hj;rw[<-hj];exact this
theorem ct2:K6 X (.builtin "isinstance") (fun xs H Q=>∃x n t b,xs=[x,.ty n]/\R1 X.K H x t/\PySem.W.kitOne X.K t (.type n)=some b/\Q (.bl b) H):=by
 intro pins s σ H xs us Q I r h;obtain ⟨x,n,t,b,rfl,ty,e,q⟩:=h;obtain ⟨u,w',rfl,rx,ry⟩:=bc9 r;cases (show w'=Value.type n from ry)
 exact cj4 I rx ty e fun tk=>⟨.bl b,H,I.tok tk,rfl,q⟩
theorem M1 (K:PySem.W.Frag)(n:String):PySem.W.kitOne K (.type n) (.type n)=some true:=by
 unfold PySem.W.kitOne;rw[if_pos (beq_self_eq_true _)]
theorem ag8 (K:PySem.W.Frag):PySem.W.kitOne K (.type "int") (.type "bool")=some false:=by
 unfold PySem.W.kitOne PySem.W.kitCls;rw[if_neg (by decide+kernel)];show (if PySem.W.kitMeta "bool"=true then (fastBuiltinMro "int").map (·.contains (Value.type "bool")) else none)=some false;rw[if_pos (by decide+kernel)]
 decide+kernel
theorem br3 (K:PySem.W.Frag):PySem.W.kitOne K (.type "bool") (.type "int")=some true:=by
 unfold PySem.W.kitOne PySem.W.kitCls;rw[if_neg (by decide+kernel)];show (if PySem.W.kitMeta "int"=true then (fastBuiltinMro "bool").map (·.contains (Value.type "int")) else none)=some true;rw[if_pos (by decide+kernel)]
 decide+kernel
theorem ct3:bootBuiltins "int"=some (.type "int"):=by decide+kernel
theorem ck8:bootBuiltins "bool"=some (.type "bool"):=by decide+kernel
theorem ao3:bootBuiltins "list"=some (.type "list"):=by decide+kernel
theorem bx9:bootBuiltins "range"=some (.type "range"):=by decide+kernel
theorem ba3:bootBuiltins "isinstance"=some (.builtin "isinstance"):=by decide+kernel
theorem ck9:bootBuiltins "sum"=some (.builtin "sum"):=by decide+kernel
theorem bk3:bootBuiltins "min"=some (.builtin "min"):=by decide+kernel
theorem cl0:bootBuiltins "max"=some (.builtin "max"):=by decide+kernel
end
def r9 (a:Addr)(H H':Hp):Prop:=∀b o,H b=some o->b≠a->H' b=some o
theorem r9.refl (a:Addr)(H:Hp):r9 a H H:=fun _ _ h _=>h
theorem r9.trans {a:Addr}{H H1 H2:Hp}(x:r9 a H H1)(y:r9 a H1 H2):r9 a H H2:=fun b o h n=>y b o (x b o h n) n
theorem i6.but {H H':Hp}(a:Addr)(s:i6 H H'):r9 a H H':=fun b o h _=>s b o h
theorem i6.upd_new {H:Hp}{p:Addr}{o:HO}(h:H p=none):i6 H (i8 H p o):=fun b u e=>by rw[j8 (j9 e h)];exact e
theorem i6.upd_r {H H':Hp}{p:Addr}{o:HO}(s:i6 H H')(h:H p=none):i6 H (L2.i8 H' p o):=fun b u e=>by rw[j8 (j9 e h)];exact s b u e
theorem r9.upd_r {a:Addr}{H H':Hp}{p:Addr}{o:HO}(k:r9 a H H')(h:H p=none):r9 a H (L2.i8 H' p o):=fun b u e n=>by rw[j8 (j9 e h)];exact k b u e n
theorem r9.upd_a {a:Addr}{H H':Hp}{o:HO}(k:r9 a H H'):r9 a H (L2.i8 H' a o):=fun b u e n=>by rw[j8 n];exact k b u e n
end L2
namespace L2
open PySem PySem.Spec PyProof.Rows
def B7 (P:Program)(w:World)(K:PySem.W.Frag)(mg:Str->Option Value)(base:Heap)(x:Str)(k:Nat)(ps:List Str)(sp:Sp):Prop:=
 ∃(f:Addr) (fd:FuncData),mg x=some (.ref f)/\PySem.W.keepIn K (.ref f)=true/\Z2 K fd ps []/\w6 P w K mg base J8 k f fd ps sp
section
variable {X:Cx} {x:Str} {p pos:Pos} {e:Expr} {es:List Expr} {t:TA} {k:Nat} {ps:List Str} {sp:Sp}
theorem q9 (c:B7 X.prog X.w X.K X.mg X.base x k ps sp)(hr:A4 k X.A)(ha:PA X (e::es) t)(hg:Gl X x:=by rfl)(hdb:(x==("__debug__":Str))=false:=by decide)
   (he:starEach (e::es) X.env=(false,eval e X.env)::starEach es X.env:=by rfl) (hpl:(backTo pos (starEach es X.env)).any (·.1)=false:=by rfl):
   PE X (.Call (.Name x p) (e::es) [] pos) (aj4 sp [] E0 t):=by
 obtain ⟨f,fd,h1,h2,h3,h4⟩:=c;exact ca0 h4 hr hg h1 h2 h3 .nil dl7 ha hdb he hpl
theorem C7 {a b:Expr}{ta:TA}(hm:X.mg "isinstance"=none)(ha:PA X [a,b] ta)(hg:Gl X "isinstance":=by rfl)
   (he:starEach [a,b] X.env=(false,eval a X.env)::starEach [b] X.env:=by rfl) (hpl:(backTo pos (starEach [b] X.env)).any (·.1)=false:=by rfl):
   PE X (.Call (.Name "isinstance" p) [a,b] [] pos) (X4 (fun xs H Q=>∃x n t b,xs=[x,.ty n]/\R1 X.K H x t/\PySem.W.kitOne X.K t (.type n)=some b/\Q (.bl b) H) ta):=
 N3 ct2 hg hm ba3 ha (by decide) (by decide) he hpl
theorem ba4 (hm:X.mg "int"=none)(hg:Gl X "int":=by rfl):PE X (.Name "int" p) (tC (.ty "int")):=af5 hg hm ct3 rfl
theorem at6 (hm:X.mg "bool"=none)(hg:Gl X "bool":=by rfl):PE X (.Name "bool" p) (tC (.ty "bool")):=af5 hg hm ck8 rfl
theorem M4 (hm:X.mg "list"=none)(hg:Gl X "list":=by rfl):PE X (.Name "list" p) (tC (.ty "list")):=af5 hg hm ao3 rfl
theorem A6 (hm:X.mg "len"=none)(ha:PA X [e] t)(hg:Gl X "len":=by rfl)
   (he:starEach [e] X.env=(false,eval e X.env)::starEach [] X.env:=by rfl):PE X (.Call (.Name "len" p) [e] [] pos) (X4 (fun xs H Q=>∃p ys,xs=[.ref p]/\(j7 X.K H p ys\/SqT X.K H p ys)/\Q (.int ys.length) H) t):=
 N3 bq6 hg hm PySem.boot_len ha (by decide) (by decide) he rfl
end
end L2
namespace Mth
structure G2 (p:List Int):Prop where
 nd:p.Nodup
 lo:∀x∈p,0<=x
 hi:∀x∈p,x < p.length
theorem M2 {n:Nat}{x:Int}:x∈L2.M0 0 n↔0<=x/\x < n:=by
 unfold L2.M0;rw[dv3];constructor
 · rintro ⟨i,hi,rfl⟩;have:=eb2.mp hi;omega
 · rintro ⟨h1,h2⟩;exact ⟨x.toNat,eb2.mpr (by omega),by omega⟩
theorem L8 (lo:Int)(n:Nat):(L2.M0 lo n).length=n:=by
 unfold L2.M0;rw[dt3,eb9]
theorem O6 (n:Nat):(L2.M0 0 n).Nodup:=by
 unfold L2.M0;rw[dx4,ec0];exact List.Pairwise.imp (fun {a b} (h:a < b)=>by omega) List.pairwise_lt_range
theorem ab9 {p:List Int}{n:Nat}(h:p.Perm (L2.M0 0 n)):G2 p/\p.length=n:=by
 have hl:p.length=n:=by rw[h.length_eq,L8]
 refine ⟨⟨h.nodup_iff.mpr (O6 n),fun x hx=>(M2.mp (h.mem_iff.mp hx)).1,fun x hx=> ?_⟩,hl⟩;have:=(M2.mp (h.mem_iff.mp hx)).2;omega
theorem bm5:∀(n:Nat) (p:List Nat),p.Nodup->(∀x∈p,x < n)->p.length=n->p.Perm (eb8 n):=by
 intro n
 induction n with
 |zero=>intro p _ _ hl;rw[eh0 hl];exact List.Perm.refl _
 |succ n ih=>
  intro p nd hb hl
  by_cases hn:n∈p
  · obtain ⟨s,t,rfl⟩:=eh4 hn;have pm:(s++n::t).Perm (n::(s++t)):=List.perm_middle;have nd':=pm.nodup_iff.mp nd;obtain ⟨h1,h2⟩:=dz9.mp nd'
    have:=ih (s++t) h2 (fun x hx=>by
      have hx':x < n+1:=hb x (pm.mem_iff.mpr (dt8 _ hx))
      have:x≠n:=fun e=>h1 (e▸hx)
      omega) (by rw[dt4,du9] at hl;rw[dt4];omega)
    refine pm.trans ?_;rw[List.range_succ];exact (List.Perm.cons n this).trans (eb7 (l₁:=[n]))
  · exfalso
    have hlt:∀x∈p,x < n:=fun x hx=>by
      have h1:=hb x hx
      have:x≠n:=fun e=>hn (e▸hx)
      omega
    match p,nd,hl,hlt with
    |[],_,hl,_=>simp at hl
    |y::q,nd,hl,hlt=>
     obtain ⟨h1,h2⟩:=dz9.mp nd;have hq:=ih q h2 (fun x hx=>hlt x (dt8 _ hx)) (by simpa using hl);have hy:=hlt y dt6;exact h1 (hq.mem_iff.mpr (eb2.mpr hy))
theorem G2.perm {p:List Int}(h:G2 p):p.Perm (L2.M0 0 p.length):=by
 have e:(p.map Int.toNat).map (fun (i:Nat)=>(0:Int)+(i:Int))=p:=by
   rw[ea6]
   conv=>rhs;rw[<-eh8 p]
   refine ea4 fun x hx=> ?_
   have:=h.lo x hx;show (0:Int)+((x.toNat:Nat):Int)=x;omega
 have nd:(p.map Int.toNat).Nodup:=by
   rw[dx4,ec0];have:=dx4.mp h.nd;refine List.Pairwise.imp_of_mem (fun {a b} ha hb hne z=>hne ?_) this;have h1:=h.lo a ha;have h2:=h.lo b hb;omega
 have:=bm5 p.length (p.map Int.toNat) nd (fun x hx=>by
   obtain ⟨y,hy,rfl⟩:=dv3.mp hx;have h1:=h.lo y hy;have h2:=h.hi y hy
   omega) (by rw[dt3])
 have q:=this.map (fun (i:Nat)=>(0:Int)+(i:Int));rw[e] at q;exact q
def G5 (fs:List Int)(u:Int):Option Int:=fs[u.toNat]?
theorem at7 (fs:List Int):(L2.M0 0 fs.length).map (G5 fs)=fs.map some:=by
 unfold L2.M0;rw[ea6]
 refine dy8 fun j=> ?_
 rw[du7,du7]
 by_cases hj:j < fs.length
 · rw[eh2 hj,dt5 hj];show some (fs[((0:Int)+(j:Int)).toNat]?)=_
   have:((0:Int)+(j:Int)).toNat=j:=by omega
   rw[this,dt5 hj];rfl
 · rw[dv2 (by rw[eb9];omega),dv2 (by omega)];rfl
theorem cl1 {a b:List Int}(h:(a.map some).Perm (b.map some)):a.Perm b:=by
 have:=h.map (fun o:Option Int=>o.getD 0);rw[ea6,ea6] at this
 have e:∀l:List Int,l.map ((fun o:Option Int=>o.getD 0)∘some)=l:=fun l=>by
   conv=>rhs;rw[<-eh8 l]
   rfl
 rw[e,e] at this;exact this
theorem cf1 {fs ts qs:List Int}(ht:G2 ts)(hl:fs.length=ts.length)(h:ts.map (G5 fs)=qs.map some):fs.Perm qs:=by
 refine cl1 ?_;have h1:=ht.perm.map (G5 fs);rw[<-hl,at7,h] at h1;exact h1.symm
end Mth
namespace L2
open PySem PySem.Spec PyProof.Rows
theorem ag7.of {X:Cx}{N:List Str}{nl:Nat}{fr:List Nat}{scope:Scope}(h1:(scope.names.all fun y=>y.2 != .cell)=true:=by rfl)(h2:scope.kind= .function:=by rfl)
   (h3:(scope.names.all fun y=>y.2 != .local||scope.names.lookup y.1==some .local)=true:=by rfl)
   (h4:(scope.names.all fun p=>p.2 != .free||(X.env.kindOf p.1==some .cell||X.env.kindOf p.1==some .free))=true:=by rfl) (h5:N.length=nl+fr.length:=by rfl)
   (h6:((eb8 fr.length).all fun k=>match fr[k]? with
     |some j=>(match N[nl+k]?,X.N[j]? with
      |some y,some z=>y==z&&(X.env.scope.names.lookup y==some .local||X.env.scope.names.lookup y==some .cell||X.env.scope.names.lookup y==some .free)&&scope.names.lookup y==some .free
      |_,_=>false)
     |none=>false)=true:=by rfl):ag7 X N nl fr scope where
 cell:=fun y hy e=>by
   have:=ec7.mp h1 y hy;rw[e] at this;exact absurd this (by decide)
 kind:=h2
 names:=fun y hy e=>by
   have:=ec7.mp h3 y hy;rw[e] at this
   have q:(scope.names.lookup y.1==some NameKind.local)=true:=by simpa using this
   exact eq_of_beq q
 free:=fun p hp e=>by
   have:=ec7.mp h4 p hp;rw[e] at this
   have q:(X.env.kindOf p.1==some NameKind.cell||X.env.kindOf p.1==some NameKind.free)=true:=by simpa using this
   rcases ej2 _ _|>.mp q with z|z
   · exact .inl (eq_of_beq z)
   · exact .inr (eq_of_beq z)
 len:=h5
 fr:=fun k j e=>by
   have hk:k < fr.length:=(dt9.mp e).1;have:=ec7.mp h6 k (eb2.mpr hk);rw[e] at this
   dsimp only at this
   cases e1:N[nl+k]? with
   |none=>rw[e1] at this;cases this
   |some y=>
    cases e2:X.N[j]? with
    |none=>rw[e1,e2] at this;cases this
    |some z=>
     rw[e1,e2] at this
     dsimp only at this
     rw[dy6,dy6] at this;obtain ⟨⟨q1,q2⟩,q3⟩:=this;have hyz:y=z:=eq_of_beq q1;subst hyz;refine ⟨y,rfl,rfl,?_,eq_of_beq q3⟩;rw[ej2,ej2] at q2
     rcases q2 with (q|q)|q
     · exact .inl (eq_of_beq q)
     · exact .inr (.inl (eq_of_beq q))
     · exact .inr (.inr (eq_of_beq q))
def S7 (l:List Int):List (C9×V):=l.map fun n=>((Sum.inl n:C9),V.bl true)
theorem ba5 {l:List Int}{n:Int}(h:n∈l):X6 (S7 l) (Sum.inl n:C9)=some (.bl true):=by
 induction l with
 |nil=>simp at h
 |cons a r ih=>
  show X6 (((Sum.inl a:C9),V.bl true)::S7 r) _=_
  by_cases e:a=n
  · rw[ao0 (by rw[e])]
  · rw[ag4 (fun z=>e (Sum.inl.inj z))];exact ih ((dw1.mp h).resolve_left fun z=>e z.symm)
theorem ao4 {l:List Int}{n:Int}(h:n∉l):X6 (S7 l) (Sum.inl n:C9)=none:=by
 induction l with
 |nil=>rfl
 |cons a r ih=>
  show X6 (((Sum.inl a:C9),V.bl true)::S7 r) _=_;rw[ag4 (fun z=>h (by rw[Sum.inl.inj z];exact dt6))]
  exact ih fun z=>h (dt8 _ z)
theorem at8 {l:List Int}{n:Int}(h:n∉l):Z3 (S7 l) (Sum.inl n:C9) (V.bl true)=S7 (l++[n]):=by
 rw[cs7 _ (ao4 h)];unfold S7;rw[du6];rfl
theorem Q5 {ns:List Int}{i:Nat}{y:V}(h:(ns.map V.int)[i]? =some y):∃z,ns[i]? =some z/\y= .int z:=by
 rw[du7] at h
 cases e:ns[i]? with
 |none=>rw[e] at h;cases h
 |some z=>rw[e] at h;exact ⟨z,rfl,(Option.some.inj h).symm⟩
theorem w5 {α:Type}{l:List α}{i:Nat}{x:α}(h:l[i]? =some x):l.take (i+1)=l.take i++[x]:=by
 rw[List.take_add_one,h];rfl
end L2
namespace Mth
theorem af7 {p:List Int}{i:Int}(h0:0<=i)(h1:i < p.length):L2.Y0 (p.map L2.V.int) i=some (.int (p.getD i.toNat 0)):=by
 obtain ⟨j,rfl⟩:=dw4 h0;refine L2.o8 ?_
 have hj:j < p.length:=by omega
 rw[du7,dt5 hj];show some (L2.V.int p[j])=_;rw[dy7];rw[dv6,dt5 hj];rfl
end Mth
namespace L2
open PySem PySem.Spec PyProof.Rows
theorem aa5 (K:PySem.W.Frag)(H:Hp)(n:Nat)(xs:List V):LEq K H n xs [] xs.isEmpty:=by
 cases xs with
 |nil=>exact .inr ⟨fun _=>true,rfl,fun j x y e=>by simp at e,rfl⟩
 |cons x r=>exact .inl ⟨by simp,rfl⟩
section
variable {X:Cx} {p pos apos:Pos} {e o:Expr} {es:List Expr} {t:TA} {to:TE}
theorem S6 (ho:PE X o to)(ha:PA X [e] t)
   (hbase:attributeBase o "append" X.env (eval o X.env)=eval o X.env:=by rfl)
   (hfew:((backTo pos (starEach [e] X.env)).all (fun x=> !x.1)&&(backToKw pos (keywordEach [] X.env)).all (fun x=>x.1.isSome)
     &&decide ([e].length+([]:List Keyword).length+(if ([]:List Keyword).isEmpty then 0 else 1) < 30))=true:=by rfl)
   (hline:(apos.endLine==pos.line)=true:=by rfl) (hs:starEach [e] X.env=(false,eval e X.env)::starEach [] X.env:=by rfl) (hplain:(backTo pos (starEach [] X.env)).any (·.1)=false:=by rfl):
   PE X (.Call (.Attribute o "append" apos) [e] [] pos) (tBM X.K "list" ca1 to t):=
 an9 PySem.F.plainAttrs_list PySem.F.slot_list_append PySem.F.type_list_append cj8 ho ha hbase hfew hline hs hplain
theorem ct4 (ho:PE X o to)(ha:PA X [e] t)
   (hbase:attributeBase o "pop" X.env (eval o X.env)=eval o X.env:=by rfl)
   (hfew:((backTo pos (starEach [e] X.env)).all (fun x=> !x.1)&&(backToKw pos (keywordEach [] X.env)).all (fun x=>x.1.isSome)
     &&decide ([e].length+([]:List Keyword).length+(if ([]:List Keyword).isEmpty then 0 else 1) < 30))=true:=by rfl)
   (hline:(apos.endLine==pos.line)=true:=by rfl) (hs:starEach [e] X.env=(false,eval e X.env)::starEach [] X.env:=by rfl) (hplain:(backTo pos (starEach [] X.env)).any (·.1)=false:=by rfl):
   PE X (.Call (.Attribute o "pop" apos) [e] [] pos) (tBM X.K "list" bq9 to t):=
 an9 PySem.F.plainAttrs_list PySem.F.slot_list_pop PySem.F.type_list_pop br0 ho ha hbase hfew hline hs hplain
theorem cl2 (hm:X.mg "list"=none)(ha:PA X [e] t)(hg:Gl X "list":=by rfl)(he:starEach [e] X.env=(false,eval e X.env)::starEach [] X.env:=by rfl):
   PE X (.Call (.Name "list" p) [e] [] pos) (X4 (fun xs H Q=>∃p ys,xs=[.ref p]/\(j7 X.K H p ys\/SqT X.K H p ys)/\∀l,H l=none->Q (.ref l) (i8 H l (.lst ys))) t):=
 Q3 bq7 hg hm ao3 ha (by decide) (by decide) he rfl
theorem ao5 {p2 pos2:Pos}(hc:X.calm=true)(hm:X.mg "list"=none)(hm2:X.mg "range"=none)(ha:PA X [e] t)(hg:Gl X "list":=by rfl)(hg2:Gl X "range":=by rfl)(he:starEach [e] X.env=(false,eval e X.env)::starEach [] X.env:=by rfl)
   (he2:starEach [.Call (.Name "range" p2) [e] [] pos2] X.env=(false,eval (.Call (.Name "range" p2) [e] [] pos2) X.env)::starEach [] X.env:=by rfl):
   PE X (.Call (.Name "list" p) [.Call (.Name "range" p2) [e] [] pos2] [] pos) (X4 (fun xs H Q=>∃p lo hi,xs=[.ref p]/\H p=some (.rng lo hi)/\(-(2^62)<=lo/\lo < 2^62/\ -(2^62)<=hi/\hi < 2^62)/\(hi - lo).toNat<=2^20/\
   ∀l,H l=none->Q (.ref l) (i8 H l (.lst ((M0 lo (hi - lo).toNat).map V.int)))) (cy5 (X4 (fun xs H Q=>∃j,xs=[.int j]/\∀p,H p=none->Q (.ref p) (i8 H p (.rng 0 j))) t) df7)):=
 Q3 (bm4 hc) hg hm ao3 (c9 (Q3 bx8 hg2 hm2 bx9 ha (by decide) (by decide) he rfl) i4 he2) (by decide) (by decide) he2 rfl
theorem cl3 (hc:X.calm=true)(hm:X.mg "sum"=none)(ha:PA X [e] t)(hg:Gl X "sum":=by rfl)(he:starEach [e] X.env=(false,eval e X.env)::starEach [] X.env:=by rfl):
   PE X (.Call (.Name "sum" p) [e] [] pos) (X4 (fun xs H Q=>∃(p:Addr) (ns:List Int),xs=[.ref p]/\j7 X.K H p (ns.map V.int)/\Q (.int ns.sum) H) t):=
 N3 (ck6 hc) hg hm ck9 ha (by decide) (by decide) he rfl
theorem ca6 {a b:Expr}(hc:X.calm=true)(hm:X.mg "min"=none)(ha:PA X [a,b] t)(hg:Gl X "min":=by rfl)(he:starEach [a,b] X.env=(false,eval a X.env)::starEach [b] X.env:=by rfl)(hpl:(backTo pos (starEach [b] X.env)).any (·.1)=false:=by rfl):
   PE X (.Call (.Name "min" p) [a,b] [] pos) (X4 (fun xs H Q=>∃i j,xs=[.int i,.int j]/\Q (.int (if j < i then j else i)) H) t):=
 N3 (cj2 hc) hg hm bk3 ha (by decide) (by decide) he hpl
theorem db0 {a b:Expr}(hc:X.calm=true)(hm:X.mg "max"=none)(ha:PA X [a,b] t)(hg:Gl X "max":=by rfl)(he:starEach [a,b] X.env=(false,eval a X.env)::starEach [b] X.env:=by rfl)(hpl:(backTo pos (starEach [b] X.env)).any (·.1)=false:=by rfl):
   PE X (.Call (.Name "max" p) [a,b] [] pos) (X4 (fun xs H Q=>∃i j,xs=[.int i,.int j]/\Q (.int (if j > i then j else i)) H) t):=
 N3 (cj1 hc) hg hm cl0 ha (by decide) (by decide) he hpl
end
end L2
namespace Mth
theorem bd7 {α:Type}:∀{l:List α} {k:Nat} {y:α},l[k]? =some y->(y::l.eraseIdx k).Perm l
 |[],k,y,h=>by simp at h
 |a::r,0,y,h=>by
  simp at h;subst h;exact List.Perm.refl _
 |a::r,k+1,y,h=>by
  have h':r[k]? =some y:=by simpa using h
  have ih:=bd7 h';show (y::a::r.eraseIdx k).Perm (a::r);exact (List.Perm.swap a y _).trans (ih.cons a)
end Mth
namespace L2
open PySem PySem.Spec PyProof.Rows
def dl8 (K:PySem.W.Frag)(ta:TA):TE:=X4 (fun xs H Q=>∃p ys,xs=[.ref p]/\(j7 K H p ys\/SqT K H p ys)/\Q (.int ys.length) H) ta
section
variable {X:Cx} {p pos:Pos} {e:Expr} {t:TA}
theorem ct5 (K:PySem.W.Frag)(hm:X.mg "len"=none)(ha:PA X [e] t)(hK:X.K=K:=by rfl)(hg:Gl X "len":=by rfl)
   (he:starEach [e] X.env=(false,eval e X.env)::starEach [] X.env:=by rfl):PE X (.Call (.Name "len" p) [e] [] pos) (dl8 K t):=by
 subst hK;exact A6 hm ha hg he
end
def cy9:V->Int
 | .int i=>i
 |_=>0
end L2
namespace Mth
theorem am1 {fs:List Int}{u v x:Int}(hu:0<=u)(hv:0<=v)(h:u≠v):G5 (fs.set v.toNat x) u=G5 fs u:=by
 unfold G5;rw[ed3 (by omega)]
theorem ba6 {fs:List Int}{v x:Int}(h:v.toNat < fs.length):G5 (fs.set v.toNat x) v=some x:=by
 unfold G5;rw[ec6 h]
theorem G9 {ts:List Int}{i:Nat}(h:i < ts.length):ts.getD i 0=ts[i]:=by
 rw[dv6,dt5 h];rfl
theorem Z5 {ts:List Int}(nd:ts.Nodup){i j:Nat}(hi:i < ts.length)(hj:j < ts.length)(h:i≠j):ts.getD i 0≠ts.getD j 0:=by
 rw[G9 hi,G9 hj]
 rcases Nat.lt_or_gt_of_ne h with z|z
 · exact dx0.mp (dx4.mp nd) i j hi hj z
 · exact fun e=>dx0.mp (dx4.mp nd) j i hj hi z e.symm
theorem ct6 {ts fs qs:List Int}{k L:Nat}(hL:1<=L)(hb:k+L<=ts.length)(h1:(ts.take k).map (G5 fs)=qs.map some)(hq:qs.Perm (ts.take k))
   (h2:∀j,j < L->G5 fs (ts.getD (k+j) 0)=some (ts.getD (k+(j+1)%L) 0)):∃qs':List Int,qs'.Perm (ts.take (k+L))/\(ts.take (k+L)).map (G5 fs)=qs'.map some:=by
 have hT:((ts.drop k).take L).length=L:=by rw[du5,dv1];omega
 have hTj:∀j,j < L->((ts.drop k).take L)[j]? =some (ts.getD (k+j) 0):=fun j hj=>by
   rw[dy3 hj,ee4,G9 (by omega),dt5 (by omega)]
 have e:((ts.drop k).take L).map (G5 fs)=(((ts.drop k).take L).drop 1++((ts.drop k).take L).take 1).map some:=by
   refine dy8 fun j=> ?_
   by_cases hj:j < L
   · rw[du7,hTj j hj,du7];show some (G5 fs (ts.getD (k+j) 0))=_;rw[h2 j hj]
     by_cases hj1:j+1 < L
     · rw[dx9 (by rw[dv1,hT];omega),ee4,ei5 1 j,hTj (j+1) hj1,dw0 hj1];rfl
     · have hjL:j+1=L:=by omega
       rw[dw5 (by rw[dv1,hT];omega),dv1,hT,hjL,eh1]
       have:j - (L - 1)=0:=by omega
       rw[this,dy3 (by omega),hTj 0 (by omega)];rfl
   · rw[dv2 (by rw[dt3,hT];omega),dv2];rw[dt3,dt4,dv1,du5 (i:=1),hT];omega
 refine ⟨qs++(((ts.drop k).take L).drop 1++((ts.drop k).take L).take 1),?_,?_⟩
 · rw[List.take_add];refine List.Perm.append hq ?_;refine eb7.trans ?_;rw[dz5]
 · rw[List.take_add,du6,du6,h1,e]
end Mth
namespace L2
open PySem PySem.Spec PyProof.Rows
theorem r9.free {a l:Addr}{H H':Hp}(k:r9 a H H')(h:H' l=none)(n:l≠a):H l=none:=by
 cases e:H l with
 |none=>rfl
 |some o=>have:=k l o e n;rw[h] at this;cases this
theorem i6.kb {a:Addr}{H H1 H2:Hp}(s:i6 H H1)(k:r9 a H1 H2)(h:H a=none):i6 H H2:=fun b o e=>k b o (s b o e) (j9 e h)
def E2 (H:Hp)(as:List Addr)(rs:List (List Int)):Prop:=as.length=rs.length/\∀(j:Nat) a r,as[j]? =some a->rs[j]? =some r->H a=some (.lst (r.map V.int))
theorem ay8 {a b:List Int}(h:a.map V.int=b.map V.int):a=b:=(eh5 (fun x y (h:V.int x=V.int y)=>V.int.inj h)).mp h
theorem cl4 {K:PySem.W.Frag}{H:Hp}{as bs:List Addr}{rs qs:List (List Int)}(ha:E2 H as rs)(hb:E2 H bs qs):LEq K H 1 (as.map V.ref) (bs.map V.ref) (decide (rs=qs)):=by
 by_cases hl:as.length=bs.length
 · refine .inr ⟨fun j=>decide (rs[j]? =qs[j]?),by simpa using hl,fun j x y e1 e2=> ?_,?_⟩
   · rw[du7] at e1 e2
     cases h1:as[j]? with
     |none=>rw[h1] at e1;cases e1
     |some a=>
      cases h2:bs[j]? with
      |none=>rw[h2] at e2;cases e2
      |some b=>
       rw[h1] at e1;rw[h2] at e2;cases e1;cases e2;have j1:j < as.length:=(dt9.mp h1).1;have k1:rs[j]? =some (rs[j]'(by rw[<-ha.1];exact j1)):=dt5 _;have k2:qs[j]? =some (qs[j]'(by rw[<-hb.1,<-hl];exact j1)):=dt5 _;have q1:=ha.2 j a _ h1 k1;have q2:=hb.2 j b _ h2 k2;show EqD K H 1 _ _ (decide (rs[j]? =qs[j]?));rw[k1,k2];generalize (rs[j]'(by rw[<-ha.1];exact j1))=r at q1 ⊢;generalize (qs[j]'(by rw[<-hb.1,<-hl];exact j1))=q at q2 ⊢
       by_cases hab:a=b
       · subst hab;rw[q1] at q2;have e':r=q:=ay8 (HO.lst.inj (Option.some.inj q2));rw[e',decide_eq_true rfl];exact .same a
       · rcases br2 K H 0 r q with ⟨h3,h4⟩|⟨e,h3,h4,h5⟩
         · have:=EqD.lens (n:=0) hab (j7.of (K:=K) q1) (j7.of q2) h3
           rw[decide_eq_false (fun z=>by
             have z':r=q:=Option.some.inj z
             exact h3 (by rw[z']))]
           exact this
         · have:=EqD.lists (n:=0) e hab (j7.of (K:=K) q1) (j7.of q2) h3 h4;rw[<-h5] at this
           have e6:decide (r=q)=decide (some r=some q):=by
             by_cases z:r=q
             · subst z;simp
             · rw[decide_eq_false z,decide_eq_false fun w=>z (Option.some.inj w)]
           rw[<-e6];exact this
   · rw[ee6,decide_eq_true_iff,ar3];constructor
     · intro h j _;subst h;simp
     · intro h
       refine dy8 fun j=> ?_
       by_cases hj:j < rs.length
       · exact of_decide_eq_true (h j (by rw[dt3,ha.1];exact hj))
       · rw[dv2 (by omega),dv2 (by rw[<-hb.1,<-hl,ha.1];omega)]
 · refine .inl ⟨by simpa using hl,?_⟩
   exact decide_eq_false fun h=>hl (by rw[ha.1,hb.1,h])
theorem aa6 (lo:Int)(n:Nat):(M0 lo n).length=n:=by
 unfold M0;rw[dt3,eb9]
theorem ag9 {p:List Int}{j:Nat}(h:j < p.length):Y0 (p.map V.int) ((0:Int)+(j:Int))=some (.int (p.getD j 0)):=by
 have e:(0:Int)+(j:Int)=((j:Nat):Int):=by omega
 rw[e];refine o8 ?_;rw[du7,dt5 h,dv6,dt5 h];rfl
end L2
namespace Mth
theorem ct7 {p:List Int}(t:G2 p){j:Nat}(h:j < p.length):0<=p.getD j 0/\p.getD j 0 < p.length:=by
 rw[G9 h];exact ⟨t.lo _ (dx8 h),t.hi _ (dx8 h)⟩
end Mth
namespace L2
open PySem PySem.Spec PyProof.Rows
def Ite (K:PySem.W.Frag)(a:Addr):It:=
 ⟨fun i H=>∃xs x,j7 K H a xs/\xs[i]? =some x,fun i H v H'=>∃x t,(∀xs,j7 K H a xs->xs[i]? =some x)/\H t=none/\v= .ref t/\H'=i8 H t (.tup [.int (i:Int),x]),fun i H=>∃xs,j7 K H a xs/\xs.length<=i⟩
theorem cl6 {P:Program}{w:World}{K:PySem.W.Frag}{elts:List Expr}{x1}{pos:Pos}(a e it:Addr)(hne:e≠it):
   bp9 P w K (.Tuple elts x1 pos) (Ite K a) [e,it] e (fun i h=>(∃old,IsEnum h e it i old)/\h.IsListIter it a i) where
 mem:=by simp
 obj:=fun i h st b hb=>by
   obtain ⟨⟨old,he⟩,⟨o,ho,c,d⟩⟩:=st
   have hb:b=e\/b=it:=by simpa using hb
   rcases hb with rfl|rfl
   · exact ⟨_,he,fun v z=>by cases z⟩
   · exact ⟨o,ho,fun v z=>by rw[d] at z;cases z⟩
 keep:=fun i h h' st k=>⟨let ⟨old,he⟩:=st.1;⟨old,k e (by simp) _ he⟩,st.2.at fun o q=>k it (by simp) o q⟩
 item:=by
   intro X hP hw hK hc i pins s σ H E I hf st hg;subst hP hw hK;obtain ⟨⟨old,he⟩,hit⟩:=st;obtain ⟨xs,x,hq,hx⟩:=hg;obtain ⟨its,rv,p,hz⟩:=I.list hq;obtain ⟨u,hu,ru⟩:=rv.get hx;obtain ⟨f0,f1,f2,f3,f4,f5⟩:=hf e (by simp);obtain ⟨g0,g1,g2,g3,g4,g5⟩:=hf it (by simp)
   refine wpAny_pyNext_enum_item he hit p.isList (x:=u) (by simpa using hu) hne fun h' he' hit' ht' hz' hk'=> ?_
   refine ⟨_,rfl,wpAny_letOwnedTupleGo_enum he' fun h2 he2 hs2=> ?_⟩;have hs2:Heap.SameBut e h' h2:=hs2;have eT:e≠s.heap.objs.size:=dx1 (Heap.lt_size he);have ht2:h2.get? s.heap.objs.size=some {cls:= .type "tuple",data:= .seq #[.int i s.toks,u]}:=hs2.extBut _ _ eT.symm ht'
   have kk:∀b o,b≠e->b≠it->s.heap.get? b=some o->h2.get? b=some o:=fun b o b1 b2 q=>hs2.extBut b o b1 (hk' b o b1 b2 q)
   have hn:H s.heap.objs.size=none:=I.hok.fresh (dt7 _)
   have nT:∀b u',H b=some u'->b≠s.heap.objs.size:=fun b u' q=>j9 q hn
   have ne:∀b u',H b=some u'->b≠e/\b≠it:=fun b u' q=>⟨fun z=>(by rw[z,f0] at q;cases q),fun z=>(by rw[z,g0] at q;cases q)⟩
   have I1:j5 X pins σ (i8 H s.heap.objs.size (.tup [.int (i:Int),x])) {s with heap:=h2,gens:=s.gens,drawn:=s.drawn,toks:=s.toks+1}:=by
     refine I.step (ch:=[e,it]) (fun b hb=> ?_) (fun b o _ _ hc q _=>kk b o (fun z=>hc (by simp [z])) (fun z=>hc (by simp [z])) q) (fun b o _ _ hc q _=>⟨o.slots,kk b o (fun z=>hc (by simp [z])) (fun z=>hc (by simp [z])) q⟩)
       (fun b o hc q n=>by rw[j8 (dx1 (Heap.lt_size q))];exact n) (fun b o hc q=>⟨o,kk b o (fun z=>hc (by simp [z])) (fun z=>hc (by simp [z])) q⟩)
       (fun b ys q=>by rw[j8 (nT b _ q)];exact q) (fun b o ys q=>by rw[j8 (nT b _ q)];exact q) (fun b ps q=>⟨#[],by rw[j8 (nT b _ q),q];simp⟩) (fun m hm=> ?_) (fun b u' q=> ?_) I.bare
     · have hb:b=e\/b=it:=by simpa using hb
       rcases hb with rfl|rfl
       · exact ⟨f3,f1,f4,f5⟩
       · exact ⟨g3,g1,g4,g5⟩
     · obtain ⟨o,es,ep,ho,r⟩:=hm;exact ⟨o,es,ep,kk _ o (Ne.symm f1) (Ne.symm g1) ho,r⟩
     · by_cases hb:b=s.heap.objs.size
       · subst hb;rw[j6] at q;cases q;exact ⟨by show 2<=sizeLine;decide,[.int i s.toks,u],.cons ⟨_,rfl⟩ (.cons ru .nil),⟨_,ht2,rfl,0,rfl⟩⟩
       · rw[j8 hb] at q
         refine (I.hok b u' q).stay (fun c v hc q'=> ?_) (fun c q'=>by rw[j8 (nT c _ q')];exact q') fun c ys q'=>by rw[j8 (nT c _ q')];exact q'
         rcases hc with z|z
         · rw[z] at q' ⊢;exact kk b v (ne b _ q).1 (ne b _ q).2 q'
         · exact kk c v (ne c _ z).1 (ne c _ z).2 q'
   refine ⟨.ref s.heap.objs.size,_,I1,rfl,⟨x,s.heap.objs.size,fun ys hy=>by rw[I.list_inj hy hq];exact hx,hn,rfl,rfl⟩,⟨⟨u,?_⟩,?_⟩,fun b hb=> ?_⟩
   · have:((i+1:Nat):Int)=(i:Int)+1:=by push_cast;rfl
     rw[this];exact he2
   · exact hit'.extBut hs2.extBut hne.symm
   · have hb:b=e\/b=it:=by simpa using hb
     rcases hb with rfl|rfl
     · rw[j8 eT];exact f0
     · obtain ⟨o,ho,_⟩:=hit;rw[j8 (dx1 (Heap.lt_size ho))];exact g0
 done:=by
   intro X hP hw hK hc i pins s σ H E I hf st hg;subst hP hw hK;obtain ⟨⟨old,he⟩,hit⟩:=st;obtain ⟨xs,hq,hx⟩:=hg;obtain ⟨its,rv,p,hz⟩:=I.list hq;obtain ⟨g0,g1,g2,g3,g4,g5⟩:=hf it (by simp);have hl:=rv.length
   exact wpAny_pyNext_enum_end (I.ok.hd hc) he hit p.isList (by simp;omega) fun h' eb=>⟨rfl,I.turned (t':=s.toks) (fun b o hb q=>eb b o hb q) g0 g1 g3 g4 g5⟩
 self:=fun _ _ _ _ _ st h=>let ⟨_,he⟩:=st.1;wpAny_pyIter_enum he h
theorem cl7:bootBuiltins "enumerate"=some (.type "enumerate"):=by decide+kernel
section
variable {X:Cx} {l:Expr} {ta:TA} {p pos:Pos} {elts:List Expr} {x1:Nat} {tpos:Pos}
def dl9 (K:PySem.W.Frag)(ta:TA):TI:=fun σ H R=>ta σ H fun vs H1=>∃a,vs=[.ref a]/\(∃xs,j7 K H1 a xs)/\R (Ite K a) H1
theorem db1 (hm:X.mg "enumerate"=none)(ha:PA X [l] ta)(hg:Gl X "enumerate":=by rfl)(hs:starEach [l] X.env=[(false,eval l X.env)]:=by rfl):PI X (.Tuple elts x1 tpos) (.Call (.Name "enumerate" p) [l] [] pos) (dl9 X.K ta):=by
 intro pins s σ H R I h;refine Call_ (as3 I hg hm cl7 (PyProof.Rows.callWith_type1 (A3 (ha pos pins s σ H _ I h) fun us s1 ⟨vs,H1,I1,r1,q1⟩=> ?_) hs rfl));obtain ⟨a,e,⟨xs,hq⟩,q⟩:=q1;subst e;obtain ⟨u,rfl,rx⟩:=P6 r1;cases rx;obtain ⟨its,rv,pl,hz⟩:=I1.list hq
 refine call_enumerate_list pl.isList fun h' he hit hz' hk=> ?_
 refine wpAny_pyIter_enum he ?_;have I2:j5 X pins σ H1 {s1 with heap:=h',toks:=s1.toks}:=I1.kept (t':=s1.toks) hk;refine ⟨s1.heap.objs.size+1,[s1.heap.objs.size+1,s1.heap.objs.size],_,_,H1,rfl,I2,cl6 a (s1.heap.objs.size+1) s1.heap.objs.size (Nat.succ_ne_self _),⟨⟨.none,he⟩,hit⟩,fun b hb=> ?_,q⟩
 have hb:b=s1.heap.objs.size+1\/b=s1.heap.objs.size:=by simpa using hb
 rcases hb with rfl|rfl
 · exact I1.fpOk (by omega) (I1.hok.fresh (by omega))
 · exact I1.fpOk (by omega) (I1.hok.fresh (by omega))
end
theorem ct8 {K:PySem.W.Frag}{a:Addr}{xs:List V}{g:TG}{tb:TS}{D:ad1}{σ:St}{H:Hp}(Pv:Nat->St->Hp->Prop)(h0:Pv 0 σ H)(hl:∀i σ H,i<=xs.length->Pv i σ H->j7 K H a xs)
   (hs:∀i x σ H t,xs[i]? =some x->Pv i σ H->H t=none->g (.ref t) σ (i8 H t (.tup [.int (i:Int),x])) fun σ2 H2=>tb {D with nx:=Pv (i+1),ct:=Pv (i+1),bk:=D.nx} σ2 H2) (hd:∀σ H,Pv xs.length σ H->D.nx σ H):
   ∃W:Nat->Nat->St->Hp->Prop,(∃m,W 0 m σ H)/\∀i m σ H,W i m σ H->
    ((Ite K a).stop i H/\D.nx σ H)\/((Ite K a).go i H/\∃N:St->Hp->Prop,(∀σ' H',N σ' H'->∃m',m' < m/\W (i+1) m' σ' H')/\∀x H',(Ite K a).yld i H x H'->g x σ H' fun σ2 H2=>tb {D with nx:=N,ct:=N,bk:=D.nx} σ2 H2):=by
 refine ⟨fun i m σ H=>m=xs.length - i/\i<=xs.length/\Pv i σ H,⟨xs.length,by simp,dv5 _,h0⟩,?_⟩;rintro i m σ H ⟨rfl,hi,p⟩;have q:=hl i σ H hi p
 by_cases hlt:i < xs.length
 · refine .inr ⟨⟨xs,xs[i],q,by simp [hlt]⟩,Pv (i+1),fun σ' H' p'=>⟨xs.length - (i+1),by omega,rfl,hlt,p'⟩,fun x H' y=> ?_⟩;obtain ⟨x',t,y1,y2,e1,e2⟩:=y;subst e1 e2;exact hs i x' σ _ t (y1 xs q) p y2
 · have e:i=xs.length:=by omega
   subst e;exact .inl ⟨⟨xs,q,dt7 _⟩,hd σ H p⟩
end L2
namespace Mth
def nx (p:List Int)(x:Int):Int:=p.getD x.toNat 0
def it (p:List Int):Nat->Int->Int
 |0,x=>x
 |i+1,x=>nx p (it p i x)
def In (p:List Int)(x:Int):Prop:=0<=x/\x < p.length
theorem dm0 {p:List Int}(t:G2 p){x:Int}(h:In p x):In p (nx p x):=ct7 t (j:=x.toNat) (by have:=h.1;have:=h.2;omega)
theorem dh1 {p:List Int}(t:G2 p){x y:Int}(hx:In p x)(hy:In p y)(h:nx p x=nx p y):x=y:=by
 have a1:=hx.1;have a2:=hx.2;have b1:=hy.1;have b2:=hy.2
 by_cases e:x.toNat=y.toNat
 · omega
 · exact absurd h (Z5 t.nd (i:=x.toNat) (j:=y.toNat) (by omega) (by omega) e)
theorem ae6 {p:List Int}(t:G2 p){x:Int}(h:In p x):∀i,In p (it p i x)
 |0=>h
 |i+1=>dm0 t (ae6 t h i)
theorem Z6 (p:List Int)(x:Int):∀i j,it p (i+j) x=it p i (it p j x)
 |0,j=>by rw[ea0];rfl
 |i+1,j=>by
  rw[Nat.add_right_comm];show nx p (it p (i+j) x)=nx p (it p i (it p j x));rw[Z6 p x i j]
theorem br4 {p:List Int}(t:G2 p){x y:Int}(hx:In p x)(hy:In p y):∀i,it p i x=it p i y->x=y
 |0,h=>h
 |i+1,h=>br4 t hx hy i (dh1 t (ae6 t hx i) (ae6 t hy i) h)
structure Per (p:List Int)(x:Int)(L:Nat):Prop where
 pos:0 < L
 back:it p L x=x
 least:∀i,0 < i->i < L->it p i x≠x
theorem Per.uniq {p:List Int}{x:Int}{L M:Nat}(h:Per p x L)(g:Per p x M):L=M:=by
 rcases Nat.lt_trichotomy L M with z|z|z
 · exact absurd h.back (g.least L h.pos z)
 · exact z
 · exact absurd g.back (h.least M g.pos z)
theorem cl8 {p:List Int}{x:Int}{L:Nat}(h:it p L x=x):∀q,it p (L*q) x=x
 |0=>by rw[Nat.mul_zero];rfl
 |q+1=>by rw[Nat.mul_succ,Z6,h,cl8 h q]
theorem cl9 {p:List Int}{x:Int}{L:Nat}(h:it p L x=x)(i:Nat):it p (i%L) x=it p i x:=by
 conv=>rhs;rw[<-Nat.div_add_mod i L,ei5,Z6,cl8 h]
def A1 (p:List Int)(x:Int)(L:Nat):List Int:=(eb8 L).map fun i=>it p i x
theorem C8 (p:List Int)(x:Int)(L:Nat):(A1 p x L).length=L:=by unfold A1;rw[dt3,eb9]
theorem bk4 {p:List Int}{x:Int}{L j:Nat}(h:j < L):(A1 p x L)[j]? =some (it p j x):=by
 unfold A1;rw[du7,eh2 h];rfl
theorem S9 {p:List Int}{x:Int}{L j:Nat}(h:j < L):(A1 p x L).getD j 0=it p j x:=by
 rw[dv6,bk4 h];rfl
theorem O7 {p:List Int}{x y:Int}{L:Nat}:y∈A1 p x L↔∃j,j < L/\y=it p j x:=by
 unfold A1;rw[dv3];constructor
 · rintro ⟨j,hj,rfl⟩;exact ⟨j,eb2.mp hj,rfl⟩
 · rintro ⟨j,hj,rfl⟩;exact ⟨j,eb2.mpr hj,rfl⟩
theorem ao6 (p:List Int)(x:Int)(m:Nat):A1 p x (m+1)=A1 p x m++[it p m x]:=by
 unfold A1;rw[List.range_succ,du6];rfl
theorem ak5 {p:List Int}(t:G2 p){x:Int}(hx:In p x){m:Nat}(h:∀i,0 < i->i < m->it p i x≠x):(A1 p x m).Nodup:=by
 unfold A1;rw[dx4,ec0];refine List.Pairwise.imp_of_mem (fun {a b} ha hb hlt e=> ?_) List.pairwise_lt_range;have hb:=eb2.mp hb
 have e2:b=a+(b - a):=by omega
 rw[e2,Z6] at e;exact h (b - a) (by omega) (by omega) (br4 t (ae6 t hx _) hx a e.symm)
theorem cm0:∀(n:Nat) (l:List Nat),l.Nodup->(∀x∈l,x < n)->l.length<=n:=by
 intro n
 induction n with
 |zero=>
  intro l _ hb
  cases l with
  |nil=>exact dt7 _
  |cons a r=>exact absurd (hb a dt6) (Nat.not_lt_zero _)
 |succ n ih=>
  intro l nd hb
  by_cases hn:n∈l
  · obtain ⟨s,u,rfl⟩:=eh4 hn;have pm:(s++n::u).Perm (n::(s++u)):=List.perm_middle;obtain ⟨h1,h2⟩:=dz9.mp (pm.nodup_iff.mp nd)
    have:=ih (s++u) h2 fun x hx=>by
      have hx':=hb x (pm.mem_iff.mpr (dt8 _ hx))
      have:x≠n:=fun e=>h1 (e▸hx)
      omega
    rw[pm.length_eq,du9];omega
  · exact eb4 (ih l nd fun x hx=>by
      have h1:=hb x hx
      have:x≠n:=fun e=>hn (e▸hx)
      omega)
theorem P3 {p:List Int}{r:List Int}(nd:r.Nodup)(h:∀x∈r,In p x):r.length<=p.length:=by
 have:=cm0 p.length (r.map Int.toNat) (by
   rw[dx4,ec0];refine List.Pairwise.imp_of_mem (fun {a b} ha hb hne z=>hne ?_) (dx4.mp nd);have h1:=(h a ha).1;have h2:=(h b hb).1
   omega) fun x hx=>by
     obtain ⟨y,hy,rfl⟩:=dv3.mp hx;have h1:=(h y hy).1;have h2:=(h y hy).2;omega
 rw[dt3] at this;exact this
theorem ah0 {p:List Int}(t:G2 p){x:Int}(hx:In p x){L:Nat}:∀y∈A1 p x L,In p y:=fun y hy=>by
 obtain ⟨j,_,rfl⟩:=O7.mp hy;exact ae6 t hx j
theorem ae7 {p:List Int}(t:G2 p){x:Int}(hx:In p x){m:Nat}(h:∀i,0 < i->i < m->it p i x≠x):m<=p.length:=by
 have:=P3 (ak5 t hx h) (ah0 t hx);rw[C8] at this;exact this
theorem by1 {p:List Int}{x y:Int}{L:Nat}(h:Per p x L)(hy:y∈A1 p x L)(i:Nat):it p i y∈A1 p x L:=by
 obtain ⟨j,hj,rfl⟩:=O7.mp hy;refine O7.mpr ⟨(i+j)%L,ec4 _ h.pos,?_⟩;rw[cl9 h.back,Z6]
theorem bk5 {p:List Int}{x y z:Int}{L M:Nat}(h:Per p x L)(g:Per p y M)(h1:z∈A1 p x L)(h2:z∈A1 p y M):y∈A1 p x L:=by
 obtain ⟨j,hj,rfl⟩:=O7.mp h2;have:=by1 h h1 (M - j);rw[<-Z6,show M - j+j=M by omega,g.back] at this;exact this
open Classical in
noncomputable def ao7 (p:List Int)(x:Int):Nat:=if h:∃L,Per p x L then Classical.choose h else 0
theorem ao8 {p:List Int}{x:Int}{L:Nat}(h:Per p x L):ao7 p x=L:=by
 have hx:∃L,Per p x L:=⟨L,h⟩;unfold ao7;rw[dif_pos hx];exact (Classical.choose_spec hx).uniq h
noncomputable def A0 (p:List Int):Nat->List (List Int)
 |0=>[]
 |i+1=>if (i:Int)∈(A0 p i).flatten then A0 p i else A0 p i++[A1 p i (ao7 p i)]
structure E8 (p:List Int)(i:Nat)(rs:List (List Int)):Prop where
 ring:∀r∈rs,∃x L,In p x/\Per p x L/\r=A1 p x L/\(∀y∈r,x<=y)/\x < i
 nd:rs.flatten.Nodup
 all:∀u:Int,0<=u->u < i->u∈rs.flatten
 ord:rs.Pairwise fun r s=>r.getD 0 0 < s.getD 0 0
 eq:rs=A0 p i
theorem ao9 (p:List Int):E8 p 0 []:=⟨fun r hr=>by simp at hr,ed5,fun u h1 h2=>by omega,List.Pairwise.nil,rfl⟩
theorem ap0 {p:List Int}{i:Nat}{rs:List (List Int)}(h:E8 p i rs)(hi:(i:Int)∈rs.flatten):E8 p (i+1) rs:=by
 refine ⟨fun r hr=> ?_,h.nd,fun u h1 h2=> ?_,h.ord,?_⟩
 · obtain ⟨x,L,a,b,c,d,e⟩:=h.ring r hr;exact ⟨x,L,a,b,c,d,by omega⟩
 · by_cases e:u=i
   · subst e;exact hi
   · exact h.all u h1 (by omega)
 · show rs=if (i:Int)∈(A0 p i).flatten then A0 p i else A0 p i++[A1 p i (ao7 p i)]
   rw[<-h.eq,if_pos hi]
theorem ak6 {p:List Int}{i:Nat}{rs:List (List Int)}(h:E8 p i rs){L:Nat}(hL:Per p i L)(hi:(i:Int)∉rs.flatten):∀y∈A1 p i L,y∉rs.flatten:=by
 intro y hy hm;obtain ⟨r,hr,hyr⟩:=dx5.mp hm;obtain ⟨x,M,a,b,rfl,d,e⟩:=h.ring r hr;exact hi (dx5.mpr ⟨_,hr,bk5 b hL hyr hy⟩)
theorem ap1 {p:List Int}(t:G2 p){i:Nat}{rs:List (List Int)}(h:E8 p i rs)(hx:In p i){L:Nat}(hL:Per p i L)(hi:(i:Int)∉rs.flatten):E8 p (i+1) (rs++[A1 p i L]):=by
 have fr:=ak6 h hL hi;refine ⟨fun r hr=> ?_,?_,fun u h1 h2=> ?_,?_,?_⟩
 · rcases du1.mp hr with z|z
   · obtain ⟨x,L,a,b,c,d,e⟩:=h.ring r z;exact ⟨x,L,a,b,c,d,by omega⟩
   · have:r=A1 p i L:=by simpa using z
     subst this;refine ⟨i,L,hx,hL,rfl,fun y hy=> ?_,by omega⟩;have y0:=(ah0 t hx y hy).1
     by_cases hlt:y < i
     · exact absurd (h.all y y0 hlt) (fr y hy)
     · omega
 · rw[dx6,dy1];refine dz7.mpr ⟨h.nd,ak5 t hx fun j j0 j1=>hL.least j j0 j1,fun a ha b hb e=> ?_⟩;subst e;exact fr a hb ha
 · rw[dx6,dy1]
   by_cases e:u=i
   · subst e;exact du0 _ (O7.mpr ⟨0,hL.pos,rfl⟩)
   · exact dw8 _ (h.all u h1 (by omega))
 · refine List.pairwise_append.mpr ⟨h.ord,ee0 _ _,fun r hr s hs=> ?_⟩
   have:s=A1 p i L:=by simpa using hs
   subst this;obtain ⟨x,M,a,b,rfl,d,e⟩:=h.ring r hr;rw[S9 b.pos,S9 hL.pos];exact e
 · show rs++[A1 p i L]=if (i:Int)∈(A0 p i).flatten then A0 p i else A0 p i++[A1 p i (ao7 p i)]
   rw[<-h.eq,if_neg hi,ao8 hL]
end Mth
namespace Mth
theorem cm1 {p:List Int}{x:Int}(h:In p x):G5 p x=some (nx p x):=by
 have a1:=h.1;have a2:=h.2;unfold G5 nx;rw[dv6,dt5 (by omega)];rfl
end Mth
namespace L2
open PySem PySem.Spec PyProof.Rows
def dm1 (i j:Int):Prop:=0 < j/\j<=1000000000000000000000000000000
theorem br5 {X:Cx}:S5 X (binaryOp .FloorDiv) (rI dm1 fun i j=> .int (i/j)):=opI fun i j _ _ _ _ _ hc q=>by
 have hp:Builtin.divisionGoesByPylong i j=false:=by
   refine PyProof.noPylong_of_log2 ?_;obtain ⟨h1,h2⟩:=hc;have:j.natAbs < 2^9000:=ea1 (show j.natAbs<=1000000000000000000000000000000 by omega) (by decide+kernel);exact (ej3 (by omega)).mpr this
 refine floordiv_int (by have:=hc.1;omega) ?_ (.inl hp);rw[Int.fdiv_eq_ediv_of_nonneg i (by have:=hc.1;omega)];exact q
end L2
namespace Mth
theorem br6 {p:List Int}(t:G2 p){x:Int}(hx:In p x):∃L,Per p x L:=by
 have h0:∃i,0 < i/\i<=p.length/\it p i x=x:=Classical.byContradiction fun hn=>by
   have:=ae7 t hx (m:=p.length+1) fun i i0 i1 e=>hn ⟨i,i0,by omega,e⟩
   omega
 have key:∀n,(∃i,0 < i/\i<=n/\it p i x=x)->∃L,Per p x L:=by
   intro n
   induction n with
   |zero=>rintro ⟨i,i0,i1,_⟩;omega
   |succ n ih=>
    rintro ⟨i,i0,i1,e⟩
    by_cases h:∃j,0 < j/\j<=n/\it p j x=x
    · exact ih h
    · refine ⟨i,i0,e,fun j j0 j1 ej=>h ⟨j,j0,by omega,ej⟩⟩
 exact key _ h0
theorem dh2 {n:Nat}{s t:List Int}(hs:s.length=n)(ht:t.length=n)(h:∀x:Int,0<=x->x < n->nx s x=nx t x):s=t:=by
 refine dy8 fun u=> ?_
 by_cases hu:u < n
 · have:=h u (by omega) (by omega);unfold nx at this;rw[dy7,G9 (by omega),G9 (by omega)] at this;rw[dt5 (by omega),dt5 (by omega),this]
 · rw[dv2 (by omega),dv2 (by omega)]
end Mth
namespace L2
open PySem PySem.Spec PyProof.Rows
section
variable {X:Cx} {e:Expr} {t:TA} {p pos:Pos}
theorem db2 (hc:X.calm=true)(hm:X.mg "min"=none)(ha:PA X [e] t)(hg:Gl X "min":=by rfl)(he:starEach [e] X.env=(false,eval e X.env)::starEach [] X.env:=by rfl):
   PE X (.Call (.Name "min" p) [e] [] pos) (X4 (fun xs H Q=>∃(p:Addr) (ns:List Int),xs=[.ref p]/\j7 X.K H p (ns.map V.int)/\ns≠[]/\∀m,m∈ns->(∀x∈ns,m<=x)->Q (.int m) H) t):=
 N3 (ck7 hc) hg hm bk3 ha (by decide) (by decide) he rfl
end
end L2
namespace L2
open PySem PySem.Spec PyProof.Rows
section
variable {X:Cx} {o e:Expr} {to:TE} {t:TA} {apos pos p:Pos}
theorem bk6 (ho:PE X o to)(ha:PA X [e] t)
   (hbase:attributeBase o "extend" X.env (eval o X.env)=eval o X.env:=by rfl)
   (hfew:((backTo pos (starEach [e] X.env)).all (fun x=> !x.1)&&(backToKw pos (keywordEach [] X.env)).all (fun x=>x.1.isSome)
     &&decide ([e].length+([]:List Keyword).length+(if ([]:List Keyword).isEmpty then 0 else 1) < 30))=true:=by rfl)
   (hline:(apos.endLine==pos.line)=true:=by rfl) (hs:starEach [e] X.env=(false,eval e X.env)::starEach [] X.env:=by rfl) (hplain:(backTo pos (starEach [] X.env)).any (·.1)=false:=by rfl):
   PE X (.Call (.Attribute o "extend" apos) [e] [] pos) (tBM X.K "list" ca2 to t):=
 an9 PySem.F.plainAttrs_list PySem.F.slot_list_extend PySem.F.type_list_extend cj9 ho ha hbase hfew hline hs hplain
end
def Z7 (H:Hp)(e:Addr):List Int:=match H e with
 |some (.lst xs)=>xs.map cy9
 |_=>[]
theorem ba7 {H:Hp}{e:Addr}{r:List Int}(h:H e=some (.lst (r.map V.int))):Z7 H e=r:=by
 unfold Z7;rw[h];show (r.map V.int).map cy9=r;rw[ea6]
 conv=>rhs;rw[<-eh8 r]
 rfl
theorem cf2 {H:Hp}{as:List Addr}{rs:List (List Int)}(h:E2 H as rs):as.map (Z7 H)=rs:=by
 refine dy8 fun j=> ?_
 rw[du7]
 by_cases hj:j < as.length
 · have e1:as[j]? =some as[j]:=dt5 hj;have e2:rs[j]? =some (rs[j]'(by rw[<-h.1];exact hj)):=dt5 _;rw[e1,e2];show some (Z7 H as[j])=_;rw[ba7 (h.2 j _ _ e1 e2)]
 · rw[dv2 (by omega),dv2 (by rw[<-h.1];omega)];rfl
end L2
namespace Mth
theorem W1 {p:List Int}{rs:List (List Int)}(t:G2 p)(h:E8 p p.length rs):rs.flatten.Perm (L2.M0 0 p.length):=by
 have i1:G2 rs.flatten:=by
   have hin:∀x∈rs.flatten,In p x:=fun x hx=>by
     obtain ⟨r,hr,hxr⟩:=dx5.mp hx;obtain ⟨y,L,a,b,rfl,_⟩:=h.ring r hr;exact ah0 t a x hxr
   have l1:=P3 h.nd hin
   have l2:p.length<=rs.flatten.length:=by
     have:=P3 (p:=rs.flatten) (r:=L2.M0 0 p.length) (O6 _) fun x hx=>by
       have hx':=M2.mp hx;obtain ⟨r,hr,hxr⟩:=dx5.mp (h.all x hx'.1 hx'.2);refine ⟨hx'.1,?_⟩
       exact Classical.byContradiction fun hn=>by
         have hle:(rs.flatten.length:Int)<=x:=by omega
         have hlt:=P3 h.nd hin
         have q:(L2.M0 0 (x.toNat+1)).length<=rs.flatten.length:=by
           have sub:∀z∈L2.M0 0 (x.toNat+1),z∈rs.flatten:=fun z hz=>by
             have hz':=M2.mp hz;exact h.all z hz'.1 (by have:=hx'.2;omega)
           have:∀(l m:List Int),l.Nodup->(∀z∈l,z∈m)->l.length<=m.length:=by
             intro l
             induction l with
             |nil=>intro m _ _;exact dv5 _
             |cons c l ih=>
              intro m nd hs;obtain ⟨n1,n2⟩:=dz9.mp nd;obtain ⟨s,u,rfl⟩:=eh4 (hs c dt6)
              have:=ih (s++u) n2 fun z hz=>by
                have hzm:=hs z (dt8 _ hz)
                rcases du1.mp hzm with g|g
                · exact dw8 _ g
                · rcases dw1.mp g with g|g
                  · subst g;exact absurd hz n1
                  · exact du0 _ g
              rw[dt4] at this;rw[dt4,du9,du9];omega
           exact this _ _ (O6 _) sub
         rw[L8] at q;have:=hx'.1;omega
     rw[L8] at this;exact this
   exact ⟨h.nd,fun x hx=>(hin x hx).1,fun x hx=>by have:=(hin x hx).2;omega⟩
 have hl:rs.flatten.length=p.length:=by
   have l1:=P3 h.nd fun x hx=>by
     obtain ⟨r,hr,hxr⟩:=dx5.mp hx;obtain ⟨y,L,a,b,rfl,_⟩:=h.ring r hr;exact ah0 t a x hxr
   have l2:p.length<=rs.flatten.length:=by
     have:=P3 (p:=rs.flatten) (r:=L2.M0 0 p.length) (O6 _) fun x hx=>by
       have hx':=M2.mp hx;have hm:=h.all x hx'.1 hx'.2;exact ⟨hx'.1,i1.hi x hm⟩
     rw[L8] at this;exact this
   omega
 have:=i1.perm;rw[hl] at this;exact this
end Mth
namespace L2
open PySem PySem.Spec PyProof.Rows
theorem at9:bootBuiltins "sorted"=some (.builtin "sorted"):=by decide+kernel
section
variable {X:Cx}
theorem by2 {pins:List (Addr×Obj)}{σ:St}{H:Hp}{s:Shared}(I:j5 X pins σ H s){vs:List Value}{out:Array Value}{ms:List Int}(h:IntsAre out.toList ms)(hl:ms.length<=sizeLine):
   j5 X pins σ (i8 H (s.heap.objs.size+1) (.lst (ms.map V.int))) {s with heap:=sortedAll s.heap vs out,toks:=s.toks}:=by
 obtain ⟨e,he⟩:=sortedAll_at s.heap vs out;refine I.laid (t':=s.toks) (fun _ _ q=>sortedAll_old q) (ef2 _) (show C5 X.prog X.w _ _ _ (.lst (ms.map V.int)) from ⟨by rw[dt3];exact hl,out.toList,e,at3 h,he⟩)
variable {e:Expr} {t:TA} {p pos kpos:Pos}
def dq5 (K:PySem.W.Frag)(te:TE)(ts:TO):TE:=fun σ H Q=>te σ H fun x H1=>ts σ H1 fun o H2=>o=some (-1)/\∃a xs,x= .ref a/\j7 K H2 a xs/\∀p,H2 p=none->Q (.ref p) (i8 H2 p (.lst xs.reverse))
theorem dh3 {st:Expr}{te:TE}{ts:TO}{p2:Pos}(he:PE X e te)(hst:PO X (some st) ts):PE X (.Subscript e (.Slice none none (some st) p2) pos) (dq5 X.K te ts):=by
 intro pins s σ H Q I h;refine Subscript_ (A3 (he pins s σ H _ I h) fun v s1 ⟨x,H1,I1,r1,q1⟩=> ?_);refine wpAny_Slice ?_;rw[evalPart_none];refine wpAny_pure (wpAny_pure ?_)
 refine A3 (hst pins s1 σ H1 _ I1 q1) fun vk s3 ⟨k,H3,I3,pk,ek,a,xs,ex,hx,q⟩=> ?_
 subst ek ex;cases r1
 have I4:j5 X pins σ H3 {s3 with heap:=s3.heap.push {cls:= .type "slice",data:= .fields #[.none,.none,vk]}}:=I3.kept (t':=s3.toks) fun b ob q=>Heap.get?_push_of_some _ q
 obtain ⟨its,r,ht,hz⟩:=I4.list hx;have hlen:=r.length;show wpAny (model X.prog X.w) X.A (subscriptTail e (.Slice none none (some st) p2) (.ref a) (.ref s3.heap.objs.size)) (EP X pins σ Q) X.xe {s3 with heap:=s3.heap.push {cls:= .type "slice",data:= .fields #[.none,.none,vk]}};refine tail_any (ops:=[.ref a,.ref s3.heap.objs.size]) (T:="list") ht.isList.typeIs slot_list_getitem.lookup ?_ rfl;refine wpAny_getItem_list_slice ht.isList (Heap.IsSliceOf.new ..) .none .none pk (by decide) ?_ (by rw[du2]<;>omega);rw[PySem.W.krv_pick]
 have I5:=I4.laid (t':=s3.toks) (o:= .lst xs.reverse) (h':=(s3.heap.push {cls:= .type "slice",data:= .fields #[.none,.none,vk]}).push {cls:= .type "list",data:= .seq its.reverse.toArray}) (a:=(s3.heap.push {cls:= .type "slice",data:= .fields #[.none,.none,vk]}).objs.size)
   (fun b ob q=>Heap.get?_push_of_some _ q) (dt7 _) ⟨by rw[ec5];exact hz,its.reverse,0,r.reverse,Heap.get?_push_size _ rfl⟩
 exact ⟨.ref _,_,I5,rfl,q _ (I4.hok.fresh (dt7 _))⟩
end
end L2
namespace Mth
theorem ay9:∀{a b:List Int},a.Perm b->a.Pairwise (· ≥ ·)->b.Pairwise (· ≥ ·)->a=b
 |[],b,h,_,_=>by rw[List.nil_perm.mp h]
 |x::a,[],h,_,_=>by exact absurd h.length_eq (by simp)
 |x::a,y::b,h,ha,hb=>by
  obtain ⟨a1,a2⟩:=ee5.mp ha;obtain ⟨b1,b2⟩:=ee5.mp hb
  have hxy:x=y:=by
    have h1:x∈y::b:=h.mem_iff.mp dt6;have h2:y∈x::a:=h.mem_iff.mpr dt6
    have l1:y≥x:=by
      rcases dw1.mp h1 with e|e
      · exact Int.le_of_eq e
      · exact b1 x e
    have l2:x≥y:=by
      rcases dw1.mp h2 with e|e
      · exact Int.le_of_eq e
      · exact a1 y e
    omega
  subst hxy;rw[ay9 ((List.perm_cons x).mp h) a2 b2]
end Mth
namespace L2
open PySem PySem.Spec PyProof.Rows
def au0:List Expr->Option (List Int)
 |[]=>some []
 | .Constant (.int i) _ _::es=>(au0 es).map (i:: ·)
 |_::_=>none
def dm2 (ns:List Int):TA:=fun _ H Q=>Q (ns.map V.int) H
def dm3 (ns:List Int):TE:=fun _ H Q=>ns.length<=sizeLine/\∀p,H p=none->Q (.ref p) (i8 H p (.lst (ns.map V.int)))
theorem br7 (i:Int)(j:Nat)(p:Pos)(es:List Expr)(env:Env):starEach (.Constant (.int i) j p::es) env=(false,eval (.Constant (.int i) j p) env)::starEach es env:=rfl
theorem br8 {X:Cx}:∀(es:List Expr) (ns:List Int),au0 es=some ns->PA X es (dm2 ns)
 |[],ns,h=>by
  have:ns=[]:=(Option.some.inj h).symm;subst this
  exact fun pos pins s σ H Q I h=>i4 pos pins s σ H Q I h
 |e::es,ns,h=>by
  unfold au0 at h
  split at h
  · rename_i h0;cases h0
  · rename_i i j p es' heq;cases heq
    cases ho:au0 es with
    |none=>rw[ho] at h;cases h
    |some ms=>
     rw[ho] at h;cases h
     exact fun pos pins s σ H Q I h=>(c9 (te:=tC (.int i)) i9 (br8 es ms ho) (br7 i j p es X.env)) pos pins s σ H Q I h
  · cases h
theorem ba8 {X:Cx}{pos:Pos}{es:List Expr}(ns:List Int)(h:au0 es=some ns):PE X (.List es pos) (dm3 ns):=fun pins s σ H Q I h'=>w4 (br8 es ns h) pins s σ H Q I (by
 show (ns.map V.int).length<=sizeLine/\_
 rw[dt3];exact h')
end L2
namespace L2
open PySem PySem.Spec PyProof.Rows
section
variable {X:Cx}
theorem bk7:bootBuiltins "int"=some (.type "int"):=by decide+kernel
theorem cm2:K6 X (.type "int") (fun xs H Q=>∃b,xs=[.bl b]/\Q (.int (if b then 1 else 0)) H):=by
 intro pins s σ H xs us Q I r h;obtain ⟨b,rfl,q⟩:=h;obtain ⟨u,rfl,rx⟩:=P6 r;cases rx;exact call_int_bool ⟨.int _,H,I.tok _,⟨_,rfl⟩,q⟩
theorem bf9 {e:Expr}{t:TA}{p pos:Pos}(hm:X.mg "int"=none)(ha:PA X [e] t)(hg:Gl X "int":=by rfl)(he:starEach [e] X.env=(false,eval e X.env)::starEach [] X.env:=by rfl):
   PE X (.Call (.Name "int" p) [e] [] pos) (X4 (fun xs H Q=>∃b,xs=[.bl b]/\Q (.int (if b then 1 else 0)) H) t):=
 Q3 cm2 hg hm bk7 ha (by decide) (by decide) he rfl
end
end L2
namespace Mth
theorem br9 {p:List Int}(t:G2 p):∀i,i<=p.length->E8 p i (A0 p i)
 |0,_=>ao9 p
 |i+1,h=>by
  have ih:=br9 t i (by omega);show E8 p (i+1) (if (i:Int)∈(A0 p i).flatten then A0 p i else A0 p i++[A1 p i (ao7 p i)]);have hx:In p (i:Int):=⟨by omega,by omega⟩
  by_cases hi:(i:Int)∈(A0 p i).flatten
  · rw[if_pos hi];exact ap0 ih hi
  · rw[if_neg hi];obtain ⟨L,hL⟩:=br6 t hx;rw[ao8 hL];exact ap1 t ih hx hL hi
theorem P4 {p:List Int}(t:G2 p):E8 p p.length (A0 p p.length):=br9 t _ (dt7 _)
end Mth
namespace Mth
theorem dh4 {n c:Int}(hn:1<=n)(hc:0<=c):∃mx,(if (if n < c then n else c) > 1 then (if n < c then n else c) else (1:Int))=mx/\1<=mx/\mx<=n:=by
 refine ⟨_,rfl,?_⟩
 split<;>split at* <;>omega
end Mth
namespace L2
open PySem PySem.Spec PyProof.Rows
theorem az0:bootBuiltins "tuple"=some (.type "tuple"):=by decide+kernel
theorem aj5:bootBuiltins "str"=some (.type "str"):=by decide+kernel
theorem W2 {X:Cx}{p:Pos}(hm:X.mg "tuple"=none)(hg:Gl X "tuple":=by rfl):PE X (.Name "tuple" p) (tC (.ty "tuple")):=af5 hg hm az0 rfl
theorem ah1 {X:Cx}{p:Pos}(hm:X.mg "str"=none)(hg:Gl X "str":=by rfl):PE X (.Name "str" p) (tC (.ty "str")):=af5 hg hm aj5 rfl
end L2
namespace L2
open PySem PySem.Spec PyProof.Rows
structure XPS (X:Cx)(st:Stmt)(t:TS):Prop where
 h:PS X st t
structure dq6 (X:Cx)(st:List Stmt)(t:TS):Prop where
 h:Z0 X st t
section
variable {X:Cx} {st:Stmt} {rest:List Stmt} {t u:TS}
theorem db3 (h1:XPS X st t)(h2:Z0 X rest u):dq6 X (st::rest) (cr6 t u):=⟨i5 h1.h h2⟩
end
end L2
namespace L2
open PySem PySem.Spec PyProof.Rows
theorem J4.hide {P:Program}{w:World}{H:Hp}{h:Heap}{as:List Addr}(x:J4 P w H h)(hn:∀b∈as,H b=none):J4 P w H (PySem.W.hideAll h as):=fun a o e=>
 (x a o e).stay (fun b u hb q=>PySem.W.hideAll_get _ q fun hm=>by
   have:=hn b hm
   rcases hb with rfl|hb
   · rw[e] at this;cases this
   · rw[hb] at this;cases this) (fun _ q=>q) fun _ _ q=>q
def Q8 (P:Program)(w:World):CXT:=fun outer H s E e s'=>
 ∃(a t C:Addr) (vs:List Value) (B:Heap) (H':Hp),e= .ref a/\s'.os=s.os/\AllBare s'.gens/\Un (v0 outer) [] H H' s.heap s'.heap/\J4 P w H' B/\
  (∀b o,s.heap.get? b=some o->H b=none->b∉v0 outer->B.get? b=some o)/\(∀b o,s.heap.get? b=some o->b∉v0 outer->∃o',B.get? b=some o')/\
  Heap.FlyingW B outer a (.ref C) (.ref t) s'.heap/\s'.heap.TupAt t vs/\B.get? t=none/\E (.ref C) none H'
theorem am2 {fs:List Addr}{H0 H1:Hp}{h0 h1 h2 B:Heap}(u:Un fs [] H0 H1 h0 h1)(kb:∀b o,h0.get? b=some o->H0 b=none->b∉fs->B.get? b=some o)(tb:∀b o,h0.get? b=some o->b∉fs->∃o',B.get? b=some o')
   (st:B.StaysIn h2) (up:h1.UpToSlots h2) (fr:∀b∈fs,∀o,h1.get? b=some o->∀vs,o.data≠.fields vs):Un fs [] H0 H1 h0 h2 where
 keep:=fun b o q n hb _=>st b o (kb b o q n hb)
 slot:=fun b o q n hb hx=>by
   obtain ⟨sl,e⟩:=u.slot b o q n hb hx;obtain ⟨sl2,e2⟩:=up b _ e (fr b hb _ e);exact ⟨sl2,e2⟩
 free:=u.free
 there:=fun b o q hx=>by
   by_cases hb:b∈fs
   · obtain ⟨o',e⟩:=u.there b o q hx;obtain ⟨sl,e2⟩:=up b o' e (fr b hb _ e);exact ⟨_,e2⟩
   · obtain ⟨o',e⟩:=tb b o q hb;exact ⟨o',st b o' e⟩
 tups:=u.tups
 frzs:=u.frzs
 tbls:=u.tbls
def bs0 (X:Cx)(E:XK):Prop:=∀(pins:List (Addr×Obj)) (σ:St) (H:Hp) (s:Shared) (h':Heap) (e C:Addr) (vs:List Value),j5 X pins σ H s->Heap.MadeExcOf s.heap h' e (.ref C) vs->E (.ref C) none H->X.xe (.ref e) {s with heap:=h'}
theorem ah2 {X:Cx}{pins:List (Addr×Obj)}{σ:St}{H:Hp}{s:Shared}(I:j5 X pins σ H s):∀b∈v0 X.stack,∀o,s.heap.get? b=some o->∀vs,o.data≠.fields vs:=fun b hb o ho=>by
 obtain ⟨_,o',ho',hn⟩:=I.stack.mem hb;rw[ho] at ho';cases ho';exact hn
section
variable {P:Program} {w:World} {K:PySem.W.Frag} {mg:Str->Option Value} {base:Heap} {N:List Str} {qual:Str} {scope:Scope} {f:Addr} {cd:Value} {A:Around} {outer:List Env} {s₀:Shared} {H₀:Hp} {E E':XK}
theorem ac5 {pins:List (Addr×Obj)}{σ:St}{H:Hp}{s:Shared}(I:j5 (U5 (Q8 P w) P w K mg base N qual scope f cd A outer s₀ H₀ E) pins σ H s){b:Addr}{o:Obj}(h:s₀.heap.get? b=some o)(hb:b∉v0 outer):
   b∉v0 (envOfC qual scope s₀.heap.objs.size f cd::outer):=fun hm=>by
 unfold v0 at hm hb;rw[dw6] at hm;have hf:(envOfC qual scope s₀.heap.objs.size f cd).frame=some s₀.heap.objs.size:=rfl;rw[hf] at hm
 rcases dw1.mp hm with z|z
 · have:=Heap.lt_size h;rw[z] at this;exact absurd this (dy2 _)
 · exact hb z
theorem aj6:bs0 (U5 (Q8 P w) P w K mg base N qual scope f cd A outer s₀ H₀ E) E:=by
 intro pins σ H s h' e C vs I hx hE;show wpAny (model P w) _ (leaving _ (.ref e)) _ _ _
 have hin:∀env∈(envOfC qual scope s₀.heap.objs.size f cd::outer),∀b,env.frame=some b->b∈v0 (envOfC qual scope s₀.heap.objs.size f cd::outer):=fun env he b hb=>ee3.mpr ⟨env,he,hb⟩
 have hst:s.heap.FunFrames base (envOfC qual scope s₀.heap.objs.size f cd::outer):=I.stack;have hsf:∀b∈v0 (envOfC qual scope s₀.heap.objs.size f cd::outer),H b=none:=I.stkFree;have hub:Un (v0 outer) [] H₀ H s₀.heap s.heap:=I.base
 refine wpAny_leaves_madeW (base:=PySem.W.hideAll s.heap (v0 (envOfC qual scope s₀.heap.objs.size f cd::outer))) (h:=s.heap) I.ok.frames rfl (fun b o q=>PySem.W.of_hideAll _ q) (PySem.W.funFrames_hide hst hin) hx fun h2 t fl tup tn up=> ?_
 have up':s.heap.UpToSlots h2:=(Heap.UpToSlots.of_keeps hx.keeps).trans up
 have kb:∀b o,s₀.heap.get? b=some o->H₀ b=none->b∉v0 outer->(PySem.W.hideAll s.heap (v0 (envOfC qual scope s₀.heap.objs.size f cd::outer))).get? b=some o:=fun b o q n hb=>
   PySem.W.hideAll_get _ (hub.keep b o q n hb (by simp)) (ac5 I q hb)
 have tb:∀b o,s₀.heap.get? b=some o->b∉v0 outer->∃o',(PySem.W.hideAll s.heap (v0 (envOfC qual scope s₀.heap.objs.size f cd::outer))).get? b=some o':=fun b o q hb=>by
   obtain ⟨o',e'⟩:=hub.there b o q (by simp);exact ⟨o',PySem.W.hideAll_get _ e' (ac5 I q hb)⟩
 refine ⟨e,t,C,vs,_,H,rfl,I.os,I.bare,am2 hub kb tb fl.1 up' (fun b hb o ho=> ?_),I.hok.hide hsf,kb,tb,fl,tup,tn,hE⟩;exact ah2 I b (by show b∈v0 (envOfC qual scope s₀.heap.objs.size f cd::outer);unfold v0 at hb ⊢;rw[dw6];exact dt8 _ hb) o ho
theorem au1 (imp:∀c d H,E c d H->E' c d H):al9 (Q8 P w) (U5 (Q8 P w) P w K mg base N qual scope f cd A outer s₀ H₀ E') E:=by
 intro pins σ H s e s' I h;obtain ⟨a,t,C,vs,B,H',rfl,os,bare,un,hok,kb,tb,fl,tup,tn,hE⟩:=h;show wpAny (model P w) _ (leaving _ (.ref a)) _ _ _;have hub:Un (v0 outer) [] H₀ H s₀.heap s.heap:=I.base;have un':Un (v0 (envOfC qual scope s₀.heap.objs.size f cd::outer)) [] H H' s.heap s'.heap:=un
 have sub:∀b,b∈v0 outer->b∈v0 (envOfC qual scope s₀.heap.objs.size f cd::outer):=fun b hb=>by
   unfold v0 at hb ⊢;rw[dw6];exact dt8 _ hb
 refine wpAny_leaves_onW (L:=s₀.heap.objs.size) I.ok.frames rfl fl fun h2 fl2 up=> ?_
 have kb':∀b o,s₀.heap.get? b=some o->H₀ b=none->b∉v0 outer->B.get? b=some o:=fun b o q n hb=>
   kb b o (hub.keep b o q n hb (by simp)) (hub.free b o q n (by simp)) (ac5 I q hb)
 have tb':∀b o,s₀.heap.get? b=some o->b∉v0 outer->∃o',B.get? b=some o':=fun b o q hb=>by
   obtain ⟨o',e'⟩:=hub.there b o q (by simp);exact tb b o' e' (ac5 I q hb)
 have plain:∀b∈v0 outer,∀o,s'.heap.get? b=some o->∀vs,o.data≠.fields vs:=fun b hb o ho=>by
   obtain ⟨_,o1,ho1,hn⟩:=I.stack.mem (sub b hb);obtain ⟨sl,e1⟩:=un'.slot b o1 ho1 (I.stkFree b (sub b hb)) (sub b hb) (by simp);rw[ho] at e1;cases e1;exact hn
 have unw:Un (v0 outer) [] H₀ H' s₀.heap s'.heap:={
   keep:=fun b o q n hb _=>un'.keep b o (hub.keep b o q n hb (by simp)) (hub.free b o q n (by simp)) (ac5 I q hb) (by simp)
   slot:=fun b o q n hb _=>by
     obtain ⟨sl,e1⟩:=hub.slot b o q n hb (by simp);obtain ⟨sl2,e2⟩:=un'.slot b _ e1 (hub.free b o q n (by simp)) (sub b hb) (by simp);exact ⟨sl2,e2⟩
   free:=fun b o q n _=>by
     obtain ⟨sl,e1⟩:=hub.any q n (by simp);exact un'.free b _ e1 (hub.free b o q n (by simp)) (by simp)
   there:=fun b o q _=>by
     obtain ⟨o',e1⟩:=hub.there b o q (by simp);exact un'.there b o' e1 (by simp)
   tups:=fun b xs q=>un'.tups b xs (hub.tups b xs q)
   frzs:=fun b o u q=>un'.frzs b o u (hub.frzs b o u q)
   tbls:=fun b ps q=>by
     obtain ⟨m1,q1⟩:=hub.tbls b ps q;obtain ⟨m2,q2⟩:=un'.tbls b _ q1
     exact ⟨m1++m2,by rw[q2,eh3]⟩}
 exact ⟨a,t,C,vs,B,H',rfl,os.trans I.os,bare,am2 unw kb' tb' fl2.1 up plain,hok,kb',tb',fl2,tup.of_slots up,tn,imp _ _ _ hE⟩
end
theorem ca7 {K:PySem.W.Frag}{h:Heap}{C:Addr}{bmB:List Value}{newId:String}(X:K.In h)(q:PySem.W.excIn K C bmB newId=true):
   ∃(bm:List Value) (N:Addr) (nm qn:Str) (bs:List Value) (hdct:Bool) (sn:List Str) (sub:List Value) (ab:Bool) (col:Option Bool) (dd:Option Addr) (k0 k1 k2 k3 k5:Option Value) (mN:Str->Option Value),
    K.lookup C=some (excClassObj nm qn C N bs bm hdct sn sub ab col dd k0 k1 k2 k3 k5 newId)/\h.Ns N mN/\mN "__init__"=none/\OwnTail h bmB bm:=by
 unfold PySem.W.excIn at q
 split at q
 · rename_i dd cd sl look
   split at q
   · rename_i C' bm k0 k1 k2 k3 n k5 hmro hsl;rw[dy6,dy6,dy6,dy6,dy6] at q;obtain ⟨⟨⟨⟨⟨q1,q2⟩,q3⟩,q4⟩,q5⟩,q6⟩:=q;have e1:C'=C:=beq_iff_eq.mp q1;have e2:n=newId:=beq_iff_eq.mp q2;subst e1 e2;obtain ⟨nm,bs,mro,ns,qn,hd,sn,sub,ab,col,del⟩:=cd;have e3:mro= .ref C'::bm:=hmro
     have e4:del=false:=by
       cases del with
       |false=>rfl
       |true=>cases q3
     subst e3 e4
     have e5:sl= #[k0,k1,k2,k3,some (.builtin n),k5]:=by
       apply Array.ext'
       exact hsl
     subst e5;exact ⟨bm,ns,nm,qn,bs,hd,sn,sub,ab,col,dd,k0,k1,k2,k3,k5,_,look,.of_isNs (PySem.W.isNs_of_in X q5),PySem.W.nsMap_none_of_in X q5 (beq_iff_eq.mp q6),PySem.W.tail_of_in X q4⟩
   · cases q
 · cases q
abbrev veB:List Value:=[.type "ValueError",.type "Exception",.type "BaseException",.type "object"]
structure Z8 (K:PySem.W.Frag)(mg:Str->Option Value)(x:Str)(C:Addr):Prop where
 mg:mg x=some (.ref C)
 ex:PySem.W.excIn K C veB "ValueError.__new__"=true
section
variable {X:Cx}
theorem aa7 {x:Str}{C:Addr}{E:XK}{e:Expr}{te:TE}{np cpos pos:Pos}(R:bs0 X E)(hc:X.calm=true)(c:Z8 X.K X.mg x C)(he:PE X e te)(hg:Gl X x:=by rfl)
   (hs:starEach [e] X.env=(false,eval e X.env)::starEach [] X.env:=by rfl) (hd:(x==("__debug__":Str))=false:=by decide):
   PS X (.Raise (some (.Call (.Name x np) [e] [] cpos)) none pos) (fun _ σ H=>te σ H fun _ H1=>E (.ref C) none H1):=by
 intro pins s σ H D I h;obtain ⟨bm,N,nm,qn,bs,hdct,sn,sub,ab,col,dd,k0,k1,k2,k3,k5,mN,hC,hN,hni,T⟩:=ca7 I.ok.mod.kin c.ex
 refine wpAny_Raise_call_subT (C:=C) (nm:=nm) (q:=qn) (N:=N) (bs:=bs) (bm:=bm) (hdct:=hdct) (sn:=sn) (sub:=sub) (ab:=ab) (col:=col) (dd:=dd) (k0:=k0) (k1:=k1) (k2:=k2) (k3:=k3) (k5:=k5)
   PySem.F.excBase_ValueError (mN:=mN) (T.hasType PySem.F.excBase_ValueError.hasBase) (I.ok.hd hc) (by rw[hs];rfl) hni (Y4 I hg c.mg ⟨rfl,?_⟩ hd)
 rw[hs];refine Calls.evalArgs_plain (Calls.spliced_cons (A3 (he pins s σ H _ I h) fun v s1 ⟨x,H1,I1,rx,q⟩=>Calls.spliced_nil ?_));exact ⟨rfl,(by show 1<=sizeLine;decide),I1.kIn _ _ hC,hN.keeps I1.bk,T.keeps I1.bk,fun h' e' hm=>R pins σ H1 s1 h' e' C _ I1 hm q⟩
end
section
variable {P:Program} {w:World} {K:PySem.W.Frag} {mg:Str->Option Value} {base:Heap}
theorem w6.lift {k:Nat}{f:Addr}{fd:FuncData}{ps:List Str}{sp:Sp}{CX:CXT}(F:w6 P w K mg base J8 k f fd ps sp):w6 P w K mg base CX k f fd ps sp:=
 ⟨F.len,fun A outer s H args us vs Q E hr e0 hb hv hs=>codeAny_mono (F.run A outer s H args us vs Q E hr e0 hb hv hs) fun r s' h=>by
   cases r with
   |error e=>exact (show False from h).elim
   |ok v=>cases v<;>exact h⟩
theorem w6.or {k:Nat}{f:Addr}{fd:FuncData}{ps:List Str}{sp sp':Sp}{CX:CXT}(F:w6 P w K mg base CX k f fd ps sp)(G:w6 P w K mg base CX k f fd ps sp'):w6 P w K mg base CX k f fd ps (fun vs H Q E=>sp vs H Q E\/sp' vs H Q E):=
 ⟨fun vs H Q E h=>h.elim (F.len vs H Q E) (G.len vs H Q E),fun A outer s H args us vs Q E hr e0 hb hv hs=>hs.elim (F.run A outer s H args us vs Q E hr e0 hb hv) (G.run A outer s H args us vs Q E hr e0 hb hv)⟩
theorem E6.okx {x qual:Str}{st:Stmt}{f:Addr}{fd:FuncData}{N ps:List Str}{k:Nat}{sp:Sp}(F:E6 K x qual st f fd)(S:y7 N ps (o7 st))(len:∀vs H Q E,sp vs H Q E->vs.length=ps.length)
   (hbody:∀(cdv:Value) (A:Around) (outer:List Env) (s:Shared) (H:Hp) (vs:List V) (Q:VK) (E:XK),A4 k (A.deeper (envOfC qual (o7 st) s.heap.objs.size f cdv))->sp vs H Q E->
     ∃t,Z0 (U5 (Q8 P w) P w K mg base N qual (o7 st) f cdv A outer s H E) (W0 st) t/\t {nx:=fun _ H'=>Q .non H',rt:=Q} (ab8 N vs) H):w6 P w K mg base (Q8 P w) (k+1) f fd ps sp:=by
 obtain ⟨oc,od,kV,doc,pm,an,cdv,ct,osl,rfl,lk,hcd⟩:=F.ex
 exact ce4 lk hcd S len fun A outer s H vs Q E hr hsp=>hbody cdv A outer s H vs Q E hr hsp
def T0 (P:Program)(w:World)(K:PySem.W.Frag)(mg:Str->Option Value)(base:Heap)(x:Str)(k:Nat)(ps:List Str)(sp:Sp):Prop:=
 ∃(f:Addr) (fd:FuncData),mg x=some (.ref f)/\PySem.W.keepIn K (.ref f)=true/\Z2 K fd ps []/\w6 P w K mg base (Q8 P w) k f fd ps sp
end
section
variable {X:Cx} {x:Str} {k:Nat} {ps:List Str} {sp:Sp} {e:Expr} {es:List Expr} {t:TA} {p pos:Pos} {E:XK}
theorem am3 (c:T0 X.prog X.w X.K X.mg X.base x k ps sp)(hr:A4 k X.A)(hx:al9 (Q8 X.prog X.w) X E)(ha:PA X (e::es) t)(hg:Gl X x:=by rfl)(hdb:(x==("__debug__":Str))=false:=by decide)
   (he:starEach (e::es) X.env=(false,eval e X.env)::starEach es X.env:=by rfl) (hpl:(backTo pos (starEach es X.env)).any (·.1)=false:=by rfl):PE X (.Call (.Name x p) (e::es) [] pos) (aj4 sp [] E t):=by
 obtain ⟨f,fd,h1,h2,h3,h4⟩:=c;exact ca0 h4 hr hg h1 h2 h3 .nil hx ha hdb he hpl
end
end L2
namespace L2
open PySem PySem.Spec PyProof.Rows
theorem C5.get {P:Program}{w:World}{H:Hp}{h:Heap}{a:Addr}{o:HO}(x:C5 P w H h a o):∃u,h.get? a=some u:=by
 cases o with
 |lst xs=>obtain ⟨_,_,_,_,e⟩:=x;exact ⟨_,e⟩
 |tup xs=>obtain ⟨_,_,_,ob,e,_⟩:=x;exact ⟨_,e⟩
 |dK kvs=>obtain ⟨_,_,_,_,o,_,_,e,_⟩:=x;exact ⟨_,e⟩
 |dT kvs=>obtain ⟨_,_,_,_,o,_,_,e,_⟩:=x;exact ⟨_,e⟩
 |set S n=>obtain ⟨o,_,_,_,e,_⟩:=x;exact ⟨_,e⟩
 |ins C dx fs=>obtain ⟨_,_,_,e,_⟩:=x;exact ⟨_,e⟩
 |own y=>obtain ⟨_,e⟩:=x;exact ⟨_,e⟩
 |xd fs=>obtain ⟨_,⟨_,_,_,e,_⟩,_⟩:=x;exact ⟨_,e⟩
 |rng lo hi=>obtain ⟨_,_,_,e⟩:=x;exact ⟨_,e⟩
 |frz ob u=>obtain ⟨e,_⟩:=x;exact ⟨_,e⟩
 |tbl ps=>exact ⟨_,show h.get? a=some _ from x⟩
 |met f y=>exact ⟨_,show h.get? a=some _ from x⟩
 |ext φ=>obtain ⟨_,⟨_,e⟩,_⟩:=x;exact ⟨_,e⟩
def Z9 (a C:Addr):HO:= .ext fun h=>∃oe vs,h.get? a=some oe/\oe.cls= .ref C/\oe.data= .fields vs
section
variable {X:Cx} {pins:List (Addr×Obj)} {σ:St} {H H':Hp} {s s':Shared}
theorem db4 {M:Model}{A:Around}{E:Value->Shared->Prop}{i:Nat}{n:Str}{pos:Pos}{Q:Unit->Shared->Prop}(I:j5 X pins σ H s)(hN:X.N.Nodup)(hi:X.N[i]? =some n)(hk:X.env.kindOf n=some .local)
   (h:∀s',j5 X pins (σ.set i none) H s'->Q () s'):wpAny M A (do bindName X.env n .none;unbindBehindTheSuite X.env n pos) Q E s:=by
 obtain ⟨m,hn,hl⟩:=id I.loc
 have hcls:(X.env.scope.kind== .class||(X.env.scope.kind== .module&&X.env.locals !=X.env.globals))=false:=by rw[I.ok.kind];rfl
 have hiσ:i < σ.length:=by rw[I.len];exact (dt9.mp hi).1
 have cne:=I.cne
 refine wpAny_nameGoes_keeps hk hn hcls fun h' v hn' hs=>h _ ?_
 obtain ⟨oL,_,_,hoL,_⟩:=id hn
 have low:∀b o,X.s₀.heap.get? b=some o->b≠X.env.locals:=fun b o e=>dx1 (dv9 (Heap.lt_size e) I.ok.above)
 refine ⟨I.ok,I.os,I.bare,⟨fun b o e n hb hx=> ?_,fun b o e n hb hx=> ?_,I.base.free,fun b o e hx=> ?_,I.base.tups,I.base.frzs,I.base.tbls⟩,⟨_,hn',fun j y v' e1 e2 e3=> ?_⟩,fun y c e=> ?_,I.free,I.freeC,fun p hp=> ?_,fun b ob e=> ?_,by simpa using I.len⟩
 · exact (hs.2 b (low b o e)).trans (I.base.keep b o e n hb hx)
 · obtain ⟨sl,e1⟩:=I.base.slot b o e n hb hx;exact ⟨sl,(hs.2 b (low b o e)).trans e1⟩
 · obtain ⟨o',e1⟩:=I.base.there b o e hx;exact ⟨o',(hs.2 b (low b o e)).trans e1⟩
 · by_cases hj:j=i
   · subst hj;rw[ec6 hiσ] at e2;cases e2
   · rw[ed3 (Ne.symm hj)] at e2;obtain ⟨u',r',q⟩:=hl j y v' e1 e2 e3;refine ⟨u',r',?_⟩
     rcases q with ⟨k,e⟩|⟨k,c,e,z⟩
     · refine .inl ⟨k,?_⟩
       have:y≠n:=fun e=>hj (az7 hN e1 (e▸hi))
       simp [this,e]
     · exact .inr ⟨k,c,e,z.sameBut hs (cne y c e)⟩
 · obtain ⟨w',z⟩:=I.cell y c e;exact ⟨w',z.sameBut hs (cne y c e)⟩
 · obtain ⟨e,n,ne,nf,d⟩:=I.pin p hp;exact ⟨(hs.2 p.1 ne).trans e,n,ne,nf,d⟩
 · refine (I.hok b ob e).stay (fun c w' hc q=>(hs.2 c ?_).trans q) (fun _ q=>q) fun _ _ q=>q
   rintro rfl
   rcases hc with rfl|hc
   · rw[I.free] at e;cases e
   · rw[I.free] at hc;cases hc
abbrev Cx.marked (X:Cx)(a:Addr):Cx:={X with A:=X.A.mark (some (.ref a)),calm:=false,xe:=fun _ _=>False}
theorem j5.mark (I:j5 X pins σ H s)(a:Addr):j5 (X.marked a) pins σ H s:=
 ⟨⟨I.ok.mod,I.ok.kind,I.ok.glob,I.ok.blt,I.ok.above,I.ok.inj,I.ok.has,I.ok.cab,(fun z=>nomatch z),I.ok.frames,I.ok.stk,I.ok.exf,I.ok.bs,I.ok.bsz,I.ok.noex,I.ok.exfs,I.ok.funs,I.ok.frf⟩,I.os,I.bare,I.base,I.loc,I.cell,I.free,I.freeC,I.pin,I.hok,I.len⟩
theorem j5.unmark {a:Addr}(ok:X.Ok)(I:j5 (X.marked a) pins σ H s):j5 X pins σ H s:=
 ⟨ok,I.os,I.bare,I.base,I.loc,I.cell,I.free,I.freeC,I.pin,I.hok,I.len⟩
theorem j5.trackNew {a:Addr}{o:HO}(I:j5 X pins σ H s)(hn:H a=none)(h0:X.s₀.heap.get? a=none)(hL:a≠X.env.locals)(hc:∀x c,X.env.cells.lookup x=some c->c≠a)(hp:∀p∈X.pn++pins,p.1≠a)(new:C5 X.prog X.w (i8 H a o) s.heap a o):
   j5 X pins σ (i8 H a o) s:=by
 refine ⟨I.ok,I.os,I.bare,⟨I.base.keep,I.base.slot,fun b o' e n hx=> ?_,I.base.there,fun b xs e=> ?_,fun b o' u e=> ?_,fun b ps e=> ?_⟩,I.loc,I.cell,?_,fun x c e=> ?_,fun p hq=> ?_,I.hok.track hn new,I.len⟩
 · rw[j8 (fun z=>by rw[z,h0] at e;cases e)];exact I.base.free b o' e n hx
 · have:=I.base.tups b xs e;rw[j8 (j9 this hn)];exact this
 · have:=I.base.frzs b o' u e;rw[j8 (j9 this hn)];exact this
 · obtain ⟨m,this⟩:=I.base.tbls b ps e;exact ⟨m,by rw[j8 (j9 this hn)];exact this⟩
 · rw[j8 (Ne.symm hL)];exact I.free
 · rw[j8 (hc x c e)];exact I.freeC x c e
 · obtain ⟨e,n,ne,nf,d⟩:=I.pin p hq;exact ⟨e,by rw[j8 (hp p hq)];exact n,ne,nf,d⟩
end
def PX (X:Cx)(st:List Stmt)(t:XK->TS):Prop:=
 ∀(pins:List (Addr×Obj)) (s:Shared) (σ:St) (H:Hp) (D:ad1) (E:XK) (E1:Value->Shared->Prop),j5 X pins σ H s->
  (∀(H1:Hp) (s1:Shared) (e:Value) (s':Shared),j5 X pins σ H1 s1->Q8 X.prog X.w X.stack H1 s1 E e s'->E1 e s')->t E D σ H->wpAny (model X.prog X.w) X.A (execs st X.env) (SP X pins D) E1 s
section
variable {X:Cx} {x:Str} {k:Nat} {ps:List Str} {sp:Sp} {e:Expr} {es:List Expr} {t:TA} {p pos:Pos}
theorem PA.any (h:PA X.nox es t)(E1:Value->Shared->Prop):PA (X.wish E1) es t:=fun pos pins s σ H Q I hw=>
 wpAny_mono (h pos pins s σ H Q (I.unwish.wish _) hw) (fun _ _ ⟨v,H',I',r,q⟩=>⟨v,H',I'.unwish.wish E1,r,q⟩) fun _ _ z=>False.elim z
theorem ca8 {pins:List (Addr×Obj)}{σ:St}{H:Hp}{s:Shared}{Q:VK}{E:XK}{E1:Value->Shared->Prop}(c:T0 X.prog X.w X.K X.mg X.base x k ps sp)(hr:A4 k X.A)(ha:PA X.nox (e::es) t)(I:j5 X pins σ H s)
   (hx:∀(H1:Hp) (s1:Shared) (e:Value) (s':Shared),j5 X pins σ H1 s1->Q8 X.prog X.w X.stack H1 s1 E e s'->E1 e s') (h:aj4 sp [] E t σ H Q) (hg:Gl X x) (hdb:(x==("__debug__":Str))=false)
   (he:starEach (e::es) X.env=(false,eval e X.env)::starEach es X.env) (hpl:(backTo pos (starEach es X.env)).any (·.1)=false):
   wpAny (model X.prog X.w) X.A (eval (.Call (.Name x p) (e::es) [] pos) X.env) (EP X pins σ Q) E1 s:=by
 obtain ⟨f,fd,h1,h2,h3,h4⟩:=c;have Iw:j5 (X.wish E1) pins σ H s:=I.wish E1;refine wpAny_Call_Name_kw (Y4 (E:=E1) I hg h1 ?_ hdb);refine PySem.W.callWith_K (h₀:=X.base) I.ok.mod.kin h2 (A3 ((PA.any ha E1) pos pins s σ H _ Iw h) fun us s1 ⟨vs,H1,I1,r,q⟩=>⟨I1.kIn,?_⟩) he hpl;have I1':j5 X pins σ H1 s1:=I1.unwish
 have r2:r6 (vs++[]) us:=by rw[dw7];exact r
 have hl:(us++[]).length=ps.length:=by rw[dw7,<-r2.length];exact h4.len _ _ _ _ q
 have hb:=h3 s1 us I1'.kIn hl;rw[dw7] at hb;refine wpAny_call (codeAny_mono (h4.run X.A X.stack s1 H1 ⟨us,[]⟩ us (vs++[]) Q E hr I1'.env0 hb r2 q) fun rr s' hq=> ?_)
 cases rr with
 |error e=>exact hx H1 s1 e s' I1' hq
 |ok fl=>
  cases fl with
  |ret u=>exact I1'.after hq
  |next=>exact False.elim hq
  |brk=>exact False.elim hq
  |cont=>exact False.elim hq
theorem dh5 {i:Nat}{y:Str}{py sp':Pos}(c:T0 X.prog X.w X.K X.mg X.base x k ps sp)(hr:A4 k X.A)(hN:X.N.Nodup)(hi:X.N[i]? =some y)(hy:Loc X.env.scope y)(ha:PA X.nox (e::es) t)(hg:Gl X x:=by rfl)(hdb:(x==("__debug__":Str))=false:=by decide)
   (he:starEach (e::es) X.env=(false,eval e X.env)::starEach es X.env:=by rfl) (hpl:(backTo pos (starEach es X.env)).any (·.1)=false:=by rfl)
   (hs:swapsWith (.Call (.Name x p) (e::es) [] pos) (some (.Name y py)) sp'.line X.env=pure false:=by rfl) (hf:X.fn y=true\/X.env.scope.names.lookup y=some .local:=by first|exact .inl rfl|exact .inr rfl|assumption):
   PX X [.Assign [.Name y py] (.Call (.Name x p) (e::es) [] pos) sp'] (fun E D σ H=>aj4 sp [] E t σ H fun v H1=>D.nx (σ.set i (some v)) H1):=by
 intro pins s σ H D E E1 I hx h
 have first:wpAny (model X.prog X.w) X.A (exec (.Assign [.Name y py] (.Call (.Name x p) (e::es) [] pos) sp') X.env) (SP X pins D) E1 s:=
   wpAny_Assign_Name (A3 (ca8 c hr ha I hx h hg hdb he hpl) fun v s1 ⟨y',H1,I1,r1,q1⟩=>ag2 I1 hN hi hy r1 (fun s2 I2=>show SP X pins D .next s2 from ⟨_,H1,I2,q1⟩) hf) hs
 refine wpAny_execs_cons (A3 first fun f s1 q=> ?_)
 cases f with
 |next=>exact wpAny_execs_nil q
 |ret v=>exact q
 |brk=>exact q
 |cont=>exact q
theorem db5 {ep:Pos}(c:T0 X.prog X.w X.K X.mg X.base x k ps sp)(hr:A4 k X.A)(ha:PA X.nox (e::es) t)(hg:Gl X x:=by rfl)(hdb:(x==("__debug__":Str))=false:=by decide)
   (he:starEach (e::es) X.env=(false,eval e X.env)::starEach es X.env:=by rfl) (hpl:(backTo pos (starEach es X.env)).any (·.1)=false:=by rfl) (hs:swapsWith (.Call (.Name x p) (e::es) [] pos) none ep.line X.env=pure false:=by rfl):
   PX X [.Expr (.Call (.Name x p) (e::es) [] pos) ep] (fun E D σ H=>aj4 sp [] E t σ H fun _ H1=>D.nx σ H1):=by
 intro pins s σ H D E E1 I hx h
 have first:wpAny (model X.prog X.w) X.A (exec (.Expr (.Call (.Name x p) (e::es) [] pos) ep) X.env) (SP X pins D) E1 s:=
   wpAny_Expr_any (A3 (ca8 c hr ha I hx h hg hdb he hpl) fun v s1 ⟨y',H1,I1,r1,q1⟩=>⟨σ,H1,I1,q1⟩) I.quiet hs
 refine wpAny_execs_cons (A3 first fun f s1 q=> ?_)
 cases f with
 |next=>exact wpAny_execs_nil q
 |ret v=>exact q
 |brk=>exact q
 |cont=>exact q
end
section
variable {X:Cx}
def db6 (K:PySem.W.Frag)(T:Addr)(i:Nat)(ts:TS)(D:ad1)(σ:St):XK:=fun c _ H'=>
 ∃C,c= .ref C/\PySem.W.exmOne K (.ref C) (.ref T)=some true/\∀a,H' a=none->ts {nx:=fun σ' H''=>D.nx (σ'.set i none) H'',rt:=fun _ _=>False} (σ.set i (some (.ref a))) (i8 H' a (Z9 a C))
theorem cm3 {body:List Stmt}{x n:Str}{T:Addr}{i:Nat}{np hp pos:Pos}{b₀:Stmt}{suite:List Stmt}{tb:XK->TS}{ts:TS}(hb:PX X body tb)(hm:X.mg x=some (.ref T))(hN:X.N.Nodup)(hi:X.N[i]? =some n)(hk:X.env.kindOf n=some .local)
   (hsu:∀a,Z0 (X.marked a) (b₀::suite) ts) (hst:X.stack=X.env::X.outer:=by rfl) (hfr:X.env.frame=some X.env.locals:=by rfl) (hex0:X.ex=[]:=by rfl) (hg:Gl X x:=by rfl) (hdb:(x==("__debug__":Str))=false:=by decide) (hf:X.fn n=true\/X.env.scope.names.lookup n=some .local:=by first|exact .inl rfl|exact .inr rfl|assumption):
   PS X (.Try body [.ExceptHandler (some (.Name x np)) (some n) (b₀::suite) hp] [] [] pos) (fun D σ H=>tb (db6 X.K T i ts D σ) D σ H):=by
 intro pins s σ H D I h;refine wpAny_Try_except (wpAny_mono (hb pins s σ H D _ (fun e s₁=>wpAny (model X.prog X.w) X.A (noteFrame e X.env) (fun _ s₂=>wpAny (model X.prog X.w) X.A (setFlight e none) (fun _ s₃=>wpAny (model X.prog X.w) X.A (handleBy e X.env [.ExceptHandler (some (.Name x np)) (some n) (b₀::suite) hp]) (SP X pins D) X.xe s₃) X.xe s₂) X.xe s₁) I (fun H1 s1 e s' I1 hcx=> ?_) h) (fun f s1 q=> ?_) fun _ _ z=>z)
 · obtain ⟨a,t,C,vs,B,H',rfl,os,bare,un,hok,kb,tb',fl,tup,tn,C',hCe,hex,hts⟩:=hcx;cases hCe;rw[hst] at un fl kb tb'
   have hframes:X.A.frames=some (X.env::X.outer):=by rw[<-hst];exact I1.ok.frames
   have plain:∀b∈v0 (X.env::X.outer),∀o,s'.heap.get? b=some o->∀vs,o.data≠.fields vs:=fun b hb o ho=>by
     obtain ⟨_,o',ho',hn⟩:=fl.2.2.1.mem hb;rw[ho] at ho';cases ho';exact hn
   have notB:B.get? a=none:=fl.2.1
   have notF:a∉v0 (X.env::X.outer):=fun hm=>by
     obtain ⟨oe,ws,he,_,hd,_⟩:=fl.first;exact plain a hm oe he ws hd
   have new1:s1.heap.get? a=none:=by
     cases q:s1.heap.get? a with
     |none=>rfl
     |some o=>
      obtain ⟨o',e'⟩:=tb' a o q notF;rw[notB] at e';cases e'
   have new0:X.s₀.heap.get? a=none:=by
     cases q:X.s₀.heap.get? a with
     |none=>rfl
     |some o=>
      by_cases hx:a∈X.ex
      · rw[hex0] at hx;simp at hx
      · obtain ⟨o',e'⟩:=I1.base.there a o q hx;rw[new1] at e';cases e'
   have hHa:H' a=none:=by
     cases q:H' a with
     |none=>rfl
     |some o=>obtain ⟨u,hu⟩:=(hok a o q).get;rw[notB] at hu;cases hu
   refine wpAny_looks_onW hframes hfr fl fun h₄ held₄ up₄=> ?_
   refine wpAny_landsW held₄ fun h₅ fl₅ up₅=> ?_
   have inv:∀h,B.StaysIn h->s'.heap.UpToSlots h->j5 X pins σ H' {s' with heap:=h}:=fun h st up=>
     I1.call' (ch:=[]) (s':={s' with heap:=h}) os (by rw[hst];exact am2 un kb tb' st up plain) (hok.kept st) bare (fun b z=>absurd z (by simp))
   have I5:=inv h₅ fl₅.1 (up₄.trans up₅);refine wpAny_handleBy_cons (codeAny_handlers_test (Y4 (X:=X.marked a) (E:=_) (I5.mark a) hg hm ?_ hdb)) (by intro q;cases q);obtain ⟨ob,hob,hobc⟩:=fl₅.there;have LT:PySem.W.Looks (model X.prog X.w) h₅ (typeOf (.ref a)) (.ref C):=hobc▸(PySem.W.Looks.ld hob).andThen .now;refine PySem.W.exm_one (M:=model X.prog X.w) (h:=h₅) I5.kIn LT hex _ _ _ _ (fun _ _ q=>q) ?_;refine codeAny_handlers_suite_as ?_
   refine lands_againW fl₅ fun h₆ fl₆ up₆=> ?_
   have I6:=inv h₆ fl₆.1 ((up₄.trans up₅).trans up₆)
   have hLa:a≠X.env.locals:=fun z=>notF (by unfold v0;rw[dw6,hfr];rw[z];exact dt6)
   have hca:∀y c,X.env.cells.lookup y=some c->c≠a:=fun y c e z=>by
     obtain ⟨v,o,ho,_⟩:=I1.cell y c e;rw[z,new1] at ho;cases ho
   have hpa:∀q∈X.pn++pins,q.1≠a:=fun q hq z=>by
     obtain ⟨e,_⟩:=I1.pin q hq;rw[z,new1] at e;cases e
   obtain ⟨oe,ws,he6,hc6,hd6,_⟩:=fl₆.first;have I7:j5 X pins σ (i8 H' a (Z9 a C)) {s' with heap:=h₆}:=I6.trackNew hHa new0 hLa hca hpa ⟨⟨oe,ws,he6,hc6,hd6⟩,⟨oe,he6⟩,fun h1 h2 ⟨o1,v1,q1,q2⟩ st=>⟨o1,v1,st o1 q1,q2⟩⟩;have hts':=hts a hHa;refine ag2 I7 hN hi (.inl hk) (show A7 (.ref a) (.ref a) from rfl) (fun s2 I8=> ?_) hf
   refine wpAny_mono (hsu a pins s2 _ _ _ (I8.mark a) hts') (fun f s3 q=> ?_) fun _ _ z=>False.elim z
   cases f with
   |next=>
    obtain ⟨σ',H'',I9,q⟩:=q
    exact db4 (I9.unmark I1.ok) hN hi hk fun s4 I10=>show SP X pins D .next s4 from ⟨_,_,I10,q⟩
   |ret v=>obtain ⟨_,_,_,_,_,q⟩:=q;exact q.elim
   |brk=>obtain ⟨_,_,_,q⟩:=q;exact q.elim
   |cont=>obtain ⟨_,_,_,q⟩:=q;exact q.elim
 · cases f with
   |next=>exact wpAny_execs_nil q
   |ret v=>exact q
   |brk=>exact q
   |cont=>exact q
end
end L2
namespace L2
open PySem PySem.Spec PyProof.Rows PySem.W PySem.Builtin PySem.Builtin.ObjectAttr PySem.Builtin.Getset_descriptor
section
variable {prog:Program} {w:World} {A:Around} {E:Value->Shared->Prop} {s:Shared} {K:PySem.W.Frag} {a C:Addr}
structure ba9 (K:PySem.W.Frag)(C:Addr):Prop where
 ga:PySem.W.findIn K (.ref C) "__getattribute__"=some (some (.builtin "BaseException.__getattribute__"))
 hook:PySem.W.findIn K (.ref C) "__getattr__"=some none
 cls:PySem.W.findIn K (.ref C) "__class__"=some (some (.builtin "object.__class__"))
 get:PySem.W.specialIn K (.builtin "object.__class__") "__get__"=some (some (.builtin "getset_descriptor.__get__"))
 tak:PySem.W.takesIn K (.builtin "object.__class__")=some true
 bex:PySem.W.mroIn K C (.type "BaseException")=some true
 obj:PySem.W.mroIn K C (.type "object")=some true
 isc:∃oc,K.lookup C=some oc/\∃cd,oc.data= .cls cd
theorem bm6 {tp:Value}{R:Result->Shared->Prop}(X:K.In s.heap)(L0:PySem.W.Looks (model prog w) s.heap (typeOf (.ref a)) (.ref C))(hm:PySem.W.mroIn K C (.type "object")=some true)
   (h:R (.ok (.ret (.ref C))) s):codeAny (model prog w) A (.call (.builtin "getset_descriptor.__get__") ⟨[.builtin "object.__class__",.ref a,tp],[]⟩) R s:=by
 obtain ⟨hh,g,dr,t,os⟩:=s;have L1:=looks_mroIn (M:=model prog w) X hm;refine codeAny_call_builtin KF.slot_gs.plain KF.entry_gs (KF.slot_gs.check _ _ _ _ _ _ _ _ KF.type_class (KF.args_gs _ _ _) ?_);unfold Builtin.«getset_descriptor.__get__» descrGet;rw[dga_obj];refine wpAny_bind (wpAny_pure ?_);unfold descrGetter descrCheckInstance descrNameAndClass isInstance;simp only[KF.owner_class]
 repeat lk
 refine ⟨Code.quiet_builtin _ (by decide+kernel),codeAny_builtin KF.entry_class ?_⟩;unfold Builtin.«object.__class__» shownTypeOf
 repeat lk
 exact h
theorem cm4 {M:Model}{nameV:Value}{Q:Unit->Shared->Prop}(X:K.In s.heap)(L0:PySem.W.Looks M s.heap (typeOf (.ref a)) (.ref C))(hm:PySem.W.mroIn K C (.type "BaseException")=some true)
   (hq:Q () s):wpAny M A (checkBuiltinCall "BaseException.__getattribute__" ⟨[.ref a,nameV],[]⟩) Q E s:=by
 obtain ⟨hh,g,dr,t,os⟩:=s;have L1:=looks_mroIn (M:=M) X hm
 have hk:builtinKind "BaseException.__getattribute__"=some .slot:=by decide+kernel
 have hsplit:splitId "BaseException.__getattribute__"=some ("BaseException","__getattribute__"):=by decide+kernel
 have ha:=F.args_bexc_ga (.ref a) nameV;simp only[checkBuiltinCall,hk,hsplit];unfold isInstance
 repeat (first|lk|wp_step)
 exact hq
theorem cm5 {tk:Tok}{Q:Fin->Shared->Prop}(X:K.In s.heap)(L0:PySem.W.Looks (model prog w) s.heap (typeOf (.ref a)) (.ref C))(I:ba9 K C)(hq:Q (.done (.ret (.ref C))) s):
   wpAny (model prog w) A (Builtin.«object.__getattribute__» ⟨[.ref a,.str "__class__" tk],[]⟩) Q E s:=by
 obtain ⟨hh,g,dr,t,os⟩:=s;have L1:=looks_findIn (M:=model prog w) X I.cls;have L2:=looks_specialIn (M:=model prog w) X I.get;have L3:=looks_takesIn (M:=model prog w) X I.tak;unfold Builtin.«object.__getattribute__»
 repeat lk
 refine wpAny_run (bm6 X L0 I.obj ?_)
 repeat (first|exact hq|lk)
theorem bg0 {Q:Option Value->Shared->Prop}(X:K.In s.heap)(L0:PySem.W.Looks (model prog w) s.heap (typeOf (.ref a)) (.ref C))(I:ba9 K C)(h:Q (some (.ref C)) {s with toks:=s.toks+1}):
   wpAny (model prog w) A (getAttr? (.ref a) "__class__") Q E s:=by
 obtain ⟨hh,g,dr,t,os⟩:=s;have L1:=looks_findIn (M:=model prog w) X I.ga;have L2:=looks_findIn (M:=model prog w) X I.hook;have hb:=PySem.F.attrBase_ValueError.ga.bind (.ref a);unfold getAttr? getAttrBy? getAttrBy;refine wpAny_bind (wpAny_mkText (wpAny_bind (wpAny_attempt (wpAny_holding (wpAny_bind (L0.at (wpAny_bind (L1.at ?_))))))))
 dsimp only
 rw[if_neg (show ¬((onTheHeap (Value.ref C)&&Value.builtin "BaseException.__getattribute__"==Value.builtin "object.__getattribute__")=true) from by
   rw[show (Value.builtin "BaseException.__getattribute__"==Value.builtin "object.__getattribute__")=false from by decide+kernel,Bool.and_false];exact dv4)]
 unfold getAttrByItsOwn hookBefore;refine wpAny_bind ?_;rw[if_pos (show onTheHeap (Value.ref C)=true from rfl)];refine L2.at ?_;refine wpAny_bind (wpAny_attempt (wpAny_holding ?_));unfold callGetattribute;rw[if_neg (by simp)];unfold boundAndCalled;rw[hb];refine wpAny_bind (wpAny_pure ?_);refine wpAny_call (codeAny_call_builtin PySem.F.attrBase_ValueError.ga.plain F.entry_bexc_ga (cm4 X L0 I.bex (cm5 X L0 I ?_)));refine handed_on (M:=model prog w) rfl ?_;exact wpAny_pure h
theorem bs1 (I:ba9 K C):PySem.W.KitX K (.ref a) (.ref C) (fun h=>∃oe vs,h.get? a=some oe/\oe.cls= .ref C/\oe.data= .fields vs) where
 ty:=fun M h _ ⟨oe,vs,h1,h2,_⟩=>h2▸(PySem.W.Looks.ld h1).andThen .now
 it:=fun M h X _=>by
   obtain ⟨oc,h1,cd,h2⟩:=I.isc;obtain ⟨c1,c2,c3,c4⟩:=oc
   dsimp only at h2
   subst h2;intro A' Q' E' s' k q;unfold isType loadHead;exact wpAny_bind (wpAny_loadPart (k _ _ (X _ _ h1)) (wpAny_pure q))
 ne:=fun h tp dd its n sl X htp=>by
   obtain ⟨oc,h1,cd,h2⟩:=I.isc
   refine eg1.mpr fun q=> ?_
   have e:C=tp:=Value.ref.inj (beq_iff_eq.mp q);subst e;have z:=(X _ _ h1).symm.trans htp;cases z;cases h2
 ca:=fun {prog w A E Q s} X ⟨oe,vs,h1,h2,_⟩ k=>bg0 X (h2▸(PySem.W.Looks.ld h1).andThen .now) I k
end
section
variable {X:Cx}
def cz0 (K:PySem.W.Frag):List V->Hp->VK->Prop:=fun xs H Q=>∃a C c u b,xs=[.ref a,c]/\((∃D,c= .ref D/\u=Value.ref D)\/(∃n,c= .ty n/\u=Value.type n))/\H a=some (Z9 a C)/\ba9 K C/\PySem.W.kitOne K (.ref C) u=some b/\Q (.bl b) H
theorem cm6:K6 X (.builtin "isinstance") (cz0 X.K):=by
 intro pins s σ H xs us Q I r h;obtain ⟨a,C,c,u,b,rfl,hc,hH,ei,hk,q⟩:=h;obtain ⟨u1,u2,rfl,r1,r2⟩:=bc9 r;cases (show u1=Value.ref a from r1)
 have e2:u2=u:=by
   rcases hc with ⟨D,rfl,rfl⟩|⟨n,rfl,rfl⟩
   · exact r2
   · exact r2
 subst e2;have p:=(show C5 X.prog X.w H s.heap a (Z9 a C) from I.hok a _ hH).1
 exact PySem.W.kia_one (bs1 ei) I.kIn p hk (fun z=>nomatch z) fun tk=>⟨.bl b,H,I.tok tk,rfl,q⟩
theorem ax2 {a b:Expr}{ta:TA}{p pos:Pos}(hm:X.mg "isinstance"=none)(ha:PA X [a,b] ta)(hg:Gl X "isinstance":=by rfl)
 (he:starEach [a,b] X.env=(false,eval a X.env)::starEach [b] X.env:=by rfl) (hpl:(backTo pos (starEach [b] X.env)).any (·.1)=false:=by rfl):
 PE X (.Call (.Name "isinstance" p) [a,b] [] pos) (X4 (cz0 X.K) ta):=N3 cm6 hg hm ba3 ha (by decide) (by decide) he hpl
theorem db7:bootBuiltins "ValueError"=some (.type "ValueError"):=by decide+kernel
theorem ca9 {p:Pos}(hm:X.mg "ValueError"=none)(hg:Gl X "ValueError":=by rfl):PE X (.Name "ValueError" p) (tC (.ty "ValueError")):=af5 hg hm db7 rfl
end
theorem db8 {K:PySem.W.Frag}{C D:Addr}{b:Bool}(h1:PySem.W.isClsIn K D=true)(h2:PySem.W.typeIn K (.ref D)=some (.type "type"))(h3:PySem.W.mroIn K C (.ref D)=some b)(hs:C=D->b=true):PySem.W.kitOne K (.ref C) (.ref D)=some b:=by
 unfold PySem.W.kitOne
 by_cases e:C=D
 · rw[if_pos (by rw[e];exact beq_self_eq_true _),hs e]
 · rw[if_neg (fun q=>e (Value.ref.inj (beq_iff_eq.mp q)))];unfold PySem.W.kitCls
   dsimp only
   rw[if_pos (by rw[dy6];exact ⟨h1,by rw[h2];exact beq_self_eq_true _⟩)];exact h3
theorem dh6 {K:PySem.W.Frag}{C:Addr}(h3:PySem.W.mroIn K C (.type "ValueError")=some true):PySem.W.kitOne K (.ref C) (.type "ValueError")=some true:=by
 unfold PySem.W.kitOne;rw[if_neg (fun q=>by cases beq_iff_eq.mp q)];unfold PySem.W.kitCls
 dsimp only
 rw[if_pos (by decide+kernel)];exact h3
theorem cb0 {K:PySem.W.Frag}{C T:Addr}{b:Bool}(h0:PySem.W.mroIn K T (.type "BaseException")=some true)(h1:PySem.W.isClsIn K T=true)(h2:PySem.W.typeIn K (.ref T)=some (.type "type"))(h3:PySem.W.mroIn K C (.ref T)=some b):PySem.W.exmOne K (.ref C) (.ref T)=some b:=by
 unfold PySem.W.exmOne;rw[if_pos (show (PySem.W.subIn K (.ref T) (.type "BaseException")==some true)=true from beq_iff_eq.mpr h0)];unfold PySem.W.kitCls
 dsimp only
 rw[if_pos (by rw[dy6];exact ⟨h1,by rw[h2];exact beq_self_eq_true _⟩)];exact h3
theorem db9 {K:PySem.W.Frag}{C:Addr}(ga:PySem.W.findIn K (.ref C) "__getattribute__"=some (some (.builtin "BaseException.__getattribute__")))(hook:PySem.W.findIn K (.ref C) "__getattr__"=some none)(cls:PySem.W.findIn K (.ref C) "__class__"=some (some (.builtin "object.__class__")))
   (get:PySem.W.specialIn K (.builtin "object.__class__") "__get__"=some (some (.builtin "getset_descriptor.__get__"))) (tak:PySem.W.takesIn K (.builtin "object.__class__")=some true) (bex:PySem.W.mroIn K C (.type "BaseException")=some true) (obj:PySem.W.mroIn K C (.type "object")=some true) (isc:PySem.W.isClsIn K C=true):ba9 K C:=
 ⟨ga,hook,cls,get,tak,bex,obj,by
   obtain ⟨cd,h⟩:=ei2.mp (show (PySem.W.clsIn K C).isSome=true from isc);unfold PySem.W.clsIn at h
   split at h
   · rename_i ho;exact ⟨_,ho,_,rfl⟩
   · cases h⟩
structure au2 (K:PySem.W.Frag)(mg:Str->Option Value)(T:Addr)(cs:List (Str×Addr)):Prop where
 top:mg "TurnError"=some (.ref T)
 err:∀p∈cs,Z8 K mg p.1 p.2
 inst:∀p∈cs,ba9 K p.2
 exm:∀p∈cs,PySem.W.exmOne K (.ref p.2) (.ref T)=some true
 ve:∀p∈cs,PySem.W.kitOne K (.ref p.2) (.type "ValueError")=some true
 pair:∀p∈cs,∀q∈cs,PySem.W.kitOne K (.ref p.2) (.ref q.2)=some (decide (p.1=q.1))
 exq:∀p∈cs,∀q∈cs,PySem.W.exmOne K (.ref p.2) (.ref q.2)=some (decide (p.1=q.1))
end L2
namespace L2
open PySem PySem.Spec PyProof.Rows
def am4:List Expr->Option (List Str)
 |[]=>some []
 | .Constant (.str i) _ _::es=>(am4 es).map (i:: ·)
 |_::_=>none
def dm4 (ns:List Str):TA:=fun _ H Q=>Q (ns.map V.str) H
def cz1 (ns:List Str):TE:=fun _ H Q=>ns.length<=sizeLine/\∀p,H p=none->Q (.ref p) (i8 H p (.lst (ns.map V.str)))
theorem bs2 (i:Str)(j:Nat)(p:Pos)(es:List Expr)(env:Env):starEach (.Constant (.str i) j p::es) env=(false,eval (.Constant (.str i) j p) env)::starEach es env:=rfl
theorem bs3 {X:Cx}:∀(es:List Expr) (ns:List Str),am4 es=some ns->PA X es (dm4 ns)
 |[],ns,h=>by
  have:ns=[]:=(Option.some.inj h).symm;subst this
  exact fun pos pins s σ H Q I h=>i4 pos pins s σ H Q I h
 |e::es,ns,h=>by
  unfold am4 at h
  split at h
  · rename_i h0;cases h0
  · rename_i i j p es' heq;cases heq
    cases ho:am4 es with
    |none=>rw[ho] at h;cases h
    |some ms=>
     rw[ho] at h;cases h
     exact fun pos pins s σ H Q I h=>(c9 (te:=tC (.str i)) o6 (bs3 es ms ho) (bs2 i j p es X.env)) pos pins s σ H Q I h
  · cases h
theorem ct9 {X:Cx}{pos:Pos}{es:List Expr}(ns:List Str)(h:am4 es=some ns):PE X (.List es pos) (cz1 ns):=fun pins s σ H Q I h'=>w4 (bs3 es ns h) pins s σ H Q I (by
 show (ns.map V.str).length<=sizeLine/\_
 rw[dt3];exact h')
theorem dc0 {X:Cx}{i:Nat}{y:Str}{es:List Expr}{py lp sp:Pos}(ns:List Str)(h:am4 es=some ns)(hN:X.N.Nodup)(hi:X.N[i]? =some y)(hy:Loc X.env.scope y)(hs:swapsWith (.List es lp) (some (.Name y py)) sp.line X.env=pure false:=by rfl)
 (hf:X.fn y=true\/X.env.scope.names.lookup y=some .local:=by first|exact .inl rfl|exact .inr rfl|assumption):
 XPS X (.Assign [.Name y py] (.List es lp) sp) (cd8 (cz1 ns) (aw6 i)):=⟨m9 hN hi hy (ct9 ns h) hs hf⟩
end L2
namespace L2
open PySem PySem.Spec PyProof.Rows
mutual
inductive Sh (H:Hp):V->PyData->Prop
 |non:Sh H .non .none
 |bl (b:Bool):Sh H (.bl b) (.bool b)
 |int (i:Int):Sh H (.int i) (.int i)
 |str (x:Str):Sh H (.str x) (.str x)
 |lst {a:Addr} {xs:List V} {ds:List PyData} (e:H a=some (.lst xs)) (h:ShA H xs ds):Sh H (.ref a) (.list ds)
 |tup {a:Addr} {xs:List V} {ds:List PyData} (e:H a=some (.tup xs)) (h:ShA H xs ds):Sh H (.ref a) (.tuple ds)
inductive ShA (H:Hp):List V->List PyData->Prop
 |nil:ShA H [] []
 |cons {x:V} {xs:List V} {d:PyData} {ds:List PyData} (h:Sh H x d) (hs:ShA H xs ds):ShA H (x::xs) (d::ds)
end
mutual
theorem Sh.keep {H H':Hp}(s:i6 H H'):∀{v:V} {d:PyData},Sh H v d->Sh H' v d
 |_,_,.non=> .non
 |_,_,.bl b=> .bl b
 |_,_,.int i=> .int i
 |_,_,.str x=> .str x
 |_,_,.lst e h=> .lst (s _ _ e) (ShA.keep s h)
 |_,_,.tup e h=> .tup (s _ _ e) (ShA.keep s h)
theorem ShA.keep {H H':Hp}(s:i6 H H'):∀{v:List V} {d:List PyData},ShA H v d->ShA H' v d
 |_,_,.nil=> .nil
 |_,_,.cons h hs=> .cons (Sh.keep s h) (ShA.keep s hs)
end
theorem az1:∀(ts:List Str) (k:Nat) (acc:Str) (m:Nat),(∀t∈ts,t.length<=m)->(textFrom k acc ts).length<=acc.length+ts.length*(m+2)
 |[],k,acc,m,_=>by show acc.length<=_;omega
 |t::r,k,acc,m,h=>by
  have ih:=az1 r (k+1) (acc++(if k > 0 then ", " else "":String)++t) m fun x hx=>h x (dt8 _ hx)
  have ht:=h t dt6
  have el:((acc++(if k > 0 then ", " else "":String)++t:Str)).length<=acc.length+2+t.length:=by
    rw[strLen_append,strLen_append]
    by_cases z:k > 0
    · rw[if_pos z];exact dt7 _
    · rw[if_neg z];have:(("":String):Str).length=0:=rfl;omega
  show (textFrom (k+1) (acc++(if k > 0 then ", " else "":String)++t) r).length<=_;rw[du9,Nat.succ_mul];omega
theorem az2 {ts:List Str}{m:Nat}(h:∀t∈ts,t.length<=m):(listText ts).length<=2+ts.length*(m+2):=by
 unfold listText;rw[strLen_append];have:=az1 ts 0 "[" m h;have e1:(("[":String):Str).length=1:=rfl;have e2:(("]":String):Str).length=1:=rfl;omega
section
variable {X:Cx} {p pos:Pos} {e:Expr} {t:TA}
theorem cf3:bootBuiltins "repr"=some (.builtin "repr"):=by decide+kernel
end
end L2
namespace L2
open PySem PySem.Spec PyProof.Rows
def ah4 (a b:Sp):Sp:=fun vs H Q E=>a vs H Q E\/b vs H Q E
section
variable {P:Program} {w:World} {K:PySem.W.Frag} {mg:Str->Option Value} {base:Heap} {CX:CXT} {k:Nat} {f:Addr} {fd:FuncData} {ps:List Str} {a b:Sp}
theorem bo9 (x:w6 P w K mg base CX k f fd ps a)(y:w6 P w K mg base CX k f fd ps b):w6 P w K mg base CX k f fd ps (ah4 a b):=
 ⟨fun vs H Q E h=>h.elim (x.len vs H Q E) (y.len vs H Q E),fun A outer s H args us vs Q E r e bt v h=>h.elim (x.run A outer s H args us vs Q E r e bt v) (y.run A outer s H args us vs Q E r e bt v)⟩
theorem aj7 {x:Str}(c:B7 P w K mg base x k ps (ah4 a b)):B7 P w K mg base x k ps a:=by
 obtain ⟨f,fd,h1,h2,h3,h4⟩:=c;exact ⟨f,fd,h1,h2,h3,h4.imp fun vs H Q E z=> .inl z⟩
end
theorem M3 (K:PySem.W.Frag){a b:String}(h0:((Value.type a==Value.type b)=true)->False)(h1:PySem.W.kitMeta b=true)(h2:(fastBuiltinMro a).map (·.contains (Value.type b))=some false):PySem.W.kitOne K (.type a) (.type b)=some false:=by
 unfold PySem.W.kitOne PySem.W.kitCls;rw[if_neg h0];show (if PySem.W.kitMeta b=true then (fastBuiltinMro a).map (·.contains (Value.type b)) else none)=some false;rw[if_pos h1];exact h2
theorem bs4 (K:PySem.W.Frag):PySem.W.kitOne K (.type "NoneType") (.type "int")=some false:=M3 K (by decide+kernel) (by decide+kernel) (by decide+kernel)
theorem bm7 (K:PySem.W.Frag):PySem.W.kitOne K (.type "NoneType") (.type "bool")=some false:=M3 K (by decide+kernel) (by decide+kernel) (by decide+kernel)
theorem bm8 (K:PySem.W.Frag):PySem.W.kitOne K (.type "NoneType") (.type "list")=some false:=M3 K (by decide+kernel) (by decide+kernel) (by decide+kernel)
theorem by3 (K:PySem.W.Frag):PySem.W.kitOne K (.type "str") (.type "int")=some false:=M3 K (by decide+kernel) (by decide+kernel) (by decide+kernel)
theorem bs5 (K:PySem.W.Frag):PySem.W.kitOne K (.type "str") (.type "bool")=some false:=M3 K (by decide+kernel) (by decide+kernel) (by decide+kernel)
theorem bs6 (K:PySem.W.Frag):PySem.W.kitOne K (.type "str") (.type "list")=some false:=M3 K (by decide+kernel) (by decide+kernel) (by decide+kernel)
theorem bs7 (K:PySem.W.Frag):PySem.W.kitOne K (.type "list") (.type "int")=some false:=M3 K (by decide+kernel) (by decide+kernel) (by decide+kernel)
theorem bm9 (K:PySem.W.Frag):PySem.W.kitOne K (.type "list") (.type "bool")=some false:=M3 K (by decide+kernel) (by decide+kernel) (by decide+kernel)
theorem bg1 (K:PySem.W.Frag):PySem.W.kitOne K (.type "tuple") (.type "list")=some false:=M3 K (by decide+kernel) (by decide+kernel) (by decide+kernel)
theorem bn0 (K:PySem.W.Frag):PySem.W.kitOne K (.type "dict") (.type "list")=some false:=M3 K (by decide+kernel) (by decide+kernel) (by decide+kernel)
theorem au3 (K:PySem.W.Frag):PySem.W.kitOne K (.type "int") (.type "list")=some false:=M3 K (by decide+kernel) (by decide+kernel) (by decide+kernel)
end L2
namespace L2
open PySem PySem.Spec PyProof.Rows
def ak7 (H H':Hp):Hp:=fun a=>match H a with
 |none=>H' a
 |some _=>none
theorem aj8 {H H':Hp}{a:Addr}{o:HO}(h:ak7 H H' a=some o):H a=none/\H' a=some o:=by
 unfold ak7 at h
 cases e:H a with
 |none=>rw[e] at h;exact ⟨rfl,h⟩
 |some x=>rw[e] at h;cases h
theorem ax3 {H H':Hp}{a:Addr}{o:HO}(h0:H a=none)(h:H' a=some o):ak7 H H' a=some o:=by
 unfold ak7;rw[h0];exact h
theorem bs8 {H H1 H2:Hp}(s:i6 H1 H2):i6 (ak7 H H1) (ak7 H H2):=fun a o h=>ax3 (aj8 h).1 (s _ _ (aj8 h).2)
theorem dh7 {H H1 H2:Hp}(s:i6 H H1):i6 (ak7 H1 H2) (ak7 H H2):=fun a o h=>ax3 (s.free (aj8 h).1) (aj8 h).2
theorem ShA.length {H:Hp}:∀{xs:List V} {ds:List PyData},ShA H xs ds->xs.length=ds.length
 |_,_,.nil=>rfl
 |_,_,.cons _ h=>congrArg Nat.succ h.length
def af8 (f:Expr->Option PyData):List Expr->Option (List PyData)
 |[]=>some []
 |e::es=>(f e).bind fun d=>(af8 f es).map (d:: ·)
theorem ak8 {f:Expr->Option PyData}:∀{es:List Expr} {ds:List PyData},af8 f es=some ds->ds.length=es.length
 |[],ds,h=>by cases (Option.some.inj h);rfl
 |e::es,ds,h=>by
  obtain ⟨d,hd,h⟩:=ei6.mp h;obtain ⟨r,hr,rfl⟩:=ee8.mp h;exact congrArg Nat.succ (ak8 hr)
def T8:Nat->Expr->Option PyData
 |0,_=>none
 |_+1,.Constant .none _ _=>some .none
 |_+1,.Constant (.bool b) _ _=>some (.bool b)
 |_+1,.Constant (.int i) _ _=>some (.int i)
 |_+1,.Constant (.str x) _ _=>some (.str x)
 |n+1,.UnaryOp .USub e _=>match T8 n e with
  |some (.int i)=>some (.int (-i))
  |_=>none
 |n+1,.BinOp a .Pow b _=>match T8 n a,T8 n b with
  |some (.int i),some (.int j)=>if 0<=j/\j<=1000000/\i.natAbs < 2^64 then some (.int (i^j.toNat)) else none
  |_,_=>none
 |n+1,.List es _=>if es.length<=1000 then (af8 (T8 n) es).map .list else none
 |n+1,.Tuple es _ _=>if es.length<=1000 then (af8 (T8 n) es).map .tuple else none
 |_+1,_=>none
def cz2 (d:PyData):TE:=fun _ H Q=>∀v H',i6 H H'->Sh (ak7 H H') v d->Q v H'
def cm7 (ds:List PyData):TA:=fun _ H Q=>∀xs H',i6 H H'->ShA (ak7 H H') xs ds->Q xs H'
theorem cm8 {env:Env}{es:List Expr}:∀{n:Nat} {e:Expr} {d:PyData},T8 n e=some d->starEach (e::es) env=(false,eval e env)::starEach es env
 |0,_,_,h=>by cases h
 |n+1,e,d,h=>by
  unfold T8 at h
  split at h
  all_goals first
    |rfl
    |cases h
theorem ap2 {X:Cx}{n:Nat}(hf:∀(e:Expr) (d:PyData),T8 n e=some d->PE X e (cz2 d)):∀{es:List Expr} {ds:List PyData},af8 (T8 n) es=some ds->PA X es (cm7 ds)
 |[],ds,h=>by
  cases (Option.some.inj h)
  exact fun pos pins s σ H Q I h=>i4 pos pins s σ H Q I (h [] H (i6.refl H) .nil)
 |e::es,ds,h=>by
  obtain ⟨d,hd,h⟩:=ei6.mp h;obtain ⟨r,hr,rfl⟩:=ee8.mp h
  refine fun pos pins s σ H Q I h=>c9 (hf e d hd) (ap2 hf hr) (cm8 hd) pos pins s σ H Q I ?_
  intro v H1 s1 sh xs H2 s2 sa;exact h (v::xs) H2 (s1.trans s2) (.cons (sh.keep (bs8 s2)) (sa.keep (dh7 s1)))
theorem cb1 {X:Cx}:∀(n:Nat) (e:Expr) (d:PyData),T8 n e=some d->PE X e (cz2 d)
 |0,_,_,h=>by cases h
 |n+1,e,d,h=>by
  have ih:=fun e d=>cb1 (X:=X) n e d
  unfold T8 at h
  split at h
  · rename_i e0;cases e0
  · cases h;exact fun pins s σ H Q I h=>G4 pins s σ H Q I (h _ _ (i6.refl H) .non)
  · cases h;exact fun pins s σ H Q I h=>G1 pins s σ H Q I (h _ _ (i6.refl H) (.bl _))
  · cases h;exact fun pins s σ H Q I h=>i9 pins s σ H Q I (h _ _ (i6.refl H) (.int _))
  · cases h;exact fun pins s σ H Q I h=>o6 pins s σ H Q I (h _ _ (i6.refl H) (.str _))
  · rename_i e0;obtain rfl:=Nat.succ.inj e0
    split at h
    · rename_i i hi;cases h
      refine fun pins s σ H Q I h=>aw7 al7 (ih _ _ hi) pins s σ H Q I fun v H' s' sh=> ?_
      cases sh;exact ⟨i,rfl,h _ _ s' (.int _)⟩
    · cases h
  · rename_i e0;obtain rfl:=Nat.succ.inj e0
    split at h
    · rename_i i j hi hj
      split at h
      · rename_i hc;cases h
        refine fun pins s σ H Q I h=>k7 bc7 (ih _ _ hi) (ih _ _ hj) pins s σ H Q I fun v H1 s1 sh=> ?_
        cases sh;intro v2 H2 s2 sh2;cases sh2;exact ⟨i,j,rfl,rfl,hc,h _ _ (s1.trans s2) (.int _)⟩
      · cases h
    · cases h
  · rename_i e0;obtain rfl:=Nat.succ.inj e0
    split at h
    · rename_i hl;obtain ⟨ds,hd,rfl⟩:=ee8.mp h
      refine fun pins s σ H Q I h=>w4 (ap2 ih hd) pins s σ H Q I fun xs H1 s1 sa=>⟨?_,fun p hp=> ?_⟩
      · rw[sa.length,ak8 hd,sizeLine_eq];omega
      · have s2:i6 H1 (i8 H1 p (.lst xs)):=i6.upd_new hp;exact h _ _ (s1.trans s2) (.lst (ax3 (s1.free hp) j6) (sa.keep (bs8 s2)))
    · cases h
  · rename_i e0;obtain rfl:=Nat.succ.inj e0
    split at h
    · rename_i hl;obtain ⟨ds,hd,rfl⟩:=ee8.mp h
      refine fun pins s σ H Q I h=>X9 (ap2 ih hd) pins s σ H Q I fun xs H1 s1 sa=>⟨?_,fun p hp=> ?_⟩
      · rw[sa.length,ak8 hd,sizeLine_eq];omega
      · have s2:i6 H1 (i8 H1 p (.tup xs)):=i6.upd_new hp;exact h _ _ (s1.trans s2) (.tup (ax3 (s1.free hp) j6) (sa.keep (bs8 s2)))
    · cases h
  · cases h
theorem aa8 {X:Cx}(n:Nat){es:List Expr}(ds:List PyData)(h:af8 (T8 n) es=some ds):PA X es (cm7 ds):=ap2 (cb1 n) h
end L2
namespace L2
open PySem PySem.Spec PyProof.Rows
theorem bs9 {K:Type}:∀{ts:List Str} {us:List Value},r6 (ts.map V.str) us->∃l:List (Str×Tok),us=strValues l/\l.map (·.1)=ts
 |[],us,h=>by cases h;exact ⟨[],rfl,rfl⟩
 |t::ts,us,h=>by
  cases h with
  |cons r h=>
   obtain ⟨l,rfl,e⟩:=bs9 (K:=K) h;obtain ⟨k,rfl⟩:=r;exact ⟨(t,k)::l,rfl,by rw[dv7,e]⟩
theorem bt0:∀(l:List (Str×Tok)),r6 ((l.map (·.1)).map V.str) (strValues l)
 |[]=> .nil
 |p::l=> .cons ⟨p.2,rfl⟩ (bt0 l)
section
variable {X:Cx} {p pos apos:Pos} {e o:Expr} {es:List Expr} {t:TA} {to:TE}
theorem am5 (hm:X.mg "str"=none)(ha:PA X [e] t)(hg:Gl X "str":=by rfl)(he:starEach [e] X.env=(false,eval e X.env)::starEach [] X.env:=by rfl):
   PE X (.Call (.Name "str" p) [e] [] pos) (X4 (fun xs H Q=>∃i,xs=[.int i]/\i.natAbs.log2 < 1920/\Q (.str (toString i)) H) t):=
 Q3 bq3 hg hm aj5 ha (by decide) (by decide) he rfl
def cf4 (K:PySem.W.Frag):V->List V->Hp->VK->Prop:=fun x xs H Q=>∃sep a ts,x= .str sep/\xs=[.ref a]/\j7 K H a (ts.map V.str)/\JoinOk sep ts=true/\Q (.str (Txt.join sep ts)) H
theorem dc1:MtR X "str.join" (cf4 X.K):=by
 intro pins s σ H x vs v us Q I rx rv h;obtain ⟨sep,a,ts,rfl,rfl,hx,ok,q⟩:=h;obtain ⟨k,rfl⟩:=rx;obtain ⟨u,rfl,ru⟩:=rv.one;cases ru;obtain ⟨its,r,ht,hz⟩:=I.list hx;obtain ⟨l,rfl,el⟩:=bs9 (K:=Unit) r
 exact SC.join ht.isList el ok fun t' k'=>⟨.str _,H,I.tok k',⟨_,rfl⟩,q⟩
theorem af9 (ho:PE X o to)(ha:PA X [e] t)
   (hbase:attributeBase o "join" X.env (eval o X.env)=eval o X.env:=by rfl)
   (hfew:((backTo pos (starEach [e] X.env)).all (fun x=> !x.1)&&(backToKw pos (keywordEach [] X.env)).all (fun x=>x.1.isSome)
     &&decide ([e].length+([]:List Keyword).length+(if ([]:List Keyword).isEmpty then 0 else 1) < 30))=true:=by rfl)
   (hline:(apos.endLine==pos.line)=true:=by rfl) (hs:starEach [e] X.env=(false,eval e X.env)::starEach [] X.env:=by rfl) (hplain:(backTo pos (starEach [] X.env)).any (·.1)=false:=by rfl):
   PE X (.Call (.Attribute o "join" apos) [e] [] pos) (tBM X.K "str" (cf4 X.K) to t):=
 an9 PySem.F.plainAttrs_str PySem.F.slot_str_join PySem.F.type_str_join dc1 ho ha hbase hfew hline hs hplain
def cm9:V->List V->Hp->VK->Prop:=fun x xs H Q=>∃y sep,x= .str y/\xs=[.str sep]/\(sep.length==0)=false/\y.length<=sizeLine/\(Builtin.Str.partsBetween y (Builtin.Str.occurrences y sep 0 y.length (y.length+1)) sep.length).length<=sizeLine/\(Txt.split y sep).length<=sizeLine/\
 ∀l,H l=none->Q (.ref l) (i8 H l (.lst ((Txt.split y sep).map V.str)))
theorem cu0:MtR X "str.split" cm9:=by
 intro pins s σ H x vs v us Q I rx rv h;obtain ⟨y,sep,rfl,rfl,h0,z1,z2,z3,q⟩:=h;obtain ⟨k,rfl⟩:=rx;obtain ⟨u,rfl,ru⟩:=rv.one;obtain ⟨k2,rfl⟩:=ru
 have fin:∀(l:List (Str×Tok)) (tk:Nat),l.map (·.1)=Txt.split y sep->∃(z:V) (H':Hp),j5 X pins σ H' {s with toks:=tk,heap:=s.heap.push {cls:= .type "list",data:= .seq (strValues l).toArray}}/\A7 z (.ref s.heap.objs.size)/\Q z H':=fun l tk e=>by
   refine ⟨.ref s.heap.objs.size,_,I.laid (t':=tk) (o:= .lst ((Txt.split y sep).map V.str)) (fun b ob g=>Heap.get?_push_of_some _ g) (dt7 _) ?_,rfl,q _ (I.hok.fresh (dt7 _))⟩;exact ⟨by rw[dt3];exact z3,_,0,by rw[<-e];exact bt0 l,Heap.get?_push_size _ rfl⟩
 by_cases c1:(decide (y.length < sep.length)||decide (Builtin.Str.strKind y < Builtin.Str.strKind sep))=true
 · refine call_meets F.slot_str_split (typeIs_str _ _ _) F.entry_str_split (F.args_str_split_2 _ _) (meets_str_split_cannot_occur y sep k k2 c1) ?_;exact fin [(y,k)] s.toks (if_pos c1).symm
 · by_cases c2:(Builtin.Str.occurrences y sep 0 y.length (y.length+1)).isEmpty=true
   · refine call_meets F.slot_str_split (typeIs_str _ _ _) F.entry_str_split (F.args_str_split_2 _ _) (meets_str_split_not_found y sep k k2 (eg1.mpr c1) h0 c2) ?_;exact fin [(y,k)] s.toks ((if_neg c1).trans (if_pos c2)).symm
   · refine call_meets F.slot_str_split (typeIs_str _ _ _) F.entry_str_split (F.args_str_split_2 _ _) (meets_str_split_sep y sep k k2 (eg1.mpr c1) h0 (eg1.mpr c2) z1 z2) ?_;have:=fin (PySem.numbered s.toks (Builtin.Str.partsBetween y (Builtin.Str.occurrences y sep 0 y.length (y.length+1)) sep.length)) (s.toks+(Builtin.Str.partsBetween y (Builtin.Str.occurrences y sep 0 y.length (y.length+1)) sep.length).length) ((numbered_texts _ _).trans ((if_neg c1).trans (if_neg c2)).symm);rw[<-strsFrom_eq] at this;exact this
theorem bb0 (ho:PE X o to)(ha:PA X [e] t)
   (hbase:attributeBase o "split" X.env (eval o X.env)=eval o X.env:=by rfl)
   (hfew:((backTo pos (starEach [e] X.env)).all (fun x=> !x.1)&&(backToKw pos (keywordEach [] X.env)).all (fun x=>x.1.isSome)
     &&decide ([e].length+([]:List Keyword).length+(if ([]:List Keyword).isEmpty then 0 else 1) < 30))=true:=by rfl)
   (hline:(apos.endLine==pos.line)=true:=by rfl) (hs:starEach [e] X.env=(false,eval e X.env)::starEach [] X.env:=by rfl) (hplain:(backTo pos (starEach [] X.env)).any (·.1)=false:=by rfl):
   PE X (.Call (.Attribute o "split" apos) [e] [] pos) (tBM X.K "str" cm9 to t):=
 an9 PySem.F.plainAttrs_str PySem.F.slot_str_split PySem.F.type_str_split cu0 ho ha hbase hfew hline hs hplain
def dq7:V->Option Int->Option Int->Hp->VK->Prop:=fun x lo hi H Q=>∃y,x= .str y/\y.length<=sizeLine/\Q (.str (Txt.slice y lo hi)) H
theorem U0:SlR X dq7:=by
 intro pins s σ H x v vl vu lo hi sl Q I rx hs pl pu h;obtain ⟨y,rfl,hz,q⟩:=h;obtain ⟨k,rfl⟩:=rx;refine ⟨"str",_,F.slot_str_getitem.lookup,typeIs_str _ _ _,?_⟩
 have part:∀{w:Value} {n:Option Int},IsPart w n->∃z:Option (Int×Tok),w=partValue z/\z.map (·.1)=n:=fun h=>by
   cases h with
   |none=>exact ⟨none,rfl,rfl⟩
   |int i t=>exact ⟨some (i,t),rfl,rfl⟩
 obtain ⟨zl,rfl,el⟩:=part pl;obtain ⟨zu,rfl,eu⟩:=part pu;refine wpAny_getItem_str_slice (l:=zl) (u:=zu) (st:=none) hs rfl ?_;refine post_val_or_str ?_;have sz:=Txt.slice_le y lo hi;subst el eu;exact ⟨du3 sz hz,fun t' k'=>⟨.str _,H,I.tok k',⟨_,rfl⟩,q⟩⟩
end
end L2
namespace L2
open PySem PySem.Spec PyProof.Rows
section
variable {X:Cx}
theorem cu1 {e:Expr}:PE X e (fun _ _ _=>False):=fun _ _ _ _ _ _ h=>h.elim
theorem dh8 {o:Expr}{to:TE}{apos pos:Pos}(ho:PE X o to)(hbase:attributeBase o "pop" X.env (eval o X.env)=eval o X.env:=by rfl)(hline:(apos.endLine==pos.line)=true:=by rfl):
 PE X (.Call (.Attribute o "pop" apos) [] [] pos) (dg2 X.K "list" dg4 to):=dg3 PySem.F.plainAttrs_list PySem.F.slot_list_pop PySem.F.type_list_pop dg5 ho hbase hline
theorem cn0 (K:PySem.W.Frag){o e:Expr}{to:TE}{t:TA}{apos pos:Pos}(ho:PE X o to)(ha:PA X [e] t)(hK:X.K=K:=by rfl)
   (hbase:attributeBase o "pop" X.env (eval o X.env)=eval o X.env:=by rfl)
   (hfew:((backTo pos (starEach [e] X.env)).all (fun x=> !x.1)&&(backToKw pos (keywordEach [] X.env)).all (fun x=>x.1.isSome)
     &&decide ([e].length+([]:List Keyword).length+(if ([]:List Keyword).isEmpty then 0 else 1) < 30))=true:=by rfl)
   (hline:(apos.endLine==pos.line)=true:=by rfl) (hs:starEach [e] X.env=(false,eval e X.env)::starEach [] X.env:=by rfl) (hplain:(backTo pos (starEach [] X.env)).any (·.1)=false:=by rfl):
   PE X (.Call (.Attribute o "pop" apos) [e] [] pos) (tBM K "list" bq9 to t):=by
 subst hK;exact an9 PySem.F.plainAttrs_list PySem.F.slot_list_pop PySem.F.type_list_pop br0 ho ha hbase hfew hline hs hplain
end
end L2
namespace Mth
def ae8 (sep:List Nat):List (List Nat)->List Nat
 |[]=>[]
 |[p]=>p
 |p::q::r=>p++sep++ae8 sep (q::r)
def bp0 (w:Nat):Nat->List (List Nat)->List Nat
 |_,[]=>[]
 |_,[_]=>[]
 |a,p::q::r=>(a+p.length)::bp0 w (a+p.length+w) (q::r)
def bt1 (xs:List Nat)(w:Nat):Nat->List Nat->List (List Nat)
 |a,[]=>[(xs.drop a).take (xs.length - a)]
 |a,c::r=>(xs.drop a).take (c - a)::bt1 xs w (c+w) r
def mL (xs sep:List Nat)(i:Nat):Bool:=(xs.drop i).take sep.length==sep
theorem cu2 {xs rest:List Nat}{c0 i:Nat}(h:mL xs (c0::rest) i=true):xs[i]? =some c0:=by
 have h:(xs.drop i).take (rest.length+1)=c0::rest:=eq_of_beq h;have h2:=congrArg (fun l=>l[0]?) h;simp only[List.getElem?_cons_zero] at h2;rw[dy3 (by omega),ee4] at h2
 simpa using h2
theorem bb1 {xs rest:List Nat}{c0 a m:Nat}(h:∀i,a<=i->i < a+m->xs[i]? ≠some c0):(eb3 a m).filter (mL xs (c0::rest))=[]:=by
 rw[List.filter_eq_nil_iff];intro i hi;have:=List.mem_range'_1.mp hi
 exact fun z=>h i this.1 this.2 (cu2 z)
theorem cn1 {sep:List Nat}:∀{p:List Nat} {r:List (List Nat)},p.length<=(ae8 sep (p::r)).length
 |p,[]=>dt7 _
 |p,q::r=>by show p.length<=(p++sep++ae8 sep (q::r)).length;simp only[dt4];omega
theorem dq8 {rest:List Nat}{c0:Nat}(h0:c0∉rest):∀(parts:List (List Nat)) (pre xs:List Nat),parts≠[]->(∀p∈parts,c0∉p)->xs=pre++ae8 (c0::rest) parts->
   (eb3 pre.length (xs.length+1 - pre.length)).filter (mL xs (c0::rest))=bp0 (rest.length+1) pre.length parts
 |[],_,_,h,_,_=>absurd rfl h
 |[p],pre,xs,_,hp,e=>by
  show _=[];have e:xs=pre++p:=e
  refine bb1 fun i h1 h2 z=> ?_
  have hl:i < xs.length:=(dt9.mp z).1;rw[e,dw5 h1] at z;exact hp p dt6 (du8 z)
 |p::q::r,pre,xs,_,hp,e=>by
  have e:xs=pre++(p++(c0::rest)++ae8 (c0::rest) (q::r)):=e
  have el:xs.length=pre.length+p.length+(rest.length+1)+(ae8 (c0::rest) (q::r)).length:=by
    rw[e];simp only[dt4,du9];omega
  have ih:=dq8 h0 (q::r) (pre++p++(c0::rest)) xs (by simp) (fun y hy=>hp y (dt8 _ hy)) (by rw[e];simp only[dv0])
  have lpre:(pre++p++(c0::rest)).length=pre.length+p.length+(rest.length+1):=by simp only[dt4,du9]
  rw[lpre] at ih
  have spl:eb3 pre.length (xs.length+1 - pre.length)=eb3 pre.length p.length++(eb3 (pre.length+p.length) 1++(eb3 (pre.length+p.length+1) rest.length++eb3 (pre.length+p.length+(rest.length+1)) (xs.length+1 - (pre.length+p.length+(rest.length+1))))):=by
    rw[show pre.length+p.length+(rest.length+1)=pre.length+p.length+1+rest.length by omega];rw[eg8,eg8,eg8]
    congr 1;omega
  rw[spl,eh6,eh6,eh6,ih];rw[bb1 (fun i h1 h2 z=> ?_),bb1 (a:=pre.length+p.length+1) (fun i h1 h2 z=> ?_)]
  · have:mL xs (c0::rest) (pre.length+p.length)=true:=by
      unfold mL
      have:xs.drop (pre.length+p.length)=(c0::rest)++ae8 (c0::rest) (q::r):=by
        rw[e,<-dv0,<-dv0,dv0,List.drop_left' (by simp only[dt4])]
      rw[this,ej4];exact beq_self_eq_true _
    show []++(List.filter _ [pre.length+p.length]++([]++_))=_;rw[ei7 this];rfl
  · rw[e,dw5 (by omega),dv0,dw5 (by omega),ec8] at z;rw[show i - pre.length - p.length=(i - pre.length - p.length - 1)+1 by omega,ef7,dx9 (by omega)] at z;exact h0 (du8 z)
  · rw[e,dw5 (by omega),dv0,dx9 (by omega)] at z;exact hp p dt6 (du8 z)
theorem cu3 {sep:List Nat}:∀(parts:List (List Nat)) (pre xs:List Nat),parts≠[]->xs=pre++ae8 sep parts->bt1 xs sep.length pre.length (bp0 sep.length pre.length parts)=parts
 |[],_,_,h,_=>absurd rfl h
 |[p],pre,xs,_,e=>by
  have e:xs=pre++p:=e;show [(xs.drop pre.length).take (xs.length - pre.length)]=[p];rw[e,List.drop_left,dt4,ef8,dx2]
 |p::q::r,pre,xs,_,e=>by
  have e:xs=pre++(p++sep++ae8 sep (q::r)):=e;have ih:=cu3 (sep:=sep) (q::r) (pre++p++sep) xs (by simp) (by rw[e];simp only[dv0])
  have lpre:(pre++p++sep).length=pre.length+p.length+sep.length:=by simp only[dt4]
  rw[lpre] at ih;show (xs.drop pre.length).take (pre.length+p.length - pre.length)::bt1 xs sep.length (pre.length+p.length+sep.length) (bp0 sep.length (pre.length+p.length+sep.length) (q::r))=_;rw[ih,e,List.drop_left,ef8,dv0,ej4]
end Mth
namespace L2
open PySem PySem.Builtin PySem.Builtin.Str PySem.StrLaws
def mS (s sub:Str)(hi i:Nat):Bool:=decide (i+sub.length<=hi)&&subAt s sub i
theorem bb2 (s sub:Str)(hi limit:Nat)(sep:∀i j,i < j->mS s sub hi i=true->mS s sub hi j=true->i+sub.length<=j):∀(m a:Nat) (st:Array Nat×Nat),st.fst.size<=a->a+m<=limit->(∀i,a<=i->mS s sub hi i=true->st.snd<=i)->
   (forIn (eb3 a m) st (occBody s sub hi limit)).run.fst.toList=st.fst.toList++(eb3 a m).filter (mS s sub hi)
 |0,a,st,_,_,_=>by
  show st.fst.toList=st.fst.toList++[];rw[dw7]
 |m+1,a,st,h1,h2,h3=>by
  rw[List.range'_succ,ej1]
  by_cases hm:mS s sub hi a=true
  · have c:((st.fst.size < limit/\st.snd<=a)/\a+sub.length<=hi)/\subAt s sub a=true:=by
      have z:=hm;unfold mS at z;rw[dy6] at z;exact ⟨⟨⟨by omega,h3 a (dt7 _) hm⟩,of_decide_eq_true z.1⟩,z.2⟩
    have e:occBody s sub hi limit a st=pure (ForInStep.yield (st.fst.push a,a+sub.length)):=if_pos c;rw[e,ei7 hm];show (forIn (eb3 (a+1) m) (st.fst.push a,a+sub.length) (occBody s sub hi limit)).run.fst.toList=_;rw[bb2 s sub hi limit sep m (a+1) (st.fst.push a,a+sub.length) (by rw[Array.size_push];omega) (by omega) (fun i hi' mi=>sep a i (by omega) hm mi)];rw[ec1,dv0];rfl
  · have c:¬(((st.fst.size < limit/\st.snd<=a)/\a+sub.length<=hi)/\subAt s sub a=true):=fun z=>hm (by
      unfold mS;rw[dy6]
      exact ⟨decide_eq_true z.1.2,z.2⟩)
    have e:occBody s sub hi limit a st=pure (ForInStep.yield (st.fst,st.snd)):=if_neg c;rw[e,List.filter_cons_of_neg hm];show (forIn (eb3 (a+1) m) (st.fst,st.snd) (occBody s sub hi limit)).run.fst.toList=_;rw[bb2 s sub hi limit sep m (a+1) (st.fst,st.snd) (by show st.fst.size<=a+1;omega) (by omega) (fun i hi' mi=>h3 i (by omega) mi)]
theorem cf5 {s sub:Str}(sep:∀i j,i < j->mS s sub s.length i=true->mS s sub s.length j=true->i+sub.length<=j):occurrences s sub 0 s.length (s.length+1)=(eb3 0 (s.length+1)).filter (mS s sub s.length):=by
 rw[occ_eq];show (forIn (eb3 0 (s.length+1 - 0)) ((#[]:Array Nat),0) (occBody s sub s.length (s.length+1))).run.fst.toList=_;rw[bb2 s sub s.length (s.length+1) sep _ 0 (#[],0) (by simp) (by omega) (fun i _ _=>dv5 _)];rfl
theorem dm5 {s sub:Str}{c0:Nat}{rest:List Nat}(hs:sub.cps.toList=c0::rest)(i:Nat):mS s sub s.length i=Mth.mL s.cps.toList (c0::rest) i:=by
 have lw:sub.length=(c0::rest).length:=by rw[<-hs];rfl
 have ls:s.length=s.cps.toList.length:=rfl;unfold mS Mth.mL;rw[subAt_eq,lw,hs]
 by_cases h:i+(c0::rest).length<=s.length
 · rw[decide_eq_true h,Bool.true_and]
 · rw[decide_eq_false h,Bool.false_and]
   symm
   rw[beq_eq_false_iff_ne];intro e;have:=congrArg dz3 e;rw[du5,dv1] at this;rw[du9] at this h;omega
theorem dh9 {xs rest:List Nat}{c0:Nat}(h0:c0∉rest){i j:Nat}(hij:i < j)(hi:Mth.mL xs (c0::rest) i=true)(hj:Mth.mL xs (c0::rest) j=true):i+(c0::rest).length<=j:=by
 rcases Nat.lt_or_ge j (i+(c0::rest).length) with z|z
 · exfalso;have e:(xs.drop i).take (c0::rest).length=c0::rest:=eq_of_beq hi
   have h2:((xs.drop i).take (c0::rest).length)[j - i]? =(c0::rest)[j - i]? :=by rw[e]
   rw[dy3 (by omega),ee4,show i+(j - i)=j by omega,Mth.cu2 hj,show j - i=(j - i - 1)+1 by omega,ef7] at h2;exact h0 (du8 h2.symm)
 · exact z
theorem O9 {a b:Str}(h:a.cps.toList=b.cps.toList):a=b:=Str.ext' (Array.toList_inj.mp h)
theorem W3 (a b:Str):(a++b).cps.toList=a.cps.toList++b.cps.toList:=by rw[Str.cps_append,dw3]
theorem O3 (sep:Str):∀parts:List Str,(Str.join sep parts).cps.toList=Mth.ae8 sep.cps.toList (parts.map (·.cps.toList))
 |[]=>rfl
 |[p]=>rfl
 |p::q::r=>by
  show (p++sep++Str.join sep (q::r)).cps.toList=p.cps.toList++sep.cps.toList++Mth.ae8 sep.cps.toList ((q::r).map (·.cps.toList));rw[W3,W3,O3 sep (q::r)]
theorem ar4 (x:Str)(w:Nat):∀(cuts:List Nat) (a:Nat),(partsFrom x w a cuts).map (·.cps.toList)=Mth.bt1 x.cps.toList w a cuts
 |[],a=>by
  show [(strSub x a x.length).cps.toList]=_;rw[strSub_toList];rfl
 |c::r,a=>by
  show (strSub x a c).cps.toList::(partsFrom x w (c+w) r).map (·.cps.toList)=_;rw[strSub_toList,ar4 x w r (c+w)];rfl
theorem cu4 {sep:Str}{parts:List Str}{c0:Nat}{rest:List Nat}(hs:sep.cps.toList=c0::rest)(h0:c0∉rest)(hp:∀p∈parts,c0∉p.cps.toList)(ne:parts≠[]):
   occurrences (Str.join sep parts) sep 0 (Str.join sep parts).length ((Str.join sep parts).length+1)=Mth.bp0 (rest.length+1) 0 (parts.map (·.cps.toList)):=by
 have em:∀i,mS (Str.join sep parts) sep (Str.join sep parts).length i=Mth.mL (Str.join sep parts).cps.toList (c0::rest) i:=fun i=>dm5 hs i
 rw[cf5 fun i j hij hi hj=>by
   rw[em] at hi hj;have:=dh9 h0 hij hi hj
   have lw:sep.length=(c0::rest).length:=by rw[<-hs];rfl
   omega]
 rw[show mS (Str.join sep parts) sep (Str.join sep parts).length=Mth.mL (Str.join sep parts).cps.toList (c0::rest) from funext em];have:=Mth.dq8 h0 (parts.map (·.cps.toList)) [] (Str.join sep parts).cps.toList (by simpa using ne) (fun p h=>by obtain ⟨q,hq,rfl⟩:=dv3.mp h;exact hp q hq) (by rw[O3,hs];rfl);exact this
theorem ae9 {sep:Str}{parts:List Str}{c0:Nat}{rest:List Nat}(hs:sep.cps.toList=c0::rest)(h0:c0∉rest)(hp:∀p∈parts,c0∉p.cps.toList)(ne:parts≠[])(k1:Builtin.Str.strKind sep=1):
   Txt.split (Txt.join sep parts) sep=parts/\(partsBetween (Txt.join sep parts) (occurrences (Txt.join sep parts) sep 0 (Txt.join sep parts).length ((Txt.join sep parts).length+1)) sep.length).length=parts.length:=by
 have ej:Txt.join sep parts=Str.join sep parts:=glued_eq_join sep parts;have oc:=cu4 hs h0 hp ne
 have lw:sep.length=rest.length+1:=by show sep.cps.toList.length=_;rw[hs];rfl
 have pb:partsBetween (Str.join sep parts) (occurrences (Str.join sep parts) sep 0 (Str.join sep parts).length ((Str.join sep parts).length+1)) sep.length=parts:=by
   rw[partsBetween_eq,oc,lw];have h:=ar4 (Str.join sep parts) (rest.length+1) (Mth.bp0 (rest.length+1) 0 (parts.map (·.cps.toList))) 0;have h2:=Mth.cu3 (sep:=c0::rest) (parts.map (·.cps.toList)) [] (Str.join sep parts).cps.toList (by simpa using ne) (by rw[O3,hs];rfl);have h3:=h.trans h2;exact (eh5 fun a b e=>O9 e).mp h3
 rw[ej];refine ⟨?_,by rw[pb]⟩
 have kd:¬Builtin.Str.strKind (Str.join sep parts) < Builtin.Str.strKind sep:=by
   rw[k1];unfold Builtin.Str.strKind;split
   · omega
   · split<;>omega
 unfold Txt.split;rw[decide_eq_false kd,Bool.or_false]
 cases parts with
 |nil=>exact absurd rfl ne
 |cons p r=>
  cases r with
  |nil=>
   have:(occurrences (Str.join sep [p]) sep 0 (Str.join sep [p]).length ((Str.join sep [p]).length+1)).isEmpty=true:=by rw[oc];rfl
   rw[if_pos this,ite_self];rfl
  |cons q r=>
   have c1:¬(decide ((Str.join sep (p::q::r)).length < sep.length))=true:=by
     rw[decide_eq_true_iff];show ¬(p++sep++Str.join sep (q::r)).length < sep.length;rw[Str.length_append,Str.length_append];omega
   have c2:¬(occurrences (Str.join sep (p::q::r)) sep 0 (Str.join sep (p::q::r)).length ((Str.join sep (p::q::r)).length+1)).isEmpty=true:=by rw[oc];simp [Mth.bp0]
   rw[if_neg c1,if_neg c2,pb]
end L2
namespace HT
open PySem PySem.Spec PyProof.Rows
open PySem.AutoSeq1
open PySem.MeetsSeq PySem.MeetsSeq2 PySem.MeetsSeq3
theorem bg2 {xs:Array Value}{i:Nat}{x:Value}{r:List Value}(h:xs.toList.drop i=x::r):xs[((i:Nat):Int).toNat]? =some x/\xs.toList.drop (i+1)=r/\i < xs.size:=by
 have hl:i < xs.size:=by
   rcases Nat.lt_or_ge i xs.size with z|z
   · exact z
   · rw[List.drop_of_length_le (by simpa using z)] at h;cases h
 refine ⟨?_,?_,hl⟩
 · rw[dy7,<-dy0];have:=congrArg List.head? h;rw[List.head?_drop] at this
   simpa using this
 · have:=congrArg List.tail h;rw[List.tail_drop] at this;exact this
theorem bt2 {xs:Array Value}{i:Nat}(h:xs.toList.drop i=[]):xs[((i:Nat):Int).toNat]? =none/\xs.size<=i:=by
 have hl:xs.size<=i:=by
   have:=congrArg dz3 h;rw[dv1] at this;simp at this;omega
 exact ⟨by rw[dy7];simp [hl],hl⟩
abbrev cf6 (h:Heap)(a:Addr)(xs:Array Value)(n:Nat):Prop:=h.get? a=some {cls:= .type "list",dict:=none,data:= .seq xs n,slots:= #[]}
theorem dc2 (l b:Addr)(items items2:Array Value)(n n2:Nat):∀(ns ms:List Int) (vs ws:List Value) (i:Nat),IntsAre vs ns->IntsAre ws ms->items.toList.drop i=vs->items2.toList.drop i=ws->i<=items.size->i<=items2.size->
   Meets (Builtin.«list.__eq__.loop» ⟨[.ref l,.ref b,rawInt i,rawInt 0],[]⟩)
     (fun _ R s=>(cf6 s.heap l items n/\cf6 s.heap b items2 n2)/\R (.ok (.ret (.bool (ax0 ns ms)))) s):=by
 intro ns
 induction ns with
 |nil=>
  intro ms vs ws i hv hw e1 e2 i1 i2 prog w A R s h;obtain ⟨h0,g0,d0,k0,o0⟩:=s;obtain ⟨⟨hx,hy⟩,h⟩:=h;cases hv;obtain ⟨g1,z1⟩:=bt2 e1
  wp_walk using wpAny_loadPart' hx,wpAny_loadPart' hy
  rw[g1]
  cases hw with
  |nil=>
   obtain ⟨g2,z2⟩:=bt2 e2
   wp_walk using wpAny_loadPart' hx,wpAny_loadPart' hy
   show R (.ok (.ret (.bool (decide (items.size < items2.size))))) _;rw[decide_eq_false (by omega)];exact h
  |cons c u hw'=>
   obtain ⟨g2,_,z2⟩:=bg2 e2
   wp_walk using wpAny_loadPart' hx,wpAny_loadPart' hy
   show R (.ok (.ret (.bool (decide (items.size < items2.size))))) _;rw[decide_eq_true (by omega)];exact h
 |cons a ns ih=>
  intro ms vs ws i hv hw e1 e2 i1 i2 prog w A R s h;obtain ⟨h0,g0,d0,k0,o0⟩:=s;obtain ⟨⟨hx,hy⟩,h⟩:=h
  cases hv with
  |cons _ t hv'=>
   obtain ⟨g1,d1,z1⟩:=bg2 e1
   wp_walk using wpAny_loadPart' hx,wpAny_loadPart' hy
   rw[g1]
   cases hw with
   |nil=>
    obtain ⟨g2,z2⟩:=bt2 e2;rw[g2]
    wp_walk using wpAny_loadPart' hx,wpAny_loadPart' hy
    show R (.ok (.ret (.bool (decide (items.size < items2.size))))) _;rw[decide_eq_false (by omega)];exact h
   |cons c u hw'=>
    obtain ⟨g2,d2,z2⟩:=bg2 e2;rw[g2];rw[ce5] at h;obtain ⟨e,he,hiff⟩:=cs4 A.in1 ⟨h0,g0,d0,k0,o0⟩ a t c u;refine wpAny_bind (he prog w _ _ ?_)
    cases e with
    |true=>
     rw[if_pos (hiff.mp rfl)] at h
     wp_walk
     rw[show ((i:Int)+1)=((i+1:Nat):Int) from rfl];refine ⟨plainId_quiet plain_eq_loop _,codeAny_builtin entry_eq_loop ?_⟩
     (rw[Around.under_plainId plain_eq_loop _];exact ih _ _ _ (i+1) hv' hw' d1 d2 (by omega) (by omega) prog w A R _ ⟨⟨hx,hy⟩,h⟩)
    |false=>
     rw[if_neg (fun q=>absurd (hiff.mpr q) dv4)] at h;have less:=cs5 A.in1 ⟨h0,g0,d0,k0,o0⟩ a t c u prog w
     wp_walk using wpAny_loadPart' hx,wpAny_loadPart' hy
     rw[g1,g2]
     wp_walk using less
     exact h
theorem di0 (l b:Addr)(items items2:Array Value)(n n2:Nat)(ns ms:List Int)(hi:IntsAre items.toList ns)(hj:IntsAre items2.toList ms):
   Meets (Builtin.«list.__lt__» ⟨[.ref l,.ref b],[]⟩)
     (fun _ R s=>(cf6 s.heap l items n/\cf6 s.heap b items2 n2)/\R (.ok (.ret (.bool (ax0 ns ms)))) s):=by
 intro prog w A R s h;obtain ⟨h0,g0,d0,k0,o0⟩:=s;obtain ⟨⟨hx,hy⟩,h⟩:=h;have sub:=AutoSeq1.sub_list_list
 wp_walk using wpAny_loadPart' hx,wpAny_loadPart' hy
 refine ⟨plainId_quiet plain_eq_loop _,codeAny_builtin entry_eq_loop ?_⟩
 (rw[Around.under_plainId plain_eq_loop _];exact dc2 l b items items2 n n2 ns ms _ _ 0 hi hj rfl rfl (dv5 _) (dv5 _) prog w A R _ ⟨⟨hx,hy⟩,h⟩)
end HT
namespace L2
open PySem PySem.Spec PyProof.Rows
section
variable {prog:Program} {w:World} {A:Around} {E:Value->Shared->Prop} {s:Shared}
def aj9 (h:Heap)(v:Value)(ns:List Int):Prop:=∃p xs n,v= .ref p/\HT.cf6 h p xs n/\IntsAre xs.toList ns
theorem bd8 {α β:Type}{f:α->Sem β}(g:α->β):∀{vs:List α} {Q:List β->Shared->Prop},(∀v,v∈vs->∀R:β->Shared->Prop,R (g v) s->wpAny (model prog w) A (f v) R E s)->Q (vs.map g) s->wpAny (model prog w) A (vs.mapM f) Q E s
 |[],Q,_,q=>by rw[List.mapM_nil];exact wpAny_pure q
 |v::vs,Q,k,q=>by
  rw[List.mapM_cons];refine wpAny_bind (k v (dt6 ..) _ ?_);refine wpAny_bind (bd8 g (fun u hu=>k u (dt8 _ hu)) ?_);exact wpAny_pure q
theorem bt3 {α β:Type}{f:α->Sem β}(g:α->β){vs:List α}{Q:Array β->Shared->Prop}(k:∀v,v∈vs->∀R:β->Shared->Prop,R (g v) s->wpAny (model prog w) A (f v) R E s)(q:Q (vs.map g).toArray s):wpAny (model prog w) A (vs.toArray.mapM f) Q E s:=by
 rw[List.mapM_toArray,map_eq_pure_bind];exact wpAny_bind (bd8 g k (wpAny_pure q))
theorem cf7 (v:Value):firstOfTuple' v=(do
 if (<-typeOf v)!= .type "tuple" then return none
 return (<-Builtin.List.listItems v)[0]?):=rfl
theorem cn2 {v:Value}{ns:List Int}(r:aj9 s.heap v ns){Q:Option Value->Shared->Prop}(k:Q none s):wpAny (model prog w) A (firstOfTuple' v) Q E s:=by
 obtain ⟨p,xs,n,rfl,ox,ix⟩:=r;rw[cf7];refine wpAny_bind (wpAny_typeOf (T:="list") ⟨_,ox,rfl⟩ ?_);rw[if_pos (by decide)];exact wpAny_pure k
theorem cu5 {v:Value}{ns:List Int}(r:aj9 s.heap v ns){Q:Value->Shared->Prop}(k:Q (.type "list") s):wpAny (model prog w) A (typeOf v) Q E s:=by
 obtain ⟨p,xs,n,rfl,ox,ix⟩:=r;exact wpAny_typeOf (T:="list") ⟨_,ox,rfl⟩ k
theorem cn3 {v₁ v₂:Value}{vs:List Value}{Q:SortKind->Shared->Prop}(r:∀v,v∈v₁::v₂::vs->∃ns,aj9 s.heap v ns)(k:Q oneType' s):wpAny (model prog w) A (keyKind' (v₁::v₂::vs).toArray) Q E s:=by
 rw[keyKind'_eq];refine wpAny_bind (bt3 (fun _=>none) (fun v hv R q=>by obtain ⟨ns,z⟩:=r v hv;exact cn2 z q) ?_);rw[if_neg (by simp),if_neg (by simp)];rw[oneTypeOnly'_eq];refine wpAny_bind (wpAny_bind (bt3 (fun _=>Value.type "list") (fun v hv R q=>by obtain ⟨ns,z⟩:=r v hv;exact cu5 z q) ?_))
 have h0:(List.map (fun _=>Value.type "list") (v₁::v₂::vs)).toArray[0]? =some (Value.type "list"):=by simp
 rw[h0]
 dsimp only
 rw[if_pos (by
   simp only[List.all_toArray,List.all_map,ec7];intro _ _
   rfl)]
 exact wpAny_pure (wpAny_pure k)
theorem bk8 (vs:List Value):(pairsOf vs).map (·.2)=vs.toArray:=by
 apply Array.toList_inj.mp
 rw[ei3,pairsOf_toList];exact List.map_snd_zip (dt7 _)
end
end L2
namespace Mth
open L2 (M0)
def af0 (t:List Int)(rs:List (List Int)):Prop:=∀r∈rs,∀j,j < r.length->G5 t (r.getD j 0)=some (r.getD ((j+1)%r.length) 0)
theorem cn4 {t r:List Int}(h:∀j,j < r.length->G5 t (r.getD j 0)=some (r.getD ((j+1)%r.length) 0)):r.map (G5 t)=(r.drop 1++r.take 1).map some:=by
 cases r with
 |nil=>rfl
 |cons a r=>
  refine dy8 fun j=> ?_
  rw[du7,du7]
  by_cases hj:j < (a::r).length
  · have e:=h j hj;rw[dv6,dt5 hj] at e;rw[dt5 hj];show some (G5 t _)=_;rw[show G5 t (a::r)[j]=_ from e];have hl:(a::r).length=r.length+1:=rfl;rw[hl] at hj ⊢;show _=Option.map some (r++[a])[j]?
    by_cases z:j < r.length
    · rw[dw0 (by omega),dx9 z,dv6,ef7,dt5 z];rfl
    · have:j=r.length:=by omega
      subst this;rw[eh1,dw5 (dt7 _),ei8];rfl
  · rw[dv2 (by omega),dv2 (by
      show (r++[a]).length<=j;rw[dt4];have:(a::r).length=r.length+1:=rfl
      simp only[dy4];omega)]
    rfl
theorem ap3 {t r:List Int}(h:∀j,j < r.length->G5 t (r.getD j 0)=some (r.getD ((j+1)%r.length) 0)){j:Nat}(hj:j < r.length):∀k,it t k (r.getD j 0)=r.getD ((j+k)%r.length) 0
 |0=>by rw[ee1,dw0 hj];rfl
 |k+1=>by
  show nx t (it t k (r.getD j 0))=_;rw[ap3 h hj k];have:=h ((j+k)%r.length) (ec4 _ (by omega));unfold G5 at this;unfold nx;rw[dv6,this];show r.getD (((j+k)%r.length+1)%r.length) 0=_;rw[Nat.mod_add_mod];rfl
theorem cn5 {t:List Int}{rs:List (List Int)}(al:af0 t rs)(nd:rs.flatten.Nodup):∀r∈rs,∀x∈r,ao7 t x=r.length:=by
 intro r hr x hx;obtain ⟨j,hj⟩:=dy5.mp hx;have hjl:j < r.length:=(dt9.mp hj).1
 have ex:x=r.getD j 0:=by rw[dv6,hj];rfl
 have ndr:r.Nodup:=nd.sublist (ed0 hr);subst ex;refine ao8 ⟨by omega,?_,fun i i0 il=> ?_⟩
 · rw[ap3 (al r hr) hjl,dz8,dw0 hjl]
 · rw[ap3 (al r hr) hjl];intro e;have hm:(j+i)%r.length < r.length:=ec4 _ (by omega);rw[dv6,dv6,dt5 hm,dt5 hjl] at e;have e2:=(dx4.mp ndr)
   have ne:(j+i)%r.length≠j:=by
     by_cases z:j+i < r.length
     · rw[dw0 z];omega
     · rw[Nat.mod_eq_sub_mod (by omega),dw0 (by omega)];omega
   rcases Nat.lt_or_gt_of_ne ne with z|z
   · exact dx0.mp e2 _ _ hm hjl z e
   · exact dx0.mp e2 _ _ hjl hm z e.symm
end Mth
namespace TS
open PySem PyProof.Rows
section
variable (rk:Keyed->Nat)
def R (xs:Array Keyed)(i:Nat):Nat:=match xs[i]? with
 |some p=>rk p
 |none=>0
def Up (xs:Array Keyed)(lo hi:Nat):Prop:=∀i j,lo<=i->i<=j->j < hi->R rk xs i<=R rk xs j
def bg3 (xs:Array Keyed)(lo hi:Nat):Prop:=∀i j,lo<=i->i<=j->j < hi->R rk xs j<=R rk xs i
end
def G3 (xs ys:Array Keyed)(lo hi:Nat):Prop:=∀k,k < lo\/hi<=k->ys[k]? =xs[k]?
theorem G3.refl (xs:Array Keyed)(lo hi:Nat):G3 xs xs lo hi:=fun _ _=>rfl
theorem G3.trans {xs ys zs:Array Keyed}{lo hi:Nat}(h:G3 xs ys lo hi)(g:G3 ys zs lo hi):G3 xs zs lo hi:=fun k hk=>(g k hk).trans (h k hk)
theorem G3.wide {xs ys:Array Keyed}{lo hi lo' hi':Nat}(h:G3 xs ys lo hi)(h1:lo'<=lo)(h2:hi<=hi'):G3 xs ys lo' hi':=fun k hk=>h k (by omega)
section
variable {rk:Keyed->Nat}
theorem bg4 {xs ys:Array Keyed}{i j:Nat}(h:xs[i]? =ys[j]?):R rk xs i=R rk ys j:=by unfold R;rw[h]
theorem G3.R {xs ys:Array Keyed}{lo hi k:Nat}(h:G3 xs ys lo hi)(hk:k < lo\/hi<=k):TS.R rk ys k=TS.R rk xs k:=bg4 (h k hk)
theorem G3.up {xs ys:Array Keyed}{lo hi a b:Nat}(h:G3 xs ys lo hi)(u:Up rk xs a b)(hk:b<=lo\/hi<=a):Up rk ys a b:=fun i j h1 h2 h3=>by
 rw[h.R (by omega),h.R (by omega)];exact u i j h1 h2 h3
theorem bt4 {xs:Array Keyed}{src d:Nat}(hs:src < xs.size)(hd:d<=src)(k:Nat):
   R rk (bubble xs src d) k=if k=src - d then R rk xs src else if src - d < k/\k<=src then R rk xs (k - 1) else R rk xs k:=by
 have e:=getElem?_bubble hs d hd k
 split
 · rename_i h;rw[if_pos h] at e;exact bg4 e
 · rename_i h;rw[if_neg h] at e
   split
   · rename_i h2;rw[if_pos h2] at e;exact bg4 e
   · rename_i h2;rw[if_neg h2] at e;exact bg4 e
theorem by4 {xs:Array Keyed}{src d lo hi:Nat}(hs:src < xs.size)(hd:d<=src)(h1:lo<=src - d)(h2:src < hi):G3 xs (bubble xs src d) lo hi:=fun k hk=>by
 rw[getElem?_bubble hs d hd k,if_neg (by omega),if_neg (by omega)]
theorem bb3 {xs:Array Keyed}{i j:Nat}(hj:j<=xs.size)(k:Nat):R rk (mirror xs i j ((j - i)/2)) k=if i<=k/\k < j then R rk xs (i+j - 1 - k) else R rk xs k:=by
 have e:=getElem?_mirror_all (i:=i) hj k
 split
 · rename_i h;rw[if_pos h] at e;exact bg4 e
 · rename_i h;rw[if_neg h] at e;exact bg4 e
theorem ac0 {xs:Array Keyed}{i j lo hi:Nat}(hj:j<=xs.size)(h1:lo<=i)(h2:j<=hi):G3 xs (mirror xs i j ((j - i)/2)) lo hi:=fun k hk=>by
 rw[getElem?_mirror_all hj k,if_neg (by omega)]
theorem U4 {xs:Array Keyed}{i j:Nat}(hj:j<=xs.size)(h:∀k,i<=k->k < j->R rk xs k=R rk xs (j - 1))(k:Nat):R rk (mirror xs i j ((j - i)/2)) k=R rk xs k:=by
 rw[bb3 hj]
 split
 · rw[h _ (by omega) (by omega),h k (by omega) (by omega)]
 · rfl
end
structure Bs (a0:Array Keyed)(κ:SortKind)(st:SortSt):Prop where
 perm:(arrOf st).Perm a0
 kind:kindOf st=κ
 ok:failedOf st=none
theorem Bs.size {a0:Array Keyed}{κ:SortKind}{st:SortSt}(h:Bs a0 κ st):(arrOf st).size=a0.size:=h.perm.size_eq
theorem Bs.set {a0:Array Keyed}{κ:SortKind}{st:SortSt}(h:Bs a0 κ st){xs:Array Keyed}(hp:xs.Perm (arrOf st)):Bs a0 κ (setArr st xs):=⟨hp.trans h.perm,h.kind,h.ok⟩
theorem Bs.mem {a0:Array Keyed}{κ:SortKind}{st:SortSt}(h:Bs a0 κ st){i:Nat}(hi:i < a0.size):∃p,(arrOf st)[i]? =some p/\p∈a0.toList:=by
 have hi':i < (arrOf st).size:=by rw[h.size];exact hi
 exact ⟨(arrOf st)[i],getElem?_pos _ i hi',(eb5.mp h.perm).mem_iff.mp (by simp)⟩
section
variable {prog:Program} {w:World} {A:Around} {E:Value->Shared->Prop} {s:Shared}
def Cm (prog:Program)(w:World)(A:Around)(s:Shared)(κ:SortKind)(rk:Keyed->Nat)(a0:Array Keyed):Prop:=
 ∀x∈a0.toList,∀y∈a0.toList,∀(Q:Bool->Shared->Prop) (E':Value->Shared->Prop),Q (decide (rk x < rk y)) s->wpAny (model prog w) A (keyLt' κ x.1 y.1) Q E' s
variable {rk:Keyed->Nat} {a0:Array Keyed} {κ:SortKind}
theorem be0 {st:SortSt}{x y:Keyed}{Q:Option Bool->SortSt->Prop}(C:Cm prog w A s κ rk a0)(hk:kindOf st=κ)(hx:x∈a0.toList)(hy:y∈a0.toList)(h:Q (some (decide (rk x < rk y))) st):
   wpS (model prog w) A E s (lt' x y) Q st:=by
 rw[lt'_eq];refine wpS_bind (wpS_get ?_);rw[hk];exact wpS_bind (wpS_lift (wpAny_attempt (C x hx y hy _ _ ⟨rfl,wpS_pure h⟩)))
theorem ag0 {st:SortSt}{i j:Nat}{Q:Option Bool->SortSt->Prop}(C:Cm prog w A s κ rk a0)(B:Bs a0 κ st)(hi:i < a0.size)(hj:j < a0.size)(h:Q (some (decide (R rk (arrOf st) i < R rk (arrOf st) j))) st):
   wpS (model prog w) A E s (ltAt' i j) Q st:=by
 obtain ⟨x,ex,mx⟩:=B.mem hi;obtain ⟨y,ey,my⟩:=B.mem hj;rw[ltAt'_eq];refine wpS_bind (wpS_get ?_);show wpS _ _ _ _ (do let u <-elem' (arrOf st) i;let v <-elem' (arrOf st) j;lt' u v) Q st;rw[elem'_eq,elem'_eq,ex,ey];refine wpS_bind (wpS_pure (wpS_bind (wpS_pure (be0 C B.kind mx my ?_))));unfold R at h;rw[ex,ey] at h;exact h
theorem be1 {st:SortSt}{i j:Nat}{Q:Unit->SortSt->Prop}(h:Q () (setArr st (mirror (arrOf st) i j ((j - i)/2)))):wpS (model prog w) A E s (reverseSlice' i j) Q st:=by
 rw[reverseSlice'_eq];exact wpS_modify h
theorem di1 {st:SortSt}{lo n ok:Nat}{Q:Bool->SortSt->Prop}(C:Cm prog w A s κ rk a0)(hn:lo+n<=a0.size)(hok:ok<=n)(B:Bs a0 κ st)(hs:Up rk (arrOf st) lo (lo+ok))
   (h:∀st',Bs a0 κ st'->Up rk (arrOf st') lo (lo+n)->G3 (arrOf st) (arrOf st') lo (lo+n)->pendingOf st'=pendingOf st->Q true st'):wpS (model prog w) A E s (binarySort' lo n ok) Q st:=by
 rw[binarySort'_eq]
 refine wpS_bind (wpS_mono (wpS_forRange (I:=fun k c t=>c=(none,())/\Bs a0 κ t/\Up rk (arrOf t) lo (lo+min k n)/\G3 (arrOf st) (arrOf t) lo (lo+n)/\pendingOf t=pendingOf st)
   (Q:=fun c t=>c=(none,())/\Bs a0 κ t/\Up rk (arrOf t) lo (lo+n)/\G3 (arrOf st) (arrOf t) lo (lo+n)/\pendingOf t=pendingOf st) ?step ?fin ?init) ?post)
 case post=>
   rintro c t ⟨rfl,B',u,k,p⟩;exact wpS_pure (h t B' u k p)
 case init=>
   refine ⟨rfl,B,fun i j h1 h2 h3=> ?_,G3.refl _ _ _,rfl⟩
   by_cases z:ok=0
   · have:i=j:=by omega
     rw[this];exact dt7 _
   · exact hs i j h1 h2 (by omega)
 case fin=>
   rintro c t ⟨hc,B',u,k,p⟩;refine ⟨hc,B',?_,k,p⟩
   rwa [show min (max (max ok 1) n) n=n by omega] at u
 case step=>
   rintro k c t h1 h2 ⟨rfl,B',u,kp,pe⟩;rw[show min k n=k by omega] at u
   refine wpS_bind (wpS_mono (wpS_forRange (I:=fun x c t'=>t'=t/\∃l r,c=(none,l,r)/\l<=r/\r<=k/\r - l<=k - x/\
       (∀i,i < l->R rk (arrOf t) (lo+i)<=R rk (arrOf t) (lo+k))/\(∀i,r<=i->i < k->R rk (arrOf t) (lo+k) < R rk (arrOf t) (lo+i)))
     (Q:=fun c t'=>t'=t/\∃l r,c=(none,l,r)/\l<=k/\(∀i,i < l->R rk (arrOf t) (lo+i)<=R rk (arrOf t) (lo+k))/\(∀i,l<=i->i < k->R rk (arrOf t) (lo+k) < R rk (arrOf t) (lo+i))) ?st2 ?fin2 ?init2) ?post2)
   case init2=>exact ⟨rfl,0,k,rfl,by omega,by omega,by omega,fun i hi=>by omega,fun i h1 h2=>by omega⟩
   case fin2=>
     rintro c t' ⟨rfl,l,r,rfl,a1,a2,a3,a4,a5⟩
     have:l=r:=by omega
     subst this;exact ⟨rfl,l,l,rfl,a2,a4,a5⟩
   case st2=>
     rintro x c t' _ hx ⟨rfl,l,r,rfl,a1,a2,a3,a4,a5⟩
     dsimp only
     by_cases z:l≥r
     · rw[if_pos z]
       have:l=r:=by omega
       subst this;exact wpS_pure ⟨rfl,l,l,rfl,a2,a4,a5⟩
     · rw[if_neg z];refine wpS_bind (ag0 C B' (by omega) (by omega) ?_)
       by_cases y:R rk (arrOf t') (lo+k) < R rk (arrOf t') (lo+(l+r)/2)
       · simp only[y,decide_true,if_true];refine wpS_pure ⟨rfl,l,(l+r)/2,rfl,by omega,by omega,by omega,a4,fun i b1 b2=> ?_⟩;have:=u (lo+(l+r)/2) (lo+i) (by omega) (by omega) (by omega);omega
       · simp only[y,decide_false,ea9,if_false];refine wpS_pure ⟨rfl,(l+r)/2+1,r,rfl,by omega,by omega,by omega,fun i b1=> ?_,a5⟩;have:=u (lo+i) (lo+(l+r)/2) (by omega) (by omega) (by omega);omega
   case post2=>
     rintro c t' ⟨rfl,l,r,rfl,a1,a2,a3⟩;show wpS _ _ _ _ (do moveDown' (lo+k) (lo+l);pure (ForInStep.yield (none,()))) _ _;rw[moveDown'_eq]
     have hz:lo+k < (arrOf t').size:=by rw[B'.size];omega
     refine wpS_bind (wpS_modify (wpS_pure ⟨rfl,B'.set (bubble_perm _ _ _),?_,kp.trans (by4 hz (by omega) (by omega) (by omega)),pe⟩));rw[show min (k+1) n=k+1 by omega];intro i j b1 b2 b3;show R rk (bubble (arrOf t') (lo+k) (lo+k - (lo+l))) i<=R rk (bubble (arrOf t') (lo+k) (lo+k - (lo+l))) j
     have f1:∀i,lo<=i->i < lo+l->R rk (arrOf t') i<=R rk (arrOf t') (lo+k):=fun i c1 c2=>by have:=a2 (i - lo) (by omega);rwa [show lo+(i - lo)=i by omega] at this
     have f2:∀i,lo+l<=i->i < lo+k->R rk (arrOf t') (lo+k) < R rk (arrOf t') i:=fun i c1 c2=>by have:=a3 (i - lo) (by omega) (by omega);rwa [show lo+(i - lo)=i by omega] at this
     rw[bt4 hz (by omega),bt4 hz (by omega),show lo+k - (lo+k - (lo+l))=lo+l by omega]
     repeat' split
     all_goals first
       |(exfalso;omega)
       |exact dt7 _
       |exact f1 _ (by omega) (by omega)
       |exact dz6 (f2 _ (by omega) (by omega))
       |exact u _ _ (by omega) (by omega) (by omega)
end
end TS
namespace TS
open PySem PyProof.Rows
section
variable {prog:Program} {w:World} {A:Around} {E:Value->Shared->Prop} {s:Shared}
variable {rk:Keyed->Nat} {a0:Array Keyed} {κ:SortKind}
theorem cn6 {xs:Array Keyed}{lo x:Nat}(u:Up rk xs lo (lo+x))(x1:1<=x)(h:¬R rk xs (lo+x) < R rk xs (lo+x - 1)):Up rk xs lo (lo+(x+1)):=fun i j h1 h2 h3=>by
 by_cases hj:j < lo+x
 · exact u i j h1 h2 hj
 · have e:j=lo+x:=by omega
   subst e
   by_cases hi:i=lo+x
   · rw[hi];exact dt7 _
   · have:=u i (lo+x - 1) h1 (by omega) (by omega);omega
theorem ah5 {xs:Array Keyed}{lo x:Nat}(u:bg3 rk xs lo (lo+x))(x1:1<=x)(h:R rk xs (lo+x)<=R rk xs (lo+x - 1)):bg3 rk xs lo (lo+(x+1)):=fun i j h1 h2 h3=>by
 by_cases hj:j < lo+x
 · exact u i j h1 h2 hj
 · have e:j=lo+x:=by omega
   subst e
   by_cases hi:i=lo+x
   · rw[hi];exact dt7 _
   · have:=u i (lo+x - 1) h1 (by omega) (by omega);omega
def cu6 (a0:Array Keyed)(κ:SortKind)(rk:Keyed->Nat)(lo nrem:Nat)(st:SortSt)(r:Option Nat)(t:SortSt):Prop:=
 ∃m,r=some m/\Bs a0 κ t/\1<=m/\m<=nrem/\Up rk (arrOf t) lo (lo+m)/\G3 (arrOf st) (arrOf t) lo (lo+nrem)/\pendingOf t=pendingOf st
theorem di2 {st:SortSt}{lo nrem:Nat}(C:Cm prog w A s κ rk a0)(hn:lo+nrem<=a0.size)(n1:1<=nrem)(B:Bs a0 κ st):wpS (model prog w) A E s (countRun' lo nrem) (cu6 a0 κ rk lo nrem st) st:=by
 rw[countRun'_eq]
 refine wpS_bind (wpS_mono (wpS_forRange (I:=fun x c t=>t=st/\c=(none,x)/\Up rk (arrOf st) lo (lo+x))
   (Q:=fun c t=>t=st/\∃n,c=(none,n)/\1<=n/\n<=nrem/\Up rk (arrOf st) lo (lo+n)/\(n=nrem\/R rk (arrOf st) (lo+n) < R rk (arrOf st) (lo+n - 1))) ?step ?fin
   ⟨rfl,rfl,fun i j h1 h2 h3=>by rw[show i=j by omega];exact dt7 _⟩) ?post)
 case fin=>
   rintro c t ⟨rfl,rfl,u⟩;rw[show max 1 nrem=nrem by omega] at u ⊢;exact ⟨rfl,nrem,rfl,n1,dt7 _,u,.inl rfl⟩
 case step=>
   rintro x c t x1 xn ⟨rfl,rfl,u⟩
   dsimp only
   refine wpS_bind (ag0 C B (by omega) (by omega) ?_)
   by_cases y:R rk (arrOf t) (lo+x) < R rk (arrOf t) (lo+x - 1)
   · simp only[y,decide_true,if_true];exact wpS_pure ⟨rfl,x,rfl,x1,by omega,u,.inr y⟩
   · simp only[y,decide_false,ea9,if_false];exact wpS_pure ⟨rfl,rfl,cn6 u x1 y⟩
 case post=>
   rintro c t ⟨rfl,n,rfl,m1,mn,u,hor⟩
   dsimp only
   by_cases z:n=nrem
   · rw[if_pos (by simpa using z)];exact wpS_pure ⟨n,rfl,B,m1,mn,u,G3.refl _ _ _,rfl⟩
   · rw[if_neg (by simpa using z)];have lt:=hor.resolve_left z
     suffices D:∀t',Bs a0 κ t'->bg3 rk (arrOf t') lo (lo+(n+1))->G3 (arrOf t) (arrOf t') lo (lo+nrem)->pendingOf t'=pendingOf t->wpS (model prog w) A E s _ (cu6 a0 κ rk lo nrem t) t' by
       by_cases g:n > 1
       · rw[if_pos g];refine wpS_bind (ag0 C B (by omega) (by omega) ?_)
         by_cases y:R rk (arrOf t) lo < R rk (arrOf t) (lo+n - 1)
         · simp only[y,decide_true,if_true];exact wpS_pure ⟨n,rfl,B,m1,mn,u,G3.refl _ _ _,rfl⟩
         · simp only[y,decide_false,ea9,if_false]
           have hz:lo+n<=(arrOf t).size:=by rw[B.size];omega
           have all:∀k,lo<=k->k < lo+n->R rk (arrOf t) k=R rk (arrOf t) (lo+n - 1):=fun k h1 h2=>by
             have a1:=u lo k (by omega) h1 h2;have a2:=u k (lo+n - 1) h1 (by omega) (by omega);omega
           refine wpS_bind (be1 (D _ (B.set (mirror_perm _ _ _ _)) ?_ (ac0 hz (dt7 _) (by omega)) rfl));refine ah5 (fun i j h1 h2 h3=> ?_) m1 ?_
           · show R rk (mirror (arrOf t) _ _ _) j<=R rk (mirror (arrOf t) _ _ _) i;rw[U4 hz all,U4 hz all,all i h1 (by omega),all j (by omega) h3];exact dt7 _
           · show R rk (mirror (arrOf t) _ _ _) _<=R rk (mirror (arrOf t) _ _ _) _;rw[U4 hz all,U4 hz all];omega
       · rw[if_neg g];refine D _ B (ah5 (fun i j h1 h2 h3=>by rw[show i=j by omega];exact dt7 _) m1 (by omega)) (G3.refl _ _ _) rfl
     intro t1 B1 d1 k1 p1;refine wpS_bind (wpS_lift (wpAny_rule ⟨rfl,?_⟩))
     refine wpS_bind (wpS_mono (wpS_forRange (I:=fun x c t'=>∃q,c=(none,x,q)/\Bs a0 κ t'/\bg3 rk (arrOf t') lo (lo+x)/\q+1<=x/\(∀i,lo+x - (q+1)<=i->i < lo+x->R rk (arrOf t') i=R rk (arrOf t') (lo+x - 1))/\G3 (arrOf t) (arrOf t') lo (lo+nrem)/\pendingOf t'=pendingOf t)
       (Q:=fun c t'=>∃x q,c=(none,x,q)/\n+1<=x/\x<=nrem/\Bs a0 κ t'/\bg3 rk (arrOf t') lo (lo+x)/\q+1<=x/\(∀i,lo+x - (q+1)<=i->i < lo+x->R rk (arrOf t') i=R rk (arrOf t') (lo+x - 1))/\G3 (arrOf t) (arrOf t') lo (lo+nrem)/\pendingOf t'=pendingOf t) ?step2 ?fin2
       ⟨0,rfl,B1,d1,by omega,(fun i h1 h2=>by rw[show i=lo+(n+1) - 1 by omega]),k1,p1⟩) ?post2)
     case fin2=>
       rintro c t' ⟨q,rfl,B',d,q1,al,k,p⟩;rw[show max (n+1) nrem=nrem by omega] at d q1 al ⊢;exact ⟨nrem,q,rfl,by omega,dt7 _,B',d,q1,al,k,p⟩
     case step2=>
       rintro x c t' x1 xn ⟨q,rfl,B',d,q1,al,k,p⟩
       dsimp only
       have hz:lo+x<=(arrOf t').size:=by rw[B'.size];omega
       refine wpS_bind (ag0 C B' (by omega) (by omega) ?_)
       by_cases y:R rk (arrOf t') (lo+x) < R rk (arrOf t') (lo+x - 1)
       · simp only[y,decide_true,if_true]
         by_cases g:q > 0
         · rw[if_pos g];refine wpS_bind (be1 (wpS_pure ⟨0,rfl,B'.set (mirror_perm _ _ _ _),?_,by omega,(fun i h1 h2=>by rw[show i=lo+(x+1) - 1 by omega]),k.trans (ac0 hz (by omega) (by omega)),p⟩));refine ah5 (fun i j h1 h2 h3=> ?_) (by omega) ?_
           · show R rk (mirror (arrOf t') _ _ _) j<=R rk (mirror (arrOf t') _ _ _) i;rw[U4 hz al,U4 hz al];exact d i j h1 h2 h3
           · show R rk (mirror (arrOf t') _ _ _) _<=R rk (mirror (arrOf t') _ _ _) _;rw[U4 hz al,U4 hz al];omega
         · rw[if_neg g];exact wpS_pure ⟨0,rfl,B',ah5 d (by omega) (by omega),by omega,(fun i h1 h2=>by rw[show i=lo+(x+1) - 1 by omega]),k,p⟩
       · simp only[y,decide_false,ea9,if_false];refine wpS_bind (ag0 C B' (by omega) (by omega) ?_)
         by_cases g:R rk (arrOf t') (lo+x - 1) < R rk (arrOf t') (lo+x)
         · simp only[g,decide_true,if_true];exact wpS_pure ⟨x,q,rfl,x1,by omega,B',d,q1,al,k,p⟩
         · simp only[g,decide_false,ea9,if_false]
           have e:R rk (arrOf t') (lo+x)=R rk (arrOf t') (lo+x - 1):=by omega
           refine wpS_pure ⟨q+1,rfl,B',ah5 d (by omega) (by omega),by omega,fun i h1 h2=> ?_,k,p⟩;rw[show lo+(x+1) - 1=lo+x by omega]
           by_cases hi:i=lo+x
           · rw[hi]
           · rw[e];exact al i (by omega) (by omega)
     case post2=>
       rintro c t2 ⟨x,q,rfl,x1,xn,B2,d,q1,al,k2,p2⟩
       dsimp only
       have hz:lo+x<=(arrOf t2).size:=by rw[B2.size];omega
       suffices T:∀t3,Bs a0 κ t3->bg3 rk (arrOf t3) lo (lo+x)->G3 (arrOf t) (arrOf t3) lo (lo+nrem)->pendingOf t3=pendingOf t->wpS (model prog w) A E s _ (cu6 a0 κ rk lo nrem t) t3 by
         by_cases g:q > 0
         · rw[if_pos g];refine wpS_bind (be1 (T _ (B2.set (mirror_perm _ _ _ _)) (fun i j h1 h2 h3=> ?_) (k2.trans (ac0 hz (by omega) (by omega))) p2));show R rk (mirror (arrOf t2) _ _ _) j<=R rk (mirror (arrOf t2) _ _ _) i;rw[U4 hz al,U4 hz al];exact d i j h1 h2 h3
         · rw[if_neg g];exact T _ B2 d k2 p2
       intro t3 B3 d3 k3 p3
       have hz3:lo+x<=(arrOf t3).size:=by rw[B3.size];omega
       refine wpS_bind (be1 ?_);have B4:=B3.set (mirror_perm (arrOf t3) lo (lo+x) ((lo+x - lo)/2))
       have u4:Up rk (arrOf (setArr t3 (mirror (arrOf t3) lo (lo+x) ((lo+x - lo)/2)))) lo (lo+x):=fun i j h1 h2 h3=>by
         show R rk (mirror (arrOf t3) _ _ _) i<=R rk (mirror (arrOf t3) _ _ _) j;rw[bb3 hz3,bb3 hz3,if_pos (by omega),if_pos (by omega)];exact d3 _ _ (by omega) (by omega) (by omega)
       have k4:G3 (arrOf t) (arrOf (setArr t3 (mirror (arrOf t3) lo (lo+x) ((lo+x - lo)/2)))) lo (lo+nrem):=k3.trans (ac0 hz3 (dt7 _) (by omega));have p4:pendingOf (setArr t3 (mirror (arrOf t3) lo (lo+x) ((lo+x - lo)/2)))=pendingOf t:=p3;generalize setArr t3 (mirror (arrOf t3) lo (lo+x) ((lo+x - lo)/2))=t4 at B4 u4 k4 p4 ⊢;refine wpS_bind (wpS_mono (wpS_forRange (I:=fun y c t'=>t'=t4/\c=(none,y)/\Up rk (arrOf t4) lo (lo+y)) (Q:=fun c t'=>t'=t4/\∃y,c=(none,y)/\x<=y/\y<=nrem/\Up rk (arrOf t4) lo (lo+y)) ?step3 ?fin3 ⟨rfl,rfl,u4⟩) ?post3)
       case fin3=>
         rintro c t' ⟨rfl,rfl,v⟩;rw[show max x nrem=nrem by omega] at v ⊢;exact ⟨rfl,nrem,rfl,xn,dt7 _,v⟩
       case step3=>
         rintro y c t' y1 yn ⟨rfl,rfl,v⟩
         dsimp only
         refine wpS_bind (ag0 C B4 (by omega) (by omega) ?_)
         by_cases g:R rk (arrOf t') (lo+y) < R rk (arrOf t') (lo+y - 1)
         · simp only[g,decide_true,if_true];exact wpS_pure ⟨rfl,y,rfl,y1,by omega,v⟩
         · simp only[g,decide_false,ea9,if_false];exact wpS_pure ⟨rfl,rfl,cn6 v (by omega) g⟩
       case post3=>
         rintro c t' ⟨rfl,y,rfl,y1,yn,v⟩;exact wpS_pure ⟨y,rfl,B4,by omega,yn,v,k4,p4⟩
end
end TS
namespace TS
open PySem PyProof.Rows
def gal:Bool->Keyed->Array Keyed->Nat->Nat->Nat->StateT SortSt Sem (Option Nat):=sortPriv%PySem.Builtin.gallop
section
variable {prog:Program} {w:World} {A:Around} {E:Value->Shared->Prop} {s:Shared}
variable {rk:Keyed->Nat} {a0:Array Keyed} {κ:SortKind}
def G8 (rk:Keyed->Nat)(left:Bool)(key:Keyed)(arr:Array Keyed)(base i:Nat):Bool:=if left then decide (R rk arr (base+i) < rk key) else !decide (rk key < R rk arr (base+i))
theorem V0 {left:Bool}{key:Keyed}{arr:Array Keyed}{base n i j:Nat}(u:Up rk arr base (base+n))(h1:i<=j)(h2:j < n)(h:G8 rk left key arr base j=true):G8 rk left key arr base i=true:=by
 have:=u (base+i) (base+j) (by omega) (by omega) (by omega);unfold G8 at h ⊢;cases left
 · simp at h ⊢;omega
 · simp at h ⊢;omega
theorem E9 {arr:Array Keyed}{i:Nat}{st:SortSt}{Q:Keyed->SortSt->Prop}{p:Keyed}(h:arr[i]? =some p)(q:Q p st):wpS (model prog w) A E s (elem' arr i) Q st:=by
 rw[elem'_eq,h];exact wpS_pure q
def In0 (a0 arr:Array Keyed):Prop:=∀x∈arr.toList,x∈a0.toList
theorem In0.at {arr:Array Keyed}(h:In0 a0 arr){i:Nat}(hi:i < arr.size):∃p,arr[i]? =some p/\p∈a0.toList:=⟨arr[i],getElem?_pos _ i hi,h _ (by simp)⟩
theorem M6 {arr:Array Keyed}{i:Nat}{p:Keyed}(h:arr[i]? =some p):R rk arr i=rk p:=by unfold R;rw[h]
theorem am6 {st:SortSt}{left:Bool}{key:Keyed}{arr:Array Keyed}{base n hint:Nat}{Q:Option Nat->SortSt->Prop}(C:Cm prog w A s κ rk a0)(hk:kindOf st=κ)(ia:In0 a0 arr)(ik:key∈a0.toList)(hz:base+n<=arr.size)(hh:hint < n)
   (u:Up rk arr base (base+n)) (h:∀k,k<=n->(∀i,i < k->G8 rk left key arr base i=true)->(∀i,k<=i->i < n->G8 rk left key arr base i=false)->Q (some k) st):wpS (model prog w) A E s (gal left key arr base n hint) Q st:=by
 have by0:∀(i:Nat) (Q':Option Bool->SortSt->Prop),i < n->Q' (some (G8 rk left key arr base i)) st->wpS (model prog w) A E s (do let x <-elem' arr (base+i);if left then lt' x key else return (<-lt' key x).map (!·)) Q' st:=by
   intro i Q' hi q;obtain ⟨p,e,m⟩:=ia.at (show base+i < arr.size by omega);refine wpS_bind (E9 e ?_);unfold G8 at q;rw[M6 e] at q
   cases left with
   |true=>
    rw[if_pos rfl] at q ⊢;exact be0 C hk m ik q
   |false=>
    rw[if_neg (by decide)] at q ⊢;exact wpS_bind (be0 C hk ik m (wpS_pure q))
 refine wpS_bind (by0 hint _ hh ?_)
 cases hr:G8 rk left key arr base hint with
 |true=>
  dsimp only
  rw[if_pos rfl]
  refine wpS_bind (wpS_mono (wpS_forRange (I:=fun x c t=>t=st/\∃l o,c=(none,l,o)/\l < o/\l < n - hint/\x+1<=o/\G8 rk left key arr base (hint+l)=true)
    (Q:=fun c t=>t=st/\∃l o,c=(none,l,o)/\l < o/\l < n - hint/\G8 rk left key arr base (hint+l)=true/\(n - hint<=o\/G8 rk left key arr base (hint+o)=false)) ?step ?fin ⟨rfl,0,1,rfl,by omega,by omega,by omega,hr⟩) ?post)
  case fin=>
    rintro c t ⟨rfl,l,o,rfl,a1,a2,a3,a4⟩;exact ⟨rfl,l,o,rfl,a1,a2,a4,.inl (by omega)⟩
  case step=>
    rintro x c t _ xn ⟨rfl,l,o,rfl,a1,a2,a3,a4⟩
    dsimp only
    by_cases z:o≥n - hint
    · rw[if_pos z];exact wpS_pure ⟨rfl,l,o,rfl,a1,a2,a4,.inl z⟩
    · rw[if_neg z];refine wpS_bind (by0 (hint+o) _ (by omega) ?_)
      cases y:G8 rk left key arr base (hint+o) with
      |true=>
       dsimp only
       rw[if_neg (by decide)];exact wpS_pure ⟨rfl,_,_,rfl,by omega,by omega,by omega,y⟩
      |false=>
       dsimp only
       rw[if_pos (by decide)];exact wpS_pure ⟨rfl,l,o,rfl,a1,a2,a4,.inr y⟩
  case post=>
    rintro c t ⟨ht,l,o,rfl,a1,a2,a3,a4⟩;obtain rfl:=ht.symm
    dsimp only
    have le1:hint+l+1<=hint+min o (n - hint):=by omega
    have le2:hint+min o (n - hint)<=n:=by omega
    have b1:∀i,i < hint+l+1->G8 rk left key arr base i=true:=fun i h1=>V0 u (show i<=hint+l by omega) (by omega) a3
    have b2:∀i,hint+min o (n - hint)<=i->i < n->G8 rk left key arr base i=false:=fun i h1 h2=>by
      rcases a4 with a4|a4
      · omega
      · cases y':G8 rk left key arr base i with
        |false=>rfl
        |true=>rw[V0 u (show hint+o<=i by omega) h2 y'] at a4;cases a4
    refine wpS_bind (wpS_mono (wpS_forRange (I:=fun x c t=>t=st/\∃lo hi,c=(none,lo,hi)/\lo<=hi/\hi<=n/\hi - lo<=n - x/\(∀i,i < lo->G8 rk left key arr base i=true)/\(∀i,hi<=i->i < n->G8 rk left key arr base i=false))
      (Q:=fun c t=>t=st/\∃lo hi,c=(none,lo,hi)/\hi<=n/\(∀i,i < hi->G8 rk left key arr base i=true)/\(∀i,hi<=i->i < n->G8 rk left key arr base i=false)) ?stepB ?finB ⟨rfl,_,_,rfl,le1,le2,by omega,b1,b2⟩) ?postB)
    case finB=>
      rintro c t ⟨rfl,lo,hi,rfl,a1,a2,a3,a4,a5⟩;rw[show lo=hi by omega] at a4;exact ⟨rfl,lo,hi,rfl,a2,a4,a5⟩
    case stepB=>
      rintro x c t _ xn ⟨rfl,lo,hi,rfl,a1,a2,a3,a4,a5⟩
      dsimp only
      by_cases z:lo≥hi
      · rw[if_pos z];rw[show lo=hi by omega] at a4;exact wpS_pure ⟨rfl,lo,hi,rfl,a2,a4,a5⟩
      · rw[if_neg z];refine wpS_bind (by0 (lo+(hi - lo)/2) _ (by omega) ?_)
        cases y:G8 rk left key arr base (lo+(hi - lo)/2) with
        |true=>
         dsimp only
         rw[if_pos rfl];exact wpS_pure ⟨rfl,_,_,rfl,by omega,a2,by omega,fun i h1=>V0 u (show i<=lo+(hi - lo)/2 by omega) (by omega) y,a5⟩
        |false=>
         dsimp only
         rw[if_neg (by decide)];refine wpS_pure ⟨rfl,_,_,rfl,by omega,by omega,by omega,a4,fun i h1 h2=> ?_⟩
         cases y':G8 rk left key arr base i with
         |false=>rfl
         |true=>rw[V0 u h1 h2 y'] at y;cases y
    case postB=>
      rintro c t ⟨rfl,lo,hi,rfl,a1,a2,a3⟩;exact wpS_pure (h hi a1 a2 a3)
 |false=>
  dsimp only
  rw[if_neg (by decide)]
  refine wpS_bind (wpS_mono (wpS_forRange (I:=fun x c t=>t=st/\∃l o,c=(none,l,o)/\l < o/\l < hint+1/\x+1<=o/\G8 rk left key arr base (hint - l)=false)
    (Q:=fun c t=>t=st/\∃l o,c=(none,l,o)/\l < o/\l < hint+1/\G8 rk left key arr base (hint - l)=false/\(hint+1<=o\/G8 rk left key arr base (hint - o)=true)) ?step ?fin ⟨rfl,0,1,rfl,by omega,by omega,by omega,hr⟩) ?post)
  case fin=>
    rintro c t ⟨rfl,l,o,rfl,a1,a2,a3,a4⟩;exact ⟨rfl,l,o,rfl,a1,a2,a4,.inl (by omega)⟩
  case step=>
    rintro x c t _ xn ⟨rfl,l,o,rfl,a1,a2,a3,a4⟩
    dsimp only
    by_cases z:o≥hint+1
    · rw[if_pos z];exact wpS_pure ⟨rfl,l,o,rfl,a1,a2,a4,.inl z⟩
    · rw[if_neg z];refine wpS_bind (by0 (hint - o) _ (by omega) ?_)
      cases y:G8 rk left key arr base (hint - o) with
      |false=>
       dsimp only
       rw[if_neg (by decide)];exact wpS_pure ⟨rfl,_,_,rfl,by omega,by omega,by omega,y⟩
      |true=>
       dsimp only
       rw[if_pos rfl];exact wpS_pure ⟨rfl,l,o,rfl,a1,a2,a4,.inr y⟩
  case post=>
    rintro c t ⟨ht,l,o,rfl,a1,a2,a3,a4⟩;obtain rfl:=ht.symm
    dsimp only
    have le1:hint+1 - min o (hint+1)<=hint - l:=by omega
    have le2:hint - l<=n:=by omega
    have b1:∀i,i < hint+1 - min o (hint+1)->G8 rk left key arr base i=true:=fun i h1=>by
      rcases a4 with a4|a4
      · omega
      · exact V0 u (show i<=hint - o by omega) (by omega) a4
    have b2:∀i,hint - l<=i->i < n->G8 rk left key arr base i=false:=fun i h1 h2=>by
      cases y':G8 rk left key arr base i with
      |false=>rfl
      |true=>rw[V0 u h1 h2 y'] at a3;cases a3
    refine wpS_bind (wpS_mono (wpS_forRange (I:=fun x c t=>t=st/\∃lo hi,c=(none,lo,hi)/\lo<=hi/\hi<=n/\hi - lo<=n - x/\(∀i,i < lo->G8 rk left key arr base i=true)/\(∀i,hi<=i->i < n->G8 rk left key arr base i=false))
      (Q:=fun c t=>t=st/\∃lo hi,c=(none,lo,hi)/\hi<=n/\(∀i,i < hi->G8 rk left key arr base i=true)/\(∀i,hi<=i->i < n->G8 rk left key arr base i=false)) ?stepB ?finB ⟨rfl,_,_,rfl,le1,le2,by omega,b1,b2⟩) ?postB)
    case finB=>
      rintro c t ⟨rfl,lo,hi,rfl,a1,a2,a3,a4,a5⟩;rw[show lo=hi by omega] at a4;exact ⟨rfl,lo,hi,rfl,a2,a4,a5⟩
    case stepB=>
      rintro x c t _ xn ⟨rfl,lo,hi,rfl,a1,a2,a3,a4,a5⟩
      dsimp only
      by_cases z:lo≥hi
      · rw[if_pos z];rw[show lo=hi by omega] at a4;exact wpS_pure ⟨rfl,lo,hi,rfl,a2,a4,a5⟩
      · rw[if_neg z];refine wpS_bind (by0 (lo+(hi - lo)/2) _ (by omega) ?_)
        cases y:G8 rk left key arr base (lo+(hi - lo)/2) with
        |true=>
         dsimp only
         rw[if_pos rfl];exact wpS_pure ⟨rfl,_,_,rfl,by omega,a2,by omega,fun i h1=>V0 u (show i<=lo+(hi - lo)/2 by omega) (by omega) y,a5⟩
        |false=>
         dsimp only
         rw[if_neg (by decide)];refine wpS_pure ⟨rfl,_,_,rfl,by omega,by omega,by omega,a4,fun i h1 h2=> ?_⟩
         cases y':G8 rk left key arr base i with
         |false=>rfl
         |true=>rw[V0 u h1 h2 y'] at y;cases y
    case postB=>
      rintro c t ⟨rfl,lo,hi,rfl,a1,a2,a3⟩;exact wpS_pure (h hi a1 a2 a3)
end
end TS
namespace TS
open PySem PyProof.Rows
section
variable {rk:Keyed->Nat}
def Le (rk:Keyed->Nat)(x y:Keyed):Prop:=rk x<=rk y
section
variable {le:Keyed->Keyed->Prop}
def M9 (le:Keyed->Keyed->Prop)(l:List Keyed):Prop:=l.Pairwise le
structure Mi (le:Keyed->Keyed->Prop)(a b out:List Keyed)(i j:Nat):Prop where
 pm:out.Perm (a.take i++b.take j)
 up:M9 le out
 ba:∀x∈out,∀y∈a.drop i,le x y
 bb:∀x∈out,∀y∈b.drop j,le x y
theorem Y5 {l m:List Keyed}:M9 le (l++m)↔M9 le l/\M9 le m/\∀x∈l,∀y∈m,le x y:=List.pairwise_append
theorem ah6 {l:List Keyed}(h:M9 le l)(i:Nat):M9 le (l.drop i):=List.Pairwise.sublist (List.drop_sublist i l) h
theorem ax4 {l:List Keyed}{i:Nat}{x:Keyed}(h:l[i]? =some x):l.drop i=x::l.drop (i+1):=by
 obtain ⟨hi,e⟩:=dt9.mp h;rw[ed1 hi,e]
theorem bg5 {l:List Keyed}{i:Nat}{x:Keyed}(h:l[i]? =some x):l.take (i+1)=l.take i++[x]:=by rw[List.take_succ,h];rfl
theorem aa9 (rf:∀x,le x x){l:List Keyed}(s:M9 le l){i:Nat}{x:Keyed}(h:l[i]? =some x):∀y∈l.drop i,le x y:=fun y hy=>by
 have:=ah6 s i;rw[ax4 h] at this hy
 rcases dw1.mp hy with e|e
 · rw[e];exact rf _
 · exact (ee5.mp this).1 y e
theorem Mi.pushA (rf:∀x,le x x){a b out:List Keyed}{i j:Nat}{x:Keyed}(h:Mi le a b out i j)(sa:M9 le a)(hx:a[i]? =some x)(hb:∀y∈b.drop j,le x y):Mi le a b (out++[x]) (i+1) j:=by
 have da:=ax4 hx
 have mx:x∈a.drop i:=by rw[da];exact dt6
 refine ⟨?_,?_,?_,?_⟩
 · rw[bg5 hx,dv0];refine (h.pm.append_right [x]).trans ?_;rw[dv0];exact List.Perm.append_left _ eb7
 · refine Y5.mpr ⟨h.up,ee0 _ _,fun y hy z hz=> ?_⟩;rw[du4.mp hz];exact h.ba y hy x mx
 · intro y hy z hz
   have hz':z∈a.drop i:=by rw[da];exact dt8 _ hz
   rcases du1.mp hy with e|e
   · exact h.ba y e z hz'
   · rw[du4.mp e];exact aa9 rf sa hx z hz'
 · intro y hy z hz
   rcases du1.mp hy with e|e
   · exact h.bb y e z hz
   · rw[du4.mp e];exact hb z hz
theorem Mi.pushB (rf:∀x,le x x){a b out:List Keyed}{i j:Nat}{x:Keyed}(h:Mi le a b out i j)(sb:M9 le b)(hx:b[j]? =some x)(ha:∀y∈a.drop i,le x y):Mi le a b (out++[x]) i (j+1):=by
 have db:=ax4 hx
 have mx:x∈b.drop j:=by rw[db];exact dt6
 refine ⟨?_,?_,?_,?_⟩
 · rw[bg5 hx,<-dv0];exact h.pm.append_right [x]
 · refine Y5.mpr ⟨h.up,ee0 _ _,fun y hy z hz=> ?_⟩;rw[du4.mp hz];exact h.bb y hy x mx
 · intro y hy z hz
   rcases du1.mp hy with e|e
   · exact h.ba y e z hz
   · rw[du4.mp e];exact ha z hz
 · intro y hy z hz
   have hz':z∈b.drop j:=by rw[db];exact dt8 _ hz
   rcases du1.mp hy with e|e
   · exact h.bb y e z hz'
   · rw[du4.mp e];exact aa9 rf sb hx z hz'
theorem bt5 {l:List Keyed}{i k:Nat}{x:Keyed}(h:l[i+k]? =some x):(l.take (i+(k+1))).drop i=(l.take (i+k)).drop i++[x]:=by
 have hl:=(dt9.mp h).1;rw[show i+(k+1)=(i+k)+1 by omega,bg5 h,List.drop_append_of_le_length (by rw[du5];omega)]
theorem Mi.manyA (rf:∀x,le x x){a b out:List Keyed}{i j:Nat}(h:Mi le a b out i j)(sa:M9 le a):∀k,i+k<=a.length->(∀n x,n < k->a[i+n]? =some x->∀y∈b.drop j,le x y)->Mi le a b (out++(a.take (i+k)).drop i) (i+k) j
 |0,_,_=>by rw[ee1,ea3 (by rw[du5];omega),dw7];exact h
 |k+1,hl,hc=>by
  have e:a[i+k]? =some a[i+k]:=dt5 (by omega);rw[bt5 e,<-dv0,show i+(k+1)=i+k+1 by omega];exact (Mi.manyA rf h sa k (by omega) fun n x hn=>hc n x (by omega)).pushA rf sa e (hc k _ (by omega) e)
theorem Mi.manyB (rf:∀x,le x x){a b out:List Keyed}{i j:Nat}(h:Mi le a b out i j)(sb:M9 le b):∀k,j+k<=b.length->(∀n x,n < k->b[j+n]? =some x->∀y∈a.drop i,le x y)->Mi le a b (out++(b.take (j+k)).drop j) i (j+k)
 |0,_,_=>by rw[ee1,ea3 (by rw[du5];omega),dw7];exact h
 |k+1,hl,hc=>by
  have e:b[j+k]? =some b[j+k]:=dt5 (by omega);rw[bt5 e,<-dv0,show j+(k+1)=j+k+1 by omega];exact (Mi.manyB rf h sb k (by omega) fun n x hn=>hc n x (by omega)).pushB rf sb e (hc k _ (by omega) e)
def Mg (le:Keyed->Keyed->Prop)(a b r:List Keyed):Prop:=r.Perm (a++b)/\M9 le r
theorem au4 (a b out:List Keyed)(i j:Nat)(h:out.Perm (a.take i++b.take j)):(out++a.drop i++b.drop j).Perm (a++b):=by
 have e1:=(h.append_right (a.drop i)).append_right (b.drop j);refine e1.trans ?_
 have e2:((a.take i++b.take j)++a.drop i).Perm (a++b.take j):=by
   rw[dv0];refine (List.Perm.append_left _ eb7).trans ?_;rw[<-dv0,dz5]
 refine (e2.append_right _).trans ?_;rw[dv0,dz5]
theorem Mi.doneB {a b out:List Keyed}{i j:Nat}(h:Mi le a b out i j)(sa:M9 le a)(hj:b.length<=j):Mg le a b (out++a.drop i++b.drop j):=by
 refine ⟨au4 a b out i j h.pm,?_⟩;rw[ea3 hj,dw7];exact Y5.mpr ⟨h.up,ah6 sa i,h.ba⟩
theorem Mi.doneA {a b out:List Keyed}{i j:Nat}(h:Mi le a b out i j)(sb:M9 le b)(hi:a.length<=i):Mg le a b (out++a.drop i++b.drop j):=by
 refine ⟨au4 a b out i j h.pm,?_⟩;rw[ea3 hi,dw7];exact Y5.mpr ⟨h.up,ah6 sb j,h.bb⟩
theorem Mi.last {a b out:List Keyed}{i j:Nat}(h:Mi le a b out i j)(sa:M9 le a)(sb:M9 le b)(top:∀x∈b.drop j,∀y∈a.drop i,le x y):Mg le a b (out++b.drop j++a.drop i):=by
 constructor
 · refine List.Perm.trans ?_ (au4 a b out i j h.pm);rw[dv0,dv0];exact List.Perm.append_left _ eb7
 · rw[dv0];refine Y5.mpr ⟨h.up,Y5.mpr ⟨ah6 sb j,ah6 sa i,top⟩,fun x hx y hy=> ?_⟩
   rcases du1.mp hy with e|e
   · exact h.bb x hx y e
   · exact h.ba x hx y e
end
theorem do3 {xs:Array Keyed}(u:Up rk xs 0 xs.size):M9 (Le rk) xs.toList:=by
 refine dx0.mpr fun i j hi hj hij=> ?_
 have:=u i j (dv5 _) (by omega) (by simpa using hj);rw[M6 (p:=xs.toList[i]) (by simp),M6 (p:=xs.toList[j]) (by simp)] at this;exact this
theorem ak0 {xs:Array Keyed}(h:M9 (Le rk) xs.toList):Up rk xs 0 xs.size:=fun i j _ hij hj=>by
 rcases eh7 hij with z|z
 · have:=dx0.mp h i j (by simp;omega) (by simpa using hj) z;rw[M6 (i:=i) (p:=xs.toList[i]'(by simp;omega)) (by simp),M6 (i:=j) (p:=xs.toList[j]'(by simpa using hj)) (by simp)];exact this
 · rw[z];exact dt7 _
end
end TS
namespace TS
open PySem PyProof.Rows
def mLo:Array Keyed->Array Keyed->StateT SortSt Sem (Array Keyed):=sortPriv%PySem.Builtin.mergeLo
section
variable {prog:Program} {w:World} {A:Around} {E:Value->Shared->Prop} {s:Shared}
variable {rk:Keyed->Nat} {a0:Array Keyed} {κ:SortKind}
structure O4 (st t:SortSt):Prop where
 arr:arrOf t=arrOf st
 pend:pendingOf t=pendingOf st
 kind:kindOf t=kindOf st
 ok:failedOf t=failedOf st
theorem O4.refl (st:SortSt):O4 st st:=⟨rfl,rfl,rfl,rfl⟩
def MQ (rk:Keyed->Nat)(a b:Array Keyed)(st:SortSt)(r:Array Keyed)(t:SortSt):Prop:=Mg (Le rk) a.toList b.toList r.toList/\O4 st t
theorem hv {β γ:Type}{F:γ}{K:γ->StateT SortSt Sem β}{Q:β->SortSt->Prop}{st:SortSt}(h:wpS (model prog w) A E s (K F) Q st):wpS (model prog w) A E s (have x:=F;K x) Q st:=h
theorem G6 {β:Type}{c:Prop}[Decidable c]{m n:StateT SortSt Sem β}{Q:β->SortSt->Prop}{st:SortSt}(h1:c->wpS (model prog w) A E s m Q st)(h2:¬c->wpS (model prog w) A E s n Q st):wpS (model prog w) A E s (if c then m else n) Q st:=by
 split
 · exact h1 ‹_›
 · exact h2 ‹_›
theorem cz3 {β:Type}{c:Prop}[Decidable c]{m n:StateT SortSt Sem β}{Q:β->SortSt->Prop}{st:SortSt}(h2:¬c->wpS (model prog w) A E s n Q st)(h1:c->wpS (model prog w) A E s m Q st):wpS (model prog w) A E s (if c then m else n) Q st:=G6 h1 h2
theorem cn7 {P:Nat->Prop}{T:Prop}(use:(∀g,P g)->T)(h:∀g,P g):T:=use h
theorem V1 {a b:Nat}(h:(a==b)=true):a=b:=by simpa using h
theorem X7 {a b:Nat}(h:¬(a==b)=true):¬a=b:=by simpa using h
theorem ab0 (xs:Array Keyed)(i:Nat):(xs.extract i).toList=xs.toList.drop i:=by rw[Array.toList_extract,ei0,ea2 (by simp)]
theorem W4 (xs:Array Keyed)(i j:Nat):(xs.extract i j).toList=(xs.toList.take j).drop i:=by rw[Array.toList_extract,ei0,List.drop_take]
theorem O1 {xs:Array Keyed}{i:Nat}{x:Keyed}(h:xs[i]? =some x):xs.toList[i]? =some x:=by rw[<-h];simp
theorem di3 {st:SortSt}{g:Nat}{Q:Unit->SortSt->Prop}(h:Q () (SortSt.mk' (kindOf st) (arrOf st) (pendingOf st) g (failedOf st))):wpS (model prog w) A E s ((sortPriv%PySem.Builtin.setMinGallop) g) Q st:=wpS_modify h
theorem O4.gal {st t:SortSt}(h:O4 st t)(g:Nat):O4 st (SortSt.mk' (kindOf t) (arrOf t) (pendingOf t) g (failedOf t)):=⟨h.arr,h.pend,h.kind,h.ok⟩
theorem cu7 {st0 st:SortSt}{g:Nat}{Q:Unit->SortSt->Prop}(l:O4 st0 st)(h:∀t,O4 st0 t->Q () t):wpS (model prog w) A E s ((sortPriv%PySem.Builtin.setMinGallop) g) Q st:=di3 (h _ (l.gal g))
theorem di4 {st:SortSt}{a b:Array Keyed}(C:Cm prog w A s κ rk a0)(hk:kindOf st=κ)(ia:In0 a0 a)(ib:In0 a0 b)(a1:1<=a.size)(b1:1<=b.size)(sa:M9 (Le rk) a.toList)(sb:M9 (Le rk) b.toList)
   (first:∀x,b[0]? =some x->∀y∈a.toList,Le rk x y) (last:∀x∈b.toList,∀y,a[a.size - 1]? =some y->Le rk x y):wpS (model prog w) A E s (mLo a b) (MQ rk a b st) st:=by
 have la:a.toList.length=a.size:=dv8;have lb:b.toList.length=b.size:=dv8;have ua:=ak0 sa;have ub:=ak0 sb
 have doneB:∀out i j t,Mi (Le rk) a.toList b.toList (dz1 out) i j->O4 st t->b.size<=j->MQ rk a b st (out++a.extract i++b.extract j) t:=fun out i j t m l hj=>by
   refine ⟨?_,l⟩;rw[dw3,dw3,ab0,ab0];exact m.doneB sa (by omega)
 have doneA:∀out i j t,Mi (Le rk) a.toList b.toList (dz1 out) i j->O4 st t->a.size<=i->MQ rk a b st (out++a.extract i++b.extract j) t:=fun out i j t m l hi=>by
   refine ⟨?_,l⟩;rw[dw3,dw3,ab0,ab0];exact m.doneA sb (by omega)
 have lastA:∀out i j t,Mi (Le rk) a.toList b.toList (dz1 out) i j->O4 st t->i+1=a.size->MQ rk a b st (out++b.extract j++a.extract i) t:=fun out i j t m l hi=>by
   refine ⟨?_,l⟩;rw[dw3,dw3,ab0,ab0]
   refine m.last sa sb fun x hx y hy=>last x (dy9 hx) y ?_
   have e:a.toList[i]? =some a.toList[i]:=dt5 (by omega);rw[ax4 e,ea3 (by omega)] at hy;rw[du4.mp hy,show a.size - 1=i by omega,<-dy0];exact e
 have stepB:∀out i j x y,Mi (Le rk) a.toList b.toList (dz1 out) i j->a[i]? =some x->b[j]? =some y->rk y<=rk x->Mi (Le rk) a.toList b.toList (dz1 (out.push y)) i (j+1):=fun out i j x y m hx hy le=>by
   rw[ec1]
   exact m.pushB (fun _=>dt7 _) sb (O1 hy) fun z hz=>du3 le (aa9 (fun _=>dt7 _) sa (O1 hx) z hz)
 have stepA:∀out i j x y,Mi (Le rk) a.toList b.toList (dz1 out) i j->a[i]? =some x->b[j]? =some y->rk x<=rk y->Mi (Le rk) a.toList b.toList (dz1 (out.push x)) (i+1) j:=fun out i j x y m hx hy le=>by
   rw[ec1]
   exact m.pushA (fun _=>dt7 _) sa (O1 hx) fun z hz=>du3 le (aa9 (fun _=>dt7 _) sb (O1 hy) z hz)
 refine wpS_bind (wpS_lift (wpAny_rule ⟨rfl,?_⟩));obtain ⟨b0,eb0,mb0⟩:=ib.at (show 0 < b.size by omega);refine wpS_bind (E9 eb0 ?_)
 have m0:Mi (Le rk) a.toList b.toList (dz1 #[b0]) 0 1:=by
   have e:b.toList[0]? =some b0:=O1 eb0;have n:Mi (Le rk) a.toList b.toList [] 0 0:=⟨List.Perm.refl _,List.Pairwise.nil,(fun x h=>by cases h),(fun x h=>by cases h)⟩
   exact n.pushB (fun _=>dt7 _) sb e fun y hy=>first b0 eb0 y hy
 refine hv (hv (hv ?_))
 by_cases z1:1=b.size
 · rw[if_pos (by simpa using z1)];exact wpS_pure (doneB _ _ _ _ m0 (O4.refl st) (by omega))
 rw[if_neg (by simpa using z1)]
 by_cases z2:0+1=a.size
 · rw[if_pos (by simpa using z2)];exact wpS_pure (lastA _ _ _ _ m0 (O4.refl st) z2)
 rw[if_neg (by simpa using z2)];refine wpS_bind (wpS_get ?_)
 refine wpS_bind (wpS_mono (wpS_forRange (I:=fun x c t=>∃out i j g,c=(none,out,i,j,g)/\Mi (Le rk) a.toList b.toList (dz1 out) i j/\i+1 < a.size/\j < b.size/\x<=i+j/\O4 st t)
   (Q:=fun c t=>∃r,c.1=some r/\MQ rk a b st r t) ?step ?fin ⟨_,_,_,_,rfl,m0,by omega,by omega,by omega,O4.refl st⟩) ?post)
 case post=>
   rintro c t ⟨r,hr,q⟩;obtain ⟨c1,c2⟩:=c;cases hr;exact wpS_pure q
 case fin=>
   rintro c t ⟨out,i,j,g,rfl,m,h1,h2,h3,l⟩;omega
 case step=>
   rintro x c t _ xn ⟨out,i,j,g,rfl,m,h1,h2,h3,l⟩
   refine wpS_bind (wpS_mono (wpS_forRange (I:=fun y c t'=>∃out' i' j' p q,c=(none,out',i',j',p,q)/\t'=t/\Mi (Le rk) a.toList b.toList (dz1 out') i' j'/\i'+1 < a.size/\j' < b.size/\i'+j'=i+j+y)
     (Q:=fun c t'=>(∃r,c.1=some r/\MQ rk a b st r t')\/(∃out' i' j' p q,c=(none,out',i',j',p,q)/\t'=t/\Mi (Le rk) a.toList b.toList (dz1 out') i' j'/\i'+1 < a.size/\j' < b.size/\x+1<=i'+j')) ?step2 ?fin2 ⟨_,_,_,_,_,rfl,rfl,m,h1,h2,rfl⟩) ?post2)
   case fin2=>
     rintro c t' ⟨out',i',j',p,q,rfl,rfl,m',k1,k2,k3⟩;omega
   case step2=>
     rintro y c t' _ yn ⟨out',i',j',p,q,rfl,rfl,m',k1,k2,k3⟩;obtain ⟨u,eu,mu⟩:=ia.at (show i' < a.size by omega);obtain ⟨v,ev,mv⟩:=ib.at k2;refine wpS_bind (E9 ev (wpS_bind (E9 eu (wpS_bind (be0 C (l.kind.trans hk) mv mu ?_)))))
     by_cases d:rk v < rk u
     · rw[decide_eq_true d]
       dsimp only
       rw[if_pos rfl];have m2:=stepB out' i' j' u v m' eu ev (dz6 d);refine wpS_bind (E9 ev ?_)
       by_cases z:j'+1=b.size
       · rw[if_pos (by simpa using z)];exact wpS_pure (.inl ⟨_,rfl,doneB _ _ _ _ m2 l (by omega)⟩)
       · rw[if_neg (by simpa using z)]
         split
         · exact wpS_pure (.inr ⟨_,_,_,_,_,rfl,rfl,m2,k1,by omega,by omega⟩)
         · exact wpS_pure ⟨_,_,_,_,_,rfl,rfl,m2,k1,by omega,by omega⟩
     · rw[decide_eq_false d]
       dsimp only
       rw[if_neg (by decide)];have m2:=stepA out' i' j' u v m' eu ev (by omega);refine wpS_bind (E9 eu ?_)
       by_cases z:i'+1+1=a.size
       · rw[if_pos (by simpa using z)];exact wpS_pure (.inl ⟨_,rfl,lastA _ _ _ _ m2 l z⟩)
       · rw[if_neg (by simpa using z)]
         split
         · exact wpS_pure (.inr ⟨_,_,_,_,_,rfl,rfl,m2,by omega,k2,by omega⟩)
         · exact wpS_pure ⟨_,_,_,_,_,rfl,rfl,m2,by omega,k2,by omega⟩
   case post2=>
     rintro c t' (⟨r,hr,q⟩|⟨out',i',j',p,q,rfl,rfl,m',k1,k2,k3⟩)
     · obtain ⟨c1,c2⟩:=c;cases hr;exact wpS_pure ⟨r,rfl,q⟩
     · refine wpS_bind (wpS_lift (wpAny_rule ⟨rfl,?_⟩))
       refine wpS_bind (wpS_mono (wpS_forRange (I:=fun y c t2=>∃out2 i2 j2 g2 p q,c=(none,out2,i2,j2,g2,p,q)/\O4 st t2/\Mi (Le rk) a.toList b.toList (dz1 out2) i2 j2/\i2+1 < a.size/\j2 < b.size/\x+1<=i2+j2)
         (Q:=fun c t2=>(∃r,c.1=some r/\MQ rk a b st r t2)\/(∃out2 i2 j2 g2 p q,c=(none,out2,i2,j2,g2,p,q)/\O4 st t2/\Mi (Le rk) a.toList b.toList (dz1 out2) i2 j2/\i2+1 < a.size/\j2 < b.size/\x+1<=i2+j2)) ?step3 ?fin3 ⟨_,_,_,_,_,_,rfl,l,m',k1,k2,k3⟩) ?post3)
       case fin3=>
         rintro c t2 h;exact .inr h
       case post3=>
         rintro c t2 (⟨r,hr,q⟩|⟨out2,i2,j2,g2,p,q,rfl,l2,m2,n1,n2,n3⟩)
         · obtain ⟨c1,c2⟩:=c;cases hr;exact wpS_pure ⟨r,rfl,q⟩
         · refine wpS_bind (di3 ?_);exact wpS_pure ⟨_,_,_,_,rfl,m2,n1,n2,n3,l2.gal _⟩
       case step3=>
         rintro y c t2 _ yn ⟨out2,i2,j2,g2,p,q,rfl,l2,m2,n1,n2,n3⟩;obtain ⟨v,ev,mv⟩:=ib.at n2
         revert g2
         refine cn7 (fun hB g2=>cz3 (fun _=>hB g2) (fun _=>hB (g2 - 1))) ?_;intro gg;refine wpS_bind (cu7 l2 fun t3 l3=> ?_);refine wpS_bind (E9 ev ?_);refine wpS_bind (am6 (base:=i2) (n:=a.size - i2) (hint:=0) C (l3.kind.trans hk) ia mv (show i2+(a.size - i2)<=a.size by omega) (by omega) (fun x y h1 h2 h3=>ua x y (by omega) h2 (by omega)) fun k kn ka kb=> ?_)
         have mA:∀k',k'<=k->Mi (Le rk) a.toList b.toList (dz1 (out2++a.extract i2 (i2+k'))) (i2+k') j2:=fun k' hk'=>by
           rw[dw3,W4]
           refine m2.manyA (fun _=>dt7 _) sa k' (by omega) fun n x hn hx z hz=> ?_
           have h:=ka n (by omega);unfold G8 at h;rw[if_neg (by decide),M6 (p:=x) (by rw[<-dy0];exact hx)] at h
           have hle:rk x<=rk v:=by simpa using h
           exact du3 hle (aa9 (fun _=>dt7 _) sb (O1 ev) z hz)
         have gB:i2+k < a.size->rk v < R rk a (i2+k):=fun h=>by
           have h:=kb k (dt7 _) (by omega);unfold G8 at h;rw[if_neg (by decide)] at h
           simpa using h
         have m3:=mA k (dt7 _);refine G6 (fun kz=> ?_) (fun kz=> ?_);refine G6 (fun z=>wpS_pure (.inl ⟨_,rfl,lastA _ _ _ _ m3 l3 (V1 z)⟩)) (fun z1=> ?_);refine G6 (fun z=>wpS_pure (.inl ⟨_,rfl,doneA _ _ _ _ m3 l3 (ed9 (V1 z).symm)⟩)) (fun z2=> ?_);have z1:¬i2+k+1=a.size:=X7 z1;have z2:¬i2+k=a.size:=X7 z2
         have f1:i2+k+1 < a.size:=by omega
         have f2:x+1<=i2+k+j2:=by omega
         have f3:=gB (by omega);generalize out2++a.extract i2 (i2+k)=out3 at m3 ⊢;generalize i2+k=i3 at m3 f1 f2 f3 ⊢
         rotate_left
         have k0:k=0:=by omega
         subst k0
         have e0:out2++a.extract i2 (i2+0)=out2:=by simp<;>omega
         rw[e0,ee1] at m3
         have f1:i2+1 < a.size:=by omega
         have f2:x+1<=i2+j2:=by omega
         have f3:=gB (by omega);rw[ee1] at f3;clear e0;generalize out2=out3 at m3 ⊢;generalize i2=i3 at m3 f1 f2 f3 ⊢
         rotate_left
         all_goals
           obtain ⟨u3,eu3,mu3⟩:=ia.at (show i3 < a.size by omega);rw[M6 eu3] at f3;refine wpS_bind (E9 ev ?_);have m4:=stepB out3 i3 j2 u3 v m3 eu3 ev (dz6 f3);refine G6 (fun z=>wpS_pure (.inl ⟨_,rfl,doneB _ _ _ _ m4 l3 (ed9 (V1 z).symm)⟩)) (fun z3=> ?_);have z3:¬j2+1=b.size:=X7 z3;refine wpS_bind (E9 eu3 ?_);refine wpS_bind (am6 (base:=j2+1) (n:=b.size - (j2+1)) (hint:=0) C (l3.kind.trans hk) ib mu3 (show j2+1+(b.size - (j2+1))<=b.size by omega) (by omega) (fun x y h1 h2 h3=>ub x y (by omega) h2 (by omega)) fun k' kn' ka' kb'=> ?_)
           have m5:Mi (Le rk) a.toList b.toList (dz1 (out3.push v++b.extract (j2+1) (j2+1+k'))) i3 (j2+1+k'):=by
             rw[dw3,W4]
             refine m4.manyB (fun _=>dt7 _) sb k' (by omega) fun n x hn hx z hz=> ?_
             have h:=ka' n hn;unfold G8 at h;rw[if_pos rfl,M6 (p:=x) (by rw[<-dy0];exact hx)] at h
             have hle:rk x < rk u3:=by simpa using h
             exact du3 (dz6 hle) (aa9 (fun _=>dt7 _) sa (O1 eu3) z hz)
           have gA:j2+1+k' < b.size->rk u3<=R rk b (j2+1+k'):=fun h=>by
             have h:=kb' k' (dt7 _) (by omega);unfold G8 at h;rw[if_pos rfl] at h
             simpa using h
           refine G6 (fun kz'=> ?_) (fun kz'=> ?_);refine G6 (fun z=>wpS_pure (.inl ⟨_,rfl,doneB _ _ _ _ m5 l3 (ed9 (V1 z).symm)⟩)) (fun z4=> ?_);have z4:¬j2+1+k'=b.size:=X7 z4
           have f4:j2+1+k' < b.size:=by omega
           have f5:x+1<=i3+(j2+1+k'):=by omega
           have f6:=gA f4;generalize out3.push v++b.extract (j2+1) (j2+1+k')=out4 at m5 ⊢;generalize j2+1+k'=j4 at m5 f4 f5 f6 ⊢
           rotate_left
           have k0:k'=0:=by omega
           subst k0
           have e0:out3.push v++b.extract (j2+1) (j2+1+0)=out3.push v:=by simp<;>omega
           rw[e0,ee1] at m5
           have f4:j2+1 < b.size:=by omega
           have f5:x+1<=i3+(j2+1):=by omega
           have f6:=gA (by omega);rw[ee1] at f6;clear e0;generalize out3.push v=out4 at m5 ⊢;generalize j2+1=j4 at m5 f4 f5 f6 ⊢
           rotate_left
           all_goals
             obtain ⟨v4,ev4,mv4⟩:=ib.at f4;rw[M6 ev4] at f6;have m6:=stepA out4 i3 j4 u3 v4 m5 eu3 ev4 f6;refine wpS_bind (E9 eu3 ?_);refine G6 (fun z=>wpS_pure (.inl ⟨_,rfl,lastA _ _ _ _ m6 l3 (V1 z)⟩)) (fun z5=> ?_);have z5:¬i3+1+1=a.size:=X7 z5;refine G6 (fun _=> ?_) (fun _=> ?_)
             · exact wpS_pure (.inr ⟨out4.push u3,i3+1,j4,_,_,_,rfl,l3,m6,by omega,f4,by omega⟩)
             · exact wpS_pure ⟨out4.push u3,i3+1,j4,_,_,_,rfl,l3,m6,by omega,f4,by omega⟩
end
end TS
namespace TS
open PySem PyProof.Rows
def mHi:Array Keyed->Array Keyed->StateT SortSt Sem (Array Keyed):=sortPriv%PySem.Builtin.mergeHi
def Ge (rk:Keyed->Nat)(x y:Keyed):Prop:=rk y<=rk x
theorem Y6 {rk:Keyed->Nat}{l:List Keyed}(h:M9 (Le rk) l):M9 (Ge rk) l.reverse:=ee9.mpr h
theorem cn8 {rk:Keyed->Nat}{a b r:List Keyed}(h:Mg (Ge rk) b.reverse a.reverse r.reverse):Mg (Le rk) a b r:=by
 obtain ⟨p,u⟩:=h;refine ⟨?_,ee9.mp u⟩
 have e:b.reverse++a.reverse=(a++b).reverse:=by rw[ed7]
 rw[e] at p;exact (eg2 r).symm.trans (p.trans (eg2 _))
theorem P5 {l:List Keyed}{n:Nat}(h:n<=l.length):l.reverse.drop (l.length - n)=(l.take n).reverse:=by
 rw[List.drop_reverse];congr 2;omega
theorem cb2 {l:List Keyed}{n:Nat}{x:Keyed}(h1:1<=n)(h:l[n - 1]? =some x):l.reverse[l.length - n]? =some x:=by
 have hl:=(dt9.mp h).1;rw[eg4 (by omega),<-h]
 congr 1
 omega
theorem cb3 {l:List Keyed}{m n:Nat}(h1:m<=n)(h:n<=l.length):(l.reverse.take (l.length - n+(n - m))).drop (l.length - n)=((l.take n).drop m).reverse:=by
 rw[List.drop_take,P5 h,ef8,List.take_reverse,du5]
 congr 2
 omega
theorem am7 {rk:Keyed->Nat}{l:List Keyed}{n:Nat}{x:Keyed}(s:M9 (Le rk) l)(h1:1<=n)(h:l[n - 1]? =some x):∀y∈l.take n,rk y<=rk x:=fun y hy=>by
 obtain ⟨hl,e⟩:=dt9.mp h;obtain ⟨i,hi⟩:=dy5.mp hy;have hil:=(dt9.mp hi).1;rw[du5] at hil;rw[dy3 (by omega),dt5 (by omega)] at hi;have ey:=Option.some.inj hi
 rcases eh7 (show i<=n - 1 by omega) with z|z
 · have:=dx0.mp s i (n - 1) (by omega) hl z;rw[ey,e] at this;exact this
 · subst z;rw[<-ey,e];exact dt7 _
section
variable {prog:Program} {w:World} {A:Around} {E:Value->Shared->Prop} {s:Shared}
variable {rk:Keyed->Nat} {a0:Array Keyed} {κ:SortKind}
def Mh (rk:Keyed->Nat)(a b out:Array Keyed)(na nb:Nat):Prop:=na<=a.size/\nb<=b.size/\Mi (Ge rk) b.toList.reverse a.toList.reverse out.toList (b.size - nb) (a.size - na)
theorem Mh.pushB {a b out:Array Keyed}{na nb:Nat}{x:Keyed}(h:Mh rk a b out na nb)(sb:M9 (Le rk) b.toList)(n1:1<=nb)(hx:b[nb - 1]? =some x)(ha:∀y∈a.toList.take na,rk y<=rk x):Mh rk a b (out.push x) na (nb - 1):=by
 obtain ⟨h1,h2,m⟩:=h;refine ⟨h1,by omega,?_⟩;have lb:b.toList.length=b.size:=dv8;have la:a.toList.length=a.size:=dv8;rw[ec1,show b.size - (nb - 1)=b.size - nb+1 by omega]
 refine m.pushA (fun _=>dt7 _) (Y6 sb) ?_ fun y hy=>ha y ?_
 · rw[<-lb];exact cb2 n1 (O1 hx)
 · rw[<-la,P5 (by omega)] at hy;exact ec9.mp hy
theorem Mh.pushA {a b out:Array Keyed}{na nb:Nat}{x:Keyed}(h:Mh rk a b out na nb)(sa:M9 (Le rk) a.toList)(n1:1<=na)(hx:a[na - 1]? =some x)(hb:∀y∈b.toList.take nb,rk y<=rk x):Mh rk a b (out.push x) (na - 1) nb:=by
 obtain ⟨h1,h2,m⟩:=h;refine ⟨by omega,h2,?_⟩;have lb:b.toList.length=b.size:=dv8;have la:a.toList.length=a.size:=dv8;rw[ec1,show a.size - (na - 1)=a.size - na+1 by omega]
 refine m.pushB (fun _=>dt7 _) (Y6 sa) ?_ fun y hy=>hb y ?_
 · rw[<-la];exact cb2 n1 (O1 hx)
 · rw[<-lb,P5 (by omega)] at hy;exact ec9.mp hy
theorem Mh.manyA {a b out:Array Keyed}{na nb m:Nat}(h:Mh rk a b out na nb)(sa:M9 (Le rk) a.toList)(hm:m<=na)(hc:∀n x,m<=n->n < na->a[n]? =some x->∀y∈b.toList.take nb,rk y<=rk x):Mh rk a b (out++(a.extract m na).reverse) m nb:=by
 obtain ⟨h1,h2,mi⟩:=h;refine ⟨by omega,h2,?_⟩;have lb:b.toList.length=b.size:=dv8;have la:a.toList.length=a.size:=dv8
 have:=mi.manyB (fun _=>dt7 _) (Y6 sa) (na - m) (by rw[ec5];omega) fun n x hn hx y hy=>hc (na - 1 - n) x (by omega) (by omega) ?_ y ?_
 · rw[<-la,cb3 hm (by omega),<-W4,la,show a.size - na+(na - m)=a.size - m by omega] at this;rw[dw3,ef0];exact this
 · rw[eg4 (by omega)] at hx;rw[<-dy0,<-hx]
   congr 1
   omega
 · rw[<-lb,P5 (by omega)] at hy;exact ec9.mp hy
theorem Mh.manyB {a b out:Array Keyed}{na nb m:Nat}(h:Mh rk a b out na nb)(sb:M9 (Le rk) b.toList)(hm:m<=nb)(hc:∀n x,m<=n->n < nb->b[n]? =some x->∀y∈a.toList.take na,rk y<=rk x):Mh rk a b (out++(b.extract m nb).reverse) na m:=by
 obtain ⟨h1,h2,mi⟩:=h;refine ⟨h1,by omega,?_⟩;have lb:b.toList.length=b.size:=dv8;have la:a.toList.length=a.size:=dv8
 have:=mi.manyA (fun _=>dt7 _) (Y6 sb) (nb - m) (by rw[ec5];omega) fun n x hn hx y hy=>hc (nb - 1 - n) x (by omega) (by omega) ?_ y ?_
 · rw[<-lb,cb3 hm (by omega),<-W4,lb,show b.size - nb+(nb - m)=b.size - m by omega] at this;rw[dw3,ef0];exact this
 · rw[eg4 (by omega)] at hx;rw[<-dy0,<-hx]
   congr 1
   omega
 · rw[<-la,P5 (by omega)] at hy;exact ec9.mp hy
theorem ap4 (xs:Array Keyed)(j:Nat):(xs.extract 0 j).toList=xs.toList.take j:=by rw[W4,ef9]
theorem Mh.done {a b out:Array Keyed}{na nb:Nat}(h:Mh rk a b out na nb)(sa:M9 (Le rk) a.toList)(sb:M9 (Le rk) b.toList)(z:na=0\/nb=0):Mg (Le rk) a.toList b.toList (a.extract 0 na++b.extract 0 nb++out.reverse).toList:=by
 obtain ⟨h1,h2,m⟩:=h;have lb:b.toList.length=b.size:=dv8;have la:a.toList.length=a.size:=dv8;refine cn8 ?_
 have e:(a.extract 0 na++b.extract 0 nb++out.reverse).toList.reverse=out.toList++b.toList.reverse.drop (b.size - nb)++a.toList.reverse.drop (a.size - na):=by
   rw[dw3,dw3,ef0,ap4,ap4,ed7,ed7,List.reverse_reverse,<-la,<-lb,P5 (by omega),P5 (by omega),dv0]
 rw[e]
 rcases z with z|z
 · exact m.doneB (Y6 sb) (by rw[ec5];omega)
 · exact m.doneA (Y6 sa) (by rw[ec5];omega)
theorem Mh.first {a b out:Array Keyed}{na nb:Nat}(h:Mh rk a b out na nb)(sa:M9 (Le rk) a.toList)(sb:M9 (Le rk) b.toList)(lo:∀x∈a.toList.take na,∀y∈b.toList.take nb,rk y<=rk x):Mg (Le rk) a.toList b.toList (b.extract 0 nb++a.extract 0 na++out.reverse).toList:=by
 obtain ⟨h1,h2,m⟩:=h;have lb:b.toList.length=b.size:=dv8;have la:a.toList.length=a.size:=dv8;refine cn8 ?_
 have e:(b.extract 0 nb++a.extract 0 na++out.reverse).toList.reverse=out.toList++a.toList.reverse.drop (a.size - na)++b.toList.reverse.drop (b.size - nb):=by
   rw[dw3,dw3,ef0,ap4,ap4,ed7,ed7,List.reverse_reverse,<-la,<-lb,P5 (by omega),P5 (by omega),dv0]
 rw[e]
 refine m.last (Y6 sb) (Y6 sa) fun x hx y hy=> ?_
 rw[<-la,P5 (by omega)] at hx;rw[<-lb,P5 (by omega)] at hy;exact lo x (ec9.mp hx) y (ec9.mp hy)
theorem di5 {st:SortSt}{a b:Array Keyed}(C:Cm prog w A s κ rk a0)(hk:kindOf st=κ)(ia:In0 a0 a)(ib:In0 a0 b)(a1:1<=a.size)(b1:1<=b.size)(sa:M9 (Le rk) a.toList)(sb:M9 (Le rk) b.toList)
   (first:∀x,b[0]? =some x->∀y∈a.toList,Le rk x y) (last:∀x∈b.toList,∀y,a[a.size - 1]? =some y->Le rk x y):wpS (model prog w) A E s (mHi a b) (MQ rk a b st) st:=by
 have la:a.toList.length=a.size:=dv8;have lb:b.toList.length=b.size:=dv8;have ua:=ak0 sa;have ub:=ak0 sb;refine wpS_bind (wpS_lift (wpAny_rule ⟨rfl,?_⟩));obtain ⟨x0,ex0,mx0⟩:=ia.at (show a.size - 1 < a.size by omega);refine wpS_bind (E9 ex0 ?_)
 have doneM:∀out na nb t,Mh rk a b out na nb->O4 st t->na=0\/nb=0->MQ rk a b st (a.extract 0 na++b.extract 0 nb++Array.reverse out) t:=fun out na nb t m l z=>⟨m.done sa sb z,l⟩
 have firstM:∀out na nb t,Mh rk a b out na nb->O4 st t->nb=1->MQ rk a b st (b.extract 0 nb++a.extract 0 na++Array.reverse out) t:=fun out na nb t m l z=>by
   refine ⟨m.first sa sb fun x hx y hy=> ?_,l⟩;subst z;obtain ⟨b0,eb0,mb0⟩:=ib.at (show 0 < b.size by omega);have:=am7 sb (dt7 1) (O1 eb0) y hy;exact du3 this (first b0 eb0 x (dz0 hx))
 have stepA:∀out na nb x y,Mh rk a b out na nb->1<=na->1<=nb->a[na - 1]? =some x->b[nb - 1]? =some y->rk y<=rk x->Mh rk a b (out.push x) (na - 1) nb:=fun out na nb x y m h1 h2 hx hy le=>
   m.pushA sa h1 hx fun z hz=>du3 (am7 sb h2 (O1 hy) z hz) le
 have stepB:∀out na nb x y,Mh rk a b out na nb->1<=na->1<=nb->a[na - 1]? =some x->b[nb - 1]? =some y->rk x<=rk y->Mh rk a b (out.push y) na (nb - 1):=fun out na nb x y m h1 h2 hx hy le=>
   m.pushB sb h2 hy fun z hz=>du3 (am7 sa h1 (O1 hx) z hz) le
 have m0:Mh rk a b #[x0] (a.size - 1) b.size:=by
   have n:Mh rk a b #[] a.size b.size:=⟨dt7 _,dt7 _,by rw[ei8,ei8];exact ⟨List.Perm.refl _,List.Pairwise.nil,(fun x h=>by cases h),(fun x h=>by cases h)⟩⟩
   exact n.pushA sa a1 ex0 fun y hy=>last y (dz0 hy) x0 ex0
 refine G6 (fun z=>wpS_pure (doneM _ _ _ _ m0 (O4.refl st) (.inl (V1 z)))) (fun z1=> ?_);have z1:¬a.size - 1=0:=X7 z1;refine G6 (fun z=>wpS_pure (firstM _ _ _ _ m0 (O4.refl st) (V1 z))) (fun z2=> ?_);have z2:¬b.size=1:=X7 z2;refine wpS_bind (wpS_get ?_)
 refine wpS_bind (wpS_mono (wpS_forRange (I:=fun x c t=>∃na nb out g,c=(none,na,nb,out,g)/\Mh rk a b out na nb/\1<=na/\2<=nb/\x+na+nb<=a.size+b.size/\O4 st t)
   (Q:=fun c t=>∃r,c.1=some r/\MQ rk a b st r t) ?step ?fin ⟨_,_,_,_,rfl,m0,by omega,by omega,by omega,O4.refl st⟩) ?post)
 case post=>
   rintro c t ⟨r,hr,q⟩;obtain ⟨c1,c2⟩:=c;cases hr;exact wpS_pure q
 case fin=>
   rintro c t ⟨na,nb,out,g,rfl,m,h1,h2,h3,l⟩;omega
 case step=>
   rintro x c t _ xn ⟨na,nb,out,g,rfl,m,h1,h2,h3,l⟩
   refine wpS_bind (wpS_mono (wpS_forRange (I:=fun y c t'=>∃na' nb' out' p q,c=(none,na',nb',out',p,q)/\t'=t/\Mh rk a b out' na' nb'/\1<=na'/\2<=nb'/\na'+nb'+y=na+nb)
     (Q:=fun c t'=>(∃r,c.1=some r/\MQ rk a b st r t')\/(∃na' nb' out' p q,c=(none,na',nb',out',p,q)/\t'=t/\Mh rk a b out' na' nb'/\1<=na'/\2<=nb'/\x+1+na'+nb'<=a.size+b.size)) ?step2 ?fin2 ⟨_,_,_,_,_,rfl,rfl,m,h1,h2,rfl⟩) ?post2)
   case fin2=>
     rintro c t' ⟨na',nb',out',p,q,rfl,rfl,m',k1,k2,k3⟩;omega
   case step2=>
     rintro y c t' _ yn ⟨na',nb',out',p,q,rfl,rfl,m',k1,k2,k3⟩;obtain ⟨u,eu,mu⟩:=ia.at (show na' - 1 < a.size by have:=m'.1;omega);obtain ⟨v,ev,mv⟩:=ib.at (show nb' - 1 < b.size by have:=m'.2.1;omega);refine wpS_bind (E9 ev (wpS_bind (E9 eu (wpS_bind (be0 C (l.kind.trans hk) mv mu ?_)))))
     by_cases d:rk v < rk u
     · rw[decide_eq_true d];refine G6 (fun _=> ?_) (fun h=>absurd rfl h);have m2:=stepA out' na' nb' u v m' k1 (by omega) eu ev (dz6 d);refine wpS_bind (E9 eu ?_);refine G6 (fun z=>wpS_pure (.inl ⟨_,rfl,doneM _ _ _ _ m2 l (.inl (V1 z))⟩)) (fun z=> ?_);have z:¬na' - 1=0:=X7 z;refine G6 (fun _=> ?_) (fun _=> ?_)
       · exact wpS_pure (.inr ⟨na' - 1,nb',out'.push u,_,_,rfl,rfl,m2,by omega,k2,by omega⟩)
       · exact wpS_pure ⟨na' - 1,nb',out'.push u,_,_,rfl,rfl,m2,by omega,k2,by omega⟩
     · rw[decide_eq_false d];refine G6 (fun h=>absurd h (by decide)) (fun _=> ?_);have m2:=stepB out' na' nb' u v m' k1 (by omega) eu ev (by omega);refine wpS_bind (E9 ev ?_);refine G6 (fun z=>wpS_pure (.inl ⟨_,rfl,firstM _ _ _ _ m2 l (V1 z)⟩)) (fun z=> ?_);have z:¬nb' - 1=1:=X7 z;refine G6 (fun _=> ?_) (fun _=> ?_)
       · exact wpS_pure (.inr ⟨na',nb' - 1,out'.push v,_,_,rfl,rfl,m2,k1,by omega,by omega⟩)
       · exact wpS_pure ⟨na',nb' - 1,out'.push v,_,_,rfl,rfl,m2,k1,by omega,by omega⟩
   case post2=>
     rintro c t' (⟨r,hr,q⟩|⟨na',nb',out',p,q,rfl,rfl,m',k1,k2,k3⟩)
     · obtain ⟨c1,c2⟩:=c;cases hr;exact wpS_pure ⟨r,rfl,q⟩
     · refine wpS_bind (wpS_lift (wpAny_rule ⟨rfl,?_⟩))
       refine wpS_bind (wpS_mono (wpS_forRange (I:=fun y c t2=>∃na2 nb2 out2 g2 p q,c=(none,na2,nb2,out2,g2,p,q)/\O4 st t2/\Mh rk a b out2 na2 nb2/\1<=na2/\2<=nb2/\x+1+na2+nb2<=a.size+b.size)
         (Q:=fun c t2=>(∃r,c.1=some r/\MQ rk a b st r t2)\/(∃na2 nb2 out2 g2 p q,c=(none,na2,nb2,out2,g2,p,q)/\O4 st t2/\Mh rk a b out2 na2 nb2/\1<=na2/\2<=nb2/\x+1+na2+nb2<=a.size+b.size)) ?step3 ?fin3 ⟨_,_,_,_,_,_,rfl,l,m',k1,k2,k3⟩) ?post3)
       case fin3=>
         rintro c t2 h;exact .inr h
       case post3=>
         rintro c t2 (⟨r,hr,q⟩|⟨na2,nb2,out2,g2,p,q,rfl,l2,m2,n1,n2,n3⟩)
         · obtain ⟨c1,c2⟩:=c;cases hr;exact wpS_pure ⟨r,rfl,q⟩
         · refine wpS_bind (cu7 l2 fun t3 l3=> ?_);exact wpS_pure ⟨_,_,_,_,rfl,m2,n1,n2,n3,l3⟩
       case step3=>
         rintro y c t2 _ yn ⟨na2,nb2,out2,g2,p,q,rfl,l2,m2,n1,n2,n3⟩;have q1:=m2.1;have q2:=m2.2.1;obtain ⟨v,ev,mv⟩:=ib.at (show nb2 - 1 < b.size by omega)
         revert g2
         refine cn7 (fun hB g2=>cz3 (fun _=>hB g2) (fun _=>hB (g2 - 1))) ?_;intro gg;refine wpS_bind (cu7 l2 fun t3 l3=> ?_);refine wpS_bind (E9 ev ?_);refine wpS_bind (am6 (base:=0) (n:=na2) (hint:=na2 - 1) C (l3.kind.trans hk) ia mv (by omega) (by omega) (fun x y h1 h2 h3=>ua x y (by omega) h2 (by omega)) fun k kn ka kb=> ?_)
         have m3:Mh rk a b (out2++(a.extract k na2).reverse) k nb2:=m2.manyA sa kn fun n x h1 h2 hx z hz=>by
           have h:=kb n h1 h2;unfold G8 at h;rw[if_neg (by decide),ea0,M6 hx] at h
           have hle:rk v < rk x:=by simpa using h
           exact du3 (am7 sb (by omega) (O1 ev) z hz) (dz6 hle)
         have gA:1<=k->R rk a (k - 1)<=rk v:=fun h=>by
           have h:=ka (k - 1) (by omega);unfold G8 at h;rw[if_neg (by decide),ea0] at h
           simpa using h
         refine G6 (fun kz=> ?_) (fun kz=> ?_);have kz:na2 - k > 0:=kz;refine G6 (fun z=>wpS_pure (.inl ⟨_,rfl,doneM _ _ _ _ m3 l3 (.inl (V1 z))⟩)) (fun z1=> ?_);have z1:¬k=0:=X7 z1
         have f1:1<=k:=by omega
         have f2:x+1+k+nb2<=a.size+b.size:=by omega
         have f3:=gA f1;generalize out2++(a.extract k na2).reverse=out3 at m3 ⊢
         rotate_left
         have kz:¬na2 - k > 0:=kz
         have k0:k=na2:=by omega
         have e0:out2++(a.extract k na2).reverse=out2:=by rw[k0];simp<;>omega
         rw[e0] at m3
         have f1:1<=k:=by omega
         have f2:x+1+k+nb2<=a.size+b.size:=by omega
         have f3:=gA f1;clear e0;subst k0;generalize out2=out3 at m3 ⊢
         rotate_left
         all_goals
           obtain ⟨u3,eu3,mu3⟩:=ia.at (show k - 1 < a.size by omega);rw[M6 eu3] at f3;refine wpS_bind (E9 ev ?_);have m4:=stepB out3 k nb2 u3 v m3 f1 (by omega) eu3 ev f3;refine G6 (fun z=>wpS_pure (.inl ⟨_,rfl,firstM _ _ _ _ m4 l3 (V1 z)⟩)) (fun z3=> ?_);have z3:¬nb2 - 1=1:=X7 z3;refine wpS_bind (E9 eu3 ?_);refine wpS_bind (am6 (base:=0) (n:=nb2 - 1) (hint:=nb2 - 1 - 1) C (l3.kind.trans hk) ib mu3 (by omega) (by omega) (fun x y h1 h2 h3=>ub x y (by omega) h2 (by omega)) fun k' kn' ka' kb'=> ?_)
           have m5:Mh rk a b (out3.push v++(b.extract k' (nb2 - 1)).reverse) k k':=m4.manyB sb kn' fun n x h1 h2 hx z hz=>by
             have h:=kb' n h1 h2;unfold G8 at h;rw[if_pos rfl,ea0,M6 hx] at h
             have hle:rk u3<=rk x:=by simpa using h
             exact du3 (am7 sa f1 (O1 eu3) z hz) hle
           have gB:1<=k'->R rk b (k' - 1) < rk u3:=fun h=>by
             have h:=ka' (k' - 1) (by omega);unfold G8 at h;rw[if_pos rfl,ea0] at h
             simpa using h
           refine G6 (fun kz'=> ?_) (fun kz'=> ?_);have kz':nb2 - 1 - k' > 0:=kz';refine G6 (fun z=>wpS_pure (.inl ⟨_,rfl,firstM _ _ _ _ m5 l3 (V1 z)⟩)) (fun z4=> ?_);have z4:¬k'=1:=X7 z4;refine G6 (fun z=>wpS_pure (.inl ⟨_,rfl,doneM _ _ _ _ m5 l3 (.inr (V1 z))⟩)) (fun z5=> ?_);have z5:¬k'=0:=X7 z5
           have f4:2<=k':=by omega
           have f5:x+1+k+k'<=a.size+b.size:=by omega
           have f6:=gB (by omega);generalize out3.push v++(b.extract k' (nb2 - 1)).reverse=out4 at m5 ⊢
           rotate_left
           have kz':¬nb2 - 1 - k' > 0:=kz'
           have k0':k'=nb2 - 1:=by omega
           have e0:out3.push v++(b.extract k' (nb2 - 1)).reverse=out3.push v:=by rw[k0'];simp<;>omega
           rw[e0] at m5
           have f4:2<=k':=by omega
           have f5:x+1+k+k'<=a.size+b.size:=by omega
           have f6:=gB (by omega);clear e0;generalize out3.push v=out4 at m5 ⊢
           rotate_left
           all_goals
             have q3:=m5.2.1;obtain ⟨v4,ev4,mv4⟩:=ib.at (show k' - 1 < b.size by omega);rw[M6 ev4] at f6;have m6:=stepA out4 k k' u3 v4 m5 f1 (by omega) eu3 ev4 (dz6 f6);refine wpS_bind (E9 eu3 ?_)
             first
               |refine G6 (fun z=>wpS_pure (.inl ⟨_,rfl,doneM _ _ _ _ m6 l3 (.inl (V1 z))⟩)) (fun z6=> ?_)
               |(rw[k0'] at m6;refine G6 (fun z=>wpS_pure (.inl ⟨_,rfl,doneM _ _ _ _ m6 l3 (.inl (V1 z))⟩)) (fun z6=> ?_))
             have z6:¬k - 1=0:=X7 z6;refine G6 (fun _=> ?_) (fun _=> ?_)
             · first
                 |exact wpS_pure (.inr ⟨k - 1,k',out4.push u3,_,_,_,rfl,l3,m6,by omega,f4,by omega⟩)
                 |exact wpS_pure (.inr ⟨k - 1,nb2 - 1,out4.push u3,_,_,_,rfl,l3,m6,by omega,by omega,by omega⟩)
             · first
                 |exact wpS_pure ⟨k - 1,k',out4.push u3,_,_,_,rfl,l3,m6,by omega,f4,by omega⟩
                 |exact wpS_pure ⟨k - 1,nb2 - 1,out4.push u3,_,_,_,rfl,l3,m6,by omega,by omega,by omega⟩
end
end TS
namespace TS
open PySem PyProof.Rows
section
variable {rk:Keyed->Nat}
def P8 (xs:Array Keyed)(lo hi:Nat):List Keyed:=(xs.toList.take hi).drop lo
theorem S0 {xs:Array Keyed}{lo hi:Nat}(h:hi<=xs.size):(P8 xs lo hi).length=hi - lo:=by unfold P8;rw[dv1,du5];simp;omega
theorem P9 {xs:Array Keyed}{lo hi i:Nat}(hi':lo+i < hi):(P8 xs lo hi)[i]? =xs[lo+i]? :=by
 unfold P8;rw[ee4,dy3 hi',dy0]
theorem ax5 {xs:Array Keyed}{lo hi:Nat}(u:Up rk xs lo hi)(h:hi<=xs.size):M9 (Le rk) (P8 xs lo hi):=by
 refine dx0.mpr fun i j h1 h2 hij=> ?_
 have l:=S0 (lo:=lo) h;have e1:(P8 xs lo hi)[i]? =some (P8 xs lo hi)[i]:=dt5 h1;have e2:(P8 xs lo hi)[j]? =some (P8 xs lo hi)[j]:=dt5 h2;rw[P9 (by omega)] at e1 e2;have:=u (lo+i) (lo+j) (by omega) (by omega) (by omega);rw[M6 e1,M6 e2] at this;exact this
theorem di6 {xs:Array Keyed}{lo hi:Nat}(s:M9 (Le rk) (P8 xs lo hi))(h:hi<=xs.size):Up rk xs lo hi:=fun i j h1 h2 h3=>by
 have l:=S0 (lo:=lo) h
 rcases eh7 h2 with z|z
 · have:=dx0.mp s (i - lo) (j - lo) (by omega) (by omega) (by omega);have e1:(P8 xs lo hi)[i - lo]? =some (P8 xs lo hi)[i - lo]:=dt5 (by omega);have e2:(P8 xs lo hi)[j - lo]? =some (P8 xs lo hi)[j - lo]:=dt5 (by omega);rw[P9 (by omega),show lo+(i - lo)=i by omega] at e1;rw[P9 (by omega),show lo+(j - lo)=j by omega] at e2;rw[M6 e1,M6 e2];exact this
 · rw[z];exact dt7 _
theorem ab1 {xs:Array Keyed}{lo hi:Nat}{x:Keyed}(h:hi<=xs.size)(hx:x∈P8 xs lo hi):∃i,lo<=i/\i < hi/\xs[i]? =some x:=by
 obtain ⟨i,hi'⟩:=dy5.mp hx;have l:=S0 (lo:=lo) h;have:=(dt9.mp hi').1;exact ⟨lo+i,by omega,by omega,by rw[<-P9 (hi:=hi) (by omega)];exact hi'⟩
theorem ab2 {xs:Array Keyed}{a b c:Nat}(h1:a<=b)(h2:b<=c)(h:c<=xs.size):P8 xs a b++P8 xs b c=P8 xs a c:=by
 refine dy8 fun i=> ?_
 by_cases z:i < b - a
 · rw[dx9 (by rw[S0 (by omega)];omega),P9 (by omega),P9 (by omega)]
 · rw[dw5 (by rw[S0 (by omega)];omega),S0 (by omega)]
   by_cases y:i < c - a
   · rw[P9 (by omega),P9 (by omega)];congr 1;omega
   · rw[dv2 (by rw[S0 h];omega),dv2 (by rw[S0 h];omega)]
theorem cb4 (xs:Array Keyed):P8 xs 0 xs.size=xs.toList:=by
 unfold P8;rw[ef9,ea2 (by simp)]
def wr (p:Nat)(l:List (Keyed×Nat))(xs:Array Keyed):Array Keyed:=l.foldl (fun a q=>a.setIfInBounds (p+q.2) q.1) xs
theorem am8 (p:Nat):∀(l:List (Keyed×Nat)) (xs:Array Keyed),(wr p l xs).size=xs.size
 |[],xs=>rfl
 |q::l,xs=>(am8 p l _).trans (by simp)
theorem bt6 (p:Nat):∀(m:List Keyed) (n:Nat) (xs:Array Keyed),p+n+m.length<=xs.size->∀k,(wr p (m.zipIdx n) xs)[k]? =if p+n<=k/\k < p+n+m.length then m[k - (p+n)]? else xs[k]?
 |[],n,xs,_,k=>by
  show xs[k]? =_;rw[if_neg (by simp)]
 |x::m,n,xs,h,k=>by
  rw[du9] at h ⊢;show (wr p (m.zipIdx (n+1)) (xs.setIfInBounds (p+n) x))[k]? =_;rw[bt6 p m (n+1) _ (by rw[Array.size_setIfInBounds];omega) k,Array.getElem?_setIfInBounds]
  by_cases z:k=p+n
  · subst z;rw[if_neg (by omega),if_pos rfl,if_pos (by omega),if_pos (by omega),ei8];rfl
  · by_cases y:p+n<=k/\k < p+n+(m.length+1)
    · rw[if_pos (by omega),if_pos y,show k - (p+n)=k - (p+(n+1))+1 by omega];rfl
    · rw[if_neg (by omega),if_neg (by omega),if_neg y]
theorem cn9 {m:List Keyed}{p:Nat}{xs:Array Keyed}(h:p+m.length<=xs.size):P8 (wr p m.zipIdx xs) p (p+m.length)=m:=by
 refine dy8 fun i=> ?_
 by_cases z:i < m.length
 · rw[P9 (by omega),bt6 p m 0 xs h,if_pos (by omega)]
   congr 1;omega
 · rw[dv2 (by rw[S0 (by rw[am8];omega)];omega),dv2 (by omega)]
theorem cb5 {m:List Keyed}{p:Nat}{xs:Array Keyed}(h:p+m.length<=xs.size):G3 xs (wr p m.zipIdx xs) p (p+m.length):=fun k hk=>by
 rw[bt6 p m 0 xs h,if_neg (by omega)]
theorem ap5 {xs ys:Array Keyed}{lo hi a b:Nat}(hz:ys.size=xs.size)(k:G3 xs ys lo hi)(h:b<=lo\/hi<=a)(hb:b<=xs.size):P8 ys a b=P8 xs a b:=by
 refine dy8 fun i=> ?_
 by_cases z:a+i < b
 · rw[P9 z,P9 z];exact k _ (by omega)
 · rw[dv2 (by rw[S0 (by omega)];omega),dv2 (by rw[S0 hb];omega)]
theorem dc3 {m:List Keyed}{p:Nat}{xs:Array Keyed}(h:p+m.length<=xs.size)(pm:m.Perm (P8 xs p (p+m.length))):(wr p m.zipIdx xs).Perm xs:=by
 rw[eb5,<-cb4 xs,<-cb4 (wr p m.zipIdx xs),am8];have hk:=cb5 h;have hs:=am8 p m.zipIdx xs;rw[<-ab2 (dv5 p) (show p<=xs.size by omega) (dt7 _),<-ab2 (show p<=p+m.length by omega) (show p+m.length<=xs.size by omega) (dt7 _)];rw[<-ab2 (xs:=wr p m.zipIdx xs) (dv5 p) (show p<=xs.size by omega) (by omega),<-ab2 (xs:=wr p m.zipIdx xs) (show p<=p+m.length by omega) (show p+m.length<=xs.size by omega) (by omega)];rw[ap5 hs hk (.inl (dt7 _)) (by omega),ap5 hs hk (.inr (dt7 _)) (dt7 _),cn9 h];exact List.Perm.append_left _ (pm.append_right _)
end
end TS
namespace TS
open PySem PyProof.Rows
section
variable {prog:Program} {w:World} {A:Around} {E:Value->Shared->Prop} {s:Shared}
variable {rk:Keyed->Nat} {a0:Array Keyed} {κ:SortKind}
theorem dc4 {st:SortSt}(B:Bs a0 κ st)(lo hi:Nat):In0 a0 ((arrOf st).extract lo hi):=fun x hx=>by
 rw[W4] at hx;exact (eb5.mp B.perm).mem_iff.mp (dz0 (dy9 hx))
theorem bg6 {st:SortSt}(B:Bs a0 κ st):In0 a0 (arrOf st):=fun x hx=>(eb5.mp B.perm).mem_iff.mp hx
theorem cb6 {xs:Array Keyed}{lo hi i:Nat}(h:lo+i < hi):(xs.extract lo hi)[i]? =xs[lo+i]? :=by
 rw[<-dy0,W4];exact P9 h
theorem di7 {st:SortSt}{i sa na nb pw pw2:Nat}{Q:Bool->SortSt->Prop}(C:Cm prog w A s κ rk a0)(B:Bs a0 κ st)(e1:(pendingOf st)[i]? =some (sa,na,pw))(e2:(pendingOf st)[i+1]? =some (sa+na,nb,pw2))(n1:1<=na)(n2:1<=nb)
   (hz:sa+na+nb<=a0.size) (u1:Up rk (arrOf st) sa (sa+na)) (u2:Up rk (arrOf st) (sa+na) (sa+na+nb))
   (h:∀t,Bs a0 κ t->Up rk (arrOf t) sa (sa+na+nb)->G3 (arrOf st) (arrOf t) sa (sa+na+nb)->pendingOf t=((pendingOf st).setIfInBounds i (sa,na+nb,pw)).eraseIdxIfInBounds (i+1)->Q true t):
   wpS (model prog w) A E s (mergeAt' i) Q st:=by
 have hs:=B.size;refine wpS_bind (wpS_get ?_);rw[show (sortPriv%PySem.Builtin.SortState.pending) st=pendingOf st from rfl,e1,e2];refine wpS_bind (wpS_modify (f:=fun _=>setPending st (((pendingOf st).setIfInBounds i (sa,na+nb,pw)).eraseIdxIfInBounds (i+1))) ?_);obtain ⟨pd,hpd⟩:∃pd,pd=((pendingOf st).setIfInBounds i (sa,na+nb,pw)).eraseIdxIfInBounds (i+1):=⟨_,rfl⟩;rw[<-hpd] at h ⊢;have B1:Bs a0 κ (setPending st pd):=⟨B.perm,B.kind,B.ok⟩;obtain ⟨xs,hxs⟩:∃xs,xs=arrOf st:=⟨_,rfl⟩;have In:=bg6 B
 have ext0:=fun lo hi=>dc4 B lo hi
 rw[<-hxs] at hs u1 u2 h In ext0
 have hxz:sa+na+nb<=xs.size:=by omega
 obtain ⟨key,ek,mk⟩:=In.at (show sa+na < xs.size by omega)
 have ek':(arrOf st)[sa+na]? =some key:=by rw[<-hxs];exact ek
 refine wpS_bind (E9 ek' ?_);refine wpS_bind (am6 (left:=false) (arr:=arrOf st) (base:=sa) (n:=na) (hint:=0) C B1.kind (bg6 B) mk (by rw[<-hxs];omega) (by omega) (by rw[<-hxs];exact u1) fun k kn ka kb=> ?_)
 have ka1:∀i,sa<=i->i < sa+k->R rk xs i<=rk key:=fun i h1 h2=>by
   have:=ka (i - sa) (by omega);unfold G8 at this;rw[if_neg (by decide),<-hxs,show sa+(i - sa)=i by omega] at this
   simpa using this
 have kb1:∀i,sa+k<=i->i < sa+na->rk key < R rk xs i:=fun i h1 h2=>by
   have:=kb (i - sa) (by omega) (by omega);unfold G8 at this;rw[if_neg (by decide),<-hxs,show sa+(i - sa)=i by omega] at this
   simpa using this
 have rkey:R rk xs (sa+na)=rk key:=M6 ek
 have joined:(∀i,sa<=i->i < sa+na->∀j,sa+na<=j->j < sa+na+nb->R rk xs i<=R rk xs j)->Up rk xs sa (sa+na+nb):=fun g i j h1 h2 h3=>by
   by_cases y:j < sa+na
   · exact u1 i j h1 h2 y
   · by_cases z:i < sa+na
     · exact g i h1 z j (by omega) h3
     · exact u2 i j (by omega) h2 h3
 refine G6 (fun z=> ?_) (fun z=> ?_)
 · have z:na - k=0:=V1 z;refine wpS_pure (h _ B1 ?_ (by rw[hxs];exact G3.refl _ _ _) rfl);show Up rk (arrOf st) _ _;rw[<-hxs]
   refine joined fun i h1 h2 j h3 h4=> ?_
   have a1:=ka1 i h1 (by omega);have a2:=u2 (sa+na) j (dt7 _) h3 h4;omega
 have z:¬na - k=0:=X7 z
 have ep:sa+k+(na - k) - 1=sa+na - 1:=by omega
 obtain ⟨key2,ek2,mk2⟩:=In.at (show sa+na - 1 < xs.size by omega)
 have ek2':(arrOf st)[sa+k+(na - k) - 1]? =some key2:=by rw[ep,<-hxs];exact ek2
 have rkey2:R rk xs (sa+na - 1)=rk key2:=M6 ek2;refine wpS_bind (E9 ek2' ?_);refine wpS_bind (am6 (left:=true) (arr:=arrOf st) (base:=sa+na) (n:=nb) (hint:=nb - 1) C B1.kind (bg6 B) mk2 (by rw[<-hxs];omega) (by omega) (by rw[<-hxs];exact u2) fun k' kn' ka' kb'=> ?_)
 have ka2:∀i,sa+na<=i->i < sa+na+k'->R rk xs i < rk key2:=fun i h1 h2=>by
   have:=ka' (i - (sa+na)) (by omega);unfold G8 at this;rw[if_pos rfl,<-hxs,show sa+na+(i - (sa+na))=i by omega] at this
   simpa using this
 have kb2:∀i,sa+na+k'<=i->i < sa+na+nb->rk key2<=R rk xs i:=fun i h1 h2=>by
   have:=kb' (i - (sa+na)) (by omega) (by omega);unfold G8 at this;rw[if_pos rfl,<-hxs,show sa+na+(i - (sa+na))=i by omega] at this
   simpa using this
 refine G6 (fun z'=> ?_) (fun z'=> ?_)
 · have z':k'=0:=V1 z';refine wpS_pure (h _ B1 ?_ (by rw[hxs];exact G3.refl _ _ _) rfl);show Up rk (arrOf st) _ _;rw[<-hxs]
   refine joined fun i h1 h2 j h3 h4=> ?_
   have a1:=kb2 j (by omega) h4;have a2:=u1 i (sa+na - 1) h1 (by omega) (by omega);omega
 have z':¬k'=0:=X7 z';have xl:(xs.extract (sa+k) (sa+na)).toList=P8 xs (sa+k) (sa+na):=W4 _ _ _;have yl:(xs.extract (sa+na) (sa+na+k')).toList=P8 xs (sa+na) (sa+na+k'):=W4 _ _ _
 have xz:(xs.extract (sa+k) (sa+na)).size=na - k:=by rw[Array.size_extract];omega
 have yz:(xs.extract (sa+na) (sa+na+k')).size=k':=by rw[Array.size_extract];omega
 have sx:M9 (Le rk) (xs.extract (sa+k) (sa+na)).toList:=by rw[xl];exact ax5 (fun i j h1 h2 h3=>u1 i j (by omega) h2 h3) (by omega)
 have sy:M9 (Le rk) (xs.extract (sa+na) (sa+na+k')).toList:=by rw[yl];exact ax5 (fun i j h1 h2 h3=>u2 i j h1 h2 (by omega)) (by omega)
 have fx:∀x,(xs.extract (sa+na) (sa+na+k'))[0]? =some x->∀y∈(xs.extract (sa+k) (sa+na)).toList,Le rk x y:=fun x hx y hy=>by
   rw[cb6 (by omega),ee1,ek] at hx;rw[xl] at hy;obtain ⟨i,h1,h2,h3⟩:=ab1 (by omega) hy;have:=kb1 i h1 h2;rw[M6 h3] at this;rw[<-Option.some.inj hx];exact dz6 this
 have ly:∀x∈(xs.extract (sa+na) (sa+na+k')).toList,∀y,(xs.extract (sa+k) (sa+na))[(xs.extract (sa+k) (sa+na)).size - 1]? =some y->Le rk x y:=fun x hx y hy=>by
   rw[xz,cb6 (by omega),show sa+k+(na - k - 1)=sa+na - 1 by omega,ek2] at hy;rw[yl] at hx;obtain ⟨i,h1,h2,h3⟩:=ab1 (by omega) hx;have:=ka2 i h1 h2;rw[M6 h3] at this;rw[<-Option.some.inj hy];exact dz6 this
 have fin:∀m t,MQ rk (xs.extract (sa+k) (sa+na)) (xs.extract (sa+na) (sa+na+k')) (setPending st pd) m t->Q true (setArr t (wr (sa+k) m.toList.zipIdx (arrOf t)))/\failedOf t=none:=by
   rintro m t ⟨⟨pm,sm⟩,l⟩
   have lm:m.toList.length=na - k+k':=by rw[pm.length_eq,dt4,dv8,dv8,xz,yz]
   have ea:arrOf t=xs:=by rw[l.arr,hxs]
   have hle:sa+k+m.toList.length<=xs.size:=by omega
   have esg:P8 xs (sa+k) (sa+k+m.toList.length)=P8 xs (sa+k) (sa+na)++P8 xs (sa+na) (sa+na+k'):=by
     rw[ab2 (by omega) (by omega) (by omega)];congr 1;omega
   have pm':m.toList.Perm (P8 xs (sa+k) (sa+k+m.toList.length)):=by rw[esg,<-xl,<-yl];exact pm
   have kw:=cb5 hle;have zw:=am8 (sa+k) m.toList.zipIdx xs;refine ⟨h _ ⟨?_,l.kind.trans B1.kind,l.ok.trans B1.ok⟩ ?_ ?_ l.pend,l.ok.trans B1.ok⟩
   · show (wr (sa+k) m.toList.zipIdx (arrOf t)).Perm a0;rw[ea];refine (dc3 hle pm').trans ?_;rw[hxs];exact B.perm
   · show Up rk (wr (sa+k) m.toList.zipIdx (arrOf t)) sa (sa+na+nb);rw[ea];refine di6 ?_ (by omega)
     rw[<-ab2 (show sa<=sa+k by omega) (show sa+k<=sa+na+nb by omega) (by omega),<-ab2 (show sa+k<=sa+k+m.toList.length by omega) (show sa+k+m.toList.length<=sa+na+nb by omega) (by omega),cn9 hle,
       ap5 zw kw (.inl (dt7 _)) (by omega),ap5 zw kw (.inr (dt7 _)) (by omega)]
     have mm:∀x∈m.toList,(∃i,sa+k<=i/\i < sa+na/\xs[i]? =some x)\/(∃i,sa+na<=i/\i < sa+na+k'/\xs[i]? =some x):=fun x hx=>by
       have:=pm.mem_iff.mp hx;rw[xl,yl] at this
       rcases du1.mp this with e|e
       · exact .inl (ab1 (by omega) e)
       · exact .inr (ab1 (by omega) e)
     refine Y5.mpr ⟨ax5 (fun i j h1 h2 h3=>u1 i j h1 h2 (by omega)) (by omega),Y5.mpr ⟨sm,ax5 (fun i j h1 h2 h3=>u2 i j (by omega) h2 h3) (by omega),fun x hx y hy=> ?_⟩,fun x hx y hy=> ?_⟩
     · obtain ⟨j,j1,j2,j3⟩:=ab1 (by omega) hy;have b2:=kb2 j (by omega) j2;rw[M6 j3] at b2
       rcases mm x hx with ⟨i,i1,i2,i3⟩|⟨i,i1,i2,i3⟩
       · have b1:=u1 i (sa+na - 1) (by omega) (by omega) (by omega);rw[M6 i3,rkey2] at b1;exact du3 b1 b2
       · have b1:=ka2 i i1 i2;rw[M6 i3] at b1;show rk x<=rk y;omega
     · obtain ⟨i,i1,i2,i3⟩:=ab1 (by omega) hx;have b1:=ka1 i i1 i2;rw[M6 i3] at b1;show rk x<=rk y
       rcases du1.mp hy with e|e
       · rcases mm y e with ⟨j,j1,j2,j3⟩|⟨j,j1,j2,j3⟩
         · have b2:=kb1 j j1 j2;rw[M6 j3] at b2;omega
         · have b2:=u2 (sa+na) j (dt7 _) j1 (by omega);rw[M6 j3,rkey] at b2;omega
       · obtain ⟨j,j1,j2,j3⟩:=ab1 (by omega) e;have b2:=u2 (sa+na) j (dt7 _) (by omega) j2;rw[M6 j3,rkey] at b2;omega
   · show G3 xs (wr (sa+k) m.toList.zipIdx (arrOf t)) _ _;rw[ea];exact kw.wide (by omega) (by omega)
 have ix:=ext0 (sa+k) (sa+na);have iy:=ext0 (sa+na) (sa+na+k');have k1:kindOf (setPending st pd)=κ:=B1.kind
 have end_:∀m t,MQ rk (xs.extract (sa+k) (sa+na)) (xs.extract (sa+na) (sa+na+k')) (setPending st pd) m t->Q (failedOf (setArr t (wr (sa+k) m.toList.zipIdx (arrOf t)))).isNone (setArr t (wr (sa+k) m.toList.zipIdx (arrOf t))):=fun m t q=>by
   obtain ⟨f1,f2⟩:=fin m t q;show Q (failedOf t).isNone _;rw[f2];exact f1
 rw[hxs] at ix iy sx sy fx ly end_ xz yz
 have g1:1<=((arrOf st).extract (sa+k) (sa+na)).size:=by rw[xz];omega
 have g2:1<=((arrOf st).extract (sa+na) (sa+na+k')).size:=by rw[yz];omega
 refine G6 (fun _=> ?_) (fun _=> ?_)
 · refine wpS_bind (wpS_mono (di4 C k1 ix iy g1 g2 sx sy fx ly) fun m t q=> ?_);exact wpS_bind (wpS_modify (wpS_bind (wpS_get (wpS_pure (end_ m t q)))))
 · refine wpS_bind (wpS_mono (di5 C k1 ix iy g1 g2 sx sy fx ly) fun m t q=> ?_);exact wpS_bind (wpS_modify (wpS_bind (wpS_get (wpS_pure (end_ m t q)))))
end
end TS
namespace TS
open PySem PyProof.Rows
section
variable {rk:Keyed->Nat}
def J7 (rk:Keyed->Nat)(xs:Array Keyed):List (Nat×Nat×Nat)->Nat->Nat->Prop
 |[],a,b=>a=b
 |q::r,a,b=>q.1=a/\1<=q.2.1/\Up rk xs a (a+q.2.1)/\J7 rk xs r (a+q.2.1) b
theorem J7.len {xs:Array Keyed}:∀{l:List (Nat×Nat×Nat)} {a b:Nat},J7 rk xs l a b->a+l.length<=b
 |[],a,b,h=>ed9 h
 |q::r,a,b,⟨h1,h2,h3,h4⟩=>by
  have:=J7.len h4;rw[du9];omega
theorem J7.app {xs:Array Keyed}:∀{l m:List (Nat×Nat×Nat)} {a b:Nat},J7 rk xs (l++m) a b↔∃c,J7 rk xs l a c/\J7 rk xs m c b
 |[],m,a,b=>⟨fun h=>⟨a,rfl,h⟩,fun ⟨c,e,h⟩=>by cases e;exact h⟩
 |q::r,m,a,b=>by
  constructor
  · rintro ⟨h1,h2,h3,h4⟩;obtain ⟨c,g1,g2⟩:=J7.app.mp h4;exact ⟨c,⟨h1,h2,h3,g1⟩,g2⟩
  · rintro ⟨c,⟨h1,h2,h3,h4⟩,g⟩;exact ⟨h1,h2,h3,J7.app.mpr ⟨c,h4,g⟩⟩
theorem J7.kept {xs ys:Array Keyed}{lo hi:Nat}(k:G3 xs ys lo hi):∀{l:List (Nat×Nat×Nat)} {a b:Nat},J7 rk xs l a b->b<=lo\/hi<=a->J7 rk ys l a b
 |[],a,b,h,_=>h
 |q::r,a,b,⟨h1,h2,h3,h4⟩,hk=>by
  have:=J7.len h4;exact ⟨h1,h2,k.up h3 (by omega),J7.kept k h4 (by omega)⟩
theorem bk9 {α:Type}:∀(l:List α) (x y z:α) (m:List α),((l++x::y::m).set l.length z).eraseIdx (l.length+1)=l++z::m
 |[],x,y,z,m=>rfl
 |a::l,x,y,z,m=>by
  show a::(((l++x::y::m).set l.length z).eraseIdx (l.length+1))=_;rw[bk9 l x y z m];rfl
theorem di8 {α:Type}{l:List α}{i:Nat}(h:i+1 < l.length):l=l.take i++l[i]::l[i+1]::l.drop (i+2):=by
 have e1:=ed1 (show i < l.length by omega);have e2:=ed1 h;rw[<-e2,<-e1,dz5]
theorem cb7 {xs:Array Keyed}{pw:Nat}:∀{l:List (Nat×Nat×Nat)} {n a b:Nat},J7 rk xs l a b->J7 rk xs (l.modify n fun q=>(q.1,q.2.1,pw)) a b
 |[],n,a,b,h=>by cases n<;>exact h
 |q::r,0,a,b,⟨h1,h2,h3,h4⟩=>⟨h1,h2,h3,h4⟩
 |q::r,n+1,a,b,⟨h1,h2,h3,h4⟩=>⟨h1,h2,h3,cb7 h4⟩
end
section
variable {prog:Program} {w:World} {A:Around} {E:Value->Shared->Prop} {s:Shared}
variable {rk:Keyed->Nat} {a0:Array Keyed} {κ:SortKind}
theorem co0 {st:SortSt}{i lo:Nat}{Q:Bool->SortSt->Prop}(C:Cm prog w A s κ rk a0)(B:Bs a0 κ st)(cv:J7 rk (arrOf st) (pendingOf st).toList 0 lo)(hl:lo<=a0.size)(hi:i+1 < (pendingOf st).size)
   (h:∀t,Bs a0 κ t->J7 rk (arrOf t) (pendingOf t).toList 0 lo->(pendingOf t).size+1=(pendingOf st).size->G3 (arrOf st) (arrOf t) 0 lo->Q true t):wpS (model prog w) A E s (mergeAt' i) Q st:=by
 obtain ⟨l,hl0⟩:∃l,l=(pendingOf st).toList:=⟨_,rfl⟩
 have ll:l.length=(pendingOf st).size:=by rw[hl0];simp
 have hil:i+1 < l.length:=by omega
 have e:=di8 hil;rw[<-hl0,e] at cv;obtain ⟨c,c1,d1,d2,d3,f1,f2,f3,g⟩:=J7.app.mp cv;have lg:=J7.len g
 have e1:(pendingOf st)[i]? =some (c,l[i].2.1,l[i].2.2):=by
   rw[<-dy0,<-hl0,dt5 (by omega),<-d1]
 have e2:(pendingOf st)[i+1]? =some (c+l[i].2.1,l[i+1].2.1,l[i+1].2.2):=by
   rw[<-dy0,<-hl0,dt5 hil,<-f1]
 refine di7 C B e1 e2 d2 f2 (by omega) d3 f3 fun t B' u k p=> ?_
 have lt:(l.take i).length=i:=by rw[du5];omega
 have ep:(pendingOf t).toList=l.take i++(c,l[i].2.1+l[i+1].2.1,l[i].2.2)::l.drop (i+2):=by
   rw[p,Array.toList_eraseIdxIfInBounds,Array.toList_setIfInBounds,<-hl0];have:=bk9 (l.take i) l[i] l[i+1] (c,l[i].2.1+l[i+1].2.1,l[i].2.2) (l.drop (i+2));rw[lt,<-e] at this;exact this
 have lc:=J7.len c1;refine h t B' ?_ ?_ (k.wide (dv5 _) (by omega))
 · rw[ep];refine J7.app.mpr ⟨c,J7.kept k c1 (.inl (dt7 _)),rfl,by show 1<=l[i].2.1+l[i+1].2.1;omega,?_,?_⟩
   · show Up rk (arrOf t) c (c+(l[i].2.1+l[i+1].2.1));rw[<-Nat.add_assoc];exact u
   · show J7 rk (arrOf t) (l.drop (i+2)) (c+(l[i].2.1+l[i+1].2.1)) lo;rw[<-Nat.add_assoc];exact J7.kept k g (.inr (dt7 _))
 · rw[<-dv8,ep,dt4,du9,dv1,lt];omega
theorem dm6 {c:Prop}[Decidable c]{a b n:Nat}(h1:a<=n)(h2:b<=n):(if c then a else b)<=n:=by split<;>assumption
theorem cu8 {t:SortSt}{lo n:Nat}(cv:J7 rk (arrOf t) (pendingOf t).toList 0 lo)(n1:1<=n)(u:Up rk (arrOf t) lo (lo+n)):J7 rk (arrOf t) ((pendingOf t).push (lo,n,0)).toList 0 (lo+n):=by
 rw[ec1];exact J7.app.mpr ⟨lo,cv,rfl,n1,u,rfl⟩
theorem dr5 {st:SortSt}{Q:Unit->SortSt->Prop}(C:Cm prog w A s κ rk a0)(B:Bs a0 κ st)(pe:pendingOf st= #[])(h2:2<=a0.size)
   (h:∀t,Bs a0 κ t->Up rk (arrOf t) 0 a0.size->Q () t):wpS (model prog w) A E s sortRuns' Q st:=by
 rw[sortRuns'_eq];refine wpS_bind (wpS_get ?_)
 dsimp only
 rw[B.size];generalize minRun' a0.size a0.size 0=mr
 refine wpS_bind (wpS_mono (wpS_forRange (I:=fun x c t=>∃lo,c=(none,lo)/\Bs a0 κ t/\J7 rk (arrOf t) (pendingOf t).toList 0 lo/\lo<=a0.size/\(x<=lo\/a0.size<=lo))
   (Q:=fun c t=>∃lo,c=(none,lo)/\Bs a0 κ t/\J7 rk (arrOf t) (pendingOf t).toList 0 lo/\lo=a0.size) ?step ?fin ⟨0,rfl,B,by rw[pe];exact rfl,dv5 _,.inl (dt7 _)⟩) ?post)
 case fin=>
   rintro c t ⟨lo,rfl,B',cv,h3,h4⟩;exact ⟨lo,rfl,B',cv,by omega⟩
 case step=>
   rintro x c t _ xn ⟨lo,rfl,B',cv,h3,h4⟩;refine G6 (fun z=>wpS_pure ⟨lo,rfl,B',cv,by have z:lo≥a0.size:=z;omega⟩) (fun z=> ?_);have z:¬lo≥a0.size:=z;refine wpS_bind (wpS_mono (di2 (lo:=lo) (nrem:=a0.size - lo) C (by omega) (by omega) B') ?_);rintro r t1 ⟨n,rfl,B1,n1,n2,u1,k1,p1⟩
   have cv1:J7 rk (arrOf t1) (pendingOf t1).toList 0 lo:=by rw[p1];exact J7.kept k1 cv (.inl (dt7 _))
   clear k1 p1;refine G6 (fun y=> ?_) (fun y=> ?_);have y:n < mr:=y;refine wpS_bind (wpS_lift (wpAny_rule ⟨rfl,?_⟩));refine wpS_bind (di1 (lo:=lo) (n:=min (a0.size - lo) mr) (ok:=n) C (by omega) (by omega) B1 u1 fun t2 B2 u2 k2 p2=> ?_);refine G6 (fun h=>absurd h (by decide)) (fun _=> ?_)
   have cv2:J7 rk (arrOf t2) (pendingOf t2).toList 0 lo:=by rw[p2];exact J7.kept k2 cv1 (.inl (dt7 _))
   have N1:1<=min (a0.size - lo) mr:=by omega
   have N2:lo+min (a0.size - lo) mr<=a0.size:=by omega
   clear p2 k2;generalize min (a0.size - lo) mr=N at u2 N1 N2 ⊢
   rotate_left
   have N1:1<=n:=n1
   have N2:lo+n<=a0.size:=by omega
   have B2:=B1;have u2:=u1;have cv2:=cv1;generalize t1=t2 at B2 u2 cv2 ⊢;generalize n=N at N1 N2 u2 ⊢
   rotate_left
   all_goals
     refine wpS_bind (wpS_get ?_)
     cases hb:(pendingOf t2).back? with
     |none=>
      exact wpS_bind (wpS_modify (wpS_pure ⟨lo+N,rfl,⟨B2.perm,B2.kind,B2.ok⟩,cu8 cv2 N1 u2,N2,by omega⟩))
     |some q=>
      obtain ⟨s1,m1,pw⟩:=q
      refine wpS_bind (wpS_mono (wpS_forRange (I:=fun y c t=>c=(none,())/\Bs a0 κ t/\J7 rk (arrOf t) (pendingOf t).toList 0 lo/\Up rk (arrOf t) lo (lo+N))
        (Q:=fun c t=>c=(none,())/\Bs a0 κ t/\J7 rk (arrOf t) (pendingOf t).toList 0 lo/\Up rk (arrOf t) lo (lo+N)) ?_ (fun _ _ h=>h) ⟨rfl,B2,cv2,u2⟩) ?_)
      · rintro y c t3 _ yn ⟨rfl,B3,cv3,u3⟩;refine wpS_bind (wpS_get ?_)
        by_cases g:(pendingOf t3).size > 1
        · rw[if_pos g,ea5 (show (pendingOf t3).size - 2 < (pendingOf t3).size by omega)];refine G6 (fun _=>wpS_pure ⟨rfl,B3,cv3,u3⟩) (fun _=> ?_);refine wpS_bind (co0 C B3 cv3 (by omega) (by omega) fun t4 B4 cv4 sz k4=> ?_);refine G6 (fun h=>absurd h (by decide)) (fun _=> ?_);exact wpS_pure ⟨rfl,B4,cv4,k4.up u3 (.inr (dt7 _))⟩
        · rw[if_neg g];exact wpS_pure ⟨rfl,B3,cv3,u3⟩
      · rintro c t3 ⟨rfl,B3,cv3,u3⟩;refine wpS_bind (wpS_modify (wpS_bind (wpS_modify (wpS_pure ⟨lo+N,rfl,⟨B3.perm,B3.kind,B3.ok⟩,?_,N2,by omega⟩))));show J7 rk (arrOf t3) (dz1 (Array.push (Array.modify (pendingOf t3) _ _) (lo,N,0))) 0 (lo+N);rw[ec1,Array.toList_modify];exact J7.app.mpr ⟨lo,cb7 cv3,rfl,N1,u3,rfl⟩
 case post=>
   rintro c t ⟨lo,rfl,B',cv,rfl⟩
   dsimp only
   have lc:=J7.len cv
   refine wpS_bind (wpS_mono (wpS_forRange (I:=fun x c t=>c=(none,())/\Bs a0 κ t/\J7 rk (arrOf t) (pendingOf t).toList 0 a0.size/\((pendingOf t).size<=1\/(pendingOf t).size+x<=a0.size))
     (Q:=fun c t=>c=(none,())/\Bs a0 κ t/\J7 rk (arrOf t) (pendingOf t).toList 0 a0.size/\(pendingOf t).size<=1) ?stepE ?finE ⟨rfl,B',cv,.inr (by rw[<-dv8];omega)⟩) ?postE)
   case finE=>
     rintro c t ⟨rfl,B',cv,z⟩;exact ⟨rfl,B',cv,by omega⟩
   case stepE=>
     rintro x c t _ xn ⟨rfl,B',cv,z⟩;refine wpS_bind (wpS_get ?_);refine G6 (fun y=>wpS_pure ⟨rfl,B',cv,y⟩) (fun y=> ?_);have y:¬(pendingOf t).size<=1:=y;refine wpS_bind (co0 C B' cv (dt7 _) ?_ fun t2 B2 cv2 sz _=> ?_)
     · exact ea1 (Nat.succ_le_succ (dm6 (n:=(pendingOf t).size - 2) (by omega) (dt7 _))) (by omega)
     · exact wpS_pure ⟨rfl,B2,cv2,by omega⟩
   case postE=>
     rintro c t ⟨rfl,B',cv,z⟩;refine wpS_pure (h t B' ?_);obtain ⟨l,hl⟩:∃l,l=(pendingOf t).toList:=⟨_,rfl⟩
     have ll:l.length<=1:=by rw[hl,dv8];exact z
     rw[<-hl] at cv
     match l,ll,cv with
     |[],_,cv=>have:0=a0.size:=cv;omega
     |[q],_,⟨c1,c2,c3,c4⟩=>
      have c4:0+q.2.1=a0.size:=c4;rw[c4] at c3;exact c3
end
end TS
namespace L2
open PySem PySem.Spec PyProof.Rows
section
variable {prog:Program} {w:World} {A:Around} {E:Value->Shared->Prop} {s:Shared}
structure au5 (prog:Program)(w:World)(A:Around)(s:Shared)(rk:Value->Nat)(vs:List Value):Prop where
 kind:2<=vs.length->∀(Q:SortKind->Shared->Prop) (E:Value->Shared->Prop),Q oneType' s->wpAny (model prog w) A (keyKind' vs.toArray) Q E s
 less:∀x∈vs,∀y∈vs,∀(Q:Bool->Shared->Prop) (E:Value->Shared->Prop),Q (decide (rk x < rk y)) s->wpAny (model prog w) A (oneLt' true x y) Q E s
theorem bg7 {vs:List Value}{p:Keyed}(h:p∈(pairsOf vs).toList):p.1∈vs/\p.2=p.1:=by
 rw[pairsOf_toList] at h;obtain ⟨i,hi⟩:=dy5.mp h;obtain ⟨x,y⟩:=p;rw[List.getElem?_zip_eq_some] at hi;obtain ⟨e1,e2⟩:=hi;rw[e1] at e2;exact ⟨du8 e1,(Option.some.inj e2).symm⟩
theorem di9 {rk:Value->Nat}{vs:List Value}{xs:Array Keyed}(hp:xs.Perm (pairsOf vs))(u:TS.Up (fun p=>rk p.1) xs 0 xs.size):(xs.map (·.2)).toList.Perm vs/\(xs.map (·.2)).toList.Pairwise (fun x y=>rk x<=rk y):=by
 have pl:=eb5.mp hp
 have e:xs.toList.map (·.2)=xs.toList.map (·.1):=ea4 fun p hp'=>(bg7 (pl.mem_iff.mp hp')).2
 rw[ei3];constructor
 · refine (pl.map _).trans ?_;rw[<-ei3,bk8]
 · show List.Pairwise _ (xs.toList.map (·.2));rw[e];exact ec0.mpr (TS.do3 u)
theorem dm7 {rk:Value->Nat}{vs:List Value}(h:au5 prog w A s rk vs):TS.Cm prog w A s oneType' (fun p=>rk p.1) (pairsOf vs):=fun x hx y hy Q E' q=>by
 rw[keyLt'_oneType];exact h.less x.1 (bg7 hx).1 y.1 (bg7 hy).1 Q E' q
theorem dm8 {a:Addr}{vs:List Value}{rk:Value->Nat}{n:Nat}{P:Fin->Shared->Prop}(ho:s.heap.get? a=some (seqObj "list" vs.toArray n))(hl:vs.length<=sizeLine)
   (ok:∀h':Heap,(∀b o,b≠a->s.heap.get? b=some o->h'.get? b=some o)->au5 prog w A {s with heap:=h'} rk vs)
   (h:∀out:List Value,out.Perm vs->out.Pairwise (fun x y=>rk x<=rk y)->P (.done (.ret .none)) {s with heap:=sortedHeap s.heap a vs out.toArray}):wpAny (model prog w) A (Builtin.«list.sort» ⟨[.ref a],[]⟩) P E s:=by
 rw[list_sort_plain];have ha:a < s.heap.objs.size:=Heap.lt_size ho
 have hsz:vs.toArray.size=vs.length:=by simp
 refine wpAny_bind (listItems_at ho rfl ?_);refine wpAny_bind (listUpdate_at ho rfl ?_ (by rw[hsz];exact hl) (dv5 _));obtain ⟨e1,ho1⟩:∃e1,(s.heap.update a (Obj.mapSeq fun _=> #[])).get? a=some (seqObj "list" #[] e1):=⟨_,get?_update_seq ho (fun _=> #[])⟩;refine wpAny_bind (seqEpoch_at ho1 rfl ?_);refine wpAny_bind (wpAny_newTuple ?_ (hsz:=hl));refine wpAny_bind (wpAny_newList ?_);refine wpAny_holding ?_;obtain ⟨H6,e6⟩:∃H6,H6=((s.heap.update a (Obj.mapSeq fun _=> #[])).push (seqObj "tuple" vs.toArray 0)).push (seqObj "list" #[] 0):=⟨_,rfl⟩
 have ho6:H6.get? a=some (seqObj "list" #[] e1):=by
   rw[e6,Heap.get?_push_ne _ _ _ (by rw[size_push',Heap.size_update];exact dx1 (eg0 ha)),Heap.get?_push_ne _ _ _ (by rw[Heap.size_update];exact dx1 ha)];exact ho1
 have old:∀b o,b≠a->s.heap.get? b=some o->H6.get? b=some o:=by
   intro b o nb hb;rw[e6];refine Heap.get?_push_of_some _ (Heap.get?_push_of_some _ ?_);rw[Heap.get?_update_ne _ _ _ _ nb];exact hb
 have ok6:=ok H6 old;show wpAny (model prog w) A _ P E {s with heap:=((s.heap.update a (Obj.mapSeq fun _=> #[])).push (seqObj "tuple" vs.toArray 0)).push (seqObj "list" #[] 0)};unfold sortedHeap at h;rw[<-e6] at h ⊢
 dsimp only
 by_cases h2:vs.toArray.size < 2
 · rw[if_pos h2,if_pos h2];refine wpAny_bind (wpAny_pure ?_);rw[StateT.run_pure];refine wpAny_bind (wpAny_pure ?_)
   dsimp only
   refine wpAny_bind (seqEpoch_at ho6 rfl ?_);have ee:(arrOf (SortSt.mk' general' (vs.toArray.zip vs.toArray) #[] 7 none)).map (·.2)=vs.toArray:=bk8 vs;rw[ee];refine wpAny_bind (listUpdate_at ho6 rfl ?_ (dv5 _) (by rw[hsz];omega));simp only[bne_self_eq_false,ea9,if_false];refine wpAny_pure (h vs (List.Perm.refl _) ?_)
   match vs,hsz,h2 with
   |[],_,_=>exact List.Pairwise.nil
   |[_],_,_=>exact ee0 _ _
   |_::_::_,_,h2=>simp at h2;omega
 · rw[if_neg h2,if_neg h2];refine wpAny_bind (ok6.kind (by omega) _ _ ?_)
   refine wpAny_bind (wpAny_mono (TS.dr5 (s:={s with heap:=H6}) (st:=SortSt.mk' oneType' (vs.toArray.zip vs.toArray) #[] 7 none) (a0:=pairsOf vs) (rk:=fun p=>rk p.1)
     (Q:=fun _ st'=>(arrOf st').Perm (pairsOf vs)/\failedOf st'=none/\TS.Up (fun p=>rk p.1) (arrOf st') 0 (pairsOf vs).size) (dm7 ok6) ⟨Array.Perm.refl _,rfl,rfl⟩ rfl (by rw[pairsOf_size];omega) fun t B u=>⟨B.perm,B.ok,u⟩) ?_ fun _ _ e=>e)
   rintro ⟨⟨⟩,st'⟩ s' ⟨rfl,hp,hf,hu⟩
   dsimp only
   rw[<-hp.size_eq] at hu;obtain ⟨o1,o2⟩:=di9 hp hu;refine wpAny_bind (seqEpoch_at ho6 rfl ?_);refine wpAny_bind (listUpdate_at ho6 rfl ?_ (dv5 _) (by rw[Array.size_map,hp.size_eq,pairsOf_size];omega));rw[hf];simp only[bne_self_eq_false,ea9,if_false];have:=h _ o1 o2;rw[Array.toArray_toList] at this;exact wpAny_pure this
theorem cb8 {l:Addr}{vs:List Value}{rk:Value->Nat}{Q:Value->Shared->Prop}(pl:s.heap.IsList l vs.toArray)(hl:vs.length<=sizeLine)
   (ok:∀h':Heap,(∀b o,b < s.heap.objs.size->s.heap.get? b=some o->h'.get? b=some o)->au5 prog w A.in1.in1 {s with heap:=h'} rk vs)
   (h:∀out:List Value,out.Perm vs->out.Pairwise (fun x y=>rk x<=rk y)->Q (.ref (s.heap.objs.size+1)) {s with heap:=sortedAll s.heap vs out.toArray}):wpAny (model prog w) A (call (.builtin "sorted") [.ref l]) Q E s:=by
 refine Calls.call_function_entry kind_sorted plain_sorted entry_sorted (args_sorted1 _) ?_;unfold Builtin.«sorted»;refine wpAny_bind (m:=checkCount "sorted" 1 1 _) (wpAny_pure ?_);refine wpAny_bind (collect_list pl ?_ hl);refine wpAny_bind (wpAny_newList ?_ (hsz:=hl))
 have hsz:((s.heap.push (seqObj "list" #[] 0)).update s.heap.objs.size (Obj.mapSeq (· ++vs.toArray))).objs.size=s.heap.objs.size+1:=by
   rw[Heap.size_update,size_push']
 have hoL:(((s.heap.push (seqObj "list" #[] 0)).update s.heap.objs.size (Obj.mapSeq (· ++vs.toArray))).push (seqObj "list" vs.toArray 0)).get? (s.heap.objs.size+1)=some (seqObj "list" vs.toArray 0):=by
   rw[<-hsz];exact Heap.get?_push_size _ rfl
 show wpAny _ _ _ _ _ {s with heap:=((s.heap.push (seqObj "list" #[] 0)).update s.heap.objs.size (Obj.mapSeq (· ++vs.toArray))).push (seqObj "list" vs.toArray 0)};rw[hsz];refine wpAny_bind (wpAny_holding (wpAny_call_entry slot_list_sort ⟨_,hoL,rfl⟩ entry_list_sort (dm8 hoL hl (rk:=rk) (fun h' old=>ok h' fun b o lt e=>old b o (dx1 (eg0 lt)) ?_) fun out o1 o2=>⟨_,rfl,?_⟩) (args_list_sort _)))
 · refine Heap.get?_push_of_some _ ?_;rw[Heap.get?_update_ne _ _ _ _ (dx1 lt)];exact Heap.get?_push_of_some _ e
 · exact wpAny_pure ⟨_,rfl,h out o1 o2⟩
end
end L2
namespace L2
open PySem PySem.Spec PyProof.Rows
section
variable {α:Type}
theorem ap6 {p q:α->Bool}(h:∀a,p a=true->q a=true):∀{l:List α} {x:α},x∈l->p x=false->q x=true->l.countP p < l.countP q
 |[],x,hx,_,_=>by cases hx
 |y::l,x,hx,px,qx=>by
  have le:l.countP p<=l.countP q:=List.countP_mono_left fun a _=>h a
  rw[List.countP_cons,List.countP_cons]
  by_cases e:x=y
  · subst e;rw[px,qx];simp;omega
  · have hx':x∈l:=by
      rcases dw1.mp hx with z|z
      · exact absurd z e
      · exact z
    have:=ap6 h hx' px qx
    cases hp:p y with
    |false=>simp;split<;>omega
    |true=>rw[h y hp];simp;omega
def ad3 (lt:α->α->Bool)(l:List α)(x:α):Nat:=l.countP fun y=>lt y x
theorem cb9 {lt:α->α->Bool}(ir:∀a,lt a a=false)(tr:∀a b c,lt a b=true->lt b c=true->lt a c=true)(tot:∀a b,lt a b=false->lt b a=true\/a=b){l:List α}{x y:α}(hx:x∈l)(hy:y∈l):decide (ad3 lt l x < ad3 lt l y)=lt x y:=by
 unfold ad3
 cases h:lt x y with
 |true=>exact decide_eq_true (ap6 (fun a ha=>tr a x y ha h) hx (ir x) h)
 |false=>
  refine decide_eq_false ?_
  rcases tot x y h with z|z
  · have:=ap6 (fun a ha=>tr a y x ha z) hy (ir y) z;omega
  · rw[z];omega
theorem cc0 {lt:α->α->Bool}(ir:∀a,lt a a=false)(tr:∀a b c,lt a b=true->lt b c=true->lt a c=true){l:List α}{x y:α}(hy:y∈l)(h:ad3 lt l x<=ad3 lt l y):lt y x=false:=by
 cases z:lt y x with
 |false=>rfl
 |true=>
  have:=ap6 (l:=l) (fun a ha=>tr a y x ha z) hy (ir y) z;unfold ad3 at h;omega
end
theorem bg8:∀a:List Int,HT.ax0 a a=false
 |[]=>rfl
 |x::a=>by rw[HT.ce5,if_pos rfl];exact bg8 a
theorem cc1:∀a b:List Int,HT.ax0 a b=false->HT.ax0 b a=true\/a=b
 |[],[],_=> .inr rfl
 |[],_::_,h=>by rw[HT.da3] at h;cases h
 |_::_,[],_=> .inl rfl
 |x::a,y::b,h=>by
  rw[HT.ce5] at h ⊢
  by_cases e:x=y
  · rw[if_pos e] at h;rw[if_pos e.symm]
    rcases cc1 a b h with z|z
    · exact .inl z
    · exact .inr (by rw[e,z])
  · rw[if_neg e] at h;rw[if_neg (fun z=>e z.symm)];have:=of_decide_eq_false h;exact .inl (decide_eq_true (by omega))
theorem bt7:∀a b c:List Int,HT.ax0 a b=true->HT.ax0 b c=true->HT.ax0 a c=true
 |[],[],_,h,_=>by cases h
 |_::_,[],_,h,_=>by cases h
 |_,_::_,[],_,h=>by cases h
 |[],_::_,_::_,_,_=>rfl
 |x::a,y::b,z::c,h,g=>by
  rw[HT.ce5] at h g ⊢
  by_cases e:x=y
  · subst e;rw[if_pos rfl] at h
    by_cases e2:x=z
    · subst e2;rw[if_pos rfl] at g ⊢;exact bt7 a b c h g
    · rw[if_neg e2] at g ⊢;exact g
  · rw[if_neg e] at h;have h1:=of_decide_eq_true h
    by_cases e2:y=z
    · subst e2;rw[if_neg e];exact h
    · rw[if_neg e2] at g;have g1:=of_decide_eq_true g;rw[if_neg (by omega)];exact decide_eq_true (by omega)
section
variable {prog:Program} {w:World} {A:Around} {E:Value->Shared->Prop} {s:Shared}
theorem co1 (hu:A.units < cLine){x y:Value}{ns ms:List Int}(hx:aj9 s.heap x ns)(hy:aj9 s.heap y ms){Q:Bool->Shared->Prop}(q:Q (HT.ax0 ns ms) s):wpAny (model prog w) A (oneLt' true x y) Q E s:=by
 obtain ⟨p,xs,n,rfl,ox,ix⟩:=hx;obtain ⟨p2,ys,m,rfl,oy,iy⟩:=hy;rw[oneLt'_eq];simp only[if_true];refine wpAny_bind (wpAny_cRoomFor hu ?_);refine wpAny_bind (wpAny_callSpecialIfBound?_slot (T:="list") ⟨_,ox,rfl⟩ PySem.F.slot_list_lt (call_meets PySem.F.slot_list_lt ⟨_,ox,rfl⟩ PySem.F.entry_list_lt (PySem.F.args_list_lt_2 _ _) (HT.di0 p p2 xs ys n m ns ms ix iy) ⟨⟨ox,oy⟩,?_⟩));exact wpAny_truthy_bool q
def adr:Value->Addr
 | .ref a=>a
 |_=>0
theorem bl0:∀{bs:List Addr} {us:List Value},r6 (bs.map V.ref) us->us=bs.map Value.ref
 |[],us,h=>by cases h;rfl
 |b::bs,us,h=>by
  cases h with
  |cons h1 h2=>
   cases h1;rw[bl0 h2];rfl
theorem bl1:∀bs:List Addr,r6 (bs.map V.ref) (bs.map Value.ref)
 |[]=> .nil
 |b::bs=> .cons rfl (bl1 bs)
theorem cu9 {bs:List Addr}{R:Addr->List Int}(hu:A.units < cLine)(row:∀b∈bs,aj9 s.heap (.ref b) (R b)):au5 prog w A s (fun v=>ad3 HT.ax0 (bs.map R) (R (adr v))) (bs.map Value.ref):=by
 constructor
 · intro h2 Q E q
   match bs,h2,row with
   |[],h2,_=>simp at h2
   |[_],h2,_=>simp at h2
   |b1::b2::bs,_,row=>
    have hr:∀v,v∈Value.ref b1::Value.ref b2::bs.map Value.ref->∃ns,aj9 s.heap v ns:=fun v hv=>by
      obtain ⟨b,hb,rfl⟩:=dv3.mp (show v∈(b1::b2::bs).map Value.ref from hv);exact ⟨_,row b hb⟩
    exact cn3 hr q
 · intro x hx y hy Q E q;obtain ⟨b,hb,rfl⟩:=dv3.mp hx;obtain ⟨c,hc,rfl⟩:=dv3.mp hy;refine co1 hu (row b hb) (row c hc) ?_;have:=cb9 bg8 bt7 cc1 (l:=bs.map R) (dv3.mpr ⟨b,hb,rfl⟩) (dv3.mpr ⟨c,hc,rfl⟩);show Q (HT.ax0 (R b) (R c)) s;rw[<-this];exact q
theorem cv0 {vs:List Value}{ns:List Int}(h:IntsAre vs ns):au5 prog w A s (fun v=>ad3 (fun a b:Int=>decide (a < b)) ns (numOf v)) vs:=by
 constructor
 · intro h2 Q E q
   match vs,h2,h with
   |[],h2,_=>simp at h2
   |[_],h2,_=>simp at h2
   |v1::v2::vs,_,h=>rw[keyKind_ints h];exact wpAny_pure q
 · intro x hx y hy Q E q;obtain ⟨a,t,rfl⟩:=h.all x hx;obtain ⟨b,u,rfl⟩:=h.all y hy
   have mx:∀{v:Int} {t:Tok},Value.int v t∈vs->v∈ns:=fun {v t} hv=>by
     rw[<-h.nums];exact dv3.mpr ⟨_,hv,rfl⟩
   refine oneLt_int ?_
   have:=cb9 (lt:=fun a b:Int=>decide (a < b)) (fun a=>decide_eq_false (Int.lt_irrefl a)) (fun a b c h1 h2=>decide_eq_true (Int.lt_trans (of_decide_eq_true h1) (of_decide_eq_true h2))) (fun a b h=>by
     have:=of_decide_eq_false h
     by_cases e:a=b
     · exact .inr e
     · exact .inl (decide_eq_true (by omega))) (l:=ns) (mx hx) (mx hy)
   rw[<-this];exact q
end
end L2
namespace L2
open PySem PySem.Spec PyProof.Rows
theorem co2 {vs out:List Value}{ns:List Int}(h:IntsAre vs ns)(p:out.Perm vs):∃ms,IntsAre out ms/\ms.Perm ns/\ms=out.map numOf:=by
 refine ⟨out.map numOf,intsAre_map out fun v hv=>h.all v (p.mem_iff.mp hv),?_,rfl⟩;rw[<-h.nums];exact p.map numOf
section
variable {X:Cx}
theorem cv5 {ns ms:List Int}{out:List Value}(pm:ms.Perm ns)(em:ms=out.map numOf)(o2:out.Pairwise (fun x y=>ad3 (fun a b:Int=>decide (a < b)) ns (numOf x)<=ad3 (fun a b:Int=>decide (a < b)) ns (numOf y))):ms.Pairwise (· <= ·):=by
 rw[em];refine ec0.mpr (List.Pairwise.imp_of_mem (fun {x y} hx hy h=> ?_) o2);have my:numOf y∈ns:=pm.mem_iff.mp (by rw[em];exact dv3.mpr ⟨y,hy,rfl⟩);have:=cc0 (lt:=fun a b:Int=>decide (a < b)) (fun a=>decide_eq_false (Int.lt_irrefl a)) (fun a b c h1 h2=>decide_eq_true (Int.lt_trans (of_decide_eq_true h1) (of_decide_eq_true h2))) my h;have:=of_decide_eq_false this;omega
theorem bt8:K6 X (.builtin "sorted") (fun xs H Q=>∃(p:Addr) (ns:List Int),xs=[.ref p]/\j7 X.K H p (ns.map V.int)/\∀(ms:List Int) l,ms.Perm ns->ms.Pairwise (· <= ·)->H l=none->Q (.ref l) (i8 H l (.lst (ms.map V.int)))):=by
 intro pins s σ H xs us Q I r h;obtain ⟨p,ns,rfl,hp,q⟩:=h;obtain ⟨u,rfl,rx⟩:=P6 r;cases rx;obtain ⟨its,rv,pl,hl⟩:=I.list hp;have il:=rv.length;have ia:=ae4 rv
 refine cb8 (rk:=fun v=>ad3 (fun a b:Int=>decide (a < b)) ns (numOf v)) pl.isList (by omega) (fun h' old=>cv0 ia) fun out o1 o2=> ?_
 obtain ⟨ms,i1,i2,i3⟩:=co2 ia o1
 have hlm:ms.length<=sizeLine:=by rw[i2.length_eq];rw[dt3] at hl;exact hl
 exact ⟨.ref (s.heap.objs.size+1),_,by2 I (by simpa using i1) hlm,rfl,q ms _ i2 (cv5 i2 i3 o2) (I.hok.fresh (ef2 _))⟩
theorem bt9 (hu:X.A.in1.in1.units < cLine):K6 X (.builtin "sorted") (fun xs H Q=>∃(p:Addr) (bs:List Addr) (rs:List (List Int)),xs=[.ref p]/\j7 X.K H p (bs.map V.ref)/\E2 H bs rs/\
   ∀(cs:List Addr) (ts:List (List Int)) l,cs.Perm bs->ts.Perm rs->E2 H cs ts->ts.Pairwise (fun r r'=>HT.ax0 r' r=false)->H l=none->Q (.ref l) (i8 H l (.lst (cs.map V.ref)))):=by
 intro pins s σ H xs us Q I r h;obtain ⟨p,bs,rs,rfl,hp,hr,q⟩:=h;obtain ⟨u,rfl,rx⟩:=P6 r;cases rx;obtain ⟨its,rv,pl,hl⟩:=I.list hp;have ev:=bl0 rv;subst ev
 have rows:∀b∈bs,∃r:List Int,H b=some (.lst (r.map V.int)):=fun b hb=>by
   obtain ⟨j,hj⟩:=dy5.mp hb
   have hjl:j < rs.length:=by rw[<-hr.1];exact (dt9.mp hj).1
   exact ⟨_,hr.2 j b _ hj (dt5 hjl)⟩
 have er:=cf2 hr
 have each:∀h':Heap,(∀b o,b < s.heap.objs.size->s.heap.get? b=some o->h'.get? b=some o)->∀b∈bs,aj9 h' (.ref b) (Z7 H b):=by
   intro h' old b hb;obtain ⟨r,e⟩:=rows b hb;obtain ⟨_,its,n,v,g⟩:=(show C5 X.prog X.w H s.heap b (.lst (r.map V.int)) from I.hok b _ e);rw[ba7 e];exact ⟨b,its.toArray,n,rfl,old b _ (Heap.lt_size g) g,by simpa using ae4 v⟩
 have hll:(bs.map V.ref).length=bs.length:=dt3 ..
 refine cb8 (rk:=fun v=>ad3 HT.ax0 (bs.map (Z7 H)) (Z7 H (adr v))) pl.isList (by rw[dt3];omega) (fun h' old=>cu9 hu (each h' old)) fun out o1 o2=> ?_
 have eo:out=(out.map adr).map Value.ref:=by
   rw[ea6];refine (eh8 out).symm.trans (ea4 fun v hv=> ?_);obtain ⟨b,_,rfl⟩:=dv3.mp (o1.mem_iff.mp hv);rfl
 have pb:(out.map adr).Perm bs:=by
   have:=o1.map adr;rw[ea6] at this;have e2:bs.map (adr∘Value.ref)=bs:=(ea4 fun b _=>rfl).trans (eh8 bs);rw[e2] at this;exact this
 have st:((out.map adr).map (Z7 H)).Pairwise (fun r r'=>HT.ax0 r' r=false):=by
   rw[ea6];refine ec0.mpr (List.Pairwise.imp_of_mem (fun {x y} hx hy h=> ?_) o2);refine cc0 bg8 bt7 (l:=bs.map (Z7 H)) ?_ h;exact dv3.mpr ⟨adr y,pb.mem_iff.mp (dv3.mpr ⟨y,hy,rfl⟩),rfl⟩
 have rw':E2 H (out.map adr) ((out.map adr).map (Z7 H)):=⟨(dt3 ..).symm,fun j a r e1 e2=>by
   rw[du7,e1] at e2;have:=Option.some.inj e2;obtain ⟨r',e⟩:=rows a (pb.mem_iff.mp (du8 e1))
   rw[<-this,ba7 e];exact e⟩
 have pr:((out.map adr).map (Z7 H)).Perm rs:=by rw[<-er];exact pb.map _
 obtain ⟨e,he⟩:=sortedAll_at s.heap (bs.map Value.ref) out.toArray;refine ⟨.ref (s.heap.objs.size+1),_,I.laid (t':=s.toks) (fun _ _ q=>sortedAll_old q) (ef2 _) (show C5 X.prog X.w _ _ _ (.lst ((out.map adr).map V.ref)) from ⟨by rw[dt3,pb.length_eq];omega,out,e,?_,he⟩),rfl,q _ _ _ pb pr rw' st (I.hok.fresh (ef2 _))⟩;have:=bl1 (out.map adr);rw[<-eo] at this;exact this
variable {e:Expr} {t:TA} {p pos kpos:Pos}
def cv6 (K:PySem.W.Frag)(t:TA):TE:=X4 (fun xs H Q=>∃(p:Addr) (ns:List Int),xs=[.ref p]/\j7 K H p (ns.map V.int)/\∀(ms:List Int) l,ms.Perm ns->ms.Pairwise (· <= ·)->H l=none->Q (.ref l) (i8 H l (.lst (ms.map V.int)))) t
def cv7 (K:PySem.W.Frag)(t:TA):TE:=X4 (fun xs H Q=>∃(p:Addr) (bs:List Addr) (rs:List (List Int)),xs=[.ref p]/\j7 K H p (bs.map V.ref)/\E2 H bs rs/\
 ∀(cs:List Addr) (ts:List (List Int)) l,cs.Perm bs->ts.Perm rs->E2 H cs ts->ts.Pairwise (fun r r'=>HT.ax0 r' r=false)->H l=none->Q (.ref l) (i8 H l (.lst (cs.map V.ref)))) t
theorem by5 (hm:X.mg "sorted"=none)(ha:PA X [e] t)(hg:Gl X "sorted":=by rfl)(he:starEach [e] X.env=(false,eval e X.env)::starEach [] X.env:=by rfl):
 PE X (.Call (.Name "sorted" p) [e] [] pos) (cv6 X.K t):=N3 bt8 hg hm at9 ha (by decide) (by decide) he rfl
theorem by6 (hu:X.A.units+1+1 < cLine)(hm:X.mg "sorted"=none)(ha:PA X [e] t)(hg:Gl X "sorted":=by rfl)(he:starEach [e] X.env=(false,eval e X.env)::starEach [] X.env:=by rfl):
 PE X (.Call (.Name "sorted" p) [e] [] pos) (cv7 X.K t):=N3 (bt9 (by simpa [Around.in1] using hu)) hg hm at9 ha (by decide) (by decide) he rfl
end
end L2
namespace Mth
open L2 (M0)
structure aa0 (p:List Int)(rs:List (List Int)):Prop where
 ring:∀r∈rs,∃x L,Mth.In p x/\Per p x L/\r=A1 p x L/\∀y∈r,x<=y
 flat:rs.flatten.Perm (M0 0 p.length)
theorem aa0.ne {p:List Int}{rs:List (List Int)}(h:aa0 p rs):∀r∈rs,r≠[]:=fun r hr e=>by
 obtain ⟨x,L,_,pr,er,_⟩:=h.ring r hr;have:=C8 p x L;rw[<-er,e] at this;have:=pr.pos;simp at*;omega
theorem ad4 {α:Type}:∀{rs:List (List α)},rs.flatten.Nodup->(∀r∈rs,r≠[])->rs.Nodup
 |[],_,_=>ed5
 |r::rs,nd,ne=>by
  rw[dx7,dz7] at nd;refine dz9.mpr ⟨fun hm=> ?_,ad4 nd.2.1 fun q hq=>ne q (dt8 _ hq)⟩;obtain ⟨x,hx⟩:=List.exists_mem_of_ne_nil r (ne r dt6);exact nd.2.2 x hx x (dx5.mpr ⟨r,hm,hx⟩) rfl
theorem aa0.sub {p:List Int}{a b:List (List Int)}(ha:aa0 p a)(hb:aa0 p b):∀r∈a,r∈b:=fun r hr=>by
 obtain ⟨x,L,hx,pr,er,lo⟩:=ha.ring r hr;have hxf:x∈b.flatten:=hb.flat.mem_iff.mpr (M2.mpr hx);obtain ⟨r2,hr2,hxr2⟩:=dx5.mp hxf;obtain ⟨y,M,hy,pr2,er2,lo2⟩:=hb.ring r2 hr2;have self:x∈A1 p x L:=O7.mpr ⟨0,pr.pos,rfl⟩;have hyr:y∈A1 p x L:=bk5 pr pr2 self (by rw[<-er2];exact hxr2);have h1:=lo y (by rw[er];exact hyr);have h2:=lo2 x hxr2
 have e:x=y:=by omega
 subst e;rw[er,pr.uniq pr2,<-er2];exact hr2
theorem aa0.perm {p:List Int}{a b:List (List Int)}(ha:aa0 p a)(hb:aa0 p b):a.Perm b:=by
 have na:=ad4 (ha.flat.nodup_iff.mpr (O6 _)) ha.ne;have nb:=ad4 (hb.flat.nodup_iff.mpr (O6 _)) hb.ne
 exact (List.perm_ext_iff_of_nodup na nb).mpr fun r=>⟨ha.sub hb r,hb.sub ha r⟩
theorem bu0 {p:List Int}(t:G2 p){rs:List (List Int)}(h:E8 p p.length rs):aa0 p rs:=⟨fun r hr=>by
 obtain ⟨x,L,a,b,c,d,_⟩:=h.ring r hr
 exact ⟨x,L,a,b,c,d⟩,W1 t h⟩
def ak1 (rs:List (List Int)):Prop:=rs.Pairwise fun r r'=>HT.ax0 r' r=false
theorem ap7:∀{a b:List (List Int)},a.Perm b->ak1 a->ak1 b->a=b
 |[],b,p,_,_=>(List.Perm.nil_eq p)
 |r::a,[],p,_,_=>absurd p.length_eq (by simp)
 |r::a,q::b,p,ha,hb=>by
  have h1:=ee5.mp ha;have h2:=ee5.mp hb
  have e:r=q:=by
    rcases dw1.mp (p.mem_iff.mp dt6) with z|z
    · exact z
    · rcases dw1.mp (p.mem_iff.mpr (dt6:q∈q::b)) with y|y
      · exact y.symm
      · have g1:=h2.1 r z;have g2:=h1.1 q y
        rcases L2.cc1 r q g1 with u|u
        · rw[g2] at u;cases u
        · exact u
  subst e;rw[ap7 (List.Perm.cons_inv p) h1.2 h2.2]
theorem co3 {rs:List (List Int)}(ne:∀r∈rs,r≠[])(h:rs.Pairwise fun r s=>r.getD 0 0 < s.getD 0 0):ak1 rs:=by
 refine List.Pairwise.imp_of_mem (fun {r s} hr hs lt=> ?_) h
 cases r with
 |nil=>exact absurd rfl (ne _ hr)
 |cons x r=>
  cases s with
  |nil=>exact absurd rfl (ne _ hs)
  |cons y s=>
   have lt:x < y:=lt;rw[HT.ce5,if_neg (by omega)];exact decide_eq_false (by omega)
theorem bl2 {p:List Int}(t:G2 p){rs:List (List Int)}(h:E8 p p.length rs):ak1 rs:=co3 (bu0 t h).ne h.ord
theorem bu1 {p:List Int}(t:G2 p){rs qs ts:List (List Int)}(h:E8 p p.length rs)(c:aa0 p qs)(pm:ts.Perm qs)(up:ak1 ts):ts=rs:=
 ap7 (pm.trans (c.perm (bu0 t h))) up (bl2 t h)
end Mth
namespace L2
open PySem PySem.Spec PyProof.Rows
variable {X:Cx}
theorem cv8 {tg l:Expr}{tl:TE}(K:PySem.W.Frag)(hl:PE X l tl)(hK:X.K=K:=by rfl):PI X tg l (cy3 K tl):=by
 subst hK;exact E4 hl
end L2
namespace L2
open PySem PySem.Spec PyProof PyProof.Rows
section
variable {X:Cx}
theorem bl3:∀{ds:List Addr} {its:List Value},r6 (ds.map V.ref) its->its=ds.map Value.ref
 |[],_,h=>by cases h;rfl
 |d::ds,_,h=>by
  cases h with
  |cons r rr=>
   rename_i u us;have e:u=Value.ref d:=r;rw[e,bl3 rr];rfl
def cz4 (K:PySem.W.Frag):List V->Hp->VK->Prop:=fun xs H Q=>∃(a C tp:Addr) (ds:List Addr) (b:Bool),xs=[.ref a,.ref tp]/\H a=some (Z9 a C)/\H tp=some (.tup (ds.map V.ref))/\ba9 K C/\PySem.W.kitAny K (.ref C) (ds.map Value.ref)=some b/\Q (.bl b) H
theorem co4:K6 X (.builtin "isinstance") (cz4 X.K):=by
 intro pins s σ H xs us Q I r h;obtain ⟨a,C,tp,ds,b,rfl,hH,ht,ei,hk,q⟩:=h;obtain ⟨u1,u2,rfl,r1,r2⟩:=bc9 r;cases (show u1=Value.ref a from r1);cases (show u2=Value.ref tp from r2);have p:=(show C5 X.prog X.w H s.heap a (Z9 a C) from I.hok a _ hH).1;obtain ⟨its,rv,⟨o,ho,hc,n,hd⟩,_⟩:=I.tuple (SqT.of ht);obtain ⟨c,dd,dt,sl⟩:=o;cases hc;cases hd;have e:=bl3 rv;subst e
 exact PySem.W.kia_tup (bs1 ei) I.kIn p ho hk (fun z=>nomatch z) fun tk=>⟨.bl b,H,I.tok tk,rfl,q⟩
theorem cc2 {a b:Expr}{ta:TA}{p pos:Pos}(hm:X.mg "isinstance"=none)(ha:PA X [a,b] ta)(hg:Gl X "isinstance":=by rfl)
 (he:starEach [a,b] X.env=(false,eval a X.env)::starEach [b] X.env:=by rfl) (hpl:(backTo pos (starEach [b] X.env)).any (·.1)=false:=by rfl):
 PE X (.Call (.Name "isinstance" p) [a,b] [] pos) (X4 (cz4 X.K) ta):=N3 co4 hg hm ba3 ha (by decide) (by decide) he hpl
end
end L2
namespace L2
open PySem PySem.Spec PyProof PyProof.Rows
open PySem.Builtin PySem.Builtin.Str PySem.Builtin.BaseException PySem.Builtin.Exceptions
section
variable {X:Cx}
structure dq9 (K:PySem.W.Frag)(C:Addr):Prop where
 str:PySem.W.findIn K (.ref C) "__str__"=some (some (.builtin "BaseException.__str__"))
 bex:PySem.W.mroIn K C (.type "BaseException")=some true
def dm9:V->V->Hp->VK->Prop:=fun x y H Q=>∃(t:Str) (n:Int),x= .str t/\y= .int n/\PySem.MulOk t n/\Q (.str (Txt.mul t n)) H
theorem an0:S5 X (binaryOp .Mult) dm9:=by
 intro pins s σ H x y u v Q I rx ry h;obtain ⟨t,n,rfl,rfl,ok,q⟩:=h;obtain ⟨k,rfl⟩:=rx;obtain ⟨k2,rfl⟩:=ry
 exact SB.mul ok fun t' k'=>⟨.str _,H,I.tok k',⟨_,rfl⟩,q⟩
end
end L2
namespace L2
open PySem PySem.Spec PyProof.Rows
section
variable {P:Program} {w:World} {K:PySem.W.Frag} {mg:Str->Option Value} {base h:Heap} {x:Str} {st:Stmt} {f:Addr} {fd:FuncData} {ps:List Str} {k:Nat} {sp:Sp}
def Fu (K:PySem.W.Frag)(x:Str)(st:Stmt)(f:Addr):Prop:=∃fd,PySem.W.nsIn K mainGlobals x=some (some (.ref f))/\E6 K x x st f fd
theorem dn0 {oc:Value}{od an:Option Addr}{osl:Array (Option Value)}{kV doc pm cdv ct:Value}(a:PySem.W.nsIn K mainGlobals x=some (some (.ref f)))(l:K.lookup f=some ⟨oc,od,.func (PySem.W.fnOf x x (af6 st) (W0 st) (o7 st) .none kV doc pm an cdv ct),osl⟩)
 (c:PySem.W.codeIn K cdv x=true) (k:PySem.W.keepIn K (.ref f)=true):Fu K x st f:=⟨_,a,dg8 l c k⟩
theorem D0 (X:K.In h)(G:h.Ns mainGlobals mg)(a:PySem.W.nsIn K mainGlobals x=some (some (.ref f)))(F:E6 K x x st f fd)(b:Z2 K fd ps [])(ok:w6 P w K mg base J8 k f fd ps sp):B7 P w K mg base x k ps sp:=⟨f,fd,PySem.W.mg_of X G a,F.kp,b,ok⟩
theorem ab3 (X:K.In h)(G:h.Ns mainGlobals mg)(a:PySem.W.nsIn K mainGlobals x=some (some (.ref f)))(F:E6 K x x st f fd)(b:Z2 K fd ps [])(ok:w6 P w K mg base (Q8 P w) k f fd ps sp):T0 P w K mg base x k ps sp:=⟨f,fd,PySem.W.mg_of X G a,F.kp,b,ok⟩
def Fre (K:PySem.W.Frag):List Str->Prop
 |[]=>True
 |x::l=>PySem.W.nsIn K mainGlobals x=some none/\Fre K l
structure ClF (K:PySem.W.Frag)(T:Addr)(x:Str)(q:Addr):Prop where
 n:PySem.W.nsIn K mainGlobals x=some (some (.ref q))
 e:PySem.W.excIn K q veB "ValueError.__new__"=true
 g:PySem.W.findIn K (.ref q) "__getattribute__"=some (some (.builtin "BaseException.__getattribute__"))
 h:PySem.W.findIn K (.ref q) "__getattr__"=some none
 c:PySem.W.findIn K (.ref q) "__class__"=some (some (.builtin "object.__class__"))
 b:PySem.W.mroIn K q (.type "BaseException")=some true
 o:PySem.W.mroIn K q (.type "object")=some true
 i:PySem.W.isClsIn K q=true
 t:PySem.W.typeIn K (.ref q)=some (.type "type")
 u:PySem.W.mroIn K q (.ref T)=some true
 v:PySem.W.mroIn K q (.type "ValueError")=some true
 s:PySem.W.findIn K (.ref q) "__str__"=some (some (.builtin "BaseException.__str__"))
def bg9 (K:PySem.W.Frag)(T:Addr):List (Str×Addr)->Prop
 |[]=>True
 |(x,q)::l=>ClF K T x q/\bg9 K T l
def PrI (K:PySem.W.Frag)(i:Nat)(a:Addr):Nat->List (Str×Addr)->Prop
 |_,[]=>True
 |j,(_,b)::l=>PySem.W.mroIn K a (.ref b)=some (Nat.beq i j)/\PrI K i a (j+1) l
def bh0 (K:PySem.W.Frag)(all:List (Str×Addr)):Nat->List (Str×Addr)->Prop
 |_,[]=>True
 |i,(_,a)::l=>PrI K i a 0 all/\bh0 K all (i+1) l
theorem bg9.get {T:Addr}:∀{cs:List (Str×Addr)},bg9 K T cs->∀p∈cs,ClF K T p.1 p.2
 |(x,q)::l,h,p,hp=>by
  rcases dw1.mp hp with rfl|hp
  · exact h.1
  · exact bg9.get h.2 p hp
theorem PrI.get {i:Nat}{a:Addr}:∀{l:List (Str×Addr)} {j0:Nat},PrI K i a j0 l->∀j q,l[j]? =some q->PySem.W.mroIn K a (.ref q.2)=some (Nat.beq i (j0+j))
 |(x,b)::l,j0,h,0,q,e=>by
  cases e;exact h.1
 |(x,b)::l,j0,h,j+1,q,e=>by
  have:=PrI.get h.2 j q e;rw[this,show j0+1+j=j0+(j+1) by omega]
theorem bh0.get {all:List (Str×Addr)}:∀{l:List (Str×Addr)} {i0:Nat},bh0 K all i0 l->∀i p,l[i]? =some p->PrI K (i0+i) p.2 0 all
 |(x,b)::l,i0,h,0,p,e=>by
  cases e;exact h.1
 |(x,b)::l,i0,h,i+1,p,e=>by
  have:=bh0.get h.2 i p e;rw[show i0+1+i=i0+(i+1) by omega] at this;exact this
theorem co5 {T:Addr}{cs:List (Str×Addr)}(X:K.In h)(G:h.Ns mainGlobals mg)(uT:PySem.W.nsIn K mainGlobals "TurnError"=some (some (.ref T)))(uTb:PySem.W.mroIn K T (.type "BaseException")=some true)(uTc:PySem.W.isClsIn K T=true)(uTt:PySem.W.typeIn K (.ref T)=some (.type "type"))
   (uG:PySem.W.specialIn K (.builtin "object.__class__") "__get__"=some (some (.builtin "getset_descriptor.__get__"))) (uK:PySem.W.takesIn K (.builtin "object.__class__")=some true) (uC:bg9 K T cs) (uP:bh0 K cs 0 cs) (nd:(cs.map (·.1)).Nodup):au2 K mg T cs:=by
 have key:∀p∈cs,∀q∈cs,PySem.W.mroIn K p.2 (.ref q.2)=some (decide (p.1=q.1))/\(p.2=q.2->decide (p.1=q.1)=true):=fun p hp q hq=>by
   obtain ⟨i,hi⟩:=eg9 hp;obtain ⟨j,hj⟩:=eg9 hq
   have e:∀{k:Nat} {r:Str×Addr},cs[k]? =some r->PySem.W.mroIn K p.2 (.ref r.2)=some (Nat.beq i k):=fun {k r} hr=>by
     have:=(uP.get i p hi).get k r hr;rw[ea0,ea0] at this;exact this
   have eb:decide (p.1=q.1)=Nat.beq i j:=by
     by_cases z:i=j
     · subst z;rw[hi] at hj;cases hj;rw[decide_eq_true rfl,Nat.beq_refl]
     · have:Nat.beq i j=false:=by
         cases y:Nat.beq i j with
         |false=>rfl
         |true=>exact absurd (Nat.eq_of_beq_eq_true y) z
       rw[this]
       refine decide_eq_false fun y=>z ?_
       have i1:i < (cs.map (·.1)).length:=by rw[dt3];exact (dt9.mp hi).1
       refine (List.getElem?_inj i1 nd).mp ?_;rw[du7,du7,hi,hj];exact congrArg some y
   rw[eb];refine ⟨e hj,fun z=> ?_⟩;have a:=e hi;rw[z] at a;have b:=e hj;rw[z,a,Nat.beq_refl] at b;exact (Option.some.inj b).symm
 refine ⟨PySem.W.mg_of X G uT,fun p hp=> ?_,fun p hp=> ?_,fun p hp=> ?_,fun p hp=> ?_,fun p hp q hq=> ?_,fun p hp q hq=> ?_⟩
 · exact ⟨PySem.W.mg_of X G (uC.get p hp).n,(uC.get p hp).e⟩
 · have c:=uC.get p hp;exact db9 c.g c.h c.c uG uK c.b c.o c.i
 · exact cb0 uTb uTc uTt (uC.get p hp).u
 · exact dh6 (uC.get p hp).v
 · have c:=uC.get q hq;exact db8 c.i c.t (key p hp q hq).1 (key p hp q hq).2
 · have c:=uC.get q hq;exact cb0 c.b c.i c.t (key p hp q hq).1
end
end L2
namespace L2
open PySem PySem.Spec PyProof PyProof.Rows
mutual
inductive X5 (h:Heap):Value->PyData->Prop
 |non:X5 h .none .none
 |bl (b:Bool):X5 h (.bool b) (.bool b)
 |int (i:Int) (t:Tok):X5 h (.int i t) (.int i)
 |str (x:Str) (t:Tok):X5 h (.str x t) (.str x)
 |lst {a:Addr} {o:Obj} {vs:Array Value} {n:Nat} {ds:List PyData} (g:h.get? a=some o) (c:o.cls= .type "list") (e:o.data= .seq vs n) (r:K8 h vs.toList ds):X5 h (.ref a) (.list ds)
 |tup {a:Addr} {o:Obj} {vs:Array Value} {n:Nat} {ds:List PyData} (g:h.get? a=some o) (c:o.cls= .type "tuple") (e:o.data= .seq vs n) (r:K8 h vs.toList ds):X5 h (.ref a) (.tuple ds)
 |dic {a:Addr} {o:Obj} {es:Array DictEntry} {n:Nat} {kds:List (PyData×PyData)} (g:h.get? a=some o) (c:o.cls= .type "dict") (e:o.data= .dict es n) (ns:(a==sysModules)=false)
     (rk:K8 h (es.toList.map (·.key)) (kds.map (·.1))) (rv:K8 h (es.toList.map (·.val)) (kds.map (·.2))):X5 h (.ref a) (.dict kds)
inductive K8 (h:Heap):List Value->List PyData->Prop
 |nil:K8 h [] []
 |cons {u:Value} {us:List Value} {d:PyData} {ds:List PyData} (r:X5 h u d) (rs:K8 h us ds):K8 h (u::us) (d::ds)
end
mutual
theorem X5.reads {h:Heap}:∀{u:Value} {d:PyData},X5 h u d->∃as,Reads h u d as
 |_,_,.non=>⟨_,.none⟩
 |_,_,.bl b=>⟨_,.bool b⟩
 |_,_,.int i t=>⟨_,.int i t⟩
 |_,_,.str x t=>⟨_,.str x t⟩
 |_,_,.lst g c e r=>let ⟨_,q⟩:=K8.reads r;⟨_,.list g c e q⟩
 |_,_,.tup g c e r=>let ⟨_,q⟩:=K8.reads r;⟨_,.tuple g c e q⟩
 |_,_,.dic g c e _ rk rv=>let ⟨_,q⟩:=K8.reads rk;let ⟨_,p⟩:=K8.reads rv;⟨_,.dict g c e q p⟩
theorem K8.reads {h:Heap}:∀{us:List Value} {ds:List PyData},K8 h us ds->∃as,ReadsAll h us ds as
 |_,_,.nil=>⟨_,.nil⟩
 |_,_,.cons r rs=>let ⟨_,q⟩:=X5.reads r;let ⟨_,p⟩:=K8.reads rs;⟨_,.cons q p⟩
end
section
variable {prog:Program} {w:World} {h:Heap}
mutual
theorem X5.shows:∀{u:Value} {d:PyData},X5 h u d->d.showable=true->d.shown.length<=sizeLine->∃bs,ReadAtMost h d.depth bs/\ReprK prog w bs h d.depth u d.shown
 |_,_,.non,_,_=>⟨[],(fun _ z=>nomatch z),by rw[PyData.shown];exact .of_is ReprIs.none _ _ _⟩
 |_,_,.bl b,_,_=>⟨[],(fun _ z=>nomatch z),by rw[PyData.shown];exact .of_is (ReprIs.bool b) _ _ _⟩
 |_,_,.int i t,s,_=>⟨[],(fun _ z=>nomatch z),by rw[PyData.shown];exact .of_is (ReprIs.int t (by simpa [PyData.showable] using s)) _ _ _⟩
 |_,_,.str x t,_,z=>⟨[],(fun _ y=>nomatch y),by rw[PyData.shown] at z ⊢;exact .of_is (ReprIs.str x t z) _ _ _⟩
 |_,_,.lst (a:=a) (vs:=vs) (ds:=ds) g c e r,s,z=>by
  rw[PyData.shown] at z
  obtain ⟨bs,b,k⟩:=K8.shows r (by simpa [PyData.showable] using s) fun t ht=>du3 (listText_mem_le ht) z
  obtain ⟨as,q⟩:=X5.reads (.lst g c e r);have no:=not_mem_of_deeper q (by rw[PyData.depth];omega) b;refine ⟨a::bs,ReadAtMost.cons q (by rw[PyData.depth];omega) b,?_⟩;rw[PyData.depth,PyData.shown];obtain ⟨l⟩:=vs
  cases l with
  |nil=>
   cases (show K8 h [] ds from r);rw[PyData.shownAll,listText_nil];exact ReprK.listEmpty g c e
  |cons x l=>exact ReprK.list g c e no (by simpa using k.length_eq) fun i y ey=>k.item i y (by simpa using ey)
 |_,_,.tup (a:=a) (ds:=ds) g c e r,s,z=>by
  rw[PyData.shown] at z
  obtain ⟨bs,b,k⟩:=K8.shows r (by simpa [PyData.showable] using s) fun t ht=>du3 (tupleText_mem_le ht) z
  obtain ⟨as,q⟩:=X5.reads (.tup g c e r);have no:=not_mem_of_deeper q (by rw[PyData.depth];omega) b;refine ⟨a::bs,ReadAtMost.cons q (by rw[PyData.depth];omega) b,?_⟩;rw[PyData.depth,PyData.shown];exact ReprK.tuple g c e no k
 |_,_,.dic (a:=a) (es:=es) (kds:=kds) g c e ns rk rv,s,z=>by
  rw[PyData.shown] at z;obtain ⟨s1,s2⟩:=PyData.showableKv_split kds (by simpa [PyData.showable] using s)
  obtain ⟨b1,m1,k1⟩:=K8.shows rk s1 fun t ht=>by
    obtain ⟨y,hy,l⟩:=PyData.shownKv_key_le kds t ht;exact du3 l (du3 (dictText_mem_le hy) z)
  obtain ⟨b2,m2,k2⟩:=K8.shows rv s2 fun t ht=>by
    obtain ⟨y,hy,l⟩:=PyData.shownKv_val_le kds t ht;exact du3 l (du3 (dictText_mem_le hy) z)
  obtain ⟨as,q⟩:=X5.reads (.dic g c e ns rk rv);have b:ReadAtMost h (PyData.depthKv kds) (b1++b2):=ReadAtMost.append (m1.mono (PyData.depthAll_keys_le kds)) (m2.mono (PyData.depthAll_vals_le kds));have no:=not_mem_of_deeper q (by rw[PyData.depth];omega) b;refine ⟨a::(b1++b2),ReadAtMost.cons q (by rw[PyData.depth];omega) b,?_⟩;rw[PyData.depth,PyData.shown,PyData.shownKv_eq];have j1:=k1.more_le (as':=b1++b2) (fun _ y=>dw8 _ y) (PyData.depthAll_keys_le kds);have j2:=k2.more_le (as':=b1++b2) (fun _ y=>du0 _ y) (PyData.depthAll_vals_le kds);exact ReprK.dict g c e ns no (ReprEntriesK.of_two es.toList _ _ j1 j2)
theorem K8.shows:∀{us:List Value} {ds:List PyData},K8 h us ds->PyData.showableAll ds=true->(∀t∈PyData.shownAll ds,t.length<=sizeLine)->
   ∃bs,ReadAtMost h (PyData.depthAll ds) bs/\ReprAllK prog w bs h (PyData.depthAll ds) us (PyData.shownAll ds)
 |_,_,.nil,_,_=>⟨[],(fun _ z=>nomatch z),by rw[PyData.shownAll];exact .nil⟩
 |_,_,.cons (d:=d) (ds:=ds) r rs,s,z=>by
  have s':d.showable=true/\PyData.showableAll ds=true:=by simpa [PyData.showableAll] using s
  rw[PyData.shownAll] at z;obtain ⟨b1,m1,k1⟩:=X5.shows r s'.1 (z _ dt6)
  obtain ⟨b2,m2,k2⟩:=K8.shows rs s'.2 fun t ht=>z t (dt8 _ ht)
  rw[PyData.depthAll,PyData.shownAll];refine ⟨b1++b2,fun b hb=> ?_,.cons ((k1.more fun _ y=>dw8 _ y).level_le (Nat.le_max_left _ _)) (k2.more_le (fun _ y=>du0 _ y) (Nat.le_max_right _ _))⟩
  rcases du1.mp hb with y|y
  · obtain ⟨d1,as1,r1,l1⟩:=m1 b y;exact ⟨d1,as1,r1,du3 l1 (Nat.le_max_left _ _)⟩
  · obtain ⟨d1,as1,r1,l1⟩:=m2 b y;exact ⟨d1,as1,r1,du3 l1 (Nat.le_max_right _ _)⟩
end
theorem X5.by_ {a:Addr}{d:PyData}(r:X5 h (.ref a) d)(s:d.showable=true)(z:d.shown.length<=sizeLine):∃T idr,ShowsBy prog w h a d T idr:=by
 obtain ⟨as,q⟩:=r.reads
 cases r with
 |lst g c e r=>
  rename_i o vs n ds;rw[PyData.shown] at z
  obtain ⟨bs,b,k⟩:=K8.shows (prog:=prog) (w:=w) r (by simpa [PyData.showable] using s) fun t ht=>du3 (listText_mem_le ht) z
  have no:=not_mem_of_deeper q (by rw[PyData.depth];omega) b;refine ⟨"list","list.__repr__",F.slot_list_repr.toG,F.slot_list_str,F.slot_list_format,fun s k0=>⟨o,k0 _ _ g,c⟩,fun A E s0 Q hg u k0 hq=> ?_⟩;rw[PyData.depth] at u;rw[PyData.shown] at hq;obtain ⟨l⟩:=vs
  cases l with
  |nil=>
   cases (show K8 h [] ds from r);rw[PyData.shownAll,listText_nil] at hq;exact call_list_repr_empty ⟨o,k0 _ _ g,c⟩ (k0 _ _ g) e (hq s0.heap _ _ fun _ _ y=>y)
  |cons x l=>exact call_list_reprK g c e no (by simpa using k.length_eq) (fun i y ey=>k.item i y (by simpa using ey)) hg (fun b _=>Clear.nil b) u k0 hq z
 |tup g c e r=>
  rename_i o vs n ds;rw[PyData.shown] at z
  obtain ⟨bs,b,k⟩:=K8.shows (prog:=prog) (w:=w) r (by simpa [PyData.showable] using s) fun t ht=>du3 (tupleText_mem_le ht) z
  have no:=not_mem_of_deeper q (by rw[PyData.depth];omega) b;refine ⟨"tuple","tuple.__repr__",F.slot_tuple_repr,F.slot_tuple_str,F.slot_tuple_format,fun s k0=>⟨o,k0 _ _ g,c⟩,fun A E s0 Q hg u k0 hq=> ?_⟩;rw[PyData.depth] at u;rw[PyData.shown] at hq;exact call_tuple_reprK g c e no k hg (fun b _=>Clear.nil b) u k0 hq z
 |dic g c e ns rk rv=>
  rename_i o es n kds;rw[PyData.shown] at z;obtain ⟨s1,s2⟩:=PyData.showableKv_split kds (by simpa [PyData.showable] using s)
  obtain ⟨b1,m1,k1⟩:=K8.shows (prog:=prog) (w:=w) rk s1 fun t ht=>by
    obtain ⟨y,hy,l⟩:=PyData.shownKv_key_le kds t ht;exact du3 l (du3 (dictText_mem_le hy) z)
  obtain ⟨b2,m2,k2⟩:=K8.shows (prog:=prog) (w:=w) rv s2 fun t ht=>by
    obtain ⟨y,hy,l⟩:=PyData.shownKv_val_le kds t ht;exact du3 l (du3 (dictText_mem_le hy) z)
  have b:ReadAtMost h (PyData.depthKv kds) (b1++b2):=ReadAtMost.append (m1.mono (PyData.depthAll_keys_le kds)) (m2.mono (PyData.depthAll_vals_le kds));have no:=not_mem_of_deeper q (by rw[PyData.depth];omega) b;refine ⟨"dict","dict.__repr__",F.slot_dict_repr,F.slot_dict_str,F.slot_dict_format,fun s k0=>⟨o,k0 _ _ g,c⟩,fun A E s0 Q hg u k0 hq=> ?_⟩;rw[PyData.depth] at u;rw[PyData.shown,PyData.shownKv_eq] at hq;rw[PyData.shownKv_eq] at z;have j1:=k1.more_le (as':=b1++b2) (fun _ y=>dw8 _ y) (PyData.depthAll_keys_le kds);have j2:=k2.more_le (as':=b1++b2) (fun _ y=>du0 _ y) (PyData.depthAll_vals_le kds);exact call_dict_reprK g c e ns no (ReprEntriesK.of_two es.toList _ _ j1 j2) hg (fun b _=>Clear.nil b) u k0 hq z
end
mutual
inductive Da (H:Hp):V->PyData->Prop
 |non:Da H .non .none
 |bl (b:Bool):Da H (.bl b) (.bool b)
 |int (i:Int):Da H (.int i) (.int i)
 |str (x:Str):Da H (.str x) (.str x)
 |lst {a:Addr} {xs:List V} {ds:List PyData} (e:H a=some (.lst xs)) (h:DaA H xs ds):Da H (.ref a) (.list ds)
 |tup {a:Addr} {xs:List V} {ds:List PyData} (e:H a=some (.tup xs)) (h:DaA H xs ds):Da H (.ref a) (.tuple ds)
 |dic {a:Addr} (e:H a=some (.dK [])):Da H (.ref a) (.dict [])
inductive DaA (H:Hp):List V->List PyData->Prop
 |nil:DaA H [] []
 |cons {x:V} {xs:List V} {d:PyData} {ds:List PyData} (h:Da H x d) (hs:DaA H xs ds):DaA H (x::xs) (d::ds)
end
mutual
theorem Da.keep {H H':Hp}(s:i6 H H'):∀{v:V} {d:PyData},Da H v d->Da H' v d
 |_,_,.non=> .non
 |_,_,.bl b=> .bl b
 |_,_,.int i=> .int i
 |_,_,.str x=> .str x
 |_,_,.lst e h=> .lst (s _ _ e) (DaA.keep s h)
 |_,_,.tup e h=> .tup (s _ _ e) (DaA.keep s h)
 |_,_,.dic e=> .dic (s _ _ e)
theorem DaA.keep {H H':Hp}(s:i6 H H'):∀{vs:List V} {ds:List PyData},DaA H vs ds->DaA H' vs ds
 |_,_,.nil=> .nil
 |_,_,.cons h hs=> .cons (Da.keep s h) (DaA.keep s hs)
end
mutual
theorem Da.rd {X:Cx}{pins:List (Addr×Obj)}{σ:St}{H:Hp}{s:Shared}(I:j5 X pins σ H s):∀{v:V} {d:PyData} {u:Value},Da H v d->A7 v u->X5 s.heap u d
 |_,_,u,.non,r=>by cases (show u=Value.none from r);exact .non
 |_,_,u,.bl b,r=>by cases (show u=Value.bool b from r);exact .bl b
 |_,_,u,.int i,r=>by obtain ⟨t,rfl⟩:=r;exact .int i t
 |_,_,u,.str x,r=>by obtain ⟨t,rfl⟩:=r;exact .str x t
 |_,_,u,.lst e h,r=>by
  cases r;obtain ⟨z,its,n,rv,hl,ho⟩:=I.lstM e;exact .lst ho rfl rfl (by simpa using DaA.rd I h rv)
 |_,_,u,.tup e h,r=>by
  cases r;obtain ⟨z,its,rv,o,ho,hc,n,hd⟩:=I.hok _ _ e;exact .tup ho hc hd (by simpa using DaA.rd I h rv)
 |_,_,u,.dic e,r=>by
  cases r;obtain ⟨hz,hS,vs,kv,o,es,ep,ho,hx,hd,hk,hp,hn⟩:=I.hok _ _ e;cases kv
  have ee:es.toList=[]:=by
    cases hq:es.toList with
    |nil=>rfl
    |cons x xs=>rw[hq] at hp;cases hp
  exact .dic (kds:=[]) ho hx.1 hd hS (by rw[ee];exact .nil) (by rw[ee];exact .nil)
theorem DaA.rd {X:Cx}{pins:List (Addr×Obj)}{σ:St}{H:Hp}{s:Shared}(I:j5 X pins σ H s):∀{vs:List V} {ds:List PyData} {us:List Value},DaA H vs ds->r6 vs us->K8 s.heap us ds
 |_,_,_,.nil,.nil=> .nil
 |_,_,_,.cons h hs,.cons r rs=> .cons (Da.rd I h r) (DaA.rd I hs rs)
end
structure DaS (H:Hp)(v:V)(d:PyData):Prop where
 da:Da H v d
 ok:d.showable=true
 le:d.shown.length<=sizeLine
 dp:d.depth<=8
theorem DaS.keep {H H':Hp}{v:V}{d:PyData}(h:DaS H v d)(s:i6 H H'):DaS H' v d:=⟨h.da.keep s,h.ok,h.le,h.dp⟩
section
variable {X:Cx} {p pos:Pos} {e:Expr} {t:TA}
def dj1:List V->Hp->VK->Prop:=fun xs H Q=>∃v d,xs=[v]/\DaS H v d/\Q (.str d.shown) H
theorem cf8 (hu:X.A.units+16 < cLine)(hg:X.A.guards=some []):K6 X (.builtin "repr") dj1:=by
 intro pins s σ H xs us Q I r h;obtain ⟨v,d,rfl,⟨hs,sh,le,dp⟩,q⟩:=h;obtain ⟨u,rfl,ru⟩:=P6 r
 have fin:∀tk0 tk,(EP X pins σ Q) (.str d.shown tk0) {s with toks:=tk}:=fun tk0 tk=>⟨.str d.shown,H,I.tok _,⟨_,rfl⟩,q⟩
 have onref:∀{a:Addr},u= .ref a->wpAny (model X.prog X.w) X.A (call (.builtin "repr") [u]) (EP X pins σ Q) X.xe s:=fun {a} eu=>by
   subst eu;obtain ⟨T,idr,S⟩:=(hs.rd I ru).by_ (prog:=X.prog) (w:=X.w) sh le;exact call_repr_slot (by omega) (S.typeIs s fun _ _ y=>y) S.slotRepr (S.call X.A.in1 _ s _ hg (by show X.A.units+1+d.depth < cLine;omega) (fun _ _ y=>y) fun h' u tk hk=>⟨_,_,rfl,.str d.shown,H,I.kept (t':=tk) hk,⟨_,rfl⟩,q⟩)
 cases hs with
 |non=>cases (show u=Value.none from ru);exact PySem.P.repr_of_none (by simpa only[PyData.shown] using fin _ _)
 |bl b=>cases (show u=Value.bool b from ru);exact PySem.P.repr_of_bool (by simpa only[PyData.shown] using fin _ _)
 |int i=>obtain ⟨t,rfl⟩:=ru;exact PySem.P.repr_of_int (by simpa [PyData.showable] using sh) (by simpa only[PyData.shown] using fin _ _)
 |str x=>obtain ⟨t,rfl⟩:=ru;exact PySem.P.repr_of_str (by simpa only[PyData.shown] using fin _ _) (by simpa only[PyData.shown] using le)
 |lst e h=>exact onref ru
 |tup e h=>exact onref ru
 |dic e=>exact onref ru
end
end L2
namespace My
open PySem L2 Mth
def top (i:Nat):Stmt:=PySem.Challenge.pw_turnroots_k47_texts_of_no_turn.main.body.getD i (.Pass ⟨0,0,0,0⟩)
abbrev ap8:Stmt:=top 13
abbrev ak9:Stmt:=top 14
abbrev ah7:Stmt:=top 15
abbrev ah8:Stmt:=top 16
abbrev ac6:Stmt:=top 19
abbrev S1:Stmt:=top 20
abbrev Y1:Stmt:=top 22
abbrev N7:Stmt:=top 23
abbrev Y2:Stmt:=top 24
abbrev U1:Stmt:=top 25
abbrev ah9:Stmt:=top 27
abbrev ac1:Stmt:=top 28
abbrev ai0:Stmt:=top 29
abbrev ai1:Stmt:=top 30
abbrev ad5:Stmt:=top 31
abbrev al0:Stmt:=top 32
abbrev ad6:Stmt:=top 34
abbrev ad7:Stmt:=top 35
abbrev ap9:Stmt:=top 36
abbrev aq0:Stmt:=top 37
abbrev aq1:Stmt:=top 38
abbrev ai2:Stmt:=top 39
abbrev ad8:Stmt:=top 40
abbrev ac2:Stmt:=top 41
abbrev aq2:Stmt:=top 42
abbrev al1:Stmt:=top 43
abbrev ad9:Stmt:=top 44
abbrev T2:Stmt:=top 45
abbrev au6:Stmt:=top 46
abbrev al2:Stmt:=top 47
abbrev ae0:Stmt:=top 48
abbrev ax6:Stmt:=top 49
end My
namespace My
open PySem L2 Mth
structure Bl (mg:Str->Option Value):Prop where
 len:mg "len"=none
 isi:mg "isinstance"=none
 int:mg "int"=none
 bool:mg "bool"=none
 list:mg "list"=none
 range:mg "range"=none
 sum:mg "sum"=none
 min:mg "min"=none
 max:mg "max"=none
 enum:mg "enumerate"=none
 zip:mg "zip"=none
 sorted:mg "sorted"=none
 tuple:mg "tuple"=none
 str:mg "str"=none
 repr:mg "repr"=none
 all:mg "all"=none
 any:mg "any"=none
 set:mg "set"=none
 dict:mg "dict"=none
 ve:mg "ValueError"=none
section
variable {P:Program} {w:World} {K:PySem.W.Frag} {mg:Str->Option Value} {base:Heap}
def ax7 (K:PySem.W.Frag):Sp:=fun vs H Q _=>∃x t b1 b2,vs=[x]/\R1 K H x t/\PySem.W.kitOne K t (.type "int")=some b1/\PySem.W.kitOne K t (.type "bool")=some b2/\Q (.bl (b1&& !b2)) H
theorem dc5:y7 ["thing"] ["thing"] (o7 ap8):=by rfl'
theorem cv9 {f:Addr}{fd:FuncData}(F:E6 K "is_whole" "is_whole" ap8 f fd)(B:Bl mg):w6 P w K mg base J8 1 f fd ["thing"] (ax7 K):=by
 refine F.ok dc5 (fun vs H Q E h=> ?_) (fun cdv A outer s H vs Q E hr h=> ?_)
 · obtain ⟨x,t,b1,b2,rfl,_⟩:=h;rfl
 · obtain ⟨x,t,b1,b2,rfl,ty,e1,e2,q⟩:=h;refine ⟨_,i7 (o5 (Z1 (C7 B.isi (c9 (pv 0) (c9 (ba4 B.int) i4))) (al6 (bp6 (C7 B.isi (c9 (pv 0) (c9 (at6 B.bool) i4))))))),?_⟩;refine ⟨x,rfl,x,"int",t,b1,rfl,ty,e1,b1,rfl,?_⟩
   cases b1 with
   |true=>
    refine A5 ⟨x,rfl,x,"bool",t,b2,rfl,ty,e2,b2,rfl,?_⟩;exact q
   |false=>exact B9 q
def ab4:Sp:=fun vs H Q _=>∃(a:Addr) (ns:List Int),vs=[.ref a]/\H a=some (.lst (ns.map V.int))/\∀(b:Bool) (H':Hp),i6 H H'->(b=true↔ns.length<=40/\G2 ns)->Q (.bl b) H'
theorem bb4:y7 ["thing","seen","place"] ["thing"] (o7 ac6):=by rfl'
theorem co6 {f:Addr}{fd:FuncData}(F:E6 K "is_turn" "is_turn" ac6 f fd)(B:Bl mg)(mt:∃t,mg "MOST_THINGS"=some (.int 40 t))(cW:B7 P w K mg base "is_whole" 1 ["thing"] (ax7 K)):w6 P w K mg base J8 2 f fd ["thing"] ab4:=by
 refine F.ok bb4 (fun vs H Q E h=> ?_) (fun cdv A outer s H vs Q E hr h=> ?_)
 · obtain ⟨a,ns,rfl,_⟩:=h;rfl
 · obtain ⟨a,ns,rfl,ha,k⟩:=h;obtain ⟨tk,mt⟩:=mt;have hu:=ae5 hr
   refine ⟨_,i5 (w9 (M7 (J5 (C6 (C7 B.isi (c9 (pv 0) (c9 (M4 B.list) i4))))) (Q1 (m8 aw9 (A6 B.len (c9 (pv 0) i4)) (E3 (v:= .int 40) (by rfl) mt ⟨tk,rfl⟩) (o4 _)))).pt (i7 (o5 G1)) o9)
     (i5 (m9 (i:=1) bb4.nd rfl (Or.inl rfl) ag5)
     (i5 (I0 PassesOwn.never rfl (E4 (pv 0)) (y8 (i:=2) bb4.nd rfl (Or.inl rfl))
       (i5 (w9 (M7 (J5 (C6 (q9 cW hr (c9 (pv 2) i4)))) (M7 (m8 aw8 (pv 2) i9 (o4 _)) (M7 (m8 ce2 (pv 2) (A6 B.len (c9 (pv 0) i4)) (o4 _)) (Q1 (bp5 (ck1 hu (pv 2) (pv 1))))))).pt (i7 (o5 G1)) o9)
       (i7 (bf8 hu (pv 1) (pv 2) G1 rfl))))
     (i7 (o5 G1)))),?_⟩
   refine ⟨_,rfl,_,"list",_,true,rfl,.lst ha,M1 K "list",true,rfl,?_⟩;refine B9 ⟨_,rfl,a,_,rfl,.inl (j7.of ha),_,_,rfl,rfl,_,rfl,?_⟩;rw[dt3];refine K7 (fun h40=> ?_) (fun h40=> ?_)
   · have h40:(40:Int) < (ns.length:Int):=of_decide_eq_true h40;exact k false H (i6.refl H) ⟨fun z=>(by cases z),fun z=>(by have:=z.1;omega)⟩
   · have h40:¬(40:Int) < (ns.length:Int):=fun z=>h40 (decide_eq_true z)
     intro d hd;have nad:a≠d:=j9 ha hd
     have ha1:(i8 H d (.dK [])) a=some (.lst (ns.map V.int)):=by rw[j8 nad];exact ha
     refine ⟨_,rfl,a,rfl,⟨_,j7.of ha1⟩,N0 (K:=K) (a:=a) (xs:=ns.map V.int) (fun i σ H2=>∃v:Option V,σ=[some (.ref a),some (.ref d),v]/\i6 H H2/\H2 d=some (.dK (S7 (ns.take i)))/\(ns.take i).Nodup/\∀x∈ns.take i,0<=x/\x < ns.length)
       ⟨none,rfl,i6.upd_new hd,j6,ed5,fun x hx=>by simp at hx⟩ (fun i σ H2 _ zz=>by obtain ⟨_,_,s2,_⟩:=zz;exact j7.of (s2 a _ ha)) ?_ ?_⟩
     · rintro i y σ H2 hi ⟨v,rfl,s2,h2,nd,bd⟩;obtain ⟨z,hz,rfl⟩:=Q5 hi;have ha2:=s2 a _ ha;have hil:i < ns.length:=(dt9.mp hz).1;refine ⟨_,rfl,.int z,_,true,false,rfl,.int z,M1 K "int",ag8 K,_,rfl,?_⟩;refine B9 ⟨_,rfl,_,_,rfl,rfl,_,rfl,?_⟩;refine K7 (fun hz0=> ?_) (fun hz0=> ?_)
       · have hz0:z < 0:=of_decide_eq_true hz0;exact A5 (k false H2 s2 ⟨fun q=>(by cases q),fun q=>(by have:=q.2.lo z (du8 hz);omega)⟩)
       have hz0:¬z < 0:=fun q=>hz0 (decide_eq_true q)
       refine ⟨_,rfl,_,rfl,a,_,rfl,.inl (j7.of ha2),_,_,rfl,rfl,_,rfl,?_⟩;rw[dt3];refine K7 (fun hz1=> ?_) (fun hz1=> ?_)
       · have hz1:(ns.length:Int)<=z:=of_decide_eq_true hz1;exact A5 (k false H2 s2 ⟨fun q=>(by cases q),fun q=>(by have:=q.2.hi z (du8 hz);omega)⟩)
       have hz1:¬(ns.length:Int)<=z:=fun q=>hz1 (decide_eq_true q)
       refine ⟨_,rfl,_,rfl,d,_,rfl,ao1.k (k:=Sum.inl z) h2,_,rfl,?_⟩
       by_cases hm:z∈ns.take i
       · rw[ba5 hm];refine A5 (k false H2 s2 ⟨fun q=>(by cases q),fun q=> ?_⟩);exfalso;obtain ⟨j,hj⟩:=dy5.mp hm
         have hjl:j < i:=by
           have:=(dt9.mp hj).1;rw[du5] at this;omega
         rw[dy3 hjl] at hj;have e1:=(dt9.mp hj).2;have e2:=(dt9.mp hz).2;exact dx0.mp (dx4.mp q.2.nd) j i (by omega) hil hjl (by rw[e1,e2])
       · rw[ao4 hm];refine B9 ⟨_,rfl,_,rfl,d,_,rfl,ba0.k (k:=Sum.inl z) h2 (C4 (by unfold S7;rw[dt3,du5];omega)),?_⟩
         have hds:∀b o,H b=some o->b≠d:=fun b o e=>j9 e hd
         refine ⟨some (.int z),rfl,fun b o e=>by rw[j8 (hds b o e)];exact s2 b o e,?_,?_,?_⟩
         · rw[at8 hm,j6,w5 hz]
         · rw[w5 hz];exact am0 nd hm
         · intro x hx;rw[w5 hz] at hx
           rcases du1.mp hx with q|q
           · exact bd x q
           · have:x=z:=by simpa using q
             omega
     · rintro σ H2 ⟨v,rfl,s2,h2,nd,bd⟩;rw[dt3,dx2] at nd bd;refine k true H2 s2 ⟨fun _=>⟨by omega,⟨nd,fun x hx=>(bd x hx).1,fun x hx=>(bd x hx).2⟩⟩,fun _=>rfl⟩
end
end My
namespace My
open PySem L2 Mth
section
variable {P:Program} {w:World} {K:PySem.W.Frag} {mg:Str->Option Value} {base:Heap}
def be3 (H:Hp)(a:Addr)(p:List Int):Prop:=H a=some (.lst (p.map V.int))/\G2 p/\p.length<=40
end
end My
namespace My
open PySem L2 Mth
section
variable {P:Program} {w:World} {K:PySem.W.Frag} {mg:Str->Option Value} {base:Heap}
def au7:Sp:=fun vs H Q _=>∃(a:Addr) (ns:List Int),vs=[.ref a]/\be3 H a ns/\∀(H':Hp),i6 H H'->Q .non H'
theorem co7:y7 ["thing"] ["thing"] (o7 S1):=by rfl'
theorem cc4 {f:Addr}{fd:FuncData}(F:E6 K "must_be_turn" "must_be_turn" S1 f fd)(cT:B7 P w K mg base "is_turn" 2 ["thing"] ab4):w6 P w K mg base J8 3 f fd ["thing"] au7:=by
 refine F.ok co7 (fun vs H Q E h=> ?_) (fun cdv A outer s H vs Q E hr h=> ?_)
 · obtain ⟨a,ns,rfl,_⟩:=h;rfl
 · obtain ⟨a,ns,rfl,⟨ha,ht,hl⟩,k⟩:=h;refine ⟨_,i7 (w9 (J5 (C6 (q9 cT hr (c9 (pv 0) i4)))) (i7 az8) o9),?_⟩;refine ⟨_,rfl,a,ns,rfl,ha,fun b H' s' hb=>⟨b,rfl,?_⟩⟩;have:b=true:=hb.mpr ⟨hl,ht⟩;subst this;exact B9 (k H' s')
end
end My
namespace My
open PySem L2 Mth
def cf9 (H:Hp)(l:Addr):Nat:=match H l with
 |some (.lst xs)=>xs.length
 |_=>0
theorem bu2 {H:Hp}{l:Addr}{xs:List V}(h:H l=some (.lst xs)):cf9 H l=xs.length:=by unfold cf9;rw[h]
end My
namespace My
open PySem L2 Mth
section
variable {P:Program} {w:World} {K:PySem.W.Frag} {mg:Str->Option Value} {base:Heap}
def Y7:Sp:=fun vs H Q _=>∃(a:Addr) (p:List Int),vs=[.ref a]/\be3 H a p/\
 ∀(l:Addr) (as:List Addr) (rs:List (List Int)) (H':Hp),H l=none->i6 H H'->H' l=some (.lst (as.map V.ref))->E2 H' as rs->E8 p p.length rs->(∀b∈as,H b=none)->as.Nodup->l∉as->Q (.ref l) H'
theorem ak2 {H:Hp}{as:List Addr}{rs:List (List Int)}{e:Addr}{r:List Int}(h:E2 H as rs)(he:H e=some (.lst (r.map V.int))):E2 H (as++[e]) (rs++[r]):=by
 refine ⟨by rw[dt4,dt4,h.1];rfl,fun j b q h1 h2=> ?_⟩
 by_cases hj:j < as.length
 · rw[dx9 hj] at h1;rw[dx9 (by rw[<-h.1];exact hj)] at h2;exact h.2 j b q h1 h2
 · rw[dw5 (by omega)] at h1;rw[dw5 (by rw[<-h.1];omega),<-h.1] at h2
   have hj0:j - as.length=0:=by
     have:=(dt9.mp h1).1
     simpa using this
   rw[hj0] at h1 h2;cases h1;cases h2;exact he
theorem M5 {H H':Hp}{as:List Addr}{rs:List (List Int)}(h:E2 H as rs)(k:∀b∈as,∀o,H b=some o->H' b=some o):E2 H' as rs:=
 ⟨h.1,fun j a r h1 h2=>k a (du8 h1) _ (h.2 j a r h1 h2)⟩
theorem bb5 {H:Hp}{as:List Addr}{rs:List (List Int)}(h:E2 H as rs){b:Addr}(hb:b∈as):∃r:List Int,H b=some (.lst (r.map V.int)):=by
 obtain ⟨j,hj⟩:=dy5.mp hb;have hjl:=(dt9.mp hj).1;exact ⟨_,h.2 j b (rs[j]'(by rw[<-h.1];exact hjl)) hj (dt5 _)⟩
theorem co8 {p:List Int}{i:Nat}{rs:List (List Int)}(tp:G2 p)(h:E8 p i rs):rs.flatten.length<=p.length:=by
 refine P3 h.nd fun x hx=> ?_
 obtain ⟨r,hr,hxr⟩:=dx5.mp hx;obtain ⟨y,L,a,b,rfl,_⟩:=h.ring r hr;exact ah0 tp a x hxr
theorem aq3 {p:List Int}{i:Nat}{rs:List (List Int)}(h:E8 p i rs):rs.length<=rs.flatten.length:=by
 have:∀l:List (List Int),(∀r∈l,1<=r.length)->l.length<=l.flatten.length:=by
   intro l
   induction l with
   |nil=>intro _;exact dt7 _
   |cons a r ih=>
    intro h;have h1:=h a dt6
    have h2:=ih fun x hx=>h x (dt8 _ hx)
    rw[dx7,dt4,du9];omega
 refine this rs fun r hr=> ?_
 obtain ⟨y,L,a,b,rfl,_⟩:=h.ring r hr;rw[C8];exact b.pos
end
end My
namespace My
open PySem L2 Mth
section
variable {P:Program} {w:World} {K:PySem.W.Frag} {mg:Str->Option Value} {base:Heap}
def bu3:Sp:=fun vs H Q _=>∃(a:Addr) (p:List Int) (x:Int),vs=[.ref a,.int x]/\be3 H a p/\In p x/\
 ∀(l:Addr) (L:Nat) (H':Hp),H l=none->i6 H H'->Per p x L->L<=40->H' l=some (.lst ((A1 p x L).map V.int))->Q (.ref l) H'
theorem be4:y7 ["p","first","ring","thing"] ["p","first"] (o7 ak9):=by rfl'
theorem dc6 {f:Addr}{fd:FuncData}(F:E6 K "walk_ring" "walk_ring" ak9 f fd):w6 P w K mg base J8 1 f fd ["p","first"] bu3:=by
 refine F.ok be4 (fun vs H Q E h=> ?_) (fun cdv A outer s H vs Q E hr h=> ?_)
 · obtain ⟨a,p,x,rfl,_⟩:=h;rfl
 · obtain ⟨a,p,x,rfl,⟨ha,tp,lp⟩,hx,q⟩:=h
   refine ⟨_,i5 (m9 (i:=2) be4.nd rfl (Or.inl rfl) (w4 (c9 (pv 1) i4)))
     (i5 (m9 (i:=3) be4.nd rfl (Or.inl rfl) (B8 y9 (pv 0) (pv 1) (fun _ _=>rfl)))
     (i5 (an8 PassesOwn.never (m8 U7 (pv 3) (pv 1) (o4 _)) (i5 (O0 (S6 (pv 2) (c9 (pv 3) i4))) (i7 (m9 (i:=3) be4.nd rfl (Or.inl rfl) (B8 y9 (pv 0) (pv 3) (fun _ _=>rfl))))))
     (i7 (o5 (pv 2))))),?_⟩
   refine ⟨_,rfl,(by show 1<=sizeLine;decide),fun l hl=> ?_⟩;have nal:a≠l:=j9 ha hl
   have hal:(i8 H l (.lst [.int x])) a=some (.lst (p.map V.int)):=by rw[j8 nal];exact ha
   refine ⟨_,rfl,_,rfl,a,_,_,_,rfl,rfl,j7.of hal,af7 hx.1 hx.2,?_⟩
   refine cr9 (fun σ H2=>∃m:Nat,σ=[some (.ref a),some (.int x),some (.ref l),some (.int (it p m x))]/\1<=m/\H2 l=some (.lst ((A1 p x m).map V.int))/\i6 H H2/\∀i,0 < i->i < m->it p i x≠x) (fun _ H2=>p.length+1 - cf9 H2 l)
     ⟨1,rfl,dt7 _,j6,i6.upd_new hl,fun i i0 i1=>by omega⟩ ?_ ?_
   · rintro σ H2 ⟨m,rfl,m1,h2l,s2,hne⟩;have ha2:=s2 a _ ha;refine ⟨_,rfl,_,rfl,rfl,_,rfl,?_⟩
     by_cases hb:it p m x=x
     · refine Q9 (congrArg V.int hb) ?_;exact ⟨_,rfl,q l m H2 hl s2 ⟨by omega,hb,hne⟩ (by have:=ae7 tp hx hne;omega) h2l⟩
     · have hb':¬V.int (it p m x)=V.int x:=fun z=>hb (V.int.inj z)
       rw[decide_eq_false hb'];refine A5 ?_
       have hne':∀i,0 < i->i < m+1->it p i x≠x:=fun i i0 i1=>by
         by_cases e:i=m
         · rw[e];exact hb
         · exact hne i i0 (by omega)
       have hbd:=ae7 tp hx hne';refine ⟨_,rfl,.inl ⟨rfl,_,j7.of h2l⟩,_,rfl,l,_,_,rfl,rfl,h2l,C4 (by rw[dt3,C8];omega),?_⟩;have hi:=ae6 tp hx m;refine ⟨_,rfl,_,rfl,a,_,_,_,rfl,rfl,j7.of (by rw[j8 nal];exact ha2),af7 hi.1 hi.2,?_⟩
       have h3l:(i8 H2 l (.lst ((A1 p x m).map V.int++[.int (it p m x)]))) l=some (.lst ((A1 p x (m+1)).map V.int)):=by
         rw[j6,ao6,du6];rfl
       refine ⟨⟨m+1,rfl,by omega,h3l,fun b o hb=>by rw[j8 (j9 hb hl)];exact s2 b o hb,hne'⟩,?_⟩;rw[bu2 h3l,bu2 h2l,dt3,dt3,C8,C8];omega
   · rintro σ H2 Q Q' hq ⟨v,hv,u,hu,e1,k1,e2,e3⟩;exact ⟨v,hv,u,hu,e1,k1,e2,hq _ _ e3⟩
theorem ag1:y7 ["p","rings","seen","first","ring","thing"] ["p"] (o7 ah7):=by rfl'
theorem cw0 {f:Addr}{fd:FuncData}(F:E6 K "walk_rings" "walk_rings" ah7 f fd)(B:Bl mg)(cR:B7 P w K mg base "walk_ring" 1 ["p","first"] bu3):w6 P w K mg base J8 2 f fd ["p"] Y7:=by
 refine F.ok ag1 (fun vs H Q E h=> ?_) (fun cdv A outer s H vs Q E hr h=> ?_)
 · obtain ⟨a,p,rfl,_⟩:=h;rfl
 · obtain ⟨a,p,rfl,⟨ha,tp,lp⟩,q⟩:=h;have hu:=ae5 hr
   refine ⟨_,i5 (m9 (i:=1) ag1.nd rfl (Or.inl rfl) (w4 i4)) (i5 (m9 (i:=2) ag1.nd rfl (Or.inl rfl) ag5)
     (i5 (I0 PassesOwn.never rfl (N6 (by rfl) B.range (c9 (A6 B.len (c9 (pv 0) i4)) i4)) (y8 (i:=3) ag1.nd rfl (Or.inl rfl))
       (i7 (w9 (bp5 (ck2 hu (pv 3) (pv 2))) (i5 (m9 (i:=4) ag1.nd rfl (Or.inl rfl) (q9 cR hr (c9 (pv 0) (c9 (pv 3) i4)))) (i5 (O0 (S6 (pv 1) (c9 (pv 4) i4)))
         (i7 (I0 PassesOwn.never rfl (E4 (pv 4)) (y8 (i:=5) ag1.nd rfl (Or.inl rfl)) (i7 (bf8 hu (pv 2) (pv 5) G1 rfl)))))) o9)))
     (i7 (o5 (pv 1))))),?_⟩
   refine ⟨dv5 _,fun l hl=> ?_⟩;intro d hd
   have hdl:d≠l:=fun z=>by rw[z,j6] at hd;cases hd
   have hd0:H d=none:=by rw[j8 hdl] at hd;exact hd
   have s0:i6 H (i8 (i8 H l (.lst [])) d (.dK [])):=(i6.upd_new hl).upd_r hd0
   have h0l:(i8 (i8 H l (.lst [])) d (.dK [])) l=some (.lst []):=by rw[j8 hdl.symm,j6]
   refine ⟨_,rfl,a,_,rfl,.inl (j7.of (s0 a _ ha)),(p.length:Int),?_,by omega,by omega,?_⟩
   · rw[dt3]
   rw[show ((p.length:Int)).toNat=p.length by omega]
   refine S4 (lo:=0) (n:=p.length) (fun i σ H2=>∃(as:List Addr) (rs:List (List Int)) (v3 v4 v5:Option V),σ=[some (.ref a),some (.ref l),some (.ref d),v3,v4,v5]/\H2 l=some (.lst (as.map V.ref))/\H2 d=some (.dK (S7 rs.flatten))/\E2 H2 as rs/\E8 p i rs/\i6 H H2/\(∀b∈as,H b=none)/\as.Nodup/\l∉as)
     ⟨[],[],none,none,none,rfl,h0l,j6,⟨rfl,fun j b r h=>by simp at h⟩,ao9 p,s0,fun b hb=>by simp at hb,ed5,by simp⟩ ?_ ?_
   · rintro i σ H2 hi ⟨as,rs,v3,v4,v5,rfl,h2l,h2d,rows,up,s2,fa,nda,nla⟩;have hx:In p (i:Int):=⟨by omega,by omega⟩
     have e0:(0:Int)+(i:Int)=(i:Int):=by omega
     rw[e0];refine ⟨_,rfl,_,rfl,d,_,rfl,ao1.k (k:=Sum.inl (i:Int)) h2d,_,rfl,?_⟩
     by_cases hm:(i:Int)∈rs.flatten
     · rw[ba5 hm];refine B9 ?_;exact ⟨as,rs,_,_,_,rfl,h2l,h2d,rows,ap0 up hm,s2,fa,nda,nla⟩
     · rw[ao4 hm];refine A5 ?_;refine ⟨_,rfl,_,rfl,a,p,_,rfl,⟨s2 a _ ha,tp,lp⟩,hx,fun e L H3 he s23 pr hL h3e=> ?_⟩;have h3l:=s23 l _ h2l;have h3d:=s23 d _ h2d;have nle:l≠e:=j9 h2l he;have nde:d≠e:=j9 h2d he;have fl:=co8 tp up;have cl:=aq3 up;have lenas:=rows.1;refine ⟨_,rfl,.inl ⟨rfl,_,j7.of h3l⟩,_,rfl,l,_,_,rfl,rfl,h3l,C4 (by rw[dt3,lenas];omega),?_⟩
       have es:as.map V.ref++[V.ref e]=(as++[e]).map V.ref:=by rw[du6];rfl
       rw[es];have h4l:(i8 H3 l (.lst ((as++[e]).map V.ref))) l=some (.lst ((as++[e]).map V.ref)):=j6
       have h4d:(i8 H3 l (.lst ((as++[e]).map V.ref))) d=some (.dK (S7 rs.flatten)):=by rw[j8 hdl];exact h3d
       have h4e:(i8 H3 l (.lst ((as++[e]).map V.ref))) e=some (.lst ((A1 p i L).map V.int)):=by rw[j8 nle.symm];exact h3e
       have k4:∀b o,H2 b=some o->b≠l->(i8 H3 l (.lst ((as++[e]).map V.ref))) b=some o:=fun b o hb hn=>by rw[j8 hn];exact s23 b o hb
       generalize (i8 H3 l (.lst ((as++[e]).map V.ref)))=H4 at h4l h4d h4e k4 ⊢;have fr:=ak6 up pr hm
       have ndr:=ak5 tp hx fun j j0 j1=>pr.least j j0 j1
       refine ⟨_,rfl,e,rfl,⟨_,j7.of h4e⟩,N0 (K:=K) (a:=e) (xs:=(A1 p i L).map V.int) (fun j σ H5=>∃v5':Option V,σ=[some (.ref a),some (.ref l),some (.ref d),some (.int (i:Int)),some (.ref e),v5']/\H5 d=some (.dK (S7 (rs.flatten++(A1 p i L).take j)))/\r9 d H4 H5)
         ⟨v5,rfl,by rw[List.take_zero,dw7];exact h4d,r9.refl d H4⟩ (fun j σ H5 _ zz=>by obtain ⟨_,_,_,k⟩:=zz;exact j7.of (k e _ h4e nde.symm)) ?_ ?_⟩
       · rintro j y σ H5 hj ⟨v5',rfl,h5d,kb⟩;obtain ⟨z,hz,rfl⟩:=Q5 hj;have hjl:j < (A1 p i L).length:=(dt9.mp hz).1;rw[C8] at hjl
         have hzn:z∉rs.flatten++(A1 p i L).take j:=by
           intro hm'
           rcases du1.mp hm' with g|g
           · exact fr z (du8 hz) g
           · obtain ⟨jj,hjj⟩:=dy5.mp g
             have hjk:jj < j:=by
               have:=(dt9.mp hjj).1;rw[du5] at this;omega
             rw[dy3 hjk] at hjj;have e1:=(dt9.mp hjj).2;have e2:=(dt9.mp hz).2;exact dx0.mp (dx4.mp ndr) jj j (by rw[C8];omega) (by rw[C8];omega) hjk (by rw[e1,e2])
         refine ⟨_,rfl,_,rfl,d,_,rfl,ba0.k (k:=Sum.inl z) h5d (C4 (by unfold S7;rw[dt3,dt4,du5,C8];omega)),?_⟩;refine ⟨_,rfl,?_,kb.upd_a⟩;rw[at8 hzn,j6,w5 hz,dv0]
       · rintro σ H5 ⟨v5',rfl,h5d,kb⟩;rw[dt3,dx2] at h5d
         have nad:∀b∈as,b≠d/\b≠l:=fun b hb=>by
           obtain ⟨r,hr'⟩:=bb5 rows hb;exact ⟨cx9 hr' h2d (by intro z;cases z),fun z=>nla (z▸hb)⟩
         refine ⟨as++[e],rs++[A1 p i L],_,_,_,rfl,kb l _ h4l hdl.symm,?_,?_,ap1 tp up hx pr hm,?_,?_,?_,?_⟩
         · rw[h5d,dx6,dy1]
         · exact ak2 (M5 rows fun b hb o ho=>kb b o (k4 b o ho (nad b hb).2) (nad b hb).1) (kb e _ h4e nde.symm)
         · exact fun b o hb=>kb b o (k4 b o (s2 b o hb) (j9 hb hl)) (j9 hb hd0)
         · intro b hb
           rcases du1.mp hb with g|g
           · exact fa b g
           · have:b=e:=by simpa using g
             rw[this];exact s2.free he
         · refine am0 nda fun g=> ?_
           obtain ⟨r,hr'⟩:=bb5 rows g;rw[he] at hr';cases hr'
         · intro g
           rcases du1.mp g with g|g
           · exact nla g
           · exact nle (by simpa using g)
   · rintro σ H2 ⟨as,rs,v3,v4,v5,rfl,h2l,h2d,rows,up,s2,fa,nda,nla⟩;exact ⟨_,rfl,q l as rs H2 hl s2 h2l rows up fa nda nla⟩
end
end My
namespace My
open PySem L2 Mth
section
variable {P:Program} {w:World} {K:PySem.W.Frag} {mg:Str->Option Value} {base:Heap}
def bu4:Sp:=fun vs H Q _=>∃(t r:Addr) (ts rs:List Int) (k:Int),vs=[.ref t,.ref r,.int k]/\H t=some (.lst (ts.map V.int))/\H r=some (.lst (rs.map V.int))/\t≠r/\rs.Nodup/\(∀x∈rs,0<=x/\x < ts.length)/\
 ∀(ts':List Int) (H':Hp),ts'.length=ts.length->(∀j,j < rs.length->G5 ts' (rs.getD j 0)=some (rs.getD (((j:Int)+k)%(rs.length:Int)).toNat 0))->(∀u,0<=u->u∉rs->G5 ts' u=G5 ts u)->H' t=some (.lst (ts'.map V.int))->r9 t H H'->Q .non H'
theorem bu5:y7 ["target","ring","steps","place","thing"] ["target","ring","steps"] (o7 ah8):=by rfl'
theorem dc7 {f:Addr}{fd:FuncData}(F:E6 K "send_along" "send_along" ah8 f fd)(B:Bl mg):w6 P w K mg base J8 1 f fd ["target","ring","steps"] bu4:=by
 refine F.ok bu5 (fun vs H Q E h=> ?_) (fun cdv A outer s H vs Q E hr h=> ?_)
 · obtain ⟨t,r,ts,rs,k,rfl,_⟩:=h;rfl
 · obtain ⟨t,r,ts,rs,k,rfl,ht,hrr,ntr,nd,bd,q⟩:=h
   refine ⟨_,i7 (I0 PassesOwn.never rfl (db1 B.enum (c9 (pv 1) i4)) (bp8 rfl (Y3 (y8 (i:=3) bu5.nd rfl (Or.inl rfl)) (Y3 (y8 (i:=4) bu5.nd rfl (Or.inl rfl)) bf7)))
     (i7 (Q2 (B8 y9 (pv 1) (k7 T7 (k7 J6 (pv 3) (pv 2)) (A6 B.len (c9 (pv 1) i4))) (fun _ _=>rfl)) (T5 (pv 0) (pv 4) O2)))),?_⟩
   refine ⟨_,rfl,r,rfl,⟨_,j7.of hrr⟩,ct8 (K:=K) (a:=r) (xs:=rs.map V.int) (fun i σ H2=>∃(ts':List Int) (v3 v4:Option V),σ=[some (.ref t),some (.ref r),some (.int k),v3,v4]/\H2 t=some (.lst (ts'.map V.int))/\ts'.length=ts.length/\(∀j,j < i->G5 ts' (rs.getD j 0)=some (rs.getD (((j:Int)+k)%(rs.length:Int)).toNat 0))/\(∀u,0<=u->u∉rs->G5 ts' u=G5 ts u)/\r9 t H H2)
     ⟨ts,none,none,rfl,ht,rfl,fun j hj=>by omega,fun u _ _=>rfl,r9.refl t H⟩ (fun i σ H2 _ zz=>by obtain ⟨_,_,_,_,_,_,_,_,k⟩:=zz;exact j7.of (k r _ hrr ntr.symm)) ?_ ?_⟩
   · rintro i y σ H2 tt hi ⟨ts',v3,v4,rfl,h2t,hl,hj,hu,kb⟩ htt;obtain ⟨z,hz,rfl⟩:=Q5 hi;have hil:i < rs.length:=(dt9.mp hz).1;have h2r:=kb r _ hrr ntr.symm;have nt:t≠tt:=j9 h2t htt;have nr:r≠tt:=j9 h2r htt
     have h3r:(i8 H2 tt (.tup [.int (i:Int),.int z])) r=some (.lst (rs.map V.int)):=by rw[j8 nr];exact h2r
     have h3t:(i8 H2 tt (.tup [.int (i:Int),.int z])) t=some (.lst (ts'.map V.int)):=by rw[j8 nt];exact h2t
     have L0:(0:Int) < (rs.length:Int):=by omega
     have m0:=ea8 ((i:Int)+k) (show (rs.length:Int)≠0 by omega);have m1:=eb1 ((i:Int)+k) L0;refine ⟨tt,_,rfl,SqT.of j6,rfl,_,_,rfl,_,_,rfl,rfl,?_⟩;refine ⟨_,rfl,_,rfl,_,rfl,_,_,rfl,rfl,_,rfl,r,_,rfl,.inl (j7.of h3r),?_⟩;rw[dt3];refine ⟨_,_,rfl,rfl,L0,r,_,_,_,rfl,rfl,j7.of h3r,af7 m0 m1,?_⟩;obtain ⟨z0,z1⟩:=bd z (du8 hz);refine ⟨_,rfl,_,rfl,t,_,_,z.toNat,rfl,rfl,h3t,?_,?_⟩
     · unfold U9;rw[dt3,if_pos z0,if_pos (by omega)]
     have es:(ts'.map V.int).set z.toNat (.int (rs.getD (((i:Int)+k)%(rs.length:Int)).toNat 0))=(ts'.set z.toNat (rs.getD (((i:Int)+k)%(rs.length:Int)).toNat 0)).map V.int:=by rw[eb6]
     rw[es]
     have hzi:rs.getD i 0=z:=by rw[G9 hil];exact (dt9.mp hz).2
     refine ⟨_,_,_,rfl,j6,by rw[dx3];exact hl,fun j hji=> ?_,fun u u0 un=> ?_,fun b o hb hn=> ?_⟩
     · by_cases e:j=i
       · subst e;rw[hzi,ba6 (by omega)]
       · have hjl:j < rs.length:=by omega
         have:rs.getD j 0≠z:=by rw[<-hzi];exact Z5 nd hjl hil e
         rw[am1 (bd _ (by rw[G9 hjl];exact dx8 hjl)).1 z0 this];exact hj j (by omega)
     · rw[am1 u0 z0 (fun e=>un (e▸du8 hz))];exact hu u u0 un
     · have:=kb b o hb hn;rw[j8 hn,j8 (j9 this htt)];exact this
   · rintro σ H2 ⟨ts',v3,v4,rfl,h2t,hl,hj,hu,kb⟩;rw[dt3] at hj;exact q ts' H2 hl hj hu h2t kb
end
end My
namespace My
open PySem L2 Mth
section
variable {P:Program} {w:World} {K:PySem.W.Frag} {mg:Str->Option Value} {base:Heap}
theorem cg0:y7 ["p"] ["p"] (o7 Y1):=by rfl'
theorem az3 {f:Addr}{fd:FuncData}(F:E6 K "rounds_of" "rounds_of" Y1 f fd)(cM:B7 P w K mg base "must_be_turn" 3 ["thing"] au7)(cR:B7 P w K mg base "walk_rings" 2 ["p"] Y7):w6 P w K mg base J8 4 f fd ["p"] Y7:=by
 refine F.ok cg0 (fun vs H Q E h=> ?_) (fun cdv A outer s H vs Q E hr h=> ?_)
 · obtain ⟨a,p,rfl,_⟩:=h;rfl
 · obtain ⟨a,p,rfl,⟨ha,tp,lp⟩,q⟩:=h;refine ⟨_,i5 (O0 (q9 cM hr (c9 (pv 0) i4))) (i7 (o5 (q9 cR (hr.mono (by decide)) (c9 (pv 0) i4)))),?_⟩;refine ⟨_,rfl,a,p,rfl,⟨ha,tp,lp⟩,fun H1 s1=> ?_⟩;exact ⟨_,rfl,a,p,rfl,⟨s1 a _ ha,tp,lp⟩,fun l as rs H' hl s' h1 h2 h3 h4 h5 h6=>q l as rs H' (s1.free hl) (s1.trans s') h1 h2 h3 (fun b hb=>s1.free (h4 b hb)) h5 h6⟩
end
end My
namespace My
open PySem L2 Mth
section
variable {P:Program} {w:World} {K:PySem.W.Frag} {mg:Str->Option Value} {base:Heap}
def aq4:Sp:=fun vs H Q _=>∃(l:Addr) (as:List Addr) (rs:List (List Int)),vs=[.ref l]/\H l=some (.lst (as.map V.ref))/\E2 H as rs/\(∀r∈rs,r≠[])/\Q (.bl true) H
theorem bu6:y7 ["rounds","ring"] ["rounds"] (o7 N7):=by rfl'
theorem co9 {f:Addr}{fd:FuncData}(F:E6 K "are_filled_lists" "are_filled_lists" N7 f fd)(B:Bl mg):w6 P w K mg base J8 1 f fd ["rounds"] aq4:=by
 refine F.ok bu6 (fun vs H Q E h=> ?_) (fun cdv A outer s H vs Q E hr h=> ?_)
 · obtain ⟨l,as,rs,rfl,_⟩:=h;rfl
 · obtain ⟨l,as,rs,rfl,hl,rows,hne,q⟩:=h
   refine ⟨_,i5 (w9 (J5 (C6 (C7 B.isi (c9 (pv 0) (c9 (M4 B.list) i4))))) (i7 (o5 G1)) o9)
     (i5 (I0 PassesOwn.never rfl (E4 (pv 0)) (y8 (i:=1) bu6.nd rfl (Or.inl rfl))
       (i7 (w9 (M7 (J5 (C6 (C7 B.isi (c9 (pv 1) (c9 (M4 B.list) i4))))) (Q1 (m8 E5 (A6 B.len (c9 (pv 1) i4)) i9 (o4 _)))).pt (i7 (o5 G1)) o9)))
     (i7 (o5 G1))),?_⟩
   refine ⟨_,rfl,_,"list",_,true,rfl,.lst hl,M1 K "list",true,rfl,?_⟩;refine B9 ?_;refine ⟨_,rfl,l,rfl,⟨_,j7.of hl⟩,N0 (K:=K) (a:=l) (xs:=as.map V.ref) (fun i σ H2=>∃v:Option V,σ=[some (.ref l),v]/\H2=H) ⟨none,rfl,rfl⟩ (fun i σ H2 _ zz=>by obtain ⟨_,_,e⟩:=zz;rw[e];exact j7.of hl) ?_ (fun σ H2 zz=>by obtain ⟨v,_,e⟩:=zz;rw[e];exact q)⟩;rintro i y σ H2 hi ⟨v,rfl,rfl⟩;rw[du7] at hi
   cases hA:as[i]? with
   |none=>rw[hA] at hi;cases hi
   |some e=>
    rw[hA] at hi;cases hi;have hil:i < as.length:=(dt9.mp hA).1;have hri:rs[i]? =some (rs[i]'(by rw[<-rows.1];exact hil)):=dt5 _;generalize (rs[i]'(by rw[<-rows.1];exact hil))=r at hri;have he:=rows.2 i e r hA hri;have hrn:=hne r (du8 hri);refine ⟨_,rfl,_,"list",_,true,rfl,.lst he,M1 K "list",true,rfl,?_⟩;refine B9 ⟨_,rfl,e,_,rfl,.inl (j7.of he),rfl,_,rfl,?_⟩
    have hnz:¬V.int (((r.map V.int).length:Nat):Int)=V.int 0:=fun z=>by
      have z:=V.int.inj z;rw[dt3] at z;have:=ec3.mpr hrn;omega
    rw[decide_eq_false hnz];exact B9 ⟨_,rfl,rfl⟩
def aq5:Sp:=fun vs H Q _=>∃(l:Addr) (as:List Addr) (rs:List (List Int)),vs=[.ref l]/\H l=some (.lst (as.map V.ref))/\E2 H as rs/\rs.flatten.length<=1000/\
 ∀(o:Addr) (H':Hp),H o=none->i6 H H'->H' o=some (.lst (rs.flatten.map V.int))->Q (.ref o) H'
theorem bb6:y7 ["rounds","things","ring"] ["rounds"] (o7 Y2):=by rfl'
theorem ai3 (rs:List (List Int))(i:Nat):(rs.take i).flatten.length<=rs.flatten.length:=by
 conv=>rhs;rw[<-dz5 i rs,dx6,dt4]
 omega
theorem cp0 {f:Addr}{fd:FuncData}(F:E6 K "things_in" "things_in" Y2 f fd):w6 P w K mg base J8 1 f fd ["rounds"] aq5:=by
 refine F.ok bb6 (fun vs H Q E h=> ?_) (fun cdv A outer s H vs Q E hr h=> ?_)
 · obtain ⟨l,as,rs,rfl,_⟩:=h;rfl
 · obtain ⟨l,as,rs,rfl,hl,rows,hb,q⟩:=h
   refine ⟨_,i5 (m9 (i:=1) bb6.nd rfl (Or.inl rfl) (w4 i4))
     (i5 (I0 PassesOwn.never rfl (E4 (pv 0)) (y8 (i:=2) bb6.nd rfl (Or.inl rfl)) (i7 (O0 (bk6 (pv 1) (c9 (pv 2) i4)))))
     (i7 (o5 (pv 1)))),?_⟩
   refine ⟨dv5 _,fun o ho=> ?_⟩;have s0:i6 H (i8 H o (.lst [])):=i6.upd_new ho;refine ⟨_,rfl,l,rfl,⟨_,j7.of (s0 l _ hl)⟩,N0 (K:=K) (a:=l) (xs:=as.map V.ref) (fun i σ H2=>∃v:Option V,σ=[some (.ref l),some (.ref o),v]/\i6 H H2/\H2 o=some (.lst ((rs.take i).flatten.map V.int))) ⟨none,rfl,s0,j6⟩ (fun i σ H2 _ zz=>by obtain ⟨_,_,s,_⟩:=zz;exact j7.of (s l _ hl)) ?_ ?_⟩
   · rintro i y σ H2 hi ⟨v,rfl,s2,h2o⟩;rw[du7] at hi
     cases hA:as[i]? with
     |none=>rw[hA] at hi;cases hi
     |some e=>
      rw[hA] at hi;cases hi;have hil:i < as.length:=(dt9.mp hA).1;have hri:rs[i]? =some (rs[i]'(by rw[<-rows.1];exact hil)):=dt5 _;generalize (rs[i]'(by rw[<-rows.1];exact hil))=r at hri;have he:=s2 e _ (rows.2 i e r hA hri);have hle:=ai3 rs (i+1);rw[w5 hri,dx6,dy1,dt4] at hle;have h1000:=C4 (dt7 1000);refine ⟨_,rfl,.inl ⟨rfl,_,j7.of h2o⟩,_,rfl,o,e,_,_,rfl,rfl,h2o,he,by rw[dt3,dt3];omega,?_⟩;refine ⟨_,rfl,fun b u hb=>by rw[j8 (j9 hb ho)];exact s2 b u hb,?_⟩;rw[j6,w5 hri,dx6,dy1,du6]
   · rintro σ H2 ⟨v,rfl,s2,h2o⟩;rw[dt3,rows.1,dx2] at h2o;exact ⟨_,rfl,q o H2 ho s2 h2o⟩
def be5:Sp:=fun vs H Q _=>∃(l:Addr) (as:List Addr) (rs:List (List Int)),vs=[.ref l]/\H l=some (.lst (as.map V.ref))/\E2 H as rs/\(∀r∈rs,r≠[])/\G2 rs.flatten/\rs.flatten.length<=40/\
 ∀(o:Addr) (t:List Int) (H':Hp),H o=none->i6 H H'->H' o=some (.lst (t.map V.int))->t.length=rs.flatten.length->(∀r∈rs,∀j,j < r.length->G5 t (r.getD j 0)=some (r.getD ((j+1)%r.length) 0))->Q (.ref o) H'
theorem be6:y7 ["rounds","told","ring"] ["rounds"] (o7 U1):=by rfl'
theorem cc5 {f:Addr}{fd:FuncData}(F:E6 K "from_rounds" "from_rounds" U1 f fd)(cF:B7 P w K mg base "are_filled_lists" 1 ["rounds"] aq4)(cT:B7 P w K mg base "things_in" 1 ["rounds"] aq5)(cI:B7 P w K mg base "is_turn" 2 ["thing"] ab4)
   (cS:B7 P w K mg base "send_along" 1 ["target","ring","steps"] bu4):w6 P w K mg base J8 3 f fd ["rounds"] be5:=by
 refine F.ok be6 (fun vs H Q E h=> ?_) (fun cdv A outer s H vs Q E hr h=> ?_)
 · obtain ⟨l,as,rs,rfl,_⟩:=h;rfl
 · obtain ⟨l,as,rs,rfl,hl,rows,hne,tf,lf,q⟩:=h;have hr1:A4 1 _:=hr.mono (by decide)
   refine ⟨_,i5 (w9 (J5 (C6 (q9 cF hr1 (c9 (pv 0) i4)))) (i7 az8) o9)
     (i5 (m9 (i:=1) be6.nd rfl (Or.inl rfl) (q9 cT hr1 (c9 (pv 0) i4)))
     (i5 (w9 (J5 (C6 (q9 cI hr (c9 (pv 1) i4)))) (i7 az8) o9)
     (i5 (I0 PassesOwn.never rfl (E4 (pv 0)) (y8 (i:=2) be6.nd rfl (Or.inl rfl)) (i7 (O0 (q9 cS hr1 (c9 (pv 1) (c9 (pv 2) (c9 i9 i4)))))))
     (i7 (o5 (pv 1)))))),?_⟩
   refine ⟨_,rfl,l,as,rs,rfl,hl,rows,hne,true,rfl,?_⟩;refine B9 ?_;refine ⟨_,rfl,l,as,rs,rfl,hl,rows,by omega,fun o H1 ho s1 h1o=> ?_⟩;refine ⟨_,rfl,o,_,rfl,h1o,fun bb H2 s2 hbb=>⟨bb,rfl,?_⟩⟩;have:bb=true:=hbb.mpr ⟨lf,tf⟩;subst this;refine B9 ?_;have s02:=s1.trans s2;have h2o:=s2 o _ h1o;have h2l:=s02 l _ hl
   have rows2:E2 H2 as rs:=M5 rows fun c _ u hu=>s02 c u hu
   have nlo:l≠o:=j9 hl ho
   refine ⟨_,rfl,l,rfl,⟨_,j7.of h2l⟩,N0 (K:=K) (a:=l) (xs:=as.map V.ref) (fun i σ H3=>∃(ts:List Int) (v:Option V),σ=[some (.ref l),some (.ref o),v]/\H3 o=some (.lst (ts.map V.int))/\ts.length=rs.flatten.length/\(∀r∈rs.take i,∀j,j < r.length->G5 ts (r.getD j 0)=some (r.getD ((j+1)%r.length) 0))/\r9 o H2 H3)
     ⟨_,none,rfl,h2o,rfl,fun r hr=>by simp at hr,r9.refl o H2⟩ (fun i σ H3 _ zz=>by obtain ⟨_,_,_,_,_,_,k⟩:=zz;exact j7.of (k l _ h2l nlo)) ?_ ?_⟩
   · rintro i y σ H3 hi ⟨ts,v,rfl,h3o,lts,hts,kb⟩;rw[du7] at hi
     cases hA:as[i]? with
     |none=>rw[hA] at hi;cases hi
     |some e=>
      rw[hA] at hi;cases hi;have hil:i < as.length:=(dt9.mp hA).1;have hri:rs[i]? =some (rs[i]'(by rw[<-rows.1];exact hil)):=dt5 _;generalize hR:(rs[i]'(by rw[<-rows.1];exact hil))=r at hri
      have neo:o≠e:=fun z=>by
        have:=rows.2 i e r hA hri;rw[<-z,ho] at this;cases this
      have h3e:=kb e _ (rows2.2 i e r hA hri) neo.symm;have hrm:r∈rs:=du8 hri
      have hsplit:rs.flatten=(rs.take i).flatten++(r++(rs.drop (i+1)).flatten):=by
        conv=>lhs;rw[<-dz5 i rs,dx6]
        rw[ed1 (by rw[<-rows.1];exact hil),hR,dx7]
      have nds:=tf.nd;rw[hsplit] at nds;obtain ⟨nd1,nd2,nd3⟩:=dz7.mp nds;obtain ⟨ndr,_,_⟩:=dz7.mp nd2;refine ⟨_,rfl,_,rfl,o,e,ts,r,1,rfl,h3o,h3e,neo,ndr,fun x hx=> ?_,fun ts' H4 l4 hj hu h4o kb4=> ?_⟩
      · have hxf:x∈rs.flatten:=dx5.mpr ⟨r,hrm,hx⟩;exact ⟨tf.lo x hxf,by rw[lts];exact tf.hi x hxf⟩
      refine ⟨ts',_,rfl,h4o,by omega,fun r' hr' j hj'=> ?_,kb.trans kb4⟩;rw[w5 hri] at hr'
      rcases du1.mp hr' with g|g
      · have hx:r'.getD j 0∈(rs.take i).flatten:=by
          rw[G9 hj'];exact dx5.mpr ⟨r',g,dx8 hj'⟩
        have hxn:r'.getD j 0∉r:=fun z=>nd3 _ hx _ (dw8 _ z) rfl
        have hx0:0<=r'.getD j 0:=tf.lo _ (by rw[hsplit];exact dw8 _ hx);rw[hu _ hx0 hxn];exact hts r' g j hj'
      · have:r'=r:=by simpa using g
        subst this;have h1:=hj j hj'
        have e1:(((j:Int)+1)%(r'.length:Int)).toNat=(j+1)%r'.length:=by
          have:((j:Int)+1)=((j+1:Nat):Int):=by omega
          rw[this,<-Int.natCast_emod,dy7]
        rw[e1] at h1;exact h1
   · rintro σ H3 ⟨ts,v,rfl,h3o,lts,hts,kb⟩;rw[dt3,rows.1,dx2] at hts;exact ⟨_,rfl,q o ts H3 ho (fun b u hb=>kb b u (s02 b u hb) (j9 hb ho)) h3o lts hts⟩
end
end My
namespace My
open PySem L2 Mth
section
variable {P:Program} {w:World} {K:PySem.W.Frag} {mg:Str->Option Value} {base:Heap}
def bu7 (K:PySem.W.Frag):Sp:=fun vs H Q _=>∃(a:Addr) (ns:List Int) (k:Int),vs=[.ref a,.int k]/\j7 K H a (ns.map V.int)/\0<=k/\∀z:Int,Q (.int z) H
theorem bh1:y7 ["script","k"] ["script","k"] (o7 ad6):=by rfl'
theorem bh2 {f:Addr}{fd:FuncData}(F:E6 K "_law_cell_at" "_law_cell_at" ad6 f fd)(B:Bl mg):w6 P w K mg base J8 1 f fd ["script","k"] (bu7 K):=by
 refine F.ok bh1 (fun vs H Q E h=> ?_) (fun cdv A outer s H vs Q E hr h=> ?_)
 · obtain ⟨a,ns,k,rfl,ha,k0,q⟩:=h;rfl
 · obtain ⟨a,ns,k,rfl,ha,k0,q⟩:=h;refine ⟨_,@i5 _ _ _ _ _ (@w9 _ _ _ _ _ _ _ _ (@m8 _ _ _ _ _ _ _ _ aw8 (pv 1) (@A6 _ _ _ _ _ B.len (@c9 _ _ _ _ _ (pv 0) (@i4 _) (by rfl)) (by rfl) (by rfl)) (o4 _)) (@i7 _ _ _ (@o5 _ _ _ _ (@B8 _ _ _ _ _ _ _ y9 (pv 0) (pv 1) (fun _ _=>rfl)))) (@o9 _)) (@i7 _ _ _ (@o5 _ _ _ _ (@i9 _ _ _ _))),?_⟩;refine ⟨_,rfl,_,rfl,a,_,rfl,.inl ha,_,_,rfl,rfl,_,rfl,?_⟩;rw[dt3];refine K7 (fun h=> ?_) (fun h=>q 0);have h:k < (ns.length:Int):=of_decide_eq_true h;exact ⟨_,rfl,_,rfl,a,_,k,_,rfl,rfl,ha,af7 k0 h,q _⟩
def A8 (H:Hp)(a:Addr):Prop:=∃ds:List Int,H a=some (.lst (ds.map V.int))/\(∀x∈ds,0<=x)/\ds.length<=1000
theorem A8.some {H:Hp}{a:Addr}(h:A8 H a):∃o,H a=some o:=let ⟨_,e,_⟩:=h;⟨_,e⟩
theorem A8.same {H H':Hp}{a:Addr}(h:A8 H a)(s:i6 H H'):A8 H' a:=let ⟨ds,e,r⟩:=h;⟨ds,s _ _ e,r⟩
theorem A8.upd {H:Hp}{a b:Addr}{o:HO}(h:A8 H a)(n:a≠b):A8 (L2.i8 H b o) a:=let ⟨ds,e,r⟩:=h;⟨ds,by rw[j8 n];exact e,r⟩
theorem A8.ne {H:Hp}{a b:Addr}(h:A8 H a)(n:H b=none):b≠a:=fun z=>by obtain ⟨o,e⟩:=h.some;rw[<-z,n] at e;cases e
def V2:Sp:=fun vs H Q _=>∃(z:Int) (n:Nat),vs=[.int z,.int (n:Int)]/\n<=900/\∀(l:Addr) (H':Hp),H l=none->i6 H H'->A8 H' l->Q (.ref l) H'
theorem J9:y7 ["cell","many","found","rest","stir","k","again"] ["cell","many"] (o7 ad7):=by rfl'
theorem bh3 {f:Addr}{fd:FuncData}(F:E6 K "_law_numbers" "_law_numbers" ad7 f fd)(B:Bl mg):w6 P w K mg base J8 1 f fd ["cell","many"] V2:=by
 refine F.ok J9 (fun vs H Q E h=> ?_) (fun cdv A outer s H vs Q E hr h=> ?_)
 · obtain ⟨z,n,rfl,hn,q⟩:=h;rfl
 · obtain ⟨z,n,rfl,hn,q⟩:=h;refine ⟨_,@i5 _ _ _ _ _ (@m9 _ _ (2) _ _ _ _ J9.nd rfl (Or.inl rfl) (@w4 _ _ _ _ (@i4 _)) (by rfl) (by trivial)) (@i5 _ _ _ _ _ (@m9 _ _ (3) _ _ _ _ J9.nd rfl (Or.inl rfl) (pv 0) (by rfl) (by trivial)) (@i5 _ _ _ _ _ (@m9 _ _ (4) _ _ _ _ J9.nd rfl (Or.inl rfl) (@k7 _ _ _ _ _ _ _ _ T7 (pv 0) (@i9 _ _ _ _)) (by rfl) (by trivial)) (@i5 _ _ _ _ _ (@I0 _ _ _ _ _ _ _ _ PassesOwn.never rfl (@N6 _ _ _ _ _ _ (by rfl) B.range (@c9 _ _ _ _ _ (pv 1) (@i4 _) (by rfl)) (by rfl)) (@y8 _ _ (5) _ J9.nd rfl (Or.inl rfl) (by trivial)) (@i7 _ _ _ (@w9 _ _ _ _ _ _ _ _ (@as4 _ _ _ _ _ _ _ (@m8 _ _ _ _ _ _ _ _ ce2 (pv 0) (@k7 _ _ _ _ _ _ _ _ bc7 (@i9 _ _ _ _) (@i9 _ _ _ _)) (o4 _)) (@al5 _ _ _ _ (@m8 _ _ _ _ _ _ _ _ aw9 (pv 3) (@i9 _ _ _ _) (o4 _)))).pt (@i5 _ _ _ _ _ (@O0 _ _ _ _ (@S6 _ _ _ _ _ _ _ (pv 2) (@c9 _ _ _ _ _ (@k7 _ _ _ _ _ _ _ _ T7 (pv 3) (@i9 _ _ _ _)) (@i4 _) (by rfl)) (by rfl) (by rfl) (by rfl) (by rfl) (by rfl)) (by rfl)) (@i7 _ _ _ (@m9 _ _ (3) _ _ _ _ J9.nd rfl (Or.inl rfl) (@k7 _ _ _ _ _ _ _ _ br5 (pv 3) (@i9 _ _ _ _)) (by rfl) (by trivial)))) (@i5 _ _ _ _ _ (@m9 _ _ (4) _ _ _ _ J9.nd rfl (Or.inl rfl) (@k7 _ _ _ _ _ _ _ _ T7 (@k7 _ _ _ _ _ _ _ _ as7 (@k7 _ _ _ _ _ _ _ _ J6 (@k7 _ _ _ _ _ _ _ _ J6 (pv 4) (@k7 _ _ _ _ _ _ _ _ as7 (@i9 _ _ _ _) (pv 5))) (@i9 _ _ _ _)) (@i9 _ _ _ _)) (@i9 _ _ _ _)) (by rfl) (by trivial)) (@i5 _ _ _ _ _ (@m9 _ _ (6) _ _ _ _ J9.nd rfl (Or.inl rfl) (@k7 _ _ _ _ _ _ _ _ T7 (@k7 _ _ _ _ _ _ _ _ as7 (@k7 _ _ _ _ _ _ _ _ T7 (@k7 _ _ _ _ _ _ _ _ as7 (pv 4) (pv 4)) (@i9 _ _ _ _)) (@i9 _ _ _ _)) (@i9 _ _ _ _)) (by rfl) (by trivial)) (@i7 _ _ _ (@O0 _ _ _ _ (@S6 _ _ _ _ _ _ _ (pv 2) (@c9 _ _ _ _ _ (@k7 _ _ _ _ _ _ _ _ T7 (@k7 _ _ _ _ _ _ _ _ br5 (pv 6) (@i9 _ _ _ _)) (@i9 _ _ _ _)) (@i4 _) (by rfl)) (by rfl) (by rfl) (by rfl) (by rfl) (by rfl)) (by rfl))))))) (by intro _;rfl)) (@i7 _ _ _ (@o5 _ _ _ _ (pv 2)))))),?_⟩;refine ⟨dv5 _,fun l hl=> ?_⟩;have s1:i6 H (i8 H l (.lst [])):=i6.upd_new hl;have h1l:(i8 H l (.lst [])) l=some (.lst []):=j6;generalize (i8 H l (.lst []))=H1 at s1 h1l ⊢;refine ⟨_,rfl,?_⟩;refine ⟨_,rfl,_,_,rfl,rfl,(by show (0:Int) < 2147483647;decide),?_⟩
   refine ⟨_,rfl,(n:Int),rfl,by omega,by omega,S4 (lo:=0) (n:=((n:Nat):Int).toNat) (fun i σ H2=>∃(ds:List Int) (re st:Int) (v5 v6:Option V),σ=[some (.int z),some (.int (n:Int)),some (.ref l),some (.int re),some (.int st),v5,v6]/\0<=st/\st < 2147483647/\H2 l=some (.lst (ds.map V.int))/\ds.length=i/\(∀x∈ds,0<=x)/\i6 H H2)
     ⟨[],z,_,none,none,rfl,ea8 _ (by decide),eb1 _ (by decide),h1l,rfl,(fun x hx=>by cases hx),s1⟩ ?_ ?_⟩
   · rintro i σ H2 hi ⟨ds,re,st,v5,v6,rfl,st0,st1,h2l,lds,pos,s2⟩;have cp:df4 10 18:=⟨by decide,by decide,by decide⟩
     have e64:(2:Int)^64=18446744073709551616:=by decide
     have put:∀x:Int,0<=x->(∀y∈ds++[x],0<=y):=fun x x0 y hy=>by
       rcases du1.mp hy with k|k
       · exact pos y k
       · rw[du4.mp k];exact x0
     have sl:i6 H (i8 H2 l (.lst (ds.map V.int))):=fun b o hb=>by rw[j8 (j9 hb hl)];exact s2 b o hb
     have kee:∀o:HO,i6 H (i8 H2 l o):=fun o b u hb=>by rw[j8 (j9 hb hl)];exact s2 b u hb
     have ls:(ds.map V.int).length < sizeLine:=C4 (by rw[dt3];omega);refine ⟨_,rfl,_,_,rfl,rfl,cp,_,_,rfl,rfl,_,rfl,?_⟩;refine K7 (fun _=>⟨_,rfl,_,_,rfl,rfl,_,rfl,K7 (fun _=> ?_) (fun _=> ?_)⟩) (fun _=> ?_)
     · refine ⟨_,rfl,.inl ⟨rfl,_,j7.of h2l⟩,_,rfl,_,_,rfl,rfl,(by show (0:Int) < 64;decide),l,_,_,rfl,rfl,h2l,ls,?_⟩;refine ⟨_,rfl,_,_,rfl,rfl,⟨by decide,by decide⟩,?_⟩;exact ⟨ds++[re%64],_,st,_,_,rfl,st0,st1,by rw[j6,du6];rfl,by rw[dt4,lds];rfl,put _ (ea8 _ (by decide)),kee _⟩
     all_goals
       refine ⟨_,rfl,_,rfl,_,_,rfl,rfl,.inl ⟨by decide,by decide⟩,_,_,rfl,rfl,_,_,rfl,rfl,_,_,rfl,rfl,.inr ⟨by decide,by decide⟩,_,_,rfl,rfl,(by show (0:Int) < 2147483647;decide),?_⟩;have n0:=ea8 ((st+7*(0+(i:Int))+3)*48271) (show (2147483647:Int)≠0 by decide);have n1:=eb1 ((st+7*(0+(i:Int))+3)*48271) (show (0:Int) < 2147483647 by decide);refine ⟨_,rfl,_,rfl,_,_,rfl,rfl,.inl ⟨by rw[e64];omega,by rw[e64];omega⟩,_,_,rfl,rfl,(by show (0:Int) < 2147483629;decide),_,_,rfl,rfl,.inr ⟨by decide,by decide⟩,_,_,rfl,rfl,(by show (0:Int) < 2147483587;decide),?_⟩;refine ⟨_,rfl,.inl ⟨rfl,_,j7.of h2l⟩,_,rfl,_,_,rfl,rfl,⟨by decide,by decide⟩,_,_,rfl,rfl,(by show (0:Int) < 720720;decide),l,_,_,rfl,rfl,h2l,ls,?_⟩;exact ⟨ds++[_],_,_,_,_,rfl,n0,n1,by rw[j6,du6];rfl,by rw[dt4,lds];rfl,put _ (ea8 _ (by decide)),kee _⟩
   · rintro σ H2 ⟨ds,re,st,v5,v6,rfl,st0,st1,h2l,lds,pos,s2⟩;exact ⟨_,rfl,q l H2 hl s2 ⟨ds,h2l,pos,by omega⟩⟩
theorem by7:y7 ["cell","many"] ["cell","many"] (o7 ap9):=by rfl'
theorem by8 {f:Addr}{fd:FuncData}(F:E6 K "_law_deck" "_law_deck" ap9 f fd)(zvy:B7 P w K mg base "_law_numbers" 1 ["cell","many"] V2):w6 P w K mg base J8 2 f fd ["cell","many"] V2:=by
 refine F.ok by7 (fun vs H Q E h=> ?_) (fun cdv A outer s H vs Q E hr h=> ?_)
 · obtain ⟨z,n,rfl,hn,q⟩:=h;rfl
 · obtain ⟨z,n,rfl,hn,q⟩:=h;have zsx:A4 1 _:=hr.mono (by decide);refine ⟨_,@i7 _ _ _ (@o5 _ _ _ _ (@dh3 _ _ _ _ _ _ _ (@q9 _ _ _ _ _ _ _ _ _ _ zvy zsx (@c9 _ _ _ _ _ (pv 0) (@c9 _ _ _ _ _ (pv 1) (@i4 _) (by rfl)) (by rfl)) (by rfl) (by decide) (by rfl) (by rfl)) (@B6 _ _ _ (@aw7 _ _ _ _ _ _ al7 (@i9 _ _ _ _))))),?_⟩;refine ⟨_,rfl,_,rfl,z,n,rfl,hn,fun l H2 hl s2 ⟨ds,h2l,pos,ld⟩=> ?_⟩;refine ⟨_,rfl,_,rfl,rfl,l,_,rfl,j7.of h2l,fun o ho=> ?_⟩;exact q o _ (s2.free ho) (s2.upd_r (s2.free ho)) ⟨ds.reverse,by rw[j6,List.map_reverse],fun x hx=>pos x (ec9.mp hx),by rw[ec5];omega⟩
def ai4:Sp:=fun vs H Q _=>∃(a:Addr) (m:Int),vs=[.ref a,.int m]/\A8 H a/\0 < m/\∀(r:Int) (H':Hp),0<=r->r < m->A8 H' a->r9 a H H'->Q (.int r) H'
theorem by9:y7 ["deck","many"] ["deck","many"] (o7 aq0):=by rfl'
theorem bz0 {f:Addr}{fd:FuncData}(F:E6 K "_law_take" "_law_take" aq0 f fd):w6 P w K mg base J8 1 f fd ["deck","many"] ai4:=by
 refine F.ok by9 (fun vs H Q E h=> ?_) (fun cdv A outer s H vs Q E hr h=> ?_)
 · obtain ⟨a,m,rfl,⟨ds,ha,pos,len⟩,m0,q⟩:=h;rfl
 · obtain ⟨a,m,rfl,⟨ds,ha,pos,len⟩,m0,q⟩:=h;have hu:=ae5 hr;refine ⟨_,@i5 _ _ _ _ _ (@w9 _ _ _ _ _ _ _ _ (@m8 _ _ _ _ _ _ _ _ (at5 0 hu) (pv 0) (@w4 _ _ _ _ (@i4 _)) (o4 _)) (@i7 _ _ _ (@o5 _ _ _ _ (@i9 _ _ _ _))) (@o9 _)) (@i7 _ _ _ (@o5 _ _ _ _ (@k7 _ _ _ _ _ _ _ _ T7 (@dh8 _ _ _ _ _ (pv 0) (by rfl) (by rfl)) (pv 1)))),?_⟩;refine ⟨_,rfl,dv5 _,fun e he=> ?_⟩;have nae:a≠e:=j9 ha he
   have h1a:(i8 H e (.lst [])) a=some (.lst (ds.map V.int)):=by rw[j8 nae];exact ha
   have kb:r9 a H (i8 H e (.lst [])):=fun b o hb _=>by rw[j8 (j9 hb he)];exact hb
   refine ⟨a,e,ds.map V.int,[],_,rfl,rfl,j7.of h1a,j7.of j6,aa5 _ _ _ _,_,rfl,?_⟩;generalize (i8 H e (.lst []))=H1 at h1a kb ⊢
   cases ds with
   |nil=>exact A5 (q 0 H1 (by decide) m0 ⟨[],h1a,pos,len⟩ kb)
   |cons x xs=>
    refine B9 ?_
    have hl:(x::xs).length - 1 < (x::xs).length:=by simp
    have hg:((x::xs).map V.int)[((x::xs).map V.int).length - 1]? =some (.int (x::xs)[(x::xs).length - 1]):=by
      rw[dt3,du7,dt5 hl];rfl
    refine ⟨_,rfl,.inl ⟨rfl,_,j7.of h1a⟩,a,_,_,rfl,rfl,h1a,hg,_,rfl,_,_,rfl,rfl,m0,?_⟩
    refine q _ _ (ea8 _ (by omega)) (eb1 _ m0) ⟨(x::xs).dropLast,by rw[j6,List.map_dropLast],fun y hy=>pos y ((List.dropLast_sublist _).mem hy),by rw[List.length_dropLast];omega⟩ fun b o hb hn=>by rw[j8 hn];exact kb b o hb hn
end
end My
namespace My
open PySem L2 Mth
section
variable {P:Program} {w:World} {K:PySem.W.Frag} {mg:Str->Option Value} {base:Heap}
theorem bl5:∀{l:List Int} {k:Nat},(l.map V.int).eraseIdx k=(l.eraseIdx k).map V.int
 |[],k=>by simp
 |a::l,0=>by simp
 |a::l,k+1=>by simp [bl5 (l:=l) (k:=k)]
theorem be7:∀{l:List Int},(∀x∈l,0<=x)->0<=l.sum
 |[],_=>by simp
 |a::l,h=>by
  have:=be7 fun y hy=>h y (dt8 _ hy)
  have:=h a dt6;rw[eg5];omega
def bh4:Sp:=fun vs H Q _=>∃(g:Addr) (n:Nat),vs=[.ref g,.int (n:Int)]/\A8 H g/\n<=41/\∀(l:Addr) (p:List Int) (H':Hp),H l=none->G2 p->p.length<=41->H' l=some (.lst (p.map V.int))->A8 H' g->r9 g H H'->Q (.ref l) H'
theorem L9:y7 ["deck","most","lengths","size","length","turn","left","found","one","k"] ["deck","most"] (o7 aq1):=by rfl'
theorem aj3:(["k","left","deck"]:List Str).Nodup:=by decide+kernel
theorem bz1 {f:Addr}{fd:FuncData}(F:E6 K "_law_turn" "_law_turn" aq1 f fd)(B:Bl mg)(zy:B7 P w K mg base "_law_take" 1 ["deck","many"] ai4):w6 P w K mg base J8 2 f fd ["deck","most"] bh4:=by
 refine F.ok L9 (fun vs H Q E h=> ?_) (fun cdv A outer s H vs Q E hr h=> ?_)
 · obtain ⟨g,n,rfl,hg,hn,q⟩:=h;rfl
 · obtain ⟨g,n,rfl,hg,hn,q⟩:=h;have zyz:A4 1 _:=hr.mono (by decide);refine ⟨_,@i5 _ _ _ _ _ (@m9 _ _ (2) _ _ _ _ L9.nd rfl (Or.inl rfl) (@w4 _ _ _ _ (@i4 _)) (by rfl) (by trivial)) (@i5 _ _ _ _ _ (@m9 _ _ (3) _ _ _ _ L9.nd rfl (Or.inl rfl) (@q9 _ _ _ _ _ _ _ _ _ _ zy zyz (@c9 _ _ _ _ _ (pv 0) (@c9 _ _ _ _ _ (@k7 _ _ _ _ _ _ _ _ J6 (pv 1) (@i9 _ _ _ _)) (@i4 _) (by rfl)) (by rfl)) (by rfl) (by decide) (by rfl) (by rfl)) (by rfl) (by trivial)) (@i5 _ _ _ _ _ (@an8 _ _ _ _ _ _ PassesOwn.never (@m8 _ _ _ _ _ _ _ _ aw8 (@cl3 _ _ _ _ _ rfl B.sum (@c9 _ _ _ _ _ (pv 2) (@i4 _) (by rfl)) (by rfl) (by rfl)) (pv 3) (o4 _)) (@i5 _ _ _ _ _ (@m9 _ _ (4) _ _ _ _ L9.nd rfl (Or.inl rfl) (@k7 _ _ _ _ _ _ _ _ J6 (@i9 _ _ _ _) (@q9 _ _ _ _ _ _ _ _ _ _ zy zyz (@c9 _ _ _ _ _ (pv 0) (@c9 _ _ _ _ _ (@B8 _ _ _ _ _ _ _ y9 (@ba8 _ _ _ [3,6,2,41] rfl) (@q9 _ _ _ _ _ _ _ _ _ _ zy zyz (@c9 _ _ _ _ _ (pv 0) (@c9 _ _ _ _ _ (@i9 _ _ _ _) (@i4 _) (by rfl)) (by rfl)) (by rfl) (by decide) (by rfl) (by rfl)) (fun _ _=>rfl)) (@i4 _) (by rfl)) (by rfl)) (by rfl) (by decide) (by rfl) (by rfl))) (by rfl) (by trivial)) (@i7 _ _ _ (@I0 _ _ _ _ _ _ _ _ PassesOwn.never rfl (@N6 _ _ _ _ _ _ (by rfl) B.range (@c9 _ _ _ _ _ (@B8 _ _ _ _ _ _ _ y9 (@ba8 _ _ _ [1,2,3,1] rfl) (@q9 _ _ _ _ _ _ _ _ _ _ zy zyz (@c9 _ _ _ _ _ (pv 0) (@c9 _ _ _ _ _ (@i9 _ _ _ _) (@i4 _) (by rfl)) (by rfl)) (by rfl) (by decide) (by rfl) (by rfl)) (fun _ _=>rfl)) (@i4 _) (by rfl)) (by rfl)) (@y8 _ _ (5) _ L9.nd rfl (Or.inl rfl) (by trivial)) (@i7 _ _ _ (@O0 _ _ _ _ (@S6 _ _ _ _ _ _ _ (pv 2) (@c9 _ _ _ _ _ (@ca6 _ _ _ _ _ _ rfl B.min (@c9 _ _ _ _ _ (pv 4) (@c9 _ _ _ _ _ (@k7 _ _ _ _ _ _ _ _ as6 (pv 3) (@cl3 _ _ _ _ _ rfl B.sum (@c9 _ _ _ _ _ (pv 2) (@i4 _) (by rfl)) (by rfl) (by rfl))) (@i4 _) (by rfl)) (by rfl)) (by rfl) (by rfl) (by rfl)) (@i4 _) (by rfl)) (by rfl) (by rfl) (by rfl) (by rfl) (by rfl)) (by rfl))) (by intro _;rfl))))) (@i5 _ _ _ _ _ (@m9 _ _ (6) _ _ _ _ L9.nd rfl (Or.inr rfl) (@ao5 _ _ _ _ _ _ _ rfl B.list B.range (@c9 _ _ _ _ _ (pv 3) (@i4 _) (by rfl)) (by rfl) (by rfl) (by rfl) (by rfl)) (by rfl) (by trivial)) (@i5 _ _ _ _ _ (@m9 _ _ (7) _ _ _ _ L9.nd rfl (Or.inl rfl) (@k7 _ _ _ _ _ _ _ _ bd1 (@w4 _ _ _ _ (@c9 _ _ _ _ _ (@i9 _ _ _ _) (@i4 _) (by rfl))) (pv 3)) (by rfl) (by trivial)) (@i5 _ _ _ _ _ (@I0 _ _ _ _ _ _ _ _ PassesOwn.never rfl (@E4 _ _ _ _ (pv 2)) (@y8 _ _ (4) _ L9.nd rfl (Or.inl rfl) (by trivial)) (@i5 _ _ _ _ _ (@ca4 _ (8) _ _ _ _ _ _ _ _ _ _ _ _ _ (["k","left","deck"]) (1) ([6,0]) L9.nd rfl (Or.inl rfl) rfl .of (@N6 _ _ _ _ _ _ (by rfl) B.range (@c9 _ _ _ _ _ (pv 4) (@i4 _) (by rfl)) (by rfl)) (fun _ _ _ _ _=>@y8 _ _ (0) _ aj3 rfl (Or.inl rfl) (by trivial)) (fun _ _ _ _ _=>(@P0 _)) (fun _ _ _ _ _=>(@cn0 _ K _ _ _ _ _ _ (pv 1) (@c9 _ _ _ _ _ (@q9 _ _ _ _ _ _ _ _ _ _ zy zyz (@c9 _ _ _ _ _ (pv 2) (@c9 _ _ _ _ _ (@ct5 _ _ _ _ _ K (by exact B.len) (@c9 _ _ _ _ _ (pv 1) (@i4 _) (by rfl)) (by rfl) (by rfl) (by rfl)) (@i4 _) (by rfl)) (by rfl)) (by rfl) (by decide) (by rfl) (by rfl)) (@i4 _) (by rfl)) (by rfl) (by rfl) (by rfl) (by rfl) (by rfl) (by rfl))) (by rfl) (by intro _;rfl) (by trivial)) (@i7 _ _ _ (@I0 _ _ _ _ _ _ _ _ PassesOwn.never rfl (@N6 _ _ _ _ _ _ (by rfl) B.range (@c9 _ _ _ _ _ (pv 4) (@i4 _) (by rfl)) (by rfl)) (@y8 _ _ (9) _ L9.nd rfl (Or.inl rfl) (by trivial)) (@i7 _ _ _ (@Q2 _ _ _ _ _ _ (@B8 _ _ _ _ _ _ _ y9 (pv 8) (pv 9) (fun _ _=>rfl)) (@T5 _ _ _ _ _ _ _ (pv 7) (@B8 _ _ _ _ _ _ _ y9 (pv 8) (@k7 _ _ _ _ _ _ _ _ as6 (pv 9) (@i9 _ _ _ _)) (fun _ _=>rfl)) O2 (by intro _;rfl)) (by rfl) (by rfl) (by rfl))) (by intro _;rfl)))) (by intro _;rfl)) (@i7 _ _ _ (@o5 _ _ _ _ (pv 7)))))))),?_⟩
   refine ⟨dv5 _,fun L hL=> ?_⟩;obtain ⟨H1,e1⟩:∃Hn,Hn=i8 H L (.lst []):=⟨_,rfl⟩;have s1:i6 H H1:=e1▸i6.upd_new hL
   have h1L:H1 L=some (.lst (([]:List Int).map V.int)):=by rw[e1,j6];rfl
   rw[<-e1];have nLg:L≠g:=hg.ne hL;refine ⟨_,rfl,_,rfl,_,_,rfl,rfl,g,(n:Int)+1,rfl,hg.same s1,by omega,fun sz H2 sz0 sz1 D2 kb2=> ?_⟩;obtain ⟨s,rfl⟩:=dw4 sz0
   have hs40:s<=41:=by omega
   have kb02:r9 g H H2:=(s1.but g).trans kb2;have h2L:=kb2 _ _ h1L nLg
   refine ⟨fun mm σ H3=>∃(ls:List Int) (v4 v5:Option V),σ=[some (.ref g),some (.int (n:Int)),some (.ref L),some (.int (s:Int)),v4,v5,none,none,none,none]/\H3 L=some (.lst (ls.map V.int))/\(∀x∈ls,0<=x)/\ls.sum<=(s:Int)/\(ls.length:Int)<=3*ls.sum/\A8 H3 g/\r9 g H H3/\mm=((s:Int) - ls.sum).toNat,
     ⟨_,[],none,none,rfl,h2L,(fun x hx=>by cases hx),by simp,by simp,D2,kb02,rfl⟩,?_⟩
   rintro mm σ H3 ⟨ls,v4,v5,rfl,h3L,lpos,lsum,llen,D3,kb3,rfl⟩;refine ⟨_,rfl,L,ls,rfl,j7.of h3L,_,rfl,_,_,rfl,rfl,_,rfl,?_⟩;refine K7 (fun hlt=> ?_) (fun hge=> ?_)
   · have hlt:ls.sum < (s:Int):=of_decide_eq_true hlt;refine ⟨fun σ' H'=>∃m',m' < ((s:Int) - ls.sum).toNat/\_,fun _ _ h=>h,?_⟩;refine ⟨_,rfl,(show 4<=sizeLine by decide),fun e he=> ?_⟩;have nge:g≠e:=(D3.ne he).symm;refine ⟨_,rfl,g,4,rfl,D3.upd nge,by decide,fun x1 H4 x10 x11 D4 kb4=> ?_⟩;have h4e:=kb4 e _ j6 nge.symm
     obtain ⟨av,hat,av1⟩:∃av,Y0 [V.int 3,V.int 6,V.int 2,V.int 41] x1=some (.int av)/\1<=av:=by
       have:x1=0\/x1=1\/x1=2\/x1=3:=by omega
       rcases this with rfl|rfl|rfl|rfl
       · exact ⟨3,o8 (j:=0) rfl,by decide⟩
       · exact ⟨6,o8 (j:=1) rfl,by decide⟩
       · exact ⟨2,o8 (j:=2) rfl,by decide⟩
       · exact ⟨41,o8 (j:=3) rfl,by decide⟩
     have kb34:r9 g H3 H4:=((i6.upd_new he).but g).trans kb4;have h4L:=kb34 _ _ h3L nLg;refine ⟨e,_,_,_,rfl,rfl,j7.of h4e,hat,g,av,rfl,D4,by omega,fun x2 H5 x20 x21 D5 kb5=>⟨_,_,rfl,rfl,?_⟩⟩;have h5L:=kb5 _ _ h4L nLg;have kb35:=kb34.trans kb5;refine ⟨(show 4<=sizeLine by decide),fun e2 he2=> ?_⟩;have nge2:g≠e2:=(D5.ne he2).symm;refine ⟨_,rfl,g,4,rfl,D5.upd nge2,by decide,fun x3 H6 x30 x31 D6 kb6=> ?_⟩;have h6e:=kb6 e2 _ j6 nge2.symm
     obtain ⟨c,hat2,c1,c3⟩:∃c:Nat,Y0 [V.int 1,V.int 2,V.int 3,V.int 1] x3=some (.int (c:Int))/\1<=c/\c<=3:=by
       have:x3=0\/x3=1\/x3=2\/x3=3:=by omega
       rcases this with rfl|rfl|rfl|rfl
       · exact ⟨1,o8 (j:=0) rfl,by decide,by decide⟩
       · exact ⟨2,o8 (j:=1) rfl,by decide,by decide⟩
       · exact ⟨3,o8 (j:=2) rfl,by decide,by decide⟩
       · exact ⟨1,o8 (j:=3) rfl,by decide,by decide⟩
     have kb36:r9 g H3 H6:=(kb35.trans ((i6.upd_new he2).but g)).trans kb6;have h6L:=kb36 _ _ h3L nLg
     refine ⟨e2,_,_,_,rfl,rfl,j7.of h6e,hat2,(c:Int),rfl,by omega,by omega,S4 (lo:=0) (n:=((c:Nat):Int).toNat) (fun j σ H7=>∃(ks:List Int) (v5:Option V),σ=[some (.ref g),some (.int (n:Int)),some (.ref L),some (.int (s:Int)),some (.int (1+x2)),v5,none,none,none,none]/\H7 L=some (.lst (ks.map V.int))/\(∀x∈ks,0<=x)/\ks.sum<=(s:Int)/\ks.length=ls.length+j/\ls.sum<=ks.sum/\(0 < j->ls.sum < ks.sum)/\A8 H7 g/\r9 g H H7)
       ⟨ls,_,rfl,h6L,lpos,lsum,rfl,Int.le_refl _,fun h=>absurd h (by omega),D6,kb3.trans kb36⟩ ?_ ?_⟩
     · rintro j σ H7 hj ⟨ks,v5,rfl,h7L,kpos,ksum,klen,kge,kgt,D7,kb7⟩;refine ⟨_,rfl,.inl ⟨rfl,_,j7.of h7L⟩,_,rfl,_,rfl,_,rfl,L,ks,rfl,j7.of h7L,_,_,rfl,rfl,_,_,rfl,L,_,_,rfl,rfl,h7L,C4 (by rw[dt3];omega),?_⟩;obtain ⟨ad,had⟩:∃ad:Int,ad=(if (s:Int) - ks.sum < 1+x2 then (s:Int) - ks.sum else 1+x2):=⟨_,rfl⟩
       have adb:0<=ad/\ks.sum+ad<=(s:Int)/\(ks.sum < (s:Int)->1<=ad):=by
         by_cases z:(s:Int) - ks.sum < 1+x2
         · rw[if_pos z] at had;omega
         · rw[if_neg z] at had;omega
       refine ⟨ks++[ad],_,rfl,by rw[j6,had,du6];rfl,fun x hx=> ?_,by rw[ef3,ef4];omega,by rw[dt4,dy4];omega,by rw[ef3,ef4];omega,fun _=>by rw[ef3,ef4];omega,D7.upd nLg.symm,kb7.upd_r hL⟩
       rcases du1.mp hx with y|y
       · exact kpos x y
       · rw[du4.mp y];exact adb.1
     · rintro σ H7 ⟨ks,v5,rfl,h7L,kpos,ksum,klen,kge,kgt,D7,kb7⟩;have kgt:=kgt (by omega);exact ⟨_,by omega,ks,_,_,rfl,h7L,kpos,ksum,by omega,D7,kb7,rfl⟩
   · have hge:¬ls.sum < (s:Int):=fun z=>hge (decide_eq_true z)
     have hsum:ls.sum=(s:Int):=by omega
     have l123:ls.length<=123:=by omega
     refine ⟨_,rfl,_,rfl,fun r hr'=> ?_⟩;obtain ⟨H4,e4⟩:∃Hn,Hn=i8 H3 r (.rng 0 (s:Int)):=⟨_,rfl⟩;have s4:i6 H3 H4:=e4▸i6.upd_new hr'
     have h4r:H4 r=some (.rng 0 (s:Int)):=by rw[e4,j6]
     rw[<-e4];refine ⟨r,0,(s:Int),rfl,h4r,⟨by decide,by decide,by omega,by omega⟩,by omega,fun lf hlf=> ?_⟩
     have e0:((s:Int) - 0).toNat=s:=by omega
     rw[e0];obtain ⟨H5,e5⟩:∃Hn,Hn=i8 H4 lf (.lst ((M0 0 s).map V.int)):=⟨_,rfl⟩;have s5:i6 H4 H5:=e5▸i6.upd_new hlf
     have h5f:H5 lf=some (.lst ((M0 0 s).map V.int)):=by rw[e5,j6]
     rw[<-e5];refine ⟨(show 1<=sizeLine by decide),fun z hz=> ?_⟩;obtain ⟨H6,e6⟩:∃Hn,Hn=i8 H5 z (.lst [V.int 0]):=⟨_,rfl⟩;have s6:i6 H5 H6:=e6▸i6.upd_new hz
     have h6z:H6 z=some (.lst [V.int 0]):=by rw[e6,j6]
     rw[<-e6];refine ⟨_,rfl,z,(s:Int),_,rfl,rfl,h6z,by omega,by omega,dz6 (C4 (by simp;omega)),fun fo hfo=> ?_⟩
     have erep:(dw2 (s:Int).toNat [V.int 0]).flatten=(dw2 s (0:Int)).map V.int:=by
       rw[dy7,ed4,List.map_replicate]
     rw[erep];obtain ⟨H7,e7⟩:∃Hn,Hn=i8 H6 fo (.lst ((dw2 s (0:Int)).map V.int)):=⟨_,rfl⟩;have s7:i6 H6 H7:=e7▸i6.upd_new hfo
     have h7o:H7 fo=some (.lst ((dw2 s (0:Int)).map V.int)):=by rw[e7,j6]
     rw[<-e7];have s37:i6 H3 H7:=(s4.trans s5).trans (s6.trans s7);have D7:=D3.same s37;have nfg:lf≠g:=(D3.same s4).ne hlf;have nog:fo≠g:=((D3.same s4).same (s5.trans s6)).ne hfo
     have nof:fo≠lf:=fun z=>by rw[z,s6 _ _ h5f] at hfo;cases hfo
     have nLf:L≠lf:=j9 (s4 _ _ h3L) hlf;have nLo:L≠fo:=j9 ((s4.trans (s5.trans s6)) _ _ h3L) hfo;have hlf0:H lf=none:=kb3.free (s4.free hlf) nfg;have hfo0:H fo=none:=kb3.free ((s4.trans (s5.trans s6)).free hfo) nog;have kb7:r9 g H H7:=kb3.trans (s37.but g);clear e4 e5 e6 e7
     refine ⟨_,rfl,L,rfl,⟨_,j7.of (s37 _ _ h3L)⟩,N0 (K:=K) (a:=L) (xs:=ls.map V.int) (fun i σ Hx=>∃(us fs qs ms:List Int) (v4 v8 v9:Option V),σ=[some (.ref g),some (.int (n:Int)),some (.ref L),some (.int (s:Int)),v4,v5,some (.ref lf),some (.ref fo),v8,v9]/\Hx lf=some (.lst (ms.map V.int))/\Hx fo=some (.lst (fs.map V.int))/\Hx L=some (.lst (ls.map V.int))/\(us++ms).Perm (M0 0 s)/\(us.length:Int)=(ls.take i).sum/\fs.length=s/\qs.Perm us/\us.map (G5 fs)=qs.map some/\A8 Hx g/\r9 g H Hx)
       ⟨[],_,[],_,_,none,none,rfl,(s6.trans s7) _ _ h5f,h7o,s37 _ _ h3L,List.Perm.refl _,rfl,ea7,List.Perm.refl _,rfl,D7,kb7⟩ (fun i σ Hx _ zz=>by obtain ⟨_,_,_,_,_,_,_,_,_,_,h,_⟩:=zz;exact j7.of h) ?_ ?_⟩
     · rintro i x σ H8 hi ⟨us,fs,qs,ms,v4',v8,v9,rfl,h8f,h8o,h8L,pm,ul,fl,qp,qm,D8,kb8⟩;obtain ⟨len,hlen,rfl⟩:=Q5 hi;have len0:0<=len:=lpos len (du8 hlen)
       have tsum:(ls.take (i+1)).sum=(ls.take i).sum+len:=by rw[w5 hlen,ef3,ef4]
       have tle:(ls.take (i+1)).sum<=ls.sum:=by
         have e:ls.sum=(ls.take (i+1)).sum+(ls.drop (i+1)).sum:=by rw[<-ef3,dz5]
         have:0<=(ls.drop (i+1)).sum:=be7 fun y hy=>lpos y (dy9 hy)
         omega
       obtain ⟨ln,rfl⟩:=dw4 len0
       have ums:us.length+ms.length=s:=by
         have:=pm.length_eq;rw[dt4,L8] at this;exact this
       have hln:((ln:Nat):Int).toNat=ln:=by omega
       refine ⟨_,rfl,(ln:Int),rfl,by omega,by omega,bd5 (lo:=0) (n:=((ln:Nat):Int).toNat) (fun j ys σ H9=>∃(v:Option V) (os ms':List Int),σ=[v,some (.ref lf),some (.ref g)]/\ys=os.map V.int/\os.length=j/\H9 lf=some (.lst (ms'.map V.int))/\(us++os++ms').Perm (M0 0 s)/\A8 H9 g/\∀b o,H8 b=some o->b≠g->b≠lf->H9 b=some o)
         ⟨none,[],ms,rfl,rfl,rfl,h8f,by rw[dw7];exact pm,D8,fun b o h _ _=>h⟩ ?_ ?_⟩
       · rintro j ys σ H9 hj ⟨v,os,ms',rfl,rfl,lo,h9f,pm9,D9,kp9⟩
         have lms:us.length+os.length+ms'.length=s:=by
           have:=pm9.length_eq;rw[dt4,dt4,L8] at this;exact this
         have em:(ms'.map V.int).length=ms'.length:=dt3 ..;refine ⟨_,rfl,.inl ⟨rfl,_,j7.of h9f⟩,_,rfl,_,rfl,lf,_,rfl,.inl (j7.of h9f),g,_,rfl,D9,(by rw[em];omega),fun x H10 x0 x1 D10 kb10=> ?_⟩;rw[em] at x1;obtain ⟨jn,rfl⟩:=dw4 x0
         have hjl:jn < ms'.length:=by omega
         have h10f:=kb10 _ _ h9f nfg;refine ⟨lf,_,_,jn,.int ms'[jn],rfl,rfl,h10f,by omega,by omega,?_,by rw[du7,dt5 hjl];rfl,C4 (by rw[dt3];omega),?_⟩
         · have:U9 (ms'.map V.int).length (jn:Int)=some jn:=by
             unfold U9;rw[em,if_pos (by omega),if_pos (by omega)];simp
           exact (ax1 this).1
         · refine ⟨_,os++[ms'[jn]],ms'.eraseIdx jn,rfl,by rw[du6];rfl,by rw[dt4,lo];rfl,by rw[j6,bl5],?_,D10.upd nfg.symm,fun b o hb h1 h2=>by rw[j8 h2];exact kb10 b o (kp9 b o hb h1 h2) h1⟩;have pe:=bd7 (l:=ms') (k:=jn) (dt5 hjl);refine List.Perm.trans ?_ pm9;rw[dv0,dv0,dv0];refine List.Perm.append_left us (List.Perm.append_left os pe)
       · rintro ys σ H9 ⟨v,os,ms',rfl,rfl,lo,h9f,pm9,D9,kp9⟩ oa hoa;rw[hln] at lo;obtain ⟨H10,e10⟩:∃Hn,Hn=i8 H9 oa (.lst (os.map V.int)):=⟨_,rfl⟩;have s10:i6 H9 H10:=e10▸i6.upd_new hoa
         have h10a:H10 oa=some (.lst (os.map V.int)):=by rw[e10,j6]
         rw[<-e10];have h9o:=kp9 _ _ h8o nog nof;have h9L:=kp9 _ _ h8L nLg nLf;have noag:oa≠g:=D9.ne hoa;have noaf:oa≠lf:=(j9 h9f hoa).symm;have noao:oa≠fo:=(j9 h9o hoa).symm
         have kb9:r9 g H H9:=fun b o hb h1=>kp9 b o (kb8 b o hb h1) h1 (fun z=>by rw[z,hlf0] at hb;cases hb)
         have hoa0:H oa=none:=kb9.free hoa noag;have nd9:(us++os).Nodup:=(dz7.mp (pm9.nodup_iff.mpr (O6 s))).1
         have bd9:∀x∈us++os,0<=x/\x < (s:Int):=fun x hx=>by
           have:=M2.mp (pm9.mem_iff.mp (dw8 ms' hx));omega
         have gd:∀u,(us++os).getD (us.length+u) 0=os.getD u 0:=fun u=>by
           rw[dv6,dv6,dw5 (by omega)]
           congr 2;omega
         refine ⟨_,rfl,(ln:Int),rfl,by omega,by omega,S4 (lo:=0) (n:=((ln:Nat):Int).toNat) (fun j σ H11=>∃(fs':List Int) (v9:Option V),σ=[some (.ref g),some (.int (n:Int)),some (.ref L),some (.int (s:Int)),some (.int (ln:Int)),v5,some (.ref lf),some (.ref fo),some (.ref oa),v9]/\H11 lf=some (.lst (ms'.map V.int))/\H11 fo=some (.lst (fs'.map V.int))/\H11 L=some (.lst (ls.map V.int))/\H11 oa=some (.lst (os.map V.int))/\fs'.length=s/\us.map (G5 fs')=qs.map some/\(∀w,w < j->G5 fs' (os.getD ((w+ln - 1)%ln) 0)=some (os.getD w 0))/\A8 H11 g/\r9 g H H11)
           ⟨fs,_,rfl,s10 _ _ h9f,s10 _ _ h9o,s10 _ _ h9L,h10a,fl,qm,(fun w hw=>by omega),D9.same s10,kb9.trans (s10.but g)⟩ ?_ ?_⟩
         · rintro j σ H11 hj ⟨fs',v9,rfl,h11f,h11o,h11L,h11a,fl',qm',st',D11,kb11⟩
           have hjl:j < ln:=by omega
           have hpl:(j+ln - 1)%ln < ln:=ec4 _ (by omega);refine ⟨_,rfl,_,rfl,oa,_,_,_,rfl,rfl,j7.of h11a,ag9 (by omega),?_⟩
           have hat:Y0 (os.map V.int) ((0:Int)+(j:Int) - 1)=some (.int (os.getD ((j+ln - 1)%ln) 0)):=by
             have eo:(os.map V.int).length=ln:=by rw[dt3];exact lo
             have key:U9 (os.map V.int).length ((0:Int)+(j:Int) - 1)=some ((j+ln - 1)%ln):=by
               unfold U9;rw[eo]
               by_cases z:j=0
               · rw[if_neg (by omega),if_pos (by omega)]
                 have:(j+ln - 1)%ln=ln - 1:=by rw[z,ea0];exact dw0 (by omega)
                 rw[this];congr 1;omega
               · rw[if_pos (by omega),if_pos (by omega)]
                 have:(j+ln - 1)%ln=j - 1:=by
                   rw[show j+ln - 1=(j - 1)+ln by omega,dz8];exact dw0 (by omega)
                 rw[this];congr 1;omega
             unfold Y0;rw[key];show (os.map V.int)[(j+ln - 1)%ln]? =_;rw[du7,dt5 (by omega),G9 (by omega)];rfl
           refine ⟨_,rfl,_,rfl,_,rfl,_,_,rfl,rfl,oa,_,_,_,rfl,rfl,j7.of h11a,hat,?_⟩;have hv:os.getD ((j+ln - 1)%ln) 0∈us++os:=du0 us (by rw[G9 (by omega)];exact dx8 _);have hvb:=bd9 _ hv;refine ⟨fo,_,_,(os.getD ((j+ln - 1)%ln) 0).toNat,rfl,rfl,h11o,?_,?_⟩
           · unfold U9;rw[dt3,fl',if_pos hvb.1,if_pos hvb.2]
           rw[<-eb6];refine ⟨_,_,rfl,by rw[j8 nof.symm];exact h11f,j6,by rw[j8 nLo];exact h11L,by rw[j8 noao];exact h11a,by rw[dx3];exact fl',?_,?_,D11.upd nog.symm,kb11.upd_r hfo0⟩
           · rw[<-qm']
             refine ea4 fun u hu=> ?_
             have hub:=bd9 u (dw8 os hu)
             refine am1 hub.1 hvb.1 fun z=> ?_
             have:=(dz7.mp nd9).2.2 u hu (os.getD ((j+ln - 1)%ln) 0) (by rw[G9 (by omega)];exact dx8 _);exact this z
           · intro w hw
             by_cases hwj:w=j
             · subst hwj;exact ba6 (by omega)
             · have hwj':w < j:=by omega
               have hwl:(w+ln - 1)%ln < ln:=ec4 _ (by omega)
               have ne:(w+ln - 1)%ln≠(j+ln - 1)%ln:=by
                 by_cases z:w=0
                 · rw[z,ea0,dw0 (show ln - 1 < ln by omega),show j+ln - 1=(j - 1)+ln by omega,dz8,dw0 (by omega)];omega
                 · rw[show w+ln - 1=(w - 1)+ln by omega,show j+ln - 1=(j - 1)+ln by omega,dz8,dz8,dw0 (by omega),dw0 (by omega)];omega
               have hw0:=bd9 (os.getD ((w+ln - 1)%ln) 0) (du0 us (by rw[G9 (by omega)];exact dx8 _));rw[am1 hw0.1 hvb.1 (Z5 (dz7.mp nd9).2.1 (by omega) (by omega) ne)];exact st' w hwj'
         · rintro σ H11 ⟨fs',v9,rfl,h11f,h11o,h11L,h11a,fl',qm',st',D11,kb11⟩;rw[hln] at st'
           have done:∃qs':List Int,qs'.Perm (us++os)/\(us++os).map (G5 fs')=qs'.map some:=by
             by_cases z:ln=0
             · have:os=[]:=ee2.mp (by omega);subst this;exact ⟨qs,by rw[dw7];exact qp,by rw[dw7];exact qm'⟩
             · have tk:(us++os).take us.length=us:=ej4;have tk2:(us++os).take (us.length+ln)=us++os:=ea2 (by rw[dt4];omega)
               obtain ⟨qs',a1,a2⟩:=ct6 (ts:=us++os) (fs:=fs') (qs:=qs) (k:=us.length) (L:=ln) (by omega) (by rw[dt4];omega) (by rw[tk];exact qm') (by rw[tk];exact qp) (fun u hu=>by
                 rw[gd,gd];have hm:(u+1)%ln < ln:=ec4 _ (by omega);have:=st' ((u+1)%ln) hm
                 have e:((u+1)%ln+ln - 1)%ln=u:=by
                   by_cases y:u+1=ln
                   · rw[y,eh1,ea0,dw0 (by omega)];omega
                   · rw[dw0 (show u+1 < ln by omega),show u+1+ln - 1=u+ln by omega,dz8,dw0 hu]
                 rw[e] at this
                 exact this)
               rw[tk2] at a1 a2;exact ⟨qs',a1,a2⟩
           obtain ⟨qs',qp',qm2⟩:=done;exact ⟨us++os,fs',qs',ms',_,_,_,rfl,h11f,h11o,h11L,pm9,by rw[dt4,tsum];omega,fl',qp',qm2,D11,kb11⟩
     · rintro σ H8 ⟨us,fs,qs,ms,v4',v8,v9,rfl,h8f,h8o,h8L,pm,ul,fl,qp,qm,D8,kb8⟩;rw[dt3,dx2,hsum] at ul;have ums:=pm.length_eq;rw[dt4,L8] at ums;have:ms=[]:=ee2.mp (by omega);subst this;rw[dw7] at pm;obtain ⟨hU,hUl⟩:=ab9 pm;have pf:=(cf1 hU (by omega) qm).trans (qp.trans pm);obtain ⟨hF,hFl⟩:=ab9 pf;exact ⟨_,rfl,q fo fs H8 hfo0 hF (by omega) h8o D8 kb8⟩
def Q6 (n:Nat)(xs:List Int):List V:=(eb8 n).map fun (k:Nat)=>V.bl (decide ((k:Int)∈xs))
theorem cw1 (n:Nat):dw2 n (V.bl false)=Q6 n []:=by
 unfold Q6
 refine List.ext_getElem (by simp) fun i h1 h2=> ?_
 simp
theorem cw2 {n:Nat}{xs:List Int}:(Q6 n xs).length=n:=by unfold Q6;simp
theorem cc6 {n:Nat}{xs:List Int}{x:Int}(h0:0<=x)(h1:x < n):U9 (Q6 n xs).length x=some x.toNat:=by
 unfold U9;rw[cw2,if_pos h0,if_pos h1]
theorem cc7 {n:Nat}{xs:List Int}{x:Int}(h0:0<=x)(h1:x < n):Y0 (Q6 n xs) x=some (.bl (decide (x∈xs))):=by
 unfold Y0;rw[cc6 h0 h1];show (Q6 n xs)[x.toNat]? =_;unfold Q6;rw[du7,eh2 (by omega)];show some (V.bl (decide (((x.toNat:Nat):Int)∈xs)))=_;rw[Int.toNat_of_nonneg h0]
theorem cw3 {n:Nat}{xs:List Int}{x:Int}(h0:0<=x):(Q6 n xs).set x.toNat (.bl true)=Q6 n (xs++[x]):=by
 unfold Q6
 refine List.ext_getElem (by simp) fun i h1 h2=> ?_
 rw[List.getElem_set];simp only[List.getElem_map,List.getElem_range,du1,du4]
 by_cases z:x.toNat=i
 · rw[if_pos z,decide_eq_true (Or.inr (by omega))]
 · rw[if_neg z]
   congr 1
   exact decide_eq_decide.mpr ⟨Or.inl,fun h=>h.elim id fun e=>absurd (by omega) z⟩
def bp1 (H:Hp)(a:Addr)(p:List Int):Prop:=H a=some (.lst (p.map V.int))/\G2 p/\p.length<=41
def ax8:Sp:=fun vs H Q _=>∃(a:Addr) (p:List Int),vs=[.ref a]/\bp1 H a p/\
 ∀(l:Addr) (as:List Addr) (rs:List (List Int)) (H':Hp),H l=none->i6 H H'->H' l=some (.lst (as.map V.ref))->E2 H' as rs->E8 p p.length rs->(∀b∈as,H b=none)->as.Nodup->l∉as->Q (.ref l) H'
theorem Q0:y7 ["p","found","met","thing","one"] ["p"] (o7 ai2):=by rfl'
theorem bn4 {f:Addr}{fd:FuncData}(F:E6 K "_law_rounds" "_law_rounds" ai2 f fd)(B:Bl mg):w6 P w K mg base J8 1 f fd ["p"] ax8:=by
 refine F.ok Q0 (fun vs H Q E h=> ?_) (fun cdv A outer s H vs Q E hr h=> ?_)
 · obtain ⟨a,p,rfl,⟨ha,tp,lp⟩,q⟩:=h;rfl
 · obtain ⟨a,p,rfl,⟨ha,tp,lp⟩,q⟩:=h;have hu:=ae5 hr;refine ⟨_,@i5 _ _ _ _ _ (@m9 _ _ (1) _ _ _ _ Q0.nd rfl (Or.inl rfl) (@w4 _ _ _ _ (@i4 _)) (by rfl) (by trivial)) (@i5 _ _ _ _ _ (@m9 _ _ (2) _ _ _ _ Q0.nd rfl (Or.inl rfl) (@k7 _ _ _ _ _ _ _ _ bd1 (@w4 _ _ _ _ (@c9 _ _ _ _ _ (@G1 _ _ _ _) (@i4 _) (by rfl))) (@A6 _ _ _ _ _ B.len (@c9 _ _ _ _ _ (pv 0) (@i4 _) (by rfl)) (by rfl) (by rfl))) (by rfl) (by trivial)) (@i5 _ _ _ _ _ (@I0 _ _ _ _ _ _ _ _ PassesOwn.never rfl (@N6 _ _ _ _ _ _ (by rfl) B.range (@c9 _ _ _ _ _ (@A6 _ _ _ _ _ B.len (@c9 _ _ _ _ _ (pv 0) (@i4 _) (by rfl)) (by rfl) (by rfl)) (@i4 _) (by rfl)) (by rfl)) (@y8 _ _ (3) _ Q0.nd rfl (Or.inl rfl) (by trivial)) (@i5 _ _ _ _ _ (@m9 _ _ (4) _ _ _ _ Q0.nd rfl (Or.inl rfl) (@w4 _ _ _ _ (@i4 _)) (by rfl) (by trivial)) (@i5 _ _ _ _ _ (@an8 _ _ _ _ _ _ PassesOwn.never (@J5 _ _ _ _ (@C6 _ _ _ (@B8 _ _ _ _ _ _ _ y9 (pv 2) (pv 3) (fun _ _=>rfl)) (by intro _;rfl))) (@i5 _ _ _ _ _ (@Q2 _ _ _ _ _ _ (@G1 _ _ _ _) (@T5 _ _ _ _ _ _ _ (pv 2) (pv 3) O2 (by intro _;rfl)) (by rfl) (by rfl) (by rfl)) (@i5 _ _ _ _ _ (@O0 _ _ _ _ (@S6 _ _ _ _ _ _ _ (pv 4) (@c9 _ _ _ _ _ (pv 3) (@i4 _) (by rfl)) (by rfl) (by rfl) (by rfl) (by rfl) (by rfl)) (by rfl)) (@i7 _ _ _ (@m9 _ _ (3) _ _ _ _ Q0.nd rfl (Or.inl rfl) (@B8 _ _ _ _ _ _ _ y9 (pv 0) (pv 3) (fun _ _=>rfl)) (by rfl) (by trivial)))))) (@i7 _ _ _ (@w9 _ _ _ _ _ _ _ _ (@m8 _ _ _ _ _ _ _ _ (bd6 0 hu) (pv 4) (@w4 _ _ _ _ (@i4 _)) (o4 _)) (@i7 _ _ _ (@O0 _ _ _ _ (@S6 _ _ _ _ _ _ _ (pv 1) (@c9 _ _ _ _ _ (pv 4) (@i4 _) (by rfl)) (by rfl) (by rfl) (by rfl) (by rfl) (by rfl)) (by rfl))) (@o9 _))))) (by intro _;rfl)) (@i7 _ _ _ (@o5 _ _ _ _ (pv 1))))),?_⟩;refine ⟨dv5 _,fun l hl=> ?_⟩;obtain ⟨H1,e1⟩:∃Hn,Hn=i8 H l (.lst []):=⟨_,rfl⟩;have s1:i6 H H1:=e1▸i6.upd_new hl
   have h1l:H1 l=some (.lst []):=by rw[e1,j6]
   rw[<-e1];refine ⟨(show 1<=sizeLine by decide),fun z hz=> ?_⟩;obtain ⟨H2,e2⟩:∃Hn,Hn=i8 H1 z (.lst [V.bl false]):=⟨_,rfl⟩;have s2:i6 H1 H2:=e2▸i6.upd_new hz
   have h2z:H2 z=some (.lst [V.bl false]):=by rw[e2,j6]
   rw[<-e2];refine ⟨_,rfl,a,_,rfl,.inl (j7.of ((s1.trans s2) _ _ ha)),z,_,_,rfl,rfl,h2z,by rw[dt3];omega,by rw[dt3];omega,dz6 (C4 (by simp;omega)),fun d hd=> ?_⟩
   have erep:(dw2 (((p.map V.int).length:Nat):Int).toNat [V.bl false]).flatten=Q6 p.length []:=by
     rw[dy7,ed4,dt3];exact cw1 p.length
   rw[erep];obtain ⟨H3,e3⟩:∃Hn,Hn=i8 H2 d (.lst (Q6 p.length [])):=⟨_,rfl⟩;have s3:i6 H2 H3:=e3▸i6.upd_new hd
   have h3d:H3 d=some (.lst (Q6 p.length [])):=by rw[e3,j6]
   rw[<-e3];have s03:i6 H H3:=s1.trans (s2.trans s3);have hd0:H d=none:=(s1.trans s2).free hd;have nld:l≠d:=j9 (s2 _ _ h1l) hd;have nad:a≠d:=j9 ha hd0;refine ⟨_,rfl,a,_,rfl,.inl (j7.of (s03 a _ ha)),(p.length:Int),by rw[dt3],by omega,by omega,?_⟩;rw[show ((p.length:Int)).toNat=p.length by omega]
   refine S4 (lo:=0) (n:=p.length) (fun i σ H3=>∃(as:List Addr) (rs:List (List Int)) (v3 v4:Option V),σ=[some (.ref a),some (.ref l),some (.ref d),v3,v4]/\H3 l=some (.lst (as.map V.ref))/\H3 d=some (.lst (Q6 p.length rs.flatten))/\E2 H3 as rs/\E8 p i rs/\i6 H H3/\(∀b∈as,H b=none)/\as.Nodup/\l∉as/\d∉as)
     ⟨[],[],none,none,rfl,(s2.trans s3) _ _ h1l,h3d,⟨rfl,fun j b r h=>by simp at h⟩,ao9 p,s03,(fun b hb=>by cases hb),ed5,by simp,by simp⟩ ?_ ?_
   · rintro i σ H3 hi ⟨as,rs,v3,v4,rfl,h3l,h3d,rows,up,s3,fa,nda,nla,nda2⟩;have hx:In p (i:Int):=⟨by omega,by omega⟩
     have e0:(0:Int)+(i:Int)=(i:Int):=by omega
     rw[e0];refine ⟨dv5 _,fun e he=> ?_⟩;have nle:l≠e:=j9 h3l he;have nde:d≠e:=j9 h3d he;have he0:H e=none:=s3.free he;obtain ⟨H4,e4⟩:∃Hn,Hn=i8 H3 e (.lst []):=⟨_,rfl⟩;have s4:i6 H3 H4:=e4▸i6.upd_new he
     have h4e:H4 e=some (.lst ((A1 p i 0).map V.int)):=by rw[e4,j6];rfl
     rw[<-e4]
     by_cases hm:(i:Int)∈rs.flatten
     · refine ⟨fun mm σ H5=>mm=0/\σ=[some (.ref a),some (.ref l),some (.ref d),some (.int (i:Int)),some (.ref e)]/\H5=H4,⟨0,rfl,rfl,rfl⟩,?_⟩;rintro mm σ H5 ⟨rfl,rfl,rfl⟩;refine ⟨_,rfl,_,rfl,d,_,_,_,rfl,rfl,j7.of (s4 _ _ h3d),cc7 hx.1 hx.2,_,rfl,?_⟩;rw[decide_eq_true hm];refine B9 ⟨_,rfl,dv5 _,fun w hw=> ?_⟩;have s5:i6 H5 (i8 H5 w (.lst [])):=i6.upd_new hw;have h5w:(i8 H5 w (.lst [])) w=some (.lst []):=j6;generalize (i8 H5 w (.lst []))=H6 at s5 h5w ⊢;refine ⟨e,w,_,_,_,rfl,rfl,j7.of (s5 _ _ h4e),j7.of h5w,aa5 _ _ _ _,_,rfl,?_⟩;have s36:=s4.trans s5;refine B9 ?_;exact ⟨as,rs,_,_,rfl,s36 _ _ h3l,s36 _ _ h3d,M5 rows fun b hb o ho=>s36 _ _ ho,ap0 up hm,s3.trans s36,fa,nda,nla,nda2⟩
     · obtain ⟨L,pr⟩:=br6 tp hx;have fr:=ak6 up pr hm;have fl:=co8 tp up;have cl:=aq3 up;have lenas:=rows.1
       have lL:=ae7 tp hx (m:=L) fun j j0 j1=>pr.least j j0 j1
       refine ⟨fun mm σ H5=>∃j:Nat,j<=L/\σ=[some (.ref a),some (.ref l),some (.ref d),some (.int (it p j i)),some (.ref e)]/\H5 e=some (.lst ((A1 p i j).map V.int))/\H5 d=some (.lst (Q6 p.length (rs.flatten++A1 p i j)))/\(∀b o,H3 b=some o->b≠d->H5 b=some o)/\mm=L - j,
         ⟨L,0,dv5 _,rfl,h4e,by rw[s4 _ _ h3d];unfold A1;rw[List.range_zero,ef6,dw7],fun b o h _=>s4 b o h,rfl⟩,?_⟩
       rintro mm σ H5 ⟨j,jL,rfl,h5e,h5d,k5,rfl⟩;have hin:=ae6 tp hx j;refine ⟨_,rfl,_,rfl,d,_,_,_,rfl,rfl,j7.of h5d,cc7 hin.1 hin.2,_,rfl,?_⟩
       by_cases hj:j=L
       · subst hj;rw[decide_eq_true (show it p j i∈rs.flatten++A1 p i j by rw[pr.back];exact du0 _ (O7.mpr ⟨0,pr.pos,rfl⟩))];refine B9 ⟨_,rfl,dv5 _,fun w hw=> ?_⟩;have s5:i6 H5 (i8 H5 w (.lst [])):=i6.upd_new hw;have h5w:(i8 H5 w (.lst [])) w=some (.lst []):=j6;generalize (i8 H5 w (.lst []))=H6 at s5 h5w ⊢;refine ⟨e,w,_,_,_,rfl,rfl,j7.of (s5 _ _ h5e),j7.of h5w,aa5 _ _ _ _,_,rfl,?_⟩
         have ne0:((A1 p i j).map V.int).isEmpty=false:=by
           rw[ef1];intro z;have:=congrArg dz3 z;rw[dt3,C8] at this;have:=pr.pos;simp at*;omega
         rw[ne0];refine A5 ?_;have h6l:=s5 _ _ (k5 l _ h3l nld);refine ⟨_,rfl,.inl ⟨rfl,_,j7.of h6l⟩,_,rfl,l,_,_,rfl,rfl,h6l,C4 (by rw[dt3,lenas];omega),?_⟩
         have es:as.map V.ref++[V.ref e]=(as++[e]).map V.ref:=by rw[du6];rfl
         rw[es]
         have nad:∀b∈as,b≠d/\b≠l:=fun b hb=>⟨fun z=>nda2 (z▸hb),fun z=>nla (z▸hb)⟩
         refine ⟨as++[e],rs++[A1 p i j],_,_,rfl,j6,?_,?_,ap1 tp up hx pr hm,?_,?_,?_,?_,?_⟩
         · rw[j8 nld.symm,s5 _ _ h5d,dx6,dy1]
         · refine ak2 (M5 rows fun b hb o ho=> ?_) ?_
           · rw[j8 (nad b hb).2];exact s5 _ _ (k5 b o ho (nad b hb).1)
           · rw[j8 nle.symm];exact s5 _ _ h5e
         · intro b o hb;rw[j8 (j9 hb hl)];exact s5 _ _ (k5 b o (s3 b o hb) (j9 hb hd0))
         · intro b hb
           rcases du1.mp hb with g|g
           · exact fa b g
           · rw[du4.mp g];exact he0
         · refine am0 nda fun g=> ?_
           obtain ⟨r,hr'⟩:=bb5 rows g;rw[he] at hr';cases hr'
         · intro g
           rcases du1.mp g with g|g
           · exact nla g
           · exact nle (du4.mp g)
         · intro g
           rcases du1.mp g with g|g
           · exact nda2 g
           · exact nde (du4.mp g)
       · have hjL:j < L:=by omega
         have nm:it p j i∉rs.flatten++A1 p i j:=fun g=>by
           rcases du1.mp g with g|g
           · exact fr _ (O7.mpr ⟨j,hjL,rfl⟩) g
           · obtain ⟨b,hb,e1⟩:=O7.mp g
             have e2:j=(j - b)+b:=by omega
             rw[e2,Z6] at e1;have:=br4 tp (ae6 tp hx (j - b)) hx b (by rw[<-Z6,ei5,Z6];exact e1);exact pr.least (j - b) (by omega) (by omega) this
         rw[decide_eq_false nm];refine A5 ⟨fun σ' H'=>∃m',m' < L - j/\_,fun _ _ h=>h,?_⟩;refine ⟨_,rfl,_,rfl,d,_,_,(it p j i).toNat,rfl,rfl,h5d,cc6 hin.1 hin.2,?_⟩;rw[cw3 hin.1]
         have h6d:(i8 H5 d (.lst (Q6 p.length (rs.flatten++A1 p i j++[it p j i])))) d=some (.lst (Q6 p.length (rs.flatten++A1 p i (j+1)))):=by rw[j6,ao6,dv0]
         have h6e:(i8 H5 d (.lst (Q6 p.length (rs.flatten++A1 p i j++[it p j i])))) e=some (.lst ((A1 p i j).map V.int)):=by rw[j8 nde.symm];exact h5e
         have k6:∀b o,H3 b=some o->b≠d->(i8 H5 d (.lst (Q6 p.length (rs.flatten++A1 p i j++[it p j i])))) b=some o:=fun b o hb hn=>by rw[j8 hn];exact k5 b o hb hn
         generalize (i8 H5 d (.lst (Q6 p.length (rs.flatten++A1 p i j++[it p j i]))))=H6 at h6d h6e k6 ⊢;refine ⟨_,rfl,.inl ⟨rfl,_,j7.of h6e⟩,_,rfl,e,_,_,rfl,rfl,h6e,C4 (by rw[dt3,C8];omega),?_⟩;have nae:a≠e:=j9 (s3 a _ ha) he;refine ⟨_,rfl,_,rfl,a,_,_,_,rfl,rfl,j7.of (by rw[j8 nae];exact k6 a _ (s3 a _ ha) nad),af7 hin.1 hin.2,?_⟩
         have h7e:(i8 H6 e (.lst ((A1 p i j).map V.int++[.int (it p j i)]))) e=some (.lst ((A1 p i (j+1)).map V.int)):=by
           rw[j6,ao6,du6];rfl
         exact ⟨L - (j+1),by omega,j+1,by omega,rfl,h7e,by rw[j8 nde];exact h6d,fun b o hb hn=>by rw[j8 (j9 hb he)];exact k6 b o hb hn,rfl⟩
   · rintro σ H3 ⟨as,rs,v3,v4,rfl,h3l,h3d,rows,up,s3,fa,nda,nla,nda2⟩;exact ⟨_,rfl,q l as rs H3 hl s3 h3l rows up fa nda nla⟩
end
end My
namespace My
open PySem L2 Mth
section
variable {P:Program} {w:World} {K:PySem.W.Frag} {mg:Str->Option Value} {base:Heap}
def B0 (i:Int):Str:=Str.ofString (toString i)
theorem dc8:∀k,k < 40->(B0 (k:Nat)).cps.toList.length<=2/\1<=(B0 (k:Nat)).cps.toList.length/\32∉(B0 (k:Nat)).cps.toList/\40∉(B0 (k:Nat)).cps.toList/\41∉(B0 (k:Nat)).cps.toList:=by decide+kernel
theorem cw4:∀j,j < 40->∀k,k < 40->B0 (j:Nat)=B0 (k:Nat)->j=k:=by decide+kernel
theorem ai5 {i:Int}(h0:0<=i)(h1:i < 40):(B0 i).cps.toList.length<=2/\1<=(B0 i).cps.toList.length/\32∉(B0 i).cps.toList/\40∉(B0 i).cps.toList/\41∉(B0 i).cps.toList:=by
 obtain ⟨k,rfl⟩:=dw4 h0;exact dc8 k (by omega)
theorem dc9 {i j:Int}(h0:0<=i)(h1:i < 40)(g0:0<=j)(g1:j < 40)(h:B0 i=B0 j):i=j:=by
 obtain ⟨k,rfl⟩:=dw4 h0;obtain ⟨m,rfl⟩:=dw4 g0;have:=cw4 k (by omega) m (by omega) h;omega
theorem cz5 {k:Nat}(hk:200<=k){i:Int}(h0:0<=i)(h1:i < 40):i.natAbs.log2 < k:=by
 by_cases z:i.natAbs=0
 · rw[z,Nat.log2_zero];omega
 · refine (ej3 z).mpr (dv9 (m:=2^6) (by omega) (Nat.pow_le_pow_right (by decide) (by omega)))
def A2 (r:List Int):Str:=Txt.join " " (r.map B0)
theorem ac7 {sep:Str}{ts:List Str}{B:Nat}(hB:∀y∈ts,y.length<=B)(h:ts.length*B+ts.length*sep.length<=16777216):JoinOk sep ts=true:=by
 unfold JoinOk;rw[StrLaws.joinFits hB h];rfl
theorem bu8 {sep:Str}{c:Nat}(hs:c∉sep.cps.toList):∀{ts:List Str},(∀t∈ts,c∉t.cps.toList)->c∉(Txt.join sep ts).cps.toList:=by
 intro ts h;show c∉(Builtin.Str.glued sep ts).cps.toList;rw[StrLaws.glued_eq_join,O3]
 induction ts with
 |nil=>exact fun z=>by cases z
 |cons t r ih=>
  cases r with
  |nil=>exact h t dt6
  |cons u r=>
   intro z;have z:c∈t.cps.toList++sep.cps.toList++Mth.ae8 sep.cps.toList ((u::r).map (·.cps.toList)):=z
   rcases du1.mp z with z|z
   · rcases du1.mp z with z|z
     · exact h t dt6 z
     · exact hs z
   · exact ih (fun y hy=>h y (dt8 _ hy)) z
theorem ai6 {r:List Int}{c:Nat}(hc:c=40\/c=41)(br:∀x∈r,0<=x/\x < 40):c∉(A2 r).cps.toList:=by
 refine bu8 (by rcases hc with rfl|rfl<;>decide+kernel) fun t ht=> ?_
 obtain ⟨i,hi,rfl⟩:=dv3.mp ht;have:=ai5 (br i hi).1 (br i hi).2
 rcases hc with rfl|rfl
 · exact this.2.2.2.1
 · exact this.2.2.2.2
theorem cp1 {r:List Int}(lr:r.length<=40)(br:∀x∈r,0<=x/\x < 40):(A2 r).length<=120:=by
 have h:=StrLaws.join_length_le " " (r.map B0)
 have e:(A2 r).length=(Str.join " " (r.map B0)).length:=by
   show (Builtin.Str.glued " " (r.map B0)).length=_;rw[StrLaws.glued_eq_join]
 have s:=StrLaws.sumLen_le (B:=2) (r.map B0) (fun y hy=>by obtain ⟨i,hi,rfl⟩:=dv3.mp hy;exact (ai5 (br i hi).1 (br i hi).2).1)
 have sl:(Str.ofString " ").length=1:=by decide+kernel
 rw[e];rw[dt3] at h s
 have h':(Str.join " " (r.map B0)).length<=((r.map B0).map (·.length)).sum+r.length*1:=by rw[<-sl];exact h
 omega
theorem cp2 {m:Str}:Txt.slice ("("++m++")") (some 1) (some (-1))=m:=by
 have l1:(Str.ofString "(").length=1:=by decide+kernel
 have l2:(Str.ofString ")").length=1:=by decide+kernel
 obtain ⟨y,hy⟩:∃y:Str,y=Str.ofString "("++m++Str.ofString ")":=⟨_,rfl⟩
 have ly:y.length=m.length+2:=by rw[hy,Str.length_append,Str.length_append,l1,l2];omega
 have eb:Builtin.Str.strSliceIndices (some 1) (some (-1)) 1 y.length=Builtin.Str.strSliceIndices (some ((1:Nat):Int)) (some ((m.length+1:Nat):Int)) 1 y.length:=by
   unfold Builtin.Str.strSliceIndices;rw[ly];simp only[show (-1:Int) < 0 by decide,if_true,show ¬(((m.length+1:Nat):Int) < 0) by omega,if_false]
   congr 1
   omega
 show Txt.slice (Str.ofString "("++m++Str.ofString ")") (some 1) (some (-1))=m;rw[<-hy];unfold Txt.slice;rw[eb,StrLaws.sliced_plain y (by omega) (by omega)]
 have nl:(Builtin.Str.strSliceIndices (some ((1:Nat):Int)) (some ((m.length+1:Nat):Int)) 1 y.length).length=m.length:=by
   rw[StrLaws.strSliceIndices_plain (by omega) (by omega),dt3,eb9];omega
 rw[if_neg (by rw[nl];simp;omega)];refine O9 ?_;show (y.cps.toList.drop 1).take (m.length+1 - 1)=m.cps.toList;rw[hy,W3,W3,show (Str.ofString "(").cps.toList=[40] by decide+kernel];show (List.drop 1 (40::(m.cps.toList++_))).take m.length=_;rw[List.drop_succ_cons,ef9];exact List.take_left' rfl
def ax9:Sp:=fun vs H Q _=>∃(a:Addr) (r:List Int),vs=[.ref a]/\H a=some (.lst (r.map V.int))/\r.length<=40/\(∀x∈r,0<=x/\x < 40)/\∀H',i6 H H'->Q (.str (A2 r)) H'
theorem bn5:y7 ["ring"] ["ring"] (o7 ah9):=by rfl'
theorem ar9:(["thing"]:List Str).Nodup:=by decide+kernel
theorem bn6 {f:Addr}{fd:FuncData}(F:E6 K "show_round" "show_round" ah9 f fd)(B:Bl mg):w6 P w K mg base J8 1 f fd ["ring"] ax9:=by
 refine F.ok bn5 (fun vs H Q E h=> ?_) (fun cdv A outer s H vs Q E hr h=> ?_)
 · obtain ⟨a,r,rfl,ha,lr,br,q⟩:=h;rfl
 · obtain ⟨a,r,rfl,ha,lr,br,q⟩:=h;refine ⟨_,@i7 _ _ _ (@o5 _ _ _ _ (@af9 _ _ _ _ _ _ _ (@o6 _ _ _ _) (@c9 _ _ _ _ _ (@U3 _ _ _ _ _ _ _ _ _ _ _ (["thing"]) (1) ([]) rfl .of (@E4 _ _ _ _ (pv 0)) (fun _ _ _ _ _=>@y8 _ _ (0) _ ar9 rfl (Or.inl rfl) (by trivial)) (fun _ _ _ _ _=>(@P0 _)) (fun _ _ _ _ _=>(@am5 _ _ _ _ _ B.str (@c9 _ _ _ _ _ (pv 0) (@i4 _) (by rfl)) (by rfl) (by rfl))) (by intro _;rfl)) (@i4 _) (by rfl)) (by rfl) (by rfl) (by rfl) (by rfl) (by rfl))),?_⟩;refine ⟨rfl,?_⟩;refine ⟨_,rfl,a,rfl,⟨_,j7.of ha⟩,Q4 (K:=K) (a:=a) (xs:=r.map V.int) (fun i ys σ H1=>∃v:Option V,σ=[v]/\H1=H/\ys=((r.take i).map B0).map V.str) ⟨none,rfl,rfl,rfl⟩ (fun i ys σ H1 _ zz=>by obtain ⟨_,_,e,_⟩:=zz;rw[e];exact j7.of ha) ?_ ?_⟩
   · rintro i x ys σ H1 hi ⟨v,rfl,rfl,rfl⟩;obtain ⟨z,hz,rfl⟩:=Q5 hi;have zb:=br z (du8 hz);refine ⟨_,rfl,z,rfl,cz5 (by decide) zb.1 zb.2,C4 (by simp only[dt3,du5];omega),_,rfl,rfl,?_⟩;rw[w5 hz,du6,du6];rfl
   · rintro ys σ H1 ⟨v,rfl,rfl,rfl⟩ D hD;rw[dt3,dx2];refine ⟨" ",D,r.map B0,rfl,rfl,j7.of j6,ac7 (B:=2) (fun y hy=> ?_) ?_,q _ (i6.upd_new hD)⟩
     · obtain ⟨i,hi,rfl⟩:=dv3.mp hy;exact (ai5 (br i hi).1 (br i hi).2).1
     · have sl:(Str.ofString " ").length=1:=by decide+kernel
       rw[dt3,sl];omega
noncomputable def U8 (p:List Int):Str:=Str.ofString "("++Txt.join (Str.ofString ")(") ((A0 p p.length).map A2)++Str.ofString ")"
theorem al3 {p:List Int}{rs:List (List Int)}(tp:G2 p)(lp:p.length<=40)(up:E8 p p.length rs):rs.length<=40/\∀r∈rs,r≠[]/\r.length<=40/\∀x∈r,0<=x/\x < 40:=by
 have fl:=W1 tp up
 have ll:rs.flatten.length=p.length:=by rw[fl.length_eq,L8]
 refine ⟨by have:=aq3 up;omega,fun r hr=>⟨fun z=> ?_,?_,fun x hx=> ?_⟩⟩
 · obtain ⟨y,L,_,pr,er,_⟩:=up.ring r hr;have:=pr.pos;rw[z] at er;have e2:=congrArg dz3 er;rw[C8] at e2;simp at e2;omega
 · have:=(ed0 hr).length_le;omega
 · have:=M2.mp (fl.mem_iff.mp (dx5.mpr ⟨r,hr,hx⟩));omega
theorem cp3 {rs:List (List Int)}(h:rs.length<=40)(hb:∀r∈rs,r≠[]/\r.length<=40/\∀x∈r,0<=x/\x < 40):JoinOk (Str.ofString ")(") (rs.map A2)=true/\(Txt.join (Str.ofString ")(") (rs.map A2)).length<=4880:=by
 have sl:(Str.ofString ")(").length=2:=by decide+kernel
 have hB:∀y∈rs.map A2,y.length<=120:=fun y hy=>by
   obtain ⟨r,hr,rfl⟩:=dv3.mp hy;exact cp1 (hb r hr).2.1 (hb r hr).2.2
 refine ⟨ac7 hB (by rw[dt3,sl];omega),?_⟩
 have e:(Txt.join (Str.ofString ")(") (rs.map A2)).length=(Str.join (Str.ofString ")(") (rs.map A2)).length:=by
   show (Builtin.Str.glued _ _).length=_;rw[StrLaws.glued_eq_join]
 have a:=StrLaws.join_length_le (Str.ofString ")(") (rs.map A2);have b:=StrLaws.sumLen_le (B:=120) (rs.map A2) hB;rw[sl] at a;rw[dt3] at a b;omega
def au8:Sp:=fun vs H Q _=>∃(a:Addr) (p:List Int),vs=[.ref a]/\be3 H a p/\∀H',i6 H H'->Q (.str (U8 p)) H'
theorem au9:y7 ["p"] ["p"] (o7 ac1):=by rfl'
theorem ae2:(["ring"]:List Str).Nodup:=by decide+kernel
theorem av0 {f:Addr}{fd:FuncData}(F:E6 K "show_turn" "show_turn" ac1 f fd)(zux:B7 P w K mg base "rounds_of" 4 ["p"] Y7)(zvz:B7 P w K mg base "show_round" 1 ["ring"] ax9):w6 P w K mg base J8 5 f fd ["p"] au8:=by
 refine F.ok au9 (fun vs H Q E h=> ?_) (fun cdv A outer s H vs Q E hr h=> ?_)
 · obtain ⟨a,p,rfl,tp,q⟩:=h;rfl
 · obtain ⟨a,p,rfl,tp,q⟩:=h;have zpz:A4 4 _:=hr.mono (by decide);have zr:A4 1 _:=hr.mono (by decide);refine ⟨_,@i7 _ _ _ (@o5 _ _ _ _ (@k7 _ _ _ _ _ _ _ _ A9 (@k7 _ _ _ _ _ _ _ _ A9 (@o6 _ _ _ _) (@af9 _ _ _ _ _ _ _ (@o6 _ _ _ _) (@c9 _ _ _ _ _ (@U3 _ _ _ _ _ _ _ _ _ _ _ (["ring"]) (1) ([]) rfl .of (@E4 _ _ _ _ (@q9 _ _ _ _ _ _ _ _ _ _ zux zpz (@c9 _ _ _ _ _ (pv 0) (@i4 _) (by rfl)) (by rfl) (by decide) (by rfl) (by rfl))) (fun _ _ _ _ _=>@y8 _ _ (0) _ ae2 rfl (Or.inl rfl) (by trivial)) (fun _ _ _ _ _=>(@P0 _)) (fun _ _ _ _ _=>(@q9 _ _ _ _ _ _ _ _ _ _ zvz zr (@c9 _ _ _ _ _ (pv 0) (@i4 _) (by rfl)) (by rfl) (by decide) (by rfl) (by rfl))) (by intro _;rfl)) (@i4 _) (by rfl)) (by rfl) (by rfl) (by rfl) (by rfl) (by rfl))) (@o6 _ _ _ _))),?_⟩;refine ⟨rfl,?_⟩;refine ⟨_,rfl,a,p,rfl,tp,fun l as rs H1 hl s1 h1l rows up _ _ _=> ?_⟩;obtain ⟨f1,f2⟩:=al3 tp.2.1 tp.2.2 up;refine ⟨l,rfl,⟨_,j7.of h1l⟩,Q4 (K:=K) (a:=l) (xs:=as.map V.ref) (fun i ys σ H2=>∃v:Option V,σ=[v]/\i6 H1 H2/\ys=((rs.take i).map A2).map V.str) ⟨none,rfl,i6.refl H1,rfl⟩ (fun i ys σ H2 _ zz=>by obtain ⟨_,_,s,_⟩:=zz;exact j7.of (s _ _ h1l)) ?_ ?_⟩
   · rintro i x ys σ H2 hi ⟨v,rfl,s2,rfl⟩;rw[du7] at hi
     cases hB:as[i]? with
     |none=>rw[hB] at hi;cases hi
     |some b=>
      rw[hB] at hi;cases hi
      have hil:i < rs.length:=by rw[<-rows.1];exact (dt9.mp hB).1
      have hr':=dt5 hil;have hb:=s2 _ _ (rows.2 i b _ hB hr');obtain ⟨r1,r2,r3⟩:=f2 rs[i] (dx8 hil);refine ⟨_,rfl,b,_,rfl,hb,r2,r3,fun H3 s3=>⟨C4 (by simp only[dt3,du5];omega),_,rfl,s2.trans s3,?_⟩⟩;rw[w5 hr',du6,du6];rfl
   · rintro ys σ H2 ⟨v,rfl,s2,rfl⟩ D hD;rw[dt3,rows.1,dx2];obtain ⟨ok,ln⟩:=cp3 f1 f2
     have l1:(Str.ofString "(").length=1:=by decide+kernel
     have l2:(Str.ofString ")").length=1:=by decide+kernel
     refine ⟨Str.ofString ")(",D,rs.map A2,rfl,rfl,j7.of j6,ok,_,_,rfl,rfl,(by rw[l1,sizeLine_eq];omega),_,_,rfl,rfl,(by rw[Str.length_append,l1,l2,sizeLine_eq];omega),?_⟩;have:=q _ ((s1.trans s2).trans (i6.upd_new (o:= .lst ((rs.map A2).map V.str)) hD));unfold U8 at this;rw[<-up.eq] at this;exact this
theorem cp4 {r:List Int}(ne:r≠[])(br:∀x∈r,0<=x/\x < 40):1<=(A2 r).cps.toList.length:=by
 show 1<=(Builtin.Str.glued _ _).cps.toList.length;rw[StrLaws.glued_eq_join,O3]
 cases r with
 |nil=>exact absurd rfl ne
 |cons i r=>
  have:=(ai5 (br i dt6).1 (br i dt6).2).2.1;exact du3 this cn1
def ac8:List (List Int)->Str
 |[]=>Str.ofString ""
 |r::rs=>Str.ofString "("++A2 r++Str.ofString ")"++ac8 rs
theorem bl6:∀(r:List Int) (rs:List (List Int)),ac8 (r::rs)=Str.ofString "("++Txt.join (Str.ofString ")(") ((r::rs).map A2)++Str.ofString ")"
 |r,[]=>by
  refine O9 ?_;show (Str.ofString "("++A2 r++Str.ofString ")"++Str.ofString "").cps.toList=(Str.ofString "("++A2 r++Str.ofString ")").cps.toList;simp only[W3,show (Str.ofString "").cps.toList=[] by decide+kernel,dw7]
 |r,u::rs=>by
  have ih:=congrArg (fun z:Str=>z.cps.toList) (bl6 u rs)
  have e1:(Txt.join (Str.ofString ")(") ((u::rs).map A2)).cps.toList=Mth.ae8 (Str.ofString ")(").cps.toList (((u::rs).map A2).map (·.cps.toList)):=by
    show (Builtin.Str.glued _ _).cps.toList=_;rw[StrLaws.glued_eq_join,O3]
  have e2:(Txt.join (Str.ofString ")(") ((r::u::rs).map A2)).cps.toList=(A2 r).cps.toList++(Str.ofString ")(").cps.toList++Mth.ae8 (Str.ofString ")(").cps.toList (((u::rs).map A2).map (·.cps.toList)):=by
    show (Builtin.Str.glued _ _).cps.toList=_;rw[StrLaws.glued_eq_join,O3];rfl
  refine O9 ?_;show (Str.ofString "("++A2 r++Str.ofString ")"++ac8 (u::rs)).cps.toList=_;simp only[W3] at ih ⊢;rw[ih,e1,e2,show (Str.ofString ")(").cps.toList=(Str.ofString ")").cps.toList++(Str.ofString "(").cps.toList by decide+kernel];simp only[dv0]
end
end My
namespace My
open PySem L2 Mth
section
variable {P:Program} {w:World} {K:PySem.W.Frag} {mg:Str->Option Value} {base:Heap} {zwy zzy zxx zzx zyy zx zyx zxz zzz zxy zwz:Addr}
def ai7 (K:PySem.W.Frag)(H:Hp)(x:V):Prop:=∃t b1 b2,R1 K H x t/\PySem.W.kitOne K t (.type "int")=some b1/\PySem.W.kitOne K t (.type "bool")=some b2/\(b1&& !b2)=false
def K5 (K:PySem.W.Frag)(H:Hp)(v:V):Prop:=(∃t,R1 K H v t/\PySem.W.kitOne K t (.type "list")=some false)\/
 ∃(a:Addr) (xs:List V),v= .ref a/\H a=some (.lst xs)/\(∀x∈xs,(∃i:Int,x= .int i)\/ai7 K H x)/\∀p:List Int,xs=p.map V.int->p.length<=40->¬G2 p
theorem av2 {K:PySem.W.Frag}{H H':Hp}{v:V}{t:Value}(h:R1 K H v t)(s:i6 H H'):R1 K H' v t:=by
 cases h with
 |non=>exact .non
 |bl x=>exact .bl x
 |int i=>exact .int i
 |str x=>exact .str x
 |flt x=>exact .flt x
 |lst e=>exact .lst (s _ _ e)
 |frz e=>exact .frz (s _ _ e)
 |tup e=>exact .tup (s _ _ e)
 |dK e=>exact .dK (s _ _ e)
 |dT e=>exact .dT (s _ _ e)
 |ins e a b c d f=>exact .ins (s _ _ e) a b c d f
theorem ai7.keep {K:PySem.W.Frag}{H H':Hp}{x:V}(h:ai7 K H x)(s:i6 H H'):ai7 K H' x:=by
 obtain ⟨t,b1,b2,ty,r⟩:=h;exact ⟨t,b1,b2,av2 ty s,r⟩
theorem K5.keep {K:PySem.W.Frag}{H H':Hp}{v:V}(h:K5 K H v)(s:i6 H H'):K5 K H' v:=by
 rcases h with ⟨t,ty,r⟩|⟨a,xs,e,ha,el,no⟩
 · exact .inl ⟨t,av2 ty s,r⟩
 · exact .inr ⟨a,xs,e,s _ _ ha,fun x hx=>(el x hx).imp id fun z=>z.keep s,no⟩
def ay0 (K:PySem.W.Frag):Sp:=fun vs H Q _=>∃v,vs=[v]/\K5 K H v/\∀H',i6 H H'->Q (.bl false) H'
theorem aq6:y7 ["thing","seen","place"] ["thing"] (o7 ac6):=by rfl'
theorem cg1 {f:Addr}{fd:FuncData}(F:E6 K "is_turn" "is_turn" ac6 f fd)(B:Bl mg)(zrz:∃t,mg "MOST_THINGS"=some (.int 40 t))(zqx:B7 P w K mg base "is_whole" 1 ["thing"] (ax7 K)):w6 P w K mg base J8 2 f fd ["thing"] (ay0 K):=by
 refine F.ok aq6 (fun vs H Q E h=> ?_) (fun cdv A outer s H vs Q E hr h=> ?_)
 · obtain ⟨v,rfl,no,k⟩:=h;rfl
 · obtain ⟨v,rfl,no,k⟩:=h;obtain ⟨_,zry⟩:=zrz;have zfx:A4 1 _:=hr.mono (by decide);have hu:=ae5 hr;refine ⟨_,@i5 _ _ _ _ _ (@w9 _ _ _ _ _ _ _ _ (@M7 _ _ _ _ _ _ _ (@J5 _ _ _ _ (@C6 _ _ _ (@C7 _ _ _ _ _ _ B.isi (@c9 _ _ _ _ _ (pv 0) (@c9 _ _ _ _ _ (@M4 _ _ B.list (by rfl)) (@i4 _) (by rfl)) (by rfl)) (by rfl) (by rfl) (by rfl)) (by intro _;rfl))) (@Q1 _ _ _ _ (@m8 _ _ _ _ _ _ _ _ aw9 (@A6 _ _ _ _ _ B.len (@c9 _ _ _ _ _ (pv 0) (@i4 _) (by rfl)) (by rfl) (by rfl)) (@E3 _ _ (.int 40) _ _ (by rfl) zry ⟨_,rfl⟩ (by decide)) (o4 _)))).pt (@i7 _ _ _ (@o5 _ _ _ _ (@G1 _ _ _ _))) (@o9 _)) (@i5 _ _ _ _ _ (@m9 _ _ (1) _ _ _ _ aq6.nd rfl (Or.inl rfl) (@ag5 _ _) (by rfl) (by trivial)) (@i5 _ _ _ _ _ (@I0 _ _ _ _ _ _ _ _ PassesOwn.never rfl (@E4 _ _ _ _ (pv 0)) (@y8 _ _ (2) _ aq6.nd rfl (Or.inl rfl) (by trivial)) (@i5 _ _ _ _ _ (@w9 _ _ _ _ _ _ _ _ (@M7 _ _ _ _ _ _ _ (@J5 _ _ _ _ (@C6 _ _ _ (@q9 _ _ _ _ _ _ _ _ _ _ zqx zfx (@c9 _ _ _ _ _ (pv 2) (@i4 _) (by rfl)) (by rfl) (by decide) (by rfl) (by rfl)) (by intro _;rfl))) (@M7 _ _ _ _ _ _ _ (@m8 _ _ _ _ _ _ _ _ aw8 (pv 2) (@i9 _ _ _ _) (o4 _)) (@M7 _ _ _ _ _ _ _ (@m8 _ _ _ _ _ _ _ _ ce2 (pv 2) (@A6 _ _ _ _ _ B.len (@c9 _ _ _ _ _ (pv 0) (@i4 _) (by rfl)) (by rfl) (by rfl)) (o4 _)) (@Q1 _ _ _ _ (@bp5 _ _ _ _ _ _ (@ck1 _ _ _ _ _ hu (pv 2) (pv 1)) (by first|exact nobehind _ (by decide) (by decide)|rfl)))))).pt (@i7 _ _ _ (@o5 _ _ _ _ (@G1 _ _ _ _))) (@o9 _)) (@i7 _ _ _ (@bf8 _ _ _ _ _ _ _ _ _ hu (pv 1) (pv 2) (@G1 _ _ _ _) rfl))) (by intro _;rfl)) (@i7 _ _ _ (@o5 _ _ _ _ (@G1 _ _ _ _))))),?_⟩
   rcases no with ⟨t,ty,kt⟩|⟨a,xs,rfl,ha,el,no⟩
   · refine ⟨_,rfl,v,"list",t,false,rfl,ty,kt,false,rfl,?_⟩;exact A5 (k H (i6.refl H))
   · refine ⟨_,rfl,_,"list",_,true,rfl,.lst ha,M1 K "list",true,rfl,?_⟩;refine B9 ⟨_,rfl,a,_,rfl,.inl (j7.of ha),_,_,rfl,rfl,_,rfl,?_⟩;refine K7 (fun h40=>k H (i6.refl H)) (fun h40=> ?_)
     have h40:¬(40:Int) < (xs.length:Int):=fun z=>h40 (decide_eq_true z)
     intro d hd;have nad:a≠d:=j9 ha hd
     have ha1:(i8 H d (.dK [])) a=some (.lst xs):=by rw[j8 nad];exact ha
     refine ⟨_,rfl,a,rfl,⟨_,j7.of ha1⟩,N0 (K:=K) (a:=a) (xs:=xs) (fun i σ H2=>∃(v:Option V) (p:List Int),σ=[some (.ref a),some (.ref d),v]/\i6 H H2/\xs.take i=p.map V.int/\H2 d=some (.dK (S7 p))/\p.Nodup/\∀x∈p,0<=x/\x < xs.length)
       ⟨none,[],rfl,i6.upd_new hd,rfl,j6,ed5,fun x hx=>by simp at hx⟩ (fun i σ H2 _ zz=>by obtain ⟨_,_,_,s2,_⟩:=zz;exact j7.of (s2 a _ ha)) ?_ ?_⟩
     · rintro i y σ H2 hi ⟨v,p,rfl,s2,hp,h2,nd,bd⟩;have ha2:=s2 a _ ha;have hil:i < xs.length:=(dt9.mp hi).1
       rcases el y (du8 hi) with ⟨z,rfl⟩|odd
       · refine ⟨_,rfl,.int z,_,true,false,rfl,.int z,M1 K "int",ag8 K,_,rfl,?_⟩;refine B9 ⟨_,rfl,_,_,rfl,rfl,_,rfl,?_⟩;refine K7 (fun hz0=>A5 (k H2 s2)) (fun hz0=> ?_)
         have hz0:¬z < 0:=fun q=>hz0 (decide_eq_true q)
         refine ⟨_,rfl,_,rfl,a,_,rfl,.inl (j7.of ha2),_,_,rfl,rfl,_,rfl,?_⟩;refine K7 (fun hz1=>A5 (k H2 s2)) (fun hz1=> ?_)
         have hz1:¬(xs.length:Int)<=z:=fun q=>hz1 (decide_eq_true q)
         refine ⟨_,rfl,_,rfl,d,_,rfl,ao1.k (k:=Sum.inl z) h2,_,rfl,?_⟩
         have lp:p.length<=i:=by
           have:=congrArg dz3 hp;rw[du5,dt3] at this;omega
         by_cases hm:z∈p
         · rw[ba5 hm];exact A5 (k H2 s2)
         · rw[ao4 hm];refine B9 ⟨_,rfl,_,rfl,d,_,rfl,ba0.k (k:=Sum.inl z) h2 (C4 (by unfold S7;rw[dt3];omega)),?_⟩;refine ⟨some (.int z),p++[z],rfl,fun b o e=>by rw[j8 (j9 e hd)];exact s2 b o e,?_,?_,?_,?_⟩
           · rw[w5 hi,hp,du6];rfl
           · rw[at8 hm,j6]
           · exact am0 nd hm
           · intro x hx
             rcases du1.mp hx with q|q
             · exact bd x q
             · have:x=z:=by simpa using q
               omega
       · obtain ⟨t,b1,b2,ty,e1,e2,e3⟩:=odd.keep s2;refine ⟨_,rfl,y,t,b1,b2,rfl,ty,e1,e2,_,rfl,?_⟩;rw[e3];exact A5 (k H2 s2)
     · rintro σ H2 ⟨v,p,rfl,s2,hp,h2,nd,bd⟩;rw[dx2] at hp
       have lp:xs.length=p.length:=by rw[hp,dt3]
       exact absurd (show G2 p from ⟨nd,fun x hx=>(bd x hx).1,fun x hx=>by have:=(bd x hx).2;omega⟩) (no p hp (by omega))
def W9 (K:PySem.W.Frag)(q:Addr):Sp:=fun vs H _ E=>∃v,vs=[v]/\K5 K H v/\∀H',i6 H H'->E (.ref q) none H'
theorem be8:y7 ["thing"] ["thing"] (o7 S1):=co7
theorem bb7 {f:Addr}{fd:FuncData}(F:E6 K "must_be_turn" "must_be_turn" S1 f fd)(zv:B7 P w K mg base "is_turn" 2 ["thing"] (ah4 ab4 (ay0 K)))(zlx:Z8 K mg "NoTurn" zzy):w6 P w K mg base (Q8 P w) 3 f fd ["thing"] (W9 K zzy):=by
 refine F.okx be8 (fun vs H Q E h=> ?_) (fun cdv A outer s H vs Q E hr h=> ?_)
 · obtain ⟨v,rfl,no,k⟩:=h;rfl
 · obtain ⟨v,rfl,no,k⟩:=h;have znz:A4 2 _:=hr.mono (by decide);refine ⟨_,@i7 _ _ _ (@w9 _ _ _ _ _ _ _ _ (@J5 _ _ _ _ (@C6 _ _ _ (@q9 _ _ _ _ _ _ _ _ _ _ zv znz (@c9 _ _ _ _ _ (pv 0) (@i4 _) (by rfl)) (by rfl) (by decide) (by rfl) (by rfl)) (by intro _;rfl))) (@i7 _ _ _ (@aa7 _ _ _ _ _ _ _ _ _ aj6 rfl zlx (@o6 _ _ _ _) (by rfl) (by rfl) (by decide))) (@o9 _)),?_⟩;refine ⟨_,rfl,.inr ⟨v,rfl,no,fun H' s=>⟨false,rfl,?_⟩⟩⟩;exact A5 (k H' s)
theorem bu9:y7 ["p"] ["p"] (o7 Y1):=by rfl'
theorem bn7 {f:Addr}{fd:FuncData}(F:E6 K "rounds_of" "rounds_of" Y1 f fd)(ztz:T0 P w K mg base "must_be_turn" 3 ["thing"] (fun vs H Q E=>au7 vs H Q E\/(W9 K zzy) vs H Q E)):w6 P w K mg base (Q8 P w) 4 f fd ["p"] (W9 K zzy):=by
 refine F.okx bu9 (fun vs H Q E h=> ?_) (fun cdv A outer s H vs Q E hr h=> ?_)
 · obtain ⟨v,rfl,no,k⟩:=h;rfl
 · obtain ⟨v,rfl,no,k⟩:=h;have zk:A4 3 _:=hr.mono (by decide);refine ⟨_,@i5 _ _ _ _ _ (@O0 _ _ _ _ (@am3 _ _ _ _ _ _ _ _ _ _ _ ztz zk (@au1 _ _ _ _ _ _ _ _ _ _ _ _ _ _ _ _ fun _ _ _ h=>h) (@c9 _ _ _ _ _ (pv 0) (@i4 _) (by rfl)) (by rfl) (by decide) (by rfl) (by rfl)) (by rfl)) (@bj4 _ _),?_⟩;exact ⟨_,rfl,.inr ⟨v,rfl,no,k⟩⟩
end
end My
namespace L2
open PySem PySem.Spec PyProof.Rows
theorem PS.nox {X:Cx}{st:Stmt}{t:TS}(h:PS X.nox st t):PS X st t:=fun pins s σ H D I hw=>
 wpAny_mono (h pins s σ H D (I.wish _) hw) (fun _ _ q=>q.unwish) fun _ _ z=>False.elim z
def bb8 (X:Cx)(E:XK)(a:Addr)(fv:Value)(s':Shared):Prop:=
 ∃(t C:Addr) (vs:List Value) (B:Heap) (H':Hp),s'.os=X.s₀.os/\AllBare s'.gens/\Un (v0 X.outer) [] X.H₀ H' X.s₀.heap s'.heap/\J4 X.prog X.w H' B/\
  (∀b o,X.s₀.heap.get? b=some o->X.H₀ b=none->b∉v0 X.outer->B.get? b=some o)/\(∀b o,X.s₀.heap.get? b=some o->b∉v0 X.outer->∃o',B.get? b=some o')/\
  (B.StaysIn s'.heap/\B.get? a=none/\s'.heap.FunFrames B X.stack/\s'.heap.TracedAtW B a (.ref C) (.ref t) fv)/\s'.heap.TupAt t vs/\B.get? t=none/\E (.ref C) none H'
section
variable {P:Program} {w:World} {K:PySem.W.Frag} {mg:Str->Option Value} {base:Heap} {N:List Str} {qual:Str} {scope:Scope} {f:Addr} {cd:Value} {A:Around} {outer:List Env} {s₀:Shared} {H₀:Hp} {E E':XK}
theorem aq7 {a:Addr}{fv:Value}{s':Shared}(imp:∀c d H,E c d H->E' c d H)(ok:(U5 (Q8 P w) P w K mg base N qual scope f cd A outer s₀ H₀ E').Ok)
   (h:bb8 (U5 (Q8 P w) P w K mg base N qual scope f cd A outer s₀ H₀ E') E a fv s'):(U5 (Q8 P w) P w K mg base N qual scope f cd A outer s₀ H₀ E').xe (.ref a) s':=by
 obtain ⟨t,C,vs,B,H',os,bare,un,hok,kb,tb,⟨st,na,ff,tr⟩,tup,tn,hE⟩:=h;show wpAny (model P w) _ (leaving (envOfC qual scope s₀.heap.objs.size f cd) (.ref a)) _ _ _;have hfr:=ok.frames
 have plain:∀b∈v0 outer,∀o,s'.heap.get? b=some o->∀vs,o.data≠.fields vs:=fun b hb o ho=>by
   obtain ⟨_,o1,ho1,hn⟩:=ff.mem (show b∈v0 (envOfC qual scope s₀.heap.objs.size f cd::outer) by unfold v0 at hb ⊢;rw[dw6];exact dt8 _ hb);rw[ho] at ho1;cases ho1;exact hn
 have fin:∀h2,Heap.FlyingW B outer a (.ref C) (.ref t) h2->s'.heap.UpToSlots h2->Q8 P w outer H₀ s₀ E' (.ref a) {s' with heap:=h2}:=fun h2 fl up=>
   ⟨a,t,C,vs,B,H',rfl,os,bare,am2 un kb tb fl.1 up plain,hok,kb,tb,fl,tup.of_slots up,tn,imp _ _ _ hE⟩
 by_cases c:fv=rawInt s₀.heap.objs.size
 · subst c;unfold leaving;refine wpAny_bind (wpAny_noteFrame_againW (L:=s₀.heap.objs.size) rfl tr ?_)
   refine wpAny_setFlight_noneW st ff tr fun h2 k1 k2 k3 k4=> ?_
   exact fin h2 ⟨k1,na,k2.2.2,k3⟩ fun b o hb hn=>⟨o.slots,k4 b o hb hn⟩
 · obtain ⟨oe,ws,T,oT,ts,e1,⟨e2,e3⟩,e4,e5,e6,e7,e8,e9,e10⟩:=tr;unfold leaving noteFrame;simp only[show (envOfC qual scope s₀.heap.objs.size f cd).frame=some s₀.heap.objs.size from rfl];refine wpAny_bind (wpAny_bind (wpAny_field e1 e4 e5 ?_));rw[if_pos (by simp:(Value.ref T !=Value.none)=true)];refine wpAny_bind (wpAny_field e8 e9 e10 ?_);rw[if_neg (by simpa using c)];refine wpAny_bind (wpAny_setField e8 e9 (dw9.mp e10).1 ?_)
   have oth:∀b,b≠T->(s'.heap.update T (Obj.mapFields (·.setIfInBounds 3 Value.none))).get? b=s'.heap.get? b:=fun b hb=>Heap.get?_update_other _ _ fun z=>hb z.symm
   have rec0:∀b o,s'.heap.get? b=some o->(∀vs,o.data≠.fields vs)->b≠T:=fun b o hb hn z=>by
     subst z;rw[e8] at hb;cases hb;exact hn ts e9
   have hb0:∀b o,B.get? b=some o->b≠T:=fun b o hb z=>by rw[z,e6] at hb;cases hb
   refine wpAny_newEntryW (base:=B) (L:=s₀.heap.objs.size) (e:=a) (oe:=oe) (vs:=ws) (a0:= .ref t) hfr ?_ rfl ?_ (fun b o hb=> ?_) na e4 (dw9.mp e5).1 e3 fun h2 ⟨x1,x2,x3,x4⟩=> ?_
   · exact ff.of_keeps fun b o hb hn=>⟨o,by show (s'.heap.update T _).get? b=_;rw[oth b (rec0 b o hb hn)];exact hb,rfl⟩
   · show (s'.heap.update T _).get? a=_;rw[oth a (fun z=>e7 z.symm)];exact e1
   · show (s'.heap.update T _).get? b=_;rw[oth b (hb0 b o hb)];exact st b o hb
   · refine fin h2 ⟨x1,na,x2.2.2,e2▸x3⟩ fun b o hb hn=>x4 b o ?_ hn
     show (s'.heap.update T _).get? b=_;rw[oth b (rec0 b o hb hn)];exact hb
end
section
variable {X:Cx} {N:List Str} {scope:Scope} {cl:List (Str×Addr)} {C0:Addr} {s2 s1 s':Shared} {H H2 H1:Hp} {fp:List Addr} {pins pins1:List (Addr×Obj)} {σ σ1:St} {E:XK}
theorem av3 (I:j5 X pins σ H s1)(hst:X.stack=X.env::X.outer)(hfr:X.env.frame=some X.env.locals){b:Addr}{o:Obj}(h:X.s₀.heap.get? b=some o)(hb:b∉v0 X.outer):b∉v0 X.stack:=fun hm=>by
 rw[hst] at hm;unfold v0 at hm hb;rw[dw6,hfr] at hm
 rcases dw1.mp hm with z|z
 · have:=dv9 (Heap.lt_size h) I.ok.above;rw[z] at this;exact absurd this (dy2 _)
 · exact hb z
theorem cp5 {e:Value}(hex:X.ex=[])(hst:X.stack=X.env::X.outer)(hfr:X.env.frame=some X.env.locals)(I2:j5 X pins σ H2 s2)(fpa:∀b∈fp,X.s₀.heap.objs.size<=b)
   (I1:j5 (J3 X N scope cl C0 s2 H2 fp) pins1 σ1 H1 s1) (h:Q8 X.prog X.w X.stack H1 s1 E e s'):
   ∃a,e= .ref a/\∃(t C:Addr) (vs:List Value) (B:Heap) (H':Hp),s'.os=X.s₀.os/\AllBare s'.gens/\Un (v0 X.outer) [] X.H₀ H' X.s₀.heap s'.heap/\J4 X.prog X.w H' B/\
   (∀b o,X.s₀.heap.get? b=some o->X.H₀ b=none->b∉v0 X.outer->B.get? b=some o)/\(∀b o,X.s₀.heap.get? b=some o->b∉v0 X.outer->∃o',B.get? b=some o')/\
   Heap.FlyingW B X.stack a (.ref C) (.ref t) s'.heap/\s'.heap.TupAt t vs/\B.get? t=none/\E (.ref C) none H'/\B.get? C0=none/\(∃m,s'.heap.Ns C0 m)/\(∃o,s'.heap.get? C0=some o/\∀vs,o.data≠.fields vs)/\t≠C0/\C0∉v0 X.stack:=by
 obtain ⟨a,t,C,vs,B,H',rfl,os,bare,un,hok,kb,tb,fl,tup,tn,hE⟩:=h
 have cC:C0∉v0 X.stack:=fun hm=>by
   obtain ⟨_,o,ho,_⟩:=I2.stack.mem hm;exact absurd (dv9 (Heap.lt_size ho) (show s2.heap.objs.size<=C0 from I1.ok.above)) (dy2 _)
 have b1:Un (v0 X.stack) fp H2 H1 s2.heap s1.heap:=I1.base
 have b2:Un (v0 X.outer) [] X.H₀ H2 X.s₀.heap s2.heap:=by have:=I2.base;rw[hex] at this;exact this
 have nfp:∀b o,X.s₀.heap.get? b=some o->b∉fp:=fun b o q hm=>by
   exact absurd (dv9 (Heap.lt_size q) (fpa b hm)) (dy2 _)
 have sub:∀b,b∈v0 X.outer->b∈v0 X.stack:=fun b hb=>by
   rw[hst];unfold v0 at hb ⊢;rw[dw6,hfr];exact dt8 _ hb
 have own:∀b o,X.s₀.heap.get? b=some o->b∉v0 X.outer->b∉v0 X.stack:=fun b o q hb=>av3 I2 hst hfr q hb
 obtain ⟨m,⟨oc,es,ep,hoc,hdc,rr⟩,_⟩:=I1.loc;have hC1:H1 C0=none:=I1.free;have hoc:s1.heap.get? C0=some oc:=hoc;have hBC:=kb C0 oc hoc hC1 cC
 have tC:t≠C0:=fun z=>by rw[z,hBC] at tn;cases tn
 have stB:(PySem.W.hideAll B [C0]).StaysIn B:=fun b o q=>PySem.W.of_hideAll _ q
 have low:∀b o,X.s₀.heap.get? b=some o->b∉[C0]:=fun b o q hm=>by
   have e:b=C0:=by simpa using hm
   have h1:=dv9 (dv9 (Heap.lt_size q) I2.sz) (show s2.heap.objs.size<=C0 from I1.ok.above);rw[e] at h1;exact absurd h1 (dy2 _)
 have sC:=fl.1 C0 oc hBC;refine ⟨a,rfl,t,C,vs,PySem.W.hideAll B [C0],H',?_,bare,?_,hok.hide (fun b hb=> ?_),fun b o q n hb=> ?_,fun b o q hb=> ?_,PySem.W.flyingW_base stB fl,tup,PySem.W.fresh_of_stays stB tn,hE,PySem.W.hideAll_none _ dt6,⟨m,oc,es,ep,sC,hdc,rr⟩,⟨oc,sC,fun vs z=> ?_⟩,tC,cC⟩
 · exact os.trans (I1.os.trans I2.os)
 · exact {
     keep:=fun b o q n hb _=>un.keep b o (b1.keep b o (b2.keep b o q n hb (by simp)) (b2.free b o q n (by simp)) (own b o q hb) (nfp b o q)) (b1.free b o (b2.keep b o q n hb (by simp)) (b2.free b o q n (by simp)) (nfp b o q)) (own b o q hb) (by simp)
     slot:=fun b o q n hb _=>by
       obtain ⟨l1,e1⟩:=b2.slot b o q n hb (by simp);have f1:=b2.free b o q n (by simp);obtain ⟨l2,e2⟩:=b1.slot b _ e1 f1 (sub b hb) (nfp b o q);obtain ⟨l3,e3⟩:=un.slot b _ e2 (b1.free b _ e1 f1 (nfp b o q)) (sub b hb) (by simp);exact ⟨l3,e3⟩
     free:=fun b o q n _=>by
       obtain ⟨l1,e1⟩:=b2.any q n (by simp);have f1:=b2.free b o q n (by simp);obtain ⟨l2,e2⟩:=b1.any e1 f1 (nfp b o q);exact un.free b _ e2 (b1.free b _ e1 f1 (nfp b o q)) (by simp)
     there:=fun b o q _=>by
       obtain ⟨o1,e1⟩:=b2.there b o q (by simp);obtain ⟨o2,e2⟩:=b1.there b o1 e1 (nfp b o q);exact un.there b o2 e2 (by simp)
     tups:=fun b xs q=>un.tups b xs (b1.tups b xs (b2.tups b xs q))
     frzs:=fun b o u q=>un.frzs b o u (b1.frzs b o u (b2.frzs b o u q))
     tbls:=fun b ps q=>by
       obtain ⟨m1,q1⟩:=b2.tbls b ps q;obtain ⟨m2,q2⟩:=b1.tbls b _ q1;obtain ⟨m3,q3⟩:=un.tbls b _ q2
       exact ⟨m1++m2++m3,by rw[q3];simp only[eh3]⟩}
 · have e:b=C0:=by simpa using hb
   subst e;exact un.free _ _ hoc hC1 (by simp)
 · exact PySem.W.hideAll_get _ (kb b o (b1.keep b o (b2.keep b o q n hb (by simp)) (b2.free b o q n (by simp)) (own b o q hb) (nfp b o q)) (b1.free b o (b2.keep b o q n hb (by simp)) (b2.free b o q n (by simp)) (nfp b o q)) (own b o q hb)) (low b o q)
 · obtain ⟨o1,e1⟩:=b2.there b o q (by simp);obtain ⟨o2,e2⟩:=b1.there b o1 e1 (nfp b o q);obtain ⟨o3,e3⟩:=tb b o2 e2 (own b o q hb);exact ⟨o3,PySem.W.hideAll_get _ e3 (low b o q)⟩
 · rw[hdc] at z;cases z
end
theorem an1 {B h h2:Heap}:∀{l:List Env},h.FunFrames B l->(∀b∈v0 l,h2.get? b=h.get? b)->h2.FunFrames B l
 |[],_,_=>trivial
 |env::l,⟨k,⟨L,o,hf,hn,ho,hd⟩,r⟩,e=>by
  refine ⟨k,⟨L,o,hf,hn,(e L ?_).trans ho,hd⟩,an1 r fun b hb=>e b ?_⟩
  · unfold v0;rw[dw6,hf];exact dt6
  · unfold v0 at hb ⊢;rw[dw6,hf];exact dt8 _ hb
theorem bh5 {fs:List Addr}{H0 H1:Hp}{h0 h1 h2 B:Heap}(u:Un fs [] H0 H1 h0 h1)(kb:∀b o,h0.get? b=some o->H0 b=none->b∉fs->B.get? b=some o)(tb:∀b o,h0.get? b=some o->b∉fs->∃o',B.get? b=some o')
   (st:B.StaysIn h2) (up:∀b∈fs,∀o,h1.get? b=some o->∃sl,h2.get? b=some {o with slots:=sl}):Un fs [] H0 H1 h0 h2 where
 keep:=fun b o q n hb _=>st b o (kb b o q n hb)
 slot:=fun b o q n hb hx=>by
   obtain ⟨sl,e⟩:=u.slot b o q n hb hx;obtain ⟨sl2,e2⟩:=up b hb _ e;exact ⟨sl2,e2⟩
 free:=u.free
 there:=fun b o q hx=>by
   by_cases hb:b∈fs
   · obtain ⟨o',e⟩:=u.there b o q hx;obtain ⟨sl,e2⟩:=up b hb o' e;exact ⟨_,e2⟩
   · obtain ⟨o',e⟩:=tb b o q hb;exact ⟨o',st b o' e⟩
 tups:=u.tups
 frzs:=u.frzs
 tbls:=u.tbls
section
variable {X:Cx} {N:List Str} {scope:Scope} {cl:List (Str×Addr)} {C0:Addr} {s2 s1 s':Shared} {H H2 H1:Hp} {fp:List Addr} {pins pins1:List (Addr×Obj)} {σ σ1:St} {E:XK}
theorem cw5 {e:Value}{use:Option (Value->Sem Unit)}{Q:Value->Shared->Prop}{acc:Value}(hx:∀a fv s'',bb8 X E a fv s''->X.xe (.ref a) s'')(hex:X.ex=[])(hst:X.stack=X.env::X.outer)(hfr:X.env.frame=some X.env.locals)(I2:j5 X pins σ H2 s2)(fpa:∀b∈fp,X.s₀.heap.objs.size<=b)
   (I1:j5 (J3 X N scope cl C0 s2 H2 fp) pins1 σ1 H1 s1) (h:Q8 X.prog X.w X.stack H1 s1 E e s'):
   notedBy (model X.prog X.w) X.A (compEnvC scope cl C0 X.env) (fun x s''=>compPost (model X.prog X.w) X.A X.xe use Q acc C0 (.error x) s'') e s':=by
 obtain ⟨a,rfl,t,C,vs,B,H',os,bare,un,hok,kb,tb,fl,tup,tn,hE,hBC,⟨m,hns⟩,⟨oc,hoc,hdc⟩,tC,cC⟩:=cp5 hex hst hfr I2 fpa I1 h;unfold notedBy;show wpAny _ X.A (noteFrame (.ref a) X.env) _ _ s';have fm:=I2.ok.frames;rw[hst] at fm;have fl0:=fl;rw[hst] at fl
 refine wpAny_looks_onW (L:=X.env.locals) fm hfr fl fun h' hh up=> ?_
 rw[<-hst] at hh;obtain ⟨st,na,ff,oe,ws,T,oT,ts,e1,⟨e2,e3⟩,e4,e5,e6,e7,e8,e9,e10⟩:=hh;obtain ⟨sl0,hC⟩:=up C0 oc hoc hdc
 have body:∃m,h'.Ns C0 m/\∀h2,Heap.SameBut C0 h' h2->∀cenv:Env,cenv.locals=C0->wpAny (model X.prog X.w) X.A (PySem.passOn "comprehension.variables-let-go" (.ref a) cenv:Sem Value) (fun _ _=>False) X.xe {s' with heap:=h2}:=by
   refine ⟨m,up.ns hns,fun h2 sb cenv _=> ?_⟩
   have aC:a≠C0:=fun z=>by rw[z,hC] at e1;cases e1;exact hdc _ e4
   have TC:T≠C0:=fun z=>by rw[z,hC] at e8;cases e8;exact hdc _ e9
   have g1:h2.get? a=some oe:=(sb.2 a aC).trans e1;have g2:h2.get? T=some oT:=(sb.2 T TC).trans e8;unfold PySem.passOn;refine wpAny_bind (wpAny_field g1 e4 e5 ?_);rw[if_neg (by simp)];refine wpAny_bind ?_;unfold setFlight;refine wpAny_bind (wpAny_field g1 e4 e5 ?_);rw[if_pos (by simp)];refine wpAny_setField g2 e9 (dw9.mp e10).1 ?_;refine wpAny_throw ?_
   have oth:∀b,b≠T->(h2.update T (Obj.mapFields (·.setIfInBounds 3 (cenv.frame.elim Value.none fun f=>rawInt f)))).get? b=h2.get? b:=fun b hb=>Heap.get?_update_other _ _ fun z=>hb z.symm
   have frT:∀b∈v0 X.stack,b≠T:=fun b hb z=>by
     obtain ⟨_,o1,ho1,hn⟩:=ff.mem hb;rw[z,e8] at ho1;cases ho1;exact hn _ e9
   have frC:∀b∈v0 X.stack,b≠C0:=fun b hb z=>cC (z▸hb)
   have sub:∀b,b∈v0 X.outer->b∈v0 X.stack:=fun b hb=>by
     rw[hst];unfold v0 at hb ⊢;rw[dw6,hfr];exact dt8 _ hb
   have st2:B.StaysIn (h2.update T (Obj.mapFields (·.setIfInBounds 3 (cenv.frame.elim Value.none fun f=>rawInt f)))):=fun b o q=>by
     rw[oth b (fun z=>by rw[z,e6] at q;cases q),sb.2 b (fun z=>by rw[z,hBC] at q;cases q)];exact st b o q
   refine hx a (cenv.frame.elim Value.none fun f=>rawInt f) _ ⟨t,C,vs,B,H',os,bare,bh5 un kb tb st2 (fun b hb o ho=> ?_),hok,kb,tb,⟨st2,na,an1 ff (fun b hb=> ?_),?_⟩,?_,tn,hE⟩
   · obtain ⟨_,o1,ho1,hn⟩:=fl0.2.2.1.mem (sub b hb);rw[ho] at ho1;cases ho1;obtain ⟨sl,e'⟩:=up b o ho hn;exact ⟨sl,by show (h2.update T _).get? b=_;rw[oth b (frT b (sub b hb)),sb.2 b (frC b (sub b hb))];exact e'⟩
   · show (h2.update T _).get? b=_;rw[oth b (frT b hb),sb.2 b (frC b hb)]
   · refine ⟨oe,ws,T,_,_,?_,⟨e2,e3⟩,e4,e5,e6,e7,Heap.get?_update_self _ g2 (Obj.isFreed_of_fields (Obj.data_mapFields e9 _)),Obj.data_mapFields e9 _,?_⟩
     · show (h2.update T _).get? a=_;rw[oth a (fun z=>e7 z.symm)];exact g1
     · have:=(dw9.mp e10).1;simp [this]
   · obtain ⟨o,n,h1,h3,h4⟩:=tup.of_slots up
     have tT:t≠T:=fun z=>by
       rw[z,e8] at h1;cases h1;rw[e9] at h4;cases h4
     exact ⟨o,n,by show (h2.update T _).get? t=_;rw[oth t tT,sb.2 t tC];exact h1,h3,h4⟩
 cases use with
 |none=>exact body
 |some u=>exact body
end
section
variable {X:Cx}
def bv0 (X:Cx)(N:List Str)(scope:Scope)(cl:List (Str×Addr))(C:Addr)(s0:Shared)(H0:Hp)(ex:List Addr)(E:XK):Value->Shared->Prop:=fun e s'=>
 ∃pins σ H1 s1,j5 (J3 X N scope cl C s0 H0 ex) pins σ H1 s1/\Q8 X.prog X.w X.stack H1 s1 E e s'
theorem bl7 {N:List Str}{scope:Scope}{cl:List (Str×Addr)}{C:Addr}{s0:Shared}{H0:Hp}{ex:List Addr}{E:XK}:al9 (Q8 X.prog X.w) ((J3 X N scope cl C s0 H0 ex).wish (bv0 X N scope cl C s0 H0 ex E)) E:=
 fun pins σ H s e s' I h=>⟨pins,σ,H,s,I.unwish,h⟩
theorem bn8 {prog:Program}{w:World}{A:Around}{R:Result->Shared->Prop}{s:Shared}{elt target iter:Expr}{ifs:List Expr}{scope:Scope}{pos:Pos}{it acc:Value}{env:Env}(I:Nat->Shared->Prop)(EE:Value->Shared->Prop)(hE:∀e s,EE e s->notedBy (model prog w) A env (fun x s2=>R (.error x) s2) e s)
   (turn:∀n s,I n s->wpAny (model prog w) A (pyNext it) (fun r s1=>match r with
     |none=>R (.ok .next) s1
     |some v=>wpAny (model prog w) A (letOwnedTupleGo target it v) (fun _ s2=>wpAny (model prog w) A (assign target env v) (fun _ s3=>
         wpAny (model prog w) A (forIn ifs true fun c r=>if r=true then do let ok <-isTrue c env (eval c env);pure (ForInStep.yield ok) else pure (ForInStep.yield r)) (fun ok s4=>
           if ok=true then wpAny (model prog w) A (eval elt env) (fun x s5=>
             wpAny (model prog w) A (call (.builtin "list.append") [acc,x]) (fun _ s6=>∃m,m < n/\I m s6) (fun _ _=>False) s5) EE s4
           else ∃m,m < n/\I m s4) (fun _ _=>False) s3) (fun _ _=>False) s2) (fun _ _=>False) s1) (fun _ _=>False) s)
   (n:Nat) (h:I n s):
   codeAny (model prog w) A (.compLoop (.ListComp elt [⟨target,iter,ifs,0⟩] scope pos) 0 it acc env) R s:=by
 refine codeAny_loop rfl I (fun n s hI=> ?_) n h;show wpAny _ A ((compTurn (.ListComp elt [⟨target,iter,ifs,0⟩] scope pos) 0 it acc env).onRaise (fun x=>do noteFrame x env;theTreesLotGoes x)) _ _ s;refine wpAny_noted ?_;rw[compTurn_list];refine wpAny_bind (wpAny_standAt (wpAny_bind (wpAny_mono (turn n s hI) (fun r s1 h1=> ?_) fun _ _ f=>f.elim)))
 cases r with
 |none=>exact wpAny_pure h1
 |some v=>
  refine wpAny_bind (wpAny_mono h1 (fun _ s2 h2=> ?_) fun _ _ f=>f.elim);refine wpAny_bind (wpAny_mono h2 (fun _ s3 h3=>wpAny_bind (wpAny_mono h3 (fun ok s4 h4=> ?_) fun _ _ f=>f.elim)) fun _ _ f=>f.elim)
  cases ok with
  |false=>exact wpAny_pure ⟨rfl,h4⟩
  |true=>
   exact wpAny_bind (wpAny_bind (wpAny_mono h4 (fun x s5 h5=>wpAny_bind (wpAny_mono h5 (fun _ s6 h6=>wpAny_pure (wpAny_pure ⟨rfl,h6⟩)) fun _ _ f=>f.elim)) fun e s9 f=>hE e s9 f))
theorem cg2 {elt tg iter:Expr}{ifs:List Expr}{scope:Scope}{pos:Pos}{wi:TI}{g:TG}{tc:TT}{te:TE}{N:List Str}{nl:Nat}{fr:List Nat}{EX:XK}
   (hc:X.calm=true) (hi:PI X tg iter wi) (hg:∀cl C s0 H0 ex,PG (J3 X N scope cl C s0 H0 ex) tg g) (ht:∀cl C s0 H0 ex,ba1 (J3 X N scope cl C s0 H0 ex) ifs tc)
   (he:∀cl C s0 H0 ex,PE ((J3 X N scope cl C s0 H0 ex).wish (bv0 X N scope cl C s0 H0 ex EX)) elt te) (ok:ag7 X N nl fr scope) (hex:X.ex=[])
   {RR:Value->Addr->Result->Shared->Prop} {pins:List (Addr×Obj)} {s:Shared} {σ:St} {H:Hp} {Q:VK} (I:j5 X pins σ H s) (h:bd4 nl fr wi g tc te σ H Q)
   (hRR:∀D C s' H',j5 X pins σ H' s'->Q (.ref D) H'->ag3 X pins H' C->(∃m,s'.heap.Ns C m)->RR (.ref D) C (.ok .next) s')
   (hRX:∀D C0 cl fp pins1 σ1 H1 H2 s1 s2 e s',j5 X pins σ H2 s2->(∀b∈fp,X.s₀.heap.objs.size<=b)->j5 (J3 X N scope cl C0 s2 H2 fp) pins1 σ1 H1 s1->Q8 X.prog X.w X.stack H1 s1 EX e s'->notedBy (model X.prog X.w) X.A (compEnvC scope cl C0 X.env) (fun x s2=>RR (.ref D) C0 (.error x) s2) e s'):
   wpAny (model X.prog X.w) X.A (eval iter X.env) (fun x s1=>wpAny (model X.prog X.w) X.A (pyIter x) (fun it s2=>wpAny (model X.prog X.w) X.A (newList []) (fun acc s3=>
     wpAny (model X.prog X.w) X.A (newFunctionEnv scope X.env.globals (B5 X.env scope.names []) [] X.env.qual none .none (some X.env)) (fun cenv s4=>
       codeAny (model X.prog X.w) X.A (.compStart (.ListComp elt [⟨tg,iter,ifs,0⟩] scope pos) 0 it acc {cenv with scope:=relabel scope X.env}) (RR acc cenv.locals) s4) X.xe s3) X.xe s2) X.xe s1) X.xe s:=by
 refine A3 (hi pins s σ H _ I h) fun v s1 h1=>A3 h1 fun itv s2 h2=> ?_
 obtain ⟨it,fp,tn,J,H2,rfl,I2,T,st2,f2,W,⟨m0,w0⟩,turn⟩:=h2;refine wpAny_newObj_type (wpAny_newFunctionEnv ok.cell (by intro y hy;simp at hy) (fun h1 hns1 hsb1=> ?_) ok.kind)
 dsimp only at hns1 hsb1 ⊢
 generalize hHH:s2.heap.push {cls:= .type "list",dict:=none,data:= .seq ([]:List Value).toArray}=HH at hns1 hsb1 ⊢
 have hC:HH.objs.size=s2.heap.objs.size+1:=by rw[<-hHH,Heap.size_push]
 have hDC:s2.heap.objs.size≠HH.objs.size:=by rw[hC];exact dx1 (Nat.lt_succ_self _)
 have hCle:s2.heap.objs.size<=HH.objs.size:=by rw[hC];exact ef2 _
 have below:∀b,b < s2.heap.objs.size->b≠HH.objs.size/\b≠s2.heap.objs.size:=fun b hb=>⟨by rw[hC];exact dx1 (eg0 hb),dx1 hb⟩
 have old:∀b o,s2.heap.get? b=some o->h1.get? b=some o:=fun b o e=>hsb1.extBut b o (below b (Heap.lt_size e)).1 (Heap.get?_push_of_some _ (hHH▸Heap.get?_push_of_some _ e))
 have hacc:h1.get? s2.heap.objs.size=some {cls:= .type "list",data:= .seq ([]:List Value).toArray}:=hsb1.extBut _ _ hDC (Heap.get?_push_of_some _ (hHH▸Heap.get?_push_size _ rfl))
 have fplt:∀b∈fp,b < s2.heap.objs.size:=fun b hb=>by obtain ⟨o,e,_⟩:=T.obj 0 _ st2 b hb;exact Heap.lt_size e
 generalize hXd:J3 X N scope (B5 X.env scope.names []) HH.objs.size s2 H2 fp=X'
 have hfreeC:∀p∈scope.names,p.2= .free->∃c,X.env.cells.lookup p.1=some c:=fun p hp hf=>I.ok.has p.1 (ok.free p hp hf)
 have cellsSub:∀y c,(B5 X.env scope.names []).lookup y=some c->X.env.cells.lookup y=some c:=ao2 X.env scope.names [] hfreeC (fun y c e=>by simp at e)
 have cellLt:∀y c,X.env.cells.lookup y=some c->c < s2.heap.objs.size:=fun y c e=>by obtain ⟨v,z⟩:=I2.cell y c e;exact z.lt
 have ok':X'.Ok:=by
   rw[<-hXd]
   refine ⟨I.ok.mod,?_,I.ok.glob,I.ok.blt,hCle,fun x y c e1 e2=>I.ok.inj x y c (cellsSub x c e1) (cellsSub y c e2),fun x hx=> ?_,fun x c hf=>(by cases hf),I.ok.hd,I.ok.frames,.inl rfl,
     fun b hb=>⟨(below b (fplt b hb)).1,fun x c e=>(f2 b hb).2.2.2.2.1 x c (cellsSub x c e)⟩,I2.bs,du3 I.ok.bsz I2.sz,fun b o e hb=> ?_,fun b hb hfs=> ?_,I2.stack,I2.stkFree⟩
   · show (relabel scope X.env).kind= .function;exact ok.kind
   · have hx':∃p∈scope.names,p.1=x/\p.2= .free:=by
       rcases hx with z|z
       · exact R7 z (.inl rfl) ok.cell
       · exact R7 z (.inr rfl) ok.cell
     obtain ⟨p,hp,rfl,hpf⟩:=hx';exact Z4 X.env scope.names [] p hp hpf
   · rcases (f2 b hb).2.2.2.1 with z|z
     · exact I.ok.noex b o e z
     · exact absurd (dv9 (Heap.lt_size e) (du3 I.ok.bsz z)) (dy2 _)
   · rcases dw1.mp (I2.stkSub b hfs) with z|z
     · exact (f2 b hb).2.1 z
     · exact (f2 b hb).2.2.1 z
 have hX'd:X'.env.locals=HH.objs.size:=by rw[<-hXd];rfl
 have hX'c:X'.env.cells=B5 X.env scope.names []:=by rw[<-hXd];rfl
 have hX'pn:X'.pn=[]:=by rw[<-hXd];rfl
 have hX'ex:X'.ex=fp:=by rw[<-hXd];rfl
 have hX's0:X'.s₀=s2:=by rw[<-hXd];rfl
 have hX'H0:X'.H₀=H2:=by rw[<-hXd];rfl
 have hX'fs:X'.fs=v0 X.stack:=by rw[<-hXd];rfl
 have hX'xe:X'.xe=fun _ _=>False:=by rw[<-hXd];rfl
 have hX'A:X'.A=X.A:=by rw[<-hXd];rfl
 have hX'P:X'.prog=X.prog:=by rw[<-hXd];rfl
 have hX'w:X'.w=X.w:=by rw[<-hXd];rfl
 have hX'K:X'.K=X.K:=by rw[<-hXd];rfl
 have hX'calm:X'.calm=true:=by rw[<-hXd];exact hc
 have hX'env:X'.env=compEnvC scope (B5 X.env scope.names []) HH.objs.size X.env:=by rw[<-hXd];rfl
 have I':j5 X' [] (ag6 nl fr σ) H2 {s2 with heap:=h1,toks:=s2.toks+([]:List (Str×Value)).length}:=by
   refine ⟨ok',by rw[hX's0],I2.bare,?_,?_,fun x c e=> ?_,?_,fun x c e=> ?_,fun p hp=> ?_,?_,?_⟩
   · rw[hX'fs,hX'ex,hX'H0,hX's0];exact Un.kept old
   · obtain ⟨m,hn,hl⟩:=I2.loc;rw[hX'd];refine ⟨_,hns1,fun i x v e1 e2 e3=> ?_⟩
     have hN':N[i]? =some x:=by rw[<-hXd] at e1;exact e1
     unfold ag6 at e2
     have hi:¬i < nl:=fun hlt=>by
       rw[dx9 (by simpa using hlt),ef5,if_pos hlt] at e2;cases e2
     rw[dw5 (by simpa using hi),ea7,du7] at e2
     cases ej:fr[i - nl]? with
     |none=>rw[ej] at e2;cases e2
     |some j=>
      rw[ej] at e2;obtain ⟨y,y1,y2,y3,y4⟩:=ok.fr (i - nl) j ej
      have hii:nl+(i - nl)=i:=by omega
      rw[hii,hN'] at y1;have hxy:x=y:=Option.some.inj y1;subst hxy;have e2':(σ[j]?).join=some v:=Option.some.inj e2
      have e2'':σ[j]? =some (some v):=by
        cases hσ:σ[j]? with
        |none=>rw[hσ] at e2';cases e2'
        |some z=>rw[hσ] at e2';exact congrArg some e2'
      obtain ⟨u,r,l⟩:=hl j x v y2 e2'' y3;have hkX:=ok.free (x,.free) (PySem.mem_of_lookup y4) rfl;refine ⟨u,r,.inr ⟨?_,?_⟩⟩
      · rw[hX'env]
        rcases U6 (env:=X.env) y4 with z|z
        · exact .inl z
        · exact .inr z
      · rcases l with ⟨k1,_⟩|⟨_,c,ec,hcell⟩
        · rcases hkX with z|z
          · rw[z] at k1;cases k1
          · rw[z] at k1;cases k1
        · obtain ⟨c',ec'⟩:=Z4 X.env scope.names [] (x,.free) (PySem.mem_of_lookup y4) rfl
          have:c'=c:=by
            have q:=cellsSub x c' ec';rw[ec] at q;exact (Option.some.inj q).symm
          subst this;refine ⟨c',by rw[hX'c];exact ec',?_⟩;obtain ⟨oc,ho,hd⟩:=hcell;exact ⟨oc,old _ _ ho,hd⟩
   · rw[hX'c] at e;obtain ⟨v,oc,ho,hd⟩:=I2.cell x c (cellsSub x c e);exact ⟨v,oc,old _ _ ho,hd⟩
   · rw[hX'd];exact I2.hok.fresh hCle
   · rw[hX'c] at e;exact I2.freeC x c (cellsSub x c e)
   · rw[hX'pn] at hp;simp at hp
   · rw[hX'P,hX'w];exact I2.hok.kept old
   · unfold ag6
     have:X'.N=N:=by rw[<-hXd];rfl
     rw[this,ok.len,dt4,ea7,dt3]
 have Dn:∀{H':Hp} {pins'} {s':Shared} {σ'},j5 X' pins' σ' H' s'->H' s2.heap.objs.size=none->∀o,s'.heap.get? s2.heap.objs.size=some o->(∀v,o.data≠.cell v)->j5 X' [(s2.heap.objs.size,o)] σ' H' s':=fun {H' pins' s' σ'} I3 hD o ho hnc=>
   I3.pins_of fun p hp=>by
     have e:p=(s2.heap.objs.size,o):=by simpa using hp
     subst e;refine ⟨ho,hD,by rw[hX'd];exact hDC,?_,hnc⟩;rw[hX'fs];intro hb
     rcases dw1.mp (I2.stkSub _ hb) with z|z
     · exact absurd (z▸I2.lt) (dy2 _)
     · exact I2.nofs (dt7 _) z
 have loop:∀s₃:Shared,s₃={s2 with heap:=h1,toks:=s2.toks+([]:List (Str×Value)).length}->
     codeAny (model X.prog X.w) X.A (.compLoop (.ListComp elt [⟨tg,iter,ifs,0⟩] scope pos) 0 (.ref it) (.ref s2.heap.objs.size) (compEnvC scope (B5 X.env scope.names []) HH.objs.size X.env)) (RR (.ref s2.heap.objs.size) HH.objs.size) s₃:=by
   rintro s₃ rfl
   have EC:∀e s9,bv0 X N scope (B5 X.env scope.names []) HH.objs.size s2 H2 fp EX e s9->notedBy (model X.prog X.w) X.A (compEnvC scope (B5 X.env scope.names []) HH.objs.size X.env) (fun x s2'=>RR (.ref s2.heap.objs.size) HH.objs.size (.error x) s2') e s9:=fun e s9 ⟨pins1,σ1,H1,s1',I1,cx⟩=>
     hRX _ _ _ fp pins1 σ1 H1 H2 s1' s2 e s9 I2 (fun b hb=>by
       rcases (f2 b hb).2.2.2.1 with z|z
       · rw[hex] at z;cases z
       · exact z) I1 cx
   refine bn8 (fun n s'=>∃(i:Nat) (σ':St) (H':Hp) (ys:List V) (its:List Value) (k:Nat),j5 X' [(s2.heap.objs.size,{cls:= .type "list",data:= .seq its.toArray k})] σ' H' s'/\r6 ys its/\ys.length<=sizeLine/\tn i s'.heap/\(∀b∈fp,H' b=none)/\W i n ys σ' H')
     _ EC ?_ m0 ⟨0,_,H2,[],[],0,Dn I' (I2.hok.fresh (dt7 _)) _ hacc (fun v z=>by cases z),.nil,dv5 _,T.keep 0 _ _ st2 fun b hb o e=>old b o e,fun b hb=>(f2 b hb).1,w0⟩
   rintro n s3 ⟨i,σ3,H3,ys,its,k,I3,rv,hyl,st3,fr3,w3⟩;have pinD:=I3.pin (s2.heap.objs.size,{cls:= .type "list",data:= .seq its.toArray k}) (by rw[hX'pn];exact du0 _ dt6)
   have stat:∀{o:Obj} {H':Hp},(∀b∈fp,H' b=none)->∀b∈fp,ag3 X' [(s2.heap.objs.size,o)] H' b:=fun {o H'} hn b hb=>by
     refine ⟨hn b hb,by rw[hX'd];exact (below b (fplt b hb)).1,fun z=>ok'.exfs b (by rw[hX'ex];exact hb) z,.inl (by rw[hX'ex];exact hb),fun x c e=>by rw[hX'c] at e;exact (f2 b hb).2.2.2.2.1 x c (cellsSub x c e),fun p hp=> ?_⟩;rw[hX'pn] at hp
     have e:p=(s2.heap.objs.size,o):=by simpa using hp
     subst e
     exact fun z=>(below b (fplt b hb)).2 z.symm
   rcases turn i n ys σ3 H3 w3 with ⟨stop,qn⟩|⟨go,Nx,hNx,step⟩
   · have dn:=T.done X' hX'P hX'w hX'K hX'calm i _ s3 σ3 H3 (fun _ _=>False) I3 (stat fr3) st3 stop;rw[hX'A] at dn
     refine A3 dn fun r s4 ⟨hr,I4⟩=> ?_
     subst hr;have pinE:=I4.pin (s2.heap.objs.size,{cls:= .type "list",data:= .seq its.toArray k}) (by rw[hX'pn];exact du0 _ dt6)
     have ub:Un (v0 X.stack) fp H2 H3 s2.heap s4.heap:=by
       have:=I4.base;rw[hX'fs,hX'ex,hX'H0,hX's0] at this;exact this
     have hok4:J4 X.prog X.w H3 s4.heap:=by have:=I4.hok;rw[hX'P,hX'w] at this;exact this
     have nD:∀b u,H3 b=some u->b≠s2.heap.objs.size:=fun b u e z=>by rw[z,pinE.2.1] at e;cases e
     have u2:Un (v0 X.stack) fp H2 (i8 H3 s2.heap.objs.size (.lst ys)) s2.heap s4.heap:=
       ⟨ub.keep,ub.slot,fun b o e n' hx=>by rw[j8 (dx1 (Heap.lt_size e))];exact ub.free b o e n' hx,ub.there,
         fun b xs e=>by have:=ub.tups b xs e;rw[j8 (nD b _ this)];exact this,fun b o u e=>by have:=ub.frzs b o u e;rw[j8 (nD b _ this)];exact this,
         fun b ps e=>by obtain ⟨more,z⟩:=ub.tbls b ps e;exact ⟨more,by rw[j8 (nD b _ z)];exact z⟩⟩
     have I5:j5 X pins σ (i8 H3 s2.heap.objs.size (.lst ys)) s4:=by
       refine I2.call' (by rw[I4.os,hX's0]) u2 ?_ I4.bare fun b hb=>⟨(f2 b hb).2.2.2.1,(f2 b hb).2.1,(f2 b hb).2.2.2.2.1,(f2 b hb).2.2.2.2.2⟩
       exact J4.track hok4 pinE.2.1 ⟨hyl,its,k,rv,pinE.1⟩
     refine hRR _ _ s4 _ I5 (qn _ pinE.2.1) (I2.fpOk hCle ?_) ?_
     · rw[j8 (Ne.symm hDC)];have:=I4.free;rw[hX'd] at this;exact this
     · obtain ⟨m,hn,_⟩:=I4.loc;rw[hX'd] at hn;exact ⟨m,hn⟩
   · have im:=T.item X' hX'P hX'w hX'K hX'calm i _ s3 σ3 H3 (fun _ _=>False) I3 (stat fr3) st3 go;rw[hX'A] at im
     refine A3 im fun r s4 ⟨u,hr,h4⟩=> ?_
     subst hr
     refine A3 h4 fun _ s5 ⟨x,H5,I5,r5,y5,st5,fr5⟩=> ?_
     have I5':=I5.pinned (stat fr5) (T.obj _ _ st5);have gg:=hg (B5 X.env scope.names []) HH.objs.size s2 H2 fp;rw[hXd] at gg;have gg:=gg _ s5 σ3 H5 x u _ I5' r5 (step x H5 y5);rw[hX'A,hX'P,hX'w,hX'xe,hX'env] at gg
     refine A3 gg fun _ s6 ⟨σ6,H6,I6,q6⟩=> ?_
     have tt:=ht (B5 X.env scope.names []) HH.objs.size s2 H2 fp;rw[hXd] at tt;have tt:=tt _ s6 σ6 H6 _ I6 q6;rw[hX'A,hX'P,hX'w,hX'xe,hX'env] at tt
     refine A3 tt fun ok7 s7 ⟨H7,I7,q7⟩=> ?_
     have again:∀{s8:Shared} {σ8:St} {H8:Hp} {ys8:List V} {its8:List Value} {k8:Nat},j5 X' ([(s2.heap.objs.size,{cls:= .type "list",data:= .seq its8.toArray k8})]++X8 fp s5.heap) σ8 H8 s8->r6 ys8 its8->ys8.length<=sizeLine->Nx ys8 σ8 H8->
         ∃m,m < n/\∃(i:Nat) (σ':St) (H':Hp) (ys:List V) (its:List Value) (k:Nat),j5 X' [(s2.heap.objs.size,{cls:= .type "list",data:= .seq its.toArray k})] σ' H' s8/\r6 ys its/\ys.length<=sizeLine/\tn i s8.heap/\(∀b∈fp,H' b=none)/\W i m ys σ' H':=
       fun {s8 σ8 H8 ys8 its8 k8} I8 rv8 hl8 n8=>by
         obtain ⟨m',hm,w8⟩:=hNx ys8 σ8 H8 n8;refine ⟨m',hm,i+1,σ8,H8,ys8,its8,k8,I8.unpinned,rv8,hl8,T.keep _ _ _ st5 fun b hb o e=>(I8.pin (b,o) (du0 _ (du0 _ (V9 hb e)))).1,fun b hb=> ?_,w8⟩;obtain ⟨o,e,d⟩:=T.obj _ _ st5 b hb;exact (I8.pin (b,o) (du0 _ (du0 _ (V9 hb e)))).2.1
     cases ok7 with
     |false=>
      rw[if_neg dv4] at q7 ⊢;exact again I7 rv hyl q7
     |true=>
      rw[if_pos rfl] at q7 ⊢;have ee:=he (B5 X.env scope.names []) HH.objs.size s2 H2 fp;rw[hXd] at ee;have ee:=ee _ s7 σ6 H7 _ (I7.wish _) q7;have ee:wpAny (model X'.prog X'.w) X'.A (eval elt X'.env) _ (bv0 X N scope (B5 X.env scope.names []) HH.objs.size s2 H2 fp EX) s7:=ee;rw[hX'A,hX'P,hX'w,hX'env] at ee
      refine A3 ee fun yv s8 ⟨y,H8,I8,r8,hyl8,q8⟩=> ?_
      have I8:=I8.unwish;have pin8:=I8.pin (s2.heap.objs.size,{cls:= .type "list",data:= .seq its.toArray k}) (du0 _ (dw8 _ dt6));refine wpAny_list_append_plain (items:=its.toArray) ⟨k,pin8.1⟩ (fun h9 hp9 hs9=> ?_) (by rw[du2,<-rv.length];exact hyl);obtain ⟨k9,e9⟩:=hp9
      have I9:j5 X' (X8 fp s5.heap) σ6 H8 s8:=I8.pins_of fun p hp=>I8.pin p (du0 _ (du0 _ hp))
      have I9':j5 X' (X8 fp s5.heap) σ6 H8 {s8 with heap:=h9,toks:=s8.toks}:=by
        refine I9.turned (t':=s8.toks) (it:=s2.heap.objs.size) (fun b o hb e=>hs9.extBut b o hb e) pin8.2.1 (by rw[hX'd];exact hDC) (.inr (by rw[hX's0];exact dt7 _)) (fun x c e z=> ?_) fun p hp z=> ?_
        · rw[hX'c] at e;exact absurd (z▸cellLt x c (cellsSub x c e)) (dy2 _)
        · rw[hX'pn] at hp;obtain ⟨hb,_⟩:=as5 (by simpa using hp);exact absurd (z▸fplt _ hb) (dy2 _)
      have e9':h9.get? s2.heap.objs.size=some {cls:= .type "list",data:= .seq (its++[yv]).toArray k9}:=by rw[e9];simp
      refine again (ys8:=ys++[y]) (its8:=its++[yv]) (k8:=k9) ?_ (r6.append rv (.cons r8 .nil)) (by rw[dt4];exact hyl8) q8
      refine I9'.pins_of fun p hp=> ?_
      rcases du1.mp hp with z|z
      · have e:p=(s2.heap.objs.size,{cls:= .type "list",data:= .seq (its++[yv]).toArray k9}):=by simpa using z
        subst e;exact ⟨e9',pin8.2.1,pin8.2.2.1,pin8.2.2.2.1,fun v z=>by cases z⟩
      · exact I9'.pin p (du0 _ z)
 exact codeAny_compStart_list (loop _ rfl) (T.self X.A 0 _ _ _ (T.keep 0 _ _ st2 fun b hb o e=>old b o e) (loop _ rfl))
theorem bv1 {elt tg iter:Expr}{ifs:List Expr}{scope:Scope}{pos:Pos}{wi:TI}{g:TG}{tc:TT}{te:TE}{N:List Str}{nl:Nat}{fr:List Nat}{EX:XK}(hx:∀a fv s'',X.Ok->bb8 X EX a fv s''->X.xe (.ref a) s'')
   (hc:X.calm=true) (ok:ag7 X N nl fr scope) (hi:PI X tg iter wi) (hg:∀cl C s0 H0 ex,PG (J3 X N scope cl C s0 H0 ex) tg g) (ht:∀cl C s0 H0 ex,ba1 (J3 X N scope cl C s0 H0 ex) ifs tc)
   (he:∀cl C s0 H0 ex,PE ((J3 X N scope cl C s0 H0 ex).wish (bv0 X N scope cl C s0 H0 ex EX)) elt te) (hs:∀x,foldedSetIterable iter X.env x=pure x:=by intro _;rfl)
   (hex:X.ex=[]:=by rfl) (hst:X.stack=X.env::X.outer:=by rfl) (hfr:X.env.frame=some X.env.locals:=by rfl):
   PE X (.ListComp elt [⟨tg,iter,ifs,0⟩] scope pos) (bd4 nl fr wi g tc te):=by
 intro pins s σ H Q I h
 have hclos:closureFor scope X.env=pure (B5 X.env scope.names []):=ad2 fun p hp hf=>I.ok.has p.1 (ok.free p hp hf)
 rw[eval_ListComp];refine wpAny_comprehension_free (use:=none) rfl hs hclos ok.kind ok.names (cg2 (RR:=fun acc C=>compPost (model X.prog X.w) X.A X.xe none (EP X pins σ Q) acc C) hc hi hg ht he ok hex I h ?_ ?_)
 · intro D C s' H' I' q f ⟨m,hn⟩;exact ⟨m,hn,fun h' hs'=>⟨.ref D,H',I'.turned (t':=s'.toks) (fun b o hb e=>hs'.extBut b o hb e) f.1 f.2.1 f.2.2.2.1 f.2.2.2.2.1 f.2.2.2.2.2,rfl,q⟩⟩
 · intro D C0 cl fp pins1 σ1 H1 H2 s1 s2 e s' I2 fpa I1 cx;exact cw5 (fun a fv s''=>hx a fv s'' I.ok) hex hst hfr I2 fpa I1 cx
end
end L2
namespace L2
open PySem PySem.Spec PyProof.Rows
def aa1 (B:Heap)(l:List Env)(e:Addr)(cls a0 fv v2:Value)(h:Heap):Prop:=
 B.StaysIn h/\B.get? e=none/\h.FunFrames B l/\∃oe vs T oT ts,h.get? e=some oe/\(oe.cls=cls/\vs[0]? =some a0/\vs[2]? =some v2)/\oe.data= .fields vs/\vs[1]? =some (.ref T)/\B.get? T=none/\T≠e/\h.get? T=some oT/\oT.data= .fields ts/\ts[3]? =some fv
theorem aa1.at {B h:Heap}{l:List Env}{e:Addr}{cls a0 fv v2:Value}(x:aa1 B l e cls a0 fv v2 h):h.TracedAtW B e cls a0 fv:=by
 obtain ⟨_,_,_,oe,vs,T,oT,ts,h1,⟨h2,h3,_⟩,r⟩:=x;exact ⟨oe,vs,T,oT,ts,h1,⟨h2,h3⟩,r⟩
theorem aa1.fly {B h:Heap}{l:List Env}{e:Addr}{cls a0 v2:Value}(x:aa1 B l e cls a0 .none v2 h):Heap.FlyingW B l e cls a0 h:=⟨x.1,x.2.1,x.2.2.1,x.at⟩
section
variable {M:Model} {A:Around} {E:Value->Shared->Prop} {s:Shared} {B:Heap} {env:Env} {outer:List Env} {L e:Addr} {a0 v2:Value} {Q:Unit->Shared->Prop}
theorem cp6 {oe:Obj}{vs:Array Value}{head:Value}{hadNext:Bool}(hfr:A.frames=some (env::outer))(ff:s.heap.FunFrames B (env::outer))(hf:env.frame=some L)
   (he:s.heap.get? e=some oe) (st:B.StaysIn s.heap) (na:B.get? e=none) (hd:oe.data= .fields vs) (hz:1 < vs.size) (h0:vs[0]? =some a0) (h2:vs[2]? =some v2)
   (q:∀h',aa1 B (env::outer) e oe.cls a0 (rawInt L) v2 h'->s.heap.UpToSlots h'->Q () {s with heap:=h'}):
   wpAny M A (do let a <-frameOf env;let pl <-entryPlaceOf L hadNext;let b <-EntryCells.newEntry head a .none (rawInt L) .none pl;setField (.ref e) 1 b) Q E s:=by
 have nf:e∉(env::outer).filterMap (·.frame):=fun hm=>by
   obtain ⟨_,o,ho,hn⟩:=ff.mem hm;rw[he] at ho;cases ho;exact hn _ hd
 refine wpAny_bind (wpAny_frameOf_fun hfr ff hf fun g1 so=> ?_);refine wpAny_bind (wpAny_entryPlaceOf fun pl hpl=> ?_);unfold EntryCells.newEntry newFields;refine wpAny_bind (wpAny_newObj_type ?_ (hpl.sizeOk5 _ _ _ _ _));have e1:g1.get? e=some oe:=(so.2.1 e nf).trans he
 have st1:B.StaysIn g1:=fun b o hb=>(so.2.1 b fun hm=>by rw[(ff.mem hm).1] at hb;cases hb).trans (st b o hb)
 generalize eF:({cls:= .type "traceback",dict:=none,data:= .fields ([head,.ref L,.none,rawInt L,.none]++(if pl.isEmpty then dw2 6 Value.none else pl)).toArray}:Obj)=oF;have e2:(g1.push oF).get? e=some oe:=Heap.get?_push_of_some _ e1;have nT:g1.objs.size≠e:=Nat.ne_of_gt (Heap.lt_size e1);refine wpAny_setField e2 hd hz (q _ ⟨fun b o hb=> ?_,na,?_,?_⟩ fun b o hb hn=> ?_)
 · have nb:b≠e:=fun z=>by rw[z,na] at hb;cases hb
   show ((g1.push oF).update e _).get? b=_;rw[Heap.get?_update_other _ _ nb.symm];exact Heap.get?_push_of_some _ (st1 b o hb)
 · refine ff.of_keeps fun b o hb hn=> ?_
   obtain ⟨sl,h3⟩:=so.2.2 b o hb
   have nb:b≠e:=fun z=>by rw[z,he] at hb;cases hb;exact hn _ hd
   exact ⟨{o with slots:=sl},by show ((g1.push oF).update e _).get? b=_;rw[Heap.get?_update_other _ _ nb.symm];exact Heap.get?_push_of_some _ h3,rfl⟩
 · have d3:=Obj.data_mapFields hd (·.setIfInBounds 1 (Value.ref g1.objs.size))
   have dF:oF.data= .fields ([head,.ref L,.none,rawInt L,.none]++(if pl.isEmpty then dw2 6 Value.none else pl)).toArray:=by rw[<-eF]
   refine ⟨_,_,g1.objs.size,oF,_,Heap.get?_update_self _ e2 (Obj.isFreed_of_fields d3),⟨Obj.cls_mapFields _ _,?_,?_⟩,d3,by simp [hz],st1.fresh,nT,?_,dF,by simp⟩
   · rw[eg6 (by decide)];exact h0
   · rw[eg6 (by decide)];exact h2
   · show ((g1.push oF).update e _).get? _=_;rw[Heap.get?_update_other _ _ nT.symm];exact Heap.get?_push_size _ (by rw[<-eF];rfl)
 · obtain ⟨sl,h3⟩:=so.2.2 b o hb
   have nb:b≠e:=fun z=>by rw[z,he] at hb;cases hb;exact hn _ hd
   exact ⟨sl,by show ((g1.push oF).update e _).get? b=_;rw[Heap.get?_update_other _ _ nb.symm];exact Heap.get?_push_of_some _ h3⟩
theorem bz2 {oe:Obj}{vs:Array Value}(hfr:A.frames=some (env::outer))(ff:s.heap.FunFrames B (env::outer))(hf:env.frame=some L)
   (he:s.heap.get? e=some oe) (st:B.StaysIn s.heap) (na:B.get? e=none) (hd:oe.data= .fields vs) (h1:vs[1]? =some .none) (h0:vs[0]? =some a0) (h2:vs[2]? =some v2)
   (q:∀h',aa1 B (env::outer) e oe.cls a0 (rawInt L) v2 h'->s.heap.UpToSlots h'->Q () {s with heap:=h'}):wpAny M A (noteFrame (.ref e) env) Q E s:=by
 unfold noteFrame;simp only[hf];refine wpAny_bind (wpAny_field he hd h1 ?_);rw[if_neg (by decide)];exact cp6 hfr ff hf he st na hd (dw9.mp h1).1 h0 h2 q
theorem cg3 {cls:Value}(hfr:A.frames=some (env::outer))(hf:env.frame=some L)(x:aa1 B (env::outer) e cls a0 .none v2 s.heap)
   (q:∀h',aa1 B (env::outer) e cls a0 (rawInt L) v2 h'->s.heap.UpToSlots h'->Q () {s with heap:=h'}):wpAny M A (noteFrame (.ref e) env) Q E s:=by
 obtain ⟨st,na,ff,oe,vs,T,oT,ts,g1,⟨g2,g3,g4⟩,g5,g6,g7,g8,g9,g10,g11⟩:=x;unfold noteFrame;simp only[hf];refine wpAny_bind (wpAny_field g1 g5 g6 ?_);rw[if_pos (by simp:(Value.ref T !=Value.none)=true)];refine wpAny_bind (wpAny_field g9 g10 g11 ?_);rw[if_neg (by simp [rawInt])];refine wpAny_bind (wpAny_setField g9 g10 (dw9.mp g11).1 ?_)
 have oth:∀b,b≠T->(s.heap.update T (Obj.mapFields (·.setIfInBounds 3 Value.none))).get? b=s.heap.get? b:=fun b hb=>Heap.get?_update_other _ _ fun z=>hb z.symm
 have rec0:∀b o,s.heap.get? b=some o->(∀vs,o.data≠.fields vs)->b≠T:=fun b o hb hn z=>by
   subst z;rw[g9] at hb;cases hb;exact hn _ g10
 refine cp6 (s:={s with heap:=s.heap.update T (Obj.mapFields (·.setIfInBounds 3 Value.none))}) hfr (ff.of_keeps fun b o hb hn=>⟨o,(oth b (rec0 b o hb hn)).trans hb,rfl⟩) hf ((oth e (fun z=>g8 z.symm)).trans g1)
   (fun b o hb=>(oth b fun z=>by rw[z,g7] at hb;cases hb).trans (st b o hb)) na g5 (dw9.mp g6).1 g3 g4 fun h' hc up=>q h' (g2▸hc) fun b o hb hn=>up b o ((oth b (rec0 b o hb hn)).trans hb) hn
theorem bh6 {l:List Env}{cls fv:Value}(x:aa1 B l e cls a0 fv v2 s.heap)(q:∀h',aa1 B l e cls a0 .none v2 h'->s.heap.UpToSlots h'->Q () {s with heap:=h'}):wpAny M A (setFlight (.ref e) none) Q E s:=by
 obtain ⟨st,na,ff,oe,vs,T,oT,ts,g1,⟨g2,g3,g4⟩,g5,g6,g7,g8,g9,g10,g11⟩:=x;have hz:=(dw9.mp g11).1
 have oth:∀b,b≠T->(s.heap.update T (Obj.mapFields (·.setIfInBounds 3 ((none:Option Addr).elim Value.none fun f=>rawInt f)))).get? b=s.heap.get? b:=fun b hb=>Heap.get?_update_other _ _ fun z=>hb z.symm
 have rec0:∀b o,s.heap.get? b=some o->(∀vs,o.data≠.fields vs)->b≠T:=fun b o hb hn z=>by
   subst z;rw[g9] at hb;cases hb;exact hn _ g10
 unfold setFlight;refine wpAny_bind (wpAny_field g1 g5 g6 ?_);rw[if_pos (by simp:(Value.ref T !=Value.none)=true)];refine wpAny_setField g9 g10 hz (q _ ⟨fun b o hb=>(oth b fun z=>by rw[z,g7] at hb;cases hb).trans (st b o hb),na,ff.of_keeps fun b o hb hn=>⟨o,(oth b (rec0 b o hb hn)).trans hb,rfl⟩,oe,vs,T,_,_,(oth e (fun z=>g8 z.symm)).trans g1,⟨g2,g3,g4⟩,g5,g6,g7,g8,Heap.get?_update_self _ g9 (Obj.isFreed_of_fields (Obj.data_mapFields g10 _)),Obj.data_mapFields g10 _,by simp [hz]⟩ fun b o hb hn=>⟨o.slots,(oth b (rec0 b o hb hn)).trans hb⟩)
end
section
variable {X:Cx}
theorem bn9:plainId "proto.unchain"=true:=by decide+kernel
theorem bo0:entryFor table "proto.unchain"=some Builtin.«proto.unchain»:=entryFor_of_fast (by kernel_rfl)
theorem dr0 {α:Type}{t:Sem α}{Q Q':α->Shared->Prop}{M:Model}{A:Around}{E:Value->Shared->Prop}{s:Shared}(h:wpAny M A t Q (fun _ _=>False) s)(hQ:∀a s',Q a s'->Q' a s'):wpAny M A t Q' E s:=wpAny_mono h hQ fun _ _ x=>False.elim x
theorem cg4 {x:Str}{C a:Addr}{e:Expr}{te:TE}{np cpos pos kp:Pos}{k0:Nat}{pins:List (Addr×Obj)}{s:Shared}{σ:St}{H:Hp}{Q:Flow->Shared->Prop}{EE:Value->Shared->Prop}(c:Z8 X.K X.mg x C)(he:PE (X.marked a) e te)
   {oa:Obj} {wa:Array Value} (I:j5 (X.marked a) ((a,oa)::pins) σ H s) (ha2:oa.data= .fields wa) (ha3:wa[2]? =some .none) (h:te σ H fun v H1=>H1=H) (hg:Gl X x) (hs:starEach [e] X.env=(false,eval e X.env)::starEach [] X.env) (hd:(x==("__debug__":Str))=false)
   (q:∀(s1:Shared) (h':Heap) (e2 t:Addr) (oe:Obj) (ws:Array Value) (v:Value),j5 (X.marked a) ((a,oa)::pins) σ H s1->(∀b o,s1.heap.get? b=some o->h'.get? b=some o)->s1.heap.get? e2=none->s1.heap.get? t=none->h'.get? e2=some oe->oe.cls= .ref C->oe.data= .fields ws->ws[0]? =some (.ref t)->ws[1]? =some .none->h'.TupAt t [v]->EE (.ref e2) {s1 with heap:=h'}):
   wpAny (model X.prog X.w) (X.A.mark (some (.ref a))) (exec (.Raise (some (.Call (.Name x np) [e] [] cpos)) (some (.Constant .none k0 kp)) pos) X.env) Q EE s:=by
 obtain ⟨bm,N,nm,qn,bs,hdct,sn,sub,ab,col,dd,k0,k1,k2,k3,k5,mN,hC,hN,hni,T⟩:=ca7 I.ok.mod.kin c.ex;rw[arm_exec_Raise];refine wpAny_bind (wpAny_standAt ?_);unfold raiseStmt;refine wpAny_bind (wpAny_bind (wpAny_Call_ofName (Y4 (X:=X.marked a) I hg c.mg ?_ hd)));rw[hs];unfold callWith;refine wpAny_bind (wpAny_holding (Calls.evalArgs_plain (Calls.spliced_cons (dr0 (he _ s σ H _ I h) fun v s1 ⟨y,H1,I1,rx,q⟩=>Calls.spliced_nil (wpAny_bind (wpAny_standAt ?_))))));subst q;have hC1:=I1.kIn _ _ hC;have hN1:=hN.keeps I1.bk;have T1:=T.keeps I1.bk;obtain ⟨hp,g,d,tks,os⟩:=s1;refine wpAny_bind (wpAny_keeperOf_exc hC1 ?_);refine wpAny_bind (wpAny_call_exc_subT (hrest:=(by show 1<=sizeLine;decide)) PySem.F.excBase_ValueError T1 hC1 hN1 hni fun h' e' hm=>wpAny_bind (wpAny_holding (wpAny_point (wpAny_pure ?_))));refine wpAny_bind (wpAny_standAt (wpAny_pure ?_));obtain ⟨t,ht,tn,tt⟩:=hm.there;have hC2:=hm.keeps _ _ hC1
 have hB:(Value.ref C::bm).contains (.type "BaseException")=true:=by rw[List.contains_cons,T.hasType PySem.F.excBase_ValueError.hasBase,Bool.or_true]
 repeat (first|(with_reducible refine wpAny_loadPart_at ht ?_)|(with_reducible refine wpAny_loadPart_at hC2 ?_)|(with_reducible refine wpAny_isSubtype_exc hC2 ?_;rw[hB])|wp_step)
 have nC:e'≠C:=fun z=>by rw[z] at ht;rw[hC2] at ht;cases ht
 have hC3:((h'.update e' (Obj.mapFields fun x=>x.setIfInBounds 3 Value.none)).update e' (Obj.mapFields fun x=>x.setIfInBounds 4 (Value.bool true))).get? C=some (excClassObj nm qn C N bs bm hdct sn sub ab col dd k0 k1 k2 k3 k5 "ValueError.__new__"):=by
   rw[Heap.get?_update_other _ _ nC,Heap.get?_update_other _ _ nC];exact hC2
 repeat (first|(with_reducible refine wpAny_loadPart_at hC3 ?_)|wp_step)
 unfold raiseNew;refine wpAny_bind (wpAny_handled ?_);have hh:(X.A.mark (some (.ref a))).handled=some (.ref a):=rfl;rw[hh]
 dsimp only
 have pa:=(I1.pin (a,oa) (du0 _ dt6)).1
 have na:a≠e':=fun z=>by
   have:=hm.new;rw[<-z] at this;rw[this] at pa;cases pa
 rw[if_pos (by simpa using na)];have pa2:=hm.keeps _ _ pa
 have pa3:((h'.update e' (Obj.mapFields fun x=>x.setIfInBounds 3 Value.none)).update e' (Obj.mapFields fun x=>x.setIfInBounds 4 (Value.bool true))).get? a=some oa:=by
   rw[Heap.get?_update_other _ _ (fun z=>na z.symm),Heap.get?_update_other _ _ (fun z=>na z.symm)];exact pa2
 refine wpAny_bind (wpAny_holding (wpAny_runValue (codeAny_builtin bo0 ?_)));rw[Around.under_plainId bn9 _];show wpAny _ _ (do let context <-field (.ref a) 2;if (context==Value.none)=true then _ else _) _ _ _;refine wpAny_bind (wpAny_field pa3 ha2 ha3 ?_);rw[if_pos (by decide:(Value.none==Value.none)=true)];refine wpAny_pure ?_;show wpAny _ _ (do setField (.ref e') 2 (.ref a);throw (.ref e')) Q EE _;have f1:({cls:=Value.ref C,data:= .fields #[.ref t,.none,.none,.none,.bool false,.none]}:Obj).data= .fields #[.ref t,.none,.none,.none,.bool false,.none]:=rfl;have f2:=Obj.data_mapFields f1 (fun x=>x.setIfInBounds 3 Value.none);have g2:=Heap.get?_update_self (Obj.mapFields fun x=>x.setIfInBounds 3 Value.none) ht (Obj.isFreed_of_fields f2);have f3:=Obj.data_mapFields f2 (fun x=>x.setIfInBounds 4 (Value.bool true));have g3:=Heap.get?_update_self (Obj.mapFields fun x=>x.setIfInBounds 4 (Value.bool true)) g2 (Obj.isFreed_of_fields f3);have f4:=Obj.data_mapFields f3 (fun x=>x.setIfInBounds 2 (Value.ref a));have g4:=Heap.get?_update_self (Obj.mapFields fun x=>x.setIfInBounds 2 (Value.ref a)) g3 (Obj.isFreed_of_fields f4);refine wpAny_bind (wpAny_setField g3 f3 (by simp) (wpAny_throw ?_));refine q ⟨hp,g,d,tks,os⟩ _ e' t _ _ v I1 (fun b o hb=> ?_) hm.new tn g4 ?_ f4 rfl rfl ?_
 · have nb:e'≠b:=fun z=>by
     have:=hm.new;rw[z] at this;rw[hb] at this;cases this
   rw[Heap.get?_update_other _ _ nb,Heap.get?_update_other _ _ nb,Heap.get?_update_other _ _ nb];exact hm.keeps b o hb
 · rw[Obj.cls_mapFields,Obj.cls_mapFields,Obj.cls_mapFields]
 · have nt:e'≠t:=fun z=>by
     rw[<-z,ht] at tt;cases tt
   exact ⟨_,_,by rw[Heap.get?_update_other _ _ nt,Heap.get?_update_other _ _ nt,Heap.get?_update_other _ _ nt];exact tt,rfl,rfl⟩
theorem cw6 {E:XK}{a:Addr}{fv:Value}{s':Shared}(hx:∀a fv s'',bb8 X E a fv s''->X.xe (.ref a) s'')(hst:X.stack=X.env::X.outer)(hfr:X.env.frame=some X.env.locals)(h:bb8 X E a fv s'):cameBackBy (model X.prog X.w) X.A X.env X.xe (.ref a) s':=by
 obtain ⟨t,C,vs,B,H',os,bare,un,hok,kb,tb,⟨st,na,ff,oe,ws,T,oT,ts,e1,⟨e2,e3⟩,e4,e5,e6,e7,e8,e9,e10⟩,tup,tn,hE⟩:=h;unfold cameBackBy;refine wpAny_bind (wpAny_field e1 e4 e5 ?_);rw[if_neg (by simp)];unfold setFlight;refine wpAny_bind (wpAny_field e1 e4 e5 ?_);rw[if_pos (by simp)];refine wpAny_setField e8 e9 (dw9.mp e10).1 ?_
 have oth:∀b,b≠T->(s'.heap.update T (Obj.mapFields (·.setIfInBounds 3 (X.env.frame.elim Value.none fun f=>rawInt f)))).get? b=s'.heap.get? b:=fun b hb=>Heap.get?_update_other _ _ fun z=>hb z.symm
 have frT:∀b∈v0 X.stack,b≠T:=fun b hb z=>by
   obtain ⟨_,o1,ho1,hn⟩:=ff.mem hb;rw[z,e8] at ho1;cases ho1;exact hn _ e9
 have sub:∀b,b∈v0 X.outer->b∈v0 X.stack:=fun b hb=>by
   rw[hst];unfold v0 at hb ⊢;rw[dw6,hfr];exact dt8 _ hb
 have st2:B.StaysIn (s'.heap.update T (Obj.mapFields (·.setIfInBounds 3 (X.env.frame.elim Value.none fun f=>rawInt f)))):=fun b o q=>by
   rw[oth b (fun z=>by rw[z,e6] at q;cases q)];exact st b o q
 refine hx a (X.env.frame.elim Value.none fun f=>rawInt f) _ ⟨t,C,vs,B,H',os,bare,bh5 un kb tb st2 (fun b hb o ho=>⟨o.slots,?_⟩),hok,kb,tb,⟨st2,na,an1 ff (fun b hb=>oth b (frT b hb)),?_⟩,?_,tn,hE⟩
 · show (s'.heap.update T _).get? b=_;rw[oth b (frT b (sub b hb))];exact ho
 · refine ⟨oe,ws,T,_,_,?_,⟨e2,e3⟩,e4,e5,e6,e7,Heap.get?_update_self _ e8 (Obj.isFreed_of_fields (Obj.data_mapFields e9 _)),Obj.data_mapFields e9 _,?_⟩
   · show (s'.heap.update T _).get? a=_;rw[oth a (fun z=>e7 z.symm)];exact e1
   · have:=(dw9.mp e10).1;simp [this]
 · obtain ⟨o,n,h1,h3,h4⟩:=tup
   have tT:t≠T:=fun z=>by
     rw[z,e8] at h1;cases h1;rw[e9] at h4;cases h4
   exact ⟨o,n,by show (s'.heap.update T _).get? t=_;rw[oth t tT];exact h1,h3,h4⟩
theorem cw7 {E:XK}{e2 t C:Addr}{oe:Obj}{ws:Array Value}{v:Value}{A:Around}{h':Heap}{pins:List (Addr×Obj)}{s1:Shared}{σ:St}{H:Hp}{R:Value->Shared->Prop}(hex:X.ex=[])(hst:X.stack=X.env::X.outer)(hfr:X.env.frame=some X.env.locals)(hA:A.frames=some X.stack)
   (I:j5 X pins σ H s1) (kp:∀b o,s1.heap.get? b=some o->h'.get? b=some o) (n2:s1.heap.get? e2=none) (nt:s1.heap.get? t=none) (g:h'.get? e2=some oe) (gc:oe.cls= .ref C) (gd:oe.data= .fields ws) (w0:ws[0]? =some (.ref t)) (w1:ws[1]? =some .none) (tup:h'.TupAt t [v]) (hE:E (.ref C) none H)
   (q:∀s'',bb8 X E e2 (rawInt X.env.locals) s''->R (.ref e2) s''):notedBy (model X.prog X.w) A X.env R (.ref e2) {s1 with heap:=h'}:=by
 unfold notedBy noteFrame;simp only[hfr];refine wpAny_bind (wpAny_field g gd w1 ?_);rw[if_neg (by decide)]
 have b2:Un (v0 X.outer) [] X.H₀ H X.s₀.heap s1.heap:=by have:=I.base;rw[hex] at this;exact this
 have own:∀b o,X.s₀.heap.get? b=some o->b∉v0 X.outer->b∉v0 X.stack:=fun b o q hb=>av3 I hst hfr q hb
 have sub:∀b,b∈v0 X.outer->b∈v0 X.stack:=fun b hb=>by
   rw[hst];unfold v0 at hb ⊢;rw[dw6,hfr];exact dt8 _ hb
 have stB:(PySem.W.hideAll s1.heap (v0 X.stack)).StaysIn s1.heap:=fun b o z=>PySem.W.of_hideAll _ z
 have hin:∀env∈X.stack,∀b,env.frame=some b->b∈v0 X.stack:=fun env he b hb=>ee3.mpr ⟨env,he,hb⟩
 have ff:=PySem.W.funFrames_hide I.stack hin
 have ff1:h'.FunFrames (PySem.W.hideAll s1.heap (v0 X.stack)) X.stack:=an1 ff fun b hb=>by
   obtain ⟨_,o,ho,_⟩:=I.stack.mem hb;rw[ho];exact kp b o ho
 have kb:∀b o,X.s₀.heap.get? b=some o->X.H₀ b=none->b∉v0 X.outer->(PySem.W.hideAll s1.heap (v0 X.stack)).get? b=some o:=fun b o z n hb=>
   PySem.W.hideAll_get _ (b2.keep b o z n hb (by simp)) (own b o z hb)
 have tb:∀b o,X.s₀.heap.get? b=some o->b∉v0 X.outer->∃o',(PySem.W.hideAll s1.heap (v0 X.stack)).get? b=some o':=fun b o z hb=>by
   obtain ⟨o',e'⟩:=b2.there b o z (by simp);exact ⟨o',PySem.W.hideAll_get _ e' (own b o z hb)⟩
 have hk:=I.hok.hide I.stkFree;generalize PySem.W.hideAll s1.heap (v0 X.stack)=B at stB ff1 kb tb hk;have ff2:=ff1;rw[hst] at hA ff2
 refine wpAny_entryW (base:=B) hA ff2 hfr g (fun b o z=>kp b o (stB b o z)) (PySem.W.fresh_of_stays stB n2) gd (dw9.mp w1).1 w0 fun h2 ⟨x1,x2,x3,x4⟩=> ?_
 refine q _ ⟨t,C,[v],_,H,I.os,I.bare,bh5 b2 kb tb x1 (fun b hb o ho=> ?_),hk,kb,tb,⟨x1,PySem.W.fresh_of_stays stB n2,hst▸x2,gc▸x3⟩,?_,PySem.W.fresh_of_stays stB nt,hE⟩
 · exact x4 b o (kp b o ho) (ah2 I b (sub b hb) o ho)
 · obtain ⟨o,n,h1,h3,h4⟩:=tup;obtain ⟨sl,h5⟩:=x4 t o h1 (fun vs z=>by rw[h4] at z;cases z);exact ⟨_,n,h5,h3,h4⟩
end
end L2
namespace L2
open PySem PySem.Spec PyProof.Rows
def CX2 (P:Program)(w:World):CXT:=fun outer H s E e s'=>Q8 P w outer H s E e s'/\∃a oe ws,e= .ref a/\s'.heap.get? a=some oe/\oe.data= .fields ws/\ws[2]? =some .none
section
variable {P:Program} {w:World} {K:PySem.W.Frag} {mg:Str->Option Value} {base:Heap} {N:List Str} {qual:Str} {scope:Scope} {f:Addr} {cd:Value} {A:Around} {outer:List Env} {s₀:Shared} {H₀:Hp} {E:XK}
theorem be9:bs0 (U5 (CX2 P w) P w K mg base N qual scope f cd A outer s₀ H₀ E) E:=by
 intro pins σ H s h' e C vs I hx hE;show wpAny (model P w) _ (leaving (envOfC qual scope s₀.heap.objs.size f cd) (.ref e)) _ _ _;have hst:(U5 (CX2 P w) P w K mg base N qual scope f cd A outer s₀ H₀ E).stack=(U5 (CX2 P w) P w K mg base N qual scope f cd A outer s₀ H₀ E).env::(U5 (CX2 P w) P w K mg base N qual scope f cd A outer s₀ H₀ E).outer:=rfl
 have hin:∀env∈(envOfC qual scope s₀.heap.objs.size f cd::outer),∀b,env.frame=some b->b∈v0 (envOfC qual scope s₀.heap.objs.size f cd::outer):=fun env he b hb=>ee3.mpr ⟨env,he,hb⟩
 have hsf:∀b∈v0 (envOfC qual scope s₀.heap.objs.size f cd::outer),H b=none:=I.stkFree;have hub:Un (v0 outer) [] H₀ H s₀.heap s.heap:=I.base
 have own:∀b o,s₀.heap.get? b=some o->b∉v0 outer->b∉v0 (envOfC qual scope s₀.heap.objs.size f cd::outer):=fun b o q hb=>av3 I hst rfl q hb
 have kb:∀b o,s₀.heap.get? b=some o->H₀ b=none->b∉v0 outer->(PySem.W.hideAll s.heap (v0 (envOfC qual scope s₀.heap.objs.size f cd::outer))).get? b=some o:=fun b o q n hb=>
   PySem.W.hideAll_get _ (hub.keep b o q n hb (by simp)) (own b o q hb)
 have tb:∀b o,s₀.heap.get? b=some o->b∉v0 outer->∃o',(PySem.W.hideAll s.heap (v0 (envOfC qual scope s₀.heap.objs.size f cd::outer))).get? b=some o':=fun b o q hb=>by
   obtain ⟨o',e'⟩:=hub.there b o q (by simp);exact ⟨o',PySem.W.hideAll_get _ e' (own b o q hb)⟩
 have stB:(PySem.W.hideAll s.heap (v0 (envOfC qual scope s₀.heap.objs.size f cd::outer))).StaysIn s.heap:=fun b o z=>PySem.W.of_hideAll _ z
 have ff:=PySem.W.funFrames_hide (show s.heap.FunFrames base (envOfC qual scope s₀.heap.objs.size f cd::outer) from I.stack) hin;have hk:J4 P w H (PySem.W.hideAll s.heap (v0 (envOfC qual scope s₀.heap.objs.size f cd::outer))):=I.hok.hide hsf;obtain ⟨t,he,tn,tt⟩:=hx.there
 have ff1:h'.FunFrames (PySem.W.hideAll s.heap (v0 (envOfC qual scope s₀.heap.objs.size f cd::outer))) (envOfC qual scope s₀.heap.objs.size f cd::outer):=an1 ff fun b hb=>by
   obtain ⟨_,o,ho,_⟩:=I.stack.mem (show b∈v0 _ from hb);rw[ho];exact hx.keeps b o ho
 unfold leaving;refine wpAny_bind (bz2 (L:=s₀.heap.objs.size) (a0:= .ref t) (v2:= .none) I.ok.frames ff1 rfl he (fun b o z=>hx.keeps b o (stB b o z)) (PySem.W.fresh_of_stays stB hx.new) rfl rfl rfl rfl fun h1 hc up=> ?_)
 refine bh6 hc fun h2 hc2 up2=> ?_
 have up':s.heap.UpToSlots h2:=(Heap.UpToSlots.of_keeps hx.keeps).trans (Heap.UpToSlots.trans up up2);have fl:=hc2.fly;refine ⟨⟨e,t,C,vs,_,H,rfl,I.os,I.bare,am2 hub kb tb fl.1 up' (fun b hb o ho=> ?_),hk,kb,tb,⟨fl.1,fl.2.1,fl.2.2.1.2.2,fl.2.2.2⟩,?_,PySem.W.fresh_of_stays stB tn,hE⟩,?_⟩
 · exact ah2 I b (by show b∈v0 (envOfC qual scope s₀.heap.objs.size f cd::outer);unfold v0 at hb ⊢;rw[dw6];exact dt8 _ hb) o ho
 · have t0:h'.TupAt t vs:=⟨_,_,tt,rfl,rfl⟩;exact t0.of_slots (Heap.UpToSlots.trans up up2)
 · obtain ⟨_,_,_,oe,ws,T,oT,ts,g1,⟨_,_,g4⟩,g5,_⟩:=hc2;exact ⟨e,oe,ws,rfl,g1,g5,g4⟩
theorem E6.okx2 {x qual:Str}{st:Stmt}{f:Addr}{fd:FuncData}{N ps:List Str}{k:Nat}{sp:Sp}(F:E6 K x qual st f fd)(S:y7 N ps (o7 st))(len:∀vs H Q E,sp vs H Q E->vs.length=ps.length)
   (hbody:∀(cdv:Value) (A:Around) (outer:List Env) (s:Shared) (H:Hp) (vs:List V) (Q:VK) (E:XK),A4 k (A.deeper (envOfC qual (o7 st) s.heap.objs.size f cdv))->sp vs H Q E->
     ∃t,Z0 (U5 (CX2 P w) P w K mg base N qual (o7 st) f cdv A outer s H E) (W0 st) t/\t {nx:=fun _ H'=>Q .non H',rt:=Q} (ab8 N vs) H):w6 P w K mg base (CX2 P w) (k+1) f fd ps sp:=by
 obtain ⟨oc,od,kV,doc,pm,an,cdv,ct,osl,rfl,lk,hcd⟩:=F.ex
 exact ce4 lk hcd S len fun A outer s H vs Q E hr hsp=>hbody cdv A outer s H vs Q E hr hsp
def bf0 (P:Program)(w:World)(K:PySem.W.Frag)(mg:Str->Option Value)(base:Heap)(x:Str)(k:Nat)(ps:List Str)(sp:Sp):Prop:=
 ∃(f:Addr) (fd:FuncData),mg x=some (.ref f)/\PySem.W.keepIn K (.ref f)=true/\Z2 K fd ps []/\w6 P w K mg base (CX2 P w) k f fd ps sp
theorem cw8 {h:Heap}{x:Str}{st:Stmt}{f:Addr}{fd:FuncData}{ps:List Str}{k:Nat}{sp:Sp}(X:K.In h)(G:h.Ns mainGlobals mg)(a:PySem.W.nsIn K mainGlobals x=some (some (.ref f)))(F:E6 K x x st f fd)(b:Z2 K fd ps [])(ok:w6 P w K mg base (CX2 P w) k f fd ps sp):bf0 P w K mg base x k ps sp:=⟨f,fd,PySem.W.mg_of X G a,F.kp,b,ok⟩
end
section
variable {X:Cx} {x y cx dx:Str} {k:Nat} {ps:List Str} {sp:Sp} {e:Expr} {es:List Expr} {t:TA}
theorem cw9 {p pos:Pos}{pins:List (Addr×Obj)}{σ:St}{H:Hp}{s:Shared}{Q:VK}{E:XK}{E1:Value->Shared->Prop}(c:bf0 X.prog X.w X.K X.mg X.base x k ps sp)(hr:A4 k X.A)(ha:PA X.nox (e::es) t)(I:j5 X pins σ H s)
   (hx:∀(H1:Hp) (s1:Shared) (e:Value) (s':Shared),j5 X pins σ H1 s1->CX2 X.prog X.w X.stack H1 s1 E e s'->E1 e s') (h:aj4 sp [] E t σ H Q) (hg:Gl X x) (hdb:(x==("__debug__":Str))=false)
   (he:starEach (e::es) X.env=(false,eval e X.env)::starEach es X.env) (hpl:(backTo pos (starEach es X.env)).any (·.1)=false):
   wpAny (model X.prog X.w) X.A (eval (.Call (.Name x p) (e::es) [] pos) X.env) (EP X pins σ Q) E1 s:=by
 obtain ⟨f,fd,h1,h2,h3,h4⟩:=c;have Iw:j5 (X.wish E1) pins σ H s:=I.wish E1;refine wpAny_Call_Name_kw (Y4 (E:=E1) I hg h1 ?_ hdb);refine PySem.W.callWith_K (h₀:=X.base) I.ok.mod.kin h2 (A3 ((PA.any ha E1) pos pins s σ H _ Iw h) fun us s1 ⟨vs,H1,I1,r,q⟩=>⟨I1.kIn,?_⟩) he hpl;have I1':j5 X pins σ H1 s1:=I1.unwish
 have r2:r6 (vs++[]) us:=by rw[dw7];exact r
 have hl:(us++[]).length=ps.length:=by rw[dw7,<-r2.length];exact h4.len _ _ _ _ q
 have hb:=h3 s1 us I1'.kIn hl;rw[dw7] at hb;refine wpAny_call (codeAny_mono (h4.run X.A X.stack s1 H1 ⟨us,[]⟩ us (vs++[]) Q E hr I1'.env0 hb r2 q) fun rr s' hq=> ?_)
 cases rr with
 |error e=>exact hx H1 s1 e s' I1' hq
 |ok fl=>
  cases fl with
  |ret u=>exact I1'.after hq
  |next=>exact False.elim hq
  |brk=>exact False.elim hq
  |cont=>exact False.elim hq
theorem dd0 {i:Nat}{p py pos sp' np hp dp cpos kp rpos tpos mp:Pos}{k0 k1:Nat}{msg:Str}{T D:Addr}{E:XK}(hx:∀a fv s'',X.Ok->bb8 X E a fv s''->X.xe (.ref a) s'')(c:bf0 X.prog X.w X.K X.mg X.base x k ps sp)(hr:A4 k X.A)(hN:X.N.Nodup)(hi:X.N[i]? =some y)(hy:Loc X.env.scope y)(ha:PA X.nox (e::es) t)(hm:X.mg cx=some (.ref T))(d:Z8 X.K X.mg dx D)
   (hg:Gl X x:=by rfl) (hgc:Gl X cx:=by rfl) (hgd:Gl X dx:=by rfl) (hdb:(x==("__debug__":Str))=false:=by decide) (hdc:(cx==("__debug__":Str))=false:=by decide) (hdd:(dx==("__debug__":Str))=false:=by decide)
   (he:starEach (e::es) X.env=(false,eval e X.env)::starEach es X.env:=by rfl) (hpl:(backTo pos (starEach es X.env)).any (·.1)=false:=by rfl) (hsd:starEach [.Constant (.str msg) k1 mp] X.env=(false,eval (.Constant (.str msg) k1 mp) X.env)::starEach [] X.env:=by rfl)
   (hs:swapsWith (.Call (.Name x p) (e::es) [] pos) (some (.Name y py)) sp'.line X.env=pure false:=by rfl) (hf:X.fn y=true\/X.env.scope.names.lookup y=some .local:=by first|exact .inl rfl|exact .inr rfl|assumption)
   (hst:X.stack=X.env::X.outer:=by rfl) (hfr:X.env.frame=some X.env.locals:=by rfl) (hex0:X.ex=[]:=by rfl):
   PS X (.Try [.Assign [.Name y py] (.Call (.Name x p) (e::es) [] pos) sp'] [.ExceptHandler (some (.Name cx np)) none [.Raise (some (.Call (.Name dx dp) [.Constant (.str msg) k1 mp] [] cpos)) (some (.Constant .none k0 kp)) rpos] hp] [] [] tpos)
     (fun D' σ H=>aj4 sp [] (fun c _ H'=>∃C,c= .ref C/\PySem.W.exmOne X.K (.ref C) (.ref T)=some true/\E (.ref D) none H') t σ H fun v H1=>D'.nx (σ.set i (some v)) H1):=by
 intro pins s σ H D' I h
 have body:wpAny (model X.prog X.w) X.A (execs [.Assign [.Name y py] (.Call (.Name x p) (e::es) [] pos) sp'] X.env) (SP X pins D') (fun e s₁=>wpAny (model X.prog X.w) X.A (noteFrame e X.env) (fun _ s₂=>wpAny (model X.prog X.w) X.A (setFlight e none) (fun _ s₃=>wpAny (model X.prog X.w) X.A (handleBy e X.env [.ExceptHandler (some (.Name cx np)) none [.Raise (some (.Call (.Name dx dp) [.Constant (.str msg) k1 mp] [] cpos)) (some (.Constant .none k0 kp)) rpos] hp]) (SP X pins D') X.xe s₃) X.xe s₂) X.xe s₁) s:=by
   have first:wpAny (model X.prog X.w) X.A (exec (.Assign [.Name y py] (.Call (.Name x p) (e::es) [] pos) sp') X.env) (SP X pins D') (fun e s₁=>wpAny (model X.prog X.w) X.A (noteFrame e X.env) (fun _ s₂=>wpAny (model X.prog X.w) X.A (setFlight e none) (fun _ s₃=>wpAny (model X.prog X.w) X.A (handleBy e X.env [.ExceptHandler (some (.Name cx np)) none [.Raise (some (.Call (.Name dx dp) [.Constant (.str msg) k1 mp] [] cpos)) (some (.Constant .none k0 kp)) rpos] hp]) (SP X pins D') X.xe s₃) X.xe s₂) X.xe s₁) s:=by
     refine wpAny_Assign_Name (A3 (cw9 c hr ha I (fun H1 s1 e s' I1 hcx=> ?_) h hg hdb he hpl) fun v s1 ⟨y',H1,I1,r1,q1⟩=>ag2 I1 hN hi hy r1 (fun s2 I2=>show SP X pins D' .next s2 from ⟨_,H1,I2,q1⟩) hf) hs;obtain ⟨⟨a,t,C,vs,B,H',rfl,os,bare,un,hok,kb,tb',fl,tup,tn,C',hCe,hex,hE⟩,a',oa,wa,ea,c1,c2,c3⟩:=hcx;cases hCe;cases ea;rw[hst] at un fl kb tb'
     have hframes:X.A.frames=some (X.env::X.outer):=by rw[<-hst];exact I1.ok.frames
     have plain:∀b∈v0 (X.env::X.outer),∀o,s'.heap.get? b=some o->∀vs,o.data≠.fields vs:=fun b hb o ho=>by
       obtain ⟨_,o',ho',hn⟩:=fl.2.2.1.mem hb;rw[ho] at ho';cases ho';exact hn
     have notB:B.get? a=none:=fl.2.1
     have notF:a∉v0 (X.env::X.outer):=fun hm=>by
       obtain ⟨oe,ws,he,_,hd,_⟩:=fl.first;exact plain a hm oe he ws hd
     have hHa:H' a=none:=by
       cases q:H' a with
       |none=>rfl
       |some o=>obtain ⟨u,hu⟩:=(hok a o q).get;rw[notB] at hu;cases hu
     have hc0:aa1 B (X.env::X.outer) a (.ref C) (.ref t) .none .none s'.heap:=by
       obtain ⟨f1,f2,f3,oe,ws,T,oT,ts,g1,⟨g2,g3⟩,g4,r⟩:=fl;rw[g1] at c1;cases c1;rw[g4] at c2;cases c2;exact ⟨f1,f2,f3,_,_,T,oT,ts,g1,⟨g2,g3,c3⟩,g4,r⟩
     refine cg3 hframes hfr hc0 fun h₄ held₄ up₄=> ?_
     refine bh6 held₄ fun h₅ hc₅ up₅=> ?_
     have inv:∀h,B.StaysIn h->s'.heap.UpToSlots h->j5 X pins σ H' {s' with heap:=h}:=fun h st up=>
       I1.call' (ch:=[]) (s':={s' with heap:=h}) os (by rw[hst];exact am2 un kb tb' st up plain) (hok.kept st) bare (fun b z=>absurd z (by simp))
     have I5:=inv h₅ hc₅.1 (Heap.UpToSlots.trans up₄ up₅);refine wpAny_handleBy_cons (codeAny_handlers_test (Y4 (X:=X.marked a) (E:=_) (I5.mark a) hgc hm ?_ hdc)) (by intro q;cases q);obtain ⟨ob,hob,hobc⟩:=hc₅.fly.there;have LT:PySem.W.Looks (model X.prog X.w) h₅ (typeOf (.ref a)) (.ref C):=hobc▸(PySem.W.Looks.ld hob).andThen .now;refine PySem.W.exm_one (M:=model X.prog X.w) (h:=h₅) I5.kIn LT hex _ _ _ _ (fun _ _ q=>q) ?_;refine codeAny_handlers_suite ?_
     refine bh6 hc₅ fun h₆ hc₆ up₆=> ?_
     have I6:=inv h₆ hc₆.1 ((Heap.UpToSlots.trans up₄ up₅).trans up₆);obtain ⟨_,_,_,oe,ws,T6,oT,ts,g1,⟨g2,g3,g4⟩,g5,_⟩:=hc₆
     have hLa:a≠X.env.locals:=fun z=>notF (by unfold v0;rw[dw6,hfr];rw[z];exact dt6)
     have I7:j5 (X.marked a) ((a,oe)::pins) σ H' {s' with heap:=h₆}:=(I6.mark a).pins_of fun q hq=>by
       rcases dw1.mp hq with z|z
       · subst z;exact ⟨g1,hHa,hLa,fun z=>notF (by have z1:a∈v0 X.outer:=z;unfold v0 at z1 ⊢;rw[dw6,hfr];exact dt8 _ z1),fun v z=>by rw[g5] at z;cases z⟩
       · exact (I6.mark a).pin q (du0 _ z)
     refine wpAny_execs_cons (cg4 d o6 I7 g5 g4 rfl hgd hsd hdd fun s1 h' e2 t2 o2 w2 v2 J1 kp n2 nt q1 q2 q3 q4 q5 q6=> ?_);have J2:j5 X ((a,oe)::pins) σ H' s1:=J1.unmark I1.ok
     exact cw7 hex0 hst hfr (show (X.A.mark (some (.ref a))).frames=some X.stack from I1.ok.frames) J2 kp n2 nt q1 q2 q3 q4 q5 q6 hE fun s'' fx=>cw6 (fun a fv s''=>hx a fv s'' I1.ok) hst hfr fx
   refine wpAny_execs_cons (A3 first fun f s1 q=> ?_)
   cases f with
   |next=>exact wpAny_execs_nil q
   |ret v=>exact q
   |brk=>exact q
   |cont=>exact q
 refine wpAny_Try_except (wpAny_mono body (fun f s1 q=> ?_) fun _ _ z=>z)
 cases f with
 |next=>exact wpAny_execs_nil q
 |ret v=>exact q
 |brk=>exact q
 |cont=>exact q
end
end L2
namespace My
open PySem L2 Mth
section
variable {P:Program} {w:World} {K:PySem.W.Frag} {mg:Str->Option Value} {base:Heap} {zwy zzy zxx zzx zyy zx zyx zxz zzz zxy zwz:Addr}
theorem ai8 {as:List Addr}{j:Nat}{x:V}(h:(as.map V.ref)[j]? =some x):∃a,as[j]? =some a/\x=V.ref a:=by
 rw[du7] at h
 cases e:as[j]? with
 |none=>rw[e] at h;cases h
 |some a=>rw[e] at h;exact ⟨a,rfl,(Option.some.inj h).symm⟩
theorem an2 {H:Hp}{as:List Addr}{rs:List (List Int)}{j:Nat}{a:Addr}(rows:E2 H as rs)(h:as[j]? =some a):∃r,rs[j]? =some r/\H a=some (.lst (r.map V.int)):=by
 have il:j < rs.length:=by rw[<-rows.1];exact (dt9.mp h).1
 exact ⟨_,dt5 il,rows.2 j a _ h (dt5 il)⟩
def av4:Sp:=fun vs H Q _=>∃(l:Addr) (as:List Addr) (rs:List (List Int)),vs=[.ref l]/\H l=some (.lst (as.map V.ref))/\E2 H as rs/\[]∈rs/\Q (.bl false) H
theorem aa4:y7 ["rounds","ring"] ["rounds"] (o7 N7):=by rfl'
theorem as0 {f:Addr}{fd:FuncData}(F:E6 K "are_filled_lists" "are_filled_lists" N7 f fd)(B:Bl mg):w6 P w K mg base J8 1 f fd ["rounds"] av4:=by
 refine F.ok aa4 (fun vs H Q E h=> ?_) (fun cdv A outer s H vs Q E hr h=> ?_)
 · obtain ⟨l,as,rs,rfl,hl,rows,hne,q⟩:=h;rfl
 · obtain ⟨l,as,rs,rfl,hl,rows,hne,q⟩:=h;refine ⟨_,@i5 _ _ _ _ _ (@w9 _ _ _ _ _ _ _ _ (@J5 _ _ _ _ (@C6 _ _ _ (@C7 _ _ _ _ _ _ B.isi (@c9 _ _ _ _ _ (pv 0) (@c9 _ _ _ _ _ (@M4 _ _ B.list (by rfl)) (@i4 _) (by rfl)) (by rfl)) (by rfl) (by rfl) (by rfl)) (by intro _;rfl))) (@i7 _ _ _ (@o5 _ _ _ _ (@G1 _ _ _ _))) (@o9 _)) (@i5 _ _ _ _ _ (@I0 _ _ _ _ _ _ _ _ PassesOwn.never rfl (@E4 _ _ _ _ (pv 0)) (@y8 _ _ (1) _ aa4.nd rfl (Or.inl rfl) (by trivial)) (@i7 _ _ _ (@w9 _ _ _ _ _ _ _ _ (@M7 _ _ _ _ _ _ _ (@J5 _ _ _ _ (@C6 _ _ _ (@C7 _ _ _ _ _ _ B.isi (@c9 _ _ _ _ _ (pv 1) (@c9 _ _ _ _ _ (@M4 _ _ B.list (by rfl)) (@i4 _) (by rfl)) (by rfl)) (by rfl) (by rfl) (by rfl)) (by intro _;rfl))) (@Q1 _ _ _ _ (@m8 _ _ _ _ _ _ _ _ E5 (@A6 _ _ _ _ _ B.len (@c9 _ _ _ _ _ (pv 1) (@i4 _) (by rfl)) (by rfl) (by rfl)) (@i9 _ _ _ _) (o4 _)))).pt (@i7 _ _ _ (@o5 _ _ _ _ (@G1 _ _ _ _))) (@o9 _))) (by intro _;rfl)) (@i7 _ _ _ (@o5 _ _ _ _ (@G1 _ _ _ _)))),?_⟩;refine ⟨_,rfl,_,"list",_,true,rfl,.lst hl,M1 K "list",true,rfl,B9 ?_⟩;refine ⟨_,rfl,l,rfl,⟨_,j7.of hl⟩,N0 (K:=K) (a:=l) (xs:=as.map V.ref) (fun i σ H2=>∃v:Option V,σ=[some (.ref l),v]/\H2=H/\[]∉rs.take i) ⟨none,rfl,rfl,by rw[List.take_zero];exact ed8⟩ (fun i σ H2 _ zz=>by obtain ⟨_,_,e,_⟩:=zz;rw[e];exact j7.of hl) ?_ ?_⟩
   · rintro i y σ H2 hi ⟨v,rfl,rfl,no⟩;obtain ⟨e,he,rfl⟩:=ai8 hi;obtain ⟨r,hr,h2⟩:=an2 rows he;refine ⟨_,rfl,_,"list",_,true,rfl,.lst h2,M1 K "list",true,rfl,B9 ⟨_,rfl,e,_,rfl,.inl (j7.of h2),rfl,_,rfl,?_⟩⟩
     by_cases z:r=[]
     · subst z;exact A5 q
     · rw[decide_eq_false fun y=>z ?_]
       · refine B9 ⟨_,rfl,rfl,?_⟩;rw[w5 hr]
         exact fun y=>(du1.mp y).elim no fun y=>z (du4.mp y).symm
       · have y:=V.int.inj y;rw[dt3] at y;exact eh0 (by omega)
   · rintro σ H2 ⟨v,rfl,rfl,no⟩;rw[dt3,rows.1,dx2] at no;exact absurd hne no
theorem cp7 {n:Nat}(h:n<=100000):n < sizeLine:=by
 rw[sizeLine_eq];omega
def av5:Sp:=fun vs H Q _=>∃(l:Addr) (as:List Addr) (rs:List (List Int)),vs=[.ref l]/\H l=some (.lst (as.map V.ref))/\E2 H as rs/\rs.flatten.length<=100000/\
 ∀(o:Addr) (H':Hp),H o=none->i6 H H'->H' o=some (.lst (rs.flatten.map V.int))->Q (.ref o) H'
theorem ai9:y7 ["rounds","things","ring"] ["rounds"] (o7 Y2):=by rfl'
theorem bv2 {f:Addr}{fd:FuncData}(F:E6 K "things_in" "things_in" Y2 f fd):w6 P w K mg base J8 1 f fd ["rounds"] av5:=by
 refine F.ok ai9 (fun vs H Q E h=> ?_) (fun cdv A outer s H vs Q E hr h=> ?_)
 · obtain ⟨l,as,rs,rfl,hl,rows,hb,q⟩:=h;rfl
 · obtain ⟨l,as,rs,rfl,hl,rows,hb,q⟩:=h;refine ⟨_,@i5 _ _ _ _ _ (@m9 _ _ (1) _ _ _ _ ai9.nd rfl (Or.inl rfl) (@w4 _ _ _ _ (@i4 _)) (by rfl) (by trivial)) (@i5 _ _ _ _ _ (@I0 _ _ _ _ _ _ _ _ PassesOwn.never rfl (@E4 _ _ _ _ (pv 0)) (@y8 _ _ (2) _ ai9.nd rfl (Or.inl rfl) (by trivial)) (@i7 _ _ _ (@O0 _ _ _ _ (@bk6 _ _ _ _ _ _ _ (pv 1) (@c9 _ _ _ _ _ (pv 2) (@i4 _) (by rfl)) (by rfl) (by rfl) (by rfl) (by rfl) (by rfl)) (by rfl))) (by intro _;rfl)) (@i7 _ _ _ (@o5 _ _ _ _ (pv 1)))),?_⟩;refine ⟨dv5 _,fun o ho=> ?_⟩;have s0:i6 H (i8 H o (.lst [])):=i6.upd_new ho;refine ⟨_,rfl,l,rfl,⟨_,j7.of (s0 l _ hl)⟩,N0 (K:=K) (a:=l) (xs:=as.map V.ref) (fun i σ H2=>∃v:Option V,σ=[some (.ref l),some (.ref o),v]/\i6 H H2/\H2 o=some (.lst ((rs.take i).flatten.map V.int))) ⟨none,rfl,s0,j6⟩ (fun i σ H2 _ zz=>by obtain ⟨_,_,s,_⟩:=zz;exact j7.of (s l _ hl)) ?_ ?_⟩
   · rintro i y σ H2 hi ⟨v,rfl,s2,h2o⟩;obtain ⟨e,he,rfl⟩:=ai8 hi;obtain ⟨r,hr,h2⟩:=an2 rows he;have hle:=ai3 rs (i+1);rw[w5 hr,dx6,dy1,dt4] at hle;refine ⟨_,rfl,.inl ⟨rfl,_,j7.of h2o⟩,_,rfl,o,e,_,_,rfl,rfl,h2o,s2 _ _ h2,dz6 (cp7 (by rw[dt3,dt3];omega)),?_⟩;refine ⟨_,rfl,fun b u hb=>by rw[j8 (j9 hb ho)];exact s2 b u hb,?_⟩;rw[j6,w5 hr,dx6,dy1,du6]
   · rintro σ H2 ⟨v,rfl,s2,h2o⟩;rw[dt3,rows.1,dx2] at h2o;exact ⟨_,rfl,q o H2 ho s2 h2o⟩
theorem an3:y7 ["rounds","told","ring"] ["rounds"] (o7 U1):=be6
theorem cx0 {p q:List Int}(h:p.map V.int=q.map V.int):p=q:=(eh5 (fun x y (h:V.int x=V.int y)=>V.int.inj h)).mp h
def bh7 (q:Addr):Sp:=fun vs H _ E=>∃(l:Addr) (as:List Addr) (rs:List (List Int)),vs=[.ref l]/\H l=some (.lst (as.map V.ref))/\E2 H as rs/\¬((∀r∈rs,r≠[])/\G2 rs.flatten/\rs.flatten.length<=40)/\rs.flatten.length<=100000/\∀H',i6 H H'->E (.ref q) none H'
theorem bf1 {f:Addr}{fd:FuncData}(F:E6 K "from_rounds" "from_rounds" U1 f fd)(zwx:B7 P w K mg base "are_filled_lists" 1 ["rounds"] (ah4 aq4 av4))(zty:B7 P w K mg base "things_in" 1 ["rounds"] (ah4 aq5 av5))(zv:B7 P w K mg base "is_turn" 2 ["thing"] (ah4 ab4 (ay0 K)))(zuz:Z8 K mg "NoRounds" zzx):w6 P w K mg base (CX2 P w) 3 f fd ["rounds"] (bh7 zzx):=by
 refine F.okx2 an3 (fun vs H Q E h=> ?_) (fun cdv A outer s H vs Q E hr h=> ?_)
 · obtain ⟨l,as,rs,rfl,hl,rows,no,len,q⟩:=h;rfl
 · obtain ⟨l,as,rs,rfl,hl,rows,no,len,q⟩:=h;have zmy:A4 1 _:=hr.mono (by decide);have zhy:A4 1 _:=hr.mono (by decide);have znz:A4 2 _:=hr.mono (by decide);refine ⟨_,@i5 _ _ _ _ _ (@w9 _ _ _ _ _ _ _ _ (@J5 _ _ _ _ (@C6 _ _ _ (@q9 _ _ _ _ _ _ _ _ _ _ zwx zmy (@c9 _ _ _ _ _ (pv 0) (@i4 _) (by rfl)) (by rfl) (by decide) (by rfl) (by rfl)) (by intro _;rfl))) (@i7 _ _ _ (@aa7 _ _ _ _ _ _ _ _ _ be9 rfl zuz (@o6 _ _ _ _) (by rfl) (by rfl) (by decide))) (@o9 _)) (@i5 _ _ _ _ _ (@m9 _ _ (1) _ _ _ _ an3.nd rfl (Or.inl rfl) (@q9 _ _ _ _ _ _ _ _ _ _ zty zhy (@c9 _ _ _ _ _ (pv 0) (@i4 _) (by rfl)) (by rfl) (by decide) (by rfl) (by rfl)) (by rfl) (by trivial)) (@i5 _ _ _ _ _ (@w9 _ _ _ _ _ _ _ _ (@J5 _ _ _ _ (@C6 _ _ _ (@q9 _ _ _ _ _ _ _ _ _ _ zv znz (@c9 _ _ _ _ _ (pv 1) (@i4 _) (by rfl)) (by rfl) (by decide) (by rfl) (by rfl)) (by intro _;rfl))) (@i7 _ _ _ (@aa7 _ _ _ _ _ _ _ _ _ be9 rfl zuz (@o6 _ _ _ _) (by rfl) (by rfl) (by decide))) (@o9 _)) (@bj4 _ _))),?_⟩
   by_cases hne:[]∈rs
   · exact ⟨_,rfl,.inr ⟨l,as,rs,rfl,hl,rows,hne,false,rfl,A5 (q H (i6.refl H))⟩⟩
   · have ne:∀r∈rs,r≠[]:=fun r hr e=>hne (e▸hr)
     refine ⟨_,rfl,.inl ⟨l,as,rs,rfl,hl,rows,ne,true,rfl,B9 ⟨_,rfl,.inr ⟨l,as,rs,rfl,hl,rows,len,fun o H1 ho s1 h1=>⟨_,rfl,.inr ⟨_,rfl,?_,fun H2 s2=>⟨false,rfl,A5 (q H2 (s1.trans s2))⟩⟩⟩⟩⟩⟩⟩;refine .inr ⟨o,_,rfl,h1,fun x hx=> ?_,fun p e l t=>no ⟨ne,?_⟩⟩
     · obtain ⟨i,_,rfl⟩:=dv3.mp hx;exact .inl ⟨i,rfl⟩
     · rw[cx0 e];exact ⟨t,l⟩
end
end My
namespace L2
open PySem PySem.Builtin PySem.Builtin.Str PySem.StrLaws
theorem bh8 (a b:Str):(a++b).cps.toList=a.cps.toList++b.cps.toList:=by rw[Str.cps_append,dw3]
end L2
namespace Mth
open L2 (M0)
def bb9 (m:List Nat):List Nat:=40::m++[41]
theorem ay1:∀{k m R S:List Nat},41∉k->41∉m->k++41::R=m++41::S->k=m
 |[],[],_,_,_,_,_=>rfl
 |[],y::m,R,S,_,hm,e=>by
  injection e with e1 _
  exact absurd (e1▸dt6) hm
 |x::k,[],R,S,hk,_,e=>by
  injection e with e1 _
  exact absurd (e1▸dt6) hk
 |x::k,y::m,R,S,hk,hm,e=>by
  injection e with e1 e2
  rw[e1,ay1 (fun z=>hk (dt8 _ z)) (fun z=>hm (dt8 _ z)) e2]
theorem cg5 {t:List Int}{rs:List (List Int)}(al:af0 t rs)(fl:rs.flatten.Perm (M0 0 t.length)):t.Perm rs.flatten:=by
 have e:(rs.flatten.map (G5 t))=((rs.map fun r=>r.drop 1++r.take 1).flatten).map some:=by
   rw[List.map_flatten,List.map_flatten,ea6]
   congr 1
   refine ea4 fun r hr=> ?_
   exact cn4 (al r hr)
 have p1:(t.map some).Perm (((rs.map fun r=>r.drop 1++r.take 1).flatten).map some):=by
   rw[<-at7,<-e];exact (fl.map _).symm
 have p2:=p1.filterMap id
 have fm:∀l:List Int,(l.map some).filterMap id=l:=fun l=>by rw[List.filterMap_map];exact List.filterMap_some
 rw[fm,fm] at p2;refine p2.trans ?_;clear p1 p2 e fl al
 induction rs with
 |nil=>exact List.Perm.refl _
 |cons r rs ih=>
  rw[dv7,dx7,dx7];refine List.Perm.append ?_ ih;have:=eb7 (l₁:=r.drop 1) (l₂:=r.take 1)
  rwa [dz5] at this
theorem ac9 {t:List Int}{rs:List (List Int)}(al:af0 t rs)(fl:rs.flatten.Perm (M0 0 t.length)):G2 t:=(ab9 ((cg5 al fl).trans fl)).1
theorem bz3 {t:List Int}{rs:List (List Int)}(al:af0 t rs)(fl:rs.flatten.Perm (M0 0 t.length))(hd:∀r∈rs,r≠[]/\∀y∈r,r.getD 0 0<=y):aa0 t rs:=by
 have tt:=ac9 al fl;refine ⟨fun r hr=> ?_,fl⟩;obtain ⟨ne,lo⟩:=hd r hr;have r0:0 < r.length:=ec3.mpr ne
 have hm:r.getD 0 0∈r:=by rw[dv6,dt5 r0];exact dx8 r0
 have hin:Mth.In t (r.getD 0 0):=M2.mp (fl.mem_iff.mp (dx5.mpr ⟨r,hr,hm⟩));obtain ⟨L,pr⟩:=br6 tt hin
 have eL:r.length=L:=by rw[<-cn5 al (fl.nodup_iff.mpr (O6 _)) r hr _ hm];exact ao8 pr
 subst eL;refine ⟨r.getD 0 0,r.length,hin,pr,dy8 fun i=> ?_,lo⟩
 by_cases hi:i < r.length
 · rw[bk4 hi,ap3 (al r hr) r0 i,ea0,dw0 hi,dv6,dt5 hi];rfl
 · rw[dv2 (by omega),dv2 (by rw[C8];omega)]
theorem bz4 {t:List Int}{rs:List (List Int)}(al:af0 t rs)(fl:rs.flatten.Perm (M0 0 t.length))(hd:∀r∈rs,r≠[]/\∀y∈r,r.getD 0 0<=y)(lx:ak1 rs):A0 t t.length=rs:=
 (bu1 (ac9 al fl) (P4 (ac9 al fl)) (bz3 al fl hd) (List.Perm.refl _) lx).symm
end Mth
namespace My
open PySem L2 Mth
section
variable {P:Program} {w:World} {K:PySem.W.Frag} {mg:Str->Option Value} {base:Heap}
theorem cp8 {r s:List Int}(nr:r≠[])(ns:s≠[])(br:∀x∈r,0<=x/\x < 40)(bs:∀x∈s,0<=x/\x < 40)(h:A2 r=A2 s):r=s:=by
 have sp:∀{r:List Int},r≠[]->(∀x∈r,0<=x/\x < 40)->Txt.split (A2 r) " "=r.map B0:=fun {r} ne br=>
   (ae9 (sep:=" ") (c0:=32) (rest:=[]) (by decide+kernel) (by simp) (fun t ht=>by
     obtain ⟨x,hx,rfl⟩:=dv3.mp ht
     exact (ai5 (br x hx).1 (br x hx).2).2.2.1) (by simpa using ne) (by decide+kernel)).1
 have e:=sp nr br;rw[h,sp ns bs] at e
 have key:∀{a b:List Int},(∀x∈a,0<=x/\x < 40)->(∀x∈b,0<=x/\x < 40)->b.map B0=a.map B0->a=b:=by
   intro a
   induction a with
   |nil=>
    intro b _ _ e
    cases b with
    |nil=>rfl
    |cons y b=>cases e
   |cons x a ih=>
    intro b ha hb e
    cases b with
    |nil=>cases e
    |cons y b=>
     rw[dv7,dv7] at e
     injection e with e1 e2
     have hx:=ha x dt6;have hy:=hb y dt6;rw[dc9 hx.1 hx.2 hy.1 hy.2 e1.symm,ih (fun z hz=>ha z (dt8 _ hz)) (fun z hz=>hb z (dt8 _ hz)) e2]
 exact key br bs e
theorem X0:∀rs:List (List Int),(ac8 rs).cps.toList=((rs.map fun r=>(A2 r).cps.toList).map bb9).flatten
 |[]=>by show (Str.ofString "").cps.toList=_;decide+kernel
 |r::rs=>by
  show (Str.ofString "("++A2 r++Str.ofString ")"++ac8 rs).cps.toList=_;rw[bh8,bh8,bh8,X0 rs,dv7,dv7,dx7];rfl
def Rw (r:List Int):Prop:=r≠[]/\∀x∈r,0<=x/\x < 40
theorem bv3:∀{ms ns:List (List Nat)},(∀k∈ms,41∉k)->(∀k∈ns,41∉k)->(ms.map bb9).flatten=(ns.map bb9).flatten->ms=ns
 |[],[],_,_,_=>rfl
 |[],n::ns,_,_,e=>by cases e
 |m::ms,[],_,_,e=>by cases e
 |m::ms,n::ns,hm,hn,e=>by
  rw[dv7,dv7,dx7,dx7] at e;unfold bb9 at e;simp only[ec8,dv0,List.singleton_append] at e
  injection e with _ e
  have e1:=ay1 (hm m dt6) (hn n dt6) e;subst e1;have e2:=ei9 e
  injection e2 with _ e2
  rw[bv3 (fun k hk=>hm k (dt8 _ hk)) (fun k hk=>hn k (dt8 _ hk)) e2]
theorem av6:∀{rs ss:List (List Int)},(∀r∈rs,Rw r)->(∀r∈ss,Rw r)->(rs.map fun r=>(A2 r).cps.toList)=(ss.map fun r=>(A2 r).cps.toList)->rs=ss
 |[],[],_,_,_=>rfl
 |[],n::ns,_,_,e=>by cases e
 |m::ms,[],_,_,e=>by cases e
 |m::ms,n::ns,hm,hn,e=>by
  rw[dv7,dv7] at e
  injection e with e1 e2
  have a:=hm m dt6;have b:=hn n dt6;rw[cp8 a.1 b.1 a.2 b.2 (O9 e1),av6 (fun k hk=>hm k (dt8 _ hk)) (fun k hk=>hn k (dt8 _ hk)) e2]
theorem bl8 {p:List Int}{rs:List (List Int)}(tp:G2 p)(up:E8 p p.length rs){r:List Int}(hr:r∈rs){j:Nat}(hj:j < r.length):G5 p (r.getD j 0)=some (r.getD ((j+1)%r.length) 0):=by
 obtain ⟨y,L,hy,pr,er,_⟩:=up.ring r hr;subst er;rw[C8] at hj ⊢;rw[S9 hj,S9 (ec4 _ pr.pos),cm1 (ae6 tp hy j)]
 by_cases z:j+1=L
 · rw[z,eh1];show some (it p (j+1) y)=some y;rw[z,pr.back]
 · rw[dw0 (by omega)];rfl
theorem cg6 {p q:List Int}(tp:G2 p)(tq:G2 q)(h:A0 p p.length=A0 q q.length):p=q:=by
 have up:=P4 tp;have uq:=P4 tq;have fp:=W1 tp up;have fq:=W1 tq uq
 have hl:p.length=q.length:=by
   have a:=fp.length_eq;have b:=fq.length_eq;rw[L8] at a b;rw[<-a,<-b,h]
 refine dy8 fun i=> ?_
 by_cases hi:i < p.length
 · have hm:((i:Nat):Int)∈(A0 p p.length).flatten:=fp.mem_iff.mpr (M2.mpr ⟨by omega,by omega⟩);obtain ⟨r,hr,hir⟩:=dx5.mp hm;obtain ⟨j,hj⟩:=eg9 hir;have jl:=(dt9.mp hj).1
   have e:r.getD j 0=(i:Int):=by rw[dv6,hj];rfl
   have a:=bl8 tp up hr jl;have b:=bl8 tq uq (h▸hr) jl;rw[e] at a b;unfold G5 at a b;rw[dy7] at a b;rw[a,b]
 · rw[dv2 (by omega),dv2 (by omega)]
theorem Q7 {p:List Int}(tp:G2 p)(lp:p.length<=40):∀r∈A0 p p.length,Rw r:=fun r hr=>
 have:=(al3 tp lp (P4 tp)).2 r hr
 ⟨this.1,this.2.2⟩
theorem aj0 {p:List Int}(h:A0 p p.length≠[]):U8 p=ac8 (A0 p p.length):=by
 unfold U8
 cases e:A0 p p.length with
 |nil=>exact absurd e h
 |cons r rs=>rw[bl6]
theorem bl9 {p:List Int}(h:A0 p p.length=[]):(U8 p).cps.toList=[40,41]:=by
 unfold U8;rw[h]
 decide+kernel
theorem bm0 {p q:List Int}(tp:G2 p)(tq:G2 q)(lp:p.length<=40)(lq:q.length<=40)(h:U8 p=U8 q):p=q:=by
 have odd:∀{p q:List Int},G2 q->q.length<=40->A0 p p.length=[]->A0 q q.length≠[]->U8 p≠U8 q:=fun {p q} tq lq e n h=>by
   have a:=bl9 e;rw[h,aj0 n,X0] at a
   cases e2:A0 q q.length with
   |nil=>exact n e2
   |cons r rs=>
    rw[e2,dv7,dv7,dx7] at a;have hr:=Q7 tq lq r (by rw[e2];exact dt6);have ps:=cp4 hr.1 hr.2;have no:=ai6 (c:=41) (.inr rfl) hr.2;unfold bb9 at a
    cases e3:(A2 r).cps.toList with
    |nil=>rw[e3] at ps;simp at ps
    |cons c cs=>
     rw[e3] at a no;simp only[ec8] at a
     injection a with _ a
     injection a with a _
     exact no (a▸dt6)
 refine cg6 tp tq ?_
 by_cases e1:A0 p p.length=[]
 · by_cases e2:A0 q q.length=[]
   · rw[e1,e2]
   · exact absurd h (odd tq lq e1 e2)
 · by_cases e2:A0 q q.length=[]
   · exact absurd h.symm (odd tp lp e2 e1)
   · rw[aj0 e1,aj0 e2] at h;have e:=congrArg (fun z:Str=>z.cps.toList) h;have e:(ac8 (A0 p p.length)).cps.toList=(ac8 (A0 q q.length)).cps.toList:=e;rw[X0,X0] at e;refine av6 (Q7 tp lp) (Q7 tq lq) (bv3 (fun k hk=> ?_) (fun k hk=> ?_) e)
     · obtain ⟨r,hr,rfl⟩:=dv3.mp hk;exact ai6 (.inr rfl) (Q7 tp lp r hr).2
     · obtain ⟨r,hr,rfl⟩:=dv3.mp hk;exact ai6 (.inr rfl) (Q7 tq lq r hr).2
end
end My
namespace My
open PySem L2 Mth
section
variable {P:Program} {w:World} {K:PySem.W.Frag} {mg:Str->Option Value} {base:Heap} {zwy zzy zxx zzx zyy zx zyx zxz zzz zxy zwz:Addr}
theorem av7 {x y:Str}(hz:x.length+2<=sizeLine):(Builtin.Str.partsBetween x (Builtin.Str.occurrences x y 0 x.length (x.length+1)) y.length).length<=sizeLine:=by
 have e1:=StrLaws.occ_length_le_len x y 0 x.length (x.length+1);rw[PySem.length_partsBetween];omega
theorem X1 (x y:Str):(Txt.split x y).length<=x.length+2:=by
 unfold Txt.split
 split
 · exact Nat.le_add_left 1 (x.length+1)
 · split
   · exact Nat.le_add_left 1 (x.length+1)
   · have e1:=StrLaws.occ_length_le_len x y 0 x.length (x.length+1);rw[PySem.length_partsBetween];omega
theorem af1 (x y:Str):Txt.join y (Txt.split x y)=x:=by
 have one:Txt.join y [x]=x:=by
   refine O9 ?_;show (Builtin.Str.glued _ _).cps.toList=_;rw[StrLaws.glued_eq_join,O3];rfl
 unfold Txt.split
 split
 · exact one
 · split
   · exact one
   · exact StrLaws.glued_between_self x y _
theorem bc0 (x y:Str):Txt.split x y≠[]:=by
 unfold Txt.split
 split
 · exact ei4 _ _
 · split
   · exact ei4 _ _
   · intro z;have:=congrArg dz3 z;rw[PySem.length_partsBetween] at this;simp at this
theorem ar5 {s:List Nat}:∀{ts:List (List Nat)} {t:List Nat},t∈ts->t.length<=(Mth.ae8 s ts).length
 |[],t,h=>by cases h
 |[u],t,h=>by
  rw[du4.mp h];exact dt7 _
 |u::v::r,t,h=>by
  have e:Mth.ae8 s (u::v::r)=u++s++Mth.ae8 s (v::r):=rfl;rw[e,dt4,dt4]
  rcases dw1.mp h with z|z
  · rw[z];omega
  · have:=ar5 (s:=s) z;omega
theorem cc8 {x y t:Str}(h:t∈Txt.split x y):t.length<=x.length:=by
 have e:=congrArg (fun z:Str=>z.cps.toList) (af1 x y);have e:(Builtin.Str.glued y (Txt.split x y)).cps.toList=x.cps.toList:=e;rw[StrLaws.glued_eq_join,O3] at e;show t.cps.toList.length<=x.cps.toList.length;rw[<-e];exact ar5 (dv3.mpr ⟨t,h,rfl⟩)
def Bad (u:Str):Prop:=∀i:Int,0<=i->i < 40->u≠B0 i
def cg7 (q:Addr):Sp:=fun vs H Q E=>∃(x:Str),vs=[.str x]/\(∀i:Int,0<=i->i < 40->x=B0 i->Q (.int i) H)/\(Bad x->E (.ref q) none H)
theorem ar6:y7 ["word","thing"] ["word"] (o7 ai0):=by rfl'
theorem bh9 {f:Addr}{fd:FuncData}(F:E6 K "read_thing" "read_thing" ai0 f fd)(B:Bl mg)(zrz:∃t,mg "MOST_THINGS"=some (.int 40 t))(zt:Z8 K mg "NoText" zzz):w6 P w K mg base (Q8 P w) 1 f fd ["word"] (cg7 zzz):=by
 refine F.okx ar6 (fun vs H Q E h=> ?_) (fun cdv A outer s H vs Q E hr h=> ?_)
 · obtain ⟨x,rfl,q,qe⟩:=h;rfl
 · obtain ⟨x,rfl,q,qe⟩:=h;obtain ⟨_,zry⟩:=zrz;refine ⟨_,@i5 _ _ _ _ _ (PS.nox (@I0 _ _ _ _ _ _ _ _ PassesOwn.never rfl (@N6 _ _ _ _ _ _ (by rfl) B.range (@c9 _ _ _ _ _ (@E3 _ _ (.int 40) _ _ (by rfl) zry ⟨_,rfl⟩ (by decide)) (@i4 _) (by rfl)) (by rfl)) (@y8 _ _ (1) _ ar6.nd rfl (Or.inl rfl) (by trivial)) (@i7 _ _ _ (@w9 _ _ _ _ _ _ _ _ (@m8 _ _ _ _ _ _ _ _ E5 (pv 0) (@am5 _ _ _ _ _ B.str (@c9 _ _ _ _ _ (pv 1) (@i4 _) (by rfl)) (by rfl) (by rfl)) (o4 _)) (@i7 _ _ _ (@o5 _ _ _ _ (pv 1))) (@o9 _))) (by intro _;rfl))) (@i7 _ _ _ (@aa7 _ _ _ _ _ _ _ _ _ aj6 rfl zt (@o6 _ _ _ _) (by rfl) (by rfl) (by decide))),?_⟩;refine ⟨40,rfl,by decide,by decide,S4 (lo:=0) (n:=40) (fun j σ H1=>∃v:Option V,σ=[some (.str x),v]/\H1=H/\∀i:Int,0<=i->i < (j:Int)->x≠B0 i) ⟨none,rfl,rfl,fun i a b=>by omega⟩ ?_ ?_⟩
   · rintro j σ H1 hj ⟨v,rfl,rfl,no⟩;refine ⟨_,rfl,_,rfl,_,rfl,cz5 (by decide) (by omega) (by omega),rfl,_,rfl,?_⟩
     by_cases e:x=B0 ((0:Int)+(j:Int))
     · rw[decide_eq_true (show V.str x=V.str (Str.ofString (toString ((0:Int)+(j:Int)))) from congrArg V.str e)];exact A5 ⟨_,rfl,q _ (by omega) (by omega) e⟩
     · rw[decide_eq_false (show ¬V.str x=V.str (Str.ofString (toString ((0:Int)+(j:Int)))) from fun z=>e (V.str.inj z))];refine B9 ⟨_,rfl,rfl,fun i a b=> ?_⟩
       by_cases z:i=(0:Int)+(j:Int)
       · rw[z];exact e
       · exact no i a (by omega)
   · rintro σ H1 ⟨v,rfl,rfl,no⟩
     exact qe fun i a b=>no i a (by omega)
def cg8 (q:Addr):Sp:=fun vs H Q E=>∃(x:Str),vs=[.str x]/\x.length<=30000/\(∀(r:List Int) (l:Addr) (H':Hp),Txt.split x (Str.ofString " ")=r.map B0->(∀y∈r,0<=y/\y < 40)->H l=none->i6 H H'->H' l=some (.lst (r.map V.int))->Q (.ref l) H')/\((∃u∈Txt.split x (Str.ofString " "),Bad u)->∀H',i6 H H'->E (.ref q) none H')
theorem av8:(["word"]:List Str).Nodup:=by decide+kernel
theorem bo1:y7 ["text"] ["text"] (o7 ai1):=by rfl'
theorem bi0 {f:Addr}{fd:FuncData}(F:E6 K "read_round" "read_round" ai1 f fd)(zhx:T0 P w K mg base "read_thing" 1 ["word"] (cg7 zzz)):w6 P w K mg base (Q8 P w) 2 f fd ["text"] (cg8 zzz):=by
 refine F.okx bo1 (fun vs H Q E h=> ?_) (fun cdv A outer s H vs Q E hr h=> ?_)
 · obtain ⟨x,rfl,lx,q,qe⟩:=h;rfl
 · obtain ⟨x,rfl,lx,q,qe⟩:=h;have ziz:A4 1 _:=hr.mono (by decide);refine ⟨_,@i7 _ _ _ (@o5 _ _ _ _ (bv1 (fun _ _ _ ok h=>aq7 (fun _ _ _ z=>z) ok h) (N:=["word"]) (nl:=1) (fr:=[]) rfl .of (@E4 _ _ _ _ (@bb0 _ _ _ _ _ _ _ (pv 0) (@c9 _ _ _ _ _ (@o6 _ _ _ _) (@i4 _) (by rfl)) (by rfl) (by rfl) (by rfl) (by rfl) (by rfl))) (fun _ _ _ _ _=>@y8 _ _ (0) _ av8 rfl (Or.inl rfl) (by trivial)) (fun _ _ _ _ _=>(@P0 _)) (fun _ _ _ _ _=>(@am3 _ _ _ _ _ _ _ _ _ _ _ zhx ziz bl7 (@c9 _ _ _ _ _ (pv 0) (@i4 _) (by rfl)) (by rfl) (by decide) (by rfl) (by rfl))))),?_⟩
   have sz:x.length+2<=sizeLine:=by rw[sizeLine_eq];omega
   refine ⟨_,rfl,rfl,x,_,rfl,rfl,(by decide+kernel),(by omega),av7 sz,(by have:=X1 x (Str.ofString " ");omega),fun l hl=> ?_⟩;obtain ⟨ws,hws⟩:∃ws,ws=Txt.split x (Str.ofString " "):=⟨_,rfl⟩
   have lw:ws.length<=30002:=by have:=X1 x (Str.ofString " ");rw[hws];omega
   have ew:Txt.split x " "=ws:=hws.symm;rw[ew];rw[<-hws] at q qe;obtain ⟨H1,e1⟩:∃Hn,Hn=i8 H l (.lst (ws.map V.str)):=⟨_,rfl⟩;have s1:i6 H H1:=e1▸i6.upd_new hl
   have h1l:H1 l=some (.lst (ws.map V.str)):=by rw[e1,j6]
   rw[<-e1];refine ⟨l,rfl,⟨_,j7.of h1l⟩,Q4 (K:=K) (a:=l) (xs:=ws.map V.str) (fun i ys σ H2=>∃(v:Option V) (r:List Int),σ=[v]/\H2=H1/\ys=r.map V.int/\ws.take i=r.map B0/\∀y∈r,0<=y/\y < 40) ⟨none,[],rfl,rfl,rfl,rfl,(fun y hy=>by cases hy)⟩ (fun i ys σ H2 _ zz=>by obtain ⟨_,_,_,e,_⟩:=zz;rw[e];exact j7.of h1l) ?_ ?_⟩
   · rintro i x ys σ H2 hi ⟨v,r,rfl,rfl,rfl,er,br⟩;rw[du7] at hi
     cases hB:ws[i]? with
     |none=>rw[hB] at hi;cases hi
     |some u=>
      rw[hB] at hi;cases hi
      have rl:r.length<=30002:=by
        have:=congrArg dz3 er;rw[dt3,du5] at this;omega
      refine ⟨_,rfl,u,rfl,fun z z0 z1 ez=>⟨(by rw[dt3,sizeLine_eq];omega),_,r++[z],rfl,rfl,by rw[du6];rfl,?_,fun y hy=> ?_⟩,fun bad=>qe ⟨u,du8 hB,bad⟩ _ s1⟩
      · rw[w5 hB,er,du6,ez];rfl
      · rcases du1.mp hy with y1|y1
        · exact br y y1
        · rw[du4.mp y1];exact ⟨z0,z1⟩
   · rintro ys σ H2 ⟨v,r,rfl,rfl,rfl,er,br⟩ D hD;rw[dt3,dx2] at er;exact q r D _ er br (s1.free hD) (s1.trans (i6.upd_new hD)) j6
end
end My
namespace My
open PySem L2 Mth
section
variable {P:Program} {w:World} {K:PySem.W.Frag} {mg:Str->Option Value} {base:Heap} {zwy zzy zxx zzx zyy zx zyx zxz zzz zxy zwz:Addr}
theorem aa2 {s:List Nat}:∀(ts:List (List Nat)),(ts.map dz3).sum<=(Mth.ae8 s ts).length
 |[]=>dv5 _
 |[u]=>by show u.length+0<=u.length;omega
 |u::v::r=>by
  have ih:=aa2 (s:=s) (v::r);have e:Mth.ae8 s (u::v::r)=u++s++Mth.ae8 s (v::r):=rfl;rw[e,dt4,dt4,dv7,eg5];omega
theorem dd1 {r:List Int}(br:∀y∈r,0<=y/\y < 40):r.length<=(A2 r).length:=by
 show r.length<=(Builtin.Str.glued _ _).cps.toList.length;rw[StrLaws.glued_eq_join,O3];refine du3 ?_ (aa2 _)
 induction r with
 |nil=>exact dv5 _
 |cons y r ih=>
  have:=(ai5 (br y dt6).1 (br y dt6).2).2.1
  have:=ih fun z hz=>br z (dt8 _ hz)
  simp only[dv7,eg5,du9];omega
theorem cx1 {s:Str}{rs:List (List Int)}(br:∀r∈rs,∀y∈r,0<=y/\y < 40):rs.flatten.length<=(Txt.join s (rs.map A2)).length:=by
 show rs.flatten.length<=(Builtin.Str.glued _ _).cps.toList.length;rw[StrLaws.glued_eq_join,O3];refine du3 ?_ (aa2 _)
 induction rs with
 |nil=>exact dv5 _
 |cons r rs ih=>
  have:r.length<=(A2 r).cps.toList.length:=dd1 (br r dt6)
  have:=ih fun z hz=>br z (dt8 _ hz)
  simp only[dv7,eg5,dx7,dt4];omega
def cg9 (q:Addr):Sp:=fun vs H Q E=>∃(x:Str),vs=[.str x]/\x.length<=30000/\(x=Str.ofString "()"->∀(l:Addr) (H':Hp),H l=none->i6 H H'->H' l=some (.lst [])->Q (.ref l) H')/\
 (x≠Str.ofString "()"->(∀(rs:List (List Int)) (l:Addr) (as:List Addr) (H':Hp),Txt.split (Txt.slice x (some 1) (some (-1))) (Str.ofString ")(")=rs.map A2->(∀r∈rs,r≠[]/\∀y∈r,0<=y/\y < 40)->rs.flatten.length<=30000->H l=none->i6 H H'->H' l=some (.lst (as.map V.ref))->E2 H' as rs->Q (.ref l) H')/\
   ((∃u∈Txt.split (Txt.slice x (some 1) (some (-1))) (Str.ofString ")("),∃v∈Txt.split u (Str.ofString " "),Bad v)->∀H',i6 H H'->E (.ref q) none H'))
theorem as2:(["part"]:List Str).Nodup:=by decide+kernel
theorem bi1:y7 ["text"] ["text"] (o7 ad5):=by rfl'
theorem bf2 {f:Addr}{fd:FuncData}(F:E6 K "read_rounds" "read_rounds" ad5 f fd)(zg:T0 P w K mg base "read_round" 2 ["text"] (cg8 zzz)):w6 P w K mg base (Q8 P w) 3 f fd ["text"] (cg9 zzz):=by
 refine F.okx bi1 (fun vs H Q E h=> ?_) (fun cdv A outer s H vs Q E hr h=> ?_)
 · obtain ⟨x,rfl,lx,q0,q⟩:=h;rfl
 · obtain ⟨x,rfl,lx,q0,q⟩:=h;have ziy:A4 2 _:=hr.mono (by decide);refine ⟨_,@i5 _ _ _ _ _ (@w9 _ _ _ _ _ _ _ _ (@m8 _ _ _ _ _ _ _ _ E5 (pv 0) (@o6 _ _ _ _) (o4 _)) (@i7 _ _ _ (@o5 _ _ _ _ (@w4 _ _ _ _ (@i4 _)))) (@o9 _)) (@i7 _ _ _ (@o5 _ _ _ _ (bv1 (fun _ _ _ ok h=>aq7 (fun _ _ _ z=>z) ok h) (N:=["part"]) (nl:=1) (fr:=[]) rfl .of (@E4 _ _ _ _ (@bb0 _ _ _ _ _ _ _ (@C2 _ _ _ _ _ _ _ _ _ _ U0 (pv 0) (@B6 _ _ _ (@i9 _ _ _ _)) (@B6 _ _ _ (@aw7 _ _ _ _ _ _ al7 (@i9 _ _ _ _)))) (@c9 _ _ _ _ _ (@o6 _ _ _ _) (@i4 _) (by rfl)) (by rfl) (by rfl) (by rfl) (by rfl) (by rfl))) (fun _ _ _ _ _=>@y8 _ _ (0) _ as2 rfl (Or.inl rfl) (by trivial)) (fun _ _ _ _ _=>(@P0 _)) (fun _ _ _ _ _=>(@am3 _ _ _ _ _ _ _ _ _ _ _ zg ziy bl7 (@c9 _ _ _ _ _ (pv 0) (@i4 _) (by rfl)) (by rfl) (by decide) (by rfl) (by rfl)))))),?_⟩;refine ⟨_,rfl,rfl,_,rfl,?_⟩
   by_cases e0:x=Str.ofString "()"
   · rw[decide_eq_true (congrArg V.str e0)];exact A5 ⟨dv5 _,fun l hl=>q0 e0 l _ hl (i6.upd_new hl) j6⟩
   rw[decide_eq_false (fun z=>e0 (V.str.inj z))];obtain ⟨q,qe⟩:=q e0;refine B9 ⟨_,rfl,_,rfl,_,rfl,_,rfl,_,rfl,(by rw[sizeLine_eq];omega),?_⟩;have ly:=Txt.slice_le x (some 1) (some (-1));obtain ⟨y,ey⟩:∃y,y=Txt.slice x (some 1) (some (-1)):=⟨_,rfl⟩;rw[<-ey] at ly q qe
   have sz:y.length+2<=sizeLine:=by rw[sizeLine_eq];omega
   refine ⟨rfl,y,_,congrArg V.str ey.symm,rfl,(by decide+kernel),(by omega),av7 sz,(by have:=X1 y (Str.ofString ")(");omega),fun l hl=> ?_⟩;obtain ⟨ws,hws⟩:∃ws,ws=Txt.split y (Str.ofString ")("):=⟨_,rfl⟩
   have lw:ws.length<=30002:=by have:=X1 y (Str.ofString ")(");rw[hws];omega
   have wl:∀u∈ws,u.length<=30000:=fun u hu=>by rw[hws] at hu;exact du3 (cc8 hu) (by omega)
   have wj:Txt.join (Str.ofString ")(") ws=y:=by rw[hws];exact af1 y _
   have wn:ws≠[]:=by rw[hws];exact bc0 y _
   have ew:Txt.split y ")("=ws:=hws.symm;rw[ew];rw[<-hws] at q qe;obtain ⟨H1,e1⟩:∃Hn,Hn=i8 H l (.lst (ws.map V.str)):=⟨_,rfl⟩;have s1:i6 H H1:=e1▸i6.upd_new hl
   have h1l:H1 l=some (.lst (ws.map V.str)):=by rw[e1,j6]
   rw[<-e1];refine ⟨l,rfl,⟨_,j7.of h1l⟩,Q4 (K:=K) (a:=l) (xs:=ws.map V.str) (fun i ys σ H2=>∃(v:Option V) (as:List Addr) (rs:List (List Int)),σ=[v]/\i6 H1 H2/\ys=as.map V.ref/\E2 H2 as rs/\ws.take i=rs.map A2/\∀r∈rs,r≠[]/\∀y∈r,0<=y/\y < 40) ⟨none,[],[],rfl,i6.refl H1,rfl,⟨rfl,fun j b r h=>by simp at h⟩,rfl,(fun y hy=>by cases hy)⟩ (fun i ys σ H2 _ zz=>by obtain ⟨_,_,_,_,s,_⟩:=zz;exact j7.of (s _ _ h1l)) ?_ ?_⟩
   · rintro i x ys σ H2 hi ⟨v,as,rs,rfl,s2,rfl,rows,er,br⟩;rw[du7] at hi
     cases hB:ws[i]? with
     |none=>rw[hB] at hi;cases hi
     |some u=>
      rw[hB] at hi;cases hi;have um:=du8 hB
      have rl:as.length<=30002:=by
        have:=congrArg dz3 er;rw[dt3,du5] at this;rw[rows.1];omega
      refine ⟨_,rfl,u,rfl,wl u um,fun r b H3 er' br' hb s3 h3b=>⟨(by rw[dt3,sizeLine_eq];omega),_,as++[b],rs++[r],rfl,s2.trans s3,by rw[du6];rfl,ak2 (M5 rows fun c _ o ho=>s3 _ _ ho) h3b,?_,fun z hz=> ?_⟩,fun bad H' s'=>qe ⟨u,um,bad⟩ _ ((s1.trans s2).trans s')⟩
      · rw[w5 hB,er,du6]
        have:u=A2 r:=by rw[<-af1 u (Str.ofString " "),er'];rfl
        rw[this];rfl
      · rcases du1.mp hz with y1|y1
        · exact br z y1
        · rw[du4.mp y1];refine ⟨fun z=> ?_,br'⟩;rw[z] at er';exact bc0 u _ er'
   · rintro ys σ H2 ⟨v,as,rs,rfl,s2,rfl,rows,er,br⟩ D hD;rw[dt3,dx2] at er;have s3:i6 H2 (i8 H2 D (.lst (as.map V.ref))):=i6.upd_new hD;refine q rs D as _ er br ?_ ((s1.trans s2).free hD) ((s1.trans s2).trans s3) j6 (M5 rows fun c _ o ho=>s3 _ _ ho)
     have:=cx1 (s:=Str.ofString ")(") (rs:=rs) fun r hr=>(br r hr).2
     rw[<-er,wj] at this;omega
def Wr (x:Str)(p:List Int):Prop:=G2 p/\p.length<=40/\x=U8 p
theorem bf3:Wr (Str.ofString "()") []:=⟨⟨ed5,(fun x hx=>by cases hx),(fun x hx=>by cases hx)⟩,by decide,by unfold U8;decide+kernel⟩
theorem ch0 {x:Str}{p:List Int}(w:Wr x p)(n:x≠Str.ofString "()"):A0 p p.length≠[]:=fun z=>n (O9 (by rw[w.2.2,bl9 z];decide+kernel))
theorem bv4 {x:Str}{p:List Int}(w:Wr x p)(n:x≠Str.ofString "()"):Txt.split (Txt.slice x (some 1) (some (-1))) (Str.ofString ")(")=(A0 p p.length).map A2:=by
 have ne:=ch0 w n;obtain ⟨tp,lp,rfl⟩:=w;have f2:=(al3 tp lp (P4 tp)).2;unfold U8;rw[show Txt.slice (Str.ofString "("++Txt.join (Str.ofString ")(") ((A0 p p.length).map A2)++Str.ofString ")") (some 1) (some (-1))=_ from cp2];exact (ae9 (sep:=Str.ofString ")(") (parts:=(A0 p p.length).map A2) (c0:=41) (rest:=[40]) (by decide+kernel) (by decide) (fun t ht=>by obtain ⟨r,hr,rfl⟩:=dv3.mp ht;exact ai6 (.inr rfl) (f2 r hr).2.2) (by simpa using ne) (by decide+kernel)).1
theorem bf4 {r:List Int}(h:Rw r):Txt.split (A2 r) (Str.ofString " ")=r.map B0:=
 (ae9 (sep:=Str.ofString " ") (c0:=32) (rest:=[]) (by decide+kernel) (by simp) (fun t ht=>by
     obtain ⟨x,hx,rfl⟩:=dv3.mp ht
     exact (ai5 (h.2 x hx).1 (h.2 x hx).2).2.2.1) (by simpa using h.1) (by decide+kernel)).1
theorem cp9 {rs ss:List (List Int)}(hr:∀r∈rs,Rw r)(hs:∀r∈ss,Rw r)(h:rs.map A2=ss.map A2):rs=ss:=by
 refine av6 hr hs ?_;have:=congrArg (List.map fun z:Str=>z.cps.toList) h
 rwa [ea6,ea6] at this
theorem ch1 {t p:List Int}(tp:G2 p)(al:af0 t (A0 p p.length))(hl:t.length=(A0 p p.length).flatten.length):t=p:=by
 have up:=P4 tp;have fl:=W1 tp up
 have lq:(A0 p p.length).flatten.length=p.length:=by rw[fl.length_eq,aa6]
 refine dh2 (n:=p.length) (by omega) rfl fun x x0 x1=> ?_
 have hxm:x∈(A0 p p.length).flatten:=fl.mem_iff.mpr (M2.mpr ⟨x0,x1⟩);obtain ⟨r,hr',hxr⟩:=dx5.mp hxm;obtain ⟨y,L,hy,pr,er,_⟩:=up.ring r hr';rw[er] at hxr;obtain ⟨jj,hjj,rfl⟩:=O7.mp hxr
 have hl':jj < r.length:=by rw[er,C8];exact hjj
 have h1:=al r hr' jj hl'
 have rl:r.length=L:=by rw[er,C8]
 rw[rl,er,S9 hjj,S9 (ec4 _ pr.pos),cl9 pr.back] at h1;rw[cm1 (p:=t) ⟨x0,by omega⟩] at h1;exact Option.some.inj h1
def ay2 (K:PySem.W.Frag)(H:Hp)(v:V):Prop:=∃t,R1 K H v t/\PySem.W.kitOne K t (.type "str")=some false
def bi2 (K:PySem.W.Frag)(q:Addr):Sp:=fun vs H Q E=>∃v,vs=[v]/\((ay2 K H v/\E (.ref q) none H)\/∃x:Str,v= .str x/\x.length<=30000/\
 (∀p,Wr x p->∀(l:Addr) (H':Hp),H l=none->i6 H H'->H' l=some (.lst (p.map V.int))->Q (.ref l) H')/\((∀p,¬Wr x p)->∀H',i6 H H'->E (.ref q) none H'))
theorem aj1:y7 ["text","rounds","told"] ["text"] (o7 al0):=by rfl'
theorem bo2 {f:Addr}{fd:FuncData}(F:E6 K "read_turn" "read_turn" al0 f fd)(B:Bl mg)(zix:T0 P w K mg base "read_rounds" 3 ["text"] (cg9 zzz))(zmz:bf0 P w K mg base "from_rounds" 3 ["rounds"] (fun vs H Q E=>be5 vs H Q E\/(bh7 zzx) vs H Q E))(ztx:B7 P w K mg base "show_turn" 5 ["p"] au8)(zt:Z8 K mg "NoText" zzz)(zuz:Z8 K mg "NoRounds" zzx)(ER:au2 K mg zwy [("NoTurn",zzy),("NoFit",zxx),("NoRounds",zzx),("NoNumber",zyy),("NoRoot",zx),("TooMany",zyx),("NoKind",zxz),("NoText",zzz),("NoName",zxy),("NoRow",zwz)]):w6 P w K mg base (Q8 P w) 6 f fd ["text"] (bi2 K zzz):=by
 refine F.okx aj1 (fun vs H Q E h=> ?_) (fun cdv A outer s H vs Q E hr h=> ?_)
 · obtain ⟨v,rfl,h⟩:=h;rfl
 · obtain ⟨v,rfl,h⟩:=h;have zky:A4 3 _:=hr.mono (by decide);have zkx:A4 3 _:=hr.mono (by decide);have zpy:A4 5 _:=hr.mono (by decide);refine ⟨_,@i5 _ _ _ _ _ (@w9 _ _ _ _ _ _ _ _ (@J5 _ _ _ _ (@C6 _ _ _ (@C7 _ _ _ _ _ _ B.isi (@c9 _ _ _ _ _ (pv 0) (@c9 _ _ _ _ _ (@ah1 _ _ B.str (by rfl)) (@i4 _) (by rfl)) (by rfl)) (by rfl) (by rfl) (by rfl)) (by intro _;rfl))) (@i7 _ _ _ (@aa7 _ _ _ _ _ _ _ _ _ aj6 rfl zt (@o6 _ _ _ _) (by rfl) (by rfl) (by decide))) (@o9 _)) (@i5 _ _ _ _ _ (@m9 _ _ (1) _ _ _ _ aj1.nd rfl (Or.inl rfl) (@am3 _ _ _ _ _ _ _ _ _ _ _ zix zky (@au1 _ _ _ _ _ _ _ _ _ _ _ _ _ _ _ _ fun _ _ _ h=>h) (@c9 _ _ _ _ _ (pv 0) (@i4 _) (by rfl)) (by rfl) (by decide) (by rfl) (by rfl)) (by rfl) (by trivial)) (@i5 _ _ _ _ _ (dd0 (i:=2) (fun _ _ _ ok h=>aq7 (fun _ _ _ z=>z) ok h) zmz zkx aj1.nd rfl (Or.inl rfl) (@c9 _ _ _ _ _ (pv 1) (@i4 _) (by rfl)) zuz.mg zt) (@i5 _ _ _ _ _ (@w9 _ _ _ _ _ _ _ _ (@m8 _ _ _ _ _ _ _ _ U7 (@q9 _ _ _ _ _ _ _ _ _ _ ztx zpy (@c9 _ _ _ _ _ (pv 2) (@i4 _) (by rfl)) (by rfl) (by decide) (by rfl) (by rfl)) (pv 0) (o4 _)) (@i7 _ _ _ (@aa7 _ _ _ _ _ _ _ _ _ aj6 rfl zt (@o6 _ _ _ _) (by rfl) (by rfl) (by decide))) (@o9 _)) (@i7 _ _ _ (@o5 _ _ _ _ (pv 2)))))),?_⟩
   rcases h with ⟨⟨t,ty,kt⟩,qe⟩|⟨x,rfl,lx,q,qe⟩
   · refine ⟨_,rfl,v,"str",t,false,rfl,ty,kt,false,rfl,?_⟩;exact A5 qe
   refine ⟨_,rfl,_,"str",_,true,rfl,.str _,M1 K "str",true,rfl,B9 ?_⟩;refine ⟨_,rfl,x,rfl,lx,fun e0 l H1 hl s1 h1=> ?_,fun n0=>⟨fun rs l as H1 er br fl hl s1 h1 rows=> ?_,fun ⟨u,hu,v,hv,bad⟩ H1 s1=>qe (fun p w=> ?_) H1 s1⟩⟩
   rotate_right
   · rw[bv4 w n0] at hu;obtain ⟨r,hr,rfl⟩:=dv3.mp hu;have hrw:=Q7 w.1 w.2.1 r hr;rw[bf4 hrw] at hv;obtain ⟨i,hi,rfl⟩:=dv3.mp hv;exact bad i (hrw.2 i hi).1 (hrw.2 i hi).2 rfl
   obtain ⟨rs,as,h1,br,fl,rows,only⟩:∃(rs:List (List Int)) (as:List Addr),H1 l=some (.lst (as.map V.ref))/\(∀r∈rs,Rw r)/\rs.flatten.length<=30000/\E2 H1 as rs/\∀p,Wr x p->rs=A0 p p.length:=
     ⟨[],[],h1,(fun r hr=>by cases hr),dv5 _,⟨rfl,fun j b r h=>by simp at h⟩,fun p w=>by
       have:=bm0 w.1 bf3.1 w.2.1 bf3.2.1 (w.2.2.symm.trans (e0.trans bf3.2.2));subst this
       rfl⟩
   rotate_left
   have only:∀p,Wr x p->rs=A0 p p.length:=fun p w=>cp9 br (Q7 w.1 w.2.1) (er.symm.trans (bv4 w n0))
   all_goals
     by_cases ok:(∀r∈rs,r≠[])/\G2 rs.flatten/\rs.flatten.length<=40
     · obtain ⟨o1,o2,o3⟩:=ok;refine ⟨_,rfl,.inl ⟨l,as,rs,rfl,h1,rows,o1,o2,o3,fun fo t H2 hfo s2 h2 lt al=> ?_⟩⟩;have tt:G2 t:=ac9 al (by rw[lt];exact o2.perm);refine ⟨_,rfl,fo,t,rfl,⟨h2,tt,by omega⟩,fun H3 s3=>⟨_,rfl,rfl,_,rfl,?_⟩⟩
       by_cases e:U8 t=x
       · exact Q9 (congrArg V.str e) ⟨_,rfl,q t ⟨tt,by omega,e.symm⟩ fo H3 (s1.free hfo) ((s1.trans s2).trans s3) (s3 _ _ h2)⟩
       · rw[decide_eq_false (fun z=>e (V.str.inj z))];refine A5 (qe (fun p w=>e ?_) H3 ((s1.trans s2).trans s3));have:=only p w;rw[this] at al lt;rw[ch1 w.1 al lt,w.2.2]
     · refine ⟨_,rfl,.inr ⟨l,as,rs,rfl,h1,rows,ok,by omega,fun H' s'=>⟨zzx,rfl,ER.exq ("NoRounds",zzx) (by simp) ("NoRounds",zzx) (by simp),qe (fun p w=>ok ?_) H' (s1.trans s')⟩⟩⟩;have:=only p w;rw[this];have fl:=W1 w.1 (P4 w.1);exact ⟨fun r hr=>(Q7 w.1 w.2.1 r hr).1,(ab9 fl).1,by rw[fl.length_eq,aa6];exact w.2.1⟩
end
end My
namespace L2
open PySem PySem.Spec PyProof.Rows
section
variable {X:Cx}
def sgn (c:Nat):Str:=⟨#[c]⟩
def Itx (x:Str):It:=⟨fun i _=>i < x.cps.size,fun i H v H'=>H'=H/\∃c,x.cps[i]? =some c/\v= .str (sgn c),fun i _=>x.cps.size<=i⟩
theorem bv5 {P:Program}{w:World}{K:PySem.W.Frag}{tg:Expr}(it:Addr)(x:Str)(t:Tok)(n:String)(hn:n="str_ascii_iterator"\/n="str_iterator"):bp9 P w K tg (Itx x) [it] it (fun i h=>h.IsStrIter it n x t i) where
 mem:=by simp
 obj:=fun i h st b hb=>by
   have e:b=it:=by simpa using hb
   subst e;obtain ⟨o,e1,_,e3⟩:=st;exact ⟨o,e1,fun v z=>by rw[e3] at z;cases z⟩
 keep:=fun i h h' st k=>by
   obtain ⟨o,e1,e2⟩:=st;exact ⟨o,k it (by simp) o e1,e2⟩
 item:=by
   intro X hP hw hK hc i pins s σ H E I hf st hg;subst hP hw hK;have hi:i < x.cps.size:=hg;obtain ⟨f0,f1,f2,f3,f4,f5⟩:=hf it (by simp)
   have ec:x.cps[i]? =some x.cps[i]:=by simp [hi]
   generalize x.cps[i]=c at ec
   have fin:∀h',h'.IsStrIter it n x t (i+1)->Heap.SameBut it s.heap h'->∃u,some (Value.str ⟨#[c]⟩ s.toks)=some u/\wpAny (model X.prog X.w) X.A (letOwnedTupleGo tg (.ref it) u) (fun _ s2=>∃v H',j5 X pins σ H' s2/\A7 v u/\(Itx x).yld i H v H'/\s2.heap.IsStrIter it n x t (i+1)/\∀b∈[it],H' b=none) E {s with heap:=h',toks:=s.toks+1}:=fun h' st' sb=>by
     have I1:j5 X pins σ H {s with heap:=h',toks:=s.toks+1}:=I.turned (t':=s.toks+1) (fun b o hb e=>(sb.2 b hb).trans e) f0 f1 f3 f4 f5;obtain ⟨o,e1,e2,e3⟩:=id st';refine ⟨_,rfl,cd9 (s:={s with heap:=h',toks:=s.toks+1}) e1 e2 e3 (by rcases hn with rfl|rfl<;>decide) ⟨.str (sgn c),H,I1,⟨_,rfl⟩,⟨rfl,c,ec,rfl⟩,st',fun b hb=>(hf b hb).1⟩⟩
   rcases hn with rfl|rfl
   · exact wpAny_pyNext_ascii_item st ec fin
   · exact wpAny_pyNext_wide_item st ec fin
 done:=by
   intro X hP hw hK hc i pins s σ H E I hf st hg;subst hP hw hK;have hi:x.cps.size<=i:=hg;obtain ⟨f0,f1,f2,f3,f4,f5⟩:=hf it (by simp)
   have en:x.cps[i]? =none:=by simp [hi]
   have fin:∀h',Heap.ExtBut it s.heap h'->none=(none:Option Value)/\j5 X pins σ H {s with heap:=h'}:=fun h' eb=>⟨rfl,I.turned (t':=s.toks) (fun b o hb e=>eb b o hb e) f0 f1 f3 f4 f5⟩
   rcases hn with rfl|rfl
   · exact wpAny_pyNext_ascii_end (I.ok.hd hc) st en fin
   · exact wpAny_pyNext_wide_end (I.ok.hd hc) st en fin
 self:=fun _ _ _ _ _ st h=>by
   rcases hn with rfl|rfl
   · exact wpAny_pyIter_striter_ascii st h
   · exact wpAny_pyIter_striter_wide st h
def dr1 (ts:TE):TI:=fun σ H R=>ts σ H fun v H1=>∃x:Str,v= .str x/\R (Itx x) H1
theorem dj3 {tg l:Expr}{tl:TE}(hl:PE X l tl):PI X tg l (dr1 tl):=by
 intro pins s σ H R I h
 refine A3 (hl pins s σ H _ I h) fun v s1 ⟨y,H1,I1,r1,x,ex,q⟩=> ?_
 subst ex;obtain ⟨t,rfl⟩:=r1
 have fp:∀ob:Obj,∀b∈[s1.heap.objs.size],ag3 X pins H1 b:=fun ob b hb=>by
   have e:b=s1.heap.objs.size:=by simpa using hb
   subst e;exact I1.fpOk (dt7 _) (I1.hok.fresh (dt7 _))
 have kp:∀ob:Obj,j5 X pins σ H1 {s1 with heap:=s1.heap.push ob}:=fun ob=>I1.kept (t':=s1.toks) fun b o e=>Heap.get?_push_of_some _ e
 cases ha:x.cps.all (· < 128) with
 |true=>exact wpAny_pyIter_ascii ha ⟨_,[_],_,_,_,rfl,kp _,bv5 _ x t _ (.inl rfl),⟨_,Heap.get?_push_size _ rfl,rfl,rfl⟩,fp {cls:= .none},q⟩
 |false=>exact wpAny_pyIter_wide ha ⟨_,[_],_,_,_,rfl,kp _,bv5 _ x t _ (.inr rfl),⟨_,Heap.get?_push_size _ rfl,rfl,rfl⟩,fp {cls:= .none},q⟩
theorem cx2 {x:Str}{g:TG}{tc:TT}{te:TE}{σ0:St}{H:Hp}{Q:VK}(Pv:Nat->List V->St->Hp->Prop)(h0:Pv 0 [] σ0 H)
   (hs:∀i c ys σ H,x.cps[i]? =some c->Pv i ys σ H->g (.str (sgn c)) σ H fun σ2 H2=>tc σ2 H2 fun b H4=>if b=true then te σ2 H4 fun y H5=>ys.length < sizeLine/\Pv (i+1) (ys++[y]) σ2 H5 else Pv (i+1) ys σ2 H4)
   (hd:∀ys σ H,Pv x.cps.size ys σ H->∀D,H D=none->Q (.ref D) (i8 H D (.lst ys))):bo8 (Itx x) g tc te Q σ0 H:=by
 refine ⟨fun i m ys σ H=>m=x.cps.size - i/\i<=x.cps.size/\Pv i ys σ H,⟨x.cps.size,by simp,dv5 _,h0⟩,?_⟩;rintro i m ys σ H ⟨rfl,hi,p⟩
 by_cases hlt:i < x.cps.size
 · refine .inr ⟨hlt,Pv (i+1),fun ys' σ' H' p'=>⟨x.cps.size - (i+1),by omega,rfl,hlt,p'⟩,fun v H' y=> ?_⟩;obtain ⟨e,c,y1,y2⟩:=y;subst e y2;exact hs i c ys σ _ y1 p
 · have e:i=x.cps.size:=by omega
   subst e;exact .inl ⟨dt7 _,hd ys σ H p⟩
end
end L2
namespace L2
open PySem PySem.Spec PyProof.Rows
section
variable {X:Cx}
theorem cq1:K6 X (.type "int") (fun xs H Q=>∃(x:Str) (n:Int),xs=[.str x]/\PySem.intText? x=some n/\x.length<=640/\Q (.int n) H):=by
 intro pins s σ H xs us Q I r h;obtain ⟨x,n,rfl,hn,hl,q⟩:=h;obtain ⟨u,rfl,rx⟩:=P6 r;obtain ⟨t,rfl⟩:=rx;exact PySem.W.KIN.call_text hn hl ⟨.int n,H,I.tok _,⟨_,rfl⟩,q⟩
theorem dd2 {e:Expr}{t:TA}{p pos:Pos}(hm:X.mg "int"=none)(ha:PA X [e] t)(hg:Gl X "int":=by rfl)(he:starEach [e] X.env=(false,eval e X.env)::starEach [] X.env:=by rfl):
   PE X (.Call (.Name "int" p) [e] [] pos) (X4 (fun xs H Q=>∃(x:Str) (n:Int),xs=[.str x]/\PySem.intText? x=some n/\x.length<=640/\Q (.int n) H) t):=
 Q3 cq1 hg hm bk7 ha (by decide) (by decide) he rfl
end
end L2
namespace L2
open PySem PySem.Spec PyProof.Rows
section
variable {X:Cx}
def cz7:V->List V->Hp->VK->Prop:=fun x xs H Q=>∃(y sep:Str),x= .str y/\xs=[.str sep]/\(sep.length==0)=false/\y.length<=sizeLine/\∀l,H l=none->Q (.ref l) (i8 H l (.tup [.str (Txt.partition y sep).1,.str (Txt.partition y sep).2.1,.str (Txt.partition y sep).2.2]))
theorem dd3:MtR X "str.partition" cz7:=by
 intro pins s σ H x vs v us Q I rx rv h;obtain ⟨y,sep,rfl,rfl,h0,hz,q⟩:=h;obtain ⟨t,rfl⟩:=rx;obtain ⟨u,rfl,ru⟩:=rv.one;obtain ⟨t1,rfl⟩:=ru
 have fin:∀(a b c:Str) (ta tb tc:Tok) (tk:Nat),Txt.partition y sep=(a,b,c)->∃(z:V) (H':Hp),j5 X pins σ H' {s with toks:=tk,heap:=s.heap.push {cls:= .type "tuple",data:= .seq [.str a ta,.str b tb,.str c tc].toArray}}/\A7 z (.ref s.heap.objs.size)/\Q z H':=fun a b c ta tb tc tk e=>by
   refine ⟨.ref s.heap.objs.size,_,I.laid (t':=tk) (o:= .tup [.str (Txt.partition y sep).1,.str (Txt.partition y sep).2.1,.str (Txt.partition y sep).2.2]) (fun b ob g=>Heap.get?_push_of_some _ g) (dt7 _) ?_,rfl,q _ (I.hok.fresh (dt7 _))⟩;rw[e];exact ⟨(show 3<=sizeLine by decide),_,.cons ⟨_,rfl⟩ (.cons ⟨_,rfl⟩ (.cons ⟨_,rfl⟩ .nil)),IsTup.new _ _⟩
 refine call_meets F.slot_str_partition (typeIs_str _ _ _) F.entry_str_partition (F.args_str_partition_2 _ _) (meets_str_partition y sep t t1 h0 hz) ?_
 cases e:Builtin.Str.occurrences y sep 0 y.length 1 with
 |nil=>exact fin _ _ _ _ _ _ _ (by unfold Txt.partition;rw[e])
 |cons i r=>exact fin _ _ _ _ _ _ _ (by unfold Txt.partition;rw[e])
theorem dd4 {o e:Expr}{to:TE}{t:TA}{apos pos:Pos}(ho:PE X o to)(ha:PA X [e] t)
   (hbase:attributeBase o "partition" X.env (eval o X.env)=eval o X.env:=by rfl)
   (hfew:((backTo pos (starEach [e] X.env)).all (fun x=> !x.1)&&(backToKw pos (keywordEach [] X.env)).all (fun x=>x.1.isSome)
     &&decide ([e].length+([]:List Keyword).length+(if ([]:List Keyword).isEmpty then 0 else 1) < 30))=true:=by rfl)
   (hline:(apos.endLine==pos.line)=true:=by rfl) (hs:starEach [e] X.env=(false,eval e X.env)::starEach [] X.env:=by rfl) (hplain:(backTo pos (starEach [] X.env)).any (·.1)=false:=by rfl):
   PE X (.Call (.Attribute o "partition" apos) [e] [] pos) (tBM X.K "str" cz7 to t):=
 an9 PySem.F.plainAttrs_str PySem.F.slot_str_partition PySem.F.type_str_partition dd3 ho ha hbase hfew hline hs hplain
theorem cx3 (x:Str)(c:Nat):(c∉x.cps.toList/\Txt.partition x ⟨#[c]⟩=(x,Str.empty,Str.empty))\/
   ∃a b:Str,Txt.partition x ⟨#[c]⟩=(a,⟨#[c]⟩,b)/\x.cps.toList=a.cps.toList++c::b.cps.toList/\c∉a.cps.toList:=by
 have sm:=StrLaws.partition_sum x ⟨#[c]⟩
 rcases partition_whole x ⟨#[c]⟩ with ⟨hp,hn⟩|⟨i,hp,hi,hn⟩
 · exact .inl ⟨fun hm=>by obtain ⟨i,hi⟩:=(mem_iff_at x c).mp hm;exact hn i hi,hp⟩
 · rw[hp] at sm;refine .inr ⟨_,_,hp,?_,?_⟩
   · have:=congrArg (fun z:Str=>z.cps.toList) sm;have e:(Builtin.Str.strSub x 0 i++(⟨#[c]⟩:Str)++Builtin.Str.strSub x (i+(⟨#[c]⟩:Str).length) x.length).cps.toList=x.cps.toList:=this;rw[Str.cps_append,Str.cps_append,dw3,dw3] at e;rw[<-e,dv0];rfl
   · intro hm
     have e:(Builtin.Str.strSub x 0 i).cps.toList=x.cps.toList.take i:=by
       show (x.cps.extract 0 i).toList=_;simp
     rw[e] at hm;obtain ⟨k,hk⟩:=dy5.mp hm;rw[List.getElem?_take] at hk
     split at hk
     · rename_i ki;exact hn k ki ((StrLaws.subAt_one x c k).mpr hk)
     · cases hk
end
end L2
namespace My
open PySem L2 Mth
section
variable {P:Program} {w:World} {K:PySem.W.Frag} {mg:Str->Option Value} {base:Heap}
theorem dn1:∀k,k < 100->(B0 (k:Nat)).cps.toList.length<=2/\1<=(B0 (k:Nat)).cps.toList.length/\(∀c∈(B0 (k:Nat)).cps.toList,48<=c/\c<=57)/\((B0 (k:Nat)).cps.toList=[48]\/(B0 (k:Nat)).cps.toList[0]? ≠some 48):=by decide+kernel
theorem cq2:∀j,j < 100->∀k,k < 100->B0 (j:Nat)=B0 (k:Nat)->j=k:=by decide+kernel
def Nm (u:Str)(i:Int):Prop:=0<=i/\i < 100/\u=B0 i
theorem T3 {u:Str}{i:Int}(h:Nm u i):u.cps.toList.length<=2/\1<=u.cps.toList.length/\(∀c∈u.cps.toList,48<=c/\c<=57)/\(u.cps.toList=[48]\/u.cps.toList[0]? ≠some 48):=by
 obtain ⟨h0,h1,rfl⟩:=h;obtain ⟨k,rfl⟩:=dw4 h0;exact dn1 k (by omega)
theorem nm1:∀a,a < 10->(⟨#[48+a]⟩:Str)=B0 (a:Nat)/\PySem.intText? ⟨#[48+a]⟩=some (a:Int):=by decide+kernel
theorem nm2:∀a,a < 9->∀b,b < 10->(⟨#[49+a,48+b]⟩:Str)=B0 ((10*(a+1)+b:Nat))/\PySem.intText? ⟨#[49+a,48+b]⟩=some ((10*(a+1)+b:Nat):Int):=by decide+kernel
theorem dn2 {u:Str}(h2:u.cps.toList.length<=2)(h1:u.cps.toList≠[])(hd:∀c∈u.cps.toList,48<=c/\c<=57)(hz:u.cps.toList=[48]\/u.cps.toList[0]? ≠some 48):∃i,Nm u i/\PySem.intText? u=some i:=by
 obtain ⟨⟨cs⟩⟩:=u;have h2:cs.length<=2:=h2;have h1:cs≠[]:=h1;have hd:∀c∈cs,48<=c/\c<=57:=hd;have hz:cs=[48]\/cs[0]? ≠some 48:=hz
 match cs,h2,h1,hd,hz with
 |[a],_,_,hd,_=>
  have ha:=hd a dt6;obtain ⟨k,rfl⟩:∃k,a=48+k:=⟨a - 48,by omega⟩;have:=nm1 k (by omega);exact ⟨(k:Int),⟨by omega,by omega,this.1⟩,this.2⟩
 |[a,b],_,_,hd,hz=>
  have ha:=hd a dt6;have hb:=hd b (dt8 _ dt6)
  have na:a≠48:=fun z=>by
    rcases hz with e|e
    · cases e
    · exact e (by rw[z];rfl)
  obtain ⟨k,rfl⟩:∃k,a=49+k:=⟨a - 49,by omega⟩;obtain ⟨m,rfl⟩:∃m,b=48+m:=⟨b - 48,by omega⟩;have:=nm2 k (by omega) m (by omega);exact ⟨((10*(k+1)+m:Nat):Int),⟨by omega,by omega,this.1⟩,this.2⟩
def Rw1 (r:List Int):Prop:=r≠[]/\∀x∈r,0<=x/\x < 100
theorem Rw.one {r:List Int}(h:Rw r):Rw1 r:=⟨h.1,fun x hx=>⟨(h.2 x hx).1,by have:=(h.2 x hx).2;omega⟩⟩
theorem bv6 {r:List Int}{c:Nat}(hc:c < 48)(h32:c≠32)(br:∀x∈r,0<=x/\x < 100):c∉(A2 r).cps.toList:=by
 refine bu8 (by rw[show (Str.ofString " ").cps.toList=[32] by decide+kernel];exact fun z=>h32 (du4.mp z)) fun t ht=> ?_
 obtain ⟨i,hi,rfl⟩:=dv3.mp ht;intro z;have:=(T3 ⟨(br i hi).1,(br i hi).2,rfl⟩).2.2.1 c z;omega
theorem cq3 {r:List Int}(h:Rw1 r):Txt.split (A2 r) (Str.ofString " ")=r.map B0:=
 (ae9 (sep:=Str.ofString " ") (c0:=32) (rest:=[]) (by decide+kernel) (by simp) (fun t ht z=>by
     obtain ⟨x,hx,rfl⟩:=dv3.mp ht;have:=(T3 ⟨(h.2 x hx).1,(h.2 x hx).2,rfl⟩).2.2.1 32 z
     omega) (by simpa using h.1) (by decide+kernel)).1
theorem bv7:∀{a b:List Int},(∀x∈a,0<=x/\x < 100)->(∀x∈b,0<=x/\x < 100)->a.map B0=b.map B0->a=b
 |[],[],_,_,_=>rfl
 |[],y::b,_,_,e=>by cases e
 |x::a,[],_,_,e=>by cases e
 |x::a,y::b,ha,hb,e=>by
  rw[dv7,dv7] at e
  injection e with e1 e2
  have hx:=ha x dt6;have hy:=hb y dt6;obtain ⟨k,rfl⟩:=dw4 hx.1;obtain ⟨m,rfl⟩:=dw4 hy.1;rw[cq2 k (by omega) m (by omega) e1,bv7 (fun z hz=>ha z (dt8 _ hz)) (fun z hz=>hb z (dt8 _ hz)) e2]
theorem cq4 {r s:List Int}(hr:Rw1 r)(hs:Rw1 s)(h:A2 r=A2 s):r=s:=by
 have e:=cq3 hr;rw[h,cq3 hs] at e;exact (bv7 hs.2 hr.2 e).symm
def M8 (rs:List (List Int)):List Nat:=((rs.map fun r=>(A2 r).cps.toList).map bb9).flatten
theorem T4 (r:List Int)(rs:List (List Int)):M8 (r::rs)=40::((A2 r).cps.toList++41::M8 rs):=by
 unfold M8 bb9;rw[dv7,dv7,dx7];simp only[ec8,dv0,List.nil_append]
theorem bv8 (rs ss:List (List Int)):M8 (rs++ss)=M8 rs++M8 ss:=by
 unfold M8;rw[du6,du6,dx6]
theorem ch2 (rs:List (List Int))(r:List Int)(t:List Nat):M8 (rs++[r])++t=M8 rs++(40::((A2 r).cps.toList++41::t)):=by
 rw[bv8,T4];simp only[dv0,ec8];rfl
theorem bv9:∀{rs ss:List (List Int)} {t:List Nat},(∀r∈rs,Rw1 r)->(∀r∈ss,Rw1 r)->M8 rs++t=M8 ss->∃us,ss=rs++us/\t=M8 us
 |[],ss,t,_,_,e=>⟨ss,rfl,e⟩
 |r::rs,[],t,_,_,e=>by rw[T4] at e;cases e
 |r::rs,s::ss,t,hr,hs,e=>by
  rw[T4,T4,ec8,dv0,ec8] at e
  injection e with _ e
  have r1:=hr r dt6;have s1:=hs s dt6;have e1:=ay1 (bv6 (by decide) (by decide) r1.2) (bv6 (by decide) (by decide) s1.2) e;have e2:=cq4 r1 s1 (O9 e1);subst e2;have e3:=ei9 e
  injection e3 with _ e3
  obtain ⟨us,h1,h2⟩:=bv9 (fun q hq=>hr q (dt8 _ hq)) (fun q hq=>hs q (dt8 _ hq)) e3;exact ⟨us,by rw[h1];rfl,h2⟩
theorem dd5 {x:Str}{p:List Int}(w:Wr x p)(n:x≠Str.ofString "()"):x.cps.toList=M8 (A0 p p.length):=by
 have ne:=ch0 w n;rw[w.2.2,aj0 ne,X0];rfl
theorem cc9 {x:Str}{p:List Int}{rs:List (List Int)}{t:List Nat}(w:Wr x p)(n:x≠Str.ofString "()")(hr:∀r∈rs,Rw1 r)(e:x.cps.toList=M8 rs++t):∃us,A0 p p.length=rs++us/\t=M8 us:=
 bv9 hr (fun r h=>(Q7 w.1 w.2.1 r h).one) (e.symm.trans (dd5 w n))
theorem bi3 {x:Str}{p:List Int}{rs:List (List Int)}{c:Nat}{t:List Nat}(w:Wr x p)(n:x≠Str.ofString "()")(hr:∀r∈rs,Rw1 r)(e:x.cps.toList=M8 rs++c::t):c=40/\∃s us,Rw s/\t=(A2 s).cps.toList++41::M8 us:=by
 obtain ⟨us,e1,e2⟩:=cc9 w n hr e
 cases us with
 |nil=>cases e2
 |cons s us=>
  rw[T4] at e2
  injection e2 with e2 e3
  exact ⟨e2,s,us,Q7 w.1 w.2.1 s (by rw[e1];exact du0 _ dt6),e3⟩
theorem dj4 {x:Str}{p:List Int}{rs:List (List Int)}(w:Wr x p)(n:x≠Str.ofString "()")(hr:∀r∈rs,Rw1 r)(e:x.cps.toList=M8 rs):A0 p p.length=rs:=by
 obtain ⟨us,e1,e2⟩:=cc9 (t:=[]) w n hr (by rw[e,dw7])
 cases us with
 |nil=>rw[e1,dw7]
 |cons s us=>rw[T4] at e2;cases e2
theorem dn3 {x:Str}{t:List Int}{rs:List (List Int)}(e:x.cps.toList=M8 rs)(ne:rs≠[])(al:af0 t rs)(fl:rs.flatten.Perm (L2.M0 0 t.length))(lt:t.length<=40)(hd:∀r∈rs,r≠[]/\∀y∈r,r.getD 0 0<=y)(lx:ak1 rs):Wr x t:=by
 have er:=bz4 al fl hd lx;refine ⟨ac9 al fl,lt,O9 ?_⟩;rw[aj0 (by rw[er];exact ne),X0,er];exact e
theorem ch3 {p:List Int}(tp:G2 p):∀r∈A0 p p.length,r≠[]/\∀y∈r,r.getD 0 0<=y:=fun r hr=>by
 obtain ⟨y,L,hy,pr,er,lo,_⟩:=(P4 tp).ring r hr
 have e0:r.getD 0 0=y:=by rw[er,S9 pr.pos];rfl
 refine ⟨fun z=> ?_,fun u hu=>by rw[e0];exact lo u hu⟩;have:=congrArg dz3 (er.symm.trans z);rw[C8] at this;have:=pr.pos;simp at*;omega
theorem dj5 {y:Str}{c:Nat}{t:List Nat}(h:y.cps.toList=c::t):(Txt.slice y (some 1) none).cps.toList=t:=by
 have ly:y.length=t.length+1:=by show y.cps.toList.length=_;rw[h];rfl
 have eb:Builtin.Str.strSliceIndices (some 1) none 1 y.length=Builtin.Str.strSliceIndices (some ((1:Nat):Int)) (some ((y.length:Nat):Int)) 1 y.length:=by
   unfold Builtin.Str.strSliceIndices;simp only[show ¬(((y.length:Nat):Int) < 0) by omega,if_false]
   congr 1
   omega
 unfold Txt.slice;rw[eb,StrLaws.sliced_plain y (by omega) (by omega)]
 have nl:(Builtin.Str.strSliceIndices (some ((1:Nat):Int)) (some ((y.length:Nat):Int)) 1 y.length).length=t.length:=by
   rw[StrLaws.strSliceIndices_plain (by omega) (by omega),dt3,eb9];omega
 rw[if_neg (by rw[nl];simp;omega)];show (y.cps.toList.drop 1).take (y.length - 1)=t;rw[h,List.drop_succ_cons,ef9,ly];exact ea2 (by omega)
end
end My
namespace My
open PySem L2 Mth
section
variable {P:Program} {w:World} {K:PySem.W.Frag} {mg:Str->Option Value} {base:Heap}
theorem dj6 (x:Str)(c:Nat):(Builtin.Str.occurrences x (sgn c) 0 x.length 1).isEmpty= !decide (c∈x.cps.toList):=by
 rcases StrLaws.occ_head x (sgn c) 1 (dt7 1) with ⟨h0,hn⟩|⟨i,r,h0,hi,hn⟩
 · rw[h0,decide_eq_false fun hm=>by obtain ⟨i,hi⟩:=(PyProof.Rows.mem_iff_at x c).mp hm;exact hn i hi];rfl
 · rw[h0,decide_eq_true ((PyProof.Rows.mem_iff_at x c).mpr ⟨i,hi⟩)];rfl
theorem bw0 (c:Nat):c∈(Str.ofString "0123456789").cps.toList↔48<=c/\c<=57:=by
 rw[show (Str.ofString "0123456789").cps.toList=[48,49,50,51,52,53,54,55,56,57] by decide+kernel];simp only[dw1,ed8,or_false];omega
theorem cq5:∀{ws:List Str},(∀u∈ws,∃j,Nm u j/\PySem.intText? u=some j)->∃r:List Int,ws=r.map B0/\∀y∈r,0<=y/\y < 100/\PySem.intText? (B0 y)=some y
 |[],_=>⟨[],rfl,(fun y hy=>by cases hy)⟩
 |u::ws,h=>by
  obtain ⟨r,e,hr⟩:=cq5 fun v hv=>h v (dt8 _ hv)
  obtain ⟨j,⟨j0,j1,ej⟩,ij⟩:=h u dt6;refine ⟨j::r,by rw[e,ej];rfl,fun y hy=> ?_⟩
  rcases dw1.mp hy with z|z
  · rw[z];exact ⟨j0,j1,ej▸ij⟩
  · exact hr y z
theorem cx4 {r:List Int}(br:∀y∈r,0<=y/\y < 100):r.length<=(A2 r).cps.toList.length:=by
 show r.length<=(Builtin.Str.glued _ _).cps.toList.length;rw[StrLaws.glued_eq_join,O3];refine du3 ?_ (aa2 _)
 induction r with
 |nil=>exact dv5 _
 |cons y r ih=>
  have:=(T3 ⟨(br y dt6).1,(br y dt6).2,rfl⟩).2.1
  have:=ih fun z hz=>br z (dt8 _ hz)
  simp only[dv7,eg5,du9];omega
theorem bc1:∀{rs:List (List Int)},(∀r∈rs,Rw1 r)->rs.length+rs.flatten.length<=(M8 rs).length
 |[],_=>by simp
 |r::rs,h=>by
  have:=bc1 fun q hq=>h q (dt8 _ hq)
  have:=cx4 (h r dt6).2;rw[T4];simp only[du9,dt4,dx7];omega
theorem cx5 (n:Nat):(L2.M0 0 n).Pairwise (· <= ·):=by
 refine dx0.mpr fun i j hi hj hij=> ?_
 unfold L2.M0 at*;simp only[List.getElem_map,List.getElem_range];omega
theorem cx6 {a b:List Int}(h:a.Perm b)(ha:a.Pairwise (· <= ·))(hb:b.Pairwise (· <= ·)):a=b:=by
 have:=ay9 (a:=a.reverse) (b:=b.reverse) (((eg2 a).trans h).trans (eg2 b).symm) (ee9.mpr ha) (ee9.mpr hb);exact List.reverse_inj.mp this
theorem dd6 {os:List Int}{ln j:Nat}(lo:os.length=ln)(hj:j < ln):Y0 (os.map V.int) ((0:Int)+(j:Int) - 1)=some (.int (os.getD ((j+ln - 1)%ln) 0)):=by
 have hpl:(j+ln - 1)%ln < ln:=ec4 _ (by omega)
 have eo:(os.map V.int).length=ln:=by rw[dt3];exact lo
 have key:U9 (os.map V.int).length ((0:Int)+(j:Int) - 1)=some ((j+ln - 1)%ln):=by
   unfold U9;rw[eo]
   by_cases z:j=0
   · rw[if_neg (by omega),if_pos (by omega)]
     have:(j+ln - 1)%ln=ln - 1:=by rw[z,ea0];exact dw0 (by omega)
     rw[this];congr 1;omega
   · rw[if_pos (by omega),if_pos (by omega)]
     have:(j+ln - 1)%ln=j - 1:=by
       rw[show j+ln - 1=(j - 1)+ln by omega,dz8];exact dw0 (by omega)
     rw[this];congr 1;omega
 unfold Y0;rw[key];show (os.map V.int)[(j+ln - 1)%ln]? =_;rw[du7,dt5 (by omega),G9 (by omega)];rfl
theorem dd7 {w j ln:Nat}(h1:w < j)(h2:j < ln):(w+ln - 1)%ln≠(j+ln - 1)%ln:=by
 by_cases z:w=0
 · rw[z,ea0,dw0 (show ln - 1 < ln by omega),show j+ln - 1=(j - 1)+ln by omega,dz8,dw0 (by omega)];omega
 · rw[show w+ln - 1=(w - 1)+ln by omega,show j+ln - 1=(j - 1)+ln by omega,dz8,dz8,dw0 (by omega),dw0 (by omega)];omega
theorem cq6 {u ln:Nat}(hu:u < ln):((u+1)%ln+ln - 1)%ln=u:=by
 by_cases y:u+1=ln
 · rw[y,eh1,ea0,dw0 (by omega)];omega
 · rw[dw0 (show u+1 < ln by omega),show u+1+ln - 1=u+ln by omega,dz8,dw0 hu]
def bi4:Sp:=fun vs H Q _=>∃(x:Str),vs=[.str x]/\x.length<=30000/\(∀p,Wr x p->∀(l:Addr) (H':Hp),H l=none->i6 H H'->H' l=some (.lst (p.map V.int))->Q (.ref l) H')/\((∀p,¬Wr x p)->∀H',i6 H H'->Q .non H')
theorem G0:y7 ["text","rounds","inside","end","words","word","things","one","found","k"] ["text"] (o7 aq2):=by rfl'
theorem bc2:(["sign"]:List Str).Nodup:=by decide+kernel
theorem bc3:(["word"]:List Str).Nodup:=by decide+kernel
theorem bz5 {f:Addr}{fd:FuncData}(F:E6 K "_law_read" "_law_read" aq2 f fd)(B:Bl mg):w6 P w K mg base J8 1 f fd ["text"] bi4:=by
 refine F.ok G0 (fun vs H Q E h=> ?_) (fun cdv A outer s H vs Q E hr h=> ?_)
 · obtain ⟨x,rfl,lx,q,qn⟩:=h;rfl
 · obtain ⟨x,rfl,lx,q,qn⟩:=h;have hu:=ae5 hr;have hu2:_+1+1 < cLine:=ea1 (ec2 (by decide:2<=64) _) hr.units;refine ⟨_,@i5 _ _ _ _ _ (@w9 _ _ _ _ _ _ _ _ (@m8 _ _ _ _ _ _ _ _ E5 (pv 0) (@o6 _ _ _ _) (o4 _)) (@i7 _ _ _ (@o5 _ _ _ _ (@w4 _ _ _ _ (@i4 _)))) (@o9 _)) (@i5 _ _ _ _ _ (@m9 _ _ (1) _ _ _ _ G0.nd rfl (Or.inl rfl) (@w4 _ _ _ _ (@i4 _)) (by rfl) (by trivial)) (@i5 _ _ _ _ _ (@an8 _ _ _ _ _ _ PassesOwn.never (@m8 _ _ _ _ _ _ _ _ U7 (pv 0) (@o6 _ _ _ _) (o4 _)) (@i5 _ _ _ _ _ (@Q2 _ _ _ _ _ _ (@cr5 _ _ _ _ _ _ _ _ (@m8 _ _ _ _ _ _ _ _ E5 (@ak4 _ _ _ _ _ _ (pv 0) (@i9 _ _ _ _) (fun _ _=>rfl)) (@o6 _ _ _ _) (o4 _)) (dd4 (@C2 _ _ _ _ _ _ _ _ _ _ U0 (pv 0) (@B6 _ _ _ (@i9 _ _ _ _)) (@E7 _)) (@c9 _ _ _ _ _ (@o6 _ _ _ _) (@i4 _) (by rfl))) (@X9 _ _ _ _ _ (@c9 _ _ _ _ _ (@o6 _ _ _ _) (@c9 _ _ _ _ _ (@o6 _ _ _ _) (@c9 _ _ _ _ _ (@o6 _ _ _ _) (@i4 _) (by rfl)) (by rfl)) (by rfl)))) (@bp8 _ _ _ _ _ _ rfl (@Y3 _ _ _ _ _ (@y8 _ _ (2) _ G0.nd rfl (Or.inl rfl) (by trivial)) (@Y3 _ _ _ _ _ (@y8 _ _ (3) _ G0.nd rfl (Or.inl rfl) (by trivial)) (@Y3 _ _ _ _ _ (@y8 _ _ (0) _ G0.nd rfl (Or.inl rfl) (by trivial)) (@bf7 _) (by rfl)) (by rfl)) (by rfl)) (by rfl) (by rfl)) (by rfl) (by rfl) (by rfl)) (@i5 _ _ _ _ _ (@w9 _ _ _ _ _ _ _ _ (@m8 _ _ _ _ _ _ _ _ E5 (pv 3) (@o6 _ _ _ _) (o4 _)) (@i7 _ _ _ (@o5 _ _ _ _ (@G4 _ _ _))) (@o9 _)) (@i5 _ _ _ _ _ (@m9 _ _ (4) _ _ _ _ G0.nd rfl (Or.inl rfl) (@bb0 _ _ _ _ _ _ _ (pv 2) (@c9 _ _ _ _ _ (@o6 _ _ _ _) (@i4 _) (by rfl)) (by rfl) (by rfl) (by rfl) (by rfl) (by rfl)) (by rfl) (by trivial)) (@i5 _ _ _ _ _ (@I0 _ _ _ _ _ _ _ _ PassesOwn.never rfl (@E4 _ _ _ _ (pv 4)) (@y8 _ _ (5) _ G0.nd rfl (Or.inl rfl) (by trivial)) (@i5 _ _ _ _ _ (@w9 _ _ _ _ _ _ _ _ (@M7 _ _ _ _ _ _ _ (@m8 _ _ _ _ _ _ _ _ E5 (pv 5) (@o6 _ _ _ _) (o4 _)) (@M7 _ _ _ _ _ _ _ (@m8 _ _ _ _ _ _ _ _ aw9 (@N3 _ _ _ _ _ _ _ _ _ as9 (by rfl) B.len PySem.boot_len (@c9 _ _ _ _ _ (pv 5) (@i4 _) (by rfl)) (by decide) (by decide) (by rfl) (by rfl)) (@i9 _ _ _ _) (o4 _)) (@Q1 _ _ _ _ (@as4 _ _ _ _ _ _ _ (@m8 _ _ _ _ _ _ _ _ U7 (pv 5) (@o6 _ _ _ _) (o4 _)) (@al5 _ _ _ _ (@m8 _ _ _ _ _ _ _ _ E5 (@ak4 _ _ _ _ _ _ (pv 5) (@i9 _ _ _ _) (fun _ _=>rfl)) (@o6 _ _ _ _) (o4 _)))).pt))).pt (@i7 _ _ _ (@o5 _ _ _ _ (@G4 _ _ _))) (@o9 _)) (@i7 _ _ _ (@w9 _ _ _ _ _ _ _ _ (@m8 _ _ _ _ _ _ _ _ (bd6 0 hu) (@U3 _ _ _ _ _ _ _ _ _ _ _ (["sign"]) (1) ([]) rfl .of (dj3 (pv 5)) (fun _ _ _ _ _=>@y8 _ _ (0) _ bc2 rfl (Or.inl rfl) (by trivial)) (fun _ _ _ _ _=>@ba2 _ _ _ (@m8 _ _ _ _ _ _ _ _ (bq2) (pv 0) (@o6 _ _ _ _) (by with_unfolding_all rfl))) (fun _ _ _ _ _=>(pv 0)) (by intro _;rfl)) (@w4 _ _ _ _ (@i4 _)) (o4 _)) (@i7 _ _ _ (@o5 _ _ _ _ (@G4 _ _ _))) (@o9 _)))) (by intro _;rfl)) (@i7 _ _ _ (@O0 _ _ _ _ (@S6 _ _ _ _ _ _ _ (pv 1) (@c9 _ _ _ _ _ (@U3 _ _ _ _ _ _ _ _ _ _ _ (["word"]) (1) ([]) rfl .of (@E4 _ _ _ _ (pv 4)) (fun _ _ _ _ _=>@y8 _ _ (0) _ bc3 rfl (Or.inl rfl) (by trivial)) (fun _ _ _ _ _=>(@P0 _)) (fun _ _ _ _ _=>(dd2 B.int (@c9 _ _ _ _ _ (pv 0) (@i4 _) (by rfl)))) (by intro _;rfl)) (@i4 _) (by rfl)) (by rfl) (by rfl) (by rfl) (by rfl) (by rfl)) (by rfl)))))))) (@i5 _ _ _ _ _ (@m9 _ _ (6) _ _ _ _ G0.nd rfl (Or.inl rfl) (@w4 _ _ _ _ (@i4 _)) (by rfl) (by trivial)) (@i5 _ _ _ _ _ (@I0 _ _ _ _ _ _ _ _ PassesOwn.never rfl (@E4 _ _ _ _ (pv 1)) (@y8 _ _ (7) _ G0.nd rfl (Or.inl rfl) (by trivial)) (@i5 _ _ _ _ _ (@w9 _ _ _ _ _ _ _ _ (@m8 _ _ _ _ _ _ _ _ U7 (@B8 _ _ _ _ _ _ _ y9 (pv 7) (@i9 _ _ _ _) (fun _ _=>rfl)) (@db2 _ _ _ _ _ rfl B.min (@c9 _ _ _ _ _ (pv 7) (@i4 _) (by rfl)) (by rfl) (by rfl)) (o4 _)) (@i7 _ _ _ (@o5 _ _ _ _ (@G4 _ _ _))) (@o9 _)) (@i7 _ _ _ (@m9 _ _ (6) _ _ _ _ G0.nd rfl (Or.inl rfl) (@k7 _ _ _ _ _ _ _ _ J0 (pv 6) (pv 7)) (by rfl) (by trivial)))) (by intro _;rfl)) (@i5 _ _ _ _ _ (@w9 _ _ _ _ _ _ _ _ (@M7 _ _ _ _ _ _ _ (@m8 _ _ _ _ _ _ _ _ (at5 1 hu2) (pv 1) (@w4 _ _ _ _ (@i4 _)) (o4 _)) (@M7 _ _ _ _ _ _ _ (@m8 _ _ _ _ _ _ _ _ (bd6 1 hu2) (pv 1) (by6 hu2 B.sorted (@c9 _ _ _ _ _ (pv 1) (@i4 _) (by rfl))) (o4 _)) (@M7 _ _ _ _ _ _ _ (@m8 _ _ _ _ _ _ _ _ (bd6 0 hu) (by5 B.sorted (@c9 _ _ _ _ _ (pv 6) (@i4 _) (by rfl))) (@ao5 _ _ _ _ _ _ _ rfl B.list B.range (@c9 _ _ _ _ _ (@A6 _ _ _ _ _ B.len (@c9 _ _ _ _ _ (pv 6) (@i4 _) (by rfl)) (by rfl) (by rfl)) (@i4 _) (by rfl)) (by rfl) (by rfl) (by rfl) (by rfl)) (o4 _)) (@Q1 _ _ _ _ (@m8 _ _ _ _ _ _ _ _ aw9 (@A6 _ _ _ _ _ B.len (@c9 _ _ _ _ _ (pv 6) (@i4 _) (by rfl)) (by rfl) (by rfl)) (@i9 _ _ _ _) (o4 _)))))).pt (@i7 _ _ _ (@o5 _ _ _ _ (@G4 _ _ _))) (@o9 _)) (@i5 _ _ _ _ _ (@m9 _ _ (8) _ _ _ _ G0.nd rfl (Or.inl rfl) (@k7 _ _ _ _ _ _ _ _ bd1 (@w4 _ _ _ _ (@c9 _ _ _ _ _ (@i9 _ _ _ _) (@i4 _) (by rfl))) (@A6 _ _ _ _ _ B.len (@c9 _ _ _ _ _ (pv 6) (@i4 _) (by rfl)) (by rfl) (by rfl))) (by rfl) (by trivial)) (@i5 _ _ _ _ _ (@I0 _ _ _ _ _ _ _ _ PassesOwn.never rfl (@E4 _ _ _ _ (pv 1)) (@y8 _ _ (7) _ G0.nd rfl (Or.inl rfl) (by trivial)) (@i7 _ _ _ (@I0 _ _ _ _ _ _ _ _ PassesOwn.never rfl (@N6 _ _ _ _ _ _ (by rfl) B.range (@c9 _ _ _ _ _ (@A6 _ _ _ _ _ B.len (@c9 _ _ _ _ _ (pv 7) (@i4 _) (by rfl)) (by rfl) (by rfl)) (@i4 _) (by rfl)) (by rfl)) (@y8 _ _ (9) _ G0.nd rfl (Or.inl rfl) (by trivial)) (@i7 _ _ _ (@Q2 _ _ _ _ _ _ (@B8 _ _ _ _ _ _ _ y9 (pv 7) (pv 9) (fun _ _=>rfl)) (@T5 _ _ _ _ _ _ _ (pv 8) (@B8 _ _ _ _ _ _ _ y9 (pv 7) (@k7 _ _ _ _ _ _ _ _ as6 (pv 9) (@i9 _ _ _ _)) (fun _ _=>rfl)) O2 (by intro _;rfl)) (by rfl) (by rfl) (by rfl))) (by intro _;rfl))) (by intro _;rfl)) (@i7 _ _ _ (@o5 _ _ _ _ (pv 8)))))))))),?_⟩
   refine ⟨_,rfl,rfl,_,rfl,?_⟩
   by_cases e0:x=Str.ofString "()"
   · rw[decide_eq_true (congrArg V.str e0)];exact A5 ⟨dv5 _,fun l hl=>q [] (e0▸bf3) l _ hl (i6.upd_new hl) j6⟩
   rw[decide_eq_false (fun z=>e0 (V.str.inj z))];refine B9 ⟨dv5 _,fun ro hro=> ?_⟩;obtain ⟨H1,e1⟩:∃Hn,Hn=i8 H ro (.lst []):=⟨_,rfl⟩;have s1:i6 H H1:=e1▸i6.upd_new hro
   have h1:H1 ro=some (.lst (([]:List Addr).map V.ref)):=by rw[e1,j6];rfl
   rw[<-e1];clear e1
   refine ⟨fun mm σ H2=>∃(t:Str) (rs:List (List Int)) (as:List Addr) (v2 v3 v4 v5:Option V),σ=[some (.str t),some (.ref ro),v2,v3,v4,v5,none,none,none,none]/\H2 ro=some (.lst (as.map V.ref))/\E2 H2 as rs/\ro∉as/\(∀r∈rs,Rw1 r)/\x.cps.toList=M8 rs++t.cps.toList/\i6 H H2/\mm=t.length,
     ⟨_,x,[],[],none,none,none,none,rfl,h1,⟨rfl,fun j b r h=>by simp at h⟩,(by simp),(fun r hr=>by cases hr),rfl,s1,rfl⟩,?_⟩
   rintro mm σ H2 ⟨t,rs,as,v2,v3,v4,v5,rfl,h2,rows,nro,hr,ex,s2,rfl⟩
   have lt:t.length<=30000:=by
     have:=congrArg dz3 ex;rw[dt4] at this;have e1:x.cps.toList.length=x.length:=rfl;have e2:t.cps.toList.length=t.length:=rfl;omega
   refine ⟨_,rfl,rfl,_,rfl,?_⟩
   by_cases et:t=Str.ofString ""
   · refine Q9 (congrArg V.str et) ?_
     have ex:x.cps.toList=M8 rs:=by rw[ex,et,show (Str.ofString "").cps.toList=[] by decide+kernel,dw7]
     have only:∀p,Wr x p->A0 p p.length=rs:=fun p w=>dj4 w e0 hr ex
     have lf:rs.length+rs.flatten.length<=30000:=by
       have e1:=bc1 hr;have e2:=congrArg dz3 ex;have e3:x.cps.toList.length=x.length:=rfl;omega
     refine ⟨dv5 _,fun th hth=> ?_⟩;have s3:i6 H2 (i8 H2 th (.lst [])):=i6.upd_new hth;have h3:(i8 H2 th (.lst [])) th=some (.lst (([]:List Int).map V.int)):=j6;generalize (i8 H2 th (.lst []))=H3 at s3 h3 ⊢
     refine ⟨_,rfl,ro,rfl,⟨_,j7.of (s3 _ _ h2)⟩,N0 (K:=K) (a:=ro) (xs:=as.map V.ref) (fun i σ H4=>∃(v7:Option V) (to:Addr),σ=[some (.str t),some (.ref ro),v2,v3,v4,v5,some (.ref to),v7,none,none]/\i6 H2 H4/\H4 to=some (.lst ((rs.take i).flatten.map V.int))/\∀r∈rs.take i,∀y∈r,r.getD 0 0<=y)
       ⟨none,th,rfl,s3,h3,(fun r hr=>by simp at hr)⟩ (fun i σ H4 _ zz=>by obtain ⟨_,_,_,s,_⟩:=zz;exact j7.of (s _ _ h2)) ?_ ?_⟩
     · rintro i v σ H4 hi ⟨v7,to,rfl,s4,h4,hd⟩;obtain ⟨b,hb,rfl⟩:=ai8 hi;obtain ⟨r,hr',h2b⟩:=an2 rows hb;have h4b:=s4 _ _ h2b;have hrm:=du8 hr';have ne:=(hr r hrm).1;have r0:0 < r.length:=ec3.mpr ne;refine ⟨_,rfl,b,_,0,_,rfl,rfl,j7.of h4b,ag9 (j:=0) r0,_,rfl,b,r,rfl,j7.of h4b,ne,fun m mm ml=>⟨rfl,_,rfl,?_⟩⟩
       by_cases em:r.getD 0 0=m
       · rw[em];refine Q9 rfl ?_;have hle:=ai3 rs (i+1);rw[w5 hr',dx6,dy1,dt4] at hle;refine ⟨_,rfl,_,rfl,to,b,_,_,rfl,rfl,h4,h4b,(by rw[dt3,dt3,sizeLine_eq];omega),fun n hn=> ?_⟩;refine ⟨_,n,rfl,s4.trans (i6.upd_new hn),?_,fun q hq=> ?_⟩
         · rw[j6,w5 hr',dx6,dy1,du6]
         · rw[w5 hr'] at hq
           rcases du1.mp hq with y|y
           · exact hd q y
           · rw[du4.mp y,em];exact ml
       · rw[decide_eq_false (fun z=>em (V.int.inj z))];refine A5 (qn (fun p w=>em ?_) H4 (s2.trans s4));have hh:=(ch3 w.1 r (by rw[only p w];exact hrm)).2
         have h0:r.getD 0 0∈r:=by rw[G9 r0];exact dx8 r0
         have a1:=hh m mm;have a2:=ml _ h0;omega
     · rintro σ H4 ⟨v7,to,rfl,s4,h4,hd⟩;rw[dt3,rows.1,dx2] at h4 hd;have h4o:=s4 _ _ h2
       have rows4:E2 H4 as rs:=M5 rows fun c _ o ho=>s4 _ _ ho
       have no:∀{B:Prop} (H':Hp),i6 H4 H'->(B->∀p,¬Wr x p)->B->Q .non H':=fun H' s' f b=>qn (f b) H' ((s2.trans s4).trans s')
       refine ⟨_,rfl,dv5 _,fun e he=> ?_⟩;have s5:i6 H4 (i8 H4 e (.lst [])):=i6.upd_new he;have h5:(i8 H4 e (.lst [])) e=some (.lst []):=j6;generalize (i8 H4 e (.lst []))=H5 at s5 h5 ⊢;refine ⟨ro,e,_,_,_,rfl,rfl,j7.of (s5 _ _ h4o),j7.of h5,aa5 _ _ _ _,_,rfl,?_⟩
       have rows5:E2 H5 as rs:=M5 rows4 fun c _ o ho=>s5 _ _ ho
       have lenas:=rows.1
       by_cases rn:rs=[]
       · have:as=[]:=ee2.mp (by rw[lenas,rn];rfl);subst this;have nb:=qn (fun p w=>ch0 w e0 ((only p w).trans rn)) H5 ((s2.trans s4).trans s5)
         first|exact A5 nb|exact A5 (A5 nb)
       rw[show (as.map V.ref).isEmpty=false by rw[ef1];intro z;have:=congrArg dz3 z;rw[dt3,lenas] at this;exact rn (ee2.mp this)];refine B9 ⟨_,rfl,_,rfl,ro,as,rs,rfl,j7.of (s5 _ _ h4o),rows5,fun cs ts l pb pt rows' st hl=> ?_⟩;have s6:i6 H5 (i8 H5 l (.lst (cs.map V.ref))):=i6.upd_new hl;have h6:(i8 H5 l (.lst (cs.map V.ref))) l=some (.lst (cs.map V.ref)):=j6;generalize (i8 H5 l (.lst (cs.map V.ref)))=H6 at s6 h6 ⊢;have s46:=s5.trans s6
       have rows6:E2 H6 as rs:=M5 rows4 fun c _ o ho=>s46 _ _ ho
       refine ⟨ro,l,_,_,_,rfl,rfl,j7.of (s46 _ _ h4o),j7.of h6,cl4 rows6 (M5 rows' fun c _ o ho=>s6 _ _ ho),_,rfl,?_⟩
       by_cases ets:rs=ts
       rotate_left
       · rw[decide_eq_false ets]
         have nb:=qn (fun p w=>ets (by
           have e:=only p w;have lx:=bl2 w.1 (P4 w.1);rw[e] at lx
           exact ap7 pt.symm lx st)) H6 ((s2.trans s4).trans s46)
         first|exact A5 nb|exact A5 (A5 nb)
       refine Q9 ets ?_
       have lxr:ak1 rs:=by rw[ets];exact st
       clear rows' st pt pb ets;refine ⟨_,rfl,to,rs.flatten,rfl,j7.of (s46 _ _ h4),fun ms l2 pm up hl2=> ?_⟩;have s7:i6 H6 (i8 H6 l2 (.lst (ms.map V.int))):=i6.upd_new hl2;have h7:(i8 H6 l2 (.lst (ms.map V.int))) l2=some (.lst (ms.map V.int)):=j6;generalize (i8 H6 l2 (.lst (ms.map V.int)))=H7 at s7 h7 ⊢;have s47:=s46.trans s7;refine ⟨_,rfl,to,_,rfl,.inl (j7.of (s47 _ _ h4)),_,rfl,fun rg hrg=> ?_⟩;rw[dt3];have s8:i6 H7 (i8 H7 rg (.rng 0 (rs.flatten.length:Int))):=i6.upd_new hrg;have h8:(i8 H7 rg (.rng 0 (rs.flatten.length:Int))) rg=some (.rng 0 (rs.flatten.length:Int)):=j6;generalize (i8 H7 rg (.rng 0 (rs.flatten.length:Int)))=H8 at s8 h8 ⊢;refine ⟨rg,0,(rs.flatten.length:Int),rfl,h8,⟨by decide,by decide,by omega,by omega⟩,by omega,fun lf hlf=> ?_⟩;rw[show ((rs.flatten.length:Int) - 0).toNat=rs.flatten.length by omega];have s9:i6 H8 (i8 H8 lf (.lst ((M0 0 rs.flatten.length).map V.int))):=i6.upd_new hlf;have h9:(i8 H8 lf (.lst ((M0 0 rs.flatten.length).map V.int))) lf=some (.lst ((M0 0 rs.flatten.length).map V.int)):=j6;generalize (i8 H8 lf (.lst ((M0 0 rs.flatten.length).map V.int)))=H9 at s9 h9 ⊢;have s49:=s47.trans (s8.trans s9);refine ⟨l2,lf,_,_,_,rfl,rfl,j7.of ((s8.trans s9) _ _ h7),j7.of h9,br2 K H9 0 ms (M0 0 rs.flatten.length),_,rfl,?_⟩
       by_cases em:ms=M0 0 rs.flatten.length
       rotate_left
       · rw[decide_eq_false em]
         have nb:=qn (fun p w=>em (by
           have fl:=W1 w.1 (P4 w.1);rw[only p w] at fl
           have ll:rs.flatten.length=p.length:=by rw[fl.length_eq,aa6]
           rw[ll]
           exact cx6 (pm.trans fl) up (cx5 _))) H9 ((s2.trans s4).trans s49)
         first|exact A5 nb|exact A5 (A5 nb)
       refine Q9 em ?_
       have fl:rs.flatten.Perm (M0 0 rs.flatten.length):=by rw[<-em];exact pm.symm
       refine ⟨_,rfl,to,_,rfl,.inl (j7.of (s49 _ _ h4)),_,_,rfl,rfl,_,rfl,?_⟩;rw[dt3];refine K7 (fun h40=> ?_) (fun h40=> ?_)
       · have h40:(40:Int) < (rs.flatten.length:Int):=of_decide_eq_true h40
         have nb:=qn (fun p w=>by
           have fl:=W1 w.1 (P4 w.1);rw[only p w] at fl
           have ll:rs.flatten.length=p.length:=by rw[fl.length_eq,aa6]
           have:=w.2.1
           omega) H9 ((s2.trans s4).trans s49)
         first|exact nb|exact A5 nb|exact A5 (A5 nb)
       have h40:¬(40:Int) < (rs.flatten.length:Int):=fun z=>h40 (decide_eq_true z)
       refine ⟨(show 1<=sizeLine by decide),fun z hz=> ?_⟩;have s10:i6 H9 (i8 H9 z (.lst [V.int 0])):=i6.upd_new hz;have h10:(i8 H9 z (.lst [V.int 0])) z=some (.lst [V.int 0]):=j6;generalize (i8 H9 z (.lst [V.int 0]))=H10 at s10 h10 ⊢;have s410:=s49.trans s10;refine ⟨_,rfl,to,_,rfl,.inl (j7.of (s410 _ _ h4)),z,_,_,rfl,rfl,h10,by rw[dt3];omega,by rw[dt3];omega,dz6 (C4 (by rw[dt3,dy7,dy4,Nat.one_mul];omega)),fun fo hfo=> ?_⟩
       have erep:(dw2 (((rs.flatten.map V.int).length:Nat):Int).toNat [V.int 0]).flatten=(dw2 rs.flatten.length (0:Int)).map V.int:=by
         rw[dy7,ed4,List.map_replicate,dt3]
       rw[erep];have s11:i6 H10 (i8 H10 fo (.lst ((dw2 rs.flatten.length (0:Int)).map V.int))):=i6.upd_new hfo;have h11:(i8 H10 fo (.lst ((dw2 rs.flatten.length (0:Int)).map V.int))) fo=some (.lst ((dw2 rs.flatten.length (0:Int)).map V.int)):=j6;generalize (i8 H10 fo (.lst ((dw2 rs.flatten.length (0:Int)).map V.int)))=H11 at s11 h11 ⊢;have h10o:=s410 _ _ h4o
       have rows10:E2 H10 as rs:=M5 rows4 fun c _ o ho=>s410 _ _ ho
       have fof:H fo=none:=(s2.trans (s4.trans s410)).free hfo
       have keep:∀{H':Hp} {b:Addr} {o:HO},(∀b o,H10 b=some o->b≠fo->H' b=some o)->H10 b=some o->H' b=some o:=fun k hb=>k _ _ hb (j9 hb hfo)
       have nd:=fl.nodup_iff.mpr (O6 _)
       have bd:∀y∈rs.flatten,0<=y/\y < (rs.flatten.length:Int):=fun y hy=>by have:=M2.mp (fl.mem_iff.mp hy);omega
       refine ⟨_,rfl,ro,rfl,⟨_,j7.of (s11 _ _ h10o)⟩,N0 (K:=K) (a:=ro) (xs:=as.map V.ref) (fun i σ H12=>∃(fs:List Int) (v7 v9:Option V),σ=[some (.str t),some (.ref ro),v2,v3,v4,v5,some (.ref to),v7,some (.ref fo),v9]/\(∀b o,H10 b=some o->b≠fo->H12 b=some o)/\H12 fo=some (.lst (fs.map V.int))/\fs.length=rs.flatten.length/\af0 fs (rs.take i))
         ⟨_,_,none,rfl,fun b o hb _=>s11 _ _ hb,h11,ea7,(fun r hr=>by simp at hr)⟩ (fun i σ H12 _ zz=>by obtain ⟨_,_,_,_,k,_⟩:=zz;exact j7.of (keep k h10o)) ?_ ?_⟩
       · rintro i v σ H12 hi ⟨fs,v7',v9,rfl,k12,h12,lfs,al⟩;obtain ⟨b,hb,rfl⟩:=ai8 hi;obtain ⟨r,hr',h10b⟩:=an2 rows10 hb;have hrm:=du8 hr'
         have ndr:((rs.take i).flatten++r).Nodup:=by
           have e:rs.flatten=(rs.take (i+1)).flatten++(rs.drop (i+1)).flatten:=by rw[<-dx6,dz5]
           rw[e,w5 hr',dx6,dy1] at nd;exact (dz7.mp nd).1
         have lr:r.length<=rs.flatten.length:=(ed0 hrm).length_le
         have inr:∀j,j < r.length->r.getD j 0∈r:=fun j hj=>by rw[G9 hj];exact dx8 _
         have bdr:∀y∈r,0<=y/\y < (rs.flatten.length:Int):=fun y hy=>bd y (dx5.mpr ⟨r,hrm,hy⟩)
         refine ⟨_,rfl,b,_,rfl,.inl (j7.of (keep k12 h10b)),(r.length:Int),by rw[dt3],by omega,by omega,?_⟩;rw[show ((r.length:Int)).toNat=r.length by omega]
         refine S4 (lo:=0) (n:=r.length) (fun j σ H13=>∃(fs:List Int) (v9:Option V),σ=[some (.str t),some (.ref ro),v2,v3,v4,v5,some (.ref to),some (.ref b),some (.ref fo),v9]/\(∀b o,H10 b=some o->b≠fo->H13 b=some o)/\H13 fo=some (.lst (fs.map V.int))/\fs.length=rs.flatten.length/\af0 fs (rs.take i)/\∀w,w < j->G5 fs (r.getD ((w+r.length - 1)%r.length) 0)=some (r.getD w 0))
           ⟨fs,_,rfl,k12,h12,lfs,al,(fun w hw=>by omega)⟩ ?_ ?_
         · rintro j σ H13 hj ⟨fs',v9',rfl,k13,h13,lfs',al',st⟩;have h13b:=keep k13 h10b;have hpl:(j+r.length - 1)%r.length < r.length:=ec4 _ (by omega);refine ⟨_,rfl,_,rfl,b,_,_,_,rfl,rfl,j7.of h13b,ag9 hj,?_⟩;refine ⟨_,rfl,_,rfl,_,rfl,_,_,rfl,rfl,b,_,_,_,rfl,rfl,j7.of h13b,dd6 rfl hj,?_⟩;have hv:=inr _ hpl;have hvb:=bdr _ hv;refine ⟨fo,_,_,(r.getD ((j+r.length - 1)%r.length) 0).toNat,rfl,rfl,h13,?_,?_⟩
           · unfold U9;rw[dt3,lfs',if_pos hvb.1,if_pos hvb.2]
           rw[<-eb6];refine ⟨_,_,rfl,fun c o hc hn=>by rw[j8 hn];exact k13 c o hc hn,j6,by rw[dx3];exact lfs',fun r' hr2 u hu=> ?_,fun w hw=> ?_⟩
           · have hum:r'.getD u 0∈(rs.take i).flatten:=dx5.mpr ⟨r',hr2,by rw[G9 hu];exact dx8 _⟩;have hub:0<=r'.getD u 0:=(bd _ (dx5.mpr ⟨r',dz0 hr2,by rw[G9 hu];exact dx8 _⟩)).1;rw[am1 hub hvb.1 ((dz7.mp ndr).2.2 _ hum _ hv)];exact al' r' hr2 u hu
           · by_cases hwj:w=j
             · subst hwj;exact ba6 (by omega)
             · have hwl:(w+r.length - 1)%r.length < r.length:=ec4 _ (by omega);rw[am1 (bdr _ (inr _ hwl)).1 hvb.1 (Z5 (dz7.mp ndr).2.1 hwl hpl (dd7 (by omega) hj))];exact st w (by omega)
         · rintro σ H13 ⟨fs',v9',rfl,k13,h13,lfs',al',st⟩;refine ⟨fs',_,_,rfl,k13,h13,lfs',fun r' hr2 u hu=> ?_⟩;rw[w5 hr'] at hr2
           rcases du1.mp hr2 with y|y
           · exact al' r' y u hu
           · have e:=du4.mp y;subst e;have:=st ((u+1)%r'.length) (ec4 _ (by omega));rw[cq6 hu] at this;exact this
       · rintro σ H12 ⟨fs,v7',v9,rfl,k12,h12,lfs,al⟩;rw[dt3,lenas,dx2] at al;refine ⟨_,rfl,q fs (dn3 ex rn al (by rw[lfs];exact fl) (by omega) (fun r hr'=>⟨(hr r hr').1,hd r hr'⟩) lxr) fo H12 fof (fun c o hc=> ?_) h12⟩;exact k12 c o ((s2.trans (s4.trans s410)) _ _ hc) (j9 hc fof)
   · rw[decide_eq_false (fun z=>et (V.str.inj z))];refine A5 ⟨fun σ' H'=>∃m',m' < t.length/\_,fun _ _ h=>h,?_⟩
     obtain ⟨c,u,ht⟩:∃c u,t.cps.toList=c::u:=by
       cases h:t.cps.toList with
       |nil=>exact absurd (O9 (h.trans (by decide+kernel))) et
       |cons c u=>exact ⟨c,u,rfl⟩
     have tl:t.length=u.length+1:=by show t.cps.toList.length=_;rw[ht];rfl
     have t0:t.cps[(0:Int).toNat]? =some c:=by rw[show t.cps[(0:Int).toNat]? =t.cps.toList[0]? by simp,ht];rfl
     have sz:t.length<=sizeLine:=by rw[sizeLine_eq];omega
     refine ⟨_,rfl,t,0,c,rfl,rfl,by decide,by decide,by omega,t0,rfl,_,rfl,?_⟩
     by_cases ec:c=40
     · subst ec;rw[decide_eq_true (show V.str ⟨#[40]⟩=V.str (Str.ofString "(") by decide+kernel)];refine A5 ⟨_,rfl,_,rfl,t,rfl,sz,rfl,_,_,rfl,rfl,(by decide+kernel),(du3 (Txt.slice_le _ _ _) sz),fun l hl=> ?_⟩;have hy:=dj5 ht;have ly:=Txt.slice_le t (some 1) none;obtain ⟨y,ey⟩:∃y,y=Txt.slice t (some 1) none:=⟨_,rfl⟩;rw[<-ey] at hy ly ⊢
       have sep:Str.ofString ")"=⟨#[41]⟩:=by decide+kernel
       rw[sep]
       rcases cx3 y 41 with ⟨no,e⟩|⟨a,b,e,es,na⟩
       · rw[e];refine ⟨l,_,rfl,SqT.of j6,rfl,_,_,rfl,_,_,rfl,_,_,rfl,rfl,?_⟩;refine ⟨_,rfl,rfl,_,rfl,?_⟩;rw[decide_eq_true (show V.str Str.empty=V.str (Str.ofString "") by decide+kernel)];refine A5 (qn (fun p w=> ?_) _ (s2.trans (i6.upd_new hl)));obtain ⟨_,s,us,hs,eu⟩:=bi3 w e0 hr (by rw[ex,ht]);rw[hy,eu] at no;exact no (du0 _ dt6)
       · rw[e];refine ⟨l,_,rfl,SqT.of j6,rfl,_,_,rfl,_,_,rfl,_,_,rfl,rfl,?_⟩;refine ⟨_,rfl,rfl,_,rfl,?_⟩;rw[decide_eq_false (show ¬V.str ⟨#[41]⟩=V.str (Str.ofString "") by decide+kernel)]
         have lab:a.length+b.length+1=y.length:=by
           have:=congrArg dz3 es;rw[dt4,du9] at this;have e1:y.cps.toList.length=y.length:=rfl;have e2:a.cps.toList.length=a.length:=rfl;have e3:b.cps.toList.length=b.length:=rfl;omega
         have sza:a.length+2<=sizeLine:=by rw[sizeLine_eq];omega
         refine B9 ⟨_,rfl,rfl,a,_,rfl,rfl,(by decide+kernel),(by omega),av7 sza,(by have:=X1 a (Str.ofString " ");omega),fun wo hwo=> ?_⟩;obtain ⟨ws,hws⟩:∃ws,ws=Txt.split a (Str.ofString " "):=⟨_,rfl⟩;have ew:Txt.split a " "=ws:=hws.symm;rw[ew]
         have lw:ws.length<=30002:=by have:=X1 a (Str.ofString " ");rw[hws];omega
         have wl:∀v∈ws,v.length<=30000:=fun v hv=>by rw[hws] at hv;exact du3 (cc8 hv) (by omega)
         have s3:=(i6.upd_new (o:= .tup [V.str a,V.str ⟨#[41]⟩,V.str b]) hl).trans (i6.upd_new (o:= .lst (ws.map V.str)) hwo);have h3:(i8 (i8 H2 l (.tup [V.str a,V.str ⟨#[41]⟩,V.str b])) wo (.lst (ws.map V.str))) wo=some (.lst (ws.map V.str)):=j6;generalize (i8 (i8 H2 l (.tup [V.str a,V.str ⟨#[41]⟩,V.str b])) wo (.lst (ws.map V.str)))=H3 at s3 h3 ⊢;refine ⟨_,rfl,wo,rfl,⟨_,j7.of h3⟩,N0 (K:=K) (a:=wo) (xs:=ws.map V.str) (fun i σ H4=>∃v5:Option V,σ=[some (.str b),some (.ref ro),some (.str a),some (.str ⟨#[41]⟩),some (.ref wo),v5,none,none,none,none]/\i6 H3 H4/\∀u∈ws.take i,∃j,Nm u j/\PySem.intText? u=some j) ⟨_,rfl,i6.refl H3,(fun u hu=>by simp at hu)⟩ (fun i σ H4 _ zz=>by obtain ⟨_,_,s,_⟩:=zz;exact j7.of (s _ _ h3)) ?_ ?_⟩
         · rintro i v σ H4 hi ⟨v5',rfl,s4,nm⟩;rw[du7] at hi
           cases hB:ws[i]? with
           |none=>rw[hB] at hi;cases hi
           |some g=>
            rw[hB] at hi;cases hi;have gm:=du8 hB;have lg:=wl g gm
            have bad:(∀j,¬Nm g j)->∀H',i6 H4 H'->Q .non H':=fun no H' s'=>qn (fun p w=>by
              obtain ⟨_,s,us,hs,eu⟩:=bi3 w e0 hr (by rw[ex,ht]);have ea:a=A2 s:=O9 (ay1 na (ai6 (.inr rfl) hs.2) (es.symm.trans (hy.trans eu)));rw[hws,ea,bf4 hs] at gm;obtain ⟨j,hj,rfl⟩:=dv3.mp gm
              exact no j ⟨(hs.2 j hj).1,by have:=(hs.2 j hj).2;omega,rfl⟩) H' ((s2.trans s3).trans (s4.trans s'))
            refine ⟨_,rfl,rfl,_,rfl,?_⟩
            by_cases z0:g=Str.ofString ""
            · rw[decide_eq_true (congrArg V.str z0)];have nb:=bad (fun j h=>by have:=(T3 h).2.1;rw[z0,show (Str.ofString "").cps.toList=[] by decide+kernel] at this;simp at this) H4 (i6.refl H4)
              first|exact A5 nb|exact A5 (A5 nb)|exact A5 (A5 (A5 nb))
            rw[decide_eq_false (fun z=>z0 (V.str.inj z))];refine B9 ⟨_,rfl,g,rfl,(by rw[sizeLine_eq];omega),_,_,rfl,rfl,_,rfl,?_⟩;refine K7 (fun h2=> ?_) (fun h2=> ?_)
            · have h2:(2:Int) < (g.length:Int):=of_decide_eq_true h2;have nb:=bad (fun j h=>by have:=(T3 h).1;have e:g.cps.toList.length=g.length:=rfl;omega) H4 (i6.refl H4)
              first|exact nb|exact A5 nb|exact A5 (A5 nb)
            have h2:¬(2:Int) < (g.length:Int):=fun z=>h2 (decide_eq_true z)
            have g2:g.cps.toList.length<=2:=by have e:g.cps.toList.length=g.length:=rfl;omega
            obtain ⟨c,cs,hg⟩:∃c cs,g.cps.toList=c::cs:=by
              cases h:g.cps.toList with
              |nil=>exact absurd (O9 (h.trans (by decide+kernel))) z0
              |cons c u=>exact ⟨c,u,rfl⟩
            have gl:g.length=cs.length+1:=by show g.cps.toList.length=_;rw[hg];rfl
            have g0:g.cps[(0:Int).toNat]? =some c:=by rw[show g.cps[(0:Int).toNat]? =g.cps.toList[0]? by simp,hg];rfl
            refine ⟨_,rfl,rfl,_,rfl,?_⟩
            by_cases zz:g=Str.ofString "0"
            have hz:g.cps.toList=[48]\/g.cps.toList[0]? ≠some 48:= .inl (by rw[zz];decide+kernel);refine Q9 (congrArg V.str zz) ?_
            rotate_left
            rw[decide_eq_false (fun z=>zz (V.str.inj z))];refine A5 ⟨_,rfl,g,0,c,rfl,rfl,by decide,by decide,by omega,g0,rfl,_,rfl,?_⟩
            by_cases ec:c=48
            · subst ec;rw[decide_eq_true (show V.str ⟨#[48]⟩=V.str (Str.ofString "0") by decide+kernel)]
              have nb:=bad (fun j h=>by
                rcases (T3 h).2.2.2 with y|y
                · exact zz (O9 (y.trans (by decide+kernel)))
                · exact y (by rw[hg];rfl)) H4 (i6.refl H4)
              first|exact A5 nb|exact A5 (A5 nb)|exact nb
            rw[decide_eq_false (fun z=>ec (by have:=congrArg (fun z:Str=>z.cps.toList) (V.str.inj z);have e:[c]=(Str.ofString "0").cps.toList:=this;rw[show (Str.ofString "0").cps.toList=[48] by decide+kernel] at e;exact List.singleton_inj.mp e))];have hz:g.cps.toList=[48]\/g.cps.toList[0]? ≠some 48:= .inr (by rw[hg];exact fun z=>ec (Option.some.inj z))
            all_goals
              refine B9 ?_;refine ⟨_,rfl,g,rfl,cx2 (x:=g) (fun i ys σ H5=>∃v:Option V,σ=[v]/\H5=H4/\ys.length<=i/\(ys=[]↔∀c∈g.cps.toList.take i,48<=c/\c<=57)) ⟨none,rfl,rfl,dt7 _,by simp⟩ ?_ ?_⟩
              · rintro i c ys σ H5 hc ⟨v,rfl,rfl,yl,iff⟩
                have hc':g.cps.toList[i]? =some c:=by simpa using hc
                refine ⟨_,rfl,_,_,rfl,rfl,_,rfl,?_⟩;rw[dj6]
                by_cases h:c∈(Str.ofString "0123456789").cps.toList
                · rw[decide_eq_true h];refine B9 ⟨_,rfl,rfl,by omega,?_⟩;rw[iff,w5 hc'];constructor
                  · intro z d hd
                    rcases du1.mp hd with y|y
                    · exact z d y
                    · rw[du4.mp y];exact (bw0 c).mp h
                  · exact fun z d hd=>z d (dw8 _ hd)
                · rw[decide_eq_false h];refine A5 ⟨_,rfl,C4 (by have:=(dw9.mp hc).1;have e:g.cps.size=g.length:=rfl;omega),_,rfl,rfl,by rw[dt4,dy4];omega,?_⟩;constructor
                  · intro z;simp at z
                  · intro z;exact absurd ((bw0 c).mpr (z c (by rw[w5 hc'];exact du0 _ dt6))) h
              · rintro ys σ H5 ⟨v,rfl,rfl,yl,iff⟩ D hD;have s5:i6 H5 (i8 H5 D (.lst ys)):=i6.upd_new hD;have h5:(i8 H5 D (.lst ys)) D=some (.lst ys):=j6;generalize (i8 H5 D (.lst ys))=H6 at s5 h5 ⊢;refine ⟨dv5 _,fun e he=> ?_⟩;have s6:i6 H6 (i8 H6 e (.lst [])):=i6.upd_new he;have h6:(i8 H6 e (.lst [])) e=some (.lst []):=j6;generalize (i8 H6 e (.lst []))=H7 at s6 h6 ⊢;refine ⟨D,e,_,_,_,rfl,rfl,j7.of (s6 _ _ h5),j7.of h6,aa5 _ _ _ _,_,rfl,?_⟩;have el:g.cps.toList.take g.cps.size=g.cps.toList:=ea2 (by simp);rw[el] at iff
                cases ys with
                |nil=>
                 refine B9 ⟨_,rfl,s4.trans (s5.trans s6),fun u hu=> ?_⟩;rw[w5 hB] at hu
                 rcases du1.mp hu with y|y
                 · exact nm u y
                 · rw[du4.mp y];exact dn2 g2 (by rw[hg];exact ei4 _ _) (iff.mp rfl) hz
                |cons y0 ys=>
                 exact A5 (bad (fun j h=>by have:=iff.mpr (T3 h).2.2.1;cases this) H7 (s5.trans s6))
         · rintro σ H4 ⟨v5',rfl,s4,nm⟩;rw[dt3,dx2] at nm;obtain ⟨r,er,br⟩:=cq5 nm;have rw1:Rw1 r:=⟨fun z=>by rw[z] at er;exact bc0 a _ (hws.symm.trans er),fun y hy=>⟨(br y hy).1,(br y hy).2.1⟩⟩
           have ea:a=A2 r:=by rw[<-af1 a (Str.ofString " "),<-hws,er];rfl
           have h4w:=s4 _ _ h3;have s24:=s3.trans s4;have h4o:=s24 _ _ h2
           have la:as.length<=30000:=by
             have e1:=bc1 hr;have e2:=congrArg dz3 ex;rw[dt4] at e2;have e3:x.cps.toList.length=x.length:=rfl;rw[rows.1];omega
           have lr:r.length<=30002:=by have:=congrArg dz3 er;rw[dt3] at this;omega
           refine ⟨_,rfl,.inl ⟨rfl,_,j7.of h4o⟩,_,rfl,wo,rfl,⟨_,j7.of h4w⟩,Q4 (K:=K) (a:=wo) (xs:=ws.map V.str) (fun i ys σ H5=>∃v:Option V,σ=[v]/\H5=H4/\ys=(r.take i).map V.int) ⟨none,rfl,rfl,rfl⟩ (fun i ys σ H5 _ zz=>by obtain ⟨_,_,e,_⟩:=zz;rw[e];exact j7.of h4w) ?_ ?_⟩
           · rintro i v ys σ H5 hi ⟨v',rfl,rfl,rfl⟩;rw[er,ea6,du7] at hi
             cases hB:r[i]? with
             |none=>rw[hB] at hi;cases hi
             |some z=>
              rw[hB] at hi;cases hi;have zb:=br z (du8 hB);refine ⟨_,rfl,_,z,rfl,zb.2.2,(by have:=(T3 ⟨zb.1,zb.2.1,rfl⟩).1;show (B0 z).cps.toList.length<=640;omega),(by rw[dt3,du5,sizeLine_eq];omega),_,rfl,rfl,?_⟩;rw[w5 hB,du6];rfl
           · rintro ys σ H5 ⟨v',rfl,rfl,rfl⟩ D hD
             have lw2:(ws.map V.str).length=r.length:=by rw[er,dt3,dt3]
             rw[lw2,dx2];have nDo:ro≠D:=j9 h4o hD;have s5:i6 H5 (i8 H5 D (.lst (r.map V.int))):=i6.upd_new hD;have h5:(i8 H5 D (.lst (r.map V.int))) D=some (.lst (r.map V.int)):=j6;generalize (i8 H5 D (.lst (r.map V.int)))=H6 at s5 h5 ⊢;refine ⟨ro,_,_,rfl,rfl,s5 _ _ h4o,(by rw[dt3,sizeLine_eq];omega),?_⟩
             have ean:as.map V.ref++[V.ref D]=(as++[D]).map V.ref:=by rw[du6];rfl
             rw[ean];have s26:=s24.trans s5;refine ⟨b.length,by omega,b,rs++[r],as++[D],_,_,_,_,rfl,j6,?_,?_,?_,?_,?_,rfl⟩
             · refine ak2 (M5 rows fun c hc o ho=> ?_) ?_
               · rw[j8 (show c≠ro from fun z=>nro (z▸hc))];exact s26 _ _ ho
               · rw[j8 nDo.symm];exact h5
             · intro z
               rcases du1.mp z with y|y
               · exact nro y
               · exact nDo (du4.mp y)
             · intro z hz
               rcases du1.mp hz with y|y
               · exact hr z y
               · rw[du4.mp y];exact rw1
             · rw[ch2,ex,ht,<-hy,es,ea]
             · intro c o hc;rw[j8 (j9 hc hro)];exact s26 _ _ (s2 _ _ hc)
     · rw[decide_eq_false (fun z=>ec (by have:=congrArg (fun z:Str=>z.cps.toList) (V.str.inj z);have e:[c]=(Str.ofString "(").cps.toList:=this;rw[show (Str.ofString "(").cps.toList=[40] by decide+kernel] at e;exact List.singleton_inj.mp e))];refine B9 ⟨(show 3<=sizeLine by decide),fun l hl=> ?_⟩;refine ⟨l,_,rfl,SqT.of j6,rfl,_,_,rfl,_,_,rfl,_,_,rfl,rfl,?_⟩;refine ⟨_,rfl,rfl,_,rfl,?_⟩;rw[decide_eq_true rfl];exact A5 (qn (fun p w=>ec (bi3 w e0 hr (by rw[ex,ht])).1) _ (s2.trans (i6.upd_new hl)))
end
end My
namespace My
open PySem L2 Mth
section
variable {P:Program} {w:World} {K:PySem.W.Frag} {mg:Str->Option Value} {base:Heap} {zwy zzy zxx zzx zyy zx zyx zxz zzz zxy zwz:Addr}
inductive Cpb (H:Hp):Nat->V->Prop
 |non {n:Nat}:Cpb H n .non
 |bl {n:Nat} (b:Bool):Cpb H n (.bl b)
 |int {n:Nat} (i:Int):Cpb H n (.int i)
 |str {n:Nat} (x:Str):Cpb H n (.str x)
 |tup {n:Nat} {a:Addr} {xs:List V} (e:H a=some (.tup xs)):Cpb H n (.ref a)
 |dic {n:Nat} {a:Addr} {kvs:List (C9×V)} (e:H a=some (.dK kvs)):Cpb H n (.ref a)
 |lst {n:Nat} {a:Addr} {xs:List V} (e:H a=some (.lst xs)) (l:xs.length<=1000) (h:∀x∈xs,Cpb H n x):Cpb H (n+1) (.ref a)
theorem Cpb.keep {H H':Hp}(s:i6 H H'){n:Nat}{v:V}(h:Cpb H n v):Cpb H' n v:=by
 induction h with
 |non=>exact .non
 |bl b=>exact .bl b
 |int i=>exact .int i
 |str x=>exact .str x
 |tup e=>exact .tup (s _ _ e)
 |dic e=>exact .dic (s _ _ e)
 |lst e l _ ih=>exact .lst (s _ _ e) l ih
theorem Cpb.ints {H:Hp}{n:Nat}{a:Addr}{ns:List Int}(e:H a=some (.lst (ns.map V.int)))(l:ns.length<=1000):Cpb H (n+1) (.ref a):=
 .lst e (by rw[dt3];exact l) fun x hx=>by obtain ⟨i,_,rfl⟩:=dv3.mp hx;exact .int i
end
end My
namespace My
open PySem L2 Mth
section
variable {P:Program} {w:World} {K:PySem.W.Frag} {mg:Str->Option Value} {base:Heap} {zwy zzy zxx zzx zyy zx zyx zxz zzz zxy zwz:Addr}
def G7 (H:Hp)(g l:Addr):Hp:=fun a=>if a=g\/a=l then none else H a
theorem ab5 {H:Hp}{g l a:Addr}{o:HO}(h:H a=some o)(ng:a≠g)(nl:a≠l):G7 H g l a=some o:=by
 unfold G7;rw[if_neg (fun z=>z.elim ng nl)];exact h
theorem av9 {H:Hp}{g l a:Addr}{o:HO}(h:G7 H g l a=some o):H a=some o/\a≠g/\a≠l:=by
 unfold G7 at h
 by_cases z:a=g\/a=l
 · rw[if_pos z] at h;cases h
 · rw[if_neg z] at h;exact ⟨h,fun e=>z (.inl e),fun e=>z (.inr e)⟩
theorem ay3 {H H':Hp}{g l:Addr}(k:r9 g H H'):i6 (G7 H g l) (G7 H' g l):=fun a o h=>let ⟨e,ng,nl⟩:=av9 h;ab5 (k a o e ng) ng nl
theorem ak3 (H:Hp)(g l:Addr):i6 (G7 H g l) H:=fun a o h=>(av9 h).1
theorem ay4 {k:Nat}(hk:200<=k){i:Int}(h1: -10000000000000000000000000000000000000000<=i)(h2:i<=10000000000000000000000000000000000000000):i.natAbs.log2 < k:=by
 by_cases z:i.natAbs=0
 · rw[z,Nat.log2_zero];omega
 · refine (ej3 z).mpr (dv9 (m:=2^200) ?_ (Nat.pow_le_pow_right (by decide) hk))
   have e:(2:Nat)^200=1606938044258990275541962092341162602522202993782792835301376:=by decide
   rw[e];omega
def aq8 (i:Int):Prop:= -10000000000000000000000000000000000000000<=i/\i<=10000000000000000000000000000000000000000
def IE (M:Hp)(x:V):Prop:=∃d,Da M x d/\d.showable=true/\d.shown.length<=2000/\d.depth<=3
theorem IE.keep {M M':Hp}{x:V}(h:IE M x)(s:i6 M M'):IE M' x:=let ⟨d,a,r⟩:=h;⟨d,a.keep s,r⟩
theorem aw0 {M:Hp}{i:Int}(h:aq8 i):IE M (.int i):=by
 have lg:i.natAbs.log2 < 1920:=ay4 (by decide) h.1 h.2;refine ⟨_,.int i,by rw[PyData.showable];exact decide_eq_true lg,?_,by rw[PyData.depth];decide⟩;rw[PyData.shown]
 have:(Str.ofString (toString i)).length<=1921:=by
   rw[ofString_length];exact int_text_length_le (k:=1920) (by decide) lg
 exact du3 this (by decide)
theorem dn4 {M:Hp}(b:Bool):IE M (.bl b):=⟨_,.bl b,by rw[PyData.showable],by rw[PyData.shown];cases b<;>decide,by rw[PyData.depth];decide⟩
theorem cq7 {M:Hp}:IE M .non:=⟨_,.non,by rw[PyData.showable],by rw[PyData.shown];decide,by rw[PyData.depth];decide⟩
theorem dj7 {M:Hp}{x:Str}(h:(reprText x).length<=2000):IE M (.str x):=⟨_,.str x,by rw[PyData.showable],by rw[PyData.shown];exact h,by rw[PyData.depth];decide⟩
theorem dj8 {M:Hp}{a:Addr}(e:M a=some (.dK [])):IE M (.ref a):=⟨_,.dic e,by decide+kernel,by decide+kernel,by decide+kernel⟩
theorem bw1 {M:Hp}:∀{xs:List V},(∀x∈xs,IE M x)->∃ds,DaA M xs ds/\PyData.showableAll ds=true/\(∀t∈PyData.shownAll ds,t.length<=2000)/\(PyData.shownAll ds).length=xs.length/\PyData.depthAll ds<=3
 |[],_=>⟨[],.nil,by rw[PyData.showableAll],(fun t h=>by rw[PyData.shownAll] at h;cases h),by rw[PyData.shownAll];rfl,by rw[PyData.depthAll];decide⟩
 |x::xs,h=>by
  obtain ⟨ds,h1,h2,h3,h4,h5⟩:=bw1 fun y hy=>h y (dt8 _ hy)
  obtain ⟨d,g1,g2,g3,g4⟩:=h x dt6;refine ⟨d::ds,.cons g1 h1,by rw[PyData.showableAll,g2,h2];rfl,fun t ht=> ?_,by rw[PyData.shownAll,du9,du9,h4],by rw[PyData.depthAll];omega⟩;rw[PyData.shownAll] at ht
  rcases dw1.mp ht with z|z
  · rw[z];exact g3
  · exact h3 t z
def P7 (M:Hp)(v:V):Prop:=∃d,Da M v d/\d.showable=true/\d.shown.length<=700000/\d.depth<=4
theorem P7.keep {M M':Hp}{x:V}(h:P7 M x)(s:i6 M M'):P7 M' x:=let ⟨d,a,r⟩:=h;⟨d,a.keep s,r⟩
theorem P7.of {M:Hp}{x:V}(h:IE M x):P7 M x:=let ⟨d,a,b,c,e⟩:=h;⟨d,a,b,by omega,by omega⟩
theorem aq9 {M:Hp}{a:Addr}{xs:List V}(h:M a=some (.lst xs))(hx:∀x∈xs,IE M x)(l:xs.length<=300):P7 M (.ref a):=by
 obtain ⟨ds,h1,h2,h3,h4,h5⟩:=bw1 hx;refine ⟨.list ds,.lst h h1,by rw[PyData.showable];exact h2,?_,by rw[PyData.depth];omega⟩;rw[PyData.shown];refine du3 (az2 h3) ?_;rw[h4];have:=Nat.mul_le_mul_right (2000+2) l;omega
theorem ch4 {M:Hp}{a:Addr}{ns:List Int}(h:M a=some (.lst (ns.map V.int)))(l:ns.length<=300)(b:∀x∈ns,aq8 x):P7 M (.ref a):=
 aq9 h (fun x hx=>by obtain ⟨i,hi,rfl⟩:=dv3.mp hx;exact aw0 (b i hi)) (by rw[dt3];exact l)
theorem cx7 {H:Hp}{a:Addr}{ns:List Int}(h:H a=some (.lst (ns.map V.int)))(no:ns.length<=40->¬G2 ns):K5 K H (.ref a):=
 .inr ⟨a,_,rfl,h,fun x hx=>by obtain ⟨i,_,rfl⟩:=dv3.mp hx;exact .inl ⟨i,rfl⟩,fun p e l=>by rw[ay8 e] at no;exact no l⟩
theorem cd0 {H:Hp}{a:Addr}{xs:List V}{y:V}(h:H a=some (.lst xs))(el:∀x∈xs,(∃i:Int,x= .int i)\/ai7 K H x)(hy:y∈xs)(ny:∀i:Int,y= .int i->i < 0\/(xs.length:Int)<=i):K5 K H (.ref a):=
 .inr ⟨a,xs,rfl,h,el,fun p e l t=>by
   rw[e] at hy ny;obtain ⟨i,hi,rfl⟩:=dv3.mp hy;have h1:=t.lo i hi;have h2:=t.hi i hi
   rcases ny i rfl with z|z
   · omega
   · rw[dt3] at z;omega⟩
theorem dj9 {H:Hp}(b:Bool):ai7 K H (.bl b):=⟨_,true,true,.bl b,br3 K,M1 K "bool",rfl⟩
theorem dd8 {H:Hp}:ai7 K H .non:=⟨_,false,false,.non,bs4 K,bm7 K,rfl⟩
theorem dd9 {H:Hp}(x:Str):ai7 K H (.str x):=⟨_,false,false,.str x,by3 K,bs5 K,rfl⟩
theorem cd1 {H:Hp}{a:Addr}{xs:List V}(h:H a=some (.lst xs)):ai7 K H (.ref a):=⟨_,false,false,.lst h,bs7 K,bm9 K,rfl⟩
structure bc4 (K:PySem.W.Frag)(M:Hp)(n:Nat)(y:V):Prop where
 el:(∃i:Int,y= .int i)\/ai7 K M y
 ny:∀i:Int,y= .int i->i < 0\/(n:Int)<=i
 cp:Cpb M 1 y
 sh:IE M y
theorem bc4.keep {M M':Hp}{n:Nat}{y:V}(h:bc4 K M n y)(s:i6 M M'):bc4 K M' n y:=⟨h.el.imp id fun z=>z.keep s,h.ny,h.cp.keep s,h.sh.keep s⟩
end
end My
namespace L2
open PySem PySem.Spec PyProof.Rows
def dk0 (xs:List V):List (C9×V):=xs.zipIdx.map fun p=>((Sum.inl (p.2:Int):C9),p.1)
end L2
namespace L2
open PySem PySem.Spec PyProof.Rows
section
variable {X:Cx} {p pos:Pos} {e:Expr} {t:TA}
def cz8:List V->Hp->VK->Prop:=fun xs H Q=>∃a d,xs=[.ref a]/\DaS H (.ref a) d/\d.hasDict=false/\Q (.str d.shown) H
theorem cq8 (hu:X.A.units+16 < cLine)(hg:X.A.guards=some []):K6 X (.type "str") cz8:=by
 intro pins s σ H xs us Q I r h;obtain ⟨a,d,rfl,⟨hs,sh,le,dp⟩,nd,q⟩:=h;obtain ⟨u,rfl,ru⟩:=P6 r;cases ru;obtain ⟨as,rd⟩:=(hs.rd I rfl).reads;exact str_of_reads rd sh (fun h=>by rw[nd] at h;cases h) hg (by omega) (fun _ _ y=>y) (fun h' u tk hk=>⟨.str d.shown,H,I.kept (t':=tk) hk,⟨_,rfl⟩,q⟩) le
theorem de0 (hu:X.A.units+16 < cLine)(hg0:X.A.guards=some [])(hm:X.mg "str"=none)(ha:PA X [e] t)(hg:Gl X "str":=by rfl)(he:starEach [e] X.env=(false,eval e X.env)::starEach [] X.env:=by rfl):
 PE X (.Call (.Name "str" p) [e] [] pos) (X4 cz8 t):=Q3 (cq8 hu hg0) hg hm aj5 ha (by decide) (by decide) he rfl
def enD (ns:List Int):PyData:= .dict (ns.zipIdx.map fun p=>(.int (p.2:Int),.int p.1))
def ShT (H:Hp)(v:V)(t:Str):Prop:=(∃d,DaS H v d/\t=d.shown)\/∃a ns,v= .ref a/\H a=some (.dK (dk0 (ns.map V.int)))/\(enD ns).showable=true/\(enD ns).shown.length<=sizeLine/\t=(enD ns).shown
def cq9:List V->Hp->VK->Prop:=fun xs H Q=>∃v t,xs=[v]/\ShT H v t/\Q (.str t) H
theorem cd2 {P:Program}{w:World}{h:Heap}:∀{ns:List Int} {n:Nat} {es:List DictEntry} {vs:List (C9×Value)},KV (((ns.map V.int).zipIdx n).map fun p=>((Sum.inl (p.2:Int):C9),p.1)) vs->Pairs (N9 P w) es vs->
   K8 h (es.map (·.key)) (((ns.zipIdx n).map fun p=>(PyData.int (p.2:Int),PyData.int p.1)).map (·.1))/\K8 h (es.map (·.val)) (((ns.zipIdx n).map fun p=>(PyData.int (p.2:Int),PyData.int p.1)).map (·.2))
 |[],n,es,vs,kv,ps=>by
  cases kv;cases ps;exact ⟨.nil,.nil⟩
 |i::ns,n,es,vs,kv,ps=>by
  cases kv with
  |cons r kv=>
   cases ps with
   |cons k1 v1 ps=>
    obtain ⟨e1,e2⟩:=cd2 kv ps;obtain ⟨r1,r2⟩:=r;rw[<-r1] at k1;rw[<-v1] at r2;obtain ⟨t,rfl'⟩:=r2
    rcases K9 (show an6 (Sum.inl (n:Int)) _=true from k1) with ⟨j,u,a1,a2⟩|⟨y,u,a1,a2⟩
    · have:j=(n:Int):=Sum.inl.inj a1.symm;subst this;refine ⟨.cons ?_ e1,.cons ?_ e2⟩
      · dsimp only
        rw[a2];exact .int _ u
      · dsimp only
        rw[rfl'];exact .int _ t
    · cases a1
theorem dn5 {Y:Cx}{pins:List (Addr×Obj)}{σ:St}{H:Hp}{s:Shared}{a:Addr}{ns:List Int}(I:j5 Y pins σ H s)(e:H a=some (.dK (dk0 (ns.map V.int)))):X5 s.heap (.ref a) (enD ns):=by
 obtain ⟨hz,hS,vs,kv,o,es,ep,ho,hx,hd,hk,hp,hn⟩:=I.hok _ _ e;obtain ⟨e1,e2⟩:=cd2 (h:=s.heap) (ns:=ns) (n:=0) kv hp;exact .dic ho hx.1 hd hS e1 e2
theorem cr0 (ns:List Int):(enD ns).depth<=8:=by
 unfold enD;rw[PyData.depth]
 have:∀(l:List (Int×Nat)),PyData.depthKv (l.map fun p=>(PyData.int (p.2:Int),PyData.int p.1))<=1:=by
   intro l
   induction l with
   |nil=>rw[ef6,PyData.depthKv];omega
   |cons x l ih=>rw[dv7,PyData.depthKv,PyData.depth,PyData.depth];omega
 have:=this ns.zipIdx;omega
theorem ch5 (hu:X.A.units+16 < cLine)(hg:X.A.guards=some []):K6 X (.builtin "repr") cq9:=by
 intro pins s σ H xs us Q I r h;obtain ⟨v,t,rfl,⟨d,hd,rfl⟩|⟨a,ns,rfl,ha,sh,le,rfl⟩,q⟩:=h
 · exact cf8 hu hg pins s σ H _ us Q I r ⟨v,d,rfl,hd,q⟩
 · obtain ⟨u,rfl,ru⟩:=P6 r;cases ru;obtain ⟨T,idr,S⟩:=(dn5 I ha).by_ (prog:=X.prog) (w:=X.w) sh le;have dp:=cr0 ns;exact call_repr_slot (by omega) (S.typeIs s fun _ _ y=>y) S.slotRepr (S.call X.A.in1 _ s _ hg (by show X.A.units+1+(enD ns).depth < cLine;omega) (fun _ _ y=>y) fun h' u tk hk=>⟨_,_,rfl,.str _,H,I.kept (t':=tk) hk,⟨_,rfl⟩,q⟩)
theorem bw3 (hu:X.A.units+16 < cLine)(hg0:X.A.guards=some [])(hm:X.mg "repr"=none)(ha:PA X [e] t)(hg:Gl X "repr":=by rfl)(he:starEach [e] X.env=(false,eval e X.env)::starEach [] X.env:=by rfl):
 PE X (.Call (.Name "repr" p) [e] [] pos) (X4 cq9 t):=N3 (ch5 hu hg0) hg hm cf3 ha (by decide) (by decide) he rfl
end
end L2
namespace My
open PySem L2 Mth
section
variable {P:Program} {w:World} {K:PySem.W.Frag} {mg:Str->Option Value} {base:Heap}
theorem bw4:∀{ts:List Str} {m:Nat},(∀t∈ts,t.length<=m)->piled ts<=ts.length*(m+2)
 |[],m,_=>by simp [piled]
 |t::ts,m,h=>by
  have:=bw4 (ts:=ts) (m:=m) fun x hx=>h x (dt8 _ hx)
  have:=h t dt6;rw[du9,Nat.succ_mul,piled_cons];omega
theorem bw5 {ts:List Str}{m:Nat}(h:∀t∈ts,t.length<=m):(tupleText ts).length<=4+ts.length*(m+2):=by
 unfold tupleText;rw[strLen_append,strLen_append];have e1:(("(":String):Str).length=1:=rfl
 have e2:(((if ts.length==1 then ",)" else ")":String)):Str).length<=2:=by split<;>decide
 by_cases z:ts=[]
 · subst z;have:(Str.join ", " []).length=0:=rfl;omega
 · have:=join_length_add ts z;have:=bw4 h;omega
theorem cr1 {M:Hp}{a:Addr}{ns:List Int}(h:M a=some (.tup (ns.map V.int)))(l:ns.length<=300)(b:∀x∈ns,aq8 x):P7 M (.ref a):=by
 obtain ⟨ds,h1,h2,h3,h4,h5⟩:=bw1 (M:=M) (xs:=ns.map V.int) fun x hx=>by obtain ⟨i,hi,rfl⟩:=dv3.mp hx;exact aw0 (b i hi)
 refine ⟨.tuple ds,.tup h h1,by rw[PyData.showable];exact h2,?_,by rw[PyData.depth];omega⟩;rw[PyData.shown];refine du3 (bw5 h3) ?_;rw[h4,dt3];have:=Nat.mul_le_mul_right (2000+2) l;omega
theorem an4 {xs:List V}{i:Int}(h0:0<=i)(h1:i<=(xs.length:Int)):as8 xs none (some i)=xs.take i.toNat:=by
 obtain ⟨k,rfl⟩:=dw4 h0;unfold as8;rw[HT.dr3,HT.dp8,ef9,Nat.sub_zero,Nat.min_eq_left (by omega)];rfl
theorem aw1 {n:Nat}{k:Int}(h0:0<=k)(h1:k < (n:Int)):U9 n k=some k.toNat:=by
 unfold U9;rw[if_pos h0,if_pos h1]
def Sm (x:Str):Prop:=∀c∈x.cps.toList,c < 16^8
theorem bp2 (s:String):Sm (Str.ofString s):=fun c hc=>by
 rw[PyProof.Rows.signs_ofString] at hc;obtain ⟨d,_,rfl⟩:=dv3.mp hc;have h1:d.toNat < 4294967296:=UInt32.toNat_lt d.val
 have h2:(16:Nat)^8=4294967296:=by decide
 omega
theorem bw6 {x y:Str}(hx:Sm x)(hy:Sm y):Sm (x++y):=fun c hc=>by
 have e:(x++y).cps=x.cps++y.cps:=rfl;rw[e,dw3] at hc;exact (du1.mp hc).elim (hx c) (hy c)
theorem cd3:∀{ts:List Str} {k:Nat} {acc:Str},Sm acc->(∀t∈ts,Sm t)->Sm (textFrom k acc ts)
 |[],k,acc,h,_=>h
 |t::ts,k,acc,h,hs=>by
  have:textFrom k acc (t::ts)=textFrom (k+1) (acc++(if k > 0 then ", " else "":String)++t) ts:=rfl;rw[this]
  refine cd3 (bw6 (bw6 h (bp2 _)) (hs t dt6)) fun x hx=>hs x (dt8 _ hx)
theorem de1 {ts:List Str}(hs:∀t∈ts,Sm t):Sm (listText ts):=bw6 (cd3 (bp2 "[") hs) (bp2 "]")
structure ItV (K:PySem.W.Frag)(M:Hp)(x:V):Prop where
 el:(∃i:Int,x= .int i)\/ai7 K M x
 cp:Cpb M 1 x
 sh:IE M x
theorem bm1 {M:Hp}:∀{ns:List Int},(∀x∈ns,-100<=x/\x<=100)->∃ds,DaA M (ns.map V.int) ds/\PyData.showableAll ds=true/\(∀t∈PyData.shownAll ds,t.length<=8/\Sm t)/\(PyData.shownAll ds).length=ns.length/\PyData.depthAll ds<=1/\ds=ns.map PyData.int
 |[],_=>⟨[],.nil,by rw[PyData.showableAll],(fun t h=>by rw[PyData.shownAll] at h;cases h),by rw[PyData.shownAll];rfl,by rw[PyData.depthAll];omega,rfl⟩
 |x::xs,h=>by
  obtain ⟨ds,h1,h2,h3,h4,h5,h6⟩:=bm1 (M:=M) fun y hy=>h y (dt8 _ hy)
  have hx:=h x dt6
  have lg:x.natAbs.log2 < 7:=by
    by_cases z:x.natAbs=0
    · rw[z,Nat.log2_zero];omega
    · exact (ej3 z).mpr (by omega)
  refine ⟨.int x::ds,.cons (.int x) h1,?_,fun t ht=> ?_,by rw[PyData.shownAll,du9,du9,h4],by rw[PyData.depthAll,PyData.depth];omega,by rw[h6];rfl⟩
  · rw[PyData.showableAll,PyData.showable,h2,Bool.and_true];exact decide_eq_true (by omega)
  · rw[PyData.shownAll,PyData.shown] at ht
    rcases dw1.mp ht with z|z
    · rw[z];refine ⟨?_,bp2 _⟩;rw[ofString_length];exact int_text_length_le (k:=7) (by decide) lg
    · exact h3 t z
theorem bw7 {M:Hp}{a:Addr}{ns:List Int}(h:M a=some (.lst (ns.map V.int)))(l:ns.length<=60)(b:∀x∈ns,-100<=x/\x<=100):∃d,Da M (.ref a) d/\d.showable=true/\d.shown.length<=700/\d.depth<=2/\d.hasDict=false/\Sm d.shown:=by
 obtain ⟨ds,h1,h2,h3,h4,h5,h6⟩:=bm1 (M:=M) b;refine ⟨.list ds,.lst h h1,by rw[PyData.showable];exact h2,?_,by rw[PyData.depth];omega,?_,?_⟩
 · rw[PyData.shown];refine du3 (az2 (m:=8) fun t ht=>(h3 t ht).1) ?_;rw[h4];omega
 · rw[PyData.hasDict,h6]
   have:∀l:List Int,PyData.hasDictAll (l.map PyData.int)=false:=by
     intro l
     induction l with
     |nil=>rw[ef6,PyData.hasDictAll]
     |cons x l ih=>rw[dv7,PyData.hasDictAll,PyData.hasDict,ih];rfl
   exact this ns
 · rw[PyData.shown]
   exact de1 fun t ht=>(h3 t ht).2
theorem cr2 {M:Hp}{a:Addr}{ns:List Int}(h:M a=some (.lst (ns.map V.int)))(l:ns.length<=60)(b:∀x∈ns,-100<=x/\x<=100):ItV K M (.ref a):=by
 obtain ⟨d,h1,h2,h3,h4,_⟩:=bw7 h l b;exact ⟨.inr (cd1 h),Cpb.ints h (by omega),d,h1,h2,by omega,by omega⟩
end
end My
namespace My
open PySem L2 Mth
section
variable {P:Program} {w:World} {K:PySem.W.Frag} {mg:Str->Option Value} {base:Heap} {zwy zzy zxx zzx zyy zx zyx zxz zzz zxy zwz:Addr}
theorem bo3 {f:Addr}{fd:FuncData}(F:E6 K "show_turn" "show_turn" ac1 f fd)(zux:T0 P w K mg base "rounds_of" 4 ["p"] (fun vs H Q E=>Y7 vs H Q E\/(W9 K zzy) vs H Q E))(zvz:B7 P w K mg base "show_round" 1 ["ring"] ax9):w6 P w K mg base (Q8 P w) 5 f fd ["p"] (W9 K zzy):=by
 refine F.okx au9 (fun vs H Q E h=> ?_) (fun cdv A outer s H vs Q E hr h=> ?_)
 · obtain ⟨v,rfl,no,k⟩:=h;rfl
 · obtain ⟨v,rfl,no,k⟩:=h;have zpz:A4 4 _:=hr.mono (by decide);have zr:A4 1 _:=hr.mono (by decide);refine ⟨_,@i7 _ _ _ (@o5 _ _ _ _ (@k7 _ _ _ _ _ _ _ _ A9 (@k7 _ _ _ _ _ _ _ _ A9 (@o6 _ _ _ _) (@af9 _ _ _ _ _ _ _ (@o6 _ _ _ _) (@c9 _ _ _ _ _ (@U3 _ _ _ _ _ _ _ _ _ _ _ (["ring"]) (1) ([]) rfl .of (@E4 _ _ _ _ (@am3 _ _ _ _ _ _ _ _ _ _ _ zux zpz (@au1 _ _ _ _ _ _ _ _ _ _ _ _ _ _ _ _ fun _ _ _ h=>h) (@c9 _ _ _ _ _ (pv 0) (@i4 _) (by rfl)) (by rfl) (by decide) (by rfl) (by rfl))) (fun _ _ _ _ _=>@y8 _ _ (0) _ ae2 rfl (Or.inl rfl) (by trivial)) (fun _ _ _ _ _=>(@P0 _)) (fun _ _ _ _ _=>(@q9 _ _ _ _ _ _ _ _ _ _ zvz zr (@c9 _ _ _ _ _ (pv 0) (@i4 _) (by rfl)) (by rfl) (by decide) (by rfl) (by rfl))) (by intro _;rfl)) (@i4 _) (by rfl)) (by rfl) (by rfl) (by rfl) (by rfl) (by rfl))) (@o6 _ _ _ _))),?_⟩;exact ⟨rfl,_,rfl,.inr ⟨v,rfl,no,k⟩⟩
def bi5 (K:PySem.W.Frag):Sp:=fun vs H Q _=>∃v,vs=[v]/\((ay2 K H v/\∀(t:Addr) (H':Hp),i6 H H'->H' t=some (.tup [.str (Str.ofString "NoText"),.non])->Q (.ref t) H')\/
 ∃x:Str,v= .str x/\x.length<=30000/\(∀p,Wr x p->∀(l t:Addr) (H':Hp),i6 H H'->H' l=some (.lst (p.map V.int))->H' t=some (.tup [.str (Str.ofString "told"),.ref l])->Q (.ref t) H')/\((∀p,¬Wr x p)->∀(t:Addr) (H':Hp),i6 H H'->H' t=some (.tup [.str (Str.ofString "NoText"),.non])->Q (.ref t) H'))
theorem S2:y7 ["text","found","caught","e"] ["text"] (o7 al1):=by rfl'
theorem bw8 {f:Addr}{fd:FuncData}(F:E6 K "_law_asked" "_law_asked" al1 f fd)(B:Bl mg)(ze:T0 P w K mg base "read_turn" 6 ["text"] (bi2 K zzz))(ER:au2 K mg zwy [("NoTurn",zzy),("NoFit",zxx),("NoRounds",zzx),("NoNumber",zyy),("NoRoot",zx),("TooMany",zyx),("NoKind",zxz),("NoText",zzz),("NoName",zxy),("NoRow",zwz)]):w6 P w K mg base J8 7 f fd ["text"] (bi5 K):=by
 refine F.ok S2 (fun vs H Q E h=> ?_) (fun cdv A outer s H vs Q E hr h=> ?_)
 · obtain ⟨v,rfl,h⟩:=h;rfl
 · obtain ⟨v,rfl,h⟩:=h;have zgz:A4 6 _:=hr.mono (by decide);refine ⟨_,@i5 _ _ _ _ _ (@m9 _ _ (1) _ _ _ _ S2.nd rfl (Or.inl rfl) (@G4 _ _ _) (by rfl) (by trivial)) (@i5 _ _ _ _ _ (@m9 _ _ (2) _ _ _ _ S2.nd rfl (Or.inl rfl) (@G4 _ _ _) (by rfl) (by trivial)) (@i5 _ _ _ _ _ (@cm3 _ _ _ _ _ (3) _ _ _ _ _ _ _ (@dh5 _ _ _ _ _ _ _ _ _ _ (1) _ _ _ ze zgz S2.nd rfl (Or.inl rfl) (@c9 _ _ _ _ _ (pv 0) (@i4 _) (by rfl)) (by rfl) (by decide) (by rfl) (by rfl) (by rfl) (by trivial)) ER.top S2.nd rfl rfl (fun _=>(@i7 _ _ _ (@m9 _ _ (2) _ _ _ _ S2.nd rfl (Or.inl rfl) (pv 3) (by rfl) (by trivial)))) (by rfl) (by rfl) (by rfl) (by rfl) (by decide) (by trivial)) (@i5 _ _ _ _ _ (@w9 _ _ _ _ _ _ _ _ (@m8 _ _ _ _ _ _ _ _ al8 (pv 2) (@G4 _ _ _) (o4 _)) (@i7 _ _ _ (@o5 _ _ _ _ (@X9 _ _ _ _ _ (@c9 _ _ _ _ _ (@o6 _ _ _ _) (@c9 _ _ _ _ _ (pv 1) (@i4 _) (by rfl)) (by rfl))))) (@o9 _)) (@i5 _ _ _ _ _ (@w9 _ _ _ _ _ _ _ _ (@C6 _ _ _ (cc2 B.isi (@c9 _ _ _ _ _ (pv 2) (@c9 _ _ _ _ _ (@X9 _ _ _ _ _ (@c9 _ _ _ _ _ (@E3 _ _ (.ref zxx) _ _ (by rfl) (ER.err ("NoFit",zxx) (by simp)).mg rfl (by decide)) (@c9 _ _ _ _ _ (@E3 _ _ (.ref zxz) _ _ (by rfl) (ER.err ("NoKind",zxz) (by simp)).mg rfl (by decide)) (@c9 _ _ _ _ _ (@E3 _ _ (.ref zxy) _ _ (by rfl) (ER.err ("NoName",zxy) (by simp)).mg rfl (by decide)) (@c9 _ _ _ _ _ (@E3 _ _ (.ref zyy) _ _ (by rfl) (ER.err ("NoNumber",zyy) (by simp)).mg rfl (by decide)) (@c9 _ _ _ _ _ (@E3 _ _ (.ref zx) _ _ (by rfl) (ER.err ("NoRoot",zx) (by simp)).mg rfl (by decide)) (@c9 _ _ _ _ _ (@E3 _ _ (.ref zzx) _ _ (by rfl) (ER.err ("NoRounds",zzx) (by simp)).mg rfl (by decide)) (@c9 _ _ _ _ _ (@E3 _ _ (.ref zwz) _ _ (by rfl) (ER.err ("NoRow",zwz) (by simp)).mg rfl (by decide)) (@c9 _ _ _ _ _ (@E3 _ _ (.ref zzy) _ _ (by rfl) (ER.err ("NoTurn",zzy) (by simp)).mg rfl (by decide)) (@c9 _ _ _ _ _ (@E3 _ _ (.ref zyx) _ _ (by rfl) (ER.err ("TooMany",zyx) (by simp)).mg rfl (by decide)) (@i4 _) (by rfl)) (by rfl)) (by rfl)) (by rfl)) (by rfl)) (by rfl)) (by rfl)) (by rfl)) (by rfl))) (@i4 _) (by rfl)) (by rfl))) (by intro _;rfl)) (@i7 _ _ _ (@o5 _ _ _ _ (@X9 _ _ _ _ _ (@c9 _ _ _ _ _ (@o6 _ _ _ _) (@c9 _ _ _ _ _ (@G4 _ _ _) (@i4 _) (by rfl)) (by rfl))))) (@o9 _)) (@i5 _ _ _ _ _ (@w9 _ _ _ _ _ _ _ _ (@J5 _ _ _ _ (@C6 _ _ _ (@ax2 _ _ _ _ _ _ B.isi (@c9 _ _ _ _ _ (pv 2) (@c9 _ _ _ _ _ (@ca9 _ _ B.ve (by rfl)) (@i4 _) (by rfl)) (by rfl)) (by rfl) (by rfl) (by rfl)) (by intro _;rfl))) (@i7 _ _ _ (@o5 _ _ _ _ (@X9 _ _ _ _ _ (@c9 _ _ _ _ _ (@o6 _ _ _ _) (@c9 _ _ _ _ _ (@G4 _ _ _) (@i4 _) (by rfl)) (by rfl))))) (@o9 _)) (@i7 _ _ _ (@o5 _ _ _ _ (@X9 _ _ _ _ _ (@c9 _ _ _ _ _ (@B8 _ _ _ _ _ _ _ y9 (@w4 _ _ _ _ (@c9 _ _ _ _ _ (@o6 _ _ _ _) (@c9 _ _ _ _ _ (@o6 _ _ _ _) (@i4 _) (by rfl)) (by rfl))) (@bf9 _ _ _ _ _ B.int (@c9 _ _ _ _ _ (@ax2 _ _ _ _ _ _ B.isi (@c9 _ _ _ _ _ (pv 2) (@c9 _ _ _ _ _ (@E3 _ _ (.ref zzz) _ _ (by rfl) (ER.err ("NoText",zzz) (by simp)).mg rfl (by decide)) (@i4 _) (by rfl)) (by rfl)) (by rfl) (by rfl) (by rfl)) (@i4 _) (by rfl)) (by rfl) (by rfl)) (fun _ _=>rfl)) (@c9 _ _ _ _ _ (@G4 _ _ _) (@i4 _) (by rfl)) (by rfl)))))))))),?_⟩
   have IC:=ER.inst ("NoText",zzz) (by simp);have pr:=ER.pair ("NoText",zzz) (by simp)
   have any9:PySem.W.kitAny K (.ref zzz) [.ref zxx,.ref zxz,.ref zxy,.ref zyy,.ref zx,.ref zzx,.ref zwz,.ref zzy,.ref zyx]=some false:=by
     have p1:PySem.W.kitOne K (.ref zzz) (.ref zxx)=some false:=(pr ("NoFit",zxx) (by simp)).trans (congrArg some (decide_eq_false (show ("NoText":Str)≠"NoFit" by decide+kernel)));have p2:PySem.W.kitOne K (.ref zzz) (.ref zxz)=some false:=(pr ("NoKind",zxz) (by simp)).trans (congrArg some (decide_eq_false (show ("NoText":Str)≠"NoKind" by decide+kernel)));have p3:PySem.W.kitOne K (.ref zzz) (.ref zxy)=some false:=(pr ("NoName",zxy) (by simp)).trans (congrArg some (decide_eq_false (show ("NoText":Str)≠"NoName" by decide+kernel)));have p4:PySem.W.kitOne K (.ref zzz) (.ref zyy)=some false:=(pr ("NoNumber",zyy) (by simp)).trans (congrArg some (decide_eq_false (show ("NoText":Str)≠"NoNumber" by decide+kernel)));have p5:PySem.W.kitOne K (.ref zzz) (.ref zx)=some false:=(pr ("NoRoot",zx) (by simp)).trans (congrArg some (decide_eq_false (show ("NoText":Str)≠"NoRoot" by decide+kernel)));have p6:PySem.W.kitOne K (.ref zzz) (.ref zzx)=some false:=(pr ("NoRounds",zzx) (by simp)).trans (congrArg some (decide_eq_false (show ("NoText":Str)≠"NoRounds" by decide+kernel)));have p7:PySem.W.kitOne K (.ref zzz) (.ref zwz)=some false:=(pr ("NoRow",zwz) (by simp)).trans (congrArg some (decide_eq_false (show ("NoText":Str)≠"NoRow" by decide+kernel)));have p8:PySem.W.kitOne K (.ref zzz) (.ref zzy)=some false:=(pr ("NoTurn",zzy) (by simp)).trans (congrArg some (decide_eq_false (show ("NoText":Str)≠"NoTurn" by decide+kernel)));have p9:PySem.W.kitOne K (.ref zzz) (.ref zyx)=some false:=(pr ("TooMany",zyx) (by simp)).trans (congrArg some (decide_eq_false (show ("NoText":Str)≠"TooMany" by decide+kernel)));simp only[PySem.W.kitAny,p1,p2,p3,p4,p5,p6,p7,p8,p9]
   have ps:=pr ("NoText",zzz) (by simp);rw[decide_eq_true rfl] at ps;refine ⟨_,rfl,v,rfl,?_⟩
   rcases h with ⟨no,k⟩|⟨x,rfl,lx,k,kn⟩
   rotate_left
   refine .inr ⟨x,rfl,lx,fun p w l H1 hl s1 h1=> ?_,fun n H1 s1=>⟨zzz,rfl,ER.exm ("NoText",zzz) (by simp),fun a ha=> ?_⟩⟩
   · refine ⟨_,rfl,rfl,_,rfl,?_⟩;rw[decide_eq_true rfl];refine A5 ⟨_,rfl,(show 2<=sizeLine by decide),fun t ht=> ?_⟩;exact k p w l t _ (s1.trans (i6.upd_new ht)) (i6.upd_new ht _ _ h1) j6
   have k:=kn n
   rotate_left
   refine .inl ⟨no,⟨zzz,rfl,ER.exm ("NoText",zzz) (by simp),fun a ha=> ?_⟩⟩;obtain ⟨H1,e1⟩:∃H1,H1=H:=⟨_,rfl⟩;have s1:i6 H H1:=e1▸i6.refl H;rw[<-e1] at ha ⊢
   all_goals
     have s2:i6 H1 (i8 H1 a (Z9 a zzz)):=i6.upd_new ha;have h2:(i8 H1 a (Z9 a zzz)) a=some (Z9 a zzz):=j6;generalize (i8 H1 a (Z9 a zzz))=H2 at s2 h2 ⊢;refine ⟨_,rfl,?_⟩;refine ⟨_,rfl,rfl,_,rfl,B9 ?_⟩;refine ⟨_,rfl,(show 9<=sizeLine by decide),fun tp htp=>⟨a,zzz,tp,[zxx,zxz,zxy,zyy,zx,zzx,zwz,zzy,zyx],false,rfl,i6.upd_new htp _ _ h2,j6,IC,any9,false,rfl,B9 ?_⟩⟩;have s3:i6 H2 (i8 H2 tp (.tup [V.ref zxx,V.ref zxz,V.ref zxy,V.ref zyy,V.ref zx,V.ref zzx,V.ref zwz,V.ref zzy,V.ref zyx])):=i6.upd_new htp;generalize (i8 H2 tp (.tup [V.ref zxx,V.ref zxz,V.ref zxy,V.ref zyy,V.ref zx,V.ref zzx,V.ref zwz,V.ref zzy,V.ref zyx]))=H3 at s3 ⊢;have h3:=s3 _ _ h2;refine ⟨_,rfl,a,zzz,_,_,true,rfl,.inr ⟨_,rfl,rfl⟩,h3,IC,ER.ve ("NoText",zzz) (by simp),true,rfl,B9 ?_⟩;refine ⟨(show 2<=sizeLine by decide),fun l hl=>⟨_,rfl,a,zzz,_,_,true,rfl,.inl ⟨_,rfl,rfl⟩,i6.upd_new hl _ _ h3,IC,ps,_,rfl,l,_,_,_,rfl,rfl,j7.of j6,o8 (j:=1) rfl,(show 2<=sizeLine by decide),fun t ht=> ?_⟩⟩;exact k t _ (s1.trans (s2.trans (s3.trans ((i6.upd_new hl).trans (i6.upd_new ht))))) j6
def bi6 (K:PySem.W.Frag):Sp:=fun vs H Q _=>∃v,vs=[v]/\K5 K H v/\P7 H v/\∀H',i6 H H'->Q (.bl true) H'
theorem V3:y7 ["thing","kept","caught","e"] ["thing"] (o7 al2):=by rfl'
theorem bw9 {f:Addr}{fd:FuncData}(F:E6 K "_law_shown" "_law_shown" al2 f fd)(B:Bl mg)(ztx:T0 P w K mg base "show_turn" 5 ["p"] (fun vs H Q E=>au8 vs H Q E\/(W9 K zzy) vs H Q E))(ER:au2 K mg zwy [("NoTurn",zzy),("NoFit",zxx),("NoRounds",zzx),("NoNumber",zyy),("NoRoot",zx),("TooMany",zyx),("NoKind",zxz),("NoText",zzz),("NoName",zxy),("NoRow",zwz)]):w6 P w K mg base J8 6 f fd ["thing"] (bi6 K):=by
 refine F.ok V3 (fun vs H Q E h=> ?_) (fun cdv A outer s H vs Q E hr h=> ?_)
 · obtain ⟨v,rfl,no,⟨d,da,ok,le,dp⟩,q⟩:=h;rfl
 · obtain ⟨v,rfl,no,⟨d,da,ok,le,dp⟩,q⟩:=h;have zpy:A4 5 _:=hr.mono (by decide);have hug:_+16 < cLine:=ea1 (ec2 (by decide:16<=64) _) hr.units;refine ⟨_,@i5 _ _ _ _ _ (@m9 _ _ (1) _ _ _ _ V3.nd rfl (Or.inl rfl) (@bw3 _ _ _ _ _ hug hr.gd B.repr (@c9 _ _ _ _ _ (pv 0) (@i4 _) (by rfl)) (by rfl) (by rfl)) (by rfl) (by trivial)) (@i5 _ _ _ _ _ (@m9 _ _ (2) _ _ _ _ V3.nd rfl (Or.inl rfl) (@G4 _ _ _) (by rfl) (by trivial)) (@i5 _ _ _ _ _ (@cm3 _ _ _ _ _ (3) _ _ _ _ _ _ _ (@db5 _ _ _ _ _ _ _ _ _ _ _ ztx zpy (@c9 _ _ _ _ _ (pv 0) (@i4 _) (by rfl)) (by rfl) (by decide) (by rfl) (by rfl) (by rfl)) ER.top V3.nd rfl rfl (fun _=>(@i7 _ _ _ (@m9 _ _ (2) _ _ _ _ V3.nd rfl (Or.inl rfl) (pv 3) (by rfl) (by trivial)))) (by rfl) (by rfl) (by rfl) (by rfl) (by decide) (by trivial)) (@i5 _ _ _ _ _ (@w9 _ _ _ _ _ _ _ _ (@C6 _ _ _ (cc2 B.isi (@c9 _ _ _ _ _ (pv 2) (@c9 _ _ _ _ _ (@X9 _ _ _ _ _ (@c9 _ _ _ _ _ (@E3 _ _ (.ref zxx) _ _ (by rfl) (ER.err ("NoFit",zxx) (by simp)).mg rfl (by decide)) (@c9 _ _ _ _ _ (@E3 _ _ (.ref zxz) _ _ (by rfl) (ER.err ("NoKind",zxz) (by simp)).mg rfl (by decide)) (@c9 _ _ _ _ _ (@E3 _ _ (.ref zxy) _ _ (by rfl) (ER.err ("NoName",zxy) (by simp)).mg rfl (by decide)) (@c9 _ _ _ _ _ (@E3 _ _ (.ref zyy) _ _ (by rfl) (ER.err ("NoNumber",zyy) (by simp)).mg rfl (by decide)) (@c9 _ _ _ _ _ (@E3 _ _ (.ref zx) _ _ (by rfl) (ER.err ("NoRoot",zx) (by simp)).mg rfl (by decide)) (@c9 _ _ _ _ _ (@E3 _ _ (.ref zzx) _ _ (by rfl) (ER.err ("NoRounds",zzx) (by simp)).mg rfl (by decide)) (@c9 _ _ _ _ _ (@E3 _ _ (.ref zwz) _ _ (by rfl) (ER.err ("NoRow",zwz) (by simp)).mg rfl (by decide)) (@c9 _ _ _ _ _ (@E3 _ _ (.ref zzz) _ _ (by rfl) (ER.err ("NoText",zzz) (by simp)).mg rfl (by decide)) (@c9 _ _ _ _ _ (@E3 _ _ (.ref zyx) _ _ (by rfl) (ER.err ("TooMany",zyx) (by simp)).mg rfl (by decide)) (@i4 _) (by rfl)) (by rfl)) (by rfl)) (by rfl)) (by rfl)) (by rfl)) (by rfl)) (by rfl)) (by rfl))) (@i4 _) (by rfl)) (by rfl))) (by intro _;rfl)) (@i7 _ _ _ (@o5 _ _ _ _ (@G1 _ _ _ _))) (@o9 _)) (@i7 _ _ _ (@o5 _ _ _ _ (@Z1 _ _ _ _ _ _ _ (@ax2 _ _ _ _ _ _ B.isi (@c9 _ _ _ _ _ (pv 2) (@c9 _ _ _ _ _ (@E3 _ _ (.ref zzy) _ _ (by rfl) (ER.err ("NoTurn",zzy) (by simp)).mg rfl (by decide)) (@i4 _) (by rfl)) (by rfl)) (by rfl) (by rfl) (by rfl)) (@Z1 _ _ _ _ _ _ _ (@ax2 _ _ _ _ _ _ B.isi (@c9 _ _ _ _ _ (pv 2) (@c9 _ _ _ _ _ (@ca9 _ _ B.ve (by rfl)) (@i4 _) (by rfl)) (by rfl)) (by rfl) (by rfl) (by rfl)) (@al6 _ _ _ _ _ (@R0 _ _ _ _ _ _ _ _ E5 (@bw3 _ _ _ _ _ hug hr.gd B.repr (@c9 _ _ _ _ _ (pv 0) (@i4 _) (by rfl)) (by rfl) (by rfl)) (pv 1) (o4 _)))))))))),?_⟩;have DS:DaS H v d:=⟨da,ok,by rw[sizeLine_eq];omega,by omega⟩;have IC:=ER.inst ("NoTurn",zzy) (by simp);have pr:=ER.pair ("NoTurn",zzy) (by simp)
   have any9:PySem.W.kitAny K (.ref zzy) [.ref zxx,.ref zxz,.ref zxy,.ref zyy,.ref zx,.ref zzx,.ref zwz,.ref zzz,.ref zyx]=some false:=by
     have p1:PySem.W.kitOne K (.ref zzy) (.ref zxx)=some false:=(pr ("NoFit",zxx) (by simp)).trans (congrArg some (decide_eq_false (show ("NoTurn":Str)≠"NoFit" by decide+kernel)));have p2:PySem.W.kitOne K (.ref zzy) (.ref zxz)=some false:=(pr ("NoKind",zxz) (by simp)).trans (congrArg some (decide_eq_false (show ("NoTurn":Str)≠"NoKind" by decide+kernel)));have p3:PySem.W.kitOne K (.ref zzy) (.ref zxy)=some false:=(pr ("NoName",zxy) (by simp)).trans (congrArg some (decide_eq_false (show ("NoTurn":Str)≠"NoName" by decide+kernel)));have p4:PySem.W.kitOne K (.ref zzy) (.ref zyy)=some false:=(pr ("NoNumber",zyy) (by simp)).trans (congrArg some (decide_eq_false (show ("NoTurn":Str)≠"NoNumber" by decide+kernel)));have p5:PySem.W.kitOne K (.ref zzy) (.ref zx)=some false:=(pr ("NoRoot",zx) (by simp)).trans (congrArg some (decide_eq_false (show ("NoTurn":Str)≠"NoRoot" by decide+kernel)));have p6:PySem.W.kitOne K (.ref zzy) (.ref zzx)=some false:=(pr ("NoRounds",zzx) (by simp)).trans (congrArg some (decide_eq_false (show ("NoTurn":Str)≠"NoRounds" by decide+kernel)));have p7:PySem.W.kitOne K (.ref zzy) (.ref zwz)=some false:=(pr ("NoRow",zwz) (by simp)).trans (congrArg some (decide_eq_false (show ("NoTurn":Str)≠"NoRow" by decide+kernel)));have p8:PySem.W.kitOne K (.ref zzy) (.ref zzz)=some false:=(pr ("NoText",zzz) (by simp)).trans (congrArg some (decide_eq_false (show ("NoTurn":Str)≠"NoText" by decide+kernel)));have p9:PySem.W.kitOne K (.ref zzy) (.ref zyx)=some false:=(pr ("TooMany",zyx) (by simp)).trans (congrArg some (decide_eq_false (show ("NoTurn":Str)≠"TooMany" by decide+kernel)));simp only[PySem.W.kitAny,p1,p2,p3,p4,p5,p6,p7,p8,p9]
   have ps:=pr ("NoTurn",zzy) (by simp);rw[decide_eq_true rfl] at ps;refine ⟨_,rfl,v,_,rfl,.inl ⟨d,DS,rfl⟩,?_⟩;refine ⟨_,rfl,.inr ⟨v,rfl,no,fun H1 s1=>⟨zzy,rfl,ER.exm ("NoTurn",zzy) (by simp),fun a ha=> ?_⟩⟩⟩;have s2:i6 H1 (i8 H1 a (Z9 a zzy)):=i6.upd_new ha;have h2:(i8 H1 a (Z9 a zzy)) a=some (Z9 a zzy):=j6;generalize (i8 H1 a (Z9 a zzy))=H2 at s2 h2 ⊢;refine ⟨_,rfl,?_⟩;refine ⟨_,rfl,(show 9<=sizeLine by decide),fun tp htp=>⟨a,zzy,tp,[zxx,zxz,zxy,zyy,zx,zzx,zwz,zzz,zyx],false,rfl,i6.upd_new htp _ _ h2,j6,IC,any9,false,rfl,B9 ?_⟩⟩;have s3:i6 H2 (i8 H2 tp (.tup [V.ref zxx,V.ref zxz,V.ref zxy,V.ref zyy,V.ref zx,V.ref zzx,V.ref zwz,V.ref zzz,V.ref zyx])):=i6.upd_new htp;generalize (i8 H2 tp (.tup [V.ref zxx,V.ref zxz,V.ref zxy,V.ref zyy,V.ref zx,V.ref zzx,V.ref zwz,V.ref zzz,V.ref zyx]))=H3 at s3 ⊢;have h3:=s3 _ _ h2;have s03:=s1.trans (s2.trans s3);refine ⟨_,rfl,a,zzy,_,_,true,rfl,.inl ⟨_,rfl,rfl⟩,h3,IC,ps,true,rfl,A5 ⟨_,rfl,a,zzy,_,_,true,rfl,.inr ⟨_,rfl,rfl⟩,h3,IC,ER.ve ("NoTurn",zzy) (by simp),true,rfl,A5 ⟨_,rfl,v,_,rfl,.inl ⟨d,DS.keep s03,rfl⟩,_,rfl,rfl,?_⟩⟩⟩;rw[decide_eq_true rfl];exact q _ s03
end
end My
namespace My
open PySem L2 Mth
section
variable {P:Program} {w:World} {K:PySem.W.Frag} {mg:Str->Option Value} {base:Heap}
theorem y6 {H H':Hp}{l:Addr}{o:HO}(hl:H l=none)(e:i8 H l o=H'):i6 H H'/\H' l=some o:=by
 subst e;exact ⟨i6.upd_new hl,j6⟩
theorem bi7 {H H':Hp}{g:Addr}(s:i6 H H'):i6 (G7 H g g) (G7 H' g g):=ay3 (s.but g)
def dr2 (H:Hp)(g b:Addr)(ns:List Int):Prop:=(G7 H g g) b=some (.lst (ns.map V.int))
def ch6 (K:PySem.W.Frag):Sp:=fun vs H Q _=>∃(g a:Addr) (p:List Int),vs=[.ref g,.ref a]/\A8 H g/\bp1 H a p/\a≠g/\∀v H',A8 H' g->r9 g H H'->K5 K (G7 H' g g) v->P7 (G7 H' g g) v->Q v H'
theorem V4 {xs:List V}{i:Int}(h0:0<=i):as8 xs (some i) none=xs.drop i.toNat:=by
 obtain ⟨k,rfl⟩:=dw4 h0;unfold as8;rw[HT.dr3,HT.dp8,dy7]
 by_cases z:k<=xs.length
 · rw[Nat.min_eq_left z,ea2 (by rw[dv1];omega)]
 · rw[Nat.min_eq_right (by omega),ea3 (dt7 _),ea3 (by omega),List.take_nil]
theorem cd4 {M:Hp}{b:Addr}{xs:List V}{y:V}{p:List Int}(h:M b=some (.lst xs))(el:∀x∈xs,x∈p.map V.int\/x=y)(hy:y∈xs)(l:xs.length<=p.length+1)(pb:∀i∈p,0<=i/\i < 41)(lp:p.length<=41)(o:bc4 K M (p.length+1) y):K5 K M (.ref b)/\P7 M (.ref b):=by
 constructor
 · refine cd0 h (fun x hx=> ?_) hy (fun i e=>by have:=o.ny i e;omega)
   rcases el x hx with z|z
   · obtain ⟨i,_,rfl⟩:=dv3.mp z;exact .inl ⟨i,rfl⟩
   · rw[z];exact o.el
 · refine aq9 h (fun x hx=> ?_) (by omega)
   rcases el x hx with z|z
   · obtain ⟨i,hi,rfl⟩:=dv3.mp z;have:=pb i hi;exact aw0 ⟨by omega,by omega⟩
   · rw[z];exact o.sh
theorem ab6 {M:Hp}{b:Addr}{ns:List Int}(h:M b=some (.lst (ns.map V.int)))(no:ns.length<=40->¬G2 ns)(l:ns.length<=300)(nb:∀i∈ns,aq8 i):K5 K M (.ref b)/\P7 M (.ref b):=⟨cx7 h no,ch4 h l nb⟩
theorem dn6 {R:St->Hp->Prop}{σ:St}{H:Hp}{A:Prop}{b:Bool}(G:St->Hp->Prop)(rest:∀σ' H',G σ' H'->R σ' H')(hb:G σ H)(ha:b=true->(∀σ' H',G σ' H'->R σ' H')->A):if b=true then A else R σ H:=by
 cases b with
 |true=>exact ha rfl rest
 |false=>exact rest σ H hb
theorem dk1 {ds:List Int}{i j:Nat}(hi:i < ds.length)(hj:j < ds.length)(ne:i≠j)(e:ds.getD i 0=ds.getD j 0):¬G2 ds:=fun t=>Z5 t.nd hi hj ne e
theorem de2 {n:Nat}{a r:Int}(h1:1 < (n:Int))(r0:0<=r)(r1:r < (n:Int) - 1):(a%(n:Int)).toNat≠((a+1+r)%(n:Int)).toNat:=by
 have m0:=ea8 a (show (n:Int)≠0 by omega);have m1:=eb1 a (show (0:Int) < n by omega)
 have e:(a+1+r)%(n:Int)=(a%(n:Int)+1+r)%(n:Int):=by
   rw[Int.add_assoc,Int.add_assoc,Int.emod_add_emod]
 rw[e]
 by_cases z:a%(n:Int)+1+r < n
 · rw[Int.emod_eq_of_lt (by omega) z];omega
 · have:(a%(n:Int)+1+r)%(n:Int)=a%(n:Int)+1+r - n:=by
     rw[<-Int.sub_emod_right];exact Int.emod_eq_of_lt (by omega) (by omega)
   rw[this];omega
theorem N4:y7 ["deck","p","at","odd","double","rows"] ["deck","p"] (o7 ae0):=by rfl'
theorem bi8 {f:Addr}{fd:FuncData}(F:E6 K "_law_no_turn" "_law_no_turn" ae0 f fd)(B:Bl mg)(zy:B7 P w K mg base "_law_take" 1 ["deck","many"] ai4):w6 P w K mg base J8 2 f fd ["deck","p"] (ch6 K):=by
 refine F.ok N4 (fun vs H Q E h=> ?_) (fun cdv A outer s H vs Q E hr h=> ?_)
 · obtain ⟨g,a,p,rfl,hg,⟨ha,tp,lp⟩,nag,q⟩:=h;rfl
 · obtain ⟨g,a,p,rfl,hg,⟨ha,tp,lp⟩,nag,q⟩:=h;have zyz:A4 1 _:=hr.mono (by decide);have hug:_+16 < cLine:=ea1 (ec2 (by decide:16<=64) _) hr.units;refine ⟨_,@i5 _ _ _ _ _ (@m9 _ _ (2) _ _ _ _ N4.nd rfl (Or.inl rfl) (@q9 _ _ _ _ _ _ _ _ _ _ zy zyz (@c9 _ _ _ _ _ (pv 0) (@c9 _ _ _ _ _ (@k7 _ _ _ _ _ _ _ _ J6 (@A6 _ _ _ _ _ B.len (@c9 _ _ _ _ _ (pv 1) (@i4 _) (by rfl)) (by rfl) (by rfl)) (@i9 _ _ _ _)) (@i4 _) (by rfl)) (by rfl)) (by rfl) (by decide) (by rfl) (by rfl)) (by rfl) (by trivial)) (@i5 _ _ _ _ _ (@m9 _ _ (3) _ _ _ _ N4.nd rfl (Or.inl rfl) (@B8 _ _ _ _ _ _ _ y9 (@w4 _ _ _ _ (@c9 _ _ _ _ _ (@k7 _ _ _ _ _ _ _ _ J6 (@A6 _ _ _ _ _ B.len (@c9 _ _ _ _ _ (pv 1) (@i4 _) (by rfl)) (by rfl) (by rfl)) (@i9 _ _ _ _)) (@c9 _ _ _ _ _ (@aw7 _ _ _ _ _ _ al7 (@i9 _ _ _ _)) (@c9 _ _ _ _ _ (@G1 _ _ _ _) (@c9 _ _ _ _ _ (@G4 _ _ _) (@c9 _ _ _ _ _ (@o6 _ _ _ _) (@c9 _ _ _ _ _ (@w4 _ _ _ _ (@c9 _ _ _ _ _ (@i9 _ _ _ _) (@i4 _) (by rfl))) (@c9 _ _ _ _ _ (@k7 _ _ _ _ _ _ _ _ bc7 (@i9 _ _ _ _) (@i9 _ _ _ _)) (@c9 _ _ _ _ _ (@aw7 _ _ _ _ _ _ al7 (@k7 _ _ _ _ _ _ _ _ bc7 (@i9 _ _ _ _) (@i9 _ _ _ _))) (@i4 _) (by rfl)) (by rfl)) (by rfl)) (by rfl)) (by rfl)) (by rfl)) (by rfl)) (by rfl))) (@q9 _ _ _ _ _ _ _ _ _ _ zy zyz (@c9 _ _ _ _ _ (pv 0) (@c9 _ _ _ _ _ (@i9 _ _ _ _) (@i4 _) (by rfl)) (by rfl)) (by rfl) (by decide) (by rfl) (by rfl)) (fun _ _=>rfl)) (by rfl) (by trivial)) (@i5 _ _ _ _ _ (@m9 _ _ (4) _ _ _ _ N4.nd rfl (Or.inl rfl) (@w4 _ _ _ _ (@c9 _ _ _ _ _ (@i9 _ _ _ _) (@c9 _ _ _ _ _ (@i9 _ _ _ _) (@c9 _ _ _ _ _ (@i9 _ _ _ _) (@i4 _) (by rfl)) (by rfl)) (by rfl))) (by rfl) (by trivial)) (@i5 _ _ _ _ _ (@w9 _ _ _ _ _ _ _ _ (@m8 _ _ _ _ _ _ _ _ aw9 (@A6 _ _ _ _ _ B.len (@c9 _ _ _ _ _ (pv 1) (@i4 _) (by rfl)) (by rfl) (by rfl)) (@i9 _ _ _ _) (o4 _)) (@i5 _ _ _ _ _ (@m9 _ _ (4) _ _ _ _ N4.nd rfl (Or.inl rfl) (@cl2 _ _ _ _ _ B.list (@c9 _ _ _ _ _ (pv 1) (@i4 _) (by rfl)) (by rfl) (by rfl)) (by rfl) (by trivial)) (@i7 _ _ _ (@Q2 _ _ _ _ _ _ (@B8 _ _ _ _ _ _ _ y9 (pv 1) (@k7 _ _ _ _ _ _ _ _ T7 (@k7 _ _ _ _ _ _ _ _ J6 (@k7 _ _ _ _ _ _ _ _ J6 (pv 2) (@i9 _ _ _ _)) (@q9 _ _ _ _ _ _ _ _ _ _ zy zyz (@c9 _ _ _ _ _ (pv 0) (@c9 _ _ _ _ _ (@k7 _ _ _ _ _ _ _ _ as6 (@A6 _ _ _ _ _ B.len (@c9 _ _ _ _ _ (pv 1) (@i4 _) (by rfl)) (by rfl) (by rfl)) (@i9 _ _ _ _)) (@i4 _) (by rfl)) (by rfl)) (by rfl) (by decide) (by rfl) (by rfl))) (@A6 _ _ _ _ _ B.len (@c9 _ _ _ _ _ (pv 1) (@i4 _) (by rfl)) (by rfl) (by rfl))) (fun _ _=>rfl)) (@T5 _ _ _ _ _ _ _ (pv 4) (@k7 _ _ _ _ _ _ _ _ T7 (pv 2) (@A6 _ _ _ _ _ B.len (@c9 _ _ _ _ _ (pv 1) (@i4 _) (by rfl)) (by rfl) (by rfl))) O2 (by intro _;rfl)) (by rfl) (by rfl) (by rfl)))) (@o9 _)) (@i5 _ _ _ _ _ (@m9 _ _ (5) _ _ _ _ N4.nd rfl (Or.inl rfl) (@w4 _ _ _ _ (@c9 _ _ _ _ _ (@k7 _ _ _ _ _ _ _ _ J0 (@k7 _ _ _ _ _ _ _ _ J0 (@C2 _ _ _ _ _ _ _ _ _ _ O8 (pv 1) (@E7 _) (@B6 _ _ _ (pv 2))) (@w4 _ _ _ _ (@c9 _ _ _ _ _ (pv 3) (@i4 _) (by rfl)))) (@C2 _ _ _ _ _ _ _ _ _ _ O8 (pv 1) (@B6 _ _ _ (pv 2)) (@E7 _))) (@c9 _ _ _ _ _ (@k7 _ _ _ _ _ _ _ _ J0 (@k7 _ _ _ _ _ _ _ _ J0 (@C2 _ _ _ _ _ _ _ _ _ _ O8 (pv 1) (@E7 _) (@B6 _ _ _ (pv 2))) (@w4 _ _ _ _ (@c9 _ _ _ _ _ (pv 3) (@i4 _) (by rfl)))) (@C2 _ _ _ _ _ _ _ _ _ _ O8 (pv 1) (@B6 _ _ _ (@k7 _ _ _ _ _ _ _ _ J6 (pv 2) (@i9 _ _ _ _))) (@E7 _))) (@c9 _ _ _ _ _ (@k7 _ _ _ _ _ _ _ _ J0 (pv 1) (@k7 _ _ _ _ _ _ _ _ bd1 (@w4 _ _ _ _ (@c9 _ _ _ _ _ (@A6 _ _ _ _ _ B.len (@c9 _ _ _ _ _ (pv 1) (@i4 _) (by rfl)) (by rfl) (by rfl)) (@i4 _) (by rfl))) (@i9 _ _ _ _))) (@c9 _ _ _ _ _ (@Q3 _ _ _ _ _ _ _ _ _ bm3 (by rfl) B.tuple az0 (@c9 _ _ _ _ _ (pv 1) (@i4 _) (by rfl)) (by decide) (by decide) (by rfl) (by rfl)) (@c9 _ _ _ _ _ (@de0 _ _ _ _ _ hug hr.gd B.str (@c9 _ _ _ _ _ (pv 1) (@i4 _) (by rfl)) (by rfl) (by rfl)) (@c9 _ _ _ _ _ (@G4 _ _ _) (@i4 _) (by rfl)) (by rfl)) (by rfl)) (by rfl)) (by rfl)) (by rfl))) (by rfl) (by trivial)) (@i5 _ _ _ _ _ (@m9 _ _ (5) _ _ _ _ N4.nd rfl (Or.inl rfl) (@k7 _ _ _ _ _ _ _ _ J0 (pv 5) (@w4 _ _ _ _ (@c9 _ _ _ _ _ (@ag5 _ _) (@c9 _ _ _ _ _ (@w4 _ _ _ _ (@c9 _ _ _ _ _ (pv 1) (@i4 _) (by rfl))) (@c9 _ _ _ _ _ (@i9 _ _ _ _) (@c9 _ _ _ _ _ (@k7 _ _ _ _ _ _ _ _ J0 (pv 1) (@w4 _ _ _ _ (@c9 _ _ _ _ _ (@k7 _ _ _ _ _ _ _ _ J6 (@A6 _ _ _ _ _ B.len (@c9 _ _ _ _ _ (pv 1) (@i4 _) (by rfl)) (by rfl) (by rfl)) (@i9 _ _ _ _)) (@i4 _) (by rfl)))) (@c9 _ _ _ _ _ (@ao5 _ _ _ _ _ _ _ rfl B.list B.range (@c9 _ _ _ _ _ (@i9 _ _ _ _) (@i4 _) (by rfl)) (by rfl) (by rfl) (by rfl) (by rfl)) (@c9 _ _ _ _ _ (@w4 _ _ _ _ (@c9 _ _ _ _ _ (@i9 _ _ _ _) (@c9 _ _ _ _ _ (@i9 _ _ _ _) (@c9 _ _ _ _ _ (@i9 _ _ _ _) (@i4 _) (by rfl)) (by rfl)) (by rfl))) (@c9 _ _ _ _ _ (pv 4) (@c9 _ _ _ _ _ (pv 4) (@i4 _) (by rfl)) (by rfl)) (by rfl)) (by rfl)) (by rfl)) (by rfl)) (by rfl)) (by rfl)))) (by rfl) (by trivial)) (@i7 _ _ _ (@o5 _ _ _ _ (@B8 _ _ _ _ _ _ _ y9 (pv 5) (@q9 _ _ _ _ _ _ _ _ _ _ zy zyz (@c9 _ _ _ _ _ (pv 0) (@c9 _ _ _ _ _ (@i9 _ _ _ _) (@i4 _) (by rfl)) (by rfl)) (by rfl) (by decide) (by rfl) (by rfl)) (fun _ _=>rfl))))))))),?_⟩
   refine ⟨_,rfl,_,rfl,a,_,rfl,.inl (j7.of ha),_,_,rfl,rfl,g,_,rfl,hg,by omega,fun at' H1 G5 at1 D1 kb1=> ?_⟩;rw[dt3] at at1;have h1:=kb1 _ _ ha nag;refine ⟨_,rfl,a,_,rfl,.inl (j7.of h1),_,_,rfl,rfl,_,rfl,(show 1<=sizeLine by decide),fun l1 n1=> ?_⟩;generalize e_:i8 _ l1 _=H2;obtain ⟨s2,g2⟩:=y6 n1 e_;clear e_;have ng1:l1≠g:=D1.ne n1;have D2:=D1.same s2;refine ⟨_,_,rfl,rfl,⟨by decide,by decide,by decide⟩,_,_,rfl,rfl,⟨by decide,by decide,by decide⟩,_,rfl,(show 8<=sizeLine by decide),fun so n3=> ?_⟩;generalize e_:i8 _ so _=H3;obtain ⟨s3,g3⟩:=y6 n3 e_;clear e_;have ngs:so≠g:=D2.ne n3;have D3:=D2.same s3;refine ⟨_,rfl,g,8,rfl,D3,by decide,fun r H4 r0 r1 D4 kb4=> ?_⟩;have g4:=kb4 _ _ g3 ngs;have k24:i6 (G7 H2 g g) (G7 H4 g g):=(bi7 s3).trans (ay3 kb4);have g24:=k24 _ _ (ab5 g2 ng1 ng1)
   obtain ⟨y,hat,oi⟩:∃y,Y0 [V.int (((p.map V.int).length:Int)+1),V.int (-1),V.bl true,V.non,V.str (Str.ofString "0"),V.ref l1,V.int (10^20),V.int (-10^20)] r=some y/\bc4 K (G7 H4 g g) (p.length+1) y:=by
     have:r=0\/r=1\/r=2\/r=3\/r=4\/r=5\/r=6\/r=7:=by omega
     have int:∀i:Int,aq8 i->(i < 0\/((p.length+1:Nat):Int)<=i)->bc4 K (G7 H4 g g) (p.length+1) (.int i):=fun i m b=>⟨.inl ⟨i,rfl⟩,fun j e=>by cases e;exact b,.int i,aw0 m⟩
     rcases this with rfl|rfl|rfl|rfl|rfl|rfl|rfl|rfl
     · exact ⟨_,o8 (j:=0) rfl,by rw[dt3];exact int _ ⟨by omega,by omega⟩ (by omega)⟩
     · exact ⟨_,o8 (j:=1) rfl,int _ ⟨by decide,by decide⟩ (.inl (by decide))⟩
     · exact ⟨_,o8 (j:=2) rfl,.inr (dj9 true),(fun i e=>by cases e),.bl true,dn4 true⟩
     · exact ⟨_,o8 (j:=3) rfl,.inr dd8,(fun i e=>by cases e),.non,cq7⟩
     · exact ⟨_,o8 (j:=4) rfl,.inr (dd9 _),(fun i e=>by cases e),.str _,dj7 (by decide+kernel)⟩
     · have it:=cr2 (K:=K) (ns:=[0]) g24 (by decide) (fun x hx=>by rw[du4.mp hx];decide);exact ⟨_,o8 (j:=5) rfl,it.el,(fun i e=>by cases e),it.cp,it.sh⟩
     · exact ⟨_,o8 (j:=6) rfl,int _ ⟨by decide,by decide⟩ (.inr (by rw[show (10:Int)^20=100000000000000000000 from (by decide)];omega))⟩
     · exact ⟨_,o8 (j:=7) rfl,int _ ⟨by decide,by decide⟩ (.inl (by decide))⟩
   have h4:H4 a=some (.lst (p.map V.int)):=kb4 _ _ ((s2.trans s3) _ _ h1) nag;have kb04:r9 g H H4:=kb1.trans (((s2.trans s3).but g).trans kb4);refine ⟨so,_,_,_,rfl,rfl,j7.of g4,hat,?_⟩;refine ⟨(show 3<=sizeLine by decide),fun dl n5=> ?_⟩;generalize e_:i8 _ dl _=H5;obtain ⟨s5,g5⟩:=y6 n5 e_;clear e_;have ngd:dl≠g:=D4.ne n5;have D5:=D4.same s5;have h5:=s5 _ _ h4;refine ⟨_,rfl,a,_,rfl,.inl (j7.of h5),_,_,rfl,rfl,_,rfl,?_⟩;rw[dt3];refine dn6 (fun σ' H'=>∃(dl:Addr) (ds:List Int),σ'=[some (.ref g),some (.ref a),some (.int at'),some y,some (.ref dl),none]/\A8 H' g/\r9 g H H'/\dr2 H' g dl ds/\¬G2 ds/\ds.length<=41/\(∀x∈ds,aq8 x)/\bc4 K (G7 H' g g) (p.length+1) y) ?_ ⟨dl,[0,1,0],rfl,D5,kb04.trans (s5.but g),ab5 g5 ngd ngd,(fun t=>by have:=t.nd;revert this;decide),by decide,(fun x hx=>by simp only[dw1,ed8,or_false] at hx;rcases hx with rfl|rfl|rfl<;>exact ⟨by decide,by decide⟩),oi.keep (bi7 s5)⟩ (fun c1 rest=> ?_)
   · rintro σ' H6 ⟨dl,ds,rfl,D6,kb6,ld,nds,lds,bds,oi⟩;have h6:H6 a=some (.lst (p.map V.int)):=kb6 _ _ ha nag
     have at2:at'<=((p.map V.int).length:Int):=by rw[dt3];omega
     refine ⟨_,rfl,_,rfl,_,rfl,a,_,rfl,j7.of h6,fun x7 n7=> ?_⟩;generalize e_:i8 _ x7 _=H7;obtain ⟨s7,g7⟩:=y6 n7 e_;clear e_;have t7:=s7;have h7:=s7 _ _ h6;rw[an4 G5 at2] at g7;refine ⟨_,rfl,(show 1<=sizeLine by decide),fun x8 n8=> ?_⟩;generalize e_:i8 _ x8 _=H8;obtain ⟨s8,g8⟩:=y6 n8 e_;clear e_;have t8:=t7.trans s8;have h8:=s8 _ _ h7;refine ⟨x7,x8,_,_,rfl,rfl,s8 _ _ g7,g8,(by simp only[dt4,dt3,du9,dz2,du5,dv1,sizeLine_eq];omega),fun x9 n9=> ?_⟩;generalize e_:i8 _ x9 _=H9;obtain ⟨s9,g9⟩:=y6 n9 e_;clear e_;have t9:=t8.trans s9;have h9:=s9 _ _ h8;refine ⟨_,rfl,_,rfl,_,rfl,a,_,rfl,j7.of h9,fun x10 n10=> ?_⟩;generalize e_:i8 _ x10 _=H10;obtain ⟨s10,g10⟩:=y6 n10 e_;clear e_;have t10:=t9.trans s10;have h10:=s10 _ _ h9;rw[V4 (by omega)] at g10;refine ⟨x9,x10,_,_,rfl,rfl,s10 _ _ g9,g10,(by simp only[dt4,dt3,du9,dz2,du5,dv1,sizeLine_eq];omega),fun x11 n11=> ?_⟩;generalize e_:i8 _ x11 _=H11;obtain ⟨s11,g11⟩:=y6 n11 e_;clear e_;have t11:=t10.trans s11;have h11:=s11 _ _ h10;refine ⟨_,rfl,_,rfl,_,rfl,a,_,rfl,j7.of h11,fun x12 n12=> ?_⟩;generalize e_:i8 _ x12 _=H12;obtain ⟨s12,g12⟩:=y6 n12 e_;clear e_;have t12:=t11.trans s12;have h12:=s12 _ _ h11;rw[an4 G5 at2] at g12;refine ⟨_,rfl,(show 1<=sizeLine by decide),fun x13 n13=> ?_⟩;generalize e_:i8 _ x13 _=H13;obtain ⟨s13,g13⟩:=y6 n13 e_;clear e_;have t13:=t12.trans s13;have h13:=s13 _ _ h12;refine ⟨x12,x13,_,_,rfl,rfl,s13 _ _ g12,g13,(by simp only[dt4,dt3,du9,dz2,du5,dv1,sizeLine_eq];omega),fun x14 n14=> ?_⟩;generalize e_:i8 _ x14 _=H14;obtain ⟨s14,g14⟩:=y6 n14 e_;clear e_;have t14:=t13.trans s14;have h14:=s14 _ _ h13;refine ⟨_,rfl,_,rfl,_,_,rfl,rfl,_,rfl,a,_,rfl,j7.of h14,fun x15 n15=> ?_⟩;generalize e_:i8 _ x15 _=H15;obtain ⟨s15,g15⟩:=y6 n15 e_;clear e_;have t15:=t14.trans s15;have h15:=s15 _ _ h14;rw[V4 (by omega)] at g15;refine ⟨x14,x15,_,_,rfl,rfl,s15 _ _ g14,g15,(by simp only[dt4,dt3,du9,dz2,du5,dv1,sizeLine_eq];omega),fun x16 n16=> ?_⟩;generalize e_:i8 _ x16 _=H16;obtain ⟨s16,g16⟩:=y6 n16 e_;clear e_;have t16:=t15.trans s16;have h16:=s16 _ _ h15;refine ⟨_,rfl,_,rfl,a,_,rfl,.inl (j7.of h16),(show 1<=sizeLine by decide),fun x17 n17=> ?_⟩;generalize e_:i8 _ x17 _=H17;obtain ⟨s17,g17⟩:=y6 n17 e_;clear e_;have t17:=t16.trans s17;have h17:=s17 _ _ h16;refine ⟨x17,2,_,rfl,rfl,g17,by decide,by decide,(show 2<=sizeLine by decide),fun x18 n18=> ?_⟩;generalize e_:i8 _ x18 _=H18;obtain ⟨s18,g18⟩:=y6 n18 e_;clear e_;have t18:=t17.trans s18;have h18:=s18 _ _ h17;have g18:H18 x18=some (.lst [V.int ((p.map V.int).length:Int),V.int ((p.map V.int).length:Int)]):=g18;refine ⟨a,x18,_,_,rfl,rfl,h18,g18,(by simp only[dt4,dt3,du9,dz2,du5,dv1,sizeLine_eq];omega),fun x19 n19=> ?_⟩;generalize e_:i8 _ x19 _=H19;obtain ⟨s19,g19⟩:=y6 n19 e_;clear e_;have t19:=t18.trans s19;have h19:=s19 _ _ h18;refine ⟨_,rfl,a,_,rfl,.inl ⟨j7.of h19,fun x20 n20=> ?_⟩⟩;generalize e_:i8 _ x20 _=H20;obtain ⟨s20,g20⟩:=y6 n20 e_;clear e_;have t20:=t19.trans s20;have h20:=s20 _ _ h19
     have pb:∀i∈p,0<=i/\i < 41:=fun i hi=>⟨tp.lo i hi,by have:=tp.hi i hi;omega⟩
     obtain ⟨d,d1,d2,d3,d4,d5,d6⟩:=bw7 h20 (by omega) (fun x hx=>by have:=pb x hx;omega);refine ⟨_,rfl,a,d,rfl,⟨d1,d2,by rw[sizeLine_eq];omega,by omega⟩,d5,(show 6<=sizeLine by decide),fun x21 n21=> ?_⟩;generalize e_:i8 _ x21 _=H21;obtain ⟨s21,g21⟩:=y6 n21 e_;clear e_;have t21:=t20.trans s21;have h21:=s21 _ _ h20;refine ⟨_,rfl,fun x22 n22=> ?_⟩;generalize e_:i8 _ x22 _=H22;obtain ⟨s22,g22⟩:=y6 n22 e_;clear e_;have t22:=t21.trans s22;have h22:=s22 _ _ h21;refine ⟨_,rfl,(show 1<=sizeLine by decide),fun x23 n23=> ?_⟩;generalize e_:i8 _ x23 _=H23;obtain ⟨s23,g23⟩:=y6 n23 e_;clear e_;have t23:=t22.trans s23;have h23:=s23 _ _ h22;refine ⟨_,rfl,_,rfl,a,_,rfl,.inl (j7.of h23),_,_,rfl,rfl,(show 1<=sizeLine by decide),fun x24 n24=> ?_⟩;generalize e_:i8 _ x24 _=H24;obtain ⟨s24,g24⟩:=y6 n24 e_;clear e_;have t24:=t23.trans s24;have h24:=s24 _ _ h23;refine ⟨a,x24,_,_,rfl,rfl,h24,g24,(by simp only[dt4,dt3,du9,dz2,du5,dv1,sizeLine_eq];omega),fun x25 n25=> ?_⟩;generalize e_:i8 _ x25 _=H25;obtain ⟨s25,g25⟩:=y6 n25 e_;clear e_;have t25:=t24.trans s25;have h25:=s25 _ _ h24;refine ⟨_,rfl,fun x26 n26=> ?_⟩;generalize e_:i8 _ x26 _=H26;obtain ⟨s26,g26⟩:=y6 n26 e_;clear e_;have t26:=t25.trans s26;have h26:=s26 _ _ h25;refine ⟨x26,0,41,rfl,g26,⟨by decide,by decide,by decide,by decide⟩,by decide,fun x27 n27=> ?_⟩;generalize e_:i8 _ x27 _=H27;obtain ⟨s27,g27⟩:=y6 n27 e_;clear e_;have t27:=t26.trans s27;have h27:=s27 _ _ h26;refine ⟨(show 3<=sizeLine by decide),fun x28 n28=> ?_⟩;generalize e_:i8 _ x28 _=H28;obtain ⟨s28,g28⟩:=y6 n28 e_;clear e_;have t28:=t27.trans s28;have h28:=s28 _ _ h27;refine ⟨_,rfl,_,rfl,(show 8<=sizeLine by decide),fun x29 n29=> ?_⟩;generalize e_:i8 _ x29 _=H29;obtain ⟨s29,g29⟩:=y6 n29 e_;clear e_;have t29:=t28.trans s29;have h29:=s29 _ _ h28;have gr:=g21;have gr:=s22 _ _ gr;have gr:=s23 _ _ gr;have gr:=s24 _ _ gr;have gr:=s25 _ _ gr;have gr:=s26 _ _ gr;have gr:=s27 _ _ gr;have gr:=s28 _ _ gr;have gr:=s29 _ _ gr;refine ⟨x21,x29,_,_,rfl,rfl,gr,g29,(show 14<=sizeLine by decide),fun x30 n30=> ?_⟩;generalize e_:i8 _ x30 _=H30;obtain ⟨s30,g30⟩:=y6 n30 e_;clear e_;have t30:=t29.trans s30;have h30:=s30 _ _ h29;have D30:=D6.same t30;have ngR:x30≠g:=(D6.same t29).ne n30;refine ⟨_,rfl,_,rfl,g,14,rfl,D30,by decide,fun r HE r0 r1 DE kbE=> ?_⟩;have gE:=kbE _ _ g30 ngR
     have up:∀{k:Hp} {b:Addr} {o:HO},i6 k H30->k b=some o->b≠g->(G7 HE g g) b=some o:=fun s e n=>ab5 (kbE _ _ (s _ _ e) n) n n
     have kE:r9 g H HE:=kb6.trans ((t30.but g).trans kbE);have uE:i6 (G7 H6 g g) (G7 HE g g):=(bi7 t30).trans (ay3 kbE);have oE:=oi.keep uE;have e1:=g11
     replace e1:=s12 _ _ e1
     replace e1:=s13 _ _ e1
     replace e1:=s14 _ _ e1
     replace e1:=s15 _ _ e1
     replace e1:=s16 _ _ e1
     replace e1:=s17 _ _ e1
     replace e1:=s18 _ _ e1
     replace e1:=s19 _ _ e1
     replace e1:=s20 _ _ e1
     replace e1:=s21 _ _ e1
     replace e1:=s22 _ _ e1
     replace e1:=s23 _ _ e1
     replace e1:=s24 _ _ e1
     replace e1:=s25 _ _ e1
     replace e1:=s26 _ _ e1
     replace e1:=s27 _ _ e1
     replace e1:=s28 _ _ e1
     replace e1:=s29 _ _ e1
     replace e1:=s30 _ _ e1
     replace e1:=up (i6.refl _) e1 ((D6.same t10).ne n11)
     have e2:=g16
     replace e2:=s17 _ _ e2
     replace e2:=s18 _ _ e2
     replace e2:=s19 _ _ e2
     replace e2:=s20 _ _ e2
     replace e2:=s21 _ _ e2
     replace e2:=s22 _ _ e2
     replace e2:=s23 _ _ e2
     replace e2:=s24 _ _ e2
     replace e2:=s25 _ _ e2
     replace e2:=s26 _ _ e2
     replace e2:=s27 _ _ e2
     replace e2:=s28 _ _ e2
     replace e2:=s29 _ _ e2
     replace e2:=s30 _ _ e2
     replace e2:=up (i6.refl _) e2 ((D6.same t15).ne n16)
     have e3:=g19
     replace e3:=s20 _ _ e3
     replace e3:=s21 _ _ e3
     replace e3:=s22 _ _ e3
     replace e3:=s23 _ _ e3
     replace e3:=s24 _ _ e3
     replace e3:=s25 _ _ e3
     replace e3:=s26 _ _ e3
     replace e3:=s27 _ _ e3
     replace e3:=s28 _ _ e3
     replace e3:=s29 _ _ e3
     replace e3:=s30 _ _ e3
     replace e3:=up (i6.refl _) e3 ((D6.same t18).ne n19)
     have e4:=g20
     replace e4:=s21 _ _ e4
     replace e4:=s22 _ _ e4
     replace e4:=s23 _ _ e4
     replace e4:=s24 _ _ e4
     replace e4:=s25 _ _ e4
     replace e4:=s26 _ _ e4
     replace e4:=s27 _ _ e4
     replace e4:=s28 _ _ e4
     replace e4:=s29 _ _ e4
     replace e4:=s30 _ _ e4
     replace e4:=up (i6.refl _) e4 ((D6.same t19).ne n20)
     have e6:=g22
     replace e6:=s23 _ _ e6
     replace e6:=s24 _ _ e6
     replace e6:=s25 _ _ e6
     replace e6:=s26 _ _ e6
     replace e6:=s27 _ _ e6
     replace e6:=s28 _ _ e6
     replace e6:=s29 _ _ e6
     replace e6:=s30 _ _ e6
     replace e6:=up (i6.refl _) e6 ((D6.same t21).ne n22)
     have e7:=g23
     replace e7:=s24 _ _ e7
     replace e7:=s25 _ _ e7
     replace e7:=s26 _ _ e7
     replace e7:=s27 _ _ e7
     replace e7:=s28 _ _ e7
     replace e7:=s29 _ _ e7
     replace e7:=s30 _ _ e7
     replace e7:=up (i6.refl _) e7 ((D6.same t22).ne n23)
     have e9:=g25
     replace e9:=s26 _ _ e9
     replace e9:=s27 _ _ e9
     replace e9:=s28 _ _ e9
     replace e9:=s29 _ _ e9
     replace e9:=s30 _ _ e9
     replace e9:=up (i6.refl _) e9 ((D6.same t24).ne n25)
     have e10:=g27
     replace e10:=s28 _ _ e10
     replace e10:=s29 _ _ e10
     replace e10:=s30 _ _ e10
     replace e10:=up (i6.refl _) e10 ((D6.same t26).ne n27)
     have e11:=g28
     replace e11:=s29 _ _ e11
     replace e11:=s30 _ _ e11
     replace e11:=up (i6.refl _) e11 ((D6.same t27).ne n28)
     have ea:=up (i6.refl _) h30 nag
     have:r=0\/r=1\/r=2\/r=3\/r=4\/r=5\/r=6\/r=7\/r=8\/r=9\/r=10\/r=11\/r=12\/r=13:=by omega
     rcases this with rfl|rfl|rfl|rfl|rfl|rfl|rfl|rfl|rfl|rfl|rfl|rfl|rfl|rfl
     · obtain ⟨P1,P2⟩:=cd4 (K:=K) e1 (fun x hx=>by
         rcases du1.mp hx with z|z
         · rcases du1.mp z with z|z
           · exact .inl (dz0 z)
           · exact .inr (du4.mp z)
         · exact .inl (dy9 z)) (dw8 _ (du0 _ (du4.mpr rfl))) (by simp only[dt4,du5,dv1,dt3,dy4];omega) pb lp oE
       exact ⟨x30,_,_,_,rfl,rfl,j7.of gE,o8 (j:=0) rfl,q _ HE DE kE P1 P2⟩
     · obtain ⟨P1,P2⟩:=cd4 (K:=K) e2 (fun x hx=>by
         rcases du1.mp hx with z|z
         · rcases du1.mp z with z|z
           · exact .inl (dz0 z)
           · exact .inr (du4.mp z)
         · exact .inl (dy9 z)) (dw8 _ (du0 _ (du4.mpr rfl))) (by simp only[dt4,du5,dv1,dt3,dy4];omega) pb lp oE
       exact ⟨x30,_,_,_,rfl,rfl,j7.of gE,o8 (j:=1) rfl,q _ HE DE kE P1 P2⟩
     · obtain ⟨P1,P2⟩:=ab6 (K:=K) (M:=G7 HE g g) (b:=x19) (ns:=p++[(p.length:Int),(p.length:Int)]) (by rw[e3,du6,dt3];rfl) (fun _ t=>by have:=(dz7.mp t.nd).2.1;simp at this) (by rw[dt4];show p.length+2<=300;omega) (fun i hi=>(du1.mp hi).elim (fun z=>by have:=pb i z;exact ⟨by omega,by omega⟩) (fun z=>by simp only[dw1,ed8,or_false,or_self] at z;rw[z];exact ⟨by omega,by omega⟩));exact ⟨x30,_,_,_,rfl,rfl,j7.of gE,o8 (j:=2) rfl,q _ HE DE kE P1 P2⟩
     · obtain ⟨P1,P2⟩:=(⟨.inl ⟨_,.tup e4,bg1 K⟩,cr1 e4 (by omega) (fun i hi=>by have:=pb i hi;exact ⟨by omega,by omega⟩)⟩:K5 K (G7 HE g g) (.ref x20)/\P7 (G7 HE g g) (.ref x20));exact ⟨x30,_,_,_,rfl,rfl,j7.of gE,o8 (j:=3) rfl,q _ HE DE kE P1 P2⟩
     · obtain ⟨P1,P2⟩:=(⟨.inl ⟨_,.str _,bs6 K⟩,⟨.str d.shown,.str _,by rw[PyData.showable],by rw[PyData.shown];have:=StrLaws.reprText_len _ d6;omega,by rw[PyData.depth];omega⟩⟩:K5 K (G7 HE g g) (.str d.shown)/\P7 (G7 HE g g) (.str d.shown));exact ⟨x30,_,_,_,rfl,rfl,j7.of gE,o8 (j:=4) rfl,q _ HE DE kE P1 P2⟩
     · obtain ⟨P1,P2⟩:=(⟨.inl ⟨_,.non,bm8 K⟩,.of cq7⟩:K5 K (G7 HE g g) .non/\P7 (G7 HE g g) .non);exact ⟨x30,_,_,_,rfl,rfl,j7.of gE,o8 (j:=5) rfl,q _ HE DE kE P1 P2⟩
     · obtain ⟨P1,P2⟩:=(⟨.inl ⟨_,.dK e6,bn0 K⟩,.of (dj8 e6)⟩:K5 K (G7 HE g g) (.ref x22)/\P7 (G7 HE g g) (.ref x22));exact ⟨x30,_,_,_,rfl,rfl,j7.of gE,o8 (j:=6) rfl,q _ HE DE kE P1 P2⟩
     · obtain ⟨P1,P2⟩:=(⟨cd0 e7 (fun x hx=> .inr (by rw[du4.mp hx];exact cd1 ea)) (du4.mpr rfl) (fun i e=>by cases e),aq9 e7 (fun x hx=>by rw[du4.mp hx];exact (cr2 (K:=K) ea (by omega) (fun x hx=>by have:=pb x hx;omega)).sh) (by simp)⟩:K5 K (G7 HE g g) (.ref x23)/\P7 (G7 HE g g) (.ref x23));exact ⟨x30,_,_,_,rfl,rfl,j7.of gE,o8 (j:=7) rfl,q _ HE DE kE P1 P2⟩
     · obtain ⟨P1,P2⟩:=(⟨.inl ⟨_,.int 0,au3 K⟩,.of (aw0 ⟨by decide,by decide⟩)⟩:K5 K (G7 HE g g) (.int 0)/\P7 (G7 HE g g) (.int 0));exact ⟨x30,_,_,_,rfl,rfl,j7.of gE,o8 (j:=8) rfl,q _ HE DE kE P1 P2⟩
     · obtain ⟨P1,P2⟩:=ab6 (K:=K) (M:=G7 HE g g) (b:=x25) (ns:=p++[(p.length:Int)+1]) (by rw[e9,du6,dt3];rfl) (fun _ t=>by have:=t.hi ((p.length:Int)+1) (du0 _ (du4.mpr rfl));rw[dt4,dy4] at this;omega) (by rw[dt4,dy4];omega) (fun i hi=>(du1.mp hi).elim (fun z=>by have:=pb i z;exact ⟨by omega,by omega⟩) (fun z=>by rw[du4.mp z];exact ⟨by omega,by omega⟩));exact ⟨x30,_,_,_,rfl,rfl,j7.of gE,o8 (j:=9) rfl,q _ HE DE kE P1 P2⟩
     · obtain ⟨P1,P2⟩:=ab6 (K:=K) (ns:=M0 0 41) e10 (fun h=>by rw[aa6] at h;omega) (by rw[aa6];decide) (fun i hi=>by have:=M2.mp hi;exact ⟨by omega,by omega⟩);exact ⟨x30,_,_,_,rfl,rfl,j7.of gE,o8 (j:=10) rfl,q _ HE DE kE P1 P2⟩
     · obtain ⟨P1,P2⟩:=ab6 (K:=K) (ns:=[0,0,0]) e11 (fun _ t=>by have:=t.nd;simp at this) (by decide) (fun i hi=>by simp only[dw1,ed8,or_false,or_self] at hi;rw[hi];exact ⟨by decide,by decide⟩);exact ⟨x30,_,_,_,rfl,rfl,j7.of gE,o8 (j:=11) rfl,q _ HE DE kE P1 P2⟩
     · obtain ⟨P1,P2⟩:=ab6 (K:=K) (uE _ _ ld) (fun _=>nds) (by omega) bds;exact ⟨x30,_,_,_,rfl,rfl,j7.of gE,o8 (j:=12) rfl,q _ HE DE kE P1 P2⟩
     · obtain ⟨P1,P2⟩:=ab6 (K:=K) (uE _ _ ld) (fun _=>nds) (by omega) bds;exact ⟨x30,_,_,_,rfl,rfl,j7.of gE,o8 (j:=13) rfl,q _ HE DE kE P1 P2⟩
   · refine ⟨_,rfl,a,_,rfl,.inl (j7.of h5),fun l2 n6=> ?_⟩;generalize e_:i8 _ l2 _=H6;obtain ⟨s6,g6⟩:=y6 n6 e_;clear e_;have ng2:l2≠g:=D5.ne n6;have D6:=D5.same s6;have h6:=s6 _ _ h5;have c1:(1:Int) < (p.length:Int):=of_decide_eq_true c1
     have lm:((p.map V.int).length:Int)=(p.length:Int):=by rw[dt3]
     refine ⟨_,rfl,_,rfl,_,_,rfl,rfl,_,rfl,_,rfl,a,_,rfl,.inl (j7.of h6),_,_,rfl,rfl,g,_,rfl,D6,(by rw[lm];omega),fun r2 H7 r20 r21 D7 kb7=> ?_⟩;rw[lm] at r21;have h7:=kb7 _ _ h6 nag;have g7:=kb7 _ _ g6 ng2
     have p0:(0:Int) < ((p.map V.int).length:Int):=by rw[lm];omega
     have m0:=ea8 (at'+1+r2) (show ((p.map V.int).length:Int)≠0 by omega);have m1:=eb1 (at'+1+r2) p0;have k0:=ea8 at' (show ((p.map V.int).length:Int)≠0 by omega);have k1:=eb1 at' p0;refine ⟨_,_,rfl,rfl,_,rfl,a,_,rfl,.inl (j7.of h7),_,_,rfl,rfl,p0,a,_,_,_,rfl,rfl,j7.of h7,af7 (p:=p) m0 (by rw[<-lm];exact m1),?_⟩;refine ⟨_,rfl,_,rfl,_,rfl,a,_,rfl,.inl (j7.of h7),_,_,rfl,rfl,p0,l2,_,_,(at'%((p.map V.int).length:Int)).toNat,rfl,rfl,g7,aw1 k0 k1,?_⟩;rw[<-eb6];obtain ⟨i,hi⟩:∃i,i=(at'%((p.map V.int).length:Int)).toNat:=⟨_,rfl⟩;obtain ⟨j,hj⟩:∃j,j=((at'+1+r2)%((p.map V.int).length:Int)).toNat:=⟨_,rfl⟩
     have ij:i≠j:=by rw[hi,hj,lm];exact de2 c1 r20 r21
     rw[lm] at m1 k1
     have il:i < p.length:=by rw[hi,lm];rw[lm] at k0;omega
     have jl:j < p.length:=by rw[hj,lm];rw[lm] at m0;omega
     rw[<-hi,<-hj]
     have bp:∀x∈p,aq8 x:=fun x hx=>by have a1:=tp.lo x hx;have a2:=tp.hi x hx;exact ⟨by omega,by omega⟩
     refine rest _ _ ⟨l2,p.set i (p.getD j 0),rfl,D7.upd ng2.symm,fun b o hb hn=> ?_,?_,?_,by rw[dx3];exact lp,fun x hx=> ?_,?_⟩
     · have hb':H4 b=some o:=kb04 b o hb hn;rw[j8 (j9 (s5 _ _ hb') n6)];exact kb7 b o (s6 _ _ (s5 _ _ hb')) hn
     · exact ab5 j6 ng2 ng2
     · refine dk1 (i:=i) (j:=j) (by rw[dx3];exact il) (by rw[dx3];exact jl) ij ?_;simp only[dv6,ec6 il,ed3 ij,Option.getD_some]
     · rcases ed2 hx with z|z
       · exact bp x z
       · rw[z,G9 jl];exact bp _ (dx8 jl)
     · refine oi.keep fun b o hb=> ?_
       obtain ⟨e,n,_⟩:=av9 hb;refine ab5 ?_ n n;rw[j8 (j9 (s5 _ _ e) n6)];exact kb7 b o (s6 _ _ (s5 _ _ e)) n
end
end My
namespace L2
open PySem PySem.Spec PyProof.Rows
section
variable {X:Cx} {p pos:Pos} {e:Expr} {t:TA}
def ay5 (H:Hp)(v:V)(t:Str):Prop:=v= .str t\/(v= .non/\t=Str.ofString "None")\/(∃b:Bool,v= .bl b/\t=(if b then (Str.ofString "True") else (Str.ofString "False")))\/(∃i:Int,v= .int i/\i.natAbs.log2 < 1920/\t=Str.ofString (toString i))\/∃a d,v= .ref a/\DaS H v d/\t=d.shown
def cz9:List V->Hp->VK->Prop:=fun xs H Q=>∃v t,xs=[v]/\ay5 H v t/\Q (.str t) H
theorem cr3 (hu:X.A.units+16 < cLine)(hg:X.A.guards=some []):K6 X (.type "str") cz9:=by
 intro pins s σ H xs us Q I r h;obtain ⟨v,t,rfl,h,q⟩:=h;obtain ⟨u,rfl,ru⟩:=P6 r
 rcases h with rfl|⟨rfl,rfl⟩|⟨b,rfl,rfl⟩|⟨i,rfl,hi,rfl⟩|⟨a,d,rfl,⟨hs,sh,le,dp⟩,rfl⟩
 · obtain ⟨k,rfl⟩:=ru;exact P.str_of_str ⟨.str t,H,I,⟨_,rfl⟩,q⟩
 · cases ru;exact P.str_of_none ⟨.str _,H,I.tok _,⟨_,rfl⟩,q⟩
 · cases ru;exact P.str_of_bool ⟨.str _,H,I.tok _,⟨_,rfl⟩,q⟩
 · obtain ⟨k,rfl⟩:=ru;exact P.str_of_int hi ⟨.str _,H,I.tok _,⟨_,rfl⟩,q⟩
 · cases ru;have rd:=hs.rd I rfl
   exact callType_new F.called_str (by decide) (F.typeCall_str_1 _) (F.newCall_str_1 _) (fun obj=>F.args_object_init_2 obj _) F.entry_str_new
     (meets_str_new (S:=fun A' R s'=>A'.guards=some []/\A'.units+(d.depth+2) < cLine/\(∀b o,s.heap.get? b=some o->s'.heap.get? b=some o)/\∀h' u tk,(∀b o,s'.heap.get? b=some o->h'.get? b=some o)->R (.ok (.ret (.str d.shown u))) {s' with heap:=h',toks:=tk})
       fun prog' w' A' R s' h=>by
         obtain ⟨T,idr,S⟩:=X5.by_ (prog:=prog') (w:=w') rd sh le
         exact wpAny_strOf_slot rfl (by show A'.units+1+1 < cLine;have:=h.2.1;omega) (S.typeIs s' h.2.2.1) S.slotStr S.slotRepr (S.call A'.in1.in1 _ s' _ h.1 (by show A'.units+1+1+d.depth < cLine;have:=h.2.1;omega) h.2.2.1 fun h' u tk hk=>⟨_,_,rfl,h.2.2.2 h' u tk hk⟩))
     ⟨hg,by show X.A.units+1+(d.depth+2) < cLine;omega,fun _ _ y=>y,fun h' u tk hk=>⟨typeIs_str _ _ _,⟨.str d.shown,H,I.kept (t':=tk) hk,⟨_,rfl⟩,q⟩⟩⟩
theorem cd5 (hu:X.A.units+16 < cLine)(hg0:X.A.guards=some [])(hm:X.mg "str"=none)(ha:PA X [e] t)(hg:Gl X "str":=by rfl)(he:starEach [e] X.env=(false,eval e X.env)::starEach [] X.env:=by rfl):
 PE X (.Call (.Name "str" p) [e] [] pos) (X4 cz9 t):=Q3 (cr3 hu hg0) hg hm aj5 ha (by decide) (by decide) he rfl
end
end L2
namespace L2
open PySem PySem.Spec PyProof.Rows
section
variable {X:Cx} {pos:Pos} {e:Expr}
def dn7 (te:TE)(ts:TO):TE:=fun σ H Q=>te σ H fun x H1=>ts σ H1 fun o H2=>o=some (-1)/\∃y:Str,x= .str y/\y.length<=sizeLine/\∀z:Str,z.length<=y.length->Q (.str z) H2
theorem de3 {st:Expr}{te:TE}{ts:TO}{p2:Pos}(he:PE X e te)(hst:PO X (some st) ts):PE X (.Subscript e (.Slice none none (some st) p2) pos) (dn7 te ts):=by
 intro pins s σ H Q I h;refine Subscript_ (A3 (he pins s σ H _ I h) fun v s1 ⟨x,H1,I1,r1,q1⟩=> ?_);refine wpAny_Slice ?_;rw[evalPart_none];refine wpAny_pure (wpAny_pure ?_)
 refine A3 (hst pins s1 σ H1 _ I1 q1) fun vk s3 ⟨k,H3,I3,pk,ek,y,ex,hz,q⟩=> ?_
 subst ek ex;obtain ⟨t,rfl⟩:=r1
 have I4:j5 X pins σ H3 {s3 with heap:=s3.heap.push {cls:= .type "slice",data:= .fields #[.none,.none,vk]}}:=I3.kept (t':=s3.toks) fun b ob q=>Heap.get?_push_of_some _ q
 obtain ⟨tk,rfl⟩:∃tk,vk=partValue (some (-1,tk)):=by
   cases pk with
   |int i t=>exact ⟨t,rfl⟩
 show wpAny (model X.prog X.w) X.A (subscriptTail e (.Slice none none (some st) p2) (.str y t) (.ref s3.heap.objs.size)) (EP X pins σ Q) X.xe {s3 with heap:=s3.heap.push {cls:= .type "slice",data:= .fields #[.none,.none,partValue (some (-1,tk))]}};refine tail_any (ops:=[.str y t,.ref s3.heap.objs.size]) (T:="str") (typeIs_str _ _ _) F.slot_str_getitem.lookup ?_ rfl;refine wpAny_getItem_str_slice (l:=none) (u:=none) (st:=some (-1,tk)) (Heap.IsSliceOf.new ..) rfl ?_;unfold sliceMade
 have key:∀z:Str,z=⟨((slicePicked y none none (some (-1,tk))).filterMap (y.cps[·]?)).toArray⟩->z.length<=y.length:=fun z e=>by
   rw[e];show ((slicePicked y none none (some (-1,tk))).filterMap (y.cps[·]?)).toArray.size<=y.length;rw[du2];refine du3 (List.length_filterMap_le _ _) ?_
   exact sliceRange_length_le _ _ _ _ (fun hc=>absurd (show (-1:Int) > 0 from hc) (by decide)) fun _=>⟨Int.le_refl _,Int.le_refl _⟩
 refine post_val_or_str ?_
 split
 · exact ⟨hz,fun t' k'=>⟨.str _,H3,I4.tok k',⟨_,rfl⟩,q _ (dt7 _)⟩⟩
 · exact ⟨du3 (key _ rfl) hz,fun t' k'=>⟨.str _,H3,I4.tok k',⟨_,rfl⟩,q _ (key _ rfl)⟩⟩
theorem cx8 (K:PySem.W.Frag){o:Expr}{to:TE}{t:TA}{apos:Pos}(ho:PE X o to)(ha:PA X [e] t)(hK:X.K=K:=by rfl)
   (hbase:attributeBase o "join" X.env (eval o X.env)=eval o X.env:=by rfl)
   (hfew:((backTo pos (starEach [e] X.env)).all (fun x=> !x.1)&&(backToKw pos (keywordEach [] X.env)).all (fun x=>x.1.isSome)
     &&decide ([e].length+([]:List Keyword).length+(if ([]:List Keyword).isEmpty then 0 else 1) < 30))=true:=by rfl)
   (hline:(apos.endLine==pos.line)=true:=by rfl) (hs:starEach [e] X.env=(false,eval e X.env)::starEach [] X.env:=by rfl) (hplain:(backTo pos (starEach [] X.env)).any (·.1)=false:=by rfl):
   PE X (.Call (.Attribute o "join" apos) [e] [] pos) (tBM K "str" (cf4 K) to t):=by
 subst hK;exact af9 ho ha hbase hfew hline hs hplain
end
end L2
namespace My
open PySem L2 Mth
section
variable {P:Program} {w:World} {K:PySem.W.Frag} {mg:Str->Option Value} {base:Heap}
theorem aw2 {p:List Int}{rs:List (List Int)}(tp:G2 p)(lp:p.length<=41)(up:E8 p p.length rs):rs.length<=41/\∀r∈rs,r≠[]/\r.length<=41/\∀x∈r,0<=x/\x < 41:=by
 have fl:=W1 tp up
 have ll:rs.flatten.length=p.length:=by rw[fl.length_eq,L8]
 refine ⟨by have:=aq3 up;omega,fun r hr=>⟨fun z=> ?_,?_,fun x hx=> ?_⟩⟩
 · obtain ⟨y,L,_,pr,er,_⟩:=up.ring r hr;have:=pr.pos;rw[z] at er;have e2:=congrArg dz3 er;rw[C8] at e2;simp at e2;omega
 · have:=(ed0 hr).length_le;omega
 · have:=M2.mp (fl.mem_iff.mp (dx5.mpr ⟨r,hr,hx⟩));omega
theorem bi9 {sep:Str}{ts:List Str}{B:Nat}(hB:∀y∈ts,y.length<=B):(Txt.join sep ts).length<=ts.length*B+ts.length*sep.length:=by
 have e:(Txt.join sep ts).length=(Str.join sep ts).length:=by
   show (Builtin.Str.glued sep ts).length=_;rw[StrLaws.glued_eq_join]
 have h:=StrLaws.join_length_le sep ts;have s:=StrLaws.sumLen_le (B:=B) ts hB;rw[e];omega
theorem bc5 {i:Int}(h0:0<=i)(h1:i < 100):(B0 i).length<=2:=(T3 ⟨h0,h1,rfl⟩).1
def ch7:Sp:=fun vs H Q _=>∃(a:Addr) (p:List Int),vs=[.ref a]/\bp1 H a p/\∀x H',x.length<=6000->i6 H H'->Q (.str x) H'
theorem X2:y7 ["p","found","one"] ["p"] (o7 ad8):=by rfl'
theorem ar0:(["thing"]:List Str).Nodup:=by decide+kernel
theorem bj0 {f:Addr}{fd:FuncData}(F:E6 K "_law_written" "_law_written" ad8 f fd)(B:Bl mg)(zvx:B7 P w K mg base "_law_rounds" 1 ["p"] ax8):w6 P w K mg base J8 2 f fd ["p"] ch7:=by
 refine F.ok X2 (fun vs H Q E h=> ?_) (fun cdv A outer s H vs Q E hr h=> ?_)
 · obtain ⟨a,p,rfl,tp,q⟩:=h;rfl
 · obtain ⟨a,p,rfl,tp,q⟩:=h;have zrx:A4 1 _:=hr.mono (by decide);refine ⟨_,@i5 _ _ _ _ _ (@m9 _ _ (1) _ _ _ _ X2.nd rfl (Or.inl rfl) (@o6 _ _ _ _) (by rfl) (by trivial)) (@i5 _ _ _ _ _ (@I0 _ _ _ _ _ _ _ _ PassesOwn.never rfl (@E4 _ _ _ _ (@q9 _ _ _ _ _ _ _ _ _ _ zvx zrx (@c9 _ _ _ _ _ (pv 0) (@i4 _) (by rfl)) (by rfl) (by decide) (by rfl) (by rfl))) (@y8 _ _ (2) _ X2.nd rfl (Or.inl rfl) (by trivial)) (@i7 _ _ _ (@m9 _ _ (1) _ _ _ _ X2.nd rfl (Or.inl rfl) (@k7 _ _ _ _ _ _ _ _ A9 (@k7 _ _ _ _ _ _ _ _ A9 (@k7 _ _ _ _ _ _ _ _ A9 (pv 1) (@o6 _ _ _ _)) (@af9 _ _ _ _ _ _ _ (@o6 _ _ _ _) (@c9 _ _ _ _ _ (@U3 _ _ _ _ _ _ _ _ _ _ _ (["thing"]) (1) ([]) rfl .of (@E4 _ _ _ _ (pv 2)) (fun _ _ _ _ _=>@y8 _ _ (0) _ ar0 rfl (Or.inl rfl) (by trivial)) (fun _ _ _ _ _=>(@P0 _)) (fun _ _ _ _ _=>(@am5 _ _ _ _ _ B.str (@c9 _ _ _ _ _ (pv 0) (@i4 _) (by rfl)) (by rfl) (by rfl))) (by intro _;rfl)) (@i4 _) (by rfl)) (by rfl) (by rfl) (by rfl) (by rfl) (by rfl))) (@o6 _ _ _ _)) (by rfl) (by trivial))) (by intro _;rfl)) (@i7 _ _ _ (@o5 _ _ _ _ (@B8 _ _ _ _ _ _ _ y9 (@w4 _ _ _ _ (@c9 _ _ _ _ _ (pv 1) (@c9 _ _ _ _ _ (@o6 _ _ _ _) (@i4 _) (by rfl)) (by rfl))) (@bf9 _ _ _ _ _ B.int (@c9 _ _ _ _ _ (@R0 _ _ _ _ _ _ _ _ E5 (pv 1) (@o6 _ _ _ _) (o4 _)) (@i4 _) (by rfl)) (by rfl) (by rfl)) (fun _ _=>rfl))))),?_⟩;refine ⟨_,rfl,a,p,rfl,tp,fun l as rs H1 hl s1 h1l rows up _ _ _=> ?_⟩;obtain ⟨f1,f2⟩:=aw2 tp.2.1 tp.2.2 up
   have l0:(Str.ofString "").length=0:=by decide+kernel
   have l1:(Str.ofString "(").length=1:=by decide+kernel
   have l2:(Str.ofString ")").length=1:=by decide+kernel
   have l3:(Str.ofString " ").length=1:=by decide+kernel
   refine ⟨l,rfl,⟨_,j7.of h1l⟩,N0 (K:=K) (a:=l) (xs:=as.map V.ref) (fun i σ H2=>∃(v:Option V) (y:Str),σ=[some (.ref a),some (.str y),v]/\y.length<=i*130/\i6 H1 H2) ⟨none,_,rfl,by omega,i6.refl H1⟩ (fun i σ H2 _ zz=>by obtain ⟨_,_,_,_,s⟩:=zz;exact j7.of (s _ _ h1l)) ?_ ?_⟩
   · rintro i x σ H2 hi ⟨v,y,rfl,ly,s2⟩;obtain ⟨b,hb,rfl⟩:=ai8 hi;obtain ⟨r,hr,h1b⟩:=an2 rows hb
     have hil:i < 41:=by have:=(dt9.mp hr).1;omega
     have h2b:=s2 _ _ h1b;obtain ⟨r1,r2,r3⟩:=f2 r (du8 hr);refine ⟨_,rfl,_,_,rfl,rfl,(by rw[l1,sizeLine_eq];omega),rfl,?_⟩;refine ⟨_,rfl,b,rfl,⟨_,j7.of h2b⟩,Q4 (K:=K) (a:=b) (xs:=r.map V.int) (fun i ys σ H3=>∃v:Option V,σ=[v]/\H3=H2/\ys=((r.take i).map B0).map V.str) ⟨none,rfl,rfl,rfl⟩ (fun i ys σ H3 _ zz=>by obtain ⟨_,_,e,_⟩:=zz;rw[e];exact j7.of h2b) ?_ ?_⟩
     · rintro i x ys σ H3 hi ⟨v,rfl,rfl,rfl⟩;obtain ⟨z,hz,rfl⟩:=Q5 hi;have zb:=r3 z (du8 hz);refine ⟨_,rfl,z,rfl,ay4 (by decide) (by omega) (by omega),C4 (by simp only[dt3,du5];omega),_,rfl,rfl,?_⟩;rw[w5 hz,du6,du6];rfl
     · rintro ys σ H3 ⟨v,rfl,rfl,rfl⟩ D hD;rw[dt3,dx2]
       have hB:∀y∈r.map B0,y.length<=2:=fun y hy=>by
         obtain ⟨i,hi,rfl⟩:=dv3.mp hy;exact bc5 (r3 i hi).1 (by have:=(r3 i hi).2;omega)
       have jl:=bi9 (sep:=Str.ofString " ") hB;rw[dt3,l3] at jl;refine ⟨Str.ofString " ",D,r.map B0,rfl,rfl,j7.of j6,ac7 hB (by rw[dt3,l3];omega),?_⟩;refine ⟨_,_,rfl,rfl,(by rw[Str.length_append,l1,sizeLine_eq];omega),_,_,rfl,rfl,(by rw[Str.length_append,Str.length_append,l1,l2,sizeLine_eq];omega),?_⟩;refine ⟨some (.ref b),_,rfl,?_,s2.trans (i6.upd_new hD)⟩;rw[Str.length_append,Str.length_append,Str.length_append,l1,l2];omega
   · rintro σ H2 ⟨v,y,rfl,ly,s2⟩;rw[dt3,rows.1] at ly;refine ⟨_,rfl,(show 2<=sizeLine by decide),fun w hw=> ?_⟩
     by_cases z:y=Str.ofString ""
     · refine ⟨_,rfl,rfl,_,rfl,w,_,_,_,rfl,rfl,j7.of j6,by rw[decide_eq_true (congrArg V.str z)];exact o8 (j:=1) rfl,q _ _ (show (Str.ofString "()").length<=6000 by decide+kernel) ((s1.trans s2).trans (i6.upd_new hw))⟩
     · refine ⟨_,rfl,rfl,_,rfl,w,_,_,_,rfl,rfl,j7.of j6,by rw[decide_eq_false (fun e=>z (V.str.inj e))];exact o8 (j:=0) rfl,q _ _ (by omega) ((s1.trans s2).trans (i6.upd_new hw))⟩
theorem N8 {a b:Str}{m n:Nat}(ha:a.length<=m)(hb:b.length<=n):(a++b).length<=m+n:=by rw[Str.length_append];omega
theorem S3 {a b:Str}{m n:Nat}(ha:a.length<=m)(hb:b.length<=n)(h:m+n<=100000):a.length+b.length<=sizeLine:=by rw[sizeLine_eq];omega
def ch8:Sp:=fun vs H Q _=>∃(x:Str) (g:Addr),vs=[.str x,.ref g]/\x.length<=6000/\A8 H g/\∀y H',y.length<=30000->A8 H' g->r9 g H H'->Q (.str y) H'
def dk2:PyData->Bool| .str t=>decide (t.length<=2000)|_=>false
def U2 (xs:List V):Prop:=∀x∈xs,∃t:Str,x= .str t/\t.length<=2000
theorem U2.app {xs ys:List V}(h1:U2 xs)(h2:U2 ys):U2 (xs++ys):=fun x hx=>(du1.mp hx).elim (h1 x) (h2 x)
theorem U2.at {xs:List V}(h:U2 xs){r:Int}(r0:0<=r)(r1:r < xs.length):∃t:Str,Y0 xs r=some (.str t)/\t.length<=2000:=by
 obtain ⟨j,rfl⟩:=dw4 r0
 have hj:j < xs.length:=by omega
 obtain ⟨t,e,l⟩:=h _ (dx8 hj);exact ⟨t,o8 (by rw[dt5 hj,e]),l⟩
theorem V5 {M:Hp}:∀{xs:List V} {ds:List PyData},ShA M xs ds->ds.all dk2=true->xs.length=ds.length/\U2 xs
 |_,_,.nil,_=>⟨rfl,fun x hx=>by cases hx⟩
 |_,_,.cons (d:=d) h hs,b=>by
  rw[List.all_cons,dy6] at b;obtain ⟨e,r⟩:=V5 hs b.2;refine ⟨by rw[du9,du9,e],fun x hx=> ?_⟩
  rcases dw1.mp hx with z|z
  · rw[z]
    cases h with
    |str t=>exact ⟨t,rfl,of_decide_eq_true b.1⟩
    |_=>cases b.1
  · exact r x z
theorem af2 {ts:List Str}(h:ts.all (fun t=>decide (t.length<=2000))=true):U2 (ts.map V.str):=fun x hx=>by
 obtain ⟨t,ht,rfl⟩:=dv3.mp hx;exact ⟨t,rfl,of_decide_eq_true (ec7.mp h t ht)⟩
theorem X3:y7 ["text","deck","at","sign","way"] ["text","deck"] (o7 ad9):=by rfl'
theorem bj1 {f:Addr}{fd:FuncData}(F:E6 K "_law_changed" "_law_changed" ad9 f fd)(B:Bl mg)(zy:B7 P w K mg base "_law_take" 1 ["deck","many"] ai4):w6 P w K mg base J8 2 f fd ["text","deck"] ch8:=by
 refine F.ok X3 (fun vs H Q E h=> ?_) (fun cdv A outer s H vs Q E hr h=> ?_)
 · obtain ⟨x,g,rfl,lx,hg,q⟩:=h;rfl
 · obtain ⟨x,g,rfl,lx,hg,q⟩:=h;have zyz:A4 1 _:=hr.mono (by decide);refine ⟨_,@i5 _ _ _ _ _ (@m9 _ _ (2) _ _ _ _ X3.nd rfl (Or.inl rfl) (@k7 _ _ _ _ _ _ _ _ T7 (@k7 _ _ _ _ _ _ _ _ J6 (@q9 _ _ _ _ _ _ _ _ _ _ zy zyz (@c9 _ _ _ _ _ (pv 1) (@c9 _ _ _ _ _ (@i9 _ _ _ _) (@i4 _) (by rfl)) (by rfl)) (by rfl) (by decide) (by rfl) (by rfl)) (@k7 _ _ _ _ _ _ _ _ as7 (@i9 _ _ _ _) (@q9 _ _ _ _ _ _ _ _ _ _ zy zyz (@c9 _ _ _ _ _ (pv 1) (@c9 _ _ _ _ _ (@i9 _ _ _ _) (@i4 _) (by rfl)) (by rfl)) (by rfl) (by decide) (by rfl) (by rfl)))) (@k7 _ _ _ _ _ _ _ _ J6 (@N3 _ _ _ _ _ _ _ _ _ as9 (by rfl) B.len PySem.boot_len (@c9 _ _ _ _ _ (pv 0) (@i4 _) (by rfl)) (by decide) (by decide) (by rfl) (by rfl)) (@i9 _ _ _ _))) (by rfl) (by trivial)) (@i5 _ _ _ _ _ (@m9 _ _ (3) _ _ _ _ X3.nd rfl (Or.inl rfl) (@ak4 _ _ _ _ _ _ (@o6 _ _ _ _) (@q9 _ _ _ _ _ _ _ _ _ _ zy zyz (@c9 _ _ _ _ _ (pv 1) (@c9 _ _ _ _ _ (@i9 _ _ _ _) (@i4 _) (by rfl)) (by rfl)) (by rfl) (by decide) (by rfl) (by rfl)) (fun _ _=>rfl)) (by rfl) (by trivial)) (@i5 _ _ _ _ _ (@m9 _ _ (4) _ _ _ _ X3.nd rfl (Or.inl rfl) (@q9 _ _ _ _ _ _ _ _ _ _ zy zyz (@c9 _ _ _ _ _ (pv 1) (@c9 _ _ _ _ _ (@i9 _ _ _ _) (@i4 _) (by rfl)) (by rfl)) (by rfl) (by decide) (by rfl) (by rfl)) (by rfl) (by trivial)) (@i5 _ _ _ _ _ (@w9 _ _ _ _ _ _ _ _ (@m8 _ _ _ _ _ _ _ _ E5 (pv 4) (@i9 _ _ _ _) (o4 _)) (@i7 _ _ _ (@o5 _ _ _ _ (@k7 _ _ _ _ _ _ _ _ A9 (@C2 _ _ _ _ _ _ _ _ _ _ U0 (pv 0) (@E7 _) (@B6 _ _ _ (pv 2))) (@C2 _ _ _ _ _ _ _ _ _ _ U0 (pv 0) (@B6 _ _ _ (@k7 _ _ _ _ _ _ _ _ J6 (pv 2) (@i9 _ _ _ _))) (@E7 _))))) (@o9 _)) (@i5 _ _ _ _ _ (@w9 _ _ _ _ _ _ _ _ (@m8 _ _ _ _ _ _ _ _ aw8 (pv 4) (@i9 _ _ _ _) (o4 _)) (@i7 _ _ _ (@o5 _ _ _ _ (@k7 _ _ _ _ _ _ _ _ A9 (@k7 _ _ _ _ _ _ _ _ A9 (@C2 _ _ _ _ _ _ _ _ _ _ U0 (pv 0) (@E7 _) (@B6 _ _ _ (pv 2))) (pv 3)) (@C2 _ _ _ _ _ _ _ _ _ _ U0 (pv 0) (@B6 _ _ _ (@k7 _ _ _ _ _ _ _ _ as6 (@k7 _ _ _ _ _ _ _ _ J6 (pv 2) (pv 4)) (@i9 _ _ _ _))) (@E7 _))))) (@o9 _)) (@i5 _ _ _ _ _ (@w9 _ _ _ _ _ _ _ _ (@m8 _ _ _ _ _ _ _ _ E5 (pv 4) (@i9 _ _ _ _) (o4 _)) (@i7 _ _ _ (@o5 _ _ _ _ (@k7 _ _ _ _ _ _ _ _ A9 (@k7 _ _ _ _ _ _ _ _ A9 (@C2 _ _ _ _ _ _ _ _ _ _ U0 (pv 0) (@E7 _) (@B6 _ _ _ (pv 2))) (de3 (@C2 _ _ _ _ _ _ _ _ _ _ U0 (pv 0) (@B6 _ _ _ (pv 2)) (@B6 _ _ _ (@k7 _ _ _ _ _ _ _ _ J6 (pv 2) (@i9 _ _ _ _)))) (@B6 _ _ _ (@aw7 _ _ _ _ _ _ al7 (@i9 _ _ _ _))))) (@C2 _ _ _ _ _ _ _ _ _ _ U0 (pv 0) (@B6 _ _ _ (@k7 _ _ _ _ _ _ _ _ J6 (pv 2) (@i9 _ _ _ _))) (@E7 _))))) (@o9 _)) (@i5 _ _ _ _ _ (@w9 _ _ _ _ _ _ _ _ (@m8 _ _ _ _ _ _ _ _ E5 (pv 4) (@i9 _ _ _ _) (o4 _)) (@i7 _ _ _ (@o5 _ _ _ _ (@k7 _ _ _ _ _ _ _ _ A9 (@k7 _ _ _ _ _ _ _ _ A9 (@C2 _ _ _ _ _ _ _ _ _ _ U0 (pv 0) (@E7 _) (@B6 _ _ _ (pv 2))) (@C2 _ _ _ _ _ _ _ _ _ _ U0 (pv 0) (@B6 _ _ _ (pv 2)) (@B6 _ _ _ (@k7 _ _ _ _ _ _ _ _ J6 (pv 2) (@i9 _ _ _ _))))) (@C2 _ _ _ _ _ _ _ _ _ _ U0 (pv 0) (@B6 _ _ _ (pv 2)) (@E7 _))))) (@o9 _)) (@i5 _ _ _ _ _ (@w9 _ _ _ _ _ _ _ _ (@m8 _ _ _ _ _ _ _ _ E5 (pv 4) (@i9 _ _ _ _) (o4 _)) (@i7 _ _ _ (@o5 _ _ _ _ (@k7 _ _ _ _ _ _ _ _ A9 (pv 0) (@B8 _ _ _ _ _ _ _ y9 (@w4 _ _ _ _ (@aa8 _ 9 _ [.str " ",.str "()",.str "(0)",.str ")",.str "(99)",.str "\n",.str "("] (by rfl))) (@q9 _ _ _ _ _ _ _ _ _ _ zy zyz (@c9 _ _ _ _ _ (pv 1) (@c9 _ _ _ _ _ (@i9 _ _ _ _) (@i4 _) (by rfl)) (by rfl)) (by rfl) (by decide) (by rfl) (by rfl)) (fun _ _=>rfl))))) (@o9 _)) (@i7 _ _ _ (@o5 _ _ _ _ (@k7 _ _ _ _ _ _ _ _ A9 (@B8 _ _ _ _ _ _ _ y9 (@w4 _ _ _ _ (@aa8 _ 9 _ [.str " ",.str "()",.str "(0)",.str "(",.str "(1)",.str "\n"] (by rfl))) (@q9 _ _ _ _ _ _ _ _ _ _ zy zyz (@c9 _ _ _ _ _ (pv 1) (@c9 _ _ _ _ _ (@i9 _ _ _ _) (@i4 _) (by rfl)) (by rfl)) (by rfl) (by decide) (by rfl) (by rfl)) (fun _ _=>rfl)) (pv 0))))))))))),?_⟩
   have szx:x.length<=sizeLine:=by rw[sizeLine_eq];omega
   have sl:∀lo hi,(Txt.slice x lo hi).length<=6000:=fun lo hi=>du3 (Txt.slice_le x lo hi) lx
   refine ⟨_,rfl,g,64,rfl,hg,by decide,fun a1 H1 a10 a11 D1 kb1=>⟨_,rfl,g,64,rfl,D1,by decide,fun a2 H2 a20 a21 D2 kb2=> ?_⟩⟩;refine ⟨_,_,rfl,rfl,.inl ⟨by decide,by decide⟩,_,_,rfl,rfl,_,rfl,x,rfl,szx,_,_,rfl,rfl,_,_,rfl,rfl,(by omega),?_⟩;refine ⟨_,rfl,g,23,rfl,D2,by decide,fun i H3 i0 i1 D3 kb3=> ?_⟩;obtain ⟨c,hc⟩:∃c,(Str.ofString " 0123456789(),-+_a[]\n\t.").cps[i.toNat]? =some c:=⟨_,ea5 (by have e:(Str.ofString " 0123456789(),-+_a[]\n\t.").cps.size=23:=(by decide+kernel);omega)⟩;refine ⟨_,i,c,rfl,rfl,i0,by omega,(show i < ((Str.ofString " 0123456789(),-+_a[]\n\t.").length:Int) by rw[show (Str.ofString " 0123456789(),-+_a[]\n\t.").length=23 by decide+kernel];exact i1),hc,?_⟩;refine ⟨_,rfl,g,7,rfl,D3,by decide,fun w H4 w0 w1 D4 kb4=> ?_⟩;have kb:r9 g H H4:=kb1.trans (kb2.trans (kb3.trans kb4));have lc:(⟨#[c]⟩:Str).length=1:=rfl
   have done:∀y:Str,y.length<=30000->Q (.str y) H4:=fun y ly=>q y H4 ly D4 kb
   refine ⟨_,rfl,rfl,_,rfl,K7 (fun _=> ?_) (fun _=> ?_)⟩
   · exact ⟨_,rfl,_,rfl,_,rfl,x,rfl,szx,_,rfl,_,rfl,_,_,rfl,rfl,_,rfl,x,rfl,szx,_,_,rfl,rfl,S3 (sl _ _) (sl _ _) (by decide),done _ (du3 (N8 (sl _ _) (sl _ _)) (by decide))⟩
   refine ⟨_,rfl,_,_,rfl,rfl,_,rfl,K7 (fun _=> ?_) (fun _=> ?_)⟩
   · exact ⟨_,rfl,_,rfl,_,rfl,x,rfl,szx,_,rfl,_,_,rfl,rfl,S3 (sl _ _) (ed9 lc) (by decide),_,rfl,_,rfl,_,rfl,_,_,rfl,rfl,_,_,rfl,rfl,_,rfl,x,rfl,szx,_,_,rfl,rfl,S3 (N8 (sl _ _) (ed9 lc)) (sl _ _) (by decide),done _ (du3 (N8 (N8 (sl _ _) (ed9 lc)) (sl _ _)) (by decide))⟩
   refine ⟨_,rfl,rfl,_,rfl,K7 (fun _=> ?_) (fun _=> ?_)⟩
   · refine ⟨_,rfl,_,rfl,_,rfl,x,rfl,szx,_,rfl,_,rfl,_,rfl,_,rfl,_,_,rfl,rfl,_,rfl,x,rfl,szx,_,rfl,_,rfl,rfl,_,rfl,du3 (Txt.slice_le x _ _) szx,fun z lz=> ?_⟩;have lz:z.length<=6000:=du3 lz (sl _ _);exact ⟨_,_,rfl,rfl,S3 (sl _ _) lz (by decide),_,rfl,_,rfl,_,_,rfl,rfl,_,rfl,x,rfl,szx,_,_,rfl,rfl,S3 (N8 (sl _ _) lz) (sl _ _) (by decide),done _ (du3 (N8 (N8 (sl _ _) lz) (sl _ _)) (by decide))⟩
   refine ⟨_,rfl,rfl,_,rfl,K7 (fun _=> ?_) (fun _=> ?_)⟩
   · exact ⟨_,rfl,_,rfl,_,rfl,x,rfl,szx,_,rfl,_,rfl,_,rfl,_,rfl,_,_,rfl,rfl,_,rfl,x,rfl,szx,_,_,rfl,rfl,S3 (sl _ _) (sl _ _) (by decide),_,rfl,_,rfl,_,rfl,x,rfl,szx,_,_,rfl,rfl,S3 (N8 (sl _ _) (sl _ _)) (sl _ _) (by decide),done _ (du3 (N8 (N8 (sl _ _) (sl _ _)) (sl _ _)) (by decide))⟩
   refine ⟨_,rfl,rfl,_,rfl,K7 (fun _=> ?_) (fun _=> ?_)⟩
   · refine ⟨_,rfl,fun xs H5 s5 sa=> ?_⟩;obtain ⟨ln,sh⟩:=V5 sa (by decide+kernel);refine ⟨by rw[ln];decide,fun l hl=> ?_⟩;generalize e_:i8 _ l _=H6;obtain ⟨s6,g6⟩:=y6 hl e_;have D6:=(D4.same s5).same s6;have ng:l≠g:=(D4.same s5).ne hl;refine ⟨_,rfl,g,7,rfl,D6,by decide,fun r H7 r0 r1 D7 kb7=> ?_⟩;obtain ⟨t,hat,lt⟩:=sh.at r0 (by rw[ln];exact r1);exact ⟨l,_,_,_,rfl,rfl,j7.of (kb7 _ _ g6 ng),hat,_,_,rfl,rfl,S3 lx lt (by decide),q _ H7 (du3 (N8 lx lt) (by decide)) D7 (kb.trans (((s5.trans s6).but g).trans kb7))⟩
   · refine fun xs H5 s5 sa=> ?_
     obtain ⟨ln,sh⟩:=V5 sa (by decide+kernel);refine ⟨by rw[ln];decide,fun l hl=> ?_⟩;generalize e_:i8 _ l _=H6;obtain ⟨s6,g6⟩:=y6 hl e_;have D6:=(D4.same s5).same s6;have ng:l≠g:=(D4.same s5).ne hl;refine ⟨_,rfl,g,6,rfl,D6,by decide,fun r H7 r0 r1 D7 kb7=> ?_⟩;obtain ⟨t,hat,lt⟩:=sh.at r0 (by rw[ln];exact r1);exact ⟨l,_,_,_,rfl,rfl,j7.of (kb7 _ _ g6 ng),hat,_,rfl,_,_,rfl,rfl,S3 lt lx (by decide),q _ H7 (du3 (N8 lt lx) (by decide)) D7 (kb.trans (((s5.trans s6).but g).trans kb7))⟩
def bx0:Sp:=fun vs H Q _=>∃(n:Int),vs=[.int n]/\0<=n/\∀y H',y.length<=30000->i6 H H'->Q (.str y) H'
theorem N5:y7 ["number","some"] ["number"] (o7 au6):=by rfl'
theorem ch9 {f:Addr}{fd:FuncData}(F:E6 K "_law_odd" "_law_odd" au6 f fd)(B:Bl mg):w6 P w K mg base J8 1 f fd ["number"] bx0:=by
 refine F.ok N5 (fun vs H Q E h=> ?_) (fun cdv A outer s H vs Q E hr h=> ?_)
 · obtain ⟨n,rfl,n0,q⟩:=h;rfl
 · obtain ⟨n,rfl,n0,q⟩:=h;refine ⟨_,(@db3 _ _ _ _ _ (@dc0 _ (1) _ _ _ _ _ [""," ","(",")","()","( )","()()","()(0)"] (by decide+kernel) N5.nd rfl (Or.inl rfl) (by rfl) (by trivial)) (@i5 _ _ _ _ _ (@m9 _ _ (1) _ _ _ _ N5.nd rfl (Or.inl rfl) (@k7 _ _ _ _ _ _ _ _ J0 (pv 1) (@w4 _ _ _ _ (@aa8 _ 9 _ [.str "(0)()",.str "(0)",.str "(1)",.str "0",.str "0 1",.str "(0 1)",.str "(1 0)",.str "(0)(1)"] (by rfl)))) (by rfl) (by trivial)) (@i5 _ _ _ _ _ (@m9 _ _ (1) _ _ _ _ N5.nd rfl (Or.inl rfl) (@k7 _ _ _ _ _ _ _ _ J0 (pv 1) (@w4 _ _ _ _ (@aa8 _ 9 _ [.str "(1)(0)",.str "(0) (1)",.str "(0,1)",.str "(0, 1)",.str "(0  1)",.str "( 0 1)"] (by rfl)))) (by rfl) (by trivial)) (@i5 _ _ _ _ _ (@m9 _ _ (1) _ _ _ _ N5.nd rfl (Or.inl rfl) (@k7 _ _ _ _ _ _ _ _ J0 (pv 1) (@w4 _ _ _ _ (@aa8 _ 9 _ [.str "(0 1 )",.str "(00)",.str "(0)(01)",.str "(-0)",.str "(+0)"] (by rfl)))) (by rfl) (by trivial)) (@i5 _ _ _ _ _ (@m9 _ _ (1) _ _ _ _ N5.nd rfl (Or.inl rfl) (@k7 _ _ _ _ _ _ _ _ J0 (pv 1) (@w4 _ _ _ _ (@aa8 _ 9 _ [.str "(0 0)",.str "(0)(0)",.str "(0 2)(1)",.str "(0 2 1)",.str "(0 2)",.str "((0))"] (by rfl)))) (by rfl) (by trivial)) (@i5 _ _ _ _ _ (@m9 _ _ (1) _ _ _ _ N5.nd rfl (Or.inl rfl) (@k7 _ _ _ _ _ _ _ _ J0 (pv 1) (@w4 _ _ _ _ (@aa8 _ 9 _ [.str "(0",.str "0)",.str "[0]",.str "(0)\n",.str "(a)",.str "(0.0)"] (by rfl)))) (by rfl) (by trivial)) (@i5 _ _ _ _ _ (@m9 _ _ (1) _ _ _ _ N5.nd rfl (Or.inl rfl) (@k7 _ _ _ _ _ _ _ _ J0 (pv 1) (@w4 _ _ _ _ (@c9 _ _ _ _ _ (@o6 _ _ _ _) (@c9 _ _ _ _ _ (@o6 _ _ _ _) (@c9 _ _ _ _ _ (@o6 _ _ _ _) (@c9 _ _ _ _ _ (@o6 _ _ _ _) (@i4 _) (by rfl)) (by rfl)) (by rfl)) (by rfl)))) (by rfl) (by trivial)) (@i5 _ _ _ _ _ (@m9 _ _ (1) _ _ _ _ N5.nd rfl (Or.inl rfl) (@k7 _ _ _ _ _ _ _ _ J0 (pv 1) (@w4 _ _ _ _ (@c9 _ _ _ _ _ (@o6 _ _ _ _) (@c9 _ _ _ _ _ (@o6 _ _ _ _) (@c9 _ _ _ _ _ (@o6 _ _ _ _) (@c9 _ _ _ _ _ (@k7 _ _ _ _ _ _ _ _ A9 (@o6 _ _ _ _) (@k7 _ _ _ _ _ _ _ _ an0 (@o6 _ _ _ _) (@i9 _ _ _ _))) (@i4 _) (by rfl)) (by rfl)) (by rfl)) (by rfl)))) (by rfl) (by trivial)) (@i5 _ _ _ _ _ (@m9 _ _ (1) _ _ _ _ N5.nd rfl (Or.inl rfl) (@k7 _ _ _ _ _ _ _ _ J0 (pv 1) (@w4 _ _ _ _ (@c9 _ _ _ _ _ (@k7 _ _ _ _ _ _ _ _ an0 (@o6 _ _ _ _) (@i9 _ _ _ _)) (@c9 _ _ _ _ _ (@k7 _ _ _ _ _ _ _ _ an0 (@o6 _ _ _ _) (@i9 _ _ _ _)) (@c9 _ _ _ _ _ (@k7 _ _ _ _ _ _ _ _ an0 (@o6 _ _ _ _) (@i9 _ _ _ _)) (@c9 _ _ _ _ _ (@k7 _ _ _ _ _ _ _ _ A9 (@k7 _ _ _ _ _ _ _ _ A9 (@o6 _ _ _ _) (@k7 _ _ _ _ _ _ _ _ an0 (@o6 _ _ _ _) (@i9 _ _ _ _))) (@o6 _ _ _ _)) (@i4 _) (by rfl)) (by rfl)) (by rfl)) (by rfl)))) (by rfl) (by trivial)) (@i7 _ _ _ (@o5 _ _ _ _ (@B8 _ _ _ _ _ _ _ y9 (pv 1) (@k7 _ _ _ _ _ _ _ _ T7 (pv 0) (@A6 _ _ _ _ _ B.len (@c9 _ _ _ _ _ (pv 1) (@i4 _) (by rfl)) (by rfl) (by rfl))) (fun _ _=>rfl))))))))))))).h,?_⟩
   refine ⟨by decide,fun l0 n0'=> ?_⟩;generalize e_:i8 _ l0 _=H0;obtain ⟨t0,g0⟩:=y6 n0' e_;clear e_;obtain ⟨x0,ex⟩:∃x0,x0=[Str.ofString "",Str.ofString " ",Str.ofString "(",Str.ofString ")",Str.ofString "()",Str.ofString "( )",Str.ofString "()()",Str.ofString "()(0)"].map V.str:=⟨_,rfl⟩
   have sh0:U2 x0:=by rw[ex];exact af2 (by decide+kernel)
   have c0:x0.length=8:=by rw[ex];rfl
   rw[<-ex] at g0;clear ex;refine ⟨_,rfl,fun xs K0 sK0 sa=> ?_⟩;obtain ⟨d0,hh0⟩:=V5 sa (by decide+kernel)
   replace d0:xs.length=8:=d0
   refine ⟨by rw[d0];decide,fun b0 nb=> ?_⟩;generalize e_:i8 _ b0 _=L0;obtain ⟨sL,f0⟩:=y6 nb e_;clear e_;have u0:=sK0.trans sL;refine ⟨l0,b0,_,_,rfl,rfl,u0 _ _ g0,f0,(by rw[c0,d0,sizeLine_eq];decide),fun l1 n1=> ?_⟩;generalize e_:i8 _ l1 _=H1;obtain ⟨s1,g1⟩:=y6 n1 e_;clear e_;have sh1:=sh0.app hh0
   have c1:(x0++xs).length=16:=by rw[dt4,c0,d0]
   have t1:=t0.trans (u0.trans s1);generalize x0++xs=x1 at g1 sh1 c1;refine ⟨_,rfl,fun xs K1 sK1 sa=> ?_⟩;obtain ⟨d1,hh1⟩:=V5 sa (by decide+kernel)
   replace d1:xs.length=6:=d1
   refine ⟨by rw[d1];decide,fun b1 nb=> ?_⟩;generalize e_:i8 _ b1 _=L1;obtain ⟨sL,f1⟩:=y6 nb e_;clear e_;have u1:=sK1.trans sL;refine ⟨l1,b1,_,_,rfl,rfl,u1 _ _ g1,f1,(by rw[c1,d1,sizeLine_eq];decide),fun l2 n2=> ?_⟩;generalize e_:i8 _ l2 _=H2;obtain ⟨s2,g2⟩:=y6 n2 e_;clear e_;have sh2:=sh1.app hh1
   have c2:(x1++xs).length=22:=by rw[dt4,c1,d1]
   have t2:=t1.trans (u1.trans s2);generalize x1++xs=x2 at g2 sh2 c2;refine ⟨_,rfl,fun xs K2 sK2 sa=> ?_⟩;obtain ⟨d2,hh2⟩:=V5 sa (by decide+kernel)
   replace d2:xs.length=5:=d2
   refine ⟨by rw[d2];decide,fun b2 nb=> ?_⟩;generalize e_:i8 _ b2 _=L2;obtain ⟨sL,f2⟩:=y6 nb e_;clear e_;have u2:=sK2.trans sL;refine ⟨l2,b2,_,_,rfl,rfl,u2 _ _ g2,f2,(by rw[c2,d2,sizeLine_eq];decide),fun l3 n3=> ?_⟩;generalize e_:i8 _ l3 _=H3;obtain ⟨s3,g3⟩:=y6 n3 e_;clear e_;have sh3:=sh2.app hh2
   have c3:(x2++xs).length=27:=by rw[dt4,c2,d2]
   have t3:=t2.trans (u2.trans s3);generalize x2++xs=x3 at g3 sh3 c3;refine ⟨_,rfl,fun xs K3 sK3 sa=> ?_⟩;obtain ⟨d3,hh3⟩:=V5 sa (by decide+kernel)
   replace d3:xs.length=6:=d3
   refine ⟨by rw[d3];decide,fun b3 nb=> ?_⟩;generalize e_:i8 _ b3 _=L3;obtain ⟨sL,f3⟩:=y6 nb e_;clear e_;have u3:=sK3.trans sL;refine ⟨l3,b3,_,_,rfl,rfl,u3 _ _ g3,f3,(by rw[c3,d3,sizeLine_eq];decide),fun l4 n4=> ?_⟩;generalize e_:i8 _ l4 _=H4;obtain ⟨s4,g4⟩:=y6 n4 e_;clear e_;have sh4:=sh3.app hh3
   have c4:(x3++xs).length=33:=by rw[dt4,c3,d3]
   have t4:=t3.trans (u3.trans s4);generalize x3++xs=x4 at g4 sh4 c4;refine ⟨_,rfl,fun xs K4 sK4 sa=> ?_⟩;obtain ⟨d4,hh4⟩:=V5 sa (by decide+kernel)
   replace d4:xs.length=6:=d4
   refine ⟨by rw[d4];decide,fun b4 nb=> ?_⟩;generalize e_:i8 _ b4 _=L4;obtain ⟨sL,f4⟩:=y6 nb e_;clear e_;have u4:=sK4.trans sL;refine ⟨l4,b4,_,_,rfl,rfl,u4 _ _ g4,f4,(by rw[c4,d4,sizeLine_eq];decide),fun l5 n5=> ?_⟩;generalize e_:i8 _ l5 _=H5;obtain ⟨s5,g5⟩:=y6 n5 e_;clear e_;have sh5:=sh4.app hh4
   have c5:(x4++xs).length=39:=by rw[dt4,c4,d4]
   have t5:=t4.trans (u4.trans s5);generalize x4++xs=x5 at g5 sh5 c5;refine ⟨_,rfl,(show 4<=sizeLine by decide),fun b5 nb=> ?_⟩;generalize e_:i8 _ b5 _=L5;obtain ⟨u5,f5⟩:=y6 nb e_;clear e_;obtain ⟨ys,ey⟩:∃ys:List V,ys=[V.str (Str.ofString "(0)(1)(2)(3)(4)(5)(6)(7)(8)(9)(10)"),V.str (Str.ofString "(0 10 1 9 2 8 3 7 4 6 5)"),V.str (Str.ofString "(1_)"),V.str (Str.ofString "(0)(2)")]:=⟨_,rfl⟩
   have f5:L5 b5=some (.lst ys):=by rw[ey];exact f5
   have hh5:U2 ys:=by
     rw[ey];exact af2 (ts:=[Str.ofString "(0)(1)(2)(3)(4)(5)(6)(7)(8)(9)(10)",Str.ofString "(0 10 1 9 2 8 3 7 4 6 5)",Str.ofString "(1_)",Str.ofString "(0)(2)"]) (by decide+kernel)
   have d5:ys.length=4:=by rw[ey];rfl
   clear ey;refine ⟨l5,b5,_,_,rfl,rfl,u5 _ _ g5,f5,(by rw[c5,d5,sizeLine_eq];decide),fun l6 n6=> ?_⟩;generalize e_:i8 _ l6 _=H6;obtain ⟨s6,g6⟩:=y6 n6 e_;clear e_;have sh6:=sh5.app hh5
   have c6:(x5++ys).length=43:=by rw[dt4,c5,d5]
   have t6:=t5.trans (u5.trans s6);generalize x5++ys=x6 at g6 sh6 c6;have m1:(Txt.mul (Str.ofString " ") 300).length<=300:=PyProof.Rows.len_mul_leN (L:=1) (N:=300) (by decide+kernel) (by decide);refine ⟨_,rfl,_,300,rfl,rfl,(by unfold PySem.MulOk;decide+kernel),_,_,rfl,rfl,S3 (m:=3) (by decide+kernel) m1 (by decide),(show 4<=sizeLine by decide),fun b6 nb=> ?_⟩;generalize e_:i8 _ b6 _=L6;obtain ⟨u6,f6⟩:=y6 nb e_;clear e_;obtain ⟨ys,ey⟩:∃ys:List V,ys=[V.str (Str.ofString "(0)(1000)"),V.str (Str.ofString "(12345)"),V.str (Str.ofString "(0 1 2 3 4 5 6 7 8 9 100)"),V.str (Str.ofString "(0)"++Txt.mul (Str.ofString " ") 300)]:=⟨_,rfl⟩
   have f6:L6 b6=some (.lst ys):=by rw[ey];exact f6
   have hh6:U2 ys:=by
     rw[ey]
     exact fun x hx=>by
       rcases du1.mp (show x∈([Str.ofString "(0)(1000)",Str.ofString "(12345)",Str.ofString "(0 1 2 3 4 5 6 7 8 9 100)"].map V.str)++[V.str (Str.ofString "(0)"++Txt.mul (Str.ofString " ") 300)] from hx) with z|z
       · exact af2 (by decide+kernel) x z
       · exact ⟨_,du4.mp z,du3 (N8 (m:=3) (by decide+kernel) m1) (by decide)⟩
   have d6:ys.length=4:=by rw[ey];rfl
   clear ey;refine ⟨l6,b6,_,_,rfl,rfl,u6 _ _ g6,f6,(by rw[c6,d6,sizeLine_eq];decide),fun l7 n7=> ?_⟩;generalize e_:i8 _ l7 _=H7;obtain ⟨s7,g7⟩:=y6 n7 e_;clear e_;have sh7:=sh6.app hh6
   have c7:(x6++ys).length=47:=by rw[dt4,c6,d6]
   have t7:=t6.trans (u6.trans s7);generalize x6++ys=x7 at g7 sh7 c7;have m2:(Txt.mul (Str.ofString "(0)") 200).length<=600:=PyProof.Rows.len_mul_leN (L:=3) (N:=200) (by decide+kernel) (by decide);have m3:(Txt.mul (Str.ofString "(0)") 666).length<=1998:=PyProof.Rows.len_mul_leN (L:=3) (N:=666) (by decide+kernel) (by decide);have m4:(Txt.mul (Str.ofString "(") 2000).length<=2000:=PyProof.Rows.len_mul_leN (L:=1) (N:=2000) (by decide+kernel) (by decide);have m5:(Txt.mul (Str.ofString " 0") 900).length<=1800:=PyProof.Rows.len_mul_leN (L:=2) (N:=900) (by decide+kernel) (by decide)
   have m6:(Str.ofString "(0").length<=2:=by decide+kernel
   have m7:(Str.ofString ")").length<=1:=by decide+kernel
   refine ⟨_,rfl,_,200,rfl,rfl,(by unfold PySem.MulOk;decide+kernel),_,666,rfl,rfl,(by unfold PySem.MulOk;decide+kernel),_,2000,rfl,rfl,(by unfold PySem.MulOk;decide+kernel),_,900,rfl,rfl,(by unfold PySem.MulOk;decide+kernel),_,_,rfl,rfl,S3 m6 m5 (by decide),_,_,rfl,rfl,S3 (N8 m6 m5) m7 (by decide),(show 4<=sizeLine by decide),fun b7 nb=> ?_⟩;generalize e_:i8 _ b7 _=L7;obtain ⟨u7,f7⟩:=y6 nb e_;clear e_;obtain ⟨ys,ey⟩:∃ys:List V,ys=[V.str (Txt.mul (Str.ofString "(0)") 200),V.str (Txt.mul (Str.ofString "(0)") 666),V.str (Txt.mul (Str.ofString "(") 2000),V.str (Str.ofString "(0"++Txt.mul (Str.ofString " 0") 900++Str.ofString ")")]:=⟨_,rfl⟩
   have f7:L7 b7=some (.lst ys):=by rw[ey];exact f7
   have hh7:U2 ys:=by
     rw[ey]
     exact fun x hx=>by
       simp only[dw1,ed8,or_false] at hx
       rcases hx with rfl|rfl|rfl|rfl
       · exact ⟨_,rfl,du3 m2 (by decide)⟩
       · exact ⟨_,rfl,du3 m3 (by decide)⟩
       · exact ⟨_,rfl,m4⟩
       · exact ⟨_,rfl,du3 (N8 (N8 m6 m5) m7) (by decide)⟩
   have d7:ys.length=4:=by rw[ey];rfl
   clear ey;refine ⟨l7,b7,_,_,rfl,rfl,u7 _ _ g7,f7,(by rw[c7,d7,sizeLine_eq];decide),fun l8 n8=> ?_⟩;generalize e_:i8 _ l8 _=H8;obtain ⟨s8,g8⟩:=y6 n8 e_;clear e_;have sh8:=sh7.app hh7
   have c8:(x7++ys).length=51:=by rw[dt4,c7,d7]
   have t8:=t7.trans (u7.trans s8);generalize x7++ys=x8 at g8 sh8 c8
   have p0:(0:Int) < (x8.length:Int):=by rw[c8];decide
   obtain ⟨y,hat,ly⟩:=sh8.at (ea8 n (by omega)) (eb1 n p0);exact ⟨_,rfl,_,rfl,_,rfl,l8,_,rfl,.inl (j7.of g8),_,_,rfl,rfl,p0,l8,_,_,_,rfl,rfl,j7.of g8,hat,q y _ (by omega) t8⟩
end
end My
namespace My
open PySem L2 Mth
section
variable {P:Program} {w:World} {K:PySem.W.Frag} {mg:Str->Option Value} {base:Heap}
def V6 (H:Hp)(g b:Addr)(m c:Nat):Prop:=b≠g/\∃ts:List Str,H b=some (.lst (ts.map V.str))/\1<=ts.length/\ts.length<=m/\∀t∈ts,t.length<=c
theorem V6.keep {H H':Hp}{g b:Addr}{m c:Nat}(h:V6 H g b m c)(k:r9 g H H'):V6 H' g b m c:=let ⟨n,ts,e,r⟩:=h;⟨n,ts,k _ _ e n,r⟩
theorem V6.wk {H:Hp}{g b:Addr}(h:V6 H g b 41 2):V6 H g b 83 3:=let ⟨n,ts,e,r1,r2,r3⟩:=h;⟨n,ts,e,r1,by omega,fun t ht=>eb4 (r3 t ht)⟩
theorem V6.ne {H:Hp}{g b ro:Addr}{m c:Nat}{as:List Addr}(h:V6 H g b m c)(hr:H ro=some (.lst (as.map V.ref))):b≠ro:=fun z=>by
 obtain ⟨_,ts,e,r1,_⟩:=h;rw[z,hr] at e
 injection e with e
 injection e with e
 cases ts with
 |nil=>simp at r1
 |cons t ts=>
  cases as with
  |nil=>cases e
  |cons a as=>rw[dv7,dv7] at e;injection e with e _;cases e
theorem V6.put {H:Hp}{g b x:Addr}{m c:Nat}{o:HO}(h:V6 H g b m c)(n:b≠x):V6 (i8 H x o) g b m c:=let ⟨ng,ts,e,r⟩:=h;⟨ng,ts,by rw[j8 n];exact e,r⟩
structure V7 (H:Hp)(g ro:Addr)(as:List Addr)(m c:Nat):Prop where
 l:H ro=some (.lst (as.map V.ref))
 ng:ro≠g
 ln:as.length<=42
 tx:∀b∈as,V6 H g b m c
theorem V7.keep {H H':Hp}{g ro:Addr}{as:List Addr}{m c:Nat}(h:V7 H g ro as m c)(k:r9 g H H'):V7 H' g ro as m c:=⟨k _ _ h.l h.ng,h.ng,h.ln,fun b hb=>(h.tx b hb).keep k⟩
theorem V7.put {H:Hp}{g ro:Addr}{as as':List Addr}{m c:Nat}(h:H ro=some (.lst (as.map V.ref)))(ng:ro≠g)(ln:as'.length<=42)(tx:∀b∈as',V6 H g b m c):V7 (i8 H ro (.lst (as'.map V.ref))) g ro as' m c:=
 ⟨j6,ng,ln,fun b hb=>(tx b hb).put ((tx b hb).ne h)⟩
theorem Y8 {a b:TS}{D:ad1}{σ:St}{H:Hp}(G:St->Hp->Prop)(rest:∀σ' H',G σ' H'->b D σ' H')(h:(∀σ' H',G σ' H'->b D σ' H')->a {D with nx:=b D} σ H):cr6 a b D σ H:=h rest
theorem cd6 {as:List Addr}{r:Int}(r0:0<=r)(r1:r < (as.length:Int)):∃b∈as,Y0 (as.map V.ref) r=some (.ref b):=by
 obtain ⟨j,rfl⟩:=dw4 r0
 have hj:j < as.length:=by omega
 exact ⟨as[j],dx8 hj,o8 (by rw[du7,dt5 hj];rfl)⟩
theorem de4 {ts:List Str}{r:Int}(r0:0<=r)(r1:r < (ts.length:Int)):∃t∈ts,Y0 (ts.map V.str) r=some (.str t):=by
 obtain ⟨j,rfl⟩:=dw4 r0
 have hj:j < ts.length:=by omega
 exact ⟨ts[j],dx8 hj,o8 (by rw[du7,dt5 hj];rfl)⟩
theorem V7.new {H H':Hp}{g x:Addr}{bs as':List Addr}(tx:∀b∈bs,V6 H g b 83 3)(s:i6 H H')(l:H' x=some (.lst (as'.map V.ref)))(ng:x≠g)(ln:as'.length<=42)(sub:∀b∈as',b∈bs):V7 H' g x as' 83 3:=⟨l,ng,ln,fun b hb=>(tx b (sub b hb)).keep (s.but g)⟩
theorem aw3 {H:Hp}{g x:Addr}{as:List Addr}{m c i:Nat}(tx:∀b∈as,V6 H g b m c)(hx:V6 H g x m c):∀b∈as.set i x,V6 H g b m c:=fun b hb=>by
 rcases ed2 hb with z|z
 · exact tx b z
 · rw[z];exact hx
theorem V7.row {H:Hp}{g ro b1:Addr}{as:List Addr}{ts':List Str}(R:V7 H g ro as 83 3)(mb:b1∈as)(l1:1<=ts'.length)(l2:ts'.length<=83)(l3:∀t∈ts',t.length<=3):V7 (i8 H b1 (.lst (ts'.map V.str))) g ro as 83 3:=by
 have n1:=(R.tx b1 mb).ne R.l;refine ⟨by rw[j8 n1.symm];exact R.l,R.ng,R.ln,fun b hb=> ?_⟩
 by_cases z:b=b1
 · rw[z];exact ⟨(R.tx b1 mb).1,ts',j6,l1,l2,l3⟩
 · exact (R.tx b hb).put z
theorem bf5:∀{l:List Addr} {k:Nat},(l.map V.ref).eraseIdx k=(l.eraseIdx k).map V.ref
 |[],k=>by simp
 |a::l,0=>by simp
 |a::l,k+1=>by simp [bf5 (l:=l) (k:=k)]
def bx1:Sp:=fun vs H Q _=>∃(a g:Addr) (p:List Int),vs=[.ref a,.ref g]/\bp1 H a p/\A8 H g/\a≠g/\∀y H',y.length<=30000->A8 H' g->r9 g H H'->Q (.str y) H'
theorem C1:y7 ["p","deck","rounds","one","other","at","way","kept"] ["p","deck"] (o7 T2):=by rfl'
theorem af3:(["one"]:List Str).Nodup:=by decide+kernel
theorem ad0:(["thing"]:List Str).Nodup:=by decide+kernel
theorem af4:(["row"]:List Str).Nodup:=by decide+kernel
theorem an5 {f:Addr}{fd:FuncData}(F:E6 K "_law_rounds_changed" "_law_rounds_changed" T2 f fd)(B:Bl mg)(zvx:B7 P w K mg base "_law_rounds" 1 ["p"] ax8)(zy:B7 P w K mg base "_law_take" 1 ["deck","many"] ai4):w6 P w K mg base J8 2 f fd ["p","deck"] bx1:=by
 refine F.ok C1 (fun vs H Q E h=> ?_) (fun cdv A outer s H vs Q E hr h=> ?_)
 · obtain ⟨a,g,p,rfl,tp,hg,nag,q⟩:=h;rfl
 · obtain ⟨a,g,p,rfl,tp,hg,nag,q⟩:=h;have zrx:A4 1 _:=hr.mono (by decide);have zyz:A4 1 _:=hr.mono (by decide);have hu:=ae5 hr;have hu2:_+1+1 < cLine:=ea1 (ec2 (by decide:2<=64) _) hr.units;refine ⟨_,@i5 _ _ _ _ _ (@ca4 _ (2) _ _ _ _ _ _ _ _ _ _ _ _ _ (["one"]) (1) ([]) C1.nd rfl (Or.inl rfl) rfl .of (@E4 _ _ _ _ (@q9 _ _ _ _ _ _ _ _ _ _ zvx zrx (@c9 _ _ _ _ _ (pv 0) (@i4 _) (by rfl)) (by rfl) (by decide) (by rfl) (by rfl))) (fun _ _ _ _ _=>@y8 _ _ (0) _ af3 rfl (Or.inl rfl) (by trivial)) (fun _ _ _ _ _=>(@P0 _)) (fun _ _ _ _ _=>(@U3 _ _ _ _ _ _ _ _ _ _ _ (["thing"]) (1) ([]) rfl .of (cv8 K (pv 0)) (fun _ _ _ _ _=>@y8 _ _ (0) _ ad0 rfl (Or.inl rfl) (by trivial)) (fun _ _ _ _ _=>(@P0 _)) (fun _ _ _ _ _=>(@am5 _ _ _ _ _ B.str (@c9 _ _ _ _ _ (pv 0) (@i4 _) (by rfl)) (by rfl) (by rfl))) (by intro _;rfl))) (by rfl) (by intro _;rfl) (by trivial)) (@i5 _ _ _ _ _ (@w9 _ _ _ _ _ _ _ _ (@m8 _ _ _ _ _ _ _ _ (at5 1 hu2) (pv 2) (@w4 _ _ _ _ (@i4 _)) (o4 _)) (@i7 _ _ _ (@o5 _ _ _ _ (@B8 _ _ _ _ _ _ _ y9 (@w4 _ _ _ _ (@c9 _ _ _ _ _ (@o6 _ _ _ _) (@c9 _ _ _ _ _ (@o6 _ _ _ _) (@c9 _ _ _ _ _ (@o6 _ _ _ _) (@c9 _ _ _ _ _ (@o6 _ _ _ _) (@i4 _) (by rfl)) (by rfl)) (by rfl)) (by rfl))) (@q9 _ _ _ _ _ _ _ _ _ _ zy zyz (@c9 _ _ _ _ _ (pv 1) (@c9 _ _ _ _ _ (@i9 _ _ _ _) (@i4 _) (by rfl)) (by rfl)) (by rfl) (by decide) (by rfl) (by rfl)) (fun _ _=>rfl)))) (@o9 _)) (@i5 _ _ _ _ _ (@m9 _ _ (3) _ _ _ _ C1.nd rfl (Or.inl rfl) (@q9 _ _ _ _ _ _ _ _ _ _ zy zyz (@c9 _ _ _ _ _ (pv 1) (@c9 _ _ _ _ _ (@A6 _ _ _ _ _ B.len (@c9 _ _ _ _ _ (pv 2) (@i4 _) (by rfl)) (by rfl) (by rfl)) (@i4 _) (by rfl)) (by rfl)) (by rfl) (by decide) (by rfl) (by rfl)) (by rfl) (by trivial)) (@i5 _ _ _ _ _ (@m9 _ _ (4) _ _ _ _ C1.nd rfl (Or.inl rfl) (@q9 _ _ _ _ _ _ _ _ _ _ zy zyz (@c9 _ _ _ _ _ (pv 1) (@c9 _ _ _ _ _ (@A6 _ _ _ _ _ B.len (@c9 _ _ _ _ _ (pv 2) (@i4 _) (by rfl)) (by rfl) (by rfl)) (@i4 _) (by rfl)) (by rfl)) (by rfl) (by decide) (by rfl) (by rfl)) (by rfl) (by trivial)) (@i5 _ _ _ _ _ (@m9 _ _ (5) _ _ _ _ C1.nd rfl (Or.inl rfl) (@q9 _ _ _ _ _ _ _ _ _ _ zy zyz (@c9 _ _ _ _ _ (pv 1) (@c9 _ _ _ _ _ (@A6 _ _ _ _ _ B.len (@c9 _ _ _ _ _ (@B8 _ _ _ _ _ _ _ y9 (pv 2) (pv 3) (fun _ _=>rfl)) (@i4 _) (by rfl)) (by rfl) (by rfl)) (@i4 _) (by rfl)) (by rfl)) (by rfl) (by decide) (by rfl) (by rfl)) (by rfl) (by trivial)) (@i5 _ _ _ _ _ (@m9 _ _ (6) _ _ _ _ C1.nd rfl (Or.inl rfl) (@q9 _ _ _ _ _ _ _ _ _ _ zy zyz (@c9 _ _ _ _ _ (pv 1) (@c9 _ _ _ _ _ (@i9 _ _ _ _) (@i4 _) (by rfl)) (by rfl)) (by rfl) (by decide) (by rfl) (by rfl)) (by rfl) (by trivial)) (@i5 _ _ _ _ _ (@w9 _ _ _ _ _ _ _ _ (@m8 _ _ _ _ _ _ _ _ E5 (pv 6) (@i9 _ _ _ _) (o4 _)) (@i7 _ _ _ (@m9 _ _ (2) _ _ _ _ C1.nd rfl (Or.inl rfl) (@k7 _ _ _ _ _ _ _ _ J0 (@C2 _ _ _ _ _ _ _ _ _ _ O8 (pv 2) (@E7 _) (@B6 _ _ _ (pv 3))) (@C2 _ _ _ _ _ _ _ _ _ _ O8 (pv 2) (@B6 _ _ _ (@k7 _ _ _ _ _ _ _ _ J6 (pv 3) (@i9 _ _ _ _))) (@E7 _))) (by rfl) (by trivial))) (@i7 _ _ _ (@w9 _ _ _ _ _ _ _ _ (@m8 _ _ _ _ _ _ _ _ E5 (pv 6) (@i9 _ _ _ _) (o4 _)) (@i7 _ _ _ (@m9 _ _ (2) _ _ _ _ C1.nd rfl (Or.inl rfl) (@k7 _ _ _ _ _ _ _ _ J0 (@k7 _ _ _ _ _ _ _ _ J0 (@C2 _ _ _ _ _ _ _ _ _ _ O8 (pv 2) (@E7 _) (@B6 _ _ _ (pv 3))) (@w4 _ _ _ _ (@c9 _ _ _ _ _ (@B8 _ _ _ _ _ _ _ y9 (pv 2) (pv 4) (fun _ _=>rfl)) (@i4 _) (by rfl)))) (@C2 _ _ _ _ _ _ _ _ _ _ O8 (pv 2) (@B6 _ _ _ (pv 3)) (@E7 _))) (by rfl) (by trivial))) (@i7 _ _ _ (@w9 _ _ _ _ _ _ _ _ (@m8 _ _ _ _ _ _ _ _ E5 (pv 6) (@i9 _ _ _ _) (o4 _)) (@i7 _ _ _ (@Q2 _ _ _ _ _ _ (@k7 _ _ _ _ _ _ _ _ J0 (@C2 _ _ _ _ _ _ _ _ _ _ O8 (@B8 _ _ _ _ _ _ _ y9 (pv 2) (pv 3) (fun _ _=>rfl)) (@B6 _ _ _ (pv 5)) (@E7 _)) (@C2 _ _ _ _ _ _ _ _ _ _ O8 (@B8 _ _ _ _ _ _ _ y9 (pv 2) (pv 3) (fun _ _=>rfl)) (@E7 _) (@B6 _ _ _ (pv 5)))) (@T5 _ _ _ _ _ _ _ (pv 2) (pv 3) O2 (by intro _;rfl)) (by rfl) (by rfl) (by rfl))) (@i7 _ _ _ (@w9 _ _ _ _ _ _ _ _ (@m8 _ _ _ _ _ _ _ _ E5 (pv 6) (@i9 _ _ _ _) (o4 _)) (@i5 _ _ _ _ _ (@m9 _ _ (7) _ _ _ _ C1.nd rfl (Or.inl rfl) (@B8 _ _ _ _ _ _ _ y9 (pv 2) (pv 3) (fun _ _=>rfl)) (by rfl) (by trivial)) (@i5 _ _ _ _ _ (@Q2 _ _ _ _ _ _ (@B8 _ _ _ _ _ _ _ y9 (pv 2) (pv 4) (fun _ _=>rfl)) (@T5 _ _ _ _ _ _ _ (pv 2) (pv 3) O2 (by intro _;rfl)) (by rfl) (by rfl) (by rfl)) (@i7 _ _ _ (@Q2 _ _ _ _ _ _ (pv 7) (@T5 _ _ _ _ _ _ _ (pv 2) (pv 4) O2 (by intro _;rfl)) (by rfl) (by rfl) (by rfl))))) (@i7 _ _ _ (@w9 _ _ _ _ _ _ _ _ (@as4 _ _ _ _ _ _ _ (@m8 _ _ _ _ _ _ _ _ E5 (pv 6) (@i9 _ _ _ _) (o4 _)) (@al5 _ _ _ _ (@m8 _ _ _ _ _ _ _ _ U7 (pv 3) (pv 4) (o4 _)))).pt (@i5 _ _ _ _ _ (@Q2 _ _ _ _ _ _ (@k7 _ _ _ _ _ _ _ _ J0 (@B8 _ _ _ _ _ _ _ y9 (pv 2) (pv 3) (fun _ _=>rfl)) (@B8 _ _ _ _ _ _ _ y9 (pv 2) (pv 4) (fun _ _=>rfl))) (@T5 _ _ _ _ _ _ _ (pv 2) (pv 3) O2 (by intro _;rfl)) (by rfl) (by rfl) (by rfl)) (@i7 _ _ _ (@O0 _ _ _ _ (@ct4 _ _ _ _ _ _ _ (pv 2) (@c9 _ _ _ _ _ (pv 4) (@i4 _) (by rfl)) (by rfl) (by rfl) (by rfl) (by rfl) (by rfl)) (by rfl)))) (@i7 _ _ _ (@w9 _ _ _ _ _ _ _ _ (@m8 _ _ _ _ _ _ _ _ E5 (pv 6) (@i9 _ _ _ _) (o4 _)) (@i7 _ _ _ (@Q2 _ _ _ _ _ _ (@am5 _ _ _ _ _ B.str (@c9 _ _ _ _ _ (@B8 _ _ _ _ _ _ _ y9 (@w4 _ _ _ _ (@c9 _ _ _ _ _ (@i9 _ _ _ _) (@c9 _ _ _ _ _ (@A6 _ _ _ _ _ B.len (@c9 _ _ _ _ _ (pv 0) (@i4 _) (by rfl)) (by rfl) (by rfl)) (@c9 _ _ _ _ _ (@k7 _ _ _ _ _ _ _ _ J6 (@A6 _ _ _ _ _ B.len (@c9 _ _ _ _ _ (pv 0) (@i4 _) (by rfl)) (by rfl) (by rfl)) (@i9 _ _ _ _)) (@c9 _ _ _ _ _ (@i9 _ _ _ _) (@c9 _ _ _ _ _ (@i9 _ _ _ _) (@i4 _) (by rfl)) (by rfl)) (by rfl)) (by rfl)) (by rfl))) (@q9 _ _ _ _ _ _ _ _ _ _ zy zyz (@c9 _ _ _ _ _ (pv 1) (@c9 _ _ _ _ _ (@i9 _ _ _ _) (@i4 _) (by rfl)) (by rfl)) (by rfl) (by decide) (by rfl) (by rfl)) (fun _ _=>rfl)) (@i4 _) (by rfl)) (by rfl) (by rfl)) (@T5 _ _ _ _ _ _ _ (@B8 _ _ _ _ _ _ _ y9 (pv 2) (pv 3) (fun _ _=>rfl)) (pv 5) O2 (by intro _;rfl)) (by rfl) (by rfl) (by rfl))) (@i7 _ _ _ (@w9 _ _ _ _ _ _ _ _ (@m8 _ _ _ _ _ _ _ _ E5 (pv 6) (@i9 _ _ _ _) (o4 _)) (@i7 _ _ _ (@Q2 _ _ _ _ _ _ (@k7 _ _ _ _ _ _ _ _ A9 (@o6 _ _ _ _) (@B8 _ _ _ _ _ _ _ y9 (@B8 _ _ _ _ _ _ _ y9 (pv 2) (pv 3) (fun _ _=>rfl)) (pv 5) (fun _ _=>rfl))) (@T5 _ _ _ _ _ _ _ (@B8 _ _ _ _ _ _ _ y9 (pv 2) (pv 3) (fun _ _=>rfl)) (pv 5) O2 (by intro _;rfl)) (by rfl) (by rfl) (by rfl))) (@i7 _ _ _ (@Q2 _ _ _ _ _ _ (@k7 _ _ _ _ _ _ _ _ J0 (@C2 _ _ _ _ _ _ _ _ _ _ O8 (@B8 _ _ _ _ _ _ _ y9 (pv 2) (pv 3) (fun _ _=>rfl)) (@E7 _) (@B6 _ _ _ (@k7 _ _ _ _ _ _ _ _ J6 (pv 5) (@i9 _ _ _ _)))) (@C2 _ _ _ _ _ _ _ _ _ _ O8 (@B8 _ _ _ _ _ _ _ y9 (pv 2) (pv 3) (fun _ _=>rfl)) (@B6 _ _ _ (pv 5)) (@E7 _))) (@T5 _ _ _ _ _ _ _ (pv 2) (pv 3) O2 (by intro _;rfl)) (by rfl) (by rfl) (by rfl)))))))))))))))) (@i7 _ _ _ (@o5 _ _ _ _ (@af9 _ _ _ _ _ _ _ (@o6 _ _ _ _) (@c9 _ _ _ _ _ (@U3 _ _ _ _ _ _ _ _ _ _ _ (["row"]) (1) ([]) rfl .of (@E4 _ _ _ _ (pv 2)) (fun _ _ _ _ _=>@y8 _ _ (0) _ af4 rfl (Or.inl rfl) (by trivial)) (fun _ _ _ _ _=>(@P0 _)) (fun _ _ _ _ _=>(@k7 _ _ _ _ _ _ _ _ A9 (@k7 _ _ _ _ _ _ _ _ A9 (@o6 _ _ _ _) (cx8 K (@o6 _ _ _ _) (@c9 _ _ _ _ _ (pv 0) (@i4 _) (by rfl)))) (@o6 _ _ _ _))) (by intro _;rfl)) (@i4 _) (by rfl)) (by rfl) (by rfl) (by rfl) (by rfl) (by rfl)))))))))),?_⟩
   refine ⟨_,rfl,a,p,rfl,tp,fun l as rs H1 hl s1 h1l rows up _ _ _=> ?_⟩;obtain ⟨f1,f2⟩:=aw2 tp.2.1 tp.2.2 up;have D1:=hg.same s1;refine ⟨l,rfl,⟨_,j7.of h1l⟩,Q4 (K:=K) (a:=l) (xs:=as.map V.ref) (fun i ys σ H2=>∃(v:Option V) (bs:List Addr),σ=[v]/\ys=bs.map V.ref/\i6 H1 H2/\bs.length=i/\∀b∈bs,H1 b=none/\V6 H2 g b 41 2) ⟨none,[],rfl,rfl,i6.refl H1,rfl,(fun b hb=>by cases hb)⟩ (fun i ys σ H2 _ zz=>by obtain ⟨_,_,_,_,s,_⟩:=zz;exact j7.of (s _ _ h1l)) ?_ ?_⟩
   · rintro i x ys σ H2 hi ⟨v,bs,rfl,rfl,s2,lb,tx⟩;obtain ⟨b,hb,rfl⟩:=ai8 hi;obtain ⟨r,hr,h1b⟩:=an2 rows hb
     have il:i < 41:=by have:=(dt9.mp hr).1;omega
     have h2b:=s2 _ _ h1b;obtain ⟨r1,r2,r3⟩:=f2 r (du8 hr);refine ⟨_,rfl,b,rfl,⟨_,j7.of h2b⟩,Q4 (K:=K) (a:=b) (xs:=r.map V.int) (fun i ys σ H3=>∃v:Option V,σ=[v]/\H3=H2/\ys=((r.take i).map B0).map V.str) ⟨none,rfl,rfl,rfl⟩ (fun i ys σ H3 _ zz=>by obtain ⟨_,_,e,_⟩:=zz;rw[e];exact j7.of h2b) ?_ ?_⟩
     · rintro i x ys σ H3 hi ⟨v,rfl,rfl,rfl⟩;obtain ⟨z,hz,rfl⟩:=Q5 hi;have zb:=r3 z (du8 hz);refine ⟨_,rfl,z,rfl,ay4 (by decide) (by omega) (by omega),C4 (by simp only[dt3,du5];omega),_,rfl,rfl,?_⟩;rw[w5 hz,du6,du6];rfl
     · rintro ys σ H3 ⟨v,rfl,rfl,rfl⟩ D hD;rw[show (r.map V.int).length=r.length from dt3 _,dx2];generalize e_:i8 _ D _=H4;obtain ⟨s4,g4⟩:=y6 hD e_;clear e_;have ngD:D≠g:=(D1.same s2).ne hD;refine ⟨C4 (by rw[dt3];omega),_,bs++[D],rfl,by rw[du6];rfl,s2.trans s4,by rw[dt4,lb];rfl,fun c hc=> ?_⟩
       rcases du1.mp hc with z|z
       · exact ⟨(tx c z).1,(tx c z).2.keep (s4.but g)⟩
       · rw[du4.mp z];refine ⟨s2.free hD,ngD,r.map B0,g4,?_,by rw[dt3];exact r2,fun t ht=> ?_⟩
         · rw[dt3];exact ec3.mpr r1
         · obtain ⟨i,hi,rfl⟩:=dv3.mp ht;exact bc5 (r3 i hi).1 (by have:=(r3 i hi).2;omega)
   · rintro ys σ H2 ⟨v,bs,rfl,rfl,s2,lb,tx⟩ ro hro;generalize e_:i8 _ ro _=H3;obtain ⟨s3,g3⟩:=y6 hro e_;clear e_;have D2:=D1.same s2;have ngr:ro≠g:=D2.ne hro;have D3:=D2.same s3;rw[dt3] at lb
     have lb41:bs.length<=41:=by rw[lb,rows.1];exact f1
     have s03:=s1.trans (s2.trans s3);have hro0:H ro=none:=(s1.trans s2).free hro
     have fr:∀b∈bs,H b=none:=fun b hb=>s1.free (tx b hb).1
     have R3:V7 H3 g ro bs 41 2:=⟨g3,ngr,by omega,fun b hb=>(tx b hb).2.keep (s3.but g)⟩;have h3a:=s03 _ _ tp.1;refine ⟨_,rfl,dv5 _,fun e he=> ?_⟩;generalize e_:i8 _ e _=H4;obtain ⟨s4,g4⟩:=y6 he e_;clear e_;have D4:=D3.same s4;have R4:=R3.keep (s4.but g);refine ⟨ro,e,_,_,_,rfl,rfl,j7.of R4.l,j7.of g4,aa5 _ _ _ _,_,rfl,?_⟩
     by_cases bn:bs=[]
     · subst bn;refine A5 ⟨(show 4<=sizeLine by decide),fun l5 n5=> ?_⟩;generalize e_:i8 _ l5 _=H5;obtain ⟨s5,g5⟩:=y6 n5 e_;clear e_;have D5:=D4.same s5;have ng5:l5≠g:=D4.ne n5;refine ⟨_,rfl,g,4,rfl,D5,by decide,fun r H6 r0 r1 D6 kb6=> ?_⟩;obtain ⟨t,hat,lt⟩:=(af2 (ts:=[Str.ofString "",Str.ofString "( )",Str.ofString "(0 1)",Str.ofString "()()"]) (by decide+kernel)).at r0 (show r < ((4:Nat):Int) from r1);exact ⟨l5,_,_,_,rfl,rfl,j7.of (kb6 _ _ g5 ng5),hat,q t H6 (by omega) D6 (((s03.trans (s4.trans s5)).but g).trans kb6)⟩
     rw[show (bs.map V.ref).isEmpty=false by rw[ef1];intro z;exact bn (List.map_eq_nil_iff.mp z)];refine B9 ?_;have b0:0 < bs.length:=ec3.mpr bn
     have lm:((bs.map V.ref).length:Int)=(bs.length:Int):=by rw[dt3]
     refine ⟨_,rfl,_,rfl,ro,_,rfl,.inl (j7.of R4.l),g,_,rfl,D4,(by rw[lm];omega),fun o1 H5 o10 o11 D5 kb5=> ?_⟩;have R5:=R4.keep kb5;refine ⟨_,rfl,_,rfl,ro,_,rfl,.inl (j7.of R5.l),g,_,rfl,D5,(by rw[lm];omega),fun o2 H6 o20 o21 D6 kb6=> ?_⟩;have R6:=R5.keep kb6;rw[lm] at o11 o21;obtain ⟨b1,m1,at1⟩:=cd6 o10 o11;obtain ⟨b2,m2,at2⟩:=cd6 o20 o21;obtain ⟨ng1,ts,h6,ts1,ts2,ts3⟩:=R6.tx b1 m1;refine ⟨_,rfl,_,rfl,_,rfl,ro,_,_,_,rfl,rfl,j7.of R6.l,at1,b1,_,rfl,.inl (j7.of h6),g,_,rfl,D6,(by rw[dt3];omega),fun at' H7 G5 at1' D7 kb7=> ?_⟩;rw[dt3] at at1';refine ⟨_,rfl,g,8,rfl,D7,by decide,fun w H8 w0 w1 D8 kb8=> ?_⟩;have R8:=R6.keep (kb7.trans kb8);have h8:=(kb7.trans kb8) _ _ h6 ng1;have kb:r9 g H H8:=((s03.trans s4).but g).trans (kb5.trans (kb6.trans (kb7.trans kb8)));have h8a:H8 a=some (.lst (p.map V.int)):=kb _ _ tp.1 nag
     dsimp only[aw6]
     refine Y8 (fun σ' H'=>∃(ro':Addr) (as':List Addr) (v3 v4 v5 v6 v7:Option V),σ'=[some (.ref a),some (.ref g),some (.ref ro'),v3,v4,v5,v6,v7]/\V7 H' g ro' as' 83 3/\A8 H' g/\r9 g H H') ?_ (fun rest=> ?_)
     · rintro σ' H9 ⟨ro',as',v3,v4,v5,v6,v7,rfl,R9,D9,kb9⟩;refine ⟨rfl,_,rfl,ro',rfl,⟨_,j7.of R9.l⟩,Q4 (K:=K) (a:=ro') (xs:=as'.map V.ref) (fun i ys σ H2=>∃(v:Option V) (zs:List Str),σ=[v]/\H2=H9/\ys=zs.map V.str/\zs.length=i/\∀z∈zs,z.length<=340) ⟨none,[],rfl,rfl,rfl,rfl,(fun z hz=>by cases hz)⟩ (fun i ys σ H2 _ zz=>by obtain ⟨_,_,_,e,_⟩:=zz;rw[e];exact j7.of R9.l) ?_ ?_⟩
       · rintro i x ys σ H2 hi ⟨v,zs,rfl,rfl,rfl,lz,hz⟩;obtain ⟨b,hb,rfl⟩:=ai8 hi;obtain ⟨_,ts,hb2,t1,t2,t3⟩:=R9.tx b (du8 hb);have il:=(dt9.mp hb).1;have lna:=R9.ln
         have l1:(Str.ofString "(").length=1:=by decide+kernel
         have l2:(Str.ofString ")").length=1:=by decide+kernel
         have l3:(Str.ofString " ").length=1:=by decide+kernel
         have jl:=bi9 (sep:=Str.ofString " ") t3;rw[l3] at jl;refine ⟨rfl,_,rfl,Str.ofString " ",b,ts,rfl,rfl,j7.of hb2,ac7 t3 (by rw[l3];omega),?_⟩;refine ⟨_,_,rfl,rfl,(by rw[l1,sizeLine_eq];omega),_,_,rfl,rfl,(by rw[Str.length_append,l1,l2,sizeLine_eq];omega),C4 (by rw[dt3];omega),_,zs++[_],rfl,rfl,by rw[du6];rfl,by rw[dt4,lz];rfl,fun z hz2=> ?_⟩
         rcases du1.mp hz2 with y|y
         · exact hz z y
         · rw[du4.mp y,Str.length_append,Str.length_append,l1,l2];omega
       · rintro ys σ H2 ⟨v,zs,rfl,rfl,rfl,lz,hz⟩ D hD;rw[dt3] at lz;have lna:=R9.ln
         have l0:(Str.ofString "").length=0:=by decide+kernel
         have jl:=bi9 (sep:=Str.ofString "") hz;rw[l0] at jl;have ngD:D≠g:=D9.ne hD;exact ⟨Str.ofString "",D,zs,rfl,rfl,j7.of j6,ac7 hz (by rw[l0];omega),q _ _ (by omega) (D9.upd ngD.symm) (kb9.trans ((i6.upd_new hD).but g))⟩
     · have tx8:∀b∈bs,V6 H8 g b 83 3:=fun b hb=>(R8.tx b hb).wk
       have S8:V7 H8 g ro bs 83 3:=⟨R8.l,R8.ng,R8.ln,tx8⟩
       have ol:o1<=((bs.map V.ref).length:Int):=by rw[lm];omega
       have ix1:U9 (bs.map V.ref).length o1=some o1.toNat:=aw1 o10 (by rw[lm];exact o11)
       have al:at'<=((ts.map V.str).length:Int):=by rw[dt3];omega
       have ixa:U9 (ts.map V.str).length at'=some at'.toNat:=aw1 G5 (by rw[dt3];exact at1');obtain ⟨ng2,ts',h8',ts1',ts2',ts3'⟩:=R8.tx b2 m2;refine ⟨_,rfl,rfl,_,rfl,K7 (fun _=> ?_) (fun _=> ?_)⟩
       · refine ⟨_,rfl,_,rfl,_,rfl,ro,_,rfl,j7.of R8.l,fun x9 n9=> ?_⟩;generalize e_:i8 _ x9 _=H9;obtain ⟨s9,g9⟩:=y6 n9 e_;clear e_;rw[an4 o10 ol] at g9;refine ⟨_,rfl,_,rfl,_,_,rfl,rfl,_,rfl,ro,_,rfl,j7.of (s9 _ _ R8.l),fun x10 n10=> ?_⟩;generalize e_:i8 _ x10 _=H10;obtain ⟨s10,g10⟩:=y6 n10 e_;clear e_;rw[V4 (by omega)] at g10;refine ⟨x9,x10,_,_,rfl,rfl,s10 _ _ g9,g10,(by simp only[dt4,dt3,du9,dz2,du5,dv1,sizeLine_eq];omega),fun x11 n11=> ?_⟩;generalize e_:i8 _ x11 _=H11;obtain ⟨s11,g11⟩:=y6 n11 e_;clear e_;have ss:=s9.trans (s10.trans s11);exact rest _ _ ⟨x11,bs.take o1.toNat++bs.drop (o1+1).toNat,_,_,_,_,_,rfl,.new tx8 ss (by rw[g11,du6,ei1,eg7]) ((D8.same (s9.trans s10)).ne n11) (by rw[dt4,du5,dv1];omega) (fun b hb=>(du1.mp hb).elim dz0 dy9),D8.same ss,kb.trans (ss.but g)⟩
       refine ⟨_,rfl,rfl,_,rfl,K7 (fun _=> ?_) (fun _=> ?_)⟩
       · refine ⟨_,rfl,_,rfl,_,rfl,ro,_,rfl,j7.of R8.l,fun x9 n9=> ?_⟩;generalize e_:i8 _ x9 _=H9;obtain ⟨s9,g9⟩:=y6 n9 e_;clear e_;rw[an4 o10 ol] at g9;refine ⟨_,rfl,_,rfl,ro,_,_,_,rfl,rfl,j7.of (s9 _ _ R8.l),at2,(show 1<=sizeLine by decide),fun x10 n10=> ?_⟩;generalize e_:i8 _ x10 _=H10;obtain ⟨s10,g10⟩:=y6 n10 e_;clear e_;refine ⟨x9,x10,_,_,rfl,rfl,s10 _ _ g9,g10,(by simp only[dt4,dt3,du9,dz2,du5,dv1,sizeLine_eq];omega),fun x11 n11=> ?_⟩;generalize e_:i8 _ x11 _=H11;obtain ⟨s11,g11⟩:=y6 n11 e_;clear e_;refine ⟨_,rfl,_,rfl,_,rfl,ro,_,rfl,j7.of (s11 _ _ (s10 _ _ (s9 _ _ R8.l))),fun x12 n12=> ?_⟩;generalize e_:i8 _ x12 _=H12;obtain ⟨s12,g12⟩:=y6 n12 e_;clear e_;rw[V4 (by omega)] at g12;refine ⟨x11,x12,_,_,rfl,rfl,s12 _ _ g11,g12,(by simp only[dt4,dt3,du9,dz2,du5,dv1,sizeLine_eq];omega),fun x13 n13=> ?_⟩;generalize e_:i8 _ x13 _=H13;obtain ⟨s13,g13⟩:=y6 n13 e_;clear e_;have ss:=s9.trans (s10.trans (s11.trans (s12.trans s13)));refine rest _ _ ⟨x13,bs.take o1.toNat++[b2]++bs.drop o1.toNat,_,_,_,_,_,rfl,.new tx8 ss (by rw[g13,du6,du6,ei1,eg7];rfl) ((D8.same (s9.trans (s10.trans (s11.trans s12)))).ne n13) (by rw[dt4,dt4,du5,dv1,dy4];omega) (fun b hb=> ?_),D8.same ss,kb.trans (ss.but g)⟩
         rcases du1.mp hb with z|z
         · rcases du1.mp z with z|z
           · exact dz0 z
           · rw[du4.mp z];exact m2
         · exact dy9 z
       refine ⟨_,rfl,rfl,_,rfl,K7 (fun _=> ?_) (fun _=> ?_)⟩
       · refine ⟨_,rfl,_,rfl,ro,_,_,_,rfl,rfl,j7.of R8.l,at1,_,rfl,_,rfl,b1,_,rfl,j7.of h8,fun x9 n9=> ?_⟩;generalize e_:i8 _ x9 _=H9;obtain ⟨s9,g9⟩:=y6 n9 e_;clear e_;rw[V4 G5] at g9;refine ⟨_,rfl,_,rfl,ro,_,_,_,rfl,rfl,j7.of (s9 _ _ R8.l),at1,_,rfl,_,rfl,b1,_,rfl,j7.of (s9 _ _ h8),fun x10 n10=> ?_⟩;generalize e_:i8 _ x10 _=H10;obtain ⟨s10,g10⟩:=y6 n10 e_;clear e_;rw[an4 G5 al] at g10;refine ⟨x9,x10,_,_,rfl,rfl,s10 _ _ g9,g10,(by simp only[dt4,dt3,du9,dz2,du5,dv1,sizeLine_eq];omega),fun x11 n11=> ?_⟩;generalize e_:i8 _ x11 _=H11;obtain ⟨s11,g11⟩:=y6 n11 e_;clear e_;have ss:=s9.trans (s10.trans s11);have ngx:x11≠g:=(D8.same (s9.trans s10)).ne n11;have l11:=ss _ _ R8.l;have tn:V6 H11 g x11 83 3:=⟨ngx,ts.drop at'.toNat++ts.take at'.toNat,by rw[g11,du6,ei1,eg7],by rw[dt4,du5,dv1];omega,by rw[dt4,du5,dv1];omega,fun t ht=>eb4 (ts3 t ((du1.mp ht).elim dy9 dz0))⟩;refine ⟨_,rfl,_,rfl,ro,_,_,o1.toNat,rfl,rfl,l11,ix1,?_⟩;rw[<-eb6];exact rest _ _ ⟨ro,bs.set o1.toNat x11,_,_,_,_,_,rfl,V7.put l11 ngr (by rw[dx3];omega) (aw3 (fun b hb=>(tx8 b hb).keep (ss.but g)) tn),(D8.same ss).upd ngr.symm,(kb.trans (ss.but g)).upd_r hro0⟩
       refine ⟨_,rfl,rfl,_,rfl,K7 (fun _=> ?_) (fun _=> ?_)⟩
       · refine ⟨_,rfl,_,rfl,ro,_,_,_,rfl,rfl,j7.of R8.l,at1,?_⟩;refine ⟨_,rfl,_,rfl,ro,_,_,_,rfl,rfl,j7.of R8.l,at2,_,rfl,_,rfl,ro,_,_,o1.toNat,rfl,rfl,R8.l,ix1,?_⟩;rw[<-eb6];have R9:V7 (i8 H8 ro (.lst ((bs.set o1.toNat b2).map V.ref))) g ro (bs.set o1.toNat b2) 83 3:=V7.put R8.l ngr (by rw[dx3];omega) (aw3 tx8 (tx8 b2 m2));have T9:V6 (i8 H8 ro (.lst ((bs.set o1.toNat b2).map V.ref))) g b1 83 3:=(tx8 b1 m1).put ((tx8 b1 m1).ne R8.l);have D9:A8 (i8 H8 ro (.lst ((bs.set o1.toNat b2).map V.ref))) g:=D8.upd ngr.symm;have k9:r9 g H (i8 H8 ro (.lst ((bs.set o1.toNat b2).map V.ref))):=kb.upd_r hro0;generalize (i8 H8 ro (.lst ((bs.set o1.toNat b2).map V.ref)))=H9 at R9 T9 D9 k9 ⊢;refine ⟨_,rfl,_,rfl,_,rfl,ro,_,_,o2.toNat,rfl,rfl,R9.l,aw1 o20 (by rw[dt3,dx3];exact o21),?_⟩;rw[<-eb6];exact rest _ _ ⟨ro,(bs.set o1.toNat b2).set o2.toNat b1,_,_,_,_,_,rfl,V7.put R9.l ngr (by rw[dx3,dx3];omega) (aw3 R9.tx T9),D9.upd ngr.symm,k9.upd_r hro0⟩
       refine ⟨_,rfl,rfl,_,rfl,?_⟩
       by_cases c4:w=4
       rw[decide_eq_true (congrArg V.int c4)];refine A5 ⟨_,rfl,_,rfl,rfl,_,rfl,?_⟩
       by_cases c5:o1=o2
       refine Q9 (congrArg V.int c5) ?_
       rotate_left
       · rw[decide_eq_false (fun z=>c5 (V.int.inj z))];refine A5 ?_;refine ⟨_,rfl,_,rfl,ro,_,_,_,rfl,rfl,j7.of R8.l,at1,_,rfl,_,rfl,ro,_,_,_,rfl,rfl,j7.of R8.l,at2,b1,b2,_,_,rfl,rfl,h8,h8',(by simp only[dt4,dt3,du9,dz2,du5,dv1,sizeLine_eq];omega),fun x9 n9=> ?_⟩;generalize e_:i8 _ x9 _=H9;obtain ⟨s9,g9⟩:=y6 n9 e_;clear e_;have ngx:x9≠g:=D8.ne n9;have l9:=s9 _ _ R8.l;have tn:V6 H9 g x9 83 3:=⟨ngx,ts++ts',by rw[g9,du6],by rw[dt4];omega,by rw[dt4];omega,fun t ht=>eb4 ((du1.mp ht).elim (ts3 t) (ts3' t))⟩;refine ⟨_,rfl,_,rfl,ro,_,_,o1.toNat,rfl,rfl,l9,ix1,?_⟩;rw[<-eb6];have R10:V7 (i8 H9 ro (.lst ((bs.set o1.toNat x9).map V.ref))) g ro (bs.set o1.toNat x9) 83 3:=V7.put l9 ngr (by rw[dx3];omega) (aw3 (fun b hb=>(tx8 b hb).keep (s9.but g)) tn);have D10:A8 (i8 H9 ro (.lst ((bs.set o1.toNat x9).map V.ref))) g:=(D8.same s9).upd ngr.symm;have k10:r9 g H (i8 H9 ro (.lst ((bs.set o1.toNat x9).map V.ref))):=(kb.trans (s9.but g)).upd_r hro0;generalize (i8 H9 ro (.lst ((bs.set o1.toNat x9).map V.ref)))=H10 at R10 D10 k10 ⊢;have ix2:U9 ((bs.set o1.toNat x9).map V.ref).length o2=some o2.toNat:=aw1 o20 (by rw[dt3,dx3];exact o21)
         have lo2:o2.toNat < (bs.set o1.toNat x9).length:=by rw[dx3];omega
         refine ⟨_,rfl,.inl ⟨rfl,_,j7.of R10.l⟩,_,rfl,ro,_,_,o2.toNat,.ref (bs.set o1.toNat x9)[o2.toNat],rfl,rfl,R10.l,by omega,by omega,(ax1 ix2).1,by rw[du7,dt5 lo2];rfl,?_⟩;rw[bf5];exact rest _ _ ⟨ro,(bs.set o1.toNat x9).eraseIdx o2.toNat,_,_,_,_,_,rfl,V7.put R10.l ngr (du3 (List.length_eraseIdx_le _ _) R10.ln) (fun b hb=>R10.tx b (List.mem_of_mem_eraseIdx hb)),D10.upd ngr.symm,k10.upd_r hro0⟩
       rw[decide_eq_false (fun z=>c4 (V.int.inj z))];refine B9 (B9 ?_)
       all_goals
         refine ⟨_,rfl,rfl,_,rfl,K7 (fun _=> ?_) (fun _=> ?_)⟩
         · refine ⟨_,rfl,a,_,rfl,.inl (j7.of h8a),_,rfl,a,_,rfl,.inl (j7.of h8a),_,_,rfl,rfl,(show 5<=sizeLine by decide),fun x9 n9=> ?_⟩;generalize e_:i8 _ x9 _=H9;obtain ⟨s9,g9⟩:=y6 n9 e_;clear e_;have ng9:x9≠g:=D8.ne n9;refine ⟨_,rfl,g,5,rfl,D8.same s9,by decide,fun r H10 r0 r1 D10 kb10=> ?_⟩;have lpi:=tp.2.2
           obtain ⟨i,hat,i0,i1⟩:∃i:Int,Y0 [V.int 0,V.int ((p.map V.int).length:Int),V.int (((p.map V.int).length:Int)+1),V.int 40,V.int 41] r=some (.int i)/\0<=i/\i < 100:=by
             rw[dt3]
             have:r=0\/r=1\/r=2\/r=3\/r=4:=by omega
             rcases this with rfl|rfl|rfl|rfl|rfl
             · exact ⟨_,o8 (j:=0) rfl,by decide,by decide⟩
             · exact ⟨_,o8 (j:=1) rfl,by omega,by omega⟩
             · exact ⟨_,o8 (j:=2) rfl,by omega,by omega⟩
             · exact ⟨_,o8 (j:=3) rfl,by decide,by decide⟩
             · exact ⟨_,o8 (j:=4) rfl,by decide,by decide⟩
           have k8:=(s9.but g).trans kb10;have S10:=S8.keep k8;refine ⟨x9,_,_,_,rfl,rfl,j7.of (kb10 _ _ g9 ng9),hat,i,rfl,ay4 (by decide) (by omega) (by omega),?_⟩;refine ⟨_,rfl,_,rfl,ro,_,_,_,rfl,rfl,j7.of S10.l,at1,_,rfl,b1,_,_,at'.toNat,rfl,rfl,k8 _ _ h8 ng1,ixa,?_⟩;rw[<-eb6];refine rest _ _ ⟨ro,bs,_,_,_,_,_,rfl,V7.row S10 m1 (by rw[dx3];exact ts1) (by rw[dx3];omega) (fun t ht=> ?_),D10.upd ng1.symm,(kb.trans k8).upd_r (fr b1 m1)⟩
           rcases ed2 ht with z|z
           · exact eb4 (ts3 t z)
           · rw[z];exact eb4 (bc5 i0 i1)
         refine ⟨_,rfl,rfl,_,rfl,K7 (fun _=> ?_) (fun _=> ?_)⟩
         · obtain ⟨u,mu,hat⟩:=de4 G5 at1'
           have l0:(Str.ofString "0").length<=1:=by decide+kernel
           refine ⟨_,rfl,_,rfl,ro,_,_,_,rfl,rfl,j7.of R8.l,at1,_,rfl,b1,_,_,_,rfl,rfl,j7.of h8,hat,_,_,rfl,rfl,S3 l0 (ts3 u mu) (by decide),?_⟩;refine ⟨_,rfl,_,rfl,ro,_,_,_,rfl,rfl,j7.of R8.l,at1,_,rfl,b1,_,_,at'.toNat,rfl,rfl,h8,ixa,?_⟩;rw[<-eb6];refine rest _ _ ⟨ro,bs,_,_,_,_,_,rfl,V7.row S8 m1 (by rw[dx3];exact ts1) (by rw[dx3];omega) (fun t ht=> ?_),D8.upd ng1.symm,kb.upd_r (fr b1 m1)⟩
           rcases ed2 ht with z|z
           · exact eb4 (ts3 t z)
           · rw[z];exact N8 l0 (ts3 u mu)
         refine ⟨_,rfl,_,rfl,ro,_,_,_,rfl,rfl,j7.of R8.l,at1,_,rfl,_,_,rfl,rfl,_,rfl,b1,_,rfl,j7.of h8,fun x9 n9=> ?_⟩;generalize e_:i8 _ x9 _=H9;obtain ⟨s9,g9⟩:=y6 n9 e_;clear e_;rw[an4 (by omega) (by rw[dt3];omega)] at g9;refine ⟨_,rfl,_,rfl,ro,_,_,_,rfl,rfl,j7.of (s9 _ _ R8.l),at1,_,rfl,_,rfl,b1,_,rfl,j7.of (s9 _ _ h8),fun x10 n10=> ?_⟩;generalize e_:i8 _ x10 _=H10;obtain ⟨s10,g10⟩:=y6 n10 e_;clear e_;rw[V4 G5] at g10;refine ⟨x9,x10,_,_,rfl,rfl,s10 _ _ g9,g10,(by simp only[dt4,dt3,du9,dz2,du5,dv1,sizeLine_eq];omega),fun x11 n11=> ?_⟩;generalize e_:i8 _ x11 _=H11;obtain ⟨s11,g11⟩:=y6 n11 e_;clear e_;have ss:=s9.trans (s10.trans s11);have ngx:x11≠g:=(D8.same (s9.trans s10)).ne n11;have l11:=ss _ _ R8.l;have tn:V6 H11 g x11 83 3:=⟨ngx,ts.take (at'+1).toNat++ts.drop at'.toNat,by rw[g11,du6,ei1,eg7],by rw[dt4,du5,dv1];omega,by rw[dt4,du5,dv1];omega,fun t ht=>eb4 (ts3 t ((du1.mp ht).elim dz0 dy9))⟩;refine ⟨_,rfl,_,rfl,ro,_,_,o1.toNat,rfl,rfl,l11,ix1,?_⟩;rw[<-eb6];exact rest _ _ ⟨ro,bs.set o1.toNat x11,_,_,_,_,_,rfl,V7.put l11 ngr (by rw[dx3];omega) (aw3 (fun b hb=>(tx8 b hb).keep (ss.but g)) tn),(D8.same ss).upd ngr.symm,(kb.trans (ss.but g)).upd_r hro0⟩
end
end My
namespace My
open PySem L2 Mth
section
variable {P:Program} {w:World} {K:PySem.W.Frag} {mg:Str->Option Value} {base:Heap}
theorem bo4 (K:PySem.W.Frag):PySem.W.kitOne K (.type "int") (.type "tuple")=some false:=M3 K (by decide+kernel) (by decide+kernel) (by decide+kernel)
theorem bx2 (K:PySem.W.Frag):PySem.W.kitOne K (.type "NoneType") (.type "str")=some false:=M3 K (by decide+kernel) (by decide+kernel) (by decide+kernel)
theorem aj2 (K:PySem.W.Frag):PySem.W.kitOne K (.type "list") (.type "str")=some false:=M3 K (by decide+kernel) (by decide+kernel) (by decide+kernel)
theorem bx3 (K:PySem.W.Frag):PySem.W.kitOne K (.type "bool") (.type "str")=some false:=M3 K (by decide+kernel) (by decide+kernel) (by decide+kernel)
theorem bx4 (K:PySem.W.Frag):PySem.W.kitOne K (.type "dict") (.type "str")=some false:=M3 K (by decide+kernel) (by decide+kernel) (by decide+kernel)
theorem ar8 (K:PySem.W.Frag):PySem.W.kitOne K (.type "tuple") (.type "str")=some false:=M3 K (by decide+kernel) (by decide+kernel) (by decide+kernel)
theorem al4 (K:PySem.W.Frag):PySem.W.kitOne K (.type "int") (.type "str")=some false:=M3 K (by decide+kernel) (by decide+kernel) (by decide+kernel)
theorem ab7 (K:PySem.W.Frag):PySem.W.kitOne K (.type "list") (.type "tuple")=some false:=M3 K (by decide+kernel) (by decide+kernel) (by decide+kernel)
def ar1:Sp:=fun vs H Q _=>∃(i:Int),vs=[.int i,.int i]/\∀H',i6 H H'->Q (.bl true) H'
theorem aw4:y7 ["found","due"] ["found","due"] (o7 ac2):=by rfl'
theorem V8:(["k","found","due"]:List Str).Nodup:=by decide+kernel
theorem aw5 {f:Addr}{fd:FuncData}(F:E6 K "_law_alike" "_law_alike" ac2 f fd)(B:Bl mg):w6 P w K mg base J8 1 f fd ["found","due"] ar1:=by
 refine F.ok aw4 (fun vs H Q E h=> ?_) (fun cdv A outer s H vs Q E hr h=> ?_)
 · obtain ⟨i,rfl,q⟩:=h;rfl
 · obtain ⟨i,rfl,q⟩:=h;have hu:=ae5 hr;refine ⟨_,@i5 _ _ _ _ _ (@w9 _ _ _ _ _ _ _ _ (@m8 _ _ _ _ _ _ _ _ al8 (pv 1) (@G4 _ _ _) (o4 _)) (@i7 _ _ _ (@o5 _ _ _ _ (@R0 _ _ _ _ _ _ _ _ al8 (pv 0) (@G4 _ _ _) (o4 _)))) (@o9 _)) (@i5 _ _ _ _ _ (@w9 _ _ _ _ _ _ _ _ (@M7 _ _ _ _ _ _ _ (@C6 _ _ _ (@C7 _ _ _ _ _ _ B.isi (@c9 _ _ _ _ _ (pv 1) (@c9 _ _ _ _ _ (@W2 _ _ B.tuple (by rfl)) (@i4 _) (by rfl)) (by rfl)) (by rfl) (by rfl) (by rfl)) (by intro _;rfl)) (@Q1 _ _ _ _ (@C6 _ _ _ (@C7 _ _ _ _ _ _ B.isi (@c9 _ _ _ _ _ (pv 1) (@c9 _ _ _ _ _ (@M4 _ _ B.list (by rfl)) (@i4 _) (by rfl)) (by rfl)) (by rfl) (by rfl) (by rfl)) (by intro _;rfl)))).pt (@i5 _ _ _ _ _ (@w9 _ _ _ _ _ _ _ _ (@M7 _ _ _ _ _ _ _ (@m8 _ _ _ _ _ _ _ _ U7 (@C7 _ _ _ _ _ _ B.isi (@c9 _ _ _ _ _ (pv 0) (@c9 _ _ _ _ _ (@W2 _ _ B.tuple (by rfl)) (@i4 _) (by rfl)) (by rfl)) (by rfl) (by rfl) (by rfl)) (@C7 _ _ _ _ _ _ B.isi (@c9 _ _ _ _ _ (pv 1) (@c9 _ _ _ _ _ (@W2 _ _ B.tuple (by rfl)) (@i4 _) (by rfl)) (by rfl)) (by rfl) (by rfl) (by rfl)) (o4 _)) (@Q1 _ _ _ _ (@m8 _ _ _ _ _ _ _ _ U7 (@C7 _ _ _ _ _ _ B.isi (@c9 _ _ _ _ _ (pv 0) (@c9 _ _ _ _ _ (@M4 _ _ B.list (by rfl)) (@i4 _) (by rfl)) (by rfl)) (by rfl) (by rfl) (by rfl)) (@C7 _ _ _ _ _ _ B.isi (@c9 _ _ _ _ _ (pv 1) (@c9 _ _ _ _ _ (@M4 _ _ B.list (by rfl)) (@i4 _) (by rfl)) (by rfl)) (by rfl) (by rfl) (by rfl)) (o4 _)))).pt (@i7 _ _ _ (@o5 _ _ _ _ (@G1 _ _ _ _))) (@o9 _)) (@i5 _ _ _ _ _ (@w9 _ _ _ _ _ _ _ _ (@m8 _ _ _ _ _ _ _ _ U7 (@A6 _ _ _ _ _ B.len (@c9 _ _ _ _ _ (pv 0) (@i4 _) (by rfl)) (by rfl) (by rfl)) (@A6 _ _ _ _ _ B.len (@c9 _ _ _ _ _ (pv 1) (@i4 _) (by rfl)) (by rfl) (by rfl)) (o4 _)) (@i7 _ _ _ (@o5 _ _ _ _ (@G1 _ _ _ _))) (@o9 _)) (@i7 _ _ _ (@o5 _ _ _ _ (@R0 _ _ _ _ _ _ _ _ (at5 0 hu) (@U3 _ _ _ _ _ _ _ _ _ _ _ (["k","found","due"]) (1) ([0,1]) rfl .of (@N6 _ _ _ _ _ _ (by rfl) B.range (@c9 _ _ _ _ _ (@A6 _ _ _ _ _ B.len (@c9 _ _ _ _ _ (pv 1) (@i4 _) (by rfl)) (by rfl) (by rfl)) (@i4 _) (by rfl)) (by rfl)) (fun _ _ _ _ _=>@y8 _ _ (0) _ V8 rfl (Or.inl rfl) (by trivial)) (fun _ _ _ _ _=>@ba2 _ _ _ (@J5 _ _ _ _ (@C6 _ _ _ (@cu1 _ _) (by intro _;rfl)))) (fun _ _ _ _ _=>(pv 0)) (by intro _;rfl)) (@w4 _ _ _ _ (@i4 _)) (o4 _)))))) (@o9 _)) (@i5 _ _ _ _ _ (@w9 _ _ _ _ _ _ _ _ (@C6 _ _ _ (@C7 _ _ _ _ _ _ B.isi (@c9 _ _ _ _ _ (pv 1) (@c9 _ _ _ _ _ (@ah1 _ _ B.str (by rfl)) (@i4 _) (by rfl)) (by rfl)) (by rfl) (by rfl) (by rfl)) (by intro _;rfl)) (@i7 _ _ _ (@o5 _ _ _ _ (@Z1 _ _ _ _ _ _ _ (@C7 _ _ _ _ _ _ B.isi (@c9 _ _ _ _ _ (pv 0) (@c9 _ _ _ _ _ (@ah1 _ _ B.str (by rfl)) (@i4 _) (by rfl)) (by rfl)) (by rfl) (by rfl) (by rfl)) (@al6 _ _ _ _ _ (@R0 _ _ _ _ _ _ _ _ E5 (pv 0) (pv 1) (o4 _)))))) (@o9 _)) (@i7 _ _ _ (@o5 _ _ _ _ (@Z1 _ _ _ _ _ _ _ (@C7 _ _ _ _ _ _ B.isi (@c9 _ _ _ _ _ (pv 0) (@c9 _ _ _ _ _ (@ba4 _ _ B.int (by rfl)) (@i4 _) (by rfl)) (by rfl)) (by rfl) (by rfl) (by rfl)) (@Z1 _ _ _ _ _ _ _ (@bp6 _ _ _ _ (@C7 _ _ _ _ _ _ B.isi (@c9 _ _ _ _ _ (pv 0) (@c9 _ _ _ _ _ (@at6 _ _ B.bool (by rfl)) (@i4 _) (by rfl)) (by rfl)) (by rfl) (by rfl) (by rfl))) (@al6 _ _ _ _ _ (@R0 _ _ _ _ _ _ _ _ E5 (pv 0) (pv 1) (o4 _))))))))),?_⟩
   refine ⟨_,rfl,rfl,_,rfl,?_⟩;rw[decide_eq_false (show ¬V.int i=V.non from fun z=>by cases z)];refine B9 ⟨_,rfl,_,"tuple",_,false,rfl,.int i,bo4 K,false,rfl,?_⟩;refine B9 ⟨_,rfl,_,"list",_,false,rfl,.int i,au3 K,false,rfl,?_⟩;refine B9 ⟨_,rfl,_,"str",_,false,rfl,.int i,al4 K,false,rfl,?_⟩;refine B9 ⟨_,rfl,_,"int",_,true,rfl,.int i,M1 K "int",true,rfl,?_⟩;refine A5 ⟨_,rfl,_,"bool",_,false,rfl,.int i,ag8 K,_,rfl,_,rfl,?_⟩;refine A5 ⟨_,rfl,_,rfl,rfl,?_⟩;rw[decide_eq_true rfl];exact q H (i6.refl H)
def bc6:Sp:=fun vs H Q _=>∃(a b:Addr) (p:List Int),vs=[.ref a,.ref b]/\H a=some (.lst (p.map V.int))/\H b=some (.lst (p.map V.int))/\p.length<=40/\∀H',i6 H H'->Q (.bl true) H'
theorem bo5 {f:Addr}{fd:FuncData}(F:E6 K "_law_alike" "_law_alike" ac2 f fd)(B:Bl mg)(zsz:B7 P w K mg base "_law_alike" 1 ["found","due"] ar1):w6 P w K mg base J8 2 f fd ["found","due"] bc6:=by
 refine F.ok aw4 (fun vs H Q E h=> ?_) (fun cdv A outer s H vs Q E hr h=> ?_)
 · obtain ⟨a,b,p,rfl,ha,hb,lp,q⟩:=h;rfl
 · obtain ⟨a,b,p,rfl,ha,hb,lp,q⟩:=h;have zpx:A4 1 _:=hr.mono (by decide);have hu:=ae5 hr;refine ⟨_,@i5 _ _ _ _ _ (@w9 _ _ _ _ _ _ _ _ (@m8 _ _ _ _ _ _ _ _ al8 (pv 1) (@G4 _ _ _) (o4 _)) (@i7 _ _ _ (@o5 _ _ _ _ (@R0 _ _ _ _ _ _ _ _ al8 (pv 0) (@G4 _ _ _) (o4 _)))) (@o9 _)) (@i5 _ _ _ _ _ (@w9 _ _ _ _ _ _ _ _ (@M7 _ _ _ _ _ _ _ (@C6 _ _ _ (@C7 _ _ _ _ _ _ B.isi (@c9 _ _ _ _ _ (pv 1) (@c9 _ _ _ _ _ (@W2 _ _ B.tuple (by rfl)) (@i4 _) (by rfl)) (by rfl)) (by rfl) (by rfl) (by rfl)) (by intro _;rfl)) (@Q1 _ _ _ _ (@C6 _ _ _ (@C7 _ _ _ _ _ _ B.isi (@c9 _ _ _ _ _ (pv 1) (@c9 _ _ _ _ _ (@M4 _ _ B.list (by rfl)) (@i4 _) (by rfl)) (by rfl)) (by rfl) (by rfl) (by rfl)) (by intro _;rfl)))).pt (@i5 _ _ _ _ _ (@w9 _ _ _ _ _ _ _ _ (@M7 _ _ _ _ _ _ _ (@m8 _ _ _ _ _ _ _ _ U7 (@C7 _ _ _ _ _ _ B.isi (@c9 _ _ _ _ _ (pv 0) (@c9 _ _ _ _ _ (@W2 _ _ B.tuple (by rfl)) (@i4 _) (by rfl)) (by rfl)) (by rfl) (by rfl) (by rfl)) (@C7 _ _ _ _ _ _ B.isi (@c9 _ _ _ _ _ (pv 1) (@c9 _ _ _ _ _ (@W2 _ _ B.tuple (by rfl)) (@i4 _) (by rfl)) (by rfl)) (by rfl) (by rfl) (by rfl)) (o4 _)) (@Q1 _ _ _ _ (@m8 _ _ _ _ _ _ _ _ U7 (@C7 _ _ _ _ _ _ B.isi (@c9 _ _ _ _ _ (pv 0) (@c9 _ _ _ _ _ (@M4 _ _ B.list (by rfl)) (@i4 _) (by rfl)) (by rfl)) (by rfl) (by rfl) (by rfl)) (@C7 _ _ _ _ _ _ B.isi (@c9 _ _ _ _ _ (pv 1) (@c9 _ _ _ _ _ (@M4 _ _ B.list (by rfl)) (@i4 _) (by rfl)) (by rfl)) (by rfl) (by rfl) (by rfl)) (o4 _)))).pt (@i7 _ _ _ (@o5 _ _ _ _ (@G1 _ _ _ _))) (@o9 _)) (@i5 _ _ _ _ _ (@w9 _ _ _ _ _ _ _ _ (@m8 _ _ _ _ _ _ _ _ U7 (@A6 _ _ _ _ _ B.len (@c9 _ _ _ _ _ (pv 0) (@i4 _) (by rfl)) (by rfl) (by rfl)) (@A6 _ _ _ _ _ B.len (@c9 _ _ _ _ _ (pv 1) (@i4 _) (by rfl)) (by rfl) (by rfl)) (o4 _)) (@i7 _ _ _ (@o5 _ _ _ _ (@G1 _ _ _ _))) (@o9 _)) (@i7 _ _ _ (@o5 _ _ _ _ (@R0 _ _ _ _ _ _ _ _ (at5 0 hu) (@U3 _ _ _ _ _ _ _ _ _ _ _ (["k","found","due"]) (1) ([0,1]) rfl .of (@N6 _ _ _ _ _ _ (by rfl) B.range (@c9 _ _ _ _ _ (@A6 _ _ _ _ _ B.len (@c9 _ _ _ _ _ (pv 1) (@i4 _) (by rfl)) (by rfl) (by rfl)) (@i4 _) (by rfl)) (by rfl)) (fun _ _ _ _ _=>@y8 _ _ (0) _ V8 rfl (Or.inl rfl) (by trivial)) (fun _ _ _ _ _=>@ba2 _ _ _ (@J5 _ _ _ _ (@C6 _ _ _ (@q9 _ _ _ _ _ _ _ _ _ _ zsz zpx (@c9 _ _ _ _ _ (@B8 _ _ _ _ _ _ (cs6 K) y9 (pv 1) (pv 0) (fun _ _=>rfl)) (@c9 _ _ _ _ _ (@B8 _ _ _ _ _ _ (cs6 K) y9 (pv 2) (pv 0) (fun _ _=>rfl)) (@i4 _) (by rfl)) (by rfl)) (by rfl) (by decide) (by rfl) (by rfl)) (by intro _;rfl)))) (fun _ _ _ _ _=>(pv 0)) (by intro _;rfl)) (@w4 _ _ _ _ (@i4 _)) (o4 _)))))) (@o9 _)) (@i5 _ _ _ _ _ (@w9 _ _ _ _ _ _ _ _ (@C6 _ _ _ (@C7 _ _ _ _ _ _ B.isi (@c9 _ _ _ _ _ (pv 1) (@c9 _ _ _ _ _ (@ah1 _ _ B.str (by rfl)) (@i4 _) (by rfl)) (by rfl)) (by rfl) (by rfl) (by rfl)) (by intro _;rfl)) (@i7 _ _ _ (@o5 _ _ _ _ (@Z1 _ _ _ _ _ _ _ (@C7 _ _ _ _ _ _ B.isi (@c9 _ _ _ _ _ (pv 0) (@c9 _ _ _ _ _ (@ah1 _ _ B.str (by rfl)) (@i4 _) (by rfl)) (by rfl)) (by rfl) (by rfl) (by rfl)) (@al6 _ _ _ _ _ (@R0 _ _ _ _ _ _ _ _ E5 (pv 0) (pv 1) (o4 _)))))) (@o9 _)) (@i7 _ _ _ (@o5 _ _ _ _ (@Z1 _ _ _ _ _ _ _ (@C7 _ _ _ _ _ _ B.isi (@c9 _ _ _ _ _ (pv 0) (@c9 _ _ _ _ _ (@ba4 _ _ B.int (by rfl)) (@i4 _) (by rfl)) (by rfl)) (by rfl) (by rfl) (by rfl)) (@Z1 _ _ _ _ _ _ _ (@bp6 _ _ _ _ (@C7 _ _ _ _ _ _ B.isi (@c9 _ _ _ _ _ (pv 0) (@c9 _ _ _ _ _ (@at6 _ _ B.bool (by rfl)) (@i4 _) (by rfl)) (by rfl)) (by rfl) (by rfl) (by rfl))) (@al6 _ _ _ _ _ (@R0 _ _ _ _ _ _ _ _ E5 (pv 0) (pv 1) (o4 _))))))))),?_⟩
   refine ⟨_,rfl,rfl,_,rfl,?_⟩;rw[decide_eq_false (show ¬V.ref b=V.non from fun z=>by cases z)];refine B9 ⟨_,rfl,_,"tuple",_,false,rfl,.lst hb,ab7 K,false,rfl,?_⟩;refine B9 ⟨_,rfl,_,"list",_,true,rfl,.lst hb,M1 K "list",true,rfl,?_⟩;refine A5 ?_;refine ⟨_,rfl,_,"tuple",_,false,rfl,.lst ha,ab7 K,_,rfl,_,"tuple",_,false,rfl,.lst hb,ab7 K,rfl,_,rfl,?_⟩;refine Q9 rfl ⟨_,rfl,_,"list",_,true,rfl,.lst ha,M1 K "list",_,rfl,_,"list",_,true,rfl,.lst hb,M1 K "list",rfl,_,rfl,?_⟩;refine Q9 rfl ?_;refine ⟨_,rfl,a,_,rfl,.inl (j7.of ha),_,rfl,b,_,rfl,.inl (j7.of hb),rfl,_,rfl,?_⟩;refine Q9 rfl ?_;refine ⟨_,rfl,b,_,rfl,.inl (j7.of hb),(p.length:Int),by rw[dt3],by omega,by omega,?_⟩;rw[show ((p.length:Int)).toNat=p.length by omega];refine bd5 (lo:=0) (n:=p.length) (fun i ys σ H1=>∃v:Option V,σ=[v,some (.ref a),some (.ref b)]/\ys=[]/\i6 H H1) ⟨none,rfl,rfl,i6.refl H⟩ ?_ ?_
   · rintro i ys σ H1 hi ⟨v,rfl,rfl,s1⟩;refine ⟨_,rfl,_,rfl,a,_,_,_,rfl,rfl,j7.of (s1 _ _ ha),ag9 hi,_,rfl,_,rfl,b,_,_,_,rfl,rfl,j7.of (s1 _ _ hb),ag9 hi,_,rfl,fun H2 s2=>⟨true,rfl,?_⟩⟩;exact B9 ⟨_,rfl,rfl,s1.trans s2⟩
   · rintro ys σ H1 ⟨v,rfl,rfl,s1⟩ D hD;have s2:i6 H1 (i8 H1 D (.lst [])):=i6.upd_new hD;have h2:(i8 H1 D (.lst [])) D=some (.lst []):=j6;generalize (i8 H1 D (.lst []))=H2 at s2 h2 ⊢;refine ⟨dv5 _,fun e he=> ?_⟩;have s3:i6 H2 (i8 H2 e (.lst [])):=i6.upd_new he;have h3:(i8 H2 e (.lst [])) e=some (.lst []):=j6;generalize (i8 H2 e (.lst []))=H3 at s3 h3 ⊢;exact ⟨D,e,_,_,_,rfl,rfl,j7.of (s3 _ _ h2),j7.of h3,aa5 _ _ _ _,q H3 ((s1.trans s2).trans s3)⟩
theorem A8.but {H H':Hp}{a g:Addr}(h:A8 H a)(k:r9 g H H')(n:a≠g):A8 H' a:=let ⟨ds,e,r⟩:=h;⟨ds,k _ _ e n,r⟩
theorem bf6 {H H':Hp}{v:V}{t:Str}(h:ay5 H v t)(s:i6 H H'):ay5 H' v t:=by
 rcases h with h|h|h|h|⟨a,d,e,ds,et⟩
 · exact .inl h
 · exact .inr (.inl h)
 · exact .inr (.inr (.inl h))
 · exact .inr (.inr (.inr (.inl h)))
 · exact .inr (.inr (.inr (.inr ⟨a,d,e,ds.keep s,et⟩)))
theorem ci0 {H H':Hp}{v:V}(h:ay2 K H v)(s:i6 H H'):ay2 K H' v:=let ⟨t,ty,k⟩:=h;⟨t,av2 ty s,k⟩
def bp3 (K:PySem.W.Frag)(H:Hp)(tv dv:V):Prop:=(∃(y:Str) (l:Addr) (p:List Int),tv= .str y/\y.length<=30000/\dv= .ref l/\Wr y p/\H l=some (.lst (p.map V.int)))\/
 (dv= .non/\((∃y:Str,tv= .str y/\y.length<=30000/\∀p,¬Wr y p)\/ay2 K H tv))
theorem cd7 {H H':Hp}{tv dv:V}(h:bp3 K H tv dv)(s:i6 H H'):bp3 K H' tv dv:=by
 rcases h with ⟨y,l,p,e1,e2,e3,e4,e5⟩|⟨e1,h|h⟩
 · exact .inl ⟨y,l,p,e1,e2,e3,e4,s _ _ e5⟩
 · exact .inr ⟨e1,.inl h⟩
 · exact .inr ⟨e1,.inr (ci0 h s)⟩
def bp4 (K:PySem.W.Frag):Sp:=fun vs H Q _=>∃(a:Addr) (ns:List Int),vs=[.ref a]/\j7 K H a (ns.map V.int)/\ns.length<=63/\∀H',Q (.bl true) H'
theorem O5:y7 ["script","k","deck","ways","p","text","way","due","kept","word","found"] ["script"] (o7 ax6):=by rfl'
theorem dk3 {f:Addr}{fd:FuncData}(F:E6 K "law" "law" ax6 f fd)(B:Bl mg)(zny:B7 P w K mg base "_law_deck" 2 ["cell","many"] V2)(zsy:B7 P w K mg base "_law_cell_at" 1 ["script","k"] (bu7 K))(zvy:B7 P w K mg base "_law_numbers" 1 ["cell","many"] V2)(znx:B7 P w K mg base "_law_turn" 2 ["deck","most"] bh4)(zy:B7 P w K mg base "_law_take" 1 ["deck","many"] ai4)(zq:B7 P w K mg base "_law_written" 2 ["p"] ch7)(zo:B7 P w K mg base "_law_shown" 6 ["thing"] (bi6 K))(zqz:B7 P w K mg base "_law_no_turn" 2 ["deck","p"] (ch6 K))(zqy:B7 P w K mg base "_law_changed" 2 ["text","deck"] ch8)(zuy:B7 P w K mg base "_law_rounds_changed" 2 ["p","deck"] bx1)(zmx:B7 P w K mg base "_law_odd" 1 ["number"] bx0)(zm:B7 P w K mg base "_law_read" 1 ["text"] bi4)(zoz:B7 P w K mg base "_law_asked" 7 ["text"] (bi5 K))(zsz:B7 P w K mg base "_law_alike" 2 ["found","due"] (ah4 ar1 bc6)):w6 P w K mg base J8 8 f fd ["script"] (bp4 K):=by
 refine F.ok O5 (fun vs H Q E h=> ?_) (fun cdv A outer s H vs Q E hr h=> ?_)
 · obtain ⟨sc,ns,rfl,hsc,hns,q⟩:=h;rfl
 · obtain ⟨sc,ns,rfl,hsc,hns,q⟩:=h;have zez:A4 2 _:=hr.mono (by decide);have zoy:A4 1 _:=hr.mono (by decide);have zsx:A4 1 _:=hr.mono (by decide);have zey:A4 2 _:=hr.mono (by decide);have zyz:A4 1 _:=hr.mono (by decide);have zj:A4 2 _:=hr.mono (by decide);have zgy:A4 6 _:=hr.mono (by decide);have zjz:A4 2 _:=hr.mono (by decide);have zjy:A4 2 _:=hr.mono (by decide);have zox:A4 2 _:=hr.mono (by decide);have hr_law_odd:A4 1 _:=hr.mono (by decide);have zex:A4 1 _:=hr.mono (by decide);have zgx:A4 7 _:=hr.mono (by decide);have zpx:A4 2 _:=hr.mono (by decide);have hug:_+16 < cLine:=ea1 (ec2 (by decide:16<=64) _) hr.units;refine ⟨_,@i5 _ _ _ _ _ (@I0 _ _ _ _ _ _ _ _ PassesOwn.never rfl (@N6 _ _ _ _ _ _ (by rfl) B.range (@c9 _ _ _ _ _ (@db0 _ _ _ _ _ _ rfl B.max (@c9 _ _ _ _ _ (@i9 _ _ _ _) (@c9 _ _ _ _ _ (@ca6 _ _ _ _ _ _ rfl B.min (@c9 _ _ _ _ _ (@A6 _ _ _ _ _ B.len (@c9 _ _ _ _ _ (pv 0) (@i4 _) (by rfl)) (by rfl) (by rfl)) (@c9 _ _ _ _ _ (@i9 _ _ _ _) (@i4 _) (by rfl)) (by rfl)) (by rfl) (by rfl) (by rfl)) (@i4 _) (by rfl)) (by rfl)) (by rfl) (by rfl) (by rfl)) (@i4 _) (by rfl)) (by rfl)) (@y8 _ _ (1) _ O5.nd rfl (Or.inl rfl) (by trivial)) (@i5 _ _ _ _ _ (@m9 _ _ (2) _ _ _ _ O5.nd rfl (Or.inl rfl) (@q9 _ _ _ _ _ _ _ _ _ _ zny zez (@c9 _ _ _ _ _ (@q9 _ _ _ _ _ _ _ _ _ _ zsy zoy (@c9 _ _ _ _ _ (pv 0) (@c9 _ _ _ _ _ (pv 1) (@i4 _) (by rfl)) (by rfl)) (by rfl) (by decide) (by rfl) (by rfl)) (@c9 _ _ _ _ _ (@i9 _ _ _ _) (@i4 _) (by rfl)) (by rfl)) (by rfl) (by decide) (by rfl) (by rfl)) (by rfl) (by trivial)) (@i5 _ _ _ _ _ (@m9 _ _ (3) _ _ _ _ O5.nd rfl (Or.inl rfl) (@C2 _ _ _ _ _ _ _ _ _ _ O8 (@q9 _ _ _ _ _ _ _ _ _ _ zvy zsx (@c9 _ _ _ _ _ (@q9 _ _ _ _ _ _ _ _ _ _ zsy zoy (@c9 _ _ _ _ _ (pv 0) (@c9 _ _ _ _ _ (pv 1) (@i4 _) (by rfl)) (by rfl)) (by rfl) (by decide) (by rfl) (by rfl)) (@c9 _ _ _ _ _ (@i9 _ _ _ _) (@i4 _) (by rfl)) (by rfl)) (by rfl) (by decide) (by rfl) (by rfl)) (@B6 _ _ _ (@i9 _ _ _ _)) (@E7 _)) (by rfl) (by trivial)) (@i5 _ _ _ _ _ (@m9 _ _ (4) _ _ _ _ O5.nd rfl (Or.inl rfl) (@q9 _ _ _ _ _ _ _ _ _ _ znx zey (@c9 _ _ _ _ _ (pv 2) (@c9 _ _ _ _ _ (@B8 _ _ _ _ _ _ _ y9 (@ba8 _ _ _ [12,12,12,41] rfl) (@q9 _ _ _ _ _ _ _ _ _ _ zy zyz (@c9 _ _ _ _ _ (pv 3) (@c9 _ _ _ _ _ (@i9 _ _ _ _) (@i4 _) (by rfl)) (by rfl)) (by rfl) (by decide) (by rfl) (by rfl)) (fun _ _=>rfl)) (@i4 _) (by rfl)) (by rfl)) (by rfl) (by decide) (by rfl) (by rfl)) (by rfl) (by trivial)) (@i5 _ _ _ _ _ (@m9 _ _ (5) _ _ _ _ O5.nd rfl (Or.inl rfl) (@q9 _ _ _ _ _ _ _ _ _ _ zq zj (@c9 _ _ _ _ _ (pv 4) (@i4 _) (by rfl)) (by rfl) (by decide) (by rfl) (by rfl)) (by rfl) (by trivial)) (@i5 _ _ _ _ _ (@w9 _ _ _ _ _ _ _ _ (@J5 _ _ _ _ (@C6 _ _ _ (@q9 _ _ _ _ _ _ _ _ _ _ zo zgy (@c9 _ _ _ _ _ (@q9 _ _ _ _ _ _ _ _ _ _ zqz zjz (@c9 _ _ _ _ _ (pv 3) (@c9 _ _ _ _ _ (pv 4) (@i4 _) (by rfl)) (by rfl)) (by rfl) (by decide) (by rfl) (by rfl)) (@i4 _) (by rfl)) (by rfl) (by decide) (by rfl) (by rfl)) (by intro _;rfl))) (@i7 _ _ _ (@o5 _ _ _ _ (@G1 _ _ _ _))) (@o9 _)) (@i5 _ _ _ _ _ (@m9 _ _ (6) _ _ _ _ O5.nd rfl (Or.inl rfl) (@q9 _ _ _ _ _ _ _ _ _ _ zy zyz (@c9 _ _ _ _ _ (pv 3) (@c9 _ _ _ _ _ (@i9 _ _ _ _) (@i4 _) (by rfl)) (by rfl)) (by rfl) (by decide) (by rfl) (by rfl)) (by rfl) (by trivial)) (@i5 _ _ _ _ _ (@w9 _ _ _ _ _ _ _ _ (@m8 _ _ _ _ _ _ _ _ aw8 (pv 6) (@i9 _ _ _ _) (o4 _)) (@i7 _ _ _ (@m9 _ _ (5) _ _ _ _ O5.nd rfl (Or.inl rfl) (@q9 _ _ _ _ _ _ _ _ _ _ zqy zjy (@c9 _ _ _ _ _ (pv 5) (@c9 _ _ _ _ _ (pv 3) (@i4 _) (by rfl)) (by rfl)) (by rfl) (by decide) (by rfl) (by rfl)) (by rfl) (by trivial))) (@o9 _)) (@i5 _ _ _ _ _ (@w9 _ _ _ _ _ _ _ _ (@M7 _ _ _ _ _ _ _ (@m8 _ _ _ _ _ _ _ _ E5 (pv 6) (@i9 _ _ _ _) (o4 _)) (@M7 _ _ _ _ _ _ _ (@m8 _ _ _ _ _ _ _ _ E5 (pv 6) (@i9 _ _ _ _) (o4 _)) (@Q1 _ _ _ _ (@m8 _ _ _ _ _ _ _ _ E5 (pv 6) (@i9 _ _ _ _) (o4 _))))).pt (@i7 _ _ _ (@m9 _ _ (5) _ _ _ _ O5.nd rfl (Or.inl rfl) (@q9 _ _ _ _ _ _ _ _ _ _ zuy zox (@c9 _ _ _ _ _ (pv 4) (@c9 _ _ _ _ _ (pv 3) (@i4 _) (by rfl)) (by rfl)) (by rfl) (by decide) (by rfl) (by rfl)) (by rfl) (by trivial))) (@o9 _)) (@i5 _ _ _ _ _ (@w9 _ _ _ _ _ _ _ _ (@m8 _ _ _ _ _ _ _ _ E5 (pv 6) (@i9 _ _ _ _) (o4 _)) (@i7 _ _ _ (@m9 _ _ (5) _ _ _ _ O5.nd rfl (Or.inl rfl) (@q9 _ _ _ _ _ _ _ _ _ _ zmx hr_law_odd (@c9 _ _ _ _ _ (@q9 _ _ _ _ _ _ _ _ _ _ zy zyz (@c9 _ _ _ _ _ (pv 3) (@c9 _ _ _ _ _ (@i9 _ _ _ _) (@i4 _) (by rfl)) (by rfl)) (by rfl) (by decide) (by rfl) (by rfl)) (@i4 _) (by rfl)) (by rfl) (by decide) (by rfl) (by rfl)) (by rfl) (by trivial))) (@o9 _)) (@i5 _ _ _ _ _ (@m9 _ _ (7) _ _ _ _ O5.nd rfl (Or.inl rfl) (@q9 _ _ _ _ _ _ _ _ _ _ zm zex (@c9 _ _ _ _ _ (pv 5) (@i4 _) (by rfl)) (by rfl) (by decide) (by rfl) (by rfl)) (by rfl) (by trivial)) (@i5 _ _ _ _ _ (@w9 _ _ _ _ _ _ _ _ (@as4 _ _ _ _ _ _ _ (@m8 _ _ _ _ _ _ _ _ E5 (pv 6) (@i9 _ _ _ _) (o4 _)) (@al5 _ _ _ _ (@m8 _ _ _ _ _ _ _ _ E5 (@q9 _ _ _ _ _ _ _ _ _ _ zy zyz (@c9 _ _ _ _ _ (pv 3) (@c9 _ _ _ _ _ (@i9 _ _ _ _) (@i4 _) (by rfl)) (by rfl)) (by rfl) (by decide) (by rfl) (by rfl)) (@i9 _ _ _ _) (o4 _)))).pt (@i5 _ _ _ _ _ (@m9 _ _ (5) _ _ _ _ O5.nd rfl (Or.inl rfl) (@B8 _ _ _ _ _ _ _ y9 (@w4 _ _ _ _ (@c9 _ _ _ _ _ (@G4 _ _ _) (@c9 _ _ _ _ _ (@i9 _ _ _ _) (@c9 _ _ _ _ _ (@w4 _ _ _ _ (@c9 _ _ _ _ _ (@i9 _ _ _ _) (@i4 _) (by rfl))) (@c9 _ _ _ _ _ (@w4 _ _ _ _ (@c9 _ _ _ _ _ (@o6 _ _ _ _) (@i4 _) (by rfl))) (@c9 _ _ _ _ _ (@G1 _ _ _ _) (@c9 _ _ _ _ _ (@ag5 _ _) (@c9 _ _ _ _ _ (@X9 _ _ _ _ _ (@c9 _ _ _ _ _ (@o6 _ _ _ _) (@i4 _) (by rfl))) (@c9 _ _ _ _ _ (@i9 _ _ _ _) (@c9 _ _ _ _ _ (@w4 _ _ _ _ (@i4 _)) (@c9 _ _ _ _ _ (@X9 _ _ _ _ _ (@i4 _)) (@i4 _) (by rfl)) (by rfl)) (by rfl)) (by rfl)) (by rfl)) (by rfl)) (by rfl)) (by rfl)) (by rfl)) (by rfl))) (@q9 _ _ _ _ _ _ _ _ _ _ zy zyz (@c9 _ _ _ _ _ (pv 3) (@c9 _ _ _ _ _ (@i9 _ _ _ _) (@i4 _) (by rfl)) (by rfl)) (by rfl) (by decide) (by rfl) (by rfl)) (fun _ _=>rfl)) (by rfl) (by trivial)) (@i7 _ _ _ (@m9 _ _ (7) _ _ _ _ O5.nd rfl (Or.inl rfl) (@G4 _ _ _) (by rfl) (by trivial)))) (@o9 _)) (@i5 _ _ _ _ _ (@m9 _ _ (8) _ _ _ _ O5.nd rfl (Or.inl rfl) (cd5 hug hr.gd B.str (@c9 _ _ _ _ _ (pv 5) (@i4 _) (by rfl))) (by rfl) (by trivial)) (@i5 _ _ _ _ _ (@Q2 _ _ _ _ _ _ (@q9 _ _ _ _ _ _ _ _ _ _ zoz zgx (@c9 _ _ _ _ _ (pv 5) (@i4 _) (by rfl)) (by rfl) (by decide) (by rfl) (by rfl)) (@bp8 _ _ _ _ _ _ rfl (@Y3 _ _ _ _ _ (@y8 _ _ (9) _ O5.nd rfl (Or.inl rfl) (by trivial)) (@Y3 _ _ _ _ _ (@y8 _ _ (10) _ O5.nd rfl (Or.inl rfl) (by trivial)) (@bf7 _) (by rfl)) (by rfl)) (by rfl) (by rfl)) (by rfl) (by rfl) (by rfl)) (@i5 _ _ _ _ _ (@w9 _ _ _ _ _ _ _ _ (@M7 _ _ _ _ _ _ _ (@m8 _ _ _ _ _ _ _ _ U7 (cd5 hug hr.gd B.str (@c9 _ _ _ _ _ (pv 5) (@i4 _) (by rfl))) (pv 8) (o4 _)) (@Q1 _ _ _ _ (@m8 _ _ _ _ _ _ _ _ U7 (pv 9) (@B8 _ _ _ _ _ _ _ y9 (@w4 _ _ _ _ (@c9 _ _ _ _ _ (@o6 _ _ _ _) (@c9 _ _ _ _ _ (@o6 _ _ _ _) (@i4 _) (by rfl)) (by rfl))) (@bf9 _ _ _ _ _ B.int (@c9 _ _ _ _ _ (@R0 _ _ _ _ _ _ _ _ al8 (pv 7) (@G4 _ _ _) (o4 _)) (@i4 _) (by rfl)) (by rfl) (by rfl)) (fun _ _=>rfl)) (o4 _)))).pt (@i7 _ _ _ (@o5 _ _ _ _ (@G1 _ _ _ _))) (@o9 _)) (@i7 _ _ _ (@w9 _ _ _ _ _ _ _ _ (@as4 _ _ _ _ _ _ _ (@m8 _ _ _ _ _ _ _ _ da1 (pv 7) (@G4 _ _ _) (o4 _)) (@al5 _ _ _ _ (@J5 _ _ _ _ (@C6 _ _ _ (@q9 _ _ _ _ _ _ _ _ _ _ zsz zpx (@c9 _ _ _ _ _ (pv 10) (@c9 _ _ _ _ _ (pv 7) (@i4 _) (by rfl)) (by rfl)) (by rfl) (by decide) (by rfl) (by rfl)) (by intro _;rfl))))).pt (@i7 _ _ _ (@o5 _ _ _ _ (@G1 _ _ _ _))) (@o9 _))))))))))))))))) (by intro _;rfl)) (@i7 _ _ _ (@o5 _ _ _ _ (@G1 _ _ _ _))),?_⟩
   refine ⟨_,rfl,sc,_,rfl,.inl hsc,_,12,rfl,1,_,rfl,_,rfl,?_⟩;obtain ⟨mx,hmx,hm1,hm2⟩:=dh4 (n:=12) (c:=((ns.map V.int).length:Int)) (by decide) (by omega);rw[hmx]
   refine ⟨by omega,by omega,S4 (lo:=0) (n:=mx.toNat) (fun i σ H2=>∃v1 v2 v3 v4 v5 v6 v7 v8 v9 v10:Option V,σ=[some (.ref sc),v1,v2,v3,v4,v5,v6,v7,v8,v9,v10]/\i6 H H2)
     ⟨none,none,none,none,none,none,none,none,none,none,rfl,i6.refl H⟩ ?_ ?_⟩
   · rintro i σ H2 hi ⟨v1,v2,v3,v4,v5,v6,v7,v8,v9,v10,rfl,s02⟩;refine ⟨_,rfl,_,rfl,sc,ns,_,rfl,s02.seq hsc,by omega,fun z=>⟨z,110,rfl,by decide,fun dk H3 ndk s3 D3=> ?_⟩⟩;refine ⟨_,rfl,_,rfl,sc,ns,_,rfl,(s02.trans s3).seq hsc,by omega,fun z2=>⟨z2,136,rfl,by decide,fun nu H4 nnu s4 ⟨ds,h4,pos,ld⟩=> ?_⟩⟩;refine ⟨_,rfl,nu,_,rfl,j7.of h4,fun wy nwy=> ?_⟩;generalize e_:i8 _ wy _=H5;obtain ⟨s5,g5⟩:=y6 nwy e_;clear e_;rw[V4 (by decide)] at g5;have W5:A8 H5 wy:=⟨ds.drop 110,by rw[g5,eg7];rfl,fun x hx=>pos x (dy9 hx),by rw[dv1];omega⟩;have D5:=(D3.same s4).same s5
     have ndw:dk≠wy:=fun z=>by obtain ⟨o,e⟩:=(D3.same s4).some;rw[z,nwy] at e;cases e
     have s05:=s02.trans (s3.trans (s4.trans s5));have fdk:H dk=none:=s02.free ndk;have fwy:H wy=none:=(s02.trans (s3.trans s4)).free nwy;refine ⟨_,rfl,(show 4<=sizeLine by decide),fun l6 n6=> ?_⟩;generalize e_:i8 _ l6 _=H6;obtain ⟨s6,g6⟩:=y6 n6 e_;clear e_;have W6:=W5.same s6;have nl6:l6≠wy:=W5.ne n6;refine ⟨_,rfl,wy,4,rfl,W6,by decide,fun r H7 r0 r1 W7 kb7=> ?_⟩
     obtain ⟨m,hat,m41⟩:∃m:Nat,Y0 ([12,12,12,41].map V.int) r=some (.int (m:Int))/\m<=41:=by
       have:r=0\/r=1\/r=2\/r=3:=by omega
       rcases this with rfl|rfl|rfl|rfl
       · exact ⟨12,o8 (j:=0) rfl,by decide⟩
       · exact ⟨12,o8 (j:=1) rfl,by decide⟩
       · exact ⟨12,o8 (j:=2) rfl,by decide⟩
       · exact ⟨41,o8 (j:=3) rfl,by decide⟩
     have D7:=(D5.same s6).but kb7 ndw;refine ⟨l6,_,_,_,rfl,rfl,j7.of (kb7 _ _ g6 nl6),hat,dk,m,rfl,D7,m41,fun pa p H8 npa tp lp h8 D8 kb8=> ?_⟩;have W8:=W7.but kb8 ndw.symm;have npw:pa≠wy:=W7.ne npa;have s08:i6 H H8:=((s05.trans s6).kb kb7 fwy).kb kb8 fdk;refine ⟨_,rfl,pa,p,rfl,⟨h8,tp,lp⟩,fun x H9 lx s9=> ?_⟩;refine ⟨_,rfl,_,rfl,wy,pa,p,rfl,W8.same s9,⟨s9 _ _ h8,tp,lp⟩,npw,fun v H10 W10 kb10 no sh=> ?_⟩;refine ⟨v,rfl,no.keep (ak3 _ _ _),sh.keep (ak3 _ _ _),fun H11 s11=>⟨true,rfl,B9 ?_⟩⟩;refine ⟨_,rfl,wy,8,rfl,W10.same s11,by decide,fun wn H12 w0 w1 W12 kb12=> ?_⟩;have h12:H12 pa=some (.lst (p.map V.int)):=kb12 _ _ (s11 _ _ (kb10 _ _ (s9 _ _ h8) npw)) npw;have s012:i6 H H12:=(((s08.trans s9).kb kb10 fwy).trans s11).kb kb12 fwy;clear kb12 kb10 kb8 kb7 W10 W8 W7 W6 W5 D8 D7 D5 D3 s11 s9 s6 s5 s4 s3 s05 s08 h8 g6 g5 h4 no sh
     dsimp only[aw6]
     refine Y8 (fun σ' H'=>∃(y:Str) (v7 v8 v9 v10:Option V),σ'=[some (.ref sc),some (.int (0+(i:Int))),some (.ref dk),some (.ref wy),some (.ref pa),some (.str y),some (.int wn),v7,v8,v9,v10]/\y.length<=30000/\A8 H' wy/\H' pa=some (.lst (p.map V.int))/\i6 H H') ?_ (fun rest=> ?_)
     rotate_left
     · refine ⟨_,rfl,_,_,rfl,rfl,_,rfl,K7 (fun _=> ?_) (fun _=> ?_)⟩
       · exact ⟨_,rfl,_,rfl,x,wy,rfl,lx,W12,fun y H' ly W' kb'=>rest _ _ ⟨y,_,_,_,_,rfl,ly,W',kb' _ _ h12 npw,s012.kb kb' fwy⟩⟩
       · exact rest _ _ ⟨x,_,_,_,_,rfl,by omega,W12,h12,s012⟩
     clear s012 h12 W12 lx;rintro σ' H13 ⟨y,v7',v8',v9',v10',rfl,ly,W13,h13,s013⟩;refine Y8 (fun σ' H'=>∃(y:Str) (v7 v8 v9 v10:Option V),σ'=[some (.ref sc),some (.int (0+(i:Int))),some (.ref dk),some (.ref wy),some (.ref pa),some (.str y),some (.int wn),v7,v8,v9,v10]/\y.length<=30000/\A8 H' wy/\H' pa=some (.lst (p.map V.int))/\i6 H H') ?_ (fun rest=> ?_)
     rotate_left
     · have A:∀(y':Str) (H':Hp),y'.length<=30000->A8 H' wy->r9 wy H13 H'->_:=fun y' H' ly' W' kb'=>rest [some (.ref sc),some (.int (0+(i:Int))),some (.ref dk),some (.ref wy),some (.ref pa),some (.str y'),some (.int wn),v7',v8',v9',v10'] H' ⟨y',_,_,_,_,rfl,ly',W',kb' _ _ h13 npw,s013.kb kb' fwy⟩
       refine ⟨_,rfl,rfl,_,rfl,K7 (fun _=>A5 ?_) (fun _=>⟨_,rfl,rfl,_,rfl,K7 (fun _=>A5 ?_) (fun _=>⟨_,rfl,rfl,_,rfl,K7 (fun _=> ?_) (fun _=>rest _ _ ⟨y,_,_,_,_,rfl,ly,W13,h13,s013⟩)⟩)⟩)⟩
       all_goals exact ⟨_,rfl,_,rfl,pa,wy,p,rfl,⟨h13,tp,lp⟩,W13,npw,A⟩
     clear s013 h13 W13 ly;rintro σ' H14 ⟨y,v7',v8',v9',v10',rfl,ly,W14,h14,s014⟩;refine Y8 (fun σ' H'=>∃(y:Str) (v7 v8 v9 v10:Option V),σ'=[some (.ref sc),some (.int (0+(i:Int))),some (.ref dk),some (.ref wy),some (.ref pa),some (.str y),some (.int wn),v7,v8,v9,v10]/\y.length<=30000/\A8 H' wy/\i6 H H') ?_ (fun rest=> ?_)
     rotate_left
     · refine ⟨_,rfl,rfl,_,rfl,K7 (fun _=> ?_) (fun _=>rest _ _ ⟨y,_,_,_,_,rfl,ly,W14,s014⟩)⟩;exact ⟨_,rfl,wy,64,rfl,W14,by decide,fun r H' r0 r1 W' kb'=>⟨r,rfl,r0,fun y' H'' ly' s''=>rest _ _ ⟨y',_,_,_,_,rfl,ly',W'.same s'',(s014.kb kb' fwy).trans s''⟩⟩⟩
     clear s014 h14 W14 ly;rintro σ' H15 ⟨y,v7',v8',v9',v10',rfl,ly,W15,s015⟩;refine Y8 (fun σ' H'=>∃(y:Str) (dv:V) (v8 v9 v10:Option V),σ'=[some (.ref sc),some (.int (0+(i:Int))),some (.ref dk),some (.ref wy),some (.ref pa),some (.str y),some (.int wn),some dv,v8,v9,v10]/\bp3 K (G7 H' wy wy) (.str y) dv/\A8 H' wy/\i6 H H') ?_ (fun rest=> ?_)
     rotate_left
     · refine ⟨_,rfl,y,rfl,ly,fun p' wr l H' nl s' h'=>rest _ _ ⟨y,.ref l,_,_,_,rfl,.inl ⟨y,l,p',rfl,ly,rfl,wr,ab5 h' (W15.ne nl) (W15.ne nl)⟩,W15.same s',s015.trans s'⟩,fun no H' s'=>rest _ _ ⟨y,.non,_,_,_,rfl,.inr ⟨rfl,.inl ⟨y,rfl,ly,no⟩⟩,W15.same s',s015.trans s'⟩⟩
     clear s015 W15 ly;rintro σ' H16 ⟨y,dv,v8',v9',v10',rfl,due,W16,s016⟩;refine Y8 (fun σ' H'=>∃(tv dv:V) (t:Str) (v8 v9 v10:Option V),σ'=[some (.ref sc),some (.int (0+(i:Int))),some (.ref dk),some (.ref wy),some (.ref pa),some tv,some (.int wn),some dv,v8,v9,v10]/\bp3 K H' tv dv/\ay5 H' tv t/\i6 H H') ?_ (fun rest=> ?_)
     rotate_left
     · refine ⟨_,rfl,rfl,_,rfl,K7 (fun _=> ?_) (fun _=>B9 (rest _ _ ⟨.str y,dv,y,_,_,_,rfl,cd7 due (ak3 _ _ _),.inl rfl,s016⟩))⟩;refine ⟨_,rfl,wy,2,rfl,W16,by decide,fun r H17 r0 r1 W17 kb17=>⟨rfl,_,rfl,K7 (fun _=> ?_) (fun _=>rest _ _ ⟨.str y,dv,y,_,_,_,rfl,cd7 due ((ay3 kb17).trans (ak3 _ _ _)),.inl rfl,s016.kb kb17 fwy⟩)⟩⟩;refine ⟨(show 1<=sizeLine by decide),fun x18 n18=> ?_⟩;generalize e_:i8 _ x18 _=H18;obtain ⟨s18,g18⟩:=y6 n18 e_;clear e_;refine ⟨(show 1<=sizeLine by decide),fun x19 n19=> ?_⟩;generalize e_:i8 _ x19 _=H19;obtain ⟨s19,g19⟩:=y6 n19 e_;clear e_
       refine fun x20 n20=> ?_
       generalize e_:i8 _ x20 _=H20;obtain ⟨s20,g20⟩:=y6 n20 e_;clear e_;refine ⟨(show 1<=sizeLine by decide),fun x21 n21=> ?_⟩;generalize e_:i8 _ x21 _=H21;obtain ⟨s21,g21⟩:=y6 n21 e_;clear e_;refine ⟨(show 0<=sizeLine by decide),fun x22 n22=> ?_⟩;generalize e_:i8 _ x22 _=H22;obtain ⟨s22,g22⟩:=y6 n22 e_;clear e_;refine ⟨(show 0<=sizeLine by decide),fun x23 n23=> ?_⟩;generalize e_:i8 _ x23 _=H23;obtain ⟨s23,g23⟩:=y6 n23 e_;clear e_;refine ⟨(show 10<=sizeLine by decide),fun x24 n24=> ?_⟩;generalize e_:i8 _ x24 _=H24;obtain ⟨s24,g24⟩:=y6 n24 e_;clear e_;have t18:=s18;have t19:=t18.trans s19;have t20:=t19.trans s20;have t21:=t20.trans s21;have t22:=t21.trans s22;have t23:=t22.trans s23;have t24:=t23.trans s24
       have ne:∀{k:Hp} {b:Addr},i6 H17 k->k b=none->b≠wy:=fun s n=>(W17.same s).ne n
       refine ⟨_,rfl,wy,10,rfl,W17.same t24,by decide,fun r2 HE q0 q1 WE kbE=> ?_⟩;have gE:=kbE _ _ g24 (ne t23 n24);have e2:=g18
       replace e2:=s19 _ _ e2
       replace e2:=s20 _ _ e2
       replace e2:=s21 _ _ e2
       replace e2:=s22 _ _ e2
       replace e2:=s23 _ _ e2
       replace e2:=s24 _ _ e2
       replace e2:=kbE _ _ e2 (ne (i6.refl H17) n18)
       have e3:=g19
       replace e3:=s20 _ _ e3
       replace e3:=s21 _ _ e3
       replace e3:=s22 _ _ e3
       replace e3:=s23 _ _ e3
       replace e3:=s24 _ _ e3
       replace e3:=kbE _ _ e3 (ne (t18) n19)
       have e5:=g20
       replace e5:=s21 _ _ e5
       replace e5:=s22 _ _ e5
       replace e5:=s23 _ _ e5
       replace e5:=s24 _ _ e5
       replace e5:=kbE _ _ e5 (ne (t19) n20)
       have e6:=g21
       replace e6:=s22 _ _ e6
       replace e6:=s23 _ _ e6
       replace e6:=s24 _ _ e6
       replace e6:=kbE _ _ e6 (ne (t20) n21)
       have e8:=g22
       replace e8:=s23 _ _ e8
       replace e8:=s24 _ _ e8
       replace e8:=kbE _ _ e8 (ne (t21) n22)
       have e9:=g23
       replace e9:=s24 _ _ e9
       replace e9:=kbE _ _ e9 (ne (t22) n23)
       have sE:i6 H HE:=((s016.kb kb17 fwy).trans t24).kb kbE fwy
       obtain ⟨tv,tt,hat,nos,si⟩:∃(tv:V) (tt:Str),Y0 [V.non,V.int 7,V.ref x18,V.ref x19,V.bl true,V.ref x20,V.ref x21,V.int 0,V.ref x22,V.ref x23] r2=some tv/\ay2 K HE tv/\ay5 HE tv tt:=by
         have sd:∀{a:Addr} {d:PyData},Da HE (.ref a) d->d.showable=true->d.shown.length<=100->d.depth<=8->ay5 HE (.ref a) d.shown:=fun {a d} h1 h2 h3 h4=> .inr (.inr (.inr (.inr ⟨a,d,rfl,⟨h1,h2,by rw[sizeLine_eq];omega,h4⟩,rfl⟩)))
         have:r2=0\/r2=1\/r2=2\/r2=3\/r2=4\/r2=5\/r2=6\/r2=7\/r2=8\/r2=9:=by omega
         rcases this with rfl|rfl|rfl|rfl|rfl|rfl|rfl|rfl|rfl|rfl
         · exact ⟨_,_,o8 (j:=0) rfl,⟨_,.non,bx2 K⟩,.inr (.inl ⟨rfl,rfl⟩)⟩
         · exact ⟨_,_,o8 (j:=1) rfl,⟨_,.int 7,al4 K⟩,.inr (.inr (.inr (.inl ⟨7,rfl,by decide,rfl⟩)))⟩
         · exact ⟨_,_,o8 (j:=2) rfl,⟨_,.lst e2,aj2 K⟩,sd (d:= .list [.int 0]) (.lst e2 (.cons (.int 0) .nil)) (by decide+kernel) (by decide+kernel) (by decide+kernel)⟩
         · exact ⟨_,_,o8 (j:=3) rfl,⟨_,.lst e3,aj2 K⟩,sd (d:= .list [.str (Str.ofString "(0)")]) (.lst e3 (.cons (.str _) .nil)) (by decide+kernel) (by decide+kernel) (by decide+kernel)⟩
         · exact ⟨_,_,o8 (j:=4) rfl,⟨_,.bl true,bx3 K⟩,.inr (.inr (.inl ⟨true,rfl,rfl⟩))⟩
         · exact ⟨_,_,o8 (j:=5) rfl,⟨_,.dK e5,bx4 K⟩,sd (d:= .dict []) (.dic e5) (by decide+kernel) (by decide+kernel) (by decide+kernel)⟩
         · exact ⟨_,_,o8 (j:=6) rfl,⟨_,.tup e6,ar8 K⟩,sd (d:= .tuple [.str (Str.ofString "(0)")]) (.tup e6 (.cons (.str _) .nil)) (by decide+kernel) (by decide+kernel) (by decide+kernel)⟩
         · exact ⟨_,_,o8 (j:=7) rfl,⟨_,.int 0,al4 K⟩,.inr (.inr (.inr (.inl ⟨0,rfl,by decide,rfl⟩)))⟩
         · exact ⟨_,_,o8 (j:=8) rfl,⟨_,.lst e8,aj2 K⟩,sd (d:= .list []) (.lst e8 .nil) (by decide+kernel) (by decide+kernel) (by decide+kernel)⟩
         · exact ⟨_,_,o8 (j:=9) rfl,⟨_,.tup e9,ar8 K⟩,sd (d:= .tuple []) (.tup e9 .nil) (by decide+kernel) (by decide+kernel) (by decide+kernel)⟩
       exact ⟨x24,_,_,_,rfl,rfl,j7.of gE,hat,rest _ _ ⟨tv,.non,tt,_,_,_,rfl,.inr ⟨rfl,.inr nos⟩,si,sE⟩⟩
     clear s016 W16 due;rintro σ' H20 ⟨tv,dv,t,v8',v9',v10',rfl,due,si,s020⟩;refine ⟨_,rfl,tv,t,rfl,si,?_⟩;refine ⟨_,rfl,tv,rfl,?_⟩
     rcases due with ⟨y,l,p',rfl,ly,rfl,wr,hl⟩|⟨rfl,hh⟩
     · refine .inr ⟨y,rfl,ly,fun p2 wr2 l2 t2 H21 s21 h2 ht=> ?_,fun no=>absurd wr (no p')⟩;have e:=bm0 wr2.1 wr.1 wr2.2.1 wr.2.1 (wr2.2.2.symm.trans wr.2.2);subst e;refine ⟨t2,_,rfl,SqT.of ht,rfl,_,_,rfl,_,_,rfl,rfl,?_⟩;refine ⟨_,rfl,_,t,rfl,bf6 si s21,_,rfl,rfl,_,rfl,Q9 rfl ?_⟩;refine ⟨_,rfl,(show 2<=sizeLine by decide),fun x22 n22=> ?_⟩;generalize e_:i8 _ x22 _=H22;obtain ⟨s22,g22⟩:=y6 n22 e_;clear e_;refine ⟨_,rfl,rfl,_,rfl,x22,_,_,.str (Str.ofString "told"),rfl,rfl,j7.of g22,by rw[decide_eq_false (fun z:V.ref l=V.non=>by cases z)];exact o8 (j:=0) rfl,rfl,_,rfl,Q9 rfl ?_⟩;refine ⟨_,rfl,rfl,_,rfl,?_⟩;rw[decide_eq_false (fun z:V.ref l=V.non=>by cases z)];refine A5 ⟨_,rfl,_,rfl,.inr ⟨l2,l,p2,rfl,s22 _ _ h2,s22 _ _ (s21 _ _ hl),wr.2.1,fun H23 s23=>⟨true,rfl,B9 ?_⟩⟩⟩;exact ⟨_,_,_,_,_,_,_,_,_,_,rfl,s020.trans (s21.trans (s22.trans s23))⟩
     · rcases hh with ⟨y,rfl,ly,no⟩|nos
       refine .inr ⟨y,rfl,ly,fun p2 w2=>absurd w2 (no p2),fun _ t2 H21 s21 ht=> ?_⟩
       rotate_left
       refine .inl ⟨nos,fun t2 H21 s21 ht=> ?_⟩
       all_goals
         refine ⟨t2,_,rfl,SqT.of ht,rfl,_,_,rfl,_,_,rfl,rfl,?_⟩;refine ⟨_,rfl,_,t,rfl,bf6 si s21,_,rfl,rfl,_,rfl,Q9 rfl ?_⟩;refine ⟨_,rfl,(show 2<=sizeLine by decide),fun x22 n22=> ?_⟩;generalize e_:i8 _ x22 _=H22;obtain ⟨s22,g22⟩:=y6 n22 e_;clear e_;refine ⟨_,rfl,rfl,_,rfl,x22,_,_,.str (Str.ofString "NoText"),rfl,rfl,j7.of g22,by rw[decide_eq_true rfl];exact o8 (j:=1) rfl,rfl,_,rfl,Q9 rfl ?_⟩;refine ⟨_,rfl,rfl,_,rfl,Q9 rfl (B9 ?_)⟩;exact ⟨_,_,_,_,_,_,_,_,_,_,rfl,s020.trans (s21.trans s22)⟩
   · rintro σ H2 ⟨v1,v2,v3,v4,v5,v6,v7,v8,v9,v10,rfl,s02⟩;exact q H2
end
end My
namespace My
open PySem L2 Mth
theorem Y9 {P:List Value->Prop}(h:∀x0,P [x0]):∀us:List Value,us.length=1->P us
 |[_],_=>h _
theorem bn2 {P:List Value->Prop}(h:∀x0 x1,P [x0,x1]):∀us:List Value,us.length=2->P us
 |[_,_],_=>h _ _
theorem bn3 {P:List Value->Prop}(h:∀x0 x1 x2,P [x0,x1,x2]):∀us:List Value,us.length=3->P us
 |[_,_,_],_=>h _ _ _
theorem dt1 {l:PySem.W.OpenLaw}{w:World}{K:PySem.W.Frag}{h:Heap}{mg:Str->Option Value}{fa f0 f1 f2 f3 f4 f5 f6 f7 f8 f9 f10 f11 f12 f13 f14 f15 f16 f17 f18 f19 f20 f21 f22 f23 f24 f25 f26 f27 f28 f29 f30 f31:Addr}{zwy zzy zxx zzx zyy zx zyx zxz zzz zxy zwz:Addr}{tk0:Tok}(X:K.In h)(G:h.Ns mainGlobals mg)(hfa:mg "law"=some (.ref fa))
   (u0:Fu K "is_whole" ap8 f0)
   (u1:Fu K "walk_ring" ak9 f1)
   (u2:Fu K "walk_rings" ah7 f2)
   (u3:Fu K "send_along" ah8 f3)
   (u4:Fu K "is_turn" ac6 f4)
   (u5:Fu K "must_be_turn" S1 f5)
   (u6:Fu K "rounds_of" Y1 f6)
   (u7:Fu K "are_filled_lists" N7 f7)
   (u8:Fu K "things_in" Y2 f8)
   (u9:Fu K "from_rounds" U1 f9)
   (u10:Fu K "show_round" ah9 f10)
   (u11:Fu K "show_turn" ac1 f11)
   (u12:Fu K "read_thing" ai0 f12)
   (u13:Fu K "read_round" ai1 f13)
   (u14:Fu K "read_rounds" ad5 f14)
   (u15:Fu K "read_turn" al0 f15)
   (u16:Fu K "_law_cell_at" ad6 f16)
   (u17:Fu K "_law_numbers" ad7 f17)
   (u18:Fu K "_law_deck" ap9 f18)
   (u19:Fu K "_law_take" aq0 f19)
   (u20:Fu K "_law_turn" aq1 f20)
   (u21:Fu K "_law_rounds" ai2 f21)
   (u22:Fu K "_law_written" ad8 f22)
   (u23:Fu K "_law_alike" ac2 f23)
   (u24:Fu K "_law_read" aq2 f24)
   (u25:Fu K "_law_asked" al1 f25)
   (u26:Fu K "_law_changed" ad9 f26)
   (u27:Fu K "_law_rounds_changed" T2 f27)
   (u28:Fu K "_law_odd" au6 f28)
   (u29:Fu K "_law_shown" al2 f29)
   (u30:Fu K "_law_no_turn" ae0 f30)
   (u31:Fu K "law" ax6 f31)
   (m0:PySem.W.nsIn K mainGlobals "MOST_THINGS"=some (some (.int 40 tk0)))
   (zz:Fre K ["len","isinstance","int","bool","list","range","sum","min","max","enumerate","zip","sorted","tuple","str","repr","all","any","set","dict","ValueError"])
   (uT:PySem.W.nsIn K mainGlobals "TurnError"=some (some (.ref zwy)))
   (uTb:PySem.W.mroIn K zwy (.type "BaseException")=some true)
   (uTc:PySem.W.isClsIn K zwy=true)
   (uTt:PySem.W.typeIn K (.ref zwy)=some (.type "type"))
   (uG:PySem.W.specialIn K (.builtin "object.__class__") "__get__"=some (some (.builtin "getset_descriptor.__get__")))
   (uK:PySem.W.takesIn K (.builtin "object.__class__")=some true)
   (uC:bg9 K zwy [(("NoTurn":Str),zzy),(("NoFit":Str),zxx),(("NoRounds":Str),zzx),(("NoNumber":Str),zyy),(("NoRoot":Str),zx),(("TooMany":Str),zyx),(("NoKind":Str),zxz),(("NoText":Str),zzz),(("NoName":Str),zxy),(("NoRow":Str),zwz)])
   (uP:bh0 K [(("NoTurn":Str),zzy),(("NoFit":Str),zxx),(("NoRounds":Str),zzx),(("NoNumber":Str),zyy),(("NoRoot":Str),zx),(("TooMany":Str),zyx),(("NoKind":Str),zxz),(("NoText":Str),zzz),(("NoName":Str),zxy),(("NoRow":Str),zwz)] 0 [(("NoTurn":Str),zzy),(("NoFit":Str),zxx),(("NoRounds":Str),zzx),(("NoNumber":Str),zyy),(("NoRoot":Str),zx),(("TooMany":Str),zyx),(("NoKind":Str),zxz),(("NoText":Str),zzz),(("NoName":Str),zxy),(("NoRow":Str),zwz)])
   :∃fd:FuncData,(∀(s:Shared) (v:Value),BindsTo s fd ⟨[v],[]⟩ [("script",v)])/\∀base:Heap,K.In base->base.Ns mainGlobals mg->w6 l.prog w K mg base J8 8 fa fd ["script"] (bp4 K):=by
 obtain ⟨d0,a0,F0⟩:=u0;obtain ⟨d1,a1,F1⟩:=u1;obtain ⟨d2,a2,F2⟩:=u2;obtain ⟨d3,a3,F3⟩:=u3;obtain ⟨d4,a4,F4⟩:=u4;obtain ⟨d5,a5,F5⟩:=u5;obtain ⟨d6,a6,F6⟩:=u6;obtain ⟨d7,a7,F7⟩:=u7;obtain ⟨d8,a8,F8⟩:=u8;obtain ⟨d9,a9,F9⟩:=u9;obtain ⟨d10,a10,F10⟩:=u10;obtain ⟨d11,a11,F11⟩:=u11;obtain ⟨d12,a12,F12⟩:=u12;obtain ⟨d13,a13,F13⟩:=u13;obtain ⟨d14,a14,F14⟩:=u14;obtain ⟨d15,a15,F15⟩:=u15;obtain ⟨d16,a16,F16⟩:=u16;obtain ⟨d17,a17,F17⟩:=u17;obtain ⟨d18,a18,F18⟩:=u18;obtain ⟨d19,a19,F19⟩:=u19;obtain ⟨d20,a20,F20⟩:=u20;obtain ⟨d21,a21,F21⟩:=u21;obtain ⟨d22,a22,F22⟩:=u22;obtain ⟨d23,a23,F23⟩:=u23;obtain ⟨d24,a24,F24⟩:=u24;obtain ⟨d25,a25,F25⟩:=u25;obtain ⟨d26,a26,F26⟩:=u26;obtain ⟨d27,a27,F27⟩:=u27;obtain ⟨d28,a28,F28⟩:=u28;obtain ⟨d29,a29,F29⟩:=u29;obtain ⟨d30,a30,F30⟩:=u30;obtain ⟨d31,a31,F31⟩:=u31;have e:=hfa.symm.trans (PySem.W.mg_of X G a31);cases e;obtain ⟨z0,z1,z2,z3,z4,z5,z6,z7,z8,z9,z10,z11,z12,z13,z14,z15,z16,z17,z18,z19,_⟩:=zz;have zn {y:Str} (z:PySem.W.nsIn K mainGlobals y=some none):=PySem.W.mg_none_of X G z;have B:Bl mg:=⟨zn z0,zn z1,zn z2,zn z3,zn z4,zn z5,zn z6,zn z7,zn z8,zn z9,zn z10,zn z11,zn z12,zn z13,zn z14,zn z15,zn z16,zn z17,zn z18,zn z19⟩;have mt:∃t,mg "MOST_THINGS"=some (.int 40 t):=⟨_,PySem.W.mg_of X G m0⟩;have ER:au2 K mg zwy [(("NoTurn":Str),zzy),(("NoFit":Str),zxx),(("NoRounds":Str),zzx),(("NoNumber":Str),zyy),(("NoRoot":Str),zx),(("TooMany":Str),zyx),(("NoKind":Str),zxz),(("NoText":Str),zzz),(("NoName":Str),zxy),(("NoRow":Str),zwz)]:=co5 X G uT uTb uTc uTt uG uK uC uP (show (["NoTurn","NoFit","NoRounds","NoNumber","NoRoot","TooMany","NoKind","NoText","NoName","NoRow"]:List Str).Nodup by decide+kernel)
 have ES:∀p∈[(("NoTurn":Str),zzy),(("NoFit":Str),zxx),(("NoRounds":Str),zzx),(("NoNumber":Str),zyy),(("NoRoot":Str),zx),(("TooMany":Str),zyx),(("NoKind":Str),zxz),(("NoText":Str),zzz),(("NoName":Str),zxy),(("NoRow":Str),zwz)],dq9 K p.2:=fun p hp=>⟨(uC.get p hp).s,(uC.get p hp).b⟩
 have zlx:Z8 K mg "NoTurn" zzy:=ER.err ("NoTurn",zzy) (by simp);have e_NoFit:Z8 K mg "NoFit" zxx:=ER.err ("NoFit",zxx) (by simp);have zuz:Z8 K mg "NoRounds" zzx:=ER.err ("NoRounds",zzx) (by simp);have e_NoNumber:Z8 K mg "NoNumber" zyy:=ER.err ("NoNumber",zyy) (by simp);have e_NoRoot:Z8 K mg "NoRoot" zx:=ER.err ("NoRoot",zx) (by simp);have e_TooMany:Z8 K mg "TooMany" zyx:=ER.err ("TooMany",zyx) (by simp);have e_NoKind:Z8 K mg "NoKind" zxz:=ER.err ("NoKind",zxz) (by simp);have zt:Z8 K mg "NoText" zzz:=ER.err ("NoText",zzz) (by simp);have e_NoName:Z8 K mg "NoName" zxy:=ER.err ("NoName",zxy) (by simp);have e_NoRow:Z8 K mg "NoRow" zwz:=ER.err ("NoRow",zwz) (by simp)
 have b0:=F0.binds (ps:=["thing"]) fun _ _ _ _ _ _=>Y9 fun _=>rfl
 have b1:=F1.binds (ps:=["p","first"]) fun _ _ _ _ _ _=>bn2 fun _ _=>rfl
 have b2:=F2.binds (ps:=["p"]) fun _ _ _ _ _ _=>Y9 fun _=>rfl
 have b3:=F3.binds (ps:=["target","ring","steps"]) fun _ _ _ _ _ _=>bn3 fun _ _ _=>rfl
 have b4:=F4.binds (ps:=["thing"]) fun _ _ _ _ _ _=>Y9 fun _=>rfl
 have b5:=F5.binds (ps:=["thing"]) fun _ _ _ _ _ _=>Y9 fun _=>rfl
 have b6:=F6.binds (ps:=["p"]) fun _ _ _ _ _ _=>Y9 fun _=>rfl
 have b7:=F7.binds (ps:=["rounds"]) fun _ _ _ _ _ _=>Y9 fun _=>rfl
 have b8:=F8.binds (ps:=["rounds"]) fun _ _ _ _ _ _=>Y9 fun _=>rfl
 have b9:=F9.binds (ps:=["rounds"]) fun _ _ _ _ _ _=>Y9 fun _=>rfl
 have b10:=F10.binds (ps:=["ring"]) fun _ _ _ _ _ _=>Y9 fun _=>rfl
 have b11:=F11.binds (ps:=["p"]) fun _ _ _ _ _ _=>Y9 fun _=>rfl
 have b12:=F12.binds (ps:=["word"]) fun _ _ _ _ _ _=>Y9 fun _=>rfl
 have b13:=F13.binds (ps:=["text"]) fun _ _ _ _ _ _=>Y9 fun _=>rfl
 have b14:=F14.binds (ps:=["text"]) fun _ _ _ _ _ _=>Y9 fun _=>rfl
 have b15:=F15.binds (ps:=["text"]) fun _ _ _ _ _ _=>Y9 fun _=>rfl
 have b16:=F16.binds (ps:=["script","k"]) fun _ _ _ _ _ _=>bn2 fun _ _=>rfl
 have b17:=F17.binds (ps:=["cell","many"]) fun _ _ _ _ _ _=>bn2 fun _ _=>rfl
 have b18:=F18.binds (ps:=["cell","many"]) fun _ _ _ _ _ _=>bn2 fun _ _=>rfl
 have b19:=F19.binds (ps:=["deck","many"]) fun _ _ _ _ _ _=>bn2 fun _ _=>rfl
 have b20:=F20.binds (ps:=["deck","most"]) fun _ _ _ _ _ _=>bn2 fun _ _=>rfl
 have b21:=F21.binds (ps:=["p"]) fun _ _ _ _ _ _=>Y9 fun _=>rfl
 have b22:=F22.binds (ps:=["p"]) fun _ _ _ _ _ _=>Y9 fun _=>rfl
 have b23:=F23.binds (ps:=["found","due"]) fun _ _ _ _ _ _=>bn2 fun _ _=>rfl
 have b24:=F24.binds (ps:=["text"]) fun _ _ _ _ _ _=>Y9 fun _=>rfl
 have b25:=F25.binds (ps:=["text"]) fun _ _ _ _ _ _=>Y9 fun _=>rfl
 have b26:=F26.binds (ps:=["text","deck"]) fun _ _ _ _ _ _=>bn2 fun _ _=>rfl
 have b27:=F27.binds (ps:=["p","deck"]) fun _ _ _ _ _ _=>bn2 fun _ _=>rfl
 have b28:=F28.binds (ps:=["number"]) fun _ _ _ _ _ _=>Y9 fun _=>rfl
 have b29:=F29.binds (ps:=["thing"]) fun _ _ _ _ _ _=>Y9 fun _=>rfl
 have b30:=F30.binds (ps:=["deck","p"]) fun _ _ _ _ _ _=>bn2 fun _ _=>rfl
 obtain ⟨oc,od,kV,dc,pm,an,cd,ct,sl,rfl,lk,hcd⟩:=id F31.ex;refine ⟨PySem.W.fnOf "law" "law" (af6 ax6) (W0 ax6) (o7 ax6) .none kV dc pm an cd ct,fun s v=> .of_eq rfl,fun base _ _=> ?_⟩;have zqx:B7 l.prog w K mg base "is_whole" 1 ["thing"] (ax7 K):=D0 X G a0 F0 b0 (cv9 F0 B);have zd:B7 l.prog w K mg base "walk_ring" 1 ["p","first"] bu3:=D0 X G a1 F1 b1 (dc6 F1);have zlz:B7 l.prog w K mg base "walk_rings" 2 ["p"] Y7:=D0 X G a2 F2 b2 (cw0 F2 B zd);have zly:B7 l.prog w K mg base "send_along" 1 ["target","ring","steps"] bu4:=D0 X G a3 F3 b3 (dc7 F3 B);have zv:B7 l.prog w K mg base "is_turn" 2 ["thing"] (ah4 ab4 (ay0 K)):=D0 X G a4 F4 b4 (bo9 (co6 F4 B mt zqx) (cg1 F4 B mt zqx));have zkz:T0 l.prog w K mg base "must_be_turn" 3 ["thing"] (fun vs H Q E=>au7 vs H Q E\/(W9 K zzy) vs H Q E):=ab3 X G a5 F5 b5 (w6.or (w6.lift (cc4 F5 (aj7 zv))) (bb7 F5 zv zlx));have ztz:B7 l.prog w K mg base "must_be_turn" 3 ["thing"] au7:=D0 X G a5 F5 b5 (cc4 F5 (aj7 zv));have zf:T0 l.prog w K mg base "rounds_of" 4 ["p"] (fun vs H Q E=>Y7 vs H Q E\/(W9 K zzy) vs H Q E):=ab3 X G a6 F6 b6 (w6.or (w6.lift (az3 F6 ztz zlz)) (bn7 F6 zkz));have zux:B7 l.prog w K mg base "rounds_of" 4 ["p"] Y7:=D0 X G a6 F6 b6 (az3 F6 ztz zlz);have zwx:B7 l.prog w K mg base "are_filled_lists" 1 ["rounds"] (ah4 aq4 av4):=D0 X G a7 F7 b7 (bo9 (co9 F7 B) (as0 F7 B));have zty:B7 l.prog w K mg base "things_in" 1 ["rounds"] (ah4 aq5 av5):=D0 X G a8 F8 b8 (bo9 (cp0 F8) (bv2 F8));have zjx:bf0 l.prog w K mg base "from_rounds" 3 ["rounds"] (fun vs H Q E=>be5 vs H Q E\/(bh7 zzx) vs H Q E):=cw8 X G a9 F9 b9 (w6.or (w6.lift (cc5 F9 (aj7 zwx) (aj7 zty) (aj7 zv) zly)) (bf1 F9 zwx zty zv zuz));have zmz:B7 l.prog w K mg base "from_rounds" 3 ["rounds"] be5:=D0 X G a9 F9 b9 (cc5 F9 (aj7 zwx) (aj7 zty) (aj7 zv) zly);have zvz:B7 l.prog w K mg base "show_round" 1 ["ring"] ax9:=D0 X G a10 F10 b10 (bn6 F10 B);have zfz:T0 l.prog w K mg base "show_turn" 5 ["p"] (fun vs H Q E=>au8 vs H Q E\/(W9 K zzy) vs H Q E):=ab3 X G a11 F11 b11 (w6.or (w6.lift (av0 F11 zux zvz)) (bo3 F11 zf zvz));have ztx:B7 l.prog w K mg base "show_turn" 5 ["p"] au8:=D0 X G a11 F11 b11 (av0 F11 zux zvz);have zh:T0 l.prog w K mg base "read_thing" 1 ["word"] (cg7 zzz):=ab3 X G a12 F12 b12 (bh9 F12 B mt zt);have zhz:T0 l.prog w K mg base "read_round" 2 ["text"] (cg8 zzz):=ab3 X G a13 F13 b13 (bi0 F13 zh);have zi:T0 l.prog w K mg base "read_rounds" 3 ["text"] (cg9 zzz):=ab3 X G a14 F14 b14 (bf2 F14 zhz);have zfy:T0 l.prog w K mg base "read_turn" 6 ["text"] (bi2 K zzz):=ab3 X G a15 F15 b15 (bo2 F15 B zi zjx ztx zt zuz ER);have zsy:B7 l.prog w K mg base "_law_cell_at" 1 ["script","k"] (bu7 K):=D0 X G a16 F16 b16 (bh2 F16 B);have zvy:B7 l.prog w K mg base "_law_numbers" 1 ["cell","many"] V2:=D0 X G a17 F17 b17 (bh3 F17 B);have zny:B7 l.prog w K mg base "_law_deck" 2 ["cell","many"] V2:=D0 X G a18 F18 b18 (by8 F18 zvy);have zy:B7 l.prog w K mg base "_law_take" 1 ["deck","many"] ai4:=D0 X G a19 F19 b19 (bz0 F19);have znx:B7 l.prog w K mg base "_law_turn" 2 ["deck","most"] bh4:=D0 X G a20 F20 b20 (bz1 F20 B zy)
 have zvx:B7 l.prog w K mg base "_law_rounds" 1 ["p"] ax8:=D0 X G a21 F21 b21 (bn4 F21 B);have zq:B7 l.prog w K mg base "_law_written" 2 ["p"] ch7:=D0 X G a22 F22 b22 (bj0 F22 B zvx);have zsz:B7 l.prog w K mg base "_law_alike" 2 ["found","due"] (ah4 ar1 bc6):=D0 X G a23 F23 b23 (bo9 (w6.mono (aw5 F23 B) (by decide:1<=2)) (bo5 F23 B (D0 X G a23 F23 b23 (aw5 F23 B))));have zm:B7 l.prog w K mg base "_law_read" 1 ["text"] bi4:=D0 X G a24 F24 b24 (bz5 F24 B);have zoz:B7 l.prog w K mg base "_law_asked" 7 ["text"] (bi5 K):=D0 X G a25 F25 b25 (bw8 F25 B zfy ER);have zqy:B7 l.prog w K mg base "_law_changed" 2 ["text","deck"] ch8:=D0 X G a26 F26 b26 (bj1 F26 B zy);have zuy:B7 l.prog w K mg base "_law_rounds_changed" 2 ["p","deck"] bx1:=D0 X G a27 F27 b27 (an5 F27 B zvx zy);have zmx:B7 l.prog w K mg base "_law_odd" 1 ["number"] bx0:=D0 X G a28 F28 b28 (ch9 F28 B);have zo:B7 l.prog w K mg base "_law_shown" 6 ["thing"] (bi6 K):=D0 X G a29 F29 b29 (bw9 F29 B zfz ER);have zqz:B7 l.prog w K mg base "_law_no_turn" 2 ["deck","p"] (ch6 K):=D0 X G a30 F30 b30 (bi8 F30 B zy);exact dk3 F31 B zny zsy zvy znx zy zq zo zqz zqy zuy zmx zm zoz zsz
theorem dt2 {l:PySem.W.OpenLaw}{q:Program}{loose:List Str}{XP:(Str->Option Value)->Heap->Prop}{YP:World->Heap->Prop}{d:DefRec}{K:Params->PySem.W.Frag}(hn:l.most=some 63)(hdf:d.params.defaults=[])
   (hY:∀(w:World) (h:Heap),YP w h->(K w.params).In h)
   (F:∀(w:World) (mg:Str->Option Value) (fa:Addr) (h:Heap),(K w.params).In h->h.Ns mainGlobals mg->mg d.name=some (.ref fa)->
     ∃fd:FuncData,(∀(s:Shared) (u:Value),BindsTo s fd ⟨[u],[]⟩ [("script",u)])/\∀base:Heap,(K w.params).In base->base.Ns mainGlobals mg->w6 l.prog w (K w.params) mg base J8 8 fa fd ["script"] (bp4 (K w.params))):
   PySem.W.WalkO q loose XP YP l.row.toRowW d [] (fun f vs=>PySem.call f vs):=
 L2.dr4 (n:=63) (k:=8) (x:="script") (CX:=fun _=>J8) (sp:=fun w=>bp4 (K w.params)) hn (by decide) hdf ⟨rfl,by decide,by decide,rfl⟩ hY F (fun _ _ a ns hl _ hS=>⟨a,ns,rfl,hS,hl,fun _=>rfl⟩) fun _ _ _ _ _ z=>z
end My
end
def PySem.W.Fast.tw11930349713147468157 : Unit := ()
def PySem.W.Fast.tw10712668347239890060 : Unit := ()
def PySem.W.Fast.tw13283417286297131158 : Unit := ()
def PySem.W.Fast.tw16213456607934522320 : Unit := ()
def PySem.W.Fast.tw2169722433518604316 : Unit := ()
def PySem.W.Fast.tw12338205544297269330 : Unit := ()
def PySem.W.Fast.tw14582397919330077351 : Unit := ()
def PySem.W.Fast.tw6572854859603440266 : Unit := ()
def PySem.W.Fast.tw15434275292540737709 : Unit := ()
def PySem.W.Fast.tw403513292544359556 : Unit := ()
def PySem.W.Fast.tw17079721589219168094 : Unit := ()
def PySem.W.Fast.tw5498087210720736085 : Unit := ()
def PySem.W.Fast.tw5398125245631177116 : Unit := ()
def PySem.W.Fast.tw3916612460555986043 : Unit := ()
def PySem.W.Fast.tw4388748708432670908 : Unit := ()
abbrev PySem.W.Fast.tw13445301065683384641:PySem.Program:=PySem.Challenge.pw_turnroots_k47_texts_of_no_turn
theorem PySem.W.Fast.te13445301065683384641:PySem.Challenge.pw_turnroots_k47_texts_of_no_turn=PySem.W.Fast.tw13445301065683384641:=rfl
abbrev PySem.W.Fast.tw90343872475197607:Type:=PySem.Params
theorem PySem.W.Fast.te90343872475197607:PySem.Params=PySem.W.Fast.tw90343872475197607:=rfl
open PySem PySem.W PyProof.Rows L2
set_option maxRecDepth 100000 in
set_option maxHeartbeats 0 in
theorem PySem.Challenge.cw_turnroots_k47_texts_of_no_turn_holds : PySem.Challenge.rw_turnroots_k47_texts_of_no_turn.Holds := by
  w_on; o_law; k_head; (case hw => w_witness2)
  k_fill
  refine My.dt2 (l := PySem.Challenge.rw_turnroots_k47_texts_of_no_turn) rfl rfl (fun w h Y => PySem.W.kIn_of Y) ?F
  case F =>
    intro w mg fa h KX G hmg
    refine' My.dt1 KX G hmg ?_ ?_ ?_ ?_ ?_ ?_ ?_ ?_ ?_ ?_ ?_ ?_ ?_ ?_ ?_ ?_ ?_ ?_ ?_ ?_ ?_ ?_ ?_ ?_ ?_ ?_ ?_ ?_ ?_ ?_ ?_ ?_ ?_ ?_ ?_ ?_ ?_ ?_ ?_ ?_ ?_ ?_
    all_goals first
      | k_is
      | (refine' dn0 ?a ?l ?c ?k; (case a => k_is); (case l => k_is); (case c => k_is); (case k => k_is))
      | ((repeat (refine' And.intro (ClF.mk ?n ?e ?g ?h ?c ?b ?o ?i ?t ?u ?v ?s) ?_; (case n => k_is); (case e => k_exc); (case g => k_is); (case h => k_is); (case c => k_is); (case b => k_is); (case o => k_is); (case i => k_is); (case t => k_is); (case u => k_is); (case v => k_is); (case s => k_is))); exact trivial)
      | ((repeat (refine' And.intro ?n ?_; (case n => k_is))); exact trivial)
      | ((repeat (refine' And.intro ?zp ?_; (case zp => ((repeat (refine' And.intro ?n ?_; (case n => k_is))); exact trivial)))); exact trivial)
      | skip
#print axioms PySem.Challenge.cw_turnroots_k47_texts_of_no_turn_holds
