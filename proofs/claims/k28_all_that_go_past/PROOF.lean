import PyProof.Rows.All
import Wide.All
import OpenK.AllK
import Wide.FinOn
import Lean
import PyProof.EqAt
import PyProof.EqKinds
import PyProof.TupleCall
import PyProof.NeKinds
import PyProof.EnumMake
import PyProof.Rows.SeqMore2
import PyProof.ZipIter
import PyProof.Rows.SortRev
import PyProof.Rows.SortWalk
import PyProof.Rows.CallKwBuiltin
import PyProof.DictIter
import PyProof.DictWalks
import PyProof.MeetsDict
import PyProof.Conv_int_bool
import PyProof.EqAt
import PyProof.CollectWalk
import PyProof.Rows.SortShell
import PyProof.Rows.Range3
import PyProof.CallFns
import PyProof.StrBlockH
import PySem.Challenge.RW_turnroots_k28_all_that_go_past
open List renaming length_map→ct1, getElem?_eq_getElem→ct2, getElem?_eq_some_iff→ct3, mem_cons_of_mem→ct5, length_append→ct6, mem_cons_self→ct7, getElem?_map→ct8, map_append→ct9, mem_of_getElem?→cu0, size_toArray→cu1, length_take→cu2, mem_map→cu3, getElem?_eq_none→cu4, mem_append→cu5, append_assoc→cu6, mem_append_right→cu7, getD_eq_getElem?_getD→cu9, mem_cons→cv5, mem_singleton→cv6, length_cons→cv7, nodup_iff_pairwise_ne→cv8, append_nil→cw0, length_drop→cw1, take_length→cw2, pairwise_iff_getElem→cw3, mem_iff_getElem?→cw5, mem_flatten→cw6, range→cw9, nodup_cons→cx0, getElem?_append_right→cx2, getElem?_append_left→cx3, take_append_drop→cx4, getElem?_take_of_lt→cx5, mem_append_left→cx6, ext_getElem?→cx8, length_range→cx9, nodup_append→cy3, map_cons→cy4, perm_append_comm→cy5, map_map→cy6, map_congr_left→cy7, mem_range→cy9, getElem_mem→cz0, flatten_cons→cz1, take_of_length_le→cz2, lookup_cons→cz5, mem_of_mem_take→cz6, flatMap_cons→cz7, nodup_nil→cz8, filterMap_cons→da0, getElem?_range→da1, drop_eq_getElem_cons→da4, getElem?_drop→da5, mem_filter→da6, pairwise_map→da8, eq_nil_of_length_eq_zero→da9, flatten_append→db0, all_eq_true→db1, countP_cons→db2, drop_eq_nil_of_le→db3, mem_flatMap→db4, mem_of_mem_drop→db6, take_zero→db7, countP_eq_zero→db9, reverse_append→dc0, mem_reverse→dc1, map_nil→dc2, pairwise_singleton→dc4, getElem?_set_self→dc6, find?_cons→dc8, flatten_singleton→dc9, countP_map→dd2, length_singleton→dd3, getElem?_set_ne→dd5, perm_ext_iff_of_nodup→dd7, length_reverse→dd8, map_take→dd9, flatMap_append→de0, filter_sublist→de1, length_set→de2, range_succ→de3, map_id→de4, filter_append→de5, filter_cons_of_pos→de6, filter_cons_of_neg→de7, countP_congr→de9, foldl_append→df0, pairwise_lt_range→df1, length_replicate→df2, any_cons→df3, getElem?_reverse→df5, length_filter_le→df6, flatMap_nil→df7, getElem?_of_mem→df8, drop_append_of_le_length→df9, filter_nil→dg0, countP_eq_length_filter→dg2, drop_zero→dg3, mem_filterMap→dg4, append_of_mem→dg5, pairwise_cons→dg6, getElem?_take→dg8, length→dh0, extract_eq_take_drop→dh4, map_drop→dh5, getElem?_replicate→dh8, getElem?_cons_zero→dh9, getElem?_cons_succ→di0, length_eq_zero_iff→di1, of_mem_zip→di2, length_nil→di3, take_succ→di6
open Nat renaming le_refl→ct4, zero_le→cv9, ne_of_lt→cw4, le_trans→cw7, lt_of_lt_of_le→cw8, lt_of_le_of_lt→cy0, le_of_lt→cz3, lt_irrefl→da3, add_le_add_left→db8, add_comm→dc3, add_zero→dc5, min_eq_left→dd0, mul_assoc→dd1, zero_add→dd4, mul_div_cancel_left→de8, le_add_right→df4, le_of_eq→dg1, lt_or_eq_of_le→dg7, lt_succ_of_lt→dh2, le_succ→di5
open Bool renaming false_ne_true→cu8, and_eq_true→cx7, false_eq_true→cz9, eq_iff_iff→dc7, or_eq_true→di4
open Array renaming length_toList→cv0, toList_append→cx1, getElem?_toList→cy1, toList→cz4, perm_iff_toList_perm→da2, toList_push→db5, toList_reverse→dd6, getElem?_eq_getElem→dh3, toList_map→dh7
open Option renaming map_eq_some_iff→cy2, isSome_map→dh1, isSome_iff_exists→dh6
open Int renaming eq_ofNat_of_zero_le→cy8, toNat_natCast→da7, fdiv_eq_ediv_of_nonneg→dg9
set_option Elab.async false
set_option linter.all false
set_option maxRecDepth 100000
set_option maxHeartbeats 8000000
section
local macro_rules|`(tactic|omega)=>`(tactic|lia)
local macro_rules|`(tactic|trivial)=>`(tactic|first|exact .inl rfl|exact .inr rfl|assumption)
local macro_rules|`(tactic|rfl')=>`(tactic|exact ⟨rfl,rfl,rfl,by decide+kernel,rfl,by decide+kernel,by decide+kernel⟩)
namespace L2
open PySem PySem.Spec PyProof.Rows
abbrev m9:=Sum Int Str
def ai6:m9->Value->Bool
 | .inl k,v=>Value.isInt k v
 | .inr x,v=>Value.isStrOf x v
def co8 (w:World):m9->Int
 | .inl k=>hashInt k
 | .inr x=>hashStr w x
theorem E5:∀{k:m9} {v:Value},ai6 k v=true->(∃i t,k=Sum.inl i/\v=Value.int i t)\/(∃x t,k=Sum.inr x/\v=Value.str x t)
 | .inl i,v,h=>by
   obtain ⟨t,e⟩:=Value.isInt_shape (k:=i) (v:=v) h;exact .inl ⟨i,t,rfl,e⟩
 | .inr x,v,h=>by
   obtain ⟨t,e⟩:=Value.isStrOf_shape (x:=x) (v:=v) h;exact .inr ⟨x,t,rfl,e⟩
theorem bm7 (i:Int)(t:Tok):ai6 (.inl i) (.int i t)=true:=by simp [ai6,Value.isInt]
theorem bm8 (x:Str)(t:Tok):ai6 (.inr x) (.str x t)=true:=by simp [ai6,Value.isStrOf]
theorem cg1 (a b:Int):decide ((Sum.inl a:m9)=Sum.inl b)=(a==b):=by
 by_cases e:a=b
 · subst e;simp
 · have h:¬(Sum.inl a:m9)=Sum.inl b:=fun q=>e (Sum.inl.inj q)
   rw[decide_eq_false h];exact (beq_eq_false_iff_ne.mpr e).symm
theorem cg2 (a b:Str):decide ((Sum.inr a:m9)=Sum.inr b)=decide (a=b):=by
 by_cases e:a=b
 · subst e;simp
 · have h:¬(Sum.inr a:m9)=Sum.inr b:=fun q=>e (Sum.inr.inj q)
   rw[decide_eq_false h,decide_eq_false e]
theorem cg3 (a:Int)(b:Str):decide ((Sum.inl a:m9)=Sum.inr b)=false:=decide_eq_false (fun q=>nomatch q)
theorem cg4 (a:Str)(b:Int):decide ((Sum.inr a:m9)=Sum.inl b)=false:=decide_eq_false (fun q=>nomatch q)
def A2 (prog:Program)(w:World):PySem.KeyKind prog w m9 where
 is:=ai6
 hash:=co8 w
 inj:=fun v a b ha hb=>by
   rcases E5 ha with ⟨i,t,rfl,rfl⟩|⟨x,t,rfl,rfl⟩
   · rcases E5 hb with ⟨j,u,rfl,e⟩|⟨y,u,rfl,e⟩
     · injection e with e1 _;rw[e1]
     · exact nomatch e
   · rcases E5 hb with ⟨j,u,rfl,e⟩|⟨y,u,rfl,e⟩
     · exact nomatch e
     · injection e with e1 _;rw[e1]
 byValue:=fun k v h=>by
   rcases E5 h with ⟨i,t,rfl,rfl⟩|⟨x,t,rfl,rfl⟩<;>rfl
 pyHash:=fun hv h=>by
   rcases E5 hv with ⟨i,t,rfl,rfl⟩|⟨x,t,rfl,rfl⟩
   · exact wpAny_pyHash_int h
   · exact wpAny_pyHash_str h
 eqBool:=fun hu hv h=>by
   rcases E5 hu with ⟨i,t,rfl,rfl⟩|⟨x,t,rfl,rfl⟩
   · rcases E5 hv with ⟨j,u,rfl,rfl⟩|⟨y,u,rfl,rfl⟩
     · rw[cg1] at h;exact wpAny_eqBool_int h
     · rw[cg3] at h;exact SeqAt.EqAt.int_str i t y u _ _ _ _ h
   · rcases E5 hv with ⟨j,u,rfl,rfl⟩|⟨y,u,rfl,rfl⟩
     · rw[cg4] at h;exact SeqAt.EqAt.str_int x t j u _ _ _ _ h
     · rw[cg2] at h;exact wpAny_eqBool_str h
 «strs»:=fun k x t v h=>by
   rcases E5 h with ⟨i,u,rfl,e⟩|⟨y,u,rfl,e⟩
   · exact nomatch e
   · injection e with e1 _
     subst e1
     cases v<;>rfl
theorem al4 (prog:Program)(w:World)(i:Int)(t:Tok):(A2 prog w).is (.inl i) (.int i t)=true:=bm7 i t
theorem al5 (prog:Program)(w:World)(x:Str)(t:Tok):(A2 prog w).is (.inr x) (.str x t)=true:=bm8 x t
end L2
namespace L2
open PySem PySem.Spec PyProof.Rows
inductive V where
 |non|bl (b:Bool)|int (i:Int)|str (x:Str)|byt (b:Array UInt8)|flt (b:UInt64)|ref (a:Addr)|ty (n:String)
 deriving DecidableEq
def l9:V->Value->Prop
 | .non,u=>u=Value.none
 | .bl b,u=>u=Value.bool b
 | .int i,u=>∃t,u=Value.int i t
 | .str x,u=>∃t,u=Value.str x t
 | .byt b,u=>∃t,u=Value.bytes b t
 | .flt b,u=>∃t,u=Value.float b t
 | .ref a,u=>u=Value.ref a
 | .ty n,u=>u=Value.type n
abbrev j8:List V->List Value->Prop:=Paired l9
theorem j8.length {xs:List V}{us:List Value}(r:j8 xs us):xs.length=us.length:=Paired.length r
theorem j8.get:∀{xs:List V} {us:List Value} {i:Nat} {x:V},j8 xs us->xs[i]? =some x->∃u,us[i]? =some u/\l9 x u
 |_,_,_,_,.nil,e=>by simp at e
 |_,_,0,_,.cons r _,e=>by simp at e;subst e;exact ⟨_,rfl,r⟩
 |_,_,i+1,x,.cons _ t,e=>by
  obtain ⟨u,h1,h2⟩:=j8.get (i:=i) (x:=x) t (by simpa using e);exact ⟨u,by simpa using h1,h2⟩
theorem j8.set {x:V}{u:Value}(r:l9 x u):∀{xs:List V} {us:List Value} (i:Nat),j8 xs us->j8 (xs.set i x) (us.set i u)
 |_,_,_,.nil=> .nil
 |_,_,0,.cons _ t=> .cons r t
 |_,_,i+1,.cons q t=> .cons q (j8.set r i t)
theorem j8.append:∀{xs ys:List V} {us ws:List Value},j8 xs us->j8 ys ws->j8 (xs++ys) (us++ws)
 |_,_,_,_,.nil,s=>s
 |_,_,_,_,.cons r t,s=> .cons r (j8.append t s)
theorem j8.take:∀{xs:List V} {us:List Value} (n:Nat),j8 xs us->j8 (xs.take n) (us.take n)
 |_,_,0,_=> .nil
 |_,_,_+1,.nil=> .nil
 |_,_,n+1,.cons r t=> .cons r (j8.take n t)
theorem j8.drop:∀{xs:List V} {us:List Value} (n:Nat),j8 xs us->j8 (xs.drop n) (us.drop n)
 |_,_,0,r=>r
 |_,_,_+1,.nil=> .nil
 |_,_,n+1,.cons _ t=>j8.drop n t
def W5:Option V->Option Value->Prop
 |some v,some u=>l9 v u
 |none,none=>True
 |_,_=>False
def KV {κ:Type}:List (κ×V)->List (κ×Value)->Prop:=Paired fun (p:κ×V) (q:κ×Value)=>p.1=q.1/\l9 p.2 q.2
def kV:m9->V
 | .inl i=> .int i
 | .inr x=> .str x
inductive HO where
 |lst (xs:List V)
 |tup (xs:List V)
 |dK (kvs:List (m9×V))|dT (kvs:List (List m9×V))
 |set (S:Int->Bool) (n:Nat)
 |ins (C dx:Addr) (fs:List (Str×V))
 |own (x:Addr)
 |xd (fs:List (Str×V))
 |met (f x:Addr)
 |rng (lo hi:Int)
 |frz (o:Obj) (u:HO)
 |tbl (ps:Array Value)
 |ext (φ:Heap->Prop)
abbrev Hp:=Addr->Option HO
def c8 (H:Hp)(a:Addr)(o:HO):Hp:=fun b=>if b=a then some o else H b
theorem c7 {H:Hp}{a:Addr}{o:HO}:c8 H a o a=some o:=by unfold c8;rw[if_pos rfl]
theorem g8 {H:Hp}{a b:Addr}{o:HO}(h:b≠a):c8 H a o b=H b:=by unfold c8;rw[if_neg h]
theorem bz7 {H:Hp}{a b:Addr}{o u:HO}(h:H a=some o)(h':H b=some u)(d:o≠u):a≠b:=by
 intro e;subst e;rw[h] at h';exact d (Option.some.inj h')
theorem h7 {H:Hp}{a b:Addr}{o:HO}(h:H a=some o)(h':H b=none):a≠b:=by
 intro e;subst e;rw[h] at h';cases h'
section
variable (P:Program) (w:World)
def w4 (H:Hp)(h:Heap)(a:Addr):HO->Prop
 | .lst xs=>xs.length<=sizeLine/\∃(its:List Value) (n:Nat),j8 xs its/\h.get? a=some {cls:= .type "list",data:= .seq its.toArray n}
 | .tup xs=>xs.length<=sizeLine/\∃its:List Value,j8 xs its/\IsTup h a its.toArray
 | .dK kvs=>kvs.length<=sizeLine/\(a==sysModules)=false/\∃vs,KV kvs vs/\h.DictOf (A2 P w) a vs
 | .dT kvs=>kvs.length<=sizeLine/\(a==sysModules)=false/\∃xs:List (List m9×Addr×Value),
     Paired (fun (p:List m9×V) (q:List m9×Addr×Value)=>p.1=q.1/\H q.2.1=some (.tup (p.1.map kV))/\l9 p.2 q.2.2) kvs xs/\
     ∃o es ep,h.get? a=some o/\o.ExactDict/\o.data= .dict es ep/\es.toList=xs.map (entryOfKey (tupleKind (A2 P w)))/\(xs.map (·.1)).Nodup
 | .set S n=>h.SetOf (intKind P w) a S n
 | .ins C dx fs=>H dx=some (.own a)/\fs.length<=1000/\dx≠a/\h.get? a=some (PySem.W.instObj C dx)/\
     ∃mA,h.Ns1 dx mA/\(∀f,W5 (fs.lookup f) (mA f))/\PySem.Within mA (fs.map (·.1))
 | .own _=>∃o,h.get? a=some o
 | .xd fs=>∃mA,h.Ns1 a mA/\∀f,W5 (fs.lookup f) (mA f)
 | .rng lo hi=>∃t u v,h.get? a=some {cls:= .type "range",data:= .fields #[.int lo t,.int hi u,.int 1 v]}
 | .frz o u=>h.get? a=some o/\w4 H h a u
 | .tbl ps=>h.get? a=some {cls:= .none,data:= .fields ps}
 | .met f x=>h.get? a=some (PySem.W.methodObj (.ref f) (.ref x))
 | .ext φ=>φ h/\(∃o,h.get? a=some o)/\∀h1 h2:Heap,φ h1->(∀o,h1.get? a=some o->h2.get? a=some o)->φ h2
def D2 (H:Hp)(h:Heap):Prop:=∀a o,H a=some o->w4 P w H h a o
end
section
variable {P:Program} {w:World} {H H':Hp} {h h':Heap} {a:Addr} {o:HO}
theorem w4.lt (x:w4 P w H h a o):a < h.objs.size:=by
 cases o with
 |lst xs=>obtain ⟨_,_,_,_,e⟩:=x;exact Heap.lt_size e
 |tup xs=>obtain ⟨_,_,_,p⟩:=x;exact p.lt
 |dK kvs=>obtain ⟨_,_,_,_,o,_,_,e,_⟩:=x;exact Heap.lt_size e
 |dT kvs=>obtain ⟨_,_,_,_,o,_,_,e,_⟩:=x;exact Heap.lt_size e
 |set S n=>obtain ⟨o,_,_,_,e,_⟩:=x;exact Heap.lt_size e
 |ins C dx fs=>obtain ⟨_,_,_,e,_⟩:=x;exact Heap.lt_size e
 |own y=>obtain ⟨_,e⟩:=x;exact Heap.lt_size e
 |xd fs=>obtain ⟨_,⟨_,_,_,e,_⟩,_⟩:=x;exact Heap.lt_size e
 |rng lo hi=>obtain ⟨_,_,_,e⟩:=x;exact Heap.lt_size e
 |frz ob u=>obtain ⟨e,_⟩:=x;exact Heap.lt_size e
 |tbl ps=>exact Heap.lt_size (show h.get? a=some _ from x)
 |met f y=>exact Heap.lt_size (show h.get? a=some _ from x)
 |ext φ=>obtain ⟨_,⟨_,e⟩,_⟩:=x;exact Heap.lt_size e
theorem Paired.mapP {α β:Type}{F G:α->β->Prop}:∀{l₁:List α} {l₂:List β},Paired F l₁ l₂->(∀a b,F a b->G a b)->Paired G l₁ l₂
 |_,_,.nil,_=> .nil
 |_,_,.cons r t,f=> .cons (f _ _ r) (Paired.mapP t f)
theorem w4.stay (x:w4 P w H h a o)(k:∀b u,(b=a\/H b=some (.own a))->h.get? b=some u->h'.get? b=some u)
   (ho:∀b,H b=some (.own a)->H' b=some (.own a)) (ht:∀b xs,H b=some (.tup xs)->H' b=some (.tup xs)):w4 P w H' h' a o:=by
 induction o with
 |lst xs=>obtain ⟨z,its,n,r,e⟩:=x;exact ⟨z,its,n,r,k _ _ (.inl rfl) e⟩
 |tup xs=>obtain ⟨z,its,r,ob,e,c⟩:=x;exact ⟨z,its,r,ob,k _ _ (.inl rfl) e,c⟩
 |dK kvs=>obtain ⟨z,y,vs,r,ob,es,ep,e,c⟩:=x;exact ⟨z,y,vs,r,ob,es,ep,k _ _ (.inl rfl) e,c⟩
 |dT kvs=>
  obtain ⟨z,y,xs,r,ob,es,ep,e,c⟩:=x;exact ⟨z,y,xs,Paired.mapP r fun p q z=>⟨z.1,ht _ _ z.2.1,z.2.2⟩,ob,es,ep,k _ _ (.inl rfl) e,c⟩
 |set S n=>obtain ⟨ob,es,ep,t,e,c⟩:=x;exact ⟨ob,es,ep,t,k _ _ (.inl rfl) e,c⟩
 |ins C dx fs=>
  obtain ⟨d,z,ne,e,mA,⟨od,es,ep,e2,c⟩,r⟩:=x;exact ⟨ho _ d,z,ne,k _ _ (.inl rfl) e,mA,⟨od,es,ep,k _ _ (.inr d) e2,c⟩,r⟩
 |own y=>obtain ⟨ob,e⟩:=x;exact ⟨ob,k _ _ (.inl rfl) e⟩
 |xd fs=>obtain ⟨mA,⟨od,es,ep,e,c⟩,r⟩:=x;exact ⟨mA,⟨od,es,ep,k _ _ (.inl rfl) e,c⟩,r⟩
 |rng lo hi=>obtain ⟨t,u,v,e⟩:=x;exact ⟨t,u,v,k _ _ (.inl rfl) e⟩
 |frz ob u ih=>obtain ⟨e,q⟩:=x;exact ⟨k _ _ (.inl rfl) e,ih q⟩
 |tbl ps=>
  have e:h.get? a=some {cls:= .none,data:= .fields ps}:=x;show h'.get? a=some {cls:= .none,data:= .fields ps};exact k a _ (.inl rfl) e
 |met f y=>
  have e:h.get? a=some (PySem.W.methodObj (.ref f) (.ref y)):=x;show h'.get? a=some (PySem.W.methodObj (.ref f) (.ref y));exact k a _ (.inl rfl) e
 |ext φ=>obtain ⟨p,⟨o,e⟩,st⟩:=x;exact ⟨st _ _ p fun o q=>k _ _ (.inl rfl) q,⟨o,k _ _ (.inl rfl) e⟩,st⟩
theorem D2.lt (x:D2 P w H h)(e:H a=some o):a < h.objs.size:=(x a o e).lt
theorem D2.fresh (x:D2 P w H h)(e:h.objs.size<=a):H a=none:=by
 cases q:H a with
 |none=>rfl
 |some u=>exact absurd (cw8 (x.lt q) e) (da3 _)
theorem D2.kept (x:D2 P w H h)(k:∀b u,h.get? b=some u->h'.get? b=some u):D2 P w H h':=fun a o e=>
 (x a o e).stay (fun b u _ q=>k b u q) (fun _ q=>q) fun _ _ q=>q
theorem D2.laid (x:D2 P w H h)(k:∀b u,h.get? b=some u->h'.get? b=some u)(hp:h.objs.size<=a)(new:w4 P w (c8 H a o) h' a o):D2 P w (c8 H a o) h':=fun b u e=>by
 have hn:=x.fresh hp
 by_cases hb:b=a
 · subst hb;rw[c7] at e;cases e;exact new
 · rw[g8 hb] at e
   exact (x b u e).stay (fun c v _ q=>k c v q) (fun c q=>by rw[g8 (h7 q hn)];exact q) fun c xs q=>by rw[g8 (h7 q hn)];exact q
end
def Rd (H:Hp)(a:Addr)(u:HO):Prop:=H a=some u\/∃o,H a=some (.frz o u)
theorem Rd.ok {P:Program}{w:World}{H:Hp}{h:Heap}{a:Addr}{u:HO}(r:Rd H a u)(x:D2 P w H h):w4 P w H h a u:=by
 rcases r with r|⟨o,r⟩
 · exact x a u r
 · obtain ⟨_,q⟩:=x a _ r;exact q
def Mut:Option HO->Prop
 |some (.lst _)=>True
 |some (.dK _)=>True
 |some (.dT _)=>True
 |some (.set _ _)=>True
 |some (.ins _ _ _)=>True
 |some (.ext _)=>True
 |_=>False
section
variable {P:Program} {w:World} {H:Hp} {h h':Heap} {x e:Addr} {o':HO}
theorem D2.write (ok:D2 P w H h)(mu:Mut (H x))(he:e=x\/H e=some (.own x))(k:∀b u,b≠e->h.get? b=some u->h'.get? b=some u)(heo:∃u,h'.get? e=some u)
   (new:w4 P w (c8 H x o') h' x o'):D2 P w (c8 H x o') h':=fun b u q=>by
 have nown:∀c y,H c=some (.own y)->c≠x:=fun c y r z=>by subst z;rw[r] at mu;exact mu
 have ntup:∀c xs,H c=some (.tup xs)->c≠x:=fun c xs r z=>by subst z;rw[r] at mu;exact mu
 by_cases hb:b=x
 · subst hb;rw[c7] at q;cases q;exact new
 · rw[g8 hb] at q
   by_cases hbe:b=e
   · have q':H b=some (.own x):=by
       rcases he with z|z
       · exact absurd (hbe.trans z) hb
       · rw[hbe];exact z
     rw[q] at q';cases q';obtain ⟨v,hv⟩:=heo;exact ⟨v,by rw[hbe];exact hv⟩
   · refine (ok b u q).stay (fun c v hc r=>k c v ?_ r) (fun c r=>by rw[g8 (nown c b r)];exact r) fun c xs r=>by rw[g8 (ntup c xs r)];exact r
     rcases hc with rfl|hc
     · exact hbe
     · rintro rfl
       rcases he with z|z
       · exact nown c b hc z
       · rw[hc] at z;cases z;exact hb rfl
end
structure Un (fs ex:List Addr)(H H':Hp)(h h':Heap):Prop where
 keep:∀b o,h.get? b=some o->H b=none->b∉fs->b∉ex->h'.get? b=some o
 slot:∀b o,h.get? b=some o->H b=none->b∈fs->b∉ex->∃sl,h'.get? b=some {o with slots:=sl}
 free:∀b o,h.get? b=some o->H b=none->b∉ex->H' b=none
 there:∀b o,h.get? b=some o->b∉ex->∃o',h'.get? b=some o'
 tups:∀b xs,H b=some (.tup xs)->H' b=some (.tup xs)
 frzs:∀b o u,H b=some (.frz o u)->H' b=some (.frz o u)
 tbls:∀b ps,H b=some (.tbl ps)->∃more,H' b=some (.tbl (ps++more))
section
variable {fs fs' ex ex':List Addr} {H H1 H2:Hp} {h h1 h2 h':Heap} {a x e:Addr} {o:HO}
theorem Un.any (u:Un fs ex H H1 h h1){b:Addr}{ob:Obj}(q:h.get? b=some ob)(n:H b=none)(hx:b∉ex):∃sl,h1.get? b=some {ob with slots:=sl}:=by
 by_cases hb:b∈fs
 · exact u.slot b ob q n hb hx
 · exact ⟨ob.slots,u.keep b ob q n hb hx⟩
theorem Un.kept (k:∀b u,h.get? b=some u->h'.get? b=some u):Un fs ex H H h h':=
 ⟨fun b ob q _ _ _=>k b ob q,fun b ob q _ _ _=>⟨ob.slots,k b ob q⟩,fun _ _ _ n _=>n,fun b ob q _=>⟨ob,k b ob q⟩,fun _ _ q=>q,fun _ _ _ q=>q,fun _ ps q=>⟨#[],by rw[q];simp⟩⟩
theorem Un.refl:Un fs ex H H h h:=Un.kept fun _ _ q=>q
theorem Un.laid (k:∀b u,h.get? b=some u->h'.get? b=some u)(hp:h.objs.size<=a)(hn:H a=none):Un fs ex H (c8 H a o) h h' where
 keep:=fun b u q _ _ _=>k b u q
 slot:=fun b u q _ _ _=>⟨u.slots,k b u q⟩
 free:=fun b u q n _=>by rw[g8 (cw4 (cw8 (Heap.lt_size q) hp))];exact n
 there:=fun b u q _=>⟨u,k b u q⟩
 tups:=fun b xs q=>by rw[g8 (h7 q hn)];exact q
 frzs:=fun b u xs q=>by rw[g8 (h7 q hn)];exact q
 tbls:=fun b ps q=>⟨#[],by rw[g8 (h7 q hn),q];simp⟩
theorem Un.write (mu:Mut (H x))(he:e=x\/H e=some (.own x))(k:∀b u,b≠e->h.get? b=some u->h'.get? b=some u)(heo:∃u,h'.get? e=some u):Un fs ex H (c8 H x o) h h':=by
 have hx:∀b,H b=none->b≠x:=fun b n z=>by subst z;rw[n] at mu;exact mu
 have hb:∀b,H b=none->b≠e:=fun b n z=>by
   subst z
   rcases he with r|r
   · exact hx b n r
   · rw[n] at r;cases r
 have hm:∀b u,H b=some u->¬Mut (some u)->b≠x:=fun b u q nm z=>by subst z;rw[q] at mu;exact nm mu
 refine ⟨fun b u q n _ _=>k b u (hb b n) q,fun b u q n _ _=>⟨u.slots,k b u (hb b n) q⟩,fun b u q n _=>by rw[g8 (hx b n)];exact n,fun b u q _=> ?_,
   fun b xs q=>by rw[g8 (hm b _ q fun z=>z)];exact q,fun b u xs q=>by rw[g8 (hm b _ q fun z=>z)];exact q,fun b ps q=>⟨#[],by rw[g8 (hm b _ q fun z=>z),q];simp⟩⟩
 by_cases hbe:b=e
 · subst hbe;exact heo
 · exact ⟨u,k b u hbe q⟩
end
def trk (h:Heap)(H:Hp):List Addr:=(cw9 h.objs.size).filter fun a=>(H a).isSome
def ab9 (h:Heap)(H:Hp):Heap:=PySem.W.hideAll h (trk h H)
theorem bn0 (h:Heap)(H:Hp):(ab9 h H).objs.size=h.objs.size:=PySem.W.hideAll_size _ _
theorem bv1 {h:Heap}{H:Hp}{b:Addr}{o:Obj}(e:h.get? b=some o)(n:H b=none):(ab9 h H).get? b=some o:=
 PySem.W.hideAll_get _ e fun hm=>by
   have q:(H b).isSome=true:=(da6.mp hm).2;rw[n] at q;simp at q
theorem cb2 {h:Heap}{H:Hp}{b:Addr}{o:Obj}(e:(ab9 h H).get? b=some o):h.get? b=some o/\H b=none:=by
 have e':h.get? b=some o:=PySem.W.of_hideAll (trk h H) e;refine ⟨e',?_⟩
 cases q:H b with
 |none=>rfl
 |some x=>
  have hm:b∈trk h H:=da6.mpr ⟨cy9.mpr (Heap.lt_size e'),by simp [q]⟩;have z:(ab9 h H).get? b=none:=PySem.W.hideAll_none (trk h H) hm;rw[z] at e;cases e
end L2
namespace L2
open PySem PySem.Spec PyProof.Rows
structure Mod (K:PySem.W.Frag)(mg:Str->Option Value)(base:Heap):Prop where
 kin:K.In base
 glob:base.Ns mainGlobals mg
 blt:∃mb,base.Ns builtinsNs mb/\∀x:Str,x≠"__name__"->mb x=bootBuiltins x
 nolimit:base.NoLimit
structure Cx where
 prog:Program
 w:World
 K:PySem.W.Frag
 mg:Str->Option Value
 base:Heap
 A:Around
 N:List Str
 s₀:Shared
 H₀:Hp
 env:Env
 outer:List Env
 stack:List Env
 ex:List Addr
 fn:Str->Bool
 calm:Bool
 pn:List (Addr×Obj)
 xe:Value->Shared->Prop
def B8 (l:List Env):List Addr:=l.filterMap (·.frame)
abbrev Cx.fs (X:Cx):List Addr:=B8 X.outer
def Vis (sc:Scope)(x:Str):Prop:=sc.names.lookup x=some .local\/sc.names.lookup x=some .cell\/sc.names.lookup x=some .free
def Loc (sc:Scope)(x:Str):Prop:=sc.names.lookup x=some .local\/sc.names.lookup x=some .cell
def co9 (env:Env)(h:Heap)(m:Str->Option Value)(x:Str)(u:Value):Prop:=
 (env.kindOf x=some .local/\m x=some u)\/((env.kindOf x=some .cell\/env.kindOf x=some .free)/\∃c,env.cells.lookup x=some c/\h.IsCell c (some u))
structure Cx.Ok (X:Cx):Prop where
 mod:Mod X.K X.mg X.base
 kind:X.env.scope.kind= .function
 glob:X.env.globals=mainGlobals
 blt:X.env.builtins=builtinsNs
 above:X.s₀.heap.objs.size<=X.env.locals
 inj:∀x y c,X.env.cells.lookup x=some c->X.env.cells.lookup y=some c->x=y
 has:∀x,(X.env.kindOf x=some .cell\/X.env.kindOf x=some .free)->∃c,X.env.cells.lookup x=some c
 cab:∀x c,X.fn x=true->X.env.cells.lookup x=some c->X.s₀.heap.objs.size<=c
 hd:X.calm=true->X.A.handled=none
 frames:X.A.frames=some X.stack
 stk:X.stack=X.outer\/(X.stack=X.env::X.outer/\X.env.frame=some X.env.locals)
 exf:∀b∈X.ex,b≠X.env.locals/\∀x c,X.env.cells.lookup x=some c->c≠b
 bs:∀b o,X.base.get? b=some o->X.s₀.heap.get? b=some o/\X.H₀ b=none
 bsz:X.base.objs.size<=X.s₀.heap.objs.size
 noex:∀b o,X.base.get? b=some o->b∉X.ex
 exfs:∀b∈X.ex,b∉X.fs
 funs:X.s₀.heap.FunFrames X.base X.outer
 frf:∀b∈X.fs,X.H₀ b=none
structure g9 (X:Cx)(pins:List (Addr×Obj))(σ:List (Option V))(H:Hp)(s:Shared):Prop where
 ok:X.Ok
 os:s.os=X.s₀.os
 bare:AllBare s.gens
 base:Un X.fs X.ex X.H₀ H X.s₀.heap s.heap
 loc:∃m,s.heap.Ns X.env.locals m/\∀(i:Nat) (x:Str) (v:V),X.N[i]? =some x->σ[i]? =some (some v)->Vis X.env.scope x->∃u,l9 v u/\co9 X.env s.heap m x u
 cell:∀x c,X.env.cells.lookup x=some c->∃v,s.heap.IsCell c v
 free:H X.env.locals=none
 freeC:∀x c,X.env.cells.lookup x=some c->H c=none
 pin:∀p∈X.pn++pins,s.heap.get? p.1=some p.2/\H p.1=none/\p.1≠X.env.locals/\p.1∉X.fs/\∀v,p.2.data≠.cell v
 hok:D2 X.prog X.w H s.heap
 len:σ.length=X.N.length
section
variable {X:Cx} {pins:List (Addr×Obj)} {σ:List (Option V)} {H H':Hp} {s:Shared} {h':Heap}
theorem Cx.Ok.nofr (ok:X.Ok){b:Addr}{o:Obj}(e:X.base.get? b=some o):b∉X.fs:=fun hb=>by
 have:=(ok.funs.mem hb).1;rw[e] at this;cases this
theorem g9.bs (I:g9 X pins σ H s):∀b o,X.base.get? b=some o->s.heap.get? b=some o/\H b=none:=fun b o e=>
 ⟨I.base.keep b o (I.ok.bs b o e).1 (I.ok.bs b o e).2 (I.ok.nofr e) (I.ok.noex b o e),I.base.free b o (I.ok.bs b o e).1 (I.ok.bs b o e).2 (I.ok.noex b o e)⟩
theorem g9.bk (I:g9 X pins σ H s):∀b o,X.base.get? b=some o->s.heap.get? b=some o:=fun b o e=>(I.bs b o e).1
theorem g9.mod (I:g9 X pins σ H s):Mod X.K X.mg X.base:=I.ok.mod
theorem g9.kIn (I:g9 X pins σ H s):X.K.In s.heap:=I.ok.mod.kin.keeps I.bk
theorem g9.lt (I:g9 X pins σ H s):X.env.locals < s.heap.objs.size:=let ⟨_,hn,_⟩:=I.loc;hn.lt
theorem g9.sz (I:g9 X pins σ H s):X.s₀.heap.objs.size<=s.heap.objs.size:=cw7 I.ok.above (cz3 I.lt)
theorem g9.nofs (I:g9 X pins σ H s){a:Addr}(h:s.heap.objs.size<=a):a∉X.fs:=fun hb=>by
 obtain ⟨_,o,ho,_⟩:=I.ok.funs.mem hb;exact absurd (cw8 (Heap.lt_size ho) (cw7 I.sz h)) (da3 _)
theorem g9.cne (I:g9 X pins σ H s):∀x c,X.env.cells.lookup x=some c->c≠X.env.locals:=fun x c e z=>by
 obtain ⟨v,o,ho,hd⟩:=I.cell x c e;obtain ⟨m,⟨o',es,ep,ho',hd',_⟩,_⟩:=I.loc;rw[z,ho'] at ho;cases ho;rw[hd'] at hd;cases hd
theorem g9.funs (I:g9 X pins σ H s):s.heap.FunFrames X.base X.outer:=by
 have all:∀(l:List Env),(∀b∈B8 l,b∈X.fs)->X.s₀.heap.FunFrames X.base l->s.heap.FunFrames X.base l:=by
   intro l
   induction l with
   |nil=>intro _ _;trivial
   |cons env r ih=>
    intro hs hl;obtain ⟨hk,⟨L,o,hf,hn,ho,hd⟩,hr⟩:=hl;have hL:L∈X.fs:=hs L (by unfold B8;rw[da0,hf];exact ct7)
    obtain ⟨sl,e⟩:=I.base.slot L o ho (I.ok.frf L hL) hL fun z=>I.ok.exfs L z hL
    exact ⟨hk,⟨L,_,hf,hn,e,hd⟩,ih (fun b hb=>hs b (by unfold B8;rw[da0,hf];exact ct5 _ hb)) hr⟩
 exact all X.outer (fun _ hb=>hb) I.ok.funs
theorem g9.stack (I:g9 X pins σ H s):s.heap.FunFrames X.base X.stack:=by
 rcases I.ok.stk with e|⟨e,hf⟩
 · rw[e];exact I.funs
 · rw[e];obtain ⟨m,hn,_⟩:=I.loc;refine .cons (by rw[I.ok.kind];decide) hf hn ?_ I.funs;exact Heap.get?_none_of_le (cw7 I.ok.bsz I.ok.above)
theorem g9.stkSub (I:g9 X pins σ H s):∀b∈B8 X.stack,b∈X.env.locals::X.fs:=fun b hb=>by
 rcases I.ok.stk with e|⟨e,hf⟩
 · rw[e] at hb;exact ct5 _ hb
 · rw[e] at hb;unfold B8 at hb;rw[da0,hf] at hb;exact hb
theorem g9.stkFree (I:g9 X pins σ H s):∀b∈B8 X.stack,H b=none:=fun b hb=>by
 rcases cv5.mp (I.stkSub b hb) with e|hb
 · rw[e];exact I.free
 · obtain ⟨_,o,ho,_⟩:=I.ok.funs.mem hb
   exact I.base.free b o ho (I.ok.frf b hb) fun z=>I.ok.exfs b z hb
theorem g9.step {g':Array GenState}{t':Nat}{d':Drawn}{ch:List Addr}(I:g9 X pins σ H s)
   (hch:∀b∈ch,(b∈X.ex\/X.s₀.heap.objs.size<=b)/\b≠X.env.locals/\(∀x c,X.env.cells.lookup x=some c->c≠b)/\∀p∈X.pn++pins,p.1≠b)
   (keep:∀b o,b≠X.env.locals->b∉X.fs->b∉ch->s.heap.get? b=some o->H b=none->h'.get? b=some o)
   (slot:∀b o,b≠X.env.locals->b∈X.fs->b∉ch->s.heap.get? b=some o->H b=none->∃sl,h'.get? b=some {o with slots:=sl}) (free:∀b o,b∉ch->s.heap.get? b=some o->H b=none->H' b=none)
   (there:∀b o,b∉ch->s.heap.get? b=some o->∃o',h'.get? b=some o')
   (tups:∀b xs,H b=some (.tup xs)->H' b=some (.tup xs)) (frzs:∀b o u,H b=some (.frz o u)->H' b=some (.frz o u)) (tbls:∀b ps,H b=some (.tbl ps)->∃more,H' b=some (.tbl (ps++more)))
   (ns:∀m,s.heap.Ns X.env.locals m->h'.Ns X.env.locals m) (hok:D2 X.prog X.w H' h') (hg:AllBare g'):
   g9 X pins σ H' {s with heap:=h',gens:=g',drawn:=d',toks:=t'}:=by
 have neL:∀b o,X.s₀.heap.get? b=some o->b≠X.env.locals:=fun b o e=>cw4 (cw8 (Heap.lt_size e) I.ok.above)
 have neC:∀b o,X.s₀.heap.get? b=some o->b∉X.ex->b∉ch:=fun b o e hx hb=>by
   rcases (hch b hb).1 with z|z
   · exact hx z
   · exact absurd (cw8 (Heap.lt_size e) z) (da3 _)
 have cellK:∀x c,X.env.cells.lookup x=some c->∀v,s.heap.IsCell c v->h'.IsCell c v:=fun x c e v ⟨o,ho,hd⟩=>by
   have nch:c∉ch:=fun z=>(hch c z).2.2.1 x c e rfl
   by_cases hc:c∈X.fs
   · obtain ⟨sl,q⟩:=slot c o (I.cne x c e) hc nch ho (I.freeC x c e);exact ⟨_,q,hd⟩
   · exact ⟨o,keep c o (I.cne x c e) hc nch ho (I.freeC x c e),hd⟩
 refine ⟨I.ok,I.os,hg,⟨fun b o e n hb hx=> ?_,fun b o e n hb hx=> ?_,fun b o e n hx=> ?_,fun b o e hx=> ?_,fun b xs e=>tups b xs (I.base.tups b xs e),fun b o xs e=>frzs b o xs (I.base.frzs b o xs e),fun b ps e=> ?_⟩,?_,fun x c e=> ?_,?_,fun x c e=> ?_,fun p hp=> ?_,hok,I.len⟩
 · exact keep b o (neL b o e) hb (neC b o e hx) (I.base.keep b o e n hb hx) (I.base.free b o e n hx)
 · obtain ⟨sl,e1⟩:=I.base.slot b o e n hb hx;obtain ⟨sl',e2⟩:=slot b _ (neL b o e) hb (neC b o e hx) e1 (I.base.free b o e n hx);exact ⟨sl',e2⟩
 · obtain ⟨o',e1⟩:=I.base.there b o e hx;exact free b o' (neC b o e hx) e1 (I.base.free b o e n hx)
 · obtain ⟨o',e1⟩:=I.base.there b o e hx;exact there b o' (neC b o e hx) e1
 · obtain ⟨m1,e1⟩:=I.base.tbls b ps e;obtain ⟨m2,e2⟩:=tbls b _ e1;exact ⟨m1++m2,by rw[e2,Array.append_assoc]⟩
 · obtain ⟨m,hn,hl⟩:=I.loc;refine ⟨m,ns m hn,fun i x v e1 e2 e3=> ?_⟩;obtain ⟨u,r,l⟩:=hl i x v e1 e2 e3;refine ⟨u,r,?_⟩
   rcases l with l|⟨k,c,e,z⟩
   · exact .inl l
   · exact .inr ⟨k,c,e,cellK x c e _ z⟩
 · obtain ⟨v,z⟩:=I.cell x c e;exact ⟨v,cellK x c e v z⟩
 · obtain ⟨m,⟨o,_,_,ho,_⟩,_⟩:=I.loc;exact free _ o (fun z=>(hch _ z).2.1 rfl) ho I.free
 · obtain ⟨v,o,ho,hd⟩:=I.cell x c e;exact free c o (fun z=>(hch c z).2.2.1 x c e rfl) ho (I.freeC x c e)
 · obtain ⟨e,n,ne,nf,d⟩:=I.pin p hp
   have nch:p.1∉ch:=fun z=>(hch p.1 z).2.2.2 p hp rfl
   exact ⟨keep p.1 p.2 ne nf nch e n,free p.1 p.2 nch e n,ne,nf,d⟩
theorem g9.un {t':Nat}(I:g9 X pins σ H s)(u:Un X.fs [] H H' s.heap h')(hok:D2 X.prog X.w H' h'):g9 X pins σ H' {s with heap:=h',toks:=t'}:=by
 obtain ⟨m,⟨o,es,ep,ho,r⟩,_⟩:=id I.loc;obtain ⟨sl,hL⟩:=u.any ho I.free (by simp)
 exact I.step (g':=s.gens) (d':=s.drawn) (ch:=[]) (fun _ z=>nomatch z) (fun b o _ hb _ e n=>u.keep b o e n hb (by simp)) (fun b o _ hb _ e n=>u.slot b o e n hb (by simp)) (fun b o _ e n=>u.free b o e n (by simp)) (fun b o _ e=>u.there b o e (by simp)) u.tups u.frzs u.tbls (fun m' hm=>by
   obtain ⟨o',es',ep',ho',r'⟩:=hm;rw[ho] at ho';cases ho'
   exact ⟨_,es',ep',hL,r'⟩) hok I.bare
theorem g9.call {g':Array GenState}{t':Nat}{d':Drawn}{ch:List Addr}(I:g9 X pins σ H s)(u:Un (B8 X.stack) ch H H' s.heap h')(hok:D2 X.prog X.w H' h')(hg:AllBare g')
   (hch:∀b∈ch,(b∈X.ex\/X.s₀.heap.objs.size<=b)/\b≠X.env.locals/\(∀x c,X.env.cells.lookup x=some c->c≠b)/\∀p∈X.pn++pins,p.1≠b):
   g9 X pins σ H' {s with heap:=h',gens:=g',drawn:=d',toks:=t'}:=by
 obtain ⟨m,⟨o,es,ep,ho,r⟩,_⟩:=id I.loc
 obtain ⟨sl,hL⟩:=u.any ho I.free fun z=>(hch _ z).2.1 rfl
 exact I.step (ch:=ch) hch (fun b o hL hb hc e n=>u.keep b o e n (fun z=>(cv5.mp (I.stkSub b z)).elim hL hb) hc) (fun b o _ _ hc e n=>u.any e n hc) (fun b o hc e n=>u.free b o e n hc) (fun b o hc e=>u.there b o e hc) u.tups u.frzs u.tbls (fun m' hm=>by
   obtain ⟨o',es',ep',ho',r'⟩:=hm;rw[ho] at ho';cases ho'
   exact ⟨_,es',ep',hL,r'⟩) hok hg
theorem g9.turned {t':Nat}{it:Addr}(I:g9 X pins σ H s)(k:∀b o,b≠it->s.heap.get? b=some o->h'.get? b=some o)(hn:H it=none)(hL:it≠X.env.locals)
   (h1:it∈X.ex\/X.s₀.heap.objs.size<=it) (h2:∀x c,X.env.cells.lookup x=some c->c≠it) (h3:∀p∈X.pn++pins,p.1≠it):g9 X pins σ H {s with heap:=h',toks:=t'}:=by
 have nit:∀b u,H b=some u->b≠it:=fun b u e z=>by rw[z,hn] at e;cases e
 refine I.step (g':=s.gens) (d':=s.drawn) (ch:=[it]) (fun b hb=> ?_) (fun b o _ _ hc e _=>k b o (fun z=>hc (by simp [z])) e) (fun b o _ _ hc e _=>⟨o.slots,k b o (fun z=>hc (by simp [z])) e⟩) (fun _ _ _ _ n=>n)
   (fun b o hc e=>⟨o,k b o (fun z=>hc (by simp [z])) e⟩) (fun _ _ e=>e) (fun _ _ _ e=>e) (fun b ps e=>⟨#[],by rw[e];simp⟩) (fun m hm=> ?_) (fun b u e=> ?_) I.bare
 · have e:b=it:=by simpa using hb
   subst e;exact ⟨h1,hL,h2,h3⟩
 · obtain ⟨o,es,ep,ho,r⟩:=hm;exact ⟨o,es,ep,k _ o (Ne.symm hL) ho,r⟩
 · refine (I.hok b u e).stay (fun c v hc q=>k c v ?_ q) (fun _ q=>q) fun _ _ q=>q
   rcases hc with z|z
   · rw[z];exact nit b u e
   · exact nit c _ z
theorem g9.tok (I:g9 X pins σ H s)(t:Nat):g9 X pins σ H {s with toks:=t}:=I.un (h':=s.heap) (t':=t) Un.refl I.hok
theorem g9.kept {t':Nat}(I:g9 X pins σ H s)(k:∀b u,s.heap.get? b=some u->h'.get? b=some u):g9 X pins σ H {s with heap:=h',toks:=t'}:=I.un (Un.kept k) (I.hok.kept k)
theorem g9.laid {a:Addr}{o:HO}{t':Nat}(I:g9 X pins σ H s)(k:∀b u,s.heap.get? b=some u->h'.get? b=some u)(hp:s.heap.objs.size<=a)(new:w4 X.prog X.w (c8 H a o) h' a o):
 g9 X pins σ (c8 H a o) {s with heap:=h',toks:=t'}:=I.un (Un.laid k hp (I.hok.fresh hp)) (I.hok.laid k hp new)
theorem g9.write {x e:Addr}{o:HO}{t':Nat}(I:g9 X pins σ H s)(mu:Mut (H x))(he:e=x\/H e=some (.own x))(k:∀b u,b≠e->s.heap.get? b=some u->h'.get? b=some u)(heo:∃u,h'.get? e=some u)
 (new:w4 X.prog X.w (c8 H x o) h' x o):g9 X pins σ (c8 H x o) {s with heap:=h',toks:=t'}:=I.un (Un.write mu he k heo) (I.hok.write mu he k heo new)
theorem g9.pins_of {pins':List (Addr×Obj)}(I:g9 X pins σ H s)(h:∀p∈pins',s.heap.get? p.1=some p.2/\H p.1=none/\p.1≠X.env.locals/\p.1∉X.fs/\∀v,p.2.data≠.cell v):g9 X pins' σ H s:=
 ⟨I.ok,I.os,I.bare,I.base,I.loc,I.cell,I.free,I.freeC,fun p hp=>(cu5.mp hp).elim (fun z=>I.pin p (cx6 _ z)) (h p),I.hok,I.len⟩
theorem am3 {N:List Str}(hN:N.Nodup){i j:Nat}{x:Str}(a:N[i]? =some x)(b:N[j]? =some x):i=j:=by
 obtain ⟨h1,e1⟩:=ct3.mp a;obtain ⟨h2,e2⟩:=ct3.mp b;exact (List.getElem_inj hN).mp (e1.trans e2.symm)
theorem au6 {M:Model}{A:Around}{E:Value->Shared->Prop}{i:Nat}{x:Str}{v:V}{u:Value}{Q:Unit->Shared->Prop}(I:g9 X pins σ H s)(hN:X.N.Nodup)(hi:X.N[i]? =some x)(hx:Loc X.env.scope x)(r:l9 v u)
   (h:∀s',g9 X pins (σ.set i (some v)) H s'->(∃a,Heap.SameBut a s.heap s'.heap/\(a=X.env.locals\/X.env.cells.lookup x=some a))->Q () s') (hf:X.fn x=true\/X.env.scope.names.lookup x=some .local:=by first|exact .inl rfl|exact .inr rfl|assumption):wpAny M A (storeName X.env x u) Q E s:=by
 obtain ⟨m,hn,hl⟩:=id I.loc
 have hcls:(X.env.scope.kind== .class||(X.env.scope.kind== .module&&X.env.locals !=X.env.globals))=false:=by rw[I.ok.kind];rfl
 have hiσ:i < σ.length:=by rw[I.len];exact (ct3.mp hi).1
 have cne:=I.cne
 have tracked:∀{a:Addr} {h':Heap},(∃o,s.heap.get? a=some o/\H a=none)->Heap.SameBut a s.heap h'->D2 X.prog X.w H h':=fun {a h'} ha hs b ob e=>by
   obtain ⟨_,_,hfree⟩:=ha
   refine (I.hok b ob e).stay (fun c w' hc q=>(hs.2 c ?_).trans q) (fun _ q=>q) fun _ _ q=>q
   rintro rfl
   rcases hc with rfl|hc
   · rw[hfree] at e;cases e
   · rw[hfree] at hc;cases hc
 rcases hx with hk|hk
 · refine wpAny_storeName_local hk hn (fun h' hn' hs=> ?_) hcls;obtain ⟨oL,_,_,hoL,_⟩:=id hn;refine h _ ⟨I.ok,I.os,I.bare,⟨fun b o e n hb hx=> ?_,fun b o e n hb hx=> ?_,I.base.free,fun b o e hx=> ?_,I.base.tups,I.base.frzs,I.base.tbls⟩,⟨_,hn',fun j y v' e1 e2 e3=> ?_⟩,fun y c e=> ?_,I.free,I.freeC,fun p hp=> ?_,tracked ⟨oL,hoL,I.free⟩ hs,by simpa using I.len⟩ ⟨_,hs,.inl rfl⟩
   · exact (hs.2 b (cw4 (cw8 (Heap.lt_size e) I.ok.above))).trans (I.base.keep b o e n hb hx)
   · obtain ⟨sl,e1⟩:=I.base.slot b o e n hb hx;exact ⟨sl,(hs.2 b (cw4 (cw8 (Heap.lt_size e) I.ok.above))).trans e1⟩
   · obtain ⟨o',e1⟩:=I.base.there b o e hx;exact ⟨o',(hs.2 b (cw4 (cw8 (Heap.lt_size e) I.ok.above))).trans e1⟩
   · by_cases hj:j=i
     · subst hj;rw[hi] at e1;cases e1;rw[dc6 hiσ] at e2;cases e2;exact ⟨u,r,.inl ⟨hk,by simp⟩⟩
     · rw[dd5 (Ne.symm hj)] at e2;obtain ⟨u',r',q⟩:=hl j y v' e1 e2 e3;refine ⟨u',r',?_⟩
       rcases q with ⟨k,e⟩|⟨k,c,e,z⟩
       · refine .inl ⟨k,?_⟩
         have:y≠x:=fun e=>hj (am3 hN e1 (e▸hi))
         simp [this,e]
       · exact .inr ⟨k,c,e,z.sameBut hs (cne y c e)⟩
   · obtain ⟨w',z⟩:=I.cell y c e;exact ⟨w',z.sameBut hs (cne y c e)⟩
   · obtain ⟨e,n,ne,nf,d⟩:=I.pin p hp;exact ⟨(hs.2 p.1 ne).trans e,n,ne,nf,d⟩
 · have hfn:X.fn x=true:=by
     rcases hf with z|z
     · exact z
     · rw[z] at hk;cases hk
   obtain ⟨c,hc⟩:=I.ok.has x (.inl hk);obtain ⟨w',z⟩:=I.cell x c hc;refine wpAny_storeName_cell I.ok.kind hk hc z (fun h' hc' hs=> ?_);obtain ⟨oc,hoc,hocd⟩:=id z;refine h {s with heap:=h'} ⟨I.ok,I.os,I.bare,⟨fun b o e n hb hx=> ?_,fun b o e n hb hx=> ?_,I.base.free,fun b o e hx=> ?_,I.base.tups,I.base.frzs,I.base.tbls⟩,⟨m,hn.sameBut hs (Ne.symm (cne x c hc)),fun j y v' e1 e2 e3=> ?_⟩,fun y c' e=> ?_,I.free,I.freeC,fun p hp=> ?_,tracked ⟨oc,hoc,I.freeC x c hc⟩ hs,by simpa using I.len⟩ ⟨c,hs,.inr hc⟩
   · exact (hs.2 b (cw4 (cw8 (Heap.lt_size e) (I.ok.cab x c hfn hc)))).trans (I.base.keep b o e n hb hx)
   · obtain ⟨sl,e1⟩:=I.base.slot b o e n hb hx;exact ⟨sl,(hs.2 b (cw4 (cw8 (Heap.lt_size e) (I.ok.cab x c hfn hc)))).trans e1⟩
   · obtain ⟨o',e1⟩:=I.base.there b o e hx;exact ⟨o',(hs.2 b (cw4 (cw8 (Heap.lt_size e) (I.ok.cab x c hfn hc)))).trans e1⟩
   · by_cases hj:j=i
     · subst hj;rw[hi] at e1;cases e1;rw[dc6 hiσ] at e2;cases e2;exact ⟨u,r,.inr ⟨.inl hk,c,hc,hc'⟩⟩
     · rw[dd5 (Ne.symm hj)] at e2;obtain ⟨u',r',q⟩:=hl j y v' e1 e2 e3;refine ⟨u',r',?_⟩
       rcases q with q|⟨k,c',e,z'⟩
       · exact .inl q
       · refine .inr ⟨k,c',e,z'.sameBut hs ?_⟩;rintro rfl;exact hj (am3 hN e1 (I.ok.inj _ _ _ e hc▸hi))
   · by_cases hcc:c'=c
     · subst hcc;exact ⟨_,hc'⟩
     · obtain ⟨w2,z2⟩:=I.cell y c' e;exact ⟨w2,z2.sameBut hs hcc⟩
   · obtain ⟨e,n,ne,nf,d⟩:=I.pin p hp;refine ⟨(hs.2 p.1 ?_).trans e,n,ne,nf,d⟩;intro q;rw[q,hoc] at e;have q':oc=p.2:=Option.some.inj e;exact d w' (by rw[<-q'];exact hocd)
theorem ac0 {M:Model}{A:Around}{E:Value->Shared->Prop}{i:Nat}{x:Str}{v:V}{u:Value}{Q:Unit->Shared->Prop}(I:g9 X pins σ H s)(hN:X.N.Nodup)(hi:X.N[i]? =some x)(hx:Loc X.env.scope x)(r:l9 v u)
   (h:∀s',g9 X pins (σ.set i (some v)) H s'->Q () s') (hf:X.fn x=true\/X.env.scope.names.lookup x=some .local:=by first|exact .inl rfl|exact .inr rfl|assumption):wpAny M A (storeName X.env x u) Q E s:=
 au6 I hN hi hx r (fun s' I' _=>h s' I') hf
theorem g9.call' {s':Shared}{ch:List Addr}(I:g9 X pins σ H s)(ho:s'.os=s.os)(u:Un (B8 X.stack) ch H H' s.heap s'.heap)(hok:D2 X.prog X.w H' s'.heap)(hg:AllBare s'.gens)
   (hch:∀b∈ch,(b∈X.ex\/X.s₀.heap.objs.size<=b)/\b≠X.env.locals/\(∀x c,X.env.cells.lookup x=some c->c≠b)/\∀p∈X.pn++pins,p.1≠b):g9 X pins σ H' s':=by
 obtain ⟨h',g',d',t',o'⟩:=s';have e:o'=s.os:=ho;subst e;exact I.call (g':=g') (t':=t') (d':=d') u hok hg hch
end
abbrev XK:=Value->Option Addr->Hp->Prop
abbrev St:=List (Option V)
abbrev VK:=V->Hp->Prop
abbrev TE:=St->Hp->VK->Prop
abbrev TT:=St->Hp->(Bool->Hp->Prop)->Prop
abbrev TA:=St->Hp->(List V->Hp->Prop)->Prop
structure R7 where
 nx:St->Hp->Prop
 rt:VK
 bk:St->Hp->Prop:=fun _ _=>False
 ct:St->Hp->Prop:=fun _ _=>False
abbrev TS:=R7->St->Hp->Prop
def EP (X:Cx)(pins:List (Addr×Obj))(σ:St)(Q:VK)(u:Value)(s':Shared):Prop:=∃v H',g9 X pins σ H' s'/\l9 v u/\Q v H'
def TP (X:Cx)(pins:List (Addr×Obj))(σ:St)(Q:Bool->Hp->Prop)(b:Bool)(s':Shared):Prop:=∃H',g9 X pins σ H' s'/\Q b H'
def AP (X:Cx)(pins:List (Addr×Obj))(σ:St)(Q:List V->Hp->Prop)(us:List Value)(s':Shared):Prop:=∃vs H',g9 X pins σ H' s'/\j8 vs us/\Q vs H'
def SP (X:Cx)(pins:List (Addr×Obj))(D:R7)(f:Flow)(s':Shared):Prop:=
 match f with
 | .next=>∃σ' H',g9 X pins σ' H' s'/\D.nx σ' H'
 | .brk=>∃σ' H',g9 X pins σ' H' s'/\D.bk σ' H'
 | .cont=>∃σ' H',g9 X pins σ' H' s'/\D.ct σ' H'
 | .ret u=>∃v σ' H',g9 X pins σ' H' s'/\l9 v u/\D.rt v H'
def PE (X:Cx)(e:Expr)(t:TE):Prop:=
 ∀(pins:List (Addr×Obj)) (s:Shared) (σ:St) (H:Hp) (Q:VK),g9 X pins σ H s->t σ H Q->wpAny (model X.prog X.w) X.A (eval e X.env) (EP X pins σ Q) X.xe s
def PT (X:Cx)(e:Expr)(t:TT):Prop:=
 ∀(pins:List (Addr×Obj)) (s:Shared) (σ:St) (H:Hp) (Q:Bool->Hp->Prop),g9 X pins σ H s->t σ H Q->wpAny (model X.prog X.w) X.A (isTrue e X.env (eval e X.env)) (TP X pins σ Q) X.xe s
def PW (X:Cx)(e:Expr)(t:TT):Prop:=
 ∀(whole:Sem Value) (pins:List (Addr×Obj)) (s:Shared) (σ:St) (H:Hp) (Q:Bool->Hp->Prop),g9 X pins σ H s->t σ H Q->wpAny (model X.prog X.w) X.A (isTrue e X.env whole) (TP X pins σ Q) X.xe s
theorem PW.pt {X:Cx}{e:Expr}{t:TT}(h:PW X e t):PT X e t:=h _
def PA (X:Cx)(es:List Expr)(t:TA):Prop:=
 ∀(pos:Pos) (pins:List (Addr×Obj)) (s:Shared) (σ:St) (H:Hp) (Q:List V->Hp->Prop),g9 X pins σ H s->t σ H Q->wpAny (model X.prog X.w) X.A (spliced (backTo pos (starEach es X.env))) (AP X pins σ Q) X.xe s
def PS (X:Cx)(st:Stmt)(t:TS):Prop:=
 ∀(pins:List (Addr×Obj)) (s:Shared) (σ:St) (H:Hp) (D:R7),g9 X pins σ H s->t D σ H->wpAny (model X.prog X.w) X.A (exec st X.env) (SP X pins D) X.xe s
def U8 (X:Cx)(st:List Stmt)(t:TS):Prop:=
 ∀(pins:List (Addr×Obj)) (s:Shared) (σ:St) (H:Hp) (D:R7),g9 X pins σ H s->t D σ H->wpAny (model X.prog X.w) X.A (execs st X.env) (SP X pins D) X.xe s
theorem n9 {α:Type}{t:Sem α}{Q Q':α->Shared->Prop}{M:Model}{A:Around}{E:Value->Shared->Prop}{s:Shared}(h:wpAny M A t Q E s)(hQ:∀a s,Q a s->Q' a s):wpAny M A t Q' E s:=wpAny_mono h hQ fun _ _ x=>x
end L2
namespace L2
open PySem PySem.Spec PyProof.Rows
section
variable {X:Cx}
def cg5 (i:Nat):TE:=fun σ H Q=>∃v,σ[i]? =some (some v)/\Q v H
def tC (v:V):TE:=fun _ H Q=>Q v H
theorem cg6 {i:Nat}{x:Str}{pos:Pos}(hN:X.N[i]? =some x)(hv:Vis X.env.scope x)(hd:(x==("__debug__":Str))=false:=by decide)(hcd:(x==("__classdict__":Str))=false:=by decide):PE X (.Name x pos) (cg5 i):=by
 intro pins s σ H Q I h;obtain ⟨v,e,h⟩:=h;obtain ⟨m,hn,hl⟩:=I.loc;obtain ⟨u,r,l⟩:=hl i x v hN e hv;have fin:EP X pins σ Q u s:=⟨v,H,I,r,h⟩
 rcases l with ⟨hk,hm⟩|⟨hk,c,hc,hcell⟩
 · exact wpAny_Name (wpAny_loadName_local I.ok.kind hk hn hm fin) hd
 · rcases hk with hk|hk
   · exact wpAny_Name (wpAny_loadName_cell I.ok.kind hk hc hcell fin) hd
   · exact wpAny_Name (wpAny_loadName_free I.ok.kind hk hc hcell fin hcd) hd
theorem i6 {i j pos}:PE X (.Constant (.int i) j pos) (tC (.int i)):=fun _ _ _ H _ I h=>wpAny_Constant_int ⟨.int i,H,I.tok _,⟨_,rfl⟩,h⟩
theorem D8 {b j pos}:PE X (.Constant (.bool b) j pos) (tC (.bl b)):=fun _ _ _ H _ I h=>Constant_bool ⟨.bl b,H,I,rfl,h⟩
theorem ay6 {j pos}:PE X (.Constant .none j pos) (tC .non):=fun _ _ _ H _ I h=>Constant_none ⟨.non,H,I,rfl,h⟩
theorem ae7 {x j pos}:PE X (.Constant (.str x) j pos) (tC (.str x)):=fun _ _ _ H _ I h=>Calls.Constant_str ⟨.str x,H,I.tok _,⟨_,rfl⟩,h⟩
def Gl (X:Cx)(x:Str):Prop:=X.env.kindOf x=some .globalImplicit
theorem aa7 {E:Value->Shared->Prop}{pins:List (Addr×Obj)}{s:Shared}{σ:St}{H:Hp}{x:Str}{u:Value}{pos:Pos}{Q:Value->Shared->Prop}(I:g9 X pins σ H s)(hg:Gl X x)(hm:X.mg x=some u)(h:Q u s)
   (hd:(x==("__debug__":Str))=false:=by decide):wpAny (model X.prog X.w) X.A (eval (.Name x pos) X.env) Q E s:=
 Calls.Name_function_global I.ok.kind hg (Calls.loadGlobal_global (by rw[I.ok.glob];exact I.mod.glob.keeps I.bk) hm h) hd
theorem W6 {E:Value->Shared->Prop}{pins:List (Addr×Obj)}{s:Shared}{σ:St}{H:Hp}{x:Str}{u:Value}{pos:Pos}{Q:Value->Shared->Prop}(I:g9 X pins σ H s)(hg:Gl X x)(hm:X.mg x=none)(hv:bootBuiltins x=some u)(h:Q u s)
   (hn:x≠"__name__":=by decide) (hd:(x==("__debug__":Str))=false:=by decide):wpAny (model X.prog X.w) X.A (eval (.Name x pos) X.env) Q E s:=by
 obtain ⟨mb,h1,h2⟩:=I.mod.blt;exact Calls.Name_function_global I.ok.kind hg (Calls.loadGlobal_builtin (by rw[I.ok.glob];exact I.mod.glob.keeps I.bk) hm (by rw[I.ok.blt];exact h1.keeps I.bk) ((h2 x hn).trans hv) h) hd
theorem E9 {x:Str}{v:V}{u:Value}{pos:Pos}(hg:Gl X x)(hm:X.mg x=some u)(r:l9 v u)(hd:(x==("__debug__":Str))=false:=by decide):PE X (.Name x pos) (tC v):=
 fun _ _ _ H _ I h=>aa7 I hg hm ⟨v,H,I,r,h⟩ hd
theorem ai7 {x:Str}{v:V}{u:Value}{pos:Pos}(hg:Gl X x)(hm:X.mg x=none)(hv:bootBuiltins x=some u)(r:l9 v u)(hn:x≠"__name__":=by decide)(hd:(x==("__debug__":Str))=false:=by decide):PE X (.Name x pos) (tC v):=
 fun _ _ _ H _ I h=>W6 I hg hm hv ⟨v,H,I,r,h⟩ hn hd
variable {a b:Expr} {ta tb:TE} {pos:Pos}
def PC (X:Cx)(op:CmpOp)(a b:Expr)(t:TE):Prop:=
 ∀(pins:List (Addr×Obj)) (s:Shared) (σ:St) (H:Hp) (Q:VK),g9 X pins σ H s->t σ H Q->
  wpAny (model X.prog X.w) X.A (eval a X.env) (fun v s₁=>wpAny (model X.prog X.w) X.A (eval b X.env) (fun u s₂=>wpAny (model X.prog X.w) X.A (compareOp op v u) (EP X pins σ Q) X.xe s₂) X.xe s₁) X.xe s
def tB (t:TE):TT:=fun σ H Q=>t σ H fun x H1=>∃c,x= .bl c/\Q c H1
theorem ay7 {op:CmpOp}{t:TE}(h:PC X op a b t)(h1:behindInMarks op b=false:=by first|exact nobehind _ (by decide) (by decide)|rfl):PT X (.Compare a [op] [b] pos) (tB t):=by
 intro pins s σ H Q I hw;refine wpAny_isTrue_Compare1 (n9 (h pins s σ H _ I hw) fun v s1 h1=>n9 h1 fun u s2 h2=>n9 h2 fun c s3 ⟨x,H1,I1,r1,q1⟩=> ?_) h1;obtain ⟨d,rfl,q⟩:=q1;cases r1;exact wpAny_truthy_bool ⟨H1,I1,q⟩
theorem J5 {e:Expr}{t:TE}(h:PE X e t)(he:∀whole,isTrue e X.env whole=(do let v <-whole;standAt e.pos;holding [v] (truthy v)):=by intro _;rfl):PT X e (tB t):=by
 intro pins s σ H Q I hw;refine isTrue_plain (n9 (h pins s σ H _ I hw) fun v s1 ⟨x,H1,I1,r1,q1⟩=> ?_) (he _);obtain ⟨d,rfl,q⟩:=q1;cases r1;exact wpAny_truthy_bool ⟨H1,I1,q⟩
variable {tA tB':TT} {rest:List Expr}
def cp0 (t u:TT):TT:=fun σ H Q=>t σ H fun c H1=>if c=true then u σ H1 Q else Q false H1
def tOr (t u:TT):TT:=fun σ H Q=>t σ H fun c H1=>if c=true then Q true H1 else u σ H1 Q
def cp1 (t:TT):TT:=fun σ H Q=>t σ H fun c H1=>Q (!c) H1
theorem bg7 (ha:PT X a tA):PW X (.BoolOp .And [a] pos) tA:=by
 intro wh pins s σ H Q I h;refine isTrue_and (n9 (ha pins s σ H Q I h) fun c s1 e=> ?_)
 cases c with
 |true=>exact isTrue_and_nil e
 |false=>exact e
theorem Q2 (ha:PT X a tA):PW X (.BoolOp .Or [a] pos) tA:=by
 intro wh pins s σ H Q I h;refine isTrue_or (n9 (ha pins s σ H Q I h) fun c s1 e=> ?_)
 cases c with
 |false=>exact isTrue_or_nil e
 |true=>exact e
theorem ay8 (ha:PT X a tA)(hb:PW X (.BoolOp .And (b::rest) pos) tB'):PW X (.BoolOp .And (a::b::rest) pos) (cp0 tA tB'):=by
 intro wh pins s σ H Q I h;refine isTrue_and (n9 (ha pins s σ H _ I h) fun c s1 ⟨H1,I1,q1⟩=> ?_)
 cases c with
 |true=>exact hb wh pins s1 σ H1 Q I1 q1
 |false=>exact ⟨H1,I1,q1⟩
theorem K4 (ha:PT X a tA)(hb:PW X (.BoolOp .Or (b::rest) pos) tB'):PW X (.BoolOp .Or (a::b::rest) pos) (tOr tA tB'):=by
 intro wh pins s σ H Q I h;refine isTrue_or (n9 (ha pins s σ H _ I h) fun c s1 ⟨H1,I1,q1⟩=> ?_)
 cases c with
 |true=>exact ⟨H1,I1,q1⟩
 |false=>exact hb wh pins s1 σ H1 Q I1 q1
theorem L5 (ha:PT X a tA):PT X (.UnaryOp .Not a pos) (cp1 tA):=by
 intro pins s σ H Q I h;exact isTrue_not (ha pins s σ H (fun c H1=>Q (!c) H1) I h)
def cl2 (ta tb:TE):TE:=fun σ H Q=>ta σ H fun x H1=>∃c,x= .bl c/\if c=true then tb σ H1 Q else Q (.bl false) H1
def cl3 (ta:TE):TE:=fun σ H Q=>ta σ H fun x H1=>∃c,x= .bl c/\Q (.bl (!c)) H1
theorem cg7 {op}{t:TE}(h:PE X a t):PE X (.BoolOp op [a] pos) t:=fun pins s σ H Q I hw=>BoolOp_one (h pins s σ H Q I hw)
theorem cg8 (ha:PE X a ta)(hb:PE X (.BoolOp .And (b::rest) pos) tb):PE X (.BoolOp .And (a::b::rest) pos) (cl2 ta tb):=by
 intro pins s σ H Q I h;refine BoolOp_and (n9 (ha pins s σ H _ I h) fun v s1 ⟨x,H1,I1,r1,q1⟩=> ?_);obtain ⟨c,rfl,q1⟩:=q1;cases r1;refine wpAny_truthy_bool ?_
 cases c with
 |true=>exact hb pins s1 σ H1 Q I1 q1
 |false=>exact ⟨.bl false,H1,I1,rfl,q1⟩
theorem cg9 (ha:PE X a ta):PE X (.UnaryOp .Not a pos) (cl3 ta):=by
 intro pins s σ H Q I h;refine UnaryOp_ (n9 (ha pins s σ H _ I h) fun v s1 ⟨x,H1,I1,r1,q1⟩=> ?_);obtain ⟨c,rfl,q1⟩:=q1;cases r1;exact not_of (wpAny_truthy_bool ⟨.bl (!c),H1,I1,rfl,q1⟩)
end
end L2
namespace L2
open PySem PySem.Spec PyProof.Rows
def i4 (K:PySem.W.Frag)(H:Hp)(a:Addr)(xs:List V):Prop:=
 Rd H a (.lst xs)\/
   ∃(o:Obj) (its:Array Value) (n:Nat),K.lookup a=some o/\o.cls= .type "list"/\o.dict=none/\o.data= .seq its n/\its.size<=sizeLine/\j8 xs its.toList
def Q3 (K:PySem.W.Frag)(H:Hp)(a:Addr)(xs:List V):Prop:=
 Rd H a (.tup xs)\/
   ∃(o:Obj) (its:Array Value) (n:Nat),K.lookup a=some o/\o.cls= .type "tuple"/\o.data= .seq its n/\its.size<=sizeLine/\j8 xs its.toList
def cp2:Value->Option V
 | .none=>some .non
 | .bool b=>some (.bl b)
 | .int i _=>some (.int i)
 | .str x _=>some (.str x)
 | .bytes b _=>some (.byt b)
 | .float b _=>some (.flt b)
 | .ref a=>some (.ref a)
 | .type n=>some (.ty n)
 |_=>none
theorem l9.abs {x:V}{u:Value}(r:l9 x u):cp2 u=some x:=by
 cases x with
 |non=>cases r;rfl
 |bl _=>cases r;rfl
 |int _=>obtain ⟨t,rfl⟩:=r;rfl
 |str _=>obtain ⟨t,rfl⟩:=r;rfl
 |byt _=>obtain ⟨t,rfl⟩:=r;rfl
 |flt _=>obtain ⟨t,rfl⟩:=r;rfl
 |ref _=>cases r;rfl
 |ty _=>cases r;rfl
theorem l9.inj {x y:V}{u:Value}(r:l9 x u)(q:l9 y u):x=y:=Option.some.inj (r.abs.symm.trans q.abs)
theorem j8.inj:∀{xs ys:List V} {us:List Value},j8 xs us->j8 ys us->xs=ys
 |_,_,_,.nil,.nil=>rfl
 |_,_,_,.cons r t,.cons r' t'=>by rw[r.inj r',j8.inj t t']
section
variable {X:Cx} {pins:List (Addr×Obj)} {σ:St} {H:Hp} {s:Shared} {a:Addr} {xs ys:List V}
theorem i4.of {K:PySem.W.Frag}(h:H a=some (.lst xs)):i4 K H a xs:= .inl (.inl h)
theorem Q3.of {K:PySem.W.Frag}(h:H a=some (.tup xs)):Q3 K H a xs:= .inl (.inl h)
theorem g9.list (I:g9 X pins σ H s)(h:i4 X.K H a xs):∃its:List Value,j8 xs its/\PlainL s.heap a its.toArray/\xs.length<=sizeLine:=by
 rcases h with h|⟨o,its,n,hk,hc,hd,hs,hz,r⟩
 · obtain ⟨z,its,n,r,e⟩:=h.ok I.hok;exact ⟨its,r,⟨_,n,e,rfl,rfl,rfl⟩,z⟩
 · refine ⟨its.toList,r,⟨o,n,I.kIn a o hk,hc,hd,by simpa using hs⟩,?_⟩;have e:=r.length;simp only[cv0] at e;omega
theorem g9.tuple (I:g9 X pins σ H s)(h:Q3 X.K H a xs):∃its:List Value,j8 xs its/\IsTup s.heap a its.toArray/\xs.length<=sizeLine:=by
 rcases h with h|⟨o,its,n,hk,hc,hs,hz,r⟩
 · obtain ⟨z,its,r,p⟩:=h.ok I.hok;exact ⟨its,r,p,z⟩
 · refine ⟨its.toList,r,⟨o,I.kIn a o hk,hc,n,by simpa using hs⟩,?_⟩;have e:=r.length;simp only[cv0] at e;omega
theorem g9.list_inj (I:g9 X pins σ H s)(h:i4 X.K H a xs)(h':i4 X.K H a ys):xs=ys:=by
 obtain ⟨its,r,⟨o,n,e,_,_,d⟩,_⟩:=I.list h;obtain ⟨its',r',⟨o',n',e',_,_,d'⟩,_⟩:=I.list h';rw[e] at e';cases e';rw[d] at d'
 injection d' with d1 _
 have:its=its':=by simpa using congrArg cz4 d1
 subst this;exact r.inj r'
end
abbrev Cx.wish (X:Cx)(E:Value->Shared->Prop):Cx:={X with xe:=E}
abbrev Cx.nox (X:Cx):Cx:=X.wish fun _ _=>False
theorem Cx.Ok.wish {X:Cx}(ok:X.Ok)(E:Value->Shared->Prop):(X.wish E).Ok:=
 ⟨ok.mod,ok.kind,ok.glob,ok.blt,ok.above,ok.inj,ok.has,ok.cab,ok.hd,ok.frames,ok.stk,ok.exf,ok.bs,ok.bsz,ok.noex,ok.exfs,ok.funs,ok.frf⟩
theorem Cx.Ok.unwish {X:Cx}{E:Value->Shared->Prop}(ok:(X.wish E).Ok):X.Ok:=
 ⟨ok.mod,ok.kind,ok.glob,ok.blt,ok.above,ok.inj,ok.has,ok.cab,ok.hd,ok.frames,ok.stk,ok.exf,ok.bs,ok.bsz,ok.noex,ok.exfs,ok.funs,ok.frf⟩
section
variable {X:Cx} {pins:List (Addr×Obj)} {σ:St} {H:Hp} {s:Shared} {E:Value->Shared->Prop}
theorem g9.wish (I:g9 X pins σ H s)(E:Value->Shared->Prop):g9 (X.wish E) pins σ H s:=⟨I.ok.wish E,I.os,I.bare,I.base,I.loc,I.cell,I.free,I.freeC,I.pin,I.hok,I.len⟩
theorem g9.unwish (I:g9 (X.wish E) pins σ H s):g9 X pins σ H s:=⟨I.ok.unwish,I.os,I.bare,I.base,I.loc,I.cell,I.free,I.freeC,I.pin,I.hok,I.len⟩
theorem SP.unwish {D:R7}{f:Flow}{s':Shared}(h:SP (X.wish E) pins D f s'):SP X pins D f s':=by
 cases f with
 |next=>obtain ⟨σ',H',I,q⟩:=h;exact ⟨σ',H',I.unwish,q⟩
 |brk=>obtain ⟨σ',H',I,q⟩:=h;exact ⟨σ',H',I.unwish,q⟩
 |cont=>obtain ⟨σ',H',I,q⟩:=h;exact ⟨σ',H',I.unwish,q⟩
 |ret u=>obtain ⟨v,σ',H',I,r,q⟩:=h;exact ⟨v,σ',H',I.unwish,r,q⟩
theorem U8.nox {st:List Stmt}{t:TS}(h:U8 X.nox st t):U8 X st t:=fun pins s σ H D I hw=>
 wpAny_mono (h pins s σ H D (I.wish _) hw) (fun _ _ q=>q.unwish) fun _ _ z=>False.elim z
end
section
variable {X:Cx} {st:Stmt} {rest:List Stmt} {t u:TS} {e:Expr} {te:TE} {pos:Pos}
def cl4:TS:=fun D σ H=>D.nx σ H
def cp3 (t u:TS):TS:=fun D σ H=>t {D with nx:=u D} σ H
theorem x6:U8 X [] cl4:=fun _ _ σ H _ I h=>wpAny_execs_nil ⟨σ,H,I,h⟩
theorem e8 (h1:PS X st t)(h2:U8 X rest u):U8 X (st::rest) (cp3 t u):=by
 intro pins s σ H D I h;refine wpAny_execs_cons (n9 (h1 pins s σ H {D with nx:=u D} I h) fun f s1 q=> ?_)
 cases f with
 |next=>
  obtain ⟨σ',H',I',q⟩:=q;exact h2 pins s1 σ' H' D I' q
 |ret v=>exact q
 |brk=>exact q
 |cont=>exact q
theorem h8 (h1:PS X st t):U8 X [st] t:=by
 intro pins s σ H D I h;refine wpAny_execs_cons (n9 (h1 pins s σ H D I h) fun f s1 q=> ?_)
 cases f with
 |next=>exact wpAny_execs_nil q
 |ret v=>exact q
 |brk=>exact q
 |cont=>exact q
theorem g9.quiet {pins:List (Addr×Obj)}{σ:St}{H:Hp}{s:Shared}(I:g9 X pins σ H s):interactive X.env=false:=by simp [interactive,I.ok.kind]
def cl5 (te:TE):TS:=fun D σ H=>te σ H fun _ H1=>D.nx σ H1
theorem C4 (he:PE X e te)(hs:swapsWith e none pos.line X.env=pure false:=by rfl):PS X (.Expr e pos) (cl5 te):=by
 intro pins s σ H D I h;exact wpAny_Expr_any (n9 (he pins s σ H _ I h) fun v s1 ⟨x,H1,I1,r1,q1⟩=>⟨σ,H1,I1,q1⟩) I.quiet hs
def cp4 (te:TE):TS:=fun D σ H=>te σ H D.rt
theorem k7 (he:PE X e te):PS X (.Return (some e) pos) (cp4 te):=by
 intro pins s σ H D I h;exact wpAny_Return_some (n9 (he pins s σ H _ I h) fun v s1 ⟨x,H1,I1,r1,q1⟩=>⟨x,σ,H1,I1,r1,q1⟩)
def cp5 (c:TT)(t u:TS):TS:=fun D σ H=>c σ H fun b H1=>if b=true then t D σ H1 else u D σ H1
theorem C1 {c:Expr}{a b:List Stmt}{tc:TT}(hc:PT X c tc)(ha:U8 X a t)(hb:U8 X b u):PS X (.If c a b pos) (cp5 tc t u):=by
 intro pins s σ H D I h;refine wpAny_If (n9 (hc pins s σ H _ I h) fun d s1 ⟨H1,I1,q1⟩=> ?_)
 cases d with
 |true=>exact ha pins s1 σ H1 D I1 q1
 |false=>exact hb pins s1 σ H1 D I1 q1
def bn5:TS:=fun _ _ _=>False
theorem ay9:PS X st bn5:=fun _ _ _ _ _ _ h=>h.elim
theorem bn6 {sts:List Stmt}:U8 X sts bn5:=fun _ _ _ _ _ _ h=>h.elim
end
abbrev TG:=V->St->Hp->(St->Hp->Prop)->Prop
abbrev TGs:=List V->St->Hp->(St->Hp->Prop)->Prop
def PG (X:Cx)(target:Expr)(t:TG):Prop:=
 ∀(pins:List (Addr×Obj)) (s:Shared) (σ:St) (H:Hp) (v:V) (u:Value) (Q:St->Hp->Prop),g9 X pins σ H s->l9 v u->t v σ H Q->
  wpAny (model X.prog X.w) X.A (assign target X.env u) (fun _ s'=>∃σ' H',g9 X pins σ' H' s'/\Q σ' H') X.xe s
def PGs (X:Cx)(ts:List Expr)(t:TGs):Prop:=
 ∀(pins:List (Addr×Obj)) (s:Shared) (σ:St) (H:Hp) (vs:List V) (us:List Value) (Q:St->Hp->Prop),g9 X pins σ H s->j8 vs us->t vs σ H Q->
  wpAny (model X.prog X.w) X.A (assignInOrder ((assignEach ts X.env).map (·.2)) us) (fun _ s'=>∃σ' H',g9 X pins σ' H' s'/\Q σ' H') X.xe s
abbrev bv2:=V->V->V->Hp->(Hp->Prop)->Prop
def ch0 (X:Cx)(t:bv2):Prop:=
 ∀(pins:List (Addr×Obj)) (s:Shared) (σ:St) (H:Hp) (o i v:V) (ov iv u:Value) (Q:Hp->Prop),g9 X pins σ H s->l9 o ov->l9 i iv->l9 v u->t o i v H Q->
  wpAny (model X.prog X.w) X.A (setItem ov iv u) (fun _ s'=>∃H',g9 X pins σ H' s'/\Q H') X.xe s
section
variable {X:Cx} {pos:Pos}
def bj8 (i:Nat):TG:=fun v σ H Q=>Q (σ.set i (some v)) H
theorem i9 {i:Nat}{x:Str}(hN:X.N.Nodup)(hi:X.N[i]? =some x)(hx:Loc X.env.scope x)(hf:X.fn x=true\/X.env.scope.names.lookup x=some .local:=by first|exact .inl rfl|exact .inr rfl|assumption):PG X (.Name x pos) (bj8 i):=by
 intro pins s σ H v u Q I r h;exact wpAny_assign_Name (ac0 I hN hi hx r (fun s' I'=>⟨_,H,I',h⟩) hf)
def cp6:TGs:=fun vs σ H Q=>vs=[]/\Q σ H
def cl6 (t:TG)(u:TGs):TGs:=fun vs σ H Q=>∃v r,vs=v::r/\t v σ H fun σ' H'=>u r σ' H' Q
theorem N0:PGs X [] cp6:=by
 intro pins s σ H vs us Q I r h;obtain ⟨e,h⟩:=h;subst e;cases r;exact assignInOrder_nil ⟨σ,H,I,h⟩
theorem A5 {e:Expr}{es:List Expr}{t:TG}{u:TGs}(h1:PG X e t)(h2:PGs X es u)
   (hs:(assignEach (e::es) X.env).map (·.2)=assign e X.env::(assignEach es X.env).map (·.2):=by rfl):PGs X (e::es) (cl6 t u):=by
 intro pins s σ H vs us Q I r h;obtain ⟨v,vr,e1,h⟩:=h;subst e1
 cases r with
 |cons r rr=>
  rw[hs];refine assignInOrder_cons (n9 (h1 pins s σ H _ _ _ I r h) fun _ s1 ⟨σ1,H1,I1,q1⟩=> ?_);exact h2 pins s1 σ1 H1 _ _ Q I1 rr q1
def ch1 (K:PySem.W.Frag)(n:Nat)(t:TGs):TG:=fun v σ H Q=>∃a xs,v= .ref a/\Q3 K H a xs/\xs.length=n/\t xs σ H Q
theorem Q4 {es:List Expr}{k:Nat}{t:TGs}{n:Nat}(hc:X.calm=true)(h:PGs X es t)
   (hn:(assignEach es X.env).length=n:=by rfl) (hst:(assignEach es X.env).findIdx? (·.1)=none:=by rfl):PG X (.Tuple es k pos) (ch1 X.K n t):=by
 intro pins s σ H v u Q I r hw;obtain ⟨a,xs,e1,hq,hl,hw⟩:=hw;subst e1;cases r;obtain ⟨its,rv,ht,hz⟩:=I.tuple hq
 refine assign_Tuple_tuple (I.ok.hd hc) ht (by simp [hn,<-hl,rv.length]) hst fun h' hx=> ?_
 have I1:g9 X pins σ H {s with heap:=h'}:=I.kept (t':=s.toks) fun b o e=>hx b o (cw4 (Heap.lt_size e)) e
 exact h pins _ σ H xs _ Q I1 (by simpa using rv) hw
def cp7 (to ti:TE)(t:bv2):TG:=fun v σ H Q=>to σ H fun o H1=>ti σ H1 fun i H2=>t o i v H2 fun H3=>Q σ H3
theorem ae8 {o i:Expr}{to ti:TE}{t:bv2}(ho:PE X o to)(hi:PE X i ti)(hs:ch0 X t)
   (ha:∀v,assign (.Subscript o i pos) X.env v=(do
     let ov <-holding [v] (eval o X.env)
     let iv <-holding [v,ov] (eval i X.env)
     standAt pos
     holding [v,ov,iv] (setItem ov iv v)
     release [v,ov,iv] []):=by intro _;rfl):PG X (.Subscript o i pos) (cp7 to ti t):=by
 intro pins s σ H v u Q I r h;rw[ha];refine wpAny_bind (wpAny_holding (n9 (ho pins s σ H _ I h) fun ov s1 ⟨x,H1,I1,r1,q1⟩=> ?_));refine wpAny_bind (wpAny_holding (n9 (hi pins s1 σ H1 _ I1 q1) fun iv s2 ⟨y,H2,I2,r2,q2⟩=> ?_));refine wpAny_bind (wpAny_standAt (wpAny_bind (wpAny_holding (n9 (hs pins s2 σ H2 x y v ov iv u _ I2 r1 r2 r q2) fun _ s3 ⟨H3,I3,q3⟩=> ?_))));exact wpAny_release ⟨σ,H3,I3,q3⟩
def bv3 (te:TE)(g:TG):TS:=fun D σ H=>te σ H fun x H1=>g x σ H1 D.nx
theorem ae9 {tg e:Expr}{te:TE}{g:TG}(he:PE X e te)(hg:PG X tg g)(hs:swapsWithSole [tg] e pos.line X.env=pure false:=by rfl)(hw:swappedStores [tg] e X.env=pure none:=by rfl)
   (h1:(assignEach [tg] X.env).map (·.2)=[assign tg X.env]:=by rfl):PS X (.Assign [tg] e pos) (bv3 te g):=by
 intro pins s σ H D I h;refine wpAny_Assign_stores (n9 (he pins s σ H _ I h) fun v s1 ⟨x,H1,I1,r1,q1⟩=> ?_) hs hw;rw[h1]
 exact n9 (hg pins s1 σ H1 x v _ I1 r1 q1) fun _ s2 q=>q
theorem i8 {i:Nat}{x:Str}{e:Expr}{te:TE}{pos':Pos}(hN:X.N.Nodup)(hi:X.N[i]? =some x)(hx:Loc X.env.scope x)(he:PE X e te)(hs:swapsWith e (some (.Name x pos')) pos.line X.env=pure false:=by rfl)(hf:X.fn x=true\/X.env.scope.names.lookup x=some .local:=by first|exact .inl rfl|exact .inr rfl|assumption):
   PS X (.Assign [.Name x pos'] e pos) (bv3 te (bj8 i)):=by
 intro pins s σ H D I h;refine wpAny_Assign_Name (n9 (he pins s σ H _ I h) fun v s1 ⟨y,H1,I1,r1,q1⟩=> ?_) hs;exact ac0 I1 hN hi hx r1 (fun s2 I2=>⟨_,H1,I2,q1⟩) hf
end
section
variable {X:Cx} {pos:Pos}
def bn8 (c:TT)(tb:TS):TS:=fun D σ H=>∃W:Nat->St->Hp->Prop,(∃m,W m σ H)/\∀m σ H,W m σ H->
 c σ H fun b H1=>if b=true then ∃N:St->Hp->Prop,(∀σ' H',N σ' H'->∃m',m' < m/\W m' σ' H')/\tb {D with nx:=N,ct:=N,bk:=D.nx} σ H1 else D.nx σ H1
theorem am4 {c:Expr}{body:List Stmt}{tc:TT}{tb:TS}(hp:PassesOwn (model X.prog X.w) X.A X.env X.xe)(hc:PT X c tc)(hb:U8 X body tb):PS X (.While c body [] pos) (bn8 tc tb):=by
 intro pins s σ H D I h;obtain ⟨W,⟨m0,w0⟩,turn⟩:=h;refine wpAny_While (codeAny_whileLoop (fun n s'=>∃σ' H',g9 X pins σ' H' s'/\W n σ' H') ?_ m0 ⟨σ,H,I,w0⟩);rintro n s1 ⟨σ1,H1,I1,w1⟩;refine wpAny_passesOwn hp (n9 (hc pins s1 σ1 H1 _ I1 (turn n σ1 H1 w1)) fun b s2 ⟨H2,I2,q2⟩=> ?_)
 cases b with
 |true=>
  obtain ⟨N,hN,q2⟩:=q2;rw[if_pos rfl];refine wpAny_passesOwn hp (n9 (hb pins s2 σ1 H2 _ I2 q2) fun f s3 q3=> ?_)
  cases f with
  |next=>
   obtain ⟨σ3,H3,I3,n3⟩:=q3;obtain ⟨m',hm,w3⟩:=hN σ3 H3 n3;exact ⟨m',hm,σ3,H3,I3,w3⟩
  |cont=>
   obtain ⟨σ3,H3,I3,n3⟩:=q3;obtain ⟨m',hm,w3⟩:=hN σ3 H3 n3;exact ⟨m',hm,σ3,H3,I3,w3⟩
  |brk=>exact q3
  |ret v=>exact q3
 |false=>
  rw[if_neg cu8];exact wpAny_execs_nil ⟨σ1,H2,I2,q2⟩
end
structure It where
 go:Nat->Hp->Prop
 yld:Nat->Hp->V->Hp->Prop
 stop:Nat->Hp->Prop
def af0 (X:Cx)(pins:List (Addr×Obj))(H:Hp)(b:Addr):Prop:=
 H b=none/\b≠X.env.locals/\b∉X.fs/\(b∈X.ex\/X.s₀.heap.objs.size<=b)/\(∀x c,X.env.cells.lookup x=some c->c≠b)/\∀p∈X.pn++pins,p.1≠b
theorem g9.fpOk {X:Cx}{pins:List (Addr×Obj)}{σ:St}{H H':Hp}{s:Shared}{b:Addr}(I:g9 X pins σ H s)(hb:s.heap.objs.size<=b)(hn:H' b=none):af0 X pins H' b:=by
 refine ⟨hn,Nat.ne_of_gt (cw8 I.lt hb),I.nofs hb,.inr (cw7 I.sz hb),fun x c e z=> ?_,fun p hp z=> ?_⟩
 · obtain ⟨v,q⟩:=I.cell x c e;exact absurd (cw8 q.lt (by rw[z];exact hb)) (da3 _)
 · exact absurd (cw8 (Heap.lt_size (I.pin p hp).1) (by rw[z];exact hb)) (da3 _)
structure as3 (P:Program)(w:World)(K:PySem.W.Frag)(tg:Expr)(J:It)(fp:List Addr)(it:Addr)(tn:Nat->Heap->Prop):Prop where
 mem:it∈fp
 obj:∀i h,tn i h->∀b∈fp,∃o,h.get? b=some o/\∀v,o.data≠.cell v
 keep:∀i h h',tn i h->(∀b∈fp,∀o,h.get? b=some o->h'.get? b=some o)->tn i h'
 item:∀(X:Cx),X.prog=P->X.w=w->X.K=K->X.calm=true->∀(i:Nat) (pins:List (Addr×Obj)) (s:Shared) (σ:St) (H:Hp) (E:Value->Shared->Prop),g9 X pins σ H s->(∀b∈fp,af0 X pins H b)->tn i s.heap->J.go i H->
   wpAny (model P w) X.A (pyNext (.ref it)) (fun r s1=>∃u,r=some u/\
     wpAny (model P w) X.A (letOwnedTupleGo tg (.ref it) u) (fun _ s2=>∃x H',g9 X pins σ H' s2/\l9 x u/\J.yld i H x H'/\tn (i+1) s2.heap/\∀b∈fp,H' b=none) E s1) E s
 done:∀(X:Cx),X.prog=P->X.w=w->X.K=K->X.calm=true->∀(i:Nat) (pins:List (Addr×Obj)) (s:Shared) (σ:St) (H:Hp) (E:Value->Shared->Prop),g9 X pins σ H s->(∀b∈fp,af0 X pins H b)->tn i s.heap->J.stop i H->
   wpAny (model P w) X.A (pyNext (.ref it)) (fun r s1=>r=none/\g9 X pins σ H s1) E s
 self:∀(A:Around) (i:Nat) (s:Shared) (Q:Value->Shared->Prop) (E:Value->Shared->Prop),tn i s.heap->Q (.ref it) s->wpAny (model P w) A (pyIter (.ref it)) Q E s
abbrev TI:=St->Hp->(It->Hp->Prop)->Prop
def PIE (X:Cx)(pins:List (Addr×Obj))(σ:St)(tg:Expr)(R:It->Hp->Prop)(itv:Value)(s2:Shared):Prop:=
 ∃(it:Addr) (fp:List Addr) (tn:Nat->Heap->Prop) (J:It) (H':Hp),itv= .ref it/\g9 X pins σ H' s2/\as3 X.prog X.w X.K tg J fp it tn/\tn 0 s2.heap/\(∀b∈fp,af0 X pins H' b)/\R J H'
def PI (X:Cx)(tg iter:Expr)(wi:TI):Prop:=
 ∀(pins:List (Addr×Obj)) (s:Shared) (σ:St) (H:Hp) (R:It->Hp->Prop),g9 X pins σ H s->wi σ H R->
  wpAny (model X.prog X.w) X.A (eval iter X.env) (fun v s1=>wpAny (model X.prog X.w) X.A (pyIter v) (PIE X pins σ tg R) X.xe s1) X.xe s
theorem bj9 {M:Model}{A:Around}{E:Value->Shared->Prop}{s:Shared}{tg:Expr}{it:Addr}{u:Value}{o:Obj}{n:String}{vs:Array Value}{Q:Unit->Shared->Prop}(ho:s.heap.get? it=some o)(hc:o.cls= .type n)(hd:o.data= .fields vs)
   (hn:["enumerate","zip","dict_itemiterator","dict_reverseitemiterator","odict_iterator","itertools.zip_longest","itertools.pairwise"].contains n=false) (hQ:Q () s):wpAny M A (letOwnedTupleGo tg (.ref it) u) Q E s:=by
 unfold letOwnedTupleGo
 cases tg<;>first
   |exact wpAny_pure hQ
   |(cases u<;>first
       |exact wpAny_pure hQ
       |(refine wpAny_bind (wpAny_load ho ?_)
         rw[hc,hd];show wpAny M A (if (["enumerate","zip","dict_itemiterator","dict_reverseitemiterator","odict_iterator","itertools.zip_longest","itertools.pairwise"].contains n&&vs[0]? ==some (rawInt _))=true then _ else _) Q E s;rw[if_neg (by intro h;rw[hn,Bool.false_and] at h;cases h)]
         exact wpAny_pure hQ))
def Itl (K:PySem.W.Frag)(a:Addr):It:=
 ⟨fun i H=>∃xs x,i4 K H a xs/\xs[i]? =some x,fun i H x H'=>H'=H/\∀xs,i4 K H a xs->xs[i]? =some x,fun i H=>∃xs,i4 K H a xs/\xs.length<=i⟩
def Itr (lo:Int)(n:Nat):It:=⟨fun i _=>i < n,fun i H x H'=>H'=H/\x= .int (lo+i),fun i _=>n<=i⟩
theorem bn9 {P:Program}{w:World}{K:PySem.W.Frag}{tg:Expr}(a it:Addr):as3 P w K tg (Itl K a) [it] it (fun i h=>h.IsListIter it a i) where
 mem:=by simp
 obj:=fun i h st b hb=>by
   have e:b=it:=by simpa using hb
   subst e;obtain ⟨o,e,c,d⟩:=st;exact ⟨o,e,fun v z=>by rw[d] at z;cases z⟩
 keep:=fun i h h' st k=>st.at fun o e=>k it (by simp) o e
 item:=by
   intro X hP hw hK hc i pins s σ H E I hf st hg;subst hP hw hK;obtain ⟨xs,x,hq,hx⟩:=hg;obtain ⟨its,rv,p,hz⟩:=I.list hq;obtain ⟨u,hu,ru⟩:=rv.get hx;obtain ⟨f0,f1,f2,f3,f4,f5⟩:=hf it (by simp)
   refine wpAny_pyNext_list_item st p.isList (x:=u) (by simpa using hu) fun h' st' sb=> ?_
   have I1:g9 X pins σ H {s with heap:=h'}:=I.turned (t':=s.toks) (fun b o hb e=>(sb.2 b hb).trans e) f0 f1 f3 f4 f5;obtain ⟨o,e,c,d⟩:=id st';exact ⟨u,rfl,bj9 (s:={s with heap:=h'}) e c d (by decide) ⟨x,H,I1,ru,⟨rfl,fun ys hy=>by rw[I.list_inj hy hq];exact hx⟩,st',fun b hb=>(hf b hb).1⟩⟩
 done:=by
   intro X hP hw hK hc i pins s σ H E I hf st hg;subst hP hw hK;obtain ⟨xs,hq,hx⟩:=hg;obtain ⟨its,rv,p,hz⟩:=I.list hq;obtain ⟨f0,f1,f2,f3,f4,f5⟩:=hf it (by simp);have hl:=rv.length
   exact wpAny_pyNext_list_end (I.ok.hd hc) st p.isList (by simp;omega) fun h' eb=>⟨rfl,I.turned (t':=s.toks) (fun b o hb e=>eb b o hb e) f0 f1 f3 f4 f5⟩
 self:=fun _ _ _ _ _ st h=>wpAny_pyIter_listiter st h
theorem bk0 {P:Program}{w:World}{K:PySem.W.Frag}{tg:Expr}(it:Addr)(lo:Int)(n:Nat):as3 P w K tg (Itr lo n) [it] it (fun i h=>IsRangeIter h it (lo+(i:Nat)*1) ((n:Int) - (i:Nat)) 1) where
 mem:=by simp
 obj:=fun i h st b hb=>by
   have e:b=it:=by simpa using hb
   subst e
   exact ⟨_,st,fun v z=>by
     have z':Data.fields _=Data.cell v:=z
     cases z'⟩
 keep:=fun i h h' st k=>k it (by simp) _ st
 item:=by
   intro X hP hw hK hc i pins s σ H E I hf st hg;subst hP hw hK;obtain ⟨f0,f1,f2,f3,f4,f5⟩:=hf it (by simp);have W:=Walks.range (prog:=X.prog) (w:=X.w) (I.ok.hd hc) it lo 1 n
   refine W.item i s _ _ hg st fun v h' tk hv st' kk=> ?_
   obtain ⟨t,rfl⟩:=hv;have I1:g9 X pins σ H {s with heap:=h',toks:=tk}:=I.turned (fun b o hb e=>kk b o (by simpa using hb) e) f0 f1 f3 f4 f5;refine ⟨_,rfl,bj9 (s:={s with heap:=h',toks:=tk}) (n:="range_iterator") st' rfl rfl (by decide) ⟨.int (lo+i),H,I1,⟨t,?_⟩,⟨rfl,rfl⟩,st',fun b hb=>(hf b hb).1⟩⟩;rw[Int.mul_one]
 done:=by
   intro X hP hw hK hc i pins s σ H E I hf st hg;subst hP hw hK;obtain ⟨f0,f1,f2,f3,f4,f5⟩:=hf it (by simp)
   exact wpAny_pyNext_range_end (I.ok.hd hc) st (by have:n<=i:=hg;omega) fun h' eb=>⟨rfl,I.turned (t':=s.toks) (fun b o hb e=>eb b o hb e) f0 f1 f3 f4 f5⟩
 self:=fun _ _ _ _ _ st h=>wpAny_pyIter_rangeiter st h
end L2
namespace L2
open PySem PySem.Spec PyProof.Rows
section
variable {X:Cx} {tg:Expr}
def cl7 (K:PySem.W.Frag)(tl:TE):TI:=fun σ H R=>tl σ H fun x H1=>∃a,x= .ref a/\(∃xs,i4 K H1 a xs)/\R (Itl K a) H1
theorem C5 {l:Expr}{tl:TE}(hl:PE X l tl):PI X tg l (cl7 X.K tl):=by
 intro pins s σ H R I h
 refine n9 (hl pins s σ H _ I h) fun v s1 ⟨x,H1,I1,r1,q1⟩=> ?_
 obtain ⟨a,e,⟨xs,hq⟩,q⟩:=q1;subst e;cases r1;obtain ⟨its,rv,p,hz⟩:=I1.list hq;refine wpAny_pyIter_list p.isList ?_;refine ⟨s1.heap.objs.size,[s1.heap.objs.size],_,_,H1,rfl,I1.kept (t':=s1.toks) fun b o e=>Heap.get?_push_of_some _ e,bn9 a _,⟨_,Heap.get?_push_size _ rfl,rfl,rfl⟩,fun b hb=> ?_,q⟩
 have e:b=s1.heap.objs.size:=by simpa using hb
 subst e;exact I1.fpOk (ct4 _) (I1.hok.fresh (ct4 _))
theorem az0 {pins:List (Addr×Obj)}{σ:St}{H:Hp}{s:Shared}{R:It->Hp->Prop}{E:Value->Shared->Prop}{lo hi:Int}{t u v:Tok}{tk:Nat}(I:g9 X pins σ H s)(h1: -(2^62)<=lo)(h2:lo < 2^62)(h3: -(2^62)<=hi)(h4:hi < 2^62)
   (q:R (Itr lo (hi - lo).toNat) H):wpAny (model X.prog X.w) X.A (pyIter (.ref s.heap.objs.size)) (PIE X pins σ tg R) E {s with heap:=s.heap.push {cls:= .type "range",data:= .fields #[.int lo t,.int hi u,.int 1 v]},toks:=tk}:=by
 refine wpAny_pyIter_range (IsRange.new ..) (small_one h1 h2 h3 h4) ?_
 have I1:g9 X pins σ H {s with heap:=s.heap.push {cls:= .type "range",data:= .fields #[.int lo t,.int hi u,.int 1 v]},toks:=tk}:=I.kept fun b o e=>Heap.get?_push_of_some _ e
 refine ⟨(s.heap.push {cls:= .type "range",data:= .fields #[.int lo t,.int hi u,.int 1 v]}).objs.size,[(s.heap.push {cls:= .type "range",data:= .fields #[.int lo t,.int hi u,.int 1 v]}).objs.size],_,_,H,rfl,
   I1.kept (t':=tk) fun b o e=>Heap.get?_push_of_some _ e,bk0 _ lo (hi - lo).toNat,?_,fun b hb=> ?_,q⟩
 · have e1:lo+((0:Nat):Int)*1=lo:=by simp
   have e2:(((hi - lo).toNat:Nat):Int) - ((0:Nat):Int)=Builtin.Range.rangeSize lo hi 1:=by rw[rangeSize_one];split<;>omega
   show IsRangeIter _ _ (lo+((0:Nat):Int)*1) ((((hi - lo).toNat:Nat):Int) - ((0:Nat):Int)) 1;rw[e1,e2];exact Heap.get?_push_size _ rfl
 · have e:b=(s.heap.push {cls:= .type "range",data:= .fields #[.int lo t,.int hi u,.int 1 v]}).objs.size:=by simpa using hb
   subst e;exact I1.fpOk (ct4 _) (I1.hok.fresh (ct4 _))
def cl8 (ta:TA):TI:=fun σ H R=>ta σ H fun vs H1=>∃j:Int,vs=[.int j]/\ -(2^62)<=j/\j < 2^62/\R (Itr 0 j.toNat) H1
def cl9 (ta:TA):TI:=fun σ H R=>ta σ H fun vs H1=>∃i j:Int,vs=[.int i,.int j]/\(-(2^62)<=i/\i < 2^62/\ -(2^62)<=j/\j < 2^62)/\R (Itr i (j - i).toNat) H1
theorem M1 {a:Expr}{ta:TA}{p pos:Pos}(hg:Gl X "range")(hm:X.mg "range"=none)(ha:PA X [a] ta)(hs:starEach [a] X.env=[(false,eval a X.env)]:=by rfl):PI X tg (.Call (.Name "range" p) [a] [] pos) (cl8 ta):=by
 intro pins s σ H R I h;refine Call_ (W6 I hg hm boot_range (PyProof.Rows.callWith_type1 (n9 (ha pos pins s σ H _ I h) fun us s1 ⟨vs,H1,I1,r1,q1⟩=> ?_) hs rfl));obtain ⟨j,e,q1,q2,q⟩:=q1;subst e
 cases r1 with
 |cons r rr=>
  cases rr;obtain ⟨t,rfl⟩:=r;exact call_range_1 (az0 I1 (by omega) (by omega) q1 q2 (by simpa using q))
theorem bo0 {a b:Expr}{ta:TA}{p pos:Pos}(hg:Gl X "range")(hm:X.mg "range"=none)(ha:PA X [a,b] ta)(hs:starEach [a,b] X.env=[(false,eval a X.env),(false,eval b X.env)]:=by rfl)(hs2:starEach [b] X.env=[(false,eval b X.env)]:=by rfl):
   PI X tg (.Call (.Name "range" p) [a,b] [] pos) (cl9 ta):=by
 intro pins s σ H R I h;refine Call_ (W6 I hg hm boot_range (PyProof.Rows.callWith_type1 (n9 (ha pos pins s σ H _ I h) fun us s1 ⟨vs,H1,I1,r1,q1⟩=> ?_) (by rw[hs,hs2]) (by rw[hs2];rfl)));obtain ⟨i,j,e,⟨q1,q2,q3,q4⟩,q⟩:=q1;subst e
 cases r1 with
 |cons r rr=>
  cases rr with
  |cons r' rr=>
   cases rr;obtain ⟨t,rfl⟩:=r;obtain ⟨t',rfl⟩:=r';exact call_range_2 (az0 I1 q1 q2 q3 q4 q)
def cp8 (wi:TI)(g:TG)(tb:TS):TS:=fun D σ H=>wi σ H fun J H1=>∃W:Nat->Nat->St->Hp->Prop,(∃m,W 0 m σ H1)/\∀i m σ H,W i m σ H->
 (J.stop i H/\D.nx σ H)\/(J.go i H/\∃N:St->Hp->Prop,(∀σ' H',N σ' H'->∃m',m' < m/\W (i+1) m' σ' H')/\∀x H',J.yld i H x H'->g x σ H' fun σ2 H2=>tb {D with nx:=N,ct:=N,bk:=D.nx} σ2 H2)
def W7 (fp:List Addr)(h:Heap):List (Addr×Obj):=fp.filterMap fun b=>(h.get? b).map fun o=>(b,o)
theorem U9 {fp:List Addr}{h:Heap}{b:Addr}{o:Obj}(hb:b∈fp)(e:h.get? b=some o):(b,o)∈W7 fp h:=dg4.mpr ⟨b,hb,by rw[e];rfl⟩
theorem au9 {fp:List Addr}{h:Heap}{p:Addr×Obj}(hp:p∈W7 fp h):p.1∈fp/\h.get? p.1=some p.2:=by
 obtain ⟨b,hb,e⟩:=dg4.mp hp
 cases q:h.get? b with
 |none=>rw[q] at e;cases e
 |some o=>
  rw[q] at e;have e':(b,o)=p:=Option.some.inj e;subst e';exact ⟨hb,q⟩
theorem g9.pinned {pins:List (Addr×Obj)}{σ:St}{H:Hp}{s:Shared}{fp:List Addr}(I:g9 X pins σ H s)(hf:∀b∈fp,af0 X pins H b)(ho:∀b∈fp,∃o,s.heap.get? b=some o/\∀v,o.data≠.cell v):g9 X (pins++W7 fp s.heap) σ H s:=
 I.pins_of fun p hp=>(cu5.mp hp).elim (fun z=>I.pin p (cu7 _ z)) fun z=>by
   obtain ⟨hb,e⟩:=au9 z;obtain ⟨f0,f1,f2,_⟩:=hf p.1 hb;obtain ⟨o,e',d⟩:=ho p.1 hb;rw[e] at e';cases e';exact ⟨e,f0,f1,f2,d⟩
theorem g9.unpinned {pins pl:List (Addr×Obj)}{σ:St}{H:Hp}{s:Shared}(I:g9 X (pins++pl) σ H s):g9 X pins σ H s:=I.pins_of fun p hp=>I.pin p (cu7 _ (cx6 _ hp))
theorem x8 {iter:Expr}{body:List Stmt}{wi:TI}{g:TG}{tb:TS}{pos:Pos}(hp:PassesOwn (model X.prog X.w) X.A X.env X.xe)(hc:X.calm=true)(hi:PI X tg iter wi)(hg:PG X tg g)(hb:U8 X body tb)
   (hs:∀x,foldedSetIterable iter X.env x=pure x:=by intro _;rfl):PS X (.For tg iter body [] pos) (cp8 wi g tb):=by
 intro pins s σ H D I h;refine wpAny_For (n9 (hi pins s σ H _ I h) fun v s1 h1=>n9 h1 fun itv s2 h2=> ?_) hs;obtain ⟨it,fp,tn,J,H2,e,I2,T,st2,f2,W,⟨m0,w0⟩,turn⟩:=h2;subst e
 have stat:∀{H':Hp},(∀b∈fp,H' b=none)->∀b∈fp,af0 X pins H' b:=fun hn b hb=>⟨hn b hb,(f2 b hb).2⟩
 refine codeAny_forLoop_any (fun n s'=>∃i σ' H',g9 X pins σ' H' s'/\tn i s'.heap/\(∀b∈fp,H' b=none)/\W i n σ' H') ?_ m0 ⟨0,σ,H2,I2,st2,fun b hb=>(f2 b hb).1,w0⟩;rintro n s3 ⟨i,σ3,H3,I3,st3,fr3,w3⟩
 rcases turn i n σ3 H3 w3 with ⟨stop,qn⟩|⟨go,N,hN,step⟩
 · refine wpAny_passesOwn hp (n9 (T.done X rfl rfl rfl hc i pins s3 σ3 H3 X.xe I3 (stat fr3) st3 stop) fun r s4 ⟨hr,I4⟩=> ?_);subst hr;exact wpAny_execs_nil ⟨σ3,H3,I4,qn⟩
 · refine wpAny_passesOwn hp (n9 (T.item X rfl rfl rfl hc i pins s3 σ3 H3 X.xe I3 (stat fr3) st3 go) fun r s4 ⟨u,hr,h4⟩=> ?_);subst hr;refine wpAny_passesOwn hp (n9 h4 fun _ s5 ⟨x,H5,I5,r5,y5,st5,fr5⟩=> ?_);have I5':=I5.pinned (stat fr5) (T.obj _ _ st5);refine wpAny_passesOwn hp (n9 (hg _ s5 σ3 H5 x u _ I5' r5 (step x H5 y5)) fun _ s6 ⟨σ6,H6,I6,q6⟩=> ?_);refine wpAny_passesOwn hp (n9 (hb _ s6 σ6 H6 _ I6 q6) fun f s7 q7=> ?_)
   have again:∀{σ7:St} {H7:Hp},g9 X (pins++W7 fp s5.heap) σ7 H7 s7->N σ7 H7->∃m,m < n/\∃i σ' H',g9 X pins σ' H' s7/\tn i s7.heap/\(∀b∈fp,H' b=none)/\W i m σ' H':=fun {σ7 H7} I7 n7=>by
     obtain ⟨m',hm,w7⟩:=hN σ7 H7 n7;refine ⟨m',hm,i+1,σ7,H7,I7.unpinned,T.keep _ _ _ st5 fun b hb o e=>(I7.pin (b,o) (cu7 _ (cu7 _ (U9 hb e)))).1,fun b hb=> ?_,w7⟩;obtain ⟨o,e,d⟩:=T.obj _ _ st5 b hb;exact (I7.pin (b,o) (cu7 _ (cu7 _ (U9 hb e)))).2.1
   cases f with
   |next=>obtain ⟨σ7,H7,I7,n7⟩:=q7;exact again I7 n7
   |cont=>obtain ⟨σ7,H7,I7,n7⟩:=q7;exact again I7 n7
   |brk=>obtain ⟨σ7,H7,I7,q7⟩:=q7;exact ⟨σ7,H7,I7.unpinned,q7⟩
   |ret v=>obtain ⟨x7,σ7,H7,I7,r7,q7⟩:=q7;exact ⟨x7,σ7,H7,I7.unpinned,r7,q7⟩
end
theorem G6 {K:PySem.W.Frag}{a:Addr}{xs:List V}{g:TG}{tb:TS}{D:R7}{σ:St}{H:Hp}(Pv:Nat->St->Hp->Prop)(h0:Pv 0 σ H)(hl:∀i σ H,i<=xs.length->Pv i σ H->i4 K H a xs)
   (hs:∀i x σ H,xs[i]? =some x->Pv i σ H->g x σ H fun σ2 H2=>tb {D with nx:=Pv (i+1),ct:=Pv (i+1),bk:=D.nx} σ2 H2) (hd:∀σ H,Pv xs.length σ H->D.nx σ H):
   ∃W:Nat->Nat->St->Hp->Prop,(∃m,W 0 m σ H)/\∀i m σ H,W i m σ H->
    ((Itl K a).stop i H/\D.nx σ H)\/((Itl K a).go i H/\∃N:St->Hp->Prop,(∀σ' H',N σ' H'->∃m',m' < m/\W (i+1) m' σ' H')/\∀x H',(Itl K a).yld i H x H'->g x σ H' fun σ2 H2=>tb {D with nx:=N,ct:=N,bk:=D.nx} σ2 H2):=by
 refine ⟨fun i m σ H=>m=xs.length - i/\i<=xs.length/\Pv i σ H,⟨xs.length,by simp,cv9 _,h0⟩,?_⟩;rintro i m σ H ⟨rfl,hi,p⟩;have q:=hl i σ H hi p
 by_cases hlt:i < xs.length
 · refine .inr ⟨⟨xs,xs[i],q,by simp [hlt]⟩,Pv (i+1),fun σ' H' p'=>⟨xs.length - (i+1),by omega,rfl,hlt,p'⟩,fun x H' y=> ?_⟩;obtain ⟨e,y⟩:=y;subst e;exact hs i x σ _ (y xs q) p
 · have e:i=xs.length:=by omega
   subst e;exact .inl ⟨⟨xs,q,ct4 _⟩,hd σ H p⟩
theorem M2 {lo:Int}{n:Nat}{g:TG}{tb:TS}{D:R7}{σ:St}{H:Hp}(Pv:Nat->St->Hp->Prop)(h0:Pv 0 σ H)
   (hs:∀i σ H,i < n->Pv i σ H->g (.int (lo+i)) σ H fun σ2 H2=>tb {D with nx:=Pv (i+1),ct:=Pv (i+1),bk:=D.nx} σ2 H2) (hd:∀σ H,Pv n σ H->D.nx σ H):
   ∃W:Nat->Nat->St->Hp->Prop,(∃m,W 0 m σ H)/\∀i m σ H,W i m σ H->
    ((Itr lo n).stop i H/\D.nx σ H)\/((Itr lo n).go i H/\∃N:St->Hp->Prop,(∀σ' H',N σ' H'->∃m',m' < m/\W (i+1) m' σ' H')/\∀x H',(Itr lo n).yld i H x H'->g x σ H' fun σ2 H2=>tb {D with nx:=N,ct:=N,bk:=D.nx} σ2 H2):=by
 refine ⟨fun i m σ H=>m=n - i/\i<=n/\Pv i σ H,⟨n,by simp,cv9 _,h0⟩,?_⟩;rintro i m σ H ⟨rfl,hi,p⟩
 by_cases hlt:i < n
 · refine .inr ⟨hlt,Pv (i+1),fun σ' H' p'=>⟨n - (i+1),by omega,rfl,hlt,p'⟩,fun x H' y=> ?_⟩;obtain ⟨e,y⟩:=y;subst e y;exact hs i σ _ hlt p
 · have e:i=n:=by omega
   subst e;exact .inl ⟨ct4 _,hd σ H p⟩
theorem az1 {c:TT}{tb:TS}{D:R7}{σ:St}{H:Hp}(Pv:St->Hp->Prop)(μ:St->Hp->Nat)(h0:Pv σ H)
   (hs:∀σ H,Pv σ H->c σ H fun b H1=>if b=true then tb {D with nx:=fun σ' H'=>Pv σ' H'/\μ σ' H' < μ σ H,ct:=fun σ' H'=>Pv σ' H'/\μ σ' H' < μ σ H,bk:=D.nx} σ H1 else D.nx σ H1)
   (mono:∀σ H Q Q',(∀b H1,Q b H1->Q' b H1)->c σ H Q->c σ H Q'):bn8 c tb D σ H:=by
 refine ⟨fun m σ H=>m=μ σ H/\Pv σ H,⟨_,rfl,h0⟩,?_⟩;rintro m σ H ⟨rfl,p⟩;refine mono σ H _ _ (fun b H1 q=> ?_) (hs σ H p)
 cases b with
 |true=>exact ⟨_,fun σ' H' ⟨p',l⟩=>⟨_,l,rfl,p'⟩,q⟩
 |false=>exact q
end L2
namespace L2
open PySem PySem.Spec PyProof.Rows
abbrev R2:=V->V->Hp->VK->Prop
def J6 (X:Cx)(f:Value->Value->Sem Value)(r:R2):Prop:=
 ∀(pins:List (Addr×Obj)) (s:Shared) (σ:St) (H:Hp) (x y:V) (v u:Value) (Q:VK),g9 X pins σ H s->l9 x v->l9 y u->r x y H Q->
  wpAny (model X.prog X.w) X.A (f v u) (EP X pins σ Q) X.xe s
def N3 (X:Cx)(f:Value)(r:List V->Hp->VK->Prop):Prop:=
 ∀(pins:List (Addr×Obj)) (s:Shared) (σ:St) (H:Hp) (xs:List V) (us:List Value) (Q:VK),g9 X pins σ H s->j8 xs us->r xs H Q->
  wpAny (model X.prog X.w) X.A (call f us) (EP X pins σ Q) X.xe s
def tOp (r:R2)(ta tb:TE):TE:=fun σ H Q=>ta σ H fun x H1=>tb σ H1 fun y H2=>r x y H2 Q
def rI (C:Int->Int->Prop)(g:Int->Int->V):R2:=fun x y H Q=>∃i j,x= .int i/\y= .int j/\C i j/\Q (g i j) H
def rI0 (g:Int->Int->V):R2:=fun x y H Q=>∃i j,x= .int i/\y= .int j/\Q (g i j) H
section
variable {X:Cx} {a b c:Expr} {ta tb tc:TE} {pos:Pos}
theorem bv4 (ha:PE X a ta)(hb:PE X b tb){pins:List (Addr×Obj)}{s:Shared}{σ:St}{H:Hp}{R:V->V->Hp->Prop}(I:g9 X pins σ H s)
   (h:ta σ H fun x H1=>tb σ H1 fun y H2=>R x y H2) {Q:Value->Shared->Prop} {f:Value->Value->Sem Value}
   (hf:∀v u s2 x y H2,g9 X pins σ H2 s2->l9 x v->l9 y u->R x y H2->wpAny (model X.prog X.w) X.A (f v u) Q X.xe s2):
   wpAny (model X.prog X.w) X.A (eval a X.env) (fun v s₁=>wpAny (model X.prog X.w) X.A (eval b X.env) (fun u s₂=>wpAny (model X.prog X.w) X.A (f v u) Q X.xe s₂) X.xe s₁) X.xe s:=by
 refine n9 (ha pins s σ H _ I h) fun v s1 ⟨x,H1,I1,r1,q1⟩=> ?_
 refine n9 (hb pins s1 σ H1 _ I1 q1) fun u s2 ⟨y,H2,I2,r2,q2⟩=> ?_
 exact hf v u s2 x y H2 I2 r1 r2 q2
theorem q9 {op:Operator}{r:R2}(ho:J6 X (binaryOp op) r)(ha:PE X a ta)(hb:PE X b tb):PE X (.BinOp a op b pos) (tOp r ta tb):=by
 intro pins s σ H Q I h;exact wpAny_BinOp (bv4 ha hb I h fun v u s2 x y H2 I2 rx ry q=>ho pins s2 σ H2 x y v u Q I2 rx ry q)
theorem opI {f:Value->Value->Sem Value}{C:Int->Int->Prop}{g:Int->Int->Int}
   (rule:∀(i j:Int) (t u:Tok) (s:Shared) (Q:Value->Shared->Prop) (E:Value->Shared->Prop),C i j->Q (.int (g i j) s.toks) {s with toks:=s.toks+1}->wpAny (model X.prog X.w) X.A (f (.int i t) (.int j u)) Q E s):
   J6 X f (rI C fun i j=> .int (g i j)):=by
 intro pins s σ H x y v u Q I rx ry h;obtain ⟨i,j,rfl,rfl,hc,q⟩:=h;obtain ⟨t,rfl⟩:=rx;obtain ⟨t',rfl⟩:=ry;exact rule i j t t' s _ _ hc ⟨.int (g i j),H,I.tok _,⟨_,rfl⟩,q⟩
theorem ch2 {f:Value->Value->Sem Value}{g:Int->Int->Int}
   (rule:∀(i j:Int) (t u:Tok) (s:Shared) (Q:Value->Shared->Prop) (E:Value->Shared->Prop),Q (.int (g i j) s.toks) {s with toks:=s.toks+1}->wpAny (model X.prog X.w) X.A (f (.int i t) (.int j u)) Q E s):
   J6 X f (rI0 fun i j=> .int (g i j)):=by
 intro pins s σ H x y v u Q I rx ry h;obtain ⟨i,j,rfl,rfl,q⟩:=h;obtain ⟨t,rfl⟩:=rx;obtain ⟨t',rfl⟩:=ry;exact rule i j t t' s _ _ ⟨.int (g i j),H,I.tok _,⟨_,rfl⟩,q⟩
theorem bv5 {f:Value->Value->Sem Value}{g:Int->Int->Bool}
   (rule:∀(i j:Int) (t u:Tok) (s:Shared) (Q:Value->Shared->Prop) (E:Value->Shared->Prop),Q (.bool (g i j)) s->wpAny (model X.prog X.w) X.A (f (.int i t) (.int j u)) Q E s):
   J6 X f (rI0 fun i j=> .bl (g i j)):=by
 intro pins s σ H x y v u Q I rx ry h;obtain ⟨i,j,rfl,rfl,q⟩:=h;obtain ⟨t,rfl⟩:=rx;obtain ⟨t',rfl⟩:=ry;exact rule i j t t' s _ _ ⟨.bl (g i j),H,I,rfl,q⟩
def cp9 (i j:Int):Prop:=0 < j/\j < 1073741824
def ch3 (i j:Int):Prop:=0<=j/\j<=1000000/\i.natAbs < 2^64
def bv6 (i j:Int):Prop:=(-(2^64) < i/\i < 2^64)\/(-(2^64) < j/\j < 2^64)
theorem bv6.ok {i j:Int}(h:bv6 i j):IntMulOk i j:=by
 rcases h with ⟨h1,h2⟩|⟨h1,h2⟩
 · exact .of_left (intBits_le_64 h1 h2)
 · exact .of_right (intBits_le_64 h1 h2)
theorem J0:J6 X (binaryOp .Add) (rI0 fun i j=> .int (i+j)):=ch2 fun _ _ _ _ _ _ _ q=>add_int q
theorem ch4:J6 X (binaryOp .Sub) (rI0 fun i j=> .int (i - j)):=ch2 fun _ _ _ _ _ _ _ q=>sub_int q
theorem aa8:J6 X (binaryOp .Mult) (rI bv6 fun i j=> .int (i*j)):=opI fun _ _ _ _ _ _ _ hc q=>mul_int q hc.ok
theorem cb3:J6 X (binaryOp .FloorDiv) (rI cp9 fun i j=> .int (i/j)):=opI fun i j _ _ _ _ _ hc q=>by
 have h1:(0:Int) < j:=hc.1;have h2:j < 1073741824:=hc.2;exact floordiv_int (by omega) (by rw[dg9 i (by omega)];exact q) (.inl (PyProof.noPylong_small (by omega)))
theorem T7:J6 X (binaryOp .Mod) (rI (fun _ j=>0 < j) fun i j=> .int (i%j)):=opI fun i j _ _ _ _ _ hc q=>by
 have h1:(0:Int) < j:=hc;exact mod_int' (by omega) (by rw[Int.fmod_eq_emod_of_nonneg i (by omega)];exact q)
theorem ch5:J6 X (binaryOp .Pow) (rI ch3 fun i j=> .int (i^j.toNat)):=opI fun _ _ _ _ _ _ _ hc q=>pow_int_small hc.1 hc.2.1 hc.2.2 q
end
def bv7:V->V->Bool
 | .non,.non=>true| .non,.int _=>true| .int _,.non=>true| .non,.bl _=>true| .bl _,.non=>true| .non,.str _=>true| .str _,.non=>true
 | .int _,.int _=>true| .bl _,.bl _=>true| .str _,.str _=>true| .byt _,.byt _=>true
 | .int _,.str _=>true| .str _,.int _=>true| .bl _,.str _=>true| .str _,.bl _=>true
 |_,_=>false
def rEq:R2:=fun x y H Q=>bv7 x y=true/\Q (.bl (decide (x=y))) H
def rNe:R2:=fun x y H Q=>bv7 x y=true/\Q (.bl (!decide (x=y))) H
theorem bg9 {i j:Int}:decide (V.int i=V.int j)=(i==j):=by
 rw[dc7];simp
theorem bo2 {i j:Bool}:decide (V.bl i=V.bl j)=(i==j):=by
 rw[dc7];simp
theorem bh0 {i j:Str}:decide (V.str i=V.str j)=(i==j):=by
 rw[dc7];simp
theorem bh1 {i j:Array UInt8}:decide (V.byt i=V.byt j)=(i.toList==j.toList):=by
 rw[dc7];cases i;cases j;simp
section
variable {X:Cx} {a b c:Expr} {ta tb tc:TE} {pos:Pos}
theorem w5 {pins:List (Addr×Obj)}{σ:St}{H:Hp}{s:Shared}{Q:VK}{k k':Bool}(I:g9 X pins σ H s)(q:Q (.bl k) H)(e:k=k'):EP X pins σ Q (.bool k') s:=by
 subst e;exact ⟨.bl k,H,I,rfl,q⟩
theorem ai8:J6 X (compareOp .Eq) rEq:=by
 intro pins s σ H x y v u Q I rx ry h;obtain ⟨hs,q⟩:=h
 cases x with
 |non=>
  cases rx
  cases y with
  |non=>cases ry;exact PySem.EqNone.eq_none_none (w5 I q (by simp))
  |bl j=>cases ry;exact PySem.EqNone.eq_none_bool (w5 I q (by simp))
  |int j=>obtain ⟨t',rfl⟩:=ry;exact PySem.EqNone.eq_none_int (w5 I q (by simp))
  |str j=>obtain ⟨t',rfl⟩:=ry;exact PySem.EqNone.eq_none_str (w5 I q (by simp))
  |_=>exact absurd (show false=true from hs) cu8
 |bl i=>
  cases rx
  cases y with
  |non=>cases ry;exact PySem.EqNone.eq_bool_none (w5 I q (by simp))
  |bl j=>cases ry;exact eq_bool (w5 I q bo2)
  |str j=>obtain ⟨t',rfl⟩:=ry;exact PySem.EqMixed.eq_bool_str (w5 I q (by simp))
  |_=>exact absurd (show false=true from hs) cu8
 |int i=>
  obtain ⟨t,rfl⟩:=rx
  cases y with
  |non=>cases ry;exact PySem.EqNone.eq_int_none (w5 I q (by simp))
  |int j=>obtain ⟨t',rfl⟩:=ry;exact eq_int (w5 I q bg9)
  |str j=>obtain ⟨t',rfl⟩:=ry;exact PySem.EqMixed.eq_int_str (w5 I q (by simp))
  |_=>exact absurd (show false=true from hs) cu8
 |str i=>
  obtain ⟨t,rfl⟩:=rx
  cases y with
  |non=>cases ry;exact PySem.EqNone.eq_str_none (w5 I q (by simp))
  |bl j=>cases ry;exact PySem.EqMixed.eq_str_bool (w5 I q (by simp))
  |int j=>obtain ⟨t',rfl⟩:=ry;exact PySem.EqMixed.eq_str_int (w5 I q (by simp))
  |str j=>obtain ⟨t',rfl⟩:=ry;exact eq_str (w5 I q bh0)
  |_=>exact absurd (show false=true from hs) cu8
 |byt i=>
  obtain ⟨t,rfl⟩:=rx
  cases y with
  |byt j=>obtain ⟨t',rfl⟩:=ry;exact PySem.W.eq_bytes (w5 I q bh1)
  |_=>exact absurd (show false=true from hs) cu8
 |_=>cases y<;>exact absurd (show false=true from hs) cu8
theorem ax9:J6 X (compareOp .NotEq) rNe:=by
 intro pins s σ H x y v u Q I rx ry h;obtain ⟨hs,q⟩:=h
 cases x with
 |non=>
  cases rx
  cases y with
  |non=>cases ry;exact PySem.EqNone.ne_none_none (w5 I q (by simp))
  |bl j=>cases ry;exact PySem.EqNone.ne_none_bool (w5 I q (by simp))
  |int j=>obtain ⟨t',rfl⟩:=ry;exact PySem.EqNone.ne_none_int (w5 I q (by simp))
  |str j=>obtain ⟨t',rfl⟩:=ry;exact PySem.EqNone.ne_none_str (w5 I q (by simp))
  |_=>exact absurd (show false=true from hs) cu8
 |bl i=>
  cases rx
  cases y with
  |non=>cases ry;exact PySem.EqNone.ne_bool_none (w5 I q (by simp))
  |bl j=>cases ry;exact ne_bool (w5 I q (congrArg not bo2))
  |str j=>obtain ⟨t',rfl⟩:=ry;exact PySem.EqMixed.ne_bool_str (w5 I q (by simp))
  |_=>exact absurd (show false=true from hs) cu8
 |int i=>
  obtain ⟨t,rfl⟩:=rx
  cases y with
  |non=>cases ry;exact PySem.EqNone.ne_int_none (w5 I q (by simp))
  |int j=>obtain ⟨t',rfl⟩:=ry;exact ne_int (w5 I q (congrArg not bg9))
  |str j=>obtain ⟨t',rfl⟩:=ry;exact PySem.EqMixed.ne_int_str (w5 I q (by simp))
  |_=>exact absurd (show false=true from hs) cu8
 |str i=>
  obtain ⟨t,rfl⟩:=rx
  cases y with
  |non=>cases ry;exact PySem.EqNone.ne_str_none (w5 I q (by simp))
  |bl j=>cases ry;exact PySem.EqMixed.ne_str_bool (w5 I q (by simp))
  |int j=>obtain ⟨t',rfl⟩:=ry;exact PySem.EqMixed.ne_str_int (w5 I q (by simp))
  |str j=>obtain ⟨t',rfl⟩:=ry;exact ne_str (w5 I q (congrArg not bh0))
  |_=>exact absurd (show false=true from hs) cu8
 |byt i=>
  obtain ⟨t,rfl⟩:=rx
  cases y with
  |byt j=>obtain ⟨t',rfl⟩:=ry;exact PySem.W.ne_bytes (w5 I q (congrArg not bh1))
  |_=>exact absurd (show false=true from hs) cu8
 |_=>cases y<;>exact absurd (show false=true from hs) cu8
theorem ay0:J6 X (compareOp .Lt) (rI0 fun i j=> .bl (decide (i < j))):=bv5 fun _ _ _ _ _ _ _ q=>lt_int q
theorem ai9:J6 X (compareOp .Gt) (rI0 fun i j=> .bl (decide (j < i))):=bv5 fun _ _ _ _ _ _ _ q=>gt_int q
theorem bk1:J6 X (compareOp .GtE) (rI0 fun i j=> .bl (decide (j<=i))):=bv5 fun _ _ _ _ _ _ _ q=>ge_int q
theorem ch6:J6 X (compareOp .Is) (fun x y H Q=>y= .non/\Q (.bl (decide (x= .non))) H):=by
 intro pins s σ H x y v u Q I rx ry h;obtain ⟨rfl,q⟩:=h;cases ry;refine is_none_gen (w5 I q ?_)
 cases x<;>first
   |(cases rx;rfl)
   |(obtain ⟨t,rfl⟩:=rx;rfl)
theorem o7 (b:Expr){op:CmpOp}(h:op≠.In:=by decide)(h2:op≠.NotIn:=by decide):behindInMarks op b=false:=by
 have e1:(op==CmpOp.In)=false:=by cases op<;>first|rfl|exact absurd rfl h
 have e2:(op==CmpOp.NotIn)=false:=by cases op<;>first|rfl|exact absurd rfl h2
 cases b<;>simp [behindInMarks,e1,e2]
theorem aj0 {op:CmpOp}{r:R2}(ho:J6 X (compareOp op) r)(ha:PE X a ta)(hb:PE X b tb)(hm:behindInMarks op b=false):PE X (.Compare a [op] [b] pos) (tOp r ta tb):=by
 intro pins s σ H Q I h;exact wpAny_Compare1 (bv4 ha hb I h fun v u s2 x y H2 I2 rx ry q=>ho pins s2 σ H2 x y v u Q I2 rx ry q) hm
def cm0 (t:TE):TT:=fun σ H Q=>t σ H fun x H'=>∃k,x= .bl k/\Q k H'
theorem o3 {op:CmpOp}{r:R2}(ho:J6 X (compareOp op) r)(ha:PE X a ta)(hb:PE X b tb)(hm:behindInMarks op b=false):PT X (.Compare a [op] [b] pos) (cm0 (tOp r ta tb)):=by
 intro pins s σ H Q I h
 refine wpAny_isTrue_Compare1 (n9 (ha pins s σ H _ I h) fun v s1 ⟨x,H1,I1,r1,q1⟩=>n9 (hb pins s1 σ H1 _ I1 q1) fun u s2 ⟨y,H2,I2,r2,q2⟩=>
   n9 (ho pins s2 σ H2 x y v u _ I2 r1 r2 q2) fun c s3 ⟨z,H3,I3,r3,k,e,q3⟩=> ?_) hm
 subst e;cases r3;exact wpAny_truthy_bool ⟨H3,I3,q3⟩
theorem az3:(sizeLine:Nat) < 2^63:=by rw[sizeLine_eq];decide
theorem Y8 {x:V}{us:List Value}(r:j8 [x] us):∃u,us=[u]/\l9 x u:=by
 cases r with
 |cons r1 r2=>cases r2;exact ⟨_,rfl,r1⟩
theorem ao4 {x y:V}{us:List Value}(r:j8 [x,y] us):∃u w',us=[u,w']/\l9 x u/\l9 y w':=by
 cases r with
 |cons r1 r2=>
  cases r2 with
  |cons r3 r4=>cases r4;exact ⟨_,_,rfl,r1,r3⟩
theorem bo3 (hc:X.calm=true):N3 X (.builtin "max") (fun xs H Q=>∃i j,xs=[.int i,.int j]/\Q (.int (if j > i then j else i)) H):=by
 intro pins s σ H xs us Q I r h;obtain ⟨i,j,rfl,q⟩:=h;obtain ⟨u,w',rfl,⟨t,rfl⟩,⟨t',rfl⟩⟩:=ao4 r
 refine max_two_ints (I.ok.hd hc) fun h' tk k=>⟨_,H,I.kept k,?_,q⟩
 by_cases hj:j > i
 · rw[if_pos hj,if_pos hj];exact ⟨_,rfl⟩
 · rw[if_neg hj,if_neg hj];exact ⟨_,rfl⟩
theorem bo4 (hc:X.calm=true):N3 X (.builtin "min") (fun xs H Q=>∃i j,xs=[.int i,.int j]/\Q (.int (if j < i then j else i)) H):=by
 intro pins s σ H xs us Q I r h;obtain ⟨i,j,rfl,q⟩:=h;obtain ⟨u,w',rfl,⟨t,rfl⟩,⟨t',rfl⟩⟩:=ao4 r
 refine min_two_ints (I.ok.hd hc) fun h' tk k=>⟨_,H,I.kept k,?_,q⟩
 by_cases hj:j < i
 · rw[if_pos hj,if_pos hj];exact ⟨_,rfl⟩
 · rw[if_neg hj,if_neg hj];exact ⟨_,rfl⟩
end
end L2
namespace L2
open PySem PySem.Spec PyProof.Rows
structure bv8 (h:Heap)(x dx C:Addr)(mA:Str->Option Value):Prop where
 obj:h.get? x=some (PySem.W.instObj C dx)
 ns:h.Ns1 dx mA
 ne:dx≠x
theorem bo5 {h:Heap}{dx:Addr}{mA:Str->Option Value}(n:h.Ns1 dx mA):∃od,h.get? dx=some od/\∀name,PySem.W.lookIn name od=some (mA name):=by
 obtain ⟨o,es,ep,ho,hd,hk,_,hm⟩:=n;refine ⟨o,ho,fun name=> ?_⟩;have e:=hm name;unfold nsFind findBy at e;rw[<-Array.find?_toList] at e;unfold PySem.W.lookIn;rw[hd]
 dsimp only
 split
 · rename_i y q;rw[q] at e;exact congrArg some e
 · rename_i q;rw[q] at e
   have a:es.toList.any (·.refKey)=false:=by
     rw[List.any_eq_false];intro y hy;obtain ⟨z,t,hkey⟩:=hk y (Array.mem_toList_iff.mp hy);simp [DictEntry.refKey,hkey]
   have a':¬es.toList.any (·.refKey)=true:=by rw[a];exact cu8
   rw[if_neg a'];exact congrArg some e
theorem bv8.look {h:Heap}{x dx C:Addr}{mA:Str->Option Value}(I:bv8 h x dx C mA):∃od,PySem.W.InstAt h x (PySem.W.instObj C dx) C (some od)/\∀name,PySem.W.lookIn name od=some (mA name):=
 let ⟨od,ho,hl⟩:=bo5 I.ns
 ⟨od,⟨I.obj,rfl,rfl,ho⟩,hl⟩
theorem W5.some_of {v:V}{o:Option Value}(r:W5 (some v) o):∃u,o=some u/\l9 v u:=by
 cases o with
 |none=>exact (show False from r).elim
 |some u=>exact ⟨u,rfl,r⟩
section
variable {P:Program} {w:World} {H H':Hp} {h h':Heap} {a C dx:Addr} {fs fs':List (Str×V)}
theorem cb4 (hok:D2 P w H h)(e:H a=some (.ins C dx fs)):∃mA,bv8 h a dx C mA/\(∀f,W5 (fs.lookup f) (mA f))/\PySem.Within mA (fs.map (·.1))/\fs.length<=1000/\H dx=some (.own a):=by
 obtain ⟨d,z,ne,ob,mA,n,r,q⟩:=(show w4 P w H h a (.ins C dx fs) from hok a _ e);exact ⟨mA,⟨ob,n,ne⟩,r,q,z,d⟩
end
structure Cls (K:PySem.W.Frag)(C:Addr):Prop where
 pg:PySem.W.plainGet K C Str.empty=true
 hd:PySem.W.hasDictIn K C=true
 po:PySem.W.plainOver K C=true
 sa:PySem.W.findIn K (.ref C) "__setattr__"=some (some (.builtin "object.__setattr__"))
theorem Cls.get {K:PySem.W.Frag}{C:Addr}(c:Cls K C)(f:Str):PySem.W.plainGet K C f=true:=c.pg
section
variable {X:Cx} {pins:List (Addr×Obj)} {σ:St} {H:Hp} {s:Shared} {A:Around} {E:Value->Shared->Prop} {Q:Value->Shared->Prop} {c:Value} {b:Bool}
inductive K5 (K:PySem.W.Frag)(H:Hp):V->Value->Prop where
 |non:K5 K H .non (.type "NoneType")
 |bl (x:Bool):K5 K H (.bl x) (.type "bool")
 |int (i:Int):K5 K H (.int i) (.type "int")
 |str (x:Str):K5 K H (.str x) (.type "str")
 |flt (x:UInt64):K5 K H (.flt x) (.type "float")
 |lst {a:Addr} {xs:List V} (e:H a=some (.lst xs)):K5 K H (.ref a) (.type "list")
 |frz {a:Addr} {o:Obj} {xs:List V} (e:H a=some (.frz o (.lst xs))):K5 K H (.ref a) (.type "list")
 |tup {a:Addr} {xs:List V} (e:H a=some (.tup xs)):K5 K H (.ref a) (.type "tuple")
 |dK {a:Addr} {kvs:List (m9×V)} (e:H a=some (.dK kvs)):K5 K H (.ref a) (.type "dict")
 |dT {a:Addr} {kvs:List (List m9×V)} (e:H a=some (.dT kvs)):K5 K H (.ref a) (.type "dict")
 |ins {a C dx:Addr} {fs:List (Str×V)} (e:H a=some (.ins C dx fs)) (cl:Cls K C) (ha:PySem.W.findIn K (.ref C) "__class__"=some (some (.builtin "object.__class__")))
     (hn:PySem.W.specialIn K (.builtin "object.__class__") "__get__"=some (some (.builtin "getset_descriptor.__get__"))) (htk:PySem.W.takesIn K (.builtin "object.__class__")=some true)
     (hm:PySem.W.mroIn K C (.type "object")=some true):K5 K H (.ref a) (.ref C)
theorem bo6 {x:V}{u t:Value}(I:g9 X pins σ H s)(rx:l9 x u)(ty:K5 X.K H x t)(e:PySem.W.kitOne X.K t c=some b)(h:∀tk,Q (.bool b) {s with toks:=tk}):
   wpAny (model X.prog X.w) A (call (.builtin "isinstance") [u,c]) Q E s:=by
 cases ty with
 |non=>cases (show u=Value.none from rx);exact PySem.W.kia_one PySem.W.kitx_none I.kIn True.intro e (fun z=>nomatch z) h
 |bl y=>cases (show u=Value.bool y from rx);exact PySem.W.kia_one PySem.W.kitx_bool I.kIn True.intro e (fun z=>nomatch z) h
 |int i=>obtain ⟨t,q⟩:=(show ∃t,u=Value.int i t from rx);cases q;exact PySem.W.kia_one PySem.W.kitx_int I.kIn True.intro e (fun z=>nomatch z) h
 |str y=>obtain ⟨t,q⟩:=(show ∃t,u=Value.str y t from rx);cases q;exact PySem.W.kia_one PySem.W.kitx_str I.kIn True.intro e (fun z=>nomatch z) h
 |flt y=>obtain ⟨t,q⟩:=(show ∃t,u=Value.float y t from rx);cases q;exact PySem.W.kia_one PySem.W.kitx_float I.kIn True.intro e (fun z=>nomatch z) h
 |@lst a xs ea=>
  cases (show u=Value.ref a from rx);obtain ⟨_,_,n,_,h1⟩:=(show w4 X.prog X.w H s.heap a (.lst xs) from I.hok a _ ea);exact PySem.W.kia_one PySem.W.kitx_list I.kIn ⟨_,h1,rfl⟩ e (fun z=>nomatch z) h
 |@frz a ob xs ea=>
  cases (show u=Value.ref a from rx);obtain ⟨_,_,_,n,_,h1⟩:=(show w4 X.prog X.w H s.heap a (.frz ob (.lst xs)) from I.hok a _ ea);exact PySem.W.kia_one PySem.W.kitx_list I.kIn ⟨_,h1,rfl⟩ e (fun z=>nomatch z) h
 |@tup a xs ea=>
  cases (show u=Value.ref a from rx);obtain ⟨_,_,_,p⟩:=(show w4 X.prog X.w H s.heap a (.tup xs) from I.hok a _ ea);obtain ⟨o,h1,h2,_⟩:=p;exact PySem.W.kia_one PySem.W.kitx_tuple I.kIn ⟨o,h1,h2⟩ e (fun z=>nomatch z) h
 |@dK a kvs ea=>
  cases (show u=Value.ref a from rx);obtain ⟨_,_,vs,_,p⟩:=(show w4 X.prog X.w H s.heap a (.dK kvs) from I.hok a _ ea);obtain ⟨o,es,ep,h1,h2,_⟩:=p;exact PySem.W.kia_one PySem.W.kitx_dict I.kIn ⟨o,h1,h2.1⟩ e (fun z=>nomatch z) h
 |@dT a kvs ea=>
  cases (show u=Value.ref a from rx);obtain ⟨_,_,xs,_,o,es,ep,h1,h2,_⟩:=(show w4 X.prog X.w H s.heap a (.dT kvs) from I.hok a _ ea);exact PySem.W.kia_one PySem.W.kitx_dict I.kIn ⟨o,h1,h2.1⟩ e (fun z=>nomatch z) h
 |@ins a C dx fs ea cl ha hn htk hm=>
  cases (show u=Value.ref a from rx);obtain ⟨mA,O,_⟩:=cb4 I.hok ea;obtain ⟨od,J,_⟩:=O.look;exact PySem.W.kia_one (PySem.W.kitx_own (cl.get _) cl.hd ha hn htk hm) I.kIn J e (fun z=>nomatch z) h
end
end L2
namespace L2
open PySem PySem.Spec PyProof.Rows
structure m8 (k:Nat)(A:Around):Prop where
 hd:A.handled=none
 dp:A.depth+3*k+5 < recursionLimit
 un:A.units+16*k+200 < cLine
 gd:A.guards=some []
theorem m8.mono {j k:Nat}{A:Around}(r:m8 k A)(h:j<=k):m8 j A:=⟨r.hd,by have:=r.dp;omega,by have:=r.un;omega,r.gd⟩
theorem m8.deeper {k:Nat}{A:Around}(r:m8 (k+1) A)(env:Env):m8 k (A.deeper env):=
 ⟨r.hd,by have:=r.dp;show A.depth+1+3*k+5 < _;omega,by have:=r.un;show A.units+3+16*k+200 < _;omega,r.gd⟩
theorem m8.depth {k:Nat}{A:Around}(r:m8 k A):A.depth < recursionLimit:=by have:=r.dp;omega
theorem m8.units {k:Nat}{A:Around}(r:m8 k A):A.units+64 < cLine:=by have:=r.un;omega
def ch8:TA:=fun _ H Q=>Q [] H
def ca1 (ta:TE)(tr:TA):TA:=fun σ H Q=>ta σ H fun x H1=>tr σ H1 fun xs H2=>Q (x::xs) H2
section
variable {X:Cx} {e:Expr} {es:List Expr} {te:TE} {t:TA} {pos:Pos}
theorem c6:PA X [] ch8:=fun _ _ _ _ H Q I h=>Calls.spliced_nil ⟨[],H,I,.nil,h⟩
theorem c5 (ha:PE X e te)(hr:PA X es t)(hs:starEach (e::es) X.env=(false,eval e X.env)::starEach es X.env:=by rfl):PA X (e::es) (ca1 te t):=by
 intro pos pins s σ H Q I h;rw[hs];show wpAny _ _ (spliced ((false,eval e X.env)::backTo pos (starEach es X.env))) _ _ s;refine Calls.spliced_cons (n9 (ha pins s σ H _ I h) fun u s1 ⟨x,H1,I1,r1,q1⟩=> ?_)
 exact n9 (hr pos pins s1 σ H1 _ I1 q1) fun us s2 ⟨xs,H2,I2,r2,q2⟩=>⟨x::xs,H2,I2,.cons r1 r2,q2⟩
def cq0 (t:TA):TE:=fun σ H Q=>t σ H fun xs H1=>xs.length<=sizeLine/\∀p,H1 p=none->Q (.ref p) (c8 H1 p (.tup xs))
def cq1 (t:TA):TE:=fun σ H Q=>t σ H fun xs H1=>xs.length<=sizeLine/\∀p,H1 p=none->Q (.ref p) (c8 H1 p (.lst xs))
theorem ch9 {x1}(h:PA X es t):PE X (.Tuple es x1 pos) (cq0 t):=by
 intro pins s σ H Q I hq;refine wpAny_Tuple_spliced (n9 (h pos pins s σ H _ I hq) fun us s1 ⟨xs,H1,I1,r,z,q⟩=>⟨by rw[<-r.length];exact z,?_⟩);have hf:H1 s1.heap.objs.size=none:=I1.hok.fresh (ct4 _);refine ⟨.ref s1.heap.objs.size,c8 H1 s1.heap.objs.size (.tup xs),I1.laid (t':=s1.toks) (fun b u e=>Heap.get?_push_of_some _ e) (ct4 _) ?_,rfl,q _ hf⟩;exact ⟨z,us,r,⟨_,Heap.get?_push_size _ rfl,rfl,_,rfl⟩⟩
theorem x3 (h:PA X es t):PE X (.List es pos) (cq1 t):=by
 intro pins s σ H Q I hq;refine wpAny_List_spliced (n9 (h pos pins s σ H _ I hq) fun us s1 ⟨xs,H1,I1,r,z,q⟩=>⟨by rw[<-r.length];exact z,?_⟩);have hf:H1 s1.heap.objs.size=none:=I1.hok.fresh (ct4 _);refine ⟨.ref s1.heap.objs.size,c8 H1 s1.heap.objs.size (.lst xs),I1.laid (t':=s1.toks) (fun b u e=>Heap.get?_push_of_some _ e) (ct4 _) ?_,rfl,q _ hf⟩;exact ⟨z,us,0,r,Heap.get?_push_size _ rfl⟩
end
abbrev Sp:=List V->Hp->VK->XK->Prop
abbrev W8:=List Env->Hp->Shared->XK->Value->Shared->Prop
structure bk2 (P:Program)(w:World)(K:PySem.W.Frag)(mg:Str->Option Value)(base:Heap)(A:Around)(outer:List Env)(s:Shared)(H:Hp):Prop where
 frames:A.frames=some outer
 mod:Mod K mg base
 bs:∀b o,base.get? b=some o->s.heap.get? b=some o/\H b=none
 bsz:base.objs.size<=s.heap.objs.size
 funs:s.heap.FunFrames base outer
 frf:∀b∈B8 outer,H b=none
 hok:D2 P w H s.heap
 bare:AllBare s.gens
def CE (outer:List Env)(P:Program)(w:World)(H:Hp)(s:Shared)(Q:VK)(u:Value)(s':Shared):Prop:=
 ∃v H',s'.os=s.os/\AllBare s'.gens/\Un (B8 outer) [] H H' s.heap s'.heap/\D2 P w H' s'.heap/\l9 v u/\Q v H'
def CR (CX:W8)(outer:List Env)(P:Program)(w:World)(H:Hp)(s:Shared)(Q:VK)(E:XK)(r:Result)(s':Shared):Prop:=
 match r with
 | .ok (.ret u)=>CE outer P w H s Q u s'
 | .ok _=>False
 | .error e=>CX outer H s E e s'
structure m7 (P:Program)(w:World)(K:PySem.W.Frag)(mg:Str->Option Value)(base:Heap)(CX:W8)(k:Nat)(f:Addr)(fd:FuncData)(ps:List Str)(sp:Sp):Prop where
 len:∀vs H Q E,sp vs H Q E->vs.length=ps.length
 run:∀(A:Around) (outer:List Env) (s:Shared) (H:Hp) (args:Args) (us:List Value) (vs:List V) (Q:VK) (E:XK),m8 k A->bk2 P w K mg base A outer s H->BindsTo s fd args (ps.zip us)->j8 vs us->sp vs H Q E->
   codeAny (model P w) A (.call (.ref f) args) (CR CX outer P w H s Q E) s
theorem m7.imp {P:Program}{w:World}{K:PySem.W.Frag}{mg:Str->Option Value}{base:Heap}{CX:W8}{k:Nat}{f:Addr}{fd:FuncData}{ps:List Str}{sp sp':Sp}(F:m7 P w K mg base CX k f fd ps sp)
   (h:∀vs H Q E,sp' vs H Q E->sp vs H Q E):m7 P w K mg base CX k f fd ps sp':=
 ⟨fun vs H Q E q=>F.len vs H Q E (h _ _ _ _ q),fun A outer s H args us vs Q E hr he hb hv hs=>F.run A outer s H args us vs Q E hr he hb hv (h _ _ _ _ hs)⟩
section
variable {X:Cx} {pins:List (Addr×Obj)} {σ:St} {H:Hp} {s s':Shared}
theorem g9.env0 (I:g9 X pins σ H s):bk2 X.prog X.w X.K X.mg X.base X.A X.stack s H:=
 ⟨I.ok.frames,I.ok.mod,I.bs,cw7 I.ok.bsz I.sz,I.stack,I.stkFree,I.hok,I.bare⟩
theorem g9.after {Q:VK}{u:Value}(I:g9 X pins σ H s)(h:CE X.stack X.prog X.w H s Q u s'):EP X pins σ Q u s':=by
 obtain ⟨v,H',os,bare,un,hok,r,q⟩:=h;obtain ⟨hh,g,d,t,os'⟩:=s';obtain rfl:os'=s.os:=os;exact ⟨v,H',I.call (h':=hh) (g':=g) (d':=d) (t':=t) (ch:=[]) un hok bare (fun b z=>absurd z (by simp)),r,q⟩
end
def ao5 (sp:Sp)(dvs:List V)(E:XK)(t:TA):TE:=fun σ H Q=>t σ H fun vs H1=>sp (vs++dvs) H1 Q E
def V0 (K:PySem.W.Frag)(fd:FuncData)(ps:List Str)(ds:List Value):Prop:=
 ∀(s:Shared) (us:List Value),K.In s.heap->(us++ds).length=ps.length->BindsTo s fd ⟨us,[]⟩ (ps.zip (us++ds))
theorem V0.all {K:PySem.W.Frag}{fd:FuncData}{ps:List Str}(h:∀us:List Value,us.length=ps.length->bindArgs fd ⟨us,[]⟩=pure (ps.zip us)):V0 K fd ps []:=fun s us _ hl=>by
 rw[cw0] at hl ⊢;exact .of_eq (h us hl)
def af1 (CX:W8)(X:Cx)(E:XK):Prop:=∀(pins:List (Addr×Obj)) (σ:St) (H:Hp) (s:Shared) (e:Value) (s':Shared),g9 X pins σ H s->CX X.stack H s E e s'->X.xe e s'
section
variable {X:Cx} {CX:W8} {k:Nat} {f C:Addr} {fd:FuncData} {ps:List Str} {sp:Sp} {dvs:List V} {ds:List Value} {E:XK} {x m:Str} {p pos apos:Pos} {e o:Expr} {es:List Expr} {ta:TE} {t:TA}
theorem ci0 {pins:List (Addr×Obj)}{σ:St}{H:Hp}{s:Shared}{Q:VK}{us:List Value}{vs:List V}(F:m7 X.prog X.w X.K X.mg X.base CX k f fd ps sp)(hr:m8 k X.A)(hb:V0 X.K fd ps ds)(hd:j8 dvs ds)(hx:af1 CX X E)
   (I:g9 X pins σ H s) (r:j8 vs us) (h:sp (vs++dvs) H Q E):wpAny (model X.prog X.w) X.A (call (.ref f) us) (EP X pins σ Q) X.xe s:=by
 have r2:j8 (vs++dvs) (us++ds):=r.append hd
 have hl:(us++ds).length=ps.length:=by rw[<-r2.length];exact F.len _ _ _ _ h
 refine wpAny_call (codeAny_mono (F.run X.A X.stack s H ⟨us,[]⟩ (us++ds) (vs++dvs) Q E hr I.env0 (hb s us I.kIn hl) r2 h) fun r s' hq=> ?_)
 cases r with
 |error e=>exact hx pins σ H s e s' I hq
 |ok fl=>
  cases fl with
  |ret u=>exact I.after hq
  |next=>exact False.elim hq
  |brk=>exact False.elim hq
  |cont=>exact False.elim hq
theorem bh2 (F:m7 X.prog X.w X.K X.mg X.base CX k f fd ps sp)(hr:m8 k X.A)(hg:Gl X x)(hm:X.mg x=some (.ref f))(hk:PySem.W.keepIn X.K (.ref f)=true)(hb:V0 X.K fd ps ds)(hd:j8 dvs ds)(hx:af1 CX X E)
   (ha:PA X (e::es) t) (hdb:(x==("__debug__":Str))=false:=by decide) (he:starEach (e::es) X.env=(false,eval e X.env)::starEach es X.env:=by rfl) (hpl:(backTo pos (starEach es X.env)).any (·.1)=false:=by rfl):
   PE X (.Call (.Name x p) (e::es) [] pos) (ao5 sp dvs E t):=by
 intro pins s σ H Q I h;refine wpAny_Call_Name_kw (aa7 I hg hm ?_ hdb);refine PySem.W.callWith_K (h₀:=X.base) I.ok.mod.kin hk (n9 (ha pos pins s σ H _ I h) fun us s1 ⟨vs,H1,I1,r,q⟩=>⟨I1.kIn,?_⟩) he hpl;exact ci0 F hr hb hd hx I1 r q
end
structure o5 (N P:List Str)(sc:Scope):Prop where
 kind:sc.kind= .function
 co:sc.isCoroutine=false
 gen:sc.isGenerator=false
 nd:N.Nodup
 pre:N.take P.length=P
 par:∀x∈P,sc.names.lookup x=some .local\/sc.names.lookup x=some .cell
 nofree:∀y∈sc.names,y.2≠.free
theorem av0 {kindOf:Str->Option NameKind}{x:Str}:∀{binds:List (Str×Value)} {m:Str->Option Value},(∀v,(x,v)∉binds)->bindL kindOf binds m x=m x
 |[],_,_=>rfl
 |(n,v)::r,m,h=>by
  unfold bindL;rw[av0 fun w hw=>h w (ct5 _ hw)]
  split
  · have:x≠n:=by rintro rfl;exact h v ct7
    simp [this]
  · rfl
theorem av1 {kindOf:Str->Option NameKind}{x:Str}:∀{binds:List (Str×Value)} {m:Str->Option Value},(∀v,(x,v)∉binds)->bindC kindOf binds m x=m x
 |[],_,_=>rfl
 |(n,v)::r,m,h=>by
  unfold bindC;rw[av1 fun w hw=>h w (ct5 _ hw)]
  split
  · rfl
  · have:x≠n:=by rintro rfl;exact h v ct7
    simp [this]
theorem av2 {kindOf:Str->Option NameKind}{x:Str}{v:Value}:∀{P:List Str} {vs:List Value} {i:Nat} {m:Str->Option Value},P.Nodup->P[i]? =some x->vs[i]? =some v->kindOf x=some .local->
   bindL kindOf (P.zip vs) m x=some v
 |[],_,_,_,_,h,_,_=>by simp at h
 |_::_,[],_,_,_,_,h,_=>by simp at h
 |p::P,w::vs,0,m,nd,h1,h2,hk=>by
  simp at h1 h2;subst h1;subst h2;show bindL kindOf ((p,w)::P.zip vs) m p=_;unfold bindL;rw[av0 fun v hv=>(cx0.mp nd).1 (di2 hv).1,if_pos hk];simp
 |p::P,w::vs,i+1,m,nd,h1,h2,hk=>by
  show bindL kindOf ((p,w)::P.zip vs) m x=_;unfold bindL;exact av2 (i:=i) (cx0.mp nd).2 (by simpa using h1) (by simpa using h2) hk
theorem av3 {kindOf:Str->Option NameKind}{x:Str}{v:Value}:∀{P:List Str} {vs:List Value} {i:Nat} {m:Str->Option Value},P.Nodup->P[i]? =some x->vs[i]? =some v->kindOf x≠some .local->
   bindC kindOf (P.zip vs) m x=some v
 |[],_,_,_,_,h,_,_=>by simp at h
 |_::_,[],_,_,_,_,h,_=>by simp at h
 |p::P,w::vs,0,m,nd,h1,h2,hk=>by
  simp at h1 h2;subst h1;subst h2;show bindC kindOf ((p,w)::P.zip vs) m p=_;unfold bindC;rw[av1 fun v hv=>(cx0.mp nd).1 (di2 hv).1,if_neg hk];simp
 |p::P,w::vs,i+1,m,nd,h1,h2,hk=>by
  show bindC kindOf ((p,w)::P.zip vs) m x=_;unfold bindC;exact av3 (i:=i) (cx0.mp nd).2 (by simpa using h1) (by simpa using h2) hk
def V1 (N:List Str)(vs:List V):St:=vs.map some++List.replicate (N.length - vs.length) none
def aa0 (CX:W8)(P:Program)(w:World)(K:PySem.W.Frag)(mg:Str->Option Value)(base:Heap)(N:List Str)(qual:Str)(scope:Scope)(f:Addr)(cd:Value)(A:Around)(outer:List Env)(s:Shared)(H:Hp)(E:XK):Cx where
 prog:=P
 w:=w
 K:=K
 mg:=mg
 base:=base
 A:=A.deeper (envOfC qual scope s.heap.objs.size f cd)
 N:=N
 s₀:=s
 H₀:=H
 env:=envOfC qual scope s.heap.objs.size f cd
 outer:=outer
 stack:=envOfC qual scope s.heap.objs.size f cd::outer
 ex:=[]
 calm:=true
 fn:=fun _=>true
 pn:=[]
 xe:=fun e s'=>wpAny (model P w) (A.deeper (envOfC qual scope s.heap.objs.size f cd)) (leaving (envOfC qual scope s.heap.objs.size f cd) e) (fun _ s''=>CX outer H s E e s'') (fun e' s''=>CX outer H s E e' s'') s'
theorem az4 {sc:Scope}{n:Nat}{x:Str}(h:sc.names.lookup x=some .cell):∃c,(cellsFrom n sc.names []).lookup x=some c:=by
 have q:=PySem.W.cellsFrom_some sc.names n [] (.inl h);exact dh6.mp q
theorem bo7 {CX:W8}{P:Program}{w:World}{K:PySem.W.Frag}{mg:Str->Option Value}{base:Heap}{N ps:List Str}{qual:Str}{scope:Scope}{f:Addr}{cd:Value}{A:Around}{outer:List Env}{s s1:Shared}{H:Hp}{E:XK}{us:List Value}{vs:List V}
   (S:o5 N ps scope) (hd:A.handled=none) (e0:bk2 P w K mg base A outer s H) (hl:vs.length=ps.length) (r:j8 vs us)
   (x:InCallC s s.heap.objs.size (bindL (envOfC qual scope s.heap.objs.size f cd).kindOf (ps.zip us) fun _=>none) (cellsFrom (s.heap.objs.size+1) scope.names []) (bindC (envOfC qual scope s.heap.objs.size f cd).kindOf (ps.zip us) fun _=>none) s1):
   g9 (aa0 CX P w K mg base N qual scope f cd A outer s H E) [] (V1 N vs) H s1:=by
 have hpl:ps.length<=N.length:=by have:=congrArg dh0 S.pre;rw[cu2] at this;omega
 obtain ⟨h1,tk,rfl,hk⟩:=x.done
 have noA:∀b:Addr,b∉(aa0 CX P w K mg base N qual scope f cd A outer s H E).ex:=fun b z=>absurd (show b∈([]:List Addr) from z) (by simp)
 refine ⟨⟨e0.mod,S.kind,rfl,rfl,ct4 _,fun y z c h1 h2=> ?_,fun y hy=> ?_,fun y c _ h=> ?_,fun _=>hd,Around.frames_deeper e0.frames,.inr ⟨rfl,rfl⟩,fun b z=>absurd z (noA b),e0.bs,e0.bsz,fun b _ _=>noA b,fun b z=>absurd z (noA b),e0.funs,e0.frf⟩,
   rfl,e0.bare,Un.kept hk,⟨_,x.toInCall.ns,fun i y v h1 h2 h3=> ?_⟩,fun y c h=>⟨_,x.cell y c h⟩,e0.hok.fresh (ct4 _),fun y c h=> ?_,fun p hp=>absurd (show p∈([]:List (Addr×Obj)) from hp) (by simp),e0.hok.kept hk,?_⟩
 · exact name_of_addr x.apart (PySem.mem_of_lookup h1) (PySem.mem_of_lookup h2)
 · have hy:scope.names.lookup y=some .cell\/scope.names.lookup y=some .free:=hy
   rcases hy with hy|hy
   · exact az4 hy
   · exact absurd rfl (S.nofree _ (PySem.mem_of_lookup hy))
 · exact cz3 (x.above y c (PySem.mem_of_lookup h))
 · have hi:i < vs.length:=by
     unfold V1 at h2
     by_cases hi:i < vs.length
     · exact hi
     · rw[cx2 (by simpa using hi)] at h2;rw[dh8] at h2
       split at h2<;>cases h2
   have ha:vs[i]? =some v:=by
     unfold V1 at h2;rw[cx3 (by simpa using hi),ct8] at h2
     cases e:vs[i]? with
     |none=>rw[e] at h2;cases h2
     |some a=>rw[e] at h2;cases h2;rfl
   obtain ⟨u,hu,rv⟩:=r.get ha
   have hp:ps[i]? =some y:=by
     rw[<-S.pre,cx5 (by omega)];exact h1
   have ndP:ps.Nodup:=by rw[<-S.pre];exact S.nd.sublist (List.take_sublist _ _)
   refine ⟨u,rv,?_⟩
   rcases S.par y (cu0 hp) with k|k
   · exact .inl ⟨k,av2 ndP hp hu k⟩
   · obtain ⟨c,e⟩:=az4 (n:=s.heap.objs.size+1) k;refine .inr ⟨.inl k,c,e,?_⟩;have q:=x.cell y c e;rw[av3 ndP hp hu (by show scope.names.lookup y≠_;rw[k];decide)] at q;exact q
 · exact e0.hok.fresh (cz3 (x.above y c (PySem.mem_of_lookup h)))
 · unfold V1;show _=N.length;rw[ct6,ct1,df2];omega
theorem ca2 {CX:W8}{P:Program}{w:World}{K:PySem.W.Frag}{mg:Str->Option Value}{base:Heap}{k:Nat}{f:Addr}{name qual:Str}{params:Arguments}{body:List Stmt}{scope:Scope}{dV kV doc pm cdv ct oc:Value}{an od:Option Addr}
   {osl:Array (Option Value)} {N ps:List Str} {sp:Sp} (lk:K.lookup f=some ⟨oc,od,.func (PySem.W.fnOf name qual params body scope dV kV doc pm an cdv ct),osl⟩) (hcd:PySem.W.codeIn K cdv qual=true) (S:o5 N ps scope)
   (len:∀vs H Q E,sp vs H Q E->vs.length=ps.length)
   (hbody:∀(A:Around) (outer:List Env) (s:Shared) (H:Hp) (vs:List V) (Q:VK) (E:XK),m8 k (A.deeper (envOfC qual scope s.heap.objs.size f cdv))->sp vs H Q E->
     ∃t,U8 (aa0 CX P w K mg base N qual scope f cdv A outer s H E) body t/\t {nx:=fun _ H'=>Q .non H',rt:=Q} (V1 N vs) H):
   m7 P w K mg base CX (k+1) f (PySem.W.fnOf name qual params body scope dV kV doc pm an cdv ct) ps sp:=by
 refine ⟨len,fun A outer s H args us vs Q E hr e0 hb r hsp=> ?_⟩;have hl:=len _ _ _ _ hsp
 have KX:K.In s.heap:=e0.mod.kin.keeps fun b o e=>(e0.bs b o e).1
 have lim:s.heap.NoLimit:=e0.mod.nolimit.keeps fun b o e=>(e0.bs b o e).1
 have hkind:∀y∈ps.zip us,scope.names.lookup y.1=some .local\/(scope.names.lookup y.1=some .cell/\((cellsFrom (s.heap.objs.size+1) scope.names []).lookup y.1).isSome=true):=fun ⟨n,v⟩ hy=>by
   rcases S.par n (di2 hy).1 with q|q
   · exact .inl q
   · exact .inr ⟨q,PySem.W.cellsFrom_some _ _ _ (.inl q)⟩
 refine codeAny_call_function hr.depth (KX _ _ lk) rfl S.co S.gen rfl (PySem.W.codeRec_of KX hcd) (hb _ _ _ _ ?_)
 refine wpAny_newFunctionEnv_cells S.kind hkind fun env he s1 x=> ?_
 subst he;refine ⟨lim.keeps x.toInCall.keep,codeAny_func ?_⟩;obtain ⟨t,ht,hq⟩:=hbody A outer s H vs Q E (hr.deeper _) hsp;have I:g9 (aa0 CX P w K mg base N qual scope f cdv A outer s H E) [] (V1 N vs) H s1:=bo7 S hr.hd e0 hl r x
 refine wpAny_mono (ht [] s1 (V1 N vs) H _ I hq) (fun fl s' hs=> ?_) fun e s' hs=>hs
 have fin:∀{σ':St} {H':Hp} {v:V} {u:Value},g9 (aa0 CX P w K mg base N qual scope f cdv A outer s H E) [] σ' H' s'->l9 v u->Q v H'->CE outer P w H s Q u s':=
   fun {σ' H' v u} J rv q=>⟨v,H',J.os,J.bare,J.base,J.hok,rv,q⟩
 cases fl with
 |ret u=>
  obtain ⟨v,σ',H',J,rv,q⟩:=hs;exact fin J rv q
 |next=>
  obtain ⟨σ',H',J,q⟩:=hs;exact fin (v:=V.non) (u:=Value.none) J rfl q
 |brk=>
  obtain ⟨_,_,_,q⟩:=hs;exact False.elim q
 |cont=>
  obtain ⟨_,_,_,q⟩:=hs;exact False.elim q
end L2
namespace L2
open PySem PySem.Spec PyProof.Rows
section
variable {X:Cx} {x:Str} {p pos:Pos} {e:Expr} {es:List Expr} {t:TA} {id T:String} {r:List V->Hp->VK->Prop}
def W9 (r:List V->Hp->VK->Prop)(t:TA):TE:=fun σ H Q=>t σ H fun vs H1=>r vs H1 Q
theorem O7 (hc:N3 X (.builtin id) r)(hg:Gl X x)(hm:X.mg x=none)(hv:bootBuiltins x=some (.builtin id))(ha:PA X (e::es) t)(hn:x≠"__name__":=by decide)(hdb:(x==("__debug__":Str))=false:=by decide)
   (he:starEach (e::es) X.env=(false,eval e X.env)::starEach es X.env:=by rfl) (hpl:(backTo pos (starEach es X.env)).any (·.1)=false:=by rfl):PE X (.Call (.Name x p) (e::es) [] pos) (W9 r t):=by
 intro pins s σ H Q I h;refine wpAny_Call_Name_kw (W6 I hg hm hv ?_ hn hdb);exact PyProof.Rows.callWith_builtin1 (n9 (ha pos pins s σ H _ I h) fun us s1 ⟨vs,H1,I1,r1,q1⟩=>hc pins s1 σ H1 vs us Q I1 r1 q1) he hpl
theorem Y9 (hc:N3 X (.type T) r)(hg:Gl X x)(hm:X.mg x=none)(hv:bootBuiltins x=some (.type T))(ha:PA X (e::es) t)(hn:x≠"__name__":=by decide)(hdb:(x==("__debug__":Str))=false:=by decide)
   (he:starEach (e::es) X.env=(false,eval e X.env)::starEach es X.env:=by rfl) (hpl:(backTo pos (starEach es X.env)).any (·.1)=false:=by rfl):PE X (.Call (.Name x p) (e::es) [] pos) (W9 r t):=by
 intro pins s σ H Q I h;refine wpAny_Call_Name_kw (W6 I hg hm hv ?_ hn hdb);exact PyProof.Rows.callWith_type1 (n9 (ha pos pins s σ H _ I h) fun us s1 ⟨vs,H1,I1,r1,q1⟩=>hc pins s1 σ H1 vs us Q I1 r1 q1) he hpl
end
end L2
namespace HT
open PySem PyProof.Rows
def aj1:List Int->List Int->Bool
 |[],[]=>false
 |[],_::_=>true
 |_::_,[]=>false
 |x::xs,y::ys=>if x=y then aj1 xs ys else decide (x < y)
theorem bk3 (x y:Int)(xs ys:List Int):aj1 (x::xs) (y::ys)=if x=y then aj1 xs ys else decide (x < y):=rfl
theorem cb5 (y:Int)(ys:List Int):aj1 [] (y::ys)=true:=rfl
theorem bv9 (A:Around)(s:Shared)(a:Int)(t:Tok)(c:Int)(u:Tok):∃e,SeqAt.EqAt A s (.int a t) (.int c u) e/\(e=true↔a=c):=
 ⟨(a==c),SeqAt.EqAt.int_int a t c u,by simp⟩
theorem bw0 (A:Around)(s:Shared)(a:Int)(t:Tok)(c:Int)(u:Tok)(prog:Program)(w:World)(E:Value->Shared->Prop)(Q:Value->Shared->Prop)(h:Q (.bool (decide (a < c))) s):
   wpAny (model prog w) A (richCompare .Lt (.int a t) (.int c u)) Q E s:=
 (PyProof.Rows.lt_int h:wpAny (model prog w) A (compareOp .Lt (.int a t) (.int c u)) Q E s)
section
variable {prog:Program} {w:World} {A:Around} {E:Value->Shared->Prop} {s:Shared}
def sIx (n d:Nat):Option Int->Nat
 |none=>d
 |some v=>if v < 0 then (v+(n:Int)).toNat else min v.toNat n
theorem cq2 (n d:Nat):sIx n d none=d:=rfl
theorem cr6 (n d k:Nat):sIx n d (some (k:Int))=min k n:=by
 show (if (k:Int) < 0 then ((k:Int)+(n:Int)).toNat else min (k:Int).toNat n)=min k n;rw[if_neg (by omega),da7]
end
end HT
namespace L2
open PySem PySem.Spec PyProof.Rows
abbrev TO:=St->Hp->(Option Int->Hp->Prop)->Prop
def PO (X:Cx)(e:Option Expr)(t:TO):Prop:=
 ∀(pins:List (Addr×Obj)) (s:Shared) (σ:St) (H:Hp) (Q:Option Int->Hp->Prop),g9 X pins σ H s->t σ H Q->
  wpAny (model X.prog X.w) X.A (evalPart e X.env) (fun u s'=>∃o H',g9 X pins σ H' s'/\IsPart u o/\Q o H') X.xe s
def cb6:TO:=fun _ H Q=>Q none H
def cm1 (t:TE):TO:=fun σ H Q=>t σ H fun x H1=>∃i,x= .int i/\Q (some i) H1
theorem V2 {ns:List Int}:∀{us:List Value},j8 (ns.map V.int) us->IntsAre us ns:=by
 induction ns with
 |nil=>intro us r;rw[dc2] at r;cases r;exact .nil
 |cons n ns ih=>
  intro us r;rw[cy4] at r
  cases r with
  |cons r1 r2=>
   obtain ⟨t,e⟩:=r1;subst e;exact .cons n t (ih r2)
section
variable {X:Cx} {e:Expr} {te:TE} {lo hi:Option Expr} {tl th:TO} {pos p2:Pos}
theorem R8:PO X none cb6:=by
 intro pins s σ H Q I h;rw[evalPart_none];exact wpAny_pure ⟨none,H,I,.none,h⟩
theorem N4 (h:PE X e te):PO X (some e) (cm1 te):=by
 intro pins s σ H Q I hw;rw[evalPart_some]
 refine n9 (h pins s σ H _ I hw) fun u s1 ⟨x,H1,I1,r1,q1⟩=> ?_
 obtain ⟨i,rfl,q⟩:=q1;obtain ⟨t,rfl⟩:=r1;exact ⟨some i,H1,I1,.int i t,q⟩
def SlR (X:Cx)(r:V->Option Int->Option Int->Hp->VK->Prop):Prop:=
 ∀(pins:List (Addr×Obj)) (s:Shared) (σ:St) (H:Hp) (x:V) (v vl vu:Value) (lo hi:Option Int) (sl:Addr) (Q:VK),g9 X pins σ H s->l9 x v->s.heap.IsSliceOf sl vl vu .none->IsPart vl lo->IsPart vu hi->r x lo hi H Q->
  ∃T id,typeLookup (.type T) "__getitem__"=pure (some (.builtin id))/\s.TypeIs v T/\wpAny (model X.prog X.w) X.A (getItem v (.ref sl)) (EP X pins σ Q) X.xe s
def tSl (r:V->Option Int->Option Int->Hp->VK->Prop)(te:TE)(tl th:TO):TE:=fun σ H Q=>te σ H fun x H1=>tl σ H1 fun l H2=>th σ H2 fun u H3=>r x l u H3 Q
theorem M3 {r:V->Option Int->Option Int->Hp->VK->Prop}(hr:SlR X r)(he:PE X e te)(hl:PO X lo tl)(hu:PO X hi th):PE X (.Subscript e (.Slice lo hi none p2) pos) (tSl r te tl th):=by
 intro pins s σ H Q I h;refine Subscript_ (n9 (he pins s σ H _ I h) fun v s1 ⟨x,H1,I1,r1,q1⟩=> ?_);refine wpAny_Slice (n9 (hl pins s1 σ H1 _ I1 q1) fun vl s2 ⟨l,H2,I2,pl,q2⟩=>n9 (hu pins s2 σ H2 _ I2 q2) fun vu s3 ⟨u,H3,I3,pu,q3⟩=> ?_);rw[evalPart_none];refine wpAny_pure ?_
 have I4:g9 X pins σ H3 {s3 with heap:=s3.heap.push {cls:= .type "slice",data:= .fields #[vl,vu,.none]}}:=I3.kept (t':=s3.toks) fun b ob q=>Heap.get?_push_of_some _ q
 obtain ⟨T,id,hT,ht,hg⟩:=hr pins {s3 with heap:=s3.heap.push {cls:= .type "slice",data:= .fields #[vl,vu,.none]}} σ H3 x v vl vu l u s3.heap.objs.size Q I4 r1 (Heap.IsSliceOf.new ..) pl pu q3;show wpAny (model X.prog X.w) X.A (subscriptTail e (.Slice lo hi none p2) v (.ref s3.heap.objs.size)) (EP X pins σ Q) X.xe {s3 with heap:=s3.heap.push {cls:= .type "slice",data:= .fields #[vl,vu,.none]}};exact tail_any (ops:=[.ref s3.heap.objs.size,v]) ht hT hg (by with_unfolding_all rfl)
def M4 (xs:List V)(lo hi:Option Int):List V:=(xs.drop (HT.sIx xs.length 0 lo)).take (HT.sIx xs.length xs.length hi - HT.sIx xs.length 0 lo)
theorem bf5 (xs:List V)(lo hi:Option Int):(M4 xs lo hi).length<=xs.length:=by
 unfold M4;rw[cu2,cw1];omega
end
end L2
namespace L2
open PySem PySem.Spec PyProof.Rows
def Z0 (n:Nat)(i:Int):Option Nat:=if 0<=i then (if i < n then some i.toNat else none) else if -(n:Int)<=i then some (i+n).toNat else none
def atI {α:Type}(xs:List α)(i:Int):Option α:=(Z0 xs.length i).bind fun j=>xs[j]?
theorem aj2 {n:Nat}{i:Int}{j:Nat}(h:Z0 n i=some j):seqIndex? i n=some j/\j < n/\ -(n:Int)<=i/\i < n:=by
 unfold Z0 at h
 by_cases h0:0<=i
 · rw[if_pos h0] at h
   by_cases h1:i < n
   · rw[if_pos h1] at h;have e:i.toNat=j:=Option.some.inj h;exact ⟨by rw[seqIndex_of h0 h1,e],by omega,by omega,h1⟩
   · rw[if_neg h1] at h;cases h
 · rw[if_neg h0] at h
   by_cases h1: -(n:Int)<=i
   · rw[if_pos h1] at h;have e:(i+n).toNat=j:=Option.some.inj h;exact ⟨by rw[seqIndex_neg (by omega) h1,e],by omega,h1,by omega⟩
   · rw[if_neg h1] at h;cases h
theorem cb7 {α:Type}{xs:List α}{i:Int}{v:α}(h:atI xs i=some v):∃j,seqIndex? i xs.length=some j/\xs[j]? =some v/\j < xs.length/\ -(xs.length:Int)<=i/\i < xs.length:=by
 unfold atI at h
 cases e:Z0 xs.length i with
 |none=>rw[e] at h;cases h
 |some j=>
  rw[e] at h;obtain ⟨h1,h2,h3,h4⟩:=aj2 e;exact ⟨j,h1,h,h2,h3,h4⟩
theorem G0 {α:Type}{xs:List α}{j:Nat}{v:α}(h:xs[j]? =some v):atI xs (j:Int)=some v:=by
 have hj:j < xs.length:=(ct3.mp h).1
 have e:Z0 xs.length (j:Int)=some j:=by
   unfold Z0;rw[if_pos (by omega),if_pos (by omega)];simp
 unfold atI;rw[e];exact h
def cb8 (b:Expr):Prop:=∀o i,subscripted b false o i=operate [o,i] (getItem o i)
def IxR (X:Cx)(r:R2):Prop:=
 ∀(value slice:Expr) (pins:List (Addr×Obj)) (s:Shared) (σ:St) (H:Hp) (x y:V) (v u:Value) (Q:VK),g9 X pins σ H s->l9 x v->l9 y u->r x y H Q->
  subscripted slice false v u=operate [v,u] (getItem v u)->wpAny (model X.prog X.w) X.A (subscriptTail value slice v u) (EP X pins σ Q) X.xe s
def MtR (X:Cx)(id:String)(r:V->List V->Hp->VK->Prop):Prop:=
 ∀(pins:List (Addr×Obj)) (s:Shared) (σ:St) (H:Hp) (x:V) (xs:List V) (v:Value) (us:List Value) (Q:VK),g9 X pins σ H s->l9 x v->j8 xs us->r x xs H Q->
  wpAny (model X.prog X.w) X.A (call (.builtin id) (v::us)) (EP X pins σ Q) X.xe s
section
variable {X:Cx} {a b:Expr} {ta tb:TE} {pos:Pos}
theorem G9 {r:R2}(hr:IxR X r)(ha:PE X a ta)(hb:PE X b tb)(hs:cb8 b):PE X (.Subscript a b pos) (tOp r ta tb):=by
 intro pins s σ H Q I h;exact Subscript_ (bv4 ha hb I h fun v u s2 x y H2 I2 rx ry q=>hr a b pins s2 σ H2 x y v u Q I2 rx ry q (hs _ _))
def ci1 (K:PySem.W.Frag):R2:=fun x y H Q=>∃p xs i v,x= .ref p/\y= .int i/\i4 K H p xs/\atI xs i=some v/\Q v H
theorem B7:IxR X (ci1 X.K):=by
 intro value slice pins s σ H x y v u Q I rx ry h hs;obtain ⟨p,xs,i,z,rfl,rfl,hq,he,q⟩:=h;cases rx;obtain ⟨t,rfl⟩:=ry;obtain ⟨its,r,pl,hz⟩:=I.list hq;obtain ⟨j,h1,h2,h3,h4,h5⟩:=cb7 he;obtain ⟨w,ew,rw'⟩:=r.get h2;have hl:=r.length;have hn:=az3;have fin:EP X pins σ Q w s:=⟨z,H,I,rw',q⟩
 by_cases h0:0<=i
 · have hj:i.toNat=j:=by
     rw[seqIndex_of h0 h5] at h1;exact Option.some.inj h1
   exact item_listR pl.isList h0 (by omega) (by rw[hj];simpa using ew) fin hs
 · have hj:(i+(its.toArray.size:Int)).toNat=j:=by
     rw[seqIndex_neg (by omega) h4] at h1;rw[cu1,<-hl];exact Option.some.inj h1
   exact subscriptTail_builtinR (x:=w) pl.isList.typeIs slot_list_getitem.lookup
     (wpAny_getItem_list_neg (Q:=fun r s'=>r=w/\EP X pins σ Q r s') pl.isList (by omega) (by rw[cu1]<;>omega) (by omega) (by rw[hj];simpa using ew) ⟨rfl,fin⟩) hs
theorem bk4 (its:List Value)(n j:Nat)(u:Value):Obj.mapSeq (·.setIfInBounds j u) {cls:= .type "list",data:= .seq its.toArray n}={cls:= .type "list",data:= .seq (its.set j u).toArray n}:=by
 simp [Obj.mapSeq]
theorem g9.lst {pins:List (Addr×Obj)}{σ:St}{H:Hp}{s:Shared}{p:Addr}{xs:List V}(I:g9 X pins σ H s)(h:H p=some (.lst xs)):
   ∃(its:List Value) (n:Nat),j8 xs its/\s.heap.get? p=some {cls:= .type "list",data:= .seq its.toArray n}/\xs.length<=sizeLine:=by
 obtain ⟨z,its,n,r,e⟩:=I.hok p _ h;exact ⟨its,n,r,e,z⟩
theorem g9.lstUpd {pins:List (Addr×Obj)}{σ:St}{H:Hp}{s:Shared}{p:Addr}{xs ys:List V}{its its':List Value}{n n':Nat}{f:Obj->Obj}(I:g9 X pins σ H s)(h:H p=some (.lst xs))
   (ho:s.heap.get? p=some {cls:= .type "list",data:= .seq its.toArray n}) (hf:f {cls:= .type "list",data:= .seq its.toArray n}={cls:= .type "list",data:= .seq its'.toArray n'}) (r:j8 ys its') (hz:ys.length<=sizeLine) (t:Nat):
   g9 X pins σ (c8 H p (.lst ys)) {s with heap:=s.heap.update p f,toks:=t}:=by
 have e:(s.heap.update p f).get? p=some {cls:= .type "list",data:= .seq its'.toArray n'}:=by
   rw[Heap.get?_update_self f ho (by rw[hf]<;>rfl),hf]
 refine I.write (x:=p) (e:=p) (by rw[h];trivial) (.inl rfl) (fun b u hb q=>(Heap.get?_update_other _ _ (Ne.symm hb)).trans q) ⟨_,e⟩ ?_;exact ⟨hz,its',n',r,e⟩
def cm2:V->V->V->Hp->(Hp->Prop)->Prop:=fun o i v H Q=>∃p xs k j,o= .ref p/\i= .int k/\H p=some (.lst xs)/\Z0 xs.length k=some j/\Q (c8 H p (.lst (xs.set j v)))
theorem X0:ch0 X cm2:=by
 intro pins s σ H o i v ov iv u Q I ro ri rv h;obtain ⟨p,xs,k,j,rfl,rfl,hp,hj,q⟩:=h;cases ro;obtain ⟨t,rfl⟩:=ri;obtain ⟨its,n,r,ho,hz⟩:=I.lst hp;obtain ⟨h1,h2,h3,h4⟩:=aj2 hj;have hl:=r.length;have hn:=az3
 have I':g9 X pins σ (c8 H p (.lst (xs.set j v))) {s with heap:=s.heap.update p (Obj.mapSeq (·.setIfInBounds j u))}:=
   I.lstUpd hp ho (bk4 its n j u) (r.set rv j) (by rw[de2];exact hz) s.toks
 by_cases h0:0<=k
 · have hk:k.toNat=j:=by
     rw[seqIndex_of h0 h4] at h1;exact Option.some.inj h1
   exact PySem.W.ki_setAt ho h0 (by omega) (by rw[cu1,<-hl];exact h4) (by rw[hk];exact ⟨_,I',q⟩)
 · have hk:(k+(its.toArray.size:Int)).toNat=j:=by
     rw[seqIndex_neg (by omega) h3] at h1;rw[cu1,<-hl];exact Option.some.inj h1
   exact PySem.W.ki_setBack ho (by omega) (by rw[cu1,<-hl];exact h3) (by omega) (by rw[hk];exact ⟨_,I',q⟩)
theorem az5 (lo hi:Option Int)(n:Nat):(sliceBounds lo hi none n).1=((HT.sIx n 0 lo:Nat):Int)/\(sliceBounds lo hi none n).2.1=((HT.sIx n n hi:Nat):Int)/\(sliceBounds lo hi none n).2.2=1:=by
 refine ⟨?_,?_,rfl⟩
 · cases lo with
   |none=>simp [sliceBounds,HT.sIx]
   |some i=>
    simp only[sliceBounds,HT.sIx,Option.getD_none,show (1:Int) > 0 by decide,if_true]
    by_cases h:i < 0
    · simp only[h,if_true]<;>omega
    · simp only[h,if_false]<;>omega
 · cases hi with
   |none=>simp [sliceBounds,HT.sIx]
   |some i=>
    simp only[sliceBounds,HT.sIx,Option.getD_none,show (1:Int) > 0 by decide,if_true]
    by_cases h:i < 0
    · simp only[h,if_true]<;>omega
    · simp only[h,if_false]<;>omega
theorem ax2 (its:List Value)(lo hi:Option Int):slicePick its.toArray lo hi none=((its.drop (HT.sIx its.length 0 lo)).take (HT.sIx its.length its.length hi - HT.sIx its.length 0 lo)).toArray:=by
 obtain ⟨h1,h2,h3⟩:=az5 lo hi its.toArray.size;unfold slicePick;rw[h1,h2,h3]
 simp only[sliceRange_one,pick_run,cu1]<;>rfl
def cq3 (K:PySem.W.Frag):V->Option Int->Option Int->Hp->VK->Prop:=fun x lo hi H Q=>∃a xs,x= .ref a/\i4 K H a xs/\∀p,H p=none->Q (.ref p) (c8 H p (.lst (M4 xs lo hi)))
theorem P1:SlR X (cq3 X.K):=by
 intro pins s σ H x v vl vu lo hi sl Q I rx hs pl pu h;obtain ⟨a,xs,rfl,hx,q⟩:=h;cases rx;obtain ⟨its,r,ht,hz⟩:=I.list hx;have hlen:=r.length;refine ⟨"list",_,slot_list_getitem.lookup,ht.isList.typeIs,?_⟩;refine wpAny_getItem_list_slice ht.isList hs pl pu .none (by simp) ?_ (by rw[cu1]<;>omega);rw[ax2,<-hlen];refine ⟨.ref s.heap.objs.size,_,I.laid (t':=s.toks) (o:= .lst (M4 xs lo hi)) (fun b ob q=>Heap.get?_push_of_some _ q) (ct4 _) ?_,rfl,q _ (I.hok.fresh (ct4 _))⟩;exact ⟨cw7 (bf5 xs lo hi) hz,_,0,(r.drop (HT.sIx xs.length 0 lo)).take (HT.sIx xs.length xs.length hi - HT.sIx xs.length 0 lo),Heap.get?_push_size _ rfl⟩
def T4:V->Bool
 | .non=>true
 | .bl _=>true
 | .int _=>true
 | .str _=>true
 |_=>false
def eqV:V->V->Bool
 | .non,.non=>true
 | .bl a,.bl b=>a==b
 | .bl a,.int b=>(if a then 1 else 0)==b
 | .int a,.bl b=>a==(if b then 1 else 0)
 | .int a,.int b=>a==b
 | .str a,.str b=>a==b
 |_,_=>false
theorem bo8 {A:Around}{s:Shared}{y x:V}{u v:Value}(ry:l9 y u)(rx:l9 x v)(fy:T4 y=true)(fx:T4 x=true):SeqAt.EqAt A s u v (eqV y x):=by
 cases y with
 |non=>
  cases ry
  cases x with
  |non=>cases rx;exact SeqAt.EqAt.same _
  |bl b=>cases rx;exact SeqAt.EqAt.none_bool b
  |int b=>obtain ⟨t,rfl⟩:=rx;exact SeqAt.EqAt.none_int b t
  |str b=>obtain ⟨t,rfl⟩:=rx;exact SeqAt.EqAt.none_str b t
  |_=>exact absurd (show false=true from fx) cu8
 |bl a=>
  cases ry
  cases x with
  |non=>cases rx;exact SeqAt.EqAt.bool_none a
  |bl b=>cases rx;exact SeqAt.EqAt.bool_bool a b
  |int b=>obtain ⟨t,rfl⟩:=rx;exact SeqAt.EqAt.bool_int a b t
  |str b=>obtain ⟨t,rfl⟩:=rx;exact SeqAt.EqAt.bool_str a b t
  |_=>exact absurd (show false=true from fx) cu8
 |int a=>
  obtain ⟨t',rfl⟩:=ry
  cases x with
  |non=>cases rx;exact SeqAt.EqAt.int_none a t'
  |bl b=>cases rx;exact SeqAt.EqAt.int_bool a t' b
  |int b=>obtain ⟨t,rfl⟩:=rx;exact SeqAt.EqAt.int_int a t' b t
  |str b=>obtain ⟨t,rfl⟩:=rx;exact SeqAt.EqAt.int_str a t' b t
  |_=>exact absurd (show false=true from fx) cu8
 |str a=>
  obtain ⟨t',rfl⟩:=ry
  cases x with
  |non=>cases rx;exact SeqAt.EqAt.str_none a t'
  |bl b=>cases rx;exact SeqAt.EqAt.str_bool a t' b
  |int b=>obtain ⟨t,rfl⟩:=rx;exact SeqAt.EqAt.str_int a t' b t
  |str b=>obtain ⟨t,rfl⟩:=rx;exact SeqAt.EqAt.str_str a t' b t
  |_=>exact absurd (show false=true from fx) cu8
 |_=>exact absurd (show false=true from fy) cu8
def eqU (x:V)(u:Value):Bool:=match u with
 | .none=>eqV .non x
 | .bool b=>eqV (.bl b) x
 | .int i _=>eqV (.int i) x
 | .str z _=>eqV (.str z) x
 |_=>false
theorem bo9 {x y:V}{u:Value}(r:l9 y u)(f:T4 y=true):eqU x u=eqV y x:=by
 cases y with
 |non=>cases r;rfl
 |bl b=>cases r;rfl
 |int i=>obtain ⟨t,rfl⟩:=r;rfl
 |str z=>obtain ⟨t,rfl⟩:=r;rfl
 |_=>exact absurd (show false=true from f) cu8
theorem as4 {x:V}:∀{xs:List V} {us:List Value},j8 xs us->xs.all T4=true->us.any (eqU x)=xs.any fun y=>eqV y x
 |_,_,.nil,_=>rfl
 |y::xs,u::us,.cons r t,f=>by
  rw[List.all_cons,cx7] at f;rw[df3,df3,bo9 r f.1,as4 t f.2]
theorem am5 {A:Around}{s:Shared}{x:V}{v:Value}(rx:l9 x v)(fx:T4 x=true):∀{xs:List V} {us:List Value},j8 xs us->xs.all T4=true->∀u∈us,SeqAt.EqAt A s u v (eqU x u)
 |_,_,.nil,_=>fun u hu=>by cases hu
 |y::xs,u::us,.cons r t,f=>fun u' hu=>by
  rw[List.all_cons,cx7] at f
  rcases cv5.mp hu with rfl|hu
  · rw[bo9 r f.1];exact bo8 r rx f.1 fx
  · exact am5 rx fx t f.2 u' hu
def inV (x:V)(xs:List V):Bool:=xs.any fun y=>eqV y x
def rIn (K:PySem.W.Frag)(neg:Bool):R2:=fun x y H Q=>∃p xs,y= .ref p/\(i4 K H p xs\/Q3 K H p xs)/\T4 x=true/\xs.all T4=true/\Q (.bl (if neg then !inV x xs else inV x xs)) H
theorem az6:J6 X (compareOp .NotIn) (rIn X.K true):=by
 intro pins s σ H x y v u Q I rx ry h;obtain ⟨p,xs,rfl,hq,fx,fs,q⟩:=h;cases ry
 rcases hq with hq|hq
 · obtain ⟨its,r,pl,hz⟩:=I.list hq;refine SeqAt.notIn_listAt (eqU x) pl.isList (fun w hw=>am5 rx fx r fs w (by simpa using hw)) ⟨.bl _,H,I,rfl,?_⟩;rw[show its.toArray.any (eqU x)=its.any (eqU x) by simp,as4 r fs];exact q
 · obtain ⟨its,r,pl,hz⟩:=I.tuple hq;refine SeqAt.notIn_tupleAt (eqU x) pl (fun w hw=>am5 rx fx r fs w (by simpa using hw)) ⟨.bl _,H,I,rfl,?_⟩;rw[show its.toArray.any (eqU x)=its.any (eqU x) by simp,as4 r fs];exact q
theorem az7:N3 X (.builtin "len") (fun xs H Q=>∃p ys,xs=[.ref p]/\(i4 X.K H p ys\/Q3 X.K H p ys)/\Q (.int ys.length) H):=by
 intro pins s σ H xs us Q I r h;obtain ⟨p,ys,rfl,hq,q⟩:=h;obtain ⟨u,rfl,rx⟩:=Y8 r;cases rx;have hn:=az3
 rcases hq with hq|hq
 · obtain ⟨its,r',pl,hz⟩:=I.list hq;have hlen:=r'.length;exact Calls.call_len_list pl.isList (by simp only[cu1]<;>omega) ⟨.int ys.length,H,I.tok _,⟨s.toks+1,by rw[cu1,hlen]⟩,q⟩
 · obtain ⟨its,r',pl,hz⟩:=I.tuple hq;have hlen:=r'.length;exact len_tuple pl (by simp only[cu1]<;>omega) ⟨.int ys.length,H,I.tok _,⟨s.toks+1,by rw[cu1,hlen]⟩,q⟩
theorem az8:N3 X (.type "list") (fun xs H Q=>∃p ys,xs=[.ref p]/\(i4 X.K H p ys\/Q3 X.K H p ys)/\∀l,H l=none->Q (.ref l) (c8 H l (.lst ys))):=by
 intro pins s σ H xs us Q I r h;obtain ⟨p,ys,rfl,hq,q⟩:=h;obtain ⟨u,rfl,rx⟩:=Y8 r;cases rx
 have fin:∀(its:List Value),j8 ys its->ys.length<=sizeLine->∀(h':Heap) (c':Nat),(∀b o',s.heap.get? b=some o'->h'.get? b=some o')->
     h'.get? s.heap.objs.size=some {cls:= .type "list",dict:=none,data:= .seq its.toArray c',slots:= #[]}->EP X pins σ Q (.ref s.heap.objs.size) {s with heap:=h'}:=fun its r' hz h' c' kp e=>
   ⟨.ref s.heap.objs.size,_,I.laid (t':=s.toks) kp (ct4 _) (show w4 X.prog X.w _ h' _ (.lst ys) from ⟨hz,its,c',r',e⟩),rfl,q _ (I.hok.fresh (ct4 _))⟩
 rcases hq with hq|hq
 · obtain ⟨its,r',pl,hz⟩:=I.list hq;have hlen:=r'.length;obtain ⟨o,ho,hc,n,hd⟩:=pl.isList;exact call_list_seq p (.inl rfl) ho hc hd (fun h' c' kp e=>fin its r' hz h' c' kp e) (by simp only[cu1]<;>omega)
 · obtain ⟨its,r',pl,hz⟩:=I.tuple hq;have hlen:=r'.length;obtain ⟨o,ho,hc,n,hd⟩:=pl;exact call_list_seq p (.inr rfl) ho hc hd (fun h' c' kp e=>fin its r' hz h' c' kp e) (by simp only[cu1]<;>omega)
def tyV (K:PySem.W.Frag)(T:String)(x:V)(H:Hp):Prop:=match x with
 | .str _=>T="str"
 | .int _=>T="int"
 | .ref p=>(T="list"/\∃xs,i4 K H p xs)\/(T="tuple"/\∃o,K.lookup p=some o/\o.cls= .type "tuple"/\o.dict=none)\/
     (T="dict"/\((∃kvs,H p=some (.dK kvs))\/∃kvs,H p=some (.dT kvs)))\/(T="set"/\∃S n,H p=some (.set S n))
 |_=>False
theorem ci2 {pins:List (Addr×Obj)}{σ:St}{H:Hp}{s:Shared}{T:String}{x:V}{v:Value}(I:g9 X pins σ H s)(r:l9 x v)(ty:tyV X.K T x H):
   s.TypeIs v T/\∀a,v= .ref a->∃ob,s.heap.get? a=some ob/\ob.dict=none:=by
 cases x with
 |str z=>
  obtain ⟨t,rfl⟩:=r;cases (show T="str" from ty);exact ⟨typeIs_str s z t,fun _ e=>nomatch e⟩
 |int i=>
  obtain ⟨t,rfl⟩:=r;cases (show T="int" from ty);exact ⟨typeIs_int s i t,fun _ e=>nomatch e⟩
 |ref p=>
  cases r
  rcases ty with ⟨rfl,xs,hq⟩|⟨rfl,o,hk,hc,hd⟩|⟨rfl,hk⟩|⟨rfl,S,n,hk⟩
  · obtain ⟨its,_,pl,_⟩:=I.list hq;refine ⟨pl.isList.typeIs,fun a e=> ?_⟩;cases e;obtain ⟨o,n,e,c,hd,_⟩:=pl;exact ⟨o,e,hd⟩
  · refine ⟨⟨o,I.kIn p o hk,hc⟩,fun a e=> ?_⟩;cases e;exact ⟨o,I.kIn _ o hk,hd⟩
  · have z:∃o,s.heap.get? p=some o/\o.ExactDict:=by
      rcases hk with ⟨kvs,hk⟩|⟨kvs,hk⟩
      · obtain ⟨_,_,_,_,o,_,_,e,ex,_⟩:=I.hok p _ hk;exact ⟨o,e,ex⟩
      · obtain ⟨_,_,_,_,o,_,_,e,ex,_⟩:=I.hok p _ hk;exact ⟨o,e,ex⟩
    obtain ⟨o,e,ex⟩:=z;refine ⟨⟨o,e,ex.1⟩,fun a e2=> ?_⟩;cases e2;exact ⟨o,e,ex.2.1⟩
  · obtain ⟨o,_,_,_,e,ex,_⟩:=I.hok p _ hk;refine ⟨⟨o,e,ex.1⟩,fun a e2=> ?_⟩;cases e2;exact ⟨o,e,ex.2.1⟩
 |_=>exact False.elim ty
def tBM (K:PySem.W.Frag)(T:String)(r:V->List V->Hp->VK->Prop)(to:TE)(t:TA):TE:=fun σ H Q=>to σ H fun x H1=>tyV K T x H1/\t σ H1 fun xs H2=>r x xs H2 Q
variable {o e:Expr} {es:List Expr} {to:TE} {t:TA} {name:Str} {apos cpos:Pos} {T id:String} {r:V->List V->Hp->VK->Prop}
theorem ay1 (pa:PlainAttrs T)(slot:Slot T name id)(hty:typeOf (.builtin id)=pure (.type "method_descriptor"))(hm:MtR X id r)(ho:PE X o to)(ha:PA X (e::es) t)
   (hbase:attributeBase o name X.env (eval o X.env)=eval o X.env:=by rfl)
   (hfew:((backTo cpos (starEach (e::es) X.env)).all (fun x=> !x.1)&&(backToKw cpos (keywordEach [] X.env)).all (fun x=>x.1.isSome)
     &&decide ((e::es).length+([]:List Keyword).length+(if ([]:List Keyword).isEmpty then 0 else 1) < 30))=true:=by rfl)
   (hline:(apos.endLine==cpos.line)=true:=by rfl) (hs:starEach (e::es) X.env=(false,eval e X.env)::starEach es X.env:=by rfl) (hplain:(backTo cpos (starEach es X.env)).any (·.1)=false:=by rfl):
   PE X (.Call (.Attribute o name apos) (e::es) [] cpos) (tBM X.K T r to t):=by
 intro pins s σ H Q I h;refine wpAny_Call_method_late hbase hfew hline rfl (n9 (ho pins s σ H _ I h) fun v s1 ⟨x,H1,I1,r1,ty,q1⟩=> ?_);obtain ⟨h1,h2⟩:=ci2 I1 r1 ty;refine ⟨T,id,pa,slot,hty,h1,h2,?_⟩;have hA:=ha cpos pins s1 σ H1 _ I1 q1;rw[hs] at hA ⊢;refine Calls.callWith_builtin (by show (false||(backTo cpos (starEach es X.env)).any (·.1))=false;rw[hplain]<;>rfl) (Calls.evalArgs_plain ?_)
 exact n9 hA fun us s2 ⟨vs,H2,I2,r2,q2⟩=>hm pins s2 σ H2 x vs v us Q I2 r1 r2 q2
end
end L2
namespace L2
open PySem PySem.Spec PyProof.Rows
def MtM (X:Cx)(id:String)(r:V->List V->Hp->VK->Prop):Prop:=
 ∀(pins:List (Addr×Obj)) (s:Shared) (σ:St) (H:Hp) (x:V) (xs:List V) (v:Value) (us:List Value) (Q:VK),g9 X pins σ H s->l9 x v->j8 xs us->r x xs H Q->
  wpAny (model X.prog X.w) X.A (call (.builtin id) (v::us)) (EP X pins σ Q) X.xe s
theorem j8.one:∀{x:V} {us:List Value},j8 [x] us->∃u,us=[u]/\l9 x u
 |_,_,.cons r .nil=>⟨_,rfl,r⟩
theorem j8.eraseIdx:∀{xs:List V} {us:List Value} (i:Nat),j8 xs us->j8 (xs.eraseIdx i) (us.eraseIdx i)
 |_,_,_,.nil=> .nil
 |_,_,0,.cons _ t=>t
 |_,_,i+1,.cons r t=> .cons r (j8.eraseIdx i t)
theorem av4 {α:Type}:∀(l:List α) (i:Nat),(l.eraseIdx i).length<=l.length
 |[],_=>ct4 _
 |_::_,0=>di5 _
 |_::r,i+1=>Nat.succ_le_succ (av4 r i)
section
variable {X:Cx} {pins:List (Addr×Obj)} {σ:St} {H:Hp} {s:Shared} {l b:Addr} {xs ys zs:List V}
theorem g9.lset {its its':List Value}{n:Nat}{f:Array Value->Array Value}{t':Nat}(I:g9 X pins σ H s)(hH:H l=some (.lst xs))
   (e:s.heap.get? l=some {cls:= .type "list",data:= .seq its.toArray n}) (hf:f its.toArray=its'.toArray) (hv:j8 ys its') (hz:ys.length<=sizeLine):
   g9 X pins σ (c8 H l (.lst ys)) {s with heap:=s.heap.update l (Obj.mapSeq f),toks:=t'}:=by
 have q:=PySem.IsL.update e f;rw[hf] at q;refine I.write (x:=l) (e:=l) (by rw[hH];exact trivial) (.inl rfl) (fun b' u hb hu=>(Heap.get?_update_other s.heap (Obj.mapSeq f) (Ne.symm hb)).trans hu) ⟨_,q⟩ ?_;exact ⟨hz,its',_,hv,q⟩
theorem g9.lnew {its:List Value}{t':Nat}(I:g9 X pins σ H s)(hv:j8 ys its)(hz:ys.length<=sizeLine):
   g9 X pins σ (c8 H s.heap.objs.size (.lst ys)) {s with heap:=s.heap.push {cls:= .type "list",data:= .seq its.toArray},toks:=t'}:=
 I.laid (fun _ _ q=>Heap.get?_push_of_some _ q) (ct4 _) ⟨hz,its,0,hv,Heap.get?_push_size _ rfl⟩
theorem g9.fresh (I:g9 X pins σ H s):H s.heap.objs.size=none:=I.hok.fresh (ct4 _)
theorem g9.lstM (I:g9 X pins σ H s)(hH:H l=some (.lst xs)):xs.length<=sizeLine/\∃(its:List Value) (n:Nat),j8 xs its/\xs.length=its.length/\s.heap.get? l=some {cls:= .type "list",data:= .seq its.toArray n}:=by
 obtain ⟨z,its,n,r,e⟩:=I.hok l _ hH;exact ⟨z,its,n,r,r.length,e⟩
end
section
variable {X:Cx}
def bh3:V->List V->Hp->VK->Prop:=fun x vs H Q=>∃l xs y,x= .ref l/\vs=[y]/\H l=some (.lst xs)/\xs.length < sizeLine/\Q .non (c8 H l (.lst (xs++[y])))
theorem bp1:MtM X "list.append" bh3:=by
 intro pins s σ H x vs v us Q I rx rv h;obtain ⟨l,xs,y,rfl,rfl,hH,hz,q⟩:=h;cases rx;obtain ⟨u,rfl,ru⟩:=rv.one;obtain ⟨z,its,n,r,hl,e⟩:=I.lstM hH;refine call_meets F.slot_list_append ⟨_,e,rfl⟩ F.entry_list_append (F.args_list_append_2 _ _) (PySem.list_append l its.toArray n u (by rw[cu1];omega)) ⟨e,?_⟩;refine ⟨.non,_,I.lset (its':=its++[u]) hH e (by simp) (r.append (.cons ru .nil)) ?_,rfl,q⟩;rw[ct6,dd3];omega
def az9:V->List V->Hp->VK->Prop:=fun x vs H Q=>∃l xs i k y,x= .ref l/\vs=[.int i]/\H l=some (.lst xs)/\ -(2^63)<=i/\i < 2^63/\seqIndex? i xs.length=some k/\xs[k]? =some y/\Q y (c8 H l (.lst (xs.eraseIdx k)))
theorem ba0:MtM X "list.pop" az9:=by
 intro pins s σ H x vs v us Q I rx rv h;obtain ⟨l,xs,i,k,y,rfl,rfl,hH,h1,h2,hk,hy,q⟩:=h;cases rx;obtain ⟨u,rfl,ru⟩:=rv.one;obtain ⟨t,rfl⟩:=ru;obtain ⟨z,its,n,r,hl,e⟩:=I.lstM hH;obtain ⟨w,hw,rw'⟩:=r.get hy
 refine call_meets F.slot_list_pop ⟨_,e,rfl⟩ F.entry_list_pop (F.args_list_pop_2 _ _)
   (MeetsSeq.list_pop_at l its.toArray n i t k w (fitsIndex_both h1 h2) (by rw[cu1,<-hl];exact hk) (by rw[<-cy1];exact hw) (by rw[cu1];omega)) ⟨e,?_⟩
 refine ⟨y,_,I.lset (its':=its.eraseIdx k) hH e ?_ (r.eraseIdx k) ?_,rw',q⟩
 · show its.toArray.eraseIdxIfInBounds k=(its.eraseIdx k).toArray;rw[List.eraseIdxIfInBounds_toArray]
 · have:=av4 xs k;omega
def cq4:R2:=fun x y H Q=>∃l b xs zs,x= .ref l/\y= .ref b/\H l=some (.lst xs)/\H b=some (.lst zs)/\xs.length+zs.length<=sizeLine/\∀p,H p=none->Q (.ref p) (c8 H p (.lst (xs++zs)))
theorem T8:J6 X (binaryOp .Add) cq4:=by
 intro pins s σ H x y v u Q I rx ry h;obtain ⟨l,b,xs,zs,rfl,rfl,hH,hB,hz,q⟩:=h;cases rx;cases ry;obtain ⟨z,its,n,r,hl,e⟩:=I.lstM hH;obtain ⟨z2,its2,n2,r2,hl2,e2⟩:=I.lstM hB;refine PySem.P.add_list e e2 ?_ (by rw[cu1,cu1];omega)
 have ea:its.toArray++its2.toArray=(its++its2).toArray:=by simp
 rw[ea];exact ⟨.ref _,_,I.lnew (t':=s.toks) (r.append r2) (by rw[ct6];omega),rfl,q _ I.fresh⟩
end
end L2
namespace L2
open PySem PySem.Spec PyProof.Rows
section
variable {κ:Type} [DecidableEq κ]
def B9 (kvs:List (κ×V))(k:κ):Option V:=(kvs.find? fun kv=>decide (kv.1=k)).map (·.2)
def O8 (kvs:List (κ×V))(k:κ)(v:V):List (κ×V):=
 if (kvs.any fun kv=>decide (kv.1=k))=true then kvs.map (fun kv=>if kv.1=k then (kv.1,v) else kv) else kvs++[(k,v)]
theorem R9 {p:κ×V}{r:List (κ×V)}{k:κ}(e:p.1=k):B9 (p::r) k=some p.2:=by simp [B9,dc8,e]
theorem O9 {p:κ×V}{r:List (κ×V)}{k:κ}(e:¬p.1=k):B9 (p::r) k=B9 r k:=by simp [B9,dc8,e]
theorem am6 (k:κ):∀kvs:List (κ×V),(kvs.any fun kv=>decide (kv.1=k))=(B9 kvs k).isSome
 |[]=>rfl
 |p::r=>by
  rw[df3]
  by_cases e:p.1=k
  · simp only[R9 e,decide_eq_true e,Bool.true_or,Option.isSome_some]
  · rw[O9 e,decide_eq_false e,Bool.false_or];exact am6 k r
theorem al6 (kvs:List (κ×V))(k:κ)(v:V):(O8 kvs k v).length<=kvs.length+1:=by
 unfold O8
 split
 · rw[ct1];omega
 · rw[ct6,cv7,di3];omega
theorem am7 {kvs:List (κ×V)}{k:κ}(v:V)(h:B9 kvs k=none):O8 kvs k v=kvs++[(k,v)]:=by
 unfold O8;rw[am6,h];exact if_neg (by decide)
theorem W5.isSome_eq {o:Option V}{u:Option Value}(r:W5 o u):o.isSome=u.isSome:=by
 cases o with
 |none=>cases u with
  |none=>rfl
  |some _=>exact (show False from r).elim
 |some _=>cases u with
  |none=>exact (show False from r).elim
  |some _=>rfl
theorem KV.val {kvs:List (κ×V)}{vs:List (κ×Value)}(r:KV kvs vs)(k:κ):W5 (B9 kvs k) (valueAt vs k):=by
 unfold KV at r
 induction r with
 |nil=>exact True.intro
 |@cons p q ps qs h t ih=>
  obtain ⟨h1,h2⟩:=h
  by_cases e:p.1=k
  · have e':q.1=k:=h1.symm.trans e
    have b:valueAt (q::qs) k=some q.2:=by simp [valueAt,dc8,e']
    rw[R9 e,b];exact h2
  · have e':¬q.1=k:=fun z=>e (h1.trans z)
    have b:valueAt (q::qs) k=valueAt qs k:=by simp [valueAt,dc8,e']
    rw[O9 e,b];exact ih
theorem KV.any {kvs:List (κ×V)}{vs:List (κ×Value)}(r:KV kvs vs)(k:κ):(kvs.any fun kv=>decide (kv.1=k))=vs.any fun kv=>decide (kv.1=k):=by
 unfold KV at r
 induction r with
 |nil=>rfl
 |cons h t ih=>rw[df3,df3,ih,h.1]
theorem KV.repl {kvs:List (κ×V)}{vs:List (κ×Value)}(r:KV kvs vs)(k:κ){y:V}{u:Value}(ry:l9 y u):
   KV (kvs.map fun kv=>if kv.1=k then (kv.1,y) else kv) (vs.map fun kv=>if kv.1=k then (kv.1,u) else kv):=by
 unfold KV at r ⊢
 induction r with
 |nil=>exact .nil
 |@cons p q ps qs h t ih=>
  rw[cy4,cy4];refine .cons ?_ ih;obtain ⟨h1,h2⟩:=h
  by_cases e:p.1=k
  · rw[if_pos e,if_pos (h1.symm.trans e)];exact ⟨h1,ry⟩
  · rw[if_neg e,if_neg (fun z=>e (h1.trans z))];exact ⟨h1,h2⟩
theorem KV.put {kvs:List (κ×V)}{vs:List (κ×Value)}(r:KV kvs vs)(k:κ){y:V}{u:Value}(ry:l9 y u):KV (O8 kvs k y) (stored vs k u):=by
 unfold O8 stored;rw[r.any k]
 by_cases e:(vs.any fun kv=>decide (kv.1=k))=true
 · rw[if_pos e,if_pos e];exact r.repl k ry
 · rw[if_neg e,if_neg e];exact Paired.snoc r ⟨rfl,ry⟩
theorem KV.length {kvs:List (κ×V)}{vs:List (κ×Value)}(r:KV kvs vs):kvs.length=vs.length:=Paired.length r
end
theorem aj3 {P:Program}{w:World}{k:m9}{u:Value}(r:l9 (kV k) u):(A2 P w).is k u=true:=by
 cases k with
 |inl i=>obtain ⟨t,e⟩:=(show ∃t,u=Value.int i t from r);subst e;exact al4 P w i t
 |inr x=>obtain ⟨t,e⟩:=(show ∃t,u=Value.str x t from r);subst e;exact al5 P w x t
theorem av5 {P:Program}{w:World}:∀{ks:List m9} {us:List Value},j8 (ks.map kV) us->ItemsAre (A2 P w) ks us
 |[],_,r=>by rw[dc2] at r;cases r;exact .nil
 |k::ks,_,r=>by
  rw[cy4] at r
  cases r with
  |cons h t=>exact .cons (aj3 h) (av5 t)
abbrev KT (H:Hp):List (List m9×V)->List (List m9×Addr×Value)->Prop:=Paired fun p q=>p.1=q.1/\H q.2.1=some (.tup (p.1.map kV))/\l9 p.2 q.2.2
theorem KT.val {H:Hp}{kvs:List (List m9×V)}{xs:List (List m9×Addr×Value)}(r:KT H kvs xs)(k:List m9):W5 (B9 kvs k) ((atKey xs k).map (·.2)):=by
 induction r with
 |nil=>exact True.intro
 |@cons p q ps qs h t ih=>
  obtain ⟨h1,_,h2⟩:=h
  by_cases e:p.1=k
  · have e':q.1=k:=h1.symm.trans e
    have b:atKey (q::qs) k=some q.2:=by simp [atKey,dc8,e']
    rw[R9 e,b];exact h2
  · have e':¬q.1=k:=fun z=>e (h1.trans z)
    have b:atKey (q::qs) k=atKey qs k:=by simp [atKey,dc8,e']
    rw[O9 e,b];exact ih
theorem KT.repl {H:Hp}{kvs:List (List m9×V)}{xs:List (List m9×Addr×Value)}(r:KT H kvs xs)(k:List m9){y:V}{u:Value}(ry:l9 y u):
   KT H (kvs.map fun kv=>if kv.1=k then (kv.1,y) else kv) (xs.map (putAt k u)):=by
 induction r with
 |nil=>exact .nil
 |@cons p q ps qs h t ih=>
  rw[cy4,cy4];refine .cons ?_ ih;obtain ⟨h1,h2,h3⟩:=h;unfold putAt
  by_cases e:p.1=k
  · rw[if_pos e,if_pos (h1.symm.trans e)];exact ⟨h1,h2,ry⟩
  · rw[if_neg e,if_neg (fun z=>e (h1.trans z))];exact ⟨h1,h2,h3⟩
theorem KT.put {H:Hp}{kvs:List (List m9×V)}{xs:List (List m9×Addr×Value)}(r:KT H kvs xs)(k:List m9){b:Addr}{y:V}{u:Value}(hb:H b=some (.tup (k.map kV)))(ry:l9 y u):
   KT H (O8 kvs k y) (storedH xs k b u):=by
 have e:(kvs.any fun kv=>decide (kv.1=k))=(atKey xs k).isSome:=by
   rw[am6,(r.val k).isSome_eq,dh1]
 unfold O8 storedH;rw[e]
 by_cases q:(atKey xs k).isSome=true
 · rw[if_pos q,if_pos q];exact r.repl k ry
 · rw[if_neg q,if_neg q];exact Paired.snoc r ⟨rfl,hb,ry⟩
theorem KT.keeps {H H':Hp}{kvs:List (List m9×V)}{xs:List (List m9×Addr×Value)}(r:KT H kvs xs)(ht:∀b ys,H b=some (.tup ys)->H' b=some (.tup ys)):KT H' kvs xs:=
 Paired.mapP r fun _ _ z=>⟨z.1,ht _ _ z.2.1,z.2.2⟩
section
variable {P:Program} {w:World} {H:Hp} {h:Heap} {a:Addr}
theorem ca3 {u:HO}(ok:D2 P w H h)(e:Rd H a u):w4 P w H h a u:=e.ok ok
theorem ao7 {kvs:List (m9×V)}(ok:D2 P w H h)(e:Rd H a (.dK kvs)):kvs.length<=sizeLine/\(a==sysModules)=false/\∃vs,KV kvs vs/\h.DictOf (A2 P w) a vs:=
 show w4 P w H h a (.dK kvs) from ca3 ok e
theorem ca4 {kvs:List (m9×V)}(ok:D2 P w H h)(e:H a=some (.dK kvs)):kvs.length<=sizeLine/\(a==sysModules)=false/\∃vs,KV kvs vs/\h.DictOf (A2 P w) a vs:=ao7 ok (.inl e)
theorem af4 {ks:List m9}(ok:D2 P w H h)(e:H a=some (.tup (ks.map kV))):(tupleKind (A2 P w)).is h ks a:=by
 obtain ⟨_,its,r,o,h1,h2,n,h3⟩:=(show w4 P w H h a (.tup (ks.map kV)) from ok a _ e);exact ⟨o,its.toArray,n,h1,h2,h3,by simpa using av5 r⟩
theorem ao8 {kvs:List (List m9×V)}(ok:D2 P w H h)(e:Rd H a (.dT kvs)):kvs.length<=sizeLine/\(a==sysModules)=false/\
   ∃xs,KT H kvs xs/\h.DictOfH (tupleKind (A2 P w)) a xs:=by
 obtain ⟨z,y,xs,r,o,es,ep,h1,h2,h3,h4,h5⟩:=(show w4 P w H h a (.dT kvs) from ca3 ok e);refine ⟨z,y,xs,r,o,es,ep,h1,h2,h3,h4,fun x hx=> ?_,h5⟩
 have all:∀{l:List (List m9×V)} {m:List (List m9×Addr×Value)},KT H l m->∀x∈m,(tupleKind (A2 P w)).is h x.1 x.2.1:=by
   intro l m q
   induction q with
   |nil=>intro x hx;exact nomatch hx
   |@cons p q ps qs hq t ih=>
    intro x hx
    rcases cv5.mp hx with e|hx
    · subst e;exact af4 ok (by rw[<-hq.1];exact hq.2.1)
    · exact ih x hx
 exact all r x hx
theorem cm3 {kvs:List (List m9×V)}(ok:D2 P w H h)(e:H a=some (.dT kvs)):kvs.length<=sizeLine/\(a==sysModules)=false/\
 ∃xs,KT H kvs xs/\h.DictOfH (tupleKind (A2 P w)) a xs:=ao8 ok (.inl e)
end
def U6 (H:Hp)(a:Addr)(y:V)(r:Option V):Prop:=
 (∃kvs k,Rd H a (.dK kvs)/\y=kV k/\r=B9 kvs k)\/∃kvs k b,Rd H a (.dT kvs)/\y= .ref b/\H b=some (.tup (k.map kV))/\r=B9 kvs k
def af5 (H:Hp)(a:Addr)(y v:V)(H':Hp):Prop:=
 (∃kvs k,H a=some (.dK kvs)/\y=kV k/\kvs.length < sizeLine/\H'=c8 H a (.dK (O8 kvs k v)))\/
 ∃kvs k b,H a=some (.dT kvs)/\y= .ref b/\H b=some (.tup (k.map kV))/\kvs.length < sizeLine/\H'=c8 H a (.dT (O8 kvs k v))
theorem U6.k {H:Hp}{a:Addr}{kvs:List (m9×V)}{k:m9}(e:H a=some (.dK kvs)):U6 H a (kV k) (B9 kvs k):= .inl ⟨kvs,k,.inl e,rfl,rfl⟩
theorem af5.k {H:Hp}{a:Addr}{kvs:List (m9×V)}{k:m9}{v:V}(e:H a=some (.dK kvs))(hl:kvs.length < sizeLine):af5 H a (kV k) v (c8 H a (.dK (O8 kvs k v))):= .inl ⟨kvs,k,e,rfl,hl,rfl⟩
section
variable {X:Cx} {pins:List (Addr×Obj)} {σ:St} {H:Hp} {s:Shared} {a:Addr} {y v:V} {u r:Value} {o:Option V} {A:Around} {E:Value->Shared->Prop}
theorem g9.big (I:g9 X pins σ H s):sysModules < s.heap.objs.size:=by
 have h:mainGlobals < s.heap.objs.size:=(I.mod.glob.keeps I.bk).lt;exact Nat.lt_trans (by decide) h
theorem bp2 {Q:Value->Shared->Prop}(hu:A.units+1 < cLine)(I:g9 X pins σ H s)(g:U6 H a y (some v))(ry:l9 y u)(h:∀w' s',g9 X pins σ H s'->l9 v w'->Q w' s'):
   wpAny (model X.prog X.w) A (getItem (.ref a) u) Q E s:=by
 rcases g with ⟨kvs,k,e,ey,l⟩|⟨kvs,k,b,e,ey,eb,l⟩
 · subst ey;obtain ⟨z,hd,vs,rel,dd⟩:=ao7 I.hok e;obtain ⟨w',hw,rw'⟩:=W5.some_of (v:=v) (o:=valueAt vs k) (by rw[l];exact rel.val k);exact wpAny_getItem_of (aj3 ry) dd.mapOf hw (h w' _ (I.tok _) rw')
 · subst ey;cases (show u=Value.ref b from ry);obtain ⟨z,hd,xs,rel,dd⟩:=ao8 I.hok e;obtain ⟨w',hw,rw'⟩:=W5.some_of (v:=v) (o:=(atKey xs k).map (·.2)) (by rw[l];exact rel.val k);obtain ⟨p,hp,hp2⟩:=cy2.mp hw;refine wpAny_getItem_heap (tupleKind_room_in1 hu) (af4 I.hok eb) dd hp ?_;rw[hp2];exact h w' _ (I.tok _) rw'
theorem cq5 {Q:Value->Shared->Prop}(hu:A.units+1 < cLine)(I:g9 X pins σ H s)(g:U6 H a y o)(ry:l9 y u)(h:∀s',g9 X pins σ H s'->Q (.bool o.isSome) s'):
   wpAny (model X.prog X.w) A (compareOp .In u (.ref a)) Q E s:=by
 rcases g with ⟨kvs,k,e,ey,l⟩|⟨kvs,k,b,e,ey,eb,l⟩
 · subst ey;obtain ⟨z,hd,vs,rel,dd⟩:=ao7 I.hok e;refine wpAny_in_of (aj3 ry) hd dd.mapOf ?_;rw[<-(rel.val k).isSome_eq,<-l];exact h _ (I.tok _)
 · subst ey;cases (show u=Value.ref b from ry);obtain ⟨z,hd,xs,rel,dd⟩:=ao8 I.hok e;refine wpAny_in_heap (tupleKind_room_in1 hu) (af4 I.hok eb) hd dd ?_;have q:=(rel.val k).isSome_eq;rw[dh1] at q;rw[<-q,<-l];exact h _ (I.tok _)
theorem cb9 {Q:Value->Shared->Prop}(hu:A.units+1 < cLine)(I:g9 X pins σ H s)(g:U6 H a y o)(ry:l9 y u)(h:∀s',g9 X pins σ H s'->Q (.bool (!o.isSome)) s'):
   wpAny (model X.prog X.w) A (compareOp .NotIn u (.ref a)) Q E s:=by
 rcases g with ⟨kvs,k,e,ey,l⟩|⟨kvs,k,b,e,ey,eb,l⟩
 · subst ey;obtain ⟨z,hd,vs,rel,dd⟩:=ao7 I.hok e;refine wpAny_notIn_of (aj3 ry) hd dd.mapOf ?_;rw[<-(rel.val k).isSome_eq,<-l];exact h _ (I.tok _)
 · subst ey;cases (show u=Value.ref b from ry);obtain ⟨z,hd,xs,rel,dd⟩:=ao8 I.hok e;refine wpAny_notIn_heap (tupleKind_room_in1 hu) (af4 I.hok eb) hd dd ?_;have q:=(rel.val k).isSome_eq;rw[dh1] at q;rw[<-q,<-l];exact h _ (I.tok _)
theorem aj4 {h':Heap}{t':Nat}{ob:HO}(I:g9 X pins σ H s)(mu:Mut (H a))(hs:Heap.SameBut a s.heap h')(he:∃q,h'.get? a=some q)(new:w4 X.prog X.w (c8 H a ob) h' a ob):
   g9 X pins σ (c8 H a ob) {s with heap:=h',toks:=t'}:=
 I.write (x:=a) (e:=a) mu (.inl rfl) (fun b q hb z=>(hs.2 b hb).trans z) he new
theorem bp3 {P:Program}{w:World}{H':Hp}{h':Heap}{kvs:List (m9×V)}{vs:List (m9×Value)}(z:kvs.length<=sizeLine)(hd:(a==sysModules)=false)(rel:KV kvs vs)(dd:h'.DictOf (A2 P w) a vs):
 w4 P w H' h' a (.dK kvs):=⟨z,hd,vs,rel,dd⟩
theorem bp4 {H':Hp}{Q:Unit->Shared->Prop}(hu:A.units+1 < cLine)(I:g9 X pins σ H s)(g:af5 H a y v H')(ry:l9 y u)(rv:l9 v r)(h:∀s',g9 X pins σ H' s'->Q () s'):
   wpAny (model X.prog X.w) A (setItem (.ref a) u r) Q E s:=by
 rcases g with ⟨kvs,k,e,ey,l,eH⟩|⟨kvs,k,b,e,ey,eb,l,eH⟩
 · subst ey eH;obtain ⟨z,hd,vs,rel,dd⟩:=ca4 I.hok e
   have hz:vs.length<=sizeLine:=by rw[<-rel.length];exact z
   have hl:(O8 kvs k v).length<=sizeLine:=by have:=al6 kvs k v;omega
   refine wpAny_setItem_pairs (hsz:=hz) (aj3 ry) dd fun h' dd' hs=>h _ ?_
   have he:∃q,h'.get? a=some q:=let ⟨q,_,_,hq,_⟩:=dd';⟨q,hq⟩;exact aj4 I (by rw[e];exact True.intro) hs he (bp3 hl hd (rel.put k rv) dd')
 · subst ey eH;cases (show u=Value.ref b from ry);obtain ⟨z,hd,xs,rel,dd⟩:=cm3 I.hok e
   have hz:xs.length<=sizeLine:=by rw[<-Paired.length rel];exact z
   have hl:(O8 kvs k v).length<=sizeLine:=by have:=al6 kvs k v;omega
   refine wpAny_setItem_heap (hsz:=hz) (tupleKind_room_in1 hu) (af4 I.hok eb) dd fun h' dd' hs=>h _ ?_
   obtain ⟨q,es,ep,hq,h2,h3,h4,_,h5⟩:=dd';refine aj4 I (by rw[e];exact True.intro) hs ⟨q,hq⟩ ⟨hl,hd,_,(rel.put k eb rv).keeps fun c ys ec=> ?_,q,es,ep,hq,h2,h3,h4,h5⟩;rw[g8 (bz7 ec e (fun z=>nomatch z))];exact ec
end
def ci4 (i:Expr):Prop:=∀ov iv,subscripted i false ov iv=operate [ov,iv] (getItem ov iv)
theorem cc0 {prog:Program}{w:World}{A:Around}{E:Value->Shared->Prop}{s:Shared}{env:Env}{value slice:Expr}{pos:Pos}{T id:String}{Q:Value->Shared->Prop}
   (hl:typeLookup (.type T) "__getitem__"=pure (some (.builtin id))) (hs:ci4 slice)
   (h:wpAny (model prog w) A (eval value env) (fun o s₁=>wpAny (model prog w) A (eval slice env) (fun i s₂=>s₂.TypeIs o T/\wpAny (model prog w) A (getItem o i) Q E s₂) E s₁) E s):
   wpAny (model prog w) A (eval (.Subscript value slice pos) env) Q E s:=by
 refine Subscript_ (wpAny_mono h (fun o s₁ h₁=>wpAny_mono h₁ (fun i s₂ h₂=> ?_) fun _ _ x=>x) fun _ _ x=>x);obtain ⟨hT,h₂⟩:=h₂;unfold subscriptTail;refine wpAny_bind ?_;rw[getitemInPython_of_ne hT.not_modules];refine wpAny_bind (wpAny_specialOf hT hl ?_)
 have fin:wpAny (model prog w) A (subscripted slice false o i) (fun r s₃=>wpAny (model prog w) A (letTemporaryGo value o r >>=fun _=>pure r) Q E s₃) E s₂:=by
   rw[hs o i];exact wpAny_operating (wpAny_mono h₂ (fun r s₃ h₃=>wpAny_bind (wpAny_letTemporaryGo (wpAny_pure h₃))) fun _ _ x=>x)
 first
   |exact wpAny_pure (wpAny_bind fin)
   |exact wpAny_bind (wpAny_pure (wpAny_bind fin))
   |exact wpAny_bind fin
theorem bf6 {X:Cx}{pins:List (Addr×Obj)}{σ:St}{H:Hp}{s:Shared}{a:Addr}{y:V}{o:Option V}(I:g9 X pins σ H s)(g:U6 H a y o):s.TypeIs (.ref a) "dict":=by
 rcases g with ⟨kvs,k,e,_,_⟩|⟨kvs,k,b,e,_,_,_⟩
 · obtain ⟨_,_,vs,_,dd⟩:=ao7 I.hok e;exact dd.typeIs
 · obtain ⟨_,_,xs,_,dd⟩:=ao8 I.hok e;exact dd.typeIs
def cm4 (td ty:TE):TE:=fun σ H Q=>td σ H fun x H1=>ty σ H1 fun y H2=>∃a v,x= .ref a/\U6 H2 a y (some v)/\Q v H2
def cq6 (ty td:TE):TE:=fun σ H Q=>ty σ H fun y H1=>td σ H1 fun x H2=>∃a o,x= .ref a/\U6 H2 a y o/\Q (.bl o.isSome) H2
def cc1 (ty td:TE):TE:=fun σ H Q=>ty σ H fun y H1=>td σ H1 fun x H2=>∃a o,x= .ref a/\U6 H2 a y o/\Q (.bl (!o.isSome)) H2
def cm5 (td ty tv:TE):TS:=fun D σ H=>tv σ H fun v H1=>td σ H1 fun x H2=>ty σ H2 fun y H3=>∃a H4,x= .ref a/\af5 H3 a y v H4/\D.nx σ H4
section
variable {X:Cx} {o i e value:Expr} {pos pos' tpos:Pos} {td ty tv:TE}
theorem aj5 (hu:X.A.units+1 < cLine)(ho:PE X o td)(hi:PE X i ty)(hs:ci4 i):PE X (.Subscript o i pos) (cm4 td ty):=by
 intro pins s σ H Q I h;refine cc0 PySem.F.slot_dict_getitem.lookup hs (n9 (ho pins s σ H _ I h) fun u s1 ⟨x,H1,I1,rx,q1⟩=>n9 (hi pins s1 σ H1 _ I1 q1) fun iv s2 ⟨y,H2,I2,ry,a,v,ex,g,q2⟩=> ?_);subst ex;obtain rfl:u=Value.ref a:=rx;exact ⟨bf6 I2 g,bp2 hu I2 g ry fun w' s3 I3 rw'=>⟨v,H2,I3,rw',q2⟩⟩
theorem bp5 (hu:X.A.units+1 < cLine)(hi:PE X i ty)(ho:PE X o td):PC X .In i o (cq6 ty td):=by
 intro pins s σ H Q I h
 refine n9 (hi pins s σ H _ I h) fun iv s1 ⟨y,H1,I1,ry,q1⟩=>n9 (ho pins s1 σ H1 _ I1 q1) fun u s2 ⟨x,H2,I2,rx,a,ov,ex,g,q2⟩=> ?_
 subst ex;obtain rfl:u=Value.ref a:=rx
 exact cq5 hu I2 g ry fun s3 I3=>⟨.bl ov.isSome,H2,I3,rfl,q2⟩
theorem bp6 (hu:X.A.units+1 < cLine)(hi:PE X i ty)(ho:PE X o td):PC X .NotIn i o (cc1 ty td):=by
 intro pins s σ H Q I h
 refine n9 (hi pins s σ H _ I h) fun iv s1 ⟨y,H1,I1,ry,q1⟩=>n9 (ho pins s1 σ H1 _ I1 q1) fun u s2 ⟨x,H2,I2,rx,a,ov,ex,g,q2⟩=> ?_
 subst ex;obtain rfl:u=Value.ref a:=rx
 exact cb9 hu I2 g ry fun s3 I3=>⟨.bl (!ov.isSome),H2,I3,rfl,q2⟩
theorem aj6 (hu:X.A.units+1 < cLine)(ho:PE X o td)(hi:PE X i ty)(hv:PE X value tv)(hs:swapsWith value (some (.Subscript o i pos')) pos.line X.env=pure false):
   PS X (.Assign [.Subscript o i pos'] value pos) (cm5 td ty tv):=by
 intro pins s σ H D I h;refine wpAny_Assign_Subscript (n9 (hv pins s σ H _ I h) fun r s1 ⟨v,H1,I1,rv,q1⟩=>n9 (ho pins s1 σ H1 _ I1 q1) fun u s2 ⟨x,H2,I2,rx,q2⟩=>n9 (hi pins s2 σ H2 _ I2 q2) fun iv s3 ⟨y,H3,I3,ry,a,H4,ex,g,q3⟩=> ?_) hs;subst ex;obtain rfl:u=Value.ref a:=rx
 exact bp4 hu I3 g ry rv fun s4 I4=>⟨σ,H4,I4,q3⟩
end
theorem bw1 {P:Program}{w:World}{H:Hp}(h:Heap)(hb:sysModules < h.objs.size):w4 P w H (h.push {cls:= .type "dict",data:= .dict #[]}) h.objs.size (.dK []):=
 ⟨cv9 _,beq_eq_false_iff_ne.mpr (Ne.symm (cw4 hb)),[],.nil,Heap.DictOf.new h⟩
def ci5:TE:=fun _ H Q=>∀p,H p=none->Q (.ref p) (c8 H p (.dK []))
section
variable {X:Cx} {pos:Pos}
theorem S0:PE X (.Dict [] [] pos) ci5:=fun pins s σ H Q I h=>
 wpAny_Dict_empty ⟨.ref s.heap.objs.size,_,I.laid (a:=s.heap.objs.size) (o:= .dK []) (t':=s.toks) (fun _ _ q=>Heap.get?_push_of_some _ q) (ct4 _) (bw1 s.heap I.big),rfl,h _ (I.hok.fresh (ct4 _))⟩
end
end L2
namespace Att
open PySem PySem.W PySem.Calls PyProof.Rows
theorem ao9 {P:Params}{h:Heap}:∀(ns:List Int) (vs:List Value),WellAll P h vs (ns.map WData.int)->IntsAre vs ns:=by
 intro ns
 induction ns with
 |nil=>
  intro vs w;rw[dc2] at w;cases w;exact .nil
 |cons n ns ih=>
  intro vs w;rw[cy4] at w
  cases w with
  |cons a b=>
   cases a;exact .cons _ _ (ih _ b)
theorem bp7 {l:OpenLaw}{n:Nat}(hn:l.most=some n){P:Params}{h:Heap}{args:List WData}{vals:List Value}
   (hpre:l.row.toRowW.claim.pre args=true) (hwl:WellAll P h vals args):
   ∃a vs ns,vals=[Value.ref a]/\args=[WData.list (ns.map WData.int)]/\h.get? a=some {cls:= .type "list",data:= .seq vs.toArray}/\IntsAre vs ns/\ns.length<=n:=by
 have hsh:WShape.hasAll [] args [.list .int]=true:=(pre_splitW hpre).1;have hc:l.pre.holds [] {args:=args}=true:=(pre_splitW hpre).2;obtain ⟨d,r,rfl,h1,h2⟩:=hasAllW_cons hsh;obtain rfl:=hasAllW_nil h2;obtain ⟨xs,rfl,h3⟩:=hasW_list h1;obtain ⟨ns,rfl⟩:=items_int h3
 have hlen:ns.length<=n:=by
   unfold OpenLaw.pre at hc
   have h4:(WTm.not (.lt (.lit (.int (n:Int))) (.len (.arg 0)))).holds [] {args:=[.list (ns.map .int)]}=true:=by
     have h4:=(holds_andW hc).1;rw[hn] at h4;exact h4
   have h5:=condW_of h4 (w_not (w_lt w_lit (w_len_list (w_arg rfl))));rw[ct1] at h5
   refine Nat.le_of_not_lt fun q=> ?_
   have q':(n:Int) < ((ns.length:Nat):Int):=by omega
   first
     |(rw[decide_eq_true q'] at h5;exact absurd h5 (by decide))
     |(simp at h5;omega)
 cases hwl with
 |cons w1 w2=>
  cases w2
  cases w1 with
  |list ho hall=>exact ⟨_,_,ns,rfl,rfl,ho,ao9 ns _ hall,hlen⟩
theorem bp8 (l:OpenLaw)(args:List WData):l.row.toRowW.claim.post args (.bool true) args=true:=
 postW_of (r:=l.row.toRowW) (X:=(true==true))
   (show WShape.has [] (.bool true) .bool=true by first|rfl|decide|simp [WShape.has,WShape.arms,WShape.armsAll])
   (show (WTm.eq .res (.lit (.bool true))).value [] {args:=args,res:=some (.bool true),after:=args}=some (.bool (true==true)) from w_eq_bool (w_res rfl) w_lit) rfl
theorem cl1 {l:OpenLaw}{n:Nat}{q:Program}{loose:List Str}{XP:(Str->Option Value)->Heap->Prop}{YP:World->Heap->Prop}{d:DefRec}
   (hn:l.most=some n) (hdf:d.params.defaults=[])
   (call:∀(w:World) (s₀ s₁:Shared) (mg mb:Str->Option Value) (fa:Addr) (o:Obj) (pm cd doc:Value) (a:Addr) (vs:List Value) (ns:List Int),
     Ground q loose [] XP w s₀ mg mb s₁.heap->YP w s₁.heap->
     s₁.heap.get? fa=some o->o.data= .func (docDef d.name d.params d.body d.scope pm cd doc)->s₁.heap.CodeRec cd d.name->mg d.name=some (.ref fa)->
     s₁.heap.get? a=some {cls:= .type "list",data:= .seq vs.toArray}->IntsAre vs ns->ns.length<=n->s₁.gens= #[]->
     codeAny (model l.prog w) callerA (.call (.ref fa) ⟨[.ref a],[]⟩) (fun r s'=>r= .ok (.ret (.bool true))/\OldK s₁.heap s'.heap/\s'.os=s₁.os/\AllBare s'.gens) s₁):
   WalkO q loose XP YP l.row.toRowW d [] (fun f vs=>PySem.call f vs):=by
 intro w s₀ s₁ mg mb G Y fa o pm cd doc dV kV ho hd hcd hD hmg hg args vals as hpre hlay hrd hwl hlo;obtain rfl:dV= .none:=Dflts.none hD hdf;obtain rfl:kV= .none:=Dflts.noKw hD;obtain ⟨a,vs,ns,rfl,rfl,hobj,hints,hlen⟩:=bp7 hn hpre hwl;refine enter_call (codeAny_mono (call w s₀ s₁ mg mb fa o pm cd doc a vs ns G Y ho (fd_plain hd) hcd hmg hobj hints hlen hg) fun r s' hq=> ?_);obtain ⟨rfl,h2,h3,h4⟩:=hq;exact ⟨.inl ⟨.bool true,.bool true,[],rfl,fun _=>rfl,.bool true,bp8 l _,fun _=>⟨List.Pairwise.nil,fun _ hm=>(nomatch hm)⟩⟩,h2,h3,h4⟩
end Att
namespace L2
open PySem PySem.Spec PyProof.Rows
theorem av6:∀{vs:List Value} {ns:List Int},IntsAre vs ns->j8 (ns.map V.int) vs
 |_,_,.nil=> .nil
 |_,_,.cons n t h=> .cons ⟨t,rfl⟩ (av6 h)
def bw2 (H:Hp):Prop:=∀b,H b=none\/∃o xs,H b=some (.frz o (.lst xs))
theorem bw3 {P:Program}{w:World}{K:PySem.W.Frag}{mg mb:Str->Option Value}{CX:W8}{k:Nat}{fa a:Addr}{fd:FuncData}{x:Str}{sp:Sp}{s₁:Shared}{vs:List Value}{ns:List Int}
   (KX:K.In s₁.heap) (hns:s₁.heap.Ns mainGlobals mg) (hb:s₁.heap.Ns builtinsNs mb) (hbb:∀x:Str,x≠"__name__"->mb x=bootBuiltins x) (hlim:s₁.heap.NoLimit) (hg:s₁.gens= #[])
   (ha:s₁.heap.get? a=some {cls:= .type "list",data:= .seq vs.toArray}) (hi:IntsAre vs ns) (hl:ns.length<=sizeLine) (hr:m8 k callerA)
   (F:∀base:Heap,K.In base->base.Ns mainGlobals mg->m7 P w K mg base CX k fa fd [x] sp) (hbind:∀(s:Shared) (u:Value),BindsTo s fd ⟨[u],[]⟩ [(x,u)])
   (hsp:∀H:Hp,bw2 H->i4 K H a (ns.map V.int)->sp [.ref a] H (fun v _=>v= .bl true) fun _ _ _=>False)
   (hCX:∀H e s',CX [] H s₁ (fun _ _ _=>False) e s'->False):
   codeAny (model P w) callerA (.call (.ref fa) ⟨[.ref a],[]⟩) (fun r s'=>r= .ok (.ret (.bool true))/\OldK s₁.heap s'.heap/\s'.os=s₁.os/\AllBare s'.gens) s₁:=by
 have rv:=av6 hi;have lenV:=hi.length
 have core:∀H:Hp,bw2 H->i4 K H a (ns.map V.int)->D2 P w H s₁.heap->(∀b,H b≠none->b=a)->(H a≠none->K.lookup a=none)->
     codeAny (model P w) callerA (.call (.ref fa) ⟨[.ref a],[]⟩) (fun r s'=>r= .ok (.ret (.bool true))/\OldK s₁.heap s'.heap/\s'.os=s₁.os/\AllBare s'.gens) s₁:=by
   intro H hO hS hok hA hK
   have base_of:∀{b:Addr} {o:Obj},s₁.heap.get? b=some o->H b=none->(ab9 s₁.heap H).get? b=some o:=fun e n=>bv1 e n
   have noA:∀{b:Addr} {o:Obj} {es:Array DictEntry} {ep:Nat},s₁.heap.get? b=some o->o.data= .dict es ep->H b=none:=fun {b o es ep} e d=>by
     cases q:H b with
     |none=>rfl
     |some u=>
      have e':b=a:=hA b (by rw[q];simp);subst e';rw[ha] at e;cases e;have d':Data.seq vs.toArray _=Data.dict es ep:=d;cases d'
   have nsK:∀{b:Addr} {m:Str->Option Value},s₁.heap.Ns b m->(ab9 s₁.heap H).Ns b m:=fun {b m} ⟨o,es,ep,e,d,r⟩=>⟨o,es,ep,base_of e (noA e d),d,r⟩
   have hKb:K.In (ab9 s₁.heap H):=fun b o e=>base_of (KX b o e) (by
     cases q:H b with
     |none=>rfl
     |some u=>
      have e':b=a:=hA b (by rw[q];simp);subst e'
      rw[hK (by rw[q];simp)] at e;cases e)
   have hM:Mod K mg (ab9 s₁.heap H):=⟨hKb,nsK hns,⟨mb,nsK hb,hbb⟩,let ⟨mc,h1,h2⟩:=hlim;⟨mc,nsK h1,h2⟩⟩;have e0:bk2 P w K mg (ab9 s₁.heap H) callerA [] s₁ H:=⟨rfl,hM,fun b o e=>cb2 e,dg1 (bn0 _ _),trivial,fun b hb=>absurd (show b∈([]:List Addr) from hb) (by simp),hok,.of_eq hg⟩
   refine codeAny_mono ((F _ hKb (nsK hns)).run callerA [] s₁ H ⟨[.ref a],[]⟩ [.ref a] [.ref a] _ _ hr e0 (hbind s₁ (.ref a)) (.cons rfl .nil) (hsp H hO hS)) fun r s' h=> ?_
   cases r with
   |error e=>exact (hCX H e s' h).elim
   |ok fl=>
    cases fl with
    |next=>exact False.elim h
    |brk=>exact False.elim h
    |cont=>exact False.elim h
    |ret u=>
     obtain ⟨v,H',os,bare,un,hok',r',q⟩:=h;have q':v= .bl true:=q;subst q';obtain rfl:u=Value.bool true:=r';refine ⟨rfl,OldK.of_keep fun b o e=> ?_,os,bare⟩
     cases q:H b with
     |none=>exact un.keep b o e q (by intro z;exact absurd (show b∈([]:List Addr) from z) (by simp)) (by simp)
     |some u=>
      rcases hO b with z|⟨ob,xs,z⟩
      · rw[q] at z;cases z
      · have z2:=un.frzs b ob _ z;obtain ⟨e1,_⟩:=hok b _ z;obtain ⟨e2,_⟩:=hok' b _ z2;rw[e] at e1;cases e1;exact e2
 cases hk:K.lookup a with
 |some o=>
  have e:=KX a o hk;rw[ha] at e;cases e
  refine core (fun _=>none) (fun _=> .inl rfl) (.inr ⟨_,vs.toArray,_,hk,rfl,rfl,rfl,by rw[cu1,lenV];exact hl,by simpa using rv⟩) (fun b u z=>by have z':(none:Option HO)=some u:=z;cases z') (fun b z=>absurd rfl z) fun z=>absurd rfl z
 |none=>
  refine core (fun b=>if b=a then some (.frz {cls:= .type "list",data:= .seq vs.toArray} (.lst (ns.map V.int))) else none) (fun b=> ?_) (.inl (.inr ⟨{cls:= .type "list",data:= .seq vs.toArray},if_pos rfl⟩)) (fun b u z=> ?_) (fun b z=> ?_) fun _=>hk
  · by_cases hb:b=a
    · exact .inr ⟨_,_,if_pos hb⟩
    · exact .inl (if_neg hb)
  · by_cases hb:b=a
    · have z':=(if_pos hb).symm.trans z;cases z';subst hb;exact ⟨ha,by rw[ct1];exact hl,vs,_,rv,ha⟩
    · have z':=(if_neg hb).symm.trans z;cases z'
  · by_cases hb:b=a
    · exact hb
    · exact absurd (if_neg hb) z
end L2
namespace L2
open PySem PySem.Spec PyProof.Rows
theorem cr7 {l:PySem.W.OpenLaw}{n k:Nat}{q:Program}{loose:List Str}{XP:(Str->Option Value)->Heap->Prop}{YP:World->Heap->Prop}{d:DefRec}{K:Params->PySem.W.Frag}{CX:World->W8}{sp:World->Sp}{x:Str}
   (hn:l.most=some n) (hn2:n<=sizeLine) (hdf:d.params.defaults=[]) (hr:m8 k callerA)
   (hY:∀(w:World) (h:Heap),YP w h->(K w.params).In h)
   (F:∀(w:World) (mg:Str->Option Value) (fa:Addr) (h:Heap),(K w.params).In h->h.Ns mainGlobals mg->mg d.name=some (.ref fa)->
     ∃fd:FuncData,(∀(s:Shared) (u:Value),BindsTo s fd ⟨[u],[]⟩ [(x,u)])/\
      ∀base:Heap,(K w.params).In base->base.Ns mainGlobals mg->m7 l.prog w (K w.params) mg base (CX w) k fa fd [x] (sp w))
   (hsp:∀(w:World) (H:Hp) (a:Addr) (ns:List Int),ns.length<=n->bw2 H->i4 (K w.params) H a (ns.map V.int)->sp w [.ref a] H (fun v _=>v= .bl true) fun _ _ _=>False)
   (hCX:∀(w:World) (H:Hp) (s:Shared) (e:Value) (s':Shared),CX w [] H s (fun _ _ _=>False) e s'->False):
   PySem.W.WalkO q loose XP YP l.row.toRowW d [] (fun f vs=>PySem.call f vs):=by
 refine Att.cl1 hn hdf fun w s₀ s₁ mg mb fa o pm cd doc a vs ns G Y ho hd hcd hmg hobj hints hlen hg=> ?_
 have KX:=hY w _ Y;obtain ⟨fd,hb,hF⟩:=F w mg fa _ KX G.T.g hmg
 exact bw3 KX G.T.g G.T.b G.T.builtins G.T.nolimit hg hobj hints (cw7 hlen hn2) hr hF hb (fun H hO hS=>hsp w H a ns hlen hO hS) fun H e s'=>hCX w H s₁ e s'
end L2
namespace L2
open PySem PySem.Spec PyProof.Rows
def V9 (s:Stmt):Arguments:=match s with
 | .FunctionDef _ a _ _ _ _ _ _ _ _=>a
 |_=>{posonlyargs:=[],args:=[],vararg:=none,kwonlyargs:=[],kw_defaults:=[],kwarg:=none,defaults:=[]}
def P2 (s:Stmt):List Stmt:=match s with
 | .FunctionDef _ _ b _ _ _ _ _ _ _=>b
 |_=>[]
def j5 (s:Stmt):Scope:=match s with
 | .FunctionDef _ _ _ _ _ _ sc _ _ _=>sc
 |_=>{kind:= .function,names:=[],isGenerator:=false,isCoroutine:=false}
abbrev E7:W8:=fun _ _ _ _ _ _=>False
abbrev E0:XK:=fun _ _ _=>False
theorem cm6 {X:Cx}:af1 E7 X E0:=fun _ _ _ _ _ _ _ h=>h.elim
structure D3 (K:PySem.W.Frag)(x qual:Str)(st:Stmt)(f:Addr)(fd:FuncData):Prop where
 ex:∃(oc:Value) (od:Option Addr) (kV doc pm:Value) (an:Option Addr) (cdv ct:Value) (osl:Array (Option Value)),
   fd=PySem.W.fnOf x qual (V9 st) (P2 st) (j5 st) .none kV doc pm an cdv ct/\K.lookup f=some ⟨oc,od,.func fd,osl⟩/\PySem.W.codeIn K cdv qual=true
 kp:PySem.W.keepIn K (.ref f)=true
section
variable {P:Program} {w:World} {K:PySem.W.Frag} {mg:Str->Option Value} {base:Heap}
theorem D3.ok {x qual:Str}{st:Stmt}{f:Addr}{fd:FuncData}{N ps:List Str}{k:Nat}{sp:Sp}(F:D3 K x qual st f fd)(S:o5 N ps (j5 st))(len:∀vs H Q E,sp vs H Q E->vs.length=ps.length)
   (hbody:∀(cdv:Value) (A:Around) (outer:List Env) (s:Shared) (H:Hp) (vs:List V) (Q:VK) (E:XK),m8 k (A.deeper (envOfC qual (j5 st) s.heap.objs.size f cdv))->sp vs H Q E->
     ∃t,U8 (aa0 E7 P w K mg base N qual (j5 st) f cdv A outer s H E).nox (P2 st) t/\t {nx:=fun _ H'=>Q .non H',rt:=Q} (V1 N vs) H):m7 P w K mg base E7 (k+1) f fd ps sp:=by
 obtain ⟨oc,od,kV,doc,pm,an,cdv,ct,osl,rfl,lk,hcd⟩:=F.ex
 refine ca2 lk hcd S len fun A outer s H vs Q E hr hsp=> ?_
 obtain ⟨t,h,q⟩:=hbody cdv A outer s H vs Q E hr hsp;exact ⟨t,h.nox,q⟩
theorem D3.binds {x qual:Str}{st:Stmt}{f:Addr}{fd:FuncData}{ps:List Str}(F:D3 K x qual st f fd)
   (h:∀(kV doc pm:Value) (an:Option Addr) (cdv ct:Value) (us:List Value),us.length=ps.length->bindArgs (PySem.W.fnOf x qual (V9 st) (P2 st) (j5 st) .none kV doc pm an cdv ct) ⟨us,[]⟩=pure (ps.zip us)):V0 K fd ps []:=by
 obtain ⟨oc,od,kV,doc,pm,an,cdv,ct,osl,rfl,lk,hcd⟩:=F.ex;exact .all (h kV doc pm an cdv ct)
theorem ci6 {x qual:Str}{st:Stmt}{f:Addr}{oc:Value}{od an:Option Addr}{osl:Array (Option Value)}{kV doc pm cdv ct:Value}(l:K.lookup f=some ⟨oc,od,.func (PySem.W.fnOf x qual (V9 st) (P2 st) (j5 st) .none kV doc pm an cdv ct),osl⟩)
 (c:PySem.W.codeIn K cdv qual=true) (k:PySem.W.keepIn K (.ref f)=true):D3 K x qual st f (PySem.W.fnOf x qual (V9 st) (P2 st) (j5 st) .none kV doc pm an cdv ct):=⟨⟨oc,od,kV,doc,pm,an,cdv,ct,osl,rfl,l,c⟩,k⟩
end
theorem O3 {A:Around}{k:Nat}(hr:m8 k A):A.units+1 < cLine:=cy0 (db8 (by decide:1<=64) _) hr.units
theorem w6 {n:Nat}(h:n<=1000):n < sizeLine:=cy0 h (by decide)
section
variable {X:Cx}
theorem pv (i:Nat){x:Str}{pos:Pos}(hN:X.N[i]? =some x:=by rfl)(hv:Vis X.env.scope x:=by first|exact Or.inl rfl|exact Or.inr (Or.inl rfl)|exact Or.inr (Or.inr rfl))(hd:(x==("__debug__":Str))=false:=by decide)
 (hcd:(x==("__classdict__":Str))=false:=by decide):PE X (.Name x pos) (cg5 i):=cg6 hN hv hd hcd
end
theorem C7 {A B:Prop}(h:B):if false=true then A else B:=by
 rw[if_neg cu8];exact h
theorem J7 {A B:Prop}(h:A):if true=true then A else B:=by
 rw[if_pos rfl];exact h
theorem S1 {c A B:Prop}[Decidable c](h1:c->A)(h2:¬c->B):if c then A else B:=by
 by_cases h:c
 · rw[if_pos h];exact h1 h
 · rw[if_neg h];exact h2 h
theorem ay2 {c A B:Prop}[Decidable c](hc:c)(h:B):if (!decide c)=true then A else B:=by
 rw[decide_eq_true hc];exact C7 h
def c9 (H H':Hp):Prop:=∀b o,H b=some o->H' b=some o
theorem c9.refl (H:Hp):c9 H H:=fun _ _ h=>h
theorem c9.trans {H H1 H2:Hp}(a:c9 H H1)(b:c9 H1 H2):c9 H H2:=fun c o h=>b c o (a c o h)
theorem c9.free {H H':Hp}(e:c9 H H'){l:Addr}(h:H' l=Option.none):H l=Option.none:=by
 cases q:H l with
 |none=>rfl
 |some o=>
  rw[e l o q] at h;cases h
section
variable {κ:Type} [DecidableEq κ]
theorem aj7:∀{l:List κ} {k:κ},l.Nodup->¬k∈l->(l++[k]).Nodup
 |[],k,_,_=>by simp
 |a::r,k,h,hk=>by
  obtain ⟨h1,h2⟩:=cx0.mp h;show (a::(r++[k])).Nodup;refine cx0.mpr ⟨fun m=> ?_,aj7 h2 fun m=>hk (cv5.mpr (Or.inr m))⟩
  rcases cu5.mp m with q|q
  · exact h1 q
  · exact hk (cv5.mpr (Or.inl (cv6.mp q).symm))
end
end L2
namespace L2
open PySem PySem.Spec PyProof.Rows
def O1 (X:Cx)(N:List Str)(scope:Scope)(cl:List (Str×Addr))(C:Addr)(s0:Shared)(H0:Hp)(ex:List Addr):Cx:=
 {X with N:=N,s₀:=s0,H₀:=H0,env:=compEnvC scope cl C X.env,outer:=X.stack,stack:=X.stack,ex:=ex,fn:=fun _=>false,pn:=[],xe:=fun _ _=>False}
def ap0 (nl:Nat)(fr:List Nat)(σ:St):St:=List.replicate nl none++fr.map fun j=>(σ[j]?).join
def A9 (env:Env):List (Str×NameKind)->List (Str×Addr)->List (Str×Addr)
 |[],cs=>cs
 |(n,k)::r,cs=>A9 env r (if (k==NameKind.free)=true then (n,(env.cells.lookup n).getD 0)::cs else cs)
theorem ap1 (env:Env):∀(ns:List (Str×NameKind)) (cs:List (Str×Addr)),(∀p∈ns,p.2= .free->∃c,env.cells.lookup p.1=some c)->(∀y c,cs.lookup y=some c->env.cells.lookup y=some c)->
   ∀y c,(A9 env ns cs).lookup y=some c->env.cells.lookup y=some c
 |[],cs,_,h,y,c,e=>h y c e
 |(n,k)::r,cs,hn,h,y,c,e=>by
  unfold A9 at e;refine ap1 env r _ (fun p hp=>hn p (ct5 _ hp)) ?_ y c e;intro z d ez
  split at ez
  · rename_i hk;rw[cz5] at ez
    cases hz:z==n with
    |true=>
     rw[hz] at ez;have hzn:z=n:=eq_of_beq hz;subst hzn
     have hkf:k= .free:=by simpa using hk
     obtain ⟨c',hc'⟩:=hn (z,k) ct7 hkf;have hc':env.cells.lookup z=some c':=hc';rw[hc'] at ez;rw[hc']
     simpa using ez
    |false=>
     rw[hz] at ez;exact h z d ez
  · exact h z d ez
theorem al7 (env:Env):∀(ns:List (Str×NameKind)) (cs:List (Str×Addr)) (y:Str),(∃c,cs.lookup y=some c)->∃c,(A9 env ns cs).lookup y=some c
 |[],cs,y,h=>h
 |(n,k)::r,cs,y,⟨c,h⟩=>by
  unfold A9;refine al7 env r _ y ?_
  split
  · rw[cz5]
    cases hz:y==n with
    |true=>exact ⟨_,rfl⟩
    |false=>exact ⟨c,h⟩
  · exact ⟨c,h⟩
theorem ac1 (env:Env):∀(ns:List (Str×NameKind)) (cs:List (Str×Addr)) (p:Str×NameKind),p∈ns->p.2= .free->∃c,(A9 env ns cs).lookup p.1=some c
 |[],cs,p,hp,_=>by simp at hp
 |(n,k)::r,cs,p,hp,hk=>by
  unfold A9
  rcases cv5.mp hp with e|hp
  · subst e;have hk:k= .free:=hk;subst hk;refine al7 env r _ n ?_;rw[if_pos (by rfl),cz5];exact ⟨(List.lookup n env.cells).getD 0,by simp⟩
  · exact ac1 env r _ p hp hk
theorem af6 (env:Env):∀(ns:List (Str×NameKind)) (cs:List (Str×Addr)),(∀p∈ns,p.2= .free->∃c,env.cells.lookup p.1=some c)->
   (forIn ns cs (fun (x:Str×NameKind) (r:List (Str×Addr))=>if (x.2==NameKind.free)=true then (do let a <-cellOf env x.1;pure (ForInStep.yield ((x.1,a)::r))) else pure (ForInStep.yield r)):Sem (List (Str×Addr)))=pure (A9 env ns cs)
 |[],cs,_=>rfl
 |(n,k)::r,cs,hn=>by
  have ih:=fun cs'=>af6 env r cs' fun p hp=>hn p (ct5 _ hp)
  rw[List.forIn_cons];unfold A9
  by_cases hk:(k==NameKind.free)=true
  · obtain ⟨c,hc⟩:=hn (n,k) ct7 (by simpa using hk);have hc:env.cells.lookup n=some c:=hc;rw[if_pos hk,if_pos hk]
    have e1:cellOf env n=pure c:=by unfold cellOf;rw[hc]
    rw[e1,hc];exact ih _
  · rw[if_neg hk,if_neg hk];exact ih _
theorem ae4 {scope:Scope}{env:Env}(h:∀p∈scope.names,p.2= .free->∃c,env.cells.lookup p.1=some c):closureFor scope env=pure (A9 env scope.names []):=by
 have e:=af6 env scope.names [] h;unfold closureFor;show (forIn scope.names [] _ >>=_)=_;have e2:(forIn scope.names ([]:List (Str×Addr)) (fun (x:Str×NameKind) (r:List (Str×Addr))=>match x with|(name,kind)=>(if (kind==NameKind.free)=true then (do let a <-cellOf env name;pure PUnit.unit;pure (ForInStep.yield ((name,a)::r))) else (do pure PUnit.unit;pure (ForInStep.yield r)))):Sem (List (Str×Addr)))=pure (A9 env scope.names []):=e
 first
   |exact (congrArg (fun z=>z >>=fun cs=>pure cs) e2)
   |(rw[show (forIn scope.names ([]:List (Str×Addr)) _:Sem (List (Str×Addr)))=pure (A9 env scope.names []) from e];rfl)
section
variable {X:Cx}
def ba1 (X:Cx)(ifs:List Expr)(t:TT):Prop:=
 ∀(pins:List (Addr×Obj)) (s:Shared) (σ:St) (H:Hp) (Q:Bool->Hp->Prop),g9 X pins σ H s->t σ H Q->
  wpAny (model X.prog X.w) X.A (forIn ifs true fun c r=>if r=true then do let ok <-isTrue c X.env (eval c X.env);pure (ForInStep.yield ok) else pure (ForInStep.yield r)) (TP X pins σ Q) X.xe s
def cq7:TT:=fun _ H Q=>Q true H
theorem X1:ba1 X [] cq7:=fun pins s σ H Q I h=>by
 rw[List.forIn_nil];exact wpAny_pure ⟨H,I,h⟩
theorem ba2 {c:Expr}{t:TT}(h:PT X c t):ba1 X [c] t:=by
 intro pins s σ H Q I hw;rw[List.forIn_cons,if_pos rfl];refine wpAny_bind (wpAny_bind (n9 (h pins s σ H Q I hw) fun b s1 q=>wpAny_pure ?_));show wpAny _ _ (forIn [] b _) _ _ s1;rw[List.forIn_nil];exact wpAny_pure q
theorem ba3 {prog:Program}{w:World}{A:Around}{R:Result->Shared->Prop}{s:Shared}{elt target iter:Expr}{ifs:List Expr}{scope:Scope}{pos:Pos}{it acc:Value}{env:Env}(I:Nat->Shared->Prop)
   (turn:∀n s,I n s->wpAny (model prog w) A (pyNext it) (fun r s1=>match r with
     |none=>R (.ok .next) s1
     |some v=>wpAny (model prog w) A (letOwnedTupleGo target it v) (fun _ s2=>wpAny (model prog w) A (assign target env v) (fun _ s3=>
         wpAny (model prog w) A (forIn ifs true fun c r=>if r=true then do let ok <-isTrue c env (eval c env);pure (ForInStep.yield ok) else pure (ForInStep.yield r)) (fun ok s4=>
           if ok=true then wpAny (model prog w) A (eval elt env) (fun x s5=>
             wpAny (model prog w) A (call (.builtin "list.append") [acc,x]) (fun _ s6=>∃m,m < n/\I m s6) (fun _ _=>False) s5) (fun _ _=>False) s4
           else ∃m,m < n/\I m s4) (fun _ _=>False) s3) (fun _ _=>False) s2) (fun _ _=>False) s1) (fun _ _=>False) s)
   (n:Nat) (h:I n s):
   codeAny (model prog w) A (.compLoop (.ListComp elt [⟨target,iter,ifs,0⟩] scope pos) 0 it acc env) R s:=by
 refine codeAny_loop rfl I (fun n s hI=> ?_) n h;show wpAny _ A ((compTurn (.ListComp elt [⟨target,iter,ifs,0⟩] scope pos) 0 it acc env).onRaise (fun x=>do noteFrame x env;theTreesLotGoes x)) _ _ s;refine wpAny_noted ?_;rw[compTurn_list];refine wpAny_bind (wpAny_standAt (wpAny_bind (wpAny_mono (turn n s hI) (fun r s1 h1=> ?_) fun _ _ f=>f.elim)))
 cases r with
 |none=>exact wpAny_pure h1
 |some v=>
  refine wpAny_bind (wpAny_mono h1 (fun _ s2 h2=> ?_) fun _ _ f=>f.elim);refine wpAny_bind (wpAny_mono h2 (fun _ s3 h3=>wpAny_bind (wpAny_mono h3 (fun ok s4 h4=> ?_) fun _ _ f=>f.elim)) fun _ _ f=>f.elim)
  cases ok with
  |false=>exact wpAny_pure ⟨rfl,h4⟩
  |true=>
   exact wpAny_bind (wpAny_bind (wpAny_mono h4 (fun x s5 h5=>wpAny_bind (wpAny_mono h5 (fun _ s6 h6=>wpAny_pure (wpAny_pure ⟨rfl,h6⟩)) fun _ _ f=>f.elim)) fun _ _ f=>f.elim))
def ap2 (J:It)(g:TG)(tc:TT)(te:TE)(Q:VK)(σ0:St)(H0:Hp):Prop:=∃W:Nat->Nat->List V->St->Hp->Prop,(∃m,W 0 m [] σ0 H0)/\∀i m ys σ' H',W i m ys σ' H'->
 (J.stop i H'/\∀D,H' D=none->Q (.ref D) (c8 H' D (.lst ys)))\/
 (J.go i H'/\∃N:List V->St->Hp->Prop,(∀ys' σ2 H2,N ys' σ2 H2->∃m',m' < m/\W (i+1) m' ys' σ2 H2)/\∀x H2,J.yld i H' x H2->g x σ' H2 fun σ2 H3=>tc σ2 H3 fun b H4=>
   if b=true then te σ2 H4 fun y H5=>ys.length < sizeLine/\N (ys++[y]) σ2 H5 else N ys σ2 H4)
def bk5 (nl:Nat)(fr:List Nat)(wi:TI)(g:TG)(tc:TT)(te:TE):TE:=fun σ H Q=>wi σ H fun J H1=>ap2 J g tc te Q (ap0 nl fr σ) H1
structure af7 (X:Cx)(N:List Str)(nl:Nat)(fr:List Nat)(scope:Scope):Prop where
 cell:∀y∈scope.names,y.2≠.cell
 kind:scope.kind= .function
 names:∀y∈scope.names,y.2= .local->scope.names.lookup y.1=some .local
 free:∀p∈scope.names,p.2= .free->X.env.kindOf p.1=some .cell\/X.env.kindOf p.1=some .free
 len:N.length=nl+fr.length
 fr:∀(k j:Nat),fr[k]? =some j->∃y,N[nl+k]? =some y/\X.N[j]? =some y/\Vis X.env.scope y/\scope.names.lookup y=some .free
theorem S2 {env:Env}:∀{names:List (Str×NameKind)} {x:Str} {k:NameKind},(names.map fun (n,k)=>if (k==NameKind.free&&env.scope.kind== .function&&env.kindOf n==some .cell) then (n,NameKind.cell) else (n,k)).lookup x=some k->
   k= .cell\/k= .free->(∀y∈names,y.2≠.cell)->∃p∈names,p.1=x/\p.2= .free
 |[],_,_,h,_,_=>by simp at h
 |(n,kn)::r,x,k,h,hk,hc=>by
  have ih:=@S2 env r x k;rw[cy4] at h;have hcn:kn≠.cell:=hc (n,kn) ct7
  have hr:∀y∈r,y.2≠.cell:=fun y hy=>hc y (ct5 _ hy)
  cases hx:x==n with
  |true=>
   have hxn:x=n:=eq_of_beq hx
   by_cases hcc:(kn==NameKind.free&&env.scope.kind== .function&&env.kindOf n==some .cell)=true
   · refine ⟨(n,kn),ct7,hxn.symm,?_⟩;simp only[cx7] at hcc
     simpa using hcc.1.1
   · dsimp only at h
     rw[if_neg hcc,cz5,hx] at h;have hkk:kn=k:=Option.some.inj h;subst hkk
     rcases hk with z|z
     · exact absurd z hcn
     · exact ⟨(n,kn),ct7,hxn.symm,z⟩
  |false=>
   by_cases hcc:(kn==NameKind.free&&env.scope.kind== .function&&env.kindOf n==some .cell)=true
   · dsimp only at h
     rw[if_pos hcc,cz5,hx] at h;obtain ⟨p,hp,q⟩:=ih h hk hr;exact ⟨p,ct5 _ hp,q⟩
   · dsimp only at h
     rw[if_neg hcc,cz5,hx] at h;obtain ⟨p,hp,q⟩:=ih h hk hr;exact ⟨p,ct5 _ hp,q⟩
theorem R5 {env:Env}:∀{names:List (Str×NameKind)} {x:Str},names.lookup x=some .free->
   (names.map fun (n,k)=>if (k==NameKind.free&&env.scope.kind== .function&&env.kindOf n==some .cell) then (n,NameKind.cell) else (n,k)).lookup x=some .cell\/
   (names.map fun (n,k)=>if (k==NameKind.free&&env.scope.kind== .function&&env.kindOf n==some .cell) then (n,NameKind.cell) else (n,k)).lookup x=some .free
 |[],_,h=>by simp at h
 |(n,kn)::r,x,h=>by
  have ih:=@R5 env r x;rw[cy4]
  dsimp only
  cases hx:x==n with
  |true=>
   rw[cz5,hx] at h;have hkn:kn= .free:=Option.some.inj h
   by_cases hcc:(kn==NameKind.free&&env.scope.kind== .function&&env.kindOf n==some .cell)=true
   · rw[if_pos hcc,cz5,hx];exact .inl rfl
   · rw[if_neg hcc,cz5,hx];exact .inr (congrArg some hkn)
  |false=>
   rw[cz5,hx] at h
   by_cases hcc:(kn==NameKind.free&&env.scope.kind== .function&&env.kindOf n==some .cell)=true
   · rw[if_pos hcc,cz5,hx];exact ih h
   · rw[if_neg hcc,cz5,hx];exact ih h
theorem D2.track {P:Program}{w:World}{H:Hp}{h:Heap}{a:Addr}{o:HO}(x:D2 P w H h)(hn:H a=none)(new:w4 P w (c8 H a o) h a o):D2 P w (c8 H a o) h:=fun b u e=>by
 by_cases hb:b=a
 · subst hb;rw[c7] at e;cases e;exact new
 · rw[g8 hb] at e
   exact (x b u e).stay (fun c v _ q=>q) (fun c q=>by rw[g8 (h7 q hn)];exact q) fun c xs q=>by rw[g8 (h7 q hn)];exact q
theorem av7 {elt tg iter:Expr}{ifs:List Expr}{scope:Scope}{pos:Pos}{wi:TI}{g:TG}{tc:TT}{te:TE}{N:List Str}{nl:Nat}{fr:List Nat}
   (hc:X.calm=true) (hi:PI X tg iter wi) (hg:∀cl C s0 H0 ex,PG (O1 X N scope cl C s0 H0 ex) tg g) (ht:∀cl C s0 H0 ex,ba1 (O1 X N scope cl C s0 H0 ex) ifs tc)
   (he:∀cl C s0 H0 ex,PE (O1 X N scope cl C s0 H0 ex) elt te) (ok:af7 X N nl fr scope)
   {RR:Value->Addr->Result->Shared->Prop} {pins:List (Addr×Obj)} {s:Shared} {σ:St} {H:Hp} {Q:VK} (I:g9 X pins σ H s) (h:bk5 nl fr wi g tc te σ H Q)
   (hRR:∀D C s' H',g9 X pins σ H' s'->Q (.ref D) H'->af0 X pins H' C->(∃m,s'.heap.Ns C m)->RR (.ref D) C (.ok .next) s'):
   wpAny (model X.prog X.w) X.A (eval iter X.env) (fun x s1=>wpAny (model X.prog X.w) X.A (pyIter x) (fun it s2=>wpAny (model X.prog X.w) X.A (newList []) (fun acc s3=>
     wpAny (model X.prog X.w) X.A (newFunctionEnv scope X.env.globals (A9 X.env scope.names []) [] X.env.qual none .none (some X.env)) (fun cenv s4=>
       codeAny (model X.prog X.w) X.A (.compStart (.ListComp elt [⟨tg,iter,ifs,0⟩] scope pos) 0 it acc {cenv with scope:=relabel scope X.env}) (RR acc cenv.locals) s4) X.xe s3) X.xe s2) X.xe s1) X.xe s:=by
 refine n9 (hi pins s σ H _ I h) fun v s1 h1=>n9 h1 fun itv s2 h2=> ?_
 obtain ⟨it,fp,tn,J,H2,rfl,I2,T,st2,f2,W,⟨m0,w0⟩,turn⟩:=h2;refine wpAny_newObj_type (wpAny_newFunctionEnv ok.cell (by intro y hy;simp at hy) (fun h1 hns1 hsb1=> ?_) ok.kind)
 dsimp only at hns1 hsb1 ⊢
 generalize hHH:s2.heap.push {cls:= .type "list",dict:=none,data:= .seq ([]:List Value).toArray}=HH at hns1 hsb1 ⊢
 have hC:HH.objs.size=s2.heap.objs.size+1:=by rw[<-hHH,Heap.size_push]
 have hDC:s2.heap.objs.size≠HH.objs.size:=by rw[hC];exact cw4 (Nat.lt_succ_self _)
 have hCle:s2.heap.objs.size<=HH.objs.size:=by rw[hC];exact di5 _
 have below:∀b,b < s2.heap.objs.size->b≠HH.objs.size/\b≠s2.heap.objs.size:=fun b hb=>⟨by rw[hC];exact cw4 (dh2 hb),cw4 hb⟩
 have old:∀b o,s2.heap.get? b=some o->h1.get? b=some o:=fun b o e=>hsb1.extBut b o (below b (Heap.lt_size e)).1 (Heap.get?_push_of_some _ (hHH▸Heap.get?_push_of_some _ e))
 have hacc:h1.get? s2.heap.objs.size=some {cls:= .type "list",data:= .seq ([]:List Value).toArray}:=hsb1.extBut _ _ hDC (Heap.get?_push_of_some _ (hHH▸Heap.get?_push_size _ rfl))
 have fplt:∀b∈fp,b < s2.heap.objs.size:=fun b hb=>by obtain ⟨o,e,_⟩:=T.obj 0 _ st2 b hb;exact Heap.lt_size e
 generalize hXd:O1 X N scope (A9 X.env scope.names []) HH.objs.size s2 H2 fp=X'
 have hfreeC:∀p∈scope.names,p.2= .free->∃c,X.env.cells.lookup p.1=some c:=fun p hp hf=>I.ok.has p.1 (ok.free p hp hf)
 have cellsSub:∀y c,(A9 X.env scope.names []).lookup y=some c->X.env.cells.lookup y=some c:=ap1 X.env scope.names [] hfreeC (fun y c e=>by simp at e)
 have cellLt:∀y c,X.env.cells.lookup y=some c->c < s2.heap.objs.size:=fun y c e=>by obtain ⟨v,z⟩:=I2.cell y c e;exact z.lt
 have ok':X'.Ok:=by
   rw[<-hXd]
   refine ⟨I.ok.mod,?_,I.ok.glob,I.ok.blt,hCle,fun x y c e1 e2=>I.ok.inj x y c (cellsSub x c e1) (cellsSub y c e2),fun x hx=> ?_,fun x c hf=>(by cases hf),I.ok.hd,I.ok.frames,.inl rfl,
     fun b hb=>⟨(below b (fplt b hb)).1,fun x c e=>(f2 b hb).2.2.2.2.1 x c (cellsSub x c e)⟩,I2.bs,cw7 I.ok.bsz I2.sz,fun b o e hb=> ?_,fun b hb hfs=> ?_,I2.stack,I2.stkFree⟩
   · show (relabel scope X.env).kind= .function;exact ok.kind
   · have hx':∃p∈scope.names,p.1=x/\p.2= .free:=by
       rcases hx with z|z
       · exact S2 z (.inl rfl) ok.cell
       · exact S2 z (.inr rfl) ok.cell
     obtain ⟨p,hp,rfl,hpf⟩:=hx';exact ac1 X.env scope.names [] p hp hpf
   · rcases (f2 b hb).2.2.2.1 with z|z
     · exact I.ok.noex b o e z
     · exact absurd (cw8 (Heap.lt_size e) (cw7 I.ok.bsz z)) (da3 _)
   · rcases cv5.mp (I2.stkSub b hfs) with z|z
     · exact (f2 b hb).2.1 z
     · exact (f2 b hb).2.2.1 z
 have hX'd:X'.env.locals=HH.objs.size:=by rw[<-hXd];rfl
 have hX'c:X'.env.cells=A9 X.env scope.names []:=by rw[<-hXd];rfl
 have hX'pn:X'.pn=[]:=by rw[<-hXd];rfl
 have hX'ex:X'.ex=fp:=by rw[<-hXd];rfl
 have hX's0:X'.s₀=s2:=by rw[<-hXd];rfl
 have hX'H0:X'.H₀=H2:=by rw[<-hXd];rfl
 have hX'fs:X'.fs=B8 X.stack:=by rw[<-hXd];rfl
 have hX'xe:X'.xe=fun _ _=>False:=by rw[<-hXd];rfl
 have hX'A:X'.A=X.A:=by rw[<-hXd];rfl
 have hX'P:X'.prog=X.prog:=by rw[<-hXd];rfl
 have hX'w:X'.w=X.w:=by rw[<-hXd];rfl
 have hX'K:X'.K=X.K:=by rw[<-hXd];rfl
 have hX'calm:X'.calm=true:=by rw[<-hXd];exact hc
 have hX'env:X'.env=compEnvC scope (A9 X.env scope.names []) HH.objs.size X.env:=by rw[<-hXd];rfl
 have I':g9 X' [] (ap0 nl fr σ) H2 {s2 with heap:=h1,toks:=s2.toks+([]:List (Str×Value)).length}:=by
   refine ⟨ok',by rw[hX's0],I2.bare,?_,?_,fun x c e=> ?_,?_,fun x c e=> ?_,fun p hp=> ?_,?_,?_⟩
   · rw[hX'fs,hX'ex,hX'H0,hX's0];exact Un.kept old
   · obtain ⟨m,hn,hl⟩:=I2.loc;rw[hX'd];refine ⟨_,hns1,fun i x v e1 e2 e3=> ?_⟩
     have hN':N[i]? =some x:=by rw[<-hXd] at e1;exact e1
     unfold ap0 at e2
     have hi:¬i < nl:=fun hlt=>by
       rw[cx3 (by simpa using hlt),dh8,if_pos hlt] at e2;cases e2
     rw[cx2 (by simpa using hi),df2,ct8] at e2
     cases ej:fr[i - nl]? with
     |none=>rw[ej] at e2;cases e2
     |some j=>
      rw[ej] at e2;obtain ⟨y,y1,y2,y3,y4⟩:=ok.fr (i - nl) j ej
      have hii:nl+(i - nl)=i:=by omega
      rw[hii,hN'] at y1;have hxy:x=y:=Option.some.inj y1;subst hxy;have e2':(σ[j]?).join=some v:=Option.some.inj e2
      have e2'':σ[j]? =some (some v):=by
        cases hσ:σ[j]? with
        |none=>rw[hσ] at e2';cases e2'
        |some z=>rw[hσ] at e2';exact congrArg some e2'
      obtain ⟨u,r,l⟩:=hl j x v y2 e2'' y3;have hkX:=ok.free (x,.free) (PySem.mem_of_lookup y4) rfl;refine ⟨u,r,.inr ⟨?_,?_⟩⟩
      · rw[hX'env]
        rcases R5 (env:=X.env) y4 with z|z
        · exact .inl z
        · exact .inr z
      · rcases l with ⟨k1,_⟩|⟨_,c,ec,hcell⟩
        · rcases hkX with z|z
          · rw[z] at k1;cases k1
          · rw[z] at k1;cases k1
        · obtain ⟨c',ec'⟩:=ac1 X.env scope.names [] (x,.free) (PySem.mem_of_lookup y4) rfl
          have:c'=c:=by
            have q:=cellsSub x c' ec';rw[ec] at q;exact (Option.some.inj q).symm
          subst this;refine ⟨c',by rw[hX'c];exact ec',?_⟩;obtain ⟨oc,ho,hd⟩:=hcell;exact ⟨oc,old _ _ ho,hd⟩
   · rw[hX'c] at e;obtain ⟨v,oc,ho,hd⟩:=I2.cell x c (cellsSub x c e);exact ⟨v,oc,old _ _ ho,hd⟩
   · rw[hX'd];exact I2.hok.fresh hCle
   · rw[hX'c] at e;exact I2.freeC x c (cellsSub x c e)
   · rw[hX'pn] at hp;simp at hp
   · rw[hX'P,hX'w];exact I2.hok.kept old
   · unfold ap0
     have:X'.N=N:=by rw[<-hXd];rfl
     rw[this,ok.len,ct6,df2,ct1]
 have Dn:∀{H':Hp} {pins'} {s':Shared} {σ'},g9 X' pins' σ' H' s'->H' s2.heap.objs.size=none->∀o,s'.heap.get? s2.heap.objs.size=some o->(∀v,o.data≠.cell v)->g9 X' [(s2.heap.objs.size,o)] σ' H' s':=fun {H' pins' s' σ'} I3 hD o ho hnc=>
   I3.pins_of fun p hp=>by
     have e:p=(s2.heap.objs.size,o):=by simpa using hp
     subst e;refine ⟨ho,hD,by rw[hX'd];exact hDC,?_,hnc⟩;rw[hX'fs];intro hb
     rcases cv5.mp (I2.stkSub _ hb) with z|z
     · exact absurd (z▸I2.lt) (da3 _)
     · exact I2.nofs (ct4 _) z
 have loop:∀s₃:Shared,s₃={s2 with heap:=h1,toks:=s2.toks+([]:List (Str×Value)).length}->
     codeAny (model X.prog X.w) X.A (.compLoop (.ListComp elt [⟨tg,iter,ifs,0⟩] scope pos) 0 (.ref it) (.ref s2.heap.objs.size) (compEnvC scope (A9 X.env scope.names []) HH.objs.size X.env)) (RR (.ref s2.heap.objs.size) HH.objs.size) s₃:=by
   rintro s₃ rfl
   refine ba3 (fun n s'=>∃(i:Nat) (σ':St) (H':Hp) (ys:List V) (its:List Value) (k:Nat),g9 X' [(s2.heap.objs.size,{cls:= .type "list",data:= .seq its.toArray k})] σ' H' s'/\j8 ys its/\ys.length<=sizeLine/\tn i s'.heap/\(∀b∈fp,H' b=none)/\W i n ys σ' H')
     ?_ m0 ⟨0,_,H2,[],[],0,Dn I' (I2.hok.fresh (ct4 _)) _ hacc (fun v z=>by cases z),.nil,cv9 _,T.keep 0 _ _ st2 fun b hb o e=>old b o e,fun b hb=>(f2 b hb).1,w0⟩
   rintro n s3 ⟨i,σ3,H3,ys,its,k,I3,rv,hyl,st3,fr3,w3⟩;have pinD:=I3.pin (s2.heap.objs.size,{cls:= .type "list",data:= .seq its.toArray k}) (by rw[hX'pn];exact cu7 _ ct7)
   have stat:∀{o:Obj} {H':Hp},(∀b∈fp,H' b=none)->∀b∈fp,af0 X' [(s2.heap.objs.size,o)] H' b:=fun {o H'} hn b hb=>by
     refine ⟨hn b hb,by rw[hX'd];exact (below b (fplt b hb)).1,fun z=>ok'.exfs b (by rw[hX'ex];exact hb) z,.inl (by rw[hX'ex];exact hb),fun x c e=>by rw[hX'c] at e;exact (f2 b hb).2.2.2.2.1 x c (cellsSub x c e),fun p hp=> ?_⟩;rw[hX'pn] at hp
     have e:p=(s2.heap.objs.size,o):=by simpa using hp
     subst e
     exact fun z=>(below b (fplt b hb)).2 z.symm
   rcases turn i n ys σ3 H3 w3 with ⟨stop,qn⟩|⟨go,Nx,hNx,step⟩
   · have dn:=T.done X' hX'P hX'w hX'K hX'calm i _ s3 σ3 H3 (fun _ _=>False) I3 (stat fr3) st3 stop;rw[hX'A] at dn
     refine n9 dn fun r s4 ⟨hr,I4⟩=> ?_
     subst hr;have pinE:=I4.pin (s2.heap.objs.size,{cls:= .type "list",data:= .seq its.toArray k}) (by rw[hX'pn];exact cu7 _ ct7)
     have ub:Un (B8 X.stack) fp H2 H3 s2.heap s4.heap:=by
       have:=I4.base;rw[hX'fs,hX'ex,hX'H0,hX's0] at this;exact this
     have hok4:D2 X.prog X.w H3 s4.heap:=by have:=I4.hok;rw[hX'P,hX'w] at this;exact this
     have nD:∀b u,H3 b=some u->b≠s2.heap.objs.size:=fun b u e z=>by rw[z,pinE.2.1] at e;cases e
     have u2:Un (B8 X.stack) fp H2 (c8 H3 s2.heap.objs.size (.lst ys)) s2.heap s4.heap:=
       ⟨ub.keep,ub.slot,fun b o e n' hx=>by rw[g8 (cw4 (Heap.lt_size e))];exact ub.free b o e n' hx,ub.there,
         fun b xs e=>by have:=ub.tups b xs e;rw[g8 (nD b _ this)];exact this,fun b o u e=>by have:=ub.frzs b o u e;rw[g8 (nD b _ this)];exact this,
         fun b ps e=>by obtain ⟨more,z⟩:=ub.tbls b ps e;exact ⟨more,by rw[g8 (nD b _ z)];exact z⟩⟩
     have I5:g9 X pins σ (c8 H3 s2.heap.objs.size (.lst ys)) s4:=by
       refine I2.call' (by rw[I4.os,hX's0]) u2 ?_ I4.bare fun b hb=>⟨(f2 b hb).2.2.2.1,(f2 b hb).2.1,(f2 b hb).2.2.2.2.1,(f2 b hb).2.2.2.2.2⟩
       exact D2.track hok4 pinE.2.1 ⟨hyl,its,k,rv,pinE.1⟩
     refine hRR _ _ s4 _ I5 (qn _ pinE.2.1) (I2.fpOk hCle ?_) ?_
     · rw[g8 (Ne.symm hDC)];have:=I4.free;rw[hX'd] at this;exact this
     · obtain ⟨m,hn,_⟩:=I4.loc;rw[hX'd] at hn;exact ⟨m,hn⟩
   · have im:=T.item X' hX'P hX'w hX'K hX'calm i _ s3 σ3 H3 (fun _ _=>False) I3 (stat fr3) st3 go;rw[hX'A] at im
     refine n9 im fun r s4 ⟨u,hr,h4⟩=> ?_
     subst hr
     refine n9 h4 fun _ s5 ⟨x,H5,I5,r5,y5,st5,fr5⟩=> ?_
     have I5':=I5.pinned (stat fr5) (T.obj _ _ st5);have gg:=hg (A9 X.env scope.names []) HH.objs.size s2 H2 fp;rw[hXd] at gg;have gg:=gg _ s5 σ3 H5 x u _ I5' r5 (step x H5 y5);rw[hX'A,hX'P,hX'w,hX'xe,hX'env] at gg
     refine n9 gg fun _ s6 ⟨σ6,H6,I6,q6⟩=> ?_
     have tt:=ht (A9 X.env scope.names []) HH.objs.size s2 H2 fp;rw[hXd] at tt;have tt:=tt _ s6 σ6 H6 _ I6 q6;rw[hX'A,hX'P,hX'w,hX'xe,hX'env] at tt
     refine n9 tt fun ok7 s7 ⟨H7,I7,q7⟩=> ?_
     have again:∀{s8:Shared} {σ8:St} {H8:Hp} {ys8:List V} {its8:List Value} {k8:Nat},g9 X' ([(s2.heap.objs.size,{cls:= .type "list",data:= .seq its8.toArray k8})]++W7 fp s5.heap) σ8 H8 s8->j8 ys8 its8->ys8.length<=sizeLine->Nx ys8 σ8 H8->
         ∃m,m < n/\∃(i:Nat) (σ':St) (H':Hp) (ys:List V) (its:List Value) (k:Nat),g9 X' [(s2.heap.objs.size,{cls:= .type "list",data:= .seq its.toArray k})] σ' H' s8/\j8 ys its/\ys.length<=sizeLine/\tn i s8.heap/\(∀b∈fp,H' b=none)/\W i m ys σ' H':=
       fun {s8 σ8 H8 ys8 its8 k8} I8 rv8 hl8 n8=>by
         obtain ⟨m',hm,w8⟩:=hNx ys8 σ8 H8 n8;refine ⟨m',hm,i+1,σ8,H8,ys8,its8,k8,I8.unpinned,rv8,hl8,T.keep _ _ _ st5 fun b hb o e=>(I8.pin (b,o) (cu7 _ (cu7 _ (U9 hb e)))).1,fun b hb=> ?_,w8⟩;obtain ⟨o,e,d⟩:=T.obj _ _ st5 b hb;exact (I8.pin (b,o) (cu7 _ (cu7 _ (U9 hb e)))).2.1
     cases ok7 with
     |false=>
      rw[if_neg cu8] at q7 ⊢;exact again I7 rv hyl q7
     |true=>
      rw[if_pos rfl] at q7 ⊢;have ee:=he (A9 X.env scope.names []) HH.objs.size s2 H2 fp;rw[hXd] at ee;have ee:=ee _ s7 σ6 H7 _ I7 q7;rw[hX'A,hX'P,hX'w,hX'xe,hX'env] at ee
      refine n9 ee fun yv s8 ⟨y,H8,I8,r8,hyl8,q8⟩=> ?_
      have pin8:=I8.pin (s2.heap.objs.size,{cls:= .type "list",data:= .seq its.toArray k}) (cu7 _ (cx6 _ ct7));refine wpAny_list_append_plain (items:=its.toArray) ⟨k,pin8.1⟩ (fun h9 hp9 hs9=> ?_) (by rw[cu1,<-rv.length];exact hyl);obtain ⟨k9,e9⟩:=hp9
      have I9:g9 X' (W7 fp s5.heap) σ6 H8 s8:=I8.pins_of fun p hp=>I8.pin p (cu7 _ (cu7 _ hp))
      have I9':g9 X' (W7 fp s5.heap) σ6 H8 {s8 with heap:=h9,toks:=s8.toks}:=by
        refine I9.turned (t':=s8.toks) (it:=s2.heap.objs.size) (fun b o hb e=>hs9.extBut b o hb e) pin8.2.1 (by rw[hX'd];exact hDC) (.inr (by rw[hX's0];exact ct4 _)) (fun x c e z=> ?_) fun p hp z=> ?_
        · rw[hX'c] at e;exact absurd (z▸cellLt x c (cellsSub x c e)) (da3 _)
        · rw[hX'pn] at hp;obtain ⟨hb,_⟩:=au9 (by simpa using hp);exact absurd (z▸fplt _ hb) (da3 _)
      have e9':h9.get? s2.heap.objs.size=some {cls:= .type "list",data:= .seq (its++[yv]).toArray k9}:=by rw[e9];simp
      refine again (ys8:=ys++[y]) (its8:=its++[yv]) (k8:=k9) ?_ (j8.append rv (.cons r8 .nil)) (by rw[ct6];exact hyl8) q8
      refine I9'.pins_of fun p hp=> ?_
      rcases cu5.mp hp with z|z
      · have e:p=(s2.heap.objs.size,{cls:= .type "list",data:= .seq (its++[yv]).toArray k9}):=by simpa using z
        subst e;exact ⟨e9',pin8.2.1,pin8.2.2.1,pin8.2.2.2.1,fun v z=>by cases z⟩
      · exact I9'.pin p (cu7 _ z)
 exact codeAny_compStart_list (loop _ rfl) (T.self X.A 0 _ _ _ (T.keep 0 _ _ st2 fun b hb o e=>old b o e) (loop _ rfl))
end
end L2
namespace L2
open PySem PySem.Spec PyProof.Rows
section
variable {X:Cx}
theorem aj8 {elt tg iter:Expr}{ifs:List Expr}{scope:Scope}{pos:Pos}{wi:TI}{g:TG}{tc:TT}{te:TE}{N:List Str}{nl:Nat}{fr:List Nat}
   (hc:X.calm=true) (ok:af7 X N nl fr scope) (hi:PI X tg iter wi) (hg:∀cl C s0 H0 ex,PG (O1 X N scope cl C s0 H0 ex) tg g) (ht:∀cl C s0 H0 ex,ba1 (O1 X N scope cl C s0 H0 ex) ifs tc)
   (he:∀cl C s0 H0 ex,PE (O1 X N scope cl C s0 H0 ex) elt te) (hs:∀x,foldedSetIterable iter X.env x=pure x:=by intro _;rfl):
   PE X (.ListComp elt [⟨tg,iter,ifs,0⟩] scope pos) (bk5 nl fr wi g tc te):=by
 intro pins s σ H Q I h
 have hclos:closureFor scope X.env=pure (A9 X.env scope.names []):=ae4 fun p hp hf=>I.ok.has p.1 (ok.free p hp hf)
 rw[eval_ListComp];refine wpAny_comprehension_free (use:=none) rfl hs hclos ok.kind ok.names (av7 (RR:=fun acc C=>compPost (model X.prog X.w) X.A X.xe none (EP X pins σ Q) acc C) hc hi hg ht he ok I h ?_);intro D C s' H' I' q f ⟨m,hn⟩;exact ⟨m,hn,fun h' hs'=>⟨.ref D,H',I'.turned (t':=s'.toks) (fun b o hb e=>hs'.extBut b o hb e) f.1 f.2.1 f.2.2.2.1 f.2.2.2.2.1 f.2.2.2.2.2,rfl,q⟩⟩
theorem as5 {i:Nat}{y:Str}{py spos:Pos}{elt tg iter:Expr}{ifs:List Expr}{scope:Scope}{pos:Pos}{wi:TI}{g:TG}{tc:TT}{te:TE}{N:List Str}{nl:Nat}{fr:List Nat}
   (hN:X.N.Nodup) (hi':X.N[i]? =some y) (hx:Loc X.env.scope y)
   (hc:X.calm=true) (ok:af7 X N nl fr scope) (hi:PI X tg iter wi) (hg:∀cl C s0 H0 ex,PG (O1 X N scope cl C s0 H0 ex) tg g) (ht:∀cl C s0 H0 ex,ba1 (O1 X N scope cl C s0 H0 ex) ifs tc)
   (he:∀cl C s0 H0 ex,PE (O1 X N scope cl C s0 H0 ex) elt te) (hsw:swapsWith (.ListComp elt [⟨tg,iter,ifs,0⟩] scope pos) (some (.Name y py)) spos.line X.env=pure true:=by rfl)
   (hs:∀x,foldedSetIterable iter X.env x=pure x:=by intro _;rfl)
   (hf:X.fn y=true\/X.env.scope.names.lookup y=some .local:=by first|exact .inl rfl|exact .inr rfl|assumption):
   PS X (.Assign [.Name y py] (.ListComp elt [⟨tg,iter,ifs,0⟩] scope pos) spos) (bv3 (bk5 nl fr wi g tc te) (bj8 i)):=by
 intro pins s σ H Dn I h
 have hclos:closureFor scope X.env=pure (A9 X.env scope.names []):=ae4 fun p hp hf=>I.ok.has p.1 (ok.free p hp hf)
 rw[exec_Assign_Name_used _ _ _ _ hsw];refine wpAny_bind (wpAny_standAt (wpAny_bind ?_));show wpAny _ X.A (do let _ <-comprehension (.ListComp elt [⟨tg,iter,ifs,0⟩] scope pos) scope X.env _ (newList []) false (eval iter X.env) (some (assign (.Name y py) X.env))) _ _ s
 refine wpAny_bind (wpAny_mono (wpAny_comprehension_free (use:=some (assign (.Name y py) X.env)) (Q:=fun _ s'=>SP X pins Dn .next s') rfl hs hclos ok.kind ok.names
   (av7 (RR:=fun acc C=>compPost (model X.prog X.w) X.A X.xe (some (assign (.Name y py) X.env)) (fun _ s'=>SP X pins Dn .next s') acc C) hc hi hg ht he ok I h ?_)) (fun _ s' hq=>wpAny_pure (wpAny_pure hq)) fun _ _ e=>e)
 intro D C s' H' I' q f ⟨m,hn⟩;show wpAny _ X.A (assign (.Name y py) X.env (.ref D)) _ _ _;refine wpAny_assign_Name (au6 I' hN hi' hx (v:= .ref D) rfl (fun s2 I2 ⟨a,sb,ha⟩=> ?_) hf)
 have hCa:C≠a:=by
   rcases ha with z|z
   · rw[z];exact f.2.1
   · exact fun e=>f.2.2.2.2.1 _ _ z e.symm
 exact ⟨m,hn.sameBut sb hCa,fun h' hs'=>⟨_,H',I2.turned (t':=s2.toks) (fun b o hb e=>hs'.extBut b o hb e) f.1 f.2.1 f.2.2.2.1 f.2.2.2.2.1 f.2.2.2.2.2,q⟩⟩
theorem Z1 {K:PySem.W.Frag}{a:Addr}{xs:List V}{g:TG}{tc:TT}{te:TE}{σ0:St}{H:Hp}{Q:VK}(Pv:Nat->List V->St->Hp->Prop)(h0:Pv 0 [] σ0 H)(hl:∀i ys σ H,i<=xs.length->Pv i ys σ H->i4 K H a xs)
   (hs:∀i x ys σ H,xs[i]? =some x->Pv i ys σ H->g x σ H fun σ2 H2=>tc σ2 H2 fun b H4=>if b=true then te σ2 H4 fun y H5=>ys.length < sizeLine/\Pv (i+1) (ys++[y]) σ2 H5 else Pv (i+1) ys σ2 H4)
   (hd:∀ys σ H,Pv xs.length ys σ H->∀D,H D=none->Q (.ref D) (c8 H D (.lst ys))):
   ap2 (Itl K a) g tc te Q σ0 H:=by
 refine ⟨fun i m ys σ H=>m=xs.length - i/\i<=xs.length/\Pv i ys σ H,⟨xs.length,by simp,cv9 _,h0⟩,?_⟩;rintro i m ys σ H ⟨rfl,hi,p⟩;have q:=hl i ys σ H hi p
 by_cases hlt:i < xs.length
 · refine .inr ⟨⟨xs,xs[i],q,by simp [hlt]⟩,Pv (i+1),fun ys' σ' H' p'=>⟨xs.length - (i+1),by omega,rfl,hlt,p'⟩,fun x H' y=> ?_⟩;obtain ⟨e,y⟩:=y;subst e;exact hs i x ys σ _ (y xs q) p
 · have e:i=xs.length:=by omega
   subst e;exact .inl ⟨⟨xs,q,ct4 _⟩,hd ys σ H p⟩
theorem bk6 {lo:Int}{n:Nat}{g:TG}{tc:TT}{te:TE}{σ0:St}{H:Hp}{Q:VK}(Pv:Nat->List V->St->Hp->Prop)(h0:Pv 0 [] σ0 H)
   (hs:∀i ys σ H,i < n->Pv i ys σ H->g (.int (lo+i)) σ H fun σ2 H2=>tc σ2 H2 fun b H4=>if b=true then te σ2 H4 fun y H5=>ys.length < sizeLine/\Pv (i+1) (ys++[y]) σ2 H5 else Pv (i+1) ys σ2 H4)
   (hd:∀ys σ H,Pv n ys σ H->∀D,H D=none->Q (.ref D) (c8 H D (.lst ys))):
   ap2 (Itr lo n) g tc te Q σ0 H:=by
 refine ⟨fun i m ys σ H=>m=n - i/\i<=n/\Pv i ys σ H,⟨n,by simp,cv9 _,h0⟩,?_⟩;rintro i m ys σ H ⟨rfl,hi,p⟩
 by_cases hlt:i < n
 · refine .inr ⟨hlt,Pv (i+1),fun ys' σ' H' p'=>⟨n - (i+1),by omega,rfl,hlt,p'⟩,fun x H' y=> ?_⟩;obtain ⟨e,y⟩:=y;subst e y;exact hs i ys σ _ hlt p
 · have e:i=n:=by omega
   subst e;exact .inl ⟨ct4 _,hd ys σ H p⟩
inductive EqD (K:PySem.W.Frag)(H:Hp):Nat->V->V->Bool->Prop where
 |flat {n:Nat} {x y:V}:T4 x=true->T4 y=true->EqD K H n x y (eqV x y)
 |same {n:Nat} (a:Addr):EqD K H n (.ref a) (.ref a) true
 |lists {n:Nat} {a b:Addr} {xs ys:List V} (e:Nat->Bool):a≠b->i4 K H a xs->i4 K H b ys->xs.length=ys.length->(∀(j:Nat) x y,xs[j]? =some x->ys[j]? =some y->EqD K H n x y (e j))->EqD K H (n+1) (.ref a) (.ref b) ((cw9 xs.length).all e)
 |lens {n:Nat} {a b:Addr} {xs ys:List V}:a≠b->i4 K H a xs->i4 K H b ys->xs.length≠ys.length->EqD K H (n+1) (.ref a) (.ref b) false
theorem bp9 {pins:List (Addr×Obj)}{σ:St}{H:Hp}{s:Shared}(I:g9 X pins σ H s){n:Nat}{x y:V}{b:Bool}(d:EqD X.K H n x y b):
   ∀{A:Around} {u v:Value},A.units+n < cLine->l9 x u->l9 y v->SeqAt.EqAt A s u v b:=by
 induction d with
 |flat fx fy=>intro A u v _ rx ry;exact bo8 rx ry fx fy
 |same a=>intro A u v _ rx ry;cases rx;cases ry;exact SeqAt.EqAt.same _
 |@lists n a c xs ys e ne ha hb hl _ ih=>
  intro A u v hu rx ry;cases rx;cases ry;obtain ⟨its,r1,p1,_⟩:=I.list ha;obtain ⟨its2,r2,p2,_⟩:=I.list hb;have l1:=r1.length;have l2:=r2.length;refine SeqAt.EqAt.of_refs ne ?_
  have q:=SeqAt.RcAt.lists (A:=A) (e:=e) p1.isList p2.isList (by rw[cu1,cu1];omega) (by omega) (fun j h1 h2=>by
    have h1':j < its.length:=by simpa using h1
    have h2':j < its2.length:=by simpa using h2
    have e1:xs[j]? =some (xs[j]'(by omega)):=ct2 _;have e2:ys[j]? =some (ys[j]'(by omega)):=ct2 _;obtain ⟨u1,z1,q1⟩:=r1.get e1;obtain ⟨u2,z2,q2⟩:=r2.get e2
    have w1:its.toArray[j]=u1:=by
      rw[ct2 h1'] at z1
      simpa using z1
    have w2:its2.toArray[j]=u2:=by
      rw[ct2 h2'] at z2
      simpa using z2
    rw[w1,w2]
    exact ih j _ _ e1 e2 (by show A.in1.units+n < cLine;have:A.in1.units=A.units+1:=by first|rfl|simp [Around.in1]
                             omega) q1 q2)
  rw[cu1,<-l1] at q;exact q
 |lens ne ha hb hl=>
  intro A u v hu rx ry;cases rx;cases ry;obtain ⟨its,r1,p1,_⟩:=I.list ha;obtain ⟨its2,r2,p2,_⟩:=I.list hb;have l1:=r1.length;have l2:=r2.length;exact SeqAt.EqAt.of_refs ne (SeqAt.RcAt.lists_lengths p1.isList p2.isList (by rw[cu1,cu1];simp;omega) (by omega))
def LEq (K:PySem.W.Frag)(H:Hp)(n:Nat)(xs ys:List V)(r:Bool):Prop:=
 (xs.length≠ys.length/\r=false)\/(∃e:Nat->Bool,xs.length=ys.length/\(∀(j:Nat) x y,xs[j]? =some x->ys[j]? =some y->EqD K H n x y (e j))/\r=(cw9 xs.length).all e)
theorem ci7 {pins:List (Addr×Obj)}{σ:St}{H:Hp}{s:Shared}(I:g9 X pins σ H s){A:Around}{n:Nat}{a b:Addr}{xs ys:List V}{r:Bool}(hu:A.units+n+1 < cLine)(ha:i4 X.K H a xs)(hb:i4 X.K H b ys)(d:LEq X.K H n xs ys r):
   SeqAt.RcAt A s (.ref a) (.ref b) r:=by
 obtain ⟨its,r1,p1,_⟩:=I.list ha;obtain ⟨its2,r2,p2,_⟩:=I.list hb;have l1:=r1.length;have l2:=r2.length
 rcases d with ⟨hl,rfl⟩|⟨e,hl,he,rfl⟩
 · exact SeqAt.RcAt.lists_lengths p1.isList p2.isList (by rw[cu1,cu1];simp;omega) (by omega)
 · have q:=SeqAt.RcAt.lists (A:=A) (e:=e) p1.isList p2.isList (by rw[cu1,cu1];omega) (by omega) (fun j h1 h2=>by
     have h1':j < its.length:=by simpa using h1
     have h2':j < its2.length:=by simpa using h2
     have e1:xs[j]? =some (xs[j]'(by omega)):=ct2 _;have e2:ys[j]? =some (ys[j]'(by omega)):=ct2 _;obtain ⟨u1,z1,q1⟩:=r1.get e1;obtain ⟨u2,z2,q2⟩:=r2.get e2
     have w1:its.toArray[j]=u1:=by
       rw[ct2 h1'] at z1
       simpa using z1
     have w2:its2.toArray[j]=u2:=by
       rw[ct2 h2'] at z2
       simpa using z2
     rw[w1,w2]
     exact bp9 I (he j _ _ e1 e2) (by show A.in1.units+n < cLine;have:A.in1.units=A.units+1:=by first|rfl|simp [Around.in1]
                                      omega) q1 q2)
   rw[cu1,<-l1] at q;exact q
end
end L2
namespace L2
open PySem PySem.Spec PyProof.Rows
section
variable {X:Cx}
theorem bw4 {pins:List (Addr×Obj)}{σ:St}{H:Hp}{s:Shared}(I:g9 X pins σ H s){A:Around}{n:Nat}{a b:Addr}{xs ys:List V}{r:Bool}(hu:A.units+n+1 < cLine)(ha:i4 X.K H a xs)(hb:i4 X.K H b ys)(d:LEq X.K H n xs ys r):
   SeqAt.RcNeAt A s (.ref a) (.ref b) (!r):=by
 obtain ⟨its,r1,p1,_⟩:=I.list ha;obtain ⟨its2,r2,p2,_⟩:=I.list hb;have l1:=r1.length;have l2:=r2.length
 rcases d with ⟨hl,rfl⟩|⟨e,hl,he,rfl⟩
 · exact SeqAt.RcNeAt.lists_lengths p1.isList p2.isList (by rw[cu1,cu1];simp;omega) (by omega)
 · have q:=SeqAt.RcNeAt.lists (A:=A) (e:=e) p1.isList p2.isList (by rw[cu1,cu1];omega) (by omega) (fun j h1 h2=>by
     have h1':j < its.length:=by simpa using h1
     have h2':j < its2.length:=by simpa using h2
     have e1:xs[j]? =some (xs[j]'(by omega)):=ct2 _;have e2:ys[j]? =some (ys[j]'(by omega)):=ct2 _;obtain ⟨u1,z1,q1⟩:=r1.get e1;obtain ⟨u2,z2,q2⟩:=r2.get e2
     have w1:its.toArray[j]=u1:=by
       rw[ct2 h1'] at z1
       simpa using z1
     have w2:its2.toArray[j]=u2:=by
       rw[ct2 h2'] at z2
       simpa using z2
     rw[w1,w2]
     exact bp9 I (he j _ _ e1 e2) (by show A.in1.units+n < cLine;have:A.in1.units=A.units+1:=by first|rfl|simp [Around.in1]
                                      omega) q1 q2)
   rw[cu1,<-l1] at q;exact q
def bw5 (K:PySem.W.Frag)(n:Nat)(neg:Bool):R2:=fun x y H Q=>∃a b xs ys r,x= .ref a/\y= .ref b/\i4 K H a xs/\i4 K H b ys/\LEq K H n xs ys r/\Q (.bl (if neg then !r else r)) H
theorem bq0 (n:Nat)(hu:X.A.units+n+1 < cLine):J6 X (compareOp .Eq) (bw5 X.K n false):=by
 intro pins s σ H x y v u Q I rx ry h;obtain ⟨a,b,xs,ys,r,rfl,rfl,ha,hb,d,q⟩:=h;cases rx;cases ry;exact ci7 I hu ha hb d _ _ _ _ ⟨.bl r,H,I,rfl,q⟩
theorem aa9 (n:Nat)(hu:X.A.units+n+1 < cLine):J6 X (compareOp .NotEq) (bw5 X.K n true):=by
 intro pins s σ H x y v u Q I rx ry h;obtain ⟨a,b,xs,ys,r,rfl,rfl,ha,hb,d,q⟩:=h;cases rx;cases ry;exact bw4 I hu ha hb d _ _ _ _ ⟨.bl (!r),H,I,rfl,q⟩
theorem ae6 {n:Nat}{e:Nat->Bool}:(cw9 n).all e=true↔∀j,j < n->e j=true:=by
 rw[db1];exact ⟨fun h j hj=>h j (cy9.mpr hj),fun h j hj=>h j (cy9.mp hj)⟩
theorem S3 (K:PySem.W.Frag)(H:Hp)(n:Nat)(ns ms:List Int):LEq K H n (ns.map V.int) (ms.map V.int) (decide (ns=ms)):=by
 by_cases hl:ns.length=ms.length
 · refine .inr ⟨fun j=>decide (ns[j]? =ms[j]?),by simpa using hl,fun j x y e1 e2=> ?_,?_⟩
   · rw[ct8] at e1 e2
     cases h1:ns[j]? with
     |none=>rw[h1] at e1;cases e1
     |some a=>
      cases h2:ms[j]? with
      |none=>rw[h2] at e2;cases e2
      |some b=>
       rw[h1] at e1;rw[h2] at e2;cases e1;cases e2;have q:EqD K H n (V.int a) (V.int b) (eqV (V.int a) (V.int b)):= .flat rfl rfl
       have e:eqV (V.int a) (V.int b)=decide (some a=some b):=by
         show (a==b)=_
         by_cases z:a=b
         · subst z;simp
         · rw[decide_eq_false (fun w=>z (Option.some.inj w))];simpa using z
       rw[e] at q;show EqD K H n _ _ (decide (ns[j]? =ms[j]?));rw[h1,h2];exact q
   · rw[dc7,decide_eq_true_iff,ae6];constructor
     · intro h j _;subst h;simp
     · intro h
       refine cx8 fun j=> ?_
       by_cases hj:j < ns.length
       · exact of_decide_eq_true (h j (by simpa using hj))
       · rw[cu4 (by omega),cu4 (by omega)]
 · refine .inl ⟨by simpa using hl,?_⟩
   exact decide_eq_false fun h=>hl (by rw[h])
theorem bf7:N3 X (.type "range") (fun xs H Q=>∃j,xs=[.int j]/\∀p,H p=none->Q (.ref p) (c8 H p (.rng 0 j))):=by
 intro pins s σ H xs us Q I r h;obtain ⟨j,rfl,q⟩:=h;obtain ⟨u,rfl,⟨t,rfl⟩⟩:=Y8 r;refine call_range_1 ⟨.ref s.heap.objs.size,_,I.laid (fun b o e=>Heap.get?_push_of_some _ e) (ct4 _) ?_,rfl,q _ (I.hok.fresh (ct4 _))⟩;exact ⟨_,_,_,Heap.get?_push_size _ rfl⟩
def D6 (lo:Int)(n:Nat):List Int:=(cw9 n).map fun (i:Nat)=>lo+(i:Int)
theorem bk7 {lo:Int}{n:Nat}{acc:Array Value}(h:ItemsOf (fun i v=>∃t,v=Value.int (lo+(i:Int)*1) t) acc n):j8 ((D6 lo n).map V.int) acc.toList:=by
 obtain ⟨hs,hv⟩:=h
 have key:∀(l:List Value) (k:Nat),(∀(j:Nat) v,l[j]? =some v->∃t,v=Value.int (lo+((k+j:Nat):Int)) t)->j8 (((cw9 l.length).map fun (i:Nat)=>lo+((k+i:Nat):Int)).map V.int) l:=by
   intro l
   induction l with
   |nil=>intro k _;exact .nil
   |cons v r ih=>
    intro k hk
    have e:(((cw9 r.length).map Nat.succ).map fun (i:Nat)=>lo+((k+i:Nat):Int))=(cw9 r.length).map fun (i:Nat)=>lo+((k+1+i:Nat):Int):=by
      rw[cy6]
      refine cy7 fun i _=> ?_
      show lo+((k+(i+1):Nat):Int)=_
      congr 2;omega
    rw[cv7,List.range_succ_eq_map,cy4,cy4,e];refine .cons ?_ ?_
    · obtain ⟨t,e⟩:=hk 0 v rfl;exact ⟨t,e⟩
    · have:=ih (k+1) fun j w e=>by
        obtain ⟨t,z⟩:=hk (j+1) w (by simpa using e);exact ⟨t,by rw[z];congr 2;omega⟩
      exact this
 have:=key acc.toList 0 fun j v e=>by
   obtain ⟨t,z⟩:=hv j v (by simpa using e);exact ⟨t,by rw[z,Int.mul_one];simp⟩
 have hl:acc.toList.length=n:=by simpa using hs
 rw[hl] at this
 have e:((cw9 n).map fun (i:Nat)=>lo+((0+i:Nat):Int))=D6 lo n:=by
   unfold D6
   refine cy7 fun i _=> ?_
   simp
 rw[e] at this;exact this
theorem ax3 (hc:X.calm=true):N3 X (.type "list") (fun xs H Q=>∃p lo hi,xs=[.ref p]/\H p=some (.rng lo hi)/\(-(2^62)<=lo/\lo < 2^62/\ -(2^62)<=hi/\hi < 2^62)/\(hi - lo).toNat<=2^20/\
   ∀l,H l=none->Q (.ref l) (c8 H l (.lst ((D6 lo (hi - lo).toNat).map V.int)))):=by
 intro pins s σ H xs us Q I r h;obtain ⟨p,lo,hi,rfl,hp,⟨b1,b2,b3,b4⟩,hz,q⟩:=h;obtain ⟨u,rfl,rx⟩:=Y8 r;cases rx;obtain ⟨t,u,v,ho⟩:=I.hok p _ hp
 refine call_list_range (n:=(hi - lo).toNat) (I.ok.hd hc) (r:=p) ho (small_one b1 b2 b3 b4) (by rw[rangeSize_one];split<;>omega) (cw7 hz (by decide)) fun h' tk acc' c' hk e it=> ?_
 have rv:=bk7 it;refine ⟨.ref s.heap.objs.size,_,I.laid hk (ct4 _) (show w4 X.prog X.w _ h' _ (.lst ((D6 lo (hi - lo).toNat).map V.int)) from ⟨?_,acc'.toList,c',rv,by rw[e]⟩),rfl,q _ (I.hok.fresh (ct4 _))⟩;unfold D6;rw[ct1,ct1,cx9];exact cw7 hz (by rw[sizeLine_eq];decide)
theorem bq1 (hc:X.calm=true):N3 X (.builtin "sum") (fun xs H Q=>∃(p:Addr) (ns:List Int),xs=[.ref p]/\i4 X.K H p (ns.map V.int)/\Q (.int ns.sum) H):=by
 intro pins s σ H xs us Q I r h;obtain ⟨p,ns,rfl,hp,q⟩:=h;obtain ⟨u,rfl,rx⟩:=Y8 r;cases rx;obtain ⟨its,rv,pl,_⟩:=I.list hp;have ia:=V2 rv;obtain ⟨xs,hxs⟩:=ia.allInts.items;have hn:=ia.numsOf
 have hxl:its=(intItems xs).toList:=by rw[<-hxs]
 rw[hxl,nums_intItems] at hn;have hl:=pl.isList;rw[hxs] at hl
 refine sum_intListG (I.ok.hd hc) hl fun h' tk t' hk=>⟨.int ns.sum,H,I.kept hk,?_,q⟩
 rw[preSum_eq,cz2 (by simp),hn];exact ⟨_,rfl⟩
end
end L2
namespace L2
open PySem PySem.Spec PyProof.Rows
section
variable {X:Cx}
theorem bw6:N3 X (.builtin "isinstance") (fun xs H Q=>∃x n t b,xs=[x,.ty n]/\K5 X.K H x t/\PySem.W.kitOne X.K t (.type n)=some b/\Q (.bl b) H):=by
 intro pins s σ H xs us Q I r h;obtain ⟨x,n,t,b,rfl,ty,e,q⟩:=h;obtain ⟨u,w',rfl,rx,ry⟩:=ao4 r;cases (show w'=Value.type n from ry)
 exact bo6 I rx ty e fun tk=>⟨.bl b,H,I.tok tk,rfl,q⟩
theorem S4 (K:PySem.W.Frag)(n:String):PySem.W.kitOne K (.type n) (.type n)=some true:=by
 unfold PySem.W.kitOne;rw[if_pos (beq_self_eq_true _)]
theorem af8 (K:PySem.W.Frag):PySem.W.kitOne K (.type "int") (.type "bool")=some false:=by
 unfold PySem.W.kitOne PySem.W.kitCls;rw[if_neg (by decide+kernel)];show (if PySem.W.kitMeta "bool"=true then (fastBuiltinMro "int").map (·.contains (Value.type "bool")) else none)=some false;rw[if_pos (by decide+kernel)]
 decide+kernel
theorem bw7:bootBuiltins "int"=some (.type "int"):=by decide+kernel
theorem bq2:bootBuiltins "bool"=some (.type "bool"):=by decide+kernel
theorem ac2:bootBuiltins "list"=some (.type "list"):=by decide+kernel
theorem bf8:bootBuiltins "range"=some (.type "range"):=by decide+kernel
theorem ba4:bootBuiltins "isinstance"=some (.builtin "isinstance"):=by decide+kernel
theorem bq3:bootBuiltins "sum"=some (.builtin "sum"):=by decide+kernel
theorem bq4:bootBuiltins "min"=some (.builtin "min"):=by decide+kernel
theorem bq5:bootBuiltins "max"=some (.builtin "max"):=by decide+kernel
end
def i7 (a:Addr)(H H':Hp):Prop:=∀b o,H b=some o->b≠a->H' b=some o
theorem i7.refl (a:Addr)(H:Hp):i7 a H H:=fun _ _ h _=>h
theorem i7.trans {a:Addr}{H H1 H2:Hp}(x:i7 a H H1)(y:i7 a H1 H2):i7 a H H2:=fun b o h n=>y b o (x b o h n) n
theorem c9.but {H H':Hp}(a:Addr)(s:c9 H H'):i7 a H H':=fun b o h _=>s b o h
theorem c9.upd_new {H:Hp}{p:Addr}{o:HO}(h:H p=none):c9 H (c8 H p o):=fun b u e=>by rw[g8 (h7 e h)];exact e
theorem i7.upd {H:Hp}{a:Addr}{o:HO}:i7 a H (c8 H a o):=fun b u e n=>by rw[g8 n];exact e
theorem c9.upd_r {H H':Hp}{p:Addr}{o:HO}(s:c9 H H')(h:H p=none):c9 H (L2.c8 H' p o):=fun b u e=>by rw[g8 (h7 e h)];exact s b u e
theorem i7.upd_r {a:Addr}{H H':Hp}{p:Addr}{o:HO}(k:i7 a H H')(h:H p=none):i7 a H (L2.c8 H' p o):=fun b u e n=>by rw[g8 (h7 e h)];exact k b u e n
theorem i7.upd_a {a:Addr}{H H':Hp}{o:HO}(k:i7 a H H'):i7 a H (L2.c8 H' a o):=fun b u e n=>by rw[g8 n];exact k b u e n
def x9 (H:Hp)(a:Addr)(c:Nat):Prop:=∃x y z:Int,H a=some (.lst [.int x,.int y,.int z])/\0<=z/\z<=c
theorem x9.mono {H:Hp}{a:Addr}{c d:Nat}(h:x9 H a c)(e:c<=d):x9 H a d:=by
 obtain ⟨x,y,z,h1,h2,h3⟩:=h;exact ⟨x,y,z,h1,h2,by omega⟩
end L2
namespace L2
open PySem PySem.Spec PyProof.Rows
def r6 (P:Program)(w:World)(K:PySem.W.Frag)(mg:Str->Option Value)(base:Heap)(x:Str)(k:Nat)(ps:List Str)(sp:Sp):Prop:=
 ∃(f:Addr) (fd:FuncData),mg x=some (.ref f)/\PySem.W.keepIn K (.ref f)=true/\V0 K fd ps []/\m7 P w K mg base E7 k f fd ps sp
section
variable {X:Cx} {x:Str} {p pos:Pos} {e:Expr} {es:List Expr} {t:TA} {k:Nat} {ps:List Str} {sp:Sp}
theorem j6 (c:r6 X.prog X.w X.K X.mg X.base x k ps sp)(hr:m8 k X.A)(ha:PA X (e::es) t)(hg:Gl X x:=by rfl)(hdb:(x==("__debug__":Str))=false:=by decide)
   (he:starEach (e::es) X.env=(false,eval e X.env)::starEach es X.env:=by rfl) (hpl:(backTo pos (starEach es X.env)).any (·.1)=false:=by rfl):
   PE X (.Call (.Name x p) (e::es) [] pos) (ao5 sp [] E0 t):=by
 obtain ⟨f,fd,h1,h2,h3,h4⟩:=c;exact bh2 h4 hr hg h1 h2 h3 .nil cm6 ha hdb he hpl
theorem ab0 {a b:Expr}{ta:TA}(hm:X.mg "isinstance"=none)(ha:PA X [a,b] ta)(hg:Gl X "isinstance":=by rfl)
   (he:starEach [a,b] X.env=(false,eval a X.env)::starEach [b] X.env:=by rfl) (hpl:(backTo pos (starEach [b] X.env)).any (·.1)=false:=by rfl):
   PE X (.Call (.Name "isinstance" p) [a,b] [] pos) (W9 (fun xs H Q=>∃x n t b,xs=[x,.ty n]/\K5 X.K H x t/\PySem.W.kitOne X.K t (.type n)=some b/\Q (.bl b) H) ta):=
 O7 bw6 hg hm ba4 ha (by decide) (by decide) he hpl
theorem bw8 (hm:X.mg "int"=none)(hg:Gl X "int":=by rfl):PE X (.Name "int" p) (tC (.ty "int")):=ai7 hg hm bw7 rfl
theorem bq6 (hm:X.mg "bool"=none)(hg:Gl X "bool":=by rfl):PE X (.Name "bool" p) (tC (.ty "bool")):=ai7 hg hm bq2 rfl
theorem Z2 (hm:X.mg "list"=none)(hg:Gl X "list":=by rfl):PE X (.Name "list" p) (tC (.ty "list")):=ai7 hg hm ac2 rfl
theorem y7 (hm:X.mg "len"=none)(ha:PA X [e] t)(hg:Gl X "len":=by rfl)
   (he:starEach [e] X.env=(false,eval e X.env)::starEach [] X.env:=by rfl):PE X (.Call (.Name "len" p) [e] [] pos) (W9 (fun xs H Q=>∃p ys,xs=[.ref p]/\(i4 X.K H p ys\/Q3 X.K H p ys)/\Q (.int ys.length) H) t):=
 O7 az7 hg hm PySem.boot_len ha (by decide) (by decide) he rfl
end
end L2
namespace Mth
structure A0 (p:List Int):Prop where
 nd:p.Nodup
 lo:∀x∈p,0<=x
 hi:∀x∈p,x < p.length
theorem M5 {n:Nat}{x:Int}:x∈L2.D6 0 n↔0<=x/\x < n:=by
 unfold L2.D6;rw[cu3];constructor
 · rintro ⟨i,hi,rfl⟩;have:=cy9.mp hi;omega
 · rintro ⟨h1,h2⟩;exact ⟨x.toNat,cy9.mpr (by omega),by omega⟩
theorem D1 (lo:Int)(n:Nat):(L2.D6 lo n).length=n:=by
 unfold L2.D6;rw[ct1,cx9]
theorem N5 (n:Nat):(L2.D6 0 n).Nodup:=by
 unfold L2.D6;rw[cv8,da8];exact List.Pairwise.imp (fun {a b} (h:a < b)=>by omega) df1
theorem J2 {p:List Int}{n:Nat}(h:p.Perm (L2.D6 0 n)):A0 p/\p.length=n:=by
 have hl:p.length=n:=by rw[h.length_eq,D1]
 refine ⟨⟨h.nodup_iff.mpr (N5 n),fun x hx=>(M5.mp (h.mem_iff.mp hx)).1,fun x hx=> ?_⟩,hl⟩;have:=(M5.mp (h.mem_iff.mp hx)).2;omega
theorem ax4:∀(n:Nat) (p:List Nat),p.Nodup->(∀x∈p,x < n)->p.length=n->p.Perm (cw9 n):=by
 intro n
 induction n with
 |zero=>intro p _ _ hl;rw[da9 hl];exact List.Perm.refl _
 |succ n ih=>
  intro p nd hb hl
  by_cases hn:n∈p
  · obtain ⟨s,t,rfl⟩:=dg5 hn;have pm:(s++n::t).Perm (n::(s++t)):=List.perm_middle;have nd':=pm.nodup_iff.mp nd;obtain ⟨h1,h2⟩:=cx0.mp nd'
    have:=ih (s++t) h2 (fun x hx=>by
      have hx':x < n+1:=hb x (pm.mem_iff.mpr (ct5 _ hx))
      have:x≠n:=fun e=>h1 (e▸hx)
      omega) (by rw[ct6,cv7] at hl;rw[ct6];omega)
    refine pm.trans ?_;rw[de3];exact (List.Perm.cons n this).trans (cy5 (l₁:=[n]))
  · exfalso
    have hlt:∀x∈p,x < n:=fun x hx=>by
      have h1:=hb x hx
      have:x≠n:=fun e=>hn (e▸hx)
      omega
    match p,nd,hl,hlt with
    |[],_,hl,_=>simp at hl
    |y::q,nd,hl,hlt=>
     obtain ⟨h1,h2⟩:=cx0.mp nd;have hq:=ih q h2 (fun x hx=>hlt x (ct5 _ hx)) (by simpa using hl);have hy:=hlt y ct7;exact h1 (hq.mem_iff.mpr (cy9.mpr hy))
theorem A0.perm {p:List Int}(h:A0 p):p.Perm (L2.D6 0 p.length):=by
 have e:(p.map Int.toNat).map (fun (i:Nat)=>(0:Int)+(i:Int))=p:=by
   rw[cy6]
   conv=>rhs;rw[<-de4 p]
   refine cy7 fun x hx=> ?_
   have:=h.lo x hx;show (0:Int)+((x.toNat:Nat):Int)=x;omega
 have nd:(p.map Int.toNat).Nodup:=by
   rw[cv8,da8];have:=cv8.mp h.nd;refine List.Pairwise.imp_of_mem (fun {a b} ha hb hne z=>hne ?_) this;have h1:=h.lo a ha;have h2:=h.lo b hb;omega
 have:=ax4 p.length (p.map Int.toNat) nd (fun x hx=>by
   obtain ⟨y,hy,rfl⟩:=cu3.mp hx;have h1:=h.lo y hy;have h2:=h.hi y hy
   omega) (by rw[ct1])
 have q:=this.map (fun (i:Nat)=>(0:Int)+(i:Int));rw[e] at q;exact q
def G3 (fs:List Int)(u:Int):Option Int:=fs[u.toNat]?
theorem ba5 (fs:List Int):(L2.D6 0 fs.length).map (G3 fs)=fs.map some:=by
 unfold L2.D6;rw[cy6]
 refine cx8 fun j=> ?_
 rw[ct8,ct8]
 by_cases hj:j < fs.length
 · rw[da1 hj,ct2 hj];show some (fs[((0:Int)+(j:Int)).toNat]?)=_
   have:((0:Int)+(j:Int)).toNat=j:=by omega
   rw[this,ct2 hj];rfl
 · rw[cu4 (by rw[cx9];omega),cu4 (by omega)];rfl
theorem bq7 {a b:List Int}(h:(a.map some).Perm (b.map some)):a.Perm b:=by
 have:=h.map (fun o:Option Int=>o.getD 0);rw[cy6,cy6] at this
 have e:∀l:List Int,l.map ((fun o:Option Int=>o.getD 0)∘some)=l:=fun l=>by
   conv=>rhs;rw[<-de4 l]
   rfl
 rw[e,e] at this;exact this
theorem ap3 {fs ts qs:List Int}(ht:A0 ts)(hl:fs.length=ts.length)(h:ts.map (G3 fs)=qs.map some):fs.Perm qs:=by
 refine bq7 ?_;have h1:=ht.perm.map (G3 fs);rw[<-hl,ba5,h] at h1;exact h1.symm
end Mth
namespace L2
open PySem PySem.Spec PyProof.Rows
theorem af7.of {X:Cx}{N:List Str}{nl:Nat}{fr:List Nat}{scope:Scope}(h1:(scope.names.all fun y=>y.2 != .cell)=true:=by rfl)(h2:scope.kind= .function:=by rfl)
   (h3:(scope.names.all fun y=>y.2 != .local||scope.names.lookup y.1==some .local)=true:=by rfl)
   (h4:(scope.names.all fun p=>p.2 != .free||(X.env.kindOf p.1==some .cell||X.env.kindOf p.1==some .free))=true:=by rfl) (h5:N.length=nl+fr.length:=by rfl)
   (h6:((cw9 fr.length).all fun k=>match fr[k]? with
     |some j=>(match N[nl+k]?,X.N[j]? with
      |some y,some z=>y==z&&(X.env.scope.names.lookup y==some .local||X.env.scope.names.lookup y==some .cell||X.env.scope.names.lookup y==some .free)&&scope.names.lookup y==some .free
      |_,_=>false)
     |none=>false)=true:=by rfl):af7 X N nl fr scope where
 cell:=fun y hy e=>by
   have:=db1.mp h1 y hy;rw[e] at this;exact absurd this (by decide)
 kind:=h2
 names:=fun y hy e=>by
   have:=db1.mp h3 y hy;rw[e] at this
   have q:(scope.names.lookup y.1==some NameKind.local)=true:=by simpa using this
   exact eq_of_beq q
 free:=fun p hp e=>by
   have:=db1.mp h4 p hp;rw[e] at this
   have q:(X.env.kindOf p.1==some NameKind.cell||X.env.kindOf p.1==some NameKind.free)=true:=by simpa using this
   rcases di4 _ _|>.mp q with z|z
   · exact .inl (eq_of_beq z)
   · exact .inr (eq_of_beq z)
 len:=h5
 fr:=fun k j e=>by
   have hk:k < fr.length:=(ct3.mp e).1;have:=db1.mp h6 k (cy9.mpr hk);rw[e] at this
   dsimp only at this
   cases e1:N[nl+k]? with
   |none=>rw[e1] at this;cases this
   |some y=>
    cases e2:X.N[j]? with
    |none=>rw[e1,e2] at this;cases this
    |some z=>
     rw[e1,e2] at this
     dsimp only at this
     rw[cx7,cx7] at this;obtain ⟨⟨q1,q2⟩,q3⟩:=this;have hyz:y=z:=eq_of_beq q1;subst hyz;refine ⟨y,rfl,rfl,?_,eq_of_beq q3⟩;rw[di4,di4] at q2
     rcases q2 with (q|q)|q
     · exact .inl (eq_of_beq q)
     · exact .inr (.inl (eq_of_beq q))
     · exact .inr (.inr (eq_of_beq q))
def K6 (l:List Int):List (m9×V):=l.map fun n=>((Sum.inl n:m9),V.bl true)
theorem am8 {l:List Int}{n:Int}(h:n∈l):B9 (K6 l) (Sum.inl n:m9)=some (.bl true):=by
 induction l with
 |nil=>simp at h
 |cons a r ih=>
  show B9 (((Sum.inl a:m9),V.bl true)::K6 r) _=_
  by_cases e:a=n
  · rw[R9 (by rw[e])]
  · rw[O9 (fun z=>e (Sum.inl.inj z))];exact ih ((cv5.mp h).resolve_left fun z=>e z.symm)
theorem ac3 {l:List Int}{n:Int}(h:n∉l):B9 (K6 l) (Sum.inl n:m9)=none:=by
 induction l with
 |nil=>rfl
 |cons a r ih=>
  show B9 (((Sum.inl a:m9),V.bl true)::K6 r) _=_;rw[O9 (fun z=>h (by rw[Sum.inl.inj z];exact ct7))]
  exact ih fun z=>h (ct5 _ z)
theorem af9 {l:List Int}{n:Int}(h:n∉l):O8 (K6 l) (Sum.inl n:m9) (V.bl true)=K6 (l++[n]):=by
 rw[am7 _ (ac3 h)];unfold K6;rw[ct9];rfl
theorem G4 {ns:List Int}{i:Nat}{y:V}(h:(ns.map V.int)[i]? =some y):∃z,ns[i]? =some z/\y= .int z:=by
 rw[ct8] at h
 cases e:ns[i]? with
 |none=>rw[e] at h;cases h
 |some z=>rw[e] at h;exact ⟨z,rfl,(Option.some.inj h).symm⟩
theorem j9 {α:Type}{l:List α}{i:Nat}{x:α}(h:l[i]? =some x):l.take (i+1)=l.take i++[x]:=by
 rw[List.take_add_one,h];rfl
end L2
namespace Mth
def J8 (p q:List Int):List Int:=q.map fun i=>p.getD i.toNat 0
theorem aj9 {p:List Int}{i:Int}(h0:0<=i)(h1:i < p.length):L2.atI (p.map L2.V.int) i=some (.int (p.getD i.toNat 0)):=by
 obtain ⟨j,rfl⟩:=cy8 h0;refine L2.G0 ?_
 have hj:j < p.length:=by omega
 rw[ct8,ct2 hj];show some (L2.V.int p[j])=_;rw[da7];rw[cu9,ct2 hj];rfl
end Mth
namespace L2
open PySem PySem.Spec PyProof.Rows
theorem cc2 (K:PySem.W.Frag)(H:Hp)(n:Nat)(xs:List V):LEq K H n xs [] xs.isEmpty:=by
 cases xs with
 |nil=>exact .inr ⟨fun _=>true,rfl,fun j x y e=>by simp at e,rfl⟩
 |cons x r=>exact .inl ⟨by simp,rfl⟩
section
variable {X:Cx} {p pos apos:Pos} {e o:Expr} {es:List Expr} {t:TA} {to:TE}
theorem D5 (ho:PE X o to)(ha:PA X [e] t)
   (hbase:attributeBase o "append" X.env (eval o X.env)=eval o X.env:=by rfl)
   (hfew:((backTo pos (starEach [e] X.env)).all (fun x=> !x.1)&&(backToKw pos (keywordEach [] X.env)).all (fun x=>x.1.isSome)
     &&decide ([e].length+([]:List Keyword).length+(if ([]:List Keyword).isEmpty then 0 else 1) < 30))=true:=by rfl)
   (hline:(apos.endLine==pos.line)=true:=by rfl) (hs:starEach [e] X.env=(false,eval e X.env)::starEach [] X.env:=by rfl) (hplain:(backTo pos (starEach [] X.env)).any (·.1)=false:=by rfl):
   PE X (.Call (.Attribute o "append" apos) [e] [] pos) (tBM X.K "list" bh3 to t):=
 ay1 PySem.F.plainAttrs_list PySem.F.slot_list_append PySem.F.type_list_append bp1 ho ha hbase hfew hline hs hplain
theorem bw9 (ho:PE X o to)(ha:PA X [e] t)
   (hbase:attributeBase o "pop" X.env (eval o X.env)=eval o X.env:=by rfl)
   (hfew:((backTo pos (starEach [e] X.env)).all (fun x=> !x.1)&&(backToKw pos (keywordEach [] X.env)).all (fun x=>x.1.isSome)
     &&decide ([e].length+([]:List Keyword).length+(if ([]:List Keyword).isEmpty then 0 else 1) < 30))=true:=by rfl)
   (hline:(apos.endLine==pos.line)=true:=by rfl) (hs:starEach [e] X.env=(false,eval e X.env)::starEach [] X.env:=by rfl) (hplain:(backTo pos (starEach [] X.env)).any (·.1)=false:=by rfl):
   PE X (.Call (.Attribute o "pop" apos) [e] [] pos) (tBM X.K "list" az9 to t):=
 ay1 PySem.F.plainAttrs_list PySem.F.slot_list_pop PySem.F.type_list_pop ba0 ho ha hbase hfew hline hs hplain
theorem M6 (hm:X.mg "list"=none)(ha:PA X [e] t)(hg:Gl X "list":=by rfl)(he:starEach [e] X.env=(false,eval e X.env)::starEach [] X.env:=by rfl):
   PE X (.Call (.Name "list" p) [e] [] pos) (W9 (fun xs H Q=>∃p ys,xs=[.ref p]/\(i4 X.K H p ys\/Q3 X.K H p ys)/\∀l,H l=none->Q (.ref l) (c8 H l (.lst ys))) t):=
 Y9 az8 hg hm ac2 ha (by decide) (by decide) he rfl
theorem ac4 {p2 pos2:Pos}(hc:X.calm=true)(hm:X.mg "list"=none)(hm2:X.mg "range"=none)(ha:PA X [e] t)(hg:Gl X "list":=by rfl)(hg2:Gl X "range":=by rfl)(he:starEach [e] X.env=(false,eval e X.env)::starEach [] X.env:=by rfl)
   (he2:starEach [.Call (.Name "range" p2) [e] [] pos2] X.env=(false,eval (.Call (.Name "range" p2) [e] [] pos2) X.env)::starEach [] X.env:=by rfl):
   PE X (.Call (.Name "list" p) [.Call (.Name "range" p2) [e] [] pos2] [] pos) (W9 (fun xs H Q=>∃p lo hi,xs=[.ref p]/\H p=some (.rng lo hi)/\(-(2^62)<=lo/\lo < 2^62/\ -(2^62)<=hi/\hi < 2^62)/\(hi - lo).toNat<=2^20/\
   ∀l,H l=none->Q (.ref l) (c8 H l (.lst ((D6 lo (hi - lo).toNat).map V.int)))) (ca1 (W9 (fun xs H Q=>∃j,xs=[.int j]/\∀p,H p=none->Q (.ref p) (c8 H p (.rng 0 j))) t) ch8)):=
 Y9 (ax3 hc) hg hm ac2 (c5 (Y9 bf7 hg2 hm2 bf8 ha (by decide) (by decide) he rfl) c6 he2) (by decide) (by decide) he2 rfl
theorem ci8 (hc:X.calm=true)(hm:X.mg "sum"=none)(ha:PA X [e] t)(hg:Gl X "sum":=by rfl)(he:starEach [e] X.env=(false,eval e X.env)::starEach [] X.env:=by rfl):
   PE X (.Call (.Name "sum" p) [e] [] pos) (W9 (fun xs H Q=>∃(p:Addr) (ns:List Int),xs=[.ref p]/\i4 X.K H p (ns.map V.int)/\Q (.int ns.sum) H) t):=
 O7 (bq1 hc) hg hm bq3 ha (by decide) (by decide) he rfl
theorem cc3 {a b:Expr}(hc:X.calm=true)(hm:X.mg "min"=none)(ha:PA X [a,b] t)(hg:Gl X "min":=by rfl)(he:starEach [a,b] X.env=(false,eval a X.env)::starEach [b] X.env:=by rfl)(hpl:(backTo pos (starEach [b] X.env)).any (·.1)=false:=by rfl):
   PE X (.Call (.Name "min" p) [a,b] [] pos) (W9 (fun xs H Q=>∃i j,xs=[.int i,.int j]/\Q (.int (if j < i then j else i)) H) t):=
 O7 (bo4 hc) hg hm bq4 ha (by decide) (by decide) he hpl
theorem cc4 {a b:Expr}(hc:X.calm=true)(hm:X.mg "max"=none)(ha:PA X [a,b] t)(hg:Gl X "max":=by rfl)(he:starEach [a,b] X.env=(false,eval a X.env)::starEach [b] X.env:=by rfl)(hpl:(backTo pos (starEach [b] X.env)).any (·.1)=false:=by rfl):
   PE X (.Call (.Name "max" p) [a,b] [] pos) (W9 (fun xs H Q=>∃i j,xs=[.int i,.int j]/\Q (.int (if j > i then j else i)) H) t):=
 O7 (bo3 hc) hg hm bq5 ha (by decide) (by decide) he hpl
end
end L2
namespace Mth
theorem ac5 {α:Type}:∀{l:List α} {k:Nat} {y:α},l[k]? =some y->(y::l.eraseIdx k).Perm l
 |[],k,y,h=>by simp at h
 |a::r,0,y,h=>by
  simp at h;subst h;exact List.Perm.refl _
 |a::r,k+1,y,h=>by
  have h':r[k]? =some y:=by simpa using h
  have ih:=ac5 h';show (y::a::r.eraseIdx k).Perm (a::r);exact (List.Perm.swap a y _).trans (ih.cons a)
end Mth
namespace L2
open PySem PySem.Spec PyProof.Rows
def cm7 (K:PySem.W.Frag)(ta:TA):TE:=W9 (fun xs H Q=>∃p ys,xs=[.ref p]/\(i4 K H p ys\/Q3 K H p ys)/\Q (.int ys.length) H) ta
section
variable {X:Cx} {p pos:Pos} {e:Expr} {t:TA}
theorem bx0 (K:PySem.W.Frag)(hm:X.mg "len"=none)(ha:PA X [e] t)(hK:X.K=K:=by rfl)(hg:Gl X "len":=by rfl)
   (he:starEach [e] X.env=(false,eval e X.env)::starEach [] X.env:=by rfl):PE X (.Call (.Name "len" p) [e] [] pos) (cm7 K t):=by
 subst hK;exact y7 hm ha hg he
end
def ap4:V->Int
 | .int i=>i
 |_=>0
theorem bq8 {ys:List V}{xs:List Int}(h:ys.Perm (xs.map V.int)):∃ps:List Int,ys=ps.map V.int/\ps.Perm xs:=by
 refine ⟨ys.map ap4,?_,?_⟩
 · rw[cy6]
   conv=>lhs;rw[<-de4 ys]
   refine cy7 fun y hy=> ?_
   obtain ⟨i,_,rfl⟩:=cu3.mp (h.mem_iff.mp hy);rfl
 · have:=h.map ap4;rw[cy6] at this
   have e:xs.map (ap4∘V.int)=xs:=by
     conv=>rhs;rw[<-de4 xs]
     rfl
   rw[e] at this;exact this
end L2
namespace Mth
theorem ag0 {fs:List Int}{u v x:Int}(hu:0<=u)(hv:0<=v)(h:u≠v):G3 (fs.set v.toNat x) u=G3 fs u:=by
 unfold G3;rw[dd5 (by omega)]
theorem am9 {fs:List Int}{v x:Int}(h:v.toNat < fs.length):G3 (fs.set v.toNat x) v=some x:=by
 unfold G3;rw[dc6 h]
theorem E3 {ts:List Int}{i:Nat}(h:i < ts.length):ts.getD i 0=ts[i]:=by
 rw[cu9,ct2 h];rfl
theorem V3 {ts:List Int}(nd:ts.Nodup){i j:Nat}(hi:i < ts.length)(hj:j < ts.length)(h:i≠j):ts.getD i 0≠ts.getD j 0:=by
 rw[E3 hi,E3 hj]
 rcases Nat.lt_or_gt_of_ne h with z|z
 · exact cw3.mp (cv8.mp nd) i j hi hj z
 · exact fun e=>cw3.mp (cv8.mp nd) j i hj hi z e.symm
theorem ba6 {ts fs qs:List Int}{k L:Nat}(hL:1<=L)(hb:k+L<=ts.length)(h1:(ts.take k).map (G3 fs)=qs.map some)(hq:qs.Perm (ts.take k))
   (h2:∀j,j < L->G3 fs (ts.getD (k+j) 0)=some (ts.getD (k+(j+1)%L) 0)):∃qs':List Int,qs'.Perm (ts.take (k+L))/\(ts.take (k+L)).map (G3 fs)=qs'.map some:=by
 have hT:((ts.drop k).take L).length=L:=by rw[cu2,cw1];omega
 have hTj:∀j,j < L->((ts.drop k).take L)[j]? =some (ts.getD (k+j) 0):=fun j hj=>by
   rw[cx5 hj,da5,E3 (by omega),ct2 (by omega)]
 have e:((ts.drop k).take L).map (G3 fs)=(((ts.drop k).take L).drop 1++((ts.drop k).take L).take 1).map some:=by
   refine cx8 fun j=> ?_
   by_cases hj:j < L
   · rw[ct8,hTj j hj,ct8];show some (G3 fs (ts.getD (k+j) 0))=_;rw[h2 j hj]
     by_cases hj1:j+1 < L
     · rw[cx3 (by rw[cw1,hT];omega),da5,dc3 1 j,hTj (j+1) hj1,Nat.mod_eq_of_lt hj1];rfl
     · have hjL:j+1=L:=by omega
       rw[cx2 (by rw[cw1,hT];omega),cw1,hT,hjL,Nat.mod_self]
       have:j - (L - 1)=0:=by omega
       rw[this,cx5 (by omega),hTj 0 (by omega)];rfl
   · rw[cu4 (by rw[ct1,hT];omega),cu4];rw[ct1,ct6,cw1,cu2 (i:=1),hT];omega
 refine ⟨qs++(((ts.drop k).take L).drop 1++((ts.drop k).take L).take 1),?_,?_⟩
 · rw[List.take_add];refine List.Perm.append hq ?_;refine cy5.trans ?_;rw[cx4]
 · rw[List.take_add,ct9,ct9,h1,e]
end Mth
namespace L2
open PySem PySem.Spec PyProof.Rows
theorem i7.free {a l:Addr}{H H':Hp}(k:i7 a H H')(h:H' l=none)(n:l≠a):H l=none:=by
 cases e:H l with
 |none=>rfl
 |some o=>have:=k l o e n;rw[h] at this;cases this
theorem c9.kb {a:Addr}{H H1 H2:Hp}(s:c9 H H1)(k:i7 a H1 H2)(h:H a=none):c9 H H2:=fun b o e=>k b o (s b o e) (h7 e h)
def j7 (H:Hp)(as:List Addr)(rs:List (List Int)):Prop:=as.length=rs.length/\∀(j:Nat) a r,as[j]? =some a->rs[j]? =some r->H a=some (.lst (r.map V.int))
theorem bf9 {a b:List Int}(h:a.map V.int=b.map V.int):a=b:=(List.map_inj_right (fun x y (h:V.int x=V.int y)=>V.int.inj h)).mp h
theorem ag1 {K:PySem.W.Frag}{H:Hp}{as bs:List Addr}{rs qs:List (List Int)}(ha:j7 H as rs)(hb:j7 H bs qs):LEq K H 1 (as.map V.ref) (bs.map V.ref) (decide (rs=qs)):=by
 by_cases hl:as.length=bs.length
 · refine .inr ⟨fun j=>decide (rs[j]? =qs[j]?),by simpa using hl,fun j x y e1 e2=> ?_,?_⟩
   · rw[ct8] at e1 e2
     cases h1:as[j]? with
     |none=>rw[h1] at e1;cases e1
     |some a=>
      cases h2:bs[j]? with
      |none=>rw[h2] at e2;cases e2
      |some b=>
       rw[h1] at e1;rw[h2] at e2;cases e1;cases e2;have j1:j < as.length:=(ct3.mp h1).1;have k1:rs[j]? =some (rs[j]'(by rw[<-ha.1];exact j1)):=ct2 _;have k2:qs[j]? =some (qs[j]'(by rw[<-hb.1,<-hl];exact j1)):=ct2 _;have q1:=ha.2 j a _ h1 k1;have q2:=hb.2 j b _ h2 k2;show EqD K H 1 _ _ (decide (rs[j]? =qs[j]?));rw[k1,k2];generalize (rs[j]'(by rw[<-ha.1];exact j1))=r at q1 ⊢;generalize (qs[j]'(by rw[<-hb.1,<-hl];exact j1))=q at q2 ⊢
       by_cases hab:a=b
       · subst hab;rw[q1] at q2;have e':r=q:=bf9 (HO.lst.inj (Option.some.inj q2));rw[e',decide_eq_true rfl];exact .same a
       · rcases S3 K H 0 r q with ⟨h3,h4⟩|⟨e,h3,h4,h5⟩
         · have:=EqD.lens (n:=0) hab (i4.of (K:=K) q1) (i4.of q2) h3
           rw[decide_eq_false (fun z=>by
             have z':r=q:=Option.some.inj z
             exact h3 (by rw[z']))]
           exact this
         · have:=EqD.lists (n:=0) e hab (i4.of (K:=K) q1) (i4.of q2) h3 h4;rw[<-h5] at this
           have e6:decide (r=q)=decide (some r=some q):=by
             by_cases z:r=q
             · subst z;simp
             · rw[decide_eq_false z,decide_eq_false fun w=>z (Option.some.inj w)]
           rw[<-e6];exact this
   · rw[dc7,decide_eq_true_iff,ae6];constructor
     · intro h j _;subst h;simp
     · intro h
       refine cx8 fun j=> ?_
       by_cases hj:j < rs.length
       · exact of_decide_eq_true (h j (by rw[ct1,ha.1];exact hj))
       · rw[cu4 (by omega),cu4 (by rw[<-hb.1,<-hl,ha.1];omega)]
 · refine .inl ⟨by simpa using hl,?_⟩
   exact decide_eq_false fun h=>hl (by rw[ha.1,hb.1,h])
end L2
namespace Mth
theorem bx1 {p:List Int}(t:A0 p){j:Nat}(h:j < p.length):0<=p.getD j 0/\p.getD j 0 < p.length:=by
 rw[E3 h];exact ⟨t.lo _ (cz0 h),t.hi _ (cz0 h)⟩
end Mth
namespace L2
open PySem PySem.Spec PyProof.Rows
def Ite (K:PySem.W.Frag)(a:Addr):It:=
 ⟨fun i H=>∃xs x,i4 K H a xs/\xs[i]? =some x,fun i H v H'=>∃x t,(∀xs,i4 K H a xs->xs[i]? =some x)/\H t=none/\v= .ref t/\H'=c8 H t (.tup [.int (i:Int),x]),fun i H=>∃xs,i4 K H a xs/\xs.length<=i⟩
theorem bq9 {P:Program}{w:World}{K:PySem.W.Frag}{elts:List Expr}{x1}{pos:Pos}(a e it:Addr)(hne:e≠it):
   as3 P w K (.Tuple elts x1 pos) (Ite K a) [e,it] e (fun i h=>(∃old,IsEnum h e it i old)/\h.IsListIter it a i) where
 mem:=by simp
 obj:=fun i h st b hb=>by
   obtain ⟨⟨old,he⟩,⟨o,ho,c,d⟩⟩:=st
   have hb:b=e\/b=it:=by simpa using hb
   rcases hb with rfl|rfl
   · exact ⟨_,he,fun v z=>by cases z⟩
   · exact ⟨o,ho,fun v z=>by rw[d] at z;cases z⟩
 keep:=fun i h h' st k=>⟨let ⟨old,he⟩:=st.1;⟨old,k e (by simp) _ he⟩,st.2.at fun o q=>k it (by simp) o q⟩
 item:=by
   intro X hP hw hK hc i pins s σ H E I hf st hg;subst hP hw hK;obtain ⟨⟨old,he⟩,hit⟩:=st;obtain ⟨xs,x,hq,hx⟩:=hg;obtain ⟨its,rv,p,hz⟩:=I.list hq;obtain ⟨u,hu,ru⟩:=rv.get hx;obtain ⟨f0,f1,f2,f3,f4,f5⟩:=hf e (by simp);obtain ⟨g0,g1,g2,g3,g4,g5⟩:=hf it (by simp)
   refine wpAny_pyNext_enum_item he hit p.isList (x:=u) (by simpa using hu) hne fun h' he' hit' ht' hz' hk'=> ?_
   refine ⟨_,rfl,wpAny_letOwnedTupleGo_enum he' fun h2 he2 hs2=> ?_⟩;have hs2:Heap.SameBut e h' h2:=hs2;have eT:e≠s.heap.objs.size:=cw4 (Heap.lt_size he);have ht2:h2.get? s.heap.objs.size=some {cls:= .type "tuple",data:= .seq #[.int i s.toks,u]}:=hs2.extBut _ _ eT.symm ht'
   have kk:∀b o,b≠e->b≠it->s.heap.get? b=some o->h2.get? b=some o:=fun b o b1 b2 q=>hs2.extBut b o b1 (hk' b o b1 b2 q)
   have hn:H s.heap.objs.size=none:=I.hok.fresh (ct4 _)
   have nT:∀b u',H b=some u'->b≠s.heap.objs.size:=fun b u' q=>h7 q hn
   have ne:∀b u',H b=some u'->b≠e/\b≠it:=fun b u' q=>⟨fun z=>(by rw[z,f0] at q;cases q),fun z=>(by rw[z,g0] at q;cases q)⟩
   have I1:g9 X pins σ (c8 H s.heap.objs.size (.tup [.int (i:Int),x])) {s with heap:=h2,gens:=s.gens,drawn:=s.drawn,toks:=s.toks+1}:=by
     refine I.step (ch:=[e,it]) (fun b hb=> ?_) (fun b o _ _ hc q _=>kk b o (fun z=>hc (by simp [z])) (fun z=>hc (by simp [z])) q) (fun b o _ _ hc q _=>⟨o.slots,kk b o (fun z=>hc (by simp [z])) (fun z=>hc (by simp [z])) q⟩)
       (fun b o hc q n=>by rw[g8 (cw4 (Heap.lt_size q))];exact n) (fun b o hc q=>⟨o,kk b o (fun z=>hc (by simp [z])) (fun z=>hc (by simp [z])) q⟩)
       (fun b ys q=>by rw[g8 (nT b _ q)];exact q) (fun b o ys q=>by rw[g8 (nT b _ q)];exact q) (fun b ps q=>⟨#[],by rw[g8 (nT b _ q),q];simp⟩) (fun m hm=> ?_) (fun b u' q=> ?_) I.bare
     · have hb:b=e\/b=it:=by simpa using hb
       rcases hb with rfl|rfl
       · exact ⟨f3,f1,f4,f5⟩
       · exact ⟨g3,g1,g4,g5⟩
     · obtain ⟨o,es,ep,ho,r⟩:=hm;exact ⟨o,es,ep,kk _ o (Ne.symm f1) (Ne.symm g1) ho,r⟩
     · by_cases hb:b=s.heap.objs.size
       · subst hb;rw[c7] at q;cases q;exact ⟨by show 2<=sizeLine;decide,[.int i s.toks,u],.cons ⟨_,rfl⟩ (.cons ru .nil),⟨_,ht2,rfl,0,rfl⟩⟩
       · rw[g8 hb] at q
         refine (I.hok b u' q).stay (fun c v hc q'=> ?_) (fun c q'=>by rw[g8 (nT c _ q')];exact q') fun c ys q'=>by rw[g8 (nT c _ q')];exact q'
         rcases hc with z|z
         · rw[z] at q' ⊢;exact kk b v (ne b _ q).1 (ne b _ q).2 q'
         · exact kk c v (ne c _ z).1 (ne c _ z).2 q'
   refine ⟨.ref s.heap.objs.size,_,I1,rfl,⟨x,s.heap.objs.size,fun ys hy=>by rw[I.list_inj hy hq];exact hx,hn,rfl,rfl⟩,⟨⟨u,?_⟩,?_⟩,fun b hb=> ?_⟩
   · have:((i+1:Nat):Int)=(i:Int)+1:=by push_cast;rfl
     rw[this];exact he2
   · exact hit'.extBut hs2.extBut hne.symm
   · have hb:b=e\/b=it:=by simpa using hb
     rcases hb with rfl|rfl
     · rw[g8 eT];exact f0
     · obtain ⟨o,ho,_⟩:=hit;rw[g8 (cw4 (Heap.lt_size ho))];exact g0
 done:=by
   intro X hP hw hK hc i pins s σ H E I hf st hg;subst hP hw hK;obtain ⟨⟨old,he⟩,hit⟩:=st;obtain ⟨xs,hq,hx⟩:=hg;obtain ⟨its,rv,p,hz⟩:=I.list hq;obtain ⟨g0,g1,g2,g3,g4,g5⟩:=hf it (by simp);have hl:=rv.length
   exact wpAny_pyNext_enum_end (I.ok.hd hc) he hit p.isList (by simp;omega) fun h' eb=>⟨rfl,I.turned (t':=s.toks) (fun b o hb q=>eb b o hb q) g0 g1 g3 g4 g5⟩
 self:=fun _ _ _ _ _ st h=>let ⟨_,he⟩:=st.1;wpAny_pyIter_enum he h
theorem br0:bootBuiltins "enumerate"=some (.type "enumerate"):=by decide+kernel
section
variable {X:Cx} {l:Expr} {ta:TA} {p pos:Pos} {elts:List Expr} {x1:Nat} {tpos:Pos}
def cm8 (K:PySem.W.Frag)(ta:TA):TI:=fun σ H R=>ta σ H fun vs H1=>∃a,vs=[.ref a]/\(∃xs,i4 K H1 a xs)/\R (Ite K a) H1
theorem W0 (hm:X.mg "enumerate"=none)(ha:PA X [l] ta)(hg:Gl X "enumerate":=by rfl)(hs:starEach [l] X.env=[(false,eval l X.env)]:=by rfl):PI X (.Tuple elts x1 tpos) (.Call (.Name "enumerate" p) [l] [] pos) (cm8 X.K ta):=by
 intro pins s σ H R I h;refine Call_ (W6 I hg hm br0 (PyProof.Rows.callWith_type1 (n9 (ha pos pins s σ H _ I h) fun us s1 ⟨vs,H1,I1,r1,q1⟩=> ?_) hs rfl));obtain ⟨a,e,⟨xs,hq⟩,q⟩:=q1;subst e;obtain ⟨u,rfl,rx⟩:=Y8 r1;cases rx;obtain ⟨its,rv,pl,hz⟩:=I1.list hq
 refine call_enumerate_list pl.isList fun h' he hit hz' hk=> ?_
 refine wpAny_pyIter_enum he ?_;have I2:g9 X pins σ H1 {s1 with heap:=h',toks:=s1.toks}:=I1.kept (t':=s1.toks) hk;refine ⟨s1.heap.objs.size+1,[s1.heap.objs.size+1,s1.heap.objs.size],_,_,H1,rfl,I2,bq9 a (s1.heap.objs.size+1) s1.heap.objs.size (Nat.succ_ne_self _),⟨⟨.none,he⟩,hit⟩,fun b hb=> ?_,q⟩
 have hb:b=s1.heap.objs.size+1\/b=s1.heap.objs.size:=by simpa using hb
 rcases hb with rfl|rfl
 · exact I1.fpOk (by omega) (I1.hok.fresh (by omega))
 · exact I1.fpOk (by omega) (I1.hok.fresh (by omega))
end
theorem X2 {K:PySem.W.Frag}{a:Addr}{xs:List V}{g:TG}{tb:TS}{D:R7}{σ:St}{H:Hp}(Pv:Nat->St->Hp->Prop)(h0:Pv 0 σ H)(hl:∀i σ H,i<=xs.length->Pv i σ H->i4 K H a xs)
   (hs:∀i x σ H t,xs[i]? =some x->Pv i σ H->H t=none->g (.ref t) σ (c8 H t (.tup [.int (i:Int),x])) fun σ2 H2=>tb {D with nx:=Pv (i+1),ct:=Pv (i+1),bk:=D.nx} σ2 H2) (hd:∀σ H,Pv xs.length σ H->D.nx σ H):
   ∃W:Nat->Nat->St->Hp->Prop,(∃m,W 0 m σ H)/\∀i m σ H,W i m σ H->
    ((Ite K a).stop i H/\D.nx σ H)\/((Ite K a).go i H/\∃N:St->Hp->Prop,(∀σ' H',N σ' H'->∃m',m' < m/\W (i+1) m' σ' H')/\∀x H',(Ite K a).yld i H x H'->g x σ H' fun σ2 H2=>tb {D with nx:=N,ct:=N,bk:=D.nx} σ2 H2):=by
 refine ⟨fun i m σ H=>m=xs.length - i/\i<=xs.length/\Pv i σ H,⟨xs.length,by simp,cv9 _,h0⟩,?_⟩;rintro i m σ H ⟨rfl,hi,p⟩;have q:=hl i σ H hi p
 by_cases hlt:i < xs.length
 · refine .inr ⟨⟨xs,xs[i],q,by simp [hlt]⟩,Pv (i+1),fun σ' H' p'=>⟨xs.length - (i+1),by omega,rfl,hlt,p'⟩,fun x H' y=> ?_⟩;obtain ⟨x',t,y1,y2,e1,e2⟩:=y;subst e1 e2;exact hs i x' σ _ t (y1 xs q) p y2
 · have e:i=xs.length:=by omega
   subst e;exact .inl ⟨⟨xs,q,ct4 _⟩,hd σ H p⟩
end L2
namespace Mth
def nx (p:List Int)(x:Int):Int:=p.getD x.toNat 0
def it (p:List Int):Nat->Int->Int
 |0,x=>x
 |i+1,x=>nx p (it p i x)
def In (p:List Int)(x:Int):Prop:=0<=x/\x < p.length
theorem ca5 {p:List Int}(t:A0 p){x:Int}(h:In p x):In p (nx p x):=bx1 t (j:=x.toNat) (by have:=h.1;have:=h.2;omega)
theorem ba7 {p:List Int}(t:A0 p){x y:Int}(hx:In p x)(hy:In p y)(h:nx p x=nx p y):x=y:=by
 have a1:=hx.1;have a2:=hx.2;have b1:=hy.1;have b2:=hy.2
 by_cases e:x.toNat=y.toNat
 · omega
 · exact absurd h (V3 t.nd (i:=x.toNat) (j:=y.toNat) (by omega) (by omega) e)
theorem O4 {p:List Int}(t:A0 p){x:Int}(h:In p x):∀i,In p (it p i x)
 |0=>h
 |i+1=>ca5 t (O4 t h i)
theorem L6 (p:List Int)(x:Int):∀i j,it p (i+j) x=it p i (it p j x)
 |0,j=>by rw[dd4];rfl
 |i+1,j=>by
  rw[Nat.add_right_comm];show nx p (it p (i+j) x)=nx p (it p i (it p j x));rw[L6 p x i j]
theorem ba8 {p:List Int}(t:A0 p){x y:Int}(hx:In p x)(hy:In p y):∀i,it p i x=it p i y->x=y
 |0,h=>h
 |i+1,h=>ba8 t hx hy i (ba7 t (O4 t hx i) (O4 t hy i) h)
structure L9 (p:List Int)(x:Int)(L:Nat):Prop where
 pos:0 < L
 back:it p L x=x
 least:∀i,0 < i->i < L->it p i x≠x
theorem L9.uniq {p:List Int}{x:Int}{L M:Nat}(h:L9 p x L)(g:L9 p x M):L=M:=by
 rcases Nat.lt_trichotomy L M with z|z|z
 · exact absurd h.back (g.least L h.pos z)
 · exact z
 · exact absurd g.back (h.least M g.pos z)
theorem br1 {p:List Int}{x:Int}{L:Nat}(h:it p L x=x):∀q,it p (L*q) x=x
 |0=>by rw[Nat.mul_zero];rfl
 |q+1=>by rw[Nat.mul_succ,L6,h,br1 h q]
theorem ci9 {p:List Int}{x:Int}{L:Nat}(h:it p L x=x)(i:Nat):it p (i%L) x=it p i x:=by
 conv=>rhs;rw[<-Nat.div_add_mod i L,dc3,L6,br1 h]
theorem L9.shift {p:List Int}(t:A0 p){x:Int}{L:Nat}(hx:In p x)(h:L9 p x L)(j:Nat):L9 p (it p j x) L:=by
 refine ⟨h.pos,?_,fun i i0 i1 e=> ?_⟩
 · rw[<-L6,dc3,L6,h.back]
 · rw[<-L6,dc3,L6] at e;exact h.least i i0 i1 (ba8 t (O4 t hx i) hx j e)
def o4 (p:List Int)(x:Int)(L:Nat):List Int:=(cw9 L).map fun i=>it p i x
theorem w9 (p:List Int)(x:Int)(L:Nat):(o4 p x L).length=L:=by unfold o4;rw[ct1,cx9]
theorem av8 {p:List Int}{x:Int}{L j:Nat}(h:j < L):(o4 p x L)[j]? =some (it p j x):=by
 unfold o4;rw[ct8,da1 h];rfl
theorem K7 {p:List Int}{x:Int}{L j:Nat}(h:j < L):(o4 p x L).getD j 0=it p j x:=by
 rw[cu9,av8 h];rfl
theorem G5 {p:List Int}{x y:Int}{L:Nat}:y∈o4 p x L↔∃j,j < L/\y=it p j x:=by
 unfold o4;rw[cu3];constructor
 · rintro ⟨j,hj,rfl⟩;exact ⟨j,cy9.mp hj,rfl⟩
 · rintro ⟨j,hj,rfl⟩;exact ⟨j,cy9.mpr hj,rfl⟩
theorem bk8 (p:List Int)(x:Int)(m:Nat):o4 p x (m+1)=o4 p x m++[it p m x]:=by
 unfold o4;rw[de3,ct9];rfl
theorem aa1 {p:List Int}(t:A0 p){x:Int}(hx:In p x){m:Nat}(h:∀i,0 < i->i < m->it p i x≠x):(o4 p x m).Nodup:=by
 unfold o4;rw[cv8,da8];refine List.Pairwise.imp_of_mem (fun {a b} ha hb hlt e=> ?_) df1;have hb:=cy9.mp hb
 have e2:b=a+(b - a):=by omega
 rw[e2,L6] at e;exact h (b - a) (by omega) (by omega) (ba8 t (O4 t hx _) hx a e.symm)
theorem br2:∀(n:Nat) (l:List Nat),l.Nodup->(∀x∈l,x < n)->l.length<=n:=by
 intro n
 induction n with
 |zero=>
  intro l _ hb
  cases l with
  |nil=>exact ct4 _
  |cons a r=>exact absurd (hb a ct7) (Nat.not_lt_zero _)
 |succ n ih=>
  intro l nd hb
  by_cases hn:n∈l
  · obtain ⟨s,u,rfl⟩:=dg5 hn;have pm:(s++n::u).Perm (n::(s++u)):=List.perm_middle;obtain ⟨h1,h2⟩:=cx0.mp (pm.nodup_iff.mp nd)
    have:=ih (s++u) h2 fun x hx=>by
      have hx':=hb x (pm.mem_iff.mpr (ct5 _ hx))
      have:x≠n:=fun e=>h1 (e▸hx)
      omega
    rw[pm.length_eq,cv7];omega
  · exact Nat.le_succ_of_le (ih l nd fun x hx=>by
      have h1:=hb x hx
      have:x≠n:=fun e=>hn (e▸hx)
      omega)
theorem G7 {p:List Int}{r:List Int}(nd:r.Nodup)(h:∀x∈r,In p x):r.length<=p.length:=by
 have:=br2 p.length (r.map Int.toNat) (by
   rw[cv8,da8];refine List.Pairwise.imp_of_mem (fun {a b} ha hb hne z=>hne ?_) (cv8.mp nd);have h1:=(h a ha).1;have h2:=(h b hb).1
   omega) fun x hx=>by
     obtain ⟨y,hy,rfl⟩:=cu3.mp hx;have h1:=(h y hy).1;have h2:=(h y hy).2;omega
 rw[ct1] at this;exact this
theorem S5 {p:List Int}(t:A0 p){x:Int}(hx:In p x){L:Nat}:∀y∈o4 p x L,In p y:=fun y hy=>by
 obtain ⟨j,_,rfl⟩:=G5.mp hy;exact O4 t hx j
theorem N6 {p:List Int}(t:A0 p){x:Int}(hx:In p x){m:Nat}(h:∀i,0 < i->i < m->it p i x≠x):m<=p.length:=by
 have:=G7 (aa1 t hx h) (S5 t hx);rw[w9] at this;exact this
theorem bg0 {p:List Int}{x y:Int}{L:Nat}(h:L9 p x L)(hy:y∈o4 p x L)(i:Nat):it p i y∈o4 p x L:=by
 obtain ⟨j,hj,rfl⟩:=G5.mp hy;refine G5.mpr ⟨(i+j)%L,Nat.mod_lt _ h.pos,?_⟩;rw[ci9 h.back,L6]
theorem br3 {p:List Int}{x y z:Int}{L M:Nat}(h:L9 p x L)(g:L9 p y M)(h1:z∈o4 p x L)(h2:z∈o4 p y M):y∈o4 p x L:=by
 obtain ⟨j,hj,rfl⟩:=G5.mp h2;have:=bg0 h h1 (M - j);rw[<-L6,show M - j+j=M by omega,g.back] at this;exact this
open Classical in
noncomputable def N7 (p:List Int)(x:Int):Nat:=if h:∃L,L9 p x L then Classical.choose h else 0
theorem ac6 {p:List Int}{x:Int}{L:Nat}(h:L9 p x L):N7 p x=L:=by
 have hx:∃L,L9 p x L:=⟨L,h⟩;unfold N7;rw[dif_pos hx];exact (Classical.choose_spec hx).uniq h
noncomputable def o6 (p:List Int):Nat->List (List Int)
 |0=>[]
 |i+1=>if (i:Int)∈(o6 p i).flatten then o6 p i else o6 p i++[o4 p i (N7 p i)]
structure y8 (p:List Int)(i:Nat)(rs:List (List Int)):Prop where
 ring:∀r∈rs,∃x L,In p x/\L9 p x L/\r=o4 p x L/\(∀y∈r,x<=y)/\x < i
 nd:rs.flatten.Nodup
 all:∀u:Int,0<=u->u < i->u∈rs.flatten
 ord:rs.Pairwise fun r s=>r.getD 0 0 < s.getD 0 0
 eq:rs=o6 p i
theorem ap5 (p:List Int):y8 p 0 []:=⟨fun r hr=>by simp at hr,cz8,fun u h1 h2=>by omega,List.Pairwise.nil,rfl⟩
theorem ap6 {p:List Int}{i:Nat}{rs:List (List Int)}(h:y8 p i rs)(hi:(i:Int)∈rs.flatten):y8 p (i+1) rs:=by
 refine ⟨fun r hr=> ?_,h.nd,fun u h1 h2=> ?_,h.ord,?_⟩
 · obtain ⟨x,L,a,b,c,d,e⟩:=h.ring r hr;exact ⟨x,L,a,b,c,d,by omega⟩
 · by_cases e:u=i
   · subst e;exact hi
   · exact h.all u h1 (by omega)
 · show rs=if (i:Int)∈(o6 p i).flatten then o6 p i else o6 p i++[o4 p i (N7 p i)]
   rw[<-h.eq,if_pos hi]
theorem al8 {p:List Int}{i:Nat}{rs:List (List Int)}(h:y8 p i rs){L:Nat}(hL:L9 p i L)(hi:(i:Int)∉rs.flatten):∀y∈o4 p i L,y∉rs.flatten:=by
 intro y hy hm;obtain ⟨r,hr,hyr⟩:=cw6.mp hm;obtain ⟨x,M,a,b,rfl,d,e⟩:=h.ring r hr;exact hi (cw6.mpr ⟨_,hr,br3 b hL hyr hy⟩)
theorem ap7 {p:List Int}(t:A0 p){i:Nat}{rs:List (List Int)}(h:y8 p i rs)(hx:In p i){L:Nat}(hL:L9 p i L)(hi:(i:Int)∉rs.flatten):y8 p (i+1) (rs++[o4 p i L]):=by
 have fr:=al8 h hL hi;refine ⟨fun r hr=> ?_,?_,fun u h1 h2=> ?_,?_,?_⟩
 · rcases cu5.mp hr with z|z
   · obtain ⟨x,L,a,b,c,d,e⟩:=h.ring r z;exact ⟨x,L,a,b,c,d,by omega⟩
   · have:r=o4 p i L:=by simpa using z
     subst this;refine ⟨i,L,hx,hL,rfl,fun y hy=> ?_,by omega⟩;have y0:=(S5 t hx y hy).1
     by_cases hlt:y < i
     · exact absurd (h.all y y0 hlt) (fr y hy)
     · omega
 · rw[db0,dc9];refine cy3.mpr ⟨h.nd,aa1 t hx fun j j0 j1=>hL.least j j0 j1,fun a ha b hb e=> ?_⟩;subst e;exact fr a hb ha
 · rw[db0,dc9]
   by_cases e:u=i
   · subst e;exact cu7 _ (G5.mpr ⟨0,hL.pos,rfl⟩)
   · exact cx6 _ (h.all u h1 (by omega))
 · refine List.pairwise_append.mpr ⟨h.ord,dc4 _ _,fun r hr s hs=> ?_⟩
   have:s=o4 p i L:=by simpa using hs
   subst this;obtain ⟨x,M,a,b,rfl,d,e⟩:=h.ring r hr;rw[K7 b.pos,K7 hL.pos];exact e
 · show rs++[o4 p i L]=if (i:Int)∈(o6 p i).flatten then o6 p i else o6 p i++[o4 p i (N7 p i)]
   rw[<-h.eq,if_neg hi,ac6 hL]
end Mth
namespace Mth
theorem X3 {p:List Int}{x:Int}(h:In p x):G3 p x=some (nx p x):=by
 have a1:=h.1;have a2:=h.2;unfold G3 nx;rw[cu9,ct2 (by omega)];rfl
end Mth
namespace L2
open PySem PySem.Spec PyProof.Rows
def cm9 (i j:Int):Prop:=0 < j/\j<=1000000000000000000000000000000
theorem bx2 {X:Cx}:J6 X (binaryOp .FloorDiv) (rI cm9 fun i j=> .int (i/j)):=opI fun i j _ _ _ _ _ hc q=>by
 have hp:Builtin.divisionGoesByPylong i j=false:=by
   refine PyProof.noPylong_of_log2 ?_;obtain ⟨h1,h2⟩:=hc;have:j.natAbs < 2^9000:=cy0 (show j.natAbs<=1000000000000000000000000000000 by omega) (by decide+kernel);exact (Nat.log2_lt (by omega)).mpr this
 refine floordiv_int (by have:=hc.1;omega) ?_ (.inl hp);rw[dg9 i (by have:=hc.1;omega)];exact q
end L2
namespace Mth
theorem cj0 {p:List Int}(t:A0 p){x:Int}(hx:In p x):∃L,L9 p x L:=by
 have h0:∃i,0 < i/\i<=p.length/\it p i x=x:=Classical.byContradiction fun hn=>by
   have:=N6 t hx (m:=p.length+1) fun i i0 i1 e=>hn ⟨i,i0,by omega,e⟩
   omega
 have key:∀n,(∃i,0 < i/\i<=n/\it p i x=x)->∃L,L9 p x L:=by
   intro n
   induction n with
   |zero=>rintro ⟨i,i0,i1,_⟩;omega
   |succ n ih=>
    rintro ⟨i,i0,i1,e⟩
    by_cases h:∃j,0 < j/\j<=n/\it p j x=x
    · exact ih h
    · refine ⟨i,i0,e,fun j j0 j1 ej=>h ⟨j,j0,by omega,ej⟩⟩
 exact key _ h0
end Mth
namespace L2
open PySem PySem.Spec PyProof.Rows
def Itz (a b:Addr):It:=
 ⟨fun i H=>∃xs ys x y,H a=some (.lst xs)/\H b=some (.lst ys)/\xs[i]? =some x/\ys[i]? =some y,
  fun i H v H'=>∃x y t,(∀xs,H a=some (.lst xs)->xs[i]? =some x)/\(∀ys,H b=some (.lst ys)->ys[i]? =some y)/\H t=none/\v= .ref t/\H'=c8 H t (.tup [x,y]),
  fun i H=>∃xs ys,H a=some (.lst xs)/\H b=some (.lst ys)/\(xs.length<=i\/ys.length<=i)⟩
structure cj1 (z TI TO i1 i2:Addr):Prop where
 TIz:TI≠z
 TOz:TO≠z
 i1z:i1≠z
 i2z:i2≠z
 TITO:TI≠TO
 TIi1:TI≠i1
 TIi2:TI≠i2
 TOi1:TO≠i1
 TOi2:TO≠i2
 i12:i1≠i2
theorem bx3 {P:Program}{w:World}{K:PySem.W.Frag}{elts:List Expr}{x1}{pos:Pos}(a b z TI TO i1 i2:Addr)(D0:cj1 z TI TO i1 i2):
   as3 P w K (.Tuple elts x1 pos) (Itz a b) [z,TI,TO,i1,i2] z (fun i h=>IsZip h z TI TO .none/\IsPair h TI (.ref i1) (.ref i2)/\(∃u v,IsPair h TO u v)/\h.IsListIter i1 a i/\h.IsListIter i2 b i) where
 mem:=by simp
 obj:=fun i h st c hc=>by
   obtain ⟨hz,hTI,⟨u,v,hTO⟩,⟨o1,g1,c1,d1⟩,⟨o2,g2,c2,d2⟩⟩:=st
   have hc:c=z\/c=TI\/c=TO\/c=i1\/c=i2:=by simpa using hc
   rcases hc with rfl|rfl|rfl|rfl|rfl
   · exact ⟨_,hz,fun v z=>by cases z⟩
   · exact ⟨_,hTI,fun v z=>by cases z⟩
   · exact ⟨_,hTO,fun v z=>by cases z⟩
   · exact ⟨o1,g1,fun v z=>by rw[d1] at z;cases z⟩
   · exact ⟨o2,g2,fun v z=>by rw[d2] at z;cases z⟩
 keep:=fun i h h' st k=>by
   obtain ⟨hz,hTI,⟨u,v,hTO⟩,g1,g2⟩:=st;exact ⟨k z (by simp) _ hz,k TI (by simp) _ hTI,⟨u,v,k TO (by simp) _ hTO⟩,g1.at fun o q=>k i1 (by simp) o q,g2.at fun o q=>k i2 (by simp) o q⟩
 item:=by
   intro X hP hw hK hc i pins s σ H E I hf st hg;subst hP hw hK;obtain ⟨hz,hTI,⟨u0,v0,hTO⟩,g1,g2⟩:=st;obtain ⟨xs,ys,x,y,ha,hb,hx,hy⟩:=hg;obtain ⟨_,its,n1,rv,l1,e1⟩:=I.lstM ha;obtain ⟨_,its2,n2,rv2,l2,e2⟩:=I.lstM hb;obtain ⟨ux,hux,rux⟩:=rv.get hx;obtain ⟨uy,huy,ruy⟩:=rv2.get hy
   have nf:∀c u',H c=some u'->c≠z/\c≠TI/\c≠TO/\c≠i1/\c≠i2:=fun c u' q=>by
     have f:∀d∈[z,TI,TO,i1,i2],c≠d:=fun d hd w=>by
       have:=(hf d hd).1;rw[<-w,q] at this;cases this
     exact ⟨f z (by simp),f TI (by simp),f TO (by simp),f i1 (by simp),f i2 (by simp)⟩
   have na:=nf a _ ha;have nb:=nf b _ hb;have D:ZipApart z TI TO i1 i2 a b:=⟨D0.TIz,D0.TOz,D0.i1z,D0.i2z,D0.TITO,D0.TIi1,D0.TIi2,D0.TOi1,D0.TOi2,D0.i12,na.1,na.2.2.1,na.2.2.2.1,na.2.2.2.2,nb.1,nb.2.2.1,nb.2.2.2.1,nb.2.2.2.2⟩
   refine wpAny_pyNext_zip_item (xs:=its.toArray) (ys:=its2.toArray) (x:=ux) (y:=uy) D hz hTI hTO g1 g2 ⟨_,e1,rfl,n1,rfl⟩ ⟨_,e2,rfl,n2,rfl⟩ (by simpa using hux) (by simpa using huy) fun h' hz' hTO' g1' g2' hT' hsz' kk'=> ?_
   refine ⟨_,rfl,wpAny_letOwnedTupleGo_zip hz' fun h2 hz2 hs2=> ?_⟩;have hs2:Heap.SameBut z h' h2:=hs2;have ltz:z < s.heap.objs.size:=Heap.lt_size hz;have lTI:TI < s.heap.objs.size:=Heap.lt_size hTI;have lTO:TO < s.heap.objs.size:=Heap.lt_size hTO
   have li1:i1 < s.heap.objs.size:=by obtain ⟨o,ho,_⟩:=g1;exact Heap.lt_size ho
   have li2:i2 < s.heap.objs.size:=by obtain ⟨o,ho,_⟩:=g2;exact Heap.lt_size ho
   have ht2:h2.get? s.heap.objs.size=some {cls:= .type "tuple",data:= .seq #[ux,uy]}:=hs2.extBut _ _ (Nat.ne_of_gt ltz) hT'
   have kk:∀c o,c≠z->c≠TO->c≠i1->c≠i2->s.heap.get? c=some o->h2.get? c=some o:=fun c o b1 b2 b3 b4 q=>hs2.extBut c o b1 (kk' c o b1 b2 b3 b4 q)
   have hn:H s.heap.objs.size=none:=I.hok.fresh (ct4 _)
   have nT:∀c u',H c=some u'->c≠s.heap.objs.size:=fun c u' q=>h7 q hn
   have kc:∀c o,c∉[z,TI,TO,i1,i2]->s.heap.get? c=some o->h2.get? c=some o:=fun c o hc q=>kk c o (fun w=>hc (by simp [w])) (fun w=>hc (by simp [w])) (fun w=>hc (by simp [w])) (fun w=>hc (by simp [w])) q
   have I1:g9 X pins σ (c8 H s.heap.objs.size (.tup [x,y])) {s with heap:=h2,gens:=s.gens,drawn:=s.drawn,toks:=s.toks}:=by
     refine I.step (ch:=[z,TI,TO,i1,i2]) (fun c hc=> ?_) (fun c o _ _ hc q _=>kc c o hc q) (fun c o _ _ hc q _=>⟨o.slots,kc c o hc q⟩)
       (fun c o hc q n=>by rw[g8 (cw4 (Heap.lt_size q))];exact n) (fun c o hc q=>⟨o,kc c o hc q⟩)
       (fun c zs q=>by rw[g8 (nT c _ q)];exact q) (fun c o zs q=>by rw[g8 (nT c _ q)];exact q) (fun c ps q=>⟨#[],by rw[g8 (nT c _ q),q];simp⟩) (fun m hm=> ?_) (fun c u' q=> ?_) I.bare
     · have f:=hf c hc;exact ⟨f.2.2.2.1,f.2.1,f.2.2.2.2.1,f.2.2.2.2.2⟩
     · obtain ⟨o,es,ep,ho,r⟩:=hm;exact ⟨o,es,ep,kk _ o (Ne.symm (hf z (by simp)).2.1) (Ne.symm (hf TO (by simp)).2.1) (Ne.symm (hf i1 (by simp)).2.1) (Ne.symm (hf i2 (by simp)).2.1) ho,r⟩
     · by_cases hcT:c=s.heap.objs.size
       · subst hcT;rw[c7] at q;cases q;exact ⟨by show 2<=sizeLine;decide,[ux,uy],.cons rux (.cons ruy .nil),⟨_,ht2,rfl,0,rfl⟩⟩
       · rw[g8 hcT] at q
         refine (I.hok c u' q).stay (fun d v hd q'=> ?_) (fun d q'=>by rw[g8 (nT d _ q')];exact q') fun d zs q'=>by rw[g8 (nT d _ q')];exact q'
         rcases hd with w|w
         · rw[w] at q' ⊢;have:=nf c _ q;exact kk c v this.1 this.2.2.1 this.2.2.2.1 this.2.2.2.2 q'
         · have:=nf d _ w;exact kk d v this.1 this.2.2.1 this.2.2.2.1 this.2.2.2.2 q'
   refine ⟨.ref s.heap.objs.size,_,I1,rfl,⟨x,y,s.heap.objs.size,fun zs hzs=> ?_,fun zs hzs=> ?_,hn,rfl,rfl⟩,⟨hz2,?_,⟨ux,uy,?_⟩,?_,?_⟩,fun c hc=> ?_⟩
   · rw[ha] at hzs;cases hzs;exact hx
   · rw[hb] at hzs;cases hzs;exact hy
   · exact kk TI _ D0.TIz D0.TITO D0.TIi1 D0.TIi2 hTI
   · exact hs2.extBut _ _ D0.TOz hTO'
   · exact g1'.extBut hs2.extBut D0.i1z
   · exact g2'.extBut hs2.extBut D0.i2z
   · have hne:c≠s.heap.objs.size:=by
       have hc:c=z\/c=TI\/c=TO\/c=i1\/c=i2:=by simpa using hc
       rcases hc with rfl|rfl|rfl|rfl|rfl
       · exact cw4 ltz
       · exact cw4 lTI
       · exact cw4 lTO
       · exact cw4 li1
       · exact cw4 li2
     rw[g8 hne];exact (hf c hc).1
 done:=by
   intro X hP hw hK hc i pins s σ H E I hf st hg;subst hP hw hK;obtain ⟨hz,hTI,⟨u0,v0,hTO⟩,g1,g2⟩:=st;obtain ⟨xs,ys,ha,hb,hend⟩:=hg;obtain ⟨_,its,n1,rv,l1,e1⟩:=I.lstM ha;obtain ⟨_,its2,n2,rv2,l2,e2⟩:=I.lstM hb
   have nf:∀c u',H c=some u'->c≠z/\c≠TI/\c≠TO/\c≠i1/\c≠i2:=fun c u' q=>by
     have f:∀d∈[z,TI,TO,i1,i2],c≠d:=fun d hd w=>by
       have:=(hf d hd).1;rw[<-w,q] at this;cases this
     exact ⟨f z (by simp),f TI (by simp),f TO (by simp),f i1 (by simp),f i2 (by simp)⟩
   have na:=nf a _ ha;have nb:=nf b _ hb;have D:ZipApart z TI TO i1 i2 a b:=⟨D0.TIz,D0.TOz,D0.i1z,D0.i2z,D0.TITO,D0.TIi1,D0.TIi2,D0.TOi1,D0.TOi2,D0.i12,na.1,na.2.2.1,na.2.2.2.1,na.2.2.2.2,nb.1,nb.2.2.1,nb.2.2.2.1,nb.2.2.2.2⟩
   refine wpAny_pyNext_zip_end (xs:=its.toArray) (ys:=its2.toArray) (I.ok.hd hc) D hz hTI hTO g1 g2 ⟨_,e1,rfl,n1,rfl⟩ ⟨_,e2,rfl,n2,rfl⟩ ?_ fun h' kk=>⟨rfl,?_⟩
   · rcases hend with w|w
     · exact .inl (by simp;omega)
     · exact .inr (by simp;omega)
   · have kc:∀c o,c∉[z,TI,TO,i1,i2]->s.heap.get? c=some o->h'.get? c=some o:=fun c o hc q=>kk c o (fun w=>hc (by simp [w])) (fun w=>hc (by simp [w])) (fun w=>hc (by simp [w])) (fun w=>hc (by simp [w])) q
     refine I.step (g':=s.gens) (d':=s.drawn) (t':=s.toks) (ch:=[z,TI,TO,i1,i2]) (fun c hc=> ?_) (fun c o _ _ hc q _=>kc c o hc q) (fun c o _ _ hc q _=>⟨o.slots,kc c o hc q⟩)
       (fun c o hc q n=>n) (fun c o hc q=>by
         by_cases hz':c∈[z,TI,TO,i1,i2]
         · exact absurd hz' hc
         · exact ⟨o,kc c o hz' q⟩) (fun c zs q=>q) (fun c o zs q=>q) (fun c ps q=>⟨#[],by rw[q];simp⟩) (fun m hm=> ?_) (fun c u' q=> ?_) I.bare
     · have f:=hf c hc;exact ⟨f.2.2.2.1,f.2.1,f.2.2.2.2.1,f.2.2.2.2.2⟩
     · obtain ⟨o,es,ep,ho,r⟩:=hm;exact ⟨o,es,ep,kk _ o (Ne.symm (hf z (by simp)).2.1) (Ne.symm (hf TO (by simp)).2.1) (Ne.symm (hf i1 (by simp)).2.1) (Ne.symm (hf i2 (by simp)).2.1) ho,r⟩
     · refine (I.hok c u' q).stay (fun d v hd q'=> ?_) (fun d q'=>q') fun d zs q'=>q'
       rcases hd with w|w
       · rw[w] at q' ⊢;have:=nf c _ q;exact kk c v this.1 this.2.2.1 this.2.2.2.1 this.2.2.2.2 q'
       · have:=nf d _ w;exact kk d v this.1 this.2.2.1 this.2.2.2.1 this.2.2.2.2 q'
 self:=fun _ _ _ _ _ st h=>wpAny_pyIter_zip st.1 h
theorem bx4:bootBuiltins "zip"=some (.type "zip"):=by decide+kernel
section
variable {X:Cx} {l m:Expr} {ta:TA} {p pos:Pos} {elts:List Expr} {x1:Nat} {tpos:Pos}
def cq8 (ta:TA):TI:=fun σ H R=>ta σ H fun vs H1=>∃a b xs ys,vs=[.ref a,.ref b]/\H1 a=some (.lst xs)/\H1 b=some (.lst ys)/\R (Itz a b) H1
theorem cj2 (hm:X.mg "zip"=none)(ha:PA X [l,m] ta)(hg:Gl X "zip":=by rfl)(hs:starEach [l,m] X.env=(false,eval l X.env)::starEach [m] X.env:=by rfl)(hpl:(backTo pos (starEach [m] X.env)).any (·.1)=false:=by rfl):
   PI X (.Tuple elts x1 tpos) (.Call (.Name "zip" p) [l,m] [] pos) (cq8 ta):=by
 intro pins s σ H R I h;refine Call_ (W6 I hg hm bx4 (PyProof.Rows.callWith_type1 (n9 (ha pos pins s σ H _ I h) fun us s1 ⟨vs,H1,I1,r1,q1⟩=> ?_) hs hpl));obtain ⟨a,b,xs,ys,e,h1a,h1b,q⟩:=q1;subst e;obtain ⟨u,w',rfl,ru,rw'⟩:=ao4 r1;cases ru;cases rw';obtain ⟨_,its,n1,rv,l1,e1⟩:=I1.lstM h1a;obtain ⟨_,its2,n2,rv2,l2,e2⟩:=I1.lstM h1b
 refine call_zip_2 (xs:=its.toArray) (ys:=its2.toArray) ⟨_,e1,rfl,n1,rfl⟩ ⟨_,e2,rfl,n2,rfl⟩ fun h' hz hTI hTO g1 g2 hsz hk=> ?_
 refine wpAny_pyIter_zip hz ?_;have I2:g9 X pins σ H1 {s1 with heap:=h',toks:=s1.toks}:=I1.kept (t':=s1.toks) hk
 have ne:∀(i j:Nat),i≠j->s1.heap.objs.size+i≠s1.heap.objs.size+j:=fun i j h e=>h (Nat.add_left_cancel e)
 refine ⟨s1.heap.objs.size+4,[s1.heap.objs.size+4,s1.heap.objs.size+2,s1.heap.objs.size+3,s1.heap.objs.size,s1.heap.objs.size+1],_,_,H1,rfl,I2,
   bx3 a b (s1.heap.objs.size+4) (s1.heap.objs.size+2) (s1.heap.objs.size+3) s1.heap.objs.size (s1.heap.objs.size+1) ⟨ne 2 4 (by decide),ne 3 4 (by decide),ne 0 4 (by decide),ne 1 4 (by decide),ne 2 3 (by decide),ne 2 0 (by decide),ne 2 1 (by decide),ne 3 0 (by decide),ne 3 1 (by decide),ne 0 1 (by decide)⟩,
   ⟨hz,hTI,⟨_,_,hTO⟩,g1,g2⟩,fun c hc=> ?_,q⟩
 have hle:s1.heap.objs.size<=c:=by
   simp only[cv5,List.mem_nil_iff,or_false] at hc
   rcases hc with rfl|rfl|rfl|rfl|rfl
   · exact df4 _ _
   · exact df4 _ _
   · exact df4 _ _
   · exact ct4 _
   · exact df4 _ _
 exact I1.fpOk hle (I1.hok.fresh hle)
end
theorem br5 {K:PySem.W.Frag}{a:Addr}{xs:List V}{g:TG}{tc:TT}{te:TE}{σ0:St}{H:Hp}{Q:VK}(Pv:Nat->List V->St->Hp->Prop)(h0:Pv 0 [] σ0 H)(hl:∀i ys σ H,i<=xs.length->Pv i ys σ H->i4 K H a xs)
   (hs:∀i x ys σ H t,xs[i]? =some x->Pv i ys σ H->H t=none->g (.ref t) σ (c8 H t (.tup [.int (i:Int),x])) fun σ2 H2=>tc σ2 H2 fun b H4=>if b=true then te σ2 H4 fun y H5=>ys.length < sizeLine/\Pv (i+1) (ys++[y]) σ2 H5 else Pv (i+1) ys σ2 H4)
   (hd:∀ys σ H,Pv xs.length ys σ H->∀D,H D=none->Q (.ref D) (c8 H D (.lst ys))):ap2 (Ite K a) g tc te Q σ0 H:=by
 refine ⟨fun i m ys σ H=>m=xs.length - i/\i<=xs.length/\Pv i ys σ H,⟨xs.length,by simp,cv9 _,h0⟩,?_⟩;rintro i m ys σ H ⟨rfl,hi,p⟩;have q:=hl i ys σ H hi p
 by_cases hlt:i < xs.length
 · refine .inr ⟨⟨xs,xs[i],q,by simp [hlt]⟩,Pv (i+1),fun ys' σ' H' p'=>⟨xs.length - (i+1),by omega,rfl,hlt,p'⟩,fun x H' y=> ?_⟩;obtain ⟨x',t,y1,y2,e1,e2⟩:=y;subst e1 e2;exact hs i x' ys σ _ t (y1 xs q) p y2
 · have e:i=xs.length:=by omega
   subst e;exact .inl ⟨⟨xs,q,ct4 _⟩,hd ys σ H p⟩
end L2
namespace L2
open PySem PySem.Spec PyProof.Rows
theorem cc5 (K:PySem.W.Frag){X:Cx}{es:List Expr}{k:Nat}{t:TGs}{n:Nat}{pos:Pos}(hc:X.calm=true)(h:PGs X es t)(hK:X.K=K:=by rfl)
   (hn:(assignEach es X.env).length=n:=by rfl) (hst:(assignEach es X.env).findIdx? (·.1)=none:=by rfl):PG X (.Tuple es k pos) (ch1 K n t):=by
 subst hK;exact Q4 hc h hn hst
end L2
namespace L2
open PySem PySem.Spec PyProof.Rows
section
variable {X:Cx} {o e:Expr} {to:TE} {t:TA} {apos pos p:Pos}
def cc6 (K:PySem.W.Frag)(t:TA):TE:=W9 (fun xs H Q=>∃p ys,xs=[.ref p]/\(i4 K H p ys\/Q3 K H p ys)/\∀l,H l=none->Q (.ref l) (c8 H l (.lst ys))) t
theorem bk9 (K:PySem.W.Frag)(hm:X.mg "list"=none)(ha:PA X [e] t)(hK:X.K=K:=by rfl)(hg:Gl X "list":=by rfl)(he:starEach [e] X.env=(false,eval e X.env)::starEach [] X.env:=by rfl):
   PE X (.Call (.Name "list" p) [e] [] pos) (cc6 K t):=by
 subst hK;exact M6 hm ha hg he
end
theorem ba9 (xs:List V)(k:Nat)(h:k<=xs.length):M4 xs (some (k:Int)) none=xs.drop k:=by
 unfold M4;rw[HT.cr6,HT.cq2,dd0 h,cz2 (by rw[cw1];omega)]
theorem br6 (xs:List V)(k:Nat)(h:k<=xs.length):M4 xs none (some (k:Int))=xs.take k:=by
 unfold M4;rw[HT.cr6,HT.cq2,dd0 h,dg3,Nat.sub_zero]
def Q5 (H:Hp)(e:Addr):List Int:=match H e with
 |some (.lst xs)=>xs.map ap4
 |_=>[]
theorem an0 {H:Hp}{e:Addr}{r:List Int}(h:H e=some (.lst (r.map V.int))):Q5 H e=r:=by
 unfold Q5;rw[h];show (r.map V.int).map ap4=r;rw[cy6]
 conv=>rhs;rw[<-de4 r]
 rfl
theorem bl0 {H:Hp}{as:List Addr}{rs:List (List Int)}(h:j7 H as rs):as.map (Q5 H)=rs:=by
 refine cx8 fun j=> ?_
 rw[ct8]
 by_cases hj:j < as.length
 · have e1:as[j]? =some as[j]:=ct2 hj;have e2:rs[j]? =some (rs[j]'(by rw[<-h.1];exact hj)):=ct2 _;rw[e1,e2];show some (Q5 H as[j])=_;rw[an0 (h.2 j _ _ e1 e2)]
 · rw[cu4 (by omega),cu4 (by rw[<-h.1];omega)];rfl
end L2
namespace Mth
theorem cc7 {p:List Int}{rs:List (List Int)}(t:A0 p)(h:y8 p p.length rs):rs.flatten.Perm (L2.D6 0 p.length):=by
 have i1:A0 rs.flatten:=by
   have hin:∀x∈rs.flatten,In p x:=fun x hx=>by
     obtain ⟨r,hr,hxr⟩:=cw6.mp hx;obtain ⟨y,L,a,b,rfl,_⟩:=h.ring r hr;exact S5 t a x hxr
   have l1:=G7 h.nd hin
   have l2:p.length<=rs.flatten.length:=by
     have:=G7 (p:=rs.flatten) (r:=L2.D6 0 p.length) (N5 _) fun x hx=>by
       have hx':=M5.mp hx;obtain ⟨r,hr,hxr⟩:=cw6.mp (h.all x hx'.1 hx'.2);refine ⟨hx'.1,?_⟩
       exact Classical.byContradiction fun hn=>by
         have hle:(rs.flatten.length:Int)<=x:=by omega
         have hlt:=G7 h.nd hin
         have q:(L2.D6 0 (x.toNat+1)).length<=rs.flatten.length:=by
           have sub:∀z∈L2.D6 0 (x.toNat+1),z∈rs.flatten:=fun z hz=>by
             have hz':=M5.mp hz;exact h.all z hz'.1 (by have:=hx'.2;omega)
           have:∀(l m:List Int),l.Nodup->(∀z∈l,z∈m)->l.length<=m.length:=by
             intro l
             induction l with
             |nil=>intro m _ _;exact cv9 _
             |cons c l ih=>
              intro m nd hs;obtain ⟨n1,n2⟩:=cx0.mp nd;obtain ⟨s,u,rfl⟩:=dg5 (hs c ct7)
              have:=ih (s++u) n2 fun z hz=>by
                have hzm:=hs z (ct5 _ hz)
                rcases cu5.mp hzm with g|g
                · exact cx6 _ g
                · rcases cv5.mp g with g|g
                  · subst g;exact absurd hz n1
                  · exact cu7 _ g
              rw[ct6] at this;rw[ct6,cv7,cv7];omega
           exact this _ _ (N5 _) sub
         rw[D1] at q;have:=hx'.1;omega
     rw[D1] at this;exact this
   exact ⟨h.nd,fun x hx=>(hin x hx).1,fun x hx=>by have:=(hin x hx).2;omega⟩
 have hl:rs.flatten.length=p.length:=by
   have l1:=G7 h.nd fun x hx=>by
     obtain ⟨r,hr,hxr⟩:=cw6.mp hx;obtain ⟨y,L,a,b,rfl,_⟩:=h.ring r hr;exact S5 t a x hxr
   have l2:p.length<=rs.flatten.length:=by
     have:=G7 (p:=rs.flatten) (r:=L2.D6 0 p.length) (N5 _) fun x hx=>by
       have hx':=M5.mp hx;have hm:=h.all x hx'.1 hx'.2;exact ⟨hx'.1,i1.hi x hm⟩
     rw[D1] at this;exact this
   omega
 have:=i1.perm;rw[hl] at this;exact this
end Mth
namespace L2
open PySem PySem.Spec PyProof.Rows
theorem bb0:bootBuiltins "sorted"=some (.builtin "sorted"):=by decide+kernel
end L2
namespace L2
open PySem PySem.Spec PyProof.Rows
def ag2:List Expr->Option (List Int)
 |[]=>some []
 | .Constant (.int i) _ _::es=>(ag2 es).map (i:: ·)
 |_::_=>none
def cn0 (ns:List Int):TA:=fun _ H Q=>Q (ns.map V.int) H
def cn1 (ns:List Int):TE:=fun _ H Q=>ns.length<=sizeLine/\∀p,H p=none->Q (.ref p) (c8 H p (.lst (ns.map V.int)))
theorem bb1 (i:Int)(j:Nat)(p:Pos)(es:List Expr)(env:Env):starEach (.Constant (.int i) j p::es) env=(false,eval (.Constant (.int i) j p) env)::starEach es env:=rfl
theorem bb2 {X:Cx}:∀(es:List Expr) (ns:List Int),ag2 es=some ns->PA X es (cn0 ns)
 |[],ns,h=>by
  have:ns=[]:=(Option.some.inj h).symm;subst this
  exact fun pos pins s σ H Q I h=>c6 pos pins s σ H Q I h
 |e::es,ns,h=>by
  unfold ag2 at h
  split at h
  · rename_i h0;cases h0
  · rename_i i j p es' heq;cases heq
    cases ho:ag2 es with
    |none=>rw[ho] at h;cases h
    |some ms=>
     rw[ho] at h;cases h
     exact fun pos pins s σ H Q I h=>(c5 (te:=tC (.int i)) i6 (bb2 es ms ho) (bb1 i j p es X.env)) pos pins s σ H Q I h
  · cases h
theorem S6 {X:Cx}{pos:Pos}{es:List Expr}(ns:List Int)(h:ag2 es=some ns):PE X (.List es pos) (cn1 ns):=fun pins s σ H Q I h'=>x3 (bb2 es ns h) pins s σ H Q I (by
 show (ns.map V.int).length<=sizeLine/\_
 rw[ct1];exact h')
end L2
namespace L2
open PySem PySem.Spec PyProof.Rows
theorem br7 {H:Hp}{a:Addr}{as:List Addr}{r:List Int}{rs:List (List Int)}(h:H a=some (.lst (r.map V.int)))(hr:j7 H as rs):j7 H (a::as) (r::rs):=by
 refine ⟨by rw[cv7,cv7,hr.1],fun j b q h1 h2=> ?_⟩
 cases j with
 |zero=>
  rw[dh9] at h1 h2;cases h1;cases h2;exact h
 |succ j=>
  rw[di0] at h1 h2;exact hr.2 j b q h1 h2
theorem bb3 {H:Hp}:∀{as bs:List Addr} {rs qs:List (List Int)},j7 H as rs->j7 H bs qs->j7 H (as++bs) (rs++qs)
 |[],bs,[],qs,_,h=>h
 |[],bs,r::rs,qs,h,_=>by have:=h.1;simp at this
 |a::as,bs,[],qs,h,_=>by have:=h.1;simp at this
 |a::as,bs,r::rs,qs,h,h'=>br7 (h.2 0 a r rfl rfl) (bb3 ⟨by have:=h.1;simpa using this,fun j b q h1 h2=>h.2 (j+1) b q h1 h2⟩ h')
end L2
namespace L2
open PySem PySem.Spec PyProof.Rows
section
variable {X:Cx}
theorem bx5 {P:Program}{w:World}{k:m9}{u:Value}(h:(A2 P w).is k u=true):l9 (kV k) u:=by
 cases k with
 |inl i=>
  cases u with
  |int j t=>
   have:i=j:=by
     have h2:=KeyKind.is_eq_decide (knd:=A2 P w) (al4 P w j t) (Sum.inl i);rw[h] at h2;have:=of_decide_eq_true h2.symm;exact Sum.inl.inj this
   subst this;exact ⟨t,rfl⟩
  |_=>cases h
 |inr x=>
  cases u with
  |str y t=>
   have:x=y:=by
     have h2:=KeyKind.is_eq_decide (knd:=A2 P w) (al5 P w y t) (Sum.inr x);rw[h] at h2;have:=of_decide_eq_true h2.symm;exact Sum.inr.inj this
   subst this;exact ⟨t,rfl⟩
  |_=>cases h
theorem g9.freeze {pins:List (Addr×Obj)}{σ:St}{H:Hp}{s:Shared}{a:Addr}{kvs:List (m9×V)}{o:Obj}(I:g9 X pins σ H s)(e:H a=some (.dK kvs))(ho:s.heap.get? a=some o):g9 X pins σ (c8 H a (.frz o (.dK kvs))) s:=by
 have ok:w4 X.prog X.w H s.heap a (.dK kvs):=I.hok a _ e;exact aj4 (h':=s.heap) (t':=s.toks) I (by rw[e];exact True.intro) ⟨rfl,fun b _=>rfl⟩ ⟨o,ho⟩ ⟨ho,ok⟩
def Itd (d:Addr)(o:Obj)(kvs:List (m9×V)):It:=
 ⟨fun i H=>H d=some (.frz o (.dK kvs))/\i < kvs.length,fun i H x H'=>H'=H/\∃k v,kvs[i]? =some (k,v)/\x=kV k,fun i H=>H d=some (.frz o (.dK kvs))/\kvs.length<=i⟩
theorem ca6 {P:Program}{w:World}{H:Hp}{h:Heap}{d:Addr}{o:Obj}{kvs:List (m9×V)}(x:w4 P w H h d (.frz o (.dK kvs))){es:Array DictEntry}{ep:Nat}(hd:o.data= .dict es ep):∃vs,KV kvs vs/\h.DictAt (A2 P w) d vs ep:=by
 obtain ⟨ho,_,_,vs,rel,o',es',ep',ho',hc,hd',r⟩:=x;rw[ho] at ho';cases ho';rw[hd] at hd';cases hd';exact ⟨vs,rel,o,es,ho,hc,hd,r⟩
theorem bl1 {α β:Type}{R:α->β->Prop}{xs:List α}{ys:List β}(h:Paired R xs ys):∀{i:Nat} {x:α},xs[i]? =some x->∃y,ys[i]? =some y/\R x y:=by
 induction h with
 |nil=>intro i x e;simp at e
 |cons r _ ih=>
  intro i x e
  cases i with
  |zero=>rw[dh9] at e;cases e;exact ⟨_,rfl,r⟩
  |succ i=>rw[di0] at e;exact ih e
theorem ag3 {P:Program}{w:World}{K:PySem.W.Frag}{tg:Expr}(d it:Addr)(o:Obj)(kvs:List (m9×V))(es:Array DictEntry)(ep:Nat)(hdat:o.data= .dict es ep):as3 P w K tg (Itd d o kvs) [it] it (fun i h=>h.IsKeyIter it d i kvs.length ep) where
 mem:=by simp
 obj:=fun i h st b hb=>by
   have e:b=it:=by simpa using hb
   subst e;obtain ⟨o,e,c,d⟩:=st;exact ⟨o,e,fun v z=>by rw[d] at z;cases z⟩
 keep:=fun i h h' st k=>by
   obtain ⟨o,e,r⟩:=st;exact ⟨o,k it (by simp) o e,r⟩
 item:=by
   intro X hP hw hK hc i pins s σ H E I hf st hg;subst hP hw hK;obtain ⟨hH,hi⟩:=hg;obtain ⟨vs,rel,hat⟩:=ca6 (I.hok d _ hH) hdat;have hl:kvs.length=vs.length:=rel.length;obtain ⟨f0,f1,f2,f3,f4,f5⟩:=hf it (by simp);have e1:kvs[i]? =some (kvs[i].1,kvs[i].2):=ct2 hi;generalize kvs[i].1=k at e1;generalize kvs[i].2=v at e1;obtain ⟨⟨k',u⟩,e2,e3,_⟩:=bl1 rel e1;have e3:k=k':=e3;subst e3;rw[hl] at st
   refine wpAny_pyNext_dict_item st hat e2 fun key h' hk st' sb=> ?_
   have I1:g9 X pins σ H {s with heap:=h'}:=I.turned (t':=s.toks) (fun b o hb e=>(sb.2 b hb).trans e) f0 f1 f3 f4 f5;obtain ⟨o,e,c,dd⟩:=id st';exact ⟨key,rfl,bj9 (s:={s with heap:=h'}) e c dd (by decide) ⟨kV k,H,I1,bx5 hk,⟨rfl,k,v,e1,rfl⟩,by rw[hl];exact st',fun b hb=>(hf b hb).1⟩⟩
 done:=by
   intro X hP hw hK hc i pins s σ H E I hf st hg;subst hP hw hK;obtain ⟨hH,hi⟩:=hg;obtain ⟨vs,rel,hat⟩:=ca6 (I.hok d _ hH) hdat;have hl:kvs.length=vs.length:=rel.length;obtain ⟨f0,f1,f2,f3,f4,f5⟩:=hf it (by simp);rw[hl] at st
   exact wpAny_pyNext_dict_end (I.ok.hd hc) st hat (cu4 (by omega)) fun h' eb=>⟨rfl,I.turned (t':=s.toks) (fun b o hb e=>eb b o hb e) f0 f1 f3 f4 f5⟩
 self:=fun _ _ _ _ _ st h=>wpAny_pyIter_keyiter st h
def cn2 (td:TE):TI:=fun σ H R=>td σ H fun x H1=>∃d kvs,x= .ref d/\H1 d=some (.dK kvs)/\∀o,R (Itd d o kvs) (c8 H1 d (.frz o (.dK kvs)))
theorem bh6 {tg l:Expr}{tl:TE}(hl:PE X l tl):PI X tg l (cn2 tl):=by
 intro pins s σ H R I h
 refine n9 (hl pins s σ H _ I h) fun v s1 ⟨x,H1,I1,r1,q1⟩=> ?_
 obtain ⟨d,kvs,e,hH,q⟩:=q1;subst e;cases r1;obtain ⟨_,hsm,vs,rel,o,es,ep,ho,hc,hdat,rr⟩:=(show w4 X.prog X.w H1 s1.heap d (.dK kvs) from I1.hok d _ hH);have hat:s1.heap.DictAt (A2 X.prog X.w) d vs ep:=⟨o,es,ho,hc,hdat,rr⟩;have I2:=I1.freeze hH ho;refine wpAny_pyIter_dict hsm hat ?_;have hlen:kvs.length=vs.length:=rel.length;refine ⟨s1.heap.objs.size,[s1.heap.objs.size],_,_,_,rfl,I2.kept (t':=s1.toks) fun b o e=>Heap.get?_push_of_some _ e,ag3 d _ o kvs es ep hdat,⟨_,Heap.get?_push_size _ rfl,rfl,by rw[hlen];rfl⟩,fun b hb=> ?_,q o⟩
 have e:b=s1.heap.objs.size:=by simpa using hb
 subst e;exact I2.fpOk (ct4 _) (I2.hok.fresh (ct4 _))
theorem bb4 {d:Addr}{o:Obj}{kvs:List (m9×V)}{g:TG}{tb:TS}{D:R7}{σ:St}{H:Hp}(Pv:Nat->St->Hp->Prop)(h0:Pv 0 σ H)(hl:∀i σ H,i<=kvs.length->Pv i σ H->H d=some (.frz o (.dK kvs)))
   (hs:∀i k v σ H,kvs[i]? =some (k,v)->Pv i σ H->g (kV k) σ H fun σ2 H2=>tb {D with nx:=Pv (i+1),ct:=Pv (i+1),bk:=D.nx} σ2 H2) (hd:∀σ H,Pv kvs.length σ H->D.nx σ H):
   ∃W:Nat->Nat->St->Hp->Prop,(∃m,W 0 m σ H)/\∀i m σ H,W i m σ H->
    ((Itd d o kvs).stop i H/\D.nx σ H)\/((Itd d o kvs).go i H/\∃N:St->Hp->Prop,(∀σ' H',N σ' H'->∃m',m' < m/\W (i+1) m' σ' H')/\∀x H',(Itd d o kvs).yld i H x H'->g x σ H' fun σ2 H2=>tb {D with nx:=N,ct:=N,bk:=D.nx} σ2 H2):=by
 refine ⟨fun i m σ H=>m=kvs.length - i/\i<=kvs.length/\Pv i σ H,⟨kvs.length,by simp,cv9 _,h0⟩,?_⟩;rintro i m σ H ⟨rfl,hi,p⟩;have q:=hl i σ H hi p
 by_cases hlt:i < kvs.length
 · refine .inr ⟨⟨q,hlt⟩,Pv (i+1),fun σ' H' p'=>⟨kvs.length - (i+1),by omega,rfl,hlt,p'⟩,fun x H' y=> ?_⟩;obtain ⟨e,k,v,y1,y2⟩:=y;subst e y2;exact hs i k v σ _ y1 p
 · have e:i=kvs.length:=by omega
   subst e;exact .inl ⟨⟨q,ct4 _⟩,hd σ H p⟩
theorem aa2 {prog:Program}{w:World}{κ:Type}[DecidableEq κ](knd:KeyKind prog w κ){k:κ}{key:Value}(d:Addr)(hkey:knd.is k key=true)(hd:(d==sysModules)=false)(dflt:Value):
   MeetsIn prog w (Builtin.«dict.setdefault» ⟨[.ref d,key,dflt],[]⟩) (fun _ R s=>∃kvs,s.heap.DictOf knd d kvs/\kvs.length<=sizeLine/\
     (∀v,valueAt kvs k=some v->R (.ok (.ret v)) {s with toks:=s.toks+1})/\
     (valueAt kvs k=none->∀h',h'.DictOf knd d (kvs++[(k,dflt)])->Heap.SameBut d s.heap h'->R (.ok (.ret dflt)) {s with heap:=h',toks:=s.toks+1})):=
 .of_wp fun A R s ⟨kvs,hm,hz,h1,h2⟩=>by
   unfold Builtin.«dict.setdefault»;refine wpAny_bind ?_;unfold Builtin.Dict.keyAndDefault;refine wpAny_bind (wpAny_notOrdered_dict hm.typeIs ?_);show wpAny _ _ (pure (d,key,some dflt)) _ _ s;refine wpAny_pure ?_;show wpAny _ _ (if (d==sysModules)=true then _ else (dictSetDefault d key dflt >>=_)) _ _ s;rw[if_neg (by rw[hd];exact cu8)];obtain ⟨o,es,ep,ho,hc,hdat,hk,hp,hn⟩:=id hm
   have hes:es.size<=sizeLine:=by
     have e1:=hp.length
     have e2:es.toList.length=es.size:=by simp
     omega
   have hf:=hm.mapOf;refine wpAny_bind ?_;unfold dictSetDefault
   try with_reducible refine wpAny_holding ?_
   refine wpAny_bind (knd.pyHash hkey ?_);refine wpAny_bind (wpAny_dictFind_of (s:={s with toks:=s.toks+1}) hkey ho hdat hk ?_)
   have hidx:(es.findIdx? fun e=>knd.is k e.key)=kvs.findIdx? fun kv=>decide (kv.1=k):=by
     rw[<-hp.findIdx k];obtain ⟨l⟩:=es;simp
   have hfb:findBy knd.is es k=valueAt kvs k:=by
     rw[<-hp.find k];obtain ⟨l⟩:=es;simp [findBy]
   rw[findBy_of_findIdx?] at hfb
   cases hi:es.findIdx? fun e=>knd.is k e.key with
   |some i=>
    refine wpAny_bind (wpAny_dictEntries (s:={s with toks:=s.toks+1}) ho hdat ?_)
    cases he:es[i]? with
    |none=>
     exfalso;have:=Array.findIdx?_eq_some_iff_findIdx_eq.mp hi;have hlt:i < es.size:=this.1;rw[dh3 hlt] at he
     exact nomatch he
    |some e=>
     refine wpAny_bind (wpAny_rule (wpAny_pure (wpAny_pure ⟨e.val,rfl,h1 e.val ?_⟩)));rw[hi] at hfb;rw[<-hfb];show Option.map _ es[i]? =_;rw[he];rfl
   |none=>
    have hnot:k∉kvs.map (·.1):=not_mem_of_findIdx_none (hidx▸hi)
    have hnone:valueAt kvs k=none:=by rw[hi] at hfb;exact hfb.symm
    refine wpAny_bind (wpAny_rule (wpAny_bind (wpAny_updateDictKeys (hz:=hes) (s:={s with toks:=s.toks+1}) ho hdat (wpAny_pure (wpAny_pure ⟨dflt,rfl,h2 hnone _ ⟨_,_,ep+1,Heap.get?_update_self _ ho (Obj.isFreed_of_dict (Obj.data_mapDictKeys hdat _)),
      hc.mapDictKeys _,Obj.data_mapDictKeys hdat _,hk.push hkey _,?_,?_⟩ (Heap.SameBut.update ..)⟩)))))
    · have:=hp.append hkey (knd.hash k) dflt;obtain ⟨l⟩:=es
      simpa using this
    · rw[ct9,cy3];refine ⟨hn,by simp,?_⟩;intro a ha b hb;simp only[cy4,dc2,cv6] at hb;subst hb
      exact fun e=>hnot (e▸ha)
def bh7:V->List V->Hp->VK->Prop:=fun x vs H Q=>∃(d:Addr) (kvs:List (m9×V)) (k:m9) (y:V),x= .ref d/\vs=[kV k,y]/\H d=some (.dK kvs)/\kvs.length < sizeLine/\
 (∀v,B9 kvs k=some v->Q v H)/\(B9 kvs k=none->Q y (c8 H d (.dK (kvs++[(k,y)]))))
theorem br8:MtM X "dict.setdefault" bh7:=by
 intro pins s σ H x vs v us Q I rx rv h;obtain ⟨d,kvs,k,y,rfl,rfl,hH,hlen,q1,q2⟩:=h;cases rx
 cases rv with
 |cons rk rr=>
  cases rr with
  |cons ry rn=>
   cases rn;obtain ⟨z,hd,ws,rel,dd⟩:=ca4 I.hok hH
   refine call_meetsIn PySem.F.slot_dict_setdefault dd.typeIs PySem.F.entry_dict_setdefault (PySem.F.args_dict_setdefault_3 _ _ _) (aa2 (A2 X.prog X.w) d (aj3 rk) hd _)
     ⟨ws,dd,by rw[<-rel.length];exact z,fun u hu=> ?_,fun hn h' dd' hs=> ?_⟩
   · have:=rel.val k;rw[hu] at this
     cases hv:B9 kvs k with
     |none=>rw[hv] at this;cases this
     |some v=>
      rw[hv] at this;exact ⟨v,H,I.tok _,this,q1 v hv⟩
   · have hvn:B9 kvs k=none:=by
       have:=rel.val k;rw[hn] at this
       cases hv:B9 kvs k with
       |none=>rfl
       |some v=>rw[hv] at this;cases this
     have he:∃q,h'.get? d=some q:=let ⟨q,_,_,hq,_⟩:=dd';⟨q,hq⟩;have rel':=rel.put k ry
     have hany:¬(ws.any fun kv=>decide (kv.1=k))=true:=by
       rw[List.any_eq_true];rintro ⟨kv,hkv,hek⟩;unfold valueAt at hn
       cases hf:ws.find? (fun kv=>decide (kv.1=k)) with
       |none=>exact List.find?_eq_none.mp hf kv hkv hek
       |some y=>rw[hf] at hn;cases hn
     rw[am7 y hvn,stored,if_neg hany] at rel';exact ⟨y,_,aj4 I (by rw[hH];exact True.intro) hs he (bp3 (by rw[ct6];exact hlen) hd rel' dd'),ry,q2 hvn⟩
theorem br9 {o e f:Expr}{to:TE}{t:TA}{apos pos:Pos}(ho:PE X o to)(ha:PA X [e,f] t)
   (hbase:attributeBase o "setdefault" X.env (eval o X.env)=eval o X.env:=by rfl)
   (hfew:((backTo pos (starEach [e,f] X.env)).all (fun x=> !x.1)&&(backToKw pos (keywordEach [] X.env)).all (fun x=>x.1.isSome)
     &&decide ([e,f].length+([]:List Keyword).length+(if ([]:List Keyword).isEmpty then 0 else 1) < 30))=true:=by rfl)
   (hline:(apos.endLine==pos.line)=true:=by rfl) (hs:starEach [e,f] X.env=(false,eval e X.env)::starEach [f] X.env:=by rfl) (hplain:(backTo pos (starEach [f] X.env)).any (·.1)=false:=by rfl):
   PE X (.Call (.Attribute o "setdefault" apos) [e,f] [] pos) (tBM X.K "dict" bh7 to t):=
 ay1 PySem.F.plainAttrs_dict PySem.F.slot_dict_setdefault PySem.F.type_dict_setdefault br8 ho ha hbase hfew hline hs hplain
theorem bs1:bootBuiltins "int"=some (.type "int"):=by decide+kernel
theorem bs2:N3 X (.type "int") (fun xs H Q=>∃b,xs=[.bl b]/\Q (.int (if b then 1 else 0)) H):=by
 intro pins s σ H xs us Q I r h;obtain ⟨b,rfl,q⟩:=h;obtain ⟨u,rfl,rx⟩:=Y8 r;cases rx;exact call_int_bool ⟨.int _,H,I.tok _,⟨_,rfl⟩,q⟩
theorem bh8 {e:Expr}{t:TA}{p pos:Pos}(hm:X.mg "int"=none)(ha:PA X [e] t)(hg:Gl X "int":=by rfl)(he:starEach [e] X.env=(false,eval e X.env)::starEach [] X.env:=by rfl):
   PE X (.Call (.Name "int" p) [e] [] pos) (W9 (fun xs H Q=>∃b,xs=[.bl b]/\Q (.int (if b then 1 else 0)) H) t):=
 Y9 bs2 hg hm bs1 ha (by decide) (by decide) he rfl
end
theorem cc8 (xs:List V)(k j:Nat)(h:k<=xs.length):M4 xs (some (k:Int)) (some (j:Int))=(xs.drop k).take (min j xs.length - k):=by
 unfold M4;rw[HT.cr6,HT.cr6,dd0 h]
end L2
namespace Mth
def C8 (l:Nat):Nat->Nat
 |0=>1
 |c+1=>C8 l c*l*(c+1)
def o8 (f:Nat->Nat):List Nat->Nat
 |[]=>1
 |x::xs=>f x*o8 f xs
theorem ag4 (f:Nat->Nat):∀xs ys,o8 f (xs++ys)=o8 f xs*o8 f ys
 |[],ys=>by rw[List.nil_append];exact (Nat.one_mul _).symm
 |x::xs,ys=>by
  show f x*o8 f (xs++ys)=f x*o8 f xs*o8 f ys;rw[ag4 f xs ys,dd1]
theorem ap8 (f:Nat->Nat)(xs:List Nat)(x:Nat):o8 f (xs++[x])=o8 f xs*f x:=by
 rw[ag4];show o8 f xs*(f x*1)=_;rw[Nat.mul_one]
theorem bl2 {f:Nat->Nat}{xs ys:List Nat}(h:xs.Perm ys):o8 f xs=o8 f ys:=by
 induction h with
 |nil=>rfl
 |cons x _ ih=>show f x*o8 f _=f x*o8 f _;rw[ih]
 |swap x y l=>show f y*(f x*o8 f l)=f x*(f y*o8 f l);rw[<-dd1,Nat.mul_comm (f y),dd1]
 |trans _ _ i1 i2=>rw[i1,i2]
theorem ap9 {f:Nat->Nat}:∀{us:List Nat},(∀u∈us,f u=1)->o8 f us=1
 |[],_=>rfl
 |u::us,h=>by
  show f u*o8 f us=1;rw[h u ct7,ap9 fun x hx=>h x (ct5 _ hx)]
theorem aw0 {f:Nat->Nat}:∀{ks us:List Nat},ks.Nodup->us.Nodup->(∀k∈ks,k∈us)->(∀u∈us,u∉ks->f u=1)->o8 f ks=o8 f us
 |[],us,_,_,_,h=>(ap9 fun u hu=>h u hu (by simp)).symm
 |k::ks,us,nk,nu,sub,h=>by
  obtain ⟨nk1,nk2⟩:=cx0.mp nk;have hk:k∈us:=sub k ct7;rw[bl2 (List.perm_cons_erase hk)];show f k*o8 f ks=f k*o8 f (us.erase k)
  have ih:o8 f ks=o8 f (us.erase k):=by
    refine aw0 nk2 (nu.erase k) (fun x hx=> ?_) fun u hu hn=> ?_
    · have hxk:x≠k:=fun e=>nk1 (by rw[<-e];exact hx)
      exact (List.mem_erase_of_ne hxk).mpr (sub x (ct5 _ hx))
    · obtain ⟨h1,h2⟩:=(List.Nodup.mem_erase_iff nu).mp hu
      refine h u h2 fun z=> ?_
      rcases cv5.mp z with e|e
      · exact h1 e
      · exact hn e
  rw[ih]
def C9 (rs:List (List Int))(l:Nat):Nat:=rs.countP fun r=>decide (r.length=l)
theorem aq0 {g:Int->Nat}{l:Nat}:∀{rs:List (List Int)},(∀r∈rs,∀x∈r,g x=r.length)->(rs.flatten.countP fun x=>decide (g x=l))=l*C9 rs l
 |[],_=>by simp [C9]
 |r::rs,h=>by
  have ih:=aq0 (l:=l) (rs:=rs) fun q hq=>h q (ct5 _ hq)
  rw[cz1,List.countP_append,ih];unfold C9;rw[db2];have hr:=h r ct7
  by_cases e:r.length=l
  · have:(r.countP fun x=>decide (g x=l))=r.length:=List.countP_eq_length.mpr fun x hx=>by rw[hr x hx];exact decide_eq_true e
    rw[this,e];simp only[decide_true,if_true];rw[Nat.mul_add,Nat.mul_one,dc3]
  · have:(r.countP fun x=>decide (g x=l))=0:=db9.mpr fun x hx=>by rw[hr x hx];simpa using e
    rw[this];simp [e]
theorem cc9 {p:List Int}(t:A0 p){rs:List (List Int)}(up:y8 p p.length rs):∀r∈rs,∀x∈r,N7 p x=r.length:=by
 intro r hr x hx;obtain ⟨y,L,hy,pr,er,_⟩:=up.ring r hr;subst er;obtain ⟨j,hj,rfl⟩:=G5.mp hx;rw[w9];exact ac6 (pr.shift t hy j)
theorem ag5 {p:List Int}(t:A0 p){rs:List (List Int)}(up:y8 p p.length rs)(l:Nat):((((cw9 p.length).map fun (i:Nat)=>(N7 p (i:Int):Int))).countP fun i=>decide (i=(l:Int)))=l*C9 rs l:=by
 rw[<-aq0 (cc9 t up)];rw[(cc7 t up).countP_eq,dd2];unfold L2.D6;rw[dd2]
 refine de9 fun i hi=> ?_
 simp
 constructor<;>intro h<;>omega
theorem cd0 {rs:List (List Int)}{l:Nat}(h:C9 rs l≠0):∃r∈rs,r.length=l:=by
 unfold C9 at h;obtain ⟨r,hr,e⟩:=List.countP_pos_iff.mp (Nat.pos_of_ne_zero h);exact ⟨r,hr,of_decide_eq_true e⟩
theorem ag6 {p:List Int}(t:A0 p){rs:List (List Int)}(up:y8 p p.length rs){ks:List Nat}(nk:ks.Nodup)(h1:∀k∈ks,∃r∈rs,r.length=k)(h2:∀r∈rs,r.length∈ks){g:Nat->Nat}(hg:∀l,g (l+1)=C8 (l+1) (C9 rs (l+1))):
   o8 (fun l=>C8 l (C9 rs l)) ks=o8 g ((cw9 p.length).map (· +1)):=by
 have e:o8 g ((cw9 p.length).map (· +1))=o8 (fun l=>C8 l (C9 rs l)) ((cw9 p.length).map (· +1)):=by
   induction cw9 p.length with
   |nil=>rfl
   |cons x xs ih=>
    show g (x+1)*o8 g (xs.map (· +1))=C8 (x+1) (C9 rs (x+1))*o8 _ (xs.map (· +1));rw[ih,hg]
 rw[e]
 refine aw0 nk ?_ (fun k hk=> ?_) fun u hu hn=> ?_
 · exact List.Pairwise.map (fun x:Nat=>x+1) (fun a b h=>by omega) (List.nodup_range (n:=p.length))
 · obtain ⟨r,hr,rfl⟩:=h1 k hk;obtain ⟨y,L,hy,pr,er,_⟩:=up.ring r hr
   have b:=N6 t hy (m:=L) fun i i0 i1=>pr.least i i0 i1
   have:=pr.pos;rw[er,w9];exact cu3.mpr ⟨L - 1,cy9.mpr (by omega),by omega⟩
 · have:C9 rs u=0:=by
     by_cases z:C9 rs u=0
     · exact z
     · obtain ⟨r,hr,rfl⟩:=cd0 z;exact absurd (h2 r hr) hn
   show C8 u (C9 rs u)=1;rw[this];rfl
end Mth
namespace Mth
theorem bb5 {p:List Int}(t:A0 p):∀i,i<=p.length->y8 p i (o6 p i)
 |0,_=>ap5 p
 |i+1,h=>by
  have ih:=bb5 t i (by omega);show y8 p (i+1) (if (i:Int)∈(o6 p i).flatten then o6 p i else o6 p i++[o4 p i (N7 p i)]);have hx:In p (i:Int):=⟨by omega,by omega⟩
  by_cases hi:(i:Int)∈(o6 p i).flatten
  · rw[if_pos hi];exact ap6 ih hi
  · rw[if_neg hi];obtain ⟨L,hL⟩:=cj0 t hx;rw[ac6 hL];exact ap7 t ih hx hL hi
theorem an1 {p:List Int}(t:A0 p):y8 p p.length (o6 p p.length):=bb5 t _ (ct4 _)
end Mth
namespace Mth
def C2 (rs:List (List Int))(l:Nat):List (List Int):=rs.filter fun r=>decide (r.length=l)
end Mth
namespace Mth
theorem cd1 {n c:Int}(hn:1<=n)(hc:0<=c):∃mx,(if (if c < n then c else n) > 1 then (if c < n then c else n) else (1:Int))=mx/\1<=mx/\mx<=n:=by
 refine ⟨_,rfl,?_⟩
 split<;>split at* <;>omega
end Mth
namespace L2
open PySem PySem.Spec PyProof.Rows
def KI (kvs:List (m9×V))(ns:List Int):Prop:=kvs.map (·.1)=ns.map Sum.inl
theorem bb6:∀{kvs:List (m9×V)} {ns:List Int},KI kvs ns->∀k:Int,k∈ns↔∃v,B9 kvs (Sum.inl k:m9)=some v
 |[],[],_,k=>⟨fun h=>by simp at h,fun ⟨v,h⟩=>by cases h⟩
 |[],n::ns,h,_=>by unfold KI at h;simp at h
 |p::kvs,[],h,_=>by unfold KI at h;simp at h
 |p::kvs,n::ns,h,k=>by
  unfold KI at h;rw[cy4,cy4] at h
  injection h with h1 h2
  by_cases e:n=k
  · have:p.1=(Sum.inl k:m9):=by rw[h1,e]
    rw[R9 this];exact ⟨fun _=>⟨_,rfl⟩,fun _=>by rw[e];exact ct7⟩
  · have:¬p.1=(Sum.inl k:m9):=fun z=>e (by rw[h1] at z;exact Sum.inl.inj z)
    rw[O9 this];constructor
    · intro hm
      rcases cv5.mp hm with z|z
      · exact absurd z.symm e
      · exact (bb6 (show KI kvs ns from h2) k).mp z
    · intro hv;exact ct5 _ ((bb6 (show KI kvs ns from h2) k).mpr hv)
theorem cd2 {kvs:List (m9×V)}{ns:List Int}(h:KI kvs ns){k:Int}(hk:k∉ns):B9 kvs (Sum.inl k:m9)=none:=by
 cases e:B9 kvs (Sum.inl k:m9) with
 |none=>rfl
 |some v=>exact absurd ((bb6 h k).mpr ⟨v,e⟩) hk
theorem bs3 {d:Addr}{o:Obj}{kvs:List (m9×V)}{g:TG}{tc:TT}{te:TE}{σ0:St}{H:Hp}{Q:VK}(Pv:Nat->List V->St->Hp->Prop)(h0:Pv 0 [] σ0 H)(hl:∀i ys σ H,i<=kvs.length->Pv i ys σ H->H d=some (.frz o (.dK kvs)))
   (hs:∀i k v ys σ H,kvs[i]? =some (k,v)->Pv i ys σ H->g (kV k) σ H fun σ2 H2=>tc σ2 H2 fun b H4=>if b=true then te σ2 H4 fun y H5=>ys.length < sizeLine/\Pv (i+1) (ys++[y]) σ2 H5 else Pv (i+1) ys σ2 H4)
   (hd:∀ys σ H,Pv kvs.length ys σ H->∀D,H D=none->Q (.ref D) (c8 H D (.lst ys))):
   ap2 (Itd d o kvs) g tc te Q σ0 H:=by
 refine ⟨fun i m ys σ H=>m=kvs.length - i/\i<=kvs.length/\Pv i ys σ H,⟨kvs.length,by simp,cv9 _,h0⟩,?_⟩;rintro i m ys σ H ⟨rfl,hi,p⟩;have q:=hl i ys σ H hi p
 by_cases hlt:i < kvs.length
 · refine .inr ⟨⟨q,hlt⟩,Pv (i+1),fun ys' σ' H' p'=>⟨kvs.length - (i+1),by omega,rfl,hlt,p'⟩,fun x H' y=> ?_⟩;obtain ⟨e,k,v,y1,y2⟩:=y;subst e y2;exact hs i k v ys σ _ y1 p
 · have e:i=kvs.length:=by omega
   subst e;exact .inl ⟨⟨q,ct4 _⟩,hd ys σ H p⟩
end L2
namespace L2
open PySem PySem.Spec PyProof.Rows
theorem D2.hide {P:Program}{w:World}{H:Hp}{h:Heap}{as:List Addr}(x:D2 P w H h)(hn:∀b∈as,H b=none):D2 P w H (PySem.W.hideAll h as):=fun a o e=>
 (x a o e).stay (fun b u hb q=>PySem.W.hideAll_get _ q fun hm=>by
   have:=hn b hm
   rcases hb with rfl|hb
   · rw[e] at this;cases this
   · rw[hb] at this;cases this) (fun _ q=>q) fun _ _ q=>q
def Z3 (P:Program)(w:World):W8:=fun outer H s E e s'=>
 ∃(a t C:Addr) (vs:List Value) (B:Heap) (H':Hp),e= .ref a/\s'.os=s.os/\AllBare s'.gens/\Un (B8 outer) [] H H' s.heap s'.heap/\D2 P w H' B/\
  (∀b o,s.heap.get? b=some o->H b=none->b∉B8 outer->B.get? b=some o)/\(∀b o,s.heap.get? b=some o->b∉B8 outer->∃o',B.get? b=some o')/\
  Heap.FlyingW B outer a (.ref C) (.ref t) s'.heap/\s'.heap.TupAt t vs/\B.get? t=none/\E (.ref C) none H'
theorem bb7 {fs:List Addr}{H0 H1:Hp}{h0 h1 h2 B:Heap}(u:Un fs [] H0 H1 h0 h1)(kb:∀b o,h0.get? b=some o->H0 b=none->b∉fs->B.get? b=some o)(tb:∀b o,h0.get? b=some o->b∉fs->∃o',B.get? b=some o')
   (st:B.StaysIn h2) (up:h1.UpToSlots h2) (fr:∀b∈fs,∀o,h1.get? b=some o->∀vs,o.data≠.fields vs):Un fs [] H0 H1 h0 h2 where
 keep:=fun b o q n hb _=>st b o (kb b o q n hb)
 slot:=fun b o q n hb hx=>by
   obtain ⟨sl,e⟩:=u.slot b o q n hb hx;obtain ⟨sl2,e2⟩:=up b _ e (fr b hb _ e);exact ⟨sl2,e2⟩
 free:=u.free
 there:=fun b o q hx=>by
   by_cases hb:b∈fs
   · obtain ⟨o',e⟩:=u.there b o q hx;obtain ⟨sl,e2⟩:=up b o' e (fr b hb _ e);exact ⟨_,e2⟩
   · obtain ⟨o',e⟩:=tb b o q hb;exact ⟨o',st b o' e⟩
 tups:=u.tups
 frzs:=u.frzs
 tbls:=u.tbls
def bs4 (X:Cx)(E:XK):Prop:=∀(pins:List (Addr×Obj)) (σ:St) (H:Hp) (s:Shared) (h':Heap) (e C:Addr) (vs:List Value),g9 X pins σ H s->Heap.MadeExcOf s.heap h' e (.ref C) vs->E (.ref C) none H->X.xe (.ref e) {s with heap:=h'}
theorem bb8 {X:Cx}{pins:List (Addr×Obj)}{σ:St}{H:Hp}{s:Shared}(I:g9 X pins σ H s):∀b∈B8 X.stack,∀o,s.heap.get? b=some o->∀vs,o.data≠.fields vs:=fun b hb o ho=>by
 obtain ⟨_,o',ho',hn⟩:=I.stack.mem hb;rw[ho] at ho';cases ho';exact hn
section
variable {P:Program} {w:World} {K:PySem.W.Frag} {mg:Str->Option Value} {base:Heap} {N:List Str} {qual:Str} {scope:Scope} {f:Addr} {cd:Value} {A:Around} {outer:List Env} {s₀:Shared} {H₀:Hp} {E E':XK}
theorem T9 {pins:List (Addr×Obj)}{σ:St}{H:Hp}{s:Shared}(I:g9 (aa0 (Z3 P w) P w K mg base N qual scope f cd A outer s₀ H₀ E) pins σ H s){b:Addr}{o:Obj}(h:s₀.heap.get? b=some o)(hb:b∉B8 outer):
   b∉B8 (envOfC qual scope s₀.heap.objs.size f cd::outer):=fun hm=>by
 unfold B8 at hm hb;rw[da0] at hm;have hf:(envOfC qual scope s₀.heap.objs.size f cd).frame=some s₀.heap.objs.size:=rfl;rw[hf] at hm
 rcases cv5.mp hm with z|z
 · have:=Heap.lt_size h;rw[z] at this;exact absurd this (da3 _)
 · exact hb z
theorem aw1:bs4 (aa0 (Z3 P w) P w K mg base N qual scope f cd A outer s₀ H₀ E) E:=by
 intro pins σ H s h' e C vs I hx hE;show wpAny (model P w) _ (leaving _ (.ref e)) _ _ _
 have hin:∀env∈(envOfC qual scope s₀.heap.objs.size f cd::outer),∀b,env.frame=some b->b∈B8 (envOfC qual scope s₀.heap.objs.size f cd::outer):=fun env he b hb=>dg4.mpr ⟨env,he,hb⟩
 have hst:s.heap.FunFrames base (envOfC qual scope s₀.heap.objs.size f cd::outer):=I.stack;have hsf:∀b∈B8 (envOfC qual scope s₀.heap.objs.size f cd::outer),H b=none:=I.stkFree;have hub:Un (B8 outer) [] H₀ H s₀.heap s.heap:=I.base
 refine wpAny_leaves_madeW (base:=PySem.W.hideAll s.heap (B8 (envOfC qual scope s₀.heap.objs.size f cd::outer))) (h:=s.heap) I.ok.frames rfl (fun b o q=>PySem.W.of_hideAll _ q) (PySem.W.funFrames_hide hst hin) hx fun h2 t fl tup tn up=> ?_
 have up':s.heap.UpToSlots h2:=(Heap.UpToSlots.of_keeps hx.keeps).trans up
 have kb:∀b o,s₀.heap.get? b=some o->H₀ b=none->b∉B8 outer->(PySem.W.hideAll s.heap (B8 (envOfC qual scope s₀.heap.objs.size f cd::outer))).get? b=some o:=fun b o q n hb=>
   PySem.W.hideAll_get _ (hub.keep b o q n hb (by simp)) (T9 I q hb)
 have tb:∀b o,s₀.heap.get? b=some o->b∉B8 outer->∃o',(PySem.W.hideAll s.heap (B8 (envOfC qual scope s₀.heap.objs.size f cd::outer))).get? b=some o':=fun b o q hb=>by
   obtain ⟨o',e'⟩:=hub.there b o q (by simp);exact ⟨o',PySem.W.hideAll_get _ e' (T9 I q hb)⟩
 refine ⟨e,t,C,vs,_,H,rfl,I.os,I.bare,bb7 hub kb tb fl.1 up' (fun b hb o ho=> ?_),I.hok.hide hsf,kb,tb,fl,tup,tn,hE⟩;exact bb8 I b (by show b∈B8 (envOfC qual scope s₀.heap.objs.size f cd::outer);unfold B8 at hb ⊢;rw[da0];exact ct5 _ hb) o ho
theorem bs5 (imp:∀c d H,E c d H->E' c d H):af1 (Z3 P w) (aa0 (Z3 P w) P w K mg base N qual scope f cd A outer s₀ H₀ E') E:=by
 intro pins σ H s e s' I h;obtain ⟨a,t,C,vs,B,H',rfl,os,bare,un,hok,kb,tb,fl,tup,tn,hE⟩:=h;show wpAny (model P w) _ (leaving _ (.ref a)) _ _ _;have hub:Un (B8 outer) [] H₀ H s₀.heap s.heap:=I.base;have un':Un (B8 (envOfC qual scope s₀.heap.objs.size f cd::outer)) [] H H' s.heap s'.heap:=un
 have sub:∀b,b∈B8 outer->b∈B8 (envOfC qual scope s₀.heap.objs.size f cd::outer):=fun b hb=>by
   unfold B8 at hb ⊢;rw[da0];exact ct5 _ hb
 refine wpAny_leaves_onW (L:=s₀.heap.objs.size) I.ok.frames rfl fl fun h2 fl2 up=> ?_
 have kb':∀b o,s₀.heap.get? b=some o->H₀ b=none->b∉B8 outer->B.get? b=some o:=fun b o q n hb=>
   kb b o (hub.keep b o q n hb (by simp)) (hub.free b o q n (by simp)) (T9 I q hb)
 have tb':∀b o,s₀.heap.get? b=some o->b∉B8 outer->∃o',B.get? b=some o':=fun b o q hb=>by
   obtain ⟨o',e'⟩:=hub.there b o q (by simp);exact tb b o' e' (T9 I q hb)
 have plain:∀b∈B8 outer,∀o,s'.heap.get? b=some o->∀vs,o.data≠.fields vs:=fun b hb o ho=>by
   obtain ⟨_,o1,ho1,hn⟩:=I.stack.mem (sub b hb);obtain ⟨sl,e1⟩:=un'.slot b o1 ho1 (I.stkFree b (sub b hb)) (sub b hb) (by simp);rw[ho] at e1;cases e1;exact hn
 have unw:Un (B8 outer) [] H₀ H' s₀.heap s'.heap:={
   keep:=fun b o q n hb _=>un'.keep b o (hub.keep b o q n hb (by simp)) (hub.free b o q n (by simp)) (T9 I q hb) (by simp)
   slot:=fun b o q n hb _=>by
     obtain ⟨sl,e1⟩:=hub.slot b o q n hb (by simp);obtain ⟨sl2,e2⟩:=un'.slot b _ e1 (hub.free b o q n (by simp)) (sub b hb) (by simp);exact ⟨sl2,e2⟩
   free:=fun b o q n _=>by
     obtain ⟨sl,e1⟩:=hub.any q n (by simp);exact un'.free b _ e1 (hub.free b o q n (by simp)) (by simp)
   there:=fun b o q _=>by
     obtain ⟨o',e1⟩:=hub.there b o q (by simp);exact un'.there b o' e1 (by simp)
   tups:=fun b xs q=>un'.tups b xs (hub.tups b xs q)
   frzs:=fun b o u q=>un'.frzs b o u (hub.frzs b o u q)
   tbls:=fun b ps q=>by
     obtain ⟨m1,q1⟩:=hub.tbls b ps q;obtain ⟨m2,q2⟩:=un'.tbls b _ q1
     exact ⟨m1++m2,by rw[q2,Array.append_assoc]⟩}
 exact ⟨a,t,C,vs,B,H',rfl,os.trans I.os,bare,bb7 unw kb' tb' fl2.1 up plain,hok,kb',tb',fl2,tup.of_slots up,tn,imp _ _ _ hE⟩
end
theorem cd3 {K:PySem.W.Frag}{h:Heap}{C:Addr}{bmB:List Value}{newId:String}(X:K.In h)(q:PySem.W.excIn K C bmB newId=true):
   ∃(bm:List Value) (N:Addr) (nm qn:Str) (bs:List Value) (hdct:Bool) (sn:List Str) (sub:List Value) (ab:Bool) (col:Option Bool) (dd:Option Addr) (k0 k1 k2 k3 k5:Option Value) (mN:Str->Option Value),
    K.lookup C=some (excClassObj nm qn C N bs bm hdct sn sub ab col dd k0 k1 k2 k3 k5 newId)/\h.Ns N mN/\mN "__init__"=none/\OwnTail h bmB bm:=by
 unfold PySem.W.excIn at q
 split at q
 · rename_i dd cd sl look
   split at q
   · rename_i C' bm k0 k1 k2 k3 n k5 hmro hsl;rw[cx7,cx7,cx7,cx7,cx7] at q;obtain ⟨⟨⟨⟨⟨q1,q2⟩,q3⟩,q4⟩,q5⟩,q6⟩:=q;have e1:C'=C:=beq_iff_eq.mp q1;have e2:n=newId:=beq_iff_eq.mp q2;subst e1 e2;obtain ⟨nm,bs,mro,ns,qn,hd,sn,sub,ab,col,del⟩:=cd;have e3:mro= .ref C'::bm:=hmro
     have e4:del=false:=by
       cases del with
       |false=>rfl
       |true=>cases q3
     subst e3 e4
     have e5:sl= #[k0,k1,k2,k3,some (.builtin n),k5]:=by
       apply Array.ext'
       exact hsl
     subst e5;exact ⟨bm,ns,nm,qn,bs,hd,sn,sub,ab,col,dd,k0,k1,k2,k3,k5,_,look,.of_isNs (PySem.W.isNs_of_in X q5),PySem.W.nsMap_none_of_in X q5 (beq_iff_eq.mp q6),PySem.W.tail_of_in X q4⟩
   · cases q
 · cases q
abbrev veB:List Value:=[.type "ValueError",.type "Exception",.type "BaseException",.type "object"]
structure Z4 (K:PySem.W.Frag)(mg:Str->Option Value)(x:Str)(C:Addr):Prop where
 mg:mg x=some (.ref C)
 ex:PySem.W.excIn K C veB "ValueError.__new__"=true
section
variable {X:Cx}
theorem bb9 {x:Str}{C:Addr}{E:XK}{e:Expr}{te:TE}{np cpos pos:Pos}(R:bs4 X E)(hc:X.calm=true)(c:Z4 X.K X.mg x C)(he:PE X e te)(hg:Gl X x:=by rfl)
   (hs:starEach [e] X.env=(false,eval e X.env)::starEach [] X.env:=by rfl) (hd:(x==("__debug__":Str))=false:=by decide):
   PS X (.Raise (some (.Call (.Name x np) [e] [] cpos)) none pos) (fun _ σ H=>te σ H fun _ H1=>E (.ref C) none H1):=by
 intro pins s σ H D I h;obtain ⟨bm,N,nm,qn,bs,hdct,sn,sub,ab,col,dd,k0,k1,k2,k3,k5,mN,hC,hN,hni,T⟩:=cd3 I.ok.mod.kin c.ex
 refine wpAny_Raise_call_subT (C:=C) (nm:=nm) (q:=qn) (N:=N) (bs:=bs) (bm:=bm) (hdct:=hdct) (sn:=sn) (sub:=sub) (ab:=ab) (col:=col) (dd:=dd) (k0:=k0) (k1:=k1) (k2:=k2) (k3:=k3) (k5:=k5)
   PySem.F.excBase_ValueError (mN:=mN) (T.hasType PySem.F.excBase_ValueError.hasBase) (I.ok.hd hc) (by rw[hs];rfl) hni (aa7 I hg c.mg ⟨rfl,?_⟩ hd)
 rw[hs];refine Calls.evalArgs_plain (Calls.spliced_cons (n9 (he pins s σ H _ I h) fun v s1 ⟨x,H1,I1,rx,q⟩=>Calls.spliced_nil ?_));exact ⟨rfl,(by show 1<=sizeLine;decide),I1.kIn _ _ hC,hN.keeps I1.bk,T.keeps I1.bk,fun h' e' hm=>R pins σ H1 s1 h' e' C _ I1 hm q⟩
end
section
variable {P:Program} {w:World} {K:PySem.W.Frag} {mg:Str->Option Value} {base:Heap}
theorem m7.lift {k:Nat}{f:Addr}{fd:FuncData}{ps:List Str}{sp:Sp}{CX:W8}(F:m7 P w K mg base E7 k f fd ps sp):m7 P w K mg base CX k f fd ps sp:=
 ⟨F.len,fun A outer s H args us vs Q E hr e0 hb hv hs=>codeAny_mono (F.run A outer s H args us vs Q E hr e0 hb hv hs) fun r s' h=>by
   cases r with
   |error e=>exact (show False from h).elim
   |ok v=>cases v<;>exact h⟩
theorem m7.or {k:Nat}{f:Addr}{fd:FuncData}{ps:List Str}{sp sp':Sp}{CX:W8}(F:m7 P w K mg base CX k f fd ps sp)(G:m7 P w K mg base CX k f fd ps sp'):m7 P w K mg base CX k f fd ps (fun vs H Q E=>sp vs H Q E\/sp' vs H Q E):=
 ⟨fun vs H Q E h=>h.elim (F.len vs H Q E) (G.len vs H Q E),fun A outer s H args us vs Q E hr e0 hb hv hs=>hs.elim (F.run A outer s H args us vs Q E hr e0 hb hv) (G.run A outer s H args us vs Q E hr e0 hb hv)⟩
theorem D3.okx {x qual:Str}{st:Stmt}{f:Addr}{fd:FuncData}{N ps:List Str}{k:Nat}{sp:Sp}(F:D3 K x qual st f fd)(S:o5 N ps (j5 st))(len:∀vs H Q E,sp vs H Q E->vs.length=ps.length)
   (hbody:∀(cdv:Value) (A:Around) (outer:List Env) (s:Shared) (H:Hp) (vs:List V) (Q:VK) (E:XK),m8 k (A.deeper (envOfC qual (j5 st) s.heap.objs.size f cdv))->sp vs H Q E->
     ∃t,U8 (aa0 (Z3 P w) P w K mg base N qual (j5 st) f cdv A outer s H E) (P2 st) t/\t {nx:=fun _ H'=>Q .non H',rt:=Q} (V1 N vs) H):m7 P w K mg base (Z3 P w) (k+1) f fd ps sp:=by
 obtain ⟨oc,od,kV,doc,pm,an,cdv,ct,osl,rfl,lk,hcd⟩:=F.ex
 exact ca2 lk hcd S len fun A outer s H vs Q E hr hsp=>hbody cdv A outer s H vs Q E hr hsp
def ac7 (P:Program)(w:World)(K:PySem.W.Frag)(mg:Str->Option Value)(base:Heap)(x:Str)(k:Nat)(ps:List Str)(sp:Sp):Prop:=
 ∃(f:Addr) (fd:FuncData),mg x=some (.ref f)/\PySem.W.keepIn K (.ref f)=true/\V0 K fd ps []/\m7 P w K mg base (Z3 P w) k f fd ps sp
end
section
variable {X:Cx} {x:Str} {k:Nat} {ps:List Str} {sp:Sp} {e:Expr} {es:List Expr} {t:TA} {p pos:Pos} {E:XK}
theorem cd4 (c:ac7 X.prog X.w X.K X.mg X.base x k ps sp)(hr:m8 k X.A)(hx:af1 (Z3 X.prog X.w) X E)(ha:PA X (e::es) t)(hg:Gl X x:=by rfl)(hdb:(x==("__debug__":Str))=false:=by decide)
   (he:starEach (e::es) X.env=(false,eval e X.env)::starEach es X.env:=by rfl) (hpl:(backTo pos (starEach es X.env)).any (·.1)=false:=by rfl):PE X (.Call (.Name x p) (e::es) [] pos) (ao5 sp [] E t):=by
 obtain ⟨f,fd,h1,h2,h3,h4⟩:=c;exact bh2 h4 hr hg h1 h2 h3 .nil hx ha hdb he hpl
end
end L2
namespace L2
open PySem PySem.Spec PyProof.Rows
theorem w4.get {P:Program}{w:World}{H:Hp}{h:Heap}{a:Addr}{o:HO}(x:w4 P w H h a o):∃u,h.get? a=some u:=by
 cases o with
 |lst xs=>obtain ⟨_,_,_,_,e⟩:=x;exact ⟨_,e⟩
 |tup xs=>obtain ⟨_,_,_,ob,e,_⟩:=x;exact ⟨_,e⟩
 |dK kvs=>obtain ⟨_,_,_,_,o,_,_,e,_⟩:=x;exact ⟨_,e⟩
 |dT kvs=>obtain ⟨_,_,_,_,o,_,_,e,_⟩:=x;exact ⟨_,e⟩
 |set S n=>obtain ⟨o,_,_,_,e,_⟩:=x;exact ⟨_,e⟩
 |ins C dx fs=>obtain ⟨_,_,_,e,_⟩:=x;exact ⟨_,e⟩
 |own y=>obtain ⟨_,e⟩:=x;exact ⟨_,e⟩
 |xd fs=>obtain ⟨_,⟨_,_,_,e,_⟩,_⟩:=x;exact ⟨_,e⟩
 |rng lo hi=>obtain ⟨_,_,_,e⟩:=x;exact ⟨_,e⟩
 |frz ob u=>obtain ⟨e,_⟩:=x;exact ⟨_,e⟩
 |tbl ps=>exact ⟨_,show h.get? a=some _ from x⟩
 |met f y=>exact ⟨_,show h.get? a=some _ from x⟩
 |ext φ=>obtain ⟨_,⟨_,e⟩,_⟩:=x;exact ⟨_,e⟩
def ag7 (a C:Addr):HO:= .ext fun h=>∃oe vs,h.get? a=some oe/\oe.cls= .ref C/\oe.data= .fields vs
section
variable {X:Cx} {pins:List (Addr×Obj)} {σ:St} {H H':Hp} {s s':Shared}
theorem cd5 {M:Model}{A:Around}{E:Value->Shared->Prop}{i:Nat}{n:Str}{pos:Pos}{Q:Unit->Shared->Prop}(I:g9 X pins σ H s)(hN:X.N.Nodup)(hi:X.N[i]? =some n)(hk:X.env.kindOf n=some .local)
   (h:∀s',g9 X pins (σ.set i none) H s'->Q () s'):wpAny M A (do bindName X.env n .none;unbindBehindTheSuite X.env n pos) Q E s:=by
 obtain ⟨m,hn,hl⟩:=id I.loc
 have hcls:(X.env.scope.kind== .class||(X.env.scope.kind== .module&&X.env.locals !=X.env.globals))=false:=by rw[I.ok.kind];rfl
 have hiσ:i < σ.length:=by rw[I.len];exact (ct3.mp hi).1
 have cne:=I.cne
 refine wpAny_nameGoes_keeps hk hn hcls fun h' v hn' hs=>h _ ?_
 obtain ⟨oL,_,_,hoL,_⟩:=id hn
 have low:∀b o,X.s₀.heap.get? b=some o->b≠X.env.locals:=fun b o e=>cw4 (cw8 (Heap.lt_size e) I.ok.above)
 refine ⟨I.ok,I.os,I.bare,⟨fun b o e n hb hx=> ?_,fun b o e n hb hx=> ?_,I.base.free,fun b o e hx=> ?_,I.base.tups,I.base.frzs,I.base.tbls⟩,⟨_,hn',fun j y v' e1 e2 e3=> ?_⟩,fun y c e=> ?_,I.free,I.freeC,fun p hp=> ?_,fun b ob e=> ?_,by simpa using I.len⟩
 · exact (hs.2 b (low b o e)).trans (I.base.keep b o e n hb hx)
 · obtain ⟨sl,e1⟩:=I.base.slot b o e n hb hx;exact ⟨sl,(hs.2 b (low b o e)).trans e1⟩
 · obtain ⟨o',e1⟩:=I.base.there b o e hx;exact ⟨o',(hs.2 b (low b o e)).trans e1⟩
 · by_cases hj:j=i
   · subst hj;rw[dc6 hiσ] at e2;cases e2
   · rw[dd5 (Ne.symm hj)] at e2;obtain ⟨u',r',q⟩:=hl j y v' e1 e2 e3;refine ⟨u',r',?_⟩
     rcases q with ⟨k,e⟩|⟨k,c,e,z⟩
     · refine .inl ⟨k,?_⟩
       have:y≠n:=fun e=>hj (am3 hN e1 (e▸hi))
       simp [this,e]
     · exact .inr ⟨k,c,e,z.sameBut hs (cne y c e)⟩
 · obtain ⟨w',z⟩:=I.cell y c e;exact ⟨w',z.sameBut hs (cne y c e)⟩
 · obtain ⟨e,n,ne,nf,d⟩:=I.pin p hp;exact ⟨(hs.2 p.1 ne).trans e,n,ne,nf,d⟩
 · refine (I.hok b ob e).stay (fun c w' hc q=>(hs.2 c ?_).trans q) (fun _ q=>q) fun _ _ q=>q
   rintro rfl
   rcases hc with rfl|hc
   · rw[I.free] at e;cases e
   · rw[I.free] at hc;cases hc
abbrev Cx.marked (X:Cx)(a:Addr):Cx:={X with A:=X.A.mark (some (.ref a)),calm:=false,xe:=fun _ _=>False}
theorem g9.mark (I:g9 X pins σ H s)(a:Addr):g9 (X.marked a) pins σ H s:=
 ⟨⟨I.ok.mod,I.ok.kind,I.ok.glob,I.ok.blt,I.ok.above,I.ok.inj,I.ok.has,I.ok.cab,(fun z=>nomatch z),I.ok.frames,I.ok.stk,I.ok.exf,I.ok.bs,I.ok.bsz,I.ok.noex,I.ok.exfs,I.ok.funs,I.ok.frf⟩,I.os,I.bare,I.base,I.loc,I.cell,I.free,I.freeC,I.pin,I.hok,I.len⟩
theorem g9.unmark {a:Addr}(ok:X.Ok)(I:g9 (X.marked a) pins σ H s):g9 X pins σ H s:=
 ⟨ok,I.os,I.bare,I.base,I.loc,I.cell,I.free,I.freeC,I.pin,I.hok,I.len⟩
theorem g9.trackNew {a:Addr}{o:HO}(I:g9 X pins σ H s)(hn:H a=none)(h0:X.s₀.heap.get? a=none)(hL:a≠X.env.locals)(hc:∀x c,X.env.cells.lookup x=some c->c≠a)(hp:∀p∈X.pn++pins,p.1≠a)(new:w4 X.prog X.w (c8 H a o) s.heap a o):
   g9 X pins σ (c8 H a o) s:=by
 refine ⟨I.ok,I.os,I.bare,⟨I.base.keep,I.base.slot,fun b o' e n hx=> ?_,I.base.there,fun b xs e=> ?_,fun b o' u e=> ?_,fun b ps e=> ?_⟩,I.loc,I.cell,?_,fun x c e=> ?_,fun p hq=> ?_,I.hok.track hn new,I.len⟩
 · rw[g8 (fun z=>by rw[z,h0] at e;cases e)];exact I.base.free b o' e n hx
 · have:=I.base.tups b xs e;rw[g8 (h7 this hn)];exact this
 · have:=I.base.frzs b o' u e;rw[g8 (h7 this hn)];exact this
 · obtain ⟨m,this⟩:=I.base.tbls b ps e;exact ⟨m,by rw[g8 (h7 this hn)];exact this⟩
 · rw[g8 (Ne.symm hL)];exact I.free
 · rw[g8 (hc x c e)];exact I.freeC x c e
 · obtain ⟨e,n,ne,nf,d⟩:=I.pin p hq;exact ⟨e,by rw[g8 (hp p hq)];exact n,ne,nf,d⟩
end
def PX (X:Cx)(st:List Stmt)(t:XK->TS):Prop:=
 ∀(pins:List (Addr×Obj)) (s:Shared) (σ:St) (H:Hp) (D:R7) (E:XK) (E1:Value->Shared->Prop),g9 X pins σ H s->
  (∀(H1:Hp) (s1:Shared) (e:Value) (s':Shared),g9 X pins σ H1 s1->Z3 X.prog X.w X.stack H1 s1 E e s'->E1 e s')->t E D σ H->wpAny (model X.prog X.w) X.A (execs st X.env) (SP X pins D) E1 s
section
variable {X:Cx} {x:Str} {k:Nat} {ps:List Str} {sp:Sp} {e:Expr} {es:List Expr} {t:TA} {p pos:Pos}
theorem PA.any (h:PA X.nox es t)(E1:Value->Shared->Prop):PA (X.wish E1) es t:=fun pos pins s σ H Q I hw=>
 wpAny_mono (h pos pins s σ H Q (I.unwish.wish _) hw) (fun _ _ ⟨v,H',I',r,q⟩=>⟨v,H',I'.unwish.wish E1,r,q⟩) fun _ _ z=>False.elim z
theorem cd6 {pins:List (Addr×Obj)}{σ:St}{H:Hp}{s:Shared}{Q:VK}{E:XK}{E1:Value->Shared->Prop}(c:ac7 X.prog X.w X.K X.mg X.base x k ps sp)(hr:m8 k X.A)(ha:PA X.nox (e::es) t)(I:g9 X pins σ H s)
   (hx:∀(H1:Hp) (s1:Shared) (e:Value) (s':Shared),g9 X pins σ H1 s1->Z3 X.prog X.w X.stack H1 s1 E e s'->E1 e s') (h:ao5 sp [] E t σ H Q) (hg:Gl X x) (hdb:(x==("__debug__":Str))=false)
   (he:starEach (e::es) X.env=(false,eval e X.env)::starEach es X.env) (hpl:(backTo pos (starEach es X.env)).any (·.1)=false):
   wpAny (model X.prog X.w) X.A (eval (.Call (.Name x p) (e::es) [] pos) X.env) (EP X pins σ Q) E1 s:=by
 obtain ⟨f,fd,h1,h2,h3,h4⟩:=c;have Iw:g9 (X.wish E1) pins σ H s:=I.wish E1;refine wpAny_Call_Name_kw (aa7 (E:=E1) I hg h1 ?_ hdb);refine PySem.W.callWith_K (h₀:=X.base) I.ok.mod.kin h2 (n9 ((PA.any ha E1) pos pins s σ H _ Iw h) fun us s1 ⟨vs,H1,I1,r,q⟩=>⟨I1.kIn,?_⟩) he hpl;have I1':g9 X pins σ H1 s1:=I1.unwish
 have r2:j8 (vs++[]) us:=by rw[cw0];exact r
 have hl:(us++[]).length=ps.length:=by rw[cw0,<-r2.length];exact h4.len _ _ _ _ q
 have hb:=h3 s1 us I1'.kIn hl;rw[cw0] at hb;refine wpAny_call (codeAny_mono (h4.run X.A X.stack s1 H1 ⟨us,[]⟩ us (vs++[]) Q E hr I1'.env0 hb r2 q) fun rr s' hq=> ?_)
 cases rr with
 |error e=>exact hx H1 s1 e s' I1' hq
 |ok fl=>
  cases fl with
  |ret u=>exact I1'.after hq
  |next=>exact False.elim hq
  |brk=>exact False.elim hq
  |cont=>exact False.elim hq
theorem cj3 {i:Nat}{y:Str}{py sp':Pos}(c:ac7 X.prog X.w X.K X.mg X.base x k ps sp)(hr:m8 k X.A)(hN:X.N.Nodup)(hi:X.N[i]? =some y)(hy:Loc X.env.scope y)(ha:PA X.nox (e::es) t)(hg:Gl X x:=by rfl)(hdb:(x==("__debug__":Str))=false:=by decide)
   (he:starEach (e::es) X.env=(false,eval e X.env)::starEach es X.env:=by rfl) (hpl:(backTo pos (starEach es X.env)).any (·.1)=false:=by rfl)
   (hs:swapsWith (.Call (.Name x p) (e::es) [] pos) (some (.Name y py)) sp'.line X.env=pure false:=by rfl) (hf:X.fn y=true\/X.env.scope.names.lookup y=some .local:=by first|exact .inl rfl|exact .inr rfl|assumption):
   PX X [.Assign [.Name y py] (.Call (.Name x p) (e::es) [] pos) sp'] (fun E D σ H=>ao5 sp [] E t σ H fun v H1=>D.nx (σ.set i (some v)) H1):=by
 intro pins s σ H D E E1 I hx h
 have first:wpAny (model X.prog X.w) X.A (exec (.Assign [.Name y py] (.Call (.Name x p) (e::es) [] pos) sp') X.env) (SP X pins D) E1 s:=
   wpAny_Assign_Name (n9 (cd6 c hr ha I hx h hg hdb he hpl) fun v s1 ⟨y',H1,I1,r1,q1⟩=>ac0 I1 hN hi hy r1 (fun s2 I2=>show SP X pins D .next s2 from ⟨_,H1,I2,q1⟩) hf) hs
 refine wpAny_execs_cons (n9 first fun f s1 q=> ?_)
 cases f with
 |next=>exact wpAny_execs_nil q
 |ret v=>exact q
 |brk=>exact q
 |cont=>exact q
end
section
variable {X:Cx}
def cd7 (K:PySem.W.Frag)(T:Addr)(i:Nat)(ts:TS)(D:R7)(σ:St):XK:=fun c _ H'=>
 ∃C,c= .ref C/\PySem.W.exmOne K (.ref C) (.ref T)=some true/\∀a,H' a=none->ts {nx:=fun σ' H''=>D.nx (σ'.set i none) H'',rt:=fun _ _=>False} (σ.set i (some (.ref a))) (c8 H' a (ag7 a C))
theorem cj4 {body:List Stmt}{x n:Str}{T:Addr}{i:Nat}{np hp pos:Pos}{b₀:Stmt}{suite:List Stmt}{tb:XK->TS}{ts:TS}(hb:PX X body tb)(hm:X.mg x=some (.ref T))(hN:X.N.Nodup)(hi:X.N[i]? =some n)(hk:X.env.kindOf n=some .local)
   (hsu:∀a,U8 (X.marked a) (b₀::suite) ts) (hst:X.stack=X.env::X.outer:=by rfl) (hfr:X.env.frame=some X.env.locals:=by rfl) (hex0:X.ex=[]:=by rfl) (hg:Gl X x:=by rfl) (hdb:(x==("__debug__":Str))=false:=by decide) (hf:X.fn n=true\/X.env.scope.names.lookup n=some .local:=by first|exact .inl rfl|exact .inr rfl|assumption):
   PS X (.Try body [.ExceptHandler (some (.Name x np)) (some n) (b₀::suite) hp] [] [] pos) (fun D σ H=>tb (cd7 X.K T i ts D σ) D σ H):=by
 intro pins s σ H D I h;refine wpAny_Try_except (wpAny_mono (hb pins s σ H D _ (fun e s₁=>wpAny (model X.prog X.w) X.A (noteFrame e X.env) (fun _ s₂=>wpAny (model X.prog X.w) X.A (setFlight e none) (fun _ s₃=>wpAny (model X.prog X.w) X.A (handleBy e X.env [.ExceptHandler (some (.Name x np)) (some n) (b₀::suite) hp]) (SP X pins D) X.xe s₃) X.xe s₂) X.xe s₁) I (fun H1 s1 e s' I1 hcx=> ?_) h) (fun f s1 q=> ?_) fun _ _ z=>z)
 · obtain ⟨a,t,C,vs,B,H',rfl,os,bare,un,hok,kb,tb',fl,tup,tn,C',hCe,hex,hts⟩:=hcx;cases hCe;rw[hst] at un fl kb tb'
   have hframes:X.A.frames=some (X.env::X.outer):=by rw[<-hst];exact I1.ok.frames
   have plain:∀b∈B8 (X.env::X.outer),∀o,s'.heap.get? b=some o->∀vs,o.data≠.fields vs:=fun b hb o ho=>by
     obtain ⟨_,o',ho',hn⟩:=fl.2.2.1.mem hb;rw[ho] at ho';cases ho';exact hn
   have notB:B.get? a=none:=fl.2.1
   have notF:a∉B8 (X.env::X.outer):=fun hm=>by
     obtain ⟨oe,ws,he,_,hd,_⟩:=fl.first;exact plain a hm oe he ws hd
   have new1:s1.heap.get? a=none:=by
     cases q:s1.heap.get? a with
     |none=>rfl
     |some o=>
      obtain ⟨o',e'⟩:=tb' a o q notF;rw[notB] at e';cases e'
   have new0:X.s₀.heap.get? a=none:=by
     cases q:X.s₀.heap.get? a with
     |none=>rfl
     |some o=>
      by_cases hx:a∈X.ex
      · rw[hex0] at hx;simp at hx
      · obtain ⟨o',e'⟩:=I1.base.there a o q hx;rw[new1] at e';cases e'
   have hHa:H' a=none:=by
     cases q:H' a with
     |none=>rfl
     |some o=>obtain ⟨u,hu⟩:=(hok a o q).get;rw[notB] at hu;cases hu
   refine wpAny_looks_onW hframes hfr fl fun h₄ held₄ up₄=> ?_
   refine wpAny_landsW held₄ fun h₅ fl₅ up₅=> ?_
   have inv:∀h,B.StaysIn h->s'.heap.UpToSlots h->g9 X pins σ H' {s' with heap:=h}:=fun h st up=>
     I1.call' (ch:=[]) (s':={s' with heap:=h}) os (by rw[hst];exact bb7 un kb tb' st up plain) (hok.kept st) bare (fun b z=>absurd z (by simp))
   have I5:=inv h₅ fl₅.1 (up₄.trans up₅);refine wpAny_handleBy_cons (codeAny_handlers_test (aa7 (X:=X.marked a) (E:=_) (I5.mark a) hg hm ?_ hdb)) (by intro q;cases q);obtain ⟨ob,hob,hobc⟩:=fl₅.there;have LT:PySem.W.Looks (model X.prog X.w) h₅ (typeOf (.ref a)) (.ref C):=hobc▸(PySem.W.Looks.ld hob).andThen .now;refine PySem.W.exm_one (M:=model X.prog X.w) (h:=h₅) I5.kIn LT hex _ _ _ _ (fun _ _ q=>q) ?_;refine codeAny_handlers_suite_as ?_
   refine lands_againW fl₅ fun h₆ fl₆ up₆=> ?_
   have I6:=inv h₆ fl₆.1 ((up₄.trans up₅).trans up₆)
   have hLa:a≠X.env.locals:=fun z=>notF (by unfold B8;rw[da0,hfr];rw[z];exact ct7)
   have hca:∀y c,X.env.cells.lookup y=some c->c≠a:=fun y c e z=>by
     obtain ⟨v,o,ho,_⟩:=I1.cell y c e;rw[z,new1] at ho;cases ho
   have hpa:∀q∈X.pn++pins,q.1≠a:=fun q hq z=>by
     obtain ⟨e,_⟩:=I1.pin q hq;rw[z,new1] at e;cases e
   obtain ⟨oe,ws,he6,hc6,hd6,_⟩:=fl₆.first;have I7:g9 X pins σ (c8 H' a (ag7 a C)) {s' with heap:=h₆}:=I6.trackNew hHa new0 hLa hca hpa ⟨⟨oe,ws,he6,hc6,hd6⟩,⟨oe,he6⟩,fun h1 h2 ⟨o1,v1,q1,q2⟩ st=>⟨o1,v1,st o1 q1,q2⟩⟩;have hts':=hts a hHa;refine ac0 I7 hN hi (.inl hk) (show l9 (.ref a) (.ref a) from rfl) (fun s2 I8=> ?_) hf
   refine wpAny_mono (hsu a pins s2 _ _ _ (I8.mark a) hts') (fun f s3 q=> ?_) fun _ _ z=>False.elim z
   cases f with
   |next=>
    obtain ⟨σ',H'',I9,q⟩:=q
    exact cd5 (I9.unmark I1.ok) hN hi hk fun s4 I10=>show SP X pins D .next s4 from ⟨_,_,I10,q⟩
   |ret v=>obtain ⟨_,_,_,_,_,q⟩:=q;exact q.elim
   |brk=>obtain ⟨_,_,_,q⟩:=q;exact q.elim
   |cont=>obtain ⟨_,_,_,q⟩:=q;exact q.elim
 · cases f with
   |next=>exact wpAny_execs_nil q
   |ret v=>exact q
   |brk=>exact q
   |cont=>exact q
end
end L2
namespace L2
open PySem PySem.Spec PyProof.Rows PySem.W PySem.Builtin PySem.Builtin.ObjectAttr PySem.Builtin.Getset_descriptor
section
variable {prog:Program} {w:World} {A:Around} {E:Value->Shared->Prop} {s:Shared} {K:PySem.W.Frag} {a C:Addr}
structure as6 (K:PySem.W.Frag)(C:Addr):Prop where
 ga:PySem.W.findIn K (.ref C) "__getattribute__"=some (some (.builtin "BaseException.__getattribute__"))
 hook:PySem.W.findIn K (.ref C) "__getattr__"=some none
 cls:PySem.W.findIn K (.ref C) "__class__"=some (some (.builtin "object.__class__"))
 get:PySem.W.specialIn K (.builtin "object.__class__") "__get__"=some (some (.builtin "getset_descriptor.__get__"))
 tak:PySem.W.takesIn K (.builtin "object.__class__")=some true
 bex:PySem.W.mroIn K C (.type "BaseException")=some true
 obj:PySem.W.mroIn K C (.type "object")=some true
 isc:∃oc,K.lookup C=some oc/\∃cd,oc.data= .cls cd
theorem ax5 {tp:Value}{R:Result->Shared->Prop}(X:K.In s.heap)(L0:PySem.W.Looks (model prog w) s.heap (typeOf (.ref a)) (.ref C))(hm:PySem.W.mroIn K C (.type "object")=some true)
   (h:R (.ok (.ret (.ref C))) s):codeAny (model prog w) A (.call (.builtin "getset_descriptor.__get__") ⟨[.builtin "object.__class__",.ref a,tp],[]⟩) R s:=by
 obtain ⟨hh,g,dr,t,os⟩:=s;have L1:=looks_mroIn (M:=model prog w) X hm;refine codeAny_call_builtin KF.slot_gs.plain KF.entry_gs (KF.slot_gs.check _ _ _ _ _ _ _ _ KF.type_class (KF.args_gs _ _ _) ?_);unfold Builtin.«getset_descriptor.__get__» descrGet;rw[dga_obj];refine wpAny_bind (wpAny_pure ?_);unfold descrGetter descrCheckInstance descrNameAndClass isInstance;simp only[KF.owner_class]
 repeat lk
 refine ⟨Code.quiet_builtin _ (by decide+kernel),codeAny_builtin KF.entry_class ?_⟩;unfold Builtin.«object.__class__» shownTypeOf
 repeat lk
 exact h
theorem bs6 {M:Model}{nameV:Value}{Q:Unit->Shared->Prop}(X:K.In s.heap)(L0:PySem.W.Looks M s.heap (typeOf (.ref a)) (.ref C))(hm:PySem.W.mroIn K C (.type "BaseException")=some true)
   (hq:Q () s):wpAny M A (checkBuiltinCall "BaseException.__getattribute__" ⟨[.ref a,nameV],[]⟩) Q E s:=by
 obtain ⟨hh,g,dr,t,os⟩:=s;have L1:=looks_mroIn (M:=M) X hm
 have hk:builtinKind "BaseException.__getattribute__"=some .slot:=by decide+kernel
 have hsplit:splitId "BaseException.__getattribute__"=some ("BaseException","__getattribute__"):=by decide+kernel
 have ha:=F.args_bexc_ga (.ref a) nameV;simp only[checkBuiltinCall,hk,hsplit];unfold isInstance
 repeat (first|lk|wp_step)
 exact hq
theorem bs7 {tk:Tok}{Q:Fin->Shared->Prop}(X:K.In s.heap)(L0:PySem.W.Looks (model prog w) s.heap (typeOf (.ref a)) (.ref C))(I:as6 K C)(hq:Q (.done (.ret (.ref C))) s):
   wpAny (model prog w) A (Builtin.«object.__getattribute__» ⟨[.ref a,.str "__class__" tk],[]⟩) Q E s:=by
 obtain ⟨hh,g,dr,t,os⟩:=s;have L1:=looks_findIn (M:=model prog w) X I.cls;have L2:=looks_specialIn (M:=model prog w) X I.get;have L3:=looks_takesIn (M:=model prog w) X I.tak;unfold Builtin.«object.__getattribute__»
 repeat lk
 refine wpAny_run (ax5 X L0 I.obj ?_)
 repeat (first|exact hq|lk)
theorem as7 {Q:Option Value->Shared->Prop}(X:K.In s.heap)(L0:PySem.W.Looks (model prog w) s.heap (typeOf (.ref a)) (.ref C))(I:as6 K C)(h:Q (some (.ref C)) {s with toks:=s.toks+1}):
   wpAny (model prog w) A (getAttr? (.ref a) "__class__") Q E s:=by
 obtain ⟨hh,g,dr,t,os⟩:=s;have L1:=looks_findIn (M:=model prog w) X I.ga;have L2:=looks_findIn (M:=model prog w) X I.hook;have hb:=PySem.F.attrBase_ValueError.ga.bind (.ref a);unfold getAttr? getAttrBy? getAttrBy;refine wpAny_bind (wpAny_mkText (wpAny_bind (wpAny_attempt (wpAny_holding (wpAny_bind (L0.at (wpAny_bind (L1.at ?_))))))))
 dsimp only
 rw[if_neg (show ¬((onTheHeap (Value.ref C)&&Value.builtin "BaseException.__getattribute__"==Value.builtin "object.__getattribute__")=true) from by
   rw[show (Value.builtin "BaseException.__getattribute__"==Value.builtin "object.__getattribute__")=false from by decide+kernel,Bool.and_false];exact cu8)]
 unfold getAttrByItsOwn hookBefore;refine wpAny_bind ?_;rw[if_pos (show onTheHeap (Value.ref C)=true from rfl)];refine L2.at ?_;refine wpAny_bind (wpAny_attempt (wpAny_holding ?_));unfold callGetattribute;rw[if_neg (by simp)];unfold boundAndCalled;rw[hb];refine wpAny_bind (wpAny_pure ?_);refine wpAny_call (codeAny_call_builtin PySem.F.attrBase_ValueError.ga.plain F.entry_bexc_ga (bs6 X L0 I.bex (bs7 X L0 I ?_)));refine handed_on (M:=model prog w) rfl ?_;exact wpAny_pure h
theorem bx6 (I:as6 K C):PySem.W.KitX K (.ref a) (.ref C) (fun h=>∃oe vs,h.get? a=some oe/\oe.cls= .ref C/\oe.data= .fields vs) where
 ty:=fun M h _ ⟨oe,vs,h1,h2,_⟩=>h2▸(PySem.W.Looks.ld h1).andThen .now
 it:=fun M h X _=>by
   obtain ⟨oc,h1,cd,h2⟩:=I.isc;obtain ⟨c1,c2,c3,c4⟩:=oc
   dsimp only at h2
   subst h2;intro A' Q' E' s' k q;unfold isType loadHead;exact wpAny_bind (wpAny_loadPart (k _ _ (X _ _ h1)) (wpAny_pure q))
 ne:=fun h tp dd its n sl X htp=>by
   obtain ⟨oc,h1,cd,h2⟩:=I.isc
   refine Bool.eq_false_iff.mpr fun q=> ?_
   have e:C=tp:=Value.ref.inj (beq_iff_eq.mp q);subst e;have z:=(X _ _ h1).symm.trans htp;cases z;cases h2
 ca:=fun {prog w A E Q s} X ⟨oe,vs,h1,h2,_⟩ k=>as7 X (h2▸(PySem.W.Looks.ld h1).andThen .now) I k
end
section
variable {X:Cx}
def ca7 (K:PySem.W.Frag):List V->Hp->VK->Prop:=fun xs H Q=>∃a C c u b,xs=[.ref a,c]/\((∃D,c= .ref D/\u=Value.ref D)\/(∃n,c= .ty n/\u=Value.type n))/\H a=some (ag7 a C)/\as6 K C/\PySem.W.kitOne K (.ref C) u=some b/\Q (.bl b) H
theorem bs8:N3 X (.builtin "isinstance") (ca7 X.K):=by
 intro pins s σ H xs us Q I r h;obtain ⟨a,C,c,u,b,rfl,hc,hH,ei,hk,q⟩:=h;obtain ⟨u1,u2,rfl,r1,r2⟩:=ao4 r;cases (show u1=Value.ref a from r1)
 have e2:u2=u:=by
   rcases hc with ⟨D,rfl,rfl⟩|⟨n,rfl,rfl⟩
   · exact r2
   · exact r2
 subst e2;have p:=(show w4 X.prog X.w H s.heap a (ag7 a C) from I.hok a _ hH).1
 exact PySem.W.kia_one (bx6 ei) I.kIn p hk (fun z=>nomatch z) fun tk=>⟨.bl b,H,I.tok tk,rfl,q⟩
theorem J9 {a b:Expr}{ta:TA}{p pos:Pos}(hm:X.mg "isinstance"=none)(ha:PA X [a,b] ta)(hg:Gl X "isinstance":=by rfl)
 (he:starEach [a,b] X.env=(false,eval a X.env)::starEach [b] X.env:=by rfl) (hpl:(backTo pos (starEach [b] X.env)).any (·.1)=false:=by rfl):
 PE X (.Call (.Name "isinstance" p) [a,b] [] pos) (W9 (ca7 X.K) ta):=O7 bs8 hg hm ba4 ha (by decide) (by decide) he hpl
theorem cd8:bootBuiltins "ValueError"=some (.type "ValueError"):=by decide+kernel
theorem cd9 {p:Pos}(hm:X.mg "ValueError"=none)(hg:Gl X "ValueError":=by rfl):PE X (.Name "ValueError" p) (tC (.ty "ValueError")):=ai7 hg hm cd8 rfl
end
theorem ce0 {K:PySem.W.Frag}{C D:Addr}{b:Bool}(h1:PySem.W.isClsIn K D=true)(h2:PySem.W.typeIn K (.ref D)=some (.type "type"))(h3:PySem.W.mroIn K C (.ref D)=some b)(hs:C=D->b=true):PySem.W.kitOne K (.ref C) (.ref D)=some b:=by
 unfold PySem.W.kitOne
 by_cases e:C=D
 · rw[if_pos (by rw[e];exact beq_self_eq_true _),hs e]
 · rw[if_neg (fun q=>e (Value.ref.inj (beq_iff_eq.mp q)))];unfold PySem.W.kitCls
   dsimp only
   rw[if_pos (by rw[cx7];exact ⟨h1,by rw[h2];exact beq_self_eq_true _⟩)];exact h3
theorem cj5 {K:PySem.W.Frag}{C:Addr}(h3:PySem.W.mroIn K C (.type "ValueError")=some true):PySem.W.kitOne K (.ref C) (.type "ValueError")=some true:=by
 unfold PySem.W.kitOne;rw[if_neg (fun q=>by cases beq_iff_eq.mp q)];unfold PySem.W.kitCls
 dsimp only
 rw[if_pos (by decide+kernel)];exact h3
theorem bh9 {K:PySem.W.Frag}{C T:Addr}{b:Bool}(h0:PySem.W.mroIn K T (.type "BaseException")=some true)(h1:PySem.W.isClsIn K T=true)(h2:PySem.W.typeIn K (.ref T)=some (.type "type"))(h3:PySem.W.mroIn K C (.ref T)=some b):PySem.W.exmOne K (.ref C) (.ref T)=some b:=by
 unfold PySem.W.exmOne;rw[if_pos (show (PySem.W.subIn K (.ref T) (.type "BaseException")==some true)=true from beq_iff_eq.mpr h0)];unfold PySem.W.kitCls
 dsimp only
 rw[if_pos (by rw[cx7];exact ⟨h1,by rw[h2];exact beq_self_eq_true _⟩)];exact h3
theorem ce1 {K:PySem.W.Frag}{C:Addr}(ga:PySem.W.findIn K (.ref C) "__getattribute__"=some (some (.builtin "BaseException.__getattribute__")))(hook:PySem.W.findIn K (.ref C) "__getattr__"=some none)(cls:PySem.W.findIn K (.ref C) "__class__"=some (some (.builtin "object.__class__")))
   (get:PySem.W.specialIn K (.builtin "object.__class__") "__get__"=some (some (.builtin "getset_descriptor.__get__"))) (tak:PySem.W.takesIn K (.builtin "object.__class__")=some true) (bex:PySem.W.mroIn K C (.type "BaseException")=some true) (obj:PySem.W.mroIn K C (.type "object")=some true) (isc:PySem.W.isClsIn K C=true):as6 K C:=
 ⟨ga,hook,cls,get,tak,bex,obj,by
   obtain ⟨cd,h⟩:=dh6.mp (show (PySem.W.clsIn K C).isSome=true from isc);unfold PySem.W.clsIn at h
   split at h
   · rename_i ho;exact ⟨_,ho,_,rfl⟩
   · cases h⟩
structure bc0 (K:PySem.W.Frag)(mg:Str->Option Value)(T:Addr)(cs:List (Str×Addr)):Prop where
 top:mg "TurnError"=some (.ref T)
 err:∀p∈cs,Z4 K mg p.1 p.2
 inst:∀p∈cs,as6 K p.2
 exm:∀p∈cs,PySem.W.exmOne K (.ref p.2) (.ref T)=some true
 ve:∀p∈cs,PySem.W.kitOne K (.ref p.2) (.type "ValueError")=some true
 pair:∀p∈cs,∀q∈cs,PySem.W.kitOne K (.ref p.2) (.ref q.2)=some (decide (p.1=q.1))
 exq:∀p∈cs,∀q∈cs,PySem.W.exmOne K (.ref p.2) (.ref q.2)=some (decide (p.1=q.1))
end L2
namespace L2
open PySem PySem.Spec PyProof.Rows
def as8 (a b:Sp):Sp:=fun vs H Q E=>a vs H Q E\/b vs H Q E
section
variable {P:Program} {w:World} {K:PySem.W.Frag} {mg:Str->Option Value} {base:Heap} {CX:W8} {k:Nat} {f:Addr} {fd:FuncData} {ps:List Str} {a b:Sp}
theorem cn3 (x:m7 P w K mg base CX k f fd ps a)(y:m7 P w K mg base CX k f fd ps b):m7 P w K mg base CX k f fd ps (as8 a b):=
 ⟨fun vs H Q E h=>h.elim (x.len vs H Q E) (y.len vs H Q E),fun A outer s H args us vs Q E r e bt v h=>h.elim (x.run A outer s H args us vs Q E r e bt v) (y.run A outer s H args us vs Q E r e bt v)⟩
theorem ca8 {x:Str}(c:r6 P w K mg base x k ps (as8 a b)):r6 P w K mg base x k ps a:=by
 obtain ⟨f,fd,h1,h2,h3,h4⟩:=c;exact ⟨f,fd,h1,h2,h3,h4.imp fun vs H Q E z=> .inl z⟩
end
end L2
namespace L2
open PySem PySem.Spec PyProof.Rows
section
variable {X:Cx} {p pos:Pos} {e:Expr} {t:TA}
theorem ce2 (K:PySem.W.Frag)(n:Nat)(hu:X.A.units+n+1 < cLine)(hK:X.K=K:=by rfl):J6 X (compareOp .Eq) (bw5 K n false):=by
 subst hK;exact bq0 n hu
end
end L2
namespace L2
open PySem PySem.Spec PyProof.Rows
section
variable {X:Cx}
theorem bx7 {e:Expr}:PE X e (fun _ _ _=>False):=fun _ _ _ _ _ _ h=>h.elim
theorem bs9 (K:PySem.W.Frag){o e:Expr}{to:TE}{t:TA}{apos pos:Pos}(ho:PE X o to)(ha:PA X [e] t)(hK:X.K=K:=by rfl)
   (hbase:attributeBase o "pop" X.env (eval o X.env)=eval o X.env:=by rfl)
   (hfew:((backTo pos (starEach [e] X.env)).all (fun x=> !x.1)&&(backToKw pos (keywordEach [] X.env)).all (fun x=>x.1.isSome)
     &&decide ([e].length+([]:List Keyword).length+(if ([]:List Keyword).isEmpty then 0 else 1) < 30))=true:=by rfl)
   (hline:(apos.endLine==pos.line)=true:=by rfl) (hs:starEach [e] X.env=(false,eval e X.env)::starEach [] X.env:=by rfl) (hplain:(backTo pos (starEach [] X.env)).any (·.1)=false:=by rfl):
   PE X (.Call (.Attribute o "pop" apos) [e] [] pos) (tBM K "list" az9 to t):=by
 subst hK;exact ay1 PySem.F.plainAttrs_list PySem.F.slot_list_pop PySem.F.type_list_pop ba0 ho ha hbase hfew hline hs hplain
end
end L2
namespace HT
open PySem PySem.Spec PyProof.Rows
open PySem.AutoSeq1
open PySem.MeetsSeq PySem.MeetsSeq2 PySem.MeetsSeq3
theorem as9 {xs:Array Value}{i:Nat}{x:Value}{r:List Value}(h:xs.toList.drop i=x::r):xs[((i:Nat):Int).toNat]? =some x/\xs.toList.drop (i+1)=r/\i < xs.size:=by
 have hl:i < xs.size:=by
   rcases Nat.lt_or_ge i xs.size with z|z
   · exact z
   · rw[List.drop_of_length_le (by simpa using z)] at h;cases h
 refine ⟨?_,?_,hl⟩
 · rw[da7,<-cy1];have:=congrArg List.head? h;rw[List.head?_drop] at this
   simpa using this
 · have:=congrArg List.tail h;rw[List.tail_drop] at this;exact this
theorem bc1 {xs:Array Value}{i:Nat}(h:xs.toList.drop i=[]):xs[((i:Nat):Int).toNat]? =none/\xs.size<=i:=by
 have hl:xs.size<=i:=by
   have:=congrArg dh0 h;rw[cw1] at this;simp at this;omega
 exact ⟨by rw[da7];simp [hl],hl⟩
abbrev bl3 (h:Heap)(a:Addr)(xs:Array Value)(n:Nat):Prop:=h.get? a=some {cls:= .type "list",dict:=none,data:= .seq xs n,slots:= #[]}
theorem ce3 (l b:Addr)(items items2:Array Value)(n n2:Nat):∀(ns ms:List Int) (vs ws:List Value) (i:Nat),IntsAre vs ns->IntsAre ws ms->items.toList.drop i=vs->items2.toList.drop i=ws->i<=items.size->i<=items2.size->
   Meets (Builtin.«list.__eq__.loop» ⟨[.ref l,.ref b,rawInt i,rawInt 0],[]⟩)
     (fun _ R s=>(bl3 s.heap l items n/\bl3 s.heap b items2 n2)/\R (.ok (.ret (.bool (aj1 ns ms)))) s):=by
 intro ns
 induction ns with
 |nil=>
  intro ms vs ws i hv hw e1 e2 i1 i2 prog w A R s h;obtain ⟨h0,g0,d0,k0,o0⟩:=s;obtain ⟨⟨hx,hy⟩,h⟩:=h;cases hv;obtain ⟨g1,z1⟩:=bc1 e1
  wp_walk using wpAny_loadPart' hx,wpAny_loadPart' hy
  rw[g1]
  cases hw with
  |nil=>
   obtain ⟨g2,z2⟩:=bc1 e2
   wp_walk using wpAny_loadPart' hx,wpAny_loadPart' hy
   show R (.ok (.ret (.bool (decide (items.size < items2.size))))) _;rw[decide_eq_false (by omega)];exact h
  |cons c u hw'=>
   obtain ⟨g2,_,z2⟩:=as9 e2
   wp_walk using wpAny_loadPart' hx,wpAny_loadPart' hy
   show R (.ok (.ret (.bool (decide (items.size < items2.size))))) _;rw[decide_eq_true (by omega)];exact h
 |cons a ns ih=>
  intro ms vs ws i hv hw e1 e2 i1 i2 prog w A R s h;obtain ⟨h0,g0,d0,k0,o0⟩:=s;obtain ⟨⟨hx,hy⟩,h⟩:=h
  cases hv with
  |cons _ t hv'=>
   obtain ⟨g1,d1,z1⟩:=as9 e1
   wp_walk using wpAny_loadPart' hx,wpAny_loadPart' hy
   rw[g1]
   cases hw with
   |nil=>
    obtain ⟨g2,z2⟩:=bc1 e2;rw[g2]
    wp_walk using wpAny_loadPart' hx,wpAny_loadPart' hy
    show R (.ok (.ret (.bool (decide (items.size < items2.size))))) _;rw[decide_eq_false (by omega)];exact h
   |cons c u hw'=>
    obtain ⟨g2,d2,z2⟩:=as9 e2;rw[g2];rw[bk3] at h;obtain ⟨e,he,hiff⟩:=bv9 A.in1 ⟨h0,g0,d0,k0,o0⟩ a t c u;refine wpAny_bind (he prog w _ _ ?_)
    cases e with
    |true=>
     rw[if_pos (hiff.mp rfl)] at h
     wp_walk
     rw[show ((i:Int)+1)=((i+1:Nat):Int) from rfl];refine ⟨plainId_quiet plain_eq_loop _,codeAny_builtin entry_eq_loop ?_⟩
     (rw[Around.under_plainId plain_eq_loop _];exact ih _ _ _ (i+1) hv' hw' d1 d2 (by omega) (by omega) prog w A R _ ⟨⟨hx,hy⟩,h⟩)
    |false=>
     rw[if_neg (fun q=>absurd (hiff.mpr q) cu8)] at h;have less:=bw0 A.in1 ⟨h0,g0,d0,k0,o0⟩ a t c u prog w
     wp_walk using wpAny_loadPart' hx,wpAny_loadPart' hy
     rw[g1,g2]
     wp_walk using less
     exact h
theorem cj6 (l b:Addr)(items items2:Array Value)(n n2:Nat)(ns ms:List Int)(hi:IntsAre items.toList ns)(hj:IntsAre items2.toList ms):
   Meets (Builtin.«list.__lt__» ⟨[.ref l,.ref b],[]⟩)
     (fun _ R s=>(bl3 s.heap l items n/\bl3 s.heap b items2 n2)/\R (.ok (.ret (.bool (aj1 ns ms)))) s):=by
 intro prog w A R s h;obtain ⟨h0,g0,d0,k0,o0⟩:=s;obtain ⟨⟨hx,hy⟩,h⟩:=h;have sub:=AutoSeq1.sub_list_list
 wp_walk using wpAny_loadPart' hx,wpAny_loadPart' hy
 refine ⟨plainId_quiet plain_eq_loop _,codeAny_builtin entry_eq_loop ?_⟩
 (rw[Around.under_plainId plain_eq_loop _];exact ce3 l b items items2 n n2 ns ms _ _ 0 hi hj rfl rfl (cv9 _) (cv9 _) prog w A R _ ⟨⟨hx,hy⟩,h⟩)
end HT
namespace L2
open PySem PySem.Spec PyProof.Rows
section
variable {prog:Program} {w:World} {A:Around} {E:Value->Shared->Prop} {s:Shared}
def Z5 (h:Heap)(v:Value)(ns:List Int):Prop:=∃p xs n,v= .ref p/\HT.bl3 h p xs n/\IntsAre xs.toList ns
theorem aq1 {α β:Type}{f:α->Sem β}(g:α->β):∀{vs:List α} {Q:List β->Shared->Prop},(∀v,v∈vs->∀R:β->Shared->Prop,R (g v) s->wpAny (model prog w) A (f v) R E s)->Q (vs.map g) s->wpAny (model prog w) A (vs.mapM f) Q E s
 |[],Q,_,q=>by rw[List.mapM_nil];exact wpAny_pure q
 |v::vs,Q,k,q=>by
  rw[List.mapM_cons];refine wpAny_bind (k v (ct7 ..) _ ?_);refine wpAny_bind (aq1 g (fun u hu=>k u (ct5 _ hu)) ?_);exact wpAny_pure q
theorem bc2 {α β:Type}{f:α->Sem β}(g:α->β){vs:List α}{Q:Array β->Shared->Prop}(k:∀v,v∈vs->∀R:β->Shared->Prop,R (g v) s->wpAny (model prog w) A (f v) R E s)(q:Q (vs.map g).toArray s):wpAny (model prog w) A (vs.toArray.mapM f) Q E s:=by
 rw[List.mapM_toArray,map_eq_pure_bind];exact wpAny_bind (aq1 g k (wpAny_pure q))
theorem bl4 (v:Value):firstOfTuple' v=(do
 if (<-typeOf v)!= .type "tuple" then return none
 return (<-Builtin.List.listItems v)[0]?):=rfl
theorem bt0 {v:Value}{ns:List Int}(r:Z5 s.heap v ns){Q:Option Value->Shared->Prop}(k:Q none s):wpAny (model prog w) A (firstOfTuple' v) Q E s:=by
 obtain ⟨p,xs,n,rfl,ox,ix⟩:=r;rw[bl4];refine wpAny_bind (wpAny_typeOf (T:="list") ⟨_,ox,rfl⟩ ?_);rw[if_pos (by decide)];exact wpAny_pure k
theorem bx8 {v:Value}{ns:List Int}(r:Z5 s.heap v ns){Q:Value->Shared->Prop}(k:Q (.type "list") s):wpAny (model prog w) A (typeOf v) Q E s:=by
 obtain ⟨p,xs,n,rfl,ox,ix⟩:=r;exact wpAny_typeOf (T:="list") ⟨_,ox,rfl⟩ k
theorem bt1 {v₁ v₂:Value}{vs:List Value}{Q:SortKind->Shared->Prop}(r:∀v,v∈v₁::v₂::vs->∃ns,Z5 s.heap v ns)(k:Q oneType' s):wpAny (model prog w) A (keyKind' (v₁::v₂::vs).toArray) Q E s:=by
 rw[keyKind'_eq];refine wpAny_bind (bc2 (fun _=>none) (fun v hv R q=>by obtain ⟨ns,z⟩:=r v hv;exact bt0 z q) ?_);rw[if_neg (by simp),if_neg (by simp)];rw[oneTypeOnly'_eq];refine wpAny_bind (wpAny_bind (bc2 (fun _=>Value.type "list") (fun v hv R q=>by obtain ⟨ns,z⟩:=r v hv;exact bx8 z q) ?_))
 have h0:(List.map (fun _=>Value.type "list") (v₁::v₂::vs)).toArray[0]? =some (Value.type "list"):=by simp
 rw[h0]
 dsimp only
 rw[if_pos (by
   simp only[List.all_toArray,List.all_map,db1];intro _ _
   rfl)]
 exact wpAny_pure (wpAny_pure k)
theorem aw2 (vs:List Value):(pairsOf vs).map (·.2)=vs.toArray:=by
 apply Array.toList_inj.mp
 rw[dh7,pairsOf_toList];exact List.map_snd_zip (ct4 _)
end
end L2
namespace TS
open PySem PyProof.Rows
section
variable (rk:Keyed->Nat)
def R (xs:Array Keyed)(i:Nat):Nat:=match xs[i]? with
 |some p=>rk p
 |none=>0
def Up (xs:Array Keyed)(lo hi:Nat):Prop:=∀i j,lo<=i->i<=j->j < hi->R rk xs i<=R rk xs j
def at1 (xs:Array Keyed)(lo hi:Nat):Prop:=∀i j,lo<=i->i<=j->j < hi->R rk xs j<=R rk xs i
end
def A7 (xs ys:Array Keyed)(lo hi:Nat):Prop:=∀k,k < lo\/hi<=k->ys[k]? =xs[k]?
theorem A7.refl (xs:Array Keyed)(lo hi:Nat):A7 xs xs lo hi:=fun _ _=>rfl
theorem A7.trans {xs ys zs:Array Keyed}{lo hi:Nat}(h:A7 xs ys lo hi)(g:A7 ys zs lo hi):A7 xs zs lo hi:=fun k hk=>(g k hk).trans (h k hk)
theorem A7.wide {xs ys:Array Keyed}{lo hi lo' hi':Nat}(h:A7 xs ys lo hi)(h1:lo'<=lo)(h2:hi<=hi'):A7 xs ys lo' hi':=fun k hk=>h k (by omega)
section
variable {rk:Keyed->Nat}
theorem at2 {xs ys:Array Keyed}{i j:Nat}(h:xs[i]? =ys[j]?):R rk xs i=R rk ys j:=by unfold R;rw[h]
theorem A7.R {xs ys:Array Keyed}{lo hi k:Nat}(h:A7 xs ys lo hi)(hk:k < lo\/hi<=k):TS.R rk ys k=TS.R rk xs k:=at2 (h k hk)
theorem A7.up {xs ys:Array Keyed}{lo hi a b:Nat}(h:A7 xs ys lo hi)(u:Up rk xs a b)(hk:b<=lo\/hi<=a):Up rk ys a b:=fun i j h1 h2 h3=>by
 rw[h.R (by omega),h.R (by omega)];exact u i j h1 h2 h3
theorem bc3 {xs:Array Keyed}{src d:Nat}(hs:src < xs.size)(hd:d<=src)(k:Nat):
   R rk (bubble xs src d) k=if k=src - d then R rk xs src else if src - d < k/\k<=src then R rk xs (k - 1) else R rk xs k:=by
 have e:=getElem?_bubble hs d hd k
 split
 · rename_i h;rw[if_pos h] at e;exact at2 e
 · rename_i h;rw[if_neg h] at e
   split
   · rename_i h2;rw[if_pos h2] at e;exact at2 e
   · rename_i h2;rw[if_neg h2] at e;exact at2 e
theorem bg1 {xs:Array Keyed}{src d lo hi:Nat}(hs:src < xs.size)(hd:d<=src)(h1:lo<=src - d)(h2:src < hi):A7 xs (bubble xs src d) lo hi:=fun k hk=>by
 rw[getElem?_bubble hs d hd k,if_neg (by omega),if_neg (by omega)]
theorem an2 {xs:Array Keyed}{i j:Nat}(hj:j<=xs.size)(k:Nat):R rk (mirror xs i j ((j - i)/2)) k=if i<=k/\k < j then R rk xs (i+j - 1 - k) else R rk xs k:=by
 have e:=getElem?_mirror_all (i:=i) hj k
 split
 · rename_i h;rw[if_pos h] at e;exact at2 e
 · rename_i h;rw[if_neg h] at e;exact at2 e
theorem T5 {xs:Array Keyed}{i j lo hi:Nat}(hj:j<=xs.size)(h1:lo<=i)(h2:j<=hi):A7 xs (mirror xs i j ((j - i)/2)) lo hi:=fun k hk=>by
 rw[getElem?_mirror_all hj k,if_neg (by omega)]
theorem L7 {xs:Array Keyed}{i j:Nat}(hj:j<=xs.size)(h:∀k,i<=k->k < j->R rk xs k=R rk xs (j - 1))(k:Nat):R rk (mirror xs i j ((j - i)/2)) k=R rk xs k:=by
 rw[an2 hj]
 split
 · rw[h _ (by omega) (by omega),h k (by omega) (by omega)]
 · rfl
end
structure Bs (a0:Array Keyed)(κ:SortKind)(st:SortSt):Prop where
 perm:(arrOf st).Perm a0
 kind:kindOf st=κ
 ok:failedOf st=none
theorem Bs.size {a0:Array Keyed}{κ:SortKind}{st:SortSt}(h:Bs a0 κ st):(arrOf st).size=a0.size:=h.perm.size_eq
theorem Bs.set {a0:Array Keyed}{κ:SortKind}{st:SortSt}(h:Bs a0 κ st){xs:Array Keyed}(hp:xs.Perm (arrOf st)):Bs a0 κ (setArr st xs):=⟨hp.trans h.perm,h.kind,h.ok⟩
theorem Bs.mem {a0:Array Keyed}{κ:SortKind}{st:SortSt}(h:Bs a0 κ st){i:Nat}(hi:i < a0.size):∃p,(arrOf st)[i]? =some p/\p∈a0.toList:=by
 have hi':i < (arrOf st).size:=by rw[h.size];exact hi
 exact ⟨(arrOf st)[i],getElem?_pos _ i hi',(da2.mp h.perm).mem_iff.mp (by simp)⟩
section
variable {prog:Program} {w:World} {A:Around} {E:Value->Shared->Prop} {s:Shared}
def Cm (prog:Program)(w:World)(A:Around)(s:Shared)(κ:SortKind)(rk:Keyed->Nat)(a0:Array Keyed):Prop:=
 ∀x∈a0.toList,∀y∈a0.toList,∀(Q:Bool->Shared->Prop) (E':Value->Shared->Prop),Q (decide (rk x < rk y)) s->wpAny (model prog w) A (keyLt' κ x.1 y.1) Q E' s
variable {rk:Keyed->Nat} {a0:Array Keyed} {κ:SortKind}
theorem aq2 {st:SortSt}{x y:Keyed}{Q:Option Bool->SortSt->Prop}(C:Cm prog w A s κ rk a0)(hk:kindOf st=κ)(hx:x∈a0.toList)(hy:y∈a0.toList)(h:Q (some (decide (rk x < rk y))) st):
   wpS (model prog w) A E s (lt' x y) Q st:=by
 rw[lt'_eq];refine wpS_bind (wpS_get ?_);rw[hk];exact wpS_bind (wpS_lift (wpAny_attempt (C x hx y hy _ _ ⟨rfl,wpS_pure h⟩)))
theorem W1 {st:SortSt}{i j:Nat}{Q:Option Bool->SortSt->Prop}(C:Cm prog w A s κ rk a0)(B:Bs a0 κ st)(hi:i < a0.size)(hj:j < a0.size)(h:Q (some (decide (R rk (arrOf st) i < R rk (arrOf st) j))) st):
   wpS (model prog w) A E s (ltAt' i j) Q st:=by
 obtain ⟨x,ex,mx⟩:=B.mem hi;obtain ⟨y,ey,my⟩:=B.mem hj;rw[ltAt'_eq];refine wpS_bind (wpS_get ?_);show wpS _ _ _ _ (do let u <-elem' (arrOf st) i;let v <-elem' (arrOf st) j;lt' u v) Q st;rw[elem'_eq,elem'_eq,ex,ey];refine wpS_bind (wpS_pure (wpS_bind (wpS_pure (aq2 C B.kind mx my ?_))));unfold R at h;rw[ex,ey] at h;exact h
theorem aq3 {st:SortSt}{i j:Nat}{Q:Unit->SortSt->Prop}(h:Q () (setArr st (mirror (arrOf st) i j ((j - i)/2)))):wpS (model prog w) A E s (reverseSlice' i j) Q st:=by
 rw[reverseSlice'_eq];exact wpS_modify h
theorem cj7 {st:SortSt}{lo n ok:Nat}{Q:Bool->SortSt->Prop}(C:Cm prog w A s κ rk a0)(hn:lo+n<=a0.size)(hok:ok<=n)(B:Bs a0 κ st)(hs:Up rk (arrOf st) lo (lo+ok))
   (h:∀st',Bs a0 κ st'->Up rk (arrOf st') lo (lo+n)->A7 (arrOf st) (arrOf st') lo (lo+n)->pendingOf st'=pendingOf st->Q true st'):wpS (model prog w) A E s (binarySort' lo n ok) Q st:=by
 rw[binarySort'_eq]
 refine wpS_bind (wpS_mono (wpS_forRange (I:=fun k c t=>c=(none,())/\Bs a0 κ t/\Up rk (arrOf t) lo (lo+min k n)/\A7 (arrOf st) (arrOf t) lo (lo+n)/\pendingOf t=pendingOf st)
   (Q:=fun c t=>c=(none,())/\Bs a0 κ t/\Up rk (arrOf t) lo (lo+n)/\A7 (arrOf st) (arrOf t) lo (lo+n)/\pendingOf t=pendingOf st) ?step ?fin ?init) ?post)
 case post=>
   rintro c t ⟨rfl,B',u,k,p⟩;exact wpS_pure (h t B' u k p)
 case init=>
   refine ⟨rfl,B,fun i j h1 h2 h3=> ?_,A7.refl _ _ _,rfl⟩
   by_cases z:ok=0
   · have:i=j:=by omega
     rw[this];exact ct4 _
   · exact hs i j h1 h2 (by omega)
 case fin=>
   rintro c t ⟨hc,B',u,k,p⟩;refine ⟨hc,B',?_,k,p⟩
   rwa [show min (max (max ok 1) n) n=n by omega] at u
 case step=>
   rintro k c t h1 h2 ⟨rfl,B',u,kp,pe⟩;rw[show min k n=k by omega] at u
   refine wpS_bind (wpS_mono (wpS_forRange (I:=fun x c t'=>t'=t/\∃l r,c=(none,l,r)/\l<=r/\r<=k/\r - l<=k - x/\
       (∀i,i < l->R rk (arrOf t) (lo+i)<=R rk (arrOf t) (lo+k))/\(∀i,r<=i->i < k->R rk (arrOf t) (lo+k) < R rk (arrOf t) (lo+i)))
     (Q:=fun c t'=>t'=t/\∃l r,c=(none,l,r)/\l<=k/\(∀i,i < l->R rk (arrOf t) (lo+i)<=R rk (arrOf t) (lo+k))/\(∀i,l<=i->i < k->R rk (arrOf t) (lo+k) < R rk (arrOf t) (lo+i))) ?st2 ?fin2 ?init2) ?post2)
   case init2=>exact ⟨rfl,0,k,rfl,by omega,by omega,by omega,fun i hi=>by omega,fun i h1 h2=>by omega⟩
   case fin2=>
     rintro c t' ⟨rfl,l,r,rfl,a1,a2,a3,a4,a5⟩
     have:l=r:=by omega
     subst this;exact ⟨rfl,l,l,rfl,a2,a4,a5⟩
   case st2=>
     rintro x c t' _ hx ⟨rfl,l,r,rfl,a1,a2,a3,a4,a5⟩
     dsimp only
     by_cases z:l≥r
     · rw[if_pos z]
       have:l=r:=by omega
       subst this;exact wpS_pure ⟨rfl,l,l,rfl,a2,a4,a5⟩
     · rw[if_neg z];refine wpS_bind (W1 C B' (by omega) (by omega) ?_)
       by_cases y:R rk (arrOf t') (lo+k) < R rk (arrOf t') (lo+(l+r)/2)
       · simp only[y,decide_true,if_true];refine wpS_pure ⟨rfl,l,(l+r)/2,rfl,by omega,by omega,by omega,a4,fun i b1 b2=> ?_⟩;have:=u (lo+(l+r)/2) (lo+i) (by omega) (by omega) (by omega);omega
       · simp only[y,decide_false,cz9,if_false];refine wpS_pure ⟨rfl,(l+r)/2+1,r,rfl,by omega,by omega,by omega,fun i b1=> ?_,a5⟩;have:=u (lo+i) (lo+(l+r)/2) (by omega) (by omega) (by omega);omega
   case post2=>
     rintro c t' ⟨rfl,l,r,rfl,a1,a2,a3⟩;show wpS _ _ _ _ (do moveDown' (lo+k) (lo+l);pure (ForInStep.yield (none,()))) _ _;rw[moveDown'_eq]
     have hz:lo+k < (arrOf t').size:=by rw[B'.size];omega
     refine wpS_bind (wpS_modify (wpS_pure ⟨rfl,B'.set (bubble_perm _ _ _),?_,kp.trans (bg1 hz (by omega) (by omega) (by omega)),pe⟩));rw[show min (k+1) n=k+1 by omega];intro i j b1 b2 b3;show R rk (bubble (arrOf t') (lo+k) (lo+k - (lo+l))) i<=R rk (bubble (arrOf t') (lo+k) (lo+k - (lo+l))) j
     have f1:∀i,lo<=i->i < lo+l->R rk (arrOf t') i<=R rk (arrOf t') (lo+k):=fun i c1 c2=>by have:=a2 (i - lo) (by omega);rwa [show lo+(i - lo)=i by omega] at this
     have f2:∀i,lo+l<=i->i < lo+k->R rk (arrOf t') (lo+k) < R rk (arrOf t') i:=fun i c1 c2=>by have:=a3 (i - lo) (by omega) (by omega);rwa [show lo+(i - lo)=i by omega] at this
     rw[bc3 hz (by omega),bc3 hz (by omega),show lo+k - (lo+k - (lo+l))=lo+l by omega]
     repeat' split
     all_goals first
       |(exfalso;omega)
       |exact ct4 _
       |exact f1 _ (by omega) (by omega)
       |exact cz3 (f2 _ (by omega) (by omega))
       |exact u _ _ (by omega) (by omega) (by omega)
end
end TS
namespace TS
open PySem PyProof.Rows
section
variable {prog:Program} {w:World} {A:Around} {E:Value->Shared->Prop} {s:Shared}
variable {rk:Keyed->Nat} {a0:Array Keyed} {κ:SortKind}
theorem bt2 {xs:Array Keyed}{lo x:Nat}(u:Up rk xs lo (lo+x))(x1:1<=x)(h:¬R rk xs (lo+x) < R rk xs (lo+x - 1)):Up rk xs lo (lo+(x+1)):=fun i j h1 h2 h3=>by
 by_cases hj:j < lo+x
 · exact u i j h1 h2 hj
 · have e:j=lo+x:=by omega
   subst e
   by_cases hi:i=lo+x
   · rw[hi];exact ct4 _
   · have:=u i (lo+x - 1) h1 (by omega) (by omega);omega
theorem X4 {xs:Array Keyed}{lo x:Nat}(u:at1 rk xs lo (lo+x))(x1:1<=x)(h:R rk xs (lo+x)<=R rk xs (lo+x - 1)):at1 rk xs lo (lo+(x+1)):=fun i j h1 h2 h3=>by
 by_cases hj:j < lo+x
 · exact u i j h1 h2 hj
 · have e:j=lo+x:=by omega
   subst e
   by_cases hi:i=lo+x
   · rw[hi];exact ct4 _
   · have:=u i (lo+x - 1) h1 (by omega) (by omega);omega
def bx9 (a0:Array Keyed)(κ:SortKind)(rk:Keyed->Nat)(lo nrem:Nat)(st:SortSt)(r:Option Nat)(t:SortSt):Prop:=
 ∃m,r=some m/\Bs a0 κ t/\1<=m/\m<=nrem/\Up rk (arrOf t) lo (lo+m)/\A7 (arrOf st) (arrOf t) lo (lo+nrem)/\pendingOf t=pendingOf st
theorem cj8 {st:SortSt}{lo nrem:Nat}(C:Cm prog w A s κ rk a0)(hn:lo+nrem<=a0.size)(n1:1<=nrem)(B:Bs a0 κ st):wpS (model prog w) A E s (countRun' lo nrem) (bx9 a0 κ rk lo nrem st) st:=by
 rw[countRun'_eq]
 refine wpS_bind (wpS_mono (wpS_forRange (I:=fun x c t=>t=st/\c=(none,x)/\Up rk (arrOf st) lo (lo+x))
   (Q:=fun c t=>t=st/\∃n,c=(none,n)/\1<=n/\n<=nrem/\Up rk (arrOf st) lo (lo+n)/\(n=nrem\/R rk (arrOf st) (lo+n) < R rk (arrOf st) (lo+n - 1))) ?step ?fin
   ⟨rfl,rfl,fun i j h1 h2 h3=>by rw[show i=j by omega];exact ct4 _⟩) ?post)
 case fin=>
   rintro c t ⟨rfl,rfl,u⟩;rw[show max 1 nrem=nrem by omega] at u ⊢;exact ⟨rfl,nrem,rfl,n1,ct4 _,u,.inl rfl⟩
 case step=>
   rintro x c t x1 xn ⟨rfl,rfl,u⟩
   dsimp only
   refine wpS_bind (W1 C B (by omega) (by omega) ?_)
   by_cases y:R rk (arrOf t) (lo+x) < R rk (arrOf t) (lo+x - 1)
   · simp only[y,decide_true,if_true];exact wpS_pure ⟨rfl,x,rfl,x1,by omega,u,.inr y⟩
   · simp only[y,decide_false,cz9,if_false];exact wpS_pure ⟨rfl,rfl,bt2 u x1 y⟩
 case post=>
   rintro c t ⟨rfl,n,rfl,m1,mn,u,hor⟩
   dsimp only
   by_cases z:n=nrem
   · rw[if_pos (by simpa using z)];exact wpS_pure ⟨n,rfl,B,m1,mn,u,A7.refl _ _ _,rfl⟩
   · rw[if_neg (by simpa using z)];have lt:=hor.resolve_left z
     suffices D:∀t',Bs a0 κ t'->at1 rk (arrOf t') lo (lo+(n+1))->A7 (arrOf t) (arrOf t') lo (lo+nrem)->pendingOf t'=pendingOf t->wpS (model prog w) A E s _ (bx9 a0 κ rk lo nrem t) t' by
       by_cases g:n > 1
       · rw[if_pos g];refine wpS_bind (W1 C B (by omega) (by omega) ?_)
         by_cases y:R rk (arrOf t) lo < R rk (arrOf t) (lo+n - 1)
         · simp only[y,decide_true,if_true];exact wpS_pure ⟨n,rfl,B,m1,mn,u,A7.refl _ _ _,rfl⟩
         · simp only[y,decide_false,cz9,if_false]
           have hz:lo+n<=(arrOf t).size:=by rw[B.size];omega
           have all:∀k,lo<=k->k < lo+n->R rk (arrOf t) k=R rk (arrOf t) (lo+n - 1):=fun k h1 h2=>by
             have a1:=u lo k (by omega) h1 h2;have a2:=u k (lo+n - 1) h1 (by omega) (by omega);omega
           refine wpS_bind (aq3 (D _ (B.set (mirror_perm _ _ _ _)) ?_ (T5 hz (ct4 _) (by omega)) rfl));refine X4 (fun i j h1 h2 h3=> ?_) m1 ?_
           · show R rk (mirror (arrOf t) _ _ _) j<=R rk (mirror (arrOf t) _ _ _) i;rw[L7 hz all,L7 hz all,all i h1 (by omega),all j (by omega) h3];exact ct4 _
           · show R rk (mirror (arrOf t) _ _ _) _<=R rk (mirror (arrOf t) _ _ _) _;rw[L7 hz all,L7 hz all];omega
       · rw[if_neg g];refine D _ B (X4 (fun i j h1 h2 h3=>by rw[show i=j by omega];exact ct4 _) m1 (by omega)) (A7.refl _ _ _) rfl
     intro t1 B1 d1 k1 p1;refine wpS_bind (wpS_lift (wpAny_rule ⟨rfl,?_⟩))
     refine wpS_bind (wpS_mono (wpS_forRange (I:=fun x c t'=>∃q,c=(none,x,q)/\Bs a0 κ t'/\at1 rk (arrOf t') lo (lo+x)/\q+1<=x/\(∀i,lo+x - (q+1)<=i->i < lo+x->R rk (arrOf t') i=R rk (arrOf t') (lo+x - 1))/\A7 (arrOf t) (arrOf t') lo (lo+nrem)/\pendingOf t'=pendingOf t)
       (Q:=fun c t'=>∃x q,c=(none,x,q)/\n+1<=x/\x<=nrem/\Bs a0 κ t'/\at1 rk (arrOf t') lo (lo+x)/\q+1<=x/\(∀i,lo+x - (q+1)<=i->i < lo+x->R rk (arrOf t') i=R rk (arrOf t') (lo+x - 1))/\A7 (arrOf t) (arrOf t') lo (lo+nrem)/\pendingOf t'=pendingOf t) ?step2 ?fin2
       ⟨0,rfl,B1,d1,by omega,(fun i h1 h2=>by rw[show i=lo+(n+1) - 1 by omega]),k1,p1⟩) ?post2)
     case fin2=>
       rintro c t' ⟨q,rfl,B',d,q1,al,k,p⟩;rw[show max (n+1) nrem=nrem by omega] at d q1 al ⊢;exact ⟨nrem,q,rfl,by omega,ct4 _,B',d,q1,al,k,p⟩
     case step2=>
       rintro x c t' x1 xn ⟨q,rfl,B',d,q1,al,k,p⟩
       dsimp only
       have hz:lo+x<=(arrOf t').size:=by rw[B'.size];omega
       refine wpS_bind (W1 C B' (by omega) (by omega) ?_)
       by_cases y:R rk (arrOf t') (lo+x) < R rk (arrOf t') (lo+x - 1)
       · simp only[y,decide_true,if_true]
         by_cases g:q > 0
         · rw[if_pos g];refine wpS_bind (aq3 (wpS_pure ⟨0,rfl,B'.set (mirror_perm _ _ _ _),?_,by omega,(fun i h1 h2=>by rw[show i=lo+(x+1) - 1 by omega]),k.trans (T5 hz (by omega) (by omega)),p⟩));refine X4 (fun i j h1 h2 h3=> ?_) (by omega) ?_
           · show R rk (mirror (arrOf t') _ _ _) j<=R rk (mirror (arrOf t') _ _ _) i;rw[L7 hz al,L7 hz al];exact d i j h1 h2 h3
           · show R rk (mirror (arrOf t') _ _ _) _<=R rk (mirror (arrOf t') _ _ _) _;rw[L7 hz al,L7 hz al];omega
         · rw[if_neg g];exact wpS_pure ⟨0,rfl,B',X4 d (by omega) (by omega),by omega,(fun i h1 h2=>by rw[show i=lo+(x+1) - 1 by omega]),k,p⟩
       · simp only[y,decide_false,cz9,if_false];refine wpS_bind (W1 C B' (by omega) (by omega) ?_)
         by_cases g:R rk (arrOf t') (lo+x - 1) < R rk (arrOf t') (lo+x)
         · simp only[g,decide_true,if_true];exact wpS_pure ⟨x,q,rfl,x1,by omega,B',d,q1,al,k,p⟩
         · simp only[g,decide_false,cz9,if_false]
           have e:R rk (arrOf t') (lo+x)=R rk (arrOf t') (lo+x - 1):=by omega
           refine wpS_pure ⟨q+1,rfl,B',X4 d (by omega) (by omega),by omega,fun i h1 h2=> ?_,k,p⟩;rw[show lo+(x+1) - 1=lo+x by omega]
           by_cases hi:i=lo+x
           · rw[hi]
           · rw[e];exact al i (by omega) (by omega)
     case post2=>
       rintro c t2 ⟨x,q,rfl,x1,xn,B2,d,q1,al,k2,p2⟩
       dsimp only
       have hz:lo+x<=(arrOf t2).size:=by rw[B2.size];omega
       suffices T:∀t3,Bs a0 κ t3->at1 rk (arrOf t3) lo (lo+x)->A7 (arrOf t) (arrOf t3) lo (lo+nrem)->pendingOf t3=pendingOf t->wpS (model prog w) A E s _ (bx9 a0 κ rk lo nrem t) t3 by
         by_cases g:q > 0
         · rw[if_pos g];refine wpS_bind (aq3 (T _ (B2.set (mirror_perm _ _ _ _)) (fun i j h1 h2 h3=> ?_) (k2.trans (T5 hz (by omega) (by omega))) p2));show R rk (mirror (arrOf t2) _ _ _) j<=R rk (mirror (arrOf t2) _ _ _) i;rw[L7 hz al,L7 hz al];exact d i j h1 h2 h3
         · rw[if_neg g];exact T _ B2 d k2 p2
       intro t3 B3 d3 k3 p3
       have hz3:lo+x<=(arrOf t3).size:=by rw[B3.size];omega
       refine wpS_bind (aq3 ?_);have B4:=B3.set (mirror_perm (arrOf t3) lo (lo+x) ((lo+x - lo)/2))
       have u4:Up rk (arrOf (setArr t3 (mirror (arrOf t3) lo (lo+x) ((lo+x - lo)/2)))) lo (lo+x):=fun i j h1 h2 h3=>by
         show R rk (mirror (arrOf t3) _ _ _) i<=R rk (mirror (arrOf t3) _ _ _) j;rw[an2 hz3,an2 hz3,if_pos (by omega),if_pos (by omega)];exact d3 _ _ (by omega) (by omega) (by omega)
       have k4:A7 (arrOf t) (arrOf (setArr t3 (mirror (arrOf t3) lo (lo+x) ((lo+x - lo)/2)))) lo (lo+nrem):=k3.trans (T5 hz3 (ct4 _) (by omega));have p4:pendingOf (setArr t3 (mirror (arrOf t3) lo (lo+x) ((lo+x - lo)/2)))=pendingOf t:=p3;generalize setArr t3 (mirror (arrOf t3) lo (lo+x) ((lo+x - lo)/2))=t4 at B4 u4 k4 p4 ⊢;refine wpS_bind (wpS_mono (wpS_forRange (I:=fun y c t'=>t'=t4/\c=(none,y)/\Up rk (arrOf t4) lo (lo+y)) (Q:=fun c t'=>t'=t4/\∃y,c=(none,y)/\x<=y/\y<=nrem/\Up rk (arrOf t4) lo (lo+y)) ?step3 ?fin3 ⟨rfl,rfl,u4⟩) ?post3)
       case fin3=>
         rintro c t' ⟨rfl,rfl,v⟩;rw[show max x nrem=nrem by omega] at v ⊢;exact ⟨rfl,nrem,rfl,xn,ct4 _,v⟩
       case step3=>
         rintro y c t' y1 yn ⟨rfl,rfl,v⟩
         dsimp only
         refine wpS_bind (W1 C B4 (by omega) (by omega) ?_)
         by_cases g:R rk (arrOf t') (lo+y) < R rk (arrOf t') (lo+y - 1)
         · simp only[g,decide_true,if_true];exact wpS_pure ⟨rfl,y,rfl,y1,by omega,v⟩
         · simp only[g,decide_false,cz9,if_false];exact wpS_pure ⟨rfl,rfl,bt2 v (by omega) g⟩
       case post3=>
         rintro c t' ⟨rfl,y,rfl,y1,yn,v⟩;exact wpS_pure ⟨y,rfl,B4,by omega,yn,v,k4,p4⟩
end
end TS
namespace TS
open PySem PyProof.Rows
def gal:Bool->Keyed->Array Keyed->Nat->Nat->Nat->StateT SortSt Sem (Option Nat):=sortPriv%PySem.Builtin.gallop
section
variable {prog:Program} {w:World} {A:Around} {E:Value->Shared->Prop} {s:Shared}
variable {rk:Keyed->Nat} {a0:Array Keyed} {κ:SortKind}
def B6 (rk:Keyed->Nat)(left:Bool)(key:Keyed)(arr:Array Keyed)(base i:Nat):Bool:=if left then decide (R rk arr (base+i) < rk key) else !decide (rk key < R rk arr (base+i))
theorem M7 {left:Bool}{key:Keyed}{arr:Array Keyed}{base n i j:Nat}(u:Up rk arr base (base+n))(h1:i<=j)(h2:j < n)(h:B6 rk left key arr base j=true):B6 rk left key arr base i=true:=by
 have:=u (base+i) (base+j) (by omega) (by omega) (by omega);unfold B6 at h ⊢;cases left
 · simp at h ⊢;omega
 · simp at h ⊢;omega
theorem A3 {arr:Array Keyed}{i:Nat}{st:SortSt}{Q:Keyed->SortSt->Prop}{p:Keyed}(h:arr[i]? =some p)(q:Q p st):wpS (model prog w) A E s (elem' arr i) Q st:=by
 rw[elem'_eq,h];exact wpS_pure q
def In0 (a0 arr:Array Keyed):Prop:=∀x∈arr.toList,x∈a0.toList
theorem In0.at {arr:Array Keyed}(h:In0 a0 arr){i:Nat}(hi:i < arr.size):∃p,arr[i]? =some p/\p∈a0.toList:=⟨arr[i],getElem?_pos _ i hi,h _ (by simp)⟩
theorem D7 {arr:Array Keyed}{i:Nat}{p:Keyed}(h:arr[i]? =some p):R rk arr i=rk p:=by unfold R;rw[h]
theorem ab1 {st:SortSt}{left:Bool}{key:Keyed}{arr:Array Keyed}{base n hint:Nat}{Q:Option Nat->SortSt->Prop}(C:Cm prog w A s κ rk a0)(hk:kindOf st=κ)(ia:In0 a0 arr)(ik:key∈a0.toList)(hz:base+n<=arr.size)(hh:hint < n)
   (u:Up rk arr base (base+n)) (h:∀k,k<=n->(∀i,i < k->B6 rk left key arr base i=true)->(∀i,k<=i->i < n->B6 rk left key arr base i=false)->Q (some k) st):wpS (model prog w) A E s (gal left key arr base n hint) Q st:=by
 have by0:∀(i:Nat) (Q':Option Bool->SortSt->Prop),i < n->Q' (some (B6 rk left key arr base i)) st->wpS (model prog w) A E s (do let x <-elem' arr (base+i);if left then lt' x key else return (<-lt' key x).map (!·)) Q' st:=by
   intro i Q' hi q;obtain ⟨p,e,m⟩:=ia.at (show base+i < arr.size by omega);refine wpS_bind (A3 e ?_);unfold B6 at q;rw[D7 e] at q
   cases left with
   |true=>
    rw[if_pos rfl] at q ⊢;exact aq2 C hk m ik q
   |false=>
    rw[if_neg (by decide)] at q ⊢;exact wpS_bind (aq2 C hk ik m (wpS_pure q))
 refine wpS_bind (by0 hint _ hh ?_)
 cases hr:B6 rk left key arr base hint with
 |true=>
  dsimp only
  rw[if_pos rfl]
  refine wpS_bind (wpS_mono (wpS_forRange (I:=fun x c t=>t=st/\∃l o,c=(none,l,o)/\l < o/\l < n - hint/\x+1<=o/\B6 rk left key arr base (hint+l)=true)
    (Q:=fun c t=>t=st/\∃l o,c=(none,l,o)/\l < o/\l < n - hint/\B6 rk left key arr base (hint+l)=true/\(n - hint<=o\/B6 rk left key arr base (hint+o)=false)) ?step ?fin ⟨rfl,0,1,rfl,by omega,by omega,by omega,hr⟩) ?post)
  case fin=>
    rintro c t ⟨rfl,l,o,rfl,a1,a2,a3,a4⟩;exact ⟨rfl,l,o,rfl,a1,a2,a4,.inl (by omega)⟩
  case step=>
    rintro x c t _ xn ⟨rfl,l,o,rfl,a1,a2,a3,a4⟩
    dsimp only
    by_cases z:o≥n - hint
    · rw[if_pos z];exact wpS_pure ⟨rfl,l,o,rfl,a1,a2,a4,.inl z⟩
    · rw[if_neg z];refine wpS_bind (by0 (hint+o) _ (by omega) ?_)
      cases y:B6 rk left key arr base (hint+o) with
      |true=>
       dsimp only
       rw[if_neg (by decide)];exact wpS_pure ⟨rfl,_,_,rfl,by omega,by omega,by omega,y⟩
      |false=>
       dsimp only
       rw[if_pos (by decide)];exact wpS_pure ⟨rfl,l,o,rfl,a1,a2,a4,.inr y⟩
  case post=>
    rintro c t ⟨ht,l,o,rfl,a1,a2,a3,a4⟩;obtain rfl:=ht.symm
    dsimp only
    have le1:hint+l+1<=hint+min o (n - hint):=by omega
    have le2:hint+min o (n - hint)<=n:=by omega
    have b1:∀i,i < hint+l+1->B6 rk left key arr base i=true:=fun i h1=>M7 u (show i<=hint+l by omega) (by omega) a3
    have b2:∀i,hint+min o (n - hint)<=i->i < n->B6 rk left key arr base i=false:=fun i h1 h2=>by
      rcases a4 with a4|a4
      · omega
      · cases y':B6 rk left key arr base i with
        |false=>rfl
        |true=>rw[M7 u (show hint+o<=i by omega) h2 y'] at a4;cases a4
    refine wpS_bind (wpS_mono (wpS_forRange (I:=fun x c t=>t=st/\∃lo hi,c=(none,lo,hi)/\lo<=hi/\hi<=n/\hi - lo<=n - x/\(∀i,i < lo->B6 rk left key arr base i=true)/\(∀i,hi<=i->i < n->B6 rk left key arr base i=false))
      (Q:=fun c t=>t=st/\∃lo hi,c=(none,lo,hi)/\hi<=n/\(∀i,i < hi->B6 rk left key arr base i=true)/\(∀i,hi<=i->i < n->B6 rk left key arr base i=false)) ?stepB ?finB ⟨rfl,_,_,rfl,le1,le2,by omega,b1,b2⟩) ?postB)
    case finB=>
      rintro c t ⟨rfl,lo,hi,rfl,a1,a2,a3,a4,a5⟩;rw[show lo=hi by omega] at a4;exact ⟨rfl,lo,hi,rfl,a2,a4,a5⟩
    case stepB=>
      rintro x c t _ xn ⟨rfl,lo,hi,rfl,a1,a2,a3,a4,a5⟩
      dsimp only
      by_cases z:lo≥hi
      · rw[if_pos z];rw[show lo=hi by omega] at a4;exact wpS_pure ⟨rfl,lo,hi,rfl,a2,a4,a5⟩
      · rw[if_neg z];refine wpS_bind (by0 (lo+(hi - lo)/2) _ (by omega) ?_)
        cases y:B6 rk left key arr base (lo+(hi - lo)/2) with
        |true=>
         dsimp only
         rw[if_pos rfl];exact wpS_pure ⟨rfl,_,_,rfl,by omega,a2,by omega,fun i h1=>M7 u (show i<=lo+(hi - lo)/2 by omega) (by omega) y,a5⟩
        |false=>
         dsimp only
         rw[if_neg (by decide)];refine wpS_pure ⟨rfl,_,_,rfl,by omega,by omega,by omega,a4,fun i h1 h2=> ?_⟩
         cases y':B6 rk left key arr base i with
         |false=>rfl
         |true=>rw[M7 u h1 h2 y'] at y;cases y
    case postB=>
      rintro c t ⟨rfl,lo,hi,rfl,a1,a2,a3⟩;exact wpS_pure (h hi a1 a2 a3)
 |false=>
  dsimp only
  rw[if_neg (by decide)]
  refine wpS_bind (wpS_mono (wpS_forRange (I:=fun x c t=>t=st/\∃l o,c=(none,l,o)/\l < o/\l < hint+1/\x+1<=o/\B6 rk left key arr base (hint - l)=false)
    (Q:=fun c t=>t=st/\∃l o,c=(none,l,o)/\l < o/\l < hint+1/\B6 rk left key arr base (hint - l)=false/\(hint+1<=o\/B6 rk left key arr base (hint - o)=true)) ?step ?fin ⟨rfl,0,1,rfl,by omega,by omega,by omega,hr⟩) ?post)
  case fin=>
    rintro c t ⟨rfl,l,o,rfl,a1,a2,a3,a4⟩;exact ⟨rfl,l,o,rfl,a1,a2,a4,.inl (by omega)⟩
  case step=>
    rintro x c t _ xn ⟨rfl,l,o,rfl,a1,a2,a3,a4⟩
    dsimp only
    by_cases z:o≥hint+1
    · rw[if_pos z];exact wpS_pure ⟨rfl,l,o,rfl,a1,a2,a4,.inl z⟩
    · rw[if_neg z];refine wpS_bind (by0 (hint - o) _ (by omega) ?_)
      cases y:B6 rk left key arr base (hint - o) with
      |false=>
       dsimp only
       rw[if_neg (by decide)];exact wpS_pure ⟨rfl,_,_,rfl,by omega,by omega,by omega,y⟩
      |true=>
       dsimp only
       rw[if_pos rfl];exact wpS_pure ⟨rfl,l,o,rfl,a1,a2,a4,.inr y⟩
  case post=>
    rintro c t ⟨ht,l,o,rfl,a1,a2,a3,a4⟩;obtain rfl:=ht.symm
    dsimp only
    have le1:hint+1 - min o (hint+1)<=hint - l:=by omega
    have le2:hint - l<=n:=by omega
    have b1:∀i,i < hint+1 - min o (hint+1)->B6 rk left key arr base i=true:=fun i h1=>by
      rcases a4 with a4|a4
      · omega
      · exact M7 u (show i<=hint - o by omega) (by omega) a4
    have b2:∀i,hint - l<=i->i < n->B6 rk left key arr base i=false:=fun i h1 h2=>by
      cases y':B6 rk left key arr base i with
      |false=>rfl
      |true=>rw[M7 u h1 h2 y'] at a3;cases a3
    refine wpS_bind (wpS_mono (wpS_forRange (I:=fun x c t=>t=st/\∃lo hi,c=(none,lo,hi)/\lo<=hi/\hi<=n/\hi - lo<=n - x/\(∀i,i < lo->B6 rk left key arr base i=true)/\(∀i,hi<=i->i < n->B6 rk left key arr base i=false))
      (Q:=fun c t=>t=st/\∃lo hi,c=(none,lo,hi)/\hi<=n/\(∀i,i < hi->B6 rk left key arr base i=true)/\(∀i,hi<=i->i < n->B6 rk left key arr base i=false)) ?stepB ?finB ⟨rfl,_,_,rfl,le1,le2,by omega,b1,b2⟩) ?postB)
    case finB=>
      rintro c t ⟨rfl,lo,hi,rfl,a1,a2,a3,a4,a5⟩;rw[show lo=hi by omega] at a4;exact ⟨rfl,lo,hi,rfl,a2,a4,a5⟩
    case stepB=>
      rintro x c t _ xn ⟨rfl,lo,hi,rfl,a1,a2,a3,a4,a5⟩
      dsimp only
      by_cases z:lo≥hi
      · rw[if_pos z];rw[show lo=hi by omega] at a4;exact wpS_pure ⟨rfl,lo,hi,rfl,a2,a4,a5⟩
      · rw[if_neg z];refine wpS_bind (by0 (lo+(hi - lo)/2) _ (by omega) ?_)
        cases y:B6 rk left key arr base (lo+(hi - lo)/2) with
        |true=>
         dsimp only
         rw[if_pos rfl];exact wpS_pure ⟨rfl,_,_,rfl,by omega,a2,by omega,fun i h1=>M7 u (show i<=lo+(hi - lo)/2 by omega) (by omega) y,a5⟩
        |false=>
         dsimp only
         rw[if_neg (by decide)];refine wpS_pure ⟨rfl,_,_,rfl,by omega,by omega,by omega,a4,fun i h1 h2=> ?_⟩
         cases y':B6 rk left key arr base i with
         |false=>rfl
         |true=>rw[M7 u h1 h2 y'] at y;cases y
    case postB=>
      rintro c t ⟨rfl,lo,hi,rfl,a1,a2,a3⟩;exact wpS_pure (h hi a1 a2 a3)
end
end TS
namespace TS
open PySem PyProof.Rows
section
variable {rk:Keyed->Nat}
def Le (rk:Keyed->Nat)(x y:Keyed):Prop:=rk x<=rk y
section
variable {le:Keyed->Keyed->Prop}
def D9 (le:Keyed->Keyed->Prop)(l:List Keyed):Prop:=l.Pairwise le
structure Mi (le:Keyed->Keyed->Prop)(a b out:List Keyed)(i j:Nat):Prop where
 pm:out.Perm (a.take i++b.take j)
 up:D9 le out
 ba:∀x∈out,∀y∈a.drop i,le x y
 bb:∀x∈out,∀y∈b.drop j,le x y
theorem Q0 {l m:List Keyed}:D9 le (l++m)↔D9 le l/\D9 le m/\∀x∈l,∀y∈m,le x y:=List.pairwise_append
theorem X5 {l:List Keyed}(h:D9 le l)(i:Nat):D9 le (l.drop i):=List.Pairwise.sublist (List.drop_sublist i l) h
theorem ak0 {l:List Keyed}{i:Nat}{x:Keyed}(h:l[i]? =some x):l.drop i=x::l.drop (i+1):=by
 obtain ⟨hi,e⟩:=ct3.mp h;rw[da4 hi,e]
theorem at3 {l:List Keyed}{i:Nat}{x:Keyed}(h:l[i]? =some x):l.take (i+1)=l.take i++[x]:=by rw[di6,h];rfl
theorem S7 (rf:∀x,le x x){l:List Keyed}(s:D9 le l){i:Nat}{x:Keyed}(h:l[i]? =some x):∀y∈l.drop i,le x y:=fun y hy=>by
 have:=X5 s i;rw[ak0 h] at this hy
 rcases cv5.mp hy with e|e
 · rw[e];exact rf _
 · exact (dg6.mp this).1 y e
theorem Mi.pushA (rf:∀x,le x x){a b out:List Keyed}{i j:Nat}{x:Keyed}(h:Mi le a b out i j)(sa:D9 le a)(hx:a[i]? =some x)(hb:∀y∈b.drop j,le x y):Mi le a b (out++[x]) (i+1) j:=by
 have da:=ak0 hx
 have mx:x∈a.drop i:=by rw[da];exact ct7
 refine ⟨?_,?_,?_,?_⟩
 · rw[at3 hx,cu6];refine (h.pm.append_right [x]).trans ?_;rw[cu6];exact List.Perm.append_left _ cy5
 · refine Q0.mpr ⟨h.up,dc4 _ _,fun y hy z hz=> ?_⟩;rw[cv6.mp hz];exact h.ba y hy x mx
 · intro y hy z hz
   have hz':z∈a.drop i:=by rw[da];exact ct5 _ hz
   rcases cu5.mp hy with e|e
   · exact h.ba y e z hz'
   · rw[cv6.mp e];exact S7 rf sa hx z hz'
 · intro y hy z hz
   rcases cu5.mp hy with e|e
   · exact h.bb y e z hz
   · rw[cv6.mp e];exact hb z hz
theorem Mi.pushB (rf:∀x,le x x){a b out:List Keyed}{i j:Nat}{x:Keyed}(h:Mi le a b out i j)(sb:D9 le b)(hx:b[j]? =some x)(ha:∀y∈a.drop i,le x y):Mi le a b (out++[x]) i (j+1):=by
 have db:=ak0 hx
 have mx:x∈b.drop j:=by rw[db];exact ct7
 refine ⟨?_,?_,?_,?_⟩
 · rw[at3 hx,<-cu6];exact h.pm.append_right [x]
 · refine Q0.mpr ⟨h.up,dc4 _ _,fun y hy z hz=> ?_⟩;rw[cv6.mp hz];exact h.bb y hy x mx
 · intro y hy z hz
   rcases cu5.mp hy with e|e
   · exact h.ba y e z hz
   · rw[cv6.mp e];exact ha z hz
 · intro y hy z hz
   have hz':z∈b.drop j:=by rw[db];exact ct5 _ hz
   rcases cu5.mp hy with e|e
   · exact h.bb y e z hz'
   · rw[cv6.mp e];exact S7 rf sb hx z hz'
theorem bc4 {l:List Keyed}{i k:Nat}{x:Keyed}(h:l[i+k]? =some x):(l.take (i+(k+1))).drop i=(l.take (i+k)).drop i++[x]:=by
 have hl:=(ct3.mp h).1;rw[show i+(k+1)=(i+k)+1 by omega,at3 h,df9 (by rw[cu2];omega)]
theorem Mi.manyA (rf:∀x,le x x){a b out:List Keyed}{i j:Nat}(h:Mi le a b out i j)(sa:D9 le a):∀k,i+k<=a.length->(∀n x,n < k->a[i+n]? =some x->∀y∈b.drop j,le x y)->Mi le a b (out++(a.take (i+k)).drop i) (i+k) j
 |0,_,_=>by rw[dc5,db3 (by rw[cu2];omega),cw0];exact h
 |k+1,hl,hc=>by
  have e:a[i+k]? =some a[i+k]:=ct2 (by omega);rw[bc4 e,<-cu6,show i+(k+1)=i+k+1 by omega];exact (Mi.manyA rf h sa k (by omega) fun n x hn=>hc n x (by omega)).pushA rf sa e (hc k _ (by omega) e)
theorem Mi.manyB (rf:∀x,le x x){a b out:List Keyed}{i j:Nat}(h:Mi le a b out i j)(sb:D9 le b):∀k,j+k<=b.length->(∀n x,n < k->b[j+n]? =some x->∀y∈a.drop i,le x y)->Mi le a b (out++(b.take (j+k)).drop j) i (j+k)
 |0,_,_=>by rw[dc5,db3 (by rw[cu2];omega),cw0];exact h
 |k+1,hl,hc=>by
  have e:b[j+k]? =some b[j+k]:=ct2 (by omega);rw[bc4 e,<-cu6,show j+(k+1)=j+k+1 by omega];exact (Mi.manyB rf h sb k (by omega) fun n x hn=>hc n x (by omega)).pushB rf sb e (hc k _ (by omega) e)
def Mg (le:Keyed->Keyed->Prop)(a b r:List Keyed):Prop:=r.Perm (a++b)/\D9 le r
theorem ag8 (a b out:List Keyed)(i j:Nat)(h:out.Perm (a.take i++b.take j)):(out++a.drop i++b.drop j).Perm (a++b):=by
 have e1:=(h.append_right (a.drop i)).append_right (b.drop j);refine e1.trans ?_
 have e2:((a.take i++b.take j)++a.drop i).Perm (a++b.take j):=by
   rw[cu6];refine (List.Perm.append_left _ cy5).trans ?_;rw[<-cu6,cx4]
 refine (e2.append_right _).trans ?_;rw[cu6,cx4]
theorem Mi.doneB {a b out:List Keyed}{i j:Nat}(h:Mi le a b out i j)(sa:D9 le a)(hj:b.length<=j):Mg le a b (out++a.drop i++b.drop j):=by
 refine ⟨ag8 a b out i j h.pm,?_⟩;rw[db3 hj,cw0];exact Q0.mpr ⟨h.up,X5 sa i,h.ba⟩
theorem Mi.doneA {a b out:List Keyed}{i j:Nat}(h:Mi le a b out i j)(sb:D9 le b)(hi:a.length<=i):Mg le a b (out++a.drop i++b.drop j):=by
 refine ⟨ag8 a b out i j h.pm,?_⟩;rw[db3 hi,cw0];exact Q0.mpr ⟨h.up,X5 sb j,h.bb⟩
theorem Mi.last {a b out:List Keyed}{i j:Nat}(h:Mi le a b out i j)(sa:D9 le a)(sb:D9 le b)(top:∀x∈b.drop j,∀y∈a.drop i,le x y):Mg le a b (out++b.drop j++a.drop i):=by
 constructor
 · refine List.Perm.trans ?_ (ag8 a b out i j h.pm);rw[cu6,cu6];exact List.Perm.append_left _ cy5
 · rw[cu6];refine Q0.mpr ⟨h.up,Q0.mpr ⟨X5 sb j,X5 sa i,top⟩,fun x hx y hy=> ?_⟩
   rcases cu5.mp hy with e|e
   · exact h.bb x hx y e
   · exact h.ba x hx y e
end
theorem co6 {xs:Array Keyed}(u:Up rk xs 0 xs.size):D9 (Le rk) xs.toList:=by
 refine cw3.mpr fun i j hi hj hij=> ?_
 have:=u i j (cv9 _) (by omega) (by simpa using hj);rw[D7 (p:=xs.toList[i]) (by simp),D7 (p:=xs.toList[j]) (by simp)] at this;exact this
theorem Z6 {xs:Array Keyed}(h:D9 (Le rk) xs.toList):Up rk xs 0 xs.size:=fun i j _ hij hj=>by
 rcases dg7 hij with z|z
 · have:=cw3.mp h i j (by simp;omega) (by simpa using hj) z;rw[D7 (i:=i) (p:=xs.toList[i]'(by simp;omega)) (by simp),D7 (i:=j) (p:=xs.toList[j]'(by simpa using hj)) (by simp)];exact this
 · rw[z];exact ct4 _
end
end TS
namespace TS
open PySem PyProof.Rows
def mLo:Array Keyed->Array Keyed->StateT SortSt Sem (Array Keyed):=sortPriv%PySem.Builtin.mergeLo
section
variable {prog:Program} {w:World} {A:Around} {E:Value->Shared->Prop} {s:Shared}
variable {rk:Keyed->Nat} {a0:Array Keyed} {κ:SortKind}
structure G2 (st t:SortSt):Prop where
 arr:arrOf t=arrOf st
 pend:pendingOf t=pendingOf st
 kind:kindOf t=kindOf st
 ok:failedOf t=failedOf st
theorem G2.refl (st:SortSt):G2 st st:=⟨rfl,rfl,rfl,rfl⟩
def MQ (rk:Keyed->Nat)(a b:Array Keyed)(st:SortSt)(r:Array Keyed)(t:SortSt):Prop:=Mg (Le rk) a.toList b.toList r.toList/\G2 st t
theorem hv {β γ:Type}{F:γ}{K:γ->StateT SortSt Sem β}{Q:β->SortSt->Prop}{st:SortSt}(h:wpS (model prog w) A E s (K F) Q st):wpS (model prog w) A E s (have x:=F;K x) Q st:=h
theorem B0 {β:Type}{c:Prop}[Decidable c]{m n:StateT SortSt Sem β}{Q:β->SortSt->Prop}{st:SortSt}(h1:c->wpS (model prog w) A E s m Q st)(h2:¬c->wpS (model prog w) A E s n Q st):wpS (model prog w) A E s (if c then m else n) Q st:=by
 split
 · exact h1 ‹_›
 · exact h2 ‹_›
theorem ca9 {β:Type}{c:Prop}[Decidable c]{m n:StateT SortSt Sem β}{Q:β->SortSt->Prop}{st:SortSt}(h2:¬c->wpS (model prog w) A E s n Q st)(h1:c->wpS (model prog w) A E s m Q st):wpS (model prog w) A E s (if c then m else n) Q st:=B0 h1 h2
theorem bt3 {P:Nat->Prop}{T:Prop}(use:(∀g,P g)->T)(h:∀g,P g):T:=use h
theorem M8 {a b:Nat}(h:(a==b)=true):a=b:=by simpa using h
theorem N9 {a b:Nat}(h:¬(a==b)=true):¬a=b:=by simpa using h
theorem S8 (xs:Array Keyed)(i:Nat):(xs.extract i).toList=xs.toList.drop i:=by rw[Array.toList_extract,dh4,cz2 (by simp)]
theorem N8 (xs:Array Keyed)(i j:Nat):(xs.extract i j).toList=(xs.toList.take j).drop i:=by rw[Array.toList_extract,dh4,List.drop_take]
theorem G1 {xs:Array Keyed}{i:Nat}{x:Keyed}(h:xs[i]? =some x):xs.toList[i]? =some x:=by rw[<-h];simp
theorem cj9 {st:SortSt}{g:Nat}{Q:Unit->SortSt->Prop}(h:Q () (SortSt.mk' (kindOf st) (arrOf st) (pendingOf st) g (failedOf st))):wpS (model prog w) A E s ((sortPriv%PySem.Builtin.setMinGallop) g) Q st:=wpS_modify h
theorem G2.gal {st t:SortSt}(h:G2 st t)(g:Nat):G2 st (SortSt.mk' (kindOf t) (arrOf t) (pendingOf t) g (failedOf t)):=⟨h.arr,h.pend,h.kind,h.ok⟩
theorem by1 {st0 st:SortSt}{g:Nat}{Q:Unit->SortSt->Prop}(l:G2 st0 st)(h:∀t,G2 st0 t->Q () t):wpS (model prog w) A E s ((sortPriv%PySem.Builtin.setMinGallop) g) Q st:=cj9 (h _ (l.gal g))
theorem ck0 {st:SortSt}{a b:Array Keyed}(C:Cm prog w A s κ rk a0)(hk:kindOf st=κ)(ia:In0 a0 a)(ib:In0 a0 b)(a1:1<=a.size)(b1:1<=b.size)(sa:D9 (Le rk) a.toList)(sb:D9 (Le rk) b.toList)
   (first:∀x,b[0]? =some x->∀y∈a.toList,Le rk x y) (last:∀x∈b.toList,∀y,a[a.size - 1]? =some y->Le rk x y):wpS (model prog w) A E s (mLo a b) (MQ rk a b st) st:=by
 have la:a.toList.length=a.size:=cv0;have lb:b.toList.length=b.size:=cv0;have ua:=Z6 sa;have ub:=Z6 sb
 have doneB:∀out i j t,Mi (Le rk) a.toList b.toList (cz4 out) i j->G2 st t->b.size<=j->MQ rk a b st (out++a.extract i++b.extract j) t:=fun out i j t m l hj=>by
   refine ⟨?_,l⟩;rw[cx1,cx1,S8,S8];exact m.doneB sa (by omega)
 have doneA:∀out i j t,Mi (Le rk) a.toList b.toList (cz4 out) i j->G2 st t->a.size<=i->MQ rk a b st (out++a.extract i++b.extract j) t:=fun out i j t m l hi=>by
   refine ⟨?_,l⟩;rw[cx1,cx1,S8,S8];exact m.doneA sb (by omega)
 have lastA:∀out i j t,Mi (Le rk) a.toList b.toList (cz4 out) i j->G2 st t->i+1=a.size->MQ rk a b st (out++b.extract j++a.extract i) t:=fun out i j t m l hi=>by
   refine ⟨?_,l⟩;rw[cx1,cx1,S8,S8]
   refine m.last sa sb fun x hx y hy=>last x (db6 hx) y ?_
   have e:a.toList[i]? =some a.toList[i]:=ct2 (by omega);rw[ak0 e,db3 (by omega)] at hy;rw[cv6.mp hy,show a.size - 1=i by omega,<-cy1];exact e
 have stepB:∀out i j x y,Mi (Le rk) a.toList b.toList (cz4 out) i j->a[i]? =some x->b[j]? =some y->rk y<=rk x->Mi (Le rk) a.toList b.toList (cz4 (out.push y)) i (j+1):=fun out i j x y m hx hy le=>by
   rw[db5]
   exact m.pushB (fun _=>ct4 _) sb (G1 hy) fun z hz=>cw7 le (S7 (fun _=>ct4 _) sa (G1 hx) z hz)
 have stepA:∀out i j x y,Mi (Le rk) a.toList b.toList (cz4 out) i j->a[i]? =some x->b[j]? =some y->rk x<=rk y->Mi (Le rk) a.toList b.toList (cz4 (out.push x)) (i+1) j:=fun out i j x y m hx hy le=>by
   rw[db5]
   exact m.pushA (fun _=>ct4 _) sa (G1 hx) fun z hz=>cw7 le (S7 (fun _=>ct4 _) sb (G1 hy) z hz)
 refine wpS_bind (wpS_lift (wpAny_rule ⟨rfl,?_⟩));obtain ⟨b0,eb0,mb0⟩:=ib.at (show 0 < b.size by omega);refine wpS_bind (A3 eb0 ?_)
 have m0:Mi (Le rk) a.toList b.toList (cz4 #[b0]) 0 1:=by
   have e:b.toList[0]? =some b0:=G1 eb0;have n:Mi (Le rk) a.toList b.toList [] 0 0:=⟨List.Perm.refl _,List.Pairwise.nil,(fun x h=>by cases h),(fun x h=>by cases h)⟩
   exact n.pushB (fun _=>ct4 _) sb e fun y hy=>first b0 eb0 y hy
 refine hv (hv (hv ?_))
 by_cases z1:1=b.size
 · rw[if_pos (by simpa using z1)];exact wpS_pure (doneB _ _ _ _ m0 (G2.refl st) (by omega))
 rw[if_neg (by simpa using z1)]
 by_cases z2:0+1=a.size
 · rw[if_pos (by simpa using z2)];exact wpS_pure (lastA _ _ _ _ m0 (G2.refl st) z2)
 rw[if_neg (by simpa using z2)];refine wpS_bind (wpS_get ?_)
 refine wpS_bind (wpS_mono (wpS_forRange (I:=fun x c t=>∃out i j g,c=(none,out,i,j,g)/\Mi (Le rk) a.toList b.toList (cz4 out) i j/\i+1 < a.size/\j < b.size/\x<=i+j/\G2 st t)
   (Q:=fun c t=>∃r,c.1=some r/\MQ rk a b st r t) ?step ?fin ⟨_,_,_,_,rfl,m0,by omega,by omega,by omega,G2.refl st⟩) ?post)
 case post=>
   rintro c t ⟨r,hr,q⟩;obtain ⟨c1,c2⟩:=c;cases hr;exact wpS_pure q
 case fin=>
   rintro c t ⟨out,i,j,g,rfl,m,h1,h2,h3,l⟩;omega
 case step=>
   rintro x c t _ xn ⟨out,i,j,g,rfl,m,h1,h2,h3,l⟩
   refine wpS_bind (wpS_mono (wpS_forRange (I:=fun y c t'=>∃out' i' j' p q,c=(none,out',i',j',p,q)/\t'=t/\Mi (Le rk) a.toList b.toList (cz4 out') i' j'/\i'+1 < a.size/\j' < b.size/\i'+j'=i+j+y)
     (Q:=fun c t'=>(∃r,c.1=some r/\MQ rk a b st r t')\/(∃out' i' j' p q,c=(none,out',i',j',p,q)/\t'=t/\Mi (Le rk) a.toList b.toList (cz4 out') i' j'/\i'+1 < a.size/\j' < b.size/\x+1<=i'+j')) ?step2 ?fin2 ⟨_,_,_,_,_,rfl,rfl,m,h1,h2,rfl⟩) ?post2)
   case fin2=>
     rintro c t' ⟨out',i',j',p,q,rfl,rfl,m',k1,k2,k3⟩;omega
   case step2=>
     rintro y c t' _ yn ⟨out',i',j',p,q,rfl,rfl,m',k1,k2,k3⟩;obtain ⟨u,eu,mu⟩:=ia.at (show i' < a.size by omega);obtain ⟨v,ev,mv⟩:=ib.at k2;refine wpS_bind (A3 ev (wpS_bind (A3 eu (wpS_bind (aq2 C (l.kind.trans hk) mv mu ?_)))))
     by_cases d:rk v < rk u
     · rw[decide_eq_true d]
       dsimp only
       rw[if_pos rfl];have m2:=stepB out' i' j' u v m' eu ev (cz3 d);refine wpS_bind (A3 ev ?_)
       by_cases z:j'+1=b.size
       · rw[if_pos (by simpa using z)];exact wpS_pure (.inl ⟨_,rfl,doneB _ _ _ _ m2 l (by omega)⟩)
       · rw[if_neg (by simpa using z)]
         split
         · exact wpS_pure (.inr ⟨_,_,_,_,_,rfl,rfl,m2,k1,by omega,by omega⟩)
         · exact wpS_pure ⟨_,_,_,_,_,rfl,rfl,m2,k1,by omega,by omega⟩
     · rw[decide_eq_false d]
       dsimp only
       rw[if_neg (by decide)];have m2:=stepA out' i' j' u v m' eu ev (by omega);refine wpS_bind (A3 eu ?_)
       by_cases z:i'+1+1=a.size
       · rw[if_pos (by simpa using z)];exact wpS_pure (.inl ⟨_,rfl,lastA _ _ _ _ m2 l z⟩)
       · rw[if_neg (by simpa using z)]
         split
         · exact wpS_pure (.inr ⟨_,_,_,_,_,rfl,rfl,m2,by omega,k2,by omega⟩)
         · exact wpS_pure ⟨_,_,_,_,_,rfl,rfl,m2,by omega,k2,by omega⟩
   case post2=>
     rintro c t' (⟨r,hr,q⟩|⟨out',i',j',p,q,rfl,rfl,m',k1,k2,k3⟩)
     · obtain ⟨c1,c2⟩:=c;cases hr;exact wpS_pure ⟨r,rfl,q⟩
     · refine wpS_bind (wpS_lift (wpAny_rule ⟨rfl,?_⟩))
       refine wpS_bind (wpS_mono (wpS_forRange (I:=fun y c t2=>∃out2 i2 j2 g2 p q,c=(none,out2,i2,j2,g2,p,q)/\G2 st t2/\Mi (Le rk) a.toList b.toList (cz4 out2) i2 j2/\i2+1 < a.size/\j2 < b.size/\x+1<=i2+j2)
         (Q:=fun c t2=>(∃r,c.1=some r/\MQ rk a b st r t2)\/(∃out2 i2 j2 g2 p q,c=(none,out2,i2,j2,g2,p,q)/\G2 st t2/\Mi (Le rk) a.toList b.toList (cz4 out2) i2 j2/\i2+1 < a.size/\j2 < b.size/\x+1<=i2+j2)) ?step3 ?fin3 ⟨_,_,_,_,_,_,rfl,l,m',k1,k2,k3⟩) ?post3)
       case fin3=>
         rintro c t2 h;exact .inr h
       case post3=>
         rintro c t2 (⟨r,hr,q⟩|⟨out2,i2,j2,g2,p,q,rfl,l2,m2,n1,n2,n3⟩)
         · obtain ⟨c1,c2⟩:=c;cases hr;exact wpS_pure ⟨r,rfl,q⟩
         · refine wpS_bind (cj9 ?_);exact wpS_pure ⟨_,_,_,_,rfl,m2,n1,n2,n3,l2.gal _⟩
       case step3=>
         rintro y c t2 _ yn ⟨out2,i2,j2,g2,p,q,rfl,l2,m2,n1,n2,n3⟩;obtain ⟨v,ev,mv⟩:=ib.at n2
         revert g2
         refine bt3 (fun hB g2=>ca9 (fun _=>hB g2) (fun _=>hB (g2 - 1))) ?_;intro gg;refine wpS_bind (by1 l2 fun t3 l3=> ?_);refine wpS_bind (A3 ev ?_);refine wpS_bind (ab1 (base:=i2) (n:=a.size - i2) (hint:=0) C (l3.kind.trans hk) ia mv (show i2+(a.size - i2)<=a.size by omega) (by omega) (fun x y h1 h2 h3=>ua x y (by omega) h2 (by omega)) fun k kn ka kb=> ?_)
         have mA:∀k',k'<=k->Mi (Le rk) a.toList b.toList (cz4 (out2++a.extract i2 (i2+k'))) (i2+k') j2:=fun k' hk'=>by
           rw[cx1,N8]
           refine m2.manyA (fun _=>ct4 _) sa k' (by omega) fun n x hn hx z hz=> ?_
           have h:=ka n (by omega);unfold B6 at h;rw[if_neg (by decide),D7 (p:=x) (by rw[<-cy1];exact hx)] at h
           have hle:rk x<=rk v:=by simpa using h
           exact cw7 hle (S7 (fun _=>ct4 _) sb (G1 ev) z hz)
         have gB:i2+k < a.size->rk v < R rk a (i2+k):=fun h=>by
           have h:=kb k (ct4 _) (by omega);unfold B6 at h;rw[if_neg (by decide)] at h
           simpa using h
         have m3:=mA k (ct4 _);refine B0 (fun kz=> ?_) (fun kz=> ?_);refine B0 (fun z=>wpS_pure (.inl ⟨_,rfl,lastA _ _ _ _ m3 l3 (M8 z)⟩)) (fun z1=> ?_);refine B0 (fun z=>wpS_pure (.inl ⟨_,rfl,doneA _ _ _ _ m3 l3 (dg1 (M8 z).symm)⟩)) (fun z2=> ?_);have z1:¬i2+k+1=a.size:=N9 z1;have z2:¬i2+k=a.size:=N9 z2
         have f1:i2+k+1 < a.size:=by omega
         have f2:x+1<=i2+k+j2:=by omega
         have f3:=gB (by omega);generalize out2++a.extract i2 (i2+k)=out3 at m3 ⊢;generalize i2+k=i3 at m3 f1 f2 f3 ⊢
         rotate_left
         have k0:k=0:=by omega
         subst k0
         have e0:out2++a.extract i2 (i2+0)=out2:=by simp<;>omega
         rw[e0,dc5] at m3
         have f1:i2+1 < a.size:=by omega
         have f2:x+1<=i2+j2:=by omega
         have f3:=gB (by omega);rw[dc5] at f3;clear e0;generalize out2=out3 at m3 ⊢;generalize i2=i3 at m3 f1 f2 f3 ⊢
         rotate_left
         all_goals
           obtain ⟨u3,eu3,mu3⟩:=ia.at (show i3 < a.size by omega);rw[D7 eu3] at f3;refine wpS_bind (A3 ev ?_);have m4:=stepB out3 i3 j2 u3 v m3 eu3 ev (cz3 f3);refine B0 (fun z=>wpS_pure (.inl ⟨_,rfl,doneB _ _ _ _ m4 l3 (dg1 (M8 z).symm)⟩)) (fun z3=> ?_);have z3:¬j2+1=b.size:=N9 z3;refine wpS_bind (A3 eu3 ?_);refine wpS_bind (ab1 (base:=j2+1) (n:=b.size - (j2+1)) (hint:=0) C (l3.kind.trans hk) ib mu3 (show j2+1+(b.size - (j2+1))<=b.size by omega) (by omega) (fun x y h1 h2 h3=>ub x y (by omega) h2 (by omega)) fun k' kn' ka' kb'=> ?_)
           have m5:Mi (Le rk) a.toList b.toList (cz4 (out3.push v++b.extract (j2+1) (j2+1+k'))) i3 (j2+1+k'):=by
             rw[cx1,N8]
             refine m4.manyB (fun _=>ct4 _) sb k' (by omega) fun n x hn hx z hz=> ?_
             have h:=ka' n hn;unfold B6 at h;rw[if_pos rfl,D7 (p:=x) (by rw[<-cy1];exact hx)] at h
             have hle:rk x < rk u3:=by simpa using h
             exact cw7 (cz3 hle) (S7 (fun _=>ct4 _) sa (G1 eu3) z hz)
           have gA:j2+1+k' < b.size->rk u3<=R rk b (j2+1+k'):=fun h=>by
             have h:=kb' k' (ct4 _) (by omega);unfold B6 at h;rw[if_pos rfl] at h
             simpa using h
           refine B0 (fun kz'=> ?_) (fun kz'=> ?_);refine B0 (fun z=>wpS_pure (.inl ⟨_,rfl,doneB _ _ _ _ m5 l3 (dg1 (M8 z).symm)⟩)) (fun z4=> ?_);have z4:¬j2+1+k'=b.size:=N9 z4
           have f4:j2+1+k' < b.size:=by omega
           have f5:x+1<=i3+(j2+1+k'):=by omega
           have f6:=gA f4;generalize out3.push v++b.extract (j2+1) (j2+1+k')=out4 at m5 ⊢;generalize j2+1+k'=j4 at m5 f4 f5 f6 ⊢
           rotate_left
           have k0:k'=0:=by omega
           subst k0
           have e0:out3.push v++b.extract (j2+1) (j2+1+0)=out3.push v:=by simp<;>omega
           rw[e0,dc5] at m5
           have f4:j2+1 < b.size:=by omega
           have f5:x+1<=i3+(j2+1):=by omega
           have f6:=gA (by omega);rw[dc5] at f6;clear e0;generalize out3.push v=out4 at m5 ⊢;generalize j2+1=j4 at m5 f4 f5 f6 ⊢
           rotate_left
           all_goals
             obtain ⟨v4,ev4,mv4⟩:=ib.at f4;rw[D7 ev4] at f6;have m6:=stepA out4 i3 j4 u3 v4 m5 eu3 ev4 f6;refine wpS_bind (A3 eu3 ?_);refine B0 (fun z=>wpS_pure (.inl ⟨_,rfl,lastA _ _ _ _ m6 l3 (M8 z)⟩)) (fun z5=> ?_);have z5:¬i3+1+1=a.size:=N9 z5;refine B0 (fun _=> ?_) (fun _=> ?_)
             · exact wpS_pure (.inr ⟨out4.push u3,i3+1,j4,_,_,_,rfl,l3,m6,by omega,f4,by omega⟩)
             · exact wpS_pure ⟨out4.push u3,i3+1,j4,_,_,_,rfl,l3,m6,by omega,f4,by omega⟩
end
end TS
namespace TS
open PySem PyProof.Rows
def mHi:Array Keyed->Array Keyed->StateT SortSt Sem (Array Keyed):=sortPriv%PySem.Builtin.mergeHi
def Ge (rk:Keyed->Nat)(x y:Keyed):Prop:=rk y<=rk x
theorem Q1 {rk:Keyed->Nat}{l:List Keyed}(h:D9 (Le rk) l):D9 (Ge rk) l.reverse:=List.pairwise_reverse.mpr h
theorem bt4 {rk:Keyed->Nat}{a b r:List Keyed}(h:Mg (Ge rk) b.reverse a.reverse r.reverse):Mg (Le rk) a b r:=by
 obtain ⟨p,u⟩:=h;refine ⟨?_,List.pairwise_reverse.mp u⟩
 have e:b.reverse++a.reverse=(a++b).reverse:=by rw[dc0]
 rw[e] at p;exact (List.reverse_perm r).symm.trans (p.trans (List.reverse_perm _))
theorem G8 {l:List Keyed}{n:Nat}(h:n<=l.length):l.reverse.drop (l.length - n)=(l.take n).reverse:=by
 rw[List.drop_reverse];congr 2;omega
theorem bi0 {l:List Keyed}{n:Nat}{x:Keyed}(h1:1<=n)(h:l[n - 1]? =some x):l.reverse[l.length - n]? =some x:=by
 have hl:=(ct3.mp h).1;rw[df5 (by omega),<-h]
 congr 1
 omega
theorem bi1 {l:List Keyed}{m n:Nat}(h1:m<=n)(h:n<=l.length):(l.reverse.take (l.length - n+(n - m))).drop (l.length - n)=((l.take n).drop m).reverse:=by
 rw[List.drop_take,G8 h,Nat.add_sub_cancel_left,List.take_reverse,cu2]
 congr 2
 omega
theorem ab2 {rk:Keyed->Nat}{l:List Keyed}{n:Nat}{x:Keyed}(s:D9 (Le rk) l)(h1:1<=n)(h:l[n - 1]? =some x):∀y∈l.take n,rk y<=rk x:=fun y hy=>by
 obtain ⟨hl,e⟩:=ct3.mp h;obtain ⟨i,hi⟩:=cw5.mp hy;have hil:=(ct3.mp hi).1;rw[cu2] at hil;rw[cx5 (by omega),ct2 (by omega)] at hi;have ey:=Option.some.inj hi
 rcases dg7 (show i<=n - 1 by omega) with z|z
 · have:=cw3.mp s i (n - 1) (by omega) hl z;rw[ey,e] at this;exact this
 · subst z;rw[<-ey,e];exact ct4 _
section
variable {prog:Program} {w:World} {A:Around} {E:Value->Shared->Prop} {s:Shared}
variable {rk:Keyed->Nat} {a0:Array Keyed} {κ:SortKind}
def Mh (rk:Keyed->Nat)(a b out:Array Keyed)(na nb:Nat):Prop:=na<=a.size/\nb<=b.size/\Mi (Ge rk) b.toList.reverse a.toList.reverse out.toList (b.size - nb) (a.size - na)
theorem Mh.pushB {a b out:Array Keyed}{na nb:Nat}{x:Keyed}(h:Mh rk a b out na nb)(sb:D9 (Le rk) b.toList)(n1:1<=nb)(hx:b[nb - 1]? =some x)(ha:∀y∈a.toList.take na,rk y<=rk x):Mh rk a b (out.push x) na (nb - 1):=by
 obtain ⟨h1,h2,m⟩:=h;refine ⟨h1,by omega,?_⟩;have lb:b.toList.length=b.size:=cv0;have la:a.toList.length=a.size:=cv0;rw[db5,show b.size - (nb - 1)=b.size - nb+1 by omega]
 refine m.pushA (fun _=>ct4 _) (Q1 sb) ?_ fun y hy=>ha y ?_
 · rw[<-lb];exact bi0 n1 (G1 hx)
 · rw[<-la,G8 (by omega)] at hy;exact dc1.mp hy
theorem Mh.pushA {a b out:Array Keyed}{na nb:Nat}{x:Keyed}(h:Mh rk a b out na nb)(sa:D9 (Le rk) a.toList)(n1:1<=na)(hx:a[na - 1]? =some x)(hb:∀y∈b.toList.take nb,rk y<=rk x):Mh rk a b (out.push x) (na - 1) nb:=by
 obtain ⟨h1,h2,m⟩:=h;refine ⟨by omega,h2,?_⟩;have lb:b.toList.length=b.size:=cv0;have la:a.toList.length=a.size:=cv0;rw[db5,show a.size - (na - 1)=a.size - na+1 by omega]
 refine m.pushB (fun _=>ct4 _) (Q1 sa) ?_ fun y hy=>hb y ?_
 · rw[<-la];exact bi0 n1 (G1 hx)
 · rw[<-lb,G8 (by omega)] at hy;exact dc1.mp hy
theorem Mh.manyA {a b out:Array Keyed}{na nb m:Nat}(h:Mh rk a b out na nb)(sa:D9 (Le rk) a.toList)(hm:m<=na)(hc:∀n x,m<=n->n < na->a[n]? =some x->∀y∈b.toList.take nb,rk y<=rk x):Mh rk a b (out++(a.extract m na).reverse) m nb:=by
 obtain ⟨h1,h2,mi⟩:=h;refine ⟨by omega,h2,?_⟩;have lb:b.toList.length=b.size:=cv0;have la:a.toList.length=a.size:=cv0
 have:=mi.manyB (fun _=>ct4 _) (Q1 sa) (na - m) (by rw[dd8];omega) fun n x hn hx y hy=>hc (na - 1 - n) x (by omega) (by omega) ?_ y ?_
 · rw[<-la,bi1 hm (by omega),<-N8,la,show a.size - na+(na - m)=a.size - m by omega] at this;rw[cx1,dd6];exact this
 · rw[df5 (by omega)] at hx;rw[<-cy1,<-hx]
   congr 1
   omega
 · rw[<-lb,G8 (by omega)] at hy;exact dc1.mp hy
theorem Mh.manyB {a b out:Array Keyed}{na nb m:Nat}(h:Mh rk a b out na nb)(sb:D9 (Le rk) b.toList)(hm:m<=nb)(hc:∀n x,m<=n->n < nb->b[n]? =some x->∀y∈a.toList.take na,rk y<=rk x):Mh rk a b (out++(b.extract m nb).reverse) na m:=by
 obtain ⟨h1,h2,mi⟩:=h;refine ⟨h1,by omega,?_⟩;have lb:b.toList.length=b.size:=cv0;have la:a.toList.length=a.size:=cv0
 have:=mi.manyA (fun _=>ct4 _) (Q1 sb) (nb - m) (by rw[dd8];omega) fun n x hn hx y hy=>hc (nb - 1 - n) x (by omega) (by omega) ?_ y ?_
 · rw[<-lb,bi1 hm (by omega),<-N8,lb,show b.size - nb+(nb - m)=b.size - m by omega] at this;rw[cx1,dd6];exact this
 · rw[df5 (by omega)] at hx;rw[<-cy1,<-hx]
   congr 1
   omega
 · rw[<-la,G8 (by omega)] at hy;exact dc1.mp hy
theorem ac8 (xs:Array Keyed)(j:Nat):(xs.extract 0 j).toList=xs.toList.take j:=by rw[N8,dg3]
theorem Mh.done {a b out:Array Keyed}{na nb:Nat}(h:Mh rk a b out na nb)(sa:D9 (Le rk) a.toList)(sb:D9 (Le rk) b.toList)(z:na=0\/nb=0):Mg (Le rk) a.toList b.toList (a.extract 0 na++b.extract 0 nb++out.reverse).toList:=by
 obtain ⟨h1,h2,m⟩:=h;have lb:b.toList.length=b.size:=cv0;have la:a.toList.length=a.size:=cv0;refine bt4 ?_
 have e:(a.extract 0 na++b.extract 0 nb++out.reverse).toList.reverse=out.toList++b.toList.reverse.drop (b.size - nb)++a.toList.reverse.drop (a.size - na):=by
   rw[cx1,cx1,dd6,ac8,ac8,dc0,dc0,List.reverse_reverse,<-la,<-lb,G8 (by omega),G8 (by omega),cu6]
 rw[e]
 rcases z with z|z
 · exact m.doneB (Q1 sb) (by rw[dd8];omega)
 · exact m.doneA (Q1 sa) (by rw[dd8];omega)
theorem Mh.first {a b out:Array Keyed}{na nb:Nat}(h:Mh rk a b out na nb)(sa:D9 (Le rk) a.toList)(sb:D9 (Le rk) b.toList)(lo:∀x∈a.toList.take na,∀y∈b.toList.take nb,rk y<=rk x):Mg (Le rk) a.toList b.toList (b.extract 0 nb++a.extract 0 na++out.reverse).toList:=by
 obtain ⟨h1,h2,m⟩:=h;have lb:b.toList.length=b.size:=cv0;have la:a.toList.length=a.size:=cv0;refine bt4 ?_
 have e:(b.extract 0 nb++a.extract 0 na++out.reverse).toList.reverse=out.toList++a.toList.reverse.drop (a.size - na)++b.toList.reverse.drop (b.size - nb):=by
   rw[cx1,cx1,dd6,ac8,ac8,dc0,dc0,List.reverse_reverse,<-la,<-lb,G8 (by omega),G8 (by omega),cu6]
 rw[e]
 refine m.last (Q1 sb) (Q1 sa) fun x hx y hy=> ?_
 rw[<-la,G8 (by omega)] at hx;rw[<-lb,G8 (by omega)] at hy;exact lo x (dc1.mp hx) y (dc1.mp hy)
theorem ck1 {st:SortSt}{a b:Array Keyed}(C:Cm prog w A s κ rk a0)(hk:kindOf st=κ)(ia:In0 a0 a)(ib:In0 a0 b)(a1:1<=a.size)(b1:1<=b.size)(sa:D9 (Le rk) a.toList)(sb:D9 (Le rk) b.toList)
   (first:∀x,b[0]? =some x->∀y∈a.toList,Le rk x y) (last:∀x∈b.toList,∀y,a[a.size - 1]? =some y->Le rk x y):wpS (model prog w) A E s (mHi a b) (MQ rk a b st) st:=by
 have la:a.toList.length=a.size:=cv0;have lb:b.toList.length=b.size:=cv0;have ua:=Z6 sa;have ub:=Z6 sb;refine wpS_bind (wpS_lift (wpAny_rule ⟨rfl,?_⟩));obtain ⟨x0,ex0,mx0⟩:=ia.at (show a.size - 1 < a.size by omega);refine wpS_bind (A3 ex0 ?_)
 have doneM:∀out na nb t,Mh rk a b out na nb->G2 st t->na=0\/nb=0->MQ rk a b st (a.extract 0 na++b.extract 0 nb++Array.reverse out) t:=fun out na nb t m l z=>⟨m.done sa sb z,l⟩
 have firstM:∀out na nb t,Mh rk a b out na nb->G2 st t->nb=1->MQ rk a b st (b.extract 0 nb++a.extract 0 na++Array.reverse out) t:=fun out na nb t m l z=>by
   refine ⟨m.first sa sb fun x hx y hy=> ?_,l⟩;subst z;obtain ⟨b0,eb0,mb0⟩:=ib.at (show 0 < b.size by omega);have:=ab2 sb (ct4 1) (G1 eb0) y hy;exact cw7 this (first b0 eb0 x (cz6 hx))
 have stepA:∀out na nb x y,Mh rk a b out na nb->1<=na->1<=nb->a[na - 1]? =some x->b[nb - 1]? =some y->rk y<=rk x->Mh rk a b (out.push x) (na - 1) nb:=fun out na nb x y m h1 h2 hx hy le=>
   m.pushA sa h1 hx fun z hz=>cw7 (ab2 sb h2 (G1 hy) z hz) le
 have stepB:∀out na nb x y,Mh rk a b out na nb->1<=na->1<=nb->a[na - 1]? =some x->b[nb - 1]? =some y->rk x<=rk y->Mh rk a b (out.push y) na (nb - 1):=fun out na nb x y m h1 h2 hx hy le=>
   m.pushB sb h2 hy fun z hz=>cw7 (ab2 sa h1 (G1 hx) z hz) le
 have m0:Mh rk a b #[x0] (a.size - 1) b.size:=by
   have n:Mh rk a b #[] a.size b.size:=⟨ct4 _,ct4 _,by rw[Nat.sub_self,Nat.sub_self];exact ⟨List.Perm.refl _,List.Pairwise.nil,(fun x h=>by cases h),(fun x h=>by cases h)⟩⟩
   exact n.pushA sa a1 ex0 fun y hy=>last y (cz6 hy) x0 ex0
 refine B0 (fun z=>wpS_pure (doneM _ _ _ _ m0 (G2.refl st) (.inl (M8 z)))) (fun z1=> ?_);have z1:¬a.size - 1=0:=N9 z1;refine B0 (fun z=>wpS_pure (firstM _ _ _ _ m0 (G2.refl st) (M8 z))) (fun z2=> ?_);have z2:¬b.size=1:=N9 z2;refine wpS_bind (wpS_get ?_)
 refine wpS_bind (wpS_mono (wpS_forRange (I:=fun x c t=>∃na nb out g,c=(none,na,nb,out,g)/\Mh rk a b out na nb/\1<=na/\2<=nb/\x+na+nb<=a.size+b.size/\G2 st t)
   (Q:=fun c t=>∃r,c.1=some r/\MQ rk a b st r t) ?step ?fin ⟨_,_,_,_,rfl,m0,by omega,by omega,by omega,G2.refl st⟩) ?post)
 case post=>
   rintro c t ⟨r,hr,q⟩;obtain ⟨c1,c2⟩:=c;cases hr;exact wpS_pure q
 case fin=>
   rintro c t ⟨na,nb,out,g,rfl,m,h1,h2,h3,l⟩;omega
 case step=>
   rintro x c t _ xn ⟨na,nb,out,g,rfl,m,h1,h2,h3,l⟩
   refine wpS_bind (wpS_mono (wpS_forRange (I:=fun y c t'=>∃na' nb' out' p q,c=(none,na',nb',out',p,q)/\t'=t/\Mh rk a b out' na' nb'/\1<=na'/\2<=nb'/\na'+nb'+y=na+nb)
     (Q:=fun c t'=>(∃r,c.1=some r/\MQ rk a b st r t')\/(∃na' nb' out' p q,c=(none,na',nb',out',p,q)/\t'=t/\Mh rk a b out' na' nb'/\1<=na'/\2<=nb'/\x+1+na'+nb'<=a.size+b.size)) ?step2 ?fin2 ⟨_,_,_,_,_,rfl,rfl,m,h1,h2,rfl⟩) ?post2)
   case fin2=>
     rintro c t' ⟨na',nb',out',p,q,rfl,rfl,m',k1,k2,k3⟩;omega
   case step2=>
     rintro y c t' _ yn ⟨na',nb',out',p,q,rfl,rfl,m',k1,k2,k3⟩;obtain ⟨u,eu,mu⟩:=ia.at (show na' - 1 < a.size by have:=m'.1;omega);obtain ⟨v,ev,mv⟩:=ib.at (show nb' - 1 < b.size by have:=m'.2.1;omega);refine wpS_bind (A3 ev (wpS_bind (A3 eu (wpS_bind (aq2 C (l.kind.trans hk) mv mu ?_)))))
     by_cases d:rk v < rk u
     · rw[decide_eq_true d];refine B0 (fun _=> ?_) (fun h=>absurd rfl h);have m2:=stepA out' na' nb' u v m' k1 (by omega) eu ev (cz3 d);refine wpS_bind (A3 eu ?_);refine B0 (fun z=>wpS_pure (.inl ⟨_,rfl,doneM _ _ _ _ m2 l (.inl (M8 z))⟩)) (fun z=> ?_);have z:¬na' - 1=0:=N9 z;refine B0 (fun _=> ?_) (fun _=> ?_)
       · exact wpS_pure (.inr ⟨na' - 1,nb',out'.push u,_,_,rfl,rfl,m2,by omega,k2,by omega⟩)
       · exact wpS_pure ⟨na' - 1,nb',out'.push u,_,_,rfl,rfl,m2,by omega,k2,by omega⟩
     · rw[decide_eq_false d];refine B0 (fun h=>absurd h (by decide)) (fun _=> ?_);have m2:=stepB out' na' nb' u v m' k1 (by omega) eu ev (by omega);refine wpS_bind (A3 ev ?_);refine B0 (fun z=>wpS_pure (.inl ⟨_,rfl,firstM _ _ _ _ m2 l (M8 z)⟩)) (fun z=> ?_);have z:¬nb' - 1=1:=N9 z;refine B0 (fun _=> ?_) (fun _=> ?_)
       · exact wpS_pure (.inr ⟨na',nb' - 1,out'.push v,_,_,rfl,rfl,m2,k1,by omega,by omega⟩)
       · exact wpS_pure ⟨na',nb' - 1,out'.push v,_,_,rfl,rfl,m2,k1,by omega,by omega⟩
   case post2=>
     rintro c t' (⟨r,hr,q⟩|⟨na',nb',out',p,q,rfl,rfl,m',k1,k2,k3⟩)
     · obtain ⟨c1,c2⟩:=c;cases hr;exact wpS_pure ⟨r,rfl,q⟩
     · refine wpS_bind (wpS_lift (wpAny_rule ⟨rfl,?_⟩))
       refine wpS_bind (wpS_mono (wpS_forRange (I:=fun y c t2=>∃na2 nb2 out2 g2 p q,c=(none,na2,nb2,out2,g2,p,q)/\G2 st t2/\Mh rk a b out2 na2 nb2/\1<=na2/\2<=nb2/\x+1+na2+nb2<=a.size+b.size)
         (Q:=fun c t2=>(∃r,c.1=some r/\MQ rk a b st r t2)\/(∃na2 nb2 out2 g2 p q,c=(none,na2,nb2,out2,g2,p,q)/\G2 st t2/\Mh rk a b out2 na2 nb2/\1<=na2/\2<=nb2/\x+1+na2+nb2<=a.size+b.size)) ?step3 ?fin3 ⟨_,_,_,_,_,_,rfl,l,m',k1,k2,k3⟩) ?post3)
       case fin3=>
         rintro c t2 h;exact .inr h
       case post3=>
         rintro c t2 (⟨r,hr,q⟩|⟨na2,nb2,out2,g2,p,q,rfl,l2,m2,n1,n2,n3⟩)
         · obtain ⟨c1,c2⟩:=c;cases hr;exact wpS_pure ⟨r,rfl,q⟩
         · refine wpS_bind (by1 l2 fun t3 l3=> ?_);exact wpS_pure ⟨_,_,_,_,rfl,m2,n1,n2,n3,l3⟩
       case step3=>
         rintro y c t2 _ yn ⟨na2,nb2,out2,g2,p,q,rfl,l2,m2,n1,n2,n3⟩;have q1:=m2.1;have q2:=m2.2.1;obtain ⟨v,ev,mv⟩:=ib.at (show nb2 - 1 < b.size by omega)
         revert g2
         refine bt3 (fun hB g2=>ca9 (fun _=>hB g2) (fun _=>hB (g2 - 1))) ?_;intro gg;refine wpS_bind (by1 l2 fun t3 l3=> ?_);refine wpS_bind (A3 ev ?_);refine wpS_bind (ab1 (base:=0) (n:=na2) (hint:=na2 - 1) C (l3.kind.trans hk) ia mv (by omega) (by omega) (fun x y h1 h2 h3=>ua x y (by omega) h2 (by omega)) fun k kn ka kb=> ?_)
         have m3:Mh rk a b (out2++(a.extract k na2).reverse) k nb2:=m2.manyA sa kn fun n x h1 h2 hx z hz=>by
           have h:=kb n h1 h2;unfold B6 at h;rw[if_neg (by decide),dd4,D7 hx] at h
           have hle:rk v < rk x:=by simpa using h
           exact cw7 (ab2 sb (by omega) (G1 ev) z hz) (cz3 hle)
         have gA:1<=k->R rk a (k - 1)<=rk v:=fun h=>by
           have h:=ka (k - 1) (by omega);unfold B6 at h;rw[if_neg (by decide),dd4] at h
           simpa using h
         refine B0 (fun kz=> ?_) (fun kz=> ?_);have kz:na2 - k > 0:=kz;refine B0 (fun z=>wpS_pure (.inl ⟨_,rfl,doneM _ _ _ _ m3 l3 (.inl (M8 z))⟩)) (fun z1=> ?_);have z1:¬k=0:=N9 z1
         have f1:1<=k:=by omega
         have f2:x+1+k+nb2<=a.size+b.size:=by omega
         have f3:=gA f1;generalize out2++(a.extract k na2).reverse=out3 at m3 ⊢
         rotate_left
         have kz:¬na2 - k > 0:=kz
         have k0:k=na2:=by omega
         have e0:out2++(a.extract k na2).reverse=out2:=by rw[k0];simp<;>omega
         rw[e0] at m3
         have f1:1<=k:=by omega
         have f2:x+1+k+nb2<=a.size+b.size:=by omega
         have f3:=gA f1;clear e0;subst k0;generalize out2=out3 at m3 ⊢
         rotate_left
         all_goals
           obtain ⟨u3,eu3,mu3⟩:=ia.at (show k - 1 < a.size by omega);rw[D7 eu3] at f3;refine wpS_bind (A3 ev ?_);have m4:=stepB out3 k nb2 u3 v m3 f1 (by omega) eu3 ev f3;refine B0 (fun z=>wpS_pure (.inl ⟨_,rfl,firstM _ _ _ _ m4 l3 (M8 z)⟩)) (fun z3=> ?_);have z3:¬nb2 - 1=1:=N9 z3;refine wpS_bind (A3 eu3 ?_);refine wpS_bind (ab1 (base:=0) (n:=nb2 - 1) (hint:=nb2 - 1 - 1) C (l3.kind.trans hk) ib mu3 (by omega) (by omega) (fun x y h1 h2 h3=>ub x y (by omega) h2 (by omega)) fun k' kn' ka' kb'=> ?_)
           have m5:Mh rk a b (out3.push v++(b.extract k' (nb2 - 1)).reverse) k k':=m4.manyB sb kn' fun n x h1 h2 hx z hz=>by
             have h:=kb' n h1 h2;unfold B6 at h;rw[if_pos rfl,dd4,D7 hx] at h
             have hle:rk u3<=rk x:=by simpa using h
             exact cw7 (ab2 sa f1 (G1 eu3) z hz) hle
           have gB:1<=k'->R rk b (k' - 1) < rk u3:=fun h=>by
             have h:=ka' (k' - 1) (by omega);unfold B6 at h;rw[if_pos rfl,dd4] at h
             simpa using h
           refine B0 (fun kz'=> ?_) (fun kz'=> ?_);have kz':nb2 - 1 - k' > 0:=kz';refine B0 (fun z=>wpS_pure (.inl ⟨_,rfl,firstM _ _ _ _ m5 l3 (M8 z)⟩)) (fun z4=> ?_);have z4:¬k'=1:=N9 z4;refine B0 (fun z=>wpS_pure (.inl ⟨_,rfl,doneM _ _ _ _ m5 l3 (.inr (M8 z))⟩)) (fun z5=> ?_);have z5:¬k'=0:=N9 z5
           have f4:2<=k':=by omega
           have f5:x+1+k+k'<=a.size+b.size:=by omega
           have f6:=gB (by omega);generalize out3.push v++(b.extract k' (nb2 - 1)).reverse=out4 at m5 ⊢
           rotate_left
           have kz':¬nb2 - 1 - k' > 0:=kz'
           have k0':k'=nb2 - 1:=by omega
           have e0:out3.push v++(b.extract k' (nb2 - 1)).reverse=out3.push v:=by rw[k0'];simp<;>omega
           rw[e0] at m5
           have f4:2<=k':=by omega
           have f5:x+1+k+k'<=a.size+b.size:=by omega
           have f6:=gB (by omega);clear e0;generalize out3.push v=out4 at m5 ⊢
           rotate_left
           all_goals
             have q3:=m5.2.1;obtain ⟨v4,ev4,mv4⟩:=ib.at (show k' - 1 < b.size by omega);rw[D7 ev4] at f6;have m6:=stepA out4 k k' u3 v4 m5 f1 (by omega) eu3 ev4 (cz3 f6);refine wpS_bind (A3 eu3 ?_)
             first
               |refine B0 (fun z=>wpS_pure (.inl ⟨_,rfl,doneM _ _ _ _ m6 l3 (.inl (M8 z))⟩)) (fun z6=> ?_)
               |(rw[k0'] at m6;refine B0 (fun z=>wpS_pure (.inl ⟨_,rfl,doneM _ _ _ _ m6 l3 (.inl (M8 z))⟩)) (fun z6=> ?_))
             have z6:¬k - 1=0:=N9 z6;refine B0 (fun _=> ?_) (fun _=> ?_)
             · first
                 |exact wpS_pure (.inr ⟨k - 1,k',out4.push u3,_,_,_,rfl,l3,m6,by omega,f4,by omega⟩)
                 |exact wpS_pure (.inr ⟨k - 1,nb2 - 1,out4.push u3,_,_,_,rfl,l3,m6,by omega,by omega,by omega⟩)
             · first
                 |exact wpS_pure ⟨k - 1,k',out4.push u3,_,_,_,rfl,l3,m6,by omega,f4,by omega⟩
                 |exact wpS_pure ⟨k - 1,nb2 - 1,out4.push u3,_,_,_,rfl,l3,m6,by omega,by omega,by omega⟩
end
end TS
namespace TS
open PySem PyProof.Rows
section
variable {rk:Keyed->Nat}
def E2 (xs:Array Keyed)(lo hi:Nat):List Keyed:=(xs.toList.take hi).drop lo
theorem K0 {xs:Array Keyed}{lo hi:Nat}(h:hi<=xs.size):(E2 xs lo hi).length=hi - lo:=by unfold E2;rw[cw1,cu2];simp;omega
theorem I0 {xs:Array Keyed}{lo hi i:Nat}(hi':lo+i < hi):(E2 xs lo hi)[i]? =xs[lo+i]? :=by
 unfold E2;rw[da5,cx5 hi',cy1]
theorem ak1 {xs:Array Keyed}{lo hi:Nat}(u:Up rk xs lo hi)(h:hi<=xs.size):D9 (Le rk) (E2 xs lo hi):=by
 refine cw3.mpr fun i j h1 h2 hij=> ?_
 have l:=K0 (lo:=lo) h;have e1:(E2 xs lo hi)[i]? =some (E2 xs lo hi)[i]:=ct2 h1;have e2:(E2 xs lo hi)[j]? =some (E2 xs lo hi)[j]:=ct2 h2;rw[I0 (by omega)] at e1 e2;have:=u (lo+i) (lo+j) (by omega) (by omega) (by omega);rw[D7 e1,D7 e2] at this;exact this
theorem ck2 {xs:Array Keyed}{lo hi:Nat}(s:D9 (Le rk) (E2 xs lo hi))(h:hi<=xs.size):Up rk xs lo hi:=fun i j h1 h2 h3=>by
 have l:=K0 (lo:=lo) h
 rcases dg7 h2 with z|z
 · have:=cw3.mp s (i - lo) (j - lo) (by omega) (by omega) (by omega);have e1:(E2 xs lo hi)[i - lo]? =some (E2 xs lo hi)[i - lo]:=ct2 (by omega);have e2:(E2 xs lo hi)[j - lo]? =some (E2 xs lo hi)[j - lo]:=ct2 (by omega);rw[I0 (by omega),show lo+(i - lo)=i by omega] at e1;rw[I0 (by omega),show lo+(j - lo)=j by omega] at e2;rw[D7 e1,D7 e2];exact this
 · rw[z];exact ct4 _
theorem S9 {xs:Array Keyed}{lo hi:Nat}{x:Keyed}(h:hi<=xs.size)(hx:x∈E2 xs lo hi):∃i,lo<=i/\i < hi/\xs[i]? =some x:=by
 obtain ⟨i,hi'⟩:=cw5.mp hx;have l:=K0 (lo:=lo) h;have:=(ct3.mp hi').1;exact ⟨lo+i,by omega,by omega,by rw[<-I0 (hi:=hi) (by omega)];exact hi'⟩
theorem T0 {xs:Array Keyed}{a b c:Nat}(h1:a<=b)(h2:b<=c)(h:c<=xs.size):E2 xs a b++E2 xs b c=E2 xs a c:=by
 refine cx8 fun i=> ?_
 by_cases z:i < b - a
 · rw[cx3 (by rw[K0 (by omega)];omega),I0 (by omega),I0 (by omega)]
 · rw[cx2 (by rw[K0 (by omega)];omega),K0 (by omega)]
   by_cases y:i < c - a
   · rw[I0 (by omega),I0 (by omega)];congr 1;omega
   · rw[cu4 (by rw[K0 h];omega),cu4 (by rw[K0 h];omega)]
theorem bi2 (xs:Array Keyed):E2 xs 0 xs.size=xs.toList:=by
 unfold E2;rw[dg3,cz2 (by simp)]
def wr (p:Nat)(l:List (Keyed×Nat))(xs:Array Keyed):Array Keyed:=l.foldl (fun a q=>a.setIfInBounds (p+q.2) q.1) xs
theorem ab3 (p:Nat):∀(l:List (Keyed×Nat)) (xs:Array Keyed),(wr p l xs).size=xs.size
 |[],xs=>rfl
 |q::l,xs=>(ab3 p l _).trans (by simp)
theorem bc5 (p:Nat):∀(m:List Keyed) (n:Nat) (xs:Array Keyed),p+n+m.length<=xs.size->∀k,(wr p (m.zipIdx n) xs)[k]? =if p+n<=k/\k < p+n+m.length then m[k - (p+n)]? else xs[k]?
 |[],n,xs,_,k=>by
  show xs[k]? =_;rw[if_neg (by simp)]
 |x::m,n,xs,h,k=>by
  rw[cv7] at h ⊢;show (wr p (m.zipIdx (n+1)) (xs.setIfInBounds (p+n) x))[k]? =_;rw[bc5 p m (n+1) _ (by rw[Array.size_setIfInBounds];omega) k,Array.getElem?_setIfInBounds]
  by_cases z:k=p+n
  · subst z;rw[if_neg (by omega),if_pos rfl,if_pos (by omega),if_pos (by omega),Nat.sub_self];rfl
  · by_cases y:p+n<=k/\k < p+n+(m.length+1)
    · rw[if_pos (by omega),if_pos y,show k - (p+n)=k - (p+(n+1))+1 by omega];rfl
    · rw[if_neg (by omega),if_neg (by omega),if_neg y]
theorem bt5 {m:List Keyed}{p:Nat}{xs:Array Keyed}(h:p+m.length<=xs.size):E2 (wr p m.zipIdx xs) p (p+m.length)=m:=by
 refine cx8 fun i=> ?_
 by_cases z:i < m.length
 · rw[I0 (by omega),bc5 p m 0 xs h,if_pos (by omega)]
   congr 1;omega
 · rw[cu4 (by rw[K0 (by rw[ab3];omega)];omega),cu4 (by omega)]
theorem bi3 {m:List Keyed}{p:Nat}{xs:Array Keyed}(h:p+m.length<=xs.size):A7 xs (wr p m.zipIdx xs) p (p+m.length):=fun k hk=>by
 rw[bc5 p m 0 xs h,if_neg (by omega)]
theorem ac9 {xs ys:Array Keyed}{lo hi a b:Nat}(hz:ys.size=xs.size)(k:A7 xs ys lo hi)(h:b<=lo\/hi<=a)(hb:b<=xs.size):E2 ys a b=E2 xs a b:=by
 refine cx8 fun i=> ?_
 by_cases z:a+i < b
 · rw[I0 z,I0 z];exact k _ (by omega)
 · rw[cu4 (by rw[K0 (by omega)];omega),cu4 (by rw[K0 hb];omega)]
theorem ce4 {m:List Keyed}{p:Nat}{xs:Array Keyed}(h:p+m.length<=xs.size)(pm:m.Perm (E2 xs p (p+m.length))):(wr p m.zipIdx xs).Perm xs:=by
 rw[da2,<-bi2 xs,<-bi2 (wr p m.zipIdx xs),ab3];have hk:=bi3 h;have hs:=ab3 p m.zipIdx xs;rw[<-T0 (cv9 p) (show p<=xs.size by omega) (ct4 _),<-T0 (show p<=p+m.length by omega) (show p+m.length<=xs.size by omega) (ct4 _)];rw[<-T0 (xs:=wr p m.zipIdx xs) (cv9 p) (show p<=xs.size by omega) (by omega),<-T0 (xs:=wr p m.zipIdx xs) (show p<=p+m.length by omega) (show p+m.length<=xs.size by omega) (by omega)];rw[ac9 hs hk (.inl (ct4 _)) (by omega),ac9 hs hk (.inr (ct4 _)) (ct4 _),bt5 h];exact List.Perm.append_left _ (pm.append_right _)
end
end TS
namespace TS
open PySem PyProof.Rows
section
variable {prog:Program} {w:World} {A:Around} {E:Value->Shared->Prop} {s:Shared}
variable {rk:Keyed->Nat} {a0:Array Keyed} {κ:SortKind}
theorem ce5 {st:SortSt}(B:Bs a0 κ st)(lo hi:Nat):In0 a0 ((arrOf st).extract lo hi):=fun x hx=>by
 rw[N8] at hx;exact (da2.mp B.perm).mem_iff.mp (cz6 (db6 hx))
theorem at4 {st:SortSt}(B:Bs a0 κ st):In0 a0 (arrOf st):=fun x hx=>(da2.mp B.perm).mem_iff.mp hx
theorem bi4 {xs:Array Keyed}{lo hi i:Nat}(h:lo+i < hi):(xs.extract lo hi)[i]? =xs[lo+i]? :=by
 rw[<-cy1,N8];exact I0 h
theorem ck3 {st:SortSt}{i sa na nb pw pw2:Nat}{Q:Bool->SortSt->Prop}(C:Cm prog w A s κ rk a0)(B:Bs a0 κ st)(e1:(pendingOf st)[i]? =some (sa,na,pw))(e2:(pendingOf st)[i+1]? =some (sa+na,nb,pw2))(n1:1<=na)(n2:1<=nb)
   (hz:sa+na+nb<=a0.size) (u1:Up rk (arrOf st) sa (sa+na)) (u2:Up rk (arrOf st) (sa+na) (sa+na+nb))
   (h:∀t,Bs a0 κ t->Up rk (arrOf t) sa (sa+na+nb)->A7 (arrOf st) (arrOf t) sa (sa+na+nb)->pendingOf t=((pendingOf st).setIfInBounds i (sa,na+nb,pw)).eraseIdxIfInBounds (i+1)->Q true t):
   wpS (model prog w) A E s (mergeAt' i) Q st:=by
 have hs:=B.size;refine wpS_bind (wpS_get ?_);rw[show (sortPriv%PySem.Builtin.SortState.pending) st=pendingOf st from rfl,e1,e2];refine wpS_bind (wpS_modify (f:=fun _=>setPending st (((pendingOf st).setIfInBounds i (sa,na+nb,pw)).eraseIdxIfInBounds (i+1))) ?_);obtain ⟨pd,hpd⟩:∃pd,pd=((pendingOf st).setIfInBounds i (sa,na+nb,pw)).eraseIdxIfInBounds (i+1):=⟨_,rfl⟩;rw[<-hpd] at h ⊢;have B1:Bs a0 κ (setPending st pd):=⟨B.perm,B.kind,B.ok⟩;obtain ⟨xs,hxs⟩:∃xs,xs=arrOf st:=⟨_,rfl⟩;have In:=at4 B
 have ext0:=fun lo hi=>ce5 B lo hi
 rw[<-hxs] at hs u1 u2 h In ext0
 have hxz:sa+na+nb<=xs.size:=by omega
 obtain ⟨key,ek,mk⟩:=In.at (show sa+na < xs.size by omega)
 have ek':(arrOf st)[sa+na]? =some key:=by rw[<-hxs];exact ek
 refine wpS_bind (A3 ek' ?_);refine wpS_bind (ab1 (left:=false) (arr:=arrOf st) (base:=sa) (n:=na) (hint:=0) C B1.kind (at4 B) mk (by rw[<-hxs];omega) (by omega) (by rw[<-hxs];exact u1) fun k kn ka kb=> ?_)
 have ka1:∀i,sa<=i->i < sa+k->R rk xs i<=rk key:=fun i h1 h2=>by
   have:=ka (i - sa) (by omega);unfold B6 at this;rw[if_neg (by decide),<-hxs,show sa+(i - sa)=i by omega] at this
   simpa using this
 have kb1:∀i,sa+k<=i->i < sa+na->rk key < R rk xs i:=fun i h1 h2=>by
   have:=kb (i - sa) (by omega) (by omega);unfold B6 at this;rw[if_neg (by decide),<-hxs,show sa+(i - sa)=i by omega] at this
   simpa using this
 have rkey:R rk xs (sa+na)=rk key:=D7 ek
 have joined:(∀i,sa<=i->i < sa+na->∀j,sa+na<=j->j < sa+na+nb->R rk xs i<=R rk xs j)->Up rk xs sa (sa+na+nb):=fun g i j h1 h2 h3=>by
   by_cases y:j < sa+na
   · exact u1 i j h1 h2 y
   · by_cases z:i < sa+na
     · exact g i h1 z j (by omega) h3
     · exact u2 i j (by omega) h2 h3
 refine B0 (fun z=> ?_) (fun z=> ?_)
 · have z:na - k=0:=M8 z;refine wpS_pure (h _ B1 ?_ (by rw[hxs];exact A7.refl _ _ _) rfl);show Up rk (arrOf st) _ _;rw[<-hxs]
   refine joined fun i h1 h2 j h3 h4=> ?_
   have a1:=ka1 i h1 (by omega);have a2:=u2 (sa+na) j (ct4 _) h3 h4;omega
 have z:¬na - k=0:=N9 z
 have ep:sa+k+(na - k) - 1=sa+na - 1:=by omega
 obtain ⟨key2,ek2,mk2⟩:=In.at (show sa+na - 1 < xs.size by omega)
 have ek2':(arrOf st)[sa+k+(na - k) - 1]? =some key2:=by rw[ep,<-hxs];exact ek2
 have rkey2:R rk xs (sa+na - 1)=rk key2:=D7 ek2;refine wpS_bind (A3 ek2' ?_);refine wpS_bind (ab1 (left:=true) (arr:=arrOf st) (base:=sa+na) (n:=nb) (hint:=nb - 1) C B1.kind (at4 B) mk2 (by rw[<-hxs];omega) (by omega) (by rw[<-hxs];exact u2) fun k' kn' ka' kb'=> ?_)
 have ka2:∀i,sa+na<=i->i < sa+na+k'->R rk xs i < rk key2:=fun i h1 h2=>by
   have:=ka' (i - (sa+na)) (by omega);unfold B6 at this;rw[if_pos rfl,<-hxs,show sa+na+(i - (sa+na))=i by omega] at this
   simpa using this
 have kb2:∀i,sa+na+k'<=i->i < sa+na+nb->rk key2<=R rk xs i:=fun i h1 h2=>by
   have:=kb' (i - (sa+na)) (by omega) (by omega);unfold B6 at this;rw[if_pos rfl,<-hxs,show sa+na+(i - (sa+na))=i by omega] at this
   simpa using this
 refine B0 (fun z'=> ?_) (fun z'=> ?_)
 · have z':k'=0:=M8 z';refine wpS_pure (h _ B1 ?_ (by rw[hxs];exact A7.refl _ _ _) rfl);show Up rk (arrOf st) _ _;rw[<-hxs]
   refine joined fun i h1 h2 j h3 h4=> ?_
   have a1:=kb2 j (by omega) h4;have a2:=u1 i (sa+na - 1) h1 (by omega) (by omega);omega
 have z':¬k'=0:=N9 z';have xl:(xs.extract (sa+k) (sa+na)).toList=E2 xs (sa+k) (sa+na):=N8 _ _ _;have yl:(xs.extract (sa+na) (sa+na+k')).toList=E2 xs (sa+na) (sa+na+k'):=N8 _ _ _
 have xz:(xs.extract (sa+k) (sa+na)).size=na - k:=by rw[Array.size_extract];omega
 have yz:(xs.extract (sa+na) (sa+na+k')).size=k':=by rw[Array.size_extract];omega
 have sx:D9 (Le rk) (xs.extract (sa+k) (sa+na)).toList:=by rw[xl];exact ak1 (fun i j h1 h2 h3=>u1 i j (by omega) h2 h3) (by omega)
 have sy:D9 (Le rk) (xs.extract (sa+na) (sa+na+k')).toList:=by rw[yl];exact ak1 (fun i j h1 h2 h3=>u2 i j h1 h2 (by omega)) (by omega)
 have fx:∀x,(xs.extract (sa+na) (sa+na+k'))[0]? =some x->∀y∈(xs.extract (sa+k) (sa+na)).toList,Le rk x y:=fun x hx y hy=>by
   rw[bi4 (by omega),dc5,ek] at hx;rw[xl] at hy;obtain ⟨i,h1,h2,h3⟩:=S9 (by omega) hy;have:=kb1 i h1 h2;rw[D7 h3] at this;rw[<-Option.some.inj hx];exact cz3 this
 have ly:∀x∈(xs.extract (sa+na) (sa+na+k')).toList,∀y,(xs.extract (sa+k) (sa+na))[(xs.extract (sa+k) (sa+na)).size - 1]? =some y->Le rk x y:=fun x hx y hy=>by
   rw[xz,bi4 (by omega),show sa+k+(na - k - 1)=sa+na - 1 by omega,ek2] at hy;rw[yl] at hx;obtain ⟨i,h1,h2,h3⟩:=S9 (by omega) hx;have:=ka2 i h1 h2;rw[D7 h3] at this;rw[<-Option.some.inj hy];exact cz3 this
 have fin:∀m t,MQ rk (xs.extract (sa+k) (sa+na)) (xs.extract (sa+na) (sa+na+k')) (setPending st pd) m t->Q true (setArr t (wr (sa+k) m.toList.zipIdx (arrOf t)))/\failedOf t=none:=by
   rintro m t ⟨⟨pm,sm⟩,l⟩
   have lm:m.toList.length=na - k+k':=by rw[pm.length_eq,ct6,cv0,cv0,xz,yz]
   have ea:arrOf t=xs:=by rw[l.arr,hxs]
   have hle:sa+k+m.toList.length<=xs.size:=by omega
   have esg:E2 xs (sa+k) (sa+k+m.toList.length)=E2 xs (sa+k) (sa+na)++E2 xs (sa+na) (sa+na+k'):=by
     rw[T0 (by omega) (by omega) (by omega)];congr 1;omega
   have pm':m.toList.Perm (E2 xs (sa+k) (sa+k+m.toList.length)):=by rw[esg,<-xl,<-yl];exact pm
   have kw:=bi3 hle;have zw:=ab3 (sa+k) m.toList.zipIdx xs;refine ⟨h _ ⟨?_,l.kind.trans B1.kind,l.ok.trans B1.ok⟩ ?_ ?_ l.pend,l.ok.trans B1.ok⟩
   · show (wr (sa+k) m.toList.zipIdx (arrOf t)).Perm a0;rw[ea];refine (ce4 hle pm').trans ?_;rw[hxs];exact B.perm
   · show Up rk (wr (sa+k) m.toList.zipIdx (arrOf t)) sa (sa+na+nb);rw[ea];refine ck2 ?_ (by omega)
     rw[<-T0 (show sa<=sa+k by omega) (show sa+k<=sa+na+nb by omega) (by omega),<-T0 (show sa+k<=sa+k+m.toList.length by omega) (show sa+k+m.toList.length<=sa+na+nb by omega) (by omega),bt5 hle,
       ac9 zw kw (.inl (ct4 _)) (by omega),ac9 zw kw (.inr (ct4 _)) (by omega)]
     have mm:∀x∈m.toList,(∃i,sa+k<=i/\i < sa+na/\xs[i]? =some x)\/(∃i,sa+na<=i/\i < sa+na+k'/\xs[i]? =some x):=fun x hx=>by
       have:=pm.mem_iff.mp hx;rw[xl,yl] at this
       rcases cu5.mp this with e|e
       · exact .inl (S9 (by omega) e)
       · exact .inr (S9 (by omega) e)
     refine Q0.mpr ⟨ak1 (fun i j h1 h2 h3=>u1 i j h1 h2 (by omega)) (by omega),Q0.mpr ⟨sm,ak1 (fun i j h1 h2 h3=>u2 i j (by omega) h2 h3) (by omega),fun x hx y hy=> ?_⟩,fun x hx y hy=> ?_⟩
     · obtain ⟨j,j1,j2,j3⟩:=S9 (by omega) hy;have b2:=kb2 j (by omega) j2;rw[D7 j3] at b2
       rcases mm x hx with ⟨i,i1,i2,i3⟩|⟨i,i1,i2,i3⟩
       · have b1:=u1 i (sa+na - 1) (by omega) (by omega) (by omega);rw[D7 i3,rkey2] at b1;exact cw7 b1 b2
       · have b1:=ka2 i i1 i2;rw[D7 i3] at b1;show rk x<=rk y;omega
     · obtain ⟨i,i1,i2,i3⟩:=S9 (by omega) hx;have b1:=ka1 i i1 i2;rw[D7 i3] at b1;show rk x<=rk y
       rcases cu5.mp hy with e|e
       · rcases mm y e with ⟨j,j1,j2,j3⟩|⟨j,j1,j2,j3⟩
         · have b2:=kb1 j j1 j2;rw[D7 j3] at b2;omega
         · have b2:=u2 (sa+na) j (ct4 _) j1 (by omega);rw[D7 j3,rkey] at b2;omega
       · obtain ⟨j,j1,j2,j3⟩:=S9 (by omega) e;have b2:=u2 (sa+na) j (ct4 _) (by omega) j2;rw[D7 j3,rkey] at b2;omega
   · show A7 xs (wr (sa+k) m.toList.zipIdx (arrOf t)) _ _;rw[ea];exact kw.wide (by omega) (by omega)
 have ix:=ext0 (sa+k) (sa+na);have iy:=ext0 (sa+na) (sa+na+k');have k1:kindOf (setPending st pd)=κ:=B1.kind
 have end_:∀m t,MQ rk (xs.extract (sa+k) (sa+na)) (xs.extract (sa+na) (sa+na+k')) (setPending st pd) m t->Q (failedOf (setArr t (wr (sa+k) m.toList.zipIdx (arrOf t)))).isNone (setArr t (wr (sa+k) m.toList.zipIdx (arrOf t))):=fun m t q=>by
   obtain ⟨f1,f2⟩:=fin m t q;show Q (failedOf t).isNone _;rw[f2];exact f1
 rw[hxs] at ix iy sx sy fx ly end_ xz yz
 have g1:1<=((arrOf st).extract (sa+k) (sa+na)).size:=by rw[xz];omega
 have g2:1<=((arrOf st).extract (sa+na) (sa+na+k')).size:=by rw[yz];omega
 refine B0 (fun _=> ?_) (fun _=> ?_)
 · refine wpS_bind (wpS_mono (ck0 C k1 ix iy g1 g2 sx sy fx ly) fun m t q=> ?_);exact wpS_bind (wpS_modify (wpS_bind (wpS_get (wpS_pure (end_ m t q)))))
 · refine wpS_bind (wpS_mono (ck1 C k1 ix iy g1 g2 sx sy fx ly) fun m t q=> ?_);exact wpS_bind (wpS_modify (wpS_bind (wpS_get (wpS_pure (end_ m t q)))))
end
end TS
namespace TS
open PySem PyProof.Rows
section
variable {rk:Keyed->Nat}
def C3 (rk:Keyed->Nat)(xs:Array Keyed):List (Nat×Nat×Nat)->Nat->Nat->Prop
 |[],a,b=>a=b
 |q::r,a,b=>q.1=a/\1<=q.2.1/\Up rk xs a (a+q.2.1)/\C3 rk xs r (a+q.2.1) b
theorem C3.len {xs:Array Keyed}:∀{l:List (Nat×Nat×Nat)} {a b:Nat},C3 rk xs l a b->a+l.length<=b
 |[],a,b,h=>dg1 h
 |q::r,a,b,⟨h1,h2,h3,h4⟩=>by
  have:=C3.len h4;rw[cv7];omega
theorem C3.app {xs:Array Keyed}:∀{l m:List (Nat×Nat×Nat)} {a b:Nat},C3 rk xs (l++m) a b↔∃c,C3 rk xs l a c/\C3 rk xs m c b
 |[],m,a,b=>⟨fun h=>⟨a,rfl,h⟩,fun ⟨c,e,h⟩=>by cases e;exact h⟩
 |q::r,m,a,b=>by
  constructor
  · rintro ⟨h1,h2,h3,h4⟩;obtain ⟨c,g1,g2⟩:=C3.app.mp h4;exact ⟨c,⟨h1,h2,h3,g1⟩,g2⟩
  · rintro ⟨c,⟨h1,h2,h3,h4⟩,g⟩;exact ⟨h1,h2,h3,C3.app.mpr ⟨c,h4,g⟩⟩
theorem C3.kept {xs ys:Array Keyed}{lo hi:Nat}(k:A7 xs ys lo hi):∀{l:List (Nat×Nat×Nat)} {a b:Nat},C3 rk xs l a b->b<=lo\/hi<=a->C3 rk ys l a b
 |[],a,b,h,_=>h
 |q::r,a,b,⟨h1,h2,h3,h4⟩,hk=>by
  have:=C3.len h4;exact ⟨h1,h2,k.up h3 (by omega),C3.kept k h4 (by omega)⟩
theorem aw3 {α:Type}:∀(l:List α) (x y z:α) (m:List α),((l++x::y::m).set l.length z).eraseIdx (l.length+1)=l++z::m
 |[],x,y,z,m=>rfl
 |a::l,x,y,z,m=>by
  show a::(((l++x::y::m).set l.length z).eraseIdx (l.length+1))=_;rw[aw3 l x y z m];rfl
theorem ck4 {α:Type}{l:List α}{i:Nat}(h:i+1 < l.length):l=l.take i++l[i]::l[i+1]::l.drop (i+2):=by
 have e1:=da4 (show i < l.length by omega);have e2:=da4 h;rw[<-e2,<-e1,cx4]
theorem bi5 {xs:Array Keyed}{pw:Nat}:∀{l:List (Nat×Nat×Nat)} {n a b:Nat},C3 rk xs l a b->C3 rk xs (l.modify n fun q=>(q.1,q.2.1,pw)) a b
 |[],n,a,b,h=>by cases n<;>exact h
 |q::r,0,a,b,⟨h1,h2,h3,h4⟩=>⟨h1,h2,h3,h4⟩
 |q::r,n+1,a,b,⟨h1,h2,h3,h4⟩=>⟨h1,h2,h3,bi5 h4⟩
end
section
variable {prog:Program} {w:World} {A:Around} {E:Value->Shared->Prop} {s:Shared}
variable {rk:Keyed->Nat} {a0:Array Keyed} {κ:SortKind}
theorem bt6 {st:SortSt}{i lo:Nat}{Q:Bool->SortSt->Prop}(C:Cm prog w A s κ rk a0)(B:Bs a0 κ st)(cv:C3 rk (arrOf st) (pendingOf st).toList 0 lo)(hl:lo<=a0.size)(hi:i+1 < (pendingOf st).size)
   (h:∀t,Bs a0 κ t->C3 rk (arrOf t) (pendingOf t).toList 0 lo->(pendingOf t).size+1=(pendingOf st).size->A7 (arrOf st) (arrOf t) 0 lo->Q true t):wpS (model prog w) A E s (mergeAt' i) Q st:=by
 obtain ⟨l,hl0⟩:∃l,l=(pendingOf st).toList:=⟨_,rfl⟩
 have ll:l.length=(pendingOf st).size:=by rw[hl0];simp
 have hil:i+1 < l.length:=by omega
 have e:=ck4 hil;rw[<-hl0,e] at cv;obtain ⟨c,c1,d1,d2,d3,f1,f2,f3,g⟩:=C3.app.mp cv;have lg:=C3.len g
 have e1:(pendingOf st)[i]? =some (c,l[i].2.1,l[i].2.2):=by
   rw[<-cy1,<-hl0,ct2 (by omega),<-d1]
 have e2:(pendingOf st)[i+1]? =some (c+l[i].2.1,l[i+1].2.1,l[i+1].2.2):=by
   rw[<-cy1,<-hl0,ct2 hil,<-f1]
 refine ck3 C B e1 e2 d2 f2 (by omega) d3 f3 fun t B' u k p=> ?_
 have lt:(l.take i).length=i:=by rw[cu2];omega
 have ep:(pendingOf t).toList=l.take i++(c,l[i].2.1+l[i+1].2.1,l[i].2.2)::l.drop (i+2):=by
   rw[p,Array.toList_eraseIdxIfInBounds,Array.toList_setIfInBounds,<-hl0];have:=aw3 (l.take i) l[i] l[i+1] (c,l[i].2.1+l[i+1].2.1,l[i].2.2) (l.drop (i+2));rw[lt,<-e] at this;exact this
 have lc:=C3.len c1;refine h t B' ?_ ?_ (k.wide (cv9 _) (by omega))
 · rw[ep];refine C3.app.mpr ⟨c,C3.kept k c1 (.inl (ct4 _)),rfl,by show 1<=l[i].2.1+l[i+1].2.1;omega,?_,?_⟩
   · show Up rk (arrOf t) c (c+(l[i].2.1+l[i+1].2.1));rw[<-Nat.add_assoc];exact u
   · show C3 rk (arrOf t) (l.drop (i+2)) (c+(l[i].2.1+l[i+1].2.1)) lo;rw[<-Nat.add_assoc];exact C3.kept k g (.inr (ct4 _))
 · rw[<-cv0,ep,ct6,cv7,cw1,lt];omega
theorem cn4 {c:Prop}[Decidable c]{a b n:Nat}(h1:a<=n)(h2:b<=n):(if c then a else b)<=n:=by split<;>assumption
theorem by2 {t:SortSt}{lo n:Nat}(cv:C3 rk (arrOf t) (pendingOf t).toList 0 lo)(n1:1<=n)(u:Up rk (arrOf t) lo (lo+n)):C3 rk (arrOf t) ((pendingOf t).push (lo,n,0)).toList 0 (lo+n):=by
 rw[db5];exact C3.app.mpr ⟨lo,cv,rfl,n1,u,rfl⟩
theorem cr8 {st:SortSt}{Q:Unit->SortSt->Prop}(C:Cm prog w A s κ rk a0)(B:Bs a0 κ st)(pe:pendingOf st= #[])(h2:2<=a0.size)
   (h:∀t,Bs a0 κ t->Up rk (arrOf t) 0 a0.size->Q () t):wpS (model prog w) A E s sortRuns' Q st:=by
 rw[sortRuns'_eq];refine wpS_bind (wpS_get ?_)
 dsimp only
 rw[B.size];generalize minRun' a0.size a0.size 0=mr
 refine wpS_bind (wpS_mono (wpS_forRange (I:=fun x c t=>∃lo,c=(none,lo)/\Bs a0 κ t/\C3 rk (arrOf t) (pendingOf t).toList 0 lo/\lo<=a0.size/\(x<=lo\/a0.size<=lo))
   (Q:=fun c t=>∃lo,c=(none,lo)/\Bs a0 κ t/\C3 rk (arrOf t) (pendingOf t).toList 0 lo/\lo=a0.size) ?step ?fin ⟨0,rfl,B,by rw[pe];exact rfl,cv9 _,.inl (ct4 _)⟩) ?post)
 case fin=>
   rintro c t ⟨lo,rfl,B',cv,h3,h4⟩;exact ⟨lo,rfl,B',cv,by omega⟩
 case step=>
   rintro x c t _ xn ⟨lo,rfl,B',cv,h3,h4⟩;refine B0 (fun z=>wpS_pure ⟨lo,rfl,B',cv,by have z:lo≥a0.size:=z;omega⟩) (fun z=> ?_);have z:¬lo≥a0.size:=z;refine wpS_bind (wpS_mono (cj8 (lo:=lo) (nrem:=a0.size - lo) C (by omega) (by omega) B') ?_);rintro r t1 ⟨n,rfl,B1,n1,n2,u1,k1,p1⟩
   have cv1:C3 rk (arrOf t1) (pendingOf t1).toList 0 lo:=by rw[p1];exact C3.kept k1 cv (.inl (ct4 _))
   clear k1 p1;refine B0 (fun y=> ?_) (fun y=> ?_);have y:n < mr:=y;refine wpS_bind (wpS_lift (wpAny_rule ⟨rfl,?_⟩));refine wpS_bind (cj7 (lo:=lo) (n:=min (a0.size - lo) mr) (ok:=n) C (by omega) (by omega) B1 u1 fun t2 B2 u2 k2 p2=> ?_);refine B0 (fun h=>absurd h (by decide)) (fun _=> ?_)
   have cv2:C3 rk (arrOf t2) (pendingOf t2).toList 0 lo:=by rw[p2];exact C3.kept k2 cv1 (.inl (ct4 _))
   have N1:1<=min (a0.size - lo) mr:=by omega
   have N2:lo+min (a0.size - lo) mr<=a0.size:=by omega
   clear p2 k2;generalize min (a0.size - lo) mr=N at u2 N1 N2 ⊢
   rotate_left
   have N1:1<=n:=n1
   have N2:lo+n<=a0.size:=by omega
   have B2:=B1;have u2:=u1;have cv2:=cv1;generalize t1=t2 at B2 u2 cv2 ⊢;generalize n=N at N1 N2 u2 ⊢
   rotate_left
   all_goals
     refine wpS_bind (wpS_get ?_)
     cases hb:(pendingOf t2).back? with
     |none=>
      exact wpS_bind (wpS_modify (wpS_pure ⟨lo+N,rfl,⟨B2.perm,B2.kind,B2.ok⟩,by2 cv2 N1 u2,N2,by omega⟩))
     |some q=>
      obtain ⟨s1,m1,pw⟩:=q
      refine wpS_bind (wpS_mono (wpS_forRange (I:=fun y c t=>c=(none,())/\Bs a0 κ t/\C3 rk (arrOf t) (pendingOf t).toList 0 lo/\Up rk (arrOf t) lo (lo+N))
        (Q:=fun c t=>c=(none,())/\Bs a0 κ t/\C3 rk (arrOf t) (pendingOf t).toList 0 lo/\Up rk (arrOf t) lo (lo+N)) ?_ (fun _ _ h=>h) ⟨rfl,B2,cv2,u2⟩) ?_)
      · rintro y c t3 _ yn ⟨rfl,B3,cv3,u3⟩;refine wpS_bind (wpS_get ?_)
        by_cases g:(pendingOf t3).size > 1
        · rw[if_pos g,dh3 (show (pendingOf t3).size - 2 < (pendingOf t3).size by omega)];refine B0 (fun _=>wpS_pure ⟨rfl,B3,cv3,u3⟩) (fun _=> ?_);refine wpS_bind (bt6 C B3 cv3 (by omega) (by omega) fun t4 B4 cv4 sz k4=> ?_);refine B0 (fun h=>absurd h (by decide)) (fun _=> ?_);exact wpS_pure ⟨rfl,B4,cv4,k4.up u3 (.inr (ct4 _))⟩
        · rw[if_neg g];exact wpS_pure ⟨rfl,B3,cv3,u3⟩
      · rintro c t3 ⟨rfl,B3,cv3,u3⟩;refine wpS_bind (wpS_modify (wpS_bind (wpS_modify (wpS_pure ⟨lo+N,rfl,⟨B3.perm,B3.kind,B3.ok⟩,?_,N2,by omega⟩))));show C3 rk (arrOf t3) (cz4 (Array.push (Array.modify (pendingOf t3) _ _) (lo,N,0))) 0 (lo+N);rw[db5,Array.toList_modify];exact C3.app.mpr ⟨lo,bi5 cv3,rfl,N1,u3,rfl⟩
 case post=>
   rintro c t ⟨lo,rfl,B',cv,rfl⟩
   dsimp only
   have lc:=C3.len cv
   refine wpS_bind (wpS_mono (wpS_forRange (I:=fun x c t=>c=(none,())/\Bs a0 κ t/\C3 rk (arrOf t) (pendingOf t).toList 0 a0.size/\((pendingOf t).size<=1\/(pendingOf t).size+x<=a0.size))
     (Q:=fun c t=>c=(none,())/\Bs a0 κ t/\C3 rk (arrOf t) (pendingOf t).toList 0 a0.size/\(pendingOf t).size<=1) ?stepE ?finE ⟨rfl,B',cv,.inr (by rw[<-cv0];omega)⟩) ?postE)
   case finE=>
     rintro c t ⟨rfl,B',cv,z⟩;exact ⟨rfl,B',cv,by omega⟩
   case stepE=>
     rintro x c t _ xn ⟨rfl,B',cv,z⟩;refine wpS_bind (wpS_get ?_);refine B0 (fun y=>wpS_pure ⟨rfl,B',cv,y⟩) (fun y=> ?_);have y:¬(pendingOf t).size<=1:=y;refine wpS_bind (bt6 C B' cv (ct4 _) ?_ fun t2 B2 cv2 sz _=> ?_)
     · exact cy0 (Nat.succ_le_succ (cn4 (n:=(pendingOf t).size - 2) (by omega) (ct4 _))) (by omega)
     · exact wpS_pure ⟨rfl,B2,cv2,by omega⟩
   case postE=>
     rintro c t ⟨rfl,B',cv,z⟩;refine wpS_pure (h t B' ?_);obtain ⟨l,hl⟩:∃l,l=(pendingOf t).toList:=⟨_,rfl⟩
     have ll:l.length<=1:=by rw[hl,cv0];exact z
     rw[<-hl] at cv
     match l,ll,cv with
     |[],_,cv=>have:0=a0.size:=cv;omega
     |[q],_,⟨c1,c2,c3,c4⟩=>
      have c4:0+q.2.1=a0.size:=c4;rw[c4] at c3;exact c3
end
end TS
namespace L2
open PySem PySem.Spec PyProof.Rows
section
variable {prog:Program} {w:World} {A:Around} {E:Value->Shared->Prop} {s:Shared}
structure aq5 (prog:Program)(w:World)(A:Around)(s:Shared)(rk:Value->Nat)(vs:List Value):Prop where
 kind:2<=vs.length->∀(Q:SortKind->Shared->Prop) (E:Value->Shared->Prop),Q oneType' s->wpAny (model prog w) A (keyKind' vs.toArray) Q E s
 less:∀x∈vs,∀y∈vs,∀(Q:Bool->Shared->Prop) (E:Value->Shared->Prop),Q (decide (rk x < rk y)) s->wpAny (model prog w) A (oneLt' true x y) Q E s
theorem at5 {vs:List Value}{p:Keyed}(h:p∈(pairsOf vs).toList):p.1∈vs/\p.2=p.1:=by
 rw[pairsOf_toList] at h;obtain ⟨i,hi⟩:=cw5.mp h;obtain ⟨x,y⟩:=p;rw[List.getElem?_zip_eq_some] at hi;obtain ⟨e1,e2⟩:=hi;rw[e1] at e2;exact ⟨cu0 e1,(Option.some.inj e2).symm⟩
theorem ck5 {rk:Value->Nat}{vs:List Value}{xs:Array Keyed}(hp:xs.Perm (pairsOf vs))(u:TS.Up (fun p=>rk p.1) xs 0 xs.size):(xs.map (·.2)).toList.Perm vs/\(xs.map (·.2)).toList.Pairwise (fun x y=>rk x<=rk y):=by
 have pl:=da2.mp hp
 have e:xs.toList.map (·.2)=xs.toList.map (·.1):=cy7 fun p hp'=>(at5 (pl.mem_iff.mp hp')).2
 rw[dh7];constructor
 · refine (pl.map _).trans ?_;rw[<-dh7,aw2]
 · show List.Pairwise _ (xs.toList.map (·.2));rw[e];exact da8.mpr (TS.co6 u)
theorem cn5 {rk:Value->Nat}{vs:List Value}(h:aq5 prog w A s rk vs):TS.Cm prog w A s oneType' (fun p=>rk p.1) (pairsOf vs):=fun x hx y hy Q E' q=>by
 rw[keyLt'_oneType];exact h.less x.1 (at5 hx).1 y.1 (at5 hy).1 Q E' q
theorem cn6 {a:Addr}{vs:List Value}{rk:Value->Nat}{n:Nat}{P:Fin->Shared->Prop}(ho:s.heap.get? a=some (seqObj "list" vs.toArray n))(hl:vs.length<=sizeLine)
   (ok:∀h':Heap,(∀b o,b≠a->s.heap.get? b=some o->h'.get? b=some o)->aq5 prog w A {s with heap:=h'} rk vs)
   (h:∀out:List Value,out.Perm vs->out.Pairwise (fun x y=>rk x<=rk y)->P (.done (.ret .none)) {s with heap:=sortedHeap s.heap a vs out.toArray}):wpAny (model prog w) A (Builtin.«list.sort» ⟨[.ref a],[]⟩) P E s:=by
 rw[list_sort_plain];have ha:a < s.heap.objs.size:=Heap.lt_size ho
 have hsz:vs.toArray.size=vs.length:=by simp
 refine wpAny_bind (listItems_at ho rfl ?_);refine wpAny_bind (listUpdate_at ho rfl ?_ (by rw[hsz];exact hl) (cv9 _));obtain ⟨e1,ho1⟩:∃e1,(s.heap.update a (Obj.mapSeq fun _=> #[])).get? a=some (seqObj "list" #[] e1):=⟨_,get?_update_seq ho (fun _=> #[])⟩;refine wpAny_bind (seqEpoch_at ho1 rfl ?_);refine wpAny_bind (wpAny_newTuple ?_ (hsz:=hl));refine wpAny_bind (wpAny_newList ?_);refine wpAny_holding ?_;obtain ⟨H6,e6⟩:∃H6,H6=((s.heap.update a (Obj.mapSeq fun _=> #[])).push (seqObj "tuple" vs.toArray 0)).push (seqObj "list" #[] 0):=⟨_,rfl⟩
 have ho6:H6.get? a=some (seqObj "list" #[] e1):=by
   rw[e6,Heap.get?_push_ne _ _ _ (by rw[size_push',Heap.size_update];exact cw4 (dh2 ha)),Heap.get?_push_ne _ _ _ (by rw[Heap.size_update];exact cw4 ha)];exact ho1
 have old:∀b o,b≠a->s.heap.get? b=some o->H6.get? b=some o:=by
   intro b o nb hb;rw[e6];refine Heap.get?_push_of_some _ (Heap.get?_push_of_some _ ?_);rw[Heap.get?_update_ne _ _ _ _ nb];exact hb
 have ok6:=ok H6 old;show wpAny (model prog w) A _ P E {s with heap:=((s.heap.update a (Obj.mapSeq fun _=> #[])).push (seqObj "tuple" vs.toArray 0)).push (seqObj "list" #[] 0)};unfold sortedHeap at h;rw[<-e6] at h ⊢
 dsimp only
 by_cases h2:vs.toArray.size < 2
 · rw[if_pos h2,if_pos h2];refine wpAny_bind (wpAny_pure ?_);rw[StateT.run_pure];refine wpAny_bind (wpAny_pure ?_)
   dsimp only
   refine wpAny_bind (seqEpoch_at ho6 rfl ?_);have ee:(arrOf (SortSt.mk' general' (vs.toArray.zip vs.toArray) #[] 7 none)).map (·.2)=vs.toArray:=aw2 vs;rw[ee];refine wpAny_bind (listUpdate_at ho6 rfl ?_ (cv9 _) (by rw[hsz];omega));simp only[bne_self_eq_false,cz9,if_false];refine wpAny_pure (h vs (List.Perm.refl _) ?_)
   match vs,hsz,h2 with
   |[],_,_=>exact List.Pairwise.nil
   |[_],_,_=>exact dc4 _ _
   |_::_::_,_,h2=>simp at h2;omega
 · rw[if_neg h2,if_neg h2];refine wpAny_bind (ok6.kind (by omega) _ _ ?_)
   refine wpAny_bind (wpAny_mono (TS.cr8 (s:={s with heap:=H6}) (st:=SortSt.mk' oneType' (vs.toArray.zip vs.toArray) #[] 7 none) (a0:=pairsOf vs) (rk:=fun p=>rk p.1)
     (Q:=fun _ st'=>(arrOf st').Perm (pairsOf vs)/\failedOf st'=none/\TS.Up (fun p=>rk p.1) (arrOf st') 0 (pairsOf vs).size) (cn5 ok6) ⟨Array.Perm.refl _,rfl,rfl⟩ rfl (by rw[pairsOf_size];omega) fun t B u=>⟨B.perm,B.ok,u⟩) ?_ fun _ _ e=>e)
   rintro ⟨⟨⟩,st'⟩ s' ⟨rfl,hp,hf,hu⟩
   dsimp only
   rw[<-hp.size_eq] at hu;obtain ⟨o1,o2⟩:=ck5 hp hu;refine wpAny_bind (seqEpoch_at ho6 rfl ?_);refine wpAny_bind (listUpdate_at ho6 rfl ?_ (cv9 _) (by rw[Array.size_map,hp.size_eq,pairsOf_size];omega));rw[hf];simp only[bne_self_eq_false,cz9,if_false];have:=h _ o1 o2;rw[Array.toArray_toList] at this;exact wpAny_pure this
theorem ce6 {l:Addr}{vs:List Value}{rk:Value->Nat}{Q:Value->Shared->Prop}(pl:s.heap.IsList l vs.toArray)(hl:vs.length<=sizeLine)
   (ok:∀h':Heap,(∀b o,b < s.heap.objs.size->s.heap.get? b=some o->h'.get? b=some o)->aq5 prog w A.in1.in1 {s with heap:=h'} rk vs)
   (h:∀out:List Value,out.Perm vs->out.Pairwise (fun x y=>rk x<=rk y)->Q (.ref (s.heap.objs.size+1)) {s with heap:=sortedAll s.heap vs out.toArray}):wpAny (model prog w) A (call (.builtin "sorted") [.ref l]) Q E s:=by
 refine Calls.call_function_entry kind_sorted plain_sorted entry_sorted (args_sorted1 _) ?_;unfold Builtin.«sorted»;refine wpAny_bind (m:=checkCount "sorted" 1 1 _) (wpAny_pure ?_);refine wpAny_bind (collect_list pl ?_ hl);refine wpAny_bind (wpAny_newList ?_ (hsz:=hl))
 have hsz:((s.heap.push (seqObj "list" #[] 0)).update s.heap.objs.size (Obj.mapSeq (· ++vs.toArray))).objs.size=s.heap.objs.size+1:=by
   rw[Heap.size_update,size_push']
 have hoL:(((s.heap.push (seqObj "list" #[] 0)).update s.heap.objs.size (Obj.mapSeq (· ++vs.toArray))).push (seqObj "list" vs.toArray 0)).get? (s.heap.objs.size+1)=some (seqObj "list" vs.toArray 0):=by
   rw[<-hsz];exact Heap.get?_push_size _ rfl
 show wpAny _ _ _ _ _ {s with heap:=((s.heap.push (seqObj "list" #[] 0)).update s.heap.objs.size (Obj.mapSeq (· ++vs.toArray))).push (seqObj "list" vs.toArray 0)};rw[hsz];refine wpAny_bind (wpAny_holding (wpAny_call_entry slot_list_sort ⟨_,hoL,rfl⟩ entry_list_sort (cn6 hoL hl (rk:=rk) (fun h' old=>ok h' fun b o lt e=>old b o (cw4 (dh2 lt)) ?_) fun out o1 o2=>⟨_,rfl,?_⟩) (args_list_sort _)))
 · refine Heap.get?_push_of_some _ ?_;rw[Heap.get?_update_ne _ _ _ _ (cw4 lt)];exact Heap.get?_push_of_some _ e
 · exact wpAny_pure ⟨_,rfl,h out o1 o2⟩
end
end L2
namespace L2
open PySem PySem.Spec PyProof.Rows
section
variable {α:Type}
theorem ad0 {p q:α->Bool}(h:∀a,p a=true->q a=true):∀{l:List α} {x:α},x∈l->p x=false->q x=true->l.countP p < l.countP q
 |[],x,hx,_,_=>by cases hx
 |y::l,x,hx,px,qx=>by
  have le:l.countP p<=l.countP q:=List.countP_mono_left fun a _=>h a
  rw[db2,db2]
  by_cases e:x=y
  · subst e;rw[px,qx];simp;omega
  · have hx':x∈l:=by
      rcases cv5.mp hx with z|z
      · exact absurd z e
      · exact z
    have:=ad0 h hx' px qx
    cases hp:p y with
    |false=>simp;split<;>omega
    |true=>rw[h y hp];simp;omega
def ag9 (lt:α->α->Bool)(l:List α)(x:α):Nat:=l.countP fun y=>lt y x
theorem ce7 {lt:α->α->Bool}(ir:∀a,lt a a=false)(tr:∀a b c,lt a b=true->lt b c=true->lt a c=true)(tot:∀a b,lt a b=false->lt b a=true\/a=b){l:List α}{x y:α}(hx:x∈l)(hy:y∈l):decide (ag9 lt l x < ag9 lt l y)=lt x y:=by
 unfold ag9
 cases h:lt x y with
 |true=>exact decide_eq_true (ad0 (fun a ha=>tr a x y ha h) hx (ir x) h)
 |false=>
  refine decide_eq_false ?_
  rcases tot x y h with z|z
  · have:=ad0 (fun a ha=>tr a y x ha z) hy (ir y) z;omega
  · rw[z];omega
theorem ce8 {lt:α->α->Bool}(ir:∀a,lt a a=false)(tr:∀a b c,lt a b=true->lt b c=true->lt a c=true){l:List α}{x y:α}(hy:y∈l)(h:ag9 lt l x<=ag9 lt l y):lt y x=false:=by
 cases z:lt y x with
 |false=>rfl
 |true=>
  have:=ad0 (l:=l) (fun a ha=>tr a y x ha z) hy (ir y) z;unfold ag9 at h;omega
end
theorem at6:∀a:List Int,HT.aj1 a a=false
 |[]=>rfl
 |x::a=>by rw[HT.bk3,if_pos rfl];exact at6 a
theorem at8:∀a b:List Int,HT.aj1 a b=false->HT.aj1 b a=true\/a=b
 |[],[],_=> .inr rfl
 |[],_::_,h=>by rw[HT.cb5] at h;cases h
 |_::_,[],_=> .inl rfl
 |x::a,y::b,h=>by
  rw[HT.bk3] at h ⊢
  by_cases e:x=y
  · rw[if_pos e] at h;rw[if_pos e.symm]
    rcases at8 a b h with z|z
    · exact .inl z
    · exact .inr (by rw[e,z])
  · rw[if_neg e] at h;rw[if_neg (fun z=>e z.symm)];have:=of_decide_eq_false h;exact .inl (decide_eq_true (by omega))
theorem bc6:∀a b c:List Int,HT.aj1 a b=true->HT.aj1 b c=true->HT.aj1 a c=true
 |[],[],_,h,_=>by cases h
 |_::_,[],_,h,_=>by cases h
 |_,_::_,[],_,h=>by cases h
 |[],_::_,_::_,_,_=>rfl
 |x::a,y::b,z::c,h,g=>by
  rw[HT.bk3] at h g ⊢
  by_cases e:x=y
  · subst e;rw[if_pos rfl] at h
    by_cases e2:x=z
    · subst e2;rw[if_pos rfl] at g ⊢;exact bc6 a b c h g
    · rw[if_neg e2] at g ⊢;exact g
  · rw[if_neg e] at h;have h1:=of_decide_eq_true h
    by_cases e2:y=z
    · subst e2;rw[if_neg e];exact h
    · rw[if_neg e2] at g;have g1:=of_decide_eq_true g;rw[if_neg (by omega)];exact decide_eq_true (by omega)
section
variable {prog:Program} {w:World} {A:Around} {E:Value->Shared->Prop} {s:Shared}
theorem bt7 (hu:A.units < cLine){x y:Value}{ns ms:List Int}(hx:Z5 s.heap x ns)(hy:Z5 s.heap y ms){Q:Bool->Shared->Prop}(q:Q (HT.aj1 ns ms) s):wpAny (model prog w) A (oneLt' true x y) Q E s:=by
 obtain ⟨p,xs,n,rfl,ox,ix⟩:=hx;obtain ⟨p2,ys,m,rfl,oy,iy⟩:=hy;rw[oneLt'_eq];simp only[if_true];refine wpAny_bind (wpAny_cRoomFor hu ?_);refine wpAny_bind (wpAny_callSpecialIfBound?_slot (T:="list") ⟨_,ox,rfl⟩ PySem.F.slot_list_lt (call_meets PySem.F.slot_list_lt ⟨_,ox,rfl⟩ PySem.F.entry_list_lt (PySem.F.args_list_lt_2 _ _) (HT.cj6 p p2 xs ys n m ns ms ix iy) ⟨⟨ox,oy⟩,?_⟩));exact wpAny_truthy_bool q
def adr:Value->Addr
 | .ref a=>a
 |_=>0
theorem aw4:∀{bs:List Addr} {us:List Value},j8 (bs.map V.ref) us->us=bs.map Value.ref
 |[],us,h=>by cases h;rfl
 |b::bs,us,h=>by
  cases h with
  |cons h1 h2=>
   cases h1;rw[aw4 h2];rfl
theorem aw5:∀bs:List Addr,j8 (bs.map V.ref) (bs.map Value.ref)
 |[]=> .nil
 |b::bs=> .cons rfl (aw5 bs)
theorem by3 {bs:List Addr}{R:Addr->List Int}(hu:A.units < cLine)(row:∀b∈bs,Z5 s.heap (.ref b) (R b)):aq5 prog w A s (fun v=>ag9 HT.aj1 (bs.map R) (R (adr v))) (bs.map Value.ref):=by
 constructor
 · intro h2 Q E q
   match bs,h2,row with
   |[],h2,_=>simp at h2
   |[_],h2,_=>simp at h2
   |b1::b2::bs,_,row=>
    have hr:∀v,v∈Value.ref b1::Value.ref b2::bs.map Value.ref->∃ns,Z5 s.heap v ns:=fun v hv=>by
      obtain ⟨b,hb,rfl⟩:=cu3.mp (show v∈(b1::b2::bs).map Value.ref from hv);exact ⟨_,row b hb⟩
    exact bt1 hr q
 · intro x hx y hy Q E q;obtain ⟨b,hb,rfl⟩:=cu3.mp hx;obtain ⟨c,hc,rfl⟩:=cu3.mp hy;refine bt7 hu (row b hb) (row c hc) ?_;have:=ce7 at6 bc6 at8 (l:=bs.map R) (cu3.mpr ⟨b,hb,rfl⟩) (cu3.mpr ⟨c,hc,rfl⟩);show Q (HT.aj1 (R b) (R c)) s;rw[<-this];exact q
end
end L2
namespace L2
open PySem PySem.Spec PyProof.Rows
section
variable {X:Cx}
theorem bc7 (hu:X.A.in1.in1.units < cLine):N3 X (.builtin "sorted") (fun xs H Q=>∃(p:Addr) (bs:List Addr) (rs:List (List Int)),xs=[.ref p]/\i4 X.K H p (bs.map V.ref)/\j7 H bs rs/\
   ∀(cs:List Addr) (ts:List (List Int)) l,cs.Perm bs->ts.Perm rs->j7 H cs ts->ts.Pairwise (fun r r'=>HT.aj1 r' r=false)->H l=none->Q (.ref l) (c8 H l (.lst (cs.map V.ref)))):=by
 intro pins s σ H xs us Q I r h;obtain ⟨p,bs,rs,rfl,hp,hr,q⟩:=h;obtain ⟨u,rfl,rx⟩:=Y8 r;cases rx;obtain ⟨its,rv,pl,hl⟩:=I.list hp;have ev:=aw4 rv;subst ev
 have rows:∀b∈bs,∃r:List Int,H b=some (.lst (r.map V.int)):=fun b hb=>by
   obtain ⟨j,hj⟩:=cw5.mp hb
   have hjl:j < rs.length:=by rw[<-hr.1];exact (ct3.mp hj).1
   exact ⟨_,hr.2 j b _ hj (ct2 hjl)⟩
 have er:=bl0 hr
 have each:∀h':Heap,(∀b o,b < s.heap.objs.size->s.heap.get? b=some o->h'.get? b=some o)->∀b∈bs,Z5 h' (.ref b) (Q5 H b):=by
   intro h' old b hb;obtain ⟨r,e⟩:=rows b hb;obtain ⟨_,its,n,v,g⟩:=(show w4 X.prog X.w H s.heap b (.lst (r.map V.int)) from I.hok b _ e);rw[an0 e];exact ⟨b,its.toArray,n,rfl,old b _ (Heap.lt_size g) g,by simpa using V2 v⟩
 have hll:(bs.map V.ref).length=bs.length:=ct1 ..
 refine ce6 (rk:=fun v=>ag9 HT.aj1 (bs.map (Q5 H)) (Q5 H (adr v))) pl.isList (by rw[ct1];omega) (fun h' old=>by3 hu (each h' old)) fun out o1 o2=> ?_
 have eo:out=(out.map adr).map Value.ref:=by
   rw[cy6];refine (de4 out).symm.trans (cy7 fun v hv=> ?_);obtain ⟨b,_,rfl⟩:=cu3.mp (o1.mem_iff.mp hv);rfl
 have pb:(out.map adr).Perm bs:=by
   have:=o1.map adr;rw[cy6] at this;have e2:bs.map (adr∘Value.ref)=bs:=(cy7 fun b _=>rfl).trans (de4 bs);rw[e2] at this;exact this
 have st:((out.map adr).map (Q5 H)).Pairwise (fun r r'=>HT.aj1 r' r=false):=by
   rw[cy6];refine da8.mpr (List.Pairwise.imp_of_mem (fun {x y} hx hy h=> ?_) o2);refine ce8 at6 bc6 (l:=bs.map (Q5 H)) ?_ h;exact cu3.mpr ⟨adr y,pb.mem_iff.mp (cu3.mpr ⟨y,hy,rfl⟩),rfl⟩
 have rw':j7 H (out.map adr) ((out.map adr).map (Q5 H)):=⟨(ct1 ..).symm,fun j a r e1 e2=>by
   rw[ct8,e1] at e2;have:=Option.some.inj e2;obtain ⟨r',e⟩:=rows a (pb.mem_iff.mp (cu0 e1))
   rw[<-this,an0 e];exact e⟩
 have pr:((out.map adr).map (Q5 H)).Perm rs:=by rw[<-er];exact pb.map _
 obtain ⟨e,he⟩:=sortedAll_at s.heap (bs.map Value.ref) out.toArray;refine ⟨.ref (s.heap.objs.size+1),_,I.laid (t':=s.toks) (fun _ _ q=>sortedAll_old q) (di5 _) (show w4 X.prog X.w _ _ _ (.lst ((out.map adr).map V.ref)) from ⟨by rw[ct1,pb.length_eq];omega,out,e,?_,he⟩),rfl,q _ _ _ pb pr rw' st (I.hok.fresh (di5 _))⟩;have:=aw5 (out.map adr);rw[<-eo] at this;exact this
variable {e:Expr} {t:TA} {p pos kpos:Pos}
def by4 (K:PySem.W.Frag)(t:TA):TE:=W9 (fun xs H Q=>∃(p:Addr) (bs:List Addr) (rs:List (List Int)),xs=[.ref p]/\i4 K H p (bs.map V.ref)/\j7 H bs rs/\
 ∀(cs:List Addr) (ts:List (List Int)) l,cs.Perm bs->ts.Perm rs->j7 H cs ts->ts.Pairwise (fun r r'=>HT.aj1 r' r=false)->H l=none->Q (.ref l) (c8 H l (.lst (cs.map V.ref)))) t
theorem al9 (hu:X.A.units+1+1 < cLine)(hm:X.mg "sorted"=none)(ha:PA X [e] t)(hg:Gl X "sorted":=by rfl)(he:starEach [e] X.env=(false,eval e X.env)::starEach [] X.env:=by rfl):
 PE X (.Call (.Name "sorted" p) [e] [] pos) (by4 X.K t):=O7 (bc7 (by simpa [Around.in1] using hu)) hg hm bb0 ha (by decide) (by decide) he rfl
end
end L2
namespace Mth
open L2 (D6)
def cb0 (rs:List (List Int)):Prop:=rs.Pairwise fun r r'=>HT.aj1 r' r=false
theorem aq6:∀{a b:List (List Int)},a.Perm b->cb0 a->cb0 b->a=b
 |[],b,p,_,_=>(List.Perm.nil_eq p)
 |r::a,[],p,_,_=>absurd p.length_eq (by simp)
 |r::a,q::b,p,ha,hb=>by
  have h1:=dg6.mp ha;have h2:=dg6.mp hb
  have e:r=q:=by
    rcases cv5.mp (p.mem_iff.mp ct7) with z|z
    · exact z
    · rcases cv5.mp (p.mem_iff.mpr (ct7:q∈q::b)) with y|y
      · exact y.symm
      · have g1:=h2.1 r z;have g2:=h1.1 q y
        rcases L2.at8 r q g1 with u|u
        · rw[g2] at u;cases u
        · exact u
  subst e;rw[aq6 (List.Perm.cons_inv p) h1.2 h2.2]
end Mth
namespace L2
open PySem PySem.Spec PyProof PyProof.Rows
open PySem.Builtin PySem.Builtin.Str PySem.Builtin.BaseException PySem.Builtin.Exceptions
section
variable {X:Cx}
structure cq9 (K:PySem.W.Frag)(C:Addr):Prop where
 str:PySem.W.findIn K (.ref C) "__str__"=some (some (.builtin "BaseException.__str__"))
 bex:PySem.W.mroIn K C (.type "BaseException")=some true
end
end L2
namespace L2
open PySem PySem.Spec PyProof.Rows
section
variable {P:Program} {w:World} {K:PySem.W.Frag} {mg:Str->Option Value} {base h:Heap} {x:Str} {st:Stmt} {f:Addr} {fd:FuncData} {ps:List Str} {k:Nat} {sp:Sp}
def Fu (K:PySem.W.Frag)(x:Str)(st:Stmt)(f:Addr):Prop:=∃fd,PySem.W.nsIn K mainGlobals x=some (some (.ref f))/\D3 K x x st f fd
theorem cn7 {oc:Value}{od an:Option Addr}{osl:Array (Option Value)}{kV doc pm cdv ct:Value}(a:PySem.W.nsIn K mainGlobals x=some (some (.ref f)))(l:K.lookup f=some ⟨oc,od,.func (PySem.W.fnOf x x (V9 st) (P2 st) (j5 st) .none kV doc pm an cdv ct),osl⟩)
 (c:PySem.W.codeIn K cdv x=true) (k:PySem.W.keepIn K (.ref f)=true):Fu K x st f:=⟨_,a,ci6 l c k⟩
theorem A6 (X:K.In h)(G:h.Ns mainGlobals mg)(a:PySem.W.nsIn K mainGlobals x=some (some (.ref f)))(F:D3 K x x st f fd)(b:V0 K fd ps [])(ok:m7 P w K mg base E7 k f fd ps sp):r6 P w K mg base x k ps sp:=⟨f,fd,PySem.W.mg_of X G a,F.kp,b,ok⟩
theorem at9 (X:K.In h)(G:h.Ns mainGlobals mg)(a:PySem.W.nsIn K mainGlobals x=some (some (.ref f)))(F:D3 K x x st f fd)(b:V0 K fd ps [])(ok:m7 P w K mg base (Z3 P w) k f fd ps sp):ac7 P w K mg base x k ps sp:=⟨f,fd,PySem.W.mg_of X G a,F.kp,b,ok⟩
def Fre (K:PySem.W.Frag):List Str->Prop
 |[]=>True
 |x::l=>PySem.W.nsIn K mainGlobals x=some none/\Fre K l
structure ClF (K:PySem.W.Frag)(T:Addr)(x:Str)(q:Addr):Prop where
 n:PySem.W.nsIn K mainGlobals x=some (some (.ref q))
 e:PySem.W.excIn K q veB "ValueError.__new__"=true
 g:PySem.W.findIn K (.ref q) "__getattribute__"=some (some (.builtin "BaseException.__getattribute__"))
 h:PySem.W.findIn K (.ref q) "__getattr__"=some none
 c:PySem.W.findIn K (.ref q) "__class__"=some (some (.builtin "object.__class__"))
 b:PySem.W.mroIn K q (.type "BaseException")=some true
 o:PySem.W.mroIn K q (.type "object")=some true
 i:PySem.W.isClsIn K q=true
 t:PySem.W.typeIn K (.ref q)=some (.type "type")
 u:PySem.W.mroIn K q (.ref T)=some true
 v:PySem.W.mroIn K q (.type "ValueError")=some true
 s:PySem.W.findIn K (.ref q) "__str__"=some (some (.builtin "BaseException.__str__"))
def au0 (K:PySem.W.Frag)(T:Addr):List (Str×Addr)->Prop
 |[]=>True
 |(x,q)::l=>ClF K T x q/\au0 K T l
def PrI (K:PySem.W.Frag)(i:Nat)(a:Addr):Nat->List (Str×Addr)->Prop
 |_,[]=>True
 |j,(_,b)::l=>PySem.W.mroIn K a (.ref b)=some (Nat.beq i j)/\PrI K i a (j+1) l
def au1 (K:PySem.W.Frag)(all:List (Str×Addr)):Nat->List (Str×Addr)->Prop
 |_,[]=>True
 |i,(_,a)::l=>PrI K i a 0 all/\au1 K all (i+1) l
theorem au0.get {T:Addr}:∀{cs:List (Str×Addr)},au0 K T cs->∀p∈cs,ClF K T p.1 p.2
 |(x,q)::l,h,p,hp=>by
  rcases cv5.mp hp with rfl|hp
  · exact h.1
  · exact au0.get h.2 p hp
theorem PrI.get {i:Nat}{a:Addr}:∀{l:List (Str×Addr)} {j0:Nat},PrI K i a j0 l->∀j q,l[j]? =some q->PySem.W.mroIn K a (.ref q.2)=some (Nat.beq i (j0+j))
 |(x,b)::l,j0,h,0,q,e=>by
  cases e;exact h.1
 |(x,b)::l,j0,h,j+1,q,e=>by
  have:=PrI.get h.2 j q e;rw[this,show j0+1+j=j0+(j+1) by omega]
theorem au1.get {all:List (Str×Addr)}:∀{l:List (Str×Addr)} {i0:Nat},au1 K all i0 l->∀i p,l[i]? =some p->PrI K (i0+i) p.2 0 all
 |(x,b)::l,i0,h,0,p,e=>by
  cases e;exact h.1
 |(x,b)::l,i0,h,i+1,p,e=>by
  have:=au1.get h.2 i p e;rw[show i0+1+i=i0+(i+1) by omega] at this;exact this
theorem bt8 {T:Addr}{cs:List (Str×Addr)}(X:K.In h)(G:h.Ns mainGlobals mg)(uT:PySem.W.nsIn K mainGlobals "TurnError"=some (some (.ref T)))(uTb:PySem.W.mroIn K T (.type "BaseException")=some true)(uTc:PySem.W.isClsIn K T=true)(uTt:PySem.W.typeIn K (.ref T)=some (.type "type"))
   (uG:PySem.W.specialIn K (.builtin "object.__class__") "__get__"=some (some (.builtin "getset_descriptor.__get__"))) (uK:PySem.W.takesIn K (.builtin "object.__class__")=some true) (uC:au0 K T cs) (uP:au1 K cs 0 cs) (nd:(cs.map (·.1)).Nodup):bc0 K mg T cs:=by
 have key:∀p∈cs,∀q∈cs,PySem.W.mroIn K p.2 (.ref q.2)=some (decide (p.1=q.1))/\(p.2=q.2->decide (p.1=q.1)=true):=fun p hp q hq=>by
   obtain ⟨i,hi⟩:=df8 hp;obtain ⟨j,hj⟩:=df8 hq
   have e:∀{k:Nat} {r:Str×Addr},cs[k]? =some r->PySem.W.mroIn K p.2 (.ref r.2)=some (Nat.beq i k):=fun {k r} hr=>by
     have:=(uP.get i p hi).get k r hr;rw[dd4,dd4] at this;exact this
   have eb:decide (p.1=q.1)=Nat.beq i j:=by
     by_cases z:i=j
     · subst z;rw[hi] at hj;cases hj;rw[decide_eq_true rfl,Nat.beq_refl]
     · have:Nat.beq i j=false:=by
         cases y:Nat.beq i j with
         |false=>rfl
         |true=>exact absurd (Nat.eq_of_beq_eq_true y) z
       rw[this]
       refine decide_eq_false fun y=>z ?_
       have i1:i < (cs.map (·.1)).length:=by rw[ct1];exact (ct3.mp hi).1
       refine (List.getElem?_inj i1 nd).mp ?_;rw[ct8,ct8,hi,hj];exact congrArg some y
   rw[eb];refine ⟨e hj,fun z=> ?_⟩;have a:=e hi;rw[z] at a;have b:=e hj;rw[z,a,Nat.beq_refl] at b;exact (Option.some.inj b).symm
 refine ⟨PySem.W.mg_of X G uT,fun p hp=> ?_,fun p hp=> ?_,fun p hp=> ?_,fun p hp=> ?_,fun p hp q hq=> ?_,fun p hp q hq=> ?_⟩
 · exact ⟨PySem.W.mg_of X G (uC.get p hp).n,(uC.get p hp).e⟩
 · have c:=uC.get p hp;exact ce1 c.g c.h c.c uG uK c.b c.o c.i
 · exact bh9 uTb uTc uTt (uC.get p hp).u
 · exact cj5 (uC.get p hp).v
 · have c:=uC.get q hq;exact ce0 c.i c.t (key p hp q hq).1 (key p hp q hq).2
 · have c:=uC.get q hq;exact bh9 c.b c.i c.t (key p hp q hq).1
end
end L2
namespace My
open PySem L2 Mth
def top (i:Nat):Stmt:=PySem.Challenge.pw_turnroots_k28_all_that_go_past.main.body.getD i (.Pass ⟨0,0,0,0⟩)
abbrev ad1:Stmt:=top 14
abbrev O5:Stmt:=top 15
abbrev aa3:Stmt:=top 16
abbrev X6:Stmt:=top 17
abbrev aa4:Stmt:=top 18
abbrev P0:Stmt:=top 19
abbrev ad2:Stmt:=top 20
abbrev Q6:Stmt:=top 21
abbrev U0:Stmt:=top 24
abbrev K1:Stmt:=top 25
abbrev Q7:Stmt:=top 27
abbrev T6:Stmt:=top 28
abbrev V4:Stmt:=top 29
abbrev ad3:Stmt:=top 31
abbrev ad4:Stmt:=top 32
abbrev ad5:Stmt:=top 33
abbrev X7:Stmt:=top 34
abbrev ah0:Stmt:=top 37
abbrev ah1:Stmt:=top 38
abbrev ad6:Stmt:=top 39
abbrev X8:Stmt:=top 40
abbrev O0:Stmt:=top 41
abbrev X9:Stmt:=top 42
abbrev ak2:Stmt:=top 43
end My
namespace My
open PySem L2 Mth
structure Bl (mg:Str->Option Value):Prop where
 len:mg "len"=none
 isi:mg "isinstance"=none
 int:mg "int"=none
 bool:mg "bool"=none
 list:mg "list"=none
 range:mg "range"=none
 sum:mg "sum"=none
 min:mg "min"=none
 max:mg "max"=none
 enum:mg "enumerate"=none
 zip:mg "zip"=none
 sorted:mg "sorted"=none
 tuple:mg "tuple"=none
 str:mg "str"=none
 repr:mg "repr"=none
 all:mg "all"=none
 any:mg "any"=none
 set:mg "set"=none
 dict:mg "dict"=none
 ve:mg "ValueError"=none
section
variable {P:Program} {w:World} {K:PySem.W.Frag} {mg:Str->Option Value} {base:Heap}
def ak3 (K:PySem.W.Frag):Sp:=fun vs H Q _=>∃x t b1 b2,vs=[x]/\K5 K H x t/\PySem.W.kitOne K t (.type "int")=some b1/\PySem.W.kitOne K t (.type "bool")=some b2/\Q (.bl (b1&& !b2)) H
theorem ce9:o5 ["thing"] ["thing"] (j5 ad1):=by rfl'
theorem by5 {f:Addr}{fd:FuncData}(F:D3 K "is_whole" "is_whole" ad1 f fd)(B:Bl mg):m7 P w K mg base E7 1 f fd ["thing"] (ak3 K):=by
 refine F.ok ce9 (fun vs H Q E h=> ?_) (fun cdv A outer s H vs Q E hr h=> ?_)
 · obtain ⟨x,t,b1,b2,rfl,_⟩:=h;rfl
 · obtain ⟨x,t,b1,b2,rfl,ty,e1,e2,q⟩:=h;refine ⟨_,h8 (k7 (cg8 (ab0 B.isi (c5 (pv 0) (c5 (bw8 B.int) c6))) (cg7 (cg9 (ab0 B.isi (c5 (pv 0) (c5 (bq6 B.bool) c6))))))),?_⟩;refine ⟨x,rfl,x,"int",t,b1,rfl,ty,e1,b1,rfl,?_⟩
   cases b1 with
   |true=>
    refine J7 ⟨x,rfl,x,"bool",t,b2,rfl,ty,e2,b2,rfl,?_⟩;exact q
   |false=>exact C7 q
def T1:Sp:=fun vs H Q _=>∃(a:Addr) (ns:List Int),vs=[.ref a]/\H a=some (.lst (ns.map V.int))/\∀(b:Bool) (H':Hp),c9 H H'->(b=true↔ns.length<=40/\A0 ns)->Q (.bl b) H'
theorem an3:o5 ["thing","seen","place"] ["thing"] (j5 U0):=by rfl'
theorem bt9 {f:Addr}{fd:FuncData}(F:D3 K "is_turn" "is_turn" U0 f fd)(B:Bl mg)(mt:∃t,mg "MOST_THINGS"=some (.int 40 t))(cW:r6 P w K mg base "is_whole" 1 ["thing"] (ak3 K)):m7 P w K mg base E7 2 f fd ["thing"] T1:=by
 refine F.ok an3 (fun vs H Q E h=> ?_) (fun cdv A outer s H vs Q E hr h=> ?_)
 · obtain ⟨a,ns,rfl,_⟩:=h;rfl
 · obtain ⟨a,ns,rfl,ha,k⟩:=h;obtain ⟨tk,mt⟩:=mt;have hu:=O3 hr
   refine ⟨_,e8 (C1 (K4 (L5 (J5 (ab0 B.isi (c5 (pv 0) (c5 (Z2 B.list) c6))))) (Q2 (o3 ai9 (y7 B.len (c5 (pv 0) c6)) (E9 (v:= .int 40) (by rfl) mt ⟨tk,rfl⟩) (o7 _)))).pt (h8 (k7 D8)) x6)
     (e8 (i8 (i:=1) an3.nd rfl (Or.inl rfl) S0)
     (e8 (x8 PassesOwn.never rfl (C5 (pv 0)) (i9 (i:=2) an3.nd rfl (Or.inl rfl))
       (e8 (C1 (K4 (L5 (J5 (j6 cW hr (c5 (pv 2) c6)))) (K4 (o3 ay0 (pv 2) i6 (o7 _)) (K4 (o3 bk1 (pv 2) (y7 B.len (c5 (pv 0) c6)) (o7 _)) (Q2 (ay7 (bp5 hu (pv 2) (pv 1))))))).pt (h8 (k7 D8)) x6)
       (h8 (aj6 hu (pv 1) (pv 2) D8 rfl))))
     (h8 (k7 D8)))),?_⟩
   refine ⟨_,rfl,_,"list",_,true,rfl,.lst ha,S4 K "list",true,rfl,?_⟩;refine C7 ⟨_,rfl,a,_,rfl,.inl (i4.of ha),_,_,rfl,rfl,_,rfl,?_⟩;rw[ct1];refine S1 (fun h40=> ?_) (fun h40=> ?_)
   · have h40:(40:Int) < (ns.length:Int):=of_decide_eq_true h40;exact k false H (c9.refl H) ⟨fun z=>(by cases z),fun z=>(by have:=z.1;omega)⟩
   · have h40:¬(40:Int) < (ns.length:Int):=fun z=>h40 (decide_eq_true z)
     intro d hd;have nad:a≠d:=h7 ha hd
     have ha1:(c8 H d (.dK [])) a=some (.lst (ns.map V.int)):=by rw[g8 nad];exact ha
     refine ⟨_,rfl,a,rfl,⟨_,i4.of ha1⟩,G6 (K:=K) (a:=a) (xs:=ns.map V.int) (fun i σ H2=>∃v:Option V,σ=[some (.ref a),some (.ref d),v]/\c9 H H2/\H2 d=some (.dK (K6 (ns.take i)))/\(ns.take i).Nodup/\∀x∈ns.take i,0<=x/\x < ns.length)
       ⟨none,rfl,c9.upd_new hd,c7,cz8,fun x hx=>by simp at hx⟩ (fun i σ H2 _ zz=>by obtain ⟨_,_,s2,_⟩:=zz;exact i4.of (s2 a _ ha)) ?_ ?_⟩
     · rintro i y σ H2 hi ⟨v,rfl,s2,h2,nd,bd⟩;obtain ⟨z,hz,rfl⟩:=G4 hi;have ha2:=s2 a _ ha;have hil:i < ns.length:=(ct3.mp hz).1;refine ⟨_,rfl,.int z,_,true,false,rfl,.int z,S4 K "int",af8 K,_,rfl,?_⟩;refine C7 ⟨_,rfl,_,_,rfl,rfl,_,rfl,?_⟩;refine S1 (fun hz0=> ?_) (fun hz0=> ?_)
       · have hz0:z < 0:=of_decide_eq_true hz0;exact J7 (k false H2 s2 ⟨fun q=>(by cases q),fun q=>(by have:=q.2.lo z (cu0 hz);omega)⟩)
       have hz0:¬z < 0:=fun q=>hz0 (decide_eq_true q)
       refine ⟨_,rfl,_,rfl,a,_,rfl,.inl (i4.of ha2),_,_,rfl,rfl,_,rfl,?_⟩;rw[ct1];refine S1 (fun hz1=> ?_) (fun hz1=> ?_)
       · have hz1:(ns.length:Int)<=z:=of_decide_eq_true hz1;exact J7 (k false H2 s2 ⟨fun q=>(by cases q),fun q=>(by have:=q.2.hi z (cu0 hz);omega)⟩)
       have hz1:¬(ns.length:Int)<=z:=fun q=>hz1 (decide_eq_true q)
       refine ⟨_,rfl,_,rfl,d,_,rfl,U6.k (k:=Sum.inl z) h2,_,rfl,?_⟩
       by_cases hm:z∈ns.take i
       · rw[am8 hm];refine J7 (k false H2 s2 ⟨fun q=>(by cases q),fun q=> ?_⟩);exfalso;obtain ⟨j,hj⟩:=cw5.mp hm
         have hjl:j < i:=by
           have:=(ct3.mp hj).1;rw[cu2] at this;omega
         rw[cx5 hjl] at hj;have e1:=(ct3.mp hj).2;have e2:=(ct3.mp hz).2;exact cw3.mp (cv8.mp q.2.nd) j i (by omega) hil hjl (by rw[e1,e2])
       · rw[ac3 hm];refine C7 ⟨_,rfl,_,rfl,d,_,rfl,af5.k (k:=Sum.inl z) h2 (w6 (by unfold K6;rw[ct1,cu2];omega)),?_⟩
         have hds:∀b o,H b=some o->b≠d:=fun b o e=>h7 e hd
         refine ⟨some (.int z),rfl,fun b o e=>by rw[g8 (hds b o e)];exact s2 b o e,?_,?_,?_⟩
         · rw[af9 hm,c7,j9 hz]
         · rw[j9 hz];exact aj7 nd hm
         · intro x hx;rw[j9 hz] at hx
           rcases cu5.mp hx with q|q
           · exact bd x q
           · have:x=z:=by simpa using q
             omega
     · rintro σ H2 ⟨v,rfl,s2,h2,nd,bd⟩;rw[ct1,cw2] at nd bd;refine k true H2 s2 ⟨fun _=>⟨by omega,⟨nd,fun x hx=>(bd x hx).1,fun x hx=>(bd x hx).2⟩⟩,fun _=>rfl⟩
end
end My
namespace My
open PySem L2 Mth
section
variable {P:Program} {w:World} {K:PySem.W.Frag} {mg:Str->Option Value} {base:Heap}
def E8 (H:Hp)(a:Addr)(p:List Int):Prop:=H a=some (.lst (p.map V.int))/\A0 p/\p.length<=40
end
end My
namespace My
open PySem L2 Mth
section
variable {P:Program} {w:World} {K:PySem.W.Frag} {mg:Str->Option Value} {base:Heap}
def aq7:Sp:=fun vs H Q _=>∃(a:Addr) (ns:List Int),vs=[.ref a]/\E8 H a ns/\∀(H':Hp),c9 H H'->Q .non H'
theorem bu0:o5 ["thing"] ["thing"] (j5 K1):=by rfl'
theorem bi7 {f:Addr}{fd:FuncData}(F:D3 K "must_be_turn" "must_be_turn" K1 f fd)(cT:r6 P w K mg base "is_turn" 2 ["thing"] T1):m7 P w K mg base E7 3 f fd ["thing"] aq7:=by
 refine F.ok bu0 (fun vs H Q E h=> ?_) (fun cdv A outer s H vs Q E hr h=> ?_)
 · obtain ⟨a,ns,rfl,_⟩:=h;rfl
 · obtain ⟨a,ns,rfl,⟨ha,ht,hl⟩,k⟩:=h;refine ⟨_,h8 (C1 (L5 (J5 (j6 cT hr (c5 (pv 0) c6)))) (h8 ay9) x6),?_⟩;refine ⟨_,rfl,a,ns,rfl,ha,fun b H' s' hb=>⟨b,rfl,?_⟩⟩;have:b=true:=hb.mpr ⟨hl,ht⟩;subst this;exact C7 (k H' s')
end
end My
namespace My
open PySem L2 Mth
section
def ad7:Sp:=fun vs H Q _=>∃(a b:Addr) (p q:List Int),vs=[.ref a,.ref b]/\E8 H a p/\E8 H b q/\p.length=q.length/\
 ∀(l:Addr) (H':Hp),H l=none->c9 H H'->H' l=some (.lst ((J8 p q).map V.int))->Q (.ref l) H'
end
end My
namespace My
open PySem L2 Mth
section
variable {P:Program} {w:World} {K:PySem.W.Frag} {mg:Str->Option Value} {base:Heap}
def bc8 (K:PySem.W.Frag):Sp:=fun vs H Q _=>∃(a:Addr) (ns:List Int) (k:Int),vs=[.ref a,.int k]/\i4 K H a (ns.map V.int)/\0<=k/\k<=100/\∀(l:Addr) (H':Hp),H l=none->c9 H H'->x9 H' l 4300->Q (.ref l) H'
theorem bc9:o5 ["script","k","cell"] ["script","k"] (j5 ad3):=by rfl'
theorem cf0 {f:Addr}{fd:FuncData}(F:D3 K "_law_pool" "_law_pool" ad3 f fd)(B:Bl mg):m7 P w K mg base E7 1 f fd ["script","k"] (bc8 K):=by
 refine F.ok bc9 (fun vs H Q E h=> ?_) (fun cdv A outer s H vs Q E hr h=> ?_)
 · obtain ⟨a,ns,k,rfl,_⟩:=h;rfl
 · obtain ⟨a,ns,k,rfl,ha,k0,k1,q⟩:=h
   refine ⟨_,e8 (i8 (i:=2) bc9.nd rfl (Or.inl rfl) i6)
     (e8 (C1 (o3 ay0 (pv 1) (y7 B.len (c5 (pv 0) c6)) (o7 _)) (h8 (i8 (i:=2) bc9.nd rfl (Or.inl rfl) (G9 B7 (pv 0) (pv 1) (fun _ _=>rfl)))) x6)
     (h8 (k7 (x3 (c5 (pv 2) (c5 (bh8 B.int (c5 (aj0 bk1 (pv 2) (q9 ch5 i6 i6) (o7 _)) c6)) (c5 (q9 aa8 i6 (pv 1)) c6))))))),?_⟩
   refine ⟨_,rfl,_,rfl,a,_,rfl,.inl ha,_,_,rfl,rfl,_,rfl,?_⟩;rw[ct1];have cp:ch3 10 18:=⟨by decide,by decide,by decide⟩;refine S1 (fun h=> ?_) (fun h=> ?_)
   · have h:k < (ns.length:Int):=of_decide_eq_true h;refine ⟨_,rfl,_,rfl,a,_,k,_,rfl,rfl,ha,aj9 k0 h,?_⟩;refine ⟨_,rfl,_,rfl,_,_,rfl,rfl,cp,_,_,rfl,rfl,_,rfl,_,rfl,_,_,rfl,rfl,.inl ⟨by decide,by decide⟩,(by show 3<=sizeLine;decide),fun l hl=> ?_⟩;exact q l _ hl (c9.upd_new hl) ⟨_,_,_,c7,by omega,by omega⟩
   · refine ⟨_,rfl,_,rfl,_,_,rfl,rfl,cp,_,_,rfl,rfl,_,rfl,_,rfl,_,_,rfl,rfl,.inl ⟨by decide,by decide⟩,(by show 3<=sizeLine;decide),fun l hl=> ?_⟩;exact q l _ hl (c9.upd_new hl) ⟨_,_,_,c7,by omega,by omega⟩
def ah2:Sp:=fun vs H Q _=>∃(a:Addr) (c:Nat) (m:Int),vs=[.ref a,.int m]/\x9 H a c/\c<=1000000/\0 < m/\m<=1000000000000000000000000000000/\∀(r:Int) (H':Hp),0<=r->r < m->x9 H' a (c+1)->i7 a H H'->Q (.int r) H'
theorem ah3:o5 ["pool","many","found","x"] ["pool","many"] (j5 ad4):=by rfl'
theorem cf1 {f:Addr}{fd:FuncData}(F:D3 K "_law_draw" "_law_draw" ad4 f fd):m7 P w K mg base E7 1 f fd ["pool","many"] ah2:=by
 refine F.ok ah3 (fun vs H Q E h=> ?_) (fun cdv A outer s H vs Q E hr h=> ?_)
 · obtain ⟨a,c,m,rfl,_⟩:=h;rfl
 · obtain ⟨a,c,m,rfl,⟨x,y,z,ha,hz,hzc⟩,hc,m0,m1,q⟩:=h
   refine ⟨_,e8 (C1 (o3 ai8 (G9 B7 (pv 0) i6 (fun _ _=>rfl)) i6 (o7 _))
       (e8 (i8 (i:=2) ah3.nd rfl (Or.inl rfl) (q9 T7 (G9 B7 (pv 0) i6 (fun _ _=>rfl)) (pv 1)))
       (e8 (ae9 (q9 bx2 (G9 B7 (pv 0) i6 (fun _ _=>rfl)) (pv 1)) (ae8 (pv 0) i6 X0))
       (h8 (k7 (pv 2))))) x6)
     (e8 (ae9 (q9 J0 (G9 B7 (pv 0) i6 (fun _ _=>rfl)) i6) (ae8 (pv 0) i6 X0))
     (e8 (i8 (i:=3) ah3.nd rfl (Or.inl rfl) (q9 T7 (q9 J0 (q9 T7 (G9 B7 (pv 0) i6 (fun _ _=>rfl)) i6) (q9 aa8 i6 (G9 B7 (pv 0) i6 (fun _ _=>rfl)))) i6))
     (e8 (i8 (i:=3) ah3.nd rfl (Or.inl rfl) (q9 T7 (q9 aa8 (pv 3) (pv 3)) i6))
     (e8 (i8 (i:=3) ah3.nd rfl (Or.inl rfl) (q9 T7 (q9 aa8 (q9 J0 (pv 3) i6) (pv 3)) i6))
     (h8 (k7 (q9 T7 (q9 cb3 (pv 3) i6) (pv 1)))))))),?_⟩
   refine ⟨_,rfl,a,_,_,_,rfl,rfl,i4.of ha,(G0 (j:=1) rfl),rfl,_,rfl,?_⟩;refine S1 (fun h=> ?_) (fun h=> ?_)
   · refine ⟨_,rfl,a,_,_,_,rfl,rfl,i4.of ha,(G0 (j:=0) rfl),_,rfl,_,_,rfl,rfl,m0,?_⟩;refine ⟨_,rfl,a,_,_,_,rfl,rfl,i4.of ha,(G0 (j:=0) rfl),_,rfl,_,_,rfl,rfl,⟨m0,m1⟩,?_⟩;refine ⟨_,rfl,a,_,_,0,rfl,rfl,ha,rfl,?_⟩;refine ⟨_,rfl,q _ _ (Int.emod_nonneg _ (by omega)) (Int.emod_lt_of_pos _ m0) ⟨_,_,_,c7,hz,by omega⟩ i7.upd⟩
   · refine ⟨_,rfl,a,_,_,_,rfl,rfl,i4.of ha,(G0 (j:=2) rfl),_,_,rfl,rfl,?_⟩;refine ⟨_,rfl,a,_,_,2,rfl,rfl,ha,rfl,?_⟩;have ha2:(c8 H a (.lst [.int x,.int y,.int (z+1)])) a=some (.lst [.int x,.int y,.int (z+1)]):=c7
     have e64:(2:Int)^64=18446744073709551616:=by decide
     refine ⟨_,rfl,a,_,_,_,rfl,rfl,i4.of ha2,(G0 (j:=0) rfl),_,_,rfl,rfl,(by show (0:Int) < 999999999989;decide),_,rfl,a,_,_,_,rfl,rfl,i4.of ha2,(G0 (j:=2) rfl),_,_,rfl,rfl,.inl ⟨by decide,by decide⟩,_,_,rfl,rfl,_,_,rfl,rfl,(by show (0:Int) < 999999999989;decide),?_⟩;refine ⟨_,rfl,_,rfl,_,_,rfl,rfl,.inl ⟨by rw[e64];omega,by rw[e64];omega⟩,_,_,rfl,rfl,(by show (0:Int) < 1000000000039;decide),?_⟩;refine ⟨_,rfl,_,_,rfl,rfl,_,rfl,_,_,rfl,rfl,.inl ⟨by rw[e64];omega,by rw[e64];omega⟩,_,_,rfl,rfl,(by show (0:Int) < 999999999961;decide),?_⟩;refine ⟨_,rfl,_,_,rfl,rfl,⟨by decide,by decide⟩,_,rfl,_,_,rfl,rfl,m0,?_⟩;exact q _ _ (Int.emod_nonneg _ (by omega)) (Int.emod_lt_of_pos _ m0) ⟨_,_,_,c7,by omega,by omega⟩ i7.upd
def ay3 (H:Hp)(l:Addr):Nat:=match H l with
 |some (.lst xs)=>xs.length
 |_=>0
theorem ad8 {H:Hp}{l:Addr}{xs:List V}(h:H l=some (.lst xs)):ay3 H l=xs.length:=by unfold ay3;rw[h]
def bd0:Sp:=fun vs H Q _=>∃(a:Addr) (c:Nat) (m:Int),vs=[.ref a,.int m]/\x9 H a c/\0<=m/\m<=40/\c<=800000/\
 ∀(l:Addr) (p:List Int) (H':Hp),H l=none->A0 p->(p.length:Int)=m->H' l=some (.lst (p.map V.int))->x9 H' a (c+100)->i7 a H H'->Q (.ref l) H'
theorem O2:o5 ["pool","many","left","row","most","found","at","part","k","thing"] ["pool","many"] (j5 ad5):=by rfl'
theorem cf2 {f:Addr}{fd:FuncData}(F:D3 K "_law_turn" "_law_turn" ad5 f fd)(B:Bl mg)(cT:r6 P w K mg base "_law_draw" 1 ["pool","many"] ah2):m7 P w K mg base E7 2 f fd ["pool","many"] bd0:=by
 refine F.ok O2 (fun vs H Q E h=> ?_) (fun cdv A outer s H vs Q E hr h=> ?_)
 · obtain ⟨a,c,m,rfl,_⟩:=h;rfl
 · obtain ⟨a,c,n,rfl,hp,n0,n1,hc,q⟩:=h;have hu:=O3 hr
   refine ⟨_,e8 (i8 (i:=2) O2.nd rfl (Or.inl rfl) (ac4 rfl B.list B.range (c5 (pv 1) c6)))
     (e8 (i8 (i:=3) O2.nd rfl (Or.inl rfl) (x3 c6))
     (e8 (am4 PassesOwn.never (o3 (aa9 0 hu) (pv 2) (x3 c6) (o7 _))
       (h8 (C4 (D5 (pv 3) (c5 (bw9 (pv 2) (c5 (j6 cT hr (c5 (pv 0) (c5 (y7 B.len (c5 (pv 2) c6)) c6))) c6)) c6)))))
     (e8 (C1 (o3 ai8 (j6 cT hr (c5 (pv 0) (c5 i6 c6))) i6 (o7 _)) (h8 (k7 (pv 3))) x6)
     (e8 (i8 (i:=4) O2.nd rfl (Or.inl rfl) (q9 J0 i6 (j6 cT hr (c5 (pv 0) (c5 i6 c6)))))
     (e8 (i8 (i:=5) O2.nd rfl (Or.inl rfl) (ac4 rfl B.list B.range (c5 (pv 1) c6)))
     (e8 (i8 (i:=6) O2.nd rfl (Or.inl rfl) i6)
     (e8 (am4 PassesOwn.never (o3 ay0 (pv 6) (pv 1) (o7 _))
       (e8 (i8 (i:=7) O2.nd rfl (Or.inl rfl) (M3 P1 (pv 3) (N4 (pv 6)) (N4 (q9 J0 (q9 J0 (pv 6) i6) (j6 cT hr (c5 (pv 0) (c5 (pv 4) c6)))))))
       (e8 (x8 PassesOwn.never rfl (W0 B.enum (c5 (pv 7) c6)) (Q4 rfl (A5 (i9 (i:=8) O2.nd rfl (Or.inl rfl)) (A5 (i9 (i:=9) O2.nd rfl (Or.inl rfl)) N0)))
         (h8 (ae9 (G9 B7 (pv 7) (q9 T7 (q9 J0 (pv 8) i6) (y7 B.len (c5 (pv 7) c6))) (fun _ _=>rfl)) (ae8 (pv 5) (pv 9) X0))))
       (h8 (i8 (i:=6) O2.nd rfl (Or.inl rfl) (q9 J0 (pv 6) (y7 B.len (c5 (pv 7) c6))))))))
     (h8 (k7 (pv 5)))))))))),?_⟩
   obtain ⟨px,py,pz,hpa,hpz,hpz'⟩:=id hp;refine ⟨_,rfl,_,rfl,fun r hr'=>⟨r,0,n,rfl,c7,⟨by decide,by decide,by omega,by omega⟩,by omega,fun l hl=> ?_⟩⟩
   have hlr:l≠r:=fun z=>by rw[z,c7] at hl;cases hl
   have hl0:H l=none:=by rw[g8 hlr] at hl;exact hl
   have s1:c9 H (c8 (c8 H r (.rng 0 n)) l (.lst ((D6 0 (n - 0).toNat).map V.int))):=(c9.upd_new hr').upd_r hl0
   have e0:(n - 0).toNat=n.toNat:=by rw[Int.sub_zero]
   rw[e0] at s1;rw[e0];have h1l:(c8 (c8 H r (.rng 0 n)) l (.lst ((D6 0 n.toNat).map V.int))) l=some (.lst ((D6 0 n.toNat).map V.int)):=c7;generalize (c8 (c8 H r (.rng 0 n)) l (.lst ((D6 0 n.toNat).map V.int)))=H1 at s1 h1l ⊢;refine ⟨cv9 _,fun m hm=> ?_⟩;have hm0:H m=none:=s1.free hm;have nal:a≠l:=h7 hpa hl0;have nam:a≠m:=h7 hpa hm0
   have hml:m≠l:=fun z=>by rw[z,h1l] at hm;cases hm
   refine az1 (fun σ H2=>∃(ls fs:List V),σ=[some (.ref a),some (.int n),some (.ref l),some (.ref m),none,none,none,none,none,none]/\H2 l=some (.lst ls)/\H2 m=some (.lst fs)/\(fs++ls).Perm ((D6 0 n.toNat).map V.int)/\x9 H2 a (c+fs.length)/\i7 a H H2) (fun σ H2=>ay3 H2 l)
     ⟨(D6 0 n.toNat).map V.int,[],rfl,by rw[g8 hml.symm];exact h1l,c7,List.Perm.refl _,⟨px,py,pz,by rw[g8 nam];exact s1 a _ hpa,hpz,hpz'⟩,fun b o hb _=>by rw[g8 (h7 hb hm0)];exact s1 b o hb⟩ ?_ ?_
   · rintro σ H2 ⟨ls,fs,rfl,h2l,h2m,pm,⟨x,y,z,h2a,hz0,hz1⟩,kb⟩;refine ⟨_,rfl,cv9 _,fun e he=> ?_⟩;have nle:l≠e:=h7 h2l he;have nme:m≠e:=h7 h2m he;have nae:a≠e:=h7 h2a he;refine ⟨l,e,ls,[],ls.isEmpty,rfl,rfl,i4.of (by rw[g8 nle];exact h2l),i4.of c7,cc2 _ _ _ _,_,rfl,?_⟩
     have hlen:fs.length+ls.length=n.toNat:=by
       have:=pm.length_eq;rw[ct6,ct1,D1] at this;exact this
     cases ls with
     |nil=>
      refine C7 ?_;rw[cw0] at pm;obtain ⟨ts,rfl,hts⟩:=bq8 pm;obtain ⟨hT,hTl⟩:=J2 hts;rw[ct1] at hz1
      have h3m:(c8 H2 e (.lst [])) m=some (.lst (ts.map V.int)):=by rw[g8 nme];exact h2m
      have P3:x9 (c8 H2 e (.lst [])) a (c+40):=⟨x,y,z,by rw[g8 nae];exact h2a,hz0,by omega⟩
      have kb3:i7 a H (c8 H2 e (.lst [])):=fun b o hb hn=>by
        have:=kb b o hb hn;rw[g8 (h7 this he)];exact this
      generalize (c8 H2 e (.lst []))=H3 at h3m P3 kb3 ⊢;refine ⟨_,rfl,a,c+40,2,rfl,P3,by omega,by decide,by decide,fun r1 H4 r10 r11 P4 kb34=>⟨rfl,_,rfl,?_⟩⟩;have h4m:=kb34 m _ h3m nam.symm;have kb4:=kb3.trans kb34;refine S1 (fun _=>⟨_,rfl,q m ts H4 hm0 hT (by omega) h4m (P4.mono (by omega)) kb4⟩) (fun _=> ?_);refine ⟨_,rfl,a,c+41,4,rfl,P4,by omega,by decide,by decide,fun r2 H5 r20 r21 P5 kb45=>⟨_,_,rfl,rfl,?_⟩⟩;have h5m:=kb45 m _ h4m nam.symm;have kb5:=kb4.trans kb45;obtain ⟨x5,y5,z5,h5a,hz5,hz5'⟩:=id P5;refine ⟨_,rfl,_,rfl,fun r' hr''=>⟨r',0,n,rfl,c7,⟨by decide,by decide,by omega,by omega⟩,by omega,fun fo hfo=> ?_⟩⟩;rw[e0]
      have hfr:fo≠r':=fun z=>by rw[z,c7] at hfo;cases hfo
      have hfo5:H5 fo=none:=by rw[g8 hfr] at hfo;exact hfo
      have s6:c9 H5 (c8 (c8 H5 r' (.rng 0 n)) fo (.lst ((D6 0 n.toNat).map V.int))):=(c9.upd_new hr'').upd_r hfo5;have h6f:(c8 (c8 H5 r' (.rng 0 n)) fo (.lst ((D6 0 n.toNat).map V.int))) fo=some (.lst ((D6 0 n.toNat).map V.int)):=c7;generalize (c8 (c8 H5 r' (.rng 0 n)) fo (.lst ((D6 0 n.toNat).map V.int)))=H6 at s6 h6f ⊢;have h6m:=s6 m _ h5m;have naf:a≠fo:=h7 h5a hfo5;have hmf:m≠fo:=h7 h5m hfo5
      have hfo0:H fo=none:=by
        cases ee:H fo with
        |none=>rfl
        |some o=>have:=kb5 fo o ee naf.symm;rw[hfo5] at this;cases this
      have kb6:i7 a H H6:=fun b o hb hn=>s6 b o (kb5 b o hb hn)
      have P6:x9 H6 a (c+42):=⟨x5,y5,z5,s6 a _ h5a,hz5,hz5'⟩
      have mob:1<=1+r2/\1+r2<=4:=by omega
      obtain ⟨mo,hmo⟩:∃mo,mo=1+r2:=⟨_,rfl⟩;rw[<-hmo] at mob
      refine ⟨fun mm σ H7=>∃(fs qs:List Int) (k:Nat) (v7 v8 v9:Option V),σ=[some (.ref a),some (.int n),some (.ref l),some (.ref m),some (.int mo),some (.ref fo),some (.int (k:Int)),v7,v8,v9]/\k<=ts.length/\H7 fo=some (.lst (fs.map V.int))/\H7 m=some (.lst (ts.map V.int))/\fs.length=ts.length/\qs.Perm (ts.take k)/\(ts.take k).map (G3 fs)=qs.map some/\x9 H7 a (c+42+k)/\i7 a H H7/\mm=ts.length - k,
        ⟨ts.length,_,[],0,none,none,none,by rw[hmo];rfl,cv9 _,h6f,h6m,by rw[D1,hTl],List.Perm.refl _,rfl,P6,kb6,by omega⟩,?_⟩
      rintro mm σ H7 ⟨fs,qs,k,v7,v8,v9,rfl,hk,h7f,h7m,hfl,hq,hmap,P7,kb7,rfl⟩;refine ⟨_,rfl,_,rfl,_,_,rfl,rfl,_,rfl,?_⟩;refine S1 (fun hlt=> ?_) (fun hge=> ?_)
      · have hlt:(k:Int) < n:=of_decide_eq_true hlt
        have hkl:k < ts.length:=by omega
        refine ⟨fun σ' H'=>∃m',m' < ts.length - k/\_,fun _ _ h=>h,?_⟩;refine ⟨_,rfl,_,rfl,_,rfl,_,rfl,_,_,rfl,rfl,_,rfl,_,rfl,a,c+42+k,mo,rfl,P7,by omega,by omega,by omega,fun r3 H8 r30 r31 P8 kb78=>⟨_,_,rfl,rfl,_,rfl,?_⟩⟩;have h8m:=kb78 m _ h7m nam.symm;have h8f:=kb78 fo _ h7f naf.symm;have kb8:=kb7.trans kb78;refine ⟨m,_,rfl,i4.of h8m,fun pa hpa'=> ?_⟩;obtain ⟨rn,rfl⟩:=cy8 r30
        have ecut:M4 (ts.map V.int) (some (k:Int)) (some ((k:Int)+1+(rn:Int)))=(((ts.drop k).take (min (k+1+rn) ts.length - k))).map V.int:=by
          rw[show (k:Int)+1+(rn:Int)=((k+1+rn:Nat):Int) by omega,cc8 _ _ _ (by rw[ct1];exact hk),ct1,dd9,dh5]
        rw[ecut];obtain ⟨L,hL⟩:∃L,L=min (k+1+rn) ts.length - k:=⟨_,rfl⟩;rw[<-hL]
        have L1:1<=L:=by omega
        have hkL:k+L<=ts.length:=by omega
        have segL:((ts.drop k).take L).length=L:=by rw[cu2,cw1];omega
        have segAt:∀u,u < L->((ts.drop k).take L)[u]? =some (ts.getD (k+u) 0):=fun u hu=>by
          rw[cx5 hu,da5,E3 (by omega),ct2 (by omega)]
        have s89:c9 H8 (c8 H8 pa (.lst (((ts.drop k).take L).map V.int))):=c9.upd_new hpa';have h9p:(c8 H8 pa (.lst (((ts.drop k).take L).map V.int))) pa=some (.lst (((ts.drop k).take L).map V.int)):=c7;generalize (c8 H8 pa (.lst (((ts.drop k).take L).map V.int)))=H9 at s89 h9p ⊢;obtain ⟨E2,hseg⟩:∃E2,E2=(ts.drop k).take L:=⟨_,rfl⟩;rw[<-hseg] at segL segAt h9p;have h9m:=s89 m _ h8m;have h9f:=s89 fo _ h8f
        have kb9:i7 a H H9:=fun b o hb hn=>s89 b o (kb8 b o hb hn)
        have P9:x9 H9 a (c+43+k):=by
          obtain ⟨x,y,z,e,z0,z1⟩:=id P8;exact ⟨x,y,z,s89 a _ e,z0,by omega⟩
        have npf:pa≠fo:=fun z=>by rw[z,h8f] at hpa';cases hpa'
        have npm:pa≠m:=fun z=>by rw[z,h8m] at hpa';cases hpa'
        refine ⟨_,rfl,pa,rfl,⟨_,i4.of h9p⟩,X2 (K:=K) (a:=pa) (xs:=E2.map V.int) (fun j σ H10=>∃(fs':List Int) (v8' v9':Option V),σ=[some (.ref a),some (.int n),some (.ref l),some (.ref m),some (.int mo),some (.ref fo),some (.int (k:Int)),some (.ref pa),v8',v9']/\H10 fo=some (.lst (fs'.map V.int))/\H10 m=some (.lst (ts.map V.int))/\H10 pa=some (.lst (E2.map V.int))/\fs'.length=ts.length/\(ts.take k).map (G3 fs')=qs.map some/\(∀u,u < j->G3 fs' (ts.getD (k+u) 0)=some (ts.getD (k+(u+1)%L) 0))/\x9 H10 a (c+43+k)/\i7 a H H10)
          ⟨fs,v8,v9,rfl,h9f,h9m,h9p,hfl,hmap,fun u hu=>by omega,P9,kb9⟩ (fun j σ H10 _ zz=>by obtain ⟨_,_,_,_,_,_,h,_⟩:=zz;exact i4.of h) ?_ ?_⟩
        · rintro j y σ H10 t hj ⟨fs',v8',v9',rfl,h10f,h10m,h10p,hfl',hmap',hu',P10,kb10⟩ ht;obtain ⟨zz,hzz,rfl⟩:=G4 hj
          have hjL:j < L:=by rw[<-segL];exact (ct3.mp hzz).1
          have ezz:zz=ts.getD (k+j) 0:=by
            rw[segAt j hjL] at hzz;exact (Option.some.inj hzz).symm
          subst ezz;have hjm:(j+1)%L < L:=Nat.mod_lt _ (by omega)
          have hi1:k+j < ts.length:=by omega
          have s1011:c9 H10 (c8 H10 t (.tup [.int (j:Int),.int (ts.getD (k+j) 0)])):=c9.upd_new ht;refine ⟨t,_,rfl,Q3.of c7,rfl,_,_,rfl,_,_,rfl,rfl,?_⟩;generalize (c8 H10 t (.tup [.int (j:Int),.int (ts.getD (k+j) 0)]))=H11 at s1011 ⊢;have h11p:=s1011 pa _ h10p;have h11f:=s1011 fo _ h10f
          have hat1:atI (E2.map V.int) (((j:Int)+1)%((E2.map V.int).length:Int))=some (.int (ts.getD (k+(j+1)%L) 0)):=by
            rw[ct1,segL,show ((j:Int)+1)%(L:Int)=(((j+1)%L:Nat):Int) by rw[Int.natCast_emod];rfl];exact G0 (by rw[ct8,segAt _ hjm];rfl)
          refine ⟨_,rfl,_,rfl,_,_,rfl,rfl,_,rfl,pa,_,rfl,.inl (i4.of h11p),_,_,rfl,rfl,(by rw[ct1,segL];show (0:Int) < (L:Int);omega),pa,_,_,_,rfl,rfl,i4.of h11p,hat1,?_⟩
          have htv:ts.getD (k+j) 0∈ts:=by rw[E3 hi1];exact cz0 hi1
          have t0:=hT.lo _ htv;have t1:=hT.hi _ htv;refine ⟨_,rfl,_,rfl,fo,_,_,(ts.getD (k+j) 0).toNat,rfl,rfl,h11f,?_,?_⟩
          · unfold Z0;rw[ct1,if_pos t0,if_pos (by omega)]
          have es:(fs'.map V.int).set (ts.getD (k+j) 0).toNat (.int (ts.getD (k+(j+1)%L) 0))=(fs'.set (ts.getD (k+j) 0).toNat (ts.getD (k+(j+1)%L) 0)).map V.int:=by rw[List.map_set]
          rw[es];refine ⟨_,_,_,rfl,c7,by rw[g8 hmf];exact s1011 m _ h10m,by rw[g8 npf];exact h11p,by rw[de2];exact hfl',?_,?_,?_,fun b o hb hn=>by rw[g8 (h7 hb hfo0)];exact s1011 b o (kb10 b o hb hn)⟩
          · rw[<-hmap']
            refine cy7 fun u hu=> ?_
            have hut:=cz6 hu
            refine ag0 (hT.lo u hut) t0 fun z=> ?_
            obtain ⟨jj,hjj⟩:=cw5.mp hu
            have hjk:jj < k:=by
              have:=(ct3.mp hjj).1;rw[cu2] at this;omega
            rw[cx5 hjk] at hjj;have:=(ct3.mp hjj).2;exact V3 hT.nd (i:=jj) (j:=k+j) (by omega) hi1 (by omega) (by rw[E3 (show jj < ts.length by omega),this];exact z)
          · intro u hu
            by_cases huj:u=j
            · subst huj;exact am9 (by omega)
            · have huj':u < j:=by omega
              rw[ag0 (hT.lo _ (by rw[E3 (show k+u < ts.length by omega)];exact cz0 _)) t0 (V3 hT.nd (by omega) hi1 (by omega))];exact hu' u huj'
          · obtain ⟨x,y,z,e,z0,z1⟩:=id P10;exact ⟨x,y,z,by rw[g8 naf];exact s1011 a _ e,z0,z1⟩
        · rintro σ H10 ⟨fs',v8',v9',rfl,h10f,h10m,h10p,hfl',hmap',hu',P10,kb10⟩;rw[ct1,segL] at hu';obtain ⟨qs',hq',hmap''⟩:=ba6 L1 hkL hmap' hq hu';refine ⟨_,rfl,_,rfl,pa,_,rfl,.inl (i4.of h10p),_,_,rfl,rfl,ts.length - (k+L),by omega,fs',qs',k+L,some (.ref pa),v8',v9',?_,by omega,h10f,h10m,hfl',hq',hmap'',P10.mono (by omega),kb10,rfl⟩;rw[ct1,segL,show ((k+L:Nat):Int)=(k:Int)+(L:Int) by omega];rfl
      · have hge:¬(k:Int) < n:=fun z=>hge (decide_eq_true z)
        have hkl:k=ts.length:=by omega
        rw[hkl,cw2] at hq hmap;have:=(ap3 hT hfl hmap).trans (hq.trans hts);obtain ⟨hF,hFl⟩:=J2 this;exact ⟨_,rfl,q fo fs H7 hfo0 hF (by omega) h7f (P7.mono (by omega)) kb7⟩
     |cons g rr=>
      refine J7 ?_
      have h3m:(c8 H2 e (.lst [])) m=some (.lst fs):=by rw[g8 nme];exact h2m
      have h3l:(c8 H2 e (.lst [])) l=some (.lst (g::rr)):=by rw[g8 nle];exact h2l
      refine ⟨_,rfl,.inl ⟨rfl,_,i4.of h3m⟩,_,rfl,.inl ⟨rfl,_,i4.of h3l⟩,_,rfl,_,rfl,l,_,rfl,.inl (i4.of h3l),a,c+fs.length,_,rfl,⟨x,y,z,by rw[g8 nae];exact h2a,hz0,hz1⟩,by simp only[cv7] at hlen;omega,by simp only[cv7];omega,by simp only[cv7] at*;omega,?_⟩;intro j H4 j0 j1 ⟨x',y',z',h4a,hz0',hz1'⟩ kb4;have h4l:=kb4 l _ h3l nal.symm;have h4m:=kb4 m _ h3m nam.symm;obtain ⟨jn,rfl⟩:=cy8 j0
      have hjl:jn < (g::rr).length:=by simp only[cv7] at j1 ⊢;omega
      refine ⟨l,_,_,jn,(g::rr)[jn],rfl,rfl,h4l,by omega,by simp only[cv7] at*;omega,?_,ct2 hjl,?_⟩
      · have:Z0 (g::rr).length (jn:Int)=some jn:=by
          unfold Z0;rw[if_pos (by omega),if_pos (by omega)];simp
        exact (aj2 this).1
      have h5m:(c8 H4 l (.lst ((g::rr).eraseIdx jn))) m=some (.lst fs):=by rw[g8 hml];exact h4m
      refine ⟨m,_,_,rfl,rfl,h5m,w6 (by simp only[cv7] at hlen;omega),?_⟩
      have e5:(c8 (c8 H4 l (.lst ((g::rr).eraseIdx jn))) m (.lst (fs++[(g::rr)[jn]]))) l=some (.lst ((g::rr).eraseIdx jn)):=by rw[g8 hml.symm,c7]
      refine ⟨⟨_,_,rfl,e5,c7,?_,⟨x',y',z',by rw[g8 nam,g8 nal];exact h4a,hz0',by rw[ct6];exact hz1'⟩,?_⟩,?_⟩
      · have pe:=ac5 (l:=g::rr) (k:=jn) (ct2 hjl);refine List.Perm.trans ?_ pm;rw[cu6];exact List.Perm.append_left fs pe
      · intro b o hb hn;have b2:=kb b o hb hn
        have b3:(c8 H2 e (.lst [])) b=some o:=by rw[g8 (h7 b2 he)];exact b2
        have b4:=kb4 b o b3 hn;rw[g8 (h7 hb hm0),g8 (h7 hb hl0)];exact b4
      · rw[ad8 e5,ad8 h2l,List.length_eraseIdx_of_lt hjl];simp only[cv7] at*;omega
   · rintro σ H2 Q Q' hq ⟨v,hv,h1,h2⟩;refine ⟨v,hv,h1,fun e he=> ?_⟩;obtain ⟨a1,b1,xs1,ys1,r1,e1,e2,e3,e4,e5,k1,e6,e7⟩:=h2 e he;exact ⟨a1,b1,xs1,ys1,r1,e1,e2,e3,e4,e5,k1,e6,hq _ _ e7⟩
end
end My
namespace My
open PySem L2 Mth
section
variable {P:Program} {w:World} {K:PySem.W.Frag} {mg:Str->Option Value} {base:Heap}
def ak4:Sp:=fun vs H Q _=>∃(a:Addr) (p:List Int),vs=[.ref a]/\E8 H a p/\
 ∀(l:Addr) (as:List Addr) (rs:List (List Int)) (H':Hp),H l=none->c9 H H'->H' l=some (.lst (as.map V.ref))->j7 H' as rs->y8 p p.length rs->(∀b∈as,H b=none)->as.Nodup->l∉as->Q (.ref l) H'
theorem K3 {H:Hp}{as:List Addr}{rs:List (List Int)}{e:Addr}{r:List Int}(h:j7 H as rs)(he:H e=some (.lst (r.map V.int))):j7 H (as++[e]) (rs++[r]):=by
 refine ⟨by rw[ct6,ct6,h.1];rfl,fun j b q h1 h2=> ?_⟩
 by_cases hj:j < as.length
 · rw[cx3 hj] at h1;rw[cx3 (by rw[<-h.1];exact hj)] at h2;exact h.2 j b q h1 h2
 · rw[cx2 (by omega)] at h1;rw[cx2 (by rw[<-h.1];omega),<-h.1] at h2
   have hj0:j - as.length=0:=by
     have:=(ct3.mp h1).1
     simpa using this
   rw[hj0] at h1 h2;cases h1;cases h2;exact he
theorem l8 {H H':Hp}{as:List Addr}{rs:List (List Int)}(h:j7 H as rs)(k:∀b∈as,∀o,H b=some o->H' b=some o):j7 H' as rs:=
 ⟨h.1,fun j a r h1 h2=>k a (cu0 h1) _ (h.2 j a r h1 h2)⟩
theorem Y0 {H:Hp}{as:List Addr}{rs:List (List Int)}(h:j7 H as rs){b:Addr}(hb:b∈as):∃r:List Int,H b=some (.lst (r.map V.int)):=by
 obtain ⟨j,hj⟩:=cw5.mp hb;have hjl:=(ct3.mp hj).1;exact ⟨_,h.2 j b (rs[j]'(by rw[<-h.1];exact hjl)) hj (ct2 _)⟩
theorem bd1 {p:List Int}{i:Nat}{rs:List (List Int)}(tp:A0 p)(h:y8 p i rs):rs.flatten.length<=p.length:=by
 refine G7 h.nd fun x hx=> ?_
 obtain ⟨r,hr,hxr⟩:=cw6.mp hx;obtain ⟨y,L,a,b,rfl,_⟩:=h.ring r hr;exact S5 tp a x hxr
theorem an4 {p:List Int}{i:Nat}{rs:List (List Int)}(h:y8 p i rs):rs.length<=rs.flatten.length:=by
 have:∀l:List (List Int),(∀r∈l,1<=r.length)->l.length<=l.flatten.length:=by
   intro l
   induction l with
   |nil=>intro _;exact ct4 _
   |cons a r ih=>
    intro h;have h1:=h a ct7
    have h2:=ih fun x hx=>h x (ct5 _ hx)
    rw[cz1,ct6,cv7];omega
 refine this rs fun r hr=> ?_
 obtain ⟨y,L,a,b,rfl,_⟩:=h.ring r hr;rw[w9];exact b.pos
end
end My
namespace My
open PySem L2 Mth
section
variable {P:Program} {w:World} {K:PySem.W.Frag} {mg:Str->Option Value} {base:Heap}
def bd2:Sp:=fun vs H Q _=>∃(a:Addr) (p:List Int) (x:Int),vs=[.ref a,.int x]/\E8 H a p/\In p x/\
 ∀(l:Addr) (L:Nat) (H':Hp),H l=none->c9 H H'->L9 p x L->L<=40->H' l=some (.lst ((o4 p x L).map V.int))->Q (.ref l) H'
theorem aq8:o5 ["p","first","ring","thing"] ["p","first"] (j5 aa3):=by rfl'
theorem cf3 {f:Addr}{fd:FuncData}(F:D3 K "walk_ring" "walk_ring" aa3 f fd):m7 P w K mg base E7 1 f fd ["p","first"] bd2:=by
 refine F.ok aq8 (fun vs H Q E h=> ?_) (fun cdv A outer s H vs Q E hr h=> ?_)
 · obtain ⟨a,p,x,rfl,_⟩:=h;rfl
 · obtain ⟨a,p,x,rfl,⟨ha,tp,lp⟩,hx,q⟩:=h
   refine ⟨_,e8 (i8 (i:=2) aq8.nd rfl (Or.inl rfl) (x3 (c5 (pv 1) c6)))
     (e8 (i8 (i:=3) aq8.nd rfl (Or.inl rfl) (G9 B7 (pv 0) (pv 1) (fun _ _=>rfl)))
     (e8 (am4 PassesOwn.never (o3 ax9 (pv 3) (pv 1) (o7 _)) (e8 (C4 (D5 (pv 2) (c5 (pv 3) c6))) (h8 (i8 (i:=3) aq8.nd rfl (Or.inl rfl) (G9 B7 (pv 0) (pv 3) (fun _ _=>rfl))))))
     (h8 (k7 (pv 2))))),?_⟩
   refine ⟨_,rfl,(by show 1<=sizeLine;decide),fun l hl=> ?_⟩;have nal:a≠l:=h7 ha hl
   have hal:(c8 H l (.lst [.int x])) a=some (.lst (p.map V.int)):=by rw[g8 nal];exact ha
   refine ⟨_,rfl,_,rfl,a,_,_,_,rfl,rfl,i4.of hal,aj9 hx.1 hx.2,?_⟩
   refine az1 (fun σ H2=>∃m:Nat,σ=[some (.ref a),some (.int x),some (.ref l),some (.int (it p m x))]/\1<=m/\H2 l=some (.lst ((o4 p x m).map V.int))/\c9 H H2/\∀i,0 < i->i < m->it p i x≠x) (fun _ H2=>p.length+1 - ay3 H2 l)
     ⟨1,rfl,ct4 _,c7,c9.upd_new hl,fun i i0 i1=>by omega⟩ ?_ ?_
   · rintro σ H2 ⟨m,rfl,m1,h2l,s2,hne⟩;have ha2:=s2 a _ ha;refine ⟨_,rfl,_,rfl,rfl,_,rfl,?_⟩
     by_cases hb:it p m x=x
     · refine ay2 (congrArg V.int hb) ?_;exact ⟨_,rfl,q l m H2 hl s2 ⟨by omega,hb,hne⟩ (by have:=N6 tp hx hne;omega) h2l⟩
     · have hb':¬V.int (it p m x)=V.int x:=fun z=>hb (V.int.inj z)
       rw[decide_eq_false hb'];refine J7 ?_
       have hne':∀i,0 < i->i < m+1->it p i x≠x:=fun i i0 i1=>by
         by_cases e:i=m
         · rw[e];exact hb
         · exact hne i i0 (by omega)
       have hbd:=N6 tp hx hne';refine ⟨_,rfl,.inl ⟨rfl,_,i4.of h2l⟩,_,rfl,l,_,_,rfl,rfl,h2l,w6 (by rw[ct1,w9];omega),?_⟩;have hi:=O4 tp hx m;refine ⟨_,rfl,_,rfl,a,_,_,_,rfl,rfl,i4.of (by rw[g8 nal];exact ha2),aj9 hi.1 hi.2,?_⟩
       have h3l:(c8 H2 l (.lst ((o4 p x m).map V.int++[.int (it p m x)]))) l=some (.lst ((o4 p x (m+1)).map V.int)):=by
         rw[c7,bk8,ct9];rfl
       refine ⟨⟨m+1,rfl,by omega,h3l,fun b o hb=>by rw[g8 (h7 hb hl)];exact s2 b o hb,hne'⟩,?_⟩;rw[ad8 h3l,ad8 h2l,ct1,ct1,w9,w9];omega
   · rintro σ H2 Q Q' hq ⟨v,hv,u,hu,e1,k1,e2,e3⟩;exact ⟨v,hv,u,hu,e1,k1,e2,hq _ _ e3⟩
theorem W2:o5 ["p","rings","seen","first","ring","thing"] ["p"] (j5 X6):=by rfl'
theorem by6 {f:Addr}{fd:FuncData}(F:D3 K "walk_rings" "walk_rings" X6 f fd)(B:Bl mg)(cR:r6 P w K mg base "walk_ring" 1 ["p","first"] bd2):m7 P w K mg base E7 2 f fd ["p"] ak4:=by
 refine F.ok W2 (fun vs H Q E h=> ?_) (fun cdv A outer s H vs Q E hr h=> ?_)
 · obtain ⟨a,p,rfl,_⟩:=h;rfl
 · obtain ⟨a,p,rfl,⟨ha,tp,lp⟩,q⟩:=h;have hu:=O3 hr
   refine ⟨_,e8 (i8 (i:=1) W2.nd rfl (Or.inl rfl) (x3 c6)) (e8 (i8 (i:=2) W2.nd rfl (Or.inl rfl) S0)
     (e8 (x8 PassesOwn.never rfl (M1 (by rfl) B.range (c5 (y7 B.len (c5 (pv 0) c6)) c6)) (i9 (i:=3) W2.nd rfl (Or.inl rfl))
       (h8 (C1 (ay7 (bp6 hu (pv 3) (pv 2))) (e8 (i8 (i:=4) W2.nd rfl (Or.inl rfl) (j6 cR hr (c5 (pv 0) (c5 (pv 3) c6)))) (e8 (C4 (D5 (pv 1) (c5 (pv 4) c6)))
         (h8 (x8 PassesOwn.never rfl (C5 (pv 4)) (i9 (i:=5) W2.nd rfl (Or.inl rfl)) (h8 (aj6 hu (pv 2) (pv 5) D8 rfl)))))) x6)))
     (h8 (k7 (pv 1))))),?_⟩
   refine ⟨cv9 _,fun l hl=> ?_⟩;intro d hd
   have hdl:d≠l:=fun z=>by rw[z,c7] at hd;cases hd
   have hd0:H d=none:=by rw[g8 hdl] at hd;exact hd
   have s0:c9 H (c8 (c8 H l (.lst [])) d (.dK [])):=(c9.upd_new hl).upd_r hd0
   have h0l:(c8 (c8 H l (.lst [])) d (.dK [])) l=some (.lst []):=by rw[g8 hdl.symm,c7]
   refine ⟨_,rfl,a,_,rfl,.inl (i4.of (s0 a _ ha)),(p.length:Int),?_,by omega,by omega,?_⟩
   · rw[ct1]
   rw[show ((p.length:Int)).toNat=p.length by omega]
   refine M2 (lo:=0) (n:=p.length) (fun i σ H2=>∃(as:List Addr) (rs:List (List Int)) (v3 v4 v5:Option V),σ=[some (.ref a),some (.ref l),some (.ref d),v3,v4,v5]/\H2 l=some (.lst (as.map V.ref))/\H2 d=some (.dK (K6 rs.flatten))/\j7 H2 as rs/\y8 p i rs/\c9 H H2/\(∀b∈as,H b=none)/\as.Nodup/\l∉as)
     ⟨[],[],none,none,none,rfl,h0l,c7,⟨rfl,fun j b r h=>by simp at h⟩,ap5 p,s0,fun b hb=>by simp at hb,cz8,by simp⟩ ?_ ?_
   · rintro i σ H2 hi ⟨as,rs,v3,v4,v5,rfl,h2l,h2d,rows,up,s2,fa,nda,nla⟩;have hx:In p (i:Int):=⟨by omega,by omega⟩
     have e0:(0:Int)+(i:Int)=(i:Int):=by omega
     rw[e0];refine ⟨_,rfl,_,rfl,d,_,rfl,U6.k (k:=Sum.inl (i:Int)) h2d,_,rfl,?_⟩
     by_cases hm:(i:Int)∈rs.flatten
     · rw[am8 hm];refine C7 ?_;exact ⟨as,rs,_,_,_,rfl,h2l,h2d,rows,ap6 up hm,s2,fa,nda,nla⟩
     · rw[ac3 hm];refine J7 ?_;refine ⟨_,rfl,_,rfl,a,p,_,rfl,⟨s2 a _ ha,tp,lp⟩,hx,fun e L H3 he s23 pr hL h3e=> ?_⟩;have h3l:=s23 l _ h2l;have h3d:=s23 d _ h2d;have nle:l≠e:=h7 h2l he;have nde:d≠e:=h7 h2d he;have fl:=bd1 tp up;have cl:=an4 up;have lenas:=rows.1;refine ⟨_,rfl,.inl ⟨rfl,_,i4.of h3l⟩,_,rfl,l,_,_,rfl,rfl,h3l,w6 (by rw[ct1,lenas];omega),?_⟩
       have es:as.map V.ref++[V.ref e]=(as++[e]).map V.ref:=by rw[ct9];rfl
       rw[es];have h4l:(c8 H3 l (.lst ((as++[e]).map V.ref))) l=some (.lst ((as++[e]).map V.ref)):=c7
       have h4d:(c8 H3 l (.lst ((as++[e]).map V.ref))) d=some (.dK (K6 rs.flatten)):=by rw[g8 hdl];exact h3d
       have h4e:(c8 H3 l (.lst ((as++[e]).map V.ref))) e=some (.lst ((o4 p i L).map V.int)):=by rw[g8 nle.symm];exact h3e
       have k4:∀b o,H2 b=some o->b≠l->(c8 H3 l (.lst ((as++[e]).map V.ref))) b=some o:=fun b o hb hn=>by rw[g8 hn];exact s23 b o hb
       generalize (c8 H3 l (.lst ((as++[e]).map V.ref)))=H4 at h4l h4d h4e k4 ⊢;have fr:=al8 up pr hm
       have ndr:=aa1 tp hx fun j j0 j1=>pr.least j j0 j1
       refine ⟨_,rfl,e,rfl,⟨_,i4.of h4e⟩,G6 (K:=K) (a:=e) (xs:=(o4 p i L).map V.int) (fun j σ H5=>∃v5':Option V,σ=[some (.ref a),some (.ref l),some (.ref d),some (.int (i:Int)),some (.ref e),v5']/\H5 d=some (.dK (K6 (rs.flatten++(o4 p i L).take j)))/\i7 d H4 H5)
         ⟨v5,rfl,by rw[db7,cw0];exact h4d,i7.refl d H4⟩ (fun j σ H5 _ zz=>by obtain ⟨_,_,_,k⟩:=zz;exact i4.of (k e _ h4e nde.symm)) ?_ ?_⟩
       · rintro j y σ H5 hj ⟨v5',rfl,h5d,kb⟩;obtain ⟨z,hz,rfl⟩:=G4 hj;have hjl:j < (o4 p i L).length:=(ct3.mp hz).1;rw[w9] at hjl
         have hzn:z∉rs.flatten++(o4 p i L).take j:=by
           intro hm'
           rcases cu5.mp hm' with g|g
           · exact fr z (cu0 hz) g
           · obtain ⟨jj,hjj⟩:=cw5.mp g
             have hjk:jj < j:=by
               have:=(ct3.mp hjj).1;rw[cu2] at this;omega
             rw[cx5 hjk] at hjj;have e1:=(ct3.mp hjj).2;have e2:=(ct3.mp hz).2;exact cw3.mp (cv8.mp ndr) jj j (by rw[w9];omega) (by rw[w9];omega) hjk (by rw[e1,e2])
         refine ⟨_,rfl,_,rfl,d,_,rfl,af5.k (k:=Sum.inl z) h5d (w6 (by unfold K6;rw[ct1,ct6,cu2,w9];omega)),?_⟩;refine ⟨_,rfl,?_,kb.upd_a⟩;rw[af9 hzn,c7,j9 hz,cu6]
       · rintro σ H5 ⟨v5',rfl,h5d,kb⟩;rw[ct1,cw2] at h5d
         have nad:∀b∈as,b≠d/\b≠l:=fun b hb=>by
           obtain ⟨r,hr'⟩:=Y0 rows hb;exact ⟨bz7 hr' h2d (by intro z;cases z),fun z=>nla (z▸hb)⟩
         refine ⟨as++[e],rs++[o4 p i L],_,_,_,rfl,kb l _ h4l hdl.symm,?_,?_,ap7 tp up hx pr hm,?_,?_,?_,?_⟩
         · rw[h5d,db0,dc9]
         · exact K3 (l8 rows fun b hb o ho=>kb b o (k4 b o ho (nad b hb).2) (nad b hb).1) (kb e _ h4e nde.symm)
         · exact fun b o hb=>kb b o (k4 b o (s2 b o hb) (h7 hb hl)) (h7 hb hd0)
         · intro b hb
           rcases cu5.mp hb with g|g
           · exact fa b g
           · have:b=e:=by simpa using g
             rw[this];exact s2.free he
         · refine aj7 nda fun g=> ?_
           obtain ⟨r,hr'⟩:=Y0 rows g;rw[he] at hr';cases hr'
         · intro g
           rcases cu5.mp g with g|g
           · exact nla g
           · exact nle (by simpa using g)
   · rintro σ H2 ⟨as,rs,v3,v4,v5,rfl,h2l,h2d,rows,up,s2,fa,nda,nla⟩;exact ⟨_,rfl,q l as rs H2 hl s2 h2l rows up fa nda nla⟩
end
end My
namespace My
open PySem L2 Mth
section
variable {P:Program} {w:World} {K:PySem.W.Frag} {mg:Str->Option Value} {base:Heap}
theorem cr0:o5 ["p","q"] ["p","q"] (j5 X7):=by rfl'
theorem cr1:(["thing","p"]:List Str).Nodup:=by decide+kernel
theorem bd3 {f:Addr}{fd:FuncData}(F:D3 K "_law_behind" "_law_behind" X7 f fd):m7 P w K mg base E7 1 f fd ["p","q"] ad7:=by
 refine F.ok cr0 (fun vs H Q E h=> ?_) (fun cdv A outer s H vs Q E hr h=> ?_)
 · obtain ⟨a,b,p,q,rfl,_⟩:=h;rfl
 · obtain ⟨a,b,p,q,rfl,⟨ha,ta,la⟩,⟨hb,tb,lb⟩,hl,k⟩:=h;refine ⟨_,h8 (k7 (aj8 (N:=["thing","p"]) (nl:=1) (fr:=[0]) rfl .of (C5 (pv 1)) (fun _ _ _ _ _=>i9 (i:=0) cr1 rfl (Or.inl rfl)) (fun _ _ _ _ _=>X1) (fun _ _ _ _ _=>G9 (r:=ci1 K) B7 (pv 1) (pv 0) (fun _ _=>rfl)))),?_⟩;refine ⟨_,rfl,b,rfl,⟨_,i4.of hb⟩,Z1 (K:=K) (a:=b) (xs:=q.map V.int) (fun i ys σ H3=>∃v,σ=[v,some (.ref a)]/\H3=H/\ys=(J8 p (q.take i)).map V.int) ⟨none,rfl,rfl,rfl⟩ (fun i ys σ H3 _ zz=>by obtain ⟨_,_,e,_⟩:=zz;rw[e];exact i4.of hb) ?_ ?_⟩
   · rintro i x ys σ H3 hi ⟨v,rfl,rfl,rfl⟩;obtain ⟨z,hz,rfl⟩:=G4 hi;have hzq:=cu0 hz;refine ⟨_,rfl,_,rfl,a,_,z,_,rfl,rfl,i4.of ha,aj9 (tb.lo z hzq) (by have:=tb.hi z hzq;omega),?_,?_⟩
     · refine w6 ?_;unfold J8;rw[ct1,ct1,cu2];omega
     · refine ⟨_,rfl,rfl,?_⟩;rw[j9 hz];unfold J8;rw[ct9,ct9];rfl
   · rintro ys σ H3 ⟨v,rfl,rfl,rfl⟩ D hD;rw[ct1,cw2];exact k D _ hD (c9.upd_new hD) c7
noncomputable def ay4 (p:List Int):List Int:=(cw9 p.length).map fun (i:Nat)=>(N7 p (i:Int):Int)
noncomputable def Z7 (p:List Int)(l:Nat):Nat:=C8 l (((ay4 p).countP fun i=>decide (i=(l:Int)))/l)
end
end My
namespace My
open PySem L2 Mth
section
variable {P:Program} {w:World} {K:PySem.W.Frag} {mg:Str->Option Value} {base:Heap}
def x4 (es:List (Nat×Addr)):List (m9×V):=es.map fun e=>(Sum.inl (e.1:Int),V.ref e.2)
theorem bd4 {es:List (Nat×Addr)}{l:Nat}{v:V}(h:B9 (x4 es) (Sum.inl (l:Int))=some v):∃e∈es,e.1=l/\v= .ref e.2:=by
 unfold B9 at h
 cases hf:(x4 es).find? (fun kv=>decide (kv.1=Sum.inl (l:Int))) with
 |none=>rw[hf] at h;cases h
 |some kv=>
  rw[hf] at h;have hk:=of_decide_eq_true (List.find?_some (p:=fun kv:m9×V=>decide (kv.1=Sum.inl (l:Int))) hf);obtain ⟨e,he,rfl⟩:=cu3.mp (List.mem_of_find?_eq_some hf);have hk':(Sum.inl (e.1:Int):m9)=Sum.inl (l:Int):=hk;have:=Sum.inl.inj hk';exact ⟨e,he,by omega,(Option.some.inj h).symm⟩
theorem bd5 {es:List (Nat×Addr)}{l:Nat}(h:B9 (x4 es) (Sum.inl (l:Int))=none):l∉es.map (·.1):=by
 intro hm;obtain ⟨e,he,rfl⟩:=cu3.mp hm;unfold B9 at h;have h':=Option.map_eq_none_iff.mp h;exact List.find?_eq_none.mp h' (Sum.inl (e.1:Int),V.ref e.2) (cu3.mpr ⟨e,he,rfl⟩) (by simp)
theorem au2 {α β:Type}:∀{es:List (α×β)},(es.map (·.1)).Nodup->∀{e f:α×β},e∈es->f∈es->e.1=f.1->e=f
 |[],_,e,f,h,_,_=>by simp at h
 |x::es,nd,e,f,he,hf,h=>by
  obtain ⟨n1,n2⟩:=cx0.mp nd
  rcases cv5.mp he with z|z
  · rcases cv5.mp hf with y|y
    · rw[z,y]
    · exact absurd (cu3.mpr ⟨f,y,by rw[<-h,z]⟩) n1
  · rcases cv5.mp hf with y|y
    · exact absurd (cu3.mpr ⟨e,z,by rw[h,y]⟩) n1
    · exact au2 n2 z y h
theorem bi8 {α β:Type}:∀{es:List (α×β)},(es.map (·.2)).Nodup->∀{e f:α×β},e∈es->f∈es->e.2=f.2->e=f
 |[],_,e,f,h,_,_=>by simp at h
 |x::es,nd,e,f,he,hf,h=>by
  obtain ⟨n1,n2⟩:=cx0.mp nd
  rcases cv5.mp he with z|z
  · rcases cv5.mp hf with y|y
    · rw[z,y]
    · exact absurd (cu3.mpr ⟨f,y,by rw[<-h,z]⟩) n1
  · rcases cv5.mp hf with y|y
    · exact absurd (cu3.mpr ⟨e,z,by rw[h,y]⟩) n1
    · exact bi8 n2 z y h
theorem bd6 {es:List (Nat×Addr)}(nd:(es.map (·.1)).Nodup){e:Nat×Addr}(he:e∈es):B9 (x4 es) (Sum.inl (e.1:Int))=some (.ref e.2):=by
 cases h:B9 (x4 es) (Sum.inl (e.1:Int)) with
 |none=>exact absurd (cu3.mpr ⟨e,he,rfl⟩) (bd5 h)
 |some v=>
  obtain ⟨f,hf,h1,rfl⟩:=bd4 h;rw[au2 nd hf he h1]
theorem bi9 {rs:List (List Int)}{r:List Int}{l:Nat}(h:r.length=l):C2 (rs++[r]) l=C2 rs l++[r]:=by
 unfold C2;rw[de5,de6 (by simpa using h),dg0]
theorem bj0 {rs:List (List Int)}{r:List Int}{l:Nat}(h:r.length≠l):C2 (rs++[r]) l=C2 rs l:=by
 unfold C2;rw[de5,de7 (by simpa using h),dg0,cw0]
theorem by7 {rs:List (List Int)}{l:Nat}(h:∀r∈rs,r.length≠l):C2 rs l=[]:=by
 unfold C2
 exact List.filter_eq_nil_iff.mpr fun r hr=>by simpa using h r hr
structure bu1 (H0 H:Hp)(d:Addr)(es:List (Nat×Addr))(rs:List (List Int)):Prop where
 nk:(es.map (·.1)).Nodup
 na:(es.map (·.2)).Nodup
 row:∀e∈es,∃cs:List Addr,H e.2=some (.lst (cs.map V.ref))/\j7 H0 cs (C2 rs e.1)
 key:∀k∈es.map (·.1),∃r∈rs,r.length=k
 all:∀r∈rs,r.length∈es.map (·.1)
 nd:∀e∈es,e.2≠d
def ak5:Sp:=fun vs H Q _=>∃(a:Addr) (as:List Addr) (rs:List (List Int)),vs=[.ref a]/\H a=some (.lst (as.map V.ref))/\j7 H as rs/\rs.length<=40/\
 ∀(d:Addr) (es:List (Nat×Addr)) (H':Hp),H d=none->c9 H H'->H' d=some (.dK (x4 es))->bu1 H H' d es rs->es.length<=40->(∀e∈es,H e.2=none)->Q (.ref d) H'
theorem bd7:o5 ["rings","by_length","ring"] ["rings"] (j5 P0):=by rfl'
theorem by8 {f:Addr}{fd:FuncData}(F:D3 K "sort_by_length" "sort_by_length" P0 f fd)(B:Bl mg):m7 P w K mg base E7 1 f fd ["rings"] ak5:=by
 refine F.ok bd7 (fun vs H Q E h=> ?_) (fun cdv A outer s H vs Q E hr h=> ?_)
 · obtain ⟨a,as,rs,rfl,_⟩:=h;rfl
 · obtain ⟨a,as,rs,rfl,ha,rows,lrs,q⟩:=h
   refine ⟨_,e8 (i8 (i:=1) bd7.nd rfl (Or.inl rfl) S0)
     (e8 (x8 PassesOwn.never rfl (C5 (pv 0)) (i9 (i:=2) bd7.nd rfl (Or.inl rfl))
       (h8 (C4 (D5 (br9 (pv 1) (c5 (y7 B.len (c5 (pv 2) c6)) (c5 (x3 c6) c6))) (c5 (pv 2) c6)))))
     (h8 (k7 (pv 1)))),?_⟩
   refine fun d hd=> ?_
   have s1:c9 H (c8 H d (.dK [])):=c9.upd_new hd;have h1d:(c8 H d (.dK [])) d=some (.dK (x4 [])):=c7;generalize (c8 H d (.dK []))=H1 at s1 h1d ⊢
   refine ⟨_,rfl,a,rfl,⟨_,i4.of (s1 a _ ha)⟩,G6 (K:=K) (a:=a) (xs:=as.map V.ref) (fun i σ H2=>∃(es:List (Nat×Addr)) (v2:Option V),σ=[some (.ref a),some (.ref d),v2]/\H2 d=some (.dK (x4 es))/\bu1 H H2 d es (rs.take i)/\es.length<=i/\(∀e∈es,H e.2=none)/\c9 H H2)
     ⟨[],none,rfl,h1d,⟨cz8,cz8,fun e h=>by simp at h,fun k h=>by simp at h,fun r h=>by simp at h,fun e h=>by simp at h⟩,ct4 _,fun e h=>by simp at h,s1⟩ (fun i σ H2 _ zz=>by obtain ⟨_,_,_,_,_,_,_,s⟩:=zz;exact i4.of (s a _ ha)) ?_ ?_⟩
   · rintro i y σ H2 hi ⟨es,v2,rfl,h2d,bl,les,fr,s2⟩;rw[ct8] at hi
     cases hA:as[i]? with
     |none=>rw[hA] at hi;cases hi
     |some b=>
      rw[hA] at hi;cases hi;have hil:i < as.length:=(ct3.mp hA).1;have hri:rs[i]? =some (rs[i]'(by rw[<-rows.1];exact hil)):=ct2 _;generalize (rs[i]'(by rw[<-rows.1];exact hil))=r at hri;have hb0:=rows.2 i b r hA hri;have hb:=s2 b _ hb0
      have hi40:i < 40:=by have:=rows.1;omega
      have et:rs.take (i+1)=rs.take i++[r]:=j9 hri;refine ⟨_,rfl,.inr (.inr (.inl ⟨rfl,.inl ⟨_,h2d⟩⟩)),_,rfl,b,_,rfl,.inl (i4.of hb),cv9 _,fun e he=> ?_⟩;rw[ct1];have nde:d≠e:=h7 h2d he;have s23:c9 H2 (c8 H2 e (.lst [])):=c9.upd_new he;have h3e:(c8 H2 e (.lst [])) e=some (.lst []):=c7
      have kp:∀c,c≠e->(c8 H2 e (.lst [])) c=H2 c:=fun c hc=>g8 hc
      generalize (c8 H2 e (.lst []))=H3 at s23 h3e kp ⊢;refine ⟨d,x4 es,Sum.inl (r.length:Int),.ref e,rfl,rfl,s23 d _ h2d,?_,fun v hv=> ?_,fun hn=> ?_⟩
      · unfold x4;rw[ct1,sizeLine_eq];omega
      · obtain ⟨e0,he0,hl0,rfl⟩:=bd4 hv;obtain ⟨cs,hcs,rcs⟩:=bl.row e0 he0;have h3x:=s23 e0.2 _ hcs
        have lx:(cs.map V.ref).length<=1000:=by
          rw[ct1,rcs.1];have:=df6 (fun r=>decide (r.length=e0.1)) (rs.take i);rw[cu2] at this;unfold C2;omega
        refine ⟨.inl ⟨rfl,_,i4.of h3x⟩,_,rfl,e0.2,_,_,rfl,rfl,h3x,w6 lx,?_⟩;refine ⟨es,_,rfl,by rw[g8 (bl.nd e0 he0).symm];exact s23 d _ h2d,⟨bl.nk,bl.na,fun e1 he1=> ?_,fun k hk=> ?_,fun r' hr'=> ?_,bl.nd⟩,by omega,fr,fun c o hc=>by rw[g8 (h7 hc (fr e0 he0))];exact s23 c o (s2 c o hc)⟩
        · by_cases h12:e1.2=e0.2
          · have:e1=e0:=bi8 bl.na he1 he0 h12;subst this;refine ⟨cs++[b],by rw[c7,ct9];rfl,?_⟩;rw[et,bi9 hl0.symm];exact K3 rcs hb0
          · obtain ⟨ys,hys,rys⟩:=bl.row e1 he1;refine ⟨ys,by rw[g8 h12];exact s23 _ _ hys,?_⟩;rw[et,bj0 (fun z=>h12 (by rw[au2 bl.nk he1 he0 (by omega)]))];exact rys
        · obtain ⟨r',hr',e⟩:=bl.key k hk;exact ⟨r',by rw[et];exact cx6 _ hr',e⟩
        · rw[et] at hr'
          rcases cu5.mp hr' with z|z
          · exact bl.all r' z
          · have:r'=r:=by simpa using z
            rw[this];exact cu3.mpr ⟨e0,he0,hl0⟩
      · have hnk:=bd5 hn
        have ekv:x4 es++[(Sum.inl (r.length:Int),V.ref e)]=x4 (es++[(r.length,e)]):=by unfold x4;rw[ct9];rfl
        rw[ekv]
        have h4e:(c8 H3 d (.dK (x4 (es++[(r.length,e)])))) e=some (.lst []):=by rw[g8 nde.symm];exact h3e
        refine ⟨.inl ⟨rfl,_,i4.of h4e⟩,_,rfl,e,_,_,rfl,rfl,h4e,w6 (cv9 _),?_⟩
        have hne:∀e1∈es,e1.2≠e:=fun e1 he1 z=>by
          obtain ⟨ys,hys,_⟩:=bl.row e1 he1;rw[z,he] at hys;cases hys
        refine ⟨es++[(r.length,e)],_,rfl,by rw[g8 nde,c7],⟨?_,?_,fun e1 he1=> ?_,fun k hk=> ?_,fun r' hr'=> ?_,fun e1 he1=> ?_⟩,by rw[ct6];show es.length+1<=i+1;omega,fun e1 he1=> ?_,fun c o hc=> ?_⟩
        · rw[ct9,cy3];refine ⟨bl.nk,by simp,fun x hx y hy=> ?_⟩
          have:y=r.length:=by simpa using hy
          rw[this]
          exact fun z=>hnk (by rw[<-z];exact hx)
        · rw[ct9,cy3];refine ⟨bl.na,by simp,fun x hx y hy=> ?_⟩
          have:y=e:=by simpa using hy
          rw[this];obtain ⟨e1,he1,rfl⟩:=cu3.mp hx;exact hne e1 he1
        · rcases cu5.mp he1 with z|z
          · obtain ⟨ys,hys,rys⟩:=bl.row e1 z;refine ⟨ys,by rw[g8 (hne e1 z),g8 (bl.nd e1 z),kp _ (hne e1 z)];exact hys,?_⟩;rw[et,bj0 (fun y=>hnk (by rw[y];exact cu3.mpr ⟨e1,z,rfl⟩))];exact rys
          · have:e1=(r.length,e):=by simpa using z
            subst this;refine ⟨[b],c7,?_⟩;show j7 H [b] (C2 (rs.take (i+1)) r.length);rw[et,bi9 rfl,by7 (fun r' hr' y=>hnk (by rw[<-y];exact bl.all r' hr'))];exact K3 (as:=[]) (rs:=[]) ⟨rfl,fun j a r h=>by simp at h⟩ hb0
        · rw[ct9] at hk
          rcases cu5.mp hk with z|z
          · obtain ⟨r',hr',e⟩:=bl.key k z;exact ⟨r',by rw[et];exact cx6 _ hr',e⟩
          · have:k=r.length:=by simpa using z
            exact ⟨r,by rw[et];exact cu7 _ (by simp),this.symm⟩
        · rw[et] at hr';rw[ct9]
          rcases cu5.mp hr' with z|z
          · exact cx6 _ (bl.all r' z)
          · have:r'=r:=by simpa using z
            rw[this];exact cu7 _ (by simp)
        · rcases cu5.mp he1 with z|z
          · exact bl.nd e1 z
          · have:e1=(r.length,e):=by simpa using z
            subst this;exact nde.symm
        · rcases cu5.mp he1 with z|z
          · exact fr e1 z
          · have:e1=(r.length,e):=by simpa using z
            subst this;exact s2.free he
        · have h2c:=s2 c o hc;rw[g8 (h7 h2c he),g8 (h7 hc hd),kp _ (h7 h2c he)];exact h2c
   · rintro σ H2 ⟨es,v2,rfl,h2d,bl,les,fr,s2⟩;rw[ct1,rows.1,cw2] at bl;rw[ct1,rows.1] at les;exact ⟨_,rfl,q d es H2 hd s2 h2d bl (by omega) fr⟩
end
end My
namespace My
open PySem L2 Mth
section
variable {P:Program} {w:World} {K:PySem.W.Frag} {mg:Str->Option Value} {base:Heap}
def ak6:Sp:=fun vs H Q _=>∃(a:Addr) (p:List Int),vs=[.ref a]/\E8 H a p/\∀(H':Hp),c9 H H'->Q (.int ((o8 (Z7 p) ((cw9 p.length).map (· +1)):Nat):Int)) H'
theorem E4:o5 ["p","by_length","many","length","free"] ["p"] (j5 Q7):=by rfl'
theorem an5 {f:Addr}{fd:FuncData}(F:D3 K "how_many_past" "how_many_past" Q7 f fd)(B:Bl mg)(zrz:r6 P w K mg base "must_be_turn" 3 ["thing"] aq7)(zwx:r6 P w K mg base "sort_by_length" 1 ["rings"] ak5)(zu:r6 P w K mg base "walk_rings" 2 ["p"] ak4):m7 P w K mg base E7 4 f fd ["p"] ak6:=by
 refine F.ok E4 (fun vs H Q E h=> ?_) (fun cdv A outer s H vs Q E hr h=> ?_)
 · obtain ⟨a,p,rfl,⟨ha,tp,lp⟩,q⟩:=h;rfl
 · obtain ⟨a,p,rfl,⟨ha,tp,lp⟩,q⟩:=h;have zmx:m8 3 _:=hr.mono (by decide);have zsx:m8 1 _:=hr.mono (by decide);have zq:m8 2 _:=hr.mono (by decide);have hu:=O3 hr;refine ⟨_,@e8 _ _ _ _ _ (@C4 _ _ _ _ (@j6 _ _ _ _ _ _ _ _ _ _ zrz zmx (@c5 _ _ _ _ _ (pv 0) (@c6 _) (by rfl)) (by rfl) (by decide) (by rfl) (by rfl)) (by rfl)) (@e8 _ _ _ _ _ (@i8 _ _ (1) _ _ _ _ E4.nd rfl (Or.inl rfl) (@j6 _ _ _ _ _ _ _ _ _ _ zwx zsx (@c5 _ _ _ _ _ (@j6 _ _ _ _ _ _ _ _ _ _ zu zq (@c5 _ _ _ _ _ (pv 0) (@c6 _) (by rfl)) (by rfl) (by decide) (by rfl) (by rfl)) (@c6 _) (by rfl)) (by rfl) (by decide) (by rfl) (by rfl)) (by rfl) (by trivial)) (@e8 _ _ _ _ _ (@i8 _ _ (2) _ _ _ _ E4.nd rfl (Or.inl rfl) (@i6 _ _ _ _) (by rfl) (by trivial)) (@e8 _ _ _ _ _ (@x8 _ _ _ _ _ _ _ _ PassesOwn.never rfl (@bh6 _ _ _ _ (pv 1)) (@i9 _ _ (3) _ E4.nd rfl (Or.inl rfl) (by trivial)) (@h8 _ _ _ (@x8 _ _ _ _ _ _ _ _ PassesOwn.never rfl (@bo0 _ _ _ _ _ _ _ (by rfl) B.range (@c5 _ _ _ _ _ (@i6 _ _ _ _) (@c5 _ _ _ _ _ (@q9 _ _ _ _ _ _ _ _ J0 (@y7 _ _ _ _ _ B.len (@c5 _ _ _ _ _ (@aj5 _ _ _ _ _ _ hu (pv 1) (pv 3) (fun _ _=>rfl)) (@c6 _) (by rfl)) (by rfl) (by rfl)) (@i6 _ _ _ _)) (@c6 _) (by rfl)) (by rfl)) (by rfl) (by rfl)) (@i9 _ _ (4) _ E4.nd rfl (Or.inl rfl) (by trivial)) (@h8 _ _ _ (@i8 _ _ (2) _ _ _ _ E4.nd rfl (Or.inl rfl) (@q9 _ _ _ _ _ _ _ _ aa8 (@q9 _ _ _ _ _ _ _ _ aa8 (pv 2) (pv 3)) (pv 4)) (by rfl) (by trivial))) (by intro _;rfl))) (by intro _;rfl)) (@h8 _ _ _ (@k7 _ _ _ _ (pv 2)))))),?_⟩;refine ⟨_,rfl,a,p,rfl,⟨ha,tp,lp⟩,fun H1 s1=> ?_⟩;refine ⟨_,rfl,a,p,rfl,⟨s1 a _ ha,tp,lp⟩,fun l as rs H2 hl s12 h2l rows up fa nda nla=> ?_⟩;have cl:=an4 up;have fl:=bd1 tp up;refine ⟨l,as,rs,rfl,h2l,rows,by omega,fun d es H3 hd s23 h3d bl les fre=> ?_⟩;have s03:=(s1.trans s12).trans s23;have hd0:H d=none:=(s1.trans s12).free hd;refine ⟨_,rfl,d,x4 es,rfl,h3d,fun o=> ?_⟩;have s4:c9 H (c8 H3 d (.frz o (.dK (x4 es)))):=s03.upd_r hd0;have h4d:(c8 H3 d (.frz o (.dK (x4 es)))) d=some (.frz o (.dK (x4 es))):=c7
   have kp:∀c,c≠d->(c8 H3 d (.frz o (.dK (x4 es)))) c=H3 c:=fun c hc=>g8 hc
   generalize (c8 H3 d (.frz o (.dK (x4 es))))=H4 at s4 h4d kp ⊢
   have lkv:(x4 es).length=es.length:=by unfold x4;rw[ct1]
   refine bb4 (fun i σ H5=>∃(v3 v4:Option V),σ=[some (.ref a),some (.ref d),some (.int ((o8 (fun l=>C8 l (C9 rs l)) ((es.take i).map (·.1)):Nat):Int)),v3,v4]/\H5=H4)
     ⟨none,none,rfl,rfl⟩ (fun i σ H5 _ zz=>by obtain ⟨_,_,_,e⟩:=zz;rw[e];exact h4d) ?_ ?_
   · rintro i k v σ H5 hi ⟨v3,v4,rfl,rfl⟩;unfold x4 at hi;rw[ct8] at hi
     cases hE:es[i]? with
     |none=>rw[hE] at hi;cases hi
     |some e=>
      rw[hE] at hi;cases hi;have he:=cu0 hE;obtain ⟨cs,hcs,rcs⟩:=bl.row e he
      obtain ⟨xs,hxs,lxs⟩:∃xs:List V,H3 e.2=some (.lst xs)/\xs.length=C9 rs e.1:=⟨_,hcs,by
        rw[ct1,rcs.1];unfold C2 C9
        exact (dg2 ..).symm⟩
      have h5x:H5 e.2=some (.lst xs):=by rw[kp _ (bl.nd e he)];exact hxs
      obtain ⟨r,hr',lr⟩:=bl.key e.1 (cu3.mpr ⟨e,he,rfl⟩)
      have le40:e.1<=40:=by
        obtain ⟨y,L,hy,pr,er,_⟩:=up.ring r hr'
        have b:=N6 tp hy (m:=L) fun i i0 i1=>pr.least i i0 i1
        rw[er,w9] at lr;omega
      have lx40:xs.length<=40:=by
        have:C9 rs e.1<=rs.length:=List.countP_le_length;omega
      obtain ⟨F0,hF0⟩:∃F0,F0=o8 (fun l=>C8 l (C9 rs l)) ((es.take i).map (·.1)):=⟨_,rfl⟩;rw[<-hF0];refine ⟨_,rfl,_,rfl,d,.ref e.2,rfl,.inl ⟨x4 es,Sum.inl (e.1:Int),.inr ⟨o,h4d⟩,rfl,(bd6 bl.nk he).symm⟩,e.2,xs,rfl,.inl (i4.of h5x),_,_,rfl,rfl,_,_,rfl,⟨by decide,by decide,by omega,by omega⟩,?_⟩
      refine M2 (lo:=1) (n:=(((xs.length:Nat):Int)+1 - 1).toNat) (fun j σ H6=>∃(v4':Option V),σ=[some (.ref a),some (.ref d),some (.int ((F0*C8 e.1 j:Nat):Int)),some (.int (e.1:Int)),v4']/\H6=H5)
        ⟨v4,by rw[show C8 e.1 0=1 from rfl,Nat.mul_one];rfl,rfl⟩ ?_ ?_
      · rintro j σ H6 hj ⟨v4',rfl,rfl⟩;refine ⟨_,rfl,_,rfl,_,_,rfl,rfl,.inr ⟨by omega,by omega⟩,_,rfl,_,_,rfl,rfl,.inr ⟨by omega,by omega⟩,?_⟩;refine ⟨some (.int ((1:Int)+(j:Int))),?_,rfl⟩
        have ee:((F0*C8 e.1 j:Nat):Int)*((e.1:Nat):Int)*((1:Int)+(j:Int))=((F0*C8 e.1 (j+1):Nat):Int):=by
          show _=((F0*(C8 e.1 j*e.1*(j+1)):Nat):Int);rw[show (1:Int)+(j:Int)=((j+1:Nat):Int) by omega,<-Int.natCast_mul,<-Int.natCast_mul,dd1,dd1,dd1]
        rw[<-ee]
        first|done|rfl
      · rintro σ H6 ⟨v4',rfl,rfl⟩;refine ⟨some (.int (e.1:Int)),v4',?_,rfl⟩;rw[j9 hE,ct9,show ([e].map (·.1):List Nat)=[e.1] from rfl,ap8,<-hF0,show (((xs.length:Nat):Int)+1 - 1).toNat=xs.length by omega,lxs]
   · rintro σ H5 ⟨v3,v4,rfl,rfl⟩;rw[lkv,cw2]
     have hg:∀l,Z7 p (l+1)=C8 (l+1) (C9 rs (l+1)):=fun l=>by
       unfold Z7 ay4;rw[ag5 tp up (l+1),de8 _ (by omega)]
     rw[ag6 tp up bl.nk bl.key bl.all hg];exact ⟨_,rfl,q _ s4⟩
end
end My
namespace My
open PySem L2 Mth
section
variable {P:Program} {w:World} {K:PySem.W.Frag} {mg:Str->Option Value} {base:Heap} {zyy zyz zxx zzy zzx zyx zzz zx zxz zxy zwz:Addr}
def bl5 (K:PySem.W.Frag)(H:Hp)(x:V):Prop:=∃t b1 b2,K5 K H x t/\PySem.W.kitOne K t (.type "int")=some b1/\PySem.W.kitOne K t (.type "bool")=some b2/\(b1&& !b2)=false
def bj1 (K:PySem.W.Frag)(H:Hp)(v:V):Prop:=(∃t,K5 K H v t/\PySem.W.kitOne K t (.type "list")=some false)\/
 ∃(a:Addr) (xs:List V),v= .ref a/\H a=some (.lst xs)/\(∀x∈xs,(∃i:Int,x= .int i)\/bl5 K H x)/\∀p:List Int,xs=p.map V.int->p.length<=40->¬A0 p
theorem bu2 {K:PySem.W.Frag}{H H':Hp}{v:V}{t:Value}(h:K5 K H v t)(s:c9 H H'):K5 K H' v t:=by
 cases h with
 |non=>exact .non
 |bl x=>exact .bl x
 |int i=>exact .int i
 |str x=>exact .str x
 |flt x=>exact .flt x
 |lst e=>exact .lst (s _ _ e)
 |frz e=>exact .frz (s _ _ e)
 |tup e=>exact .tup (s _ _ e)
 |dK e=>exact .dK (s _ _ e)
 |dT e=>exact .dT (s _ _ e)
 |ins e a b c d f=>exact .ins (s _ _ e) a b c d f
theorem bl5.keep {K:PySem.W.Frag}{H H':Hp}{x:V}(h:bl5 K H x)(s:c9 H H'):bl5 K H' x:=by
 obtain ⟨t,b1,b2,ty,r⟩:=h;exact ⟨t,b1,b2,bu2 ty s,r⟩
def ab5 (K:PySem.W.Frag):Sp:=fun vs H Q _=>∃v,vs=[v]/\bj1 K H v/\∀H',c9 H H'->Q (.bl false) H'
theorem ad9:o5 ["thing","seen","place"] ["thing"] (j5 U0):=by rfl'
theorem bl6 {f:Addr}{fd:FuncData}(F:D3 K "is_turn" "is_turn" U0 f fd)(B:Bl mg)(zly:∃t,mg "MOST_THINGS"=some (.int 40 t))(zqz:r6 P w K mg base "is_whole" 1 ["thing"] (ak3 K)):m7 P w K mg base E7 2 f fd ["thing"] (ab5 K):=by
 refine F.ok ad9 (fun vs H Q E h=> ?_) (fun cdv A outer s H vs Q E hr h=> ?_)
 · obtain ⟨v,rfl,no,k⟩:=h;rfl
 · obtain ⟨v,rfl,no,k⟩:=h;obtain ⟨_,zlx⟩:=zly;have zky:m8 1 _:=hr.mono (by decide);have hu:=O3 hr;refine ⟨_,@e8 _ _ _ _ _ (@C1 _ _ _ _ _ _ _ _ (@K4 _ _ _ _ _ _ _ (@L5 _ _ _ _ (@J5 _ _ _ (@ab0 _ _ _ _ _ _ B.isi (@c5 _ _ _ _ _ (pv 0) (@c5 _ _ _ _ _ (@Z2 _ _ B.list (by rfl)) (@c6 _) (by rfl)) (by rfl)) (by rfl) (by rfl) (by rfl)) (by intro _;rfl))) (@Q2 _ _ _ _ (@o3 _ _ _ _ _ _ _ _ ai9 (@y7 _ _ _ _ _ B.len (@c5 _ _ _ _ _ (pv 0) (@c6 _) (by rfl)) (by rfl) (by rfl)) (@E9 _ _ (.int 40) _ _ (by rfl) zlx ⟨_,rfl⟩ (by decide)) (o7 _)))).pt (@h8 _ _ _ (@k7 _ _ _ _ (@D8 _ _ _ _))) (@x6 _)) (@e8 _ _ _ _ _ (@i8 _ _ (1) _ _ _ _ ad9.nd rfl (Or.inl rfl) (@S0 _ _) (by rfl) (by trivial)) (@e8 _ _ _ _ _ (@x8 _ _ _ _ _ _ _ _ PassesOwn.never rfl (@C5 _ _ _ _ (pv 0)) (@i9 _ _ (2) _ ad9.nd rfl (Or.inl rfl) (by trivial)) (@e8 _ _ _ _ _ (@C1 _ _ _ _ _ _ _ _ (@K4 _ _ _ _ _ _ _ (@L5 _ _ _ _ (@J5 _ _ _ (@j6 _ _ _ _ _ _ _ _ _ _ zqz zky (@c5 _ _ _ _ _ (pv 2) (@c6 _) (by rfl)) (by rfl) (by decide) (by rfl) (by rfl)) (by intro _;rfl))) (@K4 _ _ _ _ _ _ _ (@o3 _ _ _ _ _ _ _ _ ay0 (pv 2) (@i6 _ _ _ _) (o7 _)) (@K4 _ _ _ _ _ _ _ (@o3 _ _ _ _ _ _ _ _ bk1 (pv 2) (@y7 _ _ _ _ _ B.len (@c5 _ _ _ _ _ (pv 0) (@c6 _) (by rfl)) (by rfl) (by rfl)) (o7 _)) (@Q2 _ _ _ _ (@ay7 _ _ _ _ _ _ (@bp5 _ _ _ _ _ hu (pv 2) (pv 1)) (by first|exact nobehind _ (by decide) (by decide)|rfl)))))).pt (@h8 _ _ _ (@k7 _ _ _ _ (@D8 _ _ _ _))) (@x6 _)) (@h8 _ _ _ (@aj6 _ _ _ _ _ _ _ _ _ hu (pv 1) (pv 2) (@D8 _ _ _ _) rfl))) (by intro _;rfl)) (@h8 _ _ _ (@k7 _ _ _ _ (@D8 _ _ _ _))))),?_⟩
   rcases no with ⟨t,ty,kt⟩|⟨a,xs,rfl,ha,el,no⟩
   · refine ⟨_,rfl,v,"list",t,false,rfl,ty,kt,false,rfl,?_⟩;exact J7 (k H (c9.refl H))
   · refine ⟨_,rfl,_,"list",_,true,rfl,.lst ha,S4 K "list",true,rfl,?_⟩;refine C7 ⟨_,rfl,a,_,rfl,.inl (i4.of ha),_,_,rfl,rfl,_,rfl,?_⟩;refine S1 (fun h40=>k H (c9.refl H)) (fun h40=> ?_)
     have h40:¬(40:Int) < (xs.length:Int):=fun z=>h40 (decide_eq_true z)
     intro d hd;have nad:a≠d:=h7 ha hd
     have ha1:(c8 H d (.dK [])) a=some (.lst xs):=by rw[g8 nad];exact ha
     refine ⟨_,rfl,a,rfl,⟨_,i4.of ha1⟩,G6 (K:=K) (a:=a) (xs:=xs) (fun i σ H2=>∃(v:Option V) (p:List Int),σ=[some (.ref a),some (.ref d),v]/\c9 H H2/\xs.take i=p.map V.int/\H2 d=some (.dK (K6 p))/\p.Nodup/\∀x∈p,0<=x/\x < xs.length)
       ⟨none,[],rfl,c9.upd_new hd,rfl,c7,cz8,fun x hx=>by simp at hx⟩ (fun i σ H2 _ zz=>by obtain ⟨_,_,_,s2,_⟩:=zz;exact i4.of (s2 a _ ha)) ?_ ?_⟩
     · rintro i y σ H2 hi ⟨v,p,rfl,s2,hp,h2,nd,bd⟩;have ha2:=s2 a _ ha;have hil:i < xs.length:=(ct3.mp hi).1
       rcases el y (cu0 hi) with ⟨z,rfl⟩|odd
       · refine ⟨_,rfl,.int z,_,true,false,rfl,.int z,S4 K "int",af8 K,_,rfl,?_⟩;refine C7 ⟨_,rfl,_,_,rfl,rfl,_,rfl,?_⟩;refine S1 (fun hz0=>J7 (k H2 s2)) (fun hz0=> ?_)
         have hz0:¬z < 0:=fun q=>hz0 (decide_eq_true q)
         refine ⟨_,rfl,_,rfl,a,_,rfl,.inl (i4.of ha2),_,_,rfl,rfl,_,rfl,?_⟩;refine S1 (fun hz1=>J7 (k H2 s2)) (fun hz1=> ?_)
         have hz1:¬(xs.length:Int)<=z:=fun q=>hz1 (decide_eq_true q)
         refine ⟨_,rfl,_,rfl,d,_,rfl,U6.k (k:=Sum.inl z) h2,_,rfl,?_⟩
         have lp:p.length<=i:=by
           have:=congrArg dh0 hp;rw[cu2,ct1] at this;omega
         by_cases hm:z∈p
         · rw[am8 hm];exact J7 (k H2 s2)
         · rw[ac3 hm];refine C7 ⟨_,rfl,_,rfl,d,_,rfl,af5.k (k:=Sum.inl z) h2 (w6 (by unfold K6;rw[ct1];omega)),?_⟩;refine ⟨some (.int z),p++[z],rfl,fun b o e=>by rw[g8 (h7 e hd)];exact s2 b o e,?_,?_,?_,?_⟩
           · rw[j9 hi,hp,ct9];rfl
           · rw[af9 hm,c7]
           · exact aj7 nd hm
           · intro x hx
             rcases cu5.mp hx with q|q
             · exact bd x q
             · have:x=z:=by simpa using q
               omega
       · obtain ⟨t,b1,b2,ty,e1,e2,e3⟩:=odd.keep s2;refine ⟨_,rfl,y,t,b1,b2,rfl,ty,e1,e2,_,rfl,?_⟩;rw[e3];exact J7 (k H2 s2)
     · rintro σ H2 ⟨v,p,rfl,s2,hp,h2,nd,bd⟩;rw[cw2] at hp
       have lp:xs.length=p.length:=by rw[hp,ct1]
       exact absurd (show A0 p from ⟨nd,fun x hx=>(bd x hx).1,fun x hx=>by have:=(bd x hx).2;omega⟩) (no p hp (by omega))
def bj2 (K:PySem.W.Frag)(q:Addr):Sp:=fun vs H _ E=>∃v,vs=[v]/\bj1 K H v/\∀H',c9 H H'->E (.ref q) none H'
theorem aq9:o5 ["thing"] ["thing"] (j5 K1):=bu0
theorem an6 {f:Addr}{fd:FuncData}(F:D3 K "must_be_turn" "must_be_turn" K1 f fd)(zvz:r6 P w K mg base "is_turn" 2 ["thing"] (as8 T1 (ab5 K)))(zmz:Z4 K mg "NoTurn" zyz):m7 P w K mg base (Z3 P w) 3 f fd ["thing"] (bj2 K zyz):=by
 refine F.okx aq9 (fun vs H Q E h=> ?_) (fun cdv A outer s H vs Q E hr h=> ?_)
 · obtain ⟨v,rfl,no,k⟩:=h;rfl
 · obtain ⟨v,rfl,no,k⟩:=h;have zr:m8 2 _:=hr.mono (by decide);refine ⟨_,@h8 _ _ _ (@C1 _ _ _ _ _ _ _ _ (@L5 _ _ _ _ (@J5 _ _ _ (@j6 _ _ _ _ _ _ _ _ _ _ zvz zr (@c5 _ _ _ _ _ (pv 0) (@c6 _) (by rfl)) (by rfl) (by decide) (by rfl) (by rfl)) (by intro _;rfl))) (@h8 _ _ _ (@bb9 _ _ _ _ _ _ _ _ _ aw1 rfl zmz (@ae7 _ _ _ _) (by rfl) (by rfl) (by decide))) (@x6 _)),?_⟩;refine ⟨_,rfl,.inr ⟨v,rfl,no,fun H' s=>⟨false,rfl,?_⟩⟩⟩;exact J7 (k H' s)
end
end My
namespace My
open PySem L2 Mth
section
variable {P:Program} {w:World} {K:PySem.W.Frag} {mg:Str->Option Value} {base:Heap} {zyy zyz zxx zzy zzx zyx zzz zx zxz zxy zwz:Addr}
theorem cr2 (xs:List V)(k:Nat)(h:k<=xs.length):M4 xs none (some (k:Int))=xs.take k:=by
 unfold M4;rw[HT.cr6,HT.cq2,dg3,Nat.sub_zero,dd0 h]
theorem cr3 (xs:List V)(k:Nat)(h:k<=xs.length):M4 xs (some (k:Int)) none=xs.drop k:=by
 unfold M4;rw[HT.cr6,HT.cq2,dd0 h,cz2 (by rw[cw1];omega)]
def K8 (n:Nat)(p:List Int)(k:Nat):List Int:=p.take k++[(n:Int)]++p.drop k
def aa5 (n:Nat)(p:List Int):List (List Int):=(cw9 (p.length+1)).map (K8 n p)
def Q8:Nat->List (List Int)
 |0=>[[]]
 |n+1=>(Q8 n).flatMap (aa5 n)
theorem ah4 (i:Nat):∀ps:List (List Int),(∀q∈ps,q.length=i)->(ps.flatMap (aa5 i)).length=ps.length*(i+1)
 |[],_=>by rw[di3,Nat.zero_mul];rfl
 |q::ps,h=>by
  rw[cz7,ct6,ah4 i ps fun q hq=>h q (ct5 _ hq),cv7];unfold aa5;rw[ct1,cx9,h q ct7,Nat.add_mul];omega
theorem ah5 (n:Nat):L2.D6 0 (n+1)=L2.D6 0 n++[(n:Int)]:=by
 unfold L2.D6;rw[de3,ct9];show _++[(0:Int)+(n:Int)]=_;rw[Int.zero_add]
theorem ar0 (n:Nat)(p:List Int)(k:Nat):(K8 n p k).Perm (p++[(n:Int)]):=by
 unfold K8
 have h1:(p.take k++[(n:Int)]++p.drop k).Perm (p.take k++p.drop k++[(n:Int)]):=by
   rw[cu6,cu6];exact List.Perm.append_left _ cy5
 rw[cx4] at h1;exact h1
theorem M9:∀(n:Nat) (r:List Int),r∈Q8 n↔A0 r/\r.length=n
 |0,r=>by
  constructor
  · intro h
    have:r=[]:=by simpa [Q8] using h
    subst this;exact ⟨⟨cz8,(fun x hx=>by cases hx),(fun x hx=>by cases hx)⟩,rfl⟩
  · rintro ⟨_,h⟩;rw[da9 h];simp [Q8]
 |n+1,r=>by
  constructor
  · intro h;obtain ⟨q,hq,hr⟩:=db4.mp h;obtain ⟨tq,lq⟩:=(M9 n q).mp hq;obtain ⟨k,_,rfl⟩:=cu3.mp hr
    have pm:(K8 n q k).Perm (L2.D6 0 (n+1)):=by
      rw[ah5];refine (ar0 n q k).trans (List.Perm.append_right _ ?_);rw[<-lq];exact tq.perm
    exact J2 pm
  · rintro ⟨tr,lr⟩;have pm:=tr.perm;rw[lr] at pm;have mn:(n:Int)∈r:=pm.mem_iff.mpr (by rw[ah5];simp);obtain ⟨k,hk⟩:=cw5.mp mn;have kl:=(ct3.mp hk).1;have ek:r[k]=(n:Int):=(ct3.mp hk).2
    have er:r=r.take k++(n:Int)::r.drop (k+1):=by rw[<-ek,List.getElem_cons_drop,cx4]
    obtain ⟨q,eq⟩:∃q,q=r.take k++r.drop (k+1):=⟨_,rfl⟩
    have ltk:(r.take k).length=k:=by rw[cu2];omega
    have e1:q.take k=r.take k:=by rw[eq,List.take_append_of_le_length (by omega),cz2 (by omega)]
    have e2:q.drop k=r.drop (k+1):=by rw[eq,df9 (by omega),List.drop_of_length_le (by omega),List.nil_append]
    have ep:K8 n q k=r:=by
      unfold K8;rw[e1,e2,cu6];exact er.symm
    have pq:(q++[(n:Int)]).Perm (L2.D6 0 n++[(n:Int)]):=by
      rw[<-ah5];refine ((ar0 n q k).symm.trans ?_);rw[ep];exact pm
    obtain ⟨tq,lq⟩:=J2 ((List.perm_append_right_iff _).mp pq);refine db4.mpr ⟨q,(M9 n q).mpr ⟨tq,lq⟩,cu3.mpr ⟨k,cy9.mpr (by omega),ep⟩⟩
theorem an7:∀i,i<=5->(Q8 i).length<=120:=by decide+kernel
theorem aw6 {n:Nat}(hn:n<=6):(Q8 n).length<=720:=by
 by_cases z:n<=5
 · have:=an7 n z;omega
 · have:n=5+1:=by omega
   rw[this];show ((Q8 5).flatMap (aa5 5)).length<=720;rw[ah4 5 _ fun q hq=>((M9 5 q).mp hq).2];have:=an7 5 (by decide);omega
def bl7:Sp:=fun vs H Q _=>∃(F:Addr) (i:Nat) (as:List Addr) (ps:List (List Int)),vs=[.ref F,.int (i:Int)]/\H F=some (.lst (as.map V.ref))/\j7 H as ps/\(∀q∈ps,q.length=i)/\i<=5/\ps.length<=120/\
 ∀(L:Addr) (bs:List Addr) (H':Hp),H L=none->c9 H H'->H' L=some (.lst (bs.map V.ref))->j7 H' bs (ps.flatMap (aa5 i))->Q (.ref L) H'
theorem V5:o5 ["rows","thing","found","row","at"] ["rows","thing"] (j5 ah1):=by rfl'
theorem bl8 {f:Addr}{fd:FuncData}(F:D3 K "_law_put" "_law_put" ah1 f fd)(B:Bl mg):m7 P w K mg base E7 1 f fd ["rows","thing"] bl7:=by
 refine F.ok V5 (fun vs H Q E h=> ?_) (fun cdv A outer s H vs Q E hr h=> ?_)
 · obtain ⟨F,i,as,ps,rfl,h3F,rows,hps,hi,lenA,q⟩:=h;rfl
 · obtain ⟨F,i,as,ps,rfl,h3F,rows,hps,hi,lenA,q⟩:=h;refine ⟨_,@e8 _ _ _ _ _ (@i8 _ _ (2) _ _ _ _ V5.nd rfl (Or.inl rfl) (@x3 _ _ _ _ (@c6 _)) (by rfl) (by trivial)) (@e8 _ _ _ _ _ (@x8 _ _ _ _ _ _ _ _ PassesOwn.never rfl (@C5 _ _ _ _ (pv 0)) (@i9 _ _ (3) _ V5.nd rfl (Or.inl rfl) (by trivial)) (@h8 _ _ _ (@x8 _ _ _ _ _ _ _ _ PassesOwn.never rfl (@M1 _ _ _ _ _ _ (by rfl) B.range (@c5 _ _ _ _ _ (@q9 _ _ _ _ _ _ _ _ J0 (@y7 _ _ _ _ _ B.len (@c5 _ _ _ _ _ (pv 3) (@c6 _) (by rfl)) (by rfl) (by rfl)) (@i6 _ _ _ _)) (@c6 _) (by rfl)) (by rfl)) (@i9 _ _ (4) _ V5.nd rfl (Or.inl rfl) (by trivial)) (@h8 _ _ _ (@C4 _ _ _ _ (@D5 _ _ _ _ _ _ _ (pv 2) (@c5 _ _ _ _ _ (@q9 _ _ _ _ _ _ _ _ T8 (@q9 _ _ _ _ _ _ _ _ T8 (@M3 _ _ _ _ _ _ _ _ _ _ P1 (pv 3) (@R8 _) (@N4 _ _ _ (pv 4))) (@x3 _ _ _ _ (@c5 _ _ _ _ _ (pv 1) (@c6 _) (by rfl)))) (@M3 _ _ _ _ _ _ _ _ _ _ P1 (pv 3) (@N4 _ _ _ (pv 4)) (@R8 _))) (@c6 _) (by rfl)) (by rfl) (by rfl) (by rfl) (by rfl) (by rfl)) (by rfl))) (by intro _;rfl))) (by intro _;rfl)) (@h8 _ _ _ (@k7 _ _ _ _ (pv 2)))),?_⟩;refine ⟨cv9 _,fun L hL=> ?_⟩;obtain ⟨H3,eH⟩:∃H3,H3=H:=⟨_,rfl⟩;rw[<-eH] at hL h3F rows q ⊢;have nFL:F≠L:=h7 h3F hL;have kb1:i7 L H3 (c8 H3 L (.lst [])):=i7.upd;have h4L:(c8 H3 L (.lst [])) L=some (.lst (([]:List Addr).map V.ref)):=c7;generalize (c8 H3 L (.lst []))=H4 at kb1 h4L ⊢;have h4F:=kb1 _ _ h3F nFL
   have nLas:L∉as:=fun z=>by
     obtain ⟨r,hr'⟩:=Y0 rows z;rw[hL] at hr';cases hr'
   refine ⟨_,rfl,F,rfl,⟨_,i4.of h4F⟩,G6 (K:=K) (a:=F) (xs:=as.map V.ref) (fun j σ H5=>∃(bs:List Addr) (v4 v5:Option V),σ=[some (.ref F),some (.int (i:Int)),some (.ref L),v4,v5]/\H5 L=some (.lst (bs.map V.ref))/\j7 H5 bs ((ps.take j).flatMap (aa5 i))/\i7 L H3 H5/\L∉bs)
     ⟨[],none,none,rfl,h4L,⟨rfl,fun j b r h=>by cases h⟩,kb1,fun z=>by cases z⟩ (fun j σ H5 _ zz=>by obtain ⟨_,_,_,_,_,_,k,_⟩:=zz;exact i4.of (k _ _ h3F nFL)) ?_ ?_⟩
   · rintro j x σ H5 hj ⟨bs,v4,v5,rfl,h5L,rowsB,kb5,nLb⟩
     obtain ⟨a,ha,rfl⟩:∃a,as[j]? =some a/\x=V.ref a:=by
       rw[ct8] at hj
       cases e:as[j]? with
       |none=>rw[e] at hj;cases hj
       |some a=>rw[e] at hj;exact ⟨a,rfl,(Option.some.inj hj).symm⟩
     have jl:j < ps.length:=by rw[<-rows.1];exact (ct3.mp ha).1
     obtain ⟨p,hp⟩:∃p,ps[j]? =some p:=⟨_,ct2 jl⟩;have lp:p.length=i:=hps p (cu0 hp);have h3a:=rows.2 j a p ha hp
     have naL:a≠L:=fun z=>nLas (z▸cu0 ha)
     have h5a:=kb5 _ _ h3a naL
     have etk:ps.take (j+1)=ps.take j++[p]:=by rw[di6,hp];rfl
     refine ⟨_,rfl,a,_,rfl,.inl (i4.of h5a),_,_,rfl,rfl,((p.map V.int).length:Int)+1,rfl,by rw[ct1];omega,by rw[ct1];omega,?_⟩;rw[ct1,show ((p.length:Int)+1).toNat=p.length+1 by omega]
     have cntj:((ps.take j).flatMap (aa5 i)).length=j*(i+1):=by
       rw[ah4 i _ fun q hq=>hps q (cz6 hq),cu2]
       congr 1
       omega
     refine M2 (lo:=0) (n:=p.length+1) (fun k σ H6=>∃(bs:List Addr) (v5:Option V),σ=[some (.ref F),some (.int (i:Int)),some (.ref L),some (.ref a),v5]/\H6 L=some (.lst (bs.map V.ref))/\j7 H6 bs ((ps.take j).flatMap (aa5 i)++(cw9 k).map (K8 i p))/\i7 L H3 H6/\L∉bs)
       ⟨bs,v5,rfl,h5L,by rw[List.range_zero,dc2,cw0];exact rowsB,kb5,nLb⟩ ?_ ?_
     · rintro k σ H6 hk ⟨bs,v5,rfl,h6L,rowsC,kb6,nLc⟩
       have e0:(0:Int)+(k:Int)=(k:Int):=by omega
       rw[e0];have h6a:=kb6 _ _ h3a naL
       have kl:k<=p.length:=by omega
       refine ⟨_,rfl,.inl ⟨rfl,_,i4.of h6L⟩,_,rfl,_,rfl,_,rfl,a,_,rfl,i4.of h6a,fun sl hsl=> ?_⟩;rw[cr2 (p.map V.int) k (by rw[ct1];exact kl),<-dd9];have s7:c9 H6 (c8 H6 sl (.lst ((p.take k).map V.int))):=c9.upd_new hsl;have h7s:(c8 H6 sl (.lst ((p.take k).map V.int))) sl=some (.lst ((p.take k).map V.int)):=c7;generalize (c8 H6 sl (.lst ((p.take k).map V.int)))=H7 at s7 h7s ⊢;refine ⟨_,rfl,(show 1<=sizeLine by decide),fun o ho=> ?_⟩;have s8:c9 H7 (c8 H7 o (.lst [V.int (i:Int)])):=c9.upd_new ho;have h8o:(c8 H7 o (.lst [V.int (i:Int)])) o=some (.lst [V.int (i:Int)]):=c7;generalize (c8 H7 o (.lst [V.int (i:Int)]))=H8 at s8 h8o ⊢;refine ⟨sl,o,_,_,rfl,rfl,s8 _ _ h7s,h8o,cz3 (w6 (by simp only[ct6,ct1,cu2,dd3];omega)),fun c hc=> ?_⟩
       have ec:(p.take k).map V.int++[V.int (i:Int)]=(p.take k++[(i:Int)]).map V.int:=by rw[ct9];rfl
       rw[ec];have s9:c9 H8 (c8 H8 c (.lst ((p.take k++[(i:Int)]).map V.int))):=c9.upd_new hc;have h9c:(c8 H8 c (.lst ((p.take k++[(i:Int)]).map V.int))) c=some (.lst ((p.take k++[(i:Int)]).map V.int)):=c7;generalize (c8 H8 c (.lst ((p.take k++[(i:Int)]).map V.int)))=H9 at s9 h9c ⊢;have s69:=(s7.trans s8).trans s9;refine ⟨_,rfl,_,rfl,_,rfl,a,_,rfl,i4.of (s69 _ _ h6a),fun d hd=> ?_⟩;rw[cr3 (p.map V.int) k (by rw[ct1];exact kl),<-dh5];have s10:c9 H9 (c8 H9 d (.lst ((p.drop k).map V.int))):=c9.upd_new hd;have h10d:(c8 H9 d (.lst ((p.drop k).map V.int))) d=some (.lst ((p.drop k).map V.int)):=c7;generalize (c8 H9 d (.lst ((p.drop k).map V.int)))=H10 at s10 h10d ⊢;refine ⟨c,d,_,_,rfl,rfl,s10 _ _ h9c,h10d,cz3 (w6 (by simp only[ct6,ct1,cu2,cw1,dd3];omega)),fun e he=> ?_⟩;rw[<-ct9];have s610:=s69.trans s10;have nLe:L≠e:=h7 (s610 _ _ h6L) he
       have h11L:(c8 H10 e (.lst ((p.take k++[(i:Int)]++p.drop k).map V.int))) L=some (.lst (bs.map V.ref)):=by rw[g8 nLe];exact s610 _ _ h6L
       have h11e:(c8 H10 e (.lst ((p.take k++[(i:Int)]++p.drop k).map V.int))) e=some (.lst ((K8 i p k).map V.int)):=c7;have s11:c9 H6 (c8 H10 e (.lst ((p.take k++[(i:Int)]++p.drop k).map V.int))):=s610.trans (c9.upd_new he);generalize (c8 H10 e (.lst ((p.take k++[(i:Int)]++p.drop k).map V.int)))=H11 at s11 h11L h11e ⊢
       have lenC:bs.length<=720:=by
         have:=rowsC.1;rw[ct6,cntj,ct1,cx9] at this;have h1:j*(i+1)<=119*(i+1):=Nat.mul_le_mul_right _ (by omega);omega
       refine ⟨L,_,_,rfl,rfl,h11L,w6 (by rw[ct1];omega),?_⟩
       have es:bs.map V.ref++[V.ref e]=(bs++[e]).map V.ref:=by rw[ct9];rfl
       rw[es];refine ⟨bs++[e],_,rfl,c7,?_,(kb6.trans (s11.but L)).upd_a,?_⟩
       · rw[show (cw9 (k+1)).map (K8 i p)=(cw9 k).map (K8 i p)++[K8 i p k] by rw[de3,ct9];rfl,<-cu6];refine K3 (l8 rowsC fun b hb o e=> ?_) (by rw[g8 nLe.symm];exact h11e);rw[g8 (show b≠L from fun z=>nLc (z▸hb))];exact s11 _ _ e
       · intro z
         rcases cu5.mp z with z|z
         · exact nLc z
         · exact nLe (cv6.mp z)
     · rintro σ H6 ⟨bs,v5,rfl,h6L,rowsC,kb6,nLc⟩;refine ⟨bs,_,_,rfl,h6L,?_,kb6,nLc⟩;rw[etk,de0,cz7,df7,cw0];exact rowsC
   · rintro σ H5 ⟨bs,v4,v5,rfl,h5L,rowsB,kb5,nLb⟩;rw[ct1,rows.1,cw2] at rowsB;exact ⟨_,rfl,q L bs H5 hL ((c9.refl H3).kb kb5 hL) h5L rowsB⟩
def bl9:Sp:=fun vs H Q _=>∃n:Nat,vs=[.int (n:Int)]/\n<=6/\∀(l:Addr) (as:List Addr) (ts:List (List Int)) (H':Hp),H l=none->c9 H H'->H' l=some (.lst (as.map V.ref))->j7 H' as ts->ts.Perm (Q8 n)->ts.Pairwise (fun r r'=>HT.aj1 r' r=false)->Q (.ref l) H'
theorem V6:o5 ["many","found","thing"] ["many"] (j5 ah0):=by rfl'
theorem bm0 {f:Addr}{fd:FuncData}(F:D3 K "_law_all" "_law_all" ah0 f fd)(B:Bl mg)(znz:r6 P w K mg base "_law_put" 1 ["rows","thing"] bl7):m7 P w K mg base E7 2 f fd ["many"] bl9:=by
 refine F.ok V6 (fun vs H Q E h=> ?_) (fun cdv A outer s H vs Q E hr h=> ?_)
 · obtain ⟨n,rfl,hn,q⟩:=h;rfl
 · obtain ⟨n,rfl,hn,q⟩:=h;have hr_law_put:m8 1 _:=hr.mono (by decide);have hu2:_+1+1 < cLine:=cy0 (db8 (by decide:2<=64) _) hr.units;refine ⟨_,@e8 _ _ _ _ _ (@i8 _ _ (1) _ _ _ _ V6.nd rfl (Or.inl rfl) (@x3 _ _ _ _ (@c5 _ _ _ _ _ (@x3 _ _ _ _ (@c6 _)) (@c6 _) (by rfl))) (by rfl) (by trivial)) (@e8 _ _ _ _ _ (@x8 _ _ _ _ _ _ _ _ PassesOwn.never rfl (@M1 _ _ _ _ _ _ (by rfl) B.range (@c5 _ _ _ _ _ (pv 0) (@c6 _) (by rfl)) (by rfl)) (@i9 _ _ (2) _ V6.nd rfl (Or.inl rfl) (by trivial)) (@h8 _ _ _ (@i8 _ _ (1) _ _ _ _ V6.nd rfl (Or.inl rfl) (@j6 _ _ _ _ _ _ _ _ _ _ znz hr_law_put (@c5 _ _ _ _ _ (pv 1) (@c5 _ _ _ _ _ (pv 2) (@c6 _) (by rfl)) (by rfl)) (by rfl) (by decide) (by rfl) (by rfl)) (by rfl) (by trivial))) (by intro _;rfl)) (@h8 _ _ _ (@k7 _ _ _ _ (al9 hu2 B.sorted (@c5 _ _ _ _ _ (pv 1) (@c6 _) (by rfl)))))),?_⟩;refine ⟨cv9 _,fun e0 he0=> ?_⟩;have s1:c9 H (c8 H e0 (.lst [])):=c9.upd_new he0;have h1e:(c8 H e0 (.lst [])) e0=some (.lst (([]:List Int).map V.int)):=c7;generalize (c8 H e0 (.lst []))=H1 at s1 h1e ⊢;refine ⟨(show 1<=sizeLine by decide),fun F0 hF0=> ?_⟩;have s2:c9 H1 (c8 H1 F0 (.lst [V.ref e0])):=c9.upd_new hF0;have h2F:(c8 H1 F0 (.lst [V.ref e0])) F0=some (.lst (([e0]:List Addr).map V.ref)):=c7;generalize (c8 H1 F0 (.lst [V.ref e0]))=H2 at s2 h2F ⊢;have h2e:=s2 _ _ h1e;have s02:=s1.trans s2;refine ⟨_,rfl,(n:Int),rfl,by omega,by omega,?_⟩;rw[show ((n:Int)).toNat=n by omega]
   refine M2 (lo:=0) (n:=n) (fun i σ H3=>∃(F:Addr) (as:List Addr) (v2:Option V),σ=[some (.int (n:Int)),some (.ref F),v2]/\H3 F=some (.lst (as.map V.ref))/\j7 H3 as (Q8 i)/\c9 H H3)
     ⟨F0,[e0],none,rfl,h2F,⟨rfl,fun j b r e1 e2=>by
       rcases j with _|j
       · cases e1;cases e2;exact h2e
       · cases e1⟩,s02⟩ ?_ ?_
   · rintro i σ H3 hi ⟨F,as,v2,rfl,h3F,rows,s3⟩
     have e0:(0:Int)+(i:Int)=(i:Int):=by omega
     rw[e0]
     have i5:i<=5:=by omega
     have lenA:=an7 i i5;exact ⟨_,rfl,_,rfl,F,i,as,_,rfl,h3F,rows,fun q hq=>((M9 i q).mp hq).2,i5,lenA,fun L bs H4 nL s4 h4 rows4=>⟨L,bs,_,rfl,h4,rows4,s3.trans s4⟩⟩
   · rintro σ H3 ⟨F,as,v2,rfl,h3F,rows,s3⟩;refine ⟨_,rfl,F,as,_,rfl,i4.of h3F,rows,fun cs ts l pb pt rows' st hl=> ?_⟩;have s4:c9 H3 (c8 H3 l (.lst (cs.map V.ref))):=c9.upd_new hl;exact q l cs ts _ (s3.free hl) (s3.trans s4) c7 (l8 rows' fun b _ o e=>s4 b o e) pt st
end
end My
namespace My
open PySem L2 Mth
section
variable {P:Program} {w:World} {K:PySem.W.Frag} {mg:Str->Option Value} {base:Heap}
def J1 {α:Type}(R:Addr->α->Prop)(ts:List Addr)(xs:List α):Prop:=ts.length=xs.length/\∀(j:Nat) t x,ts[j]? =some t->xs[j]? =some x->R t x
theorem J1.nil {α:Type}{R:Addr->α->Prop}:J1 R [] ([]:List α):=⟨rfl,fun j t x h=>by cases h⟩
theorem J1.imp {α:Type}{R S:Addr->α->Prop}{ts:List Addr}{xs:List α}(h:J1 R ts xs)(f:∀t x,t∈ts->R t x->S t x):J1 S ts xs:=⟨h.1,fun j t x e1 e2=>f t x (cu0 e1) (h.2 j t x e1 e2)⟩
theorem J1.snoc {α:Type}{R:Addr->α->Prop}{ts:List Addr}{xs:List α}{t:Addr}{x:α}(h:J1 R ts xs)(r:R t x):J1 R (ts++[t]) (xs++[x]):=by
 refine ⟨by rw[ct6,ct6,h.1];rfl,fun j u y e1 e2=> ?_⟩
 by_cases hj:j < ts.length
 · rw[cx3 hj] at e1;rw[cx3 (by rw[<-h.1];exact hj)] at e2;exact h.2 j u y e1 e2
 · rw[cx2 (by omega)] at e1;rw[cx2 (by rw[<-h.1];omega),<-h.1] at e2;have jl:=(ct3.mp e1).1
   have:j - ts.length=0:=by simp at jl;omega
   rw[this] at e1 e2;cases e1;cases e2;exact r
theorem J1.get {α:Type}{R:Addr->α->Prop}{ts:List Addr}{xs:List α}(h:J1 R ts xs){j:Nat}{t:Addr}(e:ts[j]? =some t):∃x,xs[j]? =some x/\R t x:=by
 have jl:=(ct3.mp e).1;exact ⟨_,ct2 (by rw[<-h.1];exact jl),h.2 j t _ e (ct2 _)⟩
def R6 (H:Hp)(zs:List Addr):Hp:=fun a=>if a∈zs then none else H a
theorem Y1 {H:Hp}{zs:List Addr}{a:Addr}(h:a∉zs):R6 H zs a=H a:=if_neg h
theorem Q9 {H:Hp}{zs:List Addr}{a:Addr}{u:HO}(e:R6 H zs a=some u):a∉zs/\H a=some u:=by
 unfold R6 at e
 by_cases c:a∈zs
 · rw[if_pos c] at e;cases e
 · rw[if_neg c] at e;exact ⟨c,e⟩
theorem cf4 {H:Hp}{zs:List Addr}{o:Addr}{x:HO}(ho:o∈zs):R6 (c8 H o x) zs=R6 H zs:=funext fun a=>by
 unfold R6
 by_cases e:a∈zs
 · rw[if_pos e,if_pos e]
 · rw[if_neg e,if_neg e,g8 (show a≠o from fun z=>e (by rw[z];exact ho))]
theorem bd8 {H H':Hp}{zs:List Addr}{o:Addr}(ho:o∈zs)(k:i7 o H H'):c9 (R6 H zs) (R6 H' zs):=fun a u e=>by
 obtain ⟨c,e⟩:=Q9 e;rw[Y1 c];exact k a u e (fun z=>c (by rw[z];exact ho))
theorem be0 {H H':Hp}{zs:List Addr}(s:c9 H H'):c9 (R6 H zs) (R6 H' zs):=fun a u e=>by
 obtain ⟨c,e⟩:=Q9 e;rw[Y1 c];exact s a u e
theorem by9 {H H':Hp}{zs:List Addr}{o:Addr}(s:c9 H H')(ho:H o=none):c9 (R6 H zs) (R6 H' (o::zs)):=fun a u e=>by
 obtain ⟨c,e⟩:=Q9 e;rw[Y1 fun z=>(cv5.mp z).elim (fun y=>by rw[y,ho] at e;cases e) c];exact s a u e
def R0 (H:Hp)(zs:List Addr):Prop:=∀z∈zs,∃u,H z=some u
theorem R0.keep {H H':Hp}{zs:List Addr}(h:R0 H zs)(s:c9 H H'):R0 H' zs:=fun z hz=>by
 obtain ⟨u,e⟩:=h z hz;exact ⟨u,s _ _ e⟩
theorem R0.cons {H:Hp}{zs:List Addr}{o:Addr}{u:HO}(h:R0 H zs)(e:H o=some u):R0 H (o::zs):=fun z hz=>by
 rcases cv5.mp hz with rfl|hz
 · exact ⟨u,e⟩
 · exact h z hz
theorem R0.out {H:Hp}{zs:List Addr}{a:Addr}(h:R0 H zs)(e:H a=none):a∉zs:=fun z=>by
 obtain ⟨u,e'⟩:=h a z;rw[e] at e';cases e'
def pk (rs:List (List Int))(i:Nat)(r:List Int)(b:Nat):List Int×List (List Int):=(r.drop b++r.take b,rs.take i++rs.drop (i+1))
def U1 (rs:List (List Int))(i:Nat)(r:List Int):List (List Int×List (List Int)):=(cw9 r.length).map (pk rs i r)
def y6 (rs:List (List Int)):Nat->List (List Int×List (List Int))
 |0=>[]
 |i+1=>y6 rs i++U1 rs i (rs.getD i [])
def Y2 (H:Hp)(t:Addr)(x:List Int×List (List Int)):Prop:=∃(a l:Addr) (as:List Addr),H t=some (.tup [.ref a,.ref l])/\H a=some (.lst (x.1.map V.int))/\H l=some (.lst (as.map V.ref))/\j7 H as x.2
theorem Y2.keep {H H':Hp}{t:Addr}{x:List Int×List (List Int)}(h:Y2 H t x)(s:c9 H H'):Y2 H' t x:=by
 obtain ⟨a,l,as,h1,h2,h3,h4⟩:=h;exact ⟨a,l,as,s _ _ h1,s _ _ h2,s _ _ h3,l8 h4 fun b _ o e=>s b o e⟩
theorem aw7 (rs:List (List Int))(h:∀r∈rs,r.length<=40):∀i,i<=rs.length->(y6 rs i).length<=40*i
 |0,_=>cv9 _
 |i+1,hi=>by
  have:=aw7 rs h i (by omega);show (y6 rs i++U1 rs i (rs.getD i [])).length<=_;rw[ct6];unfold U1;rw[ct1,cx9]
  have:(rs.getD i []).length<=40:=by
    rw[cu9,ct2 (by omega)];exact h _ (cz0 _)
  omega
theorem bu3 {H:Hp}{as:List Addr}{rs:List (List Int)}(h:j7 H as rs)(i:Nat):j7 H (as.take i) (rs.take i):=
 ⟨by rw[cu2,cu2,h.1],fun j a r e1 e2=>by
   rw[dg8] at e1 e2
   by_cases c:j < i
   · rw[if_pos c] at e1 e2;exact h.2 j a r e1 e2
   · rw[if_neg c] at e1;cases e1⟩
theorem bu4 {H:Hp}{as:List Addr}{rs:List (List Int)}(h:j7 H as rs)(i:Nat):j7 H (as.drop i) (rs.drop i):=
 ⟨by rw[cw1,cw1,h.1],fun j a r e1 e2=>by
   rw[da5] at e1 e2
   exact h.2 _ a r e1 e2⟩
def ak7:Sp:=fun vs H Q _=>∃(l:Addr) (as:List Addr) (rs:List (List Int)) (zs:List Addr),vs=[.ref l]/\H l=some (.lst (as.map V.ref))/\j7 (R6 H zs) as rs/\R0 H zs/\rs.length<=40/\(∀r∈rs,r.length<=40)/\∀(o:Addr) (ts:List Addr) (H':Hp),H o=none->c9 H H'->H' o=some (.lst (ts.map V.ref))->J1 (Y2 (R6 H' (o::zs))) ts (y6 rs rs.length)->Q (.ref o) H'
theorem L8:o5 ["rings","picks","at","ring","left","begin"] ["rings"] (j5 ad2):=by rfl'
theorem bg2 {f:Addr}{fd:FuncData}(F:D3 K "picks_of" "picks_of" ad2 f fd)(B:Bl mg):m7 P w K mg base E7 1 f fd ["rings"] ak7:=by
 refine F.ok L8 (fun vs H Q E h=> ?_) (fun cdv A outer s H vs Q E hr h=> ?_)
 · obtain ⟨l,as,rs,zs,rfl,hl,rows,thz,lr,lr2,q⟩:=h;rfl
 · obtain ⟨l,as,rs,zs,rfl,hl,rows,thz,lr,lr2,q⟩:=h;refine ⟨_,@e8 _ _ _ _ _ (@i8 _ _ (1) _ _ _ _ L8.nd rfl (Or.inl rfl) (@x3 _ _ _ _ (@c6 _)) (by rfl) (by trivial)) (@e8 _ _ _ _ _ (@x8 _ _ _ _ _ _ _ _ PassesOwn.never rfl (@W0 _ _ _ _ _ _ _ _ B.enum (@c5 _ _ _ _ _ (pv 0) (@c6 _) (by rfl)) (by rfl) (by rfl)) (@Q4 _ _ _ _ _ _ rfl (@A5 _ _ _ _ _ (@i9 _ _ (2) _ L8.nd rfl (Or.inl rfl) (by trivial)) (@A5 _ _ _ _ _ (@i9 _ _ (3) _ L8.nd rfl (Or.inl rfl) (by trivial)) (@N0 _) (by rfl)) (by rfl)) (by rfl) (by rfl)) (@e8 _ _ _ _ _ (@i8 _ _ (4) _ _ _ _ L8.nd rfl (Or.inl rfl) (@q9 _ _ _ _ _ _ _ _ T8 (@M3 _ _ _ _ _ _ _ _ _ _ P1 (pv 0) (@R8 _) (@N4 _ _ _ (pv 2))) (@M3 _ _ _ _ _ _ _ _ _ _ P1 (pv 0) (@N4 _ _ _ (@q9 _ _ _ _ _ _ _ _ J0 (pv 2) (@i6 _ _ _ _))) (@R8 _))) (by rfl) (by trivial)) (@h8 _ _ _ (@x8 _ _ _ _ _ _ _ _ PassesOwn.never rfl (@M1 _ _ _ _ _ _ (by rfl) B.range (@c5 _ _ _ _ _ (@y7 _ _ _ _ _ B.len (@c5 _ _ _ _ _ (pv 3) (@c6 _) (by rfl)) (by rfl) (by rfl)) (@c6 _) (by rfl)) (by rfl)) (@i9 _ _ (5) _ L8.nd rfl (Or.inl rfl) (by trivial)) (@h8 _ _ _ (@C4 _ _ _ _ (@D5 _ _ _ _ _ _ _ (pv 1) (@c5 _ _ _ _ _ (@ch9 _ _ _ _ _ (@c5 _ _ _ _ _ (@q9 _ _ _ _ _ _ _ _ T8 (@M3 _ _ _ _ _ _ _ _ _ _ P1 (pv 3) (@N4 _ _ _ (pv 5)) (@R8 _)) (@M3 _ _ _ _ _ _ _ _ _ _ P1 (pv 3) (@R8 _) (@N4 _ _ _ (pv 5)))) (@c5 _ _ _ _ _ (pv 4) (@c6 _) (by rfl)) (by rfl))) (@c6 _) (by rfl)) (by rfl) (by rfl) (by rfl) (by rfl) (by rfl)) (by rfl))) (by intro _;rfl)))) (by intro _;rfl)) (@h8 _ _ _ (@k7 _ _ _ _ (pv 1)))),?_⟩;refine ⟨cv9 _,fun o ho=> ?_⟩;have s1:c9 H (c8 H o (.lst [])):=c9.upd_new ho;have h1o:(c8 H o (.lst [])) o=some (.lst (([]:List Addr).map V.ref)):=c7;generalize (c8 H o (.lst []))=H1 at s1 h1o ⊢;have nlo:l≠o:=h7 hl ho
   refine ⟨_,rfl,l,rfl,⟨_,i4.of (s1 _ _ hl)⟩,X2 (K:=K) (a:=l) (xs:=as.map V.ref) (fun i σ H2=>∃(ts:List Addr) (v2 v3 v4 v5:Option V),σ=[some (.ref l),some (.ref o),v2,v3,v4,v5]/\H2 o=some (.lst (ts.map V.ref))/\J1 (Y2 (R6 H2 (o::zs))) ts (y6 rs i)/\c9 H H2)
     ⟨[],none,none,none,none,rfl,h1o,J1.nil,s1⟩ (fun i σ H2 _ zz=>by obtain ⟨_,_,_,_,_,_,_,_,s⟩:=zz;exact i4.of (s _ _ hl)) ?_ ?_⟩
   · rintro i y σ H2 tt hi ⟨ts,v2,v3,v4,v5,rfl,h2o,ats,s2⟩ htt
     obtain ⟨a,ha,rfl⟩:∃a,as[i]? =some a/\y=V.ref a:=by
       rw[ct8] at hi
       cases e:as[i]? with
       |none=>rw[e] at hi;cases hi
       |some a=>rw[e] at hi;exact ⟨a,rfl,(Option.some.inj hi).symm⟩
     have il:i < rs.length:=by rw[<-rows.1];exact (ct3.mp ha).1
     obtain ⟨r,hr⟩:∃r,rs[i]? =some r:=⟨_,ct2 il⟩
     have er:rs.getD i []=r:=by rw[cu9,hr];rfl
     have lr40:=lr2 r (cu0 hr);have h0a:=(Q9 (rows.2 i a r ha hr)).2;have s3:c9 H2 (c8 H2 tt (.tup [.int (i:Int),.ref a])):=c9.upd_new htt;have h3t:(c8 H2 tt (.tup [.int (i:Int),.ref a])) tt=some (.tup [.int (i:Int),.ref a]):=c7;generalize (c8 H2 tt (.tup [.int (i:Int),.ref a]))=H3 at s3 h3t ⊢;refine ⟨tt,_,rfl,Q3.of h3t,rfl,_,_,rfl,_,_,rfl,rfl,?_⟩;have s03:=s2.trans s3
     have la:(as.map V.ref).length=rs.length:=by rw[ct1,rows.1]
     refine ⟨_,rfl,_,rfl,_,rfl,l,_,rfl,i4.of (s03 _ _ hl),fun x1 hx1=> ?_⟩;rw[br6 (as.map V.ref) i (by omega),<-dd9];have s4:c9 H3 (c8 H3 x1 (.lst ((as.take i).map V.ref))):=c9.upd_new hx1;have h4x:(c8 H3 x1 (.lst ((as.take i).map V.ref))) x1=some (.lst ((as.take i).map V.ref)):=c7;generalize (c8 H3 x1 (.lst ((as.take i).map V.ref)))=H4 at s4 h4x ⊢;have s04:=s03.trans s4;refine ⟨_,rfl,_,rfl,_,_,rfl,rfl,_,rfl,l,_,rfl,i4.of (s04 _ _ hl),fun x2 hx2=> ?_⟩;rw[show ((i:Int)+1)=((i+1:Nat):Int) by omega,ba9 (as.map V.ref) (i+1) (by omega),<-dh5];have s5:c9 H4 (c8 H4 x2 (.lst ((as.drop (i+1)).map V.ref))):=c9.upd_new hx2;have h5x:(c8 H4 x2 (.lst ((as.drop (i+1)).map V.ref))) x2=some (.lst ((as.drop (i+1)).map V.ref)):=c7;generalize (c8 H4 x2 (.lst ((as.drop (i+1)).map V.ref)))=H5 at s5 h5x ⊢;refine ⟨x1,x2,_,_,rfl,rfl,s5 _ _ h4x,h5x,cz3 (w6 (by simp only[ct1,cu2,cw1];have:=rows.1;omega)),fun L hL=> ?_⟩;rw[<-ct9];have s6:c9 H5 (c8 H5 L (.lst ((as.take i++as.drop (i+1)).map V.ref))):=c9.upd_new hL;have h6L:(c8 H5 L (.lst ((as.take i++as.drop (i+1)).map V.ref))) L=some (.lst ((as.take i++as.drop (i+1)).map V.ref)):=c7;generalize (c8 H5 L (.lst ((as.take i++as.drop (i+1)).map V.ref)))=H6 at s6 h6L ⊢;have s26:=((s3.trans s4).trans s5).trans s6;have s06:=s2.trans s26;have th2:R0 H2 (o::zs):=(thz.keep s2).cons h2o;have nLo:L∉o::zs:=(th2.keep ((s3.trans s4).trans s5)).out hL
     have nLo1:L≠o:=fun z=>nLo (z▸ct7)
     have rowsO:j7 (R6 H6 (o::zs)) (as.take i++as.drop (i+1)) (rs.take i++rs.drop (i+1)):=l8 (bb3 (bu3 rows i) (bu4 rows (i+1))) fun b _ u e=>by9 s06 ho b u e
     have ats6:J1 (Y2 (R6 H6 (o::zs))) ts (y6 rs i):=ats.imp fun t x _ h=>h.keep (be0 s26)
     refine ⟨_,rfl,a,_,rfl,.inl (i4.of (s06 _ _ h0a)),_,rfl,by rw[ct1];omega,by rw[ct1];omega,?_⟩;rw[ct1,show ((r.length:Int)).toNat=r.length by omega];have tl:=ats.1;have pl:=aw7 rs lr2 i (by omega)
     refine M2 (lo:=0) (n:=r.length) (fun b σ H7=>∃(ts:List Addr) (v5:Option V),σ=[some (.ref l),some (.ref o),some (.int (i:Int)),some (.ref a),some (.ref L),v5]/\H7 o=some (.lst (ts.map V.ref))/\J1 (Y2 (R6 H7 (o::zs))) ts (y6 rs i++(cw9 b).map (pk rs i r))/\i7 o H6 H7)
       ⟨ts,v5,rfl,s26 _ _ h2o,by rw[List.range_zero,dc2,cw0];exact ats6,i7.refl _ _⟩ ?_ ?_
     · rintro b σ H7 hb ⟨ts,v5,rfl,h7o,ats7,kb7⟩
       have e0:(0:Int)+(b:Int)=(b:Int):=by omega
       rw[e0];have s07:c9 H H7:=s06.kb kb7 ho;have h7a:=s07 _ _ h0a
       have lts:ts.length<=1700:=by
         have:=ats7.1;rw[ct6,ct1,cx9] at this;omega
       refine ⟨_,rfl,.inl ⟨rfl,_,i4.of h7o⟩,_,rfl,_,rfl,_,rfl,a,_,rfl,i4.of h7a,fun y1 hy1=> ?_⟩;rw[ba9 (r.map V.int) b (by rw[ct1];omega),<-dh5];have s8:c9 H7 (c8 H7 y1 (.lst ((r.drop b).map V.int))):=c9.upd_new hy1;have h8y:(c8 H7 y1 (.lst ((r.drop b).map V.int))) y1=some (.lst ((r.drop b).map V.int)):=c7;generalize (c8 H7 y1 (.lst ((r.drop b).map V.int)))=H8 at s8 h8y ⊢;refine ⟨_,rfl,_,rfl,_,rfl,a,_,rfl,i4.of (s8 _ _ h7a),fun y2 hy2=> ?_⟩;rw[br6 (r.map V.int) b (by rw[ct1];omega),<-dd9];have s9:c9 H8 (c8 H8 y2 (.lst ((r.take b).map V.int))):=c9.upd_new hy2;have h9y:(c8 H8 y2 (.lst ((r.take b).map V.int))) y2=some (.lst ((r.take b).map V.int)):=c7;generalize (c8 H8 y2 (.lst ((r.take b).map V.int)))=H9 at s9 h9y ⊢;refine ⟨y1,y2,_,_,rfl,rfl,s9 _ _ h8y,h9y,cz3 (w6 (by simp only[ct1,cu2,cw1];omega)),fun c hc=> ?_⟩;rw[<-ct9];have s10:c9 H9 (c8 H9 c (.lst ((r.drop b++r.take b).map V.int))):=c9.upd_new hc;have h10c:(c8 H9 c (.lst ((r.drop b++r.take b).map V.int))) c=some (.lst ((r.drop b++r.take b).map V.int)):=c7;generalize (c8 H9 c (.lst ((r.drop b++r.take b).map V.int)))=H10 at s10 h10c ⊢;refine ⟨_,rfl,(show 2<=sizeLine by decide),fun t ht=> ?_⟩;have s11:c9 H10 (c8 H10 t (.tup [.ref c,.ref L])):=c9.upd_new ht;have h11t:(c8 H10 t (.tup [.ref c,.ref L])) t=some (.tup [.ref c,.ref L]):=c7;generalize (c8 H10 t (.tup [.ref c,.ref L]))=H11 at s11 h11t ⊢;have s79:=s8.trans s9;have s710:=s79.trans s10;have s711:=s710.trans s11;have th7:R0 H7 (o::zs):=(thz.keep s07).cons h7o;have nco:c∉o::zs:=(th7.keep s79).out hc;have nto:t∉o::zs:=(th7.keep s710).out ht;refine ⟨o,_,_,rfl,rfl,s711 _ _ h7o,cy0 (show _<=2000 by rw[ct1];omega) (by decide),?_⟩;rw[show ts.map V.ref++[V.ref t]=(ts++[t]).map V.ref by rw[ct9];rfl];refine ⟨ts++[t],_,rfl,c7,?_,(kb7.trans (s711.but o)).upd_a⟩;rw[cf4 ct7,de3,ct9,<-cu6];refine J1.snoc (ats7.imp fun t x _ h=>h.keep (be0 s711)) ?_;have h7L:=kb7 _ _ h6L nLo1;refine ⟨c,L,_,by rw[Y1 nto];exact h11t,by rw[Y1 nco];exact s11 _ _ h10c,by rw[Y1 nLo];exact s711 _ _ h7L,?_⟩
       exact l8 rowsO fun b _ u e=>(bd8 ct7 (kb7.trans (s711.but o))) b u e
     · rintro σ H7 ⟨ts,v5,rfl,h7o,ats7,kb7⟩;refine ⟨ts,_,_,_,v5,rfl,h7o,?_,s06.kb kb7 ho⟩;show J1 _ ts (y6 rs i++U1 rs i (rs.getD i []));rw[er];exact ats7
   · rintro σ H2 ⟨ts,v2,v3,v4,v5,rfl,h2o,ats,s2⟩;rw[ct1,rows.1] at ats;exact ⟨_,rfl,q o ts H2 ho s2 h2o ats⟩
theorem Y3 {rs:List (List Int)}:∀(i:Nat) {y:List Int×List (List Int)},y∈y6 rs i->y.2.length<=rs.length/\∀r∈y.2,r∈rs
 |0,y,h=>by cases h
 |i+1,y,h=>by
  rcases cu5.mp h with z|z
  · exact Y3 i z
  · obtain ⟨b,_,rfl⟩:=cu3.mp z;refine ⟨?_,fun r hr=> ?_⟩
    · show (rs.take i++rs.drop (i+1)).length<=_;rw[ct6,cu2,cw1];omega
    · rcases cu5.mp hr with w|w
      · exact cz6 w
      · exact db6 w
end
end My
namespace My
open PySem L2 Mth
section
variable {P:Program} {w:World} {K:PySem.W.Frag} {mg:Str->Option Value} {base:Heap}
def K2 (es:List (Int×Int)):List (m9×V):=es.map fun e=>((Sum.inl e.1:m9),V.int e.2)
theorem cf5 {es:List (Int×Int)}{k v:Int}(h:k∉es.map (·.1)):O8 (K2 es) (Sum.inl k:m9) (.int v)=K2 (es++[(k,v)]):=by
 have ki:KI (K2 es) (es.map (·.1)):=by unfold KI K2;rw[cy6,cy6];rfl
 rw[am7 _ (cd2 ki h)];unfold K2;rw[ct9];rfl
end
end My
namespace My
open PySem L2 Mth
section
theorem bj3 {α β:Type}{f:α->List β}{xs:List α}{i:Nat}{x:α}(h:xs[i]? =some x):((xs.take i).flatMap f).length+(f x).length<=(xs.flatMap f).length:=by
 have:=congrArg dh0 (congrArg (List.flatMap f) (cx4 i xs));obtain ⟨il,e⟩:=ct3.mp h;rw[da4 il,e,de0,cz7,ct6,ct6] at this;omega
theorem be1 (r:List Int)(b:Nat):(r.drop b++r.take b).Perm r:=cy5.trans (by rw[cx4])
theorem U2 {rs:List (List Int)}:∀(i:Nat) {y:List Int×List (List Int)},i<=rs.length->y∈y6 rs i->(y.1++y.2.flatten).Perm rs.flatten/\y.2.length+1=rs.length/\∃r∈rs,y.1.Perm r
 |0,y,_,h=>by cases h
 |i+1,y,hi,h=>by
  rcases cu5.mp h with z|z
  · exact U2 i (by omega) z
  · obtain ⟨b,_,rfl⟩:=cu3.mp z
    have il:i < rs.length:=by omega
    have eg:rs.getD i []=rs[i]:=by rw[cu9,ct2 il];rfl
    refine ⟨?_,?_,rs[i],cz0 _,?_⟩
    · show (((rs.getD i []).drop b++(rs.getD i []).take b)++(rs.take i++rs.drop (i+1)).flatten).Perm rs.flatten
      have e:rs.flatten=(rs.take i).flatten++(rs[i]++(rs.drop (i+1)).flatten):=by
        rw[<-cz1,<-db0,<-da4 il,cx4]
      rw[e,eg,db0];refine ((be1 _ b).append_right _).trans ?_;rw[<-cu6,<-cu6];exact cy5.append_right _
    · show (rs.take i++rs.drop (i+1)).length+1=_;rw[ct6,cu2,cw1];omega
    · show ((rs.getD i []).drop b++(rs.getD i []).take b).Perm _;rw[eg];exact be1 _ b
theorem aw8 {l:Nat}{rs:List (List Int)}(hl:∀r∈rs,r.length=l):∀i,i<=rs.length->(y6 rs i).length=i*l
 |0,_=>by rw[Nat.zero_mul];rfl
 |i+1,hi=>by
  show (y6 rs i++U1 rs i (rs.getD i [])).length=_;rw[ct6,aw8 hl i (by omega)];unfold U1;rw[ct1,cx9,cu9,ct2 (show i < rs.length by omega)];show i*l+(rs[i]).length=_;rw[hl _ (cz0 _),Nat.add_mul,Nat.one_mul]
theorem an8 {α β:Type}{f:α->List β}{c:Nat}:∀{xs:List α},(∀x∈xs,(f x).length=c)->(xs.flatMap f).length=xs.length*c
 |[],_=>by rw[di3,Nat.zero_mul];rfl
 |x::xs,h=>by
  rw[cz7,ct6,h x ct7,an8 fun y hy=>h y (ct5 _ hy),cv7,Nat.add_mul,Nat.one_mul,dc3]
end
end My
namespace My
open PySem L2 Mth PySem.Spec PyProof.Rows
section
variable {P:Program} {w:World} {K:PySem.W.Frag} {mg:Str->Option Value} {base:Heap}
def ck7 (td:TE):TI:=fun σ H R=>td σ H fun x H1=>∃d kvs,x= .ref d/\((H1 d=some (.dK kvs)/\∀o,R (Itd d o kvs) (c8 H1 d (.frz o (.dK kvs))))\/∃o,H1 d=some (.frz o (.dK kvs))/\R (Itd d o kvs) H1)
theorem bz0 {X:Cx}{tg l:Expr}{tl:TE}(hl:PE X l tl):PI X tg l (ck7 tl):=by
 intro pins s σ H R I h
 refine n9 (hl pins s σ H _ I h) fun v s1 ⟨x,H1,I1,r1,q1⟩=> ?_
 obtain ⟨d,kvs,e,q⟩:=q1;subst e;cases r1
 rcases q with ⟨hH,q⟩|⟨o,hH,q⟩
 · obtain ⟨_,hsm,vs,rel,o,es,ep,ho,hc,hdat,rr⟩:=(show w4 X.prog X.w H1 s1.heap d (.dK kvs) from I1.hok d _ hH);have hat:s1.heap.DictAt (A2 X.prog X.w) d vs ep:=⟨o,es,ho,hc,hdat,rr⟩;have I2:=I1.freeze hH ho;refine wpAny_pyIter_dict hsm hat ?_;have hlen:kvs.length=vs.length:=rel.length;refine ⟨s1.heap.objs.size,[s1.heap.objs.size],_,_,_,rfl,I2.kept (t':=s1.toks) fun b o e=>Heap.get?_push_of_some _ e,ag3 d _ o kvs es ep hdat,⟨_,Heap.get?_push_size _ rfl,rfl,by rw[hlen];rfl⟩,fun b hb=> ?_,q o⟩
   have e:b=s1.heap.objs.size:=by simpa using hb
   subst e;exact I2.fpOk (ct4 _) (I2.hok.fresh (ct4 _))
 · obtain ⟨ho0,_,hsm,vs,rel,o',es,ep,ho,hc,hdat,rr⟩:=(show w4 X.prog X.w H1 s1.heap d (.frz o (.dK kvs)) from I1.hok d _ hH)
   have eo:o'=o:=by rw[ho0] at ho;exact (Option.some.inj ho).symm
   subst eo;have hat:s1.heap.DictAt (A2 X.prog X.w) d vs ep:=⟨o',es,ho,hc,hdat,rr⟩;refine wpAny_pyIter_dict hsm hat ?_;have hlen:kvs.length=vs.length:=rel.length;refine ⟨s1.heap.objs.size,[s1.heap.objs.size],_,_,_,rfl,I1.kept (t':=s1.toks) fun b o e=>Heap.get?_push_of_some _ e,ag3 d _ o' kvs es ep hdat,⟨_,Heap.get?_push_size _ rfl,rfl,by rw[hlen];rfl⟩,fun b hb=> ?_,q⟩
   have e:b=s1.heap.objs.size:=by simpa using hb
   subst e;exact I1.fpOk (ct4 _) (I1.hok.fresh (ct4 _))
def o9 (t:List Int)(es:List (Int×Int)):List Int:=es.foldl (fun t e=>t.set e.1.toNat e.2) t
theorem V7 (es:List (Int×Int)):∀t:List Int,(o9 t es).length=t.length:=by
 induction es with
 |nil=>intro t;rfl
 |cons e es ih=>intro t;show (o9 (t.set e.1.toNat e.2) es).length=_;rw[ih,de2]
theorem bg3 (t:List Int)(es:List (Int×Int))(e:Int×Int):o9 t (es++[e])=(o9 t es).set e.1.toNat e.2:=by
 unfold o9;rw[df0];rfl
def K9 (laid:List (List Int))(ways:List (List (Int×Int))):List (List Int):=laid.flatMap fun t=>ways.map (o9 t)
def M0 (p:List Int)(chs:List (List (List (Int×Int)))):List (List Int):=chs.foldl K9 [p]
theorem ar1 (p:List Int)(chs:List (List (List (Int×Int))))(c:List (List (Int×Int))):M0 p (chs++[c])=K9 (M0 p chs) c:=by
 unfold M0;rw[df0];rfl
theorem bz1 {n:Nat}{laid:List (List Int)}{ways:List (List (Int×Int))}(h:∀t∈laid,t.length=n):∀t∈K9 laid ways,t.length=n:=fun t ht=>by
 obtain ⟨t',h',z⟩:=db4.mp ht;obtain ⟨es,_,rfl⟩:=cu3.mp z;rw[V7];exact h t' h'
theorem bu5 (p:List Int)(chs:List (List (List (Int×Int)))):∀t∈M0 p chs,t.length=p.length:=by
 have g:∀(chs:List (List (List (Int×Int)))) (laid:List (List Int)),(∀t∈laid,t.length=p.length)->∀t∈chs.foldl K9 laid,t.length=p.length:=fun chs=>by
   induction chs with
   |nil=>intro laid h;exact h
   |cons c chs ih=>intro laid h;exact ih _ (bz1 h)
 exact g chs [p] fun t ht=>by rw[cv6.mp ht]
def ae0 (H:Hp)(u:Addr)(es:List (Int×Int)):Prop:=H u=some (.dK (K2 es))\/∃o,H u=some (.frz o (.dK (K2 es)))
structure Kp (H H':Hp):Prop where
 nd:∀x u,H x=some u->(∀kvs,u≠.dK kvs)->H' x=some u
 tab:∀x es,ae0 H x es->ae0 H' x es
 fr:∀x,H' x=none->H x=none
theorem Kp.of {H H':Hp}(s:c9 H H'):Kp H H':=⟨fun x u e _=>s _ _ e,fun x es e=>e.elim (fun e=> .inl (s _ _ e)) fun ⟨o,e⟩=> .inr ⟨o,s _ _ e⟩,fun x e=>s.free e⟩
theorem Kp.trans {H H' H'':Hp}(a:Kp H H')(b:Kp H' H''):Kp H H'':=⟨fun x u e n=>b.nd x u (a.nd x u e n) n,fun x es e=>b.tab x es (a.tab x es e),fun x e=>a.fr x (b.fr x e)⟩
theorem Kp.lst {H H':Hp}(k:Kp H H'){a:Addr}{xs:List V}(e:H a=some (.lst xs)):H' a=some (.lst xs):=k.nd a _ e (fun kvs z=>by cases z)
theorem Kp.rows {H H':Hp}(k:Kp H H'){as:List Addr}{rs:List (List Int)}(h:j7 H as rs):j7 H' as rs:=⟨h.1,fun j a r e1 e2=>k.lst (h.2 j a r e1 e2)⟩
theorem Kp.upd_r {H H':Hp}(k:Kp H H'){x:Addr}{o:HO}(n:H x=none):Kp H (c8 H' x o):=by
 have ne:∀a u,H a=some u->a≠x:=fun a u e z=>by rw[z,n] at e;cases e
 refine ⟨fun a u e h=>by rw[g8 (ne a u e)];exact k.nd a u e h,fun a es e=> ?_,fun a e=> ?_⟩
 · have nx:a≠x:=e.elim (fun e=>ne a _ e) fun ⟨_,e⟩=>ne a _ e
   unfold ae0;rw[g8 nx];exact k.tab a es e
 · by_cases z:a=x
   · rw[z];exact n
   · rw[g8 z] at e;exact k.fr a e
theorem Kp.freeze {H:Hp}{u:Addr}{kvs:List (m9×V)}{o:Obj}(e:H u=some (.dK kvs)):Kp H (c8 H u (.frz o (.dK kvs))):=by
 refine ⟨fun a v h n=> ?_,fun a es h=> ?_,fun a h=> ?_⟩
 · rw[g8 fun z=>by rw[z,e] at h;cases h;exact n _ rfl];exact h
 · by_cases z:a=u
   · subst z
     rcases h with h|⟨_,h⟩
     · rw[e] at h;cases h;exact .inr ⟨o,c7⟩
     · rw[e] at h;cases h
   · unfold ae0;rw[g8 z];exact h
 · by_cases z:a=u
   · rw[z,c7] at h;cases h
   · rw[g8 z] at h;exact h
theorem bj4:∀{es:List (Int×Int)} {i:Nat} {e:Int×Int},(es.map (·.1)).Nodup->es[i]? =some e->B9 (K2 es) (Sum.inl e.1:m9)=some (.int e.2)
 |[],i,e,_,h=>by cases h
 |x::es,0,e,_,h=>by cases h;exact R9 rfl
 |x::es,i+1,e,nd,h=>by
  rw[cy4,cx0] at nd;have hm:e∈es:=cu0 h;show B9 ((Sum.inl x.1,V.int x.2)::K2 es) _=_;rw[O9]
  · exact bj4 nd.2 h
  · intro z;have z:x.1=e.1:=Sum.inl.inj z;exact nd.1 (by rw[z];exact List.mem_map_of_mem hm)
def bm1:Sp:=fun vs H Q _=>∃(a ch:Addr) (p:List Int) (cs:List Addr) (chs:List (List (List (Int×Int)))),vs=[.ref a,.ref ch]/\H a=some (.lst (p.map V.int))/\p.length<=40/\H ch=some (.lst (cs.map V.ref))/\
 J1 (fun c ways=>∃us,H c=some (.lst (us.map V.ref))/\J1 (ae0 H) us ways) cs chs/\(∀ways∈chs,∀es∈ways,(es.map (·.1)).Nodup/\∀e∈es,0<=e.1/\e.1 < (p.length:Int))/\(∀i,(M0 p (chs.take i)).length<=2000)/\
 ∀(o:Addr) (bs:List Addr) (ts:List (List Int)) (H':Hp),H o=none->H' o=some (.lst (bs.map V.ref))->j7 H' bs ts->ts.Perm (M0 p chs)->ts.Pairwise (fun r r'=>HT.aj1 r' r=false)->bs.Nodup->(∀b∈bs,H b=none)->o∉bs->Kp H H'->Q (.ref o) H'
theorem y9:o5 ["p","choices","laid","ways","wider","turn","way","told","thing"] ["p","choices"] (j5 Q6):=by rfl'
theorem an9 {f:Addr}{fd:FuncData}(F:D3 K "lay_every_way" "lay_every_way" Q6 f fd)(B:Bl mg):m7 P w K mg base E7 1 f fd ["p","choices"] bm1:=by
 refine F.ok y9 (fun vs H Q E h=> ?_) (fun cdv A outer s H vs Q E hr h=> ?_)
 · obtain ⟨a,ch,p,cs,chs,rfl,ha,lp,hch,atc,keys,few,q⟩:=h;rfl
 · obtain ⟨a,ch,p,cs,chs,rfl,ha,lp,hch,atc,keys,few,q⟩:=h;have hu:=O3 hr;have hu2:_+1+1 < cLine:=cy0 (db8 (by decide:2<=64) _) hr.units;refine ⟨_,@e8 _ _ _ _ _ (@i8 _ _ (2) _ _ _ _ y9.nd rfl (Or.inl rfl) (@x3 _ _ _ _ (@c5 _ _ _ _ _ (@M6 _ _ _ _ _ B.list (@c5 _ _ _ _ _ (pv 0) (@c6 _) (by rfl)) (by rfl) (by rfl)) (@c6 _) (by rfl))) (by rfl) (by trivial)) (@e8 _ _ _ _ _ (@x8 _ _ _ _ _ _ _ _ PassesOwn.never rfl (@C5 _ _ _ _ (pv 1)) (@i9 _ _ (3) _ y9.nd rfl (Or.inl rfl) (by trivial)) (@e8 _ _ _ _ _ (@i8 _ _ (4) _ _ _ _ y9.nd rfl (Or.inl rfl) (@x3 _ _ _ _ (@c6 _)) (by rfl) (by trivial)) (@e8 _ _ _ _ _ (@x8 _ _ _ _ _ _ _ _ PassesOwn.never rfl (@C5 _ _ _ _ (pv 2)) (@i9 _ _ (5) _ y9.nd rfl (Or.inl rfl) (by trivial)) (@h8 _ _ _ (@x8 _ _ _ _ _ _ _ _ PassesOwn.never rfl (@C5 _ _ _ _ (pv 3)) (@i9 _ _ (6) _ y9.nd rfl (Or.inl rfl) (by trivial)) (@e8 _ _ _ _ _ (@i8 _ _ (7) _ _ _ _ y9.nd rfl (Or.inl rfl) (@M6 _ _ _ _ _ B.list (@c5 _ _ _ _ _ (pv 5) (@c6 _) (by rfl)) (by rfl) (by rfl)) (by rfl) (by trivial)) (@e8 _ _ _ _ _ (@x8 _ _ _ _ _ _ _ _ PassesOwn.never rfl (bz0 (pv 6)) (@i9 _ _ (8) _ y9.nd rfl (Or.inl rfl) (by trivial)) (@h8 _ _ _ (@ae9 _ _ _ _ _ _ (@aj5 _ _ _ _ _ _ hu (pv 6) (pv 8) (fun _ _=>rfl)) (@ae8 _ _ _ _ _ _ _ (pv 7) (pv 8) X0 (by intro _;rfl)) (by rfl) (by rfl) (by rfl))) (by intro _;rfl)) (@h8 _ _ _ (@C4 _ _ _ _ (@D5 _ _ _ _ _ _ _ (pv 4) (@c5 _ _ _ _ _ (pv 7) (@c6 _) (by rfl)) (by rfl) (by rfl) (by rfl) (by rfl) (by rfl)) (by rfl))))) (by intro _;rfl))) (by intro _;rfl)) (@h8 _ _ _ (@i8 _ _ (2) _ _ _ _ y9.nd rfl (Or.inl rfl) (pv 4) (by rfl) (by trivial))))) (by intro _;rfl)) (@h8 _ _ _ (@k7 _ _ _ _ (al9 hu2 B.sorted (@c5 _ _ _ _ _ (pv 2) (@c6 _) (by rfl)))))),?_⟩;refine ⟨_,rfl,a,_,rfl,.inl (i4.of ha),fun e0 he0=> ?_⟩;have s1:c9 H (c8 H e0 (.lst (p.map V.int))):=c9.upd_new he0;have h1e:(c8 H e0 (.lst (p.map V.int))) e0=some (.lst (p.map V.int)):=c7;generalize (c8 H e0 (.lst (p.map V.int)))=H1 at s1 h1e ⊢;refine ⟨(show 1<=sizeLine by decide),fun F0 hF0=> ?_⟩;have s2:c9 H1 (c8 H1 F0 (.lst [V.ref e0])):=c9.upd_new hF0;have h2F:(c8 H1 F0 (.lst [V.ref e0])) F0=some (.lst (([e0]:List Addr).map V.ref)):=c7;generalize (c8 H1 F0 (.lst [V.ref e0]))=H2 at s2 h2F ⊢;have s02:=s1.trans s2
   refine ⟨_,rfl,ch,rfl,⟨_,i4.of (s02 _ _ hch)⟩,G6 (K:=K) (a:=ch) (xs:=cs.map V.ref) (fun i σ H3=>∃(F:Addr) (ts:List Addr) (v3 v4 v5 v6 v7 v8:Option V),σ=[some (.ref a),some (.ref ch),some (.ref F),v3,v4,v5,v6,v7,v8]/\H3 F=some (.lst (ts.map V.ref))/\j7 H3 ts (M0 p (chs.take i))/\ts.Nodup/\(∀t∈ts,H t=none)/\Kp H H3)
     ⟨F0,[e0],none,none,none,none,none,none,rfl,h2F,⟨rfl,fun j b r e1 e2=>by
       rcases j with _|j
       · cases e1;cases e2;exact s2 _ _ h1e
       · cases e1⟩,by simp,fun t ht=>by rw[cv6.mp ht];exact he0,Kp.of s02⟩ (fun i σ H3 _ zz=>by obtain ⟨_,_,_,_,_,_,_,_,_,_,_,_,_,k⟩:=zz;exact i4.of (k.lst hch)) ?_ ?_⟩
   · rintro i y σ H3 hi ⟨F,ts,v3,v4,v5,v6,v7,v8,rfl,h3F,rows,tnd,tfr,k3⟩
     obtain ⟨c,hc,rfl⟩:∃c,cs[i]? =some c/\y=V.ref c:=by
       rw[ct8] at hi
       cases e:cs[i]? with
       |none=>rw[e] at hi;cases hi
       |some a=>rw[e] at hi;exact ⟨a,rfl,(Option.some.inj hi).symm⟩
     obtain ⟨ways,hw,us,hcu,atu⟩:=atc.get hc;have fewi:=few (i+1);rw[j9 hw,ar1] at fewi ⊢;have lens:=bu5 p (chs.take i);generalize M0 p (chs.take i)=laid at rows fewi lens ⊢;have kw:=keys ways (cu0 hw);refine ⟨cv9 _,fun W hW=> ?_⟩;have hW0:H W=none:=k3.fr W hW;have s4:c9 H3 (c8 H3 W (.lst [])):=c9.upd_new hW;have h4W:(c8 H3 W (.lst [])) W=some (.lst (([]:List Addr).map V.ref)):=c7;generalize (c8 H3 W (.lst []))=H4 at s4 h4W ⊢
     refine ⟨_,rfl,F,rfl,⟨_,i4.of (s4 _ _ h3F)⟩,G6 (K:=K) (a:=F) (xs:=ts.map V.ref) (fun j σ H5=>∃(bs:List Addr) (v5 v6 v7 v8:Option V),σ=[some (.ref a),some (.ref ch),some (.ref F),some (.ref c),some (.ref W),v5,v6,v7,v8]/\H5 W=some (.lst (bs.map V.ref))/\j7 H5 bs (K9 (laid.take j) ways)/\bs.Nodup/\(∀b∈bs,H3 b=none)/\W∉bs/\Kp H3 H5)
       ⟨[],v5,v6,v7,v8,rfl,h4W,⟨rfl,fun j b r h=>by cases h⟩,cz8,(fun b hb=>by cases hb),(fun z=>by cases z),Kp.of s4⟩ (fun j σ H5 _ zz=>by obtain ⟨_,_,_,_,_,_,_,_,_,_,_,k⟩:=zz;exact i4.of (k.lst h3F)) ?_ ?_⟩
     · rintro j y σ H5 hj ⟨bs0,v5,v6,v7,v8,rfl,h5W,rowsB0,bnd0,bfr0,Wb0,k5⟩
       obtain ⟨t,ht,rfl⟩:∃t,ts[j]? =some t/\y=V.ref t:=by
         rw[ct8] at hj
         cases e:ts[j]? with
         |none=>rw[e] at hj;cases hj
         |some a=>rw[e] at hj;exact ⟨a,rfl,(Option.some.inj hj).symm⟩
       obtain ⟨row,hrow⟩:∃r,laid[j]? =some r:=⟨_,ct2 (by rw[<-rows.1];exact (ct3.mp ht).1)⟩;have h3t:=rows.2 j t row ht hrow;have lrow:=lens row (cu0 hrow);have tot:=bj3 (f:=fun t=>ways.map (o9 t)) hrow;rw[ct1] at tot;have h5c:=(k3.trans k5).lst hcu
       refine ⟨_,rfl,c,rfl,⟨_,i4.of h5c⟩,G6 (K:=K) (a:=c) (xs:=us.map V.ref) (fun k σ H6=>∃(bs:List Addr) (v6 v7 v8:Option V),σ=[some (.ref a),some (.ref ch),some (.ref F),some (.ref c),some (.ref W),some (.ref t),v6,v7,v8]/\H6 W=some (.lst (bs.map V.ref))/\j7 H6 bs (K9 (laid.take j) ways++(ways.take k).map (o9 row))/\bs.Nodup/\(∀b∈bs,H3 b=none)/\W∉bs/\Kp H3 H6)
         ⟨bs0,v6,v7,v8,rfl,h5W,by rw[db7,dc2,cw0];exact rowsB0,bnd0,bfr0,Wb0,k5⟩ (fun k σ H6 _ zz=>by obtain ⟨_,_,_,_,_,_,_,_,_,_,kk⟩:=zz;exact i4.of ((k3.trans kk).lst hcu)) ?_ ?_⟩
       · rintro k y σ H6 hk ⟨bs,v6,v7,v8,rfl,h6W,rowsB,bnd,bfr,Wb,k6⟩
         obtain ⟨u,hu,rfl⟩:∃t,us[k]? =some t/\y=V.ref t:=by
           rw[ct8] at hk
           cases e:us[k]? with
           |none=>rw[e] at hk;cases hk
           |some a=>rw[e] at hk;exact ⟨a,rfl,(Option.some.inj hk).symm⟩
         obtain ⟨es,hes,tu⟩:=atu.get hu;obtain ⟨knd,kbd⟩:=kw es (cu0 hes);refine ⟨_,rfl,t,_,rfl,.inl (i4.of (k6.lst h3t)),fun to hto=> ?_⟩;have s7:c9 H6 (c8 H6 to (.lst (row.map V.int))):=c9.upd_new hto;have h7t:(c8 H6 to (.lst (row.map V.int))) to=some (.lst (row.map V.int)):=c7;generalize (c8 H6 to (.lst (row.map V.int)))=H7 at s7 h7t ⊢;have k67:Kp H6 H7:=Kp.of s7;have tu7:ae0 H7 u es:=k67.tab u es (k6.tab u es (k3.tab u es tu));refine ⟨_,rfl,u,K2 es,rfl,?_⟩;refine tu7.elim (fun h=> .inl ⟨h,fun o=> ?_⟩) (fun ⟨o,h⟩=> .inr ⟨o,h,?_⟩)
         all_goals
           first
             |(have h8u:(c8 H7 u (.frz o (.dK (K2 es)))) u=some (.frz o (.dK (K2 es))):=c7
               have k68:=k67.trans (Kp.freeze (o:=o) h);have h8t:=(Kp.freeze (o:=o) h).lst h7t
               generalize (c8 H7 u (.frz o (.dK (K2 es))))=H8 at h8u k68 h8t ⊢)
             |(have h8u:=h
               have k68:=k67;have h8t:=h7t
               generalize H7=H8 at h8u k68 h8t ⊢)
           have nut:u≠to:=fun z=>by rw[z,h8t] at h8u;cases h8u
           refine bb4 (fun q σ H9=>∃(v8:Option V),σ=[some (.ref a),some (.ref ch),some (.ref F),some (.ref c),some (.ref W),some (.ref t),some (.ref u),some (.ref to),v8]/\H9 to=some (.lst ((o9 row (es.take q)).map V.int))/\H9 u=some (.frz o (.dK (K2 es)))/\Kp H6 H9)
             ⟨v8,rfl,h8t,h8u,k68⟩ (fun q σ H9 _ ⟨_,_,_,e,_⟩=>e) ?_ ?_
           · rintro q kk vv σ H9 hq ⟨v8,rfl,h9t,h9u,k9⟩;unfold K2 at hq;rw[ct8] at hq
             cases hE:es[q]? with
             |none=>rw[hE] at hq;cases hq
             |some e=>
              rw[hE] at hq;cases hq;have eb:=kbd e (cu0 hE);refine ⟨_,rfl,_,rfl,u,.int e.2,rfl,.inl ⟨K2 es,Sum.inl e.1,.inr ⟨o,h9u⟩,rfl,(bj4 knd hE).symm⟩,?_⟩;refine ⟨_,rfl,_,rfl,to,_,_,e.1.toNat,rfl,rfl,h9t,?_,?_⟩
              · unfold Z0;rw[ct1,V7,if_pos eb.1,if_pos (by omega)]
              · refine ⟨_,rfl,?_,by rw[g8 nut];exact h9u,k9.upd_r hto⟩;rw[c7,j9 hE,bg3,List.map_set]
           · rintro σ H9 ⟨v8,rfl,h9t,h9u,k9⟩;rw[show (K2 es).length=es.length by unfold K2;rw[ct1],cw2] at h9t;have h9W:=k9.lst h6W
             have lb:bs.length<=2000:=by
               have:=rowsB.1;rw[ct6,ct1,cu2] at this;unfold K9 at this fewi;omega
             refine ⟨_,rfl,.inl ⟨rfl,_,i4.of h9W⟩,_,rfl,W,_,_,rfl,rfl,h9W,cy0 (show _<=2000 by rw[ct1];omega) (by decide),?_⟩;have nWt:W≠to:=h7 h6W hto;have k9':Kp H3 (c8 H9 W (.lst (bs.map V.ref++[V.ref to]))):=(k6.trans k9).upd_r hW
             have r9:j7 (c8 H9 W (.lst (bs.map V.ref++[V.ref to]))) (bs++[to]) ((K9 (laid.take j) ways++(ways.take k).map (o9 row))++[o9 row es]):=by
               refine K3 (l8 (k9.rows rowsB) fun b hb v e=> ?_) (by rw[g8 nWt.symm];exact h9t);rw[g8 (show b≠W from fun z=>Wb (z▸hb))];exact e
             refine ⟨bs++[to],_,_,_,rfl,by rw[c7,ct9];rfl,?_,?_,fun b hb=> ?_,fun z=> ?_,k9'⟩
             · have eb:(ways.take (k+1)).map (o9 row)=(ways.take k).map (o9 row)++[o9 row es]:=by rw[j9 hes,ct9];rfl
               rw[eb,<-cu6];exact r9
             · rw[cy3];refine ⟨bnd,by simp,fun x hx z hz e=> ?_⟩;rw[cv6.mp hz] at e;obtain ⟨r,hr⟩:=Y0 rowsB hx;rw[e,hto] at hr;cases hr
             · rcases cu5.mp hb with z|z
               · exact bfr b z
               · rw[cv6.mp z];exact k6.fr to hto
             · rcases cu5.mp z with z|z
               · exact Wb z
               · exact nWt (cv6.mp z)
       · rintro σ H6 ⟨bs,v6,v7,v8,rfl,h6W,rowsB,bnd,bfr,Wb,k6⟩;refine ⟨bs,_,v6,v7,v8,rfl,h6W,?_,bnd,bfr,Wb,k6⟩;rw[ct1,atu.1,cw2] at rowsB
         have e:K9 (laid.take (j+1)) ways=K9 (laid.take j) ways++ways.map (o9 row):=by
           unfold K9;rw[j9 hrow,de0,cz7,df7,cw0]
         rw[e];exact rowsB
     · rintro σ H5 ⟨bs,v5,v6,v7,v8,rfl,h5W,rowsB,bnd,bfr,Wb,k5⟩;rw[ct1,rows.1,cw2] at rowsB;exact ⟨_,rfl,W,bs,_,_,_,_,_,_,rfl,h5W,rowsB,bnd,fun b hb=>k3.fr b (bfr b hb),k3.trans k5⟩
   · rintro σ H3 ⟨F,ts,v3,v4,v5,v6,v7,v8,rfl,h3F,rows,tnd,tfr,k3⟩;rw[ct1,atc.1,cw2] at rows;refine ⟨_,rfl,F,ts,_,rfl,i4.of h3F,rows,fun bs rs o pb pr rowsB srt ho=> ?_⟩;have s4:c9 H3 (c8 H3 o (.lst (bs.map V.ref))):=c9.upd_new ho;refine q o bs rs _ (k3.fr o ho) c7 (l8 rowsB fun b _ u e=>s4 _ _ e) pr srt (pb.nodup_iff.mpr tnd) (fun b hb=>tfr b (pb.mem_iff.mp hb)) (fun z=> ?_) (k3.trans (Kp.of s4));obtain ⟨r,hr⟩:=Y0 rowsB z;rw[ho] at hr;cases hr
end
end My
namespace My
open PySem L2 Mth
section
theorem ae1 {rs:List (List Int)}{l:Nat}{r:List Int}(h:r∈C2 rs l):r∈rs/\r.length=l:=by
 unfold C2 at h;obtain ⟨a,b⟩:=da6.mp h;exact ⟨a,of_decide_eq_true b⟩
theorem ah6 (f:List Int->Bool):∀rs:List (List Int),((rs.filter f).flatten).Sublist rs.flatten
 |[]=>List.Sublist.refl _
 |r::rs=>by
  by_cases c:f r=true
  · rw[de6 c,cz1,cz1];exact (ah6 f rs).append_left r
  · rw[de7 c,cz1];exact (ah6 f rs).trans (List.sublist_append_right _ _)
theorem W3 (rs:List (List Int))(l:Nat):(C2 rs l).flatten.Sublist rs.flatten:=ah6 _ rs
theorem rsb {p:List Int}(tp:A0 p){i:Nat}{rs:List (List Int)}(up:y8 p i rs):∀r∈rs,1<=r.length/\r.length<=p.length:=fun r hr=>by
 obtain ⟨y,L,hy,pr,er,_⟩:=up.ring r hr
 have b:=N6 tp hy (m:=L) fun i i0 i1=>pr.least i i0 i1
 have:=pr.pos;rw[er,w9];omega
theorem bz2 (laid:List (List Int))(c:List (List (Int×Int))):(K9 laid c).length=laid.length*c.length:=by
 unfold K9
 exact an8 fun t _=>by rw[ct1]
theorem Z8 (p:List Int)(f:Nat->List (List (Int×Int)))(g:Nat->Nat):∀n (ks:List Nat),ks.length<=n->(∀k∈ks,(f k).length=g k)->(M0 p (ks.map f)).length=o8 g ks
 |0,ks,h,_=>by
  obtain rfl:ks=[]:=di1.mp (by omega);rfl
 |n+1,ks,h,hf=>by
  by_cases c:ks=[]
  · rw[c];rfl
  · have e:=(List.dropLast_concat_getLast c).symm;have hx:ks.getLast c∈ks:=List.getLast_mem c;generalize ks.getLast c=x at e hx
    have hd:∀k∈ks.dropLast,k∈ks:=fun k hk=>by rw[e];exact cx6 _ hk
    have hl:ks.dropLast.length<=n:=by rw[List.length_dropLast];omega
    generalize ks.dropLast=ks' at e hd hl;rw[e,ct9,show [x].map f=[f x] from rfl,ar1,bz2,ap8,Z8 p f g n ks' hl (fun k hk=>hf k (hd k hk)),hf x hx]
theorem ao0 {g:Nat->Nat}:∀{ks:List Nat},(∀k∈ks,1<=g k)->1<=o8 g ks
 |[],_=>ct4 _
 |x::ks,h=>Nat.mul_pos (h x ct7) (ao0 fun k hk=>h k (ct5 _ hk))
theorem cf6 {g:Nat->Nat}{ks:List Nat}(h:∀k∈ks,1<=g k){k:Nat}(hk:k∈ks):g k<=o8 g ks:=by
 induction ks with
 |nil=>cases hk
 |cons x ks ih=>
  show g k<=g x*o8 g ks
  rcases cv5.mp hk with rfl|hk
  · exact Nat.le_mul_of_pos_right _ (ao0 fun k hk=>h k (ct5 _ hk))
  · exact cw7 (ih (fun k hk=>h k (ct5 _ hk)) hk) (Nat.le_mul_of_pos_left _ (h x ct7))
theorem bu6 {g:Nat->Nat}{ks:List Nat}(h:∀k∈ks,1<=g k)(i:Nat):o8 g (ks.take i)<=o8 g ks:=by
 have e:=ag4 g (ks.take i) (ks.drop i);rw[cx4] at e;rw[e];exact Nat.le_mul_of_pos_right _ (ao0 fun k hk=>h k (db6 hk))
end
end My
namespace My
open PySem L2 Mth
section
variable {P:Program} {w:World} {K:PySem.W.Frag} {mg:Str->Option Value} {base:Heap} {zyy zyz zxx zzy zzx zyx zzz zx zxz zxy zwz:Addr}
theorem cf7 {a b:Addr}{n:Nat}{g:TG}{tb:TS}{D:R7}{σ:St}{H:Hp}(Pv:Nat->St->Hp->Prop)(h0:Pv 0 σ H)
   (hl:∀i σ H,i<=n->Pv i σ H->∃xs zs,H a=some (.lst xs)/\H b=some (.lst zs)/\xs.length=n/\zs.length=n)
   (hs:∀i x y σ H t xs zs,i < n->H a=some (.lst xs)->H b=some (.lst zs)->xs[i]? =some x->zs[i]? =some y->Pv i σ H->H t=none->g (.ref t) σ (c8 H t (.tup [x,y])) fun σ2 H2=>tb {D with nx:=Pv (i+1),ct:=Pv (i+1),bk:=D.nx} σ2 H2) (hd:∀σ H,Pv n σ H->D.nx σ H):
   ∃W:Nat->Nat->St->Hp->Prop,(∃m,W 0 m σ H)/\∀i m σ H,W i m σ H->
    ((Itz a b).stop i H/\D.nx σ H)\/((Itz a b).go i H/\∃N:St->Hp->Prop,(∀σ' H',N σ' H'->∃m',m' < m/\W (i+1) m' σ' H')/\∀x H',(Itz a b).yld i H x H'->g x σ H' fun σ2 H2=>tb {D with nx:=N,ct:=N,bk:=D.nx} σ2 H2):=by
 refine ⟨fun i m σ H=>m=n - i/\i<=n/\Pv i σ H,⟨n,by simp,cv9 _,h0⟩,?_⟩;rintro i m σ H ⟨rfl,hi,p⟩;obtain ⟨xs,zs,h1,h2,l1,l2⟩:=hl i σ H hi p
 by_cases hlt:i < n
 · refine .inr ⟨⟨xs,zs,xs[i],zs[i],h1,h2,by simp [l1,hlt],by simp [l2,hlt]⟩,Pv (i+1),fun σ' H' p'=>⟨n - (i+1),by omega,rfl,hlt,p'⟩,fun x H' y=> ?_⟩;obtain ⟨x',y',t,y1,y2,y3,e1,e2⟩:=y;subst e1 e2;exact hs i x' y' σ _ t xs zs hlt h1 h2 (y1 xs h1) (y2 zs h2) p y3
 · have e:i=n:=by omega
   subst e;exact .inl ⟨⟨xs,zs,h1,h2,.inl (by omega)⟩,hd σ H p⟩
def A1 (r s:List Int):List (Int×Int):=(cw9 r.length).map fun j=>(r.getD j 0,s.getD j 0)
theorem ah7 (r s:List Int):(A1 r s).length=r.length:=by unfold A1;rw[ct1,cx9]
theorem ar2 (r s:List Int):(A1 r s).map (·.1)=r:=by
 unfold A1;rw[cy6]
 refine List.ext_getElem (by simp) fun i h1 h2=> ?_
 rw[List.getElem_map,List.getElem_range];show r.getD i 0=r[i];exact E3 h2
theorem ae2 {r s:List Int}{j:Nat}(h:j < r.length):(A1 r s)[j]? =some (r.getD j 0,s.getD j 0):=by
 unfold A1;rw[ct8,da1 h];rfl
def ak8:Sp:=fun vs H Q _=>∃(d r m:Addr) (es:List (Int×Int)) (rs ms:List Int),vs=[.ref d,.ref r,.ref m]/\H d=some (.dK (K2 es))/\H r=some (.lst (rs.map V.int))/\H m=some (.lst (ms.map V.int))/\rs.length=ms.length/\rs.Nodup/\(∀x∈rs,x∉es.map (·.1))/\es.length<=400/\rs.length<=400/\
 ∀(H':Hp),H' d=some (.dK (K2 (es++A1 rs ms)))->i7 d H H'->Q .non H'
theorem Y4:o5 ["target","ring","image","thing","place"] ["target","ring","image"] (j5 aa4):=by rfl'
theorem be2 {f:Addr}{fd:FuncData}(F:D3 K "send_over" "send_over" aa4 f fd)(B:Bl mg):m7 P w K mg base E7 1 f fd ["target","ring","image"] ak8:=by
 refine F.ok Y4 (fun vs H Q E h=> ?_) (fun cdv A outer s H vs Q E hr h=> ?_)
 · obtain ⟨d,r,m,es,rs,ms,rfl,hd,hrr,hm,ln,nd,dis,le,lr,q⟩:=h;rfl
 · obtain ⟨d,r,m,es,rs,ms,rfl,hd,hrr,hm,ln,nd,dis,le,lr,q⟩:=h;have hu:=O3 hr;refine ⟨_,@h8 _ _ _ (@x8 _ _ _ _ _ _ _ _ PassesOwn.never rfl (@cj2 _ _ _ _ _ _ _ _ _ B.zip (@c5 _ _ _ _ _ (pv 1) (@c5 _ _ _ _ _ (pv 2) (@c6 _) (by rfl)) (by rfl)) (by rfl) (by rfl) (by rfl)) (@Q4 _ _ _ _ _ _ rfl (@A5 _ _ _ _ _ (@i9 _ _ (3) _ Y4.nd rfl (Or.inl rfl) (by trivial)) (@A5 _ _ _ _ _ (@i9 _ _ (4) _ Y4.nd rfl (Or.inl rfl) (by trivial)) (@N0 _) (by rfl)) (by rfl)) (by rfl) (by rfl)) (@h8 _ _ _ (@aj6 _ _ _ _ _ _ _ _ _ hu (pv 0) (pv 3) (pv 4) rfl)) (by intro _;rfl)),?_⟩
   have nrd:r≠d:=fun z=>by rw[z,hd] at hrr;cases hrr
   have nmd:m≠d:=fun z=>by rw[z,hd] at hm;cases hm
   refine ⟨_,rfl,_,rfl,r,m,_,_,rfl,hrr,hm,cf7 (n:=rs.length) (fun i σ H2=>∃(v3 v4:Option V),σ=[some (.ref d),some (.ref r),some (.ref m),v3,v4]/\H2 d=some (.dK (K2 (es++(A1 rs ms).take i)))/\i7 d H H2)
     ⟨none,none,rfl,by rw[db7,cw0];exact hd,i7.refl _ _⟩
     (fun i σ H2 _ ⟨_,_,_,_,kb⟩=>⟨_,_,kb _ _ hrr nrd,kb _ _ hm nmd,ct1 ..,by rw[ct1,ln]⟩) ?_ ?_⟩
   · rintro i x y σ H2 tp xs zs hi hx hz ex ey ⟨v3,v4,rfl,h2d,kb⟩ htp;rw[kb _ _ hrr nrd] at hx;rw[kb _ _ hm nmd] at hz;cases hx;cases hz;obtain ⟨x,hx,rfl⟩:=G4 ex;obtain ⟨y,hy,rfl⟩:=G4 ey;have s3:c9 H2 (c8 H2 tp (.tup [.int x,.int y])):=c9.upd_new htp;have h3t:(c8 H2 tp (.tup [.int x,.int y])) tp=some (.tup [.int x,.int y]):=c7;generalize (c8 H2 tp (.tup [.int x,.int y]))=H3 at s3 h3t ⊢
     have ge:(A1 rs ms)[i]? =some (x,y):=by
       rw[ae2 hi,cu9,cu9,hx,hy];rfl
     have lse:=ah7 rs ms
     have nz:x∉(es++(A1 rs ms).take i).map (·.1):=fun z=>by
       rw[ct9,dd9,ar2] at z
       rcases cu5.mp z with z|z
       · exact dis x (cu0 hx) z
       · obtain ⟨j,hj⟩:=cw5.mp z
         have jl:j < i:=by
           have:=(ct3.mp hj).1;rw[cu2] at this;omega
         rw[cx5 jl] at hj;obtain ⟨a1,a2⟩:=ct3.mp hj;obtain ⟨b1,b2⟩:=ct3.mp hx;exact cw3.mp (cv8.mp nd) j i a1 b1 jl (by rw[a2,b2])
     have lk:(K2 (es++(A1 rs ms).take i)).length<=900:=by
       unfold K2;rw[ct1,ct6,cu2,lse];omega
     refine ⟨tp,_,rfl,Q3.of h3t,rfl,_,_,rfl,_,_,rfl,rfl,?_⟩;refine ⟨_,rfl,_,rfl,_,rfl,d,_,rfl,af5.k (k:=Sum.inl x) (s3 _ _ h2d) (w6 (by omega)),?_⟩;rw[cf5 nz];refine ⟨_,_,rfl,?_,(kb.trans (s3.but d)).upd_a⟩;rw[c7,j9 ge,<-cu6]
   · rintro σ H2 ⟨v3,v4,rfl,h2d,kb⟩;rw[<-ah7 rs ms,cw2] at h2d;exact q H2 h2d kb
def A8:List (List Int)->List (List Int)->List (List (Int×Int))
 |[],_=>[[]]
 |r::rs,is=>(y6 is is.length).flatMap fun y=>(A8 rs y.2).map fun w=>w++A1 r y.1
def bm2 (H:Hp)(u:Addr)(es:List (Int×Int)):Prop:=H u=some (.dK (K2 es))
theorem L4:∀{rs is:List (List Int)} {w:List (Int×Int)},w∈A8 rs is->(w.map (·.1)).Perm rs.flatten
 |[],is,w,h=>by
  rw[cv6.mp (show w∈[[]] from h)];exact List.Perm.refl _
 |r::rs,is,w,h=>by
  obtain ⟨y,_,h2⟩:=db4.mp (show w∈(y6 is is.length).flatMap fun y=>(A8 rs y.2).map fun w=>w++A1 r y.1 from h);obtain ⟨w',hw,rfl⟩:=cu3.mp h2;rw[ct9,ar2,cz1];exact ((L4 hw).append_right r).trans cy5
def W4 (f:Nat):Sp:=fun vs H Q _=>∃(l:Addr) (as:List Addr) (rs:List (List Int)) (li:Addr) (bs:List Addr) (is:List (List Int)) (len:Nat),vs=[.ref l,.ref li]/\H l=some (.lst (as.map V.ref))/\j7 H as rs/\H li=some (.lst (bs.map V.ref))/\j7 H bs is/\rs.length<=f/\(∀r∈rs,r.length=len)/\(∀r∈is,r.length=len)/\len<=40/\rs.length<=40/\is.length<=40/\rs.flatten.Nodup/\rs.flatten.length<=40/\(A8 rs is).length<=2000/\
 ∀(o:Addr) (us:List Addr) (H':Hp),H o=none->c9 H H'->H' o=some (.lst (us.map V.ref))->us.Nodup->(∀u∈us,H u=none)->J1 (bm2 H') us (A8 rs is)->Q (.ref o) H'
theorem bj5 {H:Hp}{e l:Addr}(he:H e=none)(hl:(c8 H e (.dK [])) l=none):H l=none/\c9 H (c8 (c8 H e (.dK [])) l (.lst [V.ref e]))/\J1 (bm2 (c8 (c8 H e (.dK [])) l (.lst [V.ref e]))) [e] [[]]:=by
 have nel:l≠e:=fun z=>by rw[z,c7] at hl;cases hl
 have hl0:H l=none:=by rw[g8 nel] at hl;exact hl
 refine ⟨hl0,(c9.upd_new he).upd_r hl0,rfl,fun j t x e1 e2=> ?_⟩
 rcases j with _|j
 · cases e1;cases e2;show c8 _ _ _ _=_;rw[g8 nel.symm,c7];rfl
 · cases e1
theorem C0:o5 ["rings","images","ways","image","left","way"] ["rings","images"] (j5 T6):=by rfl'
theorem be3 {f:Addr}{fd:FuncData}(F:D3 K "ways_over" "ways_over" T6 f fd)(B:Bl mg)(zsz:r6 P w K mg base "picks_of" 1 ["rings"] ak7)(ztz:r6 P w K mg base "send_over" 1 ["target","ring","image"] ak8):m7 P w K mg base E7 2 f fd ["rings","images"] (W4 0):=by
 refine F.ok C0 (fun vs H Q E h=> ?_) (fun cdv A outer s H vs Q E hr h=> ?_)
 · obtain ⟨l,as,rs,li,bs,is,len,rfl,hl,rows,hli,rowsI,lf,hlen,hlenI,len40,r40,i40,nd,fl40,few,q⟩:=h;rfl
 · obtain ⟨l,as,rs,li,bs,is,len,rfl,hl,rows,hli,rowsI,lf,hlen,hlenI,len40,r40,i40,nd,fl40,few,q⟩:=h;have zo:m8 1 _:=hr.mono (by decide);have zqx:m8 1 _:=hr.mono (by decide);refine ⟨_,@e8 _ _ _ _ _ (@C1 _ _ _ _ _ _ _ _ (@o3 _ _ _ _ _ _ _ _ ai8 (@y7 _ _ _ _ _ B.len (@c5 _ _ _ _ _ (pv 0) (@c6 _) (by rfl)) (by rfl) (by rfl)) (@i6 _ _ _ _) (o7 _)) (@h8 _ _ _ (@k7 _ _ _ _ (@x3 _ _ _ _ (@c5 _ _ _ _ _ (@S0 _ _) (@c6 _) (by rfl))))) (@x6 _)) (@e8 _ _ _ _ _ (@i8 _ _ (2) _ _ _ _ C0.nd rfl (Or.inl rfl) (@x3 _ _ _ _ (@c6 _)) (by rfl) (by trivial)) (@e8 _ _ _ _ _ (@x8 _ _ _ _ _ _ _ _ PassesOwn.never rfl (@C5 _ _ _ _ (@j6 _ _ _ _ _ _ _ _ _ _ zsz zo (@c5 _ _ _ _ _ (pv 1) (@c6 _) (by rfl)) (by rfl) (by decide) (by rfl) (by rfl))) (@Q4 _ _ _ _ _ _ rfl (@A5 _ _ _ _ _ (@i9 _ _ (3) _ C0.nd rfl (Or.inl rfl) (by trivial)) (@A5 _ _ _ _ _ (@i9 _ _ (4) _ C0.nd rfl (Or.inl rfl) (by trivial)) (@N0 _) (by rfl)) (by rfl)) (by rfl) (by rfl)) (@h8 _ _ _ (@x8 _ _ _ _ _ _ _ _ PassesOwn.never rfl (@C5 _ _ _ _ (@bx7 _ _)) (@i9 _ _ (5) _ C0.nd rfl (Or.inl rfl) (by trivial)) (@e8 _ _ _ _ _ (@C4 _ _ _ _ (@j6 _ _ _ _ _ _ _ _ _ _ ztz zqx (@c5 _ _ _ _ _ (pv 5) (@c5 _ _ _ _ _ (@G9 _ _ _ _ _ _ _ B7 (pv 0) (@i6 _ _ _ _) (fun _ _=>rfl)) (@c5 _ _ _ _ _ (pv 3) (@c6 _) (by rfl)) (by rfl)) (by rfl)) (by rfl) (by decide) (by rfl) (by rfl)) (by rfl)) (@h8 _ _ _ (@C4 _ _ _ _ (@D5 _ _ _ _ _ _ _ (pv 2) (@c5 _ _ _ _ _ (pv 5) (@c6 _) (by rfl)) (by rfl) (by rfl) (by rfl) (by rfl) (by rfl)) (by rfl)))) (by intro _;rfl))) (by intro _;rfl)) (@h8 _ _ _ (@k7 _ _ _ _ (pv 2))))),?_⟩;refine ⟨_,rfl,l,_,rfl,.inl (i4.of hl),rfl,_,rfl,?_⟩;have er:rs=[]:=da9 (by omega);subst er;rw[ct1,rows.1];refine S1 (fun _=> ?_) (fun h=>absurd (decide_eq_true rfl) h)
   refine fun e he=>⟨(show 1<=sizeLine by decide),fun o ho=> ?_⟩
   obtain ⟨a1,a2,a3⟩:=bj5 he ho;exact q o [e] _ a1 a2 c7 (by simp) (fun b hb=>by rw[cv6.mp hb];exact he) a3
theorem ax6 {d k:Nat}{f:Addr}{fd:FuncData}(F:D3 K "ways_over" "ways_over" T6 f fd)(B:Bl mg)(zsz:r6 P w K mg base "picks_of" 1 ["rings"] ak7)(zty:r6 P w K mg base "ways_over" (k+2) ["rings","images"] (W4 d))(ztz:r6 P w K mg base "send_over" 1 ["target","ring","image"] ak8):m7 P w K mg base E7 (k+2+1) f fd ["rings","images"] (W4 (d+1)):=by
 refine F.ok C0 (fun vs H Q E h=> ?_) (fun cdv A outer s H vs Q E hr h=> ?_)
 · obtain ⟨l,as,rs,li,bs,is,len,rfl,hl,rows,hli,rowsI,lf,hlen,hlenI,len40,r40,i40,nd,fl40,few,q⟩:=h;rfl
 · obtain ⟨l,as,rs,li,bs,is,len,rfl,hl,rows,hli,rowsI,lf,hlen,hlenI,len40,r40,i40,nd,fl40,few,q⟩:=h;have zo:m8 1 _:=hr.mono (by omega);have zpz:m8 (k+2) _:=hr.mono (by omega);have zqx:m8 1 _:=hr.mono (by omega);refine ⟨_,@e8 _ _ _ _ _ (@C1 _ _ _ _ _ _ _ _ (@o3 _ _ _ _ _ _ _ _ ai8 (@y7 _ _ _ _ _ B.len (@c5 _ _ _ _ _ (pv 0) (@c6 _) (by rfl)) (by rfl) (by rfl)) (@i6 _ _ _ _) (o7 _)) (@h8 _ _ _ (@k7 _ _ _ _ (@x3 _ _ _ _ (@c5 _ _ _ _ _ (@S0 _ _) (@c6 _) (by rfl))))) (@x6 _)) (@e8 _ _ _ _ _ (@i8 _ _ (2) _ _ _ _ C0.nd rfl (Or.inl rfl) (@x3 _ _ _ _ (@c6 _)) (by rfl) (by trivial)) (@e8 _ _ _ _ _ (@x8 _ _ _ _ _ _ _ _ PassesOwn.never rfl (@C5 _ _ _ _ (@j6 _ _ _ _ _ _ _ _ _ _ zsz zo (@c5 _ _ _ _ _ (pv 1) (@c6 _) (by rfl)) (by rfl) (by decide) (by rfl) (by rfl))) (@Q4 _ _ _ _ _ _ rfl (@A5 _ _ _ _ _ (@i9 _ _ (3) _ C0.nd rfl (Or.inl rfl) (by trivial)) (@A5 _ _ _ _ _ (@i9 _ _ (4) _ C0.nd rfl (Or.inl rfl) (by trivial)) (@N0 _) (by rfl)) (by rfl)) (by rfl) (by rfl)) (@h8 _ _ _ (@x8 _ _ _ _ _ _ _ _ PassesOwn.never rfl (@C5 _ _ _ _ (@j6 _ _ _ _ _ _ _ _ _ _ zty zpz (@c5 _ _ _ _ _ (@M3 _ _ _ _ _ _ _ _ _ _ P1 (pv 0) (@N4 _ _ _ (@i6 _ _ _ _)) (@R8 _)) (@c5 _ _ _ _ _ (pv 4) (@c6 _) (by rfl)) (by rfl)) (by rfl) (by decide) (by rfl) (by rfl))) (@i9 _ _ (5) _ C0.nd rfl (Or.inl rfl) (by trivial)) (@e8 _ _ _ _ _ (@C4 _ _ _ _ (@j6 _ _ _ _ _ _ _ _ _ _ ztz zqx (@c5 _ _ _ _ _ (pv 5) (@c5 _ _ _ _ _ (@G9 _ _ _ _ _ _ _ B7 (pv 0) (@i6 _ _ _ _) (fun _ _=>rfl)) (@c5 _ _ _ _ _ (pv 3) (@c6 _) (by rfl)) (by rfl)) (by rfl)) (by rfl) (by decide) (by rfl) (by rfl)) (by rfl)) (@h8 _ _ _ (@C4 _ _ _ _ (@D5 _ _ _ _ _ _ _ (pv 2) (@c5 _ _ _ _ _ (pv 5) (@c6 _) (by rfl)) (by rfl) (by rfl) (by rfl) (by rfl) (by rfl)) (by rfl)))) (by intro _;rfl))) (by intro _;rfl)) (@h8 _ _ _ (@k7 _ _ _ _ (pv 2))))),?_⟩;refine ⟨_,rfl,l,_,rfl,.inl (i4.of hl),rfl,_,rfl,?_⟩
   cases rs with
   |nil=>
    rw[ct1,rows.1];refine S1 (fun _=> ?_) (fun h=>absurd (decide_eq_true rfl) h)
    refine fun e he=>⟨(show 1<=sizeLine by decide),fun o ho=> ?_⟩
    obtain ⟨a1,a2,a3⟩:=bj5 he ho;exact q o [e] _ a1 a2 c7 (by simp) (fun b hb=>by rw[cv6.mp hb];exact he) a3
   |cons r0 rs=>
   obtain ⟨ra0,as,rfl⟩:∃a as',as=a::as':=by
     cases as with
     |nil=>have:=rows.1;simp at this
     |cons a as=>exact ⟨a,as,rfl⟩
   rw[decide_eq_false (fun z=>by have:=V.int.inj z;rw[ct1,cv7] at this;omega)];refine C7 ?_;refine ⟨cv9 _,fun W hW=> ?_⟩;have s1:c9 H (c8 H W (.lst [])):=c9.upd_new hW;have h1W:(c8 H W (.lst [])) W=some (.lst (([]:List Addr).map V.ref)):=c7;generalize (c8 H W (.lst []))=H1 at s1 h1W ⊢;have nlW:l≠W:=h7 hl hW
   have ewf:A8 (r0::rs) is=(y6 is is.length).flatMap fun y=>(A8 rs y.2).map fun w=>w++A1 r0 y.1:=rfl
   rw[ewf] at few q;have h0a:H ra0=some (.lst (r0.map V.int)):=rows.2 0 ra0 r0 rfl rfl
   have g40:∀r∈is,r.length<=40:=fun r hr'=>by rw[hlenI r hr'];exact len40
   have rowsT:j7 H as rs:=⟨by simpa using rows.1,fun j a r e1 e2=>rows.2 (j+1) a r e1 e2⟩;rw[cz1] at nd fl40;have ndc:=cy3.mp nd;rw[ct6] at fl40;have l0:r0.length=len:=hlen r0 ct7;refine ⟨_,rfl,li,bs,is,[W],rfl,s1 _ _ hli,l8 rowsI fun b _ u e=>by rw[Y1 fun z=>(h7 e hW) (cv6.mp z)];exact s1 _ _ e,fun z hz=>by rw[cv6.mp hz];exact ⟨_,h1W⟩,i40,g40,fun F ts H3 hF s3 h3F atp=> ?_⟩;have nFW:F≠W:=(h7 h1W hF).symm;have s03:=s1.trans s3
   refine ⟨F,rfl,⟨_,i4.of h3F⟩,G6 (K:=K) (a:=F) (xs:=ts.map V.ref) (fun j σ H4=>∃(us:List Addr) (v3 v4 v5:Option V),σ=[some (.ref l),some (.ref li),some (.ref W),v3,v4,v5]/\H4 W=some (.lst (us.map V.ref))/\us.Nodup/\(∀u∈us,H u=none)/\J1 (bm2 H4) us (((y6 is is.length).take j).flatMap fun y=>(A8 rs y.2).map fun w=>w++A1 r0 y.1)/\i7 W H3 H4)
     ⟨[],none,none,none,rfl,s3 _ _ h1W,cz8,(fun u hu=>by cases hu),J1.nil,i7.refl _ _⟩ (fun j σ H4 _ zz=>by obtain ⟨_,_,_,_,_,_,_,_,_,k⟩:=zz;exact i4.of (k _ _ h3F nFW)) ?_ ?_⟩
   · rintro j y σ H4 hj ⟨us,v3,v4,v5,rfl,h4W,und,ufr,atu,kb4⟩;rw[ct8] at hj;obtain ⟨t,ht,rfl⟩:=cy2.mp hj;obtain ⟨x,hx,px⟩:=atp.get ht;obtain ⟨c,xl,cs,k1,k2,k3,k4⟩:=px.keep (bd8 (ct5 _ ct7) kb4);have g1:=(Q9 k1).2;have g2:=(Q9 k2).2;have g3:=(Q9 k3).2
     have g4:=l8 k4 fun b _ u e=>(Q9 e).2
     have ncW:c≠W:=fun z=>(Q9 k2).1 (by rw[z];simp)
     have xm:=cu0 hx;obtain ⟨sub1,sub2⟩:=Y3 _ xm;obtain ⟨pm,plen,r',hr',pr'⟩:=U2 _ (ct4 _) xm;have s04:c9 H H4:=s03.kb kb4 hW;refine ⟨t,_,rfl,Q3.of g1,rfl,_,_,rfl,_,_,rfl,rfl,?_⟩;refine ⟨_,rfl,_,rfl,l,_,rfl,i4.of (s04 _ _ hl),fun sl hsl=> ?_⟩
     have ec:M4 ((ra0::as).map V.ref) (some 1) none=as.map V.ref:=by
       unfold M4;rw[show (some (1:Int))=some ((1:Nat):Int) from rfl,HT.cr6,HT.cq2,dd0 (by simp),cz2 (by simp)];rfl
     rw[ec];have s5:c9 H4 (c8 H4 sl (.lst (as.map V.ref))):=c9.upd_new hsl;have h5s:(c8 H4 sl (.lst (as.map V.ref))) sl=some (.lst (as.map V.ref)):=c7;generalize (c8 H4 sl (.lst (as.map V.ref)))=H5 at s5 h5s ⊢;have tot:=bj3 (f:=fun y:List Int×List (List Int)=>(A8 rs y.2).map fun w=>w++A1 r0 y.1) hx;rw[ct1] at tot;refine ⟨_,rfl,sl,as,rs,xl,cs,x.2,len,rfl,h5s,l8 rowsT fun b _ u e=>s5 _ _ (s04 _ _ e),s5 _ _ g3,l8 g4 fun b _ u e=>s5 _ _ e,by rw[cv7] at lf;omega,fun r hr=>hlen r (ct5 _ hr),fun r hr=>hlenI r (sub2 r hr),len40,by rw[cv7] at r40;omega,by omega,ndc.2.1,by omega,by omega,fun o vs H6 ho s6 h6o vnd vno atv=> ?_⟩;have h5W:=s5 _ _ h4W
     have Wv:W∉vs:=fun z=>by have:=vno W z;rw[h5W] at this;cases this
     have usv:∀u∈us,u∉vs:=fun u hu z=>by
       obtain ⟨jj,hjj⟩:=cw5.mp hu;obtain ⟨w,_,hw⟩:=atu.get hjj;have e:=vno u z;rw[s5 _ _ hw] at e;cases e
     have ov:o∉vs:=fun z=>by
       obtain ⟨jj,hjj⟩:=cw5.mp z;obtain ⟨w,_,hw⟩:=atv.get hjj;have hw:H6 o=_:=hw;rw[h6o] at hw;cases hw
     have noW:o≠W:=(h7 h5W ho).symm;have aul:=atu.1;have vl:=atv.1
     have inv:∀{b:Addr} {u:HO},H5 b=some u->b∉vs:=fun {b u} e z=>by have:=vno b z;rw[e] at this;cases this
     have g5l:=s5 _ _ (s04 _ _ hl);have g5a:=s5 _ _ (s04 _ _ h0a);have g5c:=s5 _ _ g2;have naW:ra0≠W:=h7 h0a hW
     refine ⟨o,rfl,⟨_,i4.of h6o⟩,G6 (K:=K) (a:=o) (xs:=vs.map V.ref) (fun k σ H7=>∃(v5:Option V),σ=[some (.ref l),some (.ref li),some (.ref W),some (.ref c),some (.ref xl),v5]/\H7 W=some (.lst ((us++vs.take k).map V.ref))/\J1 (bm2 H7) (us++vs.take k) (((y6 is is.length).take j).flatMap (fun y=>(A8 rs y.2).map fun w=>w++A1 r0 y.1)++((A8 rs x.2).take k).map fun w=>w++A1 r0 x.1)/\(∀jj,k<=jj->∀u w,vs[jj]? =some u->(A8 rs x.2)[jj]? =some w->H7 u=some (.dK (K2 w)))/\(∀a u,a≠W->a∉vs->H6 a=some u->H7 a=some u))
       ⟨v5,rfl,by rw[db7,cw0];exact s6 _ _ h5W,by rw[db7,db7,dc2,cw0,cw0];exact atu.imp fun u w _ h=>s6 _ _ (s5 _ _ h),fun jj _ u w e1 e2=>atv.2 jj u w e1 e2,fun a u _ _ e=>e⟩ (fun k σ H7 _ zz=>by obtain ⟨_,_,_,_,_,kk⟩:=zz;exact i4.of (kk _ _ noW ov h6o)) ?_ ?_⟩
     · rintro k y σ H7 hk ⟨v5,rfl,h7W,at7,todo,keep7⟩;rw[ct8] at hk;obtain ⟨u,hu,rfl⟩:=cy2.mp hk;obtain ⟨w,hw,_⟩:=atv.get hu;have h7u:H7 u=some (.dK (K2 w)):=todo k (ct4 _) u w hu hw;have um:=cu0 hu
       have nuW:u≠W:=fun z=>Wv (z▸um)
       have wk:=L4 (cu0 hw)
       have wl:w.length=rs.flatten.length:=by rw[<-wk.length_eq,ct1]
       refine ⟨_,rfl,_,rfl,l,_,_,_,rfl,rfl,i4.of (keep7 _ _ nlW (inv g5l) (s6 _ _ g5l)),G0 (j:=0) rfl,_,rfl,u,ra0,c,w,r0,x.1,rfl,h7u,keep7 _ _ naW (inv g5a) (s6 _ _ g5a),keep7 _ _ ncW (inv g5c) (s6 _ _ g5c),by rw[l0,pr'.length_eq,hlenI r' hr'],ndc.1,fun z hz hz2=>ndc.2.2 z hz z (wk.mem_iff.mp hz2) rfl,by omega,by omega,fun H8 h8u kb8=> ?_⟩;have h8W:=kb8 _ _ h7W nuW.symm;have ltk:(vs.take k).length<=vs.length:=List.length_take_le' _ _;refine ⟨_,rfl,.inl ⟨rfl,_,i4.of h8W⟩,_,rfl,W,_,_,rfl,rfl,h8W,cy0 (show _<=2000 by rw[ct1,ct6];omega) (by decide),?_⟩;rw[show (us++vs.take k).map V.ref++[V.ref u]=(us++vs.take (k+1)).map V.ref by rw[j9 hu,<-cu6,ct9 (l₂:=[u])];rfl]
       have un:∀t∈us++vs.take k,t≠u:=fun t ht z=>by
         subst z
         rcases cu5.mp ht with y|y
         · exact usv t y um
         · obtain ⟨jj,hjj⟩:=cw5.mp y;rw[dg8] at hjj
           by_cases c:jj < k
           · rw[if_pos c] at hjj;have a1:=(ct3.mp hjj).1;have a2:=(ct3.mp hu).1;exact cw3.mp (cv8.mp vnd) jj k a1 a2 c (by rw[(ct3.mp hjj).2,(ct3.mp hu).2])
           · rw[if_neg c] at hjj;cases hjj
       refine ⟨_,rfl,c7,?_,fun jj hjj u2 w2 e1 e2=> ?_,fun a v na nv e=> ?_⟩
       · have ea:us++vs.take (k+1)=(us++vs.take k)++[u]:=by rw[j9 hu,cu6]
         have eb:((A8 rs x.2).take (k+1)).map (fun w=>w++A1 r0 x.1)=((A8 rs x.2).take k).map (fun w=>w++A1 r0 x.1)++[w++A1 r0 x.1]:=by rw[j9 hw,ct9];rfl
         rw[ea,eb,<-cu6];refine J1.snoc (at7.imp fun t w2 ht h=> ?_) ?_
         · have h:H7 t=some (.dK (K2 w2)):=h;show c8 H8 W _ t=_;rw[g8 (show t≠W from fun z=>by rw[z,h7W] at h;cases h)];exact kb8 _ _ h (un t ht)
         · show c8 H8 W _ u=_;rw[g8 nuW,h8u]
       · have h:=todo jj (by omega) u2 w2 e1 e2;show c8 H8 W _ u2=_;rw[g8 (show u2≠W from fun z=>Wv (z▸cu0 e1))]
         refine kb8 _ _ h fun z=> ?_
         subst z;have a1:=(ct3.mp e1).1;have a2:=(ct3.mp hu).1;exact cw3.mp (cv8.mp vnd) k jj a2 a1 (by omega) (by rw[(ct3.mp e1).2,(ct3.mp hu).2])
       · rw[g8 na]
         exact kb8 _ _ (keep7 a v na nv e) fun z=>nv (z▸um)
     · rintro σ H7 ⟨v5,rfl,h7W,at7,todo,keep7⟩;rw[ct1,cw2] at h7W at7;rw[vl,cw2] at at7;refine ⟨us++vs,_,_,v5,rfl,h7W,?_,fun u hu=> ?_,?_,fun a u e na=> ?_⟩
       · rw[cy3];exact ⟨und,vnd,fun a ha b hb e=>usv a ha (e▸hb)⟩
       · rcases cu5.mp hu with z|z
         · exact ufr u z
         · exact (s04.trans s5).free (vno u z)
       · rw[j9 hx,de0,cz7,df7,cw0];exact at7
       · have e5:=s5 _ _ (kb4 _ _ e na);exact keep7 a u na (inv e5) (s6 _ _ e5)
   · rintro σ H4 ⟨us,v3,v4,v5,rfl,h4W,und,ufr,atu,kb4⟩;rw[ct1,atp.1,cw2] at atu;exact ⟨_,rfl,q W us H4 hW (s03.kb kb4 hW) h4W und ufr atu⟩
end
end My
namespace My
open PySem L2 Mth
section
variable {P:Program} {w:World} {K:PySem.W.Frag} {mg:Str->Option Value} {base:Heap} {zyy zyz zxx zzy zzx zyx zzz zx zxz zxy zwz:Addr}
theorem aw9 {k:Nat}:∀{rs is:List (List Int)},rs.length=is.length->(∀r∈is,r.length=k)->(A8 rs is).length=C8 k rs.length
 |[],is,_,_=>rfl
 |r::rs,is,hl,hk=>by
  have e:∀y∈y6 is is.length,((A8 rs y.2).map fun w=>w++A1 r y.1).length=C8 k rs.length:=fun y hy=>by
    rw[ct1];have pl:=(U2 _ (ct4 _) hy).2.1;have ps:=(Y3 _ hy).2;rw[cv7] at hl
    exact aw9 (by omega) fun r hr=>hk r (ps r hr)
  show ((y6 is is.length).flatMap fun y=>(A8 rs y.2).map fun w=>w++A1 r y.1).length=C8 k (rs.length+1);rw[an8 e,aw8 hk _ (ct4 _)];show _=C8 k rs.length*k*(rs.length+1);rw[<-hl,cv7,Nat.mul_comm,Nat.mul_comm (rs.length+1) k,dd1]
def J3 (rs:List (List Int))(k:Nat):List (List (Int×Int)):=A8 (C2 rs k) (C2 rs k)
theorem ah8 (rs:List (List Int))(k:Nat):(J3 rs k).length=C8 k (C9 rs k):=by
 unfold J3;rw[aw9 rfl fun r hr=>(ae1 hr).2]
 congr 1
 unfold C2 C9;rw[dg2]
noncomputable def J4 (p:List Int):Nat:=o8 (Z7 p) ((cw9 p.length).map (· +1))
structure U7 (p:List Int)(ts:List (List Int)):Prop where
 len:ts.length=J4 p
 srt:ts.Pairwise (fun r r'=>HT.aj1 r' r=false)
 src:∃ks:List Nat,ks.Nodup/\(∀k∈ks,∃r∈o6 p p.length,r.length=k)/\(∀r∈o6 p p.length,r.length∈ks)/\ts.Perm (M0 p (ks.map (J3 (o6 p p.length))))
def ah9:Sp:=fun vs H Q _=>∃n:Int,vs=[.int n]/\n<=2000/\Q .non H
theorem ab6:o5 ["many"] ["many"] (j5 O5):=by rfl'
theorem ab7 {f:Addr}{fd:FuncData}(F:D3 K "must_be_few" "must_be_few" O5 f fd)(zuy:∃t,mg "MOST_TOLD"=some (.int 2000 t)):m7 P w K mg base E7 1 f fd ["many"] ah9:=by
 refine F.ok ab6 (fun vs H Q E h=> ?_) (fun cdv A outer s H vs Q E hr h=> ?_)
 · obtain ⟨n,rfl,hn,q⟩:=h;rfl
 · obtain ⟨n,rfl,hn,q⟩:=h;obtain ⟨_,zoz⟩:=zuy;refine ⟨_,@h8 _ _ _ (@C1 _ _ _ _ _ _ _ _ (@o3 _ _ _ _ _ _ _ _ ai9 (pv 0) (@E9 _ _ (.int 2000) _ _ (by rfl) zoz ⟨_,rfl⟩ (by decide)) (o7 _)) (@h8 _ _ _ (@ay9 _ _)) (@x6 _)),?_⟩;refine ⟨_,rfl,_,_,rfl,rfl,_,rfl,?_⟩;rw[decide_eq_false (show ¬(2000:Int) < n by omega)];exact C7 q
def bm3 (H:Hp)(c:Addr)(ways:List (List (Int×Int))):Prop:=∃us,H c=some (.lst (us.map V.ref))/\J1 (ae0 H) us ways
theorem bm3.keep {H H':Hp}{c:Addr}{ways:List (List (Int×Int))}(h:bm3 H c ways)(s:c9 H H'):bm3 H' c ways:=by
 obtain ⟨us,a,b⟩:=h;exact ⟨us,s _ _ a,b.imp fun u es _ e=>(Kp.of s).tab u es e⟩
def ar3:Sp:=fun vs H Q _=>∃(a:Addr) (p:List Int),vs=[.ref a]/\E8 H a p/\J4 p<=2000/\∀(o:Addr) (bs:List Addr) (ts:List (List Int)) (H':Hp),H o=none->H' o=some (.lst (bs.map V.ref))->j7 H' bs ts->U7 p ts->bs.Nodup->(∀b∈bs,H b=none)->o∉bs->Kp H H'->Q (.ref o) H'
theorem aa6:o5 ["p","by_length"] ["p"] (j5 V4):=by rfl'
theorem T2:(["length","by_length"]:List Str).Nodup:=by decide+kernel
theorem am0 {f:Addr}{fd:FuncData}(F:D3 K "all_past" "all_past" V4 f fd)(zuz:r6 P w K mg base "must_be_few" 1 ["many"] ah9)(zy:r6 P w K mg base "how_many_past" 4 ["p"] ak6)(zwx:r6 P w K mg base "sort_by_length" 1 ["rings"] ak5)(zu:r6 P w K mg base "walk_rings" 2 ["p"] ak4)(ztx:r6 P w K mg base "lay_every_way" 1 ["p","choices"] bm1)(zty:r6 P w K mg base "ways_over" 42 ["rings","images"] (W4 40)):m7 P w K mg base E7 43 f fd ["p"] ar3:=by
 refine F.ok aa6 (fun vs H Q E h=> ?_) (fun cdv A outer s H vs Q E hr h=> ?_)
 · obtain ⟨a,p,rfl,⟨ha,tp,lp⟩,few,q⟩:=h;rfl
 · obtain ⟨a,p,rfl,⟨ha,tp,lp⟩,few,q⟩:=h;have zry:m8 1 _:=hr.mono (by decide);have zv:m8 4 _:=hr.mono (by decide);have zsx:m8 1 _:=hr.mono (by decide);have zq:m8 2 _:=hr.mono (by decide);have zmy:m8 1 _:=hr.mono (by decide);have zpz:m8 42 _:=hr.mono (by decide);have hu:=O3 hr;refine ⟨_,@e8 _ _ _ _ _ (@C4 _ _ _ _ (@j6 _ _ _ _ _ _ _ _ _ _ zuz zry (@c5 _ _ _ _ _ (@j6 _ _ _ _ _ _ _ _ _ _ zy zv (@c5 _ _ _ _ _ (pv 0) (@c6 _) (by rfl)) (by rfl) (by decide) (by rfl) (by rfl)) (@c6 _) (by rfl)) (by rfl) (by decide) (by rfl) (by rfl)) (by rfl)) (@e8 _ _ _ _ _ (@i8 _ _ (1) _ _ _ _ aa6.nd rfl (Or.inr rfl) (@j6 _ _ _ _ _ _ _ _ _ _ zwx zsx (@c5 _ _ _ _ _ (@j6 _ _ _ _ _ _ _ _ _ _ zu zq (@c5 _ _ _ _ _ (pv 0) (@c6 _) (by rfl)) (by rfl) (by decide) (by rfl) (by rfl)) (@c6 _) (by rfl)) (by rfl) (by decide) (by rfl) (by rfl)) (by rfl) (by trivial)) (@h8 _ _ _ (@k7 _ _ _ _ (@j6 _ _ _ _ _ _ _ _ _ _ ztx zmy (@c5 _ _ _ _ _ (pv 0) (@c5 _ _ _ _ _ (@aj8 _ _ _ _ _ _ _ _ _ _ _ (["length","by_length"]) (1) ([1]) rfl .of (@bh6 _ _ _ _ (pv 1)) (fun _ _ _ _ _=>@i9 _ _ (0) _ T2 rfl (Or.inl rfl) (by trivial)) (fun _ _ _ _ _=>(@X1 _)) (fun _ _ _ _ _=>(@j6 _ _ _ _ _ _ _ _ _ _ zty zpz (@c5 _ _ _ _ _ (@aj5 _ _ _ _ _ _ hu (pv 1) (pv 0) (fun _ _=>rfl)) (@c5 _ _ _ _ _ (@aj5 _ _ _ _ _ _ hu (pv 1) (pv 0) (fun _ _=>rfl)) (@c6 _) (by rfl)) (by rfl)) (by rfl) (by decide) (by rfl) (by rfl))) (by intro _;rfl)) (@c6 _) (by rfl)) (by rfl)) (by rfl) (by decide) (by rfl) (by rfl))))),?_⟩;refine ⟨_,rfl,a,p,rfl,⟨ha,tp,lp⟩,fun H1 s1=> ?_⟩;refine ⟨_,rfl,(show ((J4 p:Nat):Int)<=2000 by omega),?_⟩;refine ⟨_,rfl,a,p,rfl,⟨s1 a _ ha,tp,lp⟩,fun l as rs H2 hl s12 h2l rows up fa nda nla=> ?_⟩;have cl:=an4 up;have fl:=bd1 tp up;have ers:rs=o6 p p.length:=up.eq;refine ⟨l,as,rs,rfl,h2l,rows,by omega,fun d es H3 hd s23 h3d bl les fre=> ?_⟩;have s02:c9 H H2:=s1.trans s12;have s03:=s02.trans s23;have hd0:H d=none:=s02.free hd;refine ⟨_,rfl,_,rfl,d,x4 es,rfl,h3d,fun o=> ?_⟩;have sB:c9 H2 (c8 H3 d (.frz o (.dK (x4 es)))):=s23.upd_r hd;have hBd:(c8 H3 d (.frz o (.dK (x4 es)))) d=some (.frz o (.dK (x4 es))):=c7
   have kpB:∀c,c≠d->(c8 H3 d (.frz o (.dK (x4 es)))) c=H3 c:=fun c hc=>g8 hc
   generalize (c8 H3 d (.frz o (.dK (x4 es))))=HB at sB hBd kpB ⊢
   have lkv:(x4 es).length=es.length:=by unfold x4;rw[ct1]
   have hprod:o8 (fun l=>C8 l (C9 rs l)) (es.map (·.1))=J4 p:=by
     have hg:∀l,Z7 p (l+1)=C8 (l+1) (C9 rs (l+1)):=fun l=>by
       unfold Z7 ay4;rw[ag5 tp up (l+1),de8 _ (by omega)]
     unfold J4;rw[ag6 tp up bl.nk bl.key bl.all hg]
   have one:∀l c,1<=l->1<=C8 l c:=fun l c hl=>by
     induction c with
     |zero=>exact ct4 _
     |succ c ih=>exact Nat.mul_pos (Nat.mul_pos ih hl) (Nat.succ_pos _)
   have kpos:∀k∈es.map (·.1),1<=k/\k<=40:=fun k hk=>by
     obtain ⟨r,hr,lr⟩:=bl.key k hk;have:=rsb tp up r hr;omega
   have pos:∀k∈es.map (·.1),1<=C8 k (C9 rs k):=fun k hk=>one k _ (kpos k hk).1
   have fl40:∀k,(C2 rs k).flatten.length<=40/\(C2 rs k).length<=40:=fun k=>by
     have e2:=(W3 rs k).length_le
     have e3:(C2 rs k).length<=rs.length:=by unfold C2;exact df6 _ _
     omega
   have s0B:=s02.trans sB
   refine bs3 (d:=d) (o:=o) (kvs:=x4 es) (fun i ys σ H6=>∃(v:Option V) (cs:List Addr),σ=[v,some (.ref d)]/\ys=cs.map V.ref/\J1 (bm3 H6) cs (((es.take i).map (·.1)).map (J3 rs))/\c9 HB H6)
     ⟨none,[],rfl,rfl,J1.nil,c9.refl _⟩ (fun i ys σ H6 _ ⟨_,_,_,_,_,k⟩=>k _ _ hBd) ?_ ?_
   · rintro i k v ys σ H6 hi ⟨v0,cs,rfl,rfl,atc,s6⟩;unfold x4 at hi;rw[ct8] at hi;obtain ⟨e,hE,ee⟩:=cy2.mp hi;cases ee;have he:=cu0 hE;have hek:e.1∈es.map (·.1):=cu3.mpr ⟨e,he,rfl⟩;have il:i < es.length:=(ct3.mp hE).1;obtain ⟨bs,hbs,rbs⟩:=bl.row e he;have h6e:H6 e.2=some (.lst (bs.map V.ref)):=s6 _ _ (by rw[kpB _ (bl.nd e he)];exact hbs);have h6d:=s6 _ _ hBd;have s26:c9 H2 H6:=sB.trans s6
     have rb6:=l8 rbs fun b _ u x=>s26 _ _ x
     have rl:∀r∈C2 rs e.1,r.length=e.1:=fun r hr=>(ae1 hr).2
     have wle:(A8 (C2 rs e.1) (C2 rs e.1)).length<=2000:=by
       have:=ah8 rs e.1;unfold J3 at this;rw[this];refine cw7 (cf6 (g:=fun l=>C8 l (C9 rs l)) pos hek) ?_;rw[hprod];exact few
     refine ⟨_,rfl,_,rfl,d,.ref e.2,rfl,.inl ⟨x4 es,Sum.inl (e.1:Int),.inr ⟨o,h6d⟩,rfl,(bd6 bl.nk he).symm⟩,_,rfl,_,rfl,d,.ref e.2,rfl,.inl ⟨x4 es,Sum.inl (e.1:Int),.inr ⟨o,h6d⟩,rfl,(bd6 bl.nk he).symm⟩,e.2,bs,C2 rs e.1,e.2,bs,C2 rs e.1,e.1,rfl,h6e,rb6,h6e,rb6,(fl40 e.1).2,rl,rl,(kpos e.1 hek).2,(fl40 e.1).2,(fl40 e.1).2,(W3 rs e.1).nodup up.nd,(fl40 e.1).1,wle,fun oo us H8 hoo s8 h8o und ufr atw=> ?_⟩;refine ⟨w6 (by rw[ct1,atc.1,ct1,ct1,cu2];omega),_,cs++[oo],rfl,by rw[ct9];rfl,?_,s6.trans s8⟩;rw[j9 hE,ct9,ct9];refine J1.snoc (atc.imp fun c ways _ h=>h.keep s8) ⟨us,h8o,?_⟩
     exact atw.imp fun u es _ h=> .inl h
   · rintro ys σ H6 ⟨v0,cs,rfl,rfl,atc,s6⟩ D hD;rw[lkv,cw2] at atc;have s7:c9 H6 (c8 H6 D (.lst (cs.map V.ref))):=c9.upd_new hD;have h7D:(c8 H6 D (.lst (cs.map V.ref))) D=some (.lst (cs.map V.ref)):=c7;generalize (c8 H6 D (.lst (cs.map V.ref)))=H7 at s7 h7D ⊢;have s07:=s0B.trans (s6.trans s7)
     have cntk:∀k∈es.map (·.1),(J3 rs k).length=C8 k (C9 rs k):=fun k _=>ah8 rs k
     refine ⟨a,D,p,cs,(es.map fun (x:Nat×Addr)=>x.1).map (J3 rs),rfl,s07 _ _ ha,lp,h7D,atc.imp fun c ways _ h=>h.keep s7,fun ways hw x hx=> ?_,fun i=> ?_,fun oo bs ts H8 hoo h8o rowsB pr srt bnd bfr ob kp=> ?_⟩
     · obtain ⟨k,hk,rfl⟩:=cu3.mp hw;have wk:=L4 (show x∈A8 (C2 rs k) (C2 rs k) from hx);refine ⟨wk.nodup_iff.mpr ((W3 rs k).nodup up.nd),fun e he=> ?_⟩;have em:=(W3 rs k).mem (wk.mem_iff.mp (cu3.mpr ⟨e,he,rfl⟩));obtain ⟨r,hr,hxr⟩:=cw6.mp em;obtain ⟨y,L,hy,pr2,er,_⟩:=up.ring r hr;rw[er] at hxr;exact S5 tp hy _ hxr
     · rw[<-dd9,Z8 p (J3 rs) (fun l=>C8 l (C9 rs l)) _ _ (ct4 _) fun k hk=>cntk k (cz6 hk)];refine cw7 (bu6 pos i) ?_;rw[hprod];exact few
     · refine q oo bs ts H8 (s07.free hoo) h8o rowsB ⟨?_,srt,es.map (·.1),bl.nk,by rw[<-ers];exact bl.key,by rw[<-ers];exact bl.all,by rw[<-ers];exact pr⟩ bnd (fun b hb=>s07.free (bfr b hb)) ob ((Kp.of s07).trans kp);rw[pr.length_eq,Z8 p (J3 rs) (fun l=>C8 l (C9 rs l)) _ _ (ct4 _) cntk,hprod]
end
end My
namespace My
open PySem L2 Mth
section
variable {P:Program} {w:World} {K:PySem.W.Frag} {mg:Str->Option Value} {base:Heap} {zyy zyz zxx zzy zzx zyx zzz zx zxz zxy zwz:Addr}
def be4 (q:Addr):Sp:=fun vs H _ E=>∃n:Int,vs=[.int n]/\2000 < n/\E (.ref q) none H
theorem ar4 {f:Addr}{fd:FuncData}(F:D3 K "must_be_few" "must_be_few" O5 f fd)(zuy:∃t,mg "MOST_TOLD"=some (.int 2000 t))(zny:Z4 K mg "TooMany" zzz):m7 P w K mg base (Z3 P w) 1 f fd ["many"] (be4 zzz):=by
 refine F.okx ab6 (fun vs H Q E h=> ?_) (fun cdv A outer s H vs Q E hr h=> ?_)
 · obtain ⟨n,rfl,hn,q⟩:=h;rfl
 · obtain ⟨n,rfl,hn,q⟩:=h;obtain ⟨_,zoz⟩:=zuy;refine ⟨_,@h8 _ _ _ (@C1 _ _ _ _ _ _ _ _ (@o3 _ _ _ _ _ _ _ _ ai9 (pv 0) (@E9 _ _ (.int 2000) _ _ (by rfl) zoz ⟨_,rfl⟩ (by decide)) (o7 _)) (@h8 _ _ _ (@bb9 _ _ _ _ _ _ _ _ _ aw1 rfl zny (@ae7 _ _ _ _) (by rfl) (by rfl) (by decide))) (@x6 _)),?_⟩;refine ⟨_,rfl,_,_,rfl,rfl,_,rfl,?_⟩;rw[decide_eq_true hn];exact J7 q
def au3 (q:Addr):Sp:=fun vs H _ E=>∃(a:Addr) (p:List Int),vs=[.ref a]/\E8 H a p/\2000 < J4 p/\∀H',c9 H H'->E (.ref q) none H'
theorem be5 {f:Addr}{fd:FuncData}(F:D3 K "all_past" "all_past" V4 f fd)(zuz:ac7 P w K mg base "must_be_few" 1 ["many"] (fun vs H Q E=>ah9 vs H Q E\/(be4 zzz) vs H Q E))(zy:r6 P w K mg base "how_many_past" 4 ["p"] ak6):m7 P w K mg base (Z3 P w) 43 f fd ["p"] (au3 zzz):=by
 refine F.okx aa6 (fun vs H Q E h=> ?_) (fun cdv A outer s H vs Q E hr h=> ?_)
 · obtain ⟨a,p,rfl,tp,hn,k⟩:=h;rfl
 · obtain ⟨a,p,rfl,tp,hn,k⟩:=h;have zry:m8 1 _:=hr.mono (by decide);have zv:m8 4 _:=hr.mono (by decide);refine ⟨_,@e8 _ _ _ _ _ (@C4 _ _ _ _ (@cd4 _ _ _ _ _ _ _ _ _ _ _ zuz zry (@bs5 _ _ _ _ _ _ _ _ _ _ _ _ _ _ _ _ fun _ _ _ h=>h) (@c5 _ _ _ _ _ (@j6 _ _ _ _ _ _ _ _ _ _ zy zv (@c5 _ _ _ _ _ (pv 0) (@c6 _) (by rfl)) (by rfl) (by decide) (by rfl) (by rfl)) (@c6 _) (by rfl)) (by rfl) (by decide) (by rfl) (by rfl)) (by rfl)) (@bn6 _ _),?_⟩;exact ⟨_,rfl,a,p,rfl,tp,fun H1 s1=> .inr ⟨_,rfl,(show (2000:Int) < ((J4 p:Nat):Int) by omega),k H1 s1⟩⟩
end
end My
namespace My
open PySem L2 Mth
section
def Rg (p:List Int)(l:Nat)(r:List Int):Prop:=∃y,In p y/\L9 p y l/\r=o4 p y l
theorem Rg.rot {p:List Int}(t:A0 p){l:Nat}{r:List Int}(h:Rg p l r)(b:Nat)(hb:b < l):Rg p l (r.drop b++r.take b):=by
 obtain ⟨y,hy,py,rfl⟩:=h;refine ⟨it p b y,O4 t hy b,py.shift t hy b,?_⟩
 refine cx8 fun i=> ?_
 have e1:∀j,(o4 p y l)[j]? =if j < l then some (it p j y) else none:=fun j=>by
   unfold o4;rw[ct8]
   by_cases c:j < l
   · rw[da1 c,if_pos c];rfl
   · rw[cu4 (by rw[cx9];omega),if_neg c];rfl
 have e2:(o4 p (it p b y) l)[i]? =if i < l then some (it p i (it p b y)) else none:=by
   unfold o4;rw[ct8]
   by_cases c:i < l
   · rw[da1 c,if_pos c];rfl
   · rw[cu4 (by rw[cx9];omega),if_neg c];rfl
 rw[e2,<-L6]
 by_cases c:i < l - b
 · rw[cx3 (by rw[cw1,w9];exact c),da5,e1,if_pos (by omega),if_pos (by omega),dc3]
 · rw[cx2 (by rw[cw1,w9];omega),cw1,w9,dg8]
   by_cases c2:i < l
   · rw[if_pos (by omega),e1,if_pos (by omega),if_pos c2]
     have e3:i+b=(i - (l - b))+l:=by omega
     rw[e3,L6,py.back]
   · rw[if_neg (by omega),if_neg c2]
theorem au4 {p:List Int}(t:A0 p){l:Nat}{rs:List (List Int)}(h:∀r∈rs,Rg p l r):∀(i:Nat) {y:List Int×List (List Int)},i<=rs.length->y∈y6 rs i->Rg p l y.1
 |0,y,_,z=>by cases z
 |i+1,y,hi,z=>by
  rcases cu5.mp z with z|z
  · exact au4 t h i (by omega) z
  · obtain ⟨b,hb,rfl⟩:=cu3.mp z
    have il:i < rs.length:=by omega
    have eg:rs.getD i []=rs[i]:=by rw[cu9,ct2 il];rfl
    have hr:=h _ (cz0 il);have hb:=cy9.mp hb;show Rg p l ((rs.getD i []).drop b++(rs.getD i []).take b);rw[eg] at hb ⊢
    have hl:(rs[i]).length=l:=by
      obtain ⟨y,_,_,e⟩:=hr;rw[e,w9]
    exact hr.rot t b (by omega)
theorem ar5 {p:List Int}{l:Nat}{r:List Int}(h:Rg p l r):r.length=l:=by
 obtain ⟨y,_,_,e⟩:=h;rw[e,w9]
inductive Pkd:List (List (Int×Int))->List (List (List (Int×Int)))->Prop
 |nil:Pkd [] []
 |cons {es:List (Int×Int)} {ess:List (List (Int×Int))} {ways:List (List (Int×Int))} {chs:List (List (List (Int×Int)))}:es∈ways->Pkd ess chs->Pkd (es::ess) (ways::chs)
theorem be7:∀(chs:List (List (List (Int×Int)))) (laid:List (List Int)) {t:List Int},t∈chs.foldl K9 laid->∃t0∈laid,∃ess,Pkd ess chs/\t=o9 t0 ess.flatten
 |[],laid,t,h=>⟨t,h,[],.nil,rfl⟩
 |c::chs,laid,t,h=>by
  obtain ⟨t1,h1,ess,pk,e⟩:=be7 chs (K9 laid c) h;obtain ⟨t0,h0,z⟩:=db4.mp h1;obtain ⟨es,hes,rfl⟩:=cu3.mp z;refine ⟨t0,h0,es::ess,.cons hes pk,?_⟩;rw[e,cz1];unfold o9;rw[df0]
theorem ar6:∀(es:List (Int×Int)) (t:List Int) {x:Int},0<=x->(∀e∈es,0<=e.1)->x∉es.map (·.1)->G3 (o9 t es) x=G3 t x
 |[],t,x,_,_,_=>rfl
 |e::es,t,x,x0,lo,h=>by
  rw[cy4,cv5,not_or] at h;show G3 (o9 (t.set e.1.toNat e.2) es) x=_;rw[ar6 es _ x0 (fun e he=>lo e (ct5 _ he)) h.2,ag0 x0 (lo e ct7) h.1]
theorem ai0:∀(es:List (Int×Int)) (t:List Int),(es.map (·.1)).Nodup->(∀e∈es,0<=e.1/\e.1 < (t.length:Int))->∀e∈es,G3 (o9 t es) e.1=some e.2
 |[],_,_,_,e,h=>by cases h
 |x::es,t,nd,b,e,h=>by
  rw[cy4,cx0] at nd;have bx:=b x ct7;show G3 (o9 (t.set x.1.toNat x.2) es) e.1=_
  rcases cv5.mp h with rfl|h
  · rw[ar6 es _ bx.1 (fun e he=>(b e (ct5 _ he)).1) nd.1];exact am9 (by omega)
  · exact ai0 es _ nd.2 (fun e he=>by rw[de2];exact b e (ct5 _ he)) e h
theorem bj6 {p:List Int}{rs:List (List Int)}(up:y8 p p.length rs){r:List Int}(hr:r∈rs):Rg p r.length r:=by
 obtain ⟨y,L,hy,pr,er,_⟩:=up.ring r hr;exact ⟨y,hy,by rw[er,w9];exact pr,by rw[er,w9]⟩
theorem bu7 {p:List Int}(t:A0 p){l:Nat}{r:List Int}(h:Rg p l r){x:Int}(hx:x∈r):In p x/\L9 p x l/\N7 p x=l:=by
 obtain ⟨y,hy,py,rfl⟩:=h;obtain ⟨j,_,rfl⟩:=G5.mp hx;have:=py.shift t hy j;exact ⟨O4 t hy j,this,ac6 this⟩
theorem ao1 {p:List Int}{f:Nat->List (List (Int×Int))}:∀(ks:List Nat) {ess:List (List (Int×Int))},ks.Nodup->(∀k∈ks,∀es∈f k,(es.map (·.1)).Nodup/\∀x∈es.map (·.1),In p x/\N7 p x=k)->Pkd ess (ks.map f)->(ess.flatten.map (·.1)).Nodup/\(∀x∈ess.flatten.map (·.1),In p x/\N7 p x∈ks)/\∀k∈ks,∃es∈ess,es∈f k
 |[],ess,_,_,pk=>by
  cases pk;exact ⟨cz8,(fun x hx=>by cases hx),(fun k hk=>by cases hk)⟩
 |k::ks,ess,nk,h,pk=>by
  cases pk with
  |cons hes pk=>
   rename_i es ess;rw[cx0] at nk;obtain ⟨a,b,c⟩:=ao1 ks nk.2 (fun k hk=>h k (ct5 _ hk)) pk;obtain ⟨d,e⟩:=h k ct7 es hes;rw[cz1,ct9];refine ⟨?_,fun x hx=> ?_,fun k' hk'=> ?_⟩
   · rw[cy3];refine ⟨d,a,fun x hx y hy z=> ?_⟩;have e1:=(e x hx).2;have e2:=(b y hy).2;rw[<-z,e1] at e2;exact nk.1 e2
   · rcases cu5.mp hx with z|z
     · exact ⟨(e x z).1,by rw[(e x z).2];exact ct7⟩
     · exact ⟨(b x z).1,ct5 _ (b x z).2⟩
   · rcases cv5.mp hk' with rfl|hk'
     · exact ⟨es,ct7,hes⟩
     · obtain ⟨es',h1,h2⟩:=c k' hk';exact ⟨es',ct5 _ h1,h2⟩
theorem ai1 {α β:Type}{f:α->List β}{q:β->Bool}{g:α->Bool}:∀{xs:List α},(∀x∈xs,(f x).countP q=if g x=true then 1 else 0)->(xs.flatMap f).countP q=xs.countP g
 |[],_=>rfl
 |x::xs,h=>by
  rw[cz7,List.countP_append,h x ct7,ai1 fun y hy=>h y (ct5 _ hy),db2,dc3]
theorem bu8 {z:Int}:∀{xs:List Int},xs.Nodup->z∈xs->xs.countP (fun x=>decide (x=z))=1
 |x::xs,nd,h=>by
  rw[cx0] at nd;rw[db2]
  by_cases c:x=z
  · rw[if_pos (decide_eq_true c),db9.mpr fun y hy e=>nd.1 (by rw[c,<-of_decide_eq_true e];exact hy)]
  · rw[if_neg (by rw[decide_eq_false c];decide),bu8 nd.2 ((cv5.mp h).resolve_left fun e=>c e.symm)]
theorem ar7 (rs:List (List Int)):∀i,i<=rs.length->(y6 rs i).map (fun y=>y.1.getD 0 0)=(rs.take i).flatten
 |0,_=>rfl
 |i+1,h=>by
  show (y6 rs i++U1 rs i (rs.getD i [])).map _=_
  have il:i < rs.length:=by omega
  have eg:rs.getD i []=rs[i]:=by rw[cu9,ct2 il];rfl
  rw[ct9,ar7 rs i (by omega),di6,ct2 il,db0]
  congr 1
  show _=[rs[i]].flatten;rw[dc9,eg];unfold U1;rw[cy6]
  refine cx8 fun b=> ?_
  rw[ct8]
  by_cases hb:b < rs[i].length
  · rw[da1 hb,ct2 hb];show some ((rs[i].drop b++rs[i].take b).getD 0 0)=_;rw[cu9,cx3 (by rw[cw1];omega),da5,dc5,ct2 hb];rfl
  · rw[cu4 (by rw[cx9];omega),cu4 (by omega)];rfl
theorem bz3 {rs:List (List Int)}(nd:rs.flatten.Nodup){z:Int}(hz:z∈rs.flatten):(y6 rs rs.length).countP (fun y=>decide (y.1.getD 0 0=z))=1:=by
 have e:=ar7 rs rs.length (ct4 _);rw[cw2] at e
 have h:((y6 rs rs.length).map (fun y=>y.1.getD 0 0)).countP (fun x=>decide (x=z))=1:=by
   rw[e];exact bu8 nd hz
 rw[dd2] at h;exact h
theorem T3 {p:List Int}{l:Nat}(l0:0 < l){r:List Int}(h:Rg p l r):r=o4 p (r.getD 0 0) l/\In p (r.getD 0 0)/\L9 p (r.getD 0 0) l:=by
 obtain ⟨y,hy,py,rfl⟩:=h
 have e:(o4 p y l).getD 0 0=y:=by rw[cu9,av8 l0];rfl
 rw[e];exact ⟨rfl,hy,py⟩
def U3 (t:List Int)(es:List (Int×Int)):Bool:=es.all fun e=>decide (nx t e.1=e.2)
theorem ak9 (t:List Int)(a b:List (Int×Int)):U3 t (a++b)=(U3 t a&&U3 t b):=List.all_append
theorem bj7 {t:List Int}{es:List (Int×Int)}:U3 t es=true↔∀e∈es,nx t e.1=e.2:=by
 unfold U3;rw[db1];exact ⟨fun h e he=>of_decide_eq_true (h e he),fun h e he=>decide_eq_true (h e he)⟩
def R1:List (List (List (Int×Int)))->List (List (Int×Int))
 |[]=>[[]]
 |c::chs=>c.flatMap fun es=>(R1 chs).map fun e=>es++e
theorem bm4 (t:List Int)(a b:List (Int×Int)):o9 t (a++b)=o9 (o9 t a) b:=by
 unfold o9;exact df0
theorem am1:∀(chs:List (List (List (Int×Int)))) (laid:List (List Int)),chs.foldl K9 laid=laid.flatMap fun t0=>(R1 chs).map (o9 t0)
 |[],laid=>by
  show laid=laid.flatMap fun t0=>[t0]
  induction laid with
  |nil=>rfl
  |cons x xs ih=>rw[cz7,<-ih];rfl
 |c::chs,laid=>by
  show chs.foldl K9 (K9 laid c)=_;rw[am1 chs];unfold K9;rw[List.flatMap_assoc];refine congrArg (fun f=>List.flatMap f laid) (funext fun t0=> ?_);show (c.map (o9 t0)).flatMap (fun t1=>(R1 chs).map (o9 t1))=(c.flatMap fun es=>(R1 chs).map fun e=>es++e).map (o9 t0);rw[List.flatMap_map,List.map_flatMap];refine congrArg (fun f=>List.flatMap f c) (funext fun es=> ?_);show (R1 chs).map (o9 (o9 t0 es))=((R1 chs).map fun e=>es++e).map (o9 t0);rw[cy6]
  exact cy7 fun e _=>(bm4 t0 es e).symm
theorem ar8:∀{chs:List (List (List (Int×Int)))} {e:List (Int×Int)},e∈R1 chs->∃ess,Pkd ess chs/\e=ess.flatten
 |[],e,h=>⟨[],.nil,cv6.mp h⟩
 |c::chs,e,h=>by
  obtain ⟨es,hes,z⟩:=db4.mp h;obtain ⟨e',he',rfl⟩:=cu3.mp z;obtain ⟨ess,pk,rfl⟩:=ar8 he';exact ⟨es::ess,.cons hes pk,rfl⟩
theorem ar9 {t:List Int}{f:Nat->List (List (Int×Int))}:∀{ks:List Nat},(∀k∈ks,(f k).countP (U3 t)=1)->(R1 (ks.map f)).countP (U3 t)=1
 |[],_=>rfl
 |k::ks,h=>by
  show ((f k).flatMap fun es=>(R1 (ks.map f)).map fun e=>es++e).countP (U3 t)=1;rw[ai1 (g:=U3 t),h k ct7];intro es hes;rw[dd2]
  by_cases c:U3 t es=true
  · rw[if_pos c];refine Eq.trans (de9 fun e _=> ?_) (ar9 fun k hk=>h k (ct5 _ hk));show U3 t (es++e)=true↔_;rw[ak9,c,Bool.true_and]
  · rw[if_neg c,db9];intro e _ z;have z:U3 t (es++e)=true:=z;rw[ak9,cx7] at z;exact c z.1
theorem Y5:∀{ts:List (List Int)},(∀t∈ts,ts.countP (fun u=>decide (u=t))=1)->ts.Nodup
 |[],_=>cz8
 |x::xs,h=>by
  have h0:=h x ct7;rw[db2,if_pos (decide_eq_true rfl)] at h0
  have nx:x∉xs:=fun z=>by
    have:xs.countP (fun u=>decide (u=x))=0:=by omega
    exact db9.mp this x z (decide_eq_true rfl)
  refine cx0.mpr ⟨nx,Y5 fun t ht=> ?_⟩;have h1:=h t (ct5 _ ht);rw[db2,if_neg (fun e=>nx (by rw[of_decide_eq_true e];exact ht))] at h1;exact h1
end
end My
namespace My
open PySem L2 Mth
section
def Y6 (p t:List Int):Prop:=A0 t/\t.length=p.length/\J8 t p=J8 p t
theorem cf8 {p t:List Int}(h:Y6 p t){x:Int}(hx:Mth.In p x):nx t (nx p x)=nx p (nx t x):=by
 obtain ⟨tt,tl,c⟩:=h;have hu:Mth.In t x:=⟨hx.1,by rw[tl];exact hx.2⟩;have a:=X3 hx;have b:=X3 hu;unfold G3 at a b
 have e:(J8 t p)[x.toNat]? =(J8 p t)[x.toNat]? :=by rw[c]
 unfold Mth.J8 at e;rw[ct8,ct8,a,b] at e;exact Option.some.inj e
theorem ab8 {p t:List Int}(tp:A0 p)(h:Y6 p t){x:Int}(hx:Mth.In p x):∀j,nx t (it p j x)=it p j (nx t x)
 |0=>rfl
 |j+1=>by
  show nx t (nx p (it p j x))=nx p (it p j (nx t x));rw[cf8 h (O4 tp hx j),ab8 tp h hx j]
theorem cf9 {p t:List Int}(h:Y6 p t){x:Int}(hx:Mth.In p x):Mth.In p (nx t x):=by
 have:=ca5 h.1 (x:=x) ⟨hx.1,by rw[h.2.1];exact hx.2⟩;exact ⟨this.1,by rw[<-h.2.1];exact this.2⟩
theorem bz4 {p t:List Int}(tp:A0 p)(h:Y6 p t){x:Int}{L:Nat}(hx:Mth.In p x)(pr:L9 p x L):L9 p (nx t x) L:=by
 have inu:∀j,Mth.In t (it p j x):=fun j=>by have:=O4 tp hx j;exact ⟨this.1,by rw[h.2.1];exact this.2⟩
 refine ⟨pr.pos,by rw[<-ab8 tp h hx,pr.back],fun i i0 il e=> ?_⟩;rw[<-ab8 tp h hx] at e;exact pr.least i i0 il (ba7 h.1 (inu i) (inu 0) e)
theorem cg0 {p t:List Int}(tp:A0 p)(h:Y6 p t){l:Nat}(l0:0 < l){r s:List Int}(hr:Rg p l r)(hs:Rg p l s):U3 t (A1 r s)=true↔s.getD 0 0=nx t (r.getD 0 0):=by
 obtain ⟨er,ir,pr⟩:=T3 l0 hr;obtain ⟨es,is,ps⟩:=T3 l0 hs;have lr:=ar5 hr;have ls:=ar5 hs;rw[bj7];constructor
 · intro k;have:=k (r.getD 0 0,s.getD 0 0) (cu0 (ae2 (by omega)));exact this.symm
 · intro e x hx;obtain ⟨j,hj⟩:=df8 hx
   have jl:j < r.length:=by rw[<-ah7 r s];exact (ct3.mp hj).1
   rw[ae2 jl] at hj;cases Option.some.inj hj;show nx t (r.getD j 0)=s.getD j 0;rw[er,es,K7 (by omega),K7 (by omega),ab8 tp h ir,<-e]
theorem as0 {p t:List Int}(tp:A0 p)(h:Y6 p t){l:Nat}(l0:0 < l):∀(rs is:List (List Int)),(∀r∈rs,Rg p l r)->(∀r∈is,Rg p l r)->rs.flatten.Nodup->is.flatten.Nodup->(∀r∈rs,nx t (r.getD 0 0)∈is.flatten)->(A8 rs is).countP (U3 t)=1
 |[],is,_,_,_,_,_=>rfl
 |r::rs,is,hr,hi,nr,ni,im=>by
  rw[cz1,cy3] at nr;have r0:=hr r ct7;obtain ⟨er,ir,pr⟩:=T3 l0 r0;show ((y6 is is.length).flatMap fun y=>(A8 rs y.2).map fun w=>w++A1 r y.1).countP (U3 t)=1;rw[ai1 (g:=fun y=>decide (y.1.getD 0 0=nx t (r.getD 0 0))) fun y hy=> ?_]
  · exact bz3 ni (im r ct7)
  · have yr:=au4 tp hi _ (ct4 _) hy;obtain ⟨pm,_,_⟩:=U2 _ (ct4 _) hy;have ps:=(Y3 _ hy).2;rw[dd2];have ok:=cg0 tp h l0 r0 yr
    by_cases c:y.1.getD 0 0=nx t (r.getD 0 0)
    · rw[if_pos (decide_eq_true c)];have pn:=pm.nodup_iff.mpr ni;rw[cy3] at pn;rw[<-as0 tp h l0 rs y.2 (fun q hq=>hr q (ct5 _ hq)) (fun q hq=>hi q (ps q hq)) nr.2.1 pn.2.1 fun q hq=> ?_]
      · refine de9 fun w _=> ?_
        simp only[Function.comp];rw[ak9,cx7];exact ⟨fun z=>z.1,fun z=>⟨z,ok.mpr c⟩⟩
      · have qi:=im q (ct5 _ hq)
        rcases cu5.mp (pm.mem_iff.mpr qi) with z|z
        · exfalso;obtain ⟨ey,iy,py⟩:=T3 l0 yr;rw[ey] at z;obtain ⟨j,jl,ej⟩:=G5.mp z;rw[c,<-ab8 tp h ir] at ej;have q0:=hr q (ct5 _ hq);obtain ⟨eq,iq,pq⟩:=T3 l0 q0
          have inx:∀{u:Int},Mth.In p u->Mth.In t u:=fun {u} hu=>⟨hu.1,by rw[h.2.1];exact hu.2⟩
          have e2:=ba7 h.1 (inx iq) (inx (O4 tp ir j)) ej
          have m1:q.getD 0 0∈r:=by rw[e2,er,<-er];rw[er];exact G5.mpr ⟨j,jl,by rw[K7 l0];rfl⟩
          have m2:q.getD 0 0∈rs.flatten:=cw6.mpr ⟨q,hq,by rw[E3 (by rw[ar5 q0];exact l0)];exact cz0 _⟩;exact nr.2.2 _ m1 _ m2 rfl
        · exact z
    · rw[if_neg (fun z=>c (of_decide_eq_true z))]
      refine db9.mpr fun w _ z=>c ?_
      simp only[Function.comp] at z;rw[ak9,cx7] at z;exact ok.mp z.2
end
end My
namespace My
open PySem L2 Mth
section
theorem ai2 {p:List Int}{rs:List (List Int)}(up:y8 p p.length rs){k:Nat}{r:List Int}(hr:r∈C2 rs k):Rg p k r:=by
 obtain ⟨a,b⟩:=ae1 hr;have:=bj6 up a;rw[b] at this;exact this
theorem al0 {rs:List (List Int)}{r:List Int}(hr:r∈rs):r∈C2 rs r.length:=by
 unfold C2;exact da6.mpr ⟨hr,decide_eq_true rfl⟩
theorem bz5 {p t:List Int}(tp:A0 p)(h:Y6 p t){k:Nat}(k0:0 < k){rs:List (List Int)}(up:y8 p p.length rs):(J3 rs k).countP (U3 t)=1:=by
 have nd:=(W3 rs k).nodup up.nd
 refine as0 tp h k0 _ _ (fun r hr=>ai2 up hr) (fun r hr=>ai2 up hr) nd nd fun r hr=> ?_
 obtain ⟨er,ir,pr⟩:=T3 k0 (ai2 up hr);have i2:=cf9 h ir;have p2:=bz4 tp h ir pr;obtain ⟨q,hq,hm⟩:=cw6.mp (up.all _ i2.1 i2.2);have pq:=(bu7 tp (bj6 up hq) hm).2.1;have:=pq.uniq p2;exact cw6.mpr ⟨q,by rw[<-this];exact al0 hq,hm⟩
theorem as1 {p:List Int}(tp:A0 p){rs:List (List Int)}(up:y8 p p.length rs){k:Nat}{es:List (Int×Int)}(h:es∈J3 rs k):(es.map (·.1)).Nodup/\∀x∈es.map (·.1),Mth.In p x/\N7 p x=k:=by
 have wk:=L4 (show es∈A8 (C2 rs k) (C2 rs k) from h);refine ⟨wk.nodup_iff.mpr ((W3 rs k).nodup up.nd),fun x hx=> ?_⟩;obtain ⟨r,hr,hxr⟩:=cw6.mp (wk.mem_iff.mp hx);have:=bu7 tp (ai2 up hr) hxr;exact ⟨this.1,this.2.2⟩
theorem as2 {p t:List Int}(tp:A0 p)(h:Y6 p t){ks:List Nat}(nk:ks.Nodup)(h1:∀k∈ks,∃r∈o6 p p.length,r.length=k)(h2:∀r∈o6 p p.length,r.length∈ks):(M0 p (ks.map (J3 (o6 p p.length)))).countP (fun u=>decide (u=t))=1:=by
 have up:=an1 tp;generalize o6 p p.length=rs at up h1 h2 ⊢;have pt:p.length=t.length:=h.2.1.symm
 have k0:∀k∈ks,0 < k:=fun k hk=>by
   obtain ⟨r,hr,e⟩:=h1 k hk;have:=(rsb tp up r hr).1;omega
 unfold M0;rw[am1,cz7,df7,cw0,dd2];refine Eq.trans (de9 fun es hes=> ?_) (ar9 (t:=t) fun k hk=>bz5 tp h (k0 k hk) up);show decide (o9 p es=t)=true↔U3 t es=true;obtain ⟨ess,pk,rfl⟩:=ar8 hes;obtain ⟨knd,kin,kall⟩:=ao1 (p:=p) ks nk (fun k hk es hes=>as1 tp up hes) pk
 have put:=ai0 ess.flatten p knd fun e he=>(kin e.1 (cu3.mpr ⟨e,he,rfl⟩)).1
 rw[decide_eq_true_iff,bj7];constructor
 · intro e x hx;have a:=put x hx;have b:=(kin x.1 (cu3.mpr ⟨x,hx,rfl⟩)).1;rw[e,X3 ⟨b.1,by rw[<-pt];exact b.2⟩] at a;exact Option.some.inj a
 · intro ok
   refine cx8 fun i=> ?_
   by_cases hi:i < p.length
   · have hx:Mth.In p (i:Int):=⟨by omega,by omega⟩;obtain ⟨r0,hr0,hxr⟩:=cw6.mp (up.all _ hx.1 hx.2);obtain ⟨es,hes,hef⟩:=kall r0.length (h2 r0 hr0);have xk:=(L4 (show es∈A8 (C2 rs r0.length) (C2 rs r0.length) from hef)).mem_iff.mpr (cw6.mpr ⟨r0,al0 hr0,hxr⟩);obtain ⟨e,he,ex⟩:=cu3.mp xk;have hef:e∈ess.flatten:=cw6.mpr ⟨es,hes,he⟩;have a:=put e hef;have b:=X3 (p:=t) (x:=(i:Int)) ⟨hx.1,by rw[<-pt];exact hx.2⟩;have ok:=ok e hef;rw[ex] at a ok;rw[<-ok,<-b] at a;unfold G3 at a;rw[da7] at a;exact a
   · rw[cu4 (by rw[V7];omega),cu4 (by omega)]
theorem bm5 {r s:List Int}(h:r.length=s.length):(A1 r s).map (·.2)=s:=by
 unfold A1;rw[cy6]
 refine List.ext_getElem (by simp [h]) fun i h1 h2=> ?_
 rw[List.getElem_map,List.getElem_range];show s.getD i 0=s[i];exact E3 h2
theorem be8 {p:List Int}(tp:A0 p){l:Nat}:∀{rs is:List (List Int)} {w:List (Int×Int)},rs.length=is.length->(∀r∈rs,r.length=l)->(∀r∈is,Rg p l r)->w∈A8 rs is->(w.map (·.2)).Perm is.flatten/\∀r∈rs,∃s,Rg p l s/\∀e∈A1 r s,e∈w
 |[],is,w,hl,_,_,h=>by
  rw[cv6.mp (show w∈[[]] from h)];have:is=[]:=da9 hl.symm;rw[this];exact ⟨List.Perm.refl _,fun r hr=>by cases hr⟩
 |r::rs,is,w,hl,hr,hi,h=>by
  obtain ⟨y,hy,h2⟩:=db4.mp (show w∈(y6 is is.length).flatMap fun y=>(A8 rs y.2).map fun w=>w++A1 r y.1 from h);obtain ⟨w',hw,rfl⟩:=cu3.mp h2;have yr:=au4 tp hi _ (ct4 _) hy;obtain ⟨pm,pl,_⟩:=U2 _ (ct4 _) hy;have ps:=(Y3 _ hy).2;rw[cv7] at hl;obtain ⟨a,b⟩:=be8 tp (by omega) (fun q hq=>hr q (ct5 _ hq)) (fun q hq=>hi q (ps q hq)) hw;refine ⟨?_,fun q hq=> ?_⟩
  · rw[ct9,bm5 (by rw[ar5 yr];exact hr r ct7)];exact ((a.append_right y.1).trans cy5).trans pm
  · rcases cv5.mp hq with rfl|hq
    · exact ⟨y.1,yr,fun e he=>cu7 _ he⟩
    · obtain ⟨s,hs,k⟩:=b q hq;exact ⟨s,hs,fun e he=>cx6 _ (k e he)⟩
theorem be9 {f:Nat->List (List (Int×Int))}:∀(ks:List Nat) {ess:List (List (Int×Int))},(∀k∈ks,∀es∈f k,(es.map (·.2)).Perm (es.map (·.1)))->Pkd ess (ks.map f)->(ess.flatten.map (·.2)).Perm (ess.flatten.map (·.1))
 |[],ess,_,pk=>by
  cases pk;exact List.Perm.refl _
 |k::ks,ess,h,pk=>by
  cases pk with
  |cons hes pk=>
   rename_i es ess;rw[cz1,ct9,ct9];exact (h k ct7 es hes).append (be9 ks (fun k hk=>h k (ct5 _ hk)) pk)
theorem ai3 {p:List Int}(tp:A0 p){ks:List Nat}(nk:ks.Nodup)(h1:∀k∈ks,∃r∈o6 p p.length,r.length=k)(h2:∀r∈o6 p p.length,r.length∈ks){t:List Int}(ht:t∈M0 p (ks.map (J3 (o6 p p.length)))):Y6 p t:=by
 have up:=an1 tp;generalize o6 p p.length=rs at up h1 h2 ht
 have k0:∀k∈ks,0 < k:=fun k hk=>by
   obtain ⟨r,hr,e⟩:=h1 k hk;have:=(rsb tp up r hr).1;omega
 obtain ⟨t0,ht0,ess,pk,rfl⟩:=be7 _ _ ht;rw[cv6.mp ht0];obtain ⟨knd,kin,kall⟩:=ao1 (p:=p) ks nk (fun k hk es hes=>as1 tp up hes) pk
 have put:=ai0 ess.flatten p knd fun e he=>(kin e.1 (cu3.mpr ⟨e,he,rfl⟩)).1
 have img:∀{k:Nat} {es:List (Int×Int)},es∈J3 rs k->(es.map (·.2)).Perm (C2 rs k).flatten/\∀r∈C2 rs k,∃s,Rg p k s/\∀e∈A1 r s,e∈es:=fun {k es} h=>be8 tp rfl (fun r hr=>(ae1 hr).2) (fun r hr=>ai2 up hr) h
 have vals:=be9 ks (fun k _ es hes=>(img hes).1.trans (L4 (show es∈A8 (C2 rs k) (C2 rs k) from hes)).symm) pk;generalize hT:o9 p ess.flatten=t at put
 have tl:t.length=p.length:=by rw[<-hT,V7]
 have go:∀r∈rs,∃z,Mth.In p z/\L9 p z r.length/\∀j,j < r.length->G3 t (r.getD j 0)=some (it p j z):=fun r hr=>by
   obtain ⟨es,hes,hef⟩:=kall r.length (h2 r hr);obtain ⟨s,hs,k⟩:=(img hef).2 r (al0 hr);have l0:=k0 _ (h2 r hr);obtain ⟨esz,iz,pz⟩:=T3 l0 hs;refine ⟨s.getD 0 0,iz,pz,fun j hj=> ?_⟩;have:=put (r.getD j 0,s.getD j 0) (cw6.mpr ⟨es,hes,k _ (cu0 (ae2 hj))⟩);rw[show s.getD j 0=it p j (s.getD 0 0) by conv=>lhs;rw[esz,K7 hj]] at this;exact this
 have keys_perm:(ess.flatten.map (·.1)).Perm (L2.D6 0 p.length):=by
   refine (dd7 knd (N5 _)).mpr fun x=>⟨fun hx=>M5.mpr (kin x hx).1,fun hx=> ?_⟩
   have hx:=M5.mp hx;obtain ⟨r0,hr0,hxr⟩:=cw6.mp (up.all _ hx.1 hx.2);obtain ⟨es,hes,hef⟩:=kall r0.length (h2 r0 hr0);have xk:=(L4 (show es∈A8 (C2 rs r0.length) (C2 rs r0.length) from hef)).mem_iff.mpr (cw6.mpr ⟨r0,al0 hr0,hxr⟩);obtain ⟨e,he,ex⟩:=cu3.mp xk;exact cu3.mpr ⟨e,cw6.mpr ⟨es,hes,he⟩,ex⟩
 have tt:A0 t:=by
   have e1:ess.flatten.map (·.2)=(ess.flatten.map (·.1)).map (nx t):=by
     rw[cy6]
     refine cy7 fun e he=> ?_
     have a:=put e he;have b:=(kin e.1 (cu3.mpr ⟨e,he,rfl⟩)).1;rw[X3 ⟨b.1,by rw[tl];exact b.2⟩] at a;exact (Option.some.inj a).symm
   have e2:t=(L2.D6 0 p.length).map (nx t):=by
     refine cx8 fun i=> ?_
     unfold L2.D6;rw[ct8,ct8]
     by_cases hi:i < p.length
     · rw[da1 hi];have b:=X3 (p:=t) (x:=(i:Int)) ⟨by omega,by omega⟩;unfold G3 at b;rw[da7] at b;rw[b];show _=some (nx t (0+(i:Int)));rw[Int.zero_add]
     · rw[cu4 (by omega),cu4 (by rw[cx9];omega)];rfl
   have pt:t.Perm (L2.D6 0 p.length):=by
     rw[e2];exact ((keys_perm.map (nx t)).symm.trans (by rw[<-e1];exact vals)).trans keys_perm
   exact (J2 pt).1
 refine ⟨tt,tl,?_⟩
 refine cx8 fun i=> ?_
 unfold Mth.J8;rw[ct8,ct8]
 by_cases hi:i < p.length
 · have hx:Mth.In p (i:Int):=⟨by omega,by omega⟩;obtain ⟨r,hr,hxr⟩:=cw6.mp (up.all _ hx.1 hx.2);obtain ⟨z,iz,pz,k⟩:=go r hr;obtain ⟨y,L,hy,pr,er,_⟩:=up.ring r hr
   have rl:r.length=L:=by rw[er,w9]
   rw[er] at hxr;obtain ⟨j,jl,ej⟩:=G5.mp hxr
   have kk:∀j,j < L->G3 t (it p j y)=some (it p j z):=fun j hj=>by
     have:=k j (by omega);rw[er,K7 hj] at this;exact this
   have k2:G3 t (it p (j+1) y)=some (it p (j+1) z):=by
     by_cases c:j+1 < L
     · exact kk _ c
     · have:j+1=L:=by omega
       rw[this,pr.back];have b:=pz.back;rw[rl] at b;rw[b];exact kk 0 pr.pos
   have a1:=X3 hx;have a2:=kk j jl;rw[<-ej] at a2;unfold G3 at a1 a2 k2;rw[da7] at a1 a2;rw[a1,a2];show some (t.getD (nx p (i:Int)).toNat 0)=some (nx p (it p j z));rw[show nx p (i:Int)=it p (j+1) y by rw[ej];rfl,cu9,k2];rfl
 · rw[cu4 (by omega),cu4 (by omega)];rfl
theorem U7.once {p t:List Int}{ts:List (List Int)}(h:U7 p ts)(tp:A0 p)(g:Y6 p t):ts.countP (fun u=>decide (u=t))=1:=by
 obtain ⟨ks,nk,h1,h2,pm⟩:=h.src;rw[pm.countP_eq];exact as2 tp g nk h1 h2
theorem U7.mem {p t:List Int}{ts:List (List Int)}(h:U7 p ts)(tp:A0 p):t∈ts↔Y6 p t:=by
 obtain ⟨ks,nk,h1,h2,pm⟩:=h.src;refine ⟨fun m=>ai3 tp nk h1 h2 (pm.mem_iff.mp m),fun g=> ?_⟩;have:=h.once tp g;obtain ⟨u,hu,e⟩:=List.countP_pos_iff.mp (show 0 < ts.countP (fun u=>decide (u=t)) by omega);rw[<-of_decide_eq_true e];exact hu
theorem U7.nd {p:List Int}{ts:List (List Int)}(h:U7 p ts)(tp:A0 p):ts.Nodup:=Y5 fun t ht=>h.once tp ((h.mem tp).mp ht)
end
end My
namespace My
open PySem L2 Mth PySem.Spec PyProof.Rows
section
def cr4 (K:PySem.W.Frag):R2:=fun x y H Q=>(bv7 x y=true/\Q (.bl (decide (x=y))) H)\/(∃l xs b,x= .ref l/\y= .str b/\i4 K H l xs/\Q (.bl false) H)
theorem ck8 {X:Cx}(hu:X.A.units+1 < cLine):J6 X (compareOp .Eq) (cr4 X.K):=by
 intro pins s σ H x y v u Q I rx ry h
 rcases h with h|⟨l,xs,b,rfl,rfl,hq,q⟩
 · exact ai8 pins s σ H x y v u Q I rx ry h
 · cases rx;obtain ⟨t,rfl⟩:=ry;obtain ⟨its,rr,pl,hz⟩:=I.list hq;exact SeqAt.RcAt.list_str b t pl.isList (by omega) _ _ _ _ ⟨.bl false,H,I,rfl,q⟩
end
end My
namespace L2
open PySem PySem.Spec PyProof.Rows
section
variable {X:Cx}
def cr5:R2:=fun x y H Q=>∃a b ns ms,x= .ref a/\y= .ref b/\H a=some (.lst (ns.map V.int))/\H b=some (.lst (ms.map V.int))/\Q (.bl (HT.aj1 ns ms)) H
theorem ck9 (hu:X.A.units < cLine):J6 X (compareOp .Lt) cr5:=by
 intro pins s σ H x y v u Q I rx ry h;obtain ⟨a,b,ns,ms,rfl,rfl,ha,hb,q⟩:=h;cases rx;cases ry;obtain ⟨_,xs,n,rv,_,hx⟩:=I.lstM ha;obtain ⟨_,ys,n2,rw_,_,hy⟩:=I.lstM hb;have i1:IntsAre xs.toArray.toList ns:=V2 rv;have i2:IntsAre ys.toArray.toList ms:=V2 rw_
 exact richCompare_meets_room (op:= .Lt) ⟨_,hx,rfl⟩ ⟨_,hy,rfl⟩ PySem.F.slot_list_lt PySem.F.entry_list_lt (PySem.F.args_list_lt_2 _ _) (HT.cj6 a b xs.toArray ys.toArray n n2 ns ms i1 i2)
   ⟨⟨hx,hy⟩,(show Value.bool (HT.aj1 ns ms)≠Value.notImplemented/\_ from ⟨(fun x=>nomatch x),⟨.bl (HT.aj1 ns ms),H,I,rfl,q⟩⟩)⟩ hu
end
end L2
namespace My
open PySem L2 Mth
section
variable {P:Program} {w:World} {K:PySem.W.Frag} {mg:Str->Option Value} {base:Heap} {zyy zyz zxx zzy zzx zyx zzz zx zxz zxy zwz:Addr}
def al1:Sp:=fun vs H Q _=>∃(a:Addr) (p:List Int),vs=[.ref a]/\E8 H a p/\
 ((J4 p<=2000/\∀(o:Addr) (bs:List Addr) (ts:List (List Int)) (H':Hp),H o=none->H' o=some (.lst (bs.map V.ref))->j7 H' bs ts->U7 p ts->bs.Nodup->(∀b∈bs,H b=none)->o∉bs->Kp H H'->Q (.ref o) H')\/
  (2000 < J4 p/\∀H',c9 H H'->Q (.str "too many") H'))
theorem E6:o5 ["p","caught","found","e","others"] ["p"] (j5 ad6):=by rfl'
theorem bg4 {f:Addr}{fd:FuncData}(F:D3 K "_law_told" "_law_told" ad6 f fd)(B:Bl mg)(zl:ac7 P w K mg base "all_past" 43 ["p"] (fun vs H Q E=>ar3 vs H Q E\/(au3 zzz) vs H Q E))(ER:bc0 K mg zyy [("NoTurn",zyz),("NoFit",zxx),("NoRounds",zzy),("NoNumber",zzx),("NoRoot",zyx),("TooMany",zzz),("NoKind",zx),("NoText",zxz),("NoName",zxy),("NoRow",zwz)]):m7 P w K mg base E7 44 f fd ["p"] al1:=by
 refine F.ok E6 (fun vs H Q E h=> ?_) (fun cdv A outer s H vs Q E hr h=> ?_)
 · obtain ⟨a,p,rfl,tp,h⟩:=h;rfl
 · obtain ⟨a,p,rfl,tp,h⟩:=h;have zkx:m8 43 _:=hr.mono (by decide);have hu:=O3 hr;refine ⟨_,@e8 _ _ _ _ _ (@i8 _ _ (1) _ _ _ _ E6.nd rfl (Or.inl rfl) (@ay6 _ _ _) (by rfl) (by trivial)) (@e8 _ _ _ _ _ (@i8 _ _ (2) _ _ _ _ E6.nd rfl (Or.inl rfl) (@ay6 _ _ _) (by rfl) (by trivial)) (@e8 _ _ _ _ _ (@cj4 _ _ _ _ _ (3) _ _ _ _ _ _ _ (@cj3 _ _ _ _ _ _ _ _ _ _ (2) _ _ _ zl zkx E6.nd rfl (Or.inl rfl) (@c5 _ _ _ _ _ (pv 0) (@c6 _) (by rfl)) (by rfl) (by decide) (by rfl) (by rfl) (by rfl) (by trivial)) ER.top E6.nd rfl rfl (fun _=>(@h8 _ _ _ (@i8 _ _ (1) _ _ _ _ E6.nd rfl (Or.inl rfl) (pv 3) (by rfl) (by trivial)))) (by rfl) (by rfl) (by rfl) (by rfl) (by decide) (by trivial)) (@e8 _ _ _ _ _ (@C1 _ _ _ _ _ _ _ _ (@o3 _ _ _ _ _ _ _ _ ch6 (pv 1) (@ay6 _ _ _) (o7 _)) (@h8 _ _ _ (@k7 _ _ _ _ (pv 2))) (@x6 _)) (@e8 _ _ _ _ _ (@i8 _ _ (4) _ _ _ _ E6.nd rfl (Or.inl rfl) (@x3 _ _ _ _ (@c5 _ _ _ _ _ (@J9 _ _ _ _ _ _ B.isi (@c5 _ _ _ _ _ (pv 1) (@c5 _ _ _ _ _ (@E9 _ _ (.ref zxx) _ _ (by rfl) (ER.err ("NoFit",zxx) (by simp)).mg rfl (by decide)) (@c6 _) (by rfl)) (by rfl)) (by rfl) (by rfl) (by rfl)) (@c5 _ _ _ _ _ (@J9 _ _ _ _ _ _ B.isi (@c5 _ _ _ _ _ (pv 1) (@c5 _ _ _ _ _ (@E9 _ _ (.ref zx) _ _ (by rfl) (ER.err ("NoKind",zx) (by simp)).mg rfl (by decide)) (@c6 _) (by rfl)) (by rfl)) (by rfl) (by rfl) (by rfl)) (@c5 _ _ _ _ _ (@J9 _ _ _ _ _ _ B.isi (@c5 _ _ _ _ _ (pv 1) (@c5 _ _ _ _ _ (@E9 _ _ (.ref zxy) _ _ (by rfl) (ER.err ("NoName",zxy) (by simp)).mg rfl (by decide)) (@c6 _) (by rfl)) (by rfl)) (by rfl) (by rfl) (by rfl)) (@c6 _) (by rfl)) (by rfl)) (by rfl))) (by rfl) (by trivial)) (@e8 _ _ _ _ _ (@C4 _ _ _ _ (@D5 _ _ _ _ _ _ _ (pv 4) (@c5 _ _ _ _ _ (@J9 _ _ _ _ _ _ B.isi (@c5 _ _ _ _ _ (pv 1) (@c5 _ _ _ _ _ (@E9 _ _ (.ref zzx) _ _ (by rfl) (ER.err ("NoNumber",zzx) (by simp)).mg rfl (by decide)) (@c6 _) (by rfl)) (by rfl)) (by rfl) (by rfl) (by rfl)) (@c6 _) (by rfl)) (by rfl) (by rfl) (by rfl) (by rfl) (by rfl)) (by rfl)) (@e8 _ _ _ _ _ (@i8 _ _ (4) _ _ _ _ E6.nd rfl (Or.inl rfl) (@q9 _ _ _ _ _ _ _ _ T8 (pv 4) (@x3 _ _ _ _ (@c5 _ _ _ _ _ (@J9 _ _ _ _ _ _ B.isi (@c5 _ _ _ _ _ (pv 1) (@c5 _ _ _ _ _ (@E9 _ _ (.ref zyx) _ _ (by rfl) (ER.err ("NoRoot",zyx) (by simp)).mg rfl (by decide)) (@c6 _) (by rfl)) (by rfl)) (by rfl) (by rfl) (by rfl)) (@c5 _ _ _ _ _ (@J9 _ _ _ _ _ _ B.isi (@c5 _ _ _ _ _ (pv 1) (@c5 _ _ _ _ _ (@E9 _ _ (.ref zzy) _ _ (by rfl) (ER.err ("NoRounds",zzy) (by simp)).mg rfl (by decide)) (@c6 _) (by rfl)) (by rfl)) (by rfl) (by rfl) (by rfl)) (@c5 _ _ _ _ _ (@J9 _ _ _ _ _ _ B.isi (@c5 _ _ _ _ _ (pv 1) (@c5 _ _ _ _ _ (@E9 _ _ (.ref zwz) _ _ (by rfl) (ER.err ("NoRow",zwz) (by simp)).mg rfl (by decide)) (@c6 _) (by rfl)) (by rfl)) (by rfl) (by rfl) (by rfl)) (@c6 _) (by rfl)) (by rfl)) (by rfl)))) (by rfl) (by trivial)) (@e8 _ _ _ _ _ (@i8 _ _ (4) _ _ _ _ E6.nd rfl (Or.inl rfl) (@q9 _ _ _ _ _ _ _ _ T8 (pv 4) (@x3 _ _ _ _ (@c5 _ _ _ _ _ (@J9 _ _ _ _ _ _ B.isi (@c5 _ _ _ _ _ (pv 1) (@c5 _ _ _ _ _ (@E9 _ _ (.ref zxz) _ _ (by rfl) (ER.err ("NoText",zxz) (by simp)).mg rfl (by decide)) (@c6 _) (by rfl)) (by rfl)) (by rfl) (by rfl) (by rfl)) (@c5 _ _ _ _ _ (@J9 _ _ _ _ _ _ B.isi (@c5 _ _ _ _ _ (pv 1) (@c5 _ _ _ _ _ (@E9 _ _ (.ref zyz) _ _ (by rfl) (ER.err ("NoTurn",zyz) (by simp)).mg rfl (by decide)) (@c6 _) (by rfl)) (by rfl)) (by rfl) (by rfl) (by rfl)) (@c6 _) (by rfl)) (by rfl)))) (by rfl) (by trivial)) (@e8 _ _ _ _ _ (@C1 _ _ _ _ _ _ _ _ (@ay8 _ _ _ _ _ _ _ (@J5 _ _ _ (@J9 _ _ _ _ _ _ B.isi (@c5 _ _ _ _ _ (pv 1) (@c5 _ _ _ _ _ (@E9 _ _ (.ref zzz) _ _ (by rfl) (ER.err ("TooMany",zzz) (by simp)).mg rfl (by decide)) (@c6 _) (by rfl)) (by rfl)) (by rfl) (by rfl) (by rfl)) (by intro _;rfl)) (@ay8 _ _ _ _ _ _ _ (@J5 _ _ _ (@J9 _ _ _ _ _ _ B.isi (@c5 _ _ _ _ _ (pv 1) (@c5 _ _ _ _ _ (@cd9 _ _ B.ve (by rfl)) (@c6 _) (by rfl)) (by rfl)) (by rfl) (by rfl) (by rfl)) (by intro _;rfl)) (@bg7 _ _ _ _ (@o3 _ _ _ _ _ _ _ _ (az6) (@D8 _ _ _ _) (pv 4) (by with_unfolding_all rfl))))).pt (@h8 _ _ _ (@k7 _ _ _ _ (@ae7 _ _ _ _))) (@x6 _)) (@h8 _ _ _ (@k7 _ _ _ _ (@ae7 _ _ _ _))))))))))),?_⟩
   rcases h with ⟨few,q⟩|⟨many,q⟩
   · exact ⟨_,rfl,.inl ⟨a,p,rfl,tp,few,fun o bs ts H1 ho h1o rows ap nd fr no kp=>⟨_,rfl,rfl,_,rfl,J7 ⟨_,rfl,q o bs ts H1 ho h1o rows ap nd fr no kp⟩⟩⟩⟩
   · refine ⟨_,rfl,.inr ⟨a,p,rfl,tp,many,fun H0 s0=>⟨zzz,rfl,ER.exm ("TooMany",zzz) (by simp),fun e he=> ?_⟩⟩⟩;have IC:=ER.inst ("TooMany",zzz) (by simp)
     have pr:∀{n:Str} {A:Addr},(n,A)∈[(("NoTurn":Str),zyz),("NoFit",zxx),("NoRounds",zzy),("NoNumber",zzx),("NoRoot",zyx),("TooMany",zzz),("NoKind",zx),("NoText",zxz),("NoName",zxy),("NoRow",zwz)]->decide (("TooMany":Str)=n)=false->_:=fun {n A} hn hz=>by
       have:=ER.pair ("TooMany",zzz) (by simp) (n,A) hn
       dsimp only at this
       rw[hz] at this;exact this
     have p0:=pr (n:="NoFit") (A:=zxx) (by simp) (by decide+kernel);have p1:=pr (n:="NoKind") (A:=zx) (by simp) (by decide+kernel);have p2:=pr (n:="NoName") (A:=zxy) (by simp) (by decide+kernel);have p3:=pr (n:="NoNumber") (A:=zzx) (by simp) (by decide+kernel);have p4:=pr (n:="NoRoot") (A:=zyx) (by simp) (by decide+kernel);have p5:=pr (n:="NoRounds") (A:=zzy) (by simp) (by decide+kernel);have p6:=pr (n:="NoRow") (A:=zwz) (by simp) (by decide+kernel);have p7:=pr (n:="NoText") (A:=zxz) (by simp) (by decide+kernel);have p8:=pr (n:="NoTurn") (A:=zyz) (by simp) (by decide+kernel);have p9:=ER.pair ("TooMany",zzz) (by simp) ("TooMany",zzz) (by simp)
     dsimp only at p9
     rw[decide_eq_true rfl] at p9;have se:c9 H (c8 H0 e (ag7 e zzz)):=s0.trans (c9.upd_new he);have ge:(c8 H0 e (ag7 e zzz)) e=some (ag7 e zzz):=c7;generalize (c8 H0 e (ag7 e zzz))=Hb at se ge ⊢;refine ⟨_,rfl,_,rfl,rfl,_,rfl,C7 ?_⟩;refine ⟨_,rfl,e,zzz,_,_,_,rfl,.inl ⟨_,rfl,rfl⟩,ge,IC,p0,_,rfl,e,zzz,_,_,_,rfl,.inl ⟨_,rfl,rfl⟩,ge,IC,p1,_,rfl,e,zzz,_,_,_,rfl,.inl ⟨_,rfl,rfl⟩,ge,IC,p2,(show 3<=sizeLine by decide),fun l1 h1=> ?_⟩;have s1:c9 Hb (c8 Hb l1 (.lst [V.bl false,V.bl false,V.bl false])):=c9.upd_new h1;have g1:(c8 Hb l1 (.lst [V.bl false,V.bl false,V.bl false])) l1=some (.lst [V.bl false,V.bl false,V.bl false]):=c7;generalize (c8 Hb l1 (.lst [V.bl false,V.bl false,V.bl false]))=H1 at s1 g1 ⊢;have e1:=s1 _ _ ge;refine ⟨_,rfl,.inl ⟨rfl,_,i4.of g1⟩,_,rfl,e,zzz,_,_,_,rfl,.inl ⟨_,rfl,rfl⟩,e1,IC,p3,l1,_,_,rfl,rfl,g1,(show 4<=sizeLine by decide),?_⟩;have s2:c9 Hb (c8 H1 l1 (.lst ([V.bl false,V.bl false,V.bl false]++[V.bl false]))):=s1.upd_r h1;have g2:(c8 H1 l1 (.lst ([V.bl false,V.bl false,V.bl false]++[V.bl false]))) l1=some (.lst [V.bl false,V.bl false,V.bl false,V.bl false]):=c7;generalize (c8 H1 l1 (.lst ([V.bl false,V.bl false,V.bl false]++[V.bl false])))=H2 at s2 g2 ⊢;have e2:=s2 _ _ ge;refine ⟨_,rfl,_,rfl,e,zzz,_,_,_,rfl,.inl ⟨_,rfl,rfl⟩,e2,IC,p4,_,rfl,e,zzz,_,_,_,rfl,.inl ⟨_,rfl,rfl⟩,e2,IC,p5,_,rfl,e,zzz,_,_,_,rfl,.inl ⟨_,rfl,rfl⟩,e2,IC,p6,(show 3<=sizeLine by decide),fun l3 h3=> ?_⟩;have s3:c9 H2 (c8 H2 l3 (.lst [V.bl false,V.bl false,V.bl false])):=c9.upd_new h3;have g3:(c8 H2 l3 (.lst [V.bl false,V.bl false,V.bl false])) l3=some (.lst [V.bl false,V.bl false,V.bl false]):=c7;generalize (c8 H2 l3 (.lst [V.bl false,V.bl false,V.bl false]))=H3 at s3 g3 ⊢;refine ⟨l1,l3,_,_,rfl,rfl,s3 _ _ g2,g3,(show 7<=sizeLine by decide),fun l4 h4=> ?_⟩;have s4:c9 H3 (c8 H3 l4 (.lst ([V.bl false,V.bl false,V.bl false,V.bl false]++[V.bl false,V.bl false,V.bl false]))):=c9.upd_new h4;have g4:(c8 H3 l4 (.lst ([V.bl false,V.bl false,V.bl false,V.bl false]++[V.bl false,V.bl false,V.bl false]))) l4=some (.lst [V.bl false,V.bl false,V.bl false,V.bl false,V.bl false,V.bl false,V.bl false]):=c7;generalize (c8 H3 l4 (.lst ([V.bl false,V.bl false,V.bl false,V.bl false]++[V.bl false,V.bl false,V.bl false])))=H4 at s4 g4 ⊢;have e4:=s4 _ _ (s3 _ _ e2);refine ⟨_,rfl,_,rfl,e,zzz,_,_,_,rfl,.inl ⟨_,rfl,rfl⟩,e4,IC,p7,_,rfl,e,zzz,_,_,_,rfl,.inl ⟨_,rfl,rfl⟩,e4,IC,p8,(show 2<=sizeLine by decide),fun l5 h5=> ?_⟩;have s5:c9 H4 (c8 H4 l5 (.lst [V.bl false,V.bl false])):=c9.upd_new h5;have g5:(c8 H4 l5 (.lst [V.bl false,V.bl false])) l5=some (.lst [V.bl false,V.bl false]):=c7;generalize (c8 H4 l5 (.lst [V.bl false,V.bl false]))=H5 at s5 g5 ⊢;refine ⟨l4,l5,_,_,rfl,rfl,s5 _ _ g4,g5,(show 9<=sizeLine by decide),fun l6 h6=> ?_⟩;have s6:c9 H5 (c8 H5 l6 (.lst ([V.bl false,V.bl false,V.bl false,V.bl false,V.bl false,V.bl false,V.bl false]++[V.bl false,V.bl false]))):=c9.upd_new h6;have g6:(c8 H5 l6 (.lst ([V.bl false,V.bl false,V.bl false,V.bl false,V.bl false,V.bl false,V.bl false]++[V.bl false,V.bl false]))) l6=some (.lst [V.bl false,V.bl false,V.bl false,V.bl false,V.bl false,V.bl false,V.bl false,V.bl false,V.bl false]):=c7
     generalize (c8 H5 l6 (.lst ([V.bl false,V.bl false,V.bl false,V.bl false,V.bl false,V.bl false,V.bl false]++[V.bl false,V.bl false])))=H6 at s6 g6 ⊢;have e6:=s6 _ _ (s5 _ _ e4);have s06:c9 H H6:=se.trans (s2.trans (s3.trans (s4.trans (s5.trans s6))));refine ⟨_,rfl,e,zzz,_,_,_,rfl,.inl ⟨_,rfl,rfl⟩,e6,IC,p9,_,rfl,J7 ⟨_,rfl,e,zzz,_,_,_,rfl,.inr ⟨_,rfl,rfl⟩,e6,IC,ER.ve ("TooMany",zzz) (by simp),_,rfl,J7 ⟨_,rfl,l6,_,rfl,.inl (i4.of g6),rfl,rfl,_,rfl,J7 (q H6 s06)⟩⟩⟩
def Y7 (ts:List (List Int))(i:Nat):List (List Int):=ts.mapIdx fun j t=>if j < i then t++[100+(j:Int)] else t
theorem U4 {ts:List (List Int)}{i j:Nat}:(Y7 ts i)[j]? =ts[j]?.map fun t=>if j < i then t++[100+(j:Int)] else t:=by
 unfold Y7;rw[List.getElem?_mapIdx]
theorem ae3 {ts:List (List Int)}{i:Nat}:(Y7 ts i).length=ts.length:=by unfold Y7;rw[List.length_mapIdx]
theorem bg5 (ts:List (List Int)):Y7 ts 0=ts:=by
 refine cx8 fun j=> ?_
 rw[U4]
 cases ts[j]? <;>rfl
def ao2:Sp:=fun vs H Q _=>∃(o:Addr) (bs:List Addr) (ts:List (List Int)),vs=[.ref o]/\H o=some (.lst (bs.map V.ref))/\j7 H bs ts/\bs.Nodup/\o∉bs/\bs.length<=2000/\(∀t∈ts,t.length<=40)/\∀H',(∀x u,H x=some u->x∉bs->H' x=some u)->Q (.bl true) H'
theorem O6:o5 ["found","kept","at","row"] ["found"] (j5 X8):=by rfl'
theorem al3:(["row"]:List Str).Nodup:=by decide+kernel
theorem R3:(["at","row"]:List Str).Nodup:=by decide+kernel
theorem ax7 {f:Addr}{fd:FuncData}(F:D3 K "_law_spoilt" "_law_spoilt" X8 f fd)(B:Bl mg):m7 P w K mg base E7 1 f fd ["found"] ao2:=by
 refine F.ok O6 (fun vs H Q E h=> ?_) (fun cdv A outer s H vs Q E hr h=> ?_)
 · obtain ⟨o,bs,ts,rfl,ho,rows,nd,no,lb,lt,q⟩:=h;rfl
 · obtain ⟨o,bs,ts,rfl,ho,rows,nd,no,lb,lt,q⟩:=h;have hu:=O3 hr;have hu2:_+1+1 < cLine:=cy0 (db8 (by decide:2<=64) _) hr.units;refine ⟨_,@e8 _ _ _ _ _ (@as5 _ (1) _ _ _ _ _ _ _ _ _ _ _ _ _ (["row"]) (1) ([]) O6.nd rfl (Or.inl rfl) rfl .of (@C5 _ _ _ _ (pv 0)) (fun _ _ _ _ _=>@i9 _ _ (0) _ al3 rfl (Or.inl rfl) (by trivial)) (fun _ _ _ _ _=>(@X1 _)) (fun _ _ _ _ _=>(@bk9 _ _ _ _ _ K B.list (@c5 _ _ _ _ _ (pv 0) (@c6 _) (by rfl)) (by rfl) (by rfl) (by rfl))) (by rfl) (by intro _;rfl) (by trivial)) (@e8 _ _ _ _ _ (@x8 _ _ _ _ _ _ _ _ PassesOwn.never rfl (@W0 _ _ _ _ _ _ _ _ B.enum (@c5 _ _ _ _ _ (pv 0) (@c6 _) (by rfl)) (by rfl) (by rfl)) (@Q4 _ _ _ _ _ _ rfl (@A5 _ _ _ _ _ (@i9 _ _ (2) _ O6.nd rfl (Or.inl rfl) (by trivial)) (@A5 _ _ _ _ _ (@i9 _ _ (3) _ O6.nd rfl (Or.inl rfl) (by trivial)) (@N0 _) (by rfl)) (by rfl)) (by rfl) (by rfl)) (@h8 _ _ _ (@C4 _ _ _ _ (@D5 _ _ _ _ _ _ _ (pv 3) (@c5 _ _ _ _ _ (@q9 _ _ _ _ _ _ _ _ J0 (@i6 _ _ _ _) (pv 2)) (@c6 _) (by rfl)) (by rfl) (by rfl) (by rfl) (by rfl) (by rfl)) (by rfl))) (by intro _;rfl)) (@h8 _ _ _ (@k7 _ _ _ _ (@aj0 _ _ _ _ _ _ _ _ (bq0 1 hu2) (pv 0) (@aj8 _ _ _ _ _ _ _ _ _ _ _ (["at","row"]) (2) ([]) rfl .of (@W0 _ _ _ _ _ _ _ _ B.enum (@c5 _ _ _ _ _ (pv 1) (@c6 _) (by rfl)) (by rfl) (by rfl)) (fun _ _ _ _ _=>@cc5 K _ _ _ _ (2) _ rfl (@A5 _ _ _ _ _ (@i9 _ _ (0) _ R3 rfl (Or.inl rfl) (by trivial)) (@A5 _ _ _ _ _ (@i9 _ _ (1) _ R3 rfl (Or.inl rfl) (by trivial)) (@N0 _) (by rfl)) (by rfl)) (by rfl) (by rfl) (by rfl)) (fun _ _ _ _ _=>(@X1 _)) (fun _ _ _ _ _=>(@q9 _ _ _ _ _ _ _ _ T8 (pv 1) (@x3 _ _ _ _ (@c5 _ _ _ _ _ (@q9 _ _ _ _ _ _ _ _ J0 (@i6 _ _ _ _) (pv 0)) (@c6 _) (by rfl))))) (by intro _;rfl)) (o7 _))))),?_⟩;have lbt:=rows.1
   refine ⟨_,rfl,o,rfl,⟨_,i4.of ho⟩,Z1 (K:=K) (a:=o) (xs:=bs.map V.ref) (fun i ys σ H1=>∃(v:Option V) (cs:List Addr),σ=[v]/\ys=cs.map V.ref/\j7 H1 cs (ts.take i)/\c9 H H1/\∀c∈cs,H c=none)
     ⟨none,[],rfl,rfl,⟨rfl,fun j b r h=>by cases h⟩,c9.refl _,fun c hc=>by cases hc⟩ (fun i ys σ H1 _ zz=>by obtain ⟨_,_,_,_,_,s,_⟩:=zz;exact i4.of (s _ _ ho)) ?_ ?_⟩
   · rintro i x ys σ H1 hi ⟨v,cs,rfl,rfl,rc,s1,fc⟩;rw[ct8] at hi;obtain ⟨b,hb,rfl⟩:=cy2.mp hi;have il:=(ct3.mp hb).1;have hr:ts[i]? =some (ts[i]'(by omega)):=ct2 _;generalize ts[i]'(by omega)=r at hr;have h1b:=s1 _ _ (rows.2 i b r hb hr);refine ⟨_,rfl,b,_,rfl,.inl (i4.of h1b),fun l hl=> ?_⟩;have lc:=rc.1;rw[cu2] at lc;refine ⟨cy0 (show (cs.map V.ref).length<=2000 by rw[ct1];omega) (by decide),_,cs++[l],rfl,by rw[ct9];rfl,?_,s1.upd_r (s1.free hl),fun c hc=> ?_⟩
     · rw[j9 hr];exact K3 (l8 rc fun c hc u e=>c9.upd_new hl _ _ e) c7
     · rcases cu5.mp hc with z|z
       · exact fc c z
       · rw[cv6.mp z];exact s1.free hl
   rintro ys σ H1 ⟨v,cs,rfl,rfl,rc,s1,fc⟩ kp hkp;rw[ct1,lbt,cw2] at rc;have s2:c9 H1 (c8 H1 kp (.lst (cs.map V.ref))):=c9.upd_new hkp;have h2k:(c8 H1 kp (.lst (cs.map V.ref))) kp=some (.lst (cs.map V.ref)):=c7;generalize (c8 H1 kp (.lst (cs.map V.ref)))=H2 at s2 h2k ⊢;have s02:=s1.trans s2;have h2o:=s02 _ _ ho
   have rc2:=l8 rc fun c _ u e=>s2 _ _ e
   have rb2:=l8 rows fun c _ u e=>s02 _ _ e
   have ncb:∀c∈cs,c∉bs:=fun c hc hb=>by
     obtain ⟨j,hj⟩:=cw5.mp hb;have jl:=(ct3.mp hj).1;have:=rows.2 j c _ hj (ct2 (show j < ts.length by omega));rw[fc c hc] at this;cases this
   have nkb:kp∉bs:=fun hb=>by
     obtain ⟨j,hj⟩:=cw5.mp hb;have jl:=(ct3.mp hj).1;have:=s1 _ _ (rows.2 j kp _ hj (ct2 (show j < ts.length by omega)));rw[hkp] at this;cases this
   refine ⟨_,rfl,o,rfl,⟨_,i4.of h2o⟩,X2 (K:=K) (a:=o) (xs:=bs.map V.ref) (fun i σ H3=>∃v2 v3:Option V,σ=[some (.ref o),some (.ref kp),v2,v3]/\j7 H3 bs (Y7 ts i)/\∀x u,H2 x=some u->x∉bs->H3 x=some u)
     ⟨none,none,rfl,by rw[bg5];exact rb2,fun x u e _=>e⟩ (fun i σ H3 _ zz=>by obtain ⟨_,_,_,_,k⟩:=zz;exact i4.of (k _ _ h2o no)) ?_ ?_⟩
   · rintro i x σ H3 t hi ⟨v2,v3,rfl,r3,k3⟩ ht;rw[ct8] at hi;obtain ⟨b,hb,rfl⟩:=cy2.mp hi;have il:=(ct3.mp hb).1;have hr:ts[i]? =some (ts[i]'(by omega)):=ct2 _;have hrm:ts[i]'(by omega)∈ts:=cz0 _;generalize ts[i]'(by omega)=r at hr hrm;have h3b:H3 b=some (.lst (r.map V.int)):=r3.2 i b r hb (by rw[U4,hr];simp);have s34:c9 H3 (c8 H3 t (.tup [.int (i:Int),.ref b])):=c9.upd_new ht;refine ⟨t,_,rfl,Q3.of c7,rfl,_,_,rfl,_,_,rfl,rfl,?_⟩;generalize (c8 H3 t (.tup [.int (i:Int),.ref b]))=H4 at s34 ⊢;have h4b:=s34 _ _ h3b;have lr:=lt r hrm;refine ⟨_,rfl,.inl ⟨rfl,_,i4.of h4b⟩,_,rfl,_,_,rfl,rfl,b,_,_,rfl,rfl,h4b,w6 (by rw[ct1];omega),?_⟩;refine ⟨_,_,rfl,⟨by rw[ae3];exact lbt,fun j c u hj hu=> ?_⟩,fun x u e nx=> ?_⟩
     · rw[U4] at hu;obtain ⟨y,hy,ey⟩:=cy2.mp hu
       by_cases z:j=i
       · subst z;rw[hb] at hj;cases hj;rw[hr] at hy;cases hy;rw[c7,<-ey,if_pos (Nat.lt_succ_self _),ct9];rfl
       · have ncb:c≠b:=fun e=>z ((List.getElem?_inj (by exact (ct3.mp hj).1) nd).mp (by rw[hj,hb,e]))
         rw[g8 ncb];refine s34 _ _ (r3.2 j c u hj ?_);rw[U4,hy,Option.map_some,<-ey]
         by_cases z2:j < i
         · rw[if_pos z2,if_pos (show j < i+1 by omega)]
         · rw[if_neg z2,if_neg (show ¬j < i+1 by omega)]
     · have:x≠b:=fun e=>nx (by rw[e];exact cu0 hb)
       rw[g8 this];exact s34 _ _ (k3 x u e nx)
   · rintro σ H3 ⟨v2,v3,rfl,r3,k3⟩;rw[ct1] at r3;have h3k:=k3 _ _ h2k nkb
     have rc3:=l8 rc2 fun c hc u e=>k3 c u e (ncb c hc)
     have lcs:=rc.1
     refine ⟨_,rfl,_,rfl,kp,rfl,⟨_,i4.of h3k⟩,br5 (K:=K) (a:=kp) (xs:=cs.map V.ref) (fun i ys σ H4=>∃(v0 v1:Option V) (ds:List Addr),σ=[v0,v1]/\ys=ds.map V.ref/\j7 H4 ds ((Y7 ts bs.length).take i)/\c9 H3 H4)
       ⟨none,none,[],rfl,rfl,⟨rfl,fun j b r h=>by cases h⟩,c9.refl _⟩ (fun i ys σ H4 _ zz=>by obtain ⟨_,_,_,_,_,_,s⟩:=zz;exact i4.of (s _ _ h3k)) ?_ ?_⟩
     · rintro i x ys σ H4 t hi ⟨v0,v1,ds,rfl,rfl,rd,s4⟩ ht;rw[ct8] at hi;obtain ⟨b,hb,rfl⟩:=cy2.mp hi;have il:=(ct3.mp hb).1;have hr:ts[i]? =some (ts[i]'(by omega)):=ct2 _;have hrm:ts[i]'(by omega)∈ts:=cz0 _;generalize ts[i]'(by omega)=r at hr hrm;have lr:=lt r hrm;have h4b:=s4 _ _ (rc3.2 i b r hb hr);refine ⟨t,_,rfl,Q3.of c7,rfl,_,_,rfl,_,_,rfl,rfl,?_⟩;have s45:c9 H4 (c8 H4 t (.tup [.int (i:Int),.ref b])):=c9.upd_new ht;generalize (c8 H4 t (.tup [.int (i:Int),.ref b]))=H5 at s45 ⊢;have h5b:=s45 _ _ h4b;refine ⟨_,rfl,_,rfl,_,_,rfl,rfl,(by show 1<=sizeLine;decide),fun e he=> ?_⟩;have nbe:b≠e:=h7 h5b he;refine ⟨b,e,_,_,rfl,rfl,by rw[g8 nbe];exact h5b,c7,?_,fun c hc=>⟨?_,?_⟩⟩
       · exact cz3 (w6 (show (r.map V.int).length+1<=1000 by rw[ct1];omega))
       · have:=rd.1;rw[cu2,ae3] at this;exact cy0 (show (ds.map V.ref).length<=2000 by rw[ct1];omega) (by decide)
       · have s6:=(c9.upd_new he).trans (c9.upd_new (o:= .lst (r.map V.int++[(fun (i j:Int)=>V.int (i+j)) 100 (i:Int)])) hc);refine ⟨_,_,ds++[c],rfl,by rw[ct9];rfl,?_,s4.trans (s45.trans s6)⟩;rw[j9 (x:=r++[100+(i:Int)]) (by rw[U4,hr,Option.map_some,if_pos (show i < bs.length by omega)])];refine K3 (l8 rd fun d _ u e=>s6 _ _ (s45 _ _ e)) ?_;rw[c7,ct9];rfl
     · rintro ys σ H4 ⟨v0,v1,ds,rfl,rfl,rd,s4⟩ D hD;rw[ct1,lcs,<-lbt,cz2 (by rw[ae3];omega)] at rd;have s5:c9 H4 (c8 H4 D (.lst (ds.map V.ref))):=c9.upd_new hD;have h5D:(c8 H4 D (.lst (ds.map V.ref))) D=some (.lst (ds.map V.ref)):=c7;generalize (c8 H4 D (.lst (ds.map V.ref)))=H5 at s5 h5D ⊢;have s35:=s4.trans s5;refine ⟨o,D,_,_,_,rfl,rfl,i4.of (s35 _ _ (k3 _ _ h2o no)),i4.of h5D,ag1 (l8 r3 fun c _ u e=>s35 _ _ e) (l8 rd fun c _ u e=>s5 _ _ e),?_⟩;rw[decide_eq_true rfl]
       exact q H5 fun x u e nx=>s35 _ _ (k3 x u (s02 _ _ e) nx)
end
end My
namespace My
open PySem L2 Mth
section
variable {P:Program} {w:World} {K:PySem.W.Frag} {mg:Str->Option Value} {base:Heap} {zyy zyz zxx zzy zzx zyx zzz zx zxz zxy zwz:Addr}
open PySem.Spec PyProof.Rows in
theorem bf0 {X:Cx}:J6 X (compareOp .IsNot) (fun x y H Q=>∃b c,x= .bl b/\y= .bl c/\Q (.bl (b !=c)) H):=by
 intro pins s σ H x y v u Q I rx ry h;obtain ⟨b,c,rfl,rfl,q⟩:=h;cases rx;cases ry;exact isnot_bool (w5 I q rfl)
theorem U7.up {p:List Int}{ts:List (List Int)}(h:U7 p ts)(tp:A0 p):ts.Pairwise (fun r r'=>HT.aj1 r r'=true):=by
 refine List.Pairwise.imp₂ (fun a b h1 h2=> ?_) h.srt (cv8.mp (h.nd tp))
 rcases at8 b a h1 with z|z
 · exact z
 · exact absurd z.symm h2
def ao3:Sp:=fun vs H Q _=>∃(a:Addr) (p:List Int),vs=[.ref a]/\E8 H a p/\∀H',Kp H H'->Q (.bl true) H'
theorem C6:o5 ["p","kept","found","many","k","row"] ["p"] (j5 O0):=by rfl'
theorem ai4 {f:Addr}{fd:FuncData}(F:D3 K "_law_great_right" "_law_great_right" O0 f fd)(B:Bl mg)(zsy:r6 P w K mg base "_law_told" 44 ["p"] al1)(zy:r6 P w K mg base "how_many_past" 4 ["p"] ak6)(zvz:r6 P w K mg base "is_turn" 2 ["thing"] (as8 T1 (ab5 K)))(zvy:r6 P w K mg base "_law_behind" 1 ["p","q"] ad7):m7 P w K mg base E7 45 f fd ["p"] ao3:=by
 refine F.ok C6 (fun vs H Q E h=> ?_) (fun cdv A outer s H vs Q E hr h=> ?_)
 · obtain ⟨a,p,rfl,⟨ha,tp,lp⟩,q⟩:=h;rfl
 · obtain ⟨a,p,rfl,⟨ha,tp,lp⟩,q⟩:=h;have zoy:m8 44 _:=hr.mono (by decide);have zv:m8 4 _:=hr.mono (by decide);have zr:m8 2 _:=hr.mono (by decide);have zt:m8 1 _:=hr.mono (by decide);have hu:=O3 hr;refine ⟨_,@e8 _ _ _ _ _ (@i8 _ _ (1) _ _ _ _ C6.nd rfl (Or.inl rfl) (@M6 _ _ _ _ _ B.list (@c5 _ _ _ _ _ (pv 0) (@c6 _) (by rfl)) (by rfl) (by rfl)) (by rfl) (by trivial)) (@e8 _ _ _ _ _ (@i8 _ _ (2) _ _ _ _ C6.nd rfl (Or.inl rfl) (@j6 _ _ _ _ _ _ _ _ _ _ zsy zoy (@c5 _ _ _ _ _ (pv 0) (@c6 _) (by rfl)) (by rfl) (by decide) (by rfl) (by rfl)) (by rfl) (by trivial)) (@e8 _ _ _ _ _ (@i8 _ _ (3) _ _ _ _ C6.nd rfl (Or.inl rfl) (@j6 _ _ _ _ _ _ _ _ _ _ zy zv (@c5 _ _ _ _ _ (@M6 _ _ _ _ _ B.list (@c5 _ _ _ _ _ (pv 0) (@c6 _) (by rfl)) (by rfl) (by rfl)) (@c6 _) (by rfl)) (by rfl) (by decide) (by rfl) (by rfl)) (by rfl) (by trivial)) (@e8 _ _ _ _ _ (@C1 _ _ _ _ _ _ _ _ (@o3 _ _ _ _ _ _ _ _ (aa9 0 hu) (pv 0) (pv 1) (o7 _)) (@h8 _ _ _ (@k7 _ _ _ _ (@D8 _ _ _ _))) (@x6 _)) (@e8 _ _ _ _ _ (@C1 _ _ _ _ _ _ _ _ (@o3 _ _ _ _ _ _ _ _ ai9 (pv 3) (@i6 _ _ _ _) (o7 _)) (@h8 _ _ _ (@k7 _ _ _ _ (@aj0 _ _ _ _ _ _ _ _ (ck8 hu) (pv 2) (@ae7 _ _ _ _) (o7 _)))) (@x6 _)) (@e8 _ _ _ _ _ (@C1 _ _ _ _ _ _ _ _ (@K4 _ _ _ _ _ _ _ (@L5 _ _ _ _ (@J5 _ _ _ (@ab0 _ _ _ _ _ _ B.isi (@c5 _ _ _ _ _ (pv 2) (@c5 _ _ _ _ _ (@Z2 _ _ B.list (by rfl)) (@c6 _) (by rfl)) (by rfl)) (by rfl) (by rfl) (by rfl)) (by intro _;rfl))) (@Q2 _ _ _ _ (@o3 _ _ _ _ _ _ _ _ ax9 (@y7 _ _ _ _ _ B.len (@c5 _ _ _ _ _ (pv 2) (@c6 _) (by rfl)) (by rfl) (by rfl)) (pv 3) (o7 _)))).pt (@h8 _ _ _ (@k7 _ _ _ _ (@D8 _ _ _ _))) (@x6 _)) (@e8 _ _ _ _ _ (@x8 _ _ _ _ _ _ _ _ PassesOwn.never rfl (@W0 _ _ _ _ _ _ _ _ B.enum (@c5 _ _ _ _ _ (pv 2) (@c6 _) (by rfl)) (by rfl) (by rfl)) (@Q4 _ _ _ _ _ _ rfl (@A5 _ _ _ _ _ (@i9 _ _ (4) _ C6.nd rfl (Or.inl rfl) (by trivial)) (@A5 _ _ _ _ _ (@i9 _ _ (5) _ C6.nd rfl (Or.inl rfl) (by trivial)) (@N0 _) (by rfl)) (by rfl)) (by rfl) (by rfl)) (@e8 _ _ _ _ _ (@C1 _ _ _ _ _ _ _ _ (@K4 _ _ _ _ _ _ _ (@o3 _ _ _ _ _ _ _ _ bf0 (@j6 _ _ _ _ _ _ _ _ _ _ zvz zr (@c5 _ _ _ _ _ (pv 5) (@c6 _) (by rfl)) (by rfl) (by decide) (by rfl) (by rfl)) (@D8 _ _ _ _) (o7 _)) (@Q2 _ _ _ _ (@o3 _ _ _ _ _ _ _ _ ax9 (@y7 _ _ _ _ _ B.len (@c5 _ _ _ _ _ (pv 5) (@c6 _) (by rfl)) (by rfl) (by rfl)) (@y7 _ _ _ _ _ B.len (@c5 _ _ _ _ _ (pv 0) (@c6 _) (by rfl)) (by rfl) (by rfl)) (o7 _)))).pt (@h8 _ _ _ (@k7 _ _ _ _ (@D8 _ _ _ _))) (@x6 _)) (@e8 _ _ _ _ _ (@C1 _ _ _ _ _ _ _ _ (@o3 _ _ _ _ _ _ _ _ (aa9 0 hu) (@j6 _ _ _ _ _ _ _ _ _ _ zvy zt (@c5 _ _ _ _ _ (pv 5) (@c5 _ _ _ _ _ (pv 0) (@c6 _) (by rfl)) (by rfl)) (by rfl) (by decide) (by rfl) (by rfl)) (@j6 _ _ _ _ _ _ _ _ _ _ zvy zt (@c5 _ _ _ _ _ (pv 0) (@c5 _ _ _ _ _ (pv 5) (@c6 _) (by rfl)) (by rfl)) (by rfl) (by decide) (by rfl) (by rfl)) (o7 _)) (@h8 _ _ _ (@k7 _ _ _ _ (@D8 _ _ _ _))) (@x6 _)) (@h8 _ _ _ (@C1 _ _ _ _ _ _ _ _ (@ay8 _ _ _ _ _ _ _ (@o3 _ _ _ _ _ _ _ _ ai9 (pv 4) (@i6 _ _ _ _) (o7 _)) (@bg7 _ _ _ _ (@L5 _ _ _ _ (@o3 _ _ _ _ _ _ _ _ (ck9 (Nat.lt_of_succ_lt hu)) (@G9 _ _ _ _ _ _ _ B7 (pv 2) (@q9 _ _ _ _ _ _ _ _ ch4 (pv 4) (@i6 _ _ _ _)) (fun _ _=>rfl)) (pv 5) (by with_unfolding_all rfl))))).pt (@h8 _ _ _ (@k7 _ _ _ _ (@D8 _ _ _ _))) (@x6 _))))) (by intro _;rfl)) (@h8 _ _ _ (@k7 _ _ _ _ (@D8 _ _ _ _))))))))),?_⟩
   refine ⟨_,rfl,a,_,rfl,.inl (i4.of ha),fun ke hke=> ?_⟩;have s1:c9 H (c8 H ke (.lst (p.map V.int))):=c9.upd_new hke;have h1k:(c8 H ke (.lst (p.map V.int))) ke=some (.lst (p.map V.int)):=c7;generalize (c8 H ke (.lst (p.map V.int)))=H1 at s1 h1k ⊢;have h1a:=s1 _ _ ha
   by_cases few:J4 p<=2000
   · refine ⟨_,rfl,a,p,rfl,⟨h1a,tp,lp⟩,.inl ⟨few,fun o bs ts H2 ho h2o rows ap nd fr no kp=> ?_⟩⟩;have h2a:=kp.lst h1a;refine ⟨_,rfl,a,_,rfl,.inl (i4.of h2a),fun l2 hl2=> ?_⟩;have s3:c9 H2 (c8 H2 l2 (.lst (p.map V.int))):=c9.upd_new hl2;have h3l:(c8 H2 l2 (.lst (p.map V.int))) l2=some (.lst (p.map V.int)):=c7;generalize (c8 H2 l2 (.lst (p.map V.int)))=H3 at s3 h3l ⊢;refine ⟨l2,p,rfl,⟨h3l,tp,lp⟩,fun H4 s4=> ?_⟩;have s24:=s3.trans s4;have h4a:=s24 _ _ h2a;have h4o:=s24 _ _ h2o;refine ⟨_,rfl,_,rfl,a,ke,_,_,_,rfl,rfl,i4.of h4a,i4.of (s24 _ _ (kp.lst h1k)),S3 _ _ _ _ _,_,rfl,?_⟩;rw[decide_eq_true rfl];refine C7 ?_;refine ⟨_,rfl,_,_,rfl,rfl,false,congrArg V.bl (decide_eq_false (show ¬(2000:Int) < ((J4 p:Nat):Int) by omega)),C7 ?_⟩;have lts:=ap.len;have lbt:=rows.1;have up:=cw3.mp (ap.up tp);refine ⟨_,rfl,_,"list",_,true,rfl,.lst h4o,S4 K "list",true,rfl,C7 ?_⟩;refine ⟨_,rfl,o,_,rfl,.inl (i4.of h4o),_,rfl,rfl,_,rfl,ay2 (by rw[ct1,lbt,lts];rfl) ?_⟩
     refine ⟨_,rfl,o,rfl,⟨_,i4.of h4o⟩,X2 (K:=K) (a:=o) (xs:=bs.map V.ref) (fun i σ H5=>∃v4 v5:Option V,σ=[some (.ref a),some (.ref ke),some (.ref o),some (.int ((J4 p:Nat):Int)),v4,v5]/\c9 H4 H5)
       ⟨none,none,rfl,c9.refl _⟩ (fun i σ H5 _ zz=>by obtain ⟨_,_,_,s⟩:=zz;exact i4.of (s _ _ h4o)) ?_ ?_⟩
     · rintro i x σ H5 t hi ⟨v4,v5,rfl,s5⟩ ht;rw[ct8] at hi;obtain ⟨b,hb,rfl⟩:=cy2.mp hi;have il:=(ct3.mp hb).1;have hr:ts[i]? =some (ts[i]'(by omega)):=ct2 _;obtain ⟨r,er⟩:∃r,r=ts[i]'(by omega):=⟨_,rfl⟩;rw[<-er] at hr;obtain ⟨tr,lr,cr⟩:=(ap.mem tp).mp (cu0 hr);have s56:c9 H5 (c8 H5 t (.tup [.int (i:Int),.ref b])):=c9.upd_new ht;refine ⟨t,_,rfl,Q3.of c7,rfl,_,_,rfl,_,_,rfl,rfl,?_⟩;generalize (c8 H5 t (.tup [.int (i:Int),.ref b]))=H6 at s56 ⊢;have s46:=s5.trans s56
       have r4:=l8 rows fun b _ u e=>s24 _ _ e
       have h6b:=s46 _ _ (r4.2 i b r hb hr);refine ⟨_,rfl,.inl ⟨b,r,rfl,h6b,fun c H7 s7 hc=> ?_⟩⟩;have ec:c=true:=hc.mpr ⟨by omega,tr⟩;subst ec;have s47:=s46.trans s7;have h7b:=s7 _ _ h6b;have h7a:=s47 _ _ h4a;refine ⟨_,_,rfl,rfl,_,rfl,C7 ⟨_,rfl,b,_,rfl,.inl (i4.of h7b),_,rfl,a,_,rfl,.inl (i4.of h7a),rfl,_,rfl,ay2 (by rw[ct1,ct1,lr]) ?_⟩⟩;refine ⟨_,rfl,_,rfl,b,a,r,p,rfl,⟨h7b,tr,by omega⟩,⟨h7a,tp,lp⟩,lr,fun x1 H8 hx1 s8 h8x=> ?_⟩;refine ⟨_,rfl,_,rfl,a,b,p,r,rfl,⟨s8 _ _ h7a,tp,lp⟩,⟨s8 _ _ h7b,tr,by omega⟩,lr.symm,fun x2 H9 hx2 s9 h9x=> ?_⟩;refine ⟨x1,x2,_,_,_,rfl,rfl,i4.of (s9 _ _ h8x),i4.of h9x,S3 _ _ _ _ _,_,rfl,?_⟩;rw[decide_eq_true cr];refine C7 ?_;have s49:=s47.trans (s8.trans s9);refine ⟨_,rfl,_,_,rfl,rfl,_,rfl,?_⟩
       by_cases z:(0:Int) < (i:Int)
       · rw[decide_eq_true z];refine J7 ?_
         have i0:0 < i:=by omega
         have ea:bs[i - 1]? =some (bs[i - 1]'(by omega)):=ct2 (by omega);have ra:ts[i - 1]? =some (ts[i - 1]'(by omega)):=ct2 (by omega);have lt:=up (i - 1) i (by omega) (by omega) (by omega);rw[<-er] at lt
         have ix1:atI (bs.map V.ref) ((i:Int) - 1)=some (.ref (bs[i - 1]'(by omega))):=by
           rw[show (i:Int) - 1=((i - 1:Nat):Int) by omega];exact G0 (j:=i - 1) (by rw[ct8,ea];rfl)
         refine ⟨_,rfl,_,rfl,_,_,rfl,rfl,o,_,_,_,rfl,rfl,i4.of (s49 _ _ h4o),ix1,_,rfl,_,_,_,_,rfl,rfl,s49 _ _ (r4.2 (i - 1) _ _ ea ra),s49 _ _ (r4.2 i b r hb hr),true,?_,?_⟩
         · rw[lt]
         · exact C7 ⟨_,_,rfl,s49⟩
       · rw[decide_eq_false z];exact C7 ⟨_,_,rfl,s49⟩
     · rintro σ H5 ⟨v4,v5,rfl,s5⟩;exact q H5 ((Kp.of s1).trans (kp.trans (Kp.of (s24.trans s5))))
   · refine ⟨_,rfl,a,p,rfl,⟨h1a,tp,lp⟩,.inr ⟨by omega,fun H2 s2=> ?_⟩⟩;have h2a:=s2 _ _ h1a;refine ⟨_,rfl,a,_,rfl,.inl (i4.of h2a),fun l2 hl2=> ?_⟩;have s3:c9 H2 (c8 H2 l2 (.lst (p.map V.int))):=c9.upd_new hl2;have h3l:(c8 H2 l2 (.lst (p.map V.int))) l2=some (.lst (p.map V.int)):=c7;generalize (c8 H2 l2 (.lst (p.map V.int)))=H3 at s3 h3l ⊢;refine ⟨l2,p,rfl,⟨h3l,tp,lp⟩,fun H4 s4=> ?_⟩;have s24:=s3.trans s4;refine ⟨_,rfl,_,rfl,a,ke,_,_,_,rfl,rfl,i4.of (s24 _ _ h2a),i4.of (s24 _ _ (s2 _ _ h1k)),S3 _ _ _ _ _,_,rfl,?_⟩;rw[decide_eq_true rfl];refine C7 ?_;refine ⟨_,rfl,_,_,rfl,rfl,true,congrArg V.bl (decide_eq_true (show (2000:Int) < ((J4 p:Nat):Int) by omega)),J7 ?_⟩;exact ⟨_,rfl,.inl ⟨rfl,q H4 (Kp.of (s1.trans (s2.trans s24)))⟩⟩
end
end My
namespace My
open PySem L2 Mth
section
variable {P:Program} {w:World} {K:PySem.W.Frag} {mg:Str->Option Value} {base:Heap} {zyy zyz zxx zzy zzx zyx zzz zx zxz zxy zwz:Addr}
theorem ax0:∀{l:List Int} {k:Nat},(l.map V.int).eraseIdx k=(l.eraseIdx k).map V.int
 |[],k=>by simp
 |a::l,0=>by simp
 |a::l,k+1=>by simp [ax0 (l:=l) (k:=k)]
theorem bf1:∀{l:List Int},(∀x∈l,1<=x)->0<=l.sum
 |[],_=>by simp
 |a::l,h=>by
  have:=bf1 fun y hy=>h y (ct5 _ hy)
  have:=h a ct7;rw[List.sum_cons];omega
theorem A4 {H H':Hp}{g:Addr}{c:Nat}(h:x9 H g c)(s:c9 H H'):x9 H' g c:=by
 obtain ⟨x,y,z,e1,e2⟩:=h;exact ⟨x,y,z,s _ _ e1,e2⟩
theorem D4 {H:Hp}{g b:Addr}{c:Nat}(h:x9 H g c)(hb:H b=none):b≠g:=by
 obtain ⟨x,y,z,e1,e2⟩:=h
 exact fun e=>by rw[e,e1] at hb;cases hb
theorem bf2 {H:Hp}{a so:Addr}{o:HO}{c:Nat}(h:x9 H a c)(ne:so≠a):x9 (c8 H so o) a c:=by
 obtain ⟨x,y,z,e1,e2⟩:=h;exact ⟨x,y,z,by rw[g8 ne.symm];exact e1,e2⟩
def ai5:Sp:=fun vs H Q _=>∃(g:Addr) (c:Nat),vs=[.ref g]/\x9 H g c/\c<=800000/\∀(l:Addr) (p:List Int) (H':Hp),H l=none->A0 p->p.length<=40->H' l=some (.lst (p.map V.int))->x9 H' g (c+100)->i7 g H H'->Q (.ref l) H'
theorem B5:o5 ["pool","lengths","some","left","found","length","part","k","thing"] ["pool"] (j5 X9):=by rfl'
theorem V8:(["k","left","pool"]:List Str).Nodup:=by decide+kernel
theorem ax8 {f:Addr}{fd:FuncData}(F:D3 K "_law_rounds" "_law_rounds" X9 f fd)(B:Bl mg)(zwy:r6 P w K mg base "_law_draw" 1 ["pool","many"] ah2):m7 P w K mg base E7 2 f fd ["pool"] ai5:=by
 refine F.ok B5 (fun vs H Q E h=> ?_) (fun cdv A outer s H vs Q E hr h=> ?_)
 · obtain ⟨g,c,rfl,hg,hc,q⟩:=h;rfl
 · obtain ⟨g,c,rfl,hg,hc,q⟩:=h;have zvx:m8 1 _:=hr.mono (by decide);refine ⟨_,@e8 _ _ _ _ _ (@i8 _ _ (1) _ _ _ _ B5.nd rfl (Or.inl rfl) (@x3 _ _ _ _ (@c5 _ _ _ _ _ (@x3 _ _ _ _ (@c5 _ _ _ _ _ (@i6 _ _ _ _) (@c5 _ _ _ _ _ (@i6 _ _ _ _) (@c5 _ _ _ _ _ (@i6 _ _ _ _) (@c6 _) (by rfl)) (by rfl)) (by rfl))) (@c5 _ _ _ _ _ (@S6 _ _ _ [10,5,4,1] rfl) (@c5 _ _ _ _ _ (@S6 _ _ _ [20,10,5,2] rfl) (@c5 _ _ _ _ _ (@S6 _ _ _ [8,5,10,5,1] rfl) (@c5 _ _ _ _ _ (@S6 _ _ _ [9,7,8,1,1] rfl) (@c6 _) (by rfl)) (by rfl)) (by rfl)) (by rfl)) (by rfl))) (by rfl) (by trivial)) (@e8 _ _ _ _ _ (@i8 _ _ (1) _ _ _ _ B5.nd rfl (Or.inl rfl) (@q9 _ _ _ _ _ _ _ _ T8 (pv 1) (@x3 _ _ _ _ (@c5 _ _ _ _ _ (@x3 _ _ _ _ (@c5 _ _ _ _ _ (@i6 _ _ _ _) (@c5 _ _ _ _ _ (@i6 _ _ _ _) (@c5 _ _ _ _ _ (@i6 _ _ _ _) (@c6 _) (by rfl)) (by rfl)) (by rfl))) (@c5 _ _ _ _ _ (@S6 _ _ _ [2,2,2,2,3] rfl) (@c5 _ _ _ _ _ (@S6 _ _ _ [2,7,11,13] rfl) (@c6 _) (by rfl)) (by rfl)) (by rfl)))) (by rfl) (by trivial)) (@e8 _ _ _ _ _ (@i8 _ _ (2) _ _ _ _ B5.nd rfl (Or.inl rfl) (@G9 _ _ _ _ _ _ _ B7 (pv 1) (@j6 _ _ _ _ _ _ _ _ _ _ zwy zvx (@c5 _ _ _ _ _ (pv 0) (@c5 _ _ _ _ _ (@i6 _ _ _ _) (@c6 _) (by rfl)) (by rfl)) (by rfl) (by decide) (by rfl) (by rfl)) (fun _ _=>rfl)) (by rfl) (by trivial)) (@e8 _ _ _ _ _ (@i8 _ _ (3) _ _ _ _ B5.nd rfl (Or.inr rfl) (@ac4 _ _ _ _ _ _ _ rfl B.list B.range (@c5 _ _ _ _ _ (@ci8 _ _ _ _ _ rfl B.sum (@c5 _ _ _ _ _ (pv 2) (@c6 _) (by rfl)) (by rfl) (by rfl)) (@c6 _) (by rfl)) (by rfl) (by rfl) (by rfl) (by rfl)) (by rfl) (by trivial)) (@e8 _ _ _ _ _ (@i8 _ _ (4) _ _ _ _ B5.nd rfl (Or.inl rfl) (@M6 _ _ _ _ _ B.list (@c5 _ _ _ _ _ (pv 3) (@c6 _) (by rfl)) (by rfl) (by rfl)) (by rfl) (by trivial)) (@e8 _ _ _ _ _ (@x8 _ _ _ _ _ _ _ _ PassesOwn.never rfl (@C5 _ _ _ _ (pv 2)) (@i9 _ _ (5) _ B5.nd rfl (Or.inl rfl) (by trivial)) (@e8 _ _ _ _ _ (@as5 _ (6) _ _ _ _ _ _ _ _ _ _ _ _ _ (["k","left","pool"]) (1) ([3,0]) B5.nd rfl (Or.inl rfl) rfl .of (@M1 _ _ _ _ _ _ (by rfl) B.range (@c5 _ _ _ _ _ (pv 5) (@c6 _) (by rfl)) (by rfl)) (fun _ _ _ _ _=>@i9 _ _ (0) _ V8 rfl (Or.inl rfl) (by trivial)) (fun _ _ _ _ _=>(@X1 _)) (fun _ _ _ _ _=>(@bs9 _ K _ _ _ _ _ _ (pv 1) (@c5 _ _ _ _ _ (@j6 _ _ _ _ _ _ _ _ _ _ zwy zvx (@c5 _ _ _ _ _ (pv 2) (@c5 _ _ _ _ _ (@bx0 _ _ _ _ _ K (by exact B.len) (@c5 _ _ _ _ _ (pv 1) (@c6 _) (by rfl)) (by rfl) (by rfl) (by rfl)) (@c6 _) (by rfl)) (by rfl)) (by rfl) (by decide) (by rfl) (by rfl)) (@c6 _) (by rfl)) (by rfl) (by rfl) (by rfl) (by rfl) (by rfl) (by rfl))) (by rfl) (by intro _;rfl) (by trivial)) (@h8 _ _ _ (@x8 _ _ _ _ _ _ _ _ PassesOwn.never rfl (@W0 _ _ _ _ _ _ _ _ B.enum (@c5 _ _ _ _ _ (pv 6) (@c6 _) (by rfl)) (by rfl) (by rfl)) (@Q4 _ _ _ _ _ _ rfl (@A5 _ _ _ _ _ (@i9 _ _ (7) _ B5.nd rfl (Or.inl rfl) (by trivial)) (@A5 _ _ _ _ _ (@i9 _ _ (8) _ B5.nd rfl (Or.inl rfl) (by trivial)) (@N0 _) (by rfl)) (by rfl)) (by rfl) (by rfl)) (@h8 _ _ _ (@ae9 _ _ _ _ _ _ (@G9 _ _ _ _ _ _ _ B7 (pv 6) (@q9 _ _ _ _ _ _ _ _ T7 (@q9 _ _ _ _ _ _ _ _ J0 (pv 7) (@i6 _ _ _ _)) (pv 5)) (fun _ _=>rfl)) (@ae8 _ _ _ _ _ _ _ (pv 4) (pv 8) X0 (by intro _;rfl)) (by rfl) (by rfl) (by rfl))) (by intro _;rfl)))) (by intro _;rfl)) (@h8 _ _ _ (@k7 _ _ _ _ (pv 4)))))))),?_⟩
   refine ⟨(show 3<=sizeLine by decide),fun l0 hl0=> ?_⟩;have t1:c9 H (c8 H l0 (.lst [V.int 10,V.int 10,V.int 5])):=c9.upd_new hl0;have fl0:(c8 H l0 (.lst [V.int 10,V.int 10,V.int 5])) l0=some (.lst (([10,10,5]:List Int).map V.int)):=c7;generalize (c8 H l0 (.lst [V.int 10,V.int 10,V.int 5]))=Ha1 at t1 fl0 ⊢;refine ⟨(show 4<=sizeLine by decide),fun l1 hl1=> ?_⟩;have t2:c9 Ha1 (c8 Ha1 l1 (.lst (([10,5,4,1]:List Int).map V.int))):=c9.upd_new hl1;have fl1:(c8 Ha1 l1 (.lst (([10,5,4,1]:List Int).map V.int))) l1=some (.lst (([10,5,4,1]:List Int).map V.int)):=c7;generalize (c8 Ha1 l1 (.lst (([10,5,4,1]:List Int).map V.int)))=Ha2 at t2 fl1 ⊢;refine ⟨(show 4<=sizeLine by decide),fun l2 hl2=> ?_⟩;have t3:c9 Ha2 (c8 Ha2 l2 (.lst (([20,10,5,2]:List Int).map V.int))):=c9.upd_new hl2;have fl2:(c8 Ha2 l2 (.lst (([20,10,5,2]:List Int).map V.int))) l2=some (.lst (([20,10,5,2]:List Int).map V.int)):=c7;generalize (c8 Ha2 l2 (.lst (([20,10,5,2]:List Int).map V.int)))=Ha3 at t3 fl2 ⊢;refine ⟨(show 5<=sizeLine by decide),fun l3 hl3=> ?_⟩;have t4:c9 Ha3 (c8 Ha3 l3 (.lst (([8,5,10,5,1]:List Int).map V.int))):=c9.upd_new hl3;have fl3:(c8 Ha3 l3 (.lst (([8,5,10,5,1]:List Int).map V.int))) l3=some (.lst (([8,5,10,5,1]:List Int).map V.int)):=c7;generalize (c8 Ha3 l3 (.lst (([8,5,10,5,1]:List Int).map V.int)))=Ha4 at t4 fl3 ⊢;refine ⟨(show 5<=sizeLine by decide),fun l4 hl4=> ?_⟩;have t5:c9 Ha4 (c8 Ha4 l4 (.lst (([9,7,8,1,1]:List Int).map V.int))):=c9.upd_new hl4;have fl4:(c8 Ha4 l4 (.lst (([9,7,8,1,1]:List Int).map V.int))) l4=some (.lst (([9,7,8,1,1]:List Int).map V.int)):=c7;generalize (c8 Ha4 l4 (.lst (([9,7,8,1,1]:List Int).map V.int)))=Ha5 at t5 fl4 ⊢;refine ⟨(show 5<=sizeLine by decide),fun m1 hm1=> ?_⟩;have t6:c9 Ha5 (c8 Ha5 m1 (.lst [V.ref l0,V.ref l1,V.ref l2,V.ref l3,V.ref l4])):=c9.upd_new hm1;have fm1:(c8 Ha5 m1 (.lst [V.ref l0,V.ref l1,V.ref l2,V.ref l3,V.ref l4])) m1=some (.lst [V.ref l0,V.ref l1,V.ref l2,V.ref l3,V.ref l4]):=c7;generalize (c8 Ha5 m1 (.lst [V.ref l0,V.ref l1,V.ref l2,V.ref l3,V.ref l4]))=Ha6 at t6 fm1 ⊢;refine ⟨_,rfl,(show 3<=sizeLine by decide),fun l5 hl5=> ?_⟩;have t7:c9 Ha6 (c8 Ha6 l5 (.lst [V.int 25,V.int 8,V.int 5])):=c9.upd_new hl5;have fl5:(c8 Ha6 l5 (.lst [V.int 25,V.int 8,V.int 5])) l5=some (.lst (([25,8,5]:List Int).map V.int)):=c7;generalize (c8 Ha6 l5 (.lst [V.int 25,V.int 8,V.int 5]))=Ha7 at t7 fl5 ⊢;refine ⟨(show 5<=sizeLine by decide),fun l6 hl6=> ?_⟩;have t8:c9 Ha7 (c8 Ha7 l6 (.lst (([2,2,2,2,3]:List Int).map V.int))):=c9.upd_new hl6;have fl6:(c8 Ha7 l6 (.lst (([2,2,2,2,3]:List Int).map V.int))) l6=some (.lst (([2,2,2,2,3]:List Int).map V.int)):=c7;generalize (c8 Ha7 l6 (.lst (([2,2,2,2,3]:List Int).map V.int)))=Ha8 at t8 fl6 ⊢;refine ⟨(show 4<=sizeLine by decide),fun l7 hl7=> ?_⟩;have t9:c9 Ha8 (c8 Ha8 l7 (.lst (([2,7,11,13]:List Int).map V.int))):=c9.upd_new hl7;have fl7:(c8 Ha8 l7 (.lst (([2,7,11,13]:List Int).map V.int))) l7=some (.lst (([2,7,11,13]:List Int).map V.int)):=c7;generalize (c8 Ha8 l7 (.lst (([2,7,11,13]:List Int).map V.int)))=Ha9 at t9 fl7 ⊢
   refine ⟨(show 3<=sizeLine by decide),fun m2 hm2=> ?_⟩;have t10:c9 Ha9 (c8 Ha9 m2 (.lst [V.ref l5,V.ref l6,V.ref l7])):=c9.upd_new hm2;have fm2:(c8 Ha9 m2 (.lst [V.ref l5,V.ref l6,V.ref l7])) m2=some (.lst [V.ref l5,V.ref l6,V.ref l7]):=c7;generalize (c8 Ha9 m2 (.lst [V.ref l5,V.ref l6,V.ref l7]))=Ha10 at t10 fm2 ⊢;refine ⟨m1,m2,_,_,rfl,rfl,t10 _ _ (t9 _ _ (t8 _ _ (t7 _ _ fm1))),fm2,(show 8<=sizeLine by decide),fun m3 hm3=> ?_⟩;have t11:c9 Ha10 (c8 Ha10 m3 (.lst ([V.ref l0,V.ref l1,V.ref l2,V.ref l3,V.ref l4]++[V.ref l5,V.ref l6,V.ref l7]))):=c9.upd_new hm3;have fm3:(c8 Ha10 m3 (.lst ([V.ref l0,V.ref l1,V.ref l2,V.ref l3,V.ref l4]++[V.ref l5,V.ref l6,V.ref l7]))) m3=some (.lst [V.ref l0,V.ref l1,V.ref l2,V.ref l3,V.ref l4,V.ref l5,V.ref l6,V.ref l7]):=c7;generalize (c8 Ha10 m3 (.lst ([V.ref l0,V.ref l1,V.ref l2,V.ref l3,V.ref l4]++[V.ref l5,V.ref l6,V.ref l7])))=Hb at t11 fm3 ⊢;have u10:c9 Ha10 Hb:=t11;have u9:c9 Ha9 Hb:=t10.trans u10;have u8:c9 Ha8 Hb:=t9.trans u9;have u7:c9 Ha7 Hb:=t8.trans u8;have u6:c9 Ha6 Hb:=t7.trans u7;have u5:c9 Ha5 Hb:=t6.trans u6;have u4:c9 Ha4 Hb:=t5.trans u5;have u3:c9 Ha3 Hb:=t4.trans u4;have u2:c9 Ha2 Hb:=t3.trans u3;have u1:c9 Ha1 Hb:=t2.trans u2;have u0:c9 H Hb:=t1.trans u1;have g0:=u1 _ _ fl0;have g1:=u2 _ _ fl1;have g2:=u3 _ _ fl2;have g3:=u4 _ _ fl3;have g4:=u5 _ _ fl4;have g5:=u7 _ _ fl5;have g6:=u8 _ _ fl6;have g7:=u9 _ _ fl7;have n0:l0≠g:=D4 hg hl0;have n1:l1≠g:=D4 (A4 hg (t1)) hl1;have n2:l2≠g:=D4 (A4 hg (t1.trans (t2))) hl2;have n3:l3≠g:=D4 (A4 hg (t1.trans (t2.trans (t3)))) hl3;have n4:l4≠g:=D4 (A4 hg (t1.trans (t2.trans (t3.trans (t4))))) hl4;have n5:l5≠g:=D4 (A4 hg (t1.trans (t2.trans (t3.trans (t4.trans (t5.trans (t6))))))) hl5;have n6:l6≠g:=D4 (A4 hg (t1.trans (t2.trans (t3.trans (t4.trans (t5.trans (t6.trans (t7)))))))) hl6;have n7:l7≠g:=D4 (A4 hg (t1.trans (t2.trans (t3.trans (t4.trans (t5.trans (t6.trans (t7.trans (t8))))))))) hl7;have nm3:m3≠g:=D4 (A4 hg (t1.trans (t2.trans (t3.trans (t4.trans (t5.trans (t6.trans (t7.trans (t8.trans (t9.trans (t10))))))))))) hm3;refine ⟨_,rfl,_,rfl,g,c,8,rfl,A4 hg u0,by omega,by decide,by decide,fun r Hd r0 r1 Pd kbd=> ?_⟩;have kd:i7 g H Hd:=(u0.but g).trans kbd
   obtain ⟨ka,ks,ea,hk,nkg,kpos,ksum⟩:∃(ka:Addr) (ks:List Int),atI [V.ref l0,V.ref l1,V.ref l2,V.ref l3,V.ref l4,V.ref l5,V.ref l6,V.ref l7] r=some (.ref ka)/\Hd ka=some (.lst (ks.map V.int))/\ka≠g/\(∀x∈ks,1<=x)/\ks.sum<=40:=by
     have:r=0\/r=1\/r=2\/r=3\/r=4\/r=5\/r=6\/r=7:=by omega
     rcases this with rfl|rfl|rfl|rfl|rfl|rfl|rfl|rfl
     · exact ⟨l0,_,rfl,kbd _ _ g0 n0,n0,by decide,by decide⟩
     · exact ⟨l1,_,rfl,kbd _ _ g1 n1,n1,by decide,by decide⟩
     · exact ⟨l2,_,rfl,kbd _ _ g2 n2,n2,by decide,by decide⟩
     · exact ⟨l3,_,rfl,kbd _ _ g3 n3,n3,by decide,by decide⟩
     · exact ⟨l4,_,rfl,kbd _ _ g4 n4,n4,by decide,by decide⟩
     · exact ⟨l5,_,rfl,kbd _ _ g5 n5,n5,by decide,by decide⟩
     · exact ⟨l6,_,rfl,kbd _ _ g6 n6,n6,by decide,by decide⟩
     · exact ⟨l7,_,rfl,kbd _ _ g7 n7,n7,by decide,by decide⟩
   refine ⟨m3,_,_,_,rfl,rfl,i4.of (kbd _ _ fm3 nm3),ea,?_⟩;clear g0 n0 fl0 g1 n1 fl1 g2 n2 fl2 g3 n3 fl3 g4 n4 fl4 g5 n5 fl5 g6 n6 fl6 g7 n7 fl7 ea fm1 fm2 fm3 u0 u1 u2 u3 u4 u5 u6 u7 u8 u9 u10 t1 t2 t3 t4 t5 t6 t7 t8 t9 t10 t11 hm1 hm2 hm3 nm3 kbd hl0 hl1 hl2 hl3 hl4 hl5 hl6 hl7;have s0:=bf1 kpos;obtain ⟨s,es⟩:=cy8 s0;refine ⟨_,rfl,ka,ks,rfl,i4.of hk,_,rfl,fun rr hrr=> ?_⟩;rw[es] at ksum ⊢;have s4:c9 Hd (c8 Hd rr (.rng 0 (s:Int))):=c9.upd_new hrr;have h4r:(c8 Hd rr (.rng 0 (s:Int))) rr=some (.rng 0 (s:Int)):=c7;generalize (c8 Hd rr (.rng 0 (s:Int)))=H4 at s4 h4r ⊢;refine ⟨rr,0,(s:Int),rfl,h4r,⟨by decide,by decide,by omega,by omega⟩,by omega,fun lf hlf=> ?_⟩;rw[show ((s:Int) - 0).toNat=s by omega];have s5:c9 H4 (c8 H4 lf (.lst ((D6 0 s).map V.int))):=c9.upd_new hlf;have h5f:(c8 H4 lf (.lst ((D6 0 s).map V.int))) lf=some (.lst ((D6 0 s).map V.int)):=c7;generalize (c8 H4 lf (.lst ((D6 0 s).map V.int)))=H5 at s5 h5f ⊢;refine ⟨_,rfl,lf,_,rfl,.inl (i4.of h5f),fun fo hfo=> ?_⟩;have s6:c9 H5 (c8 H5 fo (.lst ((D6 0 s).map V.int))):=c9.upd_new hfo;have h6o:(c8 H5 fo (.lst ((D6 0 s).map V.int))) fo=some (.lst ((D6 0 s).map V.int)):=c7;generalize (c8 H5 fo (.lst ((D6 0 s).map V.int)))=H6 at s6 h6o ⊢;have sd6:c9 Hd H6:=s4.trans (s5.trans s6);have hlfd:Hd lf=none:=s4.free hlf;have hfod:Hd fo=none:=s4.free (s5.free hfo);have nfg:lf≠g:=D4 Pd hlfd;have nog:fo≠g:=D4 Pd hfod;have hlf0:H lf=none:=kd.free hlfd nfg;have hfo0:H fo=none:=kd.free hfod nog
   have nof:fo≠lf:=fun z=>by rw[z,h5f] at hfo;cases hfo
   have nkf:ka≠lf:=h7 hk hlfd;have nko:ka≠fo:=h7 hk hfod;have P6:=A4 Pd sd6;have k6:i7 g H H6:=kd.trans (sd6.but g);have h6k:=sd6 _ _ hk
   refine ⟨_,rfl,ka,rfl,⟨_,i4.of h6k⟩,G6 (K:=K) (a:=ka) (xs:=ks.map V.int) (fun i σ Hx=>∃(us fs qs ms:List Int) (v5 v6 v7 v8:Option V),σ=[some (.ref g),some (.ref m3),some (.ref ka),some (.ref lf),some (.ref fo),v5,v6,v7,v8]/\Hx lf=some (.lst (ms.map V.int))/\Hx fo=some (.lst (fs.map V.int))/\Hx ka=some (.lst (ks.map V.int))/\(us++ms).Perm (D6 0 s)/\(us.length:Int)=(ks.take i).sum/\fs.length=s/\qs.Perm us/\us.map (G3 fs)=qs.map some/\x9 Hx g (c+1+us.length)/\i7 g H Hx)
     ⟨[],_,[],_,none,none,none,none,rfl,s6 _ _ h5f,h6o,h6k,List.Perm.refl _,rfl,D1 ..,List.Perm.refl _,rfl,P6,k6⟩ (fun i σ Hx _ zz=>by obtain ⟨_,_,_,_,_,_,_,_,_,_,_,h,_⟩:=zz;exact i4.of h) ?_ ?_⟩
   · rintro i x σ H8 hi ⟨us,fs,qs,ms,v5,v6,v7,v8,rfl,h8f,h8o,h8k,pm,ul,fl,qp,qm,P8,kb8⟩;obtain ⟨len,hlen,rfl⟩:=G4 hi;have len1:1<=len:=kpos len (cu0 hlen)
     have tsum:(ks.take (i+1)).sum=(ks.take i).sum+len:=by rw[j9 hlen,List.sum_append,List.sum_singleton]
     have tle:(ks.take (i+1)).sum<=ks.sum:=by
       have e:ks.sum=(ks.take (i+1)).sum+(ks.drop (i+1)).sum:=by rw[<-List.sum_append,cx4]
       have:0<=(ks.drop (i+1)).sum:=bf1 fun y hy=>kpos y (db6 hy)
       omega
     obtain ⟨ln,rfl⟩:=cy8 (show 0<=len by omega)
     have ums:us.length+ms.length=s:=by
       have:=pm.length_eq;rw[ct6,D1] at this;exact this
     have hln:((ln:Nat):Int).toNat=ln:=by omega
     refine ⟨_,rfl,(ln:Int),rfl,by omega,by omega,bk6 (lo:=0) (n:=((ln:Nat):Int).toNat) (fun j ys σ H9=>∃(v:Option V) (os ms':List Int),σ=[v,some (.ref lf),some (.ref g)]/\ys=os.map V.int/\os.length=j/\H9 lf=some (.lst (ms'.map V.int))/\(us++os++ms').Perm (D6 0 s)/\x9 H9 g (c+1+us.length+j)/\∀b o,H8 b=some o->b≠g->b≠lf->H9 b=some o)
       ⟨none,[],ms,rfl,rfl,rfl,h8f,by rw[cw0];exact pm,P8,fun b o h _ _=>h⟩ ?_ ?_⟩
     · rintro j ys σ H9 hj ⟨v,os,ms',rfl,rfl,lo,h9f,pm9,P9,kp9⟩
       have lms:us.length+os.length+ms'.length=s:=by
         have:=pm9.length_eq;rw[ct6,ct6,D1] at this;exact this
       have em:(ms'.map V.int).length=ms'.length:=ct1 ..;refine ⟨_,rfl,.inl ⟨rfl,_,i4.of h9f⟩,_,rfl,_,rfl,lf,_,rfl,.inl (i4.of h9f),g,_,_,rfl,P9,by omega,(by rw[em];omega),(by rw[em];omega),fun x H10 x0 x1 P10 kb10=> ?_⟩;rw[em] at x1;obtain ⟨jn,rfl⟩:=cy8 x0
       have hjl:jn < ms'.length:=by omega
       have h10f:=kb10 _ _ h9f nfg;refine ⟨lf,_,_,jn,.int ms'[jn],rfl,rfl,h10f,by omega,by omega,?_,by rw[ct8,ct2 hjl];rfl,w6 (by rw[ct1];omega),?_⟩
       · have:Z0 (ms'.map V.int).length (jn:Int)=some jn:=by
           unfold Z0;rw[em,if_pos (by omega),if_pos (by omega)];simp
         exact (aj2 this).1
       · refine ⟨_,os++[ms'[jn]],ms'.eraseIdx jn,rfl,by rw[ct9];rfl,by rw[ct6,lo];rfl,by rw[c7,ax0],?_,bf2 P10 nfg,fun b o hb h1 h2=>by rw[g8 h2];exact kb10 b o (kp9 b o hb h1 h2) h1⟩;have pe:=ac5 (l:=ms') (k:=jn) (ct2 hjl);refine List.Perm.trans ?_ pm9;rw[cu6,cu6,cu6];refine List.Perm.append_left us (List.Perm.append_left os pe)
     · rintro ys σ H9 ⟨v,os,ms',rfl,rfl,lo,h9f,pm9,P9,kp9⟩ oa hoa;rw[hln] at lo P9;have s10:c9 H9 (c8 H9 oa (.lst (os.map V.int))):=c9.upd_new hoa;have h10a:(c8 H9 oa (.lst (os.map V.int))) oa=some (.lst (os.map V.int)):=c7;generalize (c8 H9 oa (.lst (os.map V.int)))=H10 at s10 h10a ⊢;have h9o:=kp9 _ _ h8o nog nof;have h9k:=kp9 _ _ h8k nkg nkf;have noag:oa≠g:=D4 P9 hoa;have noaf:oa≠lf:=(h7 h9f hoa).symm;have noao:oa≠fo:=(h7 h9o hoa).symm
       have kb9:i7 g H H9:=fun b o hb h1=>kp9 b o (kb8 b o hb h1) h1 (fun z=>by rw[z,hlf0] at hb;cases hb)
       have nd9:(us++os).Nodup:=(cy3.mp (pm9.nodup_iff.mpr (N5 s))).1
       have bd9:∀x∈us++os,0<=x/\x < (s:Int):=fun x hx=>by
         have:=M5.mp (pm9.mem_iff.mp (cx6 ms' hx));omega
       have gd:∀u,(us++os).getD (us.length+u) 0=os.getD u 0:=fun u=>by
         rw[cu9,cu9,cx2 (by omega)]
         congr 2;omega
       refine ⟨_,rfl,oa,rfl,⟨_,i4.of h10a⟩,X2 (K:=K) (a:=oa) (xs:=os.map V.int) (fun j σ H11=>∃(fs':List Int) (v7 v8:Option V),σ=[some (.ref g),some (.ref m3),some (.ref ka),some (.ref lf),some (.ref fo),some (.int (ln:Int)),some (.ref oa),v7,v8]/\H11 lf=some (.lst (ms'.map V.int))/\H11 fo=some (.lst (fs'.map V.int))/\H11 ka=some (.lst (ks.map V.int))/\H11 oa=some (.lst (os.map V.int))/\fs'.length=s/\us.map (G3 fs')=qs.map some/\(∀w,w < j->G3 fs' (os.getD w 0)=some (os.getD ((w+1)%ln) 0))/\x9 H11 g (c+1+us.length+ln)/\i7 g H H11)
         ⟨fs,_,_,rfl,s10 _ _ h9f,s10 _ _ h9o,s10 _ _ h9k,h10a,fl,qm,(fun w hw=>by omega),A4 P9 s10,kb9.trans (s10.but g)⟩ (fun j σ H11 _ zz=>by obtain ⟨_,_,_,_,_,_,_,h,_⟩:=zz;exact i4.of h) ?_ ?_⟩
       · rintro j y σ H11 t hj ⟨fs',v7',v8',rfl,h11f,h11o,h11k,h11a,fl',qm',st',P11,kb11⟩ ht;obtain ⟨zz,hzz,rfl⟩:=G4 hj
         have hjl:j < ln:=by rw[<-lo];exact (ct3.mp hzz).1
         have ezz:zz=os.getD j 0:=by
           rw[E3 (by omega)];exact ((ct3.mp hzz).2).symm
         subst ezz;have hpl:(j+1)%ln < ln:=Nat.mod_lt _ (by omega);have s12:c9 H11 (c8 H11 t (.tup [.int (j:Int),.int (os.getD j 0)])):=c9.upd_new ht;refine ⟨t,_,rfl,Q3.of c7,rfl,_,_,rfl,_,_,rfl,rfl,?_⟩;generalize (c8 H11 t (.tup [.int (j:Int),.int (os.getD j 0)]))=H12 at s12 ⊢
         have hat:atI (os.map V.int) (((j:Int)+1)%(ln:Int))=some (.int (os.getD ((j+1)%ln) 0)):=by
           rw[show ((j:Int)+1)%(ln:Int)=(((j+1)%ln:Nat):Int) by rw[Int.natCast_emod];rfl];exact G0 (by rw[ct8,E3 (by omega),ct2 (by omega)];rfl)
         refine ⟨_,rfl,_,rfl,_,_,rfl,rfl,_,rfl,_,_,rfl,rfl,(show (0:Int) < (ln:Int) by omega),oa,_,_,_,rfl,rfl,i4.of (s12 _ _ h11a),hat,?_⟩
         have hvm:os.getD j 0∈os:=by rw[E3 (by omega)];exact cz0 _
         have hvb:=bd9 _ (cu7 us hvm);refine ⟨_,rfl,_,rfl,fo,_,_,(os.getD j 0).toNat,rfl,rfl,s12 _ _ h11o,?_,?_⟩
         · unfold Z0;rw[ct1,fl',if_pos hvb.1,if_pos hvb.2]
         rw[<-List.map_set];refine ⟨_,_,_,rfl,by rw[g8 nof.symm];exact s12 _ _ h11f,c7,by rw[g8 nko];exact s12 _ _ h11k,by rw[g8 noao];exact s12 _ _ h11a,by rw[de2];exact fl',?_,?_,bf2 (A4 P11 s12) nog,(kb11.trans (s12.but g)).upd_r hfo0⟩
         · rw[<-qm']
           refine cy7 fun u hu=> ?_
           have hub:=bd9 u (cx6 os hu)
           refine ag0 hub.1 hvb.1 fun z=> ?_
           exact (cy3.mp nd9).2.2 u hu (os.getD j 0) hvm z
         · intro w hw
           by_cases hwj:w=j
           · subst hwj;exact am9 (by omega)
           · have hwj':w < j:=by omega
             have hw0:=bd9 (os.getD w 0) (cu7 us (by rw[E3 (by omega)];exact cz0 _));rw[ag0 hw0.1 hvb.1 (V3 (cy3.mp nd9).2.1 (by omega) (by omega) hwj)];exact st' w hwj'
       · rintro σ H11 ⟨fs',v7',v8',rfl,h11f,h11o,h11k,h11a,fl',qm',st',P11,kb11⟩;rw[ct1,lo] at st';have tk:(us++os).take us.length=us:=List.take_left;have tk2:(us++os).take (us.length+ln)=us++os:=cz2 (by rw[ct6];omega)
         obtain ⟨qs',a1,a2⟩:=ba6 (ts:=us++os) (fs:=fs') (qs:=qs) (k:=us.length) (L:=ln) (by omega) (by rw[ct6];omega) (by rw[tk];exact qm') (by rw[tk];exact qp) (fun u hu=>by
           rw[gd,gd]
           exact st' u hu)
         rw[tk2] at a1 a2;exact ⟨us++os,fs',qs',ms',_,_,_,_,rfl,h11f,h11o,h11k,pm9,by rw[ct6,tsum];omega,fl',a1,a2,P11.mono (by rw[ct6];omega),kb11⟩
   · rintro σ H8 ⟨us,fs,qs,ms,v5,v6,v7,v8,rfl,h8f,h8o,h8k,pm,ul,fl,qp,qm,P8,kb8⟩;rw[ct1,cw2,es] at ul;have ums:=pm.length_eq;rw[ct6,D1] at ums;have:ms=[]:=di1.mp (by omega);subst this;rw[cw0] at pm;obtain ⟨hU,hUl⟩:=J2 pm;have pf:=(ap3 hU (by omega) qm).trans (qp.trans pm);obtain ⟨hF,hFl⟩:=J2 pf;exact ⟨_,rfl,q fo fs H8 hfo0 hF (by omega) h8o (P8.mono (by omega)) kb8⟩
end
end My
namespace My
open PySem L2 Mth
section
variable {P:Program} {w:World} {K:PySem.W.Frag} {mg:Str->Option Value} {base:Heap} {zyy zyz zxx zzy zzx zyx zzz zx zxz zxy zwz:Addr}
theorem am2 {n:Nat}{q:List Int}(h:(n:Int)∉q)(k:Nat):(K8 n q k).erase (n:Int)=q:=by
 unfold K8;rw[cu6,List.erase_append_right _ (fun z=>h (cz6 z)),List.singleton_append,List.erase_cons_head,cx4]
theorem bf3 {n:Nat}{q:List Int}(h:(n:Int)∉q){k:Nat}(hk:k<=q.length):(K8 n q k).idxOf (n:Int)=k:=by
 unfold K8;rw[cu6,List.idxOf_append,if_neg (fun z=>h (cz6 z)),List.singleton_append,List.idxOf_cons_self,cu2];omega
theorem al2 {n:Nat}{q:List Int}(h:q∈Q8 n):(n:Int)∉q:=fun z=>by
 obtain ⟨t,l⟩:=(M9 n q).mp h;have:=t.hi _ z;omega
theorem au5:∀n,(Q8 n).Nodup
 |0=>by decide
 |n+1=>by
  show ((Q8 n).flatMap (aa5 n)).Nodup;rw[cv8,List.pairwise_flatMap];refine ⟨fun q hq=> ?_,?_⟩
  · unfold aa5;rw[da8];refine List.Pairwise.imp_of_mem (fun {a b} ha hb hab e=> ?_) (df1 (n:=q.length+1));rw[cy9] at ha hb;have:=congrArg (fun (l:List Int)=>l.idxOf (n:Int)) e;rw[bf3 (al2 hq) (by omega),bf3 (al2 hq) (by omega)] at this;omega
  · refine List.Pairwise.imp_of_mem (fun {a b} ha hb hab x hx y hy e=> ?_) (cv8.mp (au5 n));obtain ⟨k,_,rfl⟩:=cu3.mp hx;obtain ⟨j,_,rfl⟩:=cu3.mp hy;have:=congrArg (fun (l:List Int)=>l.erase (n:Int)) e;rw[am2 (al2 ha),am2 (al2 hb)] at this;exact hab this
theorem cn8 {a b:List (List Int)}(ha:a.Nodup)(hb:b.Nodup)(h:∀x∈a,x∈b):a.length<=b.length:=by
 have pm:a.Perm (b.filter fun x=>decide (x∈a)):=(dd7 ha (hb.sublist de1)).mpr fun x=>by
   rw[da6,decide_eq_true_iff];exact ⟨fun z=>⟨h x z,z⟩,fun z=>z.2⟩
 rw[pm.length_eq];exact df6 _ _
theorem bz6 {p:List Int}(tp:A0 p)(lp:p.length<=6):J4 p<=720:=by
 have up:=an1 tp
 obtain ⟨ks,eks⟩:∃ks,ks=(cw9 (p.length+1)).filter fun k=>decide (k∈(o6 p p.length).map dh0):=⟨_,rfl⟩
 have nk:ks.Nodup:=by rw[eks];exact List.nodup_range.sublist de1
 have h1:∀k∈ks,∃r∈o6 p p.length,r.length=k:=fun k hk=>by
   rw[eks,da6,decide_eq_true_iff] at hk;obtain ⟨r,hr,e⟩:=cu3.mp hk.2;exact ⟨r,hr,e⟩
 have h2:∀r∈o6 p p.length,r.length∈ks:=fun r hr=>by
   rw[eks,da6,decide_eq_true_iff,cy9];have:=rsb tp up r hr;exact ⟨by omega,cu3.mpr ⟨r,hr,rfl⟩⟩
 have len:(M0 p (ks.map (J3 (o6 p p.length)))).length=J4 p:=by
   have hg:∀l,Z7 p (l+1)=C8 (l+1) (C9 (o6 p p.length) (l+1)):=fun l=>by
     unfold Z7 ay4;rw[ag5 tp up (l+1),de8 _ (by omega)]
   rw[Z8 p (J3 (o6 p p.length)) (fun l=>C8 l (C9 (o6 p p.length) l)) _ _ (ct4 _) fun k _=>ah8 _ k];unfold J4;exact ag6 tp up nk h1 h2 hg
 rw[<-len];refine cw7 (cn8 (b:=Q8 p.length) (Y5 fun t ht=>as2 tp (ai3 tp nk h1 h2 ht) nk h1 h2) (au5 _) fun t ht=> ?_) (aw6 lp);obtain ⟨a,b,_⟩:=ai3 tp nk h1 h2 ht;exact (M9 _ _).mpr ⟨a,b⟩
theorem U7.due {p:List Int}{ts us:List (List Int)}(h:U7 p ts)(tp:A0 p)(pm:us.Perm (Q8 p.length))(st:us.Pairwise fun r r'=>HT.aj1 r' r=false):us.filter (fun r=>decide (J8 r p=J8 p r))=ts:=by
 refine aq6 ((dd7 ((pm.nodup_iff.mpr (au5 _)).sublist de1) (h.nd tp)).mpr fun r=> ?_) (List.Pairwise.sublist de1 st) h.srt;rw[da6,pm.mem_iff,M9,decide_eq_true_iff,h.mem tp];exact ⟨fun ⟨⟨a,b⟩,c⟩=>⟨a,b,c⟩,fun ⟨a,b,c⟩=>⟨⟨a,b⟩,c⟩⟩
def Kn (H H':Hp):Prop:=∀x u,H x=some u->(∀kvs,u≠.dK kvs)->H' x=some u
theorem Kn.refl (H:Hp):Kn H H:=fun _ _ e _=>e
theorem Kn.trans {H H' H'':Hp}(a:Kn H H')(b:Kn H' H''):Kn H H'':=fun x u e n=>b x u (a x u e n) n
theorem Kn.of {H H':Hp}(s:c9 H H'):Kn H H':=fun x u e _=>s x u e
theorem Kn.kp {H H':Hp}(s:Kp H H'):Kn H H':=s.nd
theorem Kn.lst {H H':Hp}(k:Kn H H'){a:Addr}{xs:List V}(e:H a=some (.lst xs)):H' a=some (.lst xs):=k a _ e (fun kvs z=>by cases z)
theorem Kn.kb {H H' H'':Hp}{g:Addr}(k:Kn H H')(hg:H g=none)(kb:i7 g H' H''):Kn H H'':=fun x u e n=>kb x u (k x u e n) (h7 e hg)
theorem Kn.seq {H H':Hp}(k:Kn H H'){a:Addr}{xs:List V}(h:i4 K H a xs):i4 K H' a xs:=by
 rcases h with (h|⟨o,h⟩)|h
 · exact .inl (.inl (k _ _ h (fun kvs z=>by cases z)))
 · exact .inl (.inr ⟨o,k _ _ h (fun kvs z=>by cases z)⟩)
 · exact .inr h
theorem Kn.pool {H H':Hp}{g:Addr}{c:Nat}(k:Kn H H')(h:x9 H g c):x9 H' g c:=by
 obtain ⟨x,y,z,e1,e2⟩:=h;exact ⟨x,y,z,k.lst e1,e2⟩
theorem Kn.turn {H H':Hp}{a:Addr}{p:List Int}(k:Kn H H')(h:E8 H a p):E8 H' a p:=⟨k.lst h.1,h.2⟩
theorem Kn.rows {H H':Hp}(k:Kn H H'){as:List Addr}{rs:List (List Int)}(h:j7 H as rs):j7 H' as rs:=⟨h.1,fun j a r e1 e2=>k.lst (h.2 j a r e1 e2)⟩
end
end My
namespace My
open PySem L2 Mth
section
variable {P:Program} {w:World} {K:PySem.W.Frag} {mg:Str->Option Value} {base:Heap} {zyy zyz zxx zzy zzx zyx zzz zx zxz zxy zwz:Addr}
theorem U5 {H H':Hp}{a:Addr}{p:List Int}(h:E8 H a p)(s:c9 H H'):E8 H' a p:=⟨s _ _ h.1,h.2⟩
theorem bu9 {as:List Addr}{j:Nat}{x:V}(h:(as.map V.ref)[j]? =some x):∃a,as[j]? =some a/\x=V.ref a:=by
 rw[ct8] at h;obtain ⟨a,ha,e⟩:=cy2.mp h;exact ⟨a,ha,e.symm⟩
theorem bv0 {H:Hp}{as:List Addr}{rs:List (List Int)}{j:Nat}{a:Addr}(rows:j7 H as rs)(h:as[j]? =some a):∃r,rs[j]? =some r/\H a=some (.lst (r.map V.int)):=by
 have jl:=(ct3.mp h).1;have hr:rs[j]? =some (rs[j]'(by rw[<-rows.1];exact jl)):=ct2 _;exact ⟨_,hr,rows.2 j a _ h hr⟩
def ay5 (K:PySem.W.Frag):Sp:=fun vs H Q _=>∃(a:Addr) (ns:List Int),vs=[.ref a]/\i4 K H a (ns.map V.int)/\ns.length<=63/\∀H',Q (.bl true) H'
theorem R4:o5 ["script","k","pool","p","due","handed","again","found","great"] ["script"] (j5 ak2):=by rfl'
theorem bf4:(["row","p"]:List Str).Nodup:=by decide+kernel
theorem bm6:(["row"]:List Str).Nodup:=by decide+kernel
theorem cl0 {f:Addr}{fd:FuncData}(F:D3 K "law" "law" ak2 f fd)(B:Bl mg)(zox:r6 P w K mg base "_law_pool" 1 ["script","k"] (bc8 K))(zqy:r6 P w K mg base "_law_turn" 2 ["pool","many"] bd0)(zwy:r6 P w K mg base "_law_draw" 1 ["pool","many"] ah2)(znx:r6 P w K mg base "_law_all" 2 ["many"] bl9)(zvy:r6 P w K mg base "_law_behind" 1 ["p","q"] ad7)(zsy:r6 P w K mg base "_law_told" 44 ["p"] al1)(zy:r6 P w K mg base "how_many_past" 4 ["p"] ak6)(zvz:r6 P w K mg base "is_turn" 2 ["thing"] (as8 T1 (ab5 K)))(zpy:r6 P w K mg base "_law_spoilt" 1 ["found"] ao2)(zux:r6 P w K mg base "_law_great_right" 45 ["p"] ao3)(zpx:r6 P w K mg base "_law_rounds" 2 ["pool"] ai5):m7 P w K mg base E7 46 f fd ["script"] (ay5 K):=by
 refine F.ok R4 (fun vs H Q E h=> ?_) (fun cdv A outer s H vs Q E hr h=> ?_)
 · obtain ⟨a,ns,rfl,ha,hl,k⟩:=h;rfl
 · obtain ⟨a,ns,rfl,ha,hl,k⟩:=h;have zj:m8 1 _:=hr.mono (by decide);have zm:m8 2 _:=hr.mono (by decide);have zvx:m8 1 _:=hr.mono (by decide);have hr_law_all:m8 2 _:=hr.mono (by decide);have zt:m8 1 _:=hr.mono (by decide);have zoy:m8 44 _:=hr.mono (by decide);have zv:m8 4 _:=hr.mono (by decide);have zr:m8 2 _:=hr.mono (by decide);have zk:m8 1 _:=hr.mono (by decide);have zrx:m8 45 _:=hr.mono (by decide);have zkz:m8 2 _:=hr.mono (by decide);have hu:=O3 hr;have hu2:_+1+1 < cLine:=cy0 (db8 (by decide:2<=64) _) hr.units;refine ⟨_,@e8 _ _ _ _ _ (@x8 _ _ _ _ _ _ _ _ PassesOwn.never rfl (@M1 _ _ _ _ _ _ (by rfl) B.range (@c5 _ _ _ _ _ (@cc4 _ _ _ _ _ _ rfl B.max (@c5 _ _ _ _ _ (@i6 _ _ _ _) (@c5 _ _ _ _ _ (@cc3 _ _ _ _ _ _ rfl B.min (@c5 _ _ _ _ _ (@i6 _ _ _ _) (@c5 _ _ _ _ _ (@y7 _ _ _ _ _ B.len (@c5 _ _ _ _ _ (pv 0) (@c6 _) (by rfl)) (by rfl) (by rfl)) (@c6 _) (by rfl)) (by rfl)) (by rfl) (by rfl) (by rfl)) (@c6 _) (by rfl)) (by rfl)) (by rfl) (by rfl) (by rfl)) (@c6 _) (by rfl)) (by rfl)) (@i9 _ _ (1) _ R4.nd rfl (Or.inl rfl) (by trivial)) (@e8 _ _ _ _ _ (@i8 _ _ (2) _ _ _ _ R4.nd rfl (Or.inl rfl) (@j6 _ _ _ _ _ _ _ _ _ _ zox zj (@c5 _ _ _ _ _ (pv 0) (@c5 _ _ _ _ _ (pv 1) (@c6 _) (by rfl)) (by rfl)) (by rfl) (by decide) (by rfl) (by rfl)) (by rfl) (by trivial)) (@e8 _ _ _ _ _ (@i8 _ _ (3) _ _ _ _ R4.nd rfl (Or.inr rfl) (@j6 _ _ _ _ _ _ _ _ _ _ zqy zm (@c5 _ _ _ _ _ (pv 2) (@c5 _ _ _ _ _ (@G9 _ _ _ _ _ _ _ B7 (@x3 _ _ _ _ (@c5 _ _ _ _ _ (@j6 _ _ _ _ _ _ _ _ _ _ zwy zvx (@c5 _ _ _ _ _ (pv 2) (@c5 _ _ _ _ _ (@i6 _ _ _ _) (@c6 _) (by rfl)) (by rfl)) (by rfl) (by decide) (by rfl) (by rfl)) (@c5 _ _ _ _ _ (@i6 _ _ _ _) (@c6 _) (by rfl)) (by rfl))) (@bh8 _ _ _ _ _ B.int (@c5 _ _ _ _ _ (@aj0 _ _ _ _ _ _ _ _ ai8 (@j6 _ _ _ _ _ _ _ _ _ _ zwy zvx (@c5 _ _ _ _ _ (pv 2) (@c5 _ _ _ _ _ (@i6 _ _ _ _) (@c6 _) (by rfl)) (by rfl)) (by rfl) (by decide) (by rfl) (by rfl)) (@i6 _ _ _ _) (o7 _)) (@c6 _) (by rfl)) (by rfl) (by rfl)) (fun _ _=>rfl)) (@c6 _) (by rfl)) (by rfl)) (by rfl) (by decide) (by rfl) (by rfl)) (by rfl) (by trivial)) (@e8 _ _ _ _ _ (@as5 _ (4) _ _ _ _ _ _ _ _ _ _ _ _ _ (["row","p"]) (1) ([3]) R4.nd rfl (Or.inl rfl) rfl .of (@C5 _ _ _ _ (@j6 _ _ _ _ _ _ _ _ _ _ znx hr_law_all (@c5 _ _ _ _ _ (@y7 _ _ _ _ _ B.len (@c5 _ _ _ _ _ (pv 3) (@c6 _) (by rfl)) (by rfl) (by rfl)) (@c6 _) (by rfl)) (by rfl) (by decide) (by rfl) (by rfl))) (fun _ _ _ _ _=>@i9 _ _ (0) _ bf4 rfl (Or.inl rfl) (by trivial)) (fun _ _ _ _ _=>@ba2 _ _ _ (@o3 _ _ _ _ _ _ _ _ (ce2 K 0 hu) (@j6 _ _ _ _ _ _ _ _ _ _ zvy zt (@c5 _ _ _ _ _ (pv 0) (@c5 _ _ _ _ _ (pv 1) (@c6 _) (by rfl)) (by rfl)) (by rfl) (by decide) (by rfl) (by rfl)) (@j6 _ _ _ _ _ _ _ _ _ _ zvy zt (@c5 _ _ _ _ _ (pv 1) (@c5 _ _ _ _ _ (pv 0) (@c6 _) (by rfl)) (by rfl)) (by rfl) (by decide) (by rfl) (by rfl)) (o7 _))) (fun _ _ _ _ _=>(pv 0)) (by rfl) (by intro _;rfl) (by trivial)) (@e8 _ _ _ _ _ (@i8 _ _ (5) _ _ _ _ R4.nd rfl (Or.inl rfl) (@M6 _ _ _ _ _ B.list (@c5 _ _ _ _ _ (pv 3) (@c6 _) (by rfl)) (by rfl) (by rfl)) (by rfl) (by trivial)) (@e8 _ _ _ _ _ (@x8 _ _ _ _ _ _ _ _ PassesOwn.never rfl (@M1 _ _ _ _ _ _ (by rfl) B.range (@c5 _ _ _ _ _ (@i6 _ _ _ _) (@c6 _) (by rfl)) (by rfl)) (@i9 _ _ (6) _ R4.nd rfl (Or.inl rfl) (by trivial)) (@e8 _ _ _ _ _ (@i8 _ _ (7) _ _ _ _ R4.nd rfl (Or.inl rfl) (@j6 _ _ _ _ _ _ _ _ _ _ zsy zoy (@c5 _ _ _ _ _ (pv 5) (@c6 _) (by rfl)) (by rfl) (by decide) (by rfl) (by rfl)) (by rfl) (by trivial)) (@e8 _ _ _ _ _ (@C1 _ _ _ _ _ _ _ _ (PW.pt (@K4 _ _ _ _ _ _ _ (@L5 _ _ _ _ (@J5 _ _ _ (@ab0 _ _ _ _ _ _ B.isi (@c5 _ _ _ _ _ (pv 7) (@c5 _ _ _ _ _ (@Z2 _ _ B.list (by rfl)) (@c6 _) (by rfl)) (by rfl)) (by rfl) (by rfl) (by rfl)) (by intro _;rfl))) (@K4 _ _ _ _ _ _ _ (@o3 _ _ _ _ _ _ _ _ (aa9 1 hu2) (pv 7) (pv 4) (o7 _)) (@K4 _ _ _ _ _ _ _ (@o3 _ _ _ _ _ _ _ _ (aa9 0 hu) (pv 5) (pv 3) (o7 _)) (@Q2 _ _ _ _ (@o3 _ _ _ _ _ _ _ _ ax9 (@y7 _ _ _ _ _ B.len (@c5 _ _ _ _ _ (pv 4) (@c6 _) (by rfl)) (by rfl) (by rfl)) (@j6 _ _ _ _ _ _ _ _ _ _ zy zv (@c5 _ _ _ _ _ (pv 5) (@c6 _) (by rfl)) (by rfl) (by decide) (by rfl) (by rfl)) (o7 _))))))) (@h8 _ _ _ (@k7 _ _ _ _ (@D8 _ _ _ _))) (@x6 _)) (@e8 _ _ _ _ _ (@C1 _ _ _ _ _ _ _ _ (PW.pt (@K4 _ _ _ _ _ _ _ (@o3 _ _ _ _ _ _ _ _ (aa9 1 hu2) (@aj8 _ _ _ _ _ _ _ _ _ _ _ (["row"]) (1) ([]) rfl .of (@C5 _ _ _ _ (pv 7)) (fun _ _ _ _ _=>@i9 _ _ (0) _ bm6 rfl (Or.inl rfl) (by trivial)) (fun _ _ _ _ _=>@ba2 _ _ _ (@o3 _ _ _ _ _ _ _ _ bf0 (@j6 _ _ _ _ _ _ _ _ _ _ zvz zr (@c5 _ _ _ _ _ (pv 0) (@c6 _) (by rfl)) (by rfl) (by decide) (by rfl) (by rfl)) (@D8 _ _ _ _) (o7 _))) (fun _ _ _ _ _=>(pv 0)) (by intro _;rfl)) (@x3 _ _ _ _ (@c6 _)) (o7 _)) (@Q2 _ _ _ _ (@L5 _ _ _ _ (@J5 _ _ _ (@j6 _ _ _ _ _ _ _ _ _ _ zpy zk (@c5 _ _ _ _ _ (pv 7) (@c6 _) (by rfl)) (by rfl) (by decide) (by rfl) (by rfl)) (by intro _;rfl)))))) (@h8 _ _ _ (@k7 _ _ _ _ (@D8 _ _ _ _))) (@x6 _)) (@h8 _ _ _ (@C4 _ _ _ _ (@D5 _ _ _ _ _ _ _ (pv 7) (@c5 _ _ _ _ _ (@x3 _ _ _ _ (@c6 _)) (@c6 _) (by rfl)) (by rfl) (by rfl) (by rfl) (by rfl) (by rfl)) (by rfl)))))) (by intro _;rfl)) (@e8 _ _ _ _ _ (@i8 _ _ (8) _ _ _ _ R4.nd rfl (Or.inl rfl) (@j6 _ _ _ _ _ _ _ _ _ _ zqy zm (@c5 _ _ _ _ _ (pv 2) (@c5 _ _ _ _ _ (@G9 _ _ _ _ _ _ _ B7 (@x3 _ _ _ _ (@c5 _ _ _ _ _ (@j6 _ _ _ _ _ _ _ _ _ _ zwy zvx (@c5 _ _ _ _ _ (pv 2) (@c5 _ _ _ _ _ (@i6 _ _ _ _) (@c6 _) (by rfl)) (by rfl)) (by rfl) (by decide) (by rfl) (by rfl)) (@c5 _ _ _ _ _ (@j6 _ _ _ _ _ _ _ _ _ _ zwy zvx (@c5 _ _ _ _ _ (pv 2) (@c5 _ _ _ _ _ (@i6 _ _ _ _) (@c6 _) (by rfl)) (by rfl)) (by rfl) (by decide) (by rfl) (by rfl)) (@c6 _) (by rfl)) (by rfl))) (@j6 _ _ _ _ _ _ _ _ _ _ zwy zvx (@c5 _ _ _ _ _ (pv 2) (@c5 _ _ _ _ _ (@i6 _ _ _ _) (@c6 _) (by rfl)) (by rfl)) (by rfl) (by decide) (by rfl) (by rfl)) (fun _ _=>rfl)) (@c6 _) (by rfl)) (by rfl)) (by rfl) (by decide) (by rfl) (by rfl)) (by rfl) (by trivial)) (@h8 _ _ _ (@C1 _ _ _ _ _ _ _ _ (PW.pt (@K4 _ _ _ _ _ _ _ (@L5 _ _ _ _ (@J5 _ _ _ (@j6 _ _ _ _ _ _ _ _ _ _ zux zrx (@c5 _ _ _ _ _ (pv 8) (@c6 _) (by rfl)) (by rfl) (by decide) (by rfl) (by rfl)) (by intro _;rfl))) (@Q2 _ _ _ _ (@L5 _ _ _ _ (@J5 _ _ _ (@j6 _ _ _ _ _ _ _ _ _ _ zux zrx (@c5 _ _ _ _ _ (@j6 _ _ _ _ _ _ _ _ _ _ zpx zkz (@c5 _ _ _ _ _ (pv 2) (@c6 _) (by rfl)) (by rfl) (by decide) (by rfl) (by rfl)) (@c6 _) (by rfl)) (by rfl) (by decide) (by rfl) (by rfl)) (by intro _;rfl)))))) (@h8 _ _ _ (@k7 _ _ _ _ (@D8 _ _ _ _))) (@x6 _))))))))) (by intro _;rfl)) (@h8 _ _ _ (@k7 _ _ _ _ (@D8 _ _ _ _))),?_⟩
   refine ⟨_,rfl,a,_,rfl,.inl ha,6,_,rfl,1,_,rfl,_,rfl,?_⟩;obtain ⟨mx,hmx,hm1,hm2⟩:=cd1 (n:=6) (c:=((ns.map V.int).length:Int)) (by decide) (by omega);rw[hmx]
   refine ⟨by omega,by omega,M2 (lo:=0) (n:=mx.toNat) (fun i σ H2=>∃v1 v2 v3 v4 v5 v6 v7 v8:Option V,σ=[some (.ref a),v1,v2,v3,v4,v5,v6,v7,v8]/\i4 K H2 a (ns.map V.int))
     ⟨none,none,none,none,none,none,none,none,rfl,ha⟩ ?_ (fun σ H2 _=>k H2)⟩
   rintro i σ H2 hi ⟨v1,v2,v3,v4,v5,v6,v7,v8,rfl,ha2⟩;refine ⟨_,rfl,_,rfl,a,ns,_,rfl,ha2,by omega,by omega,fun g H3 hg s23 P3=> ?_⟩;refine ⟨_,rfl,_,rfl,g,_,6,rfl,P3,by decide,by decide,by decide,fun r1 H4 a0 a1 P4 kb4=>⟨(show 2<=sizeLine by decide),fun ml n5=> ?_⟩⟩;have s5:c9 H4 (c8 H4 ml (.lst [V.int r1,V.int 6])):=c9.upd_new n5;have g5:(c8 H4 ml (.lst [V.int r1,V.int 6])) ml=some (.lst (([r1,6]:List Int).map V.int)):=c7;have ng5:ml≠g:=D4 P4 n5;have P5:=A4 P4 s5;generalize (c8 H4 ml (.lst [V.int r1,V.int 6]))=H5 at s5 g5 P5 ⊢;refine ⟨_,rfl,g,_,4,rfl,P5,by decide,by decide,by decide,fun r2 H6 b0 b1 P6 kb6=>⟨rfl,_,rfl,?_⟩⟩;have s26:c9 H2 H6:=((s23.kb kb4 hg).trans s5).kb kb6 hg
   obtain ⟨n,en,hat⟩:∃n:Nat,n<=6/\atI (([r1,6]:List Int).map V.int) (if decide (V.int r2=V.int 1)=true then 1 else 0)=some (.int (n:Int)):=by
     obtain ⟨m,rfl⟩:=cy8 a0
     split
     · exact ⟨6,by omega,G0 (j:=1) rfl⟩
     · exact ⟨m,by omega,G0 (j:=0) rfl⟩
   refine ⟨ml,_,_,_,rfl,rfl,i4.of (kb6 _ _ g5 ng5),hat,?_⟩;refine ⟨g,_,(n:Int),rfl,P6,by omega,by omega,by decide,fun pa p H7 npa tp lp h7p P7 kb7=> ?_⟩;have npg:=D4 P6 npa;have s27:c9 H2 H7:=s26.kb kb7 hg
   have lp':p.length=n:=by omega
   have tap:E8 H7 pa p:=⟨h7p,tp,by omega⟩;refine ⟨_,rfl,pa,_,rfl,.inl (i4.of h7p),n,by rw[ct1,lp'];rfl,by omega,fun al as us H11 nal s11 h11 rows pm st=> ?_⟩
   have la:as.length<=720:=by rw[rows.1,pm.length_eq];exact aw6 en
   refine ⟨al,rfl,⟨_,i4.of h11⟩,Z1 (K:=K) (a:=al) (xs:=as.map V.ref) (fun m ys σ Hx=>∃(v0:Option V) (es:List Addr),σ=[v0,some (.ref pa)]/\c9 H11 Hx/\ys=es.map V.ref/\es.length<=m/\j7 Hx es ((us.take m).filter fun r=>decide (J8 r p=J8 p r))) ⟨none,[],rfl,c9.refl _,rfl,ct4 _,by rw[db7];exact ⟨rfl,fun j b r h=>by cases h⟩⟩ (fun m ys σ Hx _ zz=>by obtain ⟨_,_,_,s,_⟩:=zz;exact i4.of (s _ _ h11)) ?_ ?_⟩
   · rintro m x ys σ Hx hm ⟨v0,es,rfl,sx,rfl,ly,rowsE⟩;obtain ⟨ra,hra,rfl⟩:=bu9 hm;have ml':=(ct3.mp hra).1;obtain ⟨r,er,hr11⟩:=bv0 rows hra;obtain ⟨tr,lr⟩:=(M9 n r).mp (pm.mem_iff.mp (cu0 er));have trx:E8 Hx ra r:=⟨sx _ _ hr11,tr,by omega⟩;have tapx:=U5 tap (s11.trans sx);refine ⟨_,rfl,_,rfl,ra,pa,r,p,rfl,trx,tapx,by omega,fun x1 H12 hx1 s12 h12=> ?_⟩;refine ⟨_,rfl,_,rfl,pa,ra,p,r,rfl,U5 tapx s12,U5 trx s12,by omega,fun x2 H13 hx2 s13 h13=> ?_⟩;have s1213:=s12.trans s13;have ek:us.take (m+1)=us.take m++[r]:=j9 er;refine ⟨x1,x2,_,_,_,rfl,rfl,i4.of (s13 _ _ h12),i4.of h13,S3 _ _ _ _ _,_,rfl,?_⟩
     refine S1 (fun c2=> ?_) fun c2=> ?_
     · refine ⟨_,rfl,w6 (by rw[ct1];omega),_,es++[ra],rfl,sx.trans s1213,by rw[ct9];rfl,by rw[ct6,dd3];omega,?_⟩;rw[ek,de5,de6 (p:=fun r=>decide (J8 r p=J8 p r)) (show decide (J8 r p=J8 p r)=true from c2),dg0];exact K3 (l8 rowsE fun b _ o e=>s1213 b o e) (s1213 _ _ trx.1)
     · refine ⟨_,es,rfl,sx.trans s1213,rfl,by omega,?_⟩;rw[ek,de5,de7 (p:=fun r=>decide (J8 r p=J8 p r)) (show ¬decide (J8 r p=J8 p r)=true from c2),dg0,cw0]
       exact l8 rowsE fun b _ o e=>s1213 b o e
   rintro ys σ H12 ⟨v0,es,rfl,s12,rfl,ly,rowsE⟩ D nD;rw[ct1] at ly;rw[ct1,rows.1,cw2] at rowsE;have s13:c9 H12 (c8 H12 D (.lst (es.map V.ref))):=c9.upd_new nD;have h13:(c8 H12 D (.lst (es.map V.ref))) D=some (.lst (es.map V.ref)):=c7;generalize (c8 H12 D (.lst (es.map V.ref)))=H13 at s13 h13 ⊢
   have rowsE:=l8 rowsE fun b _ o e=>s13 b o e
   have s713:=s11.trans (s12.trans s13);have tap13:=U5 tap s713;refine ⟨_,rfl,pa,_,rfl,.inl (i4.of tap13.1),fun l1 n14=> ?_⟩;have s14:c9 H13 (c8 H13 l1 (.lst (p.map V.int))):=c9.upd_new n14;have g14:(c8 H13 l1 (.lst (p.map V.int))) l1=some (.lst (p.map V.int)):=c7;generalize (c8 H13 l1 (.lst (p.map V.int)))=H14 at s14 g14 ⊢;have tap14:=U5 tap13 s14;have h14D:=s14 _ _ h13
   have rowsE:=l8 rowsE fun b _ o e=>s14 b o e
   have P14:=A4 (A4 P7 s713) s14;have kn14:Kn H2 H14:=Kn.of ((s27.trans s713).trans s14);have few:=bz6 tp (by omega);have hal:E8 H14 l1 p:=⟨g14,tp,by omega⟩
   refine ⟨2,rfl,by decide,by decide,M2 (lo:=0) (n:=(2:Int).toNat) (fun j σ Hx=>∃v6 v7 v8:Option V,σ=[some (.ref a),some (.int ((0:Int)+(i:Int))),some (.ref g),some (.ref pa),some (.ref D),some (.ref l1),v6,v7,v8]/\Kn H14 Hx)
     ⟨_,_,_,rfl,Kn.refl _⟩ ?_ ?_⟩
   · rintro j σ Hx hj ⟨v6,v7,v8,rfl,kx⟩;refine ⟨_,rfl,l1,p,rfl,kx.turn hal,.inl ⟨by omega,fun o bs ts H15 ho h15o rowsB ap nd fr no kp=> ?_⟩⟩;have k15:=kx.trans (Kn.kp kp);have due:=ap.due tp (us:=us) (by rw[lp'];exact pm) st;rw[due] at rowsE
     have lbs:bs.length<=720:=by rw[rowsB.1,ap.len];exact few
     refine ⟨_,rfl,_,"list",_,true,rfl,.lst h15o,S4 K "list",true,rfl,C7 ?_⟩;refine ⟨_,rfl,_,rfl,o,D,_,_,_,rfl,rfl,i4.of h15o,i4.of (k15.lst h14D),ag1 rowsB (k15.rows rowsE),_,rfl,?_⟩;rw[decide_eq_true rfl];refine C7 ?_;refine ⟨_,rfl,_,rfl,l1,pa,_,_,_,rfl,rfl,i4.of (k15.lst g14),i4.of (k15.lst tap14.1),S3 _ _ _ _ _,_,rfl,?_⟩;rw[decide_eq_true rfl];refine C7 ?_;refine ⟨_,rfl,D,_,rfl,.inl (i4.of (k15.lst h14D)),_,rfl,l1,p,rfl,k15.turn hal,fun H16 s16=> ?_⟩;refine ⟨rfl,_,rfl,ay2 (by rw[ct1,rowsE.1,ap.len];rfl) ?_⟩;have k16:=k15.trans (Kn.of s16);have h16o:=s16 _ _ h15o
     have rowsB:=l8 rowsB fun b _ u e=>s16 b u e
     have rows0:∀H',j7 H' [] []:=fun H'=>⟨rfl,fun j b r h=>by cases h⟩
     have trn:∀r∈ts,A0 r/\r.length<=40:=fun r hr=>by
       obtain ⟨u1,u2,_⟩:=(ap.mem tp).mp hr;exact ⟨u1,by omega⟩
     refine ⟨_,rfl,o,rfl,⟨_,i4.of h16o⟩,Z1 (K:=K) (a:=o) (xs:=bs.map V.ref) (fun m ys σ Hy=>∃v0:Option V,σ=[v0]/\ys=[]/\c9 H16 Hy) ⟨none,rfl,rfl,c9.refl _⟩ (fun m ys σ Hy _ zz=>by obtain ⟨_,_,_,s⟩:=zz;exact i4.of (s _ _ h16o)) ?_ ?_⟩
     · rintro m x ys σ Hy hm ⟨v0,rfl,rfl,sy⟩;obtain ⟨ra,hra,rfl⟩:=bu9 hm;obtain ⟨r,er,hr16⟩:=bv0 rowsB hra;obtain ⟨tr,lr⟩:=trn r (cu0 er);refine ⟨_,rfl,.inl ⟨ra,r,rfl,sy _ _ hr16,fun c Hz sz hc=> ?_⟩⟩;have ec:c=true:=hc.mpr ⟨by omega,tr⟩;subst ec;exact ⟨_,_,rfl,rfl,_,rfl,C7 ⟨_,rfl,rfl,sy.trans sz⟩⟩
     rintro ys σ H17 ⟨v0,rfl,rfl,s17⟩ w1 hw1;have s18:c9 H17 (c8 H17 w1 (.lst [])):=c9.upd_new hw1;have h18w:(c8 H17 w1 (.lst [])) w1=some (.lst (([]:List Addr).map V.ref)):=c7;generalize (c8 H17 w1 (.lst []))=H18 at s18 h18w ⊢;refine ⟨cv9 _,fun w2 hw2=> ?_⟩;have s19:c9 H18 (c8 H18 w2 (.lst [])):=c9.upd_new hw2;have h19w:(c8 H18 w2 (.lst [])) w2=some (.lst (([]:List Addr).map V.ref)):=c7;generalize (c8 H18 w2 (.lst []))=H19 at s19 h19w ⊢;refine ⟨w1,w2,_,_,_,rfl,rfl,i4.of (s19 _ _ h18w),i4.of h19w,ag1 (rows0 H19) (rows0 H19),_,rfl,?_⟩;rw[decide_eq_true rfl];refine C7 ?_;have s1619:=s17.trans (s18.trans s19);have k19:=k16.trans (Kn.of s1619);have h19o:=s1619 _ _ h16o
     have nob:∀x u,H14 x=some u->(∀kvs,u≠.dK kvs)->x∉bs/\x≠o:=fun x u e nk=>by
       have ex:=kx x u e nk;exact ⟨(fun hb=>by rw[fr x hb] at ex;cases ex),(fun z=>by rw[z,ho] at ex;cases ex)⟩
     refine ⟨_,rfl,o,bs,ts,rfl,h19o,l8 rowsB fun b _ u e=>s1619 b u e,nd,no,by omega,fun t ht=>(trn t ht).2,fun H20 k20=>⟨true,rfl,C7 ?_⟩⟩;have h20o:=k20 _ _ h19o no;refine ⟨_,rfl,.inl ⟨rfl,_,i4.of h20o⟩,cv9 _,fun w3 hw3=> ?_⟩;have now3:o≠w3:=h7 h20o hw3;refine ⟨o,_,_,rfl,rfl,by rw[g8 now3];exact h20o,w6 (by rw[ct1];omega),?_⟩;refine ⟨_,_,_,rfl,fun x u e nk=> ?_⟩;obtain ⟨n1,n2⟩:=nob x u e nk;have e20:=k20 x u (k19 x u e nk) n1;rw[g8 n2,g8 (h7 e20 hw3)];exact e20
   · rintro σ Hx ⟨v6,v7,v8,rfl,kx⟩;have Px:=kx.pool P14;refine ⟨_,rfl,_,rfl,g,_,13,rfl,Px,by decide,by decide,by decide,fun r3 H15 c0 c1 P15 kb15=> ?_⟩;refine ⟨_,rfl,g,_,41,rfl,P15,by decide,by decide,by decide,fun r4 H16 d0 d1 P16 kb16=>⟨(show 2<=sizeLine by decide),fun m2 n17=> ?_⟩⟩;have s17:c9 H16 (c8 H16 m2 (.lst [V.int r3,V.int r4])):=c9.upd_new n17;have g17:(c8 H16 m2 (.lst [V.int r3,V.int r4])) m2=some (.lst (([r3,r4]:List Int).map V.int)):=c7;have ng17:m2≠g:=D4 P16 n17;have P17:=A4 P16 s17;generalize (c8 H16 m2 (.lst [V.int r3,V.int r4]))=H17 at s17 g17 P17 ⊢;refine ⟨_,rfl,g,_,2,rfl,P17,by decide,by decide,by decide,fun r5 H18 e0 e1 P18 kb18=> ?_⟩
     obtain ⟨n',en',hat'⟩:∃n':Nat,n'<=40/\atI (([r3,r4]:List Int).map V.int) r5=some (.int (n':Int)):=by
       obtain ⟨m3,rfl⟩:=cy8 c0;obtain ⟨m4,rfl⟩:=cy8 d0
       have:r5=0\/r5=1:=by omega
       rcases this with rfl|rfl
       · exact ⟨m3,by omega,G0 (j:=0) rfl⟩
       · exact ⟨m4,by omega,G0 (j:=1) rfl⟩
     refine ⟨m2,_,_,_,rfl,rfl,i4.of (kb18 _ _ g17 ng17),hat',?_⟩;have kbA:i7 g Hx H18:=((kb15.trans kb16).trans (s17.but g)).trans kb18;refine ⟨g,_,(n':Int),rfl,P18,by omega,by omega,by decide,fun ga p2 H19 nga tp2 lp2 h19 P19 kb19=> ?_⟩;have ngg:=D4 P18 nga;have kn19:=(kn14.trans kx).kb hg (kbA.trans kb19);refine ⟨_,rfl,ga,p2,rfl,⟨h19,tp2,by omega⟩,fun H20 k20=>⟨true,rfl,C7 ?_⟩⟩;have k20:=Kn.kp k20;have kn20:=kn19.trans k20;refine ⟨_,rfl,g,_,rfl,k20.pool P19,by decide,fun gb p3 H21 ngb tp3 lp3 h21 P21 kb21=> ?_⟩;refine ⟨gb,p3,rfl,⟨h21,tp3,lp3⟩,fun H22 k22=>⟨true,rfl,C7 ?_⟩⟩;exact ⟨_,_,_,_,_,_,_,_,rfl,((kn20.kb hg kb21).trans (Kn.kp k22)).seq ha2⟩
end
end My
namespace My
open PySem L2 Mth
theorem Z9 {P:List Value->Prop}(h:∀x0,P [x0]):∀us:List Value,us.length=1->P us
 |[_],_=>h _
theorem bn2 {P:List Value->Prop}(h:∀x0 x1,P [x0,x1]):∀us:List Value,us.length=2->P us
 |[_,_],_=>h _ _
theorem bn3 {P:List Value->Prop}(h:∀x0 x1 x2,P [x0,x1,x2]):∀us:List Value,us.length=3->P us
 |[_,_,_],_=>h _ _ _
theorem cs9 {l:PySem.W.OpenLaw}{w:World}{K:PySem.W.Frag}{h:Heap}{mg:Str->Option Value}{fa f0 f1 f2 f3 f4 f5 f6 f7 f8 f9 f10 f11 f12 f13 f14 f15 f16 f17 f18 f19 f20 f21 f22 f23:Addr}{zyy zyz zxx zzy zzx zyx zzz zx zxz zxy zwz:Addr}{tk0 tk1:Tok}(X:K.In h)(G:h.Ns mainGlobals mg)(hfa:mg "law"=some (.ref fa))
   (u0:Fu K "is_whole" ad1 f0)
   (u1:Fu K "must_be_few" O5 f1)
   (u2:Fu K "walk_ring" aa3 f2)
   (u3:Fu K "walk_rings" X6 f3)
   (u4:Fu K "send_over" aa4 f4)
   (u5:Fu K "sort_by_length" P0 f5)
   (u6:Fu K "picks_of" ad2 f6)
   (u7:Fu K "lay_every_way" Q6 f7)
   (u8:Fu K "is_turn" U0 f8)
   (u9:Fu K "must_be_turn" K1 f9)
   (u10:Fu K "how_many_past" Q7 f10)
   (u11:Fu K "ways_over" T6 f11)
   (u12:Fu K "all_past" V4 f12)
   (u13:Fu K "_law_pool" ad3 f13)
   (u14:Fu K "_law_draw" ad4 f14)
   (u15:Fu K "_law_turn" ad5 f15)
   (u16:Fu K "_law_behind" X7 f16)
   (u17:Fu K "_law_put" ah1 f17)
   (u18:Fu K "_law_all" ah0 f18)
   (u19:Fu K "_law_told" ad6 f19)
   (u20:Fu K "_law_spoilt" X8 f20)
   (u21:Fu K "_law_great_right" O0 f21)
   (u22:Fu K "_law_rounds" X9 f22)
   (u23:Fu K "law" ak2 f23)
   (m0:PySem.W.nsIn K mainGlobals "MOST_THINGS"=some (some (.int 40 tk0)))
   (m1:PySem.W.nsIn K mainGlobals "MOST_TOLD"=some (some (.int 2000 tk1)))
   (zz:Fre K ["len","isinstance","int","bool","list","range","sum","min","max","enumerate","zip","sorted","tuple","str","repr","all","any","set","dict","ValueError"])
   (uT:PySem.W.nsIn K mainGlobals "TurnError"=some (some (.ref zyy)))
   (uTb:PySem.W.mroIn K zyy (.type "BaseException")=some true)
   (uTc:PySem.W.isClsIn K zyy=true)
   (uTt:PySem.W.typeIn K (.ref zyy)=some (.type "type"))
   (uG:PySem.W.specialIn K (.builtin "object.__class__") "__get__"=some (some (.builtin "getset_descriptor.__get__")))
   (uK:PySem.W.takesIn K (.builtin "object.__class__")=some true)
   (uC:au0 K zyy [(("NoTurn":Str),zyz),(("NoFit":Str),zxx),(("NoRounds":Str),zzy),(("NoNumber":Str),zzx),(("NoRoot":Str),zyx),(("TooMany":Str),zzz),(("NoKind":Str),zx),(("NoText":Str),zxz),(("NoName":Str),zxy),(("NoRow":Str),zwz)])
   (uP:au1 K [(("NoTurn":Str),zyz),(("NoFit":Str),zxx),(("NoRounds":Str),zzy),(("NoNumber":Str),zzx),(("NoRoot":Str),zyx),(("TooMany":Str),zzz),(("NoKind":Str),zx),(("NoText":Str),zxz),(("NoName":Str),zxy),(("NoRow":Str),zwz)] 0 [(("NoTurn":Str),zyz),(("NoFit":Str),zxx),(("NoRounds":Str),zzy),(("NoNumber":Str),zzx),(("NoRoot":Str),zyx),(("TooMany":Str),zzz),(("NoKind":Str),zx),(("NoText":Str),zxz),(("NoName":Str),zxy),(("NoRow":Str),zwz)])
   :∃fd:FuncData,(∀(s:Shared) (v:Value),BindsTo s fd ⟨[v],[]⟩ [("script",v)])/\∀base:Heap,K.In base->base.Ns mainGlobals mg->m7 l.prog w K mg base E7 46 fa fd ["script"] (ay5 K):=by
 obtain ⟨d0,a0,F0⟩:=u0;obtain ⟨d1,a1,F1⟩:=u1;obtain ⟨d2,a2,F2⟩:=u2;obtain ⟨d3,a3,F3⟩:=u3;obtain ⟨d4,a4,F4⟩:=u4;obtain ⟨d5,a5,F5⟩:=u5;obtain ⟨d6,a6,F6⟩:=u6;obtain ⟨d7,a7,F7⟩:=u7;obtain ⟨d8,a8,F8⟩:=u8;obtain ⟨d9,a9,F9⟩:=u9;obtain ⟨d10,a10,F10⟩:=u10;obtain ⟨d11,a11,F11⟩:=u11;obtain ⟨d12,a12,F12⟩:=u12;obtain ⟨d13,a13,F13⟩:=u13;obtain ⟨d14,a14,F14⟩:=u14;obtain ⟨d15,a15,F15⟩:=u15;obtain ⟨d16,a16,F16⟩:=u16;obtain ⟨d17,a17,F17⟩:=u17;obtain ⟨d18,a18,F18⟩:=u18;obtain ⟨d19,a19,F19⟩:=u19;obtain ⟨d20,a20,F20⟩:=u20;obtain ⟨d21,a21,F21⟩:=u21;obtain ⟨d22,a22,F22⟩:=u22;obtain ⟨d23,a23,F23⟩:=u23;have e:=hfa.symm.trans (PySem.W.mg_of X G a23);cases e;obtain ⟨z0,z1,z2,z3,z4,z5,z6,z7,z8,z9,z10,z11,z12,z13,z14,z15,z16,z17,z18,z19,_⟩:=zz;have zn {y:Str} (z:PySem.W.nsIn K mainGlobals y=some none):=PySem.W.mg_none_of X G z;have B:Bl mg:=⟨zn z0,zn z1,zn z2,zn z3,zn z4,zn z5,zn z6,zn z7,zn z8,zn z9,zn z10,zn z11,zn z12,zn z13,zn z14,zn z15,zn z16,zn z17,zn z18,zn z19⟩;have mt:∃t,mg "MOST_THINGS"=some (.int 40 t):=⟨_,PySem.W.mg_of X G m0⟩;have zuy:∃t,mg "MOST_TOLD"=some (.int 2000 t):=⟨_,PySem.W.mg_of X G m1⟩;have ER:bc0 K mg zyy [(("NoTurn":Str),zyz),(("NoFit":Str),zxx),(("NoRounds":Str),zzy),(("NoNumber":Str),zzx),(("NoRoot":Str),zyx),(("TooMany":Str),zzz),(("NoKind":Str),zx),(("NoText":Str),zxz),(("NoName":Str),zxy),(("NoRow":Str),zwz)]:=bt8 X G uT uTb uTc uTt uG uK uC uP (show (["NoTurn","NoFit","NoRounds","NoNumber","NoRoot","TooMany","NoKind","NoText","NoName","NoRow"]:List Str).Nodup by decide+kernel)
 have ES:∀p∈[(("NoTurn":Str),zyz),(("NoFit":Str),zxx),(("NoRounds":Str),zzy),(("NoNumber":Str),zzx),(("NoRoot":Str),zyx),(("TooMany":Str),zzz),(("NoKind":Str),zx),(("NoText":Str),zxz),(("NoName":Str),zxy),(("NoRow":Str),zwz)],cq9 K p.2:=fun p hp=>⟨(uC.get p hp).s,(uC.get p hp).b⟩
 have zmz:Z4 K mg "NoTurn" zyz:=ER.err ("NoTurn",zyz) (by simp);have e_NoFit:Z4 K mg "NoFit" zxx:=ER.err ("NoFit",zxx) (by simp);have e_NoRounds:Z4 K mg "NoRounds" zzy:=ER.err ("NoRounds",zzy) (by simp);have e_NoNumber:Z4 K mg "NoNumber" zzx:=ER.err ("NoNumber",zzx) (by simp);have e_NoRoot:Z4 K mg "NoRoot" zyx:=ER.err ("NoRoot",zyx) (by simp);have zny:Z4 K mg "TooMany" zzz:=ER.err ("TooMany",zzz) (by simp);have e_NoKind:Z4 K mg "NoKind" zx:=ER.err ("NoKind",zx) (by simp);have e_NoText:Z4 K mg "NoText" zxz:=ER.err ("NoText",zxz) (by simp);have e_NoName:Z4 K mg "NoName" zxy:=ER.err ("NoName",zxy) (by simp);have e_NoRow:Z4 K mg "NoRow" zwz:=ER.err ("NoRow",zwz) (by simp)
 have b0:=F0.binds (ps:=["thing"]) fun _ _ _ _ _ _=>Z9 fun _=>rfl
 have b1:=F1.binds (ps:=["many"]) fun _ _ _ _ _ _=>Z9 fun _=>rfl
 have b2:=F2.binds (ps:=["p","first"]) fun _ _ _ _ _ _=>bn2 fun _ _=>rfl
 have b3:=F3.binds (ps:=["p"]) fun _ _ _ _ _ _=>Z9 fun _=>rfl
 have b4:=F4.binds (ps:=["target","ring","image"]) fun _ _ _ _ _ _=>bn3 fun _ _ _=>rfl
 have b5:=F5.binds (ps:=["rings"]) fun _ _ _ _ _ _=>Z9 fun _=>rfl
 have b6:=F6.binds (ps:=["rings"]) fun _ _ _ _ _ _=>Z9 fun _=>rfl
 have b7:=F7.binds (ps:=["p","choices"]) fun _ _ _ _ _ _=>bn2 fun _ _=>rfl
 have b8:=F8.binds (ps:=["thing"]) fun _ _ _ _ _ _=>Z9 fun _=>rfl
 have b9:=F9.binds (ps:=["thing"]) fun _ _ _ _ _ _=>Z9 fun _=>rfl
 have b10:=F10.binds (ps:=["p"]) fun _ _ _ _ _ _=>Z9 fun _=>rfl
 have b11:=F11.binds (ps:=["rings","images"]) fun _ _ _ _ _ _=>bn2 fun _ _=>rfl
 have b12:=F12.binds (ps:=["p"]) fun _ _ _ _ _ _=>Z9 fun _=>rfl
 have b13:=F13.binds (ps:=["script","k"]) fun _ _ _ _ _ _=>bn2 fun _ _=>rfl
 have b14:=F14.binds (ps:=["pool","many"]) fun _ _ _ _ _ _=>bn2 fun _ _=>rfl
 have b15:=F15.binds (ps:=["pool","many"]) fun _ _ _ _ _ _=>bn2 fun _ _=>rfl
 have b16:=F16.binds (ps:=["p","q"]) fun _ _ _ _ _ _=>bn2 fun _ _=>rfl
 have b17:=F17.binds (ps:=["rows","thing"]) fun _ _ _ _ _ _=>bn2 fun _ _=>rfl
 have b18:=F18.binds (ps:=["many"]) fun _ _ _ _ _ _=>Z9 fun _=>rfl
 have b19:=F19.binds (ps:=["p"]) fun _ _ _ _ _ _=>Z9 fun _=>rfl
 have b20:=F20.binds (ps:=["found"]) fun _ _ _ _ _ _=>Z9 fun _=>rfl
 have b21:=F21.binds (ps:=["p"]) fun _ _ _ _ _ _=>Z9 fun _=>rfl
 have b22:=F22.binds (ps:=["pool"]) fun _ _ _ _ _ _=>Z9 fun _=>rfl
 obtain ⟨oc,od,kV,dc,pm,an,cd,ct,sl,rfl,lk,hcd⟩:=id F23.ex;refine ⟨PySem.W.fnOf "law" "law" (V9 ak2) (P2 ak2) (j5 ak2) .none kV dc pm an cd ct,fun s v=> .of_eq rfl,fun base _ _=> ?_⟩;have zqz:r6 l.prog w K mg base "is_whole" 1 ["thing"] (ak3 K):=A6 X G a0 F0 b0 (by5 F0 B);have zlz:ac7 l.prog w K mg base "must_be_few" 1 ["many"] (fun vs H Q E=>ah9 vs H Q E\/(be4 zzz) vs H Q E):=at9 X G a1 F1 b1 (m7.or (m7.lift (ab7 F1 zuy)) (ar4 F1 zuy zny));have zuz:r6 l.prog w K mg base "must_be_few" 1 ["many"] ah9:=A6 X G a1 F1 b1 (ab7 F1 zuy);have zjz:r6 l.prog w K mg base "walk_ring" 1 ["p","first"] bd2:=A6 X G a2 F2 b2 (cf3 F2);have zu:r6 l.prog w K mg base "walk_rings" 2 ["p"] ak4:=A6 X G a3 F3 b3 (by6 F3 B zjz);have ztz:r6 l.prog w K mg base "send_over" 1 ["target","ring","image"] ak8:=A6 X G a4 F4 b4 (be2 F4 B);have zwx:r6 l.prog w K mg base "sort_by_length" 1 ["rings"] ak5:=A6 X G a5 F5 b5 (by8 F5 B);have zsz:r6 l.prog w K mg base "picks_of" 1 ["rings"] ak7:=A6 X G a6 F6 b6 (bg2 F6 B);have ztx:r6 l.prog w K mg base "lay_every_way" 1 ["p","choices"] bm1:=A6 X G a7 F7 b7 (an9 F7 B);have zvz:r6 l.prog w K mg base "is_turn" 2 ["thing"] (as8 T1 (ab5 K)):=A6 X G a8 F8 b8 (cn3 (bt9 F8 B mt zqz) (bl6 F8 B mt zqz));have cx_must_be_turn:ac7 l.prog w K mg base "must_be_turn" 3 ["thing"] (fun vs H Q E=>aq7 vs H Q E\/(bj2 K zyz) vs H Q E):=at9 X G a9 F9 b9 (m7.or (m7.lift (bi7 F9 (ca8 zvz))) (an6 F9 zvz zmz));have zrz:r6 l.prog w K mg base "must_be_turn" 3 ["thing"] aq7:=A6 X G a9 F9 b9 (bi7 F9 (ca8 zvz));have zy:r6 l.prog w K mg base "how_many_past" 4 ["p"] ak6:=A6 X G a10 F10 b10 (an5 F10 B zrz zwx zu)
 have w_ways_over:∀d:Nat,r6 l.prog w K mg base "ways_over" (d+2) ["rings","images"] (W4 d):=fun d=>by
   induction d with
   |zero=>exact A6 X G a11 F11 b11 (be3 F11 B zsz ztz)
   |succ d ih=>exact A6 X G a11 F11 b11 (ax6 F11 B zsz ih ztz)
 have zty:r6 l.prog w K mg base "ways_over" 42 ["rings","images"] (W4 40):=w_ways_over 40;have zjy:ac7 l.prog w K mg base "all_past" 43 ["p"] (fun vs H Q E=>ar3 vs H Q E\/(au3 zzz) vs H Q E):=at9 X G a12 F12 b12 (m7.or (m7.lift (am0 F12 zuz zy zwx zu ztx zty)) (be5 F12 zlz zy));have zl:r6 l.prog w K mg base "all_past" 43 ["p"] ar3:=A6 X G a12 F12 b12 (am0 F12 zuz zy zwx zu ztx zty);have zox:r6 l.prog w K mg base "_law_pool" 1 ["script","k"] (bc8 K):=A6 X G a13 F13 b13 (cf0 F13 B);have zwy:r6 l.prog w K mg base "_law_draw" 1 ["pool","many"] ah2:=A6 X G a14 F14 b14 (cf1 F14);have zqy:r6 l.prog w K mg base "_law_turn" 2 ["pool","many"] bd0:=A6 X G a15 F15 b15 (cf2 F15 B zwy);have zvy:r6 l.prog w K mg base "_law_behind" 1 ["p","q"] ad7:=A6 X G a16 F16 b16 (bd3 F16);have znz:r6 l.prog w K mg base "_law_put" 1 ["rows","thing"] bl7:=A6 X G a17 F17 b17 (bl8 F17 B);have znx:r6 l.prog w K mg base "_law_all" 2 ["many"] bl9:=A6 X G a18 F18 b18 (bm0 F18 B znz);have zsy:r6 l.prog w K mg base "_law_told" 44 ["p"] al1:=A6 X G a19 F19 b19 (bg4 F19 B zjy ER);have zpy:r6 l.prog w K mg base "_law_spoilt" 1 ["found"] ao2:=A6 X G a20 F20 b20 (ax7 F20 B);have zux:r6 l.prog w K mg base "_law_great_right" 45 ["p"] ao3:=A6 X G a21 F21 b21 (ai4 F21 B zsy zy zvz zvy);have zpx:r6 l.prog w K mg base "_law_rounds" 2 ["pool"] ai5:=A6 X G a22 F22 b22 (ax8 F22 B zwy);exact cl0 F23 B zox zqy zwy znx zvy zsy zy zvz zpy zux zpx
theorem ct0 {l:PySem.W.OpenLaw}{q:Program}{loose:List Str}{XP:(Str->Option Value)->Heap->Prop}{YP:World->Heap->Prop}{d:DefRec}{K:Params->PySem.W.Frag}(hn:l.most=some 63)(hdf:d.params.defaults=[])
   (hY:∀(w:World) (h:Heap),YP w h->(K w.params).In h)
   (F:∀(w:World) (mg:Str->Option Value) (fa:Addr) (h:Heap),(K w.params).In h->h.Ns mainGlobals mg->mg d.name=some (.ref fa)->
     ∃fd:FuncData,(∀(s:Shared) (u:Value),BindsTo s fd ⟨[u],[]⟩ [("script",u)])/\∀base:Heap,(K w.params).In base->base.Ns mainGlobals mg->m7 l.prog w (K w.params) mg base E7 46 fa fd ["script"] (ay5 (K w.params))):
   PySem.W.WalkO q loose XP YP l.row.toRowW d [] (fun f vs=>PySem.call f vs):=
 L2.cr7 (n:=63) (k:=46) (x:="script") (CX:=fun _=>E7) (sp:=fun w=>ay5 (K w.params)) hn (by decide) hdf ⟨rfl,by decide,by decide,rfl⟩ hY F (fun _ _ a ns hl _ hS=>⟨a,ns,rfl,hS,hl,fun _=>rfl⟩) fun _ _ _ _ _ z=>z
end My
end
abbrev PySem.W.Fast.tw90343872475197607:Type:=PySem.Params
theorem PySem.W.Fast.te90343872475197607:PySem.Params=PySem.W.Fast.tw90343872475197607:=rfl
open PySem PySem.W PyProof.Rows L2
set_option maxRecDepth 100000 in
set_option maxHeartbeats 0 in
theorem PySem.Challenge.cw_turnroots_k28_all_that_go_past_holds : PySem.Challenge.rw_turnroots_k28_all_that_go_past.Holds := by
  w_on; o_law; k_head; (case hw => w_witness2)
  k_fill
  refine My.ct0 (l := PySem.Challenge.rw_turnroots_k28_all_that_go_past) rfl rfl (fun w h Y => PySem.W.kIn_of Y) ?F
  case F =>
    intro w mg fa h KX G hmg
    refine' My.cs9 KX G hmg ?_ ?_ ?_ ?_ ?_ ?_ ?_ ?_ ?_ ?_ ?_ ?_ ?_ ?_ ?_ ?_ ?_ ?_ ?_ ?_ ?_ ?_ ?_ ?_ ?_ ?_ ?_ ?_ ?_ ?_ ?_ ?_ ?_ ?_ ?_
    all_goals first
      | k_is
      | (refine' cn7 ?a ?l ?c ?k; (case a => k_is); (case l => k_is); (case c => k_is); (case k => k_is))
      | ((repeat (refine' And.intro (ClF.mk ?n ?e ?g ?h ?c ?b ?o ?i ?t ?u ?v ?s) ?_; (case n => k_is); (case e => k_exc); (case g => k_is); (case h => k_is); (case c => k_is); (case b => k_is); (case o => k_is); (case i => k_is); (case t => k_is); (case u => k_is); (case v => k_is); (case s => k_is))); exact trivial)
      | ((repeat (refine' And.intro ?n ?_; (case n => k_is))); exact trivial)
      | ((repeat (refine' And.intro ?zp ?_; (case zp => ((repeat (refine' And.intro ?n ?_; (case n => k_is))); exact trivial)))); exact trivial)
      | skip
#print axioms PySem.Challenge.cw_turnroots_k28_all_that_go_past_holds
