import PyProof.Rows.All
import Wide.All
import OpenK.AllK
import Wide.FinOn
import Lean
import PyProof.EqAt
import PyProof.EqKinds
import PyProof.TupleCall
import PyProof.NeKinds
import PyProof.EnumMake
import PyProof.Rows.SeqMore2
import PyProof.ZipIter
import PyProof.Rows.SortRev
import PyProof.Rows.SortWalk
import PyProof.Rows.CallKwBuiltin
import PyProof.DictIter
import PyProof.DictWalks
import PyProof.MeetsDict
import PyProof.Conv_int_bool
import PyProof.EqAt
import PyProof.CollectWalk
import PyProof.Rows.SortShell
import PyProof.Rows.Range3
import PyProof.CallFns
import PyProof.StrBlockH
import PySem.Challenge.RW_turnroots_k22_whole_roots_counted_and_to
open List renaming length_map→dn8, getElem?_eq_getElem→dn9, getElem?_eq_some_iff→do0, getElem?_map→do2, mem_cons_self→do3, mem_cons_of_mem→do4, getD_eq_getElem?_getD→do5, length_append→do6, getElem?_eq_none→do7, map_append→do8, mem_map→do9, mem_of_getElem?→dp0, mem_singleton→dp1, size_toArray→dp2, mem_append→dp3, length_take→dp5, nodup_iff_pairwise_ne→dp6, mem_cons→dp7, mem_flatten→dp9, flatten_cons→dq1, append_assoc→dq4, mem_append_right→dq5, append_nil→dq6, pairwise_iff_getElem→dq7, take_length→dq8, mem_iff_getElem?→dq9, length_range→dr0, length_drop→dr2, ext_getElem?→dr3, mem_range→dr4, nodup_cons→dr5, getElem?_append_left→dr6, map_cons→dr7, length_cons→dr8, getElem_mem→dr9, range→ds0, getElem?_range→ds1, replicate→ds3, flatten_append→ds4, getElem?_append_right→ds5, map_map→ds7, flatMap_cons→ds9, getElem?_take_of_lt→dt2, map_congr_left→dt3, mem_append_left→dt5, take_append_drop→dt6, nodup_append→dt7, mem_filter→dt8, mem_flatMap→dt9, drop_eq_getElem_cons→du4, mem_of_mem_take→du6, flatten_singleton→du7, lookup_cons→du9, countP_eq_zero→dv3, countP_cons→dv5, perm_append_comm→dv7, nodup_nil→dv8, take_of_length_le→dw1, pairwise_map→dw2, flatMap_append→dw4, filter_cons_of_pos→dx0, filter_cons_of_neg→dx1, length_eq_zero_iff→dx2, replicate_succ→dx4, all_eq_true→dx8, flatMap_nil→dy1, getElem?_drop→dy2, take_zero→dy3, mem_of_mem_drop→dy4, countP_map→dy6, countP_congr→dy7, length_reverse→dy9, drop_eq_nil_of_le→dz1, mem_reverse→dz2, filter_append→dz3, length_replicate→dz5, length_filter_le→dz6, range_succ→ea0, reverse_append→ea7, pairwise_singleton→ea8, length_set→ea9, find?_cons→eb1, sum_cons→eb4, map_id→eb5, map_nil→eb8, flatten→ec1, any_cons→ec3, length_nil→ec6, filter_nil→ec9, getElem?_take→ed2, foldl_append→ed7, getElem?_set_self→ed8, length_pos_of_mem→ed9, length_singleton→ee0, eraseIdxIfInBounds_toArray→ee1, any_eq_true→ee3, nodup_range→ee6, getElem?_reverse→ee8, getElem?_set_ne→ee9, length_dropLast→ef0, mem_erase_of_ne→ef1, filterMap_cons→ef9, countP_eq_length_filter→eg0, dropLast_concat_getLast→eg1, append_of_mem→eg2, countP_append→eg3, pairwise_cons→eg4, perm_ext_iff_of_nodup→eg9, extract_eq_take_drop→eh2, map_take→eh3, length_erase_of_mem→eh4, getElem?_replicate→eh7, getElem?_cons_zero→eh8, getElem?_cons_succ→eh9, map_set→ei1, of_mem_zip→ei2, length→ei6, drop_zero→ei8, take_succ→ei9, all_cons→ej0, take_add→ej1, map_drop→ej2
open Nat renaming le_refl→do1, le_trans→dp4, gcd→dp8, zero_le→dq3, lt_of_le_of_lt→ds2, le_mul_of_pos_right→ds6, lt_of_lt_of_le→dt0, ne_of_lt→dt1, mul_comm→du0, le_of_lt→du2, mod_eq_of_lt→du3, mul_le_mul_right→du5, mul_div_cancel_left→dv4, mod_lt→dv6, add_comm→dv9, add_zero→dw0, mul_assoc→dw3, eq_zero_or_pos→dw5, lt_irrefl→dw8, mul_pos→dx9, eq_of_mul_eq_mul_left→dy0, gcd_dvd_right→dy5, succ_mul→dy8, dvd_of_mod_eq_zero→dz0, sub_add_cancel→dz4, add_mul→dz7, zero_add→dz8, zero_mul→dz9, add_mul_mod_self_left→ea2, mul_le_mul→ea4, add_le_add_left→ea5, le_of_dvd→eb2, le_mul_of_pos_left→eb3, dvd_of_mul_dvd_mul_left→eb6, coprime_div_gcd_div_gcd→eb7, le_of_eq→eb9, mul_zero→ec0, add_assoc→ec4, mul_div_cancel'→ec5, mul_add→ec8, gcd_pos_of_pos_right→ed0, lt_or_ge→ed4, gcd_pos_of_pos_left→ed5, lt_succ_of_lt→ed6, mul_one→ee4, gcd_dvd_left→ee5, div_eq_of_lt→ee7, mul_dvd_mul_left→ef2, div_add_mod→ef4, min_eq_left→ef5, mul_succ→ef6, sub_self→ef7, pow_succ→ef8, lt_or_eq_of_le→eg5, le_succ→eg7, Coprime→eg8, lt_trichotomy→eh1, gcd_mul_left→eh5, dvd_zero→ei0, mul_add_div→ei4, mul_add_mod→ei5, one_mul→ei7
open Array renaming length_toList→dq0, getElem?_toList→ds8, toList_append→dt4, toList→du8, perm_iff_toList_perm→dx6, getElem?_eq_getElem→ea1, toList_push→ea3, toList_reverse→ec2, toList_map→eh6
open Bool renaming false_ne_true→dq2, false_eq_true→dw6, eq_iff_iff→dx3, and_eq_true→dx7, or_eq_true→ec7
open Int renaming toNat_natCast→dr1, emod_nonneg→du1, natCast_emod→dv0, emod_lt_of_pos→dw7, eq_ofNat_of_zero_le→dw9, natCast_mul→dx5, toNat_of_nonneg→ea6, natAbs_natCast→ed1, emod_eq_zero_of_dvd→ed3, dvd_self_sub_emod→ee2, toNat→ef3, fdiv_eq_ediv_of_nonneg→eg6, natCast_add→ei3
open Option renaming isSome_map→eh0
set_option Elab.async false
set_option linter.all false
set_option maxRecDepth 100000
set_option maxHeartbeats 8000000
set_option Elab.async false
set_option linter.all false
set_option maxRecDepth 100000
namespace L2
open PySem PySem.Spec PyProof.Rows
abbrev o4:=Sum Int Str
def ao2:o4→Value→Bool
 | .inl k,v=>Value.isInt k v
 | .inr x,v=>Value.isStrOf x v
def dj4 (w:World):o4→Int
 | .inl k=>hashInt k
 | .inr x=>hashStr w x
theorem E9:∀{k:o4} {v:Value},ao2 k v=true→(∃i t,k=Sum.inl i∧v=Value.int i t)∨(∃x t,k=Sum.inr x∧v=Value.str x t)
 | .inl i,v,h=>by
   obtain ⟨t,e⟩:=Value.isInt_shape (k:=i) (v:=v) h
   exact .inl ⟨i,t,rfl,e⟩
 | .inr x,v,h=>by
   obtain ⟨t,e⟩:=Value.isStrOf_shape (x:=x) (v:=v) h
   exact .inr ⟨x,t,rfl,e⟩
theorem cb7 (i:Int)(t:Tok):ao2 (.inl i) (.int i t)=true:=by simp [ao2,Value.isInt]
theorem cb8 (x:Str)(t:Tok):ao2 (.inr x) (.str x t)=true:=by simp [ao2,Value.isStrOf]
theorem cx7 (a b:Int):decide ((Sum.inl a:o4)=Sum.inl b)=(a==b):=by
 by_cases e:a=b
 · subst e;simp
 · have h:¬(Sum.inl a:o4)=Sum.inl b:=fun q=>e (Sum.inl.inj q)
   rw[decide_eq_false h]
   exact (beq_eq_false_iff_ne.mpr e).symm
theorem cx9 (a b:Str):decide ((Sum.inr a:o4)=Sum.inr b)=decide (a=b):=by
 by_cases e:a=b
 · subst e;simp
 · have h:¬(Sum.inr a:o4)=Sum.inr b:=fun q=>e (Sum.inr.inj q)
   rw[decide_eq_false h,decide_eq_false e]
theorem cy0 (a:Int)(b:Str):decide ((Sum.inl a:o4)=Sum.inr b)=false:=decide_eq_false (fun q=>nomatch q)
theorem cy1 (a:Str)(b:Int):decide ((Sum.inr a:o4)=Sum.inl b)=false:=decide_eq_false (fun q=>nomatch q)
def x8 (prog:Program)(w:World):PySem.KeyKind prog w o4 where
 is:=ao2
 hash:=dj4 w
 inj:=fun v a b ha hb=>by
   rcases E9 ha with ⟨i,t,rfl,rfl⟩|⟨x,t,rfl,rfl⟩
   · rcases E9 hb with ⟨j,u,rfl,e⟩|⟨y,u,rfl,e⟩
     · injection e with e1 _;rw[e1]
     · exact nomatch e
   · rcases E9 hb with ⟨j,u,rfl,e⟩|⟨y,u,rfl,e⟩
     · exact nomatch e
     · injection e with e1 _;rw[e1]
 byValue:=fun k v h=>by
   rcases E9 h with ⟨i,t,rfl,rfl⟩|⟨x,t,rfl,rfl⟩<;>rfl
 pyHash:=fun hv h=>by
   rcases E9 hv with ⟨i,t,rfl,rfl⟩|⟨x,t,rfl,rfl⟩
   · exact wpAny_pyHash_int h
   · exact wpAny_pyHash_str h
 eqBool:=fun hu hv h=>by
   rcases E9 hu with ⟨i,t,rfl,rfl⟩|⟨x,t,rfl,rfl⟩
   · rcases E9 hv with ⟨j,u,rfl,rfl⟩|⟨y,u,rfl,rfl⟩
     · rw[cx7] at h;exact wpAny_eqBool_int h
     · rw[cy0] at h;exact SeqAt.EqAt.int_str i t y u _ _ _ _ h
   · rcases E9 hv with ⟨j,u,rfl,rfl⟩|⟨y,u,rfl,rfl⟩
     · rw[cy1] at h;exact SeqAt.EqAt.str_int x t j u _ _ _ _ h
     · rw[cx9] at h;exact wpAny_eqBool_str h
 «strs»:=fun k x t v h=>by
   rcases E9 h with ⟨i,u,rfl,e⟩|⟨y,u,rfl,e⟩
   · exact nomatch e
   · injection e with e1 _
     subst e1
     cases v<;>rfl
theorem aq1 (prog:Program)(w:World)(i:Int)(t:Tok):(x8 prog w).is (.inl i) (.int i t)=true:=cb7 i t
theorem aq2 (prog:Program)(w:World)(x:Str)(t:Tok):(x8 prog w).is (.inr x) (.str x t)=true:=cb8 x t
end L2
namespace L2
open PySem PySem.Spec PyProof.Rows
inductive V where
 |non|bl (b:Bool)|int (i:Int)|str (x:Str)|byt (b:Array UInt8)|flt (b:UInt64)|ref (a:Addr)|ty (n:String)
 deriving DecidableEq
def n6:V→Value→Prop
 | .non,u=>u=Value.none
 | .bl b,u=>u=Value.bool b
 | .int i,u=>∃t,u=Value.int i t
 | .str x,u=>∃t,u=Value.str x t
 | .byt b,u=>∃t,u=Value.bytes b t
 | .flt b,u=>∃t,u=Value.float b t
 | .ref a,u=>u=Value.ref a
 | .ty n,u=>u=Value.type n
abbrev j9:List V→List Value→Prop:=Paired n6
theorem j9.length {xs:List V}{us:List Value}(r:j9 xs us):xs.length=us.length:=Paired.length r
theorem j9.get:∀{xs:List V} {us:List Value} {i:Nat} {x:V},j9 xs us→xs[i]? =some x→∃u,us[i]? =some u∧n6 x u
 |_,_,_,_,.nil,e=>by simp at e
 |_,_,0,_,.cons r _,e=>by simp at e;subst e;exact ⟨_,rfl,r⟩
 |_,_,i+1,x,.cons _ t,e=>by
  obtain ⟨u,h1,h2⟩:=j9.get (i:=i) (x:=x) t (by simpa using e)
  exact ⟨u,by simpa using h1,h2⟩
theorem j9.set {x:V}{u:Value}(r:n6 x u):∀{xs:List V} {us:List Value} (i:Nat),j9 xs us→j9 (xs.set i x) (us.set i u)
 |_,_,_,.nil=> .nil
 |_,_,0,.cons _ t=> .cons r t
 |_,_,i+1,.cons q t=> .cons q (j9.set r i t)
theorem j9.append:∀{xs ys:List V} {us ws:List Value},j9 xs us→j9 ys ws→j9 (xs++ys) (us++ws)
 |_,_,_,_,.nil,s=>s
 |_,_,_,_,.cons r t,s=> .cons r (j9.append t s)
theorem j9.take:∀{xs:List V} {us:List Value} (n:Nat),j9 xs us→j9 (xs.take n) (us.take n)
 |_,_,0,_=> .nil
 |_,_,_+1,.nil=> .nil
 |_,_,n+1,.cons r t=> .cons r (j9.take n t)
theorem j9.drop:∀{xs:List V} {us:List Value} (n:Nat),j9 xs us→j9 (xs.drop n) (us.drop n)
 |_,_,0,r=>r
 |_,_,_+1,.nil=> .nil
 |_,_,n+1,.cons _ t=>j9.drop n t
def Y7:Option V→Option Value→Prop
 |some v,some u=>n6 v u
 |none,none=>True
 |_,_=>False
def KV {κ:Type}:List (κ×V)→List (κ×Value)→Prop:=Paired fun (p:κ×V) (q:κ×Value)=>p.1=q.1∧n6 p.2 q.2
def kV:o4→V
 | .inl i=> .int i
 | .inr x=> .str x
inductive HO where
 |lst (xs:List V)
 |tup (xs:List V)
 |dK (kvs:List (o4×V))|dT (kvs:List (List o4×V))
 |set (S:Int→Bool) (n:Nat)
 |ins (C dx:Addr) (fs:List (Str×V))
 |own (x:Addr)
 |xd (fs:List (Str×V))
 |met (f x:Addr)
 |rng (lo hi:Int)
 |frz (o:Obj) (u:HO)
 |tbl (ps:Array Value)
 |ext (φ:Heap→Prop)
abbrev Hp:=Addr→Option HO
def c9 (H:Hp)(a:Addr)(o:HO):Hp:=fun b=>if b=a then some o else H b
theorem c8 {H:Hp}{a:Addr}{o:HO}:c9 H a o a=some o:=by unfold c9;rw[if_pos rfl]
theorem g8 {H:Hp}{a b:Addr}{o:HO}(h:b≠a):c9 H a o b=H b:=by unfold c9;rw[if_neg h]
theorem cq3 {H:Hp}{a b:Addr}{o u:HO}(h:H a=some o)(h':H b=some u)(d:o≠u):a≠b:=by
 intro e;subst e;rw[h] at h';exact d (Option.some.inj h')
theorem g6 {H:Hp}{a b:Addr}{o:HO}(h:H a=some o)(h':H b=none):a≠b:=by
 intro e;subst e;rw[h] at h';cases h'
section
variable (P:Program) (w:World)
def r6 (H:Hp)(h:Heap)(a:Addr):HO→Prop
 | .lst xs=>xs.length≤sizeLine∧∃(its:List Value) (n:Nat),j9 xs its∧h.get? a=some {cls:= .type "list",data:= .seq its.toArray n}
 | .tup xs=>xs.length≤sizeLine∧∃its:List Value,j9 xs its∧IsTup h a its.toArray
 | .dK kvs=>kvs.length≤sizeLine∧(a==sysModules)=false∧∃vs,KV kvs vs∧h.DictOf (x8 P w) a vs
 | .dT kvs=>kvs.length≤sizeLine∧(a==sysModules)=false∧∃xs:List (List o4×Addr×Value),
     Paired (fun (p:List o4×V) (q:List o4×Addr×Value)=>p.1=q.1∧H q.2.1=some (.tup (p.1.map kV))∧n6 p.2 q.2.2) kvs xs∧
     ∃o es ep,h.get? a=some o∧o.ExactDict∧o.data= .dict es ep∧es.toList=xs.map (entryOfKey (tupleKind (x8 P w)))∧(xs.map (·.1)).Nodup
 | .set S n=>h.SetOf (intKind P w) a S n
 | .ins C dx fs=>H dx=some (.own a)∧fs.length≤1000∧dx≠a∧h.get? a=some (PySem.W.instObj C dx)∧
     ∃mA,h.Ns1 dx mA∧(∀f,Y7 (fs.lookup f) (mA f))∧PySem.Within mA (fs.map (·.1))
 | .own _=>∃o,h.get? a=some o
 | .xd fs=>∃mA,h.Ns1 a mA∧∀f,Y7 (fs.lookup f) (mA f)
 | .rng lo hi=>∃t u v,h.get? a=some {cls:= .type "range",data:= .fields #[.int lo t,.int hi u,.int 1 v]}
 | .frz o u=>h.get? a=some o∧r6 H h a u
 | .tbl ps=>h.get? a=some {cls:= .none,data:= .fields ps}
 | .met f x=>h.get? a=some (PySem.W.methodObj (.ref f) (.ref x))
 | .ext φ=>φ h∧(∃o,h.get? a=some o)∧∀h1 h2:Heap,φ h1→(∀o,h1.get? a=some o→h2.get? a=some o)→φ h2
def G1 (H:Hp)(h:Heap):Prop:=∀a o,H a=some o→r6 P w H h a o
end
section
variable {P:Program} {w:World} {H H':Hp} {h h':Heap} {a:Addr} {o:HO}
theorem r6.lt (x:r6 P w H h a o):a < h.objs.size:=by
 cases o with
 |lst xs=>obtain ⟨_,_,_,_,e⟩:=x;exact Heap.lt_size e
 |tup xs=>obtain ⟨_,_,_,p⟩:=x;exact p.lt
 |dK kvs=>obtain ⟨_,_,_,_,o,_,_,e,_⟩:=x;exact Heap.lt_size e
 |dT kvs=>obtain ⟨_,_,_,_,o,_,_,e,_⟩:=x;exact Heap.lt_size e
 |set S n=>obtain ⟨o,_,_,_,e,_⟩:=x;exact Heap.lt_size e
 |ins C dx fs=>obtain ⟨_,_,_,e,_⟩:=x;exact Heap.lt_size e
 |own y=>obtain ⟨_,e⟩:=x;exact Heap.lt_size e
 |xd fs=>obtain ⟨_,⟨_,_,_,e,_⟩,_⟩:=x;exact Heap.lt_size e
 |rng lo hi=>obtain ⟨_,_,_,e⟩:=x;exact Heap.lt_size e
 |frz ob u=>obtain ⟨e,_⟩:=x;exact Heap.lt_size e
 |tbl ps=>exact Heap.lt_size (show h.get? a=some _ from x)
 |met f y=>exact Heap.lt_size (show h.get? a=some _ from x)
 |ext φ=>obtain ⟨_,⟨_,e⟩,_⟩:=x;exact Heap.lt_size e
theorem Paired.mapP {α β:Type}{F G:α→β→Prop}:∀{l₁:List α} {l₂:List β},Paired F l₁ l₂→(∀a b,F a b→G a b)→Paired G l₁ l₂
 |_,_,.nil,_=> .nil
 |_,_,.cons r t,f=> .cons (f _ _ r) (Paired.mapP t f)
theorem r6.stay (x:r6 P w H h a o)(k:∀b u,(b=a∨H b=some (.own a))→h.get? b=some u→h'.get? b=some u)
   (ho:∀b,H b=some (.own a)→H' b=some (.own a)) (ht:∀b xs,H b=some (.tup xs)→H' b=some (.tup xs)):r6 P w H' h' a o:=by
 induction o with
 |lst xs=>obtain ⟨z,its,n,r,e⟩:=x;exact ⟨z,its,n,r,k _ _ (.inl rfl) e⟩
 |tup xs=>obtain ⟨z,its,r,ob,e,c⟩:=x;exact ⟨z,its,r,ob,k _ _ (.inl rfl) e,c⟩
 |dK kvs=>obtain ⟨z,y,vs,r,ob,es,ep,e,c⟩:=x;exact ⟨z,y,vs,r,ob,es,ep,k _ _ (.inl rfl) e,c⟩
 |dT kvs=>
  obtain ⟨z,y,xs,r,ob,es,ep,e,c⟩:=x
  exact ⟨z,y,xs,Paired.mapP r fun p q z=>⟨z.1,ht _ _ z.2.1,z.2.2⟩,ob,es,ep,k _ _ (.inl rfl) e,c⟩
 |set S n=>obtain ⟨ob,es,ep,t,e,c⟩:=x;exact ⟨ob,es,ep,t,k _ _ (.inl rfl) e,c⟩
 |ins C dx fs=>
  obtain ⟨d,z,ne,e,mA,⟨od,es,ep,e2,c⟩,r⟩:=x
  exact ⟨ho _ d,z,ne,k _ _ (.inl rfl) e,mA,⟨od,es,ep,k _ _ (.inr d) e2,c⟩,r⟩
 |own y=>obtain ⟨ob,e⟩:=x;exact ⟨ob,k _ _ (.inl rfl) e⟩
 |xd fs=>obtain ⟨mA,⟨od,es,ep,e,c⟩,r⟩:=x;exact ⟨mA,⟨od,es,ep,k _ _ (.inl rfl) e,c⟩,r⟩
 |rng lo hi=>obtain ⟨t,u,v,e⟩:=x;exact ⟨t,u,v,k _ _ (.inl rfl) e⟩
 |frz ob u ih=>obtain ⟨e,q⟩:=x;exact ⟨k _ _ (.inl rfl) e,ih q⟩
 |tbl ps=>
  have e:h.get? a=some {cls:= .none,data:= .fields ps}:=x
  show h'.get? a=some {cls:= .none,data:= .fields ps}
  exact k a _ (.inl rfl) e
 |met f y=>
  have e:h.get? a=some (PySem.W.methodObj (.ref f) (.ref y)):=x
  show h'.get? a=some (PySem.W.methodObj (.ref f) (.ref y))
  exact k a _ (.inl rfl) e
 |ext φ=>obtain ⟨p,⟨o,e⟩,st⟩:=x;exact ⟨st _ _ p fun o q=>k _ _ (.inl rfl) q,⟨o,k _ _ (.inl rfl) e⟩,st⟩
theorem G1.lt (x:G1 P w H h)(e:H a=some o):a < h.objs.size:=(x a o e).lt
theorem G1.fresh (x:G1 P w H h)(e:h.objs.size≤a):H a=none:=by
 cases q:H a with
 |none=>rfl
 |some u=>exact absurd (dt0 (x.lt q) e) (dw8 _)
theorem G1.kept (x:G1 P w H h)(k:∀b u,h.get? b=some u→h'.get? b=some u):G1 P w H h':=fun a o e=>
 (x a o e).stay (fun b u _ q=>k b u q) (fun _ q=>q) fun _ _ q=>q
theorem G1.laid (x:G1 P w H h)(k:∀b u,h.get? b=some u→h'.get? b=some u)(hp:h.objs.size≤a)(new:r6 P w (c9 H a o) h' a o):G1 P w (c9 H a o) h':=fun b u e=>by
 have hn:=x.fresh hp
 by_cases hb:b=a
 · subst hb;rw[c8] at e;cases e;exact new
 · rw[g8 hb] at e
   exact (x b u e).stay (fun c v _ q=>k c v q) (fun c q=>by rw[g8 (g6 q hn)];exact q) fun c xs q=>by rw[g8 (g6 q hn)];exact q
end
def Rd (H:Hp)(a:Addr)(u:HO):Prop:=H a=some u∨∃o,H a=some (.frz o u)
theorem Rd.ok {P:Program}{w:World}{H:Hp}{h:Heap}{a:Addr}{u:HO}(r:Rd H a u)(x:G1 P w H h):r6 P w H h a u:=by
 rcases r with r|⟨o,r⟩
 · exact x a u r
 · obtain ⟨_,q⟩:=x a _ r
   exact q
def Mut:Option HO→Prop
 |some (.lst _)=>True
 |some (.dK _)=>True
 |some (.dT _)=>True
 |some (.set _ _)=>True
 |some (.ins _ _ _)=>True
 |some (.ext _)=>True
 |_=>False
section
variable {P:Program} {w:World} {H:Hp} {h h':Heap} {x e:Addr} {o':HO}
theorem G1.write (ok:G1 P w H h)(mu:Mut (H x))(he:e=x∨H e=some (.own x))(k:∀b u,b≠e→h.get? b=some u→h'.get? b=some u)(heo:∃u,h'.get? e=some u)
   (new:r6 P w (c9 H x o') h' x o'):G1 P w (c9 H x o') h':=fun b u q=>by
 have nown:∀c y,H c=some (.own y)→c≠x:=fun c y r z=>by subst z;rw[r] at mu;exact mu
 have ntup:∀c xs,H c=some (.tup xs)→c≠x:=fun c xs r z=>by subst z;rw[r] at mu;exact mu
 by_cases hb:b=x
 · subst hb;rw[c8] at q;cases q;exact new
 · rw[g8 hb] at q
   by_cases hbe:b=e
   · have q':H b=some (.own x):=by
       rcases he with z|z
       · exact absurd (hbe.trans z) hb
       · rw[hbe];exact z
     rw[q] at q';cases q'
     obtain ⟨v,hv⟩:=heo
     exact ⟨v,by rw[hbe];exact hv⟩
   · refine (ok b u q).stay (fun c v hc r=>k c v ?_ r) (fun c r=>by rw[g8 (nown c b r)];exact r) fun c xs r=>by rw[g8 (ntup c xs r)];exact r
     rcases hc with rfl|hc
     · exact hbe
     · rintro rfl
       rcases he with z|z
       · exact nown c b hc z
       · rw[hc] at z;cases z;exact hb rfl
end
structure Un (fs ex:List Addr)(H H':Hp)(h h':Heap):Prop where
 keep:∀b o,h.get? b=some o→H b=none→b∉fs→b∉ex→h'.get? b=some o
 slot:∀b o,h.get? b=some o→H b=none→b∈fs→b∉ex→∃sl,h'.get? b=some {o with slots:=sl}
 free:∀b o,h.get? b=some o→H b=none→b∉ex→H' b=none
 there:∀b o,h.get? b=some o→b∉ex→∃o',h'.get? b=some o'
 tups:∀b xs,H b=some (.tup xs)→H' b=some (.tup xs)
 frzs:∀b o u,H b=some (.frz o u)→H' b=some (.frz o u)
 tbls:∀b ps,H b=some (.tbl ps)→∃more,H' b=some (.tbl (ps++more))
section
variable {fs fs' ex ex':List Addr} {H H1 H2:Hp} {h h1 h2 h':Heap} {a x e:Addr} {o:HO}
theorem Un.any (u:Un fs ex H H1 h h1){b:Addr}{ob:Obj}(q:h.get? b=some ob)(n:H b=none)(hx:b∉ex):∃sl,h1.get? b=some {ob with slots:=sl}:=by
 by_cases hb:b∈fs
 · exact u.slot b ob q n hb hx
 · exact ⟨ob.slots,u.keep b ob q n hb hx⟩
theorem Un.kept (k:∀b u,h.get? b=some u→h'.get? b=some u):Un fs ex H H h h':=
 ⟨fun b ob q _ _ _=>k b ob q,fun b ob q _ _ _=>⟨ob.slots,k b ob q⟩,fun _ _ _ n _=>n,fun b ob q _=>⟨ob,k b ob q⟩,fun _ _ q=>q,fun _ _ _ q=>q,fun _ ps q=>⟨#[],by rw[q];simp⟩⟩
theorem Un.refl:Un fs ex H H h h:=Un.kept fun _ _ q=>q
theorem Un.laid (k:∀b u,h.get? b=some u→h'.get? b=some u)(hp:h.objs.size≤a)(hn:H a=none):Un fs ex H (c9 H a o) h h' where
 keep:=fun b u q _ _ _=>k b u q
 slot:=fun b u q _ _ _=>⟨u.slots,k b u q⟩
 free:=fun b u q n _=>by rw[g8 (dt1 (dt0 (Heap.lt_size q) hp))];exact n
 there:=fun b u q _=>⟨u,k b u q⟩
 tups:=fun b xs q=>by rw[g8 (g6 q hn)];exact q
 frzs:=fun b u xs q=>by rw[g8 (g6 q hn)];exact q
 tbls:=fun b ps q=>⟨#[],by rw[g8 (g6 q hn),q];simp⟩
theorem Un.write (mu:Mut (H x))(he:e=x∨H e=some (.own x))(k:∀b u,b≠e→h.get? b=some u→h'.get? b=some u)(heo:∃u,h'.get? e=some u):Un fs ex H (c9 H x o) h h':=by
 have hx:∀b,H b=none→b≠x:=fun b n z=>by subst z;rw[n] at mu;exact mu
 have hb:∀b,H b=none→b≠e:=fun b n z=>by
   subst z
   rcases he with r|r
   · exact hx b n r
   · rw[n] at r;cases r
 have hm:∀b u,H b=some u→¬Mut (some u)→b≠x:=fun b u q nm z=>by subst z;rw[q] at mu;exact nm mu
 refine ⟨fun b u q n _ _=>k b u (hb b n) q,fun b u q n _ _=>⟨u.slots,k b u (hb b n) q⟩,fun b u q n _=>by rw[g8 (hx b n)];exact n,fun b u q _=> ?_,
   fun b xs q=>by rw[g8 (hm b _ q fun z=>z)];exact q,fun b u xs q=>by rw[g8 (hm b _ q fun z=>z)];exact q,fun b ps q=>⟨#[],by rw[g8 (hm b _ q fun z=>z),q];simp⟩⟩
 by_cases hbe:b=e
 · subst hbe;exact heo
 · exact ⟨u,k b u hbe q⟩
end
def trk (h:Heap)(H:Hp):List Addr:=(ds0 h.objs.size).filter fun a=>(H a).isSome
def ag1 (h:Heap)(H:Hp):Heap:=PySem.W.hideAll h (trk h H)
theorem cc0 (h:Heap)(H:Hp):(ag1 h H).objs.size=h.objs.size:=PySem.W.hideAll_size _ _
theorem ck2 {h:Heap}{H:Hp}{b:Addr}{o:Obj}(e:h.get? b=some o)(n:H b=none):(ag1 h H).get? b=some o:=
 PySem.W.hideAll_get _ e fun hm=>by
   have q:(H b).isSome=true:=(dt8.mp hm).2
   rw[n] at q;simp at q
theorem cs0 {h:Heap}{H:Hp}{b:Addr}{o:Obj}(e:(ag1 h H).get? b=some o):h.get? b=some o∧H b=none:=by
 have e':h.get? b=some o:=PySem.W.of_hideAll (trk h H) e
 refine ⟨e',?_⟩
 cases q:H b with
 |none=>rfl
 |some x=>
  have hm:b∈trk h H:=dt8.mpr ⟨dr4.mpr (Heap.lt_size e'),by simp [q]⟩
  have z:(ag1 h H).get? b=none:=PySem.W.hideAll_none (trk h H) hm
  rw[z] at e;cases e
end L2
namespace L2
open PySem PySem.Spec PyProof.Rows
structure Mod (K:PySem.W.Frag)(mg:Str→Option Value)(base:Heap):Prop where
 kin:K.In base
 glob:base.Ns mainGlobals mg
 blt:∃mb,base.Ns builtinsNs mb∧∀x:Str,x≠"__name__"→mb x=bootBuiltins x
 nolimit:base.NoLimit
structure Cx where
 prog:Program
 w:World
 K:PySem.W.Frag
 mg:Str→Option Value
 base:Heap
 A:Around
 N:List Str
 s₀:Shared
 H₀:Hp
 env:Env
 outer:List Env
 stack:List Env
 ex:List Addr
 fn:Str→Bool
 calm:Bool
 pn:List (Addr×Obj)
 xe:Value→Shared→Prop
def frs (l:List Env):List Addr:=l.filterMap (·.frame)
abbrev Cx.fs (X:Cx):List Addr:=frs X.outer
def Vis (sc:Scope)(x:Str):Prop:=sc.names.lookup x=some .local∨sc.names.lookup x=some .cell∨sc.names.lookup x=some .free
def Loc (sc:Scope)(x:Str):Prop:=sc.names.lookup x=some .local∨sc.names.lookup x=some .cell
def dj5 (env:Env)(h:Heap)(m:Str→Option Value)(x:Str)(u:Value):Prop:=
 (env.kindOf x=some .local∧m x=some u)∨((env.kindOf x=some .cell∨env.kindOf x=some .free)∧∃c,env.cells.lookup x=some c∧h.IsCell c (some u))
structure Cx.Ok (X:Cx):Prop where
 mod:Mod X.K X.mg X.base
 kind:X.env.scope.kind= .function
 glob:X.env.globals=mainGlobals
 blt:X.env.builtins=builtinsNs
 above:X.s₀.heap.objs.size≤X.env.locals
 inj:∀x y c,X.env.cells.lookup x=some c→X.env.cells.lookup y=some c→x=y
 has:∀x,(X.env.kindOf x=some .cell∨X.env.kindOf x=some .free)→∃c,X.env.cells.lookup x=some c
 cab:∀x c,X.fn x=true→X.env.cells.lookup x=some c→X.s₀.heap.objs.size≤c
 hd:X.calm=true→X.A.handled=none
 frames:X.A.frames=some X.stack
 stk:X.stack=X.outer∨(X.stack=X.env::X.outer∧X.env.frame=some X.env.locals)
 exf:∀b∈X.ex,b≠X.env.locals∧∀x c,X.env.cells.lookup x=some c→c≠b
 bs:∀b o,X.base.get? b=some o→X.s₀.heap.get? b=some o∧X.H₀ b=none
 bsz:X.base.objs.size≤X.s₀.heap.objs.size
 noex:∀b o,X.base.get? b=some o→b∉X.ex
 exfs:∀b∈X.ex,b∉X.fs
 funs:X.s₀.heap.FunFrames X.base X.outer
 frf:∀b∈X.fs,X.H₀ b=none
structure h7 (X:Cx)(pins:List (Addr×Obj))(σ:List (Option V))(H:Hp)(s:Shared):Prop where
 ok:X.Ok
 os:s.os=X.s₀.os
 bare:AllBare s.gens
 base:Un X.fs X.ex X.H₀ H X.s₀.heap s.heap
 loc:∃m,s.heap.Ns X.env.locals m∧∀(i:Nat) (x:Str) (v:V),X.N[i]? =some x→σ[i]? =some (some v)→Vis X.env.scope x→∃u,n6 v u∧dj5 X.env s.heap m x u
 cell:∀x c,X.env.cells.lookup x=some c→∃v,s.heap.IsCell c v
 free:H X.env.locals=none
 freeC:∀x c,X.env.cells.lookup x=some c→H c=none
 pin:∀p∈X.pn++pins,s.heap.get? p.1=some p.2∧H p.1=none∧p.1≠X.env.locals∧p.1∉X.fs∧∀v,p.2.data≠.cell v
 hok:G1 X.prog X.w H s.heap
 len:σ.length=X.N.length
section
variable {X:Cx} {pins:List (Addr×Obj)} {σ:List (Option V)} {H H':Hp} {s:Shared} {h':Heap}
theorem Cx.Ok.nofr (ok:X.Ok){b:Addr}{o:Obj}(e:X.base.get? b=some o):b∉X.fs:=fun hb=>by
 have:=(ok.funs.mem hb).1
 rw[e] at this;cases this
theorem h7.bs (I:h7 X pins σ H s):∀b o,X.base.get? b=some o→s.heap.get? b=some o∧H b=none:=fun b o e=>
 ⟨I.base.keep b o (I.ok.bs b o e).1 (I.ok.bs b o e).2 (I.ok.nofr e) (I.ok.noex b o e),I.base.free b o (I.ok.bs b o e).1 (I.ok.bs b o e).2 (I.ok.noex b o e)⟩
theorem h7.bk (I:h7 X pins σ H s):∀b o,X.base.get? b=some o→s.heap.get? b=some o:=fun b o e=>(I.bs b o e).1
theorem h7.mod (I:h7 X pins σ H s):Mod X.K X.mg X.base:=I.ok.mod
theorem h7.kIn (I:h7 X pins σ H s):X.K.In s.heap:=I.ok.mod.kin.keeps I.bk
theorem h7.lt (I:h7 X pins σ H s):X.env.locals < s.heap.objs.size:=let ⟨_,hn,_⟩:=I.loc;hn.lt
theorem h7.sz (I:h7 X pins σ H s):X.s₀.heap.objs.size≤s.heap.objs.size:=dp4 I.ok.above (du2 I.lt)
theorem h7.nofs (I:h7 X pins σ H s){a:Addr}(h:s.heap.objs.size≤a):a∉X.fs:=fun hb=>by
 obtain ⟨_,o,ho,_⟩:=I.ok.funs.mem hb
 exact absurd (dt0 (Heap.lt_size ho) (dp4 I.sz h)) (dw8 _)
theorem h7.cne (I:h7 X pins σ H s):∀x c,X.env.cells.lookup x=some c→c≠X.env.locals:=fun x c e z=>by
 obtain ⟨v,o,ho,hd⟩:=I.cell x c e
 obtain ⟨m,⟨o',es,ep,ho',hd',_⟩,_⟩:=I.loc
 rw[z,ho'] at ho;cases ho;rw[hd'] at hd;cases hd
theorem h7.funs (I:h7 X pins σ H s):s.heap.FunFrames X.base X.outer:=by
 have all:∀(l:List Env),(∀b∈frs l,b∈X.fs)→X.s₀.heap.FunFrames X.base l→s.heap.FunFrames X.base l:=by
   intro l
   induction l with
   |nil=>intro _ _;trivial
   |cons env r ih=>
    intro hs hl
    obtain ⟨hk,⟨L,o,hf,hn,ho,hd⟩,hr⟩:=hl
    have hL:L∈X.fs:=hs L (by unfold frs;rw[ef9,hf];exact do3)
    obtain ⟨sl,e⟩:=I.base.slot L o ho (I.ok.frf L hL) hL fun z=>I.ok.exfs L z hL
    exact ⟨hk,⟨L,_,hf,hn,e,hd⟩,ih (fun b hb=>hs b (by unfold frs;rw[ef9,hf];exact do4 _ hb)) hr⟩
 exact all X.outer (fun _ hb=>hb) I.ok.funs
theorem h7.stack (I:h7 X pins σ H s):s.heap.FunFrames X.base X.stack:=by
 rcases I.ok.stk with e|⟨e,hf⟩
 · rw[e];exact I.funs
 · rw[e]
   obtain ⟨m,hn,_⟩:=I.loc
   refine .cons (by rw[I.ok.kind];decide) hf hn ?_ I.funs
   exact Heap.get?_none_of_le (dp4 I.ok.bsz I.ok.above)
theorem h7.stkSub (I:h7 X pins σ H s):∀b∈frs X.stack,b∈X.env.locals::X.fs:=fun b hb=>by
 rcases I.ok.stk with e|⟨e,hf⟩
 · rw[e] at hb;exact do4 _ hb
 · rw[e] at hb
   unfold frs at hb
   rw[ef9,hf] at hb
   exact hb
theorem h7.stkFree (I:h7 X pins σ H s):∀b∈frs X.stack,H b=none:=fun b hb=>by
 rcases dp7.mp (I.stkSub b hb) with e|hb
 · rw[e];exact I.free
 · obtain ⟨_,o,ho,_⟩:=I.ok.funs.mem hb
   exact I.base.free b o ho (I.ok.frf b hb) fun z=>I.ok.exfs b z hb
theorem h7.step {g':Array GenState}{t':Nat}{d':Drawn}{ch:List Addr}(I:h7 X pins σ H s)
   (hch:∀b∈ch,(b∈X.ex∨X.s₀.heap.objs.size≤b)∧b≠X.env.locals∧(∀x c,X.env.cells.lookup x=some c→c≠b)∧∀p∈X.pn++pins,p.1≠b)
   (keep:∀b o,b≠X.env.locals→b∉X.fs→b∉ch→s.heap.get? b=some o→H b=none→h'.get? b=some o)
   (slot:∀b o,b≠X.env.locals→b∈X.fs→b∉ch→s.heap.get? b=some o→H b=none→∃sl,h'.get? b=some {o with slots:=sl}) (free:∀b o,b∉ch→s.heap.get? b=some o→H b=none→H' b=none)
   (there:∀b o,b∉ch→s.heap.get? b=some o→∃o',h'.get? b=some o')
   (tups:∀b xs,H b=some (.tup xs)→H' b=some (.tup xs)) (frzs:∀b o u,H b=some (.frz o u)→H' b=some (.frz o u)) (tbls:∀b ps,H b=some (.tbl ps)→∃more,H' b=some (.tbl (ps++more)))
   (ns:∀m,s.heap.Ns X.env.locals m→h'.Ns X.env.locals m) (hok:G1 X.prog X.w H' h') (hg:AllBare g'):
   h7 X pins σ H' {s with heap:=h',gens:=g',drawn:=d',toks:=t'}:=by
 have neL:∀b o,X.s₀.heap.get? b=some o→b≠X.env.locals:=fun b o e=>dt1 (dt0 (Heap.lt_size e) I.ok.above)
 have neC:∀b o,X.s₀.heap.get? b=some o→b∉X.ex→b∉ch:=fun b o e hx hb=>by
   rcases (hch b hb).1 with z|z
   · exact hx z
   · exact absurd (dt0 (Heap.lt_size e) z) (dw8 _)
 have cellK:∀x c,X.env.cells.lookup x=some c→∀v,s.heap.IsCell c v→h'.IsCell c v:=fun x c e v ⟨o,ho,hd⟩=>by
   have nch:c∉ch:=fun z=>(hch c z).2.2.1 x c e rfl
   by_cases hc:c∈X.fs
   · obtain ⟨sl,q⟩:=slot c o (I.cne x c e) hc nch ho (I.freeC x c e)
     exact ⟨_,q,hd⟩
   · exact ⟨o,keep c o (I.cne x c e) hc nch ho (I.freeC x c e),hd⟩
 refine ⟨I.ok,I.os,hg,⟨fun b o e n hb hx=> ?_,fun b o e n hb hx=> ?_,fun b o e n hx=> ?_,fun b o e hx=> ?_,fun b xs e=>tups b xs (I.base.tups b xs e),fun b o xs e=>frzs b o xs (I.base.frzs b o xs e),fun b ps e=> ?_⟩,?_,fun x c e=> ?_,?_,fun x c e=> ?_,fun p hp=> ?_,hok,I.len⟩
 · exact keep b o (neL b o e) hb (neC b o e hx) (I.base.keep b o e n hb hx) (I.base.free b o e n hx)
 · obtain ⟨sl,e1⟩:=I.base.slot b o e n hb hx
   obtain ⟨sl',e2⟩:=slot b _ (neL b o e) hb (neC b o e hx) e1 (I.base.free b o e n hx)
   exact ⟨sl',e2⟩
 · obtain ⟨o',e1⟩:=I.base.there b o e hx
   exact free b o' (neC b o e hx) e1 (I.base.free b o e n hx)
 · obtain ⟨o',e1⟩:=I.base.there b o e hx
   exact there b o' (neC b o e hx) e1
 · obtain ⟨m1,e1⟩:=I.base.tbls b ps e
   obtain ⟨m2,e2⟩:=tbls b _ e1
   exact ⟨m1++m2,by rw[e2,Array.append_assoc]⟩
 · obtain ⟨m,hn,hl⟩:=I.loc
   refine ⟨m,ns m hn,fun i x v e1 e2 e3=> ?_⟩
   obtain ⟨u,r,l⟩:=hl i x v e1 e2 e3
   refine ⟨u,r,?_⟩
   rcases l with l|⟨k,c,e,z⟩
   · exact .inl l
   · exact .inr ⟨k,c,e,cellK x c e _ z⟩
 · obtain ⟨v,z⟩:=I.cell x c e
   exact ⟨v,cellK x c e v z⟩
 · obtain ⟨m,⟨o,_,_,ho,_⟩,_⟩:=I.loc
   exact free _ o (fun z=>(hch _ z).2.1 rfl) ho I.free
 · obtain ⟨v,o,ho,hd⟩:=I.cell x c e
   exact free c o (fun z=>(hch c z).2.2.1 x c e rfl) ho (I.freeC x c e)
 · obtain ⟨e,n,ne,nf,d⟩:=I.pin p hp
   have nch:p.1∉ch:=fun z=>(hch p.1 z).2.2.2 p hp rfl
   exact ⟨keep p.1 p.2 ne nf nch e n,free p.1 p.2 nch e n,ne,nf,d⟩
theorem h7.un {t':Nat}(I:h7 X pins σ H s)(u:Un X.fs [] H H' s.heap h')(hok:G1 X.prog X.w H' h'):h7 X pins σ H' {s with heap:=h',toks:=t'}:=by
 obtain ⟨m,⟨o,es,ep,ho,r⟩,_⟩:=id I.loc
 obtain ⟨sl,hL⟩:=u.any ho I.free (by simp)
 exact I.step (g':=s.gens) (d':=s.drawn) (ch:=[]) (fun _ z=>nomatch z) (fun b o _ hb _ e n=>u.keep b o e n hb (by simp)) (fun b o _ hb _ e n=>u.slot b o e n hb (by simp)) (fun b o _ e n=>u.free b o e n (by simp)) (fun b o _ e=>u.there b o e (by simp)) u.tups u.frzs u.tbls (fun m' hm=>by
   obtain ⟨o',es',ep',ho',r'⟩:=hm
   rw[ho] at ho';cases ho'
   exact ⟨_,es',ep',hL,r'⟩) hok I.bare
theorem h7.call {g':Array GenState}{t':Nat}{d':Drawn}{ch:List Addr}(I:h7 X pins σ H s)(u:Un (frs X.stack) ch H H' s.heap h')(hok:G1 X.prog X.w H' h')(hg:AllBare g')
   (hch:∀b∈ch,(b∈X.ex∨X.s₀.heap.objs.size≤b)∧b≠X.env.locals∧(∀x c,X.env.cells.lookup x=some c→c≠b)∧∀p∈X.pn++pins,p.1≠b):
   h7 X pins σ H' {s with heap:=h',gens:=g',drawn:=d',toks:=t'}:=by
 obtain ⟨m,⟨o,es,ep,ho,r⟩,_⟩:=id I.loc
 obtain ⟨sl,hL⟩:=u.any ho I.free fun z=>(hch _ z).2.1 rfl
 exact I.step (ch:=ch) hch (fun b o hL hb hc e n=>u.keep b o e n (fun z=>(dp7.mp (I.stkSub b z)).elim hL hb) hc) (fun b o _ _ hc e n=>u.any e n hc) (fun b o hc e n=>u.free b o e n hc) (fun b o hc e=>u.there b o e hc) u.tups u.frzs u.tbls (fun m' hm=>by
   obtain ⟨o',es',ep',ho',r'⟩:=hm
   rw[ho] at ho';cases ho'
   exact ⟨_,es',ep',hL,r'⟩) hok hg
theorem h7.turned {t':Nat}{it:Addr}(I:h7 X pins σ H s)(k:∀b o,b≠it→s.heap.get? b=some o→h'.get? b=some o)(hn:H it=none)(hL:it≠X.env.locals)
   (h1:it∈X.ex∨X.s₀.heap.objs.size≤it) (h2:∀x c,X.env.cells.lookup x=some c→c≠it) (h3:∀p∈X.pn++pins,p.1≠it):h7 X pins σ H {s with heap:=h',toks:=t'}:=by
 have nit:∀b u,H b=some u→b≠it:=fun b u e z=>by rw[z,hn] at e;cases e
 refine I.step (g':=s.gens) (d':=s.drawn) (ch:=[it]) (fun b hb=> ?_) (fun b o _ _ hc e _=>k b o (fun z=>hc (by simp [z])) e) (fun b o _ _ hc e _=>⟨o.slots,k b o (fun z=>hc (by simp [z])) e⟩) (fun _ _ _ _ n=>n)
   (fun b o hc e=>⟨o,k b o (fun z=>hc (by simp [z])) e⟩) (fun _ _ e=>e) (fun _ _ _ e=>e) (fun b ps e=>⟨#[],by rw[e];simp⟩) (fun m hm=> ?_) (fun b u e=> ?_) I.bare
 · have e:b=it:=by simpa using hb
   subst e
   exact ⟨h1,hL,h2,h3⟩
 · obtain ⟨o,es,ep,ho,r⟩:=hm
   exact ⟨o,es,ep,k _ o (Ne.symm hL) ho,r⟩
 · refine (I.hok b u e).stay (fun c v hc q=>k c v ?_ q) (fun _ q=>q) fun _ _ q=>q
   rcases hc with z|z
   · rw[z];exact nit b u e
   · exact nit c _ z
theorem h7.tok (I:h7 X pins σ H s)(t:Nat):h7 X pins σ H {s with toks:=t}:=I.un (h':=s.heap) (t':=t) Un.refl I.hok
theorem h7.kept {t':Nat}(I:h7 X pins σ H s)(k:∀b u,s.heap.get? b=some u→h'.get? b=some u):h7 X pins σ H {s with heap:=h',toks:=t'}:=I.un (Un.kept k) (I.hok.kept k)
theorem h7.laid {a:Addr}{o:HO}{t':Nat}(I:h7 X pins σ H s)(k:∀b u,s.heap.get? b=some u→h'.get? b=some u)(hp:s.heap.objs.size≤a)(new:r6 X.prog X.w (c9 H a o) h' a o):
 h7 X pins σ (c9 H a o) {s with heap:=h',toks:=t'}:=I.un (Un.laid k hp (I.hok.fresh hp)) (I.hok.laid k hp new)
theorem h7.write {x e:Addr}{o:HO}{t':Nat}(I:h7 X pins σ H s)(mu:Mut (H x))(he:e=x∨H e=some (.own x))(k:∀b u,b≠e→s.heap.get? b=some u→h'.get? b=some u)(heo:∃u,h'.get? e=some u)
 (new:r6 X.prog X.w (c9 H x o) h' x o):h7 X pins σ (c9 H x o) {s with heap:=h',toks:=t'}:=I.un (Un.write mu he k heo) (I.hok.write mu he k heo new)
theorem h7.pins_of {pins':List (Addr×Obj)}(I:h7 X pins σ H s)(h:∀p∈pins',s.heap.get? p.1=some p.2∧H p.1=none∧p.1≠X.env.locals∧p.1∉X.fs∧∀v,p.2.data≠.cell v):h7 X pins' σ H s:=
 ⟨I.ok,I.os,I.bare,I.base,I.loc,I.cell,I.free,I.freeC,fun p hp=>(dp3.mp hp).elim (fun z=>I.pin p (dt5 _ z)) (h p),I.hok,I.len⟩
theorem bi0 {N:List Str}(hN:N.Nodup){i j:Nat}{x:Str}(a:N[i]? =some x)(b:N[j]? =some x):i=j:=by
 obtain ⟨h1,e1⟩:=do0.mp a
 obtain ⟨h2,e2⟩:=do0.mp b
 exact (List.getElem_inj hN).mp (e1.trans e2.symm)
theorem bd2 {M:Model}{A:Around}{E:Value→Shared→Prop}{i:Nat}{x:Str}{v:V}{u:Value}{Q:Unit→Shared→Prop}(I:h7 X pins σ H s)(hN:X.N.Nodup)(hi:X.N[i]? =some x)(hx:Loc X.env.scope x)(r:n6 v u)
   (h:∀s',h7 X pins (σ.set i (some v)) H s'→(∃a,Heap.SameBut a s.heap s'.heap∧(a=X.env.locals∨X.env.cells.lookup x=some a))→Q () s') (hf:X.fn x=true∨X.env.scope.names.lookup x=some .local:=by first|exact .inl rfl|exact .inr rfl|assumption):wpAny M A (storeName X.env x u) Q E s:=by
 obtain ⟨m,hn,hl⟩:=id I.loc
 have hcls:(X.env.scope.kind== .class||(X.env.scope.kind== .module&&X.env.locals !=X.env.globals))=false:=by rw[I.ok.kind];rfl
 have hiσ:i < σ.length:=by rw[I.len];exact (do0.mp hi).1
 have cne:=I.cne
 have tracked:∀{a:Addr} {h':Heap},(∃o,s.heap.get? a=some o∧H a=none)→Heap.SameBut a s.heap h'→G1 X.prog X.w H h':=fun {a h'} ha hs b ob e=>by
   obtain ⟨_,_,hfree⟩:=ha
   refine (I.hok b ob e).stay (fun c w' hc q=>(hs.2 c ?_).trans q) (fun _ q=>q) fun _ _ q=>q
   rintro rfl
   rcases hc with rfl|hc
   · rw[hfree] at e;cases e
   · rw[hfree] at hc;cases hc
 rcases hx with hk|hk
 · refine wpAny_storeName_local hk hn (fun h' hn' hs=> ?_) hcls
   obtain ⟨oL,_,_,hoL,_⟩:=id hn
   refine h _ ⟨I.ok,I.os,I.bare,⟨fun b o e n hb hx=> ?_,fun b o e n hb hx=> ?_,I.base.free,fun b o e hx=> ?_,I.base.tups,I.base.frzs,I.base.tbls⟩,⟨_,hn',fun j y v' e1 e2 e3=> ?_⟩,fun y c e=> ?_,I.free,I.freeC,fun p hp=> ?_,tracked ⟨oL,hoL,I.free⟩ hs,by simpa using I.len⟩ ⟨_,hs,.inl rfl⟩
   · exact (hs.2 b (dt1 (dt0 (Heap.lt_size e) I.ok.above))).trans (I.base.keep b o e n hb hx)
   · obtain ⟨sl,e1⟩:=I.base.slot b o e n hb hx
     exact ⟨sl,(hs.2 b (dt1 (dt0 (Heap.lt_size e) I.ok.above))).trans e1⟩
   · obtain ⟨o',e1⟩:=I.base.there b o e hx
     exact ⟨o',(hs.2 b (dt1 (dt0 (Heap.lt_size e) I.ok.above))).trans e1⟩
   · by_cases hj:j=i
     · subst hj
       rw[hi] at e1;cases e1
       rw[ed8 hiσ] at e2
       cases e2
       exact ⟨u,r,.inl ⟨hk,by simp⟩⟩
     · rw[ee9 (Ne.symm hj)] at e2
       obtain ⟨u',r',q⟩:=hl j y v' e1 e2 e3
       refine ⟨u',r',?_⟩
       rcases q with ⟨k,e⟩|⟨k,c,e,z⟩
       · refine .inl ⟨k,?_⟩
         have:y≠x:=fun e=>hj (bi0 hN e1 (e▸hi))
         simp [this,e]
       · exact .inr ⟨k,c,e,z.sameBut hs (cne y c e)⟩
   · obtain ⟨w',z⟩:=I.cell y c e
     exact ⟨w',z.sameBut hs (cne y c e)⟩
   · obtain ⟨e,n,ne,nf,d⟩:=I.pin p hp
     exact ⟨(hs.2 p.1 ne).trans e,n,ne,nf,d⟩
 · have hfn:X.fn x=true:=by
     rcases hf with z|z
     · exact z
     · rw[z] at hk;cases hk
   obtain ⟨c,hc⟩:=I.ok.has x (.inl hk)
   obtain ⟨w',z⟩:=I.cell x c hc
   refine wpAny_storeName_cell I.ok.kind hk hc z (fun h' hc' hs=> ?_)
   obtain ⟨oc,hoc,hocd⟩:=id z
   refine h {s with heap:=h'} ⟨I.ok,I.os,I.bare,⟨fun b o e n hb hx=> ?_,fun b o e n hb hx=> ?_,I.base.free,fun b o e hx=> ?_,I.base.tups,I.base.frzs,I.base.tbls⟩,⟨m,hn.sameBut hs (Ne.symm (cne x c hc)),fun j y v' e1 e2 e3=> ?_⟩,fun y c' e=> ?_,I.free,I.freeC,fun p hp=> ?_,tracked ⟨oc,hoc,I.freeC x c hc⟩ hs,by simpa using I.len⟩ ⟨c,hs,.inr hc⟩
   · exact (hs.2 b (dt1 (dt0 (Heap.lt_size e) (I.ok.cab x c hfn hc)))).trans (I.base.keep b o e n hb hx)
   · obtain ⟨sl,e1⟩:=I.base.slot b o e n hb hx
     exact ⟨sl,(hs.2 b (dt1 (dt0 (Heap.lt_size e) (I.ok.cab x c hfn hc)))).trans e1⟩
   · obtain ⟨o',e1⟩:=I.base.there b o e hx
     exact ⟨o',(hs.2 b (dt1 (dt0 (Heap.lt_size e) (I.ok.cab x c hfn hc)))).trans e1⟩
   · by_cases hj:j=i
     · subst hj
       rw[hi] at e1;cases e1
       rw[ed8 hiσ] at e2
       cases e2
       exact ⟨u,r,.inr ⟨.inl hk,c,hc,hc'⟩⟩
     · rw[ee9 (Ne.symm hj)] at e2
       obtain ⟨u',r',q⟩:=hl j y v' e1 e2 e3
       refine ⟨u',r',?_⟩
       rcases q with q|⟨k,c',e,z'⟩
       · exact .inl q
       · refine .inr ⟨k,c',e,z'.sameBut hs ?_⟩
         rintro rfl
         exact hj (bi0 hN e1 (I.ok.inj _ _ _ e hc▸hi))
   · by_cases hcc:c'=c
     · subst hcc;exact ⟨_,hc'⟩
     · obtain ⟨w2,z2⟩:=I.cell y c' e
       exact ⟨w2,z2.sameBut hs hcc⟩
   · obtain ⟨e,n,ne,nf,d⟩:=I.pin p hp
     refine ⟨(hs.2 p.1 ?_).trans e,n,ne,nf,d⟩
     intro q
     rw[q,hoc] at e
     have q':oc=p.2:=Option.some.inj e
     exact d w' (by rw[←q'];exact hocd)
theorem bi1 {M:Model}{A:Around}{E:Value→Shared→Prop}{i:Nat}{x:Str}{v:V}{u:Value}{Q:Unit→Shared→Prop}(I:h7 X pins σ H s)(hN:X.N.Nodup)(hi:X.N[i]? =some x)(hx:Loc X.env.scope x)(r:n6 v u)
   (h:∀s',h7 X pins (σ.set i (some v)) H s'→Q () s') (hf:X.fn x=true∨X.env.scope.names.lookup x=some .local:=by first|exact .inl rfl|exact .inr rfl|assumption):wpAny M A (storeName X.env x u) Q E s:=
 bd2 I hN hi hx r (fun s' I' _=>h s' I') hf
theorem h7.call' {s':Shared}{ch:List Addr}(I:h7 X pins σ H s)(ho:s'.os=s.os)(u:Un (frs X.stack) ch H H' s.heap s'.heap)(hok:G1 X.prog X.w H' s'.heap)(hg:AllBare s'.gens)
   (hch:∀b∈ch,(b∈X.ex∨X.s₀.heap.objs.size≤b)∧b≠X.env.locals∧(∀x c,X.env.cells.lookup x=some c→c≠b)∧∀p∈X.pn++pins,p.1≠b):h7 X pins σ H' s':=by
 obtain ⟨h',g',d',t',o'⟩:=s'
 have e:o'=s.os:=ho
 subst e
 exact I.call (g':=g') (t':=t') (d':=d') u hok hg hch
end
abbrev XK:=Value→Option Addr→Hp→Prop
abbrev St:=List (Option V)
abbrev VK:=V→Hp→Prop
abbrev TE:=St→Hp→VK→Prop
abbrev TT:=St→Hp→(Bool→Hp→Prop)→Prop
abbrev TA:=St→Hp→(List V→Hp→Prop)→Prop
structure Y8 where
 nx:St→Hp→Prop
 rt:VK
 bk:St→Hp→Prop:=fun _ _=>False
 ct:St→Hp→Prop:=fun _ _=>False
abbrev TS:=Y8→St→Hp→Prop
def EP (X:Cx)(pins:List (Addr×Obj))(σ:St)(Q:VK)(u:Value)(s':Shared):Prop:=∃v H',h7 X pins σ H' s'∧n6 v u∧Q v H'
def TP (X:Cx)(pins:List (Addr×Obj))(σ:St)(Q:Bool→Hp→Prop)(b:Bool)(s':Shared):Prop:=∃H',h7 X pins σ H' s'∧Q b H'
def AP (X:Cx)(pins:List (Addr×Obj))(σ:St)(Q:List V→Hp→Prop)(us:List Value)(s':Shared):Prop:=∃vs H',h7 X pins σ H' s'∧j9 vs us∧Q vs H'
def SP (X:Cx)(pins:List (Addr×Obj))(D:Y8)(f:Flow)(s':Shared):Prop:=
 match f with
 | .next=>∃σ' H',h7 X pins σ' H' s'∧D.nx σ' H'
 | .brk=>∃σ' H',h7 X pins σ' H' s'∧D.bk σ' H'
 | .cont=>∃σ' H',h7 X pins σ' H' s'∧D.ct σ' H'
 | .ret u=>∃v σ' H',h7 X pins σ' H' s'∧n6 v u∧D.rt v H'
def PE (X:Cx)(e:Expr)(t:TE):Prop:=
 ∀(pins:List (Addr×Obj)) (s:Shared) (σ:St) (H:Hp) (Q:VK),h7 X pins σ H s→t σ H Q→wpAny (model X.prog X.w) X.A (eval e X.env) (EP X pins σ Q) X.xe s
def PT (X:Cx)(e:Expr)(t:TT):Prop:=
 ∀(pins:List (Addr×Obj)) (s:Shared) (σ:St) (H:Hp) (Q:Bool→Hp→Prop),h7 X pins σ H s→t σ H Q→wpAny (model X.prog X.w) X.A (isTrue e X.env (eval e X.env)) (TP X pins σ Q) X.xe s
def PW (X:Cx)(e:Expr)(t:TT):Prop:=
 ∀(whole:Sem Value) (pins:List (Addr×Obj)) (s:Shared) (σ:St) (H:Hp) (Q:Bool→Hp→Prop),h7 X pins σ H s→t σ H Q→wpAny (model X.prog X.w) X.A (isTrue e X.env whole) (TP X pins σ Q) X.xe s
theorem PW.pt {X:Cx}{e:Expr}{t:TT}(h:PW X e t):PT X e t:=h _
def PA (X:Cx)(es:List Expr)(t:TA):Prop:=
 ∀(pos:Pos) (pins:List (Addr×Obj)) (s:Shared) (σ:St) (H:Hp) (Q:List V→Hp→Prop),h7 X pins σ H s→t σ H Q→wpAny (model X.prog X.w) X.A (spliced (backTo pos (starEach es X.env))) (AP X pins σ Q) X.xe s
def PS (X:Cx)(st:Stmt)(t:TS):Prop:=
 ∀(pins:List (Addr×Obj)) (s:Shared) (σ:St) (H:Hp) (D:Y8),h7 X pins σ H s→t D σ H→wpAny (model X.prog X.w) X.A (exec st X.env) (SP X pins D) X.xe s
def PSs (X:Cx)(st:List Stmt)(t:TS):Prop:=
 ∀(pins:List (Addr×Obj)) (s:Shared) (σ:St) (H:Hp) (D:Y8),h7 X pins σ H s→t D σ H→wpAny (model X.prog X.w) X.A (execs st X.env) (SP X pins D) X.xe s
theorem o5 {α:Type}{t:Sem α}{Q Q':α→Shared→Prop}{M:Model}{A:Around}{E:Value→Shared→Prop}{s:Shared}(h:wpAny M A t Q E s)(hQ:∀a s,Q a s→Q' a s):wpAny M A t Q' E s:=wpAny_mono h hQ fun _ _ x=>x
end L2
namespace L2
open PySem PySem.Spec PyProof.Rows
section
variable {X:Cx}
theorem bin {a b:Expr}{ta tb:TE}(ha:PE X a ta)(hb:PE X b tb){pins:List (Addr×Obj)}{s:Shared}{σ:St}{H:Hp}{R:V→V→Hp→Prop}(I:h7 X pins σ H s)(h:ta σ H fun x H1=>tb σ H1 fun y H2=>R x y H2)
   {α:Type} {Q:α→Shared→Prop} {f:Value→Value→Sem α}
   (hf:∀v u s2 x y H2,h7 X pins σ H2 s2→n6 x v→n6 y u→R x y H2→wpAny (model X.prog X.w) X.A (f v u) Q X.xe s2):
   wpAny (model X.prog X.w) X.A (eval a X.env) (fun v s₁=>wpAny (model X.prog X.w) X.A (eval b X.env) (fun u s₂=>wpAny (model X.prog X.w) X.A (f v u) Q X.xe s₂) X.xe s₁) X.xe s:=by
 refine o5 (ha pins s σ H _ I h) fun v s1 ⟨x,H1,I1,r1,q1⟩=> ?_
 refine o5 (hb pins s1 σ H1 _ I1 q1) fun u s2 ⟨y,H2,I2,r2,q2⟩=> ?_
 exact hf v u s2 x y H2 I2 r1 r2 q2
def cy2 (i:Nat):TE:=fun σ H Q=>∃v,σ[i]? =some (some v)∧Q v H
def tC (v:V):TE:=fun _ H Q=>Q v H
theorem cy3 {i:Nat}{x:Str}{pos:Pos}(hN:X.N[i]? =some x)(hv:Vis X.env.scope x)(hd:(x==("__debug__":Str))=false:=by decide)(hcd:(x==("__classdict__":Str))=false:=by decide):PE X (.Name x pos) (cy2 i):=by
 intro pins s σ H Q I h
 obtain ⟨v,e,h⟩:=h
 obtain ⟨m,hn,hl⟩:=I.loc
 obtain ⟨u,r,l⟩:=hl i x v hN e hv
 have fin:EP X pins σ Q u s:=⟨v,H,I,r,h⟩
 rcases l with ⟨hk,hm⟩|⟨hk,c,hc,hcell⟩
 · exact wpAny_Name (wpAny_loadName_local I.ok.kind hk hn hm fin) hd
 · rcases hk with hk|hk
   · exact wpAny_Name (wpAny_loadName_cell I.ok.kind hk hc hcell fin) hd
   · exact wpAny_Name (wpAny_loadName_free I.ok.kind hk hc hcell fin hcd) hd
theorem i6 {i j pos}:PE X (.Constant (.int i) j pos) (tC (.int i)):=fun _ _ _ H _ I h=>wpAny_Constant_int ⟨.int i,H,I.tok _,⟨_,rfl⟩,h⟩
theorem K0 {b j pos}:PE X (.Constant (.bool b) j pos) (tC (.bl b)):=fun _ _ _ H _ I h=>Constant_bool ⟨.bl b,H,I,rfl,h⟩
theorem bi2 {x j pos}:PE X (.Constant (.str x) j pos) (tC (.str x)):=fun _ _ _ H _ I h=>Calls.Constant_str ⟨.str x,H,I.tok _,⟨_,rfl⟩,h⟩
def Gl (X:Cx)(x:Str):Prop:=X.env.kindOf x=some .globalImplicit
theorem bs5 {E:Value→Shared→Prop}{pins:List (Addr×Obj)}{s:Shared}{σ:St}{H:Hp}{x:Str}{u:Value}{pos:Pos}{Q:Value→Shared→Prop}(I:h7 X pins σ H s)(hg:Gl X x)(hm:X.mg x=some u)(h:Q u s)
   (hd:(x==("__debug__":Str))=false:=by decide):wpAny (model X.prog X.w) X.A (eval (.Name x pos) X.env) Q E s:=
 Calls.Name_function_global I.ok.kind hg (Calls.loadGlobal_global (by rw[I.ok.glob];exact I.mod.glob.keeps I.bk) hm h) hd
theorem Y9 {E:Value→Shared→Prop}{pins:List (Addr×Obj)}{s:Shared}{σ:St}{H:Hp}{x:Str}{u:Value}{pos:Pos}{Q:Value→Shared→Prop}(I:h7 X pins σ H s)(hg:Gl X x)(hm:X.mg x=none)(hv:bootBuiltins x=some u)(h:Q u s)
   (hn:x≠"__name__":=by decide) (hd:(x==("__debug__":Str))=false:=by decide):wpAny (model X.prog X.w) X.A (eval (.Name x pos) X.env) Q E s:=by
 obtain ⟨mb,h1,h2⟩:=I.mod.blt
 exact Calls.Name_function_global I.ok.kind hg (Calls.loadGlobal_builtin (by rw[I.ok.glob];exact I.mod.glob.keeps I.bk) hm (by rw[I.ok.blt];exact h1.keeps I.bk) ((h2 x hn).trans hv) h) hd
theorem bs6 {x:Str}{v:V}{u:Value}{pos:Pos}(hg:Gl X x)(hm:X.mg x=some u)(r:n6 v u)(hd:(x==("__debug__":Str))=false:=by decide):PE X (.Name x pos) (tC v):=
 fun _ _ _ H _ I h=>bs5 I hg hm ⟨v,H,I,r,h⟩ hd
theorem az2 {x:Str}{v:V}{u:Value}{pos:Pos}(hg:Gl X x)(hm:X.mg x=none)(hv:bootBuiltins x=some u)(r:n6 v u)(hn:x≠"__name__":=by decide)(hd:(x==("__debug__":Str))=false:=by decide):PE X (.Name x pos) (tC v):=
 fun _ _ _ H _ I h=>Y9 I hg hm hv ⟨v,H,I,r,h⟩ hn hd
variable {a b:Expr} {ta tb:TE} {pos:Pos}
def PC (X:Cx)(op:CmpOp)(a b:Expr)(t:TE):Prop:=
 ∀(pins:List (Addr×Obj)) (s:Shared) (σ:St) (H:Hp) (Q:VK),h7 X pins σ H s→t σ H Q→
  wpAny (model X.prog X.w) X.A (eval a X.env) (fun v s₁=>wpAny (model X.prog X.w) X.A (eval b X.env) (fun u s₂=>wpAny (model X.prog X.w) X.A (compareOp op v u) (EP X pins σ Q) X.xe s₂) X.xe s₁) X.xe s
def tB (t:TE):TT:=fun σ H Q=>t σ H fun x H1=>∃c,x= .bl c∧Q c H1
theorem cc3 {op:CmpOp}{t:TE}(h:PC X op a b t)(h1:behindInMarks op b=false:=by first|exact nobehind _ (by decide) (by decide)|rfl):PT X (.Compare a [op] [b] pos) (tB t):=by
 intro pins s σ H Q I hw
 refine wpAny_isTrue_Compare1 (o5 (h pins s σ H _ I hw) fun v s1 h1=>o5 h1 fun u s2 h2=>o5 h2 fun c s3 ⟨x,H1,I1,r1,q1⟩=> ?_) h1
 obtain ⟨d,rfl,q⟩:=q1
 cases r1
 exact wpAny_truthy_bool ⟨H1,I1,q⟩
theorem Q4 {e:Expr}{t:TE}(h:PE X e t)(he:∀whole,isTrue e X.env whole=(do let v ←whole;standAt e.pos;holding [v] (truthy v)):=by intro _;rfl):PT X e (tB t):=by
 intro pins s σ H Q I hw
 refine isTrue_plain (o5 (h pins s σ H _ I hw) fun v s1 ⟨x,H1,I1,r1,q1⟩=> ?_) (he _)
 obtain ⟨d,rfl,q⟩:=q1
 cases r1
 exact wpAny_truthy_bool ⟨H1,I1,q⟩
variable {tA tB':TT} {rest:List Expr}
def dj6 (t u:TT):TT:=fun σ H Q=>t σ H fun c H1=>if c=true then u σ H1 Q else Q false H1
def tOr (t u:TT):TT:=fun σ H Q=>t σ H fun c H1=>if c=true then Q true H1 else u σ H1 Q
def dj7 (t:TT):TT:=fun σ H Q=>t σ H fun c H1=>Q (!c) H1
theorem cs1 (ha:PT X a tA):PW X (.BoolOp .And [a] pos) tA:=by
 intro wh pins s σ H Q I h
 refine isTrue_and (o5 (ha pins s σ H Q I h) fun c s1 e=> ?_)
 cases c with
 |true=>exact isTrue_and_nil e
 |false=>exact e
theorem V6 (ha:PT X a tA):PW X (.BoolOp .Or [a] pos) tA:=by
 intro wh pins s σ H Q I h
 refine isTrue_or (o5 (ha pins s σ H Q I h) fun c s1 e=> ?_)
 cases c with
 |false=>exact isTrue_or_nil e
 |true=>exact e
theorem cy4 (ha:PT X a tA)(hb:PW X (.BoolOp .And (b::rest) pos) tB'):PW X (.BoolOp .And (a::b::rest) pos) (dj6 tA tB'):=by
 intro wh pins s σ H Q I h
 refine isTrue_and (o5 (ha pins s σ H _ I h) fun c s1 ⟨H1,I1,q1⟩=> ?_)
 cases c with
 |true=>exact hb wh pins s1 σ H1 Q I1 q1
 |false=>exact ⟨H1,I1,q1⟩
theorem R0 (ha:PT X a tA)(hb:PW X (.BoolOp .Or (b::rest) pos) tB'):PW X (.BoolOp .Or (a::b::rest) pos) (tOr tA tB'):=by
 intro wh pins s σ H Q I h
 refine isTrue_or (o5 (ha pins s σ H _ I h) fun c s1 ⟨H1,I1,q1⟩=> ?_)
 cases c with
 |true=>exact ⟨H1,I1,q1⟩
 |false=>exact hb wh pins s1 σ H1 Q I1 q1
theorem Q5 (ha:PT X a tA):PT X (.UnaryOp .Not a pos) (dj7 tA):=by
 intro pins s σ H Q I h
 exact isTrue_not (ha pins s σ H (fun c H1=>Q (!c) H1) I h)
def de7 (ta tb:TE):TE:=fun σ H Q=>ta σ H fun x H1=>∃c,x= .bl c∧if c=true then tb σ H1 Q else Q (.bl false) H1
def de8 (ta:TE):TE:=fun σ H Q=>ta σ H fun x H1=>∃c,x= .bl c∧Q (.bl (!c)) H1
theorem cy5 {op}{t:TE}(h:PE X a t):PE X (.BoolOp op [a] pos) t:=fun pins s σ H Q I hw=>BoolOp_one (h pins s σ H Q I hw)
theorem cy6 (ha:PE X a ta)(hb:PE X (.BoolOp .And (b::rest) pos) tb):PE X (.BoolOp .And (a::b::rest) pos) (de7 ta tb):=by
 intro pins s σ H Q I h
 refine BoolOp_and (o5 (ha pins s σ H _ I h) fun v s1 ⟨x,H1,I1,r1,q1⟩=> ?_)
 obtain ⟨c,rfl,q1⟩:=q1
 cases r1
 refine wpAny_truthy_bool ?_
 cases c with
 |true=>exact hb pins s1 σ H1 Q I1 q1
 |false=>exact ⟨.bl false,H1,I1,rfl,q1⟩
theorem cy7 (ha:PE X a ta):PE X (.UnaryOp .Not a pos) (de8 ta):=by
 intro pins s σ H Q I h
 refine UnaryOp_ (o5 (ha pins s σ H _ I h) fun v s1 ⟨x,H1,I1,r1,q1⟩=> ?_)
 obtain ⟨c,rfl,q1⟩:=q1
 cases r1
 exact not_of (wpAny_truthy_bool ⟨.bl (!c),H1,I1,rfl,q1⟩)
end
end L2
namespace L2
open PySem PySem.Spec PyProof.Rows
def g9 (K:PySem.W.Frag)(H:Hp)(a:Addr)(xs:List V):Prop:=
 Rd H a (.lst xs)∨
   ∃(o:Obj) (its:Array Value) (n:Nat),K.lookup a=some o∧o.cls= .type "list"∧o.dict=none∧o.data= .seq its n∧its.size≤sizeLine∧j9 xs its.toList
def Q6 (K:PySem.W.Frag)(H:Hp)(a:Addr)(xs:List V):Prop:=
 Rd H a (.tup xs)∨
   ∃(o:Obj) (its:Array Value) (n:Nat),K.lookup a=some o∧o.cls= .type "tuple"∧o.data= .seq its n∧its.size≤sizeLine∧j9 xs its.toList
def dj8:Value→Option V
 | .none=>some .non
 | .bool b=>some (.bl b)
 | .int i _=>some (.int i)
 | .str x _=>some (.str x)
 | .bytes b _=>some (.byt b)
 | .float b _=>some (.flt b)
 | .ref a=>some (.ref a)
 | .type n=>some (.ty n)
 |_=>none
theorem n6.abs {x:V}{u:Value}(r:n6 x u):dj8 u=some x:=by
 cases x with
 |non=>cases r;rfl
 |bl _=>cases r;rfl
 |int _=>obtain ⟨t,rfl⟩:=r;rfl
 |str _=>obtain ⟨t,rfl⟩:=r;rfl
 |byt _=>obtain ⟨t,rfl⟩:=r;rfl
 |flt _=>obtain ⟨t,rfl⟩:=r;rfl
 |ref _=>cases r;rfl
 |ty _=>cases r;rfl
theorem n6.inj {x y:V}{u:Value}(r:n6 x u)(q:n6 y u):x=y:=Option.some.inj (r.abs.symm.trans q.abs)
theorem j9.inj:∀{xs ys:List V} {us:List Value},j9 xs us→j9 ys us→xs=ys
 |_,_,_,.nil,.nil=>rfl
 |_,_,_,.cons r t,.cons r' t'=>by rw[r.inj r',j9.inj t t']
section
variable {X:Cx} {pins:List (Addr×Obj)} {σ:St} {H:Hp} {s:Shared} {a:Addr} {xs ys:List V}
theorem g9.of {K:PySem.W.Frag}(h:H a=some (.lst xs)):g9 K H a xs:= .inl (.inl h)
theorem Q6.of {K:PySem.W.Frag}(h:H a=some (.tup xs)):Q6 K H a xs:= .inl (.inl h)
theorem h7.list (I:h7 X pins σ H s)(h:g9 X.K H a xs):∃its:List Value,j9 xs its∧PlainL s.heap a its.toArray∧xs.length≤sizeLine:=by
 rcases h with h|⟨o,its,n,hk,hc,hd,hs,hz,r⟩
 · obtain ⟨z,its,n,r,e⟩:=h.ok I.hok
   exact ⟨its,r,⟨_,n,e,rfl,rfl,rfl⟩,z⟩
 · refine ⟨its.toList,r,⟨o,n,I.kIn a o hk,hc,hd,by simpa using hs⟩,?_⟩
   have e:=r.length
   simp only[dq0] at e
   omega
theorem h7.tuple (I:h7 X pins σ H s)(h:Q6 X.K H a xs):∃its:List Value,j9 xs its∧IsTup s.heap a its.toArray∧xs.length≤sizeLine:=by
 rcases h with h|⟨o,its,n,hk,hc,hs,hz,r⟩
 · obtain ⟨z,its,r,p⟩:=h.ok I.hok
   exact ⟨its,r,p,z⟩
 · refine ⟨its.toList,r,⟨o,I.kIn a o hk,hc,n,by simpa using hs⟩,?_⟩
   have e:=r.length
   simp only[dq0] at e
   omega
theorem h7.list_inj (I:h7 X pins σ H s)(h:g9 X.K H a xs)(h':g9 X.K H a ys):xs=ys:=by
 obtain ⟨its,r,⟨o,n,e,_,_,d⟩,_⟩:=I.list h
 obtain ⟨its',r',⟨o',n',e',_,_,d'⟩,_⟩:=I.list h'
 rw[e] at e';cases e'
 rw[d] at d'
 injection d' with d1 _
 have:its=its':=by simpa using congrArg du8 d1
 subst this
 exact r.inj r'
end
abbrev Cx.wish (X:Cx)(E:Value→Shared→Prop):Cx:={X with xe:=E}
abbrev Cx.nox (X:Cx):Cx:=X.wish fun _ _=>False
theorem Cx.Ok.wish {X:Cx}(ok:X.Ok)(E:Value→Shared→Prop):(X.wish E).Ok:=
 ⟨ok.mod,ok.kind,ok.glob,ok.blt,ok.above,ok.inj,ok.has,ok.cab,ok.hd,ok.frames,ok.stk,ok.exf,ok.bs,ok.bsz,ok.noex,ok.exfs,ok.funs,ok.frf⟩
theorem Cx.Ok.unwish {X:Cx}{E:Value→Shared→Prop}(ok:(X.wish E).Ok):X.Ok:=
 ⟨ok.mod,ok.kind,ok.glob,ok.blt,ok.above,ok.inj,ok.has,ok.cab,ok.hd,ok.frames,ok.stk,ok.exf,ok.bs,ok.bsz,ok.noex,ok.exfs,ok.funs,ok.frf⟩
section
variable {X:Cx} {pins:List (Addr×Obj)} {σ:St} {H:Hp} {s:Shared} {E:Value→Shared→Prop}
theorem h7.wish (I:h7 X pins σ H s)(E:Value→Shared→Prop):h7 (X.wish E) pins σ H s:=⟨I.ok.wish E,I.os,I.bare,I.base,I.loc,I.cell,I.free,I.freeC,I.pin,I.hok,I.len⟩
theorem h7.unwish (I:h7 (X.wish E) pins σ H s):h7 X pins σ H s:=⟨I.ok.unwish,I.os,I.bare,I.base,I.loc,I.cell,I.free,I.freeC,I.pin,I.hok,I.len⟩
theorem SP.unwish {D:Y8}{f:Flow}{s':Shared}(h:SP (X.wish E) pins D f s'):SP X pins D f s':=by
 cases f with
 |next=>obtain ⟨σ',H',I,q⟩:=h;exact ⟨σ',H',I.unwish,q⟩
 |brk=>obtain ⟨σ',H',I,q⟩:=h;exact ⟨σ',H',I.unwish,q⟩
 |cont=>obtain ⟨σ',H',I,q⟩:=h;exact ⟨σ',H',I.unwish,q⟩
 |ret u=>obtain ⟨v,σ',H',I,r,q⟩:=h;exact ⟨v,σ',H',I.unwish,r,q⟩
theorem PSs.nox {st:List Stmt}{t:TS}(h:PSs X.nox st t):PSs X st t:=fun pins s σ H D I hw=>
 wpAny_mono (h pins s σ H D (I.wish _) hw) (fun _ _ q=>q.unwish) fun _ _ z=>False.elim z
end
section
variable {X:Cx} {st:Stmt} {rest:List Stmt} {t u:TS} {e:Expr} {te:TE} {pos:Pos}
def de9:TS:=fun D σ H=>D.nx σ H
def dj9 (t u:TS):TS:=fun D σ H=>t {D with nx:=u D} σ H
theorem p8:PSs X [] de9:=fun _ _ σ H _ I h=>wpAny_execs_nil ⟨σ,H,I,h⟩
theorem c7 (h1:PS X st t)(h2:PSs X rest u):PSs X (st::rest) (dj9 t u):=by
 intro pins s σ H D I h
 refine wpAny_execs_cons (o5 (h1 pins s σ H {D with nx:=u D} I h) fun f s1 q=> ?_)
 cases f with
 |next=>
  obtain ⟨σ',H',I',q⟩:=q
  exact h2 pins s1 σ' H' D I' q
 |ret v=>exact q
 |brk=>exact q
 |cont=>exact q
theorem e7 (h1:PS X st t):PSs X [st] t:=by
 intro pins s σ H D I h
 refine wpAny_execs_cons (o5 (h1 pins s σ H D I h) fun f s1 q=> ?_)
 cases f with
 |next=>exact wpAny_execs_nil q
 |ret v=>exact q
 |brk=>exact q
 |cont=>exact q
theorem h7.quiet {pins:List (Addr×Obj)}{σ:St}{H:Hp}{s:Shared}(I:h7 X pins σ H s):interactive X.env=false:=by simp [interactive,I.ok.kind]
def df0 (te:TE):TS:=fun D σ H=>te σ H fun _ H1=>D.nx σ H1
theorem o7 (he:PE X e te)(hs:swapsWith e none pos.line X.env=pure false:=by rfl):PS X (.Expr e pos) (df0 te):=by
 intro pins s σ H D I h
 exact wpAny_Expr_any (o5 (he pins s σ H _ I h) fun v s1 ⟨x,H1,I1,r1,q1⟩=>⟨σ,H1,I1,q1⟩) I.quiet hs
def dk0 (te:TE):TS:=fun D σ H=>te σ H D.rt
theorem l6 (he:PE X e te):PS X (.Return (some e) pos) (dk0 te):=by
 intro pins s σ H D I h
 exact wpAny_Return_some (o5 (he pins s σ H _ I h) fun v s1 ⟨x,H1,I1,r1,q1⟩=>⟨x,σ,H1,I1,r1,q1⟩)
def dk1 (c:TT)(t u:TS):TS:=fun D σ H=>c σ H fun b H1=>if b=true then t D σ H1 else u D σ H1
theorem x9 {c:Expr}{a b:List Stmt}{tc:TT}(hc:PT X c tc)(ha:PSs X a t)(hb:PSs X b u):PS X (.If c a b pos) (dk1 tc t u):=by
 intro pins s σ H D I h
 refine wpAny_If (o5 (hc pins s σ H _ I h) fun d s1 ⟨H1,I1,q1⟩=> ?_)
 cases d with
 |true=>exact ha pins s1 σ H1 D I1 q1
 |false=>exact hb pins s1 σ H1 D I1 q1
def cy8:TS:=fun _ _ _=>False
theorem N5:PS X st cy8:=fun _ _ _ _ _ _ h=>h.elim
end
abbrev TG:=V→St→Hp→(St→Hp→Prop)→Prop
abbrev TGs:=List V→St→Hp→(St→Hp→Prop)→Prop
def PG (X:Cx)(target:Expr)(t:TG):Prop:=
 ∀(pins:List (Addr×Obj)) (s:Shared) (σ:St) (H:Hp) (v:V) (u:Value) (Q:St→Hp→Prop),h7 X pins σ H s→n6 v u→t v σ H Q→
  wpAny (model X.prog X.w) X.A (assign target X.env u) (fun _ s'=>∃σ' H',h7 X pins σ' H' s'∧Q σ' H') X.xe s
def PGs (X:Cx)(ts:List Expr)(t:TGs):Prop:=
 ∀(pins:List (Addr×Obj)) (s:Shared) (σ:St) (H:Hp) (vs:List V) (us:List Value) (Q:St→Hp→Prop),h7 X pins σ H s→j9 vs us→t vs σ H Q→
  wpAny (model X.prog X.w) X.A (assignInOrder ((assignEach ts X.env).map (·.2)) us) (fun _ s'=>∃σ' H',h7 X pins σ' H' s'∧Q σ' H') X.xe s
abbrev ck3:=V→V→V→Hp→(Hp→Prop)→Prop
def cy9 (X:Cx)(t:ck3):Prop:=
 ∀(pins:List (Addr×Obj)) (s:Shared) (σ:St) (H:Hp) (o i v:V) (ov iv u:Value) (Q:Hp→Prop),h7 X pins σ H s→n6 o ov→n6 i iv→n6 v u→t o i v H Q→
  wpAny (model X.prog X.w) X.A (setItem ov iv u) (fun _ s'=>∃H',h7 X pins σ H' s'∧Q H') X.xe s
section
variable {X:Cx} {pos:Pos}
def bx9 (i:Nat):TG:=fun v σ H Q=>Q (σ.set i (some v)) H
theorem j5 {i:Nat}{x:Str}(hN:X.N.Nodup)(hi:X.N[i]? =some x)(hx:Loc X.env.scope x)(hf:X.fn x=true∨X.env.scope.names.lookup x=some .local:=by first|exact .inl rfl|exact .inr rfl|assumption):PG X (.Name x pos) (bx9 i):=by
 intro pins s σ H v u Q I r h
 exact wpAny_assign_Name (bi1 I hN hi hx r (fun s' I'=>⟨_,H,I',h⟩) hf)
def dk2:TGs:=fun vs σ H Q=>vs=[]∧Q σ H
def df1 (t:TG)(u:TGs):TGs:=fun vs σ H Q=>∃v r,vs=v::r∧t v σ H fun σ' H'=>u r σ' H' Q
theorem O9:PGs X [] dk2:=by
 intro pins s σ H vs us Q I r h
 obtain ⟨e,h⟩:=h
 subst e
 cases r
 exact assignInOrder_nil ⟨σ,H,I,h⟩
theorem A1 {e:Expr}{es:List Expr}{t:TG}{u:TGs}(h1:PG X e t)(h2:PGs X es u)
   (hs:(assignEach (e::es) X.env).map (·.2)=assign e X.env::(assignEach es X.env).map (·.2):=by rfl):PGs X (e::es) (df1 t u):=by
 intro pins s σ H vs us Q I r h
 obtain ⟨v,vr,e1,h⟩:=h
 subst e1
 cases r with
 |cons r rr=>
  rw[hs]
  refine assignInOrder_cons (o5 (h1 pins s σ H _ _ _ I r h) fun _ s1 ⟨σ1,H1,I1,q1⟩=> ?_)
  exact h2 pins s1 σ1 H1 _ _ Q I1 rr q1
def dk3 (K:PySem.W.Frag)(n:Nat)(t:TGs):TG:=fun v σ H Q=>∃a xs,v= .ref a∧Q6 K H a xs∧xs.length=n∧t xs σ H Q
theorem S6 {es:List Expr}{k:Nat}{t:TGs}{n:Nat}(hc:X.calm=true)(h:PGs X es t)
   (hn:(assignEach es X.env).length=n:=by rfl) (hst:(assignEach es X.env).findIdx? (·.1)=none:=by rfl):PG X (.Tuple es k pos) (dk3 X.K n t):=by
 intro pins s σ H v u Q I r hw
 obtain ⟨a,xs,e1,hq,hl,hw⟩:=hw
 subst e1
 cases r
 obtain ⟨its,rv,ht,hz⟩:=I.tuple hq
 refine assign_Tuple_tuple (I.ok.hd hc) ht (by simp [hn,←hl,rv.length]) hst fun h' hx=> ?_
 have I1:h7 X pins σ H {s with heap:=h'}:=I.kept (t':=s.toks) fun b o e=>hx b o (dt1 (Heap.lt_size e)) e
 exact h pins _ σ H xs _ Q I1 (by simpa using rv) hw
def dk4 (to ti:TE)(t:ck3):TG:=fun v σ H Q=>to σ H fun o H1=>ti σ H1 fun i H2=>t o i v H2 fun H3=>Q σ H3
theorem au6 {o i:Expr}{to ti:TE}{t:ck3}(ho:PE X o to)(hi:PE X i ti)(hs:cy9 X t)
   (ha:∀v,assign (.Subscript o i pos) X.env v=(do
     let ov ←holding [v] (eval o X.env)
     let iv ←holding [v,ov] (eval i X.env)
     standAt pos
     holding [v,ov,iv] (setItem ov iv v)
     release [v,ov,iv] []):=by intro _;rfl):PG X (.Subscript o i pos) (dk4 to ti t):=by
 intro pins s σ H v u Q I r h
 rw[ha]
 refine wpAny_bind (wpAny_holding (o5 (ho pins s σ H _ I h) fun ov s1 ⟨x,H1,I1,r1,q1⟩=> ?_))
 refine wpAny_bind (wpAny_holding (o5 (hi pins s1 σ H1 _ I1 q1) fun iv s2 ⟨y,H2,I2,r2,q2⟩=> ?_))
 refine wpAny_bind (wpAny_standAt (wpAny_bind (wpAny_holding (o5 (hs pins s2 σ H2 x y v ov iv u _ I2 r1 r2 r q2) fun _ s3 ⟨H3,I3,q3⟩=> ?_))))
 exact wpAny_release ⟨σ,H3,I3,q3⟩
def ck4 (te:TE)(g:TG):TS:=fun D σ H=>te σ H fun x H1=>g x σ H1 D.nx
theorem au7 {tg e:Expr}{te:TE}{g:TG}(he:PE X e te)(hg:PG X tg g)(hs:swapsWithSole [tg] e pos.line X.env=pure false:=by rfl)(hw:swappedStores [tg] e X.env=pure none:=by rfl)
   (h1:(assignEach [tg] X.env).map (·.2)=[assign tg X.env]:=by rfl):PS X (.Assign [tg] e pos) (ck4 te g):=by
 intro pins s σ H D I h
 refine wpAny_Assign_stores (o5 (he pins s σ H _ I h) fun v s1 ⟨x,H1,I1,r1,q1⟩=> ?_) hs hw
 rw[h1]
 exact o5 (hg pins s1 σ H1 x v _ I1 r1 q1) fun _ s2 q=>q
theorem i4 {i:Nat}{x:Str}{e:Expr}{te:TE}{pos':Pos}(hN:X.N.Nodup)(hi:X.N[i]? =some x)(hx:Loc X.env.scope x)(he:PE X e te)(hs:swapsWith e (some (.Name x pos')) pos.line X.env=pure false:=by rfl)(hf:X.fn x=true∨X.env.scope.names.lookup x=some .local:=by first|exact .inl rfl|exact .inr rfl|assumption):
   PS X (.Assign [.Name x pos'] e pos) (ck4 te (bx9 i)):=by
 intro pins s σ H D I h
 refine wpAny_Assign_Name (o5 (he pins s σ H _ I h) fun v s1 ⟨y,H1,I1,r1,q1⟩=> ?_) hs
 exact bi1 I1 hN hi hx r1 (fun s2 I2=>⟨_,H1,I2,q1⟩) hf
end
section
variable {X:Cx} {pos:Pos}
def cc4 (c:TT)(tb:TS):TS:=fun D σ H=>∃W:Nat→St→Hp→Prop,(∃m,W m σ H)∧∀m σ H,W m σ H→
 c σ H fun b H1=>if b=true then ∃N:St→Hp→Prop,(∀σ' H',N σ' H'→∃m',m' < m∧W m' σ' H')∧tb {D with nx:=N,ct:=N,bk:=D.nx} σ H1 else D.nx σ H1
theorem ag2 {c:Expr}{body:List Stmt}{tc:TT}{tb:TS}(hp:PassesOwn (model X.prog X.w) X.A X.env X.xe)(hc:PT X c tc)(hb:PSs X body tb):PS X (.While c body [] pos) (cc4 tc tb):=by
 intro pins s σ H D I h
 obtain ⟨W,⟨m0,w0⟩,turn⟩:=h
 refine wpAny_While (codeAny_whileLoop (fun n s'=>∃σ' H',h7 X pins σ' H' s'∧W n σ' H') ?_ m0 ⟨σ,H,I,w0⟩)
 rintro n s1 ⟨σ1,H1,I1,w1⟩
 refine wpAny_passesOwn hp (o5 (hc pins s1 σ1 H1 _ I1 (turn n σ1 H1 w1)) fun b s2 ⟨H2,I2,q2⟩=> ?_)
 cases b with
 |true=>
  obtain ⟨N,hN,q2⟩:=q2
  rw[if_pos rfl]
  refine wpAny_passesOwn hp (o5 (hb pins s2 σ1 H2 _ I2 q2) fun f s3 q3=> ?_)
  cases f with
  |next=>
   obtain ⟨σ3,H3,I3,n3⟩:=q3
   obtain ⟨m',hm,w3⟩:=hN σ3 H3 n3
   exact ⟨m',hm,σ3,H3,I3,w3⟩
  |cont=>
   obtain ⟨σ3,H3,I3,n3⟩:=q3
   obtain ⟨m',hm,w3⟩:=hN σ3 H3 n3
   exact ⟨m',hm,σ3,H3,I3,w3⟩
  |brk=>exact q3
  |ret v=>exact q3
 |false=>
  rw[if_neg dq2]
  exact wpAny_execs_nil ⟨σ1,H2,I2,q2⟩
end
structure It where
 go:Nat→Hp→Prop
 yld:Nat→Hp→V→Hp→Prop
 stop:Nat→Hp→Prop
def ak3 (X:Cx)(pins:List (Addr×Obj))(H:Hp)(b:Addr):Prop:=
 H b=none∧b≠X.env.locals∧b∉X.fs∧(b∈X.ex∨X.s₀.heap.objs.size≤b)∧(∀x c,X.env.cells.lookup x=some c→c≠b)∧∀p∈X.pn++pins,p.1≠b
theorem h7.fpOk {X:Cx}{pins:List (Addr×Obj)}{σ:St}{H H':Hp}{s:Shared}{b:Addr}(I:h7 X pins σ H s)(hb:s.heap.objs.size≤b)(hn:H' b=none):ak3 X pins H' b:=by
 refine ⟨hn,Nat.ne_of_gt (dt0 I.lt hb),I.nofs hb,.inr (dp4 I.sz hb),fun x c e z=> ?_,fun p hp z=> ?_⟩
 · obtain ⟨v,q⟩:=I.cell x c e
   exact absurd (dt0 q.lt (by rw[z];exact hb)) (dw8 _)
 · exact absurd (dt0 (Heap.lt_size (I.pin p hp).1) (by rw[z];exact hb)) (dw8 _)
structure az3 (P:Program)(w:World)(K:PySem.W.Frag)(tg:Expr)(J:It)(fp:List Addr)(it:Addr)(tn:Nat→Heap→Prop):Prop where
 mem:it∈fp
 obj:∀i h,tn i h→∀b∈fp,∃o,h.get? b=some o∧∀v,o.data≠.cell v
 keep:∀i h h',tn i h→(∀b∈fp,∀o,h.get? b=some o→h'.get? b=some o)→tn i h'
 item:∀(X:Cx),X.prog=P→X.w=w→X.K=K→X.calm=true→∀(i:Nat) (pins:List (Addr×Obj)) (s:Shared) (σ:St) (H:Hp) (E:Value→Shared→Prop),h7 X pins σ H s→(∀b∈fp,ak3 X pins H b)→tn i s.heap→J.go i H→
   wpAny (model P w) X.A (pyNext (.ref it)) (fun r s1=>∃u,r=some u∧
     wpAny (model P w) X.A (letOwnedTupleGo tg (.ref it) u) (fun _ s2=>∃x H',h7 X pins σ H' s2∧n6 x u∧J.yld i H x H'∧tn (i+1) s2.heap∧∀b∈fp,H' b=none) E s1) E s
 done:∀(X:Cx),X.prog=P→X.w=w→X.K=K→X.calm=true→∀(i:Nat) (pins:List (Addr×Obj)) (s:Shared) (σ:St) (H:Hp) (E:Value→Shared→Prop),h7 X pins σ H s→(∀b∈fp,ak3 X pins H b)→tn i s.heap→J.stop i H→
   wpAny (model P w) X.A (pyNext (.ref it)) (fun r s1=>r=none∧h7 X pins σ H s1) E s
 self:∀(A:Around) (i:Nat) (s:Shared) (Q:Value→Shared→Prop) (E:Value→Shared→Prop),tn i s.heap→Q (.ref it) s→wpAny (model P w) A (pyIter (.ref it)) Q E s
abbrev TI:=St→Hp→(It→Hp→Prop)→Prop
def PIE (X:Cx)(pins:List (Addr×Obj))(σ:St)(tg:Expr)(R:It→Hp→Prop)(itv:Value)(s2:Shared):Prop:=
 ∃(it:Addr) (fp:List Addr) (tn:Nat→Heap→Prop) (J:It) (H':Hp),itv= .ref it∧h7 X pins σ H' s2∧az3 X.prog X.w X.K tg J fp it tn∧tn 0 s2.heap∧(∀b∈fp,ak3 X pins H' b)∧R J H'
def PI (X:Cx)(tg iter:Expr)(wi:TI):Prop:=
 ∀(pins:List (Addr×Obj)) (s:Shared) (σ:St) (H:Hp) (R:It→Hp→Prop),h7 X pins σ H s→wi σ H R→
  wpAny (model X.prog X.w) X.A (eval iter X.env) (fun v s1=>wpAny (model X.prog X.w) X.A (pyIter v) (PIE X pins σ tg R) X.xe s1) X.xe s
theorem bh2 {M:Model}{A:Around}{E:Value→Shared→Prop}{s:Shared}{tg:Expr}{it:Addr}{u:Value}{o:Obj}{n:String}{vs:Array Value}{Q:Unit→Shared→Prop}(ho:s.heap.get? it=some o)(hc:o.cls= .type n)(hd:o.data= .fields vs)
   (hn:["enumerate","zip","dict_itemiterator","dict_reverseitemiterator","odict_iterator","itertools.zip_longest","itertools.pairwise"].contains n=false) (hQ:Q () s):wpAny M A (letOwnedTupleGo tg (.ref it) u) Q E s:=by
 unfold letOwnedTupleGo
 cases tg<;>first
   |exact wpAny_pure hQ
   |(cases u<;>first
       |exact wpAny_pure hQ
       |(refine wpAny_bind (wpAny_load ho ?_)
         rw[hc,hd]
         show wpAny M A (if (["enumerate","zip","dict_itemiterator","dict_reverseitemiterator","odict_iterator","itertools.zip_longest","itertools.pairwise"].contains n&&vs[0]? ==some (rawInt _))=true then _ else _) Q E s
         rw[if_neg (by intro h;rw[hn,Bool.false_and] at h;cases h)]
         exact wpAny_pure hQ))
def Itl (K:PySem.W.Frag)(a:Addr):It:=
 ⟨fun i H=>∃xs x,g9 K H a xs∧xs[i]? =some x,fun i H x H'=>H'=H∧∀xs,g9 K H a xs→xs[i]? =some x,fun i H=>∃xs,g9 K H a xs∧xs.length≤i⟩
def Itr (lo:Int)(n:Nat):It:=⟨fun i _=>i < n,fun i H x H'=>H'=H∧x= .int (lo+i),fun i _=>n≤i⟩
theorem cc5 {P:Program}{w:World}{K:PySem.W.Frag}{tg:Expr}(a it:Addr):az3 P w K tg (Itl K a) [it] it (fun i h=>h.IsListIter it a i) where
 mem:=by simp
 obj:=fun i h st b hb=>by
   have e:b=it:=by simpa using hb
   subst e
   obtain ⟨o,e,c,d⟩:=st
   exact ⟨o,e,fun v z=>by rw[d] at z;cases z⟩
 keep:=fun i h h' st k=>st.at fun o e=>k it (by simp) o e
 item:=by
   intro X hP hw hK hc i pins s σ H E I hf st hg
   subst hP hw hK
   obtain ⟨xs,x,hq,hx⟩:=hg
   obtain ⟨its,rv,p,hz⟩:=I.list hq
   obtain ⟨u,hu,ru⟩:=rv.get hx
   obtain ⟨f0,f1,f2,f3,f4,f5⟩:=hf it (by simp)
   refine wpAny_pyNext_list_item st p.isList (x:=u) (by simpa using hu) fun h' st' sb=> ?_
   have I1:h7 X pins σ H {s with heap:=h'}:=I.turned (t':=s.toks) (fun b o hb e=>(sb.2 b hb).trans e) f0 f1 f3 f4 f5
   obtain ⟨o,e,c,d⟩:=id st'
   exact ⟨u,rfl,bh2 (s:={s with heap:=h'}) e c d (by decide) ⟨x,H,I1,ru,⟨rfl,fun ys hy=>by rw[I.list_inj hy hq];exact hx⟩,st',fun b hb=>(hf b hb).1⟩⟩
 done:=by
   intro X hP hw hK hc i pins s σ H E I hf st hg
   subst hP hw hK
   obtain ⟨xs,hq,hx⟩:=hg
   obtain ⟨its,rv,p,hz⟩:=I.list hq
   obtain ⟨f0,f1,f2,f3,f4,f5⟩:=hf it (by simp)
   have hl:=rv.length
   exact wpAny_pyNext_list_end (I.ok.hd hc) st p.isList (by simp;omega) fun h' eb=>⟨rfl,I.turned (t':=s.toks) (fun b o hb e=>eb b o hb e) f0 f1 f3 f4 f5⟩
 self:=fun _ _ _ _ _ st h=>wpAny_pyIter_listiter st h
theorem by1 {P:Program}{w:World}{K:PySem.W.Frag}{tg:Expr}(it:Addr)(lo:Int)(n:Nat):az3 P w K tg (Itr lo n) [it] it (fun i h=>IsRangeIter h it (lo+(i:Nat)*1) ((n:Int) - (i:Nat)) 1) where
 mem:=by simp
 obj:=fun i h st b hb=>by
   have e:b=it:=by simpa using hb
   subst e
   exact ⟨_,st,fun v z=>by
     have z':Data.fields _=Data.cell v:=z
     cases z'⟩
 keep:=fun i h h' st k=>k it (by simp) _ st
 item:=by
   intro X hP hw hK hc i pins s σ H E I hf st hg
   subst hP hw hK
   obtain ⟨f0,f1,f2,f3,f4,f5⟩:=hf it (by simp)
   have W:=Walks.range (prog:=X.prog) (w:=X.w) (I.ok.hd hc) it lo 1 n
   refine W.item i s _ _ hg st fun v h' tk hv st' kk=> ?_
   obtain ⟨t,rfl⟩:=hv
   have I1:h7 X pins σ H {s with heap:=h',toks:=tk}:=I.turned (fun b o hb e=>kk b o (by simpa using hb) e) f0 f1 f3 f4 f5
   refine ⟨_,rfl,bh2 (s:={s with heap:=h',toks:=tk}) (n:="range_iterator") st' rfl rfl (by decide) ⟨.int (lo+i),H,I1,⟨t,?_⟩,⟨rfl,rfl⟩,st',fun b hb=>(hf b hb).1⟩⟩
   rw[Int.mul_one]
 done:=by
   intro X hP hw hK hc i pins s σ H E I hf st hg
   subst hP hw hK
   obtain ⟨f0,f1,f2,f3,f4,f5⟩:=hf it (by simp)
   exact wpAny_pyNext_range_end (I.ok.hd hc) st (by have:n≤i:=hg;omega) fun h' eb=>⟨rfl,I.turned (t':=s.toks) (fun b o hb e=>eb b o hb e) f0 f1 f3 f4 f5⟩
 self:=fun _ _ _ _ _ st h=>wpAny_pyIter_rangeiter st h
end L2
namespace L2
open PySem PySem.Spec PyProof.Rows
section
variable {X:Cx} {tg:Expr}
def df2 (K:PySem.W.Frag)(tl:TE):TI:=fun σ H R=>tl σ H fun x H1=>∃a,x= .ref a∧(∃xs,g9 K H1 a xs)∧R (Itl K a) H1
theorem w9 {l:Expr}{tl:TE}(hl:PE X l tl):PI X tg l (df2 X.K tl):=by
 intro pins s σ H R I h
 refine o5 (hl pins s σ H _ I h) fun v s1 ⟨x,H1,I1,r1,q1⟩=> ?_
 obtain ⟨a,e,⟨xs,hq⟩,q⟩:=q1
 subst e
 cases r1
 obtain ⟨its,rv,p,hz⟩:=I1.list hq
 refine wpAny_pyIter_list p.isList ?_
 refine ⟨s1.heap.objs.size,[s1.heap.objs.size],_,_,H1,rfl,I1.kept (t':=s1.toks) fun b o e=>Heap.get?_push_of_some _ e,cc5 a _,⟨_,Heap.get?_push_size _ rfl,rfl,rfl⟩,fun b hb=> ?_,q⟩
 have e:b=s1.heap.objs.size:=by simpa using hb
 subst e
 exact I1.fpOk (do1 _) (I1.hok.fresh (do1 _))
theorem bi4 {pins:List (Addr×Obj)}{σ:St}{H:Hp}{s:Shared}{R:It→Hp→Prop}{E:Value→Shared→Prop}{lo hi:Int}{t u v:Tok}{tk:Nat}(I:h7 X pins σ H s)(h1: -(2^62)≤lo)(h2:lo < 2^62)(h3: -(2^62)≤hi)(h4:hi < 2^62)
   (q:R (Itr lo (hi - lo).toNat) H):wpAny (model X.prog X.w) X.A (pyIter (.ref s.heap.objs.size)) (PIE X pins σ tg R) E {s with heap:=s.heap.push {cls:= .type "range",data:= .fields #[.int lo t,.int hi u,.int 1 v]},toks:=tk}:=by
 refine wpAny_pyIter_range (IsRange.new ..) (small_one h1 h2 h3 h4) ?_
 have I1:h7 X pins σ H {s with heap:=s.heap.push {cls:= .type "range",data:= .fields #[.int lo t,.int hi u,.int 1 v]},toks:=tk}:=I.kept fun b o e=>Heap.get?_push_of_some _ e
 refine ⟨(s.heap.push {cls:= .type "range",data:= .fields #[.int lo t,.int hi u,.int 1 v]}).objs.size,[(s.heap.push {cls:= .type "range",data:= .fields #[.int lo t,.int hi u,.int 1 v]}).objs.size],_,_,H,rfl,
   I1.kept (t':=tk) fun b o e=>Heap.get?_push_of_some _ e,by1 _ lo (hi - lo).toNat,?_,fun b hb=> ?_,q⟩
 · have e1:lo+((0:Nat):Int)*1=lo:=by simp
   have e2:(((hi - lo).toNat:Nat):Int) - ((0:Nat):Int)=Builtin.Range.rangeSize lo hi 1:=by rw[rangeSize_one];split<;>omega
   show IsRangeIter _ _ (lo+((0:Nat):Int)*1) ((((hi - lo).toNat:Nat):Int) - ((0:Nat):Int)) 1
   rw[e1,e2]
   exact Heap.get?_push_size _ rfl
 · have e:b=(s.heap.push {cls:= .type "range",data:= .fields #[.int lo t,.int hi u,.int 1 v]}).objs.size:=by simpa using hb
   subst e
   exact I1.fpOk (do1 _) (I1.hok.fresh (do1 _))
def df3 (ta:TA):TI:=fun σ H R=>ta σ H fun vs H1=>∃j:Int,vs=[.int j]∧ -(2^62)≤j∧j < 2^62∧R (Itr 0 j.toNat) H1
def df4 (ta:TA):TI:=fun σ H R=>ta σ H fun vs H1=>∃i j:Int,vs=[.int i,.int j]∧(-(2^62)≤i∧i < 2^62∧ -(2^62)≤j∧j < 2^62)∧R (Itr i (j - i).toNat) H1
theorem K1 {a:Expr}{ta:TA}{p pos:Pos}(hg:Gl X "range")(hm:X.mg "range"=none)(ha:PA X [a] ta)(hs:starEach [a] X.env=[(false,eval a X.env)]:=by rfl):PI X tg (.Call (.Name "range" p) [a] [] pos) (df3 ta):=by
 intro pins s σ H R I h
 refine Call_ (Y9 I hg hm boot_range (PyProof.Rows.callWith_type1 (o5 (ha pos pins s σ H _ I h) fun us s1 ⟨vs,H1,I1,r1,q1⟩=> ?_) hs rfl))
 obtain ⟨j,e,q1,q2,q⟩:=q1
 subst e
 cases r1 with
 |cons r rr=>
  cases rr
  obtain ⟨t,rfl⟩:=r
  exact call_range_1 (bi4 I1 (by omega) (by omega) q1 q2 (by simpa using q))
theorem ab4 {a b:Expr}{ta:TA}{p pos:Pos}(hg:Gl X "range")(hm:X.mg "range"=none)(ha:PA X [a,b] ta)(hs:starEach [a,b] X.env=[(false,eval a X.env),(false,eval b X.env)]:=by rfl)(hs2:starEach [b] X.env=[(false,eval b X.env)]:=by rfl):
   PI X tg (.Call (.Name "range" p) [a,b] [] pos) (df4 ta):=by
 intro pins s σ H R I h
 refine Call_ (Y9 I hg hm boot_range (PyProof.Rows.callWith_type1 (o5 (ha pos pins s σ H _ I h) fun us s1 ⟨vs,H1,I1,r1,q1⟩=> ?_) (by rw[hs,hs2]) (by rw[hs2];rfl)))
 obtain ⟨i,j,e,⟨q1,q2,q3,q4⟩,q⟩:=q1
 subst e
 cases r1 with
 |cons r rr=>
  cases rr with
  |cons r' rr=>
   cases rr
   obtain ⟨t,rfl⟩:=r
   obtain ⟨t',rfl⟩:=r'
   exact call_range_2 (bi4 I1 q1 q2 q3 q4 q)
def dk5 (wi:TI)(g:TG)(tb:TS):TS:=fun D σ H=>wi σ H fun J H1=>∃W:Nat→Nat→St→Hp→Prop,(∃m,W 0 m σ H1)∧∀i m σ H,W i m σ H→
 (J.stop i H∧D.nx σ H)∨(J.go i H∧∃N:St→Hp→Prop,(∀σ' H',N σ' H'→∃m',m' < m∧W (i+1) m' σ' H')∧∀x H',J.yld i H x H'→g x σ H' fun σ2 H2=>tb {D with nx:=N,ct:=N,bk:=D.nx} σ2 H2)
def Z0 (fp:List Addr)(h:Heap):List (Addr×Obj):=fp.filterMap fun b=>(h.get? b).map fun o=>(b,o)
theorem X6 {fp:List Addr}{h:Heap}{b:Addr}{o:Obj}(hb:b∈fp)(e:h.get? b=some o):(b,o)∈Z0 fp h:=List.mem_filterMap.mpr ⟨b,hb,by rw[e];rfl⟩
theorem bd4 {fp:List Addr}{h:Heap}{p:Addr×Obj}(hp:p∈Z0 fp h):p.1∈fp∧h.get? p.1=some p.2:=by
 obtain ⟨b,hb,e⟩:=List.mem_filterMap.mp hp
 cases q:h.get? b with
 |none=>rw[q] at e;cases e
 |some o=>
  rw[q] at e
  have e':(b,o)=p:=Option.some.inj e
  subst e'
  exact ⟨hb,q⟩
theorem h7.pinned {pins:List (Addr×Obj)}{σ:St}{H:Hp}{s:Shared}{fp:List Addr}(I:h7 X pins σ H s)(hf:∀b∈fp,ak3 X pins H b)(ho:∀b∈fp,∃o,s.heap.get? b=some o∧∀v,o.data≠.cell v):h7 X (pins++Z0 fp s.heap) σ H s:=
 I.pins_of fun p hp=>(dp3.mp hp).elim (fun z=>I.pin p (dq5 _ z)) fun z=>by
   obtain ⟨hb,e⟩:=bd4 z
   obtain ⟨f0,f1,f2,_⟩:=hf p.1 hb
   obtain ⟨o,e',d⟩:=ho p.1 hb
   rw[e] at e';cases e'
   exact ⟨e,f0,f1,f2,d⟩
theorem h7.unpinned {pins pl:List (Addr×Obj)}{σ:St}{H:Hp}{s:Shared}(I:h7 X (pins++pl) σ H s):h7 X pins σ H s:=I.pins_of fun p hp=>I.pin p (dq5 _ (dt5 _ hp))
theorem o6 {iter:Expr}{body:List Stmt}{wi:TI}{g:TG}{tb:TS}{pos:Pos}(hp:PassesOwn (model X.prog X.w) X.A X.env X.xe)(hc:X.calm=true)(hi:PI X tg iter wi)(hg:PG X tg g)(hb:PSs X body tb)
   (hs:∀x,foldedSetIterable iter X.env x=pure x:=by intro _;rfl):PS X (.For tg iter body [] pos) (dk5 wi g tb):=by
 intro pins s σ H D I h
 refine wpAny_For (o5 (hi pins s σ H _ I h) fun v s1 h1=>o5 h1 fun itv s2 h2=> ?_) hs
 obtain ⟨it,fp,tn,J,H2,e,I2,T,st2,f2,W,⟨m0,w0⟩,turn⟩:=h2
 subst e
 have stat:∀{H':Hp},(∀b∈fp,H' b=none)→∀b∈fp,ak3 X pins H' b:=fun hn b hb=>⟨hn b hb,(f2 b hb).2⟩
 refine codeAny_forLoop_any (fun n s'=>∃i σ' H',h7 X pins σ' H' s'∧tn i s'.heap∧(∀b∈fp,H' b=none)∧W i n σ' H') ?_ m0 ⟨0,σ,H2,I2,st2,fun b hb=>(f2 b hb).1,w0⟩
 rintro n s3 ⟨i,σ3,H3,I3,st3,fr3,w3⟩
 rcases turn i n σ3 H3 w3 with ⟨stop,qn⟩|⟨go,N,hN,step⟩
 · refine wpAny_passesOwn hp (o5 (T.done X rfl rfl rfl hc i pins s3 σ3 H3 X.xe I3 (stat fr3) st3 stop) fun r s4 ⟨hr,I4⟩=> ?_)
   subst hr
   exact wpAny_execs_nil ⟨σ3,H3,I4,qn⟩
 · refine wpAny_passesOwn hp (o5 (T.item X rfl rfl rfl hc i pins s3 σ3 H3 X.xe I3 (stat fr3) st3 go) fun r s4 ⟨u,hr,h4⟩=> ?_)
   subst hr
   refine wpAny_passesOwn hp (o5 h4 fun _ s5 ⟨x,H5,I5,r5,y5,st5,fr5⟩=> ?_)
   have I5':=I5.pinned (stat fr5) (T.obj _ _ st5)
   refine wpAny_passesOwn hp (o5 (hg _ s5 σ3 H5 x u _ I5' r5 (step x H5 y5)) fun _ s6 ⟨σ6,H6,I6,q6⟩=> ?_)
   refine wpAny_passesOwn hp (o5 (hb _ s6 σ6 H6 _ I6 q6) fun f s7 q7=> ?_)
   have again:∀{σ7:St} {H7:Hp},h7 X (pins++Z0 fp s5.heap) σ7 H7 s7→N σ7 H7→∃m,m < n∧∃i σ' H',h7 X pins σ' H' s7∧tn i s7.heap∧(∀b∈fp,H' b=none)∧W i m σ' H':=fun {σ7 H7} I7 n7=>by
     obtain ⟨m',hm,w7⟩:=hN σ7 H7 n7
     refine ⟨m',hm,i+1,σ7,H7,I7.unpinned,T.keep _ _ _ st5 fun b hb o e=>(I7.pin (b,o) (dq5 _ (dq5 _ (X6 hb e)))).1,fun b hb=> ?_,w7⟩
     obtain ⟨o,e,d⟩:=T.obj _ _ st5 b hb
     exact (I7.pin (b,o) (dq5 _ (dq5 _ (X6 hb e)))).2.1
   cases f with
   |next=>obtain ⟨σ7,H7,I7,n7⟩:=q7;exact again I7 n7
   |cont=>obtain ⟨σ7,H7,I7,n7⟩:=q7;exact again I7 n7
   |brk=>obtain ⟨σ7,H7,I7,q7⟩:=q7;exact ⟨σ7,H7,I7.unpinned,q7⟩
   |ret v=>obtain ⟨x7,σ7,H7,I7,r7,q7⟩:=q7;exact ⟨x7,σ7,H7,I7.unpinned,r7,q7⟩
end
theorem A8 {K:PySem.W.Frag}{a:Addr}{xs:List V}{g:TG}{tb:TS}{D:Y8}{σ:St}{H:Hp}(Pv:Nat→St→Hp→Prop)(h0:Pv 0 σ H)(hl:∀i σ H,i≤xs.length→Pv i σ H→g9 K H a xs)
   (hs:∀i x σ H,xs[i]? =some x→Pv i σ H→g x σ H fun σ2 H2=>tb {D with nx:=Pv (i+1),ct:=Pv (i+1),bk:=D.nx} σ2 H2) (hd:∀σ H,Pv xs.length σ H→D.nx σ H):
   ∃W:Nat→Nat→St→Hp→Prop,(∃m,W 0 m σ H)∧∀i m σ H,W i m σ H→
    ((Itl K a).stop i H∧D.nx σ H)∨((Itl K a).go i H∧∃N:St→Hp→Prop,(∀σ' H',N σ' H'→∃m',m' < m∧W (i+1) m' σ' H')∧∀x H',(Itl K a).yld i H x H'→g x σ H' fun σ2 H2=>tb {D with nx:=N,ct:=N,bk:=D.nx} σ2 H2):=by
 refine ⟨fun i m σ H=>m=xs.length - i∧i≤xs.length∧Pv i σ H,⟨xs.length,by simp,dq3 _,h0⟩,?_⟩
 rintro i m σ H ⟨rfl,hi,p⟩
 have q:=hl i σ H hi p
 by_cases hlt:i < xs.length
 · refine .inr ⟨⟨xs,xs[i],q,by simp [hlt]⟩,Pv (i+1),fun σ' H' p'=>⟨xs.length - (i+1),by omega,rfl,hlt,p'⟩,fun x H' y=> ?_⟩
   obtain ⟨e,y⟩:=y
   subst e
   exact hs i x σ _ (y xs q) p
 · have e:i=xs.length:=by omega
   subst e
   exact .inl ⟨⟨xs,q,do1 _⟩,hd σ H p⟩
theorem I0 {lo:Int}{n:Nat}{g:TG}{tb:TS}{D:Y8}{σ:St}{H:Hp}(Pv:Nat→St→Hp→Prop)(h0:Pv 0 σ H)
   (hs:∀i σ H,i < n→Pv i σ H→g (.int (lo+i)) σ H fun σ2 H2=>tb {D with nx:=Pv (i+1),ct:=Pv (i+1),bk:=D.nx} σ2 H2) (hd:∀σ H,Pv n σ H→D.nx σ H):
   ∃W:Nat→Nat→St→Hp→Prop,(∃m,W 0 m σ H)∧∀i m σ H,W i m σ H→
    ((Itr lo n).stop i H∧D.nx σ H)∨((Itr lo n).go i H∧∃N:St→Hp→Prop,(∀σ' H',N σ' H'→∃m',m' < m∧W (i+1) m' σ' H')∧∀x H',(Itr lo n).yld i H x H'→g x σ H' fun σ2 H2=>tb {D with nx:=N,ct:=N,bk:=D.nx} σ2 H2):=by
 refine ⟨fun i m σ H=>m=n - i∧i≤n∧Pv i σ H,⟨n,by simp,dq3 _,h0⟩,?_⟩
 rintro i m σ H ⟨rfl,hi,p⟩
 by_cases hlt:i < n
 · refine .inr ⟨hlt,Pv (i+1),fun σ' H' p'=>⟨n - (i+1),by omega,rfl,hlt,p'⟩,fun x H' y=> ?_⟩
   obtain ⟨e,y⟩:=y
   subst e y
   exact hs i σ _ hlt p
 · have e:i=n:=by omega
   subst e
   exact .inl ⟨do1 _,hd σ H p⟩
theorem bi5 {c:TT}{tb:TS}{D:Y8}{σ:St}{H:Hp}(Pv:St→Hp→Prop)(μ:St→Hp→Nat)(h0:Pv σ H)
   (hs:∀σ H,Pv σ H→c σ H fun b H1=>if b=true then tb {D with nx:=fun σ' H'=>Pv σ' H'∧μ σ' H' < μ σ H,ct:=fun σ' H'=>Pv σ' H'∧μ σ' H' < μ σ H,bk:=D.nx} σ H1 else D.nx σ H1)
   (mono:∀σ H Q Q',(∀b H1,Q b H1→Q' b H1)→c σ H Q→c σ H Q'):cc4 c tb D σ H:=by
 refine ⟨fun m σ H=>m=μ σ H∧Pv σ H,⟨_,rfl,h0⟩,?_⟩
 rintro m σ H ⟨rfl,p⟩
 refine mono σ H _ _ (fun b H1 q=> ?_) (hs σ H p)
 cases b with
 |true=>exact ⟨_,fun σ' H' ⟨p',l⟩=>⟨_,l,rfl,p'⟩,q⟩
 |false=>exact q
end L2
namespace L2
open PySem PySem.Spec PyProof.Rows
abbrev R2:=V→V→Hp→VK→Prop
def K7 (X:Cx)(f:Value→Value→Sem Value)(r:R2):Prop:=
 ∀(pins:List (Addr×Obj)) (s:Shared) (σ:St) (H:Hp) (x y:V) (v u:Value) (Q:VK),h7 X pins σ H s→n6 x v→n6 y u→r x y H Q→
  wpAny (model X.prog X.w) X.A (f v u) (EP X pins σ Q) X.xe s
def UnR (X:Cx)(f:Value→Sem Value)(r:V→Hp→VK→Prop):Prop:=
 ∀(pins:List (Addr×Obj)) (s:Shared) (σ:St) (H:Hp) (x:V) (v:Value) (Q:VK),h7 X pins σ H s→n6 x v→r x H Q→
  wpAny (model X.prog X.w) X.A (f v) (EP X pins σ Q) X.xe s
def R1 (X:Cx)(f:Value)(r:List V→Hp→VK→Prop):Prop:=
 ∀(pins:List (Addr×Obj)) (s:Shared) (σ:St) (H:Hp) (xs:List V) (us:List Value) (Q:VK),h7 X pins σ H s→j9 xs us→r xs H Q→
  wpAny (model X.prog X.w) X.A (call f us) (EP X pins σ Q) X.xe s
def tOp (r:R2)(ta tb:TE):TE:=fun σ H Q=>ta σ H fun x H1=>tb σ H1 fun y H2=>r x y H2 Q
def tUn (r:V→Hp→VK→Prop)(ta:TE):TE:=fun σ H Q=>ta σ H fun x H1=>r x H1 Q
def rI (C:Int→Int→Prop)(g:Int→Int→V):R2:=fun x y H Q=>∃i j,x= .int i∧y= .int j∧C i j∧Q (g i j) H
def rI0 (g:Int→Int→V):R2:=fun x y H Q=>∃i j,x= .int i∧y= .int j∧Q (g i j) H
def rU (g:Int→V):V→Hp→VK→Prop:=fun x H Q=>∃i,x= .int i∧Q (g i) H
section
variable {X:Cx} {a b c:Expr} {ta tb tc:TE} {pos:Pos}
theorem ck5 (ha:PE X a ta)(hb:PE X b tb){pins:List (Addr×Obj)}{s:Shared}{σ:St}{H:Hp}{R:V→V→Hp→Prop}(I:h7 X pins σ H s)
   (h:ta σ H fun x H1=>tb σ H1 fun y H2=>R x y H2) {Q:Value→Shared→Prop} {f:Value→Value→Sem Value}
   (hf:∀v u s2 x y H2,h7 X pins σ H2 s2→n6 x v→n6 y u→R x y H2→wpAny (model X.prog X.w) X.A (f v u) Q X.xe s2):
   wpAny (model X.prog X.w) X.A (eval a X.env) (fun v s₁=>wpAny (model X.prog X.w) X.A (eval b X.env) (fun u s₂=>wpAny (model X.prog X.w) X.A (f v u) Q X.xe s₂) X.xe s₁) X.xe s:=by
 refine o5 (ha pins s σ H _ I h) fun v s1 ⟨x,H1,I1,r1,q1⟩=> ?_
 refine o5 (hb pins s1 σ H1 _ I1 q1) fun u s2 ⟨y,H2,I2,r2,q2⟩=> ?_
 exact hf v u s2 x y H2 I2 r1 r2 q2
theorem l7 {op:Operator}{r:R2}(ho:K7 X (binaryOp op) r)(ha:PE X a ta)(hb:PE X b tb):PE X (.BinOp a op b pos) (tOp r ta tb):=by
 intro pins s σ H Q I h
 exact wpAny_BinOp (ck5 ha hb I h fun v u s2 x y H2 I2 rx ry q=>ho pins s2 σ H2 x y v u Q I2 rx ry q)
theorem cq8 {op:UnaryOp}{r:V→Hp→VK→Prop}(ho:UnR X (unaryOp op) r)(ha:PE X a ta):PE X (.UnaryOp op a pos) (tUn r ta):=by
 intro pins s σ H Q I h
 exact UnaryOp_ (o5 (ha pins s σ H _ I h) fun v s1 ⟨x,H1,I1,r1,q1⟩=>ho pins s1 σ H1 x v Q I1 r1 q1)
theorem opI {f:Value→Value→Sem Value}{C:Int→Int→Prop}{g:Int→Int→Int}
   (rule:∀(i j:Int) (t u:Tok) (s:Shared) (Q:Value→Shared→Prop) (E:Value→Shared→Prop),C i j→Q (.int (g i j) s.toks) {s with toks:=s.toks+1}→wpAny (model X.prog X.w) X.A (f (.int i t) (.int j u)) Q E s):
   K7 X f (rI C fun i j=> .int (g i j)):=by
 intro pins s σ H x y v u Q I rx ry h
 obtain ⟨i,j,rfl,rfl,hc,q⟩:=h
 obtain ⟨t,rfl⟩:=rx
 obtain ⟨t',rfl⟩:=ry
 exact rule i j t t' s _ _ hc ⟨.int (g i j),H,I.tok _,⟨_,rfl⟩,q⟩
theorem cz1 {f:Value→Value→Sem Value}{g:Int→Int→Int}
   (rule:∀(i j:Int) (t u:Tok) (s:Shared) (Q:Value→Shared→Prop) (E:Value→Shared→Prop),Q (.int (g i j) s.toks) {s with toks:=s.toks+1}→wpAny (model X.prog X.w) X.A (f (.int i t) (.int j u)) Q E s):
   K7 X f (rI0 fun i j=> .int (g i j)):=by
 intro pins s σ H x y v u Q I rx ry h
 obtain ⟨i,j,rfl,rfl,q⟩:=h
 obtain ⟨t,rfl⟩:=rx
 obtain ⟨t',rfl⟩:=ry
 exact rule i j t t' s _ _ ⟨.int (g i j),H,I.tok _,⟨_,rfl⟩,q⟩
theorem by2 {f:Value→Value→Sem Value}{g:Int→Int→Bool}
   (rule:∀(i j:Int) (t u:Tok) (s:Shared) (Q:Value→Shared→Prop) (E:Value→Shared→Prop),Q (.bool (g i j)) s→wpAny (model X.prog X.w) X.A (f (.int i t) (.int j u)) Q E s):
   K7 X f (rI0 fun i j=> .bl (g i j)):=by
 intro pins s σ H x y v u Q I rx ry h
 obtain ⟨i,j,rfl,rfl,q⟩:=h
 obtain ⟨t,rfl⟩:=rx
 obtain ⟨t',rfl⟩:=ry
 exact rule i j t t' s _ _ ⟨.bl (g i j),H,I,rfl,q⟩
def dk6 (i j:Int):Prop:=0 < j∧j < 1073741824
def cz2 (i j:Int):Prop:=0≤j∧j≤1000000∧i.natAbs < 2^64
def ck6 (i j:Int):Prop:=(-(2^64) < i∧i < 2^64)∨(-(2^64) < j∧j < 2^64)
theorem ck6.ok {i j:Int}(h:ck6 i j):IntMulOk i j:=by
 rcases h with ⟨h1,h2⟩|⟨h1,h2⟩
 · exact .of_left (intBits_le_64 h1 h2)
 · exact .of_right (intBits_le_64 h1 h2)
theorem G2:K7 X (binaryOp .Add) (rI0 fun i j=> .int (i+j)):=cz1 fun _ _ _ _ _ _ _ q=>add_int q
theorem bi6:K7 X (binaryOp .Sub) (rI0 fun i j=> .int (i - j)):=cz1 fun _ _ _ _ _ _ _ q=>sub_int q
theorem N6:K7 X (binaryOp .Mult) (rI ck6 fun i j=> .int (i*j)):=opI fun _ _ _ _ _ _ _ hc q=>mul_int q hc.ok
theorem bs9:K7 X (binaryOp .FloorDiv) (rI dk6 fun i j=> .int (i/j)):=opI fun i j _ _ _ _ _ hc q=>by
 have h1:(0:Int) < j:=hc.1
 have h2:j < 1073741824:=hc.2
 exact floordiv_int (by omega) (by rw[eg6 i (by omega)];exact q) (.inl (PyProof.noPylong_small (by omega)))
theorem B6:K7 X (binaryOp .Mod) (rI (fun _ j=>0 < j) fun i j=> .int (i%j)):=opI fun i j _ _ _ _ _ hc q=>by
 have h1:(0:Int) < j:=hc
 exact mod_int' (by omega) (by rw[Int.fmod_eq_emod_of_nonneg i (by omega)];exact q)
theorem cz3:K7 X (binaryOp .Pow) (rI cz2 fun i j=> .int (i^j.toNat)):=opI fun _ _ _ _ _ _ _ hc q=>pow_int_small hc.1 hc.2.1 hc.2.2 q
theorem unI {f:Value→Sem Value}{g:Int→Int}
   (rule:∀(i:Int) (t:Tok) (s:Shared) (Q:Value→Shared→Prop) (E:Value→Shared→Prop),Q (.int (g i) s.toks) {s with toks:=s.toks+1}→wpAny (model X.prog X.w) X.A (f (.int i t)) Q E s):
   UnR X f (rU fun i=> .int (g i)):=by
 intro pins s σ H x v Q I rx h
 obtain ⟨i,rfl,q⟩:=h
 obtain ⟨t,rfl⟩:=rx
 exact rule i t s _ _ ⟨.int (g i),H,I.tok _,⟨_,rfl⟩,q⟩
theorem cc6:UnR X (unaryOp .USub) (rU fun i=> .int (-i)):=unI fun _ _ _ _ _ q=>neg_int q
end
def cz4:V→V→Bool
 | .non,.non=>true| .non,.int _=>true| .int _,.non=>true| .non,.bl _=>true| .bl _,.non=>true| .non,.str _=>true| .str _,.non=>true
 | .int _,.int _=>true| .bl _,.bl _=>true| .str _,.str _=>true| .byt _,.byt _=>true
 | .int _,.str _=>true| .str _,.int _=>true| .bl _,.str _=>true| .str _,.bl _=>true
 |_,_=>false
def rEq:R2:=fun x y H Q=>cz4 x y=true∧Q (.bl (decide (x=y))) H
def rNe:R2:=fun x y H Q=>cz4 x y=true∧Q (.bl (!decide (x=y))) H
theorem bt0 {i j:Int}:decide (V.int i=V.int j)=(i==j):=by
 rw[dx3]
 simp
theorem cc7 {i j:Bool}:decide (V.bl i=V.bl j)=(i==j):=by
 rw[dx3]
 simp
theorem bt1 {i j:Str}:decide (V.str i=V.str j)=(i==j):=by
 rw[dx3]
 simp
theorem bt2 {i j:Array UInt8}:decide (V.byt i=V.byt j)=(i.toList==j.toList):=by
 rw[dx3]
 cases i
 cases j
 simp
section
variable {X:Cx} {a b c:Expr} {ta tb tc:TE} {pos:Pos}
theorem t6 {pins:List (Addr×Obj)}{σ:St}{H:Hp}{s:Shared}{Q:VK}{k k':Bool}(I:h7 X pins σ H s)(q:Q (.bl k) H)(e:k=k'):EP X pins σ Q (.bool k') s:=by
 subst e
 exact ⟨.bl k,H,I,rfl,q⟩
theorem X7:K7 X (compareOp .Eq) rEq:=by
 intro pins s σ H x y v u Q I rx ry h
 obtain ⟨hs,q⟩:=h
 cases x with
 |non=>
  cases rx
  cases y with
  |non=>cases ry;exact PySem.EqNone.eq_none_none (t6 I q (by simp))
  |bl j=>cases ry;exact PySem.EqNone.eq_none_bool (t6 I q (by simp))
  |int j=>obtain ⟨t',rfl⟩:=ry;exact PySem.EqNone.eq_none_int (t6 I q (by simp))
  |str j=>obtain ⟨t',rfl⟩:=ry;exact PySem.EqNone.eq_none_str (t6 I q (by simp))
  |_=>exact absurd (show false=true from hs) dq2
 |bl i=>
  cases rx
  cases y with
  |non=>cases ry;exact PySem.EqNone.eq_bool_none (t6 I q (by simp))
  |bl j=>cases ry;exact eq_bool (t6 I q cc7)
  |str j=>obtain ⟨t',rfl⟩:=ry;exact PySem.EqMixed.eq_bool_str (t6 I q (by simp))
  |_=>exact absurd (show false=true from hs) dq2
 |int i=>
  obtain ⟨t,rfl⟩:=rx
  cases y with
  |non=>cases ry;exact PySem.EqNone.eq_int_none (t6 I q (by simp))
  |int j=>obtain ⟨t',rfl⟩:=ry;exact eq_int (t6 I q bt0)
  |str j=>obtain ⟨t',rfl⟩:=ry;exact PySem.EqMixed.eq_int_str (t6 I q (by simp))
  |_=>exact absurd (show false=true from hs) dq2
 |str i=>
  obtain ⟨t,rfl⟩:=rx
  cases y with
  |non=>cases ry;exact PySem.EqNone.eq_str_none (t6 I q (by simp))
  |bl j=>cases ry;exact PySem.EqMixed.eq_str_bool (t6 I q (by simp))
  |int j=>obtain ⟨t',rfl⟩:=ry;exact PySem.EqMixed.eq_str_int (t6 I q (by simp))
  |str j=>obtain ⟨t',rfl⟩:=ry;exact eq_str (t6 I q bt1)
  |_=>exact absurd (show false=true from hs) dq2
 |byt i=>
  obtain ⟨t,rfl⟩:=rx
  cases y with
  |byt j=>obtain ⟨t',rfl⟩:=ry;exact PySem.W.eq_bytes (t6 I q bt2)
  |_=>exact absurd (show false=true from hs) dq2
 |_=>cases y<;>exact absurd (show false=true from hs) dq2
theorem X8:K7 X (compareOp .NotEq) rNe:=by
 intro pins s σ H x y v u Q I rx ry h
 obtain ⟨hs,q⟩:=h
 cases x with
 |non=>
  cases rx
  cases y with
  |non=>cases ry;exact PySem.EqNone.ne_none_none (t6 I q (by simp))
  |bl j=>cases ry;exact PySem.EqNone.ne_none_bool (t6 I q (by simp))
  |int j=>obtain ⟨t',rfl⟩:=ry;exact PySem.EqNone.ne_none_int (t6 I q (by simp))
  |str j=>obtain ⟨t',rfl⟩:=ry;exact PySem.EqNone.ne_none_str (t6 I q (by simp))
  |_=>exact absurd (show false=true from hs) dq2
 |bl i=>
  cases rx
  cases y with
  |non=>cases ry;exact PySem.EqNone.ne_bool_none (t6 I q (by simp))
  |bl j=>cases ry;exact ne_bool (t6 I q (congrArg not cc7))
  |str j=>obtain ⟨t',rfl⟩:=ry;exact PySem.EqMixed.ne_bool_str (t6 I q (by simp))
  |_=>exact absurd (show false=true from hs) dq2
 |int i=>
  obtain ⟨t,rfl⟩:=rx
  cases y with
  |non=>cases ry;exact PySem.EqNone.ne_int_none (t6 I q (by simp))
  |int j=>obtain ⟨t',rfl⟩:=ry;exact ne_int (t6 I q (congrArg not bt0))
  |str j=>obtain ⟨t',rfl⟩:=ry;exact PySem.EqMixed.ne_int_str (t6 I q (by simp))
  |_=>exact absurd (show false=true from hs) dq2
 |str i=>
  obtain ⟨t,rfl⟩:=rx
  cases y with
  |non=>cases ry;exact PySem.EqNone.ne_str_none (t6 I q (by simp))
  |bl j=>cases ry;exact PySem.EqMixed.ne_str_bool (t6 I q (by simp))
  |int j=>obtain ⟨t',rfl⟩:=ry;exact PySem.EqMixed.ne_str_int (t6 I q (by simp))
  |str j=>obtain ⟨t',rfl⟩:=ry;exact ne_str (t6 I q (congrArg not bt1))
  |_=>exact absurd (show false=true from hs) dq2
 |byt i=>
  obtain ⟨t,rfl⟩:=rx
  cases y with
  |byt j=>obtain ⟨t',rfl⟩:=ry;exact PySem.W.ne_bytes (t6 I q (congrArg not bt2))
  |_=>exact absurd (show false=true from hs) dq2
 |_=>cases y<;>exact absurd (show false=true from hs) dq2
theorem au8:K7 X (compareOp .Lt) (rI0 fun i j=> .bl (decide (i < j))):=by2 fun _ _ _ _ _ _ _ q=>lt_int q
theorem by3:K7 X (compareOp .LtE) (rI0 fun i j=> .bl (decide (i≤j))):=by2 fun _ _ _ _ _ _ _ q=>le_int q
theorem au9:K7 X (compareOp .Gt) (rI0 fun i j=> .bl (decide (j < i))):=by2 fun _ _ _ _ _ _ _ q=>gt_int q
theorem by4:K7 X (compareOp .GtE) (rI0 fun i j=> .bl (decide (j≤i))):=by2 fun _ _ _ _ _ _ _ q=>ge_int q
theorem o9 (b:Expr){op:CmpOp}(h:op≠.In:=by decide)(h2:op≠.NotIn:=by decide):behindInMarks op b=false:=by
 have e1:(op==CmpOp.In)=false:=by cases op<;>first|rfl|exact absurd rfl h
 have e2:(op==CmpOp.NotIn)=false:=by cases op<;>first|rfl|exact absurd rfl h2
 cases b<;>simp [behindInMarks,e1,e2]
theorem bt3 {op:CmpOp}{r:R2}(ho:K7 X (compareOp op) r)(ha:PE X a ta)(hb:PE X b tb)(hm:behindInMarks op b=false):PE X (.Compare a [op] [b] pos) (tOp r ta tb):=by
 intro pins s σ H Q I h
 exact wpAny_Compare1 (ck5 ha hb I h fun v u s2 x y H2 I2 rx ry q=>ho pins s2 σ H2 x y v u Q I2 rx ry q) hm
def df5 (t:TE):TT:=fun σ H Q=>t σ H fun x H'=>∃k,x= .bl k∧Q k H'
theorem m9 {op:CmpOp}{r:R2}(ho:K7 X (compareOp op) r)(ha:PE X a ta)(hb:PE X b tb)(hm:behindInMarks op b=false):PT X (.Compare a [op] [b] pos) (df5 (tOp r ta tb)):=by
 intro pins s σ H Q I h
 refine wpAny_isTrue_Compare1 (o5 (ha pins s σ H _ I h) fun v s1 ⟨x,H1,I1,r1,q1⟩=>o5 (hb pins s1 σ H1 _ I1 q1) fun u s2 ⟨y,H2,I2,r2,q2⟩=>
   o5 (ho pins s2 σ H2 x y v u _ I2 r1 r2 q2) fun c s3 ⟨z,H3,I3,r3,k,e,q3⟩=> ?_) hm
 subst e
 cases r3
 exact wpAny_truthy_bool ⟨H3,I3,q3⟩
theorem av0:(sizeLine:Nat) < 2^63:=by rw[sizeLine_eq];decide
theorem ab5 {x:V}{us:List Value}(r:j9 [x] us):∃u,us=[u]∧n6 x u:=by
 cases r with
 |cons r1 r2=>cases r2;exact ⟨_,rfl,r1⟩
theorem by5 {x y:V}{us:List Value}(r:j9 [x,y] us):∃u w',us=[u,w']∧n6 x u∧n6 y w':=by
 cases r with
 |cons r1 r2=>
  cases r2 with
  |cons r3 r4=>cases r4;exact ⟨_,_,rfl,r1,r3⟩
theorem cc8 (hc:X.calm=true):R1 X (.builtin "max") (fun xs H Q=>∃i j,xs=[.int i,.int j]∧Q (.int (if j > i then j else i)) H):=by
 intro pins s σ H xs us Q I r h
 obtain ⟨i,j,rfl,q⟩:=h
 obtain ⟨u,w',rfl,⟨t,rfl⟩,⟨t',rfl⟩⟩:=by5 r
 refine max_two_ints (I.ok.hd hc) fun h' tk k=>⟨_,H,I.kept k,?_,q⟩
 by_cases hj:j > i
 · rw[if_pos hj,if_pos hj];exact ⟨_,rfl⟩
 · rw[if_neg hj,if_neg hj];exact ⟨_,rfl⟩
theorem cc9 (hc:X.calm=true):R1 X (.builtin "min") (fun xs H Q=>∃i j,xs=[.int i,.int j]∧Q (.int (if j < i then j else i)) H):=by
 intro pins s σ H xs us Q I r h
 obtain ⟨i,j,rfl,q⟩:=h
 obtain ⟨u,w',rfl,⟨t,rfl⟩,⟨t',rfl⟩⟩:=by5 r
 refine min_two_ints (I.ok.hd hc) fun h' tk k=>⟨_,H,I.kept k,?_,q⟩
 by_cases hj:j < i
 · rw[if_pos hj,if_pos hj];exact ⟨_,rfl⟩
 · rw[if_neg hj,if_neg hj];exact ⟨_,rfl⟩
end
end L2
namespace L2
open PySem PySem.Spec PyProof.Rows
structure ck7 (h:Heap)(x dx C:Addr)(mA:Str→Option Value):Prop where
 obj:h.get? x=some (PySem.W.instObj C dx)
 ns:h.Ns1 dx mA
 ne:dx≠x
theorem cd0 {h:Heap}{dx:Addr}{mA:Str→Option Value}(n:h.Ns1 dx mA):∃od,h.get? dx=some od∧∀name,PySem.W.lookIn name od=some (mA name):=by
 obtain ⟨o,es,ep,ho,hd,hk,_,hm⟩:=n
 refine ⟨o,ho,fun name=> ?_⟩
 have e:=hm name
 unfold nsFind findBy at e
 rw[←Array.find?_toList] at e
 unfold PySem.W.lookIn
 rw[hd]
 dsimp only
 split
 · rename_i y q
   rw[q] at e
   exact congrArg some e
 · rename_i q
   rw[q] at e
   have a:es.toList.any (·.refKey)=false:=by
     rw[List.any_eq_false]
     intro y hy
     obtain ⟨z,t,hkey⟩:=hk y (Array.mem_toList_iff.mp hy)
     simp [DictEntry.refKey,hkey]
   have a':¬es.toList.any (·.refKey)=true:=by rw[a];exact dq2
   rw[if_neg a']
   exact congrArg some e
theorem ck7.look {h:Heap}{x dx C:Addr}{mA:Str→Option Value}(I:ck7 h x dx C mA):∃od,PySem.W.InstAt h x (PySem.W.instObj C dx) C (some od)∧∀name,PySem.W.lookIn name od=some (mA name):=
 let ⟨od,ho,hl⟩:=cd0 I.ns
 ⟨od,⟨I.obj,rfl,rfl,ho⟩,hl⟩
theorem Y7.some_of {v:V}{o:Option Value}(r:Y7 (some v) o):∃u,o=some u∧n6 v u:=by
 cases o with
 |none=>exact (show False from r).elim
 |some u=>exact ⟨u,rfl,r⟩
section
variable {P:Program} {w:World} {H H':Hp} {h h':Heap} {a C dx:Addr} {fs fs':List (Str×V)}
theorem cs2 (hok:G1 P w H h)(e:H a=some (.ins C dx fs)):∃mA,ck7 h a dx C mA∧(∀f,Y7 (fs.lookup f) (mA f))∧PySem.Within mA (fs.map (·.1))∧fs.length≤1000∧H dx=some (.own a):=by
 obtain ⟨d,z,ne,ob,mA,n,r,q⟩:=(show r6 P w H h a (.ins C dx fs) from hok a _ e)
 exact ⟨mA,⟨ob,n,ne⟩,r,q,z,d⟩
end
structure Cls (K:PySem.W.Frag)(C:Addr):Prop where
 pg:PySem.W.plainGet K C Str.empty=true
 hd:PySem.W.hasDictIn K C=true
 po:PySem.W.plainOver K C=true
 sa:PySem.W.findIn K (.ref C) "__setattr__"=some (some (.builtin "object.__setattr__"))
theorem Cls.get {K:PySem.W.Frag}{C:Addr}(c:Cls K C)(f:Str):PySem.W.plainGet K C f=true:=c.pg
section
variable {X:Cx} {pins:List (Addr×Obj)} {σ:St} {H:Hp} {s:Shared} {A:Around} {E:Value→Shared→Prop} {Q:Value→Shared→Prop} {c:Value} {b:Bool}
inductive R3 (K:PySem.W.Frag)(H:Hp):V→Value→Prop where
 |non:R3 K H .non (.type "NoneType")
 |bl (x:Bool):R3 K H (.bl x) (.type "bool")
 |int (i:Int):R3 K H (.int i) (.type "int")
 |str (x:Str):R3 K H (.str x) (.type "str")
 |flt (x:UInt64):R3 K H (.flt x) (.type "float")
 |lst {a:Addr} {xs:List V} (e:H a=some (.lst xs)):R3 K H (.ref a) (.type "list")
 |frz {a:Addr} {o:Obj} {xs:List V} (e:H a=some (.frz o (.lst xs))):R3 K H (.ref a) (.type "list")
 |tup {a:Addr} {xs:List V} (e:H a=some (.tup xs)):R3 K H (.ref a) (.type "tuple")
 |dK {a:Addr} {kvs:List (o4×V)} (e:H a=some (.dK kvs)):R3 K H (.ref a) (.type "dict")
 |dT {a:Addr} {kvs:List (List o4×V)} (e:H a=some (.dT kvs)):R3 K H (.ref a) (.type "dict")
 |ins {a C dx:Addr} {fs:List (Str×V)} (e:H a=some (.ins C dx fs)) (cl:Cls K C) (ha:PySem.W.findIn K (.ref C) "__class__"=some (some (.builtin "object.__class__")))
     (hn:PySem.W.specialIn K (.builtin "object.__class__") "__get__"=some (some (.builtin "getset_descriptor.__get__"))) (htk:PySem.W.takesIn K (.builtin "object.__class__")=some true)
     (hm:PySem.W.mroIn K C (.type "object")=some true):R3 K H (.ref a) (.ref C)
theorem cd1 {x:V}{u t:Value}(I:h7 X pins σ H s)(rx:n6 x u)(ty:R3 X.K H x t)(e:PySem.W.kitOne X.K t c=some b)(h:∀tk,Q (.bool b) {s with toks:=tk}):
   wpAny (model X.prog X.w) A (call (.builtin "isinstance") [u,c]) Q E s:=by
 cases ty with
 |non=>cases (show u=Value.none from rx);exact PySem.W.kia_one PySem.W.kitx_none I.kIn True.intro e (fun z=>nomatch z) h
 |bl y=>cases (show u=Value.bool y from rx);exact PySem.W.kia_one PySem.W.kitx_bool I.kIn True.intro e (fun z=>nomatch z) h
 |int i=>obtain ⟨t,q⟩:=(show ∃t,u=Value.int i t from rx);cases q;exact PySem.W.kia_one PySem.W.kitx_int I.kIn True.intro e (fun z=>nomatch z) h
 |str y=>obtain ⟨t,q⟩:=(show ∃t,u=Value.str y t from rx);cases q;exact PySem.W.kia_one PySem.W.kitx_str I.kIn True.intro e (fun z=>nomatch z) h
 |flt y=>obtain ⟨t,q⟩:=(show ∃t,u=Value.float y t from rx);cases q;exact PySem.W.kia_one PySem.W.kitx_float I.kIn True.intro e (fun z=>nomatch z) h
 |@lst a xs ea=>
  cases (show u=Value.ref a from rx)
  obtain ⟨_,_,n,_,h1⟩:=(show r6 X.prog X.w H s.heap a (.lst xs) from I.hok a _ ea)
  exact PySem.W.kia_one PySem.W.kitx_list I.kIn ⟨_,h1,rfl⟩ e (fun z=>nomatch z) h
 |@frz a ob xs ea=>
  cases (show u=Value.ref a from rx)
  obtain ⟨_,_,_,n,_,h1⟩:=(show r6 X.prog X.w H s.heap a (.frz ob (.lst xs)) from I.hok a _ ea)
  exact PySem.W.kia_one PySem.W.kitx_list I.kIn ⟨_,h1,rfl⟩ e (fun z=>nomatch z) h
 |@tup a xs ea=>
  cases (show u=Value.ref a from rx)
  obtain ⟨_,_,_,p⟩:=(show r6 X.prog X.w H s.heap a (.tup xs) from I.hok a _ ea)
  obtain ⟨o,h1,h2,_⟩:=p
  exact PySem.W.kia_one PySem.W.kitx_tuple I.kIn ⟨o,h1,h2⟩ e (fun z=>nomatch z) h
 |@dK a kvs ea=>
  cases (show u=Value.ref a from rx)
  obtain ⟨_,_,vs,_,p⟩:=(show r6 X.prog X.w H s.heap a (.dK kvs) from I.hok a _ ea)
  obtain ⟨o,es,ep,h1,h2,_⟩:=p
  exact PySem.W.kia_one PySem.W.kitx_dict I.kIn ⟨o,h1,h2.1⟩ e (fun z=>nomatch z) h
 |@dT a kvs ea=>
  cases (show u=Value.ref a from rx)
  obtain ⟨_,_,xs,_,o,es,ep,h1,h2,_⟩:=(show r6 X.prog X.w H s.heap a (.dT kvs) from I.hok a _ ea)
  exact PySem.W.kia_one PySem.W.kitx_dict I.kIn ⟨o,h1,h2.1⟩ e (fun z=>nomatch z) h
 |@ins a C dx fs ea cl ha hn htk hm=>
  cases (show u=Value.ref a from rx)
  obtain ⟨mA,O,_⟩:=cs2 I.hok ea
  obtain ⟨od,J,_⟩:=O.look
  exact PySem.W.kia_one (PySem.W.kitx_own (cl.get _) cl.hd ha hn htk hm) I.kIn J e (fun z=>nomatch z) h
end
end L2
namespace L2
open PySem PySem.Spec PyProof.Rows
structure m7 (k:Nat)(A:Around):Prop where
 hd:A.handled=none
 dp:A.depth+3*k+5 < recursionLimit
 un:A.units+16*k+200 < cLine
 gd:A.guards=some []
theorem m7.mono {j k:Nat}{A:Around}(r:m7 k A)(h:j≤k):m7 j A:=⟨r.hd,by have:=r.dp;omega,by have:=r.un;omega,r.gd⟩
theorem m7.deeper {k:Nat}{A:Around}(r:m7 (k+1) A)(env:Env):m7 k (A.deeper env):=
 ⟨r.hd,by have:=r.dp;show A.depth+1+3*k+5 < _;omega,by have:=r.un;show A.units+3+16*k+200 < _;omega,r.gd⟩
theorem m7.depth {k:Nat}{A:Around}(r:m7 k A):A.depth < recursionLimit:=by have:=r.dp;omega
theorem m7.units {k:Nat}{A:Around}(r:m7 k A):A.units+64 < cLine:=by have:=r.un;omega
def cz6:TA:=fun _ H Q=>Q [] H
def cq9 (ta:TE)(tr:TA):TA:=fun σ H Q=>ta σ H fun x H1=>tr σ H1 fun xs H2=>Q (x::xs) H2
section
variable {X:Cx} {e:Expr} {es:List Expr} {te:TE} {t:TA} {pos:Pos}
theorem c6:PA X [] cz6:=fun _ _ _ _ H Q I h=>Calls.spliced_nil ⟨[],H,I,.nil,h⟩
theorem c5 (ha:PE X e te)(hr:PA X es t)(hs:starEach (e::es) X.env=(false,eval e X.env)::starEach es X.env:=by rfl):PA X (e::es) (cq9 te t):=by
 intro pos pins s σ H Q I h
 rw[hs]
 show wpAny _ _ (spliced ((false,eval e X.env)::backTo pos (starEach es X.env))) _ _ s
 refine Calls.spliced_cons (o5 (ha pins s σ H _ I h) fun u s1 ⟨x,H1,I1,r1,q1⟩=> ?_)
 exact o5 (hr pos pins s1 σ H1 _ I1 q1) fun us s2 ⟨xs,H2,I2,r2,q2⟩=>⟨x::xs,H2,I2,.cons r1 r2,q2⟩
def dk7 (t:TA):TE:=fun σ H Q=>t σ H fun xs H1=>xs.length≤sizeLine∧∀p,H1 p=none→Q (.ref p) (c9 H1 p (.tup xs))
def dk8 (t:TA):TE:=fun σ H Q=>t σ H fun xs H1=>xs.length≤sizeLine∧∀p,H1 p=none→Q (.ref p) (c9 H1 p (.lst xs))
theorem ak4 {x1}(h:PA X es t):PE X (.Tuple es x1 pos) (dk7 t):=by
 intro pins s σ H Q I hq
 refine wpAny_Tuple_spliced (o5 (h pos pins s σ H _ I hq) fun us s1 ⟨xs,H1,I1,r,z,q⟩=>⟨by rw[←r.length];exact z,?_⟩)
 have hf:H1 s1.heap.objs.size=none:=I1.hok.fresh (do1 _)
 refine ⟨.ref s1.heap.objs.size,c9 H1 s1.heap.objs.size (.tup xs),I1.laid (t':=s1.toks) (fun b u e=>Heap.get?_push_of_some _ e) (do1 _) ?_,rfl,q _ hf⟩
 exact ⟨z,us,r,⟨_,Heap.get?_push_size _ rfl,rfl,_,rfl⟩⟩
theorem w4 (h:PA X es t):PE X (.List es pos) (dk8 t):=by
 intro pins s σ H Q I hq
 refine wpAny_List_spliced (o5 (h pos pins s σ H _ I hq) fun us s1 ⟨xs,H1,I1,r,z,q⟩=>⟨by rw[←r.length];exact z,?_⟩)
 have hf:H1 s1.heap.objs.size=none:=I1.hok.fresh (do1 _)
 refine ⟨.ref s1.heap.objs.size,c9 H1 s1.heap.objs.size (.lst xs),I1.laid (t':=s1.toks) (fun b u e=>Heap.get?_push_of_some _ e) (do1 _) ?_,rfl,q _ hf⟩
 exact ⟨z,us,0,r,Heap.get?_push_size _ rfl⟩
end
abbrev Sp:=List V→Hp→VK→XK→Prop
abbrev CXT:=List Env→Hp→Shared→XK→Value→Shared→Prop
structure by6 (P:Program)(w:World)(K:PySem.W.Frag)(mg:Str→Option Value)(base:Heap)(A:Around)(outer:List Env)(s:Shared)(H:Hp):Prop where
 frames:A.frames=some outer
 mod:Mod K mg base
 bs:∀b o,base.get? b=some o→s.heap.get? b=some o∧H b=none
 bsz:base.objs.size≤s.heap.objs.size
 funs:s.heap.FunFrames base outer
 frf:∀b∈frs outer,H b=none
 hok:G1 P w H s.heap
 bare:AllBare s.gens
def CE (outer:List Env)(P:Program)(w:World)(H:Hp)(s:Shared)(Q:VK)(u:Value)(s':Shared):Prop:=
 ∃v H',s'.os=s.os∧AllBare s'.gens∧Un (frs outer) [] H H' s.heap s'.heap∧G1 P w H' s'.heap∧n6 v u∧Q v H'
def CR (CX:CXT)(outer:List Env)(P:Program)(w:World)(H:Hp)(s:Shared)(Q:VK)(E:XK)(r:Result)(s':Shared):Prop:=
 match r with
 | .ok (.ret u)=>CE outer P w H s Q u s'
 | .ok _=>False
 | .error e=>CX outer H s E e s'
structure o8 (P:Program)(w:World)(K:PySem.W.Frag)(mg:Str→Option Value)(base:Heap)(CX:CXT)(k:Nat)(f:Addr)(fd:FuncData)(ps:List Str)(sp:Sp):Prop where
 len:∀vs H Q E,sp vs H Q E→vs.length=ps.length
 run:∀(A:Around) (outer:List Env) (s:Shared) (H:Hp) (args:Args) (us:List Value) (vs:List V) (Q:VK) (E:XK),m7 k A→by6 P w K mg base A outer s H→BindsTo s fd args (ps.zip us)→j9 vs us→sp vs H Q E→
   codeAny (model P w) A (.call (.ref f) args) (CR CX outer P w H s Q E) s
theorem o8.imp {P:Program}{w:World}{K:PySem.W.Frag}{mg:Str→Option Value}{base:Heap}{CX:CXT}{k:Nat}{f:Addr}{fd:FuncData}{ps:List Str}{sp sp':Sp}(F:o8 P w K mg base CX k f fd ps sp)
   (h:∀vs H Q E,sp' vs H Q E→sp vs H Q E):o8 P w K mg base CX k f fd ps sp':=
 ⟨fun vs H Q E q=>F.len vs H Q E (h _ _ _ _ q),fun A outer s H args us vs Q E hr he hb hv hs=>F.run A outer s H args us vs Q E hr he hb hv (h _ _ _ _ hs)⟩
section
variable {X:Cx} {pins:List (Addr×Obj)} {σ:St} {H:Hp} {s s':Shared}
theorem h7.env0 (I:h7 X pins σ H s):by6 X.prog X.w X.K X.mg X.base X.A X.stack s H:=
 ⟨I.ok.frames,I.ok.mod,I.bs,dp4 I.ok.bsz I.sz,I.stack,I.stkFree,I.hok,I.bare⟩
theorem h7.after {Q:VK}{u:Value}(I:h7 X pins σ H s)(h:CE X.stack X.prog X.w H s Q u s'):EP X pins σ Q u s':=by
 obtain ⟨v,H',os,bare,un,hok,r,q⟩:=h
 obtain ⟨hh,g,d,t,os'⟩:=s'
 obtain rfl:os'=s.os:=os
 exact ⟨v,H',I.call (h':=hh) (g':=g) (d':=d) (t':=t) (ch:=[]) un hok bare (fun b z=>absurd z (by simp)),r,q⟩
end
def cr0 (sp:Sp)(dvs:List V)(E:XK)(t:TA):TE:=fun σ H Q=>t σ H fun vs H1=>sp (vs++dvs) H1 Q E
def ag3 (K:PySem.W.Frag)(fd:FuncData)(ps:List Str)(ds:List Value):Prop:=
 ∀(s:Shared) (us:List Value),K.In s.heap→(us++ds).length=ps.length→BindsTo s fd ⟨us,[]⟩ (ps.zip (us++ds))
theorem ag3.all {K:PySem.W.Frag}{fd:FuncData}{ps:List Str}(h:∀us:List Value,us.length=ps.length→bindArgs fd ⟨us,[]⟩=pure (ps.zip us)):ag3 K fd ps []:=fun s us _ hl=>by
 rw[dq6] at hl ⊢
 exact .of_eq (h us hl)
def bi7 (CX:CXT)(X:Cx)(E:XK):Prop:=∀(pins:List (Addr×Obj)) (σ:St) (H:Hp) (s:Shared) (e:Value) (s':Shared),h7 X pins σ H s→CX X.stack H s E e s'→X.xe e s'
section
variable {X:Cx} {CX:CXT} {k:Nat} {f C:Addr} {fd:FuncData} {ps:List Str} {sp:Sp} {dvs:List V} {ds:List Value} {E:XK} {x m:Str} {p pos apos:Pos} {e o:Expr} {es:List Expr} {ta:TE} {t:TA}
theorem cz7 {pins:List (Addr×Obj)}{σ:St}{H:Hp}{s:Shared}{Q:VK}{us:List Value}{vs:List V}(F:o8 X.prog X.w X.K X.mg X.base CX k f fd ps sp)(hr:m7 k X.A)(hb:ag3 X.K fd ps ds)(hd:j9 dvs ds)(hx:bi7 CX X E)
   (I:h7 X pins σ H s) (r:j9 vs us) (h:sp (vs++dvs) H Q E):wpAny (model X.prog X.w) X.A (call (.ref f) us) (EP X pins σ Q) X.xe s:=by
 have r2:j9 (vs++dvs) (us++ds):=r.append hd
 have hl:(us++ds).length=ps.length:=by rw[←r2.length];exact F.len _ _ _ _ h
 refine wpAny_call (codeAny_mono (F.run X.A X.stack s H ⟨us,[]⟩ (us++ds) (vs++dvs) Q E hr I.env0 (hb s us I.kIn hl) r2 h) fun r s' hq=> ?_)
 cases r with
 |error e=>exact hx pins σ H s e s' I hq
 |ok fl=>
  cases fl with
  |ret u=>exact I.after hq
  |next=>exact False.elim hq
  |brk=>exact False.elim hq
  |cont=>exact False.elim hq
theorem cs3 (F:o8 X.prog X.w X.K X.mg X.base CX k f fd ps sp)(hr:m7 k X.A)(hg:Gl X x)(hm:X.mg x=some (.ref f))(hk:PySem.W.keepIn X.K (.ref f)=true)(hb:ag3 X.K fd ps ds)(hd:j9 dvs ds)(hx:bi7 CX X E)
   (ha:PA X (e::es) t) (hdb:(x==("__debug__":Str))=false:=by decide) (he:starEach (e::es) X.env=(false,eval e X.env)::starEach es X.env:=by rfl) (hpl:(backTo pos (starEach es X.env)).any (·.1)=false:=by rfl):
   PE X (.Call (.Name x p) (e::es) [] pos) (cr0 sp dvs E t):=by
 intro pins s σ H Q I h
 refine wpAny_Call_Name_kw (bs5 I hg hm ?_ hdb)
 refine PySem.W.callWith_K (h₀:=X.base) I.ok.mod.kin hk (o5 (ha pos pins s σ H _ I h) fun us s1 ⟨vs,H1,I1,r,q⟩=>⟨I1.kIn,?_⟩) he hpl
 exact cz7 F hr hb hd hx I1 r q
end
structure l8 (N P:List Str)(sc:Scope):Prop where
 kind:sc.kind= .function
 co:sc.isCoroutine=false
 gen:sc.isGenerator=false
 nd:N.Nodup
 pre:N.take P.length=P
 par:∀x∈P,sc.names.lookup x=some .local∨sc.names.lookup x=some .cell
 nofree:∀y∈sc.names,y.2≠.free
theorem bd6 {kindOf:Str→Option NameKind}{x:Str}:∀{binds:List (Str×Value)} {m:Str→Option Value},(∀v,(x,v)∉binds)→bindL kindOf binds m x=m x
 |[],_,_=>rfl
 |(n,v)::r,m,h=>by
  unfold bindL
  rw[bd6 fun w hw=>h w (do4 _ hw)]
  split
  · have:x≠n:=by rintro rfl;exact h v do3
    simp [this]
  · rfl
theorem bd7 {kindOf:Str→Option NameKind}{x:Str}:∀{binds:List (Str×Value)} {m:Str→Option Value},(∀v,(x,v)∉binds)→bindC kindOf binds m x=m x
 |[],_,_=>rfl
 |(n,v)::r,m,h=>by
  unfold bindC
  rw[bd7 fun w hw=>h w (do4 _ hw)]
  split
  · rfl
  · have:x≠n:=by rintro rfl;exact h v do3
    simp [this]
theorem bd8 {kindOf:Str→Option NameKind}{x:Str}{v:Value}:∀{P:List Str} {vs:List Value} {i:Nat} {m:Str→Option Value},P.Nodup→P[i]? =some x→vs[i]? =some v→kindOf x=some .local→
   bindL kindOf (P.zip vs) m x=some v
 |[],_,_,_,_,h,_,_=>by simp at h
 |_::_,[],_,_,_,_,h,_=>by simp at h
 |p::P,w::vs,0,m,nd,h1,h2,hk=>by
  simp at h1 h2;subst h1;subst h2
  show bindL kindOf ((p,w)::P.zip vs) m p=_
  unfold bindL
  rw[bd6 fun v hv=>(dr5.mp nd).1 (ei2 hv).1,if_pos hk]
  simp
 |p::P,w::vs,i+1,m,nd,h1,h2,hk=>by
  show bindL kindOf ((p,w)::P.zip vs) m x=_
  unfold bindL
  exact bd8 (i:=i) (dr5.mp nd).2 (by simpa using h1) (by simpa using h2) hk
theorem bd9 {kindOf:Str→Option NameKind}{x:Str}{v:Value}:∀{P:List Str} {vs:List Value} {i:Nat} {m:Str→Option Value},P.Nodup→P[i]? =some x→vs[i]? =some v→kindOf x≠some .local→
   bindC kindOf (P.zip vs) m x=some v
 |[],_,_,_,_,h,_,_=>by simp at h
 |_::_,[],_,_,_,_,h,_=>by simp at h
 |p::P,w::vs,0,m,nd,h1,h2,hk=>by
  simp at h1 h2;subst h1;subst h2
  show bindC kindOf ((p,w)::P.zip vs) m p=_
  unfold bindC
  rw[bd7 fun v hv=>(dr5.mp nd).1 (ei2 hv).1,if_neg hk]
  simp
 |p::P,w::vs,i+1,m,nd,h1,h2,hk=>by
  show bindC kindOf ((p,w)::P.zip vs) m x=_
  unfold bindC
  exact bd9 (i:=i) (dr5.mp nd).2 (by simpa using h1) (by simpa using h2) hk
def X9 (N:List Str)(vs:List V):St:=vs.map some++ds3 (N.length - vs.length) none
def az4 (CX:CXT)(P:Program)(w:World)(K:PySem.W.Frag)(mg:Str→Option Value)(base:Heap)(N:List Str)(qual:Str)(scope:Scope)(f:Addr)(cd:Value)(A:Around)(outer:List Env)(s:Shared)(H:Hp)(E:XK):Cx where
 prog:=P
 w:=w
 K:=K
 mg:=mg
 base:=base
 A:=A.deeper (envOfC qual scope s.heap.objs.size f cd)
 N:=N
 s₀:=s
 H₀:=H
 env:=envOfC qual scope s.heap.objs.size f cd
 outer:=outer
 stack:=envOfC qual scope s.heap.objs.size f cd::outer
 ex:=[]
 calm:=true
 fn:=fun _=>true
 pn:=[]
 xe:=fun e s'=>wpAny (model P w) (A.deeper (envOfC qual scope s.heap.objs.size f cd)) (leaving (envOfC qual scope s.heap.objs.size f cd) e) (fun _ s''=>CX outer H s E e s'') (fun e' s''=>CX outer H s E e' s'') s'
theorem bi8 {sc:Scope}{n:Nat}{x:Str}(h:sc.names.lookup x=some .cell):∃c,(cellsFrom n sc.names []).lookup x=some c:=by
 have q:=PySem.W.cellsFrom_some sc.names n [] (.inl h)
 exact Option.isSome_iff_exists.mp q
theorem cd2 {CX:CXT}{P:Program}{w:World}{K:PySem.W.Frag}{mg:Str→Option Value}{base:Heap}{N ps:List Str}{qual:Str}{scope:Scope}{f:Addr}{cd:Value}{A:Around}{outer:List Env}{s s1:Shared}{H:Hp}{E:XK}{us:List Value}{vs:List V}
   (S:l8 N ps scope) (hd:A.handled=none) (e0:by6 P w K mg base A outer s H) (hl:vs.length=ps.length) (r:j9 vs us)
   (x:InCallC s s.heap.objs.size (bindL (envOfC qual scope s.heap.objs.size f cd).kindOf (ps.zip us) fun _=>none) (cellsFrom (s.heap.objs.size+1) scope.names []) (bindC (envOfC qual scope s.heap.objs.size f cd).kindOf (ps.zip us) fun _=>none) s1):
   h7 (az4 CX P w K mg base N qual scope f cd A outer s H E) [] (X9 N vs) H s1:=by
 have hpl:ps.length≤N.length:=by have:=congrArg ei6 S.pre;rw[dp5] at this;omega
 obtain ⟨h1,tk,rfl,hk⟩:=x.done
 have noA:∀b:Addr,b∉(az4 CX P w K mg base N qual scope f cd A outer s H E).ex:=fun b z=>absurd (show b∈([]:List Addr) from z) (by simp)
 refine ⟨⟨e0.mod,S.kind,rfl,rfl,do1 _,fun y z c h1 h2=> ?_,fun y hy=> ?_,fun y c _ h=> ?_,fun _=>hd,Around.frames_deeper e0.frames,.inr ⟨rfl,rfl⟩,fun b z=>absurd z (noA b),e0.bs,e0.bsz,fun b _ _=>noA b,fun b z=>absurd z (noA b),e0.funs,e0.frf⟩,
   rfl,e0.bare,Un.kept hk,⟨_,x.toInCall.ns,fun i y v h1 h2 h3=> ?_⟩,fun y c h=>⟨_,x.cell y c h⟩,e0.hok.fresh (do1 _),fun y c h=> ?_,fun p hp=>absurd (show p∈([]:List (Addr×Obj)) from hp) (by simp),e0.hok.kept hk,?_⟩
 · exact name_of_addr x.apart (PySem.mem_of_lookup h1) (PySem.mem_of_lookup h2)
 · have hy:scope.names.lookup y=some .cell∨scope.names.lookup y=some .free:=hy
   rcases hy with hy|hy
   · exact bi8 hy
   · exact absurd rfl (S.nofree _ (PySem.mem_of_lookup hy))
 · exact du2 (x.above y c (PySem.mem_of_lookup h))
 · have hi:i < vs.length:=by
     unfold X9 at h2
     by_cases hi:i < vs.length
     · exact hi
     · rw[ds5 (by simpa using hi)] at h2
       rw[eh7] at h2
       split at h2<;>cases h2
   have ha:vs[i]? =some v:=by
     unfold X9 at h2
     rw[dr6 (by simpa using hi),do2] at h2
     cases e:vs[i]? with
     |none=>rw[e] at h2;cases h2
     |some a=>rw[e] at h2;cases h2;rfl
   obtain ⟨u,hu,rv⟩:=r.get ha
   have hp:ps[i]? =some y:=by
     rw[←S.pre,dt2 (by omega)];exact h1
   have ndP:ps.Nodup:=by rw[←S.pre];exact S.nd.sublist (List.take_sublist _ _)
   refine ⟨u,rv,?_⟩
   rcases S.par y (dp0 hp) with k|k
   · exact .inl ⟨k,bd8 ndP hp hu k⟩
   · obtain ⟨c,e⟩:=bi8 (n:=s.heap.objs.size+1) k
     refine .inr ⟨.inl k,c,e,?_⟩
     have q:=x.cell y c e
     rw[bd9 ndP hp hu (by show scope.names.lookup y≠_;rw[k];decide)] at q
     exact q
 · exact e0.hok.fresh (du2 (x.above y c (PySem.mem_of_lookup h)))
 · unfold X9
   show _=N.length
   rw[do6,dn8,dz5]
   omega
theorem df6 {CX:CXT}{P:Program}{w:World}{K:PySem.W.Frag}{mg:Str→Option Value}{base:Heap}{k:Nat}{f:Addr}{name qual:Str}{params:Arguments}{body:List Stmt}{scope:Scope}{dV kV doc pm cdv ct oc:Value}{an od:Option Addr}
   {osl:Array (Option Value)} {N ps:List Str} {sp:Sp} (lk:K.lookup f=some ⟨oc,od,.func (PySem.W.fnOf name qual params body scope dV kV doc pm an cdv ct),osl⟩) (hcd:PySem.W.codeIn K cdv qual=true) (S:l8 N ps scope)
   (len:∀vs H Q E,sp vs H Q E→vs.length=ps.length)
   (hbody:∀(A:Around) (outer:List Env) (s:Shared) (H:Hp) (vs:List V) (Q:VK) (E:XK),m7 k (A.deeper (envOfC qual scope s.heap.objs.size f cdv))→sp vs H Q E→
     ∃t,PSs (az4 CX P w K mg base N qual scope f cdv A outer s H E) body t∧t {nx:=fun _ H'=>Q .non H',rt:=Q} (X9 N vs) H):
   o8 P w K mg base CX (k+1) f (PySem.W.fnOf name qual params body scope dV kV doc pm an cdv ct) ps sp:=by
 refine ⟨len,fun A outer s H args us vs Q E hr e0 hb r hsp=> ?_⟩
 have hl:=len _ _ _ _ hsp
 have KX:K.In s.heap:=e0.mod.kin.keeps fun b o e=>(e0.bs b o e).1
 have lim:s.heap.NoLimit:=e0.mod.nolimit.keeps fun b o e=>(e0.bs b o e).1
 have hkind:∀y∈ps.zip us,scope.names.lookup y.1=some .local∨(scope.names.lookup y.1=some .cell∧((cellsFrom (s.heap.objs.size+1) scope.names []).lookup y.1).isSome=true):=fun ⟨n,v⟩ hy=>by
   rcases S.par n (ei2 hy).1 with q|q
   · exact .inl q
   · exact .inr ⟨q,PySem.W.cellsFrom_some _ _ _ (.inl q)⟩
 refine codeAny_call_function hr.depth (KX _ _ lk) rfl S.co S.gen rfl (PySem.W.codeRec_of KX hcd) (hb _ _ _ _ ?_)
 refine wpAny_newFunctionEnv_cells S.kind hkind fun env he s1 x=> ?_
 subst he
 refine ⟨lim.keeps x.toInCall.keep,codeAny_func ?_⟩
 obtain ⟨t,ht,hq⟩:=hbody A outer s H vs Q E (hr.deeper _) hsp
 have I:h7 (az4 CX P w K mg base N qual scope f cdv A outer s H E) [] (X9 N vs) H s1:=cd2 S hr.hd e0 hl r x
 refine wpAny_mono (ht [] s1 (X9 N vs) H _ I hq) (fun fl s' hs=> ?_) fun e s' hs=>hs
 have fin:∀{σ':St} {H':Hp} {v:V} {u:Value},h7 (az4 CX P w K mg base N qual scope f cdv A outer s H E) [] σ' H' s'→n6 v u→Q v H'→CE outer P w H s Q u s':=
   fun {σ' H' v u} J rv q=>⟨v,H',J.os,J.bare,J.base,J.hok,rv,q⟩
 cases fl with
 |ret u=>
  obtain ⟨v,σ',H',J,rv,q⟩:=hs
  exact fin J rv q
 |next=>
  obtain ⟨σ',H',J,q⟩:=hs
  exact fin (v:=V.non) (u:=Value.none) J rfl q
 |brk=>
  obtain ⟨_,_,_,q⟩:=hs
  exact False.elim q
 |cont=>
  obtain ⟨_,_,_,q⟩:=hs
  exact False.elim q
end L2
namespace L2
open PySem PySem.Spec PyProof.Rows
section
variable {X:Cx} {x:Str} {p pos:Pos} {e:Expr} {es:List Expr} {t:TA} {id T:String} {r:List V→Hp→VK→Prop}
def tCB (r:List V→Hp→VK→Prop)(t:TA):TE:=fun σ H Q=>t σ H fun vs H1=>r vs H1 Q
theorem R4 (hc:R1 X (.builtin id) r)(hg:Gl X x)(hm:X.mg x=none)(hv:bootBuiltins x=some (.builtin id))(ha:PA X (e::es) t)(hn:x≠"__name__":=by decide)(hdb:(x==("__debug__":Str))=false:=by decide)
   (he:starEach (e::es) X.env=(false,eval e X.env)::starEach es X.env:=by rfl) (hpl:(backTo pos (starEach es X.env)).any (·.1)=false:=by rfl):PE X (.Call (.Name x p) (e::es) [] pos) (tCB r t):=by
 intro pins s σ H Q I h
 refine wpAny_Call_Name_kw (Y9 I hg hm hv ?_ hn hdb)
 exact PyProof.Rows.callWith_builtin1 (o5 (ha pos pins s σ H _ I h) fun us s1 ⟨vs,H1,I1,r1,q1⟩=>hc pins s1 σ H1 vs us Q I1 r1 q1) he hpl
theorem ak5 (hc:R1 X (.type T) r)(hg:Gl X x)(hm:X.mg x=none)(hv:bootBuiltins x=some (.type T))(ha:PA X (e::es) t)(hn:x≠"__name__":=by decide)(hdb:(x==("__debug__":Str))=false:=by decide)
   (he:starEach (e::es) X.env=(false,eval e X.env)::starEach es X.env:=by rfl) (hpl:(backTo pos (starEach es X.env)).any (·.1)=false:=by rfl):PE X (.Call (.Name x p) (e::es) [] pos) (tCB r t):=by
 intro pins s σ H Q I h
 refine wpAny_Call_Name_kw (Y9 I hg hm hv ?_ hn hdb)
 exact PyProof.Rows.callWith_type1 (o5 (ha pos pins s σ H _ I h) fun us s1 ⟨vs,H1,I1,r1,q1⟩=>hc pins s1 σ H1 vs us Q I1 r1 q1) he hpl
end
end L2
namespace HT
open PySem PyProof.Rows
def ao3:List Int→List Int→Bool
 |[],[]=>false
 |[],_::_=>true
 |_::_,[]=>false
 |x::xs,y::ys=>if x=y then ao3 xs ys else decide (x < y)
theorem by7 (x y:Int)(xs ys:List Int):ao3 (x::xs) (y::ys)=if x=y then ao3 xs ys else decide (x < y):=rfl
theorem cs4 (y:Int)(ys:List Int):ao3 [] (y::ys)=true:=rfl
theorem ck8 (A:Around)(s:Shared)(a:Int)(t:Tok)(c:Int)(u:Tok):∃e,SeqAt.EqAt A s (.int a t) (.int c u) e∧(e=true↔a=c):=
 ⟨(a==c),SeqAt.EqAt.int_int a t c u,by simp⟩
theorem ck9 (A:Around)(s:Shared)(a:Int)(t:Tok)(c:Int)(u:Tok)(prog:Program)(w:World)(E:Value→Shared→Prop)(Q:Value→Shared→Prop)(h:Q (.bool (decide (a < c))) s):
   wpAny (model prog w) A (richCompare .Lt (.int a t) (.int c u)) Q E s:=
 (PyProof.Rows.lt_int h:wpAny (model prog w) A (compareOp .Lt (.int a t) (.int c u)) Q E s)
section
variable {prog:Program} {w:World} {A:Around} {E:Value→Shared→Prop} {s:Shared}
def sIx (n d:Nat):Option Int→Nat
 |none=>d
 |some v=>if v < 0 then (v+(n:Int)).toNat else min v.toNat n
theorem dk9 (n d:Nat):sIx n d none=d:=rfl
theorem dm1 (n d k:Nat):sIx n d (some (k:Int))=min k n:=by
 show (if (k:Int) < 0 then ((k:Int)+(n:Int)).toNat else min (k:Int).toNat n)=min k n
 rw[if_neg (by omega),dr1]
end
end HT
namespace L2
open PySem PySem.Spec PyProof.Rows
abbrev TO:=St→Hp→(Option Int→Hp→Prop)→Prop
def PO (X:Cx)(e:Option Expr)(t:TO):Prop:=
 ∀(pins:List (Addr×Obj)) (s:Shared) (σ:St) (H:Hp) (Q:Option Int→Hp→Prop),h7 X pins σ H s→t σ H Q→
  wpAny (model X.prog X.w) X.A (evalPart e X.env) (fun u s'=>∃o H',h7 X pins σ H' s'∧IsPart u o∧Q o H') X.xe s
def cs5:TO:=fun _ H Q=>Q none H
def df7 (t:TE):TO:=fun σ H Q=>t σ H fun x H1=>∃i,x= .int i∧Q (some i) H1
theorem av2 {ns:List Int}:∀{us:List Value},j9 (ns.map V.int) us→IntsAre us ns:=by
 induction ns with
 |nil=>intro us r;rw[eb8] at r;cases r;exact .nil
 |cons n ns ih=>
  intro us r
  rw[dr7] at r
  cases r with
  |cons r1 r2=>
   obtain ⟨t,e⟩:=r1
   subst e
   exact .cons n t (ih r2)
section
variable {X:Cx} {e:Expr} {te:TE} {lo hi:Option Expr} {tl th:TO} {pos p2:Pos}
theorem ae0:PO X none cs5:=by
 intro pins s σ H Q I h
 rw[evalPart_none]
 exact wpAny_pure ⟨none,H,I,.none,h⟩
theorem S2 (h:PE X e te):PO X (some e) (df7 te):=by
 intro pins s σ H Q I hw
 rw[evalPart_some]
 refine o5 (h pins s σ H _ I hw) fun u s1 ⟨x,H1,I1,r1,q1⟩=> ?_
 obtain ⟨i,rfl,q⟩:=q1
 obtain ⟨t,rfl⟩:=r1
 exact ⟨some i,H1,I1,.int i t,q⟩
def SlR (X:Cx)(r:V→Option Int→Option Int→Hp→VK→Prop):Prop:=
 ∀(pins:List (Addr×Obj)) (s:Shared) (σ:St) (H:Hp) (x:V) (v vl vu:Value) (lo hi:Option Int) (sl:Addr) (Q:VK),h7 X pins σ H s→n6 x v→s.heap.IsSliceOf sl vl vu .none→IsPart vl lo→IsPart vu hi→r x lo hi H Q→
  ∃T id,typeLookup (.type T) "__getitem__"=pure (some (.builtin id))∧s.TypeIs v T∧wpAny (model X.prog X.w) X.A (getItem v (.ref sl)) (EP X pins σ Q) X.xe s
def tSl (r:V→Option Int→Option Int→Hp→VK→Prop)(te:TE)(tl th:TO):TE:=fun σ H Q=>te σ H fun x H1=>tl σ H1 fun l H2=>th σ H2 fun u H3=>r x l u H3 Q
theorem U1 {r:V→Option Int→Option Int→Hp→VK→Prop}(hr:SlR X r)(he:PE X e te)(hl:PO X lo tl)(hu:PO X hi th):PE X (.Subscript e (.Slice lo hi none p2) pos) (tSl r te tl th):=by
 intro pins s σ H Q I h
 refine Subscript_ (o5 (he pins s σ H _ I h) fun v s1 ⟨x,H1,I1,r1,q1⟩=> ?_)
 refine wpAny_Slice (o5 (hl pins s1 σ H1 _ I1 q1) fun vl s2 ⟨l,H2,I2,pl,q2⟩=>o5 (hu pins s2 σ H2 _ I2 q2) fun vu s3 ⟨u,H3,I3,pu,q3⟩=> ?_)
 rw[evalPart_none]
 refine wpAny_pure ?_
 have I4:h7 X pins σ H3 {s3 with heap:=s3.heap.push {cls:= .type "slice",data:= .fields #[vl,vu,.none]}}:=I3.kept (t':=s3.toks) fun b ob q=>Heap.get?_push_of_some _ q
 obtain ⟨T,id,hT,ht,hg⟩:=hr pins {s3 with heap:=s3.heap.push {cls:= .type "slice",data:= .fields #[vl,vu,.none]}} σ H3 x v vl vu l u s3.heap.objs.size Q I4 r1 (Heap.IsSliceOf.new ..) pl pu q3
 show wpAny (model X.prog X.w) X.A (subscriptTail e (.Slice lo hi none p2) v (.ref s3.heap.objs.size)) (EP X pins σ Q) X.xe {s3 with heap:=s3.heap.push {cls:= .type "slice",data:= .fields #[vl,vu,.none]}}
 exact tail_any (ops:=[.ref s3.heap.objs.size,v]) ht hT hg (by with_unfolding_all rfl)
def W4 (xs:List V)(lo hi:Option Int):List V:=(xs.drop (HT.sIx xs.length 0 lo)).take (HT.sIx xs.length xs.length hi - HT.sIx xs.length 0 lo)
theorem bq8 (xs:List V)(lo hi:Option Int):(W4 xs lo hi).length≤xs.length:=by
 unfold W4
 rw[dp5,dr2]
 omega
end
end L2
namespace L2
open PySem PySem.Spec PyProof.Rows
def ixN (n:Nat)(i:Int):Option Nat:=if 0≤i then (if i < n then some i.toNat else none) else if -(n:Int)≤i then some (i+n).toNat else none
def atI {α:Type}(xs:List α)(i:Int):Option α:=(ixN xs.length i).bind fun j=>xs[j]?
theorem az5 {n:Nat}{i:Int}{j:Nat}(h:ixN n i=some j):seqIndex? i n=some j∧j < n∧ -(n:Int)≤i∧i < n:=by
 unfold ixN at h
 by_cases h0:0≤i
 · rw[if_pos h0] at h
   by_cases h1:i < n
   · rw[if_pos h1] at h
     have e:i.toNat=j:=Option.some.inj h
     exact ⟨by rw[seqIndex_of h0 h1,e],by omega,by omega,h1⟩
   · rw[if_neg h1] at h;cases h
 · rw[if_neg h0] at h
   by_cases h1: -(n:Int)≤i
   · rw[if_pos h1] at h
     have e:(i+n).toNat=j:=Option.some.inj h
     exact ⟨by rw[seqIndex_neg (by omega) h1,e],by omega,h1,by omega⟩
   · rw[if_neg h1] at h;cases h
theorem bt4 {α:Type}{xs:List α}{i:Int}{v:α}(h:atI xs i=some v):∃j,seqIndex? i xs.length=some j∧xs[j]? =some v∧j < xs.length∧ -(xs.length:Int)≤i∧i < xs.length:=by
 unfold atI at h
 cases e:ixN xs.length i with
 |none=>rw[e] at h;cases h
 |some j=>
  rw[e] at h
  obtain ⟨h1,h2,h3,h4⟩:=az5 e
  exact ⟨j,h1,h,h2,h3,h4⟩
theorem J2 {α:Type}{xs:List α}{j:Nat}{v:α}(h:xs[j]? =some v):atI xs (j:Int)=some v:=by
 have hj:j < xs.length:=(do0.mp h).1
 have e:ixN xs.length (j:Int)=some j:=by
   unfold ixN
   rw[if_pos (by omega),if_pos (by omega)];simp
 unfold atI;rw[e];exact h
def cs6 (b:Expr):Prop:=∀o i,subscripted b false o i=operate [o,i] (getItem o i)
def IxR (X:Cx)(r:R2):Prop:=
 ∀(value slice:Expr) (pins:List (Addr×Obj)) (s:Shared) (σ:St) (H:Hp) (x y:V) (v u:Value) (Q:VK),h7 X pins σ H s→n6 x v→n6 y u→r x y H Q→
  subscripted slice false v u=operate [v,u] (getItem v u)→wpAny (model X.prog X.w) X.A (subscriptTail value slice v u) (EP X pins σ Q) X.xe s
def MtR (X:Cx)(id:String)(r:V→List V→Hp→VK→Prop):Prop:=
 ∀(pins:List (Addr×Obj)) (s:Shared) (σ:St) (H:Hp) (x:V) (xs:List V) (v:Value) (us:List Value) (Q:VK),h7 X pins σ H s→n6 x v→j9 xs us→r x xs H Q→
  wpAny (model X.prog X.w) X.A (call (.builtin id) (v::us)) (EP X pins σ Q) X.xe s
section
variable {X:Cx} {a b:Expr} {ta tb:TE} {pos:Pos}
theorem G3 {r:R2}(hr:IxR X r)(ha:PE X a ta)(hb:PE X b tb)(hs:cs6 b):PE X (.Subscript a b pos) (tOp r ta tb):=by
 intro pins s σ H Q I h
 exact Subscript_ (ck5 ha hb I h fun v u s2 x y H2 I2 rx ry q=>hr a b pins s2 σ H2 x y v u Q I2 rx ry q (hs _ _))
def cl0 (K:PySem.W.Frag):R2:=fun x y H Q=>∃p xs i v,x= .ref p∧y= .int i∧g9 K H p xs∧atI xs i=some v∧Q v H
def dl0 (K:PySem.W.Frag):R2:=fun x y H Q=>∃p xs i v,x= .ref p∧y= .int i∧Q6 K H p xs∧atI xs i=some v∧Q v H
theorem C0:IxR X (cl0 X.K):=by
 intro value slice pins s σ H x y v u Q I rx ry h hs
 obtain ⟨p,xs,i,z,rfl,rfl,hq,he,q⟩:=h
 cases rx
 obtain ⟨t,rfl⟩:=ry
 obtain ⟨its,r,pl,hz⟩:=I.list hq
 obtain ⟨j,h1,h2,h3,h4,h5⟩:=bt4 he
 obtain ⟨w,ew,rw'⟩:=r.get h2
 have hl:=r.length
 have hn:=av0
 have fin:EP X pins σ Q w s:=⟨z,H,I,rw',q⟩
 by_cases h0:0≤i
 · have hj:i.toNat=j:=by
     rw[seqIndex_of h0 h5] at h1
     exact Option.some.inj h1
   exact item_listR pl.isList h0 (by omega) (by rw[hj];simpa using ew) fin hs
 · have hj:(i+(its.toArray.size:Int)).toNat=j:=by
     rw[seqIndex_neg (by omega) h4] at h1
     rw[dp2,←hl]
     exact Option.some.inj h1
   exact subscriptTail_builtinR (x:=w) pl.isList.typeIs slot_list_getitem.lookup
     (wpAny_getItem_list_neg (Q:=fun r s'=>r=w∧EP X pins σ Q r s') pl.isList (by omega) (by rw[dp2]<;>omega) (by omega) (by rw[hj];simpa using ew) ⟨rfl,fin⟩) hs
theorem cd3:IxR X (dl0 X.K):=by
 intro value slice pins s σ H x y v u Q I rx ry h hs
 obtain ⟨p,xs,i,z,rfl,rfl,hq,he,q⟩:=h
 cases rx
 obtain ⟨t,rfl⟩:=ry
 obtain ⟨its,r,pl,hz⟩:=I.tuple hq
 obtain ⟨j,h1,h2,h3,h4,h5⟩:=bt4 he
 obtain ⟨w,ew,rw'⟩:=r.get h2
 have hl:=r.length
 have hn:=av0
 have fin:EP X pins σ Q w s:=⟨z,H,I,rw',q⟩
 exact subscriptTail_builtinR (x:=w) pl.typeIs slot_tuple_getitem.lookup
   (getItem_tuple (j:=j) (Q:=fun r s'=>r=w∧EP X pins σ Q r s') pl (by omega) (by omega) (by rw[dp2,←hl];exact h1) (by simpa using ew) ⟨rfl,fin⟩) hs
theorem by8 (its:List Value)(n j:Nat)(u:Value):Obj.mapSeq (·.setIfInBounds j u) {cls:= .type "list",data:= .seq its.toArray n}={cls:= .type "list",data:= .seq (its.set j u).toArray n}:=by
 simp [Obj.mapSeq]
theorem h7.lst {pins:List (Addr×Obj)}{σ:St}{H:Hp}{s:Shared}{p:Addr}{xs:List V}(I:h7 X pins σ H s)(h:H p=some (.lst xs)):
   ∃(its:List Value) (n:Nat),j9 xs its∧s.heap.get? p=some {cls:= .type "list",data:= .seq its.toArray n}∧xs.length≤sizeLine:=by
 obtain ⟨z,its,n,r,e⟩:=I.hok p _ h
 exact ⟨its,n,r,e,z⟩
theorem h7.lstUpd {pins:List (Addr×Obj)}{σ:St}{H:Hp}{s:Shared}{p:Addr}{xs ys:List V}{its its':List Value}{n n':Nat}{f:Obj→Obj}(I:h7 X pins σ H s)(h:H p=some (.lst xs))
   (ho:s.heap.get? p=some {cls:= .type "list",data:= .seq its.toArray n}) (hf:f {cls:= .type "list",data:= .seq its.toArray n}={cls:= .type "list",data:= .seq its'.toArray n'}) (r:j9 ys its') (hz:ys.length≤sizeLine) (t:Nat):
   h7 X pins σ (c9 H p (.lst ys)) {s with heap:=s.heap.update p f,toks:=t}:=by
 have e:(s.heap.update p f).get? p=some {cls:= .type "list",data:= .seq its'.toArray n'}:=by
   rw[Heap.get?_update_self f ho (by rw[hf]<;>rfl),hf]
 refine I.write (x:=p) (e:=p) (by rw[h];trivial) (.inl rfl) (fun b u hb q=>(Heap.get?_update_other _ _ (Ne.symm hb)).trans q) ⟨_,e⟩ ?_
 exact ⟨hz,its',n',r,e⟩
def df8:V→V→V→Hp→(Hp→Prop)→Prop:=fun o i v H Q=>∃p xs k j,o= .ref p∧i= .int k∧H p=some (.lst xs)∧ixN xs.length k=some j∧Q (c9 H p (.lst (xs.set j v)))
theorem ag4:cy9 X df8:=by
 intro pins s σ H o i v ov iv u Q I ro ri rv h
 obtain ⟨p,xs,k,j,rfl,rfl,hp,hj,q⟩:=h
 cases ro
 obtain ⟨t,rfl⟩:=ri
 obtain ⟨its,n,r,ho,hz⟩:=I.lst hp
 obtain ⟨h1,h2,h3,h4⟩:=az5 hj
 have hl:=r.length
 have hn:=av0
 have I':h7 X pins σ (c9 H p (.lst (xs.set j v))) {s with heap:=s.heap.update p (Obj.mapSeq (·.setIfInBounds j u))}:=
   I.lstUpd hp ho (by8 its n j u) (r.set rv j) (by rw[ea9];exact hz) s.toks
 by_cases h0:0≤k
 · have hk:k.toNat=j:=by
     rw[seqIndex_of h0 h4] at h1
     exact Option.some.inj h1
   exact PySem.W.ki_setAt ho h0 (by omega) (by rw[dp2,←hl];exact h4) (by rw[hk];exact ⟨_,I',q⟩)
 · have hk:(k+(its.toArray.size:Int)).toNat=j:=by
     rw[seqIndex_neg (by omega) h3] at h1
     rw[dp2,←hl]
     exact Option.some.inj h1
   exact PySem.W.ki_setBack ho (by omega) (by rw[dp2,←hl];exact h3) (by omega) (by rw[hk];exact ⟨_,I',q⟩)
theorem bi9 (lo hi:Option Int)(n:Nat):(sliceBounds lo hi none n).1=((HT.sIx n 0 lo:Nat):Int)∧(sliceBounds lo hi none n).2.1=((HT.sIx n n hi:Nat):Int)∧(sliceBounds lo hi none n).2.2=1:=by
 refine ⟨?_,?_,rfl⟩
 · cases lo with
   |none=>simp [sliceBounds,HT.sIx]
   |some i=>
    simp only[sliceBounds,HT.sIx,Option.getD_none,show (1:Int) > 0 by decide,if_true]
    by_cases h:i < 0
    · simp only[h,if_true]<;>omega
    · simp only[h,if_false]<;>omega
 · cases hi with
   |none=>simp [sliceBounds,HT.sIx]
   |some i=>
    simp only[sliceBounds,HT.sIx,Option.getD_none,show (1:Int) > 0 by decide,if_true]
    by_cases h:i < 0
    · simp only[h,if_true]<;>omega
    · simp only[h,if_false]<;>omega
theorem bg8 (its:List Value)(lo hi:Option Int):slicePick its.toArray lo hi none=((its.drop (HT.sIx its.length 0 lo)).take (HT.sIx its.length its.length hi - HT.sIx its.length 0 lo)).toArray:=by
 obtain ⟨h1,h2,h3⟩:=bi9 lo hi its.toArray.size
 unfold slicePick
 rw[h1,h2,h3]
 simp only[sliceRange_one,pick_run,dp2]<;>rfl
def dl1 (K:PySem.W.Frag):V→Option Int→Option Int→Hp→VK→Prop:=fun x lo hi H Q=>∃a xs,x= .ref a∧g9 K H a xs∧∀p,H p=none→Q (.ref p) (c9 H p (.lst (W4 xs lo hi)))
theorem Y2:SlR X (dl1 X.K):=by
 intro pins s σ H x v vl vu lo hi sl Q I rx hs pl pu h
 obtain ⟨a,xs,rfl,hx,q⟩:=h
 cases rx
 obtain ⟨its,r,ht,hz⟩:=I.list hx
 have hlen:=r.length
 refine ⟨"list",_,slot_list_getitem.lookup,ht.isList.typeIs,?_⟩
 refine wpAny_getItem_list_slice ht.isList hs pl pu .none (by simp) ?_ (by rw[dp2]<;>omega)
 rw[bg8,←hlen]
 refine ⟨.ref s.heap.objs.size,_,I.laid (t':=s.toks) (o:= .lst (W4 xs lo hi)) (fun b ob q=>Heap.get?_push_of_some _ q) (do1 _) ?_,rfl,q _ (I.hok.fresh (do1 _))⟩
 exact ⟨dp4 (bq8 xs lo hi) hz,_,0,(r.drop (HT.sIx xs.length 0 lo)).take (HT.sIx xs.length xs.length hi - HT.sIx xs.length 0 lo),Heap.get?_push_size _ rfl⟩
def S7:V→Bool
 | .non=>true
 | .bl _=>true
 | .int _=>true
 | .str _=>true
 |_=>false
def eqV:V→V→Bool
 | .non,.non=>true
 | .bl a,.bl b=>a==b
 | .bl a,.int b=>(if a then 1 else 0)==b
 | .int a,.bl b=>a==(if b then 1 else 0)
 | .int a,.int b=>a==b
 | .str a,.str b=>a==b
 |_,_=>false
theorem cd4 {A:Around}{s:Shared}{y x:V}{u v:Value}(ry:n6 y u)(rx:n6 x v)(fy:S7 y=true)(fx:S7 x=true):SeqAt.EqAt A s u v (eqV y x):=by
 cases y with
 |non=>
  cases ry
  cases x with
  |non=>cases rx;exact SeqAt.EqAt.same _
  |bl b=>cases rx;exact SeqAt.EqAt.none_bool b
  |int b=>obtain ⟨t,rfl⟩:=rx;exact SeqAt.EqAt.none_int b t
  |str b=>obtain ⟨t,rfl⟩:=rx;exact SeqAt.EqAt.none_str b t
  |_=>exact absurd (show false=true from fx) dq2
 |bl a=>
  cases ry
  cases x with
  |non=>cases rx;exact SeqAt.EqAt.bool_none a
  |bl b=>cases rx;exact SeqAt.EqAt.bool_bool a b
  |int b=>obtain ⟨t,rfl⟩:=rx;exact SeqAt.EqAt.bool_int a b t
  |str b=>obtain ⟨t,rfl⟩:=rx;exact SeqAt.EqAt.bool_str a b t
  |_=>exact absurd (show false=true from fx) dq2
 |int a=>
  obtain ⟨t',rfl⟩:=ry
  cases x with
  |non=>cases rx;exact SeqAt.EqAt.int_none a t'
  |bl b=>cases rx;exact SeqAt.EqAt.int_bool a t' b
  |int b=>obtain ⟨t,rfl⟩:=rx;exact SeqAt.EqAt.int_int a t' b t
  |str b=>obtain ⟨t,rfl⟩:=rx;exact SeqAt.EqAt.int_str a t' b t
  |_=>exact absurd (show false=true from fx) dq2
 |str a=>
  obtain ⟨t',rfl⟩:=ry
  cases x with
  |non=>cases rx;exact SeqAt.EqAt.str_none a t'
  |bl b=>cases rx;exact SeqAt.EqAt.str_bool a t' b
  |int b=>obtain ⟨t,rfl⟩:=rx;exact SeqAt.EqAt.str_int a t' b t
  |str b=>obtain ⟨t,rfl⟩:=rx;exact SeqAt.EqAt.str_str a t' b t
  |_=>exact absurd (show false=true from fx) dq2
 |_=>exact absurd (show false=true from fy) dq2
def eqU (x:V)(u:Value):Bool:=match u with
 | .none=>eqV .non x
 | .bool b=>eqV (.bl b) x
 | .int i _=>eqV (.int i) x
 | .str z _=>eqV (.str z) x
 |_=>false
theorem cd5 {x y:V}{u:Value}(r:n6 y u)(f:S7 y=true):eqU x u=eqV y x:=by
 cases y with
 |non=>cases r;rfl
 |bl b=>cases r;rfl
 |int i=>obtain ⟨t,rfl⟩:=r;rfl
 |str z=>obtain ⟨t,rfl⟩:=r;rfl
 |_=>exact absurd (show false=true from f) dq2
theorem az6 {x:V}:∀{xs:List V} {us:List Value},j9 xs us→xs.all S7=true→us.any (eqU x)=xs.any fun y=>eqV y x
 |_,_,.nil,_=>rfl
 |y::xs,u::us,.cons r t,f=>by
  rw[ej0,dx7] at f
  rw[ec3,ec3,cd5 r f.1,az6 t f.2]
theorem ar1 {A:Around}{s:Shared}{x:V}{v:Value}(rx:n6 x v)(fx:S7 x=true):∀{xs:List V} {us:List Value},j9 xs us→xs.all S7=true→∀u∈us,SeqAt.EqAt A s u v (eqU x u)
 |_,_,.nil,_=>fun u hu=>by cases hu
 |y::xs,u::us,.cons r t,f=>fun u' hu=>by
  rw[ej0,dx7] at f
  rcases dp7.mp hu with rfl|hu
  · rw[cd5 r f.1];exact cd4 r rx f.1 fx
  · exact ar1 rx fx t f.2 u' hu
def inV (x:V)(xs:List V):Bool:=xs.any fun y=>eqV y x
def rIn (K:PySem.W.Frag)(neg:Bool):R2:=fun x y H Q=>∃p xs,y= .ref p∧(g9 K H p xs∨Q6 K H p xs)∧S7 x=true∧xs.all S7=true∧Q (.bl (if neg then !inV x xs else inV x xs)) H
theorem bj0:K7 X (compareOp .NotIn) (rIn X.K true):=by
 intro pins s σ H x y v u Q I rx ry h
 obtain ⟨p,xs,rfl,hq,fx,fs,q⟩:=h
 cases ry
 rcases hq with hq|hq
 · obtain ⟨its,r,pl,hz⟩:=I.list hq
   refine SeqAt.notIn_listAt (eqU x) pl.isList (fun w hw=>ar1 rx fx r fs w (by simpa using hw)) ⟨.bl _,H,I,rfl,?_⟩
   rw[show its.toArray.any (eqU x)=its.any (eqU x) by simp,az6 r fs]
   exact q
 · obtain ⟨its,r,pl,hz⟩:=I.tuple hq
   refine SeqAt.notIn_tupleAt (eqU x) pl (fun w hw=>ar1 rx fx r fs w (by simpa using hw)) ⟨.bl _,H,I,rfl,?_⟩
   rw[show its.toArray.any (eqU x)=its.any (eqU x) by simp,az6 r fs]
   exact q
theorem bj1:R1 X (.builtin "len") (fun xs H Q=>∃p ys,xs=[.ref p]∧(g9 X.K H p ys∨Q6 X.K H p ys)∧Q (.int ys.length) H):=by
 intro pins s σ H xs us Q I r h
 obtain ⟨p,ys,rfl,hq,q⟩:=h
 obtain ⟨u,rfl,rx⟩:=ab5 r
 cases rx
 have hn:=av0
 rcases hq with hq|hq
 · obtain ⟨its,r',pl,hz⟩:=I.list hq
   have hlen:=r'.length
   exact Calls.call_len_list pl.isList (by simp only[dp2]<;>omega) ⟨.int ys.length,H,I.tok _,⟨s.toks+1,by rw[dp2,hlen]⟩,q⟩
 · obtain ⟨its,r',pl,hz⟩:=I.tuple hq
   have hlen:=r'.length
   exact len_tuple pl (by simp only[dp2]<;>omega) ⟨.int ys.length,H,I.tok _,⟨s.toks+1,by rw[dp2,hlen]⟩,q⟩
theorem bj2:R1 X (.type "list") (fun xs H Q=>∃p ys,xs=[.ref p]∧(g9 X.K H p ys∨Q6 X.K H p ys)∧∀l,H l=none→Q (.ref l) (c9 H l (.lst ys))):=by
 intro pins s σ H xs us Q I r h
 obtain ⟨p,ys,rfl,hq,q⟩:=h
 obtain ⟨u,rfl,rx⟩:=ab5 r
 cases rx
 have fin:∀(its:List Value),j9 ys its→ys.length≤sizeLine→∀(h':Heap) (c':Nat),(∀b o',s.heap.get? b=some o'→h'.get? b=some o')→
     h'.get? s.heap.objs.size=some {cls:= .type "list",dict:=none,data:= .seq its.toArray c',slots:= #[]}→EP X pins σ Q (.ref s.heap.objs.size) {s with heap:=h'}:=fun its r' hz h' c' kp e=>
   ⟨.ref s.heap.objs.size,_,I.laid (t':=s.toks) kp (do1 _) (show r6 X.prog X.w _ h' _ (.lst ys) from ⟨hz,its,c',r',e⟩),rfl,q _ (I.hok.fresh (do1 _))⟩
 rcases hq with hq|hq
 · obtain ⟨its,r',pl,hz⟩:=I.list hq
   have hlen:=r'.length
   obtain ⟨o,ho,hc,n,hd⟩:=pl.isList
   exact call_list_seq p (.inl rfl) ho hc hd (fun h' c' kp e=>fin its r' hz h' c' kp e) (by simp only[dp2]<;>omega)
 · obtain ⟨its,r',pl,hz⟩:=I.tuple hq
   have hlen:=r'.length
   obtain ⟨o,ho,hc,n,hd⟩:=pl
   exact call_list_seq p (.inr rfl) ho hc hd (fun h' c' kp e=>fin its r' hz h' c' kp e) (by simp only[dp2]<;>omega)
def tyV (K:PySem.W.Frag)(T:String)(x:V)(H:Hp):Prop:=match x with
 | .str _=>T="str"
 | .int _=>T="int"
 | .ref p=>(T="list"∧∃xs,g9 K H p xs)∨(T="tuple"∧∃o,K.lookup p=some o∧o.cls= .type "tuple"∧o.dict=none)∨
     (T="dict"∧((∃kvs,H p=some (.dK kvs))∨∃kvs,H p=some (.dT kvs)))∨(T="set"∧∃S n,H p=some (.set S n))
 |_=>False
theorem cd6 {pins:List (Addr×Obj)}{σ:St}{H:Hp}{s:Shared}{T:String}{x:V}{v:Value}(I:h7 X pins σ H s)(r:n6 x v)(ty:tyV X.K T x H):
   s.TypeIs v T∧∀a,v= .ref a→∃ob,s.heap.get? a=some ob∧ob.dict=none:=by
 cases x with
 |str z=>
  obtain ⟨t,rfl⟩:=r
  cases (show T="str" from ty)
  exact ⟨typeIs_str s z t,fun _ e=>nomatch e⟩
 |int i=>
  obtain ⟨t,rfl⟩:=r
  cases (show T="int" from ty)
  exact ⟨typeIs_int s i t,fun _ e=>nomatch e⟩
 |ref p=>
  cases r
  rcases ty with ⟨rfl,xs,hq⟩|⟨rfl,o,hk,hc,hd⟩|⟨rfl,hk⟩|⟨rfl,S,n,hk⟩
  · obtain ⟨its,_,pl,_⟩:=I.list hq
    refine ⟨pl.isList.typeIs,fun a e=> ?_⟩
    cases e
    obtain ⟨o,n,e,c,hd,_⟩:=pl
    exact ⟨o,e,hd⟩
  · refine ⟨⟨o,I.kIn p o hk,hc⟩,fun a e=> ?_⟩
    cases e
    exact ⟨o,I.kIn _ o hk,hd⟩
  · have z:∃o,s.heap.get? p=some o∧o.ExactDict:=by
      rcases hk with ⟨kvs,hk⟩|⟨kvs,hk⟩
      · obtain ⟨_,_,_,_,o,_,_,e,ex,_⟩:=I.hok p _ hk
        exact ⟨o,e,ex⟩
      · obtain ⟨_,_,_,_,o,_,_,e,ex,_⟩:=I.hok p _ hk
        exact ⟨o,e,ex⟩
    obtain ⟨o,e,ex⟩:=z
    refine ⟨⟨o,e,ex.1⟩,fun a e2=> ?_⟩
    cases e2
    exact ⟨o,e,ex.2.1⟩
  · obtain ⟨o,_,_,_,e,ex,_⟩:=I.hok p _ hk
    refine ⟨⟨o,e,ex.1⟩,fun a e2=> ?_⟩
    cases e2
    exact ⟨o,e,ex.2.1⟩
 |_=>exact False.elim ty
def da0 (K:PySem.W.Frag)(T:String)(r:V→List V→Hp→VK→Prop)(to:TE):TE:=fun σ H Q=>to σ H fun x H1=>tyV K T x H1∧r x [] H1 Q
def tBM (K:PySem.W.Frag)(T:String)(r:V→List V→Hp→VK→Prop)(to:TE)(t:TA):TE:=fun σ H Q=>to σ H fun x H1=>tyV K T x H1∧t σ H1 fun xs H2=>r x xs H2 Q
variable {o e:Expr} {es:List Expr} {to:TE} {t:TA} {name:Str} {apos cpos:Pos} {T id:String} {r:V→List V→Hp→VK→Prop}
theorem da1 (pa:PlainAttrs T)(slot:Slot T name id)(hty:typeOf (.builtin id)=pure (.type "method_descriptor"))(hm:MtR X id r)(ho:PE X o to)
   (hbase:attributeBase o name X.env (eval o X.env)=eval o X.env:=by rfl) (hline:(apos.endLine==cpos.line)=true:=by rfl):PE X (.Call (.Attribute o name apos) [] [] cpos) (da0 X.K T r to):=by
 intro pins s σ H Q I h
 refine wpAny_Call_method0_late hbase hline (o5 (ho pins s σ H _ I h) fun v s1 ⟨x,H1,I1,r1,ty,q1⟩=> ?_)
 obtain ⟨h1,h2⟩:=cd6 I1 r1 ty
 exact ⟨T,id,pa,slot,hty,h1,h2,Calls.callWith_builtin rfl (PySem.evalArgs_none (hm pins s1 σ H1 x [] v [] Q I1 r1 .nil q1))⟩
theorem av4 (pa:PlainAttrs T)(slot:Slot T name id)(hty:typeOf (.builtin id)=pure (.type "method_descriptor"))(hm:MtR X id r)(ho:PE X o to)(ha:PA X (e::es) t)
   (hbase:attributeBase o name X.env (eval o X.env)=eval o X.env:=by rfl)
   (hfew:((backTo cpos (starEach (e::es) X.env)).all (fun x=> !x.1)&&(backToKw cpos (keywordEach [] X.env)).all (fun x=>x.1.isSome)
     &&decide ((e::es).length+([]:List Keyword).length+(if ([]:List Keyword).isEmpty then 0 else 1) < 30))=true:=by rfl)
   (hline:(apos.endLine==cpos.line)=true:=by rfl) (hs:starEach (e::es) X.env=(false,eval e X.env)::starEach es X.env:=by rfl) (hplain:(backTo cpos (starEach es X.env)).any (·.1)=false:=by rfl):
   PE X (.Call (.Attribute o name apos) (e::es) [] cpos) (tBM X.K T r to t):=by
 intro pins s σ H Q I h
 refine wpAny_Call_method_late hbase hfew hline rfl (o5 (ho pins s σ H _ I h) fun v s1 ⟨x,H1,I1,r1,ty,q1⟩=> ?_)
 obtain ⟨h1,h2⟩:=cd6 I1 r1 ty
 refine ⟨T,id,pa,slot,hty,h1,h2,?_⟩
 have hA:=ha cpos pins s1 σ H1 _ I1 q1
 rw[hs] at hA ⊢
 refine Calls.callWith_builtin (by show (false||(backTo cpos (starEach es X.env)).any (·.1))=false;rw[hplain]<;>rfl) (Calls.evalArgs_plain ?_)
 exact o5 hA fun us s2 ⟨vs,H2,I2,r2,q2⟩=>hm pins s2 σ H2 x vs v us Q I2 r1 r2 q2
end
end L2
namespace L2
open PySem PySem.Spec PyProof.Rows
def MtM (X:Cx)(id:String)(r:V→List V→Hp→VK→Prop):Prop:=
 ∀(pins:List (Addr×Obj)) (s:Shared) (σ:St) (H:Hp) (x:V) (xs:List V) (v:Value) (us:List Value) (Q:VK),h7 X pins σ H s→n6 x v→j9 xs us→r x xs H Q→
  wpAny (model X.prog X.w) X.A (call (.builtin id) (v::us)) (EP X pins σ Q) X.xe s
theorem j9.one:∀{x:V} {us:List Value},j9 [x] us→∃u,us=[u]∧n6 x u
 |_,_,.cons r .nil=>⟨_,rfl,r⟩
theorem j9.zero:∀{us:List Value},j9 [] us→us=[]
 |_,.nil=>rfl
theorem j9.dropLast {xs:List V}{us:List Value}(h:j9 xs us):j9 xs.dropLast us.dropLast:=by
 induction h with
 |nil=>exact .nil
 |cons r t ih=>
  cases t with
  |nil=>exact .nil
  |cons q t'=>exact .cons r ih
theorem j9.eraseIdx:∀{xs:List V} {us:List Value} (i:Nat),j9 xs us→j9 (xs.eraseIdx i) (us.eraseIdx i)
 |_,_,_,.nil=> .nil
 |_,_,0,.cons _ t=>t
 |_,_,i+1,.cons r t=> .cons r (j9.eraseIdx i t)
theorem j9.reverse {xs:List V}{us:List Value}(h:j9 xs us):j9 xs.reverse us.reverse:=by
 induction h with
 |nil=>exact .nil
 |cons r t ih=>rw[List.reverse_cons,List.reverse_cons];exact j9.append ih (.cons r .nil)
theorem j9.rep {xs:List V}{us:List Value}(h:j9 xs us):∀k:Nat,j9 (ds3 k xs).flatten (ds3 k us).flatten
 |0=> .nil
 |k+1=>by
  rw[dx4,dx4,dq1,dq1]
  exact j9.append h (j9.rep h k)
theorem by9 {α:Type}(l:List α):l.eraseIdx (l.length - 1)=l.dropLast:=by
 induction l with
 |nil=>rfl
 |cons a r ih=>
  cases r with
  |nil=>rfl
  |cons b r=>
   have e:(a::b::r).length - 1=((b::r).length - 1)+1:=by
     have h1:(a::b::r).length=r.length+2:=rfl
     have h2:(b::r).length=r.length+1:=rfl
     omega
   rw[e,List.eraseIdx_cons_succ,ih]
   all_goals rfl
theorem be0 {α:Type}:∀(l:List α) (i:Nat),(l.eraseIdx i).length≤l.length
 |[],_=>do1 _
 |_::_,0=>eg7 _
 |_::r,i+1=>Nat.succ_le_succ (be0 r i)
theorem be1 (its:List Value):∀(k:Nat) (acc:List Value),
   List.foldl (fun x1 x2=>x1++x2) acc.toArray (ds3 k its.toArray)=(acc++(ds3 k its).flatten).toArray
 |0,acc=>by simp
 |k+1,acc=>by
  have e:acc.toArray++its.toArray=(acc++its).toArray:=by simp
  have e2:(acc++its)++(ds3 k its).flatten=acc++(ds3 (k+1) its).flatten:=by
    rw[dx4,dq1,dq4]
  rw[←e2,←be1 its k (acc++its),←e,dx4,List.foldl_cons]
section
variable {X:Cx} {pins:List (Addr×Obj)} {σ:St} {H:Hp} {s:Shared} {l b:Addr} {xs ys zs:List V}
theorem h7.lset {its its':List Value}{n:Nat}{f:Array Value→Array Value}{t':Nat}(I:h7 X pins σ H s)(hH:H l=some (.lst xs))
   (e:s.heap.get? l=some {cls:= .type "list",data:= .seq its.toArray n}) (hf:f its.toArray=its'.toArray) (hv:j9 ys its') (hz:ys.length≤sizeLine):
   h7 X pins σ (c9 H l (.lst ys)) {s with heap:=s.heap.update l (Obj.mapSeq f),toks:=t'}:=by
 have q:=PySem.IsL.update e f
 rw[hf] at q
 refine I.write (x:=l) (e:=l) (by rw[hH];exact trivial) (.inl rfl) (fun b' u hb hu=>(Heap.get?_update_other s.heap (Obj.mapSeq f) (Ne.symm hb)).trans hu) ⟨_,q⟩ ?_
 exact ⟨hz,its',_,hv,q⟩
theorem h7.lnew {its:List Value}{t':Nat}(I:h7 X pins σ H s)(hv:j9 ys its)(hz:ys.length≤sizeLine):
   h7 X pins σ (c9 H s.heap.objs.size (.lst ys)) {s with heap:=s.heap.push {cls:= .type "list",data:= .seq its.toArray},toks:=t'}:=
 I.laid (fun _ _ q=>Heap.get?_push_of_some _ q) (do1 _) ⟨hz,its,0,hv,Heap.get?_push_size _ rfl⟩
theorem h7.fresh (I:h7 X pins σ H s):H s.heap.objs.size=none:=I.hok.fresh (do1 _)
theorem h7.lstM (I:h7 X pins σ H s)(hH:H l=some (.lst xs)):xs.length≤sizeLine∧∃(its:List Value) (n:Nat),j9 xs its∧xs.length=its.length∧s.heap.get? l=some {cls:= .type "list",data:= .seq its.toArray n}:=by
 obtain ⟨z,its,n,r,e⟩:=I.hok l _ hH
 exact ⟨z,its,n,r,r.length,e⟩
theorem bj3 {n:Nat}(h:n≤sizeLine):Builtin.List.listTooLong n=false:=by
 unfold Builtin.List.listTooLong
 exact decide_eq_false (by omega)
end
section
variable {X:Cx}
def bt7:V→List V→Hp→VK→Prop:=fun x vs H Q=>∃l xs y,x= .ref l∧vs=[y]∧H l=some (.lst xs)∧xs.length < sizeLine∧Q .non (c9 H l (.lst (xs++[y])))
theorem cd7:MtM X "list.append" bt7:=by
 intro pins s σ H x vs v us Q I rx rv h
 obtain ⟨l,xs,y,rfl,rfl,hH,hz,q⟩:=h
 cases rx
 obtain ⟨u,rfl,ru⟩:=rv.one
 obtain ⟨z,its,n,r,hl,e⟩:=I.lstM hH
 refine call_meets F.slot_list_append ⟨_,e,rfl⟩ F.entry_list_append (F.args_list_append_2 _ _) (PySem.list_append l its.toArray n u (by rw[dp2];omega)) ⟨e,?_⟩
 refine ⟨.non,_,I.lset (its':=its++[u]) hH e (by simp) (r.append (.cons ru .nil)) ?_,rfl,q⟩
 rw[do6,ee0]
 omega
def bt8:V→List V→Hp→VK→Prop:=fun x vs H Q=>∃l b xs zs,x= .ref l∧vs=[.ref b]∧H l=some (.lst xs)∧H b=some (.lst zs)∧xs.length+zs.length≤sizeLine∧Q .non (c9 H l (.lst (xs++zs)))
theorem cd8:MtM X "list.extend" bt8:=by
 intro pins s σ H x vs v us Q I rx rv h
 obtain ⟨l,b,xs,zs,rfl,rfl,hH,hB,hz,q⟩:=h
 cases rx
 obtain ⟨u,rfl,ru⟩:=rv.one
 cases ru
 obtain ⟨z,its,n,r,hl,e⟩:=I.lstM hH
 obtain ⟨z2,its2,n2,r2,hl2,e2⟩:=I.lstM hB
 have hsz:its.toArray.size+its2.toArray.size≤sizeLine:=by rw[dp2,dp2];omega
 have hlong:¬(!its.toArray.isEmpty&&Builtin.List.listTooLong (its.toArray.size+its2.toArray.size))=true:=by
   rw[bj3 hsz,Bool.and_false]
   exact dq2
 refine call_meets F.slot_list_extend ⟨_,e,rfl⟩ F.entry_list_extend (F.args_list_extend_2 _ _)
   (AutoSeq1.list_extend_list_list_0 l its.toArray n b its2.toArray n2 hlong (by rw[dp2];omega) (by omega)) ⟨e,e2,?_⟩
 refine ⟨.non,_,I.lset (its':=its++its2) hH e (by simp) (r.append r2) ?_,rfl,q⟩
 rw[do6]
 omega
def da2:V→List V→Hp→VK→Prop:=fun x vs H Q=>∃l xs y,x= .ref l∧vs=[]∧H l=some (.lst xs)∧xs[xs.length - 1]? =some y∧Q y (c9 H l (.lst xs.dropLast))
theorem da3:MtM X "list.pop" da2:=by
 intro pins s σ H x vs v us Q I rx rv h
 obtain ⟨l,xs,y,rfl,rfl,hH,hy,q⟩:=h
 cases rx
 have hus:=rv.zero
 subst hus
 obtain ⟨z,its,n,r,hl,e⟩:=I.lstM hH
 obtain ⟨u,hu,ru⟩:=r.get hy
 have hy':its.toArray[its.toArray.size - 1]? =some u:=by
   show its.toArray[its.length - 1]? =some u
   rw[←ds8,←hl]
   exact hu
 refine call_meets F.slot_list_pop ⟨_,e,rfl⟩ F.entry_list_pop (F.args_list_pop_1 _) (MeetsSeq.list_pop_last l its.toArray n u hy' (by rw[dp2];omega)) ⟨e,?_⟩
 refine ⟨y,_,I.lset (its':=its.dropLast) hH e ?_ r.dropLast ?_,ru,q⟩
 · show its.toArray.eraseIdxIfInBounds (its.toArray.size - 1)=its.dropLast.toArray
   rw[dp2,ee1,by9]
 · rw[ef0]
   omega
def cd9:V→List V→Hp→VK→Prop:=fun x vs H Q=>∃l xs i k y,x= .ref l∧vs=[.int i]∧H l=some (.lst xs)∧ -(2^63)≤i∧i < 2^63∧seqIndex? i xs.length=some k∧xs[k]? =some y∧Q y (c9 H l (.lst (xs.eraseIdx k)))
theorem cl1:MtM X "list.pop" cd9:=by
 intro pins s σ H x vs v us Q I rx rv h
 obtain ⟨l,xs,i,k,y,rfl,rfl,hH,h1,h2,hk,hy,q⟩:=h
 cases rx
 obtain ⟨u,rfl,ru⟩:=rv.one
 obtain ⟨t,rfl⟩:=ru
 obtain ⟨z,its,n,r,hl,e⟩:=I.lstM hH
 obtain ⟨w,hw,rw'⟩:=r.get hy
 refine call_meets F.slot_list_pop ⟨_,e,rfl⟩ F.entry_list_pop (F.args_list_pop_2 _ _)
   (MeetsSeq.list_pop_at l its.toArray n i t k w (fitsIndex_both h1 h2) (by rw[dp2,←hl];exact hk) (by rw[←ds8];exact hw) (by rw[dp2];omega)) ⟨e,?_⟩
 refine ⟨y,_,I.lset (its':=its.eraseIdx k) hH e ?_ (r.eraseIdx k) ?_,rw',q⟩
 · show its.toArray.eraseIdxIfInBounds k=(its.eraseIdx k).toArray
   rw[ee1]
 · have:=be0 xs k
   omega
def dl2:R2:=fun x y H Q=>∃l b xs zs,x= .ref l∧y= .ref b∧H l=some (.lst xs)∧H b=some (.lst zs)∧xs.length+zs.length≤sizeLine∧∀p,H p=none→Q (.ref p) (c9 H p (.lst (xs++zs)))
theorem av5:K7 X (binaryOp .Add) dl2:=by
 intro pins s σ H x y v u Q I rx ry h
 obtain ⟨l,b,xs,zs,rfl,rfl,hH,hB,hz,q⟩:=h
 cases rx
 cases ry
 obtain ⟨z,its,n,r,hl,e⟩:=I.lstM hH
 obtain ⟨z2,its2,n2,r2,hl2,e2⟩:=I.lstM hB
 refine PySem.P.add_list e e2 ?_ (by rw[dp2,dp2];omega)
 have ea:its.toArray++its2.toArray=(its++its2).toArray:=by simp
 rw[ea]
 exact ⟨.ref _,_,I.lnew (t':=s.toks) (r.append r2) (by rw[do6];omega),rfl,q _ I.fresh⟩
def dl3:R2:=fun x y H Q=>∃l k xs,x= .ref l∧y= .int k∧H l=some (.lst xs)∧ -(2^63)≤k∧k < 2^63∧xs.length*k.toNat≤sizeLine∧
 ∀p,H p=none→Q (.ref p) (c9 H p (.lst (ds3 k.toNat xs).flatten))
theorem cs7 {α:Type}(xs:List α)(k:Nat):(ds3 k xs).flatten.length=k*xs.length:=by
 induction k with
 |zero=>simp
 |succ k ih=>rw[dx4,dq1,do6,ih,dy8,dv9]
theorem ce0:K7 X (binaryOp .Mult) dl3:=by
 intro pins s σ H x y v u Q I rx ry h
 obtain ⟨l,k,xs,rfl,rfl,hH,h1,h2,hz,q⟩:=h
 cases rx
 obtain ⟨t,rfl⟩:=ry
 obtain ⟨z,its,n,r,hl,e⟩:=I.lstM hH
 have hlen:its.toArray.size*k.toNat≤sizeLine:=by rw[dp2,←hl];exact hz
 have hcap:¬its.toArray.size*k.toNat > (2^63 - 1)/8:=by
   have:(sizeLine:Nat)≤(2^63 - 1)/8:=by decide
   omega
 have hfit:¬(!Builtin.List.listFitsIndex k)=true:=by
   rw[fitsIndex_both h1 h2]
   exact dq2
 have hlong:¬Builtin.List.listTooLong (its.toArray.size*k.toNat)=true:=by
   rw[bj3 hlen]
   exact dq2
 have hnew:List.foldl (fun x1 x2=>x1++x2) #[] (ds3 (if its.toArray.isEmpty=true then 0 else k.toNat) its.toArray)=(ds3 k.toNat its).flatten.toArray:=by
   have f0:∀m:Nat,List.foldl (fun x1 x2=>x1++x2) #[] (ds3 m its.toArray)=(ds3 m its).flatten.toArray:=fun m=>by
     have:=be1 its m []
     rw[List.nil_append] at this
     exact this
   rw[f0]
   cases its with
   |nil=>simp
   |cons a r'=>rw[if_neg (by simp)]
 refine wpAny_binaryOp_repeat_ref (T:="list") (U:="int") (by decide) ⟨_,e,rfl⟩ (fun s'=>typeIs_int s' k t) noFill_list_mul F.fills_int_mul F.slot_int_rmul repeat_list F.slot_int_index.lookup
   (call_meets F.slot_int_rmul (typeIs_int s k t) F.entry_int_rmul (F.args_int_rmul_2 _ _) (int___rmul___int_list k t l its.toArray n)
     ⟨e,rfl,⟨_,e,rfl⟩,call_meets F.slot_list_mul ⟨_,e,rfl⟩ F.entry_list_mul (F.args_list_mul_2 _ _) (AutoListH.list___mul___list_int_3 l its.toArray n k t hfit hcap hlong) ⟨e,?_⟩⟩)
 rw[hnew]
 exact ⟨.ref _,_,I.lnew (t':=s.toks) (r.rep k.toNat) (by rw[cs7,du0];exact hz),rfl,q _ I.fresh⟩
end
end L2
namespace L2
open PySem PySem.Spec PyProof.Rows
section
variable {κ:Type} [DecidableEq κ]
def C1 (kvs:List (κ×V))(k:κ):Option V:=(kvs.find? fun kv=>decide (kv.1=k)).map (·.2)
def R5 (kvs:List (κ×V))(k:κ)(v:V):List (κ×V):=
 if (kvs.any fun kv=>decide (kv.1=k))=true then kvs.map (fun kv=>if kv.1=k then (kv.1,v) else kv) else kvs++[(k,v)]
theorem U2 {p:κ×V}{r:List (κ×V)}{k:κ}(e:p.1=k):C1 (p::r) k=some p.2:=by simp [C1,eb1,e]
theorem R6 {p:κ×V}{r:List (κ×V)}{k:κ}(e:¬p.1=k):C1 (p::r) k=C1 r k:=by simp [C1,eb1,e]
theorem ar2 (k:κ):∀kvs:List (κ×V),(kvs.any fun kv=>decide (kv.1=k))=(C1 kvs k).isSome
 |[]=>rfl
 |p::r=>by
  rw[ec3]
  by_cases e:p.1=k
  · simp only[U2 e,decide_eq_true e,Bool.true_or,Option.isSome_some]
  · rw[R6 e,decide_eq_false e,Bool.false_or];exact ar2 k r
theorem aq3 (kvs:List (κ×V))(k:κ)(v:V):(R5 kvs k v).length≤kvs.length+1:=by
 unfold R5
 split
 · rw[dn8];omega
 · rw[do6,dr8,ec6];omega
theorem ar3 {kvs:List (κ×V)}{k:κ}(v:V)(h:C1 kvs k=none):R5 kvs k v=kvs++[(k,v)]:=by
 unfold R5
 rw[ar2,h]
 exact if_neg (by decide)
theorem Y7.isSome_eq {o:Option V}{u:Option Value}(r:Y7 o u):o.isSome=u.isSome:=by
 cases o with
 |none=>cases u with
  |none=>rfl
  |some _=>exact (show False from r).elim
 |some _=>cases u with
  |none=>exact (show False from r).elim
  |some _=>rfl
theorem KV.val {kvs:List (κ×V)}{vs:List (κ×Value)}(r:KV kvs vs)(k:κ):Y7 (C1 kvs k) (valueAt vs k):=by
 unfold KV at r
 induction r with
 |nil=>exact True.intro
 |@cons p q ps qs h t ih=>
  obtain ⟨h1,h2⟩:=h
  by_cases e:p.1=k
  · have e':q.1=k:=h1.symm.trans e
    have b:valueAt (q::qs) k=some q.2:=by simp [valueAt,eb1,e']
    rw[U2 e,b];exact h2
  · have e':¬q.1=k:=fun z=>e (h1.trans z)
    have b:valueAt (q::qs) k=valueAt qs k:=by simp [valueAt,eb1,e']
    rw[R6 e,b];exact ih
theorem KV.any {kvs:List (κ×V)}{vs:List (κ×Value)}(r:KV kvs vs)(k:κ):(kvs.any fun kv=>decide (kv.1=k))=vs.any fun kv=>decide (kv.1=k):=by
 unfold KV at r
 induction r with
 |nil=>rfl
 |cons h t ih=>rw[ec3,ec3,ih,h.1]
theorem KV.repl {kvs:List (κ×V)}{vs:List (κ×Value)}(r:KV kvs vs)(k:κ){y:V}{u:Value}(ry:n6 y u):
   KV (kvs.map fun kv=>if kv.1=k then (kv.1,y) else kv) (vs.map fun kv=>if kv.1=k then (kv.1,u) else kv):=by
 unfold KV at r ⊢
 induction r with
 |nil=>exact .nil
 |@cons p q ps qs h t ih=>
  rw[dr7,dr7]
  refine .cons ?_ ih
  obtain ⟨h1,h2⟩:=h
  by_cases e:p.1=k
  · rw[if_pos e,if_pos (h1.symm.trans e)];exact ⟨h1,ry⟩
  · rw[if_neg e,if_neg (fun z=>e (h1.trans z))];exact ⟨h1,h2⟩
theorem KV.put {kvs:List (κ×V)}{vs:List (κ×Value)}(r:KV kvs vs)(k:κ){y:V}{u:Value}(ry:n6 y u):KV (R5 kvs k y) (stored vs k u):=by
 unfold R5 stored
 rw[r.any k]
 by_cases e:(vs.any fun kv=>decide (kv.1=k))=true
 · rw[if_pos e,if_pos e];exact r.repl k ry
 · rw[if_neg e,if_neg e];exact Paired.snoc r ⟨rfl,ry⟩
theorem KV.length {kvs:List (κ×V)}{vs:List (κ×Value)}(r:KV kvs vs):kvs.length=vs.length:=Paired.length r
end
theorem ao4 {P:Program}{w:World}{k:o4}{u:Value}(r:n6 (kV k) u):(x8 P w).is k u=true:=by
 cases k with
 |inl i=>obtain ⟨t,e⟩:=(show ∃t,u=Value.int i t from r);subst e;exact aq1 P w i t
 |inr x=>obtain ⟨t,e⟩:=(show ∃t,u=Value.str x t from r);subst e;exact aq2 P w x t
theorem be2 {P:Program}{w:World}:∀{ks:List o4} {us:List Value},j9 (ks.map kV) us→ItemsAre (x8 P w) ks us
 |[],_,r=>by rw[eb8] at r;cases r;exact .nil
 |k::ks,_,r=>by
  rw[dr7] at r
  cases r with
  |cons h t=>exact .cons (ao4 h) (be2 t)
abbrev KT (H:Hp):List (List o4×V)→List (List o4×Addr×Value)→Prop:=Paired fun p q=>p.1=q.1∧H q.2.1=some (.tup (p.1.map kV))∧n6 p.2 q.2.2
theorem KT.val {H:Hp}{kvs:List (List o4×V)}{xs:List (List o4×Addr×Value)}(r:KT H kvs xs)(k:List o4):Y7 (C1 kvs k) ((atKey xs k).map (·.2)):=by
 induction r with
 |nil=>exact True.intro
 |@cons p q ps qs h t ih=>
  obtain ⟨h1,_,h2⟩:=h
  by_cases e:p.1=k
  · have e':q.1=k:=h1.symm.trans e
    have b:atKey (q::qs) k=some q.2:=by simp [atKey,eb1,e']
    rw[U2 e,b];exact h2
  · have e':¬q.1=k:=fun z=>e (h1.trans z)
    have b:atKey (q::qs) k=atKey qs k:=by simp [atKey,eb1,e']
    rw[R6 e,b];exact ih
theorem KT.repl {H:Hp}{kvs:List (List o4×V)}{xs:List (List o4×Addr×Value)}(r:KT H kvs xs)(k:List o4){y:V}{u:Value}(ry:n6 y u):
   KT H (kvs.map fun kv=>if kv.1=k then (kv.1,y) else kv) (xs.map (putAt k u)):=by
 induction r with
 |nil=>exact .nil
 |@cons p q ps qs h t ih=>
  rw[dr7,dr7]
  refine .cons ?_ ih
  obtain ⟨h1,h2,h3⟩:=h
  unfold putAt
  by_cases e:p.1=k
  · rw[if_pos e,if_pos (h1.symm.trans e)];exact ⟨h1,h2,ry⟩
  · rw[if_neg e,if_neg (fun z=>e (h1.trans z))];exact ⟨h1,h2,h3⟩
theorem KT.put {H:Hp}{kvs:List (List o4×V)}{xs:List (List o4×Addr×Value)}(r:KT H kvs xs)(k:List o4){b:Addr}{y:V}{u:Value}(hb:H b=some (.tup (k.map kV)))(ry:n6 y u):
   KT H (R5 kvs k y) (storedH xs k b u):=by
 have e:(kvs.any fun kv=>decide (kv.1=k))=(atKey xs k).isSome:=by
   rw[ar2,(r.val k).isSome_eq,eh0]
 unfold R5 storedH
 rw[e]
 by_cases q:(atKey xs k).isSome=true
 · rw[if_pos q,if_pos q];exact r.repl k ry
 · rw[if_neg q,if_neg q];exact Paired.snoc r ⟨rfl,hb,ry⟩
theorem KT.keeps {H H':Hp}{kvs:List (List o4×V)}{xs:List (List o4×Addr×Value)}(r:KT H kvs xs)(ht:∀b ys,H b=some (.tup ys)→H' b=some (.tup ys)):KT H' kvs xs:=
 Paired.mapP r fun _ _ z=>⟨z.1,ht _ _ z.2.1,z.2.2⟩
section
variable {P:Program} {w:World} {H:Hp} {h:Heap} {a:Addr}
theorem cr2 {u:HO}(ok:G1 P w H h)(e:Rd H a u):r6 P w H h a u:=e.ok ok
theorem av6 {kvs:List (o4×V)}(ok:G1 P w H h)(e:Rd H a (.dK kvs)):kvs.length≤sizeLine∧(a==sysModules)=false∧∃vs,KV kvs vs∧h.DictOf (x8 P w) a vs:=
 show r6 P w H h a (.dK kvs) from cr2 ok e
theorem cr3 {kvs:List (o4×V)}(ok:G1 P w H h)(e:H a=some (.dK kvs)):kvs.length≤sizeLine∧(a==sysModules)=false∧∃vs,KV kvs vs∧h.DictOf (x8 P w) a vs:=av6 ok (.inl e)
theorem ak7 {ks:List o4}(ok:G1 P w H h)(e:H a=some (.tup (ks.map kV))):(tupleKind (x8 P w)).is h ks a:=by
 obtain ⟨_,its,r,o,h1,h2,n,h3⟩:=(show r6 P w H h a (.tup (ks.map kV)) from ok a _ e)
 exact ⟨o,its.toArray,n,h1,h2,h3,by simpa using be2 r⟩
theorem av7 {kvs:List (List o4×V)}(ok:G1 P w H h)(e:Rd H a (.dT kvs)):kvs.length≤sizeLine∧(a==sysModules)=false∧
   ∃xs,KT H kvs xs∧h.DictOfH (tupleKind (x8 P w)) a xs:=by
 obtain ⟨z,y,xs,r,o,es,ep,h1,h2,h3,h4,h5⟩:=(show r6 P w H h a (.dT kvs) from cr2 ok e)
 refine ⟨z,y,xs,r,o,es,ep,h1,h2,h3,h4,fun x hx=> ?_,h5⟩
 have all:∀{l:List (List o4×V)} {m:List (List o4×Addr×Value)},KT H l m→∀x∈m,(tupleKind (x8 P w)).is h x.1 x.2.1:=by
   intro l m q
   induction q with
   |nil=>intro x hx;exact nomatch hx
   |@cons p q ps qs hq t ih=>
    intro x hx
    rcases dp7.mp hx with e|hx
    · subst e
      exact ak7 ok (by rw[←hq.1];exact hq.2.1)
    · exact ih x hx
 exact all r x hx
theorem df9 {kvs:List (List o4×V)}(ok:G1 P w H h)(e:H a=some (.dT kvs)):kvs.length≤sizeLine∧(a==sysModules)=false∧
 ∃xs,KT H kvs xs∧h.DictOfH (tupleKind (x8 P w)) a xs:=av7 ok (.inl e)
end
def Z1 (H:Hp)(a:Addr)(y:V)(r:Option V):Prop:=
 (∃kvs k,Rd H a (.dK kvs)∧y=kV k∧r=C1 kvs k)∨∃kvs k b,Rd H a (.dT kvs)∧y= .ref b∧H b=some (.tup (k.map kV))∧r=C1 kvs k
def ar4 (H:Hp)(a:Addr)(y v:V)(H':Hp):Prop:=
 (∃kvs k,H a=some (.dK kvs)∧y=kV k∧kvs.length < sizeLine∧H'=c9 H a (.dK (R5 kvs k v)))∨
 ∃kvs k b,H a=some (.dT kvs)∧y= .ref b∧H b=some (.tup (k.map kV))∧kvs.length < sizeLine∧H'=c9 H a (.dT (R5 kvs k v))
theorem Z1.k {H:Hp}{a:Addr}{kvs:List (o4×V)}{k:o4}(e:H a=some (.dK kvs)):Z1 H a (kV k) (C1 kvs k):= .inl ⟨kvs,k,.inl e,rfl,rfl⟩
theorem ar4.k {H:Hp}{a:Addr}{kvs:List (o4×V)}{k:o4}{v:V}(e:H a=some (.dK kvs))(hl:kvs.length < sizeLine):ar4 H a (kV k) v (c9 H a (.dK (R5 kvs k v))):= .inl ⟨kvs,k,e,rfl,hl,rfl⟩
section
variable {X:Cx} {pins:List (Addr×Obj)} {σ:St} {H:Hp} {s:Shared} {a:Addr} {y v:V} {u r:Value} {o:Option V} {A:Around} {E:Value→Shared→Prop}
theorem h7.big (I:h7 X pins σ H s):sysModules < s.heap.objs.size:=by
 have h:mainGlobals < s.heap.objs.size:=(I.mod.glob.keeps I.bk).lt
 exact Nat.lt_trans (by decide) h
theorem ce1 {Q:Value→Shared→Prop}(hu:A.units+1 < cLine)(I:h7 X pins σ H s)(g:Z1 H a y (some v))(ry:n6 y u)(h:∀w' s',h7 X pins σ H s'→n6 v w'→Q w' s'):
   wpAny (model X.prog X.w) A (getItem (.ref a) u) Q E s:=by
 rcases g with ⟨kvs,k,e,ey,l⟩|⟨kvs,k,b,e,ey,eb,l⟩
 · subst ey
   obtain ⟨z,hd,vs,rel,dd⟩:=av6 I.hok e
   obtain ⟨w',hw,rw'⟩:=Y7.some_of (v:=v) (o:=valueAt vs k) (by rw[l];exact rel.val k)
   exact wpAny_getItem_of (ao4 ry) dd.mapOf hw (h w' _ (I.tok _) rw')
 · subst ey
   cases (show u=Value.ref b from ry)
   obtain ⟨z,hd,xs,rel,dd⟩:=av7 I.hok e
   obtain ⟨w',hw,rw'⟩:=Y7.some_of (v:=v) (o:=(atKey xs k).map (·.2)) (by rw[l];exact rel.val k)
   obtain ⟨p,hp,hp2⟩:=Option.map_eq_some_iff.mp hw
   refine wpAny_getItem_heap (tupleKind_room_in1 hu) (ak7 I.hok eb) dd hp ?_
   rw[hp2]
   exact h w' _ (I.tok _) rw'
theorem dl4 {Q:Value→Shared→Prop}(hu:A.units+1 < cLine)(I:h7 X pins σ H s)(g:Z1 H a y o)(ry:n6 y u)(h:∀s',h7 X pins σ H s'→Q (.bool o.isSome) s'):
   wpAny (model X.prog X.w) A (compareOp .In u (.ref a)) Q E s:=by
 rcases g with ⟨kvs,k,e,ey,l⟩|⟨kvs,k,b,e,ey,eb,l⟩
 · subst ey
   obtain ⟨z,hd,vs,rel,dd⟩:=av6 I.hok e
   refine wpAny_in_of (ao4 ry) hd dd.mapOf ?_
   rw[←(rel.val k).isSome_eq,←l]
   exact h _ (I.tok _)
 · subst ey
   cases (show u=Value.ref b from ry)
   obtain ⟨z,hd,xs,rel,dd⟩:=av7 I.hok e
   refine wpAny_in_heap (tupleKind_room_in1 hu) (ak7 I.hok eb) hd dd ?_
   have q:=(rel.val k).isSome_eq
   rw[eh0] at q
   rw[←q,←l]
   exact h _ (I.tok _)
theorem cs8 {Q:Value→Shared→Prop}(hu:A.units+1 < cLine)(I:h7 X pins σ H s)(g:Z1 H a y o)(ry:n6 y u)(h:∀s',h7 X pins σ H s'→Q (.bool (!o.isSome)) s'):
   wpAny (model X.prog X.w) A (compareOp .NotIn u (.ref a)) Q E s:=by
 rcases g with ⟨kvs,k,e,ey,l⟩|⟨kvs,k,b,e,ey,eb,l⟩
 · subst ey
   obtain ⟨z,hd,vs,rel,dd⟩:=av6 I.hok e
   refine wpAny_notIn_of (ao4 ry) hd dd.mapOf ?_
   rw[←(rel.val k).isSome_eq,←l]
   exact h _ (I.tok _)
 · subst ey
   cases (show u=Value.ref b from ry)
   obtain ⟨z,hd,xs,rel,dd⟩:=av7 I.hok e
   refine wpAny_notIn_heap (tupleKind_room_in1 hu) (ak7 I.hok eb) hd dd ?_
   have q:=(rel.val k).isSome_eq
   rw[eh0] at q
   rw[←q,←l]
   exact h _ (I.tok _)
theorem ao5 {h':Heap}{t':Nat}{ob:HO}(I:h7 X pins σ H s)(mu:Mut (H a))(hs:Heap.SameBut a s.heap h')(he:∃q,h'.get? a=some q)(new:r6 X.prog X.w (c9 H a ob) h' a ob):
   h7 X pins σ (c9 H a ob) {s with heap:=h',toks:=t'}:=
 I.write (x:=a) (e:=a) mu (.inl rfl) (fun b q hb z=>(hs.2 b hb).trans z) he new
theorem ce2 {P:Program}{w:World}{H':Hp}{h':Heap}{kvs:List (o4×V)}{vs:List (o4×Value)}(z:kvs.length≤sizeLine)(hd:(a==sysModules)=false)(rel:KV kvs vs)(dd:h'.DictOf (x8 P w) a vs):
 r6 P w H' h' a (.dK kvs):=⟨z,hd,vs,rel,dd⟩
theorem ce3 {H':Hp}{Q:Unit→Shared→Prop}(hu:A.units+1 < cLine)(I:h7 X pins σ H s)(g:ar4 H a y v H')(ry:n6 y u)(rv:n6 v r)(h:∀s',h7 X pins σ H' s'→Q () s'):
   wpAny (model X.prog X.w) A (setItem (.ref a) u r) Q E s:=by
 rcases g with ⟨kvs,k,e,ey,l,eH⟩|⟨kvs,k,b,e,ey,eb,l,eH⟩
 · subst ey eH
   obtain ⟨z,hd,vs,rel,dd⟩:=cr3 I.hok e
   have hz:vs.length≤sizeLine:=by rw[←rel.length];exact z
   have hl:(R5 kvs k v).length≤sizeLine:=by have:=aq3 kvs k v;omega
   refine wpAny_setItem_pairs (hsz:=hz) (ao4 ry) dd fun h' dd' hs=>h _ ?_
   have he:∃q,h'.get? a=some q:=let ⟨q,_,_,hq,_⟩:=dd';⟨q,hq⟩
   exact ao5 I (by rw[e];exact True.intro) hs he (ce2 hl hd (rel.put k rv) dd')
 · subst ey eH
   cases (show u=Value.ref b from ry)
   obtain ⟨z,hd,xs,rel,dd⟩:=df9 I.hok e
   have hz:xs.length≤sizeLine:=by rw[←Paired.length rel];exact z
   have hl:(R5 kvs k v).length≤sizeLine:=by have:=aq3 kvs k v;omega
   refine wpAny_setItem_heap (hsz:=hz) (tupleKind_room_in1 hu) (ak7 I.hok eb) dd fun h' dd' hs=>h _ ?_
   obtain ⟨q,es,ep,hq,h2,h3,h4,_,h5⟩:=dd'
   refine ao5 I (by rw[e];exact True.intro) hs ⟨q,hq⟩ ⟨hl,hd,_,(rel.put k eb rv).keeps fun c ys ec=> ?_,q,es,ep,hq,h2,h3,h4,h5⟩
   rw[g8 (cq3 ec e (fun z=>nomatch z))]
   exact ec
end
def da4 (i:Expr):Prop:=∀ov iv,subscripted i false ov iv=operate [ov,iv] (getItem ov iv)
theorem cs9 {prog:Program}{w:World}{A:Around}{E:Value→Shared→Prop}{s:Shared}{env:Env}{value slice:Expr}{pos:Pos}{T id:String}{Q:Value→Shared→Prop}
   (hl:typeLookup (.type T) "__getitem__"=pure (some (.builtin id))) (hs:da4 slice)
   (h:wpAny (model prog w) A (eval value env) (fun o s₁=>wpAny (model prog w) A (eval slice env) (fun i s₂=>s₂.TypeIs o T∧wpAny (model prog w) A (getItem o i) Q E s₂) E s₁) E s):
   wpAny (model prog w) A (eval (.Subscript value slice pos) env) Q E s:=by
 refine Subscript_ (wpAny_mono h (fun o s₁ h₁=>wpAny_mono h₁ (fun i s₂ h₂=> ?_) fun _ _ x=>x) fun _ _ x=>x)
 obtain ⟨hT,h₂⟩:=h₂
 unfold subscriptTail
 refine wpAny_bind ?_
 rw[getitemInPython_of_ne hT.not_modules]
 refine wpAny_bind (wpAny_specialOf hT hl ?_)
 have fin:wpAny (model prog w) A (subscripted slice false o i) (fun r s₃=>wpAny (model prog w) A (letTemporaryGo value o r >>=fun _=>pure r) Q E s₃) E s₂:=by
   rw[hs o i]
   exact wpAny_operating (wpAny_mono h₂ (fun r s₃ h₃=>wpAny_bind (wpAny_letTemporaryGo (wpAny_pure h₃))) fun _ _ x=>x)
 first
   |exact wpAny_pure (wpAny_bind fin)
   |exact wpAny_bind (wpAny_pure (wpAny_bind fin))
   |exact wpAny_bind fin
theorem bq9 {X:Cx}{pins:List (Addr×Obj)}{σ:St}{H:Hp}{s:Shared}{a:Addr}{y:V}{o:Option V}(I:h7 X pins σ H s)(g:Z1 H a y o):s.TypeIs (.ref a) "dict":=by
 rcases g with ⟨kvs,k,e,_,_⟩|⟨kvs,k,b,e,_,_,_⟩
 · obtain ⟨_,_,vs,_,dd⟩:=av6 I.hok e
   exact dd.typeIs
 · obtain ⟨_,_,xs,_,dd⟩:=av7 I.hok e
   exact dd.typeIs
def dg0 (td ty:TE):TE:=fun σ H Q=>td σ H fun x H1=>ty σ H1 fun y H2=>∃a v,x= .ref a∧Z1 H2 a y (some v)∧Q v H2
def dl5 (ty td:TE):TE:=fun σ H Q=>ty σ H fun y H1=>td σ H1 fun x H2=>∃a o,x= .ref a∧Z1 H2 a y o∧Q (.bl o.isSome) H2
def ct0 (ty td:TE):TE:=fun σ H Q=>ty σ H fun y H1=>td σ H1 fun x H2=>∃a o,x= .ref a∧Z1 H2 a y o∧Q (.bl (!o.isSome)) H2
def dg1 (td ty tv:TE):TS:=fun D σ H=>tv σ H fun v H1=>td σ H1 fun x H2=>ty σ H2 fun y H3=>∃a H4,x= .ref a∧ar4 H3 a y v H4∧D.nx σ H4
section
variable {X:Cx} {o i e value:Expr} {pos pos' tpos:Pos} {td ty tv:TE}
theorem ao6 (hu:X.A.units+1 < cLine)(ho:PE X o td)(hi:PE X i ty)(hs:da4 i):PE X (.Subscript o i pos) (dg0 td ty):=by
 intro pins s σ H Q I h
 refine cs9 PySem.F.slot_dict_getitem.lookup hs (o5 (ho pins s σ H _ I h) fun u s1 ⟨x,H1,I1,rx,q1⟩=>o5 (hi pins s1 σ H1 _ I1 q1) fun iv s2 ⟨y,H2,I2,ry,a,v,ex,g,q2⟩=> ?_)
 subst ex
 obtain rfl:u=Value.ref a:=rx
 exact ⟨bq9 I2 g,ce1 hu I2 g ry fun w' s3 I3 rw'=>⟨v,H2,I3,rw',q2⟩⟩
theorem da5 (hu:X.A.units+1 < cLine)(hi:PE X i ty)(ho:PE X o td):PC X .In i o (dl5 ty td):=by
 intro pins s σ H Q I h
 refine o5 (hi pins s σ H _ I h) fun iv s1 ⟨y,H1,I1,ry,q1⟩=>o5 (ho pins s1 σ H1 _ I1 q1) fun u s2 ⟨x,H2,I2,rx,a,ov,ex,g,q2⟩=> ?_
 subst ex
 obtain rfl:u=Value.ref a:=rx
 exact dl4 hu I2 g ry fun s3 I3=>⟨.bl ov.isSome,H2,I3,rfl,q2⟩
theorem ce4 (hu:X.A.units+1 < cLine)(hi:PE X i ty)(ho:PE X o td):PC X .NotIn i o (ct0 ty td):=by
 intro pins s σ H Q I h
 refine o5 (hi pins s σ H _ I h) fun iv s1 ⟨y,H1,I1,ry,q1⟩=>o5 (ho pins s1 σ H1 _ I1 q1) fun u s2 ⟨x,H2,I2,rx,a,ov,ex,g,q2⟩=> ?_
 subst ex
 obtain rfl:u=Value.ref a:=rx
 exact cs8 hu I2 g ry fun s3 I3=>⟨.bl (!ov.isSome),H2,I3,rfl,q2⟩
theorem az7 (hu:X.A.units+1 < cLine)(ho:PE X o td)(hi:PE X i ty)(hv:PE X value tv)(hs:swapsWith value (some (.Subscript o i pos')) pos.line X.env=pure false):
   PS X (.Assign [.Subscript o i pos'] value pos) (dg1 td ty tv):=by
 intro pins s σ H D I h
 refine wpAny_Assign_Subscript (o5 (hv pins s σ H _ I h) fun r s1 ⟨v,H1,I1,rv,q1⟩=>o5 (ho pins s1 σ H1 _ I1 q1) fun u s2 ⟨x,H2,I2,rx,q2⟩=>o5 (hi pins s2 σ H2 _ I2 q2) fun iv s3 ⟨y,H3,I3,ry,a,H4,ex,g,q3⟩=> ?_) hs
 subst ex
 obtain rfl:u=Value.ref a:=rx
 exact ce3 hu I3 g ry rv fun s4 I4=>⟨σ,H4,I4,q3⟩
end
theorem cl2 {P:Program}{w:World}{H:Hp}(h:Heap)(hb:sysModules < h.objs.size):r6 P w H (h.push {cls:= .type "dict",data:= .dict #[]}) h.objs.size (.dK []):=
 ⟨dq3 _,beq_eq_false_iff_ne.mpr (Ne.symm (dt1 hb)),[],.nil,Heap.DictOf.new h⟩
def da6:TE:=fun _ H Q=>∀p,H p=none→Q (.ref p) (c9 H p (.dK []))
section
variable {X:Cx} {pos:Pos}
theorem Z2:PE X (.Dict [] [] pos) da6:=fun pins s σ H Q I h=>
 wpAny_Dict_empty ⟨.ref s.heap.objs.size,_,I.laid (a:=s.heap.objs.size) (o:= .dK []) (t':=s.toks) (fun _ _ q=>Heap.get?_push_of_some _ q) (do1 _) (cl2 s.heap I.big),rfl,h _ (I.hok.fresh (do1 _))⟩
end
end L2
namespace Att
open PySem PySem.W PySem.Calls PyProof.Rows
theorem av8 {P:Params}{h:Heap}:∀(ns:List Int) (vs:List Value),WellAll P h vs (ns.map WData.int)→IntsAre vs ns:=by
 intro ns
 induction ns with
 |nil=>
  intro vs w
  rw[eb8] at w
  cases w
  exact .nil
 |cons n ns ih=>
  intro vs w
  rw[dr7] at w
  cases w with
  |cons a b=>
   cases a
   exact .cons _ _ (ih _ b)
theorem ce5 {l:OpenLaw}{n:Nat}(hn:l.most=some n){P:Params}{h:Heap}{args:List WData}{vals:List Value}
   (hpre:l.row.toRowW.claim.pre args=true) (hwl:WellAll P h vals args):
   ∃a vs ns,vals=[Value.ref a]∧args=[WData.list (ns.map WData.int)]∧h.get? a=some {cls:= .type "list",data:= .seq vs.toArray}∧IntsAre vs ns∧ns.length≤n:=by
 have hsh:WShape.hasAll [] args [.list .int]=true:=(pre_splitW hpre).1
 have hc:l.pre.holds [] {args:=args}=true:=(pre_splitW hpre).2
 obtain ⟨d,r,rfl,h1,h2⟩:=hasAllW_cons hsh
 obtain rfl:=hasAllW_nil h2
 obtain ⟨xs,rfl,h3⟩:=hasW_list h1
 obtain ⟨ns,rfl⟩:=items_int h3
 have hlen:ns.length≤n:=by
   unfold OpenLaw.pre at hc
   have h4:(WTm.not (.lt (.lit (.int (n:Int))) (.len (.arg 0)))).holds [] {args:=[.list (ns.map .int)]}=true:=by
     have h4:=(holds_andW hc).1
     rw[hn] at h4
     exact h4
   have h5:=condW_of h4 (w_not (w_lt w_lit (w_len_list (w_arg rfl))))
   rw[dn8] at h5
   refine Nat.le_of_not_lt fun q=> ?_
   have q':(n:Int) < ((ns.length:Nat):Int):=by omega
   first
     |(rw[decide_eq_true q'] at h5;exact absurd h5 (by decide))
     |(simp at h5;omega)
 cases hwl with
 |cons w1 w2=>
  cases w2
  cases w1 with
  |list ho hall=>exact ⟨_,_,ns,rfl,rfl,ho,av8 ns _ hall,hlen⟩
theorem ce6 (l:OpenLaw)(args:List WData):l.row.toRowW.claim.post args (.bool true) args=true:=
 postW_of (r:=l.row.toRowW) (X:=(true==true))
   (show WShape.has [] (.bool true) .bool=true by first|rfl|decide|simp [WShape.has,WShape.arms,WShape.armsAll])
   (show (WTm.eq .res (.lit (.bool true))).value [] {args:=args,res:=some (.bool true),after:=args}=some (.bool (true==true)) from w_eq_bool (w_res rfl) w_lit) rfl
theorem de6 {l:OpenLaw}{n:Nat}{q:Program}{loose:List Str}{XP:(Str→Option Value)→Heap→Prop}{YP:World→Heap→Prop}{d:DefRec}
   (hn:l.most=some n) (hdf:d.params.defaults=[])
   (call:∀(w:World) (s₀ s₁:Shared) (mg mb:Str→Option Value) (fa:Addr) (o:Obj) (pm cd doc:Value) (a:Addr) (vs:List Value) (ns:List Int),
     Ground q loose [] XP w s₀ mg mb s₁.heap→YP w s₁.heap→
     s₁.heap.get? fa=some o→o.data= .func (docDef d.name d.params d.body d.scope pm cd doc)→s₁.heap.CodeRec cd d.name→mg d.name=some (.ref fa)→
     s₁.heap.get? a=some {cls:= .type "list",data:= .seq vs.toArray}→IntsAre vs ns→ns.length≤n→s₁.gens= #[]→
     codeAny (model l.prog w) callerA (.call (.ref fa) ⟨[.ref a],[]⟩) (fun r s'=>r= .ok (.ret (.bool true))∧OldK s₁.heap s'.heap∧s'.os=s₁.os∧AllBare s'.gens) s₁):
   WalkO q loose XP YP l.row.toRowW d [] (fun f vs=>PySem.call f vs):=by
 intro w s₀ s₁ mg mb G Y fa o pm cd doc dV kV ho hd hcd hD hmg hg args vals as hpre hlay hrd hwl hlo
 obtain rfl:dV= .none:=Dflts.none hD hdf
 obtain rfl:kV= .none:=Dflts.noKw hD
 obtain ⟨a,vs,ns,rfl,rfl,hobj,hints,hlen⟩:=ce5 hn hpre hwl
 refine enter_call (codeAny_mono (call w s₀ s₁ mg mb fa o pm cd doc a vs ns G Y ho (fd_plain hd) hcd hmg hobj hints hlen hg) fun r s' hq=> ?_)
 obtain ⟨rfl,h2,h3,h4⟩:=hq
 exact ⟨.inl ⟨.bool true,.bool true,[],rfl,fun _=>rfl,.bool true,ce6 l _,fun _=>⟨List.Pairwise.nil,fun _ hm=>(nomatch hm)⟩⟩,h2,h3,h4⟩
end Att
namespace L2
open PySem PySem.Spec PyProof.Rows
theorem ak8:∀{vs:List Value} {ns:List Int},IntsAre vs ns→j9 (ns.map V.int) vs
 |_,_,.nil=> .nil
 |_,_,.cons n t h=> .cons ⟨t,rfl⟩ (ak8 h)
def cl3 (H:Hp):Prop:=∀b,H b=none∨∃o xs,H b=some (.frz o (.lst xs))
theorem cl4 {P:Program}{w:World}{K:PySem.W.Frag}{mg mb:Str→Option Value}{CX:CXT}{k:Nat}{fa a:Addr}{fd:FuncData}{x:Str}{sp:Sp}{s₁:Shared}{vs:List Value}{ns:List Int}
   (KX:K.In s₁.heap) (hns:s₁.heap.Ns mainGlobals mg) (hb:s₁.heap.Ns builtinsNs mb) (hbb:∀x:Str,x≠"__name__"→mb x=bootBuiltins x) (hlim:s₁.heap.NoLimit) (hg:s₁.gens= #[])
   (ha:s₁.heap.get? a=some {cls:= .type "list",data:= .seq vs.toArray}) (hi:IntsAre vs ns) (hl:ns.length≤sizeLine) (hr:m7 k callerA)
   (F:∀base:Heap,K.In base→base.Ns mainGlobals mg→o8 P w K mg base CX k fa fd [x] sp) (hbind:∀(s:Shared) (u:Value),BindsTo s fd ⟨[u],[]⟩ [(x,u)])
   (hsp:∀H:Hp,cl3 H→g9 K H a (ns.map V.int)→sp [.ref a] H (fun v _=>v= .bl true) fun _ _ _=>False)
   (hCX:∀H e s',CX [] H s₁ (fun _ _ _=>False) e s'→False):
   codeAny (model P w) callerA (.call (.ref fa) ⟨[.ref a],[]⟩) (fun r s'=>r= .ok (.ret (.bool true))∧OldK s₁.heap s'.heap∧s'.os=s₁.os∧AllBare s'.gens) s₁:=by
 have rv:=ak8 hi
 have lenV:=hi.length
 have core:∀H:Hp,cl3 H→g9 K H a (ns.map V.int)→G1 P w H s₁.heap→(∀b,H b≠none→b=a)→(H a≠none→K.lookup a=none)→
     codeAny (model P w) callerA (.call (.ref fa) ⟨[.ref a],[]⟩) (fun r s'=>r= .ok (.ret (.bool true))∧OldK s₁.heap s'.heap∧s'.os=s₁.os∧AllBare s'.gens) s₁:=by
   intro H hO hS hok hA hK
   have ap5:∀{b:Addr} {o:Obj},s₁.heap.get? b=some o→H b=none→(ag1 s₁.heap H).get? b=some o:=fun e n=>ck2 e n
   have noA:∀{b:Addr} {o:Obj} {es:Array DictEntry} {ep:Nat},s₁.heap.get? b=some o→o.data= .dict es ep→H b=none:=fun {b o es ep} e d=>by
     cases q:H b with
     |none=>rfl
     |some u=>
      have e':b=a:=hA b (by rw[q];simp)
      subst e'
      rw[ha] at e;cases e
      have d':Data.seq vs.toArray _=Data.dict es ep:=d
      cases d'
   have nsK:∀{b:Addr} {m:Str→Option Value},s₁.heap.Ns b m→(ag1 s₁.heap H).Ns b m:=fun {b m} ⟨o,es,ep,e,d,r⟩=>⟨o,es,ep,ap5 e (noA e d),d,r⟩
   have hKb:K.In (ag1 s₁.heap H):=fun b o e=>ap5 (KX b o e) (by
     cases q:H b with
     |none=>rfl
     |some u=>
      have e':b=a:=hA b (by rw[q];simp)
      subst e'
      rw[hK (by rw[q];simp)] at e;cases e)
   have hM:Mod K mg (ag1 s₁.heap H):=⟨hKb,nsK hns,⟨mb,nsK hb,hbb⟩,let ⟨mc,h1,h2⟩:=hlim;⟨mc,nsK h1,h2⟩⟩
   have e0:by6 P w K mg (ag1 s₁.heap H) callerA [] s₁ H:=⟨rfl,hM,fun b o e=>cs0 e,eb9 (cc0 _ _),trivial,fun b hb=>absurd (show b∈([]:List Addr) from hb) (by simp),hok,.of_eq hg⟩
   refine codeAny_mono ((F _ hKb (nsK hns)).run callerA [] s₁ H ⟨[.ref a],[]⟩ [.ref a] [.ref a] _ _ hr e0 (hbind s₁ (.ref a)) (.cons rfl .nil) (hsp H hO hS)) fun r s' h=> ?_
   cases r with
   |error e=>exact (hCX H e s' h).elim
   |ok fl=>
    cases fl with
    |next=>exact False.elim h
    |brk=>exact False.elim h
    |cont=>exact False.elim h
    |ret u=>
     obtain ⟨v,H',os,bare,un,hok',r',q⟩:=h
     have q':v= .bl true:=q
     subst q'
     obtain rfl:u=Value.bool true:=r'
     refine ⟨rfl,OldK.of_keep fun b o e=> ?_,os,bare⟩
     cases q:H b with
     |none=>exact un.keep b o e q (by intro z;exact absurd (show b∈([]:List Addr) from z) (by simp)) (by simp)
     |some u=>
      rcases hO b with z|⟨ob,xs,z⟩
      · rw[q] at z;cases z
      · have z2:=un.frzs b ob _ z
        obtain ⟨e1,_⟩:=hok b _ z
        obtain ⟨e2,_⟩:=hok' b _ z2
        rw[e] at e1;cases e1
        exact e2
 cases hk:K.lookup a with
 |some o=>
  have e:=KX a o hk
  rw[ha] at e
  cases e
  refine core (fun _=>none) (fun _=> .inl rfl) (.inr ⟨_,vs.toArray,_,hk,rfl,rfl,rfl,by rw[dp2,lenV];exact hl,by simpa using rv⟩) (fun b u z=>by have z':(none:Option HO)=some u:=z;cases z') (fun b z=>absurd rfl z) fun z=>absurd rfl z
 |none=>
  refine core (fun b=>if b=a then some (.frz {cls:= .type "list",data:= .seq vs.toArray} (.lst (ns.map V.int))) else none) (fun b=> ?_) (.inl (.inr ⟨{cls:= .type "list",data:= .seq vs.toArray},if_pos rfl⟩)) (fun b u z=> ?_) (fun b z=> ?_) fun _=>hk
  · by_cases hb:b=a
    · exact .inr ⟨_,_,if_pos hb⟩
    · exact .inl (if_neg hb)
  · by_cases hb:b=a
    · have z':=(if_pos hb).symm.trans z
      cases z'
      subst hb
      exact ⟨ha,by rw[dn8];exact hl,vs,_,rv,ha⟩
    · have z':=(if_neg hb).symm.trans z
      cases z'
  · by_cases hb:b=a
    · exact hb
    · exact absurd (if_neg hb) z
end L2
namespace L2
open PySem PySem.Spec PyProof.Rows
theorem dm2 {l:PySem.W.OpenLaw}{n k:Nat}{q:Program}{loose:List Str}{XP:(Str→Option Value)→Heap→Prop}{YP:World→Heap→Prop}{d:DefRec}{K:Params→PySem.W.Frag}{CX:World→CXT}{sp:World→Sp}{x:Str}
   (hn:l.most=some n) (hn2:n≤sizeLine) (hdf:d.params.defaults=[]) (hr:m7 k callerA)
   (hY:∀(w:World) (h:Heap),YP w h→(K w.params).In h)
   (F:∀(w:World) (mg:Str→Option Value) (fa:Addr) (h:Heap),(K w.params).In h→h.Ns mainGlobals mg→mg d.name=some (.ref fa)→
     ∃fd:FuncData,(∀(s:Shared) (u:Value),BindsTo s fd ⟨[u],[]⟩ [(x,u)])∧
      ∀base:Heap,(K w.params).In base→base.Ns mainGlobals mg→o8 l.prog w (K w.params) mg base (CX w) k fa fd [x] (sp w))
   (hsp:∀(w:World) (H:Hp) (a:Addr) (ns:List Int),ns.length≤n→cl3 H→g9 (K w.params) H a (ns.map V.int)→sp w [.ref a] H (fun v _=>v= .bl true) fun _ _ _=>False)
   (hCX:∀(w:World) (H:Hp) (s:Shared) (e:Value) (s':Shared),CX w [] H s (fun _ _ _=>False) e s'→False):
   PySem.W.WalkO q loose XP YP l.row.toRowW d [] (fun f vs=>PySem.call f vs):=by
 refine Att.de6 hn hdf fun w s₀ s₁ mg mb fa o pm cd doc a vs ns G Y ho hd hcd hmg hobj hints hlen hg=> ?_
 have KX:=hY w _ Y
 obtain ⟨fd,hb,hF⟩:=F w mg fa _ KX G.T.g hmg
 exact cl4 KX G.T.g G.T.b G.T.builtins G.T.nolimit hg hobj hints (dp4 hlen hn2) hr hF hb (fun H hO hS=>hsp w H a ns hlen hO hS) fun H e s'=>hCX w H s₁ e s'
end L2
namespace L2
open PySem PySem.Spec PyProof.Rows
def Y3 (s:Stmt):Arguments:=match s with
 | .FunctionDef _ a _ _ _ _ _ _ _ _=>a
 |_=>{posonlyargs:=[],args:=[],vararg:=none,kwonlyargs:=[],kw_defaults:=[],kwarg:=none,defaults:=[]}
def U3 (s:Stmt):List Stmt:=match s with
 | .FunctionDef _ _ b _ _ _ _ _ _ _=>b
 |_=>[]
def i7 (s:Stmt):Scope:=match s with
 | .FunctionDef _ _ _ _ _ _ sc _ _ _=>sc
 |_=>{kind:= .function,names:=[],isGenerator:=false,isCoroutine:=false}
abbrev A0:CXT:=fun _ _ _ _ _ _=>False
abbrev E0:XK:=fun _ _ _=>False
theorem dg2 {X:Cx}:bi7 A0 X E0:=fun _ _ _ _ _ _ _ h=>h.elim
structure A2 (K:PySem.W.Frag)(x qual:Str)(st:Stmt)(f:Addr)(fd:FuncData):Prop where
 ex:∃(oc:Value) (od:Option Addr) (kV doc pm:Value) (an:Option Addr) (cdv ct:Value) (osl:Array (Option Value)),
   fd=PySem.W.fnOf x qual (Y3 st) (U3 st) (i7 st) .none kV doc pm an cdv ct∧K.lookup f=some ⟨oc,od,.func fd,osl⟩∧PySem.W.codeIn K cdv qual=true
 kp:PySem.W.keepIn K (.ref f)=true
section
variable {P:Program} {w:World} {K:PySem.W.Frag} {mg:Str→Option Value} {base:Heap}
theorem A2.ok {x qual:Str}{st:Stmt}{f:Addr}{fd:FuncData}{N ps:List Str}{k:Nat}{sp:Sp}(F:A2 K x qual st f fd)(S:l8 N ps (i7 st))(len:∀vs H Q E,sp vs H Q E→vs.length=ps.length)
   (hbody:∀(cdv:Value) (A:Around) (outer:List Env) (s:Shared) (H:Hp) (vs:List V) (Q:VK) (E:XK),m7 k (A.deeper (envOfC qual (i7 st) s.heap.objs.size f cdv))→sp vs H Q E→
     ∃t,PSs (az4 A0 P w K mg base N qual (i7 st) f cdv A outer s H E).nox (U3 st) t∧t {nx:=fun _ H'=>Q .non H',rt:=Q} (X9 N vs) H):o8 P w K mg base A0 (k+1) f fd ps sp:=by
 obtain ⟨oc,od,kV,doc,pm,an,cdv,ct,osl,rfl,lk,hcd⟩:=F.ex
 refine df6 lk hcd S len fun A outer s H vs Q E hr hsp=> ?_
 obtain ⟨t,h,q⟩:=hbody cdv A outer s H vs Q E hr hsp
 exact ⟨t,h.nox,q⟩
theorem A2.binds {x qual:Str}{st:Stmt}{f:Addr}{fd:FuncData}{ps:List Str}(F:A2 K x qual st f fd)
   (h:∀(kV doc pm:Value) (an:Option Addr) (cdv ct:Value) (us:List Value),us.length=ps.length→bindArgs (PySem.W.fnOf x qual (Y3 st) (U3 st) (i7 st) .none kV doc pm an cdv ct) ⟨us,[]⟩=pure (ps.zip us)):ag3 K fd ps []:=by
 obtain ⟨oc,od,kV,doc,pm,an,cdv,ct,osl,rfl,lk,hcd⟩:=F.ex
 exact .all (h kV doc pm an cdv ct)
theorem da7 {x qual:Str}{st:Stmt}{f:Addr}{oc:Value}{od an:Option Addr}{osl:Array (Option Value)}{kV doc pm cdv ct:Value}(l:K.lookup f=some ⟨oc,od,.func (PySem.W.fnOf x qual (Y3 st) (U3 st) (i7 st) .none kV doc pm an cdv ct),osl⟩)
 (c:PySem.W.codeIn K cdv qual=true) (k:PySem.W.keepIn K (.ref f)=true):A2 K x qual st f (PySem.W.fnOf x qual (Y3 st) (U3 st) (i7 st) .none kV doc pm an cdv ct):=⟨⟨oc,od,kV,doc,pm,an,cdv,ct,osl,rfl,l,c⟩,k⟩
end
theorem S8 {A:Around}{k:Nat}(hr:m7 k A):A.units+1 < cLine:=ds2 (ea5 (by decide:1≤64) _) hr.units
theorem p9 {n:Nat}(h:n≤1000):n < sizeLine:=ds2 h (by decide)
section
variable {X:Cx}
theorem pv (i:Nat){x:Str}{pos:Pos}(hN:X.N[i]? =some x:=by rfl)(hv:Vis X.env.scope x:=by first|exact Or.inl rfl|exact Or.inr (Or.inl rfl)|exact Or.inr (Or.inr rfl))(hd:(x==("__debug__":Str))=false:=by decide)
 (hcd:(x==("__classdict__":Str))=false:=by decide):PE X (.Name x pos) (cy2 i):=cy3 hN hv hd hcd
end
theorem C8 {A B:Prop}(h:B):if false=true then A else B:=by
 rw[if_neg dq2]
 exact h
theorem U4 {A B:Prop}(h:A):if true=true then A else B:=by
 rw[if_pos rfl]
 exact h
theorem W5 {c A B:Prop}[Decidable c](h1:c→A)(h2:¬c→B):if c then A else B:=by
 by_cases h:c
 · rw[if_pos h]
   exact h1 h
 · rw[if_neg h]
   exact h2 h
theorem Y0 {c A B:Prop}[Decidable c](hc:c)(h:B):if (!decide c)=true then A else B:=by
 rw[decide_eq_true hc]
 exact C8 h
def e8 (H H':Hp):Prop:=∀b o,H b=some o→H' b=some o
theorem e8.refl (H:Hp):e8 H H:=fun _ _ h=>h
theorem e8.trans {H H1 H2:Hp}(a:e8 H H1)(b:e8 H1 H2):e8 H H2:=fun c o h=>b c o (a c o h)
theorem e8.free {H H':Hp}(e:e8 H H'){l:Addr}(h:H' l=Option.none):H l=Option.none:=by
 cases q:H l with
 |none=>rfl
 |some o=>
  rw[e l o q] at h
  cases h
section
variable {κ:Type} [DecidableEq κ]
theorem az8:∀{l:List κ} {k:κ},l.Nodup→¬k∈l→(l++[k]).Nodup
 |[],k,_,_=>by simp
 |a::r,k,h,hk=>by
  obtain ⟨h1,h2⟩:=dr5.mp h
  show (a::(r++[k])).Nodup
  refine dr5.mpr ⟨fun m=> ?_,az8 h2 fun m=>hk (dp7.mpr (Or.inr m))⟩
  rcases dp3.mp m with q|q
  · exact h1 q
  · exact hk (dp7.mpr (Or.inl (dp1.mp q).symm))
end
end L2
set_option maxHeartbeats 8000000
namespace L2
open PySem PySem.Spec PyProof.Rows
def Q7 (X:Cx)(N:List Str)(scope:Scope)(cl:List (Str×Addr))(C:Addr)(s0:Shared)(H0:Hp)(ex:List Addr):Cx:=
 {X with N:=N,s₀:=s0,H₀:=H0,env:=compEnvC scope cl C X.env,outer:=X.stack,stack:=X.stack,ex:=ex,fn:=fun _=>false,pn:=[],xe:=fun _ _=>False}
def av9 (nl:Nat)(fr:List Nat)(σ:St):St:=ds3 nl none++fr.map fun j=>(σ[j]?).join
def A9 (env:Env):List (Str×NameKind)→List (Str×Addr)→List (Str×Addr)
 |[],cs=>cs
 |(n,k)::r,cs=>A9 env r (if (k==NameKind.free)=true then (n,(env.cells.lookup n).getD 0)::cs else cs)
theorem aw0 (env:Env):∀(ns:List (Str×NameKind)) (cs:List (Str×Addr)),(∀p∈ns,p.2= .free→∃c,env.cells.lookup p.1=some c)→(∀y c,cs.lookup y=some c→env.cells.lookup y=some c)→
   ∀y c,(A9 env ns cs).lookup y=some c→env.cells.lookup y=some c
 |[],cs,_,h,y,c,e=>h y c e
 |(n,k)::r,cs,hn,h,y,c,e=>by
  unfold A9 at e
  refine aw0 env r _ (fun p hp=>hn p (do4 _ hp)) ?_ y c e
  intro z d ez
  split at ez
  · rename_i hk
    rw[du9] at ez
    cases hz:z==n with
    |true=>
     rw[hz] at ez
     have hzn:z=n:=eq_of_beq hz
     subst hzn
     have hkf:k= .free:=by simpa using hk
     obtain ⟨c',hc'⟩:=hn (z,k) do3 hkf
     have hc':env.cells.lookup z=some c':=hc'
     rw[hc'] at ez
     rw[hc']
     simpa using ez
    |false=>
     rw[hz] at ez
     exact h z d ez
  · exact h z d ez
theorem aq4 (env:Env):∀(ns:List (Str×NameKind)) (cs:List (Str×Addr)) (y:Str),(∃c,cs.lookup y=some c)→∃c,(A9 env ns cs).lookup y=some c
 |[],cs,y,h=>h
 |(n,k)::r,cs,y,⟨c,h⟩=>by
  unfold A9
  refine aq4 env r _ y ?_
  split
  · rw[du9]
    cases hz:y==n with
    |true=>exact ⟨_,rfl⟩
    |false=>exact ⟨c,h⟩
  · exact ⟨c,h⟩
theorem ag5 (env:Env):∀(ns:List (Str×NameKind)) (cs:List (Str×Addr)) (p:Str×NameKind),p∈ns→p.2= .free→∃c,(A9 env ns cs).lookup p.1=some c
 |[],cs,p,hp,_=>by simp at hp
 |(n,k)::r,cs,p,hp,hk=>by
  unfold A9
  rcases dp7.mp hp with e|hp
  · subst e
    have hk:k= .free:=hk
    subst hk
    refine aq4 env r _ n ?_
    rw[if_pos (by rfl),du9]
    exact ⟨(List.lookup n env.cells).getD 0,by simp⟩
  · exact ag5 env r _ p hp hk
theorem ak9 (env:Env):∀(ns:List (Str×NameKind)) (cs:List (Str×Addr)),(∀p∈ns,p.2= .free→∃c,env.cells.lookup p.1=some c)→
   (forIn ns cs (fun (x:Str×NameKind) (r:List (Str×Addr))=>if (x.2==NameKind.free)=true then (do let a ←cellOf env x.1;pure (ForInStep.yield ((x.1,a)::r))) else pure (ForInStep.yield r)):Sem (List (Str×Addr)))=pure (A9 env ns cs)
 |[],cs,_=>rfl
 |(n,k)::r,cs,hn=>by
  have ih:=fun cs'=>ak9 env r cs' fun p hp=>hn p (do4 _ hp)
  rw[List.forIn_cons]
  unfold A9
  by_cases hk:(k==NameKind.free)=true
  · obtain ⟨c,hc⟩:=hn (n,k) do3 (by simpa using hk)
    have hc:env.cells.lookup n=some c:=hc
    rw[if_pos hk,if_pos hk]
    have e1:cellOf env n=pure c:=by unfold cellOf;rw[hc]
    rw[e1,hc]
    exact ih _
  · rw[if_neg hk,if_neg hk]
    exact ih _
theorem ak0 {scope:Scope}{env:Env}(h:∀p∈scope.names,p.2= .free→∃c,env.cells.lookup p.1=some c):closureFor scope env=pure (A9 env scope.names []):=by
 have e:=ak9 env scope.names [] h
 unfold closureFor
 show (forIn scope.names [] _ >>=_)=_
 have e2:(forIn scope.names ([]:List (Str×Addr)) (fun (x:Str×NameKind) (r:List (Str×Addr))=>match x with|(name,kind)=>(if (kind==NameKind.free)=true then (do let a ←cellOf env name;pure PUnit.unit;pure (ForInStep.yield ((name,a)::r))) else (do pure PUnit.unit;pure (ForInStep.yield r)))):Sem (List (Str×Addr)))=pure (A9 env scope.names []):=e
 first
   |exact (congrArg (fun z=>z >>=fun cs=>pure cs) e2)
   |(rw[show (forIn scope.names ([]:List (Str×Addr)) _:Sem (List (Str×Addr)))=pure (A9 env scope.names []) from e];rfl)
section
variable {X:Cx}
def bj4 (X:Cx)(ifs:List Expr)(t:TT):Prop:=
 ∀(pins:List (Addr×Obj)) (s:Shared) (σ:St) (H:Hp) (Q:Bool→Hp→Prop),h7 X pins σ H s→t σ H Q→
  wpAny (model X.prog X.w) X.A (forIn ifs true fun c r=>if r=true then do let ok ←isTrue c X.env (eval c X.env);pure (ForInStep.yield ok) else pure (ForInStep.yield r)) (TP X pins σ Q) X.xe s
def dl6:TT:=fun _ H Q=>Q true H
theorem ag6:bj4 X [] dl6:=fun pins s σ H Q I h=>by
 rw[List.forIn_nil]
 exact wpAny_pure ⟨H,I,h⟩
theorem ar5 {c:Expr}{t:TT}(h:PT X c t):bj4 X [c] t:=by
 intro pins s σ H Q I hw
 rw[List.forIn_cons,if_pos rfl]
 refine wpAny_bind (wpAny_bind (o5 (h pins s σ H Q I hw) fun b s1 q=>wpAny_pure ?_))
 show wpAny _ _ (forIn [] b _) _ _ s1
 rw[List.forIn_nil]
 exact wpAny_pure q
theorem bj5 {prog:Program}{w:World}{A:Around}{R:Result→Shared→Prop}{s:Shared}{elt target iter:Expr}{ifs:List Expr}{scope:Scope}{pos:Pos}{it acc:Value}{env:Env}(I:Nat→Shared→Prop)
   (turn:∀n s,I n s→wpAny (model prog w) A (pyNext it) (fun r s1=>match r with
     |none=>R (.ok .next) s1
     |some v=>wpAny (model prog w) A (letOwnedTupleGo target it v) (fun _ s2=>wpAny (model prog w) A (assign target env v) (fun _ s3=>
         wpAny (model prog w) A (forIn ifs true fun c r=>if r=true then do let ok ←isTrue c env (eval c env);pure (ForInStep.yield ok) else pure (ForInStep.yield r)) (fun ok s4=>
           if ok=true then wpAny (model prog w) A (eval elt env) (fun x s5=>
             wpAny (model prog w) A (call (.builtin "list.append") [acc,x]) (fun _ s6=>∃m,m < n∧I m s6) (fun _ _=>False) s5) (fun _ _=>False) s4
           else ∃m,m < n∧I m s4) (fun _ _=>False) s3) (fun _ _=>False) s2) (fun _ _=>False) s1) (fun _ _=>False) s)
   (n:Nat) (h:I n s):
   codeAny (model prog w) A (.compLoop (.ListComp elt [⟨target,iter,ifs,0⟩] scope pos) 0 it acc env) R s:=by
 refine codeAny_loop rfl I (fun n s hI=> ?_) n h
 show wpAny _ A ((compTurn (.ListComp elt [⟨target,iter,ifs,0⟩] scope pos) 0 it acc env).onRaise (fun x=>do noteFrame x env;theTreesLotGoes x)) _ _ s
 refine wpAny_noted ?_
 rw[compTurn_list]
 refine wpAny_bind (wpAny_standAt (wpAny_bind (wpAny_mono (turn n s hI) (fun r s1 h1=> ?_) fun _ _ f=>f.elim)))
 cases r with
 |none=>exact wpAny_pure h1
 |some v=>
  refine wpAny_bind (wpAny_mono h1 (fun _ s2 h2=> ?_) fun _ _ f=>f.elim)
  refine wpAny_bind (wpAny_mono h2 (fun _ s3 h3=>wpAny_bind (wpAny_mono h3 (fun ok s4 h4=> ?_) fun _ _ f=>f.elim)) fun _ _ f=>f.elim)
  cases ok with
  |false=>exact wpAny_pure ⟨rfl,h4⟩
  |true=>
   exact wpAny_bind (wpAny_bind (wpAny_mono h4 (fun x s5 h5=>wpAny_bind (wpAny_mono h5 (fun _ s6 h6=>wpAny_pure (wpAny_pure ⟨rfl,h6⟩)) fun _ _ f=>f.elim)) fun _ _ f=>f.elim))
def bz0 (J:It)(g:TG)(tc:TT)(te:TE)(Q:VK)(σ0:St)(H0:Hp):Prop:=∃W:Nat→Nat→List V→St→Hp→Prop,(∃m,W 0 m [] σ0 H0)∧∀i m ys σ' H',W i m ys σ' H'→
 (J.stop i H'∧∀D,H' D=none→Q (.ref D) (c9 H' D (.lst ys)))∨
 (J.go i H'∧∃N:List V→St→Hp→Prop,(∀ys' σ2 H2,N ys' σ2 H2→∃m',m' < m∧W (i+1) m' ys' σ2 H2)∧∀x H2,J.yld i H' x H2→g x σ' H2 fun σ2 H3=>tc σ2 H3 fun b H4=>
   if b=true then te σ2 H4 fun y H5=>ys.length < sizeLine∧N (ys++[y]) σ2 H5 else N ys σ2 H4)
def bz1 (nl:Nat)(fr:List Nat)(wi:TI)(g:TG)(tc:TT)(te:TE):TE:=fun σ H Q=>wi σ H fun J H1=>bz0 J g tc te Q (av9 nl fr σ) H1
structure al0 (X:Cx)(N:List Str)(nl:Nat)(fr:List Nat)(scope:Scope):Prop where
 cell:∀y∈scope.names,y.2≠.cell
 kind:scope.kind= .function
 names:∀y∈scope.names,y.2= .local→scope.names.lookup y.1=some .local
 free:∀p∈scope.names,p.2= .free→X.env.kindOf p.1=some .cell∨X.env.kindOf p.1=some .free
 len:N.length=nl+fr.length
 fr:∀(k j:Nat),fr[k]? =some j→∃y,N[nl+k]? =some y∧X.N[j]? =some y∧Vis X.env.scope y∧scope.names.lookup y=some .free
theorem U5 {env:Env}:∀{names:List (Str×NameKind)} {x:Str} {k:NameKind},(names.map fun (n,k)=>if (k==NameKind.free&&env.scope.kind== .function&&env.kindOf n==some .cell) then (n,NameKind.cell) else (n,k)).lookup x=some k→
   k= .cell∨k= .free→(∀y∈names,y.2≠.cell)→∃p∈names,p.1=x∧p.2= .free
 |[],_,_,h,_,_=>by simp at h
 |(n,kn)::r,x,k,h,hk,hc=>by
  have ih:=@U5 env r x k
  rw[dr7] at h
  have hcn:kn≠.cell:=hc (n,kn) do3
  have hr:∀y∈r,y.2≠.cell:=fun y hy=>hc y (do4 _ hy)
  cases hx:x==n with
  |true=>
   have hxn:x=n:=eq_of_beq hx
   by_cases hcc:(kn==NameKind.free&&env.scope.kind== .function&&env.kindOf n==some .cell)=true
   · refine ⟨(n,kn),do3,hxn.symm,?_⟩
     simp only[dx7] at hcc
     simpa using hcc.1.1
   · dsimp only at h
     rw[if_neg hcc,du9,hx] at h
     have hkk:kn=k:=Option.some.inj h
     subst hkk
     rcases hk with z|z
     · exact absurd z hcn
     · exact ⟨(n,kn),do3,hxn.symm,z⟩
  |false=>
   by_cases hcc:(kn==NameKind.free&&env.scope.kind== .function&&env.kindOf n==some .cell)=true
   · dsimp only at h
     rw[if_pos hcc,du9,hx] at h
     obtain ⟨p,hp,q⟩:=ih h hk hr
     exact ⟨p,do4 _ hp,q⟩
   · dsimp only at h
     rw[if_neg hcc,du9,hx] at h
     obtain ⟨p,hp,q⟩:=ih h hk hr
     exact ⟨p,do4 _ hp,q⟩
theorem U0 {env:Env}:∀{names:List (Str×NameKind)} {x:Str},names.lookup x=some .free→
   (names.map fun (n,k)=>if (k==NameKind.free&&env.scope.kind== .function&&env.kindOf n==some .cell) then (n,NameKind.cell) else (n,k)).lookup x=some .cell∨
   (names.map fun (n,k)=>if (k==NameKind.free&&env.scope.kind== .function&&env.kindOf n==some .cell) then (n,NameKind.cell) else (n,k)).lookup x=some .free
 |[],_,h=>by simp at h
 |(n,kn)::r,x,h=>by
  have ih:=@U0 env r x
  rw[dr7]
  dsimp only
  cases hx:x==n with
  |true=>
   rw[du9,hx] at h
   have hkn:kn= .free:=Option.some.inj h
   by_cases hcc:(kn==NameKind.free&&env.scope.kind== .function&&env.kindOf n==some .cell)=true
   · rw[if_pos hcc,du9,hx];exact .inl rfl
   · rw[if_neg hcc,du9,hx];exact .inr (congrArg some hkn)
  |false=>
   rw[du9,hx] at h
   by_cases hcc:(kn==NameKind.free&&env.scope.kind== .function&&env.kindOf n==some .cell)=true
   · rw[if_pos hcc,du9,hx];exact ih h
   · rw[if_neg hcc,du9,hx];exact ih h
theorem G1.track {P:Program}{w:World}{H:Hp}{h:Heap}{a:Addr}{o:HO}(x:G1 P w H h)(hn:H a=none)(new:r6 P w (c9 H a o) h a o):G1 P w (c9 H a o) h:=fun b u e=>by
 by_cases hb:b=a
 · subst hb;rw[c8] at e;cases e;exact new
 · rw[g8 hb] at e
   exact (x b u e).stay (fun c v _ q=>q) (fun c q=>by rw[g8 (g6 q hn)];exact q) fun c xs q=>by rw[g8 (g6 q hn)];exact q
theorem be3 {elt tg iter:Expr}{ifs:List Expr}{scope:Scope}{pos:Pos}{wi:TI}{g:TG}{tc:TT}{te:TE}{N:List Str}{nl:Nat}{fr:List Nat}
   (hc:X.calm=true) (hi:PI X tg iter wi) (hg:∀cl C s0 H0 ex,PG (Q7 X N scope cl C s0 H0 ex) tg g) (ht:∀cl C s0 H0 ex,bj4 (Q7 X N scope cl C s0 H0 ex) ifs tc)
   (he:∀cl C s0 H0 ex,PE (Q7 X N scope cl C s0 H0 ex) elt te) (ok:al0 X N nl fr scope)
   {RR:Value→Addr→Result→Shared→Prop} {pins:List (Addr×Obj)} {s:Shared} {σ:St} {H:Hp} {Q:VK} (I:h7 X pins σ H s) (h:bz1 nl fr wi g tc te σ H Q)
   (hRR:∀D C s' H',h7 X pins σ H' s'→Q (.ref D) H'→ak3 X pins H' C→(∃m,s'.heap.Ns C m)→RR (.ref D) C (.ok .next) s'):
   wpAny (model X.prog X.w) X.A (eval iter X.env) (fun x s1=>wpAny (model X.prog X.w) X.A (pyIter x) (fun it s2=>wpAny (model X.prog X.w) X.A (newList []) (fun acc s3=>
     wpAny (model X.prog X.w) X.A (newFunctionEnv scope X.env.globals (A9 X.env scope.names []) [] X.env.qual none .none (some X.env)) (fun cenv s4=>
       codeAny (model X.prog X.w) X.A (.compStart (.ListComp elt [⟨tg,iter,ifs,0⟩] scope pos) 0 it acc {cenv with scope:=relabel scope X.env}) (RR acc cenv.locals) s4) X.xe s3) X.xe s2) X.xe s1) X.xe s:=by
 refine o5 (hi pins s σ H _ I h) fun v s1 h1=>o5 h1 fun itv s2 h2=> ?_
 obtain ⟨it,fp,tn,J,H2,rfl,I2,T,st2,f2,W,⟨m0,w0⟩,turn⟩:=h2
 refine wpAny_newObj_type (wpAny_newFunctionEnv ok.cell (by intro y hy;simp at hy) (fun h1 hns1 hsb1=> ?_) ok.kind)
 dsimp only at hns1 hsb1 ⊢
 generalize hHH:s2.heap.push {cls:= .type "list",dict:=none,data:= .seq ([]:List Value).toArray}=HH at hns1 hsb1 ⊢
 have hC:HH.objs.size=s2.heap.objs.size+1:=by rw[←hHH,Heap.size_push]
 have hDC:s2.heap.objs.size≠HH.objs.size:=by rw[hC];exact dt1 (Nat.lt_succ_self _)
 have hCle:s2.heap.objs.size≤HH.objs.size:=by rw[hC];exact eg7 _
 have below:∀b,b < s2.heap.objs.size→b≠HH.objs.size∧b≠s2.heap.objs.size:=fun b hb=>⟨by rw[hC];exact dt1 (ed6 hb),dt1 hb⟩
 have old:∀b o,s2.heap.get? b=some o→h1.get? b=some o:=fun b o e=>hsb1.extBut b o (below b (Heap.lt_size e)).1 (Heap.get?_push_of_some _ (hHH▸Heap.get?_push_of_some _ e))
 have hacc:h1.get? s2.heap.objs.size=some {cls:= .type "list",data:= .seq ([]:List Value).toArray}:=hsb1.extBut _ _ hDC (Heap.get?_push_of_some _ (hHH▸Heap.get?_push_size _ rfl))
 have fplt:∀b∈fp,b < s2.heap.objs.size:=fun b hb=>by obtain ⟨o,e,_⟩:=T.obj 0 _ st2 b hb;exact Heap.lt_size e
 generalize hXd:Q7 X N scope (A9 X.env scope.names []) HH.objs.size s2 H2 fp=X'
 have hfreeC:∀p∈scope.names,p.2= .free→∃c,X.env.cells.lookup p.1=some c:=fun p hp hf=>I.ok.has p.1 (ok.free p hp hf)
 have cellsSub:∀y c,(A9 X.env scope.names []).lookup y=some c→X.env.cells.lookup y=some c:=aw0 X.env scope.names [] hfreeC (fun y c e=>by simp at e)
 have cellLt:∀y c,X.env.cells.lookup y=some c→c < s2.heap.objs.size:=fun y c e=>by obtain ⟨v,z⟩:=I2.cell y c e;exact z.lt
 have ok':X'.Ok:=by
   rw[←hXd]
   refine ⟨I.ok.mod,?_,I.ok.glob,I.ok.blt,hCle,fun x y c e1 e2=>I.ok.inj x y c (cellsSub x c e1) (cellsSub y c e2),fun x hx=> ?_,fun x c hf=>(by cases hf),I.ok.hd,I.ok.frames,.inl rfl,
     fun b hb=>⟨(below b (fplt b hb)).1,fun x c e=>(f2 b hb).2.2.2.2.1 x c (cellsSub x c e)⟩,I2.bs,dp4 I.ok.bsz I2.sz,fun b o e hb=> ?_,fun b hb hfs=> ?_,I2.stack,I2.stkFree⟩
   · show (relabel scope X.env).kind= .function
     exact ok.kind
   · have hx':∃p∈scope.names,p.1=x∧p.2= .free:=by
       rcases hx with z|z
       · exact U5 z (.inl rfl) ok.cell
       · exact U5 z (.inr rfl) ok.cell
     obtain ⟨p,hp,rfl,hpf⟩:=hx'
     exact ag5 X.env scope.names [] p hp hpf
   · rcases (f2 b hb).2.2.2.1 with z|z
     · exact I.ok.noex b o e z
     · exact absurd (dt0 (Heap.lt_size e) (dp4 I.ok.bsz z)) (dw8 _)
   · rcases dp7.mp (I2.stkSub b hfs) with z|z
     · exact (f2 b hb).2.1 z
     · exact (f2 b hb).2.2.1 z
 have hX'd:X'.env.locals=HH.objs.size:=by rw[←hXd];rfl
 have hX'c:X'.env.cells=A9 X.env scope.names []:=by rw[←hXd];rfl
 have hX'pn:X'.pn=[]:=by rw[←hXd];rfl
 have hX'ex:X'.ex=fp:=by rw[←hXd];rfl
 have hX's0:X'.s₀=s2:=by rw[←hXd];rfl
 have hX'H0:X'.H₀=H2:=by rw[←hXd];rfl
 have hX'fs:X'.fs=frs X.stack:=by rw[←hXd];rfl
 have hX'xe:X'.xe=fun _ _=>False:=by rw[←hXd];rfl
 have hX'A:X'.A=X.A:=by rw[←hXd];rfl
 have hX'P:X'.prog=X.prog:=by rw[←hXd];rfl
 have hX'w:X'.w=X.w:=by rw[←hXd];rfl
 have hX'K:X'.K=X.K:=by rw[←hXd];rfl
 have hX'calm:X'.calm=true:=by rw[←hXd];exact hc
 have hX'env:X'.env=compEnvC scope (A9 X.env scope.names []) HH.objs.size X.env:=by rw[←hXd];rfl
 have I':h7 X' [] (av9 nl fr σ) H2 {s2 with heap:=h1,toks:=s2.toks+([]:List (Str×Value)).length}:=by
   refine ⟨ok',by rw[hX's0],I2.bare,?_,?_,fun x c e=> ?_,?_,fun x c e=> ?_,fun p hp=> ?_,?_,?_⟩
   · rw[hX'fs,hX'ex,hX'H0,hX's0];exact Un.kept old
   · obtain ⟨m,hn,hl⟩:=I2.loc
     rw[hX'd]
     refine ⟨_,hns1,fun i x v e1 e2 e3=> ?_⟩
     have hN':N[i]? =some x:=by rw[←hXd] at e1;exact e1
     unfold av9 at e2
     have hi:¬i < nl:=fun hlt=>by
       rw[dr6 (by simpa using hlt),eh7,if_pos hlt] at e2
       cases e2
     rw[ds5 (by simpa using hi),dz5,do2] at e2
     cases ej:fr[i - nl]? with
     |none=>rw[ej] at e2;cases e2
     |some j=>
      rw[ej] at e2
      obtain ⟨y,y1,y2,y3,y4⟩:=ok.fr (i - nl) j ej
      have hii:nl+(i - nl)=i:=by omega
      rw[hii,hN'] at y1
      have hxy:x=y:=Option.some.inj y1
      subst hxy
      have e2':(σ[j]?).join=some v:=Option.some.inj e2
      have e2'':σ[j]? =some (some v):=by
        cases hσ:σ[j]? with
        |none=>rw[hσ] at e2';cases e2'
        |some z=>rw[hσ] at e2';exact congrArg some e2'
      obtain ⟨u,r,l⟩:=hl j x v y2 e2'' y3
      have hkX:=ok.free (x,.free) (PySem.mem_of_lookup y4) rfl
      refine ⟨u,r,.inr ⟨?_,?_⟩⟩
      · rw[hX'env]
        rcases U0 (env:=X.env) y4 with z|z
        · exact .inl z
        · exact .inr z
      · rcases l with ⟨k1,_⟩|⟨_,c,ec,hcell⟩
        · rcases hkX with z|z
          · rw[z] at k1;cases k1
          · rw[z] at k1;cases k1
        · obtain ⟨c',ec'⟩:=ag5 X.env scope.names [] (x,.free) (PySem.mem_of_lookup y4) rfl
          have:c'=c:=by
            have q:=cellsSub x c' ec'
            rw[ec] at q
            exact (Option.some.inj q).symm
          subst this
          refine ⟨c',by rw[hX'c];exact ec',?_⟩
          obtain ⟨oc,ho,hd⟩:=hcell
          exact ⟨oc,old _ _ ho,hd⟩
   · rw[hX'c] at e
     obtain ⟨v,oc,ho,hd⟩:=I2.cell x c (cellsSub x c e)
     exact ⟨v,oc,old _ _ ho,hd⟩
   · rw[hX'd];exact I2.hok.fresh hCle
   · rw[hX'c] at e
     exact I2.freeC x c (cellsSub x c e)
   · rw[hX'pn] at hp;simp at hp
   · rw[hX'P,hX'w];exact I2.hok.kept old
   · unfold av9
     have:X'.N=N:=by rw[←hXd];rfl
     rw[this,ok.len,do6,dz5,dn8]
 have Dn:∀{H':Hp} {pins'} {s':Shared} {σ'},h7 X' pins' σ' H' s'→H' s2.heap.objs.size=none→∀o,s'.heap.get? s2.heap.objs.size=some o→(∀v,o.data≠.cell v)→h7 X' [(s2.heap.objs.size,o)] σ' H' s':=fun {H' pins' s' σ'} I3 hD o ho hnc=>
   I3.pins_of fun p hp=>by
     have e:p=(s2.heap.objs.size,o):=by simpa using hp
     subst e
     refine ⟨ho,hD,by rw[hX'd];exact hDC,?_,hnc⟩
     rw[hX'fs]
     intro hb
     rcases dp7.mp (I2.stkSub _ hb) with z|z
     · exact absurd (z▸I2.lt) (dw8 _)
     · exact I2.nofs (do1 _) z
 have loop:∀s₃:Shared,s₃={s2 with heap:=h1,toks:=s2.toks+([]:List (Str×Value)).length}→
     codeAny (model X.prog X.w) X.A (.compLoop (.ListComp elt [⟨tg,iter,ifs,0⟩] scope pos) 0 (.ref it) (.ref s2.heap.objs.size) (compEnvC scope (A9 X.env scope.names []) HH.objs.size X.env)) (RR (.ref s2.heap.objs.size) HH.objs.size) s₃:=by
   rintro s₃ rfl
   refine bj5 (fun n s'=>∃(i:Nat) (σ':St) (H':Hp) (ys:List V) (its:List Value) (k:Nat),h7 X' [(s2.heap.objs.size,{cls:= .type "list",data:= .seq its.toArray k})] σ' H' s'∧j9 ys its∧ys.length≤sizeLine∧tn i s'.heap∧(∀b∈fp,H' b=none)∧W i n ys σ' H')
     ?_ m0 ⟨0,_,H2,[],[],0,Dn I' (I2.hok.fresh (do1 _)) _ hacc (fun v z=>by cases z),.nil,dq3 _,T.keep 0 _ _ st2 fun b hb o e=>old b o e,fun b hb=>(f2 b hb).1,w0⟩
   rintro n s3 ⟨i,σ3,H3,ys,its,k,I3,rv,hyl,st3,fr3,w3⟩
   have pinD:=I3.pin (s2.heap.objs.size,{cls:= .type "list",data:= .seq its.toArray k}) (by rw[hX'pn];exact dq5 _ do3)
   have stat:∀{o:Obj} {H':Hp},(∀b∈fp,H' b=none)→∀b∈fp,ak3 X' [(s2.heap.objs.size,o)] H' b:=fun {o H'} hn b hb=>by
     refine ⟨hn b hb,by rw[hX'd];exact (below b (fplt b hb)).1,fun z=>ok'.exfs b (by rw[hX'ex];exact hb) z,.inl (by rw[hX'ex];exact hb),fun x c e=>by rw[hX'c] at e;exact (f2 b hb).2.2.2.2.1 x c (cellsSub x c e),fun p hp=> ?_⟩
     rw[hX'pn] at hp
     have e:p=(s2.heap.objs.size,o):=by simpa using hp
     subst e
     exact fun z=>(below b (fplt b hb)).2 z.symm
   rcases turn i n ys σ3 H3 w3 with ⟨stop,qn⟩|⟨go,Nx,hNx,step⟩
   · have dn:=T.done X' hX'P hX'w hX'K hX'calm i _ s3 σ3 H3 (fun _ _=>False) I3 (stat fr3) st3 stop
     rw[hX'A] at dn
     refine o5 dn fun r s4 ⟨hr,I4⟩=> ?_
     subst hr
     have pinE:=I4.pin (s2.heap.objs.size,{cls:= .type "list",data:= .seq its.toArray k}) (by rw[hX'pn];exact dq5 _ do3)
     have ub:Un (frs X.stack) fp H2 H3 s2.heap s4.heap:=by
       have:=I4.base
       rw[hX'fs,hX'ex,hX'H0,hX's0] at this
       exact this
     have hok4:G1 X.prog X.w H3 s4.heap:=by have:=I4.hok;rw[hX'P,hX'w] at this;exact this
     have nD:∀b u,H3 b=some u→b≠s2.heap.objs.size:=fun b u e z=>by rw[z,pinE.2.1] at e;cases e
     have u2:Un (frs X.stack) fp H2 (c9 H3 s2.heap.objs.size (.lst ys)) s2.heap s4.heap:=
       ⟨ub.keep,ub.slot,fun b o e n' hx=>by rw[g8 (dt1 (Heap.lt_size e))];exact ub.free b o e n' hx,ub.there,
         fun b xs e=>by have:=ub.tups b xs e;rw[g8 (nD b _ this)];exact this,fun b o u e=>by have:=ub.frzs b o u e;rw[g8 (nD b _ this)];exact this,
         fun b ps e=>by obtain ⟨more,z⟩:=ub.tbls b ps e;exact ⟨more,by rw[g8 (nD b _ z)];exact z⟩⟩
     have I5:h7 X pins σ (c9 H3 s2.heap.objs.size (.lst ys)) s4:=by
       refine I2.call' (by rw[I4.os,hX's0]) u2 ?_ I4.bare fun b hb=>⟨(f2 b hb).2.2.2.1,(f2 b hb).2.1,(f2 b hb).2.2.2.2.1,(f2 b hb).2.2.2.2.2⟩
       exact G1.track hok4 pinE.2.1 ⟨hyl,its,k,rv,pinE.1⟩
     refine hRR _ _ s4 _ I5 (qn _ pinE.2.1) (I2.fpOk hCle ?_) ?_
     · rw[g8 (Ne.symm hDC)]
       have:=I4.free
       rw[hX'd] at this
       exact this
     · obtain ⟨m,hn,_⟩:=I4.loc
       rw[hX'd] at hn
       exact ⟨m,hn⟩
   · have im:=T.item X' hX'P hX'w hX'K hX'calm i _ s3 σ3 H3 (fun _ _=>False) I3 (stat fr3) st3 go
     rw[hX'A] at im
     refine o5 im fun r s4 ⟨u,hr,h4⟩=> ?_
     subst hr
     refine o5 h4 fun _ s5 ⟨x,H5,I5,r5,y5,st5,fr5⟩=> ?_
     have I5':=I5.pinned (stat fr5) (T.obj _ _ st5)
     have gg:=hg (A9 X.env scope.names []) HH.objs.size s2 H2 fp
     rw[hXd] at gg
     have gg:=gg _ s5 σ3 H5 x u _ I5' r5 (step x H5 y5)
     rw[hX'A,hX'P,hX'w,hX'xe,hX'env] at gg
     refine o5 gg fun _ s6 ⟨σ6,H6,I6,q6⟩=> ?_
     have tt:=ht (A9 X.env scope.names []) HH.objs.size s2 H2 fp
     rw[hXd] at tt
     have tt:=tt _ s6 σ6 H6 _ I6 q6
     rw[hX'A,hX'P,hX'w,hX'xe,hX'env] at tt
     refine o5 tt fun ok7 s7 ⟨H7,I7,q7⟩=> ?_
     have again:∀{s8:Shared} {σ8:St} {H8:Hp} {ys8:List V} {its8:List Value} {k8:Nat},h7 X' ([(s2.heap.objs.size,{cls:= .type "list",data:= .seq its8.toArray k8})]++Z0 fp s5.heap) σ8 H8 s8→j9 ys8 its8→ys8.length≤sizeLine→Nx ys8 σ8 H8→
         ∃m,m < n∧∃(i:Nat) (σ':St) (H':Hp) (ys:List V) (its:List Value) (k:Nat),h7 X' [(s2.heap.objs.size,{cls:= .type "list",data:= .seq its.toArray k})] σ' H' s8∧j9 ys its∧ys.length≤sizeLine∧tn i s8.heap∧(∀b∈fp,H' b=none)∧W i m ys σ' H':=
       fun {s8 σ8 H8 ys8 its8 k8} I8 rv8 hl8 n8=>by
         obtain ⟨m',hm,w8⟩:=hNx ys8 σ8 H8 n8
         refine ⟨m',hm,i+1,σ8,H8,ys8,its8,k8,I8.unpinned,rv8,hl8,T.keep _ _ _ st5 fun b hb o e=>(I8.pin (b,o) (dq5 _ (dq5 _ (X6 hb e)))).1,fun b hb=> ?_,w8⟩
         obtain ⟨o,e,d⟩:=T.obj _ _ st5 b hb
         exact (I8.pin (b,o) (dq5 _ (dq5 _ (X6 hb e)))).2.1
     cases ok7 with
     |false=>
      rw[if_neg dq2] at q7 ⊢
      exact again I7 rv hyl q7
     |true=>
      rw[if_pos rfl] at q7 ⊢
      have ee:=he (A9 X.env scope.names []) HH.objs.size s2 H2 fp
      rw[hXd] at ee
      have ee:=ee _ s7 σ6 H7 _ I7 q7
      rw[hX'A,hX'P,hX'w,hX'xe,hX'env] at ee
      refine o5 ee fun yv s8 ⟨y,H8,I8,r8,hyl8,q8⟩=> ?_
      have pin8:=I8.pin (s2.heap.objs.size,{cls:= .type "list",data:= .seq its.toArray k}) (dq5 _ (dt5 _ do3))
      refine wpAny_list_append_plain (items:=its.toArray) ⟨k,pin8.1⟩ (fun h9 hp9 hs9=> ?_) (by rw[dp2,←rv.length];exact hyl)
      obtain ⟨k9,e9⟩:=hp9
      have I9:h7 X' (Z0 fp s5.heap) σ6 H8 s8:=I8.pins_of fun p hp=>I8.pin p (dq5 _ (dq5 _ hp))
      have I9':h7 X' (Z0 fp s5.heap) σ6 H8 {s8 with heap:=h9,toks:=s8.toks}:=by
        refine I9.turned (t':=s8.toks) (it:=s2.heap.objs.size) (fun b o hb e=>hs9.extBut b o hb e) pin8.2.1 (by rw[hX'd];exact hDC) (.inr (by rw[hX's0];exact do1 _)) (fun x c e z=> ?_) fun p hp z=> ?_
        · rw[hX'c] at e
          exact absurd (z▸cellLt x c (cellsSub x c e)) (dw8 _)
        · rw[hX'pn] at hp
          obtain ⟨hb,_⟩:=bd4 (by simpa using hp)
          exact absurd (z▸fplt _ hb) (dw8 _)
      have e9':h9.get? s2.heap.objs.size=some {cls:= .type "list",data:= .seq (its++[yv]).toArray k9}:=by rw[e9];simp
      refine again (ys8:=ys++[y]) (its8:=its++[yv]) (k8:=k9) ?_ (j9.append rv (.cons r8 .nil)) (by rw[do6];exact hyl8) q8
      refine I9'.pins_of fun p hp=> ?_
      rcases dp3.mp hp with z|z
      · have e:p=(s2.heap.objs.size,{cls:= .type "list",data:= .seq (its++[yv]).toArray k9}):=by simpa using z
        subst e
        exact ⟨e9',pin8.2.1,pin8.2.2.1,pin8.2.2.2.1,fun v z=>by cases z⟩
      · exact I9'.pin p (dq5 _ z)
 exact codeAny_compStart_list (loop _ rfl) (T.self X.A 0 _ _ _ (T.keep 0 _ _ st2 fun b hb o e=>old b o e) (loop _ rfl))
end
end L2
namespace L2
open PySem PySem.Spec PyProof.Rows
section
variable {X:Cx}
theorem ae3 {elt tg iter:Expr}{ifs:List Expr}{scope:Scope}{pos:Pos}{wi:TI}{g:TG}{tc:TT}{te:TE}{N:List Str}{nl:Nat}{fr:List Nat}
   (hc:X.calm=true) (ok:al0 X N nl fr scope) (hi:PI X tg iter wi) (hg:∀cl C s0 H0 ex,PG (Q7 X N scope cl C s0 H0 ex) tg g) (ht:∀cl C s0 H0 ex,bj4 (Q7 X N scope cl C s0 H0 ex) ifs tc)
   (he:∀cl C s0 H0 ex,PE (Q7 X N scope cl C s0 H0 ex) elt te) (hs:∀x,foldedSetIterable iter X.env x=pure x:=by intro _;rfl):
   PE X (.ListComp elt [⟨tg,iter,ifs,0⟩] scope pos) (bz1 nl fr wi g tc te):=by
 intro pins s σ H Q I h
 have hclos:closureFor scope X.env=pure (A9 X.env scope.names []):=ak0 fun p hp hf=>I.ok.has p.1 (ok.free p hp hf)
 rw[eval_ListComp]
 refine wpAny_comprehension_free (use:=none) rfl hs hclos ok.kind ok.names (be3 (RR:=fun acc C=>compPost (model X.prog X.w) X.A X.xe none (EP X pins σ Q) acc C) hc hi hg ht he ok I h ?_)
 intro D C s' H' I' q f ⟨m,hn⟩
 exact ⟨m,hn,fun h' hs'=>⟨.ref D,H',I'.turned (t':=s'.toks) (fun b o hb e=>hs'.extBut b o hb e) f.1 f.2.1 f.2.2.2.1 f.2.2.2.2.1 f.2.2.2.2.2,rfl,q⟩⟩
theorem bt9 {i:Nat}{y:Str}{py spos:Pos}{elt tg iter:Expr}{ifs:List Expr}{scope:Scope}{pos:Pos}{wi:TI}{g:TG}{tc:TT}{te:TE}{N:List Str}{nl:Nat}{fr:List Nat}
   (hN:X.N.Nodup) (hi':X.N[i]? =some y) (hx:Loc X.env.scope y)
   (hc:X.calm=true) (ok:al0 X N nl fr scope) (hi:PI X tg iter wi) (hg:∀cl C s0 H0 ex,PG (Q7 X N scope cl C s0 H0 ex) tg g) (ht:∀cl C s0 H0 ex,bj4 (Q7 X N scope cl C s0 H0 ex) ifs tc)
   (he:∀cl C s0 H0 ex,PE (Q7 X N scope cl C s0 H0 ex) elt te) (hsw:swapsWith (.ListComp elt [⟨tg,iter,ifs,0⟩] scope pos) (some (.Name y py)) spos.line X.env=pure true:=by rfl)
   (hs:∀x,foldedSetIterable iter X.env x=pure x:=by intro _;rfl)
   (hf:X.fn y=true∨X.env.scope.names.lookup y=some .local:=by first|exact .inl rfl|exact .inr rfl|assumption):
   PS X (.Assign [.Name y py] (.ListComp elt [⟨tg,iter,ifs,0⟩] scope pos) spos) (ck4 (bz1 nl fr wi g tc te) (bx9 i)):=by
 intro pins s σ H Dn I h
 have hclos:closureFor scope X.env=pure (A9 X.env scope.names []):=ak0 fun p hp hf=>I.ok.has p.1 (ok.free p hp hf)
 rw[exec_Assign_Name_used _ _ _ _ hsw]
 refine wpAny_bind (wpAny_standAt (wpAny_bind ?_))
 show wpAny _ X.A (do let _ ←comprehension (.ListComp elt [⟨tg,iter,ifs,0⟩] scope pos) scope X.env _ (newList []) false (eval iter X.env) (some (assign (.Name y py) X.env))) _ _ s
 refine wpAny_bind (wpAny_mono (wpAny_comprehension_free (use:=some (assign (.Name y py) X.env)) (Q:=fun _ s'=>SP X pins Dn .next s') rfl hs hclos ok.kind ok.names
   (be3 (RR:=fun acc C=>compPost (model X.prog X.w) X.A X.xe (some (assign (.Name y py) X.env)) (fun _ s'=>SP X pins Dn .next s') acc C) hc hi hg ht he ok I h ?_)) (fun _ s' hq=>wpAny_pure (wpAny_pure hq)) fun _ _ e=>e)
 intro D C s' H' I' q f ⟨m,hn⟩
 show wpAny _ X.A (assign (.Name y py) X.env (.ref D)) _ _ _
 refine wpAny_assign_Name (bd2 I' hN hi' hx (v:= .ref D) rfl (fun s2 I2 ⟨a,sb,ha⟩=> ?_) hf)
 have hCa:C≠a:=by
   rcases ha with z|z
   · rw[z];exact f.2.1
   · exact fun e=>f.2.2.2.2.1 _ _ z e.symm
 exact ⟨m,hn.sameBut sb hCa,fun h' hs'=>⟨_,H',I2.turned (t':=s2.toks) (fun b o hb e=>hs'.extBut b o hb e) f.1 f.2.1 f.2.2.2.1 f.2.2.2.2.1 f.2.2.2.2.2,q⟩⟩
theorem ab6 {K:PySem.W.Frag}{a:Addr}{xs:List V}{g:TG}{tc:TT}{te:TE}{σ0:St}{H:Hp}{Q:VK}(Pv:Nat→List V→St→Hp→Prop)(h0:Pv 0 [] σ0 H)(hl:∀i ys σ H,i≤xs.length→Pv i ys σ H→g9 K H a xs)
   (hs:∀i x ys σ H,xs[i]? =some x→Pv i ys σ H→g x σ H fun σ2 H2=>tc σ2 H2 fun b H4=>if b=true then te σ2 H4 fun y H5=>ys.length < sizeLine∧Pv (i+1) (ys++[y]) σ2 H5 else Pv (i+1) ys σ2 H4)
   (hd:∀ys σ H,Pv xs.length ys σ H→∀D,H D=none→Q (.ref D) (c9 H D (.lst ys))):
   bz0 (Itl K a) g tc te Q σ0 H:=by
 refine ⟨fun i m ys σ H=>m=xs.length - i∧i≤xs.length∧Pv i ys σ H,⟨xs.length,by simp,dq3 _,h0⟩,?_⟩
 rintro i m ys σ H ⟨rfl,hi,p⟩
 have q:=hl i ys σ H hi p
 by_cases hlt:i < xs.length
 · refine .inr ⟨⟨xs,xs[i],q,by simp [hlt]⟩,Pv (i+1),fun ys' σ' H' p'=>⟨xs.length - (i+1),by omega,rfl,hlt,p'⟩,fun x H' y=> ?_⟩
   obtain ⟨e,y⟩:=y
   subst e
   exact hs i x ys σ _ (y xs q) p
 · have e:i=xs.length:=by omega
   subst e
   exact .inl ⟨⟨xs,q,do1 _⟩,hd ys σ H p⟩
theorem ag7 {lo:Int}{n:Nat}{g:TG}{tc:TT}{te:TE}{σ0:St}{H:Hp}{Q:VK}(Pv:Nat→List V→St→Hp→Prop)(h0:Pv 0 [] σ0 H)
   (hs:∀i ys σ H,i < n→Pv i ys σ H→g (.int (lo+i)) σ H fun σ2 H2=>tc σ2 H2 fun b H4=>if b=true then te σ2 H4 fun y H5=>ys.length < sizeLine∧Pv (i+1) (ys++[y]) σ2 H5 else Pv (i+1) ys σ2 H4)
   (hd:∀ys σ H,Pv n ys σ H→∀D,H D=none→Q (.ref D) (c9 H D (.lst ys))):
   bz0 (Itr lo n) g tc te Q σ0 H:=by
 refine ⟨fun i m ys σ H=>m=n - i∧i≤n∧Pv i ys σ H,⟨n,by simp,dq3 _,h0⟩,?_⟩
 rintro i m ys σ H ⟨rfl,hi,p⟩
 by_cases hlt:i < n
 · refine .inr ⟨hlt,Pv (i+1),fun ys' σ' H' p'=>⟨n - (i+1),by omega,rfl,hlt,p'⟩,fun x H' y=> ?_⟩
   obtain ⟨e,y⟩:=y
   subst e y
   exact hs i ys σ _ hlt p
 · have e:i=n:=by omega
   subst e
   exact .inl ⟨do1 _,hd ys σ H p⟩
inductive V7 (K:PySem.W.Frag)(H:Hp):Nat→V→V→Bool→Prop where
 |flat {n:Nat} {x y:V}:S7 x=true→S7 y=true→V7 K H n x y (eqV x y)
 |same {n:Nat} (a:Addr):V7 K H n (.ref a) (.ref a) true
 |lists {n:Nat} {a b:Addr} {xs ys:List V} (e:Nat→Bool):a≠b→g9 K H a xs→g9 K H b ys→xs.length=ys.length→(∀(j:Nat) x y,xs[j]? =some x→ys[j]? =some y→V7 K H n x y (e j))→V7 K H (n+1) (.ref a) (.ref b) ((ds0 xs.length).all e)
 |lens {n:Nat} {a b:Addr} {xs ys:List V}:a≠b→g9 K H a xs→g9 K H b ys→xs.length≠ys.length→V7 K H (n+1) (.ref a) (.ref b) false
theorem bj6 {pins:List (Addr×Obj)}{σ:St}{H:Hp}{s:Shared}(I:h7 X pins σ H s){n:Nat}{x y:V}{b:Bool}(d:V7 X.K H n x y b):
   ∀{A:Around} {u v:Value},A.units+n < cLine→n6 x u→n6 y v→SeqAt.EqAt A s u v b:=by
 induction d with
 |flat fx fy=>intro A u v _ rx ry;exact cd4 rx ry fx fy
 |same a=>intro A u v _ rx ry;cases rx;cases ry;exact SeqAt.EqAt.same _
 |@lists n a c xs ys e ne ha hb hl _ ih=>
  intro A u v hu rx ry
  cases rx;cases ry
  obtain ⟨its,r1,p1,_⟩:=I.list ha
  obtain ⟨its2,r2,p2,_⟩:=I.list hb
  have l1:=r1.length
  have l2:=r2.length
  refine SeqAt.EqAt.of_refs ne ?_
  have q:=SeqAt.RcAt.lists (A:=A) (e:=e) p1.isList p2.isList (by rw[dp2,dp2];omega) (by omega) (fun j h1 h2=>by
    have h1':j < its.length:=by simpa using h1
    have h2':j < its2.length:=by simpa using h2
    have e1:xs[j]? =some (xs[j]'(by omega)):=dn9 _
    have e2:ys[j]? =some (ys[j]'(by omega)):=dn9 _
    obtain ⟨u1,z1,q1⟩:=r1.get e1
    obtain ⟨u2,z2,q2⟩:=r2.get e2
    have w1:its.toArray[j]=u1:=by
      rw[dn9 h1'] at z1
      simpa using z1
    have w2:its2.toArray[j]=u2:=by
      rw[dn9 h2'] at z2
      simpa using z2
    rw[w1,w2]
    exact ih j _ _ e1 e2 (by show A.in1.units+n < cLine;have:A.in1.units=A.units+1:=by first|rfl|simp [Around.in1]
                             omega) q1 q2)
  rw[dp2,←l1] at q
  exact q
 |lens ne ha hb hl=>
  intro A u v hu rx ry
  cases rx;cases ry
  obtain ⟨its,r1,p1,_⟩:=I.list ha
  obtain ⟨its2,r2,p2,_⟩:=I.list hb
  have l1:=r1.length
  have l2:=r2.length
  exact SeqAt.EqAt.of_refs ne (SeqAt.RcAt.lists_lengths p1.isList p2.isList (by rw[dp2,dp2];simp;omega) (by omega))
def LEq (K:PySem.W.Frag)(H:Hp)(n:Nat)(xs ys:List V)(r:Bool):Prop:=
 (xs.length≠ys.length∧r=false)∨(∃e:Nat→Bool,xs.length=ys.length∧(∀(j:Nat) x y,xs[j]? =some x→ys[j]? =some y→V7 K H n x y (e j))∧r=(ds0 xs.length).all e)
theorem ce7 {pins:List (Addr×Obj)}{σ:St}{H:Hp}{s:Shared}(I:h7 X pins σ H s){A:Around}{n:Nat}{a b:Addr}{xs ys:List V}{r:Bool}(hu:A.units+n+1 < cLine)(ha:g9 X.K H a xs)(hb:g9 X.K H b ys)(d:LEq X.K H n xs ys r):
   SeqAt.RcAt A s (.ref a) (.ref b) r:=by
 obtain ⟨its,r1,p1,_⟩:=I.list ha
 obtain ⟨its2,r2,p2,_⟩:=I.list hb
 have l1:=r1.length
 have l2:=r2.length
 rcases d with ⟨hl,rfl⟩|⟨e,hl,he,rfl⟩
 · exact SeqAt.RcAt.lists_lengths p1.isList p2.isList (by rw[dp2,dp2];simp;omega) (by omega)
 · have q:=SeqAt.RcAt.lists (A:=A) (e:=e) p1.isList p2.isList (by rw[dp2,dp2];omega) (by omega) (fun j h1 h2=>by
     have h1':j < its.length:=by simpa using h1
     have h2':j < its2.length:=by simpa using h2
     have e1:xs[j]? =some (xs[j]'(by omega)):=dn9 _
     have e2:ys[j]? =some (ys[j]'(by omega)):=dn9 _
     obtain ⟨u1,z1,q1⟩:=r1.get e1
     obtain ⟨u2,z2,q2⟩:=r2.get e2
     have w1:its.toArray[j]=u1:=by
       rw[dn9 h1'] at z1
       simpa using z1
     have w2:its2.toArray[j]=u2:=by
       rw[dn9 h2'] at z2
       simpa using z2
     rw[w1,w2]
     exact bj6 I (he j _ _ e1 e2) (by show A.in1.units+n < cLine;have:A.in1.units=A.units+1:=by first|rfl|simp [Around.in1]
                                      omega) q1 q2)
   rw[dp2,←l1] at q
   exact q
end
end L2
namespace L2
open PySem PySem.Spec PyProof.Rows
section
variable {X:Cx}
theorem cl5 {pins:List (Addr×Obj)}{σ:St}{H:Hp}{s:Shared}(I:h7 X pins σ H s){A:Around}{n:Nat}{a b:Addr}{xs ys:List V}{r:Bool}(hu:A.units+n+1 < cLine)(ha:g9 X.K H a xs)(hb:g9 X.K H b ys)(d:LEq X.K H n xs ys r):
   SeqAt.RcNeAt A s (.ref a) (.ref b) (!r):=by
 obtain ⟨its,r1,p1,_⟩:=I.list ha
 obtain ⟨its2,r2,p2,_⟩:=I.list hb
 have l1:=r1.length
 have l2:=r2.length
 rcases d with ⟨hl,rfl⟩|⟨e,hl,he,rfl⟩
 · exact SeqAt.RcNeAt.lists_lengths p1.isList p2.isList (by rw[dp2,dp2];simp;omega) (by omega)
 · have q:=SeqAt.RcNeAt.lists (A:=A) (e:=e) p1.isList p2.isList (by rw[dp2,dp2];omega) (by omega) (fun j h1 h2=>by
     have h1':j < its.length:=by simpa using h1
     have h2':j < its2.length:=by simpa using h2
     have e1:xs[j]? =some (xs[j]'(by omega)):=dn9 _
     have e2:ys[j]? =some (ys[j]'(by omega)):=dn9 _
     obtain ⟨u1,z1,q1⟩:=r1.get e1
     obtain ⟨u2,z2,q2⟩:=r2.get e2
     have w1:its.toArray[j]=u1:=by
       rw[dn9 h1'] at z1
       simpa using z1
     have w2:its2.toArray[j]=u2:=by
       rw[dn9 h2'] at z2
       simpa using z2
     rw[w1,w2]
     exact bj6 I (he j _ _ e1 e2) (by show A.in1.units+n < cLine;have:A.in1.units=A.units+1:=by first|rfl|simp [Around.in1]
                                      omega) q1 q2)
   rw[dp2,←l1] at q
   exact q
def da8 (K:PySem.W.Frag)(n:Nat)(neg:Bool):R2:=fun x y H Q=>∃a b xs ys r,x= .ref a∧y= .ref b∧g9 K H a xs∧g9 K H b ys∧LEq K H n xs ys r∧Q (.bl (if neg then !r else r)) H
theorem da9 (n:Nat)(hu:X.A.units+n+1 < cLine):K7 X (compareOp .Eq) (da8 X.K n false):=by
 intro pins s σ H x y v u Q I rx ry h
 obtain ⟨a,b,xs,ys,r,rfl,rfl,ha,hb,d,q⟩:=h
 cases rx;cases ry
 exact ce7 I hu ha hb d _ _ _ _ ⟨.bl r,H,I,rfl,q⟩
theorem bj7 (n:Nat)(hu:X.A.units+n+1 < cLine):K7 X (compareOp .NotEq) (da8 X.K n true):=by
 intro pins s σ H x y v u Q I rx ry h
 obtain ⟨a,b,xs,ys,r,rfl,rfl,ha,hb,d,q⟩:=h
 cases rx;cases ry
 exact cl5 I hu ha hb d _ _ _ _ ⟨.bl (!r),H,I,rfl,q⟩
theorem W6 {n:Nat}{e:Nat→Bool}:(ds0 n).all e=true↔∀j,j < n→e j=true:=by
 rw[dx8]
 exact ⟨fun h j hj=>h j (dr4.mpr hj),fun h j hj=>h j (dr4.mp hj)⟩
theorem U6 (K:PySem.W.Frag)(H:Hp)(n:Nat)(ns ms:List Int):LEq K H n (ns.map V.int) (ms.map V.int) (decide (ns=ms)):=by
 by_cases hl:ns.length=ms.length
 · refine .inr ⟨fun j=>decide (ns[j]? =ms[j]?),by simpa using hl,fun j x y e1 e2=> ?_,?_⟩
   · rw[do2] at e1 e2
     cases h1:ns[j]? with
     |none=>rw[h1] at e1;cases e1
     |some a=>
      cases h2:ms[j]? with
      |none=>rw[h2] at e2;cases e2
      |some b=>
       rw[h1] at e1;rw[h2] at e2
       cases e1;cases e2
       have q:V7 K H n (V.int a) (V.int b) (eqV (V.int a) (V.int b)):= .flat rfl rfl
       have e:eqV (V.int a) (V.int b)=decide (some a=some b):=by
         show (a==b)=_
         by_cases z:a=b
         · subst z;simp
         · rw[decide_eq_false (fun w=>z (Option.some.inj w))];simpa using z
       rw[e] at q
       show V7 K H n _ _ (decide (ns[j]? =ms[j]?))
       rw[h1,h2]
       exact q
   · rw[dx3,decide_eq_true_iff,W6]
     constructor
     · intro h j _;subst h;simp
     · intro h
       refine dr3 fun j=> ?_
       by_cases hj:j < ns.length
       · exact of_decide_eq_true (h j (by simpa using hj))
       · rw[do7 (by omega),do7 (by omega)]
 · refine .inl ⟨by simpa using hl,?_⟩
   exact decide_eq_false fun h=>hl (by rw[h])
def db0 (K:PySem.W.Frag)(H:Hp)(as:List Addr)(rs:List (List Int)):Prop:=as.length=rs.length∧∀(j:Nat) a r,as[j]? =some a→rs[j]? =some r→g9 K H a (r.map V.int)
theorem dl7 {K:PySem.W.Frag}{H:Hp}{as bs:List Addr}{rs qs:List (List Int)}(ha:db0 K H as rs)(hb:db0 K H bs qs)(inj:∀p xs ys,g9 K H p xs→g9 K H p ys→xs=ys):LEq K H 1 (as.map V.ref) (bs.map V.ref) (decide (rs=qs)):=by
 by_cases hl:as.length=bs.length
 · refine .inr ⟨fun j=>decide (rs[j]? =qs[j]?),by simpa using hl,fun j x y e1 e2=> ?_,?_⟩
   · rw[do2] at e1 e2
     cases h1:as[j]? with
     |none=>rw[h1] at e1;cases e1
     |some a=>
      cases h2:bs[j]? with
      |none=>rw[h2] at e2;cases e2
      |some b=>
       rw[h1] at e1;rw[h2] at e2
       cases e1;cases e2
       have j1:j < as.length:=(do0.mp h1).1
       have k1:rs[j]? =some (rs[j]'(by rw[←ha.1];exact j1)):=dn9 _
       have k2:qs[j]? =some (qs[j]'(by rw[←hb.1,←hl];exact j1)):=dn9 _
       have q1:=ha.2 j a _ h1 k1
       have q2:=hb.2 j b _ h2 k2
       show V7 K H 1 _ _ (decide (rs[j]? =qs[j]?))
       rw[k1,k2]
       by_cases hab:a=b
       · subst hab
         have e:(rs[j]'(by rw[←ha.1];exact j1)).map V.int=(qs[j]'(by rw[←hb.1,←hl];exact j1)).map V.int:=inj a _ _ q1 q2
         have e':=List.map_inj_right (fun x y (h:V.int x=V.int y)=>V.int.inj h)|>.mp e
         rw[e',decide_eq_true rfl]
         exact .same a
       · generalize (rs[j]'(by rw[←ha.1];exact j1))=r at q1 ⊢
         generalize (qs[j]'(by rw[←hb.1,←hl];exact j1))=q at q2 ⊢
         rcases U6 K H 0 r q with ⟨h3,h4⟩|⟨e,h3,h4,h5⟩
         · have:=V7.lens (n:=0) hab q1 q2 h3
           rw[decide_eq_false (fun z=>by
             have z':r=q:=Option.some.inj z
             exact h3 (by rw[z']))]
           exact this
         · have:=V7.lists (n:=0) e hab q1 q2 h3 h4
           rw[←h5] at this
           have e6:decide (r=q)=decide (some r=some q):=by
             by_cases z:r=q
             · subst z;simp
             · rw[decide_eq_false z,decide_eq_false fun w=>z (Option.some.inj w)]
           rw[←e6]
           exact this
   · rw[dx3,decide_eq_true_iff,W6]
     constructor
     · intro h j _;subst h;simp
     · intro h
       refine dr3 fun j=> ?_
       by_cases hj:j < rs.length
       · exact of_decide_eq_true (h j (by rw[dn8,ha.1];exact hj))
       · rw[do7 (by omega),do7 (by rw[←hb.1,←hl,ha.1];omega)]
 · refine .inl ⟨by simpa using hl,?_⟩
   exact decide_eq_false fun h=>hl (by rw[ha.1,hb.1,h])
theorem br0:R1 X (.type "range") (fun xs H Q=>∃j,xs=[.int j]∧∀p,H p=none→Q (.ref p) (c9 H p (.rng 0 j))):=by
 intro pins s σ H xs us Q I r h
 obtain ⟨j,rfl,q⟩:=h
 obtain ⟨u,rfl,⟨t,rfl⟩⟩:=ab5 r
 refine call_range_1 ⟨.ref s.heap.objs.size,_,I.laid (fun b o e=>Heap.get?_push_of_some _ e) (do1 _) ?_,rfl,q _ (I.hok.fresh (do1 _))⟩
 exact ⟨_,_,_,Heap.get?_push_size _ rfl⟩
def S9 (lo:Int)(n:Nat):List Int:=(ds0 n).map fun (i:Nat)=>lo+(i:Int)
theorem bz2 {lo:Int}{n:Nat}{acc:Array Value}(h:ItemsOf (fun i v=>∃t,v=Value.int (lo+(i:Int)*1) t) acc n):j9 ((S9 lo n).map V.int) acc.toList:=by
 obtain ⟨hs,hv⟩:=h
 have key:∀(l:List Value) (k:Nat),(∀(j:Nat) v,l[j]? =some v→∃t,v=Value.int (lo+((k+j:Nat):Int)) t)→j9 (((ds0 l.length).map fun (i:Nat)=>lo+((k+i:Nat):Int)).map V.int) l:=by
   intro l
   induction l with
   |nil=>intro k _;exact .nil
   |cons v r ih=>
    intro k hk
    have e:(((ds0 r.length).map Nat.succ).map fun (i:Nat)=>lo+((k+i:Nat):Int))=(ds0 r.length).map fun (i:Nat)=>lo+((k+1+i:Nat):Int):=by
      rw[ds7]
      refine dt3 fun i _=> ?_
      show lo+((k+(i+1):Nat):Int)=_
      congr 2;omega
    rw[dr8,List.range_succ_eq_map,dr7,dr7,e]
    refine .cons ?_ ?_
    · obtain ⟨t,e⟩:=hk 0 v rfl
      exact ⟨t,e⟩
    · have:=ih (k+1) fun j w e=>by
        obtain ⟨t,z⟩:=hk (j+1) w (by simpa using e)
        exact ⟨t,by rw[z];congr 2;omega⟩
      exact this
 have:=key acc.toList 0 fun j v e=>by
   obtain ⟨t,z⟩:=hv j v (by simpa using e)
   exact ⟨t,by rw[z,Int.mul_one];simp⟩
 have hl:acc.toList.length=n:=by simpa using hs
 rw[hl] at this
 have e:((ds0 n).map fun (i:Nat)=>lo+((0+i:Nat):Int))=S9 lo n:=by
   unfold S9
   refine dt3 fun i _=> ?_
   simp
 rw[e] at this
 exact this
theorem bg9 (hc:X.calm=true):R1 X (.type "list") (fun xs H Q=>∃p lo hi,xs=[.ref p]∧H p=some (.rng lo hi)∧(-(2^62)≤lo∧lo < 2^62∧ -(2^62)≤hi∧hi < 2^62)∧(hi - lo).toNat≤2^20∧
   ∀l,H l=none→Q (.ref l) (c9 H l (.lst ((S9 lo (hi - lo).toNat).map V.int)))):=by
 intro pins s σ H xs us Q I r h
 obtain ⟨p,lo,hi,rfl,hp,⟨b1,b2,b3,b4⟩,hz,q⟩:=h
 obtain ⟨u,rfl,rx⟩:=ab5 r
 cases rx
 obtain ⟨t,u,v,ho⟩:=I.hok p _ hp
 refine call_list_range (n:=(hi - lo).toNat) (I.ok.hd hc) (r:=p) ho (small_one b1 b2 b3 b4) (by rw[rangeSize_one];split<;>omega) (dp4 hz (by decide)) fun h' tk acc' c' hk e it=> ?_
 have rv:=bz2 it
 refine ⟨.ref s.heap.objs.size,_,I.laid hk (do1 _) (show r6 X.prog X.w _ h' _ (.lst ((S9 lo (hi - lo).toNat).map V.int)) from ⟨?_,acc'.toList,c',rv,by rw[e]⟩),rfl,q _ (I.hok.fresh (do1 _))⟩
 unfold S9
 rw[dn8,dn8,dr0]
 exact dp4 hz (by rw[sizeLine_eq];decide)
theorem ce8 (hc:X.calm=true):R1 X (.builtin "sum") (fun xs H Q=>∃(p:Addr) (ns:List Int),xs=[.ref p]∧g9 X.K H p (ns.map V.int)∧Q (.int ns.sum) H):=by
 intro pins s σ H xs us Q I r h
 obtain ⟨p,ns,rfl,hp,q⟩:=h
 obtain ⟨u,rfl,rx⟩:=ab5 r
 cases rx
 obtain ⟨its,rv,pl,_⟩:=I.list hp
 have ia:=av2 rv
 obtain ⟨xs,hxs⟩:=ia.allInts.items
 have hn:=ia.numsOf
 have hxl:its=(intItems xs).toList:=by rw[←hxs]
 rw[hxl,nums_intItems] at hn
 have hl:=pl.isList
 rw[hxs] at hl
 refine sum_intListG (I.ok.hd hc) hl fun h' tk t' hk=>⟨.int ns.sum,H,I.kept hk,?_,q⟩
 rw[preSum_eq,dw1 (by simp),hn]
 exact ⟨_,rfl⟩
end
end L2
namespace L2
open PySem PySem.Spec PyProof.Rows
section
variable {X:Cx}
theorem cl6:R1 X (.builtin "isinstance") (fun xs H Q=>∃x n t b,xs=[x,.ty n]∧R3 X.K H x t∧PySem.W.kitOne X.K t (.type n)=some b∧Q (.bl b) H):=by
 intro pins s σ H xs us Q I r h
 obtain ⟨x,n,t,b,rfl,ty,e,q⟩:=h
 obtain ⟨u,w',rfl,rx,ry⟩:=by5 r
 cases (show w'=Value.type n from ry)
 exact cd1 I rx ty e fun tk=>⟨.bl b,H,I.tok tk,rfl,q⟩
theorem U7 (K:PySem.W.Frag)(n:String):PySem.W.kitOne K (.type n) (.type n)=some true:=by
 unfold PySem.W.kitOne
 rw[if_pos (beq_self_eq_true _)]
theorem Z3 (K:PySem.W.Frag):PySem.W.kitOne K (.type "int") (.type "bool")=some false:=by
 unfold PySem.W.kitOne PySem.W.kitCls
 rw[if_neg (by decide+kernel)]
 show (if PySem.W.kitMeta "bool"=true then (fastBuiltinMro "int").map (·.contains (Value.type "bool")) else none)=some false
 rw[if_pos (by decide+kernel)]
 decide+kernel
theorem cl7:bootBuiltins "int"=some (.type "int"):=by decide+kernel
theorem ce9:bootBuiltins "bool"=some (.type "bool"):=by decide+kernel
theorem ag8:bootBuiltins "list"=some (.type "list"):=by decide+kernel
theorem br1:bootBuiltins "range"=some (.type "range"):=by decide+kernel
theorem cl8:bootBuiltins "isinstance"=some (.builtin "isinstance"):=by decide+kernel
theorem cf0:bootBuiltins "sum"=some (.builtin "sum"):=by decide+kernel
theorem cf1:bootBuiltins "min"=some (.builtin "min"):=by decide+kernel
theorem cf2:bootBuiltins "max"=some (.builtin "max"):=by decide+kernel
end
def i8 (a:Addr)(H H':Hp):Prop:=∀b o,H b=some o→b≠a→H' b=some o
theorem i8.refl (a:Addr)(H:Hp):i8 a H H:=fun _ _ h _=>h
theorem i8.trans {a:Addr}{H H1 H2:Hp}(x:i8 a H H1)(y:i8 a H1 H2):i8 a H H2:=fun b o h n=>y b o (x b o h n) n
theorem e8.but {H H':Hp}(a:Addr)(s:e8 H H'):i8 a H H':=fun b o h _=>s b o h
theorem e8.upd_new {H:Hp}{p:Addr}{o:HO}(h:H p=none):e8 H (c9 H p o):=fun b u e=>by rw[g8 (g6 e h)];exact e
theorem i8.upd {H:Hp}{a:Addr}{o:HO}:i8 a H (c9 H a o):=fun b u e n=>by rw[g8 n];exact e
theorem e8.upd_r {H H':Hp}{p:Addr}{o:HO}(s:e8 H H')(h:H p=none):e8 H (L2.c9 H' p o):=fun b u e=>by rw[g8 (g6 e h)];exact s b u e
theorem i8.upd_r {a:Addr}{H H':Hp}{p:Addr}{o:HO}(k:i8 a H H')(h:H p=none):i8 a H (L2.c9 H' p o):=fun b u e n=>by rw[g8 (g6 e h)];exact k b u e n
theorem i8.upd_a {a:Addr}{H H':Hp}{o:HO}(k:i8 a H H'):i8 a H (L2.c9 H' a o):=fun b u e n=>by rw[g8 n];exact k b u e n
end L2
namespace L2
open PySem PySem.Spec PyProof.Rows
def j7 (P:Program)(w:World)(K:PySem.W.Frag)(mg:Str→Option Value)(base:Heap)(x:Str)(k:Nat)(ps:List Str)(sp:Sp):Prop:=
 ∃(f:Addr) (fd:FuncData),mg x=some (.ref f)∧PySem.W.keepIn K (.ref f)=true∧ag3 K fd ps []∧o8 P w K mg base A0 k f fd ps sp
theorem j7.imp {P:Program}{w:World}{K:PySem.W.Frag}{mg:Str→Option Value}{base:Heap}{x:Str}{k:Nat}{ps:List Str}{sp sp':Sp}(c:j7 P w K mg base x k ps sp)(h:∀vs H Q E,sp' vs H Q E→sp vs H Q E)(hl:∀vs H Q E,sp' vs H Q E→vs.length=ps.length):j7 P w K mg base x k ps sp':=by
 obtain ⟨f,fd,a,b,d,g⟩:=c
 exact ⟨f,fd,a,b,d,g.imp (by first|exact h|exact fun vs H Q E z=>h vs H Q E z)⟩
section
variable {X:Cx} {x:Str} {p pos:Pos} {e:Expr} {es:List Expr} {t:TA} {k:Nat} {ps:List Str} {sp:Sp}
theorem h8 (c:j7 X.prog X.w X.K X.mg X.base x k ps sp)(hr:m7 k X.A)(ha:PA X (e::es) t)(hg:Gl X x:=by rfl)(hdb:(x==("__debug__":Str))=false:=by decide)
   (he:starEach (e::es) X.env=(false,eval e X.env)::starEach es X.env:=by rfl) (hpl:(backTo pos (starEach es X.env)).any (·.1)=false:=by rfl):
   PE X (.Call (.Name x p) (e::es) [] pos) (cr0 sp [] E0 t):=by
 obtain ⟨f,fd,h1,h2,h3,h4⟩:=c
 exact cs3 h4 hr hg h1 h2 h3 .nil dg2 ha hdb he hpl
theorem al1 {a b:Expr}{ta:TA}(hm:X.mg "isinstance"=none)(ha:PA X [a,b] ta)(hg:Gl X "isinstance":=by rfl)
   (he:starEach [a,b] X.env=(false,eval a X.env)::starEach [b] X.env:=by rfl) (hpl:(backTo pos (starEach [b] X.env)).any (·.1)=false:=by rfl):
   PE X (.Call (.Name "isinstance" p) [a,b] [] pos) (tCB (fun xs H Q=>∃x n t b,xs=[x,.ty n]∧R3 X.K H x t∧PySem.W.kitOne X.K t (.type n)=some b∧Q (.bl b) H) ta):=
 R4 cl6 hg hm cl8 ha (by decide) (by decide) he hpl
theorem cl9 (hm:X.mg "int"=none)(hg:Gl X "int":=by rfl):PE X (.Name "int" p) (tC (.ty "int")):=az2 hg hm cl7 rfl
theorem cf3 (hm:X.mg "bool"=none)(hg:Gl X "bool":=by rfl):PE X (.Name "bool" p) (tC (.ty "bool")):=az2 hg hm ce9 rfl
theorem al3 (hm:X.mg "list"=none)(hg:Gl X "list":=by rfl):PE X (.Name "list" p) (tC (.ty "list")):=az2 hg hm ag8 rfl
theorem t8 (hm:X.mg "len"=none)(ha:PA X [e] t)(hg:Gl X "len":=by rfl)
   (he:starEach [e] X.env=(false,eval e X.env)::starEach [] X.env:=by rfl):PE X (.Call (.Name "len" p) [e] [] pos) (tCB (fun xs H Q=>∃p ys,xs=[.ref p]∧(g9 X.K H p ys∨Q6 X.K H p ys)∧Q (.int ys.length) H) t):=
 R4 bj1 hg hm PySem.boot_len ha (by decide) (by decide) he rfl
end
end L2
namespace Mth
structure j8 (p:List Int):Prop where
 nd:p.Nodup
 lo:∀x∈p,0≤x
 hi:∀x∈p,x < p.length
theorem N7 {n:Nat}{x:Int}:x∈L2.S9 0 n↔0≤x∧x < n:=by
 unfold L2.S9
 rw[do9]
 constructor
 · rintro ⟨i,hi,rfl⟩
   have:=dr4.mp hi
   omega
 · rintro ⟨h1,h2⟩
   exact ⟨x.toNat,dr4.mpr (by omega),by omega⟩
theorem K3 (lo:Int)(n:Nat):(L2.S9 lo n).length=n:=by
 unfold L2.S9
 rw[dn8,dr0]
theorem Y1 (n:Nat):(L2.S9 0 n).Nodup:=by
 unfold L2.S9
 rw[dp6,dw2]
 exact List.Pairwise.imp (fun {a b} (h:a < b)=>by omega) List.pairwise_lt_range
theorem ac3 {p:List Int}{n:Nat}(h:p.Perm (L2.S9 0 n)):j8 p∧p.length=n:=by
 have hl:p.length=n:=by rw[h.length_eq,K3]
 refine ⟨⟨h.nodup_iff.mpr (Y1 n),fun x hx=>(N7.mp (h.mem_iff.mp hx)).1,fun x hx=> ?_⟩,hl⟩
 have:=(N7.mp (h.mem_iff.mp hx)).2
 omega
theorem bh0:∀(n:Nat) (p:List Nat),p.Nodup→(∀x∈p,x < n)→p.length=n→p.Perm (ds0 n):=by
 intro n
 induction n with
 |zero=>intro p _ _ hl;rw[List.eq_nil_of_length_eq_zero hl];exact List.Perm.refl _
 |succ n ih=>
  intro p nd hb hl
  by_cases hn:n∈p
  · obtain ⟨s,t,rfl⟩:=eg2 hn
    have pm:(s++n::t).Perm (n::(s++t)):=List.perm_middle
    have nd':=pm.nodup_iff.mp nd
    obtain ⟨h1,h2⟩:=dr5.mp nd'
    have:=ih (s++t) h2 (fun x hx=>by
      have hx':x < n+1:=hb x (pm.mem_iff.mpr (do4 _ hx))
      have:x≠n:=fun e=>h1 (e▸hx)
      omega) (by rw[do6,dr8] at hl;rw[do6];omega)
    refine pm.trans ?_
    rw[ea0]
    exact (List.Perm.cons n this).trans (dv7 (l₁:=[n]))
  · exfalso
    have hlt:∀x∈p,x < n:=fun x hx=>by
      have h1:=hb x hx
      have:x≠n:=fun e=>hn (e▸hx)
      omega
    match p,nd,hl,hlt with
    |[],_,hl,_=>simp at hl
    |y::q,nd,hl,hlt=>
     obtain ⟨h1,h2⟩:=dr5.mp nd
     have hq:=ih q h2 (fun x hx=>hlt x (do4 _ hx)) (by simpa using hl)
     have hy:=hlt y do3
     exact h1 (hq.mem_iff.mpr (dr4.mpr hy))
theorem j8.perm {p:List Int}(h:j8 p):p.Perm (L2.S9 0 p.length):=by
 have e:(p.map ef3).map (fun (i:Nat)=>(0:Int)+(i:Int))=p:=by
   rw[ds7]
   conv=>rhs;rw[←eb5 p]
   refine dt3 fun x hx=> ?_
   have:=h.lo x hx
   show (0:Int)+((x.toNat:Nat):Int)=x
   omega
 have nd:(p.map ef3).Nodup:=by
   rw[dp6,dw2]
   have:=dp6.mp h.nd
   refine List.Pairwise.imp_of_mem (fun {a b} ha hb hne z=>hne ?_) this
   have h1:=h.lo a ha
   have h2:=h.lo b hb
   omega
 have:=bh0 p.length (p.map ef3) nd (fun x hx=>by
   obtain ⟨y,hy,rfl⟩:=do9.mp hx
   have h1:=h.lo y hy
   have h2:=h.hi y hy
   omega) (by rw[dn8])
 have q:=this.map (fun (i:Nat)=>(0:Int)+(i:Int))
 rw[e] at q
 exact q
def x6 (fs:List Int)(u:Int):Option Int:=fs[u.toNat]?
theorem bj8 (fs:List Int):(L2.S9 0 fs.length).map (x6 fs)=fs.map some:=by
 unfold L2.S9
 rw[ds7]
 refine dr3 fun j=> ?_
 rw[do2,do2]
 by_cases hj:j < fs.length
 · rw[ds1 hj,dn9 hj]
   show some (fs[((0:Int)+(j:Int)).toNat]?)=_
   have:((0:Int)+(j:Int)).toNat=j:=by omega
   rw[this,dn9 hj]
   rfl
 · rw[do7 (by rw[dr0];omega),do7 (by omega)]
   rfl
theorem cf4 {a b:List Int}(h:(a.map some).Perm (b.map some)):a.Perm b:=by
 have:=h.map (fun o:Option Int=>o.getD 0)
 rw[ds7,ds7] at this
 have e:∀l:List Int,l.map ((fun o:Option Int=>o.getD 0)∘some)=l:=fun l=>by
   conv=>rhs;rw[←eb5 l]
   rfl
 rw[e,e] at this
 exact this
theorem aw1 {fs ts qs:List Int}(ht:j8 ts)(hl:fs.length=ts.length)(h:ts.map (x6 fs)=qs.map some):fs.Perm qs:=by
 refine cf4 ?_
 have h1:=ht.perm.map (x6 fs)
 rw[←hl,bj8,h] at h1
 exact h1.symm
end Mth
namespace L2
open PySem PySem.Spec PyProof.Rows
theorem al0.of {X:Cx}{N:List Str}{nl:Nat}{fr:List Nat}{scope:Scope}(h1:(scope.names.all fun y=>y.2 != .cell)=true:=by rfl)(h2:scope.kind= .function:=by rfl)
   (h3:(scope.names.all fun y=>y.2 != .local||scope.names.lookup y.1==some .local)=true:=by rfl)
   (h4:(scope.names.all fun p=>p.2 != .free||(X.env.kindOf p.1==some .cell||X.env.kindOf p.1==some .free))=true:=by rfl) (h5:N.length=nl+fr.length:=by rfl)
   (h6:((ds0 fr.length).all fun k=>match fr[k]? with
     |some j=>(match N[nl+k]?,X.N[j]? with
      |some y,some z=>y==z&&(X.env.scope.names.lookup y==some .local||X.env.scope.names.lookup y==some .cell||X.env.scope.names.lookup y==some .free)&&scope.names.lookup y==some .free
      |_,_=>false)
     |none=>false)=true:=by rfl):al0 X N nl fr scope where
 cell:=fun y hy e=>by
   have:=dx8.mp h1 y hy
   rw[e] at this;exact absurd this (by decide)
 kind:=h2
 names:=fun y hy e=>by
   have:=dx8.mp h3 y hy
   rw[e] at this
   have q:(scope.names.lookup y.1==some NameKind.local)=true:=by simpa using this
   exact eq_of_beq q
 free:=fun p hp e=>by
   have:=dx8.mp h4 p hp
   rw[e] at this
   have q:(X.env.kindOf p.1==some NameKind.cell||X.env.kindOf p.1==some NameKind.free)=true:=by simpa using this
   rcases ec7 _ _|>.mp q with z|z
   · exact .inl (eq_of_beq z)
   · exact .inr (eq_of_beq z)
 len:=h5
 fr:=fun k j e=>by
   have hk:k < fr.length:=(do0.mp e).1
   have:=dx8.mp h6 k (dr4.mpr hk)
   rw[e] at this
   dsimp only at this
   cases e1:N[nl+k]? with
   |none=>rw[e1] at this;cases this
   |some y=>
    cases e2:X.N[j]? with
    |none=>rw[e1,e2] at this;cases this
    |some z=>
     rw[e1,e2] at this
     dsimp only at this
     rw[dx7,dx7] at this
     obtain ⟨⟨q1,q2⟩,q3⟩:=this
     have hyz:y=z:=eq_of_beq q1
     subst hyz
     refine ⟨y,rfl,rfl,?_,eq_of_beq q3⟩
     rw[ec7,ec7] at q2
     rcases q2 with (q|q)|q
     · exact .inl (eq_of_beq q)
     · exact .inr (.inl (eq_of_beq q))
     · exact .inr (.inr (eq_of_beq q))
def P0 (l:List Int):List (o4×V):=l.map fun n=>((Sum.inl n:o4),V.bl true)
theorem bj9 {l:List Int}{n:Int}(h:n∈l):C1 (P0 l) (Sum.inl n:o4)=some (.bl true):=by
 induction l with
 |nil=>simp at h
 |cons a r ih=>
  show C1 (((Sum.inl a:o4),V.bl true)::P0 r) _=_
  by_cases e:a=n
  · rw[U2 (by rw[e])]
  · rw[R6 (fun z=>e (Sum.inl.inj z))]
    exact ih ((dp7.mp h).resolve_left fun z=>e z.symm)
theorem ar6 {l:List Int}{n:Int}(h:n∉l):C1 (P0 l) (Sum.inl n:o4)=none:=by
 induction l with
 |nil=>rfl
 |cons a r ih=>
  show C1 (((Sum.inl a:o4),V.bl true)::P0 r) _=_
  rw[R6 (fun z=>h (by rw[Sum.inl.inj z];exact do3))]
  exact ih fun z=>h (do4 _ z)
theorem be5 {l:List Int}{n:Int}(h:n∉l):R5 (P0 l) (Sum.inl n:o4) (V.bl true)=P0 (l++[n]):=by
 rw[ar3 _ (ar6 h)]
 unfold P0
 rw[do8]
 rfl
theorem K4 {ns:List Int}{i:Nat}{y:V}(h:(ns.map V.int)[i]? =some y):∃z,ns[i]? =some z∧y= .int z:=by
 rw[do2] at h
 cases e:ns[i]? with
 |none=>rw[e] at h;cases h
 |some z=>rw[e] at h;exact ⟨z,rfl,(Option.some.inj h).symm⟩
theorem i9 {α:Type}{l:List α}{i:Nat}{x:α}(h:l[i]? =some x):l.take (i+1)=l.take i++[x]:=by
 rw[List.take_add_one,h]
 rfl
end L2
namespace Mth
def y7 (p q:List Int):List Int:=q.map fun i=>p.getD i.toNat 0
theorem U8 {p:List Int}{i:Int}(h0:0≤i)(h1:i < p.length):L2.atI (p.map L2.V.int) i=some (.int (p.getD i.toNat 0)):=by
 obtain ⟨j,rfl⟩:=dw9 h0
 refine L2.J2 ?_
 have hj:j < p.length:=by omega
 rw[do2,dn9 hj]
 show some (L2.V.int p[j])=_
 rw[dr1]
 rw[do5,dn9 hj]
 rfl
end Mth
namespace L2
open PySem PySem.Spec PyProof.Rows
theorem ct1 (K:PySem.W.Frag)(H:Hp)(n:Nat)(xs:List V):LEq K H n xs [] xs.isEmpty:=by
 cases xs with
 |nil=>exact .inr ⟨fun _=>true,rfl,fun j x y e=>by simp at e,rfl⟩
 |cons x r=>exact .inl ⟨by simp,rfl⟩
section
variable {X:Cx} {p pos apos:Pos} {e o:Expr} {es:List Expr} {t:TA} {to:TE}
theorem E4 (ho:PE X o to)(ha:PA X [e] t)
   (hbase:attributeBase o "append" X.env (eval o X.env)=eval o X.env:=by rfl)
   (hfew:((backTo pos (starEach [e] X.env)).all (fun x=> !x.1)&&(backToKw pos (keywordEach [] X.env)).all (fun x=>x.1.isSome)
     &&decide ([e].length+([]:List Keyword).length+(if ([]:List Keyword).isEmpty then 0 else 1) < 30))=true:=by rfl)
   (hline:(apos.endLine==pos.line)=true:=by rfl) (hs:starEach [e] X.env=(false,eval e X.env)::starEach [] X.env:=by rfl) (hplain:(backTo pos (starEach [] X.env)).any (·.1)=false:=by rfl):
   PE X (.Call (.Attribute o "append" apos) [e] [] pos) (tBM X.K "list" bt7 to t):=
 av4 PySem.F.plainAttrs_list PySem.F.slot_list_append PySem.F.type_list_append cd7 ho ha hbase hfew hline hs hplain
theorem al5 (hm:X.mg "list"=none)(ha:PA X [e] t)(hg:Gl X "list":=by rfl)(he:starEach [e] X.env=(false,eval e X.env)::starEach [] X.env:=by rfl):
   PE X (.Call (.Name "list" p) [e] [] pos) (tCB (fun xs H Q=>∃p ys,xs=[.ref p]∧(g9 X.K H p ys∨Q6 X.K H p ys)∧∀l,H l=none→Q (.ref l) (c9 H l (.lst ys))) t):=
 ak5 bj2 hg hm ag8 ha (by decide) (by decide) he rfl
theorem bz3 {p2 pos2:Pos}(hc:X.calm=true)(hm:X.mg "list"=none)(hm2:X.mg "range"=none)(ha:PA X [e] t)(hg:Gl X "list":=by rfl)(hg2:Gl X "range":=by rfl)(he:starEach [e] X.env=(false,eval e X.env)::starEach [] X.env:=by rfl)
   (he2:starEach [.Call (.Name "range" p2) [e] [] pos2] X.env=(false,eval (.Call (.Name "range" p2) [e] [] pos2) X.env)::starEach [] X.env:=by rfl):
   PE X (.Call (.Name "list" p) [.Call (.Name "range" p2) [e] [] pos2] [] pos) (tCB (fun xs H Q=>∃p lo hi,xs=[.ref p]∧H p=some (.rng lo hi)∧(-(2^62)≤lo∧lo < 2^62∧ -(2^62)≤hi∧hi < 2^62)∧(hi - lo).toNat≤2^20∧
   ∀l,H l=none→Q (.ref l) (c9 H l (.lst ((S9 lo (hi - lo).toNat).map V.int)))) (cq9 (tCB (fun xs H Q=>∃j,xs=[.int j]∧∀p,H p=none→Q (.ref p) (c9 H p (.rng 0 j))) t) cz6)):=
 ak5 (bg9 hc) hg hm ag8 (c5 (ak5 br0 hg2 hm2 br1 ha (by decide) (by decide) he rfl) c6 he2) (by decide) (by decide) he2 rfl
theorem cf5 (hc:X.calm=true)(hm:X.mg "sum"=none)(ha:PA X [e] t)(hg:Gl X "sum":=by rfl)(he:starEach [e] X.env=(false,eval e X.env)::starEach [] X.env:=by rfl):
   PE X (.Call (.Name "sum" p) [e] [] pos) (tCB (fun xs H Q=>∃(p:Addr) (ns:List Int),xs=[.ref p]∧g9 X.K H p (ns.map V.int)∧Q (.int ns.sum) H) t):=
 R4 (ce8 hc) hg hm cf0 ha (by decide) (by decide) he rfl
theorem az9 {a b:Expr}(hc:X.calm=true)(hm:X.mg "min"=none)(ha:PA X [a,b] t)(hg:Gl X "min":=by rfl)(he:starEach [a,b] X.env=(false,eval a X.env)::starEach [b] X.env:=by rfl)(hpl:(backTo pos (starEach [b] X.env)).any (·.1)=false:=by rfl):
   PE X (.Call (.Name "min" p) [a,b] [] pos) (tCB (fun xs H Q=>∃i j,xs=[.int i,.int j]∧Q (.int (if j < i then j else i)) H) t):=
 R4 (cc9 hc) hg hm cf1 ha (by decide) (by decide) he hpl
theorem ct2 {a b:Expr}(hc:X.calm=true)(hm:X.mg "max"=none)(ha:PA X [a,b] t)(hg:Gl X "max":=by rfl)(he:starEach [a,b] X.env=(false,eval a X.env)::starEach [b] X.env:=by rfl)(hpl:(backTo pos (starEach [b] X.env)).any (·.1)=false:=by rfl):
   PE X (.Call (.Name "max" p) [a,b] [] pos) (tCB (fun xs H Q=>∃i j,xs=[.int i,.int j]∧Q (.int (if j > i then j else i)) H) t):=
 R4 (cc8 hc) hg hm cf2 ha (by decide) (by decide) he hpl
end
end L2
namespace Mth
theorem aw2 {α:Type}:∀{l:List α} {k:Nat} {y:α},l[k]? =some y→(y::l.eraseIdx k).Perm l
 |[],k,y,h=>by simp at h
 |a::r,0,y,h=>by
  simp at h
  subst h
  exact List.Perm.refl _
 |a::r,k+1,y,h=>by
  have h':r[k]? =some y:=by simpa using h
  have ih:=aw2 h'
  show (y::a::r.eraseIdx k).Perm (a::r)
  exact (List.Perm.swap a y _).trans (ih.cons a)
end Mth
namespace L2
open PySem PySem.Spec PyProof.Rows
def dg3 (K:PySem.W.Frag)(ta:TA):TE:=tCB (fun xs H Q=>∃p ys,xs=[.ref p]∧(g9 K H p ys∨Q6 K H p ys)∧Q (.int ys.length) H) ta
section
variable {X:Cx} {p pos:Pos} {e:Expr} {t:TA}
theorem cm0 (K:PySem.W.Frag)(hm:X.mg "len"=none)(ha:PA X [e] t)(hK:X.K=K:=by rfl)(hg:Gl X "len":=by rfl)
   (he:starEach [e] X.env=(false,eval e X.env)::starEach [] X.env:=by rfl):PE X (.Call (.Name "len" p) [e] [] pos) (dg3 K t):=by
 subst hK
 exact t8 hm ha hg he
end
theorem bk0 (n:Nat):(ds3 n [V.int 0]).flatten=(ds3 n (0:Int)).map V.int:=by
 induction n with
 |zero=>rfl
 |succ n ih=>rw[dx4,dq1,ih,dx4,dr7];rfl
def aw3:V→Int
 | .int i=>i
 |_=>0
theorem cf6 {ys:List V}{xs:List Int}(h:ys.Perm (xs.map V.int)):∃ps:List Int,ys=ps.map V.int∧ps.Perm xs:=by
 refine ⟨ys.map aw3,?_,?_⟩
 · rw[ds7]
   conv=>lhs;rw[←eb5 ys]
   refine dt3 fun y hy=> ?_
   obtain ⟨i,_,rfl⟩:=do9.mp (h.mem_iff.mp hy)
   rfl
 · have:=h.map aw3
   rw[ds7] at this
   have e:xs.map (aw3∘V.int)=xs:=by
     conv=>rhs;rw[←eb5 xs]
     rfl
   rw[e] at this
   exact this
end L2
namespace Mth
theorem ae4 {fs:List Int}{u v x:Int}(hu:0≤u)(hv:0≤v)(h:u≠v):x6 (fs.set v.toNat x) u=x6 fs u:=by
 unfold x6
 rw[ee9 (by omega)]
theorem ag9 {fs:List Int}{v x:Int}(h:v.toNat < fs.length):x6 (fs.set v.toNat x) v=some x:=by
 unfold x6
 rw[ed8 h]
theorem E3 {ts:List Int}{i:Nat}(h:i < ts.length):ts.getD i 0=ts[i]:=by
 rw[do5,dn9 h]
 rfl
theorem P1 {ts:List Int}(nd:ts.Nodup){i j:Nat}(hi:i < ts.length)(hj:j < ts.length)(h:i≠j):ts.getD i 0≠ts.getD j 0:=by
 rw[E3 hi,E3 hj]
 rcases Nat.lt_or_gt_of_ne h with z|z
 · exact dq7.mp (dp6.mp nd) i j hi hj z
 · exact fun e=>dq7.mp (dp6.mp nd) j i hj hi z e.symm
theorem cm1 {ts fs qs:List Int}{k L:Nat}(hL:1≤L)(hb:k+L≤ts.length)(h1:(ts.take k).map (x6 fs)=qs.map some)(hq:qs.Perm (ts.take k))
   (h2:∀j,j < L→x6 fs (ts.getD (k+j) 0)=some (ts.getD (k+(j+1)%L) 0)):∃qs':List Int,qs'.Perm (ts.take (k+L))∧(ts.take (k+L)).map (x6 fs)=qs'.map some:=by
 have hT:((ts.drop k).take L).length=L:=by rw[dp5,dr2];omega
 have hTj:∀j,j < L→((ts.drop k).take L)[j]? =some (ts.getD (k+j) 0):=fun j hj=>by
   rw[dt2 hj,dy2,E3 (by omega),dn9 (by omega)]
 have e:((ts.drop k).take L).map (x6 fs)=(((ts.drop k).take L).drop 1++((ts.drop k).take L).take 1).map some:=by
   refine dr3 fun j=> ?_
   by_cases hj:j < L
   · rw[do2,hTj j hj,do2]
     show some (x6 fs (ts.getD (k+j) 0))=_
     rw[h2 j hj]
     by_cases hj1:j+1 < L
     · rw[dr6 (by rw[dr2,hT];omega),dy2,dv9 1 j,hTj (j+1) hj1,du3 hj1]
       rfl
     · have hjL:j+1=L:=by omega
       rw[ds5 (by rw[dr2,hT];omega),dr2,hT,hjL,Nat.mod_self]
       have:j - (L - 1)=0:=by omega
       rw[this,dt2 (by omega),hTj 0 (by omega)]
       rfl
   · rw[do7 (by rw[dn8,hT];omega),do7]
     rw[dn8,do6,dr2,dp5 (i:=1),hT]
     omega
 refine ⟨qs++(((ts.drop k).take L).drop 1++((ts.drop k).take L).take 1),?_,?_⟩
 · rw[ej1]
   refine List.Perm.append hq ?_
   refine dv7.trans ?_
   rw[dt6]
 · rw[ej1,do8,do8,h1,e]
end Mth
namespace L2
open PySem PySem.Spec PyProof.Rows
theorem i8.free {a l:Addr}{H H':Hp}(k:i8 a H H')(h:H' l=none)(n:l≠a):H l=none:=by
 cases e:H l with
 |none=>rfl
 |some o=>have:=k l o e n;rw[h] at this;cases this
theorem e8.kb {a:Addr}{H H1 H2:Hp}(s:e8 H H1)(k:i8 a H1 H2)(h:H a=none):e8 H H2:=fun b o e=>k b o (s b o e) (g6 e h)
def k7 (H:Hp)(as:List Addr)(rs:List (List Int)):Prop:=as.length=rs.length∧∀(j:Nat) a r,as[j]? =some a→rs[j]? =some r→H a=some (.lst (r.map V.int))
theorem ac4 {a b:List Int}(h:a.map V.int=b.map V.int):a=b:=(List.map_inj_right (fun x y (h:V.int x=V.int y)=>V.int.inj h)).mp h
theorem cf7 {K:PySem.W.Frag}{H:Hp}{as bs:List Addr}{rs qs:List (List Int)}(ha:k7 H as rs)(hb:k7 H bs qs):LEq K H 1 (as.map V.ref) (bs.map V.ref) (decide (rs=qs)):=by
 by_cases hl:as.length=bs.length
 · refine .inr ⟨fun j=>decide (rs[j]? =qs[j]?),by simpa using hl,fun j x y e1 e2=> ?_,?_⟩
   · rw[do2] at e1 e2
     cases h1:as[j]? with
     |none=>rw[h1] at e1;cases e1
     |some a=>
      cases h2:bs[j]? with
      |none=>rw[h2] at e2;cases e2
      |some b=>
       rw[h1] at e1;rw[h2] at e2
       cases e1;cases e2
       have j1:j < as.length:=(do0.mp h1).1
       have k1:rs[j]? =some (rs[j]'(by rw[←ha.1];exact j1)):=dn9 _
       have k2:qs[j]? =some (qs[j]'(by rw[←hb.1,←hl];exact j1)):=dn9 _
       have q1:=ha.2 j a _ h1 k1
       have q2:=hb.2 j b _ h2 k2
       show V7 K H 1 _ _ (decide (rs[j]? =qs[j]?))
       rw[k1,k2]
       generalize (rs[j]'(by rw[←ha.1];exact j1))=r at q1 ⊢
       generalize (qs[j]'(by rw[←hb.1,←hl];exact j1))=q at q2 ⊢
       by_cases hab:a=b
       · subst hab
         rw[q1] at q2
         have e':r=q:=ac4 (HO.lst.inj (Option.some.inj q2))
         rw[e',decide_eq_true rfl]
         exact .same a
       · rcases U6 K H 0 r q with ⟨h3,h4⟩|⟨e,h3,h4,h5⟩
         · have:=V7.lens (n:=0) hab (g9.of (K:=K) q1) (g9.of q2) h3
           rw[decide_eq_false (fun z=>by
             have z':r=q:=Option.some.inj z
             exact h3 (by rw[z']))]
           exact this
         · have:=V7.lists (n:=0) e hab (g9.of (K:=K) q1) (g9.of q2) h3 h4
           rw[←h5] at this
           have e6:decide (r=q)=decide (some r=some q):=by
             by_cases z:r=q
             · subst z;simp
             · rw[decide_eq_false z,decide_eq_false fun w=>z (Option.some.inj w)]
           rw[←e6]
           exact this
   · rw[dx3,decide_eq_true_iff,W6]
     constructor
     · intro h j _;subst h;simp
     · intro h
       refine dr3 fun j=> ?_
       by_cases hj:j < rs.length
       · exact of_decide_eq_true (h j (by rw[dn8,ha.1];exact hj))
       · rw[do7 (by omega),do7 (by rw[←hb.1,←hl,ha.1];omega)]
 · refine .inl ⟨by simpa using hl,?_⟩
   exact decide_eq_false fun h=>hl (by rw[ha.1,hb.1,h])
end L2
namespace Mth
theorem cm2 {p:List Int}(t:j8 p){j:Nat}(h:j < p.length):0≤p.getD j 0∧p.getD j 0 < p.length:=by
 rw[E3 h]
 exact ⟨t.lo _ (dr9 h),t.hi _ (dr9 h)⟩
theorem K5 (p q:List Int):(y7 p q).length=q.length:=by unfold y7;rw[dn8]
end Mth
namespace L2
open PySem PySem.Spec PyProof.Rows
def Ite (K:PySem.W.Frag)(a:Addr):It:=
 ⟨fun i H=>∃xs x,g9 K H a xs∧xs[i]? =some x,fun i H v H'=>∃x t,(∀xs,g9 K H a xs→xs[i]? =some x)∧H t=none∧v= .ref t∧H'=c9 H t (.tup [.int (i:Int),x]),fun i H=>∃xs,g9 K H a xs∧xs.length≤i⟩
theorem cf9 {P:Program}{w:World}{K:PySem.W.Frag}{elts:List Expr}{x1}{pos:Pos}(a e it:Addr)(hne:e≠it):
   az3 P w K (.Tuple elts x1 pos) (Ite K a) [e,it] e (fun i h=>(∃old,IsEnum h e it i old)∧h.IsListIter it a i) where
 mem:=by simp
 obj:=fun i h st b hb=>by
   obtain ⟨⟨old,he⟩,⟨o,ho,c,d⟩⟩:=st
   have hb:b=e∨b=it:=by simpa using hb
   rcases hb with rfl|rfl
   · exact ⟨_,he,fun v z=>by cases z⟩
   · exact ⟨o,ho,fun v z=>by rw[d] at z;cases z⟩
 keep:=fun i h h' st k=>⟨let ⟨old,he⟩:=st.1;⟨old,k e (by simp) _ he⟩,st.2.at fun o q=>k it (by simp) o q⟩
 item:=by
   intro X hP hw hK hc i pins s σ H E I hf st hg
   subst hP hw hK
   obtain ⟨⟨old,he⟩,hit⟩:=st
   obtain ⟨xs,x,hq,hx⟩:=hg
   obtain ⟨its,rv,p,hz⟩:=I.list hq
   obtain ⟨u,hu,ru⟩:=rv.get hx
   obtain ⟨f0,f1,f2,f3,f4,f5⟩:=hf e (by simp)
   obtain ⟨g0,g1,g2,g3,g4,g5⟩:=hf it (by simp)
   refine wpAny_pyNext_enum_item he hit p.isList (x:=u) (by simpa using hu) hne fun h' he' hit' ht' hz' hk'=> ?_
   refine ⟨_,rfl,wpAny_letOwnedTupleGo_enum he' fun h2 he2 hs2=> ?_⟩
   have hs2:Heap.SameBut e h' h2:=hs2
   have eT:e≠s.heap.objs.size:=dt1 (Heap.lt_size he)
   have ht2:h2.get? s.heap.objs.size=some {cls:= .type "tuple",data:= .seq #[.int i s.toks,u]}:=hs2.extBut _ _ eT.symm ht'
   have kk:∀b o,b≠e→b≠it→s.heap.get? b=some o→h2.get? b=some o:=fun b o b1 b2 q=>hs2.extBut b o b1 (hk' b o b1 b2 q)
   have hn:H s.heap.objs.size=none:=I.hok.fresh (do1 _)
   have nT:∀b u',H b=some u'→b≠s.heap.objs.size:=fun b u' q=>g6 q hn
   have ne:∀b u',H b=some u'→b≠e∧b≠it:=fun b u' q=>⟨fun z=>(by rw[z,f0] at q;cases q),fun z=>(by rw[z,g0] at q;cases q)⟩
   have I1:h7 X pins σ (c9 H s.heap.objs.size (.tup [.int (i:Int),x])) {s with heap:=h2,gens:=s.gens,drawn:=s.drawn,toks:=s.toks+1}:=by
     refine I.step (ch:=[e,it]) (fun b hb=> ?_) (fun b o _ _ hc q _=>kk b o (fun z=>hc (by simp [z])) (fun z=>hc (by simp [z])) q) (fun b o _ _ hc q _=>⟨o.slots,kk b o (fun z=>hc (by simp [z])) (fun z=>hc (by simp [z])) q⟩)
       (fun b o hc q n=>by rw[g8 (dt1 (Heap.lt_size q))];exact n) (fun b o hc q=>⟨o,kk b o (fun z=>hc (by simp [z])) (fun z=>hc (by simp [z])) q⟩)
       (fun b ys q=>by rw[g8 (nT b _ q)];exact q) (fun b o ys q=>by rw[g8 (nT b _ q)];exact q) (fun b ps q=>⟨#[],by rw[g8 (nT b _ q),q];simp⟩) (fun m hm=> ?_) (fun b u' q=> ?_) I.bare
     · have hb:b=e∨b=it:=by simpa using hb
       rcases hb with rfl|rfl
       · exact ⟨f3,f1,f4,f5⟩
       · exact ⟨g3,g1,g4,g5⟩
     · obtain ⟨o,es,ep,ho,r⟩:=hm
       exact ⟨o,es,ep,kk _ o (Ne.symm f1) (Ne.symm g1) ho,r⟩
     · by_cases hb:b=s.heap.objs.size
       · subst hb
         rw[c8] at q
         cases q
         exact ⟨by show 2≤sizeLine;decide,[.int i s.toks,u],.cons ⟨_,rfl⟩ (.cons ru .nil),⟨_,ht2,rfl,0,rfl⟩⟩
       · rw[g8 hb] at q
         refine (I.hok b u' q).stay (fun c v hc q'=> ?_) (fun c q'=>by rw[g8 (nT c _ q')];exact q') fun c ys q'=>by rw[g8 (nT c _ q')];exact q'
         rcases hc with z|z
         · rw[z] at q' ⊢;exact kk b v (ne b _ q).1 (ne b _ q).2 q'
         · exact kk c v (ne c _ z).1 (ne c _ z).2 q'
   refine ⟨.ref s.heap.objs.size,_,I1,rfl,⟨x,s.heap.objs.size,fun ys hy=>by rw[I.list_inj hy hq];exact hx,hn,rfl,rfl⟩,⟨⟨u,?_⟩,?_⟩,fun b hb=> ?_⟩
   · have:((i+1:Nat):Int)=(i:Int)+1:=by push_cast;rfl
     rw[this]
     exact he2
   · exact hit'.extBut hs2.extBut hne.symm
   · have hb:b=e∨b=it:=by simpa using hb
     rcases hb with rfl|rfl
     · rw[g8 eT];exact f0
     · obtain ⟨o,ho,_⟩:=hit
       rw[g8 (dt1 (Heap.lt_size ho))];exact g0
 done:=by
   intro X hP hw hK hc i pins s σ H E I hf st hg
   subst hP hw hK
   obtain ⟨⟨old,he⟩,hit⟩:=st
   obtain ⟨xs,hq,hx⟩:=hg
   obtain ⟨its,rv,p,hz⟩:=I.list hq
   obtain ⟨g0,g1,g2,g3,g4,g5⟩:=hf it (by simp)
   have hl:=rv.length
   exact wpAny_pyNext_enum_end (I.ok.hd hc) he hit p.isList (by simp;omega) fun h' eb=>⟨rfl,I.turned (t':=s.toks) (fun b o hb q=>eb b o hb q) g0 g1 g3 g4 g5⟩
 self:=fun _ _ _ _ _ st h=>let ⟨_,he⟩:=st.1;wpAny_pyIter_enum he h
theorem cg0:bootBuiltins "enumerate"=some (.type "enumerate"):=by decide+kernel
section
variable {X:Cx} {l:Expr} {ta:TA} {p pos:Pos} {elts:List Expr} {x1:Nat} {tpos:Pos}
def dg4 (K:PySem.W.Frag)(ta:TA):TI:=fun σ H R=>ta σ H fun vs H1=>∃a,vs=[.ref a]∧(∃xs,g9 K H1 a xs)∧R (Ite K a) H1
theorem ae5 (hm:X.mg "enumerate"=none)(ha:PA X [l] ta)(hg:Gl X "enumerate":=by rfl)(hs:starEach [l] X.env=[(false,eval l X.env)]:=by rfl):PI X (.Tuple elts x1 tpos) (.Call (.Name "enumerate" p) [l] [] pos) (dg4 X.K ta):=by
 intro pins s σ H R I h
 refine Call_ (Y9 I hg hm cg0 (PyProof.Rows.callWith_type1 (o5 (ha pos pins s σ H _ I h) fun us s1 ⟨vs,H1,I1,r1,q1⟩=> ?_) hs rfl))
 obtain ⟨a,e,⟨xs,hq⟩,q⟩:=q1
 subst e
 obtain ⟨u,rfl,rx⟩:=ab5 r1
 cases rx
 obtain ⟨its,rv,pl,hz⟩:=I1.list hq
 refine call_enumerate_list pl.isList fun h' he hit hz' hk=> ?_
 refine wpAny_pyIter_enum he ?_
 have I2:h7 X pins σ H1 {s1 with heap:=h',toks:=s1.toks}:=I1.kept (t':=s1.toks) hk
 refine ⟨s1.heap.objs.size+1,[s1.heap.objs.size+1,s1.heap.objs.size],_,_,H1,rfl,I2,cf9 a (s1.heap.objs.size+1) s1.heap.objs.size (Nat.succ_ne_self _),⟨⟨.none,he⟩,hit⟩,fun b hb=> ?_,q⟩
 have hb:b=s1.heap.objs.size+1∨b=s1.heap.objs.size:=by simpa using hb
 rcases hb with rfl|rfl
 · exact I1.fpOk (by omega) (I1.hok.fresh (by omega))
 · exact I1.fpOk (by omega) (I1.hok.fresh (by omega))
end
theorem Z4 {K:PySem.W.Frag}{a:Addr}{xs:List V}{g:TG}{tb:TS}{D:Y8}{σ:St}{H:Hp}(Pv:Nat→St→Hp→Prop)(h0:Pv 0 σ H)(hl:∀i σ H,i≤xs.length→Pv i σ H→g9 K H a xs)
   (hs:∀i x σ H t,xs[i]? =some x→Pv i σ H→H t=none→g (.ref t) σ (c9 H t (.tup [.int (i:Int),x])) fun σ2 H2=>tb {D with nx:=Pv (i+1),ct:=Pv (i+1),bk:=D.nx} σ2 H2) (hd:∀σ H,Pv xs.length σ H→D.nx σ H):
   ∃W:Nat→Nat→St→Hp→Prop,(∃m,W 0 m σ H)∧∀i m σ H,W i m σ H→
    ((Ite K a).stop i H∧D.nx σ H)∨((Ite K a).go i H∧∃N:St→Hp→Prop,(∀σ' H',N σ' H'→∃m',m' < m∧W (i+1) m' σ' H')∧∀x H',(Ite K a).yld i H x H'→g x σ H' fun σ2 H2=>tb {D with nx:=N,ct:=N,bk:=D.nx} σ2 H2):=by
 refine ⟨fun i m σ H=>m=xs.length - i∧i≤xs.length∧Pv i σ H,⟨xs.length,by simp,dq3 _,h0⟩,?_⟩
 rintro i m σ H ⟨rfl,hi,p⟩
 have q:=hl i σ H hi p
 by_cases hlt:i < xs.length
 · refine .inr ⟨⟨xs,xs[i],q,by simp [hlt]⟩,Pv (i+1),fun σ' H' p'=>⟨xs.length - (i+1),by omega,rfl,hlt,p'⟩,fun x H' y=> ?_⟩
   obtain ⟨x',t,y1,y2,e1,e2⟩:=y
   subst e1 e2
   exact hs i x' σ _ t (y1 xs q) p y2
 · have e:i=xs.length:=by omega
   subst e
   exact .inl ⟨⟨xs,q,do1 _⟩,hd σ H p⟩
end L2
namespace Mth
def nx (p:List Int)(x:Int):Int:=p.getD x.toNat 0
def it (p:List Int):Nat→Int→Int
 |0,x=>x
 |i+1,x=>nx p (it p i x)
def In (p:List Int)(x:Int):Prop:=0≤x∧x < p.length
theorem T0 {p:List Int}(t:j8 p){x:Int}(h:In p x):In p (nx p x):=cm2 t (j:=x.toNat) (by have:=h.1;have:=h.2;omega)
theorem T1 {p:List Int}(t:j8 p){x y:Int}(hx:In p x)(hy:In p y)(h:nx p x=nx p y):x=y:=by
 have a1:=hx.1
 have a2:=hx.2
 have b1:=hy.1
 have b2:=hy.2
 by_cases e:x.toNat=y.toNat
 · omega
 · exact absurd h (P1 t.nd (i:=x.toNat) (j:=y.toNat) (by omega) (by omega) e)
theorem G9 {p:List Int}(t:j8 p){x:Int}(h:In p x):∀i,In p (it p i x)
 |0=>h
 |i+1=>T0 t (G9 t h i)
theorem B7 (p:List Int)(x:Int):∀i j,it p (i+j) x=it p i (it p j x)
 |0,j=>by rw[dz8];rfl
 |i+1,j=>by
  rw[Nat.add_right_comm]
  show nx p (it p (i+j) x)=nx p (it p i (it p j x))
  rw[B7 p x i j]
theorem ct3 (p:List Int)(x:Int)(i:Nat):it p (i+1) x=it p i (nx p x):=by
 rw[B7 p x i 1];rfl
theorem aw4 {p:List Int}(t:j8 p){x y:Int}(hx:In p x)(hy:In p y):∀i,it p i x=it p i y→x=y
 |0,h=>h
 |i+1,h=>aw4 t hx hy i (T1 t (G9 t hx i) (G9 t hy i) h)
structure C2 (p:List Int)(x:Int)(L:Nat):Prop where
 pos:0 < L
 back:it p L x=x
 least:∀i,0 < i→i < L→it p i x≠x
theorem C2.uniq {p:List Int}{x:Int}{L M:Nat}(h:C2 p x L)(g:C2 p x M):L=M:=by
 rcases eh1 L M with z|z|z
 · exact absurd h.back (g.least L h.pos z)
 · exact z
 · exact absurd g.back (h.least M g.pos z)
theorem al6 {p:List Int}{x:Int}{L:Nat}(h:it p L x=x):∀q,it p (L*q) x=x
 |0=>by rw[ec0];rfl
 |q+1=>by rw[ef6,B7,h,al6 h q]
theorem T3 {p:List Int}{x:Int}{L:Nat}(h:it p L x=x)(i:Nat):it p (i%L) x=it p i x:=by
 conv=>rhs;rw[←ef4 i L,dv9,B7,al6 h]
theorem bu0 {p:List Int}{x:Int}{L:Nat}(h:it p L x=x){a b:Nat}(e:a%L=b%L):it p a x=it p b x:=by
 rw[←T3 h a,e,T3 h]
theorem C2.shift {p:List Int}(t:j8 p){x:Int}{L:Nat}(hx:In p x)(h:C2 p x L)(j:Nat):C2 p (it p j x) L:=by
 refine ⟨h.pos,?_,fun i i0 i1 e=> ?_⟩
 · rw[←B7,dv9,B7,h.back]
 · rw[←B7,dv9,B7] at e
   exact h.least i i0 i1 (aw4 t (G9 t hx i) hx j e)
def l9 (p:List Int)(x:Int)(L:Nat):List Int:=(ds0 L).map fun i=>it p i x
theorem m8 (p:List Int)(x:Int)(L:Nat):(l9 p x L).length=L:=by unfold l9;rw[dn8,dr0]
theorem S3 {p:List Int}{x:Int}{L j:Nat}(h:j < L):(l9 p x L)[j]? =some (it p j x):=by
 unfold l9
 rw[do2,ds1 h]
 rfl
theorem P2 {p:List Int}{x:Int}{L j:Nat}(h:j < L):(l9 p x L).getD j 0=it p j x:=by
 rw[do5,S3 h];rfl
theorem B0 {p:List Int}{x y:Int}{L:Nat}:y∈l9 p x L↔∃j,j < L∧y=it p j x:=by
 unfold l9
 rw[do9]
 constructor
 · rintro ⟨j,hj,rfl⟩
   exact ⟨j,dr4.mp hj,rfl⟩
 · rintro ⟨j,hj,rfl⟩
   exact ⟨j,dr4.mpr hj,rfl⟩
theorem bz4 (p:List Int)(x:Int)(m:Nat):l9 p x (m+1)=l9 p x m++[it p m x]:=by
 unfold l9
 rw[ea0,do8]
 rfl
theorem Q8 {p:List Int}(t:j8 p){x:Int}(hx:In p x){m:Nat}(h:∀i,0 < i→i < m→it p i x≠x):(l9 p x m).Nodup:=by
 unfold l9
 rw[dp6,dw2]
 refine List.Pairwise.imp_of_mem (fun {a b} ha hb hlt e=> ?_) List.pairwise_lt_range
 have hb:=dr4.mp hb
 have e2:b=a+(b - a):=by omega
 rw[e2,B7] at e
 exact h (b - a) (by omega) (by omega) (aw4 t (G9 t hx _) hx a e.symm)
theorem cg1:∀(n:Nat) (l:List Nat),l.Nodup→(∀x∈l,x < n)→l.length≤n:=by
 intro n
 induction n with
 |zero=>
  intro l _ hb
  cases l with
  |nil=>exact do1 _
  |cons a r=>exact absurd (hb a do3) (Nat.not_lt_zero _)
 |succ n ih=>
  intro l nd hb
  by_cases hn:n∈l
  · obtain ⟨s,u,rfl⟩:=eg2 hn
    have pm:(s++n::u).Perm (n::(s++u)):=List.perm_middle
    obtain ⟨h1,h2⟩:=dr5.mp (pm.nodup_iff.mp nd)
    have:=ih (s++u) h2 fun x hx=>by
      have hx':=hb x (pm.mem_iff.mpr (do4 _ hx))
      have:x≠n:=fun e=>h1 (e▸hx)
      omega
    rw[pm.length_eq,dr8]
    omega
  · exact Nat.le_succ_of_le (ih l nd fun x hx=>by
      have h1:=hb x hx
      have:x≠n:=fun e=>hn (e▸hx)
      omega)
theorem J3 {p:List Int}{r:List Int}(nd:r.Nodup)(h:∀x∈r,In p x):r.length≤p.length:=by
 have:=cg1 p.length (r.map ef3) (by
   rw[dp6,dw2]
   refine List.Pairwise.imp_of_mem (fun {a b} ha hb hne z=>hne ?_) (dp6.mp nd)
   have h1:=(h a ha).1
   have h2:=(h b hb).1
   omega) fun x hx=>by
     obtain ⟨y,hy,rfl⟩:=do9.mp hx
     have h1:=(h y hy).1
     have h2:=(h y hy).2
     omega
 rw[dn8] at this
 exact this
theorem N8 {p:List Int}(t:j8 p){x:Int}(hx:In p x){L:Nat}:∀y∈l9 p x L,In p y:=fun y hy=>by
 obtain ⟨j,_,rfl⟩:=B0.mp hy
 exact G9 t hx j
theorem M1 {p:List Int}(t:j8 p){x:Int}(hx:In p x){m:Nat}(h:∀i,0 < i→i < m→it p i x≠x):m≤p.length:=by
 have:=J3 (Q8 t hx h) (N8 t hx)
 rw[m8] at this
 exact this
theorem br2 {p:List Int}{x y:Int}{L:Nat}(h:C2 p x L)(hy:y∈l9 p x L)(i:Nat):it p i y∈l9 p x L:=by
 obtain ⟨j,hj,rfl⟩:=B0.mp hy
 refine B0.mpr ⟨(i+j)%L,dv6 _ h.pos,?_⟩
 rw[T3 h.back,B7]
theorem cg2 {p:List Int}{x y z:Int}{L M:Nat}(h:C2 p x L)(g:C2 p y M)(h1:z∈l9 p x L)(h2:z∈l9 p y M):y∈l9 p x L:=by
 obtain ⟨j,hj,rfl⟩:=B0.mp h2
 have:=br2 h h1 (M - j)
 rw[←B7,show M - j+j=M by omega,g.back] at this
 exact this
open Classical in
noncomputable def J7 (p:List Int)(x:Int):Nat:=if h:∃L,C2 p x L then Classical.choose h else 0
theorem M2 {p:List Int}{x:Int}{L:Nat}(h:C2 p x L):J7 p x=L:=by
 have hx:∃L,C2 p x L:=⟨L,h⟩
 unfold J7
 rw[dif_pos hx]
 exact (Classical.choose_spec hx).uniq h
noncomputable def j6 (p:List Int):Nat→List (List Int)
 |0=>[]
 |i+1=>if (i:Int)∈(j6 p i).flatten then j6 p i else j6 p i++[l9 p i (J7 p i)]
structure A7 (p:List Int)(i:Nat)(rs:List (List Int)):Prop where
 ring:∀r∈rs,∃x L,In p x∧C2 p x L∧r=l9 p x L∧(∀y∈r,x≤y)∧x < i
 nd:rs.flatten.Nodup
 all:∀u:Int,0≤u→u < i→u∈rs.flatten
 ord:rs.Pairwise fun r s=>r.getD 0 0 < s.getD 0 0
 eq:rs=j6 p i
theorem aw5 (p:List Int):A7 p 0 []:=⟨fun r hr=>by simp at hr,dv8,fun u h1 h2=>by omega,List.Pairwise.nil,rfl⟩
theorem aw6 {p:List Int}{i:Nat}{rs:List (List Int)}(h:A7 p i rs)(hi:(i:Int)∈rs.flatten):A7 p (i+1) rs:=by
 refine ⟨fun r hr=> ?_,h.nd,fun u h1 h2=> ?_,h.ord,?_⟩
 · obtain ⟨x,L,a,b,c,d,e⟩:=h.ring r hr
   exact ⟨x,L,a,b,c,d,by omega⟩
 · by_cases e:u=i
   · subst e;exact hi
   · exact h.all u h1 (by omega)
 · show rs=if (i:Int)∈(j6 p i).flatten then j6 p i else j6 p i++[l9 p i (J7 p i)]
   rw[←h.eq,if_pos hi]
theorem aq5 {p:List Int}{i:Nat}{rs:List (List Int)}(h:A7 p i rs){L:Nat}(hL:C2 p i L)(hi:(i:Int)∉rs.flatten):∀y∈l9 p i L,y∉rs.flatten:=by
 intro y hy hm
 obtain ⟨r,hr,hyr⟩:=dp9.mp hm
 obtain ⟨x,M,a,b,rfl,d,e⟩:=h.ring r hr
 exact hi (dp9.mpr ⟨_,hr,cg2 b hL hyr hy⟩)
theorem aw7 {p:List Int}(t:j8 p){i:Nat}{rs:List (List Int)}(h:A7 p i rs)(hx:In p i){L:Nat}(hL:C2 p i L)(hi:(i:Int)∉rs.flatten):A7 p (i+1) (rs++[l9 p i L]):=by
 have fr:=aq5 h hL hi
 refine ⟨fun r hr=> ?_,?_,fun u h1 h2=> ?_,?_,?_⟩
 · rcases dp3.mp hr with z|z
   · obtain ⟨x,L,a,b,c,d,e⟩:=h.ring r z
     exact ⟨x,L,a,b,c,d,by omega⟩
   · have:r=l9 p i L:=by simpa using z
     subst this
     refine ⟨i,L,hx,hL,rfl,fun y hy=> ?_,by omega⟩
     have y0:=(N8 t hx y hy).1
     by_cases hlt:y < i
     · exact absurd (h.all y y0 hlt) (fr y hy)
     · omega
 · rw[ds4,du7]
   refine dt7.mpr ⟨h.nd,Q8 t hx fun j j0 j1=>hL.least j j0 j1,fun a ha b hb e=> ?_⟩
   subst e
   exact fr a hb ha
 · rw[ds4,du7]
   by_cases e:u=i
   · subst e
     exact dq5 _ (B0.mpr ⟨0,hL.pos,rfl⟩)
   · exact dt5 _ (h.all u h1 (by omega))
 · refine List.pairwise_append.mpr ⟨h.ord,ea8 _ _,fun r hr s hs=> ?_⟩
   have:s=l9 p i L:=by simpa using hs
   subst this
   obtain ⟨x,M,a,b,rfl,d,e⟩:=h.ring r hr
   rw[P2 b.pos,P2 hL.pos]
   exact e
 · show rs++[l9 p i L]=if (i:Int)∈(j6 p i).flatten then j6 p i else j6 p i++[l9 p i (J7 p i)]
   rw[←h.eq,if_neg hi,M2 hL]
def o3 (p:List Int)(k:Int)(t:List Int):Prop:=t.length=p.length∧∀x,In p x→∃L,C2 p x L∧x6 t x=some (it p (k%(L:Int)).toNat x)
theorem bz5 {p:List Int}{x:Int}{L:Nat}(h:C2 p x L)(k:Int)(j:Nat):it p (((j:Int)+k)%(L:Int)).toNat x=it p (k%(L:Int)).toNat (it p j x):=by
 rw[←B7]
 refine bu0 h.back ?_
 have hL:(0:Int) < (L:Int):=by have:=h.pos;omega
 have a1:=du1 ((j:Int)+k) (show (L:Int)≠0 by omega)
 have b1:=du1 k (show (L:Int)≠0 by omega)
 have:(((((j:Int)+k)%(L:Int)).toNat%L:Nat):Int)=((((k%(L:Int)).toNat+j)%L:Nat):Int):=by
   rw[dv0,dv0,ea6 a1,ei3,ea6 b1,Int.emod_emod,Int.emod_add_emod,Int.add_comm]
 exact Int.ofNat.inj this
end Mth
namespace Mth
theorem Q9 {p:List Int}{x:Int}(h:In p x):x6 p x=some (nx p x):=by
 have a1:=h.1
 have a2:=h.2
 unfold x6 nx
 rw[do5,dn9 (by omega)]
 rfl
theorem bu1 {p s:List Int}(t:j8 p)(h:o3 p (-1) s){x:Int}(hx:In p x):∃y,x6 s x=some y∧In p y∧nx p y=x:=by
 obtain ⟨L,hL,e⟩:=h.2 x hx
 have hpos:=hL.pos
 have e1:((-1:Int)%(L:Int)).toNat=L - 1:=by
   have h1:(-1:Int)%(L:Int)=(L:Int) - 1:=by
     have:=Int.add_emod_right (-1:Int) (L:Int)
     rw[←this,Int.emod_eq_of_lt (by omega) (by omega)]
     omega
   rw[h1];omega
 rw[e1] at e
 refine ⟨_,e,G9 t hx _,?_⟩
 show it p (L - 1+1) x=x
 rw[show L - 1+1=L by omega,hL.back]
theorem dm3 {p s:List Int}(t:j8 p)(h:o3 p (-1) s){f:Nat→Int}(hf:∀u,u < p.length→∃j:Nat,f u=(j:Int)∧p[j]? =some (u:Int)):s=(ds0 p.length).map f:=by
 refine dr3 fun u=> ?_
 by_cases hu:u < p.length
 · obtain ⟨y,e,hy,en⟩:=bu1 t h (x:=(u:Int)) ⟨by omega,by omega⟩
   obtain ⟨j,e1,e2⟩:=hf u hu
   have hj:j < p.length:=(do0.mp e2).1
   have e3:nx p (j:Int)=(u:Int):=by
     unfold nx
     rw[dr1,E3 hj]
     exact (do0.mp e2).2
   have:y=(j:Int):=T1 t hy ⟨by omega,by omega⟩ (by rw[en,e3])
   unfold x6 at e
   rw[dr1] at e
   rw[e,do2,ds1 hu,this]
   show some (j:Int)=some (f u)
   rw[e1]
 · rw[do7 (by rw[h.1];omega),do7 (by rw[dn8,dr0];omega)]
end Mth
namespace L2
open PySem PySem.Spec PyProof.Rows
def dg5 (i j:Int):Prop:=0 < j∧j≤1000000000000000000000000000000
theorem cm3 {X:Cx}:K7 X (binaryOp .FloorDiv) (rI dg5 fun i j=> .int (i/j)):=opI fun i j _ _ _ _ _ hc q=>by
 have hp:Builtin.divisionGoesByPylong i j=false:=by
   refine PyProof.noPylong_of_log2 ?_
   obtain ⟨h1,h2⟩:=hc
   have:j.natAbs < 2^9000:=ds2 (show j.natAbs≤1000000000000000000000000000000 by omega) (by decide+kernel)
   exact (Nat.log2_lt (by omega)).mpr this
 refine floordiv_int (by have:=hc.1;omega) ?_ (.inl hp)
 rw[eg6 i (by have:=hc.1;omega)]
 exact q
end L2
namespace Mth
theorem o3.uniq {p:List Int}{k:Int}{s t:List Int}(h:o3 p k s)(g:o3 p k t):s=t:=by
 refine dr3 fun u=> ?_
 by_cases hu:u < p.length
 · have hx:In p (u:Int):=⟨by omega,by omega⟩
   obtain ⟨L,h1,h2⟩:=h.2 u hx
   obtain ⟨M,g1,g2⟩:=g.2 u hx
   have e:=h1.uniq g1
   subst e
   unfold x6 at h2 g2
   rw[dr1] at h2 g2
   rw[h2,g2]
 · rw[do7 (by rw[h.1];omega),do7 (by rw[g.1];omega)]
end Mth
namespace Mth
theorem ae6 {p:List Int}(t:j8 p){x:Int}(hx:In p x):∃L,C2 p x L:=by
 have h0:∃i,0 < i∧i≤p.length∧it p i x=x:=Classical.byContradiction fun hn=>by
   have:=M1 t hx (m:=p.length+1) fun i i0 i1 e=>hn ⟨i,i0,by omega,e⟩
   omega
 have key:∀n,(∃i,0 < i∧i≤n∧it p i x=x)→∃L,C2 p x L:=by
   intro n
   induction n with
   |zero=>rintro ⟨i,i0,i1,_⟩;omega
   |succ n ih=>
    rintro ⟨i,i0,i1,e⟩
    by_cases h:∃j,0 < j∧j≤n∧it p j x=x
    · exact ih h
    · refine ⟨i,i0,e,fun j j0 j1 ej=>h ⟨j,j0,by omega,ej⟩⟩
 exact key _ h0
theorem bu2 {p:List Int}{x:Int}{L:Nat}(h:C2 p x L){i:Nat}(e:it p i x=x):L∣i:=by
 rw[←T3 h.back] at e
 refine dz0 (Classical.byContradiction fun hn=> ?_)
 exact h.least (i%L) (by omega) (dv6 _ h.pos) e
theorem bk1 {p:List Int}{x:Int}{L:Nat}(h:C2 p x L){a b:Nat}(e:((a:Int) - (b:Int))%(L:Int)=0):it p a x=it p b x:=by
 refine bu0 h.back ?_
 have:((a%L:Nat):Int)=((b%L:Nat):Int):=by
   rw[dv0,dv0]
   exact Int.emod_emod_of_dvd _ (Int.dvd_refl _)|>.symm.trans (by
     rw[Int.emod_emod]
     exact (Int.emod_eq_emod_iff_emod_sub_eq_zero).mpr e)
 exact Int.ofNat.inj this
theorem al7 {t:List Int}(h1:∀x:Int,0≤x→x < t.length→0≤nx t x∧nx t x < t.length)(h2:∀x y:Int,0≤x→x < t.length→0≤y→y < t.length→nx t x=nx t y→x=y):j8 t:=by
 have g:∀i (hi:i < t.length),nx t (i:Int)=t[i]:=fun i hi=>by unfold nx;rw[dr1,E3 hi]
 refine ⟨?_,fun x hx=> ?_,fun x hx=> ?_⟩
 · rw[dp6,dq7]
   intro i j hi hj hlt e
   have:=h2 i j (by omega) (by omega) (by omega) (by omega) (by rw[g i hi,g j hj];exact e)
   omega
 · obtain ⟨i,hi,rfl⟩:=List.mem_iff_getElem.mp hx
   rw[←g i hi];exact (h1 i (by omega) (by omega)).1
 · obtain ⟨i,hi,rfl⟩:=List.mem_iff_getElem.mp hx
   rw[←g i hi];exact (h1 i (by omega) (by omega)).2
theorem ae7 {p q:List Int}{x:Int}(h:In q x):nx (y7 p q) x=nx p (nx q x):=by
 have a1:=h.1
 have a2:=h.2
 unfold nx y7
 rw[do5,do2,dn9 (by omega),do5 (l:=q),dn9 (by omega)]
 rfl
theorem ah0 {p q:List Int}(tp:j8 p)(tq:j8 q)(hl:p.length=q.length):j8 (y7 p q):=by
 have cl:=K5 p q
 refine al7 (fun x x0 x1=> ?_) (fun x y x0 x1 y0 y1 e=> ?_)
 · rw[cl] at x1 ⊢
   have hx:In q x:=⟨x0,x1⟩
   rw[ae7 hx]
   have h1:=T0 tq hx
   have h2:=T0 tp (x:=nx q x) ⟨h1.1,by rw[hl];exact h1.2⟩
   exact ⟨h2.1,by rw[←hl];exact h2.2⟩
 · rw[cl] at x1 y1
   have hx:In q x:=⟨x0,x1⟩
   have hy:In q y:=⟨y0,y1⟩
   rw[ae7 hx,ae7 hy] at e
   have h1:=T0 tq hx
   have h2:=T0 tq hy
   exact T1 tq hx hy (T1 tp ⟨h1.1,by rw[hl];exact h1.2⟩ ⟨h2.1,by rw[hl];exact h2.2⟩ e)
theorem bk2 {p t:List Int}{k:Int}(h:o3 p k t){x:Int}(hx:In p x):∃L,C2 p x L∧∀m:Nat,((m:Int) - k)%(L:Int)=0→nx t x=it p m x:=by
 obtain ⟨L,hL,e⟩:=h.2 x hx
 refine ⟨L,hL,fun m hm=> ?_⟩
 have e1:nx t x=it p (k%(L:Int)).toNat x:=by
   have hx':In t x:=⟨hx.1,by rw[h.1];exact hx.2⟩
   rw[Q9 hx'] at e
   exact Option.some.inj e
 rw[e1]
 refine bk1 hL ?_
 have b0:=du1 k (show (L:Int)≠0 by have:=hL.pos;omega)
 rw[ea6 b0]
 have:k%(L:Int) - (m:Int)= -(((m:Int) - k)+(k - k%(L:Int))):=by omega
 rw[this]
 have d1:(L:Int)∣((m:Int) - k):=Int.dvd_of_emod_eq_zero hm
 have d2:(L:Int)∣(k - k%(L:Int)):=ee2
 exact ed3 (Int.dvd_neg.mpr (Int.dvd_add d1 d2))
theorem db1 {p t:List Int}{k:Int}(tp:j8 p)(hl:t.length=p.length)(h:∀x,In p x→∀L,C2 p x L→∃m:Nat,((m:Int) - k)%(L:Int)=0∧nx t x=it p m x):o3 p k t:=by
 refine ⟨hl,fun x hx=> ?_⟩
 obtain ⟨L,hL⟩:=ae6 tp hx
 obtain ⟨m,hm,e⟩:=h x hx L hL
 refine ⟨L,hL,?_⟩
 rw[Q9 (p:=t) ⟨hx.1,by rw[hl];exact hx.2⟩,e]
 congr 1
 refine bk1 hL ?_
 have b0:=du1 k (show (L:Int)≠0 by have:=hL.pos;omega)
 rw[ea6 b0]
 have:(m:Int) - k%(L:Int)=((m:Int) - k)+(k - k%(L:Int)):=by omega
 rw[this]
 exact ed3 (Int.dvd_add (Int.dvd_of_emod_eq_zero hm) ee2)
theorem bk3 (k:Int)(L:Nat)(h:0 < L):(((k%(L:Int)).toNat:Int) - k)%(L:Int)=0:=by
 have b0:=du1 k (show (L:Int)≠0 by omega)
 rw[ea6 b0]
 have:k%(L:Int) - k= -(k - k%(L:Int)):=by omega
 rw[this]
 exact ed3 (Int.dvd_neg.mpr ee2)
theorem Y4 {p t:List Int}{k:Int}(tp:j8 p)(h:o3 p k t):j8 t:=by
 have tx:∀x,In p x→∃L,C2 p x L∧nx t x=it p (k%(L:Int)).toNat x:=fun x hx=>by
   obtain ⟨L,hL,e⟩:=bk2 h hx
   exact ⟨L,hL,e _ (bk3 k L hL.pos)⟩
 refine al7 (fun x x0 x1=> ?_) (fun x y x0 x1 y0 y1 e=> ?_)
 · rw[h.1] at x1 ⊢
   obtain ⟨L,hL,e⟩:=tx x ⟨x0,x1⟩
   rw[e]
   exact G9 tp ⟨x0,x1⟩ _
 · rw[h.1] at x1 y1
   obtain ⟨L,hL,e1⟩:=tx x ⟨x0,x1⟩
   obtain ⟨M,hM,e2⟩:=tx y ⟨y0,y1⟩
   rw[e1,e2] at e
   have pL:=hL.shift tp ⟨x0,x1⟩ (k%(L:Int)).toNat
   have pM:=hM.shift tp ⟨y0,y1⟩ (k%(M:Int)).toNat
   rw[e] at pL
   have:=pL.uniq pM
   subst this
   exact aw4 tp ⟨x0,x1⟩ ⟨y0,y1⟩ _ e
theorem bk4 {p s:List Int}(t:j8 p)(h:o3 p (-1) s){x:Int}(hx:In p x):In p (nx s x)∧nx p (nx s x)=x:=by
 obtain ⟨y,e,hy,en⟩:=bu1 t h hx
 rw[Q9 (p:=s) ⟨hx.1,by rw[h.1];exact hx.2⟩] at e
 have:nx s x=y:=Option.some.inj e
 rw[this]
 exact ⟨hy,en⟩
end Mth
namespace L2
open PySem PySem.Spec PyProof.Rows
section
variable {X:Cx} {o e:Expr} {to:TE} {t:TA} {apos pos p:Pos}
theorem be6 (ho:PE X o to)(ha:PA X [e] t)
   (hbase:attributeBase o "extend" X.env (eval o X.env)=eval o X.env:=by rfl)
   (hfew:((backTo pos (starEach [e] X.env)).all (fun x=> !x.1)&&(backToKw pos (keywordEach [] X.env)).all (fun x=>x.1.isSome)
     &&decide ([e].length+([]:List Keyword).length+(if ([]:List Keyword).isEmpty then 0 else 1) < 30))=true:=by rfl)
   (hline:(apos.endLine==pos.line)=true:=by rfl) (hs:starEach [e] X.env=(false,eval e X.env)::starEach [] X.env:=by rfl) (hplain:(backTo pos (starEach [] X.env)).any (·.1)=false:=by rfl):
   PE X (.Call (.Attribute o "extend" apos) [e] [] pos) (tBM X.K "list" bt8 to t):=
 av4 PySem.F.plainAttrs_list PySem.F.slot_list_extend PySem.F.type_list_extend cd8 ho ha hbase hfew hline hs hplain
end
theorem ar7 (xs:List V)(k:Nat)(h:k≤xs.length):W4 xs (some (k:Int)) none=xs.drop k:=by
 unfold W4
 rw[HT.dm1,HT.dk9,ef5 h,dw1 (by rw[dr2];omega)]
theorem cg3 (xs:List V)(k:Nat)(h:k≤xs.length):W4 xs none (some (k:Int))=xs.take k:=by
 unfold W4
 rw[HT.dm1,HT.dk9,ef5 h,ei8,Nat.sub_zero]
def N0 (H:Hp)(e:Addr):List Int:=match H e with
 |some (.lst xs)=>xs.map aw3
 |_=>[]
theorem Z5 {H:Hp}{e:Addr}{r:List Int}(h:H e=some (.lst (r.map V.int))):N0 H e=r:=by
 unfold N0
 rw[h]
 show (r.map V.int).map aw3=r
 rw[ds7]
 conv=>rhs;rw[←eb5 r]
 rfl
theorem bz6 {H:Hp}{as:List Addr}{rs:List (List Int)}(h:k7 H as rs):as.map (N0 H)=rs:=by
 refine dr3 fun j=> ?_
 rw[do2]
 by_cases hj:j < as.length
 · have e1:as[j]? =some as[j]:=dn9 hj
   have e2:rs[j]? =some (rs[j]'(by rw[←h.1];exact hj)):=dn9 _
   rw[e1,e2]
   show some (N0 H as[j])=_
   rw[Z5 (h.2 j _ _ e1 e2)]
 · rw[do7 (by omega),do7 (by rw[←h.1];omega)]
   rfl
end L2
namespace Mth
theorem ao7 {p:List Int}{rs:List (List Int)}(t:j8 p)(h:A7 p p.length rs):rs.flatten.Perm (L2.S9 0 p.length):=by
 have i1:j8 rs.flatten:=by
   have hin:∀x∈rs.flatten,In p x:=fun x hx=>by
     obtain ⟨r,hr,hxr⟩:=dp9.mp hx
     obtain ⟨y,L,a,b,rfl,_⟩:=h.ring r hr
     exact N8 t a x hxr
   have l1:=J3 h.nd hin
   have l2:p.length≤rs.flatten.length:=by
     have:=J3 (p:=rs.flatten) (r:=L2.S9 0 p.length) (Y1 _) fun x hx=>by
       have hx':=N7.mp hx
       obtain ⟨r,hr,hxr⟩:=dp9.mp (h.all x hx'.1 hx'.2)
       refine ⟨hx'.1,?_⟩
       exact Classical.byContradiction fun hn=>by
         have hle:(rs.flatten.length:Int)≤x:=by omega
         have hlt:=J3 h.nd hin
         have q:(L2.S9 0 (x.toNat+1)).length≤rs.flatten.length:=by
           have sub:∀z∈L2.S9 0 (x.toNat+1),z∈rs.flatten:=fun z hz=>by
             have hz':=N7.mp hz
             exact h.all z hz'.1 (by have:=hx'.2;omega)
           have:∀(l m:List Int),l.Nodup→(∀z∈l,z∈m)→l.length≤m.length:=by
             intro l
             induction l with
             |nil=>intro m _ _;exact dq3 _
             |cons c l ih=>
              intro m nd hs
              obtain ⟨n1,n2⟩:=dr5.mp nd
              obtain ⟨s,u,rfl⟩:=eg2 (hs c do3)
              have:=ih (s++u) n2 fun z hz=>by
                have hzm:=hs z (do4 _ hz)
                rcases dp3.mp hzm with g|g
                · exact dt5 _ g
                · rcases dp7.mp g with g|g
                  · subst g;exact absurd hz n1
                  · exact dq5 _ g
              rw[do6] at this
              rw[do6,dr8,dr8]
              omega
           exact this _ _ (Y1 _) sub
         rw[K3] at q
         have:=hx'.1
         omega
     rw[K3] at this
     exact this
   exact ⟨h.nd,fun x hx=>(hin x hx).1,fun x hx=>by have:=(hin x hx).2;omega⟩
 have hl:rs.flatten.length=p.length:=by
   have l1:=J3 h.nd fun x hx=>by
     obtain ⟨r,hr,hxr⟩:=dp9.mp hx
     obtain ⟨y,L,a,b,rfl,_⟩:=h.ring r hr
     exact N8 t a x hxr
   have l2:p.length≤rs.flatten.length:=by
     have:=J3 (p:=rs.flatten) (r:=L2.S9 0 p.length) (Y1 _) fun x hx=>by
       have hx':=N7.mp hx
       have hm:=h.all x hx'.1 hx'.2
       exact ⟨hx'.1,i1.hi x hm⟩
     rw[K3] at this
     exact this
   omega
 have:=i1.perm
 rw[hl] at this
 exact this
end Mth
namespace L2
open PySem PySem.Spec PyProof.Rows
theorem al8:bootBuiltins "sorted"=some (.builtin "sorted"):=by decide+kernel
section
variable {X:Cx}
variable {e:Expr} {t:TA} {p pos kpos:Pos}
def dl8 (K:PySem.W.Frag)(te:TE)(ts:TO):TE:=fun σ H Q=>te σ H fun x H1=>ts σ H1 fun o H2=>o=some (-1)∧∃a xs,x= .ref a∧g9 K H2 a xs∧∀p,H2 p=none→Q (.ref p) (c9 H2 p (.lst xs.reverse))
theorem db2 {st:Expr}{te:TE}{ts:TO}{p2:Pos}(he:PE X e te)(hst:PO X (some st) ts):PE X (.Subscript e (.Slice none none (some st) p2) pos) (dl8 X.K te ts):=by
 intro pins s σ H Q I h
 refine Subscript_ (o5 (he pins s σ H _ I h) fun v s1 ⟨x,H1,I1,r1,q1⟩=> ?_)
 refine wpAny_Slice ?_
 rw[evalPart_none]
 refine wpAny_pure (wpAny_pure ?_)
 refine o5 (hst pins s1 σ H1 _ I1 q1) fun vk s3 ⟨k,H3,I3,pk,ek,a,xs,ex,hx,q⟩=> ?_
 subst ek ex
 cases r1
 have I4:h7 X pins σ H3 {s3 with heap:=s3.heap.push {cls:= .type "slice",data:= .fields #[.none,.none,vk]}}:=I3.kept (t':=s3.toks) fun b ob q=>Heap.get?_push_of_some _ q
 obtain ⟨its,r,ht,hz⟩:=I4.list hx
 have hlen:=r.length
 show wpAny (model X.prog X.w) X.A (subscriptTail e (.Slice none none (some st) p2) (.ref a) (.ref s3.heap.objs.size)) (EP X pins σ Q) X.xe {s3 with heap:=s3.heap.push {cls:= .type "slice",data:= .fields #[.none,.none,vk]}}
 refine tail_any (ops:=[.ref a,.ref s3.heap.objs.size]) (T:="list") ht.isList.typeIs slot_list_getitem.lookup ?_ rfl
 refine wpAny_getItem_list_slice ht.isList (Heap.IsSliceOf.new ..) .none .none pk (by decide) ?_ (by rw[dp2]<;>omega)
 rw[PySem.W.krv_pick]
 have I5:=I4.laid (t':=s3.toks) (o:= .lst xs.reverse) (h':=(s3.heap.push {cls:= .type "slice",data:= .fields #[.none,.none,vk]}).push {cls:= .type "list",data:= .seq its.reverse.toArray}) (a:=(s3.heap.push {cls:= .type "slice",data:= .fields #[.none,.none,vk]}).objs.size)
   (fun b ob q=>Heap.get?_push_of_some _ q) (do1 _) ⟨by rw[dy9];exact hz,its.reverse,0,r.reverse,Heap.get?_push_size _ rfl⟩
 exact ⟨.ref _,_,I5,rfl,q _ (I4.hok.fresh (do1 _))⟩
end
end L2
namespace L2
open PySem PySem.Spec PyProof.Rows
def al9:List Expr→Option (List Int)
 |[]=>some []
 | .Constant (.int i) _ _::es=>(al9 es).map (i:: ·)
 |_::_=>none
def dg6 (ns:List Int):TA:=fun _ H Q=>Q (ns.map V.int) H
def dg7 (ns:List Int):TE:=fun _ H Q=>ns.length≤sizeLine∧∀p,H p=none→Q (.ref p) (c9 H p (.lst (ns.map V.int)))
theorem bk5 (i:Int)(j:Nat)(p:Pos)(es:List Expr)(env:Env):starEach (.Constant (.int i) j p::es) env=(false,eval (.Constant (.int i) j p) env)::starEach es env:=rfl
theorem bk6 {X:Cx}:∀(es:List Expr) (ns:List Int),al9 es=some ns→PA X es (dg6 ns)
 |[],ns,h=>by
  have:ns=[]:=(Option.some.inj h).symm
  subst this
  exact fun pos pins s σ H Q I h=>c6 pos pins s σ H Q I h
 |e::es,ns,h=>by
  unfold al9 at h
  split at h
  · rename_i h0;cases h0
  · rename_i i j p es' heq
    cases heq
    cases ho:al9 es with
    |none=>rw[ho] at h;cases h
    |some ms=>
     rw[ho] at h
     cases h
     exact fun pos pins s σ H Q I h=>(c5 (te:=tC (.int i)) i6 (bk6 es ms ho) (bk5 i j p es X.env)) pos pins s σ H Q I h
  · cases h
theorem cm4 {X:Cx}{pos:Pos}{es:List Expr}(ns:List Int)(h:al9 es=some ns):PE X (.List es pos) (dg7 ns):=fun pins s σ H Q I h'=>w4 (bk6 es ns h) pins s σ H Q I (by
 show (ns.map V.int).length≤sizeLine∧_
 rw[dn8];exact h')
end L2
namespace L2
open PySem PySem.Spec PyProof.Rows
theorem cg4 {H:Hp}{a:Addr}{as:List Addr}{r:List Int}{rs:List (List Int)}(h:H a=some (.lst (r.map V.int)))(hr:k7 H as rs):k7 H (a::as) (r::rs):=by
 refine ⟨by rw[dr8,dr8,hr.1],fun j b q h1 h2=> ?_⟩
 cases j with
 |zero=>
  rw[eh8] at h1 h2
  cases h1;cases h2
  exact h
 |succ j=>
  rw[eh9] at h1 h2
  exact hr.2 j b q h1 h2
theorem ar8 {H:Hp}:∀{as bs:List Addr} {rs qs:List (List Int)},k7 H as rs→k7 H bs qs→k7 H (as++bs) (rs++qs)
 |[],bs,[],qs,_,h=>h
 |[],bs,r::rs,qs,h,_=>by have:=h.1;simp at this
 |a::as,bs,[],qs,h,_=>by have:=h.1;simp at this
 |a::as,bs,r::rs,qs,h,h'=>cg4 (h.2 0 a r rfl rfl) (ar8 ⟨by have:=h.1;simpa using this,fun j b q h1 h2=>h.2 (j+1) b q h1 h2⟩ h')
end L2
namespace L2
open PySem PySem.Spec PyProof.Rows
section
variable {X:Cx}
theorem bk7 {P:Program}{w:World}{k:o4}{u:Value}(h:(x8 P w).is k u=true):n6 (kV k) u:=by
 cases k with
 |inl i=>
  cases u with
  |int j t=>
   have:i=j:=by
     have h2:=KeyKind.is_eq_decide (knd:=x8 P w) (aq1 P w j t) (Sum.inl i)
     rw[h] at h2
     have:=of_decide_eq_true h2.symm
     exact Sum.inl.inj this
   subst this
   exact ⟨t,rfl⟩
  |_=>cases h
 |inr x=>
  cases u with
  |str y t=>
   have:x=y:=by
     have h2:=KeyKind.is_eq_decide (knd:=x8 P w) (aq2 P w y t) (Sum.inr x)
     rw[h] at h2
     have:=of_decide_eq_true h2.symm
     exact Sum.inr.inj this
   subst this
   exact ⟨t,rfl⟩
  |_=>cases h
theorem h7.freeze {pins:List (Addr×Obj)}{σ:St}{H:Hp}{s:Shared}{a:Addr}{kvs:List (o4×V)}{o:Obj}(I:h7 X pins σ H s)(e:H a=some (.dK kvs))(ho:s.heap.get? a=some o):h7 X pins σ (c9 H a (.frz o (.dK kvs))) s:=by
 have ok:r6 X.prog X.w H s.heap a (.dK kvs):=I.hok a _ e
 exact ao5 (h':=s.heap) (t':=s.toks) I (by rw[e];exact True.intro) ⟨rfl,fun b _=>rfl⟩ ⟨o,ho⟩ ⟨ho,ok⟩
def Itd (d:Addr)(o:Obj)(kvs:List (o4×V)):It:=
 ⟨fun i H=>H d=some (.frz o (.dK kvs))∧i < kvs.length,fun i H x H'=>H'=H∧∃k v,kvs[i]? =some (k,v)∧x=kV k,fun i H=>H d=some (.frz o (.dK kvs))∧kvs.length≤i⟩
theorem cr4 {P:Program}{w:World}{H:Hp}{h:Heap}{d:Addr}{o:Obj}{kvs:List (o4×V)}(x:r6 P w H h d (.frz o (.dK kvs))){es:Array DictEntry}{ep:Nat}(hd:o.data= .dict es ep):∃vs,KV kvs vs∧h.DictAt (x8 P w) d vs ep:=by
 obtain ⟨ho,_,_,vs,rel,o',es',ep',ho',hc,hd',r⟩:=x
 rw[ho] at ho'
 cases ho'
 rw[hd] at hd'
 cases hd'
 exact ⟨vs,rel,o,es,ho,hc,hd,r⟩
theorem aw8 {α β:Type}{R:α→β→Prop}{xs:List α}{ys:List β}(h:Paired R xs ys):∀{i:Nat} {x:α},xs[i]? =some x→∃y,ys[i]? =some y∧R x y:=by
 induction h with
 |nil=>intro i x e;simp at e
 |cons r _ ih=>
  intro i x e
  cases i with
  |zero=>rw[eh8] at e;cases e;exact ⟨_,rfl,r⟩
  |succ i=>rw[eh9] at e;exact ih e
theorem am0 {P:Program}{w:World}{K:PySem.W.Frag}{tg:Expr}(d it:Addr)(o:Obj)(kvs:List (o4×V))(es:Array DictEntry)(ep:Nat)(hdat:o.data= .dict es ep):az3 P w K tg (Itd d o kvs) [it] it (fun i h=>h.IsKeyIter it d i kvs.length ep) where
 mem:=by simp
 obj:=fun i h st b hb=>by
   have e:b=it:=by simpa using hb
   subst e
   obtain ⟨o,e,c,d⟩:=st
   exact ⟨o,e,fun v z=>by rw[d] at z;cases z⟩
 keep:=fun i h h' st k=>by
   obtain ⟨o,e,r⟩:=st
   exact ⟨o,k it (by simp) o e,r⟩
 item:=by
   intro X hP hw hK hc i pins s σ H E I hf st hg
   subst hP hw hK
   obtain ⟨hH,hi⟩:=hg
   obtain ⟨vs,rel,hat⟩:=cr4 (I.hok d _ hH) hdat
   have hl:kvs.length=vs.length:=rel.length
   obtain ⟨f0,f1,f2,f3,f4,f5⟩:=hf it (by simp)
   have e1:kvs[i]? =some (kvs[i].1,kvs[i].2):=dn9 hi
   generalize kvs[i].1=k at e1
   generalize kvs[i].2=v at e1
   obtain ⟨⟨k',u⟩,e2,e3,_⟩:=aw8 rel e1
   have e3:k=k':=e3
   subst e3
   rw[hl] at st
   refine wpAny_pyNext_dict_item st hat e2 fun key h' hk st' sb=> ?_
   have I1:h7 X pins σ H {s with heap:=h'}:=I.turned (t':=s.toks) (fun b o hb e=>(sb.2 b hb).trans e) f0 f1 f3 f4 f5
   obtain ⟨o,e,c,dd⟩:=id st'
   exact ⟨key,rfl,bh2 (s:={s with heap:=h'}) e c dd (by decide) ⟨kV k,H,I1,bk7 hk,⟨rfl,k,v,e1,rfl⟩,by rw[hl];exact st',fun b hb=>(hf b hb).1⟩⟩
 done:=by
   intro X hP hw hK hc i pins s σ H E I hf st hg
   subst hP hw hK
   obtain ⟨hH,hi⟩:=hg
   obtain ⟨vs,rel,hat⟩:=cr4 (I.hok d _ hH) hdat
   have hl:kvs.length=vs.length:=rel.length
   obtain ⟨f0,f1,f2,f3,f4,f5⟩:=hf it (by simp)
   rw[hl] at st
   exact wpAny_pyNext_dict_end (I.ok.hd hc) st hat (do7 (by omega)) fun h' eb=>⟨rfl,I.turned (t':=s.toks) (fun b o hb e=>eb b o hb e) f0 f1 f3 f4 f5⟩
 self:=fun _ _ _ _ _ st h=>wpAny_pyIter_keyiter st h
def dg8 (td:TE):TI:=fun σ H R=>td σ H fun x H1=>∃d kvs,x= .ref d∧H1 d=some (.dK kvs)∧∀o,R (Itd d o kvs) (c9 H1 d (.frz o (.dK kvs)))
theorem bu3 {tg l:Expr}{tl:TE}(hl:PE X l tl):PI X tg l (dg8 tl):=by
 intro pins s σ H R I h
 refine o5 (hl pins s σ H _ I h) fun v s1 ⟨x,H1,I1,r1,q1⟩=> ?_
 obtain ⟨d,kvs,e,hH,q⟩:=q1
 subst e
 cases r1
 obtain ⟨_,hsm,vs,rel,o,es,ep,ho,hc,hdat,rr⟩:=(show r6 X.prog X.w H1 s1.heap d (.dK kvs) from I1.hok d _ hH)
 have hat:s1.heap.DictAt (x8 X.prog X.w) d vs ep:=⟨o,es,ho,hc,hdat,rr⟩
 have I2:=I1.freeze hH ho
 refine wpAny_pyIter_dict hsm hat ?_
 have hlen:kvs.length=vs.length:=rel.length
 refine ⟨s1.heap.objs.size,[s1.heap.objs.size],_,_,_,rfl,I2.kept (t':=s1.toks) fun b o e=>Heap.get?_push_of_some _ e,am0 d _ o kvs es ep hdat,⟨_,Heap.get?_push_size _ rfl,rfl,by rw[hlen];rfl⟩,fun b hb=> ?_,q o⟩
 have e:b=s1.heap.objs.size:=by simpa using hb
 subst e
 exact I2.fpOk (do1 _) (I2.hok.fresh (do1 _))
theorem ar9 {d:Addr}{o:Obj}{kvs:List (o4×V)}{g:TG}{tb:TS}{D:Y8}{σ:St}{H:Hp}(Pv:Nat→St→Hp→Prop)(h0:Pv 0 σ H)(hl:∀i σ H,i≤kvs.length→Pv i σ H→H d=some (.frz o (.dK kvs)))
   (hs:∀i k v σ H,kvs[i]? =some (k,v)→Pv i σ H→g (kV k) σ H fun σ2 H2=>tb {D with nx:=Pv (i+1),ct:=Pv (i+1),bk:=D.nx} σ2 H2) (hd:∀σ H,Pv kvs.length σ H→D.nx σ H):
   ∃W:Nat→Nat→St→Hp→Prop,(∃m,W 0 m σ H)∧∀i m σ H,W i m σ H→
    ((Itd d o kvs).stop i H∧D.nx σ H)∨((Itd d o kvs).go i H∧∃N:St→Hp→Prop,(∀σ' H',N σ' H'→∃m',m' < m∧W (i+1) m' σ' H')∧∀x H',(Itd d o kvs).yld i H x H'→g x σ H' fun σ2 H2=>tb {D with nx:=N,ct:=N,bk:=D.nx} σ2 H2):=by
 refine ⟨fun i m σ H=>m=kvs.length - i∧i≤kvs.length∧Pv i σ H,⟨kvs.length,by simp,dq3 _,h0⟩,?_⟩
 rintro i m σ H ⟨rfl,hi,p⟩
 have q:=hl i σ H hi p
 by_cases hlt:i < kvs.length
 · refine .inr ⟨⟨q,hlt⟩,Pv (i+1),fun σ' H' p'=>⟨kvs.length - (i+1),by omega,rfl,hlt,p'⟩,fun x H' y=> ?_⟩
   obtain ⟨e,k,v,y1,y2⟩:=y
   subst e y2
   exact hs i k v σ _ y1 p
 · have e:i=kvs.length:=by omega
   subst e
   exact .inl ⟨⟨q,do1 _⟩,hd σ H p⟩
theorem ac5 {prog:Program}{w:World}{κ:Type}[DecidableEq κ](knd:KeyKind prog w κ){k:κ}{key:Value}(d:Addr)(hkey:knd.is k key=true)(hd:(d==sysModules)=false)(dflt:Value):
   MeetsIn prog w (Builtin.«dict.setdefault» ⟨[.ref d,key,dflt],[]⟩) (fun _ R s=>∃kvs,s.heap.DictOf knd d kvs∧kvs.length≤sizeLine∧
     (∀v,valueAt kvs k=some v→R (.ok (.ret v)) {s with toks:=s.toks+1})∧
     (valueAt kvs k=none→∀h',h'.DictOf knd d (kvs++[(k,dflt)])→Heap.SameBut d s.heap h'→R (.ok (.ret dflt)) {s with heap:=h',toks:=s.toks+1})):=
 .of_wp fun A R s ⟨kvs,hm,hz,h1,h2⟩=>by
   unfold Builtin.«dict.setdefault»
   refine wpAny_bind ?_
   unfold Builtin.Dict.keyAndDefault
   refine wpAny_bind (wpAny_notOrdered_dict hm.typeIs ?_)
   show wpAny _ _ (pure (d,key,some dflt)) _ _ s
   refine wpAny_pure ?_
   show wpAny _ _ (if (d==sysModules)=true then _ else (dictSetDefault d key dflt >>=_)) _ _ s
   rw[if_neg (by rw[hd];exact dq2)]
   obtain ⟨o,es,ep,ho,hc,hdat,hk,hp,hn⟩:=id hm
   have hes:es.size≤sizeLine:=by
     have e1:=hp.length
     have e2:es.toList.length=es.size:=by simp
     omega
   have hf:=hm.mapOf
   refine wpAny_bind ?_
   unfold dictSetDefault
   try with_reducible refine wpAny_holding ?_
   refine wpAny_bind (knd.pyHash hkey ?_)
   refine wpAny_bind (wpAny_dictFind_of (s:={s with toks:=s.toks+1}) hkey ho hdat hk ?_)
   have hidx:(es.findIdx? fun e=>knd.is k e.key)=kvs.findIdx? fun kv=>decide (kv.1=k):=by
     rw[←hp.findIdx k];obtain ⟨l⟩:=es;simp
   have hfb:findBy knd.is es k=valueAt kvs k:=by
     rw[←hp.find k]
     obtain ⟨l⟩:=es
     simp [findBy]
   rw[findBy_of_findIdx?] at hfb
   cases hi:es.findIdx? fun e=>knd.is k e.key with
   |some i=>
    refine wpAny_bind (wpAny_dictEntries (s:={s with toks:=s.toks+1}) ho hdat ?_)
    cases he:es[i]? with
    |none=>
     exfalso
     have:=Array.findIdx?_eq_some_iff_findIdx_eq.mp hi
     have hlt:i < es.size:=this.1
     rw[ea1 hlt] at he
     exact nomatch he
    |some e=>
     refine wpAny_bind (wpAny_rule (wpAny_pure (wpAny_pure ⟨e.val,rfl,h1 e.val ?_⟩)))
     rw[hi] at hfb
     rw[←hfb]
     show Option.map _ es[i]? =_
     rw[he];rfl
   |none=>
    have hnot:k∉kvs.map (·.1):=not_mem_of_findIdx_none (hidx▸hi)
    have hnone:valueAt kvs k=none:=by rw[hi] at hfb;exact hfb.symm
    refine wpAny_bind (wpAny_rule (wpAny_bind (wpAny_updateDictKeys (hz:=hes) (s:={s with toks:=s.toks+1}) ho hdat (wpAny_pure (wpAny_pure ⟨dflt,rfl,h2 hnone _ ⟨_,_,ep+1,Heap.get?_update_self _ ho (Obj.isFreed_of_dict (Obj.data_mapDictKeys hdat _)),
      hc.mapDictKeys _,Obj.data_mapDictKeys hdat _,hk.push hkey _,?_,?_⟩ (Heap.SameBut.update ..)⟩)))))
    · have:=hp.append hkey (knd.hash k) dflt
      obtain ⟨l⟩:=es
      simpa using this
    · rw[do8,dt7]
      refine ⟨hn,by simp,?_⟩
      intro a ha b hb
      simp only[dr7,eb8,dp1] at hb
      subst hb
      exact fun e=>hnot (e▸ha)
def bu4:V→List V→Hp→VK→Prop:=fun x vs H Q=>∃(d:Addr) (kvs:List (o4×V)) (k:o4) (y:V),x= .ref d∧vs=[kV k,y]∧H d=some (.dK kvs)∧kvs.length < sizeLine∧
 (∀v,C1 kvs k=some v→Q v H)∧(C1 kvs k=none→Q y (c9 H d (.dK (kvs++[(k,y)]))))
theorem cg5:MtM X "dict.setdefault" bu4:=by
 intro pins s σ H x vs v us Q I rx rv h
 obtain ⟨d,kvs,k,y,rfl,rfl,hH,hlen,q1,q2⟩:=h
 cases rx
 cases rv with
 |cons rk rr=>
  cases rr with
  |cons ry rn=>
   cases rn
   obtain ⟨z,hd,ws,rel,dd⟩:=cr3 I.hok hH
   refine call_meetsIn PySem.F.slot_dict_setdefault dd.typeIs PySem.F.entry_dict_setdefault (PySem.F.args_dict_setdefault_3 _ _ _) (ac5 (x8 X.prog X.w) d (ao4 rk) hd _)
     ⟨ws,dd,by rw[←rel.length];exact z,fun u hu=> ?_,fun hn h' dd' hs=> ?_⟩
   · have:=rel.val k
     rw[hu] at this
     cases hv:C1 kvs k with
     |none=>rw[hv] at this;cases this
     |some v=>
      rw[hv] at this
      exact ⟨v,H,I.tok _,this,q1 v hv⟩
   · have hvn:C1 kvs k=none:=by
       have:=rel.val k
       rw[hn] at this
       cases hv:C1 kvs k with
       |none=>rfl
       |some v=>rw[hv] at this;cases this
     have he:∃q,h'.get? d=some q:=let ⟨q,_,_,hq,_⟩:=dd';⟨q,hq⟩
     have rel':=rel.put k ry
     have hany:¬(ws.any fun kv=>decide (kv.1=k))=true:=by
       rw[ee3]
       rintro ⟨kv,hkv,hek⟩
       unfold valueAt at hn
       cases hf:ws.find? (fun kv=>decide (kv.1=k)) with
       |none=>exact List.find?_eq_none.mp hf kv hkv hek
       |some y=>rw[hf] at hn;cases hn
     rw[ar3 y hvn,stored,if_neg hany] at rel'
     exact ⟨y,_,ao5 I (by rw[hH];exact True.intro) hs he (ce2 (by rw[do6];exact hlen) hd rel' dd'),ry,q2 hvn⟩
theorem cg6 {o e f:Expr}{to:TE}{t:TA}{apos pos:Pos}(ho:PE X o to)(ha:PA X [e,f] t)
   (hbase:attributeBase o "setdefault" X.env (eval o X.env)=eval o X.env:=by rfl)
   (hfew:((backTo pos (starEach [e,f] X.env)).all (fun x=> !x.1)&&(backToKw pos (keywordEach [] X.env)).all (fun x=>x.1.isSome)
     &&decide ([e,f].length+([]:List Keyword).length+(if ([]:List Keyword).isEmpty then 0 else 1) < 30))=true:=by rfl)
   (hline:(apos.endLine==pos.line)=true:=by rfl) (hs:starEach [e,f] X.env=(false,eval e X.env)::starEach [f] X.env:=by rfl) (hplain:(backTo pos (starEach [f] X.env)).any (·.1)=false:=by rfl):
   PE X (.Call (.Attribute o "setdefault" apos) [e,f] [] pos) (tBM X.K "dict" bu4 to t):=
 av4 PySem.F.plainAttrs_dict PySem.F.slot_dict_setdefault PySem.F.type_dict_setdefault cg5 ho ha hbase hfew hline hs hplain
end
theorem ct4 (xs:List V)(k j:Nat)(h:k≤xs.length):W4 xs (some (k:Int)) (some (j:Int))=(xs.drop k).take (min j xs.length - k):=by
 unfold W4
 rw[HT.dm1,HT.dm1,ef5 h]
end L2
namespace Mth
def n0 (f:Nat→Nat):List Nat→Nat
 |[]=>1
 |x::xs=>f x*n0 f xs
theorem am1 (f:Nat→Nat):∀xs ys,n0 f (xs++ys)=n0 f xs*n0 f ys
 |[],ys=>by rw[List.nil_append];exact (ei7 _).symm
 |x::xs,ys=>by
  show f x*n0 f (xs++ys)=f x*n0 f xs*n0 f ys
  rw[am1 f xs ys,dw3]
theorem aw9 (f:Nat→Nat)(xs:List Nat)(x:Nat):n0 f (xs++[x])=n0 f xs*f x:=by
 rw[am1]
 show n0 f xs*(f x*1)=_
 rw[ee4]
theorem bz7 {f:Nat→Nat}{xs ys:List Nat}(h:xs.Perm ys):n0 f xs=n0 f ys:=by
 induction h with
 |nil=>rfl
 |cons x _ ih=>show f x*n0 f _=f x*n0 f _;rw[ih]
 |swap x y l=>show f y*(f x*n0 f l)=f x*(f y*n0 f l);rw[←dw3,du0 (f y),dw3]
 |trans _ _ i1 i2=>rw[i1,i2]
theorem ax0 {f:Nat→Nat}:∀{us:List Nat},(∀u∈us,f u=1)→n0 f us=1
 |[],_=>rfl
 |u::us,h=>by
  show f u*n0 f us=1
  rw[h u do3,ax0 fun x hx=>h x (do4 _ hx)]
theorem be7 {f:Nat→Nat}:∀{ks us:List Nat},ks.Nodup→us.Nodup→(∀k∈ks,k∈us)→(∀u∈us,u∉ks→f u=1)→n0 f ks=n0 f us
 |[],us,_,_,_,h=>(ax0 fun u hu=>h u hu (by simp)).symm
 |k::ks,us,nk,nu,sub,h=>by
  obtain ⟨nk1,nk2⟩:=dr5.mp nk
  have hk:k∈us:=sub k do3
  rw[bz7 (List.perm_cons_erase hk)]
  show f k*n0 f ks=f k*n0 f (us.erase k)
  have ih:n0 f ks=n0 f (us.erase k):=by
    refine be7 nk2 (nu.erase k) (fun x hx=> ?_) fun u hu hn=> ?_
    · have hxk:x≠k:=fun e=>nk1 (by rw[←e];exact hx)
      exact (ef1 hxk).mpr (sub x (do4 _ hx))
    · obtain ⟨h1,h2⟩:=(List.Nodup.mem_erase_iff nu).mp hu
      refine h u h2 fun z=> ?_
      rcases dp7.mp z with e|e
      · exact h1 e
      · exact hn e
  rw[ih]
def n5 (rs:List (List Int))(l:Nat):Nat:=rs.countP fun r=>decide (r.length=l)
theorem ax1 {g:Int→Nat}{l:Nat}:∀{rs:List (List Int)},(∀r∈rs,∀x∈r,g x=r.length)→(rs.flatten.countP fun x=>decide (g x=l))=l*n5 rs l
 |[],_=>by simp [n5]
 |r::rs,h=>by
  have ih:=ax1 (l:=l) (rs:=rs) fun q hq=>h q (do4 _ hq)
  rw[dq1,eg3,ih]
  unfold n5
  rw[dv5]
  have hr:=h r do3
  by_cases e:r.length=l
  · have:(r.countP fun x=>decide (g x=l))=r.length:=List.countP_eq_length.mpr fun x hx=>by rw[hr x hx];exact decide_eq_true e
    rw[this,e]
    simp only[decide_true,if_true]
    rw[ec8,ee4,dv9]
  · have:(r.countP fun x=>decide (g x=l))=0:=dv3.mpr fun x hx=>by rw[hr x hx];simpa using e
    rw[this]
    simp [e]
theorem ct5 {p:List Int}(t:j8 p){rs:List (List Int)}(up:A7 p p.length rs):∀r∈rs,∀x∈r,J7 p x=r.length:=by
 intro r hr x hx
 obtain ⟨y,L,hy,pr,er,_⟩:=up.ring r hr
 subst er
 obtain ⟨j,hj,rfl⟩:=B0.mp hx
 rw[m8]
 exact M2 (pr.shift t hy j)
theorem ba0 {rs:List (List Int)}{l:Nat}(h:n5 rs l≠0):∃r∈rs,r.length=l:=by
 unfold n5 at h
 obtain ⟨r,hr,e⟩:=List.countP_pos_iff.mp (Nat.pos_of_ne_zero h)
 exact ⟨r,hr,of_decide_eq_true e⟩
end Mth
namespace Mth
structure Q0 (l m d:Nat):Prop where
 parts:d∣m
 rest:dp8 l (m/d)=1
 least:∀e,e∣m→dp8 l (m/e)=1→d∣e
theorem Q0.uniq {l m a b:Nat}(x:Q0 l m a)(y:Q0 l m b):a=b:=Nat.dvd_antisymm (x.least b y.parts y.rest) (y.least a x.parts x.rest)
theorem Q0.pos {l m d:Nat}(x:Q0 l m d)(hm:0 < m):0 < d:=by
 rcases dw5 d with z|z
 · have:=x.parts
   rw[z] at this
   have:=Nat.zero_dvd.mp this
   omega
 · exact z
structure W7 (l m d:Nat):Prop where
 pos:0 < d
 parts:d∣m
 least:∀e,e∣m→dp8 l (m/e)=1→d∣e
theorem W7.start (l m:Nat):W7 l m 1:=⟨by decide,Nat.one_dvd m,fun e _ _=>Nat.one_dvd e⟩
theorem W7.step {l m d:Nat}(hm:0 < m)(u:W7 l m d):W7 l m (d*dp8 l (m/d)):=by
 obtain ⟨k,rfl⟩:=u.parts
 have dp:=u.pos
 rw[dv4 k dp]
 have kp:0 < k:=Nat.pos_of_mul_pos_left hm|>fun h=>by
   rcases dw5 k with z|z
   · rw[z,ec0] at hm;omega
   · exact z
 refine ⟨dx9 dp (ed0 _ kp),ef2 d (dy5 l k),fun e he hr=> ?_⟩
 obtain ⟨f,rfl⟩:=u.least e he hr
 have hfk:f∣k:=eb6 dp he
 obtain ⟨g,rfl⟩:=hfk
 have fp:0 < f:=by
   rcases dw5 f with z|z
   · rw[z,dz9] at kp;omega
   · exact z
 have e1:d*(f*g)/(d*f)=g:=by
   rw[←dw3,dv4 g (dx9 dp fp)]
 rw[e1] at hr
 refine ef2 d ?_
 have c:eg8 (dp8 l (f*g)) g:=by
   have:eg8 l g:=hr
   exact eg8.coprime_dvd_left (ee5 l (f*g)) this
 exact c.dvd_of_dvd_mul_right (dy5 l (f*g))
theorem W7.done {l m d:Nat}(u:W7 l m d)(h:dp8 l (m/d)=1):Q0 l m d:=⟨u.parts,h,u.least⟩
theorem W7.more {l m d:Nat}(hm:0 < m)(u:W7 l m d)(h:dp8 l (m/d)≠1):d < d*dp8 l (m/d)∧d*dp8 l (m/d)≤m:=by
 have kp:0 < m/d:=Nat.div_pos (eb2 hm u.parts) u.pos
 have gp:0 < dp8 l (m/d):=ed0 _ kp
 have dp:=u.pos
 refine ⟨?_,eb2 hm (u.step hm).parts⟩
 have:2≤dp8 l (m/d):=by omega
 calc d < d*2:=by omega
   _≤d*dp8 l (m/d):=Nat.mul_le_mul_left d this
def G6 (d l k lane step:Nat):Nat:=lane+d*((step*k)%l)
theorem bk9 {d l x lane:Nat}(hl:lane < d)(h:0 < l):(lane+d*x)%(d*l)=lane+d*(x%l):=by
 have e:lane+d*x=(lane+d*(x%l))+(d*l)*(x/l):=by
   have:=Nat.mod_add_div x l
   calc lane+d*x=lane+d*(x%l+l*(x/l)):=by rw[this]
     _=(lane+d*(x%l))+(d*l)*(x/l):=by rw[ec8,←dw3,ec4]
 rw[e,ea2]
 refine du3 ?_
 have hx:x%l+1≤l:=dv6 _ h
 calc lane+d*(x%l) < d+d*(x%l):=by omega
   _=d*(x%l+1):=by rw[ec8,ee4,dv9]
   _≤d*l:=Nat.mul_le_mul_left d hx
theorem ba1 {d l k lane step:Nat}(hl:lane < d)(h:0 < l):(lane+step*(d*k))%(d*l)=G6 d l k lane step:=by
 have e:step*(d*k)=d*(step*k):=by rw[←dw3,du0 step d,dw3]
 rw[e,bk9 hl h];rfl
theorem ae8 {d l k lane step:Nat}(hl:lane < d)(h:0 < l):G6 d l k lane step < d*l:=by
 rw[←ba1 (k:=k) hl h]
 exact dv6 _ (dx9 (by omega) h)
theorem cm5 {d l k a b x y:Nat}(ha:a < d)(hb:b < d)(hx:x < l)(hy:y < l)(c:dp8 l k=1)(h:G6 d l k a x=G6 d l k b y):a=b∧x=y:=by
 unfold G6 at h
 have dp:0 < d:=by omega
 have h1:a=b:=by
   have e1:(a+d*((x*k)%l))%d=a:=by rw[ea2];exact du3 ha
   have e2:(b+d*((y*k)%l))%d=b:=by rw[ea2];exact du3 hb
   rw[←e1,←e2,h]
 subst h1
 have h2:(x*k)%l=(y*k)%l:=dy0 dp (by omega)
 refine ⟨rfl,?_⟩
 have key:∀u v,u≤v→v < l→(u*k)%l=(v*k)%l→u=v:=fun u v huv hv e=>by
   have d1:l∣v*k - u*k:=dz0 (Nat.sub_mod_eq_zero_of_mod_eq e.symm)
   rw[←Nat.sub_mul] at d1
   have d2:l∣v - u:=eg8.dvd_of_dvd_mul_right c d1
   rcases dw5 (v - u) with z|z
   · omega
   · have:=eb2 z d2
     omega
 rcases Nat.le_total x y with z|z
 · exact key x y z hy h2
 · exact (key y x z hx h2.symm).symm
theorem cg7 {d l k lane step:Nat}(hl:lane < d)(h:0 < l):(G6 d l k lane step+d*k)%(d*l)=G6 d l k lane ((step+1)%l):=by
 have e1:G6 d l k lane step+d*k=lane+d*((step*k)%l+k):=by
   unfold G6
   rw[ec8,ec4]
 rw[e1,bk9 hl h]
 unfold G6
 congr 2
 rw[Nat.mod_add_mod,←dy8,Nat.mul_mod ((step+1)%l),Nat.mod_mod,←Nat.mul_mod]
end Mth
namespace Mth
theorem br3 {r:List Int}(h1:∀x,In r x→In r (nx r x))(h2:∀x,In r x→∃L,0 < L∧it r L x=x):j8 r:=by
 refine al7 (fun x a b=>h1 x ⟨a,b⟩) fun x y x0 x1 y0 y1 e=> ?_
 obtain ⟨L,L0,hL⟩:=h2 x ⟨x0,x1⟩
 obtain ⟨M,M0,hM⟩:=h2 y ⟨y0,y1⟩
 have a1:=al6 hL M
 have a2:=al6 hM L
 rw[du0] at a2
 have hp:0 < L*M:=dx9 L0 M0
 obtain ⟨N,hN⟩:∃N,L*M=N+1:=⟨L*M - 1,by omega⟩
 rw[hN,ct3] at a1 a2
 rw[←a1,←a2,e]
structure G4 (r J:List Int):Prop where
 ne:J≠[]
 nd:J.Nodup
 lo:∀x∈J,0≤x
 on:∀j,j < J.length→x6 r (J.getD j 0)=some (J.getD ((j+1)%J.length) 0)
theorem G4.in_ {r J:List Int}(h:G4 r J){j:Nat}(hj:j < J.length):In r (J.getD j 0):=by
 have:=h.on j hj
 unfold x6 at this
 have h1:=(do0.mp this).1
 have h0:=h.lo (J.getD j 0) (by rw[E3 hj];exact dr9 hj)
 exact ⟨h0,by omega⟩
theorem G4.nx {r J:List Int}(h:G4 r J){j:Nat}(hj:j < J.length):nx r (J.getD j 0)=J.getD ((j+1)%J.length) 0:=by
 have e:=Q9 (h.in_ hj)
 rw[h.on j hj] at e
 exact (Option.some.inj e).symm
theorem G4.it {r J:List Int}(h:G4 r J){j:Nat}(hj:j < J.length):∀i,it r i (J.getD j 0)=J.getD ((j+i)%J.length) 0
 |0=>by rw[dw0,du3 hj];rfl
 |i+1=>by
  have hm:(j+i)%J.length < J.length:=dv6 _ (by omega)
  show Mth.nx r (Mth.it r i (J.getD j 0))=_
  rw[h.it hj i,h.nx hm,Nat.mod_add_mod,ec4]
theorem G4.per {r J:List Int}(h:G4 r J){j:Nat}(hj:j < J.length):C2 r (J.getD j 0) J.length:=by
 refine ⟨by omega,?_,fun i i0 i1 e=> ?_⟩
 · rw[h.it hj,Nat.add_mod_right,du3 hj]
 · rw[h.it hj] at e
   have hm:(j+i)%J.length < J.length:=dv6 _ (by omega)
   have hne:(j+i)%J.length≠j:=fun z=>by
     rcases ed4 (j+i) J.length with y|y
     · rw[du3 y] at z;omega
     · have e2:(j+i)%J.length=j+i - J.length:=by
         rw[Nat.mod_eq_sub_mod y,du3 (by omega)]
       omega
   exact P1 h.nd hm hj hne e
def N9 (d l k:Nat):List Int:=(ds0 (d*l)).map fun i=>((G6 d l k (i/l) (i%l):Nat):Int)
theorem U9 (d l k:Nat):(N9 d l k).length=d*l:=by unfold N9;rw[dn8,dr0]
theorem ao8 {d l i:Nat}(h:i < d*l):i/l < d:=by
 refine Nat.div_lt_of_lt_mul ?_
 rw[du0];exact h
theorem ah1 {d l k:Nat}(hl:0 < l)(c:dp8 l k=1):j8 (N9 d l k):=by
 refine ⟨?_,fun x hx=> ?_,fun x hx=> ?_⟩
 · unfold N9
   rw[dp6,dw2]
   refine List.Pairwise.imp_of_mem ?_ (dp6.mp (ee6 (n:=d*l)))
   intro a b ha hb hne e
   have ha:=dr4.mp ha
   have hb:=dr4.mp hb
   have e':G6 d l k (a/l) (a%l)=G6 d l k (b/l) (b%l):=by omega
   obtain ⟨h1,h2⟩:=cm5 (ao8 ha) (ao8 hb) (dv6 _ hl) (dv6 _ hl) c e'
   exact hne (by rw[←ef4 a l,←ef4 b l,h1,h2])
 · obtain ⟨i,_,rfl⟩:=do9.mp hx
   omega
 · obtain ⟨i,hi,rfl⟩:=do9.mp hx
   rw[U9]
   have:=ae8 (k:=k) (step:=i%l) (ao8 (dr4.mp hi)) hl
   omega
theorem Z6 {l:Nat}(hl:0 < l):∀{Rs:List (List Int)},(∀r∈Rs,r.length=l)→Rs.flatten.length=Rs.length*l∧∀a b,a < Rs.length→b < l→Rs.flatten[a*l+b]? =(Rs.getD a [])[b]?
 |[],_=>⟨by simp,fun a b h=>by simp at h⟩
 |r::Rs,h=>by
  have hr:=h r do3
  obtain ⟨i1,i2⟩:=Z6 hl (Rs:=Rs) fun q hq=>h q (do4 _ hq)
  refine ⟨by rw[dq1,do6,i1,hr,dr8,dy8,dv9],fun a b ha hb=> ?_⟩
  rw[dq1]
  cases a with
  |zero=>
   rw[dz9,dz8,dr6 (by omega)]
   rfl
  |succ a=>
   rw[dy8,ds5 (by omega),hr]
   have e:a*l+l+b - l=a*l+b:=by omega
   rw[e,i2 a b (by simp only[dr8] at ha;omega) hb]
   rfl
structure C5 (l k:Nat)(Rs:List (List Int))(J:List Int):Prop where
 len:J.length=Rs.length*l
 at_:(N9 Rs.length l k).map (x6 J)=Rs.flatten.map some
theorem C5.perm {l k:Nat}{Rs:List (List Int)}{J:List Int}(hl:0 < l)(c:dp8 l k=1)(h:C5 l k Rs J):J.Perm Rs.flatten:=
 aw1 (ah1 hl c) (by rw[U9];exact h.len) h.at_
theorem C5.get {l k:Nat}{Rs:List (List Int)}{J:List Int}(hl:0 < l)(hr:∀r∈Rs,r.length=l)(h:C5 l k Rs J){a b:Nat}(ha:a < Rs.length)(hb:b < l):J.getD (G6 Rs.length l k a b) 0=(Rs.getD a []).getD b 0:=by
 have hi:a*l+b < Rs.length*l:=by
   calc a*l+b < a*l+l:=by omega
     _=(a+1)*l:=by rw[dy8]
     _≤Rs.length*l:=du5 l ha
 have e:=congrArg (fun z:List (Option Int)=>z[a*l+b]?) h.at_
 unfold N9 at e
 rw[do2,do2,ds1 hi,do2,(Z6 hl hr).2 a b ha hb] at e
 have d1:(a*l+b)/l=a:=by
   rw[du0,ei4 hl,ee7 hb,dw0]
 have d2:(a*l+b)%l=b:=by
   rw[du0,ei5,du3 hb]
 simp only[Option.map_some,d1,d2] at e
 have hra:(Rs.getD a []).length=l:=by
   refine hr _ ?_
   rw[do5,dn9 ha]
   exact dr9 ha
 rw[dn9 (by omega)] at e
 have e:=Option.some.inj e
 have hp:=ae8 (k:=k) (step:=b) ha hl
 rw[←h.len] at hp
 unfold x6 at e
 rw[dr1,dn9 hp] at e
 rw[do5,dn9 hp,do5,dn9 (show b < (Rs.getD a []).length by omega)]
 simpa using e
def ax2 (p:List Int)(m:Nat)(J:List Int)(x:Int):Prop:=
 ∃(l k:Nat) (Rs:List (List Int)) (a b:Nat) (y:Int),0 < l∧m=Rs.length*k∧dp8 l k=1∧(∀r∈Rs,r.length=l)∧C5 l k Rs J∧a < Rs.length∧b < l∧In p y∧C2 p y l∧Rs.getD a []=l9 p y l∧x=it p b y
theorem bu5 {p r:List Int}{m:Nat}{qs:List (List Int)}(tp:j8 p)(hlen:r.length=p.length)(hq:∀J∈qs,G4 r J)(hx:∀x,In p x→∃J∈qs,ax2 p m J x):j8 r∧o3 r (m:Int) p:=by
 have at_:∀x,In p x→∃J∈qs,∃j,j < J.length∧x=J.getD j 0∧J.getD ((j+m)%J.length) 0=nx p x:=fun x hxi=>by
   obtain ⟨J,hJ,l,k,Rs,a,b,y,l0,rfl,c,hr,hj,ha,hb,hy,py,er,rfl⟩:=hx x hxi
   refine ⟨J,hJ,G6 Rs.length l k a b,by rw[hj.len];exact ae8 ha l0,?_,?_⟩
   · rw[hj.get l0 hr ha hb,er,P2 hb]
   · rw[hj.len,cg7 ha l0,hj.get l0 hr ha (dv6 _ l0),er,P2 (dv6 _ l0),T3 py.back]
     rfl
 have inr:∀x,In r x↔In p x:=fun x=>by unfold In;rw[hlen]
 have tr:j8 r:=by
   refine br3 (fun x h=> ?_) fun x h=> ?_
   · obtain ⟨J,hJ,j,hj,rfl,_⟩:=at_ x ((inr x).mp h)
     rw[(hq J hJ).nx hj]
     exact (hq J hJ).in_ (dv6 _ (by omega))
   · obtain ⟨J,hJ,j,hj,rfl,_⟩:=at_ x ((inr x).mp h)
     have:=(hq J hJ).per hj
     exact ⟨_,this.pos,this.back⟩
 refine ⟨tr,db1 tr hlen.symm fun x h L hL=> ?_⟩
 obtain ⟨J,hJ,j,hj,rfl,e⟩:=at_ x ((inr _).mp h)
 have hp:=(hq J hJ).per hj
 have:L=J.length:=hL.uniq hp
 subst this
 exact ⟨m,by simp,by rw[(hq J hJ).it hj,e]⟩
end Mth
namespace L2
open PySem PySem.Spec PyProof.Rows
theorem ax3:∀{us:List Value} {ns:List Int},us.length=ns.length→(∀(j:Nat) i,ns[j]? =some i→∃t,us[j]? =some (.int i t))→IntsAre us ns
 |[],[],_,_=> .nil
 |[],_::_,h,_=>by simp at h
 |_::_,[],h,_=>by simp at h
 |u::us,n::ns,h,hj=>by
  obtain ⟨t,e⟩:=hj 0 n rfl
  have e:u= .int n t:=Option.some.inj e
  subst e
  exact .cons n t (ax3 (by simpa using h) fun j i hi=>hj (j+1) i hi)
section
variable {prog:Program} {w:World} {A:Around} {E:Value→Shared→Prop} {s:Shared} {κ:Type} [DecidableEq κ] {knd:KeyKind prog w κ}
theorem bl0 {d:Addr}{kvs:List (κ×Value)}{ep:Nat}{Q:List Value→Shared→Prop}(hh:A.handled=none)(hd:(d==sysModules)=false)(hm:s.heap.DictAt knd d kvs ep)(hn:kvs.length≤sizeLine)
   (hQ:∀(h':Heap) (tk:Nat) (acc:Array Value),s.heap.objs.size≤h'.objs.size→(∀b o,s.heap.get? b=some o→h'.get? b=some o)→acc.size=kvs.length→(∀(j:Nat) v,acc[j]? =some v→∃k x,kvs[j]? =some (k,x)∧knd.is k v=true)→Q acc.toList {s with heap:=h',toks:=tk}):
   wpAny (model prog w) A (collect (.ref d)) Q E s:=by
 have hdS:s.heap.objs.size≠d:=fun e=>absurd (hm.lt_size) (by rw[e];exact dw8 _)
 unfold collect
 refine wpAny_bind (wpAny_runValue (codeAny_builtin F.entry_proto_collect ?_))
 rw[Around.under_plainId F.plain_proto_collect _]
 show wpAny _ A.in1 (newList [] >>=fun l=>again (.builtin "list.__iadd__" ⟨[l,.ref d],[]⟩)) _ _ s
 refine wpAny_bind (wpAny_newObj_type ?_)
 refine wpAny_pure ⟨plainId_quiet F.plain_list_iadd _,codeAny_builtin F.entry_list_iadd ?_⟩
 rw[Around.under_plainId F.plain_list_iadd _]
 have hm₁:=hm.push {cls:= .type "list",data:= .seq ([]:List Value).toArray}
 have hS₁:(s.heap.push {cls:= .type "list",data:= .seq ([]:List Value).toArray}).get? s.heap.objs.size=some {cls:= .type "list",data:= .seq ([]:List Value).toArray}:=Heap.get?_push_size _ rfl
 have h1:Builtin.List.listSameRef (.ref s.heap.objs.size) (.ref d)=false:=by simp [Builtin.List.listSameRef,hdS]
 have hT:({s with heap:=s.heap.push {cls:= .type "list",data:= .seq ([]:List Value).toArray}}:Shared).TypeIs (.ref d) "dict":=hm₁.dictOf.typeIs
 show wpAny _ A.in1 (Builtin.List.listExtendWith (.ref s.heap.objs.size) (.ref d) (.ref s.heap.objs.size)) _ _ _
 unfold Builtin.List.listExtendWith
 refine wpAny_bind (wpAny_typeOf hT ?_)
 rw[if_neg (by rw[h1];decide)]
 refine wpAny_bind (wpAny_pyIter_dict hd hm₁ ?_)
 generalize hh1:s.heap.push {cls:= .type "list",data:= .seq ([]:List Value).toArray}=H1 at hm₁ hS₁ hT ⊢
 have hsz1:H1.objs.size=s.heap.objs.size+1:=by rw[←hh1,Heap.size_push]
 have hm₂:=hm₁.push {cls:= .type "dict_keyiterator",data:= .fields #[.ref d,.int 0 0,.int kvs.length 0,.int ep 0]}
 have hS₂:(H1.push {cls:= .type "dict_keyiterator",data:= .fields #[.ref d,.int 0 0,.int kvs.length 0,.int ep 0]}).get? s.heap.objs.size=some {cls:= .type "list",data:= .seq ([]:List Value).toArray}:=Heap.get?_push_of_some _ hS₁
 have hit:(H1.push {cls:= .type "dict_keyiterator",data:= .fields #[.ref d,.int 0 0,.int kvs.length 0,.int ep 0]}).IsKeyIter H1.objs.size d 0 kvs.length ep:=⟨_,Heap.get?_push_size _ rfl,rfl,rfl⟩
 have old2:∀b o,s.heap.get? b=some o→(H1.push {cls:= .type "dict_keyiterator",data:= .fields #[.ref d,.int 0 0,.int kvs.length 0,.int ep 0]}).get? b=some o:=fun b o e=>Heap.get?_push_of_some _ (by rw[←hh1];exact Heap.get?_push_of_some _ e)
 have hT₂:({s with heap:=H1.push {cls:= .type "dict_keyiterator",data:= .fields #[.ref d,.int 0 0,.int kvs.length 0,.int ep 0]}}:Shared).TypeIs (.ref d) "dict":=hm₂.dictOf.typeIs
 generalize (H1.push {cls:= .type "dict_keyiterator",data:= .fields #[.ref d,.int 0 0,.int kvs.length 0,.int ep 0]})=H2 at hm₂ hS₂ hit old2 hT₂ ⊢
 have hIS:H1.objs.size≠s.heap.objs.size:=by omega
 have hdI:d≠H1.objs.size:=fun e=>absurd (hm₁.lt_size) (by rw[e];exact dw8 _)
 have W:=(Walks.dictKeys (prog:=prog) (w:=w) (A:=A.in1) (knd:=knd) hh H1.objs.size d hdI kvs ep).toS
 have hSf:s.heap.objs.size∉[H1.objs.size,d]:=by
   intro hb
   rcases dp7.mp hb with e|e
   · exact hIS e.symm
   · have:s.heap.objs.size=d:=by simpa using e
     exact hdS this
 refine wpAny_bind (wpAny_holding ?_)
 unfold Builtin.List.listLengthHint
 refine wpAny_bind (wpAny_specialOf hT₂ PySem.F.slot_dict_len.lookup ?_)
 (generalize hid:("dict.__len__":String)=id0;(fail_if_success (clear hid id0));wp_delta;rw[show splitId id0=some ("dict","__len__") from by subst hid;decide+kernel];subst hid)
 refine wpAny_bind (wpAny_isInstance (b:=true) hT₂ (by rw[isSubtype_type];kernel_rfl) ?_)
 rw[if_neg (by decide)]
 show wpAny _ A.in1 (typeOf (.ref d) >>=_) _ _ _
 refine wpAny_bind (wpAny_typeOf hT₂ ?_)
 refine wpAny_pure ?_
 show wpAny _ A.in1 (rule "list.extend.makes-room" >>=fun _=>Builtin.List.listTouch (.ref s.heap.objs.size) >>=fun _=>
   again (.builtin "list.extend.loop" ⟨[.ref s.heap.objs.size,.ref H1.objs.size,.ref s.heap.objs.size],[]⟩)) _ _ _
 refine wpAny_bind (wpAny_rule ?_)
 refine wpAny_bind ?_
 show wpAny _ A.in1 (updateSeq s.heap.objs.size (·.push .none) >>=fun _=>updateSeq s.heap.objs.size (·.pop)) _ _ _
 refine wpAny_bind (wpAny_updateSeq hS₂ rfl ?_)
 have hS₃:=Heap.get?_update_self (Obj.mapSeq (·.push Value.none)) hS₂ rfl
 refine wpAny_updateSeq hS₃ rfl ?_
 have hS₄:=Heap.get?_update_self (Obj.mapSeq (·.pop)) hS₃ rfl
 have oth:∀b o,b≠s.heap.objs.size→H2.get? b=some o→((H2.update s.heap.objs.size (Obj.mapSeq (·.push Value.none))).update s.heap.objs.size (Obj.mapSeq (·.pop))).get? b=some o:=
   fun b o hb e=>(Heap.get?_update_other _ _ (Ne.symm hb)).trans ((Heap.get?_update_other _ _ (Ne.symm hb)).trans e)
 refine wpAny_pure ⟨plainId_quiet F.plain_extend_loop _,codeAny_extend_loopS W hn _ hSf _ kvs.length 0 _ _ _ rfl (dq3 _)
   ⟨hit.at fun o e=>oth _ o hIS e,hm₂.at' fun o e=>oth _ o hdS.symm e⟩ hS₄ (ItemsOf.nil _) fun s' acc' c' hmv hS' hacc=> ?_⟩
 show wpAny _ A (load s.heap.objs.size >>=_) _ _ s'
 refine wpAny_bind (wpAny_load hS' ?_)
 refine wpAny_pure ?_
 have es':s'={s with heap:=s'.heap,toks:=s'.toks}:=by
   obtain ⟨h,g,dr,t,os⟩:=s'
   have a1:=hmv.gens
   have a2:=hmv.drawn
   have a3:=hmv.os
   dsimp only at a1 a2 a3
   rw[a1,a2,a3]
 rw[es']
 refine hQ s'.heap s'.toks acc' (du2 (Heap.lt_size hS')) (fun b o e=> ?_) hacc.1 hacc.2
 have hb:b < s.heap.objs.size:=Heap.lt_size e
 have hbS:b≠s.heap.objs.size:=dt1 hb
 refine hmv.heap b o (fun hm=> ?_) (oth b o hbS (old2 b o e))
 rcases dp7.mp hm with z|z
 · exact hbS z
 · have:b=H1.objs.size:=by simpa using z
   rw[this,hsz1] at hb
   exact absurd hb (Nat.not_lt.mpr (eg7 _))
theorem br4 {d:Addr}{kvs:List (κ×Value)}{ep:Nat}{ns:List Int}{Q:Value→Shared→Prop}(hh:A.handled=none)(hd:(d==sysModules)=false)(hm:s.heap.DictAt knd d kvs ep)(hI:∀acc:Array Value,acc.size=kvs.length→(∀(j:Nat) v,acc[j]? =some v→∃k x,kvs[j]? =some (k,x)∧knd.is k v=true)→IntsAre acc.toList ns)(h64:kvs.length < 64)
   (h:∀(h':Heap) (tk:Nat) (a:Addr) (out:Array Value) (ns':List Int) (e:Nat),s.heap.objs.size≤a→(∀b o,s.heap.get? b=some o→h'.get? b=some o)→h'.get? a=some (seqObj "list" out e)→IntsAre out.toList ns'→ns'.Perm ns→ns'.Pairwise (· ≤ ·)→Q (.ref a) {s with heap:=h',toks:=tk}):
   wpAny (model prog w) A (call (.builtin "sorted") [.ref d]) Q E s:=by
 refine Calls.call_function_entry kind_sorted plain_sorted entry_sorted (args_sorted1 _) ?_
 unfold Builtin.«sorted»
 refine wpAny_bind (m:=checkCount "sorted" 1 1 _) (wpAny_pure ?_)
 refine wpAny_bind (bl0 hh hd hm (by rw[sizeLine_eq];omega) fun h1 tk acc hle old hsz hit=> ?_)
 have hInt:=hI acc hsz hit
 refine wpAny_bind (wpAny_newList ?_ (hsz:=by rw[dq0,hsz,sizeLine_eq];omega))
 have hoL:(h1.push (seqObj "list" acc.toList.toArray 0)).get? h1.objs.size=some (seqObj "list" acc.toList.toArray 0):=Heap.get?_push_size _ rfl
 show wpAny _ _ _ _ _ {s with heap:=h1.push (seqObj "list" acc.toList.toArray 0),toks:=tk}
 refine wpAny_bind (wpAny_holding (wpAny_call_entry slot_list_sort ⟨_,hoL,rfl⟩ entry_list_sort (list_sort_tree hoL hInt (by rw[dq0,hsz];exact h64) fun out ns' a1 a2 a3=>⟨_,rfl,?_⟩) (args_list_sort _)))
 refine wpAny_pure ⟨_,rfl,?_⟩
 obtain ⟨e,he⟩:=sortedHeap_at (out:=out) hoL
 refine h _ tk h1.objs.size out ns' e hle (fun b o e=> ?_) he a1 a2 a3
 have hb1:=old b o e
 have hlt:b < h1.objs.size:=Heap.lt_size hb1
 rw[sortedHeap_old (dt1 hlt) (by rw[Heap.size_push];exact ed6 hlt)]
 exact Heap.get?_push_of_some _ hb1
end
section
variable {X:Cx}
theorem cm6 {pins:List (Addr×Obj)}{σ:St}{H:Hp}{s:Shared}(I:h7 X pins σ H s){h':Heap}{tk:Nat}{a:Addr}{out:Array Value}{ms:List Int}{e:Nat}(ha:s.heap.objs.size≤a)(k:∀b o,s.heap.get? b=some o→h'.get? b=some o)(he:h'.get? a=some (seqObj "list" out e))(hi:IntsAre out.toList ms)(hl:ms.length≤sizeLine):
   h7 X pins σ (c9 H a (.lst (ms.map V.int))) {s with heap:=h',toks:=tk}:=
 I.laid (t':=tk) k ha (show r6 X.prog X.w _ _ _ (.lst (ms.map V.int)) from ⟨by rw[dn8];exact hl,out.toList,e,ak8 hi,he⟩)
theorem bl1 (hc:X.calm=true):R1 X (.builtin "sorted") (fun xs H Q=>∃(d:Addr) (kvs:List (o4×V)) (ns:List Int),xs=[.ref d]∧H d=some (.dK kvs)∧kvs.map (·.1)=ns.map Sum.inl∧ns.length < 64∧∀(ms:List Int) l,ms.Perm ns→ms.Pairwise (· ≤ ·)→H l=none→Q (.ref l) (c9 H l (.lst (ms.map V.int)))):=by
 intro pins s σ H xs us Q I r h
 obtain ⟨d,kvs,ns,rfl,hH,hk,h64,q⟩:=h
 obtain ⟨u,rfl,rx⟩:=ab5 r
 cases rx
 obtain ⟨_,hsm,vs,rel,o,es,ep,ho,hcx,hdat,rr⟩:=(show r6 X.prog X.w H s.heap d (.dK kvs) from I.hok d _ hH)
 have hat:s.heap.DictAt (x8 X.prog X.w) d vs ep:=⟨o,es,ho,hcx,hdat,rr⟩
 have hlen:kvs.length=vs.length:=rel.length
 have hkn:kvs.length=ns.length:=by have:=congrArg ei6 hk;rw[dn8,dn8] at this;exact this
 refine br4 (ns:=ns) (I.ok.hd hc) hsm hat (fun acc hsz hit=> ?_) (by omega) fun h' tk a out ms e ha kp he hi pm srt=> ?_
 · refine ax3 (by rw[dq0];omega) fun j i hj=> ?_
   have hjl:j < ns.length:=(do0.mp hj).1
   have hja:j < acc.size:=by omega
   obtain ⟨k,x,hkx,his⟩:=hit j acc[j] (ea1 hja)
   have hj1:kvs[j]? =some kvs[j]:=dn9 (by omega)
   obtain ⟨⟨k',x'⟩,e2,e3,_⟩:=aw8 rel hj1
   rw[hkx] at e2
   cases e2
   have e3:kvs[j].1=k:=e3
   have e4:=congrArg (fun z:List o4=>z[j]?) hk
   rw[do2,do2,hj1,hj] at e4
   have e5:kvs[j].1=Sum.inl i:=Option.some.inj e4
   rw[←e3,e5] at his
   obtain ⟨t,et⟩:=(show ∃t,acc[j]=Value.int i t from bk7 his)
   exact ⟨t,by rw[ds8,ea1 hja,et]⟩
 · have hl:ms.length≤sizeLine:=by rw[pm.length_eq,sizeLine_eq];omega
   exact ⟨.ref a,_,cm6 I ha kp he hi hl,rfl,q ms a pm srt (I.hok.fresh ha)⟩
theorem bz8 {e:Expr}{t:TA}{p pos:Pos}(hc:X.calm=true)(hm:X.mg "sorted"=none)(ha:PA X [e] t)(hg:Gl X "sorted":=by rfl)(he:starEach [e] X.env=(false,eval e X.env)::starEach [] X.env:=by rfl):
   PE X (.Call (.Name "sorted" p) [e] [] pos) (tCB (fun xs H Q=>∃(d:Addr) (kvs:List (o4×V)) (ns:List Int),xs=[.ref d]∧H d=some (.dK kvs)∧kvs.map (·.1)=ns.map Sum.inl∧ns.length < 64∧∀(ms:List Int) l,ms.Perm ns→ms.Pairwise (· ≤ ·)→H l=none→Q (.ref l) (c9 H l (.lst (ms.map V.int)))) t):=
 R4 (bl1 hc) hg hm al8 ha (by decide) (by decide) he rfl
def bl2 (lo st:Int)(n:Nat):It:=⟨fun i _=>i < n,fun i H x H'=>H'=H∧x= .int (lo+i*st),fun i _=>n≤i⟩
theorem br5 {P:Program}{w:World}{K:PySem.W.Frag}{tg:Expr}(it:Addr)(lo st:Int)(n:Nat):az3 P w K tg (bl2 lo st n) [it] it (fun i h=>IsRangeIter h it (lo+(i:Nat)*st) ((n:Int) - (i:Nat)) st) where
 mem:=by simp
 obj:=fun i h st' b hb=>by
   have e:b=it:=by simpa using hb
   subst e
   exact ⟨_,st',fun v z=>by
     have z':Data.fields _=Data.cell v:=z
     cases z'⟩
 keep:=fun i h h' st' k=>k it (by simp) _ st'
 item:=by
   intro X hP hw hK hc i pins s σ H E I hf st' hg
   subst hP hw hK
   obtain ⟨f0,f1,f2,f3,f4,f5⟩:=hf it (by simp)
   have W:=Walks.range (prog:=X.prog) (w:=X.w) (I.ok.hd hc) it lo st n
   refine W.item i s _ _ hg st' fun v h' tk hv st'' kk=> ?_
   obtain ⟨t,rfl⟩:=hv
   have I1:h7 X pins σ H {s with heap:=h',toks:=tk}:=I.turned (fun b o hb e=>kk b o (by simpa using hb) e) f0 f1 f3 f4 f5
   exact ⟨_,rfl,bh2 (s:={s with heap:=h',toks:=tk}) (n:="range_iterator") st'' rfl rfl (by decide) ⟨.int (lo+i*st),H,I1,⟨t,rfl⟩,⟨rfl,rfl⟩,st'',fun b hb=>(hf b hb).1⟩⟩
 done:=by
   intro X hP hw hK hc i pins s σ H E I hf st' hg
   subst hP hw hK
   obtain ⟨f0,f1,f2,f3,f4,f5⟩:=hf it (by simp)
   exact wpAny_pyNext_range_end (I.ok.hd hc) st' (by have:n≤i:=hg;omega) fun h' eb=>⟨rfl,I.turned (t':=s.toks) (fun b o hb e=>eb b o hb e) f0 f1 f3 f4 f5⟩
 self:=fun _ _ _ _ _ st' h=>wpAny_pyIter_rangeiter st' h
def dg9 (ta:TA):TI:=fun σ H R=>ta σ H fun vs H1=>∃(b c:Nat),vs=[.int 0,.int (b:Int),.int (c:Int)]∧1≤b∧b≤1000∧1≤c∧c≤1000∧R (bl2 0 (c:Int) ((b - 1)/c+1)) H1
theorem cr5 {b c:Nat}(b1:1≤b)(c1:1≤c):Builtin.Range.rangeSize 0 (b:Int) (c:Int)=(((b - 1)/c+1:Nat):Int):=by
 unfold Builtin.Range.rangeSize
 rw[if_pos (by omega),if_pos (by omega)]
 have:(b:Int) - 0 - 1=((b - 1:Nat):Int):=by omega
 rw[this,←Int.natCast_ediv]
 rfl
theorem db3 {b c:Nat}(b1:1≤b)(b2:b≤1000)(c1:1≤c)(c2:c≤1000):Builtin.Range.small 0 (b:Int) (c:Int)=true:=by
 unfold Builtin.Range.small
 rw[cr5 b1 c1]
 have h1:(b - 1)/c≤b - 1:=Nat.div_le_self _ _
 have h2:(b - 1)/c*c≤b - 1:=Nat.div_mul_le_self _ _
 generalize hq:(b - 1)/c=q at h1 h2 ⊢
 simp only[Builtin.Range.rangeFitsLong,dx7,ec7,decide_eq_true_eq,beq_iff_eq,show (c:Int) > 0 by omega,if_true]
 exact ⟨⟨⟨⟨⟨by decide,by decide⟩,by omega,by omega⟩,by omega,by omega⟩,by omega,by omega⟩,.inr ⟨by omega,by omega⟩⟩
theorem cg8 {tg a b c:Expr}{ta:TA}{p pos:Pos}(hg:Gl X "range")(hm:X.mg "range"=none)(ha:PA X [a,b,c] ta)(hs:starEach [a,b,c] X.env=(false,eval a X.env)::starEach [b,c] X.env:=by rfl)(hpl:(backTo pos (starEach [b,c] X.env)).any (·.1)=false:=by rfl):
   PI X tg (.Call (.Name "range" p) [a,b,c] [] pos) (dg9 ta):=by
 intro pins s σ H R I h
 refine Call_ (Y9 I hg hm boot_range (PyProof.Rows.callWith_type1 (o5 (ha pos pins s σ H _ I h) fun us s1 ⟨vs,H1,I1,r1,q1⟩=> ?_) hs hpl))
 obtain ⟨bn,cn,e,b1,b2,c1,c2,q⟩:=q1
 subst e
 cases r1 with
 |cons r rr=>
  cases rr with
  |cons r' rr=>
   cases rr with
   |cons r'' rr=>
    cases rr
    obtain ⟨t,rfl⟩:=r
    obtain ⟨t',rfl⟩:=r'
    obtain ⟨t'',rfl⟩:=r''
    refine call_range_3 (by omega) ?_ (.inl (PyProof.noPylong_small (by omega)))
    refine wpAny_pyIter_range (IsRange.new ..) (db3 b1 b2 c1 c2) ?_
    have I2:h7 X pins σ H1 {s1 with heap:=s1.heap.push {cls:= .type "range",data:= .fields #[.int 0 t,.int (bn:Int) t',.int (cn:Int) t'']},toks:=s1.toks}:=I1.kept fun b o e=>Heap.get?_push_of_some _ e
    refine ⟨(s1.heap.push {cls:= .type "range",data:= .fields #[.int 0 t,.int (bn:Int) t',.int (cn:Int) t'']}).objs.size,[(s1.heap.push {cls:= .type "range",data:= .fields #[.int 0 t,.int (bn:Int) t',.int (cn:Int) t'']}).objs.size],_,_,H1,rfl,
      I2.kept (t':=s1.toks) fun b o e=>Heap.get?_push_of_some _ e,br5 _ 0 (cn:Int) ((bn - 1)/cn+1),?_,fun b hb=> ?_,q⟩
    · show IsRangeIter _ _ ((0:Int)+((0:Nat):Int)*(cn:Int)) ((((bn - 1)/cn+1:Nat):Int) - ((0:Nat):Int)) (cn:Int)
      have e1:(0:Int)+((0:Nat):Int)*(cn:Int)=0:=by simp
      have e2:(((bn - 1)/cn+1:Nat):Int) - ((0:Nat):Int)=Builtin.Range.rangeSize 0 (bn:Int) (cn:Int):=by rw[cr5 b1 c1];omega
      rw[e1,e2]
      exact Heap.get?_push_size _ rfl
    · have e:b=(s1.heap.push {cls:= .type "range",data:= .fields #[.int 0 t,.int (bn:Int) t',.int (cn:Int) t'']}).objs.size:=by simpa using hb
      subst e
      exact I2.fpOk (do1 _) (I2.hok.fresh (do1 _))
theorem bz9 {lo st:Int}{n:Nat}{g:TG}{tb:TS}{D:Y8}{σ:St}{H:Hp}(Pv:Nat→St→Hp→Prop)(h0:Pv 0 σ H)
   (hs:∀i σ H,i < n→Pv i σ H→g (.int (lo+i*st)) σ H fun σ2 H2=>tb {D with nx:=Pv (i+1),ct:=Pv (i+1),bk:=D.nx} σ2 H2) (hd:∀σ H,Pv n σ H→D.nx σ H):
   ∃W:Nat→Nat→St→Hp→Prop,(∃m,W 0 m σ H)∧∀i m σ H,W i m σ H→
    ((bl2 lo st n).stop i H∧D.nx σ H)∨((bl2 lo st n).go i H∧∃N:St→Hp→Prop,(∀σ' H',N σ' H'→∃m',m' < m∧W (i+1) m' σ' H')∧∀x H',(bl2 lo st n).yld i H x H'→g x σ H' fun σ2 H2=>tb {D with nx:=N,ct:=N,bk:=D.nx} σ2 H2):=by
 refine ⟨fun i m σ H=>m=n - i∧i≤n∧Pv i σ H,⟨n,by simp,dq3 _,h0⟩,?_⟩
 rintro i m σ H ⟨rfl,hi,p⟩
 by_cases hlt:i < n
 · refine .inr ⟨hlt,Pv (i+1),fun σ' H' p'=>⟨n - (i+1),by omega,rfl,hlt,p'⟩,fun x H' y=> ?_⟩
   obtain ⟨e,y⟩:=y
   subst e y
   exact hs i σ _ hlt p
 · have e:i=n:=by omega
   subst e
   exact .inl ⟨do1 _,hd σ H p⟩
end
end L2
namespace Mth
theorem bl3 {p:List Int}(t:j8 p):∀i,i≤p.length→A7 p i (j6 p i)
 |0,_=>aw5 p
 |i+1,h=>by
  have ih:=bl3 t i (by omega)
  show A7 p (i+1) (if (i:Int)∈(j6 p i).flatten then j6 p i else j6 p i++[l9 p i (J7 p i)])
  have hx:In p (i:Int):=⟨by omega,by omega⟩
  by_cases hi:(i:Int)∈(j6 p i).flatten
  · rw[if_pos hi];exact aw6 ih hi
  · rw[if_neg hi]
    obtain ⟨L,hL⟩:=ae6 t hx
    rw[M2 hL]
    exact aw7 t ih hx hL hi
theorem O0 {p:List Int}(t:j8 p):A7 p p.length (j6 p p.length):=bl3 t _ (do1 _)
theorem ax4 {p t:List Int}{k:Int}(tp:j8 p)(h:o3 p k t){x:Int}(hx:In p x){L:Nat}(hL:C2 p x L){m:Nat}(hm:((m:Int) - k)%(L:Int)=0):∀i,it t i x=it p (m*i) x
 |0=>by rw[ec0];rfl
 |i+1=>by
  show nx t (it t i x)=_
  rw[ax4 tp h hx hL hm i]
  obtain ⟨M,hM,e⟩:=bk2 h (G9 tp hx (m*i))
  have:=(hL.shift tp hx (m*i)).uniq hM
  subst this
  rw[e m hm,←B7,ef6,dv9]
theorem bu6 {p t:List Int}{k:Int}(tp:j8 p)(h:o3 p k t){x:Int}(hx:In p x){L:Nat}(hL:C2 p x L){m:Nat}(hm:((m:Int) - k)%(L:Int)=0):C2 t x (L/dp8 L m):=by
 have lp:=hL.pos
 have gp:0 < dp8 L m:=ed5 _ lp
 obtain ⟨a,ha⟩:=ee5 L m
 obtain ⟨b,hb⟩:=dy5 L m
 have cp:eg8 (L/dp8 L m) (m/dp8 L m):=eb7 gp
 generalize dp8 L m=g at*
 have e1:L/g=a:=by rw[ha,dv4 _ gp]
 have e2:m/g=b:=by rw[hb,dv4 _ gp]
 rw[e1,e2] at cp
 rw[e1]
 refine ⟨?_,?_,fun i i0 i1 e=> ?_⟩
 · rcases dw5 a with z|z
   · rw[z] at ha;omega
   · exact z
 · rw[ax4 tp h hx hL hm,hb,show g*b*a=L*b by rw[ha];ac_rfl]
   exact al6 hL.back b
 · rw[ax4 tp h hx hL hm] at e
   have d:=bu2 hL e
   rw[ha,hb,dw3] at d
   have d2:a∣b*i:=eb6 gp d
   have d3:a∣i:=cp.dvd_of_dvd_mul_left d2
   exact absurd (eb2 i0 d3) (by omega)
theorem be8 {D:Nat}{g:Int→Bool}:∀{rs:List (List Int)},(∀r∈rs,(∀x∈r,g x=false)∨((∀x∈r,g x=true)∧D∣r.length))→D∣rs.flatten.countP g
 |[],_=>by simp
 |r::rs,h=>by
  have ih:=be8 (D:=D) (g:=g) (rs:=rs) fun q hq=>h q (do4 _ hq)
  rw[dq1,eg3]
  refine Nat.dvd_add ?_ ih
  rcases h r do3 with z|⟨z,d⟩
  · rw[dv3.mpr fun x hx=>by rw[z x hx];decide];exact ei0 D
  · rw[List.countP_eq_length.mpr fun x hx=>z x hx];exact d
theorem ah2 {p:List Int}(t:j8 p)(l:Nat):((L2.S9 0 p.length).countP fun x=>decide (J7 p x=l))=l*n5 (j6 p p.length) l:=by
 rw[←ax1 (ct5 t (O0 t)),(ao7 t (O0 t)).countP_eq]
theorem as0 {p:List Int}(t:j8 p):n5 (j6 p p.length) 0=0:=by
 by_cases z:n5 (j6 p p.length) 0=0
 · exact z
 · obtain ⟨r,hr,e⟩:=ba0 z
   obtain ⟨y,L,hy,pr,er,_⟩:=(O0 t).ring r hr
   rw[er,m8] at e
   have:=pr.pos
   omega
theorem ca0 {r p:List Int}{m l d:Nat}(tr:j8 r)(h:o3 r (m:Int) p)(hd:Q0 l m d):d∣n5 (j6 p p.length) l:=by
 have tp:=Y4 tr h
 rcases dw5 l with z|l0
 · rw[z,as0 tp];exact ei0 d
 have e:=ah2 tp l
 have key:l*d∣l*n5 (j6 p p.length) l:=by
   rw[←e,h.1,←(ao7 tr (O0 tr)).countP_eq]
   refine be8 fun q hq=> ?_
   obtain ⟨y,L,hy,pr,er,_⟩:=(O0 tr).ring q hq
   have pers:∀x∈q,J7 p x=L/dp8 L m:=fun x hx=>by
     rw[er] at hx
     obtain ⟨j,hj,rfl⟩:=B0.mp hx
     exact M2 (bu6 tr h (G9 tr hy j) (pr.shift tr hy j) (by rw[Int.sub_self];rfl))
   by_cases hl:L/dp8 L m=l
   · refine .inr ⟨fun x hx=>by rw[pers x hx];exact decide_eq_true hl,?_⟩
     have gp:0 < dp8 L m:=ed5 _ pr.pos
     have eL:L=l*dp8 L m:=by rw[←hl,Nat.div_mul_cancel (ee5 L m)]
     rw[er,m8]
     have hr:d∣dp8 L m:=by
       refine hd.least _ (dy5 L m) ?_
       have:=eb7 gp
       rw[hl] at this
       exact this
     rw[eL]
     exact ef2 l hr
   · exact .inl fun x hx=>by rw[pers x hx];exact decide_eq_false hl
 exact eb6 l0 key
theorem cm7 {p q:List Int}(tp:j8 p)(tq:j8 q)(h:∀l,((L2.S9 0 q.length).countP fun x=>decide (J7 q x=l))=((L2.S9 0 p.length).countP fun x=>decide (J7 p x=l)))(l:Nat):n5 (j6 q q.length) l=n5 (j6 p p.length) l:=by
 rcases dw5 l with z|l0
 · rw[z,as0 tp,as0 tq]
 have:=h l
 rw[ah2 tp,ah2 tq] at this
 exact dy0 l0 this
theorem ae9 {p s b:List Int}(tp:j8 p)(ts:j8 s)(hl:s.length=p.length)(hb:o3 s (-1) b){x:Int}(hx:In p x):∀i,it (y7 (y7 s p) b) i (nx s x)=nx s (it p i x)
 |0=>rfl
 |i+1=>by
  show nx _ (it _ i _)=nx s (nx p (it p i x))
  rw[ae9 tp ts hl hb hx i]
  have hi:=G9 tp hx i
  have hsi:In s (it p i x):=by unfold In at*;rw[hl];exact hi
  have h1:In b (nx s (it p i x)):=by
    have:=T0 ts hsi
    unfold In at*
    rw[hb.1];exact this
  rw[ae7 h1]
  have h2:=bk4 ts hb (T0 ts hsi)
  have h3:nx b (nx s (it p i x))=it p i x:=T1 ts h2.1 hsi h2.2
  rw[h3,ae7 hi]
theorem bl4 {p s b:List Int}(tp:j8 p)(ts:j8 s)(hl:s.length=p.length)(hb:o3 s (-1) b){x:Int}(hx:In p x){L:Nat}(hL:C2 p x L):C2 (y7 (y7 s p) b) (nx s x) L:=by
 refine ⟨hL.pos,by rw[ae9 tp ts hl hb hx,hL.back],fun i i0 i1 e=> ?_⟩
 rw[ae9 tp ts hl hb hx] at e
 have tr:∀y,In p y→In s y:=fun y hy=>by unfold In at*;rw[hl];exact hy
 exact hL.least i i0 i1 (T1 ts (tr _ (G9 tp hx i)) (tr _ hx) e)
theorem ah3 {p s b:List Int}(tp:j8 p)(ts:j8 s)(hl:s.length=p.length)(hb:o3 s (-1) b):j8 (y7 (y7 s p) b):=by
 have tb:=Y4 ts hb
 exact ah0 (ah0 ts tp hl) tb (by rw[K5,hb.1,hl])
theorem cm8 {p s b:List Int}(tp:j8 p)(ts:j8 s)(hl:s.length=p.length)(hb:o3 s (-1) b)(l:Nat):n5 (j6 (y7 (y7 s p) b) (y7 (y7 s p) b).length) l=n5 (j6 p p.length) l:=by
 refine cm7 tp (ah3 tp ts hl hb) (fun l=> ?_) l
 have e1:(y7 (y7 s p) b).length=s.length:=by rw[K5,hb.1]
 rw[e1,←ts.perm.countP_eq,←hl]
 have e2:s=(L2.S9 0 s.length).map (nx s):=by
   refine dr3 fun j=> ?_
   unfold L2.S9
   rw[ds7,do2]
   by_cases hj:j < s.length
   · rw[ds1 hj,dn9 hj]
     show some _=some (nx s ((0:Int)+(j:Int)))
     unfold nx
     rw[show ((0:Int)+(j:Int)).toNat=j by omega,E3 hj]
   · rw[do7 (by omega),do7 (by rw[dr0];omega)];rfl
 have e3:∀f:Int→Bool,s.countP f=(L2.S9 0 s.length).countP (f∘nx s):=fun f=>by rw[←dy6,←e2]
 rw[e3]
 refine dy7 fun x hx=> ?_
 have hin:In p x:=by have:=N7.mp hx;unfold In;rw[←hl];exact this
 obtain ⟨L,hL⟩:=ae6 tp hin
 show decide (J7 (y7 (y7 s p) b) (nx s x)=l)=true↔_
 rw[M2 hL,M2 (bl4 tp ts hl hb hin hL)]
structure cg9 (c:Nat→Nat)(m l d:Nat):Prop where
 some:1≤c l
 right:Q0 l m d
 bad:¬d∣c l
 less:∀k,1≤c k→k < l→∀e,Q0 k m e→e∣c k
end Mth
namespace Mth
def w6 (rs:List (List Int))(l:Nat):List (List Int):=rs.filter fun r=>decide (r.length=l)
theorem P3 (rs:List (List Int))(l:Nat):(w6 rs l).length=n5 rs l:=by unfold w6 n5;rw[eg0]
def JO (m:Nat)(rs:List (List Int))(J:List Int)(Rs:List (List Int)):Prop:=
 ∃l k,0 < l∧m=Rs.length*k∧dp8 l k=1∧(∀r∈Rs,r.length=l)∧1≤Rs.length∧C5 l k Rs J∧(∀r∈Rs,r∈rs)∧Q0 l m Rs.length∧∃j,Rs=((w6 rs l).drop (j*Rs.length)).take Rs.length
def bl5 (p:List Int)(m:Nat)(r:List Int):Prop:=r.length=p.length∧∀r0∈j6 p p.length,∃J Rs,JO m (j6 p p.length) J Rs∧r0∈Rs∧G4 r J
theorem C5.uniq {l k:Nat}{Rs:List (List Int)}{J J':List Int}(hl:0 < l)(c:dp8 l k=1)(h:C5 l k Rs J)(h':C5 l k Rs J'):J=J':=by
 have e:=h.at_.trans h'.at_.symm
 refine dr3 fun i=> ?_
 by_cases hi:i < Rs.length*l
 · have ip:=ah1 (d:=Rs.length) hl c
   have hm:(i:Int)∈N9 Rs.length l k:=ip.perm.mem_iff.mpr (N7.mpr ⟨by omega,by rw[U9];omega⟩)
   obtain ⟨n,hn⟩:=dq9.mp hm
   have e2:=congrArg (fun z:List (Option Int)=>z[n]?) e
   simp only[do2,hn,Option.map_some] at e2
   have e3:=Option.some.inj e2
   unfold x6 at e3
   rw[dr1] at e3
   exact e3
 · rw[do7 (by rw[h.len];omega),do7 (by rw[h'.len];omega)]
end Mth
namespace Mth
theorem ca1 {p:List Int}(t:j8 p)(k:Int):∃s,o3 p k s:=by
 refine ⟨(L2.S9 0 p.length).map fun x=>it p (k%(J7 p x:Int)).toNat x,by rw[dn8,K3],fun x hx=> ?_⟩
 obtain ⟨L,hL⟩:=ae6 t hx
 refine ⟨L,hL,?_⟩
 unfold x6
 have h0:=hx.1
 have h1:=hx.2
 have e:(L2.S9 0 p.length)[x.toNat]? =some x:=by
   unfold L2.S9
   rw[do2,ds1 (by omega)]
   show some ((0:Int)+(x.toNat:Int))=some x
   congr 1
   omega
 rw[do2,e]
 show some _=some _
 dsimp only
 rw[M2 hL]
theorem db4 {n c:Int}(hn:1≤n)(hc:0≤c):∃mx,(if (if n < c then n else c) > 1 then (if n < c then n else c) else (1:Int))=mx∧1≤mx∧mx≤n:=by
 refine ⟨_,rfl,?_⟩
 split<;>split at* <;>omega
end Mth
namespace L2
open PySem PySem.Spec PyProof.Rows
def KI (kvs:List (o4×V))(ns:List Int):Prop:=kvs.map (·.1)=ns.map Sum.inl
theorem bl6:∀{kvs:List (o4×V)} {ns:List Int},KI kvs ns→∀k:Int,k∈ns↔∃v,C1 kvs (Sum.inl k:o4)=some v
 |[],[],_,k=>⟨fun h=>by simp at h,fun ⟨v,h⟩=>by cases h⟩
 |[],n::ns,h,_=>by unfold KI at h;simp at h
 |p::kvs,[],h,_=>by unfold KI at h;simp at h
 |p::kvs,n::ns,h,k=>by
  unfold KI at h
  rw[dr7,dr7] at h
  injection h with h1 h2
  by_cases e:n=k
  · have:p.1=(Sum.inl k:o4):=by rw[h1,e]
    rw[U2 this]
    exact ⟨fun _=>⟨_,rfl⟩,fun _=>by rw[e];exact do3⟩
  · have:¬p.1=(Sum.inl k:o4):=fun z=>e (by rw[h1] at z;exact Sum.inl.inj z)
    rw[R6 this]
    constructor
    · intro hm
      rcases dp7.mp hm with z|z
      · exact absurd z.symm e
      · exact (bl6 (show KI kvs ns from h2) k).mp z
    · intro hv
      exact do4 _ ((bl6 (show KI kvs ns from h2) k).mpr hv)
theorem ct6 {kvs:List (o4×V)}{ns:List Int}(h:KI kvs ns){k:Int}(hk:k∉ns):C1 kvs (Sum.inl k:o4)=none:=by
 cases e:C1 kvs (Sum.inl k:o4) with
 |none=>rfl
 |some v=>exact absurd ((bl6 h k).mpr ⟨v,e⟩) hk
end L2
namespace Mth
theorem be9 {l m d:Nat}(d1:0 < d):dp8 (d*l) m=d↔d∣m∧dp8 l (m/d)=1:=by
 constructor
 · intro h
   have hd:d∣m:=h▸dy5 (d*l) m
   refine ⟨hd,?_⟩
   have e:m=d*(m/d):=(ec5 hd).symm
   have h2:dp8 (d*l) (d*(m/d))=d:=by rw[←e];exact h
   rw[eh5] at h2
   exact dy0 d1 (by rw[h2,ee4])
 · rintro ⟨hd,h⟩
   have e:m=d*(m/d):=(ec5 hd).symm
   rw[e,eh5,h,ee4]
end Mth
namespace L2
open PySem PySem.Spec PyProof.Rows
def bl7 (a b:Sp):Sp:=fun vs H Q E=>a vs H Q E∨b vs H Q E
section
variable {P:Program} {w:World} {K:PySem.W.Frag} {mg:Str→Option Value} {base:Heap} {CX:CXT} {k:Nat} {f:Addr} {fd:FuncData} {ps:List Str} {a b:Sp}
theorem dh0 (x:o8 P w K mg base CX k f fd ps a)(y:o8 P w K mg base CX k f fd ps b):o8 P w K mg base CX k f fd ps (bl7 a b):=
 ⟨fun vs H Q E h=>h.elim (x.len vs H Q E) (y.len vs H Q E),fun A outer s H args us vs Q E r e bt v h=>h.elim (x.run A outer s H args us vs Q E r e bt v) (y.run A outer s H args us vs Q E r e bt v)⟩
theorem cr6 {x:Str}(c:j7 P w K mg base x k ps (bl7 a b)):j7 P w K mg base x k ps a:=by
 obtain ⟨f,fd,h1,h2,h3,h4⟩:=c
 exact ⟨f,fd,h1,h2,h3,h4.imp fun vs H Q E z=> .inl z⟩
end
end L2
namespace L2
open PySem PySem.Spec PyProof.Rows
section
variable {X:Cx}
theorem cm9 {e:Expr}:PE X e (fun _ _ _=>False):=fun _ _ _ _ _ _ h=>h.elim
end
end L2
namespace HT
open PySem PySem.Spec PyProof.Rows
open PySem.AutoSeq1
open PySem.MeetsSeq PySem.MeetsSeq2 PySem.MeetsSeq3
theorem ba2 {xs:Array Value}{i:Nat}{x:Value}{r:List Value}(h:xs.toList.drop i=x::r):xs[((i:Nat):Int).toNat]? =some x∧xs.toList.drop (i+1)=r∧i < xs.size:=by
 have hl:i < xs.size:=by
   rcases ed4 i xs.size with z|z
   · exact z
   · rw[List.drop_of_length_le (by simpa using z)] at h;cases h
 refine ⟨?_,?_,hl⟩
 · rw[dr1,←ds8]
   have:=congrArg List.head? h
   rw[List.head?_drop] at this
   simpa using this
 · have:=congrArg List.tail h
   rw[List.tail_drop] at this
   exact this
theorem bl8 {xs:Array Value}{i:Nat}(h:xs.toList.drop i=[]):xs[((i:Nat):Int).toNat]? =none∧xs.size≤i:=by
 have hl:xs.size≤i:=by
   have:=congrArg ei6 h
   rw[dr2] at this
   simp at this;omega
 exact ⟨by rw[dr1];simp [hl],hl⟩
abbrev ca2 (h:Heap)(a:Addr)(xs:Array Value)(n:Nat):Prop:=h.get? a=some {cls:= .type "list",dict:=none,data:= .seq xs n,slots:= #[]}
theorem ct7 (l b:Addr)(items items2:Array Value)(n n2:Nat):∀(ns ms:List Int) (vs ws:List Value) (i:Nat),IntsAre vs ns→IntsAre ws ms→items.toList.drop i=vs→items2.toList.drop i=ws→i≤items.size→i≤items2.size→
   Meets (Builtin.«list.__eq__.loop» ⟨[.ref l,.ref b,rawInt i,rawInt 0],[]⟩)
     (fun _ R s=>(ca2 s.heap l items n∧ca2 s.heap b items2 n2)∧R (.ok (.ret (.bool (ao3 ns ms)))) s):=by
 intro ns
 induction ns with
 |nil=>
  intro ms vs ws i hv hw e1 e2 i1 i2 prog w A R s h
  obtain ⟨h0,g0,d0,k0,o0⟩:=s
  obtain ⟨⟨hx,hy⟩,h⟩:=h
  cases hv
  obtain ⟨g1,z1⟩:=bl8 e1
  wp_walk using wpAny_loadPart' hx,wpAny_loadPart' hy
  rw[g1]
  cases hw with
  |nil=>
   obtain ⟨g2,z2⟩:=bl8 e2
   wp_walk using wpAny_loadPart' hx,wpAny_loadPart' hy
   show R (.ok (.ret (.bool (decide (items.size < items2.size))))) _
   rw[decide_eq_false (by omega)]
   exact h
  |cons c u hw'=>
   obtain ⟨g2,_,z2⟩:=ba2 e2
   wp_walk using wpAny_loadPart' hx,wpAny_loadPart' hy
   show R (.ok (.ret (.bool (decide (items.size < items2.size))))) _
   rw[decide_eq_true (by omega)]
   exact h
 |cons a ns ih=>
  intro ms vs ws i hv hw e1 e2 i1 i2 prog w A R s h
  obtain ⟨h0,g0,d0,k0,o0⟩:=s
  obtain ⟨⟨hx,hy⟩,h⟩:=h
  cases hv with
  |cons _ t hv'=>
   obtain ⟨g1,d1,z1⟩:=ba2 e1
   wp_walk using wpAny_loadPart' hx,wpAny_loadPart' hy
   rw[g1]
   cases hw with
   |nil=>
    obtain ⟨g2,z2⟩:=bl8 e2
    rw[g2]
    wp_walk using wpAny_loadPart' hx,wpAny_loadPart' hy
    show R (.ok (.ret (.bool (decide (items.size < items2.size))))) _
    rw[decide_eq_false (by omega)]
    exact h
   |cons c u hw'=>
    obtain ⟨g2,d2,z2⟩:=ba2 e2
    rw[g2]
    rw[by7] at h
    obtain ⟨e,he,hiff⟩:=ck8 A.in1 ⟨h0,g0,d0,k0,o0⟩ a t c u
    refine wpAny_bind (he prog w _ _ ?_)
    cases e with
    |true=>
     rw[if_pos (hiff.mp rfl)] at h
     wp_walk
     rw[show ((i:Int)+1)=((i+1:Nat):Int) from rfl]
     refine ⟨plainId_quiet plain_eq_loop _,codeAny_builtin entry_eq_loop ?_⟩
     (rw[Around.under_plainId plain_eq_loop _];exact ih _ _ _ (i+1) hv' hw' d1 d2 (by omega) (by omega) prog w A R _ ⟨⟨hx,hy⟩,h⟩)
    |false=>
     rw[if_neg (fun q=>absurd (hiff.mpr q) dq2)] at h
     have less:=ck9 A.in1 ⟨h0,g0,d0,k0,o0⟩ a t c u prog w
     wp_walk using wpAny_loadPart' hx,wpAny_loadPart' hy
     rw[g1,g2]
     wp_walk using less
     exact h
theorem db5 (l b:Addr)(items items2:Array Value)(n n2:Nat)(ns ms:List Int)(hi:IntsAre items.toList ns)(hj:IntsAre items2.toList ms):
   Meets (Builtin.«list.__lt__» ⟨[.ref l,.ref b],[]⟩)
     (fun _ R s=>(ca2 s.heap l items n∧ca2 s.heap b items2 n2)∧R (.ok (.ret (.bool (ao3 ns ms)))) s):=by
 intro prog w A R s h
 obtain ⟨h0,g0,d0,k0,o0⟩:=s
 obtain ⟨⟨hx,hy⟩,h⟩:=h
 have sub:=AutoSeq1.sub_list_list
 wp_walk using wpAny_loadPart' hx,wpAny_loadPart' hy
 refine ⟨plainId_quiet plain_eq_loop _,codeAny_builtin entry_eq_loop ?_⟩
 (rw[Around.under_plainId plain_eq_loop _];exact ct7 l b items items2 n n2 ns ms _ _ 0 hi hj rfl rfl (dq3 _) (dq3 _) prog w A R _ ⟨⟨hx,hy⟩,h⟩)
end HT
namespace L2
open PySem PySem.Spec PyProof.Rows
section
variable {prog:Program} {w:World} {A:Around} {E:Value→Shared→Prop} {s:Shared}
def ab7 (h:Heap)(v:Value)(ns:List Int):Prop:=∃p xs n,v= .ref p∧HT.ca2 h p xs n∧IntsAre xs.toList ns
theorem ax5 {α β:Type}{f:α→Sem β}(g:α→β):∀{vs:List α} {Q:List β→Shared→Prop},(∀v,v∈vs→∀R:β→Shared→Prop,R (g v) s→wpAny (model prog w) A (f v) R E s)→Q (vs.map g) s→wpAny (model prog w) A (vs.mapM f) Q E s
 |[],Q,_,q=>by rw[List.mapM_nil];exact wpAny_pure q
 |v::vs,Q,k,q=>by
  rw[List.mapM_cons]
  refine wpAny_bind (k v (do3 ..) _ ?_)
  refine wpAny_bind (ax5 g (fun u hu=>k u (do4 _ hu)) ?_)
  exact wpAny_pure q
theorem bl9 {α β:Type}{f:α→Sem β}(g:α→β){vs:List α}{Q:Array β→Shared→Prop}(k:∀v,v∈vs→∀R:β→Shared→Prop,R (g v) s→wpAny (model prog w) A (f v) R E s)(q:Q (vs.map g).toArray s):wpAny (model prog w) A (vs.toArray.mapM f) Q E s:=by
 rw[List.mapM_toArray,map_eq_pure_bind]
 exact wpAny_bind (ax5 g k (wpAny_pure q))
theorem ca3 (v:Value):firstOfTuple' v=(do
 if (←typeOf v)!= .type "tuple" then return none
 return (←Builtin.List.listItems v)[0]?):=rfl
theorem ch1 {v:Value}{ns:List Int}(r:ab7 s.heap v ns){Q:Option Value→Shared→Prop}(k:Q none s):wpAny (model prog w) A (firstOfTuple' v) Q E s:=by
 obtain ⟨p,xs,n,rfl,ox,ix⟩:=r
 rw[ca3]
 refine wpAny_bind (wpAny_typeOf (T:="list") ⟨_,ox,rfl⟩ ?_)
 rw[if_pos (by decide)]
 exact wpAny_pure k
theorem cn0 {v:Value}{ns:List Int}(r:ab7 s.heap v ns){Q:Value→Shared→Prop}(k:Q (.type "list") s):wpAny (model prog w) A (typeOf v) Q E s:=by
 obtain ⟨p,xs,n,rfl,ox,ix⟩:=r
 exact wpAny_typeOf (T:="list") ⟨_,ox,rfl⟩ k
theorem ch2 {v₁ v₂:Value}{vs:List Value}{Q:SortKind→Shared→Prop}(r:∀v,v∈v₁::v₂::vs→∃ns,ab7 s.heap v ns)(k:Q oneType' s):wpAny (model prog w) A (keyKind' (v₁::v₂::vs).toArray) Q E s:=by
 rw[keyKind'_eq]
 refine wpAny_bind (bl9 (fun _=>none) (fun v hv R q=>by obtain ⟨ns,z⟩:=r v hv;exact ch1 z q) ?_)
 rw[if_neg (by simp),if_neg (by simp)]
 rw[oneTypeOnly'_eq]
 refine wpAny_bind (wpAny_bind (bl9 (fun _=>Value.type "list") (fun v hv R q=>by obtain ⟨ns,z⟩:=r v hv;exact cn0 z q) ?_))
 have h0:(List.map (fun _=>Value.type "list") (v₁::v₂::vs)).toArray[0]? =some (Value.type "list"):=by simp
 rw[h0]
 dsimp only
 rw[if_pos (by
   simp only[List.all_toArray,List.all_map,dx8]
   intro _ _
   rfl)]
 exact wpAny_pure (wpAny_pure k)
theorem bf0 (vs:List Value):(pairsOf vs).map (·.2)=vs.toArray:=by
 apply Array.toList_inj.mp
 rw[eh6,pairsOf_toList]
 exact List.map_snd_zip (do1 _)
end
end L2
namespace L2
open PySem PySem.Spec PyProof.Rows
theorem ct8 {K:PySem.W.Frag}{H:Hp}{n:Nat}{a b:Addr}{xs ys:List V}{r:Bool}(ne:a≠b)(ha:g9 K H a xs)(hb:g9 K H b ys)(d:LEq K H n xs ys r):V7 K H (n+1) (.ref a) (.ref b) r:=by
 rcases d with ⟨hl,rfl⟩|⟨e,hl,he,rfl⟩
 · exact .lens ne ha hb hl
 · exact .lists e ne ha hb hl he
theorem cn1 {K:PySem.W.Frag}{H:Hp}{a b:Addr}{r q:List Int}(ha:H a=some (.lst (r.map V.int)))(hb:H b=some (.lst (q.map V.int))):V7 K H 1 (.ref a) (.ref b) (decide (r=q)):=by
 by_cases z:a=b
 · subst z
   rw[ha] at hb
   rw[decide_eq_true (ac4 (HO.lst.inj (Option.some.inj hb)))]
   exact .same a
 · exact ct8 z (g9.of ha) (g9.of hb) (U6 K H 0 r q)
def bh3 (H:Hp)(r:List Int):Value→Bool
 | .ref a=>decide (N0 H a=r)
 |_=>false
end L2
namespace TS
local macro_rules|`(tactic|omega)=>`(tactic|lia)
open PySem PyProof.Rows
section
variable (rk:Keyed→Nat)
def R (xs:Array Keyed)(i:Nat):Nat:=match xs[i]? with
 |some p=>rk p
 |none=>0
def Up (xs:Array Keyed)(lo hi:Nat):Prop:=∀i j,lo≤i→i≤j→j < hi→R rk xs i≤R rk xs j
def ba3 (xs:Array Keyed)(lo hi:Nat):Prop:=∀i j,lo≤i→i≤j→j < hi→R rk xs j≤R rk xs i
end
def A5 (xs ys:Array Keyed)(lo hi:Nat):Prop:=∀k,k < lo∨hi≤k→ys[k]? =xs[k]?
theorem A5.refl (xs:Array Keyed)(lo hi:Nat):A5 xs xs lo hi:=fun _ _=>rfl
theorem A5.trans {xs ys zs:Array Keyed}{lo hi:Nat}(h:A5 xs ys lo hi)(g:A5 ys zs lo hi):A5 xs zs lo hi:=fun k hk=>(g k hk).trans (h k hk)
theorem A5.wide {xs ys:Array Keyed}{lo hi lo' hi':Nat}(h:A5 xs ys lo hi)(h1:lo'≤lo)(h2:hi≤hi'):A5 xs ys lo' hi':=fun k hk=>h k (by omega)
section
variable {rk:Keyed→Nat}
theorem ba4 {xs ys:Array Keyed}{i j:Nat}(h:xs[i]? =ys[j]?):R rk xs i=R rk ys j:=by unfold R;rw[h]
theorem A5.R {xs ys:Array Keyed}{lo hi k:Nat}(h:A5 xs ys lo hi)(hk:k < lo∨hi≤k):TS.R rk ys k=TS.R rk xs k:=ba4 (h k hk)
theorem A5.up {xs ys:Array Keyed}{lo hi a b:Nat}(h:A5 xs ys lo hi)(u:Up rk xs a b)(hk:b≤lo∨hi≤a):Up rk ys a b:=fun i j h1 h2 h3=>by
 rw[h.R (by omega),h.R (by omega)];exact u i j h1 h2 h3
theorem bm0 {xs:Array Keyed}{src d:Nat}(hs:src < xs.size)(hd:d≤src)(k:Nat):
   R rk (bubble xs src d) k=if k=src - d then R rk xs src else if src - d < k∧k≤src then R rk xs (k - 1) else R rk xs k:=by
 have e:=getElem?_bubble hs d hd k
 split
 · rename_i h;rw[if_pos h] at e;exact ba4 e
 · rename_i h
   rw[if_neg h] at e
   split
   · rename_i h2;rw[if_pos h2] at e;exact ba4 e
   · rename_i h2;rw[if_neg h2] at e;exact ba4 e
theorem br6 {xs:Array Keyed}{src d lo hi:Nat}(hs:src < xs.size)(hd:d≤src)(h1:lo≤src - d)(h2:src < hi):A5 xs (bubble xs src d) lo hi:=fun k hk=>by
 rw[getElem?_bubble hs d hd k,if_neg (by omega),if_neg (by omega)]
theorem as1 {xs:Array Keyed}{i j:Nat}(hj:j≤xs.size)(k:Nat):R rk (mirror xs i j ((j - i)/2)) k=if i≤k∧k < j then R rk xs (i+j - 1 - k) else R rk xs k:=by
 have e:=getElem?_mirror_all (i:=i) hj k
 split
 · rename_i h;rw[if_pos h] at e;exact ba4 e
 · rename_i h;rw[if_neg h] at e;exact ba4 e
theorem V5 {xs:Array Keyed}{i j lo hi:Nat}(hj:j≤xs.size)(h1:lo≤i)(h2:j≤hi):A5 xs (mirror xs i j ((j - i)/2)) lo hi:=fun k hk=>by
 rw[getElem?_mirror_all hj k,if_neg (by omega)]
theorem M6 {xs:Array Keyed}{i j:Nat}(hj:j≤xs.size)(h:∀k,i≤k→k < j→R rk xs k=R rk xs (j - 1))(k:Nat):R rk (mirror xs i j ((j - i)/2)) k=R rk xs k:=by
 rw[as1 hj]
 split
 · rw[h _ (by omega) (by omega),h k (by omega) (by omega)]
 · rfl
end
structure Bs (a0:Array Keyed)(κ:SortKind)(st:SortSt):Prop where
 perm:(arrOf st).Perm a0
 kind:kindOf st=κ
 ok:failedOf st=none
theorem Bs.size {a0:Array Keyed}{κ:SortKind}{st:SortSt}(h:Bs a0 κ st):(arrOf st).size=a0.size:=h.perm.size_eq
theorem Bs.set {a0:Array Keyed}{κ:SortKind}{st:SortSt}(h:Bs a0 κ st){xs:Array Keyed}(hp:xs.Perm (arrOf st)):Bs a0 κ (setArr st xs):=⟨hp.trans h.perm,h.kind,h.ok⟩
theorem Bs.mem {a0:Array Keyed}{κ:SortKind}{st:SortSt}(h:Bs a0 κ st){i:Nat}(hi:i < a0.size):∃p,(arrOf st)[i]? =some p∧p∈a0.toList:=by
 have hi':i < (arrOf st).size:=by rw[h.size];exact hi
 exact ⟨(arrOf st)[i],getElem?_pos _ i hi',(dx6.mp h.perm).mem_iff.mp (by simp)⟩
section
variable {prog:Program} {w:World} {A:Around} {E:Value→Shared→Prop} {s:Shared}
def Cm (prog:Program)(w:World)(A:Around)(s:Shared)(κ:SortKind)(rk:Keyed→Nat)(a0:Array Keyed):Prop:=
 ∀x∈a0.toList,∀y∈a0.toList,∀(Q:Bool→Shared→Prop) (E':Value→Shared→Prop),Q (decide (rk x < rk y)) s→wpAny (model prog w) A (keyLt' κ x.1 y.1) Q E' s
variable {rk:Keyed→Nat} {a0:Array Keyed} {κ:SortKind}
theorem ax6 {st:SortSt}{x y:Keyed}{Q:Option Bool→SortSt→Prop}(C:Cm prog w A s κ rk a0)(hk:kindOf st=κ)(hx:x∈a0.toList)(hy:y∈a0.toList)(h:Q (some (decide (rk x < rk y))) st):
   wpS (model prog w) A E s (lt' x y) Q st:=by
 rw[lt'_eq]
 refine wpS_bind (wpS_get ?_)
 rw[hk]
 exact wpS_bind (wpS_lift (wpAny_attempt (C x hx y hy _ _ ⟨rfl,wpS_pure h⟩)))
theorem Y5 {st:SortSt}{i j:Nat}{Q:Option Bool→SortSt→Prop}(C:Cm prog w A s κ rk a0)(B:Bs a0 κ st)(hi:i < a0.size)(hj:j < a0.size)(h:Q (some (decide (R rk (arrOf st) i < R rk (arrOf st) j))) st):
   wpS (model prog w) A E s (ltAt' i j) Q st:=by
 obtain ⟨x,ex,mx⟩:=B.mem hi
 obtain ⟨y,ey,my⟩:=B.mem hj
 rw[ltAt'_eq]
 refine wpS_bind (wpS_get ?_)
 show wpS _ _ _ _ (do let u ←elem' (arrOf st) i;let v ←elem' (arrOf st) j;lt' u v) Q st
 rw[elem'_eq,elem'_eq,ex,ey]
 refine wpS_bind (wpS_pure (wpS_bind (wpS_pure (ax6 C B.kind mx my ?_))))
 unfold R at h
 rw[ex,ey] at h
 exact h
theorem ax7 {st:SortSt}{i j:Nat}{Q:Unit→SortSt→Prop}(h:Q () (setArr st (mirror (arrOf st) i j ((j - i)/2)))):wpS (model prog w) A E s (reverseSlice' i j) Q st:=by
 rw[reverseSlice'_eq];exact wpS_modify h
theorem db6 {st:SortSt}{lo n ok:Nat}{Q:Bool→SortSt→Prop}(C:Cm prog w A s κ rk a0)(hn:lo+n≤a0.size)(hok:ok≤n)(B:Bs a0 κ st)(hs:Up rk (arrOf st) lo (lo+ok))
   (h:∀st',Bs a0 κ st'→Up rk (arrOf st') lo (lo+n)→A5 (arrOf st) (arrOf st') lo (lo+n)→pendingOf st'=pendingOf st→Q true st'):wpS (model prog w) A E s (binarySort' lo n ok) Q st:=by
 rw[binarySort'_eq]
 refine wpS_bind (wpS_mono (wpS_forRange (I:=fun k c t=>c=(none,())∧Bs a0 κ t∧Up rk (arrOf t) lo (lo+min k n)∧A5 (arrOf st) (arrOf t) lo (lo+n)∧pendingOf t=pendingOf st)
   (Q:=fun c t=>c=(none,())∧Bs a0 κ t∧Up rk (arrOf t) lo (lo+n)∧A5 (arrOf st) (arrOf t) lo (lo+n)∧pendingOf t=pendingOf st) ?step ?fin ?init) ?post)
 case post=>
   rintro c t ⟨rfl,B',u,k,p⟩
   exact wpS_pure (h t B' u k p)
 case init=>
   refine ⟨rfl,B,fun i j h1 h2 h3=> ?_,A5.refl _ _ _,rfl⟩
   by_cases z:ok=0
   · have:i=j:=by omega
     rw[this];exact do1 _
   · exact hs i j h1 h2 (by omega)
 case fin=>
   rintro c t ⟨hc,B',u,k,p⟩
   refine ⟨hc,B',?_,k,p⟩
   rwa [show min (max (max ok 1) n) n=n by omega] at u
 case step=>
   rintro k c t h1 h2 ⟨rfl,B',u,kp,pe⟩
   rw[show min k n=k by omega] at u
   refine wpS_bind (wpS_mono (wpS_forRange (I:=fun x c t'=>t'=t∧∃l r,c=(none,l,r)∧l≤r∧r≤k∧r - l≤k - x∧
       (∀i,i < l→R rk (arrOf t) (lo+i)≤R rk (arrOf t) (lo+k))∧(∀i,r≤i→i < k→R rk (arrOf t) (lo+k) < R rk (arrOf t) (lo+i)))
     (Q:=fun c t'=>t'=t∧∃l r,c=(none,l,r)∧l≤k∧(∀i,i < l→R rk (arrOf t) (lo+i)≤R rk (arrOf t) (lo+k))∧(∀i,l≤i→i < k→R rk (arrOf t) (lo+k) < R rk (arrOf t) (lo+i))) ?st2 ?fin2 ?init2) ?post2)
   case init2=>exact ⟨rfl,0,k,rfl,by omega,by omega,by omega,fun i hi=>by omega,fun i h1 h2=>by omega⟩
   case fin2=>
     rintro c t' ⟨rfl,l,r,rfl,a1,a2,a3,a4,a5⟩
     have:l=r:=by omega
     subst this
     exact ⟨rfl,l,l,rfl,a2,a4,a5⟩
   case st2=>
     rintro x c t' _ hx ⟨rfl,l,r,rfl,a1,a2,a3,a4,a5⟩
     dsimp only
     by_cases z:l≥r
     · rw[if_pos z]
       have:l=r:=by omega
       subst this
       exact wpS_pure ⟨rfl,l,l,rfl,a2,a4,a5⟩
     · rw[if_neg z]
       refine wpS_bind (Y5 C B' (by omega) (by omega) ?_)
       by_cases y:R rk (arrOf t') (lo+k) < R rk (arrOf t') (lo+(l+r)/2)
       · simp only[y,decide_true,if_true]
         refine wpS_pure ⟨rfl,l,(l+r)/2,rfl,by omega,by omega,by omega,a4,fun i b1 b2=> ?_⟩
         have:=u (lo+(l+r)/2) (lo+i) (by omega) (by omega) (by omega)
         omega
       · simp only[y,decide_false,dw6,if_false]
         refine wpS_pure ⟨rfl,(l+r)/2+1,r,rfl,by omega,by omega,by omega,fun i b1=> ?_,a5⟩
         have:=u (lo+i) (lo+(l+r)/2) (by omega) (by omega) (by omega)
         omega
   case post2=>
     rintro c t' ⟨rfl,l,r,rfl,a1,a2,a3⟩
     show wpS _ _ _ _ (do moveDown' (lo+k) (lo+l);pure (ForInStep.yield (none,()))) _ _
     rw[moveDown'_eq]
     have hz:lo+k < (arrOf t').size:=by rw[B'.size];omega
     refine wpS_bind (wpS_modify (wpS_pure ⟨rfl,B'.set (bubble_perm _ _ _),?_,kp.trans (br6 hz (by omega) (by omega) (by omega)),pe⟩))
     rw[show min (k+1) n=k+1 by omega]
     intro i j b1 b2 b3
     show R rk (bubble (arrOf t') (lo+k) (lo+k - (lo+l))) i≤R rk (bubble (arrOf t') (lo+k) (lo+k - (lo+l))) j
     have f1:∀i,lo≤i→i < lo+l→R rk (arrOf t') i≤R rk (arrOf t') (lo+k):=fun i c1 c2=>by have:=a2 (i - lo) (by omega);rwa [show lo+(i - lo)=i by omega] at this
     have f2:∀i,lo+l≤i→i < lo+k→R rk (arrOf t') (lo+k) < R rk (arrOf t') i:=fun i c1 c2=>by have:=a3 (i - lo) (by omega) (by omega);rwa [show lo+(i - lo)=i by omega] at this
     rw[bm0 hz (by omega),bm0 hz (by omega),show lo+k - (lo+k - (lo+l))=lo+l by omega]
     repeat' split
     all_goals first
       |(exfalso;omega)
       |exact do1 _
       |exact f1 _ (by omega) (by omega)
       |exact du2 (f2 _ (by omega) (by omega))
       |exact u _ _ (by omega) (by omega) (by omega)
end
end TS
namespace TS
local macro_rules|`(tactic|omega)=>`(tactic|lia)
open PySem PyProof.Rows
section
variable {prog:Program} {w:World} {A:Around} {E:Value→Shared→Prop} {s:Shared}
variable {rk:Keyed→Nat} {a0:Array Keyed} {κ:SortKind}
theorem ch3 {xs:Array Keyed}{lo x:Nat}(u:Up rk xs lo (lo+x))(x1:1≤x)(h:¬R rk xs (lo+x) < R rk xs (lo+x - 1)):Up rk xs lo (lo+(x+1)):=fun i j h1 h2 h3=>by
 by_cases hj:j < lo+x
 · exact u i j h1 h2 hj
 · have e:j=lo+x:=by omega
   subst e
   by_cases hi:i=lo+x
   · rw[hi];exact do1 _
   · have:=u i (lo+x - 1) h1 (by omega) (by omega)
     omega
theorem Z7 {xs:Array Keyed}{lo x:Nat}(u:ba3 rk xs lo (lo+x))(x1:1≤x)(h:R rk xs (lo+x)≤R rk xs (lo+x - 1)):ba3 rk xs lo (lo+(x+1)):=fun i j h1 h2 h3=>by
 by_cases hj:j < lo+x
 · exact u i j h1 h2 hj
 · have e:j=lo+x:=by omega
   subst e
   by_cases hi:i=lo+x
   · rw[hi];exact do1 _
   · have:=u i (lo+x - 1) h1 (by omega) (by omega)
     omega
def cn2 (a0:Array Keyed)(κ:SortKind)(rk:Keyed→Nat)(lo nrem:Nat)(st:SortSt)(r:Option Nat)(t:SortSt):Prop:=
 ∃m,r=some m∧Bs a0 κ t∧1≤m∧m≤nrem∧Up rk (arrOf t) lo (lo+m)∧A5 (arrOf st) (arrOf t) lo (lo+nrem)∧pendingOf t=pendingOf st
theorem db7 {st:SortSt}{lo nrem:Nat}(C:Cm prog w A s κ rk a0)(hn:lo+nrem≤a0.size)(n1:1≤nrem)(B:Bs a0 κ st):wpS (model prog w) A E s (countRun' lo nrem) (cn2 a0 κ rk lo nrem st) st:=by
 rw[countRun'_eq]
 refine wpS_bind (wpS_mono (wpS_forRange (I:=fun x c t=>t=st∧c=(none,x)∧Up rk (arrOf st) lo (lo+x))
   (Q:=fun c t=>t=st∧∃n,c=(none,n)∧1≤n∧n≤nrem∧Up rk (arrOf st) lo (lo+n)∧(n=nrem∨R rk (arrOf st) (lo+n) < R rk (arrOf st) (lo+n - 1))) ?step ?fin
   ⟨rfl,rfl,fun i j h1 h2 h3=>by rw[show i=j by omega];exact do1 _⟩) ?post)
 case fin=>
   rintro c t ⟨rfl,rfl,u⟩
   rw[show max 1 nrem=nrem by omega] at u ⊢
   exact ⟨rfl,nrem,rfl,n1,do1 _,u,.inl rfl⟩
 case step=>
   rintro x c t x1 xn ⟨rfl,rfl,u⟩
   dsimp only
   refine wpS_bind (Y5 C B (by omega) (by omega) ?_)
   by_cases y:R rk (arrOf t) (lo+x) < R rk (arrOf t) (lo+x - 1)
   · simp only[y,decide_true,if_true]
     exact wpS_pure ⟨rfl,x,rfl,x1,by omega,u,.inr y⟩
   · simp only[y,decide_false,dw6,if_false]
     exact wpS_pure ⟨rfl,rfl,ch3 u x1 y⟩
 case post=>
   rintro c t ⟨rfl,n,rfl,m1,mn,u,hor⟩
   dsimp only
   by_cases z:n=nrem
   · rw[if_pos (by simpa using z)]
     exact wpS_pure ⟨n,rfl,B,m1,mn,u,A5.refl _ _ _,rfl⟩
   · rw[if_neg (by simpa using z)]
     have lt:=hor.resolve_left z
     suffices D:∀t',Bs a0 κ t'→ba3 rk (arrOf t') lo (lo+(n+1))→A5 (arrOf t) (arrOf t') lo (lo+nrem)→pendingOf t'=pendingOf t→wpS (model prog w) A E s _ (cn2 a0 κ rk lo nrem t) t' by
       by_cases g:n > 1
       · rw[if_pos g]
         refine wpS_bind (Y5 C B (by omega) (by omega) ?_)
         by_cases y:R rk (arrOf t) lo < R rk (arrOf t) (lo+n - 1)
         · simp only[y,decide_true,if_true]
           exact wpS_pure ⟨n,rfl,B,m1,mn,u,A5.refl _ _ _,rfl⟩
         · simp only[y,decide_false,dw6,if_false]
           have hz:lo+n≤(arrOf t).size:=by rw[B.size];omega
           have all:∀k,lo≤k→k < lo+n→R rk (arrOf t) k=R rk (arrOf t) (lo+n - 1):=fun k h1 h2=>by
             have a1:=u lo k (by omega) h1 h2
             have a2:=u k (lo+n - 1) h1 (by omega) (by omega)
             omega
           refine wpS_bind (ax7 (D _ (B.set (mirror_perm _ _ _ _)) ?_ (V5 hz (do1 _) (by omega)) rfl))
           refine Z7 (fun i j h1 h2 h3=> ?_) m1 ?_
           · show R rk (mirror (arrOf t) _ _ _) j≤R rk (mirror (arrOf t) _ _ _) i
             rw[M6 hz all,M6 hz all,all i h1 (by omega),all j (by omega) h3]
             exact do1 _
           · show R rk (mirror (arrOf t) _ _ _) _≤R rk (mirror (arrOf t) _ _ _) _
             rw[M6 hz all,M6 hz all]
             omega
       · rw[if_neg g]
         refine D _ B (Z7 (fun i j h1 h2 h3=>by rw[show i=j by omega];exact do1 _) m1 (by omega)) (A5.refl _ _ _) rfl
     intro t1 B1 d1 k1 p1
     refine wpS_bind (wpS_lift (wpAny_rule ⟨rfl,?_⟩))
     refine wpS_bind (wpS_mono (wpS_forRange (I:=fun x c t'=>∃q,c=(none,x,q)∧Bs a0 κ t'∧ba3 rk (arrOf t') lo (lo+x)∧q+1≤x∧(∀i,lo+x - (q+1)≤i→i < lo+x→R rk (arrOf t') i=R rk (arrOf t') (lo+x - 1))∧A5 (arrOf t) (arrOf t') lo (lo+nrem)∧pendingOf t'=pendingOf t)
       (Q:=fun c t'=>∃x q,c=(none,x,q)∧n+1≤x∧x≤nrem∧Bs a0 κ t'∧ba3 rk (arrOf t') lo (lo+x)∧q+1≤x∧(∀i,lo+x - (q+1)≤i→i < lo+x→R rk (arrOf t') i=R rk (arrOf t') (lo+x - 1))∧A5 (arrOf t) (arrOf t') lo (lo+nrem)∧pendingOf t'=pendingOf t) ?step2 ?fin2
       ⟨0,rfl,B1,d1,by omega,(fun i h1 h2=>by rw[show i=lo+(n+1) - 1 by omega]),k1,p1⟩) ?post2)
     case fin2=>
       rintro c t' ⟨q,rfl,B',d,q1,al,k,p⟩
       rw[show max (n+1) nrem=nrem by omega] at d q1 al ⊢
       exact ⟨nrem,q,rfl,by omega,do1 _,B',d,q1,al,k,p⟩
     case step2=>
       rintro x c t' x1 xn ⟨q,rfl,B',d,q1,al,k,p⟩
       dsimp only
       have hz:lo+x≤(arrOf t').size:=by rw[B'.size];omega
       refine wpS_bind (Y5 C B' (by omega) (by omega) ?_)
       by_cases y:R rk (arrOf t') (lo+x) < R rk (arrOf t') (lo+x - 1)
       · simp only[y,decide_true,if_true]
         by_cases g:q > 0
         · rw[if_pos g]
           refine wpS_bind (ax7 (wpS_pure ⟨0,rfl,B'.set (mirror_perm _ _ _ _),?_,by omega,(fun i h1 h2=>by rw[show i=lo+(x+1) - 1 by omega]),k.trans (V5 hz (by omega) (by omega)),p⟩))
           refine Z7 (fun i j h1 h2 h3=> ?_) (by omega) ?_
           · show R rk (mirror (arrOf t') _ _ _) j≤R rk (mirror (arrOf t') _ _ _) i
             rw[M6 hz al,M6 hz al]
             exact d i j h1 h2 h3
           · show R rk (mirror (arrOf t') _ _ _) _≤R rk (mirror (arrOf t') _ _ _) _
             rw[M6 hz al,M6 hz al]
             omega
         · rw[if_neg g]
           exact wpS_pure ⟨0,rfl,B',Z7 d (by omega) (by omega),by omega,(fun i h1 h2=>by rw[show i=lo+(x+1) - 1 by omega]),k,p⟩
       · simp only[y,decide_false,dw6,if_false]
         refine wpS_bind (Y5 C B' (by omega) (by omega) ?_)
         by_cases g:R rk (arrOf t') (lo+x - 1) < R rk (arrOf t') (lo+x)
         · simp only[g,decide_true,if_true]
           exact wpS_pure ⟨x,q,rfl,x1,by omega,B',d,q1,al,k,p⟩
         · simp only[g,decide_false,dw6,if_false]
           have e:R rk (arrOf t') (lo+x)=R rk (arrOf t') (lo+x - 1):=by omega
           refine wpS_pure ⟨q+1,rfl,B',Z7 d (by omega) (by omega),by omega,fun i h1 h2=> ?_,k,p⟩
           rw[show lo+(x+1) - 1=lo+x by omega]
           by_cases hi:i=lo+x
           · rw[hi]
           · rw[e];exact al i (by omega) (by omega)
     case post2=>
       rintro c t2 ⟨x,q,rfl,x1,xn,B2,d,q1,al,k2,p2⟩
       dsimp only
       have hz:lo+x≤(arrOf t2).size:=by rw[B2.size];omega
       suffices T:∀t3,Bs a0 κ t3→ba3 rk (arrOf t3) lo (lo+x)→A5 (arrOf t) (arrOf t3) lo (lo+nrem)→pendingOf t3=pendingOf t→wpS (model prog w) A E s _ (cn2 a0 κ rk lo nrem t) t3 by
         by_cases g:q > 0
         · rw[if_pos g]
           refine wpS_bind (ax7 (T _ (B2.set (mirror_perm _ _ _ _)) (fun i j h1 h2 h3=> ?_) (k2.trans (V5 hz (by omega) (by omega))) p2))
           show R rk (mirror (arrOf t2) _ _ _) j≤R rk (mirror (arrOf t2) _ _ _) i
           rw[M6 hz al,M6 hz al]
           exact d i j h1 h2 h3
         · rw[if_neg g]
           exact T _ B2 d k2 p2
       intro t3 B3 d3 k3 p3
       have hz3:lo+x≤(arrOf t3).size:=by rw[B3.size];omega
       refine wpS_bind (ax7 ?_)
       have B4:=B3.set (mirror_perm (arrOf t3) lo (lo+x) ((lo+x - lo)/2))
       have u4:Up rk (arrOf (setArr t3 (mirror (arrOf t3) lo (lo+x) ((lo+x - lo)/2)))) lo (lo+x):=fun i j h1 h2 h3=>by
         show R rk (mirror (arrOf t3) _ _ _) i≤R rk (mirror (arrOf t3) _ _ _) j
         rw[as1 hz3,as1 hz3,if_pos (by omega),if_pos (by omega)]
         exact d3 _ _ (by omega) (by omega) (by omega)
       have k4:A5 (arrOf t) (arrOf (setArr t3 (mirror (arrOf t3) lo (lo+x) ((lo+x - lo)/2)))) lo (lo+nrem):=k3.trans (V5 hz3 (do1 _) (by omega))
       have p4:pendingOf (setArr t3 (mirror (arrOf t3) lo (lo+x) ((lo+x - lo)/2)))=pendingOf t:=p3
       generalize setArr t3 (mirror (arrOf t3) lo (lo+x) ((lo+x - lo)/2))=t4 at B4 u4 k4 p4 ⊢
       refine wpS_bind (wpS_mono (wpS_forRange (I:=fun y c t'=>t'=t4∧c=(none,y)∧Up rk (arrOf t4) lo (lo+y)) (Q:=fun c t'=>t'=t4∧∃y,c=(none,y)∧x≤y∧y≤nrem∧Up rk (arrOf t4) lo (lo+y)) ?step3 ?fin3 ⟨rfl,rfl,u4⟩) ?post3)
       case fin3=>
         rintro c t' ⟨rfl,rfl,v⟩
         rw[show max x nrem=nrem by omega] at v ⊢
         exact ⟨rfl,nrem,rfl,xn,do1 _,v⟩
       case step3=>
         rintro y c t' y1 yn ⟨rfl,rfl,v⟩
         dsimp only
         refine wpS_bind (Y5 C B4 (by omega) (by omega) ?_)
         by_cases g:R rk (arrOf t') (lo+y) < R rk (arrOf t') (lo+y - 1)
         · simp only[g,decide_true,if_true]
           exact wpS_pure ⟨rfl,y,rfl,y1,by omega,v⟩
         · simp only[g,decide_false,dw6,if_false]
           exact wpS_pure ⟨rfl,rfl,ch3 v (by omega) g⟩
       case post3=>
         rintro c t' ⟨rfl,y,rfl,y1,yn,v⟩
         exact wpS_pure ⟨y,rfl,B4,by omega,yn,v,k4,p4⟩
end
end TS
namespace TS
local macro_rules|`(tactic|omega)=>`(tactic|lia)
open PySem PyProof.Rows
def gal:Bool→Keyed→Array Keyed→Nat→Nat→Nat→StateT SortSt Sem (Option Nat):=sortPriv%PySem.Builtin.gallop
section
variable {prog:Program} {w:World} {A:Around} {E:Value→Shared→Prop} {s:Shared}
variable {rk:Keyed→Nat} {a0:Array Keyed} {κ:SortKind}
def B5 (rk:Keyed→Nat)(left:Bool)(key:Keyed)(arr:Array Keyed)(base i:Nat):Bool:=if left then decide (R rk arr (base+i) < rk key) else !decide (rk key < R rk arr (base+i))
theorem O1 {left:Bool}{key:Keyed}{arr:Array Keyed}{base n i j:Nat}(u:Up rk arr base (base+n))(h1:i≤j)(h2:j < n)(h:B5 rk left key arr base j=true):B5 rk left key arr base i=true:=by
 have:=u (base+i) (base+j) (by omega) (by omega) (by omega)
 unfold B5 at h ⊢
 cases left
 · simp at h ⊢;omega
 · simp at h ⊢;omega
theorem y9 {arr:Array Keyed}{i:Nat}{st:SortSt}{Q:Keyed→SortSt→Prop}{p:Keyed}(h:arr[i]? =some p)(q:Q p st):wpS (model prog w) A E s (elem' arr i) Q st:=by
 rw[elem'_eq,h];exact wpS_pure q
def In0 (a0 arr:Array Keyed):Prop:=∀x∈arr.toList,x∈a0.toList
theorem In0.at {arr:Array Keyed}(h:In0 a0 arr){i:Nat}(hi:i < arr.size):∃p,arr[i]? =some p∧p∈a0.toList:=⟨arr[i],getElem?_pos _ i hi,h _ (by simp)⟩
theorem E5 {arr:Array Keyed}{i:Nat}{p:Keyed}(h:arr[i]? =some p):R rk arr i=rk p:=by unfold R;rw[h]
theorem af0 {st:SortSt}{left:Bool}{key:Keyed}{arr:Array Keyed}{base n hint:Nat}{Q:Option Nat→SortSt→Prop}(C:Cm prog w A s κ rk a0)(hk:kindOf st=κ)(ia:In0 a0 arr)(ik:key∈a0.toList)(hz:base+n≤arr.size)(hh:hint < n)
   (u:Up rk arr base (base+n)) (h:∀k,k≤n→(∀i,i < k→B5 rk left key arr base i=true)→(∀i,k≤i→i < n→B5 rk left key arr base i=false)→Q (some k) st):wpS (model prog w) A E s (gal left key arr base n hint) Q st:=by
 have by0:∀(i:Nat) (Q':Option Bool→SortSt→Prop),i < n→Q' (some (B5 rk left key arr base i)) st→wpS (model prog w) A E s (do let x ←elem' arr (base+i);if left then lt' x key else return (←lt' key x).map (!·)) Q' st:=by
   intro i Q' hi q
   obtain ⟨p,e,m⟩:=ia.at (show base+i < arr.size by omega)
   refine wpS_bind (y9 e ?_)
   unfold B5 at q
   rw[E5 e] at q
   cases left with
   |true=>
    rw[if_pos rfl] at q ⊢
    exact ax6 C hk m ik q
   |false=>
    rw[if_neg (by decide)] at q ⊢
    exact wpS_bind (ax6 C hk ik m (wpS_pure q))
 refine wpS_bind (by0 hint _ hh ?_)
 cases hr:B5 rk left key arr base hint with
 |true=>
  dsimp only
  rw[if_pos rfl]
  refine wpS_bind (wpS_mono (wpS_forRange (I:=fun x c t=>t=st∧∃l o,c=(none,l,o)∧l < o∧l < n - hint∧x+1≤o∧B5 rk left key arr base (hint+l)=true)
    (Q:=fun c t=>t=st∧∃l o,c=(none,l,o)∧l < o∧l < n - hint∧B5 rk left key arr base (hint+l)=true∧(n - hint≤o∨B5 rk left key arr base (hint+o)=false)) ?step ?fin ⟨rfl,0,1,rfl,by omega,by omega,by omega,hr⟩) ?post)
  case fin=>
    rintro c t ⟨rfl,l,o,rfl,a1,a2,a3,a4⟩
    exact ⟨rfl,l,o,rfl,a1,a2,a4,.inl (by omega)⟩
  case step=>
    rintro x c t _ xn ⟨rfl,l,o,rfl,a1,a2,a3,a4⟩
    dsimp only
    by_cases z:o≥n - hint
    · rw[if_pos z]
      exact wpS_pure ⟨rfl,l,o,rfl,a1,a2,a4,.inl z⟩
    · rw[if_neg z]
      refine wpS_bind (by0 (hint+o) _ (by omega) ?_)
      cases y:B5 rk left key arr base (hint+o) with
      |true=>
       dsimp only
       rw[if_neg (by decide)]
       exact wpS_pure ⟨rfl,_,_,rfl,by omega,by omega,by omega,y⟩
      |false=>
       dsimp only
       rw[if_pos (by decide)]
       exact wpS_pure ⟨rfl,l,o,rfl,a1,a2,a4,.inr y⟩
  case post=>
    rintro c t ⟨ht,l,o,rfl,a1,a2,a3,a4⟩
    obtain rfl:=ht.symm
    dsimp only
    have le1:hint+l+1≤hint+min o (n - hint):=by omega
    have le2:hint+min o (n - hint)≤n:=by omega
    have b1:∀i,i < hint+l+1→B5 rk left key arr base i=true:=fun i h1=>O1 u (show i≤hint+l by omega) (by omega) a3
    have b2:∀i,hint+min o (n - hint)≤i→i < n→B5 rk left key arr base i=false:=fun i h1 h2=>by
      rcases a4 with a4|a4
      · omega
      · cases y':B5 rk left key arr base i with
        |false=>rfl
        |true=>rw[O1 u (show hint+o≤i by omega) h2 y'] at a4;cases a4
    refine wpS_bind (wpS_mono (wpS_forRange (I:=fun x c t=>t=st∧∃lo hi,c=(none,lo,hi)∧lo≤hi∧hi≤n∧hi - lo≤n - x∧(∀i,i < lo→B5 rk left key arr base i=true)∧(∀i,hi≤i→i < n→B5 rk left key arr base i=false))
      (Q:=fun c t=>t=st∧∃lo hi,c=(none,lo,hi)∧hi≤n∧(∀i,i < hi→B5 rk left key arr base i=true)∧(∀i,hi≤i→i < n→B5 rk left key arr base i=false)) ?stepB ?finB ⟨rfl,_,_,rfl,le1,le2,by omega,b1,b2⟩) ?postB)
    case finB=>
      rintro c t ⟨rfl,lo,hi,rfl,a1,a2,a3,a4,a5⟩
      rw[show lo=hi by omega] at a4
      exact ⟨rfl,lo,hi,rfl,a2,a4,a5⟩
    case stepB=>
      rintro x c t _ xn ⟨rfl,lo,hi,rfl,a1,a2,a3,a4,a5⟩
      dsimp only
      by_cases z:lo≥hi
      · rw[if_pos z]
        rw[show lo=hi by omega] at a4
        exact wpS_pure ⟨rfl,lo,hi,rfl,a2,a4,a5⟩
      · rw[if_neg z]
        refine wpS_bind (by0 (lo+(hi - lo)/2) _ (by omega) ?_)
        cases y:B5 rk left key arr base (lo+(hi - lo)/2) with
        |true=>
         dsimp only
         rw[if_pos rfl]
         exact wpS_pure ⟨rfl,_,_,rfl,by omega,a2,by omega,fun i h1=>O1 u (show i≤lo+(hi - lo)/2 by omega) (by omega) y,a5⟩
        |false=>
         dsimp only
         rw[if_neg (by decide)]
         refine wpS_pure ⟨rfl,_,_,rfl,by omega,by omega,by omega,a4,fun i h1 h2=> ?_⟩
         cases y':B5 rk left key arr base i with
         |false=>rfl
         |true=>rw[O1 u h1 h2 y'] at y;cases y
    case postB=>
      rintro c t ⟨rfl,lo,hi,rfl,a1,a2,a3⟩
      exact wpS_pure (h hi a1 a2 a3)
 |false=>
  dsimp only
  rw[if_neg (by decide)]
  refine wpS_bind (wpS_mono (wpS_forRange (I:=fun x c t=>t=st∧∃l o,c=(none,l,o)∧l < o∧l < hint+1∧x+1≤o∧B5 rk left key arr base (hint - l)=false)
    (Q:=fun c t=>t=st∧∃l o,c=(none,l,o)∧l < o∧l < hint+1∧B5 rk left key arr base (hint - l)=false∧(hint+1≤o∨B5 rk left key arr base (hint - o)=true)) ?step ?fin ⟨rfl,0,1,rfl,by omega,by omega,by omega,hr⟩) ?post)
  case fin=>
    rintro c t ⟨rfl,l,o,rfl,a1,a2,a3,a4⟩
    exact ⟨rfl,l,o,rfl,a1,a2,a4,.inl (by omega)⟩
  case step=>
    rintro x c t _ xn ⟨rfl,l,o,rfl,a1,a2,a3,a4⟩
    dsimp only
    by_cases z:o≥hint+1
    · rw[if_pos z]
      exact wpS_pure ⟨rfl,l,o,rfl,a1,a2,a4,.inl z⟩
    · rw[if_neg z]
      refine wpS_bind (by0 (hint - o) _ (by omega) ?_)
      cases y:B5 rk left key arr base (hint - o) with
      |false=>
       dsimp only
       rw[if_neg (by decide)]
       exact wpS_pure ⟨rfl,_,_,rfl,by omega,by omega,by omega,y⟩
      |true=>
       dsimp only
       rw[if_pos rfl]
       exact wpS_pure ⟨rfl,l,o,rfl,a1,a2,a4,.inr y⟩
  case post=>
    rintro c t ⟨ht,l,o,rfl,a1,a2,a3,a4⟩
    obtain rfl:=ht.symm
    dsimp only
    have le1:hint+1 - min o (hint+1)≤hint - l:=by omega
    have le2:hint - l≤n:=by omega
    have b1:∀i,i < hint+1 - min o (hint+1)→B5 rk left key arr base i=true:=fun i h1=>by
      rcases a4 with a4|a4
      · omega
      · exact O1 u (show i≤hint - o by omega) (by omega) a4
    have b2:∀i,hint - l≤i→i < n→B5 rk left key arr base i=false:=fun i h1 h2=>by
      cases y':B5 rk left key arr base i with
      |false=>rfl
      |true=>rw[O1 u h1 h2 y'] at a3;cases a3
    refine wpS_bind (wpS_mono (wpS_forRange (I:=fun x c t=>t=st∧∃lo hi,c=(none,lo,hi)∧lo≤hi∧hi≤n∧hi - lo≤n - x∧(∀i,i < lo→B5 rk left key arr base i=true)∧(∀i,hi≤i→i < n→B5 rk left key arr base i=false))
      (Q:=fun c t=>t=st∧∃lo hi,c=(none,lo,hi)∧hi≤n∧(∀i,i < hi→B5 rk left key arr base i=true)∧(∀i,hi≤i→i < n→B5 rk left key arr base i=false)) ?stepB ?finB ⟨rfl,_,_,rfl,le1,le2,by omega,b1,b2⟩) ?postB)
    case finB=>
      rintro c t ⟨rfl,lo,hi,rfl,a1,a2,a3,a4,a5⟩
      rw[show lo=hi by omega] at a4
      exact ⟨rfl,lo,hi,rfl,a2,a4,a5⟩
    case stepB=>
      rintro x c t _ xn ⟨rfl,lo,hi,rfl,a1,a2,a3,a4,a5⟩
      dsimp only
      by_cases z:lo≥hi
      · rw[if_pos z]
        rw[show lo=hi by omega] at a4
        exact wpS_pure ⟨rfl,lo,hi,rfl,a2,a4,a5⟩
      · rw[if_neg z]
        refine wpS_bind (by0 (lo+(hi - lo)/2) _ (by omega) ?_)
        cases y:B5 rk left key arr base (lo+(hi - lo)/2) with
        |true=>
         dsimp only
         rw[if_pos rfl]
         exact wpS_pure ⟨rfl,_,_,rfl,by omega,a2,by omega,fun i h1=>O1 u (show i≤lo+(hi - lo)/2 by omega) (by omega) y,a5⟩
        |false=>
         dsimp only
         rw[if_neg (by decide)]
         refine wpS_pure ⟨rfl,_,_,rfl,by omega,by omega,by omega,a4,fun i h1 h2=> ?_⟩
         cases y':B5 rk left key arr base i with
         |false=>rfl
         |true=>rw[O1 u h1 h2 y'] at y;cases y
    case postB=>
      rintro c t ⟨rfl,lo,hi,rfl,a1,a2,a3⟩
      exact wpS_pure (h hi a1 a2 a3)
end
end TS
namespace TS
local macro_rules|`(tactic|omega)=>`(tactic|lia)
open PySem PyProof.Rows
section
variable {rk:Keyed→Nat}
def Le (rk:Keyed→Nat)(x y:Keyed):Prop:=rk x≤rk y
section
variable {le:Keyed→Keyed→Prop}
def E6 (le:Keyed→Keyed→Prop)(l:List Keyed):Prop:=l.Pairwise le
structure Mi (le:Keyed→Keyed→Prop)(a b out:List Keyed)(i j:Nat):Prop where
 pm:out.Perm (a.take i++b.take j)
 up:E6 le out
 ba:∀x∈out,∀y∈a.drop i,le x y
 bb:∀x∈out,∀y∈b.drop j,le x y
theorem S4 {l m:List Keyed}:E6 le (l++m)↔E6 le l∧E6 le m∧∀x∈l,∀y∈m,le x y:=List.pairwise_append
theorem Z8 {l:List Keyed}(h:E6 le l)(i:Nat):E6 le (l.drop i):=List.Pairwise.sublist (List.drop_sublist i l) h
theorem ao9 {l:List Keyed}{i:Nat}{x:Keyed}(h:l[i]? =some x):l.drop i=x::l.drop (i+1):=by
 obtain ⟨hi,e⟩:=do0.mp h
 rw[du4 hi,e]
theorem ba5 {l:List Keyed}{i:Nat}{x:Keyed}(h:l[i]? =some x):l.take (i+1)=l.take i++[x]:=by rw[ei9,h];rfl
theorem V0 (rf:∀x,le x x){l:List Keyed}(s:E6 le l){i:Nat}{x:Keyed}(h:l[i]? =some x):∀y∈l.drop i,le x y:=fun y hy=>by
 have:=Z8 s i
 rw[ao9 h] at this hy
 rcases dp7.mp hy with e|e
 · rw[e];exact rf _
 · exact (eg4.mp this).1 y e
theorem Mi.pushA (rf:∀x,le x x){a b out:List Keyed}{i j:Nat}{x:Keyed}(h:Mi le a b out i j)(sa:E6 le a)(hx:a[i]? =some x)(hb:∀y∈b.drop j,le x y):Mi le a b (out++[x]) (i+1) j:=by
 have da:=ao9 hx
 have mx:x∈a.drop i:=by rw[da];exact do3
 refine ⟨?_,?_,?_,?_⟩
 · rw[ba5 hx,dq4]
   refine (h.pm.append_right [x]).trans ?_
   rw[dq4]
   exact List.Perm.append_left _ dv7
 · refine S4.mpr ⟨h.up,ea8 _ _,fun y hy z hz=> ?_⟩
   rw[dp1.mp hz]
   exact h.ba y hy x mx
 · intro y hy z hz
   have hz':z∈a.drop i:=by rw[da];exact do4 _ hz
   rcases dp3.mp hy with e|e
   · exact h.ba y e z hz'
   · rw[dp1.mp e]
     exact V0 rf sa hx z hz'
 · intro y hy z hz
   rcases dp3.mp hy with e|e
   · exact h.bb y e z hz
   · rw[dp1.mp e]
     exact hb z hz
theorem Mi.pushB (rf:∀x,le x x){a b out:List Keyed}{i j:Nat}{x:Keyed}(h:Mi le a b out i j)(sb:E6 le b)(hx:b[j]? =some x)(ha:∀y∈a.drop i,le x y):Mi le a b (out++[x]) i (j+1):=by
 have db:=ao9 hx
 have mx:x∈b.drop j:=by rw[db];exact do3
 refine ⟨?_,?_,?_,?_⟩
 · rw[ba5 hx,←dq4]
   exact h.pm.append_right [x]
 · refine S4.mpr ⟨h.up,ea8 _ _,fun y hy z hz=> ?_⟩
   rw[dp1.mp hz]
   exact h.bb y hy x mx
 · intro y hy z hz
   rcases dp3.mp hy with e|e
   · exact h.ba y e z hz
   · rw[dp1.mp e]
     exact ha z hz
 · intro y hy z hz
   have hz':z∈b.drop j:=by rw[db];exact do4 _ hz
   rcases dp3.mp hy with e|e
   · exact h.bb y e z hz'
   · rw[dp1.mp e]
     exact V0 rf sb hx z hz'
theorem bm1 {l:List Keyed}{i k:Nat}{x:Keyed}(h:l[i+k]? =some x):(l.take (i+(k+1))).drop i=(l.take (i+k)).drop i++[x]:=by
 have hl:=(do0.mp h).1
 rw[show i+(k+1)=(i+k)+1 by omega,ba5 h,List.drop_append_of_le_length (by rw[dp5];omega)]
theorem Mi.manyA (rf:∀x,le x x){a b out:List Keyed}{i j:Nat}(h:Mi le a b out i j)(sa:E6 le a):∀k,i+k≤a.length→(∀n x,n < k→a[i+n]? =some x→∀y∈b.drop j,le x y)→Mi le a b (out++(a.take (i+k)).drop i) (i+k) j
 |0,_,_=>by rw[dw0,dz1 (by rw[dp5];omega),dq6];exact h
 |k+1,hl,hc=>by
  have e:a[i+k]? =some a[i+k]:=dn9 (by omega)
  rw[bm1 e,←dq4,show i+(k+1)=i+k+1 by omega]
  exact (Mi.manyA rf h sa k (by omega) fun n x hn=>hc n x (by omega)).pushA rf sa e (hc k _ (by omega) e)
theorem Mi.manyB (rf:∀x,le x x){a b out:List Keyed}{i j:Nat}(h:Mi le a b out i j)(sb:E6 le b):∀k,j+k≤b.length→(∀n x,n < k→b[j+n]? =some x→∀y∈a.drop i,le x y)→Mi le a b (out++(b.take (j+k)).drop j) i (j+k)
 |0,_,_=>by rw[dw0,dz1 (by rw[dp5];omega),dq6];exact h
 |k+1,hl,hc=>by
  have e:b[j+k]? =some b[j+k]:=dn9 (by omega)
  rw[bm1 e,←dq4,show j+(k+1)=j+k+1 by omega]
  exact (Mi.manyB rf h sb k (by omega) fun n x hn=>hc n x (by omega)).pushB rf sb e (hc k _ (by omega) e)
def Mg (le:Keyed→Keyed→Prop)(a b r:List Keyed):Prop:=r.Perm (a++b)∧E6 le r
theorem am2 (a b out:List Keyed)(i j:Nat)(h:out.Perm (a.take i++b.take j)):(out++a.drop i++b.drop j).Perm (a++b):=by
 have e1:=(h.append_right (a.drop i)).append_right (b.drop j)
 refine e1.trans ?_
 have e2:((a.take i++b.take j)++a.drop i).Perm (a++b.take j):=by
   rw[dq4]
   refine (List.Perm.append_left _ dv7).trans ?_
   rw[←dq4,dt6]
 refine (e2.append_right _).trans ?_
 rw[dq4,dt6]
theorem Mi.doneB {a b out:List Keyed}{i j:Nat}(h:Mi le a b out i j)(sa:E6 le a)(hj:b.length≤j):Mg le a b (out++a.drop i++b.drop j):=by
 refine ⟨am2 a b out i j h.pm,?_⟩
 rw[dz1 hj,dq6]
 exact S4.mpr ⟨h.up,Z8 sa i,h.ba⟩
theorem Mi.doneA {a b out:List Keyed}{i j:Nat}(h:Mi le a b out i j)(sb:E6 le b)(hi:a.length≤i):Mg le a b (out++a.drop i++b.drop j):=by
 refine ⟨am2 a b out i j h.pm,?_⟩
 rw[dz1 hi,dq6]
 exact S4.mpr ⟨h.up,Z8 sb j,h.bb⟩
theorem Mi.last {a b out:List Keyed}{i j:Nat}(h:Mi le a b out i j)(sa:E6 le a)(sb:E6 le b)(C4:∀x∈b.drop j,∀y∈a.drop i,le x y):Mg le a b (out++b.drop j++a.drop i):=by
 constructor
 · refine List.Perm.trans ?_ (am2 a b out i j h.pm)
   rw[dq4,dq4]
   exact List.Perm.append_left _ dv7
 · rw[dq4]
   refine S4.mpr ⟨h.up,S4.mpr ⟨Z8 sb j,Z8 sa i,C4⟩,fun x hx y hy=> ?_⟩
   rcases dp3.mp hy with e|e
   · exact h.bb x hx y e
   · exact h.ba x hx y e
end
theorem dj0 {xs:Array Keyed}(u:Up rk xs 0 xs.size):E6 (Le rk) xs.toList:=by
 refine dq7.mpr fun i j hi hj hij=> ?_
 have:=u i j (dq3 _) (by omega) (by simpa using hj)
 rw[E5 (p:=xs.toList[i]) (by simp),E5 (p:=xs.toList[j]) (by simp)] at this
 exact this
theorem ab8 {xs:Array Keyed}(h:E6 (Le rk) xs.toList):Up rk xs 0 xs.size:=fun i j _ hij hj=>by
 rcases eg5 hij with z|z
 · have:=dq7.mp h i j (by simp;omega) (by simpa using hj) z
   rw[E5 (i:=i) (p:=xs.toList[i]'(by simp;omega)) (by simp),E5 (i:=j) (p:=xs.toList[j]'(by simpa using hj)) (by simp)]
   exact this
 · rw[z];exact do1 _
end
end TS
namespace TS
local macro_rules|`(tactic|omega)=>`(tactic|lia)
open PySem PyProof.Rows
def mLo:Array Keyed→Array Keyed→StateT SortSt Sem (Array Keyed):=sortPriv%PySem.Builtin.mergeLo
section
variable {prog:Program} {w:World} {A:Around} {E:Value→Shared→Prop} {s:Shared}
variable {rk:Keyed→Nat} {a0:Array Keyed} {κ:SortKind}
structure G7 (st t:SortSt):Prop where
 arr:arrOf t=arrOf st
 pend:pendingOf t=pendingOf st
 kind:kindOf t=kindOf st
 ok:failedOf t=failedOf st
theorem G7.refl (st:SortSt):G7 st st:=⟨rfl,rfl,rfl,rfl⟩
def MQ (rk:Keyed→Nat)(a b:Array Keyed)(st:SortSt)(r:Array Keyed)(t:SortSt):Prop:=Mg (Le rk) a.toList b.toList r.toList∧G7 st t
theorem hv {β γ:Type}{F:γ}{K:γ→StateT SortSt Sem β}{Q:β→SortSt→Prop}{st:SortSt}(h:wpS (model prog w) A E s (K F) Q st):wpS (model prog w) A E s (have x:=F;K x) Q st:=h
theorem A6 {β:Type}{c:Prop}[Decidable c]{m n:StateT SortSt Sem β}{Q:β→SortSt→Prop}{st:SortSt}(h1:c→wpS (model prog w) A E s m Q st)(h2:¬c→wpS (model prog w) A E s n Q st):wpS (model prog w) A E s (if c then m else n) Q st:=by
 split
 · exact h1 ‹_›
 · exact h2 ‹_›
theorem O2 {a b:Nat}(h:(a==b)=true):a=b:=by simpa using h
theorem Q1 {a b:Nat}(h:¬(a==b)=true):¬a=b:=by simpa using h
theorem V1 (xs:Array Keyed)(i:Nat):(xs.extract i).toList=xs.toList.drop i:=by rw[Array.toList_extract,eh2,dw1 (by simp)]
theorem P4 (xs:Array Keyed)(i j:Nat):(xs.extract i j).toList=(xs.toList.take j).drop i:=by rw[Array.toList_extract,eh2,List.drop_take]
theorem G5 {xs:Array Keyed}{i:Nat}{x:Keyed}(h:xs[i]? =some x):xs.toList[i]? =some x:=by rw[←h];simp
theorem db8 {st:SortSt}{g:Nat}{Q:Unit→SortSt→Prop}(h:Q () (SortSt.mk' (kindOf st) (arrOf st) (pendingOf st) g (failedOf st))):wpS (model prog w) A E s ((sortPriv%PySem.Builtin.setMinGallop) g) Q st:=wpS_modify h
theorem G7.gal {st t:SortSt}(h:G7 st t)(g:Nat):G7 st (SortSt.mk' (kindOf t) (arrOf t) (pendingOf t) g (failedOf t)):=⟨h.arr,h.pend,h.kind,h.ok⟩
theorem cn3 {st0 st:SortSt}{g:Nat}{Q:Unit→SortSt→Prop}(l:G7 st0 st)(h:∀t,G7 st0 t→Q () t):wpS (model prog w) A E s ((sortPriv%PySem.Builtin.setMinGallop) g) Q st:=db8 (h _ (l.gal g))
theorem db9 {st:SortSt}{a b:Array Keyed}(C:Cm prog w A s κ rk a0)(hk:kindOf st=κ)(ia:In0 a0 a)(ib:In0 a0 b)(a1:1≤a.size)(b1:1≤b.size)(sa:E6 (Le rk) a.toList)(sb:E6 (Le rk) b.toList)
   (first:∀x,b[0]? =some x→∀y∈a.toList,Le rk x y) (last:∀x∈b.toList,∀y,a[a.size - 1]? =some y→Le rk x y):wpS (model prog w) A E s (mLo a b) (MQ rk a b st) st:=by
 have la:a.toList.length=a.size:=dq0
 have lb:b.toList.length=b.size:=dq0
 have ua:=ab8 sa
 have ub:=ab8 sb
 have doneB:∀out i j t,Mi (Le rk) a.toList b.toList (du8 out) i j→G7 st t→b.size≤j→MQ rk a b st (out++a.extract i++b.extract j) t:=fun out i j t m l hj=>by
   refine ⟨?_,l⟩
   rw[dt4,dt4,V1,V1]
   exact m.doneB sa (by omega)
 have doneA:∀out i j t,Mi (Le rk) a.toList b.toList (du8 out) i j→G7 st t→a.size≤i→MQ rk a b st (out++a.extract i++b.extract j) t:=fun out i j t m l hi=>by
   refine ⟨?_,l⟩
   rw[dt4,dt4,V1,V1]
   exact m.doneA sb (by omega)
 have lastA:∀out i j t,Mi (Le rk) a.toList b.toList (du8 out) i j→G7 st t→i+1=a.size→MQ rk a b st (out++b.extract j++a.extract i) t:=fun out i j t m l hi=>by
   refine ⟨?_,l⟩
   rw[dt4,dt4,V1,V1]
   refine m.last sa sb fun x hx y hy=>last x (dy4 hx) y ?_
   have e:a.toList[i]? =some a.toList[i]:=dn9 (by omega)
   rw[ao9 e,dz1 (by omega)] at hy
   rw[dp1.mp hy,show a.size - 1=i by omega,←ds8]
   exact e
 have stepB:∀out i j x y,Mi (Le rk) a.toList b.toList (du8 out) i j→a[i]? =some x→b[j]? =some y→rk y≤rk x→Mi (Le rk) a.toList b.toList (du8 (out.push y)) i (j+1):=fun out i j x y m hx hy le=>by
   rw[ea3]
   exact m.pushB (fun _=>do1 _) sb (G5 hy) fun z hz=>dp4 le (V0 (fun _=>do1 _) sa (G5 hx) z hz)
 have stepA:∀out i j x y,Mi (Le rk) a.toList b.toList (du8 out) i j→a[i]? =some x→b[j]? =some y→rk x≤rk y→Mi (Le rk) a.toList b.toList (du8 (out.push x)) (i+1) j:=fun out i j x y m hx hy le=>by
   rw[ea3]
   exact m.pushA (fun _=>do1 _) sa (G5 hx) fun z hz=>dp4 le (V0 (fun _=>do1 _) sb (G5 hy) z hz)
 refine wpS_bind (wpS_lift (wpAny_rule ⟨rfl,?_⟩))
 obtain ⟨b0,eb0,mb0⟩:=ib.at (show 0 < b.size by omega)
 refine wpS_bind (y9 eb0 ?_)
 have m0:Mi (Le rk) a.toList b.toList (du8 #[b0]) 0 1:=by
   have e:b.toList[0]? =some b0:=G5 eb0
   have n:Mi (Le rk) a.toList b.toList [] 0 0:=⟨List.Perm.refl _,List.Pairwise.nil,(fun x h=>by cases h),(fun x h=>by cases h)⟩
   exact n.pushB (fun _=>do1 _) sb e fun y hy=>first b0 eb0 y hy
 refine hv (hv (hv ?_))
 by_cases z1:1=b.size
 · rw[if_pos (by simpa using z1)]
   exact wpS_pure (doneB _ _ _ _ m0 (G7.refl st) (by omega))
 rw[if_neg (by simpa using z1)]
 by_cases z2:0+1=a.size
 · rw[if_pos (by simpa using z2)]
   exact wpS_pure (lastA _ _ _ _ m0 (G7.refl st) z2)
 rw[if_neg (by simpa using z2)]
 refine wpS_bind (wpS_get ?_)
 refine wpS_bind (wpS_mono (wpS_forRange (I:=fun x c t=>∃out i j g,c=(none,out,i,j,g)∧Mi (Le rk) a.toList b.toList (du8 out) i j∧i+1 < a.size∧j < b.size∧x≤i+j∧G7 st t)
   (Q:=fun c t=>∃r,c.1=some r∧MQ rk a b st r t) ?step ?fin ⟨_,_,_,_,rfl,m0,by omega,by omega,by omega,G7.refl st⟩) ?post)
 case post=>
   rintro c t ⟨r,hr,q⟩
   obtain ⟨c1,c2⟩:=c
   cases hr
   exact wpS_pure q
 case fin=>
   rintro c t ⟨out,i,j,g,rfl,m,h1,h2,h3,l⟩
   omega
 case step=>
   rintro x c t _ xn ⟨out,i,j,g,rfl,m,h1,h2,h3,l⟩
   refine wpS_bind (wpS_mono (wpS_forRange (I:=fun y c t'=>∃out' i' j' p q,c=(none,out',i',j',p,q)∧t'=t∧Mi (Le rk) a.toList b.toList (du8 out') i' j'∧i'+1 < a.size∧j' < b.size∧i'+j'=i+j+y)
     (Q:=fun c t'=>(∃r,c.1=some r∧MQ rk a b st r t')∨(∃out' i' j' p q,c=(none,out',i',j',p,q)∧t'=t∧Mi (Le rk) a.toList b.toList (du8 out') i' j'∧i'+1 < a.size∧j' < b.size∧x+1≤i'+j')) ?step2 ?fin2 ⟨_,_,_,_,_,rfl,rfl,m,h1,h2,rfl⟩) ?post2)
   case fin2=>
     rintro c t' ⟨out',i',j',p,q,rfl,rfl,m',k1,k2,k3⟩
     omega
   case step2=>
     rintro y c t' _ yn ⟨out',i',j',p,q,rfl,rfl,m',k1,k2,k3⟩
     obtain ⟨u,eu,mu⟩:=ia.at (show i' < a.size by omega)
     obtain ⟨v,ev,mv⟩:=ib.at k2
     refine wpS_bind (y9 ev (wpS_bind (y9 eu (wpS_bind (ax6 C (l.kind.trans hk) mv mu ?_)))))
     by_cases d:rk v < rk u
     · rw[decide_eq_true d]
       dsimp only
       rw[if_pos rfl]
       have m2:=stepB out' i' j' u v m' eu ev (du2 d)
       refine wpS_bind (y9 ev ?_)
       by_cases z:j'+1=b.size
       · rw[if_pos (by simpa using z)]
         exact wpS_pure (.inl ⟨_,rfl,doneB _ _ _ _ m2 l (by omega)⟩)
       · rw[if_neg (by simpa using z)]
         split
         · exact wpS_pure (.inr ⟨_,_,_,_,_,rfl,rfl,m2,k1,by omega,by omega⟩)
         · exact wpS_pure ⟨_,_,_,_,_,rfl,rfl,m2,k1,by omega,by omega⟩
     · rw[decide_eq_false d]
       dsimp only
       rw[if_neg (by decide)]
       have m2:=stepA out' i' j' u v m' eu ev (by omega)
       refine wpS_bind (y9 eu ?_)
       by_cases z:i'+1+1=a.size
       · rw[if_pos (by simpa using z)]
         exact wpS_pure (.inl ⟨_,rfl,lastA _ _ _ _ m2 l z⟩)
       · rw[if_neg (by simpa using z)]
         split
         · exact wpS_pure (.inr ⟨_,_,_,_,_,rfl,rfl,m2,by omega,k2,by omega⟩)
         · exact wpS_pure ⟨_,_,_,_,_,rfl,rfl,m2,by omega,k2,by omega⟩
   case post2=>
     rintro c t' (⟨r,hr,q⟩|⟨out',i',j',p,q,rfl,rfl,m',k1,k2,k3⟩)
     · obtain ⟨c1,c2⟩:=c
       cases hr
       exact wpS_pure ⟨r,rfl,q⟩
     · refine wpS_bind (wpS_lift (wpAny_rule ⟨rfl,?_⟩))
       refine wpS_bind (wpS_mono (wpS_forRange (I:=fun y c t2=>∃out2 i2 j2 g2 p q,c=(none,out2,i2,j2,g2,p,q)∧G7 st t2∧Mi (Le rk) a.toList b.toList (du8 out2) i2 j2∧i2+1 < a.size∧j2 < b.size∧x+1≤i2+j2)
         (Q:=fun c t2=>(∃r,c.1=some r∧MQ rk a b st r t2)∨(∃out2 i2 j2 g2 p q,c=(none,out2,i2,j2,g2,p,q)∧G7 st t2∧Mi (Le rk) a.toList b.toList (du8 out2) i2 j2∧i2+1 < a.size∧j2 < b.size∧x+1≤i2+j2)) ?step3 ?fin3 ⟨_,_,_,_,_,_,rfl,l,m',k1,k2,k3⟩) ?post3)
       case fin3=>
         rintro c t2 h
         exact .inr h
       case post3=>
         rintro c t2 (⟨r,hr,q⟩|⟨out2,i2,j2,g2,p,q,rfl,l2,m2,n1,n2,n3⟩)
         · obtain ⟨c1,c2⟩:=c
           cases hr
           exact wpS_pure ⟨r,rfl,q⟩
         · refine wpS_bind (db8 ?_)
           exact wpS_pure ⟨_,_,_,_,rfl,m2,n1,n2,n3,l2.gal _⟩
       case step3=>
         rintro y c t2 _ yn ⟨out2,i2,j2,g2,p,q,rfl,l2,m2,n1,n2,n3⟩
         obtain ⟨v,ev,mv⟩:=ib.at n2
         refine A6 (fun _=> ?_) (fun _=> ?_)
         all_goals
           refine wpS_bind (cn3 l2 fun t3 l3=> ?_)
           refine wpS_bind (y9 ev ?_)
           refine wpS_bind (af0 (base:=i2) (n:=a.size - i2) (hint:=0) C (l3.kind.trans hk) ia mv (show i2+(a.size - i2)≤a.size by omega) (by omega) (fun x y h1 h2 h3=>ua x y (by omega) h2 (by omega)) fun k kn ka kb=> ?_)
           have mA:∀k',k'≤k→Mi (Le rk) a.toList b.toList (du8 (out2++a.extract i2 (i2+k'))) (i2+k') j2:=fun k' hk'=>by
             rw[dt4,P4]
             refine m2.manyA (fun _=>do1 _) sa k' (by omega) fun n x hn hx z hz=> ?_
             have h:=ka n (by omega)
             unfold B5 at h
             rw[if_neg (by decide),E5 (p:=x) (by rw[←ds8];exact hx)] at h
             have hle:rk x≤rk v:=by simpa using h
             exact dp4 hle (V0 (fun _=>do1 _) sb (G5 ev) z hz)
           have gB:i2+k < a.size→rk v < R rk a (i2+k):=fun h=>by
             have h:=kb k (do1 _) (by omega)
             unfold B5 at h
             rw[if_neg (by decide)] at h
             simpa using h
           have m3:=mA k (do1 _)
           refine A6 (fun kz=> ?_) (fun kz=> ?_)
           refine A6 (fun z=>wpS_pure (.inl ⟨_,rfl,lastA _ _ _ _ m3 l3 (O2 z)⟩)) (fun z1=> ?_)
           refine A6 (fun z=>wpS_pure (.inl ⟨_,rfl,doneA _ _ _ _ m3 l3 (eb9 (O2 z).symm)⟩)) (fun z2=> ?_)
           have z1:¬i2+k+1=a.size:=Q1 z1
           have z2:¬i2+k=a.size:=Q1 z2
           have f1:i2+k+1 < a.size:=by omega
           have f2:x+1≤i2+k+j2:=by omega
           have f3:=gB (by omega)
           generalize out2++a.extract i2 (i2+k)=out3 at m3 ⊢
           generalize i2+k=i3 at m3 f1 f2 f3 ⊢
           rotate_left
           have k0:k=0:=by omega
           subst k0
           have e0:out2++a.extract i2 (i2+0)=out2:=by simp<;>omega
           rw[e0,dw0] at m3
           have f1:i2+1 < a.size:=by omega
           have f2:x+1≤i2+j2:=by omega
           have f3:=gB (by omega)
           rw[dw0] at f3
           clear e0
           generalize out2=out3 at m3 ⊢
           generalize i2=i3 at m3 f1 f2 f3 ⊢
           rotate_left
           all_goals
             obtain ⟨u3,eu3,mu3⟩:=ia.at (show i3 < a.size by omega)
             rw[E5 eu3] at f3
             refine wpS_bind (y9 ev ?_)
             have m4:=stepB out3 i3 j2 u3 v m3 eu3 ev (du2 f3)
             refine A6 (fun z=>wpS_pure (.inl ⟨_,rfl,doneB _ _ _ _ m4 l3 (eb9 (O2 z).symm)⟩)) (fun z3=> ?_)
             have z3:¬j2+1=b.size:=Q1 z3
             refine wpS_bind (y9 eu3 ?_)
             refine wpS_bind (af0 (base:=j2+1) (n:=b.size - (j2+1)) (hint:=0) C (l3.kind.trans hk) ib mu3 (show j2+1+(b.size - (j2+1))≤b.size by omega) (by omega) (fun x y h1 h2 h3=>ub x y (by omega) h2 (by omega)) fun k' kn' ka' kb'=> ?_)
             have m5:Mi (Le rk) a.toList b.toList (du8 (out3.push v++b.extract (j2+1) (j2+1+k'))) i3 (j2+1+k'):=by
               rw[dt4,P4]
               refine m4.manyB (fun _=>do1 _) sb k' (by omega) fun n x hn hx z hz=> ?_
               have h:=ka' n hn
               unfold B5 at h
               rw[if_pos rfl,E5 (p:=x) (by rw[←ds8];exact hx)] at h
               have hle:rk x < rk u3:=by simpa using h
               exact dp4 (du2 hle) (V0 (fun _=>do1 _) sa (G5 eu3) z hz)
             have gA:j2+1+k' < b.size→rk u3≤R rk b (j2+1+k'):=fun h=>by
               have h:=kb' k' (do1 _) (by omega)
               unfold B5 at h
               rw[if_pos rfl] at h
               simpa using h
             refine A6 (fun kz'=> ?_) (fun kz'=> ?_)
             refine A6 (fun z=>wpS_pure (.inl ⟨_,rfl,doneB _ _ _ _ m5 l3 (eb9 (O2 z).symm)⟩)) (fun z4=> ?_)
             have z4:¬j2+1+k'=b.size:=Q1 z4
             have f4:j2+1+k' < b.size:=by omega
             have f5:x+1≤i3+(j2+1+k'):=by omega
             have f6:=gA f4
             generalize out3.push v++b.extract (j2+1) (j2+1+k')=out4 at m5 ⊢
             generalize j2+1+k'=j4 at m5 f4 f5 f6 ⊢
             rotate_left
             have k0:k'=0:=by omega
             subst k0
             have e0:out3.push v++b.extract (j2+1) (j2+1+0)=out3.push v:=by simp<;>omega
             rw[e0,dw0] at m5
             have f4:j2+1 < b.size:=by omega
             have f5:x+1≤i3+(j2+1):=by omega
             have f6:=gA (by omega)
             rw[dw0] at f6
             clear e0
             generalize out3.push v=out4 at m5 ⊢
             generalize j2+1=j4 at m5 f4 f5 f6 ⊢
             rotate_left
             all_goals
               obtain ⟨v4,ev4,mv4⟩:=ib.at f4
               rw[E5 ev4] at f6
               have m6:=stepA out4 i3 j4 u3 v4 m5 eu3 ev4 f6
               refine wpS_bind (y9 eu3 ?_)
               refine A6 (fun z=>wpS_pure (.inl ⟨_,rfl,lastA _ _ _ _ m6 l3 (O2 z)⟩)) (fun z5=> ?_)
               have z5:¬i3+1+1=a.size:=Q1 z5
               refine A6 (fun _=> ?_) (fun _=> ?_)
               · exact wpS_pure (.inr ⟨out4.push u3,i3+1,j4,_,_,_,rfl,l3,m6,by omega,f4,by omega⟩)
               · exact wpS_pure ⟨out4.push u3,i3+1,j4,_,_,_,rfl,l3,m6,by omega,f4,by omega⟩
end
end TS
namespace TS
local macro_rules|`(tactic|omega)=>`(tactic|lia)
open PySem PyProof.Rows
def mHi:Array Keyed→Array Keyed→StateT SortSt Sem (Array Keyed):=sortPriv%PySem.Builtin.mergeHi
def Ge (rk:Keyed→Nat)(x y:Keyed):Prop:=rk y≤rk x
theorem S5 {rk:Keyed→Nat}{l:List Keyed}(h:E6 (Le rk) l):E6 (Ge rk) l.reverse:=List.pairwise_reverse.mpr h
theorem ch4 {rk:Keyed→Nat}{a b r:List Keyed}(h:Mg (Ge rk) b.reverse a.reverse r.reverse):Mg (Le rk) a b r:=by
 obtain ⟨p,u⟩:=h
 refine ⟨?_,List.pairwise_reverse.mp u⟩
 have e:b.reverse++a.reverse=(a++b).reverse:=by rw[ea7]
 rw[e] at p
 exact (List.reverse_perm r).symm.trans (p.trans (List.reverse_perm _))
theorem J4 {l:List Keyed}{n:Nat}(h:n≤l.length):l.reverse.drop (l.length - n)=(l.take n).reverse:=by
 rw[List.drop_reverse];congr 2;omega
theorem bu7 {l:List Keyed}{n:Nat}{x:Keyed}(h1:1≤n)(h:l[n - 1]? =some x):l.reverse[l.length - n]? =some x:=by
 have hl:=(do0.mp h).1
 rw[ee8 (by omega),←h]
 congr 1
 omega
theorem bu8 {l:List Keyed}{m n:Nat}(h1:m≤n)(h:n≤l.length):(l.reverse.take (l.length - n+(n - m))).drop (l.length - n)=((l.take n).drop m).reverse:=by
 rw[List.drop_take,J4 h,Nat.add_sub_cancel_left,List.take_reverse,dp5]
 congr 2
 omega
theorem af1 {rk:Keyed→Nat}{l:List Keyed}{n:Nat}{x:Keyed}(s:E6 (Le rk) l)(h1:1≤n)(h:l[n - 1]? =some x):∀y∈l.take n,rk y≤rk x:=fun y hy=>by
 obtain ⟨hl,e⟩:=do0.mp h
 obtain ⟨i,hi⟩:=dq9.mp hy
 have hil:=(do0.mp hi).1
 rw[dp5] at hil
 rw[dt2 (by omega),dn9 (by omega)] at hi
 have ey:=Option.some.inj hi
 rcases eg5 (show i≤n - 1 by omega) with z|z
 · have:=dq7.mp s i (n - 1) (by omega) hl z
   rw[ey,e] at this;exact this
 · subst z
   rw[←ey,e];exact do1 _
section
variable {prog:Program} {w:World} {A:Around} {E:Value→Shared→Prop} {s:Shared}
variable {rk:Keyed→Nat} {a0:Array Keyed} {κ:SortKind}
def Mh (rk:Keyed→Nat)(a b out:Array Keyed)(na nb:Nat):Prop:=na≤a.size∧nb≤b.size∧Mi (Ge rk) b.toList.reverse a.toList.reverse out.toList (b.size - nb) (a.size - na)
theorem Mh.pushB {a b out:Array Keyed}{na nb:Nat}{x:Keyed}(h:Mh rk a b out na nb)(sb:E6 (Le rk) b.toList)(n1:1≤nb)(hx:b[nb - 1]? =some x)(ha:∀y∈a.toList.take na,rk y≤rk x):Mh rk a b (out.push x) na (nb - 1):=by
 obtain ⟨h1,h2,m⟩:=h
 refine ⟨h1,by omega,?_⟩
 have lb:b.toList.length=b.size:=dq0
 have la:a.toList.length=a.size:=dq0
 rw[ea3,show b.size - (nb - 1)=b.size - nb+1 by omega]
 refine m.pushA (fun _=>do1 _) (S5 sb) ?_ fun y hy=>ha y ?_
 · rw[←lb];exact bu7 n1 (G5 hx)
 · rw[←la,J4 (by omega)] at hy;exact dz2.mp hy
theorem Mh.pushA {a b out:Array Keyed}{na nb:Nat}{x:Keyed}(h:Mh rk a b out na nb)(sa:E6 (Le rk) a.toList)(n1:1≤na)(hx:a[na - 1]? =some x)(hb:∀y∈b.toList.take nb,rk y≤rk x):Mh rk a b (out.push x) (na - 1) nb:=by
 obtain ⟨h1,h2,m⟩:=h
 refine ⟨by omega,h2,?_⟩
 have lb:b.toList.length=b.size:=dq0
 have la:a.toList.length=a.size:=dq0
 rw[ea3,show a.size - (na - 1)=a.size - na+1 by omega]
 refine m.pushB (fun _=>do1 _) (S5 sa) ?_ fun y hy=>hb y ?_
 · rw[←la];exact bu7 n1 (G5 hx)
 · rw[←lb,J4 (by omega)] at hy;exact dz2.mp hy
theorem Mh.manyA {a b out:Array Keyed}{na nb m:Nat}(h:Mh rk a b out na nb)(sa:E6 (Le rk) a.toList)(hm:m≤na)(hc:∀n x,m≤n→n < na→a[n]? =some x→∀y∈b.toList.take nb,rk y≤rk x):Mh rk a b (out++(a.extract m na).reverse) m nb:=by
 obtain ⟨h1,h2,mi⟩:=h
 refine ⟨by omega,h2,?_⟩
 have lb:b.toList.length=b.size:=dq0
 have la:a.toList.length=a.size:=dq0
 have:=mi.manyB (fun _=>do1 _) (S5 sa) (na - m) (by rw[dy9];omega) fun n x hn hx y hy=>hc (na - 1 - n) x (by omega) (by omega) ?_ y ?_
 · rw[←la,bu8 hm (by omega),←P4,la,show a.size - na+(na - m)=a.size - m by omega] at this
   rw[dt4,ec2]
   exact this
 · rw[ee8 (by omega)] at hx
   rw[←ds8,←hx]
   congr 1
   omega
 · rw[←lb,J4 (by omega)] at hy;exact dz2.mp hy
theorem Mh.manyB {a b out:Array Keyed}{na nb m:Nat}(h:Mh rk a b out na nb)(sb:E6 (Le rk) b.toList)(hm:m≤nb)(hc:∀n x,m≤n→n < nb→b[n]? =some x→∀y∈a.toList.take na,rk y≤rk x):Mh rk a b (out++(b.extract m nb).reverse) na m:=by
 obtain ⟨h1,h2,mi⟩:=h
 refine ⟨h1,by omega,?_⟩
 have lb:b.toList.length=b.size:=dq0
 have la:a.toList.length=a.size:=dq0
 have:=mi.manyA (fun _=>do1 _) (S5 sb) (nb - m) (by rw[dy9];omega) fun n x hn hx y hy=>hc (nb - 1 - n) x (by omega) (by omega) ?_ y ?_
 · rw[←lb,bu8 hm (by omega),←P4,lb,show b.size - nb+(nb - m)=b.size - m by omega] at this
   rw[dt4,ec2]
   exact this
 · rw[ee8 (by omega)] at hx
   rw[←ds8,←hx]
   congr 1
   omega
 · rw[←la,J4 (by omega)] at hy;exact dz2.mp hy
theorem ah4 (xs:Array Keyed)(j:Nat):(xs.extract 0 j).toList=xs.toList.take j:=by rw[P4,ei8]
theorem Mh.done {a b out:Array Keyed}{na nb:Nat}(h:Mh rk a b out na nb)(sa:E6 (Le rk) a.toList)(sb:E6 (Le rk) b.toList)(z:na=0∨nb=0):Mg (Le rk) a.toList b.toList (a.extract 0 na++b.extract 0 nb++out.reverse).toList:=by
 obtain ⟨h1,h2,m⟩:=h
 have lb:b.toList.length=b.size:=dq0
 have la:a.toList.length=a.size:=dq0
 refine ch4 ?_
 have e:(a.extract 0 na++b.extract 0 nb++out.reverse).toList.reverse=out.toList++b.toList.reverse.drop (b.size - nb)++a.toList.reverse.drop (a.size - na):=by
   rw[dt4,dt4,ec2,ah4,ah4,ea7,ea7,List.reverse_reverse,←la,←lb,J4 (by omega),J4 (by omega),dq4]
 rw[e]
 rcases z with z|z
 · exact m.doneB (S5 sb) (by rw[dy9];omega)
 · exact m.doneA (S5 sa) (by rw[dy9];omega)
theorem Mh.first {a b out:Array Keyed}{na nb:Nat}(h:Mh rk a b out na nb)(sa:E6 (Le rk) a.toList)(sb:E6 (Le rk) b.toList)(lo:∀x∈a.toList.take na,∀y∈b.toList.take nb,rk y≤rk x):Mg (Le rk) a.toList b.toList (b.extract 0 nb++a.extract 0 na++out.reverse).toList:=by
 obtain ⟨h1,h2,m⟩:=h
 have lb:b.toList.length=b.size:=dq0
 have la:a.toList.length=a.size:=dq0
 refine ch4 ?_
 have e:(b.extract 0 nb++a.extract 0 na++out.reverse).toList.reverse=out.toList++a.toList.reverse.drop (a.size - na)++b.toList.reverse.drop (b.size - nb):=by
   rw[dt4,dt4,ec2,ah4,ah4,ea7,ea7,List.reverse_reverse,←la,←lb,J4 (by omega),J4 (by omega),dq4]
 rw[e]
 refine m.last (S5 sb) (S5 sa) fun x hx y hy=> ?_
 rw[←la,J4 (by omega)] at hx
 rw[←lb,J4 (by omega)] at hy
 exact lo x (dz2.mp hx) y (dz2.mp hy)
theorem dc0 {st:SortSt}{a b:Array Keyed}(C:Cm prog w A s κ rk a0)(hk:kindOf st=κ)(ia:In0 a0 a)(ib:In0 a0 b)(a1:1≤a.size)(b1:1≤b.size)(sa:E6 (Le rk) a.toList)(sb:E6 (Le rk) b.toList)
   (first:∀x,b[0]? =some x→∀y∈a.toList,Le rk x y) (last:∀x∈b.toList,∀y,a[a.size - 1]? =some y→Le rk x y):wpS (model prog w) A E s (mHi a b) (MQ rk a b st) st:=by
 have la:a.toList.length=a.size:=dq0
 have lb:b.toList.length=b.size:=dq0
 have ua:=ab8 sa
 have ub:=ab8 sb
 refine wpS_bind (wpS_lift (wpAny_rule ⟨rfl,?_⟩))
 obtain ⟨x0,ex0,mx0⟩:=ia.at (show a.size - 1 < a.size by omega)
 refine wpS_bind (y9 ex0 ?_)
 have doneM:∀out na nb t,Mh rk a b out na nb→G7 st t→na=0∨nb=0→MQ rk a b st (a.extract 0 na++b.extract 0 nb++Array.reverse out) t:=fun out na nb t m l z=>⟨m.done sa sb z,l⟩
 have firstM:∀out na nb t,Mh rk a b out na nb→G7 st t→nb=1→MQ rk a b st (b.extract 0 nb++a.extract 0 na++Array.reverse out) t:=fun out na nb t m l z=>by
   refine ⟨m.first sa sb fun x hx y hy=> ?_,l⟩
   subst z
   obtain ⟨b0,eb0,mb0⟩:=ib.at (show 0 < b.size by omega)
   have:=af1 sb (do1 1) (G5 eb0) y hy
   exact dp4 this (first b0 eb0 x (du6 hx))
 have stepA:∀out na nb x y,Mh rk a b out na nb→1≤na→1≤nb→a[na - 1]? =some x→b[nb - 1]? =some y→rk y≤rk x→Mh rk a b (out.push x) (na - 1) nb:=fun out na nb x y m h1 h2 hx hy le=>
   m.pushA sa h1 hx fun z hz=>dp4 (af1 sb h2 (G5 hy) z hz) le
 have stepB:∀out na nb x y,Mh rk a b out na nb→1≤na→1≤nb→a[na - 1]? =some x→b[nb - 1]? =some y→rk x≤rk y→Mh rk a b (out.push y) na (nb - 1):=fun out na nb x y m h1 h2 hx hy le=>
   m.pushB sb h2 hy fun z hz=>dp4 (af1 sa h1 (G5 hx) z hz) le
 have m0:Mh rk a b #[x0] (a.size - 1) b.size:=by
   have n:Mh rk a b #[] a.size b.size:=⟨do1 _,do1 _,by rw[ef7,ef7];exact ⟨List.Perm.refl _,List.Pairwise.nil,(fun x h=>by cases h),(fun x h=>by cases h)⟩⟩
   exact n.pushA sa a1 ex0 fun y hy=>last y (du6 hy) x0 ex0
 refine A6 (fun z=>wpS_pure (doneM _ _ _ _ m0 (G7.refl st) (.inl (O2 z)))) (fun z1=> ?_)
 have z1:¬a.size - 1=0:=Q1 z1
 refine A6 (fun z=>wpS_pure (firstM _ _ _ _ m0 (G7.refl st) (O2 z))) (fun z2=> ?_)
 have z2:¬b.size=1:=Q1 z2
 refine wpS_bind (wpS_get ?_)
 refine wpS_bind (wpS_mono (wpS_forRange (I:=fun x c t=>∃na nb out g,c=(none,na,nb,out,g)∧Mh rk a b out na nb∧1≤na∧2≤nb∧x+na+nb≤a.size+b.size∧G7 st t)
   (Q:=fun c t=>∃r,c.1=some r∧MQ rk a b st r t) ?step ?fin ⟨_,_,_,_,rfl,m0,by omega,by omega,by omega,G7.refl st⟩) ?post)
 case post=>
   rintro c t ⟨r,hr,q⟩
   obtain ⟨c1,c2⟩:=c
   cases hr
   exact wpS_pure q
 case fin=>
   rintro c t ⟨na,nb,out,g,rfl,m,h1,h2,h3,l⟩
   omega
 case step=>
   rintro x c t _ xn ⟨na,nb,out,g,rfl,m,h1,h2,h3,l⟩
   refine wpS_bind (wpS_mono (wpS_forRange (I:=fun y c t'=>∃na' nb' out' p q,c=(none,na',nb',out',p,q)∧t'=t∧Mh rk a b out' na' nb'∧1≤na'∧2≤nb'∧na'+nb'+y=na+nb)
     (Q:=fun c t'=>(∃r,c.1=some r∧MQ rk a b st r t')∨(∃na' nb' out' p q,c=(none,na',nb',out',p,q)∧t'=t∧Mh rk a b out' na' nb'∧1≤na'∧2≤nb'∧x+1+na'+nb'≤a.size+b.size)) ?step2 ?fin2 ⟨_,_,_,_,_,rfl,rfl,m,h1,h2,rfl⟩) ?post2)
   case fin2=>
     rintro c t' ⟨na',nb',out',p,q,rfl,rfl,m',k1,k2,k3⟩
     omega
   case step2=>
     rintro y c t' _ yn ⟨na',nb',out',p,q,rfl,rfl,m',k1,k2,k3⟩
     obtain ⟨u,eu,mu⟩:=ia.at (show na' - 1 < a.size by have:=m'.1;omega)
     obtain ⟨v,ev,mv⟩:=ib.at (show nb' - 1 < b.size by have:=m'.2.1;omega)
     refine wpS_bind (y9 ev (wpS_bind (y9 eu (wpS_bind (ax6 C (l.kind.trans hk) mv mu ?_)))))
     by_cases d:rk v < rk u
     · rw[decide_eq_true d]
       refine A6 (fun _=> ?_) (fun h=>absurd rfl h)
       have m2:=stepA out' na' nb' u v m' k1 (by omega) eu ev (du2 d)
       refine wpS_bind (y9 eu ?_)
       refine A6 (fun z=>wpS_pure (.inl ⟨_,rfl,doneM _ _ _ _ m2 l (.inl (O2 z))⟩)) (fun z=> ?_)
       have z:¬na' - 1=0:=Q1 z
       refine A6 (fun _=> ?_) (fun _=> ?_)
       · exact wpS_pure (.inr ⟨na' - 1,nb',out'.push u,_,_,rfl,rfl,m2,by omega,k2,by omega⟩)
       · exact wpS_pure ⟨na' - 1,nb',out'.push u,_,_,rfl,rfl,m2,by omega,k2,by omega⟩
     · rw[decide_eq_false d]
       refine A6 (fun h=>absurd h (by decide)) (fun _=> ?_)
       have m2:=stepB out' na' nb' u v m' k1 (by omega) eu ev (by omega)
       refine wpS_bind (y9 ev ?_)
       refine A6 (fun z=>wpS_pure (.inl ⟨_,rfl,firstM _ _ _ _ m2 l (O2 z)⟩)) (fun z=> ?_)
       have z:¬nb' - 1=1:=Q1 z
       refine A6 (fun _=> ?_) (fun _=> ?_)
       · exact wpS_pure (.inr ⟨na',nb' - 1,out'.push v,_,_,rfl,rfl,m2,k1,by omega,by omega⟩)
       · exact wpS_pure ⟨na',nb' - 1,out'.push v,_,_,rfl,rfl,m2,k1,by omega,by omega⟩
   case post2=>
     rintro c t' (⟨r,hr,q⟩|⟨na',nb',out',p,q,rfl,rfl,m',k1,k2,k3⟩)
     · obtain ⟨c1,c2⟩:=c
       cases hr
       exact wpS_pure ⟨r,rfl,q⟩
     · refine wpS_bind (wpS_lift (wpAny_rule ⟨rfl,?_⟩))
       refine wpS_bind (wpS_mono (wpS_forRange (I:=fun y c t2=>∃na2 nb2 out2 g2 p q,c=(none,na2,nb2,out2,g2,p,q)∧G7 st t2∧Mh rk a b out2 na2 nb2∧1≤na2∧2≤nb2∧x+1+na2+nb2≤a.size+b.size)
         (Q:=fun c t2=>(∃r,c.1=some r∧MQ rk a b st r t2)∨(∃na2 nb2 out2 g2 p q,c=(none,na2,nb2,out2,g2,p,q)∧G7 st t2∧Mh rk a b out2 na2 nb2∧1≤na2∧2≤nb2∧x+1+na2+nb2≤a.size+b.size)) ?step3 ?fin3 ⟨_,_,_,_,_,_,rfl,l,m',k1,k2,k3⟩) ?post3)
       case fin3=>
         rintro c t2 h
         exact .inr h
       case post3=>
         rintro c t2 (⟨r,hr,q⟩|⟨na2,nb2,out2,g2,p,q,rfl,l2,m2,n1,n2,n3⟩)
         · obtain ⟨c1,c2⟩:=c
           cases hr
           exact wpS_pure ⟨r,rfl,q⟩
         · refine wpS_bind (cn3 l2 fun t3 l3=> ?_)
           exact wpS_pure ⟨_,_,_,_,rfl,m2,n1,n2,n3,l3⟩
       case step3=>
         rintro y c t2 _ yn ⟨na2,nb2,out2,g2,p,q,rfl,l2,m2,n1,n2,n3⟩
         have q1:=m2.1
         have q2:=m2.2.1
         obtain ⟨v,ev,mv⟩:=ib.at (show nb2 - 1 < b.size by omega)
         refine A6 (fun _=> ?_) (fun _=> ?_)
         all_goals
           refine wpS_bind (cn3 l2 fun t3 l3=> ?_)
           refine wpS_bind (y9 ev ?_)
           refine wpS_bind (af0 (base:=0) (n:=na2) (hint:=na2 - 1) C (l3.kind.trans hk) ia mv (by omega) (by omega) (fun x y h1 h2 h3=>ua x y (by omega) h2 (by omega)) fun k kn ka kb=> ?_)
           have m3:Mh rk a b (out2++(a.extract k na2).reverse) k nb2:=m2.manyA sa kn fun n x h1 h2 hx z hz=>by
             have h:=kb n h1 h2
             unfold B5 at h
             rw[if_neg (by decide),dz8,E5 hx] at h
             have hle:rk v < rk x:=by simpa using h
             exact dp4 (af1 sb (by omega) (G5 ev) z hz) (du2 hle)
           have gA:1≤k→R rk a (k - 1)≤rk v:=fun h=>by
             have h:=ka (k - 1) (by omega)
             unfold B5 at h
             rw[if_neg (by decide),dz8] at h
             simpa using h
           refine A6 (fun kz=> ?_) (fun kz=> ?_)
           have kz:na2 - k > 0:=kz
           refine A6 (fun z=>wpS_pure (.inl ⟨_,rfl,doneM _ _ _ _ m3 l3 (.inl (O2 z))⟩)) (fun z1=> ?_)
           have z1:¬k=0:=Q1 z1
           have f1:1≤k:=by omega
           have f2:x+1+k+nb2≤a.size+b.size:=by omega
           have f3:=gA f1
           generalize out2++(a.extract k na2).reverse=out3 at m3 ⊢
           rotate_left
           have kz:¬na2 - k > 0:=kz
           have k0:k=na2:=by omega
           have e0:out2++(a.extract k na2).reverse=out2:=by rw[k0];simp<;>omega
           rw[e0] at m3
           have f1:1≤k:=by omega
           have f2:x+1+k+nb2≤a.size+b.size:=by omega
           have f3:=gA f1
           clear e0
           subst k0
           generalize out2=out3 at m3 ⊢
           rotate_left
           all_goals
             obtain ⟨u3,eu3,mu3⟩:=ia.at (show k - 1 < a.size by omega)
             rw[E5 eu3] at f3
             refine wpS_bind (y9 ev ?_)
             have m4:=stepB out3 k nb2 u3 v m3 f1 (by omega) eu3 ev f3
             refine A6 (fun z=>wpS_pure (.inl ⟨_,rfl,firstM _ _ _ _ m4 l3 (O2 z)⟩)) (fun z3=> ?_)
             have z3:¬nb2 - 1=1:=Q1 z3
             refine wpS_bind (y9 eu3 ?_)
             refine wpS_bind (af0 (base:=0) (n:=nb2 - 1) (hint:=nb2 - 1 - 1) C (l3.kind.trans hk) ib mu3 (by omega) (by omega) (fun x y h1 h2 h3=>ub x y (by omega) h2 (by omega)) fun k' kn' ka' kb'=> ?_)
             have m5:Mh rk a b (out3.push v++(b.extract k' (nb2 - 1)).reverse) k k':=m4.manyB sb kn' fun n x h1 h2 hx z hz=>by
               have h:=kb' n h1 h2
               unfold B5 at h
               rw[if_pos rfl,dz8,E5 hx] at h
               have hle:rk u3≤rk x:=by simpa using h
               exact dp4 (af1 sa f1 (G5 eu3) z hz) hle
             have gB:1≤k'→R rk b (k' - 1) < rk u3:=fun h=>by
               have h:=ka' (k' - 1) (by omega)
               unfold B5 at h
               rw[if_pos rfl,dz8] at h
               simpa using h
             refine A6 (fun kz'=> ?_) (fun kz'=> ?_)
             have kz':nb2 - 1 - k' > 0:=kz'
             refine A6 (fun z=>wpS_pure (.inl ⟨_,rfl,firstM _ _ _ _ m5 l3 (O2 z)⟩)) (fun z4=> ?_)
             have z4:¬k'=1:=Q1 z4
             refine A6 (fun z=>wpS_pure (.inl ⟨_,rfl,doneM _ _ _ _ m5 l3 (.inr (O2 z))⟩)) (fun z5=> ?_)
             have z5:¬k'=0:=Q1 z5
             have f4:2≤k':=by omega
             have f5:x+1+k+k'≤a.size+b.size:=by omega
             have f6:=gB (by omega)
             generalize out3.push v++(b.extract k' (nb2 - 1)).reverse=out4 at m5 ⊢
             rotate_left
             have kz':¬nb2 - 1 - k' > 0:=kz'
             have k0':k'=nb2 - 1:=by omega
             have e0:out3.push v++(b.extract k' (nb2 - 1)).reverse=out3.push v:=by rw[k0'];simp<;>omega
             rw[e0] at m5
             have f4:2≤k':=by omega
             have f5:x+1+k+k'≤a.size+b.size:=by omega
             have f6:=gB (by omega)
             clear e0
             generalize out3.push v=out4 at m5 ⊢
             rotate_left
             all_goals
               have q3:=m5.2.1
               obtain ⟨v4,ev4,mv4⟩:=ib.at (show k' - 1 < b.size by omega)
               rw[E5 ev4] at f6
               have m6:=stepA out4 k k' u3 v4 m5 f1 (by omega) eu3 ev4 (du2 f6)
               refine wpS_bind (y9 eu3 ?_)
               first
                 |refine A6 (fun z=>wpS_pure (.inl ⟨_,rfl,doneM _ _ _ _ m6 l3 (.inl (O2 z))⟩)) (fun z6=> ?_)
                 |(rw[k0'] at m6;refine A6 (fun z=>wpS_pure (.inl ⟨_,rfl,doneM _ _ _ _ m6 l3 (.inl (O2 z))⟩)) (fun z6=> ?_))
               have z6:¬k - 1=0:=Q1 z6
               refine A6 (fun _=> ?_) (fun _=> ?_)
               · first
                   |exact wpS_pure (.inr ⟨k - 1,k',out4.push u3,_,_,_,rfl,l3,m6,by omega,f4,by omega⟩)
                   |exact wpS_pure (.inr ⟨k - 1,nb2 - 1,out4.push u3,_,_,_,rfl,l3,m6,by omega,by omega,by omega⟩)
               · first
                   |exact wpS_pure ⟨k - 1,k',out4.push u3,_,_,_,rfl,l3,m6,by omega,f4,by omega⟩
                   |exact wpS_pure ⟨k - 1,nb2 - 1,out4.push u3,_,_,_,rfl,l3,m6,by omega,by omega,by omega⟩
end
end TS
namespace TS
local macro_rules|`(tactic|omega)=>`(tactic|lia)
open PySem PyProof.Rows
section
variable {rk:Keyed→Nat}
def J8 (xs:Array Keyed)(lo hi:Nat):List Keyed:=(xs.toList.take hi).drop lo
theorem K8 {xs:Array Keyed}{lo hi:Nat}(h:hi≤xs.size):(J8 xs lo hi).length=hi - lo:=by unfold J8;rw[dr2,dp5];simp;omega
theorem J9 {xs:Array Keyed}{lo hi i:Nat}(hi':lo+i < hi):(J8 xs lo hi)[i]? =xs[lo+i]? :=by
 unfold J8
 rw[dy2,dt2 hi',ds8]
theorem ap0 {xs:Array Keyed}{lo hi:Nat}(u:Up rk xs lo hi)(h:hi≤xs.size):E6 (Le rk) (J8 xs lo hi):=by
 refine dq7.mpr fun i j h1 h2 hij=> ?_
 have l:=K8 (lo:=lo) h
 have e1:(J8 xs lo hi)[i]? =some (J8 xs lo hi)[i]:=dn9 h1
 have e2:(J8 xs lo hi)[j]? =some (J8 xs lo hi)[j]:=dn9 h2
 rw[J9 (by omega)] at e1 e2
 have:=u (lo+i) (lo+j) (by omega) (by omega) (by omega)
 rw[E5 e1,E5 e2] at this
 exact this
theorem dc1 {xs:Array Keyed}{lo hi:Nat}(s:E6 (Le rk) (J8 xs lo hi))(h:hi≤xs.size):Up rk xs lo hi:=fun i j h1 h2 h3=>by
 have l:=K8 (lo:=lo) h
 rcases eg5 h2 with z|z
 · have:=dq7.mp s (i - lo) (j - lo) (by omega) (by omega) (by omega)
   have e1:(J8 xs lo hi)[i - lo]? =some (J8 xs lo hi)[i - lo]:=dn9 (by omega)
   have e2:(J8 xs lo hi)[j - lo]? =some (J8 xs lo hi)[j - lo]:=dn9 (by omega)
   rw[J9 (by omega),show lo+(i - lo)=i by omega] at e1
   rw[J9 (by omega),show lo+(j - lo)=j by omega] at e2
   rw[E5 e1,E5 e2]
   exact this
 · rw[z];exact do1 _
theorem V2 {xs:Array Keyed}{lo hi:Nat}{x:Keyed}(h:hi≤xs.size)(hx:x∈J8 xs lo hi):∃i,lo≤i∧i < hi∧xs[i]? =some x:=by
 obtain ⟨i,hi'⟩:=dq9.mp hx
 have l:=K8 (lo:=lo) h
 have:=(do0.mp hi').1
 exact ⟨lo+i,by omega,by omega,by rw[←J9 (hi:=hi) (by omega)];exact hi'⟩
theorem V3 {xs:Array Keyed}{a b c:Nat}(h1:a≤b)(h2:b≤c)(h:c≤xs.size):J8 xs a b++J8 xs b c=J8 xs a c:=by
 refine dr3 fun i=> ?_
 by_cases z:i < b - a
 · rw[dr6 (by rw[K8 (by omega)];omega),J9 (by omega),J9 (by omega)]
 · rw[ds5 (by rw[K8 (by omega)];omega),K8 (by omega)]
   by_cases y:i < c - a
   · rw[J9 (by omega),J9 (by omega)];congr 1;omega
   · rw[do7 (by rw[K8 h];omega),do7 (by rw[K8 h];omega)]
theorem bu9 (xs:Array Keyed):J8 xs 0 xs.size=xs.toList:=by
 unfold J8;rw[ei8,dw1 (by simp)]
def wr (p:Nat)(l:List (Keyed×Nat))(xs:Array Keyed):Array Keyed:=l.foldl (fun a q=>a.setIfInBounds (p+q.2) q.1) xs
theorem af2 (p:Nat):∀(l:List (Keyed×Nat)) (xs:Array Keyed),(wr p l xs).size=xs.size
 |[],xs=>rfl
 |q::l,xs=>(af2 p l _).trans (by simp)
theorem bm2 (p:Nat):∀(m:List Keyed) (n:Nat) (xs:Array Keyed),p+n+m.length≤xs.size→∀k,(wr p (m.zipIdx n) xs)[k]? =if p+n≤k∧k < p+n+m.length then m[k - (p+n)]? else xs[k]?
 |[],n,xs,_,k=>by
  show xs[k]? =_
  rw[if_neg (by simp)]
 |x::m,n,xs,h,k=>by
  rw[dr8] at h ⊢
  show (wr p (m.zipIdx (n+1)) (xs.setIfInBounds (p+n) x))[k]? =_
  rw[bm2 p m (n+1) _ (by rw[Array.size_setIfInBounds];omega) k,Array.getElem?_setIfInBounds]
  by_cases z:k=p+n
  · subst z
    rw[if_neg (by omega),if_pos rfl,if_pos (by omega),if_pos (by omega),ef7]
    rfl
  · by_cases y:p+n≤k∧k < p+n+(m.length+1)
    · rw[if_pos (by omega),if_pos y,show k - (p+n)=k - (p+(n+1))+1 by omega]
      rfl
    · rw[if_neg (by omega),if_neg (by omega),if_neg y]
theorem ch5 {m:List Keyed}{p:Nat}{xs:Array Keyed}(h:p+m.length≤xs.size):J8 (wr p m.zipIdx xs) p (p+m.length)=m:=by
 refine dr3 fun i=> ?_
 by_cases z:i < m.length
 · rw[J9 (by omega),bm2 p m 0 xs h,if_pos (by omega)]
   congr 1;omega
 · rw[do7 (by rw[K8 (by rw[af2];omega)];omega),do7 (by omega)]
theorem bv0 {m:List Keyed}{p:Nat}{xs:Array Keyed}(h:p+m.length≤xs.size):A5 xs (wr p m.zipIdx xs) p (p+m.length):=fun k hk=>by
 rw[bm2 p m 0 xs h,if_neg (by omega)]
theorem ah5 {xs ys:Array Keyed}{lo hi a b:Nat}(hz:ys.size=xs.size)(k:A5 xs ys lo hi)(h:b≤lo∨hi≤a)(hb:b≤xs.size):J8 ys a b=J8 xs a b:=by
 refine dr3 fun i=> ?_
 by_cases z:a+i < b
 · rw[J9 z,J9 z];exact k _ (by omega)
 · rw[do7 (by rw[K8 (by omega)];omega),do7 (by rw[K8 hb];omega)]
theorem ct9 {m:List Keyed}{p:Nat}{xs:Array Keyed}(h:p+m.length≤xs.size)(pm:m.Perm (J8 xs p (p+m.length))):(wr p m.zipIdx xs).Perm xs:=by
 rw[dx6,←bu9 xs,←bu9 (wr p m.zipIdx xs),af2]
 have hk:=bv0 h
 have hs:=af2 p m.zipIdx xs
 rw[←V3 (dq3 p) (show p≤xs.size by omega) (do1 _),←V3 (show p≤p+m.length by omega) (show p+m.length≤xs.size by omega) (do1 _)]
 rw[←V3 (xs:=wr p m.zipIdx xs) (dq3 p) (show p≤xs.size by omega) (by omega),←V3 (xs:=wr p m.zipIdx xs) (show p≤p+m.length by omega) (show p+m.length≤xs.size by omega) (by omega)]
 rw[ah5 hs hk (.inl (do1 _)) (by omega),ah5 hs hk (.inr (do1 _)) (do1 _),ch5 h]
 exact List.Perm.append_left _ (pm.append_right _)
end
end TS
namespace TS
local macro_rules|`(tactic|omega)=>`(tactic|lia)
open PySem PyProof.Rows
section
variable {prog:Program} {w:World} {A:Around} {E:Value→Shared→Prop} {s:Shared}
variable {rk:Keyed→Nat} {a0:Array Keyed} {κ:SortKind}
theorem cu0 {st:SortSt}(B:Bs a0 κ st)(lo hi:Nat):In0 a0 ((arrOf st).extract lo hi):=fun x hx=>by
 rw[P4] at hx
 exact (dx6.mp B.perm).mem_iff.mp (du6 (dy4 hx))
theorem ba6 {st:SortSt}(B:Bs a0 κ st):In0 a0 (arrOf st):=fun x hx=>(dx6.mp B.perm).mem_iff.mp hx
theorem bv3 {xs:Array Keyed}{lo hi i:Nat}(h:lo+i < hi):(xs.extract lo hi)[i]? =xs[lo+i]? :=by
 rw[←ds8,P4];exact J9 h
theorem dc2 {st:SortSt}{i sa na nb pw pw2:Nat}{Q:Bool→SortSt→Prop}(C:Cm prog w A s κ rk a0)(B:Bs a0 κ st)(e1:(pendingOf st)[i]? =some (sa,na,pw))(e2:(pendingOf st)[i+1]? =some (sa+na,nb,pw2))(n1:1≤na)(n2:1≤nb)
   (hz:sa+na+nb≤a0.size) (u1:Up rk (arrOf st) sa (sa+na)) (u2:Up rk (arrOf st) (sa+na) (sa+na+nb))
   (h:∀t,Bs a0 κ t→Up rk (arrOf t) sa (sa+na+nb)→A5 (arrOf st) (arrOf t) sa (sa+na+nb)→pendingOf t=((pendingOf st).setIfInBounds i (sa,na+nb,pw)).eraseIdxIfInBounds (i+1)→Q true t):
   wpS (model prog w) A E s (mergeAt' i) Q st:=by
 have hs:=B.size
 refine wpS_bind (wpS_get ?_)
 rw[show (sortPriv%PySem.Builtin.SortState.pending) st=pendingOf st from rfl,e1,e2]
 refine wpS_bind (wpS_modify (f:=fun _=>setPending st (((pendingOf st).setIfInBounds i (sa,na+nb,pw)).eraseIdxIfInBounds (i+1))) ?_)
 obtain ⟨pd,hpd⟩:∃pd,pd=((pendingOf st).setIfInBounds i (sa,na+nb,pw)).eraseIdxIfInBounds (i+1):=⟨_,rfl⟩
 rw[←hpd] at h ⊢
 have B1:Bs a0 κ (setPending st pd):=⟨B.perm,B.kind,B.ok⟩
 obtain ⟨xs,hxs⟩:∃xs,xs=arrOf st:=⟨_,rfl⟩
 have In:=ba6 B
 have ext0:=fun lo hi=>cu0 B lo hi
 rw[←hxs] at hs u1 u2 h In ext0
 have hxz:sa+na+nb≤xs.size:=by omega
 obtain ⟨key,ek,mk⟩:=In.at (show sa+na < xs.size by omega)
 have ek':(arrOf st)[sa+na]? =some key:=by rw[←hxs];exact ek
 refine wpS_bind (y9 ek' ?_)
 refine wpS_bind (af0 (left:=false) (arr:=arrOf st) (base:=sa) (n:=na) (hint:=0) C B1.kind (ba6 B) mk (by rw[←hxs];omega) (by omega) (by rw[←hxs];exact u1) fun k kn ka kb=> ?_)
 have ka1:∀i,sa≤i→i < sa+k→R rk xs i≤rk key:=fun i h1 h2=>by
   have:=ka (i - sa) (by omega)
   unfold B5 at this
   rw[if_neg (by decide),←hxs,show sa+(i - sa)=i by omega] at this
   simpa using this
 have kb1:∀i,sa+k≤i→i < sa+na→rk key < R rk xs i:=fun i h1 h2=>by
   have:=kb (i - sa) (by omega) (by omega)
   unfold B5 at this
   rw[if_neg (by decide),←hxs,show sa+(i - sa)=i by omega] at this
   simpa using this
 have rkey:R rk xs (sa+na)=rk key:=E5 ek
 have joined:(∀i,sa≤i→i < sa+na→∀j,sa+na≤j→j < sa+na+nb→R rk xs i≤R rk xs j)→Up rk xs sa (sa+na+nb):=fun g i j h1 h2 h3=>by
   by_cases y:j < sa+na
   · exact u1 i j h1 h2 y
   · by_cases z:i < sa+na
     · exact g i h1 z j (by omega) h3
     · exact u2 i j (by omega) h2 h3
 refine A6 (fun z=> ?_) (fun z=> ?_)
 · have z:na - k=0:=O2 z
   refine wpS_pure (h _ B1 ?_ (by rw[hxs];exact A5.refl _ _ _) rfl)
   show Up rk (arrOf st) _ _
   rw[←hxs]
   refine joined fun i h1 h2 j h3 h4=> ?_
   have a1:=ka1 i h1 (by omega)
   have a2:=u2 (sa+na) j (do1 _) h3 h4
   omega
 have z:¬na - k=0:=Q1 z
 have ep:sa+k+(na - k) - 1=sa+na - 1:=by omega
 obtain ⟨key2,ek2,mk2⟩:=In.at (show sa+na - 1 < xs.size by omega)
 have ek2':(arrOf st)[sa+k+(na - k) - 1]? =some key2:=by rw[ep,←hxs];exact ek2
 have rkey2:R rk xs (sa+na - 1)=rk key2:=E5 ek2
 refine wpS_bind (y9 ek2' ?_)
 refine wpS_bind (af0 (left:=true) (arr:=arrOf st) (base:=sa+na) (n:=nb) (hint:=nb - 1) C B1.kind (ba6 B) mk2 (by rw[←hxs];omega) (by omega) (by rw[←hxs];exact u2) fun k' kn' ka' kb'=> ?_)
 have ka2:∀i,sa+na≤i→i < sa+na+k'→R rk xs i < rk key2:=fun i h1 h2=>by
   have:=ka' (i - (sa+na)) (by omega)
   unfold B5 at this
   rw[if_pos rfl,←hxs,show sa+na+(i - (sa+na))=i by omega] at this
   simpa using this
 have kb2:∀i,sa+na+k'≤i→i < sa+na+nb→rk key2≤R rk xs i:=fun i h1 h2=>by
   have:=kb' (i - (sa+na)) (by omega) (by omega)
   unfold B5 at this
   rw[if_pos rfl,←hxs,show sa+na+(i - (sa+na))=i by omega] at this
   simpa using this
 refine A6 (fun z'=> ?_) (fun z'=> ?_)
 · have z':k'=0:=O2 z'
   refine wpS_pure (h _ B1 ?_ (by rw[hxs];exact A5.refl _ _ _) rfl)
   show Up rk (arrOf st) _ _
   rw[←hxs]
   refine joined fun i h1 h2 j h3 h4=> ?_
   have a1:=kb2 j (by omega) h4
   have a2:=u1 i (sa+na - 1) h1 (by omega) (by omega)
   omega
 have z':¬k'=0:=Q1 z'
 have xl:(xs.extract (sa+k) (sa+na)).toList=J8 xs (sa+k) (sa+na):=P4 _ _ _
 have yl:(xs.extract (sa+na) (sa+na+k')).toList=J8 xs (sa+na) (sa+na+k'):=P4 _ _ _
 have xz:(xs.extract (sa+k) (sa+na)).size=na - k:=by rw[Array.size_extract];omega
 have yz:(xs.extract (sa+na) (sa+na+k')).size=k':=by rw[Array.size_extract];omega
 have sx:E6 (Le rk) (xs.extract (sa+k) (sa+na)).toList:=by rw[xl];exact ap0 (fun i j h1 h2 h3=>u1 i j (by omega) h2 h3) (by omega)
 have sy:E6 (Le rk) (xs.extract (sa+na) (sa+na+k')).toList:=by rw[yl];exact ap0 (fun i j h1 h2 h3=>u2 i j h1 h2 (by omega)) (by omega)
 have fx:∀x,(xs.extract (sa+na) (sa+na+k'))[0]? =some x→∀y∈(xs.extract (sa+k) (sa+na)).toList,Le rk x y:=fun x hx y hy=>by
   rw[bv3 (by omega),dw0,ek] at hx
   rw[xl] at hy
   obtain ⟨i,h1,h2,h3⟩:=V2 (by omega) hy
   have:=kb1 i h1 h2
   rw[E5 h3] at this
   rw[←Option.some.inj hx]
   exact du2 this
 have ly:∀x∈(xs.extract (sa+na) (sa+na+k')).toList,∀y,(xs.extract (sa+k) (sa+na))[(xs.extract (sa+k) (sa+na)).size - 1]? =some y→Le rk x y:=fun x hx y hy=>by
   rw[xz,bv3 (by omega),show sa+k+(na - k - 1)=sa+na - 1 by omega,ek2] at hy
   rw[yl] at hx
   obtain ⟨i,h1,h2,h3⟩:=V2 (by omega) hx
   have:=ka2 i h1 h2
   rw[E5 h3] at this
   rw[←Option.some.inj hy]
   exact du2 this
 have fin:∀m t,MQ rk (xs.extract (sa+k) (sa+na)) (xs.extract (sa+na) (sa+na+k')) (setPending st pd) m t→Q true (setArr t (wr (sa+k) m.toList.zipIdx (arrOf t)))∧failedOf t=none:=by
   rintro m t ⟨⟨pm,sm⟩,l⟩
   have lm:m.toList.length=na - k+k':=by rw[pm.length_eq,do6,dq0,dq0,xz,yz]
   have ea:arrOf t=xs:=by rw[l.arr,hxs]
   have hle:sa+k+m.toList.length≤xs.size:=by omega
   have esg:J8 xs (sa+k) (sa+k+m.toList.length)=J8 xs (sa+k) (sa+na)++J8 xs (sa+na) (sa+na+k'):=by
     rw[V3 (by omega) (by omega) (by omega)];congr 1;omega
   have pm':m.toList.Perm (J8 xs (sa+k) (sa+k+m.toList.length)):=by rw[esg,←xl,←yl];exact pm
   have kw:=bv0 hle
   have zw:=af2 (sa+k) m.toList.zipIdx xs
   refine ⟨h _ ⟨?_,l.kind.trans B1.kind,l.ok.trans B1.ok⟩ ?_ ?_ l.pend,l.ok.trans B1.ok⟩
   · show (wr (sa+k) m.toList.zipIdx (arrOf t)).Perm a0
     rw[ea]
     refine (ct9 hle pm').trans ?_
     rw[hxs];exact B.perm
   · show Up rk (wr (sa+k) m.toList.zipIdx (arrOf t)) sa (sa+na+nb)
     rw[ea]
     refine dc1 ?_ (by omega)
     rw[←V3 (show sa≤sa+k by omega) (show sa+k≤sa+na+nb by omega) (by omega),←V3 (show sa+k≤sa+k+m.toList.length by omega) (show sa+k+m.toList.length≤sa+na+nb by omega) (by omega),ch5 hle,
       ah5 zw kw (.inl (do1 _)) (by omega),ah5 zw kw (.inr (do1 _)) (by omega)]
     have mm:∀x∈m.toList,(∃i,sa+k≤i∧i < sa+na∧xs[i]? =some x)∨(∃i,sa+na≤i∧i < sa+na+k'∧xs[i]? =some x):=fun x hx=>by
       have:=pm.mem_iff.mp hx
       rw[xl,yl] at this
       rcases dp3.mp this with e|e
       · exact .inl (V2 (by omega) e)
       · exact .inr (V2 (by omega) e)
     refine S4.mpr ⟨ap0 (fun i j h1 h2 h3=>u1 i j h1 h2 (by omega)) (by omega),S4.mpr ⟨sm,ap0 (fun i j h1 h2 h3=>u2 i j (by omega) h2 h3) (by omega),fun x hx y hy=> ?_⟩,fun x hx y hy=> ?_⟩
     · obtain ⟨j,j1,j2,j3⟩:=V2 (by omega) hy
       have b2:=kb2 j (by omega) j2
       rw[E5 j3] at b2
       rcases mm x hx with ⟨i,i1,i2,i3⟩|⟨i,i1,i2,i3⟩
       · have b1:=u1 i (sa+na - 1) (by omega) (by omega) (by omega)
         rw[E5 i3,rkey2] at b1
         exact dp4 b1 b2
       · have b1:=ka2 i i1 i2
         rw[E5 i3] at b1
         show rk x≤rk y
         omega
     · obtain ⟨i,i1,i2,i3⟩:=V2 (by omega) hx
       have b1:=ka1 i i1 i2
       rw[E5 i3] at b1
       show rk x≤rk y
       rcases dp3.mp hy with e|e
       · rcases mm y e with ⟨j,j1,j2,j3⟩|⟨j,j1,j2,j3⟩
         · have b2:=kb1 j j1 j2
           rw[E5 j3] at b2
           omega
         · have b2:=u2 (sa+na) j (do1 _) j1 (by omega)
           rw[E5 j3,rkey] at b2
           omega
       · obtain ⟨j,j1,j2,j3⟩:=V2 (by omega) e
         have b2:=u2 (sa+na) j (do1 _) (by omega) j2
         rw[E5 j3,rkey] at b2
         omega
   · show A5 xs (wr (sa+k) m.toList.zipIdx (arrOf t)) _ _
     rw[ea]
     exact kw.wide (by omega) (by omega)
 have ix:=ext0 (sa+k) (sa+na)
 have iy:=ext0 (sa+na) (sa+na+k')
 have k1:kindOf (setPending st pd)=κ:=B1.kind
 have end_:∀m t,MQ rk (xs.extract (sa+k) (sa+na)) (xs.extract (sa+na) (sa+na+k')) (setPending st pd) m t→Q (failedOf (setArr t (wr (sa+k) m.toList.zipIdx (arrOf t)))).isNone (setArr t (wr (sa+k) m.toList.zipIdx (arrOf t))):=fun m t q=>by
   obtain ⟨f1,f2⟩:=fin m t q
   show Q (failedOf t).isNone _
   rw[f2];exact f1
 rw[hxs] at ix iy sx sy fx ly end_ xz yz
 have g1:1≤((arrOf st).extract (sa+k) (sa+na)).size:=by rw[xz];omega
 have g2:1≤((arrOf st).extract (sa+na) (sa+na+k')).size:=by rw[yz];omega
 refine A6 (fun _=> ?_) (fun _=> ?_)
 · refine wpS_bind (wpS_mono (db9 C k1 ix iy g1 g2 sx sy fx ly) fun m t q=> ?_)
   exact wpS_bind (wpS_modify (wpS_bind (wpS_get (wpS_pure (end_ m t q)))))
 · refine wpS_bind (wpS_mono (dc0 C k1 ix iy g1 g2 sx sy fx ly) fun m t q=> ?_)
   exact wpS_bind (wpS_modify (wpS_bind (wpS_get (wpS_pure (end_ m t q)))))
end
end TS
namespace TS
local macro_rules|`(tactic|omega)=>`(tactic|lia)
open PySem PyProof.Rows
section
variable {rk:Keyed→Nat}
def C3 (rk:Keyed→Nat)(xs:Array Keyed):List (Nat×Nat×Nat)→Nat→Nat→Prop
 |[],a,b=>a=b
 |q::r,a,b=>q.1=a∧1≤q.2.1∧Up rk xs a (a+q.2.1)∧C3 rk xs r (a+q.2.1) b
theorem C3.len {xs:Array Keyed}:∀{l:List (Nat×Nat×Nat)} {a b:Nat},C3 rk xs l a b→a+l.length≤b
 |[],a,b,h=>eb9 h
 |q::r,a,b,⟨h1,h2,h3,h4⟩=>by
  have:=C3.len h4
  rw[dr8];omega
theorem C3.app {xs:Array Keyed}:∀{l m:List (Nat×Nat×Nat)} {a b:Nat},C3 rk xs (l++m) a b↔∃c,C3 rk xs l a c∧C3 rk xs m c b
 |[],m,a,b=>⟨fun h=>⟨a,rfl,h⟩,fun ⟨c,e,h⟩=>by cases e;exact h⟩
 |q::r,m,a,b=>by
  constructor
  · rintro ⟨h1,h2,h3,h4⟩
    obtain ⟨c,g1,g2⟩:=C3.app.mp h4
    exact ⟨c,⟨h1,h2,h3,g1⟩,g2⟩
  · rintro ⟨c,⟨h1,h2,h3,h4⟩,g⟩
    exact ⟨h1,h2,h3,C3.app.mpr ⟨c,h4,g⟩⟩
theorem C3.kept {xs ys:Array Keyed}{lo hi:Nat}(k:A5 xs ys lo hi):∀{l:List (Nat×Nat×Nat)} {a b:Nat},C3 rk xs l a b→b≤lo∨hi≤a→C3 rk ys l a b
 |[],a,b,h,_=>h
 |q::r,a,b,⟨h1,h2,h3,h4⟩,hk=>by
  have:=C3.len h4
  exact ⟨h1,h2,k.up h3 (by omega),C3.kept k h4 (by omega)⟩
theorem bf1 {α:Type}:∀(l:List α) (x y z:α) (m:List α),((l++x::y::m).set l.length z).eraseIdx (l.length+1)=l++z::m
 |[],x,y,z,m=>rfl
 |a::l,x,y,z,m=>by
  show a::(((l++x::y::m).set l.length z).eraseIdx (l.length+1))=_
  rw[bf1 l x y z m];rfl
theorem dc3 {α:Type}{l:List α}{i:Nat}(h:i+1 < l.length):l=l.take i++l[i]::l[i+1]::l.drop (i+2):=by
 have e1:=du4 (show i < l.length by omega)
 have e2:=du4 h
 rw[←e2,←e1,dt6]
theorem bv4 {xs:Array Keyed}{pw:Nat}:∀{l:List (Nat×Nat×Nat)} {n a b:Nat},C3 rk xs l a b→C3 rk xs (l.modify n fun q=>(q.1,q.2.1,pw)) a b
 |[],n,a,b,h=>by cases n<;>exact h
 |q::r,0,a,b,⟨h1,h2,h3,h4⟩=>⟨h1,h2,h3,h4⟩
 |q::r,n+1,a,b,⟨h1,h2,h3,h4⟩=>⟨h1,h2,h3,bv4 h4⟩
end
section
variable {prog:Program} {w:World} {A:Around} {E:Value→Shared→Prop} {s:Shared}
variable {rk:Keyed→Nat} {a0:Array Keyed} {κ:SortKind}
theorem ch6 {st:SortSt}{i lo:Nat}{Q:Bool→SortSt→Prop}(C:Cm prog w A s κ rk a0)(B:Bs a0 κ st)(cv:C3 rk (arrOf st) (pendingOf st).toList 0 lo)(hl:lo≤a0.size)(hi:i+1 < (pendingOf st).size)
   (h:∀t,Bs a0 κ t→C3 rk (arrOf t) (pendingOf t).toList 0 lo→(pendingOf t).size+1=(pendingOf st).size→A5 (arrOf st) (arrOf t) 0 lo→Q true t):wpS (model prog w) A E s (mergeAt' i) Q st:=by
 obtain ⟨l,hl0⟩:∃l,l=(pendingOf st).toList:=⟨_,rfl⟩
 have ll:l.length=(pendingOf st).size:=by rw[hl0];simp
 have hil:i+1 < l.length:=by omega
 have e:=dc3 hil
 rw[←hl0,e] at cv
 obtain ⟨c,c1,d1,d2,d3,f1,f2,f3,g⟩:=C3.app.mp cv
 have lg:=C3.len g
 have e1:(pendingOf st)[i]? =some (c,l[i].2.1,l[i].2.2):=by
   rw[←ds8,←hl0,dn9 (by omega),←d1]
 have e2:(pendingOf st)[i+1]? =some (c+l[i].2.1,l[i+1].2.1,l[i+1].2.2):=by
   rw[←ds8,←hl0,dn9 hil,←f1]
 refine dc2 C B e1 e2 d2 f2 (by omega) d3 f3 fun t B' u k p=> ?_
 have lt:(l.take i).length=i:=by rw[dp5];omega
 have ep:(pendingOf t).toList=l.take i++(c,l[i].2.1+l[i+1].2.1,l[i].2.2)::l.drop (i+2):=by
   rw[p,Array.toList_eraseIdxIfInBounds,Array.toList_setIfInBounds,←hl0]
   have:=bf1 (l.take i) l[i] l[i+1] (c,l[i].2.1+l[i+1].2.1,l[i].2.2) (l.drop (i+2))
   rw[lt,←e] at this
   exact this
 have lc:=C3.len c1
 refine h t B' ?_ ?_ (k.wide (dq3 _) (by omega))
 · rw[ep]
   refine C3.app.mpr ⟨c,C3.kept k c1 (.inl (do1 _)),rfl,by show 1≤l[i].2.1+l[i+1].2.1;omega,?_,?_⟩
   · show Up rk (arrOf t) c (c+(l[i].2.1+l[i+1].2.1))
     rw[←ec4];exact u
   · show C3 rk (arrOf t) (l.drop (i+2)) (c+(l[i].2.1+l[i+1].2.1)) lo
     rw[←ec4]
     exact C3.kept k g (.inr (do1 _))
 · rw[←dq0,ep,do6,dr8,dr2,lt]
   omega
theorem dh1 {c:Prop}[Decidable c]{a b n:Nat}(h1:a≤n)(h2:b≤n):(if c then a else b)≤n:=by split<;>assumption
theorem cn4 {t:SortSt}{lo n:Nat}(cv:C3 rk (arrOf t) (pendingOf t).toList 0 lo)(n1:1≤n)(u:Up rk (arrOf t) lo (lo+n)):C3 rk (arrOf t) ((pendingOf t).push (lo,n,0)).toList 0 (lo+n):=by
 rw[ea3]
 exact C3.app.mpr ⟨lo,cv,rfl,n1,u,rfl⟩
theorem dm4 {st:SortSt}{Q:Unit→SortSt→Prop}(C:Cm prog w A s κ rk a0)(B:Bs a0 κ st)(pe:pendingOf st= #[])(h2:2≤a0.size)
   (h:∀t,Bs a0 κ t→Up rk (arrOf t) 0 a0.size→Q () t):wpS (model prog w) A E s sortRuns' Q st:=by
 rw[sortRuns'_eq]
 refine wpS_bind (wpS_get ?_)
 dsimp only
 rw[B.size]
 generalize minRun' a0.size a0.size 0=mr
 refine wpS_bind (wpS_mono (wpS_forRange (I:=fun x c t=>∃lo,c=(none,lo)∧Bs a0 κ t∧C3 rk (arrOf t) (pendingOf t).toList 0 lo∧lo≤a0.size∧(x≤lo∨a0.size≤lo))
   (Q:=fun c t=>∃lo,c=(none,lo)∧Bs a0 κ t∧C3 rk (arrOf t) (pendingOf t).toList 0 lo∧lo=a0.size) ?step ?fin ⟨0,rfl,B,by rw[pe];exact rfl,dq3 _,.inl (do1 _)⟩) ?post)
 case fin=>
   rintro c t ⟨lo,rfl,B',cv,h3,h4⟩
   exact ⟨lo,rfl,B',cv,by omega⟩
 case step=>
   rintro x c t _ xn ⟨lo,rfl,B',cv,h3,h4⟩
   refine A6 (fun z=>wpS_pure ⟨lo,rfl,B',cv,by have z:lo≥a0.size:=z;omega⟩) (fun z=> ?_)
   have z:¬lo≥a0.size:=z
   refine wpS_bind (wpS_mono (db7 (lo:=lo) (nrem:=a0.size - lo) C (by omega) (by omega) B') ?_)
   rintro r t1 ⟨n,rfl,B1,n1,n2,u1,k1,p1⟩
   have cv1:C3 rk (arrOf t1) (pendingOf t1).toList 0 lo:=by rw[p1];exact C3.kept k1 cv (.inl (do1 _))
   clear k1 p1
   refine A6 (fun y=> ?_) (fun y=> ?_)
   have y:n < mr:=y
   refine wpS_bind (wpS_lift (wpAny_rule ⟨rfl,?_⟩))
   refine wpS_bind (db6 (lo:=lo) (n:=min (a0.size - lo) mr) (ok:=n) C (by omega) (by omega) B1 u1 fun t2 B2 u2 k2 p2=> ?_)
   refine A6 (fun h=>absurd h (by decide)) (fun _=> ?_)
   have cv2:C3 rk (arrOf t2) (pendingOf t2).toList 0 lo:=by rw[p2];exact C3.kept k2 cv1 (.inl (do1 _))
   have N1:1≤min (a0.size - lo) mr:=by omega
   have N2:lo+min (a0.size - lo) mr≤a0.size:=by omega
   clear p2 k2
   generalize min (a0.size - lo) mr=N at u2 N1 N2 ⊢
   rotate_left
   have N1:1≤n:=n1
   have N2:lo+n≤a0.size:=by omega
   have B2:=B1
   have u2:=u1
   have cv2:=cv1
   generalize t1=t2 at B2 u2 cv2 ⊢
   generalize n=N at N1 N2 u2 ⊢
   rotate_left
   all_goals
     refine wpS_bind (wpS_get ?_)
     cases hb:(pendingOf t2).back? with
     |none=>
      exact wpS_bind (wpS_modify (wpS_pure ⟨lo+N,rfl,⟨B2.perm,B2.kind,B2.ok⟩,cn4 cv2 N1 u2,N2,by omega⟩))
     |some q=>
      obtain ⟨s1,m1,pw⟩:=q
      refine wpS_bind (wpS_mono (wpS_forRange (I:=fun y c t=>c=(none,())∧Bs a0 κ t∧C3 rk (arrOf t) (pendingOf t).toList 0 lo∧Up rk (arrOf t) lo (lo+N))
        (Q:=fun c t=>c=(none,())∧Bs a0 κ t∧C3 rk (arrOf t) (pendingOf t).toList 0 lo∧Up rk (arrOf t) lo (lo+N)) ?_ (fun _ _ h=>h) ⟨rfl,B2,cv2,u2⟩) ?_)
      · rintro y c t3 _ yn ⟨rfl,B3,cv3,u3⟩
        refine wpS_bind (wpS_get ?_)
        by_cases g:(pendingOf t3).size > 1
        · rw[if_pos g,ea1 (show (pendingOf t3).size - 2 < (pendingOf t3).size by omega)]
          refine A6 (fun _=>wpS_pure ⟨rfl,B3,cv3,u3⟩) (fun _=> ?_)
          refine wpS_bind (ch6 C B3 cv3 (by omega) (by omega) fun t4 B4 cv4 sz k4=> ?_)
          refine A6 (fun h=>absurd h (by decide)) (fun _=> ?_)
          exact wpS_pure ⟨rfl,B4,cv4,k4.up u3 (.inr (do1 _))⟩
        · rw[if_neg g]
          exact wpS_pure ⟨rfl,B3,cv3,u3⟩
      · rintro c t3 ⟨rfl,B3,cv3,u3⟩
        refine wpS_bind (wpS_modify (wpS_bind (wpS_modify (wpS_pure ⟨lo+N,rfl,⟨B3.perm,B3.kind,B3.ok⟩,?_,N2,by omega⟩))))
        show C3 rk (arrOf t3) (du8 (Array.push (Array.modify (pendingOf t3) _ _) (lo,N,0))) 0 (lo+N)
        rw[ea3,Array.toList_modify]
        exact C3.app.mpr ⟨lo,bv4 cv3,rfl,N1,u3,rfl⟩
 case post=>
   rintro c t ⟨lo,rfl,B',cv,rfl⟩
   dsimp only
   have lc:=C3.len cv
   refine wpS_bind (wpS_mono (wpS_forRange (I:=fun x c t=>c=(none,())∧Bs a0 κ t∧C3 rk (arrOf t) (pendingOf t).toList 0 a0.size∧((pendingOf t).size≤1∨(pendingOf t).size+x≤a0.size))
     (Q:=fun c t=>c=(none,())∧Bs a0 κ t∧C3 rk (arrOf t) (pendingOf t).toList 0 a0.size∧(pendingOf t).size≤1) ?stepE ?finE ⟨rfl,B',cv,.inr (by rw[←dq0];omega)⟩) ?postE)
   case finE=>
     rintro c t ⟨rfl,B',cv,z⟩
     exact ⟨rfl,B',cv,by omega⟩
   case stepE=>
     rintro x c t _ xn ⟨rfl,B',cv,z⟩
     refine wpS_bind (wpS_get ?_)
     refine A6 (fun y=>wpS_pure ⟨rfl,B',cv,y⟩) (fun y=> ?_)
     have y:¬(pendingOf t).size≤1:=y
     refine wpS_bind (ch6 C B' cv (do1 _) ?_ fun t2 B2 cv2 sz _=> ?_)
     · exact ds2 (Nat.succ_le_succ (dh1 (n:=(pendingOf t).size - 2) (by omega) (do1 _))) (by omega)
     · exact wpS_pure ⟨rfl,B2,cv2,by omega⟩
   case postE=>
     rintro c t ⟨rfl,B',cv,z⟩
     refine wpS_pure (h t B' ?_)
     obtain ⟨l,hl⟩:∃l,l=(pendingOf t).toList:=⟨_,rfl⟩
     have ll:l.length≤1:=by rw[hl,dq0];exact z
     rw[←hl] at cv
     match l,ll,cv with
     |[],_,cv=>have:0=a0.size:=cv;omega
     |[q],_,⟨c1,c2,c3,c4⟩=>
      have c4:0+q.2.1=a0.size:=c4
      rw[c4] at c3
      exact c3
end
end TS
namespace L2
open PySem PySem.Spec PyProof.Rows
section
variable {prog:Program} {w:World} {A:Around} {E:Value→Shared→Prop} {s:Shared}
structure ax9 (prog:Program)(w:World)(A:Around)(s:Shared)(rk:Value→Nat)(vs:List Value):Prop where
 kind:2≤vs.length→∀(Q:SortKind→Shared→Prop) (E:Value→Shared→Prop),Q oneType' s→wpAny (model prog w) A (keyKind' vs.toArray) Q E s
 less:∀x∈vs,∀y∈vs,∀(Q:Bool→Shared→Prop) (E:Value→Shared→Prop),Q (decide (rk x < rk y)) s→wpAny (model prog w) A (oneLt' true x y) Q E s
theorem ba7 {vs:List Value}{p:Keyed}(h:p∈(pairsOf vs).toList):p.1∈vs∧p.2=p.1:=by
 rw[pairsOf_toList] at h
 obtain ⟨i,hi⟩:=dq9.mp h
 obtain ⟨x,y⟩:=p
 rw[List.getElem?_zip_eq_some] at hi
 obtain ⟨e1,e2⟩:=hi
 rw[e1] at e2
 exact ⟨dp0 e1,(Option.some.inj e2).symm⟩
theorem dc4 {rk:Value→Nat}{vs:List Value}{xs:Array Keyed}(hp:xs.Perm (pairsOf vs))(u:TS.Up (fun p=>rk p.1) xs 0 xs.size):(xs.map (·.2)).toList.Perm vs∧(xs.map (·.2)).toList.Pairwise (fun x y=>rk x≤rk y):=by
 have pl:=dx6.mp hp
 have e:xs.toList.map (·.2)=xs.toList.map (·.1):=dt3 fun p hp'=>(ba7 (pl.mem_iff.mp hp')).2
 rw[eh6]
 constructor
 · refine (pl.map _).trans ?_
   rw[←eh6,bf0]
 · show List.Pairwise _ (xs.toList.map (·.2))
   rw[e]
   exact dw2.mpr (TS.dj0 u)
theorem dh2 {rk:Value→Nat}{vs:List Value}(h:ax9 prog w A s rk vs):TS.Cm prog w A s oneType' (fun p=>rk p.1) (pairsOf vs):=fun x hx y hy Q E' q=>by
 rw[keyLt'_oneType]
 exact h.less x.1 (ba7 hx).1 y.1 (ba7 hy).1 Q E' q
theorem dh3 {a:Addr}{vs:List Value}{rk:Value→Nat}{n:Nat}{P:Fin→Shared→Prop}(ho:s.heap.get? a=some (seqObj "list" vs.toArray n))(hl:vs.length≤sizeLine)
   (ok:∀h':Heap,(∀b o,b≠a→s.heap.get? b=some o→h'.get? b=some o)→ax9 prog w A {s with heap:=h'} rk vs)
   (h:∀out:List Value,out.Perm vs→out.Pairwise (fun x y=>rk x≤rk y)→P (.done (.ret .none)) {s with heap:=sortedHeap s.heap a vs out.toArray}):wpAny (model prog w) A (Builtin.«list.sort» ⟨[.ref a],[]⟩) P E s:=by
 rw[list_sort_plain]
 have ha:a < s.heap.objs.size:=Heap.lt_size ho
 have hsz:vs.toArray.size=vs.length:=by simp
 refine wpAny_bind (listItems_at ho rfl ?_)
 refine wpAny_bind (listUpdate_at ho rfl ?_ (by rw[hsz];exact hl) (dq3 _))
 obtain ⟨e1,ho1⟩:∃e1,(s.heap.update a (Obj.mapSeq fun _=> #[])).get? a=some (seqObj "list" #[] e1):=⟨_,get?_update_seq ho (fun _=> #[])⟩
 refine wpAny_bind (seqEpoch_at ho1 rfl ?_)
 refine wpAny_bind (wpAny_newTuple ?_ (hsz:=hl))
 refine wpAny_bind (wpAny_newList ?_)
 refine wpAny_holding ?_
 obtain ⟨H6,e6⟩:∃H6,H6=((s.heap.update a (Obj.mapSeq fun _=> #[])).push (seqObj "tuple" vs.toArray 0)).push (seqObj "list" #[] 0):=⟨_,rfl⟩
 have ho6:H6.get? a=some (seqObj "list" #[] e1):=by
   rw[e6,Heap.get?_push_ne _ _ _ (by rw[size_push',Heap.size_update];exact dt1 (ed6 ha)),Heap.get?_push_ne _ _ _ (by rw[Heap.size_update];exact dt1 ha)]
   exact ho1
 have old:∀b o,b≠a→s.heap.get? b=some o→H6.get? b=some o:=by
   intro b o nb hb
   rw[e6]
   refine Heap.get?_push_of_some _ (Heap.get?_push_of_some _ ?_)
   rw[Heap.get?_update_ne _ _ _ _ nb]
   exact hb
 have ok6:=ok H6 old
 show wpAny (model prog w) A _ P E {s with heap:=((s.heap.update a (Obj.mapSeq fun _=> #[])).push (seqObj "tuple" vs.toArray 0)).push (seqObj "list" #[] 0)}
 unfold sortedHeap at h
 rw[←e6] at h ⊢
 dsimp only
 by_cases h2:vs.toArray.size < 2
 · rw[if_pos h2,if_pos h2]
   refine wpAny_bind (wpAny_pure ?_)
   rw[StateT.run_pure]
   refine wpAny_bind (wpAny_pure ?_)
   dsimp only
   refine wpAny_bind (seqEpoch_at ho6 rfl ?_)
   have ee:(arrOf (SortSt.mk' general' (vs.toArray.zip vs.toArray) #[] 7 none)).map (·.2)=vs.toArray:=bf0 vs
   rw[ee]
   refine wpAny_bind (listUpdate_at ho6 rfl ?_ (dq3 _) (by rw[hsz];omega))
   simp only[bne_self_eq_false,dw6,if_false]
   refine wpAny_pure (h vs (List.Perm.refl _) ?_)
   match vs,hsz,h2 with
   |[],_,_=>exact List.Pairwise.nil
   |[_],_,_=>exact ea8 _ _
   |_::_::_,_,h2=>simp at h2;omega
 · rw[if_neg h2,if_neg h2]
   refine wpAny_bind (ok6.kind (by omega) _ _ ?_)
   refine wpAny_bind (wpAny_mono (TS.dm4 (s:={s with heap:=H6}) (st:=SortSt.mk' oneType' (vs.toArray.zip vs.toArray) #[] 7 none) (a0:=pairsOf vs) (rk:=fun p=>rk p.1)
     (Q:=fun _ st'=>(arrOf st').Perm (pairsOf vs)∧failedOf st'=none∧TS.Up (fun p=>rk p.1) (arrOf st') 0 (pairsOf vs).size) (dh2 ok6) ⟨Array.Perm.refl _,rfl,rfl⟩ rfl (by rw[pairsOf_size];omega) fun t B u=>⟨B.perm,B.ok,u⟩) ?_ fun _ _ e=>e)
   rintro ⟨⟨⟩,st'⟩ s' ⟨rfl,hp,hf,hu⟩
   dsimp only
   rw[←hp.size_eq] at hu
   obtain ⟨o1,o2⟩:=dc4 hp hu
   refine wpAny_bind (seqEpoch_at ho6 rfl ?_)
   refine wpAny_bind (listUpdate_at ho6 rfl ?_ (dq3 _) (by rw[Array.size_map,hp.size_eq,pairsOf_size];omega))
   rw[hf]
   simp only[bne_self_eq_false,dw6,if_false]
   have:=h _ o1 o2
   rw[Array.toArray_toList] at this
   exact wpAny_pure this
theorem cu1 {l:Addr}{vs:List Value}{rk:Value→Nat}{Q:Value→Shared→Prop}(pl:s.heap.IsList l vs.toArray)(hl:vs.length≤sizeLine)
   (ok:∀h':Heap,(∀b o,b < s.heap.objs.size→s.heap.get? b=some o→h'.get? b=some o)→ax9 prog w A.in1.in1 {s with heap:=h'} rk vs)
   (h:∀out:List Value,out.Perm vs→out.Pairwise (fun x y=>rk x≤rk y)→Q (.ref (s.heap.objs.size+1)) {s with heap:=sortedAll s.heap vs out.toArray}):wpAny (model prog w) A (call (.builtin "sorted") [.ref l]) Q E s:=by
 refine Calls.call_function_entry kind_sorted plain_sorted entry_sorted (args_sorted1 _) ?_
 unfold Builtin.«sorted»
 refine wpAny_bind (m:=checkCount "sorted" 1 1 _) (wpAny_pure ?_)
 refine wpAny_bind (collect_list pl ?_ hl)
 refine wpAny_bind (wpAny_newList ?_ (hsz:=hl))
 have hsz:((s.heap.push (seqObj "list" #[] 0)).update s.heap.objs.size (Obj.mapSeq (· ++vs.toArray))).objs.size=s.heap.objs.size+1:=by
   rw[Heap.size_update,size_push']
 have hoL:(((s.heap.push (seqObj "list" #[] 0)).update s.heap.objs.size (Obj.mapSeq (· ++vs.toArray))).push (seqObj "list" vs.toArray 0)).get? (s.heap.objs.size+1)=some (seqObj "list" vs.toArray 0):=by
   rw[←hsz];exact Heap.get?_push_size _ rfl
 show wpAny _ _ _ _ _ {s with heap:=((s.heap.push (seqObj "list" #[] 0)).update s.heap.objs.size (Obj.mapSeq (· ++vs.toArray))).push (seqObj "list" vs.toArray 0)}
 rw[hsz]
 refine wpAny_bind (wpAny_holding (wpAny_call_entry slot_list_sort ⟨_,hoL,rfl⟩ entry_list_sort (dh3 hoL hl (rk:=rk) (fun h' old=>ok h' fun b o lt e=>old b o (dt1 (ed6 lt)) ?_) fun out o1 o2=>⟨_,rfl,?_⟩) (args_list_sort _)))
 · refine Heap.get?_push_of_some _ ?_
   rw[Heap.get?_update_ne _ _ _ _ (dt1 lt)]
   exact Heap.get?_push_of_some _ e
 · exact wpAny_pure ⟨_,rfl,h out o1 o2⟩
end
end L2
namespace L2
open PySem PySem.Spec PyProof.Rows
section
variable {α:Type}
theorem ah6 {p q:α→Bool}(h:∀a,p a=true→q a=true):∀{l:List α} {x:α},x∈l→p x=false→q x=true→l.countP p < l.countP q
 |[],x,hx,_,_=>by cases hx
 |y::l,x,hx,px,qx=>by
  have le:l.countP p≤l.countP q:=List.countP_mono_left fun a _=>h a
  rw[dv5,dv5]
  by_cases e:x=y
  · subst e
    rw[px,qx]
    simp;omega
  · have hx':x∈l:=by
      rcases dp7.mp hx with z|z
      · exact absurd z e
      · exact z
    have:=ah6 h hx' px qx
    cases hp:p y with
    |false=>simp;split<;>omega
    |true=>rw[h y hp];simp;omega
def am3 (lt:α→α→Bool)(l:List α)(x:α):Nat:=l.countP fun y=>lt y x
theorem cu2 {lt:α→α→Bool}(ir:∀a,lt a a=false)(tr:∀a b c,lt a b=true→lt b c=true→lt a c=true)(tot:∀a b,lt a b=false→lt b a=true∨a=b){l:List α}{x y:α}(hx:x∈l)(hy:y∈l):decide (am3 lt l x < am3 lt l y)=lt x y:=by
 unfold am3
 cases h:lt x y with
 |true=>exact decide_eq_true (ah6 (fun a ha=>tr a x y ha h) hx (ir x) h)
 |false=>
  refine decide_eq_false ?_
  rcases tot x y h with z|z
  · have:=ah6 (fun a ha=>tr a y x ha z) hy (ir y) z
    omega
  · rw[z];omega
theorem cu3 {lt:α→α→Bool}(ir:∀a,lt a a=false)(tr:∀a b c,lt a b=true→lt b c=true→lt a c=true){l:List α}{x y:α}(hy:y∈l)(h:am3 lt l x≤am3 lt l y):lt y x=false:=by
 cases z:lt y x with
 |false=>rfl
 |true=>
  have:=ah6 (l:=l) (fun a ha=>tr a y x ha z) hy (ir y) z
  unfold am3 at h
  omega
end
theorem ba8:∀a:List Int,HT.ao3 a a=false
 |[]=>rfl
 |x::a=>by rw[HT.by7,if_pos rfl];exact ba8 a
theorem bv5:∀a b:List Int,HT.ao3 a b=false→HT.ao3 b a=true∨a=b
 |[],[],_=> .inr rfl
 |[],_::_,h=>by rw[HT.cs4] at h;cases h
 |_::_,[],_=> .inl rfl
 |x::a,y::b,h=>by
  rw[HT.by7] at h ⊢
  by_cases e:x=y
  · rw[if_pos e] at h
    rw[if_pos e.symm]
    rcases bv5 a b h with z|z
    · exact .inl z
    · exact .inr (by rw[e,z])
  · rw[if_neg e] at h
    rw[if_neg (fun z=>e z.symm)]
    have:=of_decide_eq_false h
    exact .inl (decide_eq_true (by omega))
theorem bm3:∀a b c:List Int,HT.ao3 a b=true→HT.ao3 b c=true→HT.ao3 a c=true
 |[],[],_,h,_=>by cases h
 |_::_,[],_,h,_=>by cases h
 |_,_::_,[],_,h=>by cases h
 |[],_::_,_::_,_,_=>rfl
 |x::a,y::b,z::c,h,g=>by
  rw[HT.by7] at h g ⊢
  by_cases e:x=y
  · subst e
    rw[if_pos rfl] at h
    by_cases e2:x=z
    · subst e2
      rw[if_pos rfl] at g ⊢
      exact bm3 a b c h g
    · rw[if_neg e2] at g ⊢;exact g
  · rw[if_neg e] at h
    have h1:=of_decide_eq_true h
    by_cases e2:y=z
    · subst e2
      rw[if_neg e];exact h
    · rw[if_neg e2] at g
      have g1:=of_decide_eq_true g
      rw[if_neg (by omega)]
      exact decide_eq_true (by omega)
section
variable {prog:Program} {w:World} {A:Around} {E:Value→Shared→Prop} {s:Shared}
theorem ch7 (hu:A.units < cLine){x y:Value}{ns ms:List Int}(hx:ab7 s.heap x ns)(hy:ab7 s.heap y ms){Q:Bool→Shared→Prop}(q:Q (HT.ao3 ns ms) s):wpAny (model prog w) A (oneLt' true x y) Q E s:=by
 obtain ⟨p,xs,n,rfl,ox,ix⟩:=hx
 obtain ⟨p2,ys,m,rfl,oy,iy⟩:=hy
 rw[oneLt'_eq]
 simp only[if_true]
 refine wpAny_bind (wpAny_cRoomFor hu ?_)
 refine wpAny_bind (wpAny_callSpecialIfBound?_slot (T:="list") ⟨_,ox,rfl⟩ PySem.F.slot_list_lt (call_meets PySem.F.slot_list_lt ⟨_,ox,rfl⟩ PySem.F.entry_list_lt (PySem.F.args_list_lt_2 _ _) (HT.db5 p p2 xs ys n m ns ms ix iy) ⟨⟨ox,oy⟩,?_⟩))
 exact wpAny_truthy_bool q
def adr:Value→Addr
 | .ref a=>a
 |_=>0
theorem ab9:∀{bs:List Addr} {us:List Value},j9 (bs.map V.ref) us→us=bs.map Value.ref
 |[],us,h=>by cases h;rfl
 |b::bs,us,h=>by
  cases h with
  |cons h1 h2=>
   cases h1
   rw[ab9 h2];rfl
theorem bf2:∀bs:List Addr,j9 (bs.map V.ref) (bs.map Value.ref)
 |[]=> .nil
 |b::bs=> .cons rfl (bf2 bs)
theorem cn5 {bs:List Addr}{R:Addr→List Int}(hu:A.units < cLine)(row:∀b∈bs,ab7 s.heap (.ref b) (R b)):ax9 prog w A s (fun v=>am3 HT.ao3 (bs.map R) (R (adr v))) (bs.map Value.ref):=by
 constructor
 · intro h2 Q E q
   match bs,h2,row with
   |[],h2,_=>simp at h2
   |[_],h2,_=>simp at h2
   |b1::b2::bs,_,row=>
    have hr:∀v,v∈Value.ref b1::Value.ref b2::bs.map Value.ref→∃ns,ab7 s.heap v ns:=fun v hv=>by
      obtain ⟨b,hb,rfl⟩:=do9.mp (show v∈(b1::b2::bs).map Value.ref from hv)
      exact ⟨_,row b hb⟩
    exact ch2 hr q
 · intro x hx y hy Q E q
   obtain ⟨b,hb,rfl⟩:=do9.mp hx
   obtain ⟨c,hc,rfl⟩:=do9.mp hy
   refine ch7 hu (row b hb) (row c hc) ?_
   have:=cu2 ba8 bm3 bv5 (l:=bs.map R) (do9.mpr ⟨b,hb,rfl⟩) (do9.mpr ⟨c,hc,rfl⟩)
   show Q (HT.ao3 (R b) (R c)) s
   rw[←this];exact q
end
end L2
namespace L2
open PySem PySem.Spec PyProof.Rows
section
variable {X:Cx}
theorem bm4 (hu:X.A.in1.in1.units < cLine):R1 X (.builtin "sorted") (fun xs H Q=>∃(p:Addr) (bs:List Addr) (rs:List (List Int)),xs=[.ref p]∧g9 X.K H p (bs.map V.ref)∧k7 H bs rs∧
   ∀(cs:List Addr) (ts:List (List Int)) l,cs.Perm bs→ts.Perm rs→k7 H cs ts→ts.Pairwise (fun r r'=>HT.ao3 r' r=false)→H l=none→Q (.ref l) (c9 H l (.lst (cs.map V.ref)))):=by
 intro pins s σ H xs us Q I r h
 obtain ⟨p,bs,rs,rfl,hp,hr,q⟩:=h
 obtain ⟨u,rfl,rx⟩:=ab5 r
 cases rx
 obtain ⟨its,rv,pl,hl⟩:=I.list hp
 have ev:=ab9 rv
 subst ev
 have rows:∀b∈bs,∃r:List Int,H b=some (.lst (r.map V.int)):=fun b hb=>by
   obtain ⟨j,hj⟩:=dq9.mp hb
   have hjl:j < rs.length:=by rw[←hr.1];exact (do0.mp hj).1
   exact ⟨_,hr.2 j b _ hj (dn9 hjl)⟩
 have er:=bz6 hr
 have each:∀h':Heap,(∀b o,b < s.heap.objs.size→s.heap.get? b=some o→h'.get? b=some o)→∀b∈bs,ab7 h' (.ref b) (N0 H b):=by
   intro h' old b hb
   obtain ⟨r,e⟩:=rows b hb
   obtain ⟨_,its,n,v,g⟩:=(show r6 X.prog X.w H s.heap b (.lst (r.map V.int)) from I.hok b _ e)
   rw[Z5 e]
   exact ⟨b,its.toArray,n,rfl,old b _ (Heap.lt_size g) g,by simpa using av2 v⟩
 have hll:(bs.map V.ref).length=bs.length:=dn8 ..
 refine cu1 (rk:=fun v=>am3 HT.ao3 (bs.map (N0 H)) (N0 H (adr v))) pl.isList (by rw[dn8];omega) (fun h' old=>cn5 hu (each h' old)) fun out o1 o2=> ?_
 have eo:out=(out.map adr).map Value.ref:=by
   rw[ds7]
   refine (eb5 out).symm.trans (dt3 fun v hv=> ?_)
   obtain ⟨b,_,rfl⟩:=do9.mp (o1.mem_iff.mp hv)
   rfl
 have pb:(out.map adr).Perm bs:=by
   have:=o1.map adr
   rw[ds7] at this
   have e2:bs.map (adr∘Value.ref)=bs:=(dt3 fun b _=>rfl).trans (eb5 bs)
   rw[e2] at this
   exact this
 have st:((out.map adr).map (N0 H)).Pairwise (fun r r'=>HT.ao3 r' r=false):=by
   rw[ds7]
   refine dw2.mpr (List.Pairwise.imp_of_mem (fun {x y} hx hy h=> ?_) o2)
   refine cu3 ba8 bm3 (l:=bs.map (N0 H)) ?_ h
   exact do9.mpr ⟨adr y,pb.mem_iff.mp (do9.mpr ⟨y,hy,rfl⟩),rfl⟩
 have rw':k7 H (out.map adr) ((out.map adr).map (N0 H)):=⟨(dn8 ..).symm,fun j a r e1 e2=>by
   rw[do2,e1] at e2
   have:=Option.some.inj e2
   obtain ⟨r',e⟩:=rows a (pb.mem_iff.mp (dp0 e1))
   rw[←this,Z5 e];exact e⟩
 have pr:((out.map adr).map (N0 H)).Perm rs:=by rw[←er];exact pb.map _
 obtain ⟨e,he⟩:=sortedAll_at s.heap (bs.map Value.ref) out.toArray
 refine ⟨.ref (s.heap.objs.size+1),_,I.laid (t':=s.toks) (fun _ _ q=>sortedAll_old q) (eg7 _) (show r6 X.prog X.w _ _ _ (.lst ((out.map adr).map V.ref)) from ⟨by rw[dn8,pb.length_eq];omega,out,e,?_,he⟩),rfl,q _ _ _ pb pr rw' st (I.hok.fresh (eg7 _))⟩
 have:=bf2 (out.map adr)
 rw[←eo] at this
 exact this
variable {e:Expr} {t:TA} {p pos kpos:Pos}
def cn6 (K:PySem.W.Frag)(t:TA):TE:=tCB (fun xs H Q=>∃(p:Addr) (bs:List Addr) (rs:List (List Int)),xs=[.ref p]∧g9 K H p (bs.map V.ref)∧k7 H bs rs∧
 ∀(cs:List Addr) (ts:List (List Int)) l,cs.Perm bs→ts.Perm rs→k7 H cs ts→ts.Pairwise (fun r r'=>HT.ao3 r' r=false)→H l=none→Q (.ref l) (c9 H l (.lst (cs.map V.ref)))) t
theorem aq6 (hu:X.A.units+1+1 < cLine)(hm:X.mg "sorted"=none)(ha:PA X [e] t)(hg:Gl X "sorted":=by rfl)(he:starEach [e] X.env=(false,eval e X.env)::starEach [] X.env:=by rfl):
 PE X (.Call (.Name "sorted" p) [e] [] pos) (cn6 X.K t):=R4 (bm4 (by simpa [Around.in1] using hu)) hg hm al8 ha (by decide) (by decide) he rfl
end
end L2
namespace Mth
open L2 (S9)
def ca4 (rs:List (List Int)):Prop:=rs.Pairwise fun r r'=>HT.ao3 r' r=false
theorem ah7:∀{a b:List (List Int)},a.Perm b→ca4 a→ca4 b→a=b
 |[],b,p,_,_=>(List.Perm.nil_eq p)
 |r::a,[],p,_,_=>absurd p.length_eq (by simp)
 |r::a,q::b,p,ha,hb=>by
  have h1:=eg4.mp ha
  have h2:=eg4.mp hb
  have e:r=q:=by
    rcases dp7.mp (p.mem_iff.mp do3) with z|z
    · exact z
    · rcases dp7.mp (p.mem_iff.mpr (do3:q∈q::b)) with y|y
      · exact y.symm
      · have g1:=h2.1 r z
        have g2:=h1.1 q y
        rcases L2.bv5 r q g1 with u|u
        · rw[g2] at u;cases u
        · exact u
  subst e
  rw[ah7 (List.Perm.cons_inv p) h1.2 h2.2]
end Mth
namespace L2
open PySem PySem.Spec PyProof PyProof.Rows
def dh4 (i j:Int):Prop:=i.natAbs < 2^20000∧j.natAbs < 2^20000
theorem cu4 {i j:Int}{n:Nat}(hn:n≤2^20)(h1:i.natAbs < 2^n)(h2:j.natAbs < 2^n):IntMulOk i j:=by
 refine IntMulOk.of_bits ?_ ?_
 · exact dp4 (PySem.intBits_le_iff.mpr h1) hn
 · exact dp4 (PySem.intBits_le_iff.mpr h2) hn
theorem bv6 {X:Cx}:K7 X (binaryOp .Mult) (rI dh4 fun i j=> .int (i*j)):=opI fun _ _ _ _ _ _ _ hc q=>mul_int q (cu4 (by decide) hc.1 hc.2)
end L2
namespace L2
open PySem PySem.Spec PyProof.Rows
section
variable {P:Program} {w:World} {K:PySem.W.Frag} {mg:Str→Option Value} {base h:Heap} {x:Str} {st:Stmt} {f:Addr} {fd:FuncData} {ps:List Str} {k:Nat} {sp:Sp}
def Fu (K:PySem.W.Frag)(x:Str)(st:Stmt)(f:Addr):Prop:=∃fd,PySem.W.nsIn K mainGlobals x=some (some (.ref f))∧A2 K x x st f fd
theorem dh5 {oc:Value}{od an:Option Addr}{osl:Array (Option Value)}{kV doc pm cdv ct:Value}(a:PySem.W.nsIn K mainGlobals x=some (some (.ref f)))(l:K.lookup f=some ⟨oc,od,.func (PySem.W.fnOf x x (Y3 st) (U3 st) (i7 st) .none kV doc pm an cdv ct),osl⟩)
 (c:PySem.W.codeIn K cdv x=true) (k:PySem.W.keepIn K (.ref f)=true):Fu K x st f:=⟨_,a,da7 l c k⟩
theorem i5 (X:K.In h)(G:h.Ns mainGlobals mg)(a:PySem.W.nsIn K mainGlobals x=some (some (.ref f)))(F:A2 K x x st f fd)(b:ag3 K fd ps [])(ok:o8 P w K mg base A0 k f fd ps sp):j7 P w K mg base x k ps sp:=⟨f,fd,PySem.W.mg_of X G a,F.kp,b,ok⟩
def Fre (K:PySem.W.Frag):List Str→Prop
 |[]=>True
 |x::l=>PySem.W.nsIn K mainGlobals x=some none∧Fre K l
end
end L2
namespace My
open PySem L2 Mth
def C4 (i:Nat):Stmt:=PySem.Challenge.pw_turnroots_k22_whole_roots_counted_and_to.main.body.getD i (.Pass ⟨0,0,0,0⟩)
abbrev ah8:Stmt:=C4 10
abbrev O3:Stmt:=C4 11
abbrev W8:Stmt:=C4 12
abbrev T4:Stmt:=C4 13
abbrev ac6:Stmt:=C4 14
abbrev Z9:Stmt:=C4 15
abbrev O4:Stmt:=C4 16
abbrev R7:Stmt:=C4 17
abbrev ah9:Stmt:=C4 18
abbrev T5:Stmt:=C4 19
abbrev am4:Stmt:=C4 22
abbrev V4:Stmt:=C4 23
abbrev ai0:Stmt:=C4 24
abbrev aa0:Stmt:=C4 25
abbrev ai1:Stmt:=C4 26
abbrev ai2:Stmt:=C4 27
abbrev ac7:Stmt:=C4 29
abbrev O5:Stmt:=C4 30
abbrev ac8:Stmt:=C4 31
abbrev W9:Stmt:=C4 32
abbrev X0:Stmt:=C4 34
abbrev aa1:Stmt:=C4 35
abbrev ac9:Stmt:=C4 36
abbrev T6:Stmt:=C4 38
abbrev R8:Stmt:=C4 39
abbrev X1:Stmt:=C4 40
abbrev R9:Stmt:=C4 41
abbrev ad0:Stmt:=C4 42
abbrev P5:Stmt:=C4 43
abbrev ad1:Stmt:=C4 44
abbrev ai3:Stmt:=C4 45
abbrev S0:Stmt:=C4 46
abbrev X2:Stmt:=C4 48
abbrev ai4:Stmt:=C4 49
abbrev ai5:Stmt:=C4 50
abbrev ai6:Stmt:=C4 51
abbrev ai7:Stmt:=C4 52
abbrev ad2:Stmt:=C4 53
abbrev ad3:Stmt:=C4 54
abbrev ap1:Stmt:=C4 55
end My
namespace My
open PySem L2 Mth
structure Bl (mg:Str→Option Value):Prop where
 len:mg "len"=none
 isi:mg "isinstance"=none
 int:mg "int"=none
 bool:mg "bool"=none
 list:mg "list"=none
 range:mg "range"=none
 sum:mg "sum"=none
 min:mg "min"=none
 max:mg "max"=none
 enum:mg "enumerate"=none
 zip:mg "zip"=none
 sorted:mg "sorted"=none
 tuple:mg "tuple"=none
 str:mg "str"=none
 repr:mg "repr"=none
 all:mg "all"=none
 any:mg "any"=none
 set:mg "set"=none
 dict:mg "dict"=none
 ve:mg "ValueError"=none
section
variable {P:Program} {w:World} {K:PySem.W.Frag} {mg:Str→Option Value} {base:Heap}
def af4 (K:PySem.W.Frag):Sp:=fun vs H Q _=>∃x t b1 b2,vs=[x]∧R3 K H x t∧PySem.W.kitOne K t (.type "int")=some b1∧PySem.W.kitOne K t (.type "bool")=some b2∧Q (.bl (b1&& !b2)) H
theorem cu5:l8 ["thing"] ["thing"] (i7 ah8):=⟨rfl,rfl,rfl,by decide+kernel,rfl,by decide+kernel,by decide+kernel⟩
theorem cn7 {f:Addr}{fd:FuncData}(F:A2 K "is_whole" "is_whole" ah8 f fd)(B:Bl mg):o8 P w K mg base A0 1 f fd ["thing"] (af4 K):=by
 refine F.ok cu5 (fun vs H Q E h=> ?_) (fun cdv A outer s H vs Q E hr h=> ?_)
 · obtain ⟨x,t,b1,b2,rfl,_⟩:=h
   rfl
 · obtain ⟨x,t,b1,b2,rfl,ty,e1,e2,q⟩:=h
   refine ⟨_,e7 (l6 (cy6 (al1 B.isi (c5 (pv 0) (c5 (cl9 B.int) c6))) (cy5 (cy7 (al1 B.isi (c5 (pv 0) (c5 (cf3 B.bool) c6))))))),?_⟩
   refine ⟨x,rfl,x,"int",t,b1,rfl,ty,e1,b1,rfl,?_⟩
   cases b1 with
   |true=>
    refine U4 ⟨x,rfl,x,"bool",t,b2,rfl,ty,e2,b2,rfl,?_⟩
    exact q
   |false=>exact C8 q
def ai8:Sp:=fun vs H Q _=>∃(a:Addr) (ns:List Int),vs=[.ref a]∧H a=some (.lst (ns.map V.int))∧∀(b:Bool) (H':Hp),e8 H H'→(b=true↔ns.length≤40∧j8 ns)→Q (.bl b) H'
theorem as2:l8 ["thing","seen","place"] ["thing"] (i7 am4):=⟨rfl,rfl,rfl,by decide+kernel,rfl,by decide+kernel,by decide+kernel⟩
theorem ch8 {f:Addr}{fd:FuncData}(F:A2 K "is_turn" "is_turn" am4 f fd)(B:Bl mg)(mt:∃t,mg "MOST_THINGS"=some (.int 40 t))(cW:j7 P w K mg base "is_whole" 1 ["thing"] (af4 K)):o8 P w K mg base A0 2 f fd ["thing"] ai8:=by
 refine F.ok as2 (fun vs H Q E h=> ?_) (fun cdv A outer s H vs Q E hr h=> ?_)
 · obtain ⟨a,ns,rfl,_⟩:=h
   rfl
 · obtain ⟨a,ns,rfl,ha,k⟩:=h
   obtain ⟨tk,mt⟩:=mt
   have hu:=S8 hr
   refine ⟨_,c7 (x9 (R0 (Q5 (Q4 (al1 B.isi (c5 (pv 0) (c5 (al3 B.list) c6))))) (V6 (m9 au9 (t8 B.len (c5 (pv 0) c6)) (bs6 (v:= .int 40) (by rfl) mt ⟨tk,rfl⟩) (o9 _)))).pt (e7 (l6 K0)) p8)
     (c7 (i4 (i:=1) as2.nd rfl (Or.inl rfl) Z2)
     (c7 (o6 PassesOwn.never rfl (w9 (pv 0)) (j5 (i:=2) as2.nd rfl (Or.inl rfl))
       (c7 (x9 (R0 (Q5 (Q4 (h8 cW hr (c5 (pv 2) c6)))) (R0 (m9 au8 (pv 2) i6 (o9 _)) (R0 (m9 by4 (pv 2) (t8 B.len (c5 (pv 0) c6)) (o9 _)) (V6 (cc3 (da5 hu (pv 2) (pv 1))))))).pt (e7 (l6 K0)) p8)
       (e7 (az7 hu (pv 1) (pv 2) K0 rfl))))
     (e7 (l6 K0)))),?_⟩
   refine ⟨_,rfl,_,"list",_,true,rfl,.lst ha,U7 K "list",true,rfl,?_⟩
   refine C8 ⟨_,rfl,a,_,rfl,.inl (g9.of ha),_,_,rfl,rfl,_,rfl,?_⟩
   rw[dn8]
   refine W5 (fun h40=> ?_) (fun h40=> ?_)
   · have h40:(40:Int) < (ns.length:Int):=of_decide_eq_true h40
     exact k false H (e8.refl H) ⟨fun z=>(by cases z),fun z=>(by have:=z.1;omega)⟩
   · have h40:¬(40:Int) < (ns.length:Int):=fun z=>h40 (decide_eq_true z)
     intro d hd
     have nad:a≠d:=g6 ha hd
     have ha1:(c9 H d (.dK [])) a=some (.lst (ns.map V.int)):=by rw[g8 nad];exact ha
     refine ⟨_,rfl,a,rfl,⟨_,g9.of ha1⟩,A8 (K:=K) (a:=a) (xs:=ns.map V.int) (fun i σ H2=>∃v:Option V,σ=[some (.ref a),some (.ref d),v]∧e8 H H2∧H2 d=some (.dK (P0 (ns.take i)))∧(ns.take i).Nodup∧∀x∈ns.take i,0≤x∧x < ns.length)
       ⟨none,rfl,e8.upd_new hd,c8,dv8,fun x hx=>by simp at hx⟩ (fun i σ H2 _ ⟨_,_,s2,_⟩=>g9.of (s2 a _ ha)) ?_ ?_⟩
     · rintro i y σ H2 hi ⟨v,rfl,s2,h2,nd,bd⟩
       obtain ⟨z,hz,rfl⟩:=K4 hi
       have ha2:=s2 a _ ha
       have hil:i < ns.length:=(do0.mp hz).1
       refine ⟨_,rfl,.int z,_,true,false,rfl,.int z,U7 K "int",Z3 K,_,rfl,?_⟩
       refine C8 ⟨_,rfl,_,_,rfl,rfl,_,rfl,?_⟩
       refine W5 (fun hz0=> ?_) (fun hz0=> ?_)
       · have hz0:z < 0:=of_decide_eq_true hz0
         exact U4 (k false H2 s2 ⟨fun q=>(by cases q),fun q=>(by have:=q.2.lo z (dp0 hz);omega)⟩)
       have hz0:¬z < 0:=fun q=>hz0 (decide_eq_true q)
       refine ⟨_,rfl,_,rfl,a,_,rfl,.inl (g9.of ha2),_,_,rfl,rfl,_,rfl,?_⟩
       rw[dn8]
       refine W5 (fun hz1=> ?_) (fun hz1=> ?_)
       · have hz1:(ns.length:Int)≤z:=of_decide_eq_true hz1
         exact U4 (k false H2 s2 ⟨fun q=>(by cases q),fun q=>(by have:=q.2.hi z (dp0 hz);omega)⟩)
       have hz1:¬(ns.length:Int)≤z:=fun q=>hz1 (decide_eq_true q)
       refine ⟨_,rfl,_,rfl,d,_,rfl,Z1.k (k:=Sum.inl z) h2,_,rfl,?_⟩
       by_cases hm:z∈ns.take i
       · rw[bj9 hm]
         refine U4 (k false H2 s2 ⟨fun q=>(by cases q),fun q=> ?_⟩)
         exfalso
         obtain ⟨j,hj⟩:=dq9.mp hm
         have hjl:j < i:=by
           have:=(do0.mp hj).1
           rw[dp5] at this
           omega
         rw[dt2 hjl] at hj
         have e1:=(do0.mp hj).2
         have e2:=(do0.mp hz).2
         exact dq7.mp (dp6.mp q.2.nd) j i (by omega) hil hjl (by rw[e1,e2])
       · rw[ar6 hm]
         refine C8 ⟨_,rfl,_,rfl,d,_,rfl,ar4.k (k:=Sum.inl z) h2 (p9 (by unfold P0;rw[dn8,dp5];omega)),?_⟩
         have hds:∀b o,H b=some o→b≠d:=fun b o e=>g6 e hd
         refine ⟨some (.int z),rfl,fun b o e=>by rw[g8 (hds b o e)];exact s2 b o e,?_,?_,?_⟩
         · rw[be5 hm,c8,i9 hz]
         · rw[i9 hz];exact az8 nd hm
         · intro x hx
           rw[i9 hz] at hx
           rcases dp3.mp hx with q|q
           · exact bd x q
           · have:x=z:=by simpa using q
             omega
     · rintro σ H2 ⟨v,rfl,s2,h2,nd,bd⟩
       rw[dn8,dq8] at nd bd
       refine k true H2 s2 ⟨fun _=>⟨by omega,⟨nd,fun x hx=>(bd x hx).1,fun x hx=>(bd x hx).2⟩⟩,fun _=>rfl⟩
end
end My
namespace My
open PySem L2 Mth
section
variable {P:Program} {w:World} {K:PySem.W.Frag} {mg:Str→Option Value} {base:Heap}
def B8 (H:Hp)(a:Addr)(p:List Int):Prop:=H a=some (.lst (p.map V.int))∧j8 p∧p.length≤40
end
end My
namespace My
open PySem L2 Mth
section
variable {P:Program} {w:World} {K:PySem.W.Frag} {mg:Str→Option Value} {base:Heap}
def aa2:Sp:=fun vs H Q _=>∃(a:Addr) (ns:List Int),vs=[.ref a]∧B8 H a ns∧∀(H':Hp),e8 H H'→Q .non H'
theorem dc5:l8 ["thing"] ["thing"] (i7 V4):=⟨rfl,rfl,rfl,by decide+kernel,rfl,by decide+kernel,by decide+kernel⟩
theorem cu6 {f:Addr}{fd:FuncData}(F:A2 K "must_be_turn" "must_be_turn" V4 f fd)(cT:j7 P w K mg base "is_turn" 2 ["thing"] ai8):o8 P w K mg base A0 3 f fd ["thing"] aa2:=by
 refine F.ok dc5 (fun vs H Q E h=> ?_) (fun cdv A outer s H vs Q E hr h=> ?_)
 · obtain ⟨a,ns,rfl,_⟩:=h
   rfl
 · obtain ⟨a,ns,rfl,⟨ha,ht,hl⟩,k⟩:=h
   refine ⟨_,e7 (x9 (Q5 (Q4 (h8 cT hr (c5 (pv 0) c6)))) (e7 N5) p8),?_⟩
   refine ⟨_,rfl,a,ns,rfl,ha,fun b H' s' hb=>⟨b,rfl,?_⟩⟩
   have:b=true:=hb.mpr ⟨hl,ht⟩
   subst this
   exact C8 (k H' s')
end
end My
namespace My
open PySem L2 Mth
def ca5 (H:Hp)(l:Addr):Nat:=match H l with
 |some (.lst xs)=>xs.length
 |_=>0
theorem bm5 {H:Hp}{l:Addr}{xs:List V}(h:H l=some (.lst xs)):ca5 H l=xs.length:=by unfold ca5;rw[h]
end My
namespace My
open PySem L2 Mth
section
variable {P:Program} {w:World} {K:PySem.W.Frag} {mg:Str→Option Value} {base:Heap}
def P6:Sp:=fun vs H Q _=>∃(a:Addr) (p:List Int),vs=[.ref a]∧B8 H a p∧
 ∀(l:Addr) (as:List Addr) (rs:List (List Int)) (H':Hp),H l=none→e8 H H'→H' l=some (.lst (as.map V.ref))→k7 H' as rs→A7 p p.length rs→(∀b∈as,H b=none)→as.Nodup→l∉as→Q (.ref l) H'
theorem L8 {H:Hp}{as:List Addr}{rs:List (List Int)}{e:Addr}{r:List Int}(h:k7 H as rs)(he:H e=some (.lst (r.map V.int))):k7 H (as++[e]) (rs++[r]):=by
 refine ⟨by rw[do6,do6,h.1];rfl,fun j b q h1 h2=> ?_⟩
 by_cases hj:j < as.length
 · rw[dr6 hj] at h1
   rw[dr6 (by rw[←h.1];exact hj)] at h2
   exact h.2 j b q h1 h2
 · rw[ds5 (by omega)] at h1
   rw[ds5 (by rw[←h.1];omega),←h.1] at h2
   have hj0:j - as.length=0:=by
     have:=(do0.mp h1).1
     simpa using this
   rw[hj0] at h1 h2
   cases h1;cases h2
   exact he
theorem p6 {H H':Hp}{as:List Addr}{rs:List (List Int)}(h:k7 H as rs)(k:∀b∈as,∀o,H b=some o→H' b=some o):k7 H' as rs:=
 ⟨h.1,fun j a r h1 h2=>k a (dp0 h1) _ (h.2 j a r h1 h2)⟩
theorem aa3 {H:Hp}{as:List Addr}{rs:List (List Int)}(h:k7 H as rs){b:Addr}(hb:b∈as):∃r:List Int,H b=some (.lst (r.map V.int)):=by
 obtain ⟨j,hj⟩:=dq9.mp hb
 have hjl:=(do0.mp hj).1
 exact ⟨_,h.2 j b (rs[j]'(by rw[←h.1];exact hjl)) hj (dn9 _)⟩
theorem aa4 {p:List Int}{i:Nat}{rs:List (List Int)}(tp:j8 p)(h:A7 p i rs):rs.flatten.length≤p.length:=by
 refine J3 h.nd fun x hx=> ?_
 obtain ⟨r,hr,hxr⟩:=dp9.mp hx
 obtain ⟨y,L,a,b,rfl,_⟩:=h.ring r hr
 exact N8 tp a x hxr
theorem ai9 {p:List Int}{i:Nat}{rs:List (List Int)}(h:A7 p i rs):rs.length≤rs.flatten.length:=by
 have:∀l:List (List Int),(∀r∈l,1≤r.length)→l.length≤l.flatten.length:=by
   intro l
   induction l with
   |nil=>intro _;exact do1 _
   |cons a r ih=>
    intro h
    have h1:=h a do3
    have h2:=ih fun x hx=>h x (do4 _ hx)
    rw[dq1,do6,dr8]
    omega
 refine this rs fun r hr=> ?_
 obtain ⟨y,L,a,b,rfl,_⟩:=h.ring r hr
 rw[m8]
 exact b.pos
end
end My
namespace My
open PySem L2 Mth
section
variable {P:Program} {w:World} {K:PySem.W.Frag} {mg:Str→Option Value} {base:Heap}
def bm6:Sp:=fun vs H Q _=>∃(a:Addr) (p:List Int) (x:Int),vs=[.ref a,.int x]∧B8 H a p∧In p x∧
 ∀(l:Addr) (L:Nat) (H':Hp),H l=none→e8 H H'→C2 p x L→L≤40→H' l=some (.lst ((l9 p x L).map V.int))→Q (.ref l) H'
theorem ay0:l8 ["p","first","ring","thing"] ["p","first"] (i7 ac6):=⟨rfl,rfl,rfl,by decide+kernel,rfl,by decide+kernel,by decide+kernel⟩
theorem cu7 {f:Addr}{fd:FuncData}(F:A2 K "walk_ring" "walk_ring" ac6 f fd):o8 P w K mg base A0 1 f fd ["p","first"] bm6:=by
 refine F.ok ay0 (fun vs H Q E h=> ?_) (fun cdv A outer s H vs Q E hr h=> ?_)
 · obtain ⟨a,p,x,rfl,_⟩:=h
   rfl
 · obtain ⟨a,p,x,rfl,⟨ha,tp,lp⟩,hx,q⟩:=h
   refine ⟨_,c7 (i4 (i:=2) ay0.nd rfl (Or.inl rfl) (w4 (c5 (pv 1) c6)))
     (c7 (i4 (i:=3) ay0.nd rfl (Or.inl rfl) (G3 C0 (pv 0) (pv 1) (fun _ _=>rfl)))
     (c7 (ag2 PassesOwn.never (m9 X8 (pv 3) (pv 1) (o9 _)) (c7 (o7 (E4 (pv 2) (c5 (pv 3) c6))) (e7 (i4 (i:=3) ay0.nd rfl (Or.inl rfl) (G3 C0 (pv 0) (pv 3) (fun _ _=>rfl))))))
     (e7 (l6 (pv 2))))),?_⟩
   refine ⟨_,rfl,(by show 1≤sizeLine;decide),fun l hl=> ?_⟩
   have nal:a≠l:=g6 ha hl
   have hal:(c9 H l (.lst [.int x])) a=some (.lst (p.map V.int)):=by rw[g8 nal];exact ha
   refine ⟨_,rfl,_,rfl,a,_,_,_,rfl,rfl,g9.of hal,U8 hx.1 hx.2,?_⟩
   refine bi5 (fun σ H2=>∃m:Nat,σ=[some (.ref a),some (.int x),some (.ref l),some (.int (it p m x))]∧1≤m∧H2 l=some (.lst ((l9 p x m).map V.int))∧e8 H H2∧∀i,0 < i→i < m→it p i x≠x) (fun _ H2=>p.length+1 - ca5 H2 l)
     ⟨1,rfl,do1 _,c8,e8.upd_new hl,fun i i0 i1=>by omega⟩ ?_ ?_
   · rintro σ H2 ⟨m,rfl,m1,h2l,s2,hne⟩
     have ha2:=s2 a _ ha
     refine ⟨_,rfl,_,rfl,rfl,_,rfl,?_⟩
     by_cases hb:it p m x=x
     · refine Y0 (congrArg V.int hb) ?_
       exact ⟨_,rfl,q l m H2 hl s2 ⟨by omega,hb,hne⟩ (by have:=M1 tp hx hne;omega) h2l⟩
     · have hb':¬V.int (it p m x)=V.int x:=fun z=>hb (V.int.inj z)
       rw[decide_eq_false hb']
       refine U4 ?_
       have hne':∀i,0 < i→i < m+1→it p i x≠x:=fun i i0 i1=>by
         by_cases e:i=m
         · rw[e];exact hb
         · exact hne i i0 (by omega)
       have hbd:=M1 tp hx hne'
       refine ⟨_,rfl,.inl ⟨rfl,_,g9.of h2l⟩,_,rfl,l,_,_,rfl,rfl,h2l,p9 (by rw[dn8,m8];omega),?_⟩
       have hi:=G9 tp hx m
       refine ⟨_,rfl,_,rfl,a,_,_,_,rfl,rfl,g9.of (by rw[g8 nal];exact ha2),U8 hi.1 hi.2,?_⟩
       have h3l:(c9 H2 l (.lst ((l9 p x m).map V.int++[.int (it p m x)]))) l=some (.lst ((l9 p x (m+1)).map V.int)):=by
         rw[c8,bz4,do8];rfl
       refine ⟨⟨m+1,rfl,by omega,h3l,fun b o hb=>by rw[g8 (g6 hb hl)];exact s2 b o hb,hne'⟩,?_⟩
       rw[bm5 h3l,bm5 h2l,dn8,dn8,m8,m8]
       omega
   · rintro σ H2 Q Q' hq ⟨v,hv,u,hu,e1,k1,e2,e3⟩
     exact ⟨v,hv,u,hu,e1,k1,e2,hq _ _ e3⟩
theorem Y6:l8 ["p","rings","seen","first","ring","thing"] ["p"] (i7 Z9):=⟨rfl,rfl,rfl,by decide+kernel,rfl,by decide+kernel,by decide+kernel⟩
theorem cn8 {f:Addr}{fd:FuncData}(F:A2 K "walk_rings" "walk_rings" Z9 f fd)(B:Bl mg)(cR:j7 P w K mg base "walk_ring" 1 ["p","first"] bm6):o8 P w K mg base A0 2 f fd ["p"] P6:=by
 refine F.ok Y6 (fun vs H Q E h=> ?_) (fun cdv A outer s H vs Q E hr h=> ?_)
 · obtain ⟨a,p,rfl,_⟩:=h
   rfl
 · obtain ⟨a,p,rfl,⟨ha,tp,lp⟩,q⟩:=h
   have hu:=S8 hr
   refine ⟨_,c7 (i4 (i:=1) Y6.nd rfl (Or.inl rfl) (w4 c6)) (c7 (i4 (i:=2) Y6.nd rfl (Or.inl rfl) Z2)
     (c7 (o6 PassesOwn.never rfl (K1 (by rfl) B.range (c5 (t8 B.len (c5 (pv 0) c6)) c6)) (j5 (i:=3) Y6.nd rfl (Or.inl rfl))
       (e7 (x9 (cc3 (ce4 hu (pv 3) (pv 2))) (c7 (i4 (i:=4) Y6.nd rfl (Or.inl rfl) (h8 cR hr (c5 (pv 0) (c5 (pv 3) c6)))) (c7 (o7 (E4 (pv 1) (c5 (pv 4) c6)))
         (e7 (o6 PassesOwn.never rfl (w9 (pv 4)) (j5 (i:=5) Y6.nd rfl (Or.inl rfl)) (e7 (az7 hu (pv 2) (pv 5) K0 rfl)))))) p8)))
     (e7 (l6 (pv 1))))),?_⟩
   refine ⟨dq3 _,fun l hl=> ?_⟩
   intro d hd
   have hdl:d≠l:=fun z=>by rw[z,c8] at hd;cases hd
   have hd0:H d=none:=by rw[g8 hdl] at hd;exact hd
   have s0:e8 H (c9 (c9 H l (.lst [])) d (.dK [])):=(e8.upd_new hl).upd_r hd0
   have h0l:(c9 (c9 H l (.lst [])) d (.dK [])) l=some (.lst []):=by rw[g8 hdl.symm,c8]
   refine ⟨_,rfl,a,_,rfl,.inl (g9.of (s0 a _ ha)),(p.length:Int),?_,by omega,by omega,?_⟩
   · rw[dn8]
   rw[show ((p.length:Int)).toNat=p.length by omega]
   refine I0 (lo:=0) (n:=p.length) (fun i σ H2=>∃(as:List Addr) (rs:List (List Int)) (v3 v4 v5:Option V),σ=[some (.ref a),some (.ref l),some (.ref d),v3,v4,v5]∧H2 l=some (.lst (as.map V.ref))∧H2 d=some (.dK (P0 rs.flatten))∧k7 H2 as rs∧A7 p i rs∧e8 H H2∧(∀b∈as,H b=none)∧as.Nodup∧l∉as)
     ⟨[],[],none,none,none,rfl,h0l,c8,⟨rfl,fun j b r h=>by simp at h⟩,aw5 p,s0,fun b hb=>by simp at hb,dv8,by simp⟩ ?_ ?_
   · rintro i σ H2 hi ⟨as,rs,v3,v4,v5,rfl,h2l,h2d,rows,up,s2,fa,nda,nla⟩
     have hx:In p (i:Int):=⟨by omega,by omega⟩
     have e0:(0:Int)+(i:Int)=(i:Int):=by omega
     rw[e0]
     refine ⟨_,rfl,_,rfl,d,_,rfl,Z1.k (k:=Sum.inl (i:Int)) h2d,_,rfl,?_⟩
     by_cases hm:(i:Int)∈rs.flatten
     · rw[bj9 hm]
       refine C8 ?_
       exact ⟨as,rs,_,_,_,rfl,h2l,h2d,rows,aw6 up hm,s2,fa,nda,nla⟩
     · rw[ar6 hm]
       refine U4 ?_
       refine ⟨_,rfl,_,rfl,a,p,_,rfl,⟨s2 a _ ha,tp,lp⟩,hx,fun e L H3 he s23 pr hL h3e=> ?_⟩
       have h3l:=s23 l _ h2l
       have h3d:=s23 d _ h2d
       have nle:l≠e:=g6 h2l he
       have nde:d≠e:=g6 h2d he
       have fl:=aa4 tp up
       have cl:=ai9 up
       have lenas:=rows.1
       refine ⟨_,rfl,.inl ⟨rfl,_,g9.of h3l⟩,_,rfl,l,_,_,rfl,rfl,h3l,p9 (by rw[dn8,lenas];omega),?_⟩
       have es:as.map V.ref++[V.ref e]=(as++[e]).map V.ref:=by rw[do8];rfl
       rw[es]
       have h4l:(c9 H3 l (.lst ((as++[e]).map V.ref))) l=some (.lst ((as++[e]).map V.ref)):=c8
       have h4d:(c9 H3 l (.lst ((as++[e]).map V.ref))) d=some (.dK (P0 rs.flatten)):=by rw[g8 hdl];exact h3d
       have h4e:(c9 H3 l (.lst ((as++[e]).map V.ref))) e=some (.lst ((l9 p i L).map V.int)):=by rw[g8 nle.symm];exact h3e
       have k4:∀b o,H2 b=some o→b≠l→(c9 H3 l (.lst ((as++[e]).map V.ref))) b=some o:=fun b o hb hn=>by rw[g8 hn];exact s23 b o hb
       generalize (c9 H3 l (.lst ((as++[e]).map V.ref)))=H4 at h4l h4d h4e k4 ⊢
       have fr:=aq5 up pr hm
       have ndr:=Q8 tp hx fun j j0 j1=>pr.least j j0 j1
       refine ⟨_,rfl,e,rfl,⟨_,g9.of h4e⟩,A8 (K:=K) (a:=e) (xs:=(l9 p i L).map V.int) (fun j σ H5=>∃v5':Option V,σ=[some (.ref a),some (.ref l),some (.ref d),some (.int (i:Int)),some (.ref e),v5']∧H5 d=some (.dK (P0 (rs.flatten++(l9 p i L).take j)))∧i8 d H4 H5)
         ⟨v5,rfl,by rw[dy3,dq6];exact h4d,i8.refl d H4⟩ (fun j σ H5 _ ⟨_,_,_,k⟩=>g9.of (k e _ h4e nde.symm)) ?_ ?_⟩
       · rintro j y σ H5 hj ⟨v5',rfl,h5d,kb⟩
         obtain ⟨z,hz,rfl⟩:=K4 hj
         have hjl:j < (l9 p i L).length:=(do0.mp hz).1
         rw[m8] at hjl
         have hzn:z∉rs.flatten++(l9 p i L).take j:=by
           intro hm'
           rcases dp3.mp hm' with g|g
           · exact fr z (dp0 hz) g
           · obtain ⟨jj,hjj⟩:=dq9.mp g
             have hjk:jj < j:=by
               have:=(do0.mp hjj).1
               rw[dp5] at this
               omega
             rw[dt2 hjk] at hjj
             have e1:=(do0.mp hjj).2
             have e2:=(do0.mp hz).2
             exact dq7.mp (dp6.mp ndr) jj j (by rw[m8];omega) (by rw[m8];omega) hjk (by rw[e1,e2])
         refine ⟨_,rfl,_,rfl,d,_,rfl,ar4.k (k:=Sum.inl z) h5d (p9 (by unfold P0;rw[dn8,do6,dp5,m8];omega)),?_⟩
         refine ⟨_,rfl,?_,kb.upd_a⟩
         rw[be5 hzn,c8,i9 hz,dq4]
       · rintro σ H5 ⟨v5',rfl,h5d,kb⟩
         rw[dn8,dq8] at h5d
         have nad:∀b∈as,b≠d∧b≠l:=fun b hb=>by
           obtain ⟨r,hr'⟩:=aa3 rows hb
           exact ⟨cq3 hr' h2d (by intro z;cases z),fun z=>nla (z▸hb)⟩
         refine ⟨as++[e],rs++[l9 p i L],_,_,_,rfl,kb l _ h4l hdl.symm,?_,?_,aw7 tp up hx pr hm,?_,?_,?_,?_⟩
         · rw[h5d,ds4,du7]
         · exact L8 (p6 rows fun b hb o ho=>kb b o (k4 b o ho (nad b hb).2) (nad b hb).1) (kb e _ h4e nde.symm)
         · exact fun b o hb=>kb b o (k4 b o (s2 b o hb) (g6 hb hl)) (g6 hb hd0)
         · intro b hb
           rcases dp3.mp hb with g|g
           · exact fa b g
           · have:b=e:=by simpa using g
             rw[this];exact s2.free he
         · refine az8 nda fun g=> ?_
           obtain ⟨r,hr'⟩:=aa3 rows g
           rw[he] at hr';cases hr'
         · intro g
           rcases dp3.mp g with g|g
           · exact nla g
           · exact nle (by simpa using g)
   · rintro σ H2 ⟨as,rs,v3,v4,v5,rfl,h2l,h2d,rows,up,s2,fa,nda,nla⟩
     exact ⟨_,rfl,q l as rs H2 hl s2 h2l rows up fa nda nla⟩
end
end My
namespace My
open PySem L2 Mth
section
variable {P:Program} {w:World} {K:PySem.W.Frag} {mg:Str→Option Value} {base:Heap}
def af5:Sp:=fun vs H Q _=>∃(t r:Addr) (ts rs:List Int) (k:Int),vs=[.ref t,.ref r,.int k]∧H t=some (.lst (ts.map V.int))∧H r=some (.lst (rs.map V.int))∧t≠r∧rs.Nodup∧(∀x∈rs,0≤x∧x < ts.length)∧
 ∀(ts':List Int) (H':Hp),ts'.length=ts.length→(∀j,j < rs.length→x6 ts' (rs.getD j 0)=some (rs.getD (((j:Int)+k)%(rs.length:Int)).toNat 0))→(∀u,0≤u→u∉rs→x6 ts' u=x6 ts u)→H' t=some (.lst (ts'.map V.int))→i8 t H H'→Q .non H'
theorem bm7:l8 ["target","ring","steps","place","thing"] ["target","ring","steps"] (i7 O4):=⟨rfl,rfl,rfl,by decide+kernel,rfl,by decide+kernel,by decide+kernel⟩
theorem cu8 {f:Addr}{fd:FuncData}(F:A2 K "send_along" "send_along" O4 f fd)(B:Bl mg):o8 P w K mg base A0 1 f fd ["target","ring","steps"] af5:=by
 refine F.ok bm7 (fun vs H Q E h=> ?_) (fun cdv A outer s H vs Q E hr h=> ?_)
 · obtain ⟨t,r,ts,rs,k,rfl,_⟩:=h
   rfl
 · obtain ⟨t,r,ts,rs,k,rfl,ht,hrr,ntr,nd,bd,q⟩:=h
   refine ⟨_,e7 (o6 PassesOwn.never rfl (ae5 B.enum (c5 (pv 1) c6)) (S6 rfl (A1 (j5 (i:=3) bm7.nd rfl (Or.inl rfl)) (A1 (j5 (i:=4) bm7.nd rfl (Or.inl rfl)) O9)))
     (e7 (au7 (G3 C0 (pv 1) (l7 B6 (l7 G2 (pv 3) (pv 2)) (t8 B.len (c5 (pv 1) c6))) (fun _ _=>rfl)) (au6 (pv 0) (pv 4) ag4)))),?_⟩
   refine ⟨_,rfl,r,rfl,⟨_,g9.of hrr⟩,Z4 (K:=K) (a:=r) (xs:=rs.map V.int) (fun i σ H2=>∃(ts':List Int) (v3 v4:Option V),σ=[some (.ref t),some (.ref r),some (.int k),v3,v4]∧H2 t=some (.lst (ts'.map V.int))∧ts'.length=ts.length∧(∀j,j < i→x6 ts' (rs.getD j 0)=some (rs.getD (((j:Int)+k)%(rs.length:Int)).toNat 0))∧(∀u,0≤u→u∉rs→x6 ts' u=x6 ts u)∧i8 t H H2)
     ⟨ts,none,none,rfl,ht,rfl,fun j hj=>by omega,fun u _ _=>rfl,i8.refl t H⟩ (fun i σ H2 _ ⟨_,_,_,_,_,_,_,_,k⟩=>g9.of (k r _ hrr ntr.symm)) ?_ ?_⟩
   · rintro i y σ H2 tt hi ⟨ts',v3,v4,rfl,h2t,hl,hj,hu,kb⟩ htt
     obtain ⟨z,hz,rfl⟩:=K4 hi
     have hil:i < rs.length:=(do0.mp hz).1
     have h2r:=kb r _ hrr ntr.symm
     have nt:t≠tt:=g6 h2t htt
     have nr:r≠tt:=g6 h2r htt
     have h3r:(c9 H2 tt (.tup [.int (i:Int),.int z])) r=some (.lst (rs.map V.int)):=by rw[g8 nr];exact h2r
     have h3t:(c9 H2 tt (.tup [.int (i:Int),.int z])) t=some (.lst (ts'.map V.int)):=by rw[g8 nt];exact h2t
     have L0:(0:Int) < (rs.length:Int):=by omega
     have m0:=du1 ((i:Int)+k) (show (rs.length:Int)≠0 by omega)
     have m1:=dw7 ((i:Int)+k) L0
     refine ⟨tt,_,rfl,Q6.of c8,rfl,_,_,rfl,_,_,rfl,rfl,?_⟩
     refine ⟨_,rfl,_,rfl,_,rfl,_,_,rfl,rfl,_,rfl,r,_,rfl,.inl (g9.of h3r),?_⟩
     rw[dn8]
     refine ⟨_,_,rfl,rfl,L0,r,_,_,_,rfl,rfl,g9.of h3r,U8 m0 m1,?_⟩
     obtain ⟨z0,z1⟩:=bd z (dp0 hz)
     refine ⟨_,rfl,_,rfl,t,_,_,z.toNat,rfl,rfl,h3t,?_,?_⟩
     · unfold ixN
       rw[dn8,if_pos z0,if_pos (by omega)]
     have es:(ts'.map V.int).set z.toNat (.int (rs.getD (((i:Int)+k)%(rs.length:Int)).toNat 0))=(ts'.set z.toNat (rs.getD (((i:Int)+k)%(rs.length:Int)).toNat 0)).map V.int:=by rw[ei1]
     rw[es]
     have hzi:rs.getD i 0=z:=by rw[E3 hil];exact (do0.mp hz).2
     refine ⟨_,_,_,rfl,c8,by rw[ea9];exact hl,fun j hji=> ?_,fun u u0 un=> ?_,fun b o hb hn=> ?_⟩
     · by_cases e:j=i
       · subst e
         rw[hzi,ag9 (by omega)]
       · have hjl:j < rs.length:=by omega
         have:rs.getD j 0≠z:=by rw[←hzi];exact P1 nd hjl hil e
         rw[ae4 (bd _ (by rw[E3 hjl];exact dr9 hjl)).1 z0 this]
         exact hj j (by omega)
     · rw[ae4 u0 z0 (fun e=>un (e▸dp0 hz))]
       exact hu u u0 un
     · have:=kb b o hb hn
       rw[g8 hn,g8 (g6 this htt)]
       exact this
   · rintro σ H2 ⟨ts',v3,v4,rfl,h2t,hl,hj,hu,kb⟩
     rw[dn8] at hj
     exact q ts' H2 hl hj hu h2t kb
end
end My
namespace My
open PySem L2 Mth
section
variable {P:Program} {w:World} {K:PySem.W.Frag} {mg:Str→Option Value} {base:Heap}
def af6:Sp:=fun vs H Q _=>∃(a:Addr) (p:List Int) (k:Int),vs=[.ref a,.int k]∧B8 H a p∧∀(l:Addr) (t:List Int) (H':Hp),H l=none→e8 H H'→o3 p k t→H' l=some (.lst (t.map V.int))→Q (.ref l) H'
theorem ba9:l8 ["p","k","told","ring"] ["p","k"] (i7 ai2):=⟨rfl,rfl,rfl,by decide+kernel,rfl,by decide+kernel,by decide+kernel⟩
theorem cn9 {f:Addr}{fd:FuncData}(F:A2 K "power_of" "power_of" ai2 f fd)(B:Bl mg)(cM:j7 P w K mg base "must_be_turn" 3 ["thing"] aa2)(cR:j7 P w K mg base "walk_rings" 2 ["p"] P6)(cS:j7 P w K mg base "send_along" 1 ["target","ring","steps"] af5):o8 P w K mg base A0 4 f fd ["p","k"] af6:=by
 refine F.ok ba9 (fun vs H Q E h=> ?_) (fun cdv A outer s H vs Q E hr h=> ?_)
 · obtain ⟨a,p,k,rfl,_⟩:=h
   rfl
 · obtain ⟨a,p,k,rfl,⟨ha,tp,lp⟩,q⟩:=h
   refine ⟨_,c7 (o7 (h8 cM hr (c5 (pv 0) c6))) (c7 (i4 (i:=2) ba9.nd rfl (Or.inl rfl) (al5 B.list (c5 (pv 0) c6)))
     (c7 (o6 PassesOwn.never rfl (w9 (h8 cR (hr.mono (by decide)) (c5 (pv 0) c6))) (j5 (i:=3) ba9.nd rfl (Or.inl rfl)) (e7 (o7 (h8 cS (hr.mono (by decide)) (c5 (pv 2) (c5 (pv 3) (c5 (pv 1) c6)))))))
     (e7 (l6 (pv 2))))),?_⟩
   refine ⟨_,rfl,a,p,rfl,⟨ha,tp,lp⟩,fun H1 s1=> ?_⟩
   refine ⟨_,rfl,a,_,rfl,.inl (g9.of (s1 a _ ha)),fun l hl=> ?_⟩
   have hl0:H l=none:=s1.free hl
   have s2:e8 H (c9 H1 l (.lst (p.map V.int))):=s1.upd_r hl0
   have h2l:(c9 H1 l (.lst (p.map V.int))) l=some (.lst (p.map V.int)):=c8
   generalize (c9 H1 l (.lst (p.map V.int)))=H2 at s2 h2l ⊢
   refine ⟨_,rfl,a,p,rfl,⟨s2 a _ ha,tp,lp⟩,fun g as rs H3 hg s23 h3g rows up fa nda nga=> ?_⟩
   have h3l:=s23 l _ h2l
   have ngl:g≠l:=fun z=>by rw[z,h2l] at hg;cases hg
   refine ⟨g,rfl,⟨_,g9.of h3g⟩,A8 (K:=K) (a:=g) (xs:=as.map V.ref) (fun i σ H4=>∃(ts:List Int) (v3:Option V),σ=[some (.ref a),some (.int k),some (.ref l),v3]∧H4 l=some (.lst (ts.map V.int))∧ts.length=p.length∧(∀x∈(rs.take i).flatten,∃L,C2 p x L∧x6 ts x=some (it p (k%(L:Int)).toNat x))∧i8 l H3 H4)
     ⟨p,none,rfl,h3l,rfl,fun x hx=>by simp at hx,i8.refl l H3⟩ (fun i σ H4 _ ⟨_,_,_,_,_,_,kb⟩=>g9.of (kb g _ h3g ngl)) ?_ ?_⟩
   · rintro i y σ H4 hi ⟨ts,v3,rfl,h4l,hl4,hx4,kb⟩
     rw[do2] at hi
     cases hai:as[i]? with
     |none=>rw[hai] at hi;cases hi
     |some e=>
      rw[hai] at hi
      cases hi
      have hil:i < as.length:=(do0.mp hai).1
      have hri:rs[i]? =some (rs[i]'(by rw[←rows.1];exact hil)):=dn9 _
      generalize hR:rs[i]'(by rw[←rows.1];exact hil)=R at hri
      have h3e:=rows.2 i e R hai hri
      have hRm:R∈rs:=dp0 hri
      obtain ⟨x,L,hx,pr,eR,_⟩:=up.ring R hRm
      have nle:l≠e:=fun z=>by have:=fa e (dp0 hai);rw[←z,h2l] at this;cases this
      have h4e:=kb e _ h3e nle.symm
      refine ⟨_,rfl,_,rfl,_,rfl,l,e,ts,R,k,rfl,h4l,h4e,nle,?_,?_,?_⟩
      · rw[eR];exact Q8 tp hx fun j j0 j1=>pr.least j j0 j1
      · intro y hy
        rw[eR] at hy
        have:=N8 tp hx y hy
        rw[hl4]
        exact this
      intro ts' H5 hl5 hj hu h5l kb5
      refine ⟨ts',_,rfl,h5l,by omega,fun y hy=> ?_,kb.trans kb5⟩
      rw[i9 hri,ds4,du7] at hy
      have hsplit:rs.flatten=(rs.take i).flatten++(R++(rs.drop (i+1)).flatten):=by
        conv=>lhs;rw[←dt6 i rs,ds4]
        rw[du4 (by rw[←rows.1];exact hil),hR,dq1]
      by_cases hyR:y∈R
      · rw[eR] at hyR
        obtain ⟨j,hjL,rfl⟩:=B0.mp hyR
        refine ⟨L,pr.shift tp hx j,?_⟩
        have hjr:j < R.length:=by rw[eR,m8];exact hjL
        have:=hj j hjr
        have rl:(R.length:Int)=(L:Int):=by rw[eR,m8]
        rw[rl] at this
        have b0:=du1 ((j:Int)+k) (show (L:Int)≠0 by have:=pr.pos;omega)
        have b1:=dw7 ((j:Int)+k) (show (0:Int) < (L:Int) by have:=pr.pos;omega)
        rw[eR,P2 hjL,P2 (by omega),bz5 pr] at this
        exact this
      · rcases dp3.mp hy with g'|g'
        · obtain ⟨M,pm,em⟩:=hx4 y g'
          refine ⟨M,pm,?_⟩
          have y0:0≤y:=by
            obtain ⟨r,hr',hyr⟩:=dp9.mp g'
            obtain ⟨x',L',hx',_,er,_⟩:=up.ring r (du6 hr')
            rw[er] at hyr
            exact (N8 tp hx' y hyr).1
          rw[hu y y0 hyR]
          exact em
        · exact absurd g' hyR
   · rintro σ H4 ⟨ts,v3,rfl,h4l,hl4,hx4,kb⟩
     rw[dn8,rows.1,dq8] at hx4
     refine ⟨_,rfl,q l ts H4 hl0 (fun b o hb=>kb b o (s23 b o (s2 b o hb)) (g6 hb hl0)) ⟨hl4,fun x hx=>hx4 x (up.all x hx.1 hx.2)⟩ h4l⟩
end
end My
namespace My
open PySem L2 Mth
section
variable {P:Program} {w:World} {K:PySem.W.Frag} {mg:Str→Option Value} {base:Heap}
def bh4 (K:PySem.W.Frag):Sp:=fun vs H Q _=>∃(a b:Addr) (xs ys:List V),vs=[.ref a,.ref b]∧g9 K H a xs∧g9 K H b ys∧xs.length=ys.length∧Q .non H
theorem dh6:l8 ["p","q"] ["p","q"] (i7 ai0):=⟨rfl,rfl,rfl,by decide+kernel,rfl,by decide+kernel,by decide+kernel⟩
theorem dc6 {f:Addr}{fd:FuncData}(F:A2 K "must_fit" "must_fit" ai0 f fd)(B:Bl mg):o8 P w K mg base A0 1 f fd ["p","q"] (bh4 K):=by
 refine F.ok dh6 (fun vs H Q E h=> ?_) (fun cdv A outer s H vs Q E hr h=> ?_)
 · obtain ⟨a,b,xs,ys,rfl,_⟩:=h
   rfl
 · obtain ⟨a,b,xs,ys,rfl,ha,hb,hl,k⟩:=h
   refine ⟨_,e7 (x9 (m9 X8 (t8 B.len (c5 (pv 0) c6)) (t8 B.len (c5 (pv 1) c6)) (o9 _)) (e7 N5) p8),?_⟩
   refine ⟨_,rfl,a,xs,rfl,.inl ha,_,rfl,b,ys,rfl,.inl hb,rfl,_,rfl,?_⟩
   refine Y0 (by rw[hl]) k
def as3:Sp:=fun vs H Q _=>∃(a b:Addr) (p q:List Int),vs=[.ref a,.ref b]∧B8 H a p∧B8 H b q∧p.length=q.length∧
 ∀(l:Addr) (H':Hp),H l=none→e8 H H'→H' l=some (.lst ((y7 p q).map V.int))→Q (.ref l) H'
theorem co0:l8 ["p","q"] ["p","q"] (i7 aa0):=⟨rfl,rfl,rfl,by decide+kernel,rfl,by decide+kernel,by decide+kernel⟩
theorem cu9:(["place","p"]:List Str).Nodup:=by decide+kernel
theorem ch9 {f:Addr}{fd:FuncData}(F:A2 K "put_behind" "put_behind" aa0 f fd)(cM:j7 P w K mg base "must_be_turn" 3 ["thing"] aa2)(cF:j7 P w K mg base "must_fit" 1 ["p","q"] (bh4 K)):o8 P w K mg base A0 4 f fd ["p","q"] as3:=by
 refine F.ok co0 (fun vs H Q E h=> ?_) (fun cdv A outer s H vs Q E hr h=> ?_)
 · obtain ⟨a,b,p,q,rfl,_⟩:=h
   rfl
 · obtain ⟨a,b,p,q,rfl,⟨ha,ta,la⟩,⟨hb,tb,lb⟩,hl,k⟩:=h
   refine ⟨_,c7 (o7 (h8 cM hr (c5 (pv 0) c6))) (c7 (o7 (h8 cM hr (c5 (pv 1) c6))) (c7 (o7 (h8 cF (hr.mono (by decide)) (c5 (pv 0) (c5 (pv 1) c6))))
     (e7 (l6 (ae3 (N:=["place","p"]) (nl:=1) (fr:=[0]) rfl .of (w9 (pv 1)) (fun _ _ _ _ _=>j5 (i:=0) cu9 rfl (Or.inl rfl)) (fun _ _ _ _ _=>ag6) (fun _ _ _ _ _=>G3 (r:=cl0 K) C0 (pv 1) (pv 0) (fun _ _=>rfl))))))),?_⟩
   refine ⟨_,rfl,a,p,rfl,⟨ha,ta,la⟩,fun H1 s1=> ?_⟩
   refine ⟨_,rfl,b,q,rfl,⟨s1 _ _ hb,tb,lb⟩,fun H2 s2=> ?_⟩
   have s02:=s1.trans s2
   refine ⟨_,rfl,_,rfl,a,b,_,_,rfl,g9.of (s02 _ _ ha),g9.of (s02 _ _ hb),by simpa using hl,?_⟩
   refine ⟨_,rfl,b,rfl,⟨_,g9.of (s02 _ _ hb)⟩,ab6 (K:=K) (a:=b) (xs:=q.map V.int) (fun i ys σ H3=>∃v,σ=[v,some (.ref a)]∧H3=H2∧ys=(y7 p (q.take i)).map V.int) ⟨none,rfl,rfl,rfl⟩ (fun i ys σ H3 _ ⟨_,_,e,_⟩=>by rw[e];exact g9.of (s02 _ _ hb)) ?_ ?_⟩
   · rintro i x ys σ H3 hi ⟨v,rfl,rfl,rfl⟩
     obtain ⟨z,hz,rfl⟩:=K4 hi
     have hzq:=dp0 hz
     refine ⟨_,rfl,_,rfl,a,_,z,_,rfl,rfl,g9.of (s02 _ _ ha),U8 (tb.lo z hzq) (by have:=tb.hi z hzq;omega),?_,?_⟩
     · refine p9 ?_
       unfold y7
       rw[dn8,dn8,dp5]
       omega
     · refine ⟨_,rfl,rfl,?_⟩
       rw[i9 hz]
       unfold y7
       rw[do8,do8]
       rfl
   · rintro ys σ H3 ⟨v,rfl,rfl,rfl⟩ D hD
     rw[dn8,dq8]
     exact k D _ (s02.free hD) (s02.upd_r (s02.free hD)) c8
end
end My
namespace My
open PySem L2 Mth
section
variable {P:Program} {w:World} {K:PySem.W.Frag} {mg:Str→Option Value} {base:Heap}
def bm8:Sp:=fun vs H Q _=>∃(a:Addr) (p:List Int),vs=[.ref a]∧B8 H a p∧∀(l:Addr) (t:List Int) (H':Hp),H l=none→e8 H H'→o3 p (-1) t→H' l=some (.lst (t.map V.int))→Q (.ref l) H'
theorem dc7:l8 ["p"] ["p"] (i7 ai1):=⟨rfl,rfl,rfl,by decide+kernel,rfl,by decide+kernel,by decide+kernel⟩
theorem cv0 {f:Addr}{fd:FuncData}(F:A2 K "way_back" "way_back" ai1 f fd)(cP:j7 P w K mg base "power_of" 4 ["p","k"] af6):o8 P w K mg base A0 5 f fd ["p"] bm8:=by
 refine F.ok dc7 (fun vs H Q E h=> ?_) (fun cdv A outer s H vs Q E hr h=> ?_)
 · obtain ⟨a,p,rfl,_⟩:=h
   rfl
 · obtain ⟨a,p,rfl,ta,q⟩:=h
   refine ⟨_,e7 (l6 (h8 cP hr (c5 (pv 0) (c5 (cq8 cc6 i6) c6)))),?_⟩
   exact ⟨_,rfl,_,rfl,a,p,-1,rfl,ta,q⟩
end
end My
namespace My
open PySem L2 Mth
section
variable {P:Program} {w:World} {K:PySem.W.Frag} {mg:Str→Option Value} {base:Heap}
theorem ca6:l8 ["p"] ["p"] (i7 ac7):=⟨rfl,rfl,rfl,by decide+kernel,rfl,by decide+kernel,by decide+kernel⟩
theorem br7 {f:Addr}{fd:FuncData}(F:A2 K "rounds_of" "rounds_of" ac7 f fd)(cM:j7 P w K mg base "must_be_turn" 3 ["thing"] aa2)(cR:j7 P w K mg base "walk_rings" 2 ["p"] P6):o8 P w K mg base A0 4 f fd ["p"] P6:=by
 refine F.ok ca6 (fun vs H Q E h=> ?_) (fun cdv A outer s H vs Q E hr h=> ?_)
 · obtain ⟨a,p,rfl,_⟩:=h
   rfl
 · obtain ⟨a,p,rfl,⟨ha,tp,lp⟩,q⟩:=h
   refine ⟨_,c7 (o7 (h8 cM hr (c5 (pv 0) c6))) (e7 (l6 (h8 cR (hr.mono (by decide)) (c5 (pv 0) c6)))),?_⟩
   refine ⟨_,rfl,a,p,rfl,⟨ha,tp,lp⟩,fun H1 s1=> ?_⟩
   exact ⟨_,rfl,a,p,rfl,⟨s1 a _ ha,tp,lp⟩,fun l as rs H' hl s' h1 h2 h3 h4 h5 h6=>q l as rs H' (s1.free hl) (s1.trans s') h1 h2 h3 (fun b hb=>s1.free (h4 b hb)) h5 h6⟩
end
end My
namespace My
open PySem L2 Mth
section
variable {P:Program} {w:World} {K:PySem.W.Frag} {mg:Str→Option Value} {base:Heap}
def bh5:Sp:=fun vs H Q _=>∃(x y:Nat),vs=[.int (x:Int),.int (y:Int)]∧Q (.int (dp8 x y:Nat)) H
theorem bh6:l8 ["a","b","rest"] ["a","b"] (i7 T4):=⟨rfl,rfl,rfl,by decide+kernel,rfl,by decide+kernel,by decide+kernel⟩
def co1 (σ:St):Nat:=match σ[1]? with
 |some (some (V.int i))=>i.toNat
 |_=>0
theorem dc8 {f:Addr}{fd:FuncData}(F:A2 K "greatest_part" "greatest_part" T4 f fd):o8 P w K mg base A0 1 f fd ["a","b"] bh5:=by
 refine F.ok bh6 (fun vs H Q E h=> ?_) (fun cdv A outer s H vs Q E hr h=> ?_)
 · obtain ⟨x,y,rfl,_⟩:=h
   rfl
 · obtain ⟨x,y,rfl,q⟩:=h
   refine ⟨_,c7 (ag2 PassesOwn.never (m9 X8 (pv 1) i6 (o9 _))
       (c7 (i4 (i:=2) bh6.nd rfl (Or.inl rfl) (l7 B6 (pv 0) (pv 1))) (c7 (i4 (i:=0) bh6.nd rfl (Or.inl rfl) (pv 1)) (e7 (i4 (i:=1) bh6.nd rfl (Or.inl rfl) (pv 2))))))
     (e7 (l6 (pv 0))),?_⟩
   refine bi5 (fun σ H2=>∃(a b:Nat) (v:Option V),σ=[some (.int (a:Int)),some (.int (b:Int)),v]∧dp8 a b=dp8 x y∧H2=H) (fun σ _=>co1 σ) ⟨x,y,none,rfl,rfl,rfl⟩ ?_ ?_
   · rintro σ H2 ⟨a,b,v,rfl,hg,rfl⟩
     refine ⟨_,rfl,rfl,_,rfl,?_⟩
     by_cases hb:b=0
     · subst hb
       refine Y0 (by rfl) ?_
       refine ⟨_,rfl,?_⟩
       rw[Nat.gcd_zero_right] at hg
       rw[hg]
       exact q
     · have hb':¬V.int (b:Int)=V.int 0:=fun z=>hb (by have:=V.int.inj z;omega)
       rw[decide_eq_false hb']
       refine U4 ?_
       refine ⟨_,rfl,_,rfl,_,_,rfl,rfl,(by show (0:Int) < (b:Int);omega),_,rfl,_,rfl,⟨b,a%b,some (.int ((a:Int)%(b:Int))),?_,?_,rfl⟩,?_⟩
       · rw[dv0];rfl
       · rw[←hg,Nat.gcd_comm a b,Nat.gcd_rec b a,Nat.gcd_comm]
       · show ((a:Int)%(b:Int)).toNat < ((b:Int)).toNat
         have:=dw7 (a:Int) (show (0:Int) < (b:Int) by omega)
         have:=du1 (a:Int) (show (b:Int)≠0 by omega)
         omega
   · rintro σ H2 Q Q' hq ⟨v,hv,e1,k1,e2,e3⟩
     exact ⟨v,hv,e1,k1,e2,hq _ _ e3⟩
end
end My
namespace My
open PySem L2 Mth
section
variable {P:Program} {w:World} {K:PySem.W.Frag} {mg:Str→Option Value} {base:Heap}
def as4:Sp:=fun vs H Q _=>∃(l:Addr) (as:List Addr) (rs:List (List Int)),vs=[.ref l]∧H l=some (.lst (as.map V.ref))∧k7 H as rs∧(∀r∈rs,r≠[])∧Q (.bl true) H
theorem bm9:l8 ["rounds","ring"] ["rounds"] (i7 O5):=⟨rfl,rfl,rfl,by decide+kernel,rfl,by decide+kernel,by decide+kernel⟩
theorem ci0 {f:Addr}{fd:FuncData}(F:A2 K "are_filled_lists" "are_filled_lists" O5 f fd)(B:Bl mg):o8 P w K mg base A0 1 f fd ["rounds"] as4:=by
 refine F.ok bm9 (fun vs H Q E h=> ?_) (fun cdv A outer s H vs Q E hr h=> ?_)
 · obtain ⟨l,as,rs,rfl,_⟩:=h
   rfl
 · obtain ⟨l,as,rs,rfl,hl,rows,hne,q⟩:=h
   refine ⟨_,c7 (x9 (Q5 (Q4 (al1 B.isi (c5 (pv 0) (c5 (al3 B.list) c6))))) (e7 (l6 K0)) p8)
     (c7 (o6 PassesOwn.never rfl (w9 (pv 0)) (j5 (i:=1) bm9.nd rfl (Or.inl rfl))
       (e7 (x9 (R0 (Q5 (Q4 (al1 B.isi (c5 (pv 1) (c5 (al3 B.list) c6))))) (V6 (m9 X7 (t8 B.len (c5 (pv 1) c6)) i6 (o9 _)))).pt (e7 (l6 K0)) p8)))
     (e7 (l6 K0))),?_⟩
   refine ⟨_,rfl,_,"list",_,true,rfl,.lst hl,U7 K "list",true,rfl,?_⟩
   refine C8 ?_
   refine ⟨_,rfl,l,rfl,⟨_,g9.of hl⟩,A8 (K:=K) (a:=l) (xs:=as.map V.ref) (fun i σ H2=>∃v:Option V,σ=[some (.ref l),v]∧H2=H) ⟨none,rfl,rfl⟩ (fun i σ H2 _ ⟨_,_,e⟩=>by rw[e];exact g9.of hl) ?_ (fun σ H2 ⟨v,_,e⟩=>by rw[e];exact q)⟩
   rintro i y σ H2 hi ⟨v,rfl,rfl⟩
   rw[do2] at hi
   cases hA:as[i]? with
   |none=>rw[hA] at hi;cases hi
   |some e=>
    rw[hA] at hi
    cases hi
    have hil:i < as.length:=(do0.mp hA).1
    have hri:rs[i]? =some (rs[i]'(by rw[←rows.1];exact hil)):=dn9 _
    generalize (rs[i]'(by rw[←rows.1];exact hil))=r at hri
    have he:=rows.2 i e r hA hri
    have hrn:=hne r (dp0 hri)
    refine ⟨_,rfl,_,"list",_,true,rfl,.lst he,U7 K "list",true,rfl,?_⟩
    refine C8 ⟨_,rfl,e,_,rfl,.inl (g9.of he),rfl,_,rfl,?_⟩
    have hnz:¬V.int (((r.map V.int).length:Nat):Int)=V.int 0:=fun z=>by
      have z:=V.int.inj z
      rw[dn8] at z
      have:=List.length_pos_iff.mpr hrn
      omega
    rw[decide_eq_false hnz]
    exact C8 ⟨_,rfl,rfl⟩
def as5:Sp:=fun vs H Q _=>∃(l:Addr) (as:List Addr) (rs:List (List Int)),vs=[.ref l]∧H l=some (.lst (as.map V.ref))∧k7 H as rs∧rs.flatten.length≤1000∧
 ∀(o:Addr) (H':Hp),H o=none→e8 H H'→H' o=some (.lst (rs.flatten.map V.int))→Q (.ref o) H'
theorem as6:l8 ["rounds","things","ring"] ["rounds"] (i7 ac8):=⟨rfl,rfl,rfl,by decide+kernel,rfl,by decide+kernel,by decide+kernel⟩
theorem bn0 (rs:List (List Int))(i:Nat):(rs.take i).flatten.length≤rs.flatten.length:=by
 conv=>rhs;rw[←dt6 i rs,ds4,do6]
 omega
theorem ci1 {f:Addr}{fd:FuncData}(F:A2 K "things_in" "things_in" ac8 f fd):o8 P w K mg base A0 1 f fd ["rounds"] as5:=by
 refine F.ok as6 (fun vs H Q E h=> ?_) (fun cdv A outer s H vs Q E hr h=> ?_)
 · obtain ⟨l,as,rs,rfl,_⟩:=h
   rfl
 · obtain ⟨l,as,rs,rfl,hl,rows,hb,q⟩:=h
   refine ⟨_,c7 (i4 (i:=1) as6.nd rfl (Or.inl rfl) (w4 c6))
     (c7 (o6 PassesOwn.never rfl (w9 (pv 0)) (j5 (i:=2) as6.nd rfl (Or.inl rfl)) (e7 (o7 (be6 (pv 1) (c5 (pv 2) c6)))))
     (e7 (l6 (pv 1)))),?_⟩
   refine ⟨dq3 _,fun o ho=> ?_⟩
   have s0:e8 H (c9 H o (.lst [])):=e8.upd_new ho
   refine ⟨_,rfl,l,rfl,⟨_,g9.of (s0 l _ hl)⟩,A8 (K:=K) (a:=l) (xs:=as.map V.ref) (fun i σ H2=>∃v:Option V,σ=[some (.ref l),some (.ref o),v]∧e8 H H2∧H2 o=some (.lst ((rs.take i).flatten.map V.int))) ⟨none,rfl,s0,c8⟩ (fun i σ H2 _ ⟨_,_,s,_⟩=>g9.of (s l _ hl)) ?_ ?_⟩
   · rintro i y σ H2 hi ⟨v,rfl,s2,h2o⟩
     rw[do2] at hi
     cases hA:as[i]? with
     |none=>rw[hA] at hi;cases hi
     |some e=>
      rw[hA] at hi
      cases hi
      have hil:i < as.length:=(do0.mp hA).1
      have hri:rs[i]? =some (rs[i]'(by rw[←rows.1];exact hil)):=dn9 _
      generalize (rs[i]'(by rw[←rows.1];exact hil))=r at hri
      have he:=s2 e _ (rows.2 i e r hA hri)
      have hle:=bn0 rs (i+1)
      rw[i9 hri,ds4,du7,do6] at hle
      have h1000:=p9 (do1 1000)
      refine ⟨_,rfl,.inl ⟨rfl,_,g9.of h2o⟩,_,rfl,o,e,_,_,rfl,rfl,h2o,he,by rw[dn8,dn8];omega,?_⟩
      refine ⟨_,rfl,fun b u hb=>by rw[g8 (g6 hb ho)];exact s2 b u hb,?_⟩
      rw[c8,i9 hri,ds4,du7,do8]
   · rintro σ H2 ⟨v,rfl,s2,h2o⟩
     rw[dn8,rows.1,dq8] at h2o
     exact ⟨_,rfl,q o H2 ho s2 h2o⟩
def bn1:Sp:=fun vs H Q _=>∃(l:Addr) (as:List Addr) (rs:List (List Int)),vs=[.ref l]∧H l=some (.lst (as.map V.ref))∧k7 H as rs∧(∀r∈rs,r≠[])∧j8 rs.flatten∧rs.flatten.length≤40∧
 ∀(o:Addr) (t:List Int) (H':Hp),H o=none→e8 H H'→H' o=some (.lst (t.map V.int))→t.length=rs.flatten.length→(∀r∈rs,∀j,j < r.length→x6 t (r.getD j 0)=some (r.getD ((j+1)%r.length) 0))→Q (.ref o) H'
theorem bn2:l8 ["rounds","told","ring"] ["rounds"] (i7 W9):=⟨rfl,rfl,rfl,by decide+kernel,rfl,by decide+kernel,by decide+kernel⟩
theorem cv5 {f:Addr}{fd:FuncData}(F:A2 K "from_rounds" "from_rounds" W9 f fd)(cF:j7 P w K mg base "are_filled_lists" 1 ["rounds"] as4)(cT:j7 P w K mg base "things_in" 1 ["rounds"] as5)(cI:j7 P w K mg base "is_turn" 2 ["thing"] ai8)
   (cS:j7 P w K mg base "send_along" 1 ["target","ring","steps"] af5):o8 P w K mg base A0 3 f fd ["rounds"] bn1:=by
 refine F.ok bn2 (fun vs H Q E h=> ?_) (fun cdv A outer s H vs Q E hr h=> ?_)
 · obtain ⟨l,as,rs,rfl,_⟩:=h
   rfl
 · obtain ⟨l,as,rs,rfl,hl,rows,hne,tf,lf,q⟩:=h
   have hr1:m7 1 _:=hr.mono (by decide)
   refine ⟨_,c7 (x9 (Q5 (Q4 (h8 cF hr1 (c5 (pv 0) c6)))) (e7 N5) p8)
     (c7 (i4 (i:=1) bn2.nd rfl (Or.inl rfl) (h8 cT hr1 (c5 (pv 0) c6)))
     (c7 (x9 (Q5 (Q4 (h8 cI hr (c5 (pv 1) c6)))) (e7 N5) p8)
     (c7 (o6 PassesOwn.never rfl (w9 (pv 0)) (j5 (i:=2) bn2.nd rfl (Or.inl rfl)) (e7 (o7 (h8 cS hr1 (c5 (pv 1) (c5 (pv 2) (c5 i6 c6)))))))
     (e7 (l6 (pv 1)))))),?_⟩
   refine ⟨_,rfl,l,as,rs,rfl,hl,rows,hne,true,rfl,?_⟩
   refine C8 ?_
   refine ⟨_,rfl,l,as,rs,rfl,hl,rows,by omega,fun o H1 ho s1 h1o=> ?_⟩
   refine ⟨_,rfl,o,_,rfl,h1o,fun bb H2 s2 hbb=>⟨bb,rfl,?_⟩⟩
   have:bb=true:=hbb.mpr ⟨lf,tf⟩
   subst this
   refine C8 ?_
   have s02:=s1.trans s2
   have h2o:=s2 o _ h1o
   have h2l:=s02 l _ hl
   have rows2:k7 H2 as rs:=p6 rows fun c _ u hu=>s02 c u hu
   have nlo:l≠o:=g6 hl ho
   refine ⟨_,rfl,l,rfl,⟨_,g9.of h2l⟩,A8 (K:=K) (a:=l) (xs:=as.map V.ref) (fun i σ H3=>∃(ts:List Int) (v:Option V),σ=[some (.ref l),some (.ref o),v]∧H3 o=some (.lst (ts.map V.int))∧ts.length=rs.flatten.length∧(∀r∈rs.take i,∀j,j < r.length→x6 ts (r.getD j 0)=some (r.getD ((j+1)%r.length) 0))∧i8 o H2 H3)
     ⟨_,none,rfl,h2o,rfl,fun r hr=>by simp at hr,i8.refl o H2⟩ (fun i σ H3 _ ⟨_,_,_,_,_,_,k⟩=>g9.of (k l _ h2l nlo)) ?_ ?_⟩
   · rintro i y σ H3 hi ⟨ts,v,rfl,h3o,lts,hts,kb⟩
     rw[do2] at hi
     cases hA:as[i]? with
     |none=>rw[hA] at hi;cases hi
     |some e=>
      rw[hA] at hi
      cases hi
      have hil:i < as.length:=(do0.mp hA).1
      have hri:rs[i]? =some (rs[i]'(by rw[←rows.1];exact hil)):=dn9 _
      generalize hR:(rs[i]'(by rw[←rows.1];exact hil))=r at hri
      have neo:o≠e:=fun z=>by
        have:=rows.2 i e r hA hri
        rw[←z,ho] at this;cases this
      have h3e:=kb e _ (rows2.2 i e r hA hri) neo.symm
      have hrm:r∈rs:=dp0 hri
      have hsplit:rs.flatten=(rs.take i).flatten++(r++(rs.drop (i+1)).flatten):=by
        conv=>lhs;rw[←dt6 i rs,ds4]
        rw[du4 (by rw[←rows.1];exact hil),hR,dq1]
      have nds:=tf.nd
      rw[hsplit] at nds
      obtain ⟨nd1,nd2,nd3⟩:=dt7.mp nds
      obtain ⟨ndr,_,_⟩:=dt7.mp nd2
      refine ⟨_,rfl,_,rfl,o,e,ts,r,1,rfl,h3o,h3e,neo,ndr,fun x hx=> ?_,fun ts' H4 l4 hj hu h4o kb4=> ?_⟩
      · have hxf:x∈rs.flatten:=dp9.mpr ⟨r,hrm,hx⟩
        exact ⟨tf.lo x hxf,by rw[lts];exact tf.hi x hxf⟩
      refine ⟨ts',_,rfl,h4o,by omega,fun r' hr' j hj'=> ?_,kb.trans kb4⟩
      rw[i9 hri] at hr'
      rcases dp3.mp hr' with g|g
      · have hx:r'.getD j 0∈(rs.take i).flatten:=by
          rw[E3 hj']
          exact dp9.mpr ⟨r',g,dr9 hj'⟩
        have hxn:r'.getD j 0∉r:=fun z=>nd3 _ hx _ (dt5 _ z) rfl
        have hx0:0≤r'.getD j 0:=tf.lo _ (by rw[hsplit];exact dt5 _ hx)
        rw[hu _ hx0 hxn]
        exact hts r' g j hj'
      · have:r'=r:=by simpa using g
        subst this
        have h1:=hj j hj'
        have e1:(((j:Int)+1)%(r'.length:Int)).toNat=(j+1)%r'.length:=by
          have:((j:Int)+1)=((j+1:Nat):Int):=by omega
          rw[this,←dv0,dr1]
        rw[e1] at h1
        exact h1
   · rintro σ H3 ⟨ts,v,rfl,h3o,lts,hts,kb⟩
     rw[dn8,rows.1,dq8] at hts
     exact ⟨_,rfl,q o ts H3 ho (fun b u hb=>kb b u (s02 b u hb) (g6 hb ho)) h3o lts hts⟩
end
end My
namespace My
open PySem L2 Mth
section
variable {P:Program} {w:World} {K:PySem.W.Frag} {mg:Str→Option Value} {base:Heap}
def ap2:Sp:=fun vs H Q _=>∃(n:Int),vs=[.int n]∧1≤n∧Q .non H
theorem dh7:l8 ["number"] ["number"] (i7 O3):=⟨rfl,rfl,rfl,by decide+kernel,rfl,by decide+kernel,by decide+kernel⟩
theorem dc9 {f:Addr}{fd:FuncData}(F:A2 K "must_be_from_one" "must_be_from_one" O3 f fd)(cW:j7 P w K mg base "is_whole" 1 ["thing"] (af4 K)):o8 P w K mg base A0 2 f fd ["number"] ap2:=by
 refine F.ok dh7 (fun vs H Q E h=> ?_) (fun cdv A outer s H vs Q E hr h=> ?_)
 · obtain ⟨n,rfl,_⟩:=h
   rfl
 · obtain ⟨n,rfl,h1,q⟩:=h
   have hr1:m7 1 _:=hr.mono (by decide)
   refine ⟨_,e7 (x9 (R0 (Q5 (Q4 (h8 cW hr1 (c5 (pv 0) c6)))) (V6 (m9 au8 (pv 0) i6 (o9 _)))).pt (e7 N5) p8),?_⟩
   refine ⟨_,rfl,.int n,_,true,false,rfl,.int n,U7 K "int",Z3 K,true,rfl,?_⟩
   refine C8 ⟨_,rfl,_,_,rfl,rfl,_,rfl,?_⟩
   rw[decide_eq_false (show ¬n < 1 by omega)]
   exact C8 q
def co2:Sp:=fun vs H Q _=>∃(l m:Nat),vs=[.int (l:Int),.int (m:Int)]∧1≤l∧l≤1000000000000000000000000000000∧1≤m∧m≤1000000000000000000000000000000∧∀d,Q0 l m d→Q (.int ((d:Nat):Int)) H
theorem bn3:l8 ["l","m","least","common"] ["l","m"] (i7 X0):=⟨rfl,rfl,rfl,by decide+kernel,rfl,by decide+kernel,by decide+kernel⟩
theorem dh8 {f:Addr}{fd:FuncData}(F:A2 K "least_right" "least_right" X0 f fd)(c1:j7 P w K mg base "must_be_from_one" 2 ["number"] ap2)(cG:j7 P w K mg base "greatest_part" 1 ["a","b"] bh5):o8 P w K mg base A0 3 f fd ["l","m"] co2:=by
 refine F.ok bn3 (fun vs H Q E h=> ?_) (fun cdv A outer s H vs Q E hr h=> ?_)
 · obtain ⟨l,m,rfl,_⟩:=h
   rfl
 · obtain ⟨l,m,rfl,l1,l2,m1,m2,q⟩:=h
   have hr1:m7 1 _:=hr.mono (by decide)
   refine ⟨_,c7 (o7 (h8 c1 hr (c5 (pv 0) c6))) (c7 (o7 (h8 c1 hr (c5 (pv 1) c6)))
     (c7 (i4 (i:=2) bn3.nd rfl (Or.inl rfl) i6) (c7 (i4 (i:=3) bn3.nd rfl (Or.inl rfl) (h8 cG hr1 (c5 (pv 0) (c5 (pv 1) c6))))
     (c7 (ag2 PassesOwn.never (m9 au9 (pv 3) i6 (o9 _))
       (c7 (i4 (i:=2) bn3.nd rfl (Or.inl rfl) (l7 N6 (pv 2) (pv 3))) (e7 (i4 (i:=3) bn3.nd rfl (Or.inl rfl) (h8 cG hr1 (c5 (pv 0) (c5 (l7 cm3 (pv 1) (pv 2)) c6)))))))
     (e7 (l6 (pv 2))))))),?_⟩
   refine ⟨_,rfl,(l:Int),rfl,by omega,?_⟩
   refine ⟨_,rfl,(m:Int),rfl,by omega,?_⟩
   refine ⟨_,rfl,_,rfl,l,m,rfl,?_⟩
   refine ⟨fun mm σ H2=>∃d:Nat,σ=[some (.int (l:Int)),some (.int (m:Int)),some (.int (d:Int)),some (.int ((dp8 l (m/d):Nat):Int))]∧W7 l m d∧H2=H∧mm=m - d,
     ⟨m - 1,1,by rw[Nat.div_one];rfl,W7.start l m,rfl,rfl⟩,?_⟩
   rintro mm σ H2 ⟨d,rfl,up,rfl,rfl⟩
   have gle:dp8 l (m/d)≤l:=Nat.gcd_le_left _ l1
   refine ⟨_,rfl,_,_,rfl,rfl,_,rfl,?_⟩
   refine W5 (fun hg=> ?_) (fun hg=> ?_)
   · have hg:(1:Int) < ((dp8 l (m/d):Nat):Int):=of_decide_eq_true hg
     have hg1:dp8 l (m/d)≠1:=by omega
     obtain ⟨mo1,mo2⟩:=up.more (by omega) hg1
     have up':=up.step (by omega)
     refine ⟨fun σ' H'=>∃m',m' < m - d∧_,fun _ _ h=>h,?_⟩
     have small:d < 18446744073709551616∨dp8 l (m/d) < 18446744073709551616:=by
       rcases ed4 d 18446744073709551616 with z|z
       · exact .inl z
       · rcases ed4 (dp8 l (m/d)) 18446744073709551616 with y|y
         · exact .inr y
         · have:=ea4 z y
           omega
     refine ⟨_,rfl,_,rfl,_,_,rfl,rfl,(by rcases small with z|z;exact .inl ⟨by omega,by omega⟩;exact .inr ⟨by omega,by omega⟩),?_⟩
     have e1:((d:Nat):Int)*((dp8 l (m/d):Nat):Int)=((d*dp8 l (m/d):Nat):Int):=(dx5 _ _).symm
     have dp:=up'.pos
     refine ⟨_,rfl,_,rfl,_,rfl,_,_,rfl,rfl,⟨by rw[e1];omega,by rw[e1];omega⟩,?_⟩
     have e2:(m:Int)/(((d:Nat):Int)*((dp8 l (m/d):Nat):Int))=((m/(d*dp8 l (m/d)):Nat):Int):=by rw[e1];exact (Int.natCast_ediv _ _).symm
     dsimp only
     rw[e2]
     refine ⟨l,m/(d*dp8 l (m/d)),rfl,?_⟩
     refine ⟨m - d*dp8 l (m/d),by omega,d*dp8 l (m/d),?_,up',rfl,rfl⟩
     show [some (V.int (l:Int)),some (V.int (m:Int)),some (V.int (((d:Nat):Int)*((dp8 l (m/d):Nat):Int))),some (V.int ((dp8 l (m/(d*dp8 l (m/d))):Nat):Int))]=_
     rw[e1]
   · have hg:¬(1:Int) < ((dp8 l (m/d):Nat):Int):=fun z=>hg (decide_eq_true z)
     have kp:0 < m/d:=Nat.div_pos (eb2 (by omega) up.parts) up.pos
     have gp:0 < dp8 l (m/d):=ed0 _ kp
     exact ⟨_,rfl,q d (up.done (by omega))⟩
end
end My
namespace My
open PySem L2 Mth
section
variable {P:Program} {w:World} {K:PySem.W.Frag} {mg:Str→Option Value} {base:Heap}
theorem co3 {T J F:List Int}{t:Nat}{u f:Int}(hT:j8 T)(hl:J.length=T.length)(hu:T[t]? =some u)(hf:F[t]? =some f)(h:(T.take t).map (x6 J)=(F.take t).map some):(T.take (t+1)).map (x6 (J.set u.toNat f))=(F.take (t+1)).map some:=by
 have ht:t < T.length:=(do0.mp hu).1
 have hum:=dp0 hu
 have u0:=hT.lo u hum
 have u1:=hT.hi u hum
 rw[i9 hu,i9 hf,do8,do8]
 congr 1
 · rw[←h]
   refine dt3 fun v hv=>ae4 (hT.lo v (du6 hv)) u0 fun e=> ?_
   obtain ⟨j,hj⟩:=dq9.mp hv
   have hjt:j < t:=by
     have:=(do0.mp hj).1
     rw[dp5] at this
     omega
   rw[dt2 hjt] at hj
   have e1:=(do0.mp hj).2
   have e2:=(do0.mp hu).2
   exact dq7.mp (dp6.mp hT.nd) j t (by omega) ht hjt (by rw[e1,e2,e])
 · show [x6 (J.set u.toNat f) u]=[some f]
   rw[ag9 (by omega)]
def am5:Sp:=fun vs H Q _=>∃(a:Addr) (bs:List Addr) (Rs:List (List Int)) (l k:Nat),vs=[.ref a,.int ((Rs.length*k:Nat):Int)]∧H a=some (.lst (bs.map V.ref))∧k7 H bs Rs∧1≤Rs.length∧(∀r∈Rs,r.length=l)∧0 < l∧Rs.length*l≤40∧dp8 l k=1∧
 ∀(o:Addr) (J:List Int) (H':Hp),H o=none→e8 H H'→H' o=some (.lst (J.map V.int))→C5 l k Rs J→Q (.ref o) H'
theorem aa5:l8 ["rings","m","whole","joined","lane","ring","step","thing"] ["rings","m"] (i7 aa1):=⟨rfl,rfl,rfl,by decide+kernel,rfl,by decide+kernel,by decide+kernel⟩
theorem cv6 {f:Addr}{fd:FuncData}(F:A2 K "join_rings" "join_rings" aa1 f fd)(B:Bl mg):o8 P w K mg base A0 1 f fd ["rings","m"] am5:=by
 refine F.ok aa5 (fun vs H Q E h=> ?_) (fun cdv A outer s H vs Q E hr h=> ?_)
 · obtain ⟨a,bs,Rs,l,k,rfl,_⟩:=h
   rfl
 · obtain ⟨a,bs,Rs,l,k,rfl,ha,rows,d1,hRl,l0,dl,cop,q⟩:=h
   refine ⟨_,c7 (i4 (i:=2) aa5.nd rfl (Or.inl rfl) (l7 N6 (t8 B.len (c5 (pv 0) c6)) (t8 B.len (c5 (G3 C0 (pv 0) i6 (fun _ _=>rfl)) c6))))
     (c7 (i4 (i:=3) aa5.nd rfl (Or.inl rfl) (l7 ce0 (w4 (c5 i6 c6)) (pv 2)))
     (c7 (o6 PassesOwn.never rfl (ae5 B.enum (c5 (pv 0) c6)) (S6 rfl (A1 (j5 (i:=4) aa5.nd rfl (Or.inl rfl)) (A1 (j5 (i:=5) aa5.nd rfl (Or.inl rfl)) O9)))
       (e7 (o6 PassesOwn.never rfl (ae5 B.enum (c5 (pv 5) c6)) (S6 rfl (A1 (j5 (i:=6) aa5.nd rfl (Or.inl rfl)) (A1 (j5 (i:=7) aa5.nd rfl (Or.inl rfl)) O9)))
         (e7 (au7 (pv 7) (au6 (pv 3) (l7 B6 (l7 G2 (pv 4) (l7 N6 (pv 6) (pv 1))) (pv 2)) ag4))))))
     (e7 (l6 (pv 3))))),?_⟩
   have lb:bs.length=Rs.length:=rows.1
   have dR:Rs.length≤Rs.length*l:=ds6 _ l0
   have lR:l≤Rs.length*l:=eb3 _ (by omega)
   have hb0:bs[0]? =some (bs[0]'(by omega)):=dn9 _
   generalize (bs[0]'(by omega))=b0 at hb0
   have hr0:Rs[0]? =some (Rs[0]'(by omega)):=dn9 _
   have lr0:(Rs[0]'(by omega)).length=l:=hRl _ (dr9 _)
   generalize (Rs[0]'(by omega))=r0 at hr0 lr0
   have h0:=rows.2 0 b0 r0 hb0 hr0
   refine ⟨_,rfl,a,_,rfl,.inl (g9.of ha),_,rfl,a,_,_,_,rfl,rfl,g9.of ha,J2 (j:=0) (by rw[do2,hb0];rfl),b0,_,rfl,.inl (g9.of h0),_,_,rfl,rfl,.inl ⟨by rw[dn8];omega,by rw[dn8];omega⟩,?_⟩
   rw[dn8,dn8,lb,lr0]
   dsimp only
   have ew:((Rs.length:Nat):Int)*((l:Nat):Int)=((Rs.length*l:Nat):Int):=(dx5 _ _).symm
   rw[ew]
   obtain ⟨D,hD⟩:∃D,D=Rs.length:=⟨_,rfl⟩
   rw[←hD] at d1 dl lb dR lR ⊢
   obtain ⟨N,hN⟩:∃N,N=D*l:=⟨_,rfl⟩
   rw[←hN] at dl dR lR ⊢
   refine ⟨(by show 1≤sizeLine;decide),fun e he=> ?_⟩
   refine ⟨_,rfl,e,_,_,rfl,rfl,c8,by omega,by omega,by show 1*_≤sizeLine;rw[sizeLine_eq];omega,fun n hn=> ?_⟩
   rw[show ((N:Nat):Int).toNat=N by omega,bk0]
   have hne:n≠e:=fun z=>by rw[z,c8] at hn;cases hn
   have hn0:H n=none:=by rw[g8 hne] at hn;exact hn
   have s1:e8 H (c9 (c9 H e (.lst [.int 0])) n (.lst ((ds3 N (0:Int)).map V.int))):=(e8.upd_new he).upd_r hn0
   have h1n:(c9 (c9 H e (.lst [.int 0])) n (.lst ((ds3 N (0:Int)).map V.int))) n=some (.lst ((ds3 N (0:Int)).map V.int)):=c8
   generalize (c9 (c9 H e (.lst [.int 0])) n (.lst ((ds3 N (0:Int)).map V.int)))=H1 at s1 h1n ⊢
   have T:=ah1 (d:=D) l0 cop
   have lT:=U9 D l k
   obtain ⟨fl,fg⟩:=Z6 l0 hRl
   refine ⟨_,rfl,a,rfl,⟨_,g9.of (s1 a _ ha)⟩,Z4 (K:=K) (a:=a) (xs:=bs.map V.ref) (fun i σ H2=>∃(J:List Int) (v4 v5 v6 v7:Option V),σ=[some (.ref a),some (.int ((D*k:Nat):Int)),some (.int ((N:Nat):Int)),some (.ref n),v4,v5,v6,v7]∧H2 n=some (.lst (J.map V.int))∧J.length=N∧((N9 D l k).take (i*l)).map (x6 J)=(Rs.flatten.take (i*l)).map some∧e8 H H2)
     ⟨_,none,none,none,none,rfl,h1n,by rw[dz5],by rw[dz9];rfl,s1⟩ (fun i σ H2 _ ⟨_,_,_,_,_,_,_,_,_,s⟩=>g9.of (s a _ ha)) ?_ ?_⟩
   · rintro i y σ H2 t hi ⟨J,v4,v5,v6,v7,rfl,h2n,lJ,hmap,s2⟩ ht
     rw[do2] at hi
     cases hA:bs[i]? with
     |none=>rw[hA] at hi;cases hi
     |some b=>
      rw[hA] at hi
      cases hi
      have hil:i < bs.length:=(do0.mp hA).1
      have hiD:i < D:=by omega
      have hri:Rs[i]? =some (Rs[i]'(by omega)):=dn9 _
      have lri:(Rs[i]'(by omega)).length=l:=hRl _ (dr9 _)
      generalize (Rs[i]'(by omega))=r at hri lri
      have hrow:=rows.2 i b r hA hri
      have s23:e8 H2 (c9 H2 t (.tup [.int (i:Int),.ref b])):=e8.upd_new ht
      refine ⟨t,_,rfl,Q6.of c8,rfl,_,_,rfl,_,_,rfl,rfl,?_⟩
      generalize (c9 H2 t (.tup [.int (i:Int),.ref b]))=H3 at s23 ⊢
      have s3:=s2.trans s23
      have h3b:=s3 b _ hrow
      refine ⟨_,rfl,b,rfl,⟨_,g9.of h3b⟩,Z4 (K:=K) (a:=b) (xs:=r.map V.int) (fun j σ H4=>∃(J:List Int) (v6 v7:Option V),σ=[some (.ref a),some (.int ((D*k:Nat):Int)),some (.int ((N:Nat):Int)),some (.ref n),some (.int (i:Int)),some (.ref b),v6,v7]∧H4 n=some (.lst (J.map V.int))∧J.length=N∧((N9 D l k).take (i*l+j)).map (x6 J)=(Rs.flatten.take (i*l+j)).map some∧e8 H H4)
        ⟨J,v6,v7,rfl,s23 n _ h2n,lJ,hmap,s3⟩ (fun j σ H4 _ ⟨_,_,_,_,_,_,_,s⟩=>g9.of (s b _ hrow)) ?_ ?_⟩
      · rintro j y σ H4 t2 hj ⟨J,v6,v7,rfl,h4n,lJ,hmap,s4⟩ ht2
        obtain ⟨z,hz,rfl⟩:=K4 hj
        have hjl:j < l:=by rw[←lri];exact (do0.mp hz).1
        have s45:e8 H4 (c9 H4 t2 (.tup [.int (j:Int),.int z])):=e8.upd_new ht2
        refine ⟨t2,_,rfl,Q6.of c8,rfl,_,_,rfl,_,_,rfl,rfl,?_⟩
        generalize (c9 H4 t2 (.tup [.int (j:Int),.int z]))=H5 at s45 ⊢
        have h5n:=s45 n _ h4n
        have tlt:i*l+j < D*l:=by
          calc i*l+j < i*l+l:=by omega
            _=(i+1)*l:=by rw[dy8]
            _≤D*l:=du5 l hiD
        have dv1:(i*l+j)/l=i:=by rw[du0,ei4 l0,ee7 hjl,dw0]
        have dv2:(i*l+j)%l=j:=by rw[du0,ei5,du3 hjl]
        have hTt:(N9 D l k)[i*l+j]? =some ((G6 D l k i j:Nat):Int):=by
          unfold N9
          rw[do2,ds1 tlt]
          show some ((G6 D l k ((i*l+j)/l) ((i*l+j)%l):Nat):Int)=_
          rw[dv1,dv2]
        have hFt:Rs.flatten[i*l+j]? =some z:=by
          rw[fg i j (by omega) hjl,do5,hri]
          exact hz
        have ep:((i:Int)+(j:Int)*((D*k:Nat):Int))%((N:Nat):Int)=((G6 D l k i j:Nat):Int):=by
          rw[←ba1 hiD l0,←dx5,←ei3,←dv0,hN]
        have plt:G6 D l k i j < D*l:=ae8 hiD l0
        refine ⟨_,rfl,_,rfl,_,rfl,_,rfl,_,rfl,_,_,rfl,rfl,.inl ⟨by omega,by omega⟩,_,_,rfl,rfl,_,rfl,_,_,rfl,rfl,(by show (0:Int) < (N:Int);omega),?_⟩
        dsimp only
        rw[ep]
        refine ⟨n,_,_,G6 D l k i j,rfl,rfl,h5n,?_,?_⟩
        · unfold ixN
          rw[dn8,if_pos (by omega),if_pos (by omega)]
          rfl
        have es:(J.map V.int).set (G6 D l k i j) (.int z)=(J.set (G6 D l k i j) z).map V.int:=by rw[ei1]
        rw[es]
        refine ⟨_,_,_,rfl,c8,by rw[ea9];exact lJ,?_,fun c o hc=>by rw[g8 (g6 hc hn0)];exact s45 c o (s4 c o hc)⟩
        have:=co3 (J:=J) T (by rw[lT];omega) hTt hFt hmap
        rw[dr1] at this
        exact this
      · rintro σ H4 ⟨J,v6,v7,rfl,h4n,lJ,hmap,s4⟩
        rw[dn8,lri] at hmap
        refine ⟨J,_,_,_,_,rfl,h4n,lJ,?_,s4⟩
        rw[dy8];exact hmap
   · rintro σ H2 ⟨J,v4,v5,v6,v7,rfl,h2n,lJ,hmap,s2⟩
     rw[dn8,lb,dw1 (by rw[lT];exact do1 _),dw1 (by rw[fl,←hD];exact do1 _)] at hmap
     refine ⟨_,rfl,q n J H2 hn0 s2 h2n ⟨by rw[lJ,hN,hD],by rw[←hD];exact hmap⟩⟩
end
end My
namespace My
open PySem L2 Mth
section
variable {P:Program} {w:World} {K:PySem.W.Frag} {mg:Str→Option Value} {base:Heap}
def q5 (es:List (Nat×Addr)):List (o4×V):=es.map fun e=>(Sum.inl (e.1:Int),V.ref e.2)
theorem bn4 {es:List (Nat×Addr)}{l:Nat}{v:V}(h:C1 (q5 es) (Sum.inl (l:Int))=some v):∃e∈es,e.1=l∧v= .ref e.2:=by
 unfold C1 at h
 cases hf:(q5 es).find? (fun kv=>decide (kv.1=Sum.inl (l:Int))) with
 |none=>rw[hf] at h;cases h
 |some kv=>
  rw[hf] at h
  have hk:=of_decide_eq_true (List.find?_some (p:=fun kv:o4×V=>decide (kv.1=Sum.inl (l:Int))) hf)
  obtain ⟨e,he,rfl⟩:=do9.mp (List.mem_of_find?_eq_some hf)
  have hk':(Sum.inl (e.1:Int):o4)=Sum.inl (l:Int):=hk
  have:=Sum.inl.inj hk'
  exact ⟨e,he,by omega,(Option.some.inj h).symm⟩
theorem bn5 {es:List (Nat×Addr)}{l:Nat}(h:C1 (q5 es) (Sum.inl (l:Int))=none):l∉es.map (·.1):=by
 intro hm
 obtain ⟨e,he,rfl⟩:=do9.mp hm
 unfold C1 at h
 have h':=Option.map_eq_none_iff.mp h
 exact List.find?_eq_none.mp h' (Sum.inl (e.1:Int),V.ref e.2) (do9.mpr ⟨e,he,rfl⟩) (by simp)
theorem bb0 {α β:Type}:∀{es:List (α×β)},(es.map (·.1)).Nodup→∀{e f:α×β},e∈es→f∈es→e.1=f.1→e=f
 |[],_,e,f,h,_,_=>by simp at h
 |x::es,nd,e,f,he,hf,h=>by
  obtain ⟨n1,n2⟩:=dr5.mp nd
  rcases dp7.mp he with z|z
  · rcases dp7.mp hf with y|y
    · rw[z,y]
    · exact absurd (do9.mpr ⟨f,y,by rw[←h,z]⟩) n1
  · rcases dp7.mp hf with y|y
    · exact absurd (do9.mpr ⟨e,z,by rw[h,y]⟩) n1
    · exact bb0 n2 z y h
theorem bv7 {α β:Type}:∀{es:List (α×β)},(es.map (·.2)).Nodup→∀{e f:α×β},e∈es→f∈es→e.2=f.2→e=f
 |[],_,e,f,h,_,_=>by simp at h
 |x::es,nd,e,f,he,hf,h=>by
  obtain ⟨n1,n2⟩:=dr5.mp nd
  rcases dp7.mp he with z|z
  · rcases dp7.mp hf with y|y
    · rw[z,y]
    · exact absurd (do9.mpr ⟨f,y,by rw[←h,z]⟩) n1
  · rcases dp7.mp hf with y|y
    · exact absurd (do9.mpr ⟨e,z,by rw[h,y]⟩) n1
    · exact bv7 n2 z y h
theorem bn6 {es:List (Nat×Addr)}(nd:(es.map (·.1)).Nodup){e:Nat×Addr}(he:e∈es):C1 (q5 es) (Sum.inl (e.1:Int))=some (.ref e.2):=by
 cases h:C1 (q5 es) (Sum.inl (e.1:Int)) with
 |none=>exact absurd (do9.mpr ⟨e,he,rfl⟩) (bn5 h)
 |some v=>
  obtain ⟨f,hf,h1,rfl⟩:=bn4 h
  rw[bb0 nd hf he h1]
theorem bv8 {rs:List (List Int)}{r:List Int}{l:Nat}(h:r.length=l):w6 (rs++[r]) l=w6 rs l++[r]:=by
 unfold w6
 rw[dz3,dx0 (by simpa using h),ec9]
theorem bv9 {rs:List (List Int)}{r:List Int}{l:Nat}(h:r.length≠l):w6 (rs++[r]) l=w6 rs l:=by
 unfold w6
 rw[dz3,dx1 (by simpa using h),ec9,dq6]
theorem co4 {rs:List (List Int)}{l:Nat}(h:∀r∈rs,r.length≠l):w6 rs l=[]:=by
 unfold w6
 exact List.filter_eq_nil_iff.mpr fun r hr=>by simpa using h r hr
structure ci2 (H0 H:Hp)(d:Addr)(es:List (Nat×Addr))(rs:List (List Int)):Prop where
 nk:(es.map (·.1)).Nodup
 na:(es.map (·.2)).Nodup
 row:∀e∈es,∃cs:List Addr,H e.2=some (.lst (cs.map V.ref))∧k7 H0 cs (w6 rs e.1)
 key:∀k∈es.map (·.1),∃r∈rs,r.length=k
 all:∀r∈rs,r.length∈es.map (·.1)
 nd:∀e∈es,e.2≠d
def af7:Sp:=fun vs H Q _=>∃(a:Addr) (as:List Addr) (rs:List (List Int)),vs=[.ref a]∧H a=some (.lst (as.map V.ref))∧k7 H as rs∧rs.length≤40∧
 ∀(d:Addr) (es:List (Nat×Addr)) (H':Hp),H d=none→e8 H H'→H' d=some (.dK (q5 es))→ci2 H H' d es rs→es.length≤40→(∀e∈es,H e.2=none)→Q (.ref d) H'
theorem bn7:l8 ["rings","by_length","ring"] ["rings"] (i7 R7):=⟨rfl,rfl,rfl,by decide+kernel,rfl,by decide+kernel,by decide+kernel⟩
theorem co5 {f:Addr}{fd:FuncData}(F:A2 K "sort_by_length" "sort_by_length" R7 f fd)(B:Bl mg):o8 P w K mg base A0 1 f fd ["rings"] af7:=by
 refine F.ok bn7 (fun vs H Q E h=> ?_) (fun cdv A outer s H vs Q E hr h=> ?_)
 · obtain ⟨a,as,rs,rfl,_⟩:=h
   rfl
 · obtain ⟨a,as,rs,rfl,ha,rows,lrs,q⟩:=h
   refine ⟨_,c7 (i4 (i:=1) bn7.nd rfl (Or.inl rfl) Z2)
     (c7 (o6 PassesOwn.never rfl (w9 (pv 0)) (j5 (i:=2) bn7.nd rfl (Or.inl rfl))
       (e7 (o7 (E4 (cg6 (pv 1) (c5 (t8 B.len (c5 (pv 2) c6)) (c5 (w4 c6) c6))) (c5 (pv 2) c6)))))
     (e7 (l6 (pv 1)))),?_⟩
   refine fun d hd=> ?_
   have s1:e8 H (c9 H d (.dK [])):=e8.upd_new hd
   have h1d:(c9 H d (.dK [])) d=some (.dK (q5 [])):=c8
   generalize (c9 H d (.dK []))=H1 at s1 h1d ⊢
   refine ⟨_,rfl,a,rfl,⟨_,g9.of (s1 a _ ha)⟩,A8 (K:=K) (a:=a) (xs:=as.map V.ref) (fun i σ H2=>∃(es:List (Nat×Addr)) (v2:Option V),σ=[some (.ref a),some (.ref d),v2]∧H2 d=some (.dK (q5 es))∧ci2 H H2 d es (rs.take i)∧es.length≤i∧(∀e∈es,H e.2=none)∧e8 H H2)
     ⟨[],none,rfl,h1d,⟨dv8,dv8,fun e h=>by simp at h,fun k h=>by simp at h,fun r h=>by simp at h,fun e h=>by simp at h⟩,do1 _,fun e h=>by simp at h,s1⟩ (fun i σ H2 _ ⟨_,_,_,_,_,_,_,s⟩=>g9.of (s a _ ha)) ?_ ?_⟩
   · rintro i y σ H2 hi ⟨es,v2,rfl,h2d,bl,les,fr,s2⟩
     rw[do2] at hi
     cases hA:as[i]? with
     |none=>rw[hA] at hi;cases hi
     |some b=>
      rw[hA] at hi
      cases hi
      have hil:i < as.length:=(do0.mp hA).1
      have hri:rs[i]? =some (rs[i]'(by rw[←rows.1];exact hil)):=dn9 _
      generalize (rs[i]'(by rw[←rows.1];exact hil))=r at hri
      have hb0:=rows.2 i b r hA hri
      have hb:=s2 b _ hb0
      have hi40:i < 40:=by have:=rows.1;omega
      have et:rs.take (i+1)=rs.take i++[r]:=i9 hri
      refine ⟨_,rfl,.inr (.inr (.inl ⟨rfl,.inl ⟨_,h2d⟩⟩)),_,rfl,b,_,rfl,.inl (g9.of hb),dq3 _,fun e he=> ?_⟩
      rw[dn8]
      have nde:d≠e:=g6 h2d he
      have s23:e8 H2 (c9 H2 e (.lst [])):=e8.upd_new he
      have h3e:(c9 H2 e (.lst [])) e=some (.lst []):=c8
      have kp:∀c,c≠e→(c9 H2 e (.lst [])) c=H2 c:=fun c hc=>g8 hc
      generalize (c9 H2 e (.lst []))=H3 at s23 h3e kp ⊢
      refine ⟨d,q5 es,Sum.inl (r.length:Int),.ref e,rfl,rfl,s23 d _ h2d,?_,fun v hv=> ?_,fun hn=> ?_⟩
      · unfold q5
        rw[dn8,sizeLine_eq];omega
      · obtain ⟨e0,he0,hl0,rfl⟩:=bn4 hv
        obtain ⟨cs,hcs,rcs⟩:=bl.row e0 he0
        have h3x:=s23 e0.2 _ hcs
        have lx:(cs.map V.ref).length≤1000:=by
          rw[dn8,rcs.1]
          have:=dz6 (fun r=>decide (r.length=e0.1)) (rs.take i)
          rw[dp5] at this
          unfold w6
          omega
        refine ⟨.inl ⟨rfl,_,g9.of h3x⟩,_,rfl,e0.2,_,_,rfl,rfl,h3x,p9 lx,?_⟩
        refine ⟨es,_,rfl,by rw[g8 (bl.nd e0 he0).symm];exact s23 d _ h2d,⟨bl.nk,bl.na,fun e1 he1=> ?_,fun k hk=> ?_,fun r' hr'=> ?_,bl.nd⟩,by omega,fr,fun c o hc=>by rw[g8 (g6 hc (fr e0 he0))];exact s23 c o (s2 c o hc)⟩
        · by_cases h12:e1.2=e0.2
          · have:e1=e0:=bv7 bl.na he1 he0 h12
            subst this
            refine ⟨cs++[b],by rw[c8,do8];rfl,?_⟩
            rw[et,bv8 hl0.symm]
            exact L8 rcs hb0
          · obtain ⟨ys,hys,rys⟩:=bl.row e1 he1
            refine ⟨ys,by rw[g8 h12];exact s23 _ _ hys,?_⟩
            rw[et,bv9 (fun z=>h12 (by rw[bb0 bl.nk he1 he0 (by omega)]))]
            exact rys
        · obtain ⟨r',hr',e⟩:=bl.key k hk
          exact ⟨r',by rw[et];exact dt5 _ hr',e⟩
        · rw[et] at hr'
          rcases dp3.mp hr' with z|z
          · exact bl.all r' z
          · have:r'=r:=by simpa using z
            rw[this]
            exact do9.mpr ⟨e0,he0,hl0⟩
      · have hnk:=bn5 hn
        have ekv:q5 es++[(Sum.inl (r.length:Int),V.ref e)]=q5 (es++[(r.length,e)]):=by unfold q5;rw[do8];rfl
        rw[ekv]
        have h4e:(c9 H3 d (.dK (q5 (es++[(r.length,e)])))) e=some (.lst []):=by rw[g8 nde.symm];exact h3e
        refine ⟨.inl ⟨rfl,_,g9.of h4e⟩,_,rfl,e,_,_,rfl,rfl,h4e,p9 (dq3 _),?_⟩
        have hne:∀e1∈es,e1.2≠e:=fun e1 he1 z=>by
          obtain ⟨ys,hys,_⟩:=bl.row e1 he1
          rw[z,he] at hys;cases hys
        refine ⟨es++[(r.length,e)],_,rfl,by rw[g8 nde,c8],⟨?_,?_,fun e1 he1=> ?_,fun k hk=> ?_,fun r' hr'=> ?_,fun e1 he1=> ?_⟩,by rw[do6];show es.length+1≤i+1;omega,fun e1 he1=> ?_,fun c o hc=> ?_⟩
        · rw[do8,dt7]
          refine ⟨bl.nk,by simp,fun x hx y hy=> ?_⟩
          have:y=r.length:=by simpa using hy
          rw[this]
          exact fun z=>hnk (by rw[←z];exact hx)
        · rw[do8,dt7]
          refine ⟨bl.na,by simp,fun x hx y hy=> ?_⟩
          have:y=e:=by simpa using hy
          rw[this]
          obtain ⟨e1,he1,rfl⟩:=do9.mp hx
          exact hne e1 he1
        · rcases dp3.mp he1 with z|z
          · obtain ⟨ys,hys,rys⟩:=bl.row e1 z
            refine ⟨ys,by rw[g8 (hne e1 z),g8 (bl.nd e1 z),kp _ (hne e1 z)];exact hys,?_⟩
            rw[et,bv9 (fun y=>hnk (by rw[y];exact do9.mpr ⟨e1,z,rfl⟩))]
            exact rys
          · have:e1=(r.length,e):=by simpa using z
            subst this
            refine ⟨[b],c8,?_⟩
            show k7 H [b] (w6 (rs.take (i+1)) r.length)
            rw[et,bv8 rfl,co4 (fun r' hr' y=>hnk (by rw[←y];exact bl.all r' hr'))]
            exact L8 (as:=[]) (rs:=[]) ⟨rfl,fun j a r h=>by simp at h⟩ hb0
        · rw[do8] at hk
          rcases dp3.mp hk with z|z
          · obtain ⟨r',hr',e⟩:=bl.key k z
            exact ⟨r',by rw[et];exact dt5 _ hr',e⟩
          · have:k=r.length:=by simpa using z
            exact ⟨r,by rw[et];exact dq5 _ (by simp),this.symm⟩
        · rw[et] at hr'
          rw[do8]
          rcases dp3.mp hr' with z|z
          · exact dt5 _ (bl.all r' z)
          · have:r'=r:=by simpa using z
            rw[this]
            exact dq5 _ (by simp)
        · rcases dp3.mp he1 with z|z
          · exact bl.nd e1 z
          · have:e1=(r.length,e):=by simpa using z
            subst this
            exact nde.symm
        · rcases dp3.mp he1 with z|z
          · exact fr e1 z
          · have:e1=(r.length,e):=by simpa using z
            subst this
            exact s2.free he
        · have h2c:=s2 c o hc
          rw[g8 (g6 h2c he),g8 (g6 hc hd),kp _ (g6 h2c he)]
          exact h2c
   · rintro σ H2 ⟨es,v2,rfl,h2d,bl,les,fr,s2⟩
     rw[dn8,rows.1,dq8] at bl
     rw[dn8,rows.1] at les
     exact ⟨_,rfl,q d es H2 hd s2 h2d bl (by omega) fr⟩
end
end My
namespace My
open PySem L2 Mth
section
variable {P:Program} {w:World} {K:PySem.W.Frag} {mg:Str→Option Value} {base:Heap}
def JL (m:Nat)(rs:List (List Int)):List (List Int)→List (List (List Int))→Prop
 |[],[]=>True
 |J::qs,Rs::Rss=>JO m rs J Rs∧JL m rs qs Rss
 |_,_=>False
theorem bw0 {m:Nat}{rs:List (List Int)}:∀{qs:List (List Int)} {Rss:List (List (List Int))} {J:List Int} {Rs:List (List Int)},JL m rs qs Rss→JO m rs J Rs→JL m rs (qs++[J]) (Rss++[Rs])
 |[],[],_,_,_,h=>⟨h,trivial⟩
 |[],_::_,_,_,h,_=>h.elim
 |_::_,[],_,_,h,_=>h.elim
 |_::_,_::_,_,_,⟨a,b⟩,h=>⟨a,bw0 b h⟩
theorem bw1 {m:Nat}{rs:List (List Int)}:∀{qs:List (List Int)} {Rss:List (List (List Int))},JL m rs qs Rss→qs.flatten.Perm Rss.flatten.flatten
 |[],[],_=>List.Perm.refl _
 |[],_::_,h=>h.elim
 |_::_,[],h=>h.elim
 |J::qs,Rs::Rss,⟨⟨l,k,l0,_,c,_,_,hj,_⟩,b⟩=>by
  rw[dq1,dq1,ds4]
  exact List.Perm.append (hj.perm l0 c) (bw1 b)
theorem ca7 {m:Nat}{rs:List (List Int)}:∀{qs:List (List Int)} {Rss:List (List (List Int))},JL m rs qs Rss→∀{Rs:List (List Int)},Rs∈Rss→∃J∈qs,JO m rs J Rs
 |[],[],_,_,h=>by simp at h
 |[],_::_,h,_,_=>h.elim
 |_::_,[],h,_,_=>h.elim
 |J::qs,Rs::Rss,⟨a,b⟩,R,h=>by
  rcases dp7.mp h with e|e
  · rw[e];exact ⟨J,do3,a⟩
  · obtain ⟨J',h1,h2⟩:=ca7 b e
    exact ⟨J',do4 _ h1,h2⟩
theorem bb1 {m:Nat}{rs:List (List Int)}:∀{qs:List (List Int)} {Rss:List (List (List Int))},JL m rs qs Rss→∀{J:List Int},J∈qs→∃Rs∈Rss,JO m rs J Rs
 |[],[],_,_,h=>by simp at h
 |[],_::_,h,_,_=>h.elim
 |_::_,[],h,_,_=>h.elim
 |J::qs,Rs::Rss,⟨a,b⟩,R,h=>by
  rcases dp7.mp h with e|e
  · rw[e];exact ⟨Rs,do3,a⟩
  · obtain ⟨J',h1,h2⟩:=bb1 b e
    exact ⟨J',do4 _ h1,h2⟩
theorem cr7 {m:Nat}{rs Rs:List (List Int)}{J:List Int}(h:JO m rs J Rs):J≠[]:=by
 obtain ⟨l,k,l0,_,_,_,d1,hj,_⟩:=h
 intro e
 have:=hj.len
 rw[e] at this
 have:0 < Rs.length*l:=dx9 (by omega) l0
 simp only[ec6] at*
 omega
theorem bf3:∀{ks:List Nat} {rs:List (List Int)},ks.Nodup→(∀r∈rs,r.length∈ks)→((ks.map (w6 rs)).flatten).Perm rs
 |[],rs,_,h=>by
  cases rs with
  |nil=>exact List.Perm.refl _
  |cons r rs=>exact absurd (h r do3) (by simp)
 |k::ks,rs,nd,h=>by
  obtain ⟨n1,n2⟩:=dr5.mp nd
  have e:ks.map (w6 rs)=ks.map (w6 (rs.filter fun r=> !decide (r.length=k))):=dt3 fun l hl=>by
    unfold w6
    rw[List.filter_filter]
    refine List.filter_congr fun r hr=> ?_
    by_cases z:r.length=l
    · have:r.length≠k:=fun y=>n1 (by rw[←y,z];exact hl)
      simp [z,this] at*
      exact fun y=>this (by rw[←y])
    · simp [z]
  rw[dr7,dq1,e]
  have ih:=bf3 (ks:=ks) (rs:=rs.filter fun r=> !decide (r.length=k)) n2 fun r hr=>by
    obtain ⟨h1,h2⟩:=dt8.mp hr
    have:=h r h1
    rcases dp7.mp this with y|y
    · simp [y] at h2
    · exact y
  exact (List.Perm.append_left _ ih).trans (List.filter_append_perm (fun r:List Int=>decide (r.length=k)) rs)
theorem ca8 {H:Hp}{as:List Addr}{rs:List (List Int)}(h:k7 H as rs)(b n:Nat):k7 H ((as.drop b).take n) ((rs.drop b).take n):=by
 refine ⟨by rw[dp5,dp5,dr2,dr2,h.1],fun j a r h1 h2=> ?_⟩
 by_cases hj:j < n
 · rw[dt2 hj,dy2] at h1 h2
   exact h.2 _ a r h1 h2
 · have:=(do0.mp h1).1
   rw[dp5] at this
   omega
theorem af8 (g:List Int→Bool):∀rs:List (List Int),(rs.filter g).flatten.length≤rs.flatten.length
 |[]=>do1 _
 |r::rs=>by
  have ih:=af8 g rs
  rw[List.filter_cons]
  split
  · rw[dq1,dq1,do6,do6];omega
  · rw[dq1,do6];omega
theorem bf4:∀{qs:List (List Int)} {J:List Int},qs.flatten.Nodup→J∈qs→J.Nodup
 |[],_,_,h=>by simp at h
 |q::qs,J,nd,h=>by
  rw[dq1,dt7] at nd
  rcases dp7.mp h with e|e
  · rw[e];exact nd.1
  · exact bf4 nd.2.1 e
def bn8:Sp:=fun vs H Q _=>∃(a:Addr) (p:List Int) (m:Nat),vs=[.ref a,.int (m:Int)]∧B8 H a p∧1≤m∧m≤1000000000000000000000000000000∧
 (∀(t o:Addr) (r:List Int) (H':Hp),e8 H H'→H' t=some (.tup [.str "root",.ref o])→H o=none→H' o=some (.lst (r.map V.int))→j8 r→r.length=p.length→o3 r (m:Int) p→bl5 p m r→Q (.ref t) H')∧
 (∀(t:Addr) (l c d:Nat) (H':Hp),e8 H H'→H' t=some (.tup [.str "bars",.int (l:Int),.int (c:Int),.int (d:Int)])→c=n5 (j6 p p.length) l→1≤c→Q0 l m d→¬d∣c→(∀r∈j6 p p.length,r.length < l→∀e,Q0 r.length m e→e∣n5 (j6 p p.length) r.length)→Q (.ref t) H')
theorem V8:l8 ["p","m","by_length","joined","length","rings","many","least","begin"] ["p","m"] (i7 ac9):=⟨rfl,rfl,rfl,by decide+kernel,rfl,by decide+kernel,by decide+kernel⟩
theorem cv7 {f:Addr}{fd:FuncData}(F:A2 K "root_told" "root_told" ac9 f fd)(B:Bl mg)(cR:j7 P w K mg base "rounds_of" 4 ["p"] P6)(cS:j7 P w K mg base "sort_by_length" 1 ["rings"] af7)(c1:j7 P w K mg base "must_be_from_one" 2 ["number"] ap2)
   (cLR:j7 P w K mg base "least_right" 3 ["l","m"] co2) (cJ:j7 P w K mg base "join_rings" 1 ["rings","m"] am5) (cF:j7 P w K mg base "from_rounds" 3 ["rounds"] bn1):o8 P w K mg base A0 5 f fd ["p","m"] bn8:=by
 refine F.ok V8 (fun vs H Q E h=> ?_) (fun cdv A outer s H vs Q E hr h=> ?_)
 · obtain ⟨a,p,m,rfl,_⟩:=h
   rfl
 · obtain ⟨a,p,m,rfl,⟨ha,tp,lp⟩,m1,m2,q1,q2⟩:=h
   have hr1:m7 1 _:=hr.mono (by decide)
   have hr2:m7 2 _:=hr.mono (by decide)
   have hr3:m7 3 _:=hr.mono (by decide)
   have hu:=S8 hr
   refine ⟨_,c7 (i4 (i:=2) V8.nd rfl (Or.inl rfl) (h8 cS hr1 (c5 (h8 cR hr (c5 (pv 0) c6)) c6)))
     (c7 (o7 (h8 c1 hr2 (c5 (pv 1) c6)))
     (c7 (i4 (i:=3) V8.nd rfl (Or.inl rfl) (w4 c6))
     (c7 (o6 PassesOwn.never rfl (w9 (bz8 rfl B.sorted (c5 (pv 2) c6))) (j5 (i:=4) V8.nd rfl (Or.inl rfl))
       (c7 (i4 (i:=5) V8.nd rfl (Or.inl rfl) (ao6 hu (pv 2) (pv 4) (fun _ _=>rfl)))
       (c7 (i4 (i:=6) V8.nd rfl (Or.inl rfl) (t8 B.len (c5 (pv 5) c6)))
       (c7 (i4 (i:=7) V8.nd rfl (Or.inl rfl) (h8 cLR hr3 (c5 (pv 4) (c5 (pv 1) c6))))
       (c7 (x9 (m9 X8 (l7 B6 (pv 6) (pv 7)) i6 (o9 _)) (e7 (l6 (ak4 (c5 bi2 (c5 (pv 4) (c5 (pv 6) (c5 (pv 7) c6))))))) p8)
       (e7 (o6 PassesOwn.never rfl (cg8 (by rfl) B.range (c5 i6 (c5 (pv 6) (c5 (pv 7) c6)))) (j5 (i:=8) V8.nd rfl (Or.inl rfl))
         (e7 (o7 (E4 (pv 3) (c5 (h8 cJ hr1 (c5 (U1 Y2 (pv 5) (S2 (pv 8)) (S2 (l7 G2 (pv 8) (pv 7)))) (c5 (pv 1) c6))) c6)))))))))))
     (e7 (l6 (ak4 (c5 bi2 (c5 (h8 cF hr3 (c5 (pv 3) c6)) c6)))))))),?_⟩
   refine ⟨_,rfl,a,p,rfl,⟨ha,tp,lp⟩,fun ro as rs H1 hro s1 h1ro rows up fa nda nra=> ?_⟩
   have cl:=ai9 up
   have fl:=aa4 tp up
   have ers:rs=j6 p p.length:=up.eq
   refine ⟨ro,as,rs,rfl,h1ro,rows,by omega,fun d es H2 hd s12 h2d bl les fre=> ?_⟩
   have s02:=s1.trans s12
   refine ⟨_,rfl,(m:Int),rfl,by omega,?_⟩
   refine ⟨dq3 _,fun jo hjo=> ?_⟩
   have ndj:d≠jo:=g6 h2d hjo
   have s23:e8 H2 (c9 H2 jo (.lst [])):=e8.upd_new hjo
   have h3j:(c9 H2 jo (.lst [])) jo=some (.lst []):=c8
   generalize (c9 H2 jo (.lst []))=H3 at s23 h3j ⊢
   have h3d:=s23 d _ h2d
   have hkeys:(q5 es).map (·.1)=(es.map fun e=>(e.1:Int)).map Sum.inl:=by unfold q5;rw[ds7,ds7];rfl
   refine ⟨_,rfl,d,q5 es,es.map fun e=>(e.1:Int),rfl,h3d,hkeys,by rw[dn8];omega,fun ms so pm srt hso=> ?_⟩
   have s34:e8 H3 (c9 H3 so (.lst (ms.map V.int))):=e8.upd_new hso
   have h4s:(c9 H3 so (.lst (ms.map V.int))) so=some (.lst (ms.map V.int)):=c8
   generalize (c9 H3 so (.lst (ms.map V.int)))=H4 at s34 h4s ⊢
   have h4j:=s34 jo _ h3j
   have s24:=s23.trans s34
   have s04:=s02.trans s24
   have hjo0:H jo=none:=s02.free hjo
   have mem_ms:∀z∈ms,∃e∈es,z=(e.1:Int):=fun z hz=>by
     obtain ⟨e,he,rfl⟩:=do9.mp (pm.mem_iff.mp hz)
     exact ⟨e,he,rfl⟩
   have in_ms:∀r∈rs,((r.length:Nat):Int)∈ms:=fun r hr'=>by
     obtain ⟨e,he,hl⟩:=do9.mp (bl.all r hr')
     exact pm.mem_iff.mpr (do9.mpr ⟨e,he,by rw[hl]⟩)
   have nso:so≠jo:=fun z=>by rw[z,h3j] at hso;cases hso
   refine ⟨so,rfl,⟨_,g9.of h4s⟩,A8 (K:=K) (a:=so) (xs:=ms.map V.int) (fun i σ H5=>∃(js:List Addr) (qs:List (List Int)) (Rss:List (List (List Int))) (v4 v5 v6 v7 v8:Option V),σ=[some (.ref a),some (.int (m:Int)),some (.ref d),some (.ref jo),v4,v5,v6,v7,v8]∧H5 jo=some (.lst (js.map V.ref))∧k7 H5 js qs∧jo∉js∧js.length≤40*i∧JL m rs qs Rss∧Rss.flatten=((ms.take i).map fun z=>w6 rs z.toNat).flatten∧(∀z∈ms.take i,∀e,Q0 z.toNat m e→e∣n5 rs z.toNat)∧(∀c o,H4 c=some o→c≠jo→H5 c=some o))
     ⟨[],[],[],none,none,none,none,none,rfl,h4j,⟨rfl,fun j a r h=>by simp at h⟩,by simp,dq3 _,trivial,rfl,fun z hz=>by simp at hz,fun c o h _=>h⟩ (fun i σ H5 _ ⟨_,_,_,_,_,_,_,_,_,_,_,_,_,_,_,_,k⟩=>g9.of (k so _ h4s nso)) ?_ ?_⟩
   · rintro i y σ H5 hi ⟨js,qs,Rss,v4,v5,v6,v7,v8,rfl,h5j,rowsJ,njj,ljs,jl,hfl,hdv,k5⟩
     obtain ⟨z,hz,rfl⟩:=K4 hi
     obtain ⟨e,he,rfl⟩:=mem_ms z (dp0 hz)
     have hil:i < ms.length:=(do0.mp hz).1
     have lms:ms.length=es.length:=by rw[pm.length_eq,dn8]
     obtain ⟨cs,hcs,rcs⟩:=bl.row e he
     have h5d:=k5 d _ (s34 d _ h3d) ndj
     have nej:e.2≠jo:=g6 hcs hjo
     have h5c:=k5 e.2 _ (s24 e.2 _ hcs) nej
     obtain ⟨r0,hr0,lr0⟩:=bl.key e.1 (do9.mpr ⟨e,he,rfl⟩)
     have le:1≤e.1∧e.1≤40:=by
       obtain ⟨y,L,hy,pr,er,_⟩:=up.ring r0 hr0
       have b:=M1 tp hy (m:=L) fun i i0 i1=>pr.least i i0 i1
       have:=pr.pos
       rw[er,m8] at lr0
       omega
     have lcs:cs.length=n5 rs e.1:=by rw[rcs.1,P3]
     have hfil:∀r∈w6 rs e.1,r.length=e.1∧r∈rs:=fun r hr'=>by
       obtain ⟨h1,h2⟩:=dt8.mp hr'
       exact ⟨of_decide_eq_true h2,h1⟩
     have c1':1≤n5 rs e.1:=by
       rw[←P3]
       exact ed9 (dt8.mpr ⟨hr0,decide_eq_true lr0⟩)
     have ccl:n5 rs e.1*e.1≤40:=by
       have h1:=(Z6 (l:=e.1) (by omega) (Rs:=w6 rs e.1) fun r hr'=>(hfil r hr').1).1
       rw[P3] at h1
       have h2:(w6 rs e.1).flatten.length≤rs.flatten.length:=af8 _ rs
       omega
     have c40:n5 rs e.1≤40:=dp4 (ds6 _ (by omega)) ccl
     refine ⟨_,rfl,_,rfl,d,.ref e.2,rfl,.inl ⟨q5 es,Sum.inl (e.1:Int),.inl h5d,rfl,(bn6 bl.nk he).symm⟩,?_⟩
     refine ⟨_,rfl,e.2,_,rfl,.inl (g9.of h5c),?_⟩
     rw[dn8,lcs]
     obtain ⟨c,hc⟩:∃c,c=n5 rs e.1:=⟨_,rfl⟩
     rw[←hc] at c1' ccl c40 lcs ⊢
     refine ⟨_,rfl,_,rfl,e.1,m,rfl,by omega,by omega,by omega,m2,fun dd hlr=> ?_⟩
     have ddp:0 < dd:=hlr.pos (by omega)
     refine ⟨_,rfl,_,rfl,_,_,rfl,rfl,(by show (0:Int) < (dd:Int);omega),rfl,_,rfl,?_⟩
     by_cases hdvd:dd∣c
     · have e0:((c:Int)%(dd:Int))=0:=by
         rw[←dv0,Nat.mod_eq_zero_of_dvd hdvd];rfl
       refine Y0 (congrArg V.int e0) ?_
       obtain ⟨u,hu'⟩:=hdvd
       have u1:1≤u:=by
         rcases dw5 u with y|y
         · rw[y,ec0] at hu';omega
         · exact y
       have ddc:dd≤c:=eb2 (by omega) ⟨u,hu'⟩
       have uc:u≤c:=eb2 (by omega) ⟨dd,by rw[hu',du0]⟩
       have en:(c - 1)/dd+1=u:=by
         have:c - 1=(u - 1)*dd+(dd - 1):=by
           have:u*dd=(u - 1)*dd+dd:=by rw[←dy8];congr 1;omega
           rw[hu',du0];omega
         rw[this,du0,ei4 ddp,ee7 (by omega)];omega
       obtain ⟨k,hk⟩:=hlr.parts
       have cop:dp8 e.1 k=1:=by
         have:=hlr.rest
         rw[hk,dv4 k ddp] at this
         exact this
       refine ⟨_,rfl,_,rfl,c,dd,rfl,by omega,by omega,by omega,by omega,?_⟩
       rw[en]
       refine bz9 (lo:=0) (st:=(dd:Int)) (n:=u) (fun j σ H6=>∃(js':List Addr) (qs':List (List Int)) (Rss':List (List (List Int))) (v8:Option V),σ=[some (.ref a),some (.int (m:Int)),some (.ref d),some (.ref jo),some (.int (e.1:Int)),some (.ref e.2),some (.int (c:Int)),some (.int (dd:Int)),v8]∧H6 jo=some (.lst (js'.map V.ref))∧k7 H6 js' qs'∧jo∉js'∧js'.length=js.length+j∧JL m rs qs' Rss'∧Rss'.flatten=Rss.flatten++(w6 rs e.1).take (j*dd)∧(∀c o,H4 c=some o→c≠jo→H6 c=some o))
         ⟨js,qs,Rss,v8,rfl,h5j,rowsJ,njj,rfl,jl,by rw[dz9,dy3,dq6],k5⟩ ?_ ?_
       · rintro j σ H6 hj ⟨js',qs',Rss',v8,rfl,h6j,rowsJ',njj',ljs',jl',hfl',k6⟩
         have h6c:=k6 e.2 _ (s24 e.2 _ hcs) nej
         have jle:j*dd+dd≤c:=by
           calc j*dd+dd=(j+1)*dd:=by rw[dy8]
             _≤u*dd:=du5 dd hj
             _=c:=by rw[hu',du0]
         refine ⟨_,rfl,.inl ⟨rfl,_,g9.of h6j⟩,_,rfl,_,rfl,_,rfl,_,rfl,_,rfl,_,_,rfl,rfl,_,rfl,e.2,_,rfl,g9.of h6c,fun sl hsl=> ?_⟩
         have ecut:W4 (cs.map V.ref) (some ((0:Int)+(j:Int)*(dd:Int))) (some ((0:Int)+(j:Int)*(dd:Int)+(dd:Int)))=((cs.drop (j*dd)).take dd).map V.ref:=by
           have a1:(0:Int)+(j:Int)*(dd:Int)=((j*dd:Nat):Int):=by rw[Int.zero_add,dx5]
           have a2:((j*dd:Nat):Int)+(dd:Int)=((j*dd+dd:Nat):Int):=by omega
           rw[a1,a2,ct4 _ _ _ (by rw[dn8,lcs];omega),dn8,lcs,eh3,ej2]
           congr 1
           omega
         dsimp only
         rw[ecut]
         have s67:e8 H6 (c9 H6 sl (.lst (((cs.drop (j*dd)).take dd).map V.ref))):=e8.upd_new hsl
         have h7s:(c9 H6 sl (.lst (((cs.drop (j*dd)).take dd).map V.ref))) sl=some (.lst (((cs.drop (j*dd)).take dd).map V.ref)):=c8
         generalize (c9 H6 sl (.lst (((cs.drop (j*dd)).take dd).map V.ref)))=H7 at s67 h7s ⊢
         have s17:∀c o,H1 c=some o→H7 c=some o:=fun c o h1=>s67 c o (k6 c o (s24 c o (s12 c o h1)) (g6 (s12 c o h1) hjo))
         have rB:k7 H7 ((cs.drop (j*dd)).take dd) (((w6 rs e.1).drop (j*dd)).take dd):=ca8 (p6 rcs fun c _ o ho=>s17 c o ho) _ _
         have lB:(((w6 rs e.1).drop (j*dd)).take dd).length=dd:=by
           rw[dp5,dr2,P3,←hc];omega
         have mB:∀r∈((w6 rs e.1).drop (j*dd)).take dd,r∈w6 rs e.1:=fun r hr'=>dy4 (du6 hr')
         obtain ⟨Bk,hBk⟩:∃Bk,Bk=((w6 rs e.1).drop (j*dd)).take dd:=⟨_,rfl⟩
         rw[←hBk] at rB lB mB
         refine ⟨_,rfl,sl,_,Bk,e.1,k,by rw[lB,←hk];rfl,h7s,rB,by omega,fun r hr'=>(hfil r (mB r hr')).1,by omega,?_,cop,fun o J H8 ho s78 h8o hji=> ?_⟩
         · rw[lB]
           exact dp4 (du5 _ ddc) ccl
         have h8j:=s78 jo _ (s67 jo _ h6j)
         have noj:o≠jo:=fun z=>by rw[z,s67 jo _ h6j] at ho;cases ho
         refine ⟨jo,_,_,rfl,rfl,h8j,(by rw[dn8,sizeLine_eq];omega),?_⟩
         have hJO:JO m rs J Bk:=⟨e.1,k,by omega,by rw[lB,←hk],cop,fun r hr'=>(hfil r (mB r hr')).1,by omega,hji,fun r hr'=>(hfil r (mB r hr')).2,by rw[lB];exact hlr,j,by rw[lB];exact hBk⟩
         refine ⟨js'++[o],qs'++[J],Rss'++[Bk],_,rfl,by rw[c8,do8];rfl,?_,?_,by rw[do6,ljs'];rfl,bw0 jl' hJO,?_,fun c o' hco hcj=> ?_⟩
         · refine L8 (p6 rowsJ' fun c hcm o' hco=> ?_) ?_
           · have:c≠jo:=fun z=>njj' (by rw[←z];exact hcm)
             rw[g8 this]
             exact s78 c o' (s67 c o' hco)
           · rw[g8 noj];exact h8o
         · intro hm'
           rcases dp3.mp hm' with y|y
           · exact njj' y
           · have:jo=o:=by simpa using y
             exact noj this.symm
         · rw[ds4,dq1,List.flatten_nil,dq6,hfl',hBk,dq4,dy8,ej1]
         · rw[g8 hcj]
           exact s78 c o' (s67 c o' (k6 c o' hco hcj))
       · rintro σ H6 ⟨js',qs',Rss',v8,rfl,h6j,rowsJ',njj',ljs',jl',hfl',k6⟩
         refine ⟨js',qs',Rss',_,_,_,_,_,rfl,h6j,rowsJ',njj',?_,jl',?_,fun z hz' e' he'=> ?_,k6⟩
         · rw[ljs',ec8];omega
         · have efil:(w6 rs e.1).take (u*dd)=w6 rs e.1:=dw1 (by rw[P3,←hc,hu',du0];exact do1 _)
           rw[hfl',hfl,i9 hz,do8,ds4,efil]
           show _=_++([w6 rs ((e.1:Int)).toNat]).flatten
           rw[dr1,dq1,List.flatten_nil,dq6]
         · rw[i9 hz] at hz'
           rcases dp3.mp hz' with y|y
           · exact hdv z y e' he'
           · have:z=(e.1:Int):=by simpa using y
             subst this
             rw[dr1] at he' ⊢
             rw[he'.uniq hlr,←hc]
             exact ⟨u,hu'⟩
     · have e0:¬V.int ((c:Int)%(dd:Int))=V.int 0:=fun z=>hdvd (dz0 (by have:=V.int.inj z;rw[←dv0] at this;omega))
       rw[decide_eq_false e0]
       refine U4 ?_
       refine ⟨_,rfl,_,rfl,_,rfl,(by show 4≤sizeLine;decide),fun t ht=> ?_⟩
       refine q2 t e.1 c dd _ (fun b o hb=> ?_) c8 (by rw[hc,ers]) c1' hlr hdvd fun r hr' hlt e' he'=> ?_
       · have:=k5 b o (s04 b o hb) (g6 hb hjo0)
         rw[g8 (g6 this ht)];exact this
       · rw[←ers] at hr' ⊢
         have hin:=in_ms r hr'
         obtain ⟨jj,hjj⟩:=dq9.mp hin
         have hjl:=(do0.mp hjj).1
         have:jj < i:=by
           rcases ed4 jj i with y|y
           · exact y
           · exfalso
             have e1:=(do0.mp hjj).2
             have e2:=(do0.mp hz).2
             rcases ed4 i jj with w|w
             · have:=dq7.mp srt i jj hil hjl w
               rw[e1,e2] at this
               omega
             · have:jj=i:=by omega
               subst this
               rw[e1] at e2
               omega
         have hm':((r.length:Nat):Int)∈ms.take i:=dp0 (i:=jj) (by rw[dt2 this];exact hjj)
         have:=hdv _ hm' e' (by rw[dr1];exact he')
         rw[dr1] at this
         exact this
   · rintro σ H5 ⟨js,qs,Rss,v4,v5,v6,v7,v8,rfl,h5j,rowsJ,njj,ljs,jl,hfl,hdv,k5⟩
     rw[dn8,dq8] at hfl
     have hfl2:Rss.flatten=((ms.map ef3).map (w6 rs)).flatten:=by rw[hfl,ds7];rfl
     have pk:(ms.map ef3).Perm (es.map (·.1)):=by
       have:=pm.map ef3
       rw[ds7] at this
       exact this
     have pR:Rss.flatten.Perm rs:=by
       rw[hfl2]
       refine bf3 (pk.nodup_iff.mpr bl.nk) fun r hr'=> ?_
       exact pk.mem_iff.mpr (bl.all r hr')
     have pq:qs.flatten.Perm (S9 0 p.length):=((bw1 jl).trans pR.flatten).trans (ao7 tp up)
     obtain ⟨tq,lq⟩:=ac3 pq
     refine ⟨_,rfl,jo,js,qs,rfl,h5j,rowsJ,fun J hJ=> ?_,tq,by omega,fun o r H6 ho s56 h6o lr on=> ?_⟩
     · obtain ⟨Rs,_,hjo'⟩:=bb1 jl hJ
       exact cr7 hjo'
     refine ⟨(by show 2≤sizeLine;decide),fun t ht=> ?_⟩
     have hq:∀J∈qs,G4 r J:=fun J hJ=>by
       obtain ⟨Rs,_,hjo'⟩:=bb1 jl hJ
       refine ⟨cr7 hjo',bf4 tq.nd hJ,fun x hx=>tq.lo x (dp9.mpr ⟨J,hJ,hx⟩),on J hJ⟩
     have hx:∀x,In p x→∃J∈qs,ax2 p m J x:=fun x hxi=>by
       have hxf:x∈rs.flatten:=(ao7 tp up).mem_iff.mpr (N7.mpr hxi)
       obtain ⟨r0,hr0,hxr⟩:=dp9.mp hxf
       obtain ⟨Rs,hRs,hrR⟩:=dp9.mp (pR.mem_iff.mpr hr0)
       obtain ⟨J,hJ,l,k,l0,hm,c,hr',d1,hj,_,_⟩:=ca7 jl hRs
       obtain ⟨y,L,hy,pr,er,_⟩:=up.ring r0 hr0
       have hL:L=l:=by
         have:=hr' r0 hrR
         rw[er,m8] at this
         exact this
       subst hL
       obtain ⟨aa,haa⟩:=dq9.mp hrR
       rw[er] at hxr
       obtain ⟨bb,hbb,rfl⟩:=B0.mp hxr
       exact ⟨J,hJ,L,k,Rs,aa,bb,y,l0,hm,c,hr',hj,(do0.mp haa).1,hbb,hy,pr,by rw[do5,haa];exact er,rfl⟩
     obtain ⟨tr,pw⟩:=bu5 tp (by rw[lr,lq]) hq hx
     have hro:bl5 p m r:=⟨by rw[lr,lq],fun r0 hr0=>by
       rw[←ers] at hr0 ⊢
       obtain ⟨Rs,hRs,hrR⟩:=dp9.mp (pR.mem_iff.mpr hr0)
       obtain ⟨J,hJ,jo'⟩:=ca7 jl hRs
       exact ⟨J,Rs,jo',hrR,hq J hJ⟩⟩
     have h05:∀b o,H b=some o→H5 b=some o:=fun b o hb=>k5 b o (s04 b o hb) (g6 hb hjo0)
     have ho0:H o=none:=by
       cases hh:H o with
       |none=>rfl
       |some z=>have:=h05 o z hh;rw[ho] at this;cases this
     have nto:o≠t:=g6 h6o ht
     refine q1 t o r _ (fun b u hb=> ?_) c8 ho0 (by rw[g8 nto];exact h6o) tr (by rw[lr,lq]) pw hro
     have:=s56 b u (h05 b u hb)
     rw[g8 (g6 this ht)];exact this
end
end My
namespace My
open PySem L2 Mth
section
variable {P:Program} {w:World} {K:PySem.W.Frag} {mg:Str→Option Value} {base:Heap}
section
variable {X:Cx}
theorem dd0 {o:Expr}{to:TE}{apos pos:Pos}(ho:PE X o to)(hbase:attributeBase o "pop" X.env (eval o X.env)=eval o X.env:=by rfl)(hline:(apos.endLine==pos.line)=true:=by rfl):
 PE X (.Call (.Attribute o "pop" apos) [] [] pos) (da0 X.K "list" da2 to):=da1 PySem.F.plainAttrs_list PySem.F.slot_list_pop PySem.F.type_list_pop da3 ho hbase hline
theorem ci3 (K:PySem.W.Frag){o e:Expr}{to:TE}{t:TA}{apos pos:Pos}(ho:PE X o to)(ha:PA X [e] t)(hK:X.K=K:=by rfl)
   (hbase:attributeBase o "pop" X.env (eval o X.env)=eval o X.env:=by rfl)
   (hfew:((backTo pos (starEach [e] X.env)).all (fun x=> !x.1)&&(backToKw pos (keywordEach [] X.env)).all (fun x=>x.1.isSome)
     &&decide ([e].length+([]:List Keyword).length+(if ([]:List Keyword).isEmpty then 0 else 1) < 30))=true:=by rfl)
   (hline:(apos.endLine==pos.line)=true:=by rfl) (hs:starEach [e] X.env=(false,eval e X.env)::starEach [] X.env:=by rfl) (hplain:(backTo pos (starEach [] X.env)).any (·.1)=false:=by rfl):
   PE X (.Call (.Attribute o "pop" apos) [e] [] pos) (tBM K "list" cd9 to t):=by
 subst hK
 exact av4 PySem.F.plainAttrs_list PySem.F.slot_list_pop PySem.F.type_list_pop cl1 ho ha hbase hfew hline hs hplain
end
def bn9 (K:PySem.W.Frag):Sp:=fun vs H Q _=>∃(a:Addr) (ns:List Int) (k:Int),vs=[.ref a,.int k]∧g9 K H a (ns.map V.int)∧0≤k∧∀z,Q (.int z) H
theorem dd1:l8 ["script","k"] ["script","k"] (i7 X2):=⟨rfl,rfl,rfl,by decide+kernel,rfl,by decide+kernel,by decide+kernel⟩
theorem cv8 {f:Addr}{fd:FuncData}(F:A2 K "_law_cell_at" "_law_cell_at" X2 f fd)(B:Bl mg):o8 P w K mg base A0 1 f fd ["script","k"] (bn9 K):=by
 refine F.ok dd1 (fun vs H Q E h=> ?_) (fun cdv A outer s H vs Q E hr h=> ?_)
 · obtain ⟨a,ns,k,rfl,_⟩:=h
   rfl
 · obtain ⟨a,ns,k,rfl,ha,k0,q⟩:=h
   refine ⟨_,c7 (x9 (m9 au8 (pv 1) (t8 B.len (c5 (pv 0) c6)) (o9 _)) (e7 (l6 (G3 C0 (pv 0) (pv 1) (fun _ _=>rfl)))) p8) (e7 (l6 i6)),?_⟩
   refine ⟨_,rfl,_,rfl,a,_,rfl,.inl ha,_,_,rfl,rfl,_,rfl,?_⟩
   rw[dn8]
   refine W5 (fun h=> ?_) (fun h=>q 0)
   have h:k < (ns.length:Int):=of_decide_eq_true h
   exact ⟨_,rfl,_,rfl,a,_,k,_,rfl,rfl,ha,U8 k0 h,q _⟩
def bo0:Sp:=fun vs H Q _=>∃(z k:Int),vs=[.int z,.int k]∧0≤k∧k≤1000∧∀r:Int,0≤r→Q (.int r) H
theorem bo1:l8 ["cell","k","one"] ["cell","k"] (i7 ai4):=⟨rfl,rfl,rfl,by decide+kernel,rfl,by decide+kernel,by decide+kernel⟩
theorem cv9 {f:Addr}{fd:FuncData}(F:A2 K "_law_stir" "_law_stir" ai4 f fd):o8 P w K mg base A0 1 f fd ["cell","k"] bo0:=by
 refine F.ok bo1 (fun vs H Q E h=> ?_) (fun cdv A outer s H vs Q E hr h=> ?_)
 · obtain ⟨z,k,rfl,_⟩:=h
   rfl
 · obtain ⟨z,k,rfl,k0,k1,q⟩:=h
   refine ⟨_,c7 (i4 (i:=2) bo1.nd rfl (Or.inl rfl) (l7 B6 (l7 N6 (l7 G2 (l7 G2 (l7 B6 (pv 0) i6) (l7 N6 i6 (pv 1))) i6) i6) i6))
     (c7 (i4 (i:=2) bo1.nd rfl (Or.inl rfl) (l7 B6 (l7 N6 (pv 2) (pv 2)) i6))
     (e7 (l6 (l7 bs9 (l7 B6 (l7 N6 (l7 G2 (pv 2) (l7 N6 i6 (pv 1))) i6) i6) i6)))),?_⟩
   have e64:(2:Int)^64=18446744073709551616:=by decide
   refine ⟨_,rfl,_,_,rfl,rfl,(by show (0:Int) < 2147483629;decide),_,rfl,_,_,rfl,rfl,.inl ⟨by decide,by decide⟩,_,_,rfl,rfl,_,_,rfl,rfl,_,_,rfl,rfl,.inr ⟨by decide,by decide⟩,_,_,rfl,rfl,(by show (0:Int) < 2147483647;decide),?_⟩
   refine ⟨_,rfl,_,rfl,_,_,rfl,rfl,.inl ⟨by rw[e64];omega,by rw[e64];omega⟩,_,_,rfl,rfl,(by show (0:Int) < 2147483587;decide),?_⟩
   refine ⟨_,rfl,_,rfl,_,_,rfl,rfl,.inl ⟨by decide,by decide⟩,_,_,rfl,rfl,_,_,rfl,rfl,.inr ⟨by decide,by decide⟩,_,_,rfl,rfl,(by show (0:Int) < 2147483563;decide),_,_,rfl,rfl,⟨by decide,by decide⟩,?_⟩
   exact q _ (Int.ediv_nonneg (du1 _ (by decide)) (by decide))
def y8 (H:Hp)(a:Addr):Prop:=∃ds:List Int,H a=some (.lst (ds.map V.int))∧(∀x∈ds,0≤x)∧ds.length≤1000
def bo2:Sp:=fun vs H Q _=>∃(z:Int) (n:Nat),vs=[.int z,.int (n:Int)]∧n≤900∧∀(l:Addr) (H':Hp),H l=none→e8 H H'→y8 H' l→Q (.ref l) H'
theorem aa6:l8 ["cell","many","found","digits","k","number"] ["cell","many"] (i7 ai5):=⟨rfl,rfl,rfl,by decide+kernel,rfl,by decide+kernel,by decide+kernel⟩
theorem cw0 {f:Addr}{fd:FuncData}(F:A2 K "_law_deck" "_law_deck" ai5 f fd)(B:Bl mg)(cS:j7 P w K mg base "_law_stir" 1 ["cell","k"] bo0):o8 P w K mg base A0 2 f fd ["cell","many"] bo2:=by
 refine F.ok aa6 (fun vs H Q E h=> ?_) (fun cdv A outer s H vs Q E hr h=> ?_)
 · obtain ⟨z,n,rfl,_⟩:=h
   rfl
 · obtain ⟨z,n,rfl,n9,q⟩:=h
   refine ⟨_,c7 (i4 (i:=2) aa6.nd rfl (Or.inl rfl) (w4 c6))
     (c7 (i4 (i:=3) aa6.nd rfl (Or.inl rfl) (pv 0))
     (c7 (o6 PassesOwn.never rfl (K1 (by rfl) B.range (c5 (pv 1) c6)) (j5 (i:=4) aa6.nd rfl (Or.inl rfl))
       (c7 (i4 (i:=5) aa6.nd rfl (Or.inl rfl) (h8 cS hr (c5 (pv 0) (c5 (pv 4) c6))))
       (c7 (x9 (m9 by4 (pv 0) (l7 cz3 i6 i6) (o9 _)) (e7 (i4 (i:=5) aa6.nd rfl (Or.inl rfl) (l7 B6 (pv 3) i6))) p8)
       (c7 (i4 (i:=3) aa6.nd rfl (Or.inl rfl) (l7 bs9 (pv 3) i6))
       (e7 (o7 (E4 (pv 2) (c5 (pv 5) c6))))))))
     (e7 (l6 (db2 (pv 2) (S2 (cq8 cc6 i6))))))),?_⟩
   refine ⟨dq3 _,fun l hl=> ?_⟩
   have s1:e8 H (c9 H l (.lst [])):=e8.upd_new hl
   have h1l:(c9 H l (.lst [])) l=some (.lst []):=c8
   generalize (c9 H l (.lst []))=H1 at s1 h1l ⊢
   refine ⟨_,rfl,?_⟩
   refine ⟨_,rfl,(n:Int),rfl,by omega,by omega,I0 (lo:=0) (n:=((n:Nat):Int).toNat) (fun i σ H2=>∃(ds:List Int) (dg:Int) (v4 v5:Option V),σ=[some (.int z),some (.int (n:Int)),some (.ref l),some (.int dg),v4,v5]∧H2 l=some (.lst (ds.map V.int))∧ds.length=i∧(∀x∈ds,0≤x)∧e8 H H2)
     ⟨[],z,none,none,rfl,h1l,rfl,fun x hx=>by simp at hx,s1⟩ ?_ ?_⟩
   · rintro i σ H2 hi ⟨ds,dg,v4,v5,rfl,h2l,lds,pos,s2⟩
     refine ⟨_,rfl,_,rfl,z,_,rfl,by omega,by omega,fun r r0=> ?_⟩
     have cp:cz2 10 18:=⟨by decide,by decide,by decide⟩
     refine ⟨_,rfl,_,_,rfl,rfl,cp,_,_,rfl,rfl,_,rfl,?_⟩
     have fin:∀w:Int,0≤w→∃(ds':List Int) (dg':Int) (v4 v5:Option V),[some (V.int z),some (V.int (n:Int)),some (.ref l),some (V.int (dg/720720)),some (V.int ((0:Int)+(i:Int))),some (V.int w)]=[some (V.int z),some (V.int (n:Int)),some (.ref l),some (V.int dg'),v4,v5]∧(c9 H2 l (.lst (ds.map V.int++[.int w]))) l=some (.lst (ds'.map V.int))∧ds'.length=i+1∧(∀x∈ds',0≤x)∧e8 H (c9 H2 l (.lst (ds.map V.int++[.int w]))):=fun w w0=>by
       refine ⟨ds++[w],dg/720720,_,_,rfl,by rw[c8,do8];rfl,by rw[do6,lds];rfl,fun x hx=> ?_,fun b o hb=>by rw[g8 (g6 hb hl)];exact s2 b o hb⟩
       rcases dp3.mp hx with y|y
       · exact pos x y
       · have:x=w:=by simpa using y
         rw[this];exact w0
     refine W5 (fun _=> ?_) (fun _=> ?_)
     · refine ⟨_,rfl,_,_,rfl,rfl,(by show (0:Int) < 720720;decide),?_⟩
       refine ⟨_,rfl,_,_,rfl,rfl,⟨by decide,by decide⟩,?_⟩
       refine ⟨_,rfl,.inl ⟨rfl,_,g9.of h2l⟩,_,rfl,l,_,_,rfl,rfl,h2l,p9 (by rw[dn8];omega),?_⟩
       exact fin (dg%720720) (du1 _ (by decide))
     · refine ⟨_,rfl,_,_,rfl,rfl,⟨by decide,by decide⟩,?_⟩
       refine ⟨_,rfl,.inl ⟨rfl,_,g9.of h2l⟩,_,rfl,l,_,_,rfl,rfl,h2l,p9 (by rw[dn8];omega),?_⟩
       exact fin r r0
   · rintro σ H2 ⟨ds,dg,v4,v5,rfl,h2l,lds,pos,s2⟩
     refine ⟨_,rfl,_,rfl,_,rfl,rfl,l,_,rfl,g9.of h2l,fun o ho=> ?_⟩
     refine q o _ (s2.free ho) (s2.upd_r (s2.free ho)) ⟨ds.reverse,by rw[c8,List.map_reverse],fun x hx=>pos x (dz2.mp hx),by rw[dy9];omega⟩
def am6:Sp:=fun vs H Q _=>∃(a:Addr),vs=[.ref a]∧y8 H a∧∀(r:Int) (H':Hp),0≤r→y8 H' a→i8 a H H'→Q (.int r) H'
theorem dd2:l8 ["deck"] ["deck"] (i7 ai6):=⟨rfl,rfl,rfl,by decide+kernel,rfl,by decide+kernel,by decide+kernel⟩
theorem cw1 {f:Addr}{fd:FuncData}(F:A2 K "_law_next" "_law_next" ai6 f fd):o8 P w K mg base A0 1 f fd ["deck"] am6:=by
 refine F.ok dd2 (fun vs H Q E h=> ?_) (fun cdv A outer s H vs Q E hr h=> ?_)
 · obtain ⟨a,rfl,_⟩:=h
   rfl
 · obtain ⟨a,rfl,⟨ds,ha,pos,len⟩,q⟩:=h
   have hu:=S8 hr
   refine ⟨_,c7 (x9 (m9 (da9 0 hu) (pv 0) (w4 c6) (o9 _)) (e7 (l6 i6)) p8) (e7 (l6 (dd0 (pv 0)))),?_⟩
   refine ⟨_,rfl,dq3 _,fun e he=> ?_⟩
   have nae:a≠e:=g6 ha he
   have h1a:(c9 H e (.lst [])) a=some (.lst (ds.map V.int)):=by rw[g8 nae];exact ha
   have kb:i8 a H (c9 H e (.lst [])):=fun b o hb _=>by rw[g8 (g6 hb he)];exact hb
   refine ⟨a,e,ds.map V.int,[],_,rfl,rfl,g9.of h1a,g9.of c8,ct1 _ _ _ _,_,rfl,?_⟩
   generalize (c9 H e (.lst []))=H1 at h1a kb ⊢
   cases ds with
   |nil=>exact U4 (q 0 H1 (by decide) ⟨[],h1a,pos,len⟩ kb)
   |cons x xs=>
    refine C8 ?_
    have hl:(x::xs).length - 1 < (x::xs).length:=by simp
    have hg:((x::xs).map V.int)[((x::xs).map V.int).length - 1]? =some (.int (x::xs)[(x::xs).length - 1]):=by
      rw[dn8,do2,dn9 hl];rfl
    refine ⟨_,rfl,.inl ⟨rfl,_,g9.of h1a⟩,a,_,_,rfl,rfl,h1a,hg,?_⟩
    refine q _ _ (pos _ (dr9 hl)) ⟨(x::xs).dropLast,by rw[c8,List.map_dropLast],fun y hy=>pos y ((List.dropLast_sublist _).mem hy),by rw[ef0];omega⟩ fun b o hb hn=>by rw[g8 hn];exact kb b o hb hn
end
end My
namespace My
open PySem L2 Mth
section
variable {P:Program} {w:World} {K:PySem.W.Frag} {mg:Str→Option Value} {base:Heap}
def bb2:Sp:=fun vs H Q _=>∃(g:Addr) (n:Nat),vs=[.ref g,.int (n:Int)]∧y8 H g∧n≤40∧
 ∀(l:Addr) (p:List Int) (H':Hp),H l=none→j8 p→p.length=n→H' l=some (.lst (p.map V.int))→y8 H' g→i8 g H H'→Q (.ref l) H'
theorem P7:l8 ["deck","many","left","order","few","found","at","l","k"] ["deck","many"] (i7 ai7):=⟨rfl,rfl,rfl,by decide+kernel,rfl,by decide+kernel,by decide+kernel⟩
theorem dh9:(["k","deck","left"]:List Str).Nodup:=by decide+kernel
theorem y8.some {H:Hp}{a:Addr}(h:y8 H a):∃o,H a=some o:=let ⟨_,e,_⟩:=h;⟨_,e⟩
theorem y8.same {H H':Hp}{a:Addr}(h:y8 H a)(s:e8 H H'):y8 H' a:=let ⟨ds,e,r⟩:=h;⟨ds,s _ _ e,r⟩
theorem y8.upd {H:Hp}{a b:Addr}{o:HO}(h:y8 H a)(n:a≠b):y8 (L2.c9 H b o) a:=let ⟨ds,e,r⟩:=h;⟨ds,by rw[g8 n];exact e,r⟩
theorem co6 {f:Addr}{fd:FuncData}(F:A2 K "_law_turn" "_law_turn" ai7 f fd)(B:Bl mg)(cN:j7 P w K mg base "_law_next" 1 ["deck"] am6):o8 P w K mg base A0 2 f fd ["deck","many"] bb2:=by
 refine F.ok P7 (fun vs H Q E h=> ?_) (fun cdv A outer s H vs Q E hr h=> ?_)
 · obtain ⟨g,n,rfl,_⟩:=h
   rfl
 · obtain ⟨g,n,rfl,hD,n4,q⟩:=h
   refine ⟨_,c7 (i4 (i:=2) P7.nd rfl (Or.inr rfl) (bz3 rfl B.list B.range (c5 (pv 1) c6)))
     (c7 (bt9 (i:=3) (N:=["k","deck","left"]) (nl:=1) (fr:=[0,2]) P7.nd rfl (Or.inl rfl) rfl .of (K1 (by rfl) B.range (c5 (pv 1) c6)) (fun _ _ _ _ _=>j5 (i:=0) dh9 rfl (Or.inl rfl))
       (fun _ _ _ _ _=>ag6) (fun _ _ _ _ _=>ci3 K (pv 2) (c5 (l7 B6 (h8 cN hr (c5 (pv 1) c6)) (cm0 K B.len (c5 (pv 2) c6))) c6)))
     (c7 (x9 (m9 X7 (l7 B6 (h8 cN hr (c5 (pv 0) c6)) i6) i6 (o9 _)) (e7 (l6 (pv 3))) p8)
     (c7 (i4 (i:=4) P7.nd rfl (Or.inl rfl) (w4 (c5 (l7 G2 i6 (l7 B6 (h8 cN hr (c5 (pv 0) c6)) i6)) (c5 (l7 G2 i6 (l7 B6 (h8 cN hr (c5 (pv 0) c6)) i6)) c6))))
     (c7 (i4 (i:=5) P7.nd rfl (Or.inl rfl) (l7 ce0 (w4 (c5 i6 c6)) (pv 1)))
     (c7 (i4 (i:=6) P7.nd rfl (Or.inl rfl) i6)
     (c7 (ag2 PassesOwn.never (m9 au8 (pv 6) (pv 1) (o9 _))
       (c7 (i4 (i:=7) P7.nd rfl (Or.inl rfl) (az9 rfl B.min (c5 (G3 C0 (pv 4) (l7 B6 (h8 cN hr (c5 (pv 0) c6)) i6) (fun _ _=>rfl)) (c5 (l7 bi6 (pv 1) (pv 6)) c6))))
       (c7 (o6 PassesOwn.never rfl (K1 (by rfl) B.range (c5 (pv 7) c6)) (j5 (i:=8) P7.nd rfl (Or.inl rfl))
         (e7 (au7 (G3 C0 (pv 3) (l7 G2 (pv 6) (l7 B6 (l7 G2 (pv 8) i6) (pv 7))) (fun _ _=>rfl)) (au6 (pv 5) (G3 C0 (pv 3) (l7 G2 (pv 6) (pv 8)) (fun _ _=>rfl)) ag4))))
       (e7 (i4 (i:=6) P7.nd rfl (Or.inl rfl) (l7 G2 (pv 6) (pv 7)))))))
     (e7 (l6 (pv 5))))))))),?_⟩
   refine ⟨_,rfl,_,rfl,fun r hr'=>⟨r,0,(n:Int),rfl,c8,⟨by decide,by decide,by omega,by omega⟩,by omega,fun l hl=> ?_⟩⟩
   have hlr:l≠r:=fun z=>by rw[z,c8] at hl;cases hl
   have hl0:H l=none:=by rw[g8 hlr] at hl;exact hl
   have e0:((n:Int) - 0).toNat=n:=by omega
   rw[e0]
   have s1:e8 H (c9 (c9 H r (.rng 0 (n:Int))) l (.lst ((S9 0 n).map V.int))):=(e8.upd_new hr').upd_r hl0
   have h1l:(c9 (c9 H r (.rng 0 (n:Int))) l (.lst ((S9 0 n).map V.int))) l=some (.lst ((S9 0 n).map V.int)):=c8
   generalize (c9 (c9 H r (.rng 0 (n:Int))) l (.lst ((S9 0 n).map V.int)))=H1 at s1 h1l ⊢
   have ngl:g≠l:=by obtain ⟨o,e⟩:=hD.some;exact g6 e hl0
   refine ⟨_,rfl,(n:Int),rfl,by omega,by omega,ag7 (lo:=0) (n:=((n:Nat):Int).toNat) (fun i ys σ H2=>∃(v:Option V) (ls:List V),σ=[v,some (.ref g),some (.ref l)]∧H2 l=some (.lst ls)∧(ys++ls).Perm ((S9 0 n).map V.int)∧ys.length=i∧y8 H2 g∧i8 g H H2)
     ⟨none,_,rfl,h1l,List.Perm.refl _,rfl,hD.same s1,fun b o hb _=>s1 b o hb⟩ ?_ ?_⟩
   · rintro i ys σ H2 hi ⟨v,ls,rfl,h2l,pm,ly,D2,kb2⟩
     have hlen:ys.length+ls.length=n:=by
       have:=pm.length_eq
       rw[do6,dn8,K3] at this
       exact this
     have hlp:0 < ls.length:=by omega
     refine ⟨_,rfl,.inl ⟨rfl,_,g9.of h2l⟩,_,rfl,g,rfl,D2,fun x H3 x0 D3 kb3=> ?_⟩
     have h3l:=kb3 l _ h2l ngl.symm
     refine ⟨_,rfl,l,_,rfl,.inl (g9.of h3l),_,_,rfl,rfl,(by show (0:Int) < (ls.length:Int);omega),?_⟩
     have hm0:0≤x%(ls.length:Int):=du1 _ (by omega)
     have hm1:x%(ls.length:Int) < (ls.length:Int):=dw7 _ (by omega)
     dsimp only
     generalize x%(ls.length:Int)=jx at hm0 hm1 ⊢
     obtain ⟨jn,rfl⟩:=dw9 hm0
     have hjl:jn < ls.length:=by omega
     refine ⟨l,_,_,jn,ls[jn],rfl,rfl,h3l,by omega,by omega,?_,dn9 hjl,?_,?_⟩
     · have:ixN ls.length (jn:Int)=some jn:=by
         unfold ixN
         rw[if_pos (by omega),if_pos (by omega)]
         simp
       exact (az5 this).1
     · exact p9 (by omega)
     · refine ⟨_,_,rfl,c8,?_,by rw[do6,ly];rfl,D3.upd ngl,fun b o hb hn=>by rw[g8 (g6 hb hl0)];exact kb3 b o (kb2 b o hb hn) hn⟩
       have pe:=aw2 (l:=ls) (k:=jn) (dn9 hjl)
       refine List.Perm.trans ?_ pm
       rw[dq4]
       exact List.Perm.append_left ys pe
   · rintro ys σ H2 ⟨v,ls,rfl,h2l,pm,ly,D2,kb2⟩ m hm
     have hlen:ys.length+ls.length=n:=by
       have:=pm.length_eq
       rw[do6,dn8,K3] at this
       exact this
     have:ls=[]:=dx2.mp (by omega)
     subst this
     rw[dq6] at pm
     obtain ⟨ts,rfl,hts⟩:=cf6 pm
     obtain ⟨hT,hTl⟩:=ac3 hts
     have ngm:g≠m:=by obtain ⟨o,e⟩:=D2.some;exact g6 e hm
     have hm0:H m=none:=kb2.free hm ngm.symm
     have D3:y8 (c9 H2 m (.lst (ts.map V.int))) g:=D2.upd ngm
     have kb3:i8 g H (c9 H2 m (.lst (ts.map V.int))):=kb2.upd_r hm0
     have h3m:(c9 H2 m (.lst (ts.map V.int))) m=some (.lst (ts.map V.int)):=c8
     generalize (c9 H2 m (.lst (ts.map V.int)))=H3 at D3 kb3 h3m ⊢
     refine ⟨_,rfl,g,rfl,D3,fun x1 H4 x10 D4 kb34=> ?_⟩
     have h4m:=kb34 m _ h3m ngm.symm
     have kb4:=kb3.trans kb34
     refine ⟨_,_,rfl,rfl,(by show (0:Int) < 4;decide),rfl,_,rfl,?_⟩
     refine W5 (fun _=>⟨_,rfl,q m ts H4 hm0 hT hTl h4m D4 kb4⟩) (fun _=> ?_)
     refine ⟨_,rfl,g,rfl,D4,fun x2 H5 x20 D5 kb45=>⟨_,_,rfl,rfl,(by show (0:Int) < 4;decide),_,_,rfl,rfl,?_⟩⟩
     refine ⟨_,rfl,g,rfl,D5,fun x3 H6 x30 D6 kb56=>⟨_,_,rfl,rfl,(by show (0:Int) < 6;decide),_,_,rfl,rfl,(by show 2≤sizeLine;decide),fun fw hfw=> ?_⟩⟩
     have ngf:g≠fw:=by obtain ⟨o,e⟩:=D6.some;exact g6 e hfw
     have f1:1≤1+x2%4∧1+x2%4≤4:=by omega
     have f2:1≤1+x3%6∧1+x3%6≤6:=by omega
     have kb6:=(kb4.trans kb45).trans kb56
     have hfw0:H fw=none:=kb6.free hfw ngf.symm
     have h6m:=kb56 m _ (kb45 m _ h4m ngm.symm) ngm.symm
     have nmf:m≠fw:=g6 h6m hfw
     dsimp only
     generalize 1+x2%4=a1 at f1 ⊢
     generalize 1+x3%6=a2 at f2 ⊢
     have h7f:(c9 H6 fw (.lst [.int a1,.int a2])) fw=some (.lst [.int a1,.int a2]):=c8
     have h7m:(c9 H6 fw (.lst [.int a1,.int a2])) m=some (.lst (ts.map V.int)):=by rw[g8 nmf];exact h6m
     have D7:y8 (c9 H6 fw (.lst [.int a1,.int a2])) g:=D6.upd ngf
     have kb7:i8 g H (c9 H6 fw (.lst [.int a1,.int a2])):=kb6.upd_r hfw0
     generalize (c9 H6 fw (.lst [.int a1,.int a2]))=H7 at h7f h7m D7 kb7 ⊢
     refine ⟨(by show 1≤sizeLine;decide),fun e he=> ?_⟩
     have nge:g≠e:=by obtain ⟨o,e'⟩:=D7.some;exact g6 e' he
     have he0:H e=none:=kb7.free he nge.symm
     refine ⟨_,rfl,e,_,_,rfl,rfl,c8,by omega,by omega,by show 1*_≤sizeLine;rw[sizeLine_eq];omega,fun fo hfo=> ?_⟩
     rw[show ((n:Nat):Int).toNat=n by omega,bk0]
     have hfe:fo≠e:=fun z=>by rw[z,c8] at hfo;cases hfo
     have hfo7:H7 fo=none:=by rw[g8 hfe] at hfo;exact hfo
     have ngo:g≠fo:=by obtain ⟨o,e'⟩:=D7.some;exact g6 e' hfo7
     have hfo0:H fo=none:=kb7.free hfo7 ngo.symm
     have nmo:m≠fo:=g6 h7m hfo7
     have nfo:fw≠fo:=g6 h7f hfo7
     have s78:e8 H7 (c9 (c9 H7 e (.lst [.int 0])) fo (.lst ((ds3 n (0:Int)).map V.int))):=(e8.upd_new he).upd_r hfo7
     have h8o:(c9 (c9 H7 e (.lst [.int 0])) fo (.lst ((ds3 n (0:Int)).map V.int))) fo=some (.lst ((ds3 n (0:Int)).map V.int)):=c8
     generalize (c9 (c9 H7 e (.lst [.int 0])) fo (.lst ((ds3 n (0:Int)).map V.int)))=H8 at s78 h8o ⊢
     refine ⟨fun mm σ H9=>∃(fs qs:List Int) (k:Nat) (v7 v8:Option V),σ=[some (.ref g),some (.int (n:Int)),some (.ref l),some (.ref m),some (.ref fw),some (.ref fo),some (.int (k:Int)),v7,v8]∧k≤n∧H9 fo=some (.lst (fs.map V.int))∧H9 m=some (.lst (ts.map V.int))∧H9 fw=some (.lst [.int a1,.int a2])∧fs.length=ts.length∧qs.Perm (ts.take k)∧(ts.take k).map (x6 fs)=qs.map some∧y8 H9 g∧i8 g H H9∧mm=n - k,
       ⟨n,_,[],0,none,none,rfl,dq3 _,h8o,s78 m _ h7m,s78 fw _ h7f,by rw[dz5,hTl],List.Perm.refl _,rfl,D7.same s78,fun b o hb hn=>s78 b o (kb7 b o hb hn),by omega⟩,?_⟩
     rintro mm σ H9 ⟨fs,qs,k,v7,v8,rfl,hk,h9o,h9m,h9f,hfl,hq,hmap,D9,kb9,rfl⟩
     refine ⟨_,rfl,_,rfl,_,_,rfl,rfl,_,rfl,?_⟩
     refine W5 (fun hlt=> ?_) (fun hge=> ?_)
     · have hlt:(k:Int) < (n:Int):=of_decide_eq_true hlt
       refine ⟨fun σ' H'=>∃m',m' < n - k∧_,fun _ _ h=>h,?_⟩
       refine ⟨_,rfl,_,rfl,g,rfl,D9,fun x4 H10 x40 D10 kb910=>⟨_,_,rfl,rfl,(by show (0:Int) < 2;decide),?_⟩⟩
       have h10f:=kb910 fw _ h9f ngf.symm
       have key:∃av,atI [V.int a1,V.int a2] (x4%2)=some (.int av)∧1≤av:=by
         have:x4%2=0∨x4%2=1:=by omega
         rcases this with e|e
         · rw[e];exact ⟨a1,J2 (j:=0) rfl,f1.1⟩
         · rw[e];exact ⟨a2,J2 (j:=1) rfl,f2.1⟩
       obtain ⟨av,hat,av1⟩:=key
       refine ⟨fw,_,_,_,rfl,rfl,g9.of h10f,hat,?_⟩
       refine ⟨_,rfl,_,rfl,_,_,rfl,rfl,av,_,rfl,?_⟩
       have hL:∃L:Nat,(if ((n:Int) - (k:Int)) < av then ((n:Int) - (k:Int)) else av)=(L:Int)∧1≤L∧k+L≤n:=by
         split
         · exact ⟨n - k,by omega,by omega,by omega⟩
         · exact ⟨av.toNat,by omega,by omega,by omega⟩
       obtain ⟨L,eL,L1,kL⟩:=hL
       dsimp only
       rw[eL]
       have h10m:=kb910 m _ h9m ngm.symm
       have h10o:=kb910 fo _ h9o ngo.symm
       have kb10:=kb9.trans kb910
       have hLn:((L:Nat):Int).toNat=L:=by omega
       refine ⟨_,rfl,(L:Int),rfl,by omega,by omega,I0 (lo:=0) (n:=((L:Nat):Int).toNat) (fun j σ H11=>∃(fs':List Int) (v8':Option V),σ=[some (.ref g),some (.int (n:Int)),some (.ref l),some (.ref m),some (.ref fw),some (.ref fo),some (.int (k:Int)),some (.int (L:Int)),v8']∧H11 fo=some (.lst (fs'.map V.int))∧H11 m=some (.lst (ts.map V.int))∧H11 fw=some (.lst [.int a1,.int a2])∧fs'.length=ts.length∧(ts.take k).map (x6 fs')=qs.map some∧(∀u,u < j→x6 fs' (ts.getD (k+u) 0)=some (ts.getD (k+(u+1)%L) 0))∧y8 H11 g∧i8 g H H11)
         ⟨fs,v8,rfl,h10o,h10m,h10f,hfl,hmap,fun u hu=>by omega,D10,kb10⟩ ?_ ?_⟩
       · rintro j σ H11 hj ⟨fs',v8',rfl,h11o,h11m,h11f,hfl',hmap',hu',D11,kb11⟩
         have hjL:j < L:=by omega
         have hjm:(j+1)%L < L:=dv6 _ (by omega)
         have hi1:k+j < ts.length:=by omega
         have hi2:k+(j+1)%L < ts.length:=by omega
         have ej:(k:Int)+((0:Int)+(j:Int)+1)%(L:Int)=((k+(j+1)%L:Nat):Int):=by
           have e1:(0:Int)+(j:Int)+1=((j+1:Nat):Int):=by omega
           rw[e1,←dv0]
           omega
         have hat1:atI (ts.map V.int) ((k:Int)+((0:Int)+(j:Int)+1)%(L:Int))=some (.int (ts.getD (k+(j+1)%L) 0)):=by
           rw[ej]
           have:=U8 (p:=ts) (i:=((k+(j+1)%L:Nat):Int)) (by omega) (by omega)
           rw[dr1] at this
           exact this
         have hat2:atI (ts.map V.int) ((k:Int)+((0:Int)+(j:Int)))=some (.int (ts.getD (k+j) 0)):=by
           have e:(k:Int)+((0:Int)+(j:Int))=((k+j:Nat):Int):=by omega
           rw[e]
           have:=U8 (p:=ts) (i:=((k+j:Nat):Int)) (by omega) (by omega)
           rw[dr1] at this
           exact this
         refine ⟨_,rfl,_,rfl,_,rfl,_,_,rfl,rfl,_,rfl,_,_,rfl,rfl,(by show (0:Int) < (L:Int);omega),_,_,rfl,rfl,m,_,_,_,rfl,rfl,g9.of h11m,hat1,?_⟩
         refine ⟨_,rfl,_,rfl,_,rfl,_,rfl,_,_,rfl,rfl,m,_,_,_,rfl,rfl,g9.of h11m,hat2,?_⟩
         have htv:ts.getD (k+j) 0∈ts:=by rw[E3 hi1];exact dr9 hi1
         have t0:=hT.lo _ htv
         have t1:=hT.hi _ htv
         refine ⟨fo,_,_,(ts.getD (k+j) 0).toNat,rfl,rfl,h11o,?_,?_⟩
         · unfold ixN
           rw[dn8,if_pos t0,if_pos (by omega)]
         have es:(fs'.map V.int).set (ts.getD (k+j) 0).toNat (.int (ts.getD (k+(j+1)%L) 0))=(fs'.set (ts.getD (k+j) 0).toNat (ts.getD (k+(j+1)%L) 0)).map V.int:=by rw[ei1]
         rw[es]
         refine ⟨_,_,rfl,c8,by rw[g8 nmo];exact h11m,by rw[g8 nfo];exact h11f,by rw[ea9];exact hfl',?_,?_,D11.upd ngo,fun b o hb hnn=>by rw[g8 (g6 hb hfo0)];exact kb11 b o hb hnn⟩
         · rw[←hmap']
           refine dt3 fun u hu=> ?_
           have hut:=du6 hu
           refine ae4 (hT.lo u hut) t0 fun z=> ?_
           obtain ⟨jj,hjj⟩:=dq9.mp hu
           have hjk:jj < k:=by
             have:=(do0.mp hjj).1
             rw[dp5] at this
             omega
           rw[dt2 hjk] at hjj
           have:=(do0.mp hjj).2
           exact P1 hT.nd (i:=jj) (j:=k+j) (by omega) hi1 (by omega) (by rw[E3 (show jj < ts.length by omega),this];exact z)
         · intro u hu
           by_cases huj:u=j
           · subst huj
             exact ag9 (by omega)
           · have huj':u < j:=by omega
             rw[ae4 (hT.lo _ (by rw[E3 (show k+u < ts.length by omega)];exact dr9 _)) t0 (P1 hT.nd (by omega) hi1 (by omega))]
             exact hu' u huj'
       · rintro σ H11 ⟨fs',v8',rfl,h11o,h11m,h11f,hfl',hmap',hu',D11,kb11⟩
         rw[hLn] at hu'
         obtain ⟨qs',hq',hmap''⟩:=cm1 L1 (by omega) hmap' hq hu'
         refine ⟨_,rfl,_,rfl,_,_,rfl,rfl,n - (k+L),by omega,fs',qs',k+L,some (.int (L:Int)),v8',?_,kL,h11o,h11m,h11f,hfl',hq',hmap'',D11,kb11,rfl⟩
         rw[show ((k+L:Nat):Int)=(k:Int)+(L:Int) by omega];rfl
     · have hge:¬(k:Int) < (n:Int):=fun z=>hge (decide_eq_true z)
       have hkl:k=ts.length:=by omega
       rw[hkl,dq8] at hq hmap
       have pf:=(aw1 hT hfl hmap).trans (hq.trans hts)
       obtain ⟨hF,hFl⟩:=ac3 pf
       exact ⟨_,rfl,q fo fs H9 hfo0 hF hFl h9o D9 kb9⟩
end
end My
namespace My
open PySem L2 Mth
section
variable {P:Program} {w:World} {K:PySem.W.Frag} {mg:Str→Option Value} {base:Heap}
theorem B8.keep {H H':Hp}{a:Addr}{p:List Int}(h:B8 H a p)(s:e8 H H'):B8 H' a p:=⟨s _ _ h.1,h.2⟩
noncomputable def ca9 (p:List Int)(l:Nat):Nat:=n5 (j6 p p.length) l
def dd3 (H:Hp)(t:Addr)(p:List Int)(m:Nat):Prop:=
 (∃(o:Addr) (r:List Int),H t=some (.tup [.str "root",.ref o])∧H o=some (.lst (r.map V.int))∧j8 r∧r.length=p.length∧o3 r (m:Int) p∧bl5 p m r)∨
 (∃l d:Nat,H t=some (.tup [.str "bars",.int (l:Int),.int ((ca9 p l:Nat):Int),.int (d:Int)])∧cg9 (ca9 p) m l d)
theorem cw2 {r p:List Int}{m l d:Nat}(tr:j8 r)(h:o3 r (m:Int) p)(b:cg9 (ca9 p) m l d):False:=b.bad (ca0 tr h b.right)
def bw2:Sp:=fun vs H Q _=>∃(a:Addr) (p:List Int) (m:Nat),vs=[.ref a,.int (m:Int)]∧B8 H a p∧1≤m∧m≤1000000000000000000000000000000∧∀(t:Addr) (H':Hp),e8 H H'→dd3 H' t p m→(∀x o,H' t=some (.tup [x,.ref o])→H o=none)→Q (.ref t) H'
theorem co7 {k:Nat}(c:j7 P w K mg base "root_told" k ["p","m"] bn8):j7 P w K mg base "root_told" k ["p","m"] bw2:=by
 refine c.imp (fun vs H Q E h=> ?_) (fun vs H Q E h=> ?_)
 · obtain ⟨a,p,m,rfl,ta,m1,m2,q⟩:=h
   refine ⟨a,p,m,rfl,ta,m1,m2,fun t o r H' s ht ho0 ho tr lr pw ro=>q t H' s (.inl ⟨o,r,ht,ho,tr,lr,pw,ro⟩) (fun x o' h'=> ?_),fun t l c d H' s ht hc c1 lr nd less=>q t H' s (.inr ⟨l,d,by rw[ht,hc];rfl,⟨by rw[hc] at c1;exact c1,lr,by rw[hc] at nd;exact nd,fun k k1 kl e he=> ?_⟩⟩) (fun x o' h'=> ?_)⟩
   · rw[ht] at h'
     injection h' with h'
     injection h' with h'
     injection h' with _ h'
     injection h' with h' _
     injection h' with h'
     rw[←h'];exact ho0
   · obtain ⟨r0,hr0,e0⟩:=ba0 (rs:=j6 p p.length) (l:=k) (by unfold ca9 at k1;omega)
     have:=less r0 hr0 (by omega) e (by rw[e0];exact he)
     rw[e0] at this
     exact this
   · rw[ht] at h'
     injection h' with h'
     injection h' with h'
     have:=congrArg ei6 h'
     simp at this
 · obtain ⟨a,p,m,rfl,_⟩:=h
   rfl
end
end My
namespace My
open PySem L2 Mth
section
variable {P:Program} {w:World} {K:PySem.W.Frag} {mg:Str→Option Value} {base:Heap}
def C6 (xs:List Nat):List Int:=xs.map fun (d:Nat)=>(d:Int)
def p5 (l m j:Nat):List Nat:=((ds0 j).map (· +1)).filter fun d=>decide (dp8 (d*l) m=d)
theorem bo3 (l m j:Nat):p5 l m (j+1)=if dp8 ((j+1)*l) m=j+1 then p5 l m j++[j+1] else p5 l m j:=by
 unfold p5
 rw[ea0,do8,dz3]
 show _++List.filter _ [j+1]=_
 split
 · rename_i h
   rw[dx0 (p:=fun d=>decide (dp8 (d*l) m=d)) (decide_eq_true h)];rfl
 · rename_i h
   rw[dx1 (p:=fun d=>decide (dp8 (d*l) m=d)) (by simpa using h),ec9,dq6]
theorem ad4 (l m j:Nat):(p5 l m j).length≤j:=by
 unfold p5
 refine dp4 (dz6 _ _) ?_
 rw[dn8,dr0];exact do1 _
theorem G0 {l m j d:Nat}(h:d∈p5 l m j):1≤d∧d≤j:=by
 unfold p5 at h
 obtain ⟨i,hi,e⟩:=do9.mp (dt8.mp h).1
 have:=dr4.mp hi
 omega
def aj0:Sp:=fun vs H Q _=>∃(l m j:Nat),vs=[.int (l:Int),.int (m:Int),.int (j:Int)]∧l≤1000∧j≤1000∧∀(a:Addr) (H':Hp),H a=none→e8 H H'→H' a=some (.lst ((C6 (p5 l m j)).map V.int))→Q (.ref a) H'
theorem as7:l8 ["length","m","most"] ["length","m","most"] (i7 T6):=⟨rfl,rfl,rfl,by decide+kernel,rfl,by decide+kernel,by decide+kernel⟩
theorem V9:(["d","m","length"]:List Str).Nodup:=by decide+kernel
theorem as8 {f:Addr}{fd:FuncData}(F:A2 K "right_numbers" "right_numbers" T6 f fd)(B:Bl mg)(c_greatest_part:j7 P w K mg base "greatest_part" 1 ["a","b"] bh5):o8 P w K mg base A0 2 f fd ["length","m","most"] aj0:=by
 refine F.ok as7 (fun vs H Q E h=> ?_) (fun cdv A outer s H vs Q E hr h=> ?_)
 · obtain ⟨l,m,j,rfl,hl,hj,q⟩:=h
   rfl
 · obtain ⟨l,m,j,rfl,hl,hj,q⟩:=h
   have hr_greatest_part:m7 1 _:=hr.mono (by decide)
   refine ⟨_,@e7 _ _ _ (@l6 _ _ _ _ (@ae3 _ _ _ _ _ _ _ _ _ _ _ (["d","m","length"]) (1) ([1,0]) rfl .of (@ab4 _ _ _ _ _ _ _ (by rfl) B.range (@c5 _ _ _ _ _ (@i6 _ _ _ _) (@c5 _ _ _ _ _ (@l7 _ _ _ _ _ _ _ _ G2 (pv 2) (@i6 _ _ _ _)) (@c6 _) (by rfl)) (by rfl)) (by rfl) (by rfl)) (fun _ _ _ _ _=>@j5 _ _ (0) _ V9 rfl (Or.inl rfl) (by first|exact .inl rfl|exact .inr rfl|assumption)) (fun _ _ _ _ _=>@ar5 _ _ _ (@m9 _ _ _ _ _ _ _ _ X7 (@h8 _ _ _ _ _ _ _ _ _ _ c_greatest_part hr_greatest_part (@c5 _ _ _ _ _ (@l7 _ _ _ _ _ _ _ _ N6 (pv 0) (pv 2)) (@c5 _ _ _ _ _ (pv 1) (@c6 _) (by rfl)) (by rfl)) (by rfl) (by decide) (by rfl) (by rfl)) (pv 0) (o9 _))) (fun _ _ _ _ _=>(pv 0)) (by intro _;rfl))),?_⟩
   refine ⟨_,rfl,_,_,rfl,rfl,1,(j:Int)+1,rfl,⟨by decide,by decide,by omega,by omega⟩,?_⟩
   have en:((j:Int)+1 - 1).toNat=j:=by omega
   rw[en]
   refine ag7 (lo:=1) (n:=j) (fun i ys σ H2=>∃v:Option V,σ=[v,some (.int (m:Int)),some (.int (l:Int))]∧H2=H∧ys=(C6 (p5 l m i)).map V.int) ⟨none,rfl,rfl,by simp [p5,C6]⟩ ?_ ?_
   · rintro i ys σ H2 hi ⟨v,rfl,rfl,rfl⟩
     have li:=ad4 l m i
     have es:=bo3 l m i
     have e1:(1:Int)+(i:Int)=((i+1:Nat):Int):=by omega
     refine ⟨_,rfl,_,rfl,_,_,rfl,rfl,.inr ⟨by omega,by omega⟩,_,rfl,(i+1)*l,m,?_,?_⟩
     · show [V.int ((1+(i:Int))*(l:Int)),V.int (m:Int)]++[]=_
       rw[e1,←dx5]
       rfl
     refine ⟨_,rfl,rfl,_,rfl,W5 (fun h1=> ?_) (fun h1=> ?_)⟩
     · have d1:dp8 ((i+1)*l) m=i+1:=by
         have:=V.int.inj (of_decide_eq_true h1)
         omega
       refine ⟨_,rfl,p9 (by unfold C6;rw[dn8,dn8];omega),_,rfl,rfl,?_⟩
       rw[es,if_pos d1]
       unfold C6
       rw[do8,do8,e1]
       rfl
     · have d1:¬dp8 ((i+1)*l) m=i+1:=fun e=>h1 (decide_eq_true (congrArg V.int (by rw[e];omega)))
       refine ⟨_,rfl,rfl,?_⟩
       rw[es,if_neg d1]
   · rintro ys σ H2 ⟨v,rfl,rfl,rfl⟩ D hD
     exact q D _ hD (e8.upd_new hD) c8
def t9 (n l:Nat):Nat→Nat
 |0=>1
 |k+1=>t9 n l k*(n - (k+1))*l
def as9:Sp:=fun vs H Q _=>∃(n d l:Nat),vs=[.int (n:Int),.int (d:Int),.int (l:Int)]∧1≤d∧d≤n∧n≤1000∧l≤1000∧Q (.int ((t9 n l (d - 1):Nat):Int)) H
theorem K6:l8 ["left","part","length","ways","taken"] ["left","part","length"] (i7 R8):=⟨rfl,rfl,rfl,by decide+kernel,rfl,by decide+kernel,by decide+kernel⟩
theorem ap8 {f:Addr}{fd:FuncData}(F:A2 K "ways_to_follow" "ways_to_follow" R8 f fd)(B:Bl mg):o8 P w K mg base A0 1 f fd ["left","part","length"] as9:=by
 refine F.ok K6 (fun vs H Q E h=> ?_) (fun cdv A outer s H vs Q E hr h=> ?_)
 · obtain ⟨n,d,l,rfl,d1,dn,hn,hl,q⟩:=h
   rfl
 · obtain ⟨n,d,l,rfl,d1,dn,hn,hl,q⟩:=h
   refine ⟨_,@c7 _ _ _ _ _ (@i4 _ _ (3) _ _ _ _ K6.nd rfl (Or.inl rfl) (@i6 _ _ _ _) (by rfl) (by first|exact .inl rfl|exact .inr rfl|assumption)) (@c7 _ _ _ _ _ (@o6 _ _ _ _ _ _ _ _ PassesOwn.never rfl (@ab4 _ _ _ _ _ _ _ (by rfl) B.range (@c5 _ _ _ _ _ (@i6 _ _ _ _) (@c5 _ _ _ _ _ (pv 1) (@c6 _) (by rfl)) (by rfl)) (by rfl) (by rfl)) (@j5 _ _ (4) _ K6.nd rfl (Or.inl rfl) (by first|exact .inl rfl|exact .inr rfl|assumption)) (@e7 _ _ _ (@i4 _ _ (3) _ _ _ _ K6.nd rfl (Or.inl rfl) (@l7 _ _ _ _ _ _ _ _ N6 (@l7 _ _ _ _ _ _ _ _ N6 (pv 3) (@l7 _ _ _ _ _ _ _ _ bi6 (pv 0) (pv 4))) (pv 2)) (by rfl) (by first|exact .inl rfl|exact .inr rfl|assumption))) (by intro _;rfl)) (@e7 _ _ _ (@l6 _ _ _ _ (pv 3)))),?_⟩
   refine ⟨_,rfl,1,(d:Int),rfl,⟨by decide,by decide,by omega,by omega⟩,?_⟩
   have en:((d:Int) - 1).toNat=d - 1:=by omega
   rw[en]
   refine I0 (lo:=1) (n:=d - 1) (fun i σ H2=>∃v:Option V,σ=[some (.int (n:Int)),some (.int (d:Int)),some (.int (l:Int)),some (.int ((t9 n l i:Nat):Int)),v]∧H2=H) ⟨none,rfl,rfl⟩ ?_ ?_
   · rintro i σ H2 hi ⟨v,rfl,rfl⟩
     have e64:(2:Int)^64=18446744073709551616:=by decide
     refine ⟨_,rfl,_,rfl,_,rfl,_,_,rfl,rfl,_,_,rfl,rfl,.inr ⟨by rw[e64];omega,by rw[e64];omega⟩,_,rfl,_,_,rfl,rfl,.inr ⟨by rw[e64];omega,by rw[e64];omega⟩,some (.int (1+(i:Int))),?_,rfl⟩
     have e:((t9 n l i:Nat):Int)*((n:Int) - (1+(i:Int)))*(l:Int)=((t9 n l (i+1):Nat):Int):=by
       show _=((t9 n l i*(n - (i+1))*l:Nat):Int)
       rw[dx5,dx5]
       congr 2
       omega
     rw[←e];rfl
   · rintro σ H2 ⟨v,rfl,rfl⟩
     exact ⟨_,rfl,q⟩
def aj1 (l:Nat)(rs cs:List Nat)(n:Nat):Nat:=((rs.filter fun d=>decide (d≤n)).map fun d=>t9 n l (d - 1)*cs.getD (n - d) 0).sum
def A3 (l:Nat)(rs:List Nat):Nat→List Nat
 |0=>[1]
 |k+1=>A3 l rs k++[aj1 l rs (A3 l rs k) (k+1)]
def w5 (l m n:Nat):Nat:=(A3 l (p5 l m n) n).getD n 0
theorem K2 (l:Nat)(rs:List Nat):∀k,(A3 l rs k).length=k+1
 |0=>rfl
 |k+1=>by
  show (A3 l rs k++[_]).length=_
  rw[do6,K2 l rs k];rfl
theorem am7 {n l:Nat}(h:n*l≤1600):∀k,t9 n l k≤1600^k
 |0=>do1 _
 |k+1=>by
  show t9 n l k*(n - (k+1))*l≤_
  rw[dw3,ef8]
  refine ea4 (am7 h k) (dp4 (du5 _ (Nat.sub_le _ _)) h)
theorem ay1 {c:Nat}:∀{xs:List Nat},(∀x∈xs,x≤c)→xs.sum≤xs.length*c
 |[],_=>dq3 _
 |x::xs,h=>by
  have:=ay1 fun y hy=>h y (do4 _ hy)
  have:=h x do3
  rw[eb4,dr8,dz7,ei7]
  omega
theorem at1 {l:Nat}{rs:List Nat}(hl:l≤40)(hr:rs.length≤40)(h1:∀d∈rs,1≤d):∀k,k≤40→∀i,(A3 l rs k).getD i 0≤1600^i
 |0,_,0=>do1 _
 |0,_,i+1=>dq3 _
 |k+1,hk,i=>by
  have ih:=at1 hl hr h1 k (by omega)
  show (A3 l rs k++[_]).getD i 0≤_
  have ln:=K2 l rs k
  rw[do5]
  by_cases z:i < k+1
  · rw[dr6 (by omega),←do5]
    exact ih i
  · rw[ds5 (by omega),ln]
    by_cases y:i=k+1
    · subst y
      rw[ef7]
      show aj1 l rs (A3 l rs k) (k+1)≤_
      unfold aj1
      refine dp4 (ay1 (c:=1600^k) fun x hx=> ?_) ?_
      · obtain ⟨d,hd,rfl⟩:=do9.mp hx
        obtain ⟨hd1,hd2⟩:=dt8.mp hd
        have d1:=h1 d hd1
        have d2:d≤k+1:=of_decide_eq_true hd2
        have a:=am7 (n:=k+1) (l:=l) (dp4 (ea4 hk hl) (by decide)) (d - 1)
        have b:=ih (k+1 - d)
        refine dp4 (ea4 a b) ?_
        rw[←Nat.pow_add,show d - 1+(k+1 - d)=k by omega]
        exact do1 _
      · rw[dn8,ef8,du0 (1600^k)]
        refine du5 _ ?_
        have:=dz6 (fun d=>decide (d≤k+1)) rs
        omega
    · rw[do7 (by show 1≤i - (k+1);omega)]
      exact dq3 _
theorem bw3 {xs:List Nat}{i:Int}(h0:0≤i)(h1:i < xs.length):atI ((C6 xs).map V.int) i=some (.int ((xs.getD i.toNat 0:Nat):Int)):=by
 have l:(C6 xs).length=xs.length:=dn8 ..
 rw[Mth.U8 h0 (by rw[l];exact h1)]
 congr 2
 unfold C6
 rw[do5,do5,do2]
 cases xs[i.toNat]? <;>rfl
theorem dd4 {xs:List Nat}{j:Nat}{x:V}(h:((C6 xs).map V.int)[j]? =some x):∃d:Nat,xs[j]? =some d∧x= .int (d:Int):=by
 unfold C6 at h
 rw[do2,do2] at h
 cases e:xs[j]? with
 |none=>rw[e] at h;cases h
 |some d=>rw[e] at h;exact ⟨d,rfl,(Option.some.inj h).symm⟩
theorem bb3:∀xs:List Nat,(C6 xs).sum=((xs.sum:Nat):Int)
 |[]=>rfl
 |x::xs=>by
  show (x:Int)+(C6 xs).sum=_
  rw[bb3 xs,eb4,ei3]
theorem bo4 (i:Nat)(h:i≤40){n:Nat}(hn:440 < n):1600^i < 2^n:=by
 have a:1600^i≤(2^11)^i:=Nat.pow_le_pow_left (by decide) i
 rw[←Nat.pow_mul] at a
 exact ds2 a (Nat.pow_lt_pow_right (by decide) (by omega))
def bb4:Sp:=fun vs H Q _=>∃(l n m:Nat),vs=[.int (l:Int),.int (n:Int),.int (m:Int)]∧l≤40∧n≤40∧∀H':Hp,e8 H H'→Q (.int ((w5 l m n:Nat):Int)) H'
theorem K9:l8 ["length","many","m","right","counts","left","ways"] ["length","many","m"] (i7 X1):=⟨rfl,rfl,rfl,by decide+kernel,rfl,by decide+kernel,by decide+kernel⟩
theorem M9:(["part","left","length","counts"]:List Str).Nodup:=by decide+kernel
theorem bb5 {f:Addr}{fd:FuncData}(F:A2 K "count_joins" "count_joins" X1 f fd)(B:Bl mg)(c_right_numbers:j7 P w K mg base "right_numbers" 2 ["length","m","most"] aj0)(c_ways_to_follow:j7 P w K mg base "ways_to_follow" 1 ["left","part","length"] as9):o8 P w K mg base A0 3 f fd ["length","many","m"] bb4:=by
 refine F.ok K9 (fun vs H Q E h=> ?_) (fun cdv A outer s H vs Q E hr h=> ?_)
 · obtain ⟨l,n,m,rfl,hl,hn,q⟩:=h
   rfl
 · obtain ⟨l,n,m,rfl,hl,hn,q⟩:=h
   have hr_right_numbers:m7 2 _:=hr.mono (by decide)
   have hr_ways_to_follow:m7 1 _:=hr.mono (by decide)
   refine ⟨_,@c7 _ _ _ _ _ (@i4 _ _ (3) _ _ _ _ K9.nd rfl (Or.inl rfl) (@h8 _ _ _ _ _ _ _ _ _ _ c_right_numbers hr_right_numbers (@c5 _ _ _ _ _ (pv 0) (@c5 _ _ _ _ _ (pv 2) (@c5 _ _ _ _ _ (pv 1) (@c6 _) (by rfl)) (by rfl)) (by rfl)) (by rfl) (by decide) (by rfl) (by rfl)) (by rfl) (by first|exact .inl rfl|exact .inr rfl|assumption)) (@c7 _ _ _ _ _ (@i4 _ _ (4) _ _ _ _ K9.nd rfl (Or.inr rfl) (@w4 _ _ _ _ (@c5 _ _ _ _ _ (@i6 _ _ _ _) (@c6 _) (by rfl))) (by rfl) (by first|exact .inl rfl|exact .inr rfl|assumption)) (@c7 _ _ _ _ _ (@o6 _ _ _ _ _ _ _ _ PassesOwn.never rfl (@ab4 _ _ _ _ _ _ _ (by rfl) B.range (@c5 _ _ _ _ _ (@i6 _ _ _ _) (@c5 _ _ _ _ _ (@l7 _ _ _ _ _ _ _ _ G2 (pv 1) (@i6 _ _ _ _)) (@c6 _) (by rfl)) (by rfl)) (by rfl) (by rfl)) (@j5 _ _ (5) _ K9.nd rfl (Or.inr rfl) (by first|exact .inl rfl|exact .inr rfl|assumption)) (@c7 _ _ _ _ _ (@bt9 _ (6) _ _ _ _ _ _ _ _ _ _ _ _ _ (["part","left","length","counts"]) (1) ([5,0,4]) K9.nd rfl (Or.inl rfl) rfl .of (@w9 _ _ _ _ (pv 3)) (fun _ _ _ _ _=>@j5 _ _ (0) _ M9 rfl (Or.inl rfl) (by first|exact .inl rfl|exact .inr rfl|assumption)) (fun _ _ _ _ _=>@ar5 _ _ _ (@m9 _ _ _ _ _ _ _ _ by3 (pv 0) (pv 1) (o9 _))) (fun _ _ _ _ _=>(@l7 _ _ _ _ _ _ _ _ bv6 (@h8 _ _ _ _ _ _ _ _ _ _ c_ways_to_follow hr_ways_to_follow (@c5 _ _ _ _ _ (pv 1) (@c5 _ _ _ _ _ (pv 0) (@c5 _ _ _ _ _ (pv 2) (@c6 _) (by rfl)) (by rfl)) (by rfl)) (by rfl) (by decide) (by rfl) (by rfl)) (@G3 _ _ _ _ _ _ (cl0 K) C0 (pv 3) (@l7 _ _ _ _ _ _ _ _ bi6 (pv 1) (pv 0)) (fun _ _=>rfl)))) (by rfl) (by intro _;rfl) (by first|exact .inl rfl|exact .inr rfl|assumption)) (@e7 _ _ _ (@o7 _ _ _ _ (@E4 _ _ _ _ _ _ _ (pv 4) (@c5 _ _ _ _ _ (@cf5 _ _ _ _ _ rfl B.sum (@c5 _ _ _ _ _ (pv 6) (@c6 _) (by rfl)) (by rfl) (by rfl)) (@c6 _) (by rfl)) (by rfl) (by rfl) (by rfl) (by rfl) (by rfl)) (by rfl)))) (by intro _;rfl)) (@e7 _ _ _ (@l6 _ _ _ _ (@G3 _ _ _ _ _ _ _ C0 (pv 4) (pv 1) (fun _ _=>rfl)))))),?_⟩
   refine ⟨_,rfl,_,rfl,_,rfl,l,m,n,rfl,by omega,by omega,fun ra H1 hra s1 h1=> ?_⟩
   obtain ⟨rs,ers⟩:∃rs,rs=p5 l m n:=⟨_,rfl⟩
   rw[←ers] at h1
   refine ⟨(show 1≤sizeLine by decide),fun cs hcs=> ?_⟩
   have s2:e8 H1 (c9 H1 cs (.lst [V.int 1])):=e8.upd_new hcs
   have h2:(c9 H1 cs (.lst [V.int 1])) cs=some (.lst ((C6 (A3 l rs 0)).map V.int)):=c8
   have h2r:=s2 _ _ h1
   have nrc:ra≠cs:=g6 h1 hcs
   generalize (c9 H1 cs (.lst [V.int 1]))=H2 at s2 h2 h2r ⊢
   refine ⟨_,rfl,_,_,rfl,rfl,1,(n:Int)+1,rfl,⟨by decide,by decide,by omega,by omega⟩,?_⟩
   have en:((n:Int)+1 - 1).toNat=n:=by omega
   rw[en]
   refine I0 (lo:=1) (n:=n) (fun i σ H3=>∃v w:Option V,σ=[some (.int (l:Int)),some (.int (n:Int)),some (.int (m:Int)),some (.ref ra),some (.ref cs),v,w]∧H3 cs=some (.lst ((C6 (A3 l rs i)).map V.int))∧i8 cs H2 H3) ⟨none,none,rfl,h2,i8.refl cs H2⟩ ?_ ?_
   · rintro i σ H3 hi ⟨v,w,rfl,h3,kb3⟩
     have h3r:=kb3 _ _ h2r nrc
     have lrs:rs.length≤40:=by rw[ers];exact dp4 (ad4 l m n) hn
     have prs:∀d∈rs,1≤d:=fun d hd=>by rw[ers] at hd;exact (G0 hd).1
     have e1:(1:Int)+(i:Int)=((i+1:Nat):Int):=by omega
     rw[e1]
     refine ⟨_,rfl,ra,rfl,⟨_,g9.of h3r⟩,ab6 (K:=K) (a:=ra) (xs:=(C6 rs).map V.int) (fun j ys σ H4=>∃u:Option V,σ=[u,some (.int ((i+1:Nat):Int)),some (.int (l:Int)),some (.ref cs)]∧H4=H3∧ys=(C6 (((rs.take j).filter fun d=>decide (d≤i+1)).map fun d=>t9 (i+1) l (d - 1)*(A3 l rs i).getD (i+1 - d) 0)).map V.int)
       ⟨none,rfl,rfl,by simp [C6]⟩ (fun j ys σ H4 _ ⟨_,_,e,_⟩=>by rw[e];exact g9.of h3r) ?_ ?_⟩
     · rintro j x ys σ H4 hj ⟨u,rfl,rfl,rfl⟩
       obtain ⟨d,hd,rfl⟩:=dd4 hj
       have d1:=prs d (dp0 hd)
       have jl:j < rs.length:=(do0.mp hd).1
       refine ⟨_,rfl,_,rfl,_,_,rfl,rfl,_,rfl,W5 (fun h1=> ?_) (fun h1=> ?_)⟩
       · have dn:d≤i+1:=by
           have:=of_decide_eq_true h1
           omega
         refine ⟨_,rfl,_,rfl,_,rfl,i+1,d,l,rfl,d1,dn,by omega,by omega,_,rfl,_,rfl,_,rfl,_,_,rfl,rfl,cs,_,_,_,rfl,rfl,g9.of h3,bw3 (xs:=A3 l rs i) (by omega) (by rw[K2];omega),_,_,rfl,rfl,⟨?_,?_⟩,?_⟩
         · rw[ed1]
           exact ds2 (am7 (dp4 (ea4 (show i+1≤40 by omega) hl) (by decide)) _) (bo4 (d - 1) (by omega) (by decide))
         · rw[ed1]
           exact ds2 (at1 hl lrs prs i (by omega) _) (bo4 _ (by omega) (by decide))
         · have lj:((rs.take j).filter fun d=>decide (d≤i+1)).length≤40:=dp4 (dz6 _ _) (by rw[dp5];omega)
           refine ⟨p9 (by unfold C6;rw[dn8,dn8,dn8];omega),_,rfl,rfl,?_⟩
           rw[i9 hd,dz3,dx0 (p:=fun d=>decide (d≤i+1)) (decide_eq_true dn),ec9]
           unfold C6
           rw[do8,do8,do8]
           congr 1
           have ed:((((i+1:Nat):Int)) - (d:Int)).toNat=i+1 - d:=by omega
           show [V.int (((t9 (i+1) l (d - 1):Nat):Int)*(((A3 l rs i).getD ((((i+1:Nat):Int)) - (d:Int)).toNat 0:Nat):Int))]=[V.int ((t9 (i+1) l (d - 1)*(A3 l rs i).getD (i+1 - d) 0:Nat):Int)]
           rw[ed,dx5]
       · have dn:¬d≤i+1:=fun z=>h1 (decide_eq_true (by omega))
         refine ⟨_,rfl,rfl,?_⟩
         rw[i9 hd,dz3,dx1 (p:=fun d=>decide (d≤i+1)) (by simpa using dn),ec9,dq6]
     · rintro ys σ H4 ⟨u,rfl,rfl,rfl⟩ D hD
       have ll:((C6 rs).map V.int).length=rs.length:=by unfold C6;rw[dn8,dn8]
       rw[ll,dq8]
       obtain ⟨ws,ews⟩:∃ws,ws=(rs.filter fun d=>decide (d≤i+1)).map fun d=>t9 (i+1) l (d - 1)*(A3 l rs i).getD (i+1 - d) 0:=⟨_,rfl⟩
       rw[←ews]
       have s5:e8 H4 (c9 H4 D (.lst ((C6 ws).map V.int))):=e8.upd_new hD
       have h5:(c9 H4 D (.lst ((C6 ws).map V.int))) D=some (.lst ((C6 ws).map V.int)):=c8
       generalize (c9 H4 D (.lst ((C6 ws).map V.int)))=H5 at s5 h5 ⊢
       have h5c:=s5 _ _ h3
       refine ⟨_,rfl,.inl ⟨rfl,_,g9.of h5c⟩,_,rfl,D,_,rfl,g9.of h5,cs,_,_,rfl,rfl,h5c,p9 (by unfold C6;rw[dn8,dn8,K2];omega),?_⟩
       refine ⟨_,_,rfl,?_,fun x o hx hn=>by rw[g8 hn];exact s5 x o (kb3 x o hx hn)⟩
       rw[c8,bb3,ews]
       show some (HO.lst (_++[V.int ((aj1 l rs (A3 l rs i) (i+1):Nat):Int)]))=some (HO.lst ((C6 (A3 l rs i++[aj1 l rs (A3 l rs i) (i+1)])).map V.int))
       unfold C6
       rw[do8,do8]
       rfl
   · rintro σ H3 ⟨v,w,rfl,h3,kb3⟩
     have s3:e8 H H3:=(s1.trans s2).kb kb3 (s1.free hcs)
     refine ⟨_,rfl,_,rfl,cs,_,_,_,rfl,rfl,g9.of h3,bw3 (xs:=A3 l rs n) (by omega) (by rw[K2];omega),?_⟩
     rw[dr1,ers]
     exact q H3 s3
theorem bf5 {l m n:Nat}(hl:l≤40)(hn:n≤40):w5 l m n≤1600^40:=
 dp4 (at1 hl (dp4 (ad4 l m n) hn) (fun _ hd=>(G0 hd).1) n hn n) (Nat.pow_le_pow_right (by decide) hn)
theorem bo5 {f:Nat→Nat}{c:Nat}:∀{ks:List Nat},(∀k∈ks,f k≤c)→n0 f ks≤c^ks.length
 |[],_=>do1 _
 |k::ks,h=>by
  show f k*n0 f ks≤c^(ks.length+1)
  rw[ef8,du0]
  exact ea4 (bo5 fun x hx=>h x (do4 _ hx)) (h k do3)
theorem cw3 (i:Nat)(h:i≤40){n:Nat}(hn:17600 < n):(1600^40)^i < 2^n:=by
 rw[←Nat.pow_mul]
 have a:1600^(40*i)≤(2^11)^(40*i):=Nat.pow_le_pow_left (by decide) _
 rw[←Nat.pow_mul] at a
 exact ds2 a (Nat.pow_lt_pow_right (by decide) (by omega))
theorem am8 {p:List Int}(t:j8 p){rs:List (List Int)}(up:A7 p p.length rs){ks:List Nat}(nk:ks.Nodup)(h1:∀k∈ks,∃r∈rs,r.length=k)(h2:∀r∈rs,r.length∈ks){f:Nat→Nat}(hf:∀u,n5 rs u=0→f u=1):
   n0 f ks=n0 f ((ds0 p.length).map (· +1)):=by
 refine be7 nk ?_ (fun k hk=> ?_) fun u hu hn=> ?_
 · exact List.Pairwise.map (fun x:Nat=>x+1) (fun a b h=>by omega) (ee6 (n:=p.length))
 · obtain ⟨r,hr,rfl⟩:=h1 k hk
   obtain ⟨y,L,hy,pr,er,_⟩:=up.ring r hr
   have b:=M1 t hy (m:=L) fun i i0 i1=>pr.least i i0 i1
   have:=pr.pos
   rw[er,m8]
   exact do9.mpr ⟨L - 1,dr4.mpr (by omega),by omega⟩
 · refine hf u ?_
   by_cases z:n5 rs u=0
   · exact z
   · obtain ⟨r,hr,rfl⟩:=ba0 z
     exact absurd (h2 r hr) hn
noncomputable def t7 (p:List Int)(m:Nat):Nat:=n0 (fun l=>w5 l m (n5 (j6 p p.length) l)) ((ds0 p.length).map (· +1))
def am9:Sp:=fun vs H Q _=>∃(a:Addr) (p:List Int) (m:Nat),vs=[.ref a,.int (m:Int)]∧B8 H a p∧1≤m∧∀H':Hp,e8 H H'→Q (.int ((t7 p m:Nat):Int)) H'
theorem G8:l8 ["p","m","by_length","many","length"] ["p","m"] (i7 R9):=⟨rfl,rfl,rfl,by decide+kernel,rfl,by decide+kernel,by decide+kernel⟩
theorem ap9 {f:Addr}{fd:FuncData}(F:A2 K "how_many_roots" "how_many_roots" R9 f fd)(B:Bl mg)(c_must_be_turn:j7 P w K mg base "must_be_turn" 3 ["thing"] aa2)(c_must_be_from_one:j7 P w K mg base "must_be_from_one" 2 ["number"] ap2)(c_sort_by_length:j7 P w K mg base "sort_by_length" 1 ["rings"] af7)(c_walk_rings:j7 P w K mg base "walk_rings" 2 ["p"] P6)(c_count_joins:j7 P w K mg base "count_joins" 3 ["length","many","m"] bb4):o8 P w K mg base A0 4 f fd ["p","m"] am9:=by
 refine F.ok G8 (fun vs H Q E h=> ?_) (fun cdv A outer s H vs Q E hr h=> ?_)
 · obtain ⟨a,p,m,rfl,⟨ha,tp,lp⟩,m1,q⟩:=h
   rfl
 · obtain ⟨a,p,m,rfl,⟨ha,tp,lp⟩,m1,q⟩:=h
   have hr_must_be_turn:m7 3 _:=hr.mono (by decide)
   have hr_must_be_from_one:m7 2 _:=hr.mono (by decide)
   have hr_sort_by_length:m7 1 _:=hr.mono (by decide)
   have hr_walk_rings:m7 2 _:=hr.mono (by decide)
   have hr_count_joins:m7 3 _:=hr.mono (by decide)
   have hu:=S8 hr
   refine ⟨_,@c7 _ _ _ _ _ (@o7 _ _ _ _ (@h8 _ _ _ _ _ _ _ _ _ _ c_must_be_turn hr_must_be_turn (@c5 _ _ _ _ _ (pv 0) (@c6 _) (by rfl)) (by rfl) (by decide) (by rfl) (by rfl)) (by rfl)) (@c7 _ _ _ _ _ (@o7 _ _ _ _ (@h8 _ _ _ _ _ _ _ _ _ _ c_must_be_from_one hr_must_be_from_one (@c5 _ _ _ _ _ (pv 1) (@c6 _) (by rfl)) (by rfl) (by decide) (by rfl) (by rfl)) (by rfl)) (@c7 _ _ _ _ _ (@i4 _ _ (2) _ _ _ _ G8.nd rfl (Or.inl rfl) (@h8 _ _ _ _ _ _ _ _ _ _ c_sort_by_length hr_sort_by_length (@c5 _ _ _ _ _ (@h8 _ _ _ _ _ _ _ _ _ _ c_walk_rings hr_walk_rings (@c5 _ _ _ _ _ (pv 0) (@c6 _) (by rfl)) (by rfl) (by decide) (by rfl) (by rfl)) (@c6 _) (by rfl)) (by rfl) (by decide) (by rfl) (by rfl)) (by rfl) (by first|exact .inl rfl|exact .inr rfl|assumption)) (@c7 _ _ _ _ _ (@i4 _ _ (3) _ _ _ _ G8.nd rfl (Or.inl rfl) (@i6 _ _ _ _) (by rfl) (by first|exact .inl rfl|exact .inr rfl|assumption)) (@c7 _ _ _ _ _ (@o6 _ _ _ _ _ _ _ _ PassesOwn.never rfl (@bu3 _ _ _ _ (pv 2)) (@j5 _ _ (4) _ G8.nd rfl (Or.inl rfl) (by first|exact .inl rfl|exact .inr rfl|assumption)) (@e7 _ _ _ (@i4 _ _ (3) _ _ _ _ G8.nd rfl (Or.inl rfl) (@l7 _ _ _ _ _ _ _ _ bv6 (pv 3) (@h8 _ _ _ _ _ _ _ _ _ _ c_count_joins hr_count_joins (@c5 _ _ _ _ _ (pv 4) (@c5 _ _ _ _ _ (@t8 _ _ _ _ _ B.len (@c5 _ _ _ _ _ (@ao6 _ _ _ _ _ _ hu (pv 2) (pv 4) (fun _ _=>rfl)) (@c6 _) (by rfl)) (by rfl) (by rfl)) (@c5 _ _ _ _ _ (pv 1) (@c6 _) (by rfl)) (by rfl)) (by rfl)) (by rfl) (by decide) (by rfl) (by rfl))) (by rfl) (by first|exact .inl rfl|exact .inr rfl|assumption))) (by intro _;rfl)) (@e7 _ _ _ (@l6 _ _ _ _ (pv 3))))))),?_⟩
   refine ⟨_,rfl,a,p,rfl,⟨ha,tp,lp⟩,fun H1 s1=> ?_⟩
   refine ⟨_,rfl,(m:Int),rfl,by omega,?_⟩
   refine ⟨_,rfl,a,p,rfl,⟨s1 a _ ha,tp,lp⟩,fun l as rs H2 hl s12 h2l rows up fa nda nla=> ?_⟩
   have cl:=ai9 up
   have fl:=aa4 tp up
   refine ⟨l,as,rs,rfl,h2l,rows,by omega,fun d es H3 hd s23 h3d bl les fre=> ?_⟩
   have s03:=(s1.trans s12).trans s23
   have hd0:H d=none:=(s1.trans s12).free hd
   refine ⟨_,rfl,d,q5 es,rfl,h3d,fun o=> ?_⟩
   have s4:e8 H (c9 H3 d (.frz o (.dK (q5 es)))):=s03.upd_r hd0
   have h4d:(c9 H3 d (.frz o (.dK (q5 es)))) d=some (.frz o (.dK (q5 es))):=c8
   have kp:∀c,c≠d→(c9 H3 d (.frz o (.dK (q5 es)))) c=H3 c:=fun c hc=>g8 hc
   generalize (c9 H3 d (.frz o (.dK (q5 es))))=H4 at s4 h4d kp ⊢
   have lkv:(q5 es).length=es.length:=by unfold q5;rw[dn8]
   have fb:∀e∈es,e.1≤40∧n5 rs e.1≤40:=fun e he=>by
     obtain ⟨r,hr',lr⟩:=bl.key e.1 (do9.mpr ⟨e,he,rfl⟩)
     obtain ⟨y,L,hy,pr,er,_⟩:=up.ring r hr'
     have b:=M1 tp hy (m:=L) fun i i0 i1=>pr.least i i0 i1
     rw[er,m8] at lr
     have:n5 rs e.1≤rs.length:=List.countP_le_length
     exact ⟨by omega,by omega⟩
   refine ar9 (fun i σ H5=>∃(v:Option V),σ=[some (.ref a),some (.int (m:Int)),some (.ref d),some (.int ((n0 (fun l=>w5 l m (n5 rs l)) ((es.take i).map (·.1)):Nat):Int)),v]∧e8 H4 H5)
     ⟨none,rfl,e8.refl H4⟩ (fun i σ H5 _ ⟨_,_,e⟩=>e _ _ h4d) ?_ ?_
   · rintro i k v σ H5 hi ⟨v4,rfl,s5⟩
     unfold q5 at hi
     rw[do2] at hi
     cases hE:es[i]? with
     |none=>rw[hE] at hi;cases hi
     |some e=>
      rw[hE] at hi
      cases hi
      have he:=dp0 hE
      have il:i < es.length:=(do0.mp hE).1
      obtain ⟨cs,hcs,rcs⟩:=bl.row e he
      obtain ⟨le40,lc40⟩:=fb e he
      have lcs:cs.length=n5 rs e.1:=by
        rw[rcs.1]
        unfold w6 n5
        exact (eg0 ..).symm
      have h5x:H5 e.2=some (.lst (cs.map V.ref)):=s5 _ _ (by rw[kp _ (bl.nd e he)];exact hcs)
      have pb:n0 (fun l=>w5 l m (n5 rs l)) ((es.take i).map (·.1))≤(1600^40)^i:=by
        have:=bo5 (f:=fun l=>w5 l m (n5 rs l)) (c:=1600^40) (ks:=(es.take i).map (·.1)) fun k hk=>by
          obtain ⟨e1,he1,rfl⟩:=do9.mp hk
          obtain ⟨b1,b2⟩:=fb e1 (du6 he1)
          exact bf5 b1 b2
        rw[dn8,dp5,ef5 (by omega)] at this
        exact this
      obtain ⟨F0,hF0⟩:∃F0,F0=n0 (fun l=>w5 l m (n5 rs l)) ((es.take i).map (·.1)):=⟨_,rfl⟩
      rw[←hF0] at pb ⊢
      refine ⟨_,rfl,_,rfl,_,rfl,_,rfl,d,.ref e.2,rfl,.inl ⟨q5 es,Sum.inl (e.1:Int),.inr ⟨o,s5 _ _ h4d⟩,rfl,(bn6 bl.nk he).symm⟩,e.2,_,rfl,.inl (g9.of h5x),_,rfl,e.1,cs.length,m,?_,le40,by omega,fun H6 s6=> ?_⟩
      · show [V.int (e.1:Int),V.int (((cs.map V.ref).length:Nat):Int),V.int (m:Int)]++[]=_
        rw[dn8]
        rfl
      refine ⟨_,_,rfl,rfl,⟨?_,?_⟩,some (.int (e.1:Int)),?_,s5.trans s6⟩
      · rw[ed1]
        exact ds2 pb (cw3 i (by omega) (by decide))
      · rw[ed1]
        exact ds2 (bf5 le40 (by omega)) (bo4 40 (do1 _) (by decide))
      · rw[i9 hE,do8,show ([e].map (·.1):List Nat)=[e.1] from rfl,aw9,←hF0,←lcs,dx5]
        rfl
   · rintro σ H5 ⟨v,rfl,s5⟩
     rw[lkv,dq8,am8 tp up bl.nk bl.key bl.all (f:=fun l=>w5 l m (n5 rs l)) fun u hu=>by show w5 u m (n5 rs u)=1;rw[hu];rfl]
     have er:rs=j6 p p.length:=up.eq
     rw[er]
     exact ⟨_,rfl,q _ (s4.trans s5)⟩
end
end My
namespace My
open PySem L2 Mth
section
variable {P:Program} {w:World} {K:PySem.W.Frag} {mg:Str→Option Value} {base:Heap} {q_TurnError q_NoTurn q_NoFit q_NoRounds q_NoNumber q_NoRoot q_TooMany q_NoKind q_NoText q_NoName q_NoRow:Addr}
def bo6:Nat→(Nat→Nat)→Nat
 |0,_=>0
 |n+1,f=>bo6 n f+f n
theorem dj2 {f:Nat→Nat}{n m:Nat}(h:n≤m)(z:∀k,n≤k→k < m→f k=0):bo6 m f=bo6 n f:=by
 induction m with
 |zero=>rw[show n=0 by omega]
 |succ m ih=>
  by_cases e:n=m+1
  · rw[e]
  · show bo6 m f+f m=bo6 n f
    rw[ih (by omega) fun k h1 h2=>z k h1 (by omega),z m (by omega) (by omega)];rfl
def X3 (rs:List Nat)(f:Nat→Nat):Nat:=(rs.map f).sum
theorem L9 (r:Nat)(rs:List Nat)(f:Nat→Nat):X3 (r::rs) f=f r+X3 rs f:=by unfold X3;rw[dr7,eb4]
theorem aj2 {f g:Nat→Nat}:∀{rs:List Nat},(∀r∈rs,f r=g r)→X3 rs f=X3 rs g
 |[],_=>rfl
 |r::rs,h=>by rw[L9,L9,h r do3,aj2 fun x hx=>h x (do4 _ hx)]
theorem co8 (c:Nat)(f:Nat→Nat):∀rs,c*X3 rs f=X3 rs fun r=>c*f r
 |[]=>rfl
 |r::rs=>by rw[L9,L9,ec8,co8 c f rs]
def Jn (l:Nat)(rs:List Nat)(j:Nat→Nat):Prop:=j 0=1∧∀n,1≤n→j n=X3 rs fun d=>if d≤n then t9 n l (d - 1)*j (n - d) else 0
def jf (l:Nat)(rs:List Nat)(n:Nat):Nat:=(A3 l rs n).getD n 0
theorem bf6 (l:Nat)(rs:List Nat):∀(k i:Nat),i≤k→(A3 l rs k).getD i 0=jf l rs i
 |0,i,h=>by rw[show i=0 by omega];rfl
 |k+1,i,h=>by
  by_cases e:i=k+1
  · rw[e];rfl
  · show (A3 l rs k++[_]).getD i 0=_
    rw[do5,dr6 (by rw[K2];omega),←do5]
    exact bf6 l rs k i (by omega)
theorem aq7 (n:Nat)(f:Nat→Nat):∀rs:List Nat,((rs.filter fun d=>decide (d≤n)).map f).sum=X3 rs fun d=>if d≤n then f d else 0
 |[]=>rfl
 |r::rs=>by
  rw[L9,←aq7 n f rs]
  by_cases c:r≤n
  · rw[dx0 (by simpa using c),dr7,eb4,if_pos c]
  · rw[dx1 (by simpa using c),if_neg c,dz8]
theorem bh7 {l:Nat}{rs:List Nat}(h1:∀d∈rs,1≤d):Jn l rs (jf l rs):=by
 refine ⟨rfl,fun n n1=> ?_⟩
 obtain ⟨k,rfl⟩:∃k,n=k+1:=⟨n - 1,by omega⟩
 show (A3 l rs k++[_]).getD (k+1) 0=_
 rw[do5,ds5 (by rw[K2];omega),K2,ef7]
 show aj1 l rs (A3 l rs k) (k+1)=_
 unfold aj1
 rw[aq7]
 refine aj2 fun d hd=> ?_
 have:=h1 d hd
 by_cases c:d≤k+1
 · rw[if_pos c,if_pos c,bf6 l rs k _ (by omega)]
 · rw[if_neg c,if_neg c]
end
end My
namespace My
open PySem L2 Mth
section
variable {P:Program} {w:World} {K:PySem.W.Frag} {mg:Str→Option Value} {base:Heap}
def E7 {α:Type}(R:Addr→α→Prop)(ts:List Addr)(xs:List α):Prop:=ts.length=xs.length∧∀(j:Nat) t x,ts[j]? =some t→xs[j]? =some x→R t x
theorem E7.nil {α:Type}{R:Addr→α→Prop}:E7 R [] ([]:List α):=⟨rfl,fun j t x h=>by cases h⟩
theorem E7.imp {α:Type}{R S:Addr→α→Prop}{ts:List Addr}{xs:List α}(h:E7 R ts xs)(f:∀t x,t∈ts→R t x→S t x):E7 S ts xs:=⟨h.1,fun j t x e1 e2=>f t x (dp0 e1) (h.2 j t x e1 e2)⟩
theorem E7.snoc {α:Type}{R:Addr→α→Prop}{ts:List Addr}{xs:List α}{t:Addr}{x:α}(h:E7 R ts xs)(r:R t x):E7 R (ts++[t]) (xs++[x]):=by
 refine ⟨by rw[do6,do6,h.1];rfl,fun j u y e1 e2=> ?_⟩
 by_cases hj:j < ts.length
 · rw[dr6 hj] at e1
   rw[dr6 (by rw[←h.1];exact hj)] at e2
   exact h.2 j u y e1 e2
 · rw[ds5 (by omega)] at e1
   rw[ds5 (by rw[←h.1];omega),←h.1] at e2
   have jl:=(do0.mp e1).1
   have:j - ts.length=0:=by simp at jl;omega
   rw[this] at e1 e2
   cases e1;cases e2
   exact r
theorem E7.get {α:Type}{R:Addr→α→Prop}{ts:List Addr}{xs:List α}(h:E7 R ts xs){j:Nat}{t:Addr}(e:ts[j]? =some t):∃x,xs[j]? =some x∧R t x:=by
 have jl:=(do0.mp e).1
 exact ⟨_,dn9 (by rw[←h.1];exact jl),h.2 j t _ e (dn9 _)⟩
def J1 (H:Hp)(zs:List Addr):Hp:=fun a=>if a∈zs then none else H a
theorem J5 {H:Hp}{zs:List Addr}{a:Addr}(h:a∉zs):J1 H zs a=H a:=if_neg h
theorem O6 {H:Hp}{zs:List Addr}{a:Addr}{u:HO}(e:J1 H zs a=some u):a∉zs∧H a=some u:=by
 unfold J1 at e
 by_cases c:a∈zs
 · rw[if_pos c] at e;cases e
 · rw[if_neg c] at e;exact ⟨c,e⟩
theorem bb6 {H:Hp}{zs:List Addr}{o:Addr}{x:HO}(ho:o∈zs):J1 (c9 H o x) zs=J1 H zs:=funext fun a=>by
 unfold J1
 by_cases e:a∈zs
 · rw[if_pos e,if_pos e]
 · rw[if_neg e,if_neg e,g8 (show a≠o from fun z=>e (by rw[z];exact ho))]
theorem bo7 (H:Hp)(zs:List Addr):e8 (J1 H zs) H:=fun a u e=>(O6 e).2
theorem S1 {H H':Hp}{zs:List Addr}{o:Addr}(ho:o∈zs)(k:i8 o H H'):e8 (J1 H zs) (J1 H' zs):=fun a u e=>by
 obtain ⟨c,e⟩:=O6 e
 rw[J5 c];exact k a u e (fun z=>c (by rw[z];exact ho))
theorem C9 {H H':Hp}{zs:List Addr}(s:e8 H H'):e8 (J1 H zs) (J1 H' zs):=fun a u e=>by
 obtain ⟨c,e⟩:=O6 e
 rw[J5 c];exact s a u e
theorem bo8 {H H':Hp}{zs:List Addr}{o:Addr}(s:e8 H H')(ho:H o=none):e8 (J1 H zs) (J1 H' (o::zs)):=fun a u e=>by
 obtain ⟨c,e⟩:=O6 e
 rw[J5 fun z=>(dp7.mp z).elim (fun y=>by rw[y,ho] at e;cases e) c];exact s a u e
theorem bo9 {H:Hp}{zs:List Addr}{o:Addr}:e8 (J1 H (o::zs)) (J1 H zs):=fun a u e=>by
 obtain ⟨c,e⟩:=O6 e
 rw[J5 fun z=>c (do4 _ z)];exact e
def N3 (H:Hp)(zs:List Addr):Prop:=∀z∈zs,∃u,H z=some u
theorem N3.keep {H H':Hp}{zs:List Addr}(h:N3 H zs)(s:e8 H H'):N3 H' zs:=fun z hz=>by
 obtain ⟨u,e⟩:=h z hz
 exact ⟨u,s _ _ e⟩
theorem N3.cons {H:Hp}{zs:List Addr}{o:Addr}{u:HO}(h:N3 H zs)(e:H o=some u):N3 H (o::zs):=fun z hz=>by
 rcases dp7.mp hz with rfl|hz
 · exact ⟨u,e⟩
 · exact h z hz
theorem N3.out {H:Hp}{zs:List Addr}{a:Addr}(h:N3 H zs)(e:H a=none):a∉zs:=fun z=>by
 obtain ⟨u,e'⟩:=h a z
 rw[e] at e';cases e'
def pk (rs:List (List Int))(i:Nat)(r:List Int)(b:Nat):List Int×List (List Int):=(r.drop b++r.take b,rs.take i++rs.drop (i+1))
def W0 (rs:List (List Int))(i:Nat)(r:List Int):List (List Int×List (List Int)):=(ds0 r.length).map (pk rs i r)
def D0 (rs:List (List Int)):Nat→List (List Int×List (List Int))
 |0=>[]
 |i+1=>D0 rs i++W0 rs i (rs.getD i [])
def aa7 (H:Hp)(t:Addr)(x:List Int×List (List Int)):Prop:=∃(a l:Addr) (as:List Addr),H t=some (.tup [.ref a,.ref l])∧H a=some (.lst (x.1.map V.int))∧H l=some (.lst (as.map V.ref))∧k7 H as x.2
theorem aa7.keep {H H':Hp}{t:Addr}{x:List Int×List (List Int)}(h:aa7 H t x)(s:e8 H H'):aa7 H' t x:=by
 obtain ⟨a,l,as,h1,h2,h3,h4⟩:=h
 exact ⟨a,l,as,s _ _ h1,s _ _ h2,s _ _ h3,p6 h4 fun b _ o e=>s b o e⟩
theorem bf7 (rs:List (List Int))(h:∀r∈rs,r.length≤40):∀i,i≤rs.length→(D0 rs i).length≤40*i
 |0,_=>dq3 _
 |i+1,hi=>by
  have:=bf7 rs h i (by omega)
  show (D0 rs i++W0 rs i (rs.getD i [])).length≤_
  rw[do6]
  unfold W0
  rw[dn8,dr0]
  have:(rs.getD i []).length≤40:=by
    rw[do5,dn9 (by omega)]
    exact h _ (dr9 _)
  omega
theorem ci4 {H:Hp}{as:List Addr}{rs:List (List Int)}(h:k7 H as rs)(i:Nat):k7 H (as.take i) (rs.take i):=
 ⟨by rw[dp5,dp5,h.1],fun j a r e1 e2=>by
   rw[ed2] at e1 e2
   by_cases c:j < i
   · rw[if_pos c] at e1 e2;exact h.2 j a r e1 e2
   · rw[if_neg c] at e1;cases e1⟩
theorem ci5 {H:Hp}{as:List Addr}{rs:List (List Int)}(h:k7 H as rs)(i:Nat):k7 H (as.drop i) (rs.drop i):=
 ⟨by rw[dr2,dr2,h.1],fun j a r e1 e2=>by
   rw[dy2] at e1 e2
   exact h.2 _ a r e1 e2⟩
def bb7:Sp:=fun vs H Q _=>∃(l:Addr) (as:List Addr) (rs:List (List Int)) (zs:List Addr),vs=[.ref l]∧H l=some (.lst (as.map V.ref))∧k7 (J1 H zs) as rs∧N3 H zs∧rs.length≤40∧(∀r∈rs,r.length≤40)∧∀(o:Addr) (ts:List Addr) (H':Hp),H o=none→e8 H H'→H' o=some (.lst (ts.map V.ref))→E7 (aa7 (J1 H' (o::zs))) ts (D0 rs rs.length)→Q (.ref o) H'
theorem M7:l8 ["rings","picks","at","ring","left","begin"] ["rings"] (i7 ah9):=⟨rfl,rfl,rfl,by decide+kernel,rfl,by decide+kernel,by decide+kernel⟩
theorem br8 {f:Addr}{fd:FuncData}(F:A2 K "picks_of" "picks_of" ah9 f fd)(B:Bl mg):o8 P w K mg base A0 1 f fd ["rings"] bb7:=by
 refine F.ok M7 (fun vs H Q E h=> ?_) (fun cdv A outer s H vs Q E hr h=> ?_)
 · obtain ⟨l,as,rs,zs,rfl,hl,rows,thz,lr,lr2,q⟩:=h
   rfl
 · obtain ⟨l,as,rs,zs,rfl,hl,rows,thz,lr,lr2,q⟩:=h
   refine ⟨_,@c7 _ _ _ _ _ (@i4 _ _ (1) _ _ _ _ M7.nd rfl (Or.inl rfl) (@w4 _ _ _ _ (@c6 _)) (by rfl) (by first|exact .inl rfl|exact .inr rfl|assumption)) (@c7 _ _ _ _ _ (@o6 _ _ _ _ _ _ _ _ PassesOwn.never rfl (@ae5 _ _ _ _ _ _ _ _ B.enum (@c5 _ _ _ _ _ (pv 0) (@c6 _) (by rfl)) (by rfl) (by rfl)) (@S6 _ _ _ _ _ _ rfl (@A1 _ _ _ _ _ (@j5 _ _ (2) _ M7.nd rfl (Or.inl rfl) (by first|exact .inl rfl|exact .inr rfl|assumption)) (@A1 _ _ _ _ _ (@j5 _ _ (3) _ M7.nd rfl (Or.inl rfl) (by first|exact .inl rfl|exact .inr rfl|assumption)) (@O9 _) (by rfl)) (by rfl)) (by rfl) (by rfl)) (@c7 _ _ _ _ _ (@i4 _ _ (4) _ _ _ _ M7.nd rfl (Or.inl rfl) (@l7 _ _ _ _ _ _ _ _ av5 (@U1 _ _ _ _ _ _ _ _ _ _ Y2 (pv 0) (@ae0 _) (@S2 _ _ _ (pv 2))) (@U1 _ _ _ _ _ _ _ _ _ _ Y2 (pv 0) (@S2 _ _ _ (@l7 _ _ _ _ _ _ _ _ G2 (pv 2) (@i6 _ _ _ _))) (@ae0 _))) (by rfl) (by first|exact .inl rfl|exact .inr rfl|assumption)) (@e7 _ _ _ (@o6 _ _ _ _ _ _ _ _ PassesOwn.never rfl (@K1 _ _ _ _ _ _ (by rfl) B.range (@c5 _ _ _ _ _ (@t8 _ _ _ _ _ B.len (@c5 _ _ _ _ _ (pv 3) (@c6 _) (by rfl)) (by rfl) (by rfl)) (@c6 _) (by rfl)) (by rfl)) (@j5 _ _ (5) _ M7.nd rfl (Or.inl rfl) (by first|exact .inl rfl|exact .inr rfl|assumption)) (@e7 _ _ _ (@o7 _ _ _ _ (@E4 _ _ _ _ _ _ _ (pv 1) (@c5 _ _ _ _ _ (@ak4 _ _ _ _ _ (@c5 _ _ _ _ _ (@l7 _ _ _ _ _ _ _ _ av5 (@U1 _ _ _ _ _ _ _ _ _ _ Y2 (pv 3) (@S2 _ _ _ (pv 5)) (@ae0 _)) (@U1 _ _ _ _ _ _ _ _ _ _ Y2 (pv 3) (@ae0 _) (@S2 _ _ _ (pv 5)))) (@c5 _ _ _ _ _ (pv 4) (@c6 _) (by rfl)) (by rfl))) (@c6 _) (by rfl)) (by rfl) (by rfl) (by rfl) (by rfl) (by rfl)) (by rfl))) (by intro _;rfl)))) (by intro _;rfl)) (@e7 _ _ _ (@l6 _ _ _ _ (pv 1)))),?_⟩
   refine ⟨dq3 _,fun o ho=> ?_⟩
   have s1:e8 H (c9 H o (.lst [])):=e8.upd_new ho
   have h1o:(c9 H o (.lst [])) o=some (.lst (([]:List Addr).map V.ref)):=c8
   generalize (c9 H o (.lst []))=H1 at s1 h1o ⊢
   have nlo:l≠o:=g6 hl ho
   refine ⟨_,rfl,l,rfl,⟨_,g9.of (s1 _ _ hl)⟩,Z4 (K:=K) (a:=l) (xs:=as.map V.ref) (fun i σ H2=>∃(ts:List Addr) (v2 v3 v4 v5:Option V),σ=[some (.ref l),some (.ref o),v2,v3,v4,v5]∧H2 o=some (.lst (ts.map V.ref))∧E7 (aa7 (J1 H2 (o::zs))) ts (D0 rs i)∧e8 H H2)
     ⟨[],none,none,none,none,rfl,h1o,E7.nil,s1⟩ (fun i σ H2 _ ⟨_,_,_,_,_,_,_,_,s⟩=>g9.of (s _ _ hl)) ?_ ?_⟩
   · rintro i y σ H2 tt hi ⟨ts,v2,v3,v4,v5,rfl,h2o,ats,s2⟩ htt
     obtain ⟨a,ha,rfl⟩:∃a,as[i]? =some a∧y=V.ref a:=by
       rw[do2] at hi
       cases e:as[i]? with
       |none=>rw[e] at hi;cases hi
       |some a=>rw[e] at hi;exact ⟨a,rfl,(Option.some.inj hi).symm⟩
     have il:i < rs.length:=by rw[←rows.1];exact (do0.mp ha).1
     obtain ⟨r,hr⟩:∃r,rs[i]? =some r:=⟨_,dn9 il⟩
     have er:rs.getD i []=r:=by rw[do5,hr];rfl
     have lr40:=lr2 r (dp0 hr)
     have h0a:=(O6 (rows.2 i a r ha hr)).2
     have s3:e8 H2 (c9 H2 tt (.tup [.int (i:Int),.ref a])):=e8.upd_new htt
     have h3t:(c9 H2 tt (.tup [.int (i:Int),.ref a])) tt=some (.tup [.int (i:Int),.ref a]):=c8
     generalize (c9 H2 tt (.tup [.int (i:Int),.ref a]))=H3 at s3 h3t ⊢
     refine ⟨tt,_,rfl,Q6.of h3t,rfl,_,_,rfl,_,_,rfl,rfl,?_⟩
     have s03:=s2.trans s3
     have la:(as.map V.ref).length=rs.length:=by rw[dn8,rows.1]
     refine ⟨_,rfl,_,rfl,_,rfl,l,_,rfl,g9.of (s03 _ _ hl),fun x1 hx1=> ?_⟩
     rw[cg3 (as.map V.ref) i (by omega),←eh3]
     have s4:e8 H3 (c9 H3 x1 (.lst ((as.take i).map V.ref))):=e8.upd_new hx1
     have h4x:(c9 H3 x1 (.lst ((as.take i).map V.ref))) x1=some (.lst ((as.take i).map V.ref)):=c8
     generalize (c9 H3 x1 (.lst ((as.take i).map V.ref)))=H4 at s4 h4x ⊢
     have s04:=s03.trans s4
     refine ⟨_,rfl,_,rfl,_,_,rfl,rfl,_,rfl,l,_,rfl,g9.of (s04 _ _ hl),fun x2 hx2=> ?_⟩
     rw[show ((i:Int)+1)=((i+1:Nat):Int) by omega,ar7 (as.map V.ref) (i+1) (by omega),←ej2]
     have s5:e8 H4 (c9 H4 x2 (.lst ((as.drop (i+1)).map V.ref))):=e8.upd_new hx2
     have h5x:(c9 H4 x2 (.lst ((as.drop (i+1)).map V.ref))) x2=some (.lst ((as.drop (i+1)).map V.ref)):=c8
     generalize (c9 H4 x2 (.lst ((as.drop (i+1)).map V.ref)))=H5 at s5 h5x ⊢
     refine ⟨x1,x2,_,_,rfl,rfl,s5 _ _ h4x,h5x,du2 (p9 (by simp only[dn8,dp5,dr2];have:=rows.1;omega)),fun L hL=> ?_⟩
     rw[←do8]
     have s6:e8 H5 (c9 H5 L (.lst ((as.take i++as.drop (i+1)).map V.ref))):=e8.upd_new hL
     have h6L:(c9 H5 L (.lst ((as.take i++as.drop (i+1)).map V.ref))) L=some (.lst ((as.take i++as.drop (i+1)).map V.ref)):=c8
     generalize (c9 H5 L (.lst ((as.take i++as.drop (i+1)).map V.ref)))=H6 at s6 h6L ⊢
     have s26:=((s3.trans s4).trans s5).trans s6
     have s06:=s2.trans s26
     have th2:N3 H2 (o::zs):=(thz.keep s2).cons h2o
     have nLo:L∉o::zs:=(th2.keep ((s3.trans s4).trans s5)).out hL
     have nLo1:L≠o:=fun z=>nLo (z▸do3)
     have rowsO:k7 (J1 H6 (o::zs)) (as.take i++as.drop (i+1)) (rs.take i++rs.drop (i+1)):=p6 (ar8 (ci4 rows i) (ci5 rows (i+1))) fun b _ u e=>bo8 s06 ho b u e
     have ats6:E7 (aa7 (J1 H6 (o::zs))) ts (D0 rs i):=ats.imp fun t x _ h=>h.keep (C9 s26)
     refine ⟨_,rfl,a,_,rfl,.inl (g9.of (s06 _ _ h0a)),_,rfl,by rw[dn8];omega,by rw[dn8];omega,?_⟩
     rw[dn8,show ((r.length:Int)).toNat=r.length by omega]
     have tl:=ats.1
     have pl:=bf7 rs lr2 i (by omega)
     refine I0 (lo:=0) (n:=r.length) (fun b σ H7=>∃(ts:List Addr) (v5:Option V),σ=[some (.ref l),some (.ref o),some (.int (i:Int)),some (.ref a),some (.ref L),v5]∧H7 o=some (.lst (ts.map V.ref))∧E7 (aa7 (J1 H7 (o::zs))) ts (D0 rs i++(ds0 b).map (pk rs i r))∧i8 o H6 H7)
       ⟨ts,v5,rfl,s26 _ _ h2o,by rw[List.range_zero,eb8,dq6];exact ats6,i8.refl _ _⟩ ?_ ?_
     · rintro b σ H7 hb ⟨ts,v5,rfl,h7o,ats7,kb7⟩
       have e0:(0:Int)+(b:Int)=(b:Int):=by omega
       rw[e0]
       have s07:e8 H H7:=s06.kb kb7 ho
       have h7a:=s07 _ _ h0a
       have lts:ts.length≤1700:=by
         have:=ats7.1
         rw[do6,dn8,dr0] at this
         omega
       refine ⟨_,rfl,.inl ⟨rfl,_,g9.of h7o⟩,_,rfl,_,rfl,_,rfl,a,_,rfl,g9.of h7a,fun y1 hy1=> ?_⟩
       rw[ar7 (r.map V.int) b (by rw[dn8];omega),←ej2]
       have s8:e8 H7 (c9 H7 y1 (.lst ((r.drop b).map V.int))):=e8.upd_new hy1
       have h8y:(c9 H7 y1 (.lst ((r.drop b).map V.int))) y1=some (.lst ((r.drop b).map V.int)):=c8
       generalize (c9 H7 y1 (.lst ((r.drop b).map V.int)))=H8 at s8 h8y ⊢
       refine ⟨_,rfl,_,rfl,_,rfl,a,_,rfl,g9.of (s8 _ _ h7a),fun y2 hy2=> ?_⟩
       rw[cg3 (r.map V.int) b (by rw[dn8];omega),←eh3]
       have s9:e8 H8 (c9 H8 y2 (.lst ((r.take b).map V.int))):=e8.upd_new hy2
       have h9y:(c9 H8 y2 (.lst ((r.take b).map V.int))) y2=some (.lst ((r.take b).map V.int)):=c8
       generalize (c9 H8 y2 (.lst ((r.take b).map V.int)))=H9 at s9 h9y ⊢
       refine ⟨y1,y2,_,_,rfl,rfl,s9 _ _ h8y,h9y,du2 (p9 (by simp only[dn8,dp5,dr2];omega)),fun c hc=> ?_⟩
       rw[←do8]
       have s10:e8 H9 (c9 H9 c (.lst ((r.drop b++r.take b).map V.int))):=e8.upd_new hc
       have h10c:(c9 H9 c (.lst ((r.drop b++r.take b).map V.int))) c=some (.lst ((r.drop b++r.take b).map V.int)):=c8
       generalize (c9 H9 c (.lst ((r.drop b++r.take b).map V.int)))=H10 at s10 h10c ⊢
       refine ⟨_,rfl,(show 2≤sizeLine by decide),fun t ht=> ?_⟩
       have s11:e8 H10 (c9 H10 t (.tup [.ref c,.ref L])):=e8.upd_new ht
       have h11t:(c9 H10 t (.tup [.ref c,.ref L])) t=some (.tup [.ref c,.ref L]):=c8
       generalize (c9 H10 t (.tup [.ref c,.ref L]))=H11 at s11 h11t ⊢
       have s79:=s8.trans s9
       have s710:=s79.trans s10
       have s711:=s710.trans s11
       have th7:N3 H7 (o::zs):=(thz.keep s07).cons h7o
       have nco:c∉o::zs:=(th7.keep s79).out hc
       have nto:t∉o::zs:=(th7.keep s710).out ht
       refine ⟨o,_,_,rfl,rfl,s711 _ _ h7o,ds2 (show _≤2000 by rw[dn8];omega) (by decide),?_⟩
       rw[show ts.map V.ref++[V.ref t]=(ts++[t]).map V.ref by rw[do8];rfl]
       refine ⟨ts++[t],_,rfl,c8,?_,(kb7.trans (s711.but o)).upd_a⟩
       rw[bb6 do3,ea0,do8,←dq4]
       refine E7.snoc (ats7.imp fun t x _ h=>h.keep (C9 s711)) ?_
       have h7L:=kb7 _ _ h6L nLo1
       refine ⟨c,L,_,by rw[J5 nto];exact h11t,by rw[J5 nco];exact s11 _ _ h10c,by rw[J5 nLo];exact s711 _ _ h7L,?_⟩
       exact p6 rowsO fun b _ u e=>(S1 do3 (kb7.trans (s711.but o))) b u e
     · rintro σ H7 ⟨ts,v5,rfl,h7o,ats7,kb7⟩
       refine ⟨ts,_,_,_,v5,rfl,h7o,?_,s06.kb kb7 ho⟩
       show E7 _ ts (D0 rs i++W0 rs i (rs.getD i []))
       rw[er]
       exact ats7
   · rintro σ H2 ⟨ts,v2,v3,v4,v5,rfl,h2o,ats,s2⟩
     rw[dn8,rows.1] at ats
     exact ⟨_,rfl,q o ts H2 ho s2 h2o ats⟩
def nxC (x:List (List Int)×List (List Int)):List (List (List Int)×List (List Int)):=(D0 x.2 x.2.length).map fun y=>(x.1++[y.1],y.2)
def q9 (rs:List (List Int)):Nat→List (List (List Int)×List (List Int))
 |0=>[([rs.getD 0 []],rs.drop 1)]
 |k+1=>(q9 rs k).flatMap nxC
def L3 (H:Hp)(t:Addr)(x:List (List Int)×List (List Int)):Prop:=∃(c l:Addr) (cs as:List Addr),H t=some (.tup [.ref c,.ref l])∧H c=some (.lst (cs.map V.ref))∧k7 H cs x.1∧H l=some (.lst (as.map V.ref))∧k7 H as x.2
theorem L3.keep {H H':Hp}{t:Addr}{x:List (List Int)×List (List Int)}(h:L3 H t x)(s:e8 H H'):L3 H' t x:=by
 obtain ⟨c,l,cs,as,h1,h2,h3,h4,h5⟩:=h
 exact ⟨c,l,cs,as,s _ _ h1,s _ _ h2,p6 h3 fun b _ o e=>s b o e,s _ _ h4,p6 h5 fun b _ o e=>s b o e⟩
theorem at2 {rs:List (List Int)}:∀(i:Nat) {y:List Int×List (List Int)},y∈D0 rs i→y.2.length≤rs.length∧∀r∈y.2,r∈rs
 |0,y,h=>by cases h
 |i+1,y,h=>by
  rcases dp3.mp h with z|z
  · exact at2 i z
  · obtain ⟨b,_,rfl⟩:=do9.mp z
    refine ⟨?_,fun r hr=> ?_⟩
    · show (rs.take i++rs.drop (i+1)).length≤_
      rw[do6,dp5,dr2]
      omega
    · rcases dp3.mp hr with w|w
      · exact du6 w
      · exact dy4 w
theorem an0 {rs:List (List Int)}:∀(k:Nat) {x:List (List Int)×List (List Int)},x∈q9 rs k→x.2.length≤rs.length∧(∀r∈x.2,r∈rs)∧x.1.length=k+1
 |0,x,h=>by
  rw[dp1.mp h]
  exact ⟨by show (rs.drop 1).length≤_;rw[dr2];omega,fun r hr=>dy4 hr,rfl⟩
 |k+1,x,h=>by
  obtain ⟨x',h',z⟩:=dt9.mp h
  obtain ⟨y,hy,rfl⟩:=do9.mp z
  obtain ⟨a,b,c⟩:=an0 k h'
  obtain ⟨d,e⟩:=at2 _ hy
  exact ⟨dp4 d a,fun r hr=>b r (e r hr),by show (x'.1++[y.1]).length=_;rw[do6,c];rfl⟩
def aj3:Sp:=fun vs H Q _=>∃(l:Addr) (as:List Addr) (rs:List (List Int)) (zs:List Addr) (part:Nat),vs=[.ref l,.int (part:Int)]∧H l=some (.lst (as.map V.ref))∧l∉zs∧k7 (J1 H zs) as rs∧N3 H zs∧1≤rs.length∧rs.length≤40∧(∀r∈rs,r.length≤40)∧1≤part∧part≤40∧(∀k,k < part→(q9 rs k).length≤2000)∧∀(o:Addr) (ts:List Addr) (H':Hp),H o=none→e8 H H'→H' o=some (.lst (ts.map V.ref))→E7 (L3 (J1 H' zs)) ts (q9 rs (part - 1))→Q (.ref o) H'
theorem D1:l8 ["rings","part","chains","taken","longer","chain","left","ring","rest"] ["rings","part"] (i7 ad0):=⟨rfl,rfl,rfl,by decide+kernel,rfl,by decide+kernel,by decide+kernel⟩
theorem bp0 {f:Addr}{fd:FuncData}(F:A2 K "chains_of" "chains_of" ad0 f fd)(B:Bl mg)(c_picks_of:j7 P w K mg base "picks_of" 1 ["rings"] bb7):o8 P w K mg base A0 2 f fd ["rings","part"] aj3:=by
 refine F.ok D1 (fun vs H Q E h=> ?_) (fun cdv A outer s H vs Q E hr h=> ?_)
 · obtain ⟨l,as,rs,zs,part,rfl,hl,nlz,rows,thz,lr1,lr,lr2,p1,p2,few,q⟩:=h
   rfl
 · obtain ⟨l,as,rs,zs,part,rfl,hl,nlz,rows,thz,lr1,lr,lr2,p1,p2,few,q⟩:=h
   have hr_picks_of:m7 1 _:=hr.mono (by decide)
   refine ⟨_,@c7 _ _ _ _ _ (@i4 _ _ (2) _ _ _ _ D1.nd rfl (Or.inl rfl) (@w4 _ _ _ _ (@c5 _ _ _ _ _ (@ak4 _ _ _ _ _ (@c5 _ _ _ _ _ (@w4 _ _ _ _ (@c5 _ _ _ _ _ (@G3 _ _ _ _ _ _ _ C0 (pv 0) (@i6 _ _ _ _) (fun _ _=>rfl)) (@c6 _) (by rfl))) (@c5 _ _ _ _ _ (@U1 _ _ _ _ _ _ _ _ _ _ Y2 (pv 0) (@S2 _ _ _ (@i6 _ _ _ _)) (@ae0 _)) (@c6 _) (by rfl)) (by rfl))) (@c6 _) (by rfl))) (by rfl) (by first|exact .inl rfl|exact .inr rfl|assumption)) (@c7 _ _ _ _ _ (@o6 _ _ _ _ _ _ _ _ PassesOwn.never rfl (@ab4 _ _ _ _ _ _ _ (by rfl) B.range (@c5 _ _ _ _ _ (@i6 _ _ _ _) (@c5 _ _ _ _ _ (pv 1) (@c6 _) (by rfl)) (by rfl)) (by rfl) (by rfl)) (@j5 _ _ (3) _ D1.nd rfl (Or.inl rfl) (by first|exact .inl rfl|exact .inr rfl|assumption)) (@c7 _ _ _ _ _ (@i4 _ _ (4) _ _ _ _ D1.nd rfl (Or.inl rfl) (@w4 _ _ _ _ (@c6 _)) (by rfl) (by first|exact .inl rfl|exact .inr rfl|assumption)) (@c7 _ _ _ _ _ (@o6 _ _ _ _ _ _ _ _ PassesOwn.never rfl (@w9 _ _ _ _ (pv 2)) (@S6 _ _ _ _ _ _ rfl (@A1 _ _ _ _ _ (@j5 _ _ (5) _ D1.nd rfl (Or.inl rfl) (by first|exact .inl rfl|exact .inr rfl|assumption)) (@A1 _ _ _ _ _ (@j5 _ _ (6) _ D1.nd rfl (Or.inl rfl) (by first|exact .inl rfl|exact .inr rfl|assumption)) (@O9 _) (by rfl)) (by rfl)) (by rfl) (by rfl)) (@e7 _ _ _ (@o6 _ _ _ _ _ _ _ _ PassesOwn.never rfl (@w9 _ _ _ _ (@h8 _ _ _ _ _ _ _ _ _ _ c_picks_of hr_picks_of (@c5 _ _ _ _ _ (pv 6) (@c6 _) (by rfl)) (by rfl) (by decide) (by rfl) (by rfl))) (@S6 _ _ _ _ _ _ rfl (@A1 _ _ _ _ _ (@j5 _ _ (7) _ D1.nd rfl (Or.inl rfl) (by first|exact .inl rfl|exact .inr rfl|assumption)) (@A1 _ _ _ _ _ (@j5 _ _ (8) _ D1.nd rfl (Or.inl rfl) (by first|exact .inl rfl|exact .inr rfl|assumption)) (@O9 _) (by rfl)) (by rfl)) (by rfl) (by rfl)) (@e7 _ _ _ (@o7 _ _ _ _ (@E4 _ _ _ _ _ _ _ (pv 4) (@c5 _ _ _ _ _ (@ak4 _ _ _ _ _ (@c5 _ _ _ _ _ (@l7 _ _ _ _ _ _ _ _ av5 (pv 5) (@w4 _ _ _ _ (@c5 _ _ _ _ _ (pv 7) (@c6 _) (by rfl)))) (@c5 _ _ _ _ _ (pv 8) (@c6 _) (by rfl)) (by rfl))) (@c6 _) (by rfl)) (by rfl) (by rfl) (by rfl) (by rfl) (by rfl)) (by rfl))) (by intro _;rfl))) (by intro _;rfl)) (@e7 _ _ _ (@i4 _ _ (2) _ _ _ _ D1.nd rfl (Or.inl rfl) (pv 4) (by rfl) (by first|exact .inl rfl|exact .inr rfl|assumption))))) (by intro _;rfl)) (@e7 _ _ _ (@l6 _ _ _ _ (pv 2)))),?_⟩
   obtain ⟨a0,as',rfl⟩:∃a0 as',as=a0::as':=by
     cases as with
     |nil=>have:=rows.1;simp at this;omega
     |cons a t=>exact ⟨a,t,rfl⟩
   obtain ⟨r0,rs',rfl⟩:∃r0 rs',rs=r0::rs':=by
     cases rs with
     |nil=>simp at lr1
     |cons a t=>exact ⟨a,t,rfl⟩
   have h0:J1 H zs a0=some (.lst (r0.map V.int)):=rows.2 0 a0 r0 rfl rfl
   refine ⟨_,rfl,l,_,_,_,rfl,rfl,g9.of hl,(J2 (j:=0) rfl),(show 1≤sizeLine by decide),fun c0 hc0=> ?_⟩
   have s1:e8 H (c9 H c0 (.lst [V.ref a0])):=e8.upd_new hc0
   have h1c:(c9 H c0 (.lst [V.ref a0])) c0=some (.lst (([a0]:List Addr).map V.ref)):=c8
   generalize (c9 H c0 (.lst [V.ref a0]))=H1 at s1 h1c ⊢
   refine ⟨_,rfl,_,rfl,l,_,rfl,g9.of (s1 _ _ hl),fun x1 hx1=> ?_⟩
   rw[show W4 ((a0::as').map V.ref) (some 1) none=as'.map V.ref from ar7 ((a0::as').map V.ref) 1 (by simp)]
   have s2:e8 H1 (c9 H1 x1 (.lst (as'.map V.ref))):=e8.upd_new hx1
   have h2x:(c9 H1 x1 (.lst (as'.map V.ref))) x1=some (.lst (as'.map V.ref)):=c8
   generalize (c9 H1 x1 (.lst (as'.map V.ref)))=H2 at s2 h2x ⊢
   refine ⟨(show 2≤sizeLine by decide),fun t0 ht0=> ?_⟩
   have s3:e8 H2 (c9 H2 t0 (.tup [.ref c0,.ref x1])):=e8.upd_new ht0
   have h3t:(c9 H2 t0 (.tup [.ref c0,.ref x1])) t0=some (.tup [.ref c0,.ref x1]):=c8
   generalize (c9 H2 t0 (.tup [.ref c0,.ref x1]))=H3 at s3 h3t ⊢
   refine ⟨(show 1≤sizeLine by decide),fun F0 hF0=> ?_⟩
   have s4:e8 H3 (c9 H3 F0 (.lst [V.ref t0])):=e8.upd_new hF0
   have h4F:(c9 H3 F0 (.lst [V.ref t0])) F0=some (.lst (([t0]:List Addr).map V.ref)):=c8
   generalize (c9 H3 F0 (.lst [V.ref t0]))=H4 at s4 h4F ⊢
   have s02:=s1.trans s2
   have s03:=s02.trans s3
   have s04:=s03.trans s4
   have n1:c0∉zs:=thz.out hc0
   have n2:x1∉zs:=(thz.keep s1).out hx1
   have n3:t0∉zs:=(thz.keep s02).out ht0
   have ch0:L3 (J1 H4 zs) t0 ([r0],rs'):=by
     refine ⟨c0,x1,[a0],as',by rw[J5 n3];exact s4 _ _ h3t,by rw[J5 n1];exact ((s2.trans s3).trans s4) _ _ h1c,⟨rfl,fun j b r e1 e2=> ?_⟩,by rw[J5 n2];exact (s3.trans s4) _ _ h2x,⟨by have:=rows.1;simpa using this,fun j b r e1 e2=> ?_⟩⟩
     · rcases j with _|j
       · cases e1;cases e2;exact C9 s04 _ _ h0
       · cases e1
     · exact C9 s04 _ _ (rows.2 (j+1) b r e1 e2)
   refine ⟨_,rfl,1,(part:Int),rfl,⟨by decide,by decide,by omega,by omega⟩,?_⟩
   rw[show ((part:Int) - 1).toNat=part - 1 by omega]
   refine I0 (lo:=1) (n:=part - 1) (fun i σ H5=>∃(F:Addr) (ts:List Addr) (v3 v4 v5 v6 v7 v8:Option V),σ=[some (.ref l),some (.int (part:Int)),some (.ref F),v3,v4,v5,v6,v7,v8]∧H5 F=some (.lst (ts.map V.ref))∧E7 (L3 (J1 H5 zs)) ts (q9 (r0::rs') i)∧e8 H H5∧H F=none)
     ⟨F0,[t0],none,none,none,none,none,none,rfl,h4F,⟨rfl,fun j t x e1 e2=>by
       rcases j with _|j
       · cases e1;cases e2;exact ch0
       · cases e1⟩,s04,s03.free hF0⟩ ?_ ?_
   · rintro i σ H5 hi ⟨F,ts,v3,v4,v5,v6,v7,v8,rfl,h5F,ats,s05,hF⟩
     refine ⟨dq3 _,fun L hL=> ?_⟩
     have nFL:F≠L:=g6 h5F hL
     have hL0:H L=none:=s05.free hL
     have s6:e8 H5 (c9 H5 L (.lst [])):=e8.upd_new hL
     have h6L:(c9 H5 L (.lst [])) L=some (.lst (([]:List Addr).map V.ref)):=c8
     generalize (c9 H5 L (.lst []))=H6 at s6 h6L ⊢
     have ats6:E7 (L3 (J1 H6 (L::zs))) ts (q9 (r0::rs') i):=ats.imp fun t x _ h=>h.keep (bo8 s6 hL)
     have few1:=few (i+1) (by omega)
     refine ⟨_,rfl,F,rfl,⟨_,g9.of (s6 _ _ h5F)⟩,A8 (K:=K) (a:=F) (xs:=ts.map V.ref) (fun j σ H7=>∃(us:List Addr) (v5 v6 v7 v8:Option V),σ=[some (.ref l),some (.int (part:Int)),some (.ref F),some (.int (1+(i:Int))),some (.ref L),v5,v6,v7,v8]∧H7 L=some (.lst (us.map V.ref))∧E7 (L3 (J1 H7 (L::zs))) us (((q9 (r0::rs') i).take j).flatMap nxC)∧i8 L H6 H7)
       ⟨[],v5,v6,v7,v8,rfl,h6L,E7.nil,i8.refl _ _⟩ (fun j σ H7 _ ⟨_,_,_,_,_,_,_,_,k⟩=>g9.of (k _ _ (s6 _ _ h5F) nFL)) ?_ ?_⟩
     · rintro j y σ H7 hj ⟨us,v5,v6,v7,v8,rfl,h7L,atu,kb7⟩
       obtain ⟨t,ht,rfl⟩:∃t,ts[j]? =some t∧y=V.ref t:=by
         rw[do2] at hj
         cases e:ts[j]? with
         |none=>rw[e] at hj;cases hj
         |some a=>rw[e] at hj;exact ⟨a,rfl,(Option.some.inj hj).symm⟩
       obtain ⟨x,hx,cx⟩:=ats6.get ht
       obtain ⟨c,xl,cs,bs,g1,g2,g3,g4,g5⟩:=cx.keep (S1 do3 kb7)
       obtain ⟨b1,b2,b3⟩:=an0 i (dp0 hx)
       refine ⟨t,_,rfl,Q6.of (O6 g1).2,rfl,_,_,rfl,_,_,rfl,rfl,?_⟩
       have s07:e8 H H7:=(s05.trans s6).kb kb7 hL0
       have th7:N3 H7 (L::zs):=(thz.keep s07).cons h7L
       refine ⟨_,rfl,xl,bs,x.2,L::zs,rfl,(O6 g4).2,g5,th7,by omega,fun r hr=>lr2 r (b2 r hr),fun o ps H8 ho s8 h8o atp=> ?_⟩
       have noL:o≠L:=(g6 h7L ho).symm
       have cx8:L3 (J1 H8 (L::zs)) t x:=L3.keep ⟨c,xl,cs,bs,g1,g2,g3,g4,g5⟩ (C9 s8)
       have lenP:=atp.1
       refine ⟨o,rfl,⟨_,g9.of h8o⟩,A8 (K:=K) (a:=o) (xs:=ps.map V.ref) (fun k σ H9=>∃(us:List Addr) (v7 v8:Option V),σ=[some (.ref l),some (.int (part:Int)),some (.ref F),some (.int (1+(i:Int))),some (.ref L),some (.ref c),some (.ref xl),v7,v8]∧H9 L=some (.lst (us.map V.ref))∧E7 (L3 (J1 H9 (L::zs))) us (((q9 (r0::rs') i).take j).flatMap nxC++(nxC x).take k)∧i8 L H8 H9)
         ⟨us,v7,v8,rfl,s8 _ _ h7L,by rw[dy3,dq6];exact atu.imp fun t x _ h=>h.keep (C9 s8),i8.refl _ _⟩ (fun k σ H9 _ ⟨_,_,_,_,_,_,kk⟩=>g9.of (kk _ _ h8o noL)) ?_ ?_⟩
       · rintro k y σ H9 hk ⟨us,v7,v8,rfl,h9L,at9,kb9⟩
         obtain ⟨t',ht',rfl⟩:∃t,ps[k]? =some t∧y=V.ref t:=by
           rw[do2] at hk
           cases e:ps[k]? with
           |none=>rw[e] at hk;cases hk
           |some a=>rw[e] at hk;exact ⟨a,rfl,(Option.some.inj hk).symm⟩
         obtain ⟨y,hy,py⟩:=atp.get ht'
         obtain ⟨pa,pl,pas,q1,q2,q3,q4⟩:=(py.keep (S1 (do4 _ do3) kb9)).keep bo9
         obtain ⟨c',xl',cs',bs',f1,f2,f3,f4,f5⟩:=cx8.keep (S1 do3 kb9)
         have s79:=s8
         have e1:=(O6 f1).2
         have hc9:H9 c=some (.lst (cs.map V.ref)):=(O6 ((S1 do3 kb9) _ _ (C9 s8 _ _ g2))).2
         have g3':k7 (J1 H9 (L::zs)) cs x.1:=p6 g3 fun b _ u e=>(S1 do3 kb9) _ _ (C9 s8 _ _ e)
         have lcs:cs.length≤40:=by rw[g3.1,b3];omega
         have th9:N3 H9 (L::zs):=fun z hz=>by
           rcases dp7.mp hz with rfl|hz
           · exact ⟨_,h9L⟩
           · by_cases e:z=L
             · rw[e];exact ⟨_,h9L⟩
             · obtain ⟨u,hu⟩:=(th7.keep s8) z (do4 _ hz)
               exact ⟨u,kb9 _ _ hu e⟩
         have hnx:(nxC x)[k]? =some (x.1++[y.1],y.2):=by
           unfold nxC
           rw[do2,hy];rfl
         have lus:us.length≤2000:=by
           rw[at9.1]
           refine dp4 ?_ few1
           show _≤((q9 (r0::rs') i).flatMap nxC).length
           have ex:q9 (r0::rs') i=(q9 (r0::rs') i).take j++x::(q9 (r0::rs') i).drop (j+1):=by
             have jl:=(do0.mp hx).1
             have e3:=(do0.mp hx).2
             rw[←e3,←du4 jl,dt6]
           have e4:=congrArg (fun z=>(z.flatMap nxC).length) ex
           simp only[dw4,ds9,do6] at e4
           rw[e4,do6,dp5]
           omega
         refine ⟨t',_,rfl,Q6.of (O6 q1).2,rfl,_,_,rfl,_,_,rfl,rfl,?_⟩
         refine ⟨_,rfl,.inl ⟨rfl,_,g9.of h9L⟩,_,rfl,_,rfl,(show 1≤sizeLine by decide),fun e he=> ?_⟩
         have s10:e8 H9 (c9 H9 e (.lst [V.ref pa])):=e8.upd_new he
         have h10e:(c9 H9 e (.lst [V.ref pa])) e=some (.lst [V.ref pa]):=c8
         generalize (c9 H9 e (.lst [V.ref pa]))=H10 at s10 h10e ⊢
         refine ⟨c,e,_,_,rfl,rfl,s10 _ _ hc9,h10e,du2 (p9 (by simp only[dn8,ee0];omega)),fun d hd=> ?_⟩
         rw[show cs.map V.ref++[V.ref pa]=(cs++[pa]).map V.ref by rw[do8];rfl]
         have s11:e8 H10 (c9 H10 d (.lst ((cs++[pa]).map V.ref))):=e8.upd_new hd
         have h11d:(c9 H10 d (.lst ((cs++[pa]).map V.ref))) d=some (.lst ((cs++[pa]).map V.ref)):=c8
         generalize (c9 H10 d (.lst ((cs++[pa]).map V.ref)))=H11 at s11 h11d ⊢
         refine ⟨_,rfl,(show 2≤sizeLine by decide),fun t2 ht2=> ?_⟩
         have s12:e8 H11 (c9 H11 t2 (.tup [.ref d,.ref pl])):=e8.upd_new ht2
         have h12t:(c9 H11 t2 (.tup [.ref d,.ref pl])) t2=some (.tup [.ref d,.ref pl]):=c8
         generalize (c9 H11 t2 (.tup [.ref d,.ref pl]))=H12 at s12 h12t ⊢
         have s911:=s10.trans s11
         have s912:=s911.trans s12
         have nd:d∉L::zs:=(th9.keep s10).out hd
         have nt2:t2∉L::zs:=(th9.keep s911).out ht2
         refine ⟨L,_,_,rfl,rfl,s912 _ _ h9L,ds2 (show _≤2000 by rw[dn8];omega) (by decide),?_⟩
         rw[show us.map V.ref++[V.ref t2]=(us++[t2]).map V.ref by rw[do8];rfl]
         refine ⟨us++[t2],_,_,rfl,c8,?_,(kb9.trans (s912.but L)).upd_a⟩
         rw[bb6 do3,i9 hnx,←dq4]
         refine E7.snoc (at9.imp fun t x _ h=>h.keep (C9 s912)) ?_
         refine ⟨d,pl,cs++[pa],pas,by rw[J5 nt2];exact h12t,by rw[J5 nd];exact s12 _ _ h11d,?_,C9 s912 _ _ q3,p6 q4 fun b _ u e=>C9 s912 _ _ e⟩
         exact L8 (p6 g3' fun b _ u e=>C9 s912 _ _ e) (C9 s912 _ _ q2)
       · rintro σ H9 ⟨us,v7,v8,rfl,h9L,at9,kb9⟩
         refine ⟨us,_,_,v7,v8,rfl,h9L,?_,kb7.trans ((s8.but L).trans kb9)⟩
         rw[i9 hx,dw4,ds9,dy1,dq6]
         rw[dn8,lenP,show (D0 x.2 x.2.length).length=(nxC x).length by unfold nxC;rw[dn8],dq8] at at9
         exact at9
     · rintro σ H7 ⟨us,v5,v6,v7,v8,rfl,h7L,atu,kb7⟩
       rw[dn8,ats.1,dq8] at atu
       exact ⟨_,rfl,L,us,_,_,_,_,_,_,rfl,h7L,atu.imp fun t x _ h=>h.keep bo9,(s05.trans s6).kb kb7 hL0,hL0⟩
   · rintro σ H5 ⟨F,ts,v3,v4,v5,v6,v7,v8,rfl,h5F,ats,s05,hF⟩
     exact ⟨_,rfl,q F ts H5 hF s05 h5F ats⟩
end
end My
namespace My
open PySem L2 Mth
section
variable {P:Program} {w:World} {K:PySem.W.Frag} {mg:Str→Option Value} {base:Heap}
def L4 (es:List (Int×Int)):List (o4×V):=es.map fun e=>((Sum.inl e.1:o4),V.int e.2)
def C7 (rs:List Int):List (Int×Int):=(ds0 rs.length).map fun j=>(rs.getD j 0,rs.getD ((j+1)%rs.length) 0)
theorem cw4 {es:List (Int×Int)}{k v:Int}(h:k∉es.map (·.1)):R5 (L4 es) (Sum.inl k:o4) (.int v)=L4 (es++[(k,v)]):=by
 have ki:KI (L4 es) (es.map (·.1)):=by unfold KI L4;rw[ds7,ds7];rfl
 rw[ar3 _ (ct6 ki h)]
 unfold L4
 rw[do8]
 rfl
def ap3:Sp:=fun vs H Q _=>∃(d r:Addr) (es:List (Int×Int)) (rs:List Int),vs=[.ref d,.ref r,.int 1]∧H d=some (.dK (L4 es))∧H r=some (.lst (rs.map V.int))∧rs.Nodup∧(∀x∈rs,x∉es.map (·.1))∧es.length≤400∧rs.length≤400∧∀(H':Hp),H' d=some (.dK (L4 (es++C7 rs)))→i8 d H H'→Q .non H'
theorem X4:l8 ["target","ring","steps","place","thing"] ["target","ring","steps"] (i7 O4):=⟨rfl,rfl,rfl,by decide+kernel,rfl,by decide+kernel,by decide+kernel⟩
theorem bh1 {f:Addr}{fd:FuncData}(F:A2 K "send_along" "send_along" O4 f fd)(B:Bl mg):o8 P w K mg base A0 1 f fd ["target","ring","steps"] ap3:=by
 refine F.ok X4 (fun vs H Q E h=> ?_) (fun cdv A outer s H vs Q E hr h=> ?_)
 · obtain ⟨d,r,es,rs,rfl,hd,hrr,nd,dis,le,lr,q⟩:=h
   rfl
 · obtain ⟨d,r,es,rs,rfl,hd,hrr,nd,dis,le,lr,q⟩:=h
   have hu:=S8 hr
   refine ⟨_,@e7 _ _ _ (@o6 _ _ _ _ _ _ _ _ PassesOwn.never rfl (@ae5 _ _ _ _ _ _ _ _ B.enum (@c5 _ _ _ _ _ (pv 1) (@c6 _) (by rfl)) (by rfl) (by rfl)) (@S6 _ _ _ _ _ _ rfl (@A1 _ _ _ _ _ (@j5 _ _ (3) _ X4.nd rfl (Or.inl rfl) (by first|exact .inl rfl|exact .inr rfl|assumption)) (@A1 _ _ _ _ _ (@j5 _ _ (4) _ X4.nd rfl (Or.inl rfl) (by first|exact .inl rfl|exact .inr rfl|assumption)) (@O9 _) (by rfl)) (by rfl)) (by rfl) (by rfl)) (@e7 _ _ _ (@az7 _ _ _ _ _ _ _ _ _ hu (pv 0) (pv 4) (@G3 _ _ _ _ _ _ _ C0 (pv 1) (@l7 _ _ _ _ _ _ _ _ B6 (@l7 _ _ _ _ _ _ _ _ G2 (pv 3) (pv 2)) (@t8 _ _ _ _ _ B.len (@c5 _ _ _ _ _ (pv 1) (@c6 _) (by rfl)) (by rfl) (by rfl))) (fun _ _=>rfl)) rfl)) (by intro _;rfl)),?_⟩
   have nrd:r≠d:=fun z=>by rw[z,hd] at hrr;cases hrr
   refine ⟨_,rfl,r,rfl,⟨_,g9.of hrr⟩,Z4 (K:=K) (a:=r) (xs:=rs.map V.int) (fun i σ H2=>∃(v3 v4:Option V),σ=[some (.ref d),some (.ref r),some (.int 1),v3,v4]∧H2 d=some (.dK (L4 (es++(C7 rs).take i)))∧i8 d H H2)
     ⟨none,none,rfl,by rw[dy3,dq6];exact hd,i8.refl _ _⟩ (fun i σ H2 _ ⟨_,_,_,_,k⟩=>g9.of (k _ _ hrr nrd)) ?_ ?_⟩
   · rintro i y σ H2 tt hi ⟨v3,v4,rfl,h2d,kb⟩ htt
     obtain ⟨z,hz,rfl⟩:=K4 hi
     have hil:i < rs.length:=(do0.mp hz).1
     have h2r:=kb r _ hrr nrd
     have s3:e8 H2 (c9 H2 tt (.tup [.int (i:Int),.int z])):=e8.upd_new htt
     have h3t:(c9 H2 tt (.tup [.int (i:Int),.int z])) tt=some (.tup [.int (i:Int),.int z]):=c8
     generalize (c9 H2 tt (.tup [.int (i:Int),.int z]))=H3 at s3 h3t ⊢
     refine ⟨tt,_,rfl,Q6.of h3t,rfl,_,_,rfl,_,_,rfl,rfl,?_⟩
     have h3r:=s3 _ _ h2r
     have em:((i:Int)+1)%(rs.length:Int)=(((i+1)%rs.length:Nat):Int):=by rw[dv0];rfl
     have ml:(i+1)%rs.length < rs.length:=dv6 _ (by omega)
     refine ⟨_,rfl,_,rfl,_,rfl,_,_,rfl,rfl,_,rfl,r,_,rfl,.inl (g9.of h3r),_,_,rfl,rfl,by rw[dn8];omega,r,_,_,_,rfl,rfl,g9.of h3r,(show atI _ _=some (.int (rs.getD ((i+1)%rs.length) 0)) from ?_),?_⟩
     · rw[dn8,em]
       refine J2 ?_
       rw[do2,dn9 ml,do5,dn9 ml]
       rfl
     have lse:(C7 rs).length=rs.length:=by unfold C7;rw[dn8,dr0]
     have hse:(C7 rs)[i]? =some (z,rs.getD ((i+1)%rs.length) 0):=by
       unfold C7
       rw[do2,ds1 hil]
       show some (rs.getD i 0,rs.getD ((i+1)%rs.length) 0)=_
       rw[show rs.getD i 0=z by rw[do5,hz];rfl]
     have nz:z∉(es++(C7 rs).take i).map (·.1):=by
       rw[do8]
       intro hz2
       rcases dp3.mp hz2 with w|w
       · exact dis z (dp0 hz) w
       · obtain ⟨e,he,ee⟩:=do9.mp w
         obtain ⟨j,hj⟩:=dq9.mp he
         rw[ed2] at hj
         by_cases c:j < i
         · rw[if_pos c] at hj
           unfold C7 at hj
           rw[do2,ds1 (by omega)] at hj
           cases hj
           have e2:rs[j]? =some z:=by
             rw[dn9 (by omega)]
             have ee:rs.getD j 0=z:=ee
             rw[do5,dn9 (by omega)] at ee
             exact congrArg some ee
           have:=P1 nd (i:=j) (j:=i) (by omega) hil (by omega)
           rw[do5,do5,e2,hz] at this
           exact this rfl
         · rw[if_neg c] at hj;cases hj
     have lk:(L4 (es++(C7 rs).take i)).length≤900:=by
       unfold L4
       rw[dn8,do6,dp5,lse]
       omega
     refine ⟨_,rfl,_,rfl,d,_,rfl,ar4.k (k:=Sum.inl z) (s3 _ _ h2d) (p9 (by omega)),?_⟩
     rw[cw4 nz]
     refine ⟨_,_,rfl,?_,(kb.trans (s3.but d)).upd_a⟩
     rw[c8,i9 hse,←dq4]
   · rintro σ H2 ⟨v3,v4,rfl,h2d,kb⟩
     have lse:(C7 rs).length=rs.length:=by unfold C7;rw[dn8,dr0]
     rw[dn8,←lse,dq8] at h2d
     exact q H2 h2d kb
end
end My
namespace My
open PySem L2 Mth
section
theorem bp1 (r:List Int)(b:Nat):(r.drop b++r.take b).Perm r:=dv7.trans (by rw[dt6])
theorem bf8 {rs:List (List Int)}:∀(i:Nat) {y:List Int×List (List Int)},i≤rs.length→y∈D0 rs i→(y.1++y.2.flatten).Perm rs.flatten∧y.2.length+1=rs.length∧∃r∈rs,y.1.Perm r
 |0,y,_,h=>by cases h
 |i+1,y,hi,h=>by
  rcases dp3.mp h with z|z
  · exact bf8 i (by omega) z
  · obtain ⟨b,_,rfl⟩:=do9.mp z
    have il:i < rs.length:=by omega
    have eg:rs.getD i []=rs[i]:=by rw[do5,dn9 il];rfl
    refine ⟨?_,?_,rs[i],dr9 _,?_⟩
    · show (((rs.getD i []).drop b++(rs.getD i []).take b)++(rs.take i++rs.drop (i+1)).flatten).Perm rs.flatten
      have e:rs.flatten=(rs.take i).flatten++(rs[i]++(rs.drop (i+1)).flatten):=by
        rw[←dq1,←ds4,←du4 il,dt6]
      rw[e,eg,ds4]
      refine ((bp1 _ b).append_right _).trans ?_
      rw[←dq4,←dq4]
      exact dv7.append_right _
    · show (rs.take i++rs.drop (i+1)).length+1=_
      rw[do6,dp5,dr2]
      omega
    · show ((rs.getD i []).drop b++(rs.getD i []).take b).Perm _
      rw[eg]
      exact bp1 _ b
structure cw5 (l:Nat)(rs:List (List Int))(k:Nat)(x:List (List Int)×List (List Int)):Prop where
 perm:(x.1.flatten++x.2.flatten).Perm rs.flatten
 len:x.1.length=k+1
 left:x.2.length+(k+1)=rs.length
 rows:∀r∈x.1,r.length=l
 rows2:∀r∈x.2,r∈rs
theorem E1 {l:Nat}{rs:List (List Int)}(hl:∀r∈rs,r.length=l):∀(k:Nat) {x:List (List Int)×List (List Int)},k < rs.length→x∈q9 rs k→cw5 l rs k x
 |0,x,hk,h=>by
  rw[dp1.mp h]
  cases rs with
  |nil=>simp at hk
  |cons r rs=>
   refine ⟨?_,rfl,rfl,fun r' hr=> ?_,fun r' hr=>do4 _ hr⟩
   · show ([r].flatten++rs.flatten).Perm (r::rs).flatten
     simp
   · rw[dp1.mp hr];exact hl r do3
 |k+1,x,hk,h=>by
  obtain ⟨x',h',z⟩:=dt9.mp h
  obtain ⟨y,hy,rfl⟩:=do9.mp z
  have o:=E1 hl k (by omega) h'
  obtain ⟨p1,p2,r,hr,p3⟩:=bf8 _ (do1 _) hy
  refine ⟨?_,?_,?_,fun r' hr'=> ?_,fun r' hr'=>o.rows2 r' ((at2 _ hy).2 r' hr')⟩
  · show ((x'.1++[y.1]).flatten++y.2.flatten).Perm _
    rw[ds4,du7,dq4]
    exact (p1.append_left _).trans o.perm
  · show (x'.1++[y.1]).length=_
    rw[do6,o.len];rfl
  · show y.2.length+(k+1+1)=_
    have:=o.left
    omega
  · rcases dp3.mp hr' with w|w
    · exact o.rows r' w
    · rw[dp1.mp w,p3.length_eq]
      exact hl r (o.rows2 r hr)
theorem bf9 {l:Nat}{rs:List (List Int)}(hl:∀r∈rs,r.length=l):∀i,i≤rs.length→(D0 rs i).length=i*l
 |0,_=>by rw[dz9];rfl
 |i+1,hi=>by
  show (D0 rs i++W0 rs i (rs.getD i [])).length=_
  rw[do6,bf9 hl i (by omega)]
  unfold W0
  rw[dn8,dr0,do5,dn9 (show i < rs.length by omega)]
  show i*l+(rs[i]).length=_
  rw[hl _ (dr9 _),dz7,ei7]
theorem aa8 {α β:Type}{f:α→List β}{c:Nat}:∀{xs:List α},(∀x∈xs,(f x).length=c)→(xs.flatMap f).length=xs.length*c
 |[],_=>by rw[ec6,dz9];rfl
 |x::xs,h=>by
  rw[ds9,do6,h x do3,aa8 fun y hy=>h y (do4 _ hy),dr8,dz7,ei7,dv9]
theorem aj4 {l:Nat}{rs:List (List Int)}(hl:∀r∈rs,r.length=l):∀k,k < rs.length→(q9 rs k).length=t9 rs.length l k
 |0,_=>rfl
 |k+1,hk=>by
  show ((q9 rs k).flatMap nxC).length=t9 rs.length l k*(rs.length - (k+1))*l
  rw[aa8 (c:=(rs.length - (k+1))*l) fun x hx=> ?_,aj4 hl k (by omega),dw3]
  have o:=E1 hl k (by omega) hx
  unfold nxC
  rw[dn8,bf9 (fun r hr=>hl r (o.rows2 r hr)) _ (do1 _)]
  have:=o.left
  rw[show x.2.length=rs.length - (k+1) by omega]
open Classical in
noncomputable def B9 (l m:Nat)(Rs:List (List Int)):List Int:=if h:∃J,C5 l (m/Rs.length) Rs J then Classical.choose h else []
theorem at3 {l m k:Nat}{Rs:List (List Int)}{J:List Int}(l0:0 < l)(r0:1≤Rs.length)(em:m=Rs.length*k)(c:dp8 l k=1)(h:C5 l k Rs J):B9 l m Rs=J:=by
 have ek:m/Rs.length=k:=by rw[em];exact dv4 k r0
 have ex:∃J,C5 l (m/Rs.length) Rs J:=⟨J,by rw[ek];exact h⟩
 unfold B9
 rw[dif_pos ex]
 exact C5.uniq l0 (by rw[ek];exact c) (Classical.choose_spec ex) (by rw[ek];exact h)
noncomputable def M5 (l m:Nat)(w:List (List (List Int))):List (Int×Int):=w.flatMap fun c=>C7 (B9 l m c)
theorem bp2 (l m:Nat)(w:List (List (List Int)))(c:List (List Int)):M5 l m (w++[c])=M5 l m w++C7 (B9 l m c):=by
 unfold M5
 rw[dw4,ds9,dy1,dq6]
def P8 (f:List (List Int)→List (List (List (List Int))))(rs:List (List Int))(d:Nat):List (List (List (List Int))):=if d≤rs.length then (q9 rs (d - 1)).flatMap fun x=>(f x.2).map fun w=>w++[x.1] else []
def A4 (ds:List Nat):Nat→List (List Int)→List (List (List (List Int)))
 |0,_=>[[]]
 |f+1,rs=>if rs.length=0 then [[]] else ds.flatMap (P8 (A4 ds f) rs)
theorem aj5 (J:List Int):(C7 J).map (·.1)=J:=by
 unfold C7
 rw[ds7]
 refine dr3 fun i=> ?_
 rw[do2]
 by_cases h:i < J.length
 · rw[ds1 h,dn9 h]
   show some (J.getD i 0)=_
   rw[do5,dn9 h];rfl
 · rw[do7 (by rw[dr0];omega),do7 (by omega)];rfl
def L5 (l m d:Nat):Prop:=1≤d∧dp8 (d*l) m=d
theorem L5.parts {l m d:Nat}(h:L5 l m d)(m1:1≤m):∃k,m=d*k∧dp8 l k=1:=by
 obtain ⟨d1,e⟩:=h
 have dm:d∣m:=by
   have:=dy5 (d*l) m
   rw[e] at this;exact this
 obtain ⟨k,rfl⟩:=dm
 refine ⟨k,rfl,?_⟩
 rw[eh5] at e
 have:d*dp8 l k=d*1:=by rw[e,ee4]
 exact dy0 d1 this
theorem co9 {l m:Nat}{Rs:List (List Int)}(l0:0 < l)(m1:1≤m)(h:L5 l m Rs.length){J:List Int}{k:Nat}(ek:m=Rs.length*k)(j:C5 l k Rs J):B9 l m Rs=J∧J.Perm Rs.flatten:=by
 obtain ⟨k',e1,e2⟩:=h.parts m1
 have:k'=k:=dy0 h.1 (by rw[←e1,←ek])
 subst this
 exact ⟨at3 l0 h.1 ek e2 j,j.perm l0 e2⟩
structure di0 (l m:Nat)(ds:List Nat)(rs:List (List Int))(w:List (List (List Int))):Prop where
 perm:(w.map ec1).flatten.Perm rs.flatten
 right:∀c∈w,c.length∈ds∧∀r∈c,r.length=l
theorem ay2 {l m:Nat}{ds:List Nat}(hd:∀d∈ds,1≤d):∀(f:Nat) {rs:List (List Int)} {w:List (List (List Int))},rs.length≤f→(∀r∈rs,r.length=l)→w∈A4 ds f rs→di0 l m ds rs w
 |0,rs,w,hf,hl,h=>by
  have e:rs=[]:=dx2.mp (by omega)
  rw[dp1.mp h,e]
  exact ⟨List.Perm.refl _,fun c hc=>by cases hc⟩
 |f+1,rs,w,hf,hl,h=>by
  unfold A4 at h
  by_cases c:rs.length=0
  · rw[if_pos c] at h
    have e:rs=[]:=dx2.mp c
    rw[dp1.mp h,e]
    exact ⟨List.Perm.refl _,fun c hc=>by cases hc⟩
  · rw[if_neg c] at h
    obtain ⟨d,hdm,h⟩:=dt9.mp h
    unfold P8 at h
    by_cases c2:d≤rs.length
    · rw[if_pos c2] at h
      obtain ⟨x,hx,h⟩:=dt9.mp h
      obtain ⟨w',hw',rfl⟩:=do9.mp h
      have d1:=hd d hdm
      have o:=E1 hl (d - 1) (by omega) hx
      have i:=ay2 (m:=m) hd f (rs:=x.2) (w:=w') (by have:=o.left;omega) (fun r hr=>hl r (o.rows2 r hr)) hw'
      refine ⟨?_,fun c hc=> ?_⟩
      · rw[do8,ds4]
        show ((w'.map ec1).flatten++[x.1.flatten].flatten).Perm _
        rw[du7]
        exact (dv7.trans (i.perm.append_left _)).trans o.perm
      · rcases dp3.mp hc with z|z
        · exact i.right c z
        · rw[dp1.mp z]
          exact ⟨by rw[o.len,dz4 d1];exact hdm,o.rows⟩
    · rw[if_neg c2] at h;cases h
end
end My
namespace My
open PySem L2 Mth
section
variable {P:Program} {w:World} {K:PySem.W.Frag} {mg:Str→Option Value} {base:Heap}
def Few (ds:List Nat):Nat→List (List Int)→Prop
 |0,_=>True
 |f+1,rs=>(∀d∈ds,d≤rs.length→(∀k,k < d→(q9 rs k).length≤2000)∧∀x∈q9 rs (d - 1),Few ds f x.2)∧(A4 ds (f+1) rs).length≤2000
def ap4 (l m:Nat)(H:Hp)(u:Addr)(w:List (List (List Int))):Prop:=H u=some (.dK (L4 (M5 l m w)))
def an1 (f:Nat):Sp:=fun vs H Q _=>∃(l:Addr) (as:List Addr) (rs:List (List Int)) (ra:Addr) (ds:List Nat) (len m:Nat),vs=[.ref l,.ref ra,.int (m:Int)]∧H l=some (.lst (as.map V.ref))∧k7 H as rs∧H ra=some (.lst ((C6 ds).map V.int))∧rs.length≤f∧(∀r∈rs,r.length=len)∧0 < len∧rs.length*len≤40∧rs.flatten.Nodup∧1≤m∧(∀d∈ds,L5 len m d)∧Few ds f rs∧
 ∀(o:Addr) (us:List Addr) (H':Hp),H o=none→e8 H H'→H' o=some (.lst (us.map V.ref))→us.Nodup→(∀u∈us,H u=none)→E7 (ap4 len m H') us (A4 ds f rs)→Q (.ref o) H'
theorem O7 {l:Nat}{rs:List (List Int)}(h:∀r∈rs,r.length=l):rs.flatten.length=rs.length*l:=by
 rw[show rs.flatten=rs.flatMap id by rw[List.flatMap_id]]
 exact aa8 h
theorem bg0 {l m:Nat}{c:List (List Int)}(l0:0 < l)(m1:1≤m)(h:L5 l m c.length):(∀x∈B9 l m c,x∈c.flatten)∧(B9 l m c).length≤c.flatten.length:=by
 unfold B9
 by_cases ex:∃J,C5 l (m/c.length) c J
 · rw[dif_pos ex]
   obtain ⟨k,e1,e2⟩:=h.parts m1
   have ek:m/c.length=k:=by rw[e1];exact dv4 k h.1
   have pm:=(Classical.choose_spec ex).perm l0 (by rw[ek];exact e2)
   exact ⟨fun x hx=>pm.mem_iff.mp hx,eb9 pm.length_eq⟩
 · rw[dif_neg ex]
   exact ⟨(fun x hx=>by cases hx),dq3 _⟩
theorem aa9 {l m:Nat}(l0:0 < l)(m1:1≤m):∀(w:List (List (List Int))),(∀c∈w,L5 l m c.length)→(∀x∈(M5 l m w).map (·.1),x∈(w.map ec1).flatten)∧(M5 l m w).length≤(w.map ec1).flatten.length
 |[],_=>⟨(fun x hx=>by cases hx),do1 _⟩
 |c::w,h=>by
  obtain ⟨a,b⟩:=aa9 l0 m1 w fun c hc=>h c (do4 _ hc)
  obtain ⟨a2,b2⟩:=bg0 l0 m1 (h c do3)
  have e:M5 l m (c::w)=C7 (B9 l m c)++M5 l m w:=by unfold M5;rw[ds9]
  rw[e,dr7,dq1,do8,aj5,do6,do6]
  refine ⟨fun x hx=> ?_,?_⟩
  · rcases dp3.mp hx with z|z
    · exact dt5 _ (a2 x z)
    · exact dq5 _ (a x z)
  · have:(C7 (B9 l m c)).length=(B9 l m c).length:=by unfold C7;rw[dn8,dr0]
    omega
theorem bb8 {α β:Type}{f:α→List β}{xs:List α}{i:Nat}{x:α}(h:xs[i]? =some x):((xs.take i).flatMap f).length+(f x).length≤(xs.flatMap f).length:=by
 have jl:=(do0.mp h).1
 have e3:=(do0.mp h).2
 have ex:xs=xs.take i++x::xs.drop (i+1):=by rw[←e3,←du4 jl,dt6]
 have e4:=congrArg (fun z=>(z.flatMap f).length) ex
 simp only[dw4,ds9,do6] at e4
 omega
theorem bw4 {H:Hp}{e l:Addr}(he:H e=none)(hl:(c9 H e (.dK [])) l=none)(len m:Nat):H l=none∧e8 H (c9 (c9 H e (.dK [])) l (.lst [V.ref e]))∧E7 (ap4 len m (c9 (c9 H e (.dK [])) l (.lst [V.ref e]))) [e] [[]]:=by
 have n:l≠e:=fun z=>by rw[z,c8] at hl;cases hl
 have hl0:H l=none:=by rw[g8 n] at hl;exact hl
 refine ⟨hl0,(e8.upd_new he).upd_r hl0,rfl,fun j t x e1 e2=> ?_⟩
 rcases j with _|j
 · cases e1;cases e2
   show (c9 (c9 H e (.dK [])) l (.lst [V.ref e])) e=_
   rw[g8 n.symm,c8];rfl
 · cases e1
theorem p7:l8 ["rings","right","m","ways","part","chain","left","joined","way"] ["rings","right","m"] (i7 P5):=⟨rfl,rfl,rfl,by decide+kernel,rfl,by decide+kernel,by decide+kernel⟩
theorem ay3 {f:Addr}{fd:FuncData}(F:A2 K "ways_to_join" "ways_to_join" P5 f fd)(B:Bl mg)(c_chains_of:j7 P w K mg base "chains_of" 2 ["rings","part"] aj3)(c_join_rings:j7 P w K mg base "join_rings" 1 ["rings","m"] am5)(c_send_along:j7 P w K mg base "send_along" 1 ["target","ring","steps"] (bl7 af5 ap3)):o8 P w K mg base A0 3 f fd ["rings","right","m"] (an1 0):=by
 refine F.ok p7 (fun vs H Q E h=> ?_) (fun cdv A outer s H vs Q E hr h=> ?_)
 · obtain ⟨l,as,rs,ra,ds,len,m,rfl,hl,rows,hra,lf,hlen,len0,l40,nd,m1,rt,few,q⟩:=h
   rfl
 · obtain ⟨l,as,rs,ra,ds,len,m,rfl,hl,rows,hra,lf,hlen,len0,l40,nd,m1,rt,few,q⟩:=h
   have hr_chains_of:m7 2 _:=hr.mono (by decide)
   have hr_join_rings:m7 1 _:=hr.mono (by decide)
   have hr_send_along:m7 1 _:=hr.mono (by decide)
   refine ⟨_,@c7 _ _ _ _ _ (@x9 _ _ _ _ _ _ _ _ (@m9 _ _ _ _ _ _ _ _ X7 (@t8 _ _ _ _ _ B.len (@c5 _ _ _ _ _ (pv 0) (@c6 _) (by rfl)) (by rfl) (by rfl)) (@i6 _ _ _ _) (o9 _)) (@e7 _ _ _ (@l6 _ _ _ _ (@w4 _ _ _ _ (@c5 _ _ _ _ _ (@Z2 _ _) (@c6 _) (by rfl))))) (@p8 _)) (@c7 _ _ _ _ _ (@i4 _ _ (3) _ _ _ _ p7.nd rfl (Or.inl rfl) (@w4 _ _ _ _ (@c6 _)) (by rfl) (by first|exact .inl rfl|exact .inr rfl|assumption)) (@c7 _ _ _ _ _ (@o6 _ _ _ _ _ _ _ _ PassesOwn.never rfl (@w9 _ _ _ _ (pv 1)) (@j5 _ _ (4) _ p7.nd rfl (Or.inl rfl) (by first|exact .inl rfl|exact .inr rfl|assumption)) (@e7 _ _ _ (@x9 _ _ _ _ _ _ _ _ (@m9 _ _ _ _ _ _ _ _ by3 (pv 4) (@t8 _ _ _ _ _ B.len (@c5 _ _ _ _ _ (pv 0) (@c6 _) (by rfl)) (by rfl) (by rfl)) (o9 _)) (@e7 _ _ _ (@o6 _ _ _ _ _ _ _ _ PassesOwn.never rfl (@w9 _ _ _ _ (@h8 _ _ _ _ _ _ _ _ _ _ c_chains_of hr_chains_of (@c5 _ _ _ _ _ (pv 0) (@c5 _ _ _ _ _ (pv 4) (@c6 _) (by rfl)) (by rfl)) (by rfl) (by decide) (by rfl) (by rfl))) (@S6 _ _ _ _ _ _ rfl (@A1 _ _ _ _ _ (@j5 _ _ (5) _ p7.nd rfl (Or.inl rfl) (by first|exact .inl rfl|exact .inr rfl|assumption)) (@A1 _ _ _ _ _ (@j5 _ _ (6) _ p7.nd rfl (Or.inl rfl) (by first|exact .inl rfl|exact .inr rfl|assumption)) (@O9 _) (by rfl)) (by rfl)) (by rfl) (by rfl)) (@c7 _ _ _ _ _ (@i4 _ _ (7) _ _ _ _ p7.nd rfl (Or.inl rfl) (@h8 _ _ _ _ _ _ _ _ _ _ c_join_rings hr_join_rings (@c5 _ _ _ _ _ (pv 5) (@c5 _ _ _ _ _ (pv 2) (@c6 _) (by rfl)) (by rfl)) (by rfl) (by decide) (by rfl) (by rfl)) (by rfl) (by first|exact .inl rfl|exact .inr rfl|assumption)) (@e7 _ _ _ (@o6 _ _ _ _ _ _ _ _ PassesOwn.never rfl (@w9 _ _ _ _ (@cm9 _ _)) (@j5 _ _ (8) _ p7.nd rfl (Or.inl rfl) (by first|exact .inl rfl|exact .inr rfl|assumption)) (@c7 _ _ _ _ _ (@o7 _ _ _ _ (@h8 _ _ _ _ _ _ _ _ _ _ c_send_along hr_send_along (@c5 _ _ _ _ _ (pv 8) (@c5 _ _ _ _ _ (pv 7) (@c5 _ _ _ _ _ (@i6 _ _ _ _) (@c6 _) (by rfl)) (by rfl)) (by rfl)) (by rfl) (by decide) (by rfl) (by rfl)) (by rfl)) (@e7 _ _ _ (@o7 _ _ _ _ (@E4 _ _ _ _ _ _ _ (pv 3) (@c5 _ _ _ _ _ (pv 8) (@c6 _) (by rfl)) (by rfl) (by rfl) (by rfl) (by rfl) (by rfl)) (by rfl)))) (by intro _;rfl)))) (by intro _;rfl))) (@p8 _))) (by intro _;rfl)) (@e7 _ _ _ (@l6 _ _ _ _ (pv 3))))),?_⟩
   refine ⟨_,rfl,l,_,rfl,.inl (g9.of hl),rfl,_,rfl,?_⟩
   rw[dn8,rows.1,show rs.length=0 by omega]
   refine W5 (fun _=> ?_) (fun h=>absurd (decide_eq_true rfl) h)
   refine fun e he=>⟨(show 1≤sizeLine by decide),fun o ho=> ?_⟩
   obtain ⟨a1,a2,a3⟩:=bw4 he ho len m
   exact q o [e] _ a1 a2 c8 (by simp) (fun b hb=>by rw[dp1.mp hb];exact he) a3
theorem g7 {d k:Nat}{f:Addr}{fd:FuncData}(F:A2 K "ways_to_join" "ways_to_join" P5 f fd)(B:Bl mg)(c_chains_of:j7 P w K mg base "chains_of" 2 ["rings","part"] aj3)(c_join_rings:j7 P w K mg base "join_rings" 1 ["rings","m"] am5)(c_ways_to_join:j7 P w K mg base "ways_to_join" (k+3) ["rings","right","m"] (an1 d))(c_send_along:j7 P w K mg base "send_along" 1 ["target","ring","steps"] (bl7 af5 ap3)):o8 P w K mg base A0 (k+3+1) f fd ["rings","right","m"] (an1 (d+1)):=by
 refine F.ok p7 (fun vs H Q E h=> ?_) (fun cdv A outer s H vs Q E hr h=> ?_)
 · obtain ⟨l,as,rs,ra,ds,len,m,rfl,hl,rows,hra,lf,hlen,len0,l40,nd,m1,rt,few,q⟩:=h
   rfl
 · obtain ⟨l,as,rs,ra,ds,len,m,rfl,hl,rows,hra,lf,hlen,len0,l40,nd,m1,rt,few,q⟩:=h
   have hr_chains_of:m7 2 _:=hr.mono (by omega)
   have hr_join_rings:m7 1 _:=hr.mono (by omega)
   have hr_ways_to_join:m7 (k+3) _:=hr.mono (by omega)
   have hr_send_along:m7 1 _:=hr.mono (by omega)
   refine ⟨_,@c7 _ _ _ _ _ (@x9 _ _ _ _ _ _ _ _ (@m9 _ _ _ _ _ _ _ _ X7 (@t8 _ _ _ _ _ B.len (@c5 _ _ _ _ _ (pv 0) (@c6 _) (by rfl)) (by rfl) (by rfl)) (@i6 _ _ _ _) (o9 _)) (@e7 _ _ _ (@l6 _ _ _ _ (@w4 _ _ _ _ (@c5 _ _ _ _ _ (@Z2 _ _) (@c6 _) (by rfl))))) (@p8 _)) (@c7 _ _ _ _ _ (@i4 _ _ (3) _ _ _ _ p7.nd rfl (Or.inl rfl) (@w4 _ _ _ _ (@c6 _)) (by rfl) (by first|exact .inl rfl|exact .inr rfl|assumption)) (@c7 _ _ _ _ _ (@o6 _ _ _ _ _ _ _ _ PassesOwn.never rfl (@w9 _ _ _ _ (pv 1)) (@j5 _ _ (4) _ p7.nd rfl (Or.inl rfl) (by first|exact .inl rfl|exact .inr rfl|assumption)) (@e7 _ _ _ (@x9 _ _ _ _ _ _ _ _ (@m9 _ _ _ _ _ _ _ _ by3 (pv 4) (@t8 _ _ _ _ _ B.len (@c5 _ _ _ _ _ (pv 0) (@c6 _) (by rfl)) (by rfl) (by rfl)) (o9 _)) (@e7 _ _ _ (@o6 _ _ _ _ _ _ _ _ PassesOwn.never rfl (@w9 _ _ _ _ (@h8 _ _ _ _ _ _ _ _ _ _ c_chains_of hr_chains_of (@c5 _ _ _ _ _ (pv 0) (@c5 _ _ _ _ _ (pv 4) (@c6 _) (by rfl)) (by rfl)) (by rfl) (by decide) (by rfl) (by rfl))) (@S6 _ _ _ _ _ _ rfl (@A1 _ _ _ _ _ (@j5 _ _ (5) _ p7.nd rfl (Or.inl rfl) (by first|exact .inl rfl|exact .inr rfl|assumption)) (@A1 _ _ _ _ _ (@j5 _ _ (6) _ p7.nd rfl (Or.inl rfl) (by first|exact .inl rfl|exact .inr rfl|assumption)) (@O9 _) (by rfl)) (by rfl)) (by rfl) (by rfl)) (@c7 _ _ _ _ _ (@i4 _ _ (7) _ _ _ _ p7.nd rfl (Or.inl rfl) (@h8 _ _ _ _ _ _ _ _ _ _ c_join_rings hr_join_rings (@c5 _ _ _ _ _ (pv 5) (@c5 _ _ _ _ _ (pv 2) (@c6 _) (by rfl)) (by rfl)) (by rfl) (by decide) (by rfl) (by rfl)) (by rfl) (by first|exact .inl rfl|exact .inr rfl|assumption)) (@e7 _ _ _ (@o6 _ _ _ _ _ _ _ _ PassesOwn.never rfl (@w9 _ _ _ _ (@h8 _ _ _ _ _ _ _ _ _ _ c_ways_to_join hr_ways_to_join (@c5 _ _ _ _ _ (pv 6) (@c5 _ _ _ _ _ (pv 1) (@c5 _ _ _ _ _ (pv 2) (@c6 _) (by rfl)) (by rfl)) (by rfl)) (by rfl) (by decide) (by rfl) (by rfl))) (@j5 _ _ (8) _ p7.nd rfl (Or.inl rfl) (by first|exact .inl rfl|exact .inr rfl|assumption)) (@c7 _ _ _ _ _ (@o7 _ _ _ _ (@h8 _ _ _ _ _ _ _ _ _ _ c_send_along hr_send_along (@c5 _ _ _ _ _ (pv 8) (@c5 _ _ _ _ _ (pv 7) (@c5 _ _ _ _ _ (@i6 _ _ _ _) (@c6 _) (by rfl)) (by rfl)) (by rfl)) (by rfl) (by decide) (by rfl) (by rfl)) (by rfl)) (@e7 _ _ _ (@o7 _ _ _ _ (@E4 _ _ _ _ _ _ _ (pv 3) (@c5 _ _ _ _ _ (pv 8) (@c6 _) (by rfl)) (by rfl) (by rfl) (by rfl) (by rfl) (by rfl)) (by rfl)))) (by intro _;rfl)))) (by intro _;rfl))) (@p8 _))) (by intro _;rfl)) (@e7 _ _ _ (@l6 _ _ _ _ (pv 3))))),?_⟩
   refine ⟨_,rfl,l,_,rfl,.inl (g9.of hl),rfl,_,rfl,?_⟩
   rw[dn8,rows.1]
   by_cases c0:rs.length=0
   · rw[c0]
     refine W5 (fun _=> ?_) (fun h=>absurd (decide_eq_true rfl) h)
     refine fun e he=>⟨(show 1≤sizeLine by decide),fun o ho=> ?_⟩
     obtain ⟨a1,a2,a3⟩:=bw4 he ho len m
     refine q o [e] _ a1 a2 c8 (by simp) (fun b hb=>by rw[dp1.mp hb];exact he) ?_
     unfold A4
     rw[if_pos c0]
     exact a3
   rw[decide_eq_false (fun z=>c0 (by have:=V.int.inj z;omega))]
   refine C8 ?_
   refine ⟨dq3 _,fun W hW=> ?_⟩
   have s1:e8 H (c9 H W (.lst [])):=e8.upd_new hW
   have h1W:(c9 H W (.lst [])) W=some (.lst (([]:List Addr).map V.ref)):=c8
   generalize (c9 H W (.lst []))=H1 at s1 h1W ⊢
   have nlW:l≠W:=g6 hl hW
   have nrW:ra≠W:=g6 hra hW
   have ewf:A4 ds (d+1) rs=ds.flatMap (P8 (A4 ds d) rs):=by
     show (if rs.length=0 then _ else _)=_
     rw[if_neg c0]
   obtain ⟨few1,few2⟩:=few
   rw[ewf] at few2
   have dsv:∀{i:Nat} {y:V},((C6 ds).map V.int)[i]? =some y→∃dd:Nat,ds[i]? =some dd∧y= .int (dd:Int):=fun {i y} h=>by
     unfold C6 at h
     rw[do2,do2] at h
     cases e:ds[i]? with
     |none=>rw[e] at h;cases h
     |some a=>rw[e] at h;cases h;exact ⟨a,rfl,rfl⟩
   refine ⟨_,rfl,ra,rfl,⟨_,g9.of (s1 _ _ hra)⟩,A8 (K:=K) (a:=ra) (xs:=(C6 ds).map V.int) (fun i σ H2=>∃(us:List Addr) (v4 v5 v6 v7 v8:Option V),σ=[some (.ref l),some (.ref ra),some (.int (m:Int)),some (.ref W),v4,v5,v6,v7,v8]∧H2 W=some (.lst (us.map V.ref))∧us.Nodup∧(∀u∈us,H u=none)∧E7 (ap4 len m H2) us ((ds.take i).flatMap (P8 (A4 ds d) rs))∧e8 H H2)
     ⟨[],none,none,none,none,none,rfl,h1W,dv8,(fun u hu=>by cases hu),E7.nil,s1⟩ (fun i σ H2 _ ⟨_,_,_,_,_,_,_,_,_,_,_,k⟩=>g9.of (k _ _ hra)) ?_ ?_⟩
   · rintro i y σ H2 hi ⟨us0,v4,v5,v6,v7,v8,rfl,h2W,und0,ufr0,atu0,s02⟩
     obtain ⟨dd,hdd,rfl⟩:=dsv hi
     have ddm:=dp0 hdd
     have rdd:=rt dd ddm
     refine ⟨_,rfl,_,rfl,l,_,rfl,.inl (g9.of (s02 _ _ hl)),_,_,rfl,rfl,_,rfl,?_⟩
     rw[dn8,rows.1]
     rw[i9 hdd,dw4,ds9,dy1,dq6]
     by_cases cd:dd≤rs.length
     · rw[decide_eq_true (show (dd:Int)≤(rs.length:Int) by omega)]
       have ewp:P8 (A4 ds d) rs dd=(q9 rs (dd - 1)).flatMap fun x=>(A4 ds d x.2).map fun w=>w++[x.1]:=if_pos cd
       have tot:=bb8 (f:=P8 (A4 ds d) rs) hdd
       rw[ewp] at tot ⊢
       obtain ⟨fewc,fewx⟩:=few1 dd ddm cd
       have r40:rs.length≤40:=dp4 (ds6 _ len0) l40
       have row40:∀r∈rs,r.length≤40:=fun r hr=>by
         rw[hlen r hr]
         exact dp4 (eb3 _ (by omega)) l40
       obtain ⟨kk,emk,gk⟩:=rdd.parts m1
       refine U4 ⟨_,rfl,_,rfl,l,as,rs,[W],dd,rfl,s02 _ _ hl,fun z=>nlW (dp1.mp z),p6 rows fun b _ u e=>by rw[J5 fun z=>(g6 e hW) (dp1.mp z)];exact s02 _ _ e,fun z hz=>by rw[dp1.mp hz];exact ⟨_,h2W⟩,by omega,r40,row40,rdd.1,by omega,fewc,fun F ts H3 hF s3 h3F atc=> ?_⟩
       have nFW:F≠W:=(g6 h2W hF).symm
       refine ⟨F,rfl,⟨_,g9.of h3F⟩,A8 (K:=K) (a:=F) (xs:=ts.map V.ref) (fun j σ H4=>∃(us:List Addr) (v5 v6 v7 v8:Option V),σ=[some (.ref l),some (.ref ra),some (.int (m:Int)),some (.ref W),some (.int (dd:Int)),v5,v6,v7,v8]∧H4 W=some (.lst (us.map V.ref))∧us.Nodup∧(∀u∈us,H u=none)∧E7 (ap4 len m H4) us ((ds.take i).flatMap (P8 (A4 ds d) rs)++((q9 rs (dd - 1)).take j).flatMap fun x=>(A4 ds d x.2).map fun w=>w++[x.1])∧i8 W H3 H4)
         ⟨us0,v5,v6,v7,v8,rfl,s3 _ _ h2W,und0,ufr0,by rw[dy3,dy1,dq6];exact atu0.imp fun u w _ h=>s3 _ _ h,i8.refl _ _⟩ (fun j σ H4 _ ⟨_,_,_,_,_,_,_,_,_,_,k⟩=>g9.of (k _ _ h3F nFW)) ?_ ?_⟩
       · rintro j y σ H4 hj ⟨us,v5,v6,v7,v8,rfl,h4W,und,ufr,atu,kb4⟩
         obtain ⟨t,ht,rfl⟩:∃t,ts[j]? =some t∧y=V.ref t:=by
           rw[do2] at hj
           cases e:ts[j]? with
           |none=>rw[e] at hj;cases hj
           |some a=>rw[e] at hj;exact ⟨a,rfl,(Option.some.inj hj).symm⟩
         obtain ⟨x,hx,cx⟩:=atc.get ht
         obtain ⟨c,xl,cs,bs,g1,g2,g3,g4,g5⟩:=(cx.keep (S1 do3 kb4)).keep (bo7 _ _)
         have xm:=dp0 hx
         have ok:=E1 hlen (dd - 1) (by have:=rdd.1;omega) xm
         have x1l:x.1.length=dd:=by rw[ok.len];have:=rdd.1;omega
         have fewr:=fewx x xm
         have s04:e8 H H4:=(s02.trans s3).kb kb4 hW
         refine ⟨t,_,rfl,Q6.of g1,rfl,_,_,rfl,_,_,rfl,rfl,?_⟩
         refine ⟨_,rfl,_,rfl,c,cs,x.1,len,kk,by rw[x1l,←emk];rfl,g2,g3,by have:=rdd.1;omega,ok.rows,len0,by rw[x1l];exact dp4 (du5 _ cd) l40,gk,fun jo J H5 hjo s5 h5J jis=> ?_⟩
         obtain ⟨ej,pj⟩:=co9 len0 m1 (by rw[x1l];exact rdd) (by rw[x1l];exact emk) jis
         have xnd:(x.1.flatten++x.2.flatten).Nodup:=ok.perm.nodup_iff.mpr nd
         rw[dt7] at xnd
         have rl2:∀r∈x.2,r.length=len:=fun r hr=>hlen r (ok.rows2 r hr)
         have x2l:x.2.length≤d∧x.2.length≤rs.length:=by have:=ok.left;have:=rdd.1;omega
         have x240:x.2.length*len≤40:=dp4 (du5 _ x2l.2) l40
         refine ⟨_,rfl,_,rfl,_,rfl,xl,bs,x.2,ra,ds,len,m,rfl,s5 _ _ g4,p6 g5 fun b _ u e=>s5 _ _ e,s5 _ _ (s04 _ _ hra),x2l.1,rl2,len0,x240,xnd.2.1,m1,rt,fewr,fun o vs H6 ho s6 h6o vnd vfr atv=> ?_⟩
         have n5W:=g6 h4W hjo
         have h5W:=s5 _ _ h4W
         have vno:∀u∈vs,H5 u=none:=vfr
         have jov:jo∉vs:=fun z=>by have:=vno jo z;rw[h5J] at this;cases this
         have Wv:W∉vs:=fun z=>by have:=vno W z;rw[h5W] at this;cases this
         have usv:∀u∈us,u∉vs:=fun u hu z=>by
           obtain ⟨jj,hjj⟩:=dq9.mp hu
           obtain ⟨w,_,hw⟩:=atu.get hjj
           have e:=vno u z
           rw[s5 _ _ hw] at e;cases e
         have ov:o∉vs:=fun z=>by
           obtain ⟨jj,hjj⟩:=dq9.mp z
           obtain ⟨w,_,hw⟩:=atv.get hjj
           have hw:H6 o=_:=hw
           rw[h6o] at hw;cases hw
         have noW:o≠W:=(g6 h5W ho).symm
         have jnd:J.Nodup:=pj.nodup_iff.mpr xnd.1
         have jl40:J.length≤40:=by
           rw[pj.length_eq,O7 ok.rows,x1l]
           exact dp4 (du5 _ cd) l40
         have tot2:=bb8 (f:=fun x:List (List Int)×List (List Int)=>(A4 ds d x.2).map fun w=>w++[x.1]) hx
         rw[dn8] at tot2
         have aul:=atu.1
         rw[do6] at aul
         have vl:=atv.1
         refine ⟨o,rfl,⟨_,g9.of h6o⟩,A8 (K:=K) (a:=o) (xs:=vs.map V.ref) (fun k σ H7=>∃(v8:Option V),σ=[some (.ref l),some (.ref ra),some (.int (m:Int)),some (.ref W),some (.int (dd:Int)),some (.ref c),some (.ref xl),some (.ref jo),v8]∧H7 W=some (.lst ((us++vs.take k).map V.ref))∧E7 (ap4 len m H7) (us++vs.take k) (((ds.take i).flatMap (P8 (A4 ds d) rs)++((q9 rs (dd - 1)).take j).flatMap fun x=>(A4 ds d x.2).map fun w=>w++[x.1])++((A4 ds d x.2).take k).map fun w=>w++[x.1])∧(∀jj,k≤jj→∀u w,vs[jj]? =some u→(A4 ds d x.2)[jj]? =some w→ap4 len m H7 u w)∧(∀a u,a≠W→a∉vs→H6 a=some u→H7 a=some u))
           ⟨v8,rfl,by rw[dy3,dq6];exact s6 _ _ h5W,by rw[dy3,dy3,eb8,dq6,dq6];exact atu.imp fun u w _ h=>s6 _ _ (s5 _ _ h),fun jj _ u w e1 e2=>atv.2 jj u w e1 e2,fun a u _ _ e=>e⟩ (fun k σ H7 _ ⟨_,_,_,_,_,kk⟩=>g9.of (kk _ _ noW ov h6o)) ?_ ?_⟩
         · rintro k y σ H7 hk ⟨v8,rfl,h7W,at7,todo,keep7⟩
           obtain ⟨u,hu,rfl⟩:∃t,vs[k]? =some t∧y=V.ref t:=by
             rw[do2] at hk
             cases e:vs[k]? with
             |none=>rw[e] at hk;cases hk
             |some a=>rw[e] at hk;exact ⟨a,rfl,(Option.some.inj hk).symm⟩
           obtain ⟨w,hw,_⟩:=atv.get hu
           have h7u:H7 u=some (.dK (L4 (M5 len m w))):=todo k (do1 _) u w hu hw
           have um:=dp0 hu
           have nuW:u≠W:=fun z=>Wv (z▸um)
           have h7J:=keep7 jo _ n5W.symm jov (s6 _ _ h5J)
           have wok:=ay2 (m:=m) (fun dd h=>(rt dd h).1) d x2l.1 rl2 (dp0 hw)
           obtain ⟨es1,es2⟩:=aa9 len0 m1 w fun c hc=>rt _ (wok.right c hc).1
           have es3:(M5 len m w).length≤40:=by
             refine dp4 es2 ?_
             rw[wok.perm.length_eq,O7 rl2];exact x240
           refine ⟨_,rfl,_,rfl,.inr ⟨u,jo,M5 len m w,J,rfl,h7u,h7J,jnd,fun z hz hz2=> ?_,by omega,by omega,fun H8 h8u kb8=> ?_⟩⟩
           · exact xnd.2.2 z (pj.mem_iff.mp hz) z (wok.perm.mem_iff.mp (es1 z hz2)) rfl
           have h8W:=kb8 _ _ h7W nuW.symm
           have ltk:(vs.take k).length≤vs.length:=List.length_take_le' _ _
           refine ⟨_,rfl,.inl ⟨rfl,_,g9.of h8W⟩,_,rfl,W,_,_,rfl,rfl,h8W,ds2 (show _≤2000 by rw[dn8,do6];omega) (by decide),?_⟩
           rw[show (us++vs.take k).map V.ref++[V.ref u]=(us++vs.take (k+1)).map V.ref by rw[i9 hu,←dq4,do8 (l₂:=[u])];rfl]
           have un:∀t∈us++vs.take k,t≠u:=fun t ht z=>by
             subst z
             rcases dp3.mp ht with y|y
             · exact usv t y um
             · obtain ⟨jj,hjj⟩:=dq9.mp y
               rw[ed2] at hjj
               by_cases c:jj < k
               · rw[if_pos c] at hjj
                 have a1:=(do0.mp hjj).1
                 have a2:=(do0.mp hu).1
                 exact dq7.mp (dp6.mp vnd) jj k a1 a2 c (by rw[(do0.mp hjj).2,(do0.mp hu).2])
               · rw[if_neg c] at hjj;cases hjj
           refine ⟨_,rfl,c8,?_,fun jj hjj u2 w2 e1 e2=> ?_,fun a v na nv e=> ?_⟩
           · have ea:us++vs.take (k+1)=(us++vs.take k)++[u]:=by rw[i9 hu,dq4]
             have eb:((A4 ds d x.2).take (k+1)).map (fun w=>w++[x.1])=((A4 ds d x.2).take k).map (fun w=>w++[x.1])++[w++[x.1]]:=by rw[i9 hw,do8];rfl
             rw[ea,eb,←dq4]
             refine E7.snoc (at7.imp fun t w2 ht h=> ?_) ?_
             · have h:H7 t=some (.dK (L4 (M5 len m w2))):=h
               show c9 H8 W _ t=_
               rw[g8 (show t≠W from fun z=>by rw[z,h7W] at h;cases h)]
               exact kb8 _ _ h (un t ht)
             · show c9 H8 W _ u=_
               rw[g8 nuW,h8u,bp2,ej]
           · have h:=todo jj (by omega) u2 w2 e1 e2
             have h:H7 u2=some (.dK (L4 (M5 len m w2))):=h
             show c9 H8 W _ u2=_
             rw[g8 (show u2≠W from fun z=>Wv (z▸dp0 e1))]
             refine kb8 _ _ h fun z=> ?_
             subst z
             have a1:=(do0.mp e1).1
             have a2:=(do0.mp hu).1
             exact dq7.mp (dp6.mp vnd) k jj a2 a1 (by omega) (by rw[(do0.mp e1).2,(do0.mp hu).2])
           · rw[g8 na]
             exact kb8 _ _ (keep7 a v na nv e) fun z=>nv (z▸um)
         · rintro σ H7 ⟨v8,rfl,h7W,at7,todo,keep7⟩
           rw[dn8,dq8] at h7W at7
           rw[vl,dq8] at at7
           refine ⟨us++vs,_,_,_,v8,rfl,h7W,?_,fun u hu=> ?_,?_,fun a u e na=> ?_⟩
           · rw[dt7]
             exact ⟨und,vnd,fun a ha b hb e=>usv a ha (e▸hb)⟩
           · rcases dp3.mp hu with z|z
             · exact ufr u z
             · exact (s04.trans s5).free (vno u z)
           · rw[i9 hx,dw4,ds9,dy1,dq6,←dq4]
             exact at7
           · have e5:=s5 _ _ (kb4 _ _ e na)
             exact keep7 a u na (fun z=>by have:=vno a z;rw[e5] at this;cases this) (s6 _ _ e5)
       · rintro σ H4 ⟨us,v5,v6,v7,v8,rfl,h4W,und,ufr,atu,kb4⟩
         rw[dn8,atc.1,dq8] at atu
         exact ⟨us,_,_,_,_,_,rfl,h4W,und,ufr,atu,(s02.trans s3).kb kb4 hW⟩
     · rw[decide_eq_false (show ¬(dd:Int)≤(rs.length:Int) by omega)]
       have ewp:P8 (A4 ds d) rs dd=[]:=if_neg cd
       rw[ewp,dq6]
       exact C8 ⟨us0,_,_,_,_,_,rfl,h2W,und0,ufr0,atu0,s02⟩
   · rintro σ H2 ⟨us,v4,v5,v6,v7,v8,rfl,h2W,und,ufr,atu,s02⟩
     rw[show ((C6 ds).map V.int).length=ds.length by unfold C6;rw[dn8,dn8],dq8,←ewf] at atu
     exact ⟨_,rfl,q W us H2 hW s02 h2W und ufr atu⟩
end
end My
namespace My
open PySem L2 Mth PySem.Spec PyProof.Rows
section
variable {P:Program} {w:World} {K:PySem.W.Frag} {mg:Str→Option Value} {base:Heap}
def dd6 (td:TE):TI:=fun σ H R=>td σ H fun x H1=>∃d kvs,x= .ref d∧((H1 d=some (.dK kvs)∧∀o,R (Itd d o kvs) (c9 H1 d (.frz o (.dK kvs))))∨∃o,H1 d=some (.frz o (.dK kvs))∧R (Itd d o kvs) H1)
theorem cp0 {X:Cx}{tg l:Expr}{tl:TE}(hl:PE X l tl):PI X tg l (dd6 tl):=by
 intro pins s σ H R I h
 refine o5 (hl pins s σ H _ I h) fun v s1 ⟨x,H1,I1,r1,q1⟩=> ?_
 obtain ⟨d,kvs,e,q⟩:=q1
 subst e
 cases r1
 rcases q with ⟨hH,q⟩|⟨o,hH,q⟩
 · obtain ⟨_,hsm,vs,rel,o,es,ep,ho,hc,hdat,rr⟩:=(show r6 X.prog X.w H1 s1.heap d (.dK kvs) from I1.hok d _ hH)
   have hat:s1.heap.DictAt (x8 X.prog X.w) d vs ep:=⟨o,es,ho,hc,hdat,rr⟩
   have I2:=I1.freeze hH ho
   refine wpAny_pyIter_dict hsm hat ?_
   have hlen:kvs.length=vs.length:=rel.length
   refine ⟨s1.heap.objs.size,[s1.heap.objs.size],_,_,_,rfl,I2.kept (t':=s1.toks) fun b o e=>Heap.get?_push_of_some _ e,am0 d _ o kvs es ep hdat,⟨_,Heap.get?_push_size _ rfl,rfl,by rw[hlen];rfl⟩,fun b hb=> ?_,q o⟩
   have e:b=s1.heap.objs.size:=by simpa using hb
   subst e
   exact I2.fpOk (do1 _) (I2.hok.fresh (do1 _))
 · obtain ⟨ho0,_,hsm,vs,rel,o',es,ep,ho,hc,hdat,rr⟩:=(show r6 X.prog X.w H1 s1.heap d (.frz o (.dK kvs)) from I1.hok d _ hH)
   have eo:o'=o:=by rw[ho0] at ho;exact (Option.some.inj ho).symm
   subst eo
   have hat:s1.heap.DictAt (x8 X.prog X.w) d vs ep:=⟨o',es,ho,hc,hdat,rr⟩
   refine wpAny_pyIter_dict hsm hat ?_
   have hlen:kvs.length=vs.length:=rel.length
   refine ⟨s1.heap.objs.size,[s1.heap.objs.size],_,_,_,rfl,I1.kept (t':=s1.toks) fun b o e=>Heap.get?_push_of_some _ e,am0 d _ o' kvs es ep hdat,⟨_,Heap.get?_push_size _ rfl,rfl,by rw[hlen];rfl⟩,fun b hb=> ?_,q⟩
   have e:b=s1.heap.objs.size:=by simpa using hb
   subst e
   exact I1.fpOk (do1 _) (I1.hok.fresh (do1 _))
def q0 (t:List Int)(es:List (Int×Int)):List Int:=es.foldl (fun t e=>t.set e.1.toNat e.2) t
theorem aj6 (es:List (Int×Int)):∀t:List Int,(q0 t es).length=t.length:=by
 induction es with
 |nil=>intro t;rfl
 |cons e es ih=>intro t;show (q0 (t.set e.1.toNat e.2) es).length=_;rw[ih,ea9]
theorem br9 (t:List Int)(es:List (Int×Int))(e:Int×Int):q0 t (es++[e])=(q0 t es).set e.1.toNat e.2:=by
 unfold q0
 rw[ed7];rfl
def M3 (laid:List (List Int))(ways:List (List (Int×Int))):List (List Int):=laid.flatMap fun t=>ways.map (q0 t)
def M4 (p:List Int)(chs:List (List (List (Int×Int)))):List (List Int):=chs.foldl M3 [p]
theorem ay4 (p:List Int)(chs:List (List (List (Int×Int))))(c:List (List (Int×Int))):M4 p (chs++[c])=M3 (M4 p chs) c:=by
 unfold M4
 rw[ed7];rfl
theorem cp1 {n:Nat}{laid:List (List Int)}{ways:List (List (Int×Int))}(h:∀t∈laid,t.length=n):∀t∈M3 laid ways,t.length=n:=fun t ht=>by
 obtain ⟨t',h',z⟩:=dt9.mp ht
 obtain ⟨es,_,rfl⟩:=do9.mp z
 rw[aj6];exact h t' h'
theorem bg1 (p:List Int)(chs:List (List (List (Int×Int)))):∀t∈M4 p chs,t.length=p.length:=by
 have g:∀(chs:List (List (List (Int×Int)))) (laid:List (List Int)),(∀t∈laid,t.length=p.length)→∀t∈chs.foldl M3 laid,t.length=p.length:=fun chs=>by
   induction chs with
   |nil=>intro laid h;exact h
   |cons c chs ih=>intro laid h;exact ih _ (cp1 h)
 exact g chs [p] fun t ht=>by rw[dp1.mp ht]
def aj7 (H:Hp)(u:Addr)(es:List (Int×Int)):Prop:=H u=some (.dK (L4 es))∨∃o,H u=some (.frz o (.dK (L4 es)))
structure Kp (H H':Hp):Prop where
 nd:∀x u,H x=some u→(∀kvs,u≠.dK kvs)→H' x=some u
 tab:∀x es,aj7 H x es→aj7 H' x es
 fr:∀x,H' x=none→H x=none
theorem Kp.refl (H:Hp):Kp H H:=⟨fun _ _ e _=>e,fun _ _ e=>e,fun _ e=>e⟩
theorem Kp.of {H H':Hp}(s:e8 H H'):Kp H H':=⟨fun x u e _=>s _ _ e,fun x es e=>e.elim (fun e=> .inl (s _ _ e)) fun ⟨o,e⟩=> .inr ⟨o,s _ _ e⟩,fun x e=>s.free e⟩
theorem Kp.trans {H H' H'':Hp}(a:Kp H H')(b:Kp H' H''):Kp H H'':=⟨fun x u e n=>b.nd x u (a.nd x u e n) n,fun x es e=>b.tab x es (a.tab x es e),fun x e=>a.fr x (b.fr x e)⟩
theorem Kp.lst {H H':Hp}(k:Kp H H'){a:Addr}{xs:List V}(e:H a=some (.lst xs)):H' a=some (.lst xs):=k.nd a _ e (fun kvs z=>by cases z)
theorem Kp.rows {H H':Hp}(k:Kp H H'){as:List Addr}{rs:List (List Int)}(h:k7 H as rs):k7 H' as rs:=⟨h.1,fun j a r e1 e2=>k.lst (h.2 j a r e1 e2)⟩
theorem Kp.upd_r {H H':Hp}(k:Kp H H'){x:Addr}{o:HO}(n:H x=none):Kp H (c9 H' x o):=by
 have ne:∀a u,H a=some u→a≠x:=fun a u e z=>by rw[z,n] at e;cases e
 refine ⟨fun a u e h=>by rw[g8 (ne a u e)];exact k.nd a u e h,fun a es e=> ?_,fun a e=> ?_⟩
 · have nx:a≠x:=e.elim (fun e=>ne a _ e) fun ⟨_,e⟩=>ne a _ e
   unfold aj7
   rw[g8 nx]
   exact k.tab a es e
 · by_cases z:a=x
   · rw[z];exact n
   · rw[g8 z] at e;exact k.fr a e
theorem Kp.freeze {H:Hp}{u:Addr}{kvs:List (o4×V)}{o:Obj}(e:H u=some (.dK kvs)):Kp H (c9 H u (.frz o (.dK kvs))):=by
 refine ⟨fun a v h n=> ?_,fun a es h=> ?_,fun a h=> ?_⟩
 · rw[g8 fun z=>by rw[z,e] at h;cases h;exact n _ rfl];exact h
 · by_cases z:a=u
   · subst z
     rcases h with h|⟨_,h⟩
     · rw[e] at h;cases h
       exact .inr ⟨o,c8⟩
     · rw[e] at h;cases h
   · unfold aj7
     rw[g8 z];exact h
 · by_cases z:a=u
   · rw[z,c8] at h;cases h
   · rw[g8 z] at h;exact h
theorem bw5:∀{es:List (Int×Int)} {i:Nat} {e:Int×Int},(es.map (·.1)).Nodup→es[i]? =some e→C1 (L4 es) (Sum.inl e.1:o4)=some (.int e.2)
 |[],i,e,_,h=>by cases h
 |x::es,0,e,_,h=>by cases h;exact U2 rfl
 |x::es,i+1,e,nd,h=>by
  rw[dr7,dr5] at nd
  have hm:e∈es:=dp0 h
  show C1 ((Sum.inl x.1,V.int x.2)::L4 es) _=_
  rw[R6]
  · exact bw5 nd.2 h
  · intro z
    have z:x.1=e.1:=Sum.inl.inj z
    exact nd.1 (by rw[z];exact List.mem_map_of_mem hm)
def cb0:Sp:=fun vs H Q _=>∃(a ch:Addr) (p:List Int) (cs:List Addr) (chs:List (List (List (Int×Int)))),vs=[.ref a,.ref ch]∧H a=some (.lst (p.map V.int))∧p.length≤40∧H ch=some (.lst (cs.map V.ref))∧
 E7 (fun c ways=>∃us,H c=some (.lst (us.map V.ref))∧E7 (aj7 H) us ways) cs chs∧(∀ways∈chs,∀es∈ways,(es.map (·.1)).Nodup∧∀e∈es,0≤e.1∧e.1 < (p.length:Int))∧(∀i,(M4 p (chs.take i)).length≤2000)∧
 ∀(o:Addr) (bs:List Addr) (ts:List (List Int)) (H':Hp),H o=none→H' o=some (.lst (bs.map V.ref))→k7 H' bs ts→ts.Perm (M4 p chs)→ts.Pairwise (fun r r'=>HT.ao3 r' r=false)→bs.Nodup→(∀b∈bs,H b=none)→o∉bs→Kp H H'→Q (.ref o) H'
theorem y6:l8 ["p","choices","laid","ways","wider","turn","way","told","thing"] ["p","choices"] (i7 T5):=⟨rfl,rfl,rfl,by decide+kernel,rfl,by decide+kernel,by decide+kernel⟩
theorem at5 {f:Addr}{fd:FuncData}(F:A2 K "lay_every_way" "lay_every_way" T5 f fd)(B:Bl mg):o8 P w K mg base A0 1 f fd ["p","choices"] cb0:=by
 refine F.ok y6 (fun vs H Q E h=> ?_) (fun cdv A outer s H vs Q E hr h=> ?_)
 · obtain ⟨a,ch,p,cs,chs,rfl,ha,lp,hch,atc,keys,few,q⟩:=h
   rfl
 · obtain ⟨a,ch,p,cs,chs,rfl,ha,lp,hch,atc,keys,few,q⟩:=h
   have hu:=S8 hr
   have hu2:_+1+1 < cLine:=ds2 (ea5 (by decide:2≤64) _) hr.units
   refine ⟨_,@c7 _ _ _ _ _ (@i4 _ _ (2) _ _ _ _ y6.nd rfl (Or.inl rfl) (@w4 _ _ _ _ (@c5 _ _ _ _ _ (@al5 _ _ _ _ _ B.list (@c5 _ _ _ _ _ (pv 0) (@c6 _) (by rfl)) (by rfl) (by rfl)) (@c6 _) (by rfl))) (by rfl) (by first|exact .inl rfl|exact .inr rfl|assumption)) (@c7 _ _ _ _ _ (@o6 _ _ _ _ _ _ _ _ PassesOwn.never rfl (@w9 _ _ _ _ (pv 1)) (@j5 _ _ (3) _ y6.nd rfl (Or.inl rfl) (by first|exact .inl rfl|exact .inr rfl|assumption)) (@c7 _ _ _ _ _ (@i4 _ _ (4) _ _ _ _ y6.nd rfl (Or.inl rfl) (@w4 _ _ _ _ (@c6 _)) (by rfl) (by first|exact .inl rfl|exact .inr rfl|assumption)) (@c7 _ _ _ _ _ (@o6 _ _ _ _ _ _ _ _ PassesOwn.never rfl (@w9 _ _ _ _ (pv 2)) (@j5 _ _ (5) _ y6.nd rfl (Or.inl rfl) (by first|exact .inl rfl|exact .inr rfl|assumption)) (@e7 _ _ _ (@o6 _ _ _ _ _ _ _ _ PassesOwn.never rfl (@w9 _ _ _ _ (pv 3)) (@j5 _ _ (6) _ y6.nd rfl (Or.inl rfl) (by first|exact .inl rfl|exact .inr rfl|assumption)) (@c7 _ _ _ _ _ (@i4 _ _ (7) _ _ _ _ y6.nd rfl (Or.inl rfl) (@al5 _ _ _ _ _ B.list (@c5 _ _ _ _ _ (pv 5) (@c6 _) (by rfl)) (by rfl) (by rfl)) (by rfl) (by first|exact .inl rfl|exact .inr rfl|assumption)) (@c7 _ _ _ _ _ (@o6 _ _ _ _ _ _ _ _ PassesOwn.never rfl (cp0 (pv 6)) (@j5 _ _ (8) _ y6.nd rfl (Or.inl rfl) (by first|exact .inl rfl|exact .inr rfl|assumption)) (@e7 _ _ _ (@au7 _ _ _ _ _ _ (@ao6 _ _ _ _ _ _ hu (pv 6) (pv 8) (fun _ _=>rfl)) (@au6 _ _ _ _ _ _ _ (pv 7) (pv 8) ag4 (by intro _;rfl)) (by rfl) (by rfl) (by rfl))) (by intro _;rfl)) (@e7 _ _ _ (@o7 _ _ _ _ (@E4 _ _ _ _ _ _ _ (pv 4) (@c5 _ _ _ _ _ (pv 7) (@c6 _) (by rfl)) (by rfl) (by rfl) (by rfl) (by rfl) (by rfl)) (by rfl))))) (by intro _;rfl))) (by intro _;rfl)) (@e7 _ _ _ (@i4 _ _ (2) _ _ _ _ y6.nd rfl (Or.inl rfl) (pv 4) (by rfl) (by first|exact .inl rfl|exact .inr rfl|assumption))))) (by intro _;rfl)) (@e7 _ _ _ (@l6 _ _ _ _ (aq6 hu2 B.sorted (@c5 _ _ _ _ _ (pv 2) (@c6 _) (by rfl)))))),?_⟩
   refine ⟨_,rfl,a,_,rfl,.inl (g9.of ha),fun e0 he0=> ?_⟩
   have s1:e8 H (c9 H e0 (.lst (p.map V.int))):=e8.upd_new he0
   have h1e:(c9 H e0 (.lst (p.map V.int))) e0=some (.lst (p.map V.int)):=c8
   generalize (c9 H e0 (.lst (p.map V.int)))=H1 at s1 h1e ⊢
   refine ⟨(show 1≤sizeLine by decide),fun F0 hF0=> ?_⟩
   have s2:e8 H1 (c9 H1 F0 (.lst [V.ref e0])):=e8.upd_new hF0
   have h2F:(c9 H1 F0 (.lst [V.ref e0])) F0=some (.lst (([e0]:List Addr).map V.ref)):=c8
   generalize (c9 H1 F0 (.lst [V.ref e0]))=H2 at s2 h2F ⊢
   have s02:=s1.trans s2
   refine ⟨_,rfl,ch,rfl,⟨_,g9.of (s02 _ _ hch)⟩,A8 (K:=K) (a:=ch) (xs:=cs.map V.ref) (fun i σ H3=>∃(F:Addr) (ts:List Addr) (v3 v4 v5 v6 v7 v8:Option V),σ=[some (.ref a),some (.ref ch),some (.ref F),v3,v4,v5,v6,v7,v8]∧H3 F=some (.lst (ts.map V.ref))∧k7 H3 ts (M4 p (chs.take i))∧ts.Nodup∧(∀t∈ts,H t=none)∧Kp H H3)
     ⟨F0,[e0],none,none,none,none,none,none,rfl,h2F,⟨rfl,fun j b r e1 e2=>by
       rcases j with _|j
       · cases e1;cases e2;exact s2 _ _ h1e
       · cases e1⟩,by simp,fun t ht=>by rw[dp1.mp ht];exact he0,Kp.of s02⟩ (fun i σ H3 _ ⟨_,_,_,_,_,_,_,_,_,_,_,_,_,k⟩=>g9.of (k.lst hch)) ?_ ?_⟩
   · rintro i y σ H3 hi ⟨F,ts,v3,v4,v5,v6,v7,v8,rfl,h3F,rows,tnd,tfr,k3⟩
     obtain ⟨c,hc,rfl⟩:∃c,cs[i]? =some c∧y=V.ref c:=by
       rw[do2] at hi
       cases e:cs[i]? with
       |none=>rw[e] at hi;cases hi
       |some a=>rw[e] at hi;exact ⟨a,rfl,(Option.some.inj hi).symm⟩
     obtain ⟨ways,hw,us,hcu,atu⟩:=atc.get hc
     have fewi:=few (i+1)
     rw[i9 hw,ay4] at fewi ⊢
     have lens:=bg1 p (chs.take i)
     generalize M4 p (chs.take i)=laid at rows fewi lens ⊢
     have kw:=keys ways (dp0 hw)
     refine ⟨dq3 _,fun W hW=> ?_⟩
     have hW0:H W=none:=k3.fr W hW
     have s4:e8 H3 (c9 H3 W (.lst [])):=e8.upd_new hW
     have h4W:(c9 H3 W (.lst [])) W=some (.lst (([]:List Addr).map V.ref)):=c8
     generalize (c9 H3 W (.lst []))=H4 at s4 h4W ⊢
     refine ⟨_,rfl,F,rfl,⟨_,g9.of (s4 _ _ h3F)⟩,A8 (K:=K) (a:=F) (xs:=ts.map V.ref) (fun j σ H5=>∃(bs:List Addr) (v5 v6 v7 v8:Option V),σ=[some (.ref a),some (.ref ch),some (.ref F),some (.ref c),some (.ref W),v5,v6,v7,v8]∧H5 W=some (.lst (bs.map V.ref))∧k7 H5 bs (M3 (laid.take j) ways)∧bs.Nodup∧(∀b∈bs,H3 b=none)∧W∉bs∧Kp H3 H5)
       ⟨[],v5,v6,v7,v8,rfl,h4W,⟨rfl,fun j b r h=>by cases h⟩,dv8,(fun b hb=>by cases hb),(fun z=>by cases z),Kp.of s4⟩ (fun j σ H5 _ ⟨_,_,_,_,_,_,_,_,_,_,_,k⟩=>g9.of (k.lst h3F)) ?_ ?_⟩
     · rintro j y σ H5 hj ⟨bs0,v5,v6,v7,v8,rfl,h5W,rowsB0,bnd0,bfr0,Wb0,k5⟩
       obtain ⟨t,ht,rfl⟩:∃t,ts[j]? =some t∧y=V.ref t:=by
         rw[do2] at hj
         cases e:ts[j]? with
         |none=>rw[e] at hj;cases hj
         |some a=>rw[e] at hj;exact ⟨a,rfl,(Option.some.inj hj).symm⟩
       obtain ⟨row,hrow⟩:∃r,laid[j]? =some r:=⟨_,dn9 (by rw[←rows.1];exact (do0.mp ht).1)⟩
       have h3t:=rows.2 j t row ht hrow
       have lrow:=lens row (dp0 hrow)
       have tot:=bb8 (f:=fun t=>ways.map (q0 t)) hrow
       rw[dn8] at tot
       have h5c:=(k3.trans k5).lst hcu
       refine ⟨_,rfl,c,rfl,⟨_,g9.of h5c⟩,A8 (K:=K) (a:=c) (xs:=us.map V.ref) (fun k σ H6=>∃(bs:List Addr) (v6 v7 v8:Option V),σ=[some (.ref a),some (.ref ch),some (.ref F),some (.ref c),some (.ref W),some (.ref t),v6,v7,v8]∧H6 W=some (.lst (bs.map V.ref))∧k7 H6 bs (M3 (laid.take j) ways++(ways.take k).map (q0 row))∧bs.Nodup∧(∀b∈bs,H3 b=none)∧W∉bs∧Kp H3 H6)
         ⟨bs0,v6,v7,v8,rfl,h5W,by rw[dy3,eb8,dq6];exact rowsB0,bnd0,bfr0,Wb0,k5⟩ (fun k σ H6 _ ⟨_,_,_,_,_,_,_,_,_,_,kk⟩=>g9.of ((k3.trans kk).lst hcu)) ?_ ?_⟩
       · rintro k y σ H6 hk ⟨bs,v6,v7,v8,rfl,h6W,rowsB,bnd,bfr,Wb,k6⟩
         obtain ⟨u,hu,rfl⟩:∃t,us[k]? =some t∧y=V.ref t:=by
           rw[do2] at hk
           cases e:us[k]? with
           |none=>rw[e] at hk;cases hk
           |some a=>rw[e] at hk;exact ⟨a,rfl,(Option.some.inj hk).symm⟩
         obtain ⟨es,hes,tu⟩:=atu.get hu
         obtain ⟨knd,kbd⟩:=kw es (dp0 hes)
         refine ⟨_,rfl,t,_,rfl,.inl (g9.of (k6.lst h3t)),fun to hto=> ?_⟩
         have s7:e8 H6 (c9 H6 to (.lst (row.map V.int))):=e8.upd_new hto
         have h7t:(c9 H6 to (.lst (row.map V.int))) to=some (.lst (row.map V.int)):=c8
         generalize (c9 H6 to (.lst (row.map V.int)))=H7 at s7 h7t ⊢
         have k67:Kp H6 H7:=Kp.of s7
         have tu7:aj7 H7 u es:=k67.tab u es (k6.tab u es (k3.tab u es tu))
         refine ⟨_,rfl,u,L4 es,rfl,?_⟩
         refine tu7.elim (fun h=> .inl ⟨h,fun o=> ?_⟩) (fun ⟨o,h⟩=> .inr ⟨o,h,?_⟩)
         all_goals
           first
             |(have h8u:(c9 H7 u (.frz o (.dK (L4 es)))) u=some (.frz o (.dK (L4 es))):=c8
               have k68:=k67.trans (Kp.freeze (o:=o) h)
               have h8t:=(Kp.freeze (o:=o) h).lst h7t
               generalize (c9 H7 u (.frz o (.dK (L4 es))))=H8 at h8u k68 h8t ⊢)
             |(have h8u:=h
               have k68:=k67
               have h8t:=h7t
               generalize H7=H8 at h8u k68 h8t ⊢)
           have nut:u≠to:=fun z=>by rw[z,h8t] at h8u;cases h8u
           refine ar9 (fun q σ H9=>∃(v8:Option V),σ=[some (.ref a),some (.ref ch),some (.ref F),some (.ref c),some (.ref W),some (.ref t),some (.ref u),some (.ref to),v8]∧H9 to=some (.lst ((q0 row (es.take q)).map V.int))∧H9 u=some (.frz o (.dK (L4 es)))∧Kp H6 H9)
             ⟨v8,rfl,h8t,h8u,k68⟩ (fun q σ H9 _ ⟨_,_,_,e,_⟩=>e) ?_ ?_
           · rintro q kk vv σ H9 hq ⟨v8,rfl,h9t,h9u,k9⟩
             unfold L4 at hq
             rw[do2] at hq
             cases hE:es[q]? with
             |none=>rw[hE] at hq;cases hq
             |some e=>
              rw[hE] at hq
              cases hq
              have eb:=kbd e (dp0 hE)
              refine ⟨_,rfl,_,rfl,u,.int e.2,rfl,.inl ⟨L4 es,Sum.inl e.1,.inr ⟨o,h9u⟩,rfl,(bw5 knd hE).symm⟩,?_⟩
              refine ⟨_,rfl,_,rfl,to,_,_,e.1.toNat,rfl,rfl,h9t,?_,?_⟩
              · unfold ixN
                rw[dn8,aj6,if_pos eb.1,if_pos (by omega)]
              · refine ⟨_,rfl,?_,by rw[g8 nut];exact h9u,k9.upd_r hto⟩
                rw[c8,i9 hE,br9,ei1]
           · rintro σ H9 ⟨v8,rfl,h9t,h9u,k9⟩
             rw[show (L4 es).length=es.length by unfold L4;rw[dn8],dq8] at h9t
             have h9W:=k9.lst h6W
             have lb:bs.length≤2000:=by
               have:=rowsB.1
               rw[do6,dn8,dp5] at this
               unfold M3 at this fewi
               omega
             refine ⟨_,rfl,.inl ⟨rfl,_,g9.of h9W⟩,_,rfl,W,_,_,rfl,rfl,h9W,ds2 (show _≤2000 by rw[dn8];omega) (by decide),?_⟩
             have nWt:W≠to:=g6 h6W hto
             have k9':Kp H3 (c9 H9 W (.lst (bs.map V.ref++[V.ref to]))):=(k6.trans k9).upd_r hW
             have r9:k7 (c9 H9 W (.lst (bs.map V.ref++[V.ref to]))) (bs++[to]) ((M3 (laid.take j) ways++(ways.take k).map (q0 row))++[q0 row es]):=by
               refine L8 (p6 (k9.rows rowsB) fun b hb v e=> ?_) (by rw[g8 nWt.symm];exact h9t)
               rw[g8 (show b≠W from fun z=>Wb (z▸hb))]
               exact e
             refine ⟨bs++[to],_,_,_,rfl,by rw[c8,do8];rfl,?_,?_,fun b hb=> ?_,fun z=> ?_,k9'⟩
             · have eb:(ways.take (k+1)).map (q0 row)=(ways.take k).map (q0 row)++[q0 row es]:=by rw[i9 hes,do8];rfl
               rw[eb,←dq4]
               exact r9
             · rw[dt7]
               refine ⟨bnd,by simp,fun x hx z hz e=> ?_⟩
               rw[dp1.mp hz] at e
               obtain ⟨r,hr⟩:=aa3 rowsB hx
               rw[e,hto] at hr;cases hr
             · rcases dp3.mp hb with z|z
               · exact bfr b z
               · rw[dp1.mp z];exact k6.fr to hto
             · rcases dp3.mp z with z|z
               · exact Wb z
               · exact nWt (dp1.mp z)
       · rintro σ H6 ⟨bs,v6,v7,v8,rfl,h6W,rowsB,bnd,bfr,Wb,k6⟩
         refine ⟨bs,_,v6,v7,v8,rfl,h6W,?_,bnd,bfr,Wb,k6⟩
         rw[dn8,atu.1,dq8] at rowsB
         have e:M3 (laid.take (j+1)) ways=M3 (laid.take j) ways++ways.map (q0 row):=by
           unfold M3
           rw[i9 hrow,dw4,ds9,dy1,dq6]
         rw[e]
         exact rowsB
     · rintro σ H5 ⟨bs,v5,v6,v7,v8,rfl,h5W,rowsB,bnd,bfr,Wb,k5⟩
       rw[dn8,rows.1,dq8] at rowsB
       exact ⟨_,rfl,W,bs,_,_,_,_,_,_,rfl,h5W,rowsB,bnd,fun b hb=>k3.fr b (bfr b hb),k3.trans k5⟩
   · rintro σ H3 ⟨F,ts,v3,v4,v5,v6,v7,v8,rfl,h3F,rows,tnd,tfr,k3⟩
     rw[dn8,atc.1,dq8] at rows
     refine ⟨_,rfl,F,ts,_,rfl,g9.of h3F,rows,fun bs rs o pb pr rowsB srt ho=> ?_⟩
     have s4:e8 H3 (c9 H3 o (.lst (bs.map V.ref))):=e8.upd_new ho
     refine q o bs rs _ (k3.fr o ho) c8 (p6 rowsB fun b _ u e=>s4 _ _ e) pr srt (pb.nodup_iff.mpr tnd) (fun b hb=>tfr b (pb.mem_iff.mp hb)) (fun z=> ?_) (k3.trans (Kp.of s4))
     obtain ⟨r,hr⟩:=aa3 rowsB z
     rw[ho] at hr;cases hr
end
end My
namespace My
open PySem L2 Mth
section
theorem bg2 {β:Type}(g:Nat→List β):∀ds:List Nat,(ds.flatMap g).length=X3 ds fun d=>(g d).length
 |[]=>rfl
 |d::ds=>by rw[ds9,do6,bg2 g ds,L9]
theorem bb9 {f:Nat→Nat}:∀{ds:List Nat} {d:Nat},d∈ds→f d≤X3 ds f
 |x::ds,d,h=>by
  rw[L9]
  rcases dp7.mp h with rfl|h
  · omega
  · have:=bb9 (f:=f) h
    omega
theorem bg3 {f:Nat→Nat}:∀{ds:List Nat},X3 ds f≠0→∃d∈ds,f d≠0
 |[],h=>absurd rfl h
 |x::ds,h=>by
  rw[L9] at h
  by_cases c:f x=0
  · obtain ⟨d,hd,e⟩:=bg3 (f:=f) (ds:=ds) (by omega)
    exact ⟨d,do4 _ hd,e⟩
  · exact ⟨x,do3,c⟩
theorem ad5 {n l:Nat}(l1:1≤l):∀k,k < n→1≤t9 n l k
 |0,_=>do1 _
 |k+1,h=>by
  show 1≤t9 n l k*(n - (k+1))*l
  exact dx9 (dx9 (ad5 l1 k (by omega)) (by omega)) l1
theorem an2 {n l:Nat}(l1:1≤l)(k:Nat):∀j,k+j < n→t9 n l k≤t9 n l (k+j)
 |0,_=>do1 _
 |j+1,h=>by
  refine dp4 (an2 l1 k j (by omega)) ?_
  show t9 n l (k+j)≤t9 n l (k+j)*(n - (k+j+1))*l
  rw[dw3]
  exact ds6 _ (dx9 (by omega) l1)
theorem at6 {l:Nat}{ds:List Nat}(hd:∀d∈ds,1≤d):∀(f:Nat) {rs:List (List Int)},rs.length≤f→(∀r∈rs,r.length=l)→(A4 ds f rs).length=jf l ds rs.length
 |0,rs,hf,_=>by rw[show rs.length=0 by omega];rfl
 |f+1,rs,hf,hl=>by
  show (if rs.length=0 then [[]] else ds.flatMap (P8 (A4 ds f) rs)).length=_
  by_cases c:rs.length=0
  · rw[if_pos c,c];rfl
  · rw[if_neg c,bg2,(bh7 (l:=l) hd).2 rs.length (by omega)]
    refine aj2 fun d hdm=> ?_
    have d1:=hd d hdm
    unfold P8
    by_cases c2:d≤rs.length
    · rw[if_pos c2,if_pos c2,aa8 (c:=jf l ds (rs.length - d)) fun x hx=> ?_,aj4 hl (d - 1) (by omega)]
      have o:=E1 hl (d - 1) (by omega) hx
      rw[dn8,at6 hd f (by have:=o.left;omega) fun r hr=>hl r (o.rows2 r hr)]
      congr 1
      have:=o.left
      omega
    · rw[if_neg c2,if_neg c2];rfl
structure cb1 (ds:List Nat)(N d0:Nat):Prop where
 pos:1≤d0
 one:∀d∈ds,1≤d
 all:∀d∈ds,d0∣d
 in_:d0≤N→d0∈ds
theorem ci6 {l N d0:Nat}{ds:List Nat}(b:cb1 ds N d0)(l1:1≤l):∀q,d0*q≤N→1≤jf l ds (d0*q)
 |0,_=>do1 _
 |q+1,h=>by
  have p:=b.pos
  have e:d0*(q+1)=d0*q+d0:=ef6 _ _
  rw[(bh7 (l:=l) b.one).2 (d0*(q+1)) (by omega)]
  refine dp4 ?_ (bb9 (b.in_ (by omega)))
  rw[if_pos (by omega),show d0*(q+1) - d0=d0*q by omega]
  exact dx9 (ad5 l1 _ (by omega)) (ci6 b l1 q (by omega))
theorem ci7 {l N d0:Nat}{ds:List Nat}(b:cb1 ds N d0):∀(g n:Nat),n≤g→jf l ds n≠0→d0∣n
 |0,n,h,_=>by rw[show n=0 by omega];exact ei0 _
 |g+1,n,h,z=>by
  by_cases c:n=0
  · rw[c];exact ei0 _
  · rw[(bh7 (l:=l) b.one).2 n (by omega)] at z
    obtain ⟨d,hd,e⟩:=bg3 z
    have d1:=b.one d hd
    by_cases c2:d≤n
    · rw[if_pos c2] at e
      have:=ci7 b g (n - d) (by omega) (fun y=>e (by rw[y,ec0]))
      have e2:=Nat.dvd_add this (b.all d hd)
      rw[dz4 c2] at e2
      exact e2
    · rw[if_neg c2] at e;exact absurd rfl e
theorem ci8 {l N d0:Nat}{ds:List Nat}(b:cb1 ds N d0)(l1:1≤l):∀(f:Nat) {rs:List (List Int)},rs.length≤f→rs.length≤N→(∀r∈rs,r.length=l)→d0∣rs.length→jf l ds rs.length≤2000→Few ds f rs
 |0,rs,_,_,_,_,_=>trivial
 |f+1,rs,hf,hN,hl,dv,le=>by
  refine ⟨fun d hd hdn=> ?_,by rw[at6 b.one (f+1) hf hl];exact le⟩
  have d1:=b.one d hd
  obtain ⟨q,hq⟩:=Nat.dvd_sub dv (b.all d hd)
  have jp:1≤jf l ds (rs.length - d):=by rw[hq];exact ci6 b l1 q (by omega)
  have t1:t9 rs.length l (d - 1)*jf l ds (rs.length - d)≤jf l ds rs.length:=by
    rw[(bh7 (l:=l) b.one).2 rs.length (by omega)]
    have:=bb9 (f:=fun d=>if d≤rs.length then t9 rs.length l (d - 1)*jf l ds (rs.length - d) else 0) hd
    rw[if_pos hdn] at this
    exact this
  have t2:t9 rs.length l (d - 1)≤jf l ds rs.length:=dp4 (ds6 _ jp) t1
  have t3:jf l ds (rs.length - d)≤jf l ds rs.length:=dp4 (eb3 _ (ad5 l1 (d - 1) (by omega))) t1
  refine ⟨fun k hk=> ?_,fun x hx=> ?_⟩
  · rw[aj4 hl k (by omega)]
    have:=an2 l1 k (d - 1 - k) (n:=rs.length) (by omega)
    rw[show k+(d - 1 - k)=d - 1 by omega] at this
    omega
  · have o:=E1 hl (d - 1) (by omega) hx
    have e:x.2.length=rs.length - d:=by have:=o.left;omega
    exact ci8 b l1 f (by omega) (by omega) (fun r hr=>hl r (o.rows2 r hr)) (by rw[e];exact Nat.dvd_sub dv (b.all d hd)) (by rw[e];omega)
end
end My
namespace My
open PySem L2 Mth
section
variable {P:Program} {w:World} {K:PySem.W.Frag} {mg:Str→Option Value} {base:Heap}
theorem cr8 {l m:Nat}(hm:0 < m):∀(n d:Nat),W7 l m d→m - d≤n→∃d,Q0 l m d
 |0,d,u,h=>by
  by_cases z:dp8 l (m/d)=1
  · exact ⟨d,u.done z⟩
  · have:=u.more hm z
    omega
 |n+1,d,u,h=>by
  by_cases z:dp8 l (m/d)=1
  · exact ⟨d,u.done z⟩
  · have:=u.more hm z
    exact cr8 hm n _ (u.step hm) (by omega)
theorem cw6 {l m:Nat}(hm:0 < m):∃d,Q0 l m d:=cr8 hm (m - 1) 1 (.start l m) (do1 _)
theorem O8 {l m n d:Nat}(h:d∈p5 l m n):L5 l m d:=by
 refine ⟨(G0 h).1,?_⟩
 unfold p5 at h
 exact of_decide_eq_true (dt8.mp h).2
theorem ap5 {l m n:Nat}(m1:1≤m):∃d0,cb1 (p5 l m n) n d0:=by
 obtain ⟨d0,h⟩:=cw6 (l:=l) m1
 have p:=h.pos m1
 refine ⟨d0,p,fun d hd=>(G0 hd).1,fun d hd=> ?_,fun hn=> ?_⟩
 · have r:=O8 hd
   obtain ⟨a,b⟩:=(be9 r.1).mp r.2
   exact h.least d a b
 · unfold p5
   refine dt8.mpr ⟨do9.mpr ⟨d0 - 1,dr4.mpr (by omega),by omega⟩,decide_eq_true ((be9 p).mpr ⟨h.parts,h.rest⟩)⟩
theorem bp3 {l m:Nat}(l0:0 < l)(m1:1≤m):∀(w:List (List (List Int))),(∀c∈w,L5 l m c.length)→(w.map ec1).flatten.Nodup→((M5 l m w).map (·.1)).Nodup
 |[],_,_=>dv8
 |c::w,h,nd=>by
  rw[dr7,dq1,dt7] at nd
  have i:=bp3 l0 m1 w (fun c hc=>h c (do4 _ hc)) nd.2.1
  have e:M5 l m (c::w)=C7 (B9 l m c)++M5 l m w:=by unfold M5;rw[ds9]
  rw[e,do8,aj5,dt7]
  refine ⟨?_,i,fun x hx y hy z=> ?_⟩
  · unfold B9
    by_cases ex:∃J,C5 l (m/c.length) c J
    · rw[dif_pos ex]
      obtain ⟨k,e1,e2⟩:=(h c do3).parts m1
      have ek:m/c.length=k:=by rw[e1];exact dv4 k (h c do3).1
      exact ((Classical.choose_spec ex).perm l0 (by rw[ek];exact e2)).nodup_iff.mpr nd.1
    · rw[dif_neg ex];exact dv8
  · exact nd.2.2 x ((bg0 l0 m1 (h c do3)).1 x hx) y ((aa9 l0 m1 w fun c hc=>h c (do4 _ hc)).1 y hy) z
noncomputable def W1 (rs:List (List Int))(m l:Nat):List (List (Int×Int)):=(A4 (p5 l m (n5 rs l)) 40 (w6 rs l)).map (M5 l m)
theorem E8 {rs:List (List Int)}{l:Nat}{r:List Int}(h:r∈w6 rs l):r∈rs∧r.length=l:=by
 unfold w6 at h
 obtain ⟨a,b⟩:=dt8.mp h
 exact ⟨a,of_decide_eq_true b⟩
theorem an3 (f:List Int→Bool):∀rs:List (List Int),((rs.filter f).flatten).Sublist rs.flatten
 |[]=>List.Sublist.refl _
 |r::rs=>by
  by_cases c:f r=true
  · rw[dx0 c,dq1,dq1]
    exact (an3 f rs).append_left r
  · rw[dx1 c,dq1]
    exact (an3 f rs).trans (List.sublist_append_right _ _)
theorem M8 (rs:List (List Int))(l:Nat):(w6 rs l).flatten.Sublist rs.flatten:=an3 _ rs
theorem rsb {p:List Int}(tp:j8 p){i:Nat}{rs:List (List Int)}(up:A7 p i rs):∀r∈rs,1≤r.length∧r.length≤p.length:=fun r hr=>by
 obtain ⟨y,L,hy,pr,er,_⟩:=up.ring r hr
 have b:=M1 tp hy (m:=L) fun i i0 i1=>pr.least i i0 i1
 have:=pr.pos
 rw[er,m8]
 omega
theorem bw6 {rs:List (List Int)}{m l:Nat}(h:(w6 rs l).length≤40):(W1 rs m l).length=w5 l m (n5 rs l):=by
 unfold W1
 rw[dn8,at6 (l:=l) (fun d hd=>(G0 hd).1) 40 h fun r hr=>(E8 hr).2,P3]
 rfl
theorem cp2 (laid:List (List Int))(c:List (List (Int×Int))):(M3 laid c).length=laid.length*c.length:=by
 unfold M3
 exact aa8 fun t _=>by rw[dn8]
theorem ac1 (p:List Int)(f:Nat→List (List (Int×Int)))(g:Nat→Nat):∀n (ks:List Nat),ks.length≤n→(∀k∈ks,(f k).length=g k)→(M4 p (ks.map f)).length=n0 g ks
 |0,ks,h,_=>by
  obtain rfl:ks=[]:=dx2.mp (by omega)
  rfl
 |n+1,ks,h,hf=>by
  by_cases c:ks=[]
  · rw[c];rfl
  · have e:=(eg1 c).symm
    have hx:ks.getLast c∈ks:=List.getLast_mem c
    generalize ks.getLast c=x at e hx
    have hd:∀k∈ks.dropLast,k∈ks:=fun k hk=>by rw[e];exact dt5 _ hk
    have hl:ks.dropLast.length≤n:=by rw[ef0];omega
    generalize ks.dropLast=ks' at e hd hl
    rw[e,do8,show [x].map f=[f x] from rfl,ay4,cp2,aw9,ac1 p f g n ks' hl (fun k hk=>hf k (hd k hk)),hf x hx]
theorem bp4 {g:Nat→Nat}:∀{ks:List Nat},n0 g ks≠0→∀k∈ks,1≤g k
 |x::ks,h,k,hk=>by
  have h:g x*n0 g ks≠0:=h
  have a:g x≠0:=fun z=>h (by rw[z,dz9])
  have b:n0 g ks≠0:=fun z=>h (by rw[z,ec0])
  rcases dp7.mp hk with rfl|hk
  · omega
  · exact bp4 b k hk
theorem at8 {g:Nat→Nat}:∀{ks:List Nat},(∀k∈ks,1≤g k)→1≤n0 g ks
 |[],_=>do1 _
 |x::ks,h=>dx9 (h x do3) (at8 fun k hk=>h k (do4 _ hk))
theorem cw7 {g:Nat→Nat}{ks:List Nat}(h:∀k∈ks,1≤g k){k:Nat}(hk:k∈ks):g k≤n0 g ks:=by
 induction ks with
 |nil=>cases hk
 |cons x ks ih=>
  show g k≤g x*n0 g ks
  rcases dp7.mp hk with rfl|hk
  · exact ds6 _ (at8 fun k hk=>h k (do4 _ hk))
  · exact dp4 (ih (fun k hk=>h k (do4 _ hk)) hk) (eb3 _ (h x do3))
theorem cj0 {g:Nat→Nat}{ks:List Nat}(h:∀k∈ks,1≤g k)(i:Nat):n0 g (ks.take i)≤n0 g ks:=by
 have e:=am1 g (ks.take i) (ks.drop i)
 rw[dt6] at e
 rw[e]
 exact ds6 _ (at8 fun k hk=>h k (dy4 hk))
def bp5:Sp:=fun vs H Q _=>∃n:Int,vs=[.int n]∧n≤2000∧Q .non H
theorem bc0:l8 ["many"] ["many"] (i7 W8):=⟨rfl,rfl,rfl,by decide+kernel,rfl,by decide+kernel,by decide+kernel⟩
theorem bc1 {f:Addr}{fd:FuncData}(F:A2 K "must_be_few" "must_be_few" W8 f fd)(g_MOST_TOLD:∃t,mg "MOST_TOLD"=some (.int 2000 t)):o8 P w K mg base A0 1 f fd ["many"] bp5:=by
 refine F.ok bc0 (fun vs H Q E h=> ?_) (fun cdv A outer s H vs Q E hr h=> ?_)
 · obtain ⟨n,rfl,hn,q⟩:=h
   rfl
 · obtain ⟨n,rfl,hn,q⟩:=h
   obtain ⟨_,m_MOST_TOLD⟩:=g_MOST_TOLD
   refine ⟨_,@e7 _ _ _ (@x9 _ _ _ _ _ _ _ _ (@m9 _ _ _ _ _ _ _ _ au9 (pv 0) (@bs6 _ _ (.int 2000) _ _ (by rfl) m_MOST_TOLD ⟨_,rfl⟩ (by decide)) (o9 _)) (@e7 _ _ _ (@N5 _ _)) (@p8 _)),?_⟩
   refine ⟨_,rfl,_,_,rfl,rfl,_,rfl,?_⟩
   rw[decide_eq_false (show ¬(2000:Int) < n by omega)]
   exact C8 q
structure Q2 (p:List Int)(m:Nat)(ts:List (List Int)):Prop where
 len:ts.length=t7 p m
 srt:ts.Pairwise (fun r r'=>HT.ao3 r' r=false)
 src:t7 p m=0∨∃ks:List Nat,ks.Nodup∧(∀k∈ks,∃r∈j6 p p.length,r.length=k)∧(∀r∈j6 p p.length,r.length∈ks)∧ts.Perm (M4 p (ks.map (W1 (j6 p p.length) m)))
def cb2 (H:Hp)(c:Addr)(ways:List (List (Int×Int))):Prop:=∃us,H c=some (.lst (us.map V.ref))∧E7 (aj7 H) us ways
theorem cb2.keep {H H':Hp}{c:Addr}{ways:List (List (Int×Int))}(h:cb2 H c ways)(s:e8 H H'):cb2 H' c ways:=by
 obtain ⟨us,a,b⟩:=h
 exact ⟨us,s _ _ a,b.imp fun u es _ e=>(Kp.of s).tab u es e⟩
def an4:Sp:=fun vs H Q _=>∃(a:Addr) (p:List Int) (m:Nat),vs=[.ref a,.int (m:Int)]∧B8 H a p∧1≤m∧t7 p m≤2000∧∀(o:Addr) (bs:List Addr) (ts:List (List Int)) (H':Hp),H o=none→H' o=some (.lst (bs.map V.ref))→k7 H' bs ts→Q2 p m ts→bs.Nodup→(∀b∈bs,H b=none)→o∉bs→Kp H H'→Q (.ref o) H'
theorem L6:l8 ["p","m","many","by_length","choices","length","rings"] ["p","m"] (i7 ad1):=⟨rfl,rfl,rfl,by decide+kernel,rfl,by decide+kernel,by decide+kernel⟩
theorem bp6 {f:Addr}{fd:FuncData}(F:A2 K "all_roots" "all_roots" ad1 f fd)(B:Bl mg)(c_how_many_roots:j7 P w K mg base "how_many_roots" 4 ["p","m"] am9)(c_must_be_few:j7 P w K mg base "must_be_few" 1 ["many"] bp5)(c_sort_by_length:j7 P w K mg base "sort_by_length" 1 ["rings"] af7)(c_walk_rings:j7 P w K mg base "walk_rings" 2 ["p"] P6)(c_ways_to_join:j7 P w K mg base "ways_to_join" 43 ["rings","right","m"] (an1 40))(c_right_numbers:j7 P w K mg base "right_numbers" 2 ["length","m","most"] aj0)(c_lay_every_way:j7 P w K mg base "lay_every_way" 1 ["p","choices"] cb0):o8 P w K mg base A0 44 f fd ["p","m"] an4:=by
 refine F.ok L6 (fun vs H Q E h=> ?_) (fun cdv A outer s H vs Q E hr h=> ?_)
 · obtain ⟨a,p,m,rfl,⟨ha,tp,lp⟩,m1,few,q⟩:=h
   rfl
 · obtain ⟨a,p,m,rfl,⟨ha,tp,lp⟩,m1,few,q⟩:=h
   have hr_how_many_roots:m7 4 _:=hr.mono (by decide)
   have hr_must_be_few:m7 1 _:=hr.mono (by decide)
   have hr_sort_by_length:m7 1 _:=hr.mono (by decide)
   have hr_walk_rings:m7 2 _:=hr.mono (by decide)
   have hr_ways_to_join:m7 43 _:=hr.mono (by decide)
   have hr_right_numbers:m7 2 _:=hr.mono (by decide)
   have hr_lay_every_way:m7 1 _:=hr.mono (by decide)
   have hu:=S8 hr
   refine ⟨_,@c7 _ _ _ _ _ (@i4 _ _ (2) _ _ _ _ L6.nd rfl (Or.inl rfl) (@h8 _ _ _ _ _ _ _ _ _ _ c_how_many_roots hr_how_many_roots (@c5 _ _ _ _ _ (pv 0) (@c5 _ _ _ _ _ (pv 1) (@c6 _) (by rfl)) (by rfl)) (by rfl) (by decide) (by rfl) (by rfl)) (by rfl) (by first|exact .inl rfl|exact .inr rfl|assumption)) (@c7 _ _ _ _ _ (@o7 _ _ _ _ (@h8 _ _ _ _ _ _ _ _ _ _ c_must_be_few hr_must_be_few (@c5 _ _ _ _ _ (pv 2) (@c6 _) (by rfl)) (by rfl) (by decide) (by rfl) (by rfl)) (by rfl)) (@c7 _ _ _ _ _ (@x9 _ _ _ _ _ _ _ _ (@m9 _ _ _ _ _ _ _ _ X7 (pv 2) (@i6 _ _ _ _) (o9 _)) (@e7 _ _ _ (@l6 _ _ _ _ (@w4 _ _ _ _ (@c6 _)))) (@p8 _)) (@c7 _ _ _ _ _ (@i4 _ _ (3) _ _ _ _ L6.nd rfl (Or.inl rfl) (@h8 _ _ _ _ _ _ _ _ _ _ c_sort_by_length hr_sort_by_length (@c5 _ _ _ _ _ (@h8 _ _ _ _ _ _ _ _ _ _ c_walk_rings hr_walk_rings (@c5 _ _ _ _ _ (pv 0) (@c6 _) (by rfl)) (by rfl) (by decide) (by rfl) (by rfl)) (@c6 _) (by rfl)) (by rfl) (by decide) (by rfl) (by rfl)) (by rfl) (by first|exact .inl rfl|exact .inr rfl|assumption)) (@c7 _ _ _ _ _ (@i4 _ _ (4) _ _ _ _ L6.nd rfl (Or.inl rfl) (@w4 _ _ _ _ (@c6 _)) (by rfl) (by first|exact .inl rfl|exact .inr rfl|assumption)) (@c7 _ _ _ _ _ (@o6 _ _ _ _ _ _ _ _ PassesOwn.never rfl (@bu3 _ _ _ _ (pv 3)) (@j5 _ _ (5) _ L6.nd rfl (Or.inl rfl) (by first|exact .inl rfl|exact .inr rfl|assumption)) (@c7 _ _ _ _ _ (@i4 _ _ (6) _ _ _ _ L6.nd rfl (Or.inl rfl) (@ao6 _ _ _ _ _ _ hu (pv 3) (pv 5) (fun _ _=>rfl)) (by rfl) (by first|exact .inl rfl|exact .inr rfl|assumption)) (@e7 _ _ _ (@o7 _ _ _ _ (@E4 _ _ _ _ _ _ _ (pv 4) (@c5 _ _ _ _ _ (@h8 _ _ _ _ _ _ _ _ _ _ c_ways_to_join hr_ways_to_join (@c5 _ _ _ _ _ (pv 6) (@c5 _ _ _ _ _ (@h8 _ _ _ _ _ _ _ _ _ _ c_right_numbers hr_right_numbers (@c5 _ _ _ _ _ (pv 5) (@c5 _ _ _ _ _ (pv 1) (@c5 _ _ _ _ _ (@t8 _ _ _ _ _ B.len (@c5 _ _ _ _ _ (pv 6) (@c6 _) (by rfl)) (by rfl) (by rfl)) (@c6 _) (by rfl)) (by rfl)) (by rfl)) (by rfl) (by decide) (by rfl) (by rfl)) (@c5 _ _ _ _ _ (pv 1) (@c6 _) (by rfl)) (by rfl)) (by rfl)) (by rfl) (by decide) (by rfl) (by rfl)) (@c6 _) (by rfl)) (by rfl) (by rfl) (by rfl) (by rfl) (by rfl)) (by rfl)))) (by intro _;rfl)) (@e7 _ _ _ (@l6 _ _ _ _ (@h8 _ _ _ _ _ _ _ _ _ _ c_lay_every_way hr_lay_every_way (@c5 _ _ _ _ _ (pv 0) (@c5 _ _ _ _ _ (pv 4) (@c6 _) (by rfl)) (by rfl)) (by rfl) (by decide) (by rfl) (by rfl))))))))),?_⟩
   refine ⟨_,rfl,_,rfl,a,p,m,rfl,⟨ha,tp,lp⟩,m1,fun H1 s1=> ?_⟩
   refine ⟨_,rfl,_,rfl,by omega,?_⟩
   refine ⟨_,rfl,rfl,_,rfl,?_⟩
   by_cases z0:t7 p m=0
   · rw[decide_eq_true (by rw[z0];rfl)]
     refine U4 ⟨dq3 _,fun o ho=> ?_⟩
     exact q o [] [] _ (s1.free ho) c8 ⟨rfl,fun j b r h=>by cases h⟩ ⟨by rw[z0];rfl,List.Pairwise.nil,.inl z0⟩ dv8 (fun b hb=>by cases hb) (fun z=>by cases z) (Kp.of (s1.trans (e8.upd_new ho)))
   rw[decide_eq_false (fun z=>z0 (by have:=V.int.inj z;omega))]
   refine C8 ?_
   refine ⟨_,rfl,a,p,rfl,⟨s1 a _ ha,tp,lp⟩,fun l as rs H2 hl s12 h2l rows up fa nda nla=> ?_⟩
   have cl:=ai9 up
   have fl:=aa4 tp up
   have ers:rs=j6 p p.length:=up.eq
   refine ⟨l,as,rs,rfl,h2l,rows,by omega,fun d es H3 hd s23 h3d bl les fre=> ?_⟩
   refine ⟨dq3 _,fun C hC=> ?_⟩
   have s4:e8 H3 (c9 H3 C (.lst [])):=e8.upd_new hC
   have h4C:(c9 H3 C (.lst [])) C=some (.lst (([]:List Addr).map V.ref)):=c8
   generalize (c9 H3 C (.lst []))=H4 at s4 h4C ⊢
   have hC2:H2 C=none:=s23.free hC
   have ndC:d≠C:=g6 h3d hC
   refine ⟨_,rfl,d,q5 es,rfl,s4 _ _ h3d,fun o=> ?_⟩
   have sB:e8 H2 (c9 H4 d (.frz o (.dK (q5 es)))):=(s23.trans s4).upd_r hd
   have hBd:(c9 H4 d (.frz o (.dK (q5 es)))) d=some (.frz o (.dK (q5 es))):=c8
   have kpB:∀c,c≠d→(c9 H4 d (.frz o (.dK (q5 es)))) c=H4 c:=fun c hc=>g8 hc
   have hBC:(c9 H4 d (.frz o (.dK (q5 es)))) C=some (.lst (([]:List Addr).map V.ref)):=by rw[g8 ndC.symm];exact h4C
   generalize (c9 H4 d (.frz o (.dK (q5 es))))=HB at sB hBd kpB hBC ⊢
   have lkv:(q5 es).length=es.length:=by unfold q5;rw[dn8]
   have hprod:n0 (fun l=>w5 l m (n5 rs l)) (es.map (·.1))=t7 p m:=by
     rw[am8 tp up bl.nk bl.key bl.all (f:=fun l=>w5 l m (n5 rs l)) fun u hu=>by show w5 u m (n5 rs u)=1;rw[hu];rfl,ers]
     rfl
   have pos:=bp4 (g:=fun l=>w5 l m (n5 rs l)) (ks:=es.map (·.1)) (by rw[hprod];exact z0)
   have fl40:∀k∈es.map (·.1),0 < k∧(w6 rs k).length*k≤40∧(w6 rs k).length≤40∧k≤40:=fun k hk=>by
     obtain ⟨r,hr,lr⟩:=bl.key k hk
     have rb:=rsb tp up r hr
     have e1:=O7 (l:=k) (rs:=w6 rs k) fun r hr=>(E8 hr).2
     have e2:=(M8 rs k).length_le
     have k1:0 < k:=by omega
     have e3:(w6 rs k).length*k≤40:=by rw[←e1];omega
     exact ⟨k1,e3,dp4 (ds6 _ k1) e3,by omega⟩
   have s02:e8 H H2:=s1.trans s12
   refine ar9 (fun i σ H6=>∃(cs:List Addr) (v5 v6:Option V),σ=[some (.ref a),some (.int (m:Int)),some (.int ((t7 p m:Nat):Int)),some (.ref d),some (.ref C),v5,v6]∧H6 C=some (.lst (cs.map V.ref))∧E7 (cb2 (J1 H6 [C])) cs (((es.take i).map (·.1)).map (W1 rs m))∧i8 C HB H6)
     ⟨[],none,none,rfl,hBC,E7.nil,i8.refl _ _⟩ (fun i σ H6 _ ⟨_,_,_,_,_,_,k⟩=>k _ _ hBd ndC) ?_ ?_
   · rintro i k v σ H6 hi ⟨cs,v5,v6,rfl,h6C,atc,kb6⟩
     unfold q5 at hi
     rw[do2] at hi
     cases hE:es[i]? with
     |none=>rw[hE] at hi;cases hi
     |some e=>
      rw[hE] at hi
      cases hi
      have he:=dp0 hE
      have hek:e.1∈es.map (·.1):=do9.mpr ⟨e,he,rfl⟩
      have il:i < es.length:=(do0.mp hE).1
      obtain ⟨k1,k2,k3,k4⟩:=fl40 e.1 hek
      obtain ⟨bs,hbs,rbs⟩:=bl.row e he
      have neC:e.2≠C:=g6 hbs hC
      have h6e:H6 e.2=some (.lst (bs.map V.ref)):=kb6 _ _ (by rw[kpB _ (bl.nd e he)];exact s4 _ _ hbs) neC
      have h6d:=kb6 _ _ hBd ndC
      have s26:e8 H2 H6:=sB.kb kb6 hC2
      have lbs:bs.length=n5 rs e.1:=by rw[rbs.1,P3]
      have ecnt:=P3 rs e.1
      refine ⟨_,rfl,_,rfl,d,.ref e.2,rfl,.inl ⟨q5 es,Sum.inl (e.1:Int),.inr ⟨o,h6d⟩,rfl,(bn6 bl.nk he).symm⟩,?_⟩
      refine ⟨_,rfl,.inl ⟨rfl,_,g9.of h6C⟩,_,rfl,_,rfl,_,rfl,_,rfl,e.2,_,rfl,.inl (g9.of h6e),e.1,m,n5 rs e.1,by rw[dn8,lbs];rfl,by omega,by omega,fun ra H7 hra s7 h7ra=> ?_⟩
      obtain ⟨d0,bas⟩:=ap5 (l:=e.1) (m:=m) (n:=n5 rs e.1) m1
      have jle:jf e.1 (p5 e.1 m (n5 rs e.1)) (w6 rs e.1).length≤2000:=by
        rw[ecnt]
        refine dp4 (show w5 e.1 m (n5 rs e.1)≤_ from cw7 (g:=fun l=>w5 l m (n5 rs l)) pos hek) ?_
        rw[hprod];exact few
      have jne:jf e.1 (p5 e.1 m (n5 rs e.1)) (w6 rs e.1).length≠0:=by
        rw[ecnt]
        have:1≤w5 e.1 m (n5 rs e.1):=pos e.1 hek
        intro y
        have y:w5 e.1 m (n5 rs e.1)=0:=y
        omega
      have fw:=ci8 (l:=e.1) bas k1 40 k3 (eb9 ecnt) (fun r hr=>(E8 hr).2) (ci7 bas _ _ (do1 _) jne) jle
      refine ⟨_,rfl,e.2,bs,w6 rs e.1,ra,p5 e.1 m (n5 rs e.1),e.1,m,rfl,s7 _ _ h6e,p6 rbs fun b _ u x=>s7 _ _ (s26 _ _ x),h7ra,k3,fun r hr=>(E8 hr).2,k1,k2,(M8 rs e.1).nodup up.nd,m1,fun d hd=>O8 hd,fw,fun oo us H8 hoo s8 h8o und ufr atw=> ?_⟩
      have s68:=s7.trans s8
      have lcs:cs.length≤40:=by
        have:=atc.1
        rw[dn8,dn8,dp5] at this
        omega
      have h7C:=s7 _ _ h6C
      refine ⟨C,_,_,rfl,rfl,s68 _ _ h6C,p9 (by rw[dn8];omega),?_⟩
      rw[show cs.map V.ref++[V.ref oo]=(cs++[oo]).map V.ref by rw[do8];rfl]
      refine ⟨cs++[oo],_,_,rfl,c8,?_,(kb6.trans (s68.but C)).upd_a⟩
      rw[bb6 do3,i9 hE,do8,do8]
      refine E7.snoc (atc.imp fun c ways _ h=>h.keep (C9 s68)) ?_
      have nC:∀u,H7 u=none→u∉[C]:=fun u hu z=>by rw[dp1.mp z,h7C] at hu;cases hu
      refine ⟨us,by rw[J5 (nC oo hoo)];exact h8o,?_⟩
      unfold W1
      refine ⟨by rw[atw.1,dn8],fun j u x e1 e2=> ?_⟩
      rw[do2] at e2
      obtain ⟨w,hw,ww⟩:=atw.get e1
      rw[hw] at e2
      cases e2
      refine .inl ?_
      rw[J5 (nC u (ufr u (dp0 e1)))]
      exact ww
   · rintro σ H6 ⟨cs,v5,v6,rfl,h6C,atc,kb6⟩
     rw[lkv,dq8] at atc
     have s26:e8 H2 H6:=sB.kb kb6 hC2
     have s06:=s02.trans s26
     have cntk:∀k∈es.map (·.1),(W1 rs m k).length=w5 k m (n5 rs k):=fun k hk=>bw6 (fl40 k hk).2.2.1
     refine ⟨_,rfl,_,rfl,a,C,p,cs,(es.map fun (x:Nat×Addr)=>x.1).map (W1 rs m),rfl,s06 _ _ ha,lp,h6C,atc.imp fun c ways _ h=>h.keep (bo7 _ _),fun ways hw x hx=> ?_,fun i=> ?_,fun oo bs ts H7 hoo h7o rowsB pr srt bnd bfr ob kp=> ?_⟩
     · obtain ⟨k,hk,rfl⟩:=do9.mp hw
       obtain ⟨k1,k2,k3,k4⟩:=fl40 k hk
       obtain ⟨w,hw',rfl⟩:=do9.mp hx
       have wo:=ay2 (l:=k) (m:=m) (ds:=p5 k m (n5 rs k)) (fun d hd=>(G0 hd).1) 40 k3 (fun r hr=>(E8 hr).2) hw'
       have rr:∀c∈w,L5 k m c.length:=fun c hc=>O8 (wo.right c hc).1
       have fnd:=(M8 rs k).nodup up.nd
       refine ⟨bp3 k1 m1 w rr (wo.perm.nodup_iff.mpr fnd),fun e he=> ?_⟩
       have em:=(aa9 k1 m1 w rr).1 e.1 (do9.mpr ⟨e,he,rfl⟩)
       have em:=(M8 rs k).mem (wo.perm.mem_iff.mp em)
       obtain ⟨r,hr,hxr⟩:=dp9.mp em
       obtain ⟨y,L,hy,pr2,er,_⟩:=up.ring r hr
       rw[er] at hxr
       exact N8 tp hy _ hxr
     · rw[←eh3,ac1 p (W1 rs m) (fun l=>w5 l m (n5 rs l)) _ _ (do1 _) fun k hk=>cntk k (du6 hk)]
       refine dp4 (cj0 pos i) ?_
       rw[hprod];exact few
     · refine q oo bs ts H7 (s06.free hoo) h7o rowsB ⟨?_,srt,.inr ⟨es.map (·.1),bl.nk,by rw[←ers];exact bl.key,by rw[←ers];exact bl.all,by rw[←ers];exact pr⟩⟩ bnd (fun b hb=>s06.free (bfr b hb)) ob ((Kp.of s06).trans kp)
       rw[pr.length_eq,ac1 p (W1 rs m) (fun l=>w5 l m (n5 rs l)) _ _ (do1 _) cntk,hprod]
end
end My
namespace My
open PySem L2 Mth
section
def Rg (p:List Int)(l:Nat)(r:List Int):Prop:=∃y,In p y∧C2 p y l∧r=l9 p y l
theorem Rg.rot {p:List Int}(t:j8 p){l:Nat}{r:List Int}(h:Rg p l r)(b:Nat)(hb:b < l):Rg p l (r.drop b++r.take b):=by
 obtain ⟨y,hy,py,rfl⟩:=h
 refine ⟨it p b y,G9 t hy b,py.shift t hy b,?_⟩
 refine dr3 fun i=> ?_
 have e1:∀j,(l9 p y l)[j]? =if j < l then some (it p j y) else none:=fun j=>by
   unfold l9
   rw[do2]
   by_cases c:j < l
   · rw[ds1 c,if_pos c];rfl
   · rw[do7 (by rw[dr0];omega),if_neg c];rfl
 have e2:(l9 p (it p b y) l)[i]? =if i < l then some (it p i (it p b y)) else none:=by
   unfold l9
   rw[do2]
   by_cases c:i < l
   · rw[ds1 c,if_pos c];rfl
   · rw[do7 (by rw[dr0];omega),if_neg c];rfl
 rw[e2,←B7]
 by_cases c:i < l - b
 · rw[dr6 (by rw[dr2,m8];exact c),dy2,e1,if_pos (by omega),if_pos (by omega),dv9]
 · rw[ds5 (by rw[dr2,m8];omega),dr2,m8,ed2]
   by_cases c2:i < l
   · rw[if_pos (by omega),e1,if_pos (by omega),if_pos c2]
     have e3:i+b=(i - (l - b))+l:=by omega
     rw[e3,B7,py.back]
   · rw[if_neg (by omega),if_neg c2]
theorem bw7 {p:List Int}(t:j8 p){l:Nat}{rs:List (List Int)}(h:∀r∈rs,Rg p l r):∀(i:Nat) {y:List Int×List (List Int)},i≤rs.length→y∈D0 rs i→Rg p l y.1
 |0,y,_,z=>by cases z
 |i+1,y,hi,z=>by
  rcases dp3.mp z with z|z
  · exact bw7 t h i (by omega) z
  · obtain ⟨b,hb,rfl⟩:=do9.mp z
    have il:i < rs.length:=by omega
    have eg:rs.getD i []=rs[i]:=by rw[do5,dn9 il];rfl
    have hr:=h _ (dr9 il)
    have hb:=dr4.mp hb
    show Rg p l ((rs.getD i []).drop b++(rs.getD i []).take b)
    rw[eg] at hb ⊢
    have hl:(rs[i]).length=l:=by
      obtain ⟨y,_,_,e⟩:=hr
      rw[e,m8]
    exact hr.rot t b (by omega)
theorem W2 {p:List Int}{l:Nat}{r:List Int}(h:Rg p l r):r.length=l:=by
 obtain ⟨y,_,_,e⟩:=h
 rw[e,m8]
theorem ab0 {p:List Int}(t:j8 p){l:Nat}{rs:List (List Int)}(h:∀r∈rs,Rg p l r):∀(k:Nat) {x:List (List Int)×List (List Int)},k < rs.length→x∈q9 rs k→∀r∈x.1,Rg p l r
 |0,x,hk,z,r,hr=>by
  rw[dp1.mp z] at hr
  have hr:r∈[rs.getD 0 []]:=hr
  rw[dp1.mp hr,do5,dn9 hk]
  exact h _ (dr9 hk)
 |k+1,x,hk,z,r,hr=>by
  obtain ⟨x',h',z⟩:=dt9.mp z
  obtain ⟨y,hy,rfl⟩:=do9.mp z
  have o:=E1 (fun r hr=>W2 (h r hr)) k (by omega) h'
  rcases dp3.mp hr with w|w
  · exact ab0 t h k (by omega) h' r w
  · rw[dp1.mp w]
    exact bw7 t (fun r hr=>h r (o.rows2 r hr)) _ (do1 _) hy
theorem cj1 {p:List Int}(t:j8 p){l:Nat}{ds:List Nat}(hd:∀d∈ds,1≤d):∀(f:Nat) {rs:List (List Int)} {w:List (List (List Int))},rs.length≤f→(∀r∈rs,Rg p l r)→w∈A4 ds f rs→∀c∈w,∀r∈c,Rg p l r
 |0,rs,w,hf,hl,h,c,hc=>by rw[dp1.mp h] at hc;cases hc
 |f+1,rs,w,hf,hl,h,c,hc=>by
  unfold A4 at h
  by_cases c0:rs.length=0
  · rw[if_pos c0] at h
    rw[dp1.mp h] at hc;cases hc
  · rw[if_neg c0] at h
    obtain ⟨d,hdm,h⟩:=dt9.mp h
    unfold P8 at h
    by_cases c2:d≤rs.length
    · rw[if_pos c2] at h
      obtain ⟨x,hx,h⟩:=dt9.mp h
      obtain ⟨w',hw',rfl⟩:=do9.mp h
      have d1:=hd d hdm
      have o:=E1 (fun r hr=>W2 (hl r hr)) (d - 1) (by omega) hx
      rcases dp3.mp hc with z|z
      · exact cj1 t hd f (by have:=o.left;omega) (fun r hr=>hl r (o.rows2 r hr)) hw' c z
      · rw[dp1.mp z]
        exact ab0 t hl (d - 1) (by omega) hx
    · rw[if_neg c2] at h;cases h
theorem cj2 {l k:Nat}(l0:0 < l)(c:dp8 l k=1){Rs:List (List Int)}(h:∀r∈Rs,r.length=l):∃J,C5 l k Rs J:=by
 have it_:=ah1 (d:=Rs.length) l0 c
 have pl:=U9 Rs.length l k
 have fl:=O7 h
 refine ⟨(ds0 (Rs.length*l)).map fun (i:Nat)=>Rs.flatten.getD ((N9 Rs.length l k).idxOf (i:Int)) 0,by rw[dn8,dr0],?_⟩
 refine dr3 fun n=> ?_
 rw[do2,do2]
 by_cases hn:n < Rs.length*l
 · have hp:n < (N9 Rs.length l k).length:=by omega
   rw[dn9 hp,dn9 (show n < Rs.flatten.length by omega)]
   have v0:=it_.lo _ (dr9 hp)
   have v1:=it_.hi _ (dr9 hp)
   show some (x6 _ _)=some (some _)
   congr 1
   unfold x6
   rw[do2,ds1 (by omega)]
   show some (Rs.flatten.getD ((N9 Rs.length l k).idxOf _) 0)=_
   rw[show (((N9 Rs.length l k)[n].toNat:Nat):Int)=(N9 Rs.length l k)[n] by omega,it_.nd.idxOf_getElem n hp,do5,dn9 (show n < Rs.flatten.length by omega)]
   rfl
 · rw[do7 (by omega),do7 (by omega)];rfl
theorem au0 {l m:Nat}{c:List (List Int)}(l0:0 < l)(m1:1≤m)(r:L5 l m c.length)(h:∀x∈c,x.length=l):∃k,m=c.length*k∧dp8 l k=1∧C5 l k c (B9 l m c):=by
 obtain ⟨k,e1,e2⟩:=r.parts m1
 obtain ⟨J,j⟩:=cj2 l0 e2 h
 exact ⟨k,e1,e2,by rw[at3 l0 r.1 e1 e2 j];exact j⟩
inductive Pkd:List (List (Int×Int))→List (List (List (Int×Int)))→Prop
 |nil:Pkd [] []
 |cons {es:List (Int×Int)} {ess:List (List (Int×Int))} {ways:List (List (Int×Int))} {chs:List (List (List (Int×Int)))}:es∈ways→Pkd ess chs→Pkd (es::ess) (ways::chs)
theorem bp7:∀(chs:List (List (List (Int×Int)))) (laid:List (List Int)) {t:List Int},t∈chs.foldl M3 laid→∃t0∈laid,∃ess,Pkd ess chs∧t=q0 t0 ess.flatten
 |[],laid,t,h=>⟨t,h,[],.nil,rfl⟩
 |c::chs,laid,t,h=>by
  obtain ⟨t1,h1,ess,pk,e⟩:=bp7 chs (M3 laid c) h
  obtain ⟨t0,h0,z⟩:=dt9.mp h1
  obtain ⟨es,hes,rfl⟩:=do9.mp z
  refine ⟨t0,h0,es::ess,.cons hes pk,?_⟩
  rw[e,dq1]
  unfold q0
  rw[ed7]
theorem ay5:∀(es:List (Int×Int)) (t:List Int) {x:Int},0≤x→(∀e∈es,0≤e.1)→x∉es.map (·.1)→x6 (q0 t es) x=x6 t x
 |[],t,x,_,_,_=>rfl
 |e::es,t,x,x0,lo,h=>by
  rw[dr7,dp7,not_or] at h
  show x6 (q0 (t.set e.1.toNat e.2) es) x=_
  rw[ay5 es _ x0 (fun e he=>lo e (do4 _ he)) h.2,ae4 x0 (lo e do3) h.1]
theorem an5:∀(es:List (Int×Int)) (t:List Int),(es.map (·.1)).Nodup→(∀e∈es,0≤e.1∧e.1 < (t.length:Int))→∀e∈es,x6 (q0 t es) e.1=some e.2
 |[],_,_,_,e,h=>by cases h
 |x::es,t,nd,b,e,h=>by
  rw[dr7,dr5] at nd
  have bx:=b x do3
  show x6 (q0 (t.set x.1.toNat x.2) es) e.1=_
  rcases dp7.mp h with rfl|h
  · rw[ay5 es _ bx.1 (fun e he=>(b e (do4 _ he)).1) nd.1]
    exact ag9 (by omega)
  · exact an5 es _ nd.2 (fun e he=>by rw[ea9];exact b e (do4 _ he)) e h
end
end My
namespace My
open PySem L2 Mth
section
theorem bc2 {p:List Int}{rs:List (List Int)}(up:A7 p p.length rs){r:List Int}(hr:r∈rs):Rg p r.length r:=by
 obtain ⟨y,L,hy,pr,er,_⟩:=up.ring r hr
 exact ⟨y,hy,by rw[er,m8];exact pr,by rw[er,m8]⟩
theorem af9 {p:List Int}(t:j8 p){l:Nat}{r:List Int}(h:Rg p l r){x:Int}(hx:x∈r):In p x∧C2 p x l∧J7 p x=l:=by
 obtain ⟨y,hy,py,rfl⟩:=h
 obtain ⟨j,_,rfl⟩:=B0.mp hx
 have:=py.shift t hy j
 exact ⟨G9 t hy j,this,M2 this⟩
structure dl9 (p:List Int)(rs:List (List Int))(m k:Nat)(es:List (Int×Int))(w:List (List (List Int))):Prop where
 eq:es=M5 k m w
 perm:(w.map ec1).flatten.Perm (w6 rs k).flatten
 right:∀c∈w,L5 k m c.length
 rg:∀c∈w,∀r∈c,Rg p k r
 nd:(es.map (·.1)).Nodup
 keys:∀x∈es.map (·.1),In p x∧J7 p x=k
theorem bh8 {p:List Int}(t:j8 p)(lp:p.length≤40){rs:List (List Int)}(up:A7 p p.length rs){m k:Nat}(m1:1≤m)(k1:0 < k){es:List (Int×Int)}(h:es∈W1 rs m k):∃w,dl9 p rs m k es w:=by
 obtain ⟨w,hw,rfl⟩:=do9.mp h
 have fr:∀r∈w6 rs k,Rg p k r:=fun r hr=>by
   have:=bc2 up (E8 hr).1
   rw[(E8 hr).2] at this
   exact this
 have fl:=aa4 t up
 have e1:=O7 (l:=k) (rs:=w6 rs k) fun r hr=>(E8 hr).2
 have e2:=(M8 rs k).length_le
 have k3:(w6 rs k).length≤40:=dp4 (ds6 _ k1) (by rw[←e1];omega)
 have wo:=ay2 (l:=k) (m:=m) (ds:=p5 k m (n5 rs k)) (fun d hd=>(G0 hd).1) 40 k3 (fun r hr=>(E8 hr).2) hw
 have rr:∀c∈w,L5 k m c.length:=fun c hc=>O8 (wo.right c hc).1
 have fnd:=(M8 rs k).nodup up.nd
 refine ⟨w,rfl,wo.perm,rr,cj1 t (fun d hd=>(G0 hd).1) 40 k3 fr hw,bp3 k1 m1 w rr (wo.perm.nodup_iff.mpr fnd),fun x hx=> ?_⟩
 obtain ⟨r,hr,hxr⟩:=dp9.mp (wo.perm.mem_iff.mp ((aa9 k1 m1 w rr).1 x hx))
 obtain ⟨a,_,b⟩:=af9 t (fr r hr) hxr
 exact ⟨a,b⟩
theorem au1 {p:List Int}{f:Nat→List (List (Int×Int))}:∀(ks:List Nat) {ess:List (List (Int×Int))},ks.Nodup→(∀k∈ks,∀es∈f k,(es.map (·.1)).Nodup∧∀x∈es.map (·.1),In p x∧J7 p x=k)→Pkd ess (ks.map f)→(ess.flatten.map (·.1)).Nodup∧(∀x∈ess.flatten.map (·.1),In p x∧J7 p x∈ks)∧∀k∈ks,∃es∈ess,es∈f k
 |[],ess,_,_,pk=>by
  cases pk
  exact ⟨dv8,(fun x hx=>by cases hx),(fun k hk=>by cases hk)⟩
 |k::ks,ess,nk,h,pk=>by
  cases pk with
  |cons hes pk=>
   rename_i es ess
   rw[dr5] at nk
   obtain ⟨a,b,c⟩:=au1 ks nk.2 (fun k hk=>h k (do4 _ hk)) pk
   obtain ⟨d,e⟩:=h k do3 es hes
   rw[dq1,do8]
   refine ⟨?_,fun x hx=> ?_,fun k' hk'=> ?_⟩
   · rw[dt7]
     refine ⟨d,a,fun x hx y hy z=> ?_⟩
     have e1:=(e x hx).2
     have e2:=(b y hy).2
     rw[←z,e1] at e2
     exact nk.1 e2
   · rcases dp3.mp hx with z|z
     · exact ⟨(e x z).1,by rw[(e x z).2];exact do3⟩
     · exact ⟨(b x z).1,do4 _ (b x z).2⟩
   · rcases dp7.mp hk' with rfl|hk'
     · exact ⟨es,do3,hes⟩
     · obtain ⟨es',h1,h2⟩:=c k' hk'
       exact ⟨es',do4 _ h1,h2⟩
theorem bg4 {p:List Int}{m:Nat}(tp:j8 p)(lp:p.length≤40)(m1:1≤m){ks:List Nat}(nk:ks.Nodup)(h1:∀k∈ks,∃r∈j6 p p.length,r.length=k)(h2:∀r∈j6 p p.length,r.length∈ks){t:List Int}(ht:t∈M4 p (ks.map (W1 (j6 p p.length) m))):j8 t∧o3 t (m:Int) p:=by
 have up:=O0 tp
 generalize j6 p p.length=rs at up h1 h2 ht
 have k0:∀k∈ks,0 < k:=fun k hk=>by
   obtain ⟨r,hr,e⟩:=h1 k hk
   have:=(rsb tp up r hr).1
   omega
 have hlen:=bg1 p _ t ht
 obtain ⟨t0,h0,ess,pk,et⟩:=bp7 _ _ ht
 rw[dp1.mp h0] at et
 obtain ⟨knd,kin,kall⟩:=au1 (p:=p) ks nk (fun k hk es hes=>by
   obtain ⟨w,o⟩:=bh8 tp lp up m1 (k0 k hk) hes
   exact ⟨o.nd,o.keys⟩) pk
 have put:=an5 ess.flatten p knd fun e he=>(kin e.1 (do9.mpr ⟨e,he,rfl⟩)).1
 rw[←et] at put
 have key:∀x,In p x→∃J,G4 t J∧ax2 p m J x:=fun x hx=>by
   obtain ⟨r0,hr0,hxr⟩:=dp9.mp (up.all x hx.1 hx.2)
   obtain ⟨es,hes,hef⟩:=kall r0.length (h2 r0 hr0)
   have k1:=k0 _ (h2 r0 hr0)
   obtain ⟨w,o⟩:=bh8 tp lp up m1 k1 hef
   have xf:x∈(w6 rs r0.length).flatten:=dp9.mpr ⟨r0,by unfold w6;exact dt8.mpr ⟨hr0,decide_eq_true rfl⟩,hxr⟩
   obtain ⟨cf,hcf,hxc⟩:=dp9.mp (o.perm.mem_iff.mpr xf)
   obtain ⟨c,hc,rfl⟩:=do9.mp hcf
   obtain ⟨row,hrow,hxrow⟩:=dp9.mp hxc
   obtain ⟨a,ha⟩:=dq9.mp hrow
   have al:=(do0.mp ha).1
   have rows:∀r∈c,r.length=r0.length:=fun r hr=>W2 (o.rg c hc r hr)
   obtain ⟨kk,e1,e2,js⟩:=au0 k1 m1 (o.right c hc) rows
   obtain ⟨y,hy,py,er⟩:=o.rg c hc row hrow
   rw[er] at hxrow
   obtain ⟨b,hb,ex⟩:=B0.mp hxrow
   have pm:=js.perm k1 e2
   have cnd:c.flatten.Nodup:=by
     have n1:((w.map ec1).flatten).Nodup:=o.perm.nodup_iff.mpr ((M8 rs _).nodup up.nd)
     exact (List.pairwise_flatten.mp n1).1 _ (do9.mpr ⟨c,hc,rfl⟩)
   refine ⟨B9 r0.length m c,⟨fun z=> ?_,pm.nodup_iff.mpr cnd,fun z hz=> ?_,fun j hj=> ?_⟩,r0.length,kk,c,a,b,y,k1,e1,e2,rows,js,al,hb,hy,py,by rw[do5,ha];exact er,ex⟩
   · have:=js.len
     rw[z] at this
     have p1:0 < c.length*r0.length:=dx9 (by omega) k1
     rw[←this] at p1
     exact absurd p1 (by simp)
   · obtain ⟨r,hr,hzr⟩:=dp9.mp (pm.mem_iff.mp hz)
     exact (af9 tp (o.rg c hc r hr) hzr).1.1
   · refine put ((B9 r0.length m c).getD j 0,(B9 r0.length m c).getD ((j+1)%(B9 r0.length m c).length) 0) (dp9.mpr ⟨es,hes,?_⟩)
     rw[o.eq]
     exact dt9.mpr ⟨c,hc,do9.mpr ⟨j,dr4.mpr hj,rfl⟩⟩
 have qs:∀n,n≤p.length→∃qs:List (List Int),(∀J∈qs,G4 t J)∧∀x:Int,0≤x→x < (n:Int)→∃J∈qs,ax2 p m J x:=fun n=>by
   induction n with
   |zero=>exact fun _=>⟨[],(fun J hJ=>by cases hJ),fun x a b=>by omega⟩
   |succ n ih=>
    intro hn
    obtain ⟨qs,a,b⟩:=ih (by omega)
    obtain ⟨J,c,d⟩:=key (n:Int) ⟨by omega,by omega⟩
    refine ⟨J::qs,fun J' hJ'=> ?_,fun x x0 x1=> ?_⟩
    · rcases dp7.mp hJ' with rfl|z
      · exact c
      · exact a J' z
    · by_cases e:x=(n:Int)
      · rw[e];exact ⟨J,do3,d⟩
      · obtain ⟨J',h1,h2⟩:=b x x0 (by omega)
        exact ⟨J',do4 _ h1,h2⟩
 obtain ⟨qs,a,b⟩:=qs p.length (do1 _)
 exact bu5 tp hlen a fun x hx=>b x hx.1 hx.2
theorem Q2.root {p:List Int}{m:Nat}{ts:List (List Int)}(h:Q2 p m ts)(tp:j8 p)(lp:p.length≤40)(m1:1≤m):∀t∈ts,j8 t∧o3 t (m:Int) p:=fun t ht=>by
 rcases h.src with z|⟨ks,nk,h1,h2,pr⟩
 · have:=h.len
   rw[z] at this
   rw[dx2.mp this] at ht
   cases ht
 · exact bg4 tp lp m1 nk h1 h2 (pr.mem_iff.mp ht)
end
end My
namespace My
open PySem L2 Mth
section
theorem W3 {α β:Type}{f:α→List β}{q:β→Bool}{g:α→Bool}:∀{xs:List α},(∀x∈xs,(f x).countP q=if g x=true then 1 else 0)→(xs.flatMap f).countP q=xs.countP g
 |[],_=>rfl
 |x::xs,h=>by
  rw[ds9,eg3,h x do3,W3 fun y hy=>h y (do4 _ hy),dv5,dv9]
theorem cj3 {z:Int}:∀{xs:List Int},xs.Nodup→z∈xs→xs.countP (fun x=>decide (x=z))=1
 |x::xs,nd,h=>by
  rw[dr5] at nd
  rw[dv5]
  by_cases c:x=z
  · rw[if_pos (decide_eq_true c),dv3.mpr fun y hy e=>nd.1 (by rw[c,←of_decide_eq_true e];exact hy)]
  · rw[if_neg (by rw[decide_eq_false c];decide),cj3 nd.2 ((dp7.mp h).resolve_left fun e=>c e.symm)]
theorem bw9 {z:Nat}:∀{xs:List Nat},xs.Nodup→z∈xs→xs.countP (fun x=>decide (x=z))=1
 |x::xs,nd,h=>by
  rw[dr5] at nd
  rw[dv5]
  by_cases c:x=z
  · rw[if_pos (decide_eq_true c),dv3.mpr fun y hy e=>nd.1 (by rw[c,←of_decide_eq_true e];exact hy)]
  · rw[if_neg (by rw[decide_eq_false c];decide),bw9 nd.2 ((dp7.mp h).resolve_left fun e=>c e.symm)]
theorem ay6 (rs:List (List Int)):∀i,i≤rs.length→(D0 rs i).map (fun y=>y.1.getD 0 0)=(rs.take i).flatten
 |0,_=>rfl
 |i+1,h=>by
  show (D0 rs i++W0 rs i (rs.getD i [])).map _=_
  have il:i < rs.length:=by omega
  have eg:rs.getD i []=rs[i]:=by rw[do5,dn9 il];rfl
  rw[do8,ay6 rs i (by omega),ei9,dn9 il,ds4]
  congr 1
  show _=[rs[i]].flatten
  rw[du7,eg]
  unfold W0
  rw[ds7]
  refine dr3 fun b=> ?_
  rw[do2]
  by_cases hb:b < rs[i].length
  · rw[ds1 hb,dn9 hb]
    show some ((rs[i].drop b++rs[i].take b).getD 0 0)=_
    rw[do5,dr6 (by rw[dr2];omega),dy2,dw0,dn9 hb];rfl
  · rw[do7 (by rw[dr0];omega),do7 (by omega)];rfl
theorem cp3 {rs:List (List Int)}(nd:rs.flatten.Nodup){z:Int}(hz:z∈rs.flatten):(D0 rs rs.length).countP (fun y=>decide (y.1.getD 0 0=z))=1:=by
 have e:=ay6 rs rs.length (do1 _)
 rw[dq8] at e
 have h:((D0 rs rs.length).map (fun y=>y.1.getD 0 0)).countP (fun x=>decide (x=z))=1:=by
   rw[e];exact cj3 nd hz
 rw[dy6] at h
 exact h
theorem ak1:∀{a b:List Int},a.Nodup→(∀x∈a,x∈b)→a.length≤b.length
 |[],_,_,_=>dq3 _
 |x::a,b,nd,h=>by
  rw[dr5] at nd
  have hx:=h x do3
  have:=ak1 (b:=b.erase x) nd.2 fun y hy=>(ef1 (fun (e:y=x)=>nd.1 (by rw[←e];exact hy))).mpr (h y (do4 _ hy))
  rw[eh4 hx] at this
  have:=ed9 hx
  rw[dr8]
  omega
def hdC (c:List (List Int)):List Int:=c.map fun r=>r.getD 0 0
theorem bx0 {p:List Int}{l:Nat}(l0:0 < l){r:List Int}(h:Rg p l r):r=l9 p (r.getD 0 0) l∧In p (r.getD 0 0)∧C2 p (r.getD 0 0) l:=by
 obtain ⟨y,hy,py,rfl⟩:=h
 have e:(l9 p y l).getD 0 0=y:=by rw[do5,S3 l0];rfl
 rw[e]
 exact ⟨rfl,hy,py⟩
theorem aj8 {p:List Int}{l:Nat}(l0:0 < l){c:List (List Int)}(h:∀r∈c,Rg p l r):c=(hdC c).map fun z=>l9 p z l:=by
 unfold hdC
 rw[ds7]
 conv=>lhs;rw[←eb5 c]
 exact dt3 fun r hr=>(bx0 l0 (h r hr)).1
theorem au2 {l:Nat}{rs:List (List Int)}(hl:∀r∈rs,r.length=l)(nd:rs.flatten.Nodup){k:Nat}{x:List (List Int)×List (List Int)}(hk:k < rs.length)(hx:x∈q9 rs k):x.1.flatten.Nodup∧x.2.flatten.Nodup∧(∀u∈x.1.flatten,u∉x.2.flatten)∧∀u,u∈rs.flatten↔u∈x.1.flatten∨u∈x.2.flatten:=by
 have o:=E1 hl k hk hx
 have n:=o.perm.nodup_iff.mpr nd
 rw[dt7] at n
 exact ⟨n.1,n.2.1,fun u h1 h2=>n.2.2 u h1 u h2 rfl,fun u=>by rw[←o.perm.mem_iff,dp3]⟩
theorem bg5 {p:List Int}(tp:j8 p){l:Nat}(l0:0 < l){rs:List (List Int)}(hr:∀r∈rs,Rg p l r)(nd:rs.flatten.Nodup){z:Nat→Int}(h0:(rs.getD 0 []).getD 0 0=z 0){n:Nat}(hz:∀a,a < n→z a∈rs.flatten)(ap:∀a b,a < b→b < n→z b∉l9 p (z a) l):∀k,k < rs.length→k < n→(q9 rs k).countP (fun x=>decide (hdC x.1=(ds0 (k+1)).map z))=1
 |0,hk,_=>by
  show List.countP _ [([rs.getD 0 []],rs.drop 1)]=1
  rw[List.countP_singleton,if_pos]
  refine decide_eq_true ?_
  show [(rs.getD 0 []).getD 0 0]=[z 0]
  rw[h0]
 |k+1,hk,hn=>by
  show ((q9 rs k).flatMap nxC).countP _=1
  rw[W3 (g:=fun x=>decide (hdC x.1=(ds0 (k+1)).map z)),bg5 tp l0 hr nd h0 hz ap k (by omega) (by omega)]
  intro x hx
  have o:=E1 (fun r hr'=>W2 (hr r hr')) k (by omega) hx
  obtain ⟨n1,n2,n3,n4⟩:=au2 (fun r hr'=>W2 (hr r hr')) nd (by omega) hx
  unfold nxC
  rw[dy6]
  by_cases c:hdC x.1=(ds0 (k+1)).map z
  · rw[if_pos (decide_eq_true c)]
    have hzk:z (k+1)∈x.2.flatten:=by
      refine ((n4 _).mp (hz (k+1) hn)).resolve_left fun w=> ?_
      rw[aj8 l0 (ab0 tp hr k (by omega) hx),c,ds7] at w
      obtain ⟨r,hr',hw⟩:=dp9.mp w
      obtain ⟨a,ha,rfl⟩:=do9.mp hr'
      exact ap a (k+1) (dr4.mp ha) hn hw
    refine Eq.trans ?_ (cp3 n2 hzk)
    refine dy7 fun y hy=> ?_
    show decide (hdC (x.1++[y.1])=(ds0 (k+1+1)).map z)=true↔decide (y.1.getD 0 0=z (k+1))=true
    rw[ea0,do8,decide_eq_true_iff,decide_eq_true_iff]
    unfold hdC at c ⊢
    rw[do8,c]
    constructor
    · intro e
      have:=List.append_cancel_left e
      exact (List.cons.inj this).1
    · intro e
      show _++[y.1.getD 0 0]=_++[z (k+1)]
      rw[e]
  · rw[if_neg (by rw[decide_eq_false c];decide),dv3]
    intro y hy e
    have e:hdC (x.1++[y.1])=(ds0 (k+1+1)).map z:=of_decide_eq_true e
    unfold hdC at c e
    rw[ea0,do8,do8] at e
    refine c (List.append_inj e ?_).1
    rw[dn8,dn8,dr0,o.len]
end
end My
namespace My
open PySem L2 Mth
section
theorem dd7 {t:List Int}(tt:j8 t){x:Int}(hx:In t x){L:Nat}(h:C2 t x L){i j:Nat}(hi:i < L)(hj:j < L)(e:it t i x=it t j x):i=j:=by
 have key:∀{i j:Nat},i≤j→j < L→it t i x=it t j x→i=j:=fun {i j} c hj e=>by
   have e2:it t (j - i) (it t i x)=it t i x:=by rw[←B7,dz4 c,e]
   obtain ⟨q,hq⟩:=bu2 (h.shift tt hx i) e2
   rcases q with _|q
   · omega
   · rw[ef6] at hq;omega
 rcases Nat.le_total i j with c|c
 · exact key c hj e
 · exact (key c hi e.symm).symm
theorem ap6 {p t:List Int}{m:Nat}(tt:j8 t)(pw:o3 t (m:Int) p){x:Int}(hx:In t x)(i:Nat):it p i x=it t (m*i) x:=by
 obtain ⟨L,hL⟩:=ae6 tt hx
 exact ax4 tt pw hx hL (by rw[Int.sub_self];rfl) i
structure ag0 (t:List Int)(m l:Nat)(x:Int)(d k:Nat):Prop where
 per:C2 t x (d*l)
 d1:1≤d
 em:m=d*k
 co:dp8 l k=1
 right:dp8 (d*l) m=d
theorem cw8 {p t:List Int}{m l:Nat}(tt:j8 t)(pw:o3 t (m:Int) p){x:Int}(hx:In t x)(hl:C2 p x l):∃d k,ag0 t m l x d k:=by
 obtain ⟨L,hL⟩:=ae6 tt hx
 have el:=hl.uniq (bu6 tt pw hx hL (m:=m) (by rw[Int.sub_self];rfl))
 have gp:0 < dp8 L m:=ed5 _ hL.pos
 have cp:dp8 (L/dp8 L m) (m/dp8 L m)=1:=eb7 gp
 have e1:L=dp8 L m*l:=by rw[el,ec5 (ee5 L m)]
 have e2:m=dp8 L m*(m/dp8 L m):=(ec5 (dy5 L m)).symm
 refine ⟨dp8 L m,m/dp8 L m,by rw[←e1];exact hL,gp,e2,by rw[el];exact cp,by rw[←e1]⟩
theorem ag0.apart {p t:List Int}{m l:Nat}(tt:j8 t)(pw:o3 t (m:Int) p){x:Int}(hx:In t x){d k:Nat}(h:ag0 t m l x d k)(l0:0 < l){a b:Nat}(hab:a < b)(hb:b < d):it t b x∉l9 p (it t a x) l:=fun w=>by
 obtain ⟨j,hj,e⟩:=B0.mp w
 rw[ap6 tt pw (G9 tt hx a),←B7,←T3 h.per.back (m*j+a)] at e
 have dl:d≤d*l:=ds6 _ l0
 have e1:=dd7 tt hx h.per (i:=b) (j:=(m*j+a)%(d*l)) (by omega) (dv6 _ (by omega)) e
 have e2:b%d=a%d:=by
   rw[e1,Nat.mod_mod_of_dvd _ (Nat.dvd_mul_right d l),h.em,dw3,ei5]
 rw[du3 hb,du3 (show a < d by omega)] at e2
 omega
def ac2 (p t:List Int)(x:Int)(l d:Nat):List (List Int):=(ds0 d).map fun a=>l9 p (it t a x) l
theorem an6 (p t:List Int)(x:Int)(l d:Nat):(ac2 p t x l d).length=d:=by unfold ac2;rw[dn8,dr0]
theorem ag0.join {p t:List Int}{m l:Nat}(tt:j8 t)(pw:o3 t (m:Int) p){x:Int}(hx:In t x){d k:Nat}(h:ag0 t m l x d k)(l0:0 < l):C5 l k (ac2 p t x l d) (l9 t x (d*l)):=by
 have rl:=an6 p t x l d
 have rows:∀r∈ac2 p t x l d,r.length=l:=fun r hr=>by
   obtain ⟨a,_,rfl⟩:=do9.mp hr
   exact m8 _ _ _
 have fg:=Z6 l0 rows
 refine ⟨by rw[m8,rl],?_⟩
 rw[rl]
 refine dr3 fun n=> ?_
 rw[do2,do2]
 by_cases hn:n < d*l
 · have en:n/l*l+n%l=n:=by rw[du0];exact ef4 n l
   have ha:=ao8 hn
   have hb:=dv6 n l0
   have f1:=fg.2 (n/l) (n%l) (by rw[rl];exact ha) hb
   rw[en] at f1
   have g1:(ac2 p t x l d).getD (n/l) []=l9 p (it t (n/l) x) l:=by
     unfold ac2
     rw[do5,do2,ds1 ha];rfl
   rw[f1,g1,S3 hb]
   unfold N9
   rw[do2,ds1 hn]
   have pl:=ae8 (k:=k) (step:=n%l) ha l0
   show some (x6 (l9 t x (d*l)) ((G6 d l k (n/l) (n%l):Nat):Int))=some (some _)
   unfold x6
   rw[dr1,S3 pl,ap6 tt pw (G9 tt hx _),←B7,←ba1 ha l0,T3 h.per.back,←h.em,dv9,du0]
 · rw[do7 (by rw[U9];omega),do7 (by rw[fg.1,rl];omega)];rfl
def N4 (t:List Int)(es:List (Int×Int)):Bool:=es.all fun e=>decide (nx t e.1=e.2)
theorem bc3 (t:List Int)(a b:List (Int×Int)):N4 t (a++b)=(N4 t a&&N4 t b):=List.all_append
theorem bc4 {t:List Int}{es:List (Int×Int)}:N4 t es=true↔∀e∈es,nx t e.1=e.2:=by
 unfold N4
 rw[dx8]
 exact ⟨fun h e he=>of_decide_eq_true (h e he),fun h e he=>decide_eq_true (h e he)⟩
theorem cp4 {p t:List Int}{m l:Nat}(tp:j8 p)(tt:j8 t)(pw:o3 t (m:Int) p)(m1:1≤m)(l0:0 < l){c:List (List Int)}(hc:∀r∈c,Rg p l r)(nd:c.flatten.Nodup)(rd:L5 l m c.length){x:Int}{d k:Nat}(ra:ag0 t m l x d k)(hx:In t x)(h0:(c.getD 0 []).getD 0 0=x):
   N4 t (C7 (B9 l m c))=true↔c.length=d∧hdC c=(ds0 d).map fun a=>it t a x:=by
 have rows:∀r∈c,r.length=l:=fun r hr=>W2 (hc r hr)
 have pt:p.length=t.length:=pw.1
 constructor
 · intro ok
   have ok:=bc4.mp ok
   obtain ⟨kk,e1,e2,js⟩:=au0 l0 m1 rd rows
   generalize B9 l m c=J at ok js
   have pm:=js.perm l0 e2
   have Jl:=js.len
   have c1:c.length≤c.length*l:=ds6 _ l0
   have inJ:∀u∈J,In p u:=fun u hu=>by
     obtain ⟨r,hr,hur⟩:=dp9.mp (pm.mem_iff.mp hu)
     exact (af9 tp (hc r hr) hur).1
   have ro:G4 t J:=⟨fun z=>by
       rw[z] at Jl
       have:=rd.1
       simp only[ec6] at Jl
       omega,pm.nodup_iff.mpr nd,fun u hu=>(inJ u hu).1,fun j hj=>by
       have hm:J.getD j 0∈J:=by rw[E3 hj];exact dr9 hj
       have hi:=inJ _ hm
       rw[Q9 (p:=t) ⟨hi.1,by rw[←pt];exact hi.2⟩]
       exact congrArg some (ok (J.getD j 0,J.getD ((j+1)%J.length) 0) (do9.mpr ⟨j,dr4.mpr hj,rfl⟩))⟩
   have pos0:∀a,G6 c.length l kk a 0=a:=fun a=>by
     unfold G6
     rw[dz9,Nat.zero_mod,ec0,dw0]
   have J0:J.getD 0 0=x:=by
     have:=js.get l0 rows (a:=0) (b:=0) (by have:=rd.1;omega) l0
     rw[pos0] at this
     rw[this,h0]
   have jl0:0 < J.length:=by have:=rd.1;omega
   have pr:=ro.per jl0
   rw[J0,Jl] at pr
   have ed:c.length=d:=Nat.eq_of_mul_eq_mul_right l0 (pr.uniq ra.per)
   refine ⟨ed,?_⟩
   refine dr3 fun a=> ?_
   unfold hdC
   rw[do2,do2]
   by_cases ha:a < c.length
   · rw[ds1 (by omega),dn9 ha]
     have g:=js.get l0 rows (a:=a) (b:=0) ha l0
     rw[pos0] at g
     have i1:=ro.it jl0 a
     rw[J0,dz8,du3 (by omega),g] at i1
     have eg:c.getD a []=c[a]:=by rw[do5,dn9 ha];rfl
     rw[eg] at i1
     exact congrArg some i1.symm
   · rw[do7 (by omega),do7 (by rw[dr0];omega)];rfl
 · rintro ⟨ed,eh⟩
   have ec:c=ac2 p t x l d:=by
     rw[aj8 l0 hc,eh,ds7];rfl
   have j:=ra.join tt pw hx l0
   have ej:B9 l m c=l9 t x (d*l):=by
     rw[ec]
     exact at3 l0 (by rw[an6];exact ra.d1) (by rw[an6];exact ra.em) ra.co j
   rw[ej,bc4]
   intro e he
   obtain ⟨i,hi,rfl⟩:=do9.mp he
   have hi:=dr4.mp hi
   rw[m8] at hi
   show nx t ((l9 t x (d*l)).getD i 0)=(l9 t x (d*l)).getD ((i+1)%(l9 t x (d*l)).length) 0
   have hp:0 < d*l:=by omega
   rw[m8,do5,S3 hi,do5,S3 (dv6 _ hp),T3 ra.per.back]
   rfl
theorem ay7 {rs:List (List Int)}:∀(k:Nat) {x:List (List Int)×List (List Int)},x∈q9 rs k→x.1.getD 0 []=rs.getD 0 []
 |0,x,h=>by rw[dp1.mp h];rfl
 |k+1,x,h=>by
  obtain ⟨x',h',z⟩:=dt9.mp h
  obtain ⟨y,hy,rfl⟩:=do9.mp z
  have l1:=(an0 k h').2.2
  rw[←ay7 k h']
  show (x'.1++[y.1]).getD 0 []=_
  rw[do5,dr6 (by omega),do5]
theorem cb3 (l m n:Nat):(p5 l m n).Nodup:=by
 unfold p5
 refine List.Nodup.sublist List.filter_sublist ?_
 rw[dp6,dw2]
 exact (dp6.mp ee6).imp fun h e=>h (by omega)
theorem cb4 {l m n d:Nat}(d1:1≤d)(dn:d≤n)(h:dp8 (d*l) m=d):d∈p5 l m n:=by
 unfold p5
 exact dt8.mpr ⟨do9.mpr ⟨d - 1,dr4.mpr (by omega),by omega⟩,decide_eq_true h⟩
theorem bp8 {p t:List Int}{m l n:Nat}(tp:j8 p)(tt:j8 t)(pw:o3 t (m:Int) p)(m1:1≤m)(l0:0 < l):∀(f:Nat) {rs:List (List Int)},rs.length≤f→rs.length≤n→(∀r∈rs,Rg p l r)→rs.flatten.Nodup→(∀u∈rs.flatten,nx t u∈rs.flatten)→
   (A4 (p5 l m n) f rs).countP (fun w=>N4 t (M5 l m w))=1
 |0,rs,hf,_,_,_,_=>rfl
 |f+1,rs,hf,hn,hr,nd,cl=>by
  unfold A4
  by_cases c:rs.length=0
  · rw[if_pos c];rfl
  · rw[if_neg c]
    have rl:∀r∈rs,r.length=l:=fun r hr'=>W2 (hr r hr')
    have pt:p.length=t.length:=pw.1
    have g0:rs.getD 0 []∈rs:=by
      rw[do5,dn9 (show 0 < rs.length by omega)]
      exact dr9 _
    obtain ⟨h1,h2,h3⟩:=bx0 l0 (hr _ g0)
    have x0m:(rs.getD 0 []).getD 0 0∈rs.flatten:=dp9.mpr ⟨_,g0,by
      have hl:=rl _ g0
      rw[E3 (show 0 < (rs.getD 0 []).length by omega)]
      exact dr9 _⟩
    generalize e0:(rs.getD 0 []).getD 0 0=x at h1 h2 h3 x0m
    have hx:In t x:=⟨h2.1,by rw[←pt];exact h2.2⟩
    obtain ⟨d,k,ra⟩:=cw8 tt pw hx h3
    have zin:∀a,it t a x∈rs.flatten:=fun a=>by
      induction a with
      |zero=>exact x0m
      |succ a ih=>exact cl _ ih
    have fl:=O7 rl
    have dle:d≤rs.length:=by
      have:=ak1 (Q8 tt hx ra.per.least) (b:=rs.flatten) (fun u hu=>by
        obtain ⟨j,_,rfl⟩:=B0.mp hu
        exact zin j)
      rw[m8,fl] at this
      exact Nat.le_of_mul_le_mul_right this l0
    have din:d∈p5 l m n:=cb4 ra.d1 (by omega) ra.right
    have ap:∀a b,a < b→b < d→it t b x∉l9 p (it t a x) l:=fun a b h1 h2=>ra.apart tt pw hx l0 h1 h2
    rw[W3 (g:=fun d'=>decide (d'=d)),bw9 (cb3 l m n) din]
    intro d' hd'
    have d1:=(G0 hd').1
    unfold P8
    by_cases c2:d'≤rs.length
    · rw[if_pos c2]
      have okc:∀x'∈q9 rs (d' - 1),(N4 t (C7 (B9 l m x'.1))=true↔x'.1.length=d∧hdC x'.1=(ds0 d).map fun a=>it t a x):=fun x' hx'=>by
        have o:=E1 rl (d' - 1) (by omega) hx'
        obtain ⟨n1,n2,n3,n4⟩:=au2 rl nd (by omega) hx'
        refine cp4 tp tt pw m1 l0 (ab0 tp hr (d' - 1) (by omega) hx') n1 ?_ ra hx (by rw[ay7 _ hx',e0])
        rw[o.len,dz4 d1]
        exact O8 hd'
      rw[W3 (g:=fun x'=>N4 t (C7 (B9 l m x'.1)))]
      · by_cases c3:d'=d
        · subst c3
          rw[if_pos (decide_eq_true rfl)]
          have:=bg5 tp l0 hr nd (z:=fun a=>it t a x) e0 (n:=d') (fun a _=>zin a) ap (d' - 1) (by omega) (by omega)
          refine Eq.trans ?_ this
          refine dy7 fun x' hx'=> ?_
          have o:=E1 rl (d' - 1) (by omega) hx'
          rw[okc x' hx',decide_eq_true_iff,o.len,dz4 d1]
          exact ⟨fun h=>h.2,fun h=>⟨rfl,h⟩⟩
        · rw[if_neg (by rw[decide_eq_false c3];decide),dv3]
          intro x' hx' ok
          have o:=E1 rl (d' - 1) (by omega) hx'
          have:=((okc x' hx').mp ok).1
          rw[o.len,dz4 d1] at this
          exact c3 this
      · intro x' hx'
        have o:=E1 rl (d' - 1) (by omega) hx'
        obtain ⟨n1,n2,n3,n4⟩:=au2 rl nd (by omega) hx'
        rw[dy6]
        have ee:∀w,N4 t (M5 l m (w++[x'.1]))=(N4 t (M5 l m w)&&N4 t (C7 (B9 l m x'.1))):=fun w=>by rw[bp2,bc3]
        by_cases c3:N4 t (C7 (B9 l m x'.1))=true
        · rw[if_pos c3]
          refine Eq.trans ?_ (bp8 (n:=n) tp tt pw m1 l0 f (rs:=x'.2) (by have:=o.left;omega) (by have:=o.left;omega) (fun r hr'=>hr r (o.rows2 r hr')) n2 ?_)
          · refine dy7 fun w hw=> ?_
            show N4 t (M5 l m (w++[x'.1]))=true↔_
            rw[ee,c3,Bool.and_true]
          · intro u hu
            have hur:u∈rs.flatten:=(n4 u).mpr (.inr hu)
            refine ((n4 _).mp (cl u hur)).resolve_left fun w=> ?_
            obtain ⟨q1,q2⟩:=(okc x' hx').mp c3
            have ec:x'.1=ac2 p t x l d:=by
              rw[aj8 l0 (ab0 tp hr (d' - 1) (by omega) hx'),q2,ds7];rfl
            have pm:=(ra.join (p:=p) tt pw hx l0).perm l0 ra.co
            rw[←ec] at pm
            have w:=pm.mem_iff.mpr w
            obtain ⟨j,hj,e⟩:=B0.mp w
            obtain ⟨r,hr',hur'⟩:=dp9.mp hur
            have hui:=(af9 tp (hr r hr') hur').1
            have hut:In t u:=⟨hui.1,by rw[←pt];exact hui.2⟩
            have e3:nx t u=nx t (it t (j+(d*l - 1)) x):=by
              rw[e]
              show it t j x=it t (j+(d*l - 1)+1) x
              have:=ra.per.pos
              rw[show j+(d*l - 1)+1=j+d*l by omega,B7,ra.per.back]
            have e4:=T1 tt hut (G9 tt hx _) e3
            rw[←T3 ra.per.back] at e4
            have:u∈l9 t x (d*l):=B0.mpr ⟨_,dv6 _ ra.per.pos,e4⟩
            exact n3 u (pm.mem_iff.mp this) hu
        · rw[if_neg c3,dv3]
          intro w hw ok
          have ok:N4 t (M5 l m (w++[x'.1]))=true:=ok
          rw[ee,dx7] at ok
          exact c3 ok.2
    · rw[if_neg c2,if_neg (by rw[decide_eq_false (show ¬d'=d by omega)];decide)]
      rfl
end
end My
namespace My
open PySem L2 Mth
section
def T7:List (List (List (Int×Int)))→List (List (Int×Int))
 |[]=>[[]]
 |c::chs=>c.flatMap fun es=>(T7 chs).map fun e=>es++e
theorem cb5 (t:List Int)(a b:List (Int×Int)):q0 t (a++b)=q0 (q0 t a) b:=by
 unfold q0
 exact ed7
theorem aq8:∀(chs:List (List (List (Int×Int)))) (laid:List (List Int)),chs.foldl M3 laid=laid.flatMap fun t0=>(T7 chs).map (q0 t0)
 |[],laid=>by
  show laid=laid.flatMap fun t0=>[t0]
  induction laid with
  |nil=>rfl
  |cons x xs ih=>rw[ds9,←ih];rfl
 |c::chs,laid=>by
  show chs.foldl M3 (M3 laid c)=_
  rw[aq8 chs]
  unfold M3
  rw[List.flatMap_assoc]
  refine congrArg (fun f=>List.flatMap f laid) (funext fun t0=> ?_)
  show (c.map (q0 t0)).flatMap (fun t1=>(T7 chs).map (q0 t1))=(c.flatMap fun es=>(T7 chs).map fun e=>es++e).map (q0 t0)
  rw[List.flatMap_map,List.map_flatMap]
  refine congrArg (fun f=>List.flatMap f c) (funext fun es=> ?_)
  show (T7 chs).map (q0 (q0 t0 es))=((T7 chs).map fun e=>es++e).map (q0 t0)
  rw[ds7]
  exact dt3 fun e _=>(cb5 t0 es e).symm
theorem ay8:∀{chs:List (List (List (Int×Int)))} {e:List (Int×Int)},e∈T7 chs→∃ess,Pkd ess chs∧e=ess.flatten
 |[],e,h=>⟨[],.nil,dp1.mp h⟩
 |c::chs,e,h=>by
  obtain ⟨es,hes,z⟩:=dt9.mp h
  obtain ⟨e',he',rfl⟩:=do9.mp z
  obtain ⟨ess,pk,rfl⟩:=ay8 he'
  exact ⟨es::ess,.cons hes pk,rfl⟩
theorem ay9 {t:List Int}{f:Nat→List (List (Int×Int))}:∀{ks:List Nat},(∀k∈ks,(f k).countP (N4 t)=1)→(T7 (ks.map f)).countP (N4 t)=1
 |[],_=>rfl
 |k::ks,h=>by
  show ((f k).flatMap fun es=>(T7 (ks.map f)).map fun e=>es++e).countP (N4 t)=1
  rw[W3 (g:=N4 t),h k do3]
  intro es hes
  rw[dy6]
  by_cases c:N4 t es=true
  · rw[if_pos c]
    refine Eq.trans (dy7 fun e _=> ?_) (ay9 fun k hk=>h k (do4 _ hk))
    show N4 t (es++e)=true↔_
    rw[bc3,c,Bool.true_and]
  · rw[if_neg c,dv3]
    intro e _ z
    have z:N4 t (es++e)=true:=z
    rw[bc3,dx7] at z
    exact c z.1
theorem cp5 {p t:List Int}{m l:Nat}(tp:j8 p)(tt:j8 t)(pw:o3 t (m:Int) p){u:Int}(hu:In p u)(h:C2 p u l):C2 p (nx t u) l:=by
 have pt:p.length=t.length:=pw.1
 have tr:∀y,In p y→In t y:=fun y hy=>⟨hy.1,by rw[←pt];exact hy.2⟩
 have com:∀i,it p i (nx t u)=nx t (it p i u):=fun i=>by
   rw[ap6 tt pw (T0 tt (tr u hu)),ap6 tt pw (tr u hu)]
   show it t (m*i) (it t 1 u)=it t (m*i+1) u
   rw[←B7]
 refine ⟨h.pos,by rw[com,h.back],fun i i0 i1 e=> ?_⟩
 rw[com] at e
 exact h.least i i0 i1 (T1 tt (tr _ (G9 tp hu i)) (tr u hu) e)
theorem dd8 {p t:List Int}{m k:Nat}(tp:j8 p)(lp:p.length≤40)(tt:j8 t)(pw:o3 t (m:Int) p)(m1:1≤m)(k0:0 < k){rs:List (List Int)}(up:A7 p p.length rs):(W1 rs m k).countP (N4 t)=1:=by
 have pt:p.length=t.length:=pw.1
 have fr:∀r∈w6 rs k,Rg p k r:=fun r hr=>by
   have:=bc2 up (E8 hr).1
   rw[(E8 hr).2] at this
   exact this
 have fl:=aa4 tp up
 have e1:=O7 (l:=k) (rs:=w6 rs k) fun r hr=>(E8 hr).2
 have e2:=(M8 rs k).length_le
 have k3:(w6 rs k).length≤40:=dp4 (ds6 _ k0) (by rw[←e1];omega)
 unfold W1
 rw[dy6]
 refine bp8 tp tt pw m1 k0 40 k3 (by rw[P3];exact do1 _) fr ((M8 rs k).nodup up.nd) fun u hu=> ?_
 obtain ⟨r,hr,hur⟩:=dp9.mp hu
 obtain ⟨a,b,_⟩:=af9 tp (fr r hr) hur
 have hn:=cp5 tp tt pw a b
 have hin:In p (nx t u):=by
   have:=T0 tt (x:=u) ⟨a.1,by rw[←pt];exact a.2⟩
   exact ⟨this.1,by rw[pt];exact this.2⟩
 obtain ⟨r2,hr2,h2⟩:=dp9.mp (up.all _ hin.1 hin.2)
 have e:=(af9 tp (bc2 up hr2) h2).2.1.uniq hn
 exact dp9.mpr ⟨r2,by unfold w6;exact dt8.mpr ⟨hr2,decide_eq_true e⟩,h2⟩
theorem bp9 {p t:List Int}{m:Nat}(tp:j8 p)(lp:p.length≤40)(tt:j8 t)(pw:o3 t (m:Int) p)(m1:1≤m){ks:List Nat}(nk:ks.Nodup)(h1:∀k∈ks,∃r∈j6 p p.length,r.length=k)(h2:∀r∈j6 p p.length,r.length∈ks):(M4 p (ks.map (W1 (j6 p p.length) m))).countP (fun u=>decide (u=t))=1:=by
 have up:=O0 tp
 generalize j6 p p.length=rs at up h1 h2 ⊢
 have pt:p.length=t.length:=pw.1
 have k0:∀k∈ks,0 < k:=fun k hk=>by
   obtain ⟨r,hr,e⟩:=h1 k hk
   have:=(rsb tp up r hr).1
   omega
 unfold M4
 rw[aq8,ds9,dy1,dq6,dy6]
 refine Eq.trans (dy7 fun es hes=> ?_) (ay9 (t:=t) fun k hk=>dd8 tp lp tt pw m1 (k0 k hk) up)
 show decide (q0 p es=t)=true↔N4 t es=true
 obtain ⟨ess,pk,rfl⟩:=ay8 hes
 obtain ⟨knd,kin,kall⟩:=au1 (p:=p) ks nk (fun k hk es hes=>by
   obtain ⟨w,o⟩:=bh8 tp lp up m1 (k0 k hk) hes
   exact ⟨o.nd,o.keys⟩) pk
 have put:=an5 ess.flatten p knd fun e he=>(kin e.1 (do9.mpr ⟨e,he,rfl⟩)).1
 rw[decide_eq_true_iff,bc4]
 constructor
 · intro e x hx
   have a:=put x hx
   have b:=(kin x.1 (do9.mpr ⟨x,hx,rfl⟩)).1
   rw[e,Q9 ⟨b.1,by rw[←pt];exact b.2⟩] at a
   exact Option.some.inj a
 · intro ok
   refine dr3 fun i=> ?_
   by_cases hi:i < p.length
   · have hx:In p (i:Int):=⟨by omega,by omega⟩
     obtain ⟨r0,hr0,hxr⟩:=dp9.mp (up.all _ hx.1 hx.2)
     obtain ⟨es,hes,hef⟩:=kall r0.length (h2 r0 hr0)
     have k1:=k0 _ (h2 r0 hr0)
     obtain ⟨w,o⟩:=bh8 tp lp up m1 k1 hef
     have xf:(i:Int)∈(w6 rs r0.length).flatten:=dp9.mpr ⟨r0,by unfold w6;exact dt8.mpr ⟨hr0,decide_eq_true rfl⟩,hxr⟩
     obtain ⟨cf,hcf,hxc⟩:=dp9.mp (o.perm.mem_iff.mpr xf)
     obtain ⟨c,hc,rfl⟩:=do9.mp hcf
     have rows:∀r∈c,r.length=r0.length:=fun r hr=>W2 (o.rg c hc r hr)
     obtain ⟨kk,e1,e2,js⟩:=au0 k1 m1 (o.right c hc) rows
     have xJ:=(js.perm k1 e2).mem_iff.mpr hxc
     rw[←aj5 (B9 r0.length m c)] at xJ
     obtain ⟨e,he,ex⟩:=do9.mp xJ
     have hef:e∈ess.flatten:=dp9.mpr ⟨es,hes,by rw[o.eq];exact dt9.mpr ⟨c,hc,he⟩⟩
     have a:=put e hef
     have b:=Q9 (p:=t) (x:=(i:Int)) ⟨hx.1,by rw[←pt];exact hx.2⟩
     have ok:=ok e hef
     rw[ex] at a ok
     rw[←ok,←b] at a
     unfold x6 at a
     rw[dr1] at a
     exact a
   · rw[do7 (by rw[aj6];omega),do7 (by omega)]
theorem an7:∀{ts:List (List Int)},(∀t∈ts,ts.countP (fun u=>decide (u=t))=1)→ts.Nodup
 |[],_=>dv8
 |x::xs,h=>by
  have h0:=h x do3
  rw[dv5,if_pos (decide_eq_true rfl)] at h0
  have nx:x∉xs:=fun z=>by
    have:xs.countP (fun u=>decide (u=x))=0:=by omega
    exact dv3.mp this x z (decide_eq_true rfl)
  refine dr5.mpr ⟨nx,an7 fun t ht=> ?_⟩
  have h1:=h t (do4 _ ht)
  rw[dv5,if_neg (fun e=>nx (by rw[of_decide_eq_true e];exact ht))] at h1
  exact h1
theorem cp6 {p:List Int}(m:Nat)(tp:j8 p)(lp:p.length≤40):∃ks:List Nat,ks.Nodup∧(∀k∈ks,∃r∈j6 p p.length,r.length=k)∧(∀r∈j6 p p.length,r.length∈ks)∧(M4 p (ks.map (W1 (j6 p p.length) m))).length=t7 p m:=by
 have up:=O0 tp
 have ks:∃ks:List Nat,ks.Nodup∧(∀k∈ks,∃r∈j6 p p.length,r.length=k)∧(∀r∈j6 p p.length,r.length∈ks):=by
   refine ⟨(ds0 (p.length+1)).filter fun k=>(j6 p p.length).any fun r=>decide (r.length=k),List.Nodup.sublist List.filter_sublist ee6,fun k hk=> ?_,fun r hr=> ?_⟩
   · obtain ⟨r,hr,e⟩:=ee3.mp (dt8.mp hk).2
     exact ⟨r,hr,of_decide_eq_true e⟩
   · exact dt8.mpr ⟨dr4.mpr (by have:=(rsb tp up r hr).2;omega),ee3.mpr ⟨r,hr,decide_eq_true rfl⟩⟩
 obtain ⟨ks,nk,h1,h2⟩:=ks
 refine ⟨ks,nk,h1,h2,?_⟩
 have len:=ac1 p (W1 (j6 p p.length) m) (fun l=>w5 l m (n5 (j6 p p.length) l)) ks.length ks (do1 _) fun k hk=>by
   refine bw6 ?_
   obtain ⟨r,hr,e⟩:=h1 k hk
   have k1:=(rsb tp up r hr).1
   have fl:=aa4 tp up
   have e1:=O7 (l:=k) (rs:=w6 (j6 p p.length) k) fun r hr=>(E8 hr).2
   have e2:=(M8 (j6 p p.length) k).length_le
   exact dp4 (ds6 _ (show 0 < k by omega)) (by rw[←e1];omega)
 rw[am8 tp up nk h1 h2 fun u hu=>by rw[hu];rfl] at len
 exact len
theorem bc5 {p:List Int}{m:Nat}(tp:j8 p)(lp:p.length≤40)(m1:1≤m):0 < t7 p m↔∃t,j8 t∧o3 t (m:Int) p:=by
 obtain ⟨ks,nk,h1,h2,len⟩:=cp6 m tp lp
 constructor
 · intro h
   rw[←len] at h
   obtain ⟨t,ht⟩:=List.exists_mem_of_length_pos h
   exact ⟨t,bg4 tp lp m1 nk h1 h2 ht⟩
 · rintro ⟨t,tt,pw⟩
   have one:=bp9 tp lp tt pw m1 nk h1 h2
   rw[←len]
   have:=List.countP_le_length (p:=fun u=>decide (u=t)) (l:=M4 p (ks.map (W1 (j6 p p.length) m)))
   omega
theorem Q2.once {p t:List Int}{m:Nat}{ts:List (List Int)}(h:Q2 p m ts)(tp:j8 p)(lp:p.length≤40)(m1:1≤m)(tt:j8 t)(pw:o3 t (m:Int) p):ts.countP (fun u=>decide (u=t))=1:=by
 rcases h.src with z|⟨ks,nk,h1,h2,pr⟩
 · have:=(bc5 tp lp m1).mpr ⟨t,tt,pw⟩
   omega
 · rw[pr.countP_eq]
   exact bp9 tp lp tt pw m1 nk h1 h2
theorem Q2.mem {p t:List Int}{m:Nat}{ts:List (List Int)}(h:Q2 p m ts)(tp:j8 p)(lp:p.length≤40)(m1:1≤m):t∈ts↔j8 t∧o3 t (m:Int) p:=by
 refine ⟨h.root tp lp m1 t,fun ⟨tt,pw⟩=> ?_⟩
 have:=h.once tp lp m1 tt pw
 obtain ⟨u,hu,e⟩:=List.countP_pos_iff.mp (show 0 < ts.countP (fun u=>decide (u=t)) by omega)
 rw[←of_decide_eq_true e];exact hu
theorem Q2.nd {p:List Int}{m:Nat}{ts:List (List Int)}(h:Q2 p m ts)(tp:j8 p)(lp:p.length≤40)(m1:1≤m):ts.Nodup:=
 an7 fun t ht=>have:=h.root tp lp m1 t ht;h.once tp lp m1 this.1 this.2
end
end My
namespace My
open PySem L2 Mth PySem.Spec PyProof.Rows
section
def dm0 (K:PySem.W.Frag)(neg:Bool):R2:=fun x y H Q=>∃(p r:Addr) (bs:List Addr) (ts:List (List Int)) (q:List Int),x= .ref r∧y= .ref p∧g9 K H p (bs.map V.ref)∧k7 H bs ts∧H r=some (.lst (q.map V.int))∧Q (.bl (if neg then !decide (q∈ts) else decide (q∈ts))) H
open Classical in
noncomputable def eqR (H:Hp)(q:List Int)(y:Value):Bool:=decide (∃b,y= .ref b∧H b=some (.lst (q.map V.int)))
theorem bc6 {H:Hp}{q row:List Int}{b:Addr}(hb:H b=some (.lst (row.map V.int))):eqR H q (.ref b)=decide (row=q):=by
 unfold eqR
 by_cases c:row=q
 · rw[decide_eq_true c]
   exact @decide_eq_true _ (Classical.propDecidable _) ⟨b,rfl,by rw[←c];exact hb⟩
 · rw[decide_eq_false c]
   refine @decide_eq_false _ (Classical.propDecidable _) fun ⟨b',e,h⟩=> ?_
   cases e
   rw[hb] at h
   injection h with h
   injection h with h
   exact c (ac4 h)
theorem ab9 {bs:List Addr}:∀{its:List Value},j9 (bs.map V.ref) its→its=bs.map Value.ref:=by
 induction bs with
 |nil=>intro its h;cases h;rfl
 |cons b bs ih=>
  intro its h
  cases h with
  |cons r t=>
   cases r
   rw[ih t];rfl
theorem bq0 {H:Hp}{q:List Int}:∀{bs:List Addr} {ts:List (List Int)},k7 H bs ts→(bs.map Value.ref).any (eqR H q)=decide (q∈ts)
 |[],[],_=>rfl
 |[],t::ts,h=>by have:=h.1;simp at this
 |b::bs,[],h=>by have:=h.1;simp at this
 |b::bs,t::ts,h=>by
  have h0:=h.2 0 b t rfl rfl
  have ht:k7 H bs ts:=⟨by have:=h.1;simpa using this,fun j a r e1 e2=>h.2 (j+1) a r e1 e2⟩
  rw[dr7,ec3,bq0 ht,bc6 h0,dx3,ec7,decide_eq_true_iff,decide_eq_true_iff,decide_eq_true_iff,dp7]
  exact ⟨fun z=>z.elim (fun e=> .inl e.symm) .inr,fun z=>z.elim (fun e=> .inl e.symm) .inr⟩
theorem bg6 {X:Cx}(hu0:X.A.units+1+1 < cLine):K7 X (compareOp .NotIn) (dm0 X.K true):=by
 have hu:X.A.in1.units+0+1 < cLine:=by rw[Around.in1_units];exact hu0
 intro pins s σ H x y v u Q I rx ry h
 obtain ⟨p,r,bs,ts,q,rfl,rfl,hq,rows,hr,k⟩:=h
 cases rx
 cases ry
 obtain ⟨its,rr,pl,hz⟩:=I.list hq
 have ei:=ab9 rr
 refine SeqAt.notIn_listAt (eqR H q) pl.isList (fun w hw=> ?_) ⟨.bl _,H,I,rfl,?_⟩
 · have hw:w∈its:=by simpa using hw
   rw[ei] at hw
   obtain ⟨b,hb,rfl⟩:=do9.mp hw
   obtain ⟨j,hj⟩:=dq9.mp hb
   have jl:=(do0.mp hj).1
   have h1:=rows.2 j b _ hj (dn9 (by rw[←rows.1];exact jl))
   by_cases e:b=r
   · subst e
     rw[bc6 hr,decide_eq_true rfl]
     exact SeqAt.EqAt.same _
   · rw[bc6 h1]
     exact SeqAt.EqAt.of_refs e (ce7 (n:=0) I hu (g9.of h1) (g9.of hr) (U6 _ _ _ _ _))
 · rw[show its.toArray.any (eqR H q)=its.any (eqR H q) by simp,ei,bq0 rows]
   exact k
end
end My
namespace L2
open PySem PySem.Spec PyProof.Rows
section
variable {X:Cx}
def bx2:V→List V→Hp→VK→Prop:=fun x vs H Q=>∃(l b:Addr) (as:List Addr) (rs:List (List Int)) (r:List Int) (j:Nat),x= .ref l∧vs=[.ref b]∧H l=some (.lst (as.map V.ref))∧k7 H as rs∧H b=some (.lst (r.map V.int))∧rs[j]? =some r∧(∀i,i < j→rs[i]? ≠some r)∧rs.length≤100000∧Q (.int (j:Int)) H
theorem cj4 (hu:X.A.units+2+1 < cLine):MtM X "list.index" bx2:=by
 intro pins s σ H x vs v us Q I rx rv h
 obtain ⟨l,b,as,rs,r,j,rfl,rfl,hH,rows,hb,hj,hno,hz,q⟩:=h
 cases rx
 cases rv with
 |cons rk rr=>
 rename_i u _
 cases rr
 cases rk
 obtain ⟨z,its,n,rv,hl,e⟩:=I.lstM hH
 have la:=rv.length
 rw[dn8] at la
 have lr:=rows.1
 have hjl:j < rs.length:=(do0.mp hj).1
 have at_:∀m (hm:m < its.length),bh3 H r its[m]=decide (rs[m]? =some r):=fun m hm=>by
   have ea:as[m]? =some (as[m]'(by omega)):=dn9 (by omega)
   have er:rs[m]? =some (rs[m]'(by omega)):=dn9 (by omega)
   obtain ⟨u1,z1,q1⟩:=rv.get (show (as.map V.ref)[m]? =some (.ref (as[m]'(by omega))) by rw[do2,ea];rfl)
   rw[dn9 hm] at z1
   rw[Option.some.inj z1]
   cases q1
   show decide (N0 H _=r)=_
   rw[Z5 (rows.2 m _ _ ea er),er]
   exact decide_eq_decide.mpr ⟨fun h=>by rw[h],fun h=>Option.some.inj h⟩
 refine call_meets F.slot_list_index ⟨_,e,rfl⟩ F.entry_list_index (F.args_list_index_2 _ _)
   (SeqAt.list_indexAt l its.toArray n none #[] (.ref b) (bh3 H r) j (by simp only[dp2];omega) (by omega) ?_ ?_) ⟨e,fun y hy=> ?_,?_⟩
 · show bh3 H r (its[j]'(by omega))=true
   rw[at_ j (by omega),decide_eq_true hj]
 · intro m hm hmj
   have hm':m < its.length:=by simpa using hm
   show bh3 H r its[m]=false
   rw[at_ m hm',decide_eq_false (hno m hmj)]
 · obtain ⟨k,hk⟩:=dq9.mp (show y∈its by simpa using hy)
   have hkl:k < its.length:=(do0.mp hk).1
   obtain ⟨a,ea⟩:∃a,as[k]? =some a:=⟨_,dn9 (by omega)⟩
   have er:rs[k]? =some (rs[k]'(by omega)):=dn9 _
   obtain ⟨u1,z1,q1⟩:=rv.get (show (as.map V.ref)[k]? =some (.ref a) by rw[do2,ea];rfl)
   rw[hk] at z1
   cases z1
   cases q1
   have ha:=rows.2 k a _ ea er
   show SeqAt.EqAt _ s (.ref a) (.ref b) (decide (N0 H a=r))
   rw[Z5 ha]
   exact bj6 I (cn1 ha hb) (by have:X.A.in1.units=X.A.units+1:=by first|rfl|simp [Around.in1]
                               have:X.A.in1.in1.units=X.A.units+1+1:=by first|rfl|simp [Around.in1]
                               first|omega|(simp [Around.in1] at*;omega)) rfl rfl
 · exact ⟨.int j,H,I.tok _,⟨_,rfl⟩,q⟩
theorem cj5 (K:PySem.W.Frag){o e:Expr}{to:TE}{t:TA}{apos pos:Pos}(hu:X.A.units+2+1 < cLine)(ho:PE X o to)(ha:PA X [e] t)(hK:X.K=K:=by rfl)
   (hbase:attributeBase o "index" X.env (eval o X.env)=eval o X.env:=by rfl)
   (hfew:((backTo pos (starEach [e] X.env)).all (fun x=> !x.1)&&(backToKw pos (keywordEach [] X.env)).all (fun x=>x.1.isSome)
     &&decide ([e].length+([]:List Keyword).length+(if ([]:List Keyword).isEmpty then 0 else 1) < 30))=true:=by rfl)
   (hline:(apos.endLine==pos.line)=true:=by rfl) (hs:starEach [e] X.env=(false,eval e X.env)::starEach [] X.env:=by rfl) (hplain:(backTo pos (starEach [] X.env)).any (·.1)=false:=by rfl):
   PE X (.Call (.Attribute o "index" apos) [e] [] pos) (tBM K "list" bx2 to t):=by
 subst hK
 exact av4 PySem.F.plainAttrs_list PySem.F.slot_list_index PySem.F.type_list_index (cj4 hu) ho ha hbase hfew hline hs hplain
end
end L2
namespace My
open PySem L2 Mth
section
variable {P:Program} {w:World} {K:PySem.W.Frag} {mg:Str→Option Value} {base:Heap}
def bq1:Sp:=fun vs H Q _=>∃(a:Addr) (p:List Int) (m k:Nat),vs=[.ref a,.int (m:Int),.int (k:Int)]∧B8 H a p∧1≤m∧t7 p m≤2000∧k < t7 p m∧∀(b:Addr) (t:List Int) (ts:List (List Int)) (H':Hp),H b=none→Q2 p m ts→ts[k]? =some t→H' b=some (.lst (t.map V.int))→Kp H H'→Q (.ref b) H'
theorem aq9:l8 ["p","m","k","roots"] ["p","m","k"] (i7 ai3):=⟨rfl,rfl,rfl,by decide+kernel,rfl,by decide+kernel,by decide+kernel⟩
theorem bs1 {f:Addr}{fd:FuncData}(F:A2 K "nth_root" "nth_root" ai3 f fd)(B:Bl mg)(c_all_roots:j7 P w K mg base "all_roots" 44 ["p","m"] an4)(c_is_whole:j7 P w K mg base "is_whole" 1 ["thing"] (af4 K)):o8 P w K mg base A0 45 f fd ["p","m","k"] bq1:=by
 refine F.ok aq9 (fun vs H Q E h=> ?_) (fun cdv A outer s H vs Q E hr h=> ?_)
 · obtain ⟨a,p,m,k,rfl,tp,m1,few,hk,q⟩:=h
   rfl
 · obtain ⟨a,p,m,k,rfl,tp,m1,few,hk,q⟩:=h
   have hr_all_roots:m7 44 _:=hr.mono (by decide)
   have hr_is_whole:m7 1 _:=hr.mono (by decide)
   refine ⟨_,@c7 _ _ _ _ _ (@i4 _ _ (3) _ _ _ _ aq9.nd rfl (Or.inl rfl) (@h8 _ _ _ _ _ _ _ _ _ _ c_all_roots hr_all_roots (@c5 _ _ _ _ _ (pv 0) (@c5 _ _ _ _ _ (pv 1) (@c6 _) (by rfl)) (by rfl)) (by rfl) (by decide) (by rfl) (by rfl)) (by rfl) (by first|exact .inl rfl|exact .inr rfl|assumption)) (@c7 _ _ _ _ _ (@x9 _ _ _ _ _ _ _ _ (@R0 _ _ _ _ _ _ _ (@Q5 _ _ _ _ (@Q4 _ _ _ (@h8 _ _ _ _ _ _ _ _ _ _ c_is_whole hr_is_whole (@c5 _ _ _ _ _ (pv 2) (@c6 _) (by rfl)) (by rfl) (by decide) (by rfl) (by rfl)) (by intro _;rfl))) (@R0 _ _ _ _ _ _ _ (@m9 _ _ _ _ _ _ _ _ au8 (pv 2) (@i6 _ _ _ _) (o9 _)) (@V6 _ _ _ _ (@m9 _ _ _ _ _ _ _ _ by4 (pv 2) (@t8 _ _ _ _ _ B.len (@c5 _ _ _ _ _ (pv 3) (@c6 _) (by rfl)) (by rfl) (by rfl)) (o9 _))))).pt (@e7 _ _ _ (@N5 _ _)) (@p8 _)) (@e7 _ _ _ (@l6 _ _ _ _ (@G3 _ _ _ _ _ _ _ C0 (pv 3) (pv 2) (fun _ _=>rfl))))),?_⟩
   refine ⟨_,rfl,_,rfl,a,p,m,rfl,tp,m1,few,fun o bs ts H3 ho h3o rows all bnd bfr ob kp=> ?_⟩
   have lb:bs.length=t7 p m:=by rw[rows.1,all.len]
   refine ⟨_,rfl,.int (k:Int),_,true,false,rfl,.int (k:Int),U7 K "int",Z3 K,true,rfl,C8 ?_⟩
   refine ⟨_,rfl,_,_,rfl,rfl,_,rfl,?_⟩
   rw[decide_eq_false (show ¬(k:Int) < 0 by omega)]
   refine C8 ⟨_,rfl,_,rfl,o,_,rfl,.inl (g9.of h3o),_,_,rfl,rfl,_,rfl,?_⟩
   rw[decide_eq_false (show ¬(((bs.map V.ref).length:Nat):Int)≤(k:Int) by rw[dn8];omega)]
   refine C8 ?_
   have eb:bs[k]? =some (bs[k]'(by omega)):=dn9 (by omega)
   have lt:k < ts.length:=by rw[all.len];exact hk
   have et:ts[k]? =some (ts[k]'lt):=dn9 lt
   refine ⟨_,rfl,_,rfl,o,_,_,_,rfl,rfl,g9.of h3o,J2 (j:=k) (by rw[do2,eb];rfl),?_⟩
   exact q _ _ ts H3 (bfr _ (dr9 _)) all et (rows.2 k _ _ eb et) kp
def bq2:Sp:=fun vs H Q _=>∃(a b:Addr) (p r:List Int) (m:Nat),vs=[.ref a,.int (m:Int),.ref b]∧B8 H a p∧B8 H b r∧p.length=r.length∧1≤m∧t7 p m≤2000∧o3 r (m:Int) p∧∀(j:Nat) (ts:List (List Int)) (H':Hp),Q2 p m ts→ts[j]? =some r→Kp H H'→Q (.int (j:Int)) H'
theorem X5:l8 ["p","m","r","roots"] ["p","m","r"] (i7 S0):=⟨rfl,rfl,rfl,by decide+kernel,rfl,by decide+kernel,by decide+kernel⟩
theorem aq0 {f:Addr}{fd:FuncData}(F:A2 K "number_of_root" "number_of_root" S0 f fd)(c_must_be_turn:j7 P w K mg base "must_be_turn" 3 ["thing"] aa2)(c_must_be_from_one:j7 P w K mg base "must_be_from_one" 2 ["number"] ap2)(c_must_fit:j7 P w K mg base "must_fit" 1 ["p","q"] (bh4 K))(c_all_roots:j7 P w K mg base "all_roots" 44 ["p","m"] an4):o8 P w K mg base A0 45 f fd ["p","m","r"] bq2:=by
 refine F.ok X5 (fun vs H Q E h=> ?_) (fun cdv A outer s H vs Q E hr h=> ?_)
 · obtain ⟨a,b,p,r,m,rfl,tp,tr,el,m1,few,pw,q⟩:=h
   rfl
 · obtain ⟨a,b,p,r,m,rfl,tp,tr,el,m1,few,pw,q⟩:=h
   have hr_must_be_turn:m7 3 _:=hr.mono (by decide)
   have hr_must_be_from_one:m7 2 _:=hr.mono (by decide)
   have hr_must_fit:m7 1 _:=hr.mono (by decide)
   have hr_all_roots:m7 44 _:=hr.mono (by decide)
   have hu:=S8 hr
   have hu2:_+1+1 < cLine:=ds2 (ea5 (by decide:2≤64) _) hr.units
   have hu3:_+2+1 < cLine:=ds2 (ea5 (by decide:3≤64) _) hr.units
   refine ⟨_,@c7 _ _ _ _ _ (@o7 _ _ _ _ (@h8 _ _ _ _ _ _ _ _ _ _ c_must_be_turn hr_must_be_turn (@c5 _ _ _ _ _ (pv 0) (@c6 _) (by rfl)) (by rfl) (by decide) (by rfl) (by rfl)) (by rfl)) (@c7 _ _ _ _ _ (@o7 _ _ _ _ (@h8 _ _ _ _ _ _ _ _ _ _ c_must_be_turn hr_must_be_turn (@c5 _ _ _ _ _ (pv 2) (@c6 _) (by rfl)) (by rfl) (by decide) (by rfl) (by rfl)) (by rfl)) (@c7 _ _ _ _ _ (@o7 _ _ _ _ (@h8 _ _ _ _ _ _ _ _ _ _ c_must_be_from_one hr_must_be_from_one (@c5 _ _ _ _ _ (pv 1) (@c6 _) (by rfl)) (by rfl) (by decide) (by rfl) (by rfl)) (by rfl)) (@c7 _ _ _ _ _ (@o7 _ _ _ _ (@h8 _ _ _ _ _ _ _ _ _ _ c_must_fit hr_must_fit (@c5 _ _ _ _ _ (pv 0) (@c5 _ _ _ _ _ (pv 2) (@c6 _) (by rfl)) (by rfl)) (by rfl) (by decide) (by rfl) (by rfl)) (by rfl)) (@c7 _ _ _ _ _ (@i4 _ _ (3) _ _ _ _ X5.nd rfl (Or.inl rfl) (@h8 _ _ _ _ _ _ _ _ _ _ c_all_roots hr_all_roots (@c5 _ _ _ _ _ (pv 0) (@c5 _ _ _ _ _ (pv 1) (@c6 _) (by rfl)) (by rfl)) (by rfl) (by decide) (by rfl) (by rfl)) (by rfl) (by first|exact .inl rfl|exact .inr rfl|assumption)) (@c7 _ _ _ _ _ (@x9 _ _ _ _ _ _ _ _ (@m9 _ _ _ _ _ _ _ _ (bg6 hu2) (pv 2) (pv 3) (by with_unfolding_all rfl)) (@e7 _ _ _ (@N5 _ _)) (@p8 _)) (@e7 _ _ _ (@l6 _ _ _ _ (cj5 K hu3 (pv 3) (@c5 _ _ _ _ _ (pv 2) (@c6 _) (by rfl)))))))))),?_⟩
   refine ⟨_,rfl,a,p,rfl,tp,fun H1 s1=> ?_⟩
   refine ⟨_,rfl,b,r,rfl,⟨s1 _ _ tr.1,tr.2⟩,fun H2 s2=> ?_⟩
   have s02:=s1.trans s2
   refine ⟨_,rfl,(m:Int),rfl,by omega,?_⟩
   refine ⟨_,rfl,_,rfl,a,b,_,_,rfl,g9.of (s02 _ _ tp.1),g9.of (s02 _ _ tr.1),by rw[dn8,dn8];exact el,?_⟩
   refine ⟨_,rfl,_,rfl,a,p,m,rfl,⟨s02 _ _ tp.1,tp.2⟩,m1,few,fun o bs ts H3 ho h3o rows all bnd bfr ob kp=> ?_⟩
   have k03:Kp H H3:=(Kp.of s02).trans kp
   have rin:r∈ts:=(all.mem tp.2.1 tp.2.2 m1).mpr ⟨tr.2.1,pw⟩
   refine ⟨_,rfl,_,rfl,o,b,bs,ts,r,rfl,rfl,g9.of h3o,rows,k03.lst tr.1,_,rfl,?_⟩
   rw[decide_eq_true rin]
   refine C8 ?_
   obtain ⟨j,hj⟩:=dq9.mp rin
   refine ⟨_,rfl,.inl ⟨rfl,_,g9.of h3o⟩,_,rfl,o,b,bs,ts,r,j,rfl,rfl,h3o,rows,k03.lst tr.1,hj,fun i hi e=> ?_,by rw[all.len];omega,q j ts H3 all hj k03⟩
   have nd:=dp6.mp (all.nd tp.2.1 tp.2.2 m1)
   obtain ⟨j1,j2⟩:=do0.mp hj
   obtain ⟨i1,i2⟩:=do0.mp e
   exact dq7.mp nd i j i1 j1 hi (by rw[i2,j2])
end
end My
namespace My
open PySem L2 Mth
section
def E2 (n:Nat):Nat→List (List Int)
 |0=>[[]]
 |k+1=>(E2 n k).flatMap fun r=>((ds0 n).filter fun (t:Nat)=> !decide ((t:Int)∈r)).map fun (t:Nat)=>r++[(t:Int)]
theorem bx3 {n:Nat}:∀(k:Nat) {r:List Int},r.length=k→r.Nodup→(∀x∈r,0≤x∧x < (n:Int))→r∈E2 n k
 |0,r,hl,_,_=>by rw[dx2.mp hl];exact dp1.mpr rfl
 |k+1,r,hl,nd,b=>by
  obtain ⟨r',t,rfl⟩:∃r' t,r=r'++[t]:=by
    have ne:r≠[]:=fun z=>by rw[z] at hl;cases hl
    exact ⟨r.dropLast,r.getLast ne,(eg1 ne).symm⟩
  have hl':r'.length=k:=by rw[do6] at hl;simp at hl;exact hl
  rw[dt7] at nd
  have bt:=b t (dq5 _ (dp1.mpr rfl))
  refine dt9.mpr ⟨r',bx3 k hl' nd.1 fun x hx=>b x (dt5 _ hx),do9.mpr ⟨t.toNat,dt8.mpr ⟨dr4.mpr (by omega),?_⟩,by rw[show ((t.toNat:Nat):Int)=t by omega]⟩⟩
  rw[show ((t.toNat:Nat):Int)=t by omega,decide_eq_false (fun z=>nd.2.2 t z t (dp1.mpr rfl) rfl)]
  rfl
theorem bx4 {p:List Int}(t:j8 p):p∈E2 p.length p.length:=bx3 _ rfl t.nd fun x hx=>⟨t.lo x hx,t.hi x hx⟩
theorem an8:∀n,n < 6→∀p∈E2 n n,p.Nodup∧(∀x∈p,0≤x)∧(∀x∈p,x < (p.length:Int))∧p.length=n:=by decide+kernel
theorem au3:∀n,n < 6→∀k,k < 6→(E2 n k).length≤120:=by decide+kernel
theorem bx5 {n:Nat}:∀(k:Nat) {r:List Int},r∈E2 n k→r.length=k
 |0,r,h=>by rw[dp1.mp h];rfl
 |k+1,r,h=>by
  obtain ⟨r',h',e⟩:=dt9.mp h
  obtain ⟨t,_,rfl⟩:=do9.mp e
  rw[do6,bx5 k h'];rfl
theorem bx6 {p:List Int}{x:Int}{L:Nat}(h:it p L x=x)(m:Nat):it p (m%L) x=it p m x:=by
 have k:∀c,it p (L*c) x=x:=fun c=>by
   induction c with
   |zero=>rfl
   |succ c ih=>rw[ef6,B7,h,ih]
 rw[←Nat.mod_add_div m L,B7,k,ea2,Nat.mod_mod]
def ad6 (p:List Int)(i:Nat):Nat:=(((ds0 5).map (· +1)).find? fun L=>decide (it p L (i:Int)=(i:Int))).getD 0
def bc7 (p:List Int)(r:Nat):List Int:=(ds0 p.length).map fun (i:Nat)=>it p (r%ad6 p i) (i:Int)
def an9 (p:List Int)(m:Nat):List Int:=(ds0 p.length).map fun (i:Nat)=>it p m (i:Int)
theorem dd9 {q t:List Int}{m:Nat}(h:o3 q (m:Int) t):t=an9 q m:=by
 refine dr3 fun i=> ?_
 have l1:(an9 q m).length=q.length:=by unfold an9;rw[dn8,dr0]
 by_cases hi:i < q.length
 · obtain ⟨L,pr,e⟩:=h.2 (i:Int) ⟨by omega,by omega⟩
   have e2:t[i]? =some (it q ((m:Int)%(L:Int)).toNat (i:Int)):=by
     unfold x6 at e
     simpa using e
   rw[e2]
   unfold an9
   rw[do2,ds1 hi]
   show some _=some _
   rw[←dv0,dr1,bx6 pr.back]
 · rw[do7 (by rw[h.1];omega),do7 (by omega)]
def bc8 (p:List Int):Nat:=p.foldl (fun a x=>5*a+x.toNat) 0
def cp7:Nat→Nat→List Int
 |0,_=>[]
 |n+1,e=>cp7 n (e/5)++[((e%5:Nat):Int)]
theorem bc9:∀n,n < 6→∀p∈E2 n n,p.length=n∧∀i,i < n→it p (ad6 p i) (i:Int)=(i:Int)∧60%ad6 p i=0∧0 < ad6 p i∧∀j,j < ad6 p i→0 < j→it p j (i:Int)≠(i:Int):=by decide+kernel
theorem de0 {n:Nat}(hn:n≤5){p:List Int}(hp:p∈E2 n n)(m:Nat):an9 p m=bc7 p (m%60):=by
 obtain ⟨el,h⟩:=bc9 n (by omega) p hp
 unfold an9 bc7
 refine dt3 fun i hi=> ?_
 have hi:=dr4.mp hi
 obtain ⟨e1,e2,_⟩:=h i (by omega)
 obtain ⟨c,hc⟩:=dz0 e2
 have e3:m%60%ad6 p i=m%ad6 p i:=by rw[hc];exact Nat.mod_mul_right_mod _ _ _
 rw[e3,bx6 e1]
theorem cw9:∀n,n < 6→∀r,r < 60→∀p∈E2 n n,cp7 n (bc8 (bc7 p r))=bc7 p r:=by decide+kernel
theorem di1:∀n,n < 6→∀p∈E2 n n,cp7 n (bc8 p)=p:=by decide+kernel
def T8 (p:List Int):Nat→List (List Int)
 |0=>[]
 |i+1=>if (i:Int)∈(T8 p i).flatten then T8 p i else T8 p i++[l9 p i (ad6 p i)]
theorem ao0 {n:Nat}(hn:n≤5){p:List Int}(hp:p∈E2 n n):∀i,i≤n→T8 p i=j6 p i
 |0,_=>rfl
 |i+1,h=>by
  obtain ⟨el,hh⟩:=bc9 n (by omega) p hp
  obtain ⟨a,_,b,c⟩:=hh i (by omega)
  have pr:C2 p (i:Int) (ad6 p i):=⟨b,a,fun j j0 j1=>c j j1 j0⟩
  show (if (i:Int)∈(T8 p i).flatten then T8 p i else T8 p i++[l9 p i (ad6 p i)])=if (i:Int)∈(j6 p i).flatten then j6 p i else j6 p i++[l9 p i (J7 p i)]
  rw[ao0 hn hp i (by omega),M2 pr]
def cp8 (n:Nat)(p:List Int)(m:Nat):Nat:=n0 (fun l=>w5 l m (n5 (T8 p n) l)) ((ds0 n).map (· +1))
theorem cx0:∀n,n < 6→∀p∈E2 n n,∀l,l < 6→l*n5 (T8 p n) l≤5:=by decide+kernel
theorem di2:∀k,k < 6→0 < k→60%k=0:=by decide+kernel
theorem de1 {k m:Nat}(k0:0 < k)(hk:k≤5):dp8 k (m%60)=dp8 k m:=by
 obtain ⟨c,hc⟩:=dz0 (di2 k (by omega) k0)
 have e:m%60%k=m%k:=by rw[hc];exact Nat.mod_mul_right_mod _ _ _
 rw[Nat.gcd_rec k (m%60),Nat.gcd_rec k m,e]
theorem cj6 {l m c:Nat}(l1:1≤l)(h:l*c≤5):p5 l (m%60) c=p5 l m c:=by
 unfold p5
 refine List.filter_congr fun d hd=> ?_
 obtain ⟨j,hj,rfl⟩:=do9.mp hd
 have hj:=dr4.mp hj
 have b:(j+1)*l≤5:=dp4 (du5 l (show j+1≤c from hj)) (by rw[du0];exact h)
 rw[de1 (dx9 (Nat.succ_pos j) l1) b]
theorem cx1 {n:Nat}(hn:n≤5){p:List Int}(hp:p∈E2 n n)(m:Nat):cp8 n p (m%60)=t7 p m:=by
 have el:=(bc9 n (by omega) p hp).1
 unfold cp8 t7
 rw[el,ao0 hn hp n (do1 _)]
 have key:∀ls:List Nat,(∀l∈ls,1≤l∧l≤n)→n0 (fun l=>w5 l (m%60) (n5 (j6 p n) l)) ls=n0 (fun l=>w5 l m (n5 (j6 p n) l)) ls:=fun ls=>by
   induction ls with
   |nil=>intro _;rfl
   |cons x xs ih=>
    intro h
    have hx:=h x do3
    have f:=cx0 n (by omega) p hp x (by omega)
    rw[ao0 hn hp n (do1 _)] at f
    show w5 x (m%60) _*n0 _ xs=w5 x m _*n0 _ xs
    rw[ih fun l hl=>h l (do4 _ hl)]
    unfold w5
    rw[cj6 hx.1 f]
 exact key _ fun l hl=>by
   obtain ⟨j,hj,rfl⟩:=do9.mp hl
   have:=dr4.mp hj
   omega
def ab1 (xs:List Nat)(s:Nat):Nat:=xs.foldl (fun s x=>s+256^x) s
theorem cp9 (e:Nat):∀xs:List Nat,∃a k,ab1 xs 0=a+(xs.count e)*256^e+k*256^(e+1)∧a*256≤xs.length*256^e:=fun xs=>by
 have g:∀(xs:List Nat) (s:Nat),ab1 xs s=s+ab1 xs 0:=fun xs=>by
   induction xs with
   |nil=>intro s;rfl
   |cons x xs ih=>
    intro s
    show ab1 xs (s+256^x)=s+ab1 xs (0+256^x)
    rw[ih (s+256^x),ih (0+256^x)]
    omega
 induction xs with
 |nil=>exact ⟨0,0,by simp [ab1],by simp⟩
 |cons x xs ih=>
  obtain ⟨a,k,e1,e2⟩:=ih
  have e0:ab1 (x::xs) 0=256^x+ab1 xs 0:=by show ab1 xs (0+256^x)=_;rw[g,dz8]
  rw[e0,e1,List.count_cons,dr8]
  rcases eh1 x e with z|z|z
  · refine ⟨a+256^x,k,?_,?_⟩
    · rw[if_neg (by simp;omega),dw0 (xs.count e)];omega
    · have:256^(x+1)≤256^e:=Nat.pow_le_pow_right (by decide) z
      rw[ef8] at this
      rw[dz7,dz7]
      omega
  · subst z
    refine ⟨a,k,?_,?_⟩
    · rw[if_pos (by simp),dz7];omega
    · rw[dz7];omega
  · obtain ⟨c,rfl⟩:∃c,x=e+1+c:=⟨x - (e+1),by omega⟩
    refine ⟨a,k+256^c,?_,?_⟩
    · rw[if_neg (by simp;omega),dw0 (xs.count e),dz7 k,←Nat.pow_add,dv9 c]
      omega
    · rw[dz7];omega
theorem cx2 {xs:List Nat}(h:xs.length < 256)(e:Nat):ab1 xs 0/256^e%256=xs.count e:=by
 obtain ⟨a,k,e1,e2⟩:=cp9 e xs
 have pe:0 < 256^e:=Nat.pow_pos (by decide)
 have al:a < 256^e:=by
   have:xs.length*256^e < 256*256^e:=Nat.mul_lt_mul_of_pos_right h pe
   omega
 have c:=List.count_le_length (a:=e) (l:=xs)
 have e3:a+xs.count e*256^e+k*256^(e+1)=a+256^e*(xs.count e+256*k):=by
   rw[ec8,ef8,←ec4,du0 (xs.count e),show k*(256^e*256)=256^e*(256*k) by ac_rfl]
 rw[e1,e3]
 rw[Nat.add_mul_div_left _ _ pe,ee7 al]
 omega
def cr9 (s:Nat)(f:Nat→Bool):Bool:=match s with
 |0=>f 0
 |k+1=>f (k+1)
theorem cq0 (s:Nat)(f:Nat→Bool):cr9 s f=f s:=by cases s<;>rfl
def de2 (n r:Nat):Bool:=cr9 (ab1 ((E2 n n).map fun q=>bc8 (bc7 q r)) 0) fun s=>(E2 n n).all fun p=>Nat.beq (s/256^bc8 p%256) (cp8 n p r)
theorem cx3:∀n,n < 6→∀r,r < 60→de2 n r=true:=by decide+kernel
theorem cj7 {p:List Int}(tp:j8 p)(lp:p.length≤5)(m:Nat):((E2 p.length p.length).countP fun q=>decide (an9 q m=p))=t7 p m:=by
 have r60:m%60 < 60:=dv6 _ (by decide)
 have hp:=bx4 tp
 have c:=cx3 p.length (by omega) _ r60
 unfold de2 at c
 rw[cq0] at c
 have c:=Nat.eq_of_beq_eq_true (dx8.mp c p hp)
 rw[cx2 (by rw[dn8];have:=au3 p.length (by omega) p.length (by omega);omega),cx1 lp hp] at c
 rw[←c,List.count,dy6]
 refine dy7 fun q hq=> ?_
 rw[de0 lp hq m]
 show decide _=true↔(bc8 (bc7 q (m%60))==bc8 p)=true
 rw[decide_eq_true_iff,beq_iff_eq]
 refine ⟨fun e=>by rw[e],fun e=> ?_⟩
 rw[←cw9 _ (by omega) _ r60 q hq,e,di1 _ (by omega) p hp]
end
end My
namespace My
open PySem L2 Mth
section
variable {P:Program} {w:World} {K:PySem.W.Frag} {mg:Str→Option Value} {base:Heap}
theorem cj8 {X:Cx}(K:PySem.W.Frag)(hK:X.K=K:=by rfl):K7 X (compareOp .NotIn) (rIn K true):=by
 subst hK;exact bj0
def gro (n:Nat)(r:List Int):List (List Int):=((ds0 n).filter fun (t:Nat)=> !decide ((t:Int)∈r)).map fun (t:Nat)=>r++[(t:Int)]
theorem bq3 (t:Nat)(r:List Int):gro (t+1) r=if (t:Int)∈r then gro t r else gro t r++[r++[(t:Int)]]:=by
 unfold gro
 rw[ea0,dz3,do8]
 by_cases c:(t:Int)∈r
 · rw[if_pos c,dx1 (by rw[decide_eq_true c];decide)]
   exact dq6 _
 · rw[if_neg c,dx0 (by rw[decide_eq_false c];rfl)]
   rfl
theorem bd0 (n:Nat)(r:List Int):(gro n r).length≤n:=by
 unfold gro
 rw[dn8]
 exact dp4 (dz6 _ _) (by rw[dr0];exact do1 _)
theorem bq4 (n:Nat):∀ps:List (List Int),(ps.flatMap (gro n)).length≤ps.length*n
 |[]=>by rw[ec6,dz9];exact do1 _
 |q::ps=>by
  rw[ds9,do6,dr8,dz7]
  have:=bq4 n ps
  have:=bd0 n q
  omega
theorem cx4 (x:Int)(r:List Int):inV (.int x) (r.map V.int)=decide (x∈r):=by
 unfold inV
 rw[List.any_map,dx3,ee3,decide_eq_true_iff]
 refine ⟨fun ⟨y,hy,e⟩=> ?_,fun h=>⟨x,h,?_⟩⟩
 · have e:(y==x)=true:=e
   rw[←beq_iff_eq.mp e];exact hy
 · show (x==x)=true
   exact beq_self_eq_true x
theorem bg7:∀r:List Int,(r.map V.int).all S7=true
 |[]=>rfl
 |x::r=>by rw[dr7,ej0,bg7 r];rfl
def bd1:Sp:=fun vs H Q _=>∃n:Nat,vs=[.int (n:Int)]∧n≤5∧∀(l:Addr) (as:List Addr) (H':Hp),H l=none→e8 H H'→H' l=some (.lst (as.map V.ref))→k7 H' as (E2 n n)→Q (.ref l) H'
theorem L7:l8 ["many","found","k","longer","row"] ["many"] (i7 ad2):=⟨rfl,rfl,rfl,by decide+kernel,rfl,by decide+kernel,by decide+kernel⟩
theorem ad7:(["thing","row"]:List Str).Nodup:=by decide+kernel
theorem bq5 {f:Addr}{fd:FuncData}(F:A2 K "_law_every" "_law_every" ad2 f fd)(B:Bl mg):o8 P w K mg base A0 1 f fd ["many"] bd1:=by
 refine F.ok L7 (fun vs H Q E h=> ?_) (fun cdv A outer s H vs Q E hr h=> ?_)
 · obtain ⟨n,rfl,hn,q⟩:=h
   rfl
 · obtain ⟨n,rfl,hn,q⟩:=h
   have hu:=S8 hr
   refine ⟨_,@c7 _ _ _ _ _ (@i4 _ _ (1) _ _ _ _ L7.nd rfl (Or.inl rfl) (@w4 _ _ _ _ (@c5 _ _ _ _ _ (@w4 _ _ _ _ (@c6 _)) (@c6 _) (by rfl))) (by rfl) (by first|exact .inl rfl|exact .inr rfl|assumption)) (@c7 _ _ _ _ _ (@o6 _ _ _ _ _ _ _ _ PassesOwn.never rfl (@K1 _ _ _ _ _ _ (by rfl) B.range (@c5 _ _ _ _ _ (pv 0) (@c6 _) (by rfl)) (by rfl)) (@j5 _ _ (2) _ L7.nd rfl (Or.inl rfl) (by first|exact .inl rfl|exact .inr rfl|assumption)) (@c7 _ _ _ _ _ (@i4 _ _ (3) _ _ _ _ L7.nd rfl (Or.inl rfl) (@w4 _ _ _ _ (@c6 _)) (by rfl) (by first|exact .inl rfl|exact .inr rfl|assumption)) (@c7 _ _ _ _ _ (@o6 _ _ _ _ _ _ _ _ PassesOwn.never rfl (@w9 _ _ _ _ (pv 1)) (@j5 _ _ (4) _ L7.nd rfl (Or.inr rfl) (by first|exact .inl rfl|exact .inr rfl|assumption)) (@e7 _ _ _ (@o7 _ _ _ _ (@be6 _ _ _ _ _ _ _ (pv 3) (@c5 _ _ _ _ _ (@ae3 _ _ _ _ _ _ _ _ _ _ _ (["thing","row"]) (1) ([4]) rfl .of (@K1 _ _ _ _ _ _ (by rfl) B.range (@c5 _ _ _ _ _ (pv 0) (@c6 _) (by rfl)) (by rfl)) (fun _ _ _ _ _=>@j5 _ _ (0) _ ad7 rfl (Or.inl rfl) (by first|exact .inl rfl|exact .inr rfl|assumption)) (fun _ _ _ _ _=>@ar5 _ _ _ (@m9 _ _ _ _ _ _ _ _ (cj8 K) (pv 0) (pv 1) (by with_unfolding_all rfl))) (fun _ _ _ _ _=>(@l7 _ _ _ _ _ _ _ _ av5 (pv 1) (@w4 _ _ _ _ (@c5 _ _ _ _ _ (pv 0) (@c6 _) (by rfl))))) (by intro _;rfl)) (@c6 _) (by rfl)) (by rfl) (by rfl) (by rfl) (by rfl) (by rfl)) (by rfl))) (by intro _;rfl)) (@e7 _ _ _ (@i4 _ _ (1) _ _ _ _ L7.nd rfl (Or.inl rfl) (pv 3) (by rfl) (by first|exact .inl rfl|exact .inr rfl|assumption))))) (by intro _;rfl)) (@e7 _ _ _ (@l6 _ _ _ _ (pv 1)))),?_⟩
   refine ⟨dq3 _,fun e0 he0=> ?_⟩
   have s1:e8 H (c9 H e0 (.lst [])):=e8.upd_new he0
   have h1e:(c9 H e0 (.lst [])) e0=some (.lst (([]:List Int).map V.int)):=c8
   generalize (c9 H e0 (.lst []))=H1 at s1 h1e ⊢
   refine ⟨(show 1≤sizeLine by decide),fun F0 hF0=> ?_⟩
   have s2:e8 H1 (c9 H1 F0 (.lst [V.ref e0])):=e8.upd_new hF0
   have h2F:(c9 H1 F0 (.lst [V.ref e0])) F0=some (.lst (([e0]:List Addr).map V.ref)):=c8
   generalize (c9 H1 F0 (.lst [V.ref e0]))=H2 at s2 h2F ⊢
   have h2e:=s2 _ _ h1e
   have s02:=s1.trans s2
   refine ⟨_,rfl,(n:Int),rfl,by omega,by omega,?_⟩
   rw[show ((n:Int)).toNat=n by omega]
   refine I0 (lo:=0) (n:=n) (fun i σ H3=>∃(F:Addr) (as:List Addr) (v2 v3 v4:Option V),σ=[some (.int (n:Int)),some (.ref F),v2,v3,v4]∧H3 F=some (.lst (as.map V.ref))∧k7 H3 as (E2 n i)∧e8 H H3∧H F=none)
     ⟨F0,[e0],none,none,none,rfl,h2F,⟨rfl,fun j b r e1 e2=>by
       rcases j with _|j
       · cases e1;cases e2;exact h2e
       · cases e1⟩,s02,s1.free hF0⟩ ?_ ?_
   · rintro i σ H3 hi ⟨F,as,v2,v3,v4,rfl,h3F,rows,s3,hF⟩
     have lenA:=au3 n (by omega) i (by omega)
     refine ⟨dq3 _,fun L hL=> ?_⟩
     have nFL:F≠L:=g6 h3F hL
     have hL0:H L=none:=s3.free hL
     have kb1:i8 L H3 (c9 H3 L (.lst [])):=i8.upd
     have h4L:(c9 H3 L (.lst [])) L=some (.lst (([]:List Addr).map V.ref)):=c8
     generalize (c9 H3 L (.lst []))=H4 at kb1 h4L ⊢
     have h4F:=kb1 _ _ h3F nFL
     have nLas:L∉as:=fun z=>by
       obtain ⟨r,hr'⟩:=aa3 rows z
       rw[hL] at hr';cases hr'
     refine ⟨_,rfl,F,rfl,⟨_,g9.of h4F⟩,A8 (K:=K) (a:=F) (xs:=as.map V.ref) (fun j σ H5=>∃(bs:List Addr) (v4:Option V),σ=[some (.int (n:Int)),some (.ref F),some (.int ((0:Int)+(i:Int))),some (.ref L),v4]∧H5 L=some (.lst (bs.map V.ref))∧k7 H5 bs (((E2 n i).take j).flatMap (gro n))∧i8 L H3 H5∧L∉bs)
       ⟨[],v4,rfl,h4L,⟨rfl,fun j b r h=>by cases h⟩,kb1,fun z=>by cases z⟩ (fun j σ H5 _ ⟨_,_,_,_,_,k,_⟩=>g9.of (k _ _ h3F nFL)) ?_ ?_⟩
     · rintro j x σ H5 hj ⟨bs,v4,rfl,h5L,rowsB,kb5,nLb⟩
       obtain ⟨a,ha,rfl⟩:∃a,as[j]? =some a∧x=V.ref a:=by
         rw[do2] at hj
         cases e:as[j]? with
         |none=>rw[e] at hj;cases hj
         |some a=>rw[e] at hj;exact ⟨a,rfl,(Option.some.inj hj).symm⟩
       have jl:j < (E2 n i).length:=by rw[←rows.1];exact (do0.mp ha).1
       obtain ⟨p,hp⟩:∃p,(E2 n i)[j]? =some p:=⟨_,dn9 jl⟩
       have lp:p.length=i:=bx5 i (dp0 hp)
       have h3a:=rows.2 j a p ha hp
       have naL:a≠L:=fun z=>nLas (z▸dp0 ha)
       have h5a:=kb5 _ _ h3a naL
       have etk:(E2 n i).take (j+1)=(E2 n i).take j++[p]:=by rw[ei9,hp];rfl
       have cntj:bs.length≤600:=by
         rw[rowsB.1]
         have:=bq4 n ((E2 n i).take j)
         have l2:((E2 n i).take j).length≤120:=dp4 (List.length_take_le _ _) (by omega)
         have:((E2 n i).take j).length*n≤120*5:=ea4 l2 hn
         omega
       refine ⟨_,rfl,.inl ⟨rfl,_,g9.of h5L⟩,_,rfl,(n:Int),rfl,by omega,by omega,?_⟩
       rw[show ((n:Int)).toNat=n by omega]
       refine ag7 (lo:=0) (n:=n) (fun t ys σ H6=>∃(cs:List Addr) (v:Option V),σ=[v,some (.ref a)]∧ys=cs.map V.ref∧k7 H6 cs (gro t p)∧e8 H5 H6∧∀c∈cs,H5 c=none) ⟨[],none,rfl,rfl,⟨rfl,fun j b r h=>by cases h⟩,e8.refl _,fun c hc=>by cases hc⟩ ?_ ?_
       · rintro t ys σ H6 ht ⟨cs,v,rfl,rfl,rowsC,s6,fr⟩
         have e0:(0:Int)+(t:Int)=(t:Int):=by omega
         rw[e0]
         have h6a:=s6 _ _ h5a
         have lc:cs.length≤5:=by rw[rowsC.1];exact dp4 (bd0 t p) (by omega)
         refine ⟨_,rfl,_,rfl,a,_,rfl,.inl (g9.of h6a),rfl,bg7 p,_,rfl,?_⟩
         rw[cx4]
         by_cases c:(t:Int)∈p
         · rw[decide_eq_true c]
           refine C8 ⟨cs,_,rfl,rfl,?_,s6,fr⟩
           rw[bq3,if_pos c]
           exact rowsC
         · rw[decide_eq_false c]
           refine U4 ⟨_,rfl,_,rfl,(show 1≤sizeLine by decide),fun o ho=> ?_⟩
           have s8:e8 H6 (c9 H6 o (.lst [V.int (t:Int)])):=e8.upd_new ho
           have h8o:(c9 H6 o (.lst [V.int (t:Int)])) o=some (.lst [V.int (t:Int)]):=c8
           generalize (c9 H6 o (.lst [V.int (t:Int)]))=H8 at s8 h8o ⊢
           refine ⟨a,o,_,_,rfl,rfl,s8 _ _ h6a,h8o,du2 (p9 (by simp only[dn8,ee0];omega)),fun e he=> ?_⟩
           have ec:p.map V.int++[V.int (t:Int)]=(p++[(t:Int)]).map V.int:=by rw[do8];rfl
           rw[ec]
           have s9:e8 H6 (c9 H8 e (.lst ((p++[(t:Int)]).map V.int))):=s8.trans (e8.upd_new he)
           have h9e:(c9 H8 e (.lst ((p++[(t:Int)]).map V.int))) e=some (.lst ((p++[(t:Int)]).map V.int)):=c8
           generalize (c9 H8 e (.lst ((p++[(t:Int)]).map V.int)))=H9 at s9 h9e ⊢
           refine ⟨p9 (by rw[dn8];omega),cs++[e],_,rfl,by rw[do8];rfl,?_,s6.trans s9,fun b hb=> ?_⟩
           · rw[bq3,if_neg c]
             exact L8 (p6 rowsC fun b hb o e=>s9 _ _ e) h9e
           · rcases dp3.mp hb with z|z
             · exact fr b z
             · rw[dp1.mp z]
               exact (s6.trans s8).free he
       · rintro ys σ H6 ⟨cs,v,rfl,rfl,rowsC,s6,fr⟩ D hD
         have s7:e8 H5 (c9 H6 D (.lst (cs.map V.ref))):=s6.trans (e8.upd_new hD)
         have h7D:(c9 H6 D (.lst (cs.map V.ref))) D=some (.lst (cs.map V.ref)):=c8
         have r7:k7 (c9 H6 D (.lst (cs.map V.ref))) cs (gro n p):=p6 rowsC fun b hb o e=>e8.upd_new hD _ _ e
         generalize (c9 H6 D (.lst (cs.map V.ref)))=H7 at s7 h7D r7 ⊢
         have lc:cs.length≤5:=by rw[rowsC.1];exact dp4 (bd0 n p) (by omega)
         refine ⟨L,D,_,_,rfl,rfl,s7 _ _ h5L,h7D,du2 (p9 (by rw[dn8,dn8];omega)),?_⟩
         have nLc:L∉cs:=fun z=>by have:=fr L z;rw[h5L] at this;cases this
         rw[←do8]
         refine ⟨bs++cs,_,rfl,c8,?_,(kb5.trans (s7.but L)).upd_a,fun z=> ?_⟩
         · rw[etk,dw4,ds9,dy1,dq6]
           refine p6 (ar8 (p6 rowsB fun b hb o e=>s7 _ _ e) r7) fun b hb o e=> ?_
           rw[g8 (show b≠L from fun z=> ?_)]
           · exact e
           · rw[z] at hb
             rcases dp3.mp hb with y|y
             · exact nLb y
             · exact nLc y
         · rcases dp3.mp z with y|y
           · exact nLb y
           · exact nLc y
     · rintro σ H5 ⟨bs,v4,rfl,h5L,rowsB,kb5,nLb⟩
       rw[dn8,rows.1,dq8] at rowsB
       exact ⟨_,rfl,L,bs,_,_,_,rfl,h5L,rowsB,s3.kb kb5 hL0,hL0⟩
   · rintro σ H3 ⟨F,as,v2,v3,v4,rfl,h3F,rows,s3,hF⟩
     exact ⟨_,rfl,q F as H3 hF s3 h3F rows⟩
end
end My
namespace My
open PySem L2 Mth
section
theorem az0 {α:Type}[DecidableEq α]:∀{a b:List α},a.Nodup→(∀x∈a,x∈b)→a.length≤b.length
 |[],_,_,_=>dq3 _
 |x::a,b,nd,h=>by
  rw[dr5] at nd
  have hx:=h x do3
  have:=az0 (b:=b.erase x) nd.2 fun y hy=>(ef1 (fun (e:y=x)=>nd.1 (by rw[←e];exact hy))).mpr (h y (do4 _ hy))
  rw[eh4 hx] at this
  have:=ed9 hx
  rw[dr8]
  omega
theorem bs3 {α:Type}[DecidableEq α]{a b:List α}(na:a.Nodup)(nb:b.Nodup)(h:∀x∈a,x∈b)(l:a.length=b.length):a.Perm b:=by
 refine (eg9 na nb).mpr fun x=>⟨h x,fun hx=> ?_⟩
 by_cases c:x∈a
 · exact c
 · have:=az0 (a:=x::a) (b:=b) (dr5.mpr ⟨c,na⟩) fun y hy=>by
     rcases dp7.mp hy with z|z
     · rw[z];exact hx
     · exact h y z
   rw[dr8] at this
   omega
theorem Q2.uniq {p:List Int}{m:Nat}{ts us:List (List Int)}(h:Q2 p m ts)(g:Q2 p m us)(tp:j8 p)(lp:p.length≤40)(m1:1≤m):ts=us:=
 ah7 ((eg9 (h.nd tp lp m1) (g.nd tp lp m1)).mpr fun t=>by rw[h.mem tp lp m1,g.mem tp lp m1]) h.srt g.srt
def cj (s b r:List Int):List Int:=y7 (y7 s r) b
theorem cb6 {s b r:List Int}(ts:j8 s)(tr:j8 r)(hl:s.length=r.length)(hb:o3 s (-1) b){x:Int}(hx:In r x):nx (cj s b r) (nx s x)=nx s (nx r x):=ae9 tr ts hl hb hx 1
theorem de3 {s b r q:List Int}(ts:j8 s)(tr:j8 r)(tq:j8 q)(hl:s.length=r.length)(hq:s.length=q.length)(hb:o3 s (-1) b)(e:cj s b r=cj s b q):r=q:=by
 refine dr3 fun i=> ?_
 by_cases hi:i < r.length
 · have hx:In r (i:Int):=⟨by omega,by omega⟩
   have hx':In q (i:Int):=⟨by omega,by omega⟩
   have h1:=cb6 ts tr hl hb hx
   rw[e,cb6 ts tq hq hb hx'] at h1
   have a1:=T0 tr hx
   have a2:=T0 tq hx'
   have h2:=T1 ts (x:=nx q (i:Int)) (y:=nx r (i:Int)) ⟨a2.1,by have:=a2.2;omega⟩ ⟨a1.1,by have:=a1.2;omega⟩ h1
   have b1:=Q9 hx
   have b2:=Q9 hx'
   rw[h2,←b1] at b2
   unfold x6 at b2
   rw[dr1] at b2
   exact b2.symm
 · rw[do7 (by omega),do7 (by omega)]
theorem ab2 {s b r:List Int}(hb:o3 s (-1) b):(cj s b r).length=s.length:=by
 unfold cj y7
 rw[dn8]
 exact hb.1
theorem cx5 {s b r p:List Int}{m:Nat}(ts:j8 s)(tr:j8 r)(hl:s.length=r.length)(hb:o3 s (-1) b)(pw:o3 r (m:Int) p):o3 (cj s b r) (m:Int) (cj s b p):=by
 have tp:=Y4 tr pw
 have lp:p.length=r.length:=pw.1
 refine ⟨by rw[ab2 hb,ab2 hb],fun x hx=> ?_⟩
 have hxs:In s x:=by unfold Mth.In at*;rw[ab2 hb] at hx;exact hx
 obtain ⟨y1,y2⟩:=bk4 ts hb hxs
 have hyr:In r (nx b x):=by unfold Mth.In at*;rw[←hl];exact y1
 have hyp:In p (nx b x):=by unfold Mth.In at*;rw[lp];exact hyr
 obtain ⟨L,hL,e⟩:=bk2 pw hyr
 refine ⟨L,?_,?_⟩
 · have:=bl4 tr ts hl hb hyr hL
   rw[y2] at this
   exact this
 · have h1:=Q9 (p:=cj s b p) (x:=x) (by unfold Mth.In at*;rw[ab2 hb];exact hxs)
   have h2:=cb6 ts tp (by omega) hb hyp
   rw[y2] at h2
   have h3:=ae9 tr ts hl hb hyr ((m:Int)%(L:Int)).toNat
   rw[y2] at h3
   show x6 (cj s b p) x=some (it (y7 (y7 s r) b) ((m:Int)%(L:Int)).toNat x)
   rw[h1,h2,h3,e _ (bk3 (m:Int) L hL.pos)]
theorem az1 {f g:Nat→Nat}:∀{xs:List Nat},(∀x∈xs,f x=g x)→n0 f xs=n0 g xs
 |[],_=>rfl
 |x::xs,h=>by
  show f x*n0 f xs=g x*n0 g xs
  rw[h x do3,az1 fun y hy=>h y (do4 _ hy)]
theorem au4 {s b p:List Int}(m:Nat)(ts:j8 s)(tp:j8 p)(hl:s.length=p.length)(hb:o3 s (-1) b):t7 (cj s b p) m=t7 p m:=by
 unfold t7
 have e:(cj s b p).length=p.length:=by rw[ab2 hb,hl]
 rw[e]
 refine az1 fun l _=> ?_
 have h:=cm8 tp ts hl hb l
 have e2:(y7 (y7 s p) b).length=p.length:=e
 rw[e2] at h
 exact congrArg (w5 l m) h
theorem bs4 {s b p:List Int}{m:Nat}{ts us ms:List (List Int)}(hs:j8 s)(tp:j8 p)(lp:p.length≤40)(hl:s.length=p.length)(hb:o3 s (-1) b)(m1:1≤m)(h:Q2 p m ts)(g:Q2 (cj s b p) m us)(pm:ms.Perm (ts.map (cj s b)))(up:ca4 ms):ms=us:=by
 have tq:j8 (cj s b p):=ah3 tp hs hl hb
 have lq:(cj s b p).length≤40:=by rw[ab2 hb];omega
 refine ah7 (pm.trans (bs3 ?_ (g.nd tq lq m1) (fun x hx=> ?_) ?_)) up g.srt
 · have nd:=h.nd tp lp m1
   rw[dp6,dw2]
   refine List.Pairwise.imp_of_mem (fun {a c} ha hc ne e=>ne ?_) (dp6.mp nd)
   have h1:=h.root tp lp m1 a ha
   have h2:=h.root tp lp m1 c hc
   have l1:p.length=a.length:=h1.2.1
   have l2:p.length=c.length:=h2.2.1
   exact de3 hs h1.1 h2.1 (by omega) (by omega) hb e
 · obtain ⟨r,hr,rfl⟩:=do9.mp hx
   have h1:=h.root tp lp m1 r hr
   have l1:p.length=r.length:=h1.2.1
   exact (g.mem tq lq m1).mpr ⟨ah3 h1.1 hs (by omega) hb,cx5 hs h1.1 (by omega) hb h1.2⟩
 · rw[dn8,h.len,g.len,au4 m hs tp hl hb]
theorem de4:∀n,n < 6→(E2 n n).Nodup:=by decide+kernel
theorem bx7 {α:Type}[DecidableEq α]{z:α}:∀{xs:List α},xs.Nodup→z∈xs→xs.countP (fun x=>decide (z=x))=1
 |x::xs,nd,h=>by
  rw[dr5] at nd
  rw[dv5]
  by_cases c:z=x
  · rw[if_pos (decide_eq_true c),dv3.mpr fun y hy e=>nd.1 (by rw[←c,of_decide_eq_true e];exact hy)]
  · rw[if_neg (by rw[decide_eq_false c];decide),bx7 nd.2 ((dp7.mp h).resolve_left c)]
theorem cq1 {α:Type}(A:List α):(A.map fun _=>0).sum=0:=by
 induction A with
 |nil=>rfl
 |cons a A ih=>rw[dr7,eb4,ih]
theorem cx6 {α:Type}(A:List α)(g:α→Nat)(q:α→Bool):(A.map fun a=>g a+if q a=true then 1 else 0).sum=(A.map g).sum+A.countP q:=by
 induction A with
 |nil=>rfl
 |cons a A ih=>
  rw[dr7,eb4,ih,dr7,eb4,dv5]
  omega
theorem dbl {α:Type}[DecidableEq α](f:α→α)(A:List α):∀B:List α,(∀b∈B,A.countP (fun a=>decide (f b=a))=1)→(A.map fun a=>B.countP fun b=>decide (f b=a)).sum=B.length
 |[],_=>cq1 A
 |b::B,h=>by
  have e:(fun a=>(b::B).countP fun b=>decide (f b=a))=fun a=>B.countP (fun b=>decide (f b=a))+if decide (f b=a)=true then 1 else 0:=by
    funext a
    rw[dv5]
  rw[e,cx6 A (fun a=>B.countP fun b=>decide (f b=a)) (fun a=>decide (f b=a)),dbl f A B fun b hb=>h b (do4 _ hb),h b do3,dr8]
theorem cj9 {n:Nat}(m:Nat)(hn:n≤5):((E2 n n).map fun p=>t7 p m).sum=(E2 n n).length:=by
 have nd:=de4 n (by omega)
 rw[←dbl (fun q=>an9 q m) (E2 n n) (E2 n n) fun q hq=> ?_]
 · refine congrArg List.sum (dt3 fun p hp=> ?_)
   obtain ⟨t1,t2,t3,t4⟩:=an8 n (by omega) p hp
   have:=cj7 (p:=p) ⟨t1,t2,t3⟩ (by omega) m
   rw[t4] at this
   exact this.symm
 · refine bx7 nd ?_
   obtain ⟨t1,t2,t3,t4⟩:=an8 n (by omega) q hq
   have tq:j8 q:=⟨t1,t2,t3⟩
   obtain ⟨t,ht⟩:=ca1 tq (m:Int)
   have e:=bx4 (Y4 tq ht)
   have el:t.length=n:=by rw[ht.1,t4]
   rw[dd9 ht] at e el
   rw[el] at e
   exact e
end
end My
namespace My
open PySem L2 Mth
section
variable {P:Program} {w:World} {K:PySem.W.Frag} {mg:Str→Option Value} {base:Heap}
theorem di3 {R:St→Hp→Prop}{σ:St}{H:Hp}{A:Prop}{b:Bool}(G:St→Hp→Prop)(rest:∀σ' H',G σ' H'→R σ' H')(hb:G σ H)(ha:(∀σ' H',G σ' H'→R σ' H')→A):if b=true then A else R σ H:=by
 cases b with
 |true=>exact ha rest
 |false=>exact rest σ H hb
theorem Kp.seq {H H':Hp}(k:Kp H H'){a:Addr}{xs:List V}(h:g9 K H a xs):g9 K H' a xs:=by
 rcases h with (e|⟨o,e⟩)|h
 · exact .inl (.inl (k.lst e))
 · exact .inl (.inr ⟨o,k.nd _ _ e (fun kvs z=>by cases z)⟩)
 · exact .inr h
def Q3 (H:Hp)(g l:Addr):Hp:=fun a=>if a=g∨a=l then none else H a
theorem bx8 {g:Addr}{H H':Hp}(k:i8 g H H'):e8 (Q3 H g g) H':=fun b u e=>by
 unfold Q3 at e
 by_cases c:b=g
 · rw[if_pos (.inl c)] at e;cases e
 · rw[if_neg (fun z=>c (z.elim id id))] at e
   exact k _ _ e c
theorem P9 {g b:Addr}{H:Hp}{u:HO}(e:H b=some u)(n:b≠g):Q3 H g g b=some u:=by
 unfold Q3
 rw[if_neg (fun z=>n (z.elim id id))]
 exact e
theorem ck0 {n:Nat}(h:n≤2000):n < sizeLine:=ds2 h (by decide)
theorem di4 {R:St→Hp→Prop}{σ:St}{H:Hp}{A B:Prop}{b:Bool}(rest:R σ H)(ha:b=true→R σ H→A):if b=true then A else if false=true then B else R σ H:=by
 cases b with
 |true=>exact ha rfl rest
 |false=>exact rest
theorem Kp.kb {H H1 H2:Hp}{g:Addr}(hg:H g=none)(k:Kp H H1)(b:i8 g H1 H2):Kp H H2:=by
 have ne:∀x u,H x=some u→x≠g:=fun x u e z=>by rw[z,hg] at e;cases e
 refine ⟨fun x u e n=>b _ _ (k.nd x u e n) (ne x u e),fun x es e=> ?_,fun x e=> ?_⟩
 · have nx:x≠g:=e.elim (fun e=>ne x _ e) fun ⟨o,e⟩=>ne x _ e
   rcases k.tab x es e with z|⟨o,z⟩
   · exact .inl (b _ _ z nx)
   · exact .inr ⟨o,b _ _ z nx⟩
 · by_cases c:x=g
   · rw[c];exact hg
   · refine k.fr x ?_
     cases z:H1 x with
     |none=>rfl
     |some u=>rw[b _ _ z c] at e;cases e
theorem Kp.hol2 {H H1:Hp}{g:Addr}(k:Kp H H1):Kp (Q3 H g g) (Q3 H1 g g):=by
 have ne:∀{H:Hp} {x u},Q3 H g g x=some u→x≠g∧H x=some u:=fun {H x u} e=>by
   unfold Q3 at e
   by_cases c:x=g
   · rw[if_pos (.inl c)] at e;cases e
   · rw[if_neg (fun z=>c (z.elim id id))] at e
     exact ⟨c,e⟩
 refine ⟨fun x u e n=>P9 (k.nd x u (ne e).2 n) (ne e).1,fun x es e=> ?_,fun x e=> ?_⟩
 · rcases e with e|⟨o,e⟩
   · rcases k.tab x es (.inl (ne e).2) with z|⟨o,z⟩
     · exact .inl (P9 z (ne e).1)
     · exact .inr ⟨o,P9 z (ne e).1⟩
   · rcases k.tab x es (.inr ⟨o,(ne e).2⟩) with z|⟨o,z⟩
     · exact .inl (P9 z (ne e).1)
     · exact .inr ⟨o,P9 z (ne e).1⟩
 · unfold Q3 at e ⊢
   by_cases c:x=g∨x=g
   · rw[if_pos c]
   · rw[if_neg c] at e ⊢
     exact k.fr x e
theorem ck1 (H:Hp)(g:Addr):Q3 H g g g=none:=by
 unfold Q3
 rw[if_pos (.inl rfl)]
theorem Kp.into (H:Hp)(g:Addr):Kp (Q3 H g g) H:=Kp.of (bx8 ((e8.refl H).but g))
def ao1:Sp:=fun vs H Q _=>∃(g a sa:Addr) (p s:List Int) (m:Nat),vs=[.ref g,.ref a,.int (m:Int),.ref sa]∧y8 H g∧a≠g∧sa≠g∧B8 H a p∧B8 H sa s∧s.length=p.length∧1≤m∧m≤1000∧∀(H':Hp),Kp (Q3 H g g) H'→Q (.bl true) H'
theorem J6:l8 ["deck","p","m","s","many","told","other","roots","k","at"] ["deck","p","m","s"] (i7 ad3):=⟨rfl,rfl,rfl,by decide+kernel,rfl,by decide+kernel,by decide+kernel⟩
theorem au5:(["r","s"]:List Str).Nodup:=by decide+kernel
theorem bq6 {f:Addr}{fd:FuncData}(F:A2 K "_law_right" "_law_right" ad3 f fd)(B:Bl mg)(c_how_many_roots:j7 P w K mg base "how_many_roots" 4 ["p","m"] am9)(c_root_told:j7 P w K mg base "root_told" 5 ["p","m"] bw2)(c_put_behind:j7 P w K mg base "put_behind" 4 ["p","q"] as3)(c_way_back:j7 P w K mg base "way_back" 5 ["p"] bm8)(c_all_roots:j7 P w K mg base "all_roots" 44 ["p","m"] an4)(c_law_next:j7 P w K mg base "_law_next" 1 ["deck"] am6)(c_power_of:j7 P w K mg base "power_of" 4 ["p","k"] af6)(c_number_of_root:j7 P w K mg base "number_of_root" 45 ["p","m","r"] bq2)(c_nth_root:j7 P w K mg base "nth_root" 45 ["p","m","k"] bq1):o8 P w K mg base A0 46 f fd ["deck","p","m","s"] ao1:=by
 refine F.ok J6 (fun vs H Q E h=> ?_) (fun cdv A outer s H vs Q E hr h=> ?_)
 · obtain ⟨g,a,sa,p,s,m,rfl,D,nag,nsg,ta,tsa,hl,m1,m2,q⟩:=h
   rfl
 · obtain ⟨g,a,sa,p,s,m,rfl,D,nag,nsg,ta,tsa,hl,m1,m2,q⟩:=h
   have hr_how_many_roots:m7 4 _:=hr.mono (by decide)
   have hr_root_told:m7 5 _:=hr.mono (by decide)
   have hr_put_behind:m7 4 _:=hr.mono (by decide)
   have hr_way_back:m7 5 _:=hr.mono (by decide)
   have hr_all_roots:m7 44 _:=hr.mono (by decide)
   have hr_law_next:m7 1 _:=hr.mono (by decide)
   have hr_power_of:m7 4 _:=hr.mono (by decide)
   have hr_number_of_root:m7 45 _:=hr.mono (by decide)
   have hr_nth_root:m7 45 _:=hr.mono (by decide)
   have hu:=S8 hr
   have hu2:_+1+1 < cLine:=ds2 (ea5 (by decide:2≤64) _) hr.units
   refine ⟨_,@c7 _ _ _ _ _ (@i4 _ _ (4) _ _ _ _ J6.nd rfl (Or.inl rfl) (@h8 _ _ _ _ _ _ _ _ _ _ c_how_many_roots hr_how_many_roots (@c5 _ _ _ _ _ (pv 1) (@c5 _ _ _ _ _ (pv 2) (@c6 _) (by rfl)) (by rfl)) (by rfl) (by decide) (by rfl) (by rfl)) (by rfl) (by first|exact .inl rfl|exact .inr rfl|assumption)) (@c7 _ _ _ _ _ (@i4 _ _ (5) _ _ _ _ J6.nd rfl (Or.inl rfl) (@h8 _ _ _ _ _ _ _ _ _ _ c_root_told hr_root_told (@c5 _ _ _ _ _ (pv 1) (@c5 _ _ _ _ _ (pv 2) (@c6 _) (by rfl)) (by rfl)) (by rfl) (by decide) (by rfl) (by rfl)) (by rfl) (by first|exact .inl rfl|exact .inr rfl|assumption)) (@c7 _ _ _ _ _ (@i4 _ _ (6) _ _ _ _ J6.nd rfl (Or.inl rfl) (@h8 _ _ _ _ _ _ _ _ _ _ c_put_behind hr_put_behind (@c5 _ _ _ _ _ (@h8 _ _ _ _ _ _ _ _ _ _ c_put_behind hr_put_behind (@c5 _ _ _ _ _ (pv 3) (@c5 _ _ _ _ _ (pv 1) (@c6 _) (by rfl)) (by rfl)) (by rfl) (by decide) (by rfl) (by rfl)) (@c5 _ _ _ _ _ (@h8 _ _ _ _ _ _ _ _ _ _ c_way_back hr_way_back (@c5 _ _ _ _ _ (pv 3) (@c6 _) (by rfl)) (by rfl) (by decide) (by rfl) (by rfl)) (@c6 _) (by rfl)) (by rfl)) (by rfl) (by decide) (by rfl) (by rfl)) (by rfl) (by first|exact .inl rfl|exact .inr rfl|assumption)) (@c7 _ _ _ _ _ (@x9 _ _ _ _ _ _ _ _ (@R0 _ _ _ _ _ _ _ (@m9 _ _ _ _ _ _ _ _ X8 (@bt3 _ _ _ _ _ _ _ _ X7 (pv 4) (@i6 _ _ _ _) (o9 _)) (@bt3 _ _ _ _ _ _ _ _ X7 (@G3 _ _ _ _ _ _ _ cd3 (pv 5) (@i6 _ _ _ _) (fun _ _=>rfl)) (@bi2 _ _ _ _) (o9 _)) (o9 _)) (@V6 _ _ _ _ (@m9 _ _ _ _ _ _ _ _ X8 (@h8 _ _ _ _ _ _ _ _ _ _ c_how_many_roots hr_how_many_roots (@c5 _ _ _ _ _ (pv 6) (@c5 _ _ _ _ _ (pv 2) (@c6 _) (by rfl)) (by rfl)) (by rfl) (by decide) (by rfl) (by rfl)) (pv 4) (o9 _)))).pt (@e7 _ _ _ (@l6 _ _ _ _ (@K0 _ _ _ _))) (@p8 _)) (@c7 _ _ _ _ _ (@x9 _ _ _ _ _ _ _ _ (@m9 _ _ _ _ _ _ _ _ au9 (pv 4) (@i6 _ _ _ _) (o9 _)) (@e7 _ _ _ (@l6 _ _ _ _ (@K0 _ _ _ _))) (@p8 _)) (@c7 _ _ _ _ _ (@i4 _ _ (7) _ _ _ _ J6.nd rfl (Or.inl rfl) (@h8 _ _ _ _ _ _ _ _ _ _ c_all_roots hr_all_roots (@c5 _ _ _ _ _ (pv 1) (@c5 _ _ _ _ _ (pv 2) (@c6 _) (by rfl)) (by rfl)) (by rfl) (by decide) (by rfl) (by rfl)) (by rfl) (by first|exact .inl rfl|exact .inr rfl|assumption)) (@c7 _ _ _ _ _ (@x9 _ _ _ _ _ _ _ _ (@R0 _ _ _ _ _ _ _ (@m9 _ _ _ _ _ _ _ _ X8 (@t8 _ _ _ _ _ B.len (@c5 _ _ _ _ _ (pv 7) (@c6 _) (by rfl)) (by rfl) (by rfl)) (pv 4) (o9 _)) (@V6 _ _ _ _ (@cy4 _ _ _ _ _ _ _ (@m9 _ _ _ _ _ _ _ _ au9 (pv 4) (@i6 _ _ _ _) (o9 _)) (@cs1 _ _ _ _ (@m9 _ _ _ _ _ _ _ _ (bg6 hu2) (@G3 _ _ _ _ _ _ _ cd3 (pv 5) (@i6 _ _ _ _) (fun _ _=>rfl)) (pv 7) (by with_unfolding_all rfl)))).pt)).pt (@e7 _ _ _ (@l6 _ _ _ _ (@K0 _ _ _ _))) (@p8 _)) (@c7 _ _ _ _ _ (@x9 _ _ _ _ _ _ _ _ (@m9 _ _ _ _ _ _ _ _ (bj7 1 hu2) (aq6 hu2 B.sorted (@c5 _ _ _ _ _ (@ae3 _ _ _ _ _ _ _ _ _ _ _ (["r","s"]) (1) ([3]) rfl .of (@w9 _ _ _ _ (pv 7)) (fun _ _ _ _ _=>@j5 _ _ (0) _ au5 rfl (Or.inl rfl) (by first|exact .inl rfl|exact .inr rfl|assumption)) (fun _ _ _ _ _=>(@ag6 _)) (fun _ _ _ _ _=>(@h8 _ _ _ _ _ _ _ _ _ _ c_put_behind hr_put_behind (@c5 _ _ _ _ _ (@h8 _ _ _ _ _ _ _ _ _ _ c_put_behind hr_put_behind (@c5 _ _ _ _ _ (pv 1) (@c5 _ _ _ _ _ (pv 0) (@c6 _) (by rfl)) (by rfl)) (by rfl) (by decide) (by rfl) (by rfl)) (@c5 _ _ _ _ _ (@h8 _ _ _ _ _ _ _ _ _ _ c_way_back hr_way_back (@c5 _ _ _ _ _ (pv 1) (@c6 _) (by rfl)) (by rfl) (by decide) (by rfl) (by rfl)) (@c6 _) (by rfl)) (by rfl)) (by rfl) (by decide) (by rfl) (by rfl))) (by intro _;rfl)) (@c6 _) (by rfl))) (@h8 _ _ _ _ _ _ _ _ _ _ c_all_roots hr_all_roots (@c5 _ _ _ _ _ (pv 6) (@c5 _ _ _ _ _ (pv 2) (@c6 _) (by rfl)) (by rfl)) (by rfl) (by decide) (by rfl) (by rfl)) (o9 _)) (@e7 _ _ _ (@l6 _ _ _ _ (@K0 _ _ _ _))) (@p8 _)) (@c7 _ _ _ _ _ (@o6 _ _ _ _ _ _ _ _ PassesOwn.never rfl (@K1 _ _ _ _ _ _ (by rfl) B.range (@c5 _ _ _ _ _ (@az9 _ _ _ _ _ _ rfl B.min (@c5 _ _ _ _ _ (pv 4) (@c5 _ _ _ _ _ (@i6 _ _ _ _) (@c6 _) (by rfl)) (by rfl)) (by rfl) (by rfl) (by rfl)) (@c6 _) (by rfl)) (by rfl)) (@j5 _ _ (8) _ J6.nd rfl (Or.inl rfl) (by first|exact .inl rfl|exact .inr rfl|assumption)) (@c7 _ _ _ _ _ (@i4 _ _ (9) _ _ _ _ J6.nd rfl (Or.inl rfl) (@l7 _ _ _ _ _ _ _ _ B6 (@h8 _ _ _ _ _ _ _ _ _ _ c_law_next hr_law_next (@c5 _ _ _ _ _ (pv 0) (@c6 _) (by rfl)) (by rfl) (by decide) (by rfl) (by rfl)) (pv 4)) (by rfl) (by first|exact .inl rfl|exact .inr rfl|assumption)) (@e7 _ _ _ (@x9 _ _ _ _ _ _ _ _ (@R0 _ _ _ _ _ _ _ (@m9 _ _ _ _ _ _ _ _ (bj7 0 hu) (@h8 _ _ _ _ _ _ _ _ _ _ c_power_of hr_power_of (@c5 _ _ _ _ _ (@G3 _ _ _ _ _ _ _ C0 (pv 7) (pv 9) (fun _ _=>rfl)) (@c5 _ _ _ _ _ (pv 2) (@c6 _) (by rfl)) (by rfl)) (by rfl) (by decide) (by rfl) (by rfl)) (pv 1) (o9 _)) (@R0 _ _ _ _ _ _ _ (@m9 _ _ _ _ _ _ _ _ X8 (@h8 _ _ _ _ _ _ _ _ _ _ c_number_of_root hr_number_of_root (@c5 _ _ _ _ _ (pv 1) (@c5 _ _ _ _ _ (pv 2) (@c5 _ _ _ _ _ (@G3 _ _ _ _ _ _ _ C0 (pv 7) (pv 9) (fun _ _=>rfl)) (@c6 _) (by rfl)) (by rfl)) (by rfl)) (by rfl) (by decide) (by rfl) (by rfl)) (pv 9) (o9 _)) (@V6 _ _ _ _ (@m9 _ _ _ _ _ _ _ _ (bj7 0 hu) (@h8 _ _ _ _ _ _ _ _ _ _ c_nth_root hr_nth_root (@c5 _ _ _ _ _ (pv 1) (@c5 _ _ _ _ _ (pv 2) (@c5 _ _ _ _ _ (pv 9) (@c6 _) (by rfl)) (by rfl)) (by rfl)) (by rfl) (by decide) (by rfl) (by rfl)) (@G3 _ _ _ _ _ _ _ C0 (pv 7) (pv 9) (fun _ _=>rfl)) (o9 _))))).pt (@e7 _ _ _ (@l6 _ _ _ _ (@K0 _ _ _ _))) (@p8 _)))) (by intro _;rfl)) (@e7 _ _ _ (@l6 _ _ _ _ (@K0 _ _ _ _))))))))))),?_⟩
   have tp:=ta.2.1
   have ts:=tsa.2.1
   refine ⟨_,rfl,_,rfl,a,p,m,rfl,ta,m1,fun H1 s1=> ?_⟩
   refine ⟨_,rfl,_,rfl,a,p,m,rfl,ta.keep s1,m1,by omega,fun t H2 s2 T2 fo=> ?_⟩
   have s02:=s1.trans s2
   obtain ⟨xs,wd,h2t,e0,er⟩:∃(xs:List V) (wd:Str),H2 t=some (.tup (V.str wd::xs))∧decide (V.int ((t7 p m:Nat):Int)=V.int 0)=decide (V.str wd=V.str "bars")∧(0 < t7 p m→∃(o:Addr) (r:List Int),xs=[.ref o]∧H2 o=some (.lst (r.map V.int))∧j8 r∧o3 r (m:Int) p):=by
     rcases T2 with ⟨o,r,h1,h2,h3,h4,h5,h6⟩|⟨l,d,h1,bb⟩
     · have hp:=(bc5 tp ta.2.2 m1).mpr ⟨r,h3,h5⟩
       refine ⟨_,_,h1,?_,fun _=>⟨o,r,rfl,h2,h3,h5⟩⟩
       rw[decide_eq_false (show ¬V.int ((t7 p m:Nat):Int)=V.int 0 from fun z=>by have:=V.int.inj z;omega)]
       rfl
     · have hz:t7 p m=0:=by
         by_cases c:t7 p m=0
         · exact c
         · obtain ⟨r,tr,pw⟩:=(bc5 tp ta.2.2 m1).mp (by omega)
           exact (cw2 tr pw bb).elim
       refine ⟨_,_,h1,by rw[hz];rfl,fun z=>by omega⟩
   refine ⟨_,rfl,_,rfl,sa,a,s,p,rfl,tsa.keep s02,ta.keep s02,hl,fun c1 H3 hc1 s3 h3c=> ?_⟩
   have s03:=s02.trans s3
   refine ⟨_,rfl,sa,s,rfl,tsa.keep s03,fun c2 b H4 hc2 s4 pb h4c=> ?_⟩
   have lb:b.length=s.length:=pb.1
   have tb:=Y4 ts pb
   have tc:j8 (y7 s p):=ah0 ts tp hl
   have s04:=s03.trans s4
   have l1:=ta.2.2
   have l2:=tsa.2.2
   refine ⟨c1,c2,y7 s p,b,rfl,⟨s4 _ _ h3c,tc,by rw[K5];exact l1⟩,⟨h4c,tb,by omega⟩,by rw[K5];omega,fun oa H5 hoa s5 h5o=> ?_⟩
   have s05:=s04.trans s5
   have s25:=(s3.trans s4).trans s5
   rw[show y7 (y7 s p) b=cj s b p from rfl] at h5o
   have tq:j8 (cj s b p):=ah3 tp ts hl pb
   have lq:(cj s b p).length≤40:=by rw[ab2 pb];exact l2
   refine ⟨_,rfl,rfl,_,rfl,t,_,_,_,rfl,rfl,Q6.of (s25 _ _ h2t),J2 (j:=0) rfl,rfl,rfl,_,rfl,?_⟩
   refine Y0 (congrArg V.bl e0) ⟨_,rfl,_,rfl,oa,cj s b p,m,rfl,⟨h5o,tq,lq⟩,m1,fun H6 s6=>⟨_,rfl,rfl,_,rfl,?_⟩⟩
   refine Y0 (by rw[au4 m ts tp hl pb]) ?_
   have s06:=s05.trans s6
   have s26:=s25.trans s6
   have h6o:=s6 _ _ h5o
   have h6t:=s26 _ _ h2t
   refine ⟨_,rfl,_,_,rfl,rfl,_,rfl,?_⟩
   by_cases big:2000 < t7 p m
   · rw[decide_eq_true (show (2000:Int) < ((t7 p m:Nat):Int) by omega)]
     exact U4 (q H6 (Kp.of (bx8 (s06.but g))))
   rw[decide_eq_false (show ¬(2000:Int) < ((t7 p m:Nat):Int) by omega)]
   refine C8 ⟨_,rfl,_,rfl,a,p,m,rfl,ta.keep s06,m1,by omega,fun o bs rs H7 ho h7o rows all bnd bfr ob kp=> ?_⟩
   have k07:Kp H H7:=(Kp.of s06).trans kp
   have lr:bs.length=t7 p m:=by rw[rows.1,all.len]
   refine ⟨_,rfl,o,_,rfl,.inl (g9.of h7o),_,rfl,rfl,_,rfl,?_⟩
   refine Y0 (by rw[dn8,lr]) ?_
   refine ⟨_,rfl,_,_,rfl,rfl,_,rfl,?_⟩
   refine di4 ?_ (fun hc rest=> ?_)
   rotate_left
   · have hp:0 < t7 p m:=by have:=of_decide_eq_true hc;omega
     obtain ⟨ro,r,rfl,h2r,tr,pw⟩:=er hp
     have h7t:H7 t=some (.tup (V.str wd::[.ref ro])):=kp.nd _ _ h6t (fun kvs z=>by cases z)
     have rin:r∈rs:=(all.mem tp l1 m1).mpr ⟨tr,pw⟩
     refine ⟨_,rfl,t,_,_,_,rfl,rfl,Q6.of h7t,J2 (j:=1) rfl,_,rfl,o,ro,bs,rs,r,rfl,rfl,g9.of h7o,rows,kp.lst (s26 _ _ h2r),_,rfl,?_⟩
     rw[decide_eq_true rin]
     exact C8 rest
   refine ⟨_,rfl,o,rfl,⟨_,g9.of h7o⟩,ab6 (K:=K) (a:=o) (xs:=bs.map V.ref) (fun i ys σ H8=>∃(v:Option V) (cs:List Addr),σ=[v,some (.ref sa)]∧ys=cs.map V.ref∧k7 H8 cs ((rs.take i).map (cj s b))∧e8 H7 H8∧∀c∈cs,H7 c=none)
     ⟨none,[],rfl,rfl,⟨rfl,fun j b r h=>by cases h⟩,e8.refl _,(fun c hc=>by cases hc)⟩ (fun i ys σ H8 _ ⟨_,_,_,_,_,s8,_⟩=>g9.of (s8 _ _ h7o)) ?_ ?_⟩
   · rintro i x ys σ H8 hi ⟨v,cs,rfl,rfl,rowsC,s8,fr⟩
     obtain ⟨c,hc,rfl⟩:∃c,bs[i]? =some c∧x=V.ref c:=by
       rw[do2] at hi
       cases e:bs[i]? with
       |none=>rw[e] at hi;cases hi
       |some a=>rw[e] at hi;exact ⟨a,rfl,(Option.some.inj hi).symm⟩
     have il:i < rs.length:=by rw[←rows.1];exact (do0.mp hc).1
     obtain ⟨r,hr⟩:∃r,rs[i]? =some r:=⟨_,dn9 il⟩
     have rr:=all.root tp l1 m1 r (dp0 hr)
     have lr':p.length=r.length:=rr.2.1
     have k08:Kp H H8:=k07.trans (Kp.of s8)
     have ts8:B8 H8 sa s:=⟨k08.lst tsa.1,tsa.2⟩
     refine ⟨_,rfl,_,rfl,sa,c,s,r,rfl,ts8,⟨s8 _ _ (rows.2 i c r hc hr),rr.1,by omega⟩,by omega,fun d1 H9 hd1 s9 h9d=> ?_⟩
     refine ⟨_,rfl,sa,s,rfl,ts8.keep s9,fun d2 b' H10 hd2 s10 pb' h10d=> ?_⟩
     have eb:=pb'.uniq pb
     subst eb
     have tc':j8 (y7 s r):=ah0 ts rr.1 (by omega)
     refine ⟨d1,d2,y7 s r,b',rfl,⟨s10 _ _ h9d,tc',by rw[K5];omega⟩,⟨h10d,tb,by omega⟩,by rw[K5];omega,fun d3 H11 hd3 s11 h11d=> ?_⟩
     rw[show y7 (y7 s r) b'=cj s b' r from rfl] at h11d
     have s811:=(s9.trans s10).trans s11
     refine ⟨ck0 (by rw[dn8,rowsC.1,dn8,dp5];have:=all.len;omega),_,cs++[d3],rfl,by rw[do8];rfl,?_,s8.trans s811,fun z hz=> ?_⟩
     · rw[i9 hr,do8]
       exact L8 (p6 rowsC fun b hb o e=>s811 _ _ e) h11d
     · rcases dp3.mp hz with y|y
       · exact fr z y
       · rw[dp1.mp y]
         exact ((s8.trans s9).trans s10).free hd3
   rintro ys σ H8 ⟨v,cs,rfl,rfl,rowsC,s8,fr⟩ w1 hw1
   rw[dn8,rows.1,dq8] at rowsC
   have s9:e8 H8 (c9 H8 w1 (.lst (cs.map V.ref))):=e8.upd_new hw1
   have h9w:(c9 H8 w1 (.lst (cs.map V.ref))) w1=some (.lst (cs.map V.ref)):=c8
   have rows9:k7 (c9 H8 w1 (.lst (cs.map V.ref))) cs (rs.map (cj s b)):=p6 rowsC fun b hb o e=>s9 _ _ e
   generalize (c9 H8 w1 (.lst (cs.map V.ref)))=H9 at s9 h9w rows9 ⊢
   refine ⟨w1,cs,_,rfl,g9.of h9w,rows9,fun ds ms l2 pds pms rows' up hl2=> ?_⟩
   have s10:e8 H9 (c9 H9 l2 (.lst (ds.map V.ref))):=e8.upd_new hl2
   have h10l:(c9 H9 l2 (.lst (ds.map V.ref))) l2=some (.lst (ds.map V.ref)):=c8
   have rows10:k7 (c9 H9 l2 (.lst (ds.map V.ref))) ds ms:=p6 rows' fun b hb o e=>s10 _ _ e
   generalize (c9 H9 l2 (.lst (ds.map V.ref)))=H10 at s10 h10l rows10 ⊢
   have s710:=(s8.trans s9).trans s10
   have k610:Kp H6 H10:=kp.trans (Kp.of s710)
   refine ⟨_,rfl,_,rfl,oa,cj s b p,m,rfl,⟨k610.lst h6o,tq,lq⟩,m1,by rw[au4 m ts tp hl pb];omega,fun o2 bs2 us H11 ho2 h11o rows2 all2 bnd2 bfr2 ob2 kp2=> ?_⟩
   have ems:ms=us:=bs4 ts tp l1 hl pb m1 all all2 pms up
   refine ⟨l2,o2,_,_,_,rfl,rfl,g9.of (kp2.lst h10l),g9.of h11o,cf7 (kp2.rows rows10) rows2,_,rfl,?_⟩
   rw[decide_eq_true ems]
   refine C8 ?_
   have k711:Kp H7 H11:=(Kp.of s710).trans kp2
   have k011:Kp H H11:=k07.trans k711
   have h11r:=k711.lst h7o
   have rows11:=k711.rows rows
   have ngo:o≠g:=fun z=>by obtain ⟨u,e⟩:=D.some;rw[z,s06 _ _ e] at ho;cases ho
   have ngb:∀x∈bs,x≠g:=fun x hx z=>by obtain ⟨u,e⟩:=D.some;have:=bfr x hx;rw[z,s06 _ _ e] at this;cases this
   have D11:y8 H11 g:=by
     obtain ⟨dd,e,r⟩:=D
     exact ⟨dd,k011.lst e,r⟩
   have h11a:=k011.lst ta.1
   clear s8 s9 s10 s710 rows9 rows10 rows' h10l h9w fr rowsC pms pds k610 kp2 ho2 h11o rows2 all2 bnd2 bfr2 ob2
   refine ⟨_,rfl,_,2,rfl,_,rfl,?_⟩
   obtain ⟨mx,hmx,hm0,hm2,hm3⟩:∃mx:Int,(if (2:Int) < ((t7 p m:Nat):Int) then (2:Int) else ((t7 p m:Nat):Int))=mx∧0≤mx∧mx≤2∧mx≤((t7 p m:Nat):Int):=by
     by_cases c:(2:Int) < ((t7 p m:Nat):Int)
     · exact ⟨_,rfl,by rw[if_pos c];omega,by rw[if_pos c];omega,by rw[if_pos c];omega⟩
     · exact ⟨_,rfl,by rw[if_neg c];omega,by rw[if_neg c];omega,by rw[if_neg c];omega⟩
   rw[hmx]
   refine ⟨by omega,by omega,I0 (lo:=0) (n:=mx.toNat) (fun i σ H12=>∃v8 v9:Option V,σ=[some (.ref g),some (.ref a),some (.int (m:Int)),some (.ref sa),some (.int ((t7 p m:Nat):Int)),some (.ref t),some (.ref oa),some (.ref o),v8,v9]∧Kp (Q3 H11 g g) H12∧y8 H12 g)
     ⟨none,none,rfl,Kp.into H11 g,D11⟩ ?_ (fun σ H12 ⟨_,_,_,k12,_⟩=>q H12 ((k011.hol2).trans k12))⟩
   rintro i σ H12 hi ⟨v8,v9,rfl,k12,D12⟩
   have hp:0 < t7 p m:=by omega
   refine ⟨_,rfl,g,rfl,D12,fun x1 H13 x10 D13 kb13=>⟨_,rfl,_,_,rfl,rfl,(by show (0:Int) < ((t7 p m:Nat):Int);omega),?_⟩⟩
   have c1:=du1 x1 (show ((t7 p m:Nat):Int)≠0 by omega)
   have c2:=dw7 x1 (show (0:Int) < ((t7 p m:Nat):Int) by omega)
   obtain ⟨j,hj⟩:=dw9 c1
   dsimp only
   rw[hj]
   have jl:j < t7 p m:=by omega
   have k13:Kp (Q3 H11 g g) H13:=k12.kb (ck1 _ _) kb13
   have h13o:=k13.lst (P9 h11r ngo)
   have rows13:k7 H13 bs rs:=⟨rows11.1,fun j b r e1 e2=>k13.lst (P9 (rows11.2 j b r e1 e2) (ngb b (dp0 e1)))⟩
   have ta13:B8 H13 a p:=⟨k13.lst (P9 h11a nag),ta.2⟩
   have lrs:=all.len
   have eb:bs[j]? =some (bs[j]'(by omega)):=dn9 (by omega)
   have et:rs[j]? =some (rs[j]'(by omega)):=dn9 (by omega)
   generalize bs[j]'(by omega)=bj at eb
   generalize rs[j]'(by omega)=r at et
   have rr:=all.root tp l1 m1 r (dp0 et)
   have lr':p.length=r.length:=rr.2.1
   have ix:atI (bs.map V.ref) (j:Int)=some (.ref bj):=J2 (j:=j) (by rw[do2,eb];rfl)
   have h13b:=rows13.2 j bj r eb et
   refine ⟨_,rfl,_,rfl,o,_,_,_,rfl,rfl,g9.of h13o,ix,_,rfl,bj,r,(m:Int),rfl,⟨h13b,rr.1,by omega⟩,fun l5 t5 H14 hl5 s14 pw5 h14=> ?_⟩
   rw[pw5.uniq rr.2] at h14
   refine ⟨_,rfl,l5,a,_,_,_,rfl,rfl,g9.of h14,g9.of (s14 _ _ ta13.1),U6 _ _ _ _ _,_,rfl,?_⟩
   rw[decide_eq_true rfl]
   refine C8 ⟨_,rfl,_,rfl,_,rfl,_,rfl,o,_,_,_,rfl,rfl,g9.of (s14 _ _ h13o),ix,a,bj,p,r,m,rfl,ta13.keep s14,⟨s14 _ _ h13b,rr.1,by omega⟩,lr',m1,by omega,rr.2,fun j2 us2 H15 al2 hj2 k15=>⟨_,rfl,rfl,_,rfl,?_⟩⟩
   have eu:=al2.uniq all tp l1 m1
   subst eu
   have ej:j2=j:=by
     have nd:=dp6.mp (all.nd tp l1 m1)
     obtain ⟨a1,a2⟩:=do0.mp hj2
     obtain ⟨b1,b2⟩:=do0.mp et
     rcases eh1 j2 j with z|z|z
     · exact (dq7.mp nd j2 j a1 b1 z (by rw[a2,b2])).elim
     · exact z
     · exact (dq7.mp nd j j2 b1 a1 z (by rw[a2,b2])).elim
   subst ej
   have k1315:Kp H13 H15:=(Kp.of s14).trans k15
   refine Y0 rfl ⟨_,rfl,_,rfl,_,rfl,a,p,m,j2,rfl,⟨k1315.lst ta13.1,ta.2⟩,m1,by omega,jl,fun b4 t4 us4 H16 hb4 al4 e4 h16 k16=> ?_⟩
   have eu4:=al4.uniq all tp l1 m1
   subst eu4
   have e4':t4=r:=Option.some.inj (e4.symm.trans et)
   have k1316:=k1315.trans k16
   refine ⟨_,rfl,_,rfl,o,_,_,_,rfl,rfl,g9.of (k1316.lst h13o),ix,b4,bj,_,_,_,rfl,rfl,g9.of h16,g9.of (k1316.lst h13b),U6 _ _ _ _ _,_,rfl,?_⟩
   rw[decide_eq_true e4']
   refine C8 ⟨_,_,rfl,k13.trans k1316,?_⟩
   obtain ⟨dd,e,r'⟩:=D13
   exact ⟨dd,k1316.lst e,r'⟩
def bh9 (K:PySem.W.Frag):Sp:=fun vs H Q _=>∃(a:Addr) (ns:List Int),vs=[.ref a]∧g9 K H a (ns.map V.int)∧ns.length≤63∧∀H',Q (.bl true) H'
theorem ap7 {H:Hp}{a b:Addr}(h:y8 H a)(n:H b=none):b≠a:=fun z=>by obtain ⟨o,e⟩:=h.some;rw[←z,n] at e;cases e
theorem cq2 {H:Hp}{a b:Addr}{o:HO}(h:y8 H a)(n:a≠b):y8 (L2.c9 H b o) a:=let ⟨ds,e,r⟩:=h;⟨ds,by rw[g8 n];exact e,r⟩
theorem at4 (x:Int):∃b:Nat,atI (([11,11,11,15]:List Int).map V.int) (x%4)=some (.int (b:Int))∧1≤b∧b≤15:=by
 rcases (show x%4=0∨x%4=1∨x%4=2∨x%4=3 by omega) with e|e|e|e<;>rw[e]
 · exact ⟨11,J2 (j:=0) rfl,by decide,by decide⟩
 · exact ⟨11,J2 (j:=1) rfl,by decide,by decide⟩
 · exact ⟨11,J2 (j:=2) rfl,by decide,by decide⟩
 · exact ⟨15,J2 (j:=3) rfl,by decide,by decide⟩
theorem T9:l8 ["script","k","deck","many","m","few","p","every"] ["script"] (i7 ap1):=⟨rfl,rfl,rfl,by decide+kernel,rfl,by decide+kernel,by decide+kernel⟩
theorem bq7:(["one","m"]:List Str).Nodup:=by decide+kernel
theorem de5 {f:Addr}{fd:FuncData}(F:A2 K "law" "law" ap1 f fd)(B:Bl mg)(c_law_deck:j7 P w K mg base "_law_deck" 2 ["cell","many"] bo2)(c_law_cell_at:j7 P w K mg base "_law_cell_at" 1 ["script","k"] (bn9 K))(c_law_next:j7 P w K mg base "_law_next" 1 ["deck"] am6)(c_law_turn:j7 P w K mg base "_law_turn" 2 ["deck","many"] bb2)(c_power_of:j7 P w K mg base "power_of" 4 ["p","k"] af6)(c_law_right:j7 P w K mg base "_law_right" 46 ["deck","p","m","s"] ao1)(c_law_every:j7 P w K mg base "_law_every" 1 ["many"] bd1)(c_how_many_roots:j7 P w K mg base "how_many_roots" 4 ["p","m"] am9):o8 P w K mg base A0 47 f fd ["script"] (bh9 K):=by
 refine F.ok T9 (fun vs H Q E h=> ?_) (fun cdv A outer s H vs Q E hr h=> ?_)
 · obtain ⟨sc,ns,rfl,hsc,hns,q⟩:=h
   rfl
 · obtain ⟨sc,ns,rfl,hsc,hns,q⟩:=h
   have hr_law_deck:m7 2 _:=hr.mono (by decide)
   have hr_law_cell_at:m7 1 _:=hr.mono (by decide)
   have hr_law_next:m7 1 _:=hr.mono (by decide)
   have hr_law_turn:m7 2 _:=hr.mono (by decide)
   have hr_power_of:m7 4 _:=hr.mono (by decide)
   have hr_law_right:m7 46 _:=hr.mono (by decide)
   have hr_law_every:m7 1 _:=hr.mono (by decide)
   have hr_how_many_roots:m7 4 _:=hr.mono (by decide)
   refine ⟨_,@c7 _ _ _ _ _ (@o6 _ _ _ _ _ _ _ _ PassesOwn.never rfl (@K1 _ _ _ _ _ _ (by rfl) B.range (@c5 _ _ _ _ _ (@ct2 _ _ _ _ _ _ rfl B.max (@c5 _ _ _ _ _ (@i6 _ _ _ _) (@c5 _ _ _ _ _ (@az9 _ _ _ _ _ _ rfl B.min (@c5 _ _ _ _ _ (@t8 _ _ _ _ _ B.len (@c5 _ _ _ _ _ (pv 0) (@c6 _) (by rfl)) (by rfl) (by rfl)) (@c5 _ _ _ _ _ (@i6 _ _ _ _) (@c6 _) (by rfl)) (by rfl)) (by rfl) (by rfl) (by rfl)) (@c6 _) (by rfl)) (by rfl)) (by rfl) (by rfl) (by rfl)) (@c6 _) (by rfl)) (by rfl)) (@j5 _ _ (1) _ T9.nd rfl (Or.inl rfl) (by first|exact .inl rfl|exact .inr rfl|assumption)) (@c7 _ _ _ _ _ (@i4 _ _ (2) _ _ _ _ T9.nd rfl (Or.inl rfl) (@h8 _ _ _ _ _ _ _ _ _ _ c_law_deck hr_law_deck (@c5 _ _ _ _ _ (@h8 _ _ _ _ _ _ _ _ _ _ c_law_cell_at hr_law_cell_at (@c5 _ _ _ _ _ (pv 0) (@c5 _ _ _ _ _ (pv 1) (@c6 _) (by rfl)) (by rfl)) (by rfl) (by decide) (by rfl) (by rfl)) (@c5 _ _ _ _ _ (@i6 _ _ _ _) (@c6 _) (by rfl)) (by rfl)) (by rfl) (by decide) (by rfl) (by rfl)) (by rfl) (by first|exact .inl rfl|exact .inr rfl|assumption)) (@c7 _ _ _ _ _ (@i4 _ _ (3) _ _ _ _ T9.nd rfl (Or.inl rfl) (@l7 _ _ _ _ _ _ _ _ B6 (@h8 _ _ _ _ _ _ _ _ _ _ c_law_next hr_law_next (@c5 _ _ _ _ _ (pv 2) (@c6 _) (by rfl)) (by rfl) (by decide) (by rfl) (by rfl)) (@G3 _ _ _ _ _ _ _ C0 (@cm4 _ _ _ [11,11,11,15] rfl) (@l7 _ _ _ _ _ _ _ _ B6 (@h8 _ _ _ _ _ _ _ _ _ _ c_law_next hr_law_next (@c5 _ _ _ _ _ (pv 2) (@c6 _) (by rfl)) (by rfl) (by decide) (by rfl) (by rfl)) (@i6 _ _ _ _)) (fun _ _=>rfl))) (by rfl) (by first|exact .inl rfl|exact .inr rfl|assumption)) (@c7 _ _ _ _ _ (@i4 _ _ (4) _ _ _ _ T9.nd rfl (Or.inr rfl) (@l7 _ _ _ _ _ _ _ _ G2 (@i6 _ _ _ _) (@l7 _ _ _ _ _ _ _ _ B6 (@h8 _ _ _ _ _ _ _ _ _ _ c_law_next hr_law_next (@c5 _ _ _ _ _ (pv 2) (@c6 _) (by rfl)) (by rfl) (by decide) (by rfl) (by rfl)) (@i6 _ _ _ _))) (by rfl) (by first|exact .inl rfl|exact .inr rfl|assumption)) (@c7 _ _ _ _ _ (@i4 _ _ (5) _ _ _ _ T9.nd rfl (Or.inl rfl) (@l7 _ _ _ _ _ _ _ _ B6 (@h8 _ _ _ _ _ _ _ _ _ _ c_law_next hr_law_next (@c5 _ _ _ _ _ (pv 2) (@c6 _) (by rfl)) (by rfl) (by decide) (by rfl) (by rfl)) (@i6 _ _ _ _)) (by rfl) (by first|exact .inl rfl|exact .inr rfl|assumption)) (@c7 _ _ _ _ _ (@i4 _ _ (6) _ _ _ _ T9.nd rfl (Or.inl rfl) (@h8 _ _ _ _ _ _ _ _ _ _ c_law_turn hr_law_turn (@c5 _ _ _ _ _ (pv 2) (@c5 _ _ _ _ _ (pv 3) (@c6 _) (by rfl)) (by rfl)) (by rfl) (by decide) (by rfl) (by rfl)) (by rfl) (by first|exact .inl rfl|exact .inr rfl|assumption)) (@c7 _ _ _ _ _ (@x9 _ _ _ _ _ _ _ _ (@m9 _ _ _ _ _ _ _ _ X7 (@l7 _ _ _ _ _ _ _ _ B6 (@h8 _ _ _ _ _ _ _ _ _ _ c_law_next hr_law_next (@c5 _ _ _ _ _ (pv 2) (@c6 _) (by rfl)) (by rfl) (by decide) (by rfl) (by rfl)) (@i6 _ _ _ _)) (@i6 _ _ _ _) (o9 _)) (@e7 _ _ _ (@i4 _ _ (6) _ _ _ _ T9.nd rfl (Or.inl rfl) (@h8 _ _ _ _ _ _ _ _ _ _ c_power_of hr_power_of (@c5 _ _ _ _ _ (pv 6) (@c5 _ _ _ _ _ (pv 4) (@c6 _) (by rfl)) (by rfl)) (by rfl) (by decide) (by rfl) (by rfl)) (by rfl) (by first|exact .inl rfl|exact .inr rfl|assumption))) (@p8 _)) (@c7 _ _ _ _ _ (@x9 _ _ _ _ _ _ _ _ (@Q5 _ _ _ _ (@Q4 _ _ _ (@h8 _ _ _ _ _ _ _ _ _ _ c_law_right hr_law_right (@c5 _ _ _ _ _ (pv 2) (@c5 _ _ _ _ _ (pv 6) (@c5 _ _ _ _ _ (pv 4) (@c5 _ _ _ _ _ (@h8 _ _ _ _ _ _ _ _ _ _ c_law_turn hr_law_turn (@c5 _ _ _ _ _ (pv 2) (@c5 _ _ _ _ _ (pv 3) (@c6 _) (by rfl)) (by rfl)) (by rfl) (by decide) (by rfl) (by rfl)) (@c6 _) (by rfl)) (by rfl)) (by rfl)) (by rfl)) (by rfl) (by decide) (by rfl) (by rfl)) (by intro _;rfl))) (@e7 _ _ _ (@l6 _ _ _ _ (@K0 _ _ _ _))) (@p8 _)) (@c7 _ _ _ _ _ (@i4 _ _ (7) _ _ _ _ T9.nd rfl (Or.inl rfl) (@h8 _ _ _ _ _ _ _ _ _ _ c_law_every hr_law_every (@c5 _ _ _ _ _ (pv 5) (@c6 _) (by rfl)) (by rfl) (by decide) (by rfl) (by rfl)) (by rfl) (by first|exact .inl rfl|exact .inr rfl|assumption)) (@e7 _ _ _ (@x9 _ _ _ _ _ _ _ _ (@m9 _ _ _ _ _ _ _ _ X8 (@cf5 _ _ _ _ _ rfl B.sum (@c5 _ _ _ _ _ (@ae3 _ _ _ _ _ _ _ _ _ _ _ (["one","m"]) (1) ([4]) rfl .of (@w9 _ _ _ _ (pv 7)) (fun _ _ _ _ _=>@j5 _ _ (0) _ bq7 rfl (Or.inl rfl) (by first|exact .inl rfl|exact .inr rfl|assumption)) (fun _ _ _ _ _=>(@ag6 _)) (fun _ _ _ _ _=>(@h8 _ _ _ _ _ _ _ _ _ _ c_how_many_roots hr_how_many_roots (@c5 _ _ _ _ _ (pv 0) (@c5 _ _ _ _ _ (pv 1) (@c6 _) (by rfl)) (by rfl)) (by rfl) (by decide) (by rfl) (by rfl))) (by intro _;rfl)) (@c6 _) (by rfl)) (by rfl) (by rfl)) (@t8 _ _ _ _ _ B.len (@c5 _ _ _ _ _ (pv 7) (@c6 _) (by rfl)) (by rfl) (by rfl)) (o9 _)) (@e7 _ _ _ (@l6 _ _ _ _ (@K0 _ _ _ _))) (@p8 _))))))))))) (by intro _;rfl)) (@e7 _ _ _ (@l6 _ _ _ _ (@K0 _ _ _ _))),?_⟩
   refine ⟨_,rfl,sc,_,rfl,.inl hsc,_,2,rfl,1,_,rfl,_,rfl,?_⟩
   obtain ⟨mx,hmx,hm1,hm2⟩:=db4 (n:=2) (c:=((ns.map V.int).length:Int)) (by decide) (by omega)
   rw[hmx]
   refine ⟨by omega,by omega,I0 (lo:=0) (n:=mx.toNat) (fun i σ H2=>∃v1 v2 v3 v4 v5 v6 v7:Option V,σ=[some (.ref sc),v1,v2,v3,v4,v5,v6,v7]∧Kp H H2)
     ⟨none,none,none,none,none,none,none,rfl,Kp.refl H⟩ ?_ (fun σ H2 ⟨_,_,_,_,_,_,_,_,_⟩=>q H2)⟩
   rintro i σ H2 hi ⟨v1,v2,v3,v4,v5,v6,v7,rfl,k02⟩
   refine ⟨_,rfl,_,rfl,sc,ns,_,rfl,k02.seq hsc,by omega,fun z=> ?_⟩
   refine ⟨z,120,rfl,by decide,fun g H3 hg s03 D3=> ?_⟩
   refine ⟨_,rfl,g,rfl,D3,fun x1 H4 x10 D4 kb4=> ?_⟩
   have s04:e8 H2 H4:=s03.kb kb4 hg
   refine ⟨(by show 4≤sizeLine;decide),fun e he=> ?_⟩
   have nge:e≠g:=ap7 D4 he
   refine ⟨_,rfl,g,rfl,cq2 D4 nge.symm,fun x2 H5 x20 D5 kb5=>⟨_,_,rfl,rfl,(by show (0:Int) < 4;decide),?_⟩⟩
   have h5e:=kb5 e _ c8 nge
   have s05:e8 H2 H5:=(s04.upd_r (s04.free he)).kb kb5 hg
   obtain ⟨bv,hat,bv1,bv2⟩:=at4 x2
   refine ⟨e,_,_,_,rfl,rfl,g9.of h5e,hat,_,_,rfl,rfl,(show (0:Int) < (bv:Int) by omega),?_⟩
   have c1:=du1 x1 (show (bv:Int)≠0 by omega)
   have c2:=dw7 x1 (show (0:Int) < (bv:Int) by omega)
   obtain ⟨n,hn⟩:=dw9 c1
   have en:(n:Int)=x1%(bv:Int):=hn.symm
   refine ⟨_,rfl,g,rfl,D5,fun x3 H6 x30 D6 kb6=>⟨_,_,rfl,rfl,(by show (0:Int) < 12;decide),?_⟩⟩
   have s06:=s05.kb kb6 hg
   have d1:=du1 x3 (show (12:Int)≠0 by decide)
   have d2:=dw7 x3 (show (0:Int) < 12 by decide)
   obtain ⟨m0,hm0⟩:=dw9 d1
   have em:((1+m0:Nat):Int)=1+x3%12:=by rw[hm0];omega
   have mb:1+m0≤12:=by omega
   have m1:1≤1+m0:=by omega
   generalize 1+m0=m at em mb m1
   refine ⟨_,_,rfl,rfl,?_⟩
   refine ⟨_,rfl,g,rfl,D6,fun x4 H7 x40 D7 kb7=>⟨_,_,rfl,rfl,(by show (0:Int) < 5;decide),?_⟩⟩
   have s07:=s06.kb kb7 hg
   have f1:=du1 x4 (show (5:Int)≠0 by decide)
   have f2:=dw7 x4 (show (0:Int) < 5 by decide)
   obtain ⟨fw,hfw⟩:=dw9 f1
   have ef:(fw:Int)=x4%5:=hfw.symm
   refine ⟨_,rfl,_,rfl,g,n,by rw[en];rfl,D7,by omega,fun pa0 p0 H8 hpa tp0 lp0 h8p D8 kb8=> ?_⟩
   have s08:=s07.kb kb8 hg
   have npg:pa0≠g:=ap7 D7 hpa
   refine ⟨_,rfl,g,rfl,D8,fun x5 H9 x50 D9 kb9=>⟨_,_,rfl,rfl,(by show (0:Int) < 2;decide),rfl,_,rfl,?_⟩⟩
   have s09:=s08.kb kb9 hg
   have h9p:=kb9 _ _ h8p npg
   refine di3 (fun σ' H'=>∃(pa:Addr) (p:List Int),σ'=[some (.ref sc),some (.int ((0:Int)+(i:Int))),some (.ref g),some (.int (n:Int)),some (.int (m:Int)),some (.int (fw:Int)),some (.ref pa),v7]∧B8 H' pa p∧p.length=n∧pa≠g∧y8 H' g∧e8 H2 H') ?_ ⟨pa0,p0,by rw[en,em,ef];rfl,⟨h9p,tp0,by omega⟩,lp0,npg,D9,s09⟩ fun rest=> ?_
   rotate_left
   · refine ⟨_,rfl,_,rfl,pa0,p0,(m:Int),by rw[em];rfl,⟨h9p,tp0,by omega⟩,fun qa t2 H11 hqa s11 pw h11=> ?_⟩
     have lt2:t2.length=p0.length:=pw.1
     exact rest _ _ ⟨qa,t2,by rw[en,em,ef];rfl,⟨h11,Y4 tp0 pw,by omega⟩,by omega,ap7 D9 hqa,D9.same s11,s09.trans s11⟩
   rintro σ' H10 ⟨pa,p,rfl,tp,lp,npa,D10,s010⟩
   refine ⟨_,rfl,_,rfl,_,rfl,_,rfl,_,rfl,g,n,rfl,D10,by omega,fun sa s H11 hsa ts ls h11s D11 kb11=> ?_⟩
   have nsg:sa≠g:=ap7 D10 hsa
   have s011:=s010.kb kb11 hg
   refine ⟨g,pa,sa,p,s,m,rfl,D11,npa,nsg,⟨kb11 _ _ tp.1 npa,tp.2⟩,⟨h11s,ts,by omega⟩,by omega,m1,by omega,fun H12 k12=>⟨true,rfl,C8 ?_⟩⟩
   have sh:e8 H2 (Q3 H11 g g):=fun b u e=>P9 (s011 _ _ e) (fun z=>by rw[z,hg] at e;cases e)
   have k212:Kp H2 H12:=(Kp.of sh).trans k12
   refine ⟨_,rfl,fw,rfl,by omega,fun F as H13 hF s13 h13F rows=> ?_⟩
   have lenA:=au3 fw (by omega) fw (by omega)
   have lf:as.length=(E2 fw fw).length:=rows.1
   refine ⟨_,rfl,F,rfl,⟨_,g9.of h13F⟩,ab6 (K:=K) (a:=F) (xs:=as.map V.ref) (fun i ys σ H14=>∃v0:Option V,σ=[v0,some (.int (m:Int))]∧ys=(C6 (((E2 fw fw).take i).map fun p=>t7 p m)).map V.int∧e8 H13 H14)
     ⟨none,rfl,rfl,e8.refl _⟩ (fun i ys σ H14 _ ⟨_,_,_,s14⟩=>g9.of (s14 _ _ h13F)) ?_ ?_⟩
   · rintro i x ys σ H14 hi ⟨v0,rfl,rfl,s14⟩
     obtain ⟨c,hc,rfl⟩:∃c,as[i]? =some c∧x=V.ref c:=by
       rw[do2] at hi
       cases e:as[i]? with
       |none=>rw[e] at hi;cases hi
       |some a=>rw[e] at hi;exact ⟨a,rfl,(Option.some.inj hi).symm⟩
     have il:i < (E2 fw fw).length:=by rw[←rows.1];exact (do0.mp hc).1
     obtain ⟨r,hr⟩:∃r,(E2 fw fw)[i]? =some r:=⟨_,dn9 il⟩
     obtain ⟨t1,t2,t3,t4⟩:=an8 fw (by omega) r (dp0 hr)
     refine ⟨_,rfl,_,rfl,c,r,m,rfl,⟨s14 _ _ (rows.2 i c r hc hr),⟨t1,t2,t3⟩,by omega⟩,m1,fun H15 s15=> ?_⟩
     refine ⟨p9 (by unfold C6;rw[dn8,dn8,dn8,dp5];omega),_,rfl,?_,s14.trans s15⟩
     rw[i9 hr]
     unfold C6
     rw[do8,do8,do8]
     rfl
   · rintro ys σ H14 ⟨v0,rfl,rfl,s14⟩ D hD
     rw[dn8,rows.1,dq8]
     have s15:e8 H14 (c9 H14 D (.lst ((C6 ((E2 fw fw).map fun p=>t7 p m)).map V.int))):=e8.upd_new hD
     have h15:(c9 H14 D (.lst ((C6 ((E2 fw fw).map fun p=>t7 p m)).map V.int))) D=some (.lst ((C6 ((E2 fw fw).map fun p=>t7 p m)).map V.int)):=c8
     generalize (c9 H14 D (.lst ((C6 ((E2 fw fw).map fun p=>t7 p m)).map V.int)))=H15 at s15 h15 ⊢
     have s1315:=s14.trans s15
     refine ⟨D,_,rfl,g9.of h15,_,rfl,F,_,rfl,.inl (g9.of (s1315 _ _ h13F)),rfl,_,rfl,?_⟩
     refine Y0 ?_ ⟨_,_,_,_,_,_,_,rfl,(k02.trans k212).trans (Kp.of (s13.trans s1315))⟩
     rw[bb3,cj9 m (by omega),dn8,rows.1]
end
end My
namespace My
open PySem L2 Mth
theorem dn5 {l:PySem.W.OpenLaw}{w:World}{K:PySem.W.Frag}{h:Heap}{mg:Str→Option Value}{fa f0 f1 f2 f3 f4 f5 f6 f7 f8 f9 f10 f11 f12 f13 f14 f15 f16 f17 f18 f19 f20 f21 f22 f23 f24 f25 f26 f27 f28 f29 f30 f31 f32 f33 f34 f35 f36 f37 f38 f39:Addr}{tk0 tk1:Tok}(X:K.In h)(G:h.Ns mainGlobals mg)(hfa:mg "law"=some (.ref fa))
   (u0:Fu K "is_whole" ah8 f0)
   (u1:Fu K "must_be_from_one" O3 f1)
   (u2:Fu K "must_be_few" W8 f2)
   (u3:Fu K "greatest_part" T4 f3)
   (u4:Fu K "walk_ring" ac6 f4)
   (u5:Fu K "walk_rings" Z9 f5)
   (u6:Fu K "send_along" O4 f6)
   (u7:Fu K "sort_by_length" R7 f7)
   (u8:Fu K "picks_of" ah9 f8)
   (u9:Fu K "lay_every_way" T5 f9)
   (u10:Fu K "is_turn" am4 f10)
   (u11:Fu K "must_be_turn" V4 f11)
   (u12:Fu K "must_fit" ai0 f12)
   (u13:Fu K "put_behind" aa0 f13)
   (u14:Fu K "power_of" ai2 f14)
   (u15:Fu K "way_back" ai1 f15)
   (u16:Fu K "rounds_of" ac7 f16)
   (u17:Fu K "are_filled_lists" O5 f17)
   (u18:Fu K "things_in" ac8 f18)
   (u19:Fu K "from_rounds" W9 f19)
   (u20:Fu K "least_right" X0 f20)
   (u21:Fu K "join_rings" aa1 f21)
   (u22:Fu K "root_told" ac9 f22)
   (u23:Fu K "right_numbers" T6 f23)
   (u24:Fu K "ways_to_follow" R8 f24)
   (u25:Fu K "count_joins" X1 f25)
   (u26:Fu K "how_many_roots" R9 f26)
   (u27:Fu K "chains_of" ad0 f27)
   (u28:Fu K "ways_to_join" P5 f28)
   (u29:Fu K "all_roots" ad1 f29)
   (u30:Fu K "nth_root" ai3 f30)
   (u31:Fu K "number_of_root" S0 f31)
   (u32:Fu K "_law_cell_at" X2 f32)
   (u33:Fu K "_law_stir" ai4 f33)
   (u34:Fu K "_law_deck" ai5 f34)
   (u35:Fu K "_law_next" ai6 f35)
   (u36:Fu K "_law_turn" ai7 f36)
   (u37:Fu K "_law_every" ad2 f37)
   (u38:Fu K "_law_right" ad3 f38)
   (u39:Fu K "law" ap1 f39)
   (m0:PySem.W.nsIn K mainGlobals "MOST_THINGS"=some (some (.int 40 tk0)))
   (m1:PySem.W.nsIn K mainGlobals "MOST_TOLD"=some (some (.int 2000 tk1)))
   (zz:Fre K ["len","isinstance","int","bool","list","range","sum","min","max","enumerate","zip","sorted","tuple","str","repr","all","any","set","dict","ValueError"])
   :∃fd:FuncData,(∀(s:Shared) (v:Value),BindsTo s fd ⟨[v],[]⟩ [("script",v)])∧∀base:Heap,K.In base→base.Ns mainGlobals mg→o8 l.prog w K mg base A0 47 fa fd ["script"] (bh9 K):=by
 obtain ⟨d0,a0,F0⟩:=u0
 obtain ⟨d1,a1,F1⟩:=u1
 obtain ⟨d2,a2,F2⟩:=u2
 obtain ⟨d3,a3,F3⟩:=u3
 obtain ⟨d4,a4,F4⟩:=u4
 obtain ⟨d5,a5,F5⟩:=u5
 obtain ⟨d6,a6,F6⟩:=u6
 obtain ⟨d7,a7,F7⟩:=u7
 obtain ⟨d8,a8,F8⟩:=u8
 obtain ⟨d9,a9,F9⟩:=u9
 obtain ⟨d10,a10,F10⟩:=u10
 obtain ⟨d11,a11,F11⟩:=u11
 obtain ⟨d12,a12,F12⟩:=u12
 obtain ⟨d13,a13,F13⟩:=u13
 obtain ⟨d14,a14,F14⟩:=u14
 obtain ⟨d15,a15,F15⟩:=u15
 obtain ⟨d16,a16,F16⟩:=u16
 obtain ⟨d17,a17,F17⟩:=u17
 obtain ⟨d18,a18,F18⟩:=u18
 obtain ⟨d19,a19,F19⟩:=u19
 obtain ⟨d20,a20,F20⟩:=u20
 obtain ⟨d21,a21,F21⟩:=u21
 obtain ⟨d22,a22,F22⟩:=u22
 obtain ⟨d23,a23,F23⟩:=u23
 obtain ⟨d24,a24,F24⟩:=u24
 obtain ⟨d25,a25,F25⟩:=u25
 obtain ⟨d26,a26,F26⟩:=u26
 obtain ⟨d27,a27,F27⟩:=u27
 obtain ⟨d28,a28,F28⟩:=u28
 obtain ⟨d29,a29,F29⟩:=u29
 obtain ⟨d30,a30,F30⟩:=u30
 obtain ⟨d31,a31,F31⟩:=u31
 obtain ⟨d32,a32,F32⟩:=u32
 obtain ⟨d33,a33,F33⟩:=u33
 obtain ⟨d34,a34,F34⟩:=u34
 obtain ⟨d35,a35,F35⟩:=u35
 obtain ⟨d36,a36,F36⟩:=u36
 obtain ⟨d37,a37,F37⟩:=u37
 obtain ⟨d38,a38,F38⟩:=u38
 obtain ⟨d39,a39,F39⟩:=u39
 have e:=hfa.symm.trans (PySem.W.mg_of X G a39)
 cases e
 obtain ⟨z0,z1,z2,z3,z4,z5,z6,z7,z8,z9,z10,z11,z12,z13,z14,z15,z16,z17,z18,z19,_⟩:=zz
 have zn {y:Str} (z:PySem.W.nsIn K mainGlobals y=some none):=PySem.W.mg_none_of X G z
 have B:Bl mg:=⟨zn z0,zn z1,zn z2,zn z3,zn z4,zn z5,zn z6,zn z7,zn z8,zn z9,zn z10,zn z11,zn z12,zn z13,zn z14,zn z15,zn z16,zn z17,zn z18,zn z19⟩
 have mt:∃t,mg "MOST_THINGS"=some (.int 40 t):=⟨_,PySem.W.mg_of X G m0⟩
 have g_MOST_TOLD:∃t,mg "MOST_TOLD"=some (.int 2000 t):=⟨_,PySem.W.mg_of X G m1⟩
 have b0:=F0.binds (ps:=["thing"]) fun _ _ _ _ _ _ us hl=>match us,hl with|[_],_=>rfl
 have b1:=F1.binds (ps:=["number"]) fun _ _ _ _ _ _ us hl=>match us,hl with|[_],_=>rfl
 have b2:=F2.binds (ps:=["many"]) fun _ _ _ _ _ _ us hl=>match us,hl with|[_],_=>rfl
 have b3:=F3.binds (ps:=["a","b"]) fun _ _ _ _ _ _ us hl=>match us,hl with|[_,_],_=>rfl
 have b4:=F4.binds (ps:=["p","first"]) fun _ _ _ _ _ _ us hl=>match us,hl with|[_,_],_=>rfl
 have b5:=F5.binds (ps:=["p"]) fun _ _ _ _ _ _ us hl=>match us,hl with|[_],_=>rfl
 have b6:=F6.binds (ps:=["target","ring","steps"]) fun _ _ _ _ _ _ us hl=>match us,hl with|[_,_,_],_=>rfl
 have b7:=F7.binds (ps:=["rings"]) fun _ _ _ _ _ _ us hl=>match us,hl with|[_],_=>rfl
 have b8:=F8.binds (ps:=["rings"]) fun _ _ _ _ _ _ us hl=>match us,hl with|[_],_=>rfl
 have b9:=F9.binds (ps:=["p","choices"]) fun _ _ _ _ _ _ us hl=>match us,hl with|[_,_],_=>rfl
 have b10:=F10.binds (ps:=["thing"]) fun _ _ _ _ _ _ us hl=>match us,hl with|[_],_=>rfl
 have b11:=F11.binds (ps:=["thing"]) fun _ _ _ _ _ _ us hl=>match us,hl with|[_],_=>rfl
 have b12:=F12.binds (ps:=["p","q"]) fun _ _ _ _ _ _ us hl=>match us,hl with|[_,_],_=>rfl
 have b13:=F13.binds (ps:=["p","q"]) fun _ _ _ _ _ _ us hl=>match us,hl with|[_,_],_=>rfl
 have b14:=F14.binds (ps:=["p","k"]) fun _ _ _ _ _ _ us hl=>match us,hl with|[_,_],_=>rfl
 have b15:=F15.binds (ps:=["p"]) fun _ _ _ _ _ _ us hl=>match us,hl with|[_],_=>rfl
 have b16:=F16.binds (ps:=["p"]) fun _ _ _ _ _ _ us hl=>match us,hl with|[_],_=>rfl
 have b17:=F17.binds (ps:=["rounds"]) fun _ _ _ _ _ _ us hl=>match us,hl with|[_],_=>rfl
 have b18:=F18.binds (ps:=["rounds"]) fun _ _ _ _ _ _ us hl=>match us,hl with|[_],_=>rfl
 have b19:=F19.binds (ps:=["rounds"]) fun _ _ _ _ _ _ us hl=>match us,hl with|[_],_=>rfl
 have b20:=F20.binds (ps:=["l","m"]) fun _ _ _ _ _ _ us hl=>match us,hl with|[_,_],_=>rfl
 have b21:=F21.binds (ps:=["rings","m"]) fun _ _ _ _ _ _ us hl=>match us,hl with|[_,_],_=>rfl
 have b22:=F22.binds (ps:=["p","m"]) fun _ _ _ _ _ _ us hl=>match us,hl with|[_,_],_=>rfl
 have b23:=F23.binds (ps:=["length","m","most"]) fun _ _ _ _ _ _ us hl=>match us,hl with|[_,_,_],_=>rfl
 have b24:=F24.binds (ps:=["left","part","length"]) fun _ _ _ _ _ _ us hl=>match us,hl with|[_,_,_],_=>rfl
 have b25:=F25.binds (ps:=["length","many","m"]) fun _ _ _ _ _ _ us hl=>match us,hl with|[_,_,_],_=>rfl
 have b26:=F26.binds (ps:=["p","m"]) fun _ _ _ _ _ _ us hl=>match us,hl with|[_,_],_=>rfl
 have b27:=F27.binds (ps:=["rings","part"]) fun _ _ _ _ _ _ us hl=>match us,hl with|[_,_],_=>rfl
 have b28:=F28.binds (ps:=["rings","right","m"]) fun _ _ _ _ _ _ us hl=>match us,hl with|[_,_,_],_=>rfl
 have b29:=F29.binds (ps:=["p","m"]) fun _ _ _ _ _ _ us hl=>match us,hl with|[_,_],_=>rfl
 have b30:=F30.binds (ps:=["p","m","k"]) fun _ _ _ _ _ _ us hl=>match us,hl with|[_,_,_],_=>rfl
 have b31:=F31.binds (ps:=["p","m","r"]) fun _ _ _ _ _ _ us hl=>match us,hl with|[_,_,_],_=>rfl
 have b32:=F32.binds (ps:=["script","k"]) fun _ _ _ _ _ _ us hl=>match us,hl with|[_,_],_=>rfl
 have b33:=F33.binds (ps:=["cell","k"]) fun _ _ _ _ _ _ us hl=>match us,hl with|[_,_],_=>rfl
 have b34:=F34.binds (ps:=["cell","many"]) fun _ _ _ _ _ _ us hl=>match us,hl with|[_,_],_=>rfl
 have b35:=F35.binds (ps:=["deck"]) fun _ _ _ _ _ _ us hl=>match us,hl with|[_],_=>rfl
 have b36:=F36.binds (ps:=["deck","many"]) fun _ _ _ _ _ _ us hl=>match us,hl with|[_,_],_=>rfl
 have b37:=F37.binds (ps:=["many"]) fun _ _ _ _ _ _ us hl=>match us,hl with|[_],_=>rfl
 have b38:=F38.binds (ps:=["deck","p","m","s"]) fun _ _ _ _ _ _ us hl=>match us,hl with|[_,_,_,_],_=>rfl
 obtain ⟨oc,od,kV,dc,pm,an,cd,ct,sl,rfl,lk,hcd⟩:=id F39.ex
 refine ⟨PySem.W.fnOf "law" "law" (Y3 ap1) (U3 ap1) (i7 ap1) .none kV dc pm an cd ct,fun s v=> .of_eq rfl,fun base _ _=> ?_⟩
 have c_is_whole:j7 l.prog w K mg base "is_whole" 1 ["thing"] (af4 K):=i5 X G a0 F0 b0 (cn7 F0 B)
 have c_must_be_from_one:j7 l.prog w K mg base "must_be_from_one" 2 ["number"] ap2:=i5 X G a1 F1 b1 (dc9 F1 c_is_whole)
 have c_must_be_few:j7 l.prog w K mg base "must_be_few" 1 ["many"] bp5:=i5 X G a2 F2 b2 (bc1 F2 g_MOST_TOLD)
 have c_greatest_part:j7 l.prog w K mg base "greatest_part" 1 ["a","b"] bh5:=i5 X G a3 F3 b3 (dc8 F3)
 have c_walk_ring:j7 l.prog w K mg base "walk_ring" 1 ["p","first"] bm6:=i5 X G a4 F4 b4 (cu7 F4)
 have c_walk_rings:j7 l.prog w K mg base "walk_rings" 2 ["p"] P6:=i5 X G a5 F5 b5 (cn8 F5 B c_walk_ring)
 have c_send_along:j7 l.prog w K mg base "send_along" 1 ["target","ring","steps"] (bl7 af5 ap3):=i5 X G a6 F6 b6 (dh0 (cu8 F6 B) (bh1 F6 B))
 have c_sort_by_length:j7 l.prog w K mg base "sort_by_length" 1 ["rings"] af7:=i5 X G a7 F7 b7 (co5 F7 B)
 have c_picks_of:j7 l.prog w K mg base "picks_of" 1 ["rings"] bb7:=i5 X G a8 F8 b8 (br8 F8 B)
 have c_lay_every_way:j7 l.prog w K mg base "lay_every_way" 1 ["p","choices"] cb0:=i5 X G a9 F9 b9 (at5 F9 B)
 have c_is_turn:j7 l.prog w K mg base "is_turn" 2 ["thing"] ai8:=i5 X G a10 F10 b10 (ch8 F10 B mt c_is_whole)
 have c_must_be_turn:j7 l.prog w K mg base "must_be_turn" 3 ["thing"] aa2:=i5 X G a11 F11 b11 (cu6 F11 c_is_turn)
 have c_must_fit:j7 l.prog w K mg base "must_fit" 1 ["p","q"] (bh4 K):=i5 X G a12 F12 b12 (dc6 F12 B)
 have c_put_behind:j7 l.prog w K mg base "put_behind" 4 ["p","q"] as3:=i5 X G a13 F13 b13 (ch9 F13 c_must_be_turn c_must_fit)
 have c_power_of:j7 l.prog w K mg base "power_of" 4 ["p","k"] af6:=i5 X G a14 F14 b14 (cn9 F14 B c_must_be_turn c_walk_rings (cr6 c_send_along))
 have c_way_back:j7 l.prog w K mg base "way_back" 5 ["p"] bm8:=i5 X G a15 F15 b15 (cv0 F15 c_power_of)
 have c_rounds_of:j7 l.prog w K mg base "rounds_of" 4 ["p"] P6:=i5 X G a16 F16 b16 (br7 F16 c_must_be_turn c_walk_rings)
 have c_are_filled_lists:j7 l.prog w K mg base "are_filled_lists" 1 ["rounds"] as4:=i5 X G a17 F17 b17 (ci0 F17 B)
 have c_things_in:j7 l.prog w K mg base "things_in" 1 ["rounds"] as5:=i5 X G a18 F18 b18 (ci1 F18)
 have c_from_rounds:j7 l.prog w K mg base "from_rounds" 3 ["rounds"] bn1:=i5 X G a19 F19 b19 (cv5 F19 c_are_filled_lists c_things_in c_is_turn (cr6 c_send_along))
 have c_least_right:j7 l.prog w K mg base "least_right" 3 ["l","m"] co2:=i5 X G a20 F20 b20 (dh8 F20 c_must_be_from_one c_greatest_part)
 have c_join_rings:j7 l.prog w K mg base "join_rings" 1 ["rings","m"] am5:=i5 X G a21 F21 b21 (cv6 F21 B)
 have c_root_told:j7 l.prog w K mg base "root_told" 5 ["p","m"] bn8:=i5 X G a22 F22 b22 (cv7 F22 B c_rounds_of c_sort_by_length c_must_be_from_one c_least_right c_join_rings c_from_rounds)
 have c_right_numbers:j7 l.prog w K mg base "right_numbers" 2 ["length","m","most"] aj0:=i5 X G a23 F23 b23 (as8 F23 B c_greatest_part)
 have c_ways_to_follow:j7 l.prog w K mg base "ways_to_follow" 1 ["left","part","length"] as9:=i5 X G a24 F24 b24 (ap8 F24 B)
 have c_count_joins:j7 l.prog w K mg base "count_joins" 3 ["length","many","m"] bb4:=i5 X G a25 F25 b25 (bb5 F25 B c_right_numbers c_ways_to_follow)
 have c_how_many_roots:j7 l.prog w K mg base "how_many_roots" 4 ["p","m"] am9:=i5 X G a26 F26 b26 (ap9 F26 B c_must_be_turn c_must_be_from_one c_sort_by_length c_walk_rings c_count_joins)
 have c_chains_of:j7 l.prog w K mg base "chains_of" 2 ["rings","part"] aj3:=i5 X G a27 F27 b27 (bp0 F27 B c_picks_of)
 have c_ways_to_join:j7 l.prog w K mg base "ways_to_join" 43 ["rings","right","m"] (an1 40):=i5 X G a28 F28 b28 (g7 F28 B c_chains_of c_join_rings (i5 X G a28 F28 b28 (g7 F28 B c_chains_of c_join_rings (i5 X G a28 F28 b28 (g7 F28 B c_chains_of c_join_rings (i5 X G a28 F28 b28 (g7 F28 B c_chains_of c_join_rings (i5 X G a28 F28 b28 (g7 F28 B c_chains_of c_join_rings (i5 X G a28 F28 b28 (g7 F28 B c_chains_of c_join_rings (i5 X G a28 F28 b28 (g7 F28 B c_chains_of c_join_rings (i5 X G a28 F28 b28 (g7 F28 B c_chains_of c_join_rings (i5 X G a28 F28 b28 (g7 F28 B c_chains_of c_join_rings (i5 X G a28 F28 b28 (g7 F28 B c_chains_of c_join_rings (i5 X G a28 F28 b28 (g7 F28 B c_chains_of c_join_rings (i5 X G a28 F28 b28 (g7 F28 B c_chains_of c_join_rings (i5 X G a28 F28 b28 (g7 F28 B c_chains_of c_join_rings (i5 X G a28 F28 b28 (g7 F28 B c_chains_of c_join_rings (i5 X G a28 F28 b28 (g7 F28 B c_chains_of c_join_rings (i5 X G a28 F28 b28 (g7 F28 B c_chains_of c_join_rings (i5 X G a28 F28 b28 (g7 F28 B c_chains_of c_join_rings (i5 X G a28 F28 b28 (g7 F28 B c_chains_of c_join_rings (i5 X G a28 F28 b28 (g7 F28 B c_chains_of c_join_rings (i5 X G a28 F28 b28 (g7 F28 B c_chains_of c_join_rings (i5 X G a28 F28 b28 (g7 F28 B c_chains_of c_join_rings (i5 X G a28 F28 b28 (g7 F28 B c_chains_of c_join_rings (i5 X G a28 F28 b28 (g7 F28 B c_chains_of c_join_rings (i5 X G a28 F28 b28 (g7 F28 B c_chains_of c_join_rings (i5 X G a28 F28 b28 (g7 F28 B c_chains_of c_join_rings (i5 X G a28 F28 b28 (g7 F28 B c_chains_of c_join_rings (i5 X G a28 F28 b28 (g7 F28 B c_chains_of c_join_rings (i5 X G a28 F28 b28 (g7 F28 B c_chains_of c_join_rings (i5 X G a28 F28 b28 (g7 F28 B c_chains_of c_join_rings (i5 X G a28 F28 b28 (g7 F28 B c_chains_of c_join_rings (i5 X G a28 F28 b28 (g7 F28 B c_chains_of c_join_rings (i5 X G a28 F28 b28 (g7 F28 B c_chains_of c_join_rings (i5 X G a28 F28 b28 (g7 F28 B c_chains_of c_join_rings (i5 X G a28 F28 b28 (g7 F28 B c_chains_of c_join_rings (i5 X G a28 F28 b28 (g7 F28 B c_chains_of c_join_rings (i5 X G a28 F28 b28 (g7 F28 B c_chains_of c_join_rings (i5 X G a28 F28 b28 (g7 F28 B c_chains_of c_join_rings (i5 X G a28 F28 b28 (g7 F28 B c_chains_of c_join_rings (i5 X G a28 F28 b28 (g7 F28 B c_chains_of c_join_rings (i5 X G a28 F28 b28 (g7 F28 B c_chains_of c_join_rings (i5 X G a28 F28 b28 (ay3 F28 B c_chains_of c_join_rings c_send_along)) c_send_along)) c_send_along)) c_send_along)) c_send_along)) c_send_along)) c_send_along)) c_send_along)) c_send_along)) c_send_along)) c_send_along)) c_send_along)) c_send_along)) c_send_along)) c_send_along)) c_send_along)) c_send_along)) c_send_along)) c_send_along)) c_send_along)) c_send_along)) c_send_along)) c_send_along)) c_send_along)) c_send_along)) c_send_along)) c_send_along)) c_send_along)) c_send_along)) c_send_along)) c_send_along)) c_send_along)) c_send_along)) c_send_along)) c_send_along)) c_send_along)) c_send_along)) c_send_along)) c_send_along)) c_send_along)) c_send_along)
 have c_all_roots:j7 l.prog w K mg base "all_roots" 44 ["p","m"] an4:=i5 X G a29 F29 b29 (bp6 F29 B c_how_many_roots c_must_be_few c_sort_by_length c_walk_rings c_ways_to_join c_right_numbers c_lay_every_way)
 have c_nth_root:j7 l.prog w K mg base "nth_root" 45 ["p","m","k"] bq1:=i5 X G a30 F30 b30 (bs1 F30 B c_all_roots c_is_whole)
 have c_number_of_root:j7 l.prog w K mg base "number_of_root" 45 ["p","m","r"] bq2:=i5 X G a31 F31 b31 (aq0 F31 c_must_be_turn c_must_be_from_one c_must_fit c_all_roots)
 have c_law_cell_at:j7 l.prog w K mg base "_law_cell_at" 1 ["script","k"] (bn9 K):=i5 X G a32 F32 b32 (cv8 F32 B)
 have c_law_stir:j7 l.prog w K mg base "_law_stir" 1 ["cell","k"] bo0:=i5 X G a33 F33 b33 (cv9 F33)
 have c_law_deck:j7 l.prog w K mg base "_law_deck" 2 ["cell","many"] bo2:=i5 X G a34 F34 b34 (cw0 F34 B c_law_stir)
 have c_law_next:j7 l.prog w K mg base "_law_next" 1 ["deck"] am6:=i5 X G a35 F35 b35 (cw1 F35)
 have c_law_turn:j7 l.prog w K mg base "_law_turn" 2 ["deck","many"] bb2:=i5 X G a36 F36 b36 (co6 F36 B c_law_next)
 have c_law_every:j7 l.prog w K mg base "_law_every" 1 ["many"] bd1:=i5 X G a37 F37 b37 (bq5 F37 B)
 have c_law_right:j7 l.prog w K mg base "_law_right" 46 ["deck","p","m","s"] ao1:=i5 X G a38 F38 b38 (bq6 F38 B c_how_many_roots (co7 c_root_told) c_put_behind c_way_back c_all_roots c_law_next c_power_of c_number_of_root c_nth_root)
 exact de5 F39 B c_law_deck c_law_cell_at c_law_next c_law_turn c_power_of c_law_right c_law_every c_how_many_roots
theorem dn6 {l:PySem.W.OpenLaw}{q:Program}{loose:List Str}{XP:(Str→Option Value)→Heap→Prop}{YP:World→Heap→Prop}{d:DefRec}{K:Params→PySem.W.Frag}(hn:l.most=some 63)(hdf:d.params.defaults=[])
   (hY:∀(w:World) (h:Heap),YP w h→(K w.params).In h)
   (F:∀(w:World) (mg:Str→Option Value) (fa:Addr) (h:Heap),(K w.params).In h→h.Ns mainGlobals mg→mg d.name=some (.ref fa)→
     ∃fd:FuncData,(∀(s:Shared) (u:Value),BindsTo s fd ⟨[u],[]⟩ [("script",u)])∧∀base:Heap,(K w.params).In base→base.Ns mainGlobals mg→o8 l.prog w (K w.params) mg base A0 47 fa fd ["script"] (bh9 (K w.params))):
   PySem.W.WalkO q loose XP YP l.row.toRowW d [] (fun f vs=>PySem.call f vs):=
 L2.dm2 (n:=63) (k:=47) (x:="script") (CX:=fun _=>A0) (sp:=fun w=>bh9 (K w.params)) hn (by decide) hdf ⟨rfl,by decide,by decide,rfl⟩ hY F (fun _ _ a ns hl _ hS=>⟨a,ns,rfl,hS,hl,fun _=>rfl⟩) fun _ _ _ _ _ z=>z
end My
abbrev PySem.W.Fast.tw3354100435469213435 : PySem.Program := PySem.Challenge.pw_turnroots_k22_whole_roots_counted_and_to
theorem PySem.W.Fast.te3354100435469213435 : PySem.Challenge.pw_turnroots_k22_whole_roots_counted_and_to = PySem.W.Fast.tw3354100435469213435 := rfl
abbrev PySem.W.Fast.tw90343872475197607:Type:=PySem.Params
theorem PySem.W.Fast.te90343872475197607:PySem.Params=PySem.W.Fast.tw90343872475197607:=rfl
open PySem PySem.W PyProof.Rows L2
set_option maxRecDepth 100000 in
set_option maxHeartbeats 0 in
theorem PySem.Challenge.cw_turnroots_k22_whole_roots_counted_and_to_holds : PySem.Challenge.rw_turnroots_k22_whole_roots_counted_and_to.Holds := by
  w_on; o_law; k_head; (case hw => w_witness2)
  k_fill
  refine My.dn6 (l := PySem.Challenge.rw_turnroots_k22_whole_roots_counted_and_to) rfl rfl (fun w h Y => PySem.W.kIn_of Y) ?F
  case F =>
    intro w mg fa h KX G hmg
    refine' My.dn5 KX G hmg ?_ ?_ ?_ ?_ ?_ ?_ ?_ ?_ ?_ ?_ ?_ ?_ ?_ ?_ ?_ ?_ ?_ ?_ ?_ ?_ ?_ ?_ ?_ ?_ ?_ ?_ ?_ ?_ ?_ ?_ ?_ ?_ ?_ ?_ ?_ ?_ ?_ ?_ ?_ ?_ ?_ ?_ ?_
    all_goals first
      | k_is
      | (refine' dh5 ?a ?l ?c ?k; (case a => k_is); (case l => k_is); (case c => k_is); (case k => k_is))
      | ((repeat (refine' And.intro (ClF.mk ?n ?e ?g ?h ?c ?b ?o ?i ?t ?u ?v ?s) ?_; (case n => k_is); (case e => k_exc); (case g => k_is); (case h => k_is); (case c => k_is); (case b => k_is); (case o => k_is); (case i => k_is); (case t => k_is); (case u => k_is); (case v => k_is); (case s => k_is))); exact trivial)
      | ((repeat (refine' And.intro ?n ?_; (case n => k_is))); exact trivial)
      | ((repeat (refine' And.intro ?zp ?_; (case zp => ((repeat (refine' And.intro ?n ?_; (case n => k_is))); exact trivial)))); exact trivial)
      | skip
#print axioms PySem.Challenge.cw_turnroots_k22_whole_roots_counted_and_to_holds
