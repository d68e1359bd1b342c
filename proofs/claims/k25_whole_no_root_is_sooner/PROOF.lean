import PyProof.Rows.All
import Wide.All
import OpenK.AllK
import Wide.FinOn
import Lean
import PyProof.EqAt
import PyProof.EqKinds
import PyProof.TupleCall
import PyProof.NeKinds
import PyProof.EnumMake
import PyProof.Rows.SeqMore2
import PyProof.ZipIter
import PyProof.Rows.SortRev
import PyProof.Rows.SortWalk
import PyProof.Rows.CallKwBuiltin
import PyProof.DictIter
import PyProof.DictWalks
import PyProof.MeetsDict
import PyProof.Conv_int_bool
import PyProof.EqAt
import PyProof.CollectWalk
import PyProof.Rows.SortShell
import PyProof.Rows.Range3
import PyProof.CallFns
import PyProof.StrBlockH
import PySem.Challenge.RW_turnroots_k25_whole_no_root_is_sooner
open List renaming length_map→de9, getElem?_eq_getElem→df0, getElem?_eq_some_iff→df1, getElem?_map→df3, mem_cons_self→df4, getD_eq_getElem?_getD→df5, mem_cons_of_mem→df6, length_append→df7, map_append→df8, mem_map→df9, getElem?_eq_none→dg0, mem_of_getElem?→dg1, mem_append→dg2, mem_singleton→dg3, size_toArray→dg4, length_take→dg7, mem_flatten→dg8, mem_cons→dg9, flatten_cons→dh1, nodup_iff_pairwise_ne→dh3, append_assoc→dh4, mem_append_right→dh6, append_nil→dh7, mem_iff_getElem?→dh8, take_length→dh9, length_drop→di0, getElem?_append_left→di1, length_range→di2, pairwise_iff_getElem→di3, getElem_mem→di5, replicate→di6, flatten_append→di7, getElem?_append_right→di8, mem_range→di9, map_cons→dj0, ext_getElem?→dj1, nodup_cons→dj3, map_map→dj4, range→dj6, getElem?_range→dj7, length_cons→dk0, getElem?_take_of_lt→dk2, mem_append_left→dk4, take_append_drop→dk5, map_congr_left→dk6, mem_filter→dk7, nodup_append→dk8, flatMap_cons→dk9, mem_flatMap→dl5, drop_eq_getElem_cons→dl6, mem_of_mem_take→dl7, flatten_singleton→dl8, lookup_cons→dl9, perm_append_comm→dm4, take_of_length_le→dm7, countP_eq_zero→dm8, nodup_nil→dn1, pairwise_map→dn6, replicate_succ→dn7, flatMap_append→dn8, getElem?_drop→do0, take_zero→do3, mem_of_mem_drop→do4, filter_cons_of_pos→do8, filter_cons_of_neg→do9, length_eq_zero_iff→dp0, length_reverse→dp1, all_eq_true→dp2, drop_eq_nil_of_le→dp3, mem_reverse→dp4, flatMap_nil→dp5, length_replicate→dp9, countP_cons→dq7, reverse_append→dq9, pairwise_singleton→dr2, filter_append→dr5, length_set→dr6, find?_cons→dr7, range_succ→dr8, countP_map→ds0, map_id→ds3, length_filter_le→ds4, countP_congr→ds5, map_nil→ds7, flatten→dt0, filter_nil→dt5, getElem?_take→dt8, foldl_append→du1, getElem?_set_self→du2, length→du4, eraseIdxIfInBounds_toArray→du5, nodup_range→du9, getElem?_reverse→dv0, getElem?_set_ne→dv3, length_dropLast→dv4, length_nil→dv6, filterMap_cons→dw1, countP_eq_length_filter→dw3, append_of_mem→dw4, countP_append→dw5, any_cons→dw9, extract_eq_take_drop→dx1, map_take→dx2, sum_cons→dx3, any_eq_true→dx4, getElem?_replicate→dx9, getElem?_cons_zero→dy1, getElem?_cons_succ→dy2, map_set→dy5, of_mem_zip→dy6, drop_zero→dz1, take_add→dz2, map_drop→dz3
open Nat renaming le_refl→df2, le_trans→dg5, gcd→dg6, zero_le→dh2, le_mul_of_pos_right→dj2, lt_of_le_of_lt→dj5, lt_of_lt_of_le→dj9, ne_of_lt→dk1, le_of_lt→dl0, mul_comm→dl2, mod_eq_of_lt→dl4, mul_div_cancel_left→dm0, mul_le_mul_right→dm1, mul_assoc→dm5, mod_lt→dm6, gcd_dvd_right→dm9, add_comm→dn0, lt_irrefl→dn3, add_zero→dn4, mul_pos→dn5, eq_zero_or_pos→do1, succ_mul→do6, gcd_pos_of_pos_left→do7, coprime_div_gcd_div_gcd→dp6, mul_le_mul→dp7, sub_add_cancel→dp8, le_of_dvd→dq1, eq_of_mul_eq_mul_left→dq2, gcd_dvd_left→dq6, mul_div_cancel'→dq8, zero_add→dr1, zero_mul→dr4, le_mul_of_pos_left→dr9, le_succ→ds1, dvd_of_mul_dvd_mul_left→ds6, le_of_eq→ds8, mul_zero→ds9, add_mul_mod_self_left→dt2, mul_one→dt4, gcd_pos_of_pos_right→dt6, lt_or_ge→dt9, lt_succ_of_lt→du0, dvd_of_mod_eq_zero→du3, mul_add→du7, add_assoc→du8, mul_dvd_mul_left→dv5, div_add_mod→dv7, min_eq_left→dv8, sub_self→dv9, pow_succ→dw0, add_le_add_left→dw2, lt_or_eq_of_le→dw6, Coprime→dw8, div_eq_of_lt→dx5, gcd_mul_left→dx7, mul_succ→dy0, dvd_zero→dy3, mul_add_div→dy8, mul_add_mod→dy9, one_mul→dz0
open Array renaming length_toList→dh0, getElem?_toList→dj8, toList_append→dk3, toList→dl1, perm_iff_toList_perm→dn9, getElem?_eq_getElem→dq0, toList_push→dq3, toList_reverse→dt1, toList_map→dx8
open Bool renaming false_ne_true→dh5, false_eq_true→dn2, eq_iff_iff→do5, and_eq_true→dq4, or_eq_true→dt3
open Int renaming toNat_natCast→di4, emod_nonneg→dl3, natCast_mul→dm2, natCast_emod→dm3, emod_lt_of_pos→do2, toNat_of_nonneg→dq5, eq_ofNat_of_zero_le→dr0, emod_eq_zero_of_dvd→dr3, toNat→ds2, natAbs_natCast→dt7, dvd_self_sub_emod→du6, fdiv_eq_ediv_of_nonneg→dw7, natCast_ediv→dx6, sub_self→dy4, natCast_add→dy7
open Option renaming isSome_map→dx0
set_option Elab.async false
set_option linter.all false
set_option maxRecDepth 100000
set_option maxHeartbeats 8000000
set_option Elab.async false
set_option linter.all false
set_option maxRecDepth 100000
namespace L2
open PySem PySem.Spec PyProof.Rows
abbrev n6:=Sum Int Str
def ak1:n6→Value→Bool
 | .inl k,v=>Value.isInt k v
 | .inr x,v=>Value.isStrOf x v
def da5 (w:World):n6→Int
 | .inl k=>hashInt k
 | .inr x=>hashStr w x
theorem E2:∀{k:n6} {v:Value},ak1 k v=true→(∃i t,k=Sum.inl i∧v=Value.int i t)∨(∃x t,k=Sum.inr x∧v=Value.str x t)
 | .inl i,v,h=>by
   obtain ⟨t,e⟩:=Value.isInt_shape (k:=i) (v:=v) h
   exact .inl ⟨i,t,rfl,e⟩
 | .inr x,v,h=>by
   obtain ⟨t,e⟩:=Value.isStrOf_shape (x:=x) (v:=v) h
   exact .inr ⟨x,t,rfl,e⟩
theorem bw0 (i:Int)(t:Tok):ak1 (.inl i) (.int i t)=true:=by simp [ak1,Value.isInt]
theorem bw1 (x:Str)(t:Tok):ak1 (.inr x) (.str x t)=true:=by simp [ak1,Value.isStrOf]
theorem cp2 (a b:Int):decide ((Sum.inl a:n6)=Sum.inl b)=(a==b):=by
 by_cases e:a=b
 · subst e;simp
 · have h:¬(Sum.inl a:n6)=Sum.inl b:=fun q=>e (Sum.inl.inj q)
   rw[decide_eq_false h]
   exact (beq_eq_false_iff_ne.mpr e).symm
theorem cp3 (a b:Str):decide ((Sum.inr a:n6)=Sum.inr b)=decide (a=b):=by
 by_cases e:a=b
 · subst e;simp
 · have h:¬(Sum.inr a:n6)=Sum.inr b:=fun q=>e (Sum.inr.inj q)
   rw[decide_eq_false h,decide_eq_false e]
theorem cp4 (a:Int)(b:Str):decide ((Sum.inl a:n6)=Sum.inr b)=false:=decide_eq_false (fun q=>nomatch q)
theorem cp5 (a:Str)(b:Int):decide ((Sum.inr a:n6)=Sum.inl b)=false:=decide_eq_false (fun q=>nomatch q)
def t8 (prog:Program)(w:World):PySem.KeyKind prog w n6 where
 is:=ak1
 hash:=da5 w
 inj:=fun v a b ha hb=>by
   rcases E2 ha with ⟨i,t,rfl,rfl⟩|⟨x,t,rfl,rfl⟩
   · rcases E2 hb with ⟨j,u,rfl,e⟩|⟨y,u,rfl,e⟩
     · injection e with e1 _;rw[e1]
     · exact nomatch e
   · rcases E2 hb with ⟨j,u,rfl,e⟩|⟨y,u,rfl,e⟩
     · exact nomatch e
     · injection e with e1 _;rw[e1]
 byValue:=fun k v h=>by
   rcases E2 h with ⟨i,t,rfl,rfl⟩|⟨x,t,rfl,rfl⟩<;>rfl
 pyHash:=fun hv h=>by
   rcases E2 hv with ⟨i,t,rfl,rfl⟩|⟨x,t,rfl,rfl⟩
   · exact wpAny_pyHash_int h
   · exact wpAny_pyHash_str h
 eqBool:=fun hu hv h=>by
   rcases E2 hu with ⟨i,t,rfl,rfl⟩|⟨x,t,rfl,rfl⟩
   · rcases E2 hv with ⟨j,u,rfl,rfl⟩|⟨y,u,rfl,rfl⟩
     · rw[cp2] at h;exact wpAny_eqBool_int h
     · rw[cp4] at h;exact SeqAt.EqAt.int_str i t y u _ _ _ _ h
   · rcases E2 hv with ⟨j,u,rfl,rfl⟩|⟨y,u,rfl,rfl⟩
     · rw[cp5] at h;exact SeqAt.EqAt.str_int x t j u _ _ _ _ h
     · rw[cp3] at h;exact wpAny_eqBool_str h
 «strs»:=fun k x t v h=>by
   rcases E2 h with ⟨i,u,rfl,e⟩|⟨y,u,rfl,e⟩
   · exact nomatch e
   · injection e with e1 _
     subst e1
     cases v<;>rfl
theorem am1 (prog:Program)(w:World)(i:Int)(t:Tok):(t8 prog w).is (.inl i) (.int i t)=true:=bw0 i t
theorem am2 (prog:Program)(w:World)(x:Str)(t:Tok):(t8 prog w).is (.inr x) (.str x t)=true:=bw1 x t
end L2
namespace L2
open PySem PySem.Spec PyProof.Rows
inductive V where
 |non|bl (b:Bool)|int (i:Int)|str (x:Str)|byt (b:Array UInt8)|flt (b:UInt64)|ref (a:Addr)|ty (n:String)
 deriving DecidableEq
def m8:V→Value→Prop
 | .non,u=>u=Value.none
 | .bl b,u=>u=Value.bool b
 | .int i,u=>∃t,u=Value.int i t
 | .str x,u=>∃t,u=Value.str x t
 | .byt b,u=>∃t,u=Value.bytes b t
 | .flt b,u=>∃t,u=Value.float b t
 | .ref a,u=>u=Value.ref a
 | .ty n,u=>u=Value.type n
abbrev j8:List V→List Value→Prop:=Paired m8
theorem j8.length {xs:List V}{us:List Value}(r:j8 xs us):xs.length=us.length:=Paired.length r
theorem j8.get:∀{xs:List V} {us:List Value} {i:Nat} {x:V},j8 xs us→xs[i]? =some x→∃u,us[i]? =some u∧m8 x u
 |_,_,_,_,.nil,e=>by simp at e
 |_,_,0,_,.cons r _,e=>by simp at e;subst e;exact ⟨_,rfl,r⟩
 |_,_,i+1,x,.cons _ t,e=>by
  obtain ⟨u,h1,h2⟩:=j8.get (i:=i) (x:=x) t (by simpa using e)
  exact ⟨u,by simpa using h1,h2⟩
theorem j8.set {x:V}{u:Value}(r:m8 x u):∀{xs:List V} {us:List Value} (i:Nat),j8 xs us→j8 (xs.set i x) (us.set i u)
 |_,_,_,.nil=> .nil
 |_,_,0,.cons _ t=> .cons r t
 |_,_,i+1,.cons q t=> .cons q (j8.set r i t)
theorem j8.append:∀{xs ys:List V} {us ws:List Value},j8 xs us→j8 ys ws→j8 (xs++ys) (us++ws)
 |_,_,_,_,.nil,s=>s
 |_,_,_,_,.cons r t,s=> .cons r (j8.append t s)
theorem j8.take:∀{xs:List V} {us:List Value} (n:Nat),j8 xs us→j8 (xs.take n) (us.take n)
 |_,_,0,_=> .nil
 |_,_,_+1,.nil=> .nil
 |_,_,n+1,.cons r t=> .cons r (j8.take n t)
theorem j8.drop:∀{xs:List V} {us:List Value} (n:Nat),j8 xs us→j8 (xs.drop n) (us.drop n)
 |_,_,0,r=>r
 |_,_,_+1,.nil=> .nil
 |_,_,n+1,.cons _ t=>j8.drop n t
def W9:Option V→Option Value→Prop
 |some v,some u=>m8 v u
 |none,none=>True
 |_,_=>False
def KV {κ:Type}:List (κ×V)→List (κ×Value)→Prop:=Paired fun (p:κ×V) (q:κ×Value)=>p.1=q.1∧m8 p.2 q.2
def kV:n6→V
 | .inl i=> .int i
 | .inr x=> .str x
inductive HO where
 |lst (xs:List V)
 |tup (xs:List V)
 |dK (kvs:List (n6×V))|dT (kvs:List (List n6×V))
 |set (S:Int→Bool) (n:Nat)
 |ins (C dx:Addr) (fs:List (Str×V))
 |own (x:Addr)
 |xd (fs:List (Str×V))
 |met (f x:Addr)
 |rng (lo hi:Int)
 |frz (o:Obj) (u:HO)
 |tbl (ps:Array Value)
 |ext (φ:Heap→Prop)
abbrev Hp:=Addr→Option HO
def e7 (H:Hp)(a:Addr)(o:HO):Hp:=fun b=>if b=a then some o else H b
theorem c8 {H:Hp}{a:Addr}{o:HO}:e7 H a o a=some o:=by unfold e7;rw[if_pos rfl]
theorem g8 {H:Hp}{a b:Addr}{o:HO}(h:b≠a):e7 H a o b=H b:=by unfold e7;rw[if_neg h]
theorem cj1 {H:Hp}{a b:Addr}{o u:HO}(h:H a=some o)(h':H b=some u)(d:o≠u):a≠b:=by
 intro e;subst e;rw[h] at h';exact d (Option.some.inj h')
theorem g6 {H:Hp}{a b:Addr}{o:HO}(h:H a=some o)(h':H b=none):a≠b:=by
 intro e;subst e;rw[h] at h';cases h'
section
variable (P:Program) (w:World)
def q0 (H:Hp)(h:Heap)(a:Addr):HO→Prop
 | .lst xs=>xs.length≤sizeLine∧∃(its:List Value) (n:Nat),j8 xs its∧h.get? a=some {cls:= .type "list",data:= .seq its.toArray n}
 | .tup xs=>xs.length≤sizeLine∧∃its:List Value,j8 xs its∧IsTup h a its.toArray
 | .dK kvs=>kvs.length≤sizeLine∧(a==sysModules)=false∧∃vs,KV kvs vs∧h.DictOf (t8 P w) a vs
 | .dT kvs=>kvs.length≤sizeLine∧(a==sysModules)=false∧∃xs:List (List n6×Addr×Value),
     Paired (fun (p:List n6×V) (q:List n6×Addr×Value)=>p.1=q.1∧H q.2.1=some (.tup (p.1.map kV))∧m8 p.2 q.2.2) kvs xs∧
     ∃o es ep,h.get? a=some o∧o.ExactDict∧o.data= .dict es ep∧es.toList=xs.map (entryOfKey (tupleKind (t8 P w)))∧(xs.map (·.1)).Nodup
 | .set S n=>h.SetOf (intKind P w) a S n
 | .ins C dx fs=>H dx=some (.own a)∧fs.length≤1000∧dx≠a∧h.get? a=some (PySem.W.instObj C dx)∧
     ∃mA,h.Ns1 dx mA∧(∀f,W9 (fs.lookup f) (mA f))∧PySem.Within mA (fs.map (·.1))
 | .own _=>∃o,h.get? a=some o
 | .xd fs=>∃mA,h.Ns1 a mA∧∀f,W9 (fs.lookup f) (mA f)
 | .rng lo hi=>∃t u v,h.get? a=some {cls:= .type "range",data:= .fields #[.int lo t,.int hi u,.int 1 v]}
 | .frz o u=>h.get? a=some o∧q0 H h a u
 | .tbl ps=>h.get? a=some {cls:= .none,data:= .fields ps}
 | .met f x=>h.get? a=some (PySem.W.methodObj (.ref f) (.ref x))
 | .ext φ=>φ h∧(∃o,h.get? a=some o)∧∀h1 h2:Heap,φ h1→(∀o,h1.get? a=some o→h2.get? a=some o)→φ h2
def E5 (H:Hp)(h:Heap):Prop:=∀a o,H a=some o→q0 P w H h a o
end
section
variable {P:Program} {w:World} {H H':Hp} {h h':Heap} {a:Addr} {o:HO}
theorem q0.lt (x:q0 P w H h a o):a < h.objs.size:=by
 cases o with
 |lst xs=>obtain ⟨_,_,_,_,e⟩:=x;exact Heap.lt_size e
 |tup xs=>obtain ⟨_,_,_,p⟩:=x;exact p.lt
 |dK kvs=>obtain ⟨_,_,_,_,o,_,_,e,_⟩:=x;exact Heap.lt_size e
 |dT kvs=>obtain ⟨_,_,_,_,o,_,_,e,_⟩:=x;exact Heap.lt_size e
 |set S n=>obtain ⟨o,_,_,_,e,_⟩:=x;exact Heap.lt_size e
 |ins C dx fs=>obtain ⟨_,_,_,e,_⟩:=x;exact Heap.lt_size e
 |own y=>obtain ⟨_,e⟩:=x;exact Heap.lt_size e
 |xd fs=>obtain ⟨_,⟨_,_,_,e,_⟩,_⟩:=x;exact Heap.lt_size e
 |rng lo hi=>obtain ⟨_,_,_,e⟩:=x;exact Heap.lt_size e
 |frz ob u=>obtain ⟨e,_⟩:=x;exact Heap.lt_size e
 |tbl ps=>exact Heap.lt_size (show h.get? a=some _ from x)
 |met f y=>exact Heap.lt_size (show h.get? a=some _ from x)
 |ext φ=>obtain ⟨_,⟨_,e⟩,_⟩:=x;exact Heap.lt_size e
theorem Paired.mapP {α β:Type}{F G:α→β→Prop}:∀{l₁:List α} {l₂:List β},Paired F l₁ l₂→(∀a b,F a b→G a b)→Paired G l₁ l₂
 |_,_,.nil,_=> .nil
 |_,_,.cons r t,f=> .cons (f _ _ r) (Paired.mapP t f)
theorem q0.stay (x:q0 P w H h a o)(k:∀b u,(b=a∨H b=some (.own a))→h.get? b=some u→h'.get? b=some u)
   (ho:∀b,H b=some (.own a)→H' b=some (.own a)) (ht:∀b xs,H b=some (.tup xs)→H' b=some (.tup xs)):q0 P w H' h' a o:=by
 induction o with
 |lst xs=>obtain ⟨z,its,n,r,e⟩:=x;exact ⟨z,its,n,r,k _ _ (.inl rfl) e⟩
 |tup xs=>obtain ⟨z,its,r,ob,e,c⟩:=x;exact ⟨z,its,r,ob,k _ _ (.inl rfl) e,c⟩
 |dK kvs=>obtain ⟨z,y,vs,r,ob,es,ep,e,c⟩:=x;exact ⟨z,y,vs,r,ob,es,ep,k _ _ (.inl rfl) e,c⟩
 |dT kvs=>
  obtain ⟨z,y,xs,r,ob,es,ep,e,c⟩:=x
  exact ⟨z,y,xs,Paired.mapP r fun p q z=>⟨z.1,ht _ _ z.2.1,z.2.2⟩,ob,es,ep,k _ _ (.inl rfl) e,c⟩
 |set S n=>obtain ⟨ob,es,ep,t,e,c⟩:=x;exact ⟨ob,es,ep,t,k _ _ (.inl rfl) e,c⟩
 |ins C dx fs=>
  obtain ⟨d,z,ne,e,mA,⟨od,es,ep,e2,c⟩,r⟩:=x
  exact ⟨ho _ d,z,ne,k _ _ (.inl rfl) e,mA,⟨od,es,ep,k _ _ (.inr d) e2,c⟩,r⟩
 |own y=>obtain ⟨ob,e⟩:=x;exact ⟨ob,k _ _ (.inl rfl) e⟩
 |xd fs=>obtain ⟨mA,⟨od,es,ep,e,c⟩,r⟩:=x;exact ⟨mA,⟨od,es,ep,k _ _ (.inl rfl) e,c⟩,r⟩
 |rng lo hi=>obtain ⟨t,u,v,e⟩:=x;exact ⟨t,u,v,k _ _ (.inl rfl) e⟩
 |frz ob u ih=>obtain ⟨e,q⟩:=x;exact ⟨k _ _ (.inl rfl) e,ih q⟩
 |tbl ps=>
  have e:h.get? a=some {cls:= .none,data:= .fields ps}:=x
  show h'.get? a=some {cls:= .none,data:= .fields ps}
  exact k a _ (.inl rfl) e
 |met f y=>
  have e:h.get? a=some (PySem.W.methodObj (.ref f) (.ref y)):=x
  show h'.get? a=some (PySem.W.methodObj (.ref f) (.ref y))
  exact k a _ (.inl rfl) e
 |ext φ=>obtain ⟨p,⟨o,e⟩,st⟩:=x;exact ⟨st _ _ p fun o q=>k _ _ (.inl rfl) q,⟨o,k _ _ (.inl rfl) e⟩,st⟩
theorem E5.lt (x:E5 P w H h)(e:H a=some o):a < h.objs.size:=(x a o e).lt
theorem E5.fresh (x:E5 P w H h)(e:h.objs.size≤a):H a=none:=by
 cases q:H a with
 |none=>rfl
 |some u=>exact absurd (dj9 (x.lt q) e) (dn3 _)
theorem E5.kept (x:E5 P w H h)(k:∀b u,h.get? b=some u→h'.get? b=some u):E5 P w H h':=fun a o e=>
 (x a o e).stay (fun b u _ q=>k b u q) (fun _ q=>q) fun _ _ q=>q
theorem E5.laid (x:E5 P w H h)(k:∀b u,h.get? b=some u→h'.get? b=some u)(hp:h.objs.size≤a)(new:q0 P w (e7 H a o) h' a o):E5 P w (e7 H a o) h':=fun b u e=>by
 have hn:=x.fresh hp
 by_cases hb:b=a
 · subst hb;rw[c8] at e;cases e;exact new
 · rw[g8 hb] at e
   exact (x b u e).stay (fun c v _ q=>k c v q) (fun c q=>by rw[g8 (g6 q hn)];exact q) fun c xs q=>by rw[g8 (g6 q hn)];exact q
end
def Rd (H:Hp)(a:Addr)(u:HO):Prop:=H a=some u∨∃o,H a=some (.frz o u)
theorem Rd.ok {P:Program}{w:World}{H:Hp}{h:Heap}{a:Addr}{u:HO}(r:Rd H a u)(x:E5 P w H h):q0 P w H h a u:=by
 rcases r with r|⟨o,r⟩
 · exact x a u r
 · obtain ⟨_,q⟩:=x a _ r
   exact q
def Mut:Option HO→Prop
 |some (.lst _)=>True
 |some (.dK _)=>True
 |some (.dT _)=>True
 |some (.set _ _)=>True
 |some (.ins _ _ _)=>True
 |some (.ext _)=>True
 |_=>False
section
variable {P:Program} {w:World} {H:Hp} {h h':Heap} {x e:Addr} {o':HO}
theorem E5.write (ok:E5 P w H h)(mu:Mut (H x))(he:e=x∨H e=some (.own x))(k:∀b u,b≠e→h.get? b=some u→h'.get? b=some u)(heo:∃u,h'.get? e=some u)
   (new:q0 P w (e7 H x o') h' x o'):E5 P w (e7 H x o') h':=fun b u q=>by
 have nown:∀c y,H c=some (.own y)→c≠x:=fun c y r z=>by subst z;rw[r] at mu;exact mu
 have ntup:∀c xs,H c=some (.tup xs)→c≠x:=fun c xs r z=>by subst z;rw[r] at mu;exact mu
 by_cases hb:b=x
 · subst hb;rw[c8] at q;cases q;exact new
 · rw[g8 hb] at q
   by_cases hbe:b=e
   · have q':H b=some (.own x):=by
       rcases he with z|z
       · exact absurd (hbe.trans z) hb
       · rw[hbe];exact z
     rw[q] at q';cases q'
     obtain ⟨v,hv⟩:=heo
     exact ⟨v,by rw[hbe];exact hv⟩
   · refine (ok b u q).stay (fun c v hc r=>k c v ?_ r) (fun c r=>by rw[g8 (nown c b r)];exact r) fun c xs r=>by rw[g8 (ntup c xs r)];exact r
     rcases hc with rfl|hc
     · exact hbe
     · rintro rfl
       rcases he with z|z
       · exact nown c b hc z
       · rw[hc] at z;cases z;exact hb rfl
end
structure Un (fs ex:List Addr)(H H':Hp)(h h':Heap):Prop where
 keep:∀b o,h.get? b=some o→H b=none→b∉fs→b∉ex→h'.get? b=some o
 slot:∀b o,h.get? b=some o→H b=none→b∈fs→b∉ex→∃sl,h'.get? b=some {o with slots:=sl}
 free:∀b o,h.get? b=some o→H b=none→b∉ex→H' b=none
 there:∀b o,h.get? b=some o→b∉ex→∃o',h'.get? b=some o'
 tups:∀b xs,H b=some (.tup xs)→H' b=some (.tup xs)
 frzs:∀b o u,H b=some (.frz o u)→H' b=some (.frz o u)
 tbls:∀b ps,H b=some (.tbl ps)→∃more,H' b=some (.tbl (ps++more))
section
variable {fs fs' ex ex':List Addr} {H H1 H2:Hp} {h h1 h2 h':Heap} {a x e:Addr} {o:HO}
theorem Un.any (u:Un fs ex H H1 h h1){b:Addr}{ob:Obj}(q:h.get? b=some ob)(n:H b=none)(hx:b∉ex):∃sl,h1.get? b=some {ob with slots:=sl}:=by
 by_cases hb:b∈fs
 · exact u.slot b ob q n hb hx
 · exact ⟨ob.slots,u.keep b ob q n hb hx⟩
theorem Un.kept (k:∀b u,h.get? b=some u→h'.get? b=some u):Un fs ex H H h h':=
 ⟨fun b ob q _ _ _=>k b ob q,fun b ob q _ _ _=>⟨ob.slots,k b ob q⟩,fun _ _ _ n _=>n,fun b ob q _=>⟨ob,k b ob q⟩,fun _ _ q=>q,fun _ _ _ q=>q,fun _ ps q=>⟨#[],by rw[q];simp⟩⟩
theorem Un.refl:Un fs ex H H h h:=Un.kept fun _ _ q=>q
theorem Un.laid (k:∀b u,h.get? b=some u→h'.get? b=some u)(hp:h.objs.size≤a)(hn:H a=none):Un fs ex H (e7 H a o) h h' where
 keep:=fun b u q _ _ _=>k b u q
 slot:=fun b u q _ _ _=>⟨u.slots,k b u q⟩
 free:=fun b u q n _=>by rw[g8 (dk1 (dj9 (Heap.lt_size q) hp))];exact n
 there:=fun b u q _=>⟨u,k b u q⟩
 tups:=fun b xs q=>by rw[g8 (g6 q hn)];exact q
 frzs:=fun b u xs q=>by rw[g8 (g6 q hn)];exact q
 tbls:=fun b ps q=>⟨#[],by rw[g8 (g6 q hn),q];simp⟩
theorem Un.write (mu:Mut (H x))(he:e=x∨H e=some (.own x))(k:∀b u,b≠e→h.get? b=some u→h'.get? b=some u)(heo:∃u,h'.get? e=some u):Un fs ex H (e7 H x o) h h':=by
 have hx:∀b,H b=none→b≠x:=fun b n z=>by subst z;rw[n] at mu;exact mu
 have hb:∀b,H b=none→b≠e:=fun b n z=>by
   subst z
   rcases he with r|r
   · exact hx b n r
   · rw[n] at r;cases r
 have hm:∀b u,H b=some u→¬Mut (some u)→b≠x:=fun b u q nm z=>by subst z;rw[q] at mu;exact nm mu
 refine ⟨fun b u q n _ _=>k b u (hb b n) q,fun b u q n _ _=>⟨u.slots,k b u (hb b n) q⟩,fun b u q n _=>by rw[g8 (hx b n)];exact n,fun b u q _=> ?_,
   fun b xs q=>by rw[g8 (hm b _ q fun z=>z)];exact q,fun b u xs q=>by rw[g8 (hm b _ q fun z=>z)];exact q,fun b ps q=>⟨#[],by rw[g8 (hm b _ q fun z=>z),q];simp⟩⟩
 by_cases hbe:b=e
 · subst hbe;exact heo
 · exact ⟨u,k b u hbe q⟩
end
def trk (h:Heap)(H:Hp):List Addr:=(dj6 h.objs.size).filter fun a=>(H a).isSome
def ad6 (h:Heap)(H:Hp):Heap:=PySem.W.hideAll h (trk h H)
theorem bw3 (h:Heap)(H:Hp):(ad6 h H).objs.size=h.objs.size:=PySem.W.hideAll_size _ _
theorem ce1 {h:Heap}{H:Hp}{b:Addr}{o:Obj}(e:h.get? b=some o)(n:H b=none):(ad6 h H).get? b=some o:=
 PySem.W.hideAll_get _ e fun hm=>by
   have q:(H b).isSome=true:=(dk7.mp hm).2
   rw[n] at q;simp at q
theorem ck6 {h:Heap}{H:Hp}{b:Addr}{o:Obj}(e:(ad6 h H).get? b=some o):h.get? b=some o∧H b=none:=by
 have e':h.get? b=some o:=PySem.W.of_hideAll (trk h H) e
 refine ⟨e',?_⟩
 cases q:H b with
 |none=>rfl
 |some x=>
  have hm:b∈trk h H:=dk7.mpr ⟨di9.mpr (Heap.lt_size e'),by simp [q]⟩
  have z:(ad6 h H).get? b=none:=PySem.W.hideAll_none (trk h H) hm
  rw[z] at e;cases e
end L2
namespace L2
open PySem PySem.Spec PyProof.Rows
structure Mod (K:PySem.W.Frag)(mg:Str→Option Value)(base:Heap):Prop where
 kin:K.In base
 glob:base.Ns mainGlobals mg
 blt:∃mb,base.Ns builtinsNs mb∧∀x:Str,x≠"__name__"→mb x=bootBuiltins x
 nolimit:base.NoLimit
structure Cx where
 prog:Program
 w:World
 K:PySem.W.Frag
 mg:Str→Option Value
 base:Heap
 A:Around
 N:List Str
 s₀:Shared
 H₀:Hp
 env:Env
 outer:List Env
 stack:List Env
 ex:List Addr
 fn:Str→Bool
 calm:Bool
 pn:List (Addr×Obj)
 xe:Value→Shared→Prop
def Z3 (l:List Env):List Addr:=l.filterMap (·.frame)
abbrev Cx.fs (X:Cx):List Addr:=Z3 X.outer
def Vis (sc:Scope)(x:Str):Prop:=sc.names.lookup x=some .local∨sc.names.lookup x=some .cell∨sc.names.lookup x=some .free
def Loc (sc:Scope)(x:Str):Prop:=sc.names.lookup x=some .local∨sc.names.lookup x=some .cell
def da6 (env:Env)(h:Heap)(m:Str→Option Value)(x:Str)(u:Value):Prop:=
 (env.kindOf x=some .local∧m x=some u)∨((env.kindOf x=some .cell∨env.kindOf x=some .free)∧∃c,env.cells.lookup x=some c∧h.IsCell c (some u))
structure Cx.Ok (X:Cx):Prop where
 mod:Mod X.K X.mg X.base
 kind:X.env.scope.kind= .function
 glob:X.env.globals=mainGlobals
 blt:X.env.builtins=builtinsNs
 above:X.s₀.heap.objs.size≤X.env.locals
 inj:∀x y c,X.env.cells.lookup x=some c→X.env.cells.lookup y=some c→x=y
 has:∀x,(X.env.kindOf x=some .cell∨X.env.kindOf x=some .free)→∃c,X.env.cells.lookup x=some c
 cab:∀x c,X.fn x=true→X.env.cells.lookup x=some c→X.s₀.heap.objs.size≤c
 hd:X.calm=true→X.A.handled=none
 frames:X.A.frames=some X.stack
 stk:X.stack=X.outer∨(X.stack=X.env::X.outer∧X.env.frame=some X.env.locals)
 exf:∀b∈X.ex,b≠X.env.locals∧∀x c,X.env.cells.lookup x=some c→c≠b
 bs:∀b o,X.base.get? b=some o→X.s₀.heap.get? b=some o∧X.H₀ b=none
 bsz:X.base.objs.size≤X.s₀.heap.objs.size
 noex:∀b o,X.base.get? b=some o→b∉X.ex
 exfs:∀b∈X.ex,b∉X.fs
 funs:X.s₀.heap.FunFrames X.base X.outer
 frf:∀b∈X.fs,X.H₀ b=none
structure g9 (X:Cx)(pins:List (Addr×Obj))(σ:List (Option V))(H:Hp)(s:Shared):Prop where
 ok:X.Ok
 os:s.os=X.s₀.os
 bare:AllBare s.gens
 base:Un X.fs X.ex X.H₀ H X.s₀.heap s.heap
 loc:∃m,s.heap.Ns X.env.locals m∧∀(i:Nat) (x:Str) (v:V),X.N[i]? =some x→σ[i]? =some (some v)→Vis X.env.scope x→∃u,m8 v u∧da6 X.env s.heap m x u
 cell:∀x c,X.env.cells.lookup x=some c→∃v,s.heap.IsCell c v
 free:H X.env.locals=none
 freeC:∀x c,X.env.cells.lookup x=some c→H c=none
 pin:∀p∈X.pn++pins,s.heap.get? p.1=some p.2∧H p.1=none∧p.1≠X.env.locals∧p.1∉X.fs∧∀v,p.2.data≠.cell v
 hok:E5 X.prog X.w H s.heap
 len:σ.length=X.N.length
section
variable {X:Cx} {pins:List (Addr×Obj)} {σ:List (Option V)} {H H':Hp} {s:Shared} {h':Heap}
theorem Cx.Ok.nofr (ok:X.Ok){b:Addr}{o:Obj}(e:X.base.get? b=some o):b∉X.fs:=fun hb=>by
 have:=(ok.funs.mem hb).1
 rw[e] at this;cases this
theorem g9.bs (I:g9 X pins σ H s):∀b o,X.base.get? b=some o→s.heap.get? b=some o∧H b=none:=fun b o e=>
 ⟨I.base.keep b o (I.ok.bs b o e).1 (I.ok.bs b o e).2 (I.ok.nofr e) (I.ok.noex b o e),I.base.free b o (I.ok.bs b o e).1 (I.ok.bs b o e).2 (I.ok.noex b o e)⟩
theorem g9.bk (I:g9 X pins σ H s):∀b o,X.base.get? b=some o→s.heap.get? b=some o:=fun b o e=>(I.bs b o e).1
theorem g9.mod (I:g9 X pins σ H s):Mod X.K X.mg X.base:=I.ok.mod
theorem g9.kIn (I:g9 X pins σ H s):X.K.In s.heap:=I.ok.mod.kin.keeps I.bk
theorem g9.lt (I:g9 X pins σ H s):X.env.locals < s.heap.objs.size:=let ⟨_,hn,_⟩:=I.loc;hn.lt
theorem g9.sz (I:g9 X pins σ H s):X.s₀.heap.objs.size≤s.heap.objs.size:=dg5 I.ok.above (dl0 I.lt)
theorem g9.nofs (I:g9 X pins σ H s){a:Addr}(h:s.heap.objs.size≤a):a∉X.fs:=fun hb=>by
 obtain ⟨_,o,ho,_⟩:=I.ok.funs.mem hb
 exact absurd (dj9 (Heap.lt_size ho) (dg5 I.sz h)) (dn3 _)
theorem g9.cne (I:g9 X pins σ H s):∀x c,X.env.cells.lookup x=some c→c≠X.env.locals:=fun x c e z=>by
 obtain ⟨v,o,ho,hd⟩:=I.cell x c e
 obtain ⟨m,⟨o',es,ep,ho',hd',_⟩,_⟩:=I.loc
 rw[z,ho'] at ho;cases ho;rw[hd'] at hd;cases hd
theorem g9.funs (I:g9 X pins σ H s):s.heap.FunFrames X.base X.outer:=by
 have all:∀(l:List Env),(∀b∈Z3 l,b∈X.fs)→X.s₀.heap.FunFrames X.base l→s.heap.FunFrames X.base l:=by
   intro l
   induction l with
   |nil=>intro _ _;trivial
   |cons env r ih=>
    intro hs hl
    obtain ⟨hk,⟨L,o,hf,hn,ho,hd⟩,hr⟩:=hl
    have hL:L∈X.fs:=hs L (by unfold Z3;rw[dw1,hf];exact df4)
    obtain ⟨sl,e⟩:=I.base.slot L o ho (I.ok.frf L hL) hL fun z=>I.ok.exfs L z hL
    exact ⟨hk,⟨L,_,hf,hn,e,hd⟩,ih (fun b hb=>hs b (by unfold Z3;rw[dw1,hf];exact df6 _ hb)) hr⟩
 exact all X.outer (fun _ hb=>hb) I.ok.funs
theorem g9.stack (I:g9 X pins σ H s):s.heap.FunFrames X.base X.stack:=by
 rcases I.ok.stk with e|⟨e,hf⟩
 · rw[e];exact I.funs
 · rw[e]
   obtain ⟨m,hn,_⟩:=I.loc
   refine .cons (by rw[I.ok.kind];decide) hf hn ?_ I.funs
   exact Heap.get?_none_of_le (dg5 I.ok.bsz I.ok.above)
theorem g9.stkSub (I:g9 X pins σ H s):∀b∈Z3 X.stack,b∈X.env.locals::X.fs:=fun b hb=>by
 rcases I.ok.stk with e|⟨e,hf⟩
 · rw[e] at hb;exact df6 _ hb
 · rw[e] at hb
   unfold Z3 at hb
   rw[dw1,hf] at hb
   exact hb
theorem g9.stkFree (I:g9 X pins σ H s):∀b∈Z3 X.stack,H b=none:=fun b hb=>by
 rcases dg9.mp (I.stkSub b hb) with e|hb
 · rw[e];exact I.free
 · obtain ⟨_,o,ho,_⟩:=I.ok.funs.mem hb
   exact I.base.free b o ho (I.ok.frf b hb) fun z=>I.ok.exfs b z hb
theorem g9.step {g':Array GenState}{t':Nat}{d':Drawn}{ch:List Addr}(I:g9 X pins σ H s)
   (hch:∀b∈ch,(b∈X.ex∨X.s₀.heap.objs.size≤b)∧b≠X.env.locals∧(∀x c,X.env.cells.lookup x=some c→c≠b)∧∀p∈X.pn++pins,p.1≠b)
   (keep:∀b o,b≠X.env.locals→b∉X.fs→b∉ch→s.heap.get? b=some o→H b=none→h'.get? b=some o)
   (slot:∀b o,b≠X.env.locals→b∈X.fs→b∉ch→s.heap.get? b=some o→H b=none→∃sl,h'.get? b=some {o with slots:=sl}) (free:∀b o,b∉ch→s.heap.get? b=some o→H b=none→H' b=none)
   (there:∀b o,b∉ch→s.heap.get? b=some o→∃o',h'.get? b=some o')
   (tups:∀b xs,H b=some (.tup xs)→H' b=some (.tup xs)) (frzs:∀b o u,H b=some (.frz o u)→H' b=some (.frz o u)) (tbls:∀b ps,H b=some (.tbl ps)→∃more,H' b=some (.tbl (ps++more)))
   (ns:∀m,s.heap.Ns X.env.locals m→h'.Ns X.env.locals m) (hok:E5 X.prog X.w H' h') (hg:AllBare g'):
   g9 X pins σ H' {s with heap:=h',gens:=g',drawn:=d',toks:=t'}:=by
 have neL:∀b o,X.s₀.heap.get? b=some o→b≠X.env.locals:=fun b o e=>dk1 (dj9 (Heap.lt_size e) I.ok.above)
 have neC:∀b o,X.s₀.heap.get? b=some o→b∉X.ex→b∉ch:=fun b o e hx hb=>by
   rcases (hch b hb).1 with z|z
   · exact hx z
   · exact absurd (dj9 (Heap.lt_size e) z) (dn3 _)
 have cellK:∀x c,X.env.cells.lookup x=some c→∀v,s.heap.IsCell c v→h'.IsCell c v:=fun x c e v ⟨o,ho,hd⟩=>by
   have nch:c∉ch:=fun z=>(hch c z).2.2.1 x c e rfl
   by_cases hc:c∈X.fs
   · obtain ⟨sl,q⟩:=slot c o (I.cne x c e) hc nch ho (I.freeC x c e)
     exact ⟨_,q,hd⟩
   · exact ⟨o,keep c o (I.cne x c e) hc nch ho (I.freeC x c e),hd⟩
 refine ⟨I.ok,I.os,hg,⟨fun b o e n hb hx=> ?_,fun b o e n hb hx=> ?_,fun b o e n hx=> ?_,fun b o e hx=> ?_,fun b xs e=>tups b xs (I.base.tups b xs e),fun b o xs e=>frzs b o xs (I.base.frzs b o xs e),fun b ps e=> ?_⟩,?_,fun x c e=> ?_,?_,fun x c e=> ?_,fun p hp=> ?_,hok,I.len⟩
 · exact keep b o (neL b o e) hb (neC b o e hx) (I.base.keep b o e n hb hx) (I.base.free b o e n hx)
 · obtain ⟨sl,e1⟩:=I.base.slot b o e n hb hx
   obtain ⟨sl',e2⟩:=slot b _ (neL b o e) hb (neC b o e hx) e1 (I.base.free b o e n hx)
   exact ⟨sl',e2⟩
 · obtain ⟨o',e1⟩:=I.base.there b o e hx
   exact free b o' (neC b o e hx) e1 (I.base.free b o e n hx)
 · obtain ⟨o',e1⟩:=I.base.there b o e hx
   exact there b o' (neC b o e hx) e1
 · obtain ⟨m1,e1⟩:=I.base.tbls b ps e
   obtain ⟨m2,e2⟩:=tbls b _ e1
   exact ⟨m1++m2,by rw[e2,Array.append_assoc]⟩
 · obtain ⟨m,hn,hl⟩:=I.loc
   refine ⟨m,ns m hn,fun i x v e1 e2 e3=> ?_⟩
   obtain ⟨u,r,l⟩:=hl i x v e1 e2 e3
   refine ⟨u,r,?_⟩
   rcases l with l|⟨k,c,e,z⟩
   · exact .inl l
   · exact .inr ⟨k,c,e,cellK x c e _ z⟩
 · obtain ⟨v,z⟩:=I.cell x c e
   exact ⟨v,cellK x c e v z⟩
 · obtain ⟨m,⟨o,_,_,ho,_⟩,_⟩:=I.loc
   exact free _ o (fun z=>(hch _ z).2.1 rfl) ho I.free
 · obtain ⟨v,o,ho,hd⟩:=I.cell x c e
   exact free c o (fun z=>(hch c z).2.2.1 x c e rfl) ho (I.freeC x c e)
 · obtain ⟨e,n,ne,nf,d⟩:=I.pin p hp
   have nch:p.1∉ch:=fun z=>(hch p.1 z).2.2.2 p hp rfl
   exact ⟨keep p.1 p.2 ne nf nch e n,free p.1 p.2 nch e n,ne,nf,d⟩
theorem g9.un {t':Nat}(I:g9 X pins σ H s)(u:Un X.fs [] H H' s.heap h')(hok:E5 X.prog X.w H' h'):g9 X pins σ H' {s with heap:=h',toks:=t'}:=by
 obtain ⟨m,⟨o,es,ep,ho,r⟩,_⟩:=id I.loc
 obtain ⟨sl,hL⟩:=u.any ho I.free (by simp)
 exact I.step (g':=s.gens) (d':=s.drawn) (ch:=[]) (fun _ z=>nomatch z) (fun b o _ hb _ e n=>u.keep b o e n hb (by simp)) (fun b o _ hb _ e n=>u.slot b o e n hb (by simp)) (fun b o _ e n=>u.free b o e n (by simp)) (fun b o _ e=>u.there b o e (by simp)) u.tups u.frzs u.tbls (fun m' hm=>by
   obtain ⟨o',es',ep',ho',r'⟩:=hm
   rw[ho] at ho';cases ho'
   exact ⟨_,es',ep',hL,r'⟩) hok I.bare
theorem g9.call {g':Array GenState}{t':Nat}{d':Drawn}{ch:List Addr}(I:g9 X pins σ H s)(u:Un (Z3 X.stack) ch H H' s.heap h')(hok:E5 X.prog X.w H' h')(hg:AllBare g')
   (hch:∀b∈ch,(b∈X.ex∨X.s₀.heap.objs.size≤b)∧b≠X.env.locals∧(∀x c,X.env.cells.lookup x=some c→c≠b)∧∀p∈X.pn++pins,p.1≠b):
   g9 X pins σ H' {s with heap:=h',gens:=g',drawn:=d',toks:=t'}:=by
 obtain ⟨m,⟨o,es,ep,ho,r⟩,_⟩:=id I.loc
 obtain ⟨sl,hL⟩:=u.any ho I.free fun z=>(hch _ z).2.1 rfl
 exact I.step (ch:=ch) hch (fun b o hL hb hc e n=>u.keep b o e n (fun z=>(dg9.mp (I.stkSub b z)).elim hL hb) hc) (fun b o _ _ hc e n=>u.any e n hc) (fun b o hc e n=>u.free b o e n hc) (fun b o hc e=>u.there b o e hc) u.tups u.frzs u.tbls (fun m' hm=>by
   obtain ⟨o',es',ep',ho',r'⟩:=hm
   rw[ho] at ho';cases ho'
   exact ⟨_,es',ep',hL,r'⟩) hok hg
theorem g9.turned {t':Nat}{it:Addr}(I:g9 X pins σ H s)(k:∀b o,b≠it→s.heap.get? b=some o→h'.get? b=some o)(hn:H it=none)(hL:it≠X.env.locals)
   (h1:it∈X.ex∨X.s₀.heap.objs.size≤it) (h2:∀x c,X.env.cells.lookup x=some c→c≠it) (h3:∀p∈X.pn++pins,p.1≠it):g9 X pins σ H {s with heap:=h',toks:=t'}:=by
 have nit:∀b u,H b=some u→b≠it:=fun b u e z=>by rw[z,hn] at e;cases e
 refine I.step (g':=s.gens) (d':=s.drawn) (ch:=[it]) (fun b hb=> ?_) (fun b o _ _ hc e _=>k b o (fun z=>hc (by simp [z])) e) (fun b o _ _ hc e _=>⟨o.slots,k b o (fun z=>hc (by simp [z])) e⟩) (fun _ _ _ _ n=>n)
   (fun b o hc e=>⟨o,k b o (fun z=>hc (by simp [z])) e⟩) (fun _ _ e=>e) (fun _ _ _ e=>e) (fun b ps e=>⟨#[],by rw[e];simp⟩) (fun m hm=> ?_) (fun b u e=> ?_) I.bare
 · have e:b=it:=by simpa using hb
   subst e
   exact ⟨h1,hL,h2,h3⟩
 · obtain ⟨o,es,ep,ho,r⟩:=hm
   exact ⟨o,es,ep,k _ o (Ne.symm hL) ho,r⟩
 · refine (I.hok b u e).stay (fun c v hc q=>k c v ?_ q) (fun _ q=>q) fun _ _ q=>q
   rcases hc with z|z
   · rw[z];exact nit b u e
   · exact nit c _ z
theorem g9.tok (I:g9 X pins σ H s)(t:Nat):g9 X pins σ H {s with toks:=t}:=I.un (h':=s.heap) (t':=t) Un.refl I.hok
theorem g9.kept {t':Nat}(I:g9 X pins σ H s)(k:∀b u,s.heap.get? b=some u→h'.get? b=some u):g9 X pins σ H {s with heap:=h',toks:=t'}:=I.un (Un.kept k) (I.hok.kept k)
theorem g9.laid {a:Addr}{o:HO}{t':Nat}(I:g9 X pins σ H s)(k:∀b u,s.heap.get? b=some u→h'.get? b=some u)(hp:s.heap.objs.size≤a)(new:q0 X.prog X.w (e7 H a o) h' a o):
 g9 X pins σ (e7 H a o) {s with heap:=h',toks:=t'}:=I.un (Un.laid k hp (I.hok.fresh hp)) (I.hok.laid k hp new)
theorem g9.write {x e:Addr}{o:HO}{t':Nat}(I:g9 X pins σ H s)(mu:Mut (H x))(he:e=x∨H e=some (.own x))(k:∀b u,b≠e→s.heap.get? b=some u→h'.get? b=some u)(heo:∃u,h'.get? e=some u)
 (new:q0 X.prog X.w (e7 H x o) h' x o):g9 X pins σ (e7 H x o) {s with heap:=h',toks:=t'}:=I.un (Un.write mu he k heo) (I.hok.write mu he k heo new)
theorem g9.pins_of {pins':List (Addr×Obj)}(I:g9 X pins σ H s)(h:∀p∈pins',s.heap.get? p.1=some p.2∧H p.1=none∧p.1≠X.env.locals∧p.1∉X.fs∧∀v,p.2.data≠.cell v):g9 X pins' σ H s:=
 ⟨I.ok,I.os,I.bare,I.base,I.loc,I.cell,I.free,I.freeC,fun p hp=>(dg2.mp hp).elim (fun z=>I.pin p (dk4 _ z)) (h p),I.hok,I.len⟩
theorem be1 {N:List Str}(hN:N.Nodup){i j:Nat}{x:Str}(a:N[i]? =some x)(b:N[j]? =some x):i=j:=by
 obtain ⟨h1,e1⟩:=df1.mp a
 obtain ⟨h2,e2⟩:=df1.mp b
 exact (List.getElem_inj hN).mp (e1.trans e2.symm)
theorem az6 {M:Model}{A:Around}{E:Value→Shared→Prop}{i:Nat}{x:Str}{v:V}{u:Value}{Q:Unit→Shared→Prop}(I:g9 X pins σ H s)(hN:X.N.Nodup)(hi:X.N[i]? =some x)(hx:Loc X.env.scope x)(r:m8 v u)
   (h:∀s',g9 X pins (σ.set i (some v)) H s'→(∃a,Heap.SameBut a s.heap s'.heap∧(a=X.env.locals∨X.env.cells.lookup x=some a))→Q () s') (hf:X.fn x=true∨X.env.scope.names.lookup x=some .local:=by first|exact .inl rfl|exact .inr rfl|assumption):wpAny M A (storeName X.env x u) Q E s:=by
 obtain ⟨m,hn,hl⟩:=id I.loc
 have hcls:(X.env.scope.kind== .class||(X.env.scope.kind== .module&&X.env.locals !=X.env.globals))=false:=by rw[I.ok.kind];rfl
 have hiσ:i < σ.length:=by rw[I.len];exact (df1.mp hi).1
 have cne:=I.cne
 have tracked:∀{a:Addr} {h':Heap},(∃o,s.heap.get? a=some o∧H a=none)→Heap.SameBut a s.heap h'→E5 X.prog X.w H h':=fun {a h'} ha hs b ob e=>by
   obtain ⟨_,_,hfree⟩:=ha
   refine (I.hok b ob e).stay (fun c w' hc q=>(hs.2 c ?_).trans q) (fun _ q=>q) fun _ _ q=>q
   rintro rfl
   rcases hc with rfl|hc
   · rw[hfree] at e;cases e
   · rw[hfree] at hc;cases hc
 rcases hx with hk|hk
 · refine wpAny_storeName_local hk hn (fun h' hn' hs=> ?_) hcls
   obtain ⟨oL,_,_,hoL,_⟩:=id hn
   refine h _ ⟨I.ok,I.os,I.bare,⟨fun b o e n hb hx=> ?_,fun b o e n hb hx=> ?_,I.base.free,fun b o e hx=> ?_,I.base.tups,I.base.frzs,I.base.tbls⟩,⟨_,hn',fun j y v' e1 e2 e3=> ?_⟩,fun y c e=> ?_,I.free,I.freeC,fun p hp=> ?_,tracked ⟨oL,hoL,I.free⟩ hs,by simpa using I.len⟩ ⟨_,hs,.inl rfl⟩
   · exact (hs.2 b (dk1 (dj9 (Heap.lt_size e) I.ok.above))).trans (I.base.keep b o e n hb hx)
   · obtain ⟨sl,e1⟩:=I.base.slot b o e n hb hx
     exact ⟨sl,(hs.2 b (dk1 (dj9 (Heap.lt_size e) I.ok.above))).trans e1⟩
   · obtain ⟨o',e1⟩:=I.base.there b o e hx
     exact ⟨o',(hs.2 b (dk1 (dj9 (Heap.lt_size e) I.ok.above))).trans e1⟩
   · by_cases hj:j=i
     · subst hj
       rw[hi] at e1;cases e1
       rw[du2 hiσ] at e2
       cases e2
       exact ⟨u,r,.inl ⟨hk,by simp⟩⟩
     · rw[dv3 (Ne.symm hj)] at e2
       obtain ⟨u',r',q⟩:=hl j y v' e1 e2 e3
       refine ⟨u',r',?_⟩
       rcases q with ⟨k,e⟩|⟨k,c,e,z⟩
       · refine .inl ⟨k,?_⟩
         have:y≠x:=fun e=>hj (be1 hN e1 (e▸hi))
         simp [this,e]
       · exact .inr ⟨k,c,e,z.sameBut hs (cne y c e)⟩
   · obtain ⟨w',z⟩:=I.cell y c e
     exact ⟨w',z.sameBut hs (cne y c e)⟩
   · obtain ⟨e,n,ne,nf,d⟩:=I.pin p hp
     exact ⟨(hs.2 p.1 ne).trans e,n,ne,nf,d⟩
 · have hfn:X.fn x=true:=by
     rcases hf with z|z
     · exact z
     · rw[z] at hk;cases hk
   obtain ⟨c,hc⟩:=I.ok.has x (.inl hk)
   obtain ⟨w',z⟩:=I.cell x c hc
   refine wpAny_storeName_cell I.ok.kind hk hc z (fun h' hc' hs=> ?_)
   obtain ⟨oc,hoc,hocd⟩:=id z
   refine h {s with heap:=h'} ⟨I.ok,I.os,I.bare,⟨fun b o e n hb hx=> ?_,fun b o e n hb hx=> ?_,I.base.free,fun b o e hx=> ?_,I.base.tups,I.base.frzs,I.base.tbls⟩,⟨m,hn.sameBut hs (Ne.symm (cne x c hc)),fun j y v' e1 e2 e3=> ?_⟩,fun y c' e=> ?_,I.free,I.freeC,fun p hp=> ?_,tracked ⟨oc,hoc,I.freeC x c hc⟩ hs,by simpa using I.len⟩ ⟨c,hs,.inr hc⟩
   · exact (hs.2 b (dk1 (dj9 (Heap.lt_size e) (I.ok.cab x c hfn hc)))).trans (I.base.keep b o e n hb hx)
   · obtain ⟨sl,e1⟩:=I.base.slot b o e n hb hx
     exact ⟨sl,(hs.2 b (dk1 (dj9 (Heap.lt_size e) (I.ok.cab x c hfn hc)))).trans e1⟩
   · obtain ⟨o',e1⟩:=I.base.there b o e hx
     exact ⟨o',(hs.2 b (dk1 (dj9 (Heap.lt_size e) (I.ok.cab x c hfn hc)))).trans e1⟩
   · by_cases hj:j=i
     · subst hj
       rw[hi] at e1;cases e1
       rw[du2 hiσ] at e2
       cases e2
       exact ⟨u,r,.inr ⟨.inl hk,c,hc,hc'⟩⟩
     · rw[dv3 (Ne.symm hj)] at e2
       obtain ⟨u',r',q⟩:=hl j y v' e1 e2 e3
       refine ⟨u',r',?_⟩
       rcases q with q|⟨k,c',e,z'⟩
       · exact .inl q
       · refine .inr ⟨k,c',e,z'.sameBut hs ?_⟩
         rintro rfl
         exact hj (be1 hN e1 (I.ok.inj _ _ _ e hc▸hi))
   · by_cases hcc:c'=c
     · subst hcc;exact ⟨_,hc'⟩
     · obtain ⟨w2,z2⟩:=I.cell y c' e
       exact ⟨w2,z2.sameBut hs hcc⟩
   · obtain ⟨e,n,ne,nf,d⟩:=I.pin p hp
     refine ⟨(hs.2 p.1 ?_).trans e,n,ne,nf,d⟩
     intro q
     rw[q,hoc] at e
     have q':oc=p.2:=Option.some.inj e
     exact d w' (by rw[←q'];exact hocd)
theorem be2 {M:Model}{A:Around}{E:Value→Shared→Prop}{i:Nat}{x:Str}{v:V}{u:Value}{Q:Unit→Shared→Prop}(I:g9 X pins σ H s)(hN:X.N.Nodup)(hi:X.N[i]? =some x)(hx:Loc X.env.scope x)(r:m8 v u)
   (h:∀s',g9 X pins (σ.set i (some v)) H s'→Q () s') (hf:X.fn x=true∨X.env.scope.names.lookup x=some .local:=by first|exact .inl rfl|exact .inr rfl|assumption):wpAny M A (storeName X.env x u) Q E s:=
 az6 I hN hi hx r (fun s' I' _=>h s' I') hf
theorem g9.call' {s':Shared}{ch:List Addr}(I:g9 X pins σ H s)(ho:s'.os=s.os)(u:Un (Z3 X.stack) ch H H' s.heap s'.heap)(hok:E5 X.prog X.w H' s'.heap)(hg:AllBare s'.gens)
   (hch:∀b∈ch,(b∈X.ex∨X.s₀.heap.objs.size≤b)∧b≠X.env.locals∧(∀x c,X.env.cells.lookup x=some c→c≠b)∧∀p∈X.pn++pins,p.1≠b):g9 X pins σ H' s':=by
 obtain ⟨h',g',d',t',o'⟩:=s'
 have e:o'=s.os:=ho
 subst e
 exact I.call (g':=g') (t':=t') (d':=d') u hok hg hch
end
abbrev XK:=Value→Option Addr→Hp→Prop
abbrev St:=List (Option V)
abbrev VK:=V→Hp→Prop
abbrev TE:=St→Hp→VK→Prop
abbrev TT:=St→Hp→(Bool→Hp→Prop)→Prop
abbrev TA:=St→Hp→(List V→Hp→Prop)→Prop
structure U8 where
 nx:St→Hp→Prop
 rt:VK
 bk:St→Hp→Prop:=fun _ _=>False
 ct:St→Hp→Prop:=fun _ _=>False
abbrev TS:=U8→St→Hp→Prop
def EP (X:Cx)(pins:List (Addr×Obj))(σ:St)(Q:VK)(u:Value)(s':Shared):Prop:=∃v H',g9 X pins σ H' s'∧m8 v u∧Q v H'
def TP (X:Cx)(pins:List (Addr×Obj))(σ:St)(Q:Bool→Hp→Prop)(b:Bool)(s':Shared):Prop:=∃H',g9 X pins σ H' s'∧Q b H'
def AP (X:Cx)(pins:List (Addr×Obj))(σ:St)(Q:List V→Hp→Prop)(us:List Value)(s':Shared):Prop:=∃vs H',g9 X pins σ H' s'∧j8 vs us∧Q vs H'
def SP (X:Cx)(pins:List (Addr×Obj))(D:U8)(f:Flow)(s':Shared):Prop:=
 match f with
 | .next=>∃σ' H',g9 X pins σ' H' s'∧D.nx σ' H'
 | .brk=>∃σ' H',g9 X pins σ' H' s'∧D.bk σ' H'
 | .cont=>∃σ' H',g9 X pins σ' H' s'∧D.ct σ' H'
 | .ret u=>∃v σ' H',g9 X pins σ' H' s'∧m8 v u∧D.rt v H'
def PE (X:Cx)(e:Expr)(t:TE):Prop:=
 ∀(pins:List (Addr×Obj)) (s:Shared) (σ:St) (H:Hp) (Q:VK),g9 X pins σ H s→t σ H Q→wpAny (model X.prog X.w) X.A (eval e X.env) (EP X pins σ Q) X.xe s
def PT (X:Cx)(e:Expr)(t:TT):Prop:=
 ∀(pins:List (Addr×Obj)) (s:Shared) (σ:St) (H:Hp) (Q:Bool→Hp→Prop),g9 X pins σ H s→t σ H Q→wpAny (model X.prog X.w) X.A (isTrue e X.env (eval e X.env)) (TP X pins σ Q) X.xe s
def PW (X:Cx)(e:Expr)(t:TT):Prop:=
 ∀(whole:Sem Value) (pins:List (Addr×Obj)) (s:Shared) (σ:St) (H:Hp) (Q:Bool→Hp→Prop),g9 X pins σ H s→t σ H Q→wpAny (model X.prog X.w) X.A (isTrue e X.env whole) (TP X pins σ Q) X.xe s
theorem PW.pt {X:Cx}{e:Expr}{t:TT}(h:PW X e t):PT X e t:=h _
def PA (X:Cx)(es:List Expr)(t:TA):Prop:=
 ∀(pos:Pos) (pins:List (Addr×Obj)) (s:Shared) (σ:St) (H:Hp) (Q:List V→Hp→Prop),g9 X pins σ H s→t σ H Q→wpAny (model X.prog X.w) X.A (spliced (backTo pos (starEach es X.env))) (AP X pins σ Q) X.xe s
def PS (X:Cx)(st:Stmt)(t:TS):Prop:=
 ∀(pins:List (Addr×Obj)) (s:Shared) (σ:St) (H:Hp) (D:U8),g9 X pins σ H s→t D σ H→wpAny (model X.prog X.w) X.A (exec st X.env) (SP X pins D) X.xe s
def PSs (X:Cx)(st:List Stmt)(t:TS):Prop:=
 ∀(pins:List (Addr×Obj)) (s:Shared) (σ:St) (H:Hp) (D:U8),g9 X pins σ H s→t D σ H→wpAny (model X.prog X.w) X.A (execs st X.env) (SP X pins D) X.xe s
theorem m7 {α:Type}{t:Sem α}{Q Q':α→Shared→Prop}{M:Model}{A:Around}{E:Value→Shared→Prop}{s:Shared}(h:wpAny M A t Q E s)(hQ:∀a s,Q a s→Q' a s):wpAny M A t Q' E s:=wpAny_mono h hQ fun _ _ x=>x
end L2
namespace L2
open PySem PySem.Spec PyProof.Rows
section
variable {X:Cx}
theorem bin {a b:Expr}{ta tb:TE}(ha:PE X a ta)(hb:PE X b tb){pins:List (Addr×Obj)}{s:Shared}{σ:St}{H:Hp}{R:V→V→Hp→Prop}(I:g9 X pins σ H s)(h:ta σ H fun x H1=>tb σ H1 fun y H2=>R x y H2)
   {α:Type} {Q:α→Shared→Prop} {f:Value→Value→Sem α}
   (hf:∀v u s2 x y H2,g9 X pins σ H2 s2→m8 x v→m8 y u→R x y H2→wpAny (model X.prog X.w) X.A (f v u) Q X.xe s2):
   wpAny (model X.prog X.w) X.A (eval a X.env) (fun v s₁=>wpAny (model X.prog X.w) X.A (eval b X.env) (fun u s₂=>wpAny (model X.prog X.w) X.A (f v u) Q X.xe s₂) X.xe s₁) X.xe s:=by
 refine m7 (ha pins s σ H _ I h) fun v s1 ⟨x,H1,I1,r1,q1⟩=> ?_
 refine m7 (hb pins s1 σ H1 _ I1 q1) fun u s2 ⟨y,H2,I2,r2,q2⟩=> ?_
 exact hf v u s2 x y H2 I2 r1 r2 q2
def cp6 (i:Nat):TE:=fun σ H Q=>∃v,σ[i]? =some (some v)∧Q v H
def tC (v:V):TE:=fun _ H Q=>Q v H
theorem cp7 {i:Nat}{x:Str}{pos:Pos}(hN:X.N[i]? =some x)(hv:Vis X.env.scope x)(hd:(x==("__debug__":Str))=false:=by decide)(hcd:(x==("__classdict__":Str))=false:=by decide):PE X (.Name x pos) (cp6 i):=by
 intro pins s σ H Q I h
 obtain ⟨v,e,h⟩:=h
 obtain ⟨m,hn,hl⟩:=I.loc
 obtain ⟨u,r,l⟩:=hl i x v hN e hv
 have fin:EP X pins σ Q u s:=⟨v,H,I,r,h⟩
 rcases l with ⟨hk,hm⟩|⟨hk,c,hc,hcell⟩
 · exact wpAny_Name (wpAny_loadName_local I.ok.kind hk hn hm fin) hd
 · rcases hk with hk|hk
   · exact wpAny_Name (wpAny_loadName_cell I.ok.kind hk hc hcell fin) hd
   · exact wpAny_Name (wpAny_loadName_free I.ok.kind hk hc hcell fin hcd) hd
theorem h7 {i j pos}:PE X (.Constant (.int i) j pos) (tC (.int i)):=fun _ _ _ H _ I h=>wpAny_Constant_int ⟨.int i,H,I.tok _,⟨_,rfl⟩,h⟩
theorem P2 {b j pos}:PE X (.Constant (.bool b) j pos) (tC (.bl b)):=fun _ _ _ H _ I h=>Constant_bool ⟨.bl b,H,I,rfl,h⟩
theorem aq0 {j pos}:PE X (.Constant .none j pos) (tC .non):=fun _ _ _ H _ I h=>Constant_none ⟨.non,H,I,rfl,h⟩
theorem be3 {x j pos}:PE X (.Constant (.str x) j pos) (tC (.str x)):=fun _ _ _ H _ I h=>Calls.Constant_str ⟨.str x,H,I.tok _,⟨_,rfl⟩,h⟩
def Gl (X:Cx)(x:Str):Prop:=X.env.kindOf x=some .globalImplicit
theorem bn7 {E:Value→Shared→Prop}{pins:List (Addr×Obj)}{s:Shared}{σ:St}{H:Hp}{x:Str}{u:Value}{pos:Pos}{Q:Value→Shared→Prop}(I:g9 X pins σ H s)(hg:Gl X x)(hm:X.mg x=some u)(h:Q u s)
   (hd:(x==("__debug__":Str))=false:=by decide):wpAny (model X.prog X.w) X.A (eval (.Name x pos) X.env) Q E s:=
 Calls.Name_function_global I.ok.kind hg (Calls.loadGlobal_global (by rw[I.ok.glob];exact I.mod.glob.keeps I.bk) hm h) hd
theorem T9 {E:Value→Shared→Prop}{pins:List (Addr×Obj)}{s:Shared}{σ:St}{H:Hp}{x:Str}{u:Value}{pos:Pos}{Q:Value→Shared→Prop}(I:g9 X pins σ H s)(hg:Gl X x)(hm:X.mg x=none)(hv:bootBuiltins x=some u)(h:Q u s)
   (hn:x≠"__name__":=by decide) (hd:(x==("__debug__":Str))=false:=by decide):wpAny (model X.prog X.w) X.A (eval (.Name x pos) X.env) Q E s:=by
 obtain ⟨mb,h1,h2⟩:=I.mod.blt
 exact Calls.Name_function_global I.ok.kind hg (Calls.loadGlobal_builtin (by rw[I.ok.glob];exact I.mod.glob.keeps I.bk) hm (by rw[I.ok.blt];exact h1.keeps I.bk) ((h2 x hn).trans hv) h) hd
theorem av9 {x:Str}{v:V}{u:Value}{pos:Pos}(hg:Gl X x)(hm:X.mg x=some u)(r:m8 v u)(hd:(x==("__debug__":Str))=false:=by decide):PE X (.Name x pos) (tC v):=
 fun _ _ _ H _ I h=>bn7 I hg hm ⟨v,H,I,r,h⟩ hd
theorem aw0 {x:Str}{v:V}{u:Value}{pos:Pos}(hg:Gl X x)(hm:X.mg x=none)(hv:bootBuiltins x=some u)(r:m8 v u)(hn:x≠"__name__":=by decide)(hd:(x==("__debug__":Str))=false:=by decide):PE X (.Name x pos) (tC v):=
 fun _ _ _ H _ I h=>T9 I hg hm hv ⟨v,H,I,r,h⟩ hn hd
variable {a b:Expr} {ta tb:TE} {pos:Pos}
def PC (X:Cx)(op:CmpOp)(a b:Expr)(t:TE):Prop:=
 ∀(pins:List (Addr×Obj)) (s:Shared) (σ:St) (H:Hp) (Q:VK),g9 X pins σ H s→t σ H Q→
  wpAny (model X.prog X.w) X.A (eval a X.env) (fun v s₁=>wpAny (model X.prog X.w) X.A (eval b X.env) (fun u s₂=>wpAny (model X.prog X.w) X.A (compareOp op v u) (EP X pins σ Q) X.xe s₂) X.xe s₁) X.xe s
def tB (t:TE):TT:=fun σ H Q=>t σ H fun x H1=>∃c,x= .bl c∧Q c H1
theorem bw6 {op:CmpOp}{t:TE}(h:PC X op a b t)(h1:behindInMarks op b=false:=by first|exact nobehind _ (by decide) (by decide)|rfl):PT X (.Compare a [op] [b] pos) (tB t):=by
 intro pins s σ H Q I hw
 refine wpAny_isTrue_Compare1 (m7 (h pins s σ H _ I hw) fun v s1 h1=>m7 h1 fun u s2 h2=>m7 h2 fun c s3 ⟨x,H1,I1,r1,q1⟩=> ?_) h1
 obtain ⟨d,rfl,q⟩:=q1
 cases r1
 exact wpAny_truthy_bool ⟨H1,I1,q⟩
theorem Q9 {e:Expr}{t:TE}(h:PE X e t)(he:∀whole,isTrue e X.env whole=(do let v ←whole;standAt e.pos;holding [v] (truthy v)):=by intro _;rfl):PT X e (tB t):=by
 intro pins s σ H Q I hw
 refine isTrue_plain (m7 (h pins s σ H _ I hw) fun v s1 ⟨x,H1,I1,r1,q1⟩=> ?_) (he _)
 obtain ⟨d,rfl,q⟩:=q1
 cases r1
 exact wpAny_truthy_bool ⟨H1,I1,q⟩
variable {tA tB':TT} {rest:List Expr}
def tOr (t u:TT):TT:=fun σ H Q=>t σ H fun c H1=>if c=true then Q true H1 else u σ H1 Q
def da7 (t:TT):TT:=fun σ H Q=>t σ H fun c H1=>Q (!c) H1
theorem ab7 (ha:PT X a tA):PW X (.BoolOp .Or [a] pos) tA:=by
 intro wh pins s σ H Q I h
 refine isTrue_or (m7 (ha pins s σ H Q I h) fun c s1 e=> ?_)
 cases c with
 |false=>exact isTrue_or_nil e
 |true=>exact e
theorem Z4 (ha:PT X a tA)(hb:PW X (.BoolOp .Or (b::rest) pos) tB'):PW X (.BoolOp .Or (a::b::rest) pos) (tOr tA tB'):=by
 intro wh pins s σ H Q I h
 refine isTrue_or (m7 (ha pins s σ H _ I h) fun c s1 ⟨H1,I1,q1⟩=> ?_)
 cases c with
 |true=>exact ⟨H1,I1,q1⟩
 |false=>exact hb wh pins s1 σ H1 Q I1 q1
theorem R0 (ha:PT X a tA):PT X (.UnaryOp .Not a pos) (da7 tA):=by
 intro pins s σ H Q I h
 exact isTrue_not (ha pins s σ H (fun c H1=>Q (!c) H1) I h)
def cw3 (ta tb:TE):TE:=fun σ H Q=>ta σ H fun x H1=>∃c,x= .bl c∧if c=true then tb σ H1 Q else Q (.bl false) H1
def cw4 (ta:TE):TE:=fun σ H Q=>ta σ H fun x H1=>∃c,x= .bl c∧Q (.bl (!c)) H1
theorem bw7 {op}{t:TE}(h:PE X a t):PE X (.BoolOp op [a] pos) t:=fun pins s σ H Q I hw=>BoolOp_one (h pins s σ H Q I hw)
theorem bw8 (ha:PE X a ta)(hb:PE X (.BoolOp .And (b::rest) pos) tb):PE X (.BoolOp .And (a::b::rest) pos) (cw3 ta tb):=by
 intro pins s σ H Q I h
 refine BoolOp_and (m7 (ha pins s σ H _ I h) fun v s1 ⟨x,H1,I1,r1,q1⟩=> ?_)
 obtain ⟨c,rfl,q1⟩:=q1
 cases r1
 refine wpAny_truthy_bool ?_
 cases c with
 |true=>exact hb pins s1 σ H1 Q I1 q1
 |false=>exact ⟨.bl false,H1,I1,rfl,q1⟩
theorem cp8 (ha:PE X a ta):PE X (.UnaryOp .Not a pos) (cw4 ta):=by
 intro pins s σ H Q I h
 refine UnaryOp_ (m7 (ha pins s σ H _ I h) fun v s1 ⟨x,H1,I1,r1,q1⟩=> ?_)
 obtain ⟨c,rfl,q1⟩:=q1
 cases r1
 exact not_of (wpAny_truthy_bool ⟨.bl (!c),H1,I1,rfl,q1⟩)
end
end L2
namespace L2
open PySem PySem.Spec PyProof.Rows
def h8 (K:PySem.W.Frag)(H:Hp)(a:Addr)(xs:List V):Prop:=
 Rd H a (.lst xs)∨
   ∃(o:Obj) (its:Array Value) (n:Nat),K.lookup a=some o∧o.cls= .type "list"∧o.dict=none∧o.data= .seq its n∧its.size≤sizeLine∧j8 xs its.toList
def E6 (K:PySem.W.Frag)(H:Hp)(a:Addr)(xs:List V):Prop:=
 Rd H a (.tup xs)∨
   ∃(o:Obj) (its:Array Value) (n:Nat),K.lookup a=some o∧o.cls= .type "tuple"∧o.data= .seq its n∧its.size≤sizeLine∧j8 xs its.toList
def da8:Value→Option V
 | .none=>some .non
 | .bool b=>some (.bl b)
 | .int i _=>some (.int i)
 | .str x _=>some (.str x)
 | .bytes b _=>some (.byt b)
 | .float b _=>some (.flt b)
 | .ref a=>some (.ref a)
 | .type n=>some (.ty n)
 |_=>none
theorem m8.abs {x:V}{u:Value}(r:m8 x u):da8 u=some x:=by
 cases x with
 |non=>cases r;rfl
 |bl _=>cases r;rfl
 |int _=>obtain ⟨t,rfl⟩:=r;rfl
 |str _=>obtain ⟨t,rfl⟩:=r;rfl
 |byt _=>obtain ⟨t,rfl⟩:=r;rfl
 |flt _=>obtain ⟨t,rfl⟩:=r;rfl
 |ref _=>cases r;rfl
 |ty _=>cases r;rfl
theorem m8.inj {x y:V}{u:Value}(r:m8 x u)(q:m8 y u):x=y:=Option.some.inj (r.abs.symm.trans q.abs)
theorem j8.inj:∀{xs ys:List V} {us:List Value},j8 xs us→j8 ys us→xs=ys
 |_,_,_,.nil,.nil=>rfl
 |_,_,_,.cons r t,.cons r' t'=>by rw[r.inj r',j8.inj t t']
section
variable {X:Cx} {pins:List (Addr×Obj)} {σ:St} {H:Hp} {s:Shared} {a:Addr} {xs ys:List V}
theorem h8.of {K:PySem.W.Frag}(h:H a=some (.lst xs)):h8 K H a xs:= .inl (.inl h)
theorem E6.of {K:PySem.W.Frag}(h:H a=some (.tup xs)):E6 K H a xs:= .inl (.inl h)
theorem g9.list (I:g9 X pins σ H s)(h:h8 X.K H a xs):∃its:List Value,j8 xs its∧PlainL s.heap a its.toArray∧xs.length≤sizeLine:=by
 rcases h with h|⟨o,its,n,hk,hc,hd,hs,hz,r⟩
 · obtain ⟨z,its,n,r,e⟩:=h.ok I.hok
   exact ⟨its,r,⟨_,n,e,rfl,rfl,rfl⟩,z⟩
 · refine ⟨its.toList,r,⟨o,n,I.kIn a o hk,hc,hd,by simpa using hs⟩,?_⟩
   have e:=r.length
   simp only[dh0] at e
   omega
theorem g9.tuple (I:g9 X pins σ H s)(h:E6 X.K H a xs):∃its:List Value,j8 xs its∧IsTup s.heap a its.toArray∧xs.length≤sizeLine:=by
 rcases h with h|⟨o,its,n,hk,hc,hs,hz,r⟩
 · obtain ⟨z,its,r,p⟩:=h.ok I.hok
   exact ⟨its,r,p,z⟩
 · refine ⟨its.toList,r,⟨o,I.kIn a o hk,hc,n,by simpa using hs⟩,?_⟩
   have e:=r.length
   simp only[dh0] at e
   omega
theorem g9.list_inj (I:g9 X pins σ H s)(h:h8 X.K H a xs)(h':h8 X.K H a ys):xs=ys:=by
 obtain ⟨its,r,⟨o,n,e,_,_,d⟩,_⟩:=I.list h
 obtain ⟨its',r',⟨o',n',e',_,_,d'⟩,_⟩:=I.list h'
 rw[e] at e';cases e'
 rw[d] at d'
 injection d' with d1 _
 have:its=its':=by simpa using congrArg dl1 d1
 subst this
 exact r.inj r'
theorem g9.tuple_inj (I:g9 X pins σ H s)(h:E6 X.K H a xs)(h':E6 X.K H a ys):xs=ys:=by
 obtain ⟨its,r,⟨o,e,_,n,d⟩,_⟩:=I.tuple h
 obtain ⟨its',r',⟨o',e',_,n',d'⟩,_⟩:=I.tuple h'
 rw[e] at e';cases e'
 rw[d] at d'
 injection d' with d1 _
 have:its=its':=by simpa using congrArg dl1 d1
 subst this
 exact r.inj r'
end
abbrev Cx.wish (X:Cx)(E:Value→Shared→Prop):Cx:={X with xe:=E}
abbrev Cx.nox (X:Cx):Cx:=X.wish fun _ _=>False
theorem Cx.Ok.wish {X:Cx}(ok:X.Ok)(E:Value→Shared→Prop):(X.wish E).Ok:=
 ⟨ok.mod,ok.kind,ok.glob,ok.blt,ok.above,ok.inj,ok.has,ok.cab,ok.hd,ok.frames,ok.stk,ok.exf,ok.bs,ok.bsz,ok.noex,ok.exfs,ok.funs,ok.frf⟩
theorem Cx.Ok.unwish {X:Cx}{E:Value→Shared→Prop}(ok:(X.wish E).Ok):X.Ok:=
 ⟨ok.mod,ok.kind,ok.glob,ok.blt,ok.above,ok.inj,ok.has,ok.cab,ok.hd,ok.frames,ok.stk,ok.exf,ok.bs,ok.bsz,ok.noex,ok.exfs,ok.funs,ok.frf⟩
section
variable {X:Cx} {pins:List (Addr×Obj)} {σ:St} {H:Hp} {s:Shared} {E:Value→Shared→Prop}
theorem g9.wish (I:g9 X pins σ H s)(E:Value→Shared→Prop):g9 (X.wish E) pins σ H s:=⟨I.ok.wish E,I.os,I.bare,I.base,I.loc,I.cell,I.free,I.freeC,I.pin,I.hok,I.len⟩
theorem g9.unwish (I:g9 (X.wish E) pins σ H s):g9 X pins σ H s:=⟨I.ok.unwish,I.os,I.bare,I.base,I.loc,I.cell,I.free,I.freeC,I.pin,I.hok,I.len⟩
theorem SP.unwish {D:U8}{f:Flow}{s':Shared}(h:SP (X.wish E) pins D f s'):SP X pins D f s':=by
 cases f with
 |next=>obtain ⟨σ',H',I,q⟩:=h;exact ⟨σ',H',I.unwish,q⟩
 |brk=>obtain ⟨σ',H',I,q⟩:=h;exact ⟨σ',H',I.unwish,q⟩
 |cont=>obtain ⟨σ',H',I,q⟩:=h;exact ⟨σ',H',I.unwish,q⟩
 |ret u=>obtain ⟨v,σ',H',I,r,q⟩:=h;exact ⟨v,σ',H',I.unwish,r,q⟩
theorem PSs.nox {st:List Stmt}{t:TS}(h:PSs X.nox st t):PSs X st t:=fun pins s σ H D I hw=>
 wpAny_mono (h pins s σ H D (I.wish _) hw) (fun _ _ q=>q.unwish) fun _ _ z=>False.elim z
end
section
variable {X:Cx} {st:Stmt} {rest:List Stmt} {t u:TS} {e:Expr} {te:TE} {pos:Pos}
def cw5:TS:=fun D σ H=>D.nx σ H
def da9 (t u:TS):TS:=fun D σ H=>t {D with nx:=u D} σ H
theorem o7:PSs X [] cw5:=fun _ _ σ H _ I h=>wpAny_execs_nil ⟨σ,H,I,h⟩
theorem c7 (h1:PS X st t)(h2:PSs X rest u):PSs X (st::rest) (da9 t u):=by
 intro pins s σ H D I h
 refine wpAny_execs_cons (m7 (h1 pins s σ H {D with nx:=u D} I h) fun f s1 q=> ?_)
 cases f with
 |next=>
  obtain ⟨σ',H',I',q⟩:=q
  exact h2 pins s1 σ' H' D I' q
 |ret v=>exact q
 |brk=>exact q
 |cont=>exact q
theorem c9 (h1:PS X st t):PSs X [st] t:=by
 intro pins s σ H D I h
 refine wpAny_execs_cons (m7 (h1 pins s σ H D I h) fun f s1 q=> ?_)
 cases f with
 |next=>exact wpAny_execs_nil q
 |ret v=>exact q
 |brk=>exact q
 |cont=>exact q
theorem g9.quiet {pins:List (Addr×Obj)}{σ:St}{H:Hp}{s:Shared}(I:g9 X pins σ H s):interactive X.env=false:=by simp [interactive,I.ok.kind]
def cw6 (te:TE):TS:=fun D σ H=>te σ H fun _ H1=>D.nx σ H1
theorem q5 (he:PE X e te)(hs:swapsWith e none pos.line X.env=pure false:=by rfl):PS X (.Expr e pos) (cw6 te):=by
 intro pins s σ H D I h
 exact wpAny_Expr_any (m7 (he pins s σ H _ I h) fun v s1 ⟨x,H1,I1,r1,q1⟩=>⟨σ,H1,I1,q1⟩) I.quiet hs
def db0 (te:TE):TS:=fun D σ H=>te σ H D.rt
theorem k7 (he:PE X e te):PS X (.Return (some e) pos) (db0 te):=by
 intro pins s σ H D I h
 exact wpAny_Return_some (m7 (he pins s σ H _ I h) fun v s1 ⟨x,H1,I1,r1,q1⟩=>⟨x,σ,H1,I1,r1,q1⟩)
def db1 (c:TT)(t u:TS):TS:=fun D σ H=>c σ H fun b H1=>if b=true then t D σ H1 else u D σ H1
theorem v9 {c:Expr}{a b:List Stmt}{tc:TT}(hc:PT X c tc)(ha:PSs X a t)(hb:PSs X b u):PS X (.If c a b pos) (db1 tc t u):=by
 intro pins s σ H D I h
 refine wpAny_If (m7 (hc pins s σ H _ I h) fun d s1 ⟨H1,I1,q1⟩=> ?_)
 cases d with
 |true=>exact ha pins s1 σ H1 D I1 q1
 |false=>exact hb pins s1 σ H1 D I1 q1
def cp9:TS:=fun _ _ _=>False
theorem S2:PS X st cp9:=fun _ _ _ _ _ _ h=>h.elim
end
abbrev TG:=V→St→Hp→(St→Hp→Prop)→Prop
abbrev TGs:=List V→St→Hp→(St→Hp→Prop)→Prop
def PG (X:Cx)(target:Expr)(t:TG):Prop:=
 ∀(pins:List (Addr×Obj)) (s:Shared) (σ:St) (H:Hp) (v:V) (u:Value) (Q:St→Hp→Prop),g9 X pins σ H s→m8 v u→t v σ H Q→
  wpAny (model X.prog X.w) X.A (assign target X.env u) (fun _ s'=>∃σ' H',g9 X pins σ' H' s'∧Q σ' H') X.xe s
def PGs (X:Cx)(ts:List Expr)(t:TGs):Prop:=
 ∀(pins:List (Addr×Obj)) (s:Shared) (σ:St) (H:Hp) (vs:List V) (us:List Value) (Q:St→Hp→Prop),g9 X pins σ H s→j8 vs us→t vs σ H Q→
  wpAny (model X.prog X.w) X.A (assignInOrder ((assignEach ts X.env).map (·.2)) us) (fun _ s'=>∃σ' H',g9 X pins σ' H' s'∧Q σ' H') X.xe s
abbrev ce2:=V→V→V→Hp→(Hp→Prop)→Prop
def cq0 (X:Cx)(t:ce2):Prop:=
 ∀(pins:List (Addr×Obj)) (s:Shared) (σ:St) (H:Hp) (o i v:V) (ov iv u:Value) (Q:Hp→Prop),g9 X pins σ H s→m8 o ov→m8 i iv→m8 v u→t o i v H Q→
  wpAny (model X.prog X.w) X.A (setItem ov iv u) (fun _ s'=>∃H',g9 X pins σ H' s'∧Q H') X.xe s
section
variable {X:Cx} {pos:Pos}
def bs3 (i:Nat):TG:=fun v σ H Q=>Q (σ.set i (some v)) H
theorem i8 {i:Nat}{x:Str}(hN:X.N.Nodup)(hi:X.N[i]? =some x)(hx:Loc X.env.scope x)(hf:X.fn x=true∨X.env.scope.names.lookup x=some .local:=by first|exact .inl rfl|exact .inr rfl|assumption):PG X (.Name x pos) (bs3 i):=by
 intro pins s σ H v u Q I r h
 exact wpAny_assign_Name (be2 I hN hi hx r (fun s' I'=>⟨_,H,I',h⟩) hf)
def db2:TGs:=fun vs σ H Q=>vs=[]∧Q σ H
def cw7 (t:TG)(u:TGs):TGs:=fun vs σ H Q=>∃v r,vs=v::r∧t v σ H fun σ' H'=>u r σ' H' Q
theorem N8:PGs X [] db2:=by
 intro pins s σ H vs us Q I r h
 obtain ⟨e,h⟩:=h
 subst e
 cases r
 exact assignInOrder_nil ⟨σ,H,I,h⟩
theorem x8 {e:Expr}{es:List Expr}{t:TG}{u:TGs}(h1:PG X e t)(h2:PGs X es u)
   (hs:(assignEach (e::es) X.env).map (·.2)=assign e X.env::(assignEach es X.env).map (·.2):=by rfl):PGs X (e::es) (cw7 t u):=by
 intro pins s σ H vs us Q I r h
 obtain ⟨v,vr,e1,h⟩:=h
 subst e1
 cases r with
 |cons r rr=>
  rw[hs]
  refine assignInOrder_cons (m7 (h1 pins s σ H _ _ _ I r h) fun _ s1 ⟨σ1,H1,I1,q1⟩=> ?_)
  exact h2 pins s1 σ1 H1 _ _ Q I1 rr q1
def db3 (K:PySem.W.Frag)(n:Nat)(t:TGs):TG:=fun v σ H Q=>∃a xs,v= .ref a∧E6 K H a xs∧xs.length=n∧t xs σ H Q
theorem R1 {es:List Expr}{k:Nat}{t:TGs}{n:Nat}(hc:X.calm=true)(h:PGs X es t)
   (hn:(assignEach es X.env).length=n:=by rfl) (hst:(assignEach es X.env).findIdx? (·.1)=none:=by rfl):PG X (.Tuple es k pos) (db3 X.K n t):=by
 intro pins s σ H v u Q I r hw
 obtain ⟨a,xs,e1,hq,hl,hw⟩:=hw
 subst e1
 cases r
 obtain ⟨its,rv,ht,hz⟩:=I.tuple hq
 refine assign_Tuple_tuple (I.ok.hd hc) ht (by simp [hn,←hl,rv.length]) hst fun h' hx=> ?_
 have I1:g9 X pins σ H {s with heap:=h'}:=I.kept (t':=s.toks) fun b o e=>hx b o (dk1 (Heap.lt_size e)) e
 exact h pins _ σ H xs _ Q I1 (by simpa using rv) hw
def db4 (to ti:TE)(t:ce2):TG:=fun v σ H Q=>to σ H fun o H1=>ti σ H1 fun i H2=>t o i v H2 fun H3=>Q σ H3
theorem aq1 {o i:Expr}{to ti:TE}{t:ce2}(ho:PE X o to)(hi:PE X i ti)(hs:cq0 X t)
   (ha:∀v,assign (.Subscript o i pos) X.env v=(do
     let ov ←holding [v] (eval o X.env)
     let iv ←holding [v,ov] (eval i X.env)
     standAt pos
     holding [v,ov,iv] (setItem ov iv v)
     release [v,ov,iv] []):=by intro _;rfl):PG X (.Subscript o i pos) (db4 to ti t):=by
 intro pins s σ H v u Q I r h
 rw[ha]
 refine wpAny_bind (wpAny_holding (m7 (ho pins s σ H _ I h) fun ov s1 ⟨x,H1,I1,r1,q1⟩=> ?_))
 refine wpAny_bind (wpAny_holding (m7 (hi pins s1 σ H1 _ I1 q1) fun iv s2 ⟨y,H2,I2,r2,q2⟩=> ?_))
 refine wpAny_bind (wpAny_standAt (wpAny_bind (wpAny_holding (m7 (hs pins s2 σ H2 x y v ov iv u _ I2 r1 r2 r q2) fun _ s3 ⟨H3,I3,q3⟩=> ?_))))
 exact wpAny_release ⟨σ,H3,I3,q3⟩
def ce3 (te:TE)(g:TG):TS:=fun D σ H=>te σ H fun x H1=>g x σ H1 D.nx
theorem aq2 {tg e:Expr}{te:TE}{g:TG}(he:PE X e te)(hg:PG X tg g)(hs:swapsWithSole [tg] e pos.line X.env=pure false:=by rfl)(hw:swappedStores [tg] e X.env=pure none:=by rfl)
   (h1:(assignEach [tg] X.env).map (·.2)=[assign tg X.env]:=by rfl):PS X (.Assign [tg] e pos) (ce3 te g):=by
 intro pins s σ H D I h
 refine wpAny_Assign_stores (m7 (he pins s σ H _ I h) fun v s1 ⟨x,H1,I1,r1,q1⟩=> ?_) hs hw
 rw[h1]
 exact m7 (hg pins s1 σ H1 x v _ I1 r1 q1) fun _ s2 q=>q
theorem i4 {i:Nat}{x:Str}{e:Expr}{te:TE}{pos':Pos}(hN:X.N.Nodup)(hi:X.N[i]? =some x)(hx:Loc X.env.scope x)(he:PE X e te)(hs:swapsWith e (some (.Name x pos')) pos.line X.env=pure false:=by rfl)(hf:X.fn x=true∨X.env.scope.names.lookup x=some .local:=by first|exact .inl rfl|exact .inr rfl|assumption):
   PS X (.Assign [.Name x pos'] e pos) (ce3 te (bs3 i)):=by
 intro pins s σ H D I h
 refine wpAny_Assign_Name (m7 (he pins s σ H _ I h) fun v s1 ⟨y,H1,I1,r1,q1⟩=> ?_) hs
 exact be2 I1 hN hi hx r1 (fun s2 I2=>⟨_,H1,I2,q1⟩) hf
end
section
variable {X:Cx} {pos:Pos}
def bw9 (c:TT)(tb:TS):TS:=fun D σ H=>∃W:Nat→St→Hp→Prop,(∃m,W m σ H)∧∀m σ H,W m σ H→
 c σ H fun b H1=>if b=true then ∃N:St→Hp→Prop,(∀σ' H',N σ' H'→∃m',m' < m∧W m' σ' H')∧tb {D with nx:=N,ct:=N,bk:=D.nx} σ H1 else D.nx σ H1
theorem ad7 {c:Expr}{body:List Stmt}{tc:TT}{tb:TS}(hp:PassesOwn (model X.prog X.w) X.A X.env X.xe)(hc:PT X c tc)(hb:PSs X body tb):PS X (.While c body [] pos) (bw9 tc tb):=by
 intro pins s σ H D I h
 obtain ⟨W,⟨m0,w0⟩,turn⟩:=h
 refine wpAny_While (codeAny_whileLoop (fun n s'=>∃σ' H',g9 X pins σ' H' s'∧W n σ' H') ?_ m0 ⟨σ,H,I,w0⟩)
 rintro n s1 ⟨σ1,H1,I1,w1⟩
 refine wpAny_passesOwn hp (m7 (hc pins s1 σ1 H1 _ I1 (turn n σ1 H1 w1)) fun b s2 ⟨H2,I2,q2⟩=> ?_)
 cases b with
 |true=>
  obtain ⟨N,hN,q2⟩:=q2
  rw[if_pos rfl]
  refine wpAny_passesOwn hp (m7 (hb pins s2 σ1 H2 _ I2 q2) fun f s3 q3=> ?_)
  cases f with
  |next=>
   obtain ⟨σ3,H3,I3,n3⟩:=q3
   obtain ⟨m',hm,w3⟩:=hN σ3 H3 n3
   exact ⟨m',hm,σ3,H3,I3,w3⟩
  |cont=>
   obtain ⟨σ3,H3,I3,n3⟩:=q3
   obtain ⟨m',hm,w3⟩:=hN σ3 H3 n3
   exact ⟨m',hm,σ3,H3,I3,w3⟩
  |brk=>exact q3
  |ret v=>exact q3
 |false=>
  rw[if_neg dh5]
  exact wpAny_execs_nil ⟨σ1,H2,I2,q2⟩
end
structure It where
 go:Nat→Hp→Prop
 yld:Nat→Hp→V→Hp→Prop
 stop:Nat→Hp→Prop
def ag9 (X:Cx)(pins:List (Addr×Obj))(H:Hp)(b:Addr):Prop:=
 H b=none∧b≠X.env.locals∧b∉X.fs∧(b∈X.ex∨X.s₀.heap.objs.size≤b)∧(∀x c,X.env.cells.lookup x=some c→c≠b)∧∀p∈X.pn++pins,p.1≠b
theorem g9.fpOk {X:Cx}{pins:List (Addr×Obj)}{σ:St}{H H':Hp}{s:Shared}{b:Addr}(I:g9 X pins σ H s)(hb:s.heap.objs.size≤b)(hn:H' b=none):ag9 X pins H' b:=by
 refine ⟨hn,Nat.ne_of_gt (dj9 I.lt hb),I.nofs hb,.inr (dg5 I.sz hb),fun x c e z=> ?_,fun p hp z=> ?_⟩
 · obtain ⟨v,q⟩:=I.cell x c e
   exact absurd (dj9 q.lt (by rw[z];exact hb)) (dn3 _)
 · exact absurd (dj9 (Heap.lt_size (I.pin p hp).1) (by rw[z];exact hb)) (dn3 _)
structure an1 (P:Program)(w:World)(K:PySem.W.Frag)(tg:Expr)(J:It)(fp:List Addr)(it:Addr)(tn:Nat→Heap→Prop):Prop where
 mem:it∈fp
 obj:∀i h,tn i h→∀b∈fp,∃o,h.get? b=some o∧∀v,o.data≠.cell v
 keep:∀i h h',tn i h→(∀b∈fp,∀o,h.get? b=some o→h'.get? b=some o)→tn i h'
 item:∀(X:Cx),X.prog=P→X.w=w→X.K=K→X.calm=true→∀(i:Nat) (pins:List (Addr×Obj)) (s:Shared) (σ:St) (H:Hp) (E:Value→Shared→Prop),g9 X pins σ H s→(∀b∈fp,ag9 X pins H b)→tn i s.heap→J.go i H→
   wpAny (model P w) X.A (pyNext (.ref it)) (fun r s1=>∃u,r=some u∧
     wpAny (model P w) X.A (letOwnedTupleGo tg (.ref it) u) (fun _ s2=>∃x H',g9 X pins σ H' s2∧m8 x u∧J.yld i H x H'∧tn (i+1) s2.heap∧∀b∈fp,H' b=none) E s1) E s
 done:∀(X:Cx),X.prog=P→X.w=w→X.K=K→X.calm=true→∀(i:Nat) (pins:List (Addr×Obj)) (s:Shared) (σ:St) (H:Hp) (E:Value→Shared→Prop),g9 X pins σ H s→(∀b∈fp,ag9 X pins H b)→tn i s.heap→J.stop i H→
   wpAny (model P w) X.A (pyNext (.ref it)) (fun r s1=>r=none∧g9 X pins σ H s1) E s
 self:∀(A:Around) (i:Nat) (s:Shared) (Q:Value→Shared→Prop) (E:Value→Shared→Prop),tn i s.heap→Q (.ref it) s→wpAny (model P w) A (pyIter (.ref it)) Q E s
abbrev TI:=St→Hp→(It→Hp→Prop)→Prop
def PIE (X:Cx)(pins:List (Addr×Obj))(σ:St)(tg:Expr)(R:It→Hp→Prop)(itv:Value)(s2:Shared):Prop:=
 ∃(it:Addr) (fp:List Addr) (tn:Nat→Heap→Prop) (J:It) (H':Hp),itv= .ref it∧g9 X pins σ H' s2∧an1 X.prog X.w X.K tg J fp it tn∧tn 0 s2.heap∧(∀b∈fp,ag9 X pins H' b)∧R J H'
def PI (X:Cx)(tg iter:Expr)(wi:TI):Prop:=
 ∀(pins:List (Addr×Obj)) (s:Shared) (σ:St) (H:Hp) (R:It→Hp→Prop),g9 X pins σ H s→wi σ H R→
  wpAny (model X.prog X.w) X.A (eval iter X.env) (fun v s1=>wpAny (model X.prog X.w) X.A (pyIter v) (PIE X pins σ tg R) X.xe s1) X.xe s
theorem aq3 {M:Model}{A:Around}{E:Value→Shared→Prop}{s:Shared}{tg:Expr}{it:Addr}{u:Value}{o:Obj}{n:String}{vs:Array Value}{Q:Unit→Shared→Prop}(ho:s.heap.get? it=some o)(hc:o.cls= .type n)(hd:o.data= .fields vs)
   (hn:["enumerate","zip","dict_itemiterator","dict_reverseitemiterator","odict_iterator","itertools.zip_longest","itertools.pairwise"].contains n=false) (hQ:Q () s):wpAny M A (letOwnedTupleGo tg (.ref it) u) Q E s:=by
 unfold letOwnedTupleGo
 cases tg<;>first
   |exact wpAny_pure hQ
   |(cases u<;>first
       |exact wpAny_pure hQ
       |(refine wpAny_bind (wpAny_load ho ?_)
         rw[hc,hd]
         show wpAny M A (if (["enumerate","zip","dict_itemiterator","dict_reverseitemiterator","odict_iterator","itertools.zip_longest","itertools.pairwise"].contains n&&vs[0]? ==some (rawInt _))=true then _ else _) Q E s
         rw[if_neg (by intro h;rw[hn,Bool.false_and] at h;cases h)]
         exact wpAny_pure hQ))
def Itl (K:PySem.W.Frag)(a:Addr):It:=
 ⟨fun i H=>∃xs x,h8 K H a xs∧xs[i]? =some x,fun i H x H'=>H'=H∧∀xs,h8 K H a xs→xs[i]? =some x,fun i H=>∃xs,h8 K H a xs∧xs.length≤i⟩
def Itt (K:PySem.W.Frag)(a:Addr):It:=
 ⟨fun i H=>∃xs x,E6 K H a xs∧xs[i]? =some x,fun i H x H'=>H'=H∧∀xs,E6 K H a xs→xs[i]? =some x,fun i H=>∃xs,E6 K H a xs∧xs.length≤i⟩
def Itr (lo:Int)(n:Nat):It:=⟨fun i _=>i < n,fun i H x H'=>H'=H∧x= .int (lo+i),fun i _=>n≤i⟩
theorem bx1 {P:Program}{w:World}{K:PySem.W.Frag}{tg:Expr}(a it:Addr):an1 P w K tg (Itl K a) [it] it (fun i h=>h.IsListIter it a i) where
 mem:=by simp
 obj:=fun i h st b hb=>by
   have e:b=it:=by simpa using hb
   subst e
   obtain ⟨o,e,c,d⟩:=st
   exact ⟨o,e,fun v z=>by rw[d] at z;cases z⟩
 keep:=fun i h h' st k=>st.at fun o e=>k it (by simp) o e
 item:=by
   intro X hP hw hK hc i pins s σ H E I hf st hg
   subst hP hw hK
   obtain ⟨xs,x,hq,hx⟩:=hg
   obtain ⟨its,rv,p,hz⟩:=I.list hq
   obtain ⟨u,hu,ru⟩:=rv.get hx
   obtain ⟨f0,f1,f2,f3,f4,f5⟩:=hf it (by simp)
   refine wpAny_pyNext_list_item st p.isList (x:=u) (by simpa using hu) fun h' st' sb=> ?_
   have I1:g9 X pins σ H {s with heap:=h'}:=I.turned (t':=s.toks) (fun b o hb e=>(sb.2 b hb).trans e) f0 f1 f3 f4 f5
   obtain ⟨o,e,c,d⟩:=id st'
   exact ⟨u,rfl,aq3 (s:={s with heap:=h'}) e c d (by decide) ⟨x,H,I1,ru,⟨rfl,fun ys hy=>by rw[I.list_inj hy hq];exact hx⟩,st',fun b hb=>(hf b hb).1⟩⟩
 done:=by
   intro X hP hw hK hc i pins s σ H E I hf st hg
   subst hP hw hK
   obtain ⟨xs,hq,hx⟩:=hg
   obtain ⟨its,rv,p,hz⟩:=I.list hq
   obtain ⟨f0,f1,f2,f3,f4,f5⟩:=hf it (by simp)
   have hl:=rv.length
   exact wpAny_pyNext_list_end (I.ok.hd hc) st p.isList (by simp;omega) fun h' eb=>⟨rfl,I.turned (t':=s.toks) (fun b o hb e=>eb b o hb e) f0 f1 f3 f4 f5⟩
 self:=fun _ _ _ _ _ st h=>wpAny_pyIter_listiter st h
theorem bs4 {P:Program}{w:World}{K:PySem.W.Frag}{tg:Expr}(a it:Addr):an1 P w K tg (Itt K a) [it] it (fun i h=>h.IsTupleIter it a i) where
 mem:=by simp
 obj:=fun i h st b hb=>by
   have e:b=it:=by simpa using hb
   subst e
   obtain ⟨o,e,c,d⟩:=st
   exact ⟨o,e,fun v z=>by rw[d] at z;cases z⟩
 keep:=fun i h h' st k=>st.at fun o e=>k it (by simp) o e
 item:=by
   intro X hP hw hK hc i pins s σ H E I hf st hg
   subst hP hw hK
   obtain ⟨xs,x,hq,hx⟩:=hg
   obtain ⟨its,rv,p,hz⟩:=I.tuple hq
   obtain ⟨u,hu,ru⟩:=rv.get hx
   obtain ⟨f0,f1,f2,f3,f4,f5⟩:=hf it (by simp)
   refine wpAny_pyNext_tuple_item st (show s.heap.IsTuple a its.toArray from p) (x:=u) (by simpa using hu) fun h' st' sb=> ?_
   have I1:g9 X pins σ H {s with heap:=h'}:=I.turned (t':=s.toks) (fun b o hb e=>(sb.2 b hb).trans e) f0 f1 f3 f4 f5
   obtain ⟨o,e,c,d⟩:=id st'
   exact ⟨u,rfl,aq3 (s:={s with heap:=h'}) e c d (by decide) ⟨x,H,I1,ru,⟨rfl,fun ys hy=>by rw[I.tuple_inj hy hq];exact hx⟩,st',fun b hb=>(hf b hb).1⟩⟩
 done:=by
   intro X hP hw hK hc i pins s σ H E I hf st hg
   subst hP hw hK
   obtain ⟨xs,hq,hx⟩:=hg
   obtain ⟨its,rv,p,hz⟩:=I.tuple hq
   obtain ⟨f0,f1,f2,f3,f4,f5⟩:=hf it (by simp)
   have hl:=rv.length
   exact wpAny_pyNext_tuple_end (I.ok.hd hc) st (show s.heap.IsTuple a its.toArray from p) (by simp;omega) fun h' eb=>⟨rfl,I.turned (t':=s.toks) (fun b o hb e=>eb b o hb e) f0 f1 f3 f4 f5⟩
 self:=fun _ _ _ _ _ st h=>wpAny_pyIter_tupleiter st h
theorem bs5 {P:Program}{w:World}{K:PySem.W.Frag}{tg:Expr}(it:Addr)(lo:Int)(n:Nat):an1 P w K tg (Itr lo n) [it] it (fun i h=>IsRangeIter h it (lo+(i:Nat)*1) ((n:Int) - (i:Nat)) 1) where
 mem:=by simp
 obj:=fun i h st b hb=>by
   have e:b=it:=by simpa using hb
   subst e
   exact ⟨_,st,fun v z=>by
     have z':Data.fields _=Data.cell v:=z
     cases z'⟩
 keep:=fun i h h' st k=>k it (by simp) _ st
 item:=by
   intro X hP hw hK hc i pins s σ H E I hf st hg
   subst hP hw hK
   obtain ⟨f0,f1,f2,f3,f4,f5⟩:=hf it (by simp)
   have W:=Walks.range (prog:=X.prog) (w:=X.w) (I.ok.hd hc) it lo 1 n
   refine W.item i s _ _ hg st fun v h' tk hv st' kk=> ?_
   obtain ⟨t,rfl⟩:=hv
   have I1:g9 X pins σ H {s with heap:=h',toks:=tk}:=I.turned (fun b o hb e=>kk b o (by simpa using hb) e) f0 f1 f3 f4 f5
   refine ⟨_,rfl,aq3 (s:={s with heap:=h',toks:=tk}) (n:="range_iterator") st' rfl rfl (by decide) ⟨.int (lo+i),H,I1,⟨t,?_⟩,⟨rfl,rfl⟩,st',fun b hb=>(hf b hb).1⟩⟩
   rw[Int.mul_one]
 done:=by
   intro X hP hw hK hc i pins s σ H E I hf st hg
   subst hP hw hK
   obtain ⟨f0,f1,f2,f3,f4,f5⟩:=hf it (by simp)
   exact wpAny_pyNext_range_end (I.ok.hd hc) st (by have:n≤i:=hg;omega) fun h' eb=>⟨rfl,I.turned (t':=s.toks) (fun b o hb e=>eb b o hb e) f0 f1 f3 f4 f5⟩
 self:=fun _ _ _ _ _ st h=>wpAny_pyIter_rangeiter st h
end L2
namespace L2
open PySem PySem.Spec PyProof.Rows
section
variable {X:Cx} {tg:Expr}
def cw8 (K:PySem.W.Frag)(tl:TE):TI:=fun σ H R=>tl σ H fun x H1=>∃a,x= .ref a∧(∃xs,h8 K H1 a xs)∧R (Itl K a) H1
def db5 (K:PySem.W.Frag)(tl:TE):TI:=fun σ H R=>tl σ H fun x H1=>∃a,x= .ref a∧(∃xs,E6 K H1 a xs)∧R (Itt K a) H1
theorem t7 {l:Expr}{tl:TE}(hl:PE X l tl):PI X tg l (cw8 X.K tl):=by
 intro pins s σ H R I h
 refine m7 (hl pins s σ H _ I h) fun v s1 ⟨x,H1,I1,r1,q1⟩=> ?_
 obtain ⟨a,e,⟨xs,hq⟩,q⟩:=q1
 subst e
 cases r1
 obtain ⟨its,rv,p,hz⟩:=I1.list hq
 refine wpAny_pyIter_list p.isList ?_
 refine ⟨s1.heap.objs.size,[s1.heap.objs.size],_,_,H1,rfl,I1.kept (t':=s1.toks) fun b o e=>Heap.get?_push_of_some _ e,bx1 a _,⟨_,Heap.get?_push_size _ rfl,rfl,rfl⟩,fun b hb=> ?_,q⟩
 have e:b=s1.heap.objs.size:=by simpa using hb
 subst e
 exact I1.fpOk (df2 _) (I1.hok.fresh (df2 _))
theorem cq1 {l:Expr}{tl:TE}(hl:PE X l tl):PI X tg l (db5 X.K tl):=by
 intro pins s σ H R I h
 refine m7 (hl pins s σ H _ I h) fun v s1 ⟨x,H1,I1,r1,q1⟩=> ?_
 obtain ⟨a,e,⟨xs,hq⟩,q⟩:=q1
 subst e
 cases r1
 obtain ⟨its,rv,p,hz⟩:=I1.tuple hq
 refine wpAny_pyIter_tuple (show s1.heap.IsTuple a its.toArray from p) ?_
 refine ⟨s1.heap.objs.size,[s1.heap.objs.size],_,_,H1,rfl,I1.kept (t':=s1.toks) fun b o e=>Heap.get?_push_of_some _ e,bs4 a _,⟨_,Heap.get?_push_size _ rfl,rfl,rfl⟩,fun b hb=> ?_,q⟩
 have e:b=s1.heap.objs.size:=by simpa using hb
 subst e
 exact I1.fpOk (df2 _) (I1.hok.fresh (df2 _))
theorem be5 {pins:List (Addr×Obj)}{σ:St}{H:Hp}{s:Shared}{R:It→Hp→Prop}{E:Value→Shared→Prop}{lo hi:Int}{t u v:Tok}{tk:Nat}(I:g9 X pins σ H s)(h1: -(2^62)≤lo)(h2:lo < 2^62)(h3: -(2^62)≤hi)(h4:hi < 2^62)
   (q:R (Itr lo (hi - lo).toNat) H):wpAny (model X.prog X.w) X.A (pyIter (.ref s.heap.objs.size)) (PIE X pins σ tg R) E {s with heap:=s.heap.push {cls:= .type "range",data:= .fields #[.int lo t,.int hi u,.int 1 v]},toks:=tk}:=by
 refine wpAny_pyIter_range (IsRange.new ..) (small_one h1 h2 h3 h4) ?_
 have I1:g9 X pins σ H {s with heap:=s.heap.push {cls:= .type "range",data:= .fields #[.int lo t,.int hi u,.int 1 v]},toks:=tk}:=I.kept fun b o e=>Heap.get?_push_of_some _ e
 refine ⟨(s.heap.push {cls:= .type "range",data:= .fields #[.int lo t,.int hi u,.int 1 v]}).objs.size,[(s.heap.push {cls:= .type "range",data:= .fields #[.int lo t,.int hi u,.int 1 v]}).objs.size],_,_,H,rfl,
   I1.kept (t':=tk) fun b o e=>Heap.get?_push_of_some _ e,bs5 _ lo (hi - lo).toNat,?_,fun b hb=> ?_,q⟩
 · have e1:lo+((0:Nat):Int)*1=lo:=by simp
   have e2:(((hi - lo).toNat:Nat):Int) - ((0:Nat):Int)=Builtin.Range.rangeSize lo hi 1:=by rw[rangeSize_one];split<;>omega
   show IsRangeIter _ _ (lo+((0:Nat):Int)*1) ((((hi - lo).toNat:Nat):Int) - ((0:Nat):Int)) 1
   rw[e1,e2]
   exact Heap.get?_push_size _ rfl
 · have e:b=(s.heap.push {cls:= .type "range",data:= .fields #[.int lo t,.int hi u,.int 1 v]}).objs.size:=by simpa using hb
   subst e
   exact I1.fpOk (df2 _) (I1.hok.fresh (df2 _))
def cw9 (ta:TA):TI:=fun σ H R=>ta σ H fun vs H1=>∃j:Int,vs=[.int j]∧ -(2^62)≤j∧j < 2^62∧R (Itr 0 j.toNat) H1
def cx0 (ta:TA):TI:=fun σ H R=>ta σ H fun vs H1=>∃i j:Int,vs=[.int i,.int j]∧(-(2^62)≤i∧i < 2^62∧ -(2^62)≤j∧j < 2^62)∧R (Itr i (j - i).toNat) H1
theorem K5 {a:Expr}{ta:TA}{p pos:Pos}(hg:Gl X "range")(hm:X.mg "range"=none)(ha:PA X [a] ta)(hs:starEach [a] X.env=[(false,eval a X.env)]:=by rfl):PI X tg (.Call (.Name "range" p) [a] [] pos) (cw9 ta):=by
 intro pins s σ H R I h
 refine Call_ (T9 I hg hm boot_range (PyProof.Rows.callWith_type1 (m7 (ha pos pins s σ H _ I h) fun us s1 ⟨vs,H1,I1,r1,q1⟩=> ?_) hs rfl))
 obtain ⟨j,e,q1,q2,q⟩:=q1
 subst e
 cases r1 with
 |cons r rr=>
  cases rr
  obtain ⟨t,rfl⟩:=r
  exact call_range_1 (be5 I1 (by omega) (by omega) q1 q2 (by simpa using q))
theorem Z5 {a b:Expr}{ta:TA}{p pos:Pos}(hg:Gl X "range")(hm:X.mg "range"=none)(ha:PA X [a,b] ta)(hs:starEach [a,b] X.env=[(false,eval a X.env),(false,eval b X.env)]:=by rfl)(hs2:starEach [b] X.env=[(false,eval b X.env)]:=by rfl):
   PI X tg (.Call (.Name "range" p) [a,b] [] pos) (cx0 ta):=by
 intro pins s σ H R I h
 refine Call_ (T9 I hg hm boot_range (PyProof.Rows.callWith_type1 (m7 (ha pos pins s σ H _ I h) fun us s1 ⟨vs,H1,I1,r1,q1⟩=> ?_) (by rw[hs,hs2]) (by rw[hs2];rfl)))
 obtain ⟨i,j,e,⟨q1,q2,q3,q4⟩,q⟩:=q1
 subst e
 cases r1 with
 |cons r rr=>
  cases rr with
  |cons r' rr=>
   cases rr
   obtain ⟨t,rfl⟩:=r
   obtain ⟨t',rfl⟩:=r'
   exact call_range_2 (be5 I1 q1 q2 q3 q4 q)
def db6 (wi:TI)(g:TG)(tb:TS):TS:=fun D σ H=>wi σ H fun J H1=>∃W:Nat→Nat→St→Hp→Prop,(∃m,W 0 m σ H1)∧∀i m σ H,W i m σ H→
 (J.stop i H∧D.nx σ H)∨(J.go i H∧∃N:St→Hp→Prop,(∀σ' H',N σ' H'→∃m',m' < m∧W (i+1) m' σ' H')∧∀x H',J.yld i H x H'→g x σ H' fun σ2 H2=>tb {D with nx:=N,ct:=N,bk:=D.nx} σ2 H2)
def X0 (fp:List Addr)(h:Heap):List (Addr×Obj):=fp.filterMap fun b=>(h.get? b).map fun o=>(b,o)
theorem V9 {fp:List Addr}{h:Heap}{b:Addr}{o:Obj}(hb:b∈fp)(e:h.get? b=some o):(b,o)∈X0 fp h:=List.mem_filterMap.mpr ⟨b,hb,by rw[e];rfl⟩
theorem az8 {fp:List Addr}{h:Heap}{p:Addr×Obj}(hp:p∈X0 fp h):p.1∈fp∧h.get? p.1=some p.2:=by
 obtain ⟨b,hb,e⟩:=List.mem_filterMap.mp hp
 cases q:h.get? b with
 |none=>rw[q] at e;cases e
 |some o=>
  rw[q] at e
  have e':(b,o)=p:=Option.some.inj e
  subst e'
  exact ⟨hb,q⟩
theorem g9.pinned {pins:List (Addr×Obj)}{σ:St}{H:Hp}{s:Shared}{fp:List Addr}(I:g9 X pins σ H s)(hf:∀b∈fp,ag9 X pins H b)(ho:∀b∈fp,∃o,s.heap.get? b=some o∧∀v,o.data≠.cell v):g9 X (pins++X0 fp s.heap) σ H s:=
 I.pins_of fun p hp=>(dg2.mp hp).elim (fun z=>I.pin p (dh6 _ z)) fun z=>by
   obtain ⟨hb,e⟩:=az8 z
   obtain ⟨f0,f1,f2,_⟩:=hf p.1 hb
   obtain ⟨o,e',d⟩:=ho p.1 hb
   rw[e] at e';cases e'
   exact ⟨e,f0,f1,f2,d⟩
theorem g9.unpinned {pins pl:List (Addr×Obj)}{σ:St}{H:Hp}{s:Shared}(I:g9 X (pins++pl) σ H s):g9 X pins σ H s:=I.pins_of fun p hp=>I.pin p (dh6 _ (dk4 _ hp))
theorem n0 {iter:Expr}{body:List Stmt}{wi:TI}{g:TG}{tb:TS}{pos:Pos}(hp:PassesOwn (model X.prog X.w) X.A X.env X.xe)(hc:X.calm=true)(hi:PI X tg iter wi)(hg:PG X tg g)(hb:PSs X body tb)
   (hs:∀x,foldedSetIterable iter X.env x=pure x:=by intro _;rfl):PS X (.For tg iter body [] pos) (db6 wi g tb):=by
 intro pins s σ H D I h
 refine wpAny_For (m7 (hi pins s σ H _ I h) fun v s1 h1=>m7 h1 fun itv s2 h2=> ?_) hs
 obtain ⟨it,fp,tn,J,H2,e,I2,T,st2,f2,W,⟨m0,w0⟩,turn⟩:=h2
 subst e
 have stat:∀{H':Hp},(∀b∈fp,H' b=none)→∀b∈fp,ag9 X pins H' b:=fun hn b hb=>⟨hn b hb,(f2 b hb).2⟩
 refine codeAny_forLoop_any (fun n s'=>∃i σ' H',g9 X pins σ' H' s'∧tn i s'.heap∧(∀b∈fp,H' b=none)∧W i n σ' H') ?_ m0 ⟨0,σ,H2,I2,st2,fun b hb=>(f2 b hb).1,w0⟩
 rintro n s3 ⟨i,σ3,H3,I3,st3,fr3,w3⟩
 rcases turn i n σ3 H3 w3 with ⟨stop,qn⟩|⟨go,N,hN,step⟩
 · refine wpAny_passesOwn hp (m7 (T.done X rfl rfl rfl hc i pins s3 σ3 H3 X.xe I3 (stat fr3) st3 stop) fun r s4 ⟨hr,I4⟩=> ?_)
   subst hr
   exact wpAny_execs_nil ⟨σ3,H3,I4,qn⟩
 · refine wpAny_passesOwn hp (m7 (T.item X rfl rfl rfl hc i pins s3 σ3 H3 X.xe I3 (stat fr3) st3 go) fun r s4 ⟨u,hr,h4⟩=> ?_)
   subst hr
   refine wpAny_passesOwn hp (m7 h4 fun _ s5 ⟨x,H5,I5,r5,y5,st5,fr5⟩=> ?_)
   have I5':=I5.pinned (stat fr5) (T.obj _ _ st5)
   refine wpAny_passesOwn hp (m7 (hg _ s5 σ3 H5 x u _ I5' r5 (step x H5 y5)) fun _ s6 ⟨σ6,H6,I6,q6⟩=> ?_)
   refine wpAny_passesOwn hp (m7 (hb _ s6 σ6 H6 _ I6 q6) fun f s7 q7=> ?_)
   have again:∀{σ7:St} {H7:Hp},g9 X (pins++X0 fp s5.heap) σ7 H7 s7→N σ7 H7→∃m,m < n∧∃i σ' H',g9 X pins σ' H' s7∧tn i s7.heap∧(∀b∈fp,H' b=none)∧W i m σ' H':=fun {σ7 H7} I7 n7=>by
     obtain ⟨m',hm,w7⟩:=hN σ7 H7 n7
     refine ⟨m',hm,i+1,σ7,H7,I7.unpinned,T.keep _ _ _ st5 fun b hb o e=>(I7.pin (b,o) (dh6 _ (dh6 _ (V9 hb e)))).1,fun b hb=> ?_,w7⟩
     obtain ⟨o,e,d⟩:=T.obj _ _ st5 b hb
     exact (I7.pin (b,o) (dh6 _ (dh6 _ (V9 hb e)))).2.1
   cases f with
   |next=>obtain ⟨σ7,H7,I7,n7⟩:=q7;exact again I7 n7
   |cont=>obtain ⟨σ7,H7,I7,n7⟩:=q7;exact again I7 n7
   |brk=>obtain ⟨σ7,H7,I7,q7⟩:=q7;exact ⟨σ7,H7,I7.unpinned,q7⟩
   |ret v=>obtain ⟨x7,σ7,H7,I7,r7,q7⟩:=q7;exact ⟨x7,σ7,H7,I7.unpinned,r7,q7⟩
end
theorem A3 {K:PySem.W.Frag}{a:Addr}{xs:List V}{g:TG}{tb:TS}{D:U8}{σ:St}{H:Hp}(Pv:Nat→St→Hp→Prop)(h0:Pv 0 σ H)(hl:∀i σ H,i≤xs.length→Pv i σ H→h8 K H a xs)
   (hs:∀i x σ H,xs[i]? =some x→Pv i σ H→g x σ H fun σ2 H2=>tb {D with nx:=Pv (i+1),ct:=Pv (i+1),bk:=D.nx} σ2 H2) (hd:∀σ H,Pv xs.length σ H→D.nx σ H):
   ∃W:Nat→Nat→St→Hp→Prop,(∃m,W 0 m σ H)∧∀i m σ H,W i m σ H→
    ((Itl K a).stop i H∧D.nx σ H)∨((Itl K a).go i H∧∃N:St→Hp→Prop,(∀σ' H',N σ' H'→∃m',m' < m∧W (i+1) m' σ' H')∧∀x H',(Itl K a).yld i H x H'→g x σ H' fun σ2 H2=>tb {D with nx:=N,ct:=N,bk:=D.nx} σ2 H2):=by
 refine ⟨fun i m σ H=>m=xs.length - i∧i≤xs.length∧Pv i σ H,⟨xs.length,by simp,dh2 _,h0⟩,?_⟩
 rintro i m σ H ⟨rfl,hi,p⟩
 have q:=hl i σ H hi p
 by_cases hlt:i < xs.length
 · refine .inr ⟨⟨xs,xs[i],q,by simp [hlt]⟩,Pv (i+1),fun σ' H' p'=>⟨xs.length - (i+1),by omega,rfl,hlt,p'⟩,fun x H' y=> ?_⟩
   obtain ⟨e,y⟩:=y
   subst e
   exact hs i x σ _ (y xs q) p
 · have e:i=xs.length:=by omega
   subst e
   exact .inl ⟨⟨xs,q,df2 _⟩,hd σ H p⟩
theorem G6 {lo:Int}{n:Nat}{g:TG}{tb:TS}{D:U8}{σ:St}{H:Hp}(Pv:Nat→St→Hp→Prop)(h0:Pv 0 σ H)
   (hs:∀i σ H,i < n→Pv i σ H→g (.int (lo+i)) σ H fun σ2 H2=>tb {D with nx:=Pv (i+1),ct:=Pv (i+1),bk:=D.nx} σ2 H2) (hd:∀σ H,Pv n σ H→D.nx σ H):
   ∃W:Nat→Nat→St→Hp→Prop,(∃m,W 0 m σ H)∧∀i m σ H,W i m σ H→
    ((Itr lo n).stop i H∧D.nx σ H)∨((Itr lo n).go i H∧∃N:St→Hp→Prop,(∀σ' H',N σ' H'→∃m',m' < m∧W (i+1) m' σ' H')∧∀x H',(Itr lo n).yld i H x H'→g x σ H' fun σ2 H2=>tb {D with nx:=N,ct:=N,bk:=D.nx} σ2 H2):=by
 refine ⟨fun i m σ H=>m=n - i∧i≤n∧Pv i σ H,⟨n,by simp,dh2 _,h0⟩,?_⟩
 rintro i m σ H ⟨rfl,hi,p⟩
 by_cases hlt:i < n
 · refine .inr ⟨hlt,Pv (i+1),fun σ' H' p'=>⟨n - (i+1),by omega,rfl,hlt,p'⟩,fun x H' y=> ?_⟩
   obtain ⟨e,y⟩:=y
   subst e y
   exact hs i σ _ hlt p
 · have e:i=n:=by omega
   subst e
   exact .inl ⟨df2 _,hd σ H p⟩
theorem be6 {c:TT}{tb:TS}{D:U8}{σ:St}{H:Hp}(Pv:St→Hp→Prop)(μ:St→Hp→Nat)(h0:Pv σ H)
   (hs:∀σ H,Pv σ H→c σ H fun b H1=>if b=true then tb {D with nx:=fun σ' H'=>Pv σ' H'∧μ σ' H' < μ σ H,ct:=fun σ' H'=>Pv σ' H'∧μ σ' H' < μ σ H,bk:=D.nx} σ H1 else D.nx σ H1)
   (mono:∀σ H Q Q',(∀b H1,Q b H1→Q' b H1)→c σ H Q→c σ H Q'):bw9 c tb D σ H:=by
 refine ⟨fun m σ H=>m=μ σ H∧Pv σ H,⟨_,rfl,h0⟩,?_⟩
 rintro m σ H ⟨rfl,p⟩
 refine mono σ H _ _ (fun b H1 q=> ?_) (hs σ H p)
 cases b with
 |true=>exact ⟨_,fun σ' H' ⟨p',l⟩=>⟨_,l,rfl,p'⟩,q⟩
 |false=>exact q
end L2
namespace L2
open PySem PySem.Spec PyProof.Rows
abbrev R2:=V→V→Hp→VK→Prop
def K6 (X:Cx)(f:Value→Value→Sem Value)(r:R2):Prop:=
 ∀(pins:List (Addr×Obj)) (s:Shared) (σ:St) (H:Hp) (x y:V) (v u:Value) (Q:VK),g9 X pins σ H s→m8 x v→m8 y u→r x y H Q→
  wpAny (model X.prog X.w) X.A (f v u) (EP X pins σ Q) X.xe s
def UnR (X:Cx)(f:Value→Sem Value)(r:V→Hp→VK→Prop):Prop:=
 ∀(pins:List (Addr×Obj)) (s:Shared) (σ:St) (H:Hp) (x:V) (v:Value) (Q:VK),g9 X pins σ H s→m8 x v→r x H Q→
  wpAny (model X.prog X.w) X.A (f v) (EP X pins σ Q) X.xe s
def N9 (X:Cx)(f:Value)(r:List V→Hp→VK→Prop):Prop:=
 ∀(pins:List (Addr×Obj)) (s:Shared) (σ:St) (H:Hp) (xs:List V) (us:List Value) (Q:VK),g9 X pins σ H s→j8 xs us→r xs H Q→
  wpAny (model X.prog X.w) X.A (call f us) (EP X pins σ Q) X.xe s
def tOp (r:R2)(ta tb:TE):TE:=fun σ H Q=>ta σ H fun x H1=>tb σ H1 fun y H2=>r x y H2 Q
def tUn (r:V→Hp→VK→Prop)(ta:TE):TE:=fun σ H Q=>ta σ H fun x H1=>r x H1 Q
def rI (C:Int→Int→Prop)(g:Int→Int→V):R2:=fun x y H Q=>∃i j,x= .int i∧y= .int j∧C i j∧Q (g i j) H
def rI0 (g:Int→Int→V):R2:=fun x y H Q=>∃i j,x= .int i∧y= .int j∧Q (g i j) H
def rU (g:Int→V):V→Hp→VK→Prop:=fun x H Q=>∃i,x= .int i∧Q (g i) H
section
variable {X:Cx} {a b c:Expr} {ta tb tc:TE} {pos:Pos}
theorem ce4 (ha:PE X a ta)(hb:PE X b tb){pins:List (Addr×Obj)}{s:Shared}{σ:St}{H:Hp}{R:V→V→Hp→Prop}(I:g9 X pins σ H s)
   (h:ta σ H fun x H1=>tb σ H1 fun y H2=>R x y H2) {Q:Value→Shared→Prop} {f:Value→Value→Sem Value}
   (hf:∀v u s2 x y H2,g9 X pins σ H2 s2→m8 x v→m8 y u→R x y H2→wpAny (model X.prog X.w) X.A (f v u) Q X.xe s2):
   wpAny (model X.prog X.w) X.A (eval a X.env) (fun v s₁=>wpAny (model X.prog X.w) X.A (eval b X.env) (fun u s₂=>wpAny (model X.prog X.w) X.A (f v u) Q X.xe s₂) X.xe s₁) X.xe s:=by
 refine m7 (ha pins s σ H _ I h) fun v s1 ⟨x,H1,I1,r1,q1⟩=> ?_
 refine m7 (hb pins s1 σ H1 _ I1 q1) fun u s2 ⟨y,H2,I2,r2,q2⟩=> ?_
 exact hf v u s2 x y H2 I2 r1 r2 q2
theorem i9 {op:Operator}{r:R2}(ho:K6 X (binaryOp op) r)(ha:PE X a ta)(hb:PE X b tb):PE X (.BinOp a op b pos) (tOp r ta tb):=by
 intro pins s σ H Q I h
 exact wpAny_BinOp (ce4 ha hb I h fun v u s2 x y H2 I2 rx ry q=>ho pins s2 σ H2 x y v u Q I2 rx ry q)
theorem cx1 {op:UnaryOp}{r:V→Hp→VK→Prop}(ho:UnR X (unaryOp op) r)(ha:PE X a ta):PE X (.UnaryOp op a pos) (tUn r ta):=by
 intro pins s σ H Q I h
 exact UnaryOp_ (m7 (ha pins s σ H _ I h) fun v s1 ⟨x,H1,I1,r1,q1⟩=>ho pins s1 σ H1 x v Q I1 r1 q1)
theorem opI {f:Value→Value→Sem Value}{C:Int→Int→Prop}{g:Int→Int→Int}
   (rule:∀(i j:Int) (t u:Tok) (s:Shared) (Q:Value→Shared→Prop) (E:Value→Shared→Prop),C i j→Q (.int (g i j) s.toks) {s with toks:=s.toks+1}→wpAny (model X.prog X.w) X.A (f (.int i t) (.int j u)) Q E s):
   K6 X f (rI C fun i j=> .int (g i j)):=by
 intro pins s σ H x y v u Q I rx ry h
 obtain ⟨i,j,rfl,rfl,hc,q⟩:=h
 obtain ⟨t,rfl⟩:=rx
 obtain ⟨t',rfl⟩:=ry
 exact rule i j t t' s _ _ hc ⟨.int (g i j),H,I.tok _,⟨_,rfl⟩,q⟩
theorem cq3 {f:Value→Value→Sem Value}{g:Int→Int→Int}
   (rule:∀(i j:Int) (t u:Tok) (s:Shared) (Q:Value→Shared→Prop) (E:Value→Shared→Prop),Q (.int (g i j) s.toks) {s with toks:=s.toks+1}→wpAny (model X.prog X.w) X.A (f (.int i t) (.int j u)) Q E s):
   K6 X f (rI0 fun i j=> .int (g i j)):=by
 intro pins s σ H x y v u Q I rx ry h
 obtain ⟨i,j,rfl,rfl,q⟩:=h
 obtain ⟨t,rfl⟩:=rx
 obtain ⟨t',rfl⟩:=ry
 exact rule i j t t' s _ _ ⟨.int (g i j),H,I.tok _,⟨_,rfl⟩,q⟩
theorem bs6 {f:Value→Value→Sem Value}{g:Int→Int→Bool}
   (rule:∀(i j:Int) (t u:Tok) (s:Shared) (Q:Value→Shared→Prop) (E:Value→Shared→Prop),Q (.bool (g i j)) s→wpAny (model X.prog X.w) X.A (f (.int i t) (.int j u)) Q E s):
   K6 X f (rI0 fun i j=> .bl (g i j)):=by
 intro pins s σ H x y v u Q I rx ry h
 obtain ⟨i,j,rfl,rfl,q⟩:=h
 obtain ⟨t,rfl⟩:=rx
 obtain ⟨t',rfl⟩:=ry
 exact rule i j t t' s _ _ ⟨.bl (g i j),H,I,rfl,q⟩
def db7 (i j:Int):Prop:=0 < j∧j < 1073741824
def cq4 (i j:Int):Prop:=0≤j∧j≤1000000∧i.natAbs < 2^64
def ce5 (i j:Int):Prop:=(-(2^64) < i∧i < 2^64)∨(-(2^64) < j∧j < 2^64)
theorem ce5.ok {i j:Int}(h:ce5 i j):IntMulOk i j:=by
 rcases h with ⟨h1,h2⟩|⟨h1,h2⟩
 · exact .of_left (intBits_le_64 h1 h2)
 · exact .of_right (intBits_le_64 h1 h2)
theorem B5:K6 X (binaryOp .Add) (rI0 fun i j=> .int (i+j)):=cq3 fun _ _ _ _ _ _ _ q=>add_int q
theorem aq4:K6 X (binaryOp .Sub) (rI0 fun i j=> .int (i - j)):=cq3 fun _ _ _ _ _ _ _ q=>sub_int q
theorem G9:K6 X (binaryOp .Mult) (rI ce5 fun i j=> .int (i*j)):=opI fun _ _ _ _ _ _ _ hc q=>mul_int q hc.ok
theorem aw1:K6 X (binaryOp .FloorDiv) (rI db7 fun i j=> .int (i/j)):=opI fun i j _ _ _ _ _ hc q=>by
 have h1:(0:Int) < j:=hc.1
 have h2:j < 1073741824:=hc.2
 exact floordiv_int (by omega) (by rw[dw7 i (by omega)];exact q) (.inl (PyProof.noPylong_small (by omega)))
theorem x9:K6 X (binaryOp .Mod) (rI (fun _ j=>0 < j) fun i j=> .int (i%j)):=opI fun i j _ _ _ _ _ hc q=>by
 have h1:(0:Int) < j:=hc
 exact mod_int' (by omega) (by rw[Int.fmod_eq_emod_of_nonneg i (by omega)];exact q)
theorem bx2:K6 X (binaryOp .Pow) (rI cq4 fun i j=> .int (i^j.toNat)):=opI fun _ _ _ _ _ _ _ hc q=>pow_int_small hc.1 hc.2.1 hc.2.2 q
theorem unI {f:Value→Sem Value}{g:Int→Int}
   (rule:∀(i:Int) (t:Tok) (s:Shared) (Q:Value→Shared→Prop) (E:Value→Shared→Prop),Q (.int (g i) s.toks) {s with toks:=s.toks+1}→wpAny (model X.prog X.w) X.A (f (.int i t)) Q E s):
   UnR X f (rU fun i=> .int (g i)):=by
 intro pins s σ H x v Q I rx h
 obtain ⟨i,rfl,q⟩:=h
 obtain ⟨t,rfl⟩:=rx
 exact rule i t s _ _ ⟨.int (g i),H,I.tok _,⟨_,rfl⟩,q⟩
theorem cq5:UnR X (unaryOp .USub) (rU fun i=> .int (-i)):=unI fun _ _ _ _ _ q=>neg_int q
end
def cq6:V→V→Bool
 | .non,.non=>true| .non,.int _=>true| .int _,.non=>true| .non,.bl _=>true| .bl _,.non=>true| .non,.str _=>true| .str _,.non=>true
 | .int _,.int _=>true| .bl _,.bl _=>true| .str _,.str _=>true| .byt _,.byt _=>true
 | .int _,.str _=>true| .str _,.int _=>true| .bl _,.str _=>true| .str _,.bl _=>true
 |_,_=>false
def rEq:R2:=fun x y H Q=>cq6 x y=true∧Q (.bl (decide (x=y))) H
def rNe:R2:=fun x y H Q=>cq6 x y=true∧Q (.bl (!decide (x=y))) H
theorem bo0 {i j:Int}:decide (V.int i=V.int j)=(i==j):=by
 rw[do5]
 simp
theorem bx3 {i j:Bool}:decide (V.bl i=V.bl j)=(i==j):=by
 rw[do5]
 simp
theorem bo1 {i j:Str}:decide (V.str i=V.str j)=(i==j):=by
 rw[do5]
 simp
theorem bo2 {i j:Array UInt8}:decide (V.byt i=V.byt j)=(i.toList==j.toList):=by
 rw[do5]
 cases i
 cases j
 simp
section
variable {X:Cx} {a b c:Expr} {ta tb tc:TE} {pos:Pos}
theorem p7 {pins:List (Addr×Obj)}{σ:St}{H:Hp}{s:Shared}{Q:VK}{k k':Bool}(I:g9 X pins σ H s)(q:Q (.bl k) H)(e:k=k'):EP X pins σ Q (.bool k') s:=by
 subst e
 exact ⟨.bl k,H,I,rfl,q⟩
theorem T7:K6 X (compareOp .Eq) rEq:=by
 intro pins s σ H x y v u Q I rx ry h
 obtain ⟨hs,q⟩:=h
 cases x with
 |non=>
  cases rx
  cases y with
  |non=>cases ry;exact PySem.EqNone.eq_none_none (p7 I q (by simp))
  |bl j=>cases ry;exact PySem.EqNone.eq_none_bool (p7 I q (by simp))
  |int j=>obtain ⟨t',rfl⟩:=ry;exact PySem.EqNone.eq_none_int (p7 I q (by simp))
  |str j=>obtain ⟨t',rfl⟩:=ry;exact PySem.EqNone.eq_none_str (p7 I q (by simp))
  |_=>exact absurd (show false=true from hs) dh5
 |bl i=>
  cases rx
  cases y with
  |non=>cases ry;exact PySem.EqNone.eq_bool_none (p7 I q (by simp))
  |bl j=>cases ry;exact eq_bool (p7 I q bx3)
  |str j=>obtain ⟨t',rfl⟩:=ry;exact PySem.EqMixed.eq_bool_str (p7 I q (by simp))
  |_=>exact absurd (show false=true from hs) dh5
 |int i=>
  obtain ⟨t,rfl⟩:=rx
  cases y with
  |non=>cases ry;exact PySem.EqNone.eq_int_none (p7 I q (by simp))
  |int j=>obtain ⟨t',rfl⟩:=ry;exact eq_int (p7 I q bo0)
  |str j=>obtain ⟨t',rfl⟩:=ry;exact PySem.EqMixed.eq_int_str (p7 I q (by simp))
  |_=>exact absurd (show false=true from hs) dh5
 |str i=>
  obtain ⟨t,rfl⟩:=rx
  cases y with
  |non=>cases ry;exact PySem.EqNone.eq_str_none (p7 I q (by simp))
  |bl j=>cases ry;exact PySem.EqMixed.eq_str_bool (p7 I q (by simp))
  |int j=>obtain ⟨t',rfl⟩:=ry;exact PySem.EqMixed.eq_str_int (p7 I q (by simp))
  |str j=>obtain ⟨t',rfl⟩:=ry;exact eq_str (p7 I q bo1)
  |_=>exact absurd (show false=true from hs) dh5
 |byt i=>
  obtain ⟨t,rfl⟩:=rx
  cases y with
  |byt j=>obtain ⟨t',rfl⟩:=ry;exact PySem.W.eq_bytes (p7 I q bo2)
  |_=>exact absurd (show false=true from hs) dh5
 |_=>cases y<;>exact absurd (show false=true from hs) dh5
theorem aq5:K6 X (compareOp .NotEq) rNe:=by
 intro pins s σ H x y v u Q I rx ry h
 obtain ⟨hs,q⟩:=h
 cases x with
 |non=>
  cases rx
  cases y with
  |non=>cases ry;exact PySem.EqNone.ne_none_none (p7 I q (by simp))
  |bl j=>cases ry;exact PySem.EqNone.ne_none_bool (p7 I q (by simp))
  |int j=>obtain ⟨t',rfl⟩:=ry;exact PySem.EqNone.ne_none_int (p7 I q (by simp))
  |str j=>obtain ⟨t',rfl⟩:=ry;exact PySem.EqNone.ne_none_str (p7 I q (by simp))
  |_=>exact absurd (show false=true from hs) dh5
 |bl i=>
  cases rx
  cases y with
  |non=>cases ry;exact PySem.EqNone.ne_bool_none (p7 I q (by simp))
  |bl j=>cases ry;exact ne_bool (p7 I q (congrArg not bx3))
  |str j=>obtain ⟨t',rfl⟩:=ry;exact PySem.EqMixed.ne_bool_str (p7 I q (by simp))
  |_=>exact absurd (show false=true from hs) dh5
 |int i=>
  obtain ⟨t,rfl⟩:=rx
  cases y with
  |non=>cases ry;exact PySem.EqNone.ne_int_none (p7 I q (by simp))
  |int j=>obtain ⟨t',rfl⟩:=ry;exact ne_int (p7 I q (congrArg not bo0))
  |str j=>obtain ⟨t',rfl⟩:=ry;exact PySem.EqMixed.ne_int_str (p7 I q (by simp))
  |_=>exact absurd (show false=true from hs) dh5
 |str i=>
  obtain ⟨t,rfl⟩:=rx
  cases y with
  |non=>cases ry;exact PySem.EqNone.ne_str_none (p7 I q (by simp))
  |bl j=>cases ry;exact PySem.EqMixed.ne_str_bool (p7 I q (by simp))
  |int j=>obtain ⟨t',rfl⟩:=ry;exact PySem.EqMixed.ne_str_int (p7 I q (by simp))
  |str j=>obtain ⟨t',rfl⟩:=ry;exact ne_str (p7 I q (congrArg not bo1))
  |_=>exact absurd (show false=true from hs) dh5
 |byt i=>
  obtain ⟨t,rfl⟩:=rx
  cases y with
  |byt j=>obtain ⟨t',rfl⟩:=ry;exact PySem.W.ne_bytes (p7 I q (congrArg not bo2))
  |_=>exact absurd (show false=true from hs) dh5
 |_=>cases y<;>exact absurd (show false=true from hs) dh5
theorem aq6:K6 X (compareOp .Lt) (rI0 fun i j=> .bl (decide (i < j))):=bs6 fun _ _ _ _ _ _ _ q=>lt_int q
theorem bs7:K6 X (compareOp .LtE) (rI0 fun i j=> .bl (decide (i≤j))):=bs6 fun _ _ _ _ _ _ _ q=>le_int q
theorem aq7:K6 X (compareOp .Gt) (rI0 fun i j=> .bl (decide (j < i))):=bs6 fun _ _ _ _ _ _ _ q=>gt_int q
theorem cj6:K6 X (compareOp .GtE) (rI0 fun i j=> .bl (decide (j≤i))):=bs6 fun _ _ _ _ _ _ _ q=>ge_int q
theorem bx4:K6 X (compareOp .Is) (fun x y H Q=>y= .non∧Q (.bl (decide (x= .non))) H):=by
 intro pins s σ H x y v u Q I rx ry h
 obtain ⟨rfl,q⟩:=h
 cases ry
 refine is_none_gen (p7 I q ?_)
 cases x<;>first
   |(cases rx;rfl)
   |(obtain ⟨t,rfl⟩:=rx;rfl)
theorem ck7:K6 X (compareOp .IsNot) (fun x y H Q=>y= .non∧Q (.bl (!decide (x= .non))) H):=by
 intro pins s σ H x y v u Q I rx ry h
 obtain ⟨rfl,q⟩:=h
 cases ry
 refine isnot_none_gen (p7 I q ?_)
 cases x<;>first
   |(cases rx;rfl)
   |(obtain ⟨t,rfl⟩:=rx;rfl)
theorem o3 (b:Expr){op:CmpOp}(h:op≠.In:=by decide)(h2:op≠.NotIn:=by decide):behindInMarks op b=false:=by
 have e1:(op==CmpOp.In)=false:=by cases op<;>first|rfl|exact absurd rfl h
 have e2:(op==CmpOp.NotIn)=false:=by cases op<;>first|rfl|exact absurd rfl h2
 cases b<;>simp [behindInMarks,e1,e2]
theorem ak2 {op:CmpOp}{r:R2}(ho:K6 X (compareOp op) r)(ha:PE X a ta)(hb:PE X b tb)(hm:behindInMarks op b=false):PE X (.Compare a [op] [b] pos) (tOp r ta tb):=by
 intro pins s σ H Q I h
 exact wpAny_Compare1 (ce4 ha hb I h fun v u s2 x y H2 I2 rx ry q=>ho pins s2 σ H2 x y v u Q I2 rx ry q) hm
def cx2 (t:TE):TT:=fun σ H Q=>t σ H fun x H'=>∃k,x= .bl k∧Q k H'
theorem n5 {op:CmpOp}{r:R2}(ho:K6 X (compareOp op) r)(ha:PE X a ta)(hb:PE X b tb)(hm:behindInMarks op b=false):PT X (.Compare a [op] [b] pos) (cx2 (tOp r ta tb)):=by
 intro pins s σ H Q I h
 refine wpAny_isTrue_Compare1 (m7 (ha pins s σ H _ I h) fun v s1 ⟨x,H1,I1,r1,q1⟩=>m7 (hb pins s1 σ H1 _ I1 q1) fun u s2 ⟨y,H2,I2,r2,q2⟩=>
   m7 (ho pins s2 σ H2 x y v u _ I2 r1 r2 q2) fun c s3 ⟨z,H3,I3,r3,k,e,q3⟩=> ?_) hm
 subst e
 cases r3
 exact wpAny_truthy_bool ⟨H3,I3,q3⟩
theorem aq8:(sizeLine:Nat) < 2^63:=by rw[sizeLine_eq];decide
theorem R3 {x:V}{us:List Value}(r:j8 [x] us):∃u,us=[u]∧m8 x u:=by
 cases r with
 |cons r1 r2=>cases r2;exact ⟨_,rfl,r1⟩
theorem bs8 {x y:V}{us:List Value}(r:j8 [x,y] us):∃u w',us=[u,w']∧m8 x u∧m8 y w':=by
 cases r with
 |cons r1 r2=>
  cases r2 with
  |cons r3 r4=>cases r4;exact ⟨_,_,rfl,r1,r3⟩
theorem bx5 (hc:X.calm=true):N9 X (.builtin "max") (fun xs H Q=>∃i j,xs=[.int i,.int j]∧Q (.int (if j > i then j else i)) H):=by
 intro pins s σ H xs us Q I r h
 obtain ⟨i,j,rfl,q⟩:=h
 obtain ⟨u,w',rfl,⟨t,rfl⟩,⟨t',rfl⟩⟩:=bs8 r
 refine max_two_ints (I.ok.hd hc) fun h' tk k=>⟨_,H,I.kept k,?_,q⟩
 by_cases hj:j > i
 · rw[if_pos hj,if_pos hj];exact ⟨_,rfl⟩
 · rw[if_neg hj,if_neg hj];exact ⟨_,rfl⟩
theorem bx6 (hc:X.calm=true):N9 X (.builtin "min") (fun xs H Q=>∃i j,xs=[.int i,.int j]∧Q (.int (if j < i then j else i)) H):=by
 intro pins s σ H xs us Q I r h
 obtain ⟨i,j,rfl,q⟩:=h
 obtain ⟨u,w',rfl,⟨t,rfl⟩,⟨t',rfl⟩⟩:=bs8 r
 refine min_two_ints (I.ok.hd hc) fun h' tk k=>⟨_,H,I.kept k,?_,q⟩
 by_cases hj:j < i
 · rw[if_pos hj,if_pos hj];exact ⟨_,rfl⟩
 · rw[if_neg hj,if_neg hj];exact ⟨_,rfl⟩
end
end L2
namespace L2
open PySem PySem.Spec PyProof.Rows
structure ce6 (h:Heap)(x dx C:Addr)(mA:Str→Option Value):Prop where
 obj:h.get? x=some (PySem.W.instObj C dx)
 ns:h.Ns1 dx mA
 ne:dx≠x
theorem bx7 {h:Heap}{dx:Addr}{mA:Str→Option Value}(n:h.Ns1 dx mA):∃od,h.get? dx=some od∧∀name,PySem.W.lookIn name od=some (mA name):=by
 obtain ⟨o,es,ep,ho,hd,hk,_,hm⟩:=n
 refine ⟨o,ho,fun name=> ?_⟩
 have e:=hm name
 unfold nsFind findBy at e
 rw[←Array.find?_toList] at e
 unfold PySem.W.lookIn
 rw[hd]
 dsimp only
 split
 · rename_i y q
   rw[q] at e
   exact congrArg some e
 · rename_i q
   rw[q] at e
   have a:es.toList.any (·.refKey)=false:=by
     rw[List.any_eq_false]
     intro y hy
     obtain ⟨z,t,hkey⟩:=hk y (Array.mem_toList_iff.mp hy)
     simp [DictEntry.refKey,hkey]
   have a':¬es.toList.any (·.refKey)=true:=by rw[a];exact dh5
   rw[if_neg a']
   exact congrArg some e
theorem ce6.look {h:Heap}{x dx C:Addr}{mA:Str→Option Value}(I:ce6 h x dx C mA):∃od,PySem.W.InstAt h x (PySem.W.instObj C dx) C (some od)∧∀name,PySem.W.lookIn name od=some (mA name):=
 let ⟨od,ho,hl⟩:=bx7 I.ns
 ⟨od,⟨I.obj,rfl,rfl,ho⟩,hl⟩
theorem W9.some_of {v:V}{o:Option Value}(r:W9 (some v) o):∃u,o=some u∧m8 v u:=by
 cases o with
 |none=>exact (show False from r).elim
 |some u=>exact ⟨u,rfl,r⟩
section
variable {P:Program} {w:World} {H H':Hp} {h h':Heap} {a C dx:Addr} {fs fs':List (Str×V)}
theorem ck8 (hok:E5 P w H h)(e:H a=some (.ins C dx fs)):∃mA,ce6 h a dx C mA∧(∀f,W9 (fs.lookup f) (mA f))∧PySem.Within mA (fs.map (·.1))∧fs.length≤1000∧H dx=some (.own a):=by
 obtain ⟨d,z,ne,ob,mA,n,r,q⟩:=(show q0 P w H h a (.ins C dx fs) from hok a _ e)
 exact ⟨mA,⟨ob,n,ne⟩,r,q,z,d⟩
end
structure Cls (K:PySem.W.Frag)(C:Addr):Prop where
 pg:PySem.W.plainGet K C Str.empty=true
 hd:PySem.W.hasDictIn K C=true
 po:PySem.W.plainOver K C=true
 sa:PySem.W.findIn K (.ref C) "__setattr__"=some (some (.builtin "object.__setattr__"))
theorem Cls.get {K:PySem.W.Frag}{C:Addr}(c:Cls K C)(f:Str):PySem.W.plainGet K C f=true:=c.pg
section
variable {X:Cx} {pins:List (Addr×Obj)} {σ:St} {H:Hp} {s:Shared} {A:Around} {E:Value→Shared→Prop} {Q:Value→Shared→Prop} {c:Value} {b:Bool}
inductive P4 (K:PySem.W.Frag)(H:Hp):V→Value→Prop where
 |non:P4 K H .non (.type "NoneType")
 |bl (x:Bool):P4 K H (.bl x) (.type "bool")
 |int (i:Int):P4 K H (.int i) (.type "int")
 |str (x:Str):P4 K H (.str x) (.type "str")
 |flt (x:UInt64):P4 K H (.flt x) (.type "float")
 |lst {a:Addr} {xs:List V} (e:H a=some (.lst xs)):P4 K H (.ref a) (.type "list")
 |frz {a:Addr} {o:Obj} {xs:List V} (e:H a=some (.frz o (.lst xs))):P4 K H (.ref a) (.type "list")
 |tup {a:Addr} {xs:List V} (e:H a=some (.tup xs)):P4 K H (.ref a) (.type "tuple")
 |dK {a:Addr} {kvs:List (n6×V)} (e:H a=some (.dK kvs)):P4 K H (.ref a) (.type "dict")
 |dT {a:Addr} {kvs:List (List n6×V)} (e:H a=some (.dT kvs)):P4 K H (.ref a) (.type "dict")
 |ins {a C dx:Addr} {fs:List (Str×V)} (e:H a=some (.ins C dx fs)) (cl:Cls K C) (ha:PySem.W.findIn K (.ref C) "__class__"=some (some (.builtin "object.__class__")))
     (hn:PySem.W.specialIn K (.builtin "object.__class__") "__get__"=some (some (.builtin "getset_descriptor.__get__"))) (htk:PySem.W.takesIn K (.builtin "object.__class__")=some true)
     (hm:PySem.W.mroIn K C (.type "object")=some true):P4 K H (.ref a) (.ref C)
theorem bx8 {x:V}{u t:Value}(I:g9 X pins σ H s)(rx:m8 x u)(ty:P4 X.K H x t)(e:PySem.W.kitOne X.K t c=some b)(h:∀tk,Q (.bool b) {s with toks:=tk}):
   wpAny (model X.prog X.w) A (call (.builtin "isinstance") [u,c]) Q E s:=by
 cases ty with
 |non=>cases (show u=Value.none from rx);exact PySem.W.kia_one PySem.W.kitx_none I.kIn True.intro e (fun z=>nomatch z) h
 |bl y=>cases (show u=Value.bool y from rx);exact PySem.W.kia_one PySem.W.kitx_bool I.kIn True.intro e (fun z=>nomatch z) h
 |int i=>obtain ⟨t,q⟩:=(show ∃t,u=Value.int i t from rx);cases q;exact PySem.W.kia_one PySem.W.kitx_int I.kIn True.intro e (fun z=>nomatch z) h
 |str y=>obtain ⟨t,q⟩:=(show ∃t,u=Value.str y t from rx);cases q;exact PySem.W.kia_one PySem.W.kitx_str I.kIn True.intro e (fun z=>nomatch z) h
 |flt y=>obtain ⟨t,q⟩:=(show ∃t,u=Value.float y t from rx);cases q;exact PySem.W.kia_one PySem.W.kitx_float I.kIn True.intro e (fun z=>nomatch z) h
 |@lst a xs ea=>
  cases (show u=Value.ref a from rx)
  obtain ⟨_,_,n,_,h1⟩:=(show q0 X.prog X.w H s.heap a (.lst xs) from I.hok a _ ea)
  exact PySem.W.kia_one PySem.W.kitx_list I.kIn ⟨_,h1,rfl⟩ e (fun z=>nomatch z) h
 |@frz a ob xs ea=>
  cases (show u=Value.ref a from rx)
  obtain ⟨_,_,_,n,_,h1⟩:=(show q0 X.prog X.w H s.heap a (.frz ob (.lst xs)) from I.hok a _ ea)
  exact PySem.W.kia_one PySem.W.kitx_list I.kIn ⟨_,h1,rfl⟩ e (fun z=>nomatch z) h
 |@tup a xs ea=>
  cases (show u=Value.ref a from rx)
  obtain ⟨_,_,_,p⟩:=(show q0 X.prog X.w H s.heap a (.tup xs) from I.hok a _ ea)
  obtain ⟨o,h1,h2,_⟩:=p
  exact PySem.W.kia_one PySem.W.kitx_tuple I.kIn ⟨o,h1,h2⟩ e (fun z=>nomatch z) h
 |@dK a kvs ea=>
  cases (show u=Value.ref a from rx)
  obtain ⟨_,_,vs,_,p⟩:=(show q0 X.prog X.w H s.heap a (.dK kvs) from I.hok a _ ea)
  obtain ⟨o,es,ep,h1,h2,_⟩:=p
  exact PySem.W.kia_one PySem.W.kitx_dict I.kIn ⟨o,h1,h2.1⟩ e (fun z=>nomatch z) h
 |@dT a kvs ea=>
  cases (show u=Value.ref a from rx)
  obtain ⟨_,_,xs,_,o,es,ep,h1,h2,_⟩:=(show q0 X.prog X.w H s.heap a (.dT kvs) from I.hok a _ ea)
  exact PySem.W.kia_one PySem.W.kitx_dict I.kIn ⟨o,h1,h2.1⟩ e (fun z=>nomatch z) h
 |@ins a C dx fs ea cl ha hn htk hm=>
  cases (show u=Value.ref a from rx)
  obtain ⟨mA,O,_⟩:=ck8 I.hok ea
  obtain ⟨od,J,_⟩:=O.look
  exact PySem.W.kia_one (PySem.W.kitx_own (cl.get _) cl.hd ha hn htk hm) I.kIn J e (fun z=>nomatch z) h
end
end L2
namespace L2
open PySem PySem.Spec PyProof.Rows
structure m9 (k:Nat)(A:Around):Prop where
 hd:A.handled=none
 dp:A.depth+3*k+5 < recursionLimit
 un:A.units+16*k+200 < cLine
 gd:A.guards=some []
theorem m9.mono {j k:Nat}{A:Around}(r:m9 k A)(h:j≤k):m9 j A:=⟨r.hd,by have:=r.dp;omega,by have:=r.un;omega,r.gd⟩
theorem m9.deeper {k:Nat}{A:Around}(r:m9 (k+1) A)(env:Env):m9 k (A.deeper env):=
 ⟨r.hd,by have:=r.dp;show A.depth+1+3*k+5 < _;omega,by have:=r.un;show A.units+3+16*k+200 < _;omega,r.gd⟩
theorem m9.depth {k:Nat}{A:Around}(r:m9 k A):A.depth < recursionLimit:=by have:=r.dp;omega
theorem m9.units {k:Nat}{A:Around}(r:m9 k A):A.units+64 < cLine:=by have:=r.un;omega
def bs9:TA:=fun _ H Q=>Q [] H
def bd4 (ta:TE)(tr:TA):TA:=fun σ H Q=>ta σ H fun x H1=>tr σ H1 fun xs H2=>Q (x::xs) H2
section
variable {X:Cx} {e:Expr} {es:List Expr} {te:TE} {t:TA} {pos:Pos}
theorem c6:PA X [] bs9:=fun _ _ _ _ H Q I h=>Calls.spliced_nil ⟨[],H,I,.nil,h⟩
theorem c5 (ha:PE X e te)(hr:PA X es t)(hs:starEach (e::es) X.env=(false,eval e X.env)::starEach es X.env:=by rfl):PA X (e::es) (bd4 te t):=by
 intro pos pins s σ H Q I h
 rw[hs]
 show wpAny _ _ (spliced ((false,eval e X.env)::backTo pos (starEach es X.env))) _ _ s
 refine Calls.spliced_cons (m7 (ha pins s σ H _ I h) fun u s1 ⟨x,H1,I1,r1,q1⟩=> ?_)
 exact m7 (hr pos pins s1 σ H1 _ I1 q1) fun us s2 ⟨xs,H2,I2,r2,q2⟩=>⟨x::xs,H2,I2,.cons r1 r2,q2⟩
def db8 (t:TA):TE:=fun σ H Q=>t σ H fun xs H1=>xs.length≤sizeLine∧∀p,H1 p=none→Q (.ref p) (e7 H1 p (.tup xs))
def db9 (t:TA):TE:=fun σ H Q=>t σ H fun xs H1=>xs.length≤sizeLine∧∀p,H1 p=none→Q (.ref p) (e7 H1 p (.lst xs))
theorem X1 {x1}(h:PA X es t):PE X (.Tuple es x1 pos) (db8 t):=by
 intro pins s σ H Q I hq
 refine wpAny_Tuple_spliced (m7 (h pos pins s σ H _ I hq) fun us s1 ⟨xs,H1,I1,r,z,q⟩=>⟨by rw[←r.length];exact z,?_⟩)
 have hf:H1 s1.heap.objs.size=none:=I1.hok.fresh (df2 _)
 refine ⟨.ref s1.heap.objs.size,e7 H1 s1.heap.objs.size (.tup xs),I1.laid (t':=s1.toks) (fun b u e=>Heap.get?_push_of_some _ e) (df2 _) ?_,rfl,q _ hf⟩
 exact ⟨z,us,r,⟨_,Heap.get?_push_size _ rfl,rfl,_,rfl⟩⟩
theorem r6 (h:PA X es t):PE X (.List es pos) (db9 t):=by
 intro pins s σ H Q I hq
 refine wpAny_List_spliced (m7 (h pos pins s σ H _ I hq) fun us s1 ⟨xs,H1,I1,r,z,q⟩=>⟨by rw[←r.length];exact z,?_⟩)
 have hf:H1 s1.heap.objs.size=none:=I1.hok.fresh (df2 _)
 refine ⟨.ref s1.heap.objs.size,e7 H1 s1.heap.objs.size (.lst xs),I1.laid (t':=s1.toks) (fun b u e=>Heap.get?_push_of_some _ e) (df2 _) ?_,rfl,q _ hf⟩
 exact ⟨z,us,0,r,Heap.get?_push_size _ rfl⟩
end
abbrev Sp:=List V→Hp→VK→XK→Prop
abbrev CXT:=List Env→Hp→Shared→XK→Value→Shared→Prop
structure bt0 (P:Program)(w:World)(K:PySem.W.Frag)(mg:Str→Option Value)(base:Heap)(A:Around)(outer:List Env)(s:Shared)(H:Hp):Prop where
 frames:A.frames=some outer
 mod:Mod K mg base
 bs:∀b o,base.get? b=some o→s.heap.get? b=some o∧H b=none
 bsz:base.objs.size≤s.heap.objs.size
 funs:s.heap.FunFrames base outer
 frf:∀b∈Z3 outer,H b=none
 hok:E5 P w H s.heap
 bare:AllBare s.gens
def CE (outer:List Env)(P:Program)(w:World)(H:Hp)(s:Shared)(Q:VK)(u:Value)(s':Shared):Prop:=
 ∃v H',s'.os=s.os∧AllBare s'.gens∧Un (Z3 outer) [] H H' s.heap s'.heap∧E5 P w H' s'.heap∧m8 v u∧Q v H'
def CR (CX:CXT)(outer:List Env)(P:Program)(w:World)(H:Hp)(s:Shared)(Q:VK)(E:XK)(r:Result)(s':Shared):Prop:=
 match r with
 | .ok (.ret u)=>CE outer P w H s Q u s'
 | .ok _=>False
 | .error e=>CX outer H s E e s'
structure o4 (P:Program)(w:World)(K:PySem.W.Frag)(mg:Str→Option Value)(base:Heap)(CX:CXT)(k:Nat)(f:Addr)(fd:FuncData)(ps:List Str)(sp:Sp):Prop where
 len:∀vs H Q E,sp vs H Q E→vs.length=ps.length
 run:∀(A:Around) (outer:List Env) (s:Shared) (H:Hp) (args:Args) (us:List Value) (vs:List V) (Q:VK) (E:XK),m9 k A→bt0 P w K mg base A outer s H→BindsTo s fd args (ps.zip us)→j8 vs us→sp vs H Q E→
   codeAny (model P w) A (.call (.ref f) args) (CR CX outer P w H s Q E) s
theorem o4.imp {P:Program}{w:World}{K:PySem.W.Frag}{mg:Str→Option Value}{base:Heap}{CX:CXT}{k:Nat}{f:Addr}{fd:FuncData}{ps:List Str}{sp sp':Sp}(F:o4 P w K mg base CX k f fd ps sp)
   (h:∀vs H Q E,sp' vs H Q E→sp vs H Q E):o4 P w K mg base CX k f fd ps sp':=
 ⟨fun vs H Q E q=>F.len vs H Q E (h _ _ _ _ q),fun A outer s H args us vs Q E hr he hb hv hs=>F.run A outer s H args us vs Q E hr he hb hv (h _ _ _ _ hs)⟩
section
variable {X:Cx} {pins:List (Addr×Obj)} {σ:St} {H:Hp} {s s':Shared}
theorem g9.env0 (I:g9 X pins σ H s):bt0 X.prog X.w X.K X.mg X.base X.A X.stack s H:=
 ⟨I.ok.frames,I.ok.mod,I.bs,dg5 I.ok.bsz I.sz,I.stack,I.stkFree,I.hok,I.bare⟩
theorem g9.after {Q:VK}{u:Value}(I:g9 X pins σ H s)(h:CE X.stack X.prog X.w H s Q u s'):EP X pins σ Q u s':=by
 obtain ⟨v,H',os,bare,un,hok,r,q⟩:=h
 obtain ⟨hh,g,d,t,os'⟩:=s'
 obtain rfl:os'=s.os:=os
 exact ⟨v,H',I.call (h':=hh) (g':=g) (d':=d) (t':=t) (ch:=[]) un hok bare (fun b z=>absurd z (by simp)),r,q⟩
end
def cj7 (sp:Sp)(dvs:List V)(E:XK)(t:TA):TE:=fun σ H Q=>t σ H fun vs H1=>sp (vs++dvs) H1 Q E
def ad8 (K:PySem.W.Frag)(fd:FuncData)(ps:List Str)(ds:List Value):Prop:=
 ∀(s:Shared) (us:List Value),K.In s.heap→(us++ds).length=ps.length→BindsTo s fd ⟨us,[]⟩ (ps.zip (us++ds))
theorem ad8.all {K:PySem.W.Frag}{fd:FuncData}{ps:List Str}(h:∀us:List Value,us.length=ps.length→bindArgs fd ⟨us,[]⟩=pure (ps.zip us)):ad8 K fd ps []:=fun s us _ hl=>by
 rw[dh7] at hl ⊢
 exact .of_eq (h us hl)
def be7 (CX:CXT)(X:Cx)(E:XK):Prop:=∀(pins:List (Addr×Obj)) (σ:St) (H:Hp) (s:Shared) (e:Value) (s':Shared),g9 X pins σ H s→CX X.stack H s E e s'→X.xe e s'
section
variable {X:Cx} {CX:CXT} {k:Nat} {f C:Addr} {fd:FuncData} {ps:List Str} {sp:Sp} {dvs:List V} {ds:List Value} {E:XK} {x m:Str} {p pos apos:Pos} {e o:Expr} {es:List Expr} {ta:TE} {t:TA}
theorem cq8 {pins:List (Addr×Obj)}{σ:St}{H:Hp}{s:Shared}{Q:VK}{us:List Value}{vs:List V}(F:o4 X.prog X.w X.K X.mg X.base CX k f fd ps sp)(hr:m9 k X.A)(hb:ad8 X.K fd ps ds)(hd:j8 dvs ds)(hx:be7 CX X E)
   (I:g9 X pins σ H s) (r:j8 vs us) (h:sp (vs++dvs) H Q E):wpAny (model X.prog X.w) X.A (call (.ref f) us) (EP X pins σ Q) X.xe s:=by
 have r2:j8 (vs++dvs) (us++ds):=r.append hd
 have hl:(us++ds).length=ps.length:=by rw[←r2.length];exact F.len _ _ _ _ h
 refine wpAny_call (codeAny_mono (F.run X.A X.stack s H ⟨us,[]⟩ (us++ds) (vs++dvs) Q E hr I.env0 (hb s us I.kIn hl) r2 h) fun r s' hq=> ?_)
 cases r with
 |error e=>exact hx pins σ H s e s' I hq
 |ok fl=>
  cases fl with
  |ret u=>exact I.after hq
  |next=>exact False.elim hq
  |brk=>exact False.elim hq
  |cont=>exact False.elim hq
theorem ck9 (F:o4 X.prog X.w X.K X.mg X.base CX k f fd ps sp)(hr:m9 k X.A)(hg:Gl X x)(hm:X.mg x=some (.ref f))(hk:PySem.W.keepIn X.K (.ref f)=true)(hb:ad8 X.K fd ps ds)(hd:j8 dvs ds)(hx:be7 CX X E)
   (ha:PA X (e::es) t) (hdb:(x==("__debug__":Str))=false:=by decide) (he:starEach (e::es) X.env=(false,eval e X.env)::starEach es X.env:=by rfl) (hpl:(backTo pos (starEach es X.env)).any (·.1)=false:=by rfl):
   PE X (.Call (.Name x p) (e::es) [] pos) (cj7 sp dvs E t):=by
 intro pins s σ H Q I h
 refine wpAny_Call_Name_kw (bn7 I hg hm ?_ hdb)
 refine PySem.W.callWith_K (h₀:=X.base) I.ok.mod.kin hk (m7 (ha pos pins s σ H _ I h) fun us s1 ⟨vs,H1,I1,r,q⟩=>⟨I1.kIn,?_⟩) he hpl
 exact cq8 F hr hb hd hx I1 r q
end
def PK (X:Cx)(kws:List Keyword)(t:TA):Prop:=
 ∀(pos:Pos) (pins:List (Addr×Obj)) (s:Shared) (σ:St) (H:Hp) (Q:List V→Hp→Prop),g9 X pins σ H s→t σ H Q→wpAny (model X.prog X.w) X.A (evalAll ((backToKw pos (keywordEach kws X.env)).map (·.2))) (AP X pins σ Q) X.xe s
section
variable {X:Cx} {CX:CXT} {k:Nat} {f C:Addr} {fd:FuncData} {ps ks:List Str} {sp:Sp} {E:XK} {x m:Str} {p pos apos kpos:Pos} {e o:Expr} {es:List Expr} {kws:List Keyword} {te ta:TE} {t tk:TA} {nm:Option Str}
theorem cq9:PK X [] bs9:=fun _ _ _ _ H Q I h=>wpAny_evalAll_nil ⟨[],H,I,.nil,h⟩
theorem cl0 (ha:PE X e te)(hr:PK X kws t):PK X (⟨nm,e,kpos⟩::kws) (bd4 te t):=by
 intro pos pins s σ H Q I h
 show wpAny _ _ (evalAll ((do let v ←eval e X.env;standAt pos;pure v)::(backToKw pos (keywordEach kws X.env)).map (·.2))) _ _ s
 refine wpAny_evalAll_cons (wpAny_bind (m7 (ha pins s σ H _ I h) fun u s1 ⟨x,H1,I1,r1,q1⟩=>wpAny_bind (wpAny_standAt (wpAny_pure ?_))))
 exact m7 (hr pos pins s1 σ H1 _ I1 q1) fun us s2 ⟨xs,H2,I2,r2,q2⟩=>⟨x::xs,H2,I2,.cons r1 r2,q2⟩
variable {g:List Value→List Value→List Value} {gV:List V→List V→List V}
end
structure l5 (N P:List Str)(sc:Scope):Prop where
 kind:sc.kind= .function
 co:sc.isCoroutine=false
 gen:sc.isGenerator=false
 nd:N.Nodup
 pre:N.take P.length=P
 par:∀x∈P,sc.names.lookup x=some .local∨sc.names.lookup x=some .cell
 nofree:∀y∈sc.names,y.2≠.free
theorem ba0 {kindOf:Str→Option NameKind}{x:Str}:∀{binds:List (Str×Value)} {m:Str→Option Value},(∀v,(x,v)∉binds)→bindL kindOf binds m x=m x
 |[],_,_=>rfl
 |(n,v)::r,m,h=>by
  unfold bindL
  rw[ba0 fun w hw=>h w (df6 _ hw)]
  split
  · have:x≠n:=by rintro rfl;exact h v df4
    simp [this]
  · rfl
theorem ba1 {kindOf:Str→Option NameKind}{x:Str}:∀{binds:List (Str×Value)} {m:Str→Option Value},(∀v,(x,v)∉binds)→bindC kindOf binds m x=m x
 |[],_,_=>rfl
 |(n,v)::r,m,h=>by
  unfold bindC
  rw[ba1 fun w hw=>h w (df6 _ hw)]
  split
  · rfl
  · have:x≠n:=by rintro rfl;exact h v df4
    simp [this]
theorem ba2 {kindOf:Str→Option NameKind}{x:Str}{v:Value}:∀{P:List Str} {vs:List Value} {i:Nat} {m:Str→Option Value},P.Nodup→P[i]? =some x→vs[i]? =some v→kindOf x=some .local→
   bindL kindOf (P.zip vs) m x=some v
 |[],_,_,_,_,h,_,_=>by simp at h
 |_::_,[],_,_,_,_,h,_=>by simp at h
 |p::P,w::vs,0,m,nd,h1,h2,hk=>by
  simp at h1 h2;subst h1;subst h2
  show bindL kindOf ((p,w)::P.zip vs) m p=_
  unfold bindL
  rw[ba0 fun v hv=>(dj3.mp nd).1 (dy6 hv).1,if_pos hk]
  simp
 |p::P,w::vs,i+1,m,nd,h1,h2,hk=>by
  show bindL kindOf ((p,w)::P.zip vs) m x=_
  unfold bindL
  exact ba2 (i:=i) (dj3.mp nd).2 (by simpa using h1) (by simpa using h2) hk
theorem ba3 {kindOf:Str→Option NameKind}{x:Str}{v:Value}:∀{P:List Str} {vs:List Value} {i:Nat} {m:Str→Option Value},P.Nodup→P[i]? =some x→vs[i]? =some v→kindOf x≠some .local→
   bindC kindOf (P.zip vs) m x=some v
 |[],_,_,_,_,h,_,_=>by simp at h
 |_::_,[],_,_,_,_,h,_=>by simp at h
 |p::P,w::vs,0,m,nd,h1,h2,hk=>by
  simp at h1 h2;subst h1;subst h2
  show bindC kindOf ((p,w)::P.zip vs) m p=_
  unfold bindC
  rw[ba1 fun v hv=>(dj3.mp nd).1 (dy6 hv).1,if_neg hk]
  simp
 |p::P,w::vs,i+1,m,nd,h1,h2,hk=>by
  show bindC kindOf ((p,w)::P.zip vs) m x=_
  unfold bindC
  exact ba3 (i:=i) (dj3.mp nd).2 (by simpa using h1) (by simpa using h2) hk
def W0 (N:List Str)(vs:List V):St:=vs.map some++di6 (N.length - vs.length) none
def aw2 (CX:CXT)(P:Program)(w:World)(K:PySem.W.Frag)(mg:Str→Option Value)(base:Heap)(N:List Str)(qual:Str)(scope:Scope)(f:Addr)(cd:Value)(A:Around)(outer:List Env)(s:Shared)(H:Hp)(E:XK):Cx where
 prog:=P
 w:=w
 K:=K
 mg:=mg
 base:=base
 A:=A.deeper (envOfC qual scope s.heap.objs.size f cd)
 N:=N
 s₀:=s
 H₀:=H
 env:=envOfC qual scope s.heap.objs.size f cd
 outer:=outer
 stack:=envOfC qual scope s.heap.objs.size f cd::outer
 ex:=[]
 calm:=true
 fn:=fun _=>true
 pn:=[]
 xe:=fun e s'=>wpAny (model P w) (A.deeper (envOfC qual scope s.heap.objs.size f cd)) (leaving (envOfC qual scope s.heap.objs.size f cd) e) (fun _ s''=>CX outer H s E e s'') (fun e' s''=>CX outer H s E e' s'') s'
theorem be8 {sc:Scope}{n:Nat}{x:Str}(h:sc.names.lookup x=some .cell):∃c,(cellsFrom n sc.names []).lookup x=some c:=by
 have q:=PySem.W.cellsFrom_some sc.names n [] (.inl h)
 exact Option.isSome_iff_exists.mp q
theorem bx9 {CX:CXT}{P:Program}{w:World}{K:PySem.W.Frag}{mg:Str→Option Value}{base:Heap}{N ps:List Str}{qual:Str}{scope:Scope}{f:Addr}{cd:Value}{A:Around}{outer:List Env}{s s1:Shared}{H:Hp}{E:XK}{us:List Value}{vs:List V}
   (S:l5 N ps scope) (hd:A.handled=none) (e0:bt0 P w K mg base A outer s H) (hl:vs.length=ps.length) (r:j8 vs us)
   (x:InCallC s s.heap.objs.size (bindL (envOfC qual scope s.heap.objs.size f cd).kindOf (ps.zip us) fun _=>none) (cellsFrom (s.heap.objs.size+1) scope.names []) (bindC (envOfC qual scope s.heap.objs.size f cd).kindOf (ps.zip us) fun _=>none) s1):
   g9 (aw2 CX P w K mg base N qual scope f cd A outer s H E) [] (W0 N vs) H s1:=by
 have hpl:ps.length≤N.length:=by have:=congrArg du4 S.pre;rw[dg7] at this;omega
 obtain ⟨h1,tk,rfl,hk⟩:=x.done
 have noA:∀b:Addr,b∉(aw2 CX P w K mg base N qual scope f cd A outer s H E).ex:=fun b z=>absurd (show b∈([]:List Addr) from z) (by simp)
 refine ⟨⟨e0.mod,S.kind,rfl,rfl,df2 _,fun y z c h1 h2=> ?_,fun y hy=> ?_,fun y c _ h=> ?_,fun _=>hd,Around.frames_deeper e0.frames,.inr ⟨rfl,rfl⟩,fun b z=>absurd z (noA b),e0.bs,e0.bsz,fun b _ _=>noA b,fun b z=>absurd z (noA b),e0.funs,e0.frf⟩,
   rfl,e0.bare,Un.kept hk,⟨_,x.toInCall.ns,fun i y v h1 h2 h3=> ?_⟩,fun y c h=>⟨_,x.cell y c h⟩,e0.hok.fresh (df2 _),fun y c h=> ?_,fun p hp=>absurd (show p∈([]:List (Addr×Obj)) from hp) (by simp),e0.hok.kept hk,?_⟩
 · exact name_of_addr x.apart (PySem.mem_of_lookup h1) (PySem.mem_of_lookup h2)
 · have hy:scope.names.lookup y=some .cell∨scope.names.lookup y=some .free:=hy
   rcases hy with hy|hy
   · exact be8 hy
   · exact absurd rfl (S.nofree _ (PySem.mem_of_lookup hy))
 · exact dl0 (x.above y c (PySem.mem_of_lookup h))
 · have hi:i < vs.length:=by
     unfold W0 at h2
     by_cases hi:i < vs.length
     · exact hi
     · rw[di8 (by simpa using hi)] at h2
       rw[dx9] at h2
       split at h2<;>cases h2
   have ha:vs[i]? =some v:=by
     unfold W0 at h2
     rw[di1 (by simpa using hi),df3] at h2
     cases e:vs[i]? with
     |none=>rw[e] at h2;cases h2
     |some a=>rw[e] at h2;cases h2;rfl
   obtain ⟨u,hu,rv⟩:=r.get ha
   have hp:ps[i]? =some y:=by
     rw[←S.pre,dk2 (by omega)];exact h1
   have ndP:ps.Nodup:=by rw[←S.pre];exact S.nd.sublist (List.take_sublist _ _)
   refine ⟨u,rv,?_⟩
   rcases S.par y (dg1 hp) with k|k
   · exact .inl ⟨k,ba2 ndP hp hu k⟩
   · obtain ⟨c,e⟩:=be8 (n:=s.heap.objs.size+1) k
     refine .inr ⟨.inl k,c,e,?_⟩
     have q:=x.cell y c e
     rw[ba3 ndP hp hu (by show scope.names.lookup y≠_;rw[k];decide)] at q
     exact q
 · exact e0.hok.fresh (dl0 (x.above y c (PySem.mem_of_lookup h)))
 · unfold W0
   show _=N.length
   rw[df7,de9,dp9]
   omega
theorem cx3 {CX:CXT}{P:Program}{w:World}{K:PySem.W.Frag}{mg:Str→Option Value}{base:Heap}{k:Nat}{f:Addr}{name qual:Str}{params:Arguments}{body:List Stmt}{scope:Scope}{dV kV doc pm cdv ct oc:Value}{an od:Option Addr}
   {osl:Array (Option Value)} {N ps:List Str} {sp:Sp} (lk:K.lookup f=some ⟨oc,od,.func (PySem.W.fnOf name qual params body scope dV kV doc pm an cdv ct),osl⟩) (hcd:PySem.W.codeIn K cdv qual=true) (S:l5 N ps scope)
   (len:∀vs H Q E,sp vs H Q E→vs.length=ps.length)
   (hbody:∀(A:Around) (outer:List Env) (s:Shared) (H:Hp) (vs:List V) (Q:VK) (E:XK),m9 k (A.deeper (envOfC qual scope s.heap.objs.size f cdv))→sp vs H Q E→
     ∃t,PSs (aw2 CX P w K mg base N qual scope f cdv A outer s H E) body t∧t {nx:=fun _ H'=>Q .non H',rt:=Q} (W0 N vs) H):
   o4 P w K mg base CX (k+1) f (PySem.W.fnOf name qual params body scope dV kV doc pm an cdv ct) ps sp:=by
 refine ⟨len,fun A outer s H args us vs Q E hr e0 hb r hsp=> ?_⟩
 have hl:=len _ _ _ _ hsp
 have KX:K.In s.heap:=e0.mod.kin.keeps fun b o e=>(e0.bs b o e).1
 have lim:s.heap.NoLimit:=e0.mod.nolimit.keeps fun b o e=>(e0.bs b o e).1
 have hkind:∀y∈ps.zip us,scope.names.lookup y.1=some .local∨(scope.names.lookup y.1=some .cell∧((cellsFrom (s.heap.objs.size+1) scope.names []).lookup y.1).isSome=true):=fun ⟨n,v⟩ hy=>by
   rcases S.par n (dy6 hy).1 with q|q
   · exact .inl q
   · exact .inr ⟨q,PySem.W.cellsFrom_some _ _ _ (.inl q)⟩
 refine codeAny_call_function hr.depth (KX _ _ lk) rfl S.co S.gen rfl (PySem.W.codeRec_of KX hcd) (hb _ _ _ _ ?_)
 refine wpAny_newFunctionEnv_cells S.kind hkind fun env he s1 x=> ?_
 subst he
 refine ⟨lim.keeps x.toInCall.keep,codeAny_func ?_⟩
 obtain ⟨t,ht,hq⟩:=hbody A outer s H vs Q E (hr.deeper _) hsp
 have I:g9 (aw2 CX P w K mg base N qual scope f cdv A outer s H E) [] (W0 N vs) H s1:=bx9 S hr.hd e0 hl r x
 refine wpAny_mono (ht [] s1 (W0 N vs) H _ I hq) (fun fl s' hs=> ?_) fun e s' hs=>hs
 have fin:∀{σ':St} {H':Hp} {v:V} {u:Value},g9 (aw2 CX P w K mg base N qual scope f cdv A outer s H E) [] σ' H' s'→m8 v u→Q v H'→CE outer P w H s Q u s':=
   fun {σ' H' v u} J rv q=>⟨v,H',J.os,J.bare,J.base,J.hok,rv,q⟩
 cases fl with
 |ret u=>
  obtain ⟨v,σ',H',J,rv,q⟩:=hs
  exact fin J rv q
 |next=>
  obtain ⟨σ',H',J,q⟩:=hs
  exact fin (v:=V.non) (u:=Value.none) J rfl q
 |brk=>
  obtain ⟨_,_,_,q⟩:=hs
  exact False.elim q
 |cont=>
  obtain ⟨_,_,_,q⟩:=hs
  exact False.elim q
end L2
namespace L2
open PySem PySem.Spec PyProof.Rows
section
variable {X:Cx} {x:Str} {p pos:Pos} {e:Expr} {es:List Expr} {t:TA} {id T:String} {r:List V→Hp→VK→Prop}
def Z6 (r:List V→Hp→VK→Prop)(t:TA):TE:=fun σ H Q=>t σ H fun vs H1=>r vs H1 Q
theorem P5 (hc:N9 X (.builtin id) r)(hg:Gl X x)(hm:X.mg x=none)(hv:bootBuiltins x=some (.builtin id))(ha:PA X (e::es) t)(hn:x≠"__name__":=by decide)(hdb:(x==("__debug__":Str))=false:=by decide)
   (he:starEach (e::es) X.env=(false,eval e X.env)::starEach es X.env:=by rfl) (hpl:(backTo pos (starEach es X.env)).any (·.1)=false:=by rfl):PE X (.Call (.Name x p) (e::es) [] pos) (Z6 r t):=by
 intro pins s σ H Q I h
 refine wpAny_Call_Name_kw (T9 I hg hm hv ?_ hn hdb)
 exact PyProof.Rows.callWith_builtin1 (m7 (ha pos pins s σ H _ I h) fun us s1 ⟨vs,H1,I1,r1,q1⟩=>hc pins s1 σ H1 vs us Q I1 r1 q1) he hpl
theorem ah0 (hc:N9 X (.type T) r)(hg:Gl X x)(hm:X.mg x=none)(hv:bootBuiltins x=some (.type T))(ha:PA X (e::es) t)(hn:x≠"__name__":=by decide)(hdb:(x==("__debug__":Str))=false:=by decide)
   (he:starEach (e::es) X.env=(false,eval e X.env)::starEach es X.env:=by rfl) (hpl:(backTo pos (starEach es X.env)).any (·.1)=false:=by rfl):PE X (.Call (.Name x p) (e::es) [] pos) (Z6 r t):=by
 intro pins s σ H Q I h
 refine wpAny_Call_Name_kw (T9 I hg hm hv ?_ hn hdb)
 exact PyProof.Rows.callWith_type1 (m7 (ha pos pins s σ H _ I h) fun us s1 ⟨vs,H1,I1,r1,q1⟩=>hc pins s1 σ H1 vs us Q I1 r1 q1) he hpl
end
end L2
namespace HT
open PySem PyProof.Rows
def ak3:List Int→List Int→Bool
 |[],[]=>false
 |[],_::_=>true
 |_::_,[]=>false
 |x::xs,y::ys=>if x=y then ak3 xs ys else decide (x < y)
theorem bt1 (x y:Int)(xs ys:List Int):ak3 (x::xs) (y::ys)=if x=y then ak3 xs ys else decide (x < y):=rfl
theorem cl1 (y:Int)(ys:List Int):ak3 [] (y::ys)=true:=rfl
theorem ce7 (A:Around)(s:Shared)(a:Int)(t:Tok)(c:Int)(u:Tok):∃e,SeqAt.EqAt A s (.int a t) (.int c u) e∧(e=true↔a=c):=
 ⟨(a==c),SeqAt.EqAt.int_int a t c u,by simp⟩
theorem ce8 (A:Around)(s:Shared)(a:Int)(t:Tok)(c:Int)(u:Tok)(prog:Program)(w:World)(E:Value→Shared→Prop)(Q:Value→Shared→Prop)(h:Q (.bool (decide (a < c))) s):
   wpAny (model prog w) A (richCompare .Lt (.int a t) (.int c u)) Q E s:=
 (PyProof.Rows.lt_int h:wpAny (model prog w) A (compareOp .Lt (.int a t) (.int c u)) Q E s)
section
variable {prog:Program} {w:World} {A:Around} {E:Value→Shared→Prop} {s:Shared}
def sIx (n d:Nat):Option Int→Nat
 |none=>d
 |some v=>if v < 0 then (v+(n:Int)).toNat else min v.toNat n
theorem dc0 (n d:Nat):sIx n d none=d:=rfl
theorem dd3 (n d k:Nat):sIx n d (some (k:Int))=min k n:=by
 show (if (k:Int) < 0 then ((k:Int)+(n:Int)).toNat else min (k:Int).toNat n)=min k n
 rw[if_neg (by omega),di4]
end
end HT
namespace L2
open PySem PySem.Spec PyProof.Rows
abbrev TO:=St→Hp→(Option Int→Hp→Prop)→Prop
def PO (X:Cx)(e:Option Expr)(t:TO):Prop:=
 ∀(pins:List (Addr×Obj)) (s:Shared) (σ:St) (H:Hp) (Q:Option Int→Hp→Prop),g9 X pins σ H s→t σ H Q→
  wpAny (model X.prog X.w) X.A (evalPart e X.env) (fun u s'=>∃o H',g9 X pins σ H' s'∧IsPart u o∧Q o H') X.xe s
def cl2:TO:=fun _ H Q=>Q none H
def cx4 (t:TE):TO:=fun σ H Q=>t σ H fun x H1=>∃i,x= .int i∧Q (some i) H1
theorem W1 {ns:List Int}:∀{us:List Value},j8 (ns.map V.int) us→IntsAre us ns:=by
 induction ns with
 |nil=>intro us r;rw[ds7] at r;cases r;exact .nil
 |cons n ns ih=>
  intro us r
  rw[dj0] at r
  cases r with
  |cons r1 r2=>
   obtain ⟨t,e⟩:=r1
   subst e
   exact .cons n t (ih r2)
section
variable {X:Cx} {e:Expr} {te:TE} {lo hi:Option Expr} {tl th:TO} {pos p2:Pos}
theorem ab9:PO X none cl2:=by
 intro pins s σ H Q I h
 rw[evalPart_none]
 exact wpAny_pure ⟨none,H,I,.none,h⟩
theorem Q4 (h:PE X e te):PO X (some e) (cx4 te):=by
 intro pins s σ H Q I hw
 rw[evalPart_some]
 refine m7 (h pins s σ H _ I hw) fun u s1 ⟨x,H1,I1,r1,q1⟩=> ?_
 obtain ⟨i,rfl,q⟩:=q1
 obtain ⟨t,rfl⟩:=r1
 exact ⟨some i,H1,I1,.int i t,q⟩
def SlR (X:Cx)(r:V→Option Int→Option Int→Hp→VK→Prop):Prop:=
 ∀(pins:List (Addr×Obj)) (s:Shared) (σ:St) (H:Hp) (x:V) (v vl vu:Value) (lo hi:Option Int) (sl:Addr) (Q:VK),g9 X pins σ H s→m8 x v→s.heap.IsSliceOf sl vl vu .none→IsPart vl lo→IsPart vu hi→r x lo hi H Q→
  ∃T id,typeLookup (.type T) "__getitem__"=pure (some (.builtin id))∧s.TypeIs v T∧wpAny (model X.prog X.w) X.A (getItem v (.ref sl)) (EP X pins σ Q) X.xe s
def tSl (r:V→Option Int→Option Int→Hp→VK→Prop)(te:TE)(tl th:TO):TE:=fun σ H Q=>te σ H fun x H1=>tl σ H1 fun l H2=>th σ H2 fun u H3=>r x l u H3 Q
theorem S3 {r:V→Option Int→Option Int→Hp→VK→Prop}(hr:SlR X r)(he:PE X e te)(hl:PO X lo tl)(hu:PO X hi th):PE X (.Subscript e (.Slice lo hi none p2) pos) (tSl r te tl th):=by
 intro pins s σ H Q I h
 refine Subscript_ (m7 (he pins s σ H _ I h) fun v s1 ⟨x,H1,I1,r1,q1⟩=> ?_)
 refine wpAny_Slice (m7 (hl pins s1 σ H1 _ I1 q1) fun vl s2 ⟨l,H2,I2,pl,q2⟩=>m7 (hu pins s2 σ H2 _ I2 q2) fun vu s3 ⟨u,H3,I3,pu,q3⟩=> ?_)
 rw[evalPart_none]
 refine wpAny_pure ?_
 have I4:g9 X pins σ H3 {s3 with heap:=s3.heap.push {cls:= .type "slice",data:= .fields #[vl,vu,.none]}}:=I3.kept (t':=s3.toks) fun b ob q=>Heap.get?_push_of_some _ q
 obtain ⟨T,id,hT,ht,hg⟩:=hr pins {s3 with heap:=s3.heap.push {cls:= .type "slice",data:= .fields #[vl,vu,.none]}} σ H3 x v vl vu l u s3.heap.objs.size Q I4 r1 (Heap.IsSliceOf.new ..) pl pu q3
 show wpAny (model X.prog X.w) X.A (subscriptTail e (.Slice lo hi none p2) v (.ref s3.heap.objs.size)) (EP X pins σ Q) X.xe {s3 with heap:=s3.heap.push {cls:= .type "slice",data:= .fields #[vl,vu,.none]}}
 exact tail_any (ops:=[.ref s3.heap.objs.size,v]) ht hT hg (by with_unfolding_all rfl)
def U9 (xs:List V)(lo hi:Option Int):List V:=(xs.drop (HT.sIx xs.length 0 lo)).take (HT.sIx xs.length xs.length hi - HT.sIx xs.length 0 lo)
theorem bm4 (xs:List V)(lo hi:Option Int):(U9 xs lo hi).length≤xs.length:=by
 unfold U9
 rw[dg7,di0]
 omega
end
end L2
namespace L2
open PySem PySem.Spec PyProof.Rows
def ixN (n:Nat)(i:Int):Option Nat:=if 0≤i then (if i < n then some i.toNat else none) else if -(n:Int)≤i then some (i+n).toNat else none
def atI {α:Type}(xs:List α)(i:Int):Option α:=(ixN xs.length i).bind fun j=>xs[j]?
theorem aw3 {n:Nat}{i:Int}{j:Nat}(h:ixN n i=some j):seqIndex? i n=some j∧j < n∧ -(n:Int)≤i∧i < n:=by
 unfold ixN at h
 by_cases h0:0≤i
 · rw[if_pos h0] at h
   by_cases h1:i < n
   · rw[if_pos h1] at h
     have e:i.toNat=j:=Option.some.inj h
     exact ⟨by rw[seqIndex_of h0 h1,e],by omega,by omega,h1⟩
   · rw[if_neg h1] at h;cases h
 · rw[if_neg h0] at h
   by_cases h1: -(n:Int)≤i
   · rw[if_pos h1] at h
     have e:(i+n).toNat=j:=Option.some.inj h
     exact ⟨by rw[seqIndex_neg (by omega) h1,e],by omega,h1,by omega⟩
   · rw[if_neg h1] at h;cases h
theorem bo3 {α:Type}{xs:List α}{i:Int}{v:α}(h:atI xs i=some v):∃j,seqIndex? i xs.length=some j∧xs[j]? =some v∧j < xs.length∧ -(xs.length:Int)≤i∧i < xs.length:=by
 unfold atI at h
 cases e:ixN xs.length i with
 |none=>rw[e] at h;cases h
 |some j=>
  rw[e] at h
  obtain ⟨h1,h2,h3,h4⟩:=aw3 e
  exact ⟨j,h1,h,h2,h3,h4⟩
theorem B6 {α:Type}{xs:List α}{j:Nat}{v:α}(h:xs[j]? =some v):atI xs (j:Int)=some v:=by
 have hj:j < xs.length:=(df1.mp h).1
 have e:ixN xs.length (j:Int)=some j:=by
   unfold ixN
   rw[if_pos (by omega),if_pos (by omega)];simp
 unfold atI;rw[e];exact h
def cl3 (b:Expr):Prop:=∀o i,subscripted b false o i=operate [o,i] (getItem o i)
def IxR (X:Cx)(r:R2):Prop:=
 ∀(value slice:Expr) (pins:List (Addr×Obj)) (s:Shared) (σ:St) (H:Hp) (x y:V) (v u:Value) (Q:VK),g9 X pins σ H s→m8 x v→m8 y u→r x y H Q→
  subscripted slice false v u=operate [v,u] (getItem v u)→wpAny (model X.prog X.w) X.A (subscriptTail value slice v u) (EP X pins σ Q) X.xe s
def MtR (X:Cx)(id:String)(r:V→List V→Hp→VK→Prop):Prop:=
 ∀(pins:List (Addr×Obj)) (s:Shared) (σ:St) (H:Hp) (x:V) (xs:List V) (v:Value) (us:List Value) (Q:VK),g9 X pins σ H s→m8 x v→j8 xs us→r x xs H Q→
  wpAny (model X.prog X.w) X.A (call (.builtin id) (v::us)) (EP X pins σ Q) X.xe s
section
variable {X:Cx} {a b:Expr} {ta tb:TE} {pos:Pos}
theorem E3 {r:R2}(hr:IxR X r)(ha:PE X a ta)(hb:PE X b tb)(hs:cl3 b):PE X (.Subscript a b pos) (tOp r ta tb):=by
 intro pins s σ H Q I h
 exact Subscript_ (ce4 ha hb I h fun v u s2 x y H2 I2 rx ry q=>hr a b pins s2 σ H2 x y v u Q I2 rx ry q (hs _ _))
def cr1 (K:PySem.W.Frag):R2:=fun x y H Q=>∃p xs i v,x= .ref p∧y= .int i∧h8 K H p xs∧atI xs i=some v∧Q v H
def cr2 (K:PySem.W.Frag):R2:=fun x y H Q=>∃p xs i v,x= .ref p∧y= .int i∧E6 K H p xs∧atI xs i=some v∧Q v H
theorem E9:IxR X (cr1 X.K):=by
 intro value slice pins s σ H x y v u Q I rx ry h hs
 obtain ⟨p,xs,i,z,rfl,rfl,hq,he,q⟩:=h
 cases rx
 obtain ⟨t,rfl⟩:=ry
 obtain ⟨its,r,pl,hz⟩:=I.list hq
 obtain ⟨j,h1,h2,h3,h4,h5⟩:=bo3 he
 obtain ⟨w,ew,rw'⟩:=r.get h2
 have hl:=r.length
 have hn:=aq8
 have fin:EP X pins σ Q w s:=⟨z,H,I,rw',q⟩
 by_cases h0:0≤i
 · have hj:i.toNat=j:=by
     rw[seqIndex_of h0 h5] at h1
     exact Option.some.inj h1
   exact item_listR pl.isList h0 (by omega) (by rw[hj];simpa using ew) fin hs
 · have hj:(i+(its.toArray.size:Int)).toNat=j:=by
     rw[seqIndex_neg (by omega) h4] at h1
     rw[dg4,←hl]
     exact Option.some.inj h1
   exact subscriptTail_builtinR (x:=w) pl.isList.typeIs slot_list_getitem.lookup
     (wpAny_getItem_list_neg (Q:=fun r s'=>r=w∧EP X pins σ Q r s') pl.isList (by omega) (by rw[dg4]<;>omega) (by omega) (by rw[hj];simpa using ew) ⟨rfl,fin⟩) hs
theorem X2:IxR X (cr2 X.K):=by
 intro value slice pins s σ H x y v u Q I rx ry h hs
 obtain ⟨p,xs,i,z,rfl,rfl,hq,he,q⟩:=h
 cases rx
 obtain ⟨t,rfl⟩:=ry
 obtain ⟨its,r,pl,hz⟩:=I.tuple hq
 obtain ⟨j,h1,h2,h3,h4,h5⟩:=bo3 he
 obtain ⟨w,ew,rw'⟩:=r.get h2
 have hl:=r.length
 have hn:=aq8
 have fin:EP X pins σ Q w s:=⟨z,H,I,rw',q⟩
 exact subscriptTail_builtinR (x:=w) pl.typeIs slot_tuple_getitem.lookup
   (getItem_tuple (j:=j) (Q:=fun r s'=>r=w∧EP X pins σ Q r s') pl (by omega) (by omega) (by rw[dg4,←hl];exact h1) (by simpa using ew) ⟨rfl,fin⟩) hs
theorem bt2 (its:List Value)(n j:Nat)(u:Value):Obj.mapSeq (·.setIfInBounds j u) {cls:= .type "list",data:= .seq its.toArray n}={cls:= .type "list",data:= .seq (its.set j u).toArray n}:=by
 simp [Obj.mapSeq]
theorem g9.lst {pins:List (Addr×Obj)}{σ:St}{H:Hp}{s:Shared}{p:Addr}{xs:List V}(I:g9 X pins σ H s)(h:H p=some (.lst xs)):
   ∃(its:List Value) (n:Nat),j8 xs its∧s.heap.get? p=some {cls:= .type "list",data:= .seq its.toArray n}∧xs.length≤sizeLine:=by
 obtain ⟨z,its,n,r,e⟩:=I.hok p _ h
 exact ⟨its,n,r,e,z⟩
theorem g9.lstUpd {pins:List (Addr×Obj)}{σ:St}{H:Hp}{s:Shared}{p:Addr}{xs ys:List V}{its its':List Value}{n n':Nat}{f:Obj→Obj}(I:g9 X pins σ H s)(h:H p=some (.lst xs))
   (ho:s.heap.get? p=some {cls:= .type "list",data:= .seq its.toArray n}) (hf:f {cls:= .type "list",data:= .seq its.toArray n}={cls:= .type "list",data:= .seq its'.toArray n'}) (r:j8 ys its') (hz:ys.length≤sizeLine) (t:Nat):
   g9 X pins σ (e7 H p (.lst ys)) {s with heap:=s.heap.update p f,toks:=t}:=by
 have e:(s.heap.update p f).get? p=some {cls:= .type "list",data:= .seq its'.toArray n'}:=by
   rw[Heap.get?_update_self f ho (by rw[hf]<;>rfl),hf]
 refine I.write (x:=p) (e:=p) (by rw[h];trivial) (.inl rfl) (fun b u hb q=>(Heap.get?_update_other _ _ (Ne.symm hb)).trans q) ⟨_,e⟩ ?_
 exact ⟨hz,its',n',r,e⟩
def cx5:V→V→V→Hp→(Hp→Prop)→Prop:=fun o i v H Q=>∃p xs k j,o= .ref p∧i= .int k∧H p=some (.lst xs)∧ixN xs.length k=some j∧Q (e7 H p (.lst (xs.set j v)))
theorem ad9:cq0 X cx5:=by
 intro pins s σ H o i v ov iv u Q I ro ri rv h
 obtain ⟨p,xs,k,j,rfl,rfl,hp,hj,q⟩:=h
 cases ro
 obtain ⟨t,rfl⟩:=ri
 obtain ⟨its,n,r,ho,hz⟩:=I.lst hp
 obtain ⟨h1,h2,h3,h4⟩:=aw3 hj
 have hl:=r.length
 have hn:=aq8
 have I':g9 X pins σ (e7 H p (.lst (xs.set j v))) {s with heap:=s.heap.update p (Obj.mapSeq (·.setIfInBounds j u))}:=
   I.lstUpd hp ho (bt2 its n j u) (r.set rv j) (by rw[dr6];exact hz) s.toks
 by_cases h0:0≤k
 · have hk:k.toNat=j:=by
     rw[seqIndex_of h0 h4] at h1
     exact Option.some.inj h1
   exact PySem.W.ki_setAt ho h0 (by omega) (by rw[dg4,←hl];exact h4) (by rw[hk];exact ⟨_,I',q⟩)
 · have hk:(k+(its.toArray.size:Int)).toNat=j:=by
     rw[seqIndex_neg (by omega) h3] at h1
     rw[dg4,←hl]
     exact Option.some.inj h1
   exact PySem.W.ki_setBack ho (by omega) (by rw[dg4,←hl];exact h3) (by omega) (by rw[hk];exact ⟨_,I',q⟩)
theorem be9 (lo hi:Option Int)(n:Nat):(sliceBounds lo hi none n).1=((HT.sIx n 0 lo:Nat):Int)∧(sliceBounds lo hi none n).2.1=((HT.sIx n n hi:Nat):Int)∧(sliceBounds lo hi none n).2.2=1:=by
 refine ⟨?_,?_,rfl⟩
 · cases lo with
   |none=>simp [sliceBounds,HT.sIx]
   |some i=>
    simp only[sliceBounds,HT.sIx,Option.getD_none,show (1:Int) > 0 by decide,if_true]
    by_cases h:i < 0
    · simp only[h,if_true]<;>omega
    · simp only[h,if_false]<;>omega
 · cases hi with
   |none=>simp [sliceBounds,HT.sIx]
   |some i=>
    simp only[sliceBounds,HT.sIx,Option.getD_none,show (1:Int) > 0 by decide,if_true]
    by_cases h:i < 0
    · simp only[h,if_true]<;>omega
    · simp only[h,if_false]<;>omega
theorem bd0 (its:List Value)(lo hi:Option Int):slicePick its.toArray lo hi none=((its.drop (HT.sIx its.length 0 lo)).take (HT.sIx its.length its.length hi - HT.sIx its.length 0 lo)).toArray:=by
 obtain ⟨h1,h2,h3⟩:=be9 lo hi its.toArray.size
 unfold slicePick
 rw[h1,h2,h3]
 simp only[sliceRange_one,pick_run,dg4]<;>rfl
def dc1 (K:PySem.W.Frag):V→Option Int→Option Int→Hp→VK→Prop:=fun x lo hi H Q=>∃a xs,x= .ref a∧h8 K H a xs∧∀p,H p=none→Q (.ref p) (e7 H p (.lst (U9 xs lo hi)))
theorem W4:SlR X (dc1 X.K):=by
 intro pins s σ H x v vl vu lo hi sl Q I rx hs pl pu h
 obtain ⟨a,xs,rfl,hx,q⟩:=h
 cases rx
 obtain ⟨its,r,ht,hz⟩:=I.list hx
 have hlen:=r.length
 refine ⟨"list",_,slot_list_getitem.lookup,ht.isList.typeIs,?_⟩
 refine wpAny_getItem_list_slice ht.isList hs pl pu .none (by simp) ?_ (by rw[dg4]<;>omega)
 rw[bd0,←hlen]
 refine ⟨.ref s.heap.objs.size,_,I.laid (t':=s.toks) (o:= .lst (U9 xs lo hi)) (fun b ob q=>Heap.get?_push_of_some _ q) (df2 _) ?_,rfl,q _ (I.hok.fresh (df2 _))⟩
 exact ⟨dg5 (bm4 xs lo hi) hz,_,0,(r.drop (HT.sIx xs.length 0 lo)).take (HT.sIx xs.length xs.length hi - HT.sIx xs.length 0 lo),Heap.get?_push_size _ rfl⟩
def bd5:V→Bool
 | .non=>true
 | .bl _=>true
 | .int _=>true
 | .str _=>true
 |_=>false
def eqV:V→V→Bool
 | .non,.non=>true
 | .bl a,.bl b=>a==b
 | .bl a,.int b=>(if a then 1 else 0)==b
 | .int a,.bl b=>a==(if b then 1 else 0)
 | .int a,.int b=>a==b
 | .str a,.str b=>a==b
 |_,_=>false
theorem cr3 {A:Around}{s:Shared}{y x:V}{u v:Value}(ry:m8 y u)(rx:m8 x v)(fy:bd5 y=true)(fx:bd5 x=true):SeqAt.EqAt A s u v (eqV y x):=by
 cases y with
 |non=>
  cases ry
  cases x with
  |non=>cases rx;exact SeqAt.EqAt.same _
  |bl b=>cases rx;exact SeqAt.EqAt.none_bool b
  |int b=>obtain ⟨t,rfl⟩:=rx;exact SeqAt.EqAt.none_int b t
  |str b=>obtain ⟨t,rfl⟩:=rx;exact SeqAt.EqAt.none_str b t
  |_=>exact absurd (show false=true from fx) dh5
 |bl a=>
  cases ry
  cases x with
  |non=>cases rx;exact SeqAt.EqAt.bool_none a
  |bl b=>cases rx;exact SeqAt.EqAt.bool_bool a b
  |int b=>obtain ⟨t,rfl⟩:=rx;exact SeqAt.EqAt.bool_int a b t
  |str b=>obtain ⟨t,rfl⟩:=rx;exact SeqAt.EqAt.bool_str a b t
  |_=>exact absurd (show false=true from fx) dh5
 |int a=>
  obtain ⟨t',rfl⟩:=ry
  cases x with
  |non=>cases rx;exact SeqAt.EqAt.int_none a t'
  |bl b=>cases rx;exact SeqAt.EqAt.int_bool a t' b
  |int b=>obtain ⟨t,rfl⟩:=rx;exact SeqAt.EqAt.int_int a t' b t
  |str b=>obtain ⟨t,rfl⟩:=rx;exact SeqAt.EqAt.int_str a t' b t
  |_=>exact absurd (show false=true from fx) dh5
 |str a=>
  obtain ⟨t',rfl⟩:=ry
  cases x with
  |non=>cases rx;exact SeqAt.EqAt.str_none a t'
  |bl b=>cases rx;exact SeqAt.EqAt.str_bool a t' b
  |int b=>obtain ⟨t,rfl⟩:=rx;exact SeqAt.EqAt.str_int a t' b t
  |str b=>obtain ⟨t,rfl⟩:=rx;exact SeqAt.EqAt.str_str a t' b t
  |_=>exact absurd (show false=true from fx) dh5
 |_=>exact absurd (show false=true from fy) dh5
theorem bf0:N9 X (.builtin "len") (fun xs H Q=>∃p ys,xs=[.ref p]∧(h8 X.K H p ys∨E6 X.K H p ys)∧Q (.int ys.length) H):=by
 intro pins s σ H xs us Q I r h
 obtain ⟨p,ys,rfl,hq,q⟩:=h
 obtain ⟨u,rfl,rx⟩:=R3 r
 cases rx
 have hn:=aq8
 rcases hq with hq|hq
 · obtain ⟨its,r',pl,hz⟩:=I.list hq
   have hlen:=r'.length
   exact Calls.call_len_list pl.isList (by simp only[dg4]<;>omega) ⟨.int ys.length,H,I.tok _,⟨s.toks+1,by rw[dg4,hlen]⟩,q⟩
 · obtain ⟨its,r',pl,hz⟩:=I.tuple hq
   have hlen:=r'.length
   exact len_tuple pl (by simp only[dg4]<;>omega) ⟨.int ys.length,H,I.tok _,⟨s.toks+1,by rw[dg4,hlen]⟩,q⟩
theorem bf1:N9 X (.type "list") (fun xs H Q=>∃p ys,xs=[.ref p]∧(h8 X.K H p ys∨E6 X.K H p ys)∧∀l,H l=none→Q (.ref l) (e7 H l (.lst ys))):=by
 intro pins s σ H xs us Q I r h
 obtain ⟨p,ys,rfl,hq,q⟩:=h
 obtain ⟨u,rfl,rx⟩:=R3 r
 cases rx
 have fin:∀(its:List Value),j8 ys its→ys.length≤sizeLine→∀(h':Heap) (c':Nat),(∀b o',s.heap.get? b=some o'→h'.get? b=some o')→
     h'.get? s.heap.objs.size=some {cls:= .type "list",dict:=none,data:= .seq its.toArray c',slots:= #[]}→EP X pins σ Q (.ref s.heap.objs.size) {s with heap:=h'}:=fun its r' hz h' c' kp e=>
   ⟨.ref s.heap.objs.size,_,I.laid (t':=s.toks) kp (df2 _) (show q0 X.prog X.w _ h' _ (.lst ys) from ⟨hz,its,c',r',e⟩),rfl,q _ (I.hok.fresh (df2 _))⟩
 rcases hq with hq|hq
 · obtain ⟨its,r',pl,hz⟩:=I.list hq
   have hlen:=r'.length
   obtain ⟨o,ho,hc,n,hd⟩:=pl.isList
   exact call_list_seq p (.inl rfl) ho hc hd (fun h' c' kp e=>fin its r' hz h' c' kp e) (by simp only[dg4]<;>omega)
 · obtain ⟨its,r',pl,hz⟩:=I.tuple hq
   have hlen:=r'.length
   obtain ⟨o,ho,hc,n,hd⟩:=pl
   exact call_list_seq p (.inr rfl) ho hc hd (fun h' c' kp e=>fin its r' hz h' c' kp e) (by simp only[dg4]<;>omega)
def tyV (K:PySem.W.Frag)(T:String)(x:V)(H:Hp):Prop:=match x with
 | .str _=>T="str"
 | .int _=>T="int"
 | .ref p=>(T="list"∧∃xs,h8 K H p xs)∨(T="tuple"∧∃o,K.lookup p=some o∧o.cls= .type "tuple"∧o.dict=none)∨
     (T="dict"∧((∃kvs,H p=some (.dK kvs))∨∃kvs,H p=some (.dT kvs)))∨(T="set"∧∃S n,H p=some (.set S n))
 |_=>False
theorem by1 {pins:List (Addr×Obj)}{σ:St}{H:Hp}{s:Shared}{T:String}{x:V}{v:Value}(I:g9 X pins σ H s)(r:m8 x v)(ty:tyV X.K T x H):
   s.TypeIs v T∧∀a,v= .ref a→∃ob,s.heap.get? a=some ob∧ob.dict=none:=by
 cases x with
 |str z=>
  obtain ⟨t,rfl⟩:=r
  cases (show T="str" from ty)
  exact ⟨typeIs_str s z t,fun _ e=>nomatch e⟩
 |int i=>
  obtain ⟨t,rfl⟩:=r
  cases (show T="int" from ty)
  exact ⟨typeIs_int s i t,fun _ e=>nomatch e⟩
 |ref p=>
  cases r
  rcases ty with ⟨rfl,xs,hq⟩|⟨rfl,o,hk,hc,hd⟩|⟨rfl,hk⟩|⟨rfl,S,n,hk⟩
  · obtain ⟨its,_,pl,_⟩:=I.list hq
    refine ⟨pl.isList.typeIs,fun a e=> ?_⟩
    cases e
    obtain ⟨o,n,e,c,hd,_⟩:=pl
    exact ⟨o,e,hd⟩
  · refine ⟨⟨o,I.kIn p o hk,hc⟩,fun a e=> ?_⟩
    cases e
    exact ⟨o,I.kIn _ o hk,hd⟩
  · have z:∃o,s.heap.get? p=some o∧o.ExactDict:=by
      rcases hk with ⟨kvs,hk⟩|⟨kvs,hk⟩
      · obtain ⟨_,_,_,_,o,_,_,e,ex,_⟩:=I.hok p _ hk
        exact ⟨o,e,ex⟩
      · obtain ⟨_,_,_,_,o,_,_,e,ex,_⟩:=I.hok p _ hk
        exact ⟨o,e,ex⟩
    obtain ⟨o,e,ex⟩:=z
    refine ⟨⟨o,e,ex.1⟩,fun a e2=> ?_⟩
    cases e2
    exact ⟨o,e,ex.2.1⟩
  · obtain ⟨o,_,_,_,e,ex,_⟩:=I.hok p _ hk
    refine ⟨⟨o,e,ex.1⟩,fun a e2=> ?_⟩
    cases e2
    exact ⟨o,e,ex.2.1⟩
 |_=>exact False.elim ty
def cr5 (K:PySem.W.Frag)(T:String)(r:V→List V→Hp→VK→Prop)(to:TE):TE:=fun σ H Q=>to σ H fun x H1=>tyV K T x H1∧r x [] H1 Q
def tBM (K:PySem.W.Frag)(T:String)(r:V→List V→Hp→VK→Prop)(to:TE)(t:TA):TE:=fun σ H Q=>to σ H fun x H1=>tyV K T x H1∧t σ H1 fun xs H2=>r x xs H2 Q
variable {o e:Expr} {es:List Expr} {to:TE} {t:TA} {name:Str} {apos cpos:Pos} {T id:String} {r:V→List V→Hp→VK→Prop}
theorem cr6 (pa:PlainAttrs T)(slot:Slot T name id)(hty:typeOf (.builtin id)=pure (.type "method_descriptor"))(hm:MtR X id r)(ho:PE X o to)
   (hbase:attributeBase o name X.env (eval o X.env)=eval o X.env:=by rfl) (hline:(apos.endLine==cpos.line)=true:=by rfl):PE X (.Call (.Attribute o name apos) [] [] cpos) (cr5 X.K T r to):=by
 intro pins s σ H Q I h
 refine wpAny_Call_method0_late hbase hline (m7 (ho pins s σ H _ I h) fun v s1 ⟨x,H1,I1,r1,ty,q1⟩=> ?_)
 obtain ⟨h1,h2⟩:=by1 I1 r1 ty
 exact ⟨T,id,pa,slot,hty,h1,h2,Calls.callWith_builtin rfl (PySem.evalArgs_none (hm pins s1 σ H1 x [] v [] Q I1 r1 .nil q1))⟩
theorem bd6 (pa:PlainAttrs T)(slot:Slot T name id)(hty:typeOf (.builtin id)=pure (.type "method_descriptor"))(hm:MtR X id r)(ho:PE X o to)(ha:PA X (e::es) t)
   (hbase:attributeBase o name X.env (eval o X.env)=eval o X.env:=by rfl)
   (hfew:((backTo cpos (starEach (e::es) X.env)).all (fun x=> !x.1)&&(backToKw cpos (keywordEach [] X.env)).all (fun x=>x.1.isSome)
     &&decide ((e::es).length+([]:List Keyword).length+(if ([]:List Keyword).isEmpty then 0 else 1) < 30))=true:=by rfl)
   (hline:(apos.endLine==cpos.line)=true:=by rfl) (hs:starEach (e::es) X.env=(false,eval e X.env)::starEach es X.env:=by rfl) (hplain:(backTo cpos (starEach es X.env)).any (·.1)=false:=by rfl):
   PE X (.Call (.Attribute o name apos) (e::es) [] cpos) (tBM X.K T r to t):=by
 intro pins s σ H Q I h
 refine wpAny_Call_method_late hbase hfew hline rfl (m7 (ho pins s σ H _ I h) fun v s1 ⟨x,H1,I1,r1,ty,q1⟩=> ?_)
 obtain ⟨h1,h2⟩:=by1 I1 r1 ty
 refine ⟨T,id,pa,slot,hty,h1,h2,?_⟩
 have hA:=ha cpos pins s1 σ H1 _ I1 q1
 rw[hs] at hA ⊢
 refine Calls.callWith_builtin (by show (false||(backTo cpos (starEach es X.env)).any (·.1))=false;rw[hplain]<;>rfl) (Calls.evalArgs_plain ?_)
 exact m7 hA fun us s2 ⟨vs,H2,I2,r2,q2⟩=>hm pins s2 σ H2 x vs v us Q I2 r1 r2 q2
end
end L2
namespace L2
open PySem PySem.Spec PyProof.Rows
def MtM (X:Cx)(id:String)(r:V→List V→Hp→VK→Prop):Prop:=
 ∀(pins:List (Addr×Obj)) (s:Shared) (σ:St) (H:Hp) (x:V) (xs:List V) (v:Value) (us:List Value) (Q:VK),g9 X pins σ H s→m8 x v→j8 xs us→r x xs H Q→
  wpAny (model X.prog X.w) X.A (call (.builtin id) (v::us)) (EP X pins σ Q) X.xe s
theorem j8.one:∀{x:V} {us:List Value},j8 [x] us→∃u,us=[u]∧m8 x u
 |_,_,.cons r .nil=>⟨_,rfl,r⟩
theorem j8.zero:∀{us:List Value},j8 [] us→us=[]
 |_,.nil=>rfl
theorem j8.dropLast {xs:List V}{us:List Value}(h:j8 xs us):j8 xs.dropLast us.dropLast:=by
 induction h with
 |nil=>exact .nil
 |cons r t ih=>
  cases t with
  |nil=>exact .nil
  |cons q t'=>exact .cons r ih
theorem j8.eraseIdx:∀{xs:List V} {us:List Value} (i:Nat),j8 xs us→j8 (xs.eraseIdx i) (us.eraseIdx i)
 |_,_,_,.nil=> .nil
 |_,_,0,.cons _ t=>t
 |_,_,i+1,.cons r t=> .cons r (j8.eraseIdx i t)
theorem j8.reverse {xs:List V}{us:List Value}(h:j8 xs us):j8 xs.reverse us.reverse:=by
 induction h with
 |nil=>exact .nil
 |cons r t ih=>rw[List.reverse_cons,List.reverse_cons];exact j8.append ih (.cons r .nil)
theorem j8.rep {xs:List V}{us:List Value}(h:j8 xs us):∀k:Nat,j8 (di6 k xs).flatten (di6 k us).flatten
 |0=> .nil
 |k+1=>by
  rw[dn7,dn7,dh1,dh1]
  exact j8.append h (j8.rep h k)
theorem bt3 {α:Type}(l:List α):l.eraseIdx (l.length - 1)=l.dropLast:=by
 induction l with
 |nil=>rfl
 |cons a r ih=>
  cases r with
  |nil=>rfl
  |cons b r=>
   have e:(a::b::r).length - 1=((b::r).length - 1)+1:=by
     have h1:(a::b::r).length=r.length+2:=rfl
     have h2:(b::r).length=r.length+1:=rfl
     omega
   rw[e,List.eraseIdx_cons_succ,ih]
   all_goals rfl
theorem ba4 {α:Type}:∀(l:List α) (i:Nat),(l.eraseIdx i).length≤l.length
 |[],_=>df2 _
 |_::_,0=>ds1 _
 |_::r,i+1=>Nat.succ_le_succ (ba4 r i)
theorem ba5 (its:List Value):∀(k:Nat) (acc:List Value),
   List.foldl (fun x1 x2=>x1++x2) acc.toArray (di6 k its.toArray)=(acc++(di6 k its).flatten).toArray
 |0,acc=>by simp
 |k+1,acc=>by
  have e:acc.toArray++its.toArray=(acc++its).toArray:=by simp
  have e2:(acc++its)++(di6 k its).flatten=acc++(di6 (k+1) its).flatten:=by
    rw[dn7,dh1,dh4]
  rw[←e2,←ba5 its k (acc++its),←e,dn7,List.foldl_cons]
section
variable {X:Cx} {pins:List (Addr×Obj)} {σ:St} {H:Hp} {s:Shared} {l b:Addr} {xs ys zs:List V}
theorem g9.lset {its its':List Value}{n:Nat}{f:Array Value→Array Value}{t':Nat}(I:g9 X pins σ H s)(hH:H l=some (.lst xs))
   (e:s.heap.get? l=some {cls:= .type "list",data:= .seq its.toArray n}) (hf:f its.toArray=its'.toArray) (hv:j8 ys its') (hz:ys.length≤sizeLine):
   g9 X pins σ (e7 H l (.lst ys)) {s with heap:=s.heap.update l (Obj.mapSeq f),toks:=t'}:=by
 have q:=PySem.IsL.update e f
 rw[hf] at q
 refine I.write (x:=l) (e:=l) (by rw[hH];exact trivial) (.inl rfl) (fun b' u hb hu=>(Heap.get?_update_other s.heap (Obj.mapSeq f) (Ne.symm hb)).trans hu) ⟨_,q⟩ ?_
 exact ⟨hz,its',_,hv,q⟩
theorem g9.lnew {its:List Value}{t':Nat}(I:g9 X pins σ H s)(hv:j8 ys its)(hz:ys.length≤sizeLine):
   g9 X pins σ (e7 H s.heap.objs.size (.lst ys)) {s with heap:=s.heap.push {cls:= .type "list",data:= .seq its.toArray},toks:=t'}:=
 I.laid (fun _ _ q=>Heap.get?_push_of_some _ q) (df2 _) ⟨hz,its,0,hv,Heap.get?_push_size _ rfl⟩
theorem g9.fresh (I:g9 X pins σ H s):H s.heap.objs.size=none:=I.hok.fresh (df2 _)
theorem g9.lstM (I:g9 X pins σ H s)(hH:H l=some (.lst xs)):xs.length≤sizeLine∧∃(its:List Value) (n:Nat),j8 xs its∧xs.length=its.length∧s.heap.get? l=some {cls:= .type "list",data:= .seq its.toArray n}:=by
 obtain ⟨z,its,n,r,e⟩:=I.hok l _ hH
 exact ⟨z,its,n,r,r.length,e⟩
theorem bf2 {n:Nat}(h:n≤sizeLine):Builtin.List.listTooLong n=false:=by
 unfold Builtin.List.listTooLong
 exact decide_eq_false (by omega)
end
section
variable {X:Cx}
def bo4:V→List V→Hp→VK→Prop:=fun x vs H Q=>∃l xs y,x= .ref l∧vs=[y]∧H l=some (.lst xs)∧xs.length < sizeLine∧Q .non (e7 H l (.lst (xs++[y])))
theorem by4:MtM X "list.append" bo4:=by
 intro pins s σ H x vs v us Q I rx rv h
 obtain ⟨l,xs,y,rfl,rfl,hH,hz,q⟩:=h
 cases rx
 obtain ⟨u,rfl,ru⟩:=rv.one
 obtain ⟨z,its,n,r,hl,e⟩:=I.lstM hH
 refine call_meets F.slot_list_append ⟨_,e,rfl⟩ F.entry_list_append (F.args_list_append_2 _ _) (PySem.list_append l its.toArray n u (by rw[dg4];omega)) ⟨e,?_⟩
 refine ⟨.non,_,I.lset (its':=its++[u]) hH e (by simp) (r.append (.cons ru .nil)) ?_,rfl,q⟩
 rw[df7,List.length_singleton]
 omega
def bo5:V→List V→Hp→VK→Prop:=fun x vs H Q=>∃l b xs zs,x= .ref l∧vs=[.ref b]∧H l=some (.lst xs)∧H b=some (.lst zs)∧xs.length+zs.length≤sizeLine∧Q .non (e7 H l (.lst (xs++zs)))
theorem by5:MtM X "list.extend" bo5:=by
 intro pins s σ H x vs v us Q I rx rv h
 obtain ⟨l,b,xs,zs,rfl,rfl,hH,hB,hz,q⟩:=h
 cases rx
 obtain ⟨u,rfl,ru⟩:=rv.one
 cases ru
 obtain ⟨z,its,n,r,hl,e⟩:=I.lstM hH
 obtain ⟨z2,its2,n2,r2,hl2,e2⟩:=I.lstM hB
 have hsz:its.toArray.size+its2.toArray.size≤sizeLine:=by rw[dg4,dg4];omega
 have hlong:¬(!its.toArray.isEmpty&&Builtin.List.listTooLong (its.toArray.size+its2.toArray.size))=true:=by
   rw[bf2 hsz,Bool.and_false]
   exact dh5
 refine call_meets F.slot_list_extend ⟨_,e,rfl⟩ F.entry_list_extend (F.args_list_extend_2 _ _)
   (AutoSeq1.list_extend_list_list_0 l its.toArray n b its2.toArray n2 hlong (by rw[dg4];omega) (by omega)) ⟨e,e2,?_⟩
 refine ⟨.non,_,I.lset (its':=its++its2) hH e (by simp) (r.append r2) ?_,rfl,q⟩
 rw[df7]
 omega
def cr7:V→List V→Hp→VK→Prop:=fun x vs H Q=>∃l xs y,x= .ref l∧vs=[]∧H l=some (.lst xs)∧xs[xs.length - 1]? =some y∧Q y (e7 H l (.lst xs.dropLast))
theorem cr8:MtM X "list.pop" cr7:=by
 intro pins s σ H x vs v us Q I rx rv h
 obtain ⟨l,xs,y,rfl,rfl,hH,hy,q⟩:=h
 cases rx
 have hus:=rv.zero
 subst hus
 obtain ⟨z,its,n,r,hl,e⟩:=I.lstM hH
 obtain ⟨u,hu,ru⟩:=r.get hy
 have hy':its.toArray[its.toArray.size - 1]? =some u:=by
   show its.toArray[its.length - 1]? =some u
   rw[←dj8,←hl]
   exact hu
 refine call_meets F.slot_list_pop ⟨_,e,rfl⟩ F.entry_list_pop (F.args_list_pop_1 _) (MeetsSeq.list_pop_last l its.toArray n u hy' (by rw[dg4];omega)) ⟨e,?_⟩
 refine ⟨y,_,I.lset (its':=its.dropLast) hH e ?_ r.dropLast ?_,ru,q⟩
 · show its.toArray.eraseIdxIfInBounds (its.toArray.size - 1)=its.dropLast.toArray
   rw[dg4,du5,bt3]
 · rw[dv4]
   omega
def by6:V→List V→Hp→VK→Prop:=fun x vs H Q=>∃l xs i k y,x= .ref l∧vs=[.int i]∧H l=some (.lst xs)∧ -(2^63)≤i∧i < 2^63∧seqIndex? i xs.length=some k∧xs[k]? =some y∧Q y (e7 H l (.lst (xs.eraseIdx k)))
theorem ce9:MtM X "list.pop" by6:=by
 intro pins s σ H x vs v us Q I rx rv h
 obtain ⟨l,xs,i,k,y,rfl,rfl,hH,h1,h2,hk,hy,q⟩:=h
 cases rx
 obtain ⟨u,rfl,ru⟩:=rv.one
 obtain ⟨t,rfl⟩:=ru
 obtain ⟨z,its,n,r,hl,e⟩:=I.lstM hH
 obtain ⟨w,hw,rw'⟩:=r.get hy
 refine call_meets F.slot_list_pop ⟨_,e,rfl⟩ F.entry_list_pop (F.args_list_pop_2 _ _)
   (MeetsSeq.list_pop_at l its.toArray n i t k w (fitsIndex_both h1 h2) (by rw[dg4,←hl];exact hk) (by rw[←dj8];exact hw) (by rw[dg4];omega)) ⟨e,?_⟩
 refine ⟨y,_,I.lset (its':=its.eraseIdx k) hH e ?_ (r.eraseIdx k) ?_,rw',q⟩
 · show its.toArray.eraseIdxIfInBounds k=(its.eraseIdx k).toArray
   rw[du5]
 · have:=ba4 xs k
   omega
def dc2:R2:=fun x y H Q=>∃l b xs zs,x= .ref l∧y= .ref b∧H l=some (.lst xs)∧H b=some (.lst zs)∧xs.length+zs.length≤sizeLine∧∀p,H p=none→Q (.ref p) (e7 H p (.lst (xs++zs)))
theorem bf3:K6 X (binaryOp .Add) dc2:=by
 intro pins s σ H x y v u Q I rx ry h
 obtain ⟨l,b,xs,zs,rfl,rfl,hH,hB,hz,q⟩:=h
 cases rx
 cases ry
 obtain ⟨z,its,n,r,hl,e⟩:=I.lstM hH
 obtain ⟨z2,its2,n2,r2,hl2,e2⟩:=I.lstM hB
 refine PySem.P.add_list e e2 ?_ (by rw[dg4,dg4];omega)
 have ea:its.toArray++its2.toArray=(its++its2).toArray:=by simp
 rw[ea]
 exact ⟨.ref _,_,I.lnew (t':=s.toks) (r.append r2) (by rw[df7];omega),rfl,q _ I.fresh⟩
def dc3:R2:=fun x y H Q=>∃l k xs,x= .ref l∧y= .int k∧H l=some (.lst xs)∧ -(2^63)≤k∧k < 2^63∧xs.length*k.toNat≤sizeLine∧
 ∀p,H p=none→Q (.ref p) (e7 H p (.lst (di6 k.toNat xs).flatten))
theorem cl4 {α:Type}(xs:List α)(k:Nat):(di6 k xs).flatten.length=k*xs.length:=by
 induction k with
 |zero=>simp
 |succ k ih=>rw[dn7,dh1,df7,ih,do6,dn0]
theorem by7:K6 X (binaryOp .Mult) dc3:=by
 intro pins s σ H x y v u Q I rx ry h
 obtain ⟨l,k,xs,rfl,rfl,hH,h1,h2,hz,q⟩:=h
 cases rx
 obtain ⟨t,rfl⟩:=ry
 obtain ⟨z,its,n,r,hl,e⟩:=I.lstM hH
 have hlen:its.toArray.size*k.toNat≤sizeLine:=by rw[dg4,←hl];exact hz
 have hcap:¬its.toArray.size*k.toNat > (2^63 - 1)/8:=by
   have:(sizeLine:Nat)≤(2^63 - 1)/8:=by decide
   omega
 have hfit:¬(!Builtin.List.listFitsIndex k)=true:=by
   rw[fitsIndex_both h1 h2]
   exact dh5
 have hlong:¬Builtin.List.listTooLong (its.toArray.size*k.toNat)=true:=by
   rw[bf2 hlen]
   exact dh5
 have hnew:List.foldl (fun x1 x2=>x1++x2) #[] (di6 (if its.toArray.isEmpty=true then 0 else k.toNat) its.toArray)=(di6 k.toNat its).flatten.toArray:=by
   have f0:∀m:Nat,List.foldl (fun x1 x2=>x1++x2) #[] (di6 m its.toArray)=(di6 m its).flatten.toArray:=fun m=>by
     have:=ba5 its m []
     rw[List.nil_append] at this
     exact this
   rw[f0]
   cases its with
   |nil=>simp
   |cons a r'=>rw[if_neg (by simp)]
 refine wpAny_binaryOp_repeat_ref (T:="list") (U:="int") (by decide) ⟨_,e,rfl⟩ (fun s'=>typeIs_int s' k t) noFill_list_mul F.fills_int_mul F.slot_int_rmul repeat_list F.slot_int_index.lookup
   (call_meets F.slot_int_rmul (typeIs_int s k t) F.entry_int_rmul (F.args_int_rmul_2 _ _) (int___rmul___int_list k t l its.toArray n)
     ⟨e,rfl,⟨_,e,rfl⟩,call_meets F.slot_list_mul ⟨_,e,rfl⟩ F.entry_list_mul (F.args_list_mul_2 _ _) (AutoListH.list___mul___list_int_3 l its.toArray n k t hfit hcap hlong) ⟨e,?_⟩⟩)
 rw[hnew]
 exact ⟨.ref _,_,I.lnew (t':=s.toks) (r.rep k.toNat) (by rw[cl4,dl2];exact hz),rfl,q _ I.fresh⟩
end
end L2
namespace L2
open PySem PySem.Spec PyProof.Rows
section
variable {κ:Type} [DecidableEq κ]
def A9 (kvs:List (κ×V))(k:κ):Option V:=(kvs.find? fun kv=>decide (kv.1=k)).map (·.2)
def P6 (kvs:List (κ×V))(k:κ)(v:V):List (κ×V):=
 if (kvs.any fun kv=>decide (kv.1=k))=true then kvs.map (fun kv=>if kv.1=k then (kv.1,v) else kv) else kvs++[(k,v)]
theorem S4 {p:κ×V}{r:List (κ×V)}{k:κ}(e:p.1=k):A9 (p::r) k=some p.2:=by simp [A9,dr7,e]
theorem P7 {p:κ×V}{r:List (κ×V)}{k:κ}(e:¬p.1=k):A9 (p::r) k=A9 r k:=by simp [A9,dr7,e]
theorem an2 (k:κ):∀kvs:List (κ×V),(kvs.any fun kv=>decide (kv.1=k))=(A9 kvs k).isSome
 |[]=>rfl
 |p::r=>by
  rw[dw9]
  by_cases e:p.1=k
  · simp only[S4 e,decide_eq_true e,Bool.true_or,Option.isSome_some]
  · rw[P7 e,decide_eq_false e,Bool.false_or];exact an2 k r
theorem am3 (kvs:List (κ×V))(k:κ)(v:V):(P6 kvs k v).length≤kvs.length+1:=by
 unfold P6
 split
 · rw[de9];omega
 · rw[df7,dk0,dv6];omega
theorem an3 {kvs:List (κ×V)}{k:κ}(v:V)(h:A9 kvs k=none):P6 kvs k v=kvs++[(k,v)]:=by
 unfold P6
 rw[an2,h]
 exact if_neg (by decide)
theorem W9.isSome_eq {o:Option V}{u:Option Value}(r:W9 o u):o.isSome=u.isSome:=by
 cases o with
 |none=>cases u with
  |none=>rfl
  |some _=>exact (show False from r).elim
 |some _=>cases u with
  |none=>exact (show False from r).elim
  |some _=>rfl
theorem KV.val {kvs:List (κ×V)}{vs:List (κ×Value)}(r:KV kvs vs)(k:κ):W9 (A9 kvs k) (valueAt vs k):=by
 unfold KV at r
 induction r with
 |nil=>exact True.intro
 |@cons p q ps qs h t ih=>
  obtain ⟨h1,h2⟩:=h
  by_cases e:p.1=k
  · have e':q.1=k:=h1.symm.trans e
    have b:valueAt (q::qs) k=some q.2:=by simp [valueAt,dr7,e']
    rw[S4 e,b];exact h2
  · have e':¬q.1=k:=fun z=>e (h1.trans z)
    have b:valueAt (q::qs) k=valueAt qs k:=by simp [valueAt,dr7,e']
    rw[P7 e,b];exact ih
theorem KV.any {kvs:List (κ×V)}{vs:List (κ×Value)}(r:KV kvs vs)(k:κ):(kvs.any fun kv=>decide (kv.1=k))=vs.any fun kv=>decide (kv.1=k):=by
 unfold KV at r
 induction r with
 |nil=>rfl
 |cons h t ih=>rw[dw9,dw9,ih,h.1]
theorem KV.repl {kvs:List (κ×V)}{vs:List (κ×Value)}(r:KV kvs vs)(k:κ){y:V}{u:Value}(ry:m8 y u):
   KV (kvs.map fun kv=>if kv.1=k then (kv.1,y) else kv) (vs.map fun kv=>if kv.1=k then (kv.1,u) else kv):=by
 unfold KV at r ⊢
 induction r with
 |nil=>exact .nil
 |@cons p q ps qs h t ih=>
  rw[dj0,dj0]
  refine .cons ?_ ih
  obtain ⟨h1,h2⟩:=h
  by_cases e:p.1=k
  · rw[if_pos e,if_pos (h1.symm.trans e)];exact ⟨h1,ry⟩
  · rw[if_neg e,if_neg (fun z=>e (h1.trans z))];exact ⟨h1,h2⟩
theorem KV.put {kvs:List (κ×V)}{vs:List (κ×Value)}(r:KV kvs vs)(k:κ){y:V}{u:Value}(ry:m8 y u):KV (P6 kvs k y) (stored vs k u):=by
 unfold P6 stored
 rw[r.any k]
 by_cases e:(vs.any fun kv=>decide (kv.1=k))=true
 · rw[if_pos e,if_pos e];exact r.repl k ry
 · rw[if_neg e,if_neg e];exact Paired.snoc r ⟨rfl,ry⟩
theorem KV.length {kvs:List (κ×V)}{vs:List (κ×Value)}(r:KV kvs vs):kvs.length=vs.length:=Paired.length r
end
theorem ak4 {P:Program}{w:World}{k:n6}{u:Value}(r:m8 (kV k) u):(t8 P w).is k u=true:=by
 cases k with
 |inl i=>obtain ⟨t,e⟩:=(show ∃t,u=Value.int i t from r);subst e;exact am1 P w i t
 |inr x=>obtain ⟨t,e⟩:=(show ∃t,u=Value.str x t from r);subst e;exact am2 P w x t
theorem ba6 {P:Program}{w:World}:∀{ks:List n6} {us:List Value},j8 (ks.map kV) us→ItemsAre (t8 P w) ks us
 |[],_,r=>by rw[ds7] at r;cases r;exact .nil
 |k::ks,_,r=>by
  rw[dj0] at r
  cases r with
  |cons h t=>exact .cons (ak4 h) (ba6 t)
abbrev KT (H:Hp):List (List n6×V)→List (List n6×Addr×Value)→Prop:=Paired fun p q=>p.1=q.1∧H q.2.1=some (.tup (p.1.map kV))∧m8 p.2 q.2.2
theorem KT.val {H:Hp}{kvs:List (List n6×V)}{xs:List (List n6×Addr×Value)}(r:KT H kvs xs)(k:List n6):W9 (A9 kvs k) ((atKey xs k).map (·.2)):=by
 induction r with
 |nil=>exact True.intro
 |@cons p q ps qs h t ih=>
  obtain ⟨h1,_,h2⟩:=h
  by_cases e:p.1=k
  · have e':q.1=k:=h1.symm.trans e
    have b:atKey (q::qs) k=some q.2:=by simp [atKey,dr7,e']
    rw[S4 e,b];exact h2
  · have e':¬q.1=k:=fun z=>e (h1.trans z)
    have b:atKey (q::qs) k=atKey qs k:=by simp [atKey,dr7,e']
    rw[P7 e,b];exact ih
theorem KT.repl {H:Hp}{kvs:List (List n6×V)}{xs:List (List n6×Addr×Value)}(r:KT H kvs xs)(k:List n6){y:V}{u:Value}(ry:m8 y u):
   KT H (kvs.map fun kv=>if kv.1=k then (kv.1,y) else kv) (xs.map (putAt k u)):=by
 induction r with
 |nil=>exact .nil
 |@cons p q ps qs h t ih=>
  rw[dj0,dj0]
  refine .cons ?_ ih
  obtain ⟨h1,h2,h3⟩:=h
  unfold putAt
  by_cases e:p.1=k
  · rw[if_pos e,if_pos (h1.symm.trans e)];exact ⟨h1,h2,ry⟩
  · rw[if_neg e,if_neg (fun z=>e (h1.trans z))];exact ⟨h1,h2,h3⟩
theorem KT.put {H:Hp}{kvs:List (List n6×V)}{xs:List (List n6×Addr×Value)}(r:KT H kvs xs)(k:List n6){b:Addr}{y:V}{u:Value}(hb:H b=some (.tup (k.map kV)))(ry:m8 y u):
   KT H (P6 kvs k y) (storedH xs k b u):=by
 have e:(kvs.any fun kv=>decide (kv.1=k))=(atKey xs k).isSome:=by
   rw[an2,(r.val k).isSome_eq,dx0]
 unfold P6 storedH
 rw[e]
 by_cases q:(atKey xs k).isSome=true
 · rw[if_pos q,if_pos q];exact r.repl k ry
 · rw[if_neg q,if_neg q];exact Paired.snoc r ⟨rfl,hb,ry⟩
theorem KT.keeps {H H':Hp}{kvs:List (List n6×V)}{xs:List (List n6×Addr×Value)}(r:KT H kvs xs)(ht:∀b ys,H b=some (.tup ys)→H' b=some (.tup ys)):KT H' kvs xs:=
 Paired.mapP r fun _ _ z=>⟨z.1,ht _ _ z.2.1,z.2.2⟩
section
variable {P:Program} {w:World} {H:Hp} {h:Heap} {a:Addr}
theorem cj9 {u:HO}(ok:E5 P w H h)(e:Rd H a u):q0 P w H h a u:=e.ok ok
theorem aq9 {kvs:List (n6×V)}(ok:E5 P w H h)(e:Rd H a (.dK kvs)):kvs.length≤sizeLine∧(a==sysModules)=false∧∃vs,KV kvs vs∧h.DictOf (t8 P w) a vs:=
 show q0 P w H h a (.dK kvs) from cj9 ok e
theorem ck0 {kvs:List (n6×V)}(ok:E5 P w H h)(e:H a=some (.dK kvs)):kvs.length≤sizeLine∧(a==sysModules)=false∧∃vs,KV kvs vs∧h.DictOf (t8 P w) a vs:=aq9 ok (.inl e)
theorem ah1 {ks:List n6}(ok:E5 P w H h)(e:H a=some (.tup (ks.map kV))):(tupleKind (t8 P w)).is h ks a:=by
 obtain ⟨_,its,r,o,h1,h2,n,h3⟩:=(show q0 P w H h a (.tup (ks.map kV)) from ok a _ e)
 exact ⟨o,its.toArray,n,h1,h2,h3,by simpa using ba6 r⟩
theorem ar0 {kvs:List (List n6×V)}(ok:E5 P w H h)(e:Rd H a (.dT kvs)):kvs.length≤sizeLine∧(a==sysModules)=false∧
   ∃xs,KT H kvs xs∧h.DictOfH (tupleKind (t8 P w)) a xs:=by
 obtain ⟨z,y,xs,r,o,es,ep,h1,h2,h3,h4,h5⟩:=(show q0 P w H h a (.dT kvs) from cj9 ok e)
 refine ⟨z,y,xs,r,o,es,ep,h1,h2,h3,h4,fun x hx=> ?_,h5⟩
 have all:∀{l:List (List n6×V)} {m:List (List n6×Addr×Value)},KT H l m→∀x∈m,(tupleKind (t8 P w)).is h x.1 x.2.1:=by
   intro l m q
   induction q with
   |nil=>intro x hx;exact nomatch hx
   |@cons p q ps qs hq t ih=>
    intro x hx
    rcases dg9.mp hx with e|hx
    · subst e
      exact ah1 ok (by rw[←hq.1];exact hq.2.1)
    · exact ih x hx
 exact all r x hx
theorem cx6 {kvs:List (List n6×V)}(ok:E5 P w H h)(e:H a=some (.dT kvs)):kvs.length≤sizeLine∧(a==sysModules)=false∧
 ∃xs,KT H kvs xs∧h.DictOfH (tupleKind (t8 P w)) a xs:=ar0 ok (.inl e)
end
def X3 (H:Hp)(a:Addr)(y:V)(r:Option V):Prop:=
 (∃kvs k,Rd H a (.dK kvs)∧y=kV k∧r=A9 kvs k)∨∃kvs k b,Rd H a (.dT kvs)∧y= .ref b∧H b=some (.tup (k.map kV))∧r=A9 kvs k
def an4 (H:Hp)(a:Addr)(y v:V)(H':Hp):Prop:=
 (∃kvs k,H a=some (.dK kvs)∧y=kV k∧kvs.length < sizeLine∧H'=e7 H a (.dK (P6 kvs k v)))∨
 ∃kvs k b,H a=some (.dT kvs)∧y= .ref b∧H b=some (.tup (k.map kV))∧kvs.length < sizeLine∧H'=e7 H a (.dT (P6 kvs k v))
theorem X3.k {H:Hp}{a:Addr}{kvs:List (n6×V)}{k:n6}(e:H a=some (.dK kvs)):X3 H a (kV k) (A9 kvs k):= .inl ⟨kvs,k,.inl e,rfl,rfl⟩
theorem an4.k {H:Hp}{a:Addr}{kvs:List (n6×V)}{k:n6}{v:V}(e:H a=some (.dK kvs))(hl:kvs.length < sizeLine):an4 H a (kV k) v (e7 H a (.dK (P6 kvs k v))):= .inl ⟨kvs,k,e,rfl,hl,rfl⟩
section
variable {X:Cx} {pins:List (Addr×Obj)} {σ:St} {H:Hp} {s:Shared} {a:Addr} {y v:V} {u r:Value} {o:Option V} {A:Around} {E:Value→Shared→Prop}
theorem g9.big (I:g9 X pins σ H s):sysModules < s.heap.objs.size:=by
 have h:mainGlobals < s.heap.objs.size:=(I.mod.glob.keeps I.bk).lt
 exact Nat.lt_trans (by decide) h
theorem by8 {Q:Value→Shared→Prop}(hu:A.units+1 < cLine)(I:g9 X pins σ H s)(g:X3 H a y (some v))(ry:m8 y u)(h:∀w' s',g9 X pins σ H s'→m8 v w'→Q w' s'):
   wpAny (model X.prog X.w) A (getItem (.ref a) u) Q E s:=by
 rcases g with ⟨kvs,k,e,ey,l⟩|⟨kvs,k,b,e,ey,eb,l⟩
 · subst ey
   obtain ⟨z,hd,vs,rel,dd⟩:=aq9 I.hok e
   obtain ⟨w',hw,rw'⟩:=W9.some_of (v:=v) (o:=valueAt vs k) (by rw[l];exact rel.val k)
   exact wpAny_getItem_of (ak4 ry) dd.mapOf hw (h w' _ (I.tok _) rw')
 · subst ey
   cases (show u=Value.ref b from ry)
   obtain ⟨z,hd,xs,rel,dd⟩:=ar0 I.hok e
   obtain ⟨w',hw,rw'⟩:=W9.some_of (v:=v) (o:=(atKey xs k).map (·.2)) (by rw[l];exact rel.val k)
   obtain ⟨p,hp,hp2⟩:=Option.map_eq_some_iff.mp hw
   refine wpAny_getItem_heap (tupleKind_room_in1 hu) (ah1 I.hok eb) dd hp ?_
   rw[hp2]
   exact h w' _ (I.tok _) rw'
theorem dc4 {Q:Value→Shared→Prop}(hu:A.units+1 < cLine)(I:g9 X pins σ H s)(g:X3 H a y o)(ry:m8 y u)(h:∀s',g9 X pins σ H s'→Q (.bool o.isSome) s'):
   wpAny (model X.prog X.w) A (compareOp .In u (.ref a)) Q E s:=by
 rcases g with ⟨kvs,k,e,ey,l⟩|⟨kvs,k,b,e,ey,eb,l⟩
 · subst ey
   obtain ⟨z,hd,vs,rel,dd⟩:=aq9 I.hok e
   refine wpAny_in_of (ak4 ry) hd dd.mapOf ?_
   rw[←(rel.val k).isSome_eq,←l]
   exact h _ (I.tok _)
 · subst ey
   cases (show u=Value.ref b from ry)
   obtain ⟨z,hd,xs,rel,dd⟩:=ar0 I.hok e
   refine wpAny_in_heap (tupleKind_room_in1 hu) (ah1 I.hok eb) hd dd ?_
   have q:=(rel.val k).isSome_eq
   rw[dx0] at q
   rw[←q,←l]
   exact h _ (I.tok _)
theorem cl5 {Q:Value→Shared→Prop}(hu:A.units+1 < cLine)(I:g9 X pins σ H s)(g:X3 H a y o)(ry:m8 y u)(h:∀s',g9 X pins σ H s'→Q (.bool (!o.isSome)) s'):
   wpAny (model X.prog X.w) A (compareOp .NotIn u (.ref a)) Q E s:=by
 rcases g with ⟨kvs,k,e,ey,l⟩|⟨kvs,k,b,e,ey,eb,l⟩
 · subst ey
   obtain ⟨z,hd,vs,rel,dd⟩:=aq9 I.hok e
   refine wpAny_notIn_of (ak4 ry) hd dd.mapOf ?_
   rw[←(rel.val k).isSome_eq,←l]
   exact h _ (I.tok _)
 · subst ey
   cases (show u=Value.ref b from ry)
   obtain ⟨z,hd,xs,rel,dd⟩:=ar0 I.hok e
   refine wpAny_notIn_heap (tupleKind_room_in1 hu) (ah1 I.hok eb) hd dd ?_
   have q:=(rel.val k).isSome_eq
   rw[dx0] at q
   rw[←q,←l]
   exact h _ (I.tok _)
theorem ak5 {h':Heap}{t':Nat}{ob:HO}(I:g9 X pins σ H s)(mu:Mut (H a))(hs:Heap.SameBut a s.heap h')(he:∃q,h'.get? a=some q)(new:q0 X.prog X.w (e7 H a ob) h' a ob):
   g9 X pins σ (e7 H a ob) {s with heap:=h',toks:=t'}:=
 I.write (x:=a) (e:=a) mu (.inl rfl) (fun b q hb z=>(hs.2 b hb).trans z) he new
theorem by9 {P:Program}{w:World}{H':Hp}{h':Heap}{kvs:List (n6×V)}{vs:List (n6×Value)}(z:kvs.length≤sizeLine)(hd:(a==sysModules)=false)(rel:KV kvs vs)(dd:h'.DictOf (t8 P w) a vs):
 q0 P w H' h' a (.dK kvs):=⟨z,hd,vs,rel,dd⟩
theorem bz0 {H':Hp}{Q:Unit→Shared→Prop}(hu:A.units+1 < cLine)(I:g9 X pins σ H s)(g:an4 H a y v H')(ry:m8 y u)(rv:m8 v r)(h:∀s',g9 X pins σ H' s'→Q () s'):
   wpAny (model X.prog X.w) A (setItem (.ref a) u r) Q E s:=by
 rcases g with ⟨kvs,k,e,ey,l,eH⟩|⟨kvs,k,b,e,ey,eb,l,eH⟩
 · subst ey eH
   obtain ⟨z,hd,vs,rel,dd⟩:=ck0 I.hok e
   have hz:vs.length≤sizeLine:=by rw[←rel.length];exact z
   have hl:(P6 kvs k v).length≤sizeLine:=by have:=am3 kvs k v;omega
   refine wpAny_setItem_pairs (hsz:=hz) (ak4 ry) dd fun h' dd' hs=>h _ ?_
   have he:∃q,h'.get? a=some q:=let ⟨q,_,_,hq,_⟩:=dd';⟨q,hq⟩
   exact ak5 I (by rw[e];exact True.intro) hs he (by9 hl hd (rel.put k rv) dd')
 · subst ey eH
   cases (show u=Value.ref b from ry)
   obtain ⟨z,hd,xs,rel,dd⟩:=cx6 I.hok e
   have hz:xs.length≤sizeLine:=by rw[←Paired.length rel];exact z
   have hl:(P6 kvs k v).length≤sizeLine:=by have:=am3 kvs k v;omega
   refine wpAny_setItem_heap (hsz:=hz) (tupleKind_room_in1 hu) (ah1 I.hok eb) dd fun h' dd' hs=>h _ ?_
   obtain ⟨q,es,ep,hq,h2,h3,h4,_,h5⟩:=dd'
   refine ak5 I (by rw[e];exact True.intro) hs ⟨q,hq⟩ ⟨hl,hd,_,(rel.put k eb rv).keeps fun c ys ec=> ?_,q,es,ep,hq,h2,h3,h4,h5⟩
   rw[g8 (cj1 ec e (fun z=>nomatch z))]
   exact ec
end
def cr9 (i:Expr):Prop:=∀ov iv,subscripted i false ov iv=operate [ov,iv] (getItem ov iv)
theorem cl6 {prog:Program}{w:World}{A:Around}{E:Value→Shared→Prop}{s:Shared}{env:Env}{value slice:Expr}{pos:Pos}{T id:String}{Q:Value→Shared→Prop}
   (hl:typeLookup (.type T) "__getitem__"=pure (some (.builtin id))) (hs:cr9 slice)
   (h:wpAny (model prog w) A (eval value env) (fun o s₁=>wpAny (model prog w) A (eval slice env) (fun i s₂=>s₂.TypeIs o T∧wpAny (model prog w) A (getItem o i) Q E s₂) E s₁) E s):
   wpAny (model prog w) A (eval (.Subscript value slice pos) env) Q E s:=by
 refine Subscript_ (wpAny_mono h (fun o s₁ h₁=>wpAny_mono h₁ (fun i s₂ h₂=> ?_) fun _ _ x=>x) fun _ _ x=>x)
 obtain ⟨hT,h₂⟩:=h₂
 unfold subscriptTail
 refine wpAny_bind ?_
 rw[getitemInPython_of_ne hT.not_modules]
 refine wpAny_bind (wpAny_specialOf hT hl ?_)
 have fin:wpAny (model prog w) A (subscripted slice false o i) (fun r s₃=>wpAny (model prog w) A (letTemporaryGo value o r >>=fun _=>pure r) Q E s₃) E s₂:=by
   rw[hs o i]
   exact wpAny_operating (wpAny_mono h₂ (fun r s₃ h₃=>wpAny_bind (wpAny_letTemporaryGo (wpAny_pure h₃))) fun _ _ x=>x)
 first
   |exact wpAny_pure (wpAny_bind fin)
   |exact wpAny_bind (wpAny_pure (wpAny_bind fin))
   |exact wpAny_bind fin
theorem bm5 {X:Cx}{pins:List (Addr×Obj)}{σ:St}{H:Hp}{s:Shared}{a:Addr}{y:V}{o:Option V}(I:g9 X pins σ H s)(g:X3 H a y o):s.TypeIs (.ref a) "dict":=by
 rcases g with ⟨kvs,k,e,_,_⟩|⟨kvs,k,b,e,_,_,_⟩
 · obtain ⟨_,_,vs,_,dd⟩:=aq9 I.hok e
   exact dd.typeIs
 · obtain ⟨_,_,xs,_,dd⟩:=ar0 I.hok e
   exact dd.typeIs
def cx7 (td ty:TE):TE:=fun σ H Q=>td σ H fun x H1=>ty σ H1 fun y H2=>∃a v,x= .ref a∧X3 H2 a y (some v)∧Q v H2
def dc5 (ty td:TE):TE:=fun σ H Q=>ty σ H fun y H1=>td σ H1 fun x H2=>∃a o,x= .ref a∧X3 H2 a y o∧Q (.bl o.isSome) H2
def cl7 (ty td:TE):TE:=fun σ H Q=>ty σ H fun y H1=>td σ H1 fun x H2=>∃a o,x= .ref a∧X3 H2 a y o∧Q (.bl (!o.isSome)) H2
def cx9 (td ty tv:TE):TS:=fun D σ H=>tv σ H fun v H1=>td σ H1 fun x H2=>ty σ H2 fun y H3=>∃a H4,x= .ref a∧an4 H3 a y v H4∧D.nx σ H4
section
variable {X:Cx} {o i e value:Expr} {pos pos' tpos:Pos} {td ty tv:TE}
theorem ak6 (hu:X.A.units+1 < cLine)(ho:PE X o td)(hi:PE X i ty)(hs:cr9 i):PE X (.Subscript o i pos) (cx7 td ty):=by
 intro pins s σ H Q I h
 refine cl6 PySem.F.slot_dict_getitem.lookup hs (m7 (ho pins s σ H _ I h) fun u s1 ⟨x,H1,I1,rx,q1⟩=>m7 (hi pins s1 σ H1 _ I1 q1) fun iv s2 ⟨y,H2,I2,ry,a,v,ex,g,q2⟩=> ?_)
 subst ex
 obtain rfl:u=Value.ref a:=rx
 exact ⟨bm5 I2 g,by8 hu I2 g ry fun w' s3 I3 rw'=>⟨v,H2,I3,rw',q2⟩⟩
theorem cs0 (hu:X.A.units+1 < cLine)(hi:PE X i ty)(ho:PE X o td):PC X .In i o (dc5 ty td):=by
 intro pins s σ H Q I h
 refine m7 (hi pins s σ H _ I h) fun iv s1 ⟨y,H1,I1,ry,q1⟩=>m7 (ho pins s1 σ H1 _ I1 q1) fun u s2 ⟨x,H2,I2,rx,a,ov,ex,g,q2⟩=> ?_
 subst ex
 obtain rfl:u=Value.ref a:=rx
 exact dc4 hu I2 g ry fun s3 I3=>⟨.bl ov.isSome,H2,I3,rfl,q2⟩
theorem bz1 (hu:X.A.units+1 < cLine)(hi:PE X i ty)(ho:PE X o td):PC X .NotIn i o (cl7 ty td):=by
 intro pins s σ H Q I h
 refine m7 (hi pins s σ H _ I h) fun iv s1 ⟨y,H1,I1,ry,q1⟩=>m7 (ho pins s1 σ H1 _ I1 q1) fun u s2 ⟨x,H2,I2,rx,a,ov,ex,g,q2⟩=> ?_
 subst ex
 obtain rfl:u=Value.ref a:=rx
 exact cl5 hu I2 g ry fun s3 I3=>⟨.bl (!ov.isSome),H2,I3,rfl,q2⟩
theorem aw4 (hu:X.A.units+1 < cLine)(ho:PE X o td)(hi:PE X i ty)(hv:PE X value tv)(hs:swapsWith value (some (.Subscript o i pos')) pos.line X.env=pure false):
   PS X (.Assign [.Subscript o i pos'] value pos) (cx9 td ty tv):=by
 intro pins s σ H D I h
 refine wpAny_Assign_Subscript (m7 (hv pins s σ H _ I h) fun r s1 ⟨v,H1,I1,rv,q1⟩=>m7 (ho pins s1 σ H1 _ I1 q1) fun u s2 ⟨x,H2,I2,rx,q2⟩=>m7 (hi pins s2 σ H2 _ I2 q2) fun iv s3 ⟨y,H3,I3,ry,a,H4,ex,g,q3⟩=> ?_) hs
 subst ex
 obtain rfl:u=Value.ref a:=rx
 exact bz0 hu I3 g ry rv fun s4 I4=>⟨σ,H4,I4,q3⟩
end
theorem cf0 {P:Program}{w:World}{H:Hp}(h:Heap)(hb:sysModules < h.objs.size):q0 P w H (h.push {cls:= .type "dict",data:= .dict #[]}) h.objs.size (.dK []):=
 ⟨dh2 _,beq_eq_false_iff_ne.mpr (Ne.symm (dk1 hb)),[],.nil,Heap.DictOf.new h⟩
def cs1:TE:=fun _ H Q=>∀p,H p=none→Q (.ref p) (e7 H p (.dK []))
section
variable {X:Cx} {pos:Pos}
theorem X4:PE X (.Dict [] [] pos) cs1:=fun pins s σ H Q I h=>
 wpAny_Dict_empty ⟨.ref s.heap.objs.size,_,I.laid (a:=s.heap.objs.size) (o:= .dK []) (t':=s.toks) (fun _ _ q=>Heap.get?_push_of_some _ q) (df2 _) (cf0 s.heap I.big),rfl,h _ (I.hok.fresh (df2 _))⟩
end
end L2
namespace Att
open PySem PySem.W PySem.Calls PyProof.Rows
theorem ar1 {P:Params}{h:Heap}:∀(ns:List Int) (vs:List Value),WellAll P h vs (ns.map WData.int)→IntsAre vs ns:=by
 intro ns
 induction ns with
 |nil=>
  intro vs w
  rw[ds7] at w
  cases w
  exact .nil
 |cons n ns ih=>
  intro vs w
  rw[dj0] at w
  cases w with
  |cons a b=>
   cases a
   exact .cons _ _ (ih _ b)
theorem bz2 {l:OpenLaw}{n:Nat}(hn:l.most=some n){P:Params}{h:Heap}{args:List WData}{vals:List Value}
   (hpre:l.row.toRowW.claim.pre args=true) (hwl:WellAll P h vals args):
   ∃a vs ns,vals=[Value.ref a]∧args=[WData.list (ns.map WData.int)]∧h.get? a=some {cls:= .type "list",data:= .seq vs.toArray}∧IntsAre vs ns∧ns.length≤n:=by
 have hsh:WShape.hasAll [] args [.list .int]=true:=(pre_splitW hpre).1
 have hc:l.pre.holds [] {args:=args}=true:=(pre_splitW hpre).2
 obtain ⟨d,r,rfl,h1,h2⟩:=hasAllW_cons hsh
 obtain rfl:=hasAllW_nil h2
 obtain ⟨xs,rfl,h3⟩:=hasW_list h1
 obtain ⟨ns,rfl⟩:=items_int h3
 have hlen:ns.length≤n:=by
   unfold OpenLaw.pre at hc
   have h4:(WTm.not (.lt (.lit (.int (n:Int))) (.len (.arg 0)))).holds [] {args:=[.list (ns.map .int)]}=true:=by
     have h4:=(holds_andW hc).1
     rw[hn] at h4
     exact h4
   have h5:=condW_of h4 (w_not (w_lt w_lit (w_len_list (w_arg rfl))))
   rw[de9] at h5
   refine Nat.le_of_not_lt fun q=> ?_
   have q':(n:Int) < ((ns.length:Nat):Int):=by omega
   first
     |(rw[decide_eq_true q'] at h5;exact absurd h5 (by decide))
     |(simp at h5;omega)
 cases hwl with
 |cons w1 w2=>
  cases w2
  cases w1 with
  |list ho hall=>exact ⟨_,_,ns,rfl,rfl,ho,ar1 ns _ hall,hlen⟩
theorem bz3 (l:OpenLaw)(args:List WData):l.row.toRowW.claim.post args (.bool true) args=true:=
 postW_of (r:=l.row.toRowW) (X:=(true==true))
   (show WShape.has [] (.bool true) .bool=true by first|rfl|decide|simp [WShape.has,WShape.arms,WShape.armsAll])
   (show (WTm.eq .res (.lit (.bool true))).value [] {args:=args,res:=some (.bool true),after:=args}=some (.bool (true==true)) from w_eq_bool (w_res rfl) w_lit) rfl
theorem cw1 {l:OpenLaw}{n:Nat}{q:Program}{loose:List Str}{XP:(Str→Option Value)→Heap→Prop}{YP:World→Heap→Prop}{d:DefRec}
   (hn:l.most=some n) (hdf:d.params.defaults=[])
   (call:∀(w:World) (s₀ s₁:Shared) (mg mb:Str→Option Value) (fa:Addr) (o:Obj) (pm cd doc:Value) (a:Addr) (vs:List Value) (ns:List Int),
     Ground q loose [] XP w s₀ mg mb s₁.heap→YP w s₁.heap→
     s₁.heap.get? fa=some o→o.data= .func (docDef d.name d.params d.body d.scope pm cd doc)→s₁.heap.CodeRec cd d.name→mg d.name=some (.ref fa)→
     s₁.heap.get? a=some {cls:= .type "list",data:= .seq vs.toArray}→IntsAre vs ns→ns.length≤n→s₁.gens= #[]→
     codeAny (model l.prog w) callerA (.call (.ref fa) ⟨[.ref a],[]⟩) (fun r s'=>r= .ok (.ret (.bool true))∧OldK s₁.heap s'.heap∧s'.os=s₁.os∧AllBare s'.gens) s₁):
   WalkO q loose XP YP l.row.toRowW d [] (fun f vs=>PySem.call f vs):=by
 intro w s₀ s₁ mg mb G Y fa o pm cd doc dV kV ho hd hcd hD hmg hg args vals as hpre hlay hrd hwl hlo
 obtain rfl:dV= .none:=Dflts.none hD hdf
 obtain rfl:kV= .none:=Dflts.noKw hD
 obtain ⟨a,vs,ns,rfl,rfl,hobj,hints,hlen⟩:=bz2 hn hpre hwl
 refine enter_call (codeAny_mono (call w s₀ s₁ mg mb fa o pm cd doc a vs ns G Y ho (fd_plain hd) hcd hmg hobj hints hlen hg) fun r s' hq=> ?_)
 obtain ⟨rfl,h2,h3,h4⟩:=hq
 exact ⟨.inl ⟨.bool true,.bool true,[],rfl,fun _=>rfl,.bool true,bz3 l _,fun _=>⟨List.Pairwise.nil,fun _ hm=>(nomatch hm)⟩⟩,h2,h3,h4⟩
end Att
namespace L2
open PySem PySem.Spec PyProof.Rows
theorem Z7:∀{vs:List Value} {ns:List Int},IntsAre vs ns→j8 (ns.map V.int) vs
 |_,_,.nil=> .nil
 |_,_,.cons n t h=> .cons ⟨t,rfl⟩ (Z7 h)
def cf1 (H:Hp):Prop:=∀b,H b=none∨∃o xs,H b=some (.frz o (.lst xs))
theorem cf2 {P:Program}{w:World}{K:PySem.W.Frag}{mg mb:Str→Option Value}{CX:CXT}{k:Nat}{fa a:Addr}{fd:FuncData}{x:Str}{sp:Sp}{s₁:Shared}{vs:List Value}{ns:List Int}
   (KX:K.In s₁.heap) (hns:s₁.heap.Ns mainGlobals mg) (hb:s₁.heap.Ns builtinsNs mb) (hbb:∀x:Str,x≠"__name__"→mb x=bootBuiltins x) (hlim:s₁.heap.NoLimit) (hg:s₁.gens= #[])
   (ha:s₁.heap.get? a=some {cls:= .type "list",data:= .seq vs.toArray}) (hi:IntsAre vs ns) (hl:ns.length≤sizeLine) (hr:m9 k callerA)
   (F:∀base:Heap,K.In base→base.Ns mainGlobals mg→o4 P w K mg base CX k fa fd [x] sp) (hbind:∀(s:Shared) (u:Value),BindsTo s fd ⟨[u],[]⟩ [(x,u)])
   (hsp:∀H:Hp,cf1 H→h8 K H a (ns.map V.int)→sp [.ref a] H (fun v _=>v= .bl true) fun _ _ _=>False)
   (hCX:∀H e s',CX [] H s₁ (fun _ _ _=>False) e s'→False):
   codeAny (model P w) callerA (.call (.ref fa) ⟨[.ref a],[]⟩) (fun r s'=>r= .ok (.ret (.bool true))∧OldK s₁.heap s'.heap∧s'.os=s₁.os∧AllBare s'.gens) s₁:=by
 have rv:=Z7 hi
 have lenV:=hi.length
 have core:∀H:Hp,cf1 H→h8 K H a (ns.map V.int)→E5 P w H s₁.heap→(∀b,H b≠none→b=a)→(H a≠none→K.lookup a=none)→
     codeAny (model P w) callerA (.call (.ref fa) ⟨[.ref a],[]⟩) (fun r s'=>r= .ok (.ret (.bool true))∧OldK s₁.heap s'.heap∧s'.os=s₁.os∧AllBare s'.gens) s₁:=by
   intro H hO hS hok hA hK
   have al7:∀{b:Addr} {o:Obj},s₁.heap.get? b=some o→H b=none→(ad6 s₁.heap H).get? b=some o:=fun e n=>ce1 e n
   have noA:∀{b:Addr} {o:Obj} {es:Array DictEntry} {ep:Nat},s₁.heap.get? b=some o→o.data= .dict es ep→H b=none:=fun {b o es ep} e d=>by
     cases q:H b with
     |none=>rfl
     |some u=>
      have e':b=a:=hA b (by rw[q];simp)
      subst e'
      rw[ha] at e;cases e
      have d':Data.seq vs.toArray _=Data.dict es ep:=d
      cases d'
   have nsK:∀{b:Addr} {m:Str→Option Value},s₁.heap.Ns b m→(ad6 s₁.heap H).Ns b m:=fun {b m} ⟨o,es,ep,e,d,r⟩=>⟨o,es,ep,al7 e (noA e d),d,r⟩
   have hKb:K.In (ad6 s₁.heap H):=fun b o e=>al7 (KX b o e) (by
     cases q:H b with
     |none=>rfl
     |some u=>
      have e':b=a:=hA b (by rw[q];simp)
      subst e'
      rw[hK (by rw[q];simp)] at e;cases e)
   have hM:Mod K mg (ad6 s₁.heap H):=⟨hKb,nsK hns,⟨mb,nsK hb,hbb⟩,let ⟨mc,h1,h2⟩:=hlim;⟨mc,nsK h1,h2⟩⟩
   have e0:bt0 P w K mg (ad6 s₁.heap H) callerA [] s₁ H:=⟨rfl,hM,fun b o e=>ck6 e,ds8 (bw3 _ _),trivial,fun b hb=>absurd (show b∈([]:List Addr) from hb) (by simp),hok,.of_eq hg⟩
   refine codeAny_mono ((F _ hKb (nsK hns)).run callerA [] s₁ H ⟨[.ref a],[]⟩ [.ref a] [.ref a] _ _ hr e0 (hbind s₁ (.ref a)) (.cons rfl .nil) (hsp H hO hS)) fun r s' h=> ?_
   cases r with
   |error e=>exact (hCX H e s' h).elim
   |ok fl=>
    cases fl with
    |next=>exact False.elim h
    |brk=>exact False.elim h
    |cont=>exact False.elim h
    |ret u=>
     obtain ⟨v,H',os,bare,un,hok',r',q⟩:=h
     have q':v= .bl true:=q
     subst q'
     obtain rfl:u=Value.bool true:=r'
     refine ⟨rfl,OldK.of_keep fun b o e=> ?_,os,bare⟩
     cases q:H b with
     |none=>exact un.keep b o e q (by intro z;exact absurd (show b∈([]:List Addr) from z) (by simp)) (by simp)
     |some u=>
      rcases hO b with z|⟨ob,xs,z⟩
      · rw[q] at z;cases z
      · have z2:=un.frzs b ob _ z
        obtain ⟨e1,_⟩:=hok b _ z
        obtain ⟨e2,_⟩:=hok' b _ z2
        rw[e] at e1;cases e1
        exact e2
 cases hk:K.lookup a with
 |some o=>
  have e:=KX a o hk
  rw[ha] at e
  cases e
  refine core (fun _=>none) (fun _=> .inl rfl) (.inr ⟨_,vs.toArray,_,hk,rfl,rfl,rfl,by rw[dg4,lenV];exact hl,by simpa using rv⟩) (fun b u z=>by have z':(none:Option HO)=some u:=z;cases z') (fun b z=>absurd rfl z) fun z=>absurd rfl z
 |none=>
  refine core (fun b=>if b=a then some (.frz {cls:= .type "list",data:= .seq vs.toArray} (.lst (ns.map V.int))) else none) (fun b=> ?_) (.inl (.inr ⟨{cls:= .type "list",data:= .seq vs.toArray},if_pos rfl⟩)) (fun b u z=> ?_) (fun b z=> ?_) fun _=>hk
  · by_cases hb:b=a
    · exact .inr ⟨_,_,if_pos hb⟩
    · exact .inl (if_neg hb)
  · by_cases hb:b=a
    · have z':=(if_pos hb).symm.trans z
      cases z'
      subst hb
      exact ⟨ha,by rw[de9];exact hl,vs,_,rv,ha⟩
    · have z':=(if_neg hb).symm.trans z
      cases z'
  · by_cases hb:b=a
    · exact hb
    · exact absurd (if_neg hb) z
end L2
namespace L2
open PySem PySem.Spec PyProof.Rows
theorem dd4 {l:PySem.W.OpenLaw}{n k:Nat}{q:Program}{loose:List Str}{XP:(Str→Option Value)→Heap→Prop}{YP:World→Heap→Prop}{d:DefRec}{K:Params→PySem.W.Frag}{CX:World→CXT}{sp:World→Sp}{x:Str}
   (hn:l.most=some n) (hn2:n≤sizeLine) (hdf:d.params.defaults=[]) (hr:m9 k callerA)
   (hY:∀(w:World) (h:Heap),YP w h→(K w.params).In h)
   (F:∀(w:World) (mg:Str→Option Value) (fa:Addr) (h:Heap),(K w.params).In h→h.Ns mainGlobals mg→mg d.name=some (.ref fa)→
     ∃fd:FuncData,(∀(s:Shared) (u:Value),BindsTo s fd ⟨[u],[]⟩ [(x,u)])∧
      ∀base:Heap,(K w.params).In base→base.Ns mainGlobals mg→o4 l.prog w (K w.params) mg base (CX w) k fa fd [x] (sp w))
   (hsp:∀(w:World) (H:Hp) (a:Addr) (ns:List Int),ns.length≤n→cf1 H→h8 (K w.params) H a (ns.map V.int)→sp w [.ref a] H (fun v _=>v= .bl true) fun _ _ _=>False)
   (hCX:∀(w:World) (H:Hp) (s:Shared) (e:Value) (s':Shared),CX w [] H s (fun _ _ _=>False) e s'→False):
   PySem.W.WalkO q loose XP YP l.row.toRowW d [] (fun f vs=>PySem.call f vs):=by
 refine Att.cw1 hn hdf fun w s₀ s₁ mg mb fa o pm cd doc a vs ns G Y ho hd hcd hmg hobj hints hlen hg=> ?_
 have KX:=hY w _ Y
 obtain ⟨fd,hb,hF⟩:=F w mg fa _ KX G.T.g hmg
 exact cf2 KX G.T.g G.T.b G.T.builtins G.T.nolimit hg hobj hints (dg5 hlen hn2) hr hF hb (fun H hO hS=>hsp w H a ns hlen hO hS) fun H e s'=>hCX w H s₁ e s'
end L2
namespace L2
open PySem PySem.Spec PyProof.Rows
def W5 (s:Stmt):Arguments:=match s with
 | .FunctionDef _ a _ _ _ _ _ _ _ _=>a
 |_=>{posonlyargs:=[],args:=[],vararg:=none,kwonlyargs:=[],kw_defaults:=[],kwarg:=none,defaults:=[]}
def S5 (s:Stmt):List Stmt:=match s with
 | .FunctionDef _ _ b _ _ _ _ _ _ _=>b
 |_=>[]
def i7 (s:Stmt):Scope:=match s with
 | .FunctionDef _ _ _ _ _ _ sc _ _ _=>sc
 |_=>{kind:= .function,names:=[],isGenerator:=false,isCoroutine:=false}
abbrev A2:CXT:=fun _ _ _ _ _ _=>False
abbrev E0:XK:=fun _ _ _=>False
theorem cy0 {X:Cx}:be7 A2 X E0:=fun _ _ _ _ _ _ _ h=>h.elim
structure A4 (K:PySem.W.Frag)(x qual:Str)(st:Stmt)(f:Addr)(fd:FuncData):Prop where
 ex:∃(oc:Value) (od:Option Addr) (kV doc pm:Value) (an:Option Addr) (cdv ct:Value) (osl:Array (Option Value)),
   fd=PySem.W.fnOf x qual (W5 st) (S5 st) (i7 st) .none kV doc pm an cdv ct∧K.lookup f=some ⟨oc,od,.func fd,osl⟩∧PySem.W.codeIn K cdv qual=true
 kp:PySem.W.keepIn K (.ref f)=true
section
variable {P:Program} {w:World} {K:PySem.W.Frag} {mg:Str→Option Value} {base:Heap}
theorem A4.ok {x qual:Str}{st:Stmt}{f:Addr}{fd:FuncData}{N ps:List Str}{k:Nat}{sp:Sp}(F:A4 K x qual st f fd)(S:l5 N ps (i7 st))(len:∀vs H Q E,sp vs H Q E→vs.length=ps.length)
   (hbody:∀(cdv:Value) (A:Around) (outer:List Env) (s:Shared) (H:Hp) (vs:List V) (Q:VK) (E:XK),m9 k (A.deeper (envOfC qual (i7 st) s.heap.objs.size f cdv))→sp vs H Q E→
     ∃t,PSs (aw2 A2 P w K mg base N qual (i7 st) f cdv A outer s H E).nox (S5 st) t∧t {nx:=fun _ H'=>Q .non H',rt:=Q} (W0 N vs) H):o4 P w K mg base A2 (k+1) f fd ps sp:=by
 obtain ⟨oc,od,kV,doc,pm,an,cdv,ct,osl,rfl,lk,hcd⟩:=F.ex
 refine cx3 lk hcd S len fun A outer s H vs Q E hr hsp=> ?_
 obtain ⟨t,h,q⟩:=hbody cdv A outer s H vs Q E hr hsp
 exact ⟨t,h.nox,q⟩
theorem A4.binds {x qual:Str}{st:Stmt}{f:Addr}{fd:FuncData}{ps:List Str}(F:A4 K x qual st f fd)
   (h:∀(kV doc pm:Value) (an:Option Addr) (cdv ct:Value) (us:List Value),us.length=ps.length→bindArgs (PySem.W.fnOf x qual (W5 st) (S5 st) (i7 st) .none kV doc pm an cdv ct) ⟨us,[]⟩=pure (ps.zip us)):ad8 K fd ps []:=by
 obtain ⟨oc,od,kV,doc,pm,an,cdv,ct,osl,rfl,lk,hcd⟩:=F.ex
 exact .all (h kV doc pm an cdv ct)
theorem cs2 {x qual:Str}{st:Stmt}{f:Addr}{oc:Value}{od an:Option Addr}{osl:Array (Option Value)}{kV doc pm cdv ct:Value}(l:K.lookup f=some ⟨oc,od,.func (PySem.W.fnOf x qual (W5 st) (S5 st) (i7 st) .none kV doc pm an cdv ct),osl⟩)
 (c:PySem.W.codeIn K cdv qual=true) (k:PySem.W.keepIn K (.ref f)=true):A4 K x qual st f (PySem.W.fnOf x qual (W5 st) (S5 st) (i7 st) .none kV doc pm an cdv ct):=⟨⟨oc,od,kV,doc,pm,an,cdv,ct,osl,rfl,l,c⟩,k⟩
end
theorem W2 {A:Around}{k:Nat}(hr:m9 k A):A.units+1 < cLine:=dj5 (dw2 (by decide:1≤64) _) hr.units
theorem p8 {n:Nat}(h:n≤1000):n < sizeLine:=dj5 h (by decide)
section
variable {X:Cx}
theorem pv (i:Nat){x:Str}{pos:Pos}(hN:X.N[i]? =some x:=by rfl)(hv:Vis X.env.scope x:=by first|exact Or.inl rfl|exact Or.inr (Or.inl rfl)|exact Or.inr (Or.inr rfl))(hd:(x==("__debug__":Str))=false:=by decide)
 (hcd:(x==("__classdict__":Str))=false:=by decide):PE X (.Name x pos) (cp6 i):=cp7 hN hv hd hcd
end
theorem E7 {A B:Prop}(h:B):if false=true then A else B:=by
 rw[if_neg dh5]
 exact h
theorem O8 {A B:Prop}(h:A):if true=true then A else B:=by
 rw[if_pos rfl]
 exact h
theorem P8 {c A B:Prop}[Decidable c](h1:c→A)(h2:¬c→B):if c then A else B:=by
 by_cases h:c
 · rw[if_pos h]
   exact h1 h
 · rw[if_neg h]
   exact h2 h
theorem ar2 {c A B:Prop}[Decidable c](hc:c)(h:B):if (!decide c)=true then A else B:=by
 rw[decide_eq_true hc]
 exact E7 h
def e8 (H H':Hp):Prop:=∀b o,H b=some o→H' b=some o
theorem e8.refl (H:Hp):e8 H H:=fun _ _ h=>h
theorem e8.trans {H H1 H2:Hp}(a:e8 H H1)(b:e8 H1 H2):e8 H H2:=fun c o h=>b c o (a c o h)
theorem e8.free {H H':Hp}(e:e8 H H'){l:Addr}(h:H' l=Option.none):H l=Option.none:=by
 cases q:H l with
 |none=>rfl
 |some o=>
  rw[e l o q] at h
  cases h
section
variable {κ:Type} [DecidableEq κ]
theorem aw5:∀{l:List κ} {k:κ},l.Nodup→¬k∈l→(l++[k]).Nodup
 |[],k,_,_=>by simp
 |a::r,k,h,hk=>by
  obtain ⟨h1,h2⟩:=dj3.mp h
  show (a::(r++[k])).Nodup
  refine dj3.mpr ⟨fun m=> ?_,aw5 h2 fun m=>hk (dg9.mpr (Or.inr m))⟩
  rcases dg2.mp m with q|q
  · exact h1 q
  · exact hk (dg9.mpr (Or.inl (dg3.mp q).symm))
end
end L2
set_option maxHeartbeats 8000000
namespace L2
open PySem PySem.Spec PyProof.Rows
def P0 (X:Cx)(N:List Str)(scope:Scope)(cl:List (Str×Addr))(C:Addr)(s0:Shared)(H0:Hp)(ex:List Addr):Cx:=
 {X with N:=N,s₀:=s0,H₀:=H0,env:=compEnvC scope cl C X.env,outer:=X.stack,stack:=X.stack,ex:=ex,fn:=fun _=>false,pn:=[],xe:=fun _ _=>False}
def ar3 (nl:Nat)(fr:List Nat)(σ:St):St:=di6 nl none++fr.map fun j=>(σ[j]?).join
def A5 (env:Env):List (Str×NameKind)→List (Str×Addr)→List (Str×Addr)
 |[],cs=>cs
 |(n,k)::r,cs=>A5 env r (if (k==NameKind.free)=true then (n,(env.cells.lookup n).getD 0)::cs else cs)
theorem ar4 (env:Env):∀(ns:List (Str×NameKind)) (cs:List (Str×Addr)),(∀p∈ns,p.2= .free→∃c,env.cells.lookup p.1=some c)→(∀y c,cs.lookup y=some c→env.cells.lookup y=some c)→
   ∀y c,(A5 env ns cs).lookup y=some c→env.cells.lookup y=some c
 |[],cs,_,h,y,c,e=>h y c e
 |(n,k)::r,cs,hn,h,y,c,e=>by
  unfold A5 at e
  refine ar4 env r _ (fun p hp=>hn p (df6 _ hp)) ?_ y c e
  intro z d ez
  split at ez
  · rename_i hk
    rw[dl9] at ez
    cases hz:z==n with
    |true=>
     rw[hz] at ez
     have hzn:z=n:=eq_of_beq hz
     subst hzn
     have hkf:k= .free:=by simpa using hk
     obtain ⟨c',hc'⟩:=hn (z,k) df4 hkf
     have hc':env.cells.lookup z=some c':=hc'
     rw[hc'] at ez
     rw[hc']
     simpa using ez
    |false=>
     rw[hz] at ez
     exact h z d ez
  · exact h z d ez
theorem am4 (env:Env):∀(ns:List (Str×NameKind)) (cs:List (Str×Addr)) (y:Str),(∃c,cs.lookup y=some c)→∃c,(A5 env ns cs).lookup y=some c
 |[],cs,y,h=>h
 |(n,k)::r,cs,y,⟨c,h⟩=>by
  unfold A5
  refine am4 env r _ y ?_
  split
  · rw[dl9]
    cases hz:y==n with
    |true=>exact ⟨_,rfl⟩
    |false=>exact ⟨c,h⟩
  · exact ⟨c,h⟩
theorem ae0 (env:Env):∀(ns:List (Str×NameKind)) (cs:List (Str×Addr)) (p:Str×NameKind),p∈ns→p.2= .free→∃c,(A5 env ns cs).lookup p.1=some c
 |[],cs,p,hp,_=>by simp at hp
 |(n,k)::r,cs,p,hp,hk=>by
  unfold A5
  rcases dg9.mp hp with e|hp
  · subst e
    have hk:k= .free:=hk
    subst hk
    refine am4 env r _ n ?_
    rw[if_pos (by rfl),dl9]
    exact ⟨(List.lookup n env.cells).getD 0,by simp⟩
  · exact ae0 env r _ p hp hk
theorem ah2 (env:Env):∀(ns:List (Str×NameKind)) (cs:List (Str×Addr)),(∀p∈ns,p.2= .free→∃c,env.cells.lookup p.1=some c)→
   (forIn ns cs (fun (x:Str×NameKind) (r:List (Str×Addr))=>if (x.2==NameKind.free)=true then (do let a ←cellOf env x.1;pure (ForInStep.yield ((x.1,a)::r))) else pure (ForInStep.yield r)):Sem (List (Str×Addr)))=pure (A5 env ns cs)
 |[],cs,_=>rfl
 |(n,k)::r,cs,hn=>by
  have ih:=fun cs'=>ah2 env r cs' fun p hp=>hn p (df6 _ hp)
  rw[List.forIn_cons]
  unfold A5
  by_cases hk:(k==NameKind.free)=true
  · obtain ⟨c,hc⟩:=hn (n,k) df4 (by simpa using hk)
    have hc:env.cells.lookup n=some c:=hc
    rw[if_pos hk,if_pos hk]
    have e1:cellOf env n=pure c:=by unfold cellOf;rw[hc]
    rw[e1,hc]
    exact ih _
  · rw[if_neg hk,if_neg hk]
    exact ih _
theorem ag6 {scope:Scope}{env:Env}(h:∀p∈scope.names,p.2= .free→∃c,env.cells.lookup p.1=some c):closureFor scope env=pure (A5 env scope.names []):=by
 have e:=ah2 env scope.names [] h
 unfold closureFor
 show (forIn scope.names [] _ >>=_)=_
 have e2:(forIn scope.names ([]:List (Str×Addr)) (fun (x:Str×NameKind) (r:List (Str×Addr))=>match x with|(name,kind)=>(if (kind==NameKind.free)=true then (do let a ←cellOf env name;pure PUnit.unit;pure (ForInStep.yield ((name,a)::r))) else (do pure PUnit.unit;pure (ForInStep.yield r)))):Sem (List (Str×Addr)))=pure (A5 env scope.names []):=e
 first
   |exact (congrArg (fun z=>z >>=fun cs=>pure cs) e2)
   |(rw[show (forIn scope.names ([]:List (Str×Addr)) _:Sem (List (Str×Addr)))=pure (A5 env scope.names []) from e];rfl)
section
variable {X:Cx}
def bf4 (X:Cx)(ifs:List Expr)(t:TT):Prop:=
 ∀(pins:List (Addr×Obj)) (s:Shared) (σ:St) (H:Hp) (Q:Bool→Hp→Prop),g9 X pins σ H s→t σ H Q→
  wpAny (model X.prog X.w) X.A (forIn ifs true fun c r=>if r=true then do let ok ←isTrue c X.env (eval c X.env);pure (ForInStep.yield ok) else pure (ForInStep.yield r)) (TP X pins σ Q) X.xe s
def dc6:TT:=fun _ H Q=>Q true H
theorem bf5:bf4 X [] dc6:=fun pins s σ H Q I h=>by
 rw[List.forIn_nil]
 exact wpAny_pure ⟨H,I,h⟩
theorem an5 {c:Expr}{t:TT}(h:PT X c t):bf4 X [c] t:=by
 intro pins s σ H Q I hw
 rw[List.forIn_cons,if_pos rfl]
 refine wpAny_bind (wpAny_bind (m7 (h pins s σ H Q I hw) fun b s1 q=>wpAny_pure ?_))
 show wpAny _ _ (forIn [] b _) _ _ s1
 rw[List.forIn_nil]
 exact wpAny_pure q
theorem bf6 {prog:Program}{w:World}{A:Around}{R:Result→Shared→Prop}{s:Shared}{elt target iter:Expr}{ifs:List Expr}{scope:Scope}{pos:Pos}{it acc:Value}{env:Env}(I:Nat→Shared→Prop)
   (turn:∀n s,I n s→wpAny (model prog w) A (pyNext it) (fun r s1=>match r with
     |none=>R (.ok .next) s1
     |some v=>wpAny (model prog w) A (letOwnedTupleGo target it v) (fun _ s2=>wpAny (model prog w) A (assign target env v) (fun _ s3=>
         wpAny (model prog w) A (forIn ifs true fun c r=>if r=true then do let ok ←isTrue c env (eval c env);pure (ForInStep.yield ok) else pure (ForInStep.yield r)) (fun ok s4=>
           if ok=true then wpAny (model prog w) A (eval elt env) (fun x s5=>
             wpAny (model prog w) A (call (.builtin "list.append") [acc,x]) (fun _ s6=>∃m,m < n∧I m s6) (fun _ _=>False) s5) (fun _ _=>False) s4
           else ∃m,m < n∧I m s4) (fun _ _=>False) s3) (fun _ _=>False) s2) (fun _ _=>False) s1) (fun _ _=>False) s)
   (n:Nat) (h:I n s):
   codeAny (model prog w) A (.compLoop (.ListComp elt [⟨target,iter,ifs,0⟩] scope pos) 0 it acc env) R s:=by
 refine codeAny_loop rfl I (fun n s hI=> ?_) n h
 show wpAny _ A ((compTurn (.ListComp elt [⟨target,iter,ifs,0⟩] scope pos) 0 it acc env).onRaise (fun x=>do noteFrame x env;theTreesLotGoes x)) _ _ s
 refine wpAny_noted ?_
 rw[compTurn_list]
 refine wpAny_bind (wpAny_standAt (wpAny_bind (wpAny_mono (turn n s hI) (fun r s1 h1=> ?_) fun _ _ f=>f.elim)))
 cases r with
 |none=>exact wpAny_pure h1
 |some v=>
  refine wpAny_bind (wpAny_mono h1 (fun _ s2 h2=> ?_) fun _ _ f=>f.elim)
  refine wpAny_bind (wpAny_mono h2 (fun _ s3 h3=>wpAny_bind (wpAny_mono h3 (fun ok s4 h4=> ?_) fun _ _ f=>f.elim)) fun _ _ f=>f.elim)
  cases ok with
  |false=>exact wpAny_pure ⟨rfl,h4⟩
  |true=>
   exact wpAny_bind (wpAny_bind (wpAny_mono h4 (fun x s5 h5=>wpAny_bind (wpAny_mono h5 (fun _ s6 h6=>wpAny_pure (wpAny_pure ⟨rfl,h6⟩)) fun _ _ f=>f.elim)) fun _ _ f=>f.elim))
def bt4 (J:It)(g:TG)(tc:TT)(te:TE)(Q:VK)(σ0:St)(H0:Hp):Prop:=∃W:Nat→Nat→List V→St→Hp→Prop,(∃m,W 0 m [] σ0 H0)∧∀i m ys σ' H',W i m ys σ' H'→
 (J.stop i H'∧∀D,H' D=none→Q (.ref D) (e7 H' D (.lst ys)))∨
 (J.go i H'∧∃N:List V→St→Hp→Prop,(∀ys' σ2 H2,N ys' σ2 H2→∃m',m' < m∧W (i+1) m' ys' σ2 H2)∧∀x H2,J.yld i H' x H2→g x σ' H2 fun σ2 H3=>tc σ2 H3 fun b H4=>
   if b=true then te σ2 H4 fun y H5=>ys.length < sizeLine∧N (ys++[y]) σ2 H5 else N ys σ2 H4)
def bt5 (nl:Nat)(fr:List Nat)(wi:TI)(g:TG)(tc:TT)(te:TE):TE:=fun σ H Q=>wi σ H fun J H1=>bt4 J g tc te Q (ar3 nl fr σ) H1
structure ah3 (X:Cx)(N:List Str)(nl:Nat)(fr:List Nat)(scope:Scope):Prop where
 cell:∀y∈scope.names,y.2≠.cell
 kind:scope.kind= .function
 names:∀y∈scope.names,y.2= .local→scope.names.lookup y.1=some .local
 free:∀p∈scope.names,p.2= .free→X.env.kindOf p.1=some .cell∨X.env.kindOf p.1=some .free
 len:N.length=nl+fr.length
 fr:∀(k j:Nat),fr[k]? =some j→∃y,N[nl+k]? =some y∧X.N[j]? =some y∧Vis X.env.scope y∧scope.names.lookup y=some .free
theorem S6 {env:Env}:∀{names:List (Str×NameKind)} {x:Str} {k:NameKind},(names.map fun (n,k)=>if (k==NameKind.free&&env.scope.kind== .function&&env.kindOf n==some .cell) then (n,NameKind.cell) else (n,k)).lookup x=some k→
   k= .cell∨k= .free→(∀y∈names,y.2≠.cell)→∃p∈names,p.1=x∧p.2= .free
 |[],_,_,h,_,_=>by simp at h
 |(n,kn)::r,x,k,h,hk,hc=>by
  have ih:=@S6 env r x k
  rw[dj0] at h
  have hcn:kn≠.cell:=hc (n,kn) df4
  have hr:∀y∈r,y.2≠.cell:=fun y hy=>hc y (df6 _ hy)
  cases hx:x==n with
  |true=>
   have hxn:x=n:=eq_of_beq hx
   by_cases hcc:(kn==NameKind.free&&env.scope.kind== .function&&env.kindOf n==some .cell)=true
   · refine ⟨(n,kn),df4,hxn.symm,?_⟩
     simp only[dq4] at hcc
     simpa using hcc.1.1
   · dsimp only at h
     rw[if_neg hcc,dl9,hx] at h
     have hkk:kn=k:=Option.some.inj h
     subst hkk
     rcases hk with z|z
     · exact absurd z hcn
     · exact ⟨(n,kn),df4,hxn.symm,z⟩
  |false=>
   by_cases hcc:(kn==NameKind.free&&env.scope.kind== .function&&env.kindOf n==some .cell)=true
   · dsimp only at h
     rw[if_pos hcc,dl9,hx] at h
     obtain ⟨p,hp,q⟩:=ih h hk hr
     exact ⟨p,df6 _ hp,q⟩
   · dsimp only at h
     rw[if_neg hcc,dl9,hx] at h
     obtain ⟨p,hp,q⟩:=ih h hk hr
     exact ⟨p,df6 _ hp,q⟩
theorem S0 {env:Env}:∀{names:List (Str×NameKind)} {x:Str},names.lookup x=some .free→
   (names.map fun (n,k)=>if (k==NameKind.free&&env.scope.kind== .function&&env.kindOf n==some .cell) then (n,NameKind.cell) else (n,k)).lookup x=some .cell∨
   (names.map fun (n,k)=>if (k==NameKind.free&&env.scope.kind== .function&&env.kindOf n==some .cell) then (n,NameKind.cell) else (n,k)).lookup x=some .free
 |[],_,h=>by simp at h
 |(n,kn)::r,x,h=>by
  have ih:=@S0 env r x
  rw[dj0]
  dsimp only
  cases hx:x==n with
  |true=>
   rw[dl9,hx] at h
   have hkn:kn= .free:=Option.some.inj h
   by_cases hcc:(kn==NameKind.free&&env.scope.kind== .function&&env.kindOf n==some .cell)=true
   · rw[if_pos hcc,dl9,hx];exact .inl rfl
   · rw[if_neg hcc,dl9,hx];exact .inr (congrArg some hkn)
  |false=>
   rw[dl9,hx] at h
   by_cases hcc:(kn==NameKind.free&&env.scope.kind== .function&&env.kindOf n==some .cell)=true
   · rw[if_pos hcc,dl9,hx];exact ih h
   · rw[if_neg hcc,dl9,hx];exact ih h
theorem E5.track {P:Program}{w:World}{H:Hp}{h:Heap}{a:Addr}{o:HO}(x:E5 P w H h)(hn:H a=none)(new:q0 P w (e7 H a o) h a o):E5 P w (e7 H a o) h:=fun b u e=>by
 by_cases hb:b=a
 · subst hb;rw[c8] at e;cases e;exact new
 · rw[g8 hb] at e
   exact (x b u e).stay (fun c v _ q=>q) (fun c q=>by rw[g8 (g6 q hn)];exact q) fun c xs q=>by rw[g8 (g6 q hn)];exact q
theorem ba7 {elt tg iter:Expr}{ifs:List Expr}{scope:Scope}{pos:Pos}{wi:TI}{g:TG}{tc:TT}{te:TE}{N:List Str}{nl:Nat}{fr:List Nat}
   (hc:X.calm=true) (hi:PI X tg iter wi) (hg:∀cl C s0 H0 ex,PG (P0 X N scope cl C s0 H0 ex) tg g) (ht:∀cl C s0 H0 ex,bf4 (P0 X N scope cl C s0 H0 ex) ifs tc)
   (he:∀cl C s0 H0 ex,PE (P0 X N scope cl C s0 H0 ex) elt te) (ok:ah3 X N nl fr scope)
   {RR:Value→Addr→Result→Shared→Prop} {pins:List (Addr×Obj)} {s:Shared} {σ:St} {H:Hp} {Q:VK} (I:g9 X pins σ H s) (h:bt5 nl fr wi g tc te σ H Q)
   (hRR:∀D C s' H',g9 X pins σ H' s'→Q (.ref D) H'→ag9 X pins H' C→(∃m,s'.heap.Ns C m)→RR (.ref D) C (.ok .next) s'):
   wpAny (model X.prog X.w) X.A (eval iter X.env) (fun x s1=>wpAny (model X.prog X.w) X.A (pyIter x) (fun it s2=>wpAny (model X.prog X.w) X.A (newList []) (fun acc s3=>
     wpAny (model X.prog X.w) X.A (newFunctionEnv scope X.env.globals (A5 X.env scope.names []) [] X.env.qual none .none (some X.env)) (fun cenv s4=>
       codeAny (model X.prog X.w) X.A (.compStart (.ListComp elt [⟨tg,iter,ifs,0⟩] scope pos) 0 it acc {cenv with scope:=relabel scope X.env}) (RR acc cenv.locals) s4) X.xe s3) X.xe s2) X.xe s1) X.xe s:=by
 refine m7 (hi pins s σ H _ I h) fun v s1 h1=>m7 h1 fun itv s2 h2=> ?_
 obtain ⟨it,fp,tn,J,H2,rfl,I2,T,st2,f2,W,⟨m0,w0⟩,turn⟩:=h2
 refine wpAny_newObj_type (wpAny_newFunctionEnv ok.cell (by intro y hy;simp at hy) (fun h1 hns1 hsb1=> ?_) ok.kind)
 dsimp only at hns1 hsb1 ⊢
 generalize hHH:s2.heap.push {cls:= .type "list",dict:=none,data:= .seq ([]:List Value).toArray}=HH at hns1 hsb1 ⊢
 have hC:HH.objs.size=s2.heap.objs.size+1:=by rw[←hHH,Heap.size_push]
 have hDC:s2.heap.objs.size≠HH.objs.size:=by rw[hC];exact dk1 (Nat.lt_succ_self _)
 have hCle:s2.heap.objs.size≤HH.objs.size:=by rw[hC];exact ds1 _
 have below:∀b,b < s2.heap.objs.size→b≠HH.objs.size∧b≠s2.heap.objs.size:=fun b hb=>⟨by rw[hC];exact dk1 (du0 hb),dk1 hb⟩
 have old:∀b o,s2.heap.get? b=some o→h1.get? b=some o:=fun b o e=>hsb1.extBut b o (below b (Heap.lt_size e)).1 (Heap.get?_push_of_some _ (hHH▸Heap.get?_push_of_some _ e))
 have hacc:h1.get? s2.heap.objs.size=some {cls:= .type "list",data:= .seq ([]:List Value).toArray}:=hsb1.extBut _ _ hDC (Heap.get?_push_of_some _ (hHH▸Heap.get?_push_size _ rfl))
 have fplt:∀b∈fp,b < s2.heap.objs.size:=fun b hb=>by obtain ⟨o,e,_⟩:=T.obj 0 _ st2 b hb;exact Heap.lt_size e
 generalize hXd:P0 X N scope (A5 X.env scope.names []) HH.objs.size s2 H2 fp=X'
 have hfreeC:∀p∈scope.names,p.2= .free→∃c,X.env.cells.lookup p.1=some c:=fun p hp hf=>I.ok.has p.1 (ok.free p hp hf)
 have cellsSub:∀y c,(A5 X.env scope.names []).lookup y=some c→X.env.cells.lookup y=some c:=ar4 X.env scope.names [] hfreeC (fun y c e=>by simp at e)
 have cellLt:∀y c,X.env.cells.lookup y=some c→c < s2.heap.objs.size:=fun y c e=>by obtain ⟨v,z⟩:=I2.cell y c e;exact z.lt
 have ok':X'.Ok:=by
   rw[←hXd]
   refine ⟨I.ok.mod,?_,I.ok.glob,I.ok.blt,hCle,fun x y c e1 e2=>I.ok.inj x y c (cellsSub x c e1) (cellsSub y c e2),fun x hx=> ?_,fun x c hf=>(by cases hf),I.ok.hd,I.ok.frames,.inl rfl,
     fun b hb=>⟨(below b (fplt b hb)).1,fun x c e=>(f2 b hb).2.2.2.2.1 x c (cellsSub x c e)⟩,I2.bs,dg5 I.ok.bsz I2.sz,fun b o e hb=> ?_,fun b hb hfs=> ?_,I2.stack,I2.stkFree⟩
   · show (relabel scope X.env).kind= .function
     exact ok.kind
   · have hx':∃p∈scope.names,p.1=x∧p.2= .free:=by
       rcases hx with z|z
       · exact S6 z (.inl rfl) ok.cell
       · exact S6 z (.inr rfl) ok.cell
     obtain ⟨p,hp,rfl,hpf⟩:=hx'
     exact ae0 X.env scope.names [] p hp hpf
   · rcases (f2 b hb).2.2.2.1 with z|z
     · exact I.ok.noex b o e z
     · exact absurd (dj9 (Heap.lt_size e) (dg5 I.ok.bsz z)) (dn3 _)
   · rcases dg9.mp (I2.stkSub b hfs) with z|z
     · exact (f2 b hb).2.1 z
     · exact (f2 b hb).2.2.1 z
 have hX'd:X'.env.locals=HH.objs.size:=by rw[←hXd];rfl
 have hX'c:X'.env.cells=A5 X.env scope.names []:=by rw[←hXd];rfl
 have hX'pn:X'.pn=[]:=by rw[←hXd];rfl
 have hX'ex:X'.ex=fp:=by rw[←hXd];rfl
 have hX's0:X'.s₀=s2:=by rw[←hXd];rfl
 have hX'H0:X'.H₀=H2:=by rw[←hXd];rfl
 have hX'fs:X'.fs=Z3 X.stack:=by rw[←hXd];rfl
 have hX'xe:X'.xe=fun _ _=>False:=by rw[←hXd];rfl
 have hX'A:X'.A=X.A:=by rw[←hXd];rfl
 have hX'P:X'.prog=X.prog:=by rw[←hXd];rfl
 have hX'w:X'.w=X.w:=by rw[←hXd];rfl
 have hX'K:X'.K=X.K:=by rw[←hXd];rfl
 have hX'calm:X'.calm=true:=by rw[←hXd];exact hc
 have hX'env:X'.env=compEnvC scope (A5 X.env scope.names []) HH.objs.size X.env:=by rw[←hXd];rfl
 have I':g9 X' [] (ar3 nl fr σ) H2 {s2 with heap:=h1,toks:=s2.toks+([]:List (Str×Value)).length}:=by
   refine ⟨ok',by rw[hX's0],I2.bare,?_,?_,fun x c e=> ?_,?_,fun x c e=> ?_,fun p hp=> ?_,?_,?_⟩
   · rw[hX'fs,hX'ex,hX'H0,hX's0];exact Un.kept old
   · obtain ⟨m,hn,hl⟩:=I2.loc
     rw[hX'd]
     refine ⟨_,hns1,fun i x v e1 e2 e3=> ?_⟩
     have hN':N[i]? =some x:=by rw[←hXd] at e1;exact e1
     unfold ar3 at e2
     have hi:¬i < nl:=fun hlt=>by
       rw[di1 (by simpa using hlt),dx9,if_pos hlt] at e2
       cases e2
     rw[di8 (by simpa using hi),dp9,df3] at e2
     cases ej:fr[i - nl]? with
     |none=>rw[ej] at e2;cases e2
     |some j=>
      rw[ej] at e2
      obtain ⟨y,y1,y2,y3,y4⟩:=ok.fr (i - nl) j ej
      have hii:nl+(i - nl)=i:=by omega
      rw[hii,hN'] at y1
      have hxy:x=y:=Option.some.inj y1
      subst hxy
      have e2':(σ[j]?).join=some v:=Option.some.inj e2
      have e2'':σ[j]? =some (some v):=by
        cases hσ:σ[j]? with
        |none=>rw[hσ] at e2';cases e2'
        |some z=>rw[hσ] at e2';exact congrArg some e2'
      obtain ⟨u,r,l⟩:=hl j x v y2 e2'' y3
      have hkX:=ok.free (x,.free) (PySem.mem_of_lookup y4) rfl
      refine ⟨u,r,.inr ⟨?_,?_⟩⟩
      · rw[hX'env]
        rcases S0 (env:=X.env) y4 with z|z
        · exact .inl z
        · exact .inr z
      · rcases l with ⟨k1,_⟩|⟨_,c,ec,hcell⟩
        · rcases hkX with z|z
          · rw[z] at k1;cases k1
          · rw[z] at k1;cases k1
        · obtain ⟨c',ec'⟩:=ae0 X.env scope.names [] (x,.free) (PySem.mem_of_lookup y4) rfl
          have:c'=c:=by
            have q:=cellsSub x c' ec'
            rw[ec] at q
            exact (Option.some.inj q).symm
          subst this
          refine ⟨c',by rw[hX'c];exact ec',?_⟩
          obtain ⟨oc,ho,hd⟩:=hcell
          exact ⟨oc,old _ _ ho,hd⟩
   · rw[hX'c] at e
     obtain ⟨v,oc,ho,hd⟩:=I2.cell x c (cellsSub x c e)
     exact ⟨v,oc,old _ _ ho,hd⟩
   · rw[hX'd];exact I2.hok.fresh hCle
   · rw[hX'c] at e
     exact I2.freeC x c (cellsSub x c e)
   · rw[hX'pn] at hp;simp at hp
   · rw[hX'P,hX'w];exact I2.hok.kept old
   · unfold ar3
     have:X'.N=N:=by rw[←hXd];rfl
     rw[this,ok.len,df7,dp9,de9]
 have Dn:∀{H':Hp} {pins'} {s':Shared} {σ'},g9 X' pins' σ' H' s'→H' s2.heap.objs.size=none→∀o,s'.heap.get? s2.heap.objs.size=some o→(∀v,o.data≠.cell v)→g9 X' [(s2.heap.objs.size,o)] σ' H' s':=fun {H' pins' s' σ'} I3 hD o ho hnc=>
   I3.pins_of fun p hp=>by
     have e:p=(s2.heap.objs.size,o):=by simpa using hp
     subst e
     refine ⟨ho,hD,by rw[hX'd];exact hDC,?_,hnc⟩
     rw[hX'fs]
     intro hb
     rcases dg9.mp (I2.stkSub _ hb) with z|z
     · exact absurd (z▸I2.lt) (dn3 _)
     · exact I2.nofs (df2 _) z
 have loop:∀s₃:Shared,s₃={s2 with heap:=h1,toks:=s2.toks+([]:List (Str×Value)).length}→
     codeAny (model X.prog X.w) X.A (.compLoop (.ListComp elt [⟨tg,iter,ifs,0⟩] scope pos) 0 (.ref it) (.ref s2.heap.objs.size) (compEnvC scope (A5 X.env scope.names []) HH.objs.size X.env)) (RR (.ref s2.heap.objs.size) HH.objs.size) s₃:=by
   rintro s₃ rfl
   refine bf6 (fun n s'=>∃(i:Nat) (σ':St) (H':Hp) (ys:List V) (its:List Value) (k:Nat),g9 X' [(s2.heap.objs.size,{cls:= .type "list",data:= .seq its.toArray k})] σ' H' s'∧j8 ys its∧ys.length≤sizeLine∧tn i s'.heap∧(∀b∈fp,H' b=none)∧W i n ys σ' H')
     ?_ m0 ⟨0,_,H2,[],[],0,Dn I' (I2.hok.fresh (df2 _)) _ hacc (fun v z=>by cases z),.nil,dh2 _,T.keep 0 _ _ st2 fun b hb o e=>old b o e,fun b hb=>(f2 b hb).1,w0⟩
   rintro n s3 ⟨i,σ3,H3,ys,its,k,I3,rv,hyl,st3,fr3,w3⟩
   have pinD:=I3.pin (s2.heap.objs.size,{cls:= .type "list",data:= .seq its.toArray k}) (by rw[hX'pn];exact dh6 _ df4)
   have stat:∀{o:Obj} {H':Hp},(∀b∈fp,H' b=none)→∀b∈fp,ag9 X' [(s2.heap.objs.size,o)] H' b:=fun {o H'} hn b hb=>by
     refine ⟨hn b hb,by rw[hX'd];exact (below b (fplt b hb)).1,fun z=>ok'.exfs b (by rw[hX'ex];exact hb) z,.inl (by rw[hX'ex];exact hb),fun x c e=>by rw[hX'c] at e;exact (f2 b hb).2.2.2.2.1 x c (cellsSub x c e),fun p hp=> ?_⟩
     rw[hX'pn] at hp
     have e:p=(s2.heap.objs.size,o):=by simpa using hp
     subst e
     exact fun z=>(below b (fplt b hb)).2 z.symm
   rcases turn i n ys σ3 H3 w3 with ⟨stop,qn⟩|⟨go,Nx,hNx,step⟩
   · have dn:=T.done X' hX'P hX'w hX'K hX'calm i _ s3 σ3 H3 (fun _ _=>False) I3 (stat fr3) st3 stop
     rw[hX'A] at dn
     refine m7 dn fun r s4 ⟨hr,I4⟩=> ?_
     subst hr
     have pinE:=I4.pin (s2.heap.objs.size,{cls:= .type "list",data:= .seq its.toArray k}) (by rw[hX'pn];exact dh6 _ df4)
     have ub:Un (Z3 X.stack) fp H2 H3 s2.heap s4.heap:=by
       have:=I4.base
       rw[hX'fs,hX'ex,hX'H0,hX's0] at this
       exact this
     have hok4:E5 X.prog X.w H3 s4.heap:=by have:=I4.hok;rw[hX'P,hX'w] at this;exact this
     have nD:∀b u,H3 b=some u→b≠s2.heap.objs.size:=fun b u e z=>by rw[z,pinE.2.1] at e;cases e
     have u2:Un (Z3 X.stack) fp H2 (e7 H3 s2.heap.objs.size (.lst ys)) s2.heap s4.heap:=
       ⟨ub.keep,ub.slot,fun b o e n' hx=>by rw[g8 (dk1 (Heap.lt_size e))];exact ub.free b o e n' hx,ub.there,
         fun b xs e=>by have:=ub.tups b xs e;rw[g8 (nD b _ this)];exact this,fun b o u e=>by have:=ub.frzs b o u e;rw[g8 (nD b _ this)];exact this,
         fun b ps e=>by obtain ⟨more,z⟩:=ub.tbls b ps e;exact ⟨more,by rw[g8 (nD b _ z)];exact z⟩⟩
     have I5:g9 X pins σ (e7 H3 s2.heap.objs.size (.lst ys)) s4:=by
       refine I2.call' (by rw[I4.os,hX's0]) u2 ?_ I4.bare fun b hb=>⟨(f2 b hb).2.2.2.1,(f2 b hb).2.1,(f2 b hb).2.2.2.2.1,(f2 b hb).2.2.2.2.2⟩
       exact E5.track hok4 pinE.2.1 ⟨hyl,its,k,rv,pinE.1⟩
     refine hRR _ _ s4 _ I5 (qn _ pinE.2.1) (I2.fpOk hCle ?_) ?_
     · rw[g8 (Ne.symm hDC)]
       have:=I4.free
       rw[hX'd] at this
       exact this
     · obtain ⟨m,hn,_⟩:=I4.loc
       rw[hX'd] at hn
       exact ⟨m,hn⟩
   · have im:=T.item X' hX'P hX'w hX'K hX'calm i _ s3 σ3 H3 (fun _ _=>False) I3 (stat fr3) st3 go
     rw[hX'A] at im
     refine m7 im fun r s4 ⟨u,hr,h4⟩=> ?_
     subst hr
     refine m7 h4 fun _ s5 ⟨x,H5,I5,r5,y5,st5,fr5⟩=> ?_
     have I5':=I5.pinned (stat fr5) (T.obj _ _ st5)
     have gg:=hg (A5 X.env scope.names []) HH.objs.size s2 H2 fp
     rw[hXd] at gg
     have gg:=gg _ s5 σ3 H5 x u _ I5' r5 (step x H5 y5)
     rw[hX'A,hX'P,hX'w,hX'xe,hX'env] at gg
     refine m7 gg fun _ s6 ⟨σ6,H6,I6,q6⟩=> ?_
     have tt:=ht (A5 X.env scope.names []) HH.objs.size s2 H2 fp
     rw[hXd] at tt
     have tt:=tt _ s6 σ6 H6 _ I6 q6
     rw[hX'A,hX'P,hX'w,hX'xe,hX'env] at tt
     refine m7 tt fun ok7 s7 ⟨H7,I7,q7⟩=> ?_
     have again:∀{s8:Shared} {σ8:St} {H8:Hp} {ys8:List V} {its8:List Value} {k8:Nat},g9 X' ([(s2.heap.objs.size,{cls:= .type "list",data:= .seq its8.toArray k8})]++X0 fp s5.heap) σ8 H8 s8→j8 ys8 its8→ys8.length≤sizeLine→Nx ys8 σ8 H8→
         ∃m,m < n∧∃(i:Nat) (σ':St) (H':Hp) (ys:List V) (its:List Value) (k:Nat),g9 X' [(s2.heap.objs.size,{cls:= .type "list",data:= .seq its.toArray k})] σ' H' s8∧j8 ys its∧ys.length≤sizeLine∧tn i s8.heap∧(∀b∈fp,H' b=none)∧W i m ys σ' H':=
       fun {s8 σ8 H8 ys8 its8 k8} I8 rv8 hl8 n8=>by
         obtain ⟨m',hm,w8⟩:=hNx ys8 σ8 H8 n8
         refine ⟨m',hm,i+1,σ8,H8,ys8,its8,k8,I8.unpinned,rv8,hl8,T.keep _ _ _ st5 fun b hb o e=>(I8.pin (b,o) (dh6 _ (dh6 _ (V9 hb e)))).1,fun b hb=> ?_,w8⟩
         obtain ⟨o,e,d⟩:=T.obj _ _ st5 b hb
         exact (I8.pin (b,o) (dh6 _ (dh6 _ (V9 hb e)))).2.1
     cases ok7 with
     |false=>
      rw[if_neg dh5] at q7 ⊢
      exact again I7 rv hyl q7
     |true=>
      rw[if_pos rfl] at q7 ⊢
      have ee:=he (A5 X.env scope.names []) HH.objs.size s2 H2 fp
      rw[hXd] at ee
      have ee:=ee _ s7 σ6 H7 _ I7 q7
      rw[hX'A,hX'P,hX'w,hX'xe,hX'env] at ee
      refine m7 ee fun yv s8 ⟨y,H8,I8,r8,hyl8,q8⟩=> ?_
      have pin8:=I8.pin (s2.heap.objs.size,{cls:= .type "list",data:= .seq its.toArray k}) (dh6 _ (dk4 _ df4))
      refine wpAny_list_append_plain (items:=its.toArray) ⟨k,pin8.1⟩ (fun h9 hp9 hs9=> ?_) (by rw[dg4,←rv.length];exact hyl)
      obtain ⟨k9,e9⟩:=hp9
      have I9:g9 X' (X0 fp s5.heap) σ6 H8 s8:=I8.pins_of fun p hp=>I8.pin p (dh6 _ (dh6 _ hp))
      have I9':g9 X' (X0 fp s5.heap) σ6 H8 {s8 with heap:=h9,toks:=s8.toks}:=by
        refine I9.turned (t':=s8.toks) (it:=s2.heap.objs.size) (fun b o hb e=>hs9.extBut b o hb e) pin8.2.1 (by rw[hX'd];exact hDC) (.inr (by rw[hX's0];exact df2 _)) (fun x c e z=> ?_) fun p hp z=> ?_
        · rw[hX'c] at e
          exact absurd (z▸cellLt x c (cellsSub x c e)) (dn3 _)
        · rw[hX'pn] at hp
          obtain ⟨hb,_⟩:=az8 (by simpa using hp)
          exact absurd (z▸fplt _ hb) (dn3 _)
      have e9':h9.get? s2.heap.objs.size=some {cls:= .type "list",data:= .seq (its++[yv]).toArray k9}:=by rw[e9];simp
      refine again (ys8:=ys++[y]) (its8:=its++[yv]) (k8:=k9) ?_ (j8.append rv (.cons r8 .nil)) (by rw[df7];exact hyl8) q8
      refine I9'.pins_of fun p hp=> ?_
      rcases dg2.mp hp with z|z
      · have e:p=(s2.heap.objs.size,{cls:= .type "list",data:= .seq (its++[yv]).toArray k9}):=by simpa using z
        subst e
        exact ⟨e9',pin8.2.1,pin8.2.2.1,pin8.2.2.2.1,fun v z=>by cases z⟩
      · exact I9'.pin p (dh6 _ z)
 exact codeAny_compStart_list (loop _ rfl) (T.self X.A 0 _ _ _ (T.keep 0 _ _ st2 fun b hb o e=>old b o e) (loop _ rfl))
end
end L2
namespace L2
open PySem PySem.Spec PyProof.Rows
section
variable {X:Cx}
theorem aw6 {elt tg iter:Expr}{ifs:List Expr}{scope:Scope}{pos:Pos}{wi:TI}{g:TG}{tc:TT}{te:TE}{N:List Str}{nl:Nat}{fr:List Nat}
   (hc:X.calm=true) (ok:ah3 X N nl fr scope) (hi:PI X tg iter wi) (hg:∀cl C s0 H0 ex,PG (P0 X N scope cl C s0 H0 ex) tg g) (ht:∀cl C s0 H0 ex,bf4 (P0 X N scope cl C s0 H0 ex) ifs tc)
   (he:∀cl C s0 H0 ex,PE (P0 X N scope cl C s0 H0 ex) elt te) (hs:∀x,foldedSetIterable iter X.env x=pure x:=by intro _;rfl):
   PE X (.ListComp elt [⟨tg,iter,ifs,0⟩] scope pos) (bt5 nl fr wi g tc te):=by
 intro pins s σ H Q I h
 have hclos:closureFor scope X.env=pure (A5 X.env scope.names []):=ag6 fun p hp hf=>I.ok.has p.1 (ok.free p hp hf)
 rw[eval_ListComp]
 refine wpAny_comprehension_free (use:=none) rfl hs hclos ok.kind ok.names (ba7 (RR:=fun acc C=>compPost (model X.prog X.w) X.A X.xe none (EP X pins σ Q) acc C) hc hi hg ht he ok I h ?_)
 intro D C s' H' I' q f ⟨m,hn⟩
 exact ⟨m,hn,fun h' hs'=>⟨.ref D,H',I'.turned (t':=s'.toks) (fun b o hb e=>hs'.extBut b o hb e) f.1 f.2.1 f.2.2.2.1 f.2.2.2.2.1 f.2.2.2.2.2,rfl,q⟩⟩
theorem bo6 {i:Nat}{y:Str}{py spos:Pos}{elt tg iter:Expr}{ifs:List Expr}{scope:Scope}{pos:Pos}{wi:TI}{g:TG}{tc:TT}{te:TE}{N:List Str}{nl:Nat}{fr:List Nat}
   (hN:X.N.Nodup) (hi':X.N[i]? =some y) (hx:Loc X.env.scope y)
   (hc:X.calm=true) (ok:ah3 X N nl fr scope) (hi:PI X tg iter wi) (hg:∀cl C s0 H0 ex,PG (P0 X N scope cl C s0 H0 ex) tg g) (ht:∀cl C s0 H0 ex,bf4 (P0 X N scope cl C s0 H0 ex) ifs tc)
   (he:∀cl C s0 H0 ex,PE (P0 X N scope cl C s0 H0 ex) elt te) (hsw:swapsWith (.ListComp elt [⟨tg,iter,ifs,0⟩] scope pos) (some (.Name y py)) spos.line X.env=pure true:=by rfl)
   (hs:∀x,foldedSetIterable iter X.env x=pure x:=by intro _;rfl)
   (hf:X.fn y=true∨X.env.scope.names.lookup y=some .local:=by first|exact .inl rfl|exact .inr rfl|assumption):
   PS X (.Assign [.Name y py] (.ListComp elt [⟨tg,iter,ifs,0⟩] scope pos) spos) (ce3 (bt5 nl fr wi g tc te) (bs3 i)):=by
 intro pins s σ H Dn I h
 have hclos:closureFor scope X.env=pure (A5 X.env scope.names []):=ag6 fun p hp hf=>I.ok.has p.1 (ok.free p hp hf)
 rw[exec_Assign_Name_used _ _ _ _ hsw]
 refine wpAny_bind (wpAny_standAt (wpAny_bind ?_))
 show wpAny _ X.A (do let _ ←comprehension (.ListComp elt [⟨tg,iter,ifs,0⟩] scope pos) scope X.env _ (newList []) false (eval iter X.env) (some (assign (.Name y py) X.env))) _ _ s
 refine wpAny_bind (wpAny_mono (wpAny_comprehension_free (use:=some (assign (.Name y py) X.env)) (Q:=fun _ s'=>SP X pins Dn .next s') rfl hs hclos ok.kind ok.names
   (ba7 (RR:=fun acc C=>compPost (model X.prog X.w) X.A X.xe (some (assign (.Name y py) X.env)) (fun _ s'=>SP X pins Dn .next s') acc C) hc hi hg ht he ok I h ?_)) (fun _ s' hq=>wpAny_pure (wpAny_pure hq)) fun _ _ e=>e)
 intro D C s' H' I' q f ⟨m,hn⟩
 show wpAny _ X.A (assign (.Name y py) X.env (.ref D)) _ _ _
 refine wpAny_assign_Name (az6 I' hN hi' hx (v:= .ref D) rfl (fun s2 I2 ⟨a,sb,ha⟩=> ?_) hf)
 have hCa:C≠a:=by
   rcases ha with z|z
   · rw[z];exact f.2.1
   · exact fun e=>f.2.2.2.2.1 _ _ z e.symm
 exact ⟨m,hn.sameBut sb hCa,fun h' hs'=>⟨_,H',I2.turned (t':=s2.toks) (fun b o hb e=>hs'.extBut b o hb e) f.1 f.2.1 f.2.2.2.1 f.2.2.2.2.1 f.2.2.2.2.2,q⟩⟩
theorem ah4 {K:PySem.W.Frag}{a:Addr}{xs:List V}{g:TG}{tc:TT}{te:TE}{σ0:St}{H:Hp}{Q:VK}(Pv:Nat→List V→St→Hp→Prop)(h0:Pv 0 [] σ0 H)(hl:∀i ys σ H,i≤xs.length→Pv i ys σ H→h8 K H a xs)
   (hs:∀i x ys σ H,xs[i]? =some x→Pv i ys σ H→g x σ H fun σ2 H2=>tc σ2 H2 fun b H4=>if b=true then te σ2 H4 fun y H5=>ys.length < sizeLine∧Pv (i+1) (ys++[y]) σ2 H5 else Pv (i+1) ys σ2 H4)
   (hd:∀ys σ H,Pv xs.length ys σ H→∀D,H D=none→Q (.ref D) (e7 H D (.lst ys))):
   bt4 (Itl K a) g tc te Q σ0 H:=by
 refine ⟨fun i m ys σ H=>m=xs.length - i∧i≤xs.length∧Pv i ys σ H,⟨xs.length,by simp,dh2 _,h0⟩,?_⟩
 rintro i m ys σ H ⟨rfl,hi,p⟩
 have q:=hl i ys σ H hi p
 by_cases hlt:i < xs.length
 · refine .inr ⟨⟨xs,xs[i],q,by simp [hlt]⟩,Pv (i+1),fun ys' σ' H' p'=>⟨xs.length - (i+1),by omega,rfl,hlt,p'⟩,fun x H' y=> ?_⟩
   obtain ⟨e,y⟩:=y
   subst e
   exact hs i x ys σ _ (y xs q) p
 · have e:i=xs.length:=by omega
   subst e
   exact .inl ⟨⟨xs,q,df2 _⟩,hd ys σ H p⟩
theorem ar5 {lo:Int}{n:Nat}{g:TG}{tc:TT}{te:TE}{σ0:St}{H:Hp}{Q:VK}(Pv:Nat→List V→St→Hp→Prop)(h0:Pv 0 [] σ0 H)
   (hs:∀i ys σ H,i < n→Pv i ys σ H→g (.int (lo+i)) σ H fun σ2 H2=>tc σ2 H2 fun b H4=>if b=true then te σ2 H4 fun y H5=>ys.length < sizeLine∧Pv (i+1) (ys++[y]) σ2 H5 else Pv (i+1) ys σ2 H4)
   (hd:∀ys σ H,Pv n ys σ H→∀D,H D=none→Q (.ref D) (e7 H D (.lst ys))):
   bt4 (Itr lo n) g tc te Q σ0 H:=by
 refine ⟨fun i m ys σ H=>m=n - i∧i≤n∧Pv i ys σ H,⟨n,by simp,dh2 _,h0⟩,?_⟩
 rintro i m ys σ H ⟨rfl,hi,p⟩
 by_cases hlt:i < n
 · refine .inr ⟨hlt,Pv (i+1),fun ys' σ' H' p'=>⟨n - (i+1),by omega,rfl,hlt,p'⟩,fun x H' y=> ?_⟩
   obtain ⟨e,y⟩:=y
   subst e y
   exact hs i ys σ _ hlt p
 · have e:i=n:=by omega
   subst e
   exact .inl ⟨df2 _,hd ys σ H p⟩
inductive X5 (K:PySem.W.Frag)(H:Hp):Nat→V→V→Bool→Prop where
 |flat {n:Nat} {x y:V}:bd5 x=true→bd5 y=true→X5 K H n x y (eqV x y)
 |same {n:Nat} (a:Addr):X5 K H n (.ref a) (.ref a) true
 |lists {n:Nat} {a b:Addr} {xs ys:List V} (e:Nat→Bool):a≠b→h8 K H a xs→h8 K H b ys→xs.length=ys.length→(∀(j:Nat) x y,xs[j]? =some x→ys[j]? =some y→X5 K H n x y (e j))→X5 K H (n+1) (.ref a) (.ref b) ((dj6 xs.length).all e)
 |lens {n:Nat} {a b:Addr} {xs ys:List V}:a≠b→h8 K H a xs→h8 K H b ys→xs.length≠ys.length→X5 K H (n+1) (.ref a) (.ref b) false
theorem cs3 {pins:List (Addr×Obj)}{σ:St}{H:Hp}{s:Shared}(I:g9 X pins σ H s){n:Nat}{x y:V}{b:Bool}(d:X5 X.K H n x y b):
   ∀{A:Around} {u v:Value},A.units+n < cLine→m8 x u→m8 y v→SeqAt.EqAt A s u v b:=by
 induction d with
 |flat fx fy=>intro A u v _ rx ry;exact cr3 rx ry fx fy
 |same a=>intro A u v _ rx ry;cases rx;cases ry;exact SeqAt.EqAt.same _
 |@lists n a c xs ys e ne ha hb hl _ ih=>
  intro A u v hu rx ry
  cases rx;cases ry
  obtain ⟨its,r1,p1,_⟩:=I.list ha
  obtain ⟨its2,r2,p2,_⟩:=I.list hb
  have l1:=r1.length
  have l2:=r2.length
  refine SeqAt.EqAt.of_refs ne ?_
  have q:=SeqAt.RcAt.lists (A:=A) (e:=e) p1.isList p2.isList (by rw[dg4,dg4];omega) (by omega) (fun j h1 h2=>by
    have h1':j < its.length:=by simpa using h1
    have h2':j < its2.length:=by simpa using h2
    have e1:xs[j]? =some (xs[j]'(by omega)):=df0 _
    have e2:ys[j]? =some (ys[j]'(by omega)):=df0 _
    obtain ⟨u1,z1,q1⟩:=r1.get e1
    obtain ⟨u2,z2,q2⟩:=r2.get e2
    have w1:its.toArray[j]=u1:=by
      rw[df0 h1'] at z1
      simpa using z1
    have w2:its2.toArray[j]=u2:=by
      rw[df0 h2'] at z2
      simpa using z2
    rw[w1,w2]
    exact ih j _ _ e1 e2 (by show A.in1.units+n < cLine;have:A.in1.units=A.units+1:=by first|rfl|simp [Around.in1]
                             omega) q1 q2)
  rw[dg4,←l1] at q
  exact q
 |lens ne ha hb hl=>
  intro A u v hu rx ry
  cases rx;cases ry
  obtain ⟨its,r1,p1,_⟩:=I.list ha
  obtain ⟨its2,r2,p2,_⟩:=I.list hb
  have l1:=r1.length
  have l2:=r2.length
  exact SeqAt.EqAt.of_refs ne (SeqAt.RcAt.lists_lengths p1.isList p2.isList (by rw[dg4,dg4];simp;omega) (by omega))
def LEq (K:PySem.W.Frag)(H:Hp)(n:Nat)(xs ys:List V)(r:Bool):Prop:=
 (xs.length≠ys.length∧r=false)∨(∃e:Nat→Bool,xs.length=ys.length∧(∀(j:Nat) x y,xs[j]? =some x→ys[j]? =some y→X5 K H n x y (e j))∧r=(dj6 xs.length).all e)
theorem bz4 {pins:List (Addr×Obj)}{σ:St}{H:Hp}{s:Shared}(I:g9 X pins σ H s){A:Around}{n:Nat}{a b:Addr}{xs ys:List V}{r:Bool}(hu:A.units+n+1 < cLine)(ha:h8 X.K H a xs)(hb:h8 X.K H b ys)(d:LEq X.K H n xs ys r):
   SeqAt.RcAt A s (.ref a) (.ref b) r:=by
 obtain ⟨its,r1,p1,_⟩:=I.list ha
 obtain ⟨its2,r2,p2,_⟩:=I.list hb
 have l1:=r1.length
 have l2:=r2.length
 rcases d with ⟨hl,rfl⟩|⟨e,hl,he,rfl⟩
 · exact SeqAt.RcAt.lists_lengths p1.isList p2.isList (by rw[dg4,dg4];simp;omega) (by omega)
 · have q:=SeqAt.RcAt.lists (A:=A) (e:=e) p1.isList p2.isList (by rw[dg4,dg4];omega) (by omega) (fun j h1 h2=>by
     have h1':j < its.length:=by simpa using h1
     have h2':j < its2.length:=by simpa using h2
     have e1:xs[j]? =some (xs[j]'(by omega)):=df0 _
     have e2:ys[j]? =some (ys[j]'(by omega)):=df0 _
     obtain ⟨u1,z1,q1⟩:=r1.get e1
     obtain ⟨u2,z2,q2⟩:=r2.get e2
     have w1:its.toArray[j]=u1:=by
       rw[df0 h1'] at z1
       simpa using z1
     have w2:its2.toArray[j]=u2:=by
       rw[df0 h2'] at z2
       simpa using z2
     rw[w1,w2]
     exact cs3 I (he j _ _ e1 e2) (by show A.in1.units+n < cLine;have:A.in1.units=A.units+1:=by first|rfl|simp [Around.in1]
                                      omega) q1 q2)
   rw[dg4,←l1] at q
   exact q
end
end L2
namespace L2
open PySem PySem.Spec PyProof.Rows
section
variable {X:Cx}
def dc7 (K:PySem.W.Frag)(n:Nat)(neg:Bool):R2:=fun x y H Q=>∃a b xs ys r,x= .ref a∧y= .ref b∧h8 K H a xs∧h8 K H b ys∧LEq K H n xs ys r∧Q (.bl (if neg then !r else r)) H
theorem ar6 (n:Nat)(hu:X.A.units+n+1 < cLine):K6 X (compareOp .Eq) (dc7 X.K n false):=by
 intro pins s σ H x y v u Q I rx ry h
 obtain ⟨a,b,xs,ys,r,rfl,rfl,ha,hb,d,q⟩:=h
 cases rx;cases ry
 exact bz4 I hu ha hb d _ _ _ _ ⟨.bl r,H,I,rfl,q⟩
theorem V0 {n:Nat}{e:Nat→Bool}:(dj6 n).all e=true↔∀j,j < n→e j=true:=by
 rw[dp2]
 exact ⟨fun h j hj=>h j (di9.mpr hj),fun h j hj=>h j (di9.mp hj)⟩
theorem an6 (K:PySem.W.Frag)(H:Hp)(n:Nat)(ns ms:List Int):LEq K H n (ns.map V.int) (ms.map V.int) (decide (ns=ms)):=by
 by_cases hl:ns.length=ms.length
 · refine .inr ⟨fun j=>decide (ns[j]? =ms[j]?),by simpa using hl,fun j x y e1 e2=> ?_,?_⟩
   · rw[df3] at e1 e2
     cases h1:ns[j]? with
     |none=>rw[h1] at e1;cases e1
     |some a=>
      cases h2:ms[j]? with
      |none=>rw[h2] at e2;cases e2
      |some b=>
       rw[h1] at e1;rw[h2] at e2
       cases e1;cases e2
       have q:X5 K H n (V.int a) (V.int b) (eqV (V.int a) (V.int b)):= .flat rfl rfl
       have e:eqV (V.int a) (V.int b)=decide (some a=some b):=by
         show (a==b)=_
         by_cases z:a=b
         · subst z;simp
         · rw[decide_eq_false (fun w=>z (Option.some.inj w))];simpa using z
       rw[e] at q
       show X5 K H n _ _ (decide (ns[j]? =ms[j]?))
       rw[h1,h2]
       exact q
   · rw[do5,decide_eq_true_iff,V0]
     constructor
     · intro h j _;subst h;simp
     · intro h
       refine dj1 fun j=> ?_
       by_cases hj:j < ns.length
       · exact of_decide_eq_true (h j (by simpa using hj))
       · rw[dg0 (by omega),dg0 (by omega)]
 · refine .inl ⟨by simpa using hl,?_⟩
   exact decide_eq_false fun h=>hl (by rw[h])
def cs4 (K:PySem.W.Frag)(H:Hp)(as:List Addr)(rs:List (List Int)):Prop:=as.length=rs.length∧∀(j:Nat) a r,as[j]? =some a→rs[j]? =some r→h8 K H a (r.map V.int)
theorem dc8 {K:PySem.W.Frag}{H:Hp}{as bs:List Addr}{rs qs:List (List Int)}(ha:cs4 K H as rs)(hb:cs4 K H bs qs)(inj:∀p xs ys,h8 K H p xs→h8 K H p ys→xs=ys):LEq K H 1 (as.map V.ref) (bs.map V.ref) (decide (rs=qs)):=by
 by_cases hl:as.length=bs.length
 · refine .inr ⟨fun j=>decide (rs[j]? =qs[j]?),by simpa using hl,fun j x y e1 e2=> ?_,?_⟩
   · rw[df3] at e1 e2
     cases h1:as[j]? with
     |none=>rw[h1] at e1;cases e1
     |some a=>
      cases h2:bs[j]? with
      |none=>rw[h2] at e2;cases e2
      |some b=>
       rw[h1] at e1;rw[h2] at e2
       cases e1;cases e2
       have j1:j < as.length:=(df1.mp h1).1
       have k1:rs[j]? =some (rs[j]'(by rw[←ha.1];exact j1)):=df0 _
       have k2:qs[j]? =some (qs[j]'(by rw[←hb.1,←hl];exact j1)):=df0 _
       have q1:=ha.2 j a _ h1 k1
       have q2:=hb.2 j b _ h2 k2
       show X5 K H 1 _ _ (decide (rs[j]? =qs[j]?))
       rw[k1,k2]
       by_cases hab:a=b
       · subst hab
         have e:(rs[j]'(by rw[←ha.1];exact j1)).map V.int=(qs[j]'(by rw[←hb.1,←hl];exact j1)).map V.int:=inj a _ _ q1 q2
         have e':=List.map_inj_right (fun x y (h:V.int x=V.int y)=>V.int.inj h)|>.mp e
         rw[e',decide_eq_true rfl]
         exact .same a
       · generalize (rs[j]'(by rw[←ha.1];exact j1))=r at q1 ⊢
         generalize (qs[j]'(by rw[←hb.1,←hl];exact j1))=q at q2 ⊢
         rcases an6 K H 0 r q with ⟨h3,h4⟩|⟨e,h3,h4,h5⟩
         · have:=X5.lens (n:=0) hab q1 q2 h3
           rw[decide_eq_false (fun z=>by
             have z':r=q:=Option.some.inj z
             exact h3 (by rw[z']))]
           exact this
         · have:=X5.lists (n:=0) e hab q1 q2 h3 h4
           rw[←h5] at this
           have e6:decide (r=q)=decide (some r=some q):=by
             by_cases z:r=q
             · subst z;simp
             · rw[decide_eq_false z,decide_eq_false fun w=>z (Option.some.inj w)]
           rw[←e6]
           exact this
   · rw[do5,decide_eq_true_iff,V0]
     constructor
     · intro h j _;subst h;simp
     · intro h
       refine dj1 fun j=> ?_
       by_cases hj:j < rs.length
       · exact of_decide_eq_true (h j (by rw[de9,ha.1];exact hj))
       · rw[dg0 (by omega),dg0 (by rw[←hb.1,←hl,ha.1];omega)]
 · refine .inl ⟨by simpa using hl,?_⟩
   exact decide_eq_false fun h=>hl (by rw[ha.1,hb.1,h])
theorem bm6:N9 X (.type "range") (fun xs H Q=>∃j,xs=[.int j]∧∀p,H p=none→Q (.ref p) (e7 H p (.rng 0 j))):=by
 intro pins s σ H xs us Q I r h
 obtain ⟨j,rfl,q⟩:=h
 obtain ⟨u,rfl,⟨t,rfl⟩⟩:=R3 r
 refine call_range_1 ⟨.ref s.heap.objs.size,_,I.laid (fun b o e=>Heap.get?_push_of_some _ e) (df2 _) ?_,rfl,q _ (I.hok.fresh (df2 _))⟩
 exact ⟨_,_,_,Heap.get?_push_size _ rfl⟩
def S7 (lo:Int)(n:Nat):List Int:=(dj6 n).map fun (i:Nat)=>lo+(i:Int)
theorem bt6 {lo:Int}{n:Nat}{acc:Array Value}(h:ItemsOf (fun i v=>∃t,v=Value.int (lo+(i:Int)*1) t) acc n):j8 ((S7 lo n).map V.int) acc.toList:=by
 obtain ⟨hs,hv⟩:=h
 have key:∀(l:List Value) (k:Nat),(∀(j:Nat) v,l[j]? =some v→∃t,v=Value.int (lo+((k+j:Nat):Int)) t)→j8 (((dj6 l.length).map fun (i:Nat)=>lo+((k+i:Nat):Int)).map V.int) l:=by
   intro l
   induction l with
   |nil=>intro k _;exact .nil
   |cons v r ih=>
    intro k hk
    have e:(((dj6 r.length).map Nat.succ).map fun (i:Nat)=>lo+((k+i:Nat):Int))=(dj6 r.length).map fun (i:Nat)=>lo+((k+1+i:Nat):Int):=by
      rw[dj4]
      refine dk6 fun i _=> ?_
      show lo+((k+(i+1):Nat):Int)=_
      congr 2;omega
    rw[dk0,List.range_succ_eq_map,dj0,dj0,e]
    refine .cons ?_ ?_
    · obtain ⟨t,e⟩:=hk 0 v rfl
      exact ⟨t,e⟩
    · have:=ih (k+1) fun j w e=>by
        obtain ⟨t,z⟩:=hk (j+1) w (by simpa using e)
        exact ⟨t,by rw[z];congr 2;omega⟩
      exact this
 have:=key acc.toList 0 fun j v e=>by
   obtain ⟨t,z⟩:=hv j v (by simpa using e)
   exact ⟨t,by rw[z,Int.mul_one];simp⟩
 have hl:acc.toList.length=n:=by simpa using hs
 rw[hl] at this
 have e:((dj6 n).map fun (i:Nat)=>lo+((0+i:Nat):Int))=S7 lo n:=by
   unfold S7
   refine dk6 fun i _=> ?_
   simp
 rw[e] at this
 exact this
theorem bd1 (hc:X.calm=true):N9 X (.type "list") (fun xs H Q=>∃p lo hi,xs=[.ref p]∧H p=some (.rng lo hi)∧(-(2^62)≤lo∧lo < 2^62∧ -(2^62)≤hi∧hi < 2^62)∧(hi - lo).toNat≤2^20∧
   ∀l,H l=none→Q (.ref l) (e7 H l (.lst ((S7 lo (hi - lo).toNat).map V.int)))):=by
 intro pins s σ H xs us Q I r h
 obtain ⟨p,lo,hi,rfl,hp,⟨b1,b2,b3,b4⟩,hz,q⟩:=h
 obtain ⟨u,rfl,rx⟩:=R3 r
 cases rx
 obtain ⟨t,u,v,ho⟩:=I.hok p _ hp
 refine call_list_range (n:=(hi - lo).toNat) (I.ok.hd hc) (r:=p) ho (small_one b1 b2 b3 b4) (by rw[rangeSize_one];split<;>omega) (dg5 hz (by decide)) fun h' tk acc' c' hk e it=> ?_
 have rv:=bt6 it
 refine ⟨.ref s.heap.objs.size,_,I.laid hk (df2 _) (show q0 X.prog X.w _ h' _ (.lst ((S7 lo (hi - lo).toNat).map V.int)) from ⟨?_,acc'.toList,c',rv,by rw[e]⟩),rfl,q _ (I.hok.fresh (df2 _))⟩
 unfold S7
 rw[de9,de9,di2]
 exact dg5 hz (by rw[sizeLine_eq];decide)
theorem bz5 (hc:X.calm=true):N9 X (.builtin "sum") (fun xs H Q=>∃(p:Addr) (ns:List Int),xs=[.ref p]∧h8 X.K H p (ns.map V.int)∧Q (.int ns.sum) H):=by
 intro pins s σ H xs us Q I r h
 obtain ⟨p,ns,rfl,hp,q⟩:=h
 obtain ⟨u,rfl,rx⟩:=R3 r
 cases rx
 obtain ⟨its,rv,pl,_⟩:=I.list hp
 have ia:=W1 rv
 obtain ⟨xs,hxs⟩:=ia.allInts.items
 have hn:=ia.numsOf
 have hxl:its=(intItems xs).toList:=by rw[←hxs]
 rw[hxl,nums_intItems] at hn
 have hl:=pl.isList
 rw[hxs] at hl
 refine sum_intListG (I.ok.hd hc) hl fun h' tk t' hk=>⟨.int ns.sum,H,I.kept hk,?_,q⟩
 rw[preSum_eq,dm7 (by simp),hn]
 exact ⟨_,rfl⟩
end
end L2
namespace L2
open PySem PySem.Spec PyProof.Rows
section
variable {X:Cx}
theorem cf3:N9 X (.builtin "isinstance") (fun xs H Q=>∃x n t b,xs=[x,.ty n]∧P4 X.K H x t∧PySem.W.kitOne X.K t (.type n)=some b∧Q (.bl b) H):=by
 intro pins s σ H xs us Q I r h
 obtain ⟨x,n,t,b,rfl,ty,e,q⟩:=h
 obtain ⟨u,w',rfl,rx,ry⟩:=bs8 r
 cases (show w'=Value.type n from ry)
 exact bx8 I rx ty e fun tk=>⟨.bl b,H,I.tok tk,rfl,q⟩
theorem X6 (K:PySem.W.Frag)(n:String):PySem.W.kitOne K (.type n) (.type n)=some true:=by
 unfold PySem.W.kitOne
 rw[if_pos (beq_self_eq_true _)]
theorem ah5 (K:PySem.W.Frag):PySem.W.kitOne K (.type "int") (.type "bool")=some false:=by
 unfold PySem.W.kitOne PySem.W.kitCls
 rw[if_neg (by decide+kernel)]
 show (if PySem.W.kitMeta "bool"=true then (fastBuiltinMro "int").map (·.contains (Value.type "bool")) else none)=some false
 rw[if_pos (by decide+kernel)]
 decide+kernel
theorem cf4:bootBuiltins "int"=some (.type "int"):=by decide+kernel
theorem bz6:bootBuiltins "bool"=some (.type "bool"):=by decide+kernel
theorem ae1:bootBuiltins "list"=some (.type "list"):=by decide+kernel
theorem bm7:bootBuiltins "range"=some (.type "range"):=by decide+kernel
theorem cf5:bootBuiltins "isinstance"=some (.builtin "isinstance"):=by decide+kernel
theorem bz7:bootBuiltins "sum"=some (.builtin "sum"):=by decide+kernel
theorem bz8:bootBuiltins "min"=some (.builtin "min"):=by decide+kernel
theorem bz9:bootBuiltins "max"=some (.builtin "max"):=by decide+kernel
end
def j5 (a:Addr)(H H':Hp):Prop:=∀b o,H b=some o→b≠a→H' b=some o
theorem j5.refl (a:Addr)(H:Hp):j5 a H H:=fun _ _ h _=>h
theorem j5.trans {a:Addr}{H H1 H2:Hp}(x:j5 a H H1)(y:j5 a H1 H2):j5 a H H2:=fun b o h n=>y b o (x b o h n) n
theorem e8.but {H H':Hp}(a:Addr)(s:e8 H H'):j5 a H H':=fun b o h _=>s b o h
theorem e8.upd_new {H:Hp}{p:Addr}{o:HO}(h:H p=none):e8 H (e7 H p o):=fun b u e=>by rw[g8 (g6 e h)];exact e
theorem e8.upd_r {H H':Hp}{p:Addr}{o:HO}(s:e8 H H')(h:H p=none):e8 H (L2.e7 H' p o):=fun b u e=>by rw[g8 (g6 e h)];exact s b u e
theorem j5.upd_r {a:Addr}{H H':Hp}{p:Addr}{o:HO}(k:j5 a H H')(h:H p=none):j5 a H (L2.e7 H' p o):=fun b u e n=>by rw[g8 (g6 e h)];exact k b u e n
theorem j5.upd_a {a:Addr}{H H':Hp}{o:HO}(k:j5 a H H'):j5 a H (L2.e7 H' a o):=fun b u e n=>by rw[g8 n];exact k b u e n
end L2
namespace L2
open PySem PySem.Spec PyProof.Rows
def j9 (P:Program)(w:World)(K:PySem.W.Frag)(mg:Str→Option Value)(base:Heap)(x:Str)(k:Nat)(ps:List Str)(sp:Sp):Prop:=
 ∃(f:Addr) (fd:FuncData),mg x=some (.ref f)∧PySem.W.keepIn K (.ref f)=true∧ad8 K fd ps []∧o4 P w K mg base A2 k f fd ps sp
theorem j9.imp {P:Program}{w:World}{K:PySem.W.Frag}{mg:Str→Option Value}{base:Heap}{x:Str}{k:Nat}{ps:List Str}{sp sp':Sp}(c:j9 P w K mg base x k ps sp)(h:∀vs H Q E,sp' vs H Q E→sp vs H Q E)(hl:∀vs H Q E,sp' vs H Q E→vs.length=ps.length):j9 P w K mg base x k ps sp':=by
 obtain ⟨f,fd,a,b,d,g⟩:=c
 exact ⟨f,fd,a,b,d,g.imp (by first|exact h|exact fun vs H Q E z=>h vs H Q E z)⟩
section
variable {X:Cx} {x:Str} {p pos:Pos} {e:Expr} {es:List Expr} {t:TA} {k:Nat} {ps:List Str} {sp:Sp}
theorem i6 (c:j9 X.prog X.w X.K X.mg X.base x k ps sp)(hr:m9 k X.A)(ha:PA X (e::es) t)(hg:Gl X x:=by rfl)(hdb:(x==("__debug__":Str))=false:=by decide)
   (he:starEach (e::es) X.env=(false,eval e X.env)::starEach es X.env:=by rfl) (hpl:(backTo pos (starEach es X.env)).any (·.1)=false:=by rfl):
   PE X (.Call (.Name x p) (e::es) [] pos) (cj7 sp [] E0 t):=by
 obtain ⟨f,fd,h1,h2,h3,h4⟩:=c
 exact ck9 h4 hr hg h1 h2 h3 .nil cy0 ha hdb he hpl
theorem ah6 {a b:Expr}{ta:TA}(hm:X.mg "isinstance"=none)(ha:PA X [a,b] ta)(hg:Gl X "isinstance":=by rfl)
   (he:starEach [a,b] X.env=(false,eval a X.env)::starEach [b] X.env:=by rfl) (hpl:(backTo pos (starEach [b] X.env)).any (·.1)=false:=by rfl):
   PE X (.Call (.Name "isinstance" p) [a,b] [] pos) (Z6 (fun xs H Q=>∃x n t b,xs=[x,.ty n]∧P4 X.K H x t∧PySem.W.kitOne X.K t (.type n)=some b∧Q (.bl b) H) ta):=
 P5 cf3 hg hm cf5 ha (by decide) (by decide) he hpl
theorem cf6 (hm:X.mg "int"=none)(hg:Gl X "int":=by rfl):PE X (.Name "int" p) (tC (.ty "int")):=aw0 hg hm cf4 rfl
theorem ca0 (hm:X.mg "bool"=none)(hg:Gl X "bool":=by rfl):PE X (.Name "bool" p) (tC (.ty "bool")):=aw0 hg hm bz6 rfl
theorem ah7 (hm:X.mg "list"=none)(hg:Gl X "list":=by rfl):PE X (.Name "list" p) (tC (.ty "list")):=aw0 hg hm ae1 rfl
theorem w4 (hm:X.mg "len"=none)(ha:PA X [e] t)(hg:Gl X "len":=by rfl)
   (he:starEach [e] X.env=(false,eval e X.env)::starEach [] X.env:=by rfl):PE X (.Call (.Name "len" p) [e] [] pos) (Z6 (fun xs H Q=>∃p ys,xs=[.ref p]∧(h8 X.K H p ys∨E6 X.K H p ys)∧Q (.int ys.length) H) t):=
 P5 bf0 hg hm PySem.boot_len ha (by decide) (by decide) he rfl
end
end L2
namespace Mth
structure l9 (p:List Int):Prop where
 nd:p.Nodup
 lo:∀x∈p,0≤x
 hi:∀x∈p,x < p.length
theorem P9 {n:Nat}{x:Int}:x∈L2.S7 0 n↔0≤x∧x < n:=by
 unfold L2.S7
 rw[df9]
 constructor
 · rintro ⟨i,hi,rfl⟩
   have:=di9.mp hi
   omega
 · rintro ⟨h1,h2⟩
   exact ⟨x.toNat,di9.mpr (by omega),by omega⟩
theorem L5 (lo:Int)(n:Nat):(L2.S7 lo n).length=n:=by
 unfold L2.S7
 rw[de9,di2]
theorem W3 (n:Nat):(L2.S7 0 n).Nodup:=by
 unfold L2.S7
 rw[dh3,dn6]
 exact List.Pairwise.imp (fun {a b} (h:a < b)=>by omega) List.pairwise_lt_range
theorem aa5 {p:List Int}{n:Nat}(h:p.Perm (L2.S7 0 n)):l9 p∧p.length=n:=by
 have hl:p.length=n:=by rw[h.length_eq,L5]
 refine ⟨⟨h.nodup_iff.mpr (W3 n),fun x hx=>(P9.mp (h.mem_iff.mp hx)).1,fun x hx=> ?_⟩,hl⟩
 have:=(P9.mp (h.mem_iff.mp hx)).2
 omega
theorem bd2:∀(n:Nat) (p:List Nat),p.Nodup→(∀x∈p,x < n)→p.length=n→p.Perm (dj6 n):=by
 intro n
 induction n with
 |zero=>intro p _ _ hl;rw[List.eq_nil_of_length_eq_zero hl];exact List.Perm.refl _
 |succ n ih=>
  intro p nd hb hl
  by_cases hn:n∈p
  · obtain ⟨s,t,rfl⟩:=dw4 hn
    have pm:(s++n::t).Perm (n::(s++t)):=List.perm_middle
    have nd':=pm.nodup_iff.mp nd
    obtain ⟨h1,h2⟩:=dj3.mp nd'
    have:=ih (s++t) h2 (fun x hx=>by
      have hx':x < n+1:=hb x (pm.mem_iff.mpr (df6 _ hx))
      have:x≠n:=fun e=>h1 (e▸hx)
      omega) (by rw[df7,dk0] at hl;rw[df7];omega)
    refine pm.trans ?_
    rw[dr8]
    exact (List.Perm.cons n this).trans (dm4 (l₁:=[n]))
  · exfalso
    have hlt:∀x∈p,x < n:=fun x hx=>by
      have h1:=hb x hx
      have:x≠n:=fun e=>hn (e▸hx)
      omega
    match p,nd,hl,hlt with
    |[],_,hl,_=>simp at hl
    |y::q,nd,hl,hlt=>
     obtain ⟨h1,h2⟩:=dj3.mp nd
     have hq:=ih q h2 (fun x hx=>hlt x (df6 _ hx)) (by simpa using hl)
     have hy:=hlt y df4
     exact h1 (hq.mem_iff.mpr (di9.mpr hy))
theorem l9.perm {p:List Int}(h:l9 p):p.Perm (L2.S7 0 p.length):=by
 have e:(p.map ds2).map (fun (i:Nat)=>(0:Int)+(i:Int))=p:=by
   rw[dj4]
   conv=>rhs;rw[←ds3 p]
   refine dk6 fun x hx=> ?_
   have:=h.lo x hx
   show (0:Int)+((x.toNat:Nat):Int)=x
   omega
 have nd:(p.map ds2).Nodup:=by
   rw[dh3,dn6]
   have:=dh3.mp h.nd
   refine List.Pairwise.imp_of_mem (fun {a b} ha hb hne z=>hne ?_) this
   have h1:=h.lo a ha
   have h2:=h.lo b hb
   omega
 have:=bd2 p.length (p.map ds2) nd (fun x hx=>by
   obtain ⟨y,hy,rfl⟩:=df9.mp hx
   have h1:=h.lo y hy
   have h2:=h.hi y hy
   omega) (by rw[de9])
 have q:=this.map (fun (i:Nat)=>(0:Int)+(i:Int))
 rw[e] at q
 exact q
def x5 (fs:List Int)(u:Int):Option Int:=fs[u.toNat]?
theorem bf7 (fs:List Int):(L2.S7 0 fs.length).map (x5 fs)=fs.map some:=by
 unfold L2.S7
 rw[dj4]
 refine dj1 fun j=> ?_
 rw[df3,df3]
 by_cases hj:j < fs.length
 · rw[dj7 hj,df0 hj]
   show some (fs[((0:Int)+(j:Int)).toNat]?)=_
   have:((0:Int)+(j:Int)).toNat=j:=by omega
   rw[this,df0 hj]
   rfl
 · rw[dg0 (by rw[di2];omega),dg0 (by omega)]
   rfl
theorem ca1 {a b:List Int}(h:(a.map some).Perm (b.map some)):a.Perm b:=by
 have:=h.map (fun o:Option Int=>o.getD 0)
 rw[dj4,dj4] at this
 have e:∀l:List Int,l.map ((fun o:Option Int=>o.getD 0)∘some)=l:=fun l=>by
   conv=>rhs;rw[←ds3 l]
   rfl
 rw[e,e] at this
 exact this
theorem ar7 {fs ts qs:List Int}(ht:l9 ts)(hl:fs.length=ts.length)(h:ts.map (x5 fs)=qs.map some):fs.Perm qs:=by
 refine ca1 ?_
 have h1:=ht.perm.map (x5 fs)
 rw[←hl,bf7,h] at h1
 exact h1.symm
end Mth
namespace L2
open PySem PySem.Spec PyProof.Rows
theorem ah3.of {X:Cx}{N:List Str}{nl:Nat}{fr:List Nat}{scope:Scope}(h1:(scope.names.all fun y=>y.2 != .cell)=true:=by rfl)(h2:scope.kind= .function:=by rfl)
   (h3:(scope.names.all fun y=>y.2 != .local||scope.names.lookup y.1==some .local)=true:=by rfl)
   (h4:(scope.names.all fun p=>p.2 != .free||(X.env.kindOf p.1==some .cell||X.env.kindOf p.1==some .free))=true:=by rfl) (h5:N.length=nl+fr.length:=by rfl)
   (h6:((dj6 fr.length).all fun k=>match fr[k]? with
     |some j=>(match N[nl+k]?,X.N[j]? with
      |some y,some z=>y==z&&(X.env.scope.names.lookup y==some .local||X.env.scope.names.lookup y==some .cell||X.env.scope.names.lookup y==some .free)&&scope.names.lookup y==some .free
      |_,_=>false)
     |none=>false)=true:=by rfl):ah3 X N nl fr scope where
 cell:=fun y hy e=>by
   have:=dp2.mp h1 y hy
   rw[e] at this;exact absurd this (by decide)
 kind:=h2
 names:=fun y hy e=>by
   have:=dp2.mp h3 y hy
   rw[e] at this
   have q:(scope.names.lookup y.1==some NameKind.local)=true:=by simpa using this
   exact eq_of_beq q
 free:=fun p hp e=>by
   have:=dp2.mp h4 p hp
   rw[e] at this
   have q:(X.env.kindOf p.1==some NameKind.cell||X.env.kindOf p.1==some NameKind.free)=true:=by simpa using this
   rcases dt3 _ _|>.mp q with z|z
   · exact .inl (eq_of_beq z)
   · exact .inr (eq_of_beq z)
 len:=h5
 fr:=fun k j e=>by
   have hk:k < fr.length:=(df1.mp e).1
   have:=dp2.mp h6 k (di9.mpr hk)
   rw[e] at this
   dsimp only at this
   cases e1:N[nl+k]? with
   |none=>rw[e1] at this;cases this
   |some y=>
    cases e2:X.N[j]? with
    |none=>rw[e1,e2] at this;cases this
    |some z=>
     rw[e1,e2] at this
     dsimp only at this
     rw[dq4,dq4] at this
     obtain ⟨⟨q1,q2⟩,q3⟩:=this
     have hyz:y=z:=eq_of_beq q1
     subst hyz
     refine ⟨y,rfl,rfl,?_,eq_of_beq q3⟩
     rw[dt3,dt3] at q2
     rcases q2 with (q|q)|q
     · exact .inl (eq_of_beq q)
     · exact .inr (.inl (eq_of_beq q))
     · exact .inr (.inr (eq_of_beq q))
def O0 (l:List Int):List (n6×V):=l.map fun n=>((Sum.inl n:n6),V.bl true)
theorem bf8 {l:List Int}{n:Int}(h:n∈l):A9 (O0 l) (Sum.inl n:n6)=some (.bl true):=by
 induction l with
 |nil=>simp at h
 |cons a r ih=>
  show A9 (((Sum.inl a:n6),V.bl true)::O0 r) _=_
  by_cases e:a=n
  · rw[S4 (by rw[e])]
  · rw[P7 (fun z=>e (Sum.inl.inj z))]
    exact ih ((dg9.mp h).resolve_left fun z=>e z.symm)
theorem an7 {l:List Int}{n:Int}(h:n∉l):A9 (O0 l) (Sum.inl n:n6)=none:=by
 induction l with
 |nil=>rfl
 |cons a r ih=>
  show A9 (((Sum.inl a:n6),V.bl true)::O0 r) _=_
  rw[P7 (fun z=>h (by rw[Sum.inl.inj z];exact df4))]
  exact ih fun z=>h (df6 _ z)
theorem ba8 {l:List Int}{n:Int}(h:n∉l):P6 (O0 l) (Sum.inl n:n6) (V.bl true)=O0 (l++[n]):=by
 rw[an3 _ (an7 h)]
 unfold O0
 rw[df8]
 rfl
theorem G7 {ns:List Int}{i:Nat}{y:V}(h:(ns.map V.int)[i]? =some y):∃z,ns[i]? =some z∧y= .int z:=by
 rw[df3] at h
 cases e:ns[i]? with
 |none=>rw[e] at h;cases h
 |some z=>rw[e] at h;exact ⟨z,rfl,(Option.some.inj h).symm⟩
theorem j6 {α:Type}{l:List α}{i:Nat}{x:α}(h:l[i]? =some x):l.take (i+1)=l.take i++[x]:=by
 rw[List.take_add_one,h]
 rfl
end L2
namespace Mth
theorem W6 {p:List Int}{i:Int}(h0:0≤i)(h1:i < p.length):L2.atI (p.map L2.V.int) i=some (.int (p.getD i.toNat 0)):=by
 obtain ⟨j,rfl⟩:=dr0 h0
 refine L2.B6 ?_
 have hj:j < p.length:=by omega
 rw[df3,df0 hj]
 show some (L2.V.int p[j])=_
 rw[di4]
 rw[df5,df0 hj]
 rfl
end Mth
namespace L2
open PySem PySem.Spec PyProof.Rows
theorem cl8 (K:PySem.W.Frag)(H:Hp)(n:Nat)(xs:List V):LEq K H n xs [] xs.isEmpty:=by
 cases xs with
 |nil=>exact .inr ⟨fun _=>true,rfl,fun j x y e=>by simp at e,rfl⟩
 |cons x r=>exact .inl ⟨by simp,rfl⟩
section
variable {X:Cx} {p pos apos:Pos} {e o:Expr} {es:List Expr} {t:TA} {to:TE}
theorem C6 (ho:PE X o to)(ha:PA X [e] t)
   (hbase:attributeBase o "append" X.env (eval o X.env)=eval o X.env:=by rfl)
   (hfew:((backTo pos (starEach [e] X.env)).all (fun x=> !x.1)&&(backToKw pos (keywordEach [] X.env)).all (fun x=>x.1.isSome)
     &&decide ([e].length+([]:List Keyword).length+(if ([]:List Keyword).isEmpty then 0 else 1) < 30))=true:=by rfl)
   (hline:(apos.endLine==pos.line)=true:=by rfl) (hs:starEach [e] X.env=(false,eval e X.env)::starEach [] X.env:=by rfl) (hplain:(backTo pos (starEach [] X.env)).any (·.1)=false:=by rfl):
   PE X (.Call (.Attribute o "append" apos) [e] [] pos) (tBM X.K "list" bo4 to t):=
 bd6 PySem.F.plainAttrs_list PySem.F.slot_list_append PySem.F.type_list_append by4 ho ha hbase hfew hline hs hplain
theorem ah8 (hm:X.mg "list"=none)(ha:PA X [e] t)(hg:Gl X "list":=by rfl)(he:starEach [e] X.env=(false,eval e X.env)::starEach [] X.env:=by rfl):
   PE X (.Call (.Name "list" p) [e] [] pos) (Z6 (fun xs H Q=>∃p ys,xs=[.ref p]∧(h8 X.K H p ys∨E6 X.K H p ys)∧∀l,H l=none→Q (.ref l) (e7 H l (.lst ys))) t):=
 ah0 bf1 hg hm ae1 ha (by decide) (by decide) he rfl
theorem bt7 {p2 pos2:Pos}(hc:X.calm=true)(hm:X.mg "list"=none)(hm2:X.mg "range"=none)(ha:PA X [e] t)(hg:Gl X "list":=by rfl)(hg2:Gl X "range":=by rfl)(he:starEach [e] X.env=(false,eval e X.env)::starEach [] X.env:=by rfl)
   (he2:starEach [.Call (.Name "range" p2) [e] [] pos2] X.env=(false,eval (.Call (.Name "range" p2) [e] [] pos2) X.env)::starEach [] X.env:=by rfl):
   PE X (.Call (.Name "list" p) [.Call (.Name "range" p2) [e] [] pos2] [] pos) (Z6 (fun xs H Q=>∃p lo hi,xs=[.ref p]∧H p=some (.rng lo hi)∧(-(2^62)≤lo∧lo < 2^62∧ -(2^62)≤hi∧hi < 2^62)∧(hi - lo).toNat≤2^20∧
   ∀l,H l=none→Q (.ref l) (e7 H l (.lst ((S7 lo (hi - lo).toNat).map V.int)))) (bd4 (Z6 (fun xs H Q=>∃j,xs=[.int j]∧∀p,H p=none→Q (.ref p) (e7 H p (.rng 0 j))) t) bs9)):=
 ah0 (bd1 hc) hg hm ae1 (c5 (ah0 bm6 hg2 hm2 bm7 ha (by decide) (by decide) he rfl) c6 he2) (by decide) (by decide) he2 rfl
theorem cs5 (hc:X.calm=true)(hm:X.mg "sum"=none)(ha:PA X [e] t)(hg:Gl X "sum":=by rfl)(he:starEach [e] X.env=(false,eval e X.env)::starEach [] X.env:=by rfl):
   PE X (.Call (.Name "sum" p) [e] [] pos) (Z6 (fun xs H Q=>∃(p:Addr) (ns:List Int),xs=[.ref p]∧h8 X.K H p (ns.map V.int)∧Q (.int ns.sum) H) t):=
 P5 (bz5 hc) hg hm bz7 ha (by decide) (by decide) he rfl
theorem bo8 {a b:Expr}(hc:X.calm=true)(hm:X.mg "min"=none)(ha:PA X [a,b] t)(hg:Gl X "min":=by rfl)(he:starEach [a,b] X.env=(false,eval a X.env)::starEach [b] X.env:=by rfl)(hpl:(backTo pos (starEach [b] X.env)).any (·.1)=false:=by rfl):
   PE X (.Call (.Name "min" p) [a,b] [] pos) (Z6 (fun xs H Q=>∃i j,xs=[.int i,.int j]∧Q (.int (if j < i then j else i)) H) t):=
 P5 (bx6 hc) hg hm bz8 ha (by decide) (by decide) he hpl
theorem cl9 {a b:Expr}(hc:X.calm=true)(hm:X.mg "max"=none)(ha:PA X [a,b] t)(hg:Gl X "max":=by rfl)(he:starEach [a,b] X.env=(false,eval a X.env)::starEach [b] X.env:=by rfl)(hpl:(backTo pos (starEach [b] X.env)).any (·.1)=false:=by rfl):
   PE X (.Call (.Name "max" p) [a,b] [] pos) (Z6 (fun xs H Q=>∃i j,xs=[.int i,.int j]∧Q (.int (if j > i then j else i)) H) t):=
 P5 (bx5 hc) hg hm bz9 ha (by decide) (by decide) he hpl
end
end L2
namespace Mth
theorem ar8 {α:Type}:∀{l:List α} {k:Nat} {y:α},l[k]? =some y→(y::l.eraseIdx k).Perm l
 |[],k,y,h=>by simp at h
 |a::r,0,y,h=>by
  simp at h
  subst h
  exact List.Perm.refl _
 |a::r,k+1,y,h=>by
  have h':r[k]? =some y:=by simpa using h
  have ih:=ar8 h'
  show (y::a::r.eraseIdx k).Perm (a::r)
  exact (List.Perm.swap a y _).trans (ih.cons a)
end Mth
namespace L2
open PySem PySem.Spec PyProof.Rows
def cy1 (K:PySem.W.Frag)(ta:TA):TE:=Z6 (fun xs H Q=>∃p ys,xs=[.ref p]∧(h8 K H p ys∨E6 K H p ys)∧Q (.int ys.length) H) ta
section
variable {X:Cx} {p pos:Pos} {e:Expr} {t:TA}
theorem bf9 (K:PySem.W.Frag)(hm:X.mg "len"=none)(ha:PA X [e] t)(hK:X.K=K:=by rfl)(hg:Gl X "len":=by rfl)
   (he:starEach [e] X.env=(false,eval e X.env)::starEach [] X.env:=by rfl):PE X (.Call (.Name "len" p) [e] [] pos) (cy1 K t):=by
 subst hK
 exact w4 hm ha hg he
end
theorem bg0 (n:Nat):(di6 n [V.int 0]).flatten=(di6 n (0:Int)).map V.int:=by
 induction n with
 |zero=>rfl
 |succ n ih=>rw[dn7,dh1,ih,dn7,dj0];rfl
def ar9:V→Int
 | .int i=>i
 |_=>0
theorem ca2 {ys:List V}{xs:List Int}(h:ys.Perm (xs.map V.int)):∃ps:List Int,ys=ps.map V.int∧ps.Perm xs:=by
 refine ⟨ys.map ar9,?_,?_⟩
 · rw[dj4]
   conv=>lhs;rw[←ds3 ys]
   refine dk6 fun y hy=> ?_
   obtain ⟨i,_,rfl⟩:=df9.mp (h.mem_iff.mp hy)
   rfl
 · have:=h.map ar9
   rw[dj4] at this
   have e:xs.map (ar9∘V.int)=xs:=by
     conv=>rhs;rw[←ds3 xs]
     rfl
   rw[e] at this
   exact this
end L2
namespace Mth
theorem ac2 {fs:List Int}{u v x:Int}(hu:0≤u)(hv:0≤v)(h:u≠v):x5 (fs.set v.toNat x) u=x5 fs u:=by
 unfold x5
 rw[dv3 (by omega)]
theorem ae2 {fs:List Int}{v x:Int}(h:v.toNat < fs.length):x5 (fs.set v.toNat x) v=some x:=by
 unfold x5
 rw[du2 h]
theorem D0 {ts:List Int}{i:Nat}(h:i < ts.length):ts.getD i 0=ts[i]:=by
 rw[df5,df0 h]
 rfl
theorem O1 {ts:List Int}(nd:ts.Nodup){i j:Nat}(hi:i < ts.length)(hj:j < ts.length)(h:i≠j):ts.getD i 0≠ts.getD j 0:=by
 rw[D0 hi,D0 hj]
 rcases Nat.lt_or_gt_of_ne h with z|z
 · exact di3.mp (dh3.mp nd) i j hi hj z
 · exact fun e=>di3.mp (dh3.mp nd) j i hj hi z e.symm
theorem cf7 {ts fs qs:List Int}{k L:Nat}(hL:1≤L)(hb:k+L≤ts.length)(h1:(ts.take k).map (x5 fs)=qs.map some)(hq:qs.Perm (ts.take k))
   (h2:∀j,j < L→x5 fs (ts.getD (k+j) 0)=some (ts.getD (k+(j+1)%L) 0)):∃qs':List Int,qs'.Perm (ts.take (k+L))∧(ts.take (k+L)).map (x5 fs)=qs'.map some:=by
 have hT:((ts.drop k).take L).length=L:=by rw[dg7,di0];omega
 have hTj:∀j,j < L→((ts.drop k).take L)[j]? =some (ts.getD (k+j) 0):=fun j hj=>by
   rw[dk2 hj,do0,D0 (by omega),df0 (by omega)]
 have e:((ts.drop k).take L).map (x5 fs)=(((ts.drop k).take L).drop 1++((ts.drop k).take L).take 1).map some:=by
   refine dj1 fun j=> ?_
   by_cases hj:j < L
   · rw[df3,hTj j hj,df3]
     show some (x5 fs (ts.getD (k+j) 0))=_
     rw[h2 j hj]
     by_cases hj1:j+1 < L
     · rw[di1 (by rw[di0,hT];omega),do0,dn0 1 j,hTj (j+1) hj1,dl4 hj1]
       rfl
     · have hjL:j+1=L:=by omega
       rw[di8 (by rw[di0,hT];omega),di0,hT,hjL,Nat.mod_self]
       have:j - (L - 1)=0:=by omega
       rw[this,dk2 (by omega),hTj 0 (by omega)]
       rfl
   · rw[dg0 (by rw[de9,hT];omega),dg0]
     rw[de9,df7,di0,dg7 (i:=1),hT]
     omega
 refine ⟨qs++(((ts.drop k).take L).drop 1++((ts.drop k).take L).take 1),?_,?_⟩
 · rw[dz2]
   refine List.Perm.append hq ?_
   refine dm4.trans ?_
   rw[dk5]
 · rw[dz2,df8,df8,h1,e]
end Mth
namespace L2
open PySem PySem.Spec PyProof.Rows
theorem j5.free {a l:Addr}{H H':Hp}(k:j5 a H H')(h:H' l=none)(n:l≠a):H l=none:=by
 cases e:H l with
 |none=>rfl
 |some o=>have:=k l o e n;rw[h] at this;cases this
theorem e8.kb {a:Addr}{H H1 H2:Hp}(s:e8 H H1)(k:j5 a H1 H2)(h:H a=none):e8 H H2:=fun b o e=>k b o (s b o e) (g6 e h)
def l8 (H:Hp)(as:List Addr)(rs:List (List Int)):Prop:=as.length=rs.length∧∀(j:Nat) a r,as[j]? =some a→rs[j]? =some r→H a=some (.lst (r.map V.int))
theorem am5 {a b:List Int}(h:a.map V.int=b.map V.int):a=b:=(List.map_inj_right (fun x y (h:V.int x=V.int y)=>V.int.inj h)).mp h
theorem ah9 {K:PySem.W.Frag}{H:Hp}{as bs:List Addr}{rs qs:List (List Int)}(ha:l8 H as rs)(hb:l8 H bs qs):LEq K H 1 (as.map V.ref) (bs.map V.ref) (decide (rs=qs)):=by
 by_cases hl:as.length=bs.length
 · refine .inr ⟨fun j=>decide (rs[j]? =qs[j]?),by simpa using hl,fun j x y e1 e2=> ?_,?_⟩
   · rw[df3] at e1 e2
     cases h1:as[j]? with
     |none=>rw[h1] at e1;cases e1
     |some a=>
      cases h2:bs[j]? with
      |none=>rw[h2] at e2;cases e2
      |some b=>
       rw[h1] at e1;rw[h2] at e2
       cases e1;cases e2
       have j1:j < as.length:=(df1.mp h1).1
       have k1:rs[j]? =some (rs[j]'(by rw[←ha.1];exact j1)):=df0 _
       have k2:qs[j]? =some (qs[j]'(by rw[←hb.1,←hl];exact j1)):=df0 _
       have q1:=ha.2 j a _ h1 k1
       have q2:=hb.2 j b _ h2 k2
       show X5 K H 1 _ _ (decide (rs[j]? =qs[j]?))
       rw[k1,k2]
       generalize (rs[j]'(by rw[←ha.1];exact j1))=r at q1 ⊢
       generalize (qs[j]'(by rw[←hb.1,←hl];exact j1))=q at q2 ⊢
       by_cases hab:a=b
       · subst hab
         rw[q1] at q2
         have e':r=q:=am5 (HO.lst.inj (Option.some.inj q2))
         rw[e',decide_eq_true rfl]
         exact .same a
       · rcases an6 K H 0 r q with ⟨h3,h4⟩|⟨e,h3,h4,h5⟩
         · have:=X5.lens (n:=0) hab (h8.of (K:=K) q1) (h8.of q2) h3
           rw[decide_eq_false (fun z=>by
             have z':r=q:=Option.some.inj z
             exact h3 (by rw[z']))]
           exact this
         · have:=X5.lists (n:=0) e hab (h8.of (K:=K) q1) (h8.of q2) h3 h4
           rw[←h5] at this
           have e6:decide (r=q)=decide (some r=some q):=by
             by_cases z:r=q
             · subst z;simp
             · rw[decide_eq_false z,decide_eq_false fun w=>z (Option.some.inj w)]
           rw[←e6]
           exact this
   · rw[do5,decide_eq_true_iff,V0]
     constructor
     · intro h j _;subst h;simp
     · intro h
       refine dj1 fun j=> ?_
       by_cases hj:j < rs.length
       · exact of_decide_eq_true (h j (by rw[de9,ha.1];exact hj))
       · rw[dg0 (by omega),dg0 (by rw[←hb.1,←hl,ha.1];omega)]
 · refine .inl ⟨by simpa using hl,?_⟩
   exact decide_eq_false fun h=>hl (by rw[ha.1,hb.1,h])
end L2
namespace Mth
theorem cf8 {p:List Int}(t:l9 p){j:Nat}(h:j < p.length):0≤p.getD j 0∧p.getD j 0 < p.length:=by
 rw[D0 h]
 exact ⟨t.lo _ (di5 h),t.hi _ (di5 h)⟩
end Mth
namespace L2
open PySem PySem.Spec PyProof.Rows
def Ite (K:PySem.W.Frag)(a:Addr):It:=
 ⟨fun i H=>∃xs x,h8 K H a xs∧xs[i]? =some x,fun i H v H'=>∃x t,(∀xs,h8 K H a xs→xs[i]? =some x)∧H t=none∧v= .ref t∧H'=e7 H t (.tup [.int (i:Int),x]),fun i H=>∃xs,h8 K H a xs∧xs.length≤i⟩
theorem ca4 {P:Program}{w:World}{K:PySem.W.Frag}{elts:List Expr}{x1}{pos:Pos}(a e it:Addr)(hne:e≠it):
   an1 P w K (.Tuple elts x1 pos) (Ite K a) [e,it] e (fun i h=>(∃old,IsEnum h e it i old)∧h.IsListIter it a i) where
 mem:=by simp
 obj:=fun i h st b hb=>by
   obtain ⟨⟨old,he⟩,⟨o,ho,c,d⟩⟩:=st
   have hb:b=e∨b=it:=by simpa using hb
   rcases hb with rfl|rfl
   · exact ⟨_,he,fun v z=>by cases z⟩
   · exact ⟨o,ho,fun v z=>by rw[d] at z;cases z⟩
 keep:=fun i h h' st k=>⟨let ⟨old,he⟩:=st.1;⟨old,k e (by simp) _ he⟩,st.2.at fun o q=>k it (by simp) o q⟩
 item:=by
   intro X hP hw hK hc i pins s σ H E I hf st hg
   subst hP hw hK
   obtain ⟨⟨old,he⟩,hit⟩:=st
   obtain ⟨xs,x,hq,hx⟩:=hg
   obtain ⟨its,rv,p,hz⟩:=I.list hq
   obtain ⟨u,hu,ru⟩:=rv.get hx
   obtain ⟨f0,f1,f2,f3,f4,f5⟩:=hf e (by simp)
   obtain ⟨g0,g1,g2,g3,g4,g5⟩:=hf it (by simp)
   refine wpAny_pyNext_enum_item he hit p.isList (x:=u) (by simpa using hu) hne fun h' he' hit' ht' hz' hk'=> ?_
   refine ⟨_,rfl,wpAny_letOwnedTupleGo_enum he' fun h2 he2 hs2=> ?_⟩
   have hs2:Heap.SameBut e h' h2:=hs2
   have eT:e≠s.heap.objs.size:=dk1 (Heap.lt_size he)
   have ht2:h2.get? s.heap.objs.size=some {cls:= .type "tuple",data:= .seq #[.int i s.toks,u]}:=hs2.extBut _ _ eT.symm ht'
   have kk:∀b o,b≠e→b≠it→s.heap.get? b=some o→h2.get? b=some o:=fun b o b1 b2 q=>hs2.extBut b o b1 (hk' b o b1 b2 q)
   have hn:H s.heap.objs.size=none:=I.hok.fresh (df2 _)
   have nT:∀b u',H b=some u'→b≠s.heap.objs.size:=fun b u' q=>g6 q hn
   have ne:∀b u',H b=some u'→b≠e∧b≠it:=fun b u' q=>⟨fun z=>(by rw[z,f0] at q;cases q),fun z=>(by rw[z,g0] at q;cases q)⟩
   have I1:g9 X pins σ (e7 H s.heap.objs.size (.tup [.int (i:Int),x])) {s with heap:=h2,gens:=s.gens,drawn:=s.drawn,toks:=s.toks+1}:=by
     refine I.step (ch:=[e,it]) (fun b hb=> ?_) (fun b o _ _ hc q _=>kk b o (fun z=>hc (by simp [z])) (fun z=>hc (by simp [z])) q) (fun b o _ _ hc q _=>⟨o.slots,kk b o (fun z=>hc (by simp [z])) (fun z=>hc (by simp [z])) q⟩)
       (fun b o hc q n=>by rw[g8 (dk1 (Heap.lt_size q))];exact n) (fun b o hc q=>⟨o,kk b o (fun z=>hc (by simp [z])) (fun z=>hc (by simp [z])) q⟩)
       (fun b ys q=>by rw[g8 (nT b _ q)];exact q) (fun b o ys q=>by rw[g8 (nT b _ q)];exact q) (fun b ps q=>⟨#[],by rw[g8 (nT b _ q),q];simp⟩) (fun m hm=> ?_) (fun b u' q=> ?_) I.bare
     · have hb:b=e∨b=it:=by simpa using hb
       rcases hb with rfl|rfl
       · exact ⟨f3,f1,f4,f5⟩
       · exact ⟨g3,g1,g4,g5⟩
     · obtain ⟨o,es,ep,ho,r⟩:=hm
       exact ⟨o,es,ep,kk _ o (Ne.symm f1) (Ne.symm g1) ho,r⟩
     · by_cases hb:b=s.heap.objs.size
       · subst hb
         rw[c8] at q
         cases q
         exact ⟨by show 2≤sizeLine;decide,[.int i s.toks,u],.cons ⟨_,rfl⟩ (.cons ru .nil),⟨_,ht2,rfl,0,rfl⟩⟩
       · rw[g8 hb] at q
         refine (I.hok b u' q).stay (fun c v hc q'=> ?_) (fun c q'=>by rw[g8 (nT c _ q')];exact q') fun c ys q'=>by rw[g8 (nT c _ q')];exact q'
         rcases hc with z|z
         · rw[z] at q' ⊢;exact kk b v (ne b _ q).1 (ne b _ q).2 q'
         · exact kk c v (ne c _ z).1 (ne c _ z).2 q'
   refine ⟨.ref s.heap.objs.size,_,I1,rfl,⟨x,s.heap.objs.size,fun ys hy=>by rw[I.list_inj hy hq];exact hx,hn,rfl,rfl⟩,⟨⟨u,?_⟩,?_⟩,fun b hb=> ?_⟩
   · have:((i+1:Nat):Int)=(i:Int)+1:=by push_cast;rfl
     rw[this]
     exact he2
   · exact hit'.extBut hs2.extBut hne.symm
   · have hb:b=e∨b=it:=by simpa using hb
     rcases hb with rfl|rfl
     · rw[g8 eT];exact f0
     · obtain ⟨o,ho,_⟩:=hit
       rw[g8 (dk1 (Heap.lt_size ho))];exact g0
 done:=by
   intro X hP hw hK hc i pins s σ H E I hf st hg
   subst hP hw hK
   obtain ⟨⟨old,he⟩,hit⟩:=st
   obtain ⟨xs,hq,hx⟩:=hg
   obtain ⟨its,rv,p,hz⟩:=I.list hq
   obtain ⟨g0,g1,g2,g3,g4,g5⟩:=hf it (by simp)
   have hl:=rv.length
   exact wpAny_pyNext_enum_end (I.ok.hd hc) he hit p.isList (by simp;omega) fun h' eb=>⟨rfl,I.turned (t':=s.toks) (fun b o hb q=>eb b o hb q) g0 g1 g3 g4 g5⟩
 self:=fun _ _ _ _ _ st h=>let ⟨_,he⟩:=st.1;wpAny_pyIter_enum he h
theorem ca5:bootBuiltins "enumerate"=some (.type "enumerate"):=by decide+kernel
section
variable {X:Cx} {l:Expr} {ta:TA} {p pos:Pos} {elts:List Expr} {x1:Nat} {tpos:Pos}
def cy2 (K:PySem.W.Frag)(ta:TA):TI:=fun σ H R=>ta σ H fun vs H1=>∃a,vs=[.ref a]∧(∃xs,h8 K H1 a xs)∧R (Ite K a) H1
theorem ac3 (hm:X.mg "enumerate"=none)(ha:PA X [l] ta)(hg:Gl X "enumerate":=by rfl)(hs:starEach [l] X.env=[(false,eval l X.env)]:=by rfl):PI X (.Tuple elts x1 tpos) (.Call (.Name "enumerate" p) [l] [] pos) (cy2 X.K ta):=by
 intro pins s σ H R I h
 refine Call_ (T9 I hg hm ca5 (PyProof.Rows.callWith_type1 (m7 (ha pos pins s σ H _ I h) fun us s1 ⟨vs,H1,I1,r1,q1⟩=> ?_) hs rfl))
 obtain ⟨a,e,⟨xs,hq⟩,q⟩:=q1
 subst e
 obtain ⟨u,rfl,rx⟩:=R3 r1
 cases rx
 obtain ⟨its,rv,pl,hz⟩:=I1.list hq
 refine call_enumerate_list pl.isList fun h' he hit hz' hk=> ?_
 refine wpAny_pyIter_enum he ?_
 have I2:g9 X pins σ H1 {s1 with heap:=h',toks:=s1.toks}:=I1.kept (t':=s1.toks) hk
 refine ⟨s1.heap.objs.size+1,[s1.heap.objs.size+1,s1.heap.objs.size],_,_,H1,rfl,I2,ca4 a (s1.heap.objs.size+1) s1.heap.objs.size (Nat.succ_ne_self _),⟨⟨.none,he⟩,hit⟩,fun b hb=> ?_,q⟩
 have hb:b=s1.heap.objs.size+1∨b=s1.heap.objs.size:=by simpa using hb
 rcases hb with rfl|rfl
 · exact I1.fpOk (by omega) (I1.hok.fresh (by omega))
 · exact I1.fpOk (by omega) (I1.hok.fresh (by omega))
end
theorem X7 {K:PySem.W.Frag}{a:Addr}{xs:List V}{g:TG}{tb:TS}{D:U8}{σ:St}{H:Hp}(Pv:Nat→St→Hp→Prop)(h0:Pv 0 σ H)(hl:∀i σ H,i≤xs.length→Pv i σ H→h8 K H a xs)
   (hs:∀i x σ H t,xs[i]? =some x→Pv i σ H→H t=none→g (.ref t) σ (e7 H t (.tup [.int (i:Int),x])) fun σ2 H2=>tb {D with nx:=Pv (i+1),ct:=Pv (i+1),bk:=D.nx} σ2 H2) (hd:∀σ H,Pv xs.length σ H→D.nx σ H):
   ∃W:Nat→Nat→St→Hp→Prop,(∃m,W 0 m σ H)∧∀i m σ H,W i m σ H→
    ((Ite K a).stop i H∧D.nx σ H)∨((Ite K a).go i H∧∃N:St→Hp→Prop,(∀σ' H',N σ' H'→∃m',m' < m∧W (i+1) m' σ' H')∧∀x H',(Ite K a).yld i H x H'→g x σ H' fun σ2 H2=>tb {D with nx:=N,ct:=N,bk:=D.nx} σ2 H2):=by
 refine ⟨fun i m σ H=>m=xs.length - i∧i≤xs.length∧Pv i σ H,⟨xs.length,by simp,dh2 _,h0⟩,?_⟩
 rintro i m σ H ⟨rfl,hi,p⟩
 have q:=hl i σ H hi p
 by_cases hlt:i < xs.length
 · refine .inr ⟨⟨xs,xs[i],q,by simp [hlt]⟩,Pv (i+1),fun σ' H' p'=>⟨xs.length - (i+1),by omega,rfl,hlt,p'⟩,fun x H' y=> ?_⟩
   obtain ⟨x',t,y1,y2,e1,e2⟩:=y
   subst e1 e2
   exact hs i x' σ _ t (y1 xs q) p y2
 · have e:i=xs.length:=by omega
   subst e
   exact .inl ⟨⟨xs,q,df2 _⟩,hd σ H p⟩
end L2
namespace Mth
def nx (p:List Int)(x:Int):Int:=p.getD x.toNat 0
def it (p:List Int):Nat→Int→Int
 |0,x=>x
 |i+1,x=>nx p (it p i x)
def In (p:List Int)(x:Int):Prop:=0≤x∧x < p.length
theorem bt8 {p:List Int}(t:l9 p){x:Int}(h:In p x):In p (nx p x):=cf8 t (j:=x.toNat) (by have:=h.1;have:=h.2;omega)
theorem as0 {p:List Int}(t:l9 p){x y:Int}(hx:In p x)(hy:In p y)(h:nx p x=nx p y):x=y:=by
 have a1:=hx.1
 have a2:=hx.2
 have b1:=hy.1
 have b2:=hy.2
 by_cases e:x.toNat=y.toNat
 · omega
 · exact absurd h (O1 t.nd (i:=x.toNat) (j:=y.toNat) (by omega) (by omega) e)
theorem J5 {p:List Int}(t:l9 p){x:Int}(h:In p x):∀i,In p (it p i x)
 |0=>h
 |i+1=>bt8 t (J5 t h i)
theorem B7 (p:List Int)(x:Int):∀i j,it p (i+j) x=it p i (it p j x)
 |0,j=>by rw[dr1];rfl
 |i+1,j=>by
  rw[Nat.add_right_comm]
  show nx p (it p (i+j) x)=nx p (it p i (it p j x))
  rw[B7 p x i j]
theorem cm0 (p:List Int)(x:Int)(i:Nat):it p (i+1) x=it p i (nx p x):=by
 rw[B7 p x i 1];rfl
theorem as1 {p:List Int}(t:l9 p){x y:Int}(hx:In p x)(hy:In p y):∀i,it p i x=it p i y→x=y
 |0,h=>h
 |i+1,h=>as1 t hx hy i (as0 t (J5 t hx i) (J5 t hy i) h)
structure B8 (p:List Int)(x:Int)(L:Nat):Prop where
 pos:0 < L
 back:it p L x=x
 least:∀i,0 < i→i < L→it p i x≠x
theorem B8.uniq {p:List Int}{x:Int}{L M:Nat}(h:B8 p x L)(g:B8 p x M):L=M:=by
 rcases Nat.lt_trichotomy L M with z|z|z
 · exact absurd h.back (g.least L h.pos z)
 · exact z
 · exact absurd g.back (h.least M g.pos z)
theorem ai0 {p:List Int}{x:Int}{L:Nat}(h:it p L x=x):∀q,it p (L*q) x=x
 |0=>by rw[ds9];rfl
 |q+1=>by rw[dy0,B7,h,ai0 h q]
theorem R4 {p:List Int}{x:Int}{L:Nat}(h:it p L x=x)(i:Nat):it p (i%L) x=it p i x:=by
 conv=>rhs;rw[←dv7 i L,dn0,B7,ai0 h]
theorem bo9 {p:List Int}{x:Int}{L:Nat}(h:it p L x=x){a b:Nat}(e:a%L=b%L):it p a x=it p b x:=by
 rw[←R4 h a,e,R4 h]
theorem B8.shift {p:List Int}(t:l9 p){x:Int}{L:Nat}(hx:In p x)(h:B8 p x L)(j:Nat):B8 p (it p j x) L:=by
 refine ⟨h.pos,?_,fun i i0 i1 e=> ?_⟩
 · rw[←B7,dn0,B7,h.back]
 · rw[←B7,dn0,B7] at e
   exact h.least i i0 i1 (as1 t (J5 t hx i) hx j e)
def l6 (p:List Int)(x:Int)(L:Nat):List Int:=(dj6 L).map fun i=>it p i x
theorem l7 (p:List Int)(x:Int)(L:Nat):(l6 p x L).length=L:=by unfold l6;rw[de9,di2]
theorem Q5 {p:List Int}{x:Int}{L j:Nat}(h:j < L):(l6 p x L)[j]? =some (it p j x):=by
 unfold l6
 rw[df3,dj7 h]
 rfl
theorem O2 {p:List Int}{x:Int}{L j:Nat}(h:j < L):(l6 p x L).getD j 0=it p j x:=by
 rw[df5,Q5 h];rfl
theorem x6 {p:List Int}{x y:Int}{L:Nat}:y∈l6 p x L↔∃j,j < L∧y=it p j x:=by
 unfold l6
 rw[df9]
 constructor
 · rintro ⟨j,hj,rfl⟩
   exact ⟨j,di9.mp hj,rfl⟩
 · rintro ⟨j,hj,rfl⟩
   exact ⟨j,di9.mpr hj,rfl⟩
theorem bt9 (p:List Int)(x:Int)(m:Nat):l6 p x (m+1)=l6 p x m++[it p m x]:=by
 unfold l6
 rw[dr8,df8]
 rfl
theorem P1 {p:List Int}(t:l9 p){x:Int}(hx:In p x){m:Nat}(h:∀i,0 < i→i < m→it p i x≠x):(l6 p x m).Nodup:=by
 unfold l6
 rw[dh3,dn6]
 refine List.Pairwise.imp_of_mem (fun {a b} ha hb hlt e=> ?_) List.pairwise_lt_range
 have hb:=di9.mp hb
 have e2:b=a+(b - a):=by omega
 rw[e2,B7] at e
 exact h (b - a) (by omega) (by omega) (as1 t (J5 t hx _) hx a e.symm)
theorem ca6:∀(n:Nat) (l:List Nat),l.Nodup→(∀x∈l,x < n)→l.length≤n:=by
 intro n
 induction n with
 |zero=>
  intro l _ hb
  cases l with
  |nil=>exact df2 _
  |cons a r=>exact absurd (hb a df4) (Nat.not_lt_zero _)
 |succ n ih=>
  intro l nd hb
  by_cases hn:n∈l
  · obtain ⟨s,u,rfl⟩:=dw4 hn
    have pm:(s++n::u).Perm (n::(s++u)):=List.perm_middle
    obtain ⟨h1,h2⟩:=dj3.mp (pm.nodup_iff.mp nd)
    have:=ih (s++u) h2 fun x hx=>by
      have hx':=hb x (pm.mem_iff.mpr (df6 _ hx))
      have:x≠n:=fun e=>h1 (e▸hx)
      omega
    rw[pm.length_eq,dk0]
    omega
  · exact Nat.le_succ_of_le (ih l nd fun x hx=>by
      have h1:=hb x hx
      have:x≠n:=fun e=>hn (e▸hx)
      omega)
theorem I0 {p:List Int}{r:List Int}(nd:r.Nodup)(h:∀x∈r,In p x):r.length≤p.length:=by
 have:=ca6 p.length (r.map ds2) (by
   rw[dh3,dn6]
   refine List.Pairwise.imp_of_mem (fun {a b} ha hb hne z=>hne ?_) (dh3.mp nd)
   have h1:=(h a ha).1
   have h2:=(h b hb).1
   omega) fun x hx=>by
     obtain ⟨y,hy,rfl⟩:=df9.mp hx
     have h1:=(h y hy).1
     have h2:=(h y hy).2
     omega
 rw[de9] at this
 exact this
theorem M4 {p:List Int}(t:l9 p){x:Int}(hx:In p x){L:Nat}:∀y∈l6 p x L,In p y:=fun y hy=>by
 obtain ⟨j,_,rfl⟩:=x6.mp hy
 exact J5 t hx j
theorem J6 {p:List Int}(t:l9 p){x:Int}(hx:In p x){m:Nat}(h:∀i,0 < i→i < m→it p i x≠x):m≤p.length:=by
 have:=I0 (P1 t hx h) (M4 t hx)
 rw[l7] at this
 exact this
theorem bm8 {p:List Int}{x y:Int}{L:Nat}(h:B8 p x L)(hy:y∈l6 p x L)(i:Nat):it p i y∈l6 p x L:=by
 obtain ⟨j,hj,rfl⟩:=x6.mp hy
 refine x6.mpr ⟨(i+j)%L,dm6 _ h.pos,?_⟩
 rw[R4 h.back,B7]
theorem ca7 {p:List Int}{x y z:Int}{L M:Nat}(h:B8 p x L)(g:B8 p y M)(h1:z∈l6 p x L)(h2:z∈l6 p y M):y∈l6 p x L:=by
 obtain ⟨j,hj,rfl⟩:=x6.mp h2
 have:=bm8 h h1 (M - j)
 rw[←B7,show M - j+j=M by omega,g.back] at this
 exact this
open Classical in
noncomputable def K8 (p:List Int)(x:Int):Nat:=if h:∃L,B8 p x L then Classical.choose h else 0
theorem M5 {p:List Int}{x:Int}{L:Nat}(h:B8 p x L):K8 p x=L:=by
 have hx:∃L,B8 p x L:=⟨L,h⟩
 unfold K8
 rw[dif_pos hx]
 exact (Classical.choose_spec hx).uniq h
noncomputable def j7 (p:List Int):Nat→List (List Int)
 |0=>[]
 |i+1=>if (i:Int)∈(j7 p i).flatten then j7 p i else j7 p i++[l6 p i (K8 p i)]
structure w6 (p:List Int)(i:Nat)(rs:List (List Int)):Prop where
 ring:∀r∈rs,∃x L,In p x∧B8 p x L∧r=l6 p x L∧(∀y∈r,x≤y)∧x < i
 nd:rs.flatten.Nodup
 all:∀u:Int,0≤u→u < i→u∈rs.flatten
 ord:rs.Pairwise fun r s=>r.getD 0 0 < s.getD 0 0
 eq:rs=j7 p i
theorem as2 (p:List Int):w6 p 0 []:=⟨fun r hr=>by simp at hr,dn1,fun u h1 h2=>by omega,List.Pairwise.nil,rfl⟩
theorem as3 {p:List Int}{i:Nat}{rs:List (List Int)}(h:w6 p i rs)(hi:(i:Int)∈rs.flatten):w6 p (i+1) rs:=by
 refine ⟨fun r hr=> ?_,h.nd,fun u h1 h2=> ?_,h.ord,?_⟩
 · obtain ⟨x,L,a,b,c,d,e⟩:=h.ring r hr
   exact ⟨x,L,a,b,c,d,by omega⟩
 · by_cases e:u=i
   · subst e;exact hi
   · exact h.all u h1 (by omega)
 · show rs=if (i:Int)∈(j7 p i).flatten then j7 p i else j7 p i++[l6 p i (K8 p i)]
   rw[←h.eq,if_pos hi]
theorem am6 {p:List Int}{i:Nat}{rs:List (List Int)}(h:w6 p i rs){L:Nat}(hL:B8 p i L)(hi:(i:Int)∉rs.flatten):∀y∈l6 p i L,y∉rs.flatten:=by
 intro y hy hm
 obtain ⟨r,hr,hyr⟩:=dg8.mp hm
 obtain ⟨x,M,a,b,rfl,d,e⟩:=h.ring r hr
 exact hi (dg8.mpr ⟨_,hr,ca7 b hL hyr hy⟩)
theorem as4 {p:List Int}(t:l9 p){i:Nat}{rs:List (List Int)}(h:w6 p i rs)(hx:In p i){L:Nat}(hL:B8 p i L)(hi:(i:Int)∉rs.flatten):w6 p (i+1) (rs++[l6 p i L]):=by
 have fr:=am6 h hL hi
 refine ⟨fun r hr=> ?_,?_,fun u h1 h2=> ?_,?_,?_⟩
 · rcases dg2.mp hr with z|z
   · obtain ⟨x,L,a,b,c,d,e⟩:=h.ring r z
     exact ⟨x,L,a,b,c,d,by omega⟩
   · have:r=l6 p i L:=by simpa using z
     subst this
     refine ⟨i,L,hx,hL,rfl,fun y hy=> ?_,by omega⟩
     have y0:=(M4 t hx y hy).1
     by_cases hlt:y < i
     · exact absurd (h.all y y0 hlt) (fr y hy)
     · omega
 · rw[di7,dl8]
   refine dk8.mpr ⟨h.nd,P1 t hx fun j j0 j1=>hL.least j j0 j1,fun a ha b hb e=> ?_⟩
   subst e
   exact fr a hb ha
 · rw[di7,dl8]
   by_cases e:u=i
   · subst e
     exact dh6 _ (x6.mpr ⟨0,hL.pos,rfl⟩)
   · exact dk4 _ (h.all u h1 (by omega))
 · refine List.pairwise_append.mpr ⟨h.ord,dr2 _ _,fun r hr s hs=> ?_⟩
   have:s=l6 p i L:=by simpa using hs
   subst this
   obtain ⟨x,M,a,b,rfl,d,e⟩:=h.ring r hr
   rw[O2 b.pos,O2 hL.pos]
   exact e
 · show rs++[l6 p i L]=if (i:Int)∈(j7 p i).flatten then j7 p i else j7 p i++[l6 p i (K8 p i)]
   rw[←h.eq,if_neg hi,M5 hL]
def y6 (p:List Int)(k:Int)(t:List Int):Prop:=t.length=p.length∧∀x,In p x→∃L,B8 p x L∧x5 t x=some (it p (k%(L:Int)).toNat x)
theorem bu0 {p:List Int}{x:Int}{L:Nat}(h:B8 p x L)(k:Int)(j:Nat):it p (((j:Int)+k)%(L:Int)).toNat x=it p (k%(L:Int)).toNat (it p j x):=by
 rw[←B7]
 refine bo9 h.back ?_
 have hL:(0:Int) < (L:Int):=by have:=h.pos;omega
 have a1:=dl3 ((j:Int)+k) (show (L:Int)≠0 by omega)
 have b1:=dl3 k (show (L:Int)≠0 by omega)
 have:(((((j:Int)+k)%(L:Int)).toNat%L:Nat):Int)=((((k%(L:Int)).toNat+j)%L:Nat):Int):=by
   rw[dm3,dm3,dq5 a1,dy7,dq5 b1,Int.emod_emod,Int.emod_add_emod,Int.add_comm]
 exact Int.ofNat.inj this
end Mth
namespace Mth
theorem ac4 {p:List Int}{x:Int}(h:In p x):x5 p x=some (nx p x):=by
 have a1:=h.1
 have a2:=h.2
 unfold x5 nx
 rw[df5,df0 (by omega)]
 rfl
theorem cm1 {p s:List Int}(t:l9 p)(h:y6 p (-1) s){x:Int}(hx:In p x):∃y,x5 s x=some y∧In p y∧nx p y=x:=by
 obtain ⟨L,hL,e⟩:=h.2 x hx
 have hpos:=hL.pos
 have e1:((-1:Int)%(L:Int)).toNat=L - 1:=by
   have h1:(-1:Int)%(L:Int)=(L:Int) - 1:=by
     have:=Int.add_emod_right (-1:Int) (L:Int)
     rw[←this,Int.emod_eq_of_lt (by omega) (by omega)]
     omega
   rw[h1];omega
 rw[e1] at e
 refine ⟨_,e,J5 t hx _,?_⟩
 show it p (L - 1+1) x=x
 rw[show L - 1+1=L by omega,hL.back]
theorem dd5 {p s:List Int}(t:l9 p)(h:y6 p (-1) s){f:Nat→Int}(hf:∀u,u < p.length→∃j:Nat,f u=(j:Int)∧p[j]? =some (u:Int)):s=(dj6 p.length).map f:=by
 refine dj1 fun u=> ?_
 by_cases hu:u < p.length
 · obtain ⟨y,e,hy,en⟩:=cm1 t h (x:=(u:Int)) ⟨by omega,by omega⟩
   obtain ⟨j,e1,e2⟩:=hf u hu
   have hj:j < p.length:=(df1.mp e2).1
   have e3:nx p (j:Int)=(u:Int):=by
     unfold nx
     rw[di4,D0 hj]
     exact (df1.mp e2).2
   have:y=(j:Int):=as0 t hy ⟨by omega,by omega⟩ (by rw[en,e3])
   unfold x5 at e
   rw[di4] at e
   rw[e,df3,dj7 hu,this]
   show some (j:Int)=some (f u)
   rw[e1]
 · rw[dg0 (by rw[h.1];omega),dg0 (by rw[de9,di2];omega)]
end Mth
namespace L2
open PySem PySem.Spec PyProof.Rows
def cy3 (i j:Int):Prop:=0 < j∧j≤1000000000000000000000000000000
theorem cf9 {X:Cx}:K6 X (binaryOp .FloorDiv) (rI cy3 fun i j=> .int (i/j)):=opI fun i j _ _ _ _ _ hc q=>by
 have hp:Builtin.divisionGoesByPylong i j=false:=by
   refine PyProof.noPylong_of_log2 ?_
   obtain ⟨h1,h2⟩:=hc
   have:j.natAbs < 2^9000:=dj5 (show j.natAbs≤1000000000000000000000000000000 by omega) (by decide+kernel)
   exact (Nat.log2_lt (by omega)).mpr this
 refine floordiv_int (by have:=hc.1;omega) ?_ (.inl hp)
 rw[dw7 i (by have:=hc.1;omega)]
 exact q
end L2
namespace Mth
theorem ai1 {p:List Int}(t:l9 p){x:Int}(hx:In p x):∃L,B8 p x L:=by
 have h0:∃i,0 < i∧i≤p.length∧it p i x=x:=Classical.byContradiction fun hn=>by
   have:=J6 t hx (m:=p.length+1) fun i i0 i1 e=>hn ⟨i,i0,by omega,e⟩
   omega
 have key:∀n,(∃i,0 < i∧i≤n∧it p i x=x)→∃L,B8 p x L:=by
   intro n
   induction n with
   |zero=>rintro ⟨i,i0,i1,_⟩;omega
   |succ n ih=>
    rintro ⟨i,i0,i1,e⟩
    by_cases h:∃j,0 < j∧j≤n∧it p j x=x
    · exact ih h
    · refine ⟨i,i0,e,fun j j0 j1 ej=>h ⟨j,j0,by omega,ej⟩⟩
 exact key _ h0
theorem bp0 {p:List Int}{x:Int}{L:Nat}(h:B8 p x L){i:Nat}(e:it p i x=x):L∣i:=by
 rw[←R4 h.back] at e
 refine du3 (Classical.byContradiction fun hn=> ?_)
 exact h.least (i%L) (by omega) (dm6 _ h.pos) e
theorem bg1 {p:List Int}{x:Int}{L:Nat}(h:B8 p x L){a b:Nat}(e:((a:Int) - (b:Int))%(L:Int)=0):it p a x=it p b x:=by
 refine bo9 h.back ?_
 have:((a%L:Nat):Int)=((b%L:Nat):Int):=by
   rw[dm3,dm3]
   exact Int.emod_emod_of_dvd _ (Int.dvd_refl _)|>.symm.trans (by
     rw[Int.emod_emod]
     exact (Int.emod_eq_emod_iff_emod_sub_eq_zero).mpr e)
 exact Int.ofNat.inj this
theorem ba9 {t:List Int}(h1:∀x:Int,0≤x→x < t.length→0≤nx t x∧nx t x < t.length)(h2:∀x y:Int,0≤x→x < t.length→0≤y→y < t.length→nx t x=nx t y→x=y):l9 t:=by
 have g:∀i (hi:i < t.length),nx t (i:Int)=t[i]:=fun i hi=>by unfold nx;rw[di4,D0 hi]
 refine ⟨?_,fun x hx=> ?_,fun x hx=> ?_⟩
 · rw[dh3,di3]
   intro i j hi hj hlt e
   have:=h2 i j (by omega) (by omega) (by omega) (by omega) (by rw[g i hi,g j hj];exact e)
   omega
 · obtain ⟨i,hi,rfl⟩:=List.mem_iff_getElem.mp hx
   rw[←g i hi];exact (h1 i (by omega) (by omega)).1
 · obtain ⟨i,hi,rfl⟩:=List.mem_iff_getElem.mp hx
   rw[←g i hi];exact (h1 i (by omega) (by omega)).2
theorem ca8 {p t:List Int}{k:Int}(h:y6 p k t){x:Int}(hx:In p x):∃L,B8 p x L∧∀m:Nat,((m:Int) - k)%(L:Int)=0→nx t x=it p m x:=by
 obtain ⟨L,hL,e⟩:=h.2 x hx
 refine ⟨L,hL,fun m hm=> ?_⟩
 have e1:nx t x=it p (k%(L:Int)).toNat x:=by
   have hx':In t x:=⟨hx.1,by rw[h.1];exact hx.2⟩
   rw[ac4 hx'] at e
   exact Option.some.inj e
 rw[e1]
 refine bg1 hL ?_
 have b0:=dl3 k (show (L:Int)≠0 by have:=hL.pos;omega)
 rw[dq5 b0]
 have:k%(L:Int) - (m:Int)= -(((m:Int) - k)+(k - k%(L:Int))):=by omega
 rw[this]
 have d1:(L:Int)∣((m:Int) - k):=Int.dvd_of_emod_eq_zero hm
 have d2:(L:Int)∣(k - k%(L:Int)):=du6
 exact dr3 (Int.dvd_neg.mpr (Int.dvd_add d1 d2))
theorem cs6 {p t:List Int}{k:Int}(tp:l9 p)(hl:t.length=p.length)(h:∀x,In p x→∀L,B8 p x L→∃m:Nat,((m:Int) - k)%(L:Int)=0∧nx t x=it p m x):y6 p k t:=by
 refine ⟨hl,fun x hx=> ?_⟩
 obtain ⟨L,hL⟩:=ai1 tp hx
 obtain ⟨m,hm,e⟩:=h x hx L hL
 refine ⟨L,hL,?_⟩
 rw[ac4 (p:=t) ⟨hx.1,by rw[hl];exact hx.2⟩,e]
 congr 1
 refine bg1 hL ?_
 have b0:=dl3 k (show (L:Int)≠0 by have:=hL.pos;omega)
 rw[dq5 b0]
 have:(m:Int) - k%(L:Int)=((m:Int) - k)+(k - k%(L:Int)):=by omega
 rw[this]
 exact dr3 (Int.dvd_add (Int.dvd_of_emod_eq_zero hm) du6)
theorem cg0 (k:Int)(L:Nat)(h:0 < L):(((k%(L:Int)).toNat:Int) - k)%(L:Int)=0:=by
 have b0:=dl3 k (show (L:Int)≠0 by omega)
 rw[dq5 b0]
 have:k%(L:Int) - k= -(k - k%(L:Int)):=by omega
 rw[this]
 exact dr3 (Int.dvd_neg.mpr du6)
theorem bp1 {p t:List Int}{k:Int}(tp:l9 p)(h:y6 p k t):l9 t:=by
 have tx:∀x,In p x→∃L,B8 p x L∧nx t x=it p (k%(L:Int)).toNat x:=fun x hx=>by
   obtain ⟨L,hL,e⟩:=ca8 h hx
   exact ⟨L,hL,e _ (cg0 k L hL.pos)⟩
 refine ba9 (fun x x0 x1=> ?_) (fun x y x0 x1 y0 y1 e=> ?_)
 · rw[h.1] at x1 ⊢
   obtain ⟨L,hL,e⟩:=tx x ⟨x0,x1⟩
   rw[e]
   exact J5 tp ⟨x0,x1⟩ _
 · rw[h.1] at x1 y1
   obtain ⟨L,hL,e1⟩:=tx x ⟨x0,x1⟩
   obtain ⟨M,hM,e2⟩:=tx y ⟨y0,y1⟩
   rw[e1,e2] at e
   have pL:=hL.shift tp ⟨x0,x1⟩ (k%(L:Int)).toNat
   have pM:=hM.shift tp ⟨y0,y1⟩ (k%(M:Int)).toNat
   rw[e] at pL
   have:=pL.uniq pM
   subst this
   exact as1 tp ⟨x0,x1⟩ ⟨y0,y1⟩ _ e
end Mth
namespace L2
open PySem PySem.Spec PyProof.Rows
section
variable {X:Cx} {o e:Expr} {to:TE} {t:TA} {apos pos p:Pos}
theorem ca9 (ho:PE X o to)(ha:PA X [e] t)
   (hbase:attributeBase o "extend" X.env (eval o X.env)=eval o X.env:=by rfl)
   (hfew:((backTo pos (starEach [e] X.env)).all (fun x=> !x.1)&&(backToKw pos (keywordEach [] X.env)).all (fun x=>x.1.isSome)
     &&decide ([e].length+([]:List Keyword).length+(if ([]:List Keyword).isEmpty then 0 else 1) < 30))=true:=by rfl)
   (hline:(apos.endLine==pos.line)=true:=by rfl) (hs:starEach [e] X.env=(false,eval e X.env)::starEach [] X.env:=by rfl) (hplain:(backTo pos (starEach [] X.env)).any (·.1)=false:=by rfl):
   PE X (.Call (.Attribute o "extend" apos) [e] [] pos) (tBM X.K "list" bo5 to t):=
 bd6 PySem.F.plainAttrs_list PySem.F.slot_list_extend PySem.F.type_list_extend by5 ho ha hbase hfew hline hs hplain
end
theorem an8 (xs:List V)(k:Nat)(h:k≤xs.length):U9 xs (some (k:Int)) none=xs.drop k:=by
 unfold U9
 rw[HT.dd3,HT.dc0,dv8 h,dm7 (by rw[di0];omega)]
theorem cb0 (xs:List V)(k:Nat)(h:k≤xs.length):U9 xs none (some (k:Int))=xs.take k:=by
 unfold U9
 rw[HT.dd3,HT.dc0,dv8 h,dz1,Nat.sub_zero]
def R5 (H:Hp)(e:Addr):List Int:=match H e with
 |some (.lst xs)=>xs.map ar9
 |_=>[]
theorem an9 {H:Hp}{e:Addr}{r:List Int}(h:H e=some (.lst (r.map V.int))):R5 H e=r:=by
 unfold R5
 rw[h]
 show (r.map V.int).map ar9=r
 rw[dj4]
 conv=>rhs;rw[←ds3 r]
 rfl
theorem bu1 {H:Hp}{as:List Addr}{rs:List (List Int)}(h:l8 H as rs):as.map (R5 H)=rs:=by
 refine dj1 fun j=> ?_
 rw[df3]
 by_cases hj:j < as.length
 · have e1:as[j]? =some as[j]:=df0 hj
   have e2:rs[j]? =some (rs[j]'(by rw[←h.1];exact hj)):=df0 _
   rw[e1,e2]
   show some (R5 H as[j])=_
   rw[an9 (h.2 j _ _ e1 e2)]
 · rw[dg0 (by omega),dg0 (by rw[←h.1];omega)]
   rfl
end L2
namespace Mth
theorem ak7 {p:List Int}{rs:List (List Int)}(t:l9 p)(h:w6 p p.length rs):rs.flatten.Perm (L2.S7 0 p.length):=by
 have i1:l9 rs.flatten:=by
   have hin:∀x∈rs.flatten,In p x:=fun x hx=>by
     obtain ⟨r,hr,hxr⟩:=dg8.mp hx
     obtain ⟨y,L,a,b,rfl,_⟩:=h.ring r hr
     exact M4 t a x hxr
   have l1:=I0 h.nd hin
   have l2:p.length≤rs.flatten.length:=by
     have:=I0 (p:=rs.flatten) (r:=L2.S7 0 p.length) (W3 _) fun x hx=>by
       have hx':=P9.mp hx
       obtain ⟨r,hr,hxr⟩:=dg8.mp (h.all x hx'.1 hx'.2)
       refine ⟨hx'.1,?_⟩
       exact Classical.byContradiction fun hn=>by
         have hle:(rs.flatten.length:Int)≤x:=by omega
         have hlt:=I0 h.nd hin
         have q:(L2.S7 0 (x.toNat+1)).length≤rs.flatten.length:=by
           have sub:∀z∈L2.S7 0 (x.toNat+1),z∈rs.flatten:=fun z hz=>by
             have hz':=P9.mp hz
             exact h.all z hz'.1 (by have:=hx'.2;omega)
           have:∀(l m:List Int),l.Nodup→(∀z∈l,z∈m)→l.length≤m.length:=by
             intro l
             induction l with
             |nil=>intro m _ _;exact dh2 _
             |cons c l ih=>
              intro m nd hs
              obtain ⟨n1,n2⟩:=dj3.mp nd
              obtain ⟨s,u,rfl⟩:=dw4 (hs c df4)
              have:=ih (s++u) n2 fun z hz=>by
                have hzm:=hs z (df6 _ hz)
                rcases dg2.mp hzm with g|g
                · exact dk4 _ g
                · rcases dg9.mp g with g|g
                  · subst g;exact absurd hz n1
                  · exact dh6 _ g
              rw[df7] at this
              rw[df7,dk0,dk0]
              omega
           exact this _ _ (W3 _) sub
         rw[L5] at q
         have:=hx'.1
         omega
     rw[L5] at this
     exact this
   exact ⟨h.nd,fun x hx=>(hin x hx).1,fun x hx=>by have:=(hin x hx).2;omega⟩
 have hl:rs.flatten.length=p.length:=by
   have l1:=I0 h.nd fun x hx=>by
     obtain ⟨r,hr,hxr⟩:=dg8.mp hx
     obtain ⟨y,L,a,b,rfl,_⟩:=h.ring r hr
     exact M4 t a x hxr
   have l2:p.length≤rs.flatten.length:=by
     have:=I0 (p:=rs.flatten) (r:=L2.S7 0 p.length) (W3 _) fun x hx=>by
       have hx':=P9.mp hx
       have hm:=h.all x hx'.1 hx'.2
       exact ⟨hx'.1,i1.hi x hm⟩
     rw[L5] at this
     exact this
   omega
 have:=i1.perm
 rw[hl] at this
 exact this
end Mth
namespace L2
open PySem PySem.Spec PyProof.Rows
theorem X8:bootBuiltins "sorted"=some (.builtin "sorted"):=by decide+kernel
section
variable {X:Cx}
theorem am7 {pins:List (Addr×Obj)}{σ:St}{H:Hp}{s:Shared}(I:g9 X pins σ H s){vs:List Value}{out:Array Value}{ms:List Int}(h:IntsAre out.toList ms)(hl:ms.length≤sizeLine):
   g9 X pins σ (e7 H (s.heap.objs.size+1) (.lst (ms.map V.int))) {s with heap:=sortedAll s.heap vs out,toks:=s.toks}:=by
 obtain ⟨e,he⟩:=sortedAll_at s.heap vs out
 refine I.laid (t':=s.toks) (fun _ _ q=>sortedAll_old q) (ds1 _) (show q0 X.prog X.w _ _ _ (.lst (ms.map V.int)) from ⟨by rw[de9];exact hl,out.toList,e,Z7 h,he⟩)
theorem cw2:N9 X (.builtin "sorted") (fun xs H Q=>∃(p:Addr) (ns:List Int),xs=[.ref p]∧h8 X.K H p (ns.map V.int)∧ns.length < 64∧∀(ms:List Int) l,ms.Perm ns→ms.Pairwise (· ≤ ·)→H l=none→Q (.ref l) (e7 H l (.lst (ms.map V.int)))):=by
 intro pins s σ H xs us Q I r h
 obtain ⟨p,ns,rfl,hp,h64,q⟩:=h
 obtain ⟨u,rfl,rx⟩:=R3 r
 cases rx
 obtain ⟨its,rv,pl,_⟩:=I.list hp
 have ia:=W1 rv
 have il:=ia.length
 refine sorted_ints pl.isList ia (by omega) fun out ms a1 a2 a3=> ?_
 have hl:ms.length≤sizeLine:=by rw[a2.length_eq];exact dl0 (p8 (by omega))
 exact ⟨.ref (s.heap.objs.size+1),_,am7 I a1 hl,rfl,q ms _ a2 a3 (I.hok.fresh (ds1 _))⟩
variable {e:Expr} {t:TA} {p pos kpos:Pos}
theorem bg2 {j:Nat}{kp:Pos}(hm:X.mg "sorted"=none)(ha:PA X [e] t)(hg:Gl X "sorted":=by rfl)
   (he:backTo pos (starEach [e] X.env)=(false,eval e X.env)::backTo pos (starEach [] X.env):=by rfl) (hplain:(backTo pos (starEach [e] X.env)).any (·.1)=false:=by rfl):
   PE X (.Call (.Name "sorted" p) [e] [⟨some "reverse",.Constant (.bool true) j kp,kpos⟩] pos) (Z6 (fun xs H Q=>∃(p:Addr) (ns:List Int),xs=[.ref p]∧h8 X.K H p (ns.map V.int)∧ns.length < 64∧∀(ms:List Int) l,ms.Perm ns→ms.Pairwise (· ≥ ·)→H l=none→Q (.ref l) (e7 H l (.lst (ms.map V.int)))) t):=by
 intro pins s σ H Q I h
 refine wpAny_Call_Name_kw (T9 I hg hm X8 ?_ (by decide) (by decide))
 refine callWith_kw (m7 (ha pos pins s σ H _ I h) fun us s1 ⟨vs,H1,I1,r1,q1⟩=> ?_) he hplain
 obtain ⟨a,ns,rfl,hp,h64,q⟩:=q1
 obtain ⟨u,rfl,rx⟩:=R3 r1
 cases rx
 have hk:PK X [⟨some "reverse",.Constant (.bool true) j kp,kpos⟩] (bd4 (tC (.bl true)) bs9):=cl0 P2 cq9
 refine m7 (hk pos pins s1 σ H1 (fun zs H2=>zs=[.bl true]∧H2=H1) I1 ⟨rfl,rfl⟩) fun ws s2 ⟨zs,H2,I2,rz,ez,eH⟩=> ?_
 subst ez eH
 obtain ⟨u2,rfl,rx2⟩:=R3 rz
 cases (show u2=Value.bool true from rx2)
 obtain ⟨its,rv,pl,_⟩:=I2.list hp
 have ia:=W1 rv
 have il:=ia.length
 refine sorted_ints_rev (b:=true) pl.isList ia (by omega) fun out ms a1 a2 a3=> ?_
 have hl:ms.length≤sizeLine:=by rw[a2.length_eq];exact dl0 (p8 (by omega))
 exact ⟨.ref (s2.heap.objs.size+1),_,am7 I2 a1 hl,rfl,q ms _ a2 a3 (I2.hok.fresh (ds1 _))⟩
def dc9 (K:PySem.W.Frag)(te:TE)(ts:TO):TE:=fun σ H Q=>te σ H fun x H1=>ts σ H1 fun o H2=>o=some (-1)∧∃a xs,x= .ref a∧h8 K H2 a xs∧∀p,H2 p=none→Q (.ref p) (e7 H2 p (.lst xs.reverse))
theorem cs7 {st:Expr}{te:TE}{ts:TO}{p2:Pos}(he:PE X e te)(hst:PO X (some st) ts):PE X (.Subscript e (.Slice none none (some st) p2) pos) (dc9 X.K te ts):=by
 intro pins s σ H Q I h
 refine Subscript_ (m7 (he pins s σ H _ I h) fun v s1 ⟨x,H1,I1,r1,q1⟩=> ?_)
 refine wpAny_Slice ?_
 rw[evalPart_none]
 refine wpAny_pure (wpAny_pure ?_)
 refine m7 (hst pins s1 σ H1 _ I1 q1) fun vk s3 ⟨k,H3,I3,pk,ek,a,xs,ex,hx,q⟩=> ?_
 subst ek ex
 cases r1
 have I4:g9 X pins σ H3 {s3 with heap:=s3.heap.push {cls:= .type "slice",data:= .fields #[.none,.none,vk]}}:=I3.kept (t':=s3.toks) fun b ob q=>Heap.get?_push_of_some _ q
 obtain ⟨its,r,ht,hz⟩:=I4.list hx
 have hlen:=r.length
 show wpAny (model X.prog X.w) X.A (subscriptTail e (.Slice none none (some st) p2) (.ref a) (.ref s3.heap.objs.size)) (EP X pins σ Q) X.xe {s3 with heap:=s3.heap.push {cls:= .type "slice",data:= .fields #[.none,.none,vk]}}
 refine tail_any (ops:=[.ref a,.ref s3.heap.objs.size]) (T:="list") ht.isList.typeIs slot_list_getitem.lookup ?_ rfl
 refine wpAny_getItem_list_slice ht.isList (Heap.IsSliceOf.new ..) .none .none pk (by decide) ?_ (by rw[dg4]<;>omega)
 rw[PySem.W.krv_pick]
 have I5:=I4.laid (t':=s3.toks) (o:= .lst xs.reverse) (h':=(s3.heap.push {cls:= .type "slice",data:= .fields #[.none,.none,vk]}).push {cls:= .type "list",data:= .seq its.reverse.toArray}) (a:=(s3.heap.push {cls:= .type "slice",data:= .fields #[.none,.none,vk]}).objs.size)
   (fun b ob q=>Heap.get?_push_of_some _ q) (df2 _) ⟨by rw[dp1];exact hz,its.reverse,0,r.reverse,Heap.get?_push_size _ rfl⟩
 exact ⟨.ref _,_,I5,rfl,q _ (I4.hok.fresh (df2 _))⟩
end
end L2
namespace Mth
structure P3 (ls:List Nat)(h:Nat):Prop where
 pos:0 < h
 up:∀l∈ls,l∣h
 least:∀m,(∀l∈ls,l∣m)→h∣m
theorem P3.perm {ls ms:List Nat}{a:Nat}(x:P3 ls a)(h:ms.Perm ls):P3 ms a:=⟨x.pos,fun l hl=>x.up l (h.mem_iff.mp hl),fun m hm=>x.least m fun l hl=>hm l (h.mem_iff.mpr hl)⟩
theorem P3.nil:P3 [] 1:=⟨by decide,fun l hl=>by simp at hl,fun m _=>Nat.one_dvd m⟩
theorem P3.snoc {ls:List Nat}{h l:Nat}(x:P3 ls h)(hl:0 < l):P3 (ls++[l]) (Nat.lcm h l):=by
 refine ⟨Nat.lcm_pos x.pos hl,fun m hm=> ?_,fun m hm=> ?_⟩
 · rcases dg2.mp hm with z|z
   · exact Nat.dvd_trans (x.up m z) (Nat.dvd_lcm_left h l)
   · have:m=l:=by simpa using z
     rw[this];exact Nat.dvd_lcm_right h l
 · exact Nat.lcm_dvd (x.least m fun k hk=>hm k (dk4 _ hk)) (hm l (dh6 _ (by simp)))
theorem cm2 (a b:Nat):a/dg6 a b*b=Nat.lcm a b:=by
 unfold Nat.lcm
 rw[Nat.div_mul_right_comm (dq6 a b)]
end Mth
namespace L2
open PySem PySem.Spec PyProof.Rows
def as5:List Expr→Option (List Int)
 |[]=>some []
 | .Constant (.int i) _ _::es=>(as5 es).map (i:: ·)
 |_::_=>none
def cy4 (ns:List Int):TA:=fun _ H Q=>Q (ns.map V.int) H
theorem bg3 (i:Int)(j:Nat)(p:Pos)(es:List Expr)(env:Env):starEach (.Constant (.int i) j p::es) env=(false,eval (.Constant (.int i) j p) env)::starEach es env:=rfl
theorem bg4 {X:Cx}:∀(es:List Expr) (ns:List Int),as5 es=some ns→PA X es (cy4 ns)
 |[],ns,h=>by
  have:ns=[]:=(Option.some.inj h).symm
  subst this
  exact fun pos pins s σ H Q I h=>c6 pos pins s σ H Q I h
 |e::es,ns,h=>by
  unfold as5 at h
  split at h
  · rename_i h0;cases h0
  · rename_i i j p es' heq
    cases heq
    cases ho:as5 es with
    |none=>rw[ho] at h;cases h
    |some ms=>
     rw[ho] at h
     cases h
     exact fun pos pins s σ H Q I h=>(c5 (te:=tC (.int i)) h7 (bg4 es ms ho) (bg3 i j p es X.env)) pos pins s σ H Q I h
  · cases h
end L2
namespace L2
open PySem PySem.Spec PyProof.Rows
theorem cb1 {H:Hp}{a:Addr}{as:List Addr}{r:List Int}{rs:List (List Int)}(h:H a=some (.lst (r.map V.int)))(hr:l8 H as rs):l8 H (a::as) (r::rs):=by
 refine ⟨by rw[dk0,dk0,hr.1],fun j b q h1 h2=> ?_⟩
 cases j with
 |zero=>
  rw[dy1] at h1 h2
  cases h1;cases h2
  exact h
 |succ j=>
  rw[dy2] at h1 h2
  exact hr.2 j b q h1 h2
theorem bg5 {H:Hp}:∀{as bs:List Addr} {rs qs:List (List Int)},l8 H as rs→l8 H bs qs→l8 H (as++bs) (rs++qs)
 |[],bs,[],qs,_,h=>h
 |[],bs,r::rs,qs,h,_=>by have:=h.1;simp at this
 |a::as,bs,[],qs,h,_=>by have:=h.1;simp at this
 |a::as,bs,r::rs,qs,h,h'=>cb1 (h.2 0 a r rfl rfl) (bg5 ⟨by have:=h.1;simpa using this,fun j b q h1 h2=>h.2 (j+1) b q h1 h2⟩ h')
end L2
namespace L2
open PySem PySem.Spec PyProof.Rows
section
variable {X:Cx}
theorem bg6 {P:Program}{w:World}{k:n6}{u:Value}(h:(t8 P w).is k u=true):m8 (kV k) u:=by
 cases k with
 |inl i=>
  cases u with
  |int j t=>
   have:i=j:=by
     have h2:=KeyKind.is_eq_decide (knd:=t8 P w) (am1 P w j t) (Sum.inl i)
     rw[h] at h2
     have:=of_decide_eq_true h2.symm
     exact Sum.inl.inj this
   subst this
   exact ⟨t,rfl⟩
  |_=>cases h
 |inr x=>
  cases u with
  |str y t=>
   have:x=y:=by
     have h2:=KeyKind.is_eq_decide (knd:=t8 P w) (am2 P w y t) (Sum.inr x)
     rw[h] at h2
     have:=of_decide_eq_true h2.symm
     exact Sum.inr.inj this
   subst this
   exact ⟨t,rfl⟩
  |_=>cases h
theorem g9.freeze {pins:List (Addr×Obj)}{σ:St}{H:Hp}{s:Shared}{a:Addr}{kvs:List (n6×V)}{o:Obj}(I:g9 X pins σ H s)(e:H a=some (.dK kvs))(ho:s.heap.get? a=some o):g9 X pins σ (e7 H a (.frz o (.dK kvs))) s:=by
 have ok:q0 X.prog X.w H s.heap a (.dK kvs):=I.hok a _ e
 exact ak5 (h':=s.heap) (t':=s.toks) I (by rw[e];exact True.intro) ⟨rfl,fun b _=>rfl⟩ ⟨o,ho⟩ ⟨ho,ok⟩
def Itd (d:Addr)(o:Obj)(kvs:List (n6×V)):It:=
 ⟨fun i H=>H d=some (.frz o (.dK kvs))∧i < kvs.length,fun i H x H'=>H'=H∧∃k v,kvs[i]? =some (k,v)∧x=kV k,fun i H=>H d=some (.frz o (.dK kvs))∧kvs.length≤i⟩
theorem ck1 {P:Program}{w:World}{H:Hp}{h:Heap}{d:Addr}{o:Obj}{kvs:List (n6×V)}(x:q0 P w H h d (.frz o (.dK kvs))){es:Array DictEntry}{ep:Nat}(hd:o.data= .dict es ep):∃vs,KV kvs vs∧h.DictAt (t8 P w) d vs ep:=by
 obtain ⟨ho,_,_,vs,rel,o',es',ep',ho',hc,hd',r⟩:=x
 rw[ho] at ho'
 cases ho'
 rw[hd] at hd'
 cases hd'
 exact ⟨vs,rel,o,es,ho,hc,hd,r⟩
theorem as6 {α β:Type}{R:α→β→Prop}{xs:List α}{ys:List β}(h:Paired R xs ys):∀{i:Nat} {x:α},xs[i]? =some x→∃y,ys[i]? =some y∧R x y:=by
 induction h with
 |nil=>intro i x e;simp at e
 |cons r _ ih=>
  intro i x e
  cases i with
  |zero=>rw[dy1] at e;cases e;exact ⟨_,rfl,r⟩
  |succ i=>rw[dy2] at e;exact ih e
theorem ai2 {P:Program}{w:World}{K:PySem.W.Frag}{tg:Expr}(d it:Addr)(o:Obj)(kvs:List (n6×V))(es:Array DictEntry)(ep:Nat)(hdat:o.data= .dict es ep):an1 P w K tg (Itd d o kvs) [it] it (fun i h=>h.IsKeyIter it d i kvs.length ep) where
 mem:=by simp
 obj:=fun i h st b hb=>by
   have e:b=it:=by simpa using hb
   subst e
   obtain ⟨o,e,c,d⟩:=st
   exact ⟨o,e,fun v z=>by rw[d] at z;cases z⟩
 keep:=fun i h h' st k=>by
   obtain ⟨o,e,r⟩:=st
   exact ⟨o,k it (by simp) o e,r⟩
 item:=by
   intro X hP hw hK hc i pins s σ H E I hf st hg
   subst hP hw hK
   obtain ⟨hH,hi⟩:=hg
   obtain ⟨vs,rel,hat⟩:=ck1 (I.hok d _ hH) hdat
   have hl:kvs.length=vs.length:=rel.length
   obtain ⟨f0,f1,f2,f3,f4,f5⟩:=hf it (by simp)
   have e1:kvs[i]? =some (kvs[i].1,kvs[i].2):=df0 hi
   generalize kvs[i].1=k at e1
   generalize kvs[i].2=v at e1
   obtain ⟨⟨k',u⟩,e2,e3,_⟩:=as6 rel e1
   have e3:k=k':=e3
   subst e3
   rw[hl] at st
   refine wpAny_pyNext_dict_item st hat e2 fun key h' hk st' sb=> ?_
   have I1:g9 X pins σ H {s with heap:=h'}:=I.turned (t':=s.toks) (fun b o hb e=>(sb.2 b hb).trans e) f0 f1 f3 f4 f5
   obtain ⟨o,e,c,dd⟩:=id st'
   exact ⟨key,rfl,aq3 (s:={s with heap:=h'}) e c dd (by decide) ⟨kV k,H,I1,bg6 hk,⟨rfl,k,v,e1,rfl⟩,by rw[hl];exact st',fun b hb=>(hf b hb).1⟩⟩
 done:=by
   intro X hP hw hK hc i pins s σ H E I hf st hg
   subst hP hw hK
   obtain ⟨hH,hi⟩:=hg
   obtain ⟨vs,rel,hat⟩:=ck1 (I.hok d _ hH) hdat
   have hl:kvs.length=vs.length:=rel.length
   obtain ⟨f0,f1,f2,f3,f4,f5⟩:=hf it (by simp)
   rw[hl] at st
   exact wpAny_pyNext_dict_end (I.ok.hd hc) st hat (dg0 (by omega)) fun h' eb=>⟨rfl,I.turned (t':=s.toks) (fun b o hb e=>eb b o hb e) f0 f1 f3 f4 f5⟩
 self:=fun _ _ _ _ _ st h=>wpAny_pyIter_keyiter st h
def cy5 (td:TE):TI:=fun σ H R=>td σ H fun x H1=>∃d kvs,x= .ref d∧H1 d=some (.dK kvs)∧∀o,R (Itd d o kvs) (e7 H1 d (.frz o (.dK kvs)))
theorem bp2 {tg l:Expr}{tl:TE}(hl:PE X l tl):PI X tg l (cy5 tl):=by
 intro pins s σ H R I h
 refine m7 (hl pins s σ H _ I h) fun v s1 ⟨x,H1,I1,r1,q1⟩=> ?_
 obtain ⟨d,kvs,e,hH,q⟩:=q1
 subst e
 cases r1
 obtain ⟨_,hsm,vs,rel,o,es,ep,ho,hc,hdat,rr⟩:=(show q0 X.prog X.w H1 s1.heap d (.dK kvs) from I1.hok d _ hH)
 have hat:s1.heap.DictAt (t8 X.prog X.w) d vs ep:=⟨o,es,ho,hc,hdat,rr⟩
 have I2:=I1.freeze hH ho
 refine wpAny_pyIter_dict hsm hat ?_
 have hlen:kvs.length=vs.length:=rel.length
 refine ⟨s1.heap.objs.size,[s1.heap.objs.size],_,_,_,rfl,I2.kept (t':=s1.toks) fun b o e=>Heap.get?_push_of_some _ e,ai2 d _ o kvs es ep hdat,⟨_,Heap.get?_push_size _ rfl,rfl,by rw[hlen];rfl⟩,fun b hb=> ?_,q o⟩
 have e:b=s1.heap.objs.size:=by simpa using hb
 subst e
 exact I2.fpOk (df2 _) (I2.hok.fresh (df2 _))
theorem ao0 {d:Addr}{o:Obj}{kvs:List (n6×V)}{g:TG}{tb:TS}{D:U8}{σ:St}{H:Hp}(Pv:Nat→St→Hp→Prop)(h0:Pv 0 σ H)(hl:∀i σ H,i≤kvs.length→Pv i σ H→H d=some (.frz o (.dK kvs)))
   (hs:∀i k v σ H,kvs[i]? =some (k,v)→Pv i σ H→g (kV k) σ H fun σ2 H2=>tb {D with nx:=Pv (i+1),ct:=Pv (i+1),bk:=D.nx} σ2 H2) (hd:∀σ H,Pv kvs.length σ H→D.nx σ H):
   ∃W:Nat→Nat→St→Hp→Prop,(∃m,W 0 m σ H)∧∀i m σ H,W i m σ H→
    ((Itd d o kvs).stop i H∧D.nx σ H)∨((Itd d o kvs).go i H∧∃N:St→Hp→Prop,(∀σ' H',N σ' H'→∃m',m' < m∧W (i+1) m' σ' H')∧∀x H',(Itd d o kvs).yld i H x H'→g x σ H' fun σ2 H2=>tb {D with nx:=N,ct:=N,bk:=D.nx} σ2 H2):=by
 refine ⟨fun i m σ H=>m=kvs.length - i∧i≤kvs.length∧Pv i σ H,⟨kvs.length,by simp,dh2 _,h0⟩,?_⟩
 rintro i m σ H ⟨rfl,hi,p⟩
 have q:=hl i σ H hi p
 by_cases hlt:i < kvs.length
 · refine .inr ⟨⟨q,hlt⟩,Pv (i+1),fun σ' H' p'=>⟨kvs.length - (i+1),by omega,rfl,hlt,p'⟩,fun x H' y=> ?_⟩
   obtain ⟨e,k,v,y1,y2⟩:=y
   subst e y2
   exact hs i k v σ _ y1 p
 · have e:i=kvs.length:=by omega
   subst e
   exact .inl ⟨⟨q,df2 _⟩,hd σ H p⟩
theorem aa6 {prog:Program}{w:World}{κ:Type}[DecidableEq κ](knd:KeyKind prog w κ){k:κ}{key:Value}(d:Addr)(hkey:knd.is k key=true)(hd:(d==sysModules)=false)(dflt:Value):
   MeetsIn prog w (Builtin.«dict.setdefault» ⟨[.ref d,key,dflt],[]⟩) (fun _ R s=>∃kvs,s.heap.DictOf knd d kvs∧kvs.length≤sizeLine∧
     (∀v,valueAt kvs k=some v→R (.ok (.ret v)) {s with toks:=s.toks+1})∧
     (valueAt kvs k=none→∀h',h'.DictOf knd d (kvs++[(k,dflt)])→Heap.SameBut d s.heap h'→R (.ok (.ret dflt)) {s with heap:=h',toks:=s.toks+1})):=
 .of_wp fun A R s ⟨kvs,hm,hz,h1,h2⟩=>by
   unfold Builtin.«dict.setdefault»
   refine wpAny_bind ?_
   unfold Builtin.Dict.keyAndDefault
   refine wpAny_bind (wpAny_notOrdered_dict hm.typeIs ?_)
   show wpAny _ _ (pure (d,key,some dflt)) _ _ s
   refine wpAny_pure ?_
   show wpAny _ _ (if (d==sysModules)=true then _ else (dictSetDefault d key dflt >>=_)) _ _ s
   rw[if_neg (by rw[hd];exact dh5)]
   obtain ⟨o,es,ep,ho,hc,hdat,hk,hp,hn⟩:=id hm
   have hes:es.size≤sizeLine:=by
     have e1:=hp.length
     have e2:es.toList.length=es.size:=by simp
     omega
   have hf:=hm.mapOf
   refine wpAny_bind ?_
   unfold dictSetDefault
   try with_reducible refine wpAny_holding ?_
   refine wpAny_bind (knd.pyHash hkey ?_)
   refine wpAny_bind (wpAny_dictFind_of (s:={s with toks:=s.toks+1}) hkey ho hdat hk ?_)
   have hidx:(es.findIdx? fun e=>knd.is k e.key)=kvs.findIdx? fun kv=>decide (kv.1=k):=by
     rw[←hp.findIdx k];obtain ⟨l⟩:=es;simp
   have hfb:findBy knd.is es k=valueAt kvs k:=by
     rw[←hp.find k]
     obtain ⟨l⟩:=es
     simp [findBy]
   rw[findBy_of_findIdx?] at hfb
   cases hi:es.findIdx? fun e=>knd.is k e.key with
   |some i=>
    refine wpAny_bind (wpAny_dictEntries (s:={s with toks:=s.toks+1}) ho hdat ?_)
    cases he:es[i]? with
    |none=>
     exfalso
     have:=Array.findIdx?_eq_some_iff_findIdx_eq.mp hi
     have hlt:i < es.size:=this.1
     rw[dq0 hlt] at he
     exact nomatch he
    |some e=>
     refine wpAny_bind (wpAny_rule (wpAny_pure (wpAny_pure ⟨e.val,rfl,h1 e.val ?_⟩)))
     rw[hi] at hfb
     rw[←hfb]
     show Option.map _ es[i]? =_
     rw[he];rfl
   |none=>
    have hnot:k∉kvs.map (·.1):=not_mem_of_findIdx_none (hidx▸hi)
    have hnone:valueAt kvs k=none:=by rw[hi] at hfb;exact hfb.symm
    refine wpAny_bind (wpAny_rule (wpAny_bind (wpAny_updateDictKeys (hz:=hes) (s:={s with toks:=s.toks+1}) ho hdat (wpAny_pure (wpAny_pure ⟨dflt,rfl,h2 hnone _ ⟨_,_,ep+1,Heap.get?_update_self _ ho (Obj.isFreed_of_dict (Obj.data_mapDictKeys hdat _)),
      hc.mapDictKeys _,Obj.data_mapDictKeys hdat _,hk.push hkey _,?_,?_⟩ (Heap.SameBut.update ..)⟩)))))
    · have:=hp.append hkey (knd.hash k) dflt
      obtain ⟨l⟩:=es
      simpa using this
    · rw[df8,dk8]
      refine ⟨hn,by simp,?_⟩
      intro a ha b hb
      simp only[dj0,ds7,dg3] at hb
      subst hb
      exact fun e=>hnot (e▸ha)
def bp3:V→List V→Hp→VK→Prop:=fun x vs H Q=>∃(d:Addr) (kvs:List (n6×V)) (k:n6) (y:V),x= .ref d∧vs=[kV k,y]∧H d=some (.dK kvs)∧kvs.length < sizeLine∧
 (∀v,A9 kvs k=some v→Q v H)∧(A9 kvs k=none→Q y (e7 H d (.dK (kvs++[(k,y)]))))
theorem cb2:MtM X "dict.setdefault" bp3:=by
 intro pins s σ H x vs v us Q I rx rv h
 obtain ⟨d,kvs,k,y,rfl,rfl,hH,hlen,q1,q2⟩:=h
 cases rx
 cases rv with
 |cons rk rr=>
  cases rr with
  |cons ry rn=>
   cases rn
   obtain ⟨z,hd,ws,rel,dd⟩:=ck0 I.hok hH
   refine call_meetsIn PySem.F.slot_dict_setdefault dd.typeIs PySem.F.entry_dict_setdefault (PySem.F.args_dict_setdefault_3 _ _ _) (aa6 (t8 X.prog X.w) d (ak4 rk) hd _)
     ⟨ws,dd,by rw[←rel.length];exact z,fun u hu=> ?_,fun hn h' dd' hs=> ?_⟩
   · have:=rel.val k
     rw[hu] at this
     cases hv:A9 kvs k with
     |none=>rw[hv] at this;cases this
     |some v=>
      rw[hv] at this
      exact ⟨v,H,I.tok _,this,q1 v hv⟩
   · have hvn:A9 kvs k=none:=by
       have:=rel.val k
       rw[hn] at this
       cases hv:A9 kvs k with
       |none=>rfl
       |some v=>rw[hv] at this;cases this
     have he:∃q,h'.get? d=some q:=let ⟨q,_,_,hq,_⟩:=dd';⟨q,hq⟩
     have rel':=rel.put k ry
     have hany:¬(ws.any fun kv=>decide (kv.1=k))=true:=by
       rw[dx4]
       rintro ⟨kv,hkv,hek⟩
       unfold valueAt at hn
       cases hf:ws.find? (fun kv=>decide (kv.1=k)) with
       |none=>exact List.find?_eq_none.mp hf kv hkv hek
       |some y=>rw[hf] at hn;cases hn
     rw[an3 y hvn,stored,if_neg hany] at rel'
     exact ⟨y,_,ak5 I (by rw[hH];exact True.intro) hs he (by9 (by rw[df7];exact hlen) hd rel' dd'),ry,q2 hvn⟩
theorem cb3 {o e f:Expr}{to:TE}{t:TA}{apos pos:Pos}(ho:PE X o to)(ha:PA X [e,f] t)
   (hbase:attributeBase o "setdefault" X.env (eval o X.env)=eval o X.env:=by rfl)
   (hfew:((backTo pos (starEach [e,f] X.env)).all (fun x=> !x.1)&&(backToKw pos (keywordEach [] X.env)).all (fun x=>x.1.isSome)
     &&decide ([e,f].length+([]:List Keyword).length+(if ([]:List Keyword).isEmpty then 0 else 1) < 30))=true:=by rfl)
   (hline:(apos.endLine==pos.line)=true:=by rfl) (hs:starEach [e,f] X.env=(false,eval e X.env)::starEach [f] X.env:=by rfl) (hplain:(backTo pos (starEach [f] X.env)).any (·.1)=false:=by rfl):
   PE X (.Call (.Attribute o "setdefault" apos) [e,f] [] pos) (tBM X.K "dict" bp3 to t):=
 bd6 PySem.F.plainAttrs_dict PySem.F.slot_dict_setdefault PySem.F.type_dict_setdefault cb2 ho ha hbase hfew hline hs hplain
end
theorem cm3 (xs:List V)(k j:Nat)(h:k≤xs.length):U9 xs (some (k:Int)) (some (j:Int))=(xs.drop k).take (min j xs.length - k):=by
 unfold U9
 rw[HT.dd3,HT.dd3,dv8 h]
end L2
namespace Mth
def o8 (f:Nat→Nat):List Nat→Nat
 |[]=>1
 |x::xs=>f x*o8 f xs
theorem ai3 (f:Nat→Nat):∀xs ys,o8 f (xs++ys)=o8 f xs*o8 f ys
 |[],ys=>by rw[List.nil_append];exact (dz0 _).symm
 |x::xs,ys=>by
  show f x*o8 f (xs++ys)=f x*o8 f xs*o8 f ys
  rw[ai3 f xs ys,dm5]
theorem as7 (f:Nat→Nat)(xs:List Nat)(x:Nat):o8 f (xs++[x])=o8 f xs*f x:=by
 rw[ai3]
 show o8 f xs*(f x*1)=_
 rw[dt4]
theorem bu2 {f:Nat→Nat}{xs ys:List Nat}(h:xs.Perm ys):o8 f xs=o8 f ys:=by
 induction h with
 |nil=>rfl
 |cons x _ ih=>show f x*o8 f _=f x*o8 f _;rw[ih]
 |swap x y l=>show f y*(f x*o8 f l)=f x*(f y*o8 f l);rw[←dm5,dl2 (f y),dm5]
 |trans _ _ i1 i2=>rw[i1,i2]
theorem as8 {f:Nat→Nat}:∀{us:List Nat},(∀u∈us,f u=1)→o8 f us=1
 |[],_=>rfl
 |u::us,h=>by
  show f u*o8 f us=1
  rw[h u df4,as8 fun x hx=>h x (df6 _ hx)]
theorem bb0 {f:Nat→Nat}:∀{ks us:List Nat},ks.Nodup→us.Nodup→(∀k∈ks,k∈us)→(∀u∈us,u∉ks→f u=1)→o8 f ks=o8 f us
 |[],us,_,_,_,h=>(as8 fun u hu=>h u hu (by simp)).symm
 |k::ks,us,nk,nu,sub,h=>by
  obtain ⟨nk1,nk2⟩:=dj3.mp nk
  have hk:k∈us:=sub k df4
  rw[bu2 (List.perm_cons_erase hk)]
  show f k*o8 f ks=f k*o8 f (us.erase k)
  have ih:o8 f ks=o8 f (us.erase k):=by
    refine bb0 nk2 (nu.erase k) (fun x hx=> ?_) fun u hu hn=> ?_
    · have hxk:x≠k:=fun e=>nk1 (by rw[←e];exact hx)
      exact (List.mem_erase_of_ne hxk).mpr (sub x (df6 _ hx))
    · obtain ⟨h1,h2⟩:=(List.Nodup.mem_erase_iff nu).mp hu
      refine h u h2 fun z=> ?_
      rcases dg9.mp z with e|e
      · exact h1 e
      · exact hn e
  rw[ih]
def o5 (rs:List (List Int))(l:Nat):Nat:=rs.countP fun r=>decide (r.length=l)
theorem as9 {g:Int→Nat}{l:Nat}:∀{rs:List (List Int)},(∀r∈rs,∀x∈r,g x=r.length)→(rs.flatten.countP fun x=>decide (g x=l))=l*o5 rs l
 |[],_=>by simp [o5]
 |r::rs,h=>by
  have ih:=as9 (l:=l) (rs:=rs) fun q hq=>h q (df6 _ hq)
  rw[dh1,dw5,ih]
  unfold o5
  rw[dq7]
  have hr:=h r df4
  by_cases e:r.length=l
  · have:(r.countP fun x=>decide (g x=l))=r.length:=List.countP_eq_length.mpr fun x hx=>by rw[hr x hx];exact decide_eq_true e
    rw[this,e]
    simp only[decide_true,if_true]
    rw[du7,dt4,dn0]
  · have:(r.countP fun x=>decide (g x=l))=0:=dm8.mpr fun x hx=>by rw[hr x hx];simpa using e
    rw[this]
    simp [e]
theorem ak8 {p:List Int}(t:l9 p){rs:List (List Int)}(up:w6 p p.length rs):∀r∈rs,∀x∈r,K8 p x=r.length:=by
 intro r hr x hx
 obtain ⟨y,L,hy,pr,er,_⟩:=up.ring r hr
 subst er
 obtain ⟨j,hj,rfl⟩:=x6.mp hx
 rw[l7]
 exact M5 (pr.shift t hy j)
theorem aw7 {rs:List (List Int)}{l:Nat}(h:o5 rs l≠0):∃r∈rs,r.length=l:=by
 unfold o5 at h
 obtain ⟨r,hr,e⟩:=List.countP_pos_iff.mp (Nat.pos_of_ne_zero h)
 exact ⟨r,hr,of_decide_eq_true e⟩
end Mth
namespace Mth
structure M6 (l m d:Nat):Prop where
 parts:d∣m
 rest:dg6 l (m/d)=1
 least:∀e,e∣m→dg6 l (m/e)=1→d∣e
theorem M6.uniq {l m a b:Nat}(x:M6 l m a)(y:M6 l m b):a=b:=Nat.dvd_antisymm (x.least b y.parts y.rest) (y.least a x.parts x.rest)
theorem M6.pos {l m d:Nat}(x:M6 l m d)(hm:0 < m):0 < d:=by
 rcases do1 d with z|z
 · have:=x.parts
   rw[z] at this
   have:=Nat.zero_dvd.mp this
   omega
 · exact z
structure V1 (l m d:Nat):Prop where
 pos:0 < d
 parts:d∣m
 least:∀e,e∣m→dg6 l (m/e)=1→d∣e
theorem V1.start (l m:Nat):V1 l m 1:=⟨by decide,Nat.one_dvd m,fun e _ _=>Nat.one_dvd e⟩
theorem V1.step {l m d:Nat}(hm:0 < m)(u:V1 l m d):V1 l m (d*dg6 l (m/d)):=by
 obtain ⟨k,rfl⟩:=u.parts
 have dp:=u.pos
 rw[dm0 k dp]
 have kp:0 < k:=Nat.pos_of_mul_pos_left hm|>fun h=>by
   rcases do1 k with z|z
   · rw[z,ds9] at hm;omega
   · exact z
 refine ⟨dn5 dp (dt6 _ kp),dv5 d (dm9 l k),fun e he hr=> ?_⟩
 obtain ⟨f,rfl⟩:=u.least e he hr
 have hfk:f∣k:=ds6 dp he
 obtain ⟨g,rfl⟩:=hfk
 have fp:0 < f:=by
   rcases do1 f with z|z
   · rw[z,dr4] at kp;omega
   · exact z
 have e1:d*(f*g)/(d*f)=g:=by
   rw[←dm5,dm0 g (dn5 dp fp)]
 rw[e1] at hr
 refine dv5 d ?_
 have c:dw8 (dg6 l (f*g)) g:=by
   have:dw8 l g:=hr
   exact dw8.coprime_dvd_left (dq6 l (f*g)) this
 exact c.dvd_of_dvd_mul_right (dm9 l (f*g))
theorem V1.done {l m d:Nat}(u:V1 l m d)(h:dg6 l (m/d)=1):M6 l m d:=⟨u.parts,h,u.least⟩
theorem V1.more {l m d:Nat}(hm:0 < m)(u:V1 l m d)(h:dg6 l (m/d)≠1):d < d*dg6 l (m/d)∧d*dg6 l (m/d)≤m:=by
 have kp:0 < m/d:=Nat.div_pos (dq1 hm u.parts) u.pos
 have gp:0 < dg6 l (m/d):=dt6 _ kp
 have dp:=u.pos
 refine ⟨?_,dq1 hm (u.step hm).parts⟩
 have:2≤dg6 l (m/d):=by omega
 calc d < d*2:=by omega
   _≤d*dg6 l (m/d):=Nat.mul_le_mul_left d this
def G3 (d l k lane step:Nat):Nat:=lane+d*((step*k)%l)
theorem bg8 {d l x lane:Nat}(hl:lane < d)(h:0 < l):(lane+d*x)%(d*l)=lane+d*(x%l):=by
 have e:lane+d*x=(lane+d*(x%l))+(d*l)*(x/l):=by
   have:=Nat.mod_add_div x l
   calc lane+d*x=lane+d*(x%l+l*(x/l)):=by rw[this]
     _=(lane+d*(x%l))+(d*l)*(x/l):=by rw[du7,←dm5,du8]
 rw[e,dt2]
 refine dl4 ?_
 have hx:x%l+1≤l:=dm6 _ h
 calc lane+d*(x%l) < d+d*(x%l):=by omega
   _=d*(x%l+1):=by rw[du7,dt4,dn0]
   _≤d*l:=Nat.mul_le_mul_left d hx
theorem aw8 {d l k lane step:Nat}(hl:lane < d)(h:0 < l):(lane+step*(d*k))%(d*l)=G3 d l k lane step:=by
 have e:step*(d*k)=d*(step*k):=by rw[←dm5,dl2 step d,dm5]
 rw[e,bg8 hl h];rfl
theorem ac5 {d l k lane step:Nat}(hl:lane < d)(h:0 < l):G3 d l k lane step < d*l:=by
 rw[←aw8 (k:=k) hl h]
 exact dm6 _ (dn5 (by omega) h)
theorem cg1 {d l k a b x y:Nat}(ha:a < d)(hb:b < d)(hx:x < l)(hy:y < l)(c:dg6 l k=1)(h:G3 d l k a x=G3 d l k b y):a=b∧x=y:=by
 unfold G3 at h
 have dp:0 < d:=by omega
 have h1:a=b:=by
   have e1:(a+d*((x*k)%l))%d=a:=by rw[dt2];exact dl4 ha
   have e2:(b+d*((y*k)%l))%d=b:=by rw[dt2];exact dl4 hb
   rw[←e1,←e2,h]
 subst h1
 have h2:(x*k)%l=(y*k)%l:=dq2 dp (by omega)
 refine ⟨rfl,?_⟩
 have key:∀u v,u≤v→v < l→(u*k)%l=(v*k)%l→u=v:=fun u v huv hv e=>by
   have d1:l∣v*k - u*k:=du3 (Nat.sub_mod_eq_zero_of_mod_eq e.symm)
   rw[←Nat.sub_mul] at d1
   have d2:l∣v - u:=dw8.dvd_of_dvd_mul_right c d1
   rcases do1 (v - u) with z|z
   · omega
   · have:=dq1 z d2
     omega
 rcases Nat.le_total x y with z|z
 · exact key x y z hy h2
 · exact (key y x z hx h2.symm).symm
theorem cb4 {d l k lane step:Nat}(hl:lane < d)(h:0 < l):(G3 d l k lane step+d*k)%(d*l)=G3 d l k lane ((step+1)%l):=by
 have e1:G3 d l k lane step+d*k=lane+d*((step*k)%l+k):=by
   unfold G3
   rw[du7,du8]
 rw[e1,bg8 hl h]
 unfold G3
 congr 2
 rw[Nat.mod_add_mod,←do6,Nat.mul_mod ((step+1)%l),Nat.mod_mod,←Nat.mul_mod]
end Mth
namespace Mth
theorem bm9 {r:List Int}(h1:∀x,In r x→In r (nx r x))(h2:∀x,In r x→∃L,0 < L∧it r L x=x):l9 r:=by
 refine ba9 (fun x a b=>h1 x ⟨a,b⟩) fun x y x0 x1 y0 y1 e=> ?_
 obtain ⟨L,L0,hL⟩:=h2 x ⟨x0,x1⟩
 obtain ⟨M,M0,hM⟩:=h2 y ⟨y0,y1⟩
 have a1:=ai0 hL M
 have a2:=ai0 hM L
 rw[dl2] at a2
 have hp:0 < L*M:=dn5 L0 M0
 obtain ⟨N,hN⟩:∃N,L*M=N+1:=⟨L*M - 1,by omega⟩
 rw[hN,cm0] at a1 a2
 rw[←a1,←a2,e]
structure G0 (r J:List Int):Prop where
 ne:J≠[]
 nd:J.Nodup
 lo:∀x∈J,0≤x
 on:∀j,j < J.length→x5 r (J.getD j 0)=some (J.getD ((j+1)%J.length) 0)
theorem G0.in_ {r J:List Int}(h:G0 r J){j:Nat}(hj:j < J.length):In r (J.getD j 0):=by
 have:=h.on j hj
 unfold x5 at this
 have h1:=(df1.mp this).1
 have h0:=h.lo (J.getD j 0) (by rw[D0 hj];exact di5 hj)
 exact ⟨h0,by omega⟩
theorem G0.nx {r J:List Int}(h:G0 r J){j:Nat}(hj:j < J.length):nx r (J.getD j 0)=J.getD ((j+1)%J.length) 0:=by
 have e:=ac4 (h.in_ hj)
 rw[h.on j hj] at e
 exact (Option.some.inj e).symm
theorem G0.it {r J:List Int}(h:G0 r J){j:Nat}(hj:j < J.length):∀i,it r i (J.getD j 0)=J.getD ((j+i)%J.length) 0
 |0=>by rw[dn4,dl4 hj];rfl
 |i+1=>by
  have hm:(j+i)%J.length < J.length:=dm6 _ (by omega)
  show Mth.nx r (Mth.it r i (J.getD j 0))=_
  rw[h.it hj i,h.nx hm,Nat.mod_add_mod,du8]
theorem G0.per {r J:List Int}(h:G0 r J){j:Nat}(hj:j < J.length):B8 r (J.getD j 0) J.length:=by
 refine ⟨by omega,?_,fun i i0 i1 e=> ?_⟩
 · rw[h.it hj,Nat.add_mod_right,dl4 hj]
 · rw[h.it hj] at e
   have hm:(j+i)%J.length < J.length:=dm6 _ (by omega)
   have hne:(j+i)%J.length≠j:=fun z=>by
     rcases dt9 (j+i) J.length with y|y
     · rw[dl4 y] at z;omega
     · have e2:(j+i)%J.length=j+i - J.length:=by
         rw[Nat.mod_eq_sub_mod y,dl4 (by omega)]
       omega
   exact O1 h.nd hm hj hne e
def M7 (d l k:Nat):List Int:=(dj6 (d*l)).map fun i=>((G3 d l k (i/l) (i%l):Nat):Int)
theorem S8 (d l k:Nat):(M7 d l k).length=d*l:=by unfold M7;rw[de9,di2]
theorem ak9 {d l i:Nat}(h:i < d*l):i/l < d:=by
 refine Nat.div_lt_of_lt_mul ?_
 rw[dl2];exact h
theorem ae3 {d l k:Nat}(hl:0 < l)(c:dg6 l k=1):l9 (M7 d l k):=by
 refine ⟨?_,fun x hx=> ?_,fun x hx=> ?_⟩
 · unfold M7
   rw[dh3,dn6]
   refine List.Pairwise.imp_of_mem ?_ (dh3.mp (du9 (n:=d*l)))
   intro a b ha hb hne e
   have ha:=di9.mp ha
   have hb:=di9.mp hb
   have e':G3 d l k (a/l) (a%l)=G3 d l k (b/l) (b%l):=by omega
   obtain ⟨h1,h2⟩:=cg1 (ak9 ha) (ak9 hb) (dm6 _ hl) (dm6 _ hl) c e'
   exact hne (by rw[←dv7 a l,←dv7 b l,h1,h2])
 · obtain ⟨i,_,rfl⟩:=df9.mp hx
   omega
 · obtain ⟨i,hi,rfl⟩:=df9.mp hx
   rw[S8]
   have:=ac5 (k:=k) (step:=i%l) (ak9 (di9.mp hi)) hl
   omega
theorem X9 {l:Nat}(hl:0 < l):∀{Rs:List (List Int)},(∀r∈Rs,r.length=l)→Rs.flatten.length=Rs.length*l∧∀a b,a < Rs.length→b < l→Rs.flatten[a*l+b]? =(Rs.getD a [])[b]?
 |[],_=>⟨by simp,fun a b h=>by simp at h⟩
 |r::Rs,h=>by
  have hr:=h r df4
  obtain ⟨i1,i2⟩:=X9 hl (Rs:=Rs) fun q hq=>h q (df6 _ hq)
  refine ⟨by rw[dh1,df7,i1,hr,dk0,do6,dn0],fun a b ha hb=> ?_⟩
  rw[dh1]
  cases a with
  |zero=>
   rw[dr4,dr1,di1 (by omega)]
   rfl
  |succ a=>
   rw[do6,di8 (by omega),hr]
   have e:a*l+l+b - l=a*l+b:=by omega
   rw[e,i2 a b (by simp only[dk0] at ha;omega) hb]
   rfl
structure B9 (l k:Nat)(Rs:List (List Int))(J:List Int):Prop where
 len:J.length=Rs.length*l
 at_:(M7 Rs.length l k).map (x5 J)=Rs.flatten.map some
theorem B9.perm {l k:Nat}{Rs:List (List Int)}{J:List Int}(hl:0 < l)(c:dg6 l k=1)(h:B9 l k Rs J):J.Perm Rs.flatten:=
 ar7 (ae3 hl c) (by rw[S8];exact h.len) h.at_
theorem B9.get {l k:Nat}{Rs:List (List Int)}{J:List Int}(hl:0 < l)(hr:∀r∈Rs,r.length=l)(h:B9 l k Rs J){a b:Nat}(ha:a < Rs.length)(hb:b < l):J.getD (G3 Rs.length l k a b) 0=(Rs.getD a []).getD b 0:=by
 have hi:a*l+b < Rs.length*l:=by
   calc a*l+b < a*l+l:=by omega
     _=(a+1)*l:=by rw[do6]
     _≤Rs.length*l:=dm1 l ha
 have e:=congrArg (fun z:List (Option Int)=>z[a*l+b]?) h.at_
 unfold M7 at e
 rw[df3,df3,dj7 hi,df3,(X9 hl hr).2 a b ha hb] at e
 have d1:(a*l+b)/l=a:=by
   rw[dl2,dy8 hl,dx5 hb,dn4]
 have d2:(a*l+b)%l=b:=by
   rw[dl2,dy9,dl4 hb]
 simp only[Option.map_some,d1,d2] at e
 have hra:(Rs.getD a []).length=l:=by
   refine hr _ ?_
   rw[df5,df0 ha]
   exact di5 ha
 rw[df0 (by omega)] at e
 have e:=Option.some.inj e
 have hp:=ac5 (k:=k) (step:=b) ha hl
 rw[←h.len] at hp
 unfold x5 at e
 rw[di4,df0 hp] at e
 rw[df5,df0 hp,df5,df0 (show b < (Rs.getD a []).length by omega)]
 simpa using e
def at1 (p:List Int)(m:Nat)(J:List Int)(x:Int):Prop:=
 ∃(l k:Nat) (Rs:List (List Int)) (a b:Nat) (y:Int),0 < l∧m=Rs.length*k∧dg6 l k=1∧(∀r∈Rs,r.length=l)∧B9 l k Rs J∧a < Rs.length∧b < l∧In p y∧B8 p y l∧Rs.getD a []=l6 p y l∧x=it p b y
theorem bp4 {p r:List Int}{m:Nat}{qs:List (List Int)}(tp:l9 p)(hlen:r.length=p.length)(hq:∀J∈qs,G0 r J)(hx:∀x,In p x→∃J∈qs,at1 p m J x):l9 r∧y6 r (m:Int) p:=by
 have at_:∀x,In p x→∃J∈qs,∃j,j < J.length∧x=J.getD j 0∧J.getD ((j+m)%J.length) 0=nx p x:=fun x hxi=>by
   obtain ⟨J,hJ,l,k,Rs,a,b,y,l0,rfl,c,hr,hj,ha,hb,hy,py,er,rfl⟩:=hx x hxi
   refine ⟨J,hJ,G3 Rs.length l k a b,by rw[hj.len];exact ac5 ha l0,?_,?_⟩
   · rw[hj.get l0 hr ha hb,er,O2 hb]
   · rw[hj.len,cb4 ha l0,hj.get l0 hr ha (dm6 _ l0),er,O2 (dm6 _ l0),R4 py.back]
     rfl
 have inr:∀x,In r x↔In p x:=fun x=>by unfold In;rw[hlen]
 have tr:l9 r:=by
   refine bm9 (fun x h=> ?_) fun x h=> ?_
   · obtain ⟨J,hJ,j,hj,rfl,_⟩:=at_ x ((inr x).mp h)
     rw[(hq J hJ).nx hj]
     exact (hq J hJ).in_ (dm6 _ (by omega))
   · obtain ⟨J,hJ,j,hj,rfl,_⟩:=at_ x ((inr x).mp h)
     have:=(hq J hJ).per hj
     exact ⟨_,this.pos,this.back⟩
 refine ⟨tr,cs6 tr hlen.symm fun x h L hL=> ?_⟩
 obtain ⟨J,hJ,j,hj,rfl,e⟩:=at_ x ((inr _).mp h)
 have hp:=(hq J hJ).per hj
 have:L=J.length:=hL.uniq hp
 subst this
 exact ⟨m,by simp,by rw[(hq J hJ).it hj,e]⟩
end Mth
namespace L2
open PySem PySem.Spec PyProof.Rows
theorem at2:∀{us:List Value} {ns:List Int},us.length=ns.length→(∀(j:Nat) i,ns[j]? =some i→∃t,us[j]? =some (.int i t))→IntsAre us ns
 |[],[],_,_=> .nil
 |[],_::_,h,_=>by simp at h
 |_::_,[],h,_=>by simp at h
 |u::us,n::ns,h,hj=>by
  obtain ⟨t,e⟩:=hj 0 n rfl
  have e:u= .int n t:=Option.some.inj e
  subst e
  exact .cons n t (at2 (by simpa using h) fun j i hi=>hj (j+1) i hi)
section
variable {prog:Program} {w:World} {A:Around} {E:Value→Shared→Prop} {s:Shared} {κ:Type} [DecidableEq κ] {knd:KeyKind prog w κ}
theorem bg9 {d:Addr}{kvs:List (κ×Value)}{ep:Nat}{Q:List Value→Shared→Prop}(hh:A.handled=none)(hd:(d==sysModules)=false)(hm:s.heap.DictAt knd d kvs ep)(hn:kvs.length≤sizeLine)
   (hQ:∀(h':Heap) (tk:Nat) (acc:Array Value),s.heap.objs.size≤h'.objs.size→(∀b o,s.heap.get? b=some o→h'.get? b=some o)→acc.size=kvs.length→(∀(j:Nat) v,acc[j]? =some v→∃k x,kvs[j]? =some (k,x)∧knd.is k v=true)→Q acc.toList {s with heap:=h',toks:=tk}):
   wpAny (model prog w) A (collect (.ref d)) Q E s:=by
 have hdS:s.heap.objs.size≠d:=fun e=>absurd (hm.lt_size) (by rw[e];exact dn3 _)
 unfold collect
 refine wpAny_bind (wpAny_runValue (codeAny_builtin F.entry_proto_collect ?_))
 rw[Around.under_plainId F.plain_proto_collect _]
 show wpAny _ A.in1 (newList [] >>=fun l=>again (.builtin "list.__iadd__" ⟨[l,.ref d],[]⟩)) _ _ s
 refine wpAny_bind (wpAny_newObj_type ?_)
 refine wpAny_pure ⟨plainId_quiet F.plain_list_iadd _,codeAny_builtin F.entry_list_iadd ?_⟩
 rw[Around.under_plainId F.plain_list_iadd _]
 have hm₁:=hm.push {cls:= .type "list",data:= .seq ([]:List Value).toArray}
 have hS₁:(s.heap.push {cls:= .type "list",data:= .seq ([]:List Value).toArray}).get? s.heap.objs.size=some {cls:= .type "list",data:= .seq ([]:List Value).toArray}:=Heap.get?_push_size _ rfl
 have h1:Builtin.List.listSameRef (.ref s.heap.objs.size) (.ref d)=false:=by simp [Builtin.List.listSameRef,hdS]
 have hT:({s with heap:=s.heap.push {cls:= .type "list",data:= .seq ([]:List Value).toArray}}:Shared).TypeIs (.ref d) "dict":=hm₁.dictOf.typeIs
 show wpAny _ A.in1 (Builtin.List.listExtendWith (.ref s.heap.objs.size) (.ref d) (.ref s.heap.objs.size)) _ _ _
 unfold Builtin.List.listExtendWith
 refine wpAny_bind (wpAny_typeOf hT ?_)
 rw[if_neg (by rw[h1];decide)]
 refine wpAny_bind (wpAny_pyIter_dict hd hm₁ ?_)
 generalize hh1:s.heap.push {cls:= .type "list",data:= .seq ([]:List Value).toArray}=H1 at hm₁ hS₁ hT ⊢
 have hsz1:H1.objs.size=s.heap.objs.size+1:=by rw[←hh1,Heap.size_push]
 have hm₂:=hm₁.push {cls:= .type "dict_keyiterator",data:= .fields #[.ref d,.int 0 0,.int kvs.length 0,.int ep 0]}
 have hS₂:(H1.push {cls:= .type "dict_keyiterator",data:= .fields #[.ref d,.int 0 0,.int kvs.length 0,.int ep 0]}).get? s.heap.objs.size=some {cls:= .type "list",data:= .seq ([]:List Value).toArray}:=Heap.get?_push_of_some _ hS₁
 have hit:(H1.push {cls:= .type "dict_keyiterator",data:= .fields #[.ref d,.int 0 0,.int kvs.length 0,.int ep 0]}).IsKeyIter H1.objs.size d 0 kvs.length ep:=⟨_,Heap.get?_push_size _ rfl,rfl,rfl⟩
 have old2:∀b o,s.heap.get? b=some o→(H1.push {cls:= .type "dict_keyiterator",data:= .fields #[.ref d,.int 0 0,.int kvs.length 0,.int ep 0]}).get? b=some o:=fun b o e=>Heap.get?_push_of_some _ (by rw[←hh1];exact Heap.get?_push_of_some _ e)
 have hT₂:({s with heap:=H1.push {cls:= .type "dict_keyiterator",data:= .fields #[.ref d,.int 0 0,.int kvs.length 0,.int ep 0]}}:Shared).TypeIs (.ref d) "dict":=hm₂.dictOf.typeIs
 generalize (H1.push {cls:= .type "dict_keyiterator",data:= .fields #[.ref d,.int 0 0,.int kvs.length 0,.int ep 0]})=H2 at hm₂ hS₂ hit old2 hT₂ ⊢
 have hIS:H1.objs.size≠s.heap.objs.size:=by omega
 have hdI:d≠H1.objs.size:=fun e=>absurd (hm₁.lt_size) (by rw[e];exact dn3 _)
 have W:=(Walks.dictKeys (prog:=prog) (w:=w) (A:=A.in1) (knd:=knd) hh H1.objs.size d hdI kvs ep).toS
 have hSf:s.heap.objs.size∉[H1.objs.size,d]:=by
   intro hb
   rcases dg9.mp hb with e|e
   · exact hIS e.symm
   · have:s.heap.objs.size=d:=by simpa using e
     exact hdS this
 refine wpAny_bind (wpAny_holding ?_)
 unfold Builtin.List.listLengthHint
 refine wpAny_bind (wpAny_specialOf hT₂ PySem.F.slot_dict_len.lookup ?_)
 (generalize hid:("dict.__len__":String)=id0;(fail_if_success (clear hid id0));wp_delta;rw[show splitId id0=some ("dict","__len__") from by subst hid;decide+kernel];subst hid)
 refine wpAny_bind (wpAny_isInstance (b:=true) hT₂ (by rw[isSubtype_type];kernel_rfl) ?_)
 rw[if_neg (by decide)]
 show wpAny _ A.in1 (typeOf (.ref d) >>=_) _ _ _
 refine wpAny_bind (wpAny_typeOf hT₂ ?_)
 refine wpAny_pure ?_
 show wpAny _ A.in1 (rule "list.extend.makes-room" >>=fun _=>Builtin.List.listTouch (.ref s.heap.objs.size) >>=fun _=>
   again (.builtin "list.extend.loop" ⟨[.ref s.heap.objs.size,.ref H1.objs.size,.ref s.heap.objs.size],[]⟩)) _ _ _
 refine wpAny_bind (wpAny_rule ?_)
 refine wpAny_bind ?_
 show wpAny _ A.in1 (updateSeq s.heap.objs.size (·.push .none) >>=fun _=>updateSeq s.heap.objs.size (·.pop)) _ _ _
 refine wpAny_bind (wpAny_updateSeq hS₂ rfl ?_)
 have hS₃:=Heap.get?_update_self (Obj.mapSeq (·.push Value.none)) hS₂ rfl
 refine wpAny_updateSeq hS₃ rfl ?_
 have hS₄:=Heap.get?_update_self (Obj.mapSeq (·.pop)) hS₃ rfl
 have oth:∀b o,b≠s.heap.objs.size→H2.get? b=some o→((H2.update s.heap.objs.size (Obj.mapSeq (·.push Value.none))).update s.heap.objs.size (Obj.mapSeq (·.pop))).get? b=some o:=
   fun b o hb e=>(Heap.get?_update_other _ _ (Ne.symm hb)).trans ((Heap.get?_update_other _ _ (Ne.symm hb)).trans e)
 refine wpAny_pure ⟨plainId_quiet F.plain_extend_loop _,codeAny_extend_loopS W hn _ hSf _ kvs.length 0 _ _ _ rfl (dh2 _)
   ⟨hit.at fun o e=>oth _ o hIS e,hm₂.at' fun o e=>oth _ o hdS.symm e⟩ hS₄ (ItemsOf.nil _) fun s' acc' c' hmv hS' hacc=> ?_⟩
 show wpAny _ A (load s.heap.objs.size >>=_) _ _ s'
 refine wpAny_bind (wpAny_load hS' ?_)
 refine wpAny_pure ?_
 have es':s'={s with heap:=s'.heap,toks:=s'.toks}:=by
   obtain ⟨h,g,dr,t,os⟩:=s'
   have a1:=hmv.gens
   have a2:=hmv.drawn
   have a3:=hmv.os
   dsimp only at a1 a2 a3
   rw[a1,a2,a3]
 rw[es']
 refine hQ s'.heap s'.toks acc' (dl0 (Heap.lt_size hS')) (fun b o e=> ?_) hacc.1 hacc.2
 have hb:b < s.heap.objs.size:=Heap.lt_size e
 have hbS:b≠s.heap.objs.size:=dk1 hb
 refine hmv.heap b o (fun hm=> ?_) (oth b o hbS (old2 b o e))
 rcases dg9.mp hm with z|z
 · exact hbS z
 · have:b=H1.objs.size:=by simpa using z
   rw[this,hsz1] at hb
   exact absurd hb (Nat.not_lt.mpr (ds1 _))
theorem bn0 {d:Addr}{kvs:List (κ×Value)}{ep:Nat}{ns:List Int}{Q:Value→Shared→Prop}(hh:A.handled=none)(hd:(d==sysModules)=false)(hm:s.heap.DictAt knd d kvs ep)(hI:∀acc:Array Value,acc.size=kvs.length→(∀(j:Nat) v,acc[j]? =some v→∃k x,kvs[j]? =some (k,x)∧knd.is k v=true)→IntsAre acc.toList ns)(h64:kvs.length < 64)
   (h:∀(h':Heap) (tk:Nat) (a:Addr) (out:Array Value) (ns':List Int) (e:Nat),s.heap.objs.size≤a→(∀b o,s.heap.get? b=some o→h'.get? b=some o)→h'.get? a=some (seqObj "list" out e)→IntsAre out.toList ns'→ns'.Perm ns→ns'.Pairwise (· ≤ ·)→Q (.ref a) {s with heap:=h',toks:=tk}):
   wpAny (model prog w) A (call (.builtin "sorted") [.ref d]) Q E s:=by
 refine Calls.call_function_entry kind_sorted plain_sorted entry_sorted (args_sorted1 _) ?_
 unfold Builtin.«sorted»
 refine wpAny_bind (m:=checkCount "sorted" 1 1 _) (wpAny_pure ?_)
 refine wpAny_bind (bg9 hh hd hm (by rw[sizeLine_eq];omega) fun h1 tk acc hle old hsz hit=> ?_)
 have hInt:=hI acc hsz hit
 refine wpAny_bind (wpAny_newList ?_ (hsz:=by rw[dh0,hsz,sizeLine_eq];omega))
 have hoL:(h1.push (seqObj "list" acc.toList.toArray 0)).get? h1.objs.size=some (seqObj "list" acc.toList.toArray 0):=Heap.get?_push_size _ rfl
 show wpAny _ _ _ _ _ {s with heap:=h1.push (seqObj "list" acc.toList.toArray 0),toks:=tk}
 refine wpAny_bind (wpAny_holding (wpAny_call_entry slot_list_sort ⟨_,hoL,rfl⟩ entry_list_sort (list_sort_tree hoL hInt (by rw[dh0,hsz];exact h64) fun out ns' a1 a2 a3=>⟨_,rfl,?_⟩) (args_list_sort _)))
 refine wpAny_pure ⟨_,rfl,?_⟩
 obtain ⟨e,he⟩:=sortedHeap_at (out:=out) hoL
 refine h _ tk h1.objs.size out ns' e hle (fun b o e=> ?_) he a1 a2 a3
 have hb1:=old b o e
 have hlt:b < h1.objs.size:=Heap.lt_size hb1
 rw[sortedHeap_old (dk1 hlt) (by rw[Heap.size_push];exact du0 hlt)]
 exact Heap.get?_push_of_some _ hb1
end
section
variable {X:Cx}
theorem cg2 {pins:List (Addr×Obj)}{σ:St}{H:Hp}{s:Shared}(I:g9 X pins σ H s){h':Heap}{tk:Nat}{a:Addr}{out:Array Value}{ms:List Int}{e:Nat}(ha:s.heap.objs.size≤a)(k:∀b o,s.heap.get? b=some o→h'.get? b=some o)(he:h'.get? a=some (seqObj "list" out e))(hi:IntsAre out.toList ms)(hl:ms.length≤sizeLine):
   g9 X pins σ (e7 H a (.lst (ms.map V.int))) {s with heap:=h',toks:=tk}:=
 I.laid (t':=tk) k ha (show q0 X.prog X.w _ _ _ (.lst (ms.map V.int)) from ⟨by rw[de9];exact hl,out.toList,e,Z7 hi,he⟩)
theorem bh0 (hc:X.calm=true):N9 X (.builtin "sorted") (fun xs H Q=>∃(d:Addr) (kvs:List (n6×V)) (ns:List Int),xs=[.ref d]∧H d=some (.dK kvs)∧kvs.map (·.1)=ns.map Sum.inl∧ns.length < 64∧∀(ms:List Int) l,ms.Perm ns→ms.Pairwise (· ≤ ·)→H l=none→Q (.ref l) (e7 H l (.lst (ms.map V.int)))):=by
 intro pins s σ H xs us Q I r h
 obtain ⟨d,kvs,ns,rfl,hH,hk,h64,q⟩:=h
 obtain ⟨u,rfl,rx⟩:=R3 r
 cases rx
 obtain ⟨_,hsm,vs,rel,o,es,ep,ho,hcx,hdat,rr⟩:=(show q0 X.prog X.w H s.heap d (.dK kvs) from I.hok d _ hH)
 have hat:s.heap.DictAt (t8 X.prog X.w) d vs ep:=⟨o,es,ho,hcx,hdat,rr⟩
 have hlen:kvs.length=vs.length:=rel.length
 have hkn:kvs.length=ns.length:=by have:=congrArg du4 hk;rw[de9,de9] at this;exact this
 refine bn0 (ns:=ns) (I.ok.hd hc) hsm hat (fun acc hsz hit=> ?_) (by omega) fun h' tk a out ms e ha kp he hi pm srt=> ?_
 · refine at2 (by rw[dh0];omega) fun j i hj=> ?_
   have hjl:j < ns.length:=(df1.mp hj).1
   have hja:j < acc.size:=by omega
   obtain ⟨k,x,hkx,his⟩:=hit j acc[j] (dq0 hja)
   have hj1:kvs[j]? =some kvs[j]:=df0 (by omega)
   obtain ⟨⟨k',x'⟩,e2,e3,_⟩:=as6 rel hj1
   rw[hkx] at e2
   cases e2
   have e3:kvs[j].1=k:=e3
   have e4:=congrArg (fun z:List n6=>z[j]?) hk
   rw[df3,df3,hj1,hj] at e4
   have e5:kvs[j].1=Sum.inl i:=Option.some.inj e4
   rw[←e3,e5] at his
   obtain ⟨t,et⟩:=(show ∃t,acc[j]=Value.int i t from bg6 his)
   exact ⟨t,by rw[dj8,dq0 hja,et]⟩
 · have hl:ms.length≤sizeLine:=by rw[pm.length_eq,sizeLine_eq];omega
   exact ⟨.ref a,_,cg2 I ha kp he hi hl,rfl,q ms a pm srt (I.hok.fresh ha)⟩
theorem bu3 {e:Expr}{t:TA}{p pos:Pos}(hc:X.calm=true)(hm:X.mg "sorted"=none)(ha:PA X [e] t)(hg:Gl X "sorted":=by rfl)(he:starEach [e] X.env=(false,eval e X.env)::starEach [] X.env:=by rfl):
   PE X (.Call (.Name "sorted" p) [e] [] pos) (Z6 (fun xs H Q=>∃(d:Addr) (kvs:List (n6×V)) (ns:List Int),xs=[.ref d]∧H d=some (.dK kvs)∧kvs.map (·.1)=ns.map Sum.inl∧ns.length < 64∧∀(ms:List Int) l,ms.Perm ns→ms.Pairwise (· ≤ ·)→H l=none→Q (.ref l) (e7 H l (.lst (ms.map V.int)))) t):=
 P5 (bh0 hc) hg hm X8 ha (by decide) (by decide) he rfl
def bh1 (lo st:Int)(n:Nat):It:=⟨fun i _=>i < n,fun i H x H'=>H'=H∧x= .int (lo+i*st),fun i _=>n≤i⟩
theorem bn1 {P:Program}{w:World}{K:PySem.W.Frag}{tg:Expr}(it:Addr)(lo st:Int)(n:Nat):an1 P w K tg (bh1 lo st n) [it] it (fun i h=>IsRangeIter h it (lo+(i:Nat)*st) ((n:Int) - (i:Nat)) st) where
 mem:=by simp
 obj:=fun i h st' b hb=>by
   have e:b=it:=by simpa using hb
   subst e
   exact ⟨_,st',fun v z=>by
     have z':Data.fields _=Data.cell v:=z
     cases z'⟩
 keep:=fun i h h' st' k=>k it (by simp) _ st'
 item:=by
   intro X hP hw hK hc i pins s σ H E I hf st' hg
   subst hP hw hK
   obtain ⟨f0,f1,f2,f3,f4,f5⟩:=hf it (by simp)
   have W:=Walks.range (prog:=X.prog) (w:=X.w) (I.ok.hd hc) it lo st n
   refine W.item i s _ _ hg st' fun v h' tk hv st'' kk=> ?_
   obtain ⟨t,rfl⟩:=hv
   have I1:g9 X pins σ H {s with heap:=h',toks:=tk}:=I.turned (fun b o hb e=>kk b o (by simpa using hb) e) f0 f1 f3 f4 f5
   exact ⟨_,rfl,aq3 (s:={s with heap:=h',toks:=tk}) (n:="range_iterator") st'' rfl rfl (by decide) ⟨.int (lo+i*st),H,I1,⟨t,rfl⟩,⟨rfl,rfl⟩,st'',fun b hb=>(hf b hb).1⟩⟩
 done:=by
   intro X hP hw hK hc i pins s σ H E I hf st' hg
   subst hP hw hK
   obtain ⟨f0,f1,f2,f3,f4,f5⟩:=hf it (by simp)
   exact wpAny_pyNext_range_end (I.ok.hd hc) st' (by have:n≤i:=hg;omega) fun h' eb=>⟨rfl,I.turned (t':=s.toks) (fun b o hb e=>eb b o hb e) f0 f1 f3 f4 f5⟩
 self:=fun _ _ _ _ _ st' h=>wpAny_pyIter_rangeiter st' h
def cy6 (ta:TA):TI:=fun σ H R=>ta σ H fun vs H1=>∃(b c:Nat),vs=[.int 0,.int (b:Int),.int (c:Int)]∧1≤b∧b≤1000∧1≤c∧c≤1000∧R (bh1 0 (c:Int) ((b - 1)/c+1)) H1
theorem ck2 {b c:Nat}(b1:1≤b)(c1:1≤c):Builtin.Range.rangeSize 0 (b:Int) (c:Int)=(((b - 1)/c+1:Nat):Int):=by
 unfold Builtin.Range.rangeSize
 rw[if_pos (by omega),if_pos (by omega)]
 have:(b:Int) - 0 - 1=((b - 1:Nat):Int):=by omega
 rw[this,←dx6]
 rfl
theorem cs8 {b c:Nat}(b1:1≤b)(b2:b≤1000)(c1:1≤c)(c2:c≤1000):Builtin.Range.small 0 (b:Int) (c:Int)=true:=by
 unfold Builtin.Range.small
 rw[ck2 b1 c1]
 have h1:(b - 1)/c≤b - 1:=Nat.div_le_self _ _
 have h2:(b - 1)/c*c≤b - 1:=Nat.div_mul_le_self _ _
 generalize hq:(b - 1)/c=q at h1 h2 ⊢
 simp only[Builtin.Range.rangeFitsLong,dq4,dt3,decide_eq_true_eq,beq_iff_eq,show (c:Int) > 0 by omega,if_true]
 exact ⟨⟨⟨⟨⟨by decide,by decide⟩,by omega,by omega⟩,by omega,by omega⟩,by omega,by omega⟩,.inr ⟨by omega,by omega⟩⟩
theorem cb5 {tg a b c:Expr}{ta:TA}{p pos:Pos}(hg:Gl X "range")(hm:X.mg "range"=none)(ha:PA X [a,b,c] ta)(hs:starEach [a,b,c] X.env=(false,eval a X.env)::starEach [b,c] X.env:=by rfl)(hpl:(backTo pos (starEach [b,c] X.env)).any (·.1)=false:=by rfl):
   PI X tg (.Call (.Name "range" p) [a,b,c] [] pos) (cy6 ta):=by
 intro pins s σ H R I h
 refine Call_ (T9 I hg hm boot_range (PyProof.Rows.callWith_type1 (m7 (ha pos pins s σ H _ I h) fun us s1 ⟨vs,H1,I1,r1,q1⟩=> ?_) hs hpl))
 obtain ⟨bn,cn,e,b1,b2,c1,c2,q⟩:=q1
 subst e
 cases r1 with
 |cons r rr=>
  cases rr with
  |cons r' rr=>
   cases rr with
   |cons r'' rr=>
    cases rr
    obtain ⟨t,rfl⟩:=r
    obtain ⟨t',rfl⟩:=r'
    obtain ⟨t'',rfl⟩:=r''
    refine call_range_3 (by omega) ?_ (.inl (PyProof.noPylong_small (by omega)))
    refine wpAny_pyIter_range (IsRange.new ..) (cs8 b1 b2 c1 c2) ?_
    have I2:g9 X pins σ H1 {s1 with heap:=s1.heap.push {cls:= .type "range",data:= .fields #[.int 0 t,.int (bn:Int) t',.int (cn:Int) t'']},toks:=s1.toks}:=I1.kept fun b o e=>Heap.get?_push_of_some _ e
    refine ⟨(s1.heap.push {cls:= .type "range",data:= .fields #[.int 0 t,.int (bn:Int) t',.int (cn:Int) t'']}).objs.size,[(s1.heap.push {cls:= .type "range",data:= .fields #[.int 0 t,.int (bn:Int) t',.int (cn:Int) t'']}).objs.size],_,_,H1,rfl,
      I2.kept (t':=s1.toks) fun b o e=>Heap.get?_push_of_some _ e,bn1 _ 0 (cn:Int) ((bn - 1)/cn+1),?_,fun b hb=> ?_,q⟩
    · show IsRangeIter _ _ ((0:Int)+((0:Nat):Int)*(cn:Int)) ((((bn - 1)/cn+1:Nat):Int) - ((0:Nat):Int)) (cn:Int)
      have e1:(0:Int)+((0:Nat):Int)*(cn:Int)=0:=by simp
      have e2:(((bn - 1)/cn+1:Nat):Int) - ((0:Nat):Int)=Builtin.Range.rangeSize 0 (bn:Int) (cn:Int):=by rw[ck2 b1 c1];omega
      rw[e1,e2]
      exact Heap.get?_push_size _ rfl
    · have e:b=(s1.heap.push {cls:= .type "range",data:= .fields #[.int 0 t,.int (bn:Int) t',.int (cn:Int) t'']}).objs.size:=by simpa using hb
      subst e
      exact I2.fpOk (df2 _) (I2.hok.fresh (df2 _))
theorem bu4 {lo st:Int}{n:Nat}{g:TG}{tb:TS}{D:U8}{σ:St}{H:Hp}(Pv:Nat→St→Hp→Prop)(h0:Pv 0 σ H)
   (hs:∀i σ H,i < n→Pv i σ H→g (.int (lo+i*st)) σ H fun σ2 H2=>tb {D with nx:=Pv (i+1),ct:=Pv (i+1),bk:=D.nx} σ2 H2) (hd:∀σ H,Pv n σ H→D.nx σ H):
   ∃W:Nat→Nat→St→Hp→Prop,(∃m,W 0 m σ H)∧∀i m σ H,W i m σ H→
    ((bh1 lo st n).stop i H∧D.nx σ H)∨((bh1 lo st n).go i H∧∃N:St→Hp→Prop,(∀σ' H',N σ' H'→∃m',m' < m∧W (i+1) m' σ' H')∧∀x H',(bh1 lo st n).yld i H x H'→g x σ H' fun σ2 H2=>tb {D with nx:=N,ct:=N,bk:=D.nx} σ2 H2):=by
 refine ⟨fun i m σ H=>m=n - i∧i≤n∧Pv i σ H,⟨n,by simp,dh2 _,h0⟩,?_⟩
 rintro i m σ H ⟨rfl,hi,p⟩
 by_cases hlt:i < n
 · refine .inr ⟨hlt,Pv (i+1),fun σ' H' p'=>⟨n - (i+1),by omega,rfl,hlt,p'⟩,fun x H' y=> ?_⟩
   obtain ⟨e,y⟩:=y
   subst e y
   exact hs i σ _ hlt p
 · have e:i=n:=by omega
   subst e
   exact .inl ⟨df2 _,hd σ H p⟩
end
end L2
namespace Mth
theorem bh2 {p:List Int}(t:l9 p):∀i,i≤p.length→w6 p i (j7 p i)
 |0,_=>as2 p
 |i+1,h=>by
  have ih:=bh2 t i (by omega)
  show w6 p (i+1) (if (i:Int)∈(j7 p i).flatten then j7 p i else j7 p i++[l6 p i (K8 p i)])
  have hx:In p (i:Int):=⟨by omega,by omega⟩
  by_cases hi:(i:Int)∈(j7 p i).flatten
  · rw[if_pos hi];exact as3 ih hi
  · rw[if_neg hi]
    obtain ⟨L,hL⟩:=ai1 t hx
    rw[M5 hL]
    exact as4 t ih hx hL hi
theorem D8 {p:List Int}(t:l9 p):w6 p p.length (j7 p p.length):=bh2 t _ (df2 _)
theorem at3 {p t:List Int}{k:Int}(tp:l9 p)(h:y6 p k t){x:Int}(hx:In p x){L:Nat}(hL:B8 p x L){m:Nat}(hm:((m:Int) - k)%(L:Int)=0):∀i,it t i x=it p (m*i) x
 |0=>by rw[ds9];rfl
 |i+1=>by
  show nx t (it t i x)=_
  rw[at3 tp h hx hL hm i]
  obtain ⟨M,hM,e⟩:=ca8 h (J5 tp hx (m*i))
  have:=(hL.shift tp hx (m*i)).uniq hM
  subst this
  rw[e m hm,←B7,dy0,dn0]
theorem aw9 {p t:List Int}{k:Int}(tp:l9 p)(h:y6 p k t){x:Int}(hx:In p x){L:Nat}(hL:B8 p x L){m:Nat}(hm:((m:Int) - k)%(L:Int)=0):B8 t x (L/dg6 L m):=by
 have lp:=hL.pos
 have gp:0 < dg6 L m:=do7 _ lp
 obtain ⟨a,ha⟩:=dq6 L m
 obtain ⟨b,hb⟩:=dm9 L m
 have cp:dw8 (L/dg6 L m) (m/dg6 L m):=dp6 gp
 generalize dg6 L m=g at*
 have e1:L/g=a:=by rw[ha,dm0 _ gp]
 have e2:m/g=b:=by rw[hb,dm0 _ gp]
 rw[e1,e2] at cp
 rw[e1]
 refine ⟨?_,?_,fun i i0 i1 e=> ?_⟩
 · rcases do1 a with z|z
   · rw[z] at ha;omega
   · exact z
 · rw[at3 tp h hx hL hm,hb,show g*b*a=L*b by rw[ha];ac_rfl]
   exact ai0 hL.back b
 · rw[at3 tp h hx hL hm] at e
   have d:=bp0 hL e
   rw[ha,hb,dm5] at d
   have d2:a∣b*i:=ds6 gp d
   have d3:a∣i:=cp.dvd_of_dvd_mul_left d2
   exact absurd (dq1 i0 d3) (by omega)
theorem bb1 {D:Nat}{g:Int→Bool}:∀{rs:List (List Int)},(∀r∈rs,(∀x∈r,g x=false)∨((∀x∈r,g x=true)∧D∣r.length))→D∣rs.flatten.countP g
 |[],_=>by simp
 |r::rs,h=>by
  have ih:=bb1 (D:=D) (g:=g) (rs:=rs) fun q hq=>h q (df6 _ hq)
  rw[dh1,dw5]
  refine Nat.dvd_add ?_ ih
  rcases h r df4 with z|⟨z,d⟩
  · rw[dm8.mpr fun x hx=>by rw[z x hx];decide];exact dy3 D
  · rw[List.countP_eq_length.mpr fun x hx=>z x hx];exact d
theorem bu5 {p:List Int}(t:l9 p)(l:Nat):((L2.S7 0 p.length).countP fun x=>decide (K8 p x=l))=l*o5 (j7 p p.length) l:=by
 rw[←as9 (ak8 t (D8 t)),(ak7 t (D8 t)).countP_eq]
theorem cg3 {p:List Int}(t:l9 p):o5 (j7 p p.length) 0=0:=by
 by_cases z:o5 (j7 p p.length) 0=0
 · exact z
 · obtain ⟨r,hr,e⟩:=aw7 z
   obtain ⟨y,L,hy,pr,er,_⟩:=(D8 t).ring r hr
   rw[er,l7] at e
   have:=pr.pos
   omega
theorem bu6 {r p:List Int}{m l d:Nat}(tr:l9 r)(h:y6 r (m:Int) p)(hd:M6 l m d):d∣o5 (j7 p p.length) l:=by
 have tp:=bp1 tr h
 rcases do1 l with z|l0
 · rw[z,cg3 tp];exact dy3 d
 have e:=bu5 tp l
 have key:l*d∣l*o5 (j7 p p.length) l:=by
   rw[←e,h.1,←(ak7 tr (D8 tr)).countP_eq]
   refine bb1 fun q hq=> ?_
   obtain ⟨y,L,hy,pr,er,_⟩:=(D8 tr).ring q hq
   have pers:∀x∈q,K8 p x=L/dg6 L m:=fun x hx=>by
     rw[er] at hx
     obtain ⟨j,hj,rfl⟩:=x6.mp hx
     exact M5 (aw9 tr h (J5 tr hy j) (pr.shift tr hy j) (by rw[dy4];rfl))
   by_cases hl:L/dg6 L m=l
   · refine .inr ⟨fun x hx=>by rw[pers x hx];exact decide_eq_true hl,?_⟩
     have gp:0 < dg6 L m:=do7 _ pr.pos
     have eL:L=l*dg6 L m:=by rw[←hl,Nat.div_mul_cancel (dq6 L m)]
     rw[er,l7]
     have hr:d∣dg6 L m:=by
       refine hd.least _ (dm9 L m) ?_
       have:=dp6 gp
       rw[hl] at this
       exact this
     rw[eL]
     exact dv5 l hr
   · exact .inl fun x hx=>by rw[pers x hx];exact decide_eq_false hl
 exact ds6 l0 key
structure bh3 (c:Nat→Nat)(m l d:Nat):Prop where
 some:1≤c l
 right:M6 l m d
 bad:¬d∣c l
 less:∀k,1≤c k→k < l→∀e,M6 k m e→e∣c k
end Mth
namespace Mth
def t6 (rs:List (List Int))(l:Nat):List (List Int):=rs.filter fun r=>decide (r.length=l)
theorem O3 (rs:List (List Int))(l:Nat):(t6 rs l).length=o5 rs l:=by unfold t6 o5;rw[dw3]
def JO (m:Nat)(rs:List (List Int))(J:List Int)(Rs:List (List Int)):Prop:=
 ∃l k,0 < l∧m=Rs.length*k∧dg6 l k=1∧(∀r∈Rs,r.length=l)∧1≤Rs.length∧B9 l k Rs J∧(∀r∈Rs,r∈rs)∧M6 l m Rs.length∧∃j,Rs=((t6 rs l).drop (j*Rs.length)).take Rs.length
def ac6 (p:List Int)(m:Nat)(r:List Int):Prop:=r.length=p.length∧∀r0∈j7 p p.length,∃J Rs,JO m (j7 p p.length) J Rs∧r0∈Rs∧G0 r J
theorem B9.uniq {l k:Nat}{Rs:List (List Int)}{J J':List Int}(hl:0 < l)(c:dg6 l k=1)(h:B9 l k Rs J)(h':B9 l k Rs J'):J=J':=by
 have e:=h.at_.trans h'.at_.symm
 refine dj1 fun i=> ?_
 by_cases hi:i < Rs.length*l
 · have ip:=ae3 (d:=Rs.length) hl c
   have hm:(i:Int)∈M7 Rs.length l k:=ip.perm.mem_iff.mpr (P9.mpr ⟨by omega,by rw[S8];omega⟩)
   obtain ⟨n,hn⟩:=dh8.mp hm
   have e2:=congrArg (fun z:List (Option Int)=>z[n]?) e
   simp only[df3,hn,Option.map_some] at e2
   have e3:=Option.some.inj e2
   unfold x5 at e3
   rw[di4] at e3
   exact e3
 · rw[dg0 (by rw[h.len];omega),dg0 (by rw[h'.len];omega)]
theorem bp5 {p:List Int}(t:l9 p){x:Int}(hx:In p x):∃r∈j7 p p.length,x∈r:=by
 have:=(D8 t).all x hx.1 hx.2
 obtain ⟨r,hr,h⟩:=dg8.mp this
 exact ⟨r,hr,h⟩
theorem JO.mem {p:List Int}{m:Nat}{J r0:List Int}{Rs:List (List Int)}(h:JO m (j7 p p.length) J Rs)(h0:r0∈Rs){x:Int}(hx:x∈r0):x∈J:=by
 obtain ⟨l,k,l0,hm,c,hl,d1,hj,_⟩:=h
 exact (hj.perm l0 c).mem_iff.mpr (dg8.mpr ⟨r0,h0,hx⟩)
theorem ao1 {p:List Int}{m:Nat}{r:List Int}(t:l9 p)(h:ac6 p m r){x:Int}(hx:In p x){l:Nat}(hl:B8 p x l):∃d,M6 l m d∧B8 r x (d*l):=by
 obtain ⟨r0,hr,hxr⟩:=bp5 t hx
 obtain ⟨J,Rs,a1,a2,a3⟩:=h.2 r0 hr
 have hxJ:=a1.mem a2 hxr
 obtain ⟨l',k,l0,hm,c,hl',d1,hj,_,lr,_⟩:=a1
 have e:l'=l:=by
   rw[←hl' r0 a2,←ak8 t (D8 t) r0 hr x hxr,M5 hl]
 subst e
 refine ⟨Rs.length,lr,?_⟩
 obtain ⟨i,hi⟩:=dh8.mp hxJ
 have il:=(df1.mp hi).1
 have:x=J.getD i 0:=by rw[df5,hi];rfl
 rw[this,←hj.len]
 exact a3.per il
end Mth
namespace Mth
theorem cs9 {n c:Int}(hn:1≤n)(hc:0≤c):∃mx,(if (if n < c then n else c) > 1 then (if n < c then n else c) else (1:Int))=mx∧1≤mx∧mx≤n:=by
 refine ⟨_,rfl,?_⟩
 split<;>split at* <;>omega
structure U0 (p:List Int)(h:Nat):Prop where
 pos:0 < h
 up:∀x,In p x→K8 p x∣h
 least:∀g,(∀x,In p x→K8 p x∣g)→h∣g
theorem U0.uniq {p:List Int}{a b:Nat}(x:U0 p a)(y:U0 p b):a=b:=Nat.dvd_antisymm (x.least b y.up) (y.least a x.up)
theorem cb6 {p:List Int}(t:l9 p){ls:List Nat}{h:Nat}(e:ls=(j7 p p.length).map du4)(x:P3 ls h):U0 p h:=by
 subst e
 refine ⟨x.pos,fun y hy=> ?_,fun g hg=>x.least g fun l hl=> ?_⟩
 · obtain ⟨r,hr,hxr⟩:=bp5 t hy
   rw[ak8 t (D8 t) r hr y hxr]
   exact x.up _ (df9.mpr ⟨r,hr,rfl⟩)
 · obtain ⟨r,hr,rfl⟩:=df9.mp hl
   obtain ⟨y,L,hy,pr,er,_⟩:=(D8 t).ring r hr
   have hm:y∈r:=by rw[er];exact x6.mpr ⟨0,pr.pos,rfl⟩
   rw[←ak8 t (D8 t) r hr y hm]
   exact hg y hy
theorem bu7 {p r q:List Int}{m h g:Nat}(tp:l9 p)(tq:l9 q)(ro:ac6 p m r)(hr:U0 r h)(hq:y6 q (m:Int) p)(hg:U0 q g):h∣g:=by
 refine hr.least g fun x hx=> ?_
 have hxp:In p x:=by unfold In at*;rw[←ro.1];exact hx
 have hxq:In q x:=by unfold In at*;rw[←hq.1];exact hxp
 obtain ⟨L,hL⟩:=ai1 tq hxq
 have hl:=aw9 tq hq hxq hL (m:=m) (by rw[dy4];rfl)
 obtain ⟨d,lr,pr⟩:=ao1 tp ro hxp hl
 rw[M5 pr]
 have gp:0 < dg6 L m:=do7 _ hL.pos
 have hd:d∣dg6 L m:=lr.least _ (dm9 L m) (dp6 gp)
 have:d*(L/dg6 L m)∣L:=by
   have e:L=dg6 L m*(L/dg6 L m):=(dq8 (dq6 L m)).symm
   have h2:=Nat.mul_dvd_mul_right hd (L/dg6 L m)
   rw[←e] at h2
   exact h2
 exact Nat.dvd_trans this (by have:=hg.up x hxq;rw[M5 hL] at this;exact this)
end Mth
namespace L2
open PySem PySem.Spec PyProof.Rows
def KI (kvs:List (n6×V))(ns:List Int):Prop:=kvs.map (·.1)=ns.map Sum.inl
theorem bh4:∀{kvs:List (n6×V)} {ns:List Int},KI kvs ns→∀k:Int,k∈ns↔∃v,A9 kvs (Sum.inl k:n6)=some v
 |[],[],_,k=>⟨fun h=>by simp at h,fun ⟨v,h⟩=>by cases h⟩
 |[],n::ns,h,_=>by unfold KI at h;simp at h
 |p::kvs,[],h,_=>by unfold KI at h;simp at h
 |p::kvs,n::ns,h,k=>by
  unfold KI at h
  rw[dj0,dj0] at h
  injection h with h1 h2
  by_cases e:n=k
  · have:p.1=(Sum.inl k:n6):=by rw[h1,e]
    rw[S4 this]
    exact ⟨fun _=>⟨_,rfl⟩,fun _=>by rw[e];exact df4⟩
  · have:¬p.1=(Sum.inl k:n6):=fun z=>e (by rw[h1] at z;exact Sum.inl.inj z)
    rw[P7 this]
    constructor
    · intro hm
      rcases dg9.mp hm with z|z
      · exact absurd z.symm e
      · exact (bh4 (show KI kvs ns from h2) k).mp z
    · intro hv
      exact df6 _ ((bh4 (show KI kvs ns from h2) k).mpr hv)
theorem cm4 {kvs:List (n6×V)}{ns:List Int}(h:KI kvs ns){k:Int}(hk:k∉ns):A9 kvs (Sum.inl k:n6)=none:=by
 cases e:A9 kvs (Sum.inl k:n6) with
 |none=>rfl
 |some v=>exact absurd ((bh4 h k).mpr ⟨v,e⟩) hk
end L2
namespace Mth
theorem bb2 {l m d:Nat}(d1:0 < d):dg6 (d*l) m=d↔d∣m∧dg6 l (m/d)=1:=by
 constructor
 · intro h
   have hd:d∣m:=h▸dm9 (d*l) m
   refine ⟨hd,?_⟩
   have e:m=d*(m/d):=(dq8 hd).symm
   have h2:dg6 (d*l) (d*(m/d))=d:=by rw[←e];exact h
   rw[dx7] at h2
   exact dq2 d1 (by rw[h2,dt4])
 · rintro ⟨hd,h⟩
   have e:m=d*(m/d):=(dq8 hd).symm
   rw[e,dx7,h,dt4]
end Mth
namespace L2
open PySem PySem.Spec PyProof.Rows
def bh5 (a b:Sp):Sp:=fun vs H Q E=>a vs H Q E∨b vs H Q E
section
variable {P:Program} {w:World} {K:PySem.W.Frag} {mg:Str→Option Value} {base:Heap} {CX:CXT} {k:Nat} {f:Addr} {fd:FuncData} {ps:List Str} {a b:Sp}
theorem cy7 (x:o4 P w K mg base CX k f fd ps a)(y:o4 P w K mg base CX k f fd ps b):o4 P w K mg base CX k f fd ps (bh5 a b):=
 ⟨fun vs H Q E h=>h.elim (x.len vs H Q E) (y.len vs H Q E),fun A outer s H args us vs Q E r e bt v h=>h.elim (x.run A outer s H args us vs Q E r e bt v) (y.run A outer s H args us vs Q E r e bt v)⟩
theorem ck3 {x:Str}(c:j9 P w K mg base x k ps (bh5 a b)):j9 P w K mg base x k ps a:=by
 obtain ⟨f,fd,h1,h2,h3,h4⟩:=c
 exact ⟨f,fd,h1,h2,h3,h4.imp fun vs H Q E z=> .inl z⟩
end
end L2
namespace L2
open PySem PySem.Spec PyProof.Rows
section
variable {X:Cx}
theorem cg4 {e:Expr}:PE X e (fun _ _ _=>False):=fun _ _ _ _ _ _ h=>h.elim
end
end L2
namespace HT
open PySem PySem.Spec PyProof.Rows
open PySem.AutoSeq1
open PySem.MeetsSeq PySem.MeetsSeq2 PySem.MeetsSeq3
theorem ax0 {xs:Array Value}{i:Nat}{x:Value}{r:List Value}(h:xs.toList.drop i=x::r):xs[((i:Nat):Int).toNat]? =some x∧xs.toList.drop (i+1)=r∧i < xs.size:=by
 have hl:i < xs.size:=by
   rcases dt9 i xs.size with z|z
   · exact z
   · rw[List.drop_of_length_le (by simpa using z)] at h;cases h
 refine ⟨?_,?_,hl⟩
 · rw[di4,←dj8]
   have:=congrArg List.head? h
   rw[List.head?_drop] at this
   simpa using this
 · have:=congrArg List.tail h
   rw[List.tail_drop] at this
   exact this
theorem bh6 {xs:Array Value}{i:Nat}(h:xs.toList.drop i=[]):xs[((i:Nat):Int).toNat]? =none∧xs.size≤i:=by
 have hl:xs.size≤i:=by
   have:=congrArg du4 h
   rw[di0] at this
   simp at this;omega
 exact ⟨by rw[di4];simp [hl],hl⟩
abbrev bu8 (h:Heap)(a:Addr)(xs:Array Value)(n:Nat):Prop:=h.get? a=some {cls:= .type "list",dict:=none,data:= .seq xs n,slots:= #[]}
theorem cm5 (l b:Addr)(items items2:Array Value)(n n2:Nat):∀(ns ms:List Int) (vs ws:List Value) (i:Nat),IntsAre vs ns→IntsAre ws ms→items.toList.drop i=vs→items2.toList.drop i=ws→i≤items.size→i≤items2.size→
   Meets (Builtin.«list.__eq__.loop» ⟨[.ref l,.ref b,rawInt i,rawInt 0],[]⟩)
     (fun _ R s=>(bu8 s.heap l items n∧bu8 s.heap b items2 n2)∧R (.ok (.ret (.bool (ak3 ns ms)))) s):=by
 intro ns
 induction ns with
 |nil=>
  intro ms vs ws i hv hw e1 e2 i1 i2 prog w A R s h
  obtain ⟨h0,g0,d0,k0,o0⟩:=s
  obtain ⟨⟨hx,hy⟩,h⟩:=h
  cases hv
  obtain ⟨g1,z1⟩:=bh6 e1
  wp_walk using wpAny_loadPart' hx,wpAny_loadPart' hy
  rw[g1]
  cases hw with
  |nil=>
   obtain ⟨g2,z2⟩:=bh6 e2
   wp_walk using wpAny_loadPart' hx,wpAny_loadPart' hy
   show R (.ok (.ret (.bool (decide (items.size < items2.size))))) _
   rw[decide_eq_false (by omega)]
   exact h
  |cons c u hw'=>
   obtain ⟨g2,_,z2⟩:=ax0 e2
   wp_walk using wpAny_loadPart' hx,wpAny_loadPart' hy
   show R (.ok (.ret (.bool (decide (items.size < items2.size))))) _
   rw[decide_eq_true (by omega)]
   exact h
 |cons a ns ih=>
  intro ms vs ws i hv hw e1 e2 i1 i2 prog w A R s h
  obtain ⟨h0,g0,d0,k0,o0⟩:=s
  obtain ⟨⟨hx,hy⟩,h⟩:=h
  cases hv with
  |cons _ t hv'=>
   obtain ⟨g1,d1,z1⟩:=ax0 e1
   wp_walk using wpAny_loadPart' hx,wpAny_loadPart' hy
   rw[g1]
   cases hw with
   |nil=>
    obtain ⟨g2,z2⟩:=bh6 e2
    rw[g2]
    wp_walk using wpAny_loadPart' hx,wpAny_loadPart' hy
    show R (.ok (.ret (.bool (decide (items.size < items2.size))))) _
    rw[decide_eq_false (by omega)]
    exact h
   |cons c u hw'=>
    obtain ⟨g2,d2,z2⟩:=ax0 e2
    rw[g2]
    rw[bt1] at h
    obtain ⟨e,he,hiff⟩:=ce7 A.in1 ⟨h0,g0,d0,k0,o0⟩ a t c u
    refine wpAny_bind (he prog w _ _ ?_)
    cases e with
    |true=>
     rw[if_pos (hiff.mp rfl)] at h
     wp_walk
     rw[show ((i:Int)+1)=((i+1:Nat):Int) from rfl]
     refine ⟨plainId_quiet plain_eq_loop _,codeAny_builtin entry_eq_loop ?_⟩
     (rw[Around.under_plainId plain_eq_loop _];exact ih _ _ _ (i+1) hv' hw' d1 d2 (by omega) (by omega) prog w A R _ ⟨⟨hx,hy⟩,h⟩)
    |false=>
     rw[if_neg (fun q=>absurd (hiff.mpr q) dh5)] at h
     have less:=ce8 A.in1 ⟨h0,g0,d0,k0,o0⟩ a t c u prog w
     wp_walk using wpAny_loadPart' hx,wpAny_loadPart' hy
     rw[g1,g2]
     wp_walk using less
     exact h
theorem ct0 (l b:Addr)(items items2:Array Value)(n n2:Nat)(ns ms:List Int)(hi:IntsAre items.toList ns)(hj:IntsAre items2.toList ms):
   Meets (Builtin.«list.__lt__» ⟨[.ref l,.ref b],[]⟩)
     (fun _ R s=>(bu8 s.heap l items n∧bu8 s.heap b items2 n2)∧R (.ok (.ret (.bool (ak3 ns ms)))) s):=by
 intro prog w A R s h
 obtain ⟨h0,g0,d0,k0,o0⟩:=s
 obtain ⟨⟨hx,hy⟩,h⟩:=h
 have sub:=AutoSeq1.sub_list_list
 wp_walk using wpAny_loadPart' hx,wpAny_loadPart' hy
 refine ⟨plainId_quiet plain_eq_loop _,codeAny_builtin entry_eq_loop ?_⟩
 (rw[Around.under_plainId plain_eq_loop _];exact cm5 l b items items2 n n2 ns ms _ _ 0 hi hj rfl rfl (dh2 _) (dh2 _) prog w A R _ ⟨⟨hx,hy⟩,h⟩)
end HT
namespace L2
open PySem PySem.Spec PyProof.Rows
section
variable {prog:Program} {w:World} {A:Around} {E:Value→Shared→Prop} {s:Shared}
def Z8 (h:Heap)(v:Value)(ns:List Int):Prop:=∃p xs n,v= .ref p∧HT.bu8 h p xs n∧IntsAre xs.toList ns
theorem at4 {α β:Type}{f:α→Sem β}(g:α→β):∀{vs:List α} {Q:List β→Shared→Prop},(∀v,v∈vs→∀R:β→Shared→Prop,R (g v) s→wpAny (model prog w) A (f v) R E s)→Q (vs.map g) s→wpAny (model prog w) A (vs.mapM f) Q E s
 |[],Q,_,q=>by rw[List.mapM_nil];exact wpAny_pure q
 |v::vs,Q,k,q=>by
  rw[List.mapM_cons]
  refine wpAny_bind (k v (df4 ..) _ ?_)
  refine wpAny_bind (at4 g (fun u hu=>k u (df6 _ hu)) ?_)
  exact wpAny_pure q
theorem bh7 {α β:Type}{f:α→Sem β}(g:α→β){vs:List α}{Q:Array β→Shared→Prop}(k:∀v,v∈vs→∀R:β→Shared→Prop,R (g v) s→wpAny (model prog w) A (f v) R E s)(q:Q (vs.map g).toArray s):wpAny (model prog w) A (vs.toArray.mapM f) Q E s:=by
 rw[List.mapM_toArray,map_eq_pure_bind]
 exact wpAny_bind (at4 g k (wpAny_pure q))
theorem bu9 (v:Value):firstOfTuple' v=(do
 if (←typeOf v)!= .type "tuple" then return none
 return (←Builtin.List.listItems v)[0]?):=rfl
theorem cb7 {v:Value}{ns:List Int}(r:Z8 s.heap v ns){Q:Option Value→Shared→Prop}(k:Q none s):wpAny (model prog w) A (firstOfTuple' v) Q E s:=by
 obtain ⟨p,xs,n,rfl,ox,ix⟩:=r
 rw[bu9]
 refine wpAny_bind (wpAny_typeOf (T:="list") ⟨_,ox,rfl⟩ ?_)
 rw[if_pos (by decide)]
 exact wpAny_pure k
theorem cg5 {v:Value}{ns:List Int}(r:Z8 s.heap v ns){Q:Value→Shared→Prop}(k:Q (.type "list") s):wpAny (model prog w) A (typeOf v) Q E s:=by
 obtain ⟨p,xs,n,rfl,ox,ix⟩:=r
 exact wpAny_typeOf (T:="list") ⟨_,ox,rfl⟩ k
theorem cb8 {v₁ v₂:Value}{vs:List Value}{Q:SortKind→Shared→Prop}(r:∀v,v∈v₁::v₂::vs→∃ns,Z8 s.heap v ns)(k:Q oneType' s):wpAny (model prog w) A (keyKind' (v₁::v₂::vs).toArray) Q E s:=by
 rw[keyKind'_eq]
 refine wpAny_bind (bh7 (fun _=>none) (fun v hv R q=>by obtain ⟨ns,z⟩:=r v hv;exact cb7 z q) ?_)
 rw[if_neg (by simp),if_neg (by simp)]
 rw[oneTypeOnly'_eq]
 refine wpAny_bind (wpAny_bind (bh7 (fun _=>Value.type "list") (fun v hv R q=>by obtain ⟨ns,z⟩:=r v hv;exact cg5 z q) ?_))
 have h0:(List.map (fun _=>Value.type "list") (v₁::v₂::vs)).toArray[0]? =some (Value.type "list"):=by simp
 rw[h0]
 dsimp only
 rw[if_pos (by
   simp only[List.all_toArray,List.all_map,dp2]
   intro _ _
   rfl)]
 exact wpAny_pure (wpAny_pure k)
theorem bb3 (vs:List Value):(pairsOf vs).map (·.2)=vs.toArray:=by
 apply Array.toList_inj.mp
 rw[dx8,pairsOf_toList]
 exact List.map_snd_zip (df2 _)
end
end L2
namespace TS
local macro_rules|`(tactic|omega)=>`(tactic|lia)
open PySem PyProof.Rows
section
variable (rk:Keyed→Nat)
def R (xs:Array Keyed)(i:Nat):Nat:=match xs[i]? with
 |some p=>rk p
 |none=>0
def Up (xs:Array Keyed)(lo hi:Nat):Prop:=∀i j,lo≤i→i≤j→j < hi→R rk xs i≤R rk xs j
def ax1 (xs:Array Keyed)(lo hi:Nat):Prop:=∀i j,lo≤i→i≤j→j < hi→R rk xs j≤R rk xs i
end
def A0 (xs ys:Array Keyed)(lo hi:Nat):Prop:=∀k,k < lo∨hi≤k→ys[k]? =xs[k]?
theorem A0.refl (xs:Array Keyed)(lo hi:Nat):A0 xs xs lo hi:=fun _ _=>rfl
theorem A0.trans {xs ys zs:Array Keyed}{lo hi:Nat}(h:A0 xs ys lo hi)(g:A0 ys zs lo hi):A0 xs zs lo hi:=fun k hk=>(g k hk).trans (h k hk)
theorem A0.wide {xs ys:Array Keyed}{lo hi lo' hi':Nat}(h:A0 xs ys lo hi)(h1:lo'≤lo)(h2:hi≤hi'):A0 xs ys lo' hi':=fun k hk=>h k (by omega)
section
variable {rk:Keyed→Nat}
theorem ax2 {xs ys:Array Keyed}{i j:Nat}(h:xs[i]? =ys[j]?):R rk xs i=R rk ys j:=by unfold R;rw[h]
theorem A0.R {xs ys:Array Keyed}{lo hi k:Nat}(h:A0 xs ys lo hi)(hk:k < lo∨hi≤k):TS.R rk ys k=TS.R rk xs k:=ax2 (h k hk)
theorem A0.up {xs ys:Array Keyed}{lo hi a b:Nat}(h:A0 xs ys lo hi)(u:Up rk xs a b)(hk:b≤lo∨hi≤a):Up rk ys a b:=fun i j h1 h2 h3=>by
 rw[h.R (by omega),h.R (by omega)];exact u i j h1 h2 h3
theorem bh8 {xs:Array Keyed}{src d:Nat}(hs:src < xs.size)(hd:d≤src)(k:Nat):
   R rk (bubble xs src d) k=if k=src - d then R rk xs src else if src - d < k∧k≤src then R rk xs (k - 1) else R rk xs k:=by
 have e:=getElem?_bubble hs d hd k
 split
 · rename_i h;rw[if_pos h] at e;exact ax2 e
 · rename_i h
   rw[if_neg h] at e
   split
   · rename_i h2;rw[if_pos h2] at e;exact ax2 e
   · rename_i h2;rw[if_neg h2] at e;exact ax2 e
theorem bn2 {xs:Array Keyed}{src d lo hi:Nat}(hs:src < xs.size)(hd:d≤src)(h1:lo≤src - d)(h2:src < hi):A0 xs (bubble xs src d) lo hi:=fun k hk=>by
 rw[getElem?_bubble hs d hd k,if_neg (by omega),if_neg (by omega)]
theorem ao2 {xs:Array Keyed}{i j:Nat}(hj:j≤xs.size)(k:Nat):R rk (mirror xs i j ((j - i)/2)) k=if i≤k∧k < j then R rk xs (i+j - 1 - k) else R rk xs k:=by
 have e:=getElem?_mirror_all (i:=i) hj k
 split
 · rename_i h;rw[if_pos h] at e;exact ax2 e
 · rename_i h;rw[if_neg h] at e;exact ax2 e
theorem T8 {xs:Array Keyed}{i j lo hi:Nat}(hj:j≤xs.size)(h1:lo≤i)(h2:j≤hi):A0 xs (mirror xs i j ((j - i)/2)) lo hi:=fun k hk=>by
 rw[getElem?_mirror_all hj k,if_neg (by omega)]
theorem L6 {xs:Array Keyed}{i j:Nat}(hj:j≤xs.size)(h:∀k,i≤k→k < j→R rk xs k=R rk xs (j - 1))(k:Nat):R rk (mirror xs i j ((j - i)/2)) k=R rk xs k:=by
 rw[ao2 hj]
 split
 · rw[h _ (by omega) (by omega),h k (by omega) (by omega)]
 · rfl
end
structure Bs (a0:Array Keyed)(κ:SortKind)(st:SortSt):Prop where
 perm:(arrOf st).Perm a0
 kind:kindOf st=κ
 ok:failedOf st=none
theorem Bs.size {a0:Array Keyed}{κ:SortKind}{st:SortSt}(h:Bs a0 κ st):(arrOf st).size=a0.size:=h.perm.size_eq
theorem Bs.set {a0:Array Keyed}{κ:SortKind}{st:SortSt}(h:Bs a0 κ st){xs:Array Keyed}(hp:xs.Perm (arrOf st)):Bs a0 κ (setArr st xs):=⟨hp.trans h.perm,h.kind,h.ok⟩
theorem Bs.mem {a0:Array Keyed}{κ:SortKind}{st:SortSt}(h:Bs a0 κ st){i:Nat}(hi:i < a0.size):∃p,(arrOf st)[i]? =some p∧p∈a0.toList:=by
 have hi':i < (arrOf st).size:=by rw[h.size];exact hi
 exact ⟨(arrOf st)[i],getElem?_pos _ i hi',(dn9.mp h.perm).mem_iff.mp (by simp)⟩
section
variable {prog:Program} {w:World} {A:Around} {E:Value→Shared→Prop} {s:Shared}
def Cm (prog:Program)(w:World)(A:Around)(s:Shared)(κ:SortKind)(rk:Keyed→Nat)(a0:Array Keyed):Prop:=
 ∀x∈a0.toList,∀y∈a0.toList,∀(Q:Bool→Shared→Prop) (E':Value→Shared→Prop),Q (decide (rk x < rk y)) s→wpAny (model prog w) A (keyLt' κ x.1 y.1) Q E' s
variable {rk:Keyed→Nat} {a0:Array Keyed} {κ:SortKind}
theorem at5 {st:SortSt}{x y:Keyed}{Q:Option Bool→SortSt→Prop}(C:Cm prog w A s κ rk a0)(hk:kindOf st=κ)(hx:x∈a0.toList)(hy:y∈a0.toList)(h:Q (some (decide (rk x < rk y))) st):
   wpS (model prog w) A E s (lt' x y) Q st:=by
 rw[lt'_eq]
 refine wpS_bind (wpS_get ?_)
 rw[hk]
 exact wpS_bind (wpS_lift (wpAny_attempt (C x hx y hy _ _ ⟨rfl,wpS_pure h⟩)))
theorem W7 {st:SortSt}{i j:Nat}{Q:Option Bool→SortSt→Prop}(C:Cm prog w A s κ rk a0)(B:Bs a0 κ st)(hi:i < a0.size)(hj:j < a0.size)(h:Q (some (decide (R rk (arrOf st) i < R rk (arrOf st) j))) st):
   wpS (model prog w) A E s (ltAt' i j) Q st:=by
 obtain ⟨x,ex,mx⟩:=B.mem hi
 obtain ⟨y,ey,my⟩:=B.mem hj
 rw[ltAt'_eq]
 refine wpS_bind (wpS_get ?_)
 show wpS _ _ _ _ (do let u ←elem' (arrOf st) i;let v ←elem' (arrOf st) j;lt' u v) Q st
 rw[elem'_eq,elem'_eq,ex,ey]
 refine wpS_bind (wpS_pure (wpS_bind (wpS_pure (at5 C B.kind mx my ?_))))
 unfold R at h
 rw[ex,ey] at h
 exact h
theorem at6 {st:SortSt}{i j:Nat}{Q:Unit→SortSt→Prop}(h:Q () (setArr st (mirror (arrOf st) i j ((j - i)/2)))):wpS (model prog w) A E s (reverseSlice' i j) Q st:=by
 rw[reverseSlice'_eq];exact wpS_modify h
theorem ct1 {st:SortSt}{lo n ok:Nat}{Q:Bool→SortSt→Prop}(C:Cm prog w A s κ rk a0)(hn:lo+n≤a0.size)(hok:ok≤n)(B:Bs a0 κ st)(hs:Up rk (arrOf st) lo (lo+ok))
   (h:∀st',Bs a0 κ st'→Up rk (arrOf st') lo (lo+n)→A0 (arrOf st) (arrOf st') lo (lo+n)→pendingOf st'=pendingOf st→Q true st'):wpS (model prog w) A E s (binarySort' lo n ok) Q st:=by
 rw[binarySort'_eq]
 refine wpS_bind (wpS_mono (wpS_forRange (I:=fun k c t=>c=(none,())∧Bs a0 κ t∧Up rk (arrOf t) lo (lo+min k n)∧A0 (arrOf st) (arrOf t) lo (lo+n)∧pendingOf t=pendingOf st)
   (Q:=fun c t=>c=(none,())∧Bs a0 κ t∧Up rk (arrOf t) lo (lo+n)∧A0 (arrOf st) (arrOf t) lo (lo+n)∧pendingOf t=pendingOf st) ?step ?fin ?init) ?post)
 case post=>
   rintro c t ⟨rfl,B',u,k,p⟩
   exact wpS_pure (h t B' u k p)
 case init=>
   refine ⟨rfl,B,fun i j h1 h2 h3=> ?_,A0.refl _ _ _,rfl⟩
   by_cases z:ok=0
   · have:i=j:=by omega
     rw[this];exact df2 _
   · exact hs i j h1 h2 (by omega)
 case fin=>
   rintro c t ⟨hc,B',u,k,p⟩
   refine ⟨hc,B',?_,k,p⟩
   rwa [show min (max (max ok 1) n) n=n by omega] at u
 case step=>
   rintro k c t h1 h2 ⟨rfl,B',u,kp,pe⟩
   rw[show min k n=k by omega] at u
   refine wpS_bind (wpS_mono (wpS_forRange (I:=fun x c t'=>t'=t∧∃l r,c=(none,l,r)∧l≤r∧r≤k∧r - l≤k - x∧
       (∀i,i < l→R rk (arrOf t) (lo+i)≤R rk (arrOf t) (lo+k))∧(∀i,r≤i→i < k→R rk (arrOf t) (lo+k) < R rk (arrOf t) (lo+i)))
     (Q:=fun c t'=>t'=t∧∃l r,c=(none,l,r)∧l≤k∧(∀i,i < l→R rk (arrOf t) (lo+i)≤R rk (arrOf t) (lo+k))∧(∀i,l≤i→i < k→R rk (arrOf t) (lo+k) < R rk (arrOf t) (lo+i))) ?st2 ?fin2 ?init2) ?post2)
   case init2=>exact ⟨rfl,0,k,rfl,by omega,by omega,by omega,fun i hi=>by omega,fun i h1 h2=>by omega⟩
   case fin2=>
     rintro c t' ⟨rfl,l,r,rfl,a1,a2,a3,a4,a5⟩
     have:l=r:=by omega
     subst this
     exact ⟨rfl,l,l,rfl,a2,a4,a5⟩
   case st2=>
     rintro x c t' _ hx ⟨rfl,l,r,rfl,a1,a2,a3,a4,a5⟩
     dsimp only
     by_cases z:l≥r
     · rw[if_pos z]
       have:l=r:=by omega
       subst this
       exact wpS_pure ⟨rfl,l,l,rfl,a2,a4,a5⟩
     · rw[if_neg z]
       refine wpS_bind (W7 C B' (by omega) (by omega) ?_)
       by_cases y:R rk (arrOf t') (lo+k) < R rk (arrOf t') (lo+(l+r)/2)
       · simp only[y,decide_true,if_true]
         refine wpS_pure ⟨rfl,l,(l+r)/2,rfl,by omega,by omega,by omega,a4,fun i b1 b2=> ?_⟩
         have:=u (lo+(l+r)/2) (lo+i) (by omega) (by omega) (by omega)
         omega
       · simp only[y,decide_false,dn2,if_false]
         refine wpS_pure ⟨rfl,(l+r)/2+1,r,rfl,by omega,by omega,by omega,fun i b1=> ?_,a5⟩
         have:=u (lo+i) (lo+(l+r)/2) (by omega) (by omega) (by omega)
         omega
   case post2=>
     rintro c t' ⟨rfl,l,r,rfl,a1,a2,a3⟩
     show wpS _ _ _ _ (do moveDown' (lo+k) (lo+l);pure (ForInStep.yield (none,()))) _ _
     rw[moveDown'_eq]
     have hz:lo+k < (arrOf t').size:=by rw[B'.size];omega
     refine wpS_bind (wpS_modify (wpS_pure ⟨rfl,B'.set (bubble_perm _ _ _),?_,kp.trans (bn2 hz (by omega) (by omega) (by omega)),pe⟩))
     rw[show min (k+1) n=k+1 by omega]
     intro i j b1 b2 b3
     show R rk (bubble (arrOf t') (lo+k) (lo+k - (lo+l))) i≤R rk (bubble (arrOf t') (lo+k) (lo+k - (lo+l))) j
     have f1:∀i,lo≤i→i < lo+l→R rk (arrOf t') i≤R rk (arrOf t') (lo+k):=fun i c1 c2=>by have:=a2 (i - lo) (by omega);rwa [show lo+(i - lo)=i by omega] at this
     have f2:∀i,lo+l≤i→i < lo+k→R rk (arrOf t') (lo+k) < R rk (arrOf t') i:=fun i c1 c2=>by have:=a3 (i - lo) (by omega) (by omega);rwa [show lo+(i - lo)=i by omega] at this
     rw[bh8 hz (by omega),bh8 hz (by omega),show lo+k - (lo+k - (lo+l))=lo+l by omega]
     repeat' split
     all_goals first
       |(exfalso;omega)
       |exact df2 _
       |exact f1 _ (by omega) (by omega)
       |exact dl0 (f2 _ (by omega) (by omega))
       |exact u _ _ (by omega) (by omega) (by omega)
end
end TS
namespace TS
local macro_rules|`(tactic|omega)=>`(tactic|lia)
open PySem PyProof.Rows
section
variable {prog:Program} {w:World} {A:Around} {E:Value→Shared→Prop} {s:Shared}
variable {rk:Keyed→Nat} {a0:Array Keyed} {κ:SortKind}
theorem cb9 {xs:Array Keyed}{lo x:Nat}(u:Up rk xs lo (lo+x))(x1:1≤x)(h:¬R rk xs (lo+x) < R rk xs (lo+x - 1)):Up rk xs lo (lo+(x+1)):=fun i j h1 h2 h3=>by
 by_cases hj:j < lo+x
 · exact u i j h1 h2 hj
 · have e:j=lo+x:=by omega
   subst e
   by_cases hi:i=lo+x
   · rw[hi];exact df2 _
   · have:=u i (lo+x - 1) h1 (by omega) (by omega)
     omega
theorem Y0 {xs:Array Keyed}{lo x:Nat}(u:ax1 rk xs lo (lo+x))(x1:1≤x)(h:R rk xs (lo+x)≤R rk xs (lo+x - 1)):ax1 rk xs lo (lo+(x+1)):=fun i j h1 h2 h3=>by
 by_cases hj:j < lo+x
 · exact u i j h1 h2 hj
 · have e:j=lo+x:=by omega
   subst e
   by_cases hi:i=lo+x
   · rw[hi];exact df2 _
   · have:=u i (lo+x - 1) h1 (by omega) (by omega)
     omega
def cg6 (a0:Array Keyed)(κ:SortKind)(rk:Keyed→Nat)(lo nrem:Nat)(st:SortSt)(r:Option Nat)(t:SortSt):Prop:=
 ∃m,r=some m∧Bs a0 κ t∧1≤m∧m≤nrem∧Up rk (arrOf t) lo (lo+m)∧A0 (arrOf st) (arrOf t) lo (lo+nrem)∧pendingOf t=pendingOf st
theorem ct2 {st:SortSt}{lo nrem:Nat}(C:Cm prog w A s κ rk a0)(hn:lo+nrem≤a0.size)(n1:1≤nrem)(B:Bs a0 κ st):wpS (model prog w) A E s (countRun' lo nrem) (cg6 a0 κ rk lo nrem st) st:=by
 rw[countRun'_eq]
 refine wpS_bind (wpS_mono (wpS_forRange (I:=fun x c t=>t=st∧c=(none,x)∧Up rk (arrOf st) lo (lo+x))
   (Q:=fun c t=>t=st∧∃n,c=(none,n)∧1≤n∧n≤nrem∧Up rk (arrOf st) lo (lo+n)∧(n=nrem∨R rk (arrOf st) (lo+n) < R rk (arrOf st) (lo+n - 1))) ?step ?fin
   ⟨rfl,rfl,fun i j h1 h2 h3=>by rw[show i=j by omega];exact df2 _⟩) ?post)
 case fin=>
   rintro c t ⟨rfl,rfl,u⟩
   rw[show max 1 nrem=nrem by omega] at u ⊢
   exact ⟨rfl,nrem,rfl,n1,df2 _,u,.inl rfl⟩
 case step=>
   rintro x c t x1 xn ⟨rfl,rfl,u⟩
   dsimp only
   refine wpS_bind (W7 C B (by omega) (by omega) ?_)
   by_cases y:R rk (arrOf t) (lo+x) < R rk (arrOf t) (lo+x - 1)
   · simp only[y,decide_true,if_true]
     exact wpS_pure ⟨rfl,x,rfl,x1,by omega,u,.inr y⟩
   · simp only[y,decide_false,dn2,if_false]
     exact wpS_pure ⟨rfl,rfl,cb9 u x1 y⟩
 case post=>
   rintro c t ⟨rfl,n,rfl,m1,mn,u,hor⟩
   dsimp only
   by_cases z:n=nrem
   · rw[if_pos (by simpa using z)]
     exact wpS_pure ⟨n,rfl,B,m1,mn,u,A0.refl _ _ _,rfl⟩
   · rw[if_neg (by simpa using z)]
     have lt:=hor.resolve_left z
     suffices D:∀t',Bs a0 κ t'→ax1 rk (arrOf t') lo (lo+(n+1))→A0 (arrOf t) (arrOf t') lo (lo+nrem)→pendingOf t'=pendingOf t→wpS (model prog w) A E s _ (cg6 a0 κ rk lo nrem t) t' by
       by_cases g:n > 1
       · rw[if_pos g]
         refine wpS_bind (W7 C B (by omega) (by omega) ?_)
         by_cases y:R rk (arrOf t) lo < R rk (arrOf t) (lo+n - 1)
         · simp only[y,decide_true,if_true]
           exact wpS_pure ⟨n,rfl,B,m1,mn,u,A0.refl _ _ _,rfl⟩
         · simp only[y,decide_false,dn2,if_false]
           have hz:lo+n≤(arrOf t).size:=by rw[B.size];omega
           have all:∀k,lo≤k→k < lo+n→R rk (arrOf t) k=R rk (arrOf t) (lo+n - 1):=fun k h1 h2=>by
             have a1:=u lo k (by omega) h1 h2
             have a2:=u k (lo+n - 1) h1 (by omega) (by omega)
             omega
           refine wpS_bind (at6 (D _ (B.set (mirror_perm _ _ _ _)) ?_ (T8 hz (df2 _) (by omega)) rfl))
           refine Y0 (fun i j h1 h2 h3=> ?_) m1 ?_
           · show R rk (mirror (arrOf t) _ _ _) j≤R rk (mirror (arrOf t) _ _ _) i
             rw[L6 hz all,L6 hz all,all i h1 (by omega),all j (by omega) h3]
             exact df2 _
           · show R rk (mirror (arrOf t) _ _ _) _≤R rk (mirror (arrOf t) _ _ _) _
             rw[L6 hz all,L6 hz all]
             omega
       · rw[if_neg g]
         refine D _ B (Y0 (fun i j h1 h2 h3=>by rw[show i=j by omega];exact df2 _) m1 (by omega)) (A0.refl _ _ _) rfl
     intro t1 B1 d1 k1 p1
     refine wpS_bind (wpS_lift (wpAny_rule ⟨rfl,?_⟩))
     refine wpS_bind (wpS_mono (wpS_forRange (I:=fun x c t'=>∃q,c=(none,x,q)∧Bs a0 κ t'∧ax1 rk (arrOf t') lo (lo+x)∧q+1≤x∧(∀i,lo+x - (q+1)≤i→i < lo+x→R rk (arrOf t') i=R rk (arrOf t') (lo+x - 1))∧A0 (arrOf t) (arrOf t') lo (lo+nrem)∧pendingOf t'=pendingOf t)
       (Q:=fun c t'=>∃x q,c=(none,x,q)∧n+1≤x∧x≤nrem∧Bs a0 κ t'∧ax1 rk (arrOf t') lo (lo+x)∧q+1≤x∧(∀i,lo+x - (q+1)≤i→i < lo+x→R rk (arrOf t') i=R rk (arrOf t') (lo+x - 1))∧A0 (arrOf t) (arrOf t') lo (lo+nrem)∧pendingOf t'=pendingOf t) ?step2 ?fin2
       ⟨0,rfl,B1,d1,by omega,(fun i h1 h2=>by rw[show i=lo+(n+1) - 1 by omega]),k1,p1⟩) ?post2)
     case fin2=>
       rintro c t' ⟨q,rfl,B',d,q1,al,k,p⟩
       rw[show max (n+1) nrem=nrem by omega] at d q1 al ⊢
       exact ⟨nrem,q,rfl,by omega,df2 _,B',d,q1,al,k,p⟩
     case step2=>
       rintro x c t' x1 xn ⟨q,rfl,B',d,q1,al,k,p⟩
       dsimp only
       have hz:lo+x≤(arrOf t').size:=by rw[B'.size];omega
       refine wpS_bind (W7 C B' (by omega) (by omega) ?_)
       by_cases y:R rk (arrOf t') (lo+x) < R rk (arrOf t') (lo+x - 1)
       · simp only[y,decide_true,if_true]
         by_cases g:q > 0
         · rw[if_pos g]
           refine wpS_bind (at6 (wpS_pure ⟨0,rfl,B'.set (mirror_perm _ _ _ _),?_,by omega,(fun i h1 h2=>by rw[show i=lo+(x+1) - 1 by omega]),k.trans (T8 hz (by omega) (by omega)),p⟩))
           refine Y0 (fun i j h1 h2 h3=> ?_) (by omega) ?_
           · show R rk (mirror (arrOf t') _ _ _) j≤R rk (mirror (arrOf t') _ _ _) i
             rw[L6 hz al,L6 hz al]
             exact d i j h1 h2 h3
           · show R rk (mirror (arrOf t') _ _ _) _≤R rk (mirror (arrOf t') _ _ _) _
             rw[L6 hz al,L6 hz al]
             omega
         · rw[if_neg g]
           exact wpS_pure ⟨0,rfl,B',Y0 d (by omega) (by omega),by omega,(fun i h1 h2=>by rw[show i=lo+(x+1) - 1 by omega]),k,p⟩
       · simp only[y,decide_false,dn2,if_false]
         refine wpS_bind (W7 C B' (by omega) (by omega) ?_)
         by_cases g:R rk (arrOf t') (lo+x - 1) < R rk (arrOf t') (lo+x)
         · simp only[g,decide_true,if_true]
           exact wpS_pure ⟨x,q,rfl,x1,by omega,B',d,q1,al,k,p⟩
         · simp only[g,decide_false,dn2,if_false]
           have e:R rk (arrOf t') (lo+x)=R rk (arrOf t') (lo+x - 1):=by omega
           refine wpS_pure ⟨q+1,rfl,B',Y0 d (by omega) (by omega),by omega,fun i h1 h2=> ?_,k,p⟩
           rw[show lo+(x+1) - 1=lo+x by omega]
           by_cases hi:i=lo+x
           · rw[hi]
           · rw[e];exact al i (by omega) (by omega)
     case post2=>
       rintro c t2 ⟨x,q,rfl,x1,xn,B2,d,q1,al,k2,p2⟩
       dsimp only
       have hz:lo+x≤(arrOf t2).size:=by rw[B2.size];omega
       suffices T:∀t3,Bs a0 κ t3→ax1 rk (arrOf t3) lo (lo+x)→A0 (arrOf t) (arrOf t3) lo (lo+nrem)→pendingOf t3=pendingOf t→wpS (model prog w) A E s _ (cg6 a0 κ rk lo nrem t) t3 by
         by_cases g:q > 0
         · rw[if_pos g]
           refine wpS_bind (at6 (T _ (B2.set (mirror_perm _ _ _ _)) (fun i j h1 h2 h3=> ?_) (k2.trans (T8 hz (by omega) (by omega))) p2))
           show R rk (mirror (arrOf t2) _ _ _) j≤R rk (mirror (arrOf t2) _ _ _) i
           rw[L6 hz al,L6 hz al]
           exact d i j h1 h2 h3
         · rw[if_neg g]
           exact T _ B2 d k2 p2
       intro t3 B3 d3 k3 p3
       have hz3:lo+x≤(arrOf t3).size:=by rw[B3.size];omega
       refine wpS_bind (at6 ?_)
       have B4:=B3.set (mirror_perm (arrOf t3) lo (lo+x) ((lo+x - lo)/2))
       have u4:Up rk (arrOf (setArr t3 (mirror (arrOf t3) lo (lo+x) ((lo+x - lo)/2)))) lo (lo+x):=fun i j h1 h2 h3=>by
         show R rk (mirror (arrOf t3) _ _ _) i≤R rk (mirror (arrOf t3) _ _ _) j
         rw[ao2 hz3,ao2 hz3,if_pos (by omega),if_pos (by omega)]
         exact d3 _ _ (by omega) (by omega) (by omega)
       have k4:A0 (arrOf t) (arrOf (setArr t3 (mirror (arrOf t3) lo (lo+x) ((lo+x - lo)/2)))) lo (lo+nrem):=k3.trans (T8 hz3 (df2 _) (by omega))
       have p4:pendingOf (setArr t3 (mirror (arrOf t3) lo (lo+x) ((lo+x - lo)/2)))=pendingOf t:=p3
       generalize setArr t3 (mirror (arrOf t3) lo (lo+x) ((lo+x - lo)/2))=t4 at B4 u4 k4 p4 ⊢
       refine wpS_bind (wpS_mono (wpS_forRange (I:=fun y c t'=>t'=t4∧c=(none,y)∧Up rk (arrOf t4) lo (lo+y)) (Q:=fun c t'=>t'=t4∧∃y,c=(none,y)∧x≤y∧y≤nrem∧Up rk (arrOf t4) lo (lo+y)) ?step3 ?fin3 ⟨rfl,rfl,u4⟩) ?post3)
       case fin3=>
         rintro c t' ⟨rfl,rfl,v⟩
         rw[show max x nrem=nrem by omega] at v ⊢
         exact ⟨rfl,nrem,rfl,xn,df2 _,v⟩
       case step3=>
         rintro y c t' y1 yn ⟨rfl,rfl,v⟩
         dsimp only
         refine wpS_bind (W7 C B4 (by omega) (by omega) ?_)
         by_cases g:R rk (arrOf t') (lo+y) < R rk (arrOf t') (lo+y - 1)
         · simp only[g,decide_true,if_true]
           exact wpS_pure ⟨rfl,y,rfl,y1,by omega,v⟩
         · simp only[g,decide_false,dn2,if_false]
           exact wpS_pure ⟨rfl,rfl,cb9 v (by omega) g⟩
       case post3=>
         rintro c t' ⟨rfl,y,rfl,y1,yn,v⟩
         exact wpS_pure ⟨y,rfl,B4,by omega,yn,v,k4,p4⟩
end
end TS
namespace TS
local macro_rules|`(tactic|omega)=>`(tactic|lia)
open PySem PyProof.Rows
def gal:Bool→Keyed→Array Keyed→Nat→Nat→Nat→StateT SortSt Sem (Option Nat):=sortPriv%PySem.Builtin.gallop
section
variable {prog:Program} {w:World} {A:Around} {E:Value→Shared→Prop} {s:Shared}
variable {rk:Keyed→Nat} {a0:Array Keyed} {κ:SortKind}
def A6 (rk:Keyed→Nat)(left:Bool)(key:Keyed)(arr:Array Keyed)(base i:Nat):Bool:=if left then decide (R rk arr (base+i) < rk key) else !decide (rk key < R rk arr (base+i))
theorem M8 {left:Bool}{key:Keyed}{arr:Array Keyed}{base n i j:Nat}(u:Up rk arr base (base+n))(h1:i≤j)(h2:j < n)(h:A6 rk left key arr base j=true):A6 rk left key arr base i=true:=by
 have:=u (base+i) (base+j) (by omega) (by omega) (by omega)
 unfold A6 at h ⊢
 cases left
 · simp at h ⊢;omega
 · simp at h ⊢;omega
theorem w9 {arr:Array Keyed}{i:Nat}{st:SortSt}{Q:Keyed→SortSt→Prop}{p:Keyed}(h:arr[i]? =some p)(q:Q p st):wpS (model prog w) A E s (elem' arr i) Q st:=by
 rw[elem'_eq,h];exact wpS_pure q
def In0 (a0 arr:Array Keyed):Prop:=∀x∈arr.toList,x∈a0.toList
theorem In0.at {arr:Array Keyed}(h:In0 a0 arr){i:Nat}(hi:i < arr.size):∃p,arr[i]? =some p∧p∈a0.toList:=⟨arr[i],getElem?_pos _ i hi,h _ (by simp)⟩
theorem C7 {arr:Array Keyed}{i:Nat}{p:Keyed}(h:arr[i]? =some p):R rk arr i=rk p:=by unfold R;rw[h]
theorem ac7 {st:SortSt}{left:Bool}{key:Keyed}{arr:Array Keyed}{base n hint:Nat}{Q:Option Nat→SortSt→Prop}(C:Cm prog w A s κ rk a0)(hk:kindOf st=κ)(ia:In0 a0 arr)(ik:key∈a0.toList)(hz:base+n≤arr.size)(hh:hint < n)
   (u:Up rk arr base (base+n)) (h:∀k,k≤n→(∀i,i < k→A6 rk left key arr base i=true)→(∀i,k≤i→i < n→A6 rk left key arr base i=false)→Q (some k) st):wpS (model prog w) A E s (gal left key arr base n hint) Q st:=by
 have by0:∀(i:Nat) (Q':Option Bool→SortSt→Prop),i < n→Q' (some (A6 rk left key arr base i)) st→wpS (model prog w) A E s (do let x ←elem' arr (base+i);if left then lt' x key else return (←lt' key x).map (!·)) Q' st:=by
   intro i Q' hi q
   obtain ⟨p,e,m⟩:=ia.at (show base+i < arr.size by omega)
   refine wpS_bind (w9 e ?_)
   unfold A6 at q
   rw[C7 e] at q
   cases left with
   |true=>
    rw[if_pos rfl] at q ⊢
    exact at5 C hk m ik q
   |false=>
    rw[if_neg (by decide)] at q ⊢
    exact wpS_bind (at5 C hk ik m (wpS_pure q))
 refine wpS_bind (by0 hint _ hh ?_)
 cases hr:A6 rk left key arr base hint with
 |true=>
  dsimp only
  rw[if_pos rfl]
  refine wpS_bind (wpS_mono (wpS_forRange (I:=fun x c t=>t=st∧∃l o,c=(none,l,o)∧l < o∧l < n - hint∧x+1≤o∧A6 rk left key arr base (hint+l)=true)
    (Q:=fun c t=>t=st∧∃l o,c=(none,l,o)∧l < o∧l < n - hint∧A6 rk left key arr base (hint+l)=true∧(n - hint≤o∨A6 rk left key arr base (hint+o)=false)) ?step ?fin ⟨rfl,0,1,rfl,by omega,by omega,by omega,hr⟩) ?post)
  case fin=>
    rintro c t ⟨rfl,l,o,rfl,a1,a2,a3,a4⟩
    exact ⟨rfl,l,o,rfl,a1,a2,a4,.inl (by omega)⟩
  case step=>
    rintro x c t _ xn ⟨rfl,l,o,rfl,a1,a2,a3,a4⟩
    dsimp only
    by_cases z:o≥n - hint
    · rw[if_pos z]
      exact wpS_pure ⟨rfl,l,o,rfl,a1,a2,a4,.inl z⟩
    · rw[if_neg z]
      refine wpS_bind (by0 (hint+o) _ (by omega) ?_)
      cases y:A6 rk left key arr base (hint+o) with
      |true=>
       dsimp only
       rw[if_neg (by decide)]
       exact wpS_pure ⟨rfl,_,_,rfl,by omega,by omega,by omega,y⟩
      |false=>
       dsimp only
       rw[if_pos (by decide)]
       exact wpS_pure ⟨rfl,l,o,rfl,a1,a2,a4,.inr y⟩
  case post=>
    rintro c t ⟨ht,l,o,rfl,a1,a2,a3,a4⟩
    obtain rfl:=ht.symm
    dsimp only
    have le1:hint+l+1≤hint+min o (n - hint):=by omega
    have le2:hint+min o (n - hint)≤n:=by omega
    have b1:∀i,i < hint+l+1→A6 rk left key arr base i=true:=fun i h1=>M8 u (show i≤hint+l by omega) (by omega) a3
    have b2:∀i,hint+min o (n - hint)≤i→i < n→A6 rk left key arr base i=false:=fun i h1 h2=>by
      rcases a4 with a4|a4
      · omega
      · cases y':A6 rk left key arr base i with
        |false=>rfl
        |true=>rw[M8 u (show hint+o≤i by omega) h2 y'] at a4;cases a4
    refine wpS_bind (wpS_mono (wpS_forRange (I:=fun x c t=>t=st∧∃lo hi,c=(none,lo,hi)∧lo≤hi∧hi≤n∧hi - lo≤n - x∧(∀i,i < lo→A6 rk left key arr base i=true)∧(∀i,hi≤i→i < n→A6 rk left key arr base i=false))
      (Q:=fun c t=>t=st∧∃lo hi,c=(none,lo,hi)∧hi≤n∧(∀i,i < hi→A6 rk left key arr base i=true)∧(∀i,hi≤i→i < n→A6 rk left key arr base i=false)) ?stepB ?finB ⟨rfl,_,_,rfl,le1,le2,by omega,b1,b2⟩) ?postB)
    case finB=>
      rintro c t ⟨rfl,lo,hi,rfl,a1,a2,a3,a4,a5⟩
      rw[show lo=hi by omega] at a4
      exact ⟨rfl,lo,hi,rfl,a2,a4,a5⟩
    case stepB=>
      rintro x c t _ xn ⟨rfl,lo,hi,rfl,a1,a2,a3,a4,a5⟩
      dsimp only
      by_cases z:lo≥hi
      · rw[if_pos z]
        rw[show lo=hi by omega] at a4
        exact wpS_pure ⟨rfl,lo,hi,rfl,a2,a4,a5⟩
      · rw[if_neg z]
        refine wpS_bind (by0 (lo+(hi - lo)/2) _ (by omega) ?_)
        cases y:A6 rk left key arr base (lo+(hi - lo)/2) with
        |true=>
         dsimp only
         rw[if_pos rfl]
         exact wpS_pure ⟨rfl,_,_,rfl,by omega,a2,by omega,fun i h1=>M8 u (show i≤lo+(hi - lo)/2 by omega) (by omega) y,a5⟩
        |false=>
         dsimp only
         rw[if_neg (by decide)]
         refine wpS_pure ⟨rfl,_,_,rfl,by omega,by omega,by omega,a4,fun i h1 h2=> ?_⟩
         cases y':A6 rk left key arr base i with
         |false=>rfl
         |true=>rw[M8 u h1 h2 y'] at y;cases y
    case postB=>
      rintro c t ⟨rfl,lo,hi,rfl,a1,a2,a3⟩
      exact wpS_pure (h hi a1 a2 a3)
 |false=>
  dsimp only
  rw[if_neg (by decide)]
  refine wpS_bind (wpS_mono (wpS_forRange (I:=fun x c t=>t=st∧∃l o,c=(none,l,o)∧l < o∧l < hint+1∧x+1≤o∧A6 rk left key arr base (hint - l)=false)
    (Q:=fun c t=>t=st∧∃l o,c=(none,l,o)∧l < o∧l < hint+1∧A6 rk left key arr base (hint - l)=false∧(hint+1≤o∨A6 rk left key arr base (hint - o)=true)) ?step ?fin ⟨rfl,0,1,rfl,by omega,by omega,by omega,hr⟩) ?post)
  case fin=>
    rintro c t ⟨rfl,l,o,rfl,a1,a2,a3,a4⟩
    exact ⟨rfl,l,o,rfl,a1,a2,a4,.inl (by omega)⟩
  case step=>
    rintro x c t _ xn ⟨rfl,l,o,rfl,a1,a2,a3,a4⟩
    dsimp only
    by_cases z:o≥hint+1
    · rw[if_pos z]
      exact wpS_pure ⟨rfl,l,o,rfl,a1,a2,a4,.inl z⟩
    · rw[if_neg z]
      refine wpS_bind (by0 (hint - o) _ (by omega) ?_)
      cases y:A6 rk left key arr base (hint - o) with
      |false=>
       dsimp only
       rw[if_neg (by decide)]
       exact wpS_pure ⟨rfl,_,_,rfl,by omega,by omega,by omega,y⟩
      |true=>
       dsimp only
       rw[if_pos rfl]
       exact wpS_pure ⟨rfl,l,o,rfl,a1,a2,a4,.inr y⟩
  case post=>
    rintro c t ⟨ht,l,o,rfl,a1,a2,a3,a4⟩
    obtain rfl:=ht.symm
    dsimp only
    have le1:hint+1 - min o (hint+1)≤hint - l:=by omega
    have le2:hint - l≤n:=by omega
    have b1:∀i,i < hint+1 - min o (hint+1)→A6 rk left key arr base i=true:=fun i h1=>by
      rcases a4 with a4|a4
      · omega
      · exact M8 u (show i≤hint - o by omega) (by omega) a4
    have b2:∀i,hint - l≤i→i < n→A6 rk left key arr base i=false:=fun i h1 h2=>by
      cases y':A6 rk left key arr base i with
      |false=>rfl
      |true=>rw[M8 u h1 h2 y'] at a3;cases a3
    refine wpS_bind (wpS_mono (wpS_forRange (I:=fun x c t=>t=st∧∃lo hi,c=(none,lo,hi)∧lo≤hi∧hi≤n∧hi - lo≤n - x∧(∀i,i < lo→A6 rk left key arr base i=true)∧(∀i,hi≤i→i < n→A6 rk left key arr base i=false))
      (Q:=fun c t=>t=st∧∃lo hi,c=(none,lo,hi)∧hi≤n∧(∀i,i < hi→A6 rk left key arr base i=true)∧(∀i,hi≤i→i < n→A6 rk left key arr base i=false)) ?stepB ?finB ⟨rfl,_,_,rfl,le1,le2,by omega,b1,b2⟩) ?postB)
    case finB=>
      rintro c t ⟨rfl,lo,hi,rfl,a1,a2,a3,a4,a5⟩
      rw[show lo=hi by omega] at a4
      exact ⟨rfl,lo,hi,rfl,a2,a4,a5⟩
    case stepB=>
      rintro x c t _ xn ⟨rfl,lo,hi,rfl,a1,a2,a3,a4,a5⟩
      dsimp only
      by_cases z:lo≥hi
      · rw[if_pos z]
        rw[show lo=hi by omega] at a4
        exact wpS_pure ⟨rfl,lo,hi,rfl,a2,a4,a5⟩
      · rw[if_neg z]
        refine wpS_bind (by0 (lo+(hi - lo)/2) _ (by omega) ?_)
        cases y:A6 rk left key arr base (lo+(hi - lo)/2) with
        |true=>
         dsimp only
         rw[if_pos rfl]
         exact wpS_pure ⟨rfl,_,_,rfl,by omega,a2,by omega,fun i h1=>M8 u (show i≤lo+(hi - lo)/2 by omega) (by omega) y,a5⟩
        |false=>
         dsimp only
         rw[if_neg (by decide)]
         refine wpS_pure ⟨rfl,_,_,rfl,by omega,by omega,by omega,a4,fun i h1 h2=> ?_⟩
         cases y':A6 rk left key arr base i with
         |false=>rfl
         |true=>rw[M8 u h1 h2 y'] at y;cases y
    case postB=>
      rintro c t ⟨rfl,lo,hi,rfl,a1,a2,a3⟩
      exact wpS_pure (h hi a1 a2 a3)
end
end TS
namespace TS
local macro_rules|`(tactic|omega)=>`(tactic|lia)
open PySem PyProof.Rows
section
variable {rk:Keyed→Nat}
def Le (rk:Keyed→Nat)(x y:Keyed):Prop:=rk x≤rk y
section
variable {le:Keyed→Keyed→Prop}
def C8 (le:Keyed→Keyed→Prop)(l:List Keyed):Prop:=l.Pairwise le
structure Mi (le:Keyed→Keyed→Prop)(a b out:List Keyed)(i j:Nat):Prop where
 pm:out.Perm (a.take i++b.take j)
 up:C8 le out
 ba:∀x∈out,∀y∈a.drop i,le x y
 bb:∀x∈out,∀y∈b.drop j,le x y
theorem Q6 {l m:List Keyed}:C8 le (l++m)↔C8 le l∧C8 le m∧∀x∈l,∀y∈m,le x y:=List.pairwise_append
theorem Y1 {l:List Keyed}(h:C8 le l)(i:Nat):C8 le (l.drop i):=List.Pairwise.sublist (List.drop_sublist i l) h
theorem al0 {l:List Keyed}{i:Nat}{x:Keyed}(h:l[i]? =some x):l.drop i=x::l.drop (i+1):=by
 obtain ⟨hi,e⟩:=df1.mp h
 rw[dl6 hi,e]
theorem ax3 {l:List Keyed}{i:Nat}{x:Keyed}(h:l[i]? =some x):l.take (i+1)=l.take i++[x]:=by rw[List.take_succ,h];rfl
theorem S9 (rf:∀x,le x x){l:List Keyed}(s:C8 le l){i:Nat}{x:Keyed}(h:l[i]? =some x):∀y∈l.drop i,le x y:=fun y hy=>by
 have:=Y1 s i
 rw[al0 h] at this hy
 rcases dg9.mp hy with e|e
 · rw[e];exact rf _
 · exact (List.pairwise_cons.mp this).1 y e
theorem Mi.pushA (rf:∀x,le x x){a b out:List Keyed}{i j:Nat}{x:Keyed}(h:Mi le a b out i j)(sa:C8 le a)(hx:a[i]? =some x)(hb:∀y∈b.drop j,le x y):Mi le a b (out++[x]) (i+1) j:=by
 have da:=al0 hx
 have mx:x∈a.drop i:=by rw[da];exact df4
 refine ⟨?_,?_,?_,?_⟩
 · rw[ax3 hx,dh4]
   refine (h.pm.append_right [x]).trans ?_
   rw[dh4]
   exact List.Perm.append_left _ dm4
 · refine Q6.mpr ⟨h.up,dr2 _ _,fun y hy z hz=> ?_⟩
   rw[dg3.mp hz]
   exact h.ba y hy x mx
 · intro y hy z hz
   have hz':z∈a.drop i:=by rw[da];exact df6 _ hz
   rcases dg2.mp hy with e|e
   · exact h.ba y e z hz'
   · rw[dg3.mp e]
     exact S9 rf sa hx z hz'
 · intro y hy z hz
   rcases dg2.mp hy with e|e
   · exact h.bb y e z hz
   · rw[dg3.mp e]
     exact hb z hz
theorem Mi.pushB (rf:∀x,le x x){a b out:List Keyed}{i j:Nat}{x:Keyed}(h:Mi le a b out i j)(sb:C8 le b)(hx:b[j]? =some x)(ha:∀y∈a.drop i,le x y):Mi le a b (out++[x]) i (j+1):=by
 have db:=al0 hx
 have mx:x∈b.drop j:=by rw[db];exact df4
 refine ⟨?_,?_,?_,?_⟩
 · rw[ax3 hx,←dh4]
   exact h.pm.append_right [x]
 · refine Q6.mpr ⟨h.up,dr2 _ _,fun y hy z hz=> ?_⟩
   rw[dg3.mp hz]
   exact h.bb y hy x mx
 · intro y hy z hz
   rcases dg2.mp hy with e|e
   · exact h.ba y e z hz
   · rw[dg3.mp e]
     exact ha z hz
 · intro y hy z hz
   have hz':z∈b.drop j:=by rw[db];exact df6 _ hz
   rcases dg2.mp hy with e|e
   · exact h.bb y e z hz'
   · rw[dg3.mp e]
     exact S9 rf sb hx z hz'
theorem bh9 {l:List Keyed}{i k:Nat}{x:Keyed}(h:l[i+k]? =some x):(l.take (i+(k+1))).drop i=(l.take (i+k)).drop i++[x]:=by
 have hl:=(df1.mp h).1
 rw[show i+(k+1)=(i+k)+1 by omega,ax3 h,List.drop_append_of_le_length (by rw[dg7];omega)]
theorem Mi.manyA (rf:∀x,le x x){a b out:List Keyed}{i j:Nat}(h:Mi le a b out i j)(sa:C8 le a):∀k,i+k≤a.length→(∀n x,n < k→a[i+n]? =some x→∀y∈b.drop j,le x y)→Mi le a b (out++(a.take (i+k)).drop i) (i+k) j
 |0,_,_=>by rw[dn4,dp3 (by rw[dg7];omega),dh7];exact h
 |k+1,hl,hc=>by
  have e:a[i+k]? =some a[i+k]:=df0 (by omega)
  rw[bh9 e,←dh4,show i+(k+1)=i+k+1 by omega]
  exact (Mi.manyA rf h sa k (by omega) fun n x hn=>hc n x (by omega)).pushA rf sa e (hc k _ (by omega) e)
theorem Mi.manyB (rf:∀x,le x x){a b out:List Keyed}{i j:Nat}(h:Mi le a b out i j)(sb:C8 le b):∀k,j+k≤b.length→(∀n x,n < k→b[j+n]? =some x→∀y∈a.drop i,le x y)→Mi le a b (out++(b.take (j+k)).drop j) i (j+k)
 |0,_,_=>by rw[dn4,dp3 (by rw[dg7];omega),dh7];exact h
 |k+1,hl,hc=>by
  have e:b[j+k]? =some b[j+k]:=df0 (by omega)
  rw[bh9 e,←dh4,show j+(k+1)=j+k+1 by omega]
  exact (Mi.manyB rf h sb k (by omega) fun n x hn=>hc n x (by omega)).pushB rf sb e (hc k _ (by omega) e)
def Mg (le:Keyed→Keyed→Prop)(a b r:List Keyed):Prop:=r.Perm (a++b)∧C8 le r
theorem ai4 (a b out:List Keyed)(i j:Nat)(h:out.Perm (a.take i++b.take j)):(out++a.drop i++b.drop j).Perm (a++b):=by
 have e1:=(h.append_right (a.drop i)).append_right (b.drop j)
 refine e1.trans ?_
 have e2:((a.take i++b.take j)++a.drop i).Perm (a++b.take j):=by
   rw[dh4]
   refine (List.Perm.append_left _ dm4).trans ?_
   rw[←dh4,dk5]
 refine (e2.append_right _).trans ?_
 rw[dh4,dk5]
theorem Mi.doneB {a b out:List Keyed}{i j:Nat}(h:Mi le a b out i j)(sa:C8 le a)(hj:b.length≤j):Mg le a b (out++a.drop i++b.drop j):=by
 refine ⟨ai4 a b out i j h.pm,?_⟩
 rw[dp3 hj,dh7]
 exact Q6.mpr ⟨h.up,Y1 sa i,h.ba⟩
theorem Mi.doneA {a b out:List Keyed}{i j:Nat}(h:Mi le a b out i j)(sb:C8 le b)(hi:a.length≤i):Mg le a b (out++a.drop i++b.drop j):=by
 refine ⟨ai4 a b out i j h.pm,?_⟩
 rw[dp3 hi,dh7]
 exact Q6.mpr ⟨h.up,Y1 sb j,h.bb⟩
theorem Mi.last {a b out:List Keyed}{i j:Nat}(h:Mi le a b out i j)(sa:C8 le a)(sb:C8 le b)(C1:∀x∈b.drop j,∀y∈a.drop i,le x y):Mg le a b (out++b.drop j++a.drop i):=by
 constructor
 · refine List.Perm.trans ?_ (ai4 a b out i j h.pm)
   rw[dh4,dh4]
   exact List.Perm.append_left _ dm4
 · rw[dh4]
   refine Q6.mpr ⟨h.up,Q6.mpr ⟨Y1 sb j,Y1 sa i,C1⟩,fun x hx y hy=> ?_⟩
   rcases dg2.mp hy with e|e
   · exact h.bb x hx y e
   · exact h.ba x hx y e
end
theorem da2 {xs:Array Keyed}(u:Up rk xs 0 xs.size):C8 (Le rk) xs.toList:=by
 refine di3.mpr fun i j hi hj hij=> ?_
 have:=u i j (dh2 _) (by omega) (by simpa using hj)
 rw[C7 (p:=xs.toList[i]) (by simp),C7 (p:=xs.toList[j]) (by simp)] at this
 exact this
theorem Z9 {xs:Array Keyed}(h:C8 (Le rk) xs.toList):Up rk xs 0 xs.size:=fun i j _ hij hj=>by
 rcases dw6 hij with z|z
 · have:=di3.mp h i j (by simp;omega) (by simpa using hj) z
   rw[C7 (i:=i) (p:=xs.toList[i]'(by simp;omega)) (by simp),C7 (i:=j) (p:=xs.toList[j]'(by simpa using hj)) (by simp)]
   exact this
 · rw[z];exact df2 _
end
end TS
namespace TS
local macro_rules|`(tactic|omega)=>`(tactic|lia)
open PySem PyProof.Rows
def mLo:Array Keyed→Array Keyed→StateT SortSt Sem (Array Keyed):=sortPriv%PySem.Builtin.mergeLo
section
variable {prog:Program} {w:World} {A:Around} {E:Value→Shared→Prop} {s:Shared}
variable {rk:Keyed→Nat} {a0:Array Keyed} {κ:SortKind}
structure G4 (st t:SortSt):Prop where
 arr:arrOf t=arrOf st
 pend:pendingOf t=pendingOf st
 kind:kindOf t=kindOf st
 ok:failedOf t=failedOf st
theorem G4.refl (st:SortSt):G4 st st:=⟨rfl,rfl,rfl,rfl⟩
def MQ (rk:Keyed→Nat)(a b:Array Keyed)(st:SortSt)(r:Array Keyed)(t:SortSt):Prop:=Mg (Le rk) a.toList b.toList r.toList∧G4 st t
theorem hv {β γ:Type}{F:γ}{K:γ→StateT SortSt Sem β}{Q:β→SortSt→Prop}{st:SortSt}(h:wpS (model prog w) A E s (K F) Q st):wpS (model prog w) A E s (have x:=F;K x) Q st:=h
theorem A1 {β:Type}{c:Prop}[Decidable c]{m n:StateT SortSt Sem β}{Q:β→SortSt→Prop}{st:SortSt}(h1:c→wpS (model prog w) A E s m Q st)(h2:¬c→wpS (model prog w) A E s n Q st):wpS (model prog w) A E s (if c then m else n) Q st:=by
 split
 · exact h1 ‹_›
 · exact h2 ‹_›
theorem M9 {a b:Nat}(h:(a==b)=true):a=b:=by simpa using h
theorem O9 {a b:Nat}(h:¬(a==b)=true):¬a=b:=by simpa using h
theorem T0 (xs:Array Keyed)(i:Nat):(xs.extract i).toList=xs.toList.drop i:=by rw[Array.toList_extract,dx1,dm7 (by simp)]
theorem O4 (xs:Array Keyed)(i j:Nat):(xs.extract i j).toList=(xs.toList.take j).drop i:=by rw[Array.toList_extract,dx1,List.drop_take]
theorem G1 {xs:Array Keyed}{i:Nat}{x:Keyed}(h:xs[i]? =some x):xs.toList[i]? =some x:=by rw[←h];simp
theorem ct3 {st:SortSt}{g:Nat}{Q:Unit→SortSt→Prop}(h:Q () (SortSt.mk' (kindOf st) (arrOf st) (pendingOf st) g (failedOf st))):wpS (model prog w) A E s ((sortPriv%PySem.Builtin.setMinGallop) g) Q st:=wpS_modify h
theorem G4.gal {st t:SortSt}(h:G4 st t)(g:Nat):G4 st (SortSt.mk' (kindOf t) (arrOf t) (pendingOf t) g (failedOf t)):=⟨h.arr,h.pend,h.kind,h.ok⟩
theorem cg7 {st0 st:SortSt}{g:Nat}{Q:Unit→SortSt→Prop}(l:G4 st0 st)(h:∀t,G4 st0 t→Q () t):wpS (model prog w) A E s ((sortPriv%PySem.Builtin.setMinGallop) g) Q st:=ct3 (h _ (l.gal g))
theorem ct4 {st:SortSt}{a b:Array Keyed}(C:Cm prog w A s κ rk a0)(hk:kindOf st=κ)(ia:In0 a0 a)(ib:In0 a0 b)(a1:1≤a.size)(b1:1≤b.size)(sa:C8 (Le rk) a.toList)(sb:C8 (Le rk) b.toList)
   (first:∀x,b[0]? =some x→∀y∈a.toList,Le rk x y) (last:∀x∈b.toList,∀y,a[a.size - 1]? =some y→Le rk x y):wpS (model prog w) A E s (mLo a b) (MQ rk a b st) st:=by
 have la:a.toList.length=a.size:=dh0
 have lb:b.toList.length=b.size:=dh0
 have ua:=Z9 sa
 have ub:=Z9 sb
 have doneB:∀out i j t,Mi (Le rk) a.toList b.toList (dl1 out) i j→G4 st t→b.size≤j→MQ rk a b st (out++a.extract i++b.extract j) t:=fun out i j t m l hj=>by
   refine ⟨?_,l⟩
   rw[dk3,dk3,T0,T0]
   exact m.doneB sa (by omega)
 have doneA:∀out i j t,Mi (Le rk) a.toList b.toList (dl1 out) i j→G4 st t→a.size≤i→MQ rk a b st (out++a.extract i++b.extract j) t:=fun out i j t m l hi=>by
   refine ⟨?_,l⟩
   rw[dk3,dk3,T0,T0]
   exact m.doneA sb (by omega)
 have lastA:∀out i j t,Mi (Le rk) a.toList b.toList (dl1 out) i j→G4 st t→i+1=a.size→MQ rk a b st (out++b.extract j++a.extract i) t:=fun out i j t m l hi=>by
   refine ⟨?_,l⟩
   rw[dk3,dk3,T0,T0]
   refine m.last sa sb fun x hx y hy=>last x (do4 hx) y ?_
   have e:a.toList[i]? =some a.toList[i]:=df0 (by omega)
   rw[al0 e,dp3 (by omega)] at hy
   rw[dg3.mp hy,show a.size - 1=i by omega,←dj8]
   exact e
 have stepB:∀out i j x y,Mi (Le rk) a.toList b.toList (dl1 out) i j→a[i]? =some x→b[j]? =some y→rk y≤rk x→Mi (Le rk) a.toList b.toList (dl1 (out.push y)) i (j+1):=fun out i j x y m hx hy le=>by
   rw[dq3]
   exact m.pushB (fun _=>df2 _) sb (G1 hy) fun z hz=>dg5 le (S9 (fun _=>df2 _) sa (G1 hx) z hz)
 have stepA:∀out i j x y,Mi (Le rk) a.toList b.toList (dl1 out) i j→a[i]? =some x→b[j]? =some y→rk x≤rk y→Mi (Le rk) a.toList b.toList (dl1 (out.push x)) (i+1) j:=fun out i j x y m hx hy le=>by
   rw[dq3]
   exact m.pushA (fun _=>df2 _) sa (G1 hx) fun z hz=>dg5 le (S9 (fun _=>df2 _) sb (G1 hy) z hz)
 refine wpS_bind (wpS_lift (wpAny_rule ⟨rfl,?_⟩))
 obtain ⟨b0,eb0,mb0⟩:=ib.at (show 0 < b.size by omega)
 refine wpS_bind (w9 eb0 ?_)
 have m0:Mi (Le rk) a.toList b.toList (dl1 #[b0]) 0 1:=by
   have e:b.toList[0]? =some b0:=G1 eb0
   have n:Mi (Le rk) a.toList b.toList [] 0 0:=⟨List.Perm.refl _,List.Pairwise.nil,(fun x h=>by cases h),(fun x h=>by cases h)⟩
   exact n.pushB (fun _=>df2 _) sb e fun y hy=>first b0 eb0 y hy
 refine hv (hv (hv ?_))
 by_cases z1:1=b.size
 · rw[if_pos (by simpa using z1)]
   exact wpS_pure (doneB _ _ _ _ m0 (G4.refl st) (by omega))
 rw[if_neg (by simpa using z1)]
 by_cases z2:0+1=a.size
 · rw[if_pos (by simpa using z2)]
   exact wpS_pure (lastA _ _ _ _ m0 (G4.refl st) z2)
 rw[if_neg (by simpa using z2)]
 refine wpS_bind (wpS_get ?_)
 refine wpS_bind (wpS_mono (wpS_forRange (I:=fun x c t=>∃out i j g,c=(none,out,i,j,g)∧Mi (Le rk) a.toList b.toList (dl1 out) i j∧i+1 < a.size∧j < b.size∧x≤i+j∧G4 st t)
   (Q:=fun c t=>∃r,c.1=some r∧MQ rk a b st r t) ?step ?fin ⟨_,_,_,_,rfl,m0,by omega,by omega,by omega,G4.refl st⟩) ?post)
 case post=>
   rintro c t ⟨r,hr,q⟩
   obtain ⟨c1,c2⟩:=c
   cases hr
   exact wpS_pure q
 case fin=>
   rintro c t ⟨out,i,j,g,rfl,m,h1,h2,h3,l⟩
   omega
 case step=>
   rintro x c t _ xn ⟨out,i,j,g,rfl,m,h1,h2,h3,l⟩
   refine wpS_bind (wpS_mono (wpS_forRange (I:=fun y c t'=>∃out' i' j' p q,c=(none,out',i',j',p,q)∧t'=t∧Mi (Le rk) a.toList b.toList (dl1 out') i' j'∧i'+1 < a.size∧j' < b.size∧i'+j'=i+j+y)
     (Q:=fun c t'=>(∃r,c.1=some r∧MQ rk a b st r t')∨(∃out' i' j' p q,c=(none,out',i',j',p,q)∧t'=t∧Mi (Le rk) a.toList b.toList (dl1 out') i' j'∧i'+1 < a.size∧j' < b.size∧x+1≤i'+j')) ?step2 ?fin2 ⟨_,_,_,_,_,rfl,rfl,m,h1,h2,rfl⟩) ?post2)
   case fin2=>
     rintro c t' ⟨out',i',j',p,q,rfl,rfl,m',k1,k2,k3⟩
     omega
   case step2=>
     rintro y c t' _ yn ⟨out',i',j',p,q,rfl,rfl,m',k1,k2,k3⟩
     obtain ⟨u,eu,mu⟩:=ia.at (show i' < a.size by omega)
     obtain ⟨v,ev,mv⟩:=ib.at k2
     refine wpS_bind (w9 ev (wpS_bind (w9 eu (wpS_bind (at5 C (l.kind.trans hk) mv mu ?_)))))
     by_cases d:rk v < rk u
     · rw[decide_eq_true d]
       dsimp only
       rw[if_pos rfl]
       have m2:=stepB out' i' j' u v m' eu ev (dl0 d)
       refine wpS_bind (w9 ev ?_)
       by_cases z:j'+1=b.size
       · rw[if_pos (by simpa using z)]
         exact wpS_pure (.inl ⟨_,rfl,doneB _ _ _ _ m2 l (by omega)⟩)
       · rw[if_neg (by simpa using z)]
         split
         · exact wpS_pure (.inr ⟨_,_,_,_,_,rfl,rfl,m2,k1,by omega,by omega⟩)
         · exact wpS_pure ⟨_,_,_,_,_,rfl,rfl,m2,k1,by omega,by omega⟩
     · rw[decide_eq_false d]
       dsimp only
       rw[if_neg (by decide)]
       have m2:=stepA out' i' j' u v m' eu ev (by omega)
       refine wpS_bind (w9 eu ?_)
       by_cases z:i'+1+1=a.size
       · rw[if_pos (by simpa using z)]
         exact wpS_pure (.inl ⟨_,rfl,lastA _ _ _ _ m2 l z⟩)
       · rw[if_neg (by simpa using z)]
         split
         · exact wpS_pure (.inr ⟨_,_,_,_,_,rfl,rfl,m2,by omega,k2,by omega⟩)
         · exact wpS_pure ⟨_,_,_,_,_,rfl,rfl,m2,by omega,k2,by omega⟩
   case post2=>
     rintro c t' (⟨r,hr,q⟩|⟨out',i',j',p,q,rfl,rfl,m',k1,k2,k3⟩)
     · obtain ⟨c1,c2⟩:=c
       cases hr
       exact wpS_pure ⟨r,rfl,q⟩
     · refine wpS_bind (wpS_lift (wpAny_rule ⟨rfl,?_⟩))
       refine wpS_bind (wpS_mono (wpS_forRange (I:=fun y c t2=>∃out2 i2 j2 g2 p q,c=(none,out2,i2,j2,g2,p,q)∧G4 st t2∧Mi (Le rk) a.toList b.toList (dl1 out2) i2 j2∧i2+1 < a.size∧j2 < b.size∧x+1≤i2+j2)
         (Q:=fun c t2=>(∃r,c.1=some r∧MQ rk a b st r t2)∨(∃out2 i2 j2 g2 p q,c=(none,out2,i2,j2,g2,p,q)∧G4 st t2∧Mi (Le rk) a.toList b.toList (dl1 out2) i2 j2∧i2+1 < a.size∧j2 < b.size∧x+1≤i2+j2)) ?step3 ?fin3 ⟨_,_,_,_,_,_,rfl,l,m',k1,k2,k3⟩) ?post3)
       case fin3=>
         rintro c t2 h
         exact .inr h
       case post3=>
         rintro c t2 (⟨r,hr,q⟩|⟨out2,i2,j2,g2,p,q,rfl,l2,m2,n1,n2,n3⟩)
         · obtain ⟨c1,c2⟩:=c
           cases hr
           exact wpS_pure ⟨r,rfl,q⟩
         · refine wpS_bind (ct3 ?_)
           exact wpS_pure ⟨_,_,_,_,rfl,m2,n1,n2,n3,l2.gal _⟩
       case step3=>
         rintro y c t2 _ yn ⟨out2,i2,j2,g2,p,q,rfl,l2,m2,n1,n2,n3⟩
         obtain ⟨v,ev,mv⟩:=ib.at n2
         refine A1 (fun _=> ?_) (fun _=> ?_)
         all_goals
           refine wpS_bind (cg7 l2 fun t3 l3=> ?_)
           refine wpS_bind (w9 ev ?_)
           refine wpS_bind (ac7 (base:=i2) (n:=a.size - i2) (hint:=0) C (l3.kind.trans hk) ia mv (show i2+(a.size - i2)≤a.size by omega) (by omega) (fun x y h1 h2 h3=>ua x y (by omega) h2 (by omega)) fun k kn ka kb=> ?_)
           have mA:∀k',k'≤k→Mi (Le rk) a.toList b.toList (dl1 (out2++a.extract i2 (i2+k'))) (i2+k') j2:=fun k' hk'=>by
             rw[dk3,O4]
             refine m2.manyA (fun _=>df2 _) sa k' (by omega) fun n x hn hx z hz=> ?_
             have h:=ka n (by omega)
             unfold A6 at h
             rw[if_neg (by decide),C7 (p:=x) (by rw[←dj8];exact hx)] at h
             have hle:rk x≤rk v:=by simpa using h
             exact dg5 hle (S9 (fun _=>df2 _) sb (G1 ev) z hz)
           have gB:i2+k < a.size→rk v < R rk a (i2+k):=fun h=>by
             have h:=kb k (df2 _) (by omega)
             unfold A6 at h
             rw[if_neg (by decide)] at h
             simpa using h
           have m3:=mA k (df2 _)
           refine A1 (fun kz=> ?_) (fun kz=> ?_)
           refine A1 (fun z=>wpS_pure (.inl ⟨_,rfl,lastA _ _ _ _ m3 l3 (M9 z)⟩)) (fun z1=> ?_)
           refine A1 (fun z=>wpS_pure (.inl ⟨_,rfl,doneA _ _ _ _ m3 l3 (ds8 (M9 z).symm)⟩)) (fun z2=> ?_)
           have z1:¬i2+k+1=a.size:=O9 z1
           have z2:¬i2+k=a.size:=O9 z2
           have f1:i2+k+1 < a.size:=by omega
           have f2:x+1≤i2+k+j2:=by omega
           have f3:=gB (by omega)
           generalize out2++a.extract i2 (i2+k)=out3 at m3 ⊢
           generalize i2+k=i3 at m3 f1 f2 f3 ⊢
           rotate_left
           have k0:k=0:=by omega
           subst k0
           have e0:out2++a.extract i2 (i2+0)=out2:=by simp<;>omega
           rw[e0,dn4] at m3
           have f1:i2+1 < a.size:=by omega
           have f2:x+1≤i2+j2:=by omega
           have f3:=gB (by omega)
           rw[dn4] at f3
           clear e0
           generalize out2=out3 at m3 ⊢
           generalize i2=i3 at m3 f1 f2 f3 ⊢
           rotate_left
           all_goals
             obtain ⟨u3,eu3,mu3⟩:=ia.at (show i3 < a.size by omega)
             rw[C7 eu3] at f3
             refine wpS_bind (w9 ev ?_)
             have m4:=stepB out3 i3 j2 u3 v m3 eu3 ev (dl0 f3)
             refine A1 (fun z=>wpS_pure (.inl ⟨_,rfl,doneB _ _ _ _ m4 l3 (ds8 (M9 z).symm)⟩)) (fun z3=> ?_)
             have z3:¬j2+1=b.size:=O9 z3
             refine wpS_bind (w9 eu3 ?_)
             refine wpS_bind (ac7 (base:=j2+1) (n:=b.size - (j2+1)) (hint:=0) C (l3.kind.trans hk) ib mu3 (show j2+1+(b.size - (j2+1))≤b.size by omega) (by omega) (fun x y h1 h2 h3=>ub x y (by omega) h2 (by omega)) fun k' kn' ka' kb'=> ?_)
             have m5:Mi (Le rk) a.toList b.toList (dl1 (out3.push v++b.extract (j2+1) (j2+1+k'))) i3 (j2+1+k'):=by
               rw[dk3,O4]
               refine m4.manyB (fun _=>df2 _) sb k' (by omega) fun n x hn hx z hz=> ?_
               have h:=ka' n hn
               unfold A6 at h
               rw[if_pos rfl,C7 (p:=x) (by rw[←dj8];exact hx)] at h
               have hle:rk x < rk u3:=by simpa using h
               exact dg5 (dl0 hle) (S9 (fun _=>df2 _) sa (G1 eu3) z hz)
             have gA:j2+1+k' < b.size→rk u3≤R rk b (j2+1+k'):=fun h=>by
               have h:=kb' k' (df2 _) (by omega)
               unfold A6 at h
               rw[if_pos rfl] at h
               simpa using h
             refine A1 (fun kz'=> ?_) (fun kz'=> ?_)
             refine A1 (fun z=>wpS_pure (.inl ⟨_,rfl,doneB _ _ _ _ m5 l3 (ds8 (M9 z).symm)⟩)) (fun z4=> ?_)
             have z4:¬j2+1+k'=b.size:=O9 z4
             have f4:j2+1+k' < b.size:=by omega
             have f5:x+1≤i3+(j2+1+k'):=by omega
             have f6:=gA f4
             generalize out3.push v++b.extract (j2+1) (j2+1+k')=out4 at m5 ⊢
             generalize j2+1+k'=j4 at m5 f4 f5 f6 ⊢
             rotate_left
             have k0:k'=0:=by omega
             subst k0
             have e0:out3.push v++b.extract (j2+1) (j2+1+0)=out3.push v:=by simp<;>omega
             rw[e0,dn4] at m5
             have f4:j2+1 < b.size:=by omega
             have f5:x+1≤i3+(j2+1):=by omega
             have f6:=gA (by omega)
             rw[dn4] at f6
             clear e0
             generalize out3.push v=out4 at m5 ⊢
             generalize j2+1=j4 at m5 f4 f5 f6 ⊢
             rotate_left
             all_goals
               obtain ⟨v4,ev4,mv4⟩:=ib.at f4
               rw[C7 ev4] at f6
               have m6:=stepA out4 i3 j4 u3 v4 m5 eu3 ev4 f6
               refine wpS_bind (w9 eu3 ?_)
               refine A1 (fun z=>wpS_pure (.inl ⟨_,rfl,lastA _ _ _ _ m6 l3 (M9 z)⟩)) (fun z5=> ?_)
               have z5:¬i3+1+1=a.size:=O9 z5
               refine A1 (fun _=> ?_) (fun _=> ?_)
               · exact wpS_pure (.inr ⟨out4.push u3,i3+1,j4,_,_,_,rfl,l3,m6,by omega,f4,by omega⟩)
               · exact wpS_pure ⟨out4.push u3,i3+1,j4,_,_,_,rfl,l3,m6,by omega,f4,by omega⟩
end
end TS
namespace TS
local macro_rules|`(tactic|omega)=>`(tactic|lia)
open PySem PyProof.Rows
def mHi:Array Keyed→Array Keyed→StateT SortSt Sem (Array Keyed):=sortPriv%PySem.Builtin.mergeHi
def Ge (rk:Keyed→Nat)(x y:Keyed):Prop:=rk y≤rk x
theorem Q7 {rk:Keyed→Nat}{l:List Keyed}(h:C8 (Le rk) l):C8 (Ge rk) l.reverse:=List.pairwise_reverse.mpr h
theorem cc0 {rk:Keyed→Nat}{a b r:List Keyed}(h:Mg (Ge rk) b.reverse a.reverse r.reverse):Mg (Le rk) a b r:=by
 obtain ⟨p,u⟩:=h
 refine ⟨?_,List.pairwise_reverse.mp u⟩
 have e:b.reverse++a.reverse=(a++b).reverse:=by rw[dq9]
 rw[e] at p
 exact (List.reverse_perm r).symm.trans (p.trans (List.reverse_perm _))
theorem J1 {l:List Keyed}{n:Nat}(h:n≤l.length):l.reverse.drop (l.length - n)=(l.take n).reverse:=by
 rw[List.drop_reverse];congr 2;omega
theorem bp6 {l:List Keyed}{n:Nat}{x:Keyed}(h1:1≤n)(h:l[n - 1]? =some x):l.reverse[l.length - n]? =some x:=by
 have hl:=(df1.mp h).1
 rw[dv0 (by omega),←h]
 congr 1
 omega
theorem bp7 {l:List Keyed}{m n:Nat}(h1:m≤n)(h:n≤l.length):(l.reverse.take (l.length - n+(n - m))).drop (l.length - n)=((l.take n).drop m).reverse:=by
 rw[List.drop_take,J1 h,Nat.add_sub_cancel_left,List.take_reverse,dg7]
 congr 2
 omega
theorem ac8 {rk:Keyed→Nat}{l:List Keyed}{n:Nat}{x:Keyed}(s:C8 (Le rk) l)(h1:1≤n)(h:l[n - 1]? =some x):∀y∈l.take n,rk y≤rk x:=fun y hy=>by
 obtain ⟨hl,e⟩:=df1.mp h
 obtain ⟨i,hi⟩:=dh8.mp hy
 have hil:=(df1.mp hi).1
 rw[dg7] at hil
 rw[dk2 (by omega),df0 (by omega)] at hi
 have ey:=Option.some.inj hi
 rcases dw6 (show i≤n - 1 by omega) with z|z
 · have:=di3.mp s i (n - 1) (by omega) hl z
   rw[ey,e] at this;exact this
 · subst z
   rw[←ey,e];exact df2 _
section
variable {prog:Program} {w:World} {A:Around} {E:Value→Shared→Prop} {s:Shared}
variable {rk:Keyed→Nat} {a0:Array Keyed} {κ:SortKind}
def Mh (rk:Keyed→Nat)(a b out:Array Keyed)(na nb:Nat):Prop:=na≤a.size∧nb≤b.size∧Mi (Ge rk) b.toList.reverse a.toList.reverse out.toList (b.size - nb) (a.size - na)
theorem Mh.pushB {a b out:Array Keyed}{na nb:Nat}{x:Keyed}(h:Mh rk a b out na nb)(sb:C8 (Le rk) b.toList)(n1:1≤nb)(hx:b[nb - 1]? =some x)(ha:∀y∈a.toList.take na,rk y≤rk x):Mh rk a b (out.push x) na (nb - 1):=by
 obtain ⟨h1,h2,m⟩:=h
 refine ⟨h1,by omega,?_⟩
 have lb:b.toList.length=b.size:=dh0
 have la:a.toList.length=a.size:=dh0
 rw[dq3,show b.size - (nb - 1)=b.size - nb+1 by omega]
 refine m.pushA (fun _=>df2 _) (Q7 sb) ?_ fun y hy=>ha y ?_
 · rw[←lb];exact bp6 n1 (G1 hx)
 · rw[←la,J1 (by omega)] at hy;exact dp4.mp hy
theorem Mh.pushA {a b out:Array Keyed}{na nb:Nat}{x:Keyed}(h:Mh rk a b out na nb)(sa:C8 (Le rk) a.toList)(n1:1≤na)(hx:a[na - 1]? =some x)(hb:∀y∈b.toList.take nb,rk y≤rk x):Mh rk a b (out.push x) (na - 1) nb:=by
 obtain ⟨h1,h2,m⟩:=h
 refine ⟨by omega,h2,?_⟩
 have lb:b.toList.length=b.size:=dh0
 have la:a.toList.length=a.size:=dh0
 rw[dq3,show a.size - (na - 1)=a.size - na+1 by omega]
 refine m.pushB (fun _=>df2 _) (Q7 sa) ?_ fun y hy=>hb y ?_
 · rw[←la];exact bp6 n1 (G1 hx)
 · rw[←lb,J1 (by omega)] at hy;exact dp4.mp hy
theorem Mh.manyA {a b out:Array Keyed}{na nb m:Nat}(h:Mh rk a b out na nb)(sa:C8 (Le rk) a.toList)(hm:m≤na)(hc:∀n x,m≤n→n < na→a[n]? =some x→∀y∈b.toList.take nb,rk y≤rk x):Mh rk a b (out++(a.extract m na).reverse) m nb:=by
 obtain ⟨h1,h2,mi⟩:=h
 refine ⟨by omega,h2,?_⟩
 have lb:b.toList.length=b.size:=dh0
 have la:a.toList.length=a.size:=dh0
 have:=mi.manyB (fun _=>df2 _) (Q7 sa) (na - m) (by rw[dp1];omega) fun n x hn hx y hy=>hc (na - 1 - n) x (by omega) (by omega) ?_ y ?_
 · rw[←la,bp7 hm (by omega),←O4,la,show a.size - na+(na - m)=a.size - m by omega] at this
   rw[dk3,dt1]
   exact this
 · rw[dv0 (by omega)] at hx
   rw[←dj8,←hx]
   congr 1
   omega
 · rw[←lb,J1 (by omega)] at hy;exact dp4.mp hy
theorem Mh.manyB {a b out:Array Keyed}{na nb m:Nat}(h:Mh rk a b out na nb)(sb:C8 (Le rk) b.toList)(hm:m≤nb)(hc:∀n x,m≤n→n < nb→b[n]? =some x→∀y∈a.toList.take na,rk y≤rk x):Mh rk a b (out++(b.extract m nb).reverse) na m:=by
 obtain ⟨h1,h2,mi⟩:=h
 refine ⟨h1,by omega,?_⟩
 have lb:b.toList.length=b.size:=dh0
 have la:a.toList.length=a.size:=dh0
 have:=mi.manyA (fun _=>df2 _) (Q7 sb) (nb - m) (by rw[dp1];omega) fun n x hn hx y hy=>hc (nb - 1 - n) x (by omega) (by omega) ?_ y ?_
 · rw[←lb,bp7 hm (by omega),←O4,lb,show b.size - nb+(nb - m)=b.size - m by omega] at this
   rw[dk3,dt1]
   exact this
 · rw[dv0 (by omega)] at hx
   rw[←dj8,←hx]
   congr 1
   omega
 · rw[←la,J1 (by omega)] at hy;exact dp4.mp hy
theorem ae4 (xs:Array Keyed)(j:Nat):(xs.extract 0 j).toList=xs.toList.take j:=by rw[O4,dz1]
theorem Mh.done {a b out:Array Keyed}{na nb:Nat}(h:Mh rk a b out na nb)(sa:C8 (Le rk) a.toList)(sb:C8 (Le rk) b.toList)(z:na=0∨nb=0):Mg (Le rk) a.toList b.toList (a.extract 0 na++b.extract 0 nb++out.reverse).toList:=by
 obtain ⟨h1,h2,m⟩:=h
 have lb:b.toList.length=b.size:=dh0
 have la:a.toList.length=a.size:=dh0
 refine cc0 ?_
 have e:(a.extract 0 na++b.extract 0 nb++out.reverse).toList.reverse=out.toList++b.toList.reverse.drop (b.size - nb)++a.toList.reverse.drop (a.size - na):=by
   rw[dk3,dk3,dt1,ae4,ae4,dq9,dq9,List.reverse_reverse,←la,←lb,J1 (by omega),J1 (by omega),dh4]
 rw[e]
 rcases z with z|z
 · exact m.doneB (Q7 sb) (by rw[dp1];omega)
 · exact m.doneA (Q7 sa) (by rw[dp1];omega)
theorem Mh.first {a b out:Array Keyed}{na nb:Nat}(h:Mh rk a b out na nb)(sa:C8 (Le rk) a.toList)(sb:C8 (Le rk) b.toList)(lo:∀x∈a.toList.take na,∀y∈b.toList.take nb,rk y≤rk x):Mg (Le rk) a.toList b.toList (b.extract 0 nb++a.extract 0 na++out.reverse).toList:=by
 obtain ⟨h1,h2,m⟩:=h
 have lb:b.toList.length=b.size:=dh0
 have la:a.toList.length=a.size:=dh0
 refine cc0 ?_
 have e:(b.extract 0 nb++a.extract 0 na++out.reverse).toList.reverse=out.toList++a.toList.reverse.drop (a.size - na)++b.toList.reverse.drop (b.size - nb):=by
   rw[dk3,dk3,dt1,ae4,ae4,dq9,dq9,List.reverse_reverse,←la,←lb,J1 (by omega),J1 (by omega),dh4]
 rw[e]
 refine m.last (Q7 sb) (Q7 sa) fun x hx y hy=> ?_
 rw[←la,J1 (by omega)] at hx
 rw[←lb,J1 (by omega)] at hy
 exact lo x (dp4.mp hx) y (dp4.mp hy)
theorem ct5 {st:SortSt}{a b:Array Keyed}(C:Cm prog w A s κ rk a0)(hk:kindOf st=κ)(ia:In0 a0 a)(ib:In0 a0 b)(a1:1≤a.size)(b1:1≤b.size)(sa:C8 (Le rk) a.toList)(sb:C8 (Le rk) b.toList)
   (first:∀x,b[0]? =some x→∀y∈a.toList,Le rk x y) (last:∀x∈b.toList,∀y,a[a.size - 1]? =some y→Le rk x y):wpS (model prog w) A E s (mHi a b) (MQ rk a b st) st:=by
 have la:a.toList.length=a.size:=dh0
 have lb:b.toList.length=b.size:=dh0
 have ua:=Z9 sa
 have ub:=Z9 sb
 refine wpS_bind (wpS_lift (wpAny_rule ⟨rfl,?_⟩))
 obtain ⟨x0,ex0,mx0⟩:=ia.at (show a.size - 1 < a.size by omega)
 refine wpS_bind (w9 ex0 ?_)
 have doneM:∀out na nb t,Mh rk a b out na nb→G4 st t→na=0∨nb=0→MQ rk a b st (a.extract 0 na++b.extract 0 nb++Array.reverse out) t:=fun out na nb t m l z=>⟨m.done sa sb z,l⟩
 have firstM:∀out na nb t,Mh rk a b out na nb→G4 st t→nb=1→MQ rk a b st (b.extract 0 nb++a.extract 0 na++Array.reverse out) t:=fun out na nb t m l z=>by
   refine ⟨m.first sa sb fun x hx y hy=> ?_,l⟩
   subst z
   obtain ⟨b0,eb0,mb0⟩:=ib.at (show 0 < b.size by omega)
   have:=ac8 sb (df2 1) (G1 eb0) y hy
   exact dg5 this (first b0 eb0 x (dl7 hx))
 have stepA:∀out na nb x y,Mh rk a b out na nb→1≤na→1≤nb→a[na - 1]? =some x→b[nb - 1]? =some y→rk y≤rk x→Mh rk a b (out.push x) (na - 1) nb:=fun out na nb x y m h1 h2 hx hy le=>
   m.pushA sa h1 hx fun z hz=>dg5 (ac8 sb h2 (G1 hy) z hz) le
 have stepB:∀out na nb x y,Mh rk a b out na nb→1≤na→1≤nb→a[na - 1]? =some x→b[nb - 1]? =some y→rk x≤rk y→Mh rk a b (out.push y) na (nb - 1):=fun out na nb x y m h1 h2 hx hy le=>
   m.pushB sb h2 hy fun z hz=>dg5 (ac8 sa h1 (G1 hx) z hz) le
 have m0:Mh rk a b #[x0] (a.size - 1) b.size:=by
   have n:Mh rk a b #[] a.size b.size:=⟨df2 _,df2 _,by rw[dv9,dv9];exact ⟨List.Perm.refl _,List.Pairwise.nil,(fun x h=>by cases h),(fun x h=>by cases h)⟩⟩
   exact n.pushA sa a1 ex0 fun y hy=>last y (dl7 hy) x0 ex0
 refine A1 (fun z=>wpS_pure (doneM _ _ _ _ m0 (G4.refl st) (.inl (M9 z)))) (fun z1=> ?_)
 have z1:¬a.size - 1=0:=O9 z1
 refine A1 (fun z=>wpS_pure (firstM _ _ _ _ m0 (G4.refl st) (M9 z))) (fun z2=> ?_)
 have z2:¬b.size=1:=O9 z2
 refine wpS_bind (wpS_get ?_)
 refine wpS_bind (wpS_mono (wpS_forRange (I:=fun x c t=>∃na nb out g,c=(none,na,nb,out,g)∧Mh rk a b out na nb∧1≤na∧2≤nb∧x+na+nb≤a.size+b.size∧G4 st t)
   (Q:=fun c t=>∃r,c.1=some r∧MQ rk a b st r t) ?step ?fin ⟨_,_,_,_,rfl,m0,by omega,by omega,by omega,G4.refl st⟩) ?post)
 case post=>
   rintro c t ⟨r,hr,q⟩
   obtain ⟨c1,c2⟩:=c
   cases hr
   exact wpS_pure q
 case fin=>
   rintro c t ⟨na,nb,out,g,rfl,m,h1,h2,h3,l⟩
   omega
 case step=>
   rintro x c t _ xn ⟨na,nb,out,g,rfl,m,h1,h2,h3,l⟩
   refine wpS_bind (wpS_mono (wpS_forRange (I:=fun y c t'=>∃na' nb' out' p q,c=(none,na',nb',out',p,q)∧t'=t∧Mh rk a b out' na' nb'∧1≤na'∧2≤nb'∧na'+nb'+y=na+nb)
     (Q:=fun c t'=>(∃r,c.1=some r∧MQ rk a b st r t')∨(∃na' nb' out' p q,c=(none,na',nb',out',p,q)∧t'=t∧Mh rk a b out' na' nb'∧1≤na'∧2≤nb'∧x+1+na'+nb'≤a.size+b.size)) ?step2 ?fin2 ⟨_,_,_,_,_,rfl,rfl,m,h1,h2,rfl⟩) ?post2)
   case fin2=>
     rintro c t' ⟨na',nb',out',p,q,rfl,rfl,m',k1,k2,k3⟩
     omega
   case step2=>
     rintro y c t' _ yn ⟨na',nb',out',p,q,rfl,rfl,m',k1,k2,k3⟩
     obtain ⟨u,eu,mu⟩:=ia.at (show na' - 1 < a.size by have:=m'.1;omega)
     obtain ⟨v,ev,mv⟩:=ib.at (show nb' - 1 < b.size by have:=m'.2.1;omega)
     refine wpS_bind (w9 ev (wpS_bind (w9 eu (wpS_bind (at5 C (l.kind.trans hk) mv mu ?_)))))
     by_cases d:rk v < rk u
     · rw[decide_eq_true d]
       refine A1 (fun _=> ?_) (fun h=>absurd rfl h)
       have m2:=stepA out' na' nb' u v m' k1 (by omega) eu ev (dl0 d)
       refine wpS_bind (w9 eu ?_)
       refine A1 (fun z=>wpS_pure (.inl ⟨_,rfl,doneM _ _ _ _ m2 l (.inl (M9 z))⟩)) (fun z=> ?_)
       have z:¬na' - 1=0:=O9 z
       refine A1 (fun _=> ?_) (fun _=> ?_)
       · exact wpS_pure (.inr ⟨na' - 1,nb',out'.push u,_,_,rfl,rfl,m2,by omega,k2,by omega⟩)
       · exact wpS_pure ⟨na' - 1,nb',out'.push u,_,_,rfl,rfl,m2,by omega,k2,by omega⟩
     · rw[decide_eq_false d]
       refine A1 (fun h=>absurd h (by decide)) (fun _=> ?_)
       have m2:=stepB out' na' nb' u v m' k1 (by omega) eu ev (by omega)
       refine wpS_bind (w9 ev ?_)
       refine A1 (fun z=>wpS_pure (.inl ⟨_,rfl,firstM _ _ _ _ m2 l (M9 z)⟩)) (fun z=> ?_)
       have z:¬nb' - 1=1:=O9 z
       refine A1 (fun _=> ?_) (fun _=> ?_)
       · exact wpS_pure (.inr ⟨na',nb' - 1,out'.push v,_,_,rfl,rfl,m2,k1,by omega,by omega⟩)
       · exact wpS_pure ⟨na',nb' - 1,out'.push v,_,_,rfl,rfl,m2,k1,by omega,by omega⟩
   case post2=>
     rintro c t' (⟨r,hr,q⟩|⟨na',nb',out',p,q,rfl,rfl,m',k1,k2,k3⟩)
     · obtain ⟨c1,c2⟩:=c
       cases hr
       exact wpS_pure ⟨r,rfl,q⟩
     · refine wpS_bind (wpS_lift (wpAny_rule ⟨rfl,?_⟩))
       refine wpS_bind (wpS_mono (wpS_forRange (I:=fun y c t2=>∃na2 nb2 out2 g2 p q,c=(none,na2,nb2,out2,g2,p,q)∧G4 st t2∧Mh rk a b out2 na2 nb2∧1≤na2∧2≤nb2∧x+1+na2+nb2≤a.size+b.size)
         (Q:=fun c t2=>(∃r,c.1=some r∧MQ rk a b st r t2)∨(∃na2 nb2 out2 g2 p q,c=(none,na2,nb2,out2,g2,p,q)∧G4 st t2∧Mh rk a b out2 na2 nb2∧1≤na2∧2≤nb2∧x+1+na2+nb2≤a.size+b.size)) ?step3 ?fin3 ⟨_,_,_,_,_,_,rfl,l,m',k1,k2,k3⟩) ?post3)
       case fin3=>
         rintro c t2 h
         exact .inr h
       case post3=>
         rintro c t2 (⟨r,hr,q⟩|⟨na2,nb2,out2,g2,p,q,rfl,l2,m2,n1,n2,n3⟩)
         · obtain ⟨c1,c2⟩:=c
           cases hr
           exact wpS_pure ⟨r,rfl,q⟩
         · refine wpS_bind (cg7 l2 fun t3 l3=> ?_)
           exact wpS_pure ⟨_,_,_,_,rfl,m2,n1,n2,n3,l3⟩
       case step3=>
         rintro y c t2 _ yn ⟨na2,nb2,out2,g2,p,q,rfl,l2,m2,n1,n2,n3⟩
         have q1:=m2.1
         have q2:=m2.2.1
         obtain ⟨v,ev,mv⟩:=ib.at (show nb2 - 1 < b.size by omega)
         refine A1 (fun _=> ?_) (fun _=> ?_)
         all_goals
           refine wpS_bind (cg7 l2 fun t3 l3=> ?_)
           refine wpS_bind (w9 ev ?_)
           refine wpS_bind (ac7 (base:=0) (n:=na2) (hint:=na2 - 1) C (l3.kind.trans hk) ia mv (by omega) (by omega) (fun x y h1 h2 h3=>ua x y (by omega) h2 (by omega)) fun k kn ka kb=> ?_)
           have m3:Mh rk a b (out2++(a.extract k na2).reverse) k nb2:=m2.manyA sa kn fun n x h1 h2 hx z hz=>by
             have h:=kb n h1 h2
             unfold A6 at h
             rw[if_neg (by decide),dr1,C7 hx] at h
             have hle:rk v < rk x:=by simpa using h
             exact dg5 (ac8 sb (by omega) (G1 ev) z hz) (dl0 hle)
           have gA:1≤k→R rk a (k - 1)≤rk v:=fun h=>by
             have h:=ka (k - 1) (by omega)
             unfold A6 at h
             rw[if_neg (by decide),dr1] at h
             simpa using h
           refine A1 (fun kz=> ?_) (fun kz=> ?_)
           have kz:na2 - k > 0:=kz
           refine A1 (fun z=>wpS_pure (.inl ⟨_,rfl,doneM _ _ _ _ m3 l3 (.inl (M9 z))⟩)) (fun z1=> ?_)
           have z1:¬k=0:=O9 z1
           have f1:1≤k:=by omega
           have f2:x+1+k+nb2≤a.size+b.size:=by omega
           have f3:=gA f1
           generalize out2++(a.extract k na2).reverse=out3 at m3 ⊢
           rotate_left
           have kz:¬na2 - k > 0:=kz
           have k0:k=na2:=by omega
           have e0:out2++(a.extract k na2).reverse=out2:=by rw[k0];simp<;>omega
           rw[e0] at m3
           have f1:1≤k:=by omega
           have f2:x+1+k+nb2≤a.size+b.size:=by omega
           have f3:=gA f1
           clear e0
           subst k0
           generalize out2=out3 at m3 ⊢
           rotate_left
           all_goals
             obtain ⟨u3,eu3,mu3⟩:=ia.at (show k - 1 < a.size by omega)
             rw[C7 eu3] at f3
             refine wpS_bind (w9 ev ?_)
             have m4:=stepB out3 k nb2 u3 v m3 f1 (by omega) eu3 ev f3
             refine A1 (fun z=>wpS_pure (.inl ⟨_,rfl,firstM _ _ _ _ m4 l3 (M9 z)⟩)) (fun z3=> ?_)
             have z3:¬nb2 - 1=1:=O9 z3
             refine wpS_bind (w9 eu3 ?_)
             refine wpS_bind (ac7 (base:=0) (n:=nb2 - 1) (hint:=nb2 - 1 - 1) C (l3.kind.trans hk) ib mu3 (by omega) (by omega) (fun x y h1 h2 h3=>ub x y (by omega) h2 (by omega)) fun k' kn' ka' kb'=> ?_)
             have m5:Mh rk a b (out3.push v++(b.extract k' (nb2 - 1)).reverse) k k':=m4.manyB sb kn' fun n x h1 h2 hx z hz=>by
               have h:=kb' n h1 h2
               unfold A6 at h
               rw[if_pos rfl,dr1,C7 hx] at h
               have hle:rk u3≤rk x:=by simpa using h
               exact dg5 (ac8 sa f1 (G1 eu3) z hz) hle
             have gB:1≤k'→R rk b (k' - 1) < rk u3:=fun h=>by
               have h:=ka' (k' - 1) (by omega)
               unfold A6 at h
               rw[if_pos rfl,dr1] at h
               simpa using h
             refine A1 (fun kz'=> ?_) (fun kz'=> ?_)
             have kz':nb2 - 1 - k' > 0:=kz'
             refine A1 (fun z=>wpS_pure (.inl ⟨_,rfl,firstM _ _ _ _ m5 l3 (M9 z)⟩)) (fun z4=> ?_)
             have z4:¬k'=1:=O9 z4
             refine A1 (fun z=>wpS_pure (.inl ⟨_,rfl,doneM _ _ _ _ m5 l3 (.inr (M9 z))⟩)) (fun z5=> ?_)
             have z5:¬k'=0:=O9 z5
             have f4:2≤k':=by omega
             have f5:x+1+k+k'≤a.size+b.size:=by omega
             have f6:=gB (by omega)
             generalize out3.push v++(b.extract k' (nb2 - 1)).reverse=out4 at m5 ⊢
             rotate_left
             have kz':¬nb2 - 1 - k' > 0:=kz'
             have k0':k'=nb2 - 1:=by omega
             have e0:out3.push v++(b.extract k' (nb2 - 1)).reverse=out3.push v:=by rw[k0'];simp<;>omega
             rw[e0] at m5
             have f4:2≤k':=by omega
             have f5:x+1+k+k'≤a.size+b.size:=by omega
             have f6:=gB (by omega)
             clear e0
             generalize out3.push v=out4 at m5 ⊢
             rotate_left
             all_goals
               have q3:=m5.2.1
               obtain ⟨v4,ev4,mv4⟩:=ib.at (show k' - 1 < b.size by omega)
               rw[C7 ev4] at f6
               have m6:=stepA out4 k k' u3 v4 m5 f1 (by omega) eu3 ev4 (dl0 f6)
               refine wpS_bind (w9 eu3 ?_)
               first
                 |refine A1 (fun z=>wpS_pure (.inl ⟨_,rfl,doneM _ _ _ _ m6 l3 (.inl (M9 z))⟩)) (fun z6=> ?_)
                 |(rw[k0'] at m6;refine A1 (fun z=>wpS_pure (.inl ⟨_,rfl,doneM _ _ _ _ m6 l3 (.inl (M9 z))⟩)) (fun z6=> ?_))
               have z6:¬k - 1=0:=O9 z6
               refine A1 (fun _=> ?_) (fun _=> ?_)
               · first
                   |exact wpS_pure (.inr ⟨k - 1,k',out4.push u3,_,_,_,rfl,l3,m6,by omega,f4,by omega⟩)
                   |exact wpS_pure (.inr ⟨k - 1,nb2 - 1,out4.push u3,_,_,_,rfl,l3,m6,by omega,by omega,by omega⟩)
               · first
                   |exact wpS_pure ⟨k - 1,k',out4.push u3,_,_,_,rfl,l3,m6,by omega,f4,by omega⟩
                   |exact wpS_pure ⟨k - 1,nb2 - 1,out4.push u3,_,_,_,rfl,l3,m6,by omega,by omega,by omega⟩
end
end TS
namespace TS
local macro_rules|`(tactic|omega)=>`(tactic|lia)
open PySem PyProof.Rows
section
variable {rk:Keyed→Nat}
def J3 (xs:Array Keyed)(lo hi:Nat):List Keyed:=(xs.toList.take hi).drop lo
theorem J9 {xs:Array Keyed}{lo hi:Nat}(h:hi≤xs.size):(J3 xs lo hi).length=hi - lo:=by unfold J3;rw[di0,dg7];simp;omega
theorem J4 {xs:Array Keyed}{lo hi i:Nat}(hi':lo+i < hi):(J3 xs lo hi)[i]? =xs[lo+i]? :=by
 unfold J3
 rw[do0,dk2 hi',dj8]
theorem al1 {xs:Array Keyed}{lo hi:Nat}(u:Up rk xs lo hi)(h:hi≤xs.size):C8 (Le rk) (J3 xs lo hi):=by
 refine di3.mpr fun i j h1 h2 hij=> ?_
 have l:=J9 (lo:=lo) h
 have e1:(J3 xs lo hi)[i]? =some (J3 xs lo hi)[i]:=df0 h1
 have e2:(J3 xs lo hi)[j]? =some (J3 xs lo hi)[j]:=df0 h2
 rw[J4 (by omega)] at e1 e2
 have:=u (lo+i) (lo+j) (by omega) (by omega) (by omega)
 rw[C7 e1,C7 e2] at this
 exact this
theorem ct6 {xs:Array Keyed}{lo hi:Nat}(s:C8 (Le rk) (J3 xs lo hi))(h:hi≤xs.size):Up rk xs lo hi:=fun i j h1 h2 h3=>by
 have l:=J9 (lo:=lo) h
 rcases dw6 h2 with z|z
 · have:=di3.mp s (i - lo) (j - lo) (by omega) (by omega) (by omega)
   have e1:(J3 xs lo hi)[i - lo]? =some (J3 xs lo hi)[i - lo]:=df0 (by omega)
   have e2:(J3 xs lo hi)[j - lo]? =some (J3 xs lo hi)[j - lo]:=df0 (by omega)
   rw[J4 (by omega),show lo+(i - lo)=i by omega] at e1
   rw[J4 (by omega),show lo+(j - lo)=j by omega] at e2
   rw[C7 e1,C7 e2]
   exact this
 · rw[z];exact df2 _
theorem T2 {xs:Array Keyed}{lo hi:Nat}{x:Keyed}(h:hi≤xs.size)(hx:x∈J3 xs lo hi):∃i,lo≤i∧i < hi∧xs[i]? =some x:=by
 obtain ⟨i,hi'⟩:=dh8.mp hx
 have l:=J9 (lo:=lo) h
 have:=(df1.mp hi').1
 exact ⟨lo+i,by omega,by omega,by rw[←J4 (hi:=hi) (by omega)];exact hi'⟩
theorem T3 {xs:Array Keyed}{a b c:Nat}(h1:a≤b)(h2:b≤c)(h:c≤xs.size):J3 xs a b++J3 xs b c=J3 xs a c:=by
 refine dj1 fun i=> ?_
 by_cases z:i < b - a
 · rw[di1 (by rw[J9 (by omega)];omega),J4 (by omega),J4 (by omega)]
 · rw[di8 (by rw[J9 (by omega)];omega),J9 (by omega)]
   by_cases y:i < c - a
   · rw[J4 (by omega),J4 (by omega)];congr 1;omega
   · rw[dg0 (by rw[J9 h];omega),dg0 (by rw[J9 h];omega)]
theorem bp8 (xs:Array Keyed):J3 xs 0 xs.size=xs.toList:=by
 unfold J3;rw[dz1,dm7 (by simp)]
def wr (p:Nat)(l:List (Keyed×Nat))(xs:Array Keyed):Array Keyed:=l.foldl (fun a q=>a.setIfInBounds (p+q.2) q.1) xs
theorem ac9 (p:Nat):∀(l:List (Keyed×Nat)) (xs:Array Keyed),(wr p l xs).size=xs.size
 |[],xs=>rfl
 |q::l,xs=>(ac9 p l _).trans (by simp)
theorem bi0 (p:Nat):∀(m:List Keyed) (n:Nat) (xs:Array Keyed),p+n+m.length≤xs.size→∀k,(wr p (m.zipIdx n) xs)[k]? =if p+n≤k∧k < p+n+m.length then m[k - (p+n)]? else xs[k]?
 |[],n,xs,_,k=>by
  show xs[k]? =_
  rw[if_neg (by simp)]
 |x::m,n,xs,h,k=>by
  rw[dk0] at h ⊢
  show (wr p (m.zipIdx (n+1)) (xs.setIfInBounds (p+n) x))[k]? =_
  rw[bi0 p m (n+1) _ (by rw[Array.size_setIfInBounds];omega) k,Array.getElem?_setIfInBounds]
  by_cases z:k=p+n
  · subst z
    rw[if_neg (by omega),if_pos rfl,if_pos (by omega),if_pos (by omega),dv9]
    rfl
  · by_cases y:p+n≤k∧k < p+n+(m.length+1)
    · rw[if_pos (by omega),if_pos y,show k - (p+n)=k - (p+(n+1))+1 by omega]
      rfl
    · rw[if_neg (by omega),if_neg (by omega),if_neg y]
theorem cc1 {m:List Keyed}{p:Nat}{xs:Array Keyed}(h:p+m.length≤xs.size):J3 (wr p m.zipIdx xs) p (p+m.length)=m:=by
 refine dj1 fun i=> ?_
 by_cases z:i < m.length
 · rw[J4 (by omega),bi0 p m 0 xs h,if_pos (by omega)]
   congr 1;omega
 · rw[dg0 (by rw[J9 (by rw[ac9];omega)];omega),dg0 (by omega)]
theorem bp9 {m:List Keyed}{p:Nat}{xs:Array Keyed}(h:p+m.length≤xs.size):A0 xs (wr p m.zipIdx xs) p (p+m.length):=fun k hk=>by
 rw[bi0 p m 0 xs h,if_neg (by omega)]
theorem ae5 {xs ys:Array Keyed}{lo hi a b:Nat}(hz:ys.size=xs.size)(k:A0 xs ys lo hi)(h:b≤lo∨hi≤a)(hb:b≤xs.size):J3 ys a b=J3 xs a b:=by
 refine dj1 fun i=> ?_
 by_cases z:a+i < b
 · rw[J4 z,J4 z];exact k _ (by omega)
 · rw[dg0 (by rw[J9 (by omega)];omega),dg0 (by rw[J9 hb];omega)]
theorem cm6 {m:List Keyed}{p:Nat}{xs:Array Keyed}(h:p+m.length≤xs.size)(pm:m.Perm (J3 xs p (p+m.length))):(wr p m.zipIdx xs).Perm xs:=by
 rw[dn9,←bp8 xs,←bp8 (wr p m.zipIdx xs),ac9]
 have hk:=bp9 h
 have hs:=ac9 p m.zipIdx xs
 rw[←T3 (dh2 p) (show p≤xs.size by omega) (df2 _),←T3 (show p≤p+m.length by omega) (show p+m.length≤xs.size by omega) (df2 _)]
 rw[←T3 (xs:=wr p m.zipIdx xs) (dh2 p) (show p≤xs.size by omega) (by omega),←T3 (xs:=wr p m.zipIdx xs) (show p≤p+m.length by omega) (show p+m.length≤xs.size by omega) (by omega)]
 rw[ae5 hs hk (.inl (df2 _)) (by omega),ae5 hs hk (.inr (df2 _)) (df2 _),cc1 h]
 exact List.Perm.append_left _ (pm.append_right _)
end
end TS
namespace TS
local macro_rules|`(tactic|omega)=>`(tactic|lia)
open PySem PyProof.Rows
section
variable {prog:Program} {w:World} {A:Around} {E:Value→Shared→Prop} {s:Shared}
variable {rk:Keyed→Nat} {a0:Array Keyed} {κ:SortKind}
theorem cm7 {st:SortSt}(B:Bs a0 κ st)(lo hi:Nat):In0 a0 ((arrOf st).extract lo hi):=fun x hx=>by
 rw[O4] at hx
 exact (dn9.mp B.perm).mem_iff.mp (dl7 (do4 hx))
theorem ax4 {st:SortSt}(B:Bs a0 κ st):In0 a0 (arrOf st):=fun x hx=>(dn9.mp B.perm).mem_iff.mp hx
theorem bq0 {xs:Array Keyed}{lo hi i:Nat}(h:lo+i < hi):(xs.extract lo hi)[i]? =xs[lo+i]? :=by
 rw[←dj8,O4];exact J4 h
theorem ct7 {st:SortSt}{i sa na nb pw pw2:Nat}{Q:Bool→SortSt→Prop}(C:Cm prog w A s κ rk a0)(B:Bs a0 κ st)(e1:(pendingOf st)[i]? =some (sa,na,pw))(e2:(pendingOf st)[i+1]? =some (sa+na,nb,pw2))(n1:1≤na)(n2:1≤nb)
   (hz:sa+na+nb≤a0.size) (u1:Up rk (arrOf st) sa (sa+na)) (u2:Up rk (arrOf st) (sa+na) (sa+na+nb))
   (h:∀t,Bs a0 κ t→Up rk (arrOf t) sa (sa+na+nb)→A0 (arrOf st) (arrOf t) sa (sa+na+nb)→pendingOf t=((pendingOf st).setIfInBounds i (sa,na+nb,pw)).eraseIdxIfInBounds (i+1)→Q true t):
   wpS (model prog w) A E s (mergeAt' i) Q st:=by
 have hs:=B.size
 refine wpS_bind (wpS_get ?_)
 rw[show (sortPriv%PySem.Builtin.SortState.pending) st=pendingOf st from rfl,e1,e2]
 refine wpS_bind (wpS_modify (f:=fun _=>setPending st (((pendingOf st).setIfInBounds i (sa,na+nb,pw)).eraseIdxIfInBounds (i+1))) ?_)
 obtain ⟨pd,hpd⟩:∃pd,pd=((pendingOf st).setIfInBounds i (sa,na+nb,pw)).eraseIdxIfInBounds (i+1):=⟨_,rfl⟩
 rw[←hpd] at h ⊢
 have B1:Bs a0 κ (setPending st pd):=⟨B.perm,B.kind,B.ok⟩
 obtain ⟨xs,hxs⟩:∃xs,xs=arrOf st:=⟨_,rfl⟩
 have In:=ax4 B
 have ext0:=fun lo hi=>cm7 B lo hi
 rw[←hxs] at hs u1 u2 h In ext0
 have hxz:sa+na+nb≤xs.size:=by omega
 obtain ⟨key,ek,mk⟩:=In.at (show sa+na < xs.size by omega)
 have ek':(arrOf st)[sa+na]? =some key:=by rw[←hxs];exact ek
 refine wpS_bind (w9 ek' ?_)
 refine wpS_bind (ac7 (left:=false) (arr:=arrOf st) (base:=sa) (n:=na) (hint:=0) C B1.kind (ax4 B) mk (by rw[←hxs];omega) (by omega) (by rw[←hxs];exact u1) fun k kn ka kb=> ?_)
 have ka1:∀i,sa≤i→i < sa+k→R rk xs i≤rk key:=fun i h1 h2=>by
   have:=ka (i - sa) (by omega)
   unfold A6 at this
   rw[if_neg (by decide),←hxs,show sa+(i - sa)=i by omega] at this
   simpa using this
 have kb1:∀i,sa+k≤i→i < sa+na→rk key < R rk xs i:=fun i h1 h2=>by
   have:=kb (i - sa) (by omega) (by omega)
   unfold A6 at this
   rw[if_neg (by decide),←hxs,show sa+(i - sa)=i by omega] at this
   simpa using this
 have rkey:R rk xs (sa+na)=rk key:=C7 ek
 have joined:(∀i,sa≤i→i < sa+na→∀j,sa+na≤j→j < sa+na+nb→R rk xs i≤R rk xs j)→Up rk xs sa (sa+na+nb):=fun g i j h1 h2 h3=>by
   by_cases y:j < sa+na
   · exact u1 i j h1 h2 y
   · by_cases z:i < sa+na
     · exact g i h1 z j (by omega) h3
     · exact u2 i j (by omega) h2 h3
 refine A1 (fun z=> ?_) (fun z=> ?_)
 · have z:na - k=0:=M9 z
   refine wpS_pure (h _ B1 ?_ (by rw[hxs];exact A0.refl _ _ _) rfl)
   show Up rk (arrOf st) _ _
   rw[←hxs]
   refine joined fun i h1 h2 j h3 h4=> ?_
   have a1:=ka1 i h1 (by omega)
   have a2:=u2 (sa+na) j (df2 _) h3 h4
   omega
 have z:¬na - k=0:=O9 z
 have ep:sa+k+(na - k) - 1=sa+na - 1:=by omega
 obtain ⟨key2,ek2,mk2⟩:=In.at (show sa+na - 1 < xs.size by omega)
 have ek2':(arrOf st)[sa+k+(na - k) - 1]? =some key2:=by rw[ep,←hxs];exact ek2
 have rkey2:R rk xs (sa+na - 1)=rk key2:=C7 ek2
 refine wpS_bind (w9 ek2' ?_)
 refine wpS_bind (ac7 (left:=true) (arr:=arrOf st) (base:=sa+na) (n:=nb) (hint:=nb - 1) C B1.kind (ax4 B) mk2 (by rw[←hxs];omega) (by omega) (by rw[←hxs];exact u2) fun k' kn' ka' kb'=> ?_)
 have ka2:∀i,sa+na≤i→i < sa+na+k'→R rk xs i < rk key2:=fun i h1 h2=>by
   have:=ka' (i - (sa+na)) (by omega)
   unfold A6 at this
   rw[if_pos rfl,←hxs,show sa+na+(i - (sa+na))=i by omega] at this
   simpa using this
 have kb2:∀i,sa+na+k'≤i→i < sa+na+nb→rk key2≤R rk xs i:=fun i h1 h2=>by
   have:=kb' (i - (sa+na)) (by omega) (by omega)
   unfold A6 at this
   rw[if_pos rfl,←hxs,show sa+na+(i - (sa+na))=i by omega] at this
   simpa using this
 refine A1 (fun z'=> ?_) (fun z'=> ?_)
 · have z':k'=0:=M9 z'
   refine wpS_pure (h _ B1 ?_ (by rw[hxs];exact A0.refl _ _ _) rfl)
   show Up rk (arrOf st) _ _
   rw[←hxs]
   refine joined fun i h1 h2 j h3 h4=> ?_
   have a1:=kb2 j (by omega) h4
   have a2:=u1 i (sa+na - 1) h1 (by omega) (by omega)
   omega
 have z':¬k'=0:=O9 z'
 have xl:(xs.extract (sa+k) (sa+na)).toList=J3 xs (sa+k) (sa+na):=O4 _ _ _
 have yl:(xs.extract (sa+na) (sa+na+k')).toList=J3 xs (sa+na) (sa+na+k'):=O4 _ _ _
 have xz:(xs.extract (sa+k) (sa+na)).size=na - k:=by rw[Array.size_extract];omega
 have yz:(xs.extract (sa+na) (sa+na+k')).size=k':=by rw[Array.size_extract];omega
 have sx:C8 (Le rk) (xs.extract (sa+k) (sa+na)).toList:=by rw[xl];exact al1 (fun i j h1 h2 h3=>u1 i j (by omega) h2 h3) (by omega)
 have sy:C8 (Le rk) (xs.extract (sa+na) (sa+na+k')).toList:=by rw[yl];exact al1 (fun i j h1 h2 h3=>u2 i j h1 h2 (by omega)) (by omega)
 have fx:∀x,(xs.extract (sa+na) (sa+na+k'))[0]? =some x→∀y∈(xs.extract (sa+k) (sa+na)).toList,Le rk x y:=fun x hx y hy=>by
   rw[bq0 (by omega),dn4,ek] at hx
   rw[xl] at hy
   obtain ⟨i,h1,h2,h3⟩:=T2 (by omega) hy
   have:=kb1 i h1 h2
   rw[C7 h3] at this
   rw[←Option.some.inj hx]
   exact dl0 this
 have ly:∀x∈(xs.extract (sa+na) (sa+na+k')).toList,∀y,(xs.extract (sa+k) (sa+na))[(xs.extract (sa+k) (sa+na)).size - 1]? =some y→Le rk x y:=fun x hx y hy=>by
   rw[xz,bq0 (by omega),show sa+k+(na - k - 1)=sa+na - 1 by omega,ek2] at hy
   rw[yl] at hx
   obtain ⟨i,h1,h2,h3⟩:=T2 (by omega) hx
   have:=ka2 i h1 h2
   rw[C7 h3] at this
   rw[←Option.some.inj hy]
   exact dl0 this
 have fin:∀m t,MQ rk (xs.extract (sa+k) (sa+na)) (xs.extract (sa+na) (sa+na+k')) (setPending st pd) m t→Q true (setArr t (wr (sa+k) m.toList.zipIdx (arrOf t)))∧failedOf t=none:=by
   rintro m t ⟨⟨pm,sm⟩,l⟩
   have lm:m.toList.length=na - k+k':=by rw[pm.length_eq,df7,dh0,dh0,xz,yz]
   have ea:arrOf t=xs:=by rw[l.arr,hxs]
   have hle:sa+k+m.toList.length≤xs.size:=by omega
   have esg:J3 xs (sa+k) (sa+k+m.toList.length)=J3 xs (sa+k) (sa+na)++J3 xs (sa+na) (sa+na+k'):=by
     rw[T3 (by omega) (by omega) (by omega)];congr 1;omega
   have pm':m.toList.Perm (J3 xs (sa+k) (sa+k+m.toList.length)):=by rw[esg,←xl,←yl];exact pm
   have kw:=bp9 hle
   have zw:=ac9 (sa+k) m.toList.zipIdx xs
   refine ⟨h _ ⟨?_,l.kind.trans B1.kind,l.ok.trans B1.ok⟩ ?_ ?_ l.pend,l.ok.trans B1.ok⟩
   · show (wr (sa+k) m.toList.zipIdx (arrOf t)).Perm a0
     rw[ea]
     refine (cm6 hle pm').trans ?_
     rw[hxs];exact B.perm
   · show Up rk (wr (sa+k) m.toList.zipIdx (arrOf t)) sa (sa+na+nb)
     rw[ea]
     refine ct6 ?_ (by omega)
     rw[←T3 (show sa≤sa+k by omega) (show sa+k≤sa+na+nb by omega) (by omega),←T3 (show sa+k≤sa+k+m.toList.length by omega) (show sa+k+m.toList.length≤sa+na+nb by omega) (by omega),cc1 hle,
       ae5 zw kw (.inl (df2 _)) (by omega),ae5 zw kw (.inr (df2 _)) (by omega)]
     have mm:∀x∈m.toList,(∃i,sa+k≤i∧i < sa+na∧xs[i]? =some x)∨(∃i,sa+na≤i∧i < sa+na+k'∧xs[i]? =some x):=fun x hx=>by
       have:=pm.mem_iff.mp hx
       rw[xl,yl] at this
       rcases dg2.mp this with e|e
       · exact .inl (T2 (by omega) e)
       · exact .inr (T2 (by omega) e)
     refine Q6.mpr ⟨al1 (fun i j h1 h2 h3=>u1 i j h1 h2 (by omega)) (by omega),Q6.mpr ⟨sm,al1 (fun i j h1 h2 h3=>u2 i j (by omega) h2 h3) (by omega),fun x hx y hy=> ?_⟩,fun x hx y hy=> ?_⟩
     · obtain ⟨j,j1,j2,j3⟩:=T2 (by omega) hy
       have b2:=kb2 j (by omega) j2
       rw[C7 j3] at b2
       rcases mm x hx with ⟨i,i1,i2,i3⟩|⟨i,i1,i2,i3⟩
       · have b1:=u1 i (sa+na - 1) (by omega) (by omega) (by omega)
         rw[C7 i3,rkey2] at b1
         exact dg5 b1 b2
       · have b1:=ka2 i i1 i2
         rw[C7 i3] at b1
         show rk x≤rk y
         omega
     · obtain ⟨i,i1,i2,i3⟩:=T2 (by omega) hx
       have b1:=ka1 i i1 i2
       rw[C7 i3] at b1
       show rk x≤rk y
       rcases dg2.mp hy with e|e
       · rcases mm y e with ⟨j,j1,j2,j3⟩|⟨j,j1,j2,j3⟩
         · have b2:=kb1 j j1 j2
           rw[C7 j3] at b2
           omega
         · have b2:=u2 (sa+na) j (df2 _) j1 (by omega)
           rw[C7 j3,rkey] at b2
           omega
       · obtain ⟨j,j1,j2,j3⟩:=T2 (by omega) e
         have b2:=u2 (sa+na) j (df2 _) (by omega) j2
         rw[C7 j3,rkey] at b2
         omega
   · show A0 xs (wr (sa+k) m.toList.zipIdx (arrOf t)) _ _
     rw[ea]
     exact kw.wide (by omega) (by omega)
 have ix:=ext0 (sa+k) (sa+na)
 have iy:=ext0 (sa+na) (sa+na+k')
 have k1:kindOf (setPending st pd)=κ:=B1.kind
 have end_:∀m t,MQ rk (xs.extract (sa+k) (sa+na)) (xs.extract (sa+na) (sa+na+k')) (setPending st pd) m t→Q (failedOf (setArr t (wr (sa+k) m.toList.zipIdx (arrOf t)))).isNone (setArr t (wr (sa+k) m.toList.zipIdx (arrOf t))):=fun m t q=>by
   obtain ⟨f1,f2⟩:=fin m t q
   show Q (failedOf t).isNone _
   rw[f2];exact f1
 rw[hxs] at ix iy sx sy fx ly end_ xz yz
 have g1:1≤((arrOf st).extract (sa+k) (sa+na)).size:=by rw[xz];omega
 have g2:1≤((arrOf st).extract (sa+na) (sa+na+k')).size:=by rw[yz];omega
 refine A1 (fun _=> ?_) (fun _=> ?_)
 · refine wpS_bind (wpS_mono (ct4 C k1 ix iy g1 g2 sx sy fx ly) fun m t q=> ?_)
   exact wpS_bind (wpS_modify (wpS_bind (wpS_get (wpS_pure (end_ m t q)))))
 · refine wpS_bind (wpS_mono (ct5 C k1 ix iy g1 g2 sx sy fx ly) fun m t q=> ?_)
   exact wpS_bind (wpS_modify (wpS_bind (wpS_get (wpS_pure (end_ m t q)))))
end
end TS
namespace TS
local macro_rules|`(tactic|omega)=>`(tactic|lia)
open PySem PyProof.Rows
section
variable {rk:Keyed→Nat}
def B0 (rk:Keyed→Nat)(xs:Array Keyed):List (Nat×Nat×Nat)→Nat→Nat→Prop
 |[],a,b=>a=b
 |q::r,a,b=>q.1=a∧1≤q.2.1∧Up rk xs a (a+q.2.1)∧B0 rk xs r (a+q.2.1) b
theorem B0.len {xs:Array Keyed}:∀{l:List (Nat×Nat×Nat)} {a b:Nat},B0 rk xs l a b→a+l.length≤b
 |[],a,b,h=>ds8 h
 |q::r,a,b,⟨h1,h2,h3,h4⟩=>by
  have:=B0.len h4
  rw[dk0];omega
theorem B0.app {xs:Array Keyed}:∀{l m:List (Nat×Nat×Nat)} {a b:Nat},B0 rk xs (l++m) a b↔∃c,B0 rk xs l a c∧B0 rk xs m c b
 |[],m,a,b=>⟨fun h=>⟨a,rfl,h⟩,fun ⟨c,e,h⟩=>by cases e;exact h⟩
 |q::r,m,a,b=>by
  constructor
  · rintro ⟨h1,h2,h3,h4⟩
    obtain ⟨c,g1,g2⟩:=B0.app.mp h4
    exact ⟨c,⟨h1,h2,h3,g1⟩,g2⟩
  · rintro ⟨c,⟨h1,h2,h3,h4⟩,g⟩
    exact ⟨h1,h2,h3,B0.app.mpr ⟨c,h4,g⟩⟩
theorem B0.kept {xs ys:Array Keyed}{lo hi:Nat}(k:A0 xs ys lo hi):∀{l:List (Nat×Nat×Nat)} {a b:Nat},B0 rk xs l a b→b≤lo∨hi≤a→B0 rk ys l a b
 |[],a,b,h,_=>h
 |q::r,a,b,⟨h1,h2,h3,h4⟩,hk=>by
  have:=B0.len h4
  exact ⟨h1,h2,k.up h3 (by omega),B0.kept k h4 (by omega)⟩
theorem bb4 {α:Type}:∀(l:List α) (x y z:α) (m:List α),((l++x::y::m).set l.length z).eraseIdx (l.length+1)=l++z::m
 |[],x,y,z,m=>rfl
 |a::l,x,y,z,m=>by
  show a::(((l++x::y::m).set l.length z).eraseIdx (l.length+1))=_
  rw[bb4 l x y z m];rfl
theorem ct8 {α:Type}{l:List α}{i:Nat}(h:i+1 < l.length):l=l.take i++l[i]::l[i+1]::l.drop (i+2):=by
 have e1:=dl6 (show i < l.length by omega)
 have e2:=dl6 h
 rw[←e2,←e1,dk5]
theorem bq1 {xs:Array Keyed}{pw:Nat}:∀{l:List (Nat×Nat×Nat)} {n a b:Nat},B0 rk xs l a b→B0 rk xs (l.modify n fun q=>(q.1,q.2.1,pw)) a b
 |[],n,a,b,h=>by cases n<;>exact h
 |q::r,0,a,b,⟨h1,h2,h3,h4⟩=>⟨h1,h2,h3,h4⟩
 |q::r,n+1,a,b,⟨h1,h2,h3,h4⟩=>⟨h1,h2,h3,bq1 h4⟩
end
section
variable {prog:Program} {w:World} {A:Around} {E:Value→Shared→Prop} {s:Shared}
variable {rk:Keyed→Nat} {a0:Array Keyed} {κ:SortKind}
theorem cc2 {st:SortSt}{i lo:Nat}{Q:Bool→SortSt→Prop}(C:Cm prog w A s κ rk a0)(B:Bs a0 κ st)(cv:B0 rk (arrOf st) (pendingOf st).toList 0 lo)(hl:lo≤a0.size)(hi:i+1 < (pendingOf st).size)
   (h:∀t,Bs a0 κ t→B0 rk (arrOf t) (pendingOf t).toList 0 lo→(pendingOf t).size+1=(pendingOf st).size→A0 (arrOf st) (arrOf t) 0 lo→Q true t):wpS (model prog w) A E s (mergeAt' i) Q st:=by
 obtain ⟨l,hl0⟩:∃l,l=(pendingOf st).toList:=⟨_,rfl⟩
 have ll:l.length=(pendingOf st).size:=by rw[hl0];simp
 have hil:i+1 < l.length:=by omega
 have e:=ct8 hil
 rw[←hl0,e] at cv
 obtain ⟨c,c1,d1,d2,d3,f1,f2,f3,g⟩:=B0.app.mp cv
 have lg:=B0.len g
 have e1:(pendingOf st)[i]? =some (c,l[i].2.1,l[i].2.2):=by
   rw[←dj8,←hl0,df0 (by omega),←d1]
 have e2:(pendingOf st)[i+1]? =some (c+l[i].2.1,l[i+1].2.1,l[i+1].2.2):=by
   rw[←dj8,←hl0,df0 hil,←f1]
 refine ct7 C B e1 e2 d2 f2 (by omega) d3 f3 fun t B' u k p=> ?_
 have lt:(l.take i).length=i:=by rw[dg7];omega
 have ep:(pendingOf t).toList=l.take i++(c,l[i].2.1+l[i+1].2.1,l[i].2.2)::l.drop (i+2):=by
   rw[p,Array.toList_eraseIdxIfInBounds,Array.toList_setIfInBounds,←hl0]
   have:=bb4 (l.take i) l[i] l[i+1] (c,l[i].2.1+l[i+1].2.1,l[i].2.2) (l.drop (i+2))
   rw[lt,←e] at this
   exact this
 have lc:=B0.len c1
 refine h t B' ?_ ?_ (k.wide (dh2 _) (by omega))
 · rw[ep]
   refine B0.app.mpr ⟨c,B0.kept k c1 (.inl (df2 _)),rfl,by show 1≤l[i].2.1+l[i+1].2.1;omega,?_,?_⟩
   · show Up rk (arrOf t) c (c+(l[i].2.1+l[i+1].2.1))
     rw[←du8];exact u
   · show B0 rk (arrOf t) (l.drop (i+2)) (c+(l[i].2.1+l[i+1].2.1)) lo
     rw[←du8]
     exact B0.kept k g (.inr (df2 _))
 · rw[←dh0,ep,df7,dk0,di0,lt]
   omega
theorem cy8 {c:Prop}[Decidable c]{a b n:Nat}(h1:a≤n)(h2:b≤n):(if c then a else b)≤n:=by split<;>assumption
theorem cg8 {t:SortSt}{lo n:Nat}(cv:B0 rk (arrOf t) (pendingOf t).toList 0 lo)(n1:1≤n)(u:Up rk (arrOf t) lo (lo+n)):B0 rk (arrOf t) ((pendingOf t).push (lo,n,0)).toList 0 (lo+n):=by
 rw[dq3]
 exact B0.app.mpr ⟨lo,cv,rfl,n1,u,rfl⟩
theorem dd6 {st:SortSt}{Q:Unit→SortSt→Prop}(C:Cm prog w A s κ rk a0)(B:Bs a0 κ st)(pe:pendingOf st= #[])(h2:2≤a0.size)
   (h:∀t,Bs a0 κ t→Up rk (arrOf t) 0 a0.size→Q () t):wpS (model prog w) A E s sortRuns' Q st:=by
 rw[sortRuns'_eq]
 refine wpS_bind (wpS_get ?_)
 dsimp only
 rw[B.size]
 generalize minRun' a0.size a0.size 0=mr
 refine wpS_bind (wpS_mono (wpS_forRange (I:=fun x c t=>∃lo,c=(none,lo)∧Bs a0 κ t∧B0 rk (arrOf t) (pendingOf t).toList 0 lo∧lo≤a0.size∧(x≤lo∨a0.size≤lo))
   (Q:=fun c t=>∃lo,c=(none,lo)∧Bs a0 κ t∧B0 rk (arrOf t) (pendingOf t).toList 0 lo∧lo=a0.size) ?step ?fin ⟨0,rfl,B,by rw[pe];exact rfl,dh2 _,.inl (df2 _)⟩) ?post)
 case fin=>
   rintro c t ⟨lo,rfl,B',cv,h3,h4⟩
   exact ⟨lo,rfl,B',cv,by omega⟩
 case step=>
   rintro x c t _ xn ⟨lo,rfl,B',cv,h3,h4⟩
   refine A1 (fun z=>wpS_pure ⟨lo,rfl,B',cv,by have z:lo≥a0.size:=z;omega⟩) (fun z=> ?_)
   have z:¬lo≥a0.size:=z
   refine wpS_bind (wpS_mono (ct2 (lo:=lo) (nrem:=a0.size - lo) C (by omega) (by omega) B') ?_)
   rintro r t1 ⟨n,rfl,B1,n1,n2,u1,k1,p1⟩
   have cv1:B0 rk (arrOf t1) (pendingOf t1).toList 0 lo:=by rw[p1];exact B0.kept k1 cv (.inl (df2 _))
   clear k1 p1
   refine A1 (fun y=> ?_) (fun y=> ?_)
   have y:n < mr:=y
   refine wpS_bind (wpS_lift (wpAny_rule ⟨rfl,?_⟩))
   refine wpS_bind (ct1 (lo:=lo) (n:=min (a0.size - lo) mr) (ok:=n) C (by omega) (by omega) B1 u1 fun t2 B2 u2 k2 p2=> ?_)
   refine A1 (fun h=>absurd h (by decide)) (fun _=> ?_)
   have cv2:B0 rk (arrOf t2) (pendingOf t2).toList 0 lo:=by rw[p2];exact B0.kept k2 cv1 (.inl (df2 _))
   have N1:1≤min (a0.size - lo) mr:=by omega
   have N2:lo+min (a0.size - lo) mr≤a0.size:=by omega
   clear p2 k2
   generalize min (a0.size - lo) mr=N at u2 N1 N2 ⊢
   rotate_left
   have N1:1≤n:=n1
   have N2:lo+n≤a0.size:=by omega
   have B2:=B1
   have u2:=u1
   have cv2:=cv1
   generalize t1=t2 at B2 u2 cv2 ⊢
   generalize n=N at N1 N2 u2 ⊢
   rotate_left
   all_goals
     refine wpS_bind (wpS_get ?_)
     cases hb:(pendingOf t2).back? with
     |none=>
      exact wpS_bind (wpS_modify (wpS_pure ⟨lo+N,rfl,⟨B2.perm,B2.kind,B2.ok⟩,cg8 cv2 N1 u2,N2,by omega⟩))
     |some q=>
      obtain ⟨s1,m1,pw⟩:=q
      refine wpS_bind (wpS_mono (wpS_forRange (I:=fun y c t=>c=(none,())∧Bs a0 κ t∧B0 rk (arrOf t) (pendingOf t).toList 0 lo∧Up rk (arrOf t) lo (lo+N))
        (Q:=fun c t=>c=(none,())∧Bs a0 κ t∧B0 rk (arrOf t) (pendingOf t).toList 0 lo∧Up rk (arrOf t) lo (lo+N)) ?_ (fun _ _ h=>h) ⟨rfl,B2,cv2,u2⟩) ?_)
      · rintro y c t3 _ yn ⟨rfl,B3,cv3,u3⟩
        refine wpS_bind (wpS_get ?_)
        by_cases g:(pendingOf t3).size > 1
        · rw[if_pos g,dq0 (show (pendingOf t3).size - 2 < (pendingOf t3).size by omega)]
          refine A1 (fun _=>wpS_pure ⟨rfl,B3,cv3,u3⟩) (fun _=> ?_)
          refine wpS_bind (cc2 C B3 cv3 (by omega) (by omega) fun t4 B4 cv4 sz k4=> ?_)
          refine A1 (fun h=>absurd h (by decide)) (fun _=> ?_)
          exact wpS_pure ⟨rfl,B4,cv4,k4.up u3 (.inr (df2 _))⟩
        · rw[if_neg g]
          exact wpS_pure ⟨rfl,B3,cv3,u3⟩
      · rintro c t3 ⟨rfl,B3,cv3,u3⟩
        refine wpS_bind (wpS_modify (wpS_bind (wpS_modify (wpS_pure ⟨lo+N,rfl,⟨B3.perm,B3.kind,B3.ok⟩,?_,N2,by omega⟩))))
        show B0 rk (arrOf t3) (dl1 (Array.push (Array.modify (pendingOf t3) _ _) (lo,N,0))) 0 (lo+N)
        rw[dq3,Array.toList_modify]
        exact B0.app.mpr ⟨lo,bq1 cv3,rfl,N1,u3,rfl⟩
 case post=>
   rintro c t ⟨lo,rfl,B',cv,rfl⟩
   dsimp only
   have lc:=B0.len cv
   refine wpS_bind (wpS_mono (wpS_forRange (I:=fun x c t=>c=(none,())∧Bs a0 κ t∧B0 rk (arrOf t) (pendingOf t).toList 0 a0.size∧((pendingOf t).size≤1∨(pendingOf t).size+x≤a0.size))
     (Q:=fun c t=>c=(none,())∧Bs a0 κ t∧B0 rk (arrOf t) (pendingOf t).toList 0 a0.size∧(pendingOf t).size≤1) ?stepE ?finE ⟨rfl,B',cv,.inr (by rw[←dh0];omega)⟩) ?postE)
   case finE=>
     rintro c t ⟨rfl,B',cv,z⟩
     exact ⟨rfl,B',cv,by omega⟩
   case stepE=>
     rintro x c t _ xn ⟨rfl,B',cv,z⟩
     refine wpS_bind (wpS_get ?_)
     refine A1 (fun y=>wpS_pure ⟨rfl,B',cv,y⟩) (fun y=> ?_)
     have y:¬(pendingOf t).size≤1:=y
     refine wpS_bind (cc2 C B' cv (df2 _) ?_ fun t2 B2 cv2 sz _=> ?_)
     · exact dj5 (Nat.succ_le_succ (cy8 (n:=(pendingOf t).size - 2) (by omega) (df2 _))) (by omega)
     · exact wpS_pure ⟨rfl,B2,cv2,by omega⟩
   case postE=>
     rintro c t ⟨rfl,B',cv,z⟩
     refine wpS_pure (h t B' ?_)
     obtain ⟨l,hl⟩:∃l,l=(pendingOf t).toList:=⟨_,rfl⟩
     have ll:l.length≤1:=by rw[hl,dh0];exact z
     rw[←hl] at cv
     match l,ll,cv with
     |[],_,cv=>have:0=a0.size:=cv;omega
     |[q],_,⟨c1,c2,c3,c4⟩=>
      have c4:0+q.2.1=a0.size:=c4
      rw[c4] at c3
      exact c3
end
end TS
namespace L2
open PySem PySem.Spec PyProof.Rows
section
variable {prog:Program} {w:World} {A:Around} {E:Value→Shared→Prop} {s:Shared}
structure au0 (prog:Program)(w:World)(A:Around)(s:Shared)(rk:Value→Nat)(vs:List Value):Prop where
 kind:2≤vs.length→∀(Q:SortKind→Shared→Prop) (E:Value→Shared→Prop),Q oneType' s→wpAny (model prog w) A (keyKind' vs.toArray) Q E s
 less:∀x∈vs,∀y∈vs,∀(Q:Bool→Shared→Prop) (E:Value→Shared→Prop),Q (decide (rk x < rk y)) s→wpAny (model prog w) A (oneLt' true x y) Q E s
theorem ax5 {vs:List Value}{p:Keyed}(h:p∈(pairsOf vs).toList):p.1∈vs∧p.2=p.1:=by
 rw[pairsOf_toList] at h
 obtain ⟨i,hi⟩:=dh8.mp h
 obtain ⟨x,y⟩:=p
 rw[List.getElem?_zip_eq_some] at hi
 obtain ⟨e1,e2⟩:=hi
 rw[e1] at e2
 exact ⟨dg1 e1,(Option.some.inj e2).symm⟩
theorem ct9 {rk:Value→Nat}{vs:List Value}{xs:Array Keyed}(hp:xs.Perm (pairsOf vs))(u:TS.Up (fun p=>rk p.1) xs 0 xs.size):(xs.map (·.2)).toList.Perm vs∧(xs.map (·.2)).toList.Pairwise (fun x y=>rk x≤rk y):=by
 have pl:=dn9.mp hp
 have e:xs.toList.map (·.2)=xs.toList.map (·.1):=dk6 fun p hp'=>(ax5 (pl.mem_iff.mp hp')).2
 rw[dx8]
 constructor
 · refine (pl.map _).trans ?_
   rw[←dx8,bb3]
 · show List.Pairwise _ (xs.toList.map (·.2))
   rw[e]
   exact dn6.mpr (TS.da2 u)
theorem cy9 {rk:Value→Nat}{vs:List Value}(h:au0 prog w A s rk vs):TS.Cm prog w A s oneType' (fun p=>rk p.1) (pairsOf vs):=fun x hx y hy Q E' q=>by
 rw[keyLt'_oneType]
 exact h.less x.1 (ax5 hx).1 y.1 (ax5 hy).1 Q E' q
theorem cz0 {a:Addr}{vs:List Value}{rk:Value→Nat}{n:Nat}{P:Fin→Shared→Prop}(ho:s.heap.get? a=some (seqObj "list" vs.toArray n))(hl:vs.length≤sizeLine)
   (ok:∀h':Heap,(∀b o,b≠a→s.heap.get? b=some o→h'.get? b=some o)→au0 prog w A {s with heap:=h'} rk vs)
   (h:∀out:List Value,out.Perm vs→out.Pairwise (fun x y=>rk x≤rk y)→P (.done (.ret .none)) {s with heap:=sortedHeap s.heap a vs out.toArray}):wpAny (model prog w) A (Builtin.«list.sort» ⟨[.ref a],[]⟩) P E s:=by
 rw[list_sort_plain]
 have ha:a < s.heap.objs.size:=Heap.lt_size ho
 have hsz:vs.toArray.size=vs.length:=by simp
 refine wpAny_bind (listItems_at ho rfl ?_)
 refine wpAny_bind (listUpdate_at ho rfl ?_ (by rw[hsz];exact hl) (dh2 _))
 obtain ⟨e1,ho1⟩:∃e1,(s.heap.update a (Obj.mapSeq fun _=> #[])).get? a=some (seqObj "list" #[] e1):=⟨_,get?_update_seq ho (fun _=> #[])⟩
 refine wpAny_bind (seqEpoch_at ho1 rfl ?_)
 refine wpAny_bind (wpAny_newTuple ?_ (hsz:=hl))
 refine wpAny_bind (wpAny_newList ?_)
 refine wpAny_holding ?_
 obtain ⟨H6,e6⟩:∃H6,H6=((s.heap.update a (Obj.mapSeq fun _=> #[])).push (seqObj "tuple" vs.toArray 0)).push (seqObj "list" #[] 0):=⟨_,rfl⟩
 have ho6:H6.get? a=some (seqObj "list" #[] e1):=by
   rw[e6,Heap.get?_push_ne _ _ _ (by rw[size_push',Heap.size_update];exact dk1 (du0 ha)),Heap.get?_push_ne _ _ _ (by rw[Heap.size_update];exact dk1 ha)]
   exact ho1
 have old:∀b o,b≠a→s.heap.get? b=some o→H6.get? b=some o:=by
   intro b o nb hb
   rw[e6]
   refine Heap.get?_push_of_some _ (Heap.get?_push_of_some _ ?_)
   rw[Heap.get?_update_ne _ _ _ _ nb]
   exact hb
 have ok6:=ok H6 old
 show wpAny (model prog w) A _ P E {s with heap:=((s.heap.update a (Obj.mapSeq fun _=> #[])).push (seqObj "tuple" vs.toArray 0)).push (seqObj "list" #[] 0)}
 unfold sortedHeap at h
 rw[←e6] at h ⊢
 dsimp only
 by_cases h2:vs.toArray.size < 2
 · rw[if_pos h2,if_pos h2]
   refine wpAny_bind (wpAny_pure ?_)
   rw[StateT.run_pure]
   refine wpAny_bind (wpAny_pure ?_)
   dsimp only
   refine wpAny_bind (seqEpoch_at ho6 rfl ?_)
   have ee:(arrOf (SortSt.mk' general' (vs.toArray.zip vs.toArray) #[] 7 none)).map (·.2)=vs.toArray:=bb3 vs
   rw[ee]
   refine wpAny_bind (listUpdate_at ho6 rfl ?_ (dh2 _) (by rw[hsz];omega))
   simp only[bne_self_eq_false,dn2,if_false]
   refine wpAny_pure (h vs (List.Perm.refl _) ?_)
   match vs,hsz,h2 with
   |[],_,_=>exact List.Pairwise.nil
   |[_],_,_=>exact dr2 _ _
   |_::_::_,_,h2=>simp at h2;omega
 · rw[if_neg h2,if_neg h2]
   refine wpAny_bind (ok6.kind (by omega) _ _ ?_)
   refine wpAny_bind (wpAny_mono (TS.dd6 (s:={s with heap:=H6}) (st:=SortSt.mk' oneType' (vs.toArray.zip vs.toArray) #[] 7 none) (a0:=pairsOf vs) (rk:=fun p=>rk p.1)
     (Q:=fun _ st'=>(arrOf st').Perm (pairsOf vs)∧failedOf st'=none∧TS.Up (fun p=>rk p.1) (arrOf st') 0 (pairsOf vs).size) (cy9 ok6) ⟨Array.Perm.refl _,rfl,rfl⟩ rfl (by rw[pairsOf_size];omega) fun t B u=>⟨B.perm,B.ok,u⟩) ?_ fun _ _ e=>e)
   rintro ⟨⟨⟩,st'⟩ s' ⟨rfl,hp,hf,hu⟩
   dsimp only
   rw[←hp.size_eq] at hu
   obtain ⟨o1,o2⟩:=ct9 hp hu
   refine wpAny_bind (seqEpoch_at ho6 rfl ?_)
   refine wpAny_bind (listUpdate_at ho6 rfl ?_ (dh2 _) (by rw[Array.size_map,hp.size_eq,pairsOf_size];omega))
   rw[hf]
   simp only[bne_self_eq_false,dn2,if_false]
   have:=h _ o1 o2
   rw[Array.toArray_toList] at this
   exact wpAny_pure this
theorem cm8 {l:Addr}{vs:List Value}{rk:Value→Nat}{Q:Value→Shared→Prop}(pl:s.heap.IsList l vs.toArray)(hl:vs.length≤sizeLine)
   (ok:∀h':Heap,(∀b o,b < s.heap.objs.size→s.heap.get? b=some o→h'.get? b=some o)→au0 prog w A.in1.in1 {s with heap:=h'} rk vs)
   (h:∀out:List Value,out.Perm vs→out.Pairwise (fun x y=>rk x≤rk y)→Q (.ref (s.heap.objs.size+1)) {s with heap:=sortedAll s.heap vs out.toArray}):wpAny (model prog w) A (call (.builtin "sorted") [.ref l]) Q E s:=by
 refine Calls.call_function_entry kind_sorted plain_sorted entry_sorted (args_sorted1 _) ?_
 unfold Builtin.«sorted»
 refine wpAny_bind (m:=checkCount "sorted" 1 1 _) (wpAny_pure ?_)
 refine wpAny_bind (collect_list pl ?_ hl)
 refine wpAny_bind (wpAny_newList ?_ (hsz:=hl))
 have hsz:((s.heap.push (seqObj "list" #[] 0)).update s.heap.objs.size (Obj.mapSeq (· ++vs.toArray))).objs.size=s.heap.objs.size+1:=by
   rw[Heap.size_update,size_push']
 have hoL:(((s.heap.push (seqObj "list" #[] 0)).update s.heap.objs.size (Obj.mapSeq (· ++vs.toArray))).push (seqObj "list" vs.toArray 0)).get? (s.heap.objs.size+1)=some (seqObj "list" vs.toArray 0):=by
   rw[←hsz];exact Heap.get?_push_size _ rfl
 show wpAny _ _ _ _ _ {s with heap:=((s.heap.push (seqObj "list" #[] 0)).update s.heap.objs.size (Obj.mapSeq (· ++vs.toArray))).push (seqObj "list" vs.toArray 0)}
 rw[hsz]
 refine wpAny_bind (wpAny_holding (wpAny_call_entry slot_list_sort ⟨_,hoL,rfl⟩ entry_list_sort (cz0 hoL hl (rk:=rk) (fun h' old=>ok h' fun b o lt e=>old b o (dk1 (du0 lt)) ?_) fun out o1 o2=>⟨_,rfl,?_⟩) (args_list_sort _)))
 · refine Heap.get?_push_of_some _ ?_
   rw[Heap.get?_update_ne _ _ _ _ (dk1 lt)]
   exact Heap.get?_push_of_some _ e
 · exact wpAny_pure ⟨_,rfl,h out o1 o2⟩
end
end L2
namespace L2
open PySem PySem.Spec PyProof.Rows
section
variable {α:Type}
theorem ae6 {p q:α→Bool}(h:∀a,p a=true→q a=true):∀{l:List α} {x:α},x∈l→p x=false→q x=true→l.countP p < l.countP q
 |[],x,hx,_,_=>by cases hx
 |y::l,x,hx,px,qx=>by
  have le:l.countP p≤l.countP q:=List.countP_mono_left fun a _=>h a
  rw[dq7,dq7]
  by_cases e:x=y
  · subst e
    rw[px,qx]
    simp;omega
  · have hx':x∈l:=by
      rcases dg9.mp hx with z|z
      · exact absurd z e
      · exact z
    have:=ae6 h hx' px qx
    cases hp:p y with
    |false=>simp;split<;>omega
    |true=>rw[h y hp];simp;omega
def ai5 (lt:α→α→Bool)(l:List α)(x:α):Nat:=l.countP fun y=>lt y x
theorem cm9 {lt:α→α→Bool}(ir:∀a,lt a a=false)(tr:∀a b c,lt a b=true→lt b c=true→lt a c=true)(tot:∀a b,lt a b=false→lt b a=true∨a=b){l:List α}{x y:α}(hx:x∈l)(hy:y∈l):decide (ai5 lt l x < ai5 lt l y)=lt x y:=by
 unfold ai5
 cases h:lt x y with
 |true=>exact decide_eq_true (ae6 (fun a ha=>tr a x y ha h) hx (ir x) h)
 |false=>
  refine decide_eq_false ?_
  rcases tot x y h with z|z
  · have:=ae6 (fun a ha=>tr a y x ha z) hy (ir y) z
    omega
  · rw[z];omega
theorem cn0 {lt:α→α→Bool}(ir:∀a,lt a a=false)(tr:∀a b c,lt a b=true→lt b c=true→lt a c=true){l:List α}{x y:α}(hy:y∈l)(h:ai5 lt l x≤ai5 lt l y):lt y x=false:=by
 cases z:lt y x with
 |false=>rfl
 |true=>
  have:=ae6 (l:=l) (fun a ha=>tr a y x ha z) hy (ir y) z
  unfold ai5 at h
  omega
end
theorem ax6:∀a:List Int,HT.ak3 a a=false
 |[]=>rfl
 |x::a=>by rw[HT.bt1,if_pos rfl];exact ax6 a
theorem bq2:∀a b:List Int,HT.ak3 a b=false→HT.ak3 b a=true∨a=b
 |[],[],_=> .inr rfl
 |[],_::_,h=>by rw[HT.cl1] at h;cases h
 |_::_,[],_=> .inl rfl
 |x::a,y::b,h=>by
  rw[HT.bt1] at h ⊢
  by_cases e:x=y
  · rw[if_pos e] at h
    rw[if_pos e.symm]
    rcases bq2 a b h with z|z
    · exact .inl z
    · exact .inr (by rw[e,z])
  · rw[if_neg e] at h
    rw[if_neg (fun z=>e z.symm)]
    have:=of_decide_eq_false h
    exact .inl (decide_eq_true (by omega))
theorem bi1:∀a b c:List Int,HT.ak3 a b=true→HT.ak3 b c=true→HT.ak3 a c=true
 |[],[],_,h,_=>by cases h
 |_::_,[],_,h,_=>by cases h
 |_,_::_,[],_,h=>by cases h
 |[],_::_,_::_,_,_=>rfl
 |x::a,y::b,z::c,h,g=>by
  rw[HT.bt1] at h g ⊢
  by_cases e:x=y
  · subst e
    rw[if_pos rfl] at h
    by_cases e2:x=z
    · subst e2
      rw[if_pos rfl] at g ⊢
      exact bi1 a b c h g
    · rw[if_neg e2] at g ⊢;exact g
  · rw[if_neg e] at h
    have h1:=of_decide_eq_true h
    by_cases e2:y=z
    · subst e2
      rw[if_neg e];exact h
    · rw[if_neg e2] at g
      have g1:=of_decide_eq_true g
      rw[if_neg (by omega)]
      exact decide_eq_true (by omega)
section
variable {prog:Program} {w:World} {A:Around} {E:Value→Shared→Prop} {s:Shared}
theorem cc3 (hu:A.units < cLine){x y:Value}{ns ms:List Int}(hx:Z8 s.heap x ns)(hy:Z8 s.heap y ms){Q:Bool→Shared→Prop}(q:Q (HT.ak3 ns ms) s):wpAny (model prog w) A (oneLt' true x y) Q E s:=by
 obtain ⟨p,xs,n,rfl,ox,ix⟩:=hx
 obtain ⟨p2,ys,m,rfl,oy,iy⟩:=hy
 rw[oneLt'_eq]
 simp only[if_true]
 refine wpAny_bind (wpAny_cRoomFor hu ?_)
 refine wpAny_bind (wpAny_callSpecialIfBound?_slot (T:="list") ⟨_,ox,rfl⟩ PySem.F.slot_list_lt (call_meets PySem.F.slot_list_lt ⟨_,ox,rfl⟩ PySem.F.entry_list_lt (PySem.F.args_list_lt_2 _ _) (HT.ct0 p p2 xs ys n m ns ms ix iy) ⟨⟨ox,oy⟩,?_⟩))
 exact wpAny_truthy_bool q
def adr:Value→Addr
 | .ref a=>a
 |_=>0
theorem aa0:∀{bs:List Addr} {us:List Value},j8 (bs.map V.ref) us→us=bs.map Value.ref
 |[],us,h=>by cases h;rfl
 |b::bs,us,h=>by
  cases h with
  |cons h1 h2=>
   cases h1
   rw[aa0 h2];rfl
theorem bb5:∀bs:List Addr,j8 (bs.map V.ref) (bs.map Value.ref)
 |[]=> .nil
 |b::bs=> .cons rfl (bb5 bs)
theorem cg9 {bs:List Addr}{R:Addr→List Int}(hu:A.units < cLine)(row:∀b∈bs,Z8 s.heap (.ref b) (R b)):au0 prog w A s (fun v=>ai5 HT.ak3 (bs.map R) (R (adr v))) (bs.map Value.ref):=by
 constructor
 · intro h2 Q E q
   match bs,h2,row with
   |[],h2,_=>simp at h2
   |[_],h2,_=>simp at h2
   |b1::b2::bs,_,row=>
    have hr:∀v,v∈Value.ref b1::Value.ref b2::bs.map Value.ref→∃ns,Z8 s.heap v ns:=fun v hv=>by
      obtain ⟨b,hb,rfl⟩:=df9.mp (show v∈(b1::b2::bs).map Value.ref from hv)
      exact ⟨_,row b hb⟩
    exact cb8 hr q
 · intro x hx y hy Q E q
   obtain ⟨b,hb,rfl⟩:=df9.mp hx
   obtain ⟨c,hc,rfl⟩:=df9.mp hy
   refine cc3 hu (row b hb) (row c hc) ?_
   have:=cm9 ax6 bi1 bq2 (l:=bs.map R) (df9.mpr ⟨b,hb,rfl⟩) (df9.mpr ⟨c,hc,rfl⟩)
   show Q (HT.ak3 (R b) (R c)) s
   rw[←this];exact q
end
end L2
namespace L2
open PySem PySem.Spec PyProof.Rows
section
variable {X:Cx}
theorem bi2 (hu:X.A.in1.in1.units < cLine):N9 X (.builtin "sorted") (fun xs H Q=>∃(p:Addr) (bs:List Addr) (rs:List (List Int)),xs=[.ref p]∧h8 X.K H p (bs.map V.ref)∧l8 H bs rs∧
   ∀(cs:List Addr) (ts:List (List Int)) l,cs.Perm bs→ts.Perm rs→l8 H cs ts→ts.Pairwise (fun r r'=>HT.ak3 r' r=false)→H l=none→Q (.ref l) (e7 H l (.lst (cs.map V.ref)))):=by
 intro pins s σ H xs us Q I r h
 obtain ⟨p,bs,rs,rfl,hp,hr,q⟩:=h
 obtain ⟨u,rfl,rx⟩:=R3 r
 cases rx
 obtain ⟨its,rv,pl,hl⟩:=I.list hp
 have ev:=aa0 rv
 subst ev
 have rows:∀b∈bs,∃r:List Int,H b=some (.lst (r.map V.int)):=fun b hb=>by
   obtain ⟨j,hj⟩:=dh8.mp hb
   have hjl:j < rs.length:=by rw[←hr.1];exact (df1.mp hj).1
   exact ⟨_,hr.2 j b _ hj (df0 hjl)⟩
 have er:=bu1 hr
 have each:∀h':Heap,(∀b o,b < s.heap.objs.size→s.heap.get? b=some o→h'.get? b=some o)→∀b∈bs,Z8 h' (.ref b) (R5 H b):=by
   intro h' old b hb
   obtain ⟨r,e⟩:=rows b hb
   obtain ⟨_,its,n,v,g⟩:=(show q0 X.prog X.w H s.heap b (.lst (r.map V.int)) from I.hok b _ e)
   rw[an9 e]
   exact ⟨b,its.toArray,n,rfl,old b _ (Heap.lt_size g) g,by simpa using W1 v⟩
 have hll:(bs.map V.ref).length=bs.length:=de9 ..
 refine cm8 (rk:=fun v=>ai5 HT.ak3 (bs.map (R5 H)) (R5 H (adr v))) pl.isList (by rw[de9];omega) (fun h' old=>cg9 hu (each h' old)) fun out o1 o2=> ?_
 have eo:out=(out.map adr).map Value.ref:=by
   rw[dj4]
   refine (ds3 out).symm.trans (dk6 fun v hv=> ?_)
   obtain ⟨b,_,rfl⟩:=df9.mp (o1.mem_iff.mp hv)
   rfl
 have pb:(out.map adr).Perm bs:=by
   have:=o1.map adr
   rw[dj4] at this
   have e2:bs.map (adr∘Value.ref)=bs:=(dk6 fun b _=>rfl).trans (ds3 bs)
   rw[e2] at this
   exact this
 have st:((out.map adr).map (R5 H)).Pairwise (fun r r'=>HT.ak3 r' r=false):=by
   rw[dj4]
   refine dn6.mpr (List.Pairwise.imp_of_mem (fun {x y} hx hy h=> ?_) o2)
   refine cn0 ax6 bi1 (l:=bs.map (R5 H)) ?_ h
   exact df9.mpr ⟨adr y,pb.mem_iff.mp (df9.mpr ⟨y,hy,rfl⟩),rfl⟩
 have rw':l8 H (out.map adr) ((out.map adr).map (R5 H)):=⟨(de9 ..).symm,fun j a r e1 e2=>by
   rw[df3,e1] at e2
   have:=Option.some.inj e2
   obtain ⟨r',e⟩:=rows a (pb.mem_iff.mp (dg1 e1))
   rw[←this,an9 e];exact e⟩
 have pr:((out.map adr).map (R5 H)).Perm rs:=by rw[←er];exact pb.map _
 obtain ⟨e,he⟩:=sortedAll_at s.heap (bs.map Value.ref) out.toArray
 refine ⟨.ref (s.heap.objs.size+1),_,I.laid (t':=s.toks) (fun _ _ q=>sortedAll_old q) (ds1 _) (show q0 X.prog X.w _ _ _ (.lst ((out.map adr).map V.ref)) from ⟨by rw[de9,pb.length_eq];omega,out,e,?_,he⟩),rfl,q _ _ _ pb pr rw' st (I.hok.fresh (ds1 _))⟩
 have:=bb5 (out.map adr)
 rw[←eo] at this
 exact this
variable {e:Expr} {t:TA} {p pos kpos:Pos}
def ch1 (K:PySem.W.Frag)(t:TA):TE:=Z6 (fun xs H Q=>∃(p:Addr) (bs:List Addr) (rs:List (List Int)),xs=[.ref p]∧h8 K H p (bs.map V.ref)∧l8 H bs rs∧
 ∀(cs:List Addr) (ts:List (List Int)) l,cs.Perm bs→ts.Perm rs→l8 H cs ts→ts.Pairwise (fun r r'=>HT.ak3 r' r=false)→H l=none→Q (.ref l) (e7 H l (.lst (cs.map V.ref)))) t
theorem bn3 (hu:X.A.units+1+1 < cLine)(hm:X.mg "sorted"=none)(ha:PA X [e] t)(hg:Gl X "sorted":=by rfl)(he:starEach [e] X.env=(false,eval e X.env)::starEach [] X.env:=by rfl):
 PE X (.Call (.Name "sorted" p) [e] [] pos) (ch1 X.K t):=P5 (bi2 (by simpa [Around.in1] using hu)) hg hm X8 ha (by decide) (by decide) he rfl
end
end L2
namespace L2
open PySem PySem.Spec PyProof PyProof.Rows
def cz1 (i j:Int):Prop:=i.natAbs < 2^20000∧j.natAbs < 2^20000
theorem cn1 {i j:Int}{n:Nat}(hn:n≤2^20)(h1:i.natAbs < 2^n)(h2:j.natAbs < 2^n):IntMulOk i j:=by
 refine IntMulOk.of_bits ?_ ?_
 · exact dg5 (PySem.intBits_le_iff.mpr h1) hn
 · exact dg5 (PySem.intBits_le_iff.mpr h2) hn
theorem bq3 {X:Cx}:K6 X (binaryOp .Mult) (rI cz1 fun i j=> .int (i*j)):=opI fun _ _ _ _ _ _ _ hc q=>mul_int q (cn1 (by decide) hc.1 hc.2)
end L2
namespace L2
open PySem PySem.Spec PyProof.Rows
section
variable {P:Program} {w:World} {K:PySem.W.Frag} {mg:Str→Option Value} {base h:Heap} {x:Str} {st:Stmt} {f:Addr} {fd:FuncData} {ps:List Str} {k:Nat} {sp:Sp}
def Fu (K:PySem.W.Frag)(x:Str)(st:Stmt)(f:Addr):Prop:=∃fd,PySem.W.nsIn K mainGlobals x=some (some (.ref f))∧A4 K x x st f fd
theorem cz2 {oc:Value}{od an:Option Addr}{osl:Array (Option Value)}{kV doc pm cdv ct:Value}(a:PySem.W.nsIn K mainGlobals x=some (some (.ref f)))(l:K.lookup f=some ⟨oc,od,.func (PySem.W.fnOf x x (W5 st) (S5 st) (i7 st) .none kV doc pm an cdv ct),osl⟩)
 (c:PySem.W.codeIn K cdv x=true) (k:PySem.W.keepIn K (.ref f)=true):Fu K x st f:=⟨_,a,cs2 l c k⟩
theorem i5 (X:K.In h)(G:h.Ns mainGlobals mg)(a:PySem.W.nsIn K mainGlobals x=some (some (.ref f)))(F:A4 K x x st f fd)(b:ad8 K fd ps [])(ok:o4 P w K mg base A2 k f fd ps sp):j9 P w K mg base x k ps sp:=⟨f,fd,PySem.W.mg_of X G a,F.kp,b,ok⟩
def Fre (K:PySem.W.Frag):List Str→Prop
 |[]=>True
 |x::l=>PySem.W.nsIn K mainGlobals x=some none∧Fre K l
end
end L2
namespace My
open PySem L2 Mth
def C1 (i:Nat):Stmt:=PySem.Challenge.pw_turnroots_k25_whole_no_root_is_sooner.main.body.getD i (.Pass ⟨0,0,0,0⟩)
abbrev ae7:Stmt:=C1 8
abbrev N0:Stmt:=C1 9
abbrev V2:Stmt:=C1 10
abbrev R6:Stmt:=C1 11
abbrev aa7:Stmt:=C1 12
abbrev Y2:Stmt:=C1 13
abbrev N3:Stmt:=C1 14
abbrev Q0:Stmt:=C1 15
abbrev ae8:Stmt:=C1 16
abbrev R7:Stmt:=C1 17
abbrev ai6:Stmt:=C1 20
abbrev T4:Stmt:=C1 21
abbrev ae9:Stmt:=C1 22
abbrev aa8:Stmt:=C1 24
abbrev ai7:Stmt:=C1 25
abbrev ai8:Stmt:=C1 26
abbrev N4:Stmt:=C1 27
abbrev aa9:Stmt:=C1 28
abbrev V3:Stmt:=C1 29
abbrev V4:Stmt:=C1 31
abbrev Y3:Stmt:=C1 32
abbrev ab0:Stmt:=C1 33
abbrev T5:Stmt:=C1 36
abbrev R8:Stmt:=C1 38
abbrev Q1:Stmt:=C1 39
abbrev V5:Stmt:=C1 40
abbrev Q2:Stmt:=C1 41
abbrev ab1:Stmt:=C1 42
abbrev O5:Stmt:=C1 43
abbrev ab2:Stmt:=C1 44
abbrev V6:Stmt:=C1 46
abbrev af0:Stmt:=C1 47
abbrev af1:Stmt:=C1 48
abbrev af2:Stmt:=C1 49
abbrev af3:Stmt:=C1 50
abbrev ax7:Stmt:=C1 51
abbrev ab3:Stmt:=C1 52
abbrev al2:Stmt:=C1 53
end My
namespace My
open PySem L2 Mth
structure Bl (mg:Str→Option Value):Prop where
 len:mg "len"=none
 isi:mg "isinstance"=none
 int:mg "int"=none
 bool:mg "bool"=none
 list:mg "list"=none
 range:mg "range"=none
 sum:mg "sum"=none
 min:mg "min"=none
 max:mg "max"=none
 enum:mg "enumerate"=none
 zip:mg "zip"=none
 sorted:mg "sorted"=none
 tuple:mg "tuple"=none
 str:mg "str"=none
 repr:mg "repr"=none
 all:mg "all"=none
 any:mg "any"=none
 set:mg "set"=none
 dict:mg "dict"=none
 ve:mg "ValueError"=none
section
variable {P:Program} {w:World} {K:PySem.W.Frag} {mg:Str→Option Value} {base:Heap}
def al3 (K:PySem.W.Frag):Sp:=fun vs H Q _=>∃x t b1 b2,vs=[x]∧P4 K H x t∧PySem.W.kitOne K t (.type "int")=some b1∧PySem.W.kitOne K t (.type "bool")=some b2∧Q (.bl (b1&& !b2)) H
theorem cn2:l5 ["thing"] ["thing"] (i7 ae7):=⟨rfl,rfl,rfl,by decide+kernel,rfl,by decide+kernel,by decide+kernel⟩
theorem ch2 {f:Addr}{fd:FuncData}(F:A4 K "is_whole" "is_whole" ae7 f fd)(B:Bl mg):o4 P w K mg base A2 1 f fd ["thing"] (al3 K):=by
 refine F.ok cn2 (fun vs H Q E h=> ?_) (fun cdv A outer s H vs Q E hr h=> ?_)
 · obtain ⟨x,t,b1,b2,rfl,_⟩:=h
   rfl
 · obtain ⟨x,t,b1,b2,rfl,ty,e1,e2,q⟩:=h
   refine ⟨_,c9 (k7 (bw8 (ah6 B.isi (c5 (pv 0) (c5 (cf6 B.int) c6))) (bw7 (cp8 (ah6 B.isi (c5 (pv 0) (c5 (ca0 B.bool) c6))))))),?_⟩
   refine ⟨x,rfl,x,"int",t,b1,rfl,ty,e1,b1,rfl,?_⟩
   cases b1 with
   |true=>
    refine O8 ⟨x,rfl,x,"bool",t,b2,rfl,ty,e2,b2,rfl,?_⟩
    exact q
   |false=>exact E7 q
def af4:Sp:=fun vs H Q _=>∃(a:Addr) (ns:List Int),vs=[.ref a]∧H a=some (.lst (ns.map V.int))∧∀(b:Bool) (H':Hp),e8 H H'→(b=true↔ns.length≤40∧l9 ns)→Q (.bl b) H'
theorem ao3:l5 ["thing","seen","place"] ["thing"] (i7 ai6):=⟨rfl,rfl,rfl,by decide+kernel,rfl,by decide+kernel,by decide+kernel⟩
theorem cc4 {f:Addr}{fd:FuncData}(F:A4 K "is_turn" "is_turn" ai6 f fd)(B:Bl mg)(mt:∃t,mg "MOST_THINGS_turns"=some (.int 40 t))(cW:j9 P w K mg base "is_whole" 1 ["thing"] (al3 K)):o4 P w K mg base A2 2 f fd ["thing"] af4:=by
 refine F.ok ao3 (fun vs H Q E h=> ?_) (fun cdv A outer s H vs Q E hr h=> ?_)
 · obtain ⟨a,ns,rfl,_⟩:=h
   rfl
 · obtain ⟨a,ns,rfl,ha,k⟩:=h
   obtain ⟨tk,mt⟩:=mt
   have hu:=W2 hr
   refine ⟨_,c7 (v9 (Z4 (R0 (Q9 (ah6 B.isi (c5 (pv 0) (c5 (ah7 B.list) c6))))) (ab7 (n5 aq7 (w4 B.len (c5 (pv 0) c6)) (av9 (v:= .int 40) (by rfl) mt ⟨tk,rfl⟩) (o3 _)))).pt (c9 (k7 P2)) o7)
     (c7 (i4 (i:=1) ao3.nd rfl (Or.inl rfl) X4)
     (c7 (n0 PassesOwn.never rfl (t7 (pv 0)) (i8 (i:=2) ao3.nd rfl (Or.inl rfl))
       (c7 (v9 (Z4 (R0 (Q9 (i6 cW hr (c5 (pv 2) c6)))) (Z4 (n5 aq6 (pv 2) h7 (o3 _)) (Z4 (n5 cj6 (pv 2) (w4 B.len (c5 (pv 0) c6)) (o3 _)) (ab7 (bw6 (cs0 hu (pv 2) (pv 1))))))).pt (c9 (k7 P2)) o7)
       (c9 (aw4 hu (pv 1) (pv 2) P2 rfl))))
     (c9 (k7 P2)))),?_⟩
   refine ⟨_,rfl,_,"list",_,true,rfl,.lst ha,X6 K "list",true,rfl,?_⟩
   refine E7 ⟨_,rfl,a,_,rfl,.inl (h8.of ha),_,_,rfl,rfl,_,rfl,?_⟩
   rw[de9]
   refine P8 (fun h40=> ?_) (fun h40=> ?_)
   · have h40:(40:Int) < (ns.length:Int):=of_decide_eq_true h40
     exact k false H (e8.refl H) ⟨fun z=>(by cases z),fun z=>(by have:=z.1;omega)⟩
   · have h40:¬(40:Int) < (ns.length:Int):=fun z=>h40 (decide_eq_true z)
     intro d hd
     have nad:a≠d:=g6 ha hd
     have ha1:(e7 H d (.dK [])) a=some (.lst (ns.map V.int)):=by rw[g8 nad];exact ha
     refine ⟨_,rfl,a,rfl,⟨_,h8.of ha1⟩,A3 (K:=K) (a:=a) (xs:=ns.map V.int) (fun i σ H2=>∃v:Option V,σ=[some (.ref a),some (.ref d),v]∧e8 H H2∧H2 d=some (.dK (O0 (ns.take i)))∧(ns.take i).Nodup∧∀x∈ns.take i,0≤x∧x < ns.length)
       ⟨none,rfl,e8.upd_new hd,c8,dn1,fun x hx=>by simp at hx⟩ (fun i σ H2 _ ⟨_,_,s2,_⟩=>h8.of (s2 a _ ha)) ?_ ?_⟩
     · rintro i y σ H2 hi ⟨v,rfl,s2,h2,nd,bd⟩
       obtain ⟨z,hz,rfl⟩:=G7 hi
       have ha2:=s2 a _ ha
       have hil:i < ns.length:=(df1.mp hz).1
       refine ⟨_,rfl,.int z,_,true,false,rfl,.int z,X6 K "int",ah5 K,_,rfl,?_⟩
       refine E7 ⟨_,rfl,_,_,rfl,rfl,_,rfl,?_⟩
       refine P8 (fun hz0=> ?_) (fun hz0=> ?_)
       · have hz0:z < 0:=of_decide_eq_true hz0
         exact O8 (k false H2 s2 ⟨fun q=>(by cases q),fun q=>(by have:=q.2.lo z (dg1 hz);omega)⟩)
       have hz0:¬z < 0:=fun q=>hz0 (decide_eq_true q)
       refine ⟨_,rfl,_,rfl,a,_,rfl,.inl (h8.of ha2),_,_,rfl,rfl,_,rfl,?_⟩
       rw[de9]
       refine P8 (fun hz1=> ?_) (fun hz1=> ?_)
       · have hz1:(ns.length:Int)≤z:=of_decide_eq_true hz1
         exact O8 (k false H2 s2 ⟨fun q=>(by cases q),fun q=>(by have:=q.2.hi z (dg1 hz);omega)⟩)
       have hz1:¬(ns.length:Int)≤z:=fun q=>hz1 (decide_eq_true q)
       refine ⟨_,rfl,_,rfl,d,_,rfl,X3.k (k:=Sum.inl z) h2,_,rfl,?_⟩
       by_cases hm:z∈ns.take i
       · rw[bf8 hm]
         refine O8 (k false H2 s2 ⟨fun q=>(by cases q),fun q=> ?_⟩)
         exfalso
         obtain ⟨j,hj⟩:=dh8.mp hm
         have hjl:j < i:=by
           have:=(df1.mp hj).1
           rw[dg7] at this
           omega
         rw[dk2 hjl] at hj
         have e1:=(df1.mp hj).2
         have e2:=(df1.mp hz).2
         exact di3.mp (dh3.mp q.2.nd) j i (by omega) hil hjl (by rw[e1,e2])
       · rw[an7 hm]
         refine E7 ⟨_,rfl,_,rfl,d,_,rfl,an4.k (k:=Sum.inl z) h2 (p8 (by unfold O0;rw[de9,dg7];omega)),?_⟩
         have hds:∀b o,H b=some o→b≠d:=fun b o e=>g6 e hd
         refine ⟨some (.int z),rfl,fun b o e=>by rw[g8 (hds b o e)];exact s2 b o e,?_,?_,?_⟩
         · rw[ba8 hm,c8,j6 hz]
         · rw[j6 hz];exact aw5 nd hm
         · intro x hx
           rw[j6 hz] at hx
           rcases dg2.mp hx with q|q
           · exact bd x q
           · have:x=z:=by simpa using q
             omega
     · rintro σ H2 ⟨v,rfl,s2,h2,nd,bd⟩
       rw[de9,dh9] at nd bd
       refine k true H2 s2 ⟨fun _=>⟨by omega,⟨nd,fun x hx=>(bd x hx).1,fun x hx=>(bd x hx).2⟩⟩,fun _=>rfl⟩
end
end My
namespace My
open PySem L2 Mth
section
variable {P:Program} {w:World} {K:PySem.W.Frag} {mg:Str→Option Value} {base:Heap}
def E8 (H:Hp)(a:Addr)(p:List Int):Prop:=H a=some (.lst (p.map V.int))∧l9 p∧p.length≤40
end
end My
namespace My
open PySem L2 Mth
section
variable {P:Program} {w:World} {K:PySem.W.Frag} {mg:Str→Option Value} {base:Heap}
def ai9:Sp:=fun vs H Q _=>∃(a:Addr) (ns:List Int),vs=[.ref a]∧E8 H a ns∧∀(H':Hp),e8 H H'→Q .non H'
theorem cu0:l5 ["thing"] ["thing"] (i7 T4):=⟨rfl,rfl,rfl,by decide+kernel,rfl,by decide+kernel,by decide+kernel⟩
theorem cn3 {f:Addr}{fd:FuncData}(F:A4 K "must_be_turn" "must_be_turn" T4 f fd)(cT:j9 P w K mg base "is_turn" 2 ["thing"] af4):o4 P w K mg base A2 3 f fd ["thing"] ai9:=by
 refine F.ok cu0 (fun vs H Q E h=> ?_) (fun cdv A outer s H vs Q E hr h=> ?_)
 · obtain ⟨a,ns,rfl,_⟩:=h
   rfl
 · obtain ⟨a,ns,rfl,⟨ha,ht,hl⟩,k⟩:=h
   refine ⟨_,c9 (v9 (R0 (Q9 (i6 cT hr (c5 (pv 0) c6)))) (c9 S2) o7),?_⟩
   refine ⟨_,rfl,a,ns,rfl,ha,fun b H' s' hb=>⟨b,rfl,?_⟩⟩
   have:b=true:=hb.mpr ⟨hl,ht⟩
   subst this
   exact E7 (k H' s')
end
end My
namespace My
open PySem L2 Mth
def bv0 (H:Hp)(l:Addr):Nat:=match H l with
 |some (.lst xs)=>xs.length
 |_=>0
theorem bi3 {H:Hp}{l:Addr}{xs:List V}(h:H l=some (.lst xs)):bv0 H l=xs.length:=by unfold bv0;rw[h]
end My
namespace My
open PySem L2 Mth
section
variable {P:Program} {w:World} {K:PySem.W.Frag} {mg:Str→Option Value} {base:Heap}
def L7:Sp:=fun vs H Q _=>∃(a:Addr) (p:List Int),vs=[.ref a]∧E8 H a p∧
 ∀(l:Addr) (as:List Addr) (rs:List (List Int)) (H':Hp),H l=none→e8 H H'→H' l=some (.lst (as.map V.ref))→l8 H' as rs→w6 p p.length rs→(∀b∈as,H b=none)→as.Nodup→l∉as→Q (.ref l) H'
theorem Q8 {H:Hp}{as:List Addr}{rs:List (List Int)}{e:Addr}{r:List Int}(h:l8 H as rs)(he:H e=some (.lst (r.map V.int))):l8 H (as++[e]) (rs++[r]):=by
 refine ⟨by rw[df7,df7,h.1];rfl,fun j b q h1 h2=> ?_⟩
 by_cases hj:j < as.length
 · rw[di1 hj] at h1
   rw[di1 (by rw[←h.1];exact hj)] at h2
   exact h.2 j b q h1 h2
 · rw[di8 (by omega)] at h1
   rw[di8 (by rw[←h.1];omega),←h.1] at h2
   have hj0:j - as.length=0:=by
     have:=(df1.mp h1).1
     simpa using this
   rw[hj0] at h1 h2
   cases h1;cases h2
   exact he
theorem t5 {H H':Hp}{as:List Addr}{rs:List (List Int)}(h:l8 H as rs)(k:∀b∈as,∀o,H b=some o→H' b=some o):l8 H' as rs:=
 ⟨h.1,fun j a r h1 h2=>k a (dg1 h1) _ (h.2 j a r h1 h2)⟩
theorem af5 {H:Hp}{as:List Addr}{rs:List (List Int)}(h:l8 H as rs){b:Addr}(hb:b∈as):∃r:List Int,H b=some (.lst (r.map V.int)):=by
 obtain ⟨j,hj⟩:=dh8.mp hb
 have hjl:=(df1.mp hj).1
 exact ⟨_,h.2 j b (rs[j]'(by rw[←h.1];exact hjl)) hj (df0 _)⟩
theorem U1 {p:List Int}{i:Nat}{rs:List (List Int)}(tp:l9 p)(h:w6 p i rs):rs.flatten.length≤p.length:=by
 refine I0 h.nd fun x hx=> ?_
 obtain ⟨r,hr,hxr⟩:=dg8.mp hx
 obtain ⟨y,L,a,b,rfl,_⟩:=h.ring r hr
 exact M4 tp a x hxr
theorem Y4 {p:List Int}{i:Nat}{rs:List (List Int)}(h:w6 p i rs):rs.length≤rs.flatten.length:=by
 have:∀l:List (List Int),(∀r∈l,1≤r.length)→l.length≤l.flatten.length:=by
   intro l
   induction l with
   |nil=>intro _;exact df2 _
   |cons a r ih=>
    intro h
    have h1:=h a df4
    have h2:=ih fun x hx=>h x (df6 _ hx)
    rw[dh1,df7,dk0]
    omega
 refine this rs fun r hr=> ?_
 obtain ⟨y,L,a,b,rfl,_⟩:=h.ring r hr
 rw[l7]
 exact b.pos
end
end My
namespace My
open PySem L2 Mth
section
variable {P:Program} {w:World} {K:PySem.W.Frag} {mg:Str→Option Value} {base:Heap}
def bi4:Sp:=fun vs H Q _=>∃(a:Addr) (p:List Int) (x:Int),vs=[.ref a,.int x]∧E8 H a p∧In p x∧
 ∀(l:Addr) (L:Nat) (H':Hp),H l=none→e8 H H'→B8 p x L→L≤40→H' l=some (.lst ((l6 p x L).map V.int))→Q (.ref l) H'
theorem au1:l5 ["p","first","ring","thing"] ["p","first"] (i7 aa7):=⟨rfl,rfl,rfl,by decide+kernel,rfl,by decide+kernel,by decide+kernel⟩
theorem cn4 {f:Addr}{fd:FuncData}(F:A4 K "walk_ring" "walk_ring" aa7 f fd):o4 P w K mg base A2 1 f fd ["p","first"] bi4:=by
 refine F.ok au1 (fun vs H Q E h=> ?_) (fun cdv A outer s H vs Q E hr h=> ?_)
 · obtain ⟨a,p,x,rfl,_⟩:=h
   rfl
 · obtain ⟨a,p,x,rfl,⟨ha,tp,lp⟩,hx,q⟩:=h
   refine ⟨_,c7 (i4 (i:=2) au1.nd rfl (Or.inl rfl) (r6 (c5 (pv 1) c6)))
     (c7 (i4 (i:=3) au1.nd rfl (Or.inl rfl) (E3 E9 (pv 0) (pv 1) (fun _ _=>rfl)))
     (c7 (ad7 PassesOwn.never (n5 aq5 (pv 3) (pv 1) (o3 _)) (c7 (q5 (C6 (pv 2) (c5 (pv 3) c6))) (c9 (i4 (i:=3) au1.nd rfl (Or.inl rfl) (E3 E9 (pv 0) (pv 3) (fun _ _=>rfl))))))
     (c9 (k7 (pv 2))))),?_⟩
   refine ⟨_,rfl,(by show 1≤sizeLine;decide),fun l hl=> ?_⟩
   have nal:a≠l:=g6 ha hl
   have hal:(e7 H l (.lst [.int x])) a=some (.lst (p.map V.int)):=by rw[g8 nal];exact ha
   refine ⟨_,rfl,_,rfl,a,_,_,_,rfl,rfl,h8.of hal,W6 hx.1 hx.2,?_⟩
   refine be6 (fun σ H2=>∃m:Nat,σ=[some (.ref a),some (.int x),some (.ref l),some (.int (it p m x))]∧1≤m∧H2 l=some (.lst ((l6 p x m).map V.int))∧e8 H H2∧∀i,0 < i→i < m→it p i x≠x) (fun _ H2=>p.length+1 - bv0 H2 l)
     ⟨1,rfl,df2 _,c8,e8.upd_new hl,fun i i0 i1=>by omega⟩ ?_ ?_
   · rintro σ H2 ⟨m,rfl,m1,h2l,s2,hne⟩
     have ha2:=s2 a _ ha
     refine ⟨_,rfl,_,rfl,rfl,_,rfl,?_⟩
     by_cases hb:it p m x=x
     · refine ar2 (congrArg V.int hb) ?_
       exact ⟨_,rfl,q l m H2 hl s2 ⟨by omega,hb,hne⟩ (by have:=J6 tp hx hne;omega) h2l⟩
     · have hb':¬V.int (it p m x)=V.int x:=fun z=>hb (V.int.inj z)
       rw[decide_eq_false hb']
       refine O8 ?_
       have hne':∀i,0 < i→i < m+1→it p i x≠x:=fun i i0 i1=>by
         by_cases e:i=m
         · rw[e];exact hb
         · exact hne i i0 (by omega)
       have hbd:=J6 tp hx hne'
       refine ⟨_,rfl,.inl ⟨rfl,_,h8.of h2l⟩,_,rfl,l,_,_,rfl,rfl,h2l,p8 (by rw[de9,l7];omega),?_⟩
       have hi:=J5 tp hx m
       refine ⟨_,rfl,_,rfl,a,_,_,_,rfl,rfl,h8.of (by rw[g8 nal];exact ha2),W6 hi.1 hi.2,?_⟩
       have h3l:(e7 H2 l (.lst ((l6 p x m).map V.int++[.int (it p m x)]))) l=some (.lst ((l6 p x (m+1)).map V.int)):=by
         rw[c8,bt9,df8];rfl
       refine ⟨⟨m+1,rfl,by omega,h3l,fun b o hb=>by rw[g8 (g6 hb hl)];exact s2 b o hb,hne'⟩,?_⟩
       rw[bi3 h3l,bi3 h2l,de9,de9,l7,l7]
       omega
   · rintro σ H2 Q Q' hq ⟨v,hv,u,hu,e1,k1,e2,e3⟩
     exact ⟨v,hv,u,hu,e1,k1,e2,hq _ _ e3⟩
theorem W8:l5 ["p","rings","seen","first","ring","thing"] ["p"] (i7 Y2):=⟨rfl,rfl,rfl,by decide+kernel,rfl,by decide+kernel,by decide+kernel⟩
theorem ch3 {f:Addr}{fd:FuncData}(F:A4 K "walk_rings" "walk_rings" Y2 f fd)(B:Bl mg)(cR:j9 P w K mg base "walk_ring" 1 ["p","first"] bi4):o4 P w K mg base A2 2 f fd ["p"] L7:=by
 refine F.ok W8 (fun vs H Q E h=> ?_) (fun cdv A outer s H vs Q E hr h=> ?_)
 · obtain ⟨a,p,rfl,_⟩:=h
   rfl
 · obtain ⟨a,p,rfl,⟨ha,tp,lp⟩,q⟩:=h
   have hu:=W2 hr
   refine ⟨_,c7 (i4 (i:=1) W8.nd rfl (Or.inl rfl) (r6 c6)) (c7 (i4 (i:=2) W8.nd rfl (Or.inl rfl) X4)
     (c7 (n0 PassesOwn.never rfl (K5 (by rfl) B.range (c5 (w4 B.len (c5 (pv 0) c6)) c6)) (i8 (i:=3) W8.nd rfl (Or.inl rfl))
       (c9 (v9 (bw6 (bz1 hu (pv 3) (pv 2))) (c7 (i4 (i:=4) W8.nd rfl (Or.inl rfl) (i6 cR hr (c5 (pv 0) (c5 (pv 3) c6)))) (c7 (q5 (C6 (pv 1) (c5 (pv 4) c6)))
         (c9 (n0 PassesOwn.never rfl (t7 (pv 4)) (i8 (i:=5) W8.nd rfl (Or.inl rfl)) (c9 (aw4 hu (pv 2) (pv 5) P2 rfl)))))) o7)))
     (c9 (k7 (pv 1))))),?_⟩
   refine ⟨dh2 _,fun l hl=> ?_⟩
   intro d hd
   have hdl:d≠l:=fun z=>by rw[z,c8] at hd;cases hd
   have hd0:H d=none:=by rw[g8 hdl] at hd;exact hd
   have s0:e8 H (e7 (e7 H l (.lst [])) d (.dK [])):=(e8.upd_new hl).upd_r hd0
   have h0l:(e7 (e7 H l (.lst [])) d (.dK [])) l=some (.lst []):=by rw[g8 hdl.symm,c8]
   refine ⟨_,rfl,a,_,rfl,.inl (h8.of (s0 a _ ha)),(p.length:Int),?_,by omega,by omega,?_⟩
   · rw[de9]
   rw[show ((p.length:Int)).toNat=p.length by omega]
   refine G6 (lo:=0) (n:=p.length) (fun i σ H2=>∃(as:List Addr) (rs:List (List Int)) (v3 v4 v5:Option V),σ=[some (.ref a),some (.ref l),some (.ref d),v3,v4,v5]∧H2 l=some (.lst (as.map V.ref))∧H2 d=some (.dK (O0 rs.flatten))∧l8 H2 as rs∧w6 p i rs∧e8 H H2∧(∀b∈as,H b=none)∧as.Nodup∧l∉as)
     ⟨[],[],none,none,none,rfl,h0l,c8,⟨rfl,fun j b r h=>by simp at h⟩,as2 p,s0,fun b hb=>by simp at hb,dn1,by simp⟩ ?_ ?_
   · rintro i σ H2 hi ⟨as,rs,v3,v4,v5,rfl,h2l,h2d,rows,up,s2,fa,nda,nla⟩
     have hx:In p (i:Int):=⟨by omega,by omega⟩
     have e0:(0:Int)+(i:Int)=(i:Int):=by omega
     rw[e0]
     refine ⟨_,rfl,_,rfl,d,_,rfl,X3.k (k:=Sum.inl (i:Int)) h2d,_,rfl,?_⟩
     by_cases hm:(i:Int)∈rs.flatten
     · rw[bf8 hm]
       refine E7 ?_
       exact ⟨as,rs,_,_,_,rfl,h2l,h2d,rows,as3 up hm,s2,fa,nda,nla⟩
     · rw[an7 hm]
       refine O8 ?_
       refine ⟨_,rfl,_,rfl,a,p,_,rfl,⟨s2 a _ ha,tp,lp⟩,hx,fun e L H3 he s23 pr hL h3e=> ?_⟩
       have h3l:=s23 l _ h2l
       have h3d:=s23 d _ h2d
       have nle:l≠e:=g6 h2l he
       have nde:d≠e:=g6 h2d he
       have fl:=U1 tp up
       have cl:=Y4 up
       have lenas:=rows.1
       refine ⟨_,rfl,.inl ⟨rfl,_,h8.of h3l⟩,_,rfl,l,_,_,rfl,rfl,h3l,p8 (by rw[de9,lenas];omega),?_⟩
       have es:as.map V.ref++[V.ref e]=(as++[e]).map V.ref:=by rw[df8];rfl
       rw[es]
       have h4l:(e7 H3 l (.lst ((as++[e]).map V.ref))) l=some (.lst ((as++[e]).map V.ref)):=c8
       have h4d:(e7 H3 l (.lst ((as++[e]).map V.ref))) d=some (.dK (O0 rs.flatten)):=by rw[g8 hdl];exact h3d
       have h4e:(e7 H3 l (.lst ((as++[e]).map V.ref))) e=some (.lst ((l6 p i L).map V.int)):=by rw[g8 nle.symm];exact h3e
       have k4:∀b o,H2 b=some o→b≠l→(e7 H3 l (.lst ((as++[e]).map V.ref))) b=some o:=fun b o hb hn=>by rw[g8 hn];exact s23 b o hb
       generalize (e7 H3 l (.lst ((as++[e]).map V.ref)))=H4 at h4l h4d h4e k4 ⊢
       have fr:=am6 up pr hm
       have ndr:=P1 tp hx fun j j0 j1=>pr.least j j0 j1
       refine ⟨_,rfl,e,rfl,⟨_,h8.of h4e⟩,A3 (K:=K) (a:=e) (xs:=(l6 p i L).map V.int) (fun j σ H5=>∃v5':Option V,σ=[some (.ref a),some (.ref l),some (.ref d),some (.int (i:Int)),some (.ref e),v5']∧H5 d=some (.dK (O0 (rs.flatten++(l6 p i L).take j)))∧j5 d H4 H5)
         ⟨v5,rfl,by rw[do3,dh7];exact h4d,j5.refl d H4⟩ (fun j σ H5 _ ⟨_,_,_,k⟩=>h8.of (k e _ h4e nde.symm)) ?_ ?_⟩
       · rintro j y σ H5 hj ⟨v5',rfl,h5d,kb⟩
         obtain ⟨z,hz,rfl⟩:=G7 hj
         have hjl:j < (l6 p i L).length:=(df1.mp hz).1
         rw[l7] at hjl
         have hzn:z∉rs.flatten++(l6 p i L).take j:=by
           intro hm'
           rcases dg2.mp hm' with g|g
           · exact fr z (dg1 hz) g
           · obtain ⟨jj,hjj⟩:=dh8.mp g
             have hjk:jj < j:=by
               have:=(df1.mp hjj).1
               rw[dg7] at this
               omega
             rw[dk2 hjk] at hjj
             have e1:=(df1.mp hjj).2
             have e2:=(df1.mp hz).2
             exact di3.mp (dh3.mp ndr) jj j (by rw[l7];omega) (by rw[l7];omega) hjk (by rw[e1,e2])
         refine ⟨_,rfl,_,rfl,d,_,rfl,an4.k (k:=Sum.inl z) h5d (p8 (by unfold O0;rw[de9,df7,dg7,l7];omega)),?_⟩
         refine ⟨_,rfl,?_,kb.upd_a⟩
         rw[ba8 hzn,c8,j6 hz,dh4]
       · rintro σ H5 ⟨v5',rfl,h5d,kb⟩
         rw[de9,dh9] at h5d
         have nad:∀b∈as,b≠d∧b≠l:=fun b hb=>by
           obtain ⟨r,hr'⟩:=af5 rows hb
           exact ⟨cj1 hr' h2d (by intro z;cases z),fun z=>nla (z▸hb)⟩
         refine ⟨as++[e],rs++[l6 p i L],_,_,_,rfl,kb l _ h4l hdl.symm,?_,?_,as4 tp up hx pr hm,?_,?_,?_,?_⟩
         · rw[h5d,di7,dl8]
         · exact Q8 (t5 rows fun b hb o ho=>kb b o (k4 b o ho (nad b hb).2) (nad b hb).1) (kb e _ h4e nde.symm)
         · exact fun b o hb=>kb b o (k4 b o (s2 b o hb) (g6 hb hl)) (g6 hb hd0)
         · intro b hb
           rcases dg2.mp hb with g|g
           · exact fa b g
           · have:b=e:=by simpa using g
             rw[this];exact s2.free he
         · refine aw5 nda fun g=> ?_
           obtain ⟨r,hr'⟩:=af5 rows g
           rw[he] at hr';cases hr'
         · intro g
           rcases dg2.mp g with g|g
           · exact nla g
           · exact nle (by simpa using g)
   · rintro σ H2 ⟨as,rs,v3,v4,v5,rfl,h2l,h2d,rows,up,s2,fa,nda,nla⟩
     exact ⟨_,rfl,q l as rs H2 hl s2 h2l rows up fa nda nla⟩
end
end My
namespace My
open PySem L2 Mth
section
variable {P:Program} {w:World} {K:PySem.W.Frag} {mg:Str→Option Value} {base:Heap}
def ad1:Sp:=fun vs H Q _=>∃(t r:Addr) (ts rs:List Int) (k:Int),vs=[.ref t,.ref r,.int k]∧H t=some (.lst (ts.map V.int))∧H r=some (.lst (rs.map V.int))∧t≠r∧rs.Nodup∧(∀x∈rs,0≤x∧x < ts.length)∧
 ∀(ts':List Int) (H':Hp),ts'.length=ts.length→(∀j,j < rs.length→x5 ts' (rs.getD j 0)=some (rs.getD (((j:Int)+k)%(rs.length:Int)).toNat 0))→(∀u,0≤u→u∉rs→x5 ts' u=x5 ts u)→H' t=some (.lst (ts'.map V.int))→j5 t H H'→Q .non H'
theorem bi5:l5 ["target","ring","steps","place","thing"] ["target","ring","steps"] (i7 N3):=⟨rfl,rfl,rfl,by decide+kernel,rfl,by decide+kernel,by decide+kernel⟩
theorem cn5 {f:Addr}{fd:FuncData}(F:A4 K "send_along" "send_along" N3 f fd)(B:Bl mg):o4 P w K mg base A2 1 f fd ["target","ring","steps"] ad1:=by
 refine F.ok bi5 (fun vs H Q E h=> ?_) (fun cdv A outer s H vs Q E hr h=> ?_)
 · obtain ⟨t,r,ts,rs,k,rfl,_⟩:=h
   rfl
 · obtain ⟨t,r,ts,rs,k,rfl,ht,hrr,ntr,nd,bd,q⟩:=h
   refine ⟨_,c9 (n0 PassesOwn.never rfl (ac3 B.enum (c5 (pv 1) c6)) (R1 rfl (x8 (i8 (i:=3) bi5.nd rfl (Or.inl rfl)) (x8 (i8 (i:=4) bi5.nd rfl (Or.inl rfl)) N8)))
     (c9 (aq2 (E3 E9 (pv 1) (i9 x9 (i9 B5 (pv 3) (pv 2)) (w4 B.len (c5 (pv 1) c6))) (fun _ _=>rfl)) (aq1 (pv 0) (pv 4) ad9)))),?_⟩
   refine ⟨_,rfl,r,rfl,⟨_,h8.of hrr⟩,X7 (K:=K) (a:=r) (xs:=rs.map V.int) (fun i σ H2=>∃(ts':List Int) (v3 v4:Option V),σ=[some (.ref t),some (.ref r),some (.int k),v3,v4]∧H2 t=some (.lst (ts'.map V.int))∧ts'.length=ts.length∧(∀j,j < i→x5 ts' (rs.getD j 0)=some (rs.getD (((j:Int)+k)%(rs.length:Int)).toNat 0))∧(∀u,0≤u→u∉rs→x5 ts' u=x5 ts u)∧j5 t H H2)
     ⟨ts,none,none,rfl,ht,rfl,fun j hj=>by omega,fun u _ _=>rfl,j5.refl t H⟩ (fun i σ H2 _ ⟨_,_,_,_,_,_,_,_,k⟩=>h8.of (k r _ hrr ntr.symm)) ?_ ?_⟩
   · rintro i y σ H2 tt hi ⟨ts',v3,v4,rfl,h2t,hl,hj,hu,kb⟩ htt
     obtain ⟨z,hz,rfl⟩:=G7 hi
     have hil:i < rs.length:=(df1.mp hz).1
     have h2r:=kb r _ hrr ntr.symm
     have nt:t≠tt:=g6 h2t htt
     have nr:r≠tt:=g6 h2r htt
     have h3r:(e7 H2 tt (.tup [.int (i:Int),.int z])) r=some (.lst (rs.map V.int)):=by rw[g8 nr];exact h2r
     have h3t:(e7 H2 tt (.tup [.int (i:Int),.int z])) t=some (.lst (ts'.map V.int)):=by rw[g8 nt];exact h2t
     have L0:(0:Int) < (rs.length:Int):=by omega
     have m0:=dl3 ((i:Int)+k) (show (rs.length:Int)≠0 by omega)
     have m1:=do2 ((i:Int)+k) L0
     refine ⟨tt,_,rfl,E6.of c8,rfl,_,_,rfl,_,_,rfl,rfl,?_⟩
     refine ⟨_,rfl,_,rfl,_,rfl,_,_,rfl,rfl,_,rfl,r,_,rfl,.inl (h8.of h3r),?_⟩
     rw[de9]
     refine ⟨_,_,rfl,rfl,L0,r,_,_,_,rfl,rfl,h8.of h3r,W6 m0 m1,?_⟩
     obtain ⟨z0,z1⟩:=bd z (dg1 hz)
     refine ⟨_,rfl,_,rfl,t,_,_,z.toNat,rfl,rfl,h3t,?_,?_⟩
     · unfold ixN
       rw[de9,if_pos z0,if_pos (by omega)]
     have es:(ts'.map V.int).set z.toNat (.int (rs.getD (((i:Int)+k)%(rs.length:Int)).toNat 0))=(ts'.set z.toNat (rs.getD (((i:Int)+k)%(rs.length:Int)).toNat 0)).map V.int:=by rw[dy5]
     rw[es]
     have hzi:rs.getD i 0=z:=by rw[D0 hil];exact (df1.mp hz).2
     refine ⟨_,_,_,rfl,c8,by rw[dr6];exact hl,fun j hji=> ?_,fun u u0 un=> ?_,fun b o hb hn=> ?_⟩
     · by_cases e:j=i
       · subst e
         rw[hzi,ae2 (by omega)]
       · have hjl:j < rs.length:=by omega
         have:rs.getD j 0≠z:=by rw[←hzi];exact O1 nd hjl hil e
         rw[ac2 (bd _ (by rw[D0 hjl];exact di5 hjl)).1 z0 this]
         exact hj j (by omega)
     · rw[ac2 u0 z0 (fun e=>un (e▸dg1 hz))]
       exact hu u u0 un
     · have:=kb b o hb hn
       rw[g8 hn,g8 (g6 this htt)]
       exact this
   · rintro σ H2 ⟨ts',v3,v4,rfl,h2t,hl,hj,hu,kb⟩
     rw[de9] at hj
     exact q ts' H2 hl hj hu h2t kb
end
end My
namespace My
open PySem L2 Mth
section
variable {P:Program} {w:World} {K:PySem.W.Frag} {mg:Str→Option Value} {base:Heap}
def ax8:Sp:=fun vs H Q _=>∃(a:Addr) (p:List Int) (k:Int),vs=[.ref a,.int k]∧E8 H a p∧∀(l:Addr) (t:List Int) (H':Hp),H l=none→e8 H H'→y6 p k t→H' l=some (.lst (t.map V.int))→Q (.ref l) H'
theorem ax9:l5 ["p","k","told","ring"] ["p","k"] (i7 ae9):=⟨rfl,rfl,rfl,by decide+kernel,rfl,by decide+kernel,by decide+kernel⟩
theorem ch4 {f:Addr}{fd:FuncData}(F:A4 K "power_of" "power_of" ae9 f fd)(B:Bl mg)(cM:j9 P w K mg base "must_be_turn" 3 ["thing"] ai9)(cR:j9 P w K mg base "walk_rings" 2 ["p"] L7)(cS:j9 P w K mg base "send_along" 1 ["target","ring","steps"] ad1):o4 P w K mg base A2 4 f fd ["p","k"] ax8:=by
 refine F.ok ax9 (fun vs H Q E h=> ?_) (fun cdv A outer s H vs Q E hr h=> ?_)
 · obtain ⟨a,p,k,rfl,_⟩:=h
   rfl
 · obtain ⟨a,p,k,rfl,⟨ha,tp,lp⟩,q⟩:=h
   refine ⟨_,c7 (q5 (i6 cM hr (c5 (pv 0) c6))) (c7 (i4 (i:=2) ax9.nd rfl (Or.inl rfl) (ah8 B.list (c5 (pv 0) c6)))
     (c7 (n0 PassesOwn.never rfl (t7 (i6 cR (hr.mono (by decide)) (c5 (pv 0) c6))) (i8 (i:=3) ax9.nd rfl (Or.inl rfl)) (c9 (q5 (i6 cS (hr.mono (by decide)) (c5 (pv 2) (c5 (pv 3) (c5 (pv 1) c6)))))))
     (c9 (k7 (pv 2))))),?_⟩
   refine ⟨_,rfl,a,p,rfl,⟨ha,tp,lp⟩,fun H1 s1=> ?_⟩
   refine ⟨_,rfl,a,_,rfl,.inl (h8.of (s1 a _ ha)),fun l hl=> ?_⟩
   have hl0:H l=none:=s1.free hl
   have s2:e8 H (e7 H1 l (.lst (p.map V.int))):=s1.upd_r hl0
   have h2l:(e7 H1 l (.lst (p.map V.int))) l=some (.lst (p.map V.int)):=c8
   generalize (e7 H1 l (.lst (p.map V.int)))=H2 at s2 h2l ⊢
   refine ⟨_,rfl,a,p,rfl,⟨s2 a _ ha,tp,lp⟩,fun g as rs H3 hg s23 h3g rows up fa nda nga=> ?_⟩
   have h3l:=s23 l _ h2l
   have ngl:g≠l:=fun z=>by rw[z,h2l] at hg;cases hg
   refine ⟨g,rfl,⟨_,h8.of h3g⟩,A3 (K:=K) (a:=g) (xs:=as.map V.ref) (fun i σ H4=>∃(ts:List Int) (v3:Option V),σ=[some (.ref a),some (.int k),some (.ref l),v3]∧H4 l=some (.lst (ts.map V.int))∧ts.length=p.length∧(∀x∈(rs.take i).flatten,∃L,B8 p x L∧x5 ts x=some (it p (k%(L:Int)).toNat x))∧j5 l H3 H4)
     ⟨p,none,rfl,h3l,rfl,fun x hx=>by simp at hx,j5.refl l H3⟩ (fun i σ H4 _ ⟨_,_,_,_,_,_,kb⟩=>h8.of (kb g _ h3g ngl)) ?_ ?_⟩
   · rintro i y σ H4 hi ⟨ts,v3,rfl,h4l,hl4,hx4,kb⟩
     rw[df3] at hi
     cases hai:as[i]? with
     |none=>rw[hai] at hi;cases hi
     |some e=>
      rw[hai] at hi
      cases hi
      have hil:i < as.length:=(df1.mp hai).1
      have hri:rs[i]? =some (rs[i]'(by rw[←rows.1];exact hil)):=df0 _
      generalize hR:rs[i]'(by rw[←rows.1];exact hil)=R at hri
      have h3e:=rows.2 i e R hai hri
      have hRm:R∈rs:=dg1 hri
      obtain ⟨x,L,hx,pr,eR,_⟩:=up.ring R hRm
      have nle:l≠e:=fun z=>by have:=fa e (dg1 hai);rw[←z,h2l] at this;cases this
      have h4e:=kb e _ h3e nle.symm
      refine ⟨_,rfl,_,rfl,_,rfl,l,e,ts,R,k,rfl,h4l,h4e,nle,?_,?_,?_⟩
      · rw[eR];exact P1 tp hx fun j j0 j1=>pr.least j j0 j1
      · intro y hy
        rw[eR] at hy
        have:=M4 tp hx y hy
        rw[hl4]
        exact this
      intro ts' H5 hl5 hj hu h5l kb5
      refine ⟨ts',_,rfl,h5l,by omega,fun y hy=> ?_,kb.trans kb5⟩
      rw[j6 hri,di7,dl8] at hy
      have hsplit:rs.flatten=(rs.take i).flatten++(R++(rs.drop (i+1)).flatten):=by
        conv=>lhs;rw[←dk5 i rs,di7]
        rw[dl6 (by rw[←rows.1];exact hil),hR,dh1]
      by_cases hyR:y∈R
      · rw[eR] at hyR
        obtain ⟨j,hjL,rfl⟩:=x6.mp hyR
        refine ⟨L,pr.shift tp hx j,?_⟩
        have hjr:j < R.length:=by rw[eR,l7];exact hjL
        have:=hj j hjr
        have rl:(R.length:Int)=(L:Int):=by rw[eR,l7]
        rw[rl] at this
        have b0:=dl3 ((j:Int)+k) (show (L:Int)≠0 by have:=pr.pos;omega)
        have b1:=do2 ((j:Int)+k) (show (0:Int) < (L:Int) by have:=pr.pos;omega)
        rw[eR,O2 hjL,O2 (by omega),bu0 pr] at this
        exact this
      · rcases dg2.mp hy with g'|g'
        · obtain ⟨M,pm,em⟩:=hx4 y g'
          refine ⟨M,pm,?_⟩
          have y0:0≤y:=by
            obtain ⟨r,hr',hyr⟩:=dg8.mp g'
            obtain ⟨x',L',hx',_,er,_⟩:=up.ring r (dl7 hr')
            rw[er] at hyr
            exact (M4 tp hx' y hyr).1
          rw[hu y y0 hyR]
          exact em
        · exact absurd g' hyR
   · rintro σ H4 ⟨ts,v3,rfl,h4l,hl4,hx4,kb⟩
     rw[de9,rows.1,dh9] at hx4
     refine ⟨_,rfl,q l ts H4 hl0 (fun b o hb=>kb b o (s23 b o (s2 b o hb)) (g6 hb hl0)) ⟨hl4,fun x hx=>hx4 x (up.all x hx.1 hx.2)⟩ h4l⟩
end
end My
namespace My
open PySem L2 Mth
section
variable {P:Program} {w:World} {K:PySem.W.Frag} {mg:Str→Option Value} {base:Heap}
theorem bv1:l5 ["p"] ["p"] (i7 aa8):=⟨rfl,rfl,rfl,by decide+kernel,rfl,by decide+kernel,by decide+kernel⟩
theorem bn4 {f:Addr}{fd:FuncData}(F:A4 K "rounds_of" "rounds_of" aa8 f fd)(cM:j9 P w K mg base "must_be_turn" 3 ["thing"] ai9)(cR:j9 P w K mg base "walk_rings" 2 ["p"] L7):o4 P w K mg base A2 4 f fd ["p"] L7:=by
 refine F.ok bv1 (fun vs H Q E h=> ?_) (fun cdv A outer s H vs Q E hr h=> ?_)
 · obtain ⟨a,p,rfl,_⟩:=h
   rfl
 · obtain ⟨a,p,rfl,⟨ha,tp,lp⟩,q⟩:=h
   refine ⟨_,c7 (q5 (i6 cM hr (c5 (pv 0) c6))) (c9 (k7 (i6 cR (hr.mono (by decide)) (c5 (pv 0) c6)))),?_⟩
   refine ⟨_,rfl,a,p,rfl,⟨ha,tp,lp⟩,fun H1 s1=> ?_⟩
   exact ⟨_,rfl,a,p,rfl,⟨s1 a _ ha,tp,lp⟩,fun l as rs H' hl s' h1 h2 h3 h4 h5 h6=>q l as rs H' (s1.free hl) (s1.trans s') h1 h2 h3 (fun b hb=>s1.free (h4 b hb)) h5 h6⟩
end
end My
namespace My
open PySem L2 Mth
section
variable {P:Program} {w:World} {K:PySem.W.Frag} {mg:Str→Option Value} {base:Heap}
def au2:Sp:=fun vs H Q _=>∃(x y:Nat),vs=[.int (x:Int),.int (y:Int)]∧Q (.int (dg6 x y:Nat)) H
theorem bd7:l5 ["a","b","rest"] ["a","b"] (i7 R6):=⟨rfl,rfl,rfl,by decide+kernel,rfl,by decide+kernel,by decide+kernel⟩
def ch5 (σ:St):Nat:=match σ[1]? with
 |some (some (V.int i))=>i.toNat
 |_=>0
theorem cu1 {f:Addr}{fd:FuncData}(F:A4 K "greatest_part" "greatest_part" R6 f fd):o4 P w K mg base A2 1 f fd ["a","b"] au2:=by
 refine F.ok bd7 (fun vs H Q E h=> ?_) (fun cdv A outer s H vs Q E hr h=> ?_)
 · obtain ⟨x,y,rfl,_⟩:=h
   rfl
 · obtain ⟨x,y,rfl,q⟩:=h
   refine ⟨_,c7 (ad7 PassesOwn.never (n5 aq5 (pv 1) h7 (o3 _))
       (c7 (i4 (i:=2) bd7.nd rfl (Or.inl rfl) (i9 x9 (pv 0) (pv 1))) (c7 (i4 (i:=0) bd7.nd rfl (Or.inl rfl) (pv 1)) (c9 (i4 (i:=1) bd7.nd rfl (Or.inl rfl) (pv 2))))))
     (c9 (k7 (pv 0))),?_⟩
   refine be6 (fun σ H2=>∃(a b:Nat) (v:Option V),σ=[some (.int (a:Int)),some (.int (b:Int)),v]∧dg6 a b=dg6 x y∧H2=H) (fun σ _=>ch5 σ) ⟨x,y,none,rfl,rfl,rfl⟩ ?_ ?_
   · rintro σ H2 ⟨a,b,v,rfl,hg,rfl⟩
     refine ⟨_,rfl,rfl,_,rfl,?_⟩
     by_cases hb:b=0
     · subst hb
       refine ar2 (by rfl) ?_
       refine ⟨_,rfl,?_⟩
       rw[Nat.gcd_zero_right] at hg
       rw[hg]
       exact q
     · have hb':¬V.int (b:Int)=V.int 0:=fun z=>hb (by have:=V.int.inj z;omega)
       rw[decide_eq_false hb']
       refine O8 ?_
       refine ⟨_,rfl,_,rfl,_,_,rfl,rfl,(by show (0:Int) < (b:Int);omega),_,rfl,_,rfl,⟨b,a%b,some (.int ((a:Int)%(b:Int))),?_,?_,rfl⟩,?_⟩
       · rw[dm3];rfl
       · rw[←hg,Nat.gcd_comm a b,Nat.gcd_rec b a,Nat.gcd_comm]
       · show ((a:Int)%(b:Int)).toNat < ((b:Int)).toNat
         have:=do2 (a:Int) (show (0:Int) < (b:Int) by omega)
         have:=dl3 (a:Int) (show (b:Int)≠0 by omega)
         omega
   · rintro σ H2 Q Q' hq ⟨v,hv,e1,k1,e2,e3⟩
     exact ⟨v,hv,e1,k1,e2,hq _ _ e3⟩
end
end My
namespace My
open PySem L2 Mth
section
variable {P:Program} {w:World} {K:PySem.W.Frag} {mg:Str→Option Value} {base:Heap}
noncomputable def al4 (p:List Int):List Int:=(j7 p p.length).map fun r=>(r.length:Int)
def bi6:Sp:=fun vs H Q _=>∃(a:Addr) (p:List Int),vs=[.ref a]∧E8 H a p∧∀(l:Addr) (ms:List Int) (H':Hp),H l=none→e8 H H'→ms.Perm (al4 p)→ms.Pairwise (· ≥ ·)→(∀x∈ms,1≤x∧x≤40)→ms.length≤40→H' l=some (.lst (ms.map V.int))→Q (.ref l) H'
theorem cu2:l5 ["p"] ["p"] (i7 ai7):=⟨rfl,rfl,rfl,by decide+kernel,rfl,by decide+kernel,by decide+kernel⟩
theorem cu3:(["ring"]:List Str).Nodup:=by decide+kernel
theorem cn6 {p:List Int}{rs:List (List Int)}(tp:l9 p)(lp:p.length≤40)(up:w6 p p.length rs):(∀x∈rs.map (fun r=>(r.length:Int)),1≤x∧x≤40)∧rs.length≤40:=by
 refine ⟨fun x hx=> ?_,by have:=Y4 up;have:=U1 tp up;omega⟩
 obtain ⟨r,hr,rfl⟩:=df9.mp hx
 obtain ⟨y,L,hy,pr,er,_⟩:=up.ring r hr
 have:=J6 tp hy (m:=L) fun i i0 i1=>pr.least i i0 i1
 have:=pr.pos
 rw[er,l7]
 omega
theorem cn7 {f:Addr}{fd:FuncData}(F:A4 K "kind_of" "kind_of" ai7 f fd)(B:Bl mg)(bs:mg "sorted"=none)(cR:j9 P w K mg base "rounds_of" 4 ["p"] L7):o4 P w K mg base A2 5 f fd ["p"] bi6:=by
 refine F.ok cu2 (fun vs H Q E h=> ?_) (fun cdv A outer s H vs Q E hr h=> ?_)
 · obtain ⟨a,p,rfl,_⟩:=h
   rfl
 · obtain ⟨a,p,rfl,⟨ha,tp,lp⟩,q⟩:=h
   refine ⟨_,c9 (k7 (bg2 bs (c5 (aw6 (N:=["ring"]) (nl:=1) (fr:=[]) rfl .of (t7 (i6 cR hr (c5 (pv 0) c6))) (fun _ _ _ _ _=>i8 (i:=0) cu3 rfl (Or.inl rfl)) (fun _ _ _ _ _=>bf5) (fun _ _ _ _ _=>bf9 K B.len (c5 (pv 0) c6))) c6))),?_⟩
   refine ⟨_,rfl,a,p,rfl,⟨ha,tp,lp⟩,fun l as rs H1 hl s1 h1l rows up fa nda nla=> ?_⟩
   obtain ⟨bd,lrs⟩:=cn6 tp lp up
   refine ⟨l,rfl,⟨_,h8.of h1l⟩,ah4 (K:=K) (a:=l) (xs:=as.map V.ref) (fun i ys σ H2=>∃v:Option V,σ=[v]∧H2=H1∧ys=((rs.take i).map fun r=>(r.length:Int)).map V.int) ⟨none,rfl,rfl,rfl⟩ (fun i ys σ H2 _ ⟨_,_,e,_⟩=>by rw[e];exact h8.of h1l) ?_ ?_⟩
   · rintro i y ys σ H2 hi ⟨v,rfl,rfl,rfl⟩
     rw[df3] at hi
     cases hA:as[i]? with
     |none=>rw[hA] at hi;cases hi
     |some e=>
      rw[hA] at hi
      cases hi
      have hil:i < as.length:=(df1.mp hA).1
      have hri:rs[i]? =some (rs[i]'(by rw[←rows.1];exact hil)):=df0 _
      generalize (rs[i]'(by rw[←rows.1];exact hil))=r at hri
      have he:=rows.2 i e r hA hri
      refine ⟨_,rfl,e,_,rfl,.inl (h8.of he),p8 (by rw[de9,de9,dg7];omega),_,rfl,rfl,?_⟩
      rw[j6 hri,df8,df8,de9]
      rfl
   · rintro ys σ H2 ⟨v,rfl,rfl,rfl⟩ D hD
     rw[de9,rows.1,dh9]
     have s2:e8 H2 (e7 H2 D (.lst ((rs.map fun r=>(r.length:Int)).map V.int))):=e8.upd_new hD
     refine ⟨D,_,rfl,h8.of c8,by rw[de9];omega,fun ms l2 pm srt hl2=> ?_⟩
     have hlD:l2≠D:=fun z=>by rw[z,c8] at hl2;cases hl2
     have hl22:H2 l2=none:=by rw[g8 hlD] at hl2;exact hl2
     have ek:rs.map (fun r=>(r.length:Int))=al4 p:=by unfold al4;rw[←up.eq]
     refine q l2 ms _ (s1.free hl22) ((s1.trans s2).upd_r (s1.free hl22)) (by rw[←ek];exact pm) srt (fun x hx=>bd x (pm.mem_iff.mp hx)) (by rw[pm.length_eq,de9];exact lrs) c8
end
end My
namespace My
open PySem L2 Mth
section
variable {P:Program} {w:World} {K:PySem.W.Frag} {mg:Str→Option Value} {base:Heap}
def bi7:Sp:=fun vs H Q _=>∃(a:Addr) (p:List Int),vs=[.ref a]∧E8 H a p∧∀(h:Nat) (H':Hp),e8 H H'→P3 ((al4 p).map ds2) h→Q (.int (h:Int)) H'
theorem au3:l5 ["p","home","length"] ["p"] (i7 ai8):=⟨rfl,rfl,rfl,by decide+kernel,rfl,by decide+kernel,by decide+kernel⟩
theorem cn8 {f:Addr}{fd:FuncData}(F:A4 K "home_of" "home_of" ai8 f fd)(cK:j9 P w K mg base "kind_of" 5 ["p"] bi6)(cG:j9 P w K mg base "greatest_part" 1 ["a","b"] au2):o4 P w K mg base A2 6 f fd ["p"] bi7:=by
 refine F.ok au3 (fun vs H Q E h=> ?_) (fun cdv A outer s H vs Q E hr h=> ?_)
 · obtain ⟨a,p,rfl,_⟩:=h
   rfl
 · obtain ⟨a,p,rfl,⟨ha,tp,lp⟩,q⟩:=h
   refine ⟨_,c7 (i4 (i:=1) au3.nd rfl (Or.inl rfl) h7)
     (c7 (n0 PassesOwn.never rfl (t7 (i6 cK hr (c5 (pv 0) c6))) (i8 (i:=2) au3.nd rfl (Or.inl rfl)) (c9 (i4 (i:=1) au3.nd rfl (Or.inl rfl) (i9 G9 (i9 aw1 (pv 1) (i6 cG (hr.mono (by decide)) (c5 (pv 1) (c5 (pv 2) c6)))) (pv 2)))))
     (c9 (k7 (pv 1)))),?_⟩
   refine ⟨_,rfl,a,p,rfl,⟨ha,tp,lp⟩,fun l ms H1 hl s1 pm srt bd lm h1l=> ?_⟩
   refine ⟨l,rfl,⟨_,h8.of h1l⟩,A3 (K:=K) (a:=l) (xs:=ms.map V.int) (fun i σ H2=>∃(h:Nat) (v:Option V),σ=[some (.ref a),some (.int (h:Int)),v]∧H2=H1∧P3 ((ms.take i).map ds2) h) ⟨1,none,rfl,rfl,P3.nil⟩ (fun i σ H2 _ ⟨_,_,_,e,_⟩=>by rw[e];exact h8.of h1l) ?_ ?_⟩
   · rintro i y σ H2 hi ⟨h,v,rfl,rfl,lc⟩
     obtain ⟨z,hz,rfl⟩:=G7 hi
     obtain ⟨z1,z2⟩:=bd z (dg1 hz)
     obtain ⟨zn,rfl⟩:=dr0 (show 0≤z by omega)
     have hpos:=lc.pos
     have g0:0 < dg6 h zn:=do7 _ hpos
     have g1:dg6 h zn≤zn:=dq1 (by omega) (dm9 h zn)
     refine ⟨_,rfl,_,rfl,_,rfl,h,zn,rfl,_,_,rfl,rfl,⟨by omega,by omega⟩,_,rfl,_,_,rfl,rfl,.inr ⟨by omega,by omega⟩,?_⟩
     refine ⟨Nat.lcm h zn,some (.int (zn:Int)),?_,rfl,?_⟩
     · have e:(h:Int)/(dg6 h zn:Int)*(zn:Int)=((Nat.lcm h zn:Nat):Int):=by
         rw[←cm2,dm2,dx6]
       show [some (V.ref a),some (V.int ((h:Int)/(dg6 h zn:Int)*(zn:Int))),some (V.int (zn:Int))]=_
       rw[e]
     · rw[j6 hz,df8]
       exact lc.snoc (by omega)
   · rintro σ H2 ⟨h,v,rfl,rfl,lc⟩
     rw[de9,dh9] at lc
     exact ⟨_,rfl,q h H2 s1 (lc.perm (pm.symm.map _))⟩
end
end My
namespace My
open PySem L2 Mth
section
variable {P:Program} {w:World} {K:PySem.W.Frag} {mg:Str→Option Value} {base:Heap}
def ao4:Sp:=fun vs H Q _=>∃(l:Addr) (as:List Addr) (rs:List (List Int)),vs=[.ref l]∧H l=some (.lst (as.map V.ref))∧l8 H as rs∧(∀r∈rs,r≠[])∧Q (.bl true) H
theorem bi8:l5 ["rounds","ring"] ["rounds"] (i7 N4):=⟨rfl,rfl,rfl,by decide+kernel,rfl,by decide+kernel,by decide+kernel⟩
theorem cc5 {f:Addr}{fd:FuncData}(F:A4 K "are_filled_lists" "are_filled_lists" N4 f fd)(B:Bl mg):o4 P w K mg base A2 1 f fd ["rounds"] ao4:=by
 refine F.ok bi8 (fun vs H Q E h=> ?_) (fun cdv A outer s H vs Q E hr h=> ?_)
 · obtain ⟨l,as,rs,rfl,_⟩:=h
   rfl
 · obtain ⟨l,as,rs,rfl,hl,rows,hne,q⟩:=h
   refine ⟨_,c7 (v9 (R0 (Q9 (ah6 B.isi (c5 (pv 0) (c5 (ah7 B.list) c6))))) (c9 (k7 P2)) o7)
     (c7 (n0 PassesOwn.never rfl (t7 (pv 0)) (i8 (i:=1) bi8.nd rfl (Or.inl rfl))
       (c9 (v9 (Z4 (R0 (Q9 (ah6 B.isi (c5 (pv 1) (c5 (ah7 B.list) c6))))) (ab7 (n5 T7 (w4 B.len (c5 (pv 1) c6)) h7 (o3 _)))).pt (c9 (k7 P2)) o7)))
     (c9 (k7 P2))),?_⟩
   refine ⟨_,rfl,_,"list",_,true,rfl,.lst hl,X6 K "list",true,rfl,?_⟩
   refine E7 ?_
   refine ⟨_,rfl,l,rfl,⟨_,h8.of hl⟩,A3 (K:=K) (a:=l) (xs:=as.map V.ref) (fun i σ H2=>∃v:Option V,σ=[some (.ref l),v]∧H2=H) ⟨none,rfl,rfl⟩ (fun i σ H2 _ ⟨_,_,e⟩=>by rw[e];exact h8.of hl) ?_ (fun σ H2 ⟨v,_,e⟩=>by rw[e];exact q)⟩
   rintro i y σ H2 hi ⟨v,rfl,rfl⟩
   rw[df3] at hi
   cases hA:as[i]? with
   |none=>rw[hA] at hi;cases hi
   |some e=>
    rw[hA] at hi
    cases hi
    have hil:i < as.length:=(df1.mp hA).1
    have hri:rs[i]? =some (rs[i]'(by rw[←rows.1];exact hil)):=df0 _
    generalize (rs[i]'(by rw[←rows.1];exact hil))=r at hri
    have he:=rows.2 i e r hA hri
    have hrn:=hne r (dg1 hri)
    refine ⟨_,rfl,_,"list",_,true,rfl,.lst he,X6 K "list",true,rfl,?_⟩
    refine E7 ⟨_,rfl,e,_,rfl,.inl (h8.of he),rfl,_,rfl,?_⟩
    have hnz:¬V.int (((r.map V.int).length:Nat):Int)=V.int 0:=fun z=>by
      have z:=V.int.inj z
      rw[de9] at z
      have:=List.length_pos_iff.mpr hrn
      omega
    rw[decide_eq_false hnz]
    exact E7 ⟨_,rfl,rfl⟩
def ao5:Sp:=fun vs H Q _=>∃(l:Addr) (as:List Addr) (rs:List (List Int)),vs=[.ref l]∧H l=some (.lst (as.map V.ref))∧l8 H as rs∧rs.flatten.length≤1000∧
 ∀(o:Addr) (H':Hp),H o=none→e8 H H'→H' o=some (.lst (rs.flatten.map V.int))→Q (.ref o) H'
theorem ao6:l5 ["rounds","things","ring"] ["rounds"] (i7 aa9):=⟨rfl,rfl,rfl,by decide+kernel,rfl,by decide+kernel,by decide+kernel⟩
theorem bi9 (rs:List (List Int))(i:Nat):(rs.take i).flatten.length≤rs.flatten.length:=by
 conv=>rhs;rw[←dk5 i rs,di7,df7]
 omega
theorem cc6 {f:Addr}{fd:FuncData}(F:A4 K "things_in" "things_in" aa9 f fd):o4 P w K mg base A2 1 f fd ["rounds"] ao5:=by
 refine F.ok ao6 (fun vs H Q E h=> ?_) (fun cdv A outer s H vs Q E hr h=> ?_)
 · obtain ⟨l,as,rs,rfl,_⟩:=h
   rfl
 · obtain ⟨l,as,rs,rfl,hl,rows,hb,q⟩:=h
   refine ⟨_,c7 (i4 (i:=1) ao6.nd rfl (Or.inl rfl) (r6 c6))
     (c7 (n0 PassesOwn.never rfl (t7 (pv 0)) (i8 (i:=2) ao6.nd rfl (Or.inl rfl)) (c9 (q5 (ca9 (pv 1) (c5 (pv 2) c6)))))
     (c9 (k7 (pv 1)))),?_⟩
   refine ⟨dh2 _,fun o ho=> ?_⟩
   have s0:e8 H (e7 H o (.lst [])):=e8.upd_new ho
   refine ⟨_,rfl,l,rfl,⟨_,h8.of (s0 l _ hl)⟩,A3 (K:=K) (a:=l) (xs:=as.map V.ref) (fun i σ H2=>∃v:Option V,σ=[some (.ref l),some (.ref o),v]∧e8 H H2∧H2 o=some (.lst ((rs.take i).flatten.map V.int))) ⟨none,rfl,s0,c8⟩ (fun i σ H2 _ ⟨_,_,s,_⟩=>h8.of (s l _ hl)) ?_ ?_⟩
   · rintro i y σ H2 hi ⟨v,rfl,s2,h2o⟩
     rw[df3] at hi
     cases hA:as[i]? with
     |none=>rw[hA] at hi;cases hi
     |some e=>
      rw[hA] at hi
      cases hi
      have hil:i < as.length:=(df1.mp hA).1
      have hri:rs[i]? =some (rs[i]'(by rw[←rows.1];exact hil)):=df0 _
      generalize (rs[i]'(by rw[←rows.1];exact hil))=r at hri
      have he:=s2 e _ (rows.2 i e r hA hri)
      have hle:=bi9 rs (i+1)
      rw[j6 hri,di7,dl8,df7] at hle
      have h1000:=p8 (df2 1000)
      refine ⟨_,rfl,.inl ⟨rfl,_,h8.of h2o⟩,_,rfl,o,e,_,_,rfl,rfl,h2o,he,by rw[de9,de9];omega,?_⟩
      refine ⟨_,rfl,fun b u hb=>by rw[g8 (g6 hb ho)];exact s2 b u hb,?_⟩
      rw[c8,j6 hri,di7,dl8,df8]
   · rintro σ H2 ⟨v,rfl,s2,h2o⟩
     rw[de9,rows.1,dh9] at h2o
     exact ⟨_,rfl,q o H2 ho s2 h2o⟩
def bj0:Sp:=fun vs H Q _=>∃(l:Addr) (as:List Addr) (rs:List (List Int)),vs=[.ref l]∧H l=some (.lst (as.map V.ref))∧l8 H as rs∧(∀r∈rs,r≠[])∧l9 rs.flatten∧rs.flatten.length≤40∧
 ∀(o:Addr) (t:List Int) (H':Hp),H o=none→e8 H H'→H' o=some (.lst (t.map V.int))→t.length=rs.flatten.length→(∀r∈rs,∀j,j < r.length→x5 t (r.getD j 0)=some (r.getD ((j+1)%r.length) 0))→Q (.ref o) H'
theorem bj1:l5 ["rounds","told","ring"] ["rounds"] (i7 V3):=⟨rfl,rfl,rfl,by decide+kernel,rfl,by decide+kernel,by decide+kernel⟩
theorem cn9 {f:Addr}{fd:FuncData}(F:A4 K "from_rounds" "from_rounds" V3 f fd)(cF:j9 P w K mg base "are_filled_lists" 1 ["rounds"] ao4)(cT:j9 P w K mg base "things_in" 1 ["rounds"] ao5)(cI:j9 P w K mg base "is_turn" 2 ["thing"] af4)
   (cS:j9 P w K mg base "send_along" 1 ["target","ring","steps"] ad1):o4 P w K mg base A2 3 f fd ["rounds"] bj0:=by
 refine F.ok bj1 (fun vs H Q E h=> ?_) (fun cdv A outer s H vs Q E hr h=> ?_)
 · obtain ⟨l,as,rs,rfl,_⟩:=h
   rfl
 · obtain ⟨l,as,rs,rfl,hl,rows,hne,tf,lf,q⟩:=h
   have hr1:m9 1 _:=hr.mono (by decide)
   refine ⟨_,c7 (v9 (R0 (Q9 (i6 cF hr1 (c5 (pv 0) c6)))) (c9 S2) o7)
     (c7 (i4 (i:=1) bj1.nd rfl (Or.inl rfl) (i6 cT hr1 (c5 (pv 0) c6)))
     (c7 (v9 (R0 (Q9 (i6 cI hr (c5 (pv 1) c6)))) (c9 S2) o7)
     (c7 (n0 PassesOwn.never rfl (t7 (pv 0)) (i8 (i:=2) bj1.nd rfl (Or.inl rfl)) (c9 (q5 (i6 cS hr1 (c5 (pv 1) (c5 (pv 2) (c5 h7 c6)))))))
     (c9 (k7 (pv 1)))))),?_⟩
   refine ⟨_,rfl,l,as,rs,rfl,hl,rows,hne,true,rfl,?_⟩
   refine E7 ?_
   refine ⟨_,rfl,l,as,rs,rfl,hl,rows,by omega,fun o H1 ho s1 h1o=> ?_⟩
   refine ⟨_,rfl,o,_,rfl,h1o,fun bb H2 s2 hbb=>⟨bb,rfl,?_⟩⟩
   have:bb=true:=hbb.mpr ⟨lf,tf⟩
   subst this
   refine E7 ?_
   have s02:=s1.trans s2
   have h2o:=s2 o _ h1o
   have h2l:=s02 l _ hl
   have rows2:l8 H2 as rs:=t5 rows fun c _ u hu=>s02 c u hu
   have nlo:l≠o:=g6 hl ho
   refine ⟨_,rfl,l,rfl,⟨_,h8.of h2l⟩,A3 (K:=K) (a:=l) (xs:=as.map V.ref) (fun i σ H3=>∃(ts:List Int) (v:Option V),σ=[some (.ref l),some (.ref o),v]∧H3 o=some (.lst (ts.map V.int))∧ts.length=rs.flatten.length∧(∀r∈rs.take i,∀j,j < r.length→x5 ts (r.getD j 0)=some (r.getD ((j+1)%r.length) 0))∧j5 o H2 H3)
     ⟨_,none,rfl,h2o,rfl,fun r hr=>by simp at hr,j5.refl o H2⟩ (fun i σ H3 _ ⟨_,_,_,_,_,_,k⟩=>h8.of (k l _ h2l nlo)) ?_ ?_⟩
   · rintro i y σ H3 hi ⟨ts,v,rfl,h3o,lts,hts,kb⟩
     rw[df3] at hi
     cases hA:as[i]? with
     |none=>rw[hA] at hi;cases hi
     |some e=>
      rw[hA] at hi
      cases hi
      have hil:i < as.length:=(df1.mp hA).1
      have hri:rs[i]? =some (rs[i]'(by rw[←rows.1];exact hil)):=df0 _
      generalize hR:(rs[i]'(by rw[←rows.1];exact hil))=r at hri
      have neo:o≠e:=fun z=>by
        have:=rows.2 i e r hA hri
        rw[←z,ho] at this;cases this
      have h3e:=kb e _ (rows2.2 i e r hA hri) neo.symm
      have hrm:r∈rs:=dg1 hri
      have hsplit:rs.flatten=(rs.take i).flatten++(r++(rs.drop (i+1)).flatten):=by
        conv=>lhs;rw[←dk5 i rs,di7]
        rw[dl6 (by rw[←rows.1];exact hil),hR,dh1]
      have nds:=tf.nd
      rw[hsplit] at nds
      obtain ⟨nd1,nd2,nd3⟩:=dk8.mp nds
      obtain ⟨ndr,_,_⟩:=dk8.mp nd2
      refine ⟨_,rfl,_,rfl,o,e,ts,r,1,rfl,h3o,h3e,neo,ndr,fun x hx=> ?_,fun ts' H4 l4 hj hu h4o kb4=> ?_⟩
      · have hxf:x∈rs.flatten:=dg8.mpr ⟨r,hrm,hx⟩
        exact ⟨tf.lo x hxf,by rw[lts];exact tf.hi x hxf⟩
      refine ⟨ts',_,rfl,h4o,by omega,fun r' hr' j hj'=> ?_,kb.trans kb4⟩
      rw[j6 hri] at hr'
      rcases dg2.mp hr' with g|g
      · have hx:r'.getD j 0∈(rs.take i).flatten:=by
          rw[D0 hj']
          exact dg8.mpr ⟨r',g,di5 hj'⟩
        have hxn:r'.getD j 0∉r:=fun z=>nd3 _ hx _ (dk4 _ z) rfl
        have hx0:0≤r'.getD j 0:=tf.lo _ (by rw[hsplit];exact dk4 _ hx)
        rw[hu _ hx0 hxn]
        exact hts r' g j hj'
      · have:r'=r:=by simpa using g
        subst this
        have h1:=hj j hj'
        have e1:(((j:Int)+1)%(r'.length:Int)).toNat=(j+1)%r'.length:=by
          have:((j:Int)+1)=((j+1:Nat):Int):=by omega
          rw[this,←dm3,di4]
        rw[e1] at h1
        exact h1
   · rintro σ H3 ⟨ts,v,rfl,h3o,lts,hts,kb⟩
     rw[de9,rows.1,dh9] at hts
     exact ⟨_,rfl,q o ts H3 ho (fun b u hb=>kb b u (s02 b u hb) (g6 hb ho)) h3o lts hts⟩
end
end My
namespace My
open PySem L2 Mth
section
variable {P:Program} {w:World} {K:PySem.W.Frag} {mg:Str→Option Value} {base:Heap}
def au4:Sp:=fun vs H Q _=>∃(n:Int),vs=[.int n]∧1≤n∧Q .non H
theorem cz3:l5 ["number"] ["number"] (i7 N0):=⟨rfl,rfl,rfl,by decide+kernel,rfl,by decide+kernel,by decide+kernel⟩
theorem cu4 {f:Addr}{fd:FuncData}(F:A4 K "must_be_from_one" "must_be_from_one" N0 f fd)(cW:j9 P w K mg base "is_whole" 1 ["thing"] (al3 K)):o4 P w K mg base A2 2 f fd ["number"] au4:=by
 refine F.ok cz3 (fun vs H Q E h=> ?_) (fun cdv A outer s H vs Q E hr h=> ?_)
 · obtain ⟨n,rfl,_⟩:=h
   rfl
 · obtain ⟨n,rfl,h1,q⟩:=h
   have hr1:m9 1 _:=hr.mono (by decide)
   refine ⟨_,c9 (v9 (Z4 (R0 (Q9 (i6 cW hr1 (c5 (pv 0) c6)))) (ab7 (n5 aq6 (pv 0) h7 (o3 _)))).pt (c9 S2) o7),?_⟩
   refine ⟨_,rfl,.int n,_,true,false,rfl,.int n,X6 K "int",ah5 K,true,rfl,?_⟩
   refine E7 ⟨_,rfl,_,_,rfl,rfl,_,rfl,?_⟩
   rw[decide_eq_false (show ¬n < 1 by omega)]
   exact E7 q
def ch6:Sp:=fun vs H Q _=>∃(l m:Nat),vs=[.int (l:Int),.int (m:Int)]∧1≤l∧l≤1000000000000000000000000000000∧1≤m∧m≤1000000000000000000000000000000∧∀d,M6 l m d→Q (.int ((d:Nat):Int)) H
theorem bj2:l5 ["l","m","least","common"] ["l","m"] (i7 V4):=⟨rfl,rfl,rfl,by decide+kernel,rfl,by decide+kernel,by decide+kernel⟩
theorem cz4 {f:Addr}{fd:FuncData}(F:A4 K "least_right" "least_right" V4 f fd)(c1:j9 P w K mg base "must_be_from_one" 2 ["number"] au4)(cG:j9 P w K mg base "greatest_part" 1 ["a","b"] au2):o4 P w K mg base A2 3 f fd ["l","m"] ch6:=by
 refine F.ok bj2 (fun vs H Q E h=> ?_) (fun cdv A outer s H vs Q E hr h=> ?_)
 · obtain ⟨l,m,rfl,_⟩:=h
   rfl
 · obtain ⟨l,m,rfl,l1,l2,m1,m2,q⟩:=h
   have hr1:m9 1 _:=hr.mono (by decide)
   refine ⟨_,c7 (q5 (i6 c1 hr (c5 (pv 0) c6))) (c7 (q5 (i6 c1 hr (c5 (pv 1) c6)))
     (c7 (i4 (i:=2) bj2.nd rfl (Or.inl rfl) h7) (c7 (i4 (i:=3) bj2.nd rfl (Or.inl rfl) (i6 cG hr1 (c5 (pv 0) (c5 (pv 1) c6))))
     (c7 (ad7 PassesOwn.never (n5 aq7 (pv 3) h7 (o3 _))
       (c7 (i4 (i:=2) bj2.nd rfl (Or.inl rfl) (i9 G9 (pv 2) (pv 3))) (c9 (i4 (i:=3) bj2.nd rfl (Or.inl rfl) (i6 cG hr1 (c5 (pv 0) (c5 (i9 cf9 (pv 1) (pv 2)) c6)))))))
     (c9 (k7 (pv 2))))))),?_⟩
   refine ⟨_,rfl,(l:Int),rfl,by omega,?_⟩
   refine ⟨_,rfl,(m:Int),rfl,by omega,?_⟩
   refine ⟨_,rfl,_,rfl,l,m,rfl,?_⟩
   refine ⟨fun mm σ H2=>∃d:Nat,σ=[some (.int (l:Int)),some (.int (m:Int)),some (.int (d:Int)),some (.int ((dg6 l (m/d):Nat):Int))]∧V1 l m d∧H2=H∧mm=m - d,
     ⟨m - 1,1,by rw[Nat.div_one];rfl,V1.start l m,rfl,rfl⟩,?_⟩
   rintro mm σ H2 ⟨d,rfl,up,rfl,rfl⟩
   have gle:dg6 l (m/d)≤l:=Nat.gcd_le_left _ l1
   refine ⟨_,rfl,_,_,rfl,rfl,_,rfl,?_⟩
   refine P8 (fun hg=> ?_) (fun hg=> ?_)
   · have hg:(1:Int) < ((dg6 l (m/d):Nat):Int):=of_decide_eq_true hg
     have hg1:dg6 l (m/d)≠1:=by omega
     obtain ⟨mo1,mo2⟩:=up.more (by omega) hg1
     have up':=up.step (by omega)
     refine ⟨fun σ' H'=>∃m',m' < m - d∧_,fun _ _ h=>h,?_⟩
     have small:d < 18446744073709551616∨dg6 l (m/d) < 18446744073709551616:=by
       rcases dt9 d 18446744073709551616 with z|z
       · exact .inl z
       · rcases dt9 (dg6 l (m/d)) 18446744073709551616 with y|y
         · exact .inr y
         · have:=dp7 z y
           omega
     refine ⟨_,rfl,_,rfl,_,_,rfl,rfl,(by rcases small with z|z;exact .inl ⟨by omega,by omega⟩;exact .inr ⟨by omega,by omega⟩),?_⟩
     have e1:((d:Nat):Int)*((dg6 l (m/d):Nat):Int)=((d*dg6 l (m/d):Nat):Int):=(dm2 _ _).symm
     have dp:=up'.pos
     refine ⟨_,rfl,_,rfl,_,rfl,_,_,rfl,rfl,⟨by rw[e1];omega,by rw[e1];omega⟩,?_⟩
     have e2:(m:Int)/(((d:Nat):Int)*((dg6 l (m/d):Nat):Int))=((m/(d*dg6 l (m/d)):Nat):Int):=by rw[e1];exact (dx6 _ _).symm
     dsimp only
     rw[e2]
     refine ⟨l,m/(d*dg6 l (m/d)),rfl,?_⟩
     refine ⟨m - d*dg6 l (m/d),by omega,d*dg6 l (m/d),?_,up',rfl,rfl⟩
     show [some (V.int (l:Int)),some (V.int (m:Int)),some (V.int (((d:Nat):Int)*((dg6 l (m/d):Nat):Int))),some (V.int ((dg6 l (m/(d*dg6 l (m/d))):Nat):Int))]=_
     rw[e1]
   · have hg:¬(1:Int) < ((dg6 l (m/d):Nat):Int):=fun z=>hg (decide_eq_true z)
     have kp:0 < m/d:=Nat.div_pos (dq1 (by omega) up.parts) up.pos
     have gp:0 < dg6 l (m/d):=dt6 _ kp
     exact ⟨_,rfl,q d (up.done (by omega))⟩
end
end My
namespace My
open PySem L2 Mth
section
variable {P:Program} {w:World} {K:PySem.W.Frag} {mg:Str→Option Value} {base:Heap}
theorem ch7 {T J F:List Int}{t:Nat}{u f:Int}(hT:l9 T)(hl:J.length=T.length)(hu:T[t]? =some u)(hf:F[t]? =some f)(h:(T.take t).map (x5 J)=(F.take t).map some):(T.take (t+1)).map (x5 (J.set u.toNat f))=(F.take (t+1)).map some:=by
 have ht:t < T.length:=(df1.mp hu).1
 have hum:=dg1 hu
 have u0:=hT.lo u hum
 have u1:=hT.hi u hum
 rw[j6 hu,j6 hf,df8,df8]
 congr 1
 · rw[←h]
   refine dk6 fun v hv=>ac2 (hT.lo v (dl7 hv)) u0 fun e=> ?_
   obtain ⟨j,hj⟩:=dh8.mp hv
   have hjt:j < t:=by
     have:=(df1.mp hj).1
     rw[dg7] at this
     omega
   rw[dk2 hjt] at hj
   have e1:=(df1.mp hj).2
   have e2:=(df1.mp hu).2
   exact di3.mp (dh3.mp hT.nd) j t (by omega) ht hjt (by rw[e1,e2,e])
 · show [x5 (J.set u.toNat f) u]=[some f]
   rw[ae2 (by omega)]
def aj0:Sp:=fun vs H Q _=>∃(a:Addr) (bs:List Addr) (Rs:List (List Int)) (l k:Nat),vs=[.ref a,.int ((Rs.length*k:Nat):Int)]∧H a=some (.lst (bs.map V.ref))∧l8 H bs Rs∧1≤Rs.length∧(∀r∈Rs,r.length=l)∧0 < l∧Rs.length*l≤40∧dg6 l k=1∧
 ∀(o:Addr) (J:List Int) (H':Hp),H o=none→e8 H H'→H' o=some (.lst (J.map V.int))→B9 l k Rs J→Q (.ref o) H'
theorem Y5:l5 ["rings","m","whole","joined","lane","ring","step","thing"] ["rings","m"] (i7 Y3):=⟨rfl,rfl,rfl,by decide+kernel,rfl,by decide+kernel,by decide+kernel⟩
theorem co0 {f:Addr}{fd:FuncData}(F:A4 K "join_rings" "join_rings" Y3 f fd)(B:Bl mg):o4 P w K mg base A2 1 f fd ["rings","m"] aj0:=by
 refine F.ok Y5 (fun vs H Q E h=> ?_) (fun cdv A outer s H vs Q E hr h=> ?_)
 · obtain ⟨a,bs,Rs,l,k,rfl,_⟩:=h
   rfl
 · obtain ⟨a,bs,Rs,l,k,rfl,ha,rows,d1,hRl,l0,dl,cop,q⟩:=h
   refine ⟨_,c7 (i4 (i:=2) Y5.nd rfl (Or.inl rfl) (i9 G9 (w4 B.len (c5 (pv 0) c6)) (w4 B.len (c5 (E3 E9 (pv 0) h7 (fun _ _=>rfl)) c6))))
     (c7 (i4 (i:=3) Y5.nd rfl (Or.inl rfl) (i9 by7 (r6 (c5 h7 c6)) (pv 2)))
     (c7 (n0 PassesOwn.never rfl (ac3 B.enum (c5 (pv 0) c6)) (R1 rfl (x8 (i8 (i:=4) Y5.nd rfl (Or.inl rfl)) (x8 (i8 (i:=5) Y5.nd rfl (Or.inl rfl)) N8)))
       (c9 (n0 PassesOwn.never rfl (ac3 B.enum (c5 (pv 5) c6)) (R1 rfl (x8 (i8 (i:=6) Y5.nd rfl (Or.inl rfl)) (x8 (i8 (i:=7) Y5.nd rfl (Or.inl rfl)) N8)))
         (c9 (aq2 (pv 7) (aq1 (pv 3) (i9 x9 (i9 B5 (pv 4) (i9 G9 (pv 6) (pv 1))) (pv 2)) ad9))))))
     (c9 (k7 (pv 3))))),?_⟩
   have lb:bs.length=Rs.length:=rows.1
   have dR:Rs.length≤Rs.length*l:=dj2 _ l0
   have lR:l≤Rs.length*l:=dr9 _ (by omega)
   have hb0:bs[0]? =some (bs[0]'(by omega)):=df0 _
   generalize (bs[0]'(by omega))=b0 at hb0
   have hr0:Rs[0]? =some (Rs[0]'(by omega)):=df0 _
   have lr0:(Rs[0]'(by omega)).length=l:=hRl _ (di5 _)
   generalize (Rs[0]'(by omega))=r0 at hr0 lr0
   have h0:=rows.2 0 b0 r0 hb0 hr0
   refine ⟨_,rfl,a,_,rfl,.inl (h8.of ha),_,rfl,a,_,_,_,rfl,rfl,h8.of ha,B6 (j:=0) (by rw[df3,hb0];rfl),b0,_,rfl,.inl (h8.of h0),_,_,rfl,rfl,.inl ⟨by rw[de9];omega,by rw[de9];omega⟩,?_⟩
   rw[de9,de9,lb,lr0]
   dsimp only
   have ew:((Rs.length:Nat):Int)*((l:Nat):Int)=((Rs.length*l:Nat):Int):=(dm2 _ _).symm
   rw[ew]
   obtain ⟨D,hD⟩:∃D,D=Rs.length:=⟨_,rfl⟩
   rw[←hD] at d1 dl lb dR lR ⊢
   obtain ⟨N,hN⟩:∃N,N=D*l:=⟨_,rfl⟩
   rw[←hN] at dl dR lR ⊢
   refine ⟨(by show 1≤sizeLine;decide),fun e he=> ?_⟩
   refine ⟨_,rfl,e,_,_,rfl,rfl,c8,by omega,by omega,by show 1*_≤sizeLine;rw[sizeLine_eq];omega,fun n hn=> ?_⟩
   rw[show ((N:Nat):Int).toNat=N by omega,bg0]
   have hne:n≠e:=fun z=>by rw[z,c8] at hn;cases hn
   have hn0:H n=none:=by rw[g8 hne] at hn;exact hn
   have s1:e8 H (e7 (e7 H e (.lst [.int 0])) n (.lst ((di6 N (0:Int)).map V.int))):=(e8.upd_new he).upd_r hn0
   have h1n:(e7 (e7 H e (.lst [.int 0])) n (.lst ((di6 N (0:Int)).map V.int))) n=some (.lst ((di6 N (0:Int)).map V.int)):=c8
   generalize (e7 (e7 H e (.lst [.int 0])) n (.lst ((di6 N (0:Int)).map V.int)))=H1 at s1 h1n ⊢
   have T:=ae3 (d:=D) l0 cop
   have lT:=S8 D l k
   obtain ⟨fl,fg⟩:=X9 l0 hRl
   refine ⟨_,rfl,a,rfl,⟨_,h8.of (s1 a _ ha)⟩,X7 (K:=K) (a:=a) (xs:=bs.map V.ref) (fun i σ H2=>∃(J:List Int) (v4 v5 v6 v7:Option V),σ=[some (.ref a),some (.int ((D*k:Nat):Int)),some (.int ((N:Nat):Int)),some (.ref n),v4,v5,v6,v7]∧H2 n=some (.lst (J.map V.int))∧J.length=N∧((M7 D l k).take (i*l)).map (x5 J)=(Rs.flatten.take (i*l)).map some∧e8 H H2)
     ⟨_,none,none,none,none,rfl,h1n,by rw[dp9],by rw[dr4];rfl,s1⟩ (fun i σ H2 _ ⟨_,_,_,_,_,_,_,_,_,s⟩=>h8.of (s a _ ha)) ?_ ?_⟩
   · rintro i y σ H2 t hi ⟨J,v4,v5,v6,v7,rfl,h2n,lJ,hmap,s2⟩ ht
     rw[df3] at hi
     cases hA:bs[i]? with
     |none=>rw[hA] at hi;cases hi
     |some b=>
      rw[hA] at hi
      cases hi
      have hil:i < bs.length:=(df1.mp hA).1
      have hiD:i < D:=by omega
      have hri:Rs[i]? =some (Rs[i]'(by omega)):=df0 _
      have lri:(Rs[i]'(by omega)).length=l:=hRl _ (di5 _)
      generalize (Rs[i]'(by omega))=r at hri lri
      have hrow:=rows.2 i b r hA hri
      have s23:e8 H2 (e7 H2 t (.tup [.int (i:Int),.ref b])):=e8.upd_new ht
      refine ⟨t,_,rfl,E6.of c8,rfl,_,_,rfl,_,_,rfl,rfl,?_⟩
      generalize (e7 H2 t (.tup [.int (i:Int),.ref b]))=H3 at s23 ⊢
      have s3:=s2.trans s23
      have h3b:=s3 b _ hrow
      refine ⟨_,rfl,b,rfl,⟨_,h8.of h3b⟩,X7 (K:=K) (a:=b) (xs:=r.map V.int) (fun j σ H4=>∃(J:List Int) (v6 v7:Option V),σ=[some (.ref a),some (.int ((D*k:Nat):Int)),some (.int ((N:Nat):Int)),some (.ref n),some (.int (i:Int)),some (.ref b),v6,v7]∧H4 n=some (.lst (J.map V.int))∧J.length=N∧((M7 D l k).take (i*l+j)).map (x5 J)=(Rs.flatten.take (i*l+j)).map some∧e8 H H4)
        ⟨J,v6,v7,rfl,s23 n _ h2n,lJ,hmap,s3⟩ (fun j σ H4 _ ⟨_,_,_,_,_,_,_,s⟩=>h8.of (s b _ hrow)) ?_ ?_⟩
      · rintro j y σ H4 t2 hj ⟨J,v6,v7,rfl,h4n,lJ,hmap,s4⟩ ht2
        obtain ⟨z,hz,rfl⟩:=G7 hj
        have hjl:j < l:=by rw[←lri];exact (df1.mp hz).1
        have s45:e8 H4 (e7 H4 t2 (.tup [.int (j:Int),.int z])):=e8.upd_new ht2
        refine ⟨t2,_,rfl,E6.of c8,rfl,_,_,rfl,_,_,rfl,rfl,?_⟩
        generalize (e7 H4 t2 (.tup [.int (j:Int),.int z]))=H5 at s45 ⊢
        have h5n:=s45 n _ h4n
        have tlt:i*l+j < D*l:=by
          calc i*l+j < i*l+l:=by omega
            _=(i+1)*l:=by rw[do6]
            _≤D*l:=dm1 l hiD
        have dv1:(i*l+j)/l=i:=by rw[dl2,dy8 l0,dx5 hjl,dn4]
        have dv2:(i*l+j)%l=j:=by rw[dl2,dy9,dl4 hjl]
        have hTt:(M7 D l k)[i*l+j]? =some ((G3 D l k i j:Nat):Int):=by
          unfold M7
          rw[df3,dj7 tlt]
          show some ((G3 D l k ((i*l+j)/l) ((i*l+j)%l):Nat):Int)=_
          rw[dv1,dv2]
        have hFt:Rs.flatten[i*l+j]? =some z:=by
          rw[fg i j (by omega) hjl,df5,hri]
          exact hz
        have ep:((i:Int)+(j:Int)*((D*k:Nat):Int))%((N:Nat):Int)=((G3 D l k i j:Nat):Int):=by
          rw[←aw8 hiD l0,←dm2,←dy7,←dm3,hN]
        have plt:G3 D l k i j < D*l:=ac5 hiD l0
        refine ⟨_,rfl,_,rfl,_,rfl,_,rfl,_,rfl,_,_,rfl,rfl,.inl ⟨by omega,by omega⟩,_,_,rfl,rfl,_,rfl,_,_,rfl,rfl,(by show (0:Int) < (N:Int);omega),?_⟩
        dsimp only
        rw[ep]
        refine ⟨n,_,_,G3 D l k i j,rfl,rfl,h5n,?_,?_⟩
        · unfold ixN
          rw[de9,if_pos (by omega),if_pos (by omega)]
          rfl
        have es:(J.map V.int).set (G3 D l k i j) (.int z)=(J.set (G3 D l k i j) z).map V.int:=by rw[dy5]
        rw[es]
        refine ⟨_,_,_,rfl,c8,by rw[dr6];exact lJ,?_,fun c o hc=>by rw[g8 (g6 hc hn0)];exact s45 c o (s4 c o hc)⟩
        have:=ch7 (J:=J) T (by rw[lT];omega) hTt hFt hmap
        rw[di4] at this
        exact this
      · rintro σ H4 ⟨J,v6,v7,rfl,h4n,lJ,hmap,s4⟩
        rw[de9,lri] at hmap
        refine ⟨J,_,_,_,_,rfl,h4n,lJ,?_,s4⟩
        rw[do6];exact hmap
   · rintro σ H2 ⟨J,v4,v5,v6,v7,rfl,h2n,lJ,hmap,s2⟩
     rw[de9,lb,dm7 (by rw[lT];exact df2 _),dm7 (by rw[fl,←hD];exact df2 _)] at hmap
     refine ⟨_,rfl,q n J H2 hn0 s2 h2n ⟨by rw[lJ,hN,hD],by rw[←hD];exact hmap⟩⟩
end
end My
namespace My
open PySem L2 Mth
section
variable {P:Program} {w:World} {K:PySem.W.Frag} {mg:Str→Option Value} {base:Heap}
def p6 (es:List (Nat×Addr)):List (n6×V):=es.map fun e=>(Sum.inl (e.1:Int),V.ref e.2)
theorem bj3 {es:List (Nat×Addr)}{l:Nat}{v:V}(h:A9 (p6 es) (Sum.inl (l:Int))=some v):∃e∈es,e.1=l∧v= .ref e.2:=by
 unfold A9 at h
 cases hf:(p6 es).find? (fun kv=>decide (kv.1=Sum.inl (l:Int))) with
 |none=>rw[hf] at h;cases h
 |some kv=>
  rw[hf] at h
  have hk:=of_decide_eq_true (List.find?_some (p:=fun kv:n6×V=>decide (kv.1=Sum.inl (l:Int))) hf)
  obtain ⟨e,he,rfl⟩:=df9.mp (List.mem_of_find?_eq_some hf)
  have hk':(Sum.inl (e.1:Int):n6)=Sum.inl (l:Int):=hk
  have:=Sum.inl.inj hk'
  exact ⟨e,he,by omega,(Option.some.inj h).symm⟩
theorem bj4 {es:List (Nat×Addr)}{l:Nat}(h:A9 (p6 es) (Sum.inl (l:Int))=none):l∉es.map (·.1):=by
 intro hm
 obtain ⟨e,he,rfl⟩:=df9.mp hm
 unfold A9 at h
 have h':=Option.map_eq_none_iff.mp h
 exact List.find?_eq_none.mp h' (Sum.inl (e.1:Int),V.ref e.2) (df9.mpr ⟨e,he,rfl⟩) (by simp)
theorem ay0 {α β:Type}:∀{es:List (α×β)},(es.map (·.1)).Nodup→∀{e f:α×β},e∈es→f∈es→e.1=f.1→e=f
 |[],_,e,f,h,_,_=>by simp at h
 |x::es,nd,e,f,he,hf,h=>by
  obtain ⟨n1,n2⟩:=dj3.mp nd
  rcases dg9.mp he with z|z
  · rcases dg9.mp hf with y|y
    · rw[z,y]
    · exact absurd (df9.mpr ⟨f,y,by rw[←h,z]⟩) n1
  · rcases dg9.mp hf with y|y
    · exact absurd (df9.mpr ⟨e,z,by rw[h,y]⟩) n1
    · exact ay0 n2 z y h
theorem bq4 {α β:Type}:∀{es:List (α×β)},(es.map (·.2)).Nodup→∀{e f:α×β},e∈es→f∈es→e.2=f.2→e=f
 |[],_,e,f,h,_,_=>by simp at h
 |x::es,nd,e,f,he,hf,h=>by
  obtain ⟨n1,n2⟩:=dj3.mp nd
  rcases dg9.mp he with z|z
  · rcases dg9.mp hf with y|y
    · rw[z,y]
    · exact absurd (df9.mpr ⟨f,y,by rw[←h,z]⟩) n1
  · rcases dg9.mp hf with y|y
    · exact absurd (df9.mpr ⟨e,z,by rw[h,y]⟩) n1
    · exact bq4 n2 z y h
theorem bj5 {es:List (Nat×Addr)}(nd:(es.map (·.1)).Nodup){e:Nat×Addr}(he:e∈es):A9 (p6 es) (Sum.inl (e.1:Int))=some (.ref e.2):=by
 cases h:A9 (p6 es) (Sum.inl (e.1:Int)) with
 |none=>exact absurd (df9.mpr ⟨e,he,rfl⟩) (bj4 h)
 |some v=>
  obtain ⟨f,hf,h1,rfl⟩:=bj3 h
  rw[ay0 nd hf he h1]
theorem bq5 {rs:List (List Int)}{r:List Int}{l:Nat}(h:r.length=l):t6 (rs++[r]) l=t6 rs l++[r]:=by
 unfold t6
 rw[dr5,do8 (by simpa using h),dt5]
theorem bq6 {rs:List (List Int)}{r:List Int}{l:Nat}(h:r.length≠l):t6 (rs++[r]) l=t6 rs l:=by
 unfold t6
 rw[dr5,do9 (by simpa using h),dt5,dh7]
theorem ch8 {rs:List (List Int)}{l:Nat}(h:∀r∈rs,r.length≠l):t6 rs l=[]:=by
 unfold t6
 exact List.filter_eq_nil_iff.mpr fun r hr=>by simpa using h r hr
structure cc7 (H0 H:Hp)(d:Addr)(es:List (Nat×Addr))(rs:List (List Int)):Prop where
 nk:(es.map (·.1)).Nodup
 na:(es.map (·.2)).Nodup
 row:∀e∈es,∃cs:List Addr,H e.2=some (.lst (cs.map V.ref))∧l8 H0 cs (t6 rs e.1)
 key:∀k∈es.map (·.1),∃r∈rs,r.length=k
 all:∀r∈rs,r.length∈es.map (·.1)
 nd:∀e∈es,e.2≠d
def ad2:Sp:=fun vs H Q _=>∃(a:Addr) (as:List Addr) (rs:List (List Int)),vs=[.ref a]∧H a=some (.lst (as.map V.ref))∧l8 H as rs∧rs.length≤40∧
 ∀(d:Addr) (es:List (Nat×Addr)) (H':Hp),H d=none→e8 H H'→H' d=some (.dK (p6 es))→cc7 H H' d es rs→es.length≤40→(∀e∈es,H e.2=none)→Q (.ref d) H'
theorem bj6:l5 ["rings","by_length","ring"] ["rings"] (i7 Q0):=⟨rfl,rfl,rfl,by decide+kernel,rfl,by decide+kernel,by decide+kernel⟩
theorem ch9 {f:Addr}{fd:FuncData}(F:A4 K "sort_by_length" "sort_by_length" Q0 f fd)(B:Bl mg):o4 P w K mg base A2 1 f fd ["rings"] ad2:=by
 refine F.ok bj6 (fun vs H Q E h=> ?_) (fun cdv A outer s H vs Q E hr h=> ?_)
 · obtain ⟨a,as,rs,rfl,_⟩:=h
   rfl
 · obtain ⟨a,as,rs,rfl,ha,rows,lrs,q⟩:=h
   refine ⟨_,c7 (i4 (i:=1) bj6.nd rfl (Or.inl rfl) X4)
     (c7 (n0 PassesOwn.never rfl (t7 (pv 0)) (i8 (i:=2) bj6.nd rfl (Or.inl rfl))
       (c9 (q5 (C6 (cb3 (pv 1) (c5 (w4 B.len (c5 (pv 2) c6)) (c5 (r6 c6) c6))) (c5 (pv 2) c6)))))
     (c9 (k7 (pv 1)))),?_⟩
   refine fun d hd=> ?_
   have s1:e8 H (e7 H d (.dK [])):=e8.upd_new hd
   have h1d:(e7 H d (.dK [])) d=some (.dK (p6 [])):=c8
   generalize (e7 H d (.dK []))=H1 at s1 h1d ⊢
   refine ⟨_,rfl,a,rfl,⟨_,h8.of (s1 a _ ha)⟩,A3 (K:=K) (a:=a) (xs:=as.map V.ref) (fun i σ H2=>∃(es:List (Nat×Addr)) (v2:Option V),σ=[some (.ref a),some (.ref d),v2]∧H2 d=some (.dK (p6 es))∧cc7 H H2 d es (rs.take i)∧es.length≤i∧(∀e∈es,H e.2=none)∧e8 H H2)
     ⟨[],none,rfl,h1d,⟨dn1,dn1,fun e h=>by simp at h,fun k h=>by simp at h,fun r h=>by simp at h,fun e h=>by simp at h⟩,df2 _,fun e h=>by simp at h,s1⟩ (fun i σ H2 _ ⟨_,_,_,_,_,_,_,s⟩=>h8.of (s a _ ha)) ?_ ?_⟩
   · rintro i y σ H2 hi ⟨es,v2,rfl,h2d,bl,les,fr,s2⟩
     rw[df3] at hi
     cases hA:as[i]? with
     |none=>rw[hA] at hi;cases hi
     |some b=>
      rw[hA] at hi
      cases hi
      have hil:i < as.length:=(df1.mp hA).1
      have hri:rs[i]? =some (rs[i]'(by rw[←rows.1];exact hil)):=df0 _
      generalize (rs[i]'(by rw[←rows.1];exact hil))=r at hri
      have hb0:=rows.2 i b r hA hri
      have hb:=s2 b _ hb0
      have hi40:i < 40:=by have:=rows.1;omega
      have et:rs.take (i+1)=rs.take i++[r]:=j6 hri
      refine ⟨_,rfl,.inr (.inr (.inl ⟨rfl,.inl ⟨_,h2d⟩⟩)),_,rfl,b,_,rfl,.inl (h8.of hb),dh2 _,fun e he=> ?_⟩
      rw[de9]
      have nde:d≠e:=g6 h2d he
      have s23:e8 H2 (e7 H2 e (.lst [])):=e8.upd_new he
      have h3e:(e7 H2 e (.lst [])) e=some (.lst []):=c8
      have kp:∀c,c≠e→(e7 H2 e (.lst [])) c=H2 c:=fun c hc=>g8 hc
      generalize (e7 H2 e (.lst []))=H3 at s23 h3e kp ⊢
      refine ⟨d,p6 es,Sum.inl (r.length:Int),.ref e,rfl,rfl,s23 d _ h2d,?_,fun v hv=> ?_,fun hn=> ?_⟩
      · unfold p6
        rw[de9,sizeLine_eq];omega
      · obtain ⟨e0,he0,hl0,rfl⟩:=bj3 hv
        obtain ⟨cs,hcs,rcs⟩:=bl.row e0 he0
        have h3x:=s23 e0.2 _ hcs
        have lx:(cs.map V.ref).length≤1000:=by
          rw[de9,rcs.1]
          have:=ds4 (fun r=>decide (r.length=e0.1)) (rs.take i)
          rw[dg7] at this
          unfold t6
          omega
        refine ⟨.inl ⟨rfl,_,h8.of h3x⟩,_,rfl,e0.2,_,_,rfl,rfl,h3x,p8 lx,?_⟩
        refine ⟨es,_,rfl,by rw[g8 (bl.nd e0 he0).symm];exact s23 d _ h2d,⟨bl.nk,bl.na,fun e1 he1=> ?_,fun k hk=> ?_,fun r' hr'=> ?_,bl.nd⟩,by omega,fr,fun c o hc=>by rw[g8 (g6 hc (fr e0 he0))];exact s23 c o (s2 c o hc)⟩
        · by_cases h12:e1.2=e0.2
          · have:e1=e0:=bq4 bl.na he1 he0 h12
            subst this
            refine ⟨cs++[b],by rw[c8,df8];rfl,?_⟩
            rw[et,bq5 hl0.symm]
            exact Q8 rcs hb0
          · obtain ⟨ys,hys,rys⟩:=bl.row e1 he1
            refine ⟨ys,by rw[g8 h12];exact s23 _ _ hys,?_⟩
            rw[et,bq6 (fun z=>h12 (by rw[ay0 bl.nk he1 he0 (by omega)]))]
            exact rys
        · obtain ⟨r',hr',e⟩:=bl.key k hk
          exact ⟨r',by rw[et];exact dk4 _ hr',e⟩
        · rw[et] at hr'
          rcases dg2.mp hr' with z|z
          · exact bl.all r' z
          · have:r'=r:=by simpa using z
            rw[this]
            exact df9.mpr ⟨e0,he0,hl0⟩
      · have hnk:=bj4 hn
        have ekv:p6 es++[(Sum.inl (r.length:Int),V.ref e)]=p6 (es++[(r.length,e)]):=by unfold p6;rw[df8];rfl
        rw[ekv]
        have h4e:(e7 H3 d (.dK (p6 (es++[(r.length,e)])))) e=some (.lst []):=by rw[g8 nde.symm];exact h3e
        refine ⟨.inl ⟨rfl,_,h8.of h4e⟩,_,rfl,e,_,_,rfl,rfl,h4e,p8 (dh2 _),?_⟩
        have hne:∀e1∈es,e1.2≠e:=fun e1 he1 z=>by
          obtain ⟨ys,hys,_⟩:=bl.row e1 he1
          rw[z,he] at hys;cases hys
        refine ⟨es++[(r.length,e)],_,rfl,by rw[g8 nde,c8],⟨?_,?_,fun e1 he1=> ?_,fun k hk=> ?_,fun r' hr'=> ?_,fun e1 he1=> ?_⟩,by rw[df7];show es.length+1≤i+1;omega,fun e1 he1=> ?_,fun c o hc=> ?_⟩
        · rw[df8,dk8]
          refine ⟨bl.nk,by simp,fun x hx y hy=> ?_⟩
          have:y=r.length:=by simpa using hy
          rw[this]
          exact fun z=>hnk (by rw[←z];exact hx)
        · rw[df8,dk8]
          refine ⟨bl.na,by simp,fun x hx y hy=> ?_⟩
          have:y=e:=by simpa using hy
          rw[this]
          obtain ⟨e1,he1,rfl⟩:=df9.mp hx
          exact hne e1 he1
        · rcases dg2.mp he1 with z|z
          · obtain ⟨ys,hys,rys⟩:=bl.row e1 z
            refine ⟨ys,by rw[g8 (hne e1 z),g8 (bl.nd e1 z),kp _ (hne e1 z)];exact hys,?_⟩
            rw[et,bq6 (fun y=>hnk (by rw[y];exact df9.mpr ⟨e1,z,rfl⟩))]
            exact rys
          · have:e1=(r.length,e):=by simpa using z
            subst this
            refine ⟨[b],c8,?_⟩
            show l8 H [b] (t6 (rs.take (i+1)) r.length)
            rw[et,bq5 rfl,ch8 (fun r' hr' y=>hnk (by rw[←y];exact bl.all r' hr'))]
            exact Q8 (as:=[]) (rs:=[]) ⟨rfl,fun j a r h=>by simp at h⟩ hb0
        · rw[df8] at hk
          rcases dg2.mp hk with z|z
          · obtain ⟨r',hr',e⟩:=bl.key k z
            exact ⟨r',by rw[et];exact dk4 _ hr',e⟩
          · have:k=r.length:=by simpa using z
            exact ⟨r,by rw[et];exact dh6 _ (by simp),this.symm⟩
        · rw[et] at hr'
          rw[df8]
          rcases dg2.mp hr' with z|z
          · exact dk4 _ (bl.all r' z)
          · have:r'=r:=by simpa using z
            rw[this]
            exact dh6 _ (by simp)
        · rcases dg2.mp he1 with z|z
          · exact bl.nd e1 z
          · have:e1=(r.length,e):=by simpa using z
            subst this
            exact nde.symm
        · rcases dg2.mp he1 with z|z
          · exact fr e1 z
          · have:e1=(r.length,e):=by simpa using z
            subst this
            exact s2.free he
        · have h2c:=s2 c o hc
          rw[g8 (g6 h2c he),g8 (g6 hc hd),kp _ (g6 h2c he)]
          exact h2c
   · rintro σ H2 ⟨es,v2,rfl,h2d,bl,les,fr,s2⟩
     rw[de9,rows.1,dh9] at bl
     rw[de9,rows.1] at les
     exact ⟨_,rfl,q d es H2 hd s2 h2d bl (by omega) fr⟩
end
end My
namespace My
open PySem L2 Mth
section
variable {P:Program} {w:World} {K:PySem.W.Frag} {mg:Str→Option Value} {base:Heap}
def JL (m:Nat)(rs:List (List Int)):List (List Int)→List (List (List Int))→Prop
 |[],[]=>True
 |J::qs,Rs::Rss=>JO m rs J Rs∧JL m rs qs Rss
 |_,_=>False
theorem bq7 {m:Nat}{rs:List (List Int)}:∀{qs:List (List Int)} {Rss:List (List (List Int))} {J:List Int} {Rs:List (List Int)},JL m rs qs Rss→JO m rs J Rs→JL m rs (qs++[J]) (Rss++[Rs])
 |[],[],_,_,_,h=>⟨h,trivial⟩
 |[],_::_,_,_,h,_=>h.elim
 |_::_,[],_,_,h,_=>h.elim
 |_::_,_::_,_,_,⟨a,b⟩,h=>⟨a,bq7 b h⟩
theorem bq8 {m:Nat}{rs:List (List Int)}:∀{qs:List (List Int)} {Rss:List (List (List Int))},JL m rs qs Rss→qs.flatten.Perm Rss.flatten.flatten
 |[],[],_=>List.Perm.refl _
 |[],_::_,h=>h.elim
 |_::_,[],h=>h.elim
 |J::qs,Rs::Rss,⟨⟨l,k,l0,_,c,_,_,hj,_⟩,b⟩=>by
  rw[dh1,dh1,di7]
  exact List.Perm.append (hj.perm l0 c) (bq8 b)
theorem bv2 {m:Nat}{rs:List (List Int)}:∀{qs:List (List Int)} {Rss:List (List (List Int))},JL m rs qs Rss→∀{Rs:List (List Int)},Rs∈Rss→∃J∈qs,JO m rs J Rs
 |[],[],_,_,h=>by simp at h
 |[],_::_,h,_,_=>h.elim
 |_::_,[],h,_,_=>h.elim
 |J::qs,Rs::Rss,⟨a,b⟩,R,h=>by
  rcases dg9.mp h with e|e
  · rw[e];exact ⟨J,df4,a⟩
  · obtain ⟨J',h1,h2⟩:=bv2 b e
    exact ⟨J',df6 _ h1,h2⟩
theorem ay1 {m:Nat}{rs:List (List Int)}:∀{qs:List (List Int)} {Rss:List (List (List Int))},JL m rs qs Rss→∀{J:List Int},J∈qs→∃Rs∈Rss,JO m rs J Rs
 |[],[],_,_,h=>by simp at h
 |[],_::_,h,_,_=>h.elim
 |_::_,[],h,_,_=>h.elim
 |J::qs,Rs::Rss,⟨a,b⟩,R,h=>by
  rcases dg9.mp h with e|e
  · rw[e];exact ⟨Rs,df4,a⟩
  · obtain ⟨J',h1,h2⟩:=ay1 b e
    exact ⟨J',df6 _ h1,h2⟩
theorem ck4 {m:Nat}{rs Rs:List (List Int)}{J:List Int}(h:JO m rs J Rs):J≠[]:=by
 obtain ⟨l,k,l0,_,_,_,d1,hj,_⟩:=h
 intro e
 have:=hj.len
 rw[e] at this
 have:0 < Rs.length*l:=dn5 (by omega) l0
 simp only[dv6] at*
 omega
theorem bb6:∀{ks:List Nat} {rs:List (List Int)},ks.Nodup→(∀r∈rs,r.length∈ks)→((ks.map (t6 rs)).flatten).Perm rs
 |[],rs,_,h=>by
  cases rs with
  |nil=>exact List.Perm.refl _
  |cons r rs=>exact absurd (h r df4) (by simp)
 |k::ks,rs,nd,h=>by
  obtain ⟨n1,n2⟩:=dj3.mp nd
  have e:ks.map (t6 rs)=ks.map (t6 (rs.filter fun r=> !decide (r.length=k))):=dk6 fun l hl=>by
    unfold t6
    rw[List.filter_filter]
    refine List.filter_congr fun r hr=> ?_
    by_cases z:r.length=l
    · have:r.length≠k:=fun y=>n1 (by rw[←y,z];exact hl)
      simp [z,this] at*
      exact fun y=>this (by rw[←y])
    · simp [z]
  rw[dj0,dh1,e]
  have ih:=bb6 (ks:=ks) (rs:=rs.filter fun r=> !decide (r.length=k)) n2 fun r hr=>by
    obtain ⟨h1,h2⟩:=dk7.mp hr
    have:=h r h1
    rcases dg9.mp this with y|y
    · simp [y] at h2
    · exact y
  exact (List.Perm.append_left _ ih).trans (List.filter_append_perm (fun r:List Int=>decide (r.length=k)) rs)
theorem bv3 {H:Hp}{as:List Addr}{rs:List (List Int)}(h:l8 H as rs)(b n:Nat):l8 H ((as.drop b).take n) ((rs.drop b).take n):=by
 refine ⟨by rw[dg7,dg7,di0,di0,h.1],fun j a r h1 h2=> ?_⟩
 by_cases hj:j < n
 · rw[dk2 hj,do0] at h1 h2
   exact h.2 _ a r h1 h2
 · have:=(df1.mp h1).1
   rw[dg7] at this
   omega
theorem ad3 (g:List Int→Bool):∀rs:List (List Int),(rs.filter g).flatten.length≤rs.flatten.length
 |[]=>df2 _
 |r::rs=>by
  have ih:=ad3 g rs
  rw[List.filter_cons]
  split
  · rw[dh1,dh1,df7,df7];omega
  · rw[dh1,df7];omega
theorem bb7:∀{qs:List (List Int)} {J:List Int},qs.flatten.Nodup→J∈qs→J.Nodup
 |[],_,_,h=>by simp at h
 |q::qs,J,nd,h=>by
  rw[dh1,dk8] at nd
  rcases dg9.mp h with e|e
  · rw[e];exact nd.1
  · exact bb7 nd.2.1 e
def bj7:Sp:=fun vs H Q _=>∃(a:Addr) (p:List Int) (m:Nat),vs=[.ref a,.int (m:Int)]∧E8 H a p∧1≤m∧m≤1000000000000000000000000000000∧
 (∀(t o:Addr) (r:List Int) (H':Hp),e8 H H'→H' t=some (.tup [.str "root",.ref o])→H o=none→H' o=some (.lst (r.map V.int))→l9 r→r.length=p.length→y6 r (m:Int) p→ac6 p m r→Q (.ref t) H')∧
 (∀(t:Addr) (l c d:Nat) (H':Hp),e8 H H'→H' t=some (.tup [.str "bars",.int (l:Int),.int (c:Int),.int (d:Int)])→c=o5 (j7 p p.length) l→1≤c→M6 l m d→¬d∣c→(∀r∈j7 p p.length,r.length < l→∀e,M6 r.length m e→e∣o5 (j7 p p.length) r.length)→Q (.ref t) H')
theorem U2:l5 ["p","m","by_length","joined","length","rings","many","least","begin"] ["p","m"] (i7 ab0):=⟨rfl,rfl,rfl,by decide+kernel,rfl,by decide+kernel,by decide+kernel⟩
theorem co1 {f:Addr}{fd:FuncData}(F:A4 K "root_told" "root_told" ab0 f fd)(B:Bl mg)(cR:j9 P w K mg base "rounds_of" 4 ["p"] L7)(cS:j9 P w K mg base "sort_by_length" 1 ["rings"] ad2)(c1:j9 P w K mg base "must_be_from_one" 2 ["number"] au4)
   (cLR:j9 P w K mg base "least_right" 3 ["l","m"] ch6) (cJ:j9 P w K mg base "join_rings" 1 ["rings","m"] aj0) (cF:j9 P w K mg base "from_rounds" 3 ["rounds"] bj0):o4 P w K mg base A2 5 f fd ["p","m"] bj7:=by
 refine F.ok U2 (fun vs H Q E h=> ?_) (fun cdv A outer s H vs Q E hr h=> ?_)
 · obtain ⟨a,p,m,rfl,_⟩:=h
   rfl
 · obtain ⟨a,p,m,rfl,⟨ha,tp,lp⟩,m1,m2,q1,q2⟩:=h
   have hr1:m9 1 _:=hr.mono (by decide)
   have hr2:m9 2 _:=hr.mono (by decide)
   have hr3:m9 3 _:=hr.mono (by decide)
   have hu:=W2 hr
   refine ⟨_,c7 (i4 (i:=2) U2.nd rfl (Or.inl rfl) (i6 cS hr1 (c5 (i6 cR hr (c5 (pv 0) c6)) c6)))
     (c7 (q5 (i6 c1 hr2 (c5 (pv 1) c6)))
     (c7 (i4 (i:=3) U2.nd rfl (Or.inl rfl) (r6 c6))
     (c7 (n0 PassesOwn.never rfl (t7 (bu3 rfl B.sorted (c5 (pv 2) c6))) (i8 (i:=4) U2.nd rfl (Or.inl rfl))
       (c7 (i4 (i:=5) U2.nd rfl (Or.inl rfl) (ak6 hu (pv 2) (pv 4) (fun _ _=>rfl)))
       (c7 (i4 (i:=6) U2.nd rfl (Or.inl rfl) (w4 B.len (c5 (pv 5) c6)))
       (c7 (i4 (i:=7) U2.nd rfl (Or.inl rfl) (i6 cLR hr3 (c5 (pv 4) (c5 (pv 1) c6))))
       (c7 (v9 (n5 aq5 (i9 x9 (pv 6) (pv 7)) h7 (o3 _)) (c9 (k7 (X1 (c5 be3 (c5 (pv 4) (c5 (pv 6) (c5 (pv 7) c6))))))) o7)
       (c9 (n0 PassesOwn.never rfl (cb5 (by rfl) B.range (c5 h7 (c5 (pv 6) (c5 (pv 7) c6)))) (i8 (i:=8) U2.nd rfl (Or.inl rfl))
         (c9 (q5 (C6 (pv 3) (c5 (i6 cJ hr1 (c5 (S3 W4 (pv 5) (Q4 (pv 8)) (Q4 (i9 B5 (pv 8) (pv 7)))) (c5 (pv 1) c6))) c6)))))))))))
     (c9 (k7 (X1 (c5 be3 (c5 (i6 cF hr3 (c5 (pv 3) c6)) c6)))))))),?_⟩
   refine ⟨_,rfl,a,p,rfl,⟨ha,tp,lp⟩,fun ro as rs H1 hro s1 h1ro rows up fa nda nra=> ?_⟩
   have cl:=Y4 up
   have fl:=U1 tp up
   have ers:rs=j7 p p.length:=up.eq
   refine ⟨ro,as,rs,rfl,h1ro,rows,by omega,fun d es H2 hd s12 h2d bl les fre=> ?_⟩
   have s02:=s1.trans s12
   refine ⟨_,rfl,(m:Int),rfl,by omega,?_⟩
   refine ⟨dh2 _,fun jo hjo=> ?_⟩
   have ndj:d≠jo:=g6 h2d hjo
   have s23:e8 H2 (e7 H2 jo (.lst [])):=e8.upd_new hjo
   have h3j:(e7 H2 jo (.lst [])) jo=some (.lst []):=c8
   generalize (e7 H2 jo (.lst []))=H3 at s23 h3j ⊢
   have h3d:=s23 d _ h2d
   have hkeys:(p6 es).map (·.1)=(es.map fun e=>(e.1:Int)).map Sum.inl:=by unfold p6;rw[dj4,dj4];rfl
   refine ⟨_,rfl,d,p6 es,es.map fun e=>(e.1:Int),rfl,h3d,hkeys,by rw[de9];omega,fun ms so pm srt hso=> ?_⟩
   have s34:e8 H3 (e7 H3 so (.lst (ms.map V.int))):=e8.upd_new hso
   have h4s:(e7 H3 so (.lst (ms.map V.int))) so=some (.lst (ms.map V.int)):=c8
   generalize (e7 H3 so (.lst (ms.map V.int)))=H4 at s34 h4s ⊢
   have h4j:=s34 jo _ h3j
   have s24:=s23.trans s34
   have s04:=s02.trans s24
   have hjo0:H jo=none:=s02.free hjo
   have mem_ms:∀z∈ms,∃e∈es,z=(e.1:Int):=fun z hz=>by
     obtain ⟨e,he,rfl⟩:=df9.mp (pm.mem_iff.mp hz)
     exact ⟨e,he,rfl⟩
   have in_ms:∀r∈rs,((r.length:Nat):Int)∈ms:=fun r hr'=>by
     obtain ⟨e,he,hl⟩:=df9.mp (bl.all r hr')
     exact pm.mem_iff.mpr (df9.mpr ⟨e,he,by rw[hl]⟩)
   have nso:so≠jo:=fun z=>by rw[z,h3j] at hso;cases hso
   refine ⟨so,rfl,⟨_,h8.of h4s⟩,A3 (K:=K) (a:=so) (xs:=ms.map V.int) (fun i σ H5=>∃(js:List Addr) (qs:List (List Int)) (Rss:List (List (List Int))) (v4 v5 v6 v7 v8:Option V),σ=[some (.ref a),some (.int (m:Int)),some (.ref d),some (.ref jo),v4,v5,v6,v7,v8]∧H5 jo=some (.lst (js.map V.ref))∧l8 H5 js qs∧jo∉js∧js.length≤40*i∧JL m rs qs Rss∧Rss.flatten=((ms.take i).map fun z=>t6 rs z.toNat).flatten∧(∀z∈ms.take i,∀e,M6 z.toNat m e→e∣o5 rs z.toNat)∧(∀c o,H4 c=some o→c≠jo→H5 c=some o))
     ⟨[],[],[],none,none,none,none,none,rfl,h4j,⟨rfl,fun j a r h=>by simp at h⟩,by simp,dh2 _,trivial,rfl,fun z hz=>by simp at hz,fun c o h _=>h⟩ (fun i σ H5 _ ⟨_,_,_,_,_,_,_,_,_,_,_,_,_,_,_,_,k⟩=>h8.of (k so _ h4s nso)) ?_ ?_⟩
   · rintro i y σ H5 hi ⟨js,qs,Rss,v4,v5,v6,v7,v8,rfl,h5j,rowsJ,njj,ljs,jl,hfl,hdv,k5⟩
     obtain ⟨z,hz,rfl⟩:=G7 hi
     obtain ⟨e,he,rfl⟩:=mem_ms z (dg1 hz)
     have hil:i < ms.length:=(df1.mp hz).1
     have lms:ms.length=es.length:=by rw[pm.length_eq,de9]
     obtain ⟨cs,hcs,rcs⟩:=bl.row e he
     have h5d:=k5 d _ (s34 d _ h3d) ndj
     have nej:e.2≠jo:=g6 hcs hjo
     have h5c:=k5 e.2 _ (s24 e.2 _ hcs) nej
     obtain ⟨r0,hr0,lr0⟩:=bl.key e.1 (df9.mpr ⟨e,he,rfl⟩)
     have le:1≤e.1∧e.1≤40:=by
       obtain ⟨y,L,hy,pr,er,_⟩:=up.ring r0 hr0
       have b:=J6 tp hy (m:=L) fun i i0 i1=>pr.least i i0 i1
       have:=pr.pos
       rw[er,l7] at lr0
       omega
     have lcs:cs.length=o5 rs e.1:=by rw[rcs.1,O3]
     have hfil:∀r∈t6 rs e.1,r.length=e.1∧r∈rs:=fun r hr'=>by
       obtain ⟨h1,h2⟩:=dk7.mp hr'
       exact ⟨of_decide_eq_true h2,h1⟩
     have c1':1≤o5 rs e.1:=by
       rw[←O3]
       exact List.length_pos_of_mem (dk7.mpr ⟨hr0,decide_eq_true lr0⟩)
     have ccl:o5 rs e.1*e.1≤40:=by
       have h1:=(X9 (l:=e.1) (by omega) (Rs:=t6 rs e.1) fun r hr'=>(hfil r hr').1).1
       rw[O3] at h1
       have h2:(t6 rs e.1).flatten.length≤rs.flatten.length:=ad3 _ rs
       omega
     have c40:o5 rs e.1≤40:=dg5 (dj2 _ (by omega)) ccl
     refine ⟨_,rfl,_,rfl,d,.ref e.2,rfl,.inl ⟨p6 es,Sum.inl (e.1:Int),.inl h5d,rfl,(bj5 bl.nk he).symm⟩,?_⟩
     refine ⟨_,rfl,e.2,_,rfl,.inl (h8.of h5c),?_⟩
     rw[de9,lcs]
     obtain ⟨c,hc⟩:∃c,c=o5 rs e.1:=⟨_,rfl⟩
     rw[←hc] at c1' ccl c40 lcs ⊢
     refine ⟨_,rfl,_,rfl,e.1,m,rfl,by omega,by omega,by omega,m2,fun dd hlr=> ?_⟩
     have ddp:0 < dd:=hlr.pos (by omega)
     refine ⟨_,rfl,_,rfl,_,_,rfl,rfl,(by show (0:Int) < (dd:Int);omega),rfl,_,rfl,?_⟩
     by_cases hdvd:dd∣c
     · have e0:((c:Int)%(dd:Int))=0:=by
         rw[←dm3,Nat.mod_eq_zero_of_dvd hdvd];rfl
       refine ar2 (congrArg V.int e0) ?_
       obtain ⟨u,hu'⟩:=hdvd
       have u1:1≤u:=by
         rcases do1 u with y|y
         · rw[y,ds9] at hu';omega
         · exact y
       have ddc:dd≤c:=dq1 (by omega) ⟨u,hu'⟩
       have uc:u≤c:=dq1 (by omega) ⟨dd,by rw[hu',dl2]⟩
       have en:(c - 1)/dd+1=u:=by
         have:c - 1=(u - 1)*dd+(dd - 1):=by
           have:u*dd=(u - 1)*dd+dd:=by rw[←do6];congr 1;omega
           rw[hu',dl2];omega
         rw[this,dl2,dy8 ddp,dx5 (by omega)];omega
       obtain ⟨k,hk⟩:=hlr.parts
       have cop:dg6 e.1 k=1:=by
         have:=hlr.rest
         rw[hk,dm0 k ddp] at this
         exact this
       refine ⟨_,rfl,_,rfl,c,dd,rfl,by omega,by omega,by omega,by omega,?_⟩
       rw[en]
       refine bu4 (lo:=0) (st:=(dd:Int)) (n:=u) (fun j σ H6=>∃(js':List Addr) (qs':List (List Int)) (Rss':List (List (List Int))) (v8:Option V),σ=[some (.ref a),some (.int (m:Int)),some (.ref d),some (.ref jo),some (.int (e.1:Int)),some (.ref e.2),some (.int (c:Int)),some (.int (dd:Int)),v8]∧H6 jo=some (.lst (js'.map V.ref))∧l8 H6 js' qs'∧jo∉js'∧js'.length=js.length+j∧JL m rs qs' Rss'∧Rss'.flatten=Rss.flatten++(t6 rs e.1).take (j*dd)∧(∀c o,H4 c=some o→c≠jo→H6 c=some o))
         ⟨js,qs,Rss,v8,rfl,h5j,rowsJ,njj,rfl,jl,by rw[dr4,do3,dh7],k5⟩ ?_ ?_
       · rintro j σ H6 hj ⟨js',qs',Rss',v8,rfl,h6j,rowsJ',njj',ljs',jl',hfl',k6⟩
         have h6c:=k6 e.2 _ (s24 e.2 _ hcs) nej
         have jle:j*dd+dd≤c:=by
           calc j*dd+dd=(j+1)*dd:=by rw[do6]
             _≤u*dd:=dm1 dd hj
             _=c:=by rw[hu',dl2]
         refine ⟨_,rfl,.inl ⟨rfl,_,h8.of h6j⟩,_,rfl,_,rfl,_,rfl,_,rfl,_,rfl,_,_,rfl,rfl,_,rfl,e.2,_,rfl,h8.of h6c,fun sl hsl=> ?_⟩
         have ecut:U9 (cs.map V.ref) (some ((0:Int)+(j:Int)*(dd:Int))) (some ((0:Int)+(j:Int)*(dd:Int)+(dd:Int)))=((cs.drop (j*dd)).take dd).map V.ref:=by
           have a1:(0:Int)+(j:Int)*(dd:Int)=((j*dd:Nat):Int):=by rw[Int.zero_add,dm2]
           have a2:((j*dd:Nat):Int)+(dd:Int)=((j*dd+dd:Nat):Int):=by omega
           rw[a1,a2,cm3 _ _ _ (by rw[de9,lcs];omega),de9,lcs,dx2,dz3]
           congr 1
           omega
         dsimp only
         rw[ecut]
         have s67:e8 H6 (e7 H6 sl (.lst (((cs.drop (j*dd)).take dd).map V.ref))):=e8.upd_new hsl
         have h7s:(e7 H6 sl (.lst (((cs.drop (j*dd)).take dd).map V.ref))) sl=some (.lst (((cs.drop (j*dd)).take dd).map V.ref)):=c8
         generalize (e7 H6 sl (.lst (((cs.drop (j*dd)).take dd).map V.ref)))=H7 at s67 h7s ⊢
         have s17:∀c o,H1 c=some o→H7 c=some o:=fun c o h1=>s67 c o (k6 c o (s24 c o (s12 c o h1)) (g6 (s12 c o h1) hjo))
         have rB:l8 H7 ((cs.drop (j*dd)).take dd) (((t6 rs e.1).drop (j*dd)).take dd):=bv3 (t5 rcs fun c _ o ho=>s17 c o ho) _ _
         have lB:(((t6 rs e.1).drop (j*dd)).take dd).length=dd:=by
           rw[dg7,di0,O3,←hc];omega
         have mB:∀r∈((t6 rs e.1).drop (j*dd)).take dd,r∈t6 rs e.1:=fun r hr'=>do4 (dl7 hr')
         obtain ⟨Bk,hBk⟩:∃Bk,Bk=((t6 rs e.1).drop (j*dd)).take dd:=⟨_,rfl⟩
         rw[←hBk] at rB lB mB
         refine ⟨_,rfl,sl,_,Bk,e.1,k,by rw[lB,←hk];rfl,h7s,rB,by omega,fun r hr'=>(hfil r (mB r hr')).1,by omega,?_,cop,fun o J H8 ho s78 h8o hji=> ?_⟩
         · rw[lB]
           exact dg5 (dm1 _ ddc) ccl
         have h8j:=s78 jo _ (s67 jo _ h6j)
         have noj:o≠jo:=fun z=>by rw[z,s67 jo _ h6j] at ho;cases ho
         refine ⟨jo,_,_,rfl,rfl,h8j,(by rw[de9,sizeLine_eq];omega),?_⟩
         have hJO:JO m rs J Bk:=⟨e.1,k,by omega,by rw[lB,←hk],cop,fun r hr'=>(hfil r (mB r hr')).1,by omega,hji,fun r hr'=>(hfil r (mB r hr')).2,by rw[lB];exact hlr,j,by rw[lB];exact hBk⟩
         refine ⟨js'++[o],qs'++[J],Rss'++[Bk],_,rfl,by rw[c8,df8];rfl,?_,?_,by rw[df7,ljs'];rfl,bq7 jl' hJO,?_,fun c o' hco hcj=> ?_⟩
         · refine Q8 (t5 rowsJ' fun c hcm o' hco=> ?_) ?_
           · have:c≠jo:=fun z=>njj' (by rw[←z];exact hcm)
             rw[g8 this]
             exact s78 c o' (s67 c o' hco)
           · rw[g8 noj];exact h8o
         · intro hm'
           rcases dg2.mp hm' with y|y
           · exact njj' y
           · have:jo=o:=by simpa using y
             exact noj this.symm
         · rw[di7,dh1,List.flatten_nil,dh7,hfl',hBk,dh4,do6,dz2]
         · rw[g8 hcj]
           exact s78 c o' (s67 c o' (k6 c o' hco hcj))
       · rintro σ H6 ⟨js',qs',Rss',v8,rfl,h6j,rowsJ',njj',ljs',jl',hfl',k6⟩
         refine ⟨js',qs',Rss',_,_,_,_,_,rfl,h6j,rowsJ',njj',?_,jl',?_,fun z hz' e' he'=> ?_,k6⟩
         · rw[ljs',du7];omega
         · have efil:(t6 rs e.1).take (u*dd)=t6 rs e.1:=dm7 (by rw[O3,←hc,hu',dl2];exact df2 _)
           rw[hfl',hfl,j6 hz,df8,di7,efil]
           show _=_++([t6 rs ((e.1:Int)).toNat]).flatten
           rw[di4,dh1,List.flatten_nil,dh7]
         · rw[j6 hz] at hz'
           rcases dg2.mp hz' with y|y
           · exact hdv z y e' he'
           · have:z=(e.1:Int):=by simpa using y
             subst this
             rw[di4] at he' ⊢
             rw[he'.uniq hlr,←hc]
             exact ⟨u,hu'⟩
     · have e0:¬V.int ((c:Int)%(dd:Int))=V.int 0:=fun z=>hdvd (du3 (by have:=V.int.inj z;rw[←dm3] at this;omega))
       rw[decide_eq_false e0]
       refine O8 ?_
       refine ⟨_,rfl,_,rfl,_,rfl,(by show 4≤sizeLine;decide),fun t ht=> ?_⟩
       refine q2 t e.1 c dd _ (fun b o hb=> ?_) c8 (by rw[hc,ers]) c1' hlr hdvd fun r hr' hlt e' he'=> ?_
       · have:=k5 b o (s04 b o hb) (g6 hb hjo0)
         rw[g8 (g6 this ht)];exact this
       · rw[←ers] at hr' ⊢
         have hin:=in_ms r hr'
         obtain ⟨jj,hjj⟩:=dh8.mp hin
         have hjl:=(df1.mp hjj).1
         have:jj < i:=by
           rcases dt9 jj i with y|y
           · exact y
           · exfalso
             have e1:=(df1.mp hjj).2
             have e2:=(df1.mp hz).2
             rcases dt9 i jj with w|w
             · have:=di3.mp srt i jj hil hjl w
               rw[e1,e2] at this
               omega
             · have:jj=i:=by omega
               subst this
               rw[e1] at e2
               omega
         have hm':((r.length:Nat):Int)∈ms.take i:=dg1 (i:=jj) (by rw[dk2 this];exact hjj)
         have:=hdv _ hm' e' (by rw[di4];exact he')
         rw[di4] at this
         exact this
   · rintro σ H5 ⟨js,qs,Rss,v4,v5,v6,v7,v8,rfl,h5j,rowsJ,njj,ljs,jl,hfl,hdv,k5⟩
     rw[de9,dh9] at hfl
     have hfl2:Rss.flatten=((ms.map ds2).map (t6 rs)).flatten:=by rw[hfl,dj4];rfl
     have pk:(ms.map ds2).Perm (es.map (·.1)):=by
       have:=pm.map ds2
       rw[dj4] at this
       exact this
     have pR:Rss.flatten.Perm rs:=by
       rw[hfl2]
       refine bb6 (pk.nodup_iff.mpr bl.nk) fun r hr'=> ?_
       exact pk.mem_iff.mpr (bl.all r hr')
     have pq:qs.flatten.Perm (S7 0 p.length):=((bq8 jl).trans pR.flatten).trans (ak7 tp up)
     obtain ⟨tq,lq⟩:=aa5 pq
     refine ⟨_,rfl,jo,js,qs,rfl,h5j,rowsJ,fun J hJ=> ?_,tq,by omega,fun o r H6 ho s56 h6o lr on=> ?_⟩
     · obtain ⟨Rs,_,hjo'⟩:=ay1 jl hJ
       exact ck4 hjo'
     refine ⟨(by show 2≤sizeLine;decide),fun t ht=> ?_⟩
     have hq:∀J∈qs,G0 r J:=fun J hJ=>by
       obtain ⟨Rs,_,hjo'⟩:=ay1 jl hJ
       refine ⟨ck4 hjo',bb7 tq.nd hJ,fun x hx=>tq.lo x (dg8.mpr ⟨J,hJ,hx⟩),on J hJ⟩
     have hx:∀x,In p x→∃J∈qs,at1 p m J x:=fun x hxi=>by
       have hxf:x∈rs.flatten:=(ak7 tp up).mem_iff.mpr (P9.mpr hxi)
       obtain ⟨r0,hr0,hxr⟩:=dg8.mp hxf
       obtain ⟨Rs,hRs,hrR⟩:=dg8.mp (pR.mem_iff.mpr hr0)
       obtain ⟨J,hJ,l,k,l0,hm,c,hr',d1,hj,_,_⟩:=bv2 jl hRs
       obtain ⟨y,L,hy,pr,er,_⟩:=up.ring r0 hr0
       have hL:L=l:=by
         have:=hr' r0 hrR
         rw[er,l7] at this
         exact this
       subst hL
       obtain ⟨aa,haa⟩:=dh8.mp hrR
       rw[er] at hxr
       obtain ⟨bb,hbb,rfl⟩:=x6.mp hxr
       exact ⟨J,hJ,L,k,Rs,aa,bb,y,l0,hm,c,hr',hj,(df1.mp haa).1,hbb,hy,pr,by rw[df5,haa];exact er,rfl⟩
     obtain ⟨tr,pw⟩:=bp4 tp (by rw[lr,lq]) hq hx
     have hro:ac6 p m r:=⟨by rw[lr,lq],fun r0 hr0=>by
       rw[←ers] at hr0 ⊢
       obtain ⟨Rs,hRs,hrR⟩:=dg8.mp (pR.mem_iff.mpr hr0)
       obtain ⟨J,hJ,jo'⟩:=bv2 jl hRs
       exact ⟨J,Rs,jo',hrR,hq J hJ⟩⟩
     have h05:∀b o,H b=some o→H5 b=some o:=fun b o hb=>k5 b o (s04 b o hb) (g6 hb hjo0)
     have ho0:H o=none:=by
       cases hh:H o with
       |none=>rfl
       |some z=>have:=h05 o z hh;rw[ho] at this;cases this
     have nto:o≠t:=g6 h6o ht
     refine q1 t o r _ (fun b u hb=> ?_) c8 ho0 (by rw[g8 nto];exact h6o) tr (by rw[lr,lq]) pw hro
     have:=s56 b u (h05 b u hb)
     rw[g8 (g6 this ht)];exact this
end
end My
namespace My
open PySem L2 Mth
section
variable {P:Program} {w:World} {K:PySem.W.Frag} {mg:Str→Option Value} {base:Heap}
section
variable {X:Cx}
theorem cu5 {o:Expr}{to:TE}{apos pos:Pos}(ho:PE X o to)(hbase:attributeBase o "pop" X.env (eval o X.env)=eval o X.env:=by rfl)(hline:(apos.endLine==pos.line)=true:=by rfl):
 PE X (.Call (.Attribute o "pop" apos) [] [] pos) (cr5 X.K "list" cr7 to):=cr6 PySem.F.plainAttrs_list PySem.F.slot_list_pop PySem.F.type_list_pop cr8 ho hbase hline
theorem cc8 (K:PySem.W.Frag){o e:Expr}{to:TE}{t:TA}{apos pos:Pos}(ho:PE X o to)(ha:PA X [e] t)(hK:X.K=K:=by rfl)
   (hbase:attributeBase o "pop" X.env (eval o X.env)=eval o X.env:=by rfl)
   (hfew:((backTo pos (starEach [e] X.env)).all (fun x=> !x.1)&&(backToKw pos (keywordEach [] X.env)).all (fun x=>x.1.isSome)
     &&decide ([e].length+([]:List Keyword).length+(if ([]:List Keyword).isEmpty then 0 else 1) < 30))=true:=by rfl)
   (hline:(apos.endLine==pos.line)=true:=by rfl) (hs:starEach [e] X.env=(false,eval e X.env)::starEach [] X.env:=by rfl) (hplain:(backTo pos (starEach [] X.env)).any (·.1)=false:=by rfl):
   PE X (.Call (.Attribute o "pop" apos) [e] [] pos) (tBM K "list" by6 to t):=by
 subst hK
 exact bd6 PySem.F.plainAttrs_list PySem.F.slot_list_pop PySem.F.type_list_pop ce9 ho ha hbase hfew hline hs hplain
end
def bj8 (K:PySem.W.Frag):Sp:=fun vs H Q _=>∃(a:Addr) (ns:List Int) (k:Int),vs=[.ref a,.int k]∧h8 K H a (ns.map V.int)∧0≤k∧∀z,Q (.int z) H
theorem cu6:l5 ["script","k"] ["script","k"] (i7 V6):=⟨rfl,rfl,rfl,by decide+kernel,rfl,by decide+kernel,by decide+kernel⟩
theorem co2 {f:Addr}{fd:FuncData}(F:A4 K "_law_cell_at" "_law_cell_at" V6 f fd)(B:Bl mg):o4 P w K mg base A2 1 f fd ["script","k"] (bj8 K):=by
 refine F.ok cu6 (fun vs H Q E h=> ?_) (fun cdv A outer s H vs Q E hr h=> ?_)
 · obtain ⟨a,ns,k,rfl,_⟩:=h
   rfl
 · obtain ⟨a,ns,k,rfl,ha,k0,q⟩:=h
   refine ⟨_,c7 (v9 (n5 aq6 (pv 1) (w4 B.len (c5 (pv 0) c6)) (o3 _)) (c9 (k7 (E3 E9 (pv 0) (pv 1) (fun _ _=>rfl)))) o7) (c9 (k7 h7)),?_⟩
   refine ⟨_,rfl,_,rfl,a,_,rfl,.inl ha,_,_,rfl,rfl,_,rfl,?_⟩
   rw[de9]
   refine P8 (fun h=> ?_) (fun h=>q 0)
   have h:k < (ns.length:Int):=of_decide_eq_true h
   exact ⟨_,rfl,_,rfl,a,_,k,_,rfl,rfl,ha,W6 k0 h,q _⟩
def bj9:Sp:=fun vs H Q _=>∃(z k:Int),vs=[.int z,.int k]∧0≤k∧k≤1000∧∀r:Int,0≤r→Q (.int r) H
theorem bk0:l5 ["cell","k","one"] ["cell","k"] (i7 af0):=⟨rfl,rfl,rfl,by decide+kernel,rfl,by decide+kernel,by decide+kernel⟩
theorem co3 {f:Addr}{fd:FuncData}(F:A4 K "_law_stir" "_law_stir" af0 f fd):o4 P w K mg base A2 1 f fd ["cell","k"] bj9:=by
 refine F.ok bk0 (fun vs H Q E h=> ?_) (fun cdv A outer s H vs Q E hr h=> ?_)
 · obtain ⟨z,k,rfl,_⟩:=h
   rfl
 · obtain ⟨z,k,rfl,k0,k1,q⟩:=h
   refine ⟨_,c7 (i4 (i:=2) bk0.nd rfl (Or.inl rfl) (i9 x9 (i9 G9 (i9 B5 (i9 B5 (i9 x9 (pv 0) h7) (i9 G9 h7 (pv 1))) h7) h7) h7))
     (c7 (i4 (i:=2) bk0.nd rfl (Or.inl rfl) (i9 x9 (i9 G9 (pv 2) (pv 2)) h7))
     (c9 (k7 (i9 aw1 (i9 x9 (i9 G9 (i9 B5 (pv 2) (i9 G9 h7 (pv 1))) h7) h7) h7)))),?_⟩
   have e64:(2:Int)^64=18446744073709551616:=by decide
   refine ⟨_,rfl,_,_,rfl,rfl,(by show (0:Int) < 2147483629;decide),_,rfl,_,_,rfl,rfl,.inl ⟨by decide,by decide⟩,_,_,rfl,rfl,_,_,rfl,rfl,_,_,rfl,rfl,.inr ⟨by decide,by decide⟩,_,_,rfl,rfl,(by show (0:Int) < 2147483647;decide),?_⟩
   refine ⟨_,rfl,_,rfl,_,_,rfl,rfl,.inl ⟨by rw[e64];omega,by rw[e64];omega⟩,_,_,rfl,rfl,(by show (0:Int) < 2147483587;decide),?_⟩
   refine ⟨_,rfl,_,rfl,_,_,rfl,rfl,.inl ⟨by decide,by decide⟩,_,_,rfl,rfl,_,_,rfl,rfl,.inr ⟨by decide,by decide⟩,_,_,rfl,rfl,(by show (0:Int) < 2147483563;decide),_,_,rfl,rfl,⟨by decide,by decide⟩,?_⟩
   exact q _ (Int.ediv_nonneg (dl3 _ (by decide)) (by decide))
def y7 (H:Hp)(a:Addr):Prop:=∃ds:List Int,H a=some (.lst (ds.map V.int))∧(∀x∈ds,0≤x)∧ds.length≤1000
def bk1:Sp:=fun vs H Q _=>∃(z:Int) (n:Nat),vs=[.int z,.int (n:Int)]∧n≤900∧∀(l:Addr) (H':Hp),H l=none→e8 H H'→y7 H' l→Q (.ref l) H'
theorem Y6:l5 ["cell","many","found","digits","k","number"] ["cell","many"] (i7 af1):=⟨rfl,rfl,rfl,by decide+kernel,rfl,by decide+kernel,by decide+kernel⟩
theorem co4 {f:Addr}{fd:FuncData}(F:A4 K "_law_deck" "_law_deck" af1 f fd)(B:Bl mg)(cS:j9 P w K mg base "_law_stir" 1 ["cell","k"] bj9):o4 P w K mg base A2 2 f fd ["cell","many"] bk1:=by
 refine F.ok Y6 (fun vs H Q E h=> ?_) (fun cdv A outer s H vs Q E hr h=> ?_)
 · obtain ⟨z,n,rfl,_⟩:=h
   rfl
 · obtain ⟨z,n,rfl,n9,q⟩:=h
   refine ⟨_,c7 (i4 (i:=2) Y6.nd rfl (Or.inl rfl) (r6 c6))
     (c7 (i4 (i:=3) Y6.nd rfl (Or.inl rfl) (pv 0))
     (c7 (n0 PassesOwn.never rfl (K5 (by rfl) B.range (c5 (pv 1) c6)) (i8 (i:=4) Y6.nd rfl (Or.inl rfl))
       (c7 (i4 (i:=5) Y6.nd rfl (Or.inl rfl) (i6 cS hr (c5 (pv 0) (c5 (pv 4) c6))))
       (c7 (v9 (n5 cj6 (pv 0) (i9 bx2 h7 h7) (o3 _)) (c9 (i4 (i:=5) Y6.nd rfl (Or.inl rfl) (i9 x9 (pv 3) h7))) o7)
       (c7 (i4 (i:=3) Y6.nd rfl (Or.inl rfl) (i9 aw1 (pv 3) h7))
       (c9 (q5 (C6 (pv 2) (c5 (pv 5) c6))))))))
     (c9 (k7 (cs7 (pv 2) (Q4 (cx1 cq5 h7))))))),?_⟩
   refine ⟨dh2 _,fun l hl=> ?_⟩
   have s1:e8 H (e7 H l (.lst [])):=e8.upd_new hl
   have h1l:(e7 H l (.lst [])) l=some (.lst []):=c8
   generalize (e7 H l (.lst []))=H1 at s1 h1l ⊢
   refine ⟨_,rfl,?_⟩
   refine ⟨_,rfl,(n:Int),rfl,by omega,by omega,G6 (lo:=0) (n:=((n:Nat):Int).toNat) (fun i σ H2=>∃(ds:List Int) (dg:Int) (v4 v5:Option V),σ=[some (.int z),some (.int (n:Int)),some (.ref l),some (.int dg),v4,v5]∧H2 l=some (.lst (ds.map V.int))∧ds.length=i∧(∀x∈ds,0≤x)∧e8 H H2)
     ⟨[],z,none,none,rfl,h1l,rfl,fun x hx=>by simp at hx,s1⟩ ?_ ?_⟩
   · rintro i σ H2 hi ⟨ds,dg,v4,v5,rfl,h2l,lds,pos,s2⟩
     refine ⟨_,rfl,_,rfl,z,_,rfl,by omega,by omega,fun r r0=> ?_⟩
     have cp:cq4 10 18:=⟨by decide,by decide,by decide⟩
     refine ⟨_,rfl,_,_,rfl,rfl,cp,_,_,rfl,rfl,_,rfl,?_⟩
     have fin:∀w:Int,0≤w→∃(ds':List Int) (dg':Int) (v4 v5:Option V),[some (V.int z),some (V.int (n:Int)),some (.ref l),some (V.int (dg/720720)),some (V.int ((0:Int)+(i:Int))),some (V.int w)]=[some (V.int z),some (V.int (n:Int)),some (.ref l),some (V.int dg'),v4,v5]∧(e7 H2 l (.lst (ds.map V.int++[.int w]))) l=some (.lst (ds'.map V.int))∧ds'.length=i+1∧(∀x∈ds',0≤x)∧e8 H (e7 H2 l (.lst (ds.map V.int++[.int w]))):=fun w w0=>by
       refine ⟨ds++[w],dg/720720,_,_,rfl,by rw[c8,df8];rfl,by rw[df7,lds];rfl,fun x hx=> ?_,fun b o hb=>by rw[g8 (g6 hb hl)];exact s2 b o hb⟩
       rcases dg2.mp hx with y|y
       · exact pos x y
       · have:x=w:=by simpa using y
         rw[this];exact w0
     refine P8 (fun _=> ?_) (fun _=> ?_)
     · refine ⟨_,rfl,_,_,rfl,rfl,(by show (0:Int) < 720720;decide),?_⟩
       refine ⟨_,rfl,_,_,rfl,rfl,⟨by decide,by decide⟩,?_⟩
       refine ⟨_,rfl,.inl ⟨rfl,_,h8.of h2l⟩,_,rfl,l,_,_,rfl,rfl,h2l,p8 (by rw[de9];omega),?_⟩
       exact fin (dg%720720) (dl3 _ (by decide))
     · refine ⟨_,rfl,_,_,rfl,rfl,⟨by decide,by decide⟩,?_⟩
       refine ⟨_,rfl,.inl ⟨rfl,_,h8.of h2l⟩,_,rfl,l,_,_,rfl,rfl,h2l,p8 (by rw[de9];omega),?_⟩
       exact fin r r0
   · rintro σ H2 ⟨ds,dg,v4,v5,rfl,h2l,lds,pos,s2⟩
     refine ⟨_,rfl,_,rfl,_,rfl,rfl,l,_,rfl,h8.of h2l,fun o ho=> ?_⟩
     refine q o _ (s2.free ho) (s2.upd_r (s2.free ho)) ⟨ds.reverse,by rw[c8,List.map_reverse],fun x hx=>pos x (dp4.mp hx),by rw[dp1];omega⟩
def aj1:Sp:=fun vs H Q _=>∃(a:Addr),vs=[.ref a]∧y7 H a∧∀(r:Int) (H':Hp),0≤r→y7 H' a→j5 a H H'→Q (.int r) H'
theorem cu7:l5 ["deck"] ["deck"] (i7 af2):=⟨rfl,rfl,rfl,by decide+kernel,rfl,by decide+kernel,by decide+kernel⟩
theorem co5 {f:Addr}{fd:FuncData}(F:A4 K "_law_next" "_law_next" af2 f fd):o4 P w K mg base A2 1 f fd ["deck"] aj1:=by
 refine F.ok cu7 (fun vs H Q E h=> ?_) (fun cdv A outer s H vs Q E hr h=> ?_)
 · obtain ⟨a,rfl,_⟩:=h
   rfl
 · obtain ⟨a,rfl,⟨ds,ha,pos,len⟩,q⟩:=h
   have hu:=W2 hr
   refine ⟨_,c7 (v9 (n5 (ar6 0 hu) (pv 0) (r6 c6) (o3 _)) (c9 (k7 h7)) o7) (c9 (k7 (cu5 (pv 0)))),?_⟩
   refine ⟨_,rfl,dh2 _,fun e he=> ?_⟩
   have nae:a≠e:=g6 ha he
   have h1a:(e7 H e (.lst [])) a=some (.lst (ds.map V.int)):=by rw[g8 nae];exact ha
   have kb:j5 a H (e7 H e (.lst [])):=fun b o hb _=>by rw[g8 (g6 hb he)];exact hb
   refine ⟨a,e,ds.map V.int,[],_,rfl,rfl,h8.of h1a,h8.of c8,cl8 _ _ _ _,_,rfl,?_⟩
   generalize (e7 H e (.lst []))=H1 at h1a kb ⊢
   cases ds with
   |nil=>exact O8 (q 0 H1 (by decide) ⟨[],h1a,pos,len⟩ kb)
   |cons x xs=>
    refine E7 ?_
    have hl:(x::xs).length - 1 < (x::xs).length:=by simp
    have hg:((x::xs).map V.int)[((x::xs).map V.int).length - 1]? =some (.int (x::xs)[(x::xs).length - 1]):=by
      rw[de9,df3,df0 hl];rfl
    refine ⟨_,rfl,.inl ⟨rfl,_,h8.of h1a⟩,a,_,_,rfl,rfl,h1a,hg,?_⟩
    refine q _ _ (pos _ (di5 hl)) ⟨(x::xs).dropLast,by rw[c8,List.map_dropLast],fun y hy=>pos y ((List.dropLast_sublist _).mem hy),by rw[dv4];omega⟩ fun b o hb hn=>by rw[g8 hn];exact kb b o hb hn
end
end My
namespace My
open PySem L2 Mth
section
variable {P:Program} {w:World} {K:PySem.W.Frag} {mg:Str→Option Value} {base:Heap}
def ay2:Sp:=fun vs H Q _=>∃(g:Addr) (n:Nat),vs=[.ref g,.int (n:Int)]∧y7 H g∧n≤40∧
 ∀(l:Addr) (p:List Int) (H':Hp),H l=none→l9 p→p.length=n→H' l=some (.lst (p.map V.int))→y7 H' g→j5 g H H'→Q (.ref l) H'
theorem O6:l5 ["deck","many","left","order","few","found","at","l","k"] ["deck","many"] (i7 af3):=⟨rfl,rfl,rfl,by decide+kernel,rfl,by decide+kernel,by decide+kernel⟩
theorem cz5:(["k","deck","left"]:List Str).Nodup:=by decide+kernel
theorem y7.some {H:Hp}{a:Addr}(h:y7 H a):∃o,H a=some o:=let ⟨_,e,_⟩:=h;⟨_,e⟩
theorem y7.same {H H':Hp}{a:Addr}(h:y7 H a)(s:e8 H H'):y7 H' a:=let ⟨ds,e,r⟩:=h;⟨ds,s _ _ e,r⟩
theorem y7.upd {H:Hp}{a b:Addr}{o:HO}(h:y7 H a)(n:a≠b):y7 (L2.e7 H b o) a:=let ⟨ds,e,r⟩:=h;⟨ds,by rw[g8 n];exact e,r⟩
theorem ci0 {f:Addr}{fd:FuncData}(F:A4 K "_law_turn" "_law_turn" af3 f fd)(B:Bl mg)(cN:j9 P w K mg base "_law_next" 1 ["deck"] aj1):o4 P w K mg base A2 2 f fd ["deck","many"] ay2:=by
 refine F.ok O6 (fun vs H Q E h=> ?_) (fun cdv A outer s H vs Q E hr h=> ?_)
 · obtain ⟨g,n,rfl,_⟩:=h
   rfl
 · obtain ⟨g,n,rfl,hD,n4,q⟩:=h
   refine ⟨_,c7 (i4 (i:=2) O6.nd rfl (Or.inr rfl) (bt7 rfl B.list B.range (c5 (pv 1) c6)))
     (c7 (bo6 (i:=3) (N:=["k","deck","left"]) (nl:=1) (fr:=[0,2]) O6.nd rfl (Or.inl rfl) rfl .of (K5 (by rfl) B.range (c5 (pv 1) c6)) (fun _ _ _ _ _=>i8 (i:=0) cz5 rfl (Or.inl rfl))
       (fun _ _ _ _ _=>bf5) (fun _ _ _ _ _=>cc8 K (pv 2) (c5 (i9 x9 (i6 cN hr (c5 (pv 1) c6)) (bf9 K B.len (c5 (pv 2) c6))) c6)))
     (c7 (v9 (n5 T7 (i9 x9 (i6 cN hr (c5 (pv 0) c6)) h7) h7 (o3 _)) (c9 (k7 (pv 3))) o7)
     (c7 (i4 (i:=4) O6.nd rfl (Or.inl rfl) (r6 (c5 (i9 B5 h7 (i9 x9 (i6 cN hr (c5 (pv 0) c6)) h7)) (c5 (i9 B5 h7 (i9 x9 (i6 cN hr (c5 (pv 0) c6)) h7)) c6))))
     (c7 (i4 (i:=5) O6.nd rfl (Or.inl rfl) (i9 by7 (r6 (c5 h7 c6)) (pv 1)))
     (c7 (i4 (i:=6) O6.nd rfl (Or.inl rfl) h7)
     (c7 (ad7 PassesOwn.never (n5 aq6 (pv 6) (pv 1) (o3 _))
       (c7 (i4 (i:=7) O6.nd rfl (Or.inl rfl) (bo8 rfl B.min (c5 (E3 E9 (pv 4) (i9 x9 (i6 cN hr (c5 (pv 0) c6)) h7) (fun _ _=>rfl)) (c5 (i9 aq4 (pv 1) (pv 6)) c6))))
       (c7 (n0 PassesOwn.never rfl (K5 (by rfl) B.range (c5 (pv 7) c6)) (i8 (i:=8) O6.nd rfl (Or.inl rfl))
         (c9 (aq2 (E3 E9 (pv 3) (i9 B5 (pv 6) (i9 x9 (i9 B5 (pv 8) h7) (pv 7))) (fun _ _=>rfl)) (aq1 (pv 5) (E3 E9 (pv 3) (i9 B5 (pv 6) (pv 8)) (fun _ _=>rfl)) ad9))))
       (c9 (i4 (i:=6) O6.nd rfl (Or.inl rfl) (i9 B5 (pv 6) (pv 7)))))))
     (c9 (k7 (pv 5))))))))),?_⟩
   refine ⟨_,rfl,_,rfl,fun r hr'=>⟨r,0,(n:Int),rfl,c8,⟨by decide,by decide,by omega,by omega⟩,by omega,fun l hl=> ?_⟩⟩
   have hlr:l≠r:=fun z=>by rw[z,c8] at hl;cases hl
   have hl0:H l=none:=by rw[g8 hlr] at hl;exact hl
   have e0:((n:Int) - 0).toNat=n:=by omega
   rw[e0]
   have s1:e8 H (e7 (e7 H r (.rng 0 (n:Int))) l (.lst ((S7 0 n).map V.int))):=(e8.upd_new hr').upd_r hl0
   have h1l:(e7 (e7 H r (.rng 0 (n:Int))) l (.lst ((S7 0 n).map V.int))) l=some (.lst ((S7 0 n).map V.int)):=c8
   generalize (e7 (e7 H r (.rng 0 (n:Int))) l (.lst ((S7 0 n).map V.int)))=H1 at s1 h1l ⊢
   have ngl:g≠l:=by obtain ⟨o,e⟩:=hD.some;exact g6 e hl0
   refine ⟨_,rfl,(n:Int),rfl,by omega,by omega,ar5 (lo:=0) (n:=((n:Nat):Int).toNat) (fun i ys σ H2=>∃(v:Option V) (ls:List V),σ=[v,some (.ref g),some (.ref l)]∧H2 l=some (.lst ls)∧(ys++ls).Perm ((S7 0 n).map V.int)∧ys.length=i∧y7 H2 g∧j5 g H H2)
     ⟨none,_,rfl,h1l,List.Perm.refl _,rfl,hD.same s1,fun b o hb _=>s1 b o hb⟩ ?_ ?_⟩
   · rintro i ys σ H2 hi ⟨v,ls,rfl,h2l,pm,ly,D2,kb2⟩
     have hlen:ys.length+ls.length=n:=by
       have:=pm.length_eq
       rw[df7,de9,L5] at this
       exact this
     have hlp:0 < ls.length:=by omega
     refine ⟨_,rfl,.inl ⟨rfl,_,h8.of h2l⟩,_,rfl,g,rfl,D2,fun x H3 x0 D3 kb3=> ?_⟩
     have h3l:=kb3 l _ h2l ngl.symm
     refine ⟨_,rfl,l,_,rfl,.inl (h8.of h3l),_,_,rfl,rfl,(by show (0:Int) < (ls.length:Int);omega),?_⟩
     have hm0:0≤x%(ls.length:Int):=dl3 _ (by omega)
     have hm1:x%(ls.length:Int) < (ls.length:Int):=do2 _ (by omega)
     dsimp only
     generalize x%(ls.length:Int)=jx at hm0 hm1 ⊢
     obtain ⟨jn,rfl⟩:=dr0 hm0
     have hjl:jn < ls.length:=by omega
     refine ⟨l,_,_,jn,ls[jn],rfl,rfl,h3l,by omega,by omega,?_,df0 hjl,?_,?_⟩
     · have:ixN ls.length (jn:Int)=some jn:=by
         unfold ixN
         rw[if_pos (by omega),if_pos (by omega)]
         simp
       exact (aw3 this).1
     · exact p8 (by omega)
     · refine ⟨_,_,rfl,c8,?_,by rw[df7,ly];rfl,D3.upd ngl,fun b o hb hn=>by rw[g8 (g6 hb hl0)];exact kb3 b o (kb2 b o hb hn) hn⟩
       have pe:=ar8 (l:=ls) (k:=jn) (df0 hjl)
       refine List.Perm.trans ?_ pm
       rw[dh4]
       exact List.Perm.append_left ys pe
   · rintro ys σ H2 ⟨v,ls,rfl,h2l,pm,ly,D2,kb2⟩ m hm
     have hlen:ys.length+ls.length=n:=by
       have:=pm.length_eq
       rw[df7,de9,L5] at this
       exact this
     have:ls=[]:=dp0.mp (by omega)
     subst this
     rw[dh7] at pm
     obtain ⟨ts,rfl,hts⟩:=ca2 pm
     obtain ⟨hT,hTl⟩:=aa5 hts
     have ngm:g≠m:=by obtain ⟨o,e⟩:=D2.some;exact g6 e hm
     have hm0:H m=none:=kb2.free hm ngm.symm
     have D3:y7 (e7 H2 m (.lst (ts.map V.int))) g:=D2.upd ngm
     have kb3:j5 g H (e7 H2 m (.lst (ts.map V.int))):=kb2.upd_r hm0
     have h3m:(e7 H2 m (.lst (ts.map V.int))) m=some (.lst (ts.map V.int)):=c8
     generalize (e7 H2 m (.lst (ts.map V.int)))=H3 at D3 kb3 h3m ⊢
     refine ⟨_,rfl,g,rfl,D3,fun x1 H4 x10 D4 kb34=> ?_⟩
     have h4m:=kb34 m _ h3m ngm.symm
     have kb4:=kb3.trans kb34
     refine ⟨_,_,rfl,rfl,(by show (0:Int) < 4;decide),rfl,_,rfl,?_⟩
     refine P8 (fun _=>⟨_,rfl,q m ts H4 hm0 hT hTl h4m D4 kb4⟩) (fun _=> ?_)
     refine ⟨_,rfl,g,rfl,D4,fun x2 H5 x20 D5 kb45=>⟨_,_,rfl,rfl,(by show (0:Int) < 4;decide),_,_,rfl,rfl,?_⟩⟩
     refine ⟨_,rfl,g,rfl,D5,fun x3 H6 x30 D6 kb56=>⟨_,_,rfl,rfl,(by show (0:Int) < 6;decide),_,_,rfl,rfl,(by show 2≤sizeLine;decide),fun fw hfw=> ?_⟩⟩
     have ngf:g≠fw:=by obtain ⟨o,e⟩:=D6.some;exact g6 e hfw
     have f1:1≤1+x2%4∧1+x2%4≤4:=by omega
     have f2:1≤1+x3%6∧1+x3%6≤6:=by omega
     have kb6:=(kb4.trans kb45).trans kb56
     have hfw0:H fw=none:=kb6.free hfw ngf.symm
     have h6m:=kb56 m _ (kb45 m _ h4m ngm.symm) ngm.symm
     have nmf:m≠fw:=g6 h6m hfw
     dsimp only
     generalize 1+x2%4=a1 at f1 ⊢
     generalize 1+x3%6=a2 at f2 ⊢
     have h7f:(e7 H6 fw (.lst [.int a1,.int a2])) fw=some (.lst [.int a1,.int a2]):=c8
     have h7m:(e7 H6 fw (.lst [.int a1,.int a2])) m=some (.lst (ts.map V.int)):=by rw[g8 nmf];exact h6m
     have D7:y7 (e7 H6 fw (.lst [.int a1,.int a2])) g:=D6.upd ngf
     have kb7:j5 g H (e7 H6 fw (.lst [.int a1,.int a2])):=kb6.upd_r hfw0
     generalize (e7 H6 fw (.lst [.int a1,.int a2]))=H7 at h7f h7m D7 kb7 ⊢
     refine ⟨(by show 1≤sizeLine;decide),fun e he=> ?_⟩
     have nge:g≠e:=by obtain ⟨o,e'⟩:=D7.some;exact g6 e' he
     have he0:H e=none:=kb7.free he nge.symm
     refine ⟨_,rfl,e,_,_,rfl,rfl,c8,by omega,by omega,by show 1*_≤sizeLine;rw[sizeLine_eq];omega,fun fo hfo=> ?_⟩
     rw[show ((n:Nat):Int).toNat=n by omega,bg0]
     have hfe:fo≠e:=fun z=>by rw[z,c8] at hfo;cases hfo
     have hfo7:H7 fo=none:=by rw[g8 hfe] at hfo;exact hfo
     have ngo:g≠fo:=by obtain ⟨o,e'⟩:=D7.some;exact g6 e' hfo7
     have hfo0:H fo=none:=kb7.free hfo7 ngo.symm
     have nmo:m≠fo:=g6 h7m hfo7
     have nfo:fw≠fo:=g6 h7f hfo7
     have s78:e8 H7 (e7 (e7 H7 e (.lst [.int 0])) fo (.lst ((di6 n (0:Int)).map V.int))):=(e8.upd_new he).upd_r hfo7
     have h8o:(e7 (e7 H7 e (.lst [.int 0])) fo (.lst ((di6 n (0:Int)).map V.int))) fo=some (.lst ((di6 n (0:Int)).map V.int)):=c8
     generalize (e7 (e7 H7 e (.lst [.int 0])) fo (.lst ((di6 n (0:Int)).map V.int)))=H8 at s78 h8o ⊢
     refine ⟨fun mm σ H9=>∃(fs qs:List Int) (k:Nat) (v7 v8:Option V),σ=[some (.ref g),some (.int (n:Int)),some (.ref l),some (.ref m),some (.ref fw),some (.ref fo),some (.int (k:Int)),v7,v8]∧k≤n∧H9 fo=some (.lst (fs.map V.int))∧H9 m=some (.lst (ts.map V.int))∧H9 fw=some (.lst [.int a1,.int a2])∧fs.length=ts.length∧qs.Perm (ts.take k)∧(ts.take k).map (x5 fs)=qs.map some∧y7 H9 g∧j5 g H H9∧mm=n - k,
       ⟨n,_,[],0,none,none,rfl,dh2 _,h8o,s78 m _ h7m,s78 fw _ h7f,by rw[dp9,hTl],List.Perm.refl _,rfl,D7.same s78,fun b o hb hn=>s78 b o (kb7 b o hb hn),by omega⟩,?_⟩
     rintro mm σ H9 ⟨fs,qs,k,v7,v8,rfl,hk,h9o,h9m,h9f,hfl,hq,hmap,D9,kb9,rfl⟩
     refine ⟨_,rfl,_,rfl,_,_,rfl,rfl,_,rfl,?_⟩
     refine P8 (fun hlt=> ?_) (fun hge=> ?_)
     · have hlt:(k:Int) < (n:Int):=of_decide_eq_true hlt
       refine ⟨fun σ' H'=>∃m',m' < n - k∧_,fun _ _ h=>h,?_⟩
       refine ⟨_,rfl,_,rfl,g,rfl,D9,fun x4 H10 x40 D10 kb910=>⟨_,_,rfl,rfl,(by show (0:Int) < 2;decide),?_⟩⟩
       have h10f:=kb910 fw _ h9f ngf.symm
       have key:∃av,atI [V.int a1,V.int a2] (x4%2)=some (.int av)∧1≤av:=by
         have:x4%2=0∨x4%2=1:=by omega
         rcases this with e|e
         · rw[e];exact ⟨a1,B6 (j:=0) rfl,f1.1⟩
         · rw[e];exact ⟨a2,B6 (j:=1) rfl,f2.1⟩
       obtain ⟨av,hat,av1⟩:=key
       refine ⟨fw,_,_,_,rfl,rfl,h8.of h10f,hat,?_⟩
       refine ⟨_,rfl,_,rfl,_,_,rfl,rfl,av,_,rfl,?_⟩
       have hL:∃L:Nat,(if ((n:Int) - (k:Int)) < av then ((n:Int) - (k:Int)) else av)=(L:Int)∧1≤L∧k+L≤n:=by
         split
         · exact ⟨n - k,by omega,by omega,by omega⟩
         · exact ⟨av.toNat,by omega,by omega,by omega⟩
       obtain ⟨L,eL,L1,kL⟩:=hL
       dsimp only
       rw[eL]
       have h10m:=kb910 m _ h9m ngm.symm
       have h10o:=kb910 fo _ h9o ngo.symm
       have kb10:=kb9.trans kb910
       have hLn:((L:Nat):Int).toNat=L:=by omega
       refine ⟨_,rfl,(L:Int),rfl,by omega,by omega,G6 (lo:=0) (n:=((L:Nat):Int).toNat) (fun j σ H11=>∃(fs':List Int) (v8':Option V),σ=[some (.ref g),some (.int (n:Int)),some (.ref l),some (.ref m),some (.ref fw),some (.ref fo),some (.int (k:Int)),some (.int (L:Int)),v8']∧H11 fo=some (.lst (fs'.map V.int))∧H11 m=some (.lst (ts.map V.int))∧H11 fw=some (.lst [.int a1,.int a2])∧fs'.length=ts.length∧(ts.take k).map (x5 fs')=qs.map some∧(∀u,u < j→x5 fs' (ts.getD (k+u) 0)=some (ts.getD (k+(u+1)%L) 0))∧y7 H11 g∧j5 g H H11)
         ⟨fs,v8,rfl,h10o,h10m,h10f,hfl,hmap,fun u hu=>by omega,D10,kb10⟩ ?_ ?_⟩
       · rintro j σ H11 hj ⟨fs',v8',rfl,h11o,h11m,h11f,hfl',hmap',hu',D11,kb11⟩
         have hjL:j < L:=by omega
         have hjm:(j+1)%L < L:=dm6 _ (by omega)
         have hi1:k+j < ts.length:=by omega
         have hi2:k+(j+1)%L < ts.length:=by omega
         have ej:(k:Int)+((0:Int)+(j:Int)+1)%(L:Int)=((k+(j+1)%L:Nat):Int):=by
           have e1:(0:Int)+(j:Int)+1=((j+1:Nat):Int):=by omega
           rw[e1,←dm3]
           omega
         have hat1:atI (ts.map V.int) ((k:Int)+((0:Int)+(j:Int)+1)%(L:Int))=some (.int (ts.getD (k+(j+1)%L) 0)):=by
           rw[ej]
           have:=W6 (p:=ts) (i:=((k+(j+1)%L:Nat):Int)) (by omega) (by omega)
           rw[di4] at this
           exact this
         have hat2:atI (ts.map V.int) ((k:Int)+((0:Int)+(j:Int)))=some (.int (ts.getD (k+j) 0)):=by
           have e:(k:Int)+((0:Int)+(j:Int))=((k+j:Nat):Int):=by omega
           rw[e]
           have:=W6 (p:=ts) (i:=((k+j:Nat):Int)) (by omega) (by omega)
           rw[di4] at this
           exact this
         refine ⟨_,rfl,_,rfl,_,rfl,_,_,rfl,rfl,_,rfl,_,_,rfl,rfl,(by show (0:Int) < (L:Int);omega),_,_,rfl,rfl,m,_,_,_,rfl,rfl,h8.of h11m,hat1,?_⟩
         refine ⟨_,rfl,_,rfl,_,rfl,_,rfl,_,_,rfl,rfl,m,_,_,_,rfl,rfl,h8.of h11m,hat2,?_⟩
         have htv:ts.getD (k+j) 0∈ts:=by rw[D0 hi1];exact di5 hi1
         have t0:=hT.lo _ htv
         have t1:=hT.hi _ htv
         refine ⟨fo,_,_,(ts.getD (k+j) 0).toNat,rfl,rfl,h11o,?_,?_⟩
         · unfold ixN
           rw[de9,if_pos t0,if_pos (by omega)]
         have es:(fs'.map V.int).set (ts.getD (k+j) 0).toNat (.int (ts.getD (k+(j+1)%L) 0))=(fs'.set (ts.getD (k+j) 0).toNat (ts.getD (k+(j+1)%L) 0)).map V.int:=by rw[dy5]
         rw[es]
         refine ⟨_,_,rfl,c8,by rw[g8 nmo];exact h11m,by rw[g8 nfo];exact h11f,by rw[dr6];exact hfl',?_,?_,D11.upd ngo,fun b o hb hnn=>by rw[g8 (g6 hb hfo0)];exact kb11 b o hb hnn⟩
         · rw[←hmap']
           refine dk6 fun u hu=> ?_
           have hut:=dl7 hu
           refine ac2 (hT.lo u hut) t0 fun z=> ?_
           obtain ⟨jj,hjj⟩:=dh8.mp hu
           have hjk:jj < k:=by
             have:=(df1.mp hjj).1
             rw[dg7] at this
             omega
           rw[dk2 hjk] at hjj
           have:=(df1.mp hjj).2
           exact O1 hT.nd (i:=jj) (j:=k+j) (by omega) hi1 (by omega) (by rw[D0 (show jj < ts.length by omega),this];exact z)
         · intro u hu
           by_cases huj:u=j
           · subst huj
             exact ae2 (by omega)
           · have huj':u < j:=by omega
             rw[ac2 (hT.lo _ (by rw[D0 (show k+u < ts.length by omega)];exact di5 _)) t0 (O1 hT.nd (by omega) hi1 (by omega))]
             exact hu' u huj'
       · rintro σ H11 ⟨fs',v8',rfl,h11o,h11m,h11f,hfl',hmap',hu',D11,kb11⟩
         rw[hLn] at hu'
         obtain ⟨qs',hq',hmap''⟩:=cf7 L1 (by omega) hmap' hq hu'
         refine ⟨_,rfl,_,rfl,_,_,rfl,rfl,n - (k+L),by omega,fs',qs',k+L,some (.int (L:Int)),v8',?_,kL,h11o,h11m,h11f,hfl',hq',hmap'',D11,kb11,rfl⟩
         rw[show ((k+L:Nat):Int)=(k:Int)+(L:Int) by omega];rfl
     · have hge:¬(k:Int) < (n:Int):=fun z=>hge (decide_eq_true z)
       have hkl:k=ts.length:=by omega
       rw[hkl,dh9] at hq hmap
       have pf:=(ar7 hT hfl hmap).trans (hq.trans hts)
       obtain ⟨hF,hFl⟩:=aa5 pf
       exact ⟨_,rfl,q fo fs H9 hfo0 hF hFl h9o D9 kb9⟩
def spM:Sp:=fun vs H Q _=>∃(g:Addr),vs=[.ref g]∧y7 H g∧∀(m:Nat) (H':Hp),1≤m→m≤1000000000000000000000000000000→y7 H' g→j5 g H H'→Q (.int (m:Int)) H'
theorem scM:l5 ["deck","way","rest","k","found","prime"] ["deck"] (i7 ax7):=⟨rfl,rfl,rfl,by decide+kernel,rfl,by decide+kernel,by decide+kernel⟩
theorem ci1 {K:PySem.W.Frag}{a:Addr}{xs:List V}{g:TG}{tb:TS}{D:U8}{σ:St}{H:Hp}(Pv:Nat→St→Hp→Prop)(h0:Pv 0 σ H)(hl:∀i σ H,i≤xs.length→Pv i σ H→E6 K H a xs)
   (hs:∀i x σ H,xs[i]? =some x→Pv i σ H→g x σ H fun σ2 H2=>tb {D with nx:=Pv (i+1),ct:=Pv (i+1),bk:=D.nx} σ2 H2) (hd:∀σ H,Pv xs.length σ H→D.nx σ H):
   ∃W:Nat→Nat→St→Hp→Prop,(∃m,W 0 m σ H)∧∀i m σ H,W i m σ H→
    ((Itt K a).stop i H∧D.nx σ H)∨((Itt K a).go i H∧∃N:St→Hp→Prop,(∀σ' H',N σ' H'→∃m',m' < m∧W (i+1) m' σ' H')∧∀x H',(Itt K a).yld i H x H'→g x σ H' fun σ2 H2=>tb {D with nx:=N,ct:=N,bk:=D.nx} σ2 H2):=by
 refine ⟨fun i m σ H=>m=xs.length - i∧i≤xs.length∧Pv i σ H,⟨xs.length,by simp,dh2 _,h0⟩,?_⟩
 rintro i m σ H ⟨rfl,hi,p⟩
 have q:=hl i σ H hi p
 by_cases hlt:i < xs.length
 · refine .inr ⟨⟨xs,xs[i],q,by simp [hlt]⟩,Pv (i+1),fun σ' H' p'=>⟨xs.length - (i+1),by omega,rfl,hlt,p'⟩,fun x H' y=> ?_⟩
   obtain ⟨e,y⟩:=y
   subst e
   exact hs i x σ _ (y xs q) p
 · have e:i=xs.length:=by omega
   subst e
   exact .inl ⟨⟨xs,q,df2 _⟩,hd σ H p⟩
theorem dd0 {f:Addr}{fd:FuncData}(F:A4 K "_law_m" "_law_m" ax7 f fd)(B:Bl mg)(cN:j9 P w K mg base "_law_next" 1 ["deck"] aj1):o4 P w K mg base A2 2 f fd ["deck"] spM:=by
 refine F.ok scM (fun vs H Q E h=> ?_) (fun cdv A outer s H vs Q E hr h=> ?_)
 · obtain ⟨g,rfl,_⟩:=h
   rfl
 · obtain ⟨g,rfl,hD,q⟩:=h
   refine ⟨_,c7 (i4 (i:=1) scM.nd rfl (Or.inl rfl) (i9 x9 (i6 cN hr (c5 (pv 0) c6)) h7))
     (c7 (v9 (n5 aq6 (pv 1) h7 (o3 _)) (c9 (k7 (i9 B5 h7 (i9 x9 (i6 cN hr (c5 (pv 0) c6)) (E3 E9 (r6 (c5 h7 (c5 h7 c6))) (pv 1) (fun _ _=>rfl)))))) o7)
     (c7 (v9 (n5 T7 (pv 1) h7 (o3 _)) (c7 (i4 (i:=2) scM.nd rfl (Or.inl rfl) h7) (c7 (n0 PassesOwn.never rfl (K5 (by rfl) B.range (c5 h7 c6)) (i8 (i:=3) scM.nd rfl (Or.inl rfl)) (c9 (i4 (i:=2) scM.nd rfl (Or.inl rfl) (i9 B5 (i9 G9 (pv 2) h7) (i6 cN hr (c5 (pv 0) c6))))))
         (c9 (k7 (i9 B5 h7 (i9 x9 (pv 2) (i9 aq4 (i9 bx2 h7 h7) h7))))))) o7)
     (c7 (i4 (i:=4) scM.nd rfl (Or.inl rfl) h7)
     (c7 (n0 PassesOwn.never rfl (cq1 (X1 (bg4 _ [2,2,2,3,3,5,7] (by decide+kernel)))) (i8 (i:=5) scM.nd rfl (Or.inl rfl)) (c9 (i4 (i:=4) scM.nd rfl (Or.inl rfl) (i9 G9 (pv 4) (E3 E9 (r6 (c5 h7 (c5 (pv 5) c6))) (i9 x9 (i6 cN hr (c5 (pv 0) c6)) h7) (fun _ _=>rfl))))))
     (c7 (v9 (n5 T7 (pv 1) h7 (o3 _)) (c9 (n0 PassesOwn.never rfl (K5 (by rfl) B.range (c5 h7 c6)) (i8 (i:=3) scM.nd rfl (Or.inl rfl)) (c9 (i4 (i:=4) scM.nd rfl (Or.inl rfl) (i9 G9 (pv 4) (i9 B5 h7 (i9 x9 (i6 cN hr (c5 (pv 0) c6)) h7))))))) o7)
     (c9 (k7 (pv 4)))))))),?_⟩
   refine ⟨_,rfl,g,rfl,hD,fun x1 H1 x10 D1 kb1=>⟨_,_,rfl,rfl,(by show (0:Int) < 5;decide),?_⟩⟩
   dsimp only
   obtain ⟨wy,hwy⟩:∃wy,wy=x1%5:=⟨_,rfl⟩
   have w5:0≤wy∧wy < 5:=by omega
   refine ⟨_,rfl,_,_,rfl,rfl,_,rfl,?_⟩
   refine P8 (fun hw=> ?_) (fun hw=> ?_)
   · have hw:x1%5 < 2:=of_decide_eq_true hw
     refine ⟨_,rfl,g,rfl,D1,fun x2 H2 x20 D2 kb2=> ?_⟩
     refine ⟨(by show 2≤sizeLine;decide),fun e he=> ?_⟩
     have nge:g≠e:=by obtain ⟨o,e'⟩:=D2.some;exact g6 e' he
     have kb12:=kb1.trans kb2
     have key:∃av,atI [V.int 12,V.int 60] (x1%5)=some (.int av)∧1≤av∧av≤60:=by
       have:x1%5=0∨x1%5=1:=by omega
       rcases this with e|e
       · rw[e];exact ⟨12,B6 (j:=0) rfl,by decide,by decide⟩
       · rw[e];exact ⟨60,B6 (j:=1) rfl,by decide,by decide⟩
     obtain ⟨av,hat,av1,av2⟩:=key
     refine ⟨_,rfl,e,_,_,_,rfl,rfl,h8.of c8,hat,_,_,rfl,rfl,(by show (0:Int) < av;omega),_,_,rfl,rfl,?_⟩
     have b1:=dl3 x2 (show av≠0 by omega)
     have b2:=do2 x2 (show 0 < av by omega)
     have em:(1:Int)+x2%av=(((1+x2%av).toNat:Nat):Int):=by omega
     dsimp only
     rw[em]
     exact q _ _ (by omega) (by omega) (D2.upd nge) (kb12.upd_r (kb12.free he nge.symm))
   · refine ⟨_,rfl,rfl,_,rfl,?_⟩
     refine P8 (fun hw4=> ?_) (fun hw4=> ?_)
     · refine ⟨6,rfl,by decide,by decide,G6 (lo:=0) (n:=6) (fun i σ H2=>∃(rest:Int) (v3 v4 v5:Option V),σ=[some (.ref g),some (.int (x1%5)),some (.int rest),v3,v4,v5]∧0≤rest∧y7 H2 g∧j5 g H H2)
         ⟨0,none,none,none,rfl,by decide,D1,kb1⟩ ?_ ?_⟩
       · rintro i σ H2 hi ⟨rest,v3,v4,v5,rfl,r0,D2,kb2⟩
         refine ⟨_,rfl,_,_,rfl,rfl,.inr ⟨by decide,by decide⟩,_,rfl,g,rfl,D2,fun x2 H3 x20 D3 kb3=>⟨_,_,rfl,rfl,?_⟩⟩
         exact ⟨rest*720720+x2,_,_,_,rfl,by omega,D3,kb2.trans kb3⟩
       · rintro σ H2 ⟨rest,v3,v4,v5,rfl,r0,D2,kb2⟩
         refine ⟨_,rfl,_,_,rfl,rfl,⟨by decide,by decide,by decide⟩,_,_,rfl,rfl,_,_,rfl,rfl,(by show (0:Int) < 10^(30:Int).toNat - 1;decide),_,_,rfl,rfl,?_⟩
         have e30:(10:Int)^(30:Int).toNat=1000000000000000000000000000000:=by decide
         dsimp only
         rw[e30]
         have b1:=dl3 rest (show (1000000000000000000000000000000 - 1:Int)≠0 by decide)
         have b2:=do2 rest (show (0:Int) < 1000000000000000000000000000000 - 1 by decide)
         generalize rest%(1000000000000000000000000000000 - 1)=z at b1 b2 ⊢
         have em:(1:Int)+z=(((1+z).toNat:Nat):Int):=by omega
         rw[em]
         exact q _ _ (by omega) (by omega) D2 kb2
     · refine ⟨(by show 7≤sizeLine;decide),fun tu htu=> ?_⟩
       have ngt:g≠tu:=by obtain ⟨o,e'⟩:=D1.some;exact g6 e' htu
       have htu0:H tu=none:=kb1.free htu ngt.symm
       have h2t:(e7 H1 tu (.tup (([2,2,2,3,3,5,7]:List Int).map V.int))) tu=some (.tup (([2,2,2,3,3,5,7]:List Int).map V.int)):=c8
       have D2:y7 (e7 H1 tu (.tup (([2,2,2,3,3,5,7]:List Int).map V.int))) g:=D1.upd ngt
       have kb2:j5 g H (e7 H1 tu (.tup (([2,2,2,3,3,5,7]:List Int).map V.int))):=kb1.upd_r htu0
       generalize (e7 H1 tu (.tup (([2,2,2,3,3,5,7]:List Int).map V.int)))=H2 at h2t D2 kb2 ⊢
       refine ⟨tu,rfl,⟨_,E6.of h2t⟩,ci1 (K:=K) (a:=tu) (xs:=([2,2,2,3,3,5,7]:List Int).map V.int) (fun i σ H3=>∃(fn:Nat) (v2 v3 v5:Option V),σ=[some (.ref g),some (.int (x1%5)),v2,v3,some (.int (fn:Int)),v5]∧1≤fn∧fn≤7^i∧y7 H3 g∧j5 g H H3∧H3 tu=some (.tup (([2,2,2,3,3,5,7]:List Int).map V.int)))
         ⟨1,none,none,none,rfl,by decide,by decide,D2,kb2,h2t⟩ (fun i σ H3 _ ⟨_,_,_,_,_,_,_,_,_,e⟩=>E6.of e) ?_ ?_⟩
       · rintro i y σ H3 hi ⟨fn,v2,v3,v5,rfl,f1,f7,D3,kb3,h3t⟩
         obtain ⟨pz,hpz,rfl⟩:=G7 hi
         have pz7:1≤pz∧pz≤7:=by
           have:∀z∈([2,2,2,3,3,5,7]:List Int),1≤z∧z≤7:=by decide
           exact this pz (dg1 hpz)
         refine ⟨_,rfl,_,rfl,(by show 2≤sizeLine;decide),fun e he=> ?_⟩
         have nge:g≠e:=by obtain ⟨o,e'⟩:=D3.some;exact g6 e' he
         have nte:tu≠e:=g6 h3t he
         refine ⟨_,rfl,g,rfl,D3.upd nge,fun x2 H4 x20 D4 kb4=>⟨_,_,rfl,rfl,(by show (0:Int) < 2;decide),?_⟩⟩
         have h4e:=kb4 e _ c8 nge.symm
         have key:∃av:Nat,atI [V.int 1,V.int pz] (x2%2)=some (.int (av:Int))∧1≤av∧av≤7:=by
           have:x2%2=0∨x2%2=1:=by omega
           rcases this with e|e
           · rw[e];exact ⟨1,B6 (j:=0) rfl,by decide,by decide⟩
           · rw[e]
             refine ⟨pz.toNat,?_,by omega,by omega⟩
             have:((pz.toNat:Nat):Int)=pz:=by omega
             rw[this]
             exact B6 (j:=1) rfl
         obtain ⟨av,hat,av1,av7⟩:=key
         refine ⟨e,_,_,_,rfl,rfl,h8.of h4e,hat,_,_,rfl,rfl,.inr ⟨by omega,by omega⟩,?_⟩
         refine ⟨fn*av,v2,v3,some (.int pz),?_,dn5 f1 av1,?_,D4,fun b o hb hn=>kb4 b o ((kb3.upd_r (kb3.free he nge.symm)) b o hb hn) hn,kb4 tu _ (by rw[g8 nte];exact h3t) ngt.symm⟩
         · rw[dm2];rfl
         · rw[dw0];exact dp7 f7 av7
       · rintro σ H3 ⟨fn,v2,v3,v5,rfl,f1,f7,D3,kb3,h3t⟩
         have f7:fn≤823543:=f7
         refine ⟨_,rfl,rfl,_,rfl,?_⟩
         refine P8 (fun _=> ?_) (fun _=>⟨_,rfl,q fn H3 f1 (by omega) D3 kb3⟩)
         refine ⟨4,rfl,by decide,by decide,G6 (lo:=0) (n:=4) (fun i σ H4=>∃(fm:Nat) (v3:Option V),σ=[some (.ref g),some (.int (x1%5)),v2,v3,some (.int (fm:Int)),v5]∧1≤fm∧fm≤823543*720720^i∧y7 H4 g∧j5 g H H4)
           ⟨fn,v3,rfl,f1,by rw[Nat.pow_zero,dt4];exact f7,D3,kb3⟩ ?_ ?_⟩
         · rintro i σ H4 hi ⟨fm,v3,rfl,m1,mb,D4,kb4⟩
           refine ⟨_,rfl,_,rfl,g,rfl,D4,fun x2 H5 x20 D5 kb5=>⟨_,_,rfl,rfl,(by show (0:Int) < 720720;decide),_,_,rfl,rfl,_,_,rfl,rfl,.inr ⟨by omega,by omega⟩,?_⟩⟩
           refine ⟨fm*(1+x2%720720).toNat,some (.int ((0:Int)+(i:Int))),?_,dn5 m1 (by omega),?_,D5,kb4.trans kb5⟩
           · have e1:(((1+x2%720720).toNat:Nat):Int)=1+x2%720720:=by omega
             rw[dm2,e1];rfl
           · rw[dw0,←dm5]
             exact dp7 mb (by omega)
         · rintro σ H4 ⟨fm,v3,rfl,m1,mb,D4,kb4⟩
           have e4:823543*720720^4≤1000000000000000000000000000000:=by decide
           exact ⟨_,rfl,q fm H4 m1 (dg5 mb e4) D4 kb4⟩
end
end My
namespace My
open PySem L2 Mth
section
variable {P:Program} {w:World} {K:PySem.W.Frag} {mg:Str→Option Value} {base:Heap}
theorem E8.keep {H H':Hp}{a:Addr}{p:List Int}(h:E8 H a p)(s:e8 H H'):E8 H' a p:=⟨s _ _ h.1,h.2⟩
noncomputable def bk2 (p:List Int)(l:Nat):Nat:=o5 (j7 p p.length) l
def cu9 (H:Hp)(t:Addr)(p:List Int)(m:Nat):Prop:=
 (∃(o:Addr) (r:List Int),H t=some (.tup [.str "root",.ref o])∧H o=some (.lst (r.map V.int))∧l9 r∧r.length=p.length∧y6 r (m:Int) p∧ac6 p m r)∨
 (∃l d:Nat,H t=some (.tup [.str "bars",.int (l:Int),.int ((bk2 p l:Nat):Int),.int (d:Int)])∧bh3 (bk2 p) m l d)
theorem bq9 {r p:List Int}{m l d:Nat}(tr:l9 r)(h:y6 r (m:Int) p)(b:bh3 (bk2 p) m l d):False:=b.bad (bu6 tr h b.right)
def br0:Sp:=fun vs H Q _=>∃(a:Addr) (p:List Int) (m:Nat),vs=[.ref a,.int (m:Int)]∧E8 H a p∧1≤m∧m≤1000000000000000000000000000000∧∀(t:Addr) (H':Hp),e8 H H'→cu9 H' t p m→(∀x o,H' t=some (.tup [x,.ref o])→H o=none)→Q (.ref t) H'
theorem ci2 {k:Nat}(c:j9 P w K mg base "root_told" k ["p","m"] bj7):j9 P w K mg base "root_told" k ["p","m"] br0:=by
 refine c.imp (fun vs H Q E h=> ?_) (fun vs H Q E h=> ?_)
 · obtain ⟨a,p,m,rfl,ta,m1,m2,q⟩:=h
   refine ⟨a,p,m,rfl,ta,m1,m2,fun t o r H' s ht ho0 ho tr lr pw ro=>q t H' s (.inl ⟨o,r,ht,ho,tr,lr,pw,ro⟩) (fun x o' h'=> ?_),fun t l c d H' s ht hc c1 lr nd less=>q t H' s (.inr ⟨l,d,by rw[ht,hc];rfl,⟨by rw[hc] at c1;exact c1,lr,by rw[hc] at nd;exact nd,fun k k1 kl e he=> ?_⟩⟩) (fun x o' h'=> ?_)⟩
   · rw[ht] at h'
     injection h' with h'
     injection h' with h'
     injection h' with _ h'
     injection h' with h' _
     injection h' with h'
     rw[←h'];exact ho0
   · obtain ⟨r0,hr0,e0⟩:=aw7 (rs:=j7 p p.length) (l:=k) (by unfold bk2 at k1;omega)
     have:=less r0 hr0 (by omega) e (by rw[e0];exact he)
     rw[e0] at this
     exact this
   · rw[ht] at h'
     injection h' with h'
     injection h' with h'
     have:=congrArg du4 h'
     simp at this
 · obtain ⟨a,p,m,rfl,_⟩:=h
   rfl
end
end My
namespace My
open PySem L2 Mth
section
variable {P:Program} {w:World} {K:PySem.W.Frag} {mg:Str→Option Value} {base:Heap}
def cv0 (H:Hp)(v:V)(p:List Int)(m:Nat):Prop:=
 (v= .non∧∃l d:Nat,bh3 (bk2 p) m l d)∨
 (∃(t o:Addr) (h:Nat) (r:List Int),v= .ref t∧H t=some (.tup [.int (h:Int),.ref o])∧H o=some (.lst (r.map V.int))∧l9 r∧r.length=p.length∧y6 r (m:Int) p∧ac6 p m r∧U0 r h)
theorem cc9 (p:List Int):(al4 p).map ds2=(j7 p p.length).map du4:=by
 unfold al4
 rw[dj4]
 refine dk6 fun r _=> ?_
 show (r.length:Int).toNat=r.length
 omega
def ay3:Sp:=fun vs H Q _=>∃(a:Addr) (p:List Int),vs=[.ref a]∧E8 H a p∧∀(h:Nat) (H':Hp),e8 H H'→U0 p h→Q (.int (h:Int)) H'
theorem bb8 {k:Nat}(c:j9 P w K mg base "home_of" k ["p"] bi7):j9 P w K mg base "home_of" k ["p"] ay3:=by
 refine c.imp (fun vs H Q E h=> ?_) (fun vs H Q E h=> ?_)
 · obtain ⟨a,p,rfl,ta,q⟩:=h
   exact ⟨a,p,rfl,ta,fun h H' s lc=>q h H' s (cb6 ta.2.1 (cc9 p) lc)⟩
 · obtain ⟨a,p,rfl,_⟩:=h
   rfl
def bk3:Sp:=fun vs H Q _=>∃(a:Addr) (p:List Int) (m:Nat),vs=[.ref a,.int (m:Int)]∧E8 H a p∧p.length≤16∧1≤m∧m≤1000000000000000000000000000000∧∀(v:V) (H':Hp),e8 H H'→cv0 H' v p m→(∀t x o,v= .ref t→H' t=some (.tup [x,.ref o])→H o=none)→Q v H'
theorem aa1:l5 ["p","m","told"] ["p","m"] (i7 T5):=⟨rfl,rfl,rfl,by decide+kernel,rfl,by decide+kernel,by decide+kernel⟩
theorem au5 {f:Addr}{fd:FuncData}(F:A4 K "soonest_root" "soonest_root" T5 f fd)(B:Bl mg)(g_MOST_THINGS_soonest:∃t,mg "MOST_THINGS_soonest"=some (.int 16 t))(c_root_told:j9 P w K mg base "root_told" 5 ["p","m"] br0)(c_home_of:j9 P w K mg base "home_of" 6 ["p"] ay3):o4 P w K mg base A2 7 f fd ["p","m"] bk3:=by
 refine F.ok aa1 (fun vs H Q E h=> ?_) (fun cdv A outer s H vs Q E hr h=> ?_)
 · obtain ⟨a,p,m,rfl,ta,l16,m1,m2,q⟩:=h
   rfl
 · obtain ⟨a,p,m,rfl,ta,l16,m1,m2,q⟩:=h
   obtain ⟨_,m_MOST_THINGS_soonest⟩:=g_MOST_THINGS_soonest
   have hr_root_told:m9 5 _:=hr.mono (by decide)
   have hr_home_of:m9 6 _:=hr.mono (by decide)
   refine ⟨_,@c7 _ _ _ _ _ (@i4 _ _ (2) _ _ _ _ aa1.nd rfl (Or.inl rfl) (@i6 _ _ _ _ _ _ _ _ _ _ c_root_told hr_root_told (@c5 _ _ _ _ _ (pv 0) (@c5 _ _ _ _ _ (pv 1) (@c6 _) (by rfl)) (by rfl)) (by rfl) (by decide) (by rfl) (by rfl)) (by rfl) (by first|exact .inl rfl|exact .inr rfl|assumption)) (@c7 _ _ _ _ _ (@v9 _ _ _ _ _ _ _ _ (@n5 _ _ _ _ _ _ _ _ aq7 (@w4 _ _ _ _ _ B.len (@c5 _ _ _ _ _ (pv 0) (@c6 _) (by rfl)) (by rfl) (by rfl)) (@av9 _ _ (.int 16) _ _ (by rfl) m_MOST_THINGS_soonest ⟨_,rfl⟩ (by decide)) (o3 _)) (@c9 _ _ _ (@S2 _ _)) (@o7 _)) (@c7 _ _ _ _ _ (@v9 _ _ _ _ _ _ _ _ (@n5 _ _ _ _ _ _ _ _ T7 (@E3 _ _ _ _ _ _ _ X2 (pv 2) (@h7 _ _ _ _) (fun _ _=>rfl)) (@be3 _ _ _ _) (o3 _)) (@c9 _ _ _ (@k7 _ _ _ _ (@aq0 _ _ _))) (@o7 _)) (@c9 _ _ _ (@k7 _ _ _ _ (@X1 _ _ _ _ _ (@c5 _ _ _ _ _ (@i6 _ _ _ _ _ _ _ _ _ _ c_home_of hr_home_of (@c5 _ _ _ _ _ (@E3 _ _ _ _ _ _ _ X2 (pv 2) (@h7 _ _ _ _) (fun _ _=>rfl)) (@c6 _) (by rfl)) (by rfl) (by decide) (by rfl) (by rfl)) (@c5 _ _ _ _ _ (@E3 _ _ _ _ _ _ _ X2 (pv 2) (@h7 _ _ _ _) (fun _ _=>rfl)) (@c6 _) (by rfl)) (by rfl))))))),?_⟩
   refine ⟨_,rfl,_,rfl,a,p,m,rfl,ta,m1,m2,fun t H1 s1 T1 fo=> ?_⟩
   refine ⟨_,rfl,a,_,rfl,.inl (h8.of (s1 _ _ ta.1)),_,_,rfl,rfl,_,rfl,?_⟩
   rw[de9,decide_eq_false (show ¬(16:Int) < (p.length:Int) by omega)]
   refine E7 ?_
   rcases T1 with ⟨o,r,h1,h2,tr,lr,pw,ro⟩|⟨l,d,h1,b⟩
   · refine ⟨_,rfl,t,_,_,_,rfl,rfl,E6.of h1,B6 (j:=0) rfl,rfl,_,rfl,?_⟩
     rw[decide_eq_false (fun h=>absurd (V.str.inj h) (by decide+kernel))]
     refine E7 ⟨_,rfl,t,_,_,_,rfl,rfl,E6.of h1,B6 (j:=1) rfl,o,r,rfl,⟨h2,tr,by rw[lr];exact ta.2.2⟩,fun h H2 s12 hh=> ?_⟩
     refine ⟨_,rfl,t,_,_,_,rfl,rfl,E6.of (s12 _ _ h1),B6 (j:=1) rfl,(by show 2≤sizeLine;decide),fun u hu'=> ?_⟩
     have s23:e8 H2 (e7 H2 u (.tup [.int (h:Int),.ref o])):=e8.upd_new hu'
     refine q _ _ ((s1.trans s12).trans s23) (.inr ⟨u,o,h,r,rfl,c8,s23 _ _ (s12 _ _ h2),tr,lr,pw,ro,hh⟩) (fun t' x o' e1 e2=> ?_)
     injection e1 with e1
     subst e1
     rw[c8] at e2
     injection e2 with e2
     injection e2 with e2
     injection e2 with _ e2
     injection e2 with e2 _
     injection e2 with e2
     rw[←e2]
     exact fo _ _ h1
   · refine ⟨_,rfl,t,_,_,_,rfl,rfl,E6.of h1,B6 (j:=0) rfl,rfl,_,rfl,?_⟩
     rw[decide_eq_true rfl]
     exact O8 (q _ H1 s1 (.inl ⟨rfl,l,d,b⟩) (fun t' x o' e1 _=>V.noConfusion e1))
end
end My
namespace My
open PySem L2 Mth
section
variable {P:Program} {w:World} {K:PySem.W.Frag} {mg:Str→Option Value} {base:Heap}
def G2 (xs:List Nat):List Int:=xs.map fun (d:Nat)=>(d:Int)
def o9 (l m j:Nat):List Nat:=((dj6 j).map (· +1)).filter fun d=>decide (dg6 (d*l) m=d)
theorem bk4 (l m j:Nat):o9 l m (j+1)=if dg6 ((j+1)*l) m=j+1 then o9 l m j++[j+1] else o9 l m j:=by
 unfold o9
 rw[dr8,df8,dr5]
 show _++List.filter _ [j+1]=_
 split
 · rename_i h
   rw[do8 (p:=fun d=>decide (dg6 (d*l) m=d)) (decide_eq_true h)];rfl
 · rename_i h
   rw[do9 (p:=fun d=>decide (dg6 (d*l) m=d)) (by simpa using h),dt5,dh7]
theorem ab4 (l m j:Nat):(o9 l m j).length≤j:=by
 unfold o9
 refine dg5 (ds4 _ _) ?_
 rw[de9,di2];exact df2 _
theorem E4 {l m j d:Nat}(h:d∈o9 l m j):1≤d∧d≤j:=by
 unfold o9 at h
 obtain ⟨i,hi,e⟩:=df9.mp (dk7.mp h).1
 have:=di9.mp hi
 omega
def af6:Sp:=fun vs H Q _=>∃(l m j:Nat),vs=[.int (l:Int),.int (m:Int),.int (j:Int)]∧l≤1000∧j≤1000∧∀(a:Addr) (H':Hp),H a=none→e8 H H'→H' a=some (.lst ((G2 (o9 l m j)).map V.int))→Q (.ref a) H'
theorem ao7:l5 ["length","m","most"] ["length","m","most"] (i7 R8):=⟨rfl,rfl,rfl,by decide+kernel,rfl,by decide+kernel,by decide+kernel⟩
theorem U3:(["d","m","length"]:List Str).Nodup:=by decide+kernel
theorem ao8 {f:Addr}{fd:FuncData}(F:A4 K "right_numbers" "right_numbers" R8 f fd)(B:Bl mg)(c_greatest_part:j9 P w K mg base "greatest_part" 1 ["a","b"] au2):o4 P w K mg base A2 2 f fd ["length","m","most"] af6:=by
 refine F.ok ao7 (fun vs H Q E h=> ?_) (fun cdv A outer s H vs Q E hr h=> ?_)
 · obtain ⟨l,m,j,rfl,hl,hj,q⟩:=h
   rfl
 · obtain ⟨l,m,j,rfl,hl,hj,q⟩:=h
   have hr_greatest_part:m9 1 _:=hr.mono (by decide)
   refine ⟨_,@c9 _ _ _ (@k7 _ _ _ _ (@aw6 _ _ _ _ _ _ _ _ _ _ _ (["d","m","length"]) (1) ([1,0]) rfl .of (@Z5 _ _ _ _ _ _ _ (by rfl) B.range (@c5 _ _ _ _ _ (@h7 _ _ _ _) (@c5 _ _ _ _ _ (@i9 _ _ _ _ _ _ _ _ B5 (pv 2) (@h7 _ _ _ _)) (@c6 _) (by rfl)) (by rfl)) (by rfl) (by rfl)) (fun _ _ _ _ _=>@i8 _ _ (0) _ U3 rfl (Or.inl rfl) (by first|exact .inl rfl|exact .inr rfl|assumption)) (fun _ _ _ _ _=>@an5 _ _ _ (@n5 _ _ _ _ _ _ _ _ T7 (@i6 _ _ _ _ _ _ _ _ _ _ c_greatest_part hr_greatest_part (@c5 _ _ _ _ _ (@i9 _ _ _ _ _ _ _ _ G9 (pv 0) (pv 2)) (@c5 _ _ _ _ _ (pv 1) (@c6 _) (by rfl)) (by rfl)) (by rfl) (by decide) (by rfl) (by rfl)) (pv 0) (o3 _))) (fun _ _ _ _ _=>(pv 0)) (by intro _;rfl))),?_⟩
   refine ⟨_,rfl,_,_,rfl,rfl,1,(j:Int)+1,rfl,⟨by decide,by decide,by omega,by omega⟩,?_⟩
   have en:((j:Int)+1 - 1).toNat=j:=by omega
   rw[en]
   refine ar5 (lo:=1) (n:=j) (fun i ys σ H2=>∃v:Option V,σ=[v,some (.int (m:Int)),some (.int (l:Int))]∧H2=H∧ys=(G2 (o9 l m i)).map V.int) ⟨none,rfl,rfl,by simp [o9,G2]⟩ ?_ ?_
   · rintro i ys σ H2 hi ⟨v,rfl,rfl,rfl⟩
     have li:=ab4 l m i
     have es:=bk4 l m i
     have e1:(1:Int)+(i:Int)=((i+1:Nat):Int):=by omega
     refine ⟨_,rfl,_,rfl,_,_,rfl,rfl,.inr ⟨by omega,by omega⟩,_,rfl,(i+1)*l,m,?_,?_⟩
     · show [V.int ((1+(i:Int))*(l:Int)),V.int (m:Int)]++[]=_
       rw[e1,←dm2]
       rfl
     refine ⟨_,rfl,rfl,_,rfl,P8 (fun h1=> ?_) (fun h1=> ?_)⟩
     · have d1:dg6 ((i+1)*l) m=i+1:=by
         have:=V.int.inj (of_decide_eq_true h1)
         omega
       refine ⟨_,rfl,p8 (by unfold G2;rw[de9,de9];omega),_,rfl,rfl,?_⟩
       rw[es,if_pos d1]
       unfold G2
       rw[df8,df8,e1]
       rfl
     · have d1:¬dg6 ((i+1)*l) m=i+1:=fun e=>h1 (decide_eq_true (congrArg V.int (by rw[e];omega)))
       refine ⟨_,rfl,rfl,?_⟩
       rw[es,if_neg d1]
   · rintro ys σ H2 ⟨v,rfl,rfl,rfl⟩ D hD
     exact q D _ hD (e8.upd_new hD) c8
def q9 (n l:Nat):Nat→Nat
 |0=>1
 |k+1=>q9 n l k*(n - (k+1))*l
def ao9:Sp:=fun vs H Q _=>∃(n d l:Nat),vs=[.int (n:Int),.int (d:Int),.int (l:Int)]∧1≤d∧d≤n∧n≤1000∧l≤1000∧Q (.int ((q9 n l (d - 1):Nat):Int)) H
theorem J8:l5 ["left","part","length","ways","taken"] ["left","part","length"] (i7 Q1):=⟨rfl,rfl,rfl,by decide+kernel,rfl,by decide+kernel,by decide+kernel⟩
theorem al9 {f:Addr}{fd:FuncData}(F:A4 K "ways_to_follow" "ways_to_follow" Q1 f fd)(B:Bl mg):o4 P w K mg base A2 1 f fd ["left","part","length"] ao9:=by
 refine F.ok J8 (fun vs H Q E h=> ?_) (fun cdv A outer s H vs Q E hr h=> ?_)
 · obtain ⟨n,d,l,rfl,d1,dn,hn,hl,q⟩:=h
   rfl
 · obtain ⟨n,d,l,rfl,d1,dn,hn,hl,q⟩:=h
   refine ⟨_,@c7 _ _ _ _ _ (@i4 _ _ (3) _ _ _ _ J8.nd rfl (Or.inl rfl) (@h7 _ _ _ _) (by rfl) (by first|exact .inl rfl|exact .inr rfl|assumption)) (@c7 _ _ _ _ _ (@n0 _ _ _ _ _ _ _ _ PassesOwn.never rfl (@Z5 _ _ _ _ _ _ _ (by rfl) B.range (@c5 _ _ _ _ _ (@h7 _ _ _ _) (@c5 _ _ _ _ _ (pv 1) (@c6 _) (by rfl)) (by rfl)) (by rfl) (by rfl)) (@i8 _ _ (4) _ J8.nd rfl (Or.inl rfl) (by first|exact .inl rfl|exact .inr rfl|assumption)) (@c9 _ _ _ (@i4 _ _ (3) _ _ _ _ J8.nd rfl (Or.inl rfl) (@i9 _ _ _ _ _ _ _ _ G9 (@i9 _ _ _ _ _ _ _ _ G9 (pv 3) (@i9 _ _ _ _ _ _ _ _ aq4 (pv 0) (pv 4))) (pv 2)) (by rfl) (by first|exact .inl rfl|exact .inr rfl|assumption))) (by intro _;rfl)) (@c9 _ _ _ (@k7 _ _ _ _ (pv 3)))),?_⟩
   refine ⟨_,rfl,1,(d:Int),rfl,⟨by decide,by decide,by omega,by omega⟩,?_⟩
   have en:((d:Int) - 1).toNat=d - 1:=by omega
   rw[en]
   refine G6 (lo:=1) (n:=d - 1) (fun i σ H2=>∃v:Option V,σ=[some (.int (n:Int)),some (.int (d:Int)),some (.int (l:Int)),some (.int ((q9 n l i:Nat):Int)),v]∧H2=H) ⟨none,rfl,rfl⟩ ?_ ?_
   · rintro i σ H2 hi ⟨v,rfl,rfl⟩
     have e64:(2:Int)^64=18446744073709551616:=by decide
     refine ⟨_,rfl,_,rfl,_,rfl,_,_,rfl,rfl,_,_,rfl,rfl,.inr ⟨by rw[e64];omega,by rw[e64];omega⟩,_,rfl,_,_,rfl,rfl,.inr ⟨by rw[e64];omega,by rw[e64];omega⟩,some (.int (1+(i:Int))),?_,rfl⟩
     have e:((q9 n l i:Nat):Int)*((n:Int) - (1+(i:Int)))*(l:Int)=((q9 n l (i+1):Nat):Int):=by
       show _=((q9 n l i*(n - (i+1))*l:Nat):Int)
       rw[dm2,dm2]
       congr 2
       omega
     rw[←e];rfl
   · rintro σ H2 ⟨v,rfl,rfl⟩
     exact ⟨_,rfl,q⟩
def af7 (l:Nat)(rs cs:List Nat)(n:Nat):Nat:=((rs.filter fun d=>decide (d≤n)).map fun d=>q9 n l (d - 1)*cs.getD (n - d) 0).sum
def y8 (l:Nat)(rs:List Nat):Nat→List Nat
 |0=>[1]
 |k+1=>y8 l rs k++[af7 l rs (y8 l rs k) (k+1)]
def A7 (l m n:Nat):Nat:=(y8 l (o9 l m n) n).getD n 0
theorem J7 (l:Nat)(rs:List Nat):∀k,(y8 l rs k).length=k+1
 |0=>rfl
 |k+1=>by
  show (y8 l rs k++[_]).length=_
  rw[df7,J7 l rs k];rfl
theorem aj2 {n l:Nat}(h:n*l≤1600):∀k,q9 n l k≤1600^k
 |0=>df2 _
 |k+1=>by
  show q9 n l k*(n - (k+1))*l≤_
  rw[dm5,dw0]
  refine dp7 (aj2 h k) (dg5 (dm1 _ (Nat.sub_le _ _)) h)
theorem au6 {c:Nat}:∀{xs:List Nat},(∀x∈xs,x≤c)→xs.sum≤xs.length*c
 |[],_=>dh2 _
 |x::xs,h=>by
  have:=au6 fun y hy=>h y (df6 _ hy)
  have:=h x df4
  rw[dx3,dk0,Nat.add_mul,dz0]
  omega
theorem ap0 {l:Nat}{rs:List Nat}(hl:l≤40)(hr:rs.length≤40)(h1:∀d∈rs,1≤d):∀k,k≤40→∀i,(y8 l rs k).getD i 0≤1600^i
 |0,_,0=>df2 _
 |0,_,i+1=>dh2 _
 |k+1,hk,i=>by
  have ih:=ap0 hl hr h1 k (by omega)
  show (y8 l rs k++[_]).getD i 0≤_
  have ln:=J7 l rs k
  rw[df5]
  by_cases z:i < k+1
  · rw[di1 (by omega),←df5]
    exact ih i
  · rw[di8 (by omega),ln]
    by_cases y:i=k+1
    · subst y
      rw[dv9]
      show af7 l rs (y8 l rs k) (k+1)≤_
      unfold af7
      refine dg5 (au6 (c:=1600^k) fun x hx=> ?_) ?_
      · obtain ⟨d,hd,rfl⟩:=df9.mp hx
        obtain ⟨hd1,hd2⟩:=dk7.mp hd
        have d1:=h1 d hd1
        have d2:d≤k+1:=of_decide_eq_true hd2
        have a:=aj2 (n:=k+1) (l:=l) (dg5 (dp7 hk hl) (by decide)) (d - 1)
        have b:=ih (k+1 - d)
        refine dg5 (dp7 a b) ?_
        rw[←Nat.pow_add,show d - 1+(k+1 - d)=k by omega]
        exact df2 _
      · rw[de9,dw0,dl2 (1600^k)]
        refine dm1 _ ?_
        have:=ds4 (fun d=>decide (d≤k+1)) rs
        omega
    · rw[dg0 (by show 1≤i - (k+1);omega)]
      exact dh2 _
theorem br1 {xs:List Nat}{i:Int}(h0:0≤i)(h1:i < xs.length):atI ((G2 xs).map V.int) i=some (.int ((xs.getD i.toNat 0:Nat):Int)):=by
 have l:(G2 xs).length=xs.length:=de9 ..
 rw[Mth.W6 h0 (by rw[l];exact h1)]
 congr 2
 unfold G2
 rw[df5,df5,df3]
 cases xs[i.toNat]? <;>rfl
theorem cv5 {xs:List Nat}{j:Nat}{x:V}(h:((G2 xs).map V.int)[j]? =some x):∃d:Nat,xs[j]? =some d∧x= .int (d:Int):=by
 unfold G2 at h
 rw[df3,df3] at h
 cases e:xs[j]? with
 |none=>rw[e] at h;cases h
 |some d=>rw[e] at h;exact ⟨d,rfl,(Option.some.inj h).symm⟩
theorem br2:∀xs:List Nat,(G2 xs).sum=((xs.sum:Nat):Int)
 |[]=>rfl
 |x::xs=>by
  show (x:Int)+(G2 xs).sum=_
  rw[br2 xs,dx3,dy7]
theorem bk5 (i:Nat)(h:i≤40){n:Nat}(hn:440 < n):1600^i < 2^n:=by
 have a:1600^i≤(2^11)^i:=Nat.pow_le_pow_left (by decide) i
 rw[←Nat.pow_mul] at a
 exact dj5 a (Nat.pow_lt_pow_right (by decide) (by omega))
def ay4:Sp:=fun vs H Q _=>∃(l n m:Nat),vs=[.int (l:Int),.int (n:Int),.int (m:Int)]∧l≤40∧n≤40∧∀H':Hp,e8 H H'→Q (.int ((A7 l m n:Nat):Int)) H'
theorem K0:l5 ["length","many","m","right","counts","left","ways"] ["length","many","m"] (i7 V5):=⟨rfl,rfl,rfl,by decide+kernel,rfl,by decide+kernel,by decide+kernel⟩
theorem M1:(["part","left","length","counts"]:List Str).Nodup:=by decide+kernel
theorem ay5 {f:Addr}{fd:FuncData}(F:A4 K "count_joins" "count_joins" V5 f fd)(B:Bl mg)(c_right_numbers:j9 P w K mg base "right_numbers" 2 ["length","m","most"] af6)(c_ways_to_follow:j9 P w K mg base "ways_to_follow" 1 ["left","part","length"] ao9):o4 P w K mg base A2 3 f fd ["length","many","m"] ay4:=by
 refine F.ok K0 (fun vs H Q E h=> ?_) (fun cdv A outer s H vs Q E hr h=> ?_)
 · obtain ⟨l,n,m,rfl,hl,hn,q⟩:=h
   rfl
 · obtain ⟨l,n,m,rfl,hl,hn,q⟩:=h
   have hr_right_numbers:m9 2 _:=hr.mono (by decide)
   have hr_ways_to_follow:m9 1 _:=hr.mono (by decide)
   refine ⟨_,@c7 _ _ _ _ _ (@i4 _ _ (3) _ _ _ _ K0.nd rfl (Or.inl rfl) (@i6 _ _ _ _ _ _ _ _ _ _ c_right_numbers hr_right_numbers (@c5 _ _ _ _ _ (pv 0) (@c5 _ _ _ _ _ (pv 2) (@c5 _ _ _ _ _ (pv 1) (@c6 _) (by rfl)) (by rfl)) (by rfl)) (by rfl) (by decide) (by rfl) (by rfl)) (by rfl) (by first|exact .inl rfl|exact .inr rfl|assumption)) (@c7 _ _ _ _ _ (@i4 _ _ (4) _ _ _ _ K0.nd rfl (Or.inr rfl) (@r6 _ _ _ _ (@c5 _ _ _ _ _ (@h7 _ _ _ _) (@c6 _) (by rfl))) (by rfl) (by first|exact .inl rfl|exact .inr rfl|assumption)) (@c7 _ _ _ _ _ (@n0 _ _ _ _ _ _ _ _ PassesOwn.never rfl (@Z5 _ _ _ _ _ _ _ (by rfl) B.range (@c5 _ _ _ _ _ (@h7 _ _ _ _) (@c5 _ _ _ _ _ (@i9 _ _ _ _ _ _ _ _ B5 (pv 1) (@h7 _ _ _ _)) (@c6 _) (by rfl)) (by rfl)) (by rfl) (by rfl)) (@i8 _ _ (5) _ K0.nd rfl (Or.inr rfl) (by first|exact .inl rfl|exact .inr rfl|assumption)) (@c7 _ _ _ _ _ (@bo6 _ (6) _ _ _ _ _ _ _ _ _ _ _ _ _ (["part","left","length","counts"]) (1) ([5,0,4]) K0.nd rfl (Or.inl rfl) rfl .of (@t7 _ _ _ _ (pv 3)) (fun _ _ _ _ _=>@i8 _ _ (0) _ M1 rfl (Or.inl rfl) (by first|exact .inl rfl|exact .inr rfl|assumption)) (fun _ _ _ _ _=>@an5 _ _ _ (@n5 _ _ _ _ _ _ _ _ bs7 (pv 0) (pv 1) (o3 _))) (fun _ _ _ _ _=>(@i9 _ _ _ _ _ _ _ _ bq3 (@i6 _ _ _ _ _ _ _ _ _ _ c_ways_to_follow hr_ways_to_follow (@c5 _ _ _ _ _ (pv 1) (@c5 _ _ _ _ _ (pv 0) (@c5 _ _ _ _ _ (pv 2) (@c6 _) (by rfl)) (by rfl)) (by rfl)) (by rfl) (by decide) (by rfl) (by rfl)) (@E3 _ _ _ _ _ _ (cr1 K) E9 (pv 3) (@i9 _ _ _ _ _ _ _ _ aq4 (pv 1) (pv 0)) (fun _ _=>rfl)))) (by rfl) (by intro _;rfl) (by first|exact .inl rfl|exact .inr rfl|assumption)) (@c9 _ _ _ (@q5 _ _ _ _ (@C6 _ _ _ _ _ _ _ (pv 4) (@c5 _ _ _ _ _ (@cs5 _ _ _ _ _ rfl B.sum (@c5 _ _ _ _ _ (pv 6) (@c6 _) (by rfl)) (by rfl) (by rfl)) (@c6 _) (by rfl)) (by rfl) (by rfl) (by rfl) (by rfl) (by rfl)) (by rfl)))) (by intro _;rfl)) (@c9 _ _ _ (@k7 _ _ _ _ (@E3 _ _ _ _ _ _ _ E9 (pv 4) (pv 1) (fun _ _=>rfl)))))),?_⟩
   refine ⟨_,rfl,_,rfl,_,rfl,l,m,n,rfl,by omega,by omega,fun ra H1 hra s1 h1=> ?_⟩
   obtain ⟨rs,ers⟩:∃rs,rs=o9 l m n:=⟨_,rfl⟩
   rw[←ers] at h1
   refine ⟨(show 1≤sizeLine by decide),fun cs hcs=> ?_⟩
   have s2:e8 H1 (e7 H1 cs (.lst [V.int 1])):=e8.upd_new hcs
   have h2:(e7 H1 cs (.lst [V.int 1])) cs=some (.lst ((G2 (y8 l rs 0)).map V.int)):=c8
   have h2r:=s2 _ _ h1
   have nrc:ra≠cs:=g6 h1 hcs
   generalize (e7 H1 cs (.lst [V.int 1]))=H2 at s2 h2 h2r ⊢
   refine ⟨_,rfl,_,_,rfl,rfl,1,(n:Int)+1,rfl,⟨by decide,by decide,by omega,by omega⟩,?_⟩
   have en:((n:Int)+1 - 1).toNat=n:=by omega
   rw[en]
   refine G6 (lo:=1) (n:=n) (fun i σ H3=>∃v w:Option V,σ=[some (.int (l:Int)),some (.int (n:Int)),some (.int (m:Int)),some (.ref ra),some (.ref cs),v,w]∧H3 cs=some (.lst ((G2 (y8 l rs i)).map V.int))∧j5 cs H2 H3) ⟨none,none,rfl,h2,j5.refl cs H2⟩ ?_ ?_
   · rintro i σ H3 hi ⟨v,w,rfl,h3,kb3⟩
     have h3r:=kb3 _ _ h2r nrc
     have lrs:rs.length≤40:=by rw[ers];exact dg5 (ab4 l m n) hn
     have prs:∀d∈rs,1≤d:=fun d hd=>by rw[ers] at hd;exact (E4 hd).1
     have e1:(1:Int)+(i:Int)=((i+1:Nat):Int):=by omega
     rw[e1]
     refine ⟨_,rfl,ra,rfl,⟨_,h8.of h3r⟩,ah4 (K:=K) (a:=ra) (xs:=(G2 rs).map V.int) (fun j ys σ H4=>∃u:Option V,σ=[u,some (.int ((i+1:Nat):Int)),some (.int (l:Int)),some (.ref cs)]∧H4=H3∧ys=(G2 (((rs.take j).filter fun d=>decide (d≤i+1)).map fun d=>q9 (i+1) l (d - 1)*(y8 l rs i).getD (i+1 - d) 0)).map V.int)
       ⟨none,rfl,rfl,by simp [G2]⟩ (fun j ys σ H4 _ ⟨_,_,e,_⟩=>by rw[e];exact h8.of h3r) ?_ ?_⟩
     · rintro j x ys σ H4 hj ⟨u,rfl,rfl,rfl⟩
       obtain ⟨d,hd,rfl⟩:=cv5 hj
       have d1:=prs d (dg1 hd)
       have jl:j < rs.length:=(df1.mp hd).1
       refine ⟨_,rfl,_,rfl,_,_,rfl,rfl,_,rfl,P8 (fun h1=> ?_) (fun h1=> ?_)⟩
       · have dn:d≤i+1:=by
           have:=of_decide_eq_true h1
           omega
         refine ⟨_,rfl,_,rfl,_,rfl,i+1,d,l,rfl,d1,dn,by omega,by omega,_,rfl,_,rfl,_,rfl,_,_,rfl,rfl,cs,_,_,_,rfl,rfl,h8.of h3,br1 (xs:=y8 l rs i) (by omega) (by rw[J7];omega),_,_,rfl,rfl,⟨?_,?_⟩,?_⟩
         · rw[dt7]
           exact dj5 (aj2 (dg5 (dp7 (show i+1≤40 by omega) hl) (by decide)) _) (bk5 (d - 1) (by omega) (by decide))
         · rw[dt7]
           exact dj5 (ap0 hl lrs prs i (by omega) _) (bk5 _ (by omega) (by decide))
         · have lj:((rs.take j).filter fun d=>decide (d≤i+1)).length≤40:=dg5 (ds4 _ _) (by rw[dg7];omega)
           refine ⟨p8 (by unfold G2;rw[de9,de9,de9];omega),_,rfl,rfl,?_⟩
           rw[j6 hd,dr5,do8 (p:=fun d=>decide (d≤i+1)) (decide_eq_true dn),dt5]
           unfold G2
           rw[df8,df8,df8]
           congr 1
           have ed:((((i+1:Nat):Int)) - (d:Int)).toNat=i+1 - d:=by omega
           show [V.int (((q9 (i+1) l (d - 1):Nat):Int)*(((y8 l rs i).getD ((((i+1:Nat):Int)) - (d:Int)).toNat 0:Nat):Int))]=[V.int ((q9 (i+1) l (d - 1)*(y8 l rs i).getD (i+1 - d) 0:Nat):Int)]
           rw[ed,dm2]
       · have dn:¬d≤i+1:=fun z=>h1 (decide_eq_true (by omega))
         refine ⟨_,rfl,rfl,?_⟩
         rw[j6 hd,dr5,do9 (p:=fun d=>decide (d≤i+1)) (by simpa using dn),dt5,dh7]
     · rintro ys σ H4 ⟨u,rfl,rfl,rfl⟩ D hD
       have ll:((G2 rs).map V.int).length=rs.length:=by unfold G2;rw[de9,de9]
       rw[ll,dh9]
       obtain ⟨ws,ews⟩:∃ws,ws=(rs.filter fun d=>decide (d≤i+1)).map fun d=>q9 (i+1) l (d - 1)*(y8 l rs i).getD (i+1 - d) 0:=⟨_,rfl⟩
       rw[←ews]
       have s5:e8 H4 (e7 H4 D (.lst ((G2 ws).map V.int))):=e8.upd_new hD
       have h5:(e7 H4 D (.lst ((G2 ws).map V.int))) D=some (.lst ((G2 ws).map V.int)):=c8
       generalize (e7 H4 D (.lst ((G2 ws).map V.int)))=H5 at s5 h5 ⊢
       have h5c:=s5 _ _ h3
       refine ⟨_,rfl,.inl ⟨rfl,_,h8.of h5c⟩,_,rfl,D,_,rfl,h8.of h5,cs,_,_,rfl,rfl,h5c,p8 (by unfold G2;rw[de9,de9,J7];omega),?_⟩
       refine ⟨_,_,rfl,?_,fun x o hx hn=>by rw[g8 hn];exact s5 x o (kb3 x o hx hn)⟩
       rw[c8,br2,ews]
       show some (HO.lst (_++[V.int ((af7 l rs (y8 l rs i) (i+1):Nat):Int)]))=some (HO.lst ((G2 (y8 l rs i++[af7 l rs (y8 l rs i) (i+1)])).map V.int))
       unfold G2
       rw[df8,df8]
       rfl
   · rintro σ H3 ⟨v,w,rfl,h3,kb3⟩
     have s3:e8 H H3:=(s1.trans s2).kb kb3 (s1.free hcs)
     refine ⟨_,rfl,_,rfl,cs,_,_,_,rfl,rfl,h8.of h3,br1 (xs:=y8 l rs n) (by omega) (by rw[J7];omega),?_⟩
     rw[di4,ers]
     exact q H3 s3
theorem bb9 {l m n:Nat}(hl:l≤40)(hn:n≤40):A7 l m n≤1600^40:=
 dg5 (ap0 hl (dg5 (ab4 l m n) hn) (fun _ hd=>(E4 hd).1) n hn n) (Nat.pow_le_pow_right (by decide) hn)
theorem bk6 {f:Nat→Nat}{c:Nat}:∀{ks:List Nat},(∀k∈ks,f k≤c)→o8 f ks≤c^ks.length
 |[],_=>df2 _
 |k::ks,h=>by
  show f k*o8 f ks≤c^(ks.length+1)
  rw[dw0,dl2]
  exact dp7 (bk6 fun x hx=>h x (df6 _ hx)) (h k df4)
theorem co6 (i:Nat)(h:i≤40){n:Nat}(hn:17600 < n):(1600^40)^i < 2^n:=by
 rw[←Nat.pow_mul]
 have a:1600^(40*i)≤(2^11)^(40*i):=Nat.pow_le_pow_left (by decide) _
 rw[←Nat.pow_mul] at a
 exact dj5 a (Nat.pow_lt_pow_right (by decide) (by omega))
theorem aj3 {p:List Int}(t:l9 p){rs:List (List Int)}(up:w6 p p.length rs){ks:List Nat}(nk:ks.Nodup)(h1:∀k∈ks,∃r∈rs,r.length=k)(h2:∀r∈rs,r.length∈ks){f:Nat→Nat}(hf:∀u,o5 rs u=0→f u=1):
   o8 f ks=o8 f ((dj6 p.length).map (· +1)):=by
 refine bb0 nk ?_ (fun k hk=> ?_) fun u hu hn=> ?_
 · exact List.Pairwise.map (fun x:Nat=>x+1) (fun a b h=>by omega) (du9 (n:=p.length))
 · obtain ⟨r,hr,rfl⟩:=h1 k hk
   obtain ⟨y,L,hy,pr,er,_⟩:=up.ring r hr
   have b:=J6 t hy (m:=L) fun i i0 i1=>pr.least i i0 i1
   have:=pr.pos
   rw[er,l7]
   exact df9.mpr ⟨L - 1,di9.mpr (by omega),by omega⟩
 · refine hf u ?_
   by_cases z:o5 rs u=0
   · exact z
   · obtain ⟨r,hr,rfl⟩:=aw7 z
     exact absurd (h2 r hr) hn
noncomputable def T6 (p:List Int)(m:Nat):Nat:=o8 (fun l=>A7 l m (o5 (j7 p p.length) l)) ((dj6 p.length).map (· +1))
def au7:Sp:=fun vs H Q _=>∃(a:Addr) (p:List Int) (m:Nat),vs=[.ref a,.int (m:Int)]∧E8 H a p∧1≤m∧∀H':Hp,e8 H H'→Q (.int ((T6 p m:Nat):Int)) H'
theorem G5:l5 ["p","m","by_length","many","length"] ["p","m"] (i7 Q2):=⟨rfl,rfl,rfl,by decide+kernel,rfl,by decide+kernel,by decide+kernel⟩
theorem am0 {f:Addr}{fd:FuncData}(F:A4 K "how_many_roots" "how_many_roots" Q2 f fd)(B:Bl mg)(c_must_be_turn:j9 P w K mg base "must_be_turn" 3 ["thing"] ai9)(c_must_be_from_one:j9 P w K mg base "must_be_from_one" 2 ["number"] au4)(c_sort_by_length:j9 P w K mg base "sort_by_length" 1 ["rings"] ad2)(c_walk_rings:j9 P w K mg base "walk_rings" 2 ["p"] L7)(c_count_joins:j9 P w K mg base "count_joins" 3 ["length","many","m"] ay4):o4 P w K mg base A2 4 f fd ["p","m"] au7:=by
 refine F.ok G5 (fun vs H Q E h=> ?_) (fun cdv A outer s H vs Q E hr h=> ?_)
 · obtain ⟨a,p,m,rfl,⟨ha,tp,lp⟩,m1,q⟩:=h
   rfl
 · obtain ⟨a,p,m,rfl,⟨ha,tp,lp⟩,m1,q⟩:=h
   have hr_must_be_turn:m9 3 _:=hr.mono (by decide)
   have hr_must_be_from_one:m9 2 _:=hr.mono (by decide)
   have hr_sort_by_length:m9 1 _:=hr.mono (by decide)
   have hr_walk_rings:m9 2 _:=hr.mono (by decide)
   have hr_count_joins:m9 3 _:=hr.mono (by decide)
   have hu:=W2 hr
   refine ⟨_,@c7 _ _ _ _ _ (@q5 _ _ _ _ (@i6 _ _ _ _ _ _ _ _ _ _ c_must_be_turn hr_must_be_turn (@c5 _ _ _ _ _ (pv 0) (@c6 _) (by rfl)) (by rfl) (by decide) (by rfl) (by rfl)) (by rfl)) (@c7 _ _ _ _ _ (@q5 _ _ _ _ (@i6 _ _ _ _ _ _ _ _ _ _ c_must_be_from_one hr_must_be_from_one (@c5 _ _ _ _ _ (pv 1) (@c6 _) (by rfl)) (by rfl) (by decide) (by rfl) (by rfl)) (by rfl)) (@c7 _ _ _ _ _ (@i4 _ _ (2) _ _ _ _ G5.nd rfl (Or.inl rfl) (@i6 _ _ _ _ _ _ _ _ _ _ c_sort_by_length hr_sort_by_length (@c5 _ _ _ _ _ (@i6 _ _ _ _ _ _ _ _ _ _ c_walk_rings hr_walk_rings (@c5 _ _ _ _ _ (pv 0) (@c6 _) (by rfl)) (by rfl) (by decide) (by rfl) (by rfl)) (@c6 _) (by rfl)) (by rfl) (by decide) (by rfl) (by rfl)) (by rfl) (by first|exact .inl rfl|exact .inr rfl|assumption)) (@c7 _ _ _ _ _ (@i4 _ _ (3) _ _ _ _ G5.nd rfl (Or.inl rfl) (@h7 _ _ _ _) (by rfl) (by first|exact .inl rfl|exact .inr rfl|assumption)) (@c7 _ _ _ _ _ (@n0 _ _ _ _ _ _ _ _ PassesOwn.never rfl (@bp2 _ _ _ _ (pv 2)) (@i8 _ _ (4) _ G5.nd rfl (Or.inl rfl) (by first|exact .inl rfl|exact .inr rfl|assumption)) (@c9 _ _ _ (@i4 _ _ (3) _ _ _ _ G5.nd rfl (Or.inl rfl) (@i9 _ _ _ _ _ _ _ _ bq3 (pv 3) (@i6 _ _ _ _ _ _ _ _ _ _ c_count_joins hr_count_joins (@c5 _ _ _ _ _ (pv 4) (@c5 _ _ _ _ _ (@w4 _ _ _ _ _ B.len (@c5 _ _ _ _ _ (@ak6 _ _ _ _ _ _ hu (pv 2) (pv 4) (fun _ _=>rfl)) (@c6 _) (by rfl)) (by rfl) (by rfl)) (@c5 _ _ _ _ _ (pv 1) (@c6 _) (by rfl)) (by rfl)) (by rfl)) (by rfl) (by decide) (by rfl) (by rfl))) (by rfl) (by first|exact .inl rfl|exact .inr rfl|assumption))) (by intro _;rfl)) (@c9 _ _ _ (@k7 _ _ _ _ (pv 3))))))),?_⟩
   refine ⟨_,rfl,a,p,rfl,⟨ha,tp,lp⟩,fun H1 s1=> ?_⟩
   refine ⟨_,rfl,(m:Int),rfl,by omega,?_⟩
   refine ⟨_,rfl,a,p,rfl,⟨s1 a _ ha,tp,lp⟩,fun l as rs H2 hl s12 h2l rows up fa nda nla=> ?_⟩
   have cl:=Y4 up
   have fl:=U1 tp up
   refine ⟨l,as,rs,rfl,h2l,rows,by omega,fun d es H3 hd s23 h3d bl les fre=> ?_⟩
   have s03:=(s1.trans s12).trans s23
   have hd0:H d=none:=(s1.trans s12).free hd
   refine ⟨_,rfl,d,p6 es,rfl,h3d,fun o=> ?_⟩
   have s4:e8 H (e7 H3 d (.frz o (.dK (p6 es)))):=s03.upd_r hd0
   have h4d:(e7 H3 d (.frz o (.dK (p6 es)))) d=some (.frz o (.dK (p6 es))):=c8
   have kp:∀c,c≠d→(e7 H3 d (.frz o (.dK (p6 es)))) c=H3 c:=fun c hc=>g8 hc
   generalize (e7 H3 d (.frz o (.dK (p6 es))))=H4 at s4 h4d kp ⊢
   have lkv:(p6 es).length=es.length:=by unfold p6;rw[de9]
   have fb:∀e∈es,e.1≤40∧o5 rs e.1≤40:=fun e he=>by
     obtain ⟨r,hr',lr⟩:=bl.key e.1 (df9.mpr ⟨e,he,rfl⟩)
     obtain ⟨y,L,hy,pr,er,_⟩:=up.ring r hr'
     have b:=J6 tp hy (m:=L) fun i i0 i1=>pr.least i i0 i1
     rw[er,l7] at lr
     have:o5 rs e.1≤rs.length:=List.countP_le_length
     exact ⟨by omega,by omega⟩
   refine ao0 (fun i σ H5=>∃(v:Option V),σ=[some (.ref a),some (.int (m:Int)),some (.ref d),some (.int ((o8 (fun l=>A7 l m (o5 rs l)) ((es.take i).map (·.1)):Nat):Int)),v]∧e8 H4 H5)
     ⟨none,rfl,e8.refl H4⟩ (fun i σ H5 _ ⟨_,_,e⟩=>e _ _ h4d) ?_ ?_
   · rintro i k v σ H5 hi ⟨v4,rfl,s5⟩
     unfold p6 at hi
     rw[df3] at hi
     cases hE:es[i]? with
     |none=>rw[hE] at hi;cases hi
     |some e=>
      rw[hE] at hi
      cases hi
      have he:=dg1 hE
      have il:i < es.length:=(df1.mp hE).1
      obtain ⟨cs,hcs,rcs⟩:=bl.row e he
      obtain ⟨le40,lc40⟩:=fb e he
      have lcs:cs.length=o5 rs e.1:=by
        rw[rcs.1]
        unfold t6 o5
        exact (dw3 ..).symm
      have h5x:H5 e.2=some (.lst (cs.map V.ref)):=s5 _ _ (by rw[kp _ (bl.nd e he)];exact hcs)
      have pb:o8 (fun l=>A7 l m (o5 rs l)) ((es.take i).map (·.1))≤(1600^40)^i:=by
        have:=bk6 (f:=fun l=>A7 l m (o5 rs l)) (c:=1600^40) (ks:=(es.take i).map (·.1)) fun k hk=>by
          obtain ⟨e1,he1,rfl⟩:=df9.mp hk
          obtain ⟨b1,b2⟩:=fb e1 (dl7 he1)
          exact bb9 b1 b2
        rw[de9,dg7,dv8 (by omega)] at this
        exact this
      obtain ⟨F0,hF0⟩:∃F0,F0=o8 (fun l=>A7 l m (o5 rs l)) ((es.take i).map (·.1)):=⟨_,rfl⟩
      rw[←hF0] at pb ⊢
      refine ⟨_,rfl,_,rfl,_,rfl,_,rfl,d,.ref e.2,rfl,.inl ⟨p6 es,Sum.inl (e.1:Int),.inr ⟨o,s5 _ _ h4d⟩,rfl,(bj5 bl.nk he).symm⟩,e.2,_,rfl,.inl (h8.of h5x),_,rfl,e.1,cs.length,m,?_,le40,by omega,fun H6 s6=> ?_⟩
      · show [V.int (e.1:Int),V.int (((cs.map V.ref).length:Nat):Int),V.int (m:Int)]++[]=_
        rw[de9]
        rfl
      refine ⟨_,_,rfl,rfl,⟨?_,?_⟩,some (.int (e.1:Int)),?_,s5.trans s6⟩
      · rw[dt7]
        exact dj5 pb (co6 i (by omega) (by decide))
      · rw[dt7]
        exact dj5 (bb9 le40 (by omega)) (bk5 40 (df2 _) (by decide))
      · rw[j6 hE,df8,show ([e].map (·.1):List Nat)=[e.1] from rfl,as7,←hF0,←lcs,dm2]
        rfl
   · rintro σ H5 ⟨v,rfl,s5⟩
     rw[lkv,dh9,aj3 tp up bl.nk bl.key bl.all (f:=fun l=>A7 l m (o5 rs l)) fun u hu=>by show A7 u m (o5 rs u)=1;rw[hu];rfl]
     have er:rs=j7 p p.length:=up.eq
     rw[er]
     exact ⟨_,rfl,q _ (s4.trans s5)⟩
end
end My
namespace My
open PySem L2 Mth
section
variable {P:Program} {w:World} {K:PySem.W.Frag} {mg:Str→Option Value} {base:Heap} {q_TurnError q_NoTurn q_NoFit q_NoRounds q_NoNumber q_NoRoot q_TooMany q_NoKind q_NoText q_NoName q_NoRow:Addr}
def bk7:Nat→(Nat→Nat)→Nat
 |0,_=>0
 |n+1,f=>bk7 n f+f n
theorem da4 {f:Nat→Nat}{n m:Nat}(h:n≤m)(z:∀k,n≤k→k < m→f k=0):bk7 m f=bk7 n f:=by
 induction m with
 |zero=>rw[show n=0 by omega]
 |succ m ih=>
  by_cases e:n=m+1
  · rw[e]
  · show bk7 m f+f m=bk7 n f
    rw[ih (by omega) fun k h1 h2=>z k h1 (by omega),z m (by omega) (by omega)];rfl
def V7 (rs:List Nat)(f:Nat→Nat):Nat:=(rs.map f).sum
theorem K7 (r:Nat)(rs:List Nat)(f:Nat→Nat):V7 (r::rs) f=f r+V7 rs f:=by unfold V7;rw[dj0,dx3]
theorem af8 {f g:Nat→Nat}:∀{rs:List Nat},(∀r∈rs,f r=g r)→V7 rs f=V7 rs g
 |[],_=>rfl
 |r::rs,h=>by rw[K7,K7,h r df4,af8 fun x hx=>h x (df6 _ hx)]
theorem ci3 (c:Nat)(f:Nat→Nat):∀rs,c*V7 rs f=V7 rs fun r=>c*f r
 |[]=>rfl
 |r::rs=>by rw[K7,K7,du7,ci3 c f rs]
def Jn (l:Nat)(rs:List Nat)(j:Nat→Nat):Prop:=j 0=1∧∀n,1≤n→j n=V7 rs fun d=>if d≤n then q9 n l (d - 1)*j (n - d) else 0
def jf (l:Nat)(rs:List Nat)(n:Nat):Nat:=(y8 l rs n).getD n 0
theorem bc0 (l:Nat)(rs:List Nat):∀(k i:Nat),i≤k→(y8 l rs k).getD i 0=jf l rs i
 |0,i,h=>by rw[show i=0 by omega];rfl
 |k+1,i,h=>by
  by_cases e:i=k+1
  · rw[e];rfl
  · show (y8 l rs k++[_]).getD i 0=_
    rw[df5,di1 (by rw[J7];omega),←df5]
    exact bc0 l rs k i (by omega)
theorem am9 (n:Nat)(f:Nat→Nat):∀rs:List Nat,((rs.filter fun d=>decide (d≤n)).map f).sum=V7 rs fun d=>if d≤n then f d else 0
 |[]=>rfl
 |r::rs=>by
  rw[K7,←am9 n f rs]
  by_cases c:r≤n
  · rw[do8 (by simpa using c),dj0,dx3,if_pos c]
  · rw[do9 (by simpa using c),if_neg c,dr1]
theorem bd8 {l:Nat}{rs:List Nat}(h1:∀d∈rs,1≤d):Jn l rs (jf l rs):=by
 refine ⟨rfl,fun n n1=> ?_⟩
 obtain ⟨k,rfl⟩:∃k,n=k+1:=⟨n - 1,by omega⟩
 show (y8 l rs k++[_]).getD (k+1) 0=_
 rw[df5,di8 (by rw[J7];omega),J7,dv9]
 show af7 l rs (y8 l rs k) (k+1)=_
 unfold af7
 rw[am9]
 refine af8 fun d hd=> ?_
 have:=h1 d hd
 by_cases c:d≤k+1
 · rw[if_pos c,if_pos c,bc0 l rs k _ (by omega)]
 · rw[if_neg c,if_neg c]
end
end My
namespace My
open PySem L2 Mth
section
variable {P:Program} {w:World} {K:PySem.W.Frag} {mg:Str→Option Value} {base:Heap}
def C9 {α:Type}(R:Addr→α→Prop)(ts:List Addr)(xs:List α):Prop:=ts.length=xs.length∧∀(j:Nat) t x,ts[j]? =some t→xs[j]? =some x→R t x
theorem C9.nil {α:Type}{R:Addr→α→Prop}:C9 R [] ([]:List α):=⟨rfl,fun j t x h=>by cases h⟩
theorem C9.imp {α:Type}{R S:Addr→α→Prop}{ts:List Addr}{xs:List α}(h:C9 R ts xs)(f:∀t x,t∈ts→R t x→S t x):C9 S ts xs:=⟨h.1,fun j t x e1 e2=>f t x (dg1 e1) (h.2 j t x e1 e2)⟩
theorem C9.snoc {α:Type}{R:Addr→α→Prop}{ts:List Addr}{xs:List α}{t:Addr}{x:α}(h:C9 R ts xs)(r:R t x):C9 R (ts++[t]) (xs++[x]):=by
 refine ⟨by rw[df7,df7,h.1];rfl,fun j u y e1 e2=> ?_⟩
 by_cases hj:j < ts.length
 · rw[di1 hj] at e1
   rw[di1 (by rw[←h.1];exact hj)] at e2
   exact h.2 j u y e1 e2
 · rw[di8 (by omega)] at e1
   rw[di8 (by rw[←h.1];omega),←h.1] at e2
   have jl:=(df1.mp e1).1
   have:j - ts.length=0:=by simp at jl;omega
   rw[this] at e1 e2
   cases e1;cases e2
   exact r
theorem C9.get {α:Type}{R:Addr→α→Prop}{ts:List Addr}{xs:List α}(h:C9 R ts xs){j:Nat}{t:Addr}(e:ts[j]? =some t):∃x,xs[j]? =some x∧R t x:=by
 have jl:=(df1.mp e).1
 exact ⟨_,df0 (by rw[←h.1];exact jl),h.2 j t _ e (df0 _)⟩
def G8 (H:Hp)(zs:List Addr):Hp:=fun a=>if a∈zs then none else H a
theorem J2 {H:Hp}{zs:List Addr}{a:Addr}(h:a∉zs):G8 H zs a=H a:=if_neg h
theorem N5 {H:Hp}{zs:List Addr}{a:Addr}{u:HO}(e:G8 H zs a=some u):a∉zs∧H a=some u:=by
 unfold G8 at e
 by_cases c:a∈zs
 · rw[if_pos c] at e;cases e
 · rw[if_neg c] at e;exact ⟨c,e⟩
theorem ay6 {H:Hp}{zs:List Addr}{o:Addr}{x:HO}(ho:o∈zs):G8 (e7 H o x) zs=G8 H zs:=funext fun a=>by
 unfold G8
 by_cases e:a∈zs
 · rw[if_pos e,if_pos e]
 · rw[if_neg e,if_neg e,g8 (show a≠o from fun z=>e (by rw[z];exact ho))]
theorem bk8 (H:Hp)(zs:List Addr):e8 (G8 H zs) H:=fun a u e=>(N5 e).2
theorem Q3 {H H':Hp}{zs:List Addr}{o:Addr}(ho:o∈zs)(k:j5 o H H'):e8 (G8 H zs) (G8 H' zs):=fun a u e=>by
 obtain ⟨c,e⟩:=N5 e
 rw[J2 c];exact k a u e (fun z=>c (by rw[z];exact ho))
theorem C2 {H H':Hp}{zs:List Addr}(s:e8 H H'):e8 (G8 H zs) (G8 H' zs):=fun a u e=>by
 obtain ⟨c,e⟩:=N5 e
 rw[J2 c];exact s a u e
theorem bk9 {H H':Hp}{zs:List Addr}{o:Addr}(s:e8 H H')(ho:H o=none):e8 (G8 H zs) (G8 H' (o::zs)):=fun a u e=>by
 obtain ⟨c,e⟩:=N5 e
 rw[J2 fun z=>(dg9.mp z).elim (fun y=>by rw[y,ho] at e;cases e) c];exact s a u e
theorem bl0 {H:Hp}{zs:List Addr}{o:Addr}:e8 (G8 H (o::zs)) (G8 H zs):=fun a u e=>by
 obtain ⟨c,e⟩:=N5 e
 rw[J2 fun z=>c (df6 _ z)];exact e
def M2 (H:Hp)(zs:List Addr):Prop:=∀z∈zs,∃u,H z=some u
theorem M2.keep {H H':Hp}{zs:List Addr}(h:M2 H zs)(s:e8 H H'):M2 H' zs:=fun z hz=>by
 obtain ⟨u,e⟩:=h z hz
 exact ⟨u,s _ _ e⟩
theorem M2.cons {H:Hp}{zs:List Addr}{o:Addr}{u:HO}(h:M2 H zs)(e:H o=some u):M2 H (o::zs):=fun z hz=>by
 rcases dg9.mp hz with rfl|hz
 · exact ⟨u,e⟩
 · exact h z hz
theorem M2.out {H:Hp}{zs:List Addr}{a:Addr}(h:M2 H zs)(e:H a=none):a∉zs:=fun z=>by
 obtain ⟨u,e'⟩:=h a z
 rw[e] at e';cases e'
def pk (rs:List (List Int))(i:Nat)(r:List Int)(b:Nat):List Int×List (List Int):=(r.drop b++r.take b,rs.take i++rs.drop (i+1))
def U4 (rs:List (List Int))(i:Nat)(r:List Int):List (List Int×List (List Int)):=(dj6 r.length).map (pk rs i r)
def C3 (rs:List (List Int)):Nat→List (List Int×List (List Int))
 |0=>[]
 |i+1=>C3 rs i++U4 rs i (rs.getD i [])
def Y7 (H:Hp)(t:Addr)(x:List Int×List (List Int)):Prop:=∃(a l:Addr) (as:List Addr),H t=some (.tup [.ref a,.ref l])∧H a=some (.lst (x.1.map V.int))∧H l=some (.lst (as.map V.ref))∧l8 H as x.2
theorem Y7.keep {H H':Hp}{t:Addr}{x:List Int×List (List Int)}(h:Y7 H t x)(s:e8 H H'):Y7 H' t x:=by
 obtain ⟨a,l,as,h1,h2,h3,h4⟩:=h
 exact ⟨a,l,as,s _ _ h1,s _ _ h2,s _ _ h3,t5 h4 fun b _ o e=>s b o e⟩
theorem bc1 (rs:List (List Int))(h:∀r∈rs,r.length≤40):∀i,i≤rs.length→(C3 rs i).length≤40*i
 |0,_=>dh2 _
 |i+1,hi=>by
  have:=bc1 rs h i (by omega)
  show (C3 rs i++U4 rs i (rs.getD i [])).length≤_
  rw[df7]
  unfold U4
  rw[de9,di2]
  have:(rs.getD i []).length≤40:=by
    rw[df5,df0 (by omega)]
    exact h _ (di5 _)
  omega
theorem cd0 {H:Hp}{as:List Addr}{rs:List (List Int)}(h:l8 H as rs)(i:Nat):l8 H (as.take i) (rs.take i):=
 ⟨by rw[dg7,dg7,h.1],fun j a r e1 e2=>by
   rw[dt8] at e1 e2
   by_cases c:j < i
   · rw[if_pos c] at e1 e2;exact h.2 j a r e1 e2
   · rw[if_neg c] at e1;cases e1⟩
theorem cd1 {H:Hp}{as:List Addr}{rs:List (List Int)}(h:l8 H as rs)(i:Nat):l8 H (as.drop i) (rs.drop i):=
 ⟨by rw[di0,di0,h.1],fun j a r e1 e2=>by
   rw[do0] at e1 e2
   exact h.2 _ a r e1 e2⟩
def ay7:Sp:=fun vs H Q _=>∃(l:Addr) (as:List Addr) (rs:List (List Int)) (zs:List Addr),vs=[.ref l]∧H l=some (.lst (as.map V.ref))∧l8 (G8 H zs) as rs∧M2 H zs∧rs.length≤40∧(∀r∈rs,r.length≤40)∧∀(o:Addr) (ts:List Addr) (H':Hp),H o=none→e8 H H'→H' o=some (.lst (ts.map V.ref))→C9 (Y7 (G8 H' (o::zs))) ts (C3 rs rs.length)→Q (.ref o) H'
theorem L8:l5 ["rings","picks","at","ring","left","begin"] ["rings"] (i7 ae8):=⟨rfl,rfl,rfl,by decide+kernel,rfl,by decide+kernel,by decide+kernel⟩
theorem bn5 {f:Addr}{fd:FuncData}(F:A4 K "picks_of" "picks_of" ae8 f fd)(B:Bl mg):o4 P w K mg base A2 1 f fd ["rings"] ay7:=by
 refine F.ok L8 (fun vs H Q E h=> ?_) (fun cdv A outer s H vs Q E hr h=> ?_)
 · obtain ⟨l,as,rs,zs,rfl,hl,rows,thz,lr,lr2,q⟩:=h
   rfl
 · obtain ⟨l,as,rs,zs,rfl,hl,rows,thz,lr,lr2,q⟩:=h
   refine ⟨_,@c7 _ _ _ _ _ (@i4 _ _ (1) _ _ _ _ L8.nd rfl (Or.inl rfl) (@r6 _ _ _ _ (@c6 _)) (by rfl) (by first|exact .inl rfl|exact .inr rfl|assumption)) (@c7 _ _ _ _ _ (@n0 _ _ _ _ _ _ _ _ PassesOwn.never rfl (@ac3 _ _ _ _ _ _ _ _ B.enum (@c5 _ _ _ _ _ (pv 0) (@c6 _) (by rfl)) (by rfl) (by rfl)) (@R1 _ _ _ _ _ _ rfl (@x8 _ _ _ _ _ (@i8 _ _ (2) _ L8.nd rfl (Or.inl rfl) (by first|exact .inl rfl|exact .inr rfl|assumption)) (@x8 _ _ _ _ _ (@i8 _ _ (3) _ L8.nd rfl (Or.inl rfl) (by first|exact .inl rfl|exact .inr rfl|assumption)) (@N8 _) (by rfl)) (by rfl)) (by rfl) (by rfl)) (@c7 _ _ _ _ _ (@i4 _ _ (4) _ _ _ _ L8.nd rfl (Or.inl rfl) (@i9 _ _ _ _ _ _ _ _ bf3 (@S3 _ _ _ _ _ _ _ _ _ _ W4 (pv 0) (@ab9 _) (@Q4 _ _ _ (pv 2))) (@S3 _ _ _ _ _ _ _ _ _ _ W4 (pv 0) (@Q4 _ _ _ (@i9 _ _ _ _ _ _ _ _ B5 (pv 2) (@h7 _ _ _ _))) (@ab9 _))) (by rfl) (by first|exact .inl rfl|exact .inr rfl|assumption)) (@c9 _ _ _ (@n0 _ _ _ _ _ _ _ _ PassesOwn.never rfl (@K5 _ _ _ _ _ _ (by rfl) B.range (@c5 _ _ _ _ _ (@w4 _ _ _ _ _ B.len (@c5 _ _ _ _ _ (pv 3) (@c6 _) (by rfl)) (by rfl) (by rfl)) (@c6 _) (by rfl)) (by rfl)) (@i8 _ _ (5) _ L8.nd rfl (Or.inl rfl) (by first|exact .inl rfl|exact .inr rfl|assumption)) (@c9 _ _ _ (@q5 _ _ _ _ (@C6 _ _ _ _ _ _ _ (pv 1) (@c5 _ _ _ _ _ (@X1 _ _ _ _ _ (@c5 _ _ _ _ _ (@i9 _ _ _ _ _ _ _ _ bf3 (@S3 _ _ _ _ _ _ _ _ _ _ W4 (pv 3) (@Q4 _ _ _ (pv 5)) (@ab9 _)) (@S3 _ _ _ _ _ _ _ _ _ _ W4 (pv 3) (@ab9 _) (@Q4 _ _ _ (pv 5)))) (@c5 _ _ _ _ _ (pv 4) (@c6 _) (by rfl)) (by rfl))) (@c6 _) (by rfl)) (by rfl) (by rfl) (by rfl) (by rfl) (by rfl)) (by rfl))) (by intro _;rfl)))) (by intro _;rfl)) (@c9 _ _ _ (@k7 _ _ _ _ (pv 1)))),?_⟩
   refine ⟨dh2 _,fun o ho=> ?_⟩
   have s1:e8 H (e7 H o (.lst [])):=e8.upd_new ho
   have h1o:(e7 H o (.lst [])) o=some (.lst (([]:List Addr).map V.ref)):=c8
   generalize (e7 H o (.lst []))=H1 at s1 h1o ⊢
   have nlo:l≠o:=g6 hl ho
   refine ⟨_,rfl,l,rfl,⟨_,h8.of (s1 _ _ hl)⟩,X7 (K:=K) (a:=l) (xs:=as.map V.ref) (fun i σ H2=>∃(ts:List Addr) (v2 v3 v4 v5:Option V),σ=[some (.ref l),some (.ref o),v2,v3,v4,v5]∧H2 o=some (.lst (ts.map V.ref))∧C9 (Y7 (G8 H2 (o::zs))) ts (C3 rs i)∧e8 H H2)
     ⟨[],none,none,none,none,rfl,h1o,C9.nil,s1⟩ (fun i σ H2 _ ⟨_,_,_,_,_,_,_,_,s⟩=>h8.of (s _ _ hl)) ?_ ?_⟩
   · rintro i y σ H2 tt hi ⟨ts,v2,v3,v4,v5,rfl,h2o,ats,s2⟩ htt
     obtain ⟨a,ha,rfl⟩:∃a,as[i]? =some a∧y=V.ref a:=by
       rw[df3] at hi
       cases e:as[i]? with
       |none=>rw[e] at hi;cases hi
       |some a=>rw[e] at hi;exact ⟨a,rfl,(Option.some.inj hi).symm⟩
     have il:i < rs.length:=by rw[←rows.1];exact (df1.mp ha).1
     obtain ⟨r,hr⟩:∃r,rs[i]? =some r:=⟨_,df0 il⟩
     have er:rs.getD i []=r:=by rw[df5,hr];rfl
     have lr40:=lr2 r (dg1 hr)
     have h0a:=(N5 (rows.2 i a r ha hr)).2
     have s3:e8 H2 (e7 H2 tt (.tup [.int (i:Int),.ref a])):=e8.upd_new htt
     have h3t:(e7 H2 tt (.tup [.int (i:Int),.ref a])) tt=some (.tup [.int (i:Int),.ref a]):=c8
     generalize (e7 H2 tt (.tup [.int (i:Int),.ref a]))=H3 at s3 h3t ⊢
     refine ⟨tt,_,rfl,E6.of h3t,rfl,_,_,rfl,_,_,rfl,rfl,?_⟩
     have s03:=s2.trans s3
     have la:(as.map V.ref).length=rs.length:=by rw[de9,rows.1]
     refine ⟨_,rfl,_,rfl,_,rfl,l,_,rfl,h8.of (s03 _ _ hl),fun x1 hx1=> ?_⟩
     rw[cb0 (as.map V.ref) i (by omega),←dx2]
     have s4:e8 H3 (e7 H3 x1 (.lst ((as.take i).map V.ref))):=e8.upd_new hx1
     have h4x:(e7 H3 x1 (.lst ((as.take i).map V.ref))) x1=some (.lst ((as.take i).map V.ref)):=c8
     generalize (e7 H3 x1 (.lst ((as.take i).map V.ref)))=H4 at s4 h4x ⊢
     have s04:=s03.trans s4
     refine ⟨_,rfl,_,rfl,_,_,rfl,rfl,_,rfl,l,_,rfl,h8.of (s04 _ _ hl),fun x2 hx2=> ?_⟩
     rw[show ((i:Int)+1)=((i+1:Nat):Int) by omega,an8 (as.map V.ref) (i+1) (by omega),←dz3]
     have s5:e8 H4 (e7 H4 x2 (.lst ((as.drop (i+1)).map V.ref))):=e8.upd_new hx2
     have h5x:(e7 H4 x2 (.lst ((as.drop (i+1)).map V.ref))) x2=some (.lst ((as.drop (i+1)).map V.ref)):=c8
     generalize (e7 H4 x2 (.lst ((as.drop (i+1)).map V.ref)))=H5 at s5 h5x ⊢
     refine ⟨x1,x2,_,_,rfl,rfl,s5 _ _ h4x,h5x,dl0 (p8 (by simp only[de9,dg7,di0];have:=rows.1;omega)),fun L hL=> ?_⟩
     rw[←df8]
     have s6:e8 H5 (e7 H5 L (.lst ((as.take i++as.drop (i+1)).map V.ref))):=e8.upd_new hL
     have h6L:(e7 H5 L (.lst ((as.take i++as.drop (i+1)).map V.ref))) L=some (.lst ((as.take i++as.drop (i+1)).map V.ref)):=c8
     generalize (e7 H5 L (.lst ((as.take i++as.drop (i+1)).map V.ref)))=H6 at s6 h6L ⊢
     have s26:=((s3.trans s4).trans s5).trans s6
     have s06:=s2.trans s26
     have th2:M2 H2 (o::zs):=(thz.keep s2).cons h2o
     have nLo:L∉o::zs:=(th2.keep ((s3.trans s4).trans s5)).out hL
     have nLo1:L≠o:=fun z=>nLo (z▸df4)
     have rowsO:l8 (G8 H6 (o::zs)) (as.take i++as.drop (i+1)) (rs.take i++rs.drop (i+1)):=t5 (bg5 (cd0 rows i) (cd1 rows (i+1))) fun b _ u e=>bk9 s06 ho b u e
     have ats6:C9 (Y7 (G8 H6 (o::zs))) ts (C3 rs i):=ats.imp fun t x _ h=>h.keep (C2 s26)
     refine ⟨_,rfl,a,_,rfl,.inl (h8.of (s06 _ _ h0a)),_,rfl,by rw[de9];omega,by rw[de9];omega,?_⟩
     rw[de9,show ((r.length:Int)).toNat=r.length by omega]
     have tl:=ats.1
     have pl:=bc1 rs lr2 i (by omega)
     refine G6 (lo:=0) (n:=r.length) (fun b σ H7=>∃(ts:List Addr) (v5:Option V),σ=[some (.ref l),some (.ref o),some (.int (i:Int)),some (.ref a),some (.ref L),v5]∧H7 o=some (.lst (ts.map V.ref))∧C9 (Y7 (G8 H7 (o::zs))) ts (C3 rs i++(dj6 b).map (pk rs i r))∧j5 o H6 H7)
       ⟨ts,v5,rfl,s26 _ _ h2o,by rw[List.range_zero,ds7,dh7];exact ats6,j5.refl _ _⟩ ?_ ?_
     · rintro b σ H7 hb ⟨ts,v5,rfl,h7o,ats7,kb7⟩
       have e0:(0:Int)+(b:Int)=(b:Int):=by omega
       rw[e0]
       have s07:e8 H H7:=s06.kb kb7 ho
       have h7a:=s07 _ _ h0a
       have lts:ts.length≤1700:=by
         have:=ats7.1
         rw[df7,de9,di2] at this
         omega
       refine ⟨_,rfl,.inl ⟨rfl,_,h8.of h7o⟩,_,rfl,_,rfl,_,rfl,a,_,rfl,h8.of h7a,fun y1 hy1=> ?_⟩
       rw[an8 (r.map V.int) b (by rw[de9];omega),←dz3]
       have s8:e8 H7 (e7 H7 y1 (.lst ((r.drop b).map V.int))):=e8.upd_new hy1
       have h8y:(e7 H7 y1 (.lst ((r.drop b).map V.int))) y1=some (.lst ((r.drop b).map V.int)):=c8
       generalize (e7 H7 y1 (.lst ((r.drop b).map V.int)))=H8 at s8 h8y ⊢
       refine ⟨_,rfl,_,rfl,_,rfl,a,_,rfl,h8.of (s8 _ _ h7a),fun y2 hy2=> ?_⟩
       rw[cb0 (r.map V.int) b (by rw[de9];omega),←dx2]
       have s9:e8 H8 (e7 H8 y2 (.lst ((r.take b).map V.int))):=e8.upd_new hy2
       have h9y:(e7 H8 y2 (.lst ((r.take b).map V.int))) y2=some (.lst ((r.take b).map V.int)):=c8
       generalize (e7 H8 y2 (.lst ((r.take b).map V.int)))=H9 at s9 h9y ⊢
       refine ⟨y1,y2,_,_,rfl,rfl,s9 _ _ h8y,h9y,dl0 (p8 (by simp only[de9,dg7,di0];omega)),fun c hc=> ?_⟩
       rw[←df8]
       have s10:e8 H9 (e7 H9 c (.lst ((r.drop b++r.take b).map V.int))):=e8.upd_new hc
       have h10c:(e7 H9 c (.lst ((r.drop b++r.take b).map V.int))) c=some (.lst ((r.drop b++r.take b).map V.int)):=c8
       generalize (e7 H9 c (.lst ((r.drop b++r.take b).map V.int)))=H10 at s10 h10c ⊢
       refine ⟨_,rfl,(show 2≤sizeLine by decide),fun t ht=> ?_⟩
       have s11:e8 H10 (e7 H10 t (.tup [.ref c,.ref L])):=e8.upd_new ht
       have h11t:(e7 H10 t (.tup [.ref c,.ref L])) t=some (.tup [.ref c,.ref L]):=c8
       generalize (e7 H10 t (.tup [.ref c,.ref L]))=H11 at s11 h11t ⊢
       have s79:=s8.trans s9
       have s710:=s79.trans s10
       have s711:=s710.trans s11
       have th7:M2 H7 (o::zs):=(thz.keep s07).cons h7o
       have nco:c∉o::zs:=(th7.keep s79).out hc
       have nto:t∉o::zs:=(th7.keep s710).out ht
       refine ⟨o,_,_,rfl,rfl,s711 _ _ h7o,dj5 (show _≤2000 by rw[de9];omega) (by decide),?_⟩
       rw[show ts.map V.ref++[V.ref t]=(ts++[t]).map V.ref by rw[df8];rfl]
       refine ⟨ts++[t],_,rfl,c8,?_,(kb7.trans (s711.but o)).upd_a⟩
       rw[ay6 df4,dr8,df8,←dh4]
       refine C9.snoc (ats7.imp fun t x _ h=>h.keep (C2 s711)) ?_
       have h7L:=kb7 _ _ h6L nLo1
       refine ⟨c,L,_,by rw[J2 nto];exact h11t,by rw[J2 nco];exact s11 _ _ h10c,by rw[J2 nLo];exact s711 _ _ h7L,?_⟩
       exact t5 rowsO fun b _ u e=>(Q3 df4 (kb7.trans (s711.but o))) b u e
     · rintro σ H7 ⟨ts,v5,rfl,h7o,ats7,kb7⟩
       refine ⟨ts,_,_,_,v5,rfl,h7o,?_,s06.kb kb7 ho⟩
       show C9 _ ts (C3 rs i++U4 rs i (rs.getD i []))
       rw[er]
       exact ats7
   · rintro σ H2 ⟨ts,v2,v3,v4,v5,rfl,h2o,ats,s2⟩
     rw[de9,rows.1] at ats
     exact ⟨_,rfl,q o ts H2 ho s2 h2o ats⟩
def nxC (x:List (List Int)×List (List Int)):List (List (List Int)×List (List Int)):=(C3 x.2 x.2.length).map fun y=>(x.1++[y.1],y.2)
def p9 (rs:List (List Int)):Nat→List (List (List Int)×List (List Int))
 |0=>[([rs.getD 0 []],rs.drop 1)]
 |k+1=>(p9 rs k).flatMap nxC
def K1 (H:Hp)(t:Addr)(x:List (List Int)×List (List Int)):Prop:=∃(c l:Addr) (cs as:List Addr),H t=some (.tup [.ref c,.ref l])∧H c=some (.lst (cs.map V.ref))∧l8 H cs x.1∧H l=some (.lst (as.map V.ref))∧l8 H as x.2
theorem K1.keep {H H':Hp}{t:Addr}{x:List (List Int)×List (List Int)}(h:K1 H t x)(s:e8 H H'):K1 H' t x:=by
 obtain ⟨c,l,cs,as,h1,h2,h3,h4,h5⟩:=h
 exact ⟨c,l,cs,as,s _ _ h1,s _ _ h2,t5 h3 fun b _ o e=>s b o e,s _ _ h4,t5 h5 fun b _ o e=>s b o e⟩
theorem ap1 {rs:List (List Int)}:∀(i:Nat) {y:List Int×List (List Int)},y∈C3 rs i→y.2.length≤rs.length∧∀r∈y.2,r∈rs
 |0,y,h=>by cases h
 |i+1,y,h=>by
  rcases dg2.mp h with z|z
  · exact ap1 i z
  · obtain ⟨b,_,rfl⟩:=df9.mp z
    refine ⟨?_,fun r hr=> ?_⟩
    · show (rs.take i++rs.drop (i+1)).length≤_
      rw[df7,dg7,di0]
      omega
    · rcases dg2.mp hr with w|w
      · exact dl7 w
      · exact do4 w
theorem aj4 {rs:List (List Int)}:∀(k:Nat) {x:List (List Int)×List (List Int)},x∈p9 rs k→x.2.length≤rs.length∧(∀r∈x.2,r∈rs)∧x.1.length=k+1
 |0,x,h=>by
  rw[dg3.mp h]
  exact ⟨by show (rs.drop 1).length≤_;rw[di0];omega,fun r hr=>do4 hr,rfl⟩
 |k+1,x,h=>by
  obtain ⟨x',h',z⟩:=dl5.mp h
  obtain ⟨y,hy,rfl⟩:=df9.mp z
  obtain ⟨a,b,c⟩:=aj4 k h'
  obtain ⟨d,e⟩:=ap1 _ hy
  exact ⟨dg5 d a,fun r hr=>b r (e r hr),by show (x'.1++[y.1]).length=_;rw[df7,c];rfl⟩
def af9:Sp:=fun vs H Q _=>∃(l:Addr) (as:List Addr) (rs:List (List Int)) (zs:List Addr) (part:Nat),vs=[.ref l,.int (part:Int)]∧H l=some (.lst (as.map V.ref))∧l∉zs∧l8 (G8 H zs) as rs∧M2 H zs∧1≤rs.length∧rs.length≤40∧(∀r∈rs,r.length≤40)∧1≤part∧part≤40∧(∀k,k < part→(p9 rs k).length≤2000)∧∀(o:Addr) (ts:List Addr) (H':Hp),H o=none→e8 H H'→H' o=some (.lst (ts.map V.ref))→C9 (K1 (G8 H' zs)) ts (p9 rs (part - 1))→Q (.ref o) H'
theorem C4:l5 ["rings","part","chains","taken","longer","chain","left","ring","rest"] ["rings","part"] (i7 ab1):=⟨rfl,rfl,rfl,by decide+kernel,rfl,by decide+kernel,by decide+kernel⟩
theorem bl1 {f:Addr}{fd:FuncData}(F:A4 K "chains_of" "chains_of" ab1 f fd)(B:Bl mg)(c_picks_of:j9 P w K mg base "picks_of" 1 ["rings"] ay7):o4 P w K mg base A2 2 f fd ["rings","part"] af9:=by
 refine F.ok C4 (fun vs H Q E h=> ?_) (fun cdv A outer s H vs Q E hr h=> ?_)
 · obtain ⟨l,as,rs,zs,part,rfl,hl,nlz,rows,thz,lr1,lr,lr2,p1,p2,few,q⟩:=h
   rfl
 · obtain ⟨l,as,rs,zs,part,rfl,hl,nlz,rows,thz,lr1,lr,lr2,p1,p2,few,q⟩:=h
   have hr_picks_of:m9 1 _:=hr.mono (by decide)
   refine ⟨_,@c7 _ _ _ _ _ (@i4 _ _ (2) _ _ _ _ C4.nd rfl (Or.inl rfl) (@r6 _ _ _ _ (@c5 _ _ _ _ _ (@X1 _ _ _ _ _ (@c5 _ _ _ _ _ (@r6 _ _ _ _ (@c5 _ _ _ _ _ (@E3 _ _ _ _ _ _ _ E9 (pv 0) (@h7 _ _ _ _) (fun _ _=>rfl)) (@c6 _) (by rfl))) (@c5 _ _ _ _ _ (@S3 _ _ _ _ _ _ _ _ _ _ W4 (pv 0) (@Q4 _ _ _ (@h7 _ _ _ _)) (@ab9 _)) (@c6 _) (by rfl)) (by rfl))) (@c6 _) (by rfl))) (by rfl) (by first|exact .inl rfl|exact .inr rfl|assumption)) (@c7 _ _ _ _ _ (@n0 _ _ _ _ _ _ _ _ PassesOwn.never rfl (@Z5 _ _ _ _ _ _ _ (by rfl) B.range (@c5 _ _ _ _ _ (@h7 _ _ _ _) (@c5 _ _ _ _ _ (pv 1) (@c6 _) (by rfl)) (by rfl)) (by rfl) (by rfl)) (@i8 _ _ (3) _ C4.nd rfl (Or.inl rfl) (by first|exact .inl rfl|exact .inr rfl|assumption)) (@c7 _ _ _ _ _ (@i4 _ _ (4) _ _ _ _ C4.nd rfl (Or.inl rfl) (@r6 _ _ _ _ (@c6 _)) (by rfl) (by first|exact .inl rfl|exact .inr rfl|assumption)) (@c7 _ _ _ _ _ (@n0 _ _ _ _ _ _ _ _ PassesOwn.never rfl (@t7 _ _ _ _ (pv 2)) (@R1 _ _ _ _ _ _ rfl (@x8 _ _ _ _ _ (@i8 _ _ (5) _ C4.nd rfl (Or.inl rfl) (by first|exact .inl rfl|exact .inr rfl|assumption)) (@x8 _ _ _ _ _ (@i8 _ _ (6) _ C4.nd rfl (Or.inl rfl) (by first|exact .inl rfl|exact .inr rfl|assumption)) (@N8 _) (by rfl)) (by rfl)) (by rfl) (by rfl)) (@c9 _ _ _ (@n0 _ _ _ _ _ _ _ _ PassesOwn.never rfl (@t7 _ _ _ _ (@i6 _ _ _ _ _ _ _ _ _ _ c_picks_of hr_picks_of (@c5 _ _ _ _ _ (pv 6) (@c6 _) (by rfl)) (by rfl) (by decide) (by rfl) (by rfl))) (@R1 _ _ _ _ _ _ rfl (@x8 _ _ _ _ _ (@i8 _ _ (7) _ C4.nd rfl (Or.inl rfl) (by first|exact .inl rfl|exact .inr rfl|assumption)) (@x8 _ _ _ _ _ (@i8 _ _ (8) _ C4.nd rfl (Or.inl rfl) (by first|exact .inl rfl|exact .inr rfl|assumption)) (@N8 _) (by rfl)) (by rfl)) (by rfl) (by rfl)) (@c9 _ _ _ (@q5 _ _ _ _ (@C6 _ _ _ _ _ _ _ (pv 4) (@c5 _ _ _ _ _ (@X1 _ _ _ _ _ (@c5 _ _ _ _ _ (@i9 _ _ _ _ _ _ _ _ bf3 (pv 5) (@r6 _ _ _ _ (@c5 _ _ _ _ _ (pv 7) (@c6 _) (by rfl)))) (@c5 _ _ _ _ _ (pv 8) (@c6 _) (by rfl)) (by rfl))) (@c6 _) (by rfl)) (by rfl) (by rfl) (by rfl) (by rfl) (by rfl)) (by rfl))) (by intro _;rfl))) (by intro _;rfl)) (@c9 _ _ _ (@i4 _ _ (2) _ _ _ _ C4.nd rfl (Or.inl rfl) (pv 4) (by rfl) (by first|exact .inl rfl|exact .inr rfl|assumption))))) (by intro _;rfl)) (@c9 _ _ _ (@k7 _ _ _ _ (pv 2)))),?_⟩
   obtain ⟨a0,as',rfl⟩:∃a0 as',as=a0::as':=by
     cases as with
     |nil=>have:=rows.1;simp at this;omega
     |cons a t=>exact ⟨a,t,rfl⟩
   obtain ⟨r0,rs',rfl⟩:∃r0 rs',rs=r0::rs':=by
     cases rs with
     |nil=>simp at lr1
     |cons a t=>exact ⟨a,t,rfl⟩
   have h0:G8 H zs a0=some (.lst (r0.map V.int)):=rows.2 0 a0 r0 rfl rfl
   refine ⟨_,rfl,l,_,_,_,rfl,rfl,h8.of hl,(B6 (j:=0) rfl),(show 1≤sizeLine by decide),fun c0 hc0=> ?_⟩
   have s1:e8 H (e7 H c0 (.lst [V.ref a0])):=e8.upd_new hc0
   have h1c:(e7 H c0 (.lst [V.ref a0])) c0=some (.lst (([a0]:List Addr).map V.ref)):=c8
   generalize (e7 H c0 (.lst [V.ref a0]))=H1 at s1 h1c ⊢
   refine ⟨_,rfl,_,rfl,l,_,rfl,h8.of (s1 _ _ hl),fun x1 hx1=> ?_⟩
   rw[show U9 ((a0::as').map V.ref) (some 1) none=as'.map V.ref from an8 ((a0::as').map V.ref) 1 (by simp)]
   have s2:e8 H1 (e7 H1 x1 (.lst (as'.map V.ref))):=e8.upd_new hx1
   have h2x:(e7 H1 x1 (.lst (as'.map V.ref))) x1=some (.lst (as'.map V.ref)):=c8
   generalize (e7 H1 x1 (.lst (as'.map V.ref)))=H2 at s2 h2x ⊢
   refine ⟨(show 2≤sizeLine by decide),fun t0 ht0=> ?_⟩
   have s3:e8 H2 (e7 H2 t0 (.tup [.ref c0,.ref x1])):=e8.upd_new ht0
   have h3t:(e7 H2 t0 (.tup [.ref c0,.ref x1])) t0=some (.tup [.ref c0,.ref x1]):=c8
   generalize (e7 H2 t0 (.tup [.ref c0,.ref x1]))=H3 at s3 h3t ⊢
   refine ⟨(show 1≤sizeLine by decide),fun F0 hF0=> ?_⟩
   have s4:e8 H3 (e7 H3 F0 (.lst [V.ref t0])):=e8.upd_new hF0
   have h4F:(e7 H3 F0 (.lst [V.ref t0])) F0=some (.lst (([t0]:List Addr).map V.ref)):=c8
   generalize (e7 H3 F0 (.lst [V.ref t0]))=H4 at s4 h4F ⊢
   have s02:=s1.trans s2
   have s03:=s02.trans s3
   have s04:=s03.trans s4
   have n1:c0∉zs:=thz.out hc0
   have n2:x1∉zs:=(thz.keep s1).out hx1
   have n3:t0∉zs:=(thz.keep s02).out ht0
   have ch0:K1 (G8 H4 zs) t0 ([r0],rs'):=by
     refine ⟨c0,x1,[a0],as',by rw[J2 n3];exact s4 _ _ h3t,by rw[J2 n1];exact ((s2.trans s3).trans s4) _ _ h1c,⟨rfl,fun j b r e1 e2=> ?_⟩,by rw[J2 n2];exact (s3.trans s4) _ _ h2x,⟨by have:=rows.1;simpa using this,fun j b r e1 e2=> ?_⟩⟩
     · rcases j with _|j
       · cases e1;cases e2;exact C2 s04 _ _ h0
       · cases e1
     · exact C2 s04 _ _ (rows.2 (j+1) b r e1 e2)
   refine ⟨_,rfl,1,(part:Int),rfl,⟨by decide,by decide,by omega,by omega⟩,?_⟩
   rw[show ((part:Int) - 1).toNat=part - 1 by omega]
   refine G6 (lo:=1) (n:=part - 1) (fun i σ H5=>∃(F:Addr) (ts:List Addr) (v3 v4 v5 v6 v7 v8:Option V),σ=[some (.ref l),some (.int (part:Int)),some (.ref F),v3,v4,v5,v6,v7,v8]∧H5 F=some (.lst (ts.map V.ref))∧C9 (K1 (G8 H5 zs)) ts (p9 (r0::rs') i)∧e8 H H5∧H F=none)
     ⟨F0,[t0],none,none,none,none,none,none,rfl,h4F,⟨rfl,fun j t x e1 e2=>by
       rcases j with _|j
       · cases e1;cases e2;exact ch0
       · cases e1⟩,s04,s03.free hF0⟩ ?_ ?_
   · rintro i σ H5 hi ⟨F,ts,v3,v4,v5,v6,v7,v8,rfl,h5F,ats,s05,hF⟩
     refine ⟨dh2 _,fun L hL=> ?_⟩
     have nFL:F≠L:=g6 h5F hL
     have hL0:H L=none:=s05.free hL
     have s6:e8 H5 (e7 H5 L (.lst [])):=e8.upd_new hL
     have h6L:(e7 H5 L (.lst [])) L=some (.lst (([]:List Addr).map V.ref)):=c8
     generalize (e7 H5 L (.lst []))=H6 at s6 h6L ⊢
     have ats6:C9 (K1 (G8 H6 (L::zs))) ts (p9 (r0::rs') i):=ats.imp fun t x _ h=>h.keep (bk9 s6 hL)
     have few1:=few (i+1) (by omega)
     refine ⟨_,rfl,F,rfl,⟨_,h8.of (s6 _ _ h5F)⟩,A3 (K:=K) (a:=F) (xs:=ts.map V.ref) (fun j σ H7=>∃(us:List Addr) (v5 v6 v7 v8:Option V),σ=[some (.ref l),some (.int (part:Int)),some (.ref F),some (.int (1+(i:Int))),some (.ref L),v5,v6,v7,v8]∧H7 L=some (.lst (us.map V.ref))∧C9 (K1 (G8 H7 (L::zs))) us (((p9 (r0::rs') i).take j).flatMap nxC)∧j5 L H6 H7)
       ⟨[],v5,v6,v7,v8,rfl,h6L,C9.nil,j5.refl _ _⟩ (fun j σ H7 _ ⟨_,_,_,_,_,_,_,_,k⟩=>h8.of (k _ _ (s6 _ _ h5F) nFL)) ?_ ?_⟩
     · rintro j y σ H7 hj ⟨us,v5,v6,v7,v8,rfl,h7L,atu,kb7⟩
       obtain ⟨t,ht,rfl⟩:∃t,ts[j]? =some t∧y=V.ref t:=by
         rw[df3] at hj
         cases e:ts[j]? with
         |none=>rw[e] at hj;cases hj
         |some a=>rw[e] at hj;exact ⟨a,rfl,(Option.some.inj hj).symm⟩
       obtain ⟨x,hx,cx⟩:=ats6.get ht
       obtain ⟨c,xl,cs,bs,g1,g2,g3,g4,g5⟩:=cx.keep (Q3 df4 kb7)
       obtain ⟨b1,b2,b3⟩:=aj4 i (dg1 hx)
       refine ⟨t,_,rfl,E6.of (N5 g1).2,rfl,_,_,rfl,_,_,rfl,rfl,?_⟩
       have s07:e8 H H7:=(s05.trans s6).kb kb7 hL0
       have th7:M2 H7 (L::zs):=(thz.keep s07).cons h7L
       refine ⟨_,rfl,xl,bs,x.2,L::zs,rfl,(N5 g4).2,g5,th7,by omega,fun r hr=>lr2 r (b2 r hr),fun o ps H8 ho s8 h8o atp=> ?_⟩
       have noL:o≠L:=(g6 h7L ho).symm
       have cx8:K1 (G8 H8 (L::zs)) t x:=K1.keep ⟨c,xl,cs,bs,g1,g2,g3,g4,g5⟩ (C2 s8)
       have lenP:=atp.1
       refine ⟨o,rfl,⟨_,h8.of h8o⟩,A3 (K:=K) (a:=o) (xs:=ps.map V.ref) (fun k σ H9=>∃(us:List Addr) (v7 v8:Option V),σ=[some (.ref l),some (.int (part:Int)),some (.ref F),some (.int (1+(i:Int))),some (.ref L),some (.ref c),some (.ref xl),v7,v8]∧H9 L=some (.lst (us.map V.ref))∧C9 (K1 (G8 H9 (L::zs))) us (((p9 (r0::rs') i).take j).flatMap nxC++(nxC x).take k)∧j5 L H8 H9)
         ⟨us,v7,v8,rfl,s8 _ _ h7L,by rw[do3,dh7];exact atu.imp fun t x _ h=>h.keep (C2 s8),j5.refl _ _⟩ (fun k σ H9 _ ⟨_,_,_,_,_,_,kk⟩=>h8.of (kk _ _ h8o noL)) ?_ ?_⟩
       · rintro k y σ H9 hk ⟨us,v7,v8,rfl,h9L,at9,kb9⟩
         obtain ⟨t',ht',rfl⟩:∃t,ps[k]? =some t∧y=V.ref t:=by
           rw[df3] at hk
           cases e:ps[k]? with
           |none=>rw[e] at hk;cases hk
           |some a=>rw[e] at hk;exact ⟨a,rfl,(Option.some.inj hk).symm⟩
         obtain ⟨y,hy,py⟩:=atp.get ht'
         obtain ⟨pa,pl,pas,q1,q2,q3,q4⟩:=(py.keep (Q3 (df6 _ df4) kb9)).keep bl0
         obtain ⟨c',xl',cs',bs',f1,f2,f3,f4,f5⟩:=cx8.keep (Q3 df4 kb9)
         have s79:=s8
         have e1:=(N5 f1).2
         have hc9:H9 c=some (.lst (cs.map V.ref)):=(N5 ((Q3 df4 kb9) _ _ (C2 s8 _ _ g2))).2
         have g3':l8 (G8 H9 (L::zs)) cs x.1:=t5 g3 fun b _ u e=>(Q3 df4 kb9) _ _ (C2 s8 _ _ e)
         have lcs:cs.length≤40:=by rw[g3.1,b3];omega
         have th9:M2 H9 (L::zs):=fun z hz=>by
           rcases dg9.mp hz with rfl|hz
           · exact ⟨_,h9L⟩
           · by_cases e:z=L
             · rw[e];exact ⟨_,h9L⟩
             · obtain ⟨u,hu⟩:=(th7.keep s8) z (df6 _ hz)
               exact ⟨u,kb9 _ _ hu e⟩
         have hnx:(nxC x)[k]? =some (x.1++[y.1],y.2):=by
           unfold nxC
           rw[df3,hy];rfl
         have lus:us.length≤2000:=by
           rw[at9.1]
           refine dg5 ?_ few1
           show _≤((p9 (r0::rs') i).flatMap nxC).length
           have ex:p9 (r0::rs') i=(p9 (r0::rs') i).take j++x::(p9 (r0::rs') i).drop (j+1):=by
             have jl:=(df1.mp hx).1
             have e3:=(df1.mp hx).2
             rw[←e3,←dl6 jl,dk5]
           have e4:=congrArg (fun z=>(z.flatMap nxC).length) ex
           simp only[dn8,dk9,df7] at e4
           rw[e4,df7,dg7]
           omega
         refine ⟨t',_,rfl,E6.of (N5 q1).2,rfl,_,_,rfl,_,_,rfl,rfl,?_⟩
         refine ⟨_,rfl,.inl ⟨rfl,_,h8.of h9L⟩,_,rfl,_,rfl,(show 1≤sizeLine by decide),fun e he=> ?_⟩
         have s10:e8 H9 (e7 H9 e (.lst [V.ref pa])):=e8.upd_new he
         have h10e:(e7 H9 e (.lst [V.ref pa])) e=some (.lst [V.ref pa]):=c8
         generalize (e7 H9 e (.lst [V.ref pa]))=H10 at s10 h10e ⊢
         refine ⟨c,e,_,_,rfl,rfl,s10 _ _ hc9,h10e,dl0 (p8 (by simp only[de9,List.length_singleton];omega)),fun d hd=> ?_⟩
         rw[show cs.map V.ref++[V.ref pa]=(cs++[pa]).map V.ref by rw[df8];rfl]
         have s11:e8 H10 (e7 H10 d (.lst ((cs++[pa]).map V.ref))):=e8.upd_new hd
         have h11d:(e7 H10 d (.lst ((cs++[pa]).map V.ref))) d=some (.lst ((cs++[pa]).map V.ref)):=c8
         generalize (e7 H10 d (.lst ((cs++[pa]).map V.ref)))=H11 at s11 h11d ⊢
         refine ⟨_,rfl,(show 2≤sizeLine by decide),fun t2 ht2=> ?_⟩
         have s12:e8 H11 (e7 H11 t2 (.tup [.ref d,.ref pl])):=e8.upd_new ht2
         have h12t:(e7 H11 t2 (.tup [.ref d,.ref pl])) t2=some (.tup [.ref d,.ref pl]):=c8
         generalize (e7 H11 t2 (.tup [.ref d,.ref pl]))=H12 at s12 h12t ⊢
         have s911:=s10.trans s11
         have s912:=s911.trans s12
         have nd:d∉L::zs:=(th9.keep s10).out hd
         have nt2:t2∉L::zs:=(th9.keep s911).out ht2
         refine ⟨L,_,_,rfl,rfl,s912 _ _ h9L,dj5 (show _≤2000 by rw[de9];omega) (by decide),?_⟩
         rw[show us.map V.ref++[V.ref t2]=(us++[t2]).map V.ref by rw[df8];rfl]
         refine ⟨us++[t2],_,_,rfl,c8,?_,(kb9.trans (s912.but L)).upd_a⟩
         rw[ay6 df4,j6 hnx,←dh4]
         refine C9.snoc (at9.imp fun t x _ h=>h.keep (C2 s912)) ?_
         refine ⟨d,pl,cs++[pa],pas,by rw[J2 nt2];exact h12t,by rw[J2 nd];exact s12 _ _ h11d,?_,C2 s912 _ _ q3,t5 q4 fun b _ u e=>C2 s912 _ _ e⟩
         exact Q8 (t5 g3' fun b _ u e=>C2 s912 _ _ e) (C2 s912 _ _ q2)
       · rintro σ H9 ⟨us,v7,v8,rfl,h9L,at9,kb9⟩
         refine ⟨us,_,_,v7,v8,rfl,h9L,?_,kb7.trans ((s8.but L).trans kb9)⟩
         rw[j6 hx,dn8,dk9,dp5,dh7]
         rw[de9,lenP,show (C3 x.2 x.2.length).length=(nxC x).length by unfold nxC;rw[de9],dh9] at at9
         exact at9
     · rintro σ H7 ⟨us,v5,v6,v7,v8,rfl,h7L,atu,kb7⟩
       rw[de9,ats.1,dh9] at atu
       exact ⟨_,rfl,L,us,_,_,_,_,_,_,rfl,h7L,atu.imp fun t x _ h=>h.keep bl0,(s05.trans s6).kb kb7 hL0,hL0⟩
   · rintro σ H5 ⟨F,ts,v3,v4,v5,v6,v7,v8,rfl,h5F,ats,s05,hF⟩
     exact ⟨_,rfl,q F ts H5 hF s05 h5F ats⟩
end
end My
namespace My
open PySem L2 Mth
section
variable {P:Program} {w:World} {K:PySem.W.Frag} {mg:Str→Option Value} {base:Heap}
def K2 (es:List (Int×Int)):List (n6×V):=es.map fun e=>((Sum.inl e.1:n6),V.int e.2)
def C0 (rs:List Int):List (Int×Int):=(dj6 rs.length).map fun j=>(rs.getD j 0,rs.getD ((j+1)%rs.length) 0)
theorem co7 {es:List (Int×Int)}{k v:Int}(h:k∉es.map (·.1)):P6 (K2 es) (Sum.inl k:n6) (.int v)=K2 (es++[(k,v)]):=by
 have ki:KI (K2 es) (es.map (·.1)):=by unfold KI K2;rw[dj4,dj4];rfl
 rw[an3 _ (cm4 ki h)]
 unfold K2
 rw[df8]
 rfl
def al5:Sp:=fun vs H Q _=>∃(d r:Addr) (es:List (Int×Int)) (rs:List Int),vs=[.ref d,.ref r,.int 1]∧H d=some (.dK (K2 es))∧H r=some (.lst (rs.map V.int))∧rs.Nodup∧(∀x∈rs,x∉es.map (·.1))∧es.length≤400∧rs.length≤400∧∀(H':Hp),H' d=some (.dK (K2 (es++C0 rs)))→j5 d H H'→Q .non H'
theorem V8:l5 ["target","ring","steps","place","thing"] ["target","ring","steps"] (i7 N3):=⟨rfl,rfl,rfl,by decide+kernel,rfl,by decide+kernel,by decide+kernel⟩
theorem bd3 {f:Addr}{fd:FuncData}(F:A4 K "send_along" "send_along" N3 f fd)(B:Bl mg):o4 P w K mg base A2 1 f fd ["target","ring","steps"] al5:=by
 refine F.ok V8 (fun vs H Q E h=> ?_) (fun cdv A outer s H vs Q E hr h=> ?_)
 · obtain ⟨d,r,es,rs,rfl,hd,hrr,nd,dis,le,lr,q⟩:=h
   rfl
 · obtain ⟨d,r,es,rs,rfl,hd,hrr,nd,dis,le,lr,q⟩:=h
   have hu:=W2 hr
   refine ⟨_,@c9 _ _ _ (@n0 _ _ _ _ _ _ _ _ PassesOwn.never rfl (@ac3 _ _ _ _ _ _ _ _ B.enum (@c5 _ _ _ _ _ (pv 1) (@c6 _) (by rfl)) (by rfl) (by rfl)) (@R1 _ _ _ _ _ _ rfl (@x8 _ _ _ _ _ (@i8 _ _ (3) _ V8.nd rfl (Or.inl rfl) (by first|exact .inl rfl|exact .inr rfl|assumption)) (@x8 _ _ _ _ _ (@i8 _ _ (4) _ V8.nd rfl (Or.inl rfl) (by first|exact .inl rfl|exact .inr rfl|assumption)) (@N8 _) (by rfl)) (by rfl)) (by rfl) (by rfl)) (@c9 _ _ _ (@aw4 _ _ _ _ _ _ _ _ _ hu (pv 0) (pv 4) (@E3 _ _ _ _ _ _ _ E9 (pv 1) (@i9 _ _ _ _ _ _ _ _ x9 (@i9 _ _ _ _ _ _ _ _ B5 (pv 3) (pv 2)) (@w4 _ _ _ _ _ B.len (@c5 _ _ _ _ _ (pv 1) (@c6 _) (by rfl)) (by rfl) (by rfl))) (fun _ _=>rfl)) rfl)) (by intro _;rfl)),?_⟩
   have nrd:r≠d:=fun z=>by rw[z,hd] at hrr;cases hrr
   refine ⟨_,rfl,r,rfl,⟨_,h8.of hrr⟩,X7 (K:=K) (a:=r) (xs:=rs.map V.int) (fun i σ H2=>∃(v3 v4:Option V),σ=[some (.ref d),some (.ref r),some (.int 1),v3,v4]∧H2 d=some (.dK (K2 (es++(C0 rs).take i)))∧j5 d H H2)
     ⟨none,none,rfl,by rw[do3,dh7];exact hd,j5.refl _ _⟩ (fun i σ H2 _ ⟨_,_,_,_,k⟩=>h8.of (k _ _ hrr nrd)) ?_ ?_⟩
   · rintro i y σ H2 tt hi ⟨v3,v4,rfl,h2d,kb⟩ htt
     obtain ⟨z,hz,rfl⟩:=G7 hi
     have hil:i < rs.length:=(df1.mp hz).1
     have h2r:=kb r _ hrr nrd
     have s3:e8 H2 (e7 H2 tt (.tup [.int (i:Int),.int z])):=e8.upd_new htt
     have h3t:(e7 H2 tt (.tup [.int (i:Int),.int z])) tt=some (.tup [.int (i:Int),.int z]):=c8
     generalize (e7 H2 tt (.tup [.int (i:Int),.int z]))=H3 at s3 h3t ⊢
     refine ⟨tt,_,rfl,E6.of h3t,rfl,_,_,rfl,_,_,rfl,rfl,?_⟩
     have h3r:=s3 _ _ h2r
     have em:((i:Int)+1)%(rs.length:Int)=(((i+1)%rs.length:Nat):Int):=by rw[dm3];rfl
     have ml:(i+1)%rs.length < rs.length:=dm6 _ (by omega)
     refine ⟨_,rfl,_,rfl,_,rfl,_,_,rfl,rfl,_,rfl,r,_,rfl,.inl (h8.of h3r),_,_,rfl,rfl,by rw[de9];omega,r,_,_,_,rfl,rfl,h8.of h3r,(show atI _ _=some (.int (rs.getD ((i+1)%rs.length) 0)) from ?_),?_⟩
     · rw[de9,em]
       refine B6 ?_
       rw[df3,df0 ml,df5,df0 ml]
       rfl
     have lse:(C0 rs).length=rs.length:=by unfold C0;rw[de9,di2]
     have hse:(C0 rs)[i]? =some (z,rs.getD ((i+1)%rs.length) 0):=by
       unfold C0
       rw[df3,dj7 hil]
       show some (rs.getD i 0,rs.getD ((i+1)%rs.length) 0)=_
       rw[show rs.getD i 0=z by rw[df5,hz];rfl]
     have nz:z∉(es++(C0 rs).take i).map (·.1):=by
       rw[df8]
       intro hz2
       rcases dg2.mp hz2 with w|w
       · exact dis z (dg1 hz) w
       · obtain ⟨e,he,ee⟩:=df9.mp w
         obtain ⟨j,hj⟩:=dh8.mp he
         rw[dt8] at hj
         by_cases c:j < i
         · rw[if_pos c] at hj
           unfold C0 at hj
           rw[df3,dj7 (by omega)] at hj
           cases hj
           have e2:rs[j]? =some z:=by
             rw[df0 (by omega)]
             have ee:rs.getD j 0=z:=ee
             rw[df5,df0 (by omega)] at ee
             exact congrArg some ee
           have:=O1 nd (i:=j) (j:=i) (by omega) hil (by omega)
           rw[df5,df5,e2,hz] at this
           exact this rfl
         · rw[if_neg c] at hj;cases hj
     have lk:(K2 (es++(C0 rs).take i)).length≤900:=by
       unfold K2
       rw[de9,df7,dg7,lse]
       omega
     refine ⟨_,rfl,_,rfl,d,_,rfl,an4.k (k:=Sum.inl z) (s3 _ _ h2d) (p8 (by omega)),?_⟩
     rw[co7 nz]
     refine ⟨_,_,rfl,?_,(kb.trans (s3.but d)).upd_a⟩
     rw[c8,j6 hse,←dh4]
   · rintro σ H2 ⟨v3,v4,rfl,h2d,kb⟩
     have lse:(C0 rs).length=rs.length:=by unfold C0;rw[de9,di2]
     rw[de9,←lse,dh9] at h2d
     exact q H2 h2d kb
end
end My
namespace My
open PySem L2 Mth
section
theorem bl2 (r:List Int)(b:Nat):(r.drop b++r.take b).Perm r:=dm4.trans (by rw[dk5])
theorem bc2 {rs:List (List Int)}:∀(i:Nat) {y:List Int×List (List Int)},i≤rs.length→y∈C3 rs i→(y.1++y.2.flatten).Perm rs.flatten∧y.2.length+1=rs.length∧∃r∈rs,y.1.Perm r
 |0,y,_,h=>by cases h
 |i+1,y,hi,h=>by
  rcases dg2.mp h with z|z
  · exact bc2 i (by omega) z
  · obtain ⟨b,_,rfl⟩:=df9.mp z
    have il:i < rs.length:=by omega
    have eg:rs.getD i []=rs[i]:=by rw[df5,df0 il];rfl
    refine ⟨?_,?_,rs[i],di5 _,?_⟩
    · show (((rs.getD i []).drop b++(rs.getD i []).take b)++(rs.take i++rs.drop (i+1)).flatten).Perm rs.flatten
      have e:rs.flatten=(rs.take i).flatten++(rs[i]++(rs.drop (i+1)).flatten):=by
        rw[←dh1,←di7,←dl6 il,dk5]
      rw[e,eg,di7]
      refine ((bl2 _ b).append_right _).trans ?_
      rw[←dh4,←dh4]
      exact dm4.append_right _
    · show (rs.take i++rs.drop (i+1)).length+1=_
      rw[df7,dg7,di0]
      omega
    · show ((rs.getD i []).drop b++(rs.getD i []).take b).Perm _
      rw[eg]
      exact bl2 _ b
structure co8 (l:Nat)(rs:List (List Int))(k:Nat)(x:List (List Int)×List (List Int)):Prop where
 perm:(x.1.flatten++x.2.flatten).Perm rs.flatten
 len:x.1.length=k+1
 left:x.2.length+(k+1)=rs.length
 rows:∀r∈x.1,r.length=l
 rows2:∀r∈x.2,r∈rs
theorem C5 {l:Nat}{rs:List (List Int)}(hl:∀r∈rs,r.length=l):∀(k:Nat) {x:List (List Int)×List (List Int)},k < rs.length→x∈p9 rs k→co8 l rs k x
 |0,x,hk,h=>by
  rw[dg3.mp h]
  cases rs with
  |nil=>simp at hk
  |cons r rs=>
   refine ⟨?_,rfl,rfl,fun r' hr=> ?_,fun r' hr=>df6 _ hr⟩
   · show ([r].flatten++rs.flatten).Perm (r::rs).flatten
     simp
   · rw[dg3.mp hr];exact hl r df4
 |k+1,x,hk,h=>by
  obtain ⟨x',h',z⟩:=dl5.mp h
  obtain ⟨y,hy,rfl⟩:=df9.mp z
  have o:=C5 hl k (by omega) h'
  obtain ⟨p1,p2,r,hr,p3⟩:=bc2 _ (df2 _) hy
  refine ⟨?_,?_,?_,fun r' hr'=> ?_,fun r' hr'=>o.rows2 r' ((ap1 _ hy).2 r' hr')⟩
  · show ((x'.1++[y.1]).flatten++y.2.flatten).Perm _
    rw[di7,dl8,dh4]
    exact (p1.append_left _).trans o.perm
  · show (x'.1++[y.1]).length=_
    rw[df7,o.len];rfl
  · show y.2.length+(k+1+1)=_
    have:=o.left
    omega
  · rcases dg2.mp hr' with w|w
    · exact o.rows r' w
    · rw[dg3.mp w,p3.length_eq]
      exact hl r (o.rows2 r hr)
theorem bc3 {l:Nat}{rs:List (List Int)}(hl:∀r∈rs,r.length=l):∀i,i≤rs.length→(C3 rs i).length=i*l
 |0,_=>by rw[dr4];rfl
 |i+1,hi=>by
  show (C3 rs i++U4 rs i (rs.getD i [])).length=_
  rw[df7,bc3 hl i (by omega)]
  unfold U4
  rw[de9,di2,df5,df0 (show i < rs.length by omega)]
  show i*l+(rs[i]).length=_
  rw[hl _ (di5 _),Nat.add_mul,dz0]
theorem Y8 {α β:Type}{f:α→List β}{c:Nat}:∀{xs:List α},(∀x∈xs,(f x).length=c)→(xs.flatMap f).length=xs.length*c
 |[],_=>by rw[dv6,dr4];rfl
 |x::xs,h=>by
  rw[dk9,df7,h x df4,Y8 fun y hy=>h y (df6 _ hy),dk0,Nat.add_mul,dz0,dn0]
theorem ag0 {l:Nat}{rs:List (List Int)}(hl:∀r∈rs,r.length=l):∀k,k < rs.length→(p9 rs k).length=q9 rs.length l k
 |0,_=>rfl
 |k+1,hk=>by
  show ((p9 rs k).flatMap nxC).length=q9 rs.length l k*(rs.length - (k+1))*l
  rw[Y8 (c:=(rs.length - (k+1))*l) fun x hx=> ?_,ag0 hl k (by omega),dm5]
  have o:=C5 hl k (by omega) hx
  unfold nxC
  rw[de9,bc3 (fun r hr=>hl r (o.rows2 r hr)) _ (df2 _)]
  have:=o.left
  rw[show x.2.length=rs.length - (k+1) by omega]
open Classical in
noncomputable def A8 (l m:Nat)(Rs:List (List Int)):List Int:=if h:∃J,B9 l (m/Rs.length) Rs J then Classical.choose h else []
theorem ap2 {l m k:Nat}{Rs:List (List Int)}{J:List Int}(l0:0 < l)(r0:1≤Rs.length)(em:m=Rs.length*k)(c:dg6 l k=1)(h:B9 l k Rs J):A8 l m Rs=J:=by
 have ek:m/Rs.length=k:=by rw[em];exact dm0 k r0
 have ex:∃J,B9 l (m/Rs.length) Rs J:=⟨J,by rw[ek];exact h⟩
 unfold A8
 rw[dif_pos ex]
 exact B9.uniq l0 (by rw[ek];exact c) (Classical.choose_spec ex) (by rw[ek];exact h)
noncomputable def L4 (l m:Nat)(w:List (List (List Int))):List (Int×Int):=w.flatMap fun c=>C0 (A8 l m c)
theorem bl3 (l m:Nat)(w:List (List (List Int)))(c:List (List Int)):L4 l m (w++[c])=L4 l m w++C0 (A8 l m c):=by
 unfold L4
 rw[dn8,dk9,dp5,dh7]
def O7 (f:List (List Int)→List (List (List (List Int))))(rs:List (List Int))(d:Nat):List (List (List (List Int))):=if d≤rs.length then (p9 rs (d - 1)).flatMap fun x=>(f x.2).map fun w=>w++[x.1] else []
def y9 (ds:List Nat):Nat→List (List Int)→List (List (List (List Int)))
 |0,_=>[[]]
 |f+1,rs=>if rs.length=0 then [[]] else ds.flatMap (O7 (y9 ds f) rs)
theorem ag1 (J:List Int):(C0 J).map (·.1)=J:=by
 unfold C0
 rw[dj4]
 refine dj1 fun i=> ?_
 rw[df3]
 by_cases h:i < J.length
 · rw[dj7 h,df0 h]
   show some (J.getD i 0)=_
   rw[df5,df0 h];rfl
 · rw[dg0 (by rw[di2];omega),dg0 (by omega)];rfl
def K3 (l m d:Nat):Prop:=1≤d∧dg6 (d*l) m=d
theorem K3.parts {l m d:Nat}(h:K3 l m d)(m1:1≤m):∃k,m=d*k∧dg6 l k=1:=by
 obtain ⟨d1,e⟩:=h
 have dm:d∣m:=by
   have:=dm9 (d*l) m
   rw[e] at this;exact this
 obtain ⟨k,rfl⟩:=dm
 refine ⟨k,rfl,?_⟩
 rw[dx7] at e
 have:d*dg6 l k=d*1:=by rw[e,dt4]
 exact dq2 d1 this
theorem ci4 {l m:Nat}{Rs:List (List Int)}(l0:0 < l)(m1:1≤m)(h:K3 l m Rs.length){J:List Int}{k:Nat}(ek:m=Rs.length*k)(j:B9 l k Rs J):A8 l m Rs=J∧J.Perm Rs.flatten:=by
 obtain ⟨k',e1,e2⟩:=h.parts m1
 have:k'=k:=dq2 h.1 (by rw[←e1,←ek])
 subst this
 exact ⟨ap2 l0 h.1 ek e2 j,j.perm l0 e2⟩
structure cz6 (l m:Nat)(ds:List Nat)(rs:List (List Int))(w:List (List (List Int))):Prop where
 perm:(w.map dt0).flatten.Perm rs.flatten
 right:∀c∈w,c.length∈ds∧∀r∈c,r.length=l
theorem au8 {l m:Nat}{ds:List Nat}(hd:∀d∈ds,1≤d):∀(f:Nat) {rs:List (List Int)} {w:List (List (List Int))},rs.length≤f→(∀r∈rs,r.length=l)→w∈y9 ds f rs→cz6 l m ds rs w
 |0,rs,w,hf,hl,h=>by
  have e:rs=[]:=dp0.mp (by omega)
  rw[dg3.mp h,e]
  exact ⟨List.Perm.refl _,fun c hc=>by cases hc⟩
 |f+1,rs,w,hf,hl,h=>by
  unfold y9 at h
  by_cases c:rs.length=0
  · rw[if_pos c] at h
    have e:rs=[]:=dp0.mp c
    rw[dg3.mp h,e]
    exact ⟨List.Perm.refl _,fun c hc=>by cases hc⟩
  · rw[if_neg c] at h
    obtain ⟨d,hdm,h⟩:=dl5.mp h
    unfold O7 at h
    by_cases c2:d≤rs.length
    · rw[if_pos c2] at h
      obtain ⟨x,hx,h⟩:=dl5.mp h
      obtain ⟨w',hw',rfl⟩:=df9.mp h
      have d1:=hd d hdm
      have o:=C5 hl (d - 1) (by omega) hx
      have i:=au8 (m:=m) hd f (rs:=x.2) (w:=w') (by have:=o.left;omega) (fun r hr=>hl r (o.rows2 r hr)) hw'
      refine ⟨?_,fun c hc=> ?_⟩
      · rw[df8,di7]
        show ((w'.map dt0).flatten++[x.1.flatten].flatten).Perm _
        rw[dl8]
        exact (dm4.trans (i.perm.append_left _)).trans o.perm
      · rcases dg2.mp hc with z|z
        · exact i.right c z
        · rw[dg3.mp z]
          exact ⟨by rw[o.len,dp8 d1];exact hdm,o.rows⟩
    · rw[if_neg c2] at h;cases h
end
end My
namespace My
open PySem L2 Mth
section
variable {P:Program} {w:World} {K:PySem.W.Frag} {mg:Str→Option Value} {base:Heap}
def Few (ds:List Nat):Nat→List (List Int)→Prop
 |0,_=>True
 |f+1,rs=>(∀d∈ds,d≤rs.length→(∀k,k < d→(p9 rs k).length≤2000)∧∀x∈p9 rs (d - 1),Few ds f x.2)∧(y9 ds (f+1) rs).length≤2000
def al6 (l m:Nat)(H:Hp)(u:Addr)(w:List (List (List Int))):Prop:=H u=some (.dK (K2 (L4 l m w)))
def aj5 (f:Nat):Sp:=fun vs H Q _=>∃(l:Addr) (as:List Addr) (rs:List (List Int)) (ra:Addr) (ds:List Nat) (len m:Nat),vs=[.ref l,.ref ra,.int (m:Int)]∧H l=some (.lst (as.map V.ref))∧l8 H as rs∧H ra=some (.lst ((G2 ds).map V.int))∧rs.length≤f∧(∀r∈rs,r.length=len)∧0 < len∧rs.length*len≤40∧rs.flatten.Nodup∧1≤m∧(∀d∈ds,K3 len m d)∧Few ds f rs∧
 ∀(o:Addr) (us:List Addr) (H':Hp),H o=none→e8 H H'→H' o=some (.lst (us.map V.ref))→us.Nodup→(∀u∈us,H u=none)→C9 (al6 len m H') us (y9 ds f rs)→Q (.ref o) H'
theorem N6 {l:Nat}{rs:List (List Int)}(h:∀r∈rs,r.length=l):rs.flatten.length=rs.length*l:=by
 rw[show rs.flatten=rs.flatMap id by rw[List.flatMap_id]]
 exact Y8 h
theorem bc4 {l m:Nat}{c:List (List Int)}(l0:0 < l)(m1:1≤m)(h:K3 l m c.length):(∀x∈A8 l m c,x∈c.flatten)∧(A8 l m c).length≤c.flatten.length:=by
 unfold A8
 by_cases ex:∃J,B9 l (m/c.length) c J
 · rw[dif_pos ex]
   obtain ⟨k,e1,e2⟩:=h.parts m1
   have ek:m/c.length=k:=by rw[e1];exact dm0 k h.1
   have pm:=(Classical.choose_spec ex).perm l0 (by rw[ek];exact e2)
   exact ⟨fun x hx=>pm.mem_iff.mp hx,ds8 pm.length_eq⟩
 · rw[dif_neg ex]
   exact ⟨(fun x hx=>by cases hx),dh2 _⟩
theorem Y9 {l m:Nat}(l0:0 < l)(m1:1≤m):∀(w:List (List (List Int))),(∀c∈w,K3 l m c.length)→(∀x∈(L4 l m w).map (·.1),x∈(w.map dt0).flatten)∧(L4 l m w).length≤(w.map dt0).flatten.length
 |[],_=>⟨(fun x hx=>by cases hx),df2 _⟩
 |c::w,h=>by
  obtain ⟨a,b⟩:=Y9 l0 m1 w fun c hc=>h c (df6 _ hc)
  obtain ⟨a2,b2⟩:=bc4 l0 m1 (h c df4)
  have e:L4 l m (c::w)=C0 (A8 l m c)++L4 l m w:=by unfold L4;rw[dk9]
  rw[e,dj0,dh1,df8,ag1,df7,df7]
  refine ⟨fun x hx=> ?_,?_⟩
  · rcases dg2.mp hx with z|z
    · exact dk4 _ (a2 x z)
    · exact dh6 _ (a x z)
  · have:(C0 (A8 l m c)).length=(A8 l m c).length:=by unfold C0;rw[de9,di2]
    omega
theorem ay8 {α β:Type}{f:α→List β}{xs:List α}{i:Nat}{x:α}(h:xs[i]? =some x):((xs.take i).flatMap f).length+(f x).length≤(xs.flatMap f).length:=by
 have jl:=(df1.mp h).1
 have e3:=(df1.mp h).2
 have ex:xs=xs.take i++x::xs.drop (i+1):=by rw[←e3,←dl6 jl,dk5]
 have e4:=congrArg (fun z=>(z.flatMap f).length) ex
 simp only[dn8,dk9,df7] at e4
 omega
theorem br3 {H:Hp}{e l:Addr}(he:H e=none)(hl:(e7 H e (.dK [])) l=none)(len m:Nat):H l=none∧e8 H (e7 (e7 H e (.dK [])) l (.lst [V.ref e]))∧C9 (al6 len m (e7 (e7 H e (.dK [])) l (.lst [V.ref e]))) [e] [[]]:=by
 have n:l≠e:=fun z=>by rw[z,c8] at hl;cases hl
 have hl0:H l=none:=by rw[g8 n] at hl;exact hl
 refine ⟨hl0,(e8.upd_new he).upd_r hl0,rfl,fun j t x e1 e2=> ?_⟩
 rcases j with _|j
 · cases e1;cases e2
   show (e7 (e7 H e (.dK [])) l (.lst [V.ref e])) e=_
   rw[g8 n.symm,c8];rfl
 · cases e1
theorem o6:l5 ["rings","right","m","ways","part","chain","left","joined","way"] ["rings","right","m"] (i7 O5):=⟨rfl,rfl,rfl,by decide+kernel,rfl,by decide+kernel,by decide+kernel⟩
theorem au9 {f:Addr}{fd:FuncData}(F:A4 K "ways_to_join" "ways_to_join" O5 f fd)(B:Bl mg)(c_chains_of:j9 P w K mg base "chains_of" 2 ["rings","part"] af9)(c_join_rings:j9 P w K mg base "join_rings" 1 ["rings","m"] aj0)(c_send_along:j9 P w K mg base "send_along" 1 ["target","ring","steps"] (bh5 ad1 al5)):o4 P w K mg base A2 3 f fd ["rings","right","m"] (aj5 0):=by
 refine F.ok o6 (fun vs H Q E h=> ?_) (fun cdv A outer s H vs Q E hr h=> ?_)
 · obtain ⟨l,as,rs,ra,ds,len,m,rfl,hl,rows,hra,lf,hlen,len0,l40,nd,m1,rt,few,q⟩:=h
   rfl
 · obtain ⟨l,as,rs,ra,ds,len,m,rfl,hl,rows,hra,lf,hlen,len0,l40,nd,m1,rt,few,q⟩:=h
   have hr_chains_of:m9 2 _:=hr.mono (by decide)
   have hr_join_rings:m9 1 _:=hr.mono (by decide)
   have hr_send_along:m9 1 _:=hr.mono (by decide)
   refine ⟨_,@c7 _ _ _ _ _ (@v9 _ _ _ _ _ _ _ _ (@n5 _ _ _ _ _ _ _ _ T7 (@w4 _ _ _ _ _ B.len (@c5 _ _ _ _ _ (pv 0) (@c6 _) (by rfl)) (by rfl) (by rfl)) (@h7 _ _ _ _) (o3 _)) (@c9 _ _ _ (@k7 _ _ _ _ (@r6 _ _ _ _ (@c5 _ _ _ _ _ (@X4 _ _) (@c6 _) (by rfl))))) (@o7 _)) (@c7 _ _ _ _ _ (@i4 _ _ (3) _ _ _ _ o6.nd rfl (Or.inl rfl) (@r6 _ _ _ _ (@c6 _)) (by rfl) (by first|exact .inl rfl|exact .inr rfl|assumption)) (@c7 _ _ _ _ _ (@n0 _ _ _ _ _ _ _ _ PassesOwn.never rfl (@t7 _ _ _ _ (pv 1)) (@i8 _ _ (4) _ o6.nd rfl (Or.inl rfl) (by first|exact .inl rfl|exact .inr rfl|assumption)) (@c9 _ _ _ (@v9 _ _ _ _ _ _ _ _ (@n5 _ _ _ _ _ _ _ _ bs7 (pv 4) (@w4 _ _ _ _ _ B.len (@c5 _ _ _ _ _ (pv 0) (@c6 _) (by rfl)) (by rfl) (by rfl)) (o3 _)) (@c9 _ _ _ (@n0 _ _ _ _ _ _ _ _ PassesOwn.never rfl (@t7 _ _ _ _ (@i6 _ _ _ _ _ _ _ _ _ _ c_chains_of hr_chains_of (@c5 _ _ _ _ _ (pv 0) (@c5 _ _ _ _ _ (pv 4) (@c6 _) (by rfl)) (by rfl)) (by rfl) (by decide) (by rfl) (by rfl))) (@R1 _ _ _ _ _ _ rfl (@x8 _ _ _ _ _ (@i8 _ _ (5) _ o6.nd rfl (Or.inl rfl) (by first|exact .inl rfl|exact .inr rfl|assumption)) (@x8 _ _ _ _ _ (@i8 _ _ (6) _ o6.nd rfl (Or.inl rfl) (by first|exact .inl rfl|exact .inr rfl|assumption)) (@N8 _) (by rfl)) (by rfl)) (by rfl) (by rfl)) (@c7 _ _ _ _ _ (@i4 _ _ (7) _ _ _ _ o6.nd rfl (Or.inl rfl) (@i6 _ _ _ _ _ _ _ _ _ _ c_join_rings hr_join_rings (@c5 _ _ _ _ _ (pv 5) (@c5 _ _ _ _ _ (pv 2) (@c6 _) (by rfl)) (by rfl)) (by rfl) (by decide) (by rfl) (by rfl)) (by rfl) (by first|exact .inl rfl|exact .inr rfl|assumption)) (@c9 _ _ _ (@n0 _ _ _ _ _ _ _ _ PassesOwn.never rfl (@t7 _ _ _ _ (@cg4 _ _)) (@i8 _ _ (8) _ o6.nd rfl (Or.inl rfl) (by first|exact .inl rfl|exact .inr rfl|assumption)) (@c7 _ _ _ _ _ (@q5 _ _ _ _ (@i6 _ _ _ _ _ _ _ _ _ _ c_send_along hr_send_along (@c5 _ _ _ _ _ (pv 8) (@c5 _ _ _ _ _ (pv 7) (@c5 _ _ _ _ _ (@h7 _ _ _ _) (@c6 _) (by rfl)) (by rfl)) (by rfl)) (by rfl) (by decide) (by rfl) (by rfl)) (by rfl)) (@c9 _ _ _ (@q5 _ _ _ _ (@C6 _ _ _ _ _ _ _ (pv 3) (@c5 _ _ _ _ _ (pv 8) (@c6 _) (by rfl)) (by rfl) (by rfl) (by rfl) (by rfl) (by rfl)) (by rfl)))) (by intro _;rfl)))) (by intro _;rfl))) (@o7 _))) (by intro _;rfl)) (@c9 _ _ _ (@k7 _ _ _ _ (pv 3))))),?_⟩
   refine ⟨_,rfl,l,_,rfl,.inl (h8.of hl),rfl,_,rfl,?_⟩
   rw[de9,rows.1,show rs.length=0 by omega]
   refine P8 (fun _=> ?_) (fun h=>absurd (decide_eq_true rfl) h)
   refine fun e he=>⟨(show 1≤sizeLine by decide),fun o ho=> ?_⟩
   obtain ⟨a1,a2,a3⟩:=br3 he ho len m
   exact q o [e] _ a1 a2 c8 (by simp) (fun b hb=>by rw[dg3.mp hb];exact he) a3
theorem g7 {d k:Nat}{f:Addr}{fd:FuncData}(F:A4 K "ways_to_join" "ways_to_join" O5 f fd)(B:Bl mg)(c_chains_of:j9 P w K mg base "chains_of" 2 ["rings","part"] af9)(c_join_rings:j9 P w K mg base "join_rings" 1 ["rings","m"] aj0)(c_ways_to_join:j9 P w K mg base "ways_to_join" (k+3) ["rings","right","m"] (aj5 d))(c_send_along:j9 P w K mg base "send_along" 1 ["target","ring","steps"] (bh5 ad1 al5)):o4 P w K mg base A2 (k+3+1) f fd ["rings","right","m"] (aj5 (d+1)):=by
 refine F.ok o6 (fun vs H Q E h=> ?_) (fun cdv A outer s H vs Q E hr h=> ?_)
 · obtain ⟨l,as,rs,ra,ds,len,m,rfl,hl,rows,hra,lf,hlen,len0,l40,nd,m1,rt,few,q⟩:=h
   rfl
 · obtain ⟨l,as,rs,ra,ds,len,m,rfl,hl,rows,hra,lf,hlen,len0,l40,nd,m1,rt,few,q⟩:=h
   have hr_chains_of:m9 2 _:=hr.mono (by omega)
   have hr_join_rings:m9 1 _:=hr.mono (by omega)
   have hr_ways_to_join:m9 (k+3) _:=hr.mono (by omega)
   have hr_send_along:m9 1 _:=hr.mono (by omega)
   refine ⟨_,@c7 _ _ _ _ _ (@v9 _ _ _ _ _ _ _ _ (@n5 _ _ _ _ _ _ _ _ T7 (@w4 _ _ _ _ _ B.len (@c5 _ _ _ _ _ (pv 0) (@c6 _) (by rfl)) (by rfl) (by rfl)) (@h7 _ _ _ _) (o3 _)) (@c9 _ _ _ (@k7 _ _ _ _ (@r6 _ _ _ _ (@c5 _ _ _ _ _ (@X4 _ _) (@c6 _) (by rfl))))) (@o7 _)) (@c7 _ _ _ _ _ (@i4 _ _ (3) _ _ _ _ o6.nd rfl (Or.inl rfl) (@r6 _ _ _ _ (@c6 _)) (by rfl) (by first|exact .inl rfl|exact .inr rfl|assumption)) (@c7 _ _ _ _ _ (@n0 _ _ _ _ _ _ _ _ PassesOwn.never rfl (@t7 _ _ _ _ (pv 1)) (@i8 _ _ (4) _ o6.nd rfl (Or.inl rfl) (by first|exact .inl rfl|exact .inr rfl|assumption)) (@c9 _ _ _ (@v9 _ _ _ _ _ _ _ _ (@n5 _ _ _ _ _ _ _ _ bs7 (pv 4) (@w4 _ _ _ _ _ B.len (@c5 _ _ _ _ _ (pv 0) (@c6 _) (by rfl)) (by rfl) (by rfl)) (o3 _)) (@c9 _ _ _ (@n0 _ _ _ _ _ _ _ _ PassesOwn.never rfl (@t7 _ _ _ _ (@i6 _ _ _ _ _ _ _ _ _ _ c_chains_of hr_chains_of (@c5 _ _ _ _ _ (pv 0) (@c5 _ _ _ _ _ (pv 4) (@c6 _) (by rfl)) (by rfl)) (by rfl) (by decide) (by rfl) (by rfl))) (@R1 _ _ _ _ _ _ rfl (@x8 _ _ _ _ _ (@i8 _ _ (5) _ o6.nd rfl (Or.inl rfl) (by first|exact .inl rfl|exact .inr rfl|assumption)) (@x8 _ _ _ _ _ (@i8 _ _ (6) _ o6.nd rfl (Or.inl rfl) (by first|exact .inl rfl|exact .inr rfl|assumption)) (@N8 _) (by rfl)) (by rfl)) (by rfl) (by rfl)) (@c7 _ _ _ _ _ (@i4 _ _ (7) _ _ _ _ o6.nd rfl (Or.inl rfl) (@i6 _ _ _ _ _ _ _ _ _ _ c_join_rings hr_join_rings (@c5 _ _ _ _ _ (pv 5) (@c5 _ _ _ _ _ (pv 2) (@c6 _) (by rfl)) (by rfl)) (by rfl) (by decide) (by rfl) (by rfl)) (by rfl) (by first|exact .inl rfl|exact .inr rfl|assumption)) (@c9 _ _ _ (@n0 _ _ _ _ _ _ _ _ PassesOwn.never rfl (@t7 _ _ _ _ (@i6 _ _ _ _ _ _ _ _ _ _ c_ways_to_join hr_ways_to_join (@c5 _ _ _ _ _ (pv 6) (@c5 _ _ _ _ _ (pv 1) (@c5 _ _ _ _ _ (pv 2) (@c6 _) (by rfl)) (by rfl)) (by rfl)) (by rfl) (by decide) (by rfl) (by rfl))) (@i8 _ _ (8) _ o6.nd rfl (Or.inl rfl) (by first|exact .inl rfl|exact .inr rfl|assumption)) (@c7 _ _ _ _ _ (@q5 _ _ _ _ (@i6 _ _ _ _ _ _ _ _ _ _ c_send_along hr_send_along (@c5 _ _ _ _ _ (pv 8) (@c5 _ _ _ _ _ (pv 7) (@c5 _ _ _ _ _ (@h7 _ _ _ _) (@c6 _) (by rfl)) (by rfl)) (by rfl)) (by rfl) (by decide) (by rfl) (by rfl)) (by rfl)) (@c9 _ _ _ (@q5 _ _ _ _ (@C6 _ _ _ _ _ _ _ (pv 3) (@c5 _ _ _ _ _ (pv 8) (@c6 _) (by rfl)) (by rfl) (by rfl) (by rfl) (by rfl) (by rfl)) (by rfl)))) (by intro _;rfl)))) (by intro _;rfl))) (@o7 _))) (by intro _;rfl)) (@c9 _ _ _ (@k7 _ _ _ _ (pv 3))))),?_⟩
   refine ⟨_,rfl,l,_,rfl,.inl (h8.of hl),rfl,_,rfl,?_⟩
   rw[de9,rows.1]
   by_cases c0:rs.length=0
   · rw[c0]
     refine P8 (fun _=> ?_) (fun h=>absurd (decide_eq_true rfl) h)
     refine fun e he=>⟨(show 1≤sizeLine by decide),fun o ho=> ?_⟩
     obtain ⟨a1,a2,a3⟩:=br3 he ho len m
     refine q o [e] _ a1 a2 c8 (by simp) (fun b hb=>by rw[dg3.mp hb];exact he) ?_
     unfold y9
     rw[if_pos c0]
     exact a3
   rw[decide_eq_false (fun z=>c0 (by have:=V.int.inj z;omega))]
   refine E7 ?_
   refine ⟨dh2 _,fun W hW=> ?_⟩
   have s1:e8 H (e7 H W (.lst [])):=e8.upd_new hW
   have h1W:(e7 H W (.lst [])) W=some (.lst (([]:List Addr).map V.ref)):=c8
   generalize (e7 H W (.lst []))=H1 at s1 h1W ⊢
   have nlW:l≠W:=g6 hl hW
   have nrW:ra≠W:=g6 hra hW
   have ewf:y9 ds (d+1) rs=ds.flatMap (O7 (y9 ds d) rs):=by
     show (if rs.length=0 then _ else _)=_
     rw[if_neg c0]
   obtain ⟨few1,few2⟩:=few
   rw[ewf] at few2
   have dsv:∀{i:Nat} {y:V},((G2 ds).map V.int)[i]? =some y→∃dd:Nat,ds[i]? =some dd∧y= .int (dd:Int):=fun {i y} h=>by
     unfold G2 at h
     rw[df3,df3] at h
     cases e:ds[i]? with
     |none=>rw[e] at h;cases h
     |some a=>rw[e] at h;cases h;exact ⟨a,rfl,rfl⟩
   refine ⟨_,rfl,ra,rfl,⟨_,h8.of (s1 _ _ hra)⟩,A3 (K:=K) (a:=ra) (xs:=(G2 ds).map V.int) (fun i σ H2=>∃(us:List Addr) (v4 v5 v6 v7 v8:Option V),σ=[some (.ref l),some (.ref ra),some (.int (m:Int)),some (.ref W),v4,v5,v6,v7,v8]∧H2 W=some (.lst (us.map V.ref))∧us.Nodup∧(∀u∈us,H u=none)∧C9 (al6 len m H2) us ((ds.take i).flatMap (O7 (y9 ds d) rs))∧e8 H H2)
     ⟨[],none,none,none,none,none,rfl,h1W,dn1,(fun u hu=>by cases hu),C9.nil,s1⟩ (fun i σ H2 _ ⟨_,_,_,_,_,_,_,_,_,_,_,k⟩=>h8.of (k _ _ hra)) ?_ ?_⟩
   · rintro i y σ H2 hi ⟨us0,v4,v5,v6,v7,v8,rfl,h2W,und0,ufr0,atu0,s02⟩
     obtain ⟨dd,hdd,rfl⟩:=dsv hi
     have ddm:=dg1 hdd
     have rdd:=rt dd ddm
     refine ⟨_,rfl,_,rfl,l,_,rfl,.inl (h8.of (s02 _ _ hl)),_,_,rfl,rfl,_,rfl,?_⟩
     rw[de9,rows.1]
     rw[j6 hdd,dn8,dk9,dp5,dh7]
     by_cases cd:dd≤rs.length
     · rw[decide_eq_true (show (dd:Int)≤(rs.length:Int) by omega)]
       have ewp:O7 (y9 ds d) rs dd=(p9 rs (dd - 1)).flatMap fun x=>(y9 ds d x.2).map fun w=>w++[x.1]:=if_pos cd
       have tot:=ay8 (f:=O7 (y9 ds d) rs) hdd
       rw[ewp] at tot ⊢
       obtain ⟨fewc,fewx⟩:=few1 dd ddm cd
       have r40:rs.length≤40:=dg5 (dj2 _ len0) l40
       have row40:∀r∈rs,r.length≤40:=fun r hr=>by
         rw[hlen r hr]
         exact dg5 (dr9 _ (by omega)) l40
       obtain ⟨kk,emk,gk⟩:=rdd.parts m1
       refine O8 ⟨_,rfl,_,rfl,l,as,rs,[W],dd,rfl,s02 _ _ hl,fun z=>nlW (dg3.mp z),t5 rows fun b _ u e=>by rw[J2 fun z=>(g6 e hW) (dg3.mp z)];exact s02 _ _ e,fun z hz=>by rw[dg3.mp hz];exact ⟨_,h2W⟩,by omega,r40,row40,rdd.1,by omega,fewc,fun F ts H3 hF s3 h3F atc=> ?_⟩
       have nFW:F≠W:=(g6 h2W hF).symm
       refine ⟨F,rfl,⟨_,h8.of h3F⟩,A3 (K:=K) (a:=F) (xs:=ts.map V.ref) (fun j σ H4=>∃(us:List Addr) (v5 v6 v7 v8:Option V),σ=[some (.ref l),some (.ref ra),some (.int (m:Int)),some (.ref W),some (.int (dd:Int)),v5,v6,v7,v8]∧H4 W=some (.lst (us.map V.ref))∧us.Nodup∧(∀u∈us,H u=none)∧C9 (al6 len m H4) us ((ds.take i).flatMap (O7 (y9 ds d) rs)++((p9 rs (dd - 1)).take j).flatMap fun x=>(y9 ds d x.2).map fun w=>w++[x.1])∧j5 W H3 H4)
         ⟨us0,v5,v6,v7,v8,rfl,s3 _ _ h2W,und0,ufr0,by rw[do3,dp5,dh7];exact atu0.imp fun u w _ h=>s3 _ _ h,j5.refl _ _⟩ (fun j σ H4 _ ⟨_,_,_,_,_,_,_,_,_,_,k⟩=>h8.of (k _ _ h3F nFW)) ?_ ?_⟩
       · rintro j y σ H4 hj ⟨us,v5,v6,v7,v8,rfl,h4W,und,ufr,atu,kb4⟩
         obtain ⟨t,ht,rfl⟩:∃t,ts[j]? =some t∧y=V.ref t:=by
           rw[df3] at hj
           cases e:ts[j]? with
           |none=>rw[e] at hj;cases hj
           |some a=>rw[e] at hj;exact ⟨a,rfl,(Option.some.inj hj).symm⟩
         obtain ⟨x,hx,cx⟩:=atc.get ht
         obtain ⟨c,xl,cs,bs,g1,g2,g3,g4,g5⟩:=(cx.keep (Q3 df4 kb4)).keep (bk8 _ _)
         have xm:=dg1 hx
         have ok:=C5 hlen (dd - 1) (by have:=rdd.1;omega) xm
         have x1l:x.1.length=dd:=by rw[ok.len];have:=rdd.1;omega
         have fewr:=fewx x xm
         have s04:e8 H H4:=(s02.trans s3).kb kb4 hW
         refine ⟨t,_,rfl,E6.of g1,rfl,_,_,rfl,_,_,rfl,rfl,?_⟩
         refine ⟨_,rfl,_,rfl,c,cs,x.1,len,kk,by rw[x1l,←emk];rfl,g2,g3,by have:=rdd.1;omega,ok.rows,len0,by rw[x1l];exact dg5 (dm1 _ cd) l40,gk,fun jo J H5 hjo s5 h5J jis=> ?_⟩
         obtain ⟨ej,pj⟩:=ci4 len0 m1 (by rw[x1l];exact rdd) (by rw[x1l];exact emk) jis
         have xnd:(x.1.flatten++x.2.flatten).Nodup:=ok.perm.nodup_iff.mpr nd
         rw[dk8] at xnd
         have rl2:∀r∈x.2,r.length=len:=fun r hr=>hlen r (ok.rows2 r hr)
         have x2l:x.2.length≤d∧x.2.length≤rs.length:=by have:=ok.left;have:=rdd.1;omega
         have x240:x.2.length*len≤40:=dg5 (dm1 _ x2l.2) l40
         refine ⟨_,rfl,_,rfl,_,rfl,xl,bs,x.2,ra,ds,len,m,rfl,s5 _ _ g4,t5 g5 fun b _ u e=>s5 _ _ e,s5 _ _ (s04 _ _ hra),x2l.1,rl2,len0,x240,xnd.2.1,m1,rt,fewr,fun o vs H6 ho s6 h6o vnd vfr atv=> ?_⟩
         have n5W:=g6 h4W hjo
         have h5W:=s5 _ _ h4W
         have vno:∀u∈vs,H5 u=none:=vfr
         have jov:jo∉vs:=fun z=>by have:=vno jo z;rw[h5J] at this;cases this
         have Wv:W∉vs:=fun z=>by have:=vno W z;rw[h5W] at this;cases this
         have usv:∀u∈us,u∉vs:=fun u hu z=>by
           obtain ⟨jj,hjj⟩:=dh8.mp hu
           obtain ⟨w,_,hw⟩:=atu.get hjj
           have e:=vno u z
           rw[s5 _ _ hw] at e;cases e
         have ov:o∉vs:=fun z=>by
           obtain ⟨jj,hjj⟩:=dh8.mp z
           obtain ⟨w,_,hw⟩:=atv.get hjj
           have hw:H6 o=_:=hw
           rw[h6o] at hw;cases hw
         have noW:o≠W:=(g6 h5W ho).symm
         have jnd:J.Nodup:=pj.nodup_iff.mpr xnd.1
         have jl40:J.length≤40:=by
           rw[pj.length_eq,N6 ok.rows,x1l]
           exact dg5 (dm1 _ cd) l40
         have tot2:=ay8 (f:=fun x:List (List Int)×List (List Int)=>(y9 ds d x.2).map fun w=>w++[x.1]) hx
         rw[de9] at tot2
         have aul:=atu.1
         rw[df7] at aul
         have vl:=atv.1
         refine ⟨o,rfl,⟨_,h8.of h6o⟩,A3 (K:=K) (a:=o) (xs:=vs.map V.ref) (fun k σ H7=>∃(v8:Option V),σ=[some (.ref l),some (.ref ra),some (.int (m:Int)),some (.ref W),some (.int (dd:Int)),some (.ref c),some (.ref xl),some (.ref jo),v8]∧H7 W=some (.lst ((us++vs.take k).map V.ref))∧C9 (al6 len m H7) (us++vs.take k) (((ds.take i).flatMap (O7 (y9 ds d) rs)++((p9 rs (dd - 1)).take j).flatMap fun x=>(y9 ds d x.2).map fun w=>w++[x.1])++((y9 ds d x.2).take k).map fun w=>w++[x.1])∧(∀jj,k≤jj→∀u w,vs[jj]? =some u→(y9 ds d x.2)[jj]? =some w→al6 len m H7 u w)∧(∀a u,a≠W→a∉vs→H6 a=some u→H7 a=some u))
           ⟨v8,rfl,by rw[do3,dh7];exact s6 _ _ h5W,by rw[do3,do3,ds7,dh7,dh7];exact atu.imp fun u w _ h=>s6 _ _ (s5 _ _ h),fun jj _ u w e1 e2=>atv.2 jj u w e1 e2,fun a u _ _ e=>e⟩ (fun k σ H7 _ ⟨_,_,_,_,_,kk⟩=>h8.of (kk _ _ noW ov h6o)) ?_ ?_⟩
         · rintro k y σ H7 hk ⟨v8,rfl,h7W,at7,todo,keep7⟩
           obtain ⟨u,hu,rfl⟩:∃t,vs[k]? =some t∧y=V.ref t:=by
             rw[df3] at hk
             cases e:vs[k]? with
             |none=>rw[e] at hk;cases hk
             |some a=>rw[e] at hk;exact ⟨a,rfl,(Option.some.inj hk).symm⟩
           obtain ⟨w,hw,_⟩:=atv.get hu
           have h7u:H7 u=some (.dK (K2 (L4 len m w))):=todo k (df2 _) u w hu hw
           have um:=dg1 hu
           have nuW:u≠W:=fun z=>Wv (z▸um)
           have h7J:=keep7 jo _ n5W.symm jov (s6 _ _ h5J)
           have wok:=au8 (m:=m) (fun dd h=>(rt dd h).1) d x2l.1 rl2 (dg1 hw)
           obtain ⟨es1,es2⟩:=Y9 len0 m1 w fun c hc=>rt _ (wok.right c hc).1
           have es3:(L4 len m w).length≤40:=by
             refine dg5 es2 ?_
             rw[wok.perm.length_eq,N6 rl2];exact x240
           refine ⟨_,rfl,_,rfl,.inr ⟨u,jo,L4 len m w,J,rfl,h7u,h7J,jnd,fun z hz hz2=> ?_,by omega,by omega,fun H8 h8u kb8=> ?_⟩⟩
           · exact xnd.2.2 z (pj.mem_iff.mp hz) z (wok.perm.mem_iff.mp (es1 z hz2)) rfl
           have h8W:=kb8 _ _ h7W nuW.symm
           have ltk:(vs.take k).length≤vs.length:=List.length_take_le' _ _
           refine ⟨_,rfl,.inl ⟨rfl,_,h8.of h8W⟩,_,rfl,W,_,_,rfl,rfl,h8W,dj5 (show _≤2000 by rw[de9,df7];omega) (by decide),?_⟩
           rw[show (us++vs.take k).map V.ref++[V.ref u]=(us++vs.take (k+1)).map V.ref by rw[j6 hu,←dh4,df8 (l₂:=[u])];rfl]
           have un:∀t∈us++vs.take k,t≠u:=fun t ht z=>by
             subst z
             rcases dg2.mp ht with y|y
             · exact usv t y um
             · obtain ⟨jj,hjj⟩:=dh8.mp y
               rw[dt8] at hjj
               by_cases c:jj < k
               · rw[if_pos c] at hjj
                 have a1:=(df1.mp hjj).1
                 have a2:=(df1.mp hu).1
                 exact di3.mp (dh3.mp vnd) jj k a1 a2 c (by rw[(df1.mp hjj).2,(df1.mp hu).2])
               · rw[if_neg c] at hjj;cases hjj
           refine ⟨_,rfl,c8,?_,fun jj hjj u2 w2 e1 e2=> ?_,fun a v na nv e=> ?_⟩
           · have ea:us++vs.take (k+1)=(us++vs.take k)++[u]:=by rw[j6 hu,dh4]
             have eb:((y9 ds d x.2).take (k+1)).map (fun w=>w++[x.1])=((y9 ds d x.2).take k).map (fun w=>w++[x.1])++[w++[x.1]]:=by rw[j6 hw,df8];rfl
             rw[ea,eb,←dh4]
             refine C9.snoc (at7.imp fun t w2 ht h=> ?_) ?_
             · have h:H7 t=some (.dK (K2 (L4 len m w2))):=h
               show e7 H8 W _ t=_
               rw[g8 (show t≠W from fun z=>by rw[z,h7W] at h;cases h)]
               exact kb8 _ _ h (un t ht)
             · show e7 H8 W _ u=_
               rw[g8 nuW,h8u,bl3,ej]
           · have h:=todo jj (by omega) u2 w2 e1 e2
             have h:H7 u2=some (.dK (K2 (L4 len m w2))):=h
             show e7 H8 W _ u2=_
             rw[g8 (show u2≠W from fun z=>Wv (z▸dg1 e1))]
             refine kb8 _ _ h fun z=> ?_
             subst z
             have a1:=(df1.mp e1).1
             have a2:=(df1.mp hu).1
             exact di3.mp (dh3.mp vnd) k jj a2 a1 (by omega) (by rw[(df1.mp e1).2,(df1.mp hu).2])
           · rw[g8 na]
             exact kb8 _ _ (keep7 a v na nv e) fun z=>nv (z▸um)
         · rintro σ H7 ⟨v8,rfl,h7W,at7,todo,keep7⟩
           rw[de9,dh9] at h7W at7
           rw[vl,dh9] at at7
           refine ⟨us++vs,_,_,_,v8,rfl,h7W,?_,fun u hu=> ?_,?_,fun a u e na=> ?_⟩
           · rw[dk8]
             exact ⟨und,vnd,fun a ha b hb e=>usv a ha (e▸hb)⟩
           · rcases dg2.mp hu with z|z
             · exact ufr u z
             · exact (s04.trans s5).free (vno u z)
           · rw[j6 hx,dn8,dk9,dp5,dh7,←dh4]
             exact at7
           · have e5:=s5 _ _ (kb4 _ _ e na)
             exact keep7 a u na (fun z=>by have:=vno a z;rw[e5] at this;cases this) (s6 _ _ e5)
       · rintro σ H4 ⟨us,v5,v6,v7,v8,rfl,h4W,und,ufr,atu,kb4⟩
         rw[de9,atc.1,dh9] at atu
         exact ⟨us,_,_,_,_,_,rfl,h4W,und,ufr,atu,(s02.trans s3).kb kb4 hW⟩
     · rw[decide_eq_false (show ¬(dd:Int)≤(rs.length:Int) by omega)]
       have ewp:O7 (y9 ds d) rs dd=[]:=if_neg cd
       rw[ewp,dh7]
       exact E7 ⟨us0,_,_,_,_,_,rfl,h2W,und0,ufr0,atu0,s02⟩
   · rintro σ H2 ⟨us,v4,v5,v6,v7,v8,rfl,h2W,und,ufr,atu,s02⟩
     rw[show ((G2 ds).map V.int).length=ds.length by unfold G2;rw[de9,de9],dh9,←ewf] at atu
     exact ⟨_,rfl,q W us H2 hW s02 h2W und ufr atu⟩
end
end My
namespace My
open PySem L2 Mth PySem.Spec PyProof.Rows
section
variable {P:Program} {w:World} {K:PySem.W.Frag} {mg:Str→Option Value} {base:Heap}
def cv7 (td:TE):TI:=fun σ H R=>td σ H fun x H1=>∃d kvs,x= .ref d∧((H1 d=some (.dK kvs)∧∀o,R (Itd d o kvs) (e7 H1 d (.frz o (.dK kvs))))∨∃o,H1 d=some (.frz o (.dK kvs))∧R (Itd d o kvs) H1)
theorem ci5 {X:Cx}{tg l:Expr}{tl:TE}(hl:PE X l tl):PI X tg l (cv7 tl):=by
 intro pins s σ H R I h
 refine m7 (hl pins s σ H _ I h) fun v s1 ⟨x,H1,I1,r1,q1⟩=> ?_
 obtain ⟨d,kvs,e,q⟩:=q1
 subst e
 cases r1
 rcases q with ⟨hH,q⟩|⟨o,hH,q⟩
 · obtain ⟨_,hsm,vs,rel,o,es,ep,ho,hc,hdat,rr⟩:=(show q0 X.prog X.w H1 s1.heap d (.dK kvs) from I1.hok d _ hH)
   have hat:s1.heap.DictAt (t8 X.prog X.w) d vs ep:=⟨o,es,ho,hc,hdat,rr⟩
   have I2:=I1.freeze hH ho
   refine wpAny_pyIter_dict hsm hat ?_
   have hlen:kvs.length=vs.length:=rel.length
   refine ⟨s1.heap.objs.size,[s1.heap.objs.size],_,_,_,rfl,I2.kept (t':=s1.toks) fun b o e=>Heap.get?_push_of_some _ e,ai2 d _ o kvs es ep hdat,⟨_,Heap.get?_push_size _ rfl,rfl,by rw[hlen];rfl⟩,fun b hb=> ?_,q o⟩
   have e:b=s1.heap.objs.size:=by simpa using hb
   subst e
   exact I2.fpOk (df2 _) (I2.hok.fresh (df2 _))
 · obtain ⟨ho0,_,hsm,vs,rel,o',es,ep,ho,hc,hdat,rr⟩:=(show q0 X.prog X.w H1 s1.heap d (.frz o (.dK kvs)) from I1.hok d _ hH)
   have eo:o'=o:=by rw[ho0] at ho;exact (Option.some.inj ho).symm
   subst eo
   have hat:s1.heap.DictAt (t8 X.prog X.w) d vs ep:=⟨o',es,ho,hc,hdat,rr⟩
   refine wpAny_pyIter_dict hsm hat ?_
   have hlen:kvs.length=vs.length:=rel.length
   refine ⟨s1.heap.objs.size,[s1.heap.objs.size],_,_,_,rfl,I1.kept (t':=s1.toks) fun b o e=>Heap.get?_push_of_some _ e,ai2 d _ o' kvs es ep hdat,⟨_,Heap.get?_push_size _ rfl,rfl,by rw[hlen];rfl⟩,fun b hb=> ?_,q⟩
   have e:b=s1.heap.objs.size:=by simpa using hb
   subst e
   exact I1.fpOk (df2 _) (I1.hok.fresh (df2 _))
def p5 (t:List Int)(es:List (Int×Int)):List Int:=es.foldl (fun t e=>t.set e.1.toNat e.2) t
theorem ag2 (es:List (Int×Int)):∀t:List Int,(p5 t es).length=t.length:=by
 induction es with
 |nil=>intro t;rfl
 |cons e es ih=>intro t;show (p5 (t.set e.1.toNat e.2) es).length=_;rw[ih,dr6]
theorem bn6 (t:List Int)(es:List (Int×Int))(e:Int×Int):p5 t (es++[e])=(p5 t es).set e.1.toNat e.2:=by
 unfold p5
 rw[du1];rfl
def K9 (laid:List (List Int))(ways:List (List (Int×Int))):List (List Int):=laid.flatMap fun t=>ways.map (p5 t)
def L3 (p:List Int)(chs:List (List (List (Int×Int)))):List (List Int):=chs.foldl K9 [p]
theorem av0 (p:List Int)(chs:List (List (List (Int×Int))))(c:List (List (Int×Int))):L3 p (chs++[c])=K9 (L3 p chs) c:=by
 unfold L3
 rw[du1];rfl
theorem ci6 {n:Nat}{laid:List (List Int)}{ways:List (List (Int×Int))}(h:∀t∈laid,t.length=n):∀t∈K9 laid ways,t.length=n:=fun t ht=>by
 obtain ⟨t',h',z⟩:=dl5.mp ht
 obtain ⟨es,_,rfl⟩:=df9.mp z
 rw[ag2];exact h t' h'
theorem bc5 (p:List Int)(chs:List (List (List (Int×Int)))):∀t∈L3 p chs,t.length=p.length:=by
 have g:∀(chs:List (List (List (Int×Int)))) (laid:List (List Int)),(∀t∈laid,t.length=p.length)→∀t∈chs.foldl K9 laid,t.length=p.length:=fun chs=>by
   induction chs with
   |nil=>intro laid h;exact h
   |cons c chs ih=>intro laid h;exact ih _ (ci6 h)
 exact g chs [p] fun t ht=>by rw[dg3.mp ht]
def ag3 (H:Hp)(u:Addr)(es:List (Int×Int)):Prop:=H u=some (.dK (K2 es))∨∃o,H u=some (.frz o (.dK (K2 es)))
structure Kp (H H':Hp):Prop where
 nd:∀x u,H x=some u→(∀kvs,u≠.dK kvs)→H' x=some u
 tab:∀x es,ag3 H x es→ag3 H' x es
 fr:∀x,H' x=none→H x=none
theorem Kp.refl (H:Hp):Kp H H:=⟨fun _ _ e _=>e,fun _ _ e=>e,fun _ e=>e⟩
theorem Kp.of {H H':Hp}(s:e8 H H'):Kp H H':=⟨fun x u e _=>s _ _ e,fun x es e=>e.elim (fun e=> .inl (s _ _ e)) fun ⟨o,e⟩=> .inr ⟨o,s _ _ e⟩,fun x e=>s.free e⟩
theorem Kp.trans {H H' H'':Hp}(a:Kp H H')(b:Kp H' H''):Kp H H'':=⟨fun x u e n=>b.nd x u (a.nd x u e n) n,fun x es e=>b.tab x es (a.tab x es e),fun x e=>a.fr x (b.fr x e)⟩
theorem Kp.lst {H H':Hp}(k:Kp H H'){a:Addr}{xs:List V}(e:H a=some (.lst xs)):H' a=some (.lst xs):=k.nd a _ e (fun kvs z=>by cases z)
theorem Kp.rows {H H':Hp}(k:Kp H H'){as:List Addr}{rs:List (List Int)}(h:l8 H as rs):l8 H' as rs:=⟨h.1,fun j a r e1 e2=>k.lst (h.2 j a r e1 e2)⟩
theorem Kp.upd_r {H H':Hp}(k:Kp H H'){x:Addr}{o:HO}(n:H x=none):Kp H (e7 H' x o):=by
 have ne:∀a u,H a=some u→a≠x:=fun a u e z=>by rw[z,n] at e;cases e
 refine ⟨fun a u e h=>by rw[g8 (ne a u e)];exact k.nd a u e h,fun a es e=> ?_,fun a e=> ?_⟩
 · have nx:a≠x:=e.elim (fun e=>ne a _ e) fun ⟨_,e⟩=>ne a _ e
   unfold ag3
   rw[g8 nx]
   exact k.tab a es e
 · by_cases z:a=x
   · rw[z];exact n
   · rw[g8 z] at e;exact k.fr a e
theorem Kp.freeze {H:Hp}{u:Addr}{kvs:List (n6×V)}{o:Obj}(e:H u=some (.dK kvs)):Kp H (e7 H u (.frz o (.dK kvs))):=by
 refine ⟨fun a v h n=> ?_,fun a es h=> ?_,fun a h=> ?_⟩
 · rw[g8 fun z=>by rw[z,e] at h;cases h;exact n _ rfl];exact h
 · by_cases z:a=u
   · subst z
     rcases h with h|⟨_,h⟩
     · rw[e] at h;cases h
       exact .inr ⟨o,c8⟩
     · rw[e] at h;cases h
   · unfold ag3
     rw[g8 z];exact h
 · by_cases z:a=u
   · rw[z,c8] at h;cases h
   · rw[g8 z] at h;exact h
theorem br4:∀{es:List (Int×Int)} {i:Nat} {e:Int×Int},(es.map (·.1)).Nodup→es[i]? =some e→A9 (K2 es) (Sum.inl e.1:n6)=some (.int e.2)
 |[],i,e,_,h=>by cases h
 |x::es,0,e,_,h=>by cases h;exact S4 rfl
 |x::es,i+1,e,nd,h=>by
  rw[dj0,dj3] at nd
  have hm:e∈es:=dg1 h
  show A9 ((Sum.inl x.1,V.int x.2)::K2 es) _=_
  rw[P7]
  · exact br4 nd.2 h
  · intro z
    have z:x.1=e.1:=Sum.inl.inj z
    exact nd.1 (by rw[z];exact List.mem_map_of_mem hm)
def bv4:Sp:=fun vs H Q _=>∃(a ch:Addr) (p:List Int) (cs:List Addr) (chs:List (List (List (Int×Int)))),vs=[.ref a,.ref ch]∧H a=some (.lst (p.map V.int))∧p.length≤40∧H ch=some (.lst (cs.map V.ref))∧
 C9 (fun c ways=>∃us,H c=some (.lst (us.map V.ref))∧C9 (ag3 H) us ways) cs chs∧(∀ways∈chs,∀es∈ways,(es.map (·.1)).Nodup∧∀e∈es,0≤e.1∧e.1 < (p.length:Int))∧(∀i,(L3 p (chs.take i)).length≤2000)∧
 ∀(o:Addr) (bs:List Addr) (ts:List (List Int)) (H':Hp),H o=none→H' o=some (.lst (bs.map V.ref))→l8 H' bs ts→ts.Perm (L3 p chs)→ts.Pairwise (fun r r'=>HT.ak3 r' r=false)→bs.Nodup→(∀b∈bs,H b=none)→o∉bs→Kp H H'→Q (.ref o) H'
theorem t9:l5 ["p","choices","laid","ways","wider","turn","way","told","thing"] ["p","choices"] (i7 R7):=⟨rfl,rfl,rfl,by decide+kernel,rfl,by decide+kernel,by decide+kernel⟩
theorem ap3 {f:Addr}{fd:FuncData}(F:A4 K "lay_every_way" "lay_every_way" R7 f fd)(B:Bl mg):o4 P w K mg base A2 1 f fd ["p","choices"] bv4:=by
 refine F.ok t9 (fun vs H Q E h=> ?_) (fun cdv A outer s H vs Q E hr h=> ?_)
 · obtain ⟨a,ch,p,cs,chs,rfl,ha,lp,hch,atc,keys,few,q⟩:=h
   rfl
 · obtain ⟨a,ch,p,cs,chs,rfl,ha,lp,hch,atc,keys,few,q⟩:=h
   have hu:=W2 hr
   have hu2:_+1+1 < cLine:=dj5 (dw2 (by decide:2≤64) _) hr.units
   refine ⟨_,@c7 _ _ _ _ _ (@i4 _ _ (2) _ _ _ _ t9.nd rfl (Or.inl rfl) (@r6 _ _ _ _ (@c5 _ _ _ _ _ (@ah8 _ _ _ _ _ B.list (@c5 _ _ _ _ _ (pv 0) (@c6 _) (by rfl)) (by rfl) (by rfl)) (@c6 _) (by rfl))) (by rfl) (by first|exact .inl rfl|exact .inr rfl|assumption)) (@c7 _ _ _ _ _ (@n0 _ _ _ _ _ _ _ _ PassesOwn.never rfl (@t7 _ _ _ _ (pv 1)) (@i8 _ _ (3) _ t9.nd rfl (Or.inl rfl) (by first|exact .inl rfl|exact .inr rfl|assumption)) (@c7 _ _ _ _ _ (@i4 _ _ (4) _ _ _ _ t9.nd rfl (Or.inl rfl) (@r6 _ _ _ _ (@c6 _)) (by rfl) (by first|exact .inl rfl|exact .inr rfl|assumption)) (@c7 _ _ _ _ _ (@n0 _ _ _ _ _ _ _ _ PassesOwn.never rfl (@t7 _ _ _ _ (pv 2)) (@i8 _ _ (5) _ t9.nd rfl (Or.inl rfl) (by first|exact .inl rfl|exact .inr rfl|assumption)) (@c9 _ _ _ (@n0 _ _ _ _ _ _ _ _ PassesOwn.never rfl (@t7 _ _ _ _ (pv 3)) (@i8 _ _ (6) _ t9.nd rfl (Or.inl rfl) (by first|exact .inl rfl|exact .inr rfl|assumption)) (@c7 _ _ _ _ _ (@i4 _ _ (7) _ _ _ _ t9.nd rfl (Or.inl rfl) (@ah8 _ _ _ _ _ B.list (@c5 _ _ _ _ _ (pv 5) (@c6 _) (by rfl)) (by rfl) (by rfl)) (by rfl) (by first|exact .inl rfl|exact .inr rfl|assumption)) (@c7 _ _ _ _ _ (@n0 _ _ _ _ _ _ _ _ PassesOwn.never rfl (ci5 (pv 6)) (@i8 _ _ (8) _ t9.nd rfl (Or.inl rfl) (by first|exact .inl rfl|exact .inr rfl|assumption)) (@c9 _ _ _ (@aq2 _ _ _ _ _ _ (@ak6 _ _ _ _ _ _ hu (pv 6) (pv 8) (fun _ _=>rfl)) (@aq1 _ _ _ _ _ _ _ (pv 7) (pv 8) ad9 (by intro _;rfl)) (by rfl) (by rfl) (by rfl))) (by intro _;rfl)) (@c9 _ _ _ (@q5 _ _ _ _ (@C6 _ _ _ _ _ _ _ (pv 4) (@c5 _ _ _ _ _ (pv 7) (@c6 _) (by rfl)) (by rfl) (by rfl) (by rfl) (by rfl) (by rfl)) (by rfl))))) (by intro _;rfl))) (by intro _;rfl)) (@c9 _ _ _ (@i4 _ _ (2) _ _ _ _ t9.nd rfl (Or.inl rfl) (pv 4) (by rfl) (by first|exact .inl rfl|exact .inr rfl|assumption))))) (by intro _;rfl)) (@c9 _ _ _ (@k7 _ _ _ _ (bn3 hu2 B.sorted (@c5 _ _ _ _ _ (pv 2) (@c6 _) (by rfl)))))),?_⟩
   refine ⟨_,rfl,a,_,rfl,.inl (h8.of ha),fun e0 he0=> ?_⟩
   have s1:e8 H (e7 H e0 (.lst (p.map V.int))):=e8.upd_new he0
   have h1e:(e7 H e0 (.lst (p.map V.int))) e0=some (.lst (p.map V.int)):=c8
   generalize (e7 H e0 (.lst (p.map V.int)))=H1 at s1 h1e ⊢
   refine ⟨(show 1≤sizeLine by decide),fun F0 hF0=> ?_⟩
   have s2:e8 H1 (e7 H1 F0 (.lst [V.ref e0])):=e8.upd_new hF0
   have h2F:(e7 H1 F0 (.lst [V.ref e0])) F0=some (.lst (([e0]:List Addr).map V.ref)):=c8
   generalize (e7 H1 F0 (.lst [V.ref e0]))=H2 at s2 h2F ⊢
   have s02:=s1.trans s2
   refine ⟨_,rfl,ch,rfl,⟨_,h8.of (s02 _ _ hch)⟩,A3 (K:=K) (a:=ch) (xs:=cs.map V.ref) (fun i σ H3=>∃(F:Addr) (ts:List Addr) (v3 v4 v5 v6 v7 v8:Option V),σ=[some (.ref a),some (.ref ch),some (.ref F),v3,v4,v5,v6,v7,v8]∧H3 F=some (.lst (ts.map V.ref))∧l8 H3 ts (L3 p (chs.take i))∧ts.Nodup∧(∀t∈ts,H t=none)∧Kp H H3)
     ⟨F0,[e0],none,none,none,none,none,none,rfl,h2F,⟨rfl,fun j b r e1 e2=>by
       rcases j with _|j
       · cases e1;cases e2;exact s2 _ _ h1e
       · cases e1⟩,by simp,fun t ht=>by rw[dg3.mp ht];exact he0,Kp.of s02⟩ (fun i σ H3 _ ⟨_,_,_,_,_,_,_,_,_,_,_,_,_,k⟩=>h8.of (k.lst hch)) ?_ ?_⟩
   · rintro i y σ H3 hi ⟨F,ts,v3,v4,v5,v6,v7,v8,rfl,h3F,rows,tnd,tfr,k3⟩
     obtain ⟨c,hc,rfl⟩:∃c,cs[i]? =some c∧y=V.ref c:=by
       rw[df3] at hi
       cases e:cs[i]? with
       |none=>rw[e] at hi;cases hi
       |some a=>rw[e] at hi;exact ⟨a,rfl,(Option.some.inj hi).symm⟩
     obtain ⟨ways,hw,us,hcu,atu⟩:=atc.get hc
     have fewi:=few (i+1)
     rw[j6 hw,av0] at fewi ⊢
     have lens:=bc5 p (chs.take i)
     generalize L3 p (chs.take i)=laid at rows fewi lens ⊢
     have kw:=keys ways (dg1 hw)
     refine ⟨dh2 _,fun W hW=> ?_⟩
     have hW0:H W=none:=k3.fr W hW
     have s4:e8 H3 (e7 H3 W (.lst [])):=e8.upd_new hW
     have h4W:(e7 H3 W (.lst [])) W=some (.lst (([]:List Addr).map V.ref)):=c8
     generalize (e7 H3 W (.lst []))=H4 at s4 h4W ⊢
     refine ⟨_,rfl,F,rfl,⟨_,h8.of (s4 _ _ h3F)⟩,A3 (K:=K) (a:=F) (xs:=ts.map V.ref) (fun j σ H5=>∃(bs:List Addr) (v5 v6 v7 v8:Option V),σ=[some (.ref a),some (.ref ch),some (.ref F),some (.ref c),some (.ref W),v5,v6,v7,v8]∧H5 W=some (.lst (bs.map V.ref))∧l8 H5 bs (K9 (laid.take j) ways)∧bs.Nodup∧(∀b∈bs,H3 b=none)∧W∉bs∧Kp H3 H5)
       ⟨[],v5,v6,v7,v8,rfl,h4W,⟨rfl,fun j b r h=>by cases h⟩,dn1,(fun b hb=>by cases hb),(fun z=>by cases z),Kp.of s4⟩ (fun j σ H5 _ ⟨_,_,_,_,_,_,_,_,_,_,_,k⟩=>h8.of (k.lst h3F)) ?_ ?_⟩
     · rintro j y σ H5 hj ⟨bs0,v5,v6,v7,v8,rfl,h5W,rowsB0,bnd0,bfr0,Wb0,k5⟩
       obtain ⟨t,ht,rfl⟩:∃t,ts[j]? =some t∧y=V.ref t:=by
         rw[df3] at hj
         cases e:ts[j]? with
         |none=>rw[e] at hj;cases hj
         |some a=>rw[e] at hj;exact ⟨a,rfl,(Option.some.inj hj).symm⟩
       obtain ⟨row,hrow⟩:∃r,laid[j]? =some r:=⟨_,df0 (by rw[←rows.1];exact (df1.mp ht).1)⟩
       have h3t:=rows.2 j t row ht hrow
       have lrow:=lens row (dg1 hrow)
       have tot:=ay8 (f:=fun t=>ways.map (p5 t)) hrow
       rw[de9] at tot
       have h5c:=(k3.trans k5).lst hcu
       refine ⟨_,rfl,c,rfl,⟨_,h8.of h5c⟩,A3 (K:=K) (a:=c) (xs:=us.map V.ref) (fun k σ H6=>∃(bs:List Addr) (v6 v7 v8:Option V),σ=[some (.ref a),some (.ref ch),some (.ref F),some (.ref c),some (.ref W),some (.ref t),v6,v7,v8]∧H6 W=some (.lst (bs.map V.ref))∧l8 H6 bs (K9 (laid.take j) ways++(ways.take k).map (p5 row))∧bs.Nodup∧(∀b∈bs,H3 b=none)∧W∉bs∧Kp H3 H6)
         ⟨bs0,v6,v7,v8,rfl,h5W,by rw[do3,ds7,dh7];exact rowsB0,bnd0,bfr0,Wb0,k5⟩ (fun k σ H6 _ ⟨_,_,_,_,_,_,_,_,_,_,kk⟩=>h8.of ((k3.trans kk).lst hcu)) ?_ ?_⟩
       · rintro k y σ H6 hk ⟨bs,v6,v7,v8,rfl,h6W,rowsB,bnd,bfr,Wb,k6⟩
         obtain ⟨u,hu,rfl⟩:∃t,us[k]? =some t∧y=V.ref t:=by
           rw[df3] at hk
           cases e:us[k]? with
           |none=>rw[e] at hk;cases hk
           |some a=>rw[e] at hk;exact ⟨a,rfl,(Option.some.inj hk).symm⟩
         obtain ⟨es,hes,tu⟩:=atu.get hu
         obtain ⟨knd,kbd⟩:=kw es (dg1 hes)
         refine ⟨_,rfl,t,_,rfl,.inl (h8.of (k6.lst h3t)),fun to hto=> ?_⟩
         have s7:e8 H6 (e7 H6 to (.lst (row.map V.int))):=e8.upd_new hto
         have h7t:(e7 H6 to (.lst (row.map V.int))) to=some (.lst (row.map V.int)):=c8
         generalize (e7 H6 to (.lst (row.map V.int)))=H7 at s7 h7t ⊢
         have k67:Kp H6 H7:=Kp.of s7
         have tu7:ag3 H7 u es:=k67.tab u es (k6.tab u es (k3.tab u es tu))
         refine ⟨_,rfl,u,K2 es,rfl,?_⟩
         refine tu7.elim (fun h=> .inl ⟨h,fun o=> ?_⟩) (fun ⟨o,h⟩=> .inr ⟨o,h,?_⟩)
         all_goals
           first
             |(have h8u:(e7 H7 u (.frz o (.dK (K2 es)))) u=some (.frz o (.dK (K2 es))):=c8
               have k68:=k67.trans (Kp.freeze (o:=o) h)
               have h8t:=(Kp.freeze (o:=o) h).lst h7t
               generalize (e7 H7 u (.frz o (.dK (K2 es))))=H8 at h8u k68 h8t ⊢)
             |(have h8u:=h
               have k68:=k67
               have h8t:=h7t
               generalize H7=H8 at h8u k68 h8t ⊢)
           have nut:u≠to:=fun z=>by rw[z,h8t] at h8u;cases h8u
           refine ao0 (fun q σ H9=>∃(v8:Option V),σ=[some (.ref a),some (.ref ch),some (.ref F),some (.ref c),some (.ref W),some (.ref t),some (.ref u),some (.ref to),v8]∧H9 to=some (.lst ((p5 row (es.take q)).map V.int))∧H9 u=some (.frz o (.dK (K2 es)))∧Kp H6 H9)
             ⟨v8,rfl,h8t,h8u,k68⟩ (fun q σ H9 _ ⟨_,_,_,e,_⟩=>e) ?_ ?_
           · rintro q kk vv σ H9 hq ⟨v8,rfl,h9t,h9u,k9⟩
             unfold K2 at hq
             rw[df3] at hq
             cases hE:es[q]? with
             |none=>rw[hE] at hq;cases hq
             |some e=>
              rw[hE] at hq
              cases hq
              have eb:=kbd e (dg1 hE)
              refine ⟨_,rfl,_,rfl,u,.int e.2,rfl,.inl ⟨K2 es,Sum.inl e.1,.inr ⟨o,h9u⟩,rfl,(br4 knd hE).symm⟩,?_⟩
              refine ⟨_,rfl,_,rfl,to,_,_,e.1.toNat,rfl,rfl,h9t,?_,?_⟩
              · unfold ixN
                rw[de9,ag2,if_pos eb.1,if_pos (by omega)]
              · refine ⟨_,rfl,?_,by rw[g8 nut];exact h9u,k9.upd_r hto⟩
                rw[c8,j6 hE,bn6,dy5]
           · rintro σ H9 ⟨v8,rfl,h9t,h9u,k9⟩
             rw[show (K2 es).length=es.length by unfold K2;rw[de9],dh9] at h9t
             have h9W:=k9.lst h6W
             have lb:bs.length≤2000:=by
               have:=rowsB.1
               rw[df7,de9,dg7] at this
               unfold K9 at this fewi
               omega
             refine ⟨_,rfl,.inl ⟨rfl,_,h8.of h9W⟩,_,rfl,W,_,_,rfl,rfl,h9W,dj5 (show _≤2000 by rw[de9];omega) (by decide),?_⟩
             have nWt:W≠to:=g6 h6W hto
             have k9':Kp H3 (e7 H9 W (.lst (bs.map V.ref++[V.ref to]))):=(k6.trans k9).upd_r hW
             have r9:l8 (e7 H9 W (.lst (bs.map V.ref++[V.ref to]))) (bs++[to]) ((K9 (laid.take j) ways++(ways.take k).map (p5 row))++[p5 row es]):=by
               refine Q8 (t5 (k9.rows rowsB) fun b hb v e=> ?_) (by rw[g8 nWt.symm];exact h9t)
               rw[g8 (show b≠W from fun z=>Wb (z▸hb))]
               exact e
             refine ⟨bs++[to],_,_,_,rfl,by rw[c8,df8];rfl,?_,?_,fun b hb=> ?_,fun z=> ?_,k9'⟩
             · have eb:(ways.take (k+1)).map (p5 row)=(ways.take k).map (p5 row)++[p5 row es]:=by rw[j6 hes,df8];rfl
               rw[eb,←dh4]
               exact r9
             · rw[dk8]
               refine ⟨bnd,by simp,fun x hx z hz e=> ?_⟩
               rw[dg3.mp hz] at e
               obtain ⟨r,hr⟩:=af5 rowsB hx
               rw[e,hto] at hr;cases hr
             · rcases dg2.mp hb with z|z
               · exact bfr b z
               · rw[dg3.mp z];exact k6.fr to hto
             · rcases dg2.mp z with z|z
               · exact Wb z
               · exact nWt (dg3.mp z)
       · rintro σ H6 ⟨bs,v6,v7,v8,rfl,h6W,rowsB,bnd,bfr,Wb,k6⟩
         refine ⟨bs,_,v6,v7,v8,rfl,h6W,?_,bnd,bfr,Wb,k6⟩
         rw[de9,atu.1,dh9] at rowsB
         have e:K9 (laid.take (j+1)) ways=K9 (laid.take j) ways++ways.map (p5 row):=by
           unfold K9
           rw[j6 hrow,dn8,dk9,dp5,dh7]
         rw[e]
         exact rowsB
     · rintro σ H5 ⟨bs,v5,v6,v7,v8,rfl,h5W,rowsB,bnd,bfr,Wb,k5⟩
       rw[de9,rows.1,dh9] at rowsB
       exact ⟨_,rfl,W,bs,_,_,_,_,_,_,rfl,h5W,rowsB,bnd,fun b hb=>k3.fr b (bfr b hb),k3.trans k5⟩
   · rintro σ H3 ⟨F,ts,v3,v4,v5,v6,v7,v8,rfl,h3F,rows,tnd,tfr,k3⟩
     rw[de9,atc.1,dh9] at rows
     refine ⟨_,rfl,F,ts,_,rfl,h8.of h3F,rows,fun bs rs o pb pr rowsB srt ho=> ?_⟩
     have s4:e8 H3 (e7 H3 o (.lst (bs.map V.ref))):=e8.upd_new ho
     refine q o bs rs _ (k3.fr o ho) c8 (t5 rowsB fun b _ u e=>s4 _ _ e) pr srt (pb.nodup_iff.mpr tnd) (fun b hb=>tfr b (pb.mem_iff.mp hb)) (fun z=> ?_) (k3.trans (Kp.of s4))
     obtain ⟨r,hr⟩:=af5 rowsB z
     rw[ho] at hr;cases hr
end
end My
namespace My
open PySem L2 Mth
section
theorem bc6 {β:Type}(g:Nat→List β):∀ds:List Nat,(ds.flatMap g).length=V7 ds fun d=>(g d).length
 |[]=>rfl
 |d::ds=>by rw[dk9,df7,bc6 g ds,K7]
theorem ay9 {f:Nat→Nat}:∀{ds:List Nat} {d:Nat},d∈ds→f d≤V7 ds f
 |x::ds,d,h=>by
  rw[K7]
  rcases dg9.mp h with rfl|h
  · omega
  · have:=ay9 (f:=f) h
    omega
theorem bc7 {f:Nat→Nat}:∀{ds:List Nat},V7 ds f≠0→∃d∈ds,f d≠0
 |[],h=>absurd rfl h
 |x::ds,h=>by
  rw[K7] at h
  by_cases c:f x=0
  · obtain ⟨d,hd,e⟩:=bc7 (f:=f) (ds:=ds) (by omega)
    exact ⟨d,df6 _ hd,e⟩
  · exact ⟨x,df4,c⟩
theorem ab5 {n l:Nat}(l1:1≤l):∀k,k < n→1≤q9 n l k
 |0,_=>df2 _
 |k+1,h=>by
  show 1≤q9 n l k*(n - (k+1))*l
  exact dn5 (dn5 (ab5 l1 k (by omega)) (by omega)) l1
theorem aj6 {n l:Nat}(l1:1≤l)(k:Nat):∀j,k+j < n→q9 n l k≤q9 n l (k+j)
 |0,_=>df2 _
 |j+1,h=>by
  refine dg5 (aj6 l1 k j (by omega)) ?_
  show q9 n l (k+j)≤q9 n l (k+j)*(n - (k+j+1))*l
  rw[dm5]
  exact dj2 _ (dn5 (by omega) l1)
theorem ap4 {l:Nat}{ds:List Nat}(hd:∀d∈ds,1≤d):∀(f:Nat) {rs:List (List Int)},rs.length≤f→(∀r∈rs,r.length=l)→(y9 ds f rs).length=jf l ds rs.length
 |0,rs,hf,_=>by rw[show rs.length=0 by omega];rfl
 |f+1,rs,hf,hl=>by
  show (if rs.length=0 then [[]] else ds.flatMap (O7 (y9 ds f) rs)).length=_
  by_cases c:rs.length=0
  · rw[if_pos c,c];rfl
  · rw[if_neg c,bc6,(bd8 (l:=l) hd).2 rs.length (by omega)]
    refine af8 fun d hdm=> ?_
    have d1:=hd d hdm
    unfold O7
    by_cases c2:d≤rs.length
    · rw[if_pos c2,if_pos c2,Y8 (c:=jf l ds (rs.length - d)) fun x hx=> ?_,ag0 hl (d - 1) (by omega)]
      have o:=C5 hl (d - 1) (by omega) hx
      rw[de9,ap4 hd f (by have:=o.left;omega) fun r hr=>hl r (o.rows2 r hr)]
      congr 1
      have:=o.left
      omega
    · rw[if_neg c2,if_neg c2];rfl
structure bv5 (ds:List Nat)(N d0:Nat):Prop where
 pos:1≤d0
 one:∀d∈ds,1≤d
 all:∀d∈ds,d0∣d
 in_:d0≤N→d0∈ds
theorem cd2 {l N d0:Nat}{ds:List Nat}(b:bv5 ds N d0)(l1:1≤l):∀q,d0*q≤N→1≤jf l ds (d0*q)
 |0,_=>df2 _
 |q+1,h=>by
  have p:=b.pos
  have e:d0*(q+1)=d0*q+d0:=dy0 _ _
  rw[(bd8 (l:=l) b.one).2 (d0*(q+1)) (by omega)]
  refine dg5 ?_ (ay9 (b.in_ (by omega)))
  rw[if_pos (by omega),show d0*(q+1) - d0=d0*q by omega]
  exact dn5 (ab5 l1 _ (by omega)) (cd2 b l1 q (by omega))
theorem cd3 {l N d0:Nat}{ds:List Nat}(b:bv5 ds N d0):∀(g n:Nat),n≤g→jf l ds n≠0→d0∣n
 |0,n,h,_=>by rw[show n=0 by omega];exact dy3 _
 |g+1,n,h,z=>by
  by_cases c:n=0
  · rw[c];exact dy3 _
  · rw[(bd8 (l:=l) b.one).2 n (by omega)] at z
    obtain ⟨d,hd,e⟩:=bc7 z
    have d1:=b.one d hd
    by_cases c2:d≤n
    · rw[if_pos c2] at e
      have:=cd3 b g (n - d) (by omega) (fun y=>e (by rw[y,ds9]))
      have e2:=Nat.dvd_add this (b.all d hd)
      rw[dp8 c2] at e2
      exact e2
    · rw[if_neg c2] at e;exact absurd rfl e
theorem cd4 {l N d0:Nat}{ds:List Nat}(b:bv5 ds N d0)(l1:1≤l):∀(f:Nat) {rs:List (List Int)},rs.length≤f→rs.length≤N→(∀r∈rs,r.length=l)→d0∣rs.length→jf l ds rs.length≤2000→Few ds f rs
 |0,rs,_,_,_,_,_=>trivial
 |f+1,rs,hf,hN,hl,dv,le=>by
  refine ⟨fun d hd hdn=> ?_,by rw[ap4 b.one (f+1) hf hl];exact le⟩
  have d1:=b.one d hd
  obtain ⟨q,hq⟩:=Nat.dvd_sub dv (b.all d hd)
  have jp:1≤jf l ds (rs.length - d):=by rw[hq];exact cd2 b l1 q (by omega)
  have t1:q9 rs.length l (d - 1)*jf l ds (rs.length - d)≤jf l ds rs.length:=by
    rw[(bd8 (l:=l) b.one).2 rs.length (by omega)]
    have:=ay9 (f:=fun d=>if d≤rs.length then q9 rs.length l (d - 1)*jf l ds (rs.length - d) else 0) hd
    rw[if_pos hdn] at this
    exact this
  have t2:q9 rs.length l (d - 1)≤jf l ds rs.length:=dg5 (dj2 _ jp) t1
  have t3:jf l ds (rs.length - d)≤jf l ds rs.length:=dg5 (dr9 _ (ab5 l1 (d - 1) (by omega))) t1
  refine ⟨fun k hk=> ?_,fun x hx=> ?_⟩
  · rw[ag0 hl k (by omega)]
    have:=aj6 l1 k (d - 1 - k) (n:=rs.length) (by omega)
    rw[show k+(d - 1 - k)=d - 1 by omega] at this
    omega
  · have o:=C5 hl (d - 1) (by omega) hx
    have e:x.2.length=rs.length - d:=by have:=o.left;omega
    exact cd4 b l1 f (by omega) (by omega) (fun r hr=>hl r (o.rows2 r hr)) (by rw[e];exact Nat.dvd_sub dv (b.all d hd)) (by rw[e];omega)
end
end My
namespace My
open PySem L2 Mth
section
variable {P:Program} {w:World} {K:PySem.W.Frag} {mg:Str→Option Value} {base:Heap}
theorem ck5 {l m:Nat}(hm:0 < m):∀(n d:Nat),V1 l m d→m - d≤n→∃d,M6 l m d
 |0,d,u,h=>by
  by_cases z:dg6 l (m/d)=1
  · exact ⟨d,u.done z⟩
  · have:=u.more hm z
    omega
 |n+1,d,u,h=>by
  by_cases z:dg6 l (m/d)=1
  · exact ⟨d,u.done z⟩
  · have:=u.more hm z
    exact ck5 hm n _ (u.step hm) (by omega)
theorem co9 {l m:Nat}(hm:0 < m):∃d,M6 l m d:=ck5 hm (m - 1) 1 (.start l m) (df2 _)
theorem N7 {l m n d:Nat}(h:d∈o9 l m n):K3 l m d:=by
 refine ⟨(E4 h).1,?_⟩
 unfold o9 at h
 exact of_decide_eq_true (dk7.mp h).2
theorem al7 {l m n:Nat}(m1:1≤m):∃d0,bv5 (o9 l m n) n d0:=by
 obtain ⟨d0,h⟩:=co9 (l:=l) m1
 have p:=h.pos m1
 refine ⟨d0,p,fun d hd=>(E4 hd).1,fun d hd=> ?_,fun hn=> ?_⟩
 · have r:=N7 hd
   obtain ⟨a,b⟩:=(bb2 r.1).mp r.2
   exact h.least d a b
 · unfold o9
   refine dk7.mpr ⟨df9.mpr ⟨d0 - 1,di9.mpr (by omega),by omega⟩,decide_eq_true ((bb2 p).mpr ⟨h.parts,h.rest⟩)⟩
theorem bl4 {l m:Nat}(l0:0 < l)(m1:1≤m):∀(w:List (List (List Int))),(∀c∈w,K3 l m c.length)→(w.map dt0).flatten.Nodup→((L4 l m w).map (·.1)).Nodup
 |[],_,_=>dn1
 |c::w,h,nd=>by
  rw[dj0,dh1,dk8] at nd
  have i:=bl4 l0 m1 w (fun c hc=>h c (df6 _ hc)) nd.2.1
  have e:L4 l m (c::w)=C0 (A8 l m c)++L4 l m w:=by unfold L4;rw[dk9]
  rw[e,df8,ag1,dk8]
  refine ⟨?_,i,fun x hx y hy z=> ?_⟩
  · unfold A8
    by_cases ex:∃J,B9 l (m/c.length) c J
    · rw[dif_pos ex]
      obtain ⟨k,e1,e2⟩:=(h c df4).parts m1
      have ek:m/c.length=k:=by rw[e1];exact dm0 k (h c df4).1
      exact ((Classical.choose_spec ex).perm l0 (by rw[ek];exact e2)).nodup_iff.mpr nd.1
    · rw[dif_neg ex];exact dn1
  · exact nd.2.2 x ((bc4 l0 m1 (h c df4)).1 x hx) y ((Y9 l0 m1 w fun c hc=>h c (df6 _ hc)).1 y hy) z
noncomputable def U5 (rs:List (List Int))(m l:Nat):List (List (Int×Int)):=(y9 (o9 l m (o5 rs l)) 40 (t6 rs l)).map (L4 l m)
theorem E1 {rs:List (List Int)}{l:Nat}{r:List Int}(h:r∈t6 rs l):r∈rs∧r.length=l:=by
 unfold t6 at h
 obtain ⟨a,b⟩:=dk7.mp h
 exact ⟨a,of_decide_eq_true b⟩
theorem aj7 (f:List Int→Bool):∀rs:List (List Int),((rs.filter f).flatten).Sublist rs.flatten
 |[]=>List.Sublist.refl _
 |r::rs=>by
  by_cases c:f r=true
  · rw[do8 c,dh1,dh1]
    exact (aj7 f rs).append_left r
  · rw[do9 c,dh1]
    exact (aj7 f rs).trans (List.sublist_append_right _ _)
theorem L9 (rs:List (List Int))(l:Nat):(t6 rs l).flatten.Sublist rs.flatten:=aj7 _ rs
theorem rsb {p:List Int}(tp:l9 p){i:Nat}{rs:List (List Int)}(up:w6 p i rs):∀r∈rs,1≤r.length∧r.length≤p.length:=fun r hr=>by
 obtain ⟨y,L,hy,pr,er,_⟩:=up.ring r hr
 have b:=J6 tp hy (m:=L) fun i i0 i1=>pr.least i i0 i1
 have:=pr.pos
 rw[er,l7]
 omega
theorem br5 {rs:List (List Int)}{m l:Nat}(h:(t6 rs l).length≤40):(U5 rs m l).length=A7 l m (o5 rs l):=by
 unfold U5
 rw[de9,ap4 (l:=l) (fun d hd=>(E4 hd).1) 40 h fun r hr=>(E1 hr).2,O3]
 rfl
theorem ci7 (laid:List (List Int))(c:List (List (Int×Int))):(K9 laid c).length=laid.length*c.length:=by
 unfold K9
 exact Y8 fun t _=>by rw[de9]
theorem aa3 (p:List Int)(f:Nat→List (List (Int×Int)))(g:Nat→Nat):∀n (ks:List Nat),ks.length≤n→(∀k∈ks,(f k).length=g k)→(L3 p (ks.map f)).length=o8 g ks
 |0,ks,h,_=>by
  obtain rfl:ks=[]:=dp0.mp (by omega)
  rfl
 |n+1,ks,h,hf=>by
  by_cases c:ks=[]
  · rw[c];rfl
  · have e:=(List.dropLast_concat_getLast c).symm
    have hx:ks.getLast c∈ks:=List.getLast_mem c
    generalize ks.getLast c=x at e hx
    have hd:∀k∈ks.dropLast,k∈ks:=fun k hk=>by rw[e];exact dk4 _ hk
    have hl:ks.dropLast.length≤n:=by rw[dv4];omega
    generalize ks.dropLast=ks' at e hd hl
    rw[e,df8,show [x].map f=[f x] from rfl,av0,ci7,as7,aa3 p f g n ks' hl (fun k hk=>hf k (hd k hk)),hf x hx]
theorem bl5 {g:Nat→Nat}:∀{ks:List Nat},o8 g ks≠0→∀k∈ks,1≤g k
 |x::ks,h,k,hk=>by
  have h:g x*o8 g ks≠0:=h
  have a:g x≠0:=fun z=>h (by rw[z,dr4])
  have b:o8 g ks≠0:=fun z=>h (by rw[z,ds9])
  rcases dg9.mp hk with rfl|hk
  · omega
  · exact bl5 b k hk
theorem ap5 {g:Nat→Nat}:∀{ks:List Nat},(∀k∈ks,1≤g k)→1≤o8 g ks
 |[],_=>df2 _
 |x::ks,h=>dn5 (h x df4) (ap5 fun k hk=>h k (df6 _ hk))
theorem cp0 {g:Nat→Nat}{ks:List Nat}(h:∀k∈ks,1≤g k){k:Nat}(hk:k∈ks):g k≤o8 g ks:=by
 induction ks with
 |nil=>cases hk
 |cons x ks ih=>
  show g k≤g x*o8 g ks
  rcases dg9.mp hk with rfl|hk
  · exact dj2 _ (ap5 fun k hk=>h k (df6 _ hk))
  · exact dg5 (ih (fun k hk=>h k (df6 _ hk)) hk) (dr9 _ (h x df4))
theorem cd6 {g:Nat→Nat}{ks:List Nat}(h:∀k∈ks,1≤g k)(i:Nat):o8 g (ks.take i)≤o8 g ks:=by
 have e:=ai3 g (ks.take i) (ks.drop i)
 rw[dk5] at e
 rw[e]
 exact dj2 _ (ap5 fun k hk=>h k (do4 hk))
def bl6:Sp:=fun vs H Q _=>∃n:Int,vs=[.int n]∧n≤2000∧Q .non H
theorem az0:l5 ["many"] ["many"] (i7 V2):=⟨rfl,rfl,rfl,by decide+kernel,rfl,by decide+kernel,by decide+kernel⟩
theorem az1 {f:Addr}{fd:FuncData}(F:A4 K "must_be_few" "must_be_few" V2 f fd)(g_MOST_TOLD:∃t,mg "MOST_TOLD"=some (.int 2000 t)):o4 P w K mg base A2 1 f fd ["many"] bl6:=by
 refine F.ok az0 (fun vs H Q E h=> ?_) (fun cdv A outer s H vs Q E hr h=> ?_)
 · obtain ⟨n,rfl,hn,q⟩:=h
   rfl
 · obtain ⟨n,rfl,hn,q⟩:=h
   obtain ⟨_,m_MOST_TOLD⟩:=g_MOST_TOLD
   refine ⟨_,@c9 _ _ _ (@v9 _ _ _ _ _ _ _ _ (@n5 _ _ _ _ _ _ _ _ aq7 (pv 0) (@av9 _ _ (.int 2000) _ _ (by rfl) m_MOST_TOLD ⟨_,rfl⟩ (by decide)) (o3 _)) (@c9 _ _ _ (@S2 _ _)) (@o7 _)),?_⟩
   refine ⟨_,rfl,_,_,rfl,rfl,_,rfl,?_⟩
   rw[decide_eq_false (show ¬(2000:Int) < n by omega)]
   exact E7 q
structure ap6 (p:List Int)(m:Nat)(ts:List (List Int)):Prop where
 len:ts.length=T6 p m
 srt:ts.Pairwise (fun r r'=>HT.ak3 r' r=false)
 src:T6 p m=0∨∃ks:List Nat,ks.Nodup∧(∀k∈ks,∃r∈j7 p p.length,r.length=k)∧(∀r∈j7 p p.length,r.length∈ks)∧ts.Perm (L3 p (ks.map (U5 (j7 p p.length) m)))
def bv6 (H:Hp)(c:Addr)(ways:List (List (Int×Int))):Prop:=∃us,H c=some (.lst (us.map V.ref))∧C9 (ag3 H) us ways
theorem bv6.keep {H H':Hp}{c:Addr}{ways:List (List (Int×Int))}(h:bv6 H c ways)(s:e8 H H'):bv6 H' c ways:=by
 obtain ⟨us,a,b⟩:=h
 exact ⟨us,s _ _ a,b.imp fun u es _ e=>(Kp.of s).tab u es e⟩
def bl7:Sp:=fun vs H Q _=>∃(a:Addr) (p:List Int) (m:Nat),vs=[.ref a,.int (m:Int)]∧E8 H a p∧1≤m∧T6 p m≤2000∧∀(o:Addr) (bs:List Addr) (ts:List (List Int)) (H':Hp),H o=none→H' o=some (.lst (bs.map V.ref))→l8 H' bs ts→ap6 p m ts→bs.Nodup→(∀b∈bs,H b=none)→o∉bs→Kp H H'→Q (.ref o) H'
theorem K4:l5 ["p","m","many","by_length","choices","length","rings"] ["p","m"] (i7 ab2):=⟨rfl,rfl,rfl,by decide+kernel,rfl,by decide+kernel,by decide+kernel⟩
theorem bl8 {f:Addr}{fd:FuncData}(F:A4 K "all_roots" "all_roots" ab2 f fd)(B:Bl mg)(c_how_many_roots:j9 P w K mg base "how_many_roots" 4 ["p","m"] au7)(c_must_be_few:j9 P w K mg base "must_be_few" 1 ["many"] bl6)(c_sort_by_length:j9 P w K mg base "sort_by_length" 1 ["rings"] ad2)(c_walk_rings:j9 P w K mg base "walk_rings" 2 ["p"] L7)(c_ways_to_join:j9 P w K mg base "ways_to_join" 43 ["rings","right","m"] (aj5 40))(c_right_numbers:j9 P w K mg base "right_numbers" 2 ["length","m","most"] af6)(c_lay_every_way:j9 P w K mg base "lay_every_way" 1 ["p","choices"] bv4):o4 P w K mg base A2 44 f fd ["p","m"] bl7:=by
 refine F.ok K4 (fun vs H Q E h=> ?_) (fun cdv A outer s H vs Q E hr h=> ?_)
 · obtain ⟨a,p,m,rfl,⟨ha,tp,lp⟩,m1,few,q⟩:=h
   rfl
 · obtain ⟨a,p,m,rfl,⟨ha,tp,lp⟩,m1,few,q⟩:=h
   have hr_how_many_roots:m9 4 _:=hr.mono (by decide)
   have hr_must_be_few:m9 1 _:=hr.mono (by decide)
   have hr_sort_by_length:m9 1 _:=hr.mono (by decide)
   have hr_walk_rings:m9 2 _:=hr.mono (by decide)
   have hr_ways_to_join:m9 43 _:=hr.mono (by decide)
   have hr_right_numbers:m9 2 _:=hr.mono (by decide)
   have hr_lay_every_way:m9 1 _:=hr.mono (by decide)
   have hu:=W2 hr
   refine ⟨_,@c7 _ _ _ _ _ (@i4 _ _ (2) _ _ _ _ K4.nd rfl (Or.inl rfl) (@i6 _ _ _ _ _ _ _ _ _ _ c_how_many_roots hr_how_many_roots (@c5 _ _ _ _ _ (pv 0) (@c5 _ _ _ _ _ (pv 1) (@c6 _) (by rfl)) (by rfl)) (by rfl) (by decide) (by rfl) (by rfl)) (by rfl) (by first|exact .inl rfl|exact .inr rfl|assumption)) (@c7 _ _ _ _ _ (@q5 _ _ _ _ (@i6 _ _ _ _ _ _ _ _ _ _ c_must_be_few hr_must_be_few (@c5 _ _ _ _ _ (pv 2) (@c6 _) (by rfl)) (by rfl) (by decide) (by rfl) (by rfl)) (by rfl)) (@c7 _ _ _ _ _ (@v9 _ _ _ _ _ _ _ _ (@n5 _ _ _ _ _ _ _ _ T7 (pv 2) (@h7 _ _ _ _) (o3 _)) (@c9 _ _ _ (@k7 _ _ _ _ (@r6 _ _ _ _ (@c6 _)))) (@o7 _)) (@c7 _ _ _ _ _ (@i4 _ _ (3) _ _ _ _ K4.nd rfl (Or.inl rfl) (@i6 _ _ _ _ _ _ _ _ _ _ c_sort_by_length hr_sort_by_length (@c5 _ _ _ _ _ (@i6 _ _ _ _ _ _ _ _ _ _ c_walk_rings hr_walk_rings (@c5 _ _ _ _ _ (pv 0) (@c6 _) (by rfl)) (by rfl) (by decide) (by rfl) (by rfl)) (@c6 _) (by rfl)) (by rfl) (by decide) (by rfl) (by rfl)) (by rfl) (by first|exact .inl rfl|exact .inr rfl|assumption)) (@c7 _ _ _ _ _ (@i4 _ _ (4) _ _ _ _ K4.nd rfl (Or.inl rfl) (@r6 _ _ _ _ (@c6 _)) (by rfl) (by first|exact .inl rfl|exact .inr rfl|assumption)) (@c7 _ _ _ _ _ (@n0 _ _ _ _ _ _ _ _ PassesOwn.never rfl (@bp2 _ _ _ _ (pv 3)) (@i8 _ _ (5) _ K4.nd rfl (Or.inl rfl) (by first|exact .inl rfl|exact .inr rfl|assumption)) (@c7 _ _ _ _ _ (@i4 _ _ (6) _ _ _ _ K4.nd rfl (Or.inl rfl) (@ak6 _ _ _ _ _ _ hu (pv 3) (pv 5) (fun _ _=>rfl)) (by rfl) (by first|exact .inl rfl|exact .inr rfl|assumption)) (@c9 _ _ _ (@q5 _ _ _ _ (@C6 _ _ _ _ _ _ _ (pv 4) (@c5 _ _ _ _ _ (@i6 _ _ _ _ _ _ _ _ _ _ c_ways_to_join hr_ways_to_join (@c5 _ _ _ _ _ (pv 6) (@c5 _ _ _ _ _ (@i6 _ _ _ _ _ _ _ _ _ _ c_right_numbers hr_right_numbers (@c5 _ _ _ _ _ (pv 5) (@c5 _ _ _ _ _ (pv 1) (@c5 _ _ _ _ _ (@w4 _ _ _ _ _ B.len (@c5 _ _ _ _ _ (pv 6) (@c6 _) (by rfl)) (by rfl) (by rfl)) (@c6 _) (by rfl)) (by rfl)) (by rfl)) (by rfl) (by decide) (by rfl) (by rfl)) (@c5 _ _ _ _ _ (pv 1) (@c6 _) (by rfl)) (by rfl)) (by rfl)) (by rfl) (by decide) (by rfl) (by rfl)) (@c6 _) (by rfl)) (by rfl) (by rfl) (by rfl) (by rfl) (by rfl)) (by rfl)))) (by intro _;rfl)) (@c9 _ _ _ (@k7 _ _ _ _ (@i6 _ _ _ _ _ _ _ _ _ _ c_lay_every_way hr_lay_every_way (@c5 _ _ _ _ _ (pv 0) (@c5 _ _ _ _ _ (pv 4) (@c6 _) (by rfl)) (by rfl)) (by rfl) (by decide) (by rfl) (by rfl))))))))),?_⟩
   refine ⟨_,rfl,_,rfl,a,p,m,rfl,⟨ha,tp,lp⟩,m1,fun H1 s1=> ?_⟩
   refine ⟨_,rfl,_,rfl,by omega,?_⟩
   refine ⟨_,rfl,rfl,_,rfl,?_⟩
   by_cases z0:T6 p m=0
   · rw[decide_eq_true (by rw[z0];rfl)]
     refine O8 ⟨dh2 _,fun o ho=> ?_⟩
     exact q o [] [] _ (s1.free ho) c8 ⟨rfl,fun j b r h=>by cases h⟩ ⟨by rw[z0];rfl,List.Pairwise.nil,.inl z0⟩ dn1 (fun b hb=>by cases hb) (fun z=>by cases z) (Kp.of (s1.trans (e8.upd_new ho)))
   rw[decide_eq_false (fun z=>z0 (by have:=V.int.inj z;omega))]
   refine E7 ?_
   refine ⟨_,rfl,a,p,rfl,⟨s1 a _ ha,tp,lp⟩,fun l as rs H2 hl s12 h2l rows up fa nda nla=> ?_⟩
   have cl:=Y4 up
   have fl:=U1 tp up
   have ers:rs=j7 p p.length:=up.eq
   refine ⟨l,as,rs,rfl,h2l,rows,by omega,fun d es H3 hd s23 h3d bl les fre=> ?_⟩
   refine ⟨dh2 _,fun C hC=> ?_⟩
   have s4:e8 H3 (e7 H3 C (.lst [])):=e8.upd_new hC
   have h4C:(e7 H3 C (.lst [])) C=some (.lst (([]:List Addr).map V.ref)):=c8
   generalize (e7 H3 C (.lst []))=H4 at s4 h4C ⊢
   have hC2:H2 C=none:=s23.free hC
   have ndC:d≠C:=g6 h3d hC
   refine ⟨_,rfl,d,p6 es,rfl,s4 _ _ h3d,fun o=> ?_⟩
   have sB:e8 H2 (e7 H4 d (.frz o (.dK (p6 es)))):=(s23.trans s4).upd_r hd
   have hBd:(e7 H4 d (.frz o (.dK (p6 es)))) d=some (.frz o (.dK (p6 es))):=c8
   have kpB:∀c,c≠d→(e7 H4 d (.frz o (.dK (p6 es)))) c=H4 c:=fun c hc=>g8 hc
   have hBC:(e7 H4 d (.frz o (.dK (p6 es)))) C=some (.lst (([]:List Addr).map V.ref)):=by rw[g8 ndC.symm];exact h4C
   generalize (e7 H4 d (.frz o (.dK (p6 es))))=HB at sB hBd kpB hBC ⊢
   have lkv:(p6 es).length=es.length:=by unfold p6;rw[de9]
   have hprod:o8 (fun l=>A7 l m (o5 rs l)) (es.map (·.1))=T6 p m:=by
     rw[aj3 tp up bl.nk bl.key bl.all (f:=fun l=>A7 l m (o5 rs l)) fun u hu=>by show A7 u m (o5 rs u)=1;rw[hu];rfl,ers]
     rfl
   have pos:=bl5 (g:=fun l=>A7 l m (o5 rs l)) (ks:=es.map (·.1)) (by rw[hprod];exact z0)
   have fl40:∀k∈es.map (·.1),0 < k∧(t6 rs k).length*k≤40∧(t6 rs k).length≤40∧k≤40:=fun k hk=>by
     obtain ⟨r,hr,lr⟩:=bl.key k hk
     have rb:=rsb tp up r hr
     have e1:=N6 (l:=k) (rs:=t6 rs k) fun r hr=>(E1 hr).2
     have e2:=(L9 rs k).length_le
     have k1:0 < k:=by omega
     have e3:(t6 rs k).length*k≤40:=by rw[←e1];omega
     exact ⟨k1,e3,dg5 (dj2 _ k1) e3,by omega⟩
   have s02:e8 H H2:=s1.trans s12
   refine ao0 (fun i σ H6=>∃(cs:List Addr) (v5 v6:Option V),σ=[some (.ref a),some (.int (m:Int)),some (.int ((T6 p m:Nat):Int)),some (.ref d),some (.ref C),v5,v6]∧H6 C=some (.lst (cs.map V.ref))∧C9 (bv6 (G8 H6 [C])) cs (((es.take i).map (·.1)).map (U5 rs m))∧j5 C HB H6)
     ⟨[],none,none,rfl,hBC,C9.nil,j5.refl _ _⟩ (fun i σ H6 _ ⟨_,_,_,_,_,_,k⟩=>k _ _ hBd ndC) ?_ ?_
   · rintro i k v σ H6 hi ⟨cs,v5,v6,rfl,h6C,atc,kb6⟩
     unfold p6 at hi
     rw[df3] at hi
     cases hE:es[i]? with
     |none=>rw[hE] at hi;cases hi
     |some e=>
      rw[hE] at hi
      cases hi
      have he:=dg1 hE
      have hek:e.1∈es.map (·.1):=df9.mpr ⟨e,he,rfl⟩
      have il:i < es.length:=(df1.mp hE).1
      obtain ⟨k1,k2,k3,k4⟩:=fl40 e.1 hek
      obtain ⟨bs,hbs,rbs⟩:=bl.row e he
      have neC:e.2≠C:=g6 hbs hC
      have h6e:H6 e.2=some (.lst (bs.map V.ref)):=kb6 _ _ (by rw[kpB _ (bl.nd e he)];exact s4 _ _ hbs) neC
      have h6d:=kb6 _ _ hBd ndC
      have s26:e8 H2 H6:=sB.kb kb6 hC2
      have lbs:bs.length=o5 rs e.1:=by rw[rbs.1,O3]
      have ecnt:=O3 rs e.1
      refine ⟨_,rfl,_,rfl,d,.ref e.2,rfl,.inl ⟨p6 es,Sum.inl (e.1:Int),.inr ⟨o,h6d⟩,rfl,(bj5 bl.nk he).symm⟩,?_⟩
      refine ⟨_,rfl,.inl ⟨rfl,_,h8.of h6C⟩,_,rfl,_,rfl,_,rfl,_,rfl,e.2,_,rfl,.inl (h8.of h6e),e.1,m,o5 rs e.1,by rw[de9,lbs];rfl,by omega,by omega,fun ra H7 hra s7 h7ra=> ?_⟩
      obtain ⟨d0,bas⟩:=al7 (l:=e.1) (m:=m) (n:=o5 rs e.1) m1
      have jle:jf e.1 (o9 e.1 m (o5 rs e.1)) (t6 rs e.1).length≤2000:=by
        rw[ecnt]
        refine dg5 (show A7 e.1 m (o5 rs e.1)≤_ from cp0 (g:=fun l=>A7 l m (o5 rs l)) pos hek) ?_
        rw[hprod];exact few
      have jne:jf e.1 (o9 e.1 m (o5 rs e.1)) (t6 rs e.1).length≠0:=by
        rw[ecnt]
        have:1≤A7 e.1 m (o5 rs e.1):=pos e.1 hek
        intro y
        have y:A7 e.1 m (o5 rs e.1)=0:=y
        omega
      have fw:=cd4 (l:=e.1) bas k1 40 k3 (ds8 ecnt) (fun r hr=>(E1 hr).2) (cd3 bas _ _ (df2 _) jne) jle
      refine ⟨_,rfl,e.2,bs,t6 rs e.1,ra,o9 e.1 m (o5 rs e.1),e.1,m,rfl,s7 _ _ h6e,t5 rbs fun b _ u x=>s7 _ _ (s26 _ _ x),h7ra,k3,fun r hr=>(E1 hr).2,k1,k2,(L9 rs e.1).nodup up.nd,m1,fun d hd=>N7 hd,fw,fun oo us H8 hoo s8 h8o und ufr atw=> ?_⟩
      have s68:=s7.trans s8
      have lcs:cs.length≤40:=by
        have:=atc.1
        rw[de9,de9,dg7] at this
        omega
      have h7C:=s7 _ _ h6C
      refine ⟨C,_,_,rfl,rfl,s68 _ _ h6C,p8 (by rw[de9];omega),?_⟩
      rw[show cs.map V.ref++[V.ref oo]=(cs++[oo]).map V.ref by rw[df8];rfl]
      refine ⟨cs++[oo],_,_,rfl,c8,?_,(kb6.trans (s68.but C)).upd_a⟩
      rw[ay6 df4,j6 hE,df8,df8]
      refine C9.snoc (atc.imp fun c ways _ h=>h.keep (C2 s68)) ?_
      have nC:∀u,H7 u=none→u∉[C]:=fun u hu z=>by rw[dg3.mp z,h7C] at hu;cases hu
      refine ⟨us,by rw[J2 (nC oo hoo)];exact h8o,?_⟩
      unfold U5
      refine ⟨by rw[atw.1,de9],fun j u x e1 e2=> ?_⟩
      rw[df3] at e2
      obtain ⟨w,hw,ww⟩:=atw.get e1
      rw[hw] at e2
      cases e2
      refine .inl ?_
      rw[J2 (nC u (ufr u (dg1 e1)))]
      exact ww
   · rintro σ H6 ⟨cs,v5,v6,rfl,h6C,atc,kb6⟩
     rw[lkv,dh9] at atc
     have s26:e8 H2 H6:=sB.kb kb6 hC2
     have s06:=s02.trans s26
     have cntk:∀k∈es.map (·.1),(U5 rs m k).length=A7 k m (o5 rs k):=fun k hk=>br5 (fl40 k hk).2.2.1
     refine ⟨_,rfl,_,rfl,a,C,p,cs,(es.map fun (x:Nat×Addr)=>x.1).map (U5 rs m),rfl,s06 _ _ ha,lp,h6C,atc.imp fun c ways _ h=>h.keep (bk8 _ _),fun ways hw x hx=> ?_,fun i=> ?_,fun oo bs ts H7 hoo h7o rowsB pr srt bnd bfr ob kp=> ?_⟩
     · obtain ⟨k,hk,rfl⟩:=df9.mp hw
       obtain ⟨k1,k2,k3,k4⟩:=fl40 k hk
       obtain ⟨w,hw',rfl⟩:=df9.mp hx
       have wo:=au8 (l:=k) (m:=m) (ds:=o9 k m (o5 rs k)) (fun d hd=>(E4 hd).1) 40 k3 (fun r hr=>(E1 hr).2) hw'
       have rr:∀c∈w,K3 k m c.length:=fun c hc=>N7 (wo.right c hc).1
       have fnd:=(L9 rs k).nodup up.nd
       refine ⟨bl4 k1 m1 w rr (wo.perm.nodup_iff.mpr fnd),fun e he=> ?_⟩
       have em:=(Y9 k1 m1 w rr).1 e.1 (df9.mpr ⟨e,he,rfl⟩)
       have em:=(L9 rs k).mem (wo.perm.mem_iff.mp em)
       obtain ⟨r,hr,hxr⟩:=dg8.mp em
       obtain ⟨y,L,hy,pr2,er,_⟩:=up.ring r hr
       rw[er] at hxr
       exact M4 tp hy _ hxr
     · rw[←dx2,aa3 p (U5 rs m) (fun l=>A7 l m (o5 rs l)) _ _ (df2 _) fun k hk=>cntk k (dl7 hk)]
       refine dg5 (cd6 pos i) ?_
       rw[hprod];exact few
     · refine q oo bs ts H7 (s06.free hoo) h7o rowsB ⟨?_,srt,.inr ⟨es.map (·.1),bl.nk,by rw[←ers];exact bl.key,by rw[←ers];exact bl.all,by rw[←ers];exact pr⟩⟩ bnd (fun b hb=>s06.free (bfr b hb)) ob ((Kp.of s06).trans kp)
       rw[pr.length_eq,aa3 p (U5 rs m) (fun l=>A7 l m (o5 rs l)) _ _ (df2 _) cntk,hprod]
end
end My
namespace My
open PySem L2 Mth
section
def Rg (p:List Int)(l:Nat)(r:List Int):Prop:=∃y,In p y∧B8 p y l∧r=l6 p y l
theorem Rg.rot {p:List Int}(t:l9 p){l:Nat}{r:List Int}(h:Rg p l r)(b:Nat)(hb:b < l):Rg p l (r.drop b++r.take b):=by
 obtain ⟨y,hy,py,rfl⟩:=h
 refine ⟨it p b y,J5 t hy b,py.shift t hy b,?_⟩
 refine dj1 fun i=> ?_
 have e1:∀j,(l6 p y l)[j]? =if j < l then some (it p j y) else none:=fun j=>by
   unfold l6
   rw[df3]
   by_cases c:j < l
   · rw[dj7 c,if_pos c];rfl
   · rw[dg0 (by rw[di2];omega),if_neg c];rfl
 have e2:(l6 p (it p b y) l)[i]? =if i < l then some (it p i (it p b y)) else none:=by
   unfold l6
   rw[df3]
   by_cases c:i < l
   · rw[dj7 c,if_pos c];rfl
   · rw[dg0 (by rw[di2];omega),if_neg c];rfl
 rw[e2,←B7]
 by_cases c:i < l - b
 · rw[di1 (by rw[di0,l7];exact c),do0,e1,if_pos (by omega),if_pos (by omega),dn0]
 · rw[di8 (by rw[di0,l7];omega),di0,l7,dt8]
   by_cases c2:i < l
   · rw[if_pos (by omega),e1,if_pos (by omega),if_pos c2]
     have e3:i+b=(i - (l - b))+l:=by omega
     rw[e3,B7,py.back]
   · rw[if_neg (by omega),if_neg c2]
theorem br6 {p:List Int}(t:l9 p){l:Nat}{rs:List (List Int)}(h:∀r∈rs,Rg p l r):∀(i:Nat) {y:List Int×List (List Int)},i≤rs.length→y∈C3 rs i→Rg p l y.1
 |0,y,_,z=>by cases z
 |i+1,y,hi,z=>by
  rcases dg2.mp z with z|z
  · exact br6 t h i (by omega) z
  · obtain ⟨b,hb,rfl⟩:=df9.mp z
    have il:i < rs.length:=by omega
    have eg:rs.getD i []=rs[i]:=by rw[df5,df0 il];rfl
    have hr:=h _ (di5 il)
    have hb:=di9.mp hb
    show Rg p l ((rs.getD i []).drop b++(rs.getD i []).take b)
    rw[eg] at hb ⊢
    have hl:(rs[i]).length=l:=by
      obtain ⟨y,_,_,e⟩:=hr
      rw[e,l7]
    exact hr.rot t b (by omega)
theorem U6 {p:List Int}{l:Nat}{r:List Int}(h:Rg p l r):r.length=l:=by
 obtain ⟨y,_,_,e⟩:=h
 rw[e,l7]
theorem Z0 {p:List Int}(t:l9 p){l:Nat}{rs:List (List Int)}(h:∀r∈rs,Rg p l r):∀(k:Nat) {x:List (List Int)×List (List Int)},k < rs.length→x∈p9 rs k→∀r∈x.1,Rg p l r
 |0,x,hk,z,r,hr=>by
  rw[dg3.mp z] at hr
  have hr:r∈[rs.getD 0 []]:=hr
  rw[dg3.mp hr,df5,df0 hk]
  exact h _ (di5 hk)
 |k+1,x,hk,z,r,hr=>by
  obtain ⟨x',h',z⟩:=dl5.mp z
  obtain ⟨y,hy,rfl⟩:=df9.mp z
  have o:=C5 (fun r hr=>U6 (h r hr)) k (by omega) h'
  rcases dg2.mp hr with w|w
  · exact Z0 t h k (by omega) h' r w
  · rw[dg3.mp w]
    exact br6 t (fun r hr=>h r (o.rows2 r hr)) _ (df2 _) hy
theorem cd7 {p:List Int}(t:l9 p){l:Nat}{ds:List Nat}(hd:∀d∈ds,1≤d):∀(f:Nat) {rs:List (List Int)} {w:List (List (List Int))},rs.length≤f→(∀r∈rs,Rg p l r)→w∈y9 ds f rs→∀c∈w,∀r∈c,Rg p l r
 |0,rs,w,hf,hl,h,c,hc=>by rw[dg3.mp h] at hc;cases hc
 |f+1,rs,w,hf,hl,h,c,hc=>by
  unfold y9 at h
  by_cases c0:rs.length=0
  · rw[if_pos c0] at h
    rw[dg3.mp h] at hc;cases hc
  · rw[if_neg c0] at h
    obtain ⟨d,hdm,h⟩:=dl5.mp h
    unfold O7 at h
    by_cases c2:d≤rs.length
    · rw[if_pos c2] at h
      obtain ⟨x,hx,h⟩:=dl5.mp h
      obtain ⟨w',hw',rfl⟩:=df9.mp h
      have d1:=hd d hdm
      have o:=C5 (fun r hr=>U6 (hl r hr)) (d - 1) (by omega) hx
      rcases dg2.mp hc with z|z
      · exact cd7 t hd f (by have:=o.left;omega) (fun r hr=>hl r (o.rows2 r hr)) hw' c z
      · rw[dg3.mp z]
        exact Z0 t hl (d - 1) (by omega) hx
    · rw[if_neg c2] at h;cases h
theorem cd8 {l k:Nat}(l0:0 < l)(c:dg6 l k=1){Rs:List (List Int)}(h:∀r∈Rs,r.length=l):∃J,B9 l k Rs J:=by
 have it_:=ae3 (d:=Rs.length) l0 c
 have pl:=S8 Rs.length l k
 have fl:=N6 h
 refine ⟨(dj6 (Rs.length*l)).map fun (i:Nat)=>Rs.flatten.getD ((M7 Rs.length l k).idxOf (i:Int)) 0,by rw[de9,di2],?_⟩
 refine dj1 fun n=> ?_
 rw[df3,df3]
 by_cases hn:n < Rs.length*l
 · have hp:n < (M7 Rs.length l k).length:=by omega
   rw[df0 hp,df0 (show n < Rs.flatten.length by omega)]
   have v0:=it_.lo _ (di5 hp)
   have v1:=it_.hi _ (di5 hp)
   show some (x5 _ _)=some (some _)
   congr 1
   unfold x5
   rw[df3,dj7 (by omega)]
   show some (Rs.flatten.getD ((M7 Rs.length l k).idxOf _) 0)=_
   rw[show (((M7 Rs.length l k)[n].toNat:Nat):Int)=(M7 Rs.length l k)[n] by omega,it_.nd.idxOf_getElem n hp,df5,df0 (show n < Rs.flatten.length by omega)]
   rfl
 · rw[dg0 (by omega),dg0 (by omega)];rfl
theorem ap7 {l m:Nat}{c:List (List Int)}(l0:0 < l)(m1:1≤m)(r:K3 l m c.length)(h:∀x∈c,x.length=l):∃k,m=c.length*k∧dg6 l k=1∧B9 l k c (A8 l m c):=by
 obtain ⟨k,e1,e2⟩:=r.parts m1
 obtain ⟨J,j⟩:=cd8 l0 e2 h
 exact ⟨k,e1,e2,by rw[ap2 l0 r.1 e1 e2 j];exact j⟩
inductive Pkd:List (List (Int×Int))→List (List (List (Int×Int)))→Prop
 |nil:Pkd [] []
 |cons {es:List (Int×Int)} {ess:List (List (Int×Int))} {ways:List (List (Int×Int))} {chs:List (List (List (Int×Int)))}:es∈ways→Pkd ess chs→Pkd (es::ess) (ways::chs)
theorem bl9:∀(chs:List (List (List (Int×Int)))) (laid:List (List Int)) {t:List Int},t∈chs.foldl K9 laid→∃t0∈laid,∃ess,Pkd ess chs∧t=p5 t0 ess.flatten
 |[],laid,t,h=>⟨t,h,[],.nil,rfl⟩
 |c::chs,laid,t,h=>by
  obtain ⟨t1,h1,ess,pk,e⟩:=bl9 chs (K9 laid c) h
  obtain ⟨t0,h0,z⟩:=dl5.mp h1
  obtain ⟨es,hes,rfl⟩:=df9.mp z
  refine ⟨t0,h0,es::ess,.cons hes pk,?_⟩
  rw[e,dh1]
  unfold p5
  rw[du1]
theorem av3:∀(es:List (Int×Int)) (t:List Int) {x:Int},0≤x→(∀e∈es,0≤e.1)→x∉es.map (·.1)→x5 (p5 t es) x=x5 t x
 |[],t,x,_,_,_=>rfl
 |e::es,t,x,x0,lo,h=>by
  rw[dj0,dg9,not_or] at h
  show x5 (p5 (t.set e.1.toNat e.2) es) x=_
  rw[av3 es _ x0 (fun e he=>lo e (df6 _ he)) h.2,ac2 x0 (lo e df4) h.1]
theorem aj8:∀(es:List (Int×Int)) (t:List Int),(es.map (·.1)).Nodup→(∀e∈es,0≤e.1∧e.1 < (t.length:Int))→∀e∈es,x5 (p5 t es) e.1=some e.2
 |[],_,_,_,e,h=>by cases h
 |x::es,t,nd,b,e,h=>by
  rw[dj0,dj3] at nd
  have bx:=b x df4
  show x5 (p5 (t.set x.1.toNat x.2) es) e.1=_
  rcases dg9.mp h with rfl|h
  · rw[av3 es _ bx.1 (fun e he=>(b e (df6 _ he)).1) nd.1]
    exact ae2 (by omega)
  · exact aj8 es _ nd.2 (fun e he=>by rw[dr6];exact b e (df6 _ he)) e h
end
end My
namespace My
open PySem L2 Mth
section
theorem az2 {p:List Int}{rs:List (List Int)}(up:w6 p p.length rs){r:List Int}(hr:r∈rs):Rg p r.length r:=by
 obtain ⟨y,L,hy,pr,er,_⟩:=up.ring r hr
 exact ⟨y,hy,by rw[er,l7];exact pr,by rw[er,l7]⟩
theorem ad4 {p:List Int}(t:l9 p){l:Nat}{r:List Int}(h:Rg p l r){x:Int}(hx:x∈r):In p x∧B8 p x l∧K8 p x=l:=by
 obtain ⟨y,hy,py,rfl⟩:=h
 obtain ⟨j,_,rfl⟩:=x6.mp hx
 have:=py.shift t hy j
 exact ⟨J5 t hy j,this,M5 this⟩
structure dd1 (p:List Int)(rs:List (List Int))(m k:Nat)(es:List (Int×Int))(w:List (List (List Int))):Prop where
 eq:es=L4 k m w
 perm:(w.map dt0).flatten.Perm (t6 rs k).flatten
 right:∀c∈w,K3 k m c.length
 rg:∀c∈w,∀r∈c,Rg p k r
 nd:(es.map (·.1)).Nodup
 keys:∀x∈es.map (·.1),In p x∧K8 p x=k
theorem bd9 {p:List Int}(t:l9 p)(lp:p.length≤40){rs:List (List Int)}(up:w6 p p.length rs){m k:Nat}(m1:1≤m)(k1:0 < k){es:List (Int×Int)}(h:es∈U5 rs m k):∃w,dd1 p rs m k es w:=by
 obtain ⟨w,hw,rfl⟩:=df9.mp h
 have fr:∀r∈t6 rs k,Rg p k r:=fun r hr=>by
   have:=az2 up (E1 hr).1
   rw[(E1 hr).2] at this
   exact this
 have fl:=U1 t up
 have e1:=N6 (l:=k) (rs:=t6 rs k) fun r hr=>(E1 hr).2
 have e2:=(L9 rs k).length_le
 have k3:(t6 rs k).length≤40:=dg5 (dj2 _ k1) (by rw[←e1];omega)
 have wo:=au8 (l:=k) (m:=m) (ds:=o9 k m (o5 rs k)) (fun d hd=>(E4 hd).1) 40 k3 (fun r hr=>(E1 hr).2) hw
 have rr:∀c∈w,K3 k m c.length:=fun c hc=>N7 (wo.right c hc).1
 have fnd:=(L9 rs k).nodup up.nd
 refine ⟨w,rfl,wo.perm,rr,cd7 t (fun d hd=>(E4 hd).1) 40 k3 fr hw,bl4 k1 m1 w rr (wo.perm.nodup_iff.mpr fnd),fun x hx=> ?_⟩
 obtain ⟨r,hr,hxr⟩:=dg8.mp (wo.perm.mem_iff.mp ((Y9 k1 m1 w rr).1 x hx))
 obtain ⟨a,_,b⟩:=ad4 t (fr r hr) hxr
 exact ⟨a,b⟩
theorem ap8 {p:List Int}{f:Nat→List (List (Int×Int))}:∀(ks:List Nat) {ess:List (List (Int×Int))},ks.Nodup→(∀k∈ks,∀es∈f k,(es.map (·.1)).Nodup∧∀x∈es.map (·.1),In p x∧K8 p x=k)→Pkd ess (ks.map f)→(ess.flatten.map (·.1)).Nodup∧(∀x∈ess.flatten.map (·.1),In p x∧K8 p x∈ks)∧∀k∈ks,∃es∈ess,es∈f k
 |[],ess,_,_,pk=>by
  cases pk
  exact ⟨dn1,(fun x hx=>by cases hx),(fun k hk=>by cases hk)⟩
 |k::ks,ess,nk,h,pk=>by
  cases pk with
  |cons hes pk=>
   rename_i es ess
   rw[dj3] at nk
   obtain ⟨a,b,c⟩:=ap8 ks nk.2 (fun k hk=>h k (df6 _ hk)) pk
   obtain ⟨d,e⟩:=h k df4 es hes
   rw[dh1,df8]
   refine ⟨?_,fun x hx=> ?_,fun k' hk'=> ?_⟩
   · rw[dk8]
     refine ⟨d,a,fun x hx y hy z=> ?_⟩
     have e1:=(e x hx).2
     have e2:=(b y hy).2
     rw[←z,e1] at e2
     exact nk.1 e2
   · rcases dg2.mp hx with z|z
     · exact ⟨(e x z).1,by rw[(e x z).2];exact df4⟩
     · exact ⟨(b x z).1,df6 _ (b x z).2⟩
   · rcases dg9.mp hk' with rfl|hk'
     · exact ⟨es,df4,hes⟩
     · obtain ⟨es',h1,h2⟩:=c k' hk'
       exact ⟨es',df6 _ h1,h2⟩
theorem bc8 {p:List Int}{m:Nat}(tp:l9 p)(lp:p.length≤40)(m1:1≤m){ks:List Nat}(nk:ks.Nodup)(h1:∀k∈ks,∃r∈j7 p p.length,r.length=k)(h2:∀r∈j7 p p.length,r.length∈ks){t:List Int}(ht:t∈L3 p (ks.map (U5 (j7 p p.length) m))):l9 t∧y6 t (m:Int) p:=by
 have up:=D8 tp
 generalize j7 p p.length=rs at up h1 h2 ht
 have k0:∀k∈ks,0 < k:=fun k hk=>by
   obtain ⟨r,hr,e⟩:=h1 k hk
   have:=(rsb tp up r hr).1
   omega
 have hlen:=bc5 p _ t ht
 obtain ⟨t0,h0,ess,pk,et⟩:=bl9 _ _ ht
 rw[dg3.mp h0] at et
 obtain ⟨knd,kin,kall⟩:=ap8 (p:=p) ks nk (fun k hk es hes=>by
   obtain ⟨w,o⟩:=bd9 tp lp up m1 (k0 k hk) hes
   exact ⟨o.nd,o.keys⟩) pk
 have put:=aj8 ess.flatten p knd fun e he=>(kin e.1 (df9.mpr ⟨e,he,rfl⟩)).1
 rw[←et] at put
 have key:∀x,In p x→∃J,G0 t J∧at1 p m J x:=fun x hx=>by
   obtain ⟨r0,hr0,hxr⟩:=dg8.mp (up.all x hx.1 hx.2)
   obtain ⟨es,hes,hef⟩:=kall r0.length (h2 r0 hr0)
   have k1:=k0 _ (h2 r0 hr0)
   obtain ⟨w,o⟩:=bd9 tp lp up m1 k1 hef
   have xf:x∈(t6 rs r0.length).flatten:=dg8.mpr ⟨r0,by unfold t6;exact dk7.mpr ⟨hr0,decide_eq_true rfl⟩,hxr⟩
   obtain ⟨cf,hcf,hxc⟩:=dg8.mp (o.perm.mem_iff.mpr xf)
   obtain ⟨c,hc,rfl⟩:=df9.mp hcf
   obtain ⟨row,hrow,hxrow⟩:=dg8.mp hxc
   obtain ⟨a,ha⟩:=dh8.mp hrow
   have al:=(df1.mp ha).1
   have rows:∀r∈c,r.length=r0.length:=fun r hr=>U6 (o.rg c hc r hr)
   obtain ⟨kk,e1,e2,js⟩:=ap7 k1 m1 (o.right c hc) rows
   obtain ⟨y,hy,py,er⟩:=o.rg c hc row hrow
   rw[er] at hxrow
   obtain ⟨b,hb,ex⟩:=x6.mp hxrow
   have pm:=js.perm k1 e2
   have cnd:c.flatten.Nodup:=by
     have n1:((w.map dt0).flatten).Nodup:=o.perm.nodup_iff.mpr ((L9 rs _).nodup up.nd)
     exact (List.pairwise_flatten.mp n1).1 _ (df9.mpr ⟨c,hc,rfl⟩)
   refine ⟨A8 r0.length m c,⟨fun z=> ?_,pm.nodup_iff.mpr cnd,fun z hz=> ?_,fun j hj=> ?_⟩,r0.length,kk,c,a,b,y,k1,e1,e2,rows,js,al,hb,hy,py,by rw[df5,ha];exact er,ex⟩
   · have:=js.len
     rw[z] at this
     have p1:0 < c.length*r0.length:=dn5 (by omega) k1
     rw[←this] at p1
     exact absurd p1 (by simp)
   · obtain ⟨r,hr,hzr⟩:=dg8.mp (pm.mem_iff.mp hz)
     exact (ad4 tp (o.rg c hc r hr) hzr).1.1
   · refine put ((A8 r0.length m c).getD j 0,(A8 r0.length m c).getD ((j+1)%(A8 r0.length m c).length) 0) (dg8.mpr ⟨es,hes,?_⟩)
     rw[o.eq]
     exact dl5.mpr ⟨c,hc,df9.mpr ⟨j,di9.mpr hj,rfl⟩⟩
 have qs:∀n,n≤p.length→∃qs:List (List Int),(∀J∈qs,G0 t J)∧∀x:Int,0≤x→x < (n:Int)→∃J∈qs,at1 p m J x:=fun n=>by
   induction n with
   |zero=>exact fun _=>⟨[],(fun J hJ=>by cases hJ),fun x a b=>by omega⟩
   |succ n ih=>
    intro hn
    obtain ⟨qs,a,b⟩:=ih (by omega)
    obtain ⟨J,c,d⟩:=key (n:Int) ⟨by omega,by omega⟩
    refine ⟨J::qs,fun J' hJ'=> ?_,fun x x0 x1=> ?_⟩
    · rcases dg9.mp hJ' with rfl|z
      · exact c
      · exact a J' z
    · by_cases e:x=(n:Int)
      · rw[e];exact ⟨J,df4,d⟩
      · obtain ⟨J',h1,h2⟩:=b x x0 (by omega)
        exact ⟨J',df6 _ h1,h2⟩
 obtain ⟨qs,a,b⟩:=qs p.length (df2 _)
 exact bp4 tp hlen a fun x hx=>b x hx.1 hx.2
theorem ap6.root {p:List Int}{m:Nat}{ts:List (List Int)}(h:ap6 p m ts)(tp:l9 p)(lp:p.length≤40)(m1:1≤m):∀t∈ts,l9 t∧y6 t (m:Int) p:=fun t ht=>by
 rcases h.src with z|⟨ks,nk,h1,h2,pr⟩
 · have:=h.len
   rw[z] at this
   rw[dp0.mp this] at ht
   cases ht
 · exact bc8 tp lp m1 nk h1 h2 (pr.mem_iff.mp ht)
end
end My
namespace My
open PySem L2 Mth
section
theorem U7 {α β:Type}{f:α→List β}{q:β→Bool}{g:α→Bool}:∀{xs:List α},(∀x∈xs,(f x).countP q=if g x=true then 1 else 0)→(xs.flatMap f).countP q=xs.countP g
 |[],_=>rfl
 |x::xs,h=>by
  rw[dk9,dw5,h x df4,U7 fun y hy=>h y (df6 _ hy),dq7,dn0]
theorem cd9 {z:Int}:∀{xs:List Int},xs.Nodup→z∈xs→xs.countP (fun x=>decide (x=z))=1
 |x::xs,nd,h=>by
  rw[dj3] at nd
  rw[dq7]
  by_cases c:x=z
  · rw[if_pos (decide_eq_true c),dm8.mpr fun y hy e=>nd.1 (by rw[c,←of_decide_eq_true e];exact hy)]
  · rw[if_neg (by rw[decide_eq_false c];decide),cd9 nd.2 ((dg9.mp h).resolve_left fun e=>c e.symm)]
theorem br8 {z:Nat}:∀{xs:List Nat},xs.Nodup→z∈xs→xs.countP (fun x=>decide (x=z))=1
 |x::xs,nd,h=>by
  rw[dj3] at nd
  rw[dq7]
  by_cases c:x=z
  · rw[if_pos (decide_eq_true c),dm8.mpr fun y hy e=>nd.1 (by rw[c,←of_decide_eq_true e];exact hy)]
  · rw[if_neg (by rw[decide_eq_false c];decide),br8 nd.2 ((dg9.mp h).resolve_left fun e=>c e.symm)]
theorem av4 (rs:List (List Int)):∀i,i≤rs.length→(C3 rs i).map (fun y=>y.1.getD 0 0)=(rs.take i).flatten
 |0,_=>rfl
 |i+1,h=>by
  show (C3 rs i++U4 rs i (rs.getD i [])).map _=_
  have il:i < rs.length:=by omega
  have eg:rs.getD i []=rs[i]:=by rw[df5,df0 il];rfl
  rw[df8,av4 rs i (by omega),List.take_succ,df0 il,di7]
  congr 1
  show _=[rs[i]].flatten
  rw[dl8,eg]
  unfold U4
  rw[dj4]
  refine dj1 fun b=> ?_
  rw[df3]
  by_cases hb:b < rs[i].length
  · rw[dj7 hb,df0 hb]
    show some ((rs[i].drop b++rs[i].take b).getD 0 0)=_
    rw[df5,di1 (by rw[di0];omega),do0,dn4,df0 hb];rfl
  · rw[dg0 (by rw[di2];omega),dg0 (by omega)];rfl
theorem ci8 {rs:List (List Int)}(nd:rs.flatten.Nodup){z:Int}(hz:z∈rs.flatten):(C3 rs rs.length).countP (fun y=>decide (y.1.getD 0 0=z))=1:=by
 have e:=av4 rs rs.length (df2 _)
 rw[dh9] at e
 have h:((C3 rs rs.length).map (fun y=>y.1.getD 0 0)).countP (fun x=>decide (x=z))=1:=by
   rw[e];exact cd9 nd hz
 rw[ds0] at h
 exact h
theorem ag7:∀{a b:List Int},a.Nodup→(∀x∈a,x∈b)→a.length≤b.length
 |[],_,_,_=>dh2 _
 |x::a,b,nd,h=>by
  rw[dj3] at nd
  have hx:=h x df4
  have:=ag7 (b:=b.erase x) nd.2 fun y hy=>(List.mem_erase_of_ne (fun (e:y=x)=>nd.1 (by rw[←e];exact hy))).mpr (h y (df6 _ hy))
  rw[List.length_erase_of_mem hx] at this
  have:=List.length_pos_of_mem hx
  rw[dk0]
  omega
def hdC (c:List (List Int)):List Int:=c.map fun r=>r.getD 0 0
theorem br9 {p:List Int}{l:Nat}(l0:0 < l){r:List Int}(h:Rg p l r):r=l6 p (r.getD 0 0) l∧In p (r.getD 0 0)∧B8 p (r.getD 0 0) l:=by
 obtain ⟨y,hy,py,rfl⟩:=h
 have e:(l6 p y l).getD 0 0=y:=by rw[df5,Q5 l0];rfl
 rw[e]
 exact ⟨rfl,hy,py⟩
theorem ag4 {p:List Int}{l:Nat}(l0:0 < l){c:List (List Int)}(h:∀r∈c,Rg p l r):c=(hdC c).map fun z=>l6 p z l:=by
 unfold hdC
 rw[dj4]
 conv=>lhs;rw[←ds3 c]
 exact dk6 fun r hr=>(br9 l0 (h r hr)).1
theorem ap9 {l:Nat}{rs:List (List Int)}(hl:∀r∈rs,r.length=l)(nd:rs.flatten.Nodup){k:Nat}{x:List (List Int)×List (List Int)}(hk:k < rs.length)(hx:x∈p9 rs k):x.1.flatten.Nodup∧x.2.flatten.Nodup∧(∀u∈x.1.flatten,u∉x.2.flatten)∧∀u,u∈rs.flatten↔u∈x.1.flatten∨u∈x.2.flatten:=by
 have o:=C5 hl k hk hx
 have n:=o.perm.nodup_iff.mpr nd
 rw[dk8] at n
 exact ⟨n.1,n.2.1,fun u h1 h2=>n.2.2 u h1 u h2 rfl,fun u=>by rw[←o.perm.mem_iff,dg2]⟩
theorem bc9 {p:List Int}(tp:l9 p){l:Nat}(l0:0 < l){rs:List (List Int)}(hr:∀r∈rs,Rg p l r)(nd:rs.flatten.Nodup){z:Nat→Int}(h0:(rs.getD 0 []).getD 0 0=z 0){n:Nat}(hz:∀a,a < n→z a∈rs.flatten)(ap:∀a b,a < b→b < n→z b∉l6 p (z a) l):∀k,k < rs.length→k < n→(p9 rs k).countP (fun x=>decide (hdC x.1=(dj6 (k+1)).map z))=1
 |0,hk,_=>by
  show List.countP _ [([rs.getD 0 []],rs.drop 1)]=1
  rw[List.countP_singleton,if_pos]
  refine decide_eq_true ?_
  show [(rs.getD 0 []).getD 0 0]=[z 0]
  rw[h0]
 |k+1,hk,hn=>by
  show ((p9 rs k).flatMap nxC).countP _=1
  rw[U7 (g:=fun x=>decide (hdC x.1=(dj6 (k+1)).map z)),bc9 tp l0 hr nd h0 hz ap k (by omega) (by omega)]
  intro x hx
  have o:=C5 (fun r hr'=>U6 (hr r hr')) k (by omega) hx
  obtain ⟨n1,n2,n3,n4⟩:=ap9 (fun r hr'=>U6 (hr r hr')) nd (by omega) hx
  unfold nxC
  rw[ds0]
  by_cases c:hdC x.1=(dj6 (k+1)).map z
  · rw[if_pos (decide_eq_true c)]
    have hzk:z (k+1)∈x.2.flatten:=by
      refine ((n4 _).mp (hz (k+1) hn)).resolve_left fun w=> ?_
      rw[ag4 l0 (Z0 tp hr k (by omega) hx),c,dj4] at w
      obtain ⟨r,hr',hw⟩:=dg8.mp w
      obtain ⟨a,ha,rfl⟩:=df9.mp hr'
      exact ap a (k+1) (di9.mp ha) hn hw
    refine Eq.trans ?_ (ci8 n2 hzk)
    refine ds5 fun y hy=> ?_
    show decide (hdC (x.1++[y.1])=(dj6 (k+1+1)).map z)=true↔decide (y.1.getD 0 0=z (k+1))=true
    rw[dr8,df8,decide_eq_true_iff,decide_eq_true_iff]
    unfold hdC at c ⊢
    rw[df8,c]
    constructor
    · intro e
      have:=List.append_cancel_left e
      exact (List.cons.inj this).1
    · intro e
      show _++[y.1.getD 0 0]=_++[z (k+1)]
      rw[e]
  · rw[if_neg (by rw[decide_eq_false c];decide),dm8]
    intro y hy e
    have e:hdC (x.1++[y.1])=(dj6 (k+1+1)).map z:=of_decide_eq_true e
    unfold hdC at c e
    rw[dr8,df8,df8] at e
    refine c (List.append_inj e ?_).1
    rw[de9,de9,di2,o.len]
end
end My
namespace My
open PySem L2 Mth
section
theorem cv8 {t:List Int}(tt:l9 t){x:Int}(hx:In t x){L:Nat}(h:B8 t x L){i j:Nat}(hi:i < L)(hj:j < L)(e:it t i x=it t j x):i=j:=by
 have key:∀{i j:Nat},i≤j→j < L→it t i x=it t j x→i=j:=fun {i j} c hj e=>by
   have e2:it t (j - i) (it t i x)=it t i x:=by rw[←B7,dp8 c,e]
   obtain ⟨q,hq⟩:=bp0 (h.shift tt hx i) e2
   rcases q with _|q
   · omega
   · rw[dy0] at hq;omega
 rcases Nat.le_total i j with c|c
 · exact key c hj e
 · exact (key c hi e.symm).symm
theorem al8 {p t:List Int}{m:Nat}(tt:l9 t)(pw:y6 t (m:Int) p){x:Int}(hx:In t x)(i:Nat):it p i x=it t (m*i) x:=by
 obtain ⟨L,hL⟩:=ai1 tt hx
 exact at3 tt pw hx hL (by rw[dy4];rfl) i
structure ad5 (t:List Int)(m l:Nat)(x:Int)(d k:Nat):Prop where
 per:B8 t x (d*l)
 d1:1≤d
 em:m=d*k
 co:dg6 l k=1
 right:dg6 (d*l) m=d
theorem cp1 {p t:List Int}{m l:Nat}(tt:l9 t)(pw:y6 t (m:Int) p){x:Int}(hx:In t x)(hl:B8 p x l):∃d k,ad5 t m l x d k:=by
 obtain ⟨L,hL⟩:=ai1 tt hx
 have el:=hl.uniq (aw9 tt pw hx hL (m:=m) (by rw[dy4];rfl))
 have gp:0 < dg6 L m:=do7 _ hL.pos
 have cp:dg6 (L/dg6 L m) (m/dg6 L m)=1:=dp6 gp
 have e1:L=dg6 L m*l:=by rw[el,dq8 (dq6 L m)]
 have e2:m=dg6 L m*(m/dg6 L m):=(dq8 (dm9 L m)).symm
 refine ⟨dg6 L m,m/dg6 L m,by rw[←e1];exact hL,gp,e2,by rw[el];exact cp,by rw[←e1]⟩
theorem ad5.apart {p t:List Int}{m l:Nat}(tt:l9 t)(pw:y6 t (m:Int) p){x:Int}(hx:In t x){d k:Nat}(h:ad5 t m l x d k)(l0:0 < l){a b:Nat}(hab:a < b)(hb:b < d):it t b x∉l6 p (it t a x) l:=fun w=>by
 obtain ⟨j,hj,e⟩:=x6.mp w
 rw[al8 tt pw (J5 tt hx a),←B7,←R4 h.per.back (m*j+a)] at e
 have dl:d≤d*l:=dj2 _ l0
 have e1:=cv8 tt hx h.per (i:=b) (j:=(m*j+a)%(d*l)) (by omega) (dm6 _ (by omega)) e
 have e2:b%d=a%d:=by
   rw[e1,Nat.mod_mod_of_dvd _ (Nat.dvd_mul_right d l),h.em,dm5,dy9]
 rw[dl4 hb,dl4 (show a < d by omega)] at e2
 omega
def aa4 (p t:List Int)(x:Int)(l d:Nat):List (List Int):=(dj6 d).map fun a=>l6 p (it t a x) l
theorem aj9 (p t:List Int)(x:Int)(l d:Nat):(aa4 p t x l d).length=d:=by unfold aa4;rw[de9,di2]
theorem ad5.join {p t:List Int}{m l:Nat}(tt:l9 t)(pw:y6 t (m:Int) p){x:Int}(hx:In t x){d k:Nat}(h:ad5 t m l x d k)(l0:0 < l):B9 l k (aa4 p t x l d) (l6 t x (d*l)):=by
 have rl:=aj9 p t x l d
 have rows:∀r∈aa4 p t x l d,r.length=l:=fun r hr=>by
   obtain ⟨a,_,rfl⟩:=df9.mp hr
   exact l7 _ _ _
 have fg:=X9 l0 rows
 refine ⟨by rw[l7,rl],?_⟩
 rw[rl]
 refine dj1 fun n=> ?_
 rw[df3,df3]
 by_cases hn:n < d*l
 · have en:n/l*l+n%l=n:=by rw[dl2];exact dv7 n l
   have ha:=ak9 hn
   have hb:=dm6 n l0
   have f1:=fg.2 (n/l) (n%l) (by rw[rl];exact ha) hb
   rw[en] at f1
   have g1:(aa4 p t x l d).getD (n/l) []=l6 p (it t (n/l) x) l:=by
     unfold aa4
     rw[df5,df3,dj7 ha];rfl
   rw[f1,g1,Q5 hb]
   unfold M7
   rw[df3,dj7 hn]
   have pl:=ac5 (k:=k) (step:=n%l) ha l0
   show some (x5 (l6 t x (d*l)) ((G3 d l k (n/l) (n%l):Nat):Int))=some (some _)
   unfold x5
   rw[di4,Q5 pl,al8 tt pw (J5 tt hx _),←B7,←aw8 ha l0,R4 h.per.back,←h.em,dn0,dl2]
 · rw[dg0 (by rw[S8];omega),dg0 (by rw[fg.1,rl];omega)];rfl
def M3 (t:List Int)(es:List (Int×Int)):Bool:=es.all fun e=>decide (nx t e.1=e.2)
theorem az3 (t:List Int)(a b:List (Int×Int)):M3 t (a++b)=(M3 t a&&M3 t b):=List.all_append
theorem az4 {t:List Int}{es:List (Int×Int)}:M3 t es=true↔∀e∈es,nx t e.1=e.2:=by
 unfold M3
 rw[dp2]
 exact ⟨fun h e he=>of_decide_eq_true (h e he),fun h e he=>decide_eq_true (h e he)⟩
theorem ci9 {p t:List Int}{m l:Nat}(tp:l9 p)(tt:l9 t)(pw:y6 t (m:Int) p)(m1:1≤m)(l0:0 < l){c:List (List Int)}(hc:∀r∈c,Rg p l r)(nd:c.flatten.Nodup)(rd:K3 l m c.length){x:Int}{d k:Nat}(ra:ad5 t m l x d k)(hx:In t x)(h0:(c.getD 0 []).getD 0 0=x):
   M3 t (C0 (A8 l m c))=true↔c.length=d∧hdC c=(dj6 d).map fun a=>it t a x:=by
 have rows:∀r∈c,r.length=l:=fun r hr=>U6 (hc r hr)
 have pt:p.length=t.length:=pw.1
 constructor
 · intro ok
   have ok:=az4.mp ok
   obtain ⟨kk,e1,e2,js⟩:=ap7 l0 m1 rd rows
   generalize A8 l m c=J at ok js
   have pm:=js.perm l0 e2
   have Jl:=js.len
   have c1:c.length≤c.length*l:=dj2 _ l0
   have inJ:∀u∈J,In p u:=fun u hu=>by
     obtain ⟨r,hr,hur⟩:=dg8.mp (pm.mem_iff.mp hu)
     exact (ad4 tp (hc r hr) hur).1
   have ro:G0 t J:=⟨fun z=>by
       rw[z] at Jl
       have:=rd.1
       simp only[dv6] at Jl
       omega,pm.nodup_iff.mpr nd,fun u hu=>(inJ u hu).1,fun j hj=>by
       have hm:J.getD j 0∈J:=by rw[D0 hj];exact di5 hj
       have hi:=inJ _ hm
       rw[ac4 (p:=t) ⟨hi.1,by rw[←pt];exact hi.2⟩]
       exact congrArg some (ok (J.getD j 0,J.getD ((j+1)%J.length) 0) (df9.mpr ⟨j,di9.mpr hj,rfl⟩))⟩
   have pos0:∀a,G3 c.length l kk a 0=a:=fun a=>by
     unfold G3
     rw[dr4,Nat.zero_mod,ds9,dn4]
   have J0:J.getD 0 0=x:=by
     have:=js.get l0 rows (a:=0) (b:=0) (by have:=rd.1;omega) l0
     rw[pos0] at this
     rw[this,h0]
   have jl0:0 < J.length:=by have:=rd.1;omega
   have pr:=ro.per jl0
   rw[J0,Jl] at pr
   have ed:c.length=d:=Nat.eq_of_mul_eq_mul_right l0 (pr.uniq ra.per)
   refine ⟨ed,?_⟩
   refine dj1 fun a=> ?_
   unfold hdC
   rw[df3,df3]
   by_cases ha:a < c.length
   · rw[dj7 (by omega),df0 ha]
     have g:=js.get l0 rows (a:=a) (b:=0) ha l0
     rw[pos0] at g
     have i1:=ro.it jl0 a
     rw[J0,dr1,dl4 (by omega),g] at i1
     have eg:c.getD a []=c[a]:=by rw[df5,df0 ha];rfl
     rw[eg] at i1
     exact congrArg some i1.symm
   · rw[dg0 (by omega),dg0 (by rw[di2];omega)];rfl
 · rintro ⟨ed,eh⟩
   have ec:c=aa4 p t x l d:=by
     rw[ag4 l0 hc,eh,dj4];rfl
   have j:=ra.join tt pw hx l0
   have ej:A8 l m c=l6 t x (d*l):=by
     rw[ec]
     exact ap2 l0 (by rw[aj9];exact ra.d1) (by rw[aj9];exact ra.em) ra.co j
   rw[ej,az4]
   intro e he
   obtain ⟨i,hi,rfl⟩:=df9.mp he
   have hi:=di9.mp hi
   rw[l7] at hi
   show nx t ((l6 t x (d*l)).getD i 0)=(l6 t x (d*l)).getD ((i+1)%(l6 t x (d*l)).length) 0
   have hp:0 < d*l:=by omega
   rw[l7,df5,Q5 hi,df5,Q5 (dm6 _ hp),R4 ra.per.back]
   rfl
theorem av5 {rs:List (List Int)}:∀(k:Nat) {x:List (List Int)×List (List Int)},x∈p9 rs k→x.1.getD 0 []=rs.getD 0 []
 |0,x,h=>by rw[dg3.mp h];rfl
 |k+1,x,h=>by
  obtain ⟨x',h',z⟩:=dl5.mp h
  obtain ⟨y,hy,rfl⟩:=df9.mp z
  have l1:=(aj4 k h').2.2
  rw[←av5 k h']
  show (x'.1++[y.1]).getD 0 []=_
  rw[df5,di1 (by omega),df5]
theorem bv7 (l m n:Nat):(o9 l m n).Nodup:=by
 unfold o9
 refine List.Nodup.sublist List.filter_sublist ?_
 rw[dh3,dn6]
 exact (dh3.mp du9).imp fun h e=>h (by omega)
theorem bv8 {l m n d:Nat}(d1:1≤d)(dn:d≤n)(h:dg6 (d*l) m=d):d∈o9 l m n:=by
 unfold o9
 exact dk7.mpr ⟨df9.mpr ⟨d - 1,di9.mpr (by omega),by omega⟩,decide_eq_true h⟩
theorem bm0 {p t:List Int}{m l n:Nat}(tp:l9 p)(tt:l9 t)(pw:y6 t (m:Int) p)(m1:1≤m)(l0:0 < l):∀(f:Nat) {rs:List (List Int)},rs.length≤f→rs.length≤n→(∀r∈rs,Rg p l r)→rs.flatten.Nodup→(∀u∈rs.flatten,nx t u∈rs.flatten)→
   (y9 (o9 l m n) f rs).countP (fun w=>M3 t (L4 l m w))=1
 |0,rs,hf,_,_,_,_=>rfl
 |f+1,rs,hf,hn,hr,nd,cl=>by
  unfold y9
  by_cases c:rs.length=0
  · rw[if_pos c];rfl
  · rw[if_neg c]
    have rl:∀r∈rs,r.length=l:=fun r hr'=>U6 (hr r hr')
    have pt:p.length=t.length:=pw.1
    have g0:rs.getD 0 []∈rs:=by
      rw[df5,df0 (show 0 < rs.length by omega)]
      exact di5 _
    obtain ⟨h1,h2,h3⟩:=br9 l0 (hr _ g0)
    have x0m:(rs.getD 0 []).getD 0 0∈rs.flatten:=dg8.mpr ⟨_,g0,by
      have hl:=rl _ g0
      rw[D0 (show 0 < (rs.getD 0 []).length by omega)]
      exact di5 _⟩
    generalize e0:(rs.getD 0 []).getD 0 0=x at h1 h2 h3 x0m
    have hx:In t x:=⟨h2.1,by rw[←pt];exact h2.2⟩
    obtain ⟨d,k,ra⟩:=cp1 tt pw hx h3
    have zin:∀a,it t a x∈rs.flatten:=fun a=>by
      induction a with
      |zero=>exact x0m
      |succ a ih=>exact cl _ ih
    have fl:=N6 rl
    have dle:d≤rs.length:=by
      have:=ag7 (P1 tt hx ra.per.least) (b:=rs.flatten) (fun u hu=>by
        obtain ⟨j,_,rfl⟩:=x6.mp hu
        exact zin j)
      rw[l7,fl] at this
      exact Nat.le_of_mul_le_mul_right this l0
    have din:d∈o9 l m n:=bv8 ra.d1 (by omega) ra.right
    have ap:∀a b,a < b→b < d→it t b x∉l6 p (it t a x) l:=fun a b h1 h2=>ra.apart tt pw hx l0 h1 h2
    rw[U7 (g:=fun d'=>decide (d'=d)),br8 (bv7 l m n) din]
    intro d' hd'
    have d1:=(E4 hd').1
    unfold O7
    by_cases c2:d'≤rs.length
    · rw[if_pos c2]
      have okc:∀x'∈p9 rs (d' - 1),(M3 t (C0 (A8 l m x'.1))=true↔x'.1.length=d∧hdC x'.1=(dj6 d).map fun a=>it t a x):=fun x' hx'=>by
        have o:=C5 rl (d' - 1) (by omega) hx'
        obtain ⟨n1,n2,n3,n4⟩:=ap9 rl nd (by omega) hx'
        refine ci9 tp tt pw m1 l0 (Z0 tp hr (d' - 1) (by omega) hx') n1 ?_ ra hx (by rw[av5 _ hx',e0])
        rw[o.len,dp8 d1]
        exact N7 hd'
      rw[U7 (g:=fun x'=>M3 t (C0 (A8 l m x'.1)))]
      · by_cases c3:d'=d
        · subst c3
          rw[if_pos (decide_eq_true rfl)]
          have:=bc9 tp l0 hr nd (z:=fun a=>it t a x) e0 (n:=d') (fun a _=>zin a) ap (d' - 1) (by omega) (by omega)
          refine Eq.trans ?_ this
          refine ds5 fun x' hx'=> ?_
          have o:=C5 rl (d' - 1) (by omega) hx'
          rw[okc x' hx',decide_eq_true_iff,o.len,dp8 d1]
          exact ⟨fun h=>h.2,fun h=>⟨rfl,h⟩⟩
        · rw[if_neg (by rw[decide_eq_false c3];decide),dm8]
          intro x' hx' ok
          have o:=C5 rl (d' - 1) (by omega) hx'
          have:=((okc x' hx').mp ok).1
          rw[o.len,dp8 d1] at this
          exact c3 this
      · intro x' hx'
        have o:=C5 rl (d' - 1) (by omega) hx'
        obtain ⟨n1,n2,n3,n4⟩:=ap9 rl nd (by omega) hx'
        rw[ds0]
        have ee:∀w,M3 t (L4 l m (w++[x'.1]))=(M3 t (L4 l m w)&&M3 t (C0 (A8 l m x'.1))):=fun w=>by rw[bl3,az3]
        by_cases c3:M3 t (C0 (A8 l m x'.1))=true
        · rw[if_pos c3]
          refine Eq.trans ?_ (bm0 (n:=n) tp tt pw m1 l0 f (rs:=x'.2) (by have:=o.left;omega) (by have:=o.left;omega) (fun r hr'=>hr r (o.rows2 r hr')) n2 ?_)
          · refine ds5 fun w hw=> ?_
            show M3 t (L4 l m (w++[x'.1]))=true↔_
            rw[ee,c3,Bool.and_true]
          · intro u hu
            have hur:u∈rs.flatten:=(n4 u).mpr (.inr hu)
            refine ((n4 _).mp (cl u hur)).resolve_left fun w=> ?_
            obtain ⟨q1,q2⟩:=(okc x' hx').mp c3
            have ec:x'.1=aa4 p t x l d:=by
              rw[ag4 l0 (Z0 tp hr (d' - 1) (by omega) hx'),q2,dj4];rfl
            have pm:=(ra.join (p:=p) tt pw hx l0).perm l0 ra.co
            rw[←ec] at pm
            have w:=pm.mem_iff.mpr w
            obtain ⟨j,hj,e⟩:=x6.mp w
            obtain ⟨r,hr',hur'⟩:=dg8.mp hur
            have hui:=(ad4 tp (hr r hr') hur').1
            have hut:In t u:=⟨hui.1,by rw[←pt];exact hui.2⟩
            have e3:nx t u=nx t (it t (j+(d*l - 1)) x):=by
              rw[e]
              show it t j x=it t (j+(d*l - 1)+1) x
              have:=ra.per.pos
              rw[show j+(d*l - 1)+1=j+d*l by omega,B7,ra.per.back]
            have e4:=as0 tt hut (J5 tt hx _) e3
            rw[←R4 ra.per.back] at e4
            have:u∈l6 t x (d*l):=x6.mpr ⟨_,dm6 _ ra.per.pos,e4⟩
            exact n3 u (pm.mem_iff.mp this) hu
        · rw[if_neg c3,dm8]
          intro w hw ok
          have ok:M3 t (L4 l m (w++[x'.1]))=true:=ok
          rw[ee,dq4] at ok
          exact c3 ok.2
    · rw[if_neg c2,if_neg (by rw[decide_eq_false (show ¬d'=d by omega)];decide)]
      rfl
end
end My
namespace My
open PySem L2 Mth
section
def R9:List (List (List (Int×Int)))→List (List (Int×Int))
 |[]=>[[]]
 |c::chs=>c.flatMap fun es=>(R9 chs).map fun e=>es++e
theorem bv9 (t:List Int)(a b:List (Int×Int)):p5 t (a++b)=p5 (p5 t a) b:=by
 unfold p5
 exact du1
theorem an0:∀(chs:List (List (List (Int×Int)))) (laid:List (List Int)),chs.foldl K9 laid=laid.flatMap fun t0=>(R9 chs).map (p5 t0)
 |[],laid=>by
  show laid=laid.flatMap fun t0=>[t0]
  induction laid with
  |nil=>rfl
  |cons x xs ih=>rw[dk9,←ih];rfl
 |c::chs,laid=>by
  show chs.foldl K9 (K9 laid c)=_
  rw[an0 chs]
  unfold K9
  rw[List.flatMap_assoc]
  refine congrArg (fun f=>List.flatMap f laid) (funext fun t0=> ?_)
  show (c.map (p5 t0)).flatMap (fun t1=>(R9 chs).map (p5 t1))=(c.flatMap fun es=>(R9 chs).map fun e=>es++e).map (p5 t0)
  rw[List.flatMap_map,List.map_flatMap]
  refine congrArg (fun f=>List.flatMap f c) (funext fun es=> ?_)
  show (R9 chs).map (p5 (p5 t0 es))=((R9 chs).map fun e=>es++e).map (p5 t0)
  rw[dj4]
  exact dk6 fun e _=>(bv9 t0 es e).symm
theorem av6:∀{chs:List (List (List (Int×Int)))} {e:List (Int×Int)},e∈R9 chs→∃ess,Pkd ess chs∧e=ess.flatten
 |[],e,h=>⟨[],.nil,dg3.mp h⟩
 |c::chs,e,h=>by
  obtain ⟨es,hes,z⟩:=dl5.mp h
  obtain ⟨e',he',rfl⟩:=df9.mp z
  obtain ⟨ess,pk,rfl⟩:=av6 he'
  exact ⟨es::ess,.cons hes pk,rfl⟩
theorem av8 {t:List Int}{f:Nat→List (List (Int×Int))}:∀{ks:List Nat},(∀k∈ks,(f k).countP (M3 t)=1)→(R9 (ks.map f)).countP (M3 t)=1
 |[],_=>rfl
 |k::ks,h=>by
  show ((f k).flatMap fun es=>(R9 (ks.map f)).map fun e=>es++e).countP (M3 t)=1
  rw[U7 (g:=M3 t),h k df4]
  intro es hes
  rw[ds0]
  by_cases c:M3 t es=true
  · rw[if_pos c]
    refine Eq.trans (ds5 fun e _=> ?_) (av8 fun k hk=>h k (df6 _ hk))
    show M3 t (es++e)=true↔_
    rw[az3,c,Bool.true_and]
  · rw[if_neg c,dm8]
    intro e _ z
    have z:M3 t (es++e)=true:=z
    rw[az3,dq4] at z
    exact c z.1
theorem ao1 {p t:List Int}{m l:Nat}(tp:l9 p)(tt:l9 t)(pw:y6 t (m:Int) p){u:Int}(hu:In p u)(h:B8 p u l):B8 p (nx t u) l:=by
 have pt:p.length=t.length:=pw.1
 have tr:∀y,In p y→In t y:=fun y hy=>⟨hy.1,by rw[←pt];exact hy.2⟩
 have com:∀i,it p i (nx t u)=nx t (it p i u):=fun i=>by
   rw[al8 tt pw (bt8 tt (tr u hu)),al8 tt pw (tr u hu)]
   show it t (m*i) (it t 1 u)=it t (m*i+1) u
   rw[←B7]
 refine ⟨h.pos,by rw[com,h.back],fun i i0 i1 e=> ?_⟩
 rw[com] at e
 exact h.least i i0 i1 (as0 tt (tr _ (J5 tp hu i)) (tr u hu) e)
theorem cv9 {p t:List Int}{m k:Nat}(tp:l9 p)(lp:p.length≤40)(tt:l9 t)(pw:y6 t (m:Int) p)(m1:1≤m)(k0:0 < k){rs:List (List Int)}(up:w6 p p.length rs):(U5 rs m k).countP (M3 t)=1:=by
 have pt:p.length=t.length:=pw.1
 have fr:∀r∈t6 rs k,Rg p k r:=fun r hr=>by
   have:=az2 up (E1 hr).1
   rw[(E1 hr).2] at this
   exact this
 have fl:=U1 tp up
 have e1:=N6 (l:=k) (rs:=t6 rs k) fun r hr=>(E1 hr).2
 have e2:=(L9 rs k).length_le
 have k3:(t6 rs k).length≤40:=dg5 (dj2 _ k0) (by rw[←e1];omega)
 unfold U5
 rw[ds0]
 refine bm0 tp tt pw m1 k0 40 k3 (by rw[O3];exact df2 _) fr ((L9 rs k).nodup up.nd) fun u hu=> ?_
 obtain ⟨r,hr,hur⟩:=dg8.mp hu
 obtain ⟨a,b,_⟩:=ad4 tp (fr r hr) hur
 have hn:=ao1 tp tt pw a b
 have hin:In p (nx t u):=by
   have:=bt8 tt (x:=u) ⟨a.1,by rw[←pt];exact a.2⟩
   exact ⟨this.1,by rw[pt];exact this.2⟩
 obtain ⟨r2,hr2,h2⟩:=dg8.mp (up.all _ hin.1 hin.2)
 have e:=(ad4 tp (az2 up hr2) h2).2.1.uniq hn
 exact dg8.mpr ⟨r2,by unfold t6;exact dk7.mpr ⟨hr2,decide_eq_true e⟩,h2⟩
theorem bm1 {p t:List Int}{m:Nat}(tp:l9 p)(lp:p.length≤40)(tt:l9 t)(pw:y6 t (m:Int) p)(m1:1≤m){ks:List Nat}(nk:ks.Nodup)(h1:∀k∈ks,∃r∈j7 p p.length,r.length=k)(h2:∀r∈j7 p p.length,r.length∈ks):(L3 p (ks.map (U5 (j7 p p.length) m))).countP (fun u=>decide (u=t))=1:=by
 have up:=D8 tp
 generalize j7 p p.length=rs at up h1 h2 ⊢
 have pt:p.length=t.length:=pw.1
 have k0:∀k∈ks,0 < k:=fun k hk=>by
   obtain ⟨r,hr,e⟩:=h1 k hk
   have:=(rsb tp up r hr).1
   omega
 unfold L3
 rw[an0,dk9,dp5,dh7,ds0]
 refine Eq.trans (ds5 fun es hes=> ?_) (av8 (t:=t) fun k hk=>cv9 tp lp tt pw m1 (k0 k hk) up)
 show decide (p5 p es=t)=true↔M3 t es=true
 obtain ⟨ess,pk,rfl⟩:=av6 hes
 obtain ⟨knd,kin,kall⟩:=ap8 (p:=p) ks nk (fun k hk es hes=>by
   obtain ⟨w,o⟩:=bd9 tp lp up m1 (k0 k hk) hes
   exact ⟨o.nd,o.keys⟩) pk
 have put:=aj8 ess.flatten p knd fun e he=>(kin e.1 (df9.mpr ⟨e,he,rfl⟩)).1
 rw[decide_eq_true_iff,az4]
 constructor
 · intro e x hx
   have a:=put x hx
   have b:=(kin x.1 (df9.mpr ⟨x,hx,rfl⟩)).1
   rw[e,ac4 ⟨b.1,by rw[←pt];exact b.2⟩] at a
   exact Option.some.inj a
 · intro ok
   refine dj1 fun i=> ?_
   by_cases hi:i < p.length
   · have hx:In p (i:Int):=⟨by omega,by omega⟩
     obtain ⟨r0,hr0,hxr⟩:=dg8.mp (up.all _ hx.1 hx.2)
     obtain ⟨es,hes,hef⟩:=kall r0.length (h2 r0 hr0)
     have k1:=k0 _ (h2 r0 hr0)
     obtain ⟨w,o⟩:=bd9 tp lp up m1 k1 hef
     have xf:(i:Int)∈(t6 rs r0.length).flatten:=dg8.mpr ⟨r0,by unfold t6;exact dk7.mpr ⟨hr0,decide_eq_true rfl⟩,hxr⟩
     obtain ⟨cf,hcf,hxc⟩:=dg8.mp (o.perm.mem_iff.mpr xf)
     obtain ⟨c,hc,rfl⟩:=df9.mp hcf
     have rows:∀r∈c,r.length=r0.length:=fun r hr=>U6 (o.rg c hc r hr)
     obtain ⟨kk,e1,e2,js⟩:=ap7 k1 m1 (o.right c hc) rows
     have xJ:=(js.perm k1 e2).mem_iff.mpr hxc
     rw[←ag1 (A8 r0.length m c)] at xJ
     obtain ⟨e,he,ex⟩:=df9.mp xJ
     have hef:e∈ess.flatten:=dg8.mpr ⟨es,hes,by rw[o.eq];exact dl5.mpr ⟨c,hc,he⟩⟩
     have a:=put e hef
     have b:=ac4 (p:=t) (x:=(i:Int)) ⟨hx.1,by rw[←pt];exact hx.2⟩
     have ok:=ok e hef
     rw[ex] at a ok
     rw[←ok,←b] at a
     unfold x5 at a
     rw[di4] at a
     exact a
   · rw[dg0 (by rw[ag2];omega),dg0 (by omega)]
theorem cj0 {p:List Int}(m:Nat)(tp:l9 p)(lp:p.length≤40):∃ks:List Nat,ks.Nodup∧(∀k∈ks,∃r∈j7 p p.length,r.length=k)∧(∀r∈j7 p p.length,r.length∈ks)∧(L3 p (ks.map (U5 (j7 p p.length) m))).length=T6 p m:=by
 have up:=D8 tp
 have ks:∃ks:List Nat,ks.Nodup∧(∀k∈ks,∃r∈j7 p p.length,r.length=k)∧(∀r∈j7 p p.length,r.length∈ks):=by
   refine ⟨(dj6 (p.length+1)).filter fun k=>(j7 p p.length).any fun r=>decide (r.length=k),List.Nodup.sublist List.filter_sublist du9,fun k hk=> ?_,fun r hr=> ?_⟩
   · obtain ⟨r,hr,e⟩:=dx4.mp (dk7.mp hk).2
     exact ⟨r,hr,of_decide_eq_true e⟩
   · exact dk7.mpr ⟨di9.mpr (by have:=(rsb tp up r hr).2;omega),dx4.mpr ⟨r,hr,decide_eq_true rfl⟩⟩
 obtain ⟨ks,nk,h1,h2⟩:=ks
 refine ⟨ks,nk,h1,h2,?_⟩
 have len:=aa3 p (U5 (j7 p p.length) m) (fun l=>A7 l m (o5 (j7 p p.length) l)) ks.length ks (df2 _) fun k hk=>by
   refine br5 ?_
   obtain ⟨r,hr,e⟩:=h1 k hk
   have k1:=(rsb tp up r hr).1
   have fl:=U1 tp up
   have e1:=N6 (l:=k) (rs:=t6 (j7 p p.length) k) fun r hr=>(E1 hr).2
   have e2:=(L9 (j7 p p.length) k).length_le
   exact dg5 (dj2 _ (show 0 < k by omega)) (by rw[←e1];omega)
 rw[aj3 tp up nk h1 h2 fun u hu=>by rw[hu];rfl] at len
 exact len
theorem bs1 {p:List Int}{m:Nat}(tp:l9 p)(lp:p.length≤40)(m1:1≤m):0 < T6 p m↔∃t,l9 t∧y6 t (m:Int) p:=by
 obtain ⟨ks,nk,h1,h2,len⟩:=cj0 m tp lp
 constructor
 · intro h
   rw[←len] at h
   obtain ⟨t,ht⟩:=List.exists_mem_of_length_pos h
   exact ⟨t,bc8 tp lp m1 nk h1 h2 ht⟩
 · rintro ⟨t,tt,pw⟩
   have one:=bm1 tp lp tt pw m1 nk h1 h2
   rw[←len]
   have:=List.countP_le_length (p:=fun u=>decide (u=t)) (l:=L3 p (ks.map (U5 (j7 p p.length) m)))
   omega
theorem ap6.once {p t:List Int}{m:Nat}{ts:List (List Int)}(h:ap6 p m ts)(tp:l9 p)(lp:p.length≤40)(m1:1≤m)(tt:l9 t)(pw:y6 t (m:Int) p):ts.countP (fun u=>decide (u=t))=1:=by
 rcases h.src with z|⟨ks,nk,h1,h2,pr⟩
 · have:=(bs1 tp lp m1).mpr ⟨t,tt,pw⟩
   omega
 · rw[pr.countP_eq]
   exact bm1 tp lp tt pw m1 nk h1 h2
theorem ap6.mem {p t:List Int}{m:Nat}{ts:List (List Int)}(h:ap6 p m ts)(tp:l9 p)(lp:p.length≤40)(m1:1≤m):t∈ts↔l9 t∧y6 t (m:Int) p:=by
 refine ⟨h.root tp lp m1 t,fun ⟨tt,pw⟩=> ?_⟩
 have:=h.once tp lp m1 tt pw
 obtain ⟨u,hu,e⟩:=List.countP_pos_iff.mp (show 0 < ts.countP (fun u=>decide (u=t)) by omega)
 rw[←of_decide_eq_true e];exact hu
end
end My
namespace My
open PySem L2 Mth PySem.Spec PyProof.Rows
section
def dd2 (K:PySem.W.Frag)(neg:Bool):R2:=fun x y H Q=>∃(p r:Addr) (bs:List Addr) (ts:List (List Int)) (q:List Int),x= .ref r∧y= .ref p∧h8 K H p (bs.map V.ref)∧l8 H bs ts∧H r=some (.lst (q.map V.int))∧Q (.bl (if neg then !decide (q∈ts) else decide (q∈ts))) H
open Classical in
noncomputable def eqR (H:Hp)(q:List Int)(y:Value):Bool:=decide (∃b,y= .ref b∧H b=some (.lst (q.map V.int)))
theorem az5 {H:Hp}{q row:List Int}{b:Addr}(hb:H b=some (.lst (row.map V.int))):eqR H q (.ref b)=decide (row=q):=by
 unfold eqR
 by_cases c:row=q
 · rw[decide_eq_true c]
   exact @decide_eq_true _ (Classical.propDecidable _) ⟨b,rfl,by rw[←c];exact hb⟩
 · rw[decide_eq_false c]
   refine @decide_eq_false _ (Classical.propDecidable _) fun ⟨b',e,h⟩=> ?_
   cases e
   rw[hb] at h
   injection h with h
   injection h with h
   exact c (am5 h)
theorem aa0 {bs:List Addr}:∀{its:List Value},j8 (bs.map V.ref) its→its=bs.map Value.ref:=by
 induction bs with
 |nil=>intro its h;cases h;rfl
 |cons b bs ih=>
  intro its h
  cases h with
  |cons r t=>
   cases r
   rw[ih t];rfl
theorem bm2 {H:Hp}{q:List Int}:∀{bs:List Addr} {ts:List (List Int)},l8 H bs ts→(bs.map Value.ref).any (eqR H q)=decide (q∈ts)
 |[],[],_=>rfl
 |[],t::ts,h=>by have:=h.1;simp at this
 |b::bs,[],h=>by have:=h.1;simp at this
 |b::bs,t::ts,h=>by
  have h0:=h.2 0 b t rfl rfl
  have ht:l8 H bs ts:=⟨by have:=h.1;simpa using this,fun j a r e1 e2=>h.2 (j+1) a r e1 e2⟩
  rw[dj0,dw9,bm2 ht,az5 h0,do5,dt3,decide_eq_true_iff,decide_eq_true_iff,decide_eq_true_iff,dg9]
  exact ⟨fun z=>z.elim (fun e=> .inl e.symm) .inr,fun z=>z.elim (fun e=> .inl e.symm) .inr⟩
theorem ce0 {X:Cx}(hu0:X.A.units+1+1 < cLine):K6 X (compareOp .NotIn) (dd2 X.K true):=by
 have hu:X.A.in1.units+0+1 < cLine:=by rw[Around.in1_units];exact hu0
 intro pins s σ H x y v u Q I rx ry h
 obtain ⟨p,r,bs,ts,q,rfl,rfl,hq,rows,hr,k⟩:=h
 cases rx
 cases ry
 obtain ⟨its,rr,pl,hz⟩:=I.list hq
 have ei:=aa0 rr
 refine SeqAt.notIn_listAt (eqR H q) pl.isList (fun w hw=> ?_) ⟨.bl _,H,I,rfl,?_⟩
 · have hw:w∈its:=by simpa using hw
   rw[ei] at hw
   obtain ⟨b,hb,rfl⟩:=df9.mp hw
   obtain ⟨j,hj⟩:=dh8.mp hb
   have jl:=(df1.mp hj).1
   have h1:=rows.2 j b _ hj (df0 (by rw[←rows.1];exact jl))
   by_cases e:b=r
   · subst e
     rw[az5 hr,decide_eq_true rfl]
     exact SeqAt.EqAt.same _
   · rw[az5 h1]
     exact SeqAt.EqAt.of_refs e (bz4 (n:=0) I hu (h8.of h1) (h8.of hr) (an6 _ _ _ _ _))
 · rw[show its.toArray.any (eqR H q)=its.any (eqR H q) by simp,ei,bm2 rows]
   exact k
end
end My
namespace My
open PySem L2 Mth
section
variable {P:Program} {w:World} {K:PySem.W.Frag} {mg:Str→Option Value} {base:Heap}
theorem cz7 {R:St→Hp→Prop}{σ:St}{H:Hp}{A:Prop}{b:Bool}(G:St→Hp→Prop)(rest:∀σ' H',G σ' H'→R σ' H')(hb:G σ H)(ha:(∀σ' H',G σ' H'→R σ' H')→A):if b=true then A else R σ H:=by
 cases b with
 |true=>exact ha rest
 |false=>exact rest σ H hb
theorem Kp.seq {H H':Hp}(k:Kp H H'){a:Addr}{xs:List V}(h:h8 K H a xs):h8 K H' a xs:=by
 rcases h with (e|⟨o,e⟩)|h
 · exact .inl (.inl (k.lst e))
 · exact .inl (.inr ⟨o,k.nd _ _ e (fun kvs z=>by cases z)⟩)
 · exact .inr h
def ak0:Sp:=fun vs H Q _=>∃(a:Addr) (p:List Int) (m:Nat),vs=[.ref a,.int (m:Int)]∧E8 H a p∧p.length≤16∧1≤m∧m≤1000000000000000000000000000000∧∀(H':Hp),Kp H H'→Q (.bl true) H'
theorem Z1:l5 ["p","m","found","roots"] ["p","m"] (i7 ab3):=⟨rfl,rfl,rfl,by decide+kernel,rfl,by decide+kernel,by decide+kernel⟩
theorem ag5:(["r","found"]:List Str).Nodup:=by decide+kernel
theorem bm3 {f:Addr}{fd:FuncData}(F:A4 K "_law_right" "_law_right" ab3 f fd)(c_soonest_root:j9 P w K mg base "soonest_root" 7 ["p","m"] bk3)(c_how_many_roots:j9 P w K mg base "how_many_roots" 4 ["p","m"] au7)(c_all_roots:j9 P w K mg base "all_roots" 44 ["p","m"] bl7)(c_home_of:j9 P w K mg base "home_of" 6 ["p"] ay3):o4 P w K mg base A2 45 f fd ["p","m"] ak0:=by
 refine F.ok Z1 (fun vs H Q E h=> ?_) (fun cdv A outer s H vs Q E hr h=> ?_)
 · obtain ⟨a,p,m,rfl,ta,l16,m1,m2,q⟩:=h
   rfl
 · obtain ⟨a,p,m,rfl,ta,l16,m1,m2,q⟩:=h
   have hr_soonest_root:m9 7 _:=hr.mono (by decide)
   have hr_how_many_roots:m9 4 _:=hr.mono (by decide)
   have hr_all_roots:m9 44 _:=hr.mono (by decide)
   have hr_home_of:m9 6 _:=hr.mono (by decide)
   have hu:=W2 hr
   have hu2:_+1+1 < cLine:=dj5 (dw2 (by decide:2≤64) _) hr.units
   refine ⟨_,@c7 _ _ _ _ _ (@i4 _ _ (2) _ _ _ _ Z1.nd rfl (Or.inr rfl) (@i6 _ _ _ _ _ _ _ _ _ _ c_soonest_root hr_soonest_root (@c5 _ _ _ _ _ (pv 0) (@c5 _ _ _ _ _ (pv 1) (@c6 _) (by rfl)) (by rfl)) (by rfl) (by decide) (by rfl) (by rfl)) (by rfl) (by first|exact .inl rfl|exact .inr rfl|assumption)) (@c7 _ _ _ _ _ (@v9 _ _ _ _ _ _ _ _ (@n5 _ _ _ _ _ _ _ _ aq7 (@i6 _ _ _ _ _ _ _ _ _ _ c_how_many_roots hr_how_many_roots (@c5 _ _ _ _ _ (pv 0) (@c5 _ _ _ _ _ (pv 1) (@c6 _) (by rfl)) (by rfl)) (by rfl) (by decide) (by rfl) (by rfl)) (@h7 _ _ _ _) (o3 _)) (@c9 _ _ _ (@k7 _ _ _ _ (@ak2 _ _ _ _ _ _ _ _ ck7 (pv 2) (@aq0 _ _ _) (o3 _)))) (@o7 _)) (@c7 _ _ _ _ _ (@i4 _ _ (3) _ _ _ _ Z1.nd rfl (Or.inl rfl) (@i6 _ _ _ _ _ _ _ _ _ _ c_all_roots hr_all_roots (@c5 _ _ _ _ _ (pv 0) (@c5 _ _ _ _ _ (pv 1) (@c6 _) (by rfl)) (by rfl)) (by rfl) (by decide) (by rfl) (by rfl)) (by rfl) (by first|exact .inl rfl|exact .inr rfl|assumption)) (@c7 _ _ _ _ _ (@v9 _ _ _ _ _ _ _ _ (@Z4 _ _ _ _ _ _ _ (@n5 _ _ _ _ _ _ _ _ bx4 (pv 2) (@aq0 _ _ _) (o3 _)) (@ab7 _ _ _ _ (@n5 _ _ _ _ _ _ _ _ (ar6 1 hu2) (pv 3) (@r6 _ _ _ _ (@c6 _)) (o3 _)))).pt (@c9 _ _ _ (@k7 _ _ _ _ (@bw8 _ _ _ _ _ _ _ (@ak2 _ _ _ _ _ _ _ _ bx4 (pv 2) (@aq0 _ _ _) (o3 _)) (@bw7 _ _ _ _ _ (@ak2 _ _ _ _ _ _ _ _ (ar6 1 hu2) (pv 3) (@r6 _ _ _ _ (@c6 _)) (o3 _)))))) (@o7 _)) (@c7 _ _ _ _ _ (@v9 _ _ _ _ _ _ _ _ (@Z4 _ _ _ _ _ _ _ (@n5 _ _ _ _ _ _ _ _ (ce0 hu2) (@E3 _ _ _ _ _ _ _ X2 (pv 2) (@h7 _ _ _ _) (fun _ _=>rfl)) (pv 3) (by with_unfolding_all rfl)) (@ab7 _ _ _ _ (@n5 _ _ _ _ _ _ _ _ aq5 (@i6 _ _ _ _ _ _ _ _ _ _ c_home_of hr_home_of (@c5 _ _ _ _ _ (@E3 _ _ _ _ _ _ _ X2 (pv 2) (@h7 _ _ _ _) (fun _ _=>rfl)) (@c6 _) (by rfl)) (by rfl) (by decide) (by rfl) (by rfl)) (@E3 _ _ _ _ _ _ _ X2 (pv 2) (@h7 _ _ _ _) (fun _ _=>rfl)) (o3 _)))).pt (@c9 _ _ _ (@k7 _ _ _ _ (@P2 _ _ _ _))) (@o7 _)) (@c9 _ _ _ (@k7 _ _ _ _ (@ak2 _ _ _ _ _ _ _ _ (ar6 1 hu2) (@aw6 _ _ _ _ _ _ _ _ _ _ _ (["r","found"]) (1) ([2]) rfl .of (@t7 _ _ _ _ (pv 3)) (fun _ _ _ _ _=>@i8 _ _ (0) _ ag5 rfl (Or.inl rfl) (by first|exact .inl rfl|exact .inr rfl|assumption)) (fun _ _ _ _ _=>@an5 _ _ _ (@n5 _ _ _ _ _ _ _ _ aq5 (@i9 _ _ _ _ _ _ _ _ x9 (@i6 _ _ _ _ _ _ _ _ _ _ c_home_of hr_home_of (@c5 _ _ _ _ _ (pv 0) (@c6 _) (by rfl)) (by rfl) (by decide) (by rfl) (by rfl)) (@E3 _ _ _ _ _ _ (cr2 K) X2 (pv 1) (@h7 _ _ _ _) (fun _ _=>rfl))) (@h7 _ _ _ _) (o3 _))) (fun _ _ _ _ _=>(pv 0)) (by intro _;rfl)) (@r6 _ _ _ _ (@c6 _)) (o3 _)))))))),?_⟩
   have tp:=ta.2.1
   refine ⟨_,rfl,_,rfl,a,p,m,rfl,ta,l16,m1,m2,fun v H1 s1 S1 fo=> ?_⟩
   refine ⟨_,rfl,_,rfl,a,p,m,rfl,ta.keep s1,m1,fun H2 s2=>⟨_,_,rfl,rfl,_,rfl,?_⟩⟩
   have s02:=s1.trans s2
   by_cases big:2000 < T6 p m
   · rw[decide_eq_true (show (2000:Int) < ((T6 p m:Nat):Int) by omega)]
     refine O8 ?_
     obtain ⟨r0,tr0,pw0⟩:=(bs1 tp ta.2.2 m1).mp (show 0 < T6 p m by omega)
     refine ⟨_,rfl,rfl,?_⟩
     rcases S1 with ⟨rfl,l,d,bb⟩|⟨t,o,h,r,rfl,rest⟩
     · exact (bq9 tr0 pw0 bb).elim
     · rw[decide_eq_false (show ¬V.ref t=V.non from fun h=>V.noConfusion h)]
       exact q H2 (Kp.of s02)
   · rw[decide_eq_false (show ¬(2000:Int) < ((T6 p m:Nat):Int) by omega)]
     refine E7 ⟨_,rfl,_,rfl,a,p,m,rfl,ta.keep s02,m1,by omega,fun o bs ts H3 ho h3o rows all bnd bfr ob kp=> ?_⟩
     have k03:Kp H H3:=(Kp.of s02).trans kp
     have rows0:∀H',l8 H' [] []:=fun H'=>⟨rfl,fun j b r h=>by cases h⟩
     rcases S1 with ⟨rfl,l,d,bb⟩|⟨t,ro,h,r,rfl,h1t,h1o,tr,lr,pw,rof,hh⟩
     · have ets:ts=[]:=by
         cases ts with
         |nil=>rfl
         |cons x xs=>
          have:=all.root tp ta.2.2 m1 x df4
          exact (bq9 this.1 this.2 bb).elim
       subst ets
       refine ⟨_,rfl,rfl,_,rfl,?_⟩
       rw[decide_eq_true rfl]
       refine O8 (O8 ⟨_,rfl,rfl,true,rfl,O8 ⟨_,rfl,dh2 _,fun e he=> ?_⟩⟩)
       have s4:e8 H3 (e7 H3 e (.lst [])):=e8.upd_new he
       have h4e:(e7 H3 e (.lst [])) e=some (.lst (([]:List Addr).map V.ref)):=c8
       generalize (e7 H3 e (.lst []))=H4 at s4 h4e ⊢
       refine ⟨o,e,_,_,_,rfl,rfl,h8.of (s4 _ _ h3o),h8.of h4e,ah9 (t5 rows fun b hb o e=>s4 _ _ e) (rows0 H4),?_⟩
       rw[decide_eq_true rfl]
       exact q H4 (k03.trans (Kp.of s4))
     · have rin:r∈ts:=(all.mem tp ta.2.2 m1).mpr ⟨tr,pw⟩
       have k13:Kp H1 H3:=(Kp.of s2).trans kp
       have h3t:H3 t=some (.tup [.int (h:Int),.ref ro]):=k13.nd _ _ h1t (fun kvs z=>by cases z)
       have h3r:=k13.lst h1o
       have lr40:r.length≤40:=by rw[lr];exact ta.2.2
       refine ⟨_,rfl,rfl,_,rfl,?_⟩
       rw[decide_eq_false (show ¬V.ref t=V.non from fun h=>V.noConfusion h)]
       refine E7 ⟨_,rfl,dh2 _,fun e he=> ?_⟩
       have s4:e8 H3 (e7 H3 e (.lst [])):=e8.upd_new he
       have h4e:(e7 H3 e (.lst [])) e=some (.lst (([]:List Addr).map V.ref)):=c8
       generalize (e7 H3 e (.lst []))=H4 at s4 h4e ⊢
       have rows4:l8 H4 bs ts:=t5 rows fun b hb o e=>s4 _ _ e
       refine ⟨o,e,_,_,_,rfl,rfl,h8.of (s4 _ _ h3o),h8.of h4e,ah9 rows4 (rows0 H4),_,rfl,?_⟩
       rw[decide_eq_false (show ¬ts=[] from fun z=>by rw[z] at rin;cases rin)]
       refine E7 ?_
       refine ⟨_,rfl,t,_,_,_,rfl,rfl,E6.of (s4 _ _ h3t),B6 (j:=1) rfl,_,rfl,o,ro,bs,ts,r,rfl,rfl,h8.of (s4 _ _ h3o),rows4,s4 _ _ h3r,_,rfl,?_⟩
       rw[decide_eq_true rin]
       refine E7 ⟨_,rfl,t,_,_,_,rfl,rfl,E6.of (s4 _ _ h3t),B6 (j:=1) rfl,ro,r,rfl,⟨s4 _ _ h3r,tr,lr40⟩,fun h' H5 s5 hh'=> ?_⟩
       have eh:=hh'.uniq hh
       subst eh
       have s35:=s4.trans s5
       refine ⟨_,rfl,t,_,_,_,rfl,rfl,E6.of (s35 _ _ h3t),B6 (j:=0) rfl,rfl,_,rfl,?_⟩
       refine ar2 rfl ?_
       refine ⟨_,rfl,o,rfl,⟨_,h8.of (s35 _ _ h3o)⟩,ah4 (K:=K) (a:=o) (xs:=bs.map V.ref) (fun i ys σ H6=>∃v0:Option V,σ=[v0,some (.ref t)]∧ys=[]∧e8 H5 H6)
         ⟨none,rfl,rfl,e8.refl H5⟩ (fun i ys σ H6 _ ⟨_,_,_,s⟩=>h8.of (s _ _ (s35 _ _ h3o))) ?_ ?_⟩
       · rintro i x ys σ H6 hi ⟨v0,rfl,rfl,s6⟩
         obtain ⟨b,hb,rfl⟩:∃b,bs[i]? =some b∧x=V.ref b:=by
           rw[df3] at hi
           cases e:bs[i]? with
           |none=>rw[e] at hi;cases hi
           |some a=>rw[e] at hi;exact ⟨a,rfl,(Option.some.inj hi).symm⟩
         have il:i < ts.length:=by rw[←rows.1];exact (df1.mp hb).1
         obtain ⟨r',hr'⟩:∃r',ts[i]? =some r':=⟨_,df0 il⟩
         have rr:=all.root tp ta.2.2 m1 r' (dg1 hr')
         have lr':p.length=r'.length:=rr.2.1
         refine ⟨_,rfl,b,r',rfl,⟨s6 _ _ (s35 _ _ (rows.2 i b r' hb hr')),rr.1,by omega⟩,fun g' H7 s7 hg'=> ?_⟩
         have dv:h'∣g':=bu7 tp rr.1 rof hh' rr.2 hg'
         refine ⟨_,rfl,t,_,_,_,rfl,rfl,E6.of ((s6.trans s7) _ _ (s35 _ _ h3t)),B6 (j:=0) rfl,_,_,rfl,rfl,(by have:=hh'.pos;show (0:Int) < (h':Int);omega),rfl,_,rfl,?_⟩
         exact ar2 (congrArg V.int (dr3 (Int.natCast_dvd_natCast.mpr dv))) ⟨_,rfl,rfl,s6.trans s7⟩
       · rintro ys σ H6 ⟨v0,rfl,rfl,s6⟩ w1 hw1
         have s7:e8 H6 (e7 H6 w1 (.lst [])):=e8.upd_new hw1
         have h7w:(e7 H6 w1 (.lst [])) w1=some (.lst (([]:List Addr).map V.ref)):=c8
         generalize (e7 H6 w1 (.lst []))=H7 at s7 h7w ⊢
         refine ⟨dh2 _,fun w2 hw2=> ?_⟩
         have s8:e8 H7 (e7 H7 w2 (.lst [])):=e8.upd_new hw2
         have h8w:(e7 H7 w2 (.lst [])) w2=some (.lst (([]:List Addr).map V.ref)):=c8
         generalize (e7 H7 w2 (.lst []))=H8 at s8 h8w ⊢
         refine ⟨w1,w2,_,_,_,rfl,rfl,h8.of (s8 _ _ h7w),h8.of h8w,ah9 (rows0 H8) (rows0 H8),?_⟩
         rw[decide_eq_true rfl]
         exact q H8 (k03.trans (Kp.of ((s35.trans s6).trans (s7.trans s8))))
def be0 (K:PySem.W.Frag):Sp:=fun vs H Q _=>∃(a:Addr) (ns:List Int),vs=[.ref a]∧h8 K H a (ns.map V.int)∧ns.length≤63∧∀H',Q (.bl true) H'
theorem Z2:l5 ["script","k","deck","many","m","p"] ["script"] (i7 al2):=⟨rfl,rfl,rfl,by decide+kernel,rfl,by decide+kernel,by decide+kernel⟩
theorem cw0 {f:Addr}{fd:FuncData}(F:A4 K "law" "law" al2 f fd)(B:Bl mg)(c_law_deck:j9 P w K mg base "_law_deck" 2 ["cell","many"] bk1)(c_law_cell_at:j9 P w K mg base "_law_cell_at" 1 ["script","k"] (bj8 K))(c_law_next:j9 P w K mg base "_law_next" 1 ["deck"] aj1)(c_law_m:j9 P w K mg base "_law_m" 2 ["deck"] spM)(c_law_turn:j9 P w K mg base "_law_turn" 2 ["deck","many"] ay2)(c_power_of:j9 P w K mg base "power_of" 4 ["p","k"] ax8)(c_law_right:j9 P w K mg base "_law_right" 45 ["p","m"] ak0):o4 P w K mg base A2 46 f fd ["script"] (be0 K):=by
 refine F.ok Z2 (fun vs H Q E h=> ?_) (fun cdv A outer s H vs Q E hr h=> ?_)
 · obtain ⟨sc,ns,rfl,hsc,hns,q⟩:=h
   rfl
 · obtain ⟨sc,ns,rfl,hsc,hns,q⟩:=h
   have hr_law_deck:m9 2 _:=hr.mono (by decide)
   have hr_law_cell_at:m9 1 _:=hr.mono (by decide)
   have hr_law_next:m9 1 _:=hr.mono (by decide)
   have hr_law_m:m9 2 _:=hr.mono (by decide)
   have hr_law_turn:m9 2 _:=hr.mono (by decide)
   have hr_power_of:m9 4 _:=hr.mono (by decide)
   have hr_law_right:m9 45 _:=hr.mono (by decide)
   refine ⟨_,@c7 _ _ _ _ _ (@n0 _ _ _ _ _ _ _ _ PassesOwn.never rfl (@K5 _ _ _ _ _ _ (by rfl) B.range (@c5 _ _ _ _ _ (@cl9 _ _ _ _ _ _ rfl B.max (@c5 _ _ _ _ _ (@h7 _ _ _ _) (@c5 _ _ _ _ _ (@bo8 _ _ _ _ _ _ rfl B.min (@c5 _ _ _ _ _ (@w4 _ _ _ _ _ B.len (@c5 _ _ _ _ _ (pv 0) (@c6 _) (by rfl)) (by rfl) (by rfl)) (@c5 _ _ _ _ _ (@h7 _ _ _ _) (@c6 _) (by rfl)) (by rfl)) (by rfl) (by rfl) (by rfl)) (@c6 _) (by rfl)) (by rfl)) (by rfl) (by rfl) (by rfl)) (@c6 _) (by rfl)) (by rfl)) (@i8 _ _ (1) _ Z2.nd rfl (Or.inl rfl) (by first|exact .inl rfl|exact .inr rfl|assumption)) (@c7 _ _ _ _ _ (@i4 _ _ (2) _ _ _ _ Z2.nd rfl (Or.inl rfl) (@i6 _ _ _ _ _ _ _ _ _ _ c_law_deck hr_law_deck (@c5 _ _ _ _ _ (@i6 _ _ _ _ _ _ _ _ _ _ c_law_cell_at hr_law_cell_at (@c5 _ _ _ _ _ (pv 0) (@c5 _ _ _ _ _ (pv 1) (@c6 _) (by rfl)) (by rfl)) (by rfl) (by decide) (by rfl) (by rfl)) (@c5 _ _ _ _ _ (@h7 _ _ _ _) (@c6 _) (by rfl)) (by rfl)) (by rfl) (by decide) (by rfl) (by rfl)) (by rfl) (by first|exact .inl rfl|exact .inr rfl|assumption)) (@c7 _ _ _ _ _ (@i4 _ _ (3) _ _ _ _ Z2.nd rfl (Or.inl rfl) (@i9 _ _ _ _ _ _ _ _ x9 (@i6 _ _ _ _ _ _ _ _ _ _ c_law_next hr_law_next (@c5 _ _ _ _ _ (pv 2) (@c6 _) (by rfl)) (by rfl) (by decide) (by rfl) (by rfl)) (@h7 _ _ _ _)) (by rfl) (by first|exact .inl rfl|exact .inr rfl|assumption)) (@c7 _ _ _ _ _ (@i4 _ _ (4) _ _ _ _ Z2.nd rfl (Or.inl rfl) (@i6 _ _ _ _ _ _ _ _ _ _ c_law_m hr_law_m (@c5 _ _ _ _ _ (pv 2) (@c6 _) (by rfl)) (by rfl) (by decide) (by rfl) (by rfl)) (by rfl) (by first|exact .inl rfl|exact .inr rfl|assumption)) (@c7 _ _ _ _ _ (@i4 _ _ (5) _ _ _ _ Z2.nd rfl (Or.inl rfl) (@i6 _ _ _ _ _ _ _ _ _ _ c_law_turn hr_law_turn (@c5 _ _ _ _ _ (pv 2) (@c5 _ _ _ _ _ (pv 3) (@c6 _) (by rfl)) (by rfl)) (by rfl) (by decide) (by rfl) (by rfl)) (by rfl) (by first|exact .inl rfl|exact .inr rfl|assumption)) (@c7 _ _ _ _ _ (@v9 _ _ _ _ _ _ _ _ (@n5 _ _ _ _ _ _ _ _ T7 (@i9 _ _ _ _ _ _ _ _ x9 (@i6 _ _ _ _ _ _ _ _ _ _ c_law_next hr_law_next (@c5 _ _ _ _ _ (pv 2) (@c6 _) (by rfl)) (by rfl) (by decide) (by rfl) (by rfl)) (@h7 _ _ _ _)) (@h7 _ _ _ _) (o3 _)) (@c9 _ _ _ (@i4 _ _ (5) _ _ _ _ Z2.nd rfl (Or.inl rfl) (@i6 _ _ _ _ _ _ _ _ _ _ c_power_of hr_power_of (@c5 _ _ _ _ _ (pv 5) (@c5 _ _ _ _ _ (pv 4) (@c6 _) (by rfl)) (by rfl)) (by rfl) (by decide) (by rfl) (by rfl)) (by rfl) (by first|exact .inl rfl|exact .inr rfl|assumption))) (@o7 _)) (@c9 _ _ _ (@v9 _ _ _ _ _ _ _ _ (@R0 _ _ _ _ (@Q9 _ _ _ (@i6 _ _ _ _ _ _ _ _ _ _ c_law_right hr_law_right (@c5 _ _ _ _ _ (pv 5) (@c5 _ _ _ _ _ (pv 4) (@c6 _) (by rfl)) (by rfl)) (by rfl) (by decide) (by rfl) (by rfl)) (by intro _;rfl))) (@c9 _ _ _ (@k7 _ _ _ _ (@P2 _ _ _ _))) (@o7 _)))))))) (by intro _;rfl)) (@c9 _ _ _ (@k7 _ _ _ _ (@P2 _ _ _ _))),?_⟩
   refine ⟨_,rfl,sc,_,rfl,.inl hsc,_,3,rfl,1,_,rfl,_,rfl,?_⟩
   obtain ⟨mx,hmx,hm1,hm2⟩:=cs9 (n:=3) (c:=((ns.map V.int).length:Int)) (by decide) (by omega)
   rw[hmx]
   refine ⟨by omega,by omega,G6 (lo:=0) (n:=mx.toNat) (fun i σ H2=>∃v1 v2 v3 v4 v5:Option V,σ=[some (.ref sc),v1,v2,v3,v4,v5]∧Kp H H2)
     ⟨none,none,none,none,none,rfl,Kp.refl H⟩ ?_ (fun σ H2 ⟨_,_,_,_,_,_,_⟩=>q H2)⟩
   rintro i σ H2 hi ⟨v1,v2,v3,v4,v5,rfl,k02⟩
   refine ⟨_,rfl,_,rfl,sc,ns,_,rfl,k02.seq hsc,by omega,fun z=> ?_⟩
   refine ⟨z,80,rfl,by decide,fun g H3 hg s03 D3=> ?_⟩
   refine ⟨_,rfl,g,rfl,D3,fun x1 H4 x10 D4 kb4=>⟨_,_,rfl,rfl,(by show (0:Int) < 10;decide),?_⟩⟩
   have s04:e8 H2 H4:=s03.kb kb4 hg
   have c1:=dl3 x1 (show (10:Int)≠0 by decide)
   have c2:=do2 x1 (show (0:Int) < 10 by decide)
   obtain ⟨n,hn⟩:=dr0 c1
   have en:(n:Int)=x1%10:=hn.symm
   refine ⟨_,rfl,g,rfl,D4,fun m H5 m1 m2 D5 kb5=> ?_⟩
   have s05:=s04.kb kb5 hg
   refine ⟨_,rfl,_,rfl,g,n,by rw[en];rfl,D5,by omega,fun pa0 p0 H6 hpa tp0 lp0 h6p D6 kb6=> ?_⟩
   have s06:=s05.kb kb6 hg
   have npg:pa0≠g:=fun y=>by obtain ⟨o,e'⟩:=D5.some;rw[y,e'] at hpa;cases hpa
   refine ⟨_,rfl,g,rfl,D6,fun x3 H7 x30 D7 kb7=>⟨_,_,rfl,rfl,(by show (0:Int) < 2;decide),rfl,_,rfl,?_⟩⟩
   have s07:=s06.kb kb7 hg
   have h7p:=kb7 _ _ h6p npg
   refine cz7 (fun σ' H'=>∃(pa:Addr) (p:List Int),σ'=[some (.ref sc),some (.int ((0:Int)+(i:Int))),some (.ref g),some (.int (n:Int)),some (.int (m:Int)),some (.ref pa)]∧E8 H' pa p∧p.length=n∧e8 H2 H') ?_ ⟨pa0,p0,by rw[en];rfl,⟨h7p,tp0,by omega⟩,lp0,s07⟩ fun rest=> ?_
   rotate_left
   · refine ⟨_,rfl,_,rfl,pa0,p0,(m:Int),rfl,⟨h7p,tp0,by omega⟩,fun qa t2 H11 hqa s11 pw h11=> ?_⟩
     have lt2:t2.length=p0.length:=pw.1
     exact rest _ _ ⟨qa,t2,by rw[en];rfl,⟨h11,bp1 tp0 pw,by omega⟩,by omega,s07.trans s11⟩
   rintro σ' H8 ⟨pa,p,rfl,tp,lp,s08⟩
   refine ⟨_,rfl,_,rfl,pa,p,m,rfl,tp,by omega,m1,m2,fun H9 k9=>⟨true,rfl,?_⟩⟩
   exact E7 ⟨_,_,_,_,_,rfl,(k02.trans (Kp.of s08)).trans k9⟩
end
end My
namespace My
open PySem L2 Mth
theorem de6 {l:PySem.W.OpenLaw}{w:World}{K:PySem.W.Frag}{h:Heap}{mg:Str→Option Value}{fa f0 f1 f2 f3 f4 f5 f6 f7 f8 f9 f10 f11 f12 f13 f14 f15 f16 f17 f18 f19 f20 f21 f22 f23 f24 f25 f26 f27 f28 f29 f30 f31 f32 f33 f34 f35 f36 f37:Addr}{tk0 tk1 tk2:Tok}(X:K.In h)(G:h.Ns mainGlobals mg)(hfa:mg "law"=some (.ref fa))
   (u0:Fu K "is_whole" ae7 f0)
   (u1:Fu K "must_be_from_one" N0 f1)
   (u2:Fu K "must_be_few" V2 f2)
   (u3:Fu K "greatest_part" R6 f3)
   (u4:Fu K "walk_ring" aa7 f4)
   (u5:Fu K "walk_rings" Y2 f5)
   (u6:Fu K "send_along" N3 f6)
   (u7:Fu K "sort_by_length" Q0 f7)
   (u8:Fu K "picks_of" ae8 f8)
   (u9:Fu K "lay_every_way" R7 f9)
   (u10:Fu K "is_turn" ai6 f10)
   (u11:Fu K "must_be_turn" T4 f11)
   (u12:Fu K "power_of" ae9 f12)
   (u13:Fu K "rounds_of" aa8 f13)
   (u14:Fu K "kind_of" ai7 f14)
   (u15:Fu K "home_of" ai8 f15)
   (u16:Fu K "are_filled_lists" N4 f16)
   (u17:Fu K "things_in" aa9 f17)
   (u18:Fu K "from_rounds" V3 f18)
   (u19:Fu K "least_right" V4 f19)
   (u20:Fu K "join_rings" Y3 f20)
   (u21:Fu K "root_told" ab0 f21)
   (u22:Fu K "soonest_root" T5 f22)
   (u23:Fu K "right_numbers" R8 f23)
   (u24:Fu K "ways_to_follow" Q1 f24)
   (u25:Fu K "count_joins" V5 f25)
   (u26:Fu K "how_many_roots" Q2 f26)
   (u27:Fu K "chains_of" ab1 f27)
   (u28:Fu K "ways_to_join" O5 f28)
   (u29:Fu K "all_roots" ab2 f29)
   (u30:Fu K "_law_cell_at" V6 f30)
   (u31:Fu K "_law_stir" af0 f31)
   (u32:Fu K "_law_deck" af1 f32)
   (u33:Fu K "_law_next" af2 f33)
   (u34:Fu K "_law_turn" af3 f34)
   (u35:Fu K "_law_m" ax7 f35)
   (u36:Fu K "_law_right" ab3 f36)
   (u37:Fu K "law" al2 f37)
   (m0:PySem.W.nsIn K mainGlobals "MOST_THINGS_soonest"=some (some (.int 16 tk0)))
   (m1:PySem.W.nsIn K mainGlobals "MOST_THINGS_turns"=some (some (.int 40 tk1)))
   (m2:PySem.W.nsIn K mainGlobals "MOST_TOLD"=some (some (.int 2000 tk2)))
   (zz:Fre K ["len","isinstance","int","bool","list","range","sum","min","max","enumerate","zip","sorted","tuple","str","repr","all","any","set","dict","ValueError"])
   :∃fd:FuncData,(∀(s:Shared) (v:Value),BindsTo s fd ⟨[v],[]⟩ [("script",v)])∧∀base:Heap,K.In base→base.Ns mainGlobals mg→o4 l.prog w K mg base A2 46 fa fd ["script"] (be0 K):=by
 obtain ⟨d0,a0,F0⟩:=u0
 obtain ⟨d1,a1,F1⟩:=u1
 obtain ⟨d2,a2,F2⟩:=u2
 obtain ⟨d3,a3,F3⟩:=u3
 obtain ⟨d4,a4,F4⟩:=u4
 obtain ⟨d5,a5,F5⟩:=u5
 obtain ⟨d6,a6,F6⟩:=u6
 obtain ⟨d7,a7,F7⟩:=u7
 obtain ⟨d8,a8,F8⟩:=u8
 obtain ⟨d9,a9,F9⟩:=u9
 obtain ⟨d10,a10,F10⟩:=u10
 obtain ⟨d11,a11,F11⟩:=u11
 obtain ⟨d12,a12,F12⟩:=u12
 obtain ⟨d13,a13,F13⟩:=u13
 obtain ⟨d14,a14,F14⟩:=u14
 obtain ⟨d15,a15,F15⟩:=u15
 obtain ⟨d16,a16,F16⟩:=u16
 obtain ⟨d17,a17,F17⟩:=u17
 obtain ⟨d18,a18,F18⟩:=u18
 obtain ⟨d19,a19,F19⟩:=u19
 obtain ⟨d20,a20,F20⟩:=u20
 obtain ⟨d21,a21,F21⟩:=u21
 obtain ⟨d22,a22,F22⟩:=u22
 obtain ⟨d23,a23,F23⟩:=u23
 obtain ⟨d24,a24,F24⟩:=u24
 obtain ⟨d25,a25,F25⟩:=u25
 obtain ⟨d26,a26,F26⟩:=u26
 obtain ⟨d27,a27,F27⟩:=u27
 obtain ⟨d28,a28,F28⟩:=u28
 obtain ⟨d29,a29,F29⟩:=u29
 obtain ⟨d30,a30,F30⟩:=u30
 obtain ⟨d31,a31,F31⟩:=u31
 obtain ⟨d32,a32,F32⟩:=u32
 obtain ⟨d33,a33,F33⟩:=u33
 obtain ⟨d34,a34,F34⟩:=u34
 obtain ⟨d35,a35,F35⟩:=u35
 obtain ⟨d36,a36,F36⟩:=u36
 obtain ⟨d37,a37,F37⟩:=u37
 have e:=hfa.symm.trans (PySem.W.mg_of X G a37)
 cases e
 obtain ⟨z0,z1,z2,z3,z4,z5,z6,z7,z8,z9,z10,z11,z12,z13,z14,z15,z16,z17,z18,z19,_⟩:=zz
 have zn {y:Str} (z:PySem.W.nsIn K mainGlobals y=some none):=PySem.W.mg_none_of X G z
 have B:Bl mg:=⟨zn z0,zn z1,zn z2,zn z3,zn z4,zn z5,zn z6,zn z7,zn z8,zn z9,zn z10,zn z11,zn z12,zn z13,zn z14,zn z15,zn z16,zn z17,zn z18,zn z19⟩
 have g_MOST_THINGS_soonest:∃t,mg "MOST_THINGS_soonest"=some (.int 16 t):=⟨_,PySem.W.mg_of X G m0⟩
 have mt:∃t,mg "MOST_THINGS_turns"=some (.int 40 t):=⟨_,PySem.W.mg_of X G m1⟩
 have g_MOST_TOLD:∃t,mg "MOST_TOLD"=some (.int 2000 t):=⟨_,PySem.W.mg_of X G m2⟩
 have b0:=F0.binds (ps:=["thing"]) fun _ _ _ _ _ _ us hl=>match us,hl with|[_],_=>rfl
 have b1:=F1.binds (ps:=["number"]) fun _ _ _ _ _ _ us hl=>match us,hl with|[_],_=>rfl
 have b2:=F2.binds (ps:=["many"]) fun _ _ _ _ _ _ us hl=>match us,hl with|[_],_=>rfl
 have b3:=F3.binds (ps:=["a","b"]) fun _ _ _ _ _ _ us hl=>match us,hl with|[_,_],_=>rfl
 have b4:=F4.binds (ps:=["p","first"]) fun _ _ _ _ _ _ us hl=>match us,hl with|[_,_],_=>rfl
 have b5:=F5.binds (ps:=["p"]) fun _ _ _ _ _ _ us hl=>match us,hl with|[_],_=>rfl
 have b6:=F6.binds (ps:=["target","ring","steps"]) fun _ _ _ _ _ _ us hl=>match us,hl with|[_,_,_],_=>rfl
 have b7:=F7.binds (ps:=["rings"]) fun _ _ _ _ _ _ us hl=>match us,hl with|[_],_=>rfl
 have b8:=F8.binds (ps:=["rings"]) fun _ _ _ _ _ _ us hl=>match us,hl with|[_],_=>rfl
 have b9:=F9.binds (ps:=["p","choices"]) fun _ _ _ _ _ _ us hl=>match us,hl with|[_,_],_=>rfl
 have b10:=F10.binds (ps:=["thing"]) fun _ _ _ _ _ _ us hl=>match us,hl with|[_],_=>rfl
 have b11:=F11.binds (ps:=["thing"]) fun _ _ _ _ _ _ us hl=>match us,hl with|[_],_=>rfl
 have b12:=F12.binds (ps:=["p","k"]) fun _ _ _ _ _ _ us hl=>match us,hl with|[_,_],_=>rfl
 have b13:=F13.binds (ps:=["p"]) fun _ _ _ _ _ _ us hl=>match us,hl with|[_],_=>rfl
 have b14:=F14.binds (ps:=["p"]) fun _ _ _ _ _ _ us hl=>match us,hl with|[_],_=>rfl
 have b15:=F15.binds (ps:=["p"]) fun _ _ _ _ _ _ us hl=>match us,hl with|[_],_=>rfl
 have b16:=F16.binds (ps:=["rounds"]) fun _ _ _ _ _ _ us hl=>match us,hl with|[_],_=>rfl
 have b17:=F17.binds (ps:=["rounds"]) fun _ _ _ _ _ _ us hl=>match us,hl with|[_],_=>rfl
 have b18:=F18.binds (ps:=["rounds"]) fun _ _ _ _ _ _ us hl=>match us,hl with|[_],_=>rfl
 have b19:=F19.binds (ps:=["l","m"]) fun _ _ _ _ _ _ us hl=>match us,hl with|[_,_],_=>rfl
 have b20:=F20.binds (ps:=["rings","m"]) fun _ _ _ _ _ _ us hl=>match us,hl with|[_,_],_=>rfl
 have b21:=F21.binds (ps:=["p","m"]) fun _ _ _ _ _ _ us hl=>match us,hl with|[_,_],_=>rfl
 have b22:=F22.binds (ps:=["p","m"]) fun _ _ _ _ _ _ us hl=>match us,hl with|[_,_],_=>rfl
 have b23:=F23.binds (ps:=["length","m","most"]) fun _ _ _ _ _ _ us hl=>match us,hl with|[_,_,_],_=>rfl
 have b24:=F24.binds (ps:=["left","part","length"]) fun _ _ _ _ _ _ us hl=>match us,hl with|[_,_,_],_=>rfl
 have b25:=F25.binds (ps:=["length","many","m"]) fun _ _ _ _ _ _ us hl=>match us,hl with|[_,_,_],_=>rfl
 have b26:=F26.binds (ps:=["p","m"]) fun _ _ _ _ _ _ us hl=>match us,hl with|[_,_],_=>rfl
 have b27:=F27.binds (ps:=["rings","part"]) fun _ _ _ _ _ _ us hl=>match us,hl with|[_,_],_=>rfl
 have b28:=F28.binds (ps:=["rings","right","m"]) fun _ _ _ _ _ _ us hl=>match us,hl with|[_,_,_],_=>rfl
 have b29:=F29.binds (ps:=["p","m"]) fun _ _ _ _ _ _ us hl=>match us,hl with|[_,_],_=>rfl
 have b30:=F30.binds (ps:=["script","k"]) fun _ _ _ _ _ _ us hl=>match us,hl with|[_,_],_=>rfl
 have b31:=F31.binds (ps:=["cell","k"]) fun _ _ _ _ _ _ us hl=>match us,hl with|[_,_],_=>rfl
 have b32:=F32.binds (ps:=["cell","many"]) fun _ _ _ _ _ _ us hl=>match us,hl with|[_,_],_=>rfl
 have b33:=F33.binds (ps:=["deck"]) fun _ _ _ _ _ _ us hl=>match us,hl with|[_],_=>rfl
 have b34:=F34.binds (ps:=["deck","many"]) fun _ _ _ _ _ _ us hl=>match us,hl with|[_,_],_=>rfl
 have b35:=F35.binds (ps:=["deck"]) fun _ _ _ _ _ _ us hl=>match us,hl with|[_],_=>rfl
 have b36:=F36.binds (ps:=["p","m"]) fun _ _ _ _ _ _ us hl=>match us,hl with|[_,_],_=>rfl
 obtain ⟨oc,od,kV,dc,pm,an,cd,ct,sl,rfl,lk,hcd⟩:=id F37.ex
 refine ⟨PySem.W.fnOf "law" "law" (W5 al2) (S5 al2) (i7 al2) .none kV dc pm an cd ct,fun s v=> .of_eq rfl,fun base _ _=> ?_⟩
 have c_is_whole:j9 l.prog w K mg base "is_whole" 1 ["thing"] (al3 K):=i5 X G a0 F0 b0 (ch2 F0 B)
 have c_must_be_from_one:j9 l.prog w K mg base "must_be_from_one" 2 ["number"] au4:=i5 X G a1 F1 b1 (cu4 F1 c_is_whole)
 have c_must_be_few:j9 l.prog w K mg base "must_be_few" 1 ["many"] bl6:=i5 X G a2 F2 b2 (az1 F2 g_MOST_TOLD)
 have c_greatest_part:j9 l.prog w K mg base "greatest_part" 1 ["a","b"] au2:=i5 X G a3 F3 b3 (cu1 F3)
 have c_walk_ring:j9 l.prog w K mg base "walk_ring" 1 ["p","first"] bi4:=i5 X G a4 F4 b4 (cn4 F4)
 have c_walk_rings:j9 l.prog w K mg base "walk_rings" 2 ["p"] L7:=i5 X G a5 F5 b5 (ch3 F5 B c_walk_ring)
 have c_send_along:j9 l.prog w K mg base "send_along" 1 ["target","ring","steps"] (bh5 ad1 al5):=i5 X G a6 F6 b6 (cy7 (cn5 F6 B) (bd3 F6 B))
 have c_sort_by_length:j9 l.prog w K mg base "sort_by_length" 1 ["rings"] ad2:=i5 X G a7 F7 b7 (ch9 F7 B)
 have c_picks_of:j9 l.prog w K mg base "picks_of" 1 ["rings"] ay7:=i5 X G a8 F8 b8 (bn5 F8 B)
 have c_lay_every_way:j9 l.prog w K mg base "lay_every_way" 1 ["p","choices"] bv4:=i5 X G a9 F9 b9 (ap3 F9 B)
 have c_is_turn:j9 l.prog w K mg base "is_turn" 2 ["thing"] af4:=i5 X G a10 F10 b10 (cc4 F10 B mt c_is_whole)
 have c_must_be_turn:j9 l.prog w K mg base "must_be_turn" 3 ["thing"] ai9:=i5 X G a11 F11 b11 (cn3 F11 c_is_turn)
 have c_power_of:j9 l.prog w K mg base "power_of" 4 ["p","k"] ax8:=i5 X G a12 F12 b12 (ch4 F12 B c_must_be_turn c_walk_rings (ck3 c_send_along))
 have c_rounds_of:j9 l.prog w K mg base "rounds_of" 4 ["p"] L7:=i5 X G a13 F13 b13 (bn4 F13 c_must_be_turn c_walk_rings)
 have c_kind_of:j9 l.prog w K mg base "kind_of" 5 ["p"] bi6:=i5 X G a14 F14 b14 (cn7 F14 B B.sorted c_rounds_of)
 have c_home_of:j9 l.prog w K mg base "home_of" 6 ["p"] bi7:=i5 X G a15 F15 b15 (cn8 F15 c_kind_of c_greatest_part)
 have c_are_filled_lists:j9 l.prog w K mg base "are_filled_lists" 1 ["rounds"] ao4:=i5 X G a16 F16 b16 (cc5 F16 B)
 have c_things_in:j9 l.prog w K mg base "things_in" 1 ["rounds"] ao5:=i5 X G a17 F17 b17 (cc6 F17)
 have c_from_rounds:j9 l.prog w K mg base "from_rounds" 3 ["rounds"] bj0:=i5 X G a18 F18 b18 (cn9 F18 c_are_filled_lists c_things_in c_is_turn (ck3 c_send_along))
 have c_least_right:j9 l.prog w K mg base "least_right" 3 ["l","m"] ch6:=i5 X G a19 F19 b19 (cz4 F19 c_must_be_from_one c_greatest_part)
 have c_join_rings:j9 l.prog w K mg base "join_rings" 1 ["rings","m"] aj0:=i5 X G a20 F20 b20 (co0 F20 B)
 have c_root_told:j9 l.prog w K mg base "root_told" 5 ["p","m"] bj7:=i5 X G a21 F21 b21 (co1 F21 B c_rounds_of c_sort_by_length c_must_be_from_one c_least_right c_join_rings c_from_rounds)
 have c_soonest_root:j9 l.prog w K mg base "soonest_root" 7 ["p","m"] bk3:=i5 X G a22 F22 b22 (au5 F22 B g_MOST_THINGS_soonest (ci2 c_root_told) (bb8 c_home_of))
 have c_right_numbers:j9 l.prog w K mg base "right_numbers" 2 ["length","m","most"] af6:=i5 X G a23 F23 b23 (ao8 F23 B c_greatest_part)
 have c_ways_to_follow:j9 l.prog w K mg base "ways_to_follow" 1 ["left","part","length"] ao9:=i5 X G a24 F24 b24 (al9 F24 B)
 have c_count_joins:j9 l.prog w K mg base "count_joins" 3 ["length","many","m"] ay4:=i5 X G a25 F25 b25 (ay5 F25 B c_right_numbers c_ways_to_follow)
 have c_how_many_roots:j9 l.prog w K mg base "how_many_roots" 4 ["p","m"] au7:=i5 X G a26 F26 b26 (am0 F26 B c_must_be_turn c_must_be_from_one c_sort_by_length c_walk_rings c_count_joins)
 have c_chains_of:j9 l.prog w K mg base "chains_of" 2 ["rings","part"] af9:=i5 X G a27 F27 b27 (bl1 F27 B c_picks_of)
 have c_ways_to_join:j9 l.prog w K mg base "ways_to_join" 43 ["rings","right","m"] (aj5 40):=i5 X G a28 F28 b28 (g7 F28 B c_chains_of c_join_rings (i5 X G a28 F28 b28 (g7 F28 B c_chains_of c_join_rings (i5 X G a28 F28 b28 (g7 F28 B c_chains_of c_join_rings (i5 X G a28 F28 b28 (g7 F28 B c_chains_of c_join_rings (i5 X G a28 F28 b28 (g7 F28 B c_chains_of c_join_rings (i5 X G a28 F28 b28 (g7 F28 B c_chains_of c_join_rings (i5 X G a28 F28 b28 (g7 F28 B c_chains_of c_join_rings (i5 X G a28 F28 b28 (g7 F28 B c_chains_of c_join_rings (i5 X G a28 F28 b28 (g7 F28 B c_chains_of c_join_rings (i5 X G a28 F28 b28 (g7 F28 B c_chains_of c_join_rings (i5 X G a28 F28 b28 (g7 F28 B c_chains_of c_join_rings (i5 X G a28 F28 b28 (g7 F28 B c_chains_of c_join_rings (i5 X G a28 F28 b28 (g7 F28 B c_chains_of c_join_rings (i5 X G a28 F28 b28 (g7 F28 B c_chains_of c_join_rings (i5 X G a28 F28 b28 (g7 F28 B c_chains_of c_join_rings (i5 X G a28 F28 b28 (g7 F28 B c_chains_of c_join_rings (i5 X G a28 F28 b28 (g7 F28 B c_chains_of c_join_rings (i5 X G a28 F28 b28 (g7 F28 B c_chains_of c_join_rings (i5 X G a28 F28 b28 (g7 F28 B c_chains_of c_join_rings (i5 X G a28 F28 b28 (g7 F28 B c_chains_of c_join_rings (i5 X G a28 F28 b28 (g7 F28 B c_chains_of c_join_rings (i5 X G a28 F28 b28 (g7 F28 B c_chains_of c_join_rings (i5 X G a28 F28 b28 (g7 F28 B c_chains_of c_join_rings (i5 X G a28 F28 b28 (g7 F28 B c_chains_of c_join_rings (i5 X G a28 F28 b28 (g7 F28 B c_chains_of c_join_rings (i5 X G a28 F28 b28 (g7 F28 B c_chains_of c_join_rings (i5 X G a28 F28 b28 (g7 F28 B c_chains_of c_join_rings (i5 X G a28 F28 b28 (g7 F28 B c_chains_of c_join_rings (i5 X G a28 F28 b28 (g7 F28 B c_chains_of c_join_rings (i5 X G a28 F28 b28 (g7 F28 B c_chains_of c_join_rings (i5 X G a28 F28 b28 (g7 F28 B c_chains_of c_join_rings (i5 X G a28 F28 b28 (g7 F28 B c_chains_of c_join_rings (i5 X G a28 F28 b28 (g7 F28 B c_chains_of c_join_rings (i5 X G a28 F28 b28 (g7 F28 B c_chains_of c_join_rings (i5 X G a28 F28 b28 (g7 F28 B c_chains_of c_join_rings (i5 X G a28 F28 b28 (g7 F28 B c_chains_of c_join_rings (i5 X G a28 F28 b28 (g7 F28 B c_chains_of c_join_rings (i5 X G a28 F28 b28 (g7 F28 B c_chains_of c_join_rings (i5 X G a28 F28 b28 (g7 F28 B c_chains_of c_join_rings (i5 X G a28 F28 b28 (g7 F28 B c_chains_of c_join_rings (i5 X G a28 F28 b28 (au9 F28 B c_chains_of c_join_rings c_send_along)) c_send_along)) c_send_along)) c_send_along)) c_send_along)) c_send_along)) c_send_along)) c_send_along)) c_send_along)) c_send_along)) c_send_along)) c_send_along)) c_send_along)) c_send_along)) c_send_along)) c_send_along)) c_send_along)) c_send_along)) c_send_along)) c_send_along)) c_send_along)) c_send_along)) c_send_along)) c_send_along)) c_send_along)) c_send_along)) c_send_along)) c_send_along)) c_send_along)) c_send_along)) c_send_along)) c_send_along)) c_send_along)) c_send_along)) c_send_along)) c_send_along)) c_send_along)) c_send_along)) c_send_along)) c_send_along)) c_send_along)
 have c_all_roots:j9 l.prog w K mg base "all_roots" 44 ["p","m"] bl7:=i5 X G a29 F29 b29 (bl8 F29 B c_how_many_roots c_must_be_few c_sort_by_length c_walk_rings c_ways_to_join c_right_numbers c_lay_every_way)
 have c_law_cell_at:j9 l.prog w K mg base "_law_cell_at" 1 ["script","k"] (bj8 K):=i5 X G a30 F30 b30 (co2 F30 B)
 have c_law_stir:j9 l.prog w K mg base "_law_stir" 1 ["cell","k"] bj9:=i5 X G a31 F31 b31 (co3 F31)
 have c_law_deck:j9 l.prog w K mg base "_law_deck" 2 ["cell","many"] bk1:=i5 X G a32 F32 b32 (co4 F32 B c_law_stir)
 have c_law_next:j9 l.prog w K mg base "_law_next" 1 ["deck"] aj1:=i5 X G a33 F33 b33 (co5 F33)
 have c_law_turn:j9 l.prog w K mg base "_law_turn" 2 ["deck","many"] ay2:=i5 X G a34 F34 b34 (ci0 F34 B c_law_next)
 have c_law_m:j9 l.prog w K mg base "_law_m" 2 ["deck"] spM:=i5 X G a35 F35 b35 (dd0 F35 B c_law_next)
 have c_law_right:j9 l.prog w K mg base "_law_right" 45 ["p","m"] ak0:=i5 X G a36 F36 b36 (bm3 F36 c_soonest_root c_how_many_roots c_all_roots (bb8 c_home_of))
 exact cw0 F37 B c_law_deck c_law_cell_at c_law_next c_law_m c_law_turn c_power_of c_law_right
theorem de7 {l:PySem.W.OpenLaw}{q:Program}{loose:List Str}{XP:(Str→Option Value)→Heap→Prop}{YP:World→Heap→Prop}{d:DefRec}{K:Params→PySem.W.Frag}(hn:l.most=some 63)(hdf:d.params.defaults=[])
   (hY:∀(w:World) (h:Heap),YP w h→(K w.params).In h)
   (F:∀(w:World) (mg:Str→Option Value) (fa:Addr) (h:Heap),(K w.params).In h→h.Ns mainGlobals mg→mg d.name=some (.ref fa)→
     ∃fd:FuncData,(∀(s:Shared) (u:Value),BindsTo s fd ⟨[u],[]⟩ [("script",u)])∧∀base:Heap,(K w.params).In base→base.Ns mainGlobals mg→o4 l.prog w (K w.params) mg base A2 46 fa fd ["script"] (be0 (K w.params))):
   PySem.W.WalkO q loose XP YP l.row.toRowW d [] (fun f vs=>PySem.call f vs):=
 L2.dd4 (n:=63) (k:=46) (x:="script") (CX:=fun _=>A2) (sp:=fun w=>be0 (K w.params)) hn (by decide) hdf ⟨rfl,by decide,by decide,rfl⟩ hY F (fun _ _ a ns hl _ hS=>⟨a,ns,rfl,hS,hl,fun _=>rfl⟩) fun _ _ _ _ _ z=>z
end My
abbrev PySem.W.Fast.tw90343872475197607:Type:=PySem.Params
theorem PySem.W.Fast.te90343872475197607:PySem.Params=PySem.W.Fast.tw90343872475197607:=rfl
open PySem PySem.W PyProof.Rows L2
set_option maxRecDepth 100000 in
set_option maxHeartbeats 0 in
theorem PySem.Challenge.cw_turnroots_k25_whole_no_root_is_sooner_holds : PySem.Challenge.rw_turnroots_k25_whole_no_root_is_sooner.Holds := by
  w_on; o_law; k_head; (case hw => w_witness2)
  k_fill
  refine My.de7 (l := PySem.Challenge.rw_turnroots_k25_whole_no_root_is_sooner) rfl rfl (fun w h Y => PySem.W.kIn_of Y) ?F
  case F =>
    intro w mg fa h KX G hmg
    refine' My.de6 KX G hmg ?_ ?_ ?_ ?_ ?_ ?_ ?_ ?_ ?_ ?_ ?_ ?_ ?_ ?_ ?_ ?_ ?_ ?_ ?_ ?_ ?_ ?_ ?_ ?_ ?_ ?_ ?_ ?_ ?_ ?_ ?_ ?_ ?_ ?_ ?_ ?_ ?_ ?_ ?_ ?_ ?_ ?_
    all_goals first
      | k_is
      | (refine' cz2 ?a ?l ?c ?k; (case a => k_is); (case l => k_is); (case c => k_is); (case k => k_is))
      | ((repeat (refine' And.intro (ClF.mk ?n ?e ?g ?h ?c ?b ?o ?i ?t ?u ?v ?s) ?_; (case n => k_is); (case e => k_exc); (case g => k_is); (case h => k_is); (case c => k_is); (case b => k_is); (case o => k_is); (case i => k_is); (case t => k_is); (case u => k_is); (case v => k_is); (case s => k_is))); exact trivial)
      | ((repeat (refine' And.intro ?n ?_; (case n => k_is))); exact trivial)
      | ((repeat (refine' And.intro ?zp ?_; (case zp => ((repeat (refine' And.intro ?n ?_; (case n => k_is))); exact trivial)))); exact trivial)
      | skip
#print axioms PySem.Challenge.cw_turnroots_k25_whole_no_root_is_sooner_holds
