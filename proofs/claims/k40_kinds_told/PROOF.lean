import PyProof.Rows.All
import Wide.All
import OpenK.AllK
import Wide.FinOn
import Lean
import PyProof.EqAt
import PyProof.EqKinds
import PyProof.TupleCall
import PyProof.NeKinds
import PyProof.EnumMake
import PyProof.Rows.SeqMore2
import PyProof.ZipIter
import PyProof.Rows.SortRev
import PyProof.Rows.SortWalk
import PyProof.Rows.CallKwBuiltin
import PyProof.DictIter
import PyProof.DictWalks
import PyProof.MeetsDict
import PyProof.Conv_int_bool
import PyProof.EqAt
import PyProof.CollectWalk
import PyProof.Rows.SortShell
import PyProof.Rows.Range3
import PyProof.CallFns
import PyProof.StrBlockH
import PySem.Challenge.RW_turnroots_k40_kinds_told
set_option Elab.async false
set_option linter.all false
set_option maxRecDepth 100000
set_option maxHeartbeats 8000000
set_option Elab.async false
set_option linter.all false
set_option maxRecDepth 100000
namespace L2
open PySem PySem.Spec PyProof.Rows
abbrev Key := Sum Int Str
def keyIs : Key → Value → Bool
  | .inl k, v => Value.isInt k v
  | .inr x, v => Value.isStrOf x v
def keyH (w : World) : Key → Int
  | .inl k => hashInt k
  | .inr x => hashStr w x
theorem keyIs_shape : ∀ {k : Key} {v : Value}, keyIs k v = true → (∃ i t, k = Sum.inl i ∧ v = Value.int i t) ∨ (∃ x t, k = Sum.inr x ∧ v = Value.str x t)
  | .inl i, v, h => by
    obtain ⟨t, e⟩ := Value.isInt_shape (k := i) (v := v) h
    exact .inl ⟨i, t, rfl, e⟩
  | .inr x, v, h => by
    obtain ⟨t, e⟩ := Value.isStrOf_shape (x := x) (v := v) h
    exact .inr ⟨x, t, rfl, e⟩
theorem key_ll (a b : Int) : decide ((Sum.inl a : Key) = Sum.inl b) = (a == b) := by
  by_cases e : a = b
  · subst e; simp
  · have h : ¬ (Sum.inl a : Key) = Sum.inl b := fun q => e (Sum.inl.inj q)
    rw [decide_eq_false h]
    exact (beq_eq_false_iff_ne.mpr e).symm
theorem key_rr (a b : Str) : decide ((Sum.inr a : Key) = Sum.inr b) = decide (a = b) := by
  by_cases e : a = b
  · subst e; simp
  · have h : ¬ (Sum.inr a : Key) = Sum.inr b := fun q => e (Sum.inr.inj q)
    rw [decide_eq_false h, decide_eq_false e]
theorem key_lr (a : Int) (b : Str) : decide ((Sum.inl a : Key) = Sum.inr b) = false := decide_eq_false (fun q => nomatch q)
theorem key_rl (a : Str) (b : Int) : decide ((Sum.inr a : Key) = Sum.inl b) = false := decide_eq_false (fun q => nomatch q)
def mixKind (prog : Program) (w : World) : PySem.KeyKind prog w Key where
  is := keyIs
  hash := keyH w
  inj := fun v a b ha hb => by
    rcases keyIs_shape ha with ⟨i, t, rfl, rfl⟩ | ⟨x, t, rfl, rfl⟩
    · rcases keyIs_shape hb with ⟨j, u, rfl, e⟩ | ⟨y, u, rfl, e⟩
      · injection e with e1 _; rw [e1]
      · exact nomatch e
    · rcases keyIs_shape hb with ⟨j, u, rfl, e⟩ | ⟨y, u, rfl, e⟩
      · exact nomatch e
      · injection e with e1 _; rw [e1]
  byValue := fun k v h => by
    rcases keyIs_shape h with ⟨i, t, rfl, rfl⟩ | ⟨x, t, rfl, rfl⟩ <;> rfl
  pyHash := fun hv h => by
    rcases keyIs_shape hv with ⟨i, t, rfl, rfl⟩ | ⟨x, t, rfl, rfl⟩
    · exact wpAny_pyHash_int h
    · exact wpAny_pyHash_str h
  eqBool := fun hu hv h => by
    rcases keyIs_shape hu with ⟨i, t, rfl, rfl⟩ | ⟨x, t, rfl, rfl⟩
    · rcases keyIs_shape hv with ⟨j, u, rfl, rfl⟩ | ⟨y, u, rfl, rfl⟩
      · rw [key_ll] at h; exact wpAny_eqBool_int h
      · rw [key_lr] at h; exact SeqAt.EqAt.int_str i t y u _ _ _ _ h
    · rcases keyIs_shape hv with ⟨j, u, rfl, rfl⟩ | ⟨y, u, rfl, rfl⟩
      · rw [key_rl] at h; exact SeqAt.EqAt.str_int x t j u _ _ _ _ h
      · rw [key_rr] at h; exact wpAny_eqBool_str h
  «strs» := fun k x t v h => by
    rcases keyIs_shape h with ⟨i, u, rfl, e⟩ | ⟨y, u, rfl, e⟩
    · exact nomatch e
    · injection e with e1 _
      subst e1
      cases v <;> rfl
end L2
namespace L2
open PySem PySem.Spec PyProof.Rows
inductive V where
  | non | bl (b : Bool) | int (i : Int) | str (x : Str) | byt (b : Array UInt8) | flt (b : UInt64) | ref (a : Addr) | ty (n : String)
  deriving DecidableEq
def RelV : V → Value → Prop
  | .non, u => u = Value.none
  | .bl b, u => u = Value.bool b
  | .int i, u => ∃ t, u = Value.int i t
  | .str x, u => ∃ t, u = Value.str x t
  | .byt b, u => ∃ t, u = Value.bytes b t
  | .flt b, u => ∃ t, u = Value.float b t
  | .ref a, u => u = Value.ref a
  | .ty n, u => u = Value.type n
abbrev Vals : List V → List Value → Prop := Paired RelV
theorem Vals.length {xs : List V} {us : List Value} (r : Vals xs us) : xs.length = us.length := Paired.length r
theorem Vals.get : ∀ {xs : List V} {us : List Value} {i : Nat} {x : V}, Vals xs us → xs[i]? = some x → ∃ u, us[i]? = some u ∧ RelV x u
  | _, _, _, _, .nil, e => by simp at e
  | _, _, 0, _, .cons r _, e => by simp at e; subst e; exact ⟨_, rfl, r⟩
  | _, _, i + 1, x, .cons _ t, e => by
    obtain ⟨u, h1, h2⟩ := Vals.get (i := i) (x := x) t (by simpa using e)
    exact ⟨u, by simpa using h1, h2⟩
theorem Vals.set {x : V} {u : Value} (r : RelV x u) : ∀ {xs : List V} {us : List Value} (i : Nat), Vals xs us → Vals (xs.set i x) (us.set i u)
  | _, _, _, .nil => .nil
  | _, _, 0, .cons _ t => .cons r t
  | _, _, i + 1, .cons q t => .cons q (Vals.set r i t)
theorem Vals.append : ∀ {xs ys : List V} {us ws : List Value}, Vals xs us → Vals ys ws → Vals (xs ++ ys) (us ++ ws)
  | _, _, _, _, .nil, s => s
  | _, _, _, _, .cons r t, s => .cons r (Vals.append t s)
def RelO : Option V → Option Value → Prop
  | some v, some u => RelV v u
  | none, none => True
  | _, _ => False
def KV {κ : Type} : List (κ × V) → List (κ × Value) → Prop := Paired fun (p : κ × V) (q : κ × Value) => p.1 = q.1 ∧ RelV p.2 q.2
def kV : Key → V
  | .inl i => .int i
  | .inr x => .str x
inductive HO where
  | lst (xs : List V)
  | tup (xs : List V)
  | dK (kvs : List (Key × V)) | dT (kvs : List (List Key × V))
  | set (S : Int → Bool) (n : Nat)
  | ins (C dx : Addr) (fs : List (Str × V))
  | own (x : Addr)
  | xd (fs : List (Str × V))
  | met (f x : Addr)
  | rng (lo hi : Int)
  | frz (o : Obj) (u : HO)
  | tbl (ps : Array Value)
  | ext (φ : Heap → Prop)
abbrev Hp := Addr → Option HO
def upd (H : Hp) (a : Addr) (o : HO) : Hp := fun b => if b = a then some o else H b
theorem upd_same {H : Hp} {a : Addr} {o : HO} : upd H a o a = some o := by unfold upd; rw [if_pos rfl]
theorem upd_ne {H : Hp} {a b : Addr} {o : HO} (h : b ≠ a) : upd H a o b = H b := by unfold upd; rw [if_neg h]
theorem ne_of_none {H : Hp} {a b : Addr} {o : HO} (h : H a = some o) (h' : H b = none) : a ≠ b := by
  intro e; subst e; rw [h] at h'; cases h'
section
variable (P : Program) (w : World)
def ObjOk (H : Hp) (h : Heap) (a : Addr) : HO → Prop
  | .lst xs => xs.length ≤ sizeLine ∧ ∃ (its : List Value) (n : Nat), Vals xs its ∧ h.get? a = some { cls := .type "list", data := .seq its.toArray n }
  | .tup xs => xs.length ≤ sizeLine ∧ ∃ its : List Value, Vals xs its ∧ IsTup h a its.toArray
  | .dK kvs => kvs.length ≤ sizeLine ∧ (a == sysModules) = false ∧ ∃ vs, KV kvs vs ∧ h.DictOf (mixKind P w) a vs
  | .dT kvs => kvs.length ≤ sizeLine ∧ (a == sysModules) = false ∧ ∃ xs : List (List Key × Addr × Value),
      Paired (fun (p : List Key × V) (q : List Key × Addr × Value) => p.1 = q.1 ∧ H q.2.1 = some (.tup (p.1.map kV)) ∧ RelV p.2 q.2.2) kvs xs ∧
      ∃ o es ep, h.get? a = some o ∧ o.ExactDict ∧ o.data = .dict es ep ∧ es.toList = xs.map (entryOfKey (tupleKind (mixKind P w))) ∧ (xs.map (·.1)).Nodup
  | .set S n => h.SetOf (intKind P w) a S n
  | .ins C dx fs => H dx = some (.own a) ∧ fs.length ≤ 1000 ∧ dx ≠ a ∧ h.get? a = some (PySem.W.instObj C dx) ∧
      ∃ mA, h.Ns1 dx mA ∧ (∀ f, RelO (fs.lookup f) (mA f)) ∧ PySem.Within mA (fs.map (·.1))
  | .own _ => ∃ o, h.get? a = some o
  | .xd fs => ∃ mA, h.Ns1 a mA ∧ ∀ f, RelO (fs.lookup f) (mA f)
  | .rng lo hi => ∃ t u v, h.get? a = some { cls := .type "range", data := .fields #[.int lo t, .int hi u, .int 1 v] }
  | .frz o u => h.get? a = some o ∧ ObjOk H h a u
  | .tbl ps => h.get? a = some { cls := .none, data := .fields ps }
  | .met f x => h.get? a = some (PySem.W.methodObj (.ref f) (.ref x))
  | .ext φ => φ h ∧ (∃ o, h.get? a = some o) ∧ ∀ h1 h2 : Heap, φ h1 → (∀ o, h1.get? a = some o → h2.get? a = some o) → φ h2
def HOk (H : Hp) (h : Heap) : Prop := ∀ a o, H a = some o → ObjOk P w H h a o
end
section
variable {P : Program} {w : World} {H H' : Hp} {h h' : Heap} {a : Addr} {o : HO}
theorem ObjOk.lt (x : ObjOk P w H h a o) : a < h.objs.size := by
  cases o with
  | lst xs => obtain ⟨_, _, _, _, e⟩ := x; exact Heap.lt_size e
  | tup xs => obtain ⟨_, _, _, p⟩ := x; exact p.lt
  | dK kvs => obtain ⟨_, _, _, _, o, _, _, e, _⟩ := x; exact Heap.lt_size e
  | dT kvs => obtain ⟨_, _, _, _, o, _, _, e, _⟩ := x; exact Heap.lt_size e
  | set S n => obtain ⟨o, _, _, _, e, _⟩ := x; exact Heap.lt_size e
  | ins C dx fs => obtain ⟨_, _, _, e, _⟩ := x; exact Heap.lt_size e
  | own y => obtain ⟨_, e⟩ := x; exact Heap.lt_size e
  | xd fs => obtain ⟨_, ⟨_, _, _, e, _⟩, _⟩ := x; exact Heap.lt_size e
  | rng lo hi => obtain ⟨_, _, _, e⟩ := x; exact Heap.lt_size e
  | frz ob u => obtain ⟨e, _⟩ := x; exact Heap.lt_size e
  | tbl ps => exact Heap.lt_size (show h.get? a = some _ from x)
  | met f y => exact Heap.lt_size (show h.get? a = some _ from x)
  | ext φ => obtain ⟨_, ⟨_, e⟩, _⟩ := x; exact Heap.lt_size e
theorem Paired.mapP {α β : Type} {F G : α → β → Prop} : ∀ {l₁ : List α} {l₂ : List β}, Paired F l₁ l₂ → (∀ a b, F a b → G a b) → Paired G l₁ l₂
  | _, _, .nil, _ => .nil
  | _, _, .cons r t, f => .cons (f _ _ r) (Paired.mapP t f)
theorem ObjOk.stay (x : ObjOk P w H h a o) (k : ∀ b u, (b = a ∨ H b = some (.own a)) → h.get? b = some u → h'.get? b = some u)
    (ho : ∀ b, H b = some (.own a) → H' b = some (.own a)) (ht : ∀ b xs, H b = some (.tup xs) → H' b = some (.tup xs)) : ObjOk P w H' h' a o := by
  induction o with
  | lst xs => obtain ⟨z, its, n, r, e⟩ := x; exact ⟨z, its, n, r, k _ _ (.inl rfl) e⟩
  | tup xs => obtain ⟨z, its, r, ob, e, c⟩ := x; exact ⟨z, its, r, ob, k _ _ (.inl rfl) e, c⟩
  | dK kvs => obtain ⟨z, y, vs, r, ob, es, ep, e, c⟩ := x; exact ⟨z, y, vs, r, ob, es, ep, k _ _ (.inl rfl) e, c⟩
  | dT kvs =>
    obtain ⟨z, y, xs, r, ob, es, ep, e, c⟩ := x
    exact ⟨z, y, xs, Paired.mapP r fun p q z => ⟨z.1, ht _ _ z.2.1, z.2.2⟩, ob, es, ep, k _ _ (.inl rfl) e, c⟩
  | set S n => obtain ⟨ob, es, ep, t, e, c⟩ := x; exact ⟨ob, es, ep, t, k _ _ (.inl rfl) e, c⟩
  | ins C dx fs =>
    obtain ⟨d, z, ne, e, mA, ⟨od, es, ep, e2, c⟩, r⟩ := x
    exact ⟨ho _ d, z, ne, k _ _ (.inl rfl) e, mA, ⟨od, es, ep, k _ _ (.inr d) e2, c⟩, r⟩
  | own y => obtain ⟨ob, e⟩ := x; exact ⟨ob, k _ _ (.inl rfl) e⟩
  | xd fs => obtain ⟨mA, ⟨od, es, ep, e, c⟩, r⟩ := x; exact ⟨mA, ⟨od, es, ep, k _ _ (.inl rfl) e, c⟩, r⟩
  | rng lo hi => obtain ⟨t, u, v, e⟩ := x; exact ⟨t, u, v, k _ _ (.inl rfl) e⟩
  | frz ob u ih => obtain ⟨e, q⟩ := x; exact ⟨k _ _ (.inl rfl) e, ih q⟩
  | tbl ps =>
    have e : h.get? a = some { cls := .none, data := .fields ps } := x
    show h'.get? a = some { cls := .none, data := .fields ps }
    exact k a _ (.inl rfl) e
  | met f y =>
    have e : h.get? a = some (PySem.W.methodObj (.ref f) (.ref y)) := x
    show h'.get? a = some (PySem.W.methodObj (.ref f) (.ref y))
    exact k a _ (.inl rfl) e
  | ext φ => obtain ⟨p, ⟨o, e⟩, st⟩ := x; exact ⟨st _ _ p fun o q => k _ _ (.inl rfl) q, ⟨o, k _ _ (.inl rfl) e⟩, st⟩
theorem HOk.lt (x : HOk P w H h) (e : H a = some o) : a < h.objs.size := (x a o e).lt
theorem HOk.fresh (x : HOk P w H h) (e : h.objs.size ≤ a) : H a = none := by
  cases q : H a with
  | none => rfl
  | some u => exact absurd (Nat.lt_of_lt_of_le (x.lt q) e) (Nat.lt_irrefl _)
theorem HOk.kept (x : HOk P w H h) (k : ∀ b u, h.get? b = some u → h'.get? b = some u) : HOk P w H h' := fun a o e =>
  (x a o e).stay (fun b u _ q => k b u q) (fun _ q => q) fun _ _ q => q
theorem HOk.laid (x : HOk P w H h) (k : ∀ b u, h.get? b = some u → h'.get? b = some u) (hp : h.objs.size ≤ a) (new : ObjOk P w (upd H a o) h' a o) : HOk P w (upd H a o) h' := fun b u e => by
  have hn := x.fresh hp
  by_cases hb : b = a
  · subst hb; rw [upd_same] at e; cases e; exact new
  · rw [upd_ne hb] at e
    exact (x b u e).stay (fun c v _ q => k c v q) (fun c q => by rw [upd_ne (ne_of_none q hn)]; exact q) fun c xs q => by rw [upd_ne (ne_of_none q hn)]; exact q
end
def Rd (H : Hp) (a : Addr) (u : HO) : Prop := H a = some u ∨ ∃ o, H a = some (.frz o u)
theorem Rd.ok {P : Program} {w : World} {H : Hp} {h : Heap} {a : Addr} {u : HO} (r : Rd H a u) (x : HOk P w H h) : ObjOk P w H h a u := by
  rcases r with r | ⟨o, r⟩
  · exact x a u r
  · obtain ⟨_, q⟩ := x a _ r
    exact q
def Mut : Option HO → Prop
  | some (.lst _) => True
  | some (.dK _) => True
  | some (.dT _) => True
  | some (.set _ _) => True
  | some (.ins _ _ _) => True
  | some (.ext _) => True
  | _ => False
section
variable {P : Program} {w : World} {H : Hp} {h h' : Heap} {x e : Addr} {o' : HO}
theorem HOk.write (ok : HOk P w H h) (mu : Mut (H x)) (he : e = x ∨ H e = some (.own x)) (k : ∀ b u, b ≠ e → h.get? b = some u → h'.get? b = some u) (heo : ∃ u, h'.get? e = some u)
    (new : ObjOk P w (upd H x o') h' x o') : HOk P w (upd H x o') h' := fun b u q => by
  have nown : ∀ c y, H c = some (.own y) → c ≠ x := fun c y r z => by subst z; rw [r] at mu; exact mu
  have ntup : ∀ c xs, H c = some (.tup xs) → c ≠ x := fun c xs r z => by subst z; rw [r] at mu; exact mu
  by_cases hb : b = x
  · subst hb; rw [upd_same] at q; cases q; exact new
  · rw [upd_ne hb] at q
    by_cases hbe : b = e
    · have q' : H b = some (.own x) := by
        rcases he with z | z
        · exact absurd (hbe.trans z) hb
        · rw [hbe]; exact z
      rw [q] at q'; cases q'
      obtain ⟨v, hv⟩ := heo
      exact ⟨v, by rw [hbe]; exact hv⟩
    · refine (ok b u q).stay (fun c v hc r => k c v ?_ r) (fun c r => by rw [upd_ne (nown c b r)]; exact r) fun c xs r => by rw [upd_ne (ntup c xs r)]; exact r
      rcases hc with rfl | hc
      · exact hbe
      · rintro rfl
        rcases he with z | z
        · exact nown c b hc z
        · rw [hc] at z; cases z; exact hb rfl
end
structure Un (fs ex : List Addr) (H H' : Hp) (h h' : Heap) : Prop where
  keep : ∀ b o, h.get? b = some o → H b = none → b ∉ fs → b ∉ ex → h'.get? b = some o
  slot : ∀ b o, h.get? b = some o → H b = none → b ∈ fs → b ∉ ex → ∃ sl, h'.get? b = some { o with slots := sl }
  free : ∀ b o, h.get? b = some o → H b = none → b ∉ ex → H' b = none
  there : ∀ b o, h.get? b = some o → b ∉ ex → ∃ o', h'.get? b = some o'
  tups : ∀ b xs, H b = some (.tup xs) → H' b = some (.tup xs)
  frzs : ∀ b o u, H b = some (.frz o u) → H' b = some (.frz o u)
  tbls : ∀ b ps, H b = some (.tbl ps) → ∃ more, H' b = some (.tbl (ps ++ more))
section
variable {fs fs' ex ex' : List Addr} {H H1 H2 : Hp} {h h1 h2 h' : Heap} {a x e : Addr} {o : HO}
theorem Un.any (u : Un fs ex H H1 h h1) {b : Addr} {ob : Obj} (q : h.get? b = some ob) (n : H b = none) (hx : b ∉ ex) : ∃ sl, h1.get? b = some { ob with slots := sl } := by
  by_cases hb : b ∈ fs
  · exact u.slot b ob q n hb hx
  · exact ⟨ob.slots, u.keep b ob q n hb hx⟩
theorem Un.kept (k : ∀ b u, h.get? b = some u → h'.get? b = some u) : Un fs ex H H h h' :=
  ⟨fun b ob q _ _ _ => k b ob q, fun b ob q _ _ _ => ⟨ob.slots, k b ob q⟩, fun _ _ _ n _ => n, fun b ob q _ => ⟨ob, k b ob q⟩, fun _ _ q => q, fun _ _ _ q => q, fun _ ps q => ⟨#[], by rw [q]; simp⟩⟩
theorem Un.refl : Un fs ex H H h h := Un.kept fun _ _ q => q
theorem Un.laid (k : ∀ b u, h.get? b = some u → h'.get? b = some u) (hp : h.objs.size ≤ a) (hn : H a = none) : Un fs ex H (upd H a o) h h' where
  keep := fun b u q _ _ _ => k b u q
  slot := fun b u q _ _ _ => ⟨u.slots, k b u q⟩
  free := fun b u q n _ => by rw [upd_ne (Nat.ne_of_lt (Nat.lt_of_lt_of_le (Heap.lt_size q) hp))]; exact n
  there := fun b u q _ => ⟨u, k b u q⟩
  tups := fun b xs q => by rw [upd_ne (ne_of_none q hn)]; exact q
  frzs := fun b u xs q => by rw [upd_ne (ne_of_none q hn)]; exact q
  tbls := fun b ps q => ⟨#[], by rw [upd_ne (ne_of_none q hn), q]; simp⟩
theorem Un.write (mu : Mut (H x)) (he : e = x ∨ H e = some (.own x)) (k : ∀ b u, b ≠ e → h.get? b = some u → h'.get? b = some u) (heo : ∃ u, h'.get? e = some u) : Un fs ex H (upd H x o) h h' := by
  have hx : ∀ b, H b = none → b ≠ x := fun b n z => by subst z; rw [n] at mu; exact mu
  have hb : ∀ b, H b = none → b ≠ e := fun b n z => by
    subst z
    rcases he with r | r
    · exact hx b n r
    · rw [n] at r; cases r
  have hm : ∀ b u, H b = some u → ¬ Mut (some u) → b ≠ x := fun b u q nm z => by subst z; rw [q] at mu; exact nm mu
  refine ⟨fun b u q n _ _ => k b u (hb b n) q, fun b u q n _ _ => ⟨u.slots, k b u (hb b n) q⟩, fun b u q n _ => by rw [upd_ne (hx b n)]; exact n, fun b u q _ => ?_,
    fun b xs q => by rw [upd_ne (hm b _ q fun z => z)]; exact q, fun b u xs q => by rw [upd_ne (hm b _ q fun z => z)]; exact q, fun b ps q => ⟨#[], by rw [upd_ne (hm b _ q fun z => z), q]; simp⟩⟩
  by_cases hbe : b = e
  · subst hbe; exact heo
  · exact ⟨u, k b u hbe q⟩
end
def trk (h : Heap) (H : Hp) : List Addr := (List.range h.objs.size).filter fun a => (H a).isSome
def hidT (h : Heap) (H : Hp) : Heap := PySem.W.hideAll h (trk h H)
theorem hidT_size (h : Heap) (H : Hp) : (hidT h H).objs.size = h.objs.size := PySem.W.hideAll_size _ _
theorem hidT_get {h : Heap} {H : Hp} {b : Addr} {o : Obj} (e : h.get? b = some o) (n : H b = none) : (hidT h H).get? b = some o :=
  PySem.W.hideAll_get _ e fun hm => by
    have q : (H b).isSome = true := (List.mem_filter.mp hm).2
    rw [n] at q; simp at q
theorem of_hidT {h : Heap} {H : Hp} {b : Addr} {o : Obj} (e : (hidT h H).get? b = some o) : h.get? b = some o ∧ H b = none := by
  have e' : h.get? b = some o := PySem.W.of_hideAll (trk h H) e
  refine ⟨e', ?_⟩
  cases q : H b with
  | none => rfl
  | some x =>
    have hm : b ∈ trk h H := List.mem_filter.mpr ⟨List.mem_range.mpr (Heap.lt_size e'), by simp [q]⟩
    have z : (hidT h H).get? b = none := PySem.W.hideAll_none (trk h H) hm
    rw [z] at e; cases e
end L2
namespace L2
open PySem PySem.Spec PyProof.Rows
structure Mod (K : PySem.W.Frag) (mg : Str → Option Value) (base : Heap) : Prop where
  kin : K.In base
  glob : base.Ns mainGlobals mg
  blt : ∃ mb, base.Ns builtinsNs mb ∧ ∀ x : Str, x ≠ "__name__" → mb x = bootBuiltins x
  nolimit : base.NoLimit
structure Cx where
  prog : Program
  w : World
  K : PySem.W.Frag
  mg : Str → Option Value
  base : Heap
  A : Around
  N : List Str
  s₀ : Shared
  H₀ : Hp
  env : Env
  outer : List Env
  stack : List Env
  ex : List Addr
  fn : Str → Bool
  calm : Bool
  pn : List (Addr × Obj)
  xe : Value → Shared → Prop
def frs (l : List Env) : List Addr := l.filterMap (·.frame)
abbrev Cx.fs (X : Cx) : List Addr := frs X.outer
def Vis (sc : Scope) (x : Str) : Prop := sc.names.lookup x = some .local ∨ sc.names.lookup x = some .cell ∨ sc.names.lookup x = some .free
def Loc (sc : Scope) (x : Str) : Prop := sc.names.lookup x = some .local ∨ sc.names.lookup x = some .cell
def Look (env : Env) (h : Heap) (m : Str → Option Value) (x : Str) (u : Value) : Prop :=
  (env.kindOf x = some .local ∧ m x = some u) ∨ ((env.kindOf x = some .cell ∨ env.kindOf x = some .free) ∧ ∃ c, env.cells.lookup x = some c ∧ h.IsCell c (some u))
structure Cx.Ok (X : Cx) : Prop where
  mod : Mod X.K X.mg X.base
  kind : X.env.scope.kind = .function
  glob : X.env.globals = mainGlobals
  blt : X.env.builtins = builtinsNs
  above : X.s₀.heap.objs.size ≤ X.env.locals
  inj : ∀ x y c, X.env.cells.lookup x = some c → X.env.cells.lookup y = some c → x = y
  has : ∀ x, (X.env.kindOf x = some .cell ∨ X.env.kindOf x = some .free) → ∃ c, X.env.cells.lookup x = some c
  cab : ∀ x c, X.fn x = true → X.env.cells.lookup x = some c → X.s₀.heap.objs.size ≤ c
  hd : X.calm = true → X.A.handled = none
  frames : X.A.frames = some X.stack
  stk : X.stack = X.outer ∨ (X.stack = X.env :: X.outer ∧ X.env.frame = some X.env.locals)
  exf : ∀ b ∈ X.ex, b ≠ X.env.locals ∧ ∀ x c, X.env.cells.lookup x = some c → c ≠ b
  bs : ∀ b o, X.base.get? b = some o → X.s₀.heap.get? b = some o ∧ X.H₀ b = none
  bsz : X.base.objs.size ≤ X.s₀.heap.objs.size
  noex : ∀ b o, X.base.get? b = some o → b ∉ X.ex
  exfs : ∀ b ∈ X.ex, b ∉ X.fs
  funs : X.s₀.heap.FunFrames X.base X.outer
  frf : ∀ b ∈ X.fs, X.H₀ b = none
structure Inv (X : Cx) (pins : List (Addr × Obj)) (σ : List (Option V)) (H : Hp) (s : Shared) : Prop where
  ok : X.Ok
  os : s.os = X.s₀.os
  bare : AllBare s.gens
  base : Un X.fs X.ex X.H₀ H X.s₀.heap s.heap
  loc : ∃ m, s.heap.Ns X.env.locals m ∧ ∀ (i : Nat) (x : Str) (v : V), X.N[i]? = some x → σ[i]? = some (some v) → Vis X.env.scope x → ∃ u, RelV v u ∧ Look X.env s.heap m x u
  cell : ∀ x c, X.env.cells.lookup x = some c → ∃ v, s.heap.IsCell c v
  free : H X.env.locals = none
  freeC : ∀ x c, X.env.cells.lookup x = some c → H c = none
  pin : ∀ p ∈ X.pn ++ pins, s.heap.get? p.1 = some p.2 ∧ H p.1 = none ∧ p.1 ≠ X.env.locals ∧ p.1 ∉ X.fs ∧ ∀ v, p.2.data ≠ .cell v
  hok : HOk X.prog X.w H s.heap
  len : σ.length = X.N.length
section
variable {X : Cx} {pins : List (Addr × Obj)} {σ : List (Option V)} {H H' : Hp} {s : Shared} {h' : Heap}
theorem Cx.Ok.nofr (ok : X.Ok) {b : Addr} {o : Obj} (e : X.base.get? b = some o) : b ∉ X.fs := fun hb => by
  have := (ok.funs.mem hb).1
  rw [e] at this; cases this
theorem Inv.bs (I : Inv X pins σ H s) : ∀ b o, X.base.get? b = some o → s.heap.get? b = some o ∧ H b = none := fun b o e =>
  ⟨I.base.keep b o (I.ok.bs b o e).1 (I.ok.bs b o e).2 (I.ok.nofr e) (I.ok.noex b o e), I.base.free b o (I.ok.bs b o e).1 (I.ok.bs b o e).2 (I.ok.noex b o e)⟩
theorem Inv.bk (I : Inv X pins σ H s) : ∀ b o, X.base.get? b = some o → s.heap.get? b = some o := fun b o e => (I.bs b o e).1
theorem Inv.mod (I : Inv X pins σ H s) : Mod X.K X.mg X.base := I.ok.mod
theorem Inv.kIn (I : Inv X pins σ H s) : X.K.In s.heap := I.ok.mod.kin.keeps I.bk
theorem Inv.lt (I : Inv X pins σ H s) : X.env.locals < s.heap.objs.size := let ⟨_, hn, _⟩ := I.loc; hn.lt
theorem Inv.sz (I : Inv X pins σ H s) : X.s₀.heap.objs.size ≤ s.heap.objs.size := Nat.le_trans I.ok.above (Nat.le_of_lt I.lt)
theorem Inv.nofs (I : Inv X pins σ H s) {a : Addr} (h : s.heap.objs.size ≤ a) : a ∉ X.fs := fun hb => by
  obtain ⟨_, o, ho, _⟩ := I.ok.funs.mem hb
  exact absurd (Nat.lt_of_lt_of_le (Heap.lt_size ho) (Nat.le_trans I.sz h)) (Nat.lt_irrefl _)
theorem Inv.cne (I : Inv X pins σ H s) : ∀ x c, X.env.cells.lookup x = some c → c ≠ X.env.locals := fun x c e z => by
  obtain ⟨v, o, ho, hd⟩ := I.cell x c e
  obtain ⟨m, ⟨o', es, ep, ho', hd', _⟩, _⟩ := I.loc
  rw [z, ho'] at ho; cases ho; rw [hd'] at hd; cases hd
theorem Inv.funs (I : Inv X pins σ H s) : s.heap.FunFrames X.base X.outer := by
  have all : ∀ (l : List Env), (∀ b ∈ frs l, b ∈ X.fs) → X.s₀.heap.FunFrames X.base l → s.heap.FunFrames X.base l := by
    intro l
    induction l with
    | nil => intro _ _; trivial
    | cons env r ih =>
      intro hs hl
      obtain ⟨hk, ⟨L, o, hf, hn, ho, hd⟩, hr⟩ := hl
      have hL : L ∈ X.fs := hs L (by unfold frs; rw [List.filterMap_cons, hf]; exact List.mem_cons_self)
      obtain ⟨sl, e⟩ := I.base.slot L o ho (I.ok.frf L hL) hL fun z => I.ok.exfs L z hL
      exact ⟨hk, ⟨L, _, hf, hn, e, hd⟩, ih (fun b hb => hs b (by unfold frs; rw [List.filterMap_cons, hf]; exact List.mem_cons_of_mem _ hb)) hr⟩
  exact all X.outer (fun _ hb => hb) I.ok.funs
theorem Inv.stack (I : Inv X pins σ H s) : s.heap.FunFrames X.base X.stack := by
  rcases I.ok.stk with e | ⟨e, hf⟩
  · rw [e]; exact I.funs
  · rw [e]
    obtain ⟨m, hn, _⟩ := I.loc
    refine .cons (by rw [I.ok.kind]; decide) hf hn ?_ I.funs
    exact Heap.get?_none_of_le (Nat.le_trans I.ok.bsz I.ok.above)
theorem Inv.stkSub (I : Inv X pins σ H s) : ∀ b ∈ frs X.stack, b ∈ X.env.locals :: X.fs := fun b hb => by
  rcases I.ok.stk with e | ⟨e, hf⟩
  · rw [e] at hb; exact List.mem_cons_of_mem _ hb
  · rw [e] at hb
    unfold frs at hb
    rw [List.filterMap_cons, hf] at hb
    exact hb
theorem Inv.stkFree (I : Inv X pins σ H s) : ∀ b ∈ frs X.stack, H b = none := fun b hb => by
  rcases List.mem_cons.mp (I.stkSub b hb) with e | hb
  · rw [e]; exact I.free
  · obtain ⟨_, o, ho, _⟩ := I.ok.funs.mem hb
    exact I.base.free b o ho (I.ok.frf b hb) fun z => I.ok.exfs b z hb
theorem Inv.step {g' : Array GenState} {t' : Nat} {d' : Drawn} {ch : List Addr} (I : Inv X pins σ H s)
    (hch : ∀ b ∈ ch, (b ∈ X.ex ∨ X.s₀.heap.objs.size ≤ b) ∧ b ≠ X.env.locals ∧ (∀ x c, X.env.cells.lookup x = some c → c ≠ b) ∧ ∀ p ∈ X.pn ++ pins, p.1 ≠ b)
    (keep : ∀ b o, b ≠ X.env.locals → b ∉ X.fs → b ∉ ch → s.heap.get? b = some o → H b = none → h'.get? b = some o)
    (slot : ∀ b o, b ≠ X.env.locals → b ∈ X.fs → b ∉ ch → s.heap.get? b = some o → H b = none → ∃ sl, h'.get? b = some { o with slots := sl }) (free : ∀ b o, b ∉ ch → s.heap.get? b = some o → H b = none → H' b = none)
    (there : ∀ b o, b ∉ ch → s.heap.get? b = some o → ∃ o', h'.get? b = some o')
    (tups : ∀ b xs, H b = some (.tup xs) → H' b = some (.tup xs)) (frzs : ∀ b o u, H b = some (.frz o u) → H' b = some (.frz o u)) (tbls : ∀ b ps, H b = some (.tbl ps) → ∃ more, H' b = some (.tbl (ps ++ more)))
    (ns : ∀ m, s.heap.Ns X.env.locals m → h'.Ns X.env.locals m) (hok : HOk X.prog X.w H' h') (hg : AllBare g') :
    Inv X pins σ H' { s with heap := h', gens := g', drawn := d', toks := t' } := by
  have neL : ∀ b o, X.s₀.heap.get? b = some o → b ≠ X.env.locals := fun b o e => Nat.ne_of_lt (Nat.lt_of_lt_of_le (Heap.lt_size e) I.ok.above)
  have neC : ∀ b o, X.s₀.heap.get? b = some o → b ∉ X.ex → b ∉ ch := fun b o e hx hb => by
    rcases (hch b hb).1 with z | z
    · exact hx z
    · exact absurd (Nat.lt_of_lt_of_le (Heap.lt_size e) z) (Nat.lt_irrefl _)
  have cellK : ∀ x c, X.env.cells.lookup x = some c → ∀ v, s.heap.IsCell c v → h'.IsCell c v := fun x c e v ⟨o, ho, hd⟩ => by
    have nch : c ∉ ch := fun z => (hch c z).2.2.1 x c e rfl
    by_cases hc : c ∈ X.fs
    · obtain ⟨sl, q⟩ := slot c o (I.cne x c e) hc nch ho (I.freeC x c e)
      exact ⟨_, q, hd⟩
    · exact ⟨o, keep c o (I.cne x c e) hc nch ho (I.freeC x c e), hd⟩
  refine ⟨I.ok, I.os, hg, ⟨fun b o e n hb hx => ?_, fun b o e n hb hx => ?_, fun b o e n hx => ?_, fun b o e hx => ?_, fun b xs e => tups b xs (I.base.tups b xs e), fun b o xs e => frzs b o xs (I.base.frzs b o xs e), fun b ps e => ?_⟩, ?_, fun x c e => ?_, ?_, fun x c e => ?_, fun p hp => ?_, hok, I.len⟩
  · exact keep b o (neL b o e) hb (neC b o e hx) (I.base.keep b o e n hb hx) (I.base.free b o e n hx)
  · obtain ⟨sl, e1⟩ := I.base.slot b o e n hb hx
    obtain ⟨sl', e2⟩ := slot b _ (neL b o e) hb (neC b o e hx) e1 (I.base.free b o e n hx)
    exact ⟨sl', e2⟩
  · obtain ⟨o', e1⟩ := I.base.there b o e hx
    exact free b o' (neC b o e hx) e1 (I.base.free b o e n hx)
  · obtain ⟨o', e1⟩ := I.base.there b o e hx
    exact there b o' (neC b o e hx) e1
  · obtain ⟨m1, e1⟩ := I.base.tbls b ps e
    obtain ⟨m2, e2⟩ := tbls b _ e1
    exact ⟨m1 ++ m2, by rw [e2, Array.append_assoc]⟩
  · obtain ⟨m, hn, hl⟩ := I.loc
    refine ⟨m, ns m hn, fun i x v e1 e2 e3 => ?_⟩
    obtain ⟨u, r, l⟩ := hl i x v e1 e2 e3
    refine ⟨u, r, ?_⟩
    rcases l with l | ⟨k, c, e, z⟩
    · exact .inl l
    · exact .inr ⟨k, c, e, cellK x c e _ z⟩
  · obtain ⟨v, z⟩ := I.cell x c e
    exact ⟨v, cellK x c e v z⟩
  · obtain ⟨m, ⟨o, _, _, ho, _⟩, _⟩ := I.loc
    exact free _ o (fun z => (hch _ z).2.1 rfl) ho I.free
  · obtain ⟨v, o, ho, hd⟩ := I.cell x c e
    exact free c o (fun z => (hch c z).2.2.1 x c e rfl) ho (I.freeC x c e)
  · obtain ⟨e, n, ne, nf, d⟩ := I.pin p hp
    have nch : p.1 ∉ ch := fun z => (hch p.1 z).2.2.2 p hp rfl
    exact ⟨keep p.1 p.2 ne nf nch e n, free p.1 p.2 nch e n, ne, nf, d⟩
theorem Inv.un {t' : Nat} (I : Inv X pins σ H s) (u : Un X.fs [] H H' s.heap h') (hok : HOk X.prog X.w H' h') : Inv X pins σ H' { s with heap := h', toks := t' } := by
  obtain ⟨m, ⟨o, es, ep, ho, r⟩, _⟩ := id I.loc
  obtain ⟨sl, hL⟩ := u.any ho I.free (by simp)
  exact I.step (g' := s.gens) (d' := s.drawn) (ch := []) (fun _ z => nomatch z) (fun b o _ hb _ e n => u.keep b o e n hb (by simp)) (fun b o _ hb _ e n => u.slot b o e n hb (by simp)) (fun b o _ e n => u.free b o e n (by simp)) (fun b o _ e => u.there b o e (by simp)) u.tups u.frzs u.tbls (fun m' hm => by
    obtain ⟨o', es', ep', ho', r'⟩ := hm
    rw [ho] at ho'; cases ho'
    exact ⟨_, es', ep', hL, r'⟩) hok I.bare
theorem Inv.call {g' : Array GenState} {t' : Nat} {d' : Drawn} {ch : List Addr} (I : Inv X pins σ H s) (u : Un (frs X.stack) ch H H' s.heap h') (hok : HOk X.prog X.w H' h') (hg : AllBare g')
    (hch : ∀ b ∈ ch, (b ∈ X.ex ∨ X.s₀.heap.objs.size ≤ b) ∧ b ≠ X.env.locals ∧ (∀ x c, X.env.cells.lookup x = some c → c ≠ b) ∧ ∀ p ∈ X.pn ++ pins, p.1 ≠ b) :
    Inv X pins σ H' { s with heap := h', gens := g', drawn := d', toks := t' } := by
  obtain ⟨m, ⟨o, es, ep, ho, r⟩, _⟩ := id I.loc
  obtain ⟨sl, hL⟩ := u.any ho I.free fun z => (hch _ z).2.1 rfl
  exact I.step (ch := ch) hch (fun b o hL hb hc e n => u.keep b o e n (fun z => (List.mem_cons.mp (I.stkSub b z)).elim hL hb) hc) (fun b o _ _ hc e n => u.any e n hc) (fun b o hc e n => u.free b o e n hc) (fun b o hc e => u.there b o e hc) u.tups u.frzs u.tbls (fun m' hm => by
    obtain ⟨o', es', ep', ho', r'⟩ := hm
    rw [ho] at ho'; cases ho'
    exact ⟨_, es', ep', hL, r'⟩) hok hg
theorem Inv.turned {t' : Nat} {it : Addr} (I : Inv X pins σ H s) (k : ∀ b o, b ≠ it → s.heap.get? b = some o → h'.get? b = some o) (hn : H it = none) (hL : it ≠ X.env.locals)
    (h1 : it ∈ X.ex ∨ X.s₀.heap.objs.size ≤ it) (h2 : ∀ x c, X.env.cells.lookup x = some c → c ≠ it) (h3 : ∀ p ∈ X.pn ++ pins, p.1 ≠ it) : Inv X pins σ H { s with heap := h', toks := t' } := by
  have nit : ∀ b u, H b = some u → b ≠ it := fun b u e z => by rw [z, hn] at e; cases e
  refine I.step (g' := s.gens) (d' := s.drawn) (ch := [it]) (fun b hb => ?_) (fun b o _ _ hc e _ => k b o (fun z => hc (by simp [z])) e) (fun b o _ _ hc e _ => ⟨o.slots, k b o (fun z => hc (by simp [z])) e⟩) (fun _ _ _ _ n => n)
    (fun b o hc e => ⟨o, k b o (fun z => hc (by simp [z])) e⟩) (fun _ _ e => e) (fun _ _ _ e => e) (fun b ps e => ⟨#[], by rw [e]; simp⟩) (fun m hm => ?_) (fun b u e => ?_) I.bare
  · have e : b = it := by simpa using hb
    subst e
    exact ⟨h1, hL, h2, h3⟩
  · obtain ⟨o, es, ep, ho, r⟩ := hm
    exact ⟨o, es, ep, k _ o (Ne.symm hL) ho, r⟩
  · refine (I.hok b u e).stay (fun c v hc q => k c v ?_ q) (fun _ q => q) fun _ _ q => q
    rcases hc with z | z
    · rw [z]; exact nit b u e
    · exact nit c _ z
theorem Inv.tok (I : Inv X pins σ H s) (t : Nat) : Inv X pins σ H { s with toks := t } := I.un (h' := s.heap) (t' := t) Un.refl I.hok
theorem Inv.kept {t' : Nat} (I : Inv X pins σ H s) (k : ∀ b u, s.heap.get? b = some u → h'.get? b = some u) : Inv X pins σ H { s with heap := h', toks := t' } := I.un (Un.kept k) (I.hok.kept k)
theorem Inv.laid {a : Addr} {o : HO} {t' : Nat} (I : Inv X pins σ H s) (k : ∀ b u, s.heap.get? b = some u → h'.get? b = some u) (hp : s.heap.objs.size ≤ a) (new : ObjOk X.prog X.w (upd H a o) h' a o) :
    Inv X pins σ (upd H a o) { s with heap := h', toks := t' } := I.un (Un.laid k hp (I.hok.fresh hp)) (I.hok.laid k hp new)
theorem Inv.write {x e : Addr} {o : HO} {t' : Nat} (I : Inv X pins σ H s) (mu : Mut (H x)) (he : e = x ∨ H e = some (.own x)) (k : ∀ b u, b ≠ e → s.heap.get? b = some u → h'.get? b = some u) (heo : ∃ u, h'.get? e = some u)
    (new : ObjOk X.prog X.w (upd H x o) h' x o) : Inv X pins σ (upd H x o) { s with heap := h', toks := t' } := I.un (Un.write mu he k heo) (I.hok.write mu he k heo new)
theorem Inv.pins_of {pins' : List (Addr × Obj)} (I : Inv X pins σ H s) (h : ∀ p ∈ pins', s.heap.get? p.1 = some p.2 ∧ H p.1 = none ∧ p.1 ≠ X.env.locals ∧ p.1 ∉ X.fs ∧ ∀ v, p.2.data ≠ .cell v) : Inv X pins' σ H s :=
  ⟨I.ok, I.os, I.bare, I.base, I.loc, I.cell, I.free, I.freeC, fun p hp => (List.mem_append.mp hp).elim (fun z => I.pin p (List.mem_append_left _ z)) (h p), I.hok, I.len⟩
theorem nodup_ix {N : List Str} (hN : N.Nodup) {i j : Nat} {x : Str} (a : N[i]? = some x) (b : N[j]? = some x) : i = j := by
  obtain ⟨h1, e1⟩ := List.getElem?_eq_some_iff.mp a
  obtain ⟨h2, e2⟩ := List.getElem?_eq_some_iff.mp b
  exact (List.getElem_inj hN).mp (e1.trans e2.symm)
theorem store_ok2 {M : Model} {A : Around} {E : Value → Shared → Prop} {i : Nat} {x : Str} {v : V} {u : Value} {Q : Unit → Shared → Prop} (I : Inv X pins σ H s) (hN : X.N.Nodup) (hi : X.N[i]? = some x) (hx : Loc X.env.scope x) (r : RelV v u)
    (h : ∀ s', Inv X pins (σ.set i (some v)) H s' → (∃ a, Heap.SameBut a s.heap s'.heap ∧ (a = X.env.locals ∨ X.env.cells.lookup x = some a)) → Q () s') (hf : X.fn x = true ∨ X.env.scope.names.lookup x = some .local := by first | exact .inl rfl | exact .inr rfl | assumption) : wpAny M A (storeName X.env x u) Q E s := by
  obtain ⟨m, hn, hl⟩ := id I.loc
  have hcls : (X.env.scope.kind == .class || (X.env.scope.kind == .module && X.env.locals != X.env.globals)) = false := by rw [I.ok.kind]; rfl
  have hiσ : i < σ.length := by rw [I.len]; exact (List.getElem?_eq_some_iff.mp hi).1
  have cne := I.cne
  have tracked : ∀ {a : Addr} {h' : Heap}, (∃ o, s.heap.get? a = some o ∧ H a = none) → Heap.SameBut a s.heap h' → HOk X.prog X.w H h' := fun {a h'} ha hs b ob e => by
    obtain ⟨_, _, hfree⟩ := ha
    refine (I.hok b ob e).stay (fun c w' hc q => (hs.2 c ?_).trans q) (fun _ q => q) fun _ _ q => q
    rintro rfl
    rcases hc with rfl | hc
    · rw [hfree] at e; cases e
    · rw [hfree] at hc; cases hc
  rcases hx with hk | hk
  · refine wpAny_storeName_local hk hn (fun h' hn' hs => ?_) hcls
    obtain ⟨oL, _, _, hoL, _⟩ := id hn
    refine h _ ⟨I.ok, I.os, I.bare, ⟨fun b o e n hb hx => ?_, fun b o e n hb hx => ?_, I.base.free, fun b o e hx => ?_, I.base.tups, I.base.frzs, I.base.tbls⟩, ⟨_, hn', fun j y v' e1 e2 e3 => ?_⟩, fun y c e => ?_, I.free, I.freeC, fun p hp => ?_, tracked ⟨oL, hoL, I.free⟩ hs, by simpa using I.len⟩ ⟨_, hs, .inl rfl⟩
    · exact (hs.2 b (Nat.ne_of_lt (Nat.lt_of_lt_of_le (Heap.lt_size e) I.ok.above))).trans (I.base.keep b o e n hb hx)
    · obtain ⟨sl, e1⟩ := I.base.slot b o e n hb hx
      exact ⟨sl, (hs.2 b (Nat.ne_of_lt (Nat.lt_of_lt_of_le (Heap.lt_size e) I.ok.above))).trans e1⟩
    · obtain ⟨o', e1⟩ := I.base.there b o e hx
      exact ⟨o', (hs.2 b (Nat.ne_of_lt (Nat.lt_of_lt_of_le (Heap.lt_size e) I.ok.above))).trans e1⟩
    · by_cases hj : j = i
      · subst hj
        rw [hi] at e1; cases e1
        rw [List.getElem?_set_self hiσ] at e2
        cases e2
        exact ⟨u, r, .inl ⟨hk, by simp⟩⟩
      · rw [List.getElem?_set_ne (Ne.symm hj)] at e2
        obtain ⟨u', r', q⟩ := hl j y v' e1 e2 e3
        refine ⟨u', r', ?_⟩
        rcases q with ⟨k, e⟩ | ⟨k, c, e, z⟩
        · refine .inl ⟨k, ?_⟩
          have : y ≠ x := fun e => hj (nodup_ix hN e1 (e ▸ hi))
          simp [this, e]
        · exact .inr ⟨k, c, e, z.sameBut hs (cne y c e)⟩
    · obtain ⟨w', z⟩ := I.cell y c e
      exact ⟨w', z.sameBut hs (cne y c e)⟩
    · obtain ⟨e, n, ne, nf, d⟩ := I.pin p hp
      exact ⟨(hs.2 p.1 ne).trans e, n, ne, nf, d⟩
  · have hfn : X.fn x = true := by
      rcases hf with z | z
      · exact z
      · rw [z] at hk; cases hk
    obtain ⟨c, hc⟩ := I.ok.has x (.inl hk)
    obtain ⟨w', z⟩ := I.cell x c hc
    refine wpAny_storeName_cell I.ok.kind hk hc z (fun h' hc' hs => ?_)
    obtain ⟨oc, hoc, hocd⟩ := id z
    refine h { s with heap := h' } ⟨I.ok, I.os, I.bare, ⟨fun b o e n hb hx => ?_, fun b o e n hb hx => ?_, I.base.free, fun b o e hx => ?_, I.base.tups, I.base.frzs, I.base.tbls⟩, ⟨m, hn.sameBut hs (Ne.symm (cne x c hc)), fun j y v' e1 e2 e3 => ?_⟩, fun y c' e => ?_, I.free, I.freeC, fun p hp => ?_, tracked ⟨oc, hoc, I.freeC x c hc⟩ hs, by simpa using I.len⟩ ⟨c, hs, .inr hc⟩
    · exact (hs.2 b (Nat.ne_of_lt (Nat.lt_of_lt_of_le (Heap.lt_size e) (I.ok.cab x c hfn hc)))).trans (I.base.keep b o e n hb hx)
    · obtain ⟨sl, e1⟩ := I.base.slot b o e n hb hx
      exact ⟨sl, (hs.2 b (Nat.ne_of_lt (Nat.lt_of_lt_of_le (Heap.lt_size e) (I.ok.cab x c hfn hc)))).trans e1⟩
    · obtain ⟨o', e1⟩ := I.base.there b o e hx
      exact ⟨o', (hs.2 b (Nat.ne_of_lt (Nat.lt_of_lt_of_le (Heap.lt_size e) (I.ok.cab x c hfn hc)))).trans e1⟩
    · by_cases hj : j = i
      · subst hj
        rw [hi] at e1; cases e1
        rw [List.getElem?_set_self hiσ] at e2
        cases e2
        exact ⟨u, r, .inr ⟨.inl hk, c, hc, hc'⟩⟩
      · rw [List.getElem?_set_ne (Ne.symm hj)] at e2
        obtain ⟨u', r', q⟩ := hl j y v' e1 e2 e3
        refine ⟨u', r', ?_⟩
        rcases q with q | ⟨k, c', e, z'⟩
        · exact .inl q
        · refine .inr ⟨k, c', e, z'.sameBut hs ?_⟩
          rintro rfl
          exact hj (nodup_ix hN e1 (I.ok.inj _ _ _ e hc ▸ hi))
    · by_cases hcc : c' = c
      · subst hcc; exact ⟨_, hc'⟩
      · obtain ⟨w2, z2⟩ := I.cell y c' e
        exact ⟨w2, z2.sameBut hs hcc⟩
    · obtain ⟨e, n, ne, nf, d⟩ := I.pin p hp
      refine ⟨(hs.2 p.1 ?_).trans e, n, ne, nf, d⟩
      intro q
      rw [q, hoc] at e
      have q' : oc = p.2 := Option.some.inj e
      exact d w' (by rw [← q']; exact hocd)
theorem store_ok {M : Model} {A : Around} {E : Value → Shared → Prop} {i : Nat} {x : Str} {v : V} {u : Value} {Q : Unit → Shared → Prop} (I : Inv X pins σ H s) (hN : X.N.Nodup) (hi : X.N[i]? = some x) (hx : Loc X.env.scope x) (r : RelV v u)
    (h : ∀ s', Inv X pins (σ.set i (some v)) H s' → Q () s') (hf : X.fn x = true ∨ X.env.scope.names.lookup x = some .local := by first | exact .inl rfl | exact .inr rfl | assumption) : wpAny M A (storeName X.env x u) Q E s :=
  store_ok2 I hN hi hx r (fun s' I' _ => h s' I') hf
theorem Inv.call' {s' : Shared} {ch : List Addr} (I : Inv X pins σ H s) (ho : s'.os = s.os) (u : Un (frs X.stack) ch H H' s.heap s'.heap) (hok : HOk X.prog X.w H' s'.heap) (hg : AllBare s'.gens)
    (hch : ∀ b ∈ ch, (b ∈ X.ex ∨ X.s₀.heap.objs.size ≤ b) ∧ b ≠ X.env.locals ∧ (∀ x c, X.env.cells.lookup x = some c → c ≠ b) ∧ ∀ p ∈ X.pn ++ pins, p.1 ≠ b) : Inv X pins σ H' s' := by
  obtain ⟨h', g', d', t', o'⟩ := s'
  have e : o' = s.os := ho
  subst e
  exact I.call (g' := g') (t' := t') (d' := d') u hok hg hch
end
abbrev XK := Value → Option Addr → Hp → Prop
abbrev St := List (Option V)
abbrev VK := V → Hp → Prop
abbrev TE := St → Hp → VK → Prop
abbrev TT := St → Hp → (Bool → Hp → Prop) → Prop
abbrev TA := St → Hp → (List V → Hp → Prop) → Prop
structure Ends where
  nx : St → Hp → Prop
  rt : VK
  bk : St → Hp → Prop := fun _ _ => False
  ct : St → Hp → Prop := fun _ _ => False
abbrev TS := Ends → St → Hp → Prop
def EP (X : Cx) (pins : List (Addr × Obj)) (σ : St) (Q : VK) (u : Value) (s' : Shared) : Prop := ∃ v H', Inv X pins σ H' s' ∧ RelV v u ∧ Q v H'
def TP (X : Cx) (pins : List (Addr × Obj)) (σ : St) (Q : Bool → Hp → Prop) (b : Bool) (s' : Shared) : Prop := ∃ H', Inv X pins σ H' s' ∧ Q b H'
def AP (X : Cx) (pins : List (Addr × Obj)) (σ : St) (Q : List V → Hp → Prop) (us : List Value) (s' : Shared) : Prop := ∃ vs H', Inv X pins σ H' s' ∧ Vals vs us ∧ Q vs H'
def SP (X : Cx) (pins : List (Addr × Obj)) (D : Ends) (f : Flow) (s' : Shared) : Prop :=
  match f with
  | .next => ∃ σ' H', Inv X pins σ' H' s' ∧ D.nx σ' H'
  | .brk => ∃ σ' H', Inv X pins σ' H' s' ∧ D.bk σ' H'
  | .cont => ∃ σ' H', Inv X pins σ' H' s' ∧ D.ct σ' H'
  | .ret u => ∃ v σ' H', Inv X pins σ' H' s' ∧ RelV v u ∧ D.rt v H'
def PE (X : Cx) (e : Expr) (t : TE) : Prop :=
  ∀ (pins : List (Addr × Obj)) (s : Shared) (σ : St) (H : Hp) (Q : VK), Inv X pins σ H s → t σ H Q → wpAny (model X.prog X.w) X.A (eval e X.env) (EP X pins σ Q) X.xe s
def PT (X : Cx) (e : Expr) (t : TT) : Prop :=
  ∀ (pins : List (Addr × Obj)) (s : Shared) (σ : St) (H : Hp) (Q : Bool → Hp → Prop), Inv X pins σ H s → t σ H Q → wpAny (model X.prog X.w) X.A (isTrue e X.env (eval e X.env)) (TP X pins σ Q) X.xe s
def PW (X : Cx) (e : Expr) (t : TT) : Prop :=
  ∀ (whole : Sem Value) (pins : List (Addr × Obj)) (s : Shared) (σ : St) (H : Hp) (Q : Bool → Hp → Prop), Inv X pins σ H s → t σ H Q → wpAny (model X.prog X.w) X.A (isTrue e X.env whole) (TP X pins σ Q) X.xe s
theorem PW.pt {X : Cx} {e : Expr} {t : TT} (h : PW X e t) : PT X e t := h _
def PA (X : Cx) (es : List Expr) (t : TA) : Prop :=
  ∀ (pos : Pos) (pins : List (Addr × Obj)) (s : Shared) (σ : St) (H : Hp) (Q : List V → Hp → Prop), Inv X pins σ H s → t σ H Q → wpAny (model X.prog X.w) X.A (spliced (backTo pos (starEach es X.env))) (AP X pins σ Q) X.xe s
def PS (X : Cx) (st : Stmt) (t : TS) : Prop :=
  ∀ (pins : List (Addr × Obj)) (s : Shared) (σ : St) (H : Hp) (D : Ends), Inv X pins σ H s → t D σ H → wpAny (model X.prog X.w) X.A (exec st X.env) (SP X pins D) X.xe s
def PSs (X : Cx) (st : List Stmt) (t : TS) : Prop :=
  ∀ (pins : List (Addr × Obj)) (s : Shared) (σ : St) (H : Hp) (D : Ends), Inv X pins σ H s → t D σ H → wpAny (model X.prog X.w) X.A (execs st X.env) (SP X pins D) X.xe s
theorem thn {α : Type} {t : Sem α} {Q Q' : α → Shared → Prop} {M : Model} {A : Around} {E : Value → Shared → Prop} {s : Shared} (h : wpAny M A t Q E s) (hQ : ∀ a s, Q a s → Q' a s) : wpAny M A t Q' E s := wpAny_mono h hQ fun _ _ x => x
end L2
namespace L2
open PySem PySem.Spec PyProof.Rows
section
variable {X : Cx}
theorem bin {a b : Expr} {ta tb : TE} (ha : PE X a ta) (hb : PE X b tb) {pins : List (Addr × Obj)} {s : Shared} {σ : St} {H : Hp} {R : V → V → Hp → Prop} (I : Inv X pins σ H s) (h : ta σ H fun x H1 => tb σ H1 fun y H2 => R x y H2)
    {α : Type} {Q : α → Shared → Prop} {f : Value → Value → Sem α}
    (hf : ∀ v u s2 x y H2, Inv X pins σ H2 s2 → RelV x v → RelV y u → R x y H2 → wpAny (model X.prog X.w) X.A (f v u) Q X.xe s2) :
    wpAny (model X.prog X.w) X.A (eval a X.env) (fun v s₁ => wpAny (model X.prog X.w) X.A (eval b X.env) (fun u s₂ => wpAny (model X.prog X.w) X.A (f v u) Q X.xe s₂) X.xe s₁) X.xe s := by
  refine thn (ha pins s σ H _ I h) fun v s1 ⟨x, H1, I1, r1, q1⟩ => ?_
  refine thn (hb pins s1 σ H1 _ I1 q1) fun u s2 ⟨y, H2, I2, r2, q2⟩ => ?_
  exact hf v u s2 x y H2 I2 r1 r2 q2
def tVar (i : Nat) : TE := fun σ H Q => ∃ v, σ[i]? = some (some v) ∧ Q v H
def tC (v : V) : TE := fun _ H Q => Q v H
theorem pe_var {i : Nat} {x : Str} {pos : Pos} (hN : X.N[i]? = some x) (hv : Vis X.env.scope x) (hd : (x == ("__debug__" : Str)) = false := by decide) (hcd : (x == ("__classdict__" : Str)) = false := by decide) : PE X (.Name x pos) (tVar i) := by
  intro pins s σ H Q I h
  obtain ⟨v, e, h⟩ := h
  obtain ⟨m, hn, hl⟩ := I.loc
  obtain ⟨u, r, l⟩ := hl i x v hN e hv
  have fin : EP X pins σ Q u s := ⟨v, H, I, r, h⟩
  rcases l with ⟨hk, hm⟩ | ⟨hk, c, hc, hcell⟩
  · exact wpAny_Name (wpAny_loadName_local I.ok.kind hk hn hm fin) hd
  · rcases hk with hk | hk
    · exact wpAny_Name (wpAny_loadName_cell I.ok.kind hk hc hcell fin) hd
    · exact wpAny_Name (wpAny_loadName_free I.ok.kind hk hc hcell fin hcd) hd
theorem pe_int {i j pos} : PE X (.Constant (.int i) j pos) (tC (.int i)) := fun _ _ _ H _ I h => wpAny_Constant_int ⟨.int i, H, I.tok _, ⟨_, rfl⟩, h⟩
theorem pe_bl {b j pos} : PE X (.Constant (.bool b) j pos) (tC (.bl b)) := fun _ _ _ H _ I h => Constant_bool ⟨.bl b, H, I, rfl, h⟩
def Gl (X : Cx) (x : Str) : Prop := X.env.kindOf x = some .globalImplicit
theorem ld_glob {E : Value → Shared → Prop} {pins : List (Addr × Obj)} {s : Shared} {σ : St} {H : Hp} {x : Str} {u : Value} {pos : Pos} {Q : Value → Shared → Prop} (I : Inv X pins σ H s) (hg : Gl X x) (hm : X.mg x = some u) (h : Q u s)
    (hd : (x == ("__debug__" : Str)) = false := by decide) : wpAny (model X.prog X.w) X.A (eval (.Name x pos) X.env) Q E s :=
  Calls.Name_function_global I.ok.kind hg (Calls.loadGlobal_global (by rw [I.ok.glob]; exact I.mod.glob.keeps I.bk) hm h) hd
theorem ld_blt {E : Value → Shared → Prop} {pins : List (Addr × Obj)} {s : Shared} {σ : St} {H : Hp} {x : Str} {u : Value} {pos : Pos} {Q : Value → Shared → Prop} (I : Inv X pins σ H s) (hg : Gl X x) (hm : X.mg x = none) (hv : bootBuiltins x = some u) (h : Q u s)
    (hn : x ≠ "__name__" := by decide) (hd : (x == ("__debug__" : Str)) = false := by decide) : wpAny (model X.prog X.w) X.A (eval (.Name x pos) X.env) Q E s := by
  obtain ⟨mb, h1, h2⟩ := I.mod.blt
  exact Calls.Name_function_global I.ok.kind hg (Calls.loadGlobal_builtin (by rw [I.ok.glob]; exact I.mod.glob.keeps I.bk) hm (by rw [I.ok.blt]; exact h1.keeps I.bk) ((h2 x hn).trans hv) h) hd
theorem pe_glob {x : Str} {v : V} {u : Value} {pos : Pos} (hg : Gl X x) (hm : X.mg x = some u) (r : RelV v u) (hd : (x == ("__debug__" : Str)) = false := by decide) : PE X (.Name x pos) (tC v) :=
  fun _ _ _ H _ I h => ld_glob I hg hm ⟨v, H, I, r, h⟩ hd
theorem pe_bltn {x : Str} {v : V} {u : Value} {pos : Pos} (hg : Gl X x) (hm : X.mg x = none) (hv : bootBuiltins x = some u) (r : RelV v u) (hn : x ≠ "__name__" := by decide) (hd : (x == ("__debug__" : Str)) = false := by decide) : PE X (.Name x pos) (tC v) :=
  fun _ _ _ H _ I h => ld_blt I hg hm hv ⟨v, H, I, r, h⟩ hn hd
variable {a b : Expr} {ta tb : TE} {pos : Pos}
def PC (X : Cx) (op : CmpOp) (a b : Expr) (t : TE) : Prop :=
  ∀ (pins : List (Addr × Obj)) (s : Shared) (σ : St) (H : Hp) (Q : VK), Inv X pins σ H s → t σ H Q →
    wpAny (model X.prog X.w) X.A (eval a X.env) (fun v s₁ => wpAny (model X.prog X.w) X.A (eval b X.env) (fun u s₂ => wpAny (model X.prog X.w) X.A (compareOp op v u) (EP X pins σ Q) X.xe s₂) X.xe s₁) X.xe s
def tB (t : TE) : TT := fun σ H Q => t σ H fun x H1 => ∃ c, x = .bl c ∧ Q c H1
theorem pt_cmp {op : CmpOp} {t : TE} (h : PC X op a b t) (h1 : behindInMarks op b = false := by first | exact nobehind _ (by decide) (by decide) | rfl) : PT X (.Compare a [op] [b] pos) (tB t) := by
  intro pins s σ H Q I hw
  refine wpAny_isTrue_Compare1 (thn (h pins s σ H _ I hw) fun v s1 h1 => thn h1 fun u s2 h2 => thn h2 fun c s3 ⟨x, H1, I1, r1, q1⟩ => ?_) h1
  obtain ⟨d, rfl, q⟩ := q1
  cases r1
  exact wpAny_truthy_bool ⟨H1, I1, q⟩
theorem pt_val {e : Expr} {t : TE} (h : PE X e t) (he : ∀ whole, isTrue e X.env whole = (do let v ← whole; standAt e.pos; holding [v] (truthy v)) := by intro _; rfl) : PT X e (tB t) := by
  intro pins s σ H Q I hw
  refine isTrue_plain (thn (h pins s σ H _ I hw) fun v s1 ⟨x, H1, I1, r1, q1⟩ => ?_) (he _)
  obtain ⟨d, rfl, q⟩ := q1
  cases r1
  exact wpAny_truthy_bool ⟨H1, I1, q⟩
variable {tA tB' : TT} {rest : List Expr}
def tOr (t u : TT) : TT := fun σ H Q => t σ H fun c H1 => if c = true then Q true H1 else u σ H1 Q
def tNot (t : TT) : TT := fun σ H Q => t σ H fun c H1 => Q (!c) H1
theorem pw_or1 (ha : PT X a tA) : PW X (.BoolOp .Or [a] pos) tA := by
  intro wh pins s σ H Q I h
  refine isTrue_or (thn (ha pins s σ H Q I h) fun c s1 e => ?_)
  cases c with
  | false => exact isTrue_or_nil e
  | true => exact e
theorem pw_or (ha : PT X a tA) (hb : PW X (.BoolOp .Or (b :: rest) pos) tB') : PW X (.BoolOp .Or (a :: b :: rest) pos) (tOr tA tB') := by
  intro wh pins s σ H Q I h
  refine isTrue_or (thn (ha pins s σ H _ I h) fun c s1 ⟨H1, I1, q1⟩ => ?_)
  cases c with
  | true => exact ⟨H1, I1, q1⟩
  | false => exact hb wh pins s1 σ H1 Q I1 q1
theorem pt_not (ha : PT X a tA) : PT X (.UnaryOp .Not a pos) (tNot tA) := by
  intro pins s σ H Q I h
  exact isTrue_not (ha pins s σ H (fun c H1 => Q (!c) H1) I h)
def tAndV (ta tb : TE) : TE := fun σ H Q => ta σ H fun x H1 => ∃ c, x = .bl c ∧ if c = true then tb σ H1 Q else Q (.bl false) H1
def tNotV (ta : TE) : TE := fun σ H Q => ta σ H fun x H1 => ∃ c, x = .bl c ∧ Q (.bl (!c)) H1
theorem pe_one {op} {t : TE} (h : PE X a t) : PE X (.BoolOp op [a] pos) t := fun pins s σ H Q I hw => BoolOp_one (h pins s σ H Q I hw)
theorem pe_and (ha : PE X a ta) (hb : PE X (.BoolOp .And (b :: rest) pos) tb) : PE X (.BoolOp .And (a :: b :: rest) pos) (tAndV ta tb) := by
  intro pins s σ H Q I h
  refine BoolOp_and (thn (ha pins s σ H _ I h) fun v s1 ⟨x, H1, I1, r1, q1⟩ => ?_)
  obtain ⟨c, rfl, q1⟩ := q1
  cases r1
  refine wpAny_truthy_bool ?_
  cases c with
  | true => exact hb pins s1 σ H1 Q I1 q1
  | false => exact ⟨.bl false, H1, I1, rfl, q1⟩
theorem pe_not (ha : PE X a ta) : PE X (.UnaryOp .Not a pos) (tNotV ta) := by
  intro pins s σ H Q I h
  refine UnaryOp_ (thn (ha pins s σ H _ I h) fun v s1 ⟨x, H1, I1, r1, q1⟩ => ?_)
  obtain ⟨c, rfl, q1⟩ := q1
  cases r1
  exact not_of (wpAny_truthy_bool ⟨.bl (!c), H1, I1, rfl, q1⟩)
end
end L2
namespace L2
open PySem PySem.Spec PyProof.Rows
def SqL (K : PySem.W.Frag) (H : Hp) (a : Addr) (xs : List V) : Prop :=
  Rd H a (.lst xs) ∨
    ∃ (o : Obj) (its : Array Value) (n : Nat), K.lookup a = some o ∧ o.cls = .type "list" ∧ o.dict = none ∧ o.data = .seq its n ∧ its.size ≤ sizeLine ∧ Vals xs its.toList
def SqT (K : PySem.W.Frag) (H : Hp) (a : Addr) (xs : List V) : Prop :=
  Rd H a (.tup xs) ∨
    ∃ (o : Obj) (its : Array Value) (n : Nat), K.lookup a = some o ∧ o.cls = .type "tuple" ∧ o.data = .seq its n ∧ its.size ≤ sizeLine ∧ Vals xs its.toList
def absV : Value → Option V
  | .none => some .non
  | .bool b => some (.bl b)
  | .int i _ => some (.int i)
  | .str x _ => some (.str x)
  | .bytes b _ => some (.byt b)
  | .float b _ => some (.flt b)
  | .ref a => some (.ref a)
  | .type n => some (.ty n)
  | _ => none
theorem RelV.abs {x : V} {u : Value} (r : RelV x u) : absV u = some x := by
  cases x with
  | non => cases r; rfl
  | bl _ => cases r; rfl
  | int _ => obtain ⟨t, rfl⟩ := r; rfl
  | str _ => obtain ⟨t, rfl⟩ := r; rfl
  | byt _ => obtain ⟨t, rfl⟩ := r; rfl
  | flt _ => obtain ⟨t, rfl⟩ := r; rfl
  | ref _ => cases r; rfl
  | ty _ => cases r; rfl
theorem RelV.inj {x y : V} {u : Value} (r : RelV x u) (q : RelV y u) : x = y := Option.some.inj (r.abs.symm.trans q.abs)
theorem Vals.inj : ∀ {xs ys : List V} {us : List Value}, Vals xs us → Vals ys us → xs = ys
  | _, _, _, .nil, .nil => rfl
  | _, _, _, .cons r t, .cons r' t' => by rw [r.inj r', Vals.inj t t']
section
variable {X : Cx} {pins : List (Addr × Obj)} {σ : St} {H : Hp} {s : Shared} {a : Addr} {xs ys : List V}
theorem SqL.of {K : PySem.W.Frag} (h : H a = some (.lst xs)) : SqL K H a xs := .inl (.inl h)
theorem SqT.of {K : PySem.W.Frag} (h : H a = some (.tup xs)) : SqT K H a xs := .inl (.inl h)
theorem Inv.list (I : Inv X pins σ H s) (h : SqL X.K H a xs) : ∃ its : List Value, Vals xs its ∧ PlainL s.heap a its.toArray ∧ xs.length ≤ sizeLine := by
  rcases h with h | ⟨o, its, n, hk, hc, hd, hs, hz, r⟩
  · obtain ⟨z, its, n, r, e⟩ := h.ok I.hok
    exact ⟨its, r, ⟨_, n, e, rfl, rfl, rfl⟩, z⟩
  · refine ⟨its.toList, r, ⟨o, n, I.kIn a o hk, hc, hd, by simpa using hs⟩, ?_⟩
    have e := r.length
    simp only [Array.length_toList] at e
    omega
theorem Inv.tuple (I : Inv X pins σ H s) (h : SqT X.K H a xs) : ∃ its : List Value, Vals xs its ∧ IsTup s.heap a its.toArray ∧ xs.length ≤ sizeLine := by
  rcases h with h | ⟨o, its, n, hk, hc, hs, hz, r⟩
  · obtain ⟨z, its, r, p⟩ := h.ok I.hok
    exact ⟨its, r, p, z⟩
  · refine ⟨its.toList, r, ⟨o, I.kIn a o hk, hc, n, by simpa using hs⟩, ?_⟩
    have e := r.length
    simp only [Array.length_toList] at e
    omega
theorem Inv.list_inj (I : Inv X pins σ H s) (h : SqL X.K H a xs) (h' : SqL X.K H a ys) : xs = ys := by
  obtain ⟨its, r, ⟨o, n, e, _, _, d⟩, _⟩ := I.list h
  obtain ⟨its', r', ⟨o', n', e', _, _, d'⟩, _⟩ := I.list h'
  rw [e] at e'; cases e'
  rw [d] at d'
  injection d' with d1 _
  have : its = its' := by simpa using congrArg Array.toList d1
  subst this
  exact r.inj r'
end
abbrev Cx.wish (X : Cx) (E : Value → Shared → Prop) : Cx := { X with xe := E }
abbrev Cx.nox (X : Cx) : Cx := X.wish fun _ _ => False
theorem Cx.Ok.wish {X : Cx} (ok : X.Ok) (E : Value → Shared → Prop) : (X.wish E).Ok :=
  ⟨ok.mod, ok.kind, ok.glob, ok.blt, ok.above, ok.inj, ok.has, ok.cab, ok.hd, ok.frames, ok.stk, ok.exf, ok.bs, ok.bsz, ok.noex, ok.exfs, ok.funs, ok.frf⟩
theorem Cx.Ok.unwish {X : Cx} {E : Value → Shared → Prop} (ok : (X.wish E).Ok) : X.Ok :=
  ⟨ok.mod, ok.kind, ok.glob, ok.blt, ok.above, ok.inj, ok.has, ok.cab, ok.hd, ok.frames, ok.stk, ok.exf, ok.bs, ok.bsz, ok.noex, ok.exfs, ok.funs, ok.frf⟩
section
variable {X : Cx} {pins : List (Addr × Obj)} {σ : St} {H : Hp} {s : Shared} {E : Value → Shared → Prop}
theorem Inv.wish (I : Inv X pins σ H s) (E : Value → Shared → Prop) : Inv (X.wish E) pins σ H s := ⟨I.ok.wish E, I.os, I.bare, I.base, I.loc, I.cell, I.free, I.freeC, I.pin, I.hok, I.len⟩
theorem Inv.unwish (I : Inv (X.wish E) pins σ H s) : Inv X pins σ H s := ⟨I.ok.unwish, I.os, I.bare, I.base, I.loc, I.cell, I.free, I.freeC, I.pin, I.hok, I.len⟩
theorem SP.unwish {D : Ends} {f : Flow} {s' : Shared} (h : SP (X.wish E) pins D f s') : SP X pins D f s' := by
  cases f with
  | next => obtain ⟨σ', H', I, q⟩ := h; exact ⟨σ', H', I.unwish, q⟩
  | brk => obtain ⟨σ', H', I, q⟩ := h; exact ⟨σ', H', I.unwish, q⟩
  | cont => obtain ⟨σ', H', I, q⟩ := h; exact ⟨σ', H', I.unwish, q⟩
  | ret u => obtain ⟨v, σ', H', I, r, q⟩ := h; exact ⟨v, σ', H', I.unwish, r, q⟩
theorem PSs.nox {st : List Stmt} {t : TS} (h : PSs X.nox st t) : PSs X st t := fun pins s σ H D I hw =>
  wpAny_mono (h pins s σ H D (I.wish _) hw) (fun _ _ q => q.unwish) fun _ _ z => False.elim z
end
section
variable {X : Cx} {st : Stmt} {rest : List Stmt} {t u : TS} {e : Expr} {te : TE} {pos : Pos}
def tNext : TS := fun D σ H => D.nx σ H
def tSeq (t u : TS) : TS := fun D σ H => t { D with nx := u D } σ H
theorem pss_nil : PSs X [] tNext := fun _ _ σ H _ I h => wpAny_execs_nil ⟨σ, H, I, h⟩
theorem pss_cons (h1 : PS X st t) (h2 : PSs X rest u) : PSs X (st :: rest) (tSeq t u) := by
  intro pins s σ H D I h
  refine wpAny_execs_cons (thn (h1 pins s σ H { D with nx := u D } I h) fun f s1 q => ?_)
  cases f with
  | next =>
    obtain ⟨σ', H', I', q⟩ := q
    exact h2 pins s1 σ' H' D I' q
  | ret v => exact q
  | brk => exact q
  | cont => exact q
theorem pss_one (h1 : PS X st t) : PSs X [st] t := by
  intro pins s σ H D I h
  refine wpAny_execs_cons (thn (h1 pins s σ H D I h) fun f s1 q => ?_)
  cases f with
  | next => exact wpAny_execs_nil q
  | ret v => exact q
  | brk => exact q
  | cont => exact q
theorem Inv.quiet {pins : List (Addr × Obj)} {σ : St} {H : Hp} {s : Shared} (I : Inv X pins σ H s) : interactive X.env = false := by simp [interactive, I.ok.kind]
def tDrop (te : TE) : TS := fun D σ H => te σ H fun _ H1 => D.nx σ H1
theorem ps_expr (he : PE X e te) (hs : swapsWith e none pos.line X.env = pure false := by rfl) : PS X (.Expr e pos) (tDrop te) := by
  intro pins s σ H D I h
  exact wpAny_Expr_any (thn (he pins s σ H _ I h) fun v s1 ⟨x, H1, I1, r1, q1⟩ => ⟨σ, H1, I1, q1⟩) I.quiet hs
def tRet (te : TE) : TS := fun D σ H => te σ H D.rt
theorem ps_ret (he : PE X e te) : PS X (.Return (some e) pos) (tRet te) := by
  intro pins s σ H D I h
  exact wpAny_Return_some (thn (he pins s σ H _ I h) fun v s1 ⟨x, H1, I1, r1, q1⟩ => ⟨x, σ, H1, I1, r1, q1⟩)
def tIfS (c : TT) (t u : TS) : TS := fun D σ H => c σ H fun b H1 => if b = true then t D σ H1 else u D σ H1
theorem ps_if {c : Expr} {a b : List Stmt} {tc : TT} (hc : PT X c tc) (ha : PSs X a t) (hb : PSs X b u) : PS X (.If c a b pos) (tIfS tc t u) := by
  intro pins s σ H D I h
  refine wpAny_If (thn (hc pins s σ H _ I h) fun d s1 ⟨H1, I1, q1⟩ => ?_)
  cases d with
  | true => exact ha pins s1 σ H1 D I1 q1
  | false => exact hb pins s1 σ H1 D I1 q1
def tNever : TS := fun _ _ _ => False
theorem ps_never : PS X st tNever := fun _ _ _ _ _ _ h => h.elim
end
abbrev TG := V → St → Hp → (St → Hp → Prop) → Prop
abbrev TGs := List V → St → Hp → (St → Hp → Prop) → Prop
def PG (X : Cx) (target : Expr) (t : TG) : Prop :=
  ∀ (pins : List (Addr × Obj)) (s : Shared) (σ : St) (H : Hp) (v : V) (u : Value) (Q : St → Hp → Prop), Inv X pins σ H s → RelV v u → t v σ H Q →
    wpAny (model X.prog X.w) X.A (assign target X.env u) (fun _ s' => ∃ σ' H', Inv X pins σ' H' s' ∧ Q σ' H') X.xe s
def PGs (X : Cx) (ts : List Expr) (t : TGs) : Prop :=
  ∀ (pins : List (Addr × Obj)) (s : Shared) (σ : St) (H : Hp) (vs : List V) (us : List Value) (Q : St → Hp → Prop), Inv X pins σ H s → Vals vs us → t vs σ H Q →
    wpAny (model X.prog X.w) X.A (assignInOrder ((assignEach ts X.env).map (·.2)) us) (fun _ s' => ∃ σ' H', Inv X pins σ' H' s' ∧ Q σ' H') X.xe s
abbrev TSet := V → V → V → Hp → (Hp → Prop) → Prop
def PSet (X : Cx) (t : TSet) : Prop :=
  ∀ (pins : List (Addr × Obj)) (s : Shared) (σ : St) (H : Hp) (o i v : V) (ov iv u : Value) (Q : Hp → Prop), Inv X pins σ H s → RelV o ov → RelV i iv → RelV v u → t o i v H Q →
    wpAny (model X.prog X.w) X.A (setItem ov iv u) (fun _ s' => ∃ H', Inv X pins σ H' s' ∧ Q H') X.xe s
section
variable {X : Cx} {pos : Pos}
def gName (i : Nat) : TG := fun v σ H Q => Q (σ.set i (some v)) H
theorem pg_name {i : Nat} {x : Str} (hN : X.N.Nodup) (hi : X.N[i]? = some x) (hx : Loc X.env.scope x) (hf : X.fn x = true ∨ X.env.scope.names.lookup x = some .local := by first | exact .inl rfl | exact .inr rfl | assumption) : PG X (.Name x pos) (gName i) := by
  intro pins s σ H v u Q I r h
  exact wpAny_assign_Name (store_ok I hN hi hx r (fun s' I' => ⟨_, H, I', h⟩) hf)
def gNil : TGs := fun vs σ H Q => vs = [] ∧ Q σ H
def gCons (t : TG) (u : TGs) : TGs := fun vs σ H Q => ∃ v r, vs = v :: r ∧ t v σ H fun σ' H' => u r σ' H' Q
theorem pgs_nil : PGs X [] gNil := by
  intro pins s σ H vs us Q I r h
  obtain ⟨e, h⟩ := h
  subst e
  cases r
  exact assignInOrder_nil ⟨σ, H, I, h⟩
theorem pgs_cons {e : Expr} {es : List Expr} {t : TG} {u : TGs} (h1 : PG X e t) (h2 : PGs X es u)
    (hs : (assignEach (e :: es) X.env).map (·.2) = assign e X.env :: (assignEach es X.env).map (·.2) := by rfl) : PGs X (e :: es) (gCons t u) := by
  intro pins s σ H vs us Q I r h
  obtain ⟨v, vr, e1, h⟩ := h
  subst e1
  cases r with
  | cons r rr =>
    rw [hs]
    refine assignInOrder_cons (thn (h1 pins s σ H _ _ _ I r h) fun _ s1 ⟨σ1, H1, I1, q1⟩ => ?_)
    exact h2 pins s1 σ1 H1 _ _ Q I1 rr q1
def gTup (K : PySem.W.Frag) (n : Nat) (t : TGs) : TG := fun v σ H Q => ∃ a xs, v = .ref a ∧ SqT K H a xs ∧ xs.length = n ∧ t xs σ H Q
theorem pg_tup {es : List Expr} {k : Nat} {t : TGs} {n : Nat} (hc : X.calm = true) (h : PGs X es t)
    (hn : (assignEach es X.env).length = n := by rfl) (hst : (assignEach es X.env).findIdx? (·.1) = none := by rfl) : PG X (.Tuple es k pos) (gTup X.K n t) := by
  intro pins s σ H v u Q I r hw
  obtain ⟨a, xs, e1, hq, hl, hw⟩ := hw
  subst e1
  cases r
  obtain ⟨its, rv, ht, hz⟩ := I.tuple hq
  refine assign_Tuple_tuple (I.ok.hd hc) ht (by simp [hn, ← hl, rv.length]) hst fun h' hx => ?_
  have I1 : Inv X pins σ H { s with heap := h' } := I.kept (t' := s.toks) fun b o e => hx b o (Nat.ne_of_lt (Heap.lt_size e)) e
  exact h pins _ σ H xs _ Q I1 (by simpa using rv) hw
def gSub (to ti : TE) (t : TSet) : TG := fun v σ H Q => to σ H fun o H1 => ti σ H1 fun i H2 => t o i v H2 fun H3 => Q σ H3
theorem pg_sub {o i : Expr} {to ti : TE} {t : TSet} (ho : PE X o to) (hi : PE X i ti) (hs : PSet X t)
    (ha : ∀ v, assign (.Subscript o i pos) X.env v = (do
      let ov ← holding [v] (eval o X.env)
      let iv ← holding [v, ov] (eval i X.env)
      standAt pos
      holding [v, ov, iv] (setItem ov iv v)
      release [v, ov, iv] []) := by intro _; rfl) : PG X (.Subscript o i pos) (gSub to ti t) := by
  intro pins s σ H v u Q I r h
  rw [ha]
  refine wpAny_bind (wpAny_holding (thn (ho pins s σ H _ I h) fun ov s1 ⟨x, H1, I1, r1, q1⟩ => ?_))
  refine wpAny_bind (wpAny_holding (thn (hi pins s1 σ H1 _ I1 q1) fun iv s2 ⟨y, H2, I2, r2, q2⟩ => ?_))
  refine wpAny_bind (wpAny_standAt (wpAny_bind (wpAny_holding (thn (hs pins s2 σ H2 x y v ov iv u _ I2 r1 r2 r q2) fun _ s3 ⟨H3, I3, q3⟩ => ?_))))
  exact wpAny_release ⟨σ, H3, I3, q3⟩
def tAsg (te : TE) (g : TG) : TS := fun D σ H => te σ H fun x H1 => g x σ H1 D.nx
theorem ps_asg {tg e : Expr} {te : TE} {g : TG} (he : PE X e te) (hg : PG X tg g) (hs : swapsWithSole [tg] e pos.line X.env = pure false := by rfl) (hw : swappedStores [tg] e X.env = pure none := by rfl)
    (h1 : (assignEach [tg] X.env).map (·.2) = [assign tg X.env] := by rfl) : PS X (.Assign [tg] e pos) (tAsg te g) := by
  intro pins s σ H D I h
  refine wpAny_Assign_stores (thn (he pins s σ H _ I h) fun v s1 ⟨x, H1, I1, r1, q1⟩ => ?_) hs hw
  rw [h1]
  exact thn (hg pins s1 σ H1 x v _ I1 r1 q1) fun _ s2 q => q
theorem ps_set {i : Nat} {x : Str} {e : Expr} {te : TE} {pos' : Pos} (hN : X.N.Nodup) (hi : X.N[i]? = some x) (hx : Loc X.env.scope x) (he : PE X e te) (hs : swapsWith e (some (.Name x pos')) pos.line X.env = pure false := by rfl) (hf : X.fn x = true ∨ X.env.scope.names.lookup x = some .local := by first | exact .inl rfl | exact .inr rfl | assumption) :
    PS X (.Assign [.Name x pos'] e pos) (tAsg te (gName i)) := by
  intro pins s σ H D I h
  refine wpAny_Assign_Name (thn (he pins s σ H _ I h) fun v s1 ⟨y, H1, I1, r1, q1⟩ => ?_) hs
  exact store_ok I1 hN hi hx r1 (fun s2 I2 => ⟨_, H1, I2, q1⟩) hf
end
section
variable {X : Cx} {pos : Pos}
end
structure It where
  go : Nat → Hp → Prop
  yld : Nat → Hp → V → Hp → Prop
  stop : Nat → Hp → Prop
def FpOk (X : Cx) (pins : List (Addr × Obj)) (H : Hp) (b : Addr) : Prop :=
  H b = none ∧ b ≠ X.env.locals ∧ b ∉ X.fs ∧ (b ∈ X.ex ∨ X.s₀.heap.objs.size ≤ b) ∧ (∀ x c, X.env.cells.lookup x = some c → c ≠ b) ∧ ∀ p ∈ X.pn ++ pins, p.1 ≠ b
theorem Inv.fpOk {X : Cx} {pins : List (Addr × Obj)} {σ : St} {H H' : Hp} {s : Shared} {b : Addr} (I : Inv X pins σ H s) (hb : s.heap.objs.size ≤ b) (hn : H' b = none) : FpOk X pins H' b := by
  refine ⟨hn, Nat.ne_of_gt (Nat.lt_of_lt_of_le I.lt hb), I.nofs hb, .inr (Nat.le_trans I.sz hb), fun x c e z => ?_, fun p hp z => ?_⟩
  · obtain ⟨v, q⟩ := I.cell x c e
    exact absurd (Nat.lt_of_lt_of_le q.lt (by rw [z]; exact hb)) (Nat.lt_irrefl _)
  · exact absurd (Nat.lt_of_lt_of_le (Heap.lt_size (I.pin p hp).1) (by rw [z]; exact hb)) (Nat.lt_irrefl _)
structure Turn (P : Program) (w : World) (K : PySem.W.Frag) (tg : Expr) (J : It) (fp : List Addr) (it : Addr) (tn : Nat → Heap → Prop) : Prop where
  mem : it ∈ fp
  obj : ∀ i h, tn i h → ∀ b ∈ fp, ∃ o, h.get? b = some o ∧ ∀ v, o.data ≠ .cell v
  keep : ∀ i h h', tn i h → (∀ b ∈ fp, ∀ o, h.get? b = some o → h'.get? b = some o) → tn i h'
  item : ∀ (X : Cx), X.prog = P → X.w = w → X.K = K → X.calm = true → ∀ (i : Nat) (pins : List (Addr × Obj)) (s : Shared) (σ : St) (H : Hp) (E : Value → Shared → Prop), Inv X pins σ H s → (∀ b ∈ fp, FpOk X pins H b) → tn i s.heap → J.go i H →
    wpAny (model P w) X.A (pyNext (.ref it)) (fun r s1 => ∃ u, r = some u ∧
      wpAny (model P w) X.A (letOwnedTupleGo tg (.ref it) u) (fun _ s2 => ∃ x H', Inv X pins σ H' s2 ∧ RelV x u ∧ J.yld i H x H' ∧ tn (i + 1) s2.heap ∧ ∀ b ∈ fp, H' b = none) E s1) E s
  done : ∀ (X : Cx), X.prog = P → X.w = w → X.K = K → X.calm = true → ∀ (i : Nat) (pins : List (Addr × Obj)) (s : Shared) (σ : St) (H : Hp) (E : Value → Shared → Prop), Inv X pins σ H s → (∀ b ∈ fp, FpOk X pins H b) → tn i s.heap → J.stop i H →
    wpAny (model P w) X.A (pyNext (.ref it)) (fun r s1 => r = none ∧ Inv X pins σ H s1) E s
  self : ∀ (A : Around) (i : Nat) (s : Shared) (Q : Value → Shared → Prop) (E : Value → Shared → Prop), tn i s.heap → Q (.ref it) s → wpAny (model P w) A (pyIter (.ref it)) Q E s
abbrev TI := St → Hp → (It → Hp → Prop) → Prop
def PIE (X : Cx) (pins : List (Addr × Obj)) (σ : St) (tg : Expr) (R : It → Hp → Prop) (itv : Value) (s2 : Shared) : Prop :=
  ∃ (it : Addr) (fp : List Addr) (tn : Nat → Heap → Prop) (J : It) (H' : Hp), itv = .ref it ∧ Inv X pins σ H' s2 ∧ Turn X.prog X.w X.K tg J fp it tn ∧ tn 0 s2.heap ∧ (∀ b ∈ fp, FpOk X pins H' b) ∧ R J H'
def PI (X : Cx) (tg iter : Expr) (wi : TI) : Prop :=
  ∀ (pins : List (Addr × Obj)) (s : Shared) (σ : St) (H : Hp) (R : It → Hp → Prop), Inv X pins σ H s → wi σ H R →
    wpAny (model X.prog X.w) X.A (eval iter X.env) (fun v s1 => wpAny (model X.prog X.w) X.A (pyIter v) (PIE X pins σ tg R) X.xe s1) X.xe s
theorem go_of {M : Model} {A : Around} {E : Value → Shared → Prop} {s : Shared} {tg : Expr} {it : Addr} {u : Value} {o : Obj} {n : String} {vs : Array Value} {Q : Unit → Shared → Prop} (ho : s.heap.get? it = some o) (hc : o.cls = .type n) (hd : o.data = .fields vs)
    (hn : ["enumerate", "zip", "dict_itemiterator", "dict_reverseitemiterator", "odict_iterator", "itertools.zip_longest", "itertools.pairwise"].contains n = false) (hQ : Q () s) : wpAny M A (letOwnedTupleGo tg (.ref it) u) Q E s := by
  unfold letOwnedTupleGo
  cases tg <;> first
    | exact wpAny_pure hQ
    | (cases u <;> first
        | exact wpAny_pure hQ
        | (refine wpAny_bind (wpAny_load ho ?_)
           rw [hc, hd]
           show wpAny M A (if (["enumerate", "zip", "dict_itemiterator", "dict_reverseitemiterator", "odict_iterator", "itertools.zip_longest", "itertools.pairwise"].contains n && vs[0]? == some (rawInt _)) = true then _ else _) Q E s
           rw [if_neg (by intro h; rw [hn, Bool.false_and] at h; cases h)]
           exact wpAny_pure hQ))
def Itl (K : PySem.W.Frag) (a : Addr) : It :=
  ⟨fun i H => ∃ xs x, SqL K H a xs ∧ xs[i]? = some x, fun i H x H' => H' = H ∧ ∀ xs, SqL K H a xs → xs[i]? = some x, fun i H => ∃ xs, SqL K H a xs ∧ xs.length ≤ i⟩
def Itr (lo : Int) (n : Nat) : It := ⟨fun i _ => i < n, fun i H x H' => H' = H ∧ x = .int (lo + i), fun i _ => n ≤ i⟩
theorem turn_list {P : Program} {w : World} {K : PySem.W.Frag} {tg : Expr} (a it : Addr) : Turn P w K tg (Itl K a) [it] it (fun i h => h.IsListIter it a i) where
  mem := by simp
  obj := fun i h st b hb => by
    have e : b = it := by simpa using hb
    subst e
    obtain ⟨o, e, c, d⟩ := st
    exact ⟨o, e, fun v z => by rw [d] at z; cases z⟩
  keep := fun i h h' st k => st.at fun o e => k it (by simp) o e
  item := by
    intro X hP hw hK hc i pins s σ H E I hf st hg
    subst hP hw hK
    obtain ⟨xs, x, hq, hx⟩ := hg
    obtain ⟨its, rv, p, hz⟩ := I.list hq
    obtain ⟨u, hu, ru⟩ := rv.get hx
    obtain ⟨f0, f1, f2, f3, f4, f5⟩ := hf it (by simp)
    refine wpAny_pyNext_list_item st p.isList (x := u) (by simpa using hu) fun h' st' sb => ?_
    have I1 : Inv X pins σ H { s with heap := h' } := I.turned (t' := s.toks) (fun b o hb e => (sb.2 b hb).trans e) f0 f1 f3 f4 f5
    obtain ⟨o, e, c, d⟩ := id st'
    exact ⟨u, rfl, go_of (s := { s with heap := h' }) e c d (by decide) ⟨x, H, I1, ru, ⟨rfl, fun ys hy => by rw [I.list_inj hy hq]; exact hx⟩, st', fun b hb => (hf b hb).1⟩⟩
  done := by
    intro X hP hw hK hc i pins s σ H E I hf st hg
    subst hP hw hK
    obtain ⟨xs, hq, hx⟩ := hg
    obtain ⟨its, rv, p, hz⟩ := I.list hq
    obtain ⟨f0, f1, f2, f3, f4, f5⟩ := hf it (by simp)
    have hl := rv.length
    exact wpAny_pyNext_list_end (I.ok.hd hc) st p.isList (by simp; omega) fun h' eb => ⟨rfl, I.turned (t' := s.toks) (fun b o hb e => eb b o hb e) f0 f1 f3 f4 f5⟩
  self := fun _ _ _ _ _ st h => wpAny_pyIter_listiter st h
theorem turn_range {P : Program} {w : World} {K : PySem.W.Frag} {tg : Expr} (it : Addr) (lo : Int) (n : Nat) : Turn P w K tg (Itr lo n) [it] it (fun i h => IsRangeIter h it (lo + (i : Nat) * 1) ((n : Int) - (i : Nat)) 1) where
  mem := by simp
  obj := fun i h st b hb => by
    have e : b = it := by simpa using hb
    subst e
    exact ⟨_, st, fun v z => by
      have z' : Data.fields _ = Data.cell v := z
      cases z'⟩
  keep := fun i h h' st k => k it (by simp) _ st
  item := by
    intro X hP hw hK hc i pins s σ H E I hf st hg
    subst hP hw hK
    obtain ⟨f0, f1, f2, f3, f4, f5⟩ := hf it (by simp)
    have W := Walks.range (prog := X.prog) (w := X.w) (I.ok.hd hc) it lo 1 n
    refine W.item i s _ _ hg st fun v h' tk hv st' kk => ?_
    obtain ⟨t, rfl⟩ := hv
    have I1 : Inv X pins σ H { s with heap := h', toks := tk } := I.turned (fun b o hb e => kk b o (by simpa using hb) e) f0 f1 f3 f4 f5
    refine ⟨_, rfl, go_of (s := { s with heap := h', toks := tk }) (n := "range_iterator") st' rfl rfl (by decide) ⟨.int (lo + i), H, I1, ⟨t, ?_⟩, ⟨rfl, rfl⟩, st', fun b hb => (hf b hb).1⟩⟩
    rw [Int.mul_one]
  done := by
    intro X hP hw hK hc i pins s σ H E I hf st hg
    subst hP hw hK
    obtain ⟨f0, f1, f2, f3, f4, f5⟩ := hf it (by simp)
    exact wpAny_pyNext_range_end (I.ok.hd hc) st (by have : n ≤ i := hg; omega) fun h' eb => ⟨rfl, I.turned (t' := s.toks) (fun b o hb e => eb b o hb e) f0 f1 f3 f4 f5⟩
  self := fun _ _ _ _ _ st h => wpAny_pyIter_rangeiter st h
end L2
namespace L2
open PySem PySem.Spec PyProof.Rows
section
variable {X : Cx} {tg : Expr}
def iList (K : PySem.W.Frag) (tl : TE) : TI := fun σ H R => tl σ H fun x H1 => ∃ a, x = .ref a ∧ (∃ xs, SqL K H1 a xs) ∧ R (Itl K a) H1
theorem pi_list {l : Expr} {tl : TE} (hl : PE X l tl) : PI X tg l (iList X.K tl) := by
  intro pins s σ H R I h
  refine thn (hl pins s σ H _ I h) fun v s1 ⟨x, H1, I1, r1, q1⟩ => ?_
  obtain ⟨a, e, ⟨xs, hq⟩, q⟩ := q1
  subst e
  cases r1
  obtain ⟨its, rv, p, hz⟩ := I1.list hq
  refine wpAny_pyIter_list p.isList ?_
  refine ⟨s1.heap.objs.size, [s1.heap.objs.size], _, _, H1, rfl, I1.kept (t' := s1.toks) fun b o e => Heap.get?_push_of_some _ e, turn_list a _, ⟨_, Heap.get?_push_size _ rfl, rfl, rfl⟩, fun b hb => ?_, q⟩
  have e : b = s1.heap.objs.size := by simpa using hb
  subst e
  exact I1.fpOk (Nat.le_refl _) (I1.hok.fresh (Nat.le_refl _))
theorem range_it {pins : List (Addr × Obj)} {σ : St} {H : Hp} {s : Shared} {R : It → Hp → Prop} {E : Value → Shared → Prop} {lo hi : Int} {t u v : Tok} {tk : Nat} (I : Inv X pins σ H s) (h1 : -(2 ^ 62) ≤ lo) (h2 : lo < 2 ^ 62) (h3 : -(2 ^ 62) ≤ hi) (h4 : hi < 2 ^ 62)
    (q : R (Itr lo (hi - lo).toNat) H) : wpAny (model X.prog X.w) X.A (pyIter (.ref s.heap.objs.size)) (PIE X pins σ tg R) E { s with heap := s.heap.push { cls := .type "range", data := .fields #[.int lo t, .int hi u, .int 1 v] }, toks := tk } := by
  refine wpAny_pyIter_range (IsRange.new ..) (small_one h1 h2 h3 h4) ?_
  have I1 : Inv X pins σ H { s with heap := s.heap.push { cls := .type "range", data := .fields #[.int lo t, .int hi u, .int 1 v] }, toks := tk } := I.kept fun b o e => Heap.get?_push_of_some _ e
  refine ⟨(s.heap.push { cls := .type "range", data := .fields #[.int lo t, .int hi u, .int 1 v] }).objs.size, [(s.heap.push { cls := .type "range", data := .fields #[.int lo t, .int hi u, .int 1 v] }).objs.size], _, _, H, rfl,
    I1.kept (t' := tk) fun b o e => Heap.get?_push_of_some _ e, turn_range _ lo (hi - lo).toNat, ?_, fun b hb => ?_, q⟩
  · have e1 : lo + ((0 : Nat) : Int) * 1 = lo := by simp
    have e2 : (((hi - lo).toNat : Nat) : Int) - ((0 : Nat) : Int) = Builtin.Range.rangeSize lo hi 1 := by rw [rangeSize_one]; split <;> omega
    show IsRangeIter _ _ (lo + ((0 : Nat) : Int) * 1) ((((hi - lo).toNat : Nat) : Int) - ((0 : Nat) : Int)) 1
    rw [e1, e2]
    exact Heap.get?_push_size _ rfl
  · have e : b = (s.heap.push { cls := .type "range", data := .fields #[.int lo t, .int hi u, .int 1 v] }).objs.size := by simpa using hb
    subst e
    exact I1.fpOk (Nat.le_refl _) (I1.hok.fresh (Nat.le_refl _))
def iRng1 (ta : TA) : TI := fun σ H R => ta σ H fun vs H1 => ∃ j : Int, vs = [.int j] ∧ -(2 ^ 62) ≤ j ∧ j < 2 ^ 62 ∧ R (Itr 0 j.toNat) H1
def iRng2 (ta : TA) : TI := fun σ H R => ta σ H fun vs H1 => ∃ i j : Int, vs = [.int i, .int j] ∧ (-(2 ^ 62) ≤ i ∧ i < 2 ^ 62 ∧ -(2 ^ 62) ≤ j ∧ j < 2 ^ 62) ∧ R (Itr i (j - i).toNat) H1
theorem pi_range1 {a : Expr} {ta : TA} {p pos : Pos} (hg : Gl X "range") (hm : X.mg "range" = none) (ha : PA X [a] ta) (hs : starEach [a] X.env = [(false, eval a X.env)] := by rfl) : PI X tg (.Call (.Name "range" p) [a] [] pos) (iRng1 ta) := by
  intro pins s σ H R I h
  refine Call_ (ld_blt I hg hm boot_range (PyProof.Rows.callWith_type1 (thn (ha pos pins s σ H _ I h) fun us s1 ⟨vs, H1, I1, r1, q1⟩ => ?_) hs rfl))
  obtain ⟨j, e, q1, q2, q⟩ := q1
  subst e
  cases r1 with
  | cons r rr =>
    cases rr
    obtain ⟨t, rfl⟩ := r
    exact call_range_1 (range_it I1 (by omega) (by omega) q1 q2 (by simpa using q))
theorem pi_range2 {a b : Expr} {ta : TA} {p pos : Pos} (hg : Gl X "range") (hm : X.mg "range" = none) (ha : PA X [a, b] ta) (hs : starEach [a, b] X.env = [(false, eval a X.env), (false, eval b X.env)] := by rfl) (hs2 : starEach [b] X.env = [(false, eval b X.env)] := by rfl) :
    PI X tg (.Call (.Name "range" p) [a, b] [] pos) (iRng2 ta) := by
  intro pins s σ H R I h
  refine Call_ (ld_blt I hg hm boot_range (PyProof.Rows.callWith_type1 (thn (ha pos pins s σ H _ I h) fun us s1 ⟨vs, H1, I1, r1, q1⟩ => ?_) (by rw [hs, hs2]) (by rw [hs2]; rfl)))
  obtain ⟨i, j, e, ⟨q1, q2, q3, q4⟩, q⟩ := q1
  subst e
  cases r1 with
  | cons r rr =>
    cases rr with
    | cons r' rr =>
      cases rr
      obtain ⟨t, rfl⟩ := r
      obtain ⟨t', rfl⟩ := r'
      exact call_range_2 (range_it I1 q1 q2 q3 q4 q)
def tFor (wi : TI) (g : TG) (tb : TS) : TS := fun D σ H => wi σ H fun J H1 => ∃ W : Nat → Nat → St → Hp → Prop, (∃ m, W 0 m σ H1) ∧ ∀ i m σ H, W i m σ H →
  (J.stop i H ∧ D.nx σ H) ∨ (J.go i H ∧ ∃ N : St → Hp → Prop, (∀ σ' H', N σ' H' → ∃ m', m' < m ∧ W (i + 1) m' σ' H') ∧ ∀ x H', J.yld i H x H' → g x σ H' fun σ2 H2 => tb { D with nx := N, ct := N, bk := D.nx } σ2 H2)
def pinsAt (fp : List Addr) (h : Heap) : List (Addr × Obj) := fp.filterMap fun b => (h.get? b).map fun o => (b, o)
theorem mem_pinsAt {fp : List Addr} {h : Heap} {b : Addr} {o : Obj} (hb : b ∈ fp) (e : h.get? b = some o) : (b, o) ∈ pinsAt fp h := List.mem_filterMap.mpr ⟨b, hb, by rw [e]; rfl⟩
theorem of_pinsAt {fp : List Addr} {h : Heap} {p : Addr × Obj} (hp : p ∈ pinsAt fp h) : p.1 ∈ fp ∧ h.get? p.1 = some p.2 := by
  obtain ⟨b, hb, e⟩ := List.mem_filterMap.mp hp
  cases q : h.get? b with
  | none => rw [q] at e; cases e
  | some o =>
    rw [q] at e
    have e' : (b, o) = p := Option.some.inj e
    subst e'
    exact ⟨hb, q⟩
theorem Inv.pinned {pins : List (Addr × Obj)} {σ : St} {H : Hp} {s : Shared} {fp : List Addr} (I : Inv X pins σ H s) (hf : ∀ b ∈ fp, FpOk X pins H b) (ho : ∀ b ∈ fp, ∃ o, s.heap.get? b = some o ∧ ∀ v, o.data ≠ .cell v) : Inv X (pins ++ pinsAt fp s.heap) σ H s :=
  I.pins_of fun p hp => (List.mem_append.mp hp).elim (fun z => I.pin p (List.mem_append_right _ z)) fun z => by
    obtain ⟨hb, e⟩ := of_pinsAt z
    obtain ⟨f0, f1, f2, _⟩ := hf p.1 hb
    obtain ⟨o, e', d⟩ := ho p.1 hb
    rw [e] at e'; cases e'
    exact ⟨e, f0, f1, f2, d⟩
theorem Inv.unpinned {pins pl : List (Addr × Obj)} {σ : St} {H : Hp} {s : Shared} (I : Inv X (pins ++ pl) σ H s) : Inv X pins σ H s := I.pins_of fun p hp => I.pin p (List.mem_append_right _ (List.mem_append_left _ hp))
theorem ps_for {iter : Expr} {body : List Stmt} {wi : TI} {g : TG} {tb : TS} {pos : Pos} (hp : PassesOwn (model X.prog X.w) X.A X.env X.xe) (hc : X.calm = true) (hi : PI X tg iter wi) (hg : PG X tg g) (hb : PSs X body tb)
    (hs : ∀ x, foldedSetIterable iter X.env x = pure x := by intro _; rfl) : PS X (.For tg iter body [] pos) (tFor wi g tb) := by
  intro pins s σ H D I h
  refine wpAny_For (thn (hi pins s σ H _ I h) fun v s1 h1 => thn h1 fun itv s2 h2 => ?_) hs
  obtain ⟨it, fp, tn, J, H2, e, I2, T, st2, f2, W, ⟨m0, w0⟩, turn⟩ := h2
  subst e
  have stat : ∀ {H' : Hp}, (∀ b ∈ fp, H' b = none) → ∀ b ∈ fp, FpOk X pins H' b := fun hn b hb => ⟨hn b hb, (f2 b hb).2⟩
  refine codeAny_forLoop_any (fun n s' => ∃ i σ' H', Inv X pins σ' H' s' ∧ tn i s'.heap ∧ (∀ b ∈ fp, H' b = none) ∧ W i n σ' H') ?_ m0 ⟨0, σ, H2, I2, st2, fun b hb => (f2 b hb).1, w0⟩
  rintro n s3 ⟨i, σ3, H3, I3, st3, fr3, w3⟩
  rcases turn i n σ3 H3 w3 with ⟨stop, qn⟩ | ⟨go, N, hN, step⟩
  · refine wpAny_passesOwn hp (thn (T.done X rfl rfl rfl hc i pins s3 σ3 H3 X.xe I3 (stat fr3) st3 stop) fun r s4 ⟨hr, I4⟩ => ?_)
    subst hr
    exact wpAny_execs_nil ⟨σ3, H3, I4, qn⟩
  · refine wpAny_passesOwn hp (thn (T.item X rfl rfl rfl hc i pins s3 σ3 H3 X.xe I3 (stat fr3) st3 go) fun r s4 ⟨u, hr, h4⟩ => ?_)
    subst hr
    refine wpAny_passesOwn hp (thn h4 fun _ s5 ⟨x, H5, I5, r5, y5, st5, fr5⟩ => ?_)
    have I5' := I5.pinned (stat fr5) (T.obj _ _ st5)
    refine wpAny_passesOwn hp (thn (hg _ s5 σ3 H5 x u _ I5' r5 (step x H5 y5)) fun _ s6 ⟨σ6, H6, I6, q6⟩ => ?_)
    refine wpAny_passesOwn hp (thn (hb _ s6 σ6 H6 _ I6 q6) fun f s7 q7 => ?_)
    have again : ∀ {σ7 : St} {H7 : Hp}, Inv X (pins ++ pinsAt fp s5.heap) σ7 H7 s7 → N σ7 H7 → ∃ m, m < n ∧ ∃ i σ' H', Inv X pins σ' H' s7 ∧ tn i s7.heap ∧ (∀ b ∈ fp, H' b = none) ∧ W i m σ' H' := fun {σ7 H7} I7 n7 => by
      obtain ⟨m', hm, w7⟩ := hN σ7 H7 n7
      refine ⟨m', hm, i + 1, σ7, H7, I7.unpinned, T.keep _ _ _ st5 fun b hb o e => (I7.pin (b, o) (List.mem_append_right _ (List.mem_append_right _ (mem_pinsAt hb e)))).1, fun b hb => ?_, w7⟩
      obtain ⟨o, e, d⟩ := T.obj _ _ st5 b hb
      exact (I7.pin (b, o) (List.mem_append_right _ (List.mem_append_right _ (mem_pinsAt hb e)))).2.1
    cases f with
    | next => obtain ⟨σ7, H7, I7, n7⟩ := q7; exact again I7 n7
    | cont => obtain ⟨σ7, H7, I7, n7⟩ := q7; exact again I7 n7
    | brk => obtain ⟨σ7, H7, I7, q7⟩ := q7; exact ⟨σ7, H7, I7.unpinned, q7⟩
    | ret v => obtain ⟨x7, σ7, H7, I7, r7, q7⟩ := q7; exact ⟨x7, σ7, H7, I7.unpinned, r7, q7⟩
end
theorem for_list {K : PySem.W.Frag} {a : Addr} {xs : List V} {g : TG} {tb : TS} {D : Ends} {σ : St} {H : Hp} (Pv : Nat → St → Hp → Prop) (h0 : Pv 0 σ H) (hl : ∀ i σ H, i ≤ xs.length → Pv i σ H → SqL K H a xs)
    (hs : ∀ i x σ H, xs[i]? = some x → Pv i σ H → g x σ H fun σ2 H2 => tb { D with nx := Pv (i + 1), ct := Pv (i + 1), bk := D.nx } σ2 H2) (hd : ∀ σ H, Pv xs.length σ H → D.nx σ H) :
    ∃ W : Nat → Nat → St → Hp → Prop, (∃ m, W 0 m σ H) ∧ ∀ i m σ H, W i m σ H →
      ((Itl K a).stop i H ∧ D.nx σ H) ∨ ((Itl K a).go i H ∧ ∃ N : St → Hp → Prop, (∀ σ' H', N σ' H' → ∃ m', m' < m ∧ W (i + 1) m' σ' H') ∧ ∀ x H', (Itl K a).yld i H x H' → g x σ H' fun σ2 H2 => tb { D with nx := N, ct := N, bk := D.nx } σ2 H2) := by
  refine ⟨fun i m σ H => m = xs.length - i ∧ i ≤ xs.length ∧ Pv i σ H, ⟨xs.length, by simp, Nat.zero_le _, h0⟩, ?_⟩
  rintro i m σ H ⟨rfl, hi, p⟩
  have q := hl i σ H hi p
  by_cases hlt : i < xs.length
  · refine .inr ⟨⟨xs, xs[i], q, by simp [hlt]⟩, Pv (i + 1), fun σ' H' p' => ⟨xs.length - (i + 1), by omega, rfl, hlt, p'⟩, fun x H' y => ?_⟩
    obtain ⟨e, y⟩ := y
    subst e
    exact hs i x σ _ (y xs q) p
  · have e : i = xs.length := by omega
    subst e
    exact .inl ⟨⟨xs, q, Nat.le_refl _⟩, hd σ H p⟩
theorem for_range {lo : Int} {n : Nat} {g : TG} {tb : TS} {D : Ends} {σ : St} {H : Hp} (Pv : Nat → St → Hp → Prop) (h0 : Pv 0 σ H)
    (hs : ∀ i σ H, i < n → Pv i σ H → g (.int (lo + i)) σ H fun σ2 H2 => tb { D with nx := Pv (i + 1), ct := Pv (i + 1), bk := D.nx } σ2 H2) (hd : ∀ σ H, Pv n σ H → D.nx σ H) :
    ∃ W : Nat → Nat → St → Hp → Prop, (∃ m, W 0 m σ H) ∧ ∀ i m σ H, W i m σ H →
      ((Itr lo n).stop i H ∧ D.nx σ H) ∨ ((Itr lo n).go i H ∧ ∃ N : St → Hp → Prop, (∀ σ' H', N σ' H' → ∃ m', m' < m ∧ W (i + 1) m' σ' H') ∧ ∀ x H', (Itr lo n).yld i H x H' → g x σ H' fun σ2 H2 => tb { D with nx := N, ct := N, bk := D.nx } σ2 H2) := by
  refine ⟨fun i m σ H => m = n - i ∧ i ≤ n ∧ Pv i σ H, ⟨n, by simp, Nat.zero_le _, h0⟩, ?_⟩
  rintro i m σ H ⟨rfl, hi, p⟩
  by_cases hlt : i < n
  · refine .inr ⟨hlt, Pv (i + 1), fun σ' H' p' => ⟨n - (i + 1), by omega, rfl, hlt, p'⟩, fun x H' y => ?_⟩
    obtain ⟨e, y⟩ := y
    subst e y
    exact hs i σ _ hlt p
  · have e : i = n := by omega
    subst e
    exact .inl ⟨Nat.le_refl _, hd σ H p⟩
end L2
namespace L2
open PySem PySem.Spec PyProof.Rows
abbrev R2 := V → V → Hp → VK → Prop
def OpR (X : Cx) (f : Value → Value → Sem Value) (r : R2) : Prop :=
  ∀ (pins : List (Addr × Obj)) (s : Shared) (σ : St) (H : Hp) (x y : V) (v u : Value) (Q : VK), Inv X pins σ H s → RelV x v → RelV y u → r x y H Q →
    wpAny (model X.prog X.w) X.A (f v u) (EP X pins σ Q) X.xe s
def CallR (X : Cx) (f : Value) (r : List V → Hp → VK → Prop) : Prop :=
  ∀ (pins : List (Addr × Obj)) (s : Shared) (σ : St) (H : Hp) (xs : List V) (us : List Value) (Q : VK), Inv X pins σ H s → Vals xs us → r xs H Q →
    wpAny (model X.prog X.w) X.A (call f us) (EP X pins σ Q) X.xe s
def tOp (r : R2) (ta tb : TE) : TE := fun σ H Q => ta σ H fun x H1 => tb σ H1 fun y H2 => r x y H2 Q
def rI (C : Int → Int → Prop) (g : Int → Int → V) : R2 := fun x y H Q => ∃ i j, x = .int i ∧ y = .int j ∧ C i j ∧ Q (g i j) H
def rI0 (g : Int → Int → V) : R2 := fun x y H Q => ∃ i j, x = .int i ∧ y = .int j ∧ Q (g i j) H
section
variable {X : Cx} {a b c : Expr} {ta tb tc : TE} {pos : Pos}
theorem binT (ha : PE X a ta) (hb : PE X b tb) {pins : List (Addr × Obj)} {s : Shared} {σ : St} {H : Hp} {R : V → V → Hp → Prop} (I : Inv X pins σ H s)
    (h : ta σ H fun x H1 => tb σ H1 fun y H2 => R x y H2) {Q : Value → Shared → Prop} {f : Value → Value → Sem Value}
    (hf : ∀ v u s2 x y H2, Inv X pins σ H2 s2 → RelV x v → RelV y u → R x y H2 → wpAny (model X.prog X.w) X.A (f v u) Q X.xe s2) :
    wpAny (model X.prog X.w) X.A (eval a X.env) (fun v s₁ => wpAny (model X.prog X.w) X.A (eval b X.env) (fun u s₂ => wpAny (model X.prog X.w) X.A (f v u) Q X.xe s₂) X.xe s₁) X.xe s := by
  refine thn (ha pins s σ H _ I h) fun v s1 ⟨x, H1, I1, r1, q1⟩ => ?_
  refine thn (hb pins s1 σ H1 _ I1 q1) fun u s2 ⟨y, H2, I2, r2, q2⟩ => ?_
  exact hf v u s2 x y H2 I2 r1 r2 q2
theorem pe_op {op : Operator} {r : R2} (ho : OpR X (binaryOp op) r) (ha : PE X a ta) (hb : PE X b tb) : PE X (.BinOp a op b pos) (tOp r ta tb) := by
  intro pins s σ H Q I h
  exact wpAny_BinOp (binT ha hb I h fun v u s2 x y H2 I2 rx ry q => ho pins s2 σ H2 x y v u Q I2 rx ry q)
theorem opI {f : Value → Value → Sem Value} {C : Int → Int → Prop} {g : Int → Int → Int}
    (rule : ∀ (i j : Int) (t u : Tok) (s : Shared) (Q : Value → Shared → Prop) (E : Value → Shared → Prop), C i j → Q (.int (g i j) s.toks) { s with toks := s.toks + 1 } → wpAny (model X.prog X.w) X.A (f (.int i t) (.int j u)) Q E s) :
    OpR X f (rI C fun i j => .int (g i j)) := by
  intro pins s σ H x y v u Q I rx ry h
  obtain ⟨i, j, rfl, rfl, hc, q⟩ := h
  obtain ⟨t, rfl⟩ := rx
  obtain ⟨t', rfl⟩ := ry
  exact rule i j t t' s _ _ hc ⟨.int (g i j), H, I.tok _, ⟨_, rfl⟩, q⟩
theorem opI0 {f : Value → Value → Sem Value} {g : Int → Int → Int}
    (rule : ∀ (i j : Int) (t u : Tok) (s : Shared) (Q : Value → Shared → Prop) (E : Value → Shared → Prop), Q (.int (g i j) s.toks) { s with toks := s.toks + 1 } → wpAny (model X.prog X.w) X.A (f (.int i t) (.int j u)) Q E s) :
    OpR X f (rI0 fun i j => .int (g i j)) := by
  intro pins s σ H x y v u Q I rx ry h
  obtain ⟨i, j, rfl, rfl, q⟩ := h
  obtain ⟨t, rfl⟩ := rx
  obtain ⟨t', rfl⟩ := ry
  exact rule i j t t' s _ _ ⟨.int (g i j), H, I.tok _, ⟨_, rfl⟩, q⟩
theorem opB0 {f : Value → Value → Sem Value} {g : Int → Int → Bool}
    (rule : ∀ (i j : Int) (t u : Tok) (s : Shared) (Q : Value → Shared → Prop) (E : Value → Shared → Prop), Q (.bool (g i j)) s → wpAny (model X.prog X.w) X.A (f (.int i t) (.int j u)) Q E s) :
    OpR X f (rI0 fun i j => .bl (g i j)) := by
  intro pins s σ H x y v u Q I rx ry h
  obtain ⟨i, j, rfl, rfl, q⟩ := h
  obtain ⟨t, rfl⟩ := rx
  obtain ⟨t', rfl⟩ := ry
  exact rule i j t t' s _ _ ⟨.bl (g i j), H, I, rfl, q⟩
def CDiv (i j : Int) : Prop := 0 < j ∧ j < 1073741824
def CPow (i j : Int) : Prop := 0 ≤ j ∧ j ≤ 1000000 ∧ i.natAbs < 2 ^ 64
def CMul (i j : Int) : Prop := (-(2 ^ 64) < i ∧ i < 2 ^ 64) ∨ (-(2 ^ 64) < j ∧ j < 2 ^ 64)
theorem CMul.ok {i j : Int} (h : CMul i j) : IntMulOk i j := by
  rcases h with ⟨h1, h2⟩ | ⟨h1, h2⟩
  · exact .of_left (intBits_le_64 h1 h2)
  · exact .of_right (intBits_le_64 h1 h2)
theorem op_add : OpR X (binaryOp .Add) (rI0 fun i j => .int (i + j)) := opI0 fun _ _ _ _ _ _ _ q => add_int q
theorem op_sub : OpR X (binaryOp .Sub) (rI0 fun i j => .int (i - j)) := opI0 fun _ _ _ _ _ _ _ q => sub_int q
theorem op_mul : OpR X (binaryOp .Mult) (rI CMul fun i j => .int (i * j)) := opI fun _ _ _ _ _ _ _ hc q => mul_int q hc.ok
theorem op_fdiv : OpR X (binaryOp .FloorDiv) (rI CDiv fun i j => .int (i / j)) := opI fun i j _ _ _ _ _ hc q => by
  have h1 : (0 : Int) < j := hc.1
  have h2 : j < 1073741824 := hc.2
  exact floordiv_int (by omega) (by rw [Int.fdiv_eq_ediv_of_nonneg i (by omega)]; exact q) (.inl (PyProof.noPylong_small (by omega)))
theorem op_mod : OpR X (binaryOp .Mod) (rI (fun _ j => 0 < j) fun i j => .int (i % j)) := opI fun i j _ _ _ _ _ hc q => by
  have h1 : (0 : Int) < j := hc
  exact mod_int' (by omega) (by rw [Int.fmod_eq_emod_of_nonneg i (by omega)]; exact q)
theorem op_pow : OpR X (binaryOp .Pow) (rI CPow fun i j => .int (i ^ j.toNat)) := opI fun _ _ _ _ _ _ _ hc q => pow_int_small hc.1 hc.2.1 hc.2.2 q
end
def scal : V → V → Bool
  | .non, .non => true | .non, .int _ => true | .int _, .non => true | .non, .bl _ => true | .bl _, .non => true | .non, .str _ => true | .str _, .non => true
  | .int _, .int _ => true | .bl _, .bl _ => true | .str _, .str _ => true | .byt _, .byt _ => true
  | .int _, .str _ => true | .str _, .int _ => true | .bl _, .str _ => true | .str _, .bl _ => true
  | _, _ => false
def rEq : R2 := fun x y H Q => scal x y = true ∧ Q (.bl (decide (x = y))) H
def rNe : R2 := fun x y H Q => scal x y = true ∧ Q (.bl (!decide (x = y))) H
theorem dec_int {i j : Int} : decide (V.int i = V.int j) = (i == j) := by
  rw [Bool.eq_iff_iff]
  simp
theorem dec_bl {i j : Bool} : decide (V.bl i = V.bl j) = (i == j) := by
  rw [Bool.eq_iff_iff]
  simp
theorem dec_str {i j : Str} : decide (V.str i = V.str j) = (i == j) := by
  rw [Bool.eq_iff_iff]
  simp
theorem dec_byt {i j : Array UInt8} : decide (V.byt i = V.byt j) = (i.toList == j.toList) := by
  rw [Bool.eq_iff_iff]
  cases i
  cases j
  simp
section
variable {X : Cx} {a b c : Expr} {ta tb tc : TE} {pos : Pos}
theorem fin_bl {pins : List (Addr × Obj)} {σ : St} {H : Hp} {s : Shared} {Q : VK} {k k' : Bool} (I : Inv X pins σ H s) (q : Q (.bl k) H) (e : k = k') : EP X pins σ Q (.bool k') s := by
  subst e
  exact ⟨.bl k, H, I, rfl, q⟩
theorem op_eq : OpR X (compareOp .Eq) rEq := by
  intro pins s σ H x y v u Q I rx ry h
  obtain ⟨hs, q⟩ := h
  cases x with
  | non =>
    cases rx
    cases y with
    | non => cases ry; exact PySem.EqNone.eq_none_none (fin_bl I q (by simp))
    | bl j => cases ry; exact PySem.EqNone.eq_none_bool (fin_bl I q (by simp))
    | int j => obtain ⟨t', rfl⟩ := ry; exact PySem.EqNone.eq_none_int (fin_bl I q (by simp))
    | str j => obtain ⟨t', rfl⟩ := ry; exact PySem.EqNone.eq_none_str (fin_bl I q (by simp))
    | _ => exact absurd (show false = true from hs) Bool.false_ne_true
  | bl i =>
    cases rx
    cases y with
    | non => cases ry; exact PySem.EqNone.eq_bool_none (fin_bl I q (by simp))
    | bl j => cases ry; exact eq_bool (fin_bl I q dec_bl)
    | str j => obtain ⟨t', rfl⟩ := ry; exact PySem.EqMixed.eq_bool_str (fin_bl I q (by simp))
    | _ => exact absurd (show false = true from hs) Bool.false_ne_true
  | int i =>
    obtain ⟨t, rfl⟩ := rx
    cases y with
    | non => cases ry; exact PySem.EqNone.eq_int_none (fin_bl I q (by simp))
    | int j => obtain ⟨t', rfl⟩ := ry; exact eq_int (fin_bl I q dec_int)
    | str j => obtain ⟨t', rfl⟩ := ry; exact PySem.EqMixed.eq_int_str (fin_bl I q (by simp))
    | _ => exact absurd (show false = true from hs) Bool.false_ne_true
  | str i =>
    obtain ⟨t, rfl⟩ := rx
    cases y with
    | non => cases ry; exact PySem.EqNone.eq_str_none (fin_bl I q (by simp))
    | bl j => cases ry; exact PySem.EqMixed.eq_str_bool (fin_bl I q (by simp))
    | int j => obtain ⟨t', rfl⟩ := ry; exact PySem.EqMixed.eq_str_int (fin_bl I q (by simp))
    | str j => obtain ⟨t', rfl⟩ := ry; exact eq_str (fin_bl I q dec_str)
    | _ => exact absurd (show false = true from hs) Bool.false_ne_true
  | byt i =>
    obtain ⟨t, rfl⟩ := rx
    cases y with
    | byt j => obtain ⟨t', rfl⟩ := ry; exact PySem.W.eq_bytes (fin_bl I q dec_byt)
    | _ => exact absurd (show false = true from hs) Bool.false_ne_true
  | _ => cases y <;> exact absurd (show false = true from hs) Bool.false_ne_true
theorem op_ne : OpR X (compareOp .NotEq) rNe := by
  intro pins s σ H x y v u Q I rx ry h
  obtain ⟨hs, q⟩ := h
  cases x with
  | non =>
    cases rx
    cases y with
    | non => cases ry; exact PySem.EqNone.ne_none_none (fin_bl I q (by simp))
    | bl j => cases ry; exact PySem.EqNone.ne_none_bool (fin_bl I q (by simp))
    | int j => obtain ⟨t', rfl⟩ := ry; exact PySem.EqNone.ne_none_int (fin_bl I q (by simp))
    | str j => obtain ⟨t', rfl⟩ := ry; exact PySem.EqNone.ne_none_str (fin_bl I q (by simp))
    | _ => exact absurd (show false = true from hs) Bool.false_ne_true
  | bl i =>
    cases rx
    cases y with
    | non => cases ry; exact PySem.EqNone.ne_bool_none (fin_bl I q (by simp))
    | bl j => cases ry; exact ne_bool (fin_bl I q (congrArg not dec_bl))
    | str j => obtain ⟨t', rfl⟩ := ry; exact PySem.EqMixed.ne_bool_str (fin_bl I q (by simp))
    | _ => exact absurd (show false = true from hs) Bool.false_ne_true
  | int i =>
    obtain ⟨t, rfl⟩ := rx
    cases y with
    | non => cases ry; exact PySem.EqNone.ne_int_none (fin_bl I q (by simp))
    | int j => obtain ⟨t', rfl⟩ := ry; exact ne_int (fin_bl I q (congrArg not dec_int))
    | str j => obtain ⟨t', rfl⟩ := ry; exact PySem.EqMixed.ne_int_str (fin_bl I q (by simp))
    | _ => exact absurd (show false = true from hs) Bool.false_ne_true
  | str i =>
    obtain ⟨t, rfl⟩ := rx
    cases y with
    | non => cases ry; exact PySem.EqNone.ne_str_none (fin_bl I q (by simp))
    | bl j => cases ry; exact PySem.EqMixed.ne_str_bool (fin_bl I q (by simp))
    | int j => obtain ⟨t', rfl⟩ := ry; exact PySem.EqMixed.ne_str_int (fin_bl I q (by simp))
    | str j => obtain ⟨t', rfl⟩ := ry; exact ne_str (fin_bl I q (congrArg not dec_str))
    | _ => exact absurd (show false = true from hs) Bool.false_ne_true
  | byt i =>
    obtain ⟨t, rfl⟩ := rx
    cases y with
    | byt j => obtain ⟨t', rfl⟩ := ry; exact PySem.W.ne_bytes (fin_bl I q (congrArg not dec_byt))
    | _ => exact absurd (show false = true from hs) Bool.false_ne_true
  | _ => cases y <;> exact absurd (show false = true from hs) Bool.false_ne_true
theorem op_lt : OpR X (compareOp .Lt) (rI0 fun i j => .bl (decide (i < j))) := opB0 fun _ _ _ _ _ _ _ q => lt_int q
theorem op_gt : OpR X (compareOp .Gt) (rI0 fun i j => .bl (decide (j < i))) := opB0 fun _ _ _ _ _ _ _ q => gt_int q
theorem op_ge : OpR X (compareOp .GtE) (rI0 fun i j => .bl (decide (j ≤ i))) := opB0 fun _ _ _ _ _ _ _ q => ge_int q
theorem nomark (b : Expr) {op : CmpOp} (h : op ≠ .In := by decide) (h2 : op ≠ .NotIn := by decide) : behindInMarks op b = false := by
  have e1 : (op == CmpOp.In) = false := by cases op <;> first | rfl | exact absurd rfl h
  have e2 : (op == CmpOp.NotIn) = false := by cases op <;> first | rfl | exact absurd rfl h2
  cases b <;> simp [behindInMarks, e1, e2]
theorem pe_cmpR {op : CmpOp} {r : R2} (ho : OpR X (compareOp op) r) (ha : PE X a ta) (hb : PE X b tb) (hm : behindInMarks op b = false) : PE X (.Compare a [op] [b] pos) (tOp r ta tb) := by
  intro pins s σ H Q I h
  exact wpAny_Compare1 (binT ha hb I h fun v u s2 x y H2 I2 rx ry q => ho pins s2 σ H2 x y v u Q I2 rx ry q) hm
def tTest (t : TE) : TT := fun σ H Q => t σ H fun x H' => ∃ k, x = .bl k ∧ Q k H'
theorem pt_cmpR {op : CmpOp} {r : R2} (ho : OpR X (compareOp op) r) (ha : PE X a ta) (hb : PE X b tb) (hm : behindInMarks op b = false) : PT X (.Compare a [op] [b] pos) (tTest (tOp r ta tb)) := by
  intro pins s σ H Q I h
  refine wpAny_isTrue_Compare1 (thn (ha pins s σ H _ I h) fun v s1 ⟨x, H1, I1, r1, q1⟩ => thn (hb pins s1 σ H1 _ I1 q1) fun u s2 ⟨y, H2, I2, r2, q2⟩ =>
    thn (ho pins s2 σ H2 x y v u _ I2 r1 r2 q2) fun c s3 ⟨z, H3, I3, r3, k, e, q3⟩ => ?_) hm
  subst e
  cases r3
  exact wpAny_truthy_bool ⟨H3, I3, q3⟩
theorem line63 : (sizeLine : Nat) < 2 ^ 63 := by rw [sizeLine_eq]; decide
theorem vals1 {x : V} {us : List Value} (r : Vals [x] us) : ∃ u, us = [u] ∧ RelV x u := by
  cases r with
  | cons r1 r2 => cases r2; exact ⟨_, rfl, r1⟩
theorem vals2 {x y : V} {us : List Value} (r : Vals [x, y] us) : ∃ u w', us = [u, w'] ∧ RelV x u ∧ RelV y w' := by
  cases r with
  | cons r1 r2 =>
    cases r2 with
    | cons r3 r4 => cases r4; exact ⟨_, _, rfl, r1, r3⟩
theorem call_max2 (hc : X.calm = true) : CallR X (.builtin "max") (fun xs H Q => ∃ i j, xs = [.int i, .int j] ∧ Q (.int (if j > i then j else i)) H) := by
  intro pins s σ H xs us Q I r h
  obtain ⟨i, j, rfl, q⟩ := h
  obtain ⟨u, w', rfl, ⟨t, rfl⟩, ⟨t', rfl⟩⟩ := vals2 r
  refine max_two_ints (I.ok.hd hc) fun h' tk k => ⟨_, H, I.kept k, ?_, q⟩
  by_cases hj : j > i
  · rw [if_pos hj, if_pos hj]; exact ⟨_, rfl⟩
  · rw [if_neg hj, if_neg hj]; exact ⟨_, rfl⟩
theorem call_min2 (hc : X.calm = true) : CallR X (.builtin "min") (fun xs H Q => ∃ i j, xs = [.int i, .int j] ∧ Q (.int (if j < i then j else i)) H) := by
  intro pins s σ H xs us Q I r h
  obtain ⟨i, j, rfl, q⟩ := h
  obtain ⟨u, w', rfl, ⟨t, rfl⟩, ⟨t', rfl⟩⟩ := vals2 r
  refine min_two_ints (I.ok.hd hc) fun h' tk k => ⟨_, H, I.kept k, ?_, q⟩
  by_cases hj : j < i
  · rw [if_pos hj, if_pos hj]; exact ⟨_, rfl⟩
  · rw [if_neg hj, if_neg hj]; exact ⟨_, rfl⟩
end
end L2
namespace L2
open PySem PySem.Spec PyProof.Rows
structure ObjM (h : Heap) (x dx C : Addr) (mA : Str → Option Value) : Prop where
  obj : h.get? x = some (PySem.W.instObj C dx)
  ns : h.Ns1 dx mA
  ne : dx ≠ x
theorem lookIn_ns {h : Heap} {dx : Addr} {mA : Str → Option Value} (n : h.Ns1 dx mA) : ∃ od, h.get? dx = some od ∧ ∀ name, PySem.W.lookIn name od = some (mA name) := by
  obtain ⟨o, es, ep, ho, hd, hk, _, hm⟩ := n
  refine ⟨o, ho, fun name => ?_⟩
  have e := hm name
  unfold nsFind findBy at e
  rw [← Array.find?_toList] at e
  unfold PySem.W.lookIn
  rw [hd]
  dsimp only
  split
  · rename_i y q
    rw [q] at e
    exact congrArg some e
  · rename_i q
    rw [q] at e
    have a : es.toList.any (·.refKey) = false := by
      rw [List.any_eq_false]
      intro y hy
      obtain ⟨z, t, hkey⟩ := hk y (Array.mem_toList_iff.mp hy)
      simp [DictEntry.refKey, hkey]
    have a' : ¬ es.toList.any (·.refKey) = true := by rw [a]; exact Bool.false_ne_true
    rw [if_neg a']
    exact congrArg some e
theorem ObjM.look {h : Heap} {x dx C : Addr} {mA : Str → Option Value} (I : ObjM h x dx C mA) : ∃ od, PySem.W.InstAt h x (PySem.W.instObj C dx) C (some od) ∧ ∀ name, PySem.W.lookIn name od = some (mA name) :=
  let ⟨od, ho, hl⟩ := lookIn_ns I.ns
  ⟨od, ⟨I.obj, rfl, rfl, ho⟩, hl⟩
section
variable {prog : Program} {w : World} {A : Around} {E : Value → Shared → Prop} {s : Shared} {K : PySem.W.Frag} {x dx C f : Addr} {mA : Str → Option Value} {name : Str} {v : Value}
end
section
variable {P : Program} {w : World} {H H' : Hp} {h h' : Heap} {a C dx : Addr} {fs fs' : List (Str × V)}
theorem ins_get (hok : HOk P w H h) (e : H a = some (.ins C dx fs)) : ∃ mA, ObjM h a dx C mA ∧ (∀ f, RelO (fs.lookup f) (mA f)) ∧ PySem.Within mA (fs.map (·.1)) ∧ fs.length ≤ 1000 ∧ H dx = some (.own a) := by
  obtain ⟨d, z, ne, ob, mA, n, r, q⟩ := (show ObjOk P w H h a (.ins C dx fs) from hok a _ e)
  exact ⟨mA, ⟨ob, n, ne⟩, r, q, z, d⟩
end
structure Cls (K : PySem.W.Frag) (C : Addr) : Prop where
  pg : PySem.W.plainGet K C Str.empty = true
  hd : PySem.W.hasDictIn K C = true
  po : PySem.W.plainOver K C = true
  sa : PySem.W.findIn K (.ref C) "__setattr__" = some (some (.builtin "object.__setattr__"))
theorem Cls.get {K : PySem.W.Frag} {C : Addr} (c : Cls K C) (f : Str) : PySem.W.plainGet K C f = true := c.pg
section
variable {X : Cx} {pins : List (Addr × Obj)} {σ : St} {H : Hp} {s : Shared} {a C dx : Addr} {fs : List (Str × V)} {f : Str} {v : V} {A : Around} {E : Value → Shared → Prop}
end
section
variable {X : Cx} {o e value : Expr} {f : Str} {pos pos' tpos : Pos} {ta tv : TE}
end
section
variable {X : Cx} {pins : List (Addr × Obj)} {σ : St} {H : Hp} {s : Shared} {A : Around} {E : Value → Shared → Prop} {Q : Value → Shared → Prop} {c : Value} {b : Bool}
inductive TyOf (K : PySem.W.Frag) (H : Hp) : V → Value → Prop where
  | non : TyOf K H .non (.type "NoneType")
  | bl (x : Bool) : TyOf K H (.bl x) (.type "bool")
  | int (i : Int) : TyOf K H (.int i) (.type "int")
  | str (x : Str) : TyOf K H (.str x) (.type "str")
  | flt (x : UInt64) : TyOf K H (.flt x) (.type "float")
  | lst {a : Addr} {xs : List V} (e : H a = some (.lst xs)) : TyOf K H (.ref a) (.type "list")
  | frz {a : Addr} {o : Obj} {xs : List V} (e : H a = some (.frz o (.lst xs))) : TyOf K H (.ref a) (.type "list")
  | tup {a : Addr} {xs : List V} (e : H a = some (.tup xs)) : TyOf K H (.ref a) (.type "tuple")
  | dK {a : Addr} {kvs : List (Key × V)} (e : H a = some (.dK kvs)) : TyOf K H (.ref a) (.type "dict")
  | dT {a : Addr} {kvs : List (List Key × V)} (e : H a = some (.dT kvs)) : TyOf K H (.ref a) (.type "dict")
  | ins {a C dx : Addr} {fs : List (Str × V)} (e : H a = some (.ins C dx fs)) (cl : Cls K C) (ha : PySem.W.findIn K (.ref C) "__class__" = some (some (.builtin "object.__class__")))
      (hn : PySem.W.specialIn K (.builtin "object.__class__") "__get__" = some (some (.builtin "getset_descriptor.__get__"))) (htk : PySem.W.takesIn K (.builtin "object.__class__") = some true)
      (hm : PySem.W.mroIn K C (.type "object") = some true) : TyOf K H (.ref a) (.ref C)
theorem isinst_ok {x : V} {u t : Value} (I : Inv X pins σ H s) (rx : RelV x u) (ty : TyOf X.K H x t) (e : PySem.W.kitOne X.K t c = some b) (h : ∀ tk, Q (.bool b) { s with toks := tk }) :
    wpAny (model X.prog X.w) A (call (.builtin "isinstance") [u, c]) Q E s := by
  cases ty with
  | non => cases (show u = Value.none from rx); exact PySem.W.kia_one PySem.W.kitx_none I.kIn True.intro e (fun z => nomatch z) h
  | bl y => cases (show u = Value.bool y from rx); exact PySem.W.kia_one PySem.W.kitx_bool I.kIn True.intro e (fun z => nomatch z) h
  | int i => obtain ⟨t, q⟩ := (show ∃ t, u = Value.int i t from rx); cases q; exact PySem.W.kia_one PySem.W.kitx_int I.kIn True.intro e (fun z => nomatch z) h
  | str y => obtain ⟨t, q⟩ := (show ∃ t, u = Value.str y t from rx); cases q; exact PySem.W.kia_one PySem.W.kitx_str I.kIn True.intro e (fun z => nomatch z) h
  | flt y => obtain ⟨t, q⟩ := (show ∃ t, u = Value.float y t from rx); cases q; exact PySem.W.kia_one PySem.W.kitx_float I.kIn True.intro e (fun z => nomatch z) h
  | @lst a xs ea =>
    cases (show u = Value.ref a from rx)
    obtain ⟨_, _, n, _, h1⟩ := (show ObjOk X.prog X.w H s.heap a (.lst xs) from I.hok a _ ea)
    exact PySem.W.kia_one PySem.W.kitx_list I.kIn ⟨_, h1, rfl⟩ e (fun z => nomatch z) h
  | @frz a ob xs ea =>
    cases (show u = Value.ref a from rx)
    obtain ⟨_, _, _, n, _, h1⟩ := (show ObjOk X.prog X.w H s.heap a (.frz ob (.lst xs)) from I.hok a _ ea)
    exact PySem.W.kia_one PySem.W.kitx_list I.kIn ⟨_, h1, rfl⟩ e (fun z => nomatch z) h
  | @tup a xs ea =>
    cases (show u = Value.ref a from rx)
    obtain ⟨_, _, _, p⟩ := (show ObjOk X.prog X.w H s.heap a (.tup xs) from I.hok a _ ea)
    obtain ⟨o, h1, h2, _⟩ := p
    exact PySem.W.kia_one PySem.W.kitx_tuple I.kIn ⟨o, h1, h2⟩ e (fun z => nomatch z) h
  | @dK a kvs ea =>
    cases (show u = Value.ref a from rx)
    obtain ⟨_, _, vs, _, p⟩ := (show ObjOk X.prog X.w H s.heap a (.dK kvs) from I.hok a _ ea)
    obtain ⟨o, es, ep, h1, h2, _⟩ := p
    exact PySem.W.kia_one PySem.W.kitx_dict I.kIn ⟨o, h1, h2.1⟩ e (fun z => nomatch z) h
  | @dT a kvs ea =>
    cases (show u = Value.ref a from rx)
    obtain ⟨_, _, xs, _, o, es, ep, h1, h2, _⟩ := (show ObjOk X.prog X.w H s.heap a (.dT kvs) from I.hok a _ ea)
    exact PySem.W.kia_one PySem.W.kitx_dict I.kIn ⟨o, h1, h2.1⟩ e (fun z => nomatch z) h
  | @ins a C dx fs ea cl ha hn htk hm =>
    cases (show u = Value.ref a from rx)
    obtain ⟨mA, O, _⟩ := ins_get I.hok ea
    obtain ⟨od, J, _⟩ := O.look
    exact PySem.W.kia_one (PySem.W.kitx_own (cl.get _) cl.hd ha hn htk hm) I.kIn J e (fun z => nomatch z) h
end
end L2
namespace L2
open PySem PySem.Spec PyProof.Rows
structure Room (k : Nat) (A : Around) : Prop where
  hd : A.handled = none
  dp : A.depth + 3 * k + 5 < recursionLimit
  un : A.units + 16 * k + 200 < cLine
  gd : A.guards = some []
theorem Room.mono {j k : Nat} {A : Around} (r : Room k A) (h : j ≤ k) : Room j A := ⟨r.hd, by have := r.dp; omega, by have := r.un; omega, r.gd⟩
theorem Room.deeper {k : Nat} {A : Around} (r : Room (k + 1) A) (env : Env) : Room k (A.deeper env) :=
  ⟨r.hd, by have := r.dp; show A.depth + 1 + 3 * k + 5 < _; omega, by have := r.un; show A.units + 3 + 16 * k + 200 < _; omega, r.gd⟩
theorem Room.depth {k : Nat} {A : Around} (r : Room k A) : A.depth < recursionLimit := by have := r.dp; omega
theorem Room.units {k : Nat} {A : Around} (r : Room k A) : A.units + 64 < cLine := by have := r.un; omega
def tNil : TA := fun _ H Q => Q [] H
def tCons (ta : TE) (tr : TA) : TA := fun σ H Q => ta σ H fun x H1 => tr σ H1 fun xs H2 => Q (x :: xs) H2
section
variable {X : Cx} {e : Expr} {es : List Expr} {te : TE} {t : TA} {pos : Pos}
theorem pa_nil : PA X [] tNil := fun _ _ _ _ H Q I h => Calls.spliced_nil ⟨[], H, I, .nil, h⟩
theorem pa_cons (ha : PE X e te) (hr : PA X es t) (hs : starEach (e :: es) X.env = (false, eval e X.env) :: starEach es X.env := by rfl) : PA X (e :: es) (tCons te t) := by
  intro pos pins s σ H Q I h
  rw [hs]
  show wpAny _ _ (spliced ((false, eval e X.env) :: backTo pos (starEach es X.env))) _ _ s
  refine Calls.spliced_cons (thn (ha pins s σ H _ I h) fun u s1 ⟨x, H1, I1, r1, q1⟩ => ?_)
  exact thn (hr pos pins s1 σ H1 _ I1 q1) fun us s2 ⟨xs, H2, I2, r2, q2⟩ => ⟨x :: xs, H2, I2, .cons r1 r2, q2⟩
def tLst (t : TA) : TE := fun σ H Q => t σ H fun xs H1 => xs.length ≤ sizeLine ∧ ∀ p, H1 p = none → Q (.ref p) (upd H1 p (.lst xs))
theorem pe_lst (h : PA X es t) : PE X (.List es pos) (tLst t) := by
  intro pins s σ H Q I hq
  refine wpAny_List_spliced (thn (h pos pins s σ H _ I hq) fun us s1 ⟨xs, H1, I1, r, z, q⟩ => ⟨by rw [← r.length]; exact z, ?_⟩)
  have hf : H1 s1.heap.objs.size = none := I1.hok.fresh (Nat.le_refl _)
  refine ⟨.ref s1.heap.objs.size, upd H1 s1.heap.objs.size (.lst xs), I1.laid (t' := s1.toks) (fun b u e => Heap.get?_push_of_some _ e) (Nat.le_refl _) ?_, rfl, q _ hf⟩
  exact ⟨z, us, 0, r, Heap.get?_push_size _ rfl⟩
end
abbrev Sp := List V → Hp → VK → XK → Prop
abbrev CXT := List Env → Hp → Shared → XK → Value → Shared → Prop
structure Env0 (P : Program) (w : World) (K : PySem.W.Frag) (mg : Str → Option Value) (base : Heap) (A : Around) (outer : List Env) (s : Shared) (H : Hp) : Prop where
  frames : A.frames = some outer
  mod : Mod K mg base
  bs : ∀ b o, base.get? b = some o → s.heap.get? b = some o ∧ H b = none
  bsz : base.objs.size ≤ s.heap.objs.size
  funs : s.heap.FunFrames base outer
  frf : ∀ b ∈ frs outer, H b = none
  hok : HOk P w H s.heap
  bare : AllBare s.gens
def CE (outer : List Env) (P : Program) (w : World) (H : Hp) (s : Shared) (Q : VK) (u : Value) (s' : Shared) : Prop :=
  ∃ v H', s'.os = s.os ∧ AllBare s'.gens ∧ Un (frs outer) [] H H' s.heap s'.heap ∧ HOk P w H' s'.heap ∧ RelV v u ∧ Q v H'
def CR (CX : CXT) (outer : List Env) (P : Program) (w : World) (H : Hp) (s : Shared) (Q : VK) (E : XK) (r : Result) (s' : Shared) : Prop :=
  match r with
  | .ok (.ret u) => CE outer P w H s Q u s'
  | .ok _ => False
  | .error e => CX outer H s E e s'
structure FnOk (P : Program) (w : World) (K : PySem.W.Frag) (mg : Str → Option Value) (base : Heap) (CX : CXT) (k : Nat) (f : Addr) (fd : FuncData) (ps : List Str) (sp : Sp) : Prop where
  len : ∀ vs H Q E, sp vs H Q E → vs.length = ps.length
  run : ∀ (A : Around) (outer : List Env) (s : Shared) (H : Hp) (args : Args) (us : List Value) (vs : List V) (Q : VK) (E : XK), Room k A → Env0 P w K mg base A outer s H → BindsTo s fd args (ps.zip us) → Vals vs us → sp vs H Q E →
    codeAny (model P w) A (.call (.ref f) args) (CR CX outer P w H s Q E) s
section
variable {X : Cx} {pins : List (Addr × Obj)} {σ : St} {H : Hp} {s s' : Shared}
theorem Inv.env0 (I : Inv X pins σ H s) : Env0 X.prog X.w X.K X.mg X.base X.A X.stack s H :=
  ⟨I.ok.frames, I.ok.mod, I.bs, Nat.le_trans I.ok.bsz I.sz, I.stack, I.stkFree, I.hok, I.bare⟩
theorem Inv.after {Q : VK} {u : Value} (I : Inv X pins σ H s) (h : CE X.stack X.prog X.w H s Q u s') : EP X pins σ Q u s' := by
  obtain ⟨v, H', os, bare, un, hok, r, q⟩ := h
  obtain ⟨hh, g, d, t, os'⟩ := s'
  obtain rfl : os' = s.os := os
  exact ⟨v, H', I.call (h' := hh) (g' := g) (d' := d) (t' := t) (ch := []) un hok bare (fun b z => absurd z (by simp)), r, q⟩
end
def tCall (sp : Sp) (dvs : List V) (E : XK) (t : TA) : TE := fun σ H Q => t σ H fun vs H1 => sp (vs ++ dvs) H1 Q E
def Binds (K : PySem.W.Frag) (fd : FuncData) (ps : List Str) (ds : List Value) : Prop :=
  ∀ (s : Shared) (us : List Value), K.In s.heap → (us ++ ds).length = ps.length → BindsTo s fd ⟨us, []⟩ (ps.zip (us ++ ds))
theorem Binds.all {K : PySem.W.Frag} {fd : FuncData} {ps : List Str} (h : ∀ us : List Value, us.length = ps.length → bindArgs fd ⟨us, []⟩ = pure (ps.zip us)) : Binds K fd ps [] := fun s us _ hl => by
  rw [List.append_nil] at hl ⊢
  exact .of_eq (h us hl)
def Passes (CX : CXT) (X : Cx) (E : XK) : Prop := ∀ (pins : List (Addr × Obj)) (σ : St) (H : Hp) (s : Shared) (e : Value) (s' : Shared), Inv X pins σ H s → CX X.stack H s E e s' → X.xe e s'
section
variable {X : Cx} {CX : CXT} {k : Nat} {f C : Addr} {fd : FuncData} {ps : List Str} {sp : Sp} {dvs : List V} {ds : List Value} {E : XK} {x m : Str} {p pos apos : Pos} {e o : Expr} {es : List Expr} {ta : TE} {t : TA}
theorem run_fn {pins : List (Addr × Obj)} {σ : St} {H : Hp} {s : Shared} {Q : VK} {us : List Value} {vs : List V} (F : FnOk X.prog X.w X.K X.mg X.base CX k f fd ps sp) (hr : Room k X.A) (hb : Binds X.K fd ps ds) (hd : Vals dvs ds) (hx : Passes CX X E)
    (I : Inv X pins σ H s) (r : Vals vs us) (h : sp (vs ++ dvs) H Q E) : wpAny (model X.prog X.w) X.A (call (.ref f) us) (EP X pins σ Q) X.xe s := by
  have r2 : Vals (vs ++ dvs) (us ++ ds) := r.append hd
  have hl : (us ++ ds).length = ps.length := by rw [← r2.length]; exact F.len _ _ _ _ h
  refine wpAny_call (codeAny_mono (F.run X.A X.stack s H ⟨us, []⟩ (us ++ ds) (vs ++ dvs) Q E hr I.env0 (hb s us I.kIn hl) r2 h) fun r s' hq => ?_)
  cases r with
  | error e => exact hx pins σ H s e s' I hq
  | ok fl =>
    cases fl with
    | ret u => exact I.after hq
    | next => exact False.elim hq
    | brk => exact False.elim hq
    | cont => exact False.elim hq
theorem pe_call (F : FnOk X.prog X.w X.K X.mg X.base CX k f fd ps sp) (hr : Room k X.A) (hg : Gl X x) (hm : X.mg x = some (.ref f)) (hk : PySem.W.keepIn X.K (.ref f) = true) (hb : Binds X.K fd ps ds) (hd : Vals dvs ds) (hx : Passes CX X E)
    (ha : PA X (e :: es) t) (hdb : (x == ("__debug__" : Str)) = false := by decide) (he : starEach (e :: es) X.env = (false, eval e X.env) :: starEach es X.env := by rfl) (hpl : (backTo pos (starEach es X.env)).any (·.1) = false := by rfl) :
    PE X (.Call (.Name x p) (e :: es) [] pos) (tCall sp dvs E t) := by
  intro pins s σ H Q I h
  refine wpAny_Call_Name_kw (ld_glob I hg hm ?_ hdb)
  refine PySem.W.callWith_K (h₀ := X.base) I.ok.mod.kin hk (thn (ha pos pins s σ H _ I h) fun us s1 ⟨vs, H1, I1, r, q⟩ => ⟨I1.kIn, ?_⟩) he hpl
  exact run_fn F hr hb hd hx I1 r q
end
section
variable {X : Cx} {CX : CXT} {k : Nat} {f C : Addr} {fd : FuncData} {ps ks : List Str} {sp : Sp} {E : XK} {x m : Str} {p pos apos kpos : Pos} {e o : Expr} {es : List Expr} {kws : List Keyword} {te ta : TE} {t tk : TA} {nm : Option Str}
variable {g : List Value → List Value → List Value} {gV : List V → List V → List V}
end
structure FnScope (N P : List Str) (sc : Scope) : Prop where
  kind : sc.kind = .function
  co : sc.isCoroutine = false
  gen : sc.isGenerator = false
  nd : N.Nodup
  pre : N.take P.length = P
  par : ∀ x ∈ P, sc.names.lookup x = some .local ∨ sc.names.lookup x = some .cell
  nofree : ∀ y ∈ sc.names, y.2 ≠ .free
theorem bindL_out {kindOf : Str → Option NameKind} {x : Str} : ∀ {binds : List (Str × Value)} {m : Str → Option Value}, (∀ v, (x, v) ∉ binds) → bindL kindOf binds m x = m x
  | [], _, _ => rfl
  | (n, v) :: r, m, h => by
    unfold bindL
    rw [bindL_out fun w hw => h w (List.mem_cons_of_mem _ hw)]
    split
    · have : x ≠ n := by rintro rfl; exact h v List.mem_cons_self
      simp [this]
    · rfl
theorem bindC_out {kindOf : Str → Option NameKind} {x : Str} : ∀ {binds : List (Str × Value)} {m : Str → Option Value}, (∀ v, (x, v) ∉ binds) → bindC kindOf binds m x = m x
  | [], _, _ => rfl
  | (n, v) :: r, m, h => by
    unfold bindC
    rw [bindC_out fun w hw => h w (List.mem_cons_of_mem _ hw)]
    split
    · rfl
    · have : x ≠ n := by rintro rfl; exact h v List.mem_cons_self
      simp [this]
theorem bindL_get {kindOf : Str → Option NameKind} {x : Str} {v : Value} : ∀ {P : List Str} {vs : List Value} {i : Nat} {m : Str → Option Value}, P.Nodup → P[i]? = some x → vs[i]? = some v → kindOf x = some .local →
    bindL kindOf (P.zip vs) m x = some v
  | [], _, _, _, _, h, _, _ => by simp at h
  | _ :: _, [], _, _, _, _, h, _ => by simp at h
  | p :: P, w :: vs, 0, m, nd, h1, h2, hk => by
    simp at h1 h2; subst h1; subst h2
    show bindL kindOf ((p, w) :: P.zip vs) m p = _
    unfold bindL
    rw [bindL_out fun v hv => (List.nodup_cons.mp nd).1 (List.of_mem_zip hv).1, if_pos hk]
    simp
  | p :: P, w :: vs, i + 1, m, nd, h1, h2, hk => by
    show bindL kindOf ((p, w) :: P.zip vs) m x = _
    unfold bindL
    exact bindL_get (i := i) (List.nodup_cons.mp nd).2 (by simpa using h1) (by simpa using h2) hk
theorem bindC_get {kindOf : Str → Option NameKind} {x : Str} {v : Value} : ∀ {P : List Str} {vs : List Value} {i : Nat} {m : Str → Option Value}, P.Nodup → P[i]? = some x → vs[i]? = some v → kindOf x ≠ some .local →
    bindC kindOf (P.zip vs) m x = some v
  | [], _, _, _, _, h, _, _ => by simp at h
  | _ :: _, [], _, _, _, _, h, _ => by simp at h
  | p :: P, w :: vs, 0, m, nd, h1, h2, hk => by
    simp at h1 h2; subst h1; subst h2
    show bindC kindOf ((p, w) :: P.zip vs) m p = _
    unfold bindC
    rw [bindC_out fun v hv => (List.nodup_cons.mp nd).1 (List.of_mem_zip hv).1, if_neg hk]
    simp
  | p :: P, w :: vs, i + 1, m, nd, h1, h2, hk => by
    show bindC kindOf ((p, w) :: P.zip vs) m x = _
    unfold bindC
    exact bindC_get (i := i) (List.nodup_cons.mp nd).2 (by simpa using h1) (by simpa using h2) hk
def start (N : List Str) (vs : List V) : St := vs.map some ++ List.replicate (N.length - vs.length) none
def cxOf (CX : CXT) (P : Program) (w : World) (K : PySem.W.Frag) (mg : Str → Option Value) (base : Heap) (N : List Str) (qual : Str) (scope : Scope) (f : Addr) (cd : Value) (A : Around) (outer : List Env) (s : Shared) (H : Hp) (E : XK) : Cx where
  prog := P
  w := w
  K := K
  mg := mg
  base := base
  A := A.deeper (envOfC qual scope s.heap.objs.size f cd)
  N := N
  s₀ := s
  H₀ := H
  env := envOfC qual scope s.heap.objs.size f cd
  outer := outer
  stack := envOfC qual scope s.heap.objs.size f cd :: outer
  ex := []
  calm := true
  fn := fun _ => true
  pn := []
  xe := fun e s' => wpAny (model P w) (A.deeper (envOfC qual scope s.heap.objs.size f cd)) (leaving (envOfC qual scope s.heap.objs.size f cd) e) (fun _ s'' => CX outer H s E e s'') (fun e' s'' => CX outer H s E e' s'') s'
theorem cell_has {sc : Scope} {n : Nat} {x : Str} (h : sc.names.lookup x = some .cell) : ∃ c, (cellsFrom n sc.names []).lookup x = some c := by
  have q := PySem.W.cellsFrom_some sc.names n [] (.inl h)
  exact Option.isSome_iff_exists.mp q
theorem inv_start {CX : CXT} {P : Program} {w : World} {K : PySem.W.Frag} {mg : Str → Option Value} {base : Heap} {N ps : List Str} {qual : Str} {scope : Scope} {f : Addr} {cd : Value} {A : Around} {outer : List Env} {s s1 : Shared} {H : Hp} {E : XK} {us : List Value} {vs : List V}
    (S : FnScope N ps scope) (hd : A.handled = none) (e0 : Env0 P w K mg base A outer s H) (hl : vs.length = ps.length) (r : Vals vs us)
    (x : InCallC s s.heap.objs.size (bindL (envOfC qual scope s.heap.objs.size f cd).kindOf (ps.zip us) fun _ => none) (cellsFrom (s.heap.objs.size + 1) scope.names []) (bindC (envOfC qual scope s.heap.objs.size f cd).kindOf (ps.zip us) fun _ => none) s1) :
    Inv (cxOf CX P w K mg base N qual scope f cd A outer s H E) [] (start N vs) H s1 := by
  have hpl : ps.length ≤ N.length := by have := congrArg List.length S.pre; rw [List.length_take] at this; omega
  obtain ⟨h1, tk, rfl, hk⟩ := x.done
  have noA : ∀ b : Addr, b ∉ (cxOf CX P w K mg base N qual scope f cd A outer s H E).ex := fun b z => absurd (show b ∈ ([] : List Addr) from z) (by simp)
  refine ⟨⟨e0.mod, S.kind, rfl, rfl, Nat.le_refl _, fun y z c h1 h2 => ?_, fun y hy => ?_, fun y c _ h => ?_, fun _ => hd, Around.frames_deeper e0.frames, .inr ⟨rfl, rfl⟩, fun b z => absurd z (noA b), e0.bs, e0.bsz, fun b _ _ => noA b, fun b z => absurd z (noA b), e0.funs, e0.frf⟩,
    rfl, e0.bare, Un.kept hk, ⟨_, x.toInCall.ns, fun i y v h1 h2 h3 => ?_⟩, fun y c h => ⟨_, x.cell y c h⟩, e0.hok.fresh (Nat.le_refl _), fun y c h => ?_, fun p hp => absurd (show p ∈ ([] : List (Addr × Obj)) from hp) (by simp), e0.hok.kept hk, ?_⟩
  · exact name_of_addr x.apart (PySem.mem_of_lookup h1) (PySem.mem_of_lookup h2)
  · have hy : scope.names.lookup y = some .cell ∨ scope.names.lookup y = some .free := hy
    rcases hy with hy | hy
    · exact cell_has hy
    · exact absurd rfl (S.nofree _ (PySem.mem_of_lookup hy))
  · exact Nat.le_of_lt (x.above y c (PySem.mem_of_lookup h))
  · have hi : i < vs.length := by
      unfold start at h2
      by_cases hi : i < vs.length
      · exact hi
      · rw [List.getElem?_append_right (by simpa using hi)] at h2
        rw [List.getElem?_replicate] at h2
        split at h2 <;> cases h2
    have ha : vs[i]? = some v := by
      unfold start at h2
      rw [List.getElem?_append_left (by simpa using hi), List.getElem?_map] at h2
      cases e : vs[i]? with
      | none => rw [e] at h2; cases h2
      | some a => rw [e] at h2; cases h2; rfl
    obtain ⟨u, hu, rv⟩ := r.get ha
    have hp : ps[i]? = some y := by
      rw [← S.pre, List.getElem?_take_of_lt (by omega)]; exact h1
    have ndP : ps.Nodup := by rw [← S.pre]; exact S.nd.sublist (List.take_sublist _ _)
    refine ⟨u, rv, ?_⟩
    rcases S.par y (List.mem_of_getElem? hp) with k | k
    · exact .inl ⟨k, bindL_get ndP hp hu k⟩
    · obtain ⟨c, e⟩ := cell_has (n := s.heap.objs.size + 1) k
      refine .inr ⟨.inl k, c, e, ?_⟩
      have q := x.cell y c e
      rw [bindC_get ndP hp hu (by show scope.names.lookup y ≠ _; rw [k]; decide)] at q
      exact q
  · exact e0.hok.fresh (Nat.le_of_lt (x.above y c (PySem.mem_of_lookup h)))
  · unfold start
    show _ = N.length
    rw [List.length_append, List.length_map, List.length_replicate]
    omega
theorem fn_of {CX : CXT} {P : Program} {w : World} {K : PySem.W.Frag} {mg : Str → Option Value} {base : Heap} {k : Nat} {f : Addr} {name qual : Str} {params : Arguments} {body : List Stmt} {scope : Scope} {dV kV doc pm cdv ct oc : Value} {an od : Option Addr}
    {osl : Array (Option Value)} {N ps : List Str} {sp : Sp} (lk : K.lookup f = some ⟨oc, od, .func (PySem.W.fnOf name qual params body scope dV kV doc pm an cdv ct), osl⟩) (hcd : PySem.W.codeIn K cdv qual = true) (S : FnScope N ps scope)
    (len : ∀ vs H Q E, sp vs H Q E → vs.length = ps.length)
    (hbody : ∀ (A : Around) (outer : List Env) (s : Shared) (H : Hp) (vs : List V) (Q : VK) (E : XK), Room k (A.deeper (envOfC qual scope s.heap.objs.size f cdv)) → sp vs H Q E →
      ∃ t, PSs (cxOf CX P w K mg base N qual scope f cdv A outer s H E) body t ∧ t { nx := fun _ H' => Q .non H', rt := Q } (start N vs) H) :
    FnOk P w K mg base CX (k + 1) f (PySem.W.fnOf name qual params body scope dV kV doc pm an cdv ct) ps sp := by
  refine ⟨len, fun A outer s H args us vs Q E hr e0 hb r hsp => ?_⟩
  have hl := len _ _ _ _ hsp
  have KX : K.In s.heap := e0.mod.kin.keeps fun b o e => (e0.bs b o e).1
  have lim : s.heap.NoLimit := e0.mod.nolimit.keeps fun b o e => (e0.bs b o e).1
  have hkind : ∀ y ∈ ps.zip us, scope.names.lookup y.1 = some .local ∨ (scope.names.lookup y.1 = some .cell ∧ ((cellsFrom (s.heap.objs.size + 1) scope.names []).lookup y.1).isSome = true) := fun ⟨n, v⟩ hy => by
    rcases S.par n (List.of_mem_zip hy).1 with q | q
    · exact .inl q
    · exact .inr ⟨q, PySem.W.cellsFrom_some _ _ _ (.inl q)⟩
  refine codeAny_call_function hr.depth (KX _ _ lk) rfl S.co S.gen rfl (PySem.W.codeRec_of KX hcd) (hb _ _ _ _ ?_)
  refine wpAny_newFunctionEnv_cells S.kind hkind fun env he s1 x => ?_
  subst he
  refine ⟨lim.keeps x.toInCall.keep, codeAny_func ?_⟩
  obtain ⟨t, ht, hq⟩ := hbody A outer s H vs Q E (hr.deeper _) hsp
  have I : Inv (cxOf CX P w K mg base N qual scope f cdv A outer s H E) [] (start N vs) H s1 := inv_start S hr.hd e0 hl r x
  refine wpAny_mono (ht [] s1 (start N vs) H _ I hq) (fun fl s' hs => ?_) fun e s' hs => hs
  have fin : ∀ {σ' : St} {H' : Hp} {v : V} {u : Value}, Inv (cxOf CX P w K mg base N qual scope f cdv A outer s H E) [] σ' H' s' → RelV v u → Q v H' → CE outer P w H s Q u s' :=
    fun {σ' H' v u} J rv q => ⟨v, H', J.os, J.bare, J.base, J.hok, rv, q⟩
  cases fl with
  | ret u =>
    obtain ⟨v, σ', H', J, rv, q⟩ := hs
    exact fin J rv q
  | next =>
    obtain ⟨σ', H', J, q⟩ := hs
    exact fin (v := V.non) (u := Value.none) J rfl q
  | brk =>
    obtain ⟨_, _, _, q⟩ := hs
    exact False.elim q
  | cont =>
    obtain ⟨_, _, _, q⟩ := hs
    exact False.elim q
end L2
namespace L2
open PySem PySem.Spec PyProof.Rows
section
variable {X : Cx} {x : Str} {p pos : Pos} {e : Expr} {es : List Expr} {t : TA} {id T : String} {r : List V → Hp → VK → Prop}
def tCB (r : List V → Hp → VK → Prop) (t : TA) : TE := fun σ H Q => t σ H fun vs H1 => r vs H1 Q
theorem pe_callB (hc : CallR X (.builtin id) r) (hg : Gl X x) (hm : X.mg x = none) (hv : bootBuiltins x = some (.builtin id)) (ha : PA X (e :: es) t) (hn : x ≠ "__name__" := by decide) (hdb : (x == ("__debug__" : Str)) = false := by decide)
    (he : starEach (e :: es) X.env = (false, eval e X.env) :: starEach es X.env := by rfl) (hpl : (backTo pos (starEach es X.env)).any (·.1) = false := by rfl) : PE X (.Call (.Name x p) (e :: es) [] pos) (tCB r t) := by
  intro pins s σ H Q I h
  refine wpAny_Call_Name_kw (ld_blt I hg hm hv ?_ hn hdb)
  exact PyProof.Rows.callWith_builtin1 (thn (ha pos pins s σ H _ I h) fun us s1 ⟨vs, H1, I1, r1, q1⟩ => hc pins s1 σ H1 vs us Q I1 r1 q1) he hpl
end
end L2
namespace HT
open PySem PyProof.Rows
def lexLt : List Int → List Int → Bool
  | [], [] => false
  | [], _ :: _ => true
  | _ :: _, [] => false
  | x :: xs, y :: ys => if x = y then lexLt xs ys else decide (x < y)
theorem lexLt_cons (x y : Int) (xs ys : List Int) : lexLt (x :: xs) (y :: ys) = if x = y then lexLt xs ys else decide (x < y) := rfl
theorem eqAt_int (A : Around) (s : Shared) (a : Int) (t : Tok) (c : Int) (u : Tok) : ∃ e, SeqAt.EqAt A s (.int a t) (.int c u) e ∧ (e = true ↔ a = c) :=
  ⟨(a == c), SeqAt.EqAt.int_int a t c u, by simp⟩
theorem rcLt_int (A : Around) (s : Shared) (a : Int) (t : Tok) (c : Int) (u : Tok) (prog : Program) (w : World) (E : Value → Shared → Prop) (Q : Value → Shared → Prop) (h : Q (.bool (decide (a < c))) s) :
    wpAny (model prog w) A (richCompare .Lt (.int a t) (.int c u)) Q E s :=
  (PyProof.Rows.lt_int h : wpAny (model prog w) A (compareOp .Lt (.int a t) (.int c u)) Q E s)
section
open PySem.SeqAt
open PySem.AutoSeq1 (wpAny_loadPart')
open PySem.MeetsSeq PySem.MeetsSeq2 PySem.MeetsSeq3
end
section
variable {prog : Program} {w : World} {A : Around} {E : Value → Shared → Prop} {s : Shared}
end
end HT
namespace L2
open PySem PySem.Spec PyProof.Rows
theorem intsAre_of {ns : List Int} : ∀ {us : List Value}, Vals (ns.map V.int) us → IntsAre us ns := by
  induction ns with
  | nil => intro us r; rw [List.map_nil] at r; cases r; exact .nil
  | cons n ns ih =>
    intro us r
    rw [List.map_cons] at r
    cases r with
    | cons r1 r2 =>
      obtain ⟨t, e⟩ := r1
      subst e
      exact .cons n t (ih r2)
section
variable {X : Cx} {e : Expr} {te : TE} {lo hi : Option Expr} {tl th : TO} {pos p2 : Pos}
end
end L2
namespace L2
open PySem PySem.Spec PyProof.Rows
def ixN (n : Nat) (i : Int) : Option Nat := if 0 ≤ i then (if i < n then some i.toNat else none) else if -(n : Int) ≤ i then some (i + n).toNat else none
def atI {α : Type} (xs : List α) (i : Int) : Option α := (ixN xs.length i).bind fun j => xs[j]?
theorem ixN_seq {n : Nat} {i : Int} {j : Nat} (h : ixN n i = some j) : seqIndex? i n = some j ∧ j < n ∧ -(n : Int) ≤ i ∧ i < n := by
  unfold ixN at h
  by_cases h0 : 0 ≤ i
  · rw [if_pos h0] at h
    by_cases h1 : i < n
    · rw [if_pos h1] at h
      have e : i.toNat = j := Option.some.inj h
      exact ⟨by rw [seqIndex_of h0 h1, e], by omega, by omega, h1⟩
    · rw [if_neg h1] at h; cases h
  · rw [if_neg h0] at h
    by_cases h1 : -(n : Int) ≤ i
    · rw [if_pos h1] at h
      have e : (i + n).toNat = j := Option.some.inj h
      exact ⟨by rw [seqIndex_neg (by omega) h1, e], by omega, h1, by omega⟩
    · rw [if_neg h1] at h; cases h
theorem atI_get {α : Type} {xs : List α} {i : Int} {v : α} (h : atI xs i = some v) : ∃ j, seqIndex? i xs.length = some j ∧ xs[j]? = some v ∧ j < xs.length ∧ -(xs.length : Int) ≤ i ∧ i < xs.length := by
  unfold atI at h
  cases e : ixN xs.length i with
  | none => rw [e] at h; cases h
  | some j =>
    rw [e] at h
    obtain ⟨h1, h2, h3, h4⟩ := ixN_seq e
    exact ⟨j, h1, h, h2, h3, h4⟩
theorem atI_nat {α : Type} {xs : List α} {j : Nat} {v : α} (h : xs[j]? = some v) : atI xs (j : Int) = some v := by
  have hj : j < xs.length := (List.getElem?_eq_some_iff.mp h).1
  have e : ixN xs.length (j : Int) = some j := by
    unfold ixN
    rw [if_pos (by omega), if_pos (by omega)]; simp
  unfold atI; rw [e]; exact h
def PlainIx (b : Expr) : Prop := ∀ o i, subscripted b false o i = operate [o, i] (getItem o i)
def IxR (X : Cx) (r : R2) : Prop :=
  ∀ (value slice : Expr) (pins : List (Addr × Obj)) (s : Shared) (σ : St) (H : Hp) (x y : V) (v u : Value) (Q : VK), Inv X pins σ H s → RelV x v → RelV y u → r x y H Q →
    subscripted slice false v u = operate [v, u] (getItem v u) → wpAny (model X.prog X.w) X.A (subscriptTail value slice v u) (EP X pins σ Q) X.xe s
def MtR (X : Cx) (id : String) (r : V → List V → Hp → VK → Prop) : Prop :=
  ∀ (pins : List (Addr × Obj)) (s : Shared) (σ : St) (H : Hp) (x : V) (xs : List V) (v : Value) (us : List Value) (Q : VK), Inv X pins σ H s → RelV x v → Vals xs us → r x xs H Q →
    wpAny (model X.prog X.w) X.A (call (.builtin id) (v :: us)) (EP X pins σ Q) X.xe s
section
variable {X : Cx} {a b : Expr} {ta tb : TE} {pos : Pos}
theorem pe_ix {r : R2} (hr : IxR X r) (ha : PE X a ta) (hb : PE X b tb) (hs : PlainIx b) : PE X (.Subscript a b pos) (tOp r ta tb) := by
  intro pins s σ H Q I h
  exact Subscript_ (binT ha hb I h fun v u s2 x y H2 I2 rx ry q => hr a b pins s2 σ H2 x y v u Q I2 rx ry q (hs _ _))
def rIxL (K : PySem.W.Frag) : R2 := fun x y H Q => ∃ p xs i v, x = .ref p ∧ y = .int i ∧ SqL K H p xs ∧ atI xs i = some v ∧ Q v H
theorem ix_list : IxR X (rIxL X.K) := by
  intro value slice pins s σ H x y v u Q I rx ry h hs
  obtain ⟨p, xs, i, z, rfl, rfl, hq, he, q⟩ := h
  cases rx
  obtain ⟨t, rfl⟩ := ry
  obtain ⟨its, r, pl, hz⟩ := I.list hq
  obtain ⟨j, h1, h2, h3, h4, h5⟩ := atI_get he
  obtain ⟨w, ew, rw'⟩ := r.get h2
  have hl := r.length
  have hn := line63
  have fin : EP X pins σ Q w s := ⟨z, H, I, rw', q⟩
  by_cases h0 : 0 ≤ i
  · have hj : i.toNat = j := by
      rw [seqIndex_of h0 h5] at h1
      exact Option.some.inj h1
    exact item_listR pl.isList h0 (by omega) (by rw [hj]; simpa using ew) fin hs
  · have hj : (i + (its.toArray.size : Int)).toNat = j := by
      rw [seqIndex_neg (by omega) h4] at h1
      rw [List.size_toArray, ← hl]
      exact Option.some.inj h1
    exact subscriptTail_builtinR (x := w) pl.isList.typeIs slot_list_getitem.lookup
      (wpAny_getItem_list_neg (Q := fun r s' => r = w ∧ EP X pins σ Q r s') pl.isList (by omega) (by rw [List.size_toArray] <;> omega) (by omega) (by rw [hj]; simpa using ew) ⟨rfl, fin⟩) hs
theorem mapSeq_set (its : List Value) (n j : Nat) (u : Value) : Obj.mapSeq (·.setIfInBounds j u) { cls := .type "list", data := .seq its.toArray n } = { cls := .type "list", data := .seq (its.set j u).toArray n } := by
  simp [Obj.mapSeq]
theorem Inv.lst {pins : List (Addr × Obj)} {σ : St} {H : Hp} {s : Shared} {p : Addr} {xs : List V} (I : Inv X pins σ H s) (h : H p = some (.lst xs)) :
    ∃ (its : List Value) (n : Nat), Vals xs its ∧ s.heap.get? p = some { cls := .type "list", data := .seq its.toArray n } ∧ xs.length ≤ sizeLine := by
  obtain ⟨z, its, n, r, e⟩ := I.hok p _ h
  exact ⟨its, n, r, e, z⟩
theorem Inv.lstUpd {pins : List (Addr × Obj)} {σ : St} {H : Hp} {s : Shared} {p : Addr} {xs ys : List V} {its its' : List Value} {n n' : Nat} {f : Obj → Obj} (I : Inv X pins σ H s) (h : H p = some (.lst xs))
    (ho : s.heap.get? p = some { cls := .type "list", data := .seq its.toArray n }) (hf : f { cls := .type "list", data := .seq its.toArray n } = { cls := .type "list", data := .seq its'.toArray n' }) (r : Vals ys its') (hz : ys.length ≤ sizeLine) (t : Nat) :
    Inv X pins σ (upd H p (.lst ys)) { s with heap := s.heap.update p f, toks := t } := by
  have e : (s.heap.update p f).get? p = some { cls := .type "list", data := .seq its'.toArray n' } := by
    rw [Heap.get?_update_self f ho (by rw [hf] <;> rfl), hf]
  refine I.write (x := p) (e := p) (by rw [h]; trivial) (.inl rfl) (fun b u hb q => (Heap.get?_update_other _ _ (Ne.symm hb)).trans q) ⟨_, e⟩ ?_
  exact ⟨hz, its', n', r, e⟩
def rSetL : V → V → V → Hp → (Hp → Prop) → Prop := fun o i v H Q => ∃ p xs k j, o = .ref p ∧ i = .int k ∧ H p = some (.lst xs) ∧ ixN xs.length k = some j ∧ Q (upd H p (.lst (xs.set j v)))
theorem set_list : PSet X rSetL := by
  intro pins s σ H o i v ov iv u Q I ro ri rv h
  obtain ⟨p, xs, k, j, rfl, rfl, hp, hj, q⟩ := h
  cases ro
  obtain ⟨t, rfl⟩ := ri
  obtain ⟨its, n, r, ho, hz⟩ := I.lst hp
  obtain ⟨h1, h2, h3, h4⟩ := ixN_seq hj
  have hl := r.length
  have hn := line63
  have I' : Inv X pins σ (upd H p (.lst (xs.set j v))) { s with heap := s.heap.update p (Obj.mapSeq (·.setIfInBounds j u)) } :=
    I.lstUpd hp ho (mapSeq_set its n j u) (r.set rv j) (by rw [List.length_set]; exact hz) s.toks
  by_cases h0 : 0 ≤ k
  · have hk : k.toNat = j := by
      rw [seqIndex_of h0 h4] at h1
      exact Option.some.inj h1
    exact PySem.W.ki_setAt ho h0 (by omega) (by rw [List.size_toArray, ← hl]; exact h4) (by rw [hk]; exact ⟨_, I', q⟩)
  · have hk : (k + (its.toArray.size : Int)).toNat = j := by
      rw [seqIndex_neg (by omega) h3] at h1
      rw [List.size_toArray, ← hl]
      exact Option.some.inj h1
    exact PySem.W.ki_setBack ho (by omega) (by rw [List.size_toArray, ← hl]; exact h3) (by omega) (by rw [hk]; exact ⟨_, I', q⟩)
def flatV : V → Bool
  | .non => true
  | .bl _ => true
  | .int _ => true
  | .str _ => true
  | _ => false
def eqV : V → V → Bool
  | .non, .non => true
  | .bl a, .bl b => a == b
  | .bl a, .int b => (if a then 1 else 0) == b
  | .int a, .bl b => a == (if b then 1 else 0)
  | .int a, .int b => a == b
  | .str a, .str b => a == b
  | _, _ => false
theorem eqAt_V {A : Around} {s : Shared} {y x : V} {u v : Value} (ry : RelV y u) (rx : RelV x v) (fy : flatV y = true) (fx : flatV x = true) : SeqAt.EqAt A s u v (eqV y x) := by
  cases y with
  | non =>
    cases ry
    cases x with
    | non => cases rx; exact SeqAt.EqAt.same _
    | bl b => cases rx; exact SeqAt.EqAt.none_bool b
    | int b => obtain ⟨t, rfl⟩ := rx; exact SeqAt.EqAt.none_int b t
    | str b => obtain ⟨t, rfl⟩ := rx; exact SeqAt.EqAt.none_str b t
    | _ => exact absurd (show false = true from fx) Bool.false_ne_true
  | bl a =>
    cases ry
    cases x with
    | non => cases rx; exact SeqAt.EqAt.bool_none a
    | bl b => cases rx; exact SeqAt.EqAt.bool_bool a b
    | int b => obtain ⟨t, rfl⟩ := rx; exact SeqAt.EqAt.bool_int a b t
    | str b => obtain ⟨t, rfl⟩ := rx; exact SeqAt.EqAt.bool_str a b t
    | _ => exact absurd (show false = true from fx) Bool.false_ne_true
  | int a =>
    obtain ⟨t', rfl⟩ := ry
    cases x with
    | non => cases rx; exact SeqAt.EqAt.int_none a t'
    | bl b => cases rx; exact SeqAt.EqAt.int_bool a t' b
    | int b => obtain ⟨t, rfl⟩ := rx; exact SeqAt.EqAt.int_int a t' b t
    | str b => obtain ⟨t, rfl⟩ := rx; exact SeqAt.EqAt.int_str a t' b t
    | _ => exact absurd (show false = true from fx) Bool.false_ne_true
  | str a =>
    obtain ⟨t', rfl⟩ := ry
    cases x with
    | non => cases rx; exact SeqAt.EqAt.str_none a t'
    | bl b => cases rx; exact SeqAt.EqAt.str_bool a t' b
    | int b => obtain ⟨t, rfl⟩ := rx; exact SeqAt.EqAt.str_int a t' b t
    | str b => obtain ⟨t, rfl⟩ := rx; exact SeqAt.EqAt.str_str a t' b t
    | _ => exact absurd (show false = true from fx) Bool.false_ne_true
  | _ => exact absurd (show false = true from fy) Bool.false_ne_true
theorem call_len_seq : CallR X (.builtin "len") (fun xs H Q => ∃ p ys, xs = [.ref p] ∧ (SqL X.K H p ys ∨ SqT X.K H p ys) ∧ Q (.int ys.length) H) := by
  intro pins s σ H xs us Q I r h
  obtain ⟨p, ys, rfl, hq, q⟩ := h
  obtain ⟨u, rfl, rx⟩ := vals1 r
  cases rx
  have hn := line63
  rcases hq with hq | hq
  · obtain ⟨its, r', pl, hz⟩ := I.list hq
    have hlen := r'.length
    exact Calls.call_len_list pl.isList (by simp only [List.size_toArray] <;> omega) ⟨.int ys.length, H, I.tok _, ⟨s.toks + 1, by rw [List.size_toArray, hlen]⟩, q⟩
  · obtain ⟨its, r', pl, hz⟩ := I.tuple hq
    have hlen := r'.length
    exact len_tuple pl (by simp only [List.size_toArray] <;> omega) ⟨.int ys.length, H, I.tok _, ⟨s.toks + 1, by rw [List.size_toArray, hlen]⟩, q⟩
def tyV (K : PySem.W.Frag) (T : String) (x : V) (H : Hp) : Prop := match x with
  | .str _ => T = "str"
  | .int _ => T = "int"
  | .ref p => (T = "list" ∧ ∃ xs, SqL K H p xs) ∨ (T = "tuple" ∧ ∃ o, K.lookup p = some o ∧ o.cls = .type "tuple" ∧ o.dict = none) ∨
      (T = "dict" ∧ ((∃ kvs, H p = some (.dK kvs)) ∨ ∃ kvs, H p = some (.dT kvs))) ∨ (T = "set" ∧ ∃ S n, H p = some (.set S n))
  | _ => False
theorem tyV_is {pins : List (Addr × Obj)} {σ : St} {H : Hp} {s : Shared} {T : String} {x : V} {v : Value} (I : Inv X pins σ H s) (r : RelV x v) (ty : tyV X.K T x H) :
    s.TypeIs v T ∧ ∀ a, v = .ref a → ∃ ob, s.heap.get? a = some ob ∧ ob.dict = none := by
  cases x with
  | str z =>
    obtain ⟨t, rfl⟩ := r
    cases (show T = "str" from ty)
    exact ⟨typeIs_str s z t, fun _ e => nomatch e⟩
  | int i =>
    obtain ⟨t, rfl⟩ := r
    cases (show T = "int" from ty)
    exact ⟨typeIs_int s i t, fun _ e => nomatch e⟩
  | ref p =>
    cases r
    rcases ty with ⟨rfl, xs, hq⟩ | ⟨rfl, o, hk, hc, hd⟩ | ⟨rfl, hk⟩ | ⟨rfl, S, n, hk⟩
    · obtain ⟨its, _, pl, _⟩ := I.list hq
      refine ⟨pl.isList.typeIs, fun a e => ?_⟩
      cases e
      obtain ⟨o, n, e, c, hd, _⟩ := pl
      exact ⟨o, e, hd⟩
    · refine ⟨⟨o, I.kIn p o hk, hc⟩, fun a e => ?_⟩
      cases e
      exact ⟨o, I.kIn _ o hk, hd⟩
    · have z : ∃ o, s.heap.get? p = some o ∧ o.ExactDict := by
        rcases hk with ⟨kvs, hk⟩ | ⟨kvs, hk⟩
        · obtain ⟨_, _, _, _, o, _, _, e, ex, _⟩ := I.hok p _ hk
          exact ⟨o, e, ex⟩
        · obtain ⟨_, _, _, _, o, _, _, e, ex, _⟩ := I.hok p _ hk
          exact ⟨o, e, ex⟩
      obtain ⟨o, e, ex⟩ := z
      refine ⟨⟨o, e, ex.1⟩, fun a e2 => ?_⟩
      cases e2
      exact ⟨o, e, ex.2.1⟩
    · obtain ⟨o, _, _, _, e, ex, _⟩ := I.hok p _ hk
      refine ⟨⟨o, e, ex.1⟩, fun a e2 => ?_⟩
      cases e2
      exact ⟨o, e, ex.2.1⟩
  | _ => exact False.elim ty
def tBM (K : PySem.W.Frag) (T : String) (r : V → List V → Hp → VK → Prop) (to : TE) (t : TA) : TE := fun σ H Q => to σ H fun x H1 => tyV K T x H1 ∧ t σ H1 fun xs H2 => r x xs H2 Q
variable {o e : Expr} {es : List Expr} {to : TE} {t : TA} {name : Str} {apos cpos : Pos} {T id : String} {r : V → List V → Hp → VK → Prop}
theorem pe_bm (pa : PlainAttrs T) (slot : Slot T name id) (hty : typeOf (.builtin id) = pure (.type "method_descriptor")) (hm : MtR X id r) (ho : PE X o to) (ha : PA X (e :: es) t)
    (hbase : attributeBase o name X.env (eval o X.env) = eval o X.env := by rfl)
    (hfew : ((backTo cpos (starEach (e :: es) X.env)).all (fun x => !x.1) && (backToKw cpos (keywordEach [] X.env)).all (fun x => x.1.isSome)
      && decide ((e :: es).length + ([] : List Keyword).length + (if ([] : List Keyword).isEmpty then 0 else 1) < 30)) = true := by rfl)
    (hline : (apos.endLine == cpos.line) = true := by rfl) (hs : starEach (e :: es) X.env = (false, eval e X.env) :: starEach es X.env := by rfl) (hplain : (backTo cpos (starEach es X.env)).any (·.1) = false := by rfl) :
    PE X (.Call (.Attribute o name apos) (e :: es) [] cpos) (tBM X.K T r to t) := by
  intro pins s σ H Q I h
  refine wpAny_Call_method_late hbase hfew hline rfl (thn (ho pins s σ H _ I h) fun v s1 ⟨x, H1, I1, r1, ty, q1⟩ => ?_)
  obtain ⟨h1, h2⟩ := tyV_is I1 r1 ty
  refine ⟨T, id, pa, slot, hty, h1, h2, ?_⟩
  have hA := ha cpos pins s1 σ H1 _ I1 q1
  rw [hs] at hA ⊢
  refine Calls.callWith_builtin (by show (false || (backTo cpos (starEach es X.env)).any (·.1)) = false; rw [hplain] <;> rfl) (Calls.evalArgs_plain ?_)
  exact thn hA fun us s2 ⟨vs, H2, I2, r2, q2⟩ => hm pins s2 σ H2 x vs v us Q I2 r1 r2 q2
end
end L2
namespace L2
open PySem PySem.Spec PyProof.Rows
def MtM (X : Cx) (id : String) (r : V → List V → Hp → VK → Prop) : Prop :=
  ∀ (pins : List (Addr × Obj)) (s : Shared) (σ : St) (H : Hp) (x : V) (xs : List V) (v : Value) (us : List Value) (Q : VK), Inv X pins σ H s → RelV x v → Vals xs us → r x xs H Q →
    wpAny (model X.prog X.w) X.A (call (.builtin id) (v :: us)) (EP X pins σ Q) X.xe s
theorem Vals.one : ∀ {x : V} {us : List Value}, Vals [x] us → ∃ u, us = [u] ∧ RelV x u
  | _, _, .cons r .nil => ⟨_, rfl, r⟩
section
variable {X : Cx} {pins : List (Addr × Obj)} {σ : St} {H : Hp} {s : Shared} {l b : Addr} {xs ys zs : List V}
theorem Inv.lset {its its' : List Value} {n : Nat} {f : Array Value → Array Value} {t' : Nat} (I : Inv X pins σ H s) (hH : H l = some (.lst xs))
    (e : s.heap.get? l = some { cls := .type "list", data := .seq its.toArray n }) (hf : f its.toArray = its'.toArray) (hv : Vals ys its') (hz : ys.length ≤ sizeLine) :
    Inv X pins σ (upd H l (.lst ys)) { s with heap := s.heap.update l (Obj.mapSeq f), toks := t' } := by
  have q := PySem.IsL.update e f
  rw [hf] at q
  refine I.write (x := l) (e := l) (by rw [hH]; exact trivial) (.inl rfl) (fun b' u hb hu => (Heap.get?_update_other s.heap (Obj.mapSeq f) (Ne.symm hb)).trans hu) ⟨_, q⟩ ?_
  exact ⟨hz, its', _, hv, q⟩
theorem Inv.lnew {its : List Value} {t' : Nat} (I : Inv X pins σ H s) (hv : Vals ys its) (hz : ys.length ≤ sizeLine) :
    Inv X pins σ (upd H s.heap.objs.size (.lst ys)) { s with heap := s.heap.push { cls := .type "list", data := .seq its.toArray }, toks := t' } :=
  I.laid (fun _ _ q => Heap.get?_push_of_some _ q) (Nat.le_refl _) ⟨hz, its, 0, hv, Heap.get?_push_size _ rfl⟩
theorem Inv.fresh (I : Inv X pins σ H s) : H s.heap.objs.size = none := I.hok.fresh (Nat.le_refl _)
theorem Inv.lstM (I : Inv X pins σ H s) (hH : H l = some (.lst xs)) : xs.length ≤ sizeLine ∧ ∃ (its : List Value) (n : Nat), Vals xs its ∧ xs.length = its.length ∧ s.heap.get? l = some { cls := .type "list", data := .seq its.toArray n } := by
  obtain ⟨z, its, n, r, e⟩ := I.hok l _ hH
  exact ⟨z, its, n, r, r.length, e⟩
theorem notLongL {n : Nat} (h : n ≤ sizeLine) : Builtin.List.listTooLong n = false := by
  unfold Builtin.List.listTooLong
  exact decide_eq_false (by omega)
end
section
variable {X : Cx}
def rAppend : V → List V → Hp → VK → Prop := fun x vs H Q => ∃ l xs y, x = .ref l ∧ vs = [y] ∧ H l = some (.lst xs) ∧ xs.length < sizeLine ∧ Q .non (upd H l (.lst (xs ++ [y])))
theorem mt_append : MtM X "list.append" rAppend := by
  intro pins s σ H x vs v us Q I rx rv h
  obtain ⟨l, xs, y, rfl, rfl, hH, hz, q⟩ := h
  cases rx
  obtain ⟨u, rfl, ru⟩ := rv.one
  obtain ⟨z, its, n, r, hl, e⟩ := I.lstM hH
  refine call_meets F.slot_list_append ⟨_, e, rfl⟩ F.entry_list_append (F.args_list_append_2 _ _) (PySem.list_append l its.toArray n u (by rw [List.size_toArray]; omega)) ⟨e, ?_⟩
  refine ⟨.non, _, I.lset (its' := its ++ [u]) hH e (by simp) (r.append (.cons ru .nil)) ?_, rfl, q⟩
  rw [List.length_append, List.length_singleton]
  omega
def rExtend : V → List V → Hp → VK → Prop := fun x vs H Q => ∃ l b xs zs, x = .ref l ∧ vs = [.ref b] ∧ H l = some (.lst xs) ∧ H b = some (.lst zs) ∧ xs.length + zs.length ≤ sizeLine ∧ Q .non (upd H l (.lst (xs ++ zs)))
theorem mt_extend : MtM X "list.extend" rExtend := by
  intro pins s σ H x vs v us Q I rx rv h
  obtain ⟨l, b, xs, zs, rfl, rfl, hH, hB, hz, q⟩ := h
  cases rx
  obtain ⟨u, rfl, ru⟩ := rv.one
  cases ru
  obtain ⟨z, its, n, r, hl, e⟩ := I.lstM hH
  obtain ⟨z2, its2, n2, r2, hl2, e2⟩ := I.lstM hB
  have hsz : its.toArray.size + its2.toArray.size ≤ sizeLine := by rw [List.size_toArray, List.size_toArray]; omega
  have hlong : ¬ (!its.toArray.isEmpty && Builtin.List.listTooLong (its.toArray.size + its2.toArray.size)) = true := by
    rw [notLongL hsz, Bool.and_false]
    exact Bool.false_ne_true
  refine call_meets F.slot_list_extend ⟨_, e, rfl⟩ F.entry_list_extend (F.args_list_extend_2 _ _)
    (AutoSeq1.list_extend_list_list_0 l its.toArray n b its2.toArray n2 hlong (by rw [List.size_toArray]; omega) (by omega)) ⟨e, e2, ?_⟩
  refine ⟨.non, _, I.lset (its' := its ++ its2) hH e (by simp) (r.append r2) ?_, rfl, q⟩
  rw [List.length_append]
  omega
def rCat : R2 := fun x y H Q => ∃ l b xs zs, x = .ref l ∧ y = .ref b ∧ H l = some (.lst xs) ∧ H b = some (.lst zs) ∧ xs.length + zs.length ≤ sizeLine ∧ ∀ p, H p = none → Q (.ref p) (upd H p (.lst (xs ++ zs)))
theorem op_cat : OpR X (binaryOp .Add) rCat := by
  intro pins s σ H x y v u Q I rx ry h
  obtain ⟨l, b, xs, zs, rfl, rfl, hH, hB, hz, q⟩ := h
  cases rx
  cases ry
  obtain ⟨z, its, n, r, hl, e⟩ := I.lstM hH
  obtain ⟨z2, its2, n2, r2, hl2, e2⟩ := I.lstM hB
  refine PySem.P.add_list e e2 ?_ (by rw [List.size_toArray, List.size_toArray]; omega)
  have ea : its.toArray ++ its2.toArray = (its ++ its2).toArray := by simp
  rw [ea]
  exact ⟨.ref _, _, I.lnew (t' := s.toks) (r.append r2) (by rw [List.length_append]; omega), rfl, q _ I.fresh⟩
end
section
variable {prog : Program} {w : World} {A : Around} {E : Value → Shared → Prop} {s : Shared}
set_option maxRecDepth 100000 in
end
section
variable {X : Cx}
end
end L2
namespace L2
open PySem PySem.Spec PyProof.Rows
section
variable {κ : Type} [DecidableEq κ]
end
section
variable {P : Program} {w : World} {H : Hp} {h : Heap} {a : Addr}
end
section
variable {X : Cx} {pins : List (Addr × Obj)} {σ : St} {H : Hp} {s : Shared} {a : Addr} {y v : V} {u r : Value} {o : Option V} {A : Around} {E : Value → Shared → Prop}
end
section
variable {X : Cx} {pins : List (Addr × Obj)} {σ : St} {H : Hp} {s : Shared} {a : Addr} {kvs : List (Key × V)} {k : Key} {u : Value} {A : Around} {E : Value → Shared → Prop}
end
section
variable {X : Cx} {o i e value : Expr} {pos pos' tpos : Pos} {td ty tv : TE}
end
section
variable {X : Cx} {pos : Pos}
end
section
variable {X : Cx} {pins : List (Addr × Obj)} {σ : St} {H : Hp} {s : Shared} {a : Addr} {y d : V} {u r : Value} {o : Option V} {A : Around} {E : Value → Shared → Prop}
end
section
variable {X : Cx} {o e f : Expr} {apos cpos : Pos} {td ty tx : TE}
end
section
variable {X : Cx} {pins : List (Addr × Obj)} {σ : St} {H : Hp} {s : Shared} {a : Addr} {kvs : List (Key × V)} {A : Around} {E : Value → Shared → Prop}
end
section
variable {X : Cx} {pins : List (Addr × Obj)} {σ : St} {H : Hp} {s : Shared} {a : Addr} {y : V} {u : Value} {A : Around} {E : Value → Shared → Prop}
end
end L2
namespace Att
open PySem PySem.W PySem.Calls PyProof.Rows
theorem ints_of_wellAll {P : Params} {h : Heap} : ∀ (ns : List Int) (vs : List Value), WellAll P h vs (ns.map WData.int) → IntsAre vs ns := by
  intro ns
  induction ns with
  | nil =>
    intro vs w
    rw [List.map_nil] at w
    cases w
    exact .nil
  | cons n ns ih =>
    intro vs w
    rw [List.map_cons] at w
    cases w with
    | cons a b =>
      cases a
      exact .cons _ _ (ih _ b)
theorem script_of {l : OpenLaw} {n : Nat} (hn : l.most = some n) {P : Params} {h : Heap} {args : List WData} {vals : List Value}
    (hpre : l.row.toRowW.claim.pre args = true) (hwl : WellAll P h vals args) :
    ∃ a vs ns, vals = [Value.ref a] ∧ args = [WData.list (ns.map WData.int)] ∧ h.get? a = some { cls := .type "list", data := .seq vs.toArray } ∧ IntsAre vs ns ∧ ns.length ≤ n := by
  have hsh : WShape.hasAll [] args [.list .int] = true := (pre_splitW hpre).1
  have hc : l.pre.holds [] { args := args } = true := (pre_splitW hpre).2
  obtain ⟨d, r, rfl, h1, h2⟩ := hasAllW_cons hsh
  obtain rfl := hasAllW_nil h2
  obtain ⟨xs, rfl, h3⟩ := hasW_list h1
  obtain ⟨ns, rfl⟩ := items_int h3
  have hlen : ns.length ≤ n := by
    unfold OpenLaw.pre at hc
    have h4 : (WTm.not (.lt (.lit (.int (n : Int))) (.len (.arg 0)))).holds [] { args := [.list (ns.map .int)] } = true := by
      have h4 := (holds_andW hc).1
      rw [hn] at h4
      exact h4
    have h5 := condW_of h4 (w_not (w_lt w_lit (w_len_list (w_arg rfl))))
    rw [List.length_map] at h5
    refine Nat.le_of_not_lt fun q => ?_
    have q' : (n : Int) < ((ns.length : Nat) : Int) := by omega
    first
      | (rw [decide_eq_true q'] at h5; exact absurd h5 (by decide))
      | (simp at h5; omega)
  cases hwl with
  | cons w1 w2 =>
    cases w2
    cases w1 with
    | list ho hall => exact ⟨_, _, ns, rfl, rfl, ho, ints_of_wellAll ns _ hall, hlen⟩
theorem post_true (l : OpenLaw) (args : List WData) : l.row.toRowW.claim.post args (.bool true) args = true :=
  postW_of (r := l.row.toRowW) (X := (true == true))
    (show WShape.has [] (.bool true) .bool = true by first | rfl | decide | simp [WShape.has, WShape.arms, WShape.armsAll])
    (show (WTm.eq .res (.lit (.bool true))).value [] { args := args, res := some (.bool true), after := args } = some (.bool (true == true)) from w_eq_bool (w_res rfl) w_lit) rfl
theorem attach_call {l : OpenLaw} {n : Nat} {q : Program} {loose : List Str} {XP : (Str → Option Value) → Heap → Prop} {YP : World → Heap → Prop} {d : DefRec}
    (hn : l.most = some n) (hdf : d.params.defaults = [])
    (call : ∀ (w : World) (s₀ s₁ : Shared) (mg mb : Str → Option Value) (fa : Addr) (o : Obj) (pm cd doc : Value) (a : Addr) (vs : List Value) (ns : List Int),
      Ground q loose [] XP w s₀ mg mb s₁.heap → YP w s₁.heap →
      s₁.heap.get? fa = some o → o.data = .func (docDef d.name d.params d.body d.scope pm cd doc) → s₁.heap.CodeRec cd d.name → mg d.name = some (.ref fa) →
      s₁.heap.get? a = some { cls := .type "list", data := .seq vs.toArray } → IntsAre vs ns → ns.length ≤ n → s₁.gens = #[] →
      codeAny (model l.prog w) callerA (.call (.ref fa) ⟨[.ref a], []⟩) (fun r s' => r = .ok (.ret (.bool true)) ∧ OldK s₁.heap s'.heap ∧ s'.os = s₁.os ∧ AllBare s'.gens) s₁) :
    WalkO q loose XP YP l.row.toRowW d [] (fun f vs => PySem.call f vs) := by
  intro w s₀ s₁ mg mb G Y fa o pm cd doc dV kV ho hd hcd hD hmg hg args vals as hpre hlay hrd hwl hlo
  obtain rfl : dV = .none := Dflts.none hD hdf
  obtain rfl : kV = .none := Dflts.noKw hD
  obtain ⟨a, vs, ns, rfl, rfl, hobj, hints, hlen⟩ := script_of hn hpre hwl
  refine enter_call (codeAny_mono (call w s₀ s₁ mg mb fa o pm cd doc a vs ns G Y ho (fd_plain hd) hcd hmg hobj hints hlen hg) fun r s' hq => ?_)
  obtain ⟨rfl, h2, h3, h4⟩ := hq
  exact ⟨.inl ⟨.bool true, .bool true, [], rfl, fun _ => rfl, .bool true, post_true l _, fun _ => ⟨List.Pairwise.nil, fun _ hm => (nomatch hm)⟩⟩, h2, h3, h4⟩
section
variable {prog : Program} {w : World} {A : Around} {E : Value → Shared → Prop} {s : Shared} {K : Frag}
end
end Att
namespace L2
open PySem PySem.Spec PyProof.Rows
theorem vals_ints : ∀ {vs : List Value} {ns : List Int}, IntsAre vs ns → Vals (ns.map V.int) vs
  | _, _, .nil => .nil
  | _, _, .cons n t h => .cons ⟨t, rfl⟩ (vals_ints h)
def Only (H : Hp) : Prop := ∀ b, H b = none ∨ ∃ o xs, H b = some (.frz o (.lst xs))
theorem law_call {P : Program} {w : World} {K : PySem.W.Frag} {mg mb : Str → Option Value} {CX : CXT} {k : Nat} {fa a : Addr} {fd : FuncData} {x : Str} {sp : Sp} {s₁ : Shared} {vs : List Value} {ns : List Int}
    (KX : K.In s₁.heap) (hns : s₁.heap.Ns mainGlobals mg) (hb : s₁.heap.Ns builtinsNs mb) (hbb : ∀ x : Str, x ≠ "__name__" → mb x = bootBuiltins x) (hlim : s₁.heap.NoLimit) (hg : s₁.gens = #[])
    (ha : s₁.heap.get? a = some { cls := .type "list", data := .seq vs.toArray }) (hi : IntsAre vs ns) (hl : ns.length ≤ sizeLine) (hr : Room k callerA)
    (F : ∀ base : Heap, K.In base → base.Ns mainGlobals mg → FnOk P w K mg base CX k fa fd [x] sp) (hbind : ∀ (s : Shared) (u : Value), BindsTo s fd ⟨[u], []⟩ [(x, u)])
    (hsp : ∀ H : Hp, Only H → SqL K H a (ns.map V.int) → sp [.ref a] H (fun v _ => v = .bl true) fun _ _ _ => False)
    (hCX : ∀ H e s', CX [] H s₁ (fun _ _ _ => False) e s' → False) :
    codeAny (model P w) callerA (.call (.ref fa) ⟨[.ref a], []⟩) (fun r s' => r = .ok (.ret (.bool true)) ∧ OldK s₁.heap s'.heap ∧ s'.os = s₁.os ∧ AllBare s'.gens) s₁ := by
  have rv := vals_ints hi
  have lenV := hi.length
  have core : ∀ H : Hp, Only H → SqL K H a (ns.map V.int) → HOk P w H s₁.heap → (∀ b, H b ≠ none → b = a) → (H a ≠ none → K.lookup a = none) →
      codeAny (model P w) callerA (.call (.ref fa) ⟨[.ref a], []⟩) (fun r s' => r = .ok (.ret (.bool true)) ∧ OldK s₁.heap s'.heap ∧ s'.os = s₁.os ∧ AllBare s'.gens) s₁ := by
    intro H hO hS hok hA hK
    have base_of : ∀ {b : Addr} {o : Obj}, s₁.heap.get? b = some o → H b = none → (hidT s₁.heap H).get? b = some o := fun e n => hidT_get e n
    have noA : ∀ {b : Addr} {o : Obj} {es : Array DictEntry} {ep : Nat}, s₁.heap.get? b = some o → o.data = .dict es ep → H b = none := fun {b o es ep} e d => by
      cases q : H b with
      | none => rfl
      | some u =>
        have e' : b = a := hA b (by rw [q]; simp)
        subst e'
        rw [ha] at e; cases e
        have d' : Data.seq vs.toArray _ = Data.dict es ep := d
        cases d'
    have nsK : ∀ {b : Addr} {m : Str → Option Value}, s₁.heap.Ns b m → (hidT s₁.heap H).Ns b m := fun {b m} ⟨o, es, ep, e, d, r⟩ => ⟨o, es, ep, base_of e (noA e d), d, r⟩
    have hKb : K.In (hidT s₁.heap H) := fun b o e => base_of (KX b o e) (by
      cases q : H b with
      | none => rfl
      | some u =>
        have e' : b = a := hA b (by rw [q]; simp)
        subst e'
        rw [hK (by rw [q]; simp)] at e; cases e)
    have hM : Mod K mg (hidT s₁.heap H) := ⟨hKb, nsK hns, ⟨mb, nsK hb, hbb⟩, let ⟨mc, h1, h2⟩ := hlim; ⟨mc, nsK h1, h2⟩⟩
    have e0 : Env0 P w K mg (hidT s₁.heap H) callerA [] s₁ H := ⟨rfl, hM, fun b o e => of_hidT e, Nat.le_of_eq (hidT_size _ _), trivial, fun b hb => absurd (show b ∈ ([] : List Addr) from hb) (by simp), hok, .of_eq hg⟩
    refine codeAny_mono ((F _ hKb (nsK hns)).run callerA [] s₁ H ⟨[.ref a], []⟩ [.ref a] [.ref a] _ _ hr e0 (hbind s₁ (.ref a)) (.cons rfl .nil) (hsp H hO hS)) fun r s' h => ?_
    cases r with
    | error e => exact (hCX H e s' h).elim
    | ok fl =>
      cases fl with
      | next => exact False.elim h
      | brk => exact False.elim h
      | cont => exact False.elim h
      | ret u =>
        obtain ⟨v, H', os, bare, un, hok', r', q⟩ := h
        have q' : v = .bl true := q
        subst q'
        obtain rfl : u = Value.bool true := r'
        refine ⟨rfl, OldK.of_keep fun b o e => ?_, os, bare⟩
        cases q : H b with
        | none => exact un.keep b o e q (by intro z; exact absurd (show b ∈ ([] : List Addr) from z) (by simp)) (by simp)
        | some u =>
          rcases hO b with z | ⟨ob, xs, z⟩
          · rw [q] at z; cases z
          · have z2 := un.frzs b ob _ z
            obtain ⟨e1, _⟩ := hok b _ z
            obtain ⟨e2, _⟩ := hok' b _ z2
            rw [e] at e1; cases e1
            exact e2
  cases hk : K.lookup a with
  | some o =>
    have e := KX a o hk
    rw [ha] at e
    cases e
    refine core (fun _ => none) (fun _ => .inl rfl) (.inr ⟨_, vs.toArray, _, hk, rfl, rfl, rfl, by rw [List.size_toArray, lenV]; exact hl, by simpa using rv⟩) (fun b u z => by have z' : (none : Option HO) = some u := z; cases z') (fun b z => absurd rfl z) fun z => absurd rfl z
  | none =>
    refine core (fun b => if b = a then some (.frz { cls := .type "list", data := .seq vs.toArray } (.lst (ns.map V.int))) else none) (fun b => ?_) (.inl (.inr ⟨{ cls := .type "list", data := .seq vs.toArray }, if_pos rfl⟩)) (fun b u z => ?_) (fun b z => ?_) fun _ => hk
    · by_cases hb : b = a
      · exact .inr ⟨_, _, if_pos hb⟩
      · exact .inl (if_neg hb)
    · by_cases hb : b = a
      · have z' := (if_pos hb).symm.trans z
        cases z'
        subst hb
        exact ⟨ha, by rw [List.length_map]; exact hl, vs, _, rv, ha⟩
      · have z' := (if_neg hb).symm.trans z
        cases z'
    · by_cases hb : b = a
      · exact hb
      · exact absurd (if_neg hb) z
end L2
namespace L2
open PySem PySem.Spec PyProof.Rows
theorem walk_of {l : PySem.W.OpenLaw} {n k : Nat} {q : Program} {loose : List Str} {XP : (Str → Option Value) → Heap → Prop} {YP : World → Heap → Prop} {d : DefRec} {K : Params → PySem.W.Frag} {CX : World → CXT} {sp : World → Sp} {x : Str}
    (hn : l.most = some n) (hn2 : n ≤ sizeLine) (hdf : d.params.defaults = []) (hr : Room k callerA)
    (hY : ∀ (w : World) (h : Heap), YP w h → (K w.params).In h)
    (F : ∀ (w : World) (mg : Str → Option Value) (fa : Addr) (h : Heap), (K w.params).In h → h.Ns mainGlobals mg → mg d.name = some (.ref fa) →
      ∃ fd : FuncData, (∀ (s : Shared) (u : Value), BindsTo s fd ⟨[u], []⟩ [(x, u)]) ∧
        ∀ base : Heap, (K w.params).In base → base.Ns mainGlobals mg → FnOk l.prog w (K w.params) mg base (CX w) k fa fd [x] (sp w))
    (hsp : ∀ (w : World) (H : Hp) (a : Addr) (ns : List Int), ns.length ≤ n → Only H → SqL (K w.params) H a (ns.map V.int) → sp w [.ref a] H (fun v _ => v = .bl true) fun _ _ _ => False)
    (hCX : ∀ (w : World) (H : Hp) (s : Shared) (e : Value) (s' : Shared), CX w [] H s (fun _ _ _ => False) e s' → False) :
    PySem.W.WalkO q loose XP YP l.row.toRowW d [] (fun f vs => PySem.call f vs) := by
  refine Att.attach_call hn hdf fun w s₀ s₁ mg mb fa o pm cd doc a vs ns G Y ho hd hcd hmg hobj hints hlen hg => ?_
  have KX := hY w _ Y
  obtain ⟨fd, hb, hF⟩ := F w mg fa _ KX G.T.g hmg
  exact law_call KX G.T.g G.T.b G.T.builtins G.T.nolimit hg hobj hints (Nat.le_trans hlen hn2) hr hF hb (fun H hO hS => hsp w H a ns hlen hO hS) fun H e s' => hCX w H s₁ e s'
end L2
namespace L2
open PySem PySem.Spec PyProof.Rows
def defArgs (s : Stmt) : Arguments := match s with
  | .FunctionDef _ a _ _ _ _ _ _ _ _ => a
  | _ => { posonlyargs := [], args := [], vararg := none, kwonlyargs := [], kw_defaults := [], kwarg := none, defaults := [] }
def defBody (s : Stmt) : List Stmt := match s with
  | .FunctionDef _ _ b _ _ _ _ _ _ _ => b
  | _ => []
def defScope (s : Stmt) : Scope := match s with
  | .FunctionDef _ _ _ _ _ _ sc _ _ _ => sc
  | _ => { kind := .function, names := [], isGenerator := false, isCoroutine := false }
abbrev CX0 : CXT := fun _ _ _ _ _ _ => False
abbrev E0 : XK := fun _ _ _ => False
theorem pass0 {X : Cx} : Passes CX0 X E0 := fun _ _ _ _ _ _ _ h => h.elim
structure Fun (K : PySem.W.Frag) (x qual : Str) (st : Stmt) (f : Addr) (fd : FuncData) : Prop where
  ex : ∃ (oc : Value) (od : Option Addr) (kV doc pm : Value) (an : Option Addr) (cdv ct : Value) (osl : Array (Option Value)),
    fd = PySem.W.fnOf x qual (defArgs st) (defBody st) (defScope st) .none kV doc pm an cdv ct ∧ K.lookup f = some ⟨oc, od, .func fd, osl⟩ ∧ PySem.W.codeIn K cdv qual = true
  kp : PySem.W.keepIn K (.ref f) = true
section
variable {P : Program} {w : World} {K : PySem.W.Frag} {mg : Str → Option Value} {base : Heap}
theorem Fun.ok {x qual : Str} {st : Stmt} {f : Addr} {fd : FuncData} {N ps : List Str} {k : Nat} {sp : Sp} (F : Fun K x qual st f fd) (S : FnScope N ps (defScope st)) (len : ∀ vs H Q E, sp vs H Q E → vs.length = ps.length)
    (hbody : ∀ (cdv : Value) (A : Around) (outer : List Env) (s : Shared) (H : Hp) (vs : List V) (Q : VK) (E : XK), Room k (A.deeper (envOfC qual (defScope st) s.heap.objs.size f cdv)) → sp vs H Q E →
      ∃ t, PSs (cxOf CX0 P w K mg base N qual (defScope st) f cdv A outer s H E).nox (defBody st) t ∧ t { nx := fun _ H' => Q .non H', rt := Q } (start N vs) H) : FnOk P w K mg base CX0 (k + 1) f fd ps sp := by
  obtain ⟨oc, od, kV, doc, pm, an, cdv, ct, osl, rfl, lk, hcd⟩ := F.ex
  refine fn_of lk hcd S len fun A outer s H vs Q E hr hsp => ?_
  obtain ⟨t, h, q⟩ := hbody cdv A outer s H vs Q E hr hsp
  exact ⟨t, h.nox, q⟩
theorem Fun.binds {x qual : Str} {st : Stmt} {f : Addr} {fd : FuncData} {ps : List Str} (F : Fun K x qual st f fd)
    (h : ∀ (kV doc pm : Value) (an : Option Addr) (cdv ct : Value) (us : List Value), us.length = ps.length → bindArgs (PySem.W.fnOf x qual (defArgs st) (defBody st) (defScope st) .none kV doc pm an cdv ct) ⟨us, []⟩ = pure (ps.zip us)) : Binds K fd ps [] := by
  obtain ⟨oc, od, kV, doc, pm, an, cdv, ct, osl, rfl, lk, hcd⟩ := F.ex
  exact .all (h kV doc pm an cdv ct)
theorem fun_mk {x qual : Str} {st : Stmt} {f : Addr} {oc : Value} {od an : Option Addr} {osl : Array (Option Value)} {kV doc pm cdv ct : Value} (l : K.lookup f = some ⟨oc, od, .func (PySem.W.fnOf x qual (defArgs st) (defBody st) (defScope st) .none kV doc pm an cdv ct), osl⟩)
    (c : PySem.W.codeIn K cdv qual = true) (k : PySem.W.keepIn K (.ref f) = true) : Fun K x qual st f (PySem.W.fnOf x qual (defArgs st) (defBody st) (defScope st) .none kV doc pm an cdv ct) := ⟨⟨oc, od, kV, doc, pm, an, cdv, ct, osl, rfl, l, c⟩, k⟩
end
theorem hu_of {A : Around} {k : Nat} (hr : Room k A) : A.units + 1 < cLine := Nat.lt_of_le_of_lt (Nat.add_le_add_left (by decide : 1 ≤ 64) _) hr.units
theorem small1000 {n : Nat} (h : n ≤ 1000) : n < sizeLine := Nat.lt_of_le_of_lt h (by decide)
section
variable {X : Cx}
theorem pv (i : Nat) {x : Str} {pos : Pos} (hN : X.N[i]? = some x := by rfl) (hv : Vis X.env.scope x := by first | exact Or.inl rfl | exact Or.inr (Or.inl rfl) | exact Or.inr (Or.inr rfl)) (hd : (x == ("__debug__" : Str)) = false := by decide)
    (hcd : (x == ("__classdict__" : Str)) = false := by decide) : PE X (.Name x pos) (tVar i) := pe_var hN hv hd hcd
end
theorem iteF {A B : Prop} (h : B) : if false = true then A else B := by
  rw [if_neg Bool.false_ne_true]
  exact h
theorem iteT {A B : Prop} (h : A) : if true = true then A else B := by
  rw [if_pos rfl]
  exact h
theorem ite2 {c A B : Prop} [Decidable c] (h1 : c → A) (h2 : ¬ c → B) : if c then A else B := by
  by_cases h : c
  · rw [if_pos h]
    exact h1 h
  · rw [if_neg h]
    exact h2 h
theorem iteNS {c A B : Prop} [Decidable c] (hc : c) (h : B) : if (!decide c) = true then A else B := by
  rw [decide_eq_true hc]
  exact iteF h
def Same (H H' : Hp) : Prop := ∀ b o, H b = some o → H' b = some o
theorem Same.refl (H : Hp) : Same H H := fun _ _ h => h
theorem Same.trans {H H1 H2 : Hp} (a : Same H H1) (b : Same H1 H2) : Same H H2 := fun c o h => b c o (a c o h)
theorem Same.free {H H' : Hp} (e : Same H H') {l : Addr} (h : H' l = Option.none) : H l = Option.none := by
  cases q : H l with
  | none => rfl
  | some o =>
    rw [e l o q] at h
    cases h
theorem Same.seq {K : PySem.W.Frag} {H H' : Hp} {a : Addr} {xs : List V} (e : Same H H') (h : SqL K H a xs) : SqL K H' a xs := by
  rcases h with (h | ⟨o, h⟩) | h
  · exact .inl (.inl (e _ _ h))
  · exact .inl (.inr ⟨o, e _ _ h⟩)
  · exact .inr h
section
variable {X : Cx}
end
section
variable {κ : Type} [DecidableEq κ]
theorem nd_snoc : ∀ {l : List κ} {k : κ}, l.Nodup → ¬ k ∈ l → (l ++ [k]).Nodup
  | [], k, _, _ => by simp
  | a :: r, k, h, hk => by
    obtain ⟨h1, h2⟩ := List.nodup_cons.mp h
    show (a :: (r ++ [k])).Nodup
    refine List.nodup_cons.mpr ⟨fun m => ?_, nd_snoc h2 fun m => hk (List.mem_cons.mpr (Or.inr m))⟩
    rcases List.mem_append.mp m with q | q
    · exact h1 q
    · exact hk (List.mem_cons.mpr (Or.inl (List.mem_singleton.mp q).symm))
end
end L2
set_option maxHeartbeats 8000000
namespace L2
open PySem PySem.Spec PyProof.Rows
def compCx (X : Cx) (N : List Str) (scope : Scope) (cl : List (Str × Addr)) (C : Addr) (s0 : Shared) (H0 : Hp) (ex : List Addr) : Cx :=
  { X with N := N, s₀ := s0, H₀ := H0, env := compEnvC scope cl C X.env, outer := X.stack, stack := X.stack, ex := ex, fn := fun _ => false, pn := [], xe := fun _ _ => False }
def compSt (nl : Nat) (fr : List Nat) (σ : St) : St := List.replicate nl none ++ fr.map fun j => (σ[j]?).join
def closOf (env : Env) : List (Str × NameKind) → List (Str × Addr) → List (Str × Addr)
  | [], cs => cs
  | (n, k) :: r, cs => closOf env r (if (k == NameKind.free) = true then (n, (env.cells.lookup n).getD 0) :: cs else cs)
theorem closOf_sub (env : Env) : ∀ (ns : List (Str × NameKind)) (cs : List (Str × Addr)), (∀ p ∈ ns, p.2 = .free → ∃ c, env.cells.lookup p.1 = some c) → (∀ y c, cs.lookup y = some c → env.cells.lookup y = some c) →
    ∀ y c, (closOf env ns cs).lookup y = some c → env.cells.lookup y = some c
  | [], cs, _, h, y, c, e => h y c e
  | (n, k) :: r, cs, hn, h, y, c, e => by
    unfold closOf at e
    refine closOf_sub env r _ (fun p hp => hn p (List.mem_cons_of_mem _ hp)) ?_ y c e
    intro z d ez
    split at ez
    · rename_i hk
      rw [List.lookup_cons] at ez
      cases hz : z == n with
      | true =>
        rw [hz] at ez
        have hzn : z = n := eq_of_beq hz
        subst hzn
        have hkf : k = .free := by simpa using hk
        obtain ⟨c', hc'⟩ := hn (z, k) List.mem_cons_self hkf
        have hc' : env.cells.lookup z = some c' := hc'
        rw [hc'] at ez
        rw [hc']
        simpa using ez
      | false =>
        rw [hz] at ez
        exact h z d ez
    · exact h z d ez
theorem closOf_keep (env : Env) : ∀ (ns : List (Str × NameKind)) (cs : List (Str × Addr)) (y : Str), (∃ c, cs.lookup y = some c) → ∃ c, (closOf env ns cs).lookup y = some c
  | [], cs, y, h => h
  | (n, k) :: r, cs, y, ⟨c, h⟩ => by
    unfold closOf
    refine closOf_keep env r _ y ?_
    split
    · rw [List.lookup_cons]
      cases hz : y == n with
      | true => exact ⟨_, rfl⟩
      | false => exact ⟨c, h⟩
    · exact ⟨c, h⟩
theorem closOf_has (env : Env) : ∀ (ns : List (Str × NameKind)) (cs : List (Str × Addr)) (p : Str × NameKind), p ∈ ns → p.2 = .free → ∃ c, (closOf env ns cs).lookup p.1 = some c
  | [], cs, p, hp, _ => by simp at hp
  | (n, k) :: r, cs, p, hp, hk => by
    unfold closOf
    rcases List.mem_cons.mp hp with e | hp
    · subst e
      have hk : k = .free := hk
      subst hk
      refine closOf_keep env r _ n ?_
      rw [if_pos (by rfl), List.lookup_cons]
      exact ⟨(List.lookup n env.cells).getD 0, by simp⟩
    · exact closOf_has env r _ p hp hk
theorem closure_loop (env : Env) : ∀ (ns : List (Str × NameKind)) (cs : List (Str × Addr)), (∀ p ∈ ns, p.2 = .free → ∃ c, env.cells.lookup p.1 = some c) →
    (forIn ns cs (fun (x : Str × NameKind) (r : List (Str × Addr)) => if (x.2 == NameKind.free) = true then (do let a ← cellOf env x.1; pure (ForInStep.yield ((x.1, a) :: r))) else pure (ForInStep.yield r)) : Sem (List (Str × Addr))) = pure (closOf env ns cs)
  | [], cs, _ => rfl
  | (n, k) :: r, cs, hn => by
    have ih := fun cs' => closure_loop env r cs' fun p hp => hn p (List.mem_cons_of_mem _ hp)
    rw [List.forIn_cons]
    unfold closOf
    by_cases hk : (k == NameKind.free) = true
    · obtain ⟨c, hc⟩ := hn (n, k) List.mem_cons_self (by simpa using hk)
      have hc : env.cells.lookup n = some c := hc
      rw [if_pos hk, if_pos hk]
      have e1 : cellOf env n = pure c := by unfold cellOf; rw [hc]
      rw [e1, hc]
      exact ih _
    · rw [if_neg hk, if_neg hk]
      exact ih _
theorem closureFor_eq {scope : Scope} {env : Env} (h : ∀ p ∈ scope.names, p.2 = .free → ∃ c, env.cells.lookup p.1 = some c) : closureFor scope env = pure (closOf env scope.names []) := by
  have e := closure_loop env scope.names [] h
  unfold closureFor
  show (forIn scope.names [] _ >>= _) = _
  have e2 : (forIn scope.names ([] : List (Str × Addr)) (fun (x : Str × NameKind) (r : List (Str × Addr)) => match x with | (name, kind) => (if (kind == NameKind.free) = true then (do let a ← cellOf env name; pure PUnit.unit; pure (ForInStep.yield ((name, a) :: r))) else (do pure PUnit.unit; pure (ForInStep.yield r)))) : Sem (List (Str × Addr))) = pure (closOf env scope.names []) := e
  first
    | exact (congrArg (fun z => z >>= fun cs => pure cs) e2)
    | (rw [show (forIn scope.names ([] : List (Str × Addr)) _ : Sem (List (Str × Addr))) = pure (closOf env scope.names []) from e]; rfl)
section
variable {X : Cx}
def PIfs (X : Cx) (ifs : List Expr) (t : TT) : Prop :=
  ∀ (pins : List (Addr × Obj)) (s : Shared) (σ : St) (H : Hp) (Q : Bool → Hp → Prop), Inv X pins σ H s → t σ H Q →
    wpAny (model X.prog X.w) X.A (forIn ifs true fun c r => if r = true then do let ok ← isTrue c X.env (eval c X.env); pure (ForInStep.yield ok) else pure (ForInStep.yield r)) (TP X pins σ Q) X.xe s
def tYes : TT := fun _ H Q => Q true H
theorem pifs_nil : PIfs X [] tYes := fun pins s σ H Q I h => by
  rw [List.forIn_nil]
  exact wpAny_pure ⟨H, I, h⟩
theorem pifs_one {c : Expr} {t : TT} (h : PT X c t) : PIfs X [c] t := by
  intro pins s σ H Q I hw
  rw [List.forIn_cons, if_pos rfl]
  refine wpAny_bind (wpAny_bind (thn (h pins s σ H Q I hw) fun b s1 q => wpAny_pure ?_))
  show wpAny _ _ (forIn [] b _) _ _ s1
  rw [List.forIn_nil]
  exact wpAny_pure q
theorem compLoop_any {prog : Program} {w : World} {A : Around} {R : Result → Shared → Prop} {s : Shared} {elt target iter : Expr} {ifs : List Expr} {scope : Scope} {pos : Pos} {it acc : Value} {env : Env} (I : Nat → Shared → Prop)
    (turn : ∀ n s, I n s → wpAny (model prog w) A (pyNext it) (fun r s1 => match r with
      | none => R (.ok .next) s1
      | some v => wpAny (model prog w) A (letOwnedTupleGo target it v) (fun _ s2 => wpAny (model prog w) A (assign target env v) (fun _ s3 =>
          wpAny (model prog w) A (forIn ifs true fun c r => if r = true then do let ok ← isTrue c env (eval c env); pure (ForInStep.yield ok) else pure (ForInStep.yield r)) (fun ok s4 =>
            if ok = true then wpAny (model prog w) A (eval elt env) (fun x s5 =>
              wpAny (model prog w) A (call (.builtin "list.append") [acc, x]) (fun _ s6 => ∃ m, m < n ∧ I m s6) (fun _ _ => False) s5) (fun _ _ => False) s4
            else ∃ m, m < n ∧ I m s4) (fun _ _ => False) s3) (fun _ _ => False) s2) (fun _ _ => False) s1) (fun _ _ => False) s)
    (n : Nat) (h : I n s) :
    codeAny (model prog w) A (.compLoop (.ListComp elt [⟨target, iter, ifs, 0⟩] scope pos) 0 it acc env) R s := by
  refine codeAny_loop rfl I (fun n s hI => ?_) n h
  show wpAny _ A ((compTurn (.ListComp elt [⟨target, iter, ifs, 0⟩] scope pos) 0 it acc env).onRaise (fun x => do noteFrame x env; theTreesLotGoes x)) _ _ s
  refine wpAny_noted ?_
  rw [compTurn_list]
  refine wpAny_bind (wpAny_standAt (wpAny_bind (wpAny_mono (turn n s hI) (fun r s1 h1 => ?_) fun _ _ f => f.elim)))
  cases r with
  | none => exact wpAny_pure h1
  | some v =>
    refine wpAny_bind (wpAny_mono h1 (fun _ s2 h2 => ?_) fun _ _ f => f.elim)
    refine wpAny_bind (wpAny_mono h2 (fun _ s3 h3 => wpAny_bind (wpAny_mono h3 (fun ok s4 h4 => ?_) fun _ _ f => f.elim)) fun _ _ f => f.elim)
    cases ok with
    | false => exact wpAny_pure ⟨rfl, h4⟩
    | true =>
      exact wpAny_bind (wpAny_bind (wpAny_mono h4 (fun x s5 h5 => wpAny_bind (wpAny_mono h5 (fun _ s6 h6 => wpAny_pure (wpAny_pure ⟨rfl, h6⟩)) fun _ _ f => f.elim)) fun _ _ f => f.elim))
def CompW (J : It) (g : TG) (tc : TT) (te : TE) (Q : VK) (σ0 : St) (H0 : Hp) : Prop := ∃ W : Nat → Nat → List V → St → Hp → Prop, (∃ m, W 0 m [] σ0 H0) ∧ ∀ i m ys σ' H', W i m ys σ' H' →
   (J.stop i H' ∧ ∀ D, H' D = none → Q (.ref D) (upd H' D (.lst ys))) ∨
   (J.go i H' ∧ ∃ N : List V → St → Hp → Prop, (∀ ys' σ2 H2, N ys' σ2 H2 → ∃ m', m' < m ∧ W (i + 1) m' ys' σ2 H2) ∧ ∀ x H2, J.yld i H' x H2 → g x σ' H2 fun σ2 H3 => tc σ2 H3 fun b H4 =>
     if b = true then te σ2 H4 fun y H5 => ys.length < sizeLine ∧ N (ys ++ [y]) σ2 H5 else N ys σ2 H4)
def tComp (nl : Nat) (fr : List Nat) (wi : TI) (g : TG) (tc : TT) (te : TE) : TE := fun σ H Q => wi σ H fun J H1 => CompW J g tc te Q (compSt nl fr σ) H1
structure CompOk (X : Cx) (N : List Str) (nl : Nat) (fr : List Nat) (scope : Scope) : Prop where
  cell : ∀ y ∈ scope.names, y.2 ≠ .cell
  kind : scope.kind = .function
  names : ∀ y ∈ scope.names, y.2 = .local → scope.names.lookup y.1 = some .local
  free : ∀ p ∈ scope.names, p.2 = .free → X.env.kindOf p.1 = some .cell ∨ X.env.kindOf p.1 = some .free
  len : N.length = nl + fr.length
  fr : ∀ (k j : Nat), fr[k]? = some j → ∃ y, N[nl + k]? = some y ∧ X.N[j]? = some y ∧ Vis X.env.scope y ∧ scope.names.lookup y = some .free
theorem lookup_relabel {env : Env} : ∀ {names : List (Str × NameKind)} {x : Str} {k : NameKind}, (names.map fun (n, k) => if (k == NameKind.free && env.scope.kind == .function && env.kindOf n == some .cell) then (n, NameKind.cell) else (n, k)).lookup x = some k →
    k = .cell ∨ k = .free → (∀ y ∈ names, y.2 ≠ .cell) → ∃ p ∈ names, p.1 = x ∧ p.2 = .free
  | [], _, _, h, _, _ => by simp at h
  | (n, kn) :: r, x, k, h, hk, hc => by
    have ih := @lookup_relabel env r x k
    rw [List.map_cons] at h
    have hcn : kn ≠ .cell := hc (n, kn) List.mem_cons_self
    have hr : ∀ y ∈ r, y.2 ≠ .cell := fun y hy => hc y (List.mem_cons_of_mem _ hy)
    cases hx : x == n with
    | true =>
      have hxn : x = n := eq_of_beq hx
      by_cases hcc : (kn == NameKind.free && env.scope.kind == .function && env.kindOf n == some .cell) = true
      · refine ⟨(n, kn), List.mem_cons_self, hxn.symm, ?_⟩
        simp only [Bool.and_eq_true] at hcc
        simpa using hcc.1.1
      · dsimp only at h
        rw [if_neg hcc, List.lookup_cons, hx] at h
        have hkk : kn = k := Option.some.inj h
        subst hkk
        rcases hk with z | z
        · exact absurd z hcn
        · exact ⟨(n, kn), List.mem_cons_self, hxn.symm, z⟩
    | false =>
      by_cases hcc : (kn == NameKind.free && env.scope.kind == .function && env.kindOf n == some .cell) = true
      · dsimp only at h
        rw [if_pos hcc, List.lookup_cons, hx] at h
        obtain ⟨p, hp, q⟩ := ih h hk hr
        exact ⟨p, List.mem_cons_of_mem _ hp, q⟩
      · dsimp only at h
        rw [if_neg hcc, List.lookup_cons, hx] at h
        obtain ⟨p, hp, q⟩ := ih h hk hr
        exact ⟨p, List.mem_cons_of_mem _ hp, q⟩
theorem lookup_relabel_free {env : Env} : ∀ {names : List (Str × NameKind)} {x : Str}, names.lookup x = some .free →
    (names.map fun (n, k) => if (k == NameKind.free && env.scope.kind == .function && env.kindOf n == some .cell) then (n, NameKind.cell) else (n, k)).lookup x = some .cell ∨
    (names.map fun (n, k) => if (k == NameKind.free && env.scope.kind == .function && env.kindOf n == some .cell) then (n, NameKind.cell) else (n, k)).lookup x = some .free
  | [], _, h => by simp at h
  | (n, kn) :: r, x, h => by
    have ih := @lookup_relabel_free env r x
    rw [List.map_cons]
    dsimp only
    cases hx : x == n with
    | true =>
      rw [List.lookup_cons, hx] at h
      have hkn : kn = .free := Option.some.inj h
      by_cases hcc : (kn == NameKind.free && env.scope.kind == .function && env.kindOf n == some .cell) = true
      · rw [if_pos hcc, List.lookup_cons, hx]; exact .inl rfl
      · rw [if_neg hcc, List.lookup_cons, hx]; exact .inr (congrArg some hkn)
    | false =>
      rw [List.lookup_cons, hx] at h
      by_cases hcc : (kn == NameKind.free && env.scope.kind == .function && env.kindOf n == some .cell) = true
      · rw [if_pos hcc, List.lookup_cons, hx]; exact ih h
      · rw [if_neg hcc, List.lookup_cons, hx]; exact ih h
theorem HOk.track {P : Program} {w : World} {H : Hp} {h : Heap} {a : Addr} {o : HO} (x : HOk P w H h) (hn : H a = none) (new : ObjOk P w (upd H a o) h a o) : HOk P w (upd H a o) h := fun b u e => by
  by_cases hb : b = a
  · subst hb; rw [upd_same] at e; cases e; exact new
  · rw [upd_ne hb] at e
    exact (x b u e).stay (fun c v _ q => q) (fun c q => by rw [upd_ne (ne_of_none q hn)]; exact q) fun c xs q => by rw [upd_ne (ne_of_none q hn)]; exact q
theorem comp_core {elt tg iter : Expr} {ifs : List Expr} {scope : Scope} {pos : Pos} {wi : TI} {g : TG} {tc : TT} {te : TE} {N : List Str} {nl : Nat} {fr : List Nat}
    (hc : X.calm = true) (hi : PI X tg iter wi) (hg : ∀ cl C s0 H0 ex, PG (compCx X N scope cl C s0 H0 ex) tg g) (ht : ∀ cl C s0 H0 ex, PIfs (compCx X N scope cl C s0 H0 ex) ifs tc)
    (he : ∀ cl C s0 H0 ex, PE (compCx X N scope cl C s0 H0 ex) elt te) (ok : CompOk X N nl fr scope)
    {RR : Value → Addr → Result → Shared → Prop} {pins : List (Addr × Obj)} {s : Shared} {σ : St} {H : Hp} {Q : VK} (I : Inv X pins σ H s) (h : tComp nl fr wi g tc te σ H Q)
    (hRR : ∀ D C s' H', Inv X pins σ H' s' → Q (.ref D) H' → FpOk X pins H' C → (∃ m, s'.heap.Ns C m) → RR (.ref D) C (.ok .next) s') :
    wpAny (model X.prog X.w) X.A (eval iter X.env) (fun x s1 => wpAny (model X.prog X.w) X.A (pyIter x) (fun it s2 => wpAny (model X.prog X.w) X.A (newList []) (fun acc s3 =>
      wpAny (model X.prog X.w) X.A (newFunctionEnv scope X.env.globals (closOf X.env scope.names []) [] X.env.qual none .none (some X.env)) (fun cenv s4 =>
        codeAny (model X.prog X.w) X.A (.compStart (.ListComp elt [⟨tg, iter, ifs, 0⟩] scope pos) 0 it acc { cenv with scope := relabel scope X.env }) (RR acc cenv.locals) s4) X.xe s3) X.xe s2) X.xe s1) X.xe s := by
  refine thn (hi pins s σ H _ I h) fun v s1 h1 => thn h1 fun itv s2 h2 => ?_
  obtain ⟨it, fp, tn, J, H2, rfl, I2, T, st2, f2, W, ⟨m0, w0⟩, turn⟩ := h2
  refine wpAny_newObj_type (wpAny_newFunctionEnv ok.cell (by intro y hy; simp at hy) (fun h1 hns1 hsb1 => ?_) ok.kind)
  dsimp only at hns1 hsb1 ⊢
  generalize hHH : s2.heap.push { cls := .type "list", dict := none, data := .seq ([] : List Value).toArray } = HH at hns1 hsb1 ⊢
  have hC : HH.objs.size = s2.heap.objs.size + 1 := by rw [← hHH, Heap.size_push]
  have hDC : s2.heap.objs.size ≠ HH.objs.size := by rw [hC]; exact Nat.ne_of_lt (Nat.lt_succ_self _)
  have hCle : s2.heap.objs.size ≤ HH.objs.size := by rw [hC]; exact Nat.le_succ _
  have below : ∀ b, b < s2.heap.objs.size → b ≠ HH.objs.size ∧ b ≠ s2.heap.objs.size := fun b hb => ⟨by rw [hC]; exact Nat.ne_of_lt (Nat.lt_succ_of_lt hb), Nat.ne_of_lt hb⟩
  have old : ∀ b o, s2.heap.get? b = some o → h1.get? b = some o := fun b o e => hsb1.extBut b o (below b (Heap.lt_size e)).1 (Heap.get?_push_of_some _ (hHH ▸ Heap.get?_push_of_some _ e))
  have hacc : h1.get? s2.heap.objs.size = some { cls := .type "list", data := .seq ([] : List Value).toArray } := hsb1.extBut _ _ hDC (Heap.get?_push_of_some _ (hHH ▸ Heap.get?_push_size _ rfl))
  have fplt : ∀ b ∈ fp, b < s2.heap.objs.size := fun b hb => by obtain ⟨o, e, _⟩ := T.obj 0 _ st2 b hb; exact Heap.lt_size e
  generalize hXd : compCx X N scope (closOf X.env scope.names []) HH.objs.size s2 H2 fp = X'
  have hfreeC : ∀ p ∈ scope.names, p.2 = .free → ∃ c, X.env.cells.lookup p.1 = some c := fun p hp hf => I.ok.has p.1 (ok.free p hp hf)
  have cellsSub : ∀ y c, (closOf X.env scope.names []).lookup y = some c → X.env.cells.lookup y = some c := closOf_sub X.env scope.names [] hfreeC (fun y c e => by simp at e)
  have cellLt : ∀ y c, X.env.cells.lookup y = some c → c < s2.heap.objs.size := fun y c e => by obtain ⟨v, z⟩ := I2.cell y c e; exact z.lt
  have ok' : X'.Ok := by
    rw [← hXd]
    refine ⟨I.ok.mod, ?_, I.ok.glob, I.ok.blt, hCle, fun x y c e1 e2 => I.ok.inj x y c (cellsSub x c e1) (cellsSub y c e2), fun x hx => ?_, fun x c hf => (by cases hf), I.ok.hd, I.ok.frames, .inl rfl,
      fun b hb => ⟨(below b (fplt b hb)).1, fun x c e => (f2 b hb).2.2.2.2.1 x c (cellsSub x c e)⟩, I2.bs, Nat.le_trans I.ok.bsz I2.sz, fun b o e hb => ?_, fun b hb hfs => ?_, I2.stack, I2.stkFree⟩
    · show (relabel scope X.env).kind = .function
      exact ok.kind
    · have hx' : ∃ p ∈ scope.names, p.1 = x ∧ p.2 = .free := by
        rcases hx with z | z
        · exact lookup_relabel z (.inl rfl) ok.cell
        · exact lookup_relabel z (.inr rfl) ok.cell
      obtain ⟨p, hp, rfl, hpf⟩ := hx'
      exact closOf_has X.env scope.names [] p hp hpf
    · rcases (f2 b hb).2.2.2.1 with z | z
      · exact I.ok.noex b o e z
      · exact absurd (Nat.lt_of_lt_of_le (Heap.lt_size e) (Nat.le_trans I.ok.bsz z)) (Nat.lt_irrefl _)
    · rcases List.mem_cons.mp (I2.stkSub b hfs) with z | z
      · exact (f2 b hb).2.1 z
      · exact (f2 b hb).2.2.1 z
  have hX'd : X'.env.locals = HH.objs.size := by rw [← hXd]; rfl
  have hX'c : X'.env.cells = closOf X.env scope.names [] := by rw [← hXd]; rfl
  have hX'pn : X'.pn = [] := by rw [← hXd]; rfl
  have hX'ex : X'.ex = fp := by rw [← hXd]; rfl
  have hX's0 : X'.s₀ = s2 := by rw [← hXd]; rfl
  have hX'H0 : X'.H₀ = H2 := by rw [← hXd]; rfl
  have hX'fs : X'.fs = frs X.stack := by rw [← hXd]; rfl
  have hX'xe : X'.xe = fun _ _ => False := by rw [← hXd]; rfl
  have hX'A : X'.A = X.A := by rw [← hXd]; rfl
  have hX'P : X'.prog = X.prog := by rw [← hXd]; rfl
  have hX'w : X'.w = X.w := by rw [← hXd]; rfl
  have hX'K : X'.K = X.K := by rw [← hXd]; rfl
  have hX'calm : X'.calm = true := by rw [← hXd]; exact hc
  have hX'env : X'.env = compEnvC scope (closOf X.env scope.names []) HH.objs.size X.env := by rw [← hXd]; rfl
  have I' : Inv X' [] (compSt nl fr σ) H2 { s2 with heap := h1, toks := s2.toks + ([] : List (Str × Value)).length } := by
    refine ⟨ok', by rw [hX's0], I2.bare, ?_, ?_, fun x c e => ?_, ?_, fun x c e => ?_, fun p hp => ?_, ?_, ?_⟩
    · rw [hX'fs, hX'ex, hX'H0, hX's0]; exact Un.kept old
    · obtain ⟨m, hn, hl⟩ := I2.loc
      rw [hX'd]
      refine ⟨_, hns1, fun i x v e1 e2 e3 => ?_⟩
      have hN' : N[i]? = some x := by rw [← hXd] at e1; exact e1
      unfold compSt at e2
      have hi : ¬ i < nl := fun hlt => by
        rw [List.getElem?_append_left (by simpa using hlt), List.getElem?_replicate, if_pos hlt] at e2
        cases e2
      rw [List.getElem?_append_right (by simpa using hi), List.length_replicate, List.getElem?_map] at e2
      cases ej : fr[i - nl]? with
      | none => rw [ej] at e2; cases e2
      | some j =>
        rw [ej] at e2
        obtain ⟨y, y1, y2, y3, y4⟩ := ok.fr (i - nl) j ej
        have hii : nl + (i - nl) = i := by omega
        rw [hii, hN'] at y1
        have hxy : x = y := Option.some.inj y1
        subst hxy
        have e2' : (σ[j]?).join = some v := Option.some.inj e2
        have e2'' : σ[j]? = some (some v) := by
          cases hσ : σ[j]? with
          | none => rw [hσ] at e2'; cases e2'
          | some z => rw [hσ] at e2'; exact congrArg some e2'
        obtain ⟨u, r, l⟩ := hl j x v y2 e2'' y3
        have hkX := ok.free (x, .free) (PySem.mem_of_lookup y4) rfl
        refine ⟨u, r, .inr ⟨?_, ?_⟩⟩
        · rw [hX'env]
          rcases lookup_relabel_free (env := X.env) y4 with z | z
          · exact .inl z
          · exact .inr z
        · rcases l with ⟨k1, _⟩ | ⟨_, c, ec, hcell⟩
          · rcases hkX with z | z
            · rw [z] at k1; cases k1
            · rw [z] at k1; cases k1
          · obtain ⟨c', ec'⟩ := closOf_has X.env scope.names [] (x, .free) (PySem.mem_of_lookup y4) rfl
            have : c' = c := by
              have q := cellsSub x c' ec'
              rw [ec] at q
              exact (Option.some.inj q).symm
            subst this
            refine ⟨c', by rw [hX'c]; exact ec', ?_⟩
            obtain ⟨oc, ho, hd⟩ := hcell
            exact ⟨oc, old _ _ ho, hd⟩
    · rw [hX'c] at e
      obtain ⟨v, oc, ho, hd⟩ := I2.cell x c (cellsSub x c e)
      exact ⟨v, oc, old _ _ ho, hd⟩
    · rw [hX'd]; exact I2.hok.fresh hCle
    · rw [hX'c] at e
      exact I2.freeC x c (cellsSub x c e)
    · rw [hX'pn] at hp; simp at hp
    · rw [hX'P, hX'w]; exact I2.hok.kept old
    · unfold compSt
      have : X'.N = N := by rw [← hXd]; rfl
      rw [this, ok.len, List.length_append, List.length_replicate, List.length_map]
  have Dn : ∀ {H' : Hp} {pins'} {s' : Shared} {σ'}, Inv X' pins' σ' H' s' → H' s2.heap.objs.size = none → ∀ o, s'.heap.get? s2.heap.objs.size = some o → (∀ v, o.data ≠ .cell v) → Inv X' [(s2.heap.objs.size, o)] σ' H' s' := fun {H' pins' s' σ'} I3 hD o ho hnc =>
    I3.pins_of fun p hp => by
      have e : p = (s2.heap.objs.size, o) := by simpa using hp
      subst e
      refine ⟨ho, hD, by rw [hX'd]; exact hDC, ?_, hnc⟩
      rw [hX'fs]
      intro hb
      rcases List.mem_cons.mp (I2.stkSub _ hb) with z | z
      · exact absurd (z ▸ I2.lt) (Nat.lt_irrefl _)
      · exact I2.nofs (Nat.le_refl _) z
  have loop : ∀ s₃ : Shared, s₃ = { s2 with heap := h1, toks := s2.toks + ([] : List (Str × Value)).length } →
      codeAny (model X.prog X.w) X.A (.compLoop (.ListComp elt [⟨tg, iter, ifs, 0⟩] scope pos) 0 (.ref it) (.ref s2.heap.objs.size) (compEnvC scope (closOf X.env scope.names []) HH.objs.size X.env)) (RR (.ref s2.heap.objs.size) HH.objs.size) s₃ := by
    rintro s₃ rfl
    refine compLoop_any (fun n s' => ∃ (i : Nat) (σ' : St) (H' : Hp) (ys : List V) (its : List Value) (k : Nat), Inv X' [(s2.heap.objs.size, { cls := .type "list", data := .seq its.toArray k })] σ' H' s' ∧ Vals ys its ∧ ys.length ≤ sizeLine ∧ tn i s'.heap ∧ (∀ b ∈ fp, H' b = none) ∧ W i n ys σ' H')
      ?_ m0 ⟨0, _, H2, [], [], 0, Dn I' (I2.hok.fresh (Nat.le_refl _)) _ hacc (fun v z => by cases z), .nil, Nat.zero_le _, T.keep 0 _ _ st2 fun b hb o e => old b o e, fun b hb => (f2 b hb).1, w0⟩
    rintro n s3 ⟨i, σ3, H3, ys, its, k, I3, rv, hyl, st3, fr3, w3⟩
    have pinD := I3.pin (s2.heap.objs.size, { cls := .type "list", data := .seq its.toArray k }) (by rw [hX'pn]; exact List.mem_append_right _ List.mem_cons_self)
    have stat : ∀ {o : Obj} {H' : Hp}, (∀ b ∈ fp, H' b = none) → ∀ b ∈ fp, FpOk X' [(s2.heap.objs.size, o)] H' b := fun {o H'} hn b hb => by
      refine ⟨hn b hb, by rw [hX'd]; exact (below b (fplt b hb)).1, fun z => ok'.exfs b (by rw [hX'ex]; exact hb) z, .inl (by rw [hX'ex]; exact hb), fun x c e => by rw [hX'c] at e; exact (f2 b hb).2.2.2.2.1 x c (cellsSub x c e), fun p hp => ?_⟩
      rw [hX'pn] at hp
      have e : p = (s2.heap.objs.size, o) := by simpa using hp
      subst e
      exact fun z => (below b (fplt b hb)).2 z.symm
    rcases turn i n ys σ3 H3 w3 with ⟨stop, qn⟩ | ⟨go, Nx, hNx, step⟩
    · have dn := T.done X' hX'P hX'w hX'K hX'calm i _ s3 σ3 H3 (fun _ _ => False) I3 (stat fr3) st3 stop
      rw [hX'A] at dn
      refine thn dn fun r s4 ⟨hr, I4⟩ => ?_
      subst hr
      have pinE := I4.pin (s2.heap.objs.size, { cls := .type "list", data := .seq its.toArray k }) (by rw [hX'pn]; exact List.mem_append_right _ List.mem_cons_self)
      have ub : Un (frs X.stack) fp H2 H3 s2.heap s4.heap := by
        have := I4.base
        rw [hX'fs, hX'ex, hX'H0, hX's0] at this
        exact this
      have hok4 : HOk X.prog X.w H3 s4.heap := by have := I4.hok; rw [hX'P, hX'w] at this; exact this
      have nD : ∀ b u, H3 b = some u → b ≠ s2.heap.objs.size := fun b u e z => by rw [z, pinE.2.1] at e; cases e
      have u2 : Un (frs X.stack) fp H2 (upd H3 s2.heap.objs.size (.lst ys)) s2.heap s4.heap :=
        ⟨ub.keep, ub.slot, fun b o e n' hx => by rw [upd_ne (Nat.ne_of_lt (Heap.lt_size e))]; exact ub.free b o e n' hx, ub.there,
          fun b xs e => by have := ub.tups b xs e; rw [upd_ne (nD b _ this)]; exact this, fun b o u e => by have := ub.frzs b o u e; rw [upd_ne (nD b _ this)]; exact this,
          fun b ps e => by obtain ⟨more, z⟩ := ub.tbls b ps e; exact ⟨more, by rw [upd_ne (nD b _ z)]; exact z⟩⟩
      have I5 : Inv X pins σ (upd H3 s2.heap.objs.size (.lst ys)) s4 := by
        refine I2.call' (by rw [I4.os, hX's0]) u2 ?_ I4.bare fun b hb => ⟨(f2 b hb).2.2.2.1, (f2 b hb).2.1, (f2 b hb).2.2.2.2.1, (f2 b hb).2.2.2.2.2⟩
        exact HOk.track hok4 pinE.2.1 ⟨hyl, its, k, rv, pinE.1⟩
      refine hRR _ _ s4 _ I5 (qn _ pinE.2.1) (I2.fpOk hCle ?_) ?_
      · rw [upd_ne (Ne.symm hDC)]
        have := I4.free
        rw [hX'd] at this
        exact this
      · obtain ⟨m, hn, _⟩ := I4.loc
        rw [hX'd] at hn
        exact ⟨m, hn⟩
    · have im := T.item X' hX'P hX'w hX'K hX'calm i _ s3 σ3 H3 (fun _ _ => False) I3 (stat fr3) st3 go
      rw [hX'A] at im
      refine thn im fun r s4 ⟨u, hr, h4⟩ => ?_
      subst hr
      refine thn h4 fun _ s5 ⟨x, H5, I5, r5, y5, st5, fr5⟩ => ?_
      have I5' := I5.pinned (stat fr5) (T.obj _ _ st5)
      have gg := hg (closOf X.env scope.names []) HH.objs.size s2 H2 fp
      rw [hXd] at gg
      have gg := gg _ s5 σ3 H5 x u _ I5' r5 (step x H5 y5)
      rw [hX'A, hX'P, hX'w, hX'xe, hX'env] at gg
      refine thn gg fun _ s6 ⟨σ6, H6, I6, q6⟩ => ?_
      have tt := ht (closOf X.env scope.names []) HH.objs.size s2 H2 fp
      rw [hXd] at tt
      have tt := tt _ s6 σ6 H6 _ I6 q6
      rw [hX'A, hX'P, hX'w, hX'xe, hX'env] at tt
      refine thn tt fun ok7 s7 ⟨H7, I7, q7⟩ => ?_
      have again : ∀ {s8 : Shared} {σ8 : St} {H8 : Hp} {ys8 : List V} {its8 : List Value} {k8 : Nat}, Inv X' ([(s2.heap.objs.size, { cls := .type "list", data := .seq its8.toArray k8 })] ++ pinsAt fp s5.heap) σ8 H8 s8 → Vals ys8 its8 → ys8.length ≤ sizeLine → Nx ys8 σ8 H8 →
          ∃ m, m < n ∧ ∃ (i : Nat) (σ' : St) (H' : Hp) (ys : List V) (its : List Value) (k : Nat), Inv X' [(s2.heap.objs.size, { cls := .type "list", data := .seq its.toArray k })] σ' H' s8 ∧ Vals ys its ∧ ys.length ≤ sizeLine ∧ tn i s8.heap ∧ (∀ b ∈ fp, H' b = none) ∧ W i m ys σ' H' :=
        fun {s8 σ8 H8 ys8 its8 k8} I8 rv8 hl8 n8 => by
          obtain ⟨m', hm, w8⟩ := hNx ys8 σ8 H8 n8
          refine ⟨m', hm, i + 1, σ8, H8, ys8, its8, k8, I8.unpinned, rv8, hl8, T.keep _ _ _ st5 fun b hb o e => (I8.pin (b, o) (List.mem_append_right _ (List.mem_append_right _ (mem_pinsAt hb e)))).1, fun b hb => ?_, w8⟩
          obtain ⟨o, e, d⟩ := T.obj _ _ st5 b hb
          exact (I8.pin (b, o) (List.mem_append_right _ (List.mem_append_right _ (mem_pinsAt hb e)))).2.1
      cases ok7 with
      | false =>
        rw [if_neg Bool.false_ne_true] at q7 ⊢
        exact again I7 rv hyl q7
      | true =>
        rw [if_pos rfl] at q7 ⊢
        have ee := he (closOf X.env scope.names []) HH.objs.size s2 H2 fp
        rw [hXd] at ee
        have ee := ee _ s7 σ6 H7 _ I7 q7
        rw [hX'A, hX'P, hX'w, hX'xe, hX'env] at ee
        refine thn ee fun yv s8 ⟨y, H8, I8, r8, hyl8, q8⟩ => ?_
        have pin8 := I8.pin (s2.heap.objs.size, { cls := .type "list", data := .seq its.toArray k }) (List.mem_append_right _ (List.mem_append_left _ List.mem_cons_self))
        refine wpAny_list_append_plain (items := its.toArray) ⟨k, pin8.1⟩ (fun h9 hp9 hs9 => ?_) (by rw [List.size_toArray, ← rv.length]; exact hyl)
        obtain ⟨k9, e9⟩ := hp9
        have I9 : Inv X' (pinsAt fp s5.heap) σ6 H8 s8 := I8.pins_of fun p hp => I8.pin p (List.mem_append_right _ (List.mem_append_right _ hp))
        have I9' : Inv X' (pinsAt fp s5.heap) σ6 H8 { s8 with heap := h9, toks := s8.toks } := by
          refine I9.turned (t' := s8.toks) (it := s2.heap.objs.size) (fun b o hb e => hs9.extBut b o hb e) pin8.2.1 (by rw [hX'd]; exact hDC) (.inr (by rw [hX's0]; exact Nat.le_refl _)) (fun x c e z => ?_) fun p hp z => ?_
          · rw [hX'c] at e
            exact absurd (z ▸ cellLt x c (cellsSub x c e)) (Nat.lt_irrefl _)
          · rw [hX'pn] at hp
            obtain ⟨hb, _⟩ := of_pinsAt (by simpa using hp)
            exact absurd (z ▸ fplt _ hb) (Nat.lt_irrefl _)
        have e9' : h9.get? s2.heap.objs.size = some { cls := .type "list", data := .seq (its ++ [yv]).toArray k9 } := by rw [e9]; simp
        refine again (ys8 := ys ++ [y]) (its8 := its ++ [yv]) (k8 := k9) ?_ (Vals.append rv (.cons r8 .nil)) (by rw [List.length_append]; exact hyl8) q8
        refine I9'.pins_of fun p hp => ?_
        rcases List.mem_append.mp hp with z | z
        · have e : p = (s2.heap.objs.size, { cls := .type "list", data := .seq (its ++ [yv]).toArray k9 }) := by simpa using z
          subst e
          exact ⟨e9', pin8.2.1, pin8.2.2.1, pin8.2.2.2.1, fun v z => by cases z⟩
        · exact I9'.pin p (List.mem_append_right _ z)
  exact codeAny_compStart_list (loop _ rfl) (T.self X.A 0 _ _ _ (T.keep 0 _ _ st2 fun b hb o e => old b o e) (loop _ rfl))
end
end L2
namespace L2
open PySem PySem.Spec PyProof.Rows
section
variable {X : Cx}
theorem pe_comp {elt tg iter : Expr} {ifs : List Expr} {scope : Scope} {pos : Pos} {wi : TI} {g : TG} {tc : TT} {te : TE} {N : List Str} {nl : Nat} {fr : List Nat}
    (hc : X.calm = true) (ok : CompOk X N nl fr scope) (hi : PI X tg iter wi) (hg : ∀ cl C s0 H0 ex, PG (compCx X N scope cl C s0 H0 ex) tg g) (ht : ∀ cl C s0 H0 ex, PIfs (compCx X N scope cl C s0 H0 ex) ifs tc)
    (he : ∀ cl C s0 H0 ex, PE (compCx X N scope cl C s0 H0 ex) elt te) (hs : ∀ x, foldedSetIterable iter X.env x = pure x := by intro _; rfl) :
    PE X (.ListComp elt [⟨tg, iter, ifs, 0⟩] scope pos) (tComp nl fr wi g tc te) := by
  intro pins s σ H Q I h
  have hclos : closureFor scope X.env = pure (closOf X.env scope.names []) := closureFor_eq fun p hp hf => I.ok.has p.1 (ok.free p hp hf)
  rw [eval_ListComp]
  refine wpAny_comprehension_free (use := none) rfl hs hclos ok.kind ok.names (comp_core (RR := fun acc C => compPost (model X.prog X.w) X.A X.xe none (EP X pins σ Q) acc C) hc hi hg ht he ok I h ?_)
  intro D C s' H' I' q f ⟨m, hn⟩
  exact ⟨m, hn, fun h' hs' => ⟨.ref D, H', I'.turned (t' := s'.toks) (fun b o hb e => hs'.extBut b o hb e) f.1 f.2.1 f.2.2.2.1 f.2.2.2.2.1 f.2.2.2.2.2, rfl, q⟩⟩
theorem comp_list {K : PySem.W.Frag} {a : Addr} {xs : List V} {g : TG} {tc : TT} {te : TE} {σ0 : St} {H : Hp} {Q : VK} (Pv : Nat → List V → St → Hp → Prop) (h0 : Pv 0 [] σ0 H) (hl : ∀ i ys σ H, i ≤ xs.length → Pv i ys σ H → SqL K H a xs)
    (hs : ∀ i x ys σ H, xs[i]? = some x → Pv i ys σ H → g x σ H fun σ2 H2 => tc σ2 H2 fun b H4 => if b = true then te σ2 H4 fun y H5 => ys.length < sizeLine ∧ Pv (i + 1) (ys ++ [y]) σ2 H5 else Pv (i + 1) ys σ2 H4)
    (hd : ∀ ys σ H, Pv xs.length ys σ H → ∀ D, H D = none → Q (.ref D) (upd H D (.lst ys))) :
    CompW (Itl K a) g tc te Q σ0 H := by
  refine ⟨fun i m ys σ H => m = xs.length - i ∧ i ≤ xs.length ∧ Pv i ys σ H, ⟨xs.length, by simp, Nat.zero_le _, h0⟩, ?_⟩
  rintro i m ys σ H ⟨rfl, hi, p⟩
  have q := hl i ys σ H hi p
  by_cases hlt : i < xs.length
  · refine .inr ⟨⟨xs, xs[i], q, by simp [hlt]⟩, Pv (i + 1), fun ys' σ' H' p' => ⟨xs.length - (i + 1), by omega, rfl, hlt, p'⟩, fun x H' y => ?_⟩
    obtain ⟨e, y⟩ := y
    subst e
    exact hs i x ys σ _ (y xs q) p
  · have e : i = xs.length := by omega
    subst e
    exact .inl ⟨⟨xs, q, Nat.le_refl _⟩, hd ys σ H p⟩
theorem comp_range {lo : Int} {n : Nat} {g : TG} {tc : TT} {te : TE} {σ0 : St} {H : Hp} {Q : VK} (Pv : Nat → List V → St → Hp → Prop) (h0 : Pv 0 [] σ0 H)
    (hs : ∀ i ys σ H, i < n → Pv i ys σ H → g (.int (lo + i)) σ H fun σ2 H2 => tc σ2 H2 fun b H4 => if b = true then te σ2 H4 fun y H5 => ys.length < sizeLine ∧ Pv (i + 1) (ys ++ [y]) σ2 H5 else Pv (i + 1) ys σ2 H4)
    (hd : ∀ ys σ H, Pv n ys σ H → ∀ D, H D = none → Q (.ref D) (upd H D (.lst ys))) :
    CompW (Itr lo n) g tc te Q σ0 H := by
  refine ⟨fun i m ys σ H => m = n - i ∧ i ≤ n ∧ Pv i ys σ H, ⟨n, by simp, Nat.zero_le _, h0⟩, ?_⟩
  rintro i m ys σ H ⟨rfl, hi, p⟩
  by_cases hlt : i < n
  · refine .inr ⟨hlt, Pv (i + 1), fun ys' σ' H' p' => ⟨n - (i + 1), by omega, rfl, hlt, p'⟩, fun x H' y => ?_⟩
    obtain ⟨e, y⟩ := y
    subst e y
    exact hs i ys σ _ hlt p
  · have e : i = n := by omega
    subst e
    exact .inl ⟨Nat.le_refl _, hd ys σ H p⟩
inductive EqD (K : PySem.W.Frag) (H : Hp) : Nat → V → V → Bool → Prop where
  | flat {n : Nat} {x y : V} : flatV x = true → flatV y = true → EqD K H n x y (eqV x y)
  | same {n : Nat} (a : Addr) : EqD K H n (.ref a) (.ref a) true
  | lists {n : Nat} {a b : Addr} {xs ys : List V} (e : Nat → Bool) : a ≠ b → SqL K H a xs → SqL K H b ys → xs.length = ys.length → (∀ (j : Nat) x y, xs[j]? = some x → ys[j]? = some y → EqD K H n x y (e j)) → EqD K H (n + 1) (.ref a) (.ref b) ((List.range xs.length).all e)
  | lens {n : Nat} {a b : Addr} {xs ys : List V} : a ≠ b → SqL K H a xs → SqL K H b ys → xs.length ≠ ys.length → EqD K H (n + 1) (.ref a) (.ref b) false
theorem eqAt_D {pins : List (Addr × Obj)} {σ : St} {H : Hp} {s : Shared} (I : Inv X pins σ H s) {n : Nat} {x y : V} {b : Bool} (d : EqD X.K H n x y b) :
    ∀ {A : Around} {u v : Value}, A.units + n < cLine → RelV x u → RelV y v → SeqAt.EqAt A s u v b := by
  induction d with
  | flat fx fy => intro A u v _ rx ry; exact eqAt_V rx ry fx fy
  | same a => intro A u v _ rx ry; cases rx; cases ry; exact SeqAt.EqAt.same _
  | @lists n a c xs ys e ne ha hb hl _ ih =>
    intro A u v hu rx ry
    cases rx; cases ry
    obtain ⟨its, r1, p1, _⟩ := I.list ha
    obtain ⟨its2, r2, p2, _⟩ := I.list hb
    have l1 := r1.length
    have l2 := r2.length
    refine SeqAt.EqAt.of_refs ne ?_
    have q := SeqAt.RcAt.lists (A := A) (e := e) p1.isList p2.isList (by rw [List.size_toArray, List.size_toArray]; omega) (by omega) (fun j h1 h2 => by
      have h1' : j < its.length := by simpa using h1
      have h2' : j < its2.length := by simpa using h2
      have e1 : xs[j]? = some (xs[j]'(by omega)) := List.getElem?_eq_getElem _
      have e2 : ys[j]? = some (ys[j]'(by omega)) := List.getElem?_eq_getElem _
      obtain ⟨u1, z1, q1⟩ := r1.get e1
      obtain ⟨u2, z2, q2⟩ := r2.get e2
      have w1 : its.toArray[j] = u1 := by
        rw [List.getElem?_eq_getElem h1'] at z1
        simpa using z1
      have w2 : its2.toArray[j] = u2 := by
        rw [List.getElem?_eq_getElem h2'] at z2
        simpa using z2
      rw [w1, w2]
      exact ih j _ _ e1 e2 (by show A.in1.units + n < cLine; have : A.in1.units = A.units + 1 := by first | rfl | simp [Around.in1]
                               omega) q1 q2)
    rw [List.size_toArray, ← l1] at q
    exact q
  | lens ne ha hb hl =>
    intro A u v hu rx ry
    cases rx; cases ry
    obtain ⟨its, r1, p1, _⟩ := I.list ha
    obtain ⟨its2, r2, p2, _⟩ := I.list hb
    have l1 := r1.length
    have l2 := r2.length
    exact SeqAt.EqAt.of_refs ne (SeqAt.RcAt.lists_lengths p1.isList p2.isList (by rw [List.size_toArray, List.size_toArray]; simp; omega) (by omega))
def LEq (K : PySem.W.Frag) (H : Hp) (n : Nat) (xs ys : List V) (r : Bool) : Prop :=
  (xs.length ≠ ys.length ∧ r = false) ∨ (∃ e : Nat → Bool, xs.length = ys.length ∧ (∀ (j : Nat) x y, xs[j]? = some x → ys[j]? = some y → EqD K H n x y (e j)) ∧ r = (List.range xs.length).all e)
theorem leq_rc {pins : List (Addr × Obj)} {σ : St} {H : Hp} {s : Shared} (I : Inv X pins σ H s) {A : Around} {n : Nat} {a b : Addr} {xs ys : List V} {r : Bool} (hu : A.units + n + 1 < cLine) (ha : SqL X.K H a xs) (hb : SqL X.K H b ys) (d : LEq X.K H n xs ys r) :
    SeqAt.RcAt A s (.ref a) (.ref b) r := by
  obtain ⟨its, r1, p1, _⟩ := I.list ha
  obtain ⟨its2, r2, p2, _⟩ := I.list hb
  have l1 := r1.length
  have l2 := r2.length
  rcases d with ⟨hl, rfl⟩ | ⟨e, hl, he, rfl⟩
  · exact SeqAt.RcAt.lists_lengths p1.isList p2.isList (by rw [List.size_toArray, List.size_toArray]; simp; omega) (by omega)
  · have q := SeqAt.RcAt.lists (A := A) (e := e) p1.isList p2.isList (by rw [List.size_toArray, List.size_toArray]; omega) (by omega) (fun j h1 h2 => by
      have h1' : j < its.length := by simpa using h1
      have h2' : j < its2.length := by simpa using h2
      have e1 : xs[j]? = some (xs[j]'(by omega)) := List.getElem?_eq_getElem _
      have e2 : ys[j]? = some (ys[j]'(by omega)) := List.getElem?_eq_getElem _
      obtain ⟨u1, z1, q1⟩ := r1.get e1
      obtain ⟨u2, z2, q2⟩ := r2.get e2
      have w1 : its.toArray[j] = u1 := by
        rw [List.getElem?_eq_getElem h1'] at z1
        simpa using z1
      have w2 : its2.toArray[j] = u2 := by
        rw [List.getElem?_eq_getElem h2'] at z2
        simpa using z2
      rw [w1, w2]
      exact eqAt_D I (he j _ _ e1 e2) (by show A.in1.units + n < cLine; have : A.in1.units = A.units + 1 := by first | rfl | simp [Around.in1]
                                          omega) q1 q2)
    rw [List.size_toArray, ← l1] at q
    exact q
end
end L2
namespace L2
open PySem PySem.Spec PyProof.Rows
section
variable {X : Cx}
theorem leq_rcNe {pins : List (Addr × Obj)} {σ : St} {H : Hp} {s : Shared} (I : Inv X pins σ H s) {A : Around} {n : Nat} {a b : Addr} {xs ys : List V} {r : Bool} (hu : A.units + n + 1 < cLine) (ha : SqL X.K H a xs) (hb : SqL X.K H b ys) (d : LEq X.K H n xs ys r) :
    SeqAt.RcNeAt A s (.ref a) (.ref b) (!r) := by
  obtain ⟨its, r1, p1, _⟩ := I.list ha
  obtain ⟨its2, r2, p2, _⟩ := I.list hb
  have l1 := r1.length
  have l2 := r2.length
  rcases d with ⟨hl, rfl⟩ | ⟨e, hl, he, rfl⟩
  · exact SeqAt.RcNeAt.lists_lengths p1.isList p2.isList (by rw [List.size_toArray, List.size_toArray]; simp; omega) (by omega)
  · have q := SeqAt.RcNeAt.lists (A := A) (e := e) p1.isList p2.isList (by rw [List.size_toArray, List.size_toArray]; omega) (by omega) (fun j h1 h2 => by
      have h1' : j < its.length := by simpa using h1
      have h2' : j < its2.length := by simpa using h2
      have e1 : xs[j]? = some (xs[j]'(by omega)) := List.getElem?_eq_getElem _
      have e2 : ys[j]? = some (ys[j]'(by omega)) := List.getElem?_eq_getElem _
      obtain ⟨u1, z1, q1⟩ := r1.get e1
      obtain ⟨u2, z2, q2⟩ := r2.get e2
      have w1 : its.toArray[j] = u1 := by
        rw [List.getElem?_eq_getElem h1'] at z1
        simpa using z1
      have w2 : its2.toArray[j] = u2 := by
        rw [List.getElem?_eq_getElem h2'] at z2
        simpa using z2
      rw [w1, w2]
      exact eqAt_D I (he j _ _ e1 e2) (by show A.in1.units + n < cLine; have : A.in1.units = A.units + 1 := by first | rfl | simp [Around.in1]
                                          omega) q1 q2)
    rw [List.size_toArray, ← l1] at q
    exact q
def rEqL (K : PySem.W.Frag) (n : Nat) (neg : Bool) : R2 := fun x y H Q => ∃ a b xs ys r, x = .ref a ∧ y = .ref b ∧ SqL K H a xs ∧ SqL K H b ys ∧ LEq K H n xs ys r ∧ Q (.bl (if neg then !r else r)) H
theorem op_eqL (n : Nat) (hu : X.A.units + n + 1 < cLine) : OpR X (compareOp .Eq) (rEqL X.K n false) := by
  intro pins s σ H x y v u Q I rx ry h
  obtain ⟨a, b, xs, ys, r, rfl, rfl, ha, hb, d, q⟩ := h
  cases rx; cases ry
  exact leq_rc I hu ha hb d _ _ _ _ ⟨.bl r, H, I, rfl, q⟩
theorem op_neL (n : Nat) (hu : X.A.units + n + 1 < cLine) : OpR X (compareOp .NotEq) (rEqL X.K n true) := by
  intro pins s σ H x y v u Q I rx ry h
  obtain ⟨a, b, xs, ys, r, rfl, rfl, ha, hb, d, q⟩ := h
  cases rx; cases ry
  exact leq_rcNe I hu ha hb d _ _ _ _ ⟨.bl (!r), H, I, rfl, q⟩
theorem all_range_iff {n : Nat} {e : Nat → Bool} : (List.range n).all e = true ↔ ∀ j, j < n → e j = true := by
  rw [List.all_eq_true]
  exact ⟨fun h j hj => h j (List.mem_range.mpr hj), fun h j hj => h j (List.mem_range.mp hj)⟩
theorem leq_ints (K : PySem.W.Frag) (H : Hp) (n : Nat) (ns ms : List Int) : LEq K H n (ns.map V.int) (ms.map V.int) (decide (ns = ms)) := by
  by_cases hl : ns.length = ms.length
  · refine .inr ⟨fun j => decide (ns[j]? = ms[j]?), by simpa using hl, fun j x y e1 e2 => ?_, ?_⟩
    · rw [List.getElem?_map] at e1 e2
      cases h1 : ns[j]? with
      | none => rw [h1] at e1; cases e1
      | some a =>
        cases h2 : ms[j]? with
        | none => rw [h2] at e2; cases e2
        | some b =>
          rw [h1] at e1; rw [h2] at e2
          cases e1; cases e2
          have q : EqD K H n (V.int a) (V.int b) (eqV (V.int a) (V.int b)) := .flat rfl rfl
          have e : eqV (V.int a) (V.int b) = decide (some a = some b) := by
            show (a == b) = _
            by_cases z : a = b
            · subst z; simp
            · rw [decide_eq_false (fun w => z (Option.some.inj w))]; simpa using z
          rw [e] at q
          show EqD K H n _ _ (decide (ns[j]? = ms[j]?))
          rw [h1, h2]
          exact q
    · rw [Bool.eq_iff_iff, decide_eq_true_iff, all_range_iff]
      constructor
      · intro h j _; subst h; simp
      · intro h
        refine List.ext_getElem? fun j => ?_
        by_cases hj : j < ns.length
        · exact of_decide_eq_true (h j (by simpa using hj))
        · rw [List.getElem?_eq_none (by omega), List.getElem?_eq_none (by omega)]
  · refine .inl ⟨by simpa using hl, ?_⟩
    exact decide_eq_false fun h => hl (by rw [h])
def Rows (K : PySem.W.Frag) (H : Hp) (as : List Addr) (rs : List (List Int)) : Prop := as.length = rs.length ∧ ∀ (j : Nat) a r, as[j]? = some a → rs[j]? = some r → SqL K H a (r.map V.int)
theorem leq_rows {K : PySem.W.Frag} {H : Hp} {as bs : List Addr} {rs qs : List (List Int)} (ha : Rows K H as rs) (hb : Rows K H bs qs) (inj : ∀ p xs ys, SqL K H p xs → SqL K H p ys → xs = ys) : LEq K H 1 (as.map V.ref) (bs.map V.ref) (decide (rs = qs)) := by
  by_cases hl : as.length = bs.length
  · refine .inr ⟨fun j => decide (rs[j]? = qs[j]?), by simpa using hl, fun j x y e1 e2 => ?_, ?_⟩
    · rw [List.getElem?_map] at e1 e2
      cases h1 : as[j]? with
      | none => rw [h1] at e1; cases e1
      | some a =>
        cases h2 : bs[j]? with
        | none => rw [h2] at e2; cases e2
        | some b =>
          rw [h1] at e1; rw [h2] at e2
          cases e1; cases e2
          have j1 : j < as.length := (List.getElem?_eq_some_iff.mp h1).1
          have k1 : rs[j]? = some (rs[j]'(by rw [← ha.1]; exact j1)) := List.getElem?_eq_getElem _
          have k2 : qs[j]? = some (qs[j]'(by rw [← hb.1, ← hl]; exact j1)) := List.getElem?_eq_getElem _
          have q1 := ha.2 j a _ h1 k1
          have q2 := hb.2 j b _ h2 k2
          show EqD K H 1 _ _ (decide (rs[j]? = qs[j]?))
          rw [k1, k2]
          by_cases hab : a = b
          · subst hab
            have e : (rs[j]'(by rw [← ha.1]; exact j1)).map V.int = (qs[j]'(by rw [← hb.1, ← hl]; exact j1)).map V.int := inj a _ _ q1 q2
            have e' := List.map_inj_right (fun x y (h : V.int x = V.int y) => V.int.inj h) |>.mp e
            rw [e', decide_eq_true rfl]
            exact .same a
          · generalize (rs[j]'(by rw [← ha.1]; exact j1)) = r at q1 ⊢
            generalize (qs[j]'(by rw [← hb.1, ← hl]; exact j1)) = q at q2 ⊢
            rcases leq_ints K H 0 r q with ⟨h3, h4⟩ | ⟨e, h3, h4, h5⟩
            · have := EqD.lens (n := 0) hab q1 q2 h3
              rw [decide_eq_false (fun z => by
                have z' : r = q := Option.some.inj z
                exact h3 (by rw [z']))]
              exact this
            · have := EqD.lists (n := 0) e hab q1 q2 h3 h4
              rw [← h5] at this
              have e6 : decide (r = q) = decide (some r = some q) := by
                by_cases z : r = q
                · subst z; simp
                · rw [decide_eq_false z, decide_eq_false fun w => z (Option.some.inj w)]
              rw [← e6]
              exact this
    · rw [Bool.eq_iff_iff, decide_eq_true_iff, all_range_iff]
      constructor
      · intro h j _; subst h; simp
      · intro h
        refine List.ext_getElem? fun j => ?_
        by_cases hj : j < rs.length
        · exact of_decide_eq_true (h j (by rw [List.length_map, ha.1]; exact hj))
        · rw [List.getElem?_eq_none (by omega), List.getElem?_eq_none (by rw [← hb.1, ← hl, ha.1]; omega)]
  · refine .inl ⟨by simpa using hl, ?_⟩
    exact decide_eq_false fun h => hl (by rw [ha.1, hb.1, h])
end
end L2
namespace L2
open PySem PySem.Spec PyProof.Rows
section
variable {X : Cx}
theorem call_isi : CallR X (.builtin "isinstance") (fun xs H Q => ∃ x n t b, xs = [x, .ty n] ∧ TyOf X.K H x t ∧ PySem.W.kitOne X.K t (.type n) = some b ∧ Q (.bl b) H) := by
  intro pins s σ H xs us Q I r h
  obtain ⟨x, n, t, b, rfl, ty, e, q⟩ := h
  obtain ⟨u, w', rfl, rx, ry⟩ := vals2 r
  cases (show w' = Value.type n from ry)
  exact isinst_ok I rx ty e fun tk => ⟨.bl b, H, I.tok tk, rfl, q⟩
theorem kit_same (K : PySem.W.Frag) (n : String) : PySem.W.kitOne K (.type n) (.type n) = some true := by
  unfold PySem.W.kitOne
  rw [if_pos (beq_self_eq_true _)]
theorem kit_int_bool (K : PySem.W.Frag) : PySem.W.kitOne K (.type "int") (.type "bool") = some false := by
  unfold PySem.W.kitOne PySem.W.kitCls
  rw [if_neg (by decide +kernel)]
  show (if PySem.W.kitMeta "bool" = true then (fastBuiltinMro "int").map (·.contains (Value.type "bool")) else none) = some false
  rw [if_pos (by decide +kernel)]
  decide +kernel
theorem boot_int : bootBuiltins "int" = some (.type "int") := by decide +kernel
theorem boot_bool : bootBuiltins "bool" = some (.type "bool") := by decide +kernel
theorem boot_listT : bootBuiltins "list" = some (.type "list") := by decide +kernel
theorem boot_isi : bootBuiltins "isinstance" = some (.builtin "isinstance") := by decide +kernel
theorem boot_minB : bootBuiltins "min" = some (.builtin "min") := by decide +kernel
theorem boot_maxB : bootBuiltins "max" = some (.builtin "max") := by decide +kernel
end
def KeepBut (a : Addr) (H H' : Hp) : Prop := ∀ b o, H b = some o → b ≠ a → H' b = some o
theorem KeepBut.refl (a : Addr) (H : Hp) : KeepBut a H H := fun _ _ h _ => h
theorem KeepBut.trans {a : Addr} {H H1 H2 : Hp} (x : KeepBut a H H1) (y : KeepBut a H1 H2) : KeepBut a H H2 := fun b o h n => y b o (x b o h n) n
theorem Same.upd_new {H : Hp} {p : Addr} {o : HO} (h : H p = none) : Same H (upd H p o) := fun b u e => by rw [upd_ne (ne_of_none e h)]; exact e
theorem KeepBut.upd {H : Hp} {a : Addr} {o : HO} : KeepBut a H (upd H a o) := fun b u e n => by rw [upd_ne n]; exact e
theorem Same.upd_r {H H' : Hp} {p : Addr} {o : HO} (s : Same H H') (h : H p = none) : Same H (L2.upd H' p o) := fun b u e => by rw [upd_ne (ne_of_none e h)]; exact s b u e
def PoolAt (H : Hp) (a : Addr) (c : Nat) : Prop := ∃ x y z : Int, H a = some (.lst [.int x, .int y, .int z]) ∧ 0 ≤ z ∧ z ≤ c
end L2
namespace L2
open PySem PySem.Spec PyProof.Rows
def Cal (P : Program) (w : World) (K : PySem.W.Frag) (mg : Str → Option Value) (base : Heap) (x : Str) (k : Nat) (ps : List Str) (sp : Sp) : Prop :=
  ∃ (f : Addr) (fd : FuncData), mg x = some (.ref f) ∧ PySem.W.keepIn K (.ref f) = true ∧ Binds K fd ps [] ∧ FnOk P w K mg base CX0 k f fd ps sp
section
variable {X : Cx} {x : Str} {p pos : Pos} {e : Expr} {es : List Expr} {t : TA} {k : Nat} {ps : List Str} {sp : Sp}
theorem pe_cal (c : Cal X.prog X.w X.K X.mg X.base x k ps sp) (hr : Room k X.A) (ha : PA X (e :: es) t) (hg : Gl X x := by rfl) (hdb : (x == ("__debug__" : Str)) = false := by decide)
    (he : starEach (e :: es) X.env = (false, eval e X.env) :: starEach es X.env := by rfl) (hpl : (backTo pos (starEach es X.env)).any (·.1) = false := by rfl) :
    PE X (.Call (.Name x p) (e :: es) [] pos) (tCall sp [] E0 t) := by
  obtain ⟨f, fd, h1, h2, h3, h4⟩ := c
  exact pe_call h4 hr hg h1 h2 h3 .nil pass0 ha hdb he hpl
theorem pe_isi {a b : Expr} {ta : TA} (hm : X.mg "isinstance" = none) (ha : PA X [a, b] ta) (hg : Gl X "isinstance" := by rfl)
    (he : starEach [a, b] X.env = (false, eval a X.env) :: starEach [b] X.env := by rfl) (hpl : (backTo pos (starEach [b] X.env)).any (·.1) = false := by rfl) :
    PE X (.Call (.Name "isinstance" p) [a, b] [] pos) (tCB (fun xs H Q => ∃ x n t b, xs = [x, .ty n] ∧ TyOf X.K H x t ∧ PySem.W.kitOne X.K t (.type n) = some b ∧ Q (.bl b) H) ta) :=
  pe_callB call_isi hg hm boot_isi ha (by decide) (by decide) he hpl
theorem pe_tyInt (hm : X.mg "int" = none) (hg : Gl X "int" := by rfl) : PE X (.Name "int" p) (tC (.ty "int")) := pe_bltn hg hm boot_int rfl
theorem pe_tyBool (hm : X.mg "bool" = none) (hg : Gl X "bool" := by rfl) : PE X (.Name "bool" p) (tC (.ty "bool")) := pe_bltn hg hm boot_bool rfl
theorem pe_tyList (hm : X.mg "list" = none) (hg : Gl X "list" := by rfl) : PE X (.Name "list" p) (tC (.ty "list")) := pe_bltn hg hm boot_listT rfl
theorem pe_lenL (hm : X.mg "len" = none) (ha : PA X [e] t) (hg : Gl X "len" := by rfl)
    (he : starEach [e] X.env = (false, eval e X.env) :: starEach [] X.env := by rfl) : PE X (.Call (.Name "len" p) [e] [] pos) (tCB (fun xs H Q => ∃ p ys, xs = [.ref p] ∧ (SqL X.K H p ys ∨ SqT X.K H p ys) ∧ Q (.int ys.length) H) t) :=
  pe_callB call_len_seq hg hm PySem.boot_len ha (by decide) (by decide) he rfl
end
end L2
namespace Mth
end Mth
namespace L2
open PySem PySem.Spec PyProof.Rows
theorem CompOk.of {X : Cx} {N : List Str} {nl : Nat} {fr : List Nat} {scope : Scope} (h1 : (scope.names.all fun y => y.2 != .cell) = true := by rfl) (h2 : scope.kind = .function := by rfl)
    (h3 : (scope.names.all fun y => y.2 != .local || scope.names.lookup y.1 == some .local) = true := by rfl)
    (h4 : (scope.names.all fun p => p.2 != .free || (X.env.kindOf p.1 == some .cell || X.env.kindOf p.1 == some .free)) = true := by rfl) (h5 : N.length = nl + fr.length := by rfl)
    (h6 : ((List.range fr.length).all fun k => match fr[k]? with
      | some j => (match N[nl + k]?, X.N[j]? with
        | some y, some z => y == z && (X.env.scope.names.lookup y == some .local || X.env.scope.names.lookup y == some .cell || X.env.scope.names.lookup y == some .free) && scope.names.lookup y == some .free
        | _, _ => false)
      | none => false) = true := by rfl) : CompOk X N nl fr scope where
  cell := fun y hy e => by
    have := List.all_eq_true.mp h1 y hy
    rw [e] at this; exact absurd this (by decide)
  kind := h2
  names := fun y hy e => by
    have := List.all_eq_true.mp h3 y hy
    rw [e] at this
    have q : (scope.names.lookup y.1 == some NameKind.local) = true := by simpa using this
    exact eq_of_beq q
  free := fun p hp e => by
    have := List.all_eq_true.mp h4 p hp
    rw [e] at this
    have q : (X.env.kindOf p.1 == some NameKind.cell || X.env.kindOf p.1 == some NameKind.free) = true := by simpa using this
    rcases Bool.or_eq_true _ _ |>.mp q with z | z
    · exact .inl (eq_of_beq z)
    · exact .inr (eq_of_beq z)
  len := h5
  fr := fun k j e => by
    have hk : k < fr.length := (List.getElem?_eq_some_iff.mp e).1
    have := List.all_eq_true.mp h6 k (List.mem_range.mpr hk)
    rw [e] at this
    dsimp only at this
    cases e1 : N[nl + k]? with
    | none => rw [e1] at this; cases this
    | some y =>
      cases e2 : X.N[j]? with
      | none => rw [e1, e2] at this; cases this
      | some z =>
        rw [e1, e2] at this
        dsimp only at this
        rw [Bool.and_eq_true, Bool.and_eq_true] at this
        obtain ⟨⟨q1, q2⟩, q3⟩ := this
        have hyz : y = z := eq_of_beq q1
        subst hyz
        refine ⟨y, rfl, rfl, ?_, eq_of_beq q3⟩
        rw [Bool.or_eq_true, Bool.or_eq_true] at q2
        rcases q2 with (q | q) | q
        · exact .inl (eq_of_beq q)
        · exact .inr (.inl (eq_of_beq q))
        · exact .inr (.inr (eq_of_beq q))
theorem getElem_int {ns : List Int} {i : Nat} {y : V} (h : (ns.map V.int)[i]? = some y) : ∃ z, ns[i]? = some z ∧ y = .int z := by
  rw [List.getElem?_map] at h
  cases e : ns[i]? with
  | none => rw [e] at h; cases h
  | some z => rw [e] at h; exact ⟨z, rfl, (Option.some.inj h).symm⟩
theorem take_succ_of {α : Type} {l : List α} {i : Nat} {x : α} (h : l[i]? = some x) : l.take (i + 1) = l.take i ++ [x] := by
  rw [List.take_add_one, h]
  rfl
end L2
namespace Mth
theorem atI_map {p : List Int} {i : Int} (h0 : 0 ≤ i) (h1 : i < p.length) : L2.atI (p.map L2.V.int) i = some (.int (p.getD i.toNat 0)) := by
  obtain ⟨j, rfl⟩ := Int.eq_ofNat_of_zero_le h0
  refine L2.atI_nat ?_
  have hj : j < p.length := by omega
  rw [List.getElem?_map, List.getElem?_eq_getElem hj]
  show some (L2.V.int p[j]) = _
  rw [Int.toNat_natCast]
  rw [List.getD_eq_getElem?_getD, List.getElem?_eq_getElem hj]
  rfl
end Mth
namespace L2
open PySem PySem.Spec PyProof.Rows
theorem leq_nil (K : PySem.W.Frag) (H : Hp) (n : Nat) (xs : List V) : LEq K H n xs [] xs.isEmpty := by
  cases xs with
  | nil => exact .inr ⟨fun _ => true, rfl, fun j x y e => by simp at e, rfl⟩
  | cons x r => exact .inl ⟨by simp, rfl⟩
section
variable {X : Cx} {p pos apos : Pos} {e o : Expr} {es : List Expr} {t : TA} {to : TE}
theorem pe_append (ho : PE X o to) (ha : PA X [e] t)
    (hbase : attributeBase o "append" X.env (eval o X.env) = eval o X.env := by rfl)
    (hfew : ((backTo pos (starEach [e] X.env)).all (fun x => !x.1) && (backToKw pos (keywordEach [] X.env)).all (fun x => x.1.isSome)
      && decide ([e].length + ([] : List Keyword).length + (if ([] : List Keyword).isEmpty then 0 else 1) < 30)) = true := by rfl)
    (hline : (apos.endLine == pos.line) = true := by rfl) (hs : starEach [e] X.env = (false, eval e X.env) :: starEach [] X.env := by rfl) (hplain : (backTo pos (starEach [] X.env)).any (·.1) = false := by rfl) :
    PE X (.Call (.Attribute o "append" apos) [e] [] pos) (tBM X.K "list" rAppend to t) :=
  pe_bm PySem.F.plainAttrs_list PySem.F.slot_list_append PySem.F.type_list_append mt_append ho ha hbase hfew hline hs hplain
theorem pe_min2 {a b : Expr} (hc : X.calm = true) (hm : X.mg "min" = none) (ha : PA X [a, b] t) (hg : Gl X "min" := by rfl) (he : starEach [a, b] X.env = (false, eval a X.env) :: starEach [b] X.env := by rfl) (hpl : (backTo pos (starEach [b] X.env)).any (·.1) = false := by rfl) :
    PE X (.Call (.Name "min" p) [a, b] [] pos) (tCB (fun xs H Q => ∃ i j, xs = [.int i, .int j] ∧ Q (.int (if j < i then j else i)) H) t) :=
  pe_callB (call_min2 hc) hg hm boot_minB ha (by decide) (by decide) he hpl
theorem pe_max2 {a b : Expr} (hc : X.calm = true) (hm : X.mg "max" = none) (ha : PA X [a, b] t) (hg : Gl X "max" := by rfl) (he : starEach [a, b] X.env = (false, eval a X.env) :: starEach [b] X.env := by rfl) (hpl : (backTo pos (starEach [b] X.env)).any (·.1) = false := by rfl) :
    PE X (.Call (.Name "max" p) [a, b] [] pos) (tCB (fun xs H Q => ∃ i j, xs = [.int i, .int j] ∧ Q (.int (if j > i then j else i)) H) t) :=
  pe_callB (call_max2 hc) hg hm boot_maxB ha (by decide) (by decide) he hpl
end
end L2
namespace Mth
theorem take_bound {u s : Int} (h1 : 0 ≤ u) (h2 : u < 10000001000) (h3 : 0 ≤ s) (h4 : s ≤ 1000001) : 0 ≤ u * (37 * s + 67) + 3557 * s * s ∧ u * (37 * s + 67) + 3557 * s * s < 2 ^ 64 := by
  have a1 : 0 ≤ 37 * s + 67 := by omega
  have a2 : 37 * s + 67 ≤ 37000200 := by omega
  have b1 : 0 ≤ u * (37 * s + 67) := Int.mul_nonneg h1 a1
  have b2 : u * (37 * s + 67) ≤ 10000001000 * 37000200 := Int.mul_le_mul (by omega) a2 a1 (by omega)
  have c0 : 0 ≤ 3557 * s := by omega
  have c1 : 0 ≤ 3557 * s * s := Int.mul_nonneg c0 h3
  have c2 : 3557 * s * s ≤ (3557 * 1000001) * 1000001 := Int.mul_le_mul (by omega) h4 h3 (by omega)
  have e : (2 : Int) ^ 64 = 18446744073709551616 := by decide
  rw [e]
  omega
end Mth
namespace L2
open PySem PySem.Spec PyProof.Rows
def tIsi (K : PySem.W.Frag) (ta : TA) : TE := tCB (fun xs H Q => ∃ x n t b, xs = [x, .ty n] ∧ TyOf K H x t ∧ PySem.W.kitOne K t (.type n) = some b ∧ Q (.bl b) H) ta
section
variable {X : Cx} {p pos : Pos} {e : Expr} {t : TA}
theorem pe_isiK (K : PySem.W.Frag) {a b : Expr} {ta : TA} (hm : X.mg "isinstance" = none) (ha : PA X [a, b] ta) (hK : X.K = K := by rfl) (hg : Gl X "isinstance" := by rfl)
    (he : starEach [a, b] X.env = (false, eval a X.env) :: starEach [b] X.env := by rfl) (hpl : (backTo pos (starEach [b] X.env)).any (·.1) = false := by rfl) :
    PE X (.Call (.Name "isinstance" p) [a, b] [] pos) (tIsi K ta) := by
  subst hK
  exact pe_isi hm ha hg he hpl
end
end L2
namespace Mth
end Mth
namespace L2
open PySem PySem.Spec PyProof.Rows
theorem Same.kb {a : Addr} {H H1 H2 : Hp} (s : Same H H1) (k : KeepBut a H1 H2) (h : H a = none) : Same H H2 := fun b o e => k b o (s b o e) (ne_of_none e h)
def RowsH (H : Hp) (as : List Addr) (rs : List (List Int)) : Prop := as.length = rs.length ∧ ∀ (j : Nat) a r, as[j]? = some a → rs[j]? = some r → H a = some (.lst (r.map V.int))
theorem map_int_inj {a b : List Int} (h : a.map V.int = b.map V.int) : a = b := (List.map_inj_right (fun x y (h : V.int x = V.int y) => V.int.inj h)).mp h
theorem leq_rowsH {K : PySem.W.Frag} {H : Hp} {as bs : List Addr} {rs qs : List (List Int)} (ha : RowsH H as rs) (hb : RowsH H bs qs) : LEq K H 1 (as.map V.ref) (bs.map V.ref) (decide (rs = qs)) := by
  by_cases hl : as.length = bs.length
  · refine .inr ⟨fun j => decide (rs[j]? = qs[j]?), by simpa using hl, fun j x y e1 e2 => ?_, ?_⟩
    · rw [List.getElem?_map] at e1 e2
      cases h1 : as[j]? with
      | none => rw [h1] at e1; cases e1
      | some a =>
        cases h2 : bs[j]? with
        | none => rw [h2] at e2; cases e2
        | some b =>
          rw [h1] at e1; rw [h2] at e2
          cases e1; cases e2
          have j1 : j < as.length := (List.getElem?_eq_some_iff.mp h1).1
          have k1 : rs[j]? = some (rs[j]'(by rw [← ha.1]; exact j1)) := List.getElem?_eq_getElem _
          have k2 : qs[j]? = some (qs[j]'(by rw [← hb.1, ← hl]; exact j1)) := List.getElem?_eq_getElem _
          have q1 := ha.2 j a _ h1 k1
          have q2 := hb.2 j b _ h2 k2
          show EqD K H 1 _ _ (decide (rs[j]? = qs[j]?))
          rw [k1, k2]
          generalize (rs[j]'(by rw [← ha.1]; exact j1)) = r at q1 ⊢
          generalize (qs[j]'(by rw [← hb.1, ← hl]; exact j1)) = q at q2 ⊢
          by_cases hab : a = b
          · subst hab
            rw [q1] at q2
            have e' : r = q := map_int_inj (HO.lst.inj (Option.some.inj q2))
            rw [e', decide_eq_true rfl]
            exact .same a
          · rcases leq_ints K H 0 r q with ⟨h3, h4⟩ | ⟨e, h3, h4, h5⟩
            · have := EqD.lens (n := 0) hab (SqL.of (K := K) q1) (SqL.of q2) h3
              rw [decide_eq_false (fun z => by
                have z' : r = q := Option.some.inj z
                exact h3 (by rw [z']))]
              exact this
            · have := EqD.lists (n := 0) e hab (SqL.of (K := K) q1) (SqL.of q2) h3 h4
              rw [← h5] at this
              have e6 : decide (r = q) = decide (some r = some q) := by
                by_cases z : r = q
                · subst z; simp
                · rw [decide_eq_false z, decide_eq_false fun w => z (Option.some.inj w)]
              rw [← e6]
              exact this
    · rw [Bool.eq_iff_iff, decide_eq_true_iff, all_range_iff]
      constructor
      · intro h j _; subst h; simp
      · intro h
        refine List.ext_getElem? fun j => ?_
        by_cases hj : j < rs.length
        · exact of_decide_eq_true (h j (by rw [List.length_map, ha.1]; exact hj))
        · rw [List.getElem?_eq_none (by omega), List.getElem?_eq_none (by rw [← hb.1, ← hl, ha.1]; omega)]
  · refine .inl ⟨by simpa using hl, ?_⟩
    exact decide_eq_false fun h => hl (by rw [ha.1, hb.1, h])
end L2
namespace Mth
end Mth
namespace L2
open PySem PySem.Spec PyProof.Rows
def Ite (K : PySem.W.Frag) (a : Addr) : It :=
  ⟨fun i H => ∃ xs x, SqL K H a xs ∧ xs[i]? = some x, fun i H v H' => ∃ x t, (∀ xs, SqL K H a xs → xs[i]? = some x) ∧ H t = none ∧ v = .ref t ∧ H' = upd H t (.tup [.int (i : Int), x]), fun i H => ∃ xs, SqL K H a xs ∧ xs.length ≤ i⟩
theorem turn_enum {P : Program} {w : World} {K : PySem.W.Frag} {elts : List Expr} {x1} {pos : Pos} (a e it : Addr) (hne : e ≠ it) :
    Turn P w K (.Tuple elts x1 pos) (Ite K a) [e, it] e (fun i h => (∃ old, IsEnum h e it i old) ∧ h.IsListIter it a i) where
  mem := by simp
  obj := fun i h st b hb => by
    obtain ⟨⟨old, he⟩, ⟨o, ho, c, d⟩⟩ := st
    have hb : b = e ∨ b = it := by simpa using hb
    rcases hb with rfl | rfl
    · exact ⟨_, he, fun v z => by cases z⟩
    · exact ⟨o, ho, fun v z => by rw [d] at z; cases z⟩
  keep := fun i h h' st k => ⟨let ⟨old, he⟩ := st.1; ⟨old, k e (by simp) _ he⟩, st.2.at fun o q => k it (by simp) o q⟩
  item := by
    intro X hP hw hK hc i pins s σ H E I hf st hg
    subst hP hw hK
    obtain ⟨⟨old, he⟩, hit⟩ := st
    obtain ⟨xs, x, hq, hx⟩ := hg
    obtain ⟨its, rv, p, hz⟩ := I.list hq
    obtain ⟨u, hu, ru⟩ := rv.get hx
    obtain ⟨f0, f1, f2, f3, f4, f5⟩ := hf e (by simp)
    obtain ⟨g0, g1, g2, g3, g4, g5⟩ := hf it (by simp)
    refine wpAny_pyNext_enum_item he hit p.isList (x := u) (by simpa using hu) hne fun h' he' hit' ht' hz' hk' => ?_
    refine ⟨_, rfl, wpAny_letOwnedTupleGo_enum he' fun h2 he2 hs2 => ?_⟩
    have hs2 : Heap.SameBut e h' h2 := hs2
    have eT : e ≠ s.heap.objs.size := Nat.ne_of_lt (Heap.lt_size he)
    have ht2 : h2.get? s.heap.objs.size = some { cls := .type "tuple", data := .seq #[.int i s.toks, u] } := hs2.extBut _ _ eT.symm ht'
    have kk : ∀ b o, b ≠ e → b ≠ it → s.heap.get? b = some o → h2.get? b = some o := fun b o b1 b2 q => hs2.extBut b o b1 (hk' b o b1 b2 q)
    have hn : H s.heap.objs.size = none := I.hok.fresh (Nat.le_refl _)
    have nT : ∀ b u', H b = some u' → b ≠ s.heap.objs.size := fun b u' q => ne_of_none q hn
    have ne : ∀ b u', H b = some u' → b ≠ e ∧ b ≠ it := fun b u' q => ⟨fun z => (by rw [z, f0] at q; cases q), fun z => (by rw [z, g0] at q; cases q)⟩
    have I1 : Inv X pins σ (upd H s.heap.objs.size (.tup [.int (i : Int), x])) { s with heap := h2, gens := s.gens, drawn := s.drawn, toks := s.toks + 1 } := by
      refine I.step (ch := [e, it]) (fun b hb => ?_) (fun b o _ _ hc q _ => kk b o (fun z => hc (by simp [z])) (fun z => hc (by simp [z])) q) (fun b o _ _ hc q _ => ⟨o.slots, kk b o (fun z => hc (by simp [z])) (fun z => hc (by simp [z])) q⟩)
        (fun b o hc q n => by rw [upd_ne (Nat.ne_of_lt (Heap.lt_size q))]; exact n) (fun b o hc q => ⟨o, kk b o (fun z => hc (by simp [z])) (fun z => hc (by simp [z])) q⟩)
        (fun b ys q => by rw [upd_ne (nT b _ q)]; exact q) (fun b o ys q => by rw [upd_ne (nT b _ q)]; exact q) (fun b ps q => ⟨#[], by rw [upd_ne (nT b _ q), q]; simp⟩) (fun m hm => ?_) (fun b u' q => ?_) I.bare
      · have hb : b = e ∨ b = it := by simpa using hb
        rcases hb with rfl | rfl
        · exact ⟨f3, f1, f4, f5⟩
        · exact ⟨g3, g1, g4, g5⟩
      · obtain ⟨o, es, ep, ho, r⟩ := hm
        exact ⟨o, es, ep, kk _ o (Ne.symm f1) (Ne.symm g1) ho, r⟩
      · by_cases hb : b = s.heap.objs.size
        · subst hb
          rw [upd_same] at q
          cases q
          exact ⟨by show 2 ≤ sizeLine; decide, [.int i s.toks, u], .cons ⟨_, rfl⟩ (.cons ru .nil), ⟨_, ht2, rfl, 0, rfl⟩⟩
        · rw [upd_ne hb] at q
          refine (I.hok b u' q).stay (fun c v hc q' => ?_) (fun c q' => by rw [upd_ne (nT c _ q')]; exact q') fun c ys q' => by rw [upd_ne (nT c _ q')]; exact q'
          rcases hc with z | z
          · rw [z] at q' ⊢; exact kk b v (ne b _ q).1 (ne b _ q).2 q'
          · exact kk c v (ne c _ z).1 (ne c _ z).2 q'
    refine ⟨.ref s.heap.objs.size, _, I1, rfl, ⟨x, s.heap.objs.size, fun ys hy => by rw [I.list_inj hy hq]; exact hx, hn, rfl, rfl⟩, ⟨⟨u, ?_⟩, ?_⟩, fun b hb => ?_⟩
    · have : ((i + 1 : Nat) : Int) = (i : Int) + 1 := by push_cast; rfl
      rw [this]
      exact he2
    · exact hit'.extBut hs2.extBut hne.symm
    · have hb : b = e ∨ b = it := by simpa using hb
      rcases hb with rfl | rfl
      · rw [upd_ne eT]; exact f0
      · obtain ⟨o, ho, _⟩ := hit
        rw [upd_ne (Nat.ne_of_lt (Heap.lt_size ho))]; exact g0
  done := by
    intro X hP hw hK hc i pins s σ H E I hf st hg
    subst hP hw hK
    obtain ⟨⟨old, he⟩, hit⟩ := st
    obtain ⟨xs, hq, hx⟩ := hg
    obtain ⟨its, rv, p, hz⟩ := I.list hq
    obtain ⟨g0, g1, g2, g3, g4, g5⟩ := hf it (by simp)
    have hl := rv.length
    exact wpAny_pyNext_enum_end (I.ok.hd hc) he hit p.isList (by simp; omega) fun h' eb => ⟨rfl, I.turned (t' := s.toks) (fun b o hb q => eb b o hb q) g0 g1 g3 g4 g5⟩
  self := fun _ _ _ _ _ st h => let ⟨_, he⟩ := st.1; wpAny_pyIter_enum he h
theorem boot_enum : bootBuiltins "enumerate" = some (.type "enumerate") := by decide +kernel
section
variable {X : Cx} {l : Expr} {ta : TA} {p pos : Pos} {elts : List Expr} {x1 : Nat} {tpos : Pos}
def iEnum (K : PySem.W.Frag) (ta : TA) : TI := fun σ H R => ta σ H fun vs H1 => ∃ a, vs = [.ref a] ∧ (∃ xs, SqL K H1 a xs) ∧ R (Ite K a) H1
theorem pi_enum (hm : X.mg "enumerate" = none) (ha : PA X [l] ta) (hg : Gl X "enumerate" := by rfl) (hs : starEach [l] X.env = [(false, eval l X.env)] := by rfl) : PI X (.Tuple elts x1 tpos) (.Call (.Name "enumerate" p) [l] [] pos) (iEnum X.K ta) := by
  intro pins s σ H R I h
  refine Call_ (ld_blt I hg hm boot_enum (PyProof.Rows.callWith_type1 (thn (ha pos pins s σ H _ I h) fun us s1 ⟨vs, H1, I1, r1, q1⟩ => ?_) hs rfl))
  obtain ⟨a, e, ⟨xs, hq⟩, q⟩ := q1
  subst e
  obtain ⟨u, rfl, rx⟩ := vals1 r1
  cases rx
  obtain ⟨its, rv, pl, hz⟩ := I1.list hq
  refine call_enumerate_list pl.isList fun h' he hit hz' hk => ?_
  refine wpAny_pyIter_enum he ?_
  have I2 : Inv X pins σ H1 { s1 with heap := h', toks := s1.toks } := I1.kept (t' := s1.toks) hk
  refine ⟨s1.heap.objs.size + 1, [s1.heap.objs.size + 1, s1.heap.objs.size], _, _, H1, rfl, I2, turn_enum a (s1.heap.objs.size + 1) s1.heap.objs.size (Nat.succ_ne_self _), ⟨⟨.none, he⟩, hit⟩, fun b hb => ?_, q⟩
  have hb : b = s1.heap.objs.size + 1 ∨ b = s1.heap.objs.size := by simpa using hb
  rcases hb with rfl | rfl
  · exact I1.fpOk (by omega) (I1.hok.fresh (by omega))
  · exact I1.fpOk (by omega) (I1.hok.fresh (by omega))
end
theorem for_enum {K : PySem.W.Frag} {a : Addr} {xs : List V} {g : TG} {tb : TS} {D : Ends} {σ : St} {H : Hp} (Pv : Nat → St → Hp → Prop) (h0 : Pv 0 σ H) (hl : ∀ i σ H, i ≤ xs.length → Pv i σ H → SqL K H a xs)
    (hs : ∀ i x σ H t, xs[i]? = some x → Pv i σ H → H t = none → g (.ref t) σ (upd H t (.tup [.int (i : Int), x])) fun σ2 H2 => tb { D with nx := Pv (i + 1), ct := Pv (i + 1), bk := D.nx } σ2 H2) (hd : ∀ σ H, Pv xs.length σ H → D.nx σ H) :
    ∃ W : Nat → Nat → St → Hp → Prop, (∃ m, W 0 m σ H) ∧ ∀ i m σ H, W i m σ H →
      ((Ite K a).stop i H ∧ D.nx σ H) ∨ ((Ite K a).go i H ∧ ∃ N : St → Hp → Prop, (∀ σ' H', N σ' H' → ∃ m', m' < m ∧ W (i + 1) m' σ' H') ∧ ∀ x H', (Ite K a).yld i H x H' → g x σ H' fun σ2 H2 => tb { D with nx := N, ct := N, bk := D.nx } σ2 H2) := by
  refine ⟨fun i m σ H => m = xs.length - i ∧ i ≤ xs.length ∧ Pv i σ H, ⟨xs.length, by simp, Nat.zero_le _, h0⟩, ?_⟩
  rintro i m σ H ⟨rfl, hi, p⟩
  have q := hl i σ H hi p
  by_cases hlt : i < xs.length
  · refine .inr ⟨⟨xs, xs[i], q, by simp [hlt]⟩, Pv (i + 1), fun σ' H' p' => ⟨xs.length - (i + 1), by omega, rfl, hlt, p'⟩, fun x H' y => ?_⟩
    obtain ⟨x', t, y1, y2, e1, e2⟩ := y
    subst e1 e2
    exact hs i x' σ _ t (y1 xs q) p y2
  · have e : i = xs.length := by omega
    subst e
    exact .inl ⟨⟨xs, q, Nat.le_refl _⟩, hd σ H p⟩
end L2
namespace Mth
end Mth
namespace L2
open PySem PySem.Spec PyProof.Rows
section
variable {X : Cx}
end
end L2
namespace Mth
end Mth
namespace L2
open PySem PySem.Spec PyProof.Rows
def CDivB (i j : Int) : Prop := 0 < j ∧ j ≤ 1000000000000000000000000000000
theorem op_fdivB {X : Cx} : OpR X (binaryOp .FloorDiv) (rI CDivB fun i j => .int (i / j)) := opI fun i j _ _ _ _ _ hc q => by
  have hp : Builtin.divisionGoesByPylong i j = false := by
    refine PyProof.noPylong_of_log2 ?_
    obtain ⟨h1, h2⟩ := hc
    have : j.natAbs < 2 ^ 9000 := Nat.lt_of_le_of_lt (show j.natAbs ≤ 1000000000000000000000000000000 by omega) (by decide +kernel)
    exact (Nat.log2_lt (by omega)).mpr this
  refine floordiv_int (by have := hc.1; omega) ?_ (.inl hp)
  rw [Int.fdiv_eq_ediv_of_nonneg i (by have := hc.1; omega)]
  exact q
end L2
namespace Mth
end Mth
namespace Mth
end Mth
namespace L2
open PySem PySem.Spec PyProof.Rows
end L2
namespace L2
open PySem PySem.Spec PyProof.Rows
def Itz (a b : Addr) : It :=
  ⟨fun i H => ∃ xs ys x y, H a = some (.lst xs) ∧ H b = some (.lst ys) ∧ xs[i]? = some x ∧ ys[i]? = some y,
   fun i H v H' => ∃ x y t, (∀ xs, H a = some (.lst xs) → xs[i]? = some x) ∧ (∀ ys, H b = some (.lst ys) → ys[i]? = some y) ∧ H t = none ∧ v = .ref t ∧ H' = upd H t (.tup [x, y]),
   fun i H => ∃ xs ys, H a = some (.lst xs) ∧ H b = some (.lst ys) ∧ (xs.length ≤ i ∨ ys.length ≤ i)⟩
structure ZipOwn (z TI TO i1 i2 : Addr) : Prop where
  TIz : TI ≠ z
  TOz : TO ≠ z
  i1z : i1 ≠ z
  i2z : i2 ≠ z
  TITO : TI ≠ TO
  TIi1 : TI ≠ i1
  TIi2 : TI ≠ i2
  TOi1 : TO ≠ i1
  TOi2 : TO ≠ i2
  i12 : i1 ≠ i2
theorem turn_zip {P : Program} {w : World} {K : PySem.W.Frag} {elts : List Expr} {x1} {pos : Pos} (a b z TI TO i1 i2 : Addr) (D0 : ZipOwn z TI TO i1 i2) :
    Turn P w K (.Tuple elts x1 pos) (Itz a b) [z, TI, TO, i1, i2] z (fun i h => IsZip h z TI TO .none ∧ IsPair h TI (.ref i1) (.ref i2) ∧ (∃ u v, IsPair h TO u v) ∧ h.IsListIter i1 a i ∧ h.IsListIter i2 b i) where
  mem := by simp
  obj := fun i h st c hc => by
    obtain ⟨hz, hTI, ⟨u, v, hTO⟩, ⟨o1, g1, c1, d1⟩, ⟨o2, g2, c2, d2⟩⟩ := st
    have hc : c = z ∨ c = TI ∨ c = TO ∨ c = i1 ∨ c = i2 := by simpa using hc
    rcases hc with rfl | rfl | rfl | rfl | rfl
    · exact ⟨_, hz, fun v z => by cases z⟩
    · exact ⟨_, hTI, fun v z => by cases z⟩
    · exact ⟨_, hTO, fun v z => by cases z⟩
    · exact ⟨o1, g1, fun v z => by rw [d1] at z; cases z⟩
    · exact ⟨o2, g2, fun v z => by rw [d2] at z; cases z⟩
  keep := fun i h h' st k => by
    obtain ⟨hz, hTI, ⟨u, v, hTO⟩, g1, g2⟩ := st
    exact ⟨k z (by simp) _ hz, k TI (by simp) _ hTI, ⟨u, v, k TO (by simp) _ hTO⟩, g1.at fun o q => k i1 (by simp) o q, g2.at fun o q => k i2 (by simp) o q⟩
  item := by
    intro X hP hw hK hc i pins s σ H E I hf st hg
    subst hP hw hK
    obtain ⟨hz, hTI, ⟨u0, v0, hTO⟩, g1, g2⟩ := st
    obtain ⟨xs, ys, x, y, ha, hb, hx, hy⟩ := hg
    obtain ⟨_, its, n1, rv, l1, e1⟩ := I.lstM ha
    obtain ⟨_, its2, n2, rv2, l2, e2⟩ := I.lstM hb
    obtain ⟨ux, hux, rux⟩ := rv.get hx
    obtain ⟨uy, huy, ruy⟩ := rv2.get hy
    have nf : ∀ c u', H c = some u' → c ≠ z ∧ c ≠ TI ∧ c ≠ TO ∧ c ≠ i1 ∧ c ≠ i2 := fun c u' q => by
      have f : ∀ d ∈ [z, TI, TO, i1, i2], c ≠ d := fun d hd w => by
        have := (hf d hd).1
        rw [← w, q] at this; cases this
      exact ⟨f z (by simp), f TI (by simp), f TO (by simp), f i1 (by simp), f i2 (by simp)⟩
    have na := nf a _ ha
    have nb := nf b _ hb
    have D : ZipApart z TI TO i1 i2 a b := ⟨D0.TIz, D0.TOz, D0.i1z, D0.i2z, D0.TITO, D0.TIi1, D0.TIi2, D0.TOi1, D0.TOi2, D0.i12, na.1, na.2.2.1, na.2.2.2.1, na.2.2.2.2, nb.1, nb.2.2.1, nb.2.2.2.1, nb.2.2.2.2⟩
    refine wpAny_pyNext_zip_item (xs := its.toArray) (ys := its2.toArray) (x := ux) (y := uy) D hz hTI hTO g1 g2 ⟨_, e1, rfl, n1, rfl⟩ ⟨_, e2, rfl, n2, rfl⟩ (by simpa using hux) (by simpa using huy) fun h' hz' hTO' g1' g2' hT' hsz' kk' => ?_
    refine ⟨_, rfl, wpAny_letOwnedTupleGo_zip hz' fun h2 hz2 hs2 => ?_⟩
    have hs2 : Heap.SameBut z h' h2 := hs2
    have ltz : z < s.heap.objs.size := Heap.lt_size hz
    have lTI : TI < s.heap.objs.size := Heap.lt_size hTI
    have lTO : TO < s.heap.objs.size := Heap.lt_size hTO
    have li1 : i1 < s.heap.objs.size := by obtain ⟨o, ho, _⟩ := g1; exact Heap.lt_size ho
    have li2 : i2 < s.heap.objs.size := by obtain ⟨o, ho, _⟩ := g2; exact Heap.lt_size ho
    have ht2 : h2.get? s.heap.objs.size = some { cls := .type "tuple", data := .seq #[ux, uy] } := hs2.extBut _ _ (Nat.ne_of_gt ltz) hT'
    have kk : ∀ c o, c ≠ z → c ≠ TO → c ≠ i1 → c ≠ i2 → s.heap.get? c = some o → h2.get? c = some o := fun c o b1 b2 b3 b4 q => hs2.extBut c o b1 (kk' c o b1 b2 b3 b4 q)
    have hn : H s.heap.objs.size = none := I.hok.fresh (Nat.le_refl _)
    have nT : ∀ c u', H c = some u' → c ≠ s.heap.objs.size := fun c u' q => ne_of_none q hn
    have kc : ∀ c o, c ∉ [z, TI, TO, i1, i2] → s.heap.get? c = some o → h2.get? c = some o := fun c o hc q => kk c o (fun w => hc (by simp [w])) (fun w => hc (by simp [w])) (fun w => hc (by simp [w])) (fun w => hc (by simp [w])) q
    have I1 : Inv X pins σ (upd H s.heap.objs.size (.tup [x, y])) { s with heap := h2, gens := s.gens, drawn := s.drawn, toks := s.toks } := by
      refine I.step (ch := [z, TI, TO, i1, i2]) (fun c hc => ?_) (fun c o _ _ hc q _ => kc c o hc q) (fun c o _ _ hc q _ => ⟨o.slots, kc c o hc q⟩)
        (fun c o hc q n => by rw [upd_ne (Nat.ne_of_lt (Heap.lt_size q))]; exact n) (fun c o hc q => ⟨o, kc c o hc q⟩)
        (fun c zs q => by rw [upd_ne (nT c _ q)]; exact q) (fun c o zs q => by rw [upd_ne (nT c _ q)]; exact q) (fun c ps q => ⟨#[], by rw [upd_ne (nT c _ q), q]; simp⟩) (fun m hm => ?_) (fun c u' q => ?_) I.bare
      · have f := hf c hc
        exact ⟨f.2.2.2.1, f.2.1, f.2.2.2.2.1, f.2.2.2.2.2⟩
      · obtain ⟨o, es, ep, ho, r⟩ := hm
        exact ⟨o, es, ep, kk _ o (Ne.symm (hf z (by simp)).2.1) (Ne.symm (hf TO (by simp)).2.1) (Ne.symm (hf i1 (by simp)).2.1) (Ne.symm (hf i2 (by simp)).2.1) ho, r⟩
      · by_cases hcT : c = s.heap.objs.size
        · subst hcT
          rw [upd_same] at q
          cases q
          exact ⟨by show 2 ≤ sizeLine; decide, [ux, uy], .cons rux (.cons ruy .nil), ⟨_, ht2, rfl, 0, rfl⟩⟩
        · rw [upd_ne hcT] at q
          refine (I.hok c u' q).stay (fun d v hd q' => ?_) (fun d q' => by rw [upd_ne (nT d _ q')]; exact q') fun d zs q' => by rw [upd_ne (nT d _ q')]; exact q'
          rcases hd with w | w
          · rw [w] at q' ⊢
            have := nf c _ q
            exact kk c v this.1 this.2.2.1 this.2.2.2.1 this.2.2.2.2 q'
          · have := nf d _ w
            exact kk d v this.1 this.2.2.1 this.2.2.2.1 this.2.2.2.2 q'
    refine ⟨.ref s.heap.objs.size, _, I1, rfl, ⟨x, y, s.heap.objs.size, fun zs hzs => ?_, fun zs hzs => ?_, hn, rfl, rfl⟩, ⟨hz2, ?_, ⟨ux, uy, ?_⟩, ?_, ?_⟩, fun c hc => ?_⟩
    · rw [ha] at hzs; cases hzs; exact hx
    · rw [hb] at hzs; cases hzs; exact hy
    · exact kk TI _ D0.TIz D0.TITO D0.TIi1 D0.TIi2 hTI
    · exact hs2.extBut _ _ D0.TOz hTO'
    · exact g1'.extBut hs2.extBut D0.i1z
    · exact g2'.extBut hs2.extBut D0.i2z
    · have hne : c ≠ s.heap.objs.size := by
        have hc : c = z ∨ c = TI ∨ c = TO ∨ c = i1 ∨ c = i2 := by simpa using hc
        rcases hc with rfl | rfl | rfl | rfl | rfl
        · exact Nat.ne_of_lt ltz
        · exact Nat.ne_of_lt lTI
        · exact Nat.ne_of_lt lTO
        · exact Nat.ne_of_lt li1
        · exact Nat.ne_of_lt li2
      rw [upd_ne hne]
      exact (hf c hc).1
  done := by
    intro X hP hw hK hc i pins s σ H E I hf st hg
    subst hP hw hK
    obtain ⟨hz, hTI, ⟨u0, v0, hTO⟩, g1, g2⟩ := st
    obtain ⟨xs, ys, ha, hb, hend⟩ := hg
    obtain ⟨_, its, n1, rv, l1, e1⟩ := I.lstM ha
    obtain ⟨_, its2, n2, rv2, l2, e2⟩ := I.lstM hb
    have nf : ∀ c u', H c = some u' → c ≠ z ∧ c ≠ TI ∧ c ≠ TO ∧ c ≠ i1 ∧ c ≠ i2 := fun c u' q => by
      have f : ∀ d ∈ [z, TI, TO, i1, i2], c ≠ d := fun d hd w => by
        have := (hf d hd).1
        rw [← w, q] at this; cases this
      exact ⟨f z (by simp), f TI (by simp), f TO (by simp), f i1 (by simp), f i2 (by simp)⟩
    have na := nf a _ ha
    have nb := nf b _ hb
    have D : ZipApart z TI TO i1 i2 a b := ⟨D0.TIz, D0.TOz, D0.i1z, D0.i2z, D0.TITO, D0.TIi1, D0.TIi2, D0.TOi1, D0.TOi2, D0.i12, na.1, na.2.2.1, na.2.2.2.1, na.2.2.2.2, nb.1, nb.2.2.1, nb.2.2.2.1, nb.2.2.2.2⟩
    refine wpAny_pyNext_zip_end (xs := its.toArray) (ys := its2.toArray) (I.ok.hd hc) D hz hTI hTO g1 g2 ⟨_, e1, rfl, n1, rfl⟩ ⟨_, e2, rfl, n2, rfl⟩ ?_ fun h' kk => ⟨rfl, ?_⟩
    · rcases hend with w | w
      · exact .inl (by simp; omega)
      · exact .inr (by simp; omega)
    · have kc : ∀ c o, c ∉ [z, TI, TO, i1, i2] → s.heap.get? c = some o → h'.get? c = some o := fun c o hc q => kk c o (fun w => hc (by simp [w])) (fun w => hc (by simp [w])) (fun w => hc (by simp [w])) (fun w => hc (by simp [w])) q
      refine I.step (g' := s.gens) (d' := s.drawn) (t' := s.toks) (ch := [z, TI, TO, i1, i2]) (fun c hc => ?_) (fun c o _ _ hc q _ => kc c o hc q) (fun c o _ _ hc q _ => ⟨o.slots, kc c o hc q⟩)
        (fun c o hc q n => n) (fun c o hc q => by
          by_cases hz' : c ∈ [z, TI, TO, i1, i2]
          · exact absurd hz' hc
          · exact ⟨o, kc c o hz' q⟩) (fun c zs q => q) (fun c o zs q => q) (fun c ps q => ⟨#[], by rw [q]; simp⟩) (fun m hm => ?_) (fun c u' q => ?_) I.bare
      · have f := hf c hc
        exact ⟨f.2.2.2.1, f.2.1, f.2.2.2.2.1, f.2.2.2.2.2⟩
      · obtain ⟨o, es, ep, ho, r⟩ := hm
        exact ⟨o, es, ep, kk _ o (Ne.symm (hf z (by simp)).2.1) (Ne.symm (hf TO (by simp)).2.1) (Ne.symm (hf i1 (by simp)).2.1) (Ne.symm (hf i2 (by simp)).2.1) ho, r⟩
      · refine (I.hok c u' q).stay (fun d v hd q' => ?_) (fun d q' => q') fun d zs q' => q'
        rcases hd with w | w
        · rw [w] at q' ⊢
          have := nf c _ q
          exact kk c v this.1 this.2.2.1 this.2.2.2.1 this.2.2.2.2 q'
        · have := nf d _ w
          exact kk d v this.1 this.2.2.1 this.2.2.2.1 this.2.2.2.2 q'
  self := fun _ _ _ _ _ st h => wpAny_pyIter_zip st.1 h
theorem boot_zip : bootBuiltins "zip" = some (.type "zip") := by decide +kernel
section
variable {X : Cx} {l m : Expr} {ta : TA} {p pos : Pos} {elts : List Expr} {x1 : Nat} {tpos : Pos}
def iZip (ta : TA) : TI := fun σ H R => ta σ H fun vs H1 => ∃ a b xs ys, vs = [.ref a, .ref b] ∧ H1 a = some (.lst xs) ∧ H1 b = some (.lst ys) ∧ R (Itz a b) H1
theorem pi_zip (hm : X.mg "zip" = none) (ha : PA X [l, m] ta) (hg : Gl X "zip" := by rfl) (hs : starEach [l, m] X.env = (false, eval l X.env) :: starEach [m] X.env := by rfl) (hpl : (backTo pos (starEach [m] X.env)).any (·.1) = false := by rfl) :
    PI X (.Tuple elts x1 tpos) (.Call (.Name "zip" p) [l, m] [] pos) (iZip ta) := by
  intro pins s σ H R I h
  refine Call_ (ld_blt I hg hm boot_zip (PyProof.Rows.callWith_type1 (thn (ha pos pins s σ H _ I h) fun us s1 ⟨vs, H1, I1, r1, q1⟩ => ?_) hs hpl))
  obtain ⟨a, b, xs, ys, e, h1a, h1b, q⟩ := q1
  subst e
  obtain ⟨u, w', rfl, ru, rw'⟩ := vals2 r1
  cases ru; cases rw'
  obtain ⟨_, its, n1, rv, l1, e1⟩ := I1.lstM h1a
  obtain ⟨_, its2, n2, rv2, l2, e2⟩ := I1.lstM h1b
  refine call_zip_2 (xs := its.toArray) (ys := its2.toArray) ⟨_, e1, rfl, n1, rfl⟩ ⟨_, e2, rfl, n2, rfl⟩ fun h' hz hTI hTO g1 g2 hsz hk => ?_
  refine wpAny_pyIter_zip hz ?_
  have I2 : Inv X pins σ H1 { s1 with heap := h', toks := s1.toks } := I1.kept (t' := s1.toks) hk
  have ne : ∀ (i j : Nat), i ≠ j → s1.heap.objs.size + i ≠ s1.heap.objs.size + j := fun i j h e => h (Nat.add_left_cancel e)
  refine ⟨s1.heap.objs.size + 4, [s1.heap.objs.size + 4, s1.heap.objs.size + 2, s1.heap.objs.size + 3, s1.heap.objs.size, s1.heap.objs.size + 1], _, _, H1, rfl, I2,
    turn_zip a b (s1.heap.objs.size + 4) (s1.heap.objs.size + 2) (s1.heap.objs.size + 3) s1.heap.objs.size (s1.heap.objs.size + 1) ⟨ne 2 4 (by decide), ne 3 4 (by decide), ne 0 4 (by decide), ne 1 4 (by decide), ne 2 3 (by decide), ne 2 0 (by decide), ne 2 1 (by decide), ne 3 0 (by decide), ne 3 1 (by decide), ne 0 1 (by decide)⟩,
    ⟨hz, hTI, ⟨_, _, hTO⟩, g1, g2⟩, fun c hc => ?_, q⟩
  have hle : s1.heap.objs.size ≤ c := by
    simp only [List.mem_cons, List.mem_nil_iff, or_false] at hc
    rcases hc with rfl | rfl | rfl | rfl | rfl
    · exact Nat.le_add_right _ _
    · exact Nat.le_add_right _ _
    · exact Nat.le_add_right _ _
    · exact Nat.le_refl _
    · exact Nat.le_add_right _ _
  exact I1.fpOk hle (I1.hok.fresh hle)
end
theorem comp_zip {a b : Addr} {n : Nat} {g : TG} {tc : TT} {te : TE} {σ0 : St} {H : Hp} {Q : VK} (Pv : Nat → List V → St → Hp → Prop) (h0 : Pv 0 [] σ0 H)
    (hl : ∀ i ys σ H, i ≤ n → Pv i ys σ H → ∃ xs zs, H a = some (.lst xs) ∧ H b = some (.lst zs) ∧ xs.length = n ∧ zs.length = n)
    (hs : ∀ i x y ys σ H t xs zs, i < n → H a = some (.lst xs) → H b = some (.lst zs) → xs[i]? = some x → zs[i]? = some y → Pv i ys σ H → H t = none → g (.ref t) σ (upd H t (.tup [x, y])) fun σ2 H2 => tc σ2 H2 fun b H4 => if b = true then te σ2 H4 fun y H5 => ys.length < sizeLine ∧ Pv (i + 1) (ys ++ [y]) σ2 H5 else Pv (i + 1) ys σ2 H4)
    (hd : ∀ ys σ H, Pv n ys σ H → ∀ D, H D = none → Q (.ref D) (upd H D (.lst ys))) : CompW (Itz a b) g tc te Q σ0 H := by
  refine ⟨fun i m ys σ H => m = n - i ∧ i ≤ n ∧ Pv i ys σ H, ⟨n, by simp, Nat.zero_le _, h0⟩, ?_⟩
  rintro i m ys σ H ⟨rfl, hi, p⟩
  obtain ⟨xs, zs, h1, h2, l1, l2⟩ := hl i ys σ H hi p
  by_cases hlt : i < n
  · refine .inr ⟨⟨xs, zs, xs[i], zs[i], h1, h2, by simp [l1, hlt], by simp [l2, hlt]⟩, Pv (i + 1), fun ys' σ' H' p' => ⟨n - (i + 1), by omega, rfl, hlt, p'⟩, fun x H' y => ?_⟩
    obtain ⟨x', y', t, y1, y2, y3, e1, e2⟩ := y
    subst e1 e2
    exact hs i x' y' ys σ _ t xs zs hlt h1 h2 (y1 xs h1) (y2 zs h2) p y3
  · have e : i = n := by omega
    subst e
    exact .inl ⟨⟨xs, zs, h1, h2, .inl (by omega)⟩, hd ys σ H p⟩
theorem comp_enum {K : PySem.W.Frag} {a : Addr} {xs : List V} {g : TG} {tc : TT} {te : TE} {σ0 : St} {H : Hp} {Q : VK} (Pv : Nat → List V → St → Hp → Prop) (h0 : Pv 0 [] σ0 H) (hl : ∀ i ys σ H, i ≤ xs.length → Pv i ys σ H → SqL K H a xs)
    (hs : ∀ i x ys σ H t, xs[i]? = some x → Pv i ys σ H → H t = none → g (.ref t) σ (upd H t (.tup [.int (i : Int), x])) fun σ2 H2 => tc σ2 H2 fun b H4 => if b = true then te σ2 H4 fun y H5 => ys.length < sizeLine ∧ Pv (i + 1) (ys ++ [y]) σ2 H5 else Pv (i + 1) ys σ2 H4)
    (hd : ∀ ys σ H, Pv xs.length ys σ H → ∀ D, H D = none → Q (.ref D) (upd H D (.lst ys))) : CompW (Ite K a) g tc te Q σ0 H := by
  refine ⟨fun i m ys σ H => m = xs.length - i ∧ i ≤ xs.length ∧ Pv i ys σ H, ⟨xs.length, by simp, Nat.zero_le _, h0⟩, ?_⟩
  rintro i m ys σ H ⟨rfl, hi, p⟩
  have q := hl i ys σ H hi p
  by_cases hlt : i < xs.length
  · refine .inr ⟨⟨xs, xs[i], q, by simp [hlt]⟩, Pv (i + 1), fun ys' σ' H' p' => ⟨xs.length - (i + 1), by omega, rfl, hlt, p'⟩, fun x H' y => ?_⟩
    obtain ⟨x', t, y1, y2, e1, e2⟩ := y
    subst e1 e2
    exact hs i x' ys σ _ t (y1 xs q) p y2
  · have e : i = xs.length := by omega
    subst e
    exact .inl ⟨⟨xs, q, Nat.le_refl _⟩, hd ys σ H p⟩
section
variable {X : Cx} {e : Expr} {t : TA} {p pos : Pos}
end
end L2
namespace L2
open PySem PySem.Spec PyProof.Rows
theorem pg_tupK (K : PySem.W.Frag) {X : Cx} {es : List Expr} {k : Nat} {t : TGs} {n : Nat} {pos : Pos} (hc : X.calm = true) (h : PGs X es t) (hK : X.K = K := by rfl)
    (hn : (assignEach es X.env).length = n := by rfl) (hst : (assignEach es X.env).findIdx? (·.1) = none := by rfl) : PG X (.Tuple es k pos) (gTup K n t) := by
  subst hK
  exact pg_tup hc h hn hst
def numbered (rs : List (List Int)) : List (List Int) := (List.range rs.length).map fun j => rs.getD j [] ++ [(j : Int)]
theorem numbered_len (rs : List (List Int)) : (numbered rs).length = rs.length := by unfold numbered; rw [List.length_map, List.length_range]
theorem numbered_get {rs : List (List Int)} {j : Nat} {r : List Int} (h : rs[j]? = some r) : (numbered rs)[j]? = some (r ++ [(j : Int)]) := by
  have hj : j < rs.length := (List.getElem?_eq_some_iff.mp h).1
  unfold numbered
  rw [List.getElem?_map, List.getElem?_range hj]
  show some (rs.getD j [] ++ [(j : Int)]) = _
  rw [List.getD_eq_getElem?_getD, h]
  rfl
end L2
namespace L2
open PySem PySem.Spec PyProof.Rows
section
variable {X : Cx} {o e : Expr} {to : TE} {t : TA} {apos pos p : Pos}
end
end L2
namespace Mth
end Mth
namespace L2
open PySem PySem.Spec PyProof.Rows
theorem boot_sortedB : bootBuiltins "sorted" = some (.builtin "sorted") := by decide +kernel
section
variable {X : Cx}
variable {e : Expr} {t : TA} {p pos kpos : Pos}
end
end L2
namespace Mth
end Mth
namespace Mth
end Mth
namespace L2
open PySem PySem.Spec PyProof.Rows
end L2
namespace L2
open PySem PySem.Spec PyProof.Rows
end L2
namespace Mth
end Mth
namespace L2
open PySem PySem.Spec PyProof.Rows
section
variable {X : Cx}
end
end L2
namespace Mth
end Mth
namespace Mth
end Mth
namespace Mth
end Mth
namespace L2
open PySem PySem.Spec PyProof.Rows
section
variable {prog : Program} {w : World} {A : Around} {E : Value → Shared → Prop} {s : Shared} {κ : Type} [DecidableEq κ] {knd : KeyKind prog w κ}
end
section
variable {X : Cx}
end
end L2
namespace L2
open PySem PySem.Spec PyProof.Rows
section
variable {X : Cx}
end
end L2
namespace Mth
end Mth
namespace Mth
end Mth
namespace Mth
end Mth
namespace L2
open PySem PySem.Spec PyProof.Rows
end L2
namespace Mth
end Mth
namespace L2
open PySem PySem.Spec PyProof.Rows
section
variable {X : Cx} {st : Stmt} {rest : List Stmt} {t u : TS}
end
end L2
namespace L2
open PySem PySem.Spec PyProof.Rows
section
variable {P : Program} {w : World} {K : PySem.W.Frag} {mg : Str → Option Value} {base : Heap} {N : List Str} {qual : Str} {scope : Scope} {f : Addr} {cd : Value} {A : Around} {outer : List Env} {s₀ : Shared} {H₀ : Hp} {E E' : XK}
end
section
variable {X : Cx}
end
section
variable {P : Program} {w : World} {K : PySem.W.Frag} {mg : Str → Option Value} {base : Heap}
end
section
variable {X : Cx} {x : Str} {k : Nat} {ps : List Str} {sp : Sp} {e : Expr} {es : List Expr} {t : TA} {p pos : Pos} {E : XK}
end
end L2
namespace L2
open PySem PySem.Spec PyProof.Rows
section
variable {X : Cx} {pins : List (Addr × Obj)} {σ : St} {H H' : Hp} {s s' : Shared}
end
section
variable {X : Cx} {x : Str} {k : Nat} {ps : List Str} {sp : Sp} {e : Expr} {es : List Expr} {t : TA} {p pos : Pos}
end
section
variable {X : Cx}
end
end L2
namespace L2
open PySem PySem.Spec PyProof.Rows PySem.W PySem.Builtin PySem.Builtin.ObjectAttr PySem.Builtin.Getset_descriptor
section
variable {prog : Program} {w : World} {A : Around} {E : Value → Shared → Prop} {s : Shared} {K : PySem.W.Frag} {a C : Addr}
end
section
variable {X : Cx}
end
end L2
namespace L2
open PySem PySem.Spec PyProof.Rows
section
variable {X : Cx}
end
end L2
namespace Mth
end Mth
namespace L2
open PySem PySem.Spec PyProof.Rows
section
variable {prog : Program} {w : World} {A : Around} {E : Value → Shared → Prop} {s : Shared}
end
section
variable {X : Cx} {pos : Pos}
end
end L2
namespace L2
open PySem PySem.Spec PyProof.Rows
section
variable {X : Cx} {p pos : Pos} {e : Expr} {t : TA}
end
end L2
namespace L2
open PySem PySem.Spec PyProof.Rows
section
variable {P : Program} {w : World} {K : PySem.W.Frag} {mg : Str → Option Value} {base : Heap} {CX : CXT} {k : Nat} {f : Addr} {fd : FuncData} {ps : List Str} {a b : Sp}
end
end L2
namespace L2
open PySem PySem.Spec PyProof.Rows
section
variable {X : Cx} {p pos : Pos} {e : Expr} {t : TA}
end
end L2
namespace L2
open PySem PySem.Spec PyProof.Rows
end L2
namespace L2
open PySem PySem.Spec PyProof.Rows
section
variable {X : Cx} {p pos apos : Pos} {e o : Expr} {es : List Expr} {t : TA} {to : TE}
end
end L2
namespace L2
open PySem PySem.Spec PyProof.Rows
section
variable {X : Cx}
theorem pe_never {e : Expr} : PE X e (fun _ _ _ => False) := fun _ _ _ _ _ _ h => h.elim
end
end L2
namespace Mth
end Mth
namespace L2
open PySem PySem.Builtin PySem.Builtin.Str PySem.StrLaws
end L2
namespace HT
open PySem PySem.Spec PyProof.Rows
open PySem.AutoSeq1
open PySem.MeetsSeq PySem.MeetsSeq2 PySem.MeetsSeq3
theorem at_drop {xs : Array Value} {i : Nat} {x : Value} {r : List Value} (h : xs.toList.drop i = x :: r) : xs[((i : Nat) : Int).toNat]? = some x ∧ xs.toList.drop (i + 1) = r ∧ i < xs.size := by
  have hl : i < xs.size := by
    rcases Nat.lt_or_ge i xs.size with z | z
    · exact z
    · rw [List.drop_of_length_le (by simpa using z)] at h; cases h
  refine ⟨?_, ?_, hl⟩
  · rw [Int.toNat_natCast, ← Array.getElem?_toList]
    have := congrArg List.head? h
    rw [List.head?_drop] at this
    simpa using this
  · have := congrArg List.tail h
    rw [List.tail_drop] at this
    exact this
theorem at_end {xs : Array Value} {i : Nat} (h : xs.toList.drop i = []) : xs[((i : Nat) : Int).toNat]? = none ∧ xs.size ≤ i := by
  have hl : xs.size ≤ i := by
    have := congrArg List.length h
    rw [List.length_drop] at this
    simp at this; omega
  exact ⟨by rw [Int.toNat_natCast]; simp [hl], hl⟩
abbrev LObj (h : Heap) (a : Addr) (xs : Array Value) (n : Nat) : Prop := h.get? a = some { cls := .type "list", dict := none, data := .seq xs n, slots := #[] }
theorem lt_from (l b : Addr) (items items2 : Array Value) (n n2 : Nat) : ∀ (ns ms : List Int) (vs ws : List Value) (i : Nat), IntsAre vs ns → IntsAre ws ms → items.toList.drop i = vs → items2.toList.drop i = ws → i ≤ items.size → i ≤ items2.size →
    Meets (Builtin.«list.__eq__.loop» ⟨[.ref l, .ref b, rawInt i, rawInt 0], []⟩)
      (fun _ R s => (LObj s.heap l items n ∧ LObj s.heap b items2 n2) ∧ R (.ok (.ret (.bool (lexLt ns ms)))) s) := by
  intro ns
  induction ns with
  | nil =>
    intro ms vs ws i hv hw e1 e2 i1 i2 prog w A R s h
    obtain ⟨h0, g0, d0, k0, o0⟩ := s
    obtain ⟨⟨hx, hy⟩, h⟩ := h
    cases hv
    obtain ⟨g1, z1⟩ := at_end e1
    wp_walk using wpAny_loadPart' hx, wpAny_loadPart' hy
    rw [g1]
    cases hw with
    | nil =>
      obtain ⟨g2, z2⟩ := at_end e2
      wp_walk using wpAny_loadPart' hx, wpAny_loadPart' hy
      show R (.ok (.ret (.bool (decide (items.size < items2.size))))) _
      rw [decide_eq_false (by omega)]
      exact h
    | cons c u hw' =>
      obtain ⟨g2, _, z2⟩ := at_drop e2
      wp_walk using wpAny_loadPart' hx, wpAny_loadPart' hy
      show R (.ok (.ret (.bool (decide (items.size < items2.size))))) _
      rw [decide_eq_true (by omega)]
      exact h
  | cons a ns ih =>
    intro ms vs ws i hv hw e1 e2 i1 i2 prog w A R s h
    obtain ⟨h0, g0, d0, k0, o0⟩ := s
    obtain ⟨⟨hx, hy⟩, h⟩ := h
    cases hv with
    | cons _ t hv' =>
      obtain ⟨g1, d1, z1⟩ := at_drop e1
      wp_walk using wpAny_loadPart' hx, wpAny_loadPart' hy
      rw [g1]
      cases hw with
      | nil =>
        obtain ⟨g2, z2⟩ := at_end e2
        rw [g2]
        wp_walk using wpAny_loadPart' hx, wpAny_loadPart' hy
        show R (.ok (.ret (.bool (decide (items.size < items2.size))))) _
        rw [decide_eq_false (by omega)]
        exact h
      | cons c u hw' =>
        obtain ⟨g2, d2, z2⟩ := at_drop e2
        rw [g2]
        rw [lexLt_cons] at h
        obtain ⟨e, he, hiff⟩ := eqAt_int A.in1 ⟨h0, g0, d0, k0, o0⟩ a t c u
        refine wpAny_bind (he prog w _ _ ?_)
        cases e with
        | true =>
          rw [if_pos (hiff.mp rfl)] at h
          wp_walk
          rw [show ((i : Int) + 1) = ((i + 1 : Nat) : Int) from rfl]
          refine ⟨plainId_quiet plain_eq_loop _, codeAny_builtin entry_eq_loop ?_⟩
          (rw [Around.under_plainId plain_eq_loop _]; exact ih _ _ _ (i + 1) hv' hw' d1 d2 (by omega) (by omega) prog w A R _ ⟨⟨hx, hy⟩, h⟩)
        | false =>
          rw [if_neg (fun q => absurd (hiff.mpr q) Bool.false_ne_true)] at h
          have less := rcLt_int A.in1 ⟨h0, g0, d0, k0, o0⟩ a t c u prog w
          wp_walk using wpAny_loadPart' hx, wpAny_loadPart' hy
          rw [g1, g2]
          wp_walk using less
          exact h
theorem list_lt_ints (l b : Addr) (items items2 : Array Value) (n n2 : Nat) (ns ms : List Int) (hi : IntsAre items.toList ns) (hj : IntsAre items2.toList ms) :
    Meets (Builtin.«list.__lt__» ⟨[.ref l, .ref b], []⟩)
      (fun _ R s => (LObj s.heap l items n ∧ LObj s.heap b items2 n2) ∧ R (.ok (.ret (.bool (lexLt ns ms)))) s) := by
  intro prog w A R s h
  obtain ⟨h0, g0, d0, k0, o0⟩ := s
  obtain ⟨⟨hx, hy⟩, h⟩ := h
  have sub := AutoSeq1.sub_list_list
  wp_walk using wpAny_loadPart' hx, wpAny_loadPart' hy
  refine ⟨plainId_quiet plain_eq_loop _, codeAny_builtin entry_eq_loop ?_⟩
  (rw [Around.under_plainId plain_eq_loop _]; exact lt_from l b items items2 n n2 ns ms _ _ 0 hi hj rfl rfl (Nat.zero_le _) (Nat.zero_le _) prog w A R _ ⟨⟨hx, hy⟩, h⟩)
end HT
namespace L2
open PySem PyProof.Rows
section
variable {prog : Program} {w : World} {A : Around} {E : Value → Shared → Prop} {s : Shared}
def NotLess (prog : Program) (w : World) (A : Around) (s : Shared) (x y : Value) : Prop := ∀ (Q : Bool → Shared → Prop) (E' : Value → Shared → Prop), Q false s → wpAny (model prog w) A (oneLt' true x y) Q E' s
theorem ltAt_no {st : SortSt} {i j : Nat} {x y p q : Value} {Q : Option Bool → SortSt → Prop} (kd : kindOf st = oneType') (gi : (arrOf st)[i]? = some (x, p)) (gj : (arrOf st)[j]? = some (y, q)) (no : NotLess prog w A s x y) (h : Q (some false) st) :
    wpS (model prog w) A E s (ltAt' i j) Q st := by
  rw [ltAt'_eq]
  refine wpS_bind (wpS_get ?_)
  show wpS _ _ _ _ (do let u ← elem' (arrOf st) i; let v ← elem' (arrOf st) j; lt' u v) Q st
  rw [elem'_eq, elem'_eq, gi, gj]
  refine wpS_bind (wpS_pure ?_)
  refine wpS_bind (wpS_pure ?_)
  rw [lt'_eq]
  refine wpS_bind (wpS_get ?_)
  rw [kd, keyLt'_oneType]
  exact wpS_bind (wpS_lift (wpAny_attempt (no _ _ ⟨rfl, wpS_pure h⟩)))
def UpTo (prog : Program) (w : World) (A : Around) (s : Shared) (xs : Array Keyed) : Prop := ∀ k x y p q, xs[k]? = some (x, p) → xs[k + 1]? = some (y, q) → NotLess prog w A s y x
theorem asc_all {st : SortSt} {Q : AscSt → SortSt → Prop} (kd : kindOf st = oneType') (n1 : 1 ≤ (arrOf st).size) (up : UpTo prog w A s (arrOf st)) (h : Q (none, (arrOf st).size) st) : wpS (model prog w) A E s (ascLoop 1 (arrOf st).size) Q st := by
  unfold ascLoop
  refine wpS_forRange (I := fun x c t => t = st ∧ c = (none, x)) ?step ?fin ⟨rfl, rfl⟩
  case fin =>
    rintro c t ⟨rfl, rfl⟩
    rw [show max 1 (arrOf t).size = (arrOf t).size by omega]
    exact h
  case step =>
    rintro k c t k1 kn ⟨rfl, rfl⟩
    dsimp only
    have e1 := Array.getElem?_eq_getElem (xs := arrOf t) (show k < (arrOf t).size from kn)
    have e0 := Array.getElem?_eq_getElem (xs := arrOf t) (show k - 1 < (arrOf t).size by omega)
    refine wpS_bind (ltAt_no kd e1 e0 (up (k - 1) _ _ _ _ e0 (by rw [show k - 1 + 1 = k by omega]; exact e1)) ?_)
    exact wpS_pure ⟨rfl, rfl⟩
theorem run_all {st : SortSt} {Q : Option Nat → SortSt → Prop} (kd : kindOf st = oneType') (n1 : 1 ≤ (arrOf st).size) (up : UpTo prog w A s (arrOf st)) (h : Q (some (arrOf st).size) st) : wpS (model prog w) A E s (countRun' 0 (arrOf st).size) Q st := by
  rw [countRun0_eq]
  refine wpS_bind (asc_all kd n1 up ?_)
  dsimp only
  rw [if_pos (beq_self_eq_true _)]
  exact wpS_pure h
theorem minRun_le : ∀ (f n r : Nat), minRun' f n r ≤ n + r
  | 0, n, r => Nat.le_of_eq (show minRun' 0 n r = n + r from rfl)
  | f + 1, n, r => by
    rw [minRun'_succ]
    split
    · exact Nat.le_refl _
    · have := minRun_le f (n / 2) (max r (n % 2))
      omega
theorem runs_all {st : SortSt} {Q : Unit → SortSt → Prop} (kd : kindOf st = oneType') (fl : failedOf st = none) (pd : pendingOf st = #[]) (n1 : 1 ≤ (arrOf st).size) (up : UpTo prog w A s (arrOf st))
    (h : ∀ t, arrOf t = arrOf st → failedOf t = none → Q () t) : wpS (model prog w) A E s sortRuns' Q st := by
  rw [sortRuns'_eq]
  refine wpS_bind (wpS_get ?_)
  dsimp only
  obtain ⟨n, hn⟩ : ∃ n, n = (arrOf st).size := ⟨_, rfl⟩
  rw [← hn]
  have mr := minRun_le n n 0
  refine wpS_bind (wpS_mono (wpS_forRange (I := fun k c t => (k = 0 ∧ c = (none, 0) ∧ t = st) ∨ (1 ≤ k ∧ c = (none, n) ∧ arrOf t = arrOf st ∧ failedOf t = none ∧ pendingOf t = #[(0, n, 0)]))
    (Q := fun c t => c = (none, n) ∧ arrOf t = arrOf st ∧ failedOf t = none ∧ pendingOf t = #[(0, n, 0)]) ?step ?fin (.inl ⟨rfl, rfl, rfl⟩)) ?post)
  case fin =>
    rintro c t (⟨hk, _, _⟩ | ⟨_, hc, hD⟩)
    · omega
    · exact ⟨hc, hD⟩
  case step =>
    rintro k c t _ hk (⟨rfl, rfl, rfl⟩ | ⟨k1, rfl, hD⟩)
    · dsimp only
      rw [if_neg (by omega), Nat.sub_zero]
      rw [hn]
      refine wpS_bind (run_all kd n1 up ?_)
      rw [← hn]
      dsimp only
      rw [if_neg (by omega)]
      refine wpS_bind (wpS_get ?_)
      rw [pd]
      exact wpS_bind (wpS_modify (wpS_pure (.inr ⟨by omega, by rw [Nat.zero_add], rfl, fl, by show (pendingOf t).push _ = _; rw [pd]; rfl⟩)))
    · dsimp only
      rw [if_pos (Nat.le_refl _)]
      exact wpS_pure ⟨rfl, hD⟩
  case post =>
    rintro c t ⟨rfl, h1, h2, h3⟩
    dsimp only
    refine wpS_bind (wpS_mono (wpS_forRange (I := fun _ c u => u = t ∧ c = (none, ())) (Q := fun c u => u = t ∧ c = (none, ())) ?_ (fun _ _ z => z) ⟨rfl, rfl⟩) ?_)
    · rintro k c u _ _ ⟨rfl, rfl⟩
      refine wpS_bind (wpS_get ?_)
      rw [if_pos (by rw [h3]; exact Nat.le_refl 1)]
      exact wpS_pure ⟨rfl, rfl⟩
    · rintro c u ⟨rfl, rfl⟩
      exact wpS_pure (h _ h1 h2)
end
end L2
namespace L2
open PySem PySem.Spec PyProof.Rows
section
variable {prog : Program} {w : World} {A : Around} {E : Value → Shared → Prop} {s : Shared}
def RowIs (h : Heap) (v : Value) (ns : List Int) : Prop := ∃ p xs n, v = .ref p ∧ HT.LObj h p xs n ∧ IntsAre xs.toList ns
theorem notLess_rows (hu : A.units < cLine) {x y : Value} {ns ms : List Int} (hx : RowIs s.heap x ns) (hy : RowIs s.heap y ms) (h : HT.lexLt ns ms = false) : NotLess prog w A s x y := by
  obtain ⟨p, xs, n, rfl, ox, ix⟩ := hx
  obtain ⟨q, ys, m, rfl, oy, iy⟩ := hy
  intro Q E' hq
  rw [oneLt'_eq]
  simp only [if_true]
  refine wpAny_bind (wpAny_cRoomFor hu ?_)
  refine wpAny_bind (wpAny_callSpecialIfBound?_slot (T := "list") ⟨_, ox, rfl⟩ PySem.F.slot_list_lt (call_meets PySem.F.slot_list_lt ⟨_, ox, rfl⟩ PySem.F.entry_list_lt (PySem.F.args_list_lt_2 _ _) (HT.list_lt_ints p q xs ys n m ns ms ix iy) ⟨⟨ox, oy⟩, ?_⟩))
  rw [h]
  exact wpAny_truthy_bool hq
theorem mapM_still {α β : Type} {f : α → Sem β} (g : α → β) : ∀ {vs : List α} {Q : List β → Shared → Prop}, (∀ v, v ∈ vs → ∀ R : β → Shared → Prop, R (g v) s → wpAny (model prog w) A (f v) R E s) → Q (vs.map g) s → wpAny (model prog w) A (vs.mapM f) Q E s
  | [], Q, _, q => by rw [List.mapM_nil]; exact wpAny_pure q
  | v :: vs, Q, k, q => by
    rw [List.mapM_cons]
    refine wpAny_bind (k v (List.mem_cons_self ..) _ ?_)
    refine wpAny_bind (mapM_still g (fun u hu => k u (List.mem_cons_of_mem _ hu)) ?_)
    exact wpAny_pure q
theorem mapM_arr {α β : Type} {f : α → Sem β} (g : α → β) {vs : List α} {Q : Array β → Shared → Prop} (k : ∀ v, v ∈ vs → ∀ R : β → Shared → Prop, R (g v) s → wpAny (model prog w) A (f v) R E s) (q : Q (vs.map g).toArray s) : wpAny (model prog w) A (vs.toArray.mapM f) Q E s := by
  rw [List.mapM_toArray, map_eq_pure_bind]
  exact wpAny_bind (mapM_still g k (wpAny_pure q))
theorem firstOf_eq (v : Value) : firstOfTuple' v = (do
    if (← typeOf v) != .type "tuple" then return none
    return (← Builtin.List.listItems v)[0]?) := rfl
theorem first_row {v : Value} {ns : List Int} (r : RowIs s.heap v ns) {Q : Option Value → Shared → Prop} (k : Q none s) : wpAny (model prog w) A (firstOfTuple' v) Q E s := by
  obtain ⟨p, xs, n, rfl, ox, ix⟩ := r
  rw [firstOf_eq]
  refine wpAny_bind (wpAny_typeOf (T := "list") ⟨_, ox, rfl⟩ ?_)
  rw [if_pos (by decide)]
  exact wpAny_pure k
theorem type_row {v : Value} {ns : List Int} (r : RowIs s.heap v ns) {Q : Value → Shared → Prop} (k : Q (.type "list") s) : wpAny (model prog w) A (typeOf v) Q E s := by
  obtain ⟨p, xs, n, rfl, ox, ix⟩ := r
  exact wpAny_typeOf (T := "list") ⟨_, ox, rfl⟩ k
theorem kind_rows {v₁ v₂ : Value} {vs : List Value} {Q : SortKind → Shared → Prop} (r : ∀ v, v ∈ v₁ :: v₂ :: vs → ∃ ns, RowIs s.heap v ns) (k : Q oneType' s) : wpAny (model prog w) A (keyKind' (v₁ :: v₂ :: vs).toArray) Q E s := by
  rw [keyKind'_eq]
  refine wpAny_bind (mapM_arr (fun _ => none) (fun v hv R q => by obtain ⟨ns, z⟩ := r v hv; exact first_row z q) ?_)
  rw [if_neg (by simp), if_neg (by simp)]
  rw [oneTypeOnly'_eq]
  refine wpAny_bind (wpAny_bind (mapM_arr (fun _ => Value.type "list") (fun v hv R q => by obtain ⟨ns, z⟩ := r v hv; exact type_row z q) ?_))
  have h0 : (List.map (fun _ => Value.type "list") (v₁ :: v₂ :: vs)).toArray[0]? = some (Value.type "list") := by simp
  rw [h0]
  dsimp only
  rw [if_pos (by
    simp only [List.all_toArray, List.all_map, List.all_eq_true]
    intro _ _
    rfl)]
  exact wpAny_pure (wpAny_pure k)
def Asc (h : Heap) : List Value → List (List Int) → Prop
  | [], [] => True
  | v :: vs, r :: rs => RowIs h v r ∧ (∀ r', rs.head? = some r' → HT.lexLt r' r = false) ∧ Asc h vs rs
  | _, _ => False
theorem Asc.row {h : Heap} : ∀ {vs : List Value} {rs : List (List Int)}, Asc h vs rs → ∀ v, v ∈ vs → ∃ ns, RowIs h v ns
  | [], _, _, v, hv => by cases hv
  | _ :: _, [], z, _, _ => z.elim
  | u :: vs, r :: rs, z, v, hv => by
    rcases List.mem_cons.mp hv with rfl | hv
    · exact ⟨r, z.1⟩
    · exact z.2.2.row v hv
theorem Asc.next {h : Heap} : ∀ {vs : List Value} {rs : List (List Int)}, Asc h vs rs → ∀ (k : Nat) (x y : Value), vs[k]? = some x → vs[k + 1]? = some y → ∃ r r', RowIs h x r ∧ RowIs h y r' ∧ HT.lexLt r' r = false
  | [], _, _, _, _, _, e, _ => by cases e
  | _ :: _, [], z, _, _, _, _, _ => z.elim
  | [_], _ :: _, _, 0, _, _, _, e => by cases e
  | u :: u' :: vs, [r], z, 0, x, y, e, e' => z.2.2.elim
  | u :: u' :: vs, r :: r' :: rs, z, 0, x, y, e, e' => by
    cases e; cases e'
    exact ⟨r, r', z.1, z.2.2.1, z.2.1 r' rfl⟩
  | u :: vs, r :: rs, z, k + 1, x, y, e, e' => z.2.2.next k x y e e'
theorem pairs_snd (vs : List Value) : (pairsOf vs).map (·.2) = vs.toArray := by
  apply Array.toList_inj.mp
  rw [Array.toList_map, pairsOf_toList]
  exact List.map_snd_zip (Nat.le_refl _)
theorem pairs_at (vs : List Value) (k : Nat) {x p : Value} (h : (pairsOf vs)[k]? = some (x, p)) : vs[k]? = some x := by
  rw [← Array.getElem?_toList, pairsOf_toList, List.getElem?_zip_eq_some] at h
  exact h.1
theorem list_sort_up {a : Addr} {vs : List Value} {rs : List (List Int)} {n : Nat} {P : Fin → Shared → Prop} (ho : s.heap.get? a = some (seqObj "list" vs.toArray n)) (hu : A.units < cLine) (hl : vs.length ≤ sizeLine)
    (asc : ∀ h' : Heap, (∀ b o, b ≠ a → s.heap.get? b = some o → h'.get? b = some o) → Asc h' vs rs)
    (h : P (.done (.ret .none)) { s with heap := sortedHeap s.heap a vs vs.toArray }) : wpAny (model prog w) A (Builtin.«list.sort» ⟨[.ref a], []⟩) P E s := by
  rw [list_sort_plain]
  have ha : a < s.heap.objs.size := Heap.lt_size ho
  have hsz : vs.toArray.size = vs.length := by simp
  refine wpAny_bind (listItems_at ho rfl ?_)
  refine wpAny_bind (listUpdate_at ho rfl ?_ (by rw [hsz]; exact hl) (Nat.zero_le _))
  obtain ⟨e1, ho1⟩ : ∃ e1, (s.heap.update a (Obj.mapSeq fun _ => #[])).get? a = some (seqObj "list" #[] e1) := ⟨_, get?_update_seq ho (fun _ => #[])⟩
  refine wpAny_bind (seqEpoch_at ho1 rfl ?_)
  refine wpAny_bind (wpAny_newTuple ?_ (hsz := hl))
  refine wpAny_bind (wpAny_newList ?_)
  refine wpAny_holding ?_
  obtain ⟨H6, e6⟩ : ∃ H6, H6 = ((s.heap.update a (Obj.mapSeq fun _ => #[])).push (seqObj "tuple" vs.toArray 0)).push (seqObj "list" #[] 0) := ⟨_, rfl⟩
  have ho6 : H6.get? a = some (seqObj "list" #[] e1) := by
    rw [e6, Heap.get?_push_ne _ _ _ (by rw [size_push', Heap.size_update]; exact Nat.ne_of_lt (Nat.lt_succ_of_lt ha)), Heap.get?_push_ne _ _ _ (by rw [Heap.size_update]; exact Nat.ne_of_lt ha)]
    exact ho1
  have old : ∀ b o, b ≠ a → s.heap.get? b = some o → H6.get? b = some o := by
    intro b o nb hb
    rw [e6]
    refine Heap.get?_push_of_some _ (Heap.get?_push_of_some _ ?_)
    rw [Heap.get?_update_ne _ _ _ _ nb]
    exact hb
  have asc6 := asc H6 old
  show wpAny (model prog w) A _ P E { s with heap := ((s.heap.update a (Obj.mapSeq fun _ => #[])).push (seqObj "tuple" vs.toArray 0)).push (seqObj "list" #[] 0) }
  unfold sortedHeap at h
  rw [← e6] at h ⊢
  dsimp only
  by_cases h2 : vs.toArray.size < 2
  · rw [if_pos h2, if_pos h2]
    refine wpAny_bind (wpAny_pure ?_)
    rw [StateT.run_pure]
    refine wpAny_bind (wpAny_pure ?_)
    dsimp only
    refine wpAny_bind (seqEpoch_at ho6 rfl ?_)
    have ee : (arrOf (SortSt.mk' general' (vs.toArray.zip vs.toArray) #[] 7 none)).map (·.2) = vs.toArray := pairs_snd vs
    rw [ee]
    refine wpAny_bind (listUpdate_at ho6 rfl ?_ (Nat.zero_le _) (by rw [hsz]; omega))
    simp only [bne_self_eq_false, Bool.false_eq_true, if_false]
    exact wpAny_pure h
  · rw [if_neg h2, if_neg h2]
    obtain ⟨v₁, v₂, rest, rfl⟩ : ∃ v₁ v₂ rest, vs = v₁ :: v₂ :: rest := by
      match vs, hsz, h2 with
      | [], _, h2 => simp at h2
      | [_], _, h2 => simp at h2
      | v₁ :: v₂ :: rest, _, _ => exact ⟨v₁, v₂, rest, rfl⟩
    refine wpAny_bind (kind_rows asc6.row ?_)
    refine wpAny_bind (wpAny_mono (runs_all (s := { s with heap := H6 }) (st := SortSt.mk' oneType' ((v₁ :: v₂ :: rest).toArray.zip (v₁ :: v₂ :: rest).toArray) #[] 7 none)
      (Q := fun _ st' => arrOf st' = pairsOf (v₁ :: v₂ :: rest) ∧ failedOf st' = none) rfl rfl rfl (by show 1 ≤ (pairsOf (v₁ :: v₂ :: rest)).size; rw [pairsOf_size]; simp) ?_ fun st' a1 a2 => ⟨a1, a2⟩) ?_ fun _ _ e => e)
    · intro k x y p q e1 e2
      obtain ⟨r, r', r1, r2, r3⟩ := asc6.next k x y (pairs_at _ k e1) (pairs_at _ (k + 1) e2)
      exact notLess_rows hu r2 r1 r3
    · rintro ⟨⟨⟩, st'⟩ s' ⟨rfl, hp, hf⟩
      dsimp only
      refine wpAny_bind (seqEpoch_at ho6 rfl ?_)
      rw [hp, pairs_snd]
      refine wpAny_bind (listUpdate_at ho6 rfl ?_ (Nat.zero_le _) (by rw [hsz]; omega))
      rw [hf]
      simp only [bne_self_eq_false, Bool.false_eq_true, if_false]
      exact wpAny_pure h
theorem sorted_up {l : Addr} {vs : List Value} {rs : List (List Int)} {Q : Value → Shared → Prop} (pl : s.heap.IsList l vs.toArray) (hu : A.in1.in1.units < cLine) (hl : vs.length ≤ sizeLine)
    (asc : ∀ h' : Heap, (∀ b o, b < s.heap.objs.size → s.heap.get? b = some o → h'.get? b = some o) → Asc h' vs rs)
    (h : Q (.ref (s.heap.objs.size + 1)) { s with heap := sortedAll s.heap vs vs.toArray }) : wpAny (model prog w) A (call (.builtin "sorted") [.ref l]) Q E s := by
  refine Calls.call_function_entry kind_sorted plain_sorted entry_sorted (args_sorted1 _) ?_
  unfold Builtin.«sorted»
  refine wpAny_bind (m := checkCount "sorted" 1 1 _) (wpAny_pure ?_)
  refine wpAny_bind (collect_list pl ?_ hl)
  refine wpAny_bind (wpAny_newList ?_ (hsz := hl))
  have hsz : ((s.heap.push (seqObj "list" #[] 0)).update s.heap.objs.size (Obj.mapSeq (· ++ vs.toArray))).objs.size = s.heap.objs.size + 1 := by
    rw [Heap.size_update, size_push']
  have hoL : (((s.heap.push (seqObj "list" #[] 0)).update s.heap.objs.size (Obj.mapSeq (· ++ vs.toArray))).push (seqObj "list" vs.toArray 0)).get? (s.heap.objs.size + 1) = some (seqObj "list" vs.toArray 0) := by
    rw [← hsz]; exact Heap.get?_push_size _ rfl
  show wpAny _ _ _ _ _ { s with heap := ((s.heap.push (seqObj "list" #[] 0)).update s.heap.objs.size (Obj.mapSeq (· ++ vs.toArray))).push (seqObj "list" vs.toArray 0) }
  rw [hsz]
  refine wpAny_bind (wpAny_holding (wpAny_call_entry slot_list_sort ⟨_, hoL, rfl⟩ entry_list_sort (list_sort_up hoL ?_ hl (rs := rs) (fun h' old => asc h' fun b o lt e => old b o (Nat.ne_of_lt (Nat.lt_succ_of_lt lt)) ?_) ⟨_, rfl, ?_⟩) (args_list_sort _)))
  · exact hu
  · refine Heap.get?_push_of_some _ ?_
    rw [Heap.get?_update_ne _ _ _ _ (Nat.ne_of_lt lt)]
    exact Heap.get?_push_of_some _ e
  · exact wpAny_pure ⟨_, rfl, h⟩
end
end L2
namespace L2
open PySem PySem.Spec PyProof.Rows
def Rising (rs : List (List Int)) : Prop := ∀ (j : Nat) r r', rs[j]? = some r → rs[j + 1]? = some r' → HT.lexLt r' r = false
theorem Rising.tail {r : List Int} {rs : List (List Int)} (h : Rising (r :: rs)) : Rising rs := fun j a b e e' => h (j + 1) a b e e'
theorem RowsH.tail {H : Hp} {a : Addr} {as : List Addr} {r : List Int} {rs : List (List Int)} (h : RowsH H (a :: as) (r :: rs)) : RowsH H as rs := ⟨Nat.succ.inj h.1, fun j b q e e' => h.2 (j + 1) b q e e'⟩
theorem asc_of {H : Hp} {h : Heap} (each : ∀ b r, H b = some (.lst (r.map V.int)) → RowIs h (.ref b) r) : ∀ (bs : List Addr) (rs : List (List Int)) (us : List Value), RowsH H bs rs → Rising rs → Vals (bs.map V.ref) us → Asc h us rs
  | [], [], us, _, _, v => by cases v; exact True.intro
  | [], _ :: _, _, z, _, _ => absurd z.1 (by simp)
  | _ :: _, [], _, z, _, _ => absurd z.1 (by simp)
  | b :: bs, r :: rs, us, z, o, v => by
    cases v with
    | cons rv v' =>
      cases rv
      refine ⟨each b r (z.2 0 b r rfl rfl), fun r' e => o 0 r r' rfl (by rw [List.head?_eq_getElem?] at e; exact e), asc_of each bs rs _ z.tail o.tail v'⟩
section
variable {X : Cx}
theorem call_sortedUp (hu : X.A.in1.in1.units < cLine) : CallR X (.builtin "sorted") (fun xs H Q => ∃ (p : Addr) (bs : List Addr) (rs : List (List Int)), xs = [.ref p] ∧ SqL X.K H p (bs.map V.ref) ∧ RowsH H bs rs ∧ Rising rs ∧ ∀ l, H l = none → Q (.ref l) (upd H l (.lst (bs.map V.ref)))) := by
  intro pins s σ H xs us Q I r h
  obtain ⟨p, bs, rs, rfl, hp, hr, ho, q⟩ := h
  obtain ⟨u, rfl, rx⟩ := vals1 r
  cases rx
  obtain ⟨its, rv, pl, hl⟩ := I.list hp
  have il := rv.length
  have each : ∀ h' : Heap, (∀ b o, b < s.heap.objs.size → s.heap.get? b = some o → h'.get? b = some o) → ∀ b r, H b = some (.lst (r.map V.int)) → RowIs h' (.ref b) r := by
    intro h' old b r e
    obtain ⟨_, its, n, v, g⟩ := (show ObjOk X.prog X.w H s.heap b (.lst (r.map V.int)) from I.hok b _ e)
    exact ⟨b, its.toArray, n, rfl, old b _ (Heap.lt_size g) g, by simpa using intsAre_of v⟩
  refine sorted_up (rs := rs) pl.isList hu (by omega) (fun h' old => asc_of (each h' old) bs rs its hr ho rv) ?_
  obtain ⟨e, he⟩ := sortedAll_at s.heap its its.toArray
  refine ⟨.ref (s.heap.objs.size + 1), _, I.laid (t' := s.toks) (fun _ _ q => sortedAll_old q) (Nat.le_succ _) (show ObjOk X.prog X.w _ _ _ (.lst (bs.map V.ref)) from ⟨hl, its, e, rv, he⟩), rfl, q _ (I.hok.fresh (Nat.le_succ _))⟩
variable {e : Expr} {t : TA} {p pos : Pos}
def tSortedUp (K : PySem.W.Frag) (t : TA) : TE := tCB (fun xs H Q => ∃ (p : Addr) (bs : List Addr) (rs : List (List Int)), xs = [.ref p] ∧ SqL K H p (bs.map V.ref) ∧ RowsH H bs rs ∧ Rising rs ∧ ∀ l, H l = none → Q (.ref l) (upd H l (.lst (bs.map V.ref)))) t
theorem pe_sortedUp (hu : X.A.units + 1 + 1 < cLine) (hm : X.mg "sorted" = none) (ha : PA X [e] t) (hg : Gl X "sorted" := by rfl) (he : starEach [e] X.env = (false, eval e X.env) :: starEach [] X.env := by rfl) :
    PE X (.Call (.Name "sorted" p) [e] [] pos) (tSortedUp X.K t) :=
  pe_callB (call_sortedUp (by simpa [Around.in1] using hu)) hg hm boot_sortedB ha (by decide) (by decide) he rfl
end
end L2
namespace My
open PySem L2 Mth
def top (i : Nat) : Stmt := PySem.Challenge.pw_turnroots_k40_kinds_told.main.body.getD i (.Pass ⟨0, 0, 0, 0⟩)
abbrev s_is_whole : Stmt := top 5
abbrev s_must_be_counted : Stmt := top 8
abbrev s_kinds_below : Stmt := top 9
abbrev s_kinds_of : Stmt := top 10
abbrev s_law_pool : Stmt := top 12
abbrev s_law_take : Stmt := top 13
abbrev s_law_same : Stmt := top 14
abbrev s_law_kinds : Stmt := top 15
abbrev s_law_right : Stmt := top 16
abbrev s_law : Stmt := top 17
end My
namespace My
open PySem L2 Mth
structure Bl (mg : Str → Option Value) : Prop where
  len : mg "len" = none
  isi : mg "isinstance" = none
  int : mg "int" = none
  bool : mg "bool" = none
  list : mg "list" = none
  range : mg "range" = none
  sum : mg "sum" = none
  min : mg "min" = none
  max : mg "max" = none
  enum : mg "enumerate" = none
  zip : mg "zip" = none
  sorted : mg "sorted" = none
  tuple : mg "tuple" = none
  str : mg "str" = none
  repr : mg "repr" = none
  all : mg "all" = none
  any : mg "any" = none
  set : mg "set" = none
  dict : mg "dict" = none
  ve : mg "ValueError" = none
section
variable {P : Program} {w : World} {K : PySem.W.Frag} {mg : Str → Option Value} {base : Heap}
def spWhole (K : PySem.W.Frag) : Sp := fun vs H Q _ => ∃ x t b1 b2, vs = [x] ∧ TyOf K H x t ∧ PySem.W.kitOne K t (.type "int") = some b1 ∧ PySem.W.kitOne K t (.type "bool") = some b2 ∧ Q (.bl (b1 && !b2)) H
theorem scWhole : FnScope ["thing"] ["thing"] (defScope s_is_whole) := ⟨rfl, rfl, rfl, by decide +kernel, rfl, by decide +kernel, by decide +kernel⟩
theorem ok_whole {f : Addr} {fd : FuncData} (F : Fun K "is_whole" "is_whole" s_is_whole f fd) (B : Bl mg) : FnOk P w K mg base CX0 1 f fd ["thing"] (spWhole K) := by
  refine F.ok scWhole (fun vs H Q E h => ?_) (fun cdv A outer s H vs Q E hr h => ?_)
  · obtain ⟨x, t, b1, b2, rfl, _⟩ := h
    rfl
  · obtain ⟨x, t, b1, b2, rfl, ty, e1, e2, q⟩ := h
    refine ⟨_, pss_one (ps_ret (pe_and (pe_isi B.isi (pa_cons (pv 0) (pa_cons (pe_tyInt B.int) pa_nil))) (pe_one (pe_not (pe_isi B.isi (pa_cons (pv 0) (pa_cons (pe_tyBool B.bool) pa_nil))))))), ?_⟩
    refine ⟨x, rfl, x, "int", t, b1, rfl, ty, e1, b1, rfl, ?_⟩
    cases b1 with
    | true =>
      refine iteT ⟨x, rfl, x, "bool", t, b2, rfl, ty, e2, b2, rfl, ?_⟩
      exact q
    | false => exact iteF q
end
end My
namespace My
open PySem L2 Mth
section
variable {P : Program} {w : World} {K : PySem.W.Frag} {mg : Str → Option Value} {base : Heap}
end
end My
namespace My
open PySem L2 Mth
section
variable {P : Program} {w : World} {K : PySem.W.Frag} {mg : Str → Option Value} {base : Heap}
theorem rows_snoc {H : Hp} {as : List Addr} {rs : List (List Int)} {e : Addr} {r : List Int} (h : RowsH H as rs) (he : H e = some (.lst (r.map V.int))) : RowsH H (as ++ [e]) (rs ++ [r]) := by
  refine ⟨by rw [List.length_append, List.length_append, h.1]; rfl, fun j b q h1 h2 => ?_⟩
  by_cases hj : j < as.length
  · rw [List.getElem?_append_left hj] at h1
    rw [List.getElem?_append_left (by rw [← h.1]; exact hj)] at h2
    exact h.2 j b q h1 h2
  · rw [List.getElem?_append_right (by omega)] at h1
    rw [List.getElem?_append_right (by rw [← h.1]; omega), ← h.1] at h2
    have hj0 : j - as.length = 0 := by
      have := (List.getElem?_eq_some_iff.mp h1).1
      simpa using this
    rw [hj0] at h1 h2
    cases h1; cases h2
    exact he
theorem rows_keep {H H' : Hp} {as : List Addr} {rs : List (List Int)} (h : RowsH H as rs) (k : ∀ b ∈ as, ∀ o, H b = some o → H' b = some o) : RowsH H' as rs :=
  ⟨h.1, fun j a r h1 h2 => k a (List.mem_of_getElem? h1) _ (h.2 j a r h1 h2)⟩
theorem rows_mem {H : Hp} {as : List Addr} {rs : List (List Int)} (h : RowsH H as rs) {b : Addr} (hb : b ∈ as) : ∃ r : List Int, H b = some (.lst (r.map V.int)) := by
  obtain ⟨j, hj⟩ := List.mem_iff_getElem?.mp hb
  have hjl := (List.getElem?_eq_some_iff.mp hj).1
  exact ⟨_, h.2 j b (rs[j]'(by rw [← h.1]; exact hjl)) hj (List.getElem?_eq_getElem _)⟩
end
end My
namespace My
open PySem L2 Mth
section
variable {P : Program} {w : World} {K : PySem.W.Frag} {mg : Str → Option Value} {base : Heap}
def spPool (K : PySem.W.Frag) : Sp := fun vs H Q _ => ∃ (a : Addr) (ns : List Int) (k : Int), vs = [.ref a, .int k] ∧ SqL K H a (ns.map V.int) ∧ 0 ≤ k ∧ k ≤ 100 ∧ ∀ (l : Addr) (H' : Hp), H l = none → Same H H' → PoolAt H' l 4300 → Q (.ref l) H'
theorem scPool : FnScope ["script", "k", "cell"] ["script", "k"] (defScope s_law_pool) := ⟨rfl, rfl, rfl, by decide +kernel, rfl, by decide +kernel, by decide +kernel⟩
theorem ok_pool {f : Addr} {fd : FuncData} (F : Fun K "_law_pool" "_law_pool" s_law_pool f fd) (B : Bl mg) : FnOk P w K mg base CX0 1 f fd ["script", "k"] (spPool K) := by
  refine F.ok scPool (fun vs H Q E h => ?_) (fun cdv A outer s H vs Q E hr h => ?_)
  · obtain ⟨a, ns, k, rfl, _⟩ := h
    rfl
  · obtain ⟨a, ns, k, rfl, ha, k0, k1, q⟩ := h
    refine ⟨_, pss_cons (ps_set (i := 2) scPool.nd rfl (Or.inl rfl) pe_int)
      (pss_cons (ps_if (pt_cmpR op_lt (pv 1) (pe_lenL B.len (pa_cons (pv 0) pa_nil)) (nomark _)) (pss_one (ps_set (i := 2) scPool.nd rfl (Or.inl rfl) (pe_ix ix_list (pv 0) (pv 1) (fun _ _ => rfl)))) pss_nil)
      (pss_cons (ps_if (pt_cmpR op_ge (pv 2) (pe_op op_pow pe_int pe_int) (nomark _)) (pss_one (ps_ret (pe_lst (pa_cons (pe_op op_sub (pv 2) (pe_op op_pow pe_int pe_int)) (pa_cons pe_int (pa_cons pe_int pa_nil)))))) pss_nil)
      (pss_one (ps_ret (pe_lst (pa_cons (pv 2) (pa_cons pe_int (pa_cons (pe_op op_mul pe_int (pv 1)) pa_nil)))))))), ?_⟩
    refine ⟨_, rfl, _, rfl, a, _, rfl, .inl ha, _, _, rfl, rfl, _, rfl, ?_⟩
    rw [List.length_map]
    have cp : CPow 10 18 := ⟨by decide, by decide, by decide⟩
    refine ite2 (fun h => ?_) (fun h => ?_)
    · have h : k < (ns.length : Int) := of_decide_eq_true h
      refine ⟨_, rfl, _, rfl, a, _, k, _, rfl, rfl, ha, atI_map k0 h, ?_⟩
      refine ⟨_, rfl, _, _, rfl, rfl, cp, _, _, rfl, rfl, _, rfl, ?_⟩
      refine ite2 (fun h => ?_) (fun h => ?_)
      · refine ⟨_, rfl, _, _, rfl, rfl, cp, _, _, rfl, rfl, (by show 3 ≤ sizeLine; decide), fun l hl => ?_⟩
        exact q l _ hl (Same.upd_new hl) ⟨_, _, _, upd_same, by decide, by decide⟩
      · refine ⟨_, rfl, _, rfl, _, _, rfl, rfl, .inl ⟨by decide, by decide⟩, (by show 3 ≤ sizeLine; decide), fun l hl => ?_⟩
        exact q l _ hl (Same.upd_new hl) ⟨_, _, _, upd_same, by omega, by omega⟩
    · refine ⟨_, rfl, _, _, rfl, rfl, cp, _, _, rfl, rfl, _, rfl, ?_⟩
      refine ite2 (fun h => ?_) (fun h => ?_)
      · refine ⟨_, rfl, _, _, rfl, rfl, cp, _, _, rfl, rfl, (by show 3 ≤ sizeLine; decide), fun l hl => ?_⟩
        exact q l _ hl (Same.upd_new hl) ⟨_, _, _, upd_same, by decide, by decide⟩
      · refine ⟨_, rfl, _, rfl, _, _, rfl, rfl, .inl ⟨by decide, by decide⟩, (by show 3 ≤ sizeLine; decide), fun l hl => ?_⟩
        exact q l _ hl (Same.upd_new hl) ⟨_, _, _, upd_same, by omega, by omega⟩
def spTake : Sp := fun vs H Q _ => ∃ (a : Addr) (c : Nat) (m : Int), vs = [.ref a, .int m] ∧ PoolAt H a c ∧ c ≤ 1000000 ∧ 0 < m ∧ m ≤ 1000000000000000000000000000000 ∧ ∀ (r : Int) (H' : Hp), 0 ≤ r → r < m → PoolAt H' a (c + 1) → KeepBut a H H' → Q (.int r) H'
theorem scTake : FnScope ["pool", "many", "found", "step", "mark"] ["pool", "many"] (defScope s_law_take) := ⟨rfl, rfl, rfl, by decide +kernel, rfl, by decide +kernel, by decide +kernel⟩
theorem ok_take {f : Addr} {fd : FuncData} (F : Fun K "_law_take" "_law_take" s_law_take f fd) : FnOk P w K mg base CX0 1 f fd ["pool", "many"] spTake := by
  refine F.ok scTake (fun vs H Q E h => ?_) (fun cdv A outer s H vs Q E hr h => ?_)
  · obtain ⟨a, c, m, rfl, _⟩ := h
    rfl
  · obtain ⟨a, c, m, rfl, ⟨x, y, z, ha, hz, hzc⟩, hc, m0, m1, q⟩ := h
    refine ⟨_, pss_cons (ps_if (pt_cmpR op_eq (pe_ix ix_list (pv 0) pe_int (fun _ _ => rfl)) pe_int (nomark _))
        (pss_cons (ps_set (i := 2) scTake.nd rfl (Or.inl rfl) (pe_op op_mod (pe_ix ix_list (pv 0) pe_int (fun _ _ => rfl)) (pv 1)))
        (pss_cons (ps_asg (pe_op op_fdivB (pe_ix ix_list (pv 0) pe_int (fun _ _ => rfl)) (pv 1)) (pg_sub (pv 0) pe_int set_list))
        (pss_one (ps_ret (pv 2))))) pss_nil)
      (pss_cons (ps_asg (pe_op op_add (pe_ix ix_list (pv 0) pe_int (fun _ _ => rfl)) pe_int) (pg_sub (pv 0) pe_int set_list))
      (pss_cons (ps_set (i := 3) scTake.nd rfl (Or.inl rfl) (pe_ix ix_list (pv 0) pe_int (fun _ _ => rfl)))
      (pss_cons (ps_set (i := 4) scTake.nd rfl (Or.inl rfl) (pe_op op_mul (pe_op op_add (pe_op op_mod (pe_ix ix_list (pv 0) pe_int (fun _ _ => rfl)) pe_int) pe_int) (pe_op op_add (pe_op op_mul pe_int (pv 3)) pe_int)))
      (pss_cons (ps_set (i := 4) scTake.nd rfl (Or.inl rfl) (pe_op op_add (pv 4) (pe_op op_mul (pe_op op_mul pe_int (pv 3)) (pv 3))))
      (pss_cons (ps_set (i := 4) scTake.nd rfl (Or.inl rfl) (pe_op op_mod (pe_op op_mul (pv 4) (pv 4)) pe_int))
      (pss_one (ps_ret (pe_op op_mod (pe_op op_fdiv (pe_op op_mod (pe_op op_mul (pv 4) (pe_op op_add (pv 4) pe_int)) pe_int) pe_int) (pv 1))))))))), ?_⟩
    refine ⟨_, rfl, a, _, _, _, rfl, rfl, SqL.of ha, (atI_nat (j := 1) rfl), rfl, _, rfl, ?_⟩
    refine ite2 (fun h => ?_) (fun h => ?_)
    · refine ⟨_, rfl, a, _, _, _, rfl, rfl, SqL.of ha, (atI_nat (j := 0) rfl), _, rfl, _, _, rfl, rfl, m0, ?_⟩
      refine ⟨_, rfl, a, _, _, _, rfl, rfl, SqL.of ha, (atI_nat (j := 0) rfl), _, rfl, _, _, rfl, rfl, ⟨m0, m1⟩, ?_⟩
      refine ⟨_, rfl, a, _, _, 0, rfl, rfl, ha, rfl, ?_⟩
      refine ⟨_, rfl, q _ _ (Int.emod_nonneg _ (by omega)) (Int.emod_lt_of_pos _ m0) ⟨_, _, _, upd_same, hz, by omega⟩ KeepBut.upd⟩
    · refine ⟨_, rfl, a, _, _, _, rfl, rfl, SqL.of ha, (atI_nat (j := 2) rfl), _, _, rfl, rfl, ?_⟩
      refine ⟨_, rfl, a, _, _, 2, rfl, rfl, ha, rfl, ?_⟩
      have ha2 : (upd H a (.lst [.int x, .int y, .int (z + 1)])) a = some (.lst [.int x, .int y, .int (z + 1)]) := upd_same
      refine ⟨_, rfl, a, _, _, _, rfl, rfl, SqL.of ha2, (atI_nat (j := 2) rfl), ?_⟩
      have hxm : 0 ≤ x % 9999999577 ∧ x % 9999999577 < 9999999577 := ⟨Int.emod_nonneg _ (by decide), Int.emod_lt_of_pos _ (by decide)⟩
      have tb := take_bound (u := x % 9999999577 + 1009) (s := z + 1) (by omega) (by omega) (by omega) (by omega)
      have e64 : (2 : Int) ^ 64 = 18446744073709551616 := by decide
      refine ⟨_, rfl, a, _, _, _, rfl, rfl, SqL.of ha2, (atI_nat (j := 0) rfl), _, _, rfl, rfl, (by show (0 : Int) < 9999999577; decide), _, _, rfl, rfl, _, rfl, _, _, rfl, rfl, .inl ⟨by decide, by decide⟩, _, _, rfl, rfl, _, _, rfl, rfl, .inl ⟨by rw [e64]; omega, by rw [e64]; omega⟩, ?_⟩
      refine ⟨_, rfl, _, rfl, _, _, rfl, rfl, .inl ⟨by decide, by decide⟩, _, rfl, _, _, rfl, rfl, .inl ⟨by rw [e64]; omega, by rw [e64]; omega⟩, _, _, rfl, rfl, ?_⟩
      refine ⟨_, rfl, _, rfl, _, _, rfl, rfl, .inl ⟨by have := tb.1; rw [e64]; omega, tb.2⟩, _, _, rfl, rfl, (by show (0 : Int) < 99999999599; decide), ?_⟩
      refine ⟨_, rfl, _, rfl, _, _, rfl, rfl, _, _, rfl, rfl, .inl ⟨by rw [e64]; omega, by rw [e64]; omega⟩, _, _, rfl, rfl, (by show (0 : Int) < 99999999907; decide), _, _, rfl, rfl, ⟨by decide, by decide⟩, _, rfl, _, _, rfl, rfl, m0, ?_⟩
      exact q _ _ (Int.emod_nonneg _ (by omega)) (Int.emod_lt_of_pos _ m0) ⟨_, _, _, upd_same, by omega, by omega⟩ KeepBut.upd
end
end My
namespace My
open PySem L2 Mth
section
variable {P : Program} {w : World} {K : PySem.W.Frag} {mg : Str → Option Value} {base : Heap}
end
end My
namespace My
open PySem L2 Mth
section
variable {P : Program} {w : World} {K : PySem.W.Frag} {mg : Str → Option Value} {base : Heap}
def spSame : Sp := fun vs H Q _ => ∃ (a b : Addr) (fs ds : List Int), vs = [.ref a, .ref b] ∧ H a = some (.lst (fs.map V.int)) ∧ H b = some (.lst (ds.map V.int)) ∧ ∀ (r : Bool) (H' : Hp), Same H H' → (r = true ↔ fs = ds) → Q (.bl r) H'
theorem scSame : FnScope ["found", "due"] ["found", "due"] (defScope s_law_same) := ⟨rfl, rfl, rfl, by decide +kernel, rfl, by decide +kernel, by decide +kernel⟩
theorem ndOne : (["one"] : List Str).Nodup := by decide +kernel
theorem ok_same {f : Addr} {fd : FuncData} (F : Fun K "_law_same" "_law_same" s_law_same f fd) (B : Bl mg) : FnOk P w K mg base CX0 1 f fd ["found", "due"] spSame := by
  refine F.ok scSame (fun vs H Q E h => ?_) (fun cdv A outer s H vs Q E hr h => ?_)
  · obtain ⟨a, b, fs, ds, rfl, _⟩ := h
    rfl
  · obtain ⟨a, b, fs, ds, rfl, ha, hb, q⟩ := h
    have hu := hu_of hr
    refine ⟨_, pss_cons (ps_if (pw_or (pt_not (pt_val (pe_isi B.isi (pa_cons (pv 0) (pa_cons (pe_tyList B.list) pa_nil))))) (pw_or1 (pt_cmpR (op_neL 0 hu) (pv 0) (pv 1) (nomark _)))).pt (pss_one (ps_ret pe_bl)) pss_nil)
      (pss_one (ps_ret (pe_cmpR (op_eqL 0 hu) (pe_comp (N := ["one"]) (nl := 1) (fr := []) rfl .of (pi_list (pv 0)) (fun _ _ _ _ _ => pg_name (i := 0) ndOne rfl (Or.inl rfl))
        (fun _ _ _ _ _ => pifs_one (pw_or (pt_not (pt_val (pe_isiK K B.isi (pa_cons (pv 0) (pa_cons (pe_tyInt B.int) pa_nil))))) (pw_or1 (pt_val (pe_isiK K B.isi (pa_cons (pv 0) (pa_cons (pe_tyBool B.bool) pa_nil)))))).pt) (fun _ _ _ _ _ => pv 0)) (pe_lst pa_nil) (nomark _)))), ?_⟩
    refine ⟨_, rfl, _, "list", _, true, rfl, .lst ha, kit_same K "list", true, rfl, ?_⟩
    refine iteF ⟨_, rfl, _, rfl, a, b, _, _, decide (fs = ds), rfl, rfl, SqL.of ha, SqL.of hb, leq_ints _ _ _ _ _, _, rfl, ?_⟩
    by_cases hfd : fs = ds
    · rw [decide_eq_true hfd]
      refine iteF ?_
      refine ⟨_, rfl, a, rfl, ⟨_, SqL.of ha⟩, comp_list (K := K) (a := a) (xs := fs.map V.int) (fun i ys σ H3 => ∃ v, σ = [v] ∧ H3 = H ∧ ys = []) ⟨none, rfl, rfl, rfl⟩ (fun i ys σ H3 _ ⟨_, _, e, _⟩ => by rw [e]; exact SqL.of ha) ?_ ?_⟩
      · rintro i x ys σ H3 hi ⟨v, rfl, rfl, rfl⟩
        obtain ⟨z, hz, rfl⟩ := getElem_int hi
        refine ⟨_, rfl, .int z, "int", _, true, rfl, .int z, kit_same K "int", true, rfl, ?_⟩
        refine iteF ⟨_, rfl, .int z, "bool", _, false, rfl, .int z, kit_int_bool K, false, rfl, ?_⟩
        exact iteF ⟨_, rfl, rfl, rfl⟩
      · rintro ys σ H3 ⟨v, rfl, rfl, rfl⟩ D hD
        refine ⟨Nat.zero_le _, fun e he => ?_⟩
        have hde : D ≠ e := fun z => by rw [← z, upd_same] at he; cases he
        have he0 : H3 e = none := by rw [upd_ne hde.symm] at he; exact he
        refine ⟨D, e, [], [], true, rfl, rfl, SqL.of (by rw [upd_ne hde, upd_same]), SqL.of upd_same, leq_nil _ _ _ _, ?_⟩
        exact q true _ (Same.upd_r (Same.upd_new hD) he0) ⟨fun _ => hfd, fun _ => rfl⟩
    · rw [decide_eq_false hfd]
      exact iteT (q false H (Same.refl H) ⟨fun z => (by cases z), fun z => absurd z hfd⟩)
end
end My
namespace My
open PySem L2 Mth
section
variable {P : Program} {w : World} {K : PySem.W.Frag} {mg : Str → Option Value} {base : Heap}
def kindsF : Nat → Nat → Nat → List (List Int)
  | 0, _, _ => [[]]
  | d + 1, n, m => if n = 0 then [[]] else (List.range (min n m)).flatMap fun i => (kindsF d (n - (i + 1)) (i + 1)).map fun r => ((i : Int) + 1) :: r
theorem kinds_zero (d m : Nat) : kindsF d 0 m = [[]] := by cases d <;> rfl
theorem kinds_many : ∀ d, d < 13 → ∀ n, n < 13 → ∀ m, m < 13 → (kindsF d n m).length ≤ 77 := by decide +kernel
theorem kinds_row : ∀ (d n m : Nat) (r : List Int), r ∈ kindsF d n m → r.length ≤ d
  | 0, n, m, r, h => by rw [List.mem_singleton.mp (show r ∈ [[]] from h)]; exact Nat.le_refl _
  | d + 1, n, m, r, h => by
    unfold kindsF at h
    split at h
    · rw [List.mem_singleton.mp h]; exact Nat.zero_le _
    · obtain ⟨i, _, hi⟩ := List.mem_flatMap.mp h
      obtain ⟨q, hq, rfl⟩ := List.mem_map.mp hi
      have := kinds_row d _ _ q hq
      rw [List.length_cons]; omega
def spKinds (d : Nat) : Sp := fun vs H Q _ => ∃ n m : Nat, vs = [.int (n : Int), .int (m : Int)] ∧ n ≤ d ∧ m ≤ 12 ∧ d ≤ 12 ∧ ∀ (l : Addr) (as : List Addr) (H' : Hp), H l = none → Same H H' → H' l = some (.lst (as.map V.ref)) → RowsH H' as (kindsF d n m) → (∀ b ∈ as, H b = none) → as.Nodup → l ∉ as → Q (.ref l) H'
theorem one_row {H : Hp} {e l : Addr} (he : H e = none) (hl : (upd H e (.lst [])) l = none) : H l = none ∧ Same H (upd (upd H e (.lst [])) l (.lst [V.ref e])) ∧ RowsH (upd (upd H e (.lst [])) l (.lst [V.ref e])) [e] [[]] ∧ l ∉ [e] := by
  have n : l ≠ e := fun z => by rw [z, upd_same] at hl; cases hl
  have hl0 : H l = none := by rw [upd_ne n] at hl; exact hl
  refine ⟨hl0, (Same.upd_new he).upd_r hl0, ⟨rfl, fun j a r h1 h2 => ?_⟩, fun z => n (List.mem_singleton.mp z)⟩
  cases j with
  | zero =>
    cases h1; cases h2
    rw [upd_ne n.symm, upd_same]; rfl
  | succ j => cases h1
def kindsT (d n i : Nat) : List (List Int) := (List.range i).flatMap fun i => (kindsF d (n - (i + 1)) (i + 1)).map fun r => ((i : Int) + 1) :: r
theorem kindsT_succ (d n i : Nat) : kindsT d n (i + 1) = kindsT d n i ++ (kindsF d (n - (i + 1)) (i + 1)).map fun r => ((i : Int) + 1) :: r := by
  unfold kindsT
  rw [List.range_succ, List.flatMap_append, List.flatMap_singleton]
theorem kindsT_le (d n : Nat) : ∀ {i j : Nat}, i ≤ j → (kindsT d n i).length ≤ (kindsT d n j).length
  | i, j, h => by
    induction j with
    | zero => rw [Nat.le_zero.mp h]; exact Nat.le_refl _
    | succ j ih =>
      rcases Nat.lt_or_eq_of_le h with z | z
      · have := ih (by omega)
        rw [kindsT_succ, List.length_append]; omega
      · rw [z]; exact Nat.le_refl _
theorem kindsF_succ (d n m : Nat) (h : n ≠ 0) : kindsF (d + 1) n m = kindsT d n (min n m) := by
  unfold kindsF kindsT
  rw [if_neg h]
theorem sc_kinds_below : FnScope ["n", "most", "kinds", "first", "rest"] ["n", "most"] (defScope s_kinds_below) := ⟨rfl, rfl, rfl, by decide +kernel, rfl, by decide +kernel, by decide +kernel⟩
theorem ok_kinds_below {f : Addr} {fd : FuncData} (F : Fun K "kinds_below" "kinds_below" s_kinds_below f fd) (B : Bl mg) : FnOk P w K mg base CX0 1 f fd ["n", "most"] (spKinds 0) := by
  refine F.ok sc_kinds_below (fun vs H Q E h => ?_) (fun cdv A outer s H vs Q E hr h => ?_)
  · obtain ⟨n, m, rfl, hn, hm, hd, q⟩ := h
    rfl
  · obtain ⟨n, m, rfl, hn, hm, hd, q⟩ := h
    refine ⟨_, @pss_cons _ _ _ _ _ (@ps_if _ _ _ _ _ _ _ _ (@pt_cmpR _ _ _ _ _ _ _ _ op_eq (pv 0) (@pe_int _ _ _ _) (nomark _)) (@pss_one _ _ _ (@ps_ret _ _ _ _ (@pe_lst _ _ _ _ (@pa_cons _ _ _ _ _ (@pe_lst _ _ _ _ (@pa_nil _)) (@pa_nil _) (by rfl))))) (@pss_nil _)) (@pss_cons _ _ _ _ _ (@ps_set _ _ (2) _ _ _ _ sc_kinds_below.nd rfl (Or.inl rfl) (@pe_lst _ _ _ _ (@pa_nil _)) (by rfl) (by first | exact .inl rfl | exact .inr rfl | assumption)) (@pss_cons _ _ _ _ _ (@ps_for _ _ _ _ _ _ _ _ PassesOwn.never rfl (@pi_range2 _ _ _ _ _ _ _ (by rfl) B.range (@pa_cons _ _ _ _ _ (@pe_int _ _ _ _) (@pa_cons _ _ _ _ _ (@pe_op _ _ _ _ _ _ _ _ op_add (@pe_min2 _ _ _ _ _ _ rfl B.min (@pa_cons _ _ _ _ _ (pv 0) (@pa_cons _ _ _ _ _ (pv 1) (@pa_nil _) (by rfl)) (by rfl)) (by rfl) (by rfl) (by rfl)) (@pe_int _ _ _ _)) (@pa_nil _) (by rfl)) (by rfl)) (by rfl) (by rfl)) (@pg_name _ _ (3) _ sc_kinds_below.nd rfl (Or.inl rfl) (by first | exact .inl rfl | exact .inr rfl | assumption)) (@pss_one _ _ _ (@ps_for _ _ _ _ _ _ _ _ PassesOwn.never rfl (@pi_list _ _ _ _ (@pe_never _ _)) (@pg_name _ _ (4) _ sc_kinds_below.nd rfl (Or.inl rfl) (by first | exact .inl rfl | exact .inr rfl | assumption)) (@pss_one _ _ _ (@ps_expr _ _ _ _ (@pe_append _ _ _ _ _ _ _ (pv 2) (@pa_cons _ _ _ _ _ (@pe_op _ _ _ _ _ _ _ _ op_cat (@pe_lst _ _ _ _ (@pa_cons _ _ _ _ _ (pv 3) (@pa_nil _) (by rfl))) (pv 4)) (@pa_nil _) (by rfl)) (by rfl) (by rfl) (by rfl) (by rfl) (by rfl)) (by rfl))) (by intro _; rfl))) (by intro _; rfl)) (@pss_one _ _ _ (@ps_ret _ _ _ _ (pv 2))))), ?_⟩
    obtain rfl : n = 0 := by omega
    refine ⟨_, rfl, rfl, _, rfl, ?_⟩
    refine ite2 (fun _ => ?_) (fun h => absurd (decide_eq_true rfl) h)
    refine ⟨Nat.zero_le _, fun e he => ⟨(show 1 ≤ sizeLine by decide), fun l hl => ?_⟩⟩
    obtain ⟨a1, a2, a3, a4⟩ := one_row he hl
    exact q l [e] _ a1 a2 upd_same a3 (fun b hb => by rw [List.mem_singleton.mp hb]; exact he) (by simp) a4
theorem okr_kinds_below {d k : Nat} {f : Addr} {fd : FuncData} (F : Fun K "kinds_below" "kinds_below" s_kinds_below f fd) (B : Bl mg) (c_kinds_below : Cal P w K mg base "kinds_below" k ["n", "most"] (spKinds d)) : FnOk P w K mg base CX0 (k + 1) f fd ["n", "most"] (spKinds (d + 1)) := by
  refine F.ok sc_kinds_below (fun vs H Q E h => ?_) (fun cdv A outer s H vs Q E hr h => ?_)
  · obtain ⟨n, m, rfl, hn, hm, hd, q⟩ := h
    rfl
  · obtain ⟨n, m, rfl, hn, hm, hd, q⟩ := h
    have hr_kinds_below : Room k _ := hr.mono (by omega)
    refine ⟨_, @pss_cons _ _ _ _ _ (@ps_if _ _ _ _ _ _ _ _ (@pt_cmpR _ _ _ _ _ _ _ _ op_eq (pv 0) (@pe_int _ _ _ _) (nomark _)) (@pss_one _ _ _ (@ps_ret _ _ _ _ (@pe_lst _ _ _ _ (@pa_cons _ _ _ _ _ (@pe_lst _ _ _ _ (@pa_nil _)) (@pa_nil _) (by rfl))))) (@pss_nil _)) (@pss_cons _ _ _ _ _ (@ps_set _ _ (2) _ _ _ _ sc_kinds_below.nd rfl (Or.inl rfl) (@pe_lst _ _ _ _ (@pa_nil _)) (by rfl) (by first | exact .inl rfl | exact .inr rfl | assumption)) (@pss_cons _ _ _ _ _ (@ps_for _ _ _ _ _ _ _ _ PassesOwn.never rfl (@pi_range2 _ _ _ _ _ _ _ (by rfl) B.range (@pa_cons _ _ _ _ _ (@pe_int _ _ _ _) (@pa_cons _ _ _ _ _ (@pe_op _ _ _ _ _ _ _ _ op_add (@pe_min2 _ _ _ _ _ _ rfl B.min (@pa_cons _ _ _ _ _ (pv 0) (@pa_cons _ _ _ _ _ (pv 1) (@pa_nil _) (by rfl)) (by rfl)) (by rfl) (by rfl) (by rfl)) (@pe_int _ _ _ _)) (@pa_nil _) (by rfl)) (by rfl)) (by rfl) (by rfl)) (@pg_name _ _ (3) _ sc_kinds_below.nd rfl (Or.inl rfl) (by first | exact .inl rfl | exact .inr rfl | assumption)) (@pss_one _ _ _ (@ps_for _ _ _ _ _ _ _ _ PassesOwn.never rfl (@pi_list _ _ _ _ (@pe_cal _ _ _ _ _ _ _ _ _ _ c_kinds_below hr_kinds_below (@pa_cons _ _ _ _ _ (@pe_op _ _ _ _ _ _ _ _ op_sub (pv 0) (pv 3)) (@pa_cons _ _ _ _ _ (pv 3) (@pa_nil _) (by rfl)) (by rfl)) (by rfl) (by decide) (by rfl) (by rfl))) (@pg_name _ _ (4) _ sc_kinds_below.nd rfl (Or.inl rfl) (by first | exact .inl rfl | exact .inr rfl | assumption)) (@pss_one _ _ _ (@ps_expr _ _ _ _ (@pe_append _ _ _ _ _ _ _ (pv 2) (@pa_cons _ _ _ _ _ (@pe_op _ _ _ _ _ _ _ _ op_cat (@pe_lst _ _ _ _ (@pa_cons _ _ _ _ _ (pv 3) (@pa_nil _) (by rfl))) (pv 4)) (@pa_nil _) (by rfl)) (by rfl) (by rfl) (by rfl) (by rfl) (by rfl)) (by rfl))) (by intro _; rfl))) (by intro _; rfl)) (@pss_one _ _ _ (@ps_ret _ _ _ _ (pv 2))))), ?_⟩
    refine ⟨_, rfl, rfl, _, rfl, ?_⟩
    by_cases n0 : n = 0
    · subst n0
      refine ite2 (fun _ => ?_) (fun h => absurd (decide_eq_true rfl) h)
      refine ⟨Nat.zero_le _, fun e he => ⟨(show 1 ≤ sizeLine by decide), fun l hl => ?_⟩⟩
      obtain ⟨a1, a2, a3, a4⟩ := one_row he hl
      rw [kinds_zero] at q
      exact q l [e] _ a1 a2 upd_same a3 (fun b hb => by rw [List.mem_singleton.mp hb]; exact he) (by simp) a4
    refine ite2 (fun h => ?_) (fun _ => ?_)
    · have h := V.int.inj (of_decide_eq_true h)
      omega
    rw [kindsF_succ d n m n0] at q
    refine ⟨Nat.zero_le _, fun L hL => ?_⟩
    have s1 : Same H (upd H L (.lst [])) := Same.upd_new hL
    have h1L : (upd H L (.lst [])) L = some (.lst (([] : List Addr).map V.ref)) := upd_same
    generalize (upd H L (.lst [])) = H1 at s1 h1L ⊢
    have emin : (if (m : Int) < (n : Int) then (m : Int) else (n : Int)) + 1 = ((min n m : Nat) : Int) + 1 := by
      split <;> omega
    refine ⟨_, rfl, _, rfl, _, _, rfl, _, _, rfl, rfl, ?_⟩
    have many := kinds_many (d + 1) (by omega) n (by omega) m (by omega)
    rw [kindsF_succ d n m n0] at many
    refine ⟨1, ((min n m : Nat) : Int) + 1, congrArg (fun z => [V.int 1, V.int z]) emin, ⟨by decide, by decide, by omega, by omega⟩, ?_⟩
    have en : (((min n m : Nat) : Int) + 1 - 1).toNat = min n m := by omega
    rw [en]
    refine for_range (lo := 1) (n := min n m) (fun i σ H2 => ∃ (as : List Addr) (v3 v4 : Option V), σ = [some (.int (n : Int)), some (.int (m : Int)), some (.ref L), v3, v4] ∧ H2 L = some (.lst (as.map V.ref)) ∧ RowsH H2 as (kindsT d n i) ∧ Same H H2 ∧ (∀ b ∈ as, H b = none) ∧ as.Nodup ∧ L ∉ as)
      ⟨[], none, none, rfl, h1L, ⟨rfl, fun j b r h => by cases h⟩, s1, (fun b hb => by cases hb), List.nodup_nil, (fun z => by cases z)⟩ ?_ ?_
    · rintro i σ H2 hi ⟨as, v3, v4, rfl, h2L, rows, s2, fa, nda, nla⟩
      have e1 : (n : Int) - (1 + (i : Int)) = ((n - (i + 1) : Nat) : Int) := by omega
      have e2 : (1 : Int) + (i : Int) = ((i + 1 : Nat) : Int) := by omega
      refine ⟨_, rfl, _, rfl, _, _, rfl, rfl, _, rfl, ?_⟩
      refine ⟨n - (i + 1), i + 1, (show [V.int _, V.int _] = _ by rw [e1, e2]), by omega, by omega, by omega, fun l bs H3 hl s3 h3l rows3 fb ndb nlb => ?_⟩
      have h3L := s3 _ _ h2L
      have nLl : L ≠ l := ne_of_none h2L hl
      have rlen := rows3.1
      have tl := kindsT_le d n (show i + 1 ≤ min n m by omega)
      rw [kindsT_succ, List.length_append, List.length_map] at tl
      refine ⟨l, rfl, ⟨_, SqL.of h3l⟩, for_list (K := K) (a := l) (xs := bs.map V.ref) (fun j σ H4 => ∃ (cs : List Addr) (v4 : Option V), σ = [some (.int (n : Int)), some (.int (m : Int)), some (.ref L), some (.int (1 + (i : Int))), v4] ∧ H4 L = some (.lst (cs.map V.ref)) ∧ RowsH H4 cs (kindsT d n i ++ ((kindsF d (n - (i + 1)) (i + 1)).take j).map fun r => ((i : Int) + 1) :: r) ∧ Same H H4 ∧ KeepBut L H3 H4 ∧ (∀ b ∈ cs, H b = none) ∧ cs.Nodup ∧ L ∉ cs)
        ⟨as, v4, rfl, h3L, by rw [List.take_zero, List.map_nil, List.append_nil]; exact rows_keep rows fun b _ o e => s3 b o e, s2.trans s3, KeepBut.refl L H3, fa, nda, nla⟩ (fun j σ H4 _ ⟨_, _, _, _, _, _, k, _⟩ => SqL.of (k l _ h3l nLl.symm)) ?_ ?_⟩
      · rintro j x σ H4 hj ⟨cs, v4, rfl, h4L, rows4, s4, k4, fc, ndc, nlc⟩
        rw [List.getElem?_map] at hj
        cases hB : bs[j]? with
        | none => rw [hB] at hj; cases hj
        | some b =>
        rw [hB] at hj
        cases hj
        have hjl : j < (kindsF d (n - (i + 1)) (i + 1)).length := by rw [← rlen]; exact (List.getElem?_eq_some_iff.mp hB).1
        obtain ⟨r, hr'⟩ : ∃ r, (kindsF d (n - (i + 1)) (i + 1))[j]? = some r := ⟨_, List.getElem?_eq_getElem hjl⟩
        have h3b := rows3.2 j b r hB hr'
        have rl := kinds_row d _ _ r (List.mem_of_getElem? hr')
        have nbL : b ≠ L := fun z => by have := fb b (List.mem_of_getElem? hB); rw [z, h2L] at this; cases this
        have h4b := k4 b _ h3b nbL
        have clen := rows4.1
        rw [List.length_append, List.length_map, List.length_take] at clen
        refine ⟨_, rfl, .inl ⟨rfl, _, SqL.of h4L⟩, _, rfl, (show 1 ≤ sizeLine by decide), fun e he => ?_⟩
        have nLe : L ≠ e := ne_of_none h4L he
        have nbe : b ≠ e := ne_of_none h4b he
        have h5b : (upd H4 e (.lst [V.int (1 + (i : Int))])) b = some (.lst (r.map V.int)) := by rw [upd_ne nbe]; exact h4b
        have h5L : (upd H4 e (.lst [V.int (1 + (i : Int))])) L = some (.lst (cs.map V.ref)) := by rw [upd_ne nLe]; exact h4L
        have h5e : (upd H4 e (.lst [V.int (1 + (i : Int))])) e = some (.lst [V.int (1 + (i : Int))]) := upd_same
        have s5 : Same H4 (upd H4 e (.lst [V.int (1 + (i : Int))])) := Same.upd_new he
        generalize (upd H4 e (.lst [V.int (1 + (i : Int))])) = H5 at h5b h5L h5e s5 ⊢
        refine ⟨_, rfl, e, b, _, _, rfl, rfl, h5e, h5b, Nat.le_of_lt (small1000 (by simp only [List.length_cons, List.length_nil, List.length_map]; omega)), fun p hp => ?_⟩
        have er : [V.int (1 + (i : Int))] ++ r.map V.int = (((i : Int) + 1) :: r).map V.int := by rw [Int.add_comm 1 (i : Int)]; rfl
        rw [er]
        have nLp : L ≠ p := ne_of_none h5L hp
        have h6L : (upd H5 p (.lst ((((i : Int) + 1) :: r).map V.int))) L = some (.lst (cs.map V.ref)) := by rw [upd_ne nLp]; exact h5L
        refine ⟨L, _, _, rfl, rfl, h6L, small1000 (by rw [List.length_map]; omega), ?_⟩
        have es : cs.map V.ref ++ [V.ref p] = (cs ++ [p]).map V.ref := by rw [List.map_append]; rfl
        rw [es]
        have hp4 : H4 p = none := s5.free hp
        have h7L : (upd (upd H5 p (.lst ((((i : Int) + 1) :: r).map V.int))) L (.lst ((cs ++ [p]).map V.ref))) L = some (.lst ((cs ++ [p]).map V.ref)) := upd_same
        have h7p : (upd (upd H5 p (.lst ((((i : Int) + 1) :: r).map V.int))) L (.lst ((cs ++ [p]).map V.ref))) p = some (.lst ((((i : Int) + 1) :: r).map V.int)) := by rw [upd_ne nLp.symm, upd_same]
        have k7 : KeepBut L H4 (upd (upd H5 p (.lst ((((i : Int) + 1) :: r).map V.int))) L (.lst ((cs ++ [p]).map V.ref))) := fun c o hc hn => by rw [upd_ne hn, upd_ne (ne_of_none (s5 c o hc) hp)]; exact s5 c o hc
        generalize (upd (upd H5 p (.lst ((((i : Int) + 1) :: r).map V.int))) L (.lst ((cs ++ [p]).map V.ref))) = H7 at h7L h7p k7 ⊢
        refine ⟨cs ++ [p], _, rfl, h7L, ?_, s4.kb k7 hL, k4.trans k7, fun c hc => ?_, ?_, ?_⟩
        · rw [take_succ_of hr', List.map_append, ← List.append_assoc]
          exact rows_snoc (rows_keep rows4 fun c hc o e => k7 c o e fun z => nlc (z ▸ hc)) h7p
        · rcases List.mem_append.mp hc with z | z
          · exact fc c z
          · rw [List.mem_singleton.mp z]; exact s4.free hp4
        · refine nd_snoc ndc fun z => ?_
          obtain ⟨q', hq'⟩ := rows_mem rows4 z
          rw [hp4] at hq'; cases hq'
        · intro z
          rcases List.mem_append.mp z with z | z
          · exact nlc z
          · exact nLp (List.mem_singleton.mp z)
      · rintro σ H4 ⟨cs, v4, rfl, h4L, rows4, s4, k4, fc, ndc, nlc⟩
        rw [List.length_map, rlen, List.take_length, ← kindsT_succ] at rows4
        exact ⟨cs, _, _, rfl, h4L, rows4, s4, fc, ndc, nlc⟩
    · rintro σ H2 ⟨as, v3, v4, rfl, h2L, rows, s2, fa, nda, nla⟩
      exact ⟨_, rfl, q L as H2 hL s2 h2L rows fa nda nla⟩
theorem sc_law_kinds : FnScope ["many", "most", "found", "first", "more"] ["many", "most"] (defScope s_law_kinds) := ⟨rfl, rfl, rfl, by decide +kernel, rfl, by decide +kernel, by decide +kernel⟩
theorem ok_law_kinds {f : Addr} {fd : FuncData} (F : Fun K "_law_kinds" "_law_kinds" s_law_kinds f fd) (B : Bl mg) : FnOk P w K mg base CX0 1 f fd ["many", "most"] (spKinds 0) := by
  refine F.ok sc_law_kinds (fun vs H Q E h => ?_) (fun cdv A outer s H vs Q E hr h => ?_)
  · obtain ⟨n, m, rfl, hn, hm, hd, q⟩ := h
    rfl
  · obtain ⟨n, m, rfl, hn, hm, hd, q⟩ := h
    refine ⟨_, @pss_cons _ _ _ _ _ (@ps_if _ _ _ _ _ _ _ _ (@pt_cmpR _ _ _ _ _ _ _ _ op_eq (pv 0) (@pe_int _ _ _ _) (nomark _)) (@pss_one _ _ _ (@ps_ret _ _ _ _ (@pe_lst _ _ _ _ (@pa_cons _ _ _ _ _ (@pe_lst _ _ _ _ (@pa_nil _)) (@pa_nil _) (by rfl))))) (@pss_nil _)) (@pss_cons _ _ _ _ _ (@ps_set _ _ (2) _ _ _ _ sc_law_kinds.nd rfl (Or.inl rfl) (@pe_lst _ _ _ _ (@pa_nil _)) (by rfl) (by first | exact .inl rfl | exact .inr rfl | assumption)) (@pss_cons _ _ _ _ _ (@ps_for _ _ _ _ _ _ _ _ PassesOwn.never rfl (@pi_range2 _ _ _ _ _ _ _ (by rfl) B.range (@pa_cons _ _ _ _ _ (@pe_int _ _ _ _) (@pa_cons _ _ _ _ _ (@pe_op _ _ _ _ _ _ _ _ op_add (@pe_min2 _ _ _ _ _ _ rfl B.min (@pa_cons _ _ _ _ _ (pv 0) (@pa_cons _ _ _ _ _ (pv 1) (@pa_nil _) (by rfl)) (by rfl)) (by rfl) (by rfl) (by rfl)) (@pe_int _ _ _ _)) (@pa_nil _) (by rfl)) (by rfl)) (by rfl) (by rfl)) (@pg_name _ _ (3) _ sc_law_kinds.nd rfl (Or.inl rfl) (by first | exact .inl rfl | exact .inr rfl | assumption)) (@pss_one _ _ _ (@ps_for _ _ _ _ _ _ _ _ PassesOwn.never rfl (@pi_list _ _ _ _ (@pe_never _ _)) (@pg_name _ _ (4) _ sc_law_kinds.nd rfl (Or.inl rfl) (by first | exact .inl rfl | exact .inr rfl | assumption)) (@pss_one _ _ _ (@ps_expr _ _ _ _ (@pe_append _ _ _ _ _ _ _ (pv 2) (@pa_cons _ _ _ _ _ (@pe_op _ _ _ _ _ _ _ _ op_cat (@pe_lst _ _ _ _ (@pa_cons _ _ _ _ _ (pv 3) (@pa_nil _) (by rfl))) (pv 4)) (@pa_nil _) (by rfl)) (by rfl) (by rfl) (by rfl) (by rfl) (by rfl)) (by rfl))) (by intro _; rfl))) (by intro _; rfl)) (@pss_one _ _ _ (@ps_ret _ _ _ _ (pv 2))))), ?_⟩
    obtain rfl : n = 0 := by omega
    refine ⟨_, rfl, rfl, _, rfl, ?_⟩
    refine ite2 (fun _ => ?_) (fun h => absurd (decide_eq_true rfl) h)
    refine ⟨Nat.zero_le _, fun e he => ⟨(show 1 ≤ sizeLine by decide), fun l hl => ?_⟩⟩
    obtain ⟨a1, a2, a3, a4⟩ := one_row he hl
    exact q l [e] _ a1 a2 upd_same a3 (fun b hb => by rw [List.mem_singleton.mp hb]; exact he) (by simp) a4
theorem okr_law_kinds {d k : Nat} {f : Addr} {fd : FuncData} (F : Fun K "_law_kinds" "_law_kinds" s_law_kinds f fd) (B : Bl mg) (c_law_kinds : Cal P w K mg base "_law_kinds" k ["many", "most"] (spKinds d)) : FnOk P w K mg base CX0 (k + 1) f fd ["many", "most"] (spKinds (d + 1)) := by
  refine F.ok sc_law_kinds (fun vs H Q E h => ?_) (fun cdv A outer s H vs Q E hr h => ?_)
  · obtain ⟨n, m, rfl, hn, hm, hd, q⟩ := h
    rfl
  · obtain ⟨n, m, rfl, hn, hm, hd, q⟩ := h
    have hr_law_kinds : Room k _ := hr.mono (by omega)
    refine ⟨_, @pss_cons _ _ _ _ _ (@ps_if _ _ _ _ _ _ _ _ (@pt_cmpR _ _ _ _ _ _ _ _ op_eq (pv 0) (@pe_int _ _ _ _) (nomark _)) (@pss_one _ _ _ (@ps_ret _ _ _ _ (@pe_lst _ _ _ _ (@pa_cons _ _ _ _ _ (@pe_lst _ _ _ _ (@pa_nil _)) (@pa_nil _) (by rfl))))) (@pss_nil _)) (@pss_cons _ _ _ _ _ (@ps_set _ _ (2) _ _ _ _ sc_law_kinds.nd rfl (Or.inl rfl) (@pe_lst _ _ _ _ (@pa_nil _)) (by rfl) (by first | exact .inl rfl | exact .inr rfl | assumption)) (@pss_cons _ _ _ _ _ (@ps_for _ _ _ _ _ _ _ _ PassesOwn.never rfl (@pi_range2 _ _ _ _ _ _ _ (by rfl) B.range (@pa_cons _ _ _ _ _ (@pe_int _ _ _ _) (@pa_cons _ _ _ _ _ (@pe_op _ _ _ _ _ _ _ _ op_add (@pe_min2 _ _ _ _ _ _ rfl B.min (@pa_cons _ _ _ _ _ (pv 0) (@pa_cons _ _ _ _ _ (pv 1) (@pa_nil _) (by rfl)) (by rfl)) (by rfl) (by rfl) (by rfl)) (@pe_int _ _ _ _)) (@pa_nil _) (by rfl)) (by rfl)) (by rfl) (by rfl)) (@pg_name _ _ (3) _ sc_law_kinds.nd rfl (Or.inl rfl) (by first | exact .inl rfl | exact .inr rfl | assumption)) (@pss_one _ _ _ (@ps_for _ _ _ _ _ _ _ _ PassesOwn.never rfl (@pi_list _ _ _ _ (@pe_cal _ _ _ _ _ _ _ _ _ _ c_law_kinds hr_law_kinds (@pa_cons _ _ _ _ _ (@pe_op _ _ _ _ _ _ _ _ op_sub (pv 0) (pv 3)) (@pa_cons _ _ _ _ _ (pv 3) (@pa_nil _) (by rfl)) (by rfl)) (by rfl) (by decide) (by rfl) (by rfl))) (@pg_name _ _ (4) _ sc_law_kinds.nd rfl (Or.inl rfl) (by first | exact .inl rfl | exact .inr rfl | assumption)) (@pss_one _ _ _ (@ps_expr _ _ _ _ (@pe_append _ _ _ _ _ _ _ (pv 2) (@pa_cons _ _ _ _ _ (@pe_op _ _ _ _ _ _ _ _ op_cat (@pe_lst _ _ _ _ (@pa_cons _ _ _ _ _ (pv 3) (@pa_nil _) (by rfl))) (pv 4)) (@pa_nil _) (by rfl)) (by rfl) (by rfl) (by rfl) (by rfl) (by rfl)) (by rfl))) (by intro _; rfl))) (by intro _; rfl)) (@pss_one _ _ _ (@ps_ret _ _ _ _ (pv 2))))), ?_⟩
    refine ⟨_, rfl, rfl, _, rfl, ?_⟩
    by_cases n0 : n = 0
    · subst n0
      refine ite2 (fun _ => ?_) (fun h => absurd (decide_eq_true rfl) h)
      refine ⟨Nat.zero_le _, fun e he => ⟨(show 1 ≤ sizeLine by decide), fun l hl => ?_⟩⟩
      obtain ⟨a1, a2, a3, a4⟩ := one_row he hl
      rw [kinds_zero] at q
      exact q l [e] _ a1 a2 upd_same a3 (fun b hb => by rw [List.mem_singleton.mp hb]; exact he) (by simp) a4
    refine ite2 (fun h => ?_) (fun _ => ?_)
    · have h := V.int.inj (of_decide_eq_true h)
      omega
    rw [kindsF_succ d n m n0] at q
    refine ⟨Nat.zero_le _, fun L hL => ?_⟩
    have s1 : Same H (upd H L (.lst [])) := Same.upd_new hL
    have h1L : (upd H L (.lst [])) L = some (.lst (([] : List Addr).map V.ref)) := upd_same
    generalize (upd H L (.lst [])) = H1 at s1 h1L ⊢
    have emin : (if (m : Int) < (n : Int) then (m : Int) else (n : Int)) + 1 = ((min n m : Nat) : Int) + 1 := by
      split <;> omega
    refine ⟨_, rfl, _, rfl, _, _, rfl, _, _, rfl, rfl, ?_⟩
    have many := kinds_many (d + 1) (by omega) n (by omega) m (by omega)
    rw [kindsF_succ d n m n0] at many
    refine ⟨1, ((min n m : Nat) : Int) + 1, congrArg (fun z => [V.int 1, V.int z]) emin, ⟨by decide, by decide, by omega, by omega⟩, ?_⟩
    have en : (((min n m : Nat) : Int) + 1 - 1).toNat = min n m := by omega
    rw [en]
    refine for_range (lo := 1) (n := min n m) (fun i σ H2 => ∃ (as : List Addr) (v3 v4 : Option V), σ = [some (.int (n : Int)), some (.int (m : Int)), some (.ref L), v3, v4] ∧ H2 L = some (.lst (as.map V.ref)) ∧ RowsH H2 as (kindsT d n i) ∧ Same H H2 ∧ (∀ b ∈ as, H b = none) ∧ as.Nodup ∧ L ∉ as)
      ⟨[], none, none, rfl, h1L, ⟨rfl, fun j b r h => by cases h⟩, s1, (fun b hb => by cases hb), List.nodup_nil, (fun z => by cases z)⟩ ?_ ?_
    · rintro i σ H2 hi ⟨as, v3, v4, rfl, h2L, rows, s2, fa, nda, nla⟩
      have e1 : (n : Int) - (1 + (i : Int)) = ((n - (i + 1) : Nat) : Int) := by omega
      have e2 : (1 : Int) + (i : Int) = ((i + 1 : Nat) : Int) := by omega
      refine ⟨_, rfl, _, rfl, _, _, rfl, rfl, _, rfl, ?_⟩
      refine ⟨n - (i + 1), i + 1, (show [V.int _, V.int _] = _ by rw [e1, e2]), by omega, by omega, by omega, fun l bs H3 hl s3 h3l rows3 fb ndb nlb => ?_⟩
      have h3L := s3 _ _ h2L
      have nLl : L ≠ l := ne_of_none h2L hl
      have rlen := rows3.1
      have tl := kindsT_le d n (show i + 1 ≤ min n m by omega)
      rw [kindsT_succ, List.length_append, List.length_map] at tl
      refine ⟨l, rfl, ⟨_, SqL.of h3l⟩, for_list (K := K) (a := l) (xs := bs.map V.ref) (fun j σ H4 => ∃ (cs : List Addr) (v4 : Option V), σ = [some (.int (n : Int)), some (.int (m : Int)), some (.ref L), some (.int (1 + (i : Int))), v4] ∧ H4 L = some (.lst (cs.map V.ref)) ∧ RowsH H4 cs (kindsT d n i ++ ((kindsF d (n - (i + 1)) (i + 1)).take j).map fun r => ((i : Int) + 1) :: r) ∧ Same H H4 ∧ KeepBut L H3 H4 ∧ (∀ b ∈ cs, H b = none) ∧ cs.Nodup ∧ L ∉ cs)
        ⟨as, v4, rfl, h3L, by rw [List.take_zero, List.map_nil, List.append_nil]; exact rows_keep rows fun b _ o e => s3 b o e, s2.trans s3, KeepBut.refl L H3, fa, nda, nla⟩ (fun j σ H4 _ ⟨_, _, _, _, _, _, k, _⟩ => SqL.of (k l _ h3l nLl.symm)) ?_ ?_⟩
      · rintro j x σ H4 hj ⟨cs, v4, rfl, h4L, rows4, s4, k4, fc, ndc, nlc⟩
        rw [List.getElem?_map] at hj
        cases hB : bs[j]? with
        | none => rw [hB] at hj; cases hj
        | some b =>
        rw [hB] at hj
        cases hj
        have hjl : j < (kindsF d (n - (i + 1)) (i + 1)).length := by rw [← rlen]; exact (List.getElem?_eq_some_iff.mp hB).1
        obtain ⟨r, hr'⟩ : ∃ r, (kindsF d (n - (i + 1)) (i + 1))[j]? = some r := ⟨_, List.getElem?_eq_getElem hjl⟩
        have h3b := rows3.2 j b r hB hr'
        have rl := kinds_row d _ _ r (List.mem_of_getElem? hr')
        have nbL : b ≠ L := fun z => by have := fb b (List.mem_of_getElem? hB); rw [z, h2L] at this; cases this
        have h4b := k4 b _ h3b nbL
        have clen := rows4.1
        rw [List.length_append, List.length_map, List.length_take] at clen
        refine ⟨_, rfl, .inl ⟨rfl, _, SqL.of h4L⟩, _, rfl, (show 1 ≤ sizeLine by decide), fun e he => ?_⟩
        have nLe : L ≠ e := ne_of_none h4L he
        have nbe : b ≠ e := ne_of_none h4b he
        have h5b : (upd H4 e (.lst [V.int (1 + (i : Int))])) b = some (.lst (r.map V.int)) := by rw [upd_ne nbe]; exact h4b
        have h5L : (upd H4 e (.lst [V.int (1 + (i : Int))])) L = some (.lst (cs.map V.ref)) := by rw [upd_ne nLe]; exact h4L
        have h5e : (upd H4 e (.lst [V.int (1 + (i : Int))])) e = some (.lst [V.int (1 + (i : Int))]) := upd_same
        have s5 : Same H4 (upd H4 e (.lst [V.int (1 + (i : Int))])) := Same.upd_new he
        generalize (upd H4 e (.lst [V.int (1 + (i : Int))])) = H5 at h5b h5L h5e s5 ⊢
        refine ⟨_, rfl, e, b, _, _, rfl, rfl, h5e, h5b, Nat.le_of_lt (small1000 (by simp only [List.length_cons, List.length_nil, List.length_map]; omega)), fun p hp => ?_⟩
        have er : [V.int (1 + (i : Int))] ++ r.map V.int = (((i : Int) + 1) :: r).map V.int := by rw [Int.add_comm 1 (i : Int)]; rfl
        rw [er]
        have nLp : L ≠ p := ne_of_none h5L hp
        have h6L : (upd H5 p (.lst ((((i : Int) + 1) :: r).map V.int))) L = some (.lst (cs.map V.ref)) := by rw [upd_ne nLp]; exact h5L
        refine ⟨L, _, _, rfl, rfl, h6L, small1000 (by rw [List.length_map]; omega), ?_⟩
        have es : cs.map V.ref ++ [V.ref p] = (cs ++ [p]).map V.ref := by rw [List.map_append]; rfl
        rw [es]
        have hp4 : H4 p = none := s5.free hp
        have h7L : (upd (upd H5 p (.lst ((((i : Int) + 1) :: r).map V.int))) L (.lst ((cs ++ [p]).map V.ref))) L = some (.lst ((cs ++ [p]).map V.ref)) := upd_same
        have h7p : (upd (upd H5 p (.lst ((((i : Int) + 1) :: r).map V.int))) L (.lst ((cs ++ [p]).map V.ref))) p = some (.lst ((((i : Int) + 1) :: r).map V.int)) := by rw [upd_ne nLp.symm, upd_same]
        have k7 : KeepBut L H4 (upd (upd H5 p (.lst ((((i : Int) + 1) :: r).map V.int))) L (.lst ((cs ++ [p]).map V.ref))) := fun c o hc hn => by rw [upd_ne hn, upd_ne (ne_of_none (s5 c o hc) hp)]; exact s5 c o hc
        generalize (upd (upd H5 p (.lst ((((i : Int) + 1) :: r).map V.int))) L (.lst ((cs ++ [p]).map V.ref))) = H7 at h7L h7p k7 ⊢
        refine ⟨cs ++ [p], _, rfl, h7L, ?_, s4.kb k7 hL, k4.trans k7, fun c hc => ?_, ?_, ?_⟩
        · rw [take_succ_of hr', List.map_append, ← List.append_assoc]
          exact rows_snoc (rows_keep rows4 fun c hc o e => k7 c o e fun z => nlc (z ▸ hc)) h7p
        · rcases List.mem_append.mp hc with z | z
          · exact fc c z
          · rw [List.mem_singleton.mp z]; exact s4.free hp4
        · refine nd_snoc ndc fun z => ?_
          obtain ⟨q', hq'⟩ := rows_mem rows4 z
          rw [hp4] at hq'; cases hq'
        · intro z
          rcases List.mem_append.mp z with z | z
          · exact nlc z
          · exact nLp (List.mem_singleton.mp z)
      · rintro σ H4 ⟨cs, v4, rfl, h4L, rows4, s4, k4, fc, ndc, nlc⟩
        rw [List.length_map, rlen, List.take_length, ← kindsT_succ] at rows4
        exact ⟨cs, _, _, rfl, h4L, rows4, s4, fc, ndc, nlc⟩
    · rintro σ H2 ⟨as, v3, v4, rfl, h2L, rows, s2, fa, nda, nla⟩
      exact ⟨_, rfl, q L as H2 hL s2 h2L rows fa nda nla⟩
end
end My
namespace My
open PySem L2 Mth
section
variable {P : Program} {w : World} {K : PySem.W.Frag} {mg : Str → Option Value} {base : Heap}
def spLaw (K : PySem.W.Frag) : Sp := fun vs H Q _ => ∃ (a : Addr) (ns : List Int), vs = [.ref a] ∧ SqL K H a (ns.map V.int) ∧ ns.length ≤ 63 ∧ ∀ H', Q (.bl true) H'
def spCounted : Sp := fun vs H Q _ => ∃ n : Nat, vs = [.int (n : Int)] ∧ n ≤ 12 ∧ Q .non H
theorem sc_must_be_counted : FnScope ["n"] ["n"] (defScope s_must_be_counted) := ⟨rfl, rfl, rfl, by decide +kernel, rfl, by decide +kernel, by decide +kernel⟩
theorem ok_must_be_counted {f : Addr} {fd : FuncData} (F : Fun K "must_be_counted" "must_be_counted" s_must_be_counted f fd) (g_MOST_COUNTED : ∃ t, mg "MOST_COUNTED" = some (.int 12 t)) (c_is_whole : Cal P w K mg base "is_whole" 1 ["thing"] (spWhole K)) : FnOk P w K mg base CX0 2 f fd ["n"] spCounted := by
  refine F.ok sc_must_be_counted (fun vs H Q E h => ?_) (fun cdv A outer s H vs Q E hr h => ?_)
  · obtain ⟨n, rfl, hn, q⟩ := h
    rfl
  · obtain ⟨n, rfl, hn, q⟩ := h
    obtain ⟨_, m_MOST_COUNTED⟩ := g_MOST_COUNTED
    have hr_is_whole : Room 1 _ := hr.mono (by decide)
    refine ⟨_, @pss_cons _ _ _ _ _ (@ps_if _ _ _ _ _ _ _ _ (@pw_or _ _ _ _ _ _ _ (@pt_not _ _ _ _ (@pt_val _ _ _ (@pe_cal _ _ _ _ _ _ _ _ _ _ c_is_whole hr_is_whole (@pa_cons _ _ _ _ _ (pv 0) (@pa_nil _) (by rfl)) (by rfl) (by decide) (by rfl) (by rfl)) (by intro _; rfl))) (@pw_or1 _ _ _ _ (@pt_cmpR _ _ _ _ _ _ _ _ op_lt (pv 0) (@pe_int _ _ _ _) (nomark _)))).pt (@pss_one _ _ _ (@ps_never _ _)) (@pss_nil _)) (@pss_one _ _ _ (@ps_if _ _ _ _ _ _ _ _ (@pt_cmpR _ _ _ _ _ _ _ _ op_gt (pv 0) (@pe_glob _ _ (.int 12) _ _ (by rfl) m_MOST_COUNTED ⟨_, rfl⟩ (by decide)) (nomark _)) (@pss_one _ _ _ (@ps_never _ _)) (@pss_nil _))), ?_⟩
    refine ⟨_, rfl, .int (n : Int), _, true, false, rfl, .int _, kit_same K "int", kit_int_bool K, _, rfl, ?_⟩
    refine iteF ⟨_, rfl, _, _, rfl, rfl, _, rfl, ?_⟩
    refine ite2 (fun h => absurd (of_decide_eq_true h) (by omega)) (fun _ => ?_)
    refine ⟨_, rfl, _, _, rfl, rfl, _, rfl, ?_⟩
    exact ite2 (fun h => absurd (of_decide_eq_true h) (by omega)) (fun _ => q)
def spKindsOf : Sp := fun vs H Q _ => ∃ n : Nat, vs = [.int (n : Int)] ∧ n ≤ 12 ∧ ∀ (l : Addr) (as : List Addr) (H' : Hp), H l = none → Same H H' → H' l = some (.lst (as.map V.ref)) → RowsH H' as (kindsF 12 n n) → (∀ b ∈ as, H b = none) → as.Nodup → l ∉ as → Q (.ref l) H'
theorem sc_kinds_of : FnScope ["n"] ["n"] (defScope s_kinds_of) := ⟨rfl, rfl, rfl, by decide +kernel, rfl, by decide +kernel, by decide +kernel⟩
theorem ok_kinds_of {f : Addr} {fd : FuncData} (F : Fun K "kinds_of" "kinds_of" s_kinds_of f fd) (c_must_be_counted : Cal P w K mg base "must_be_counted" 2 ["n"] spCounted) (c_kinds_below : Cal P w K mg base "kinds_below" 13 ["n", "most"] (spKinds 12)) : FnOk P w K mg base CX0 14 f fd ["n"] spKindsOf := by
  refine F.ok sc_kinds_of (fun vs H Q E h => ?_) (fun cdv A outer s H vs Q E hr h => ?_)
  · obtain ⟨n, rfl, hn, q⟩ := h
    rfl
  · obtain ⟨n, rfl, hn, q⟩ := h
    have hr_must_be_counted : Room 2 _ := hr.mono (by decide)
    have hr_kinds_below : Room 13 _ := hr.mono (by decide)
    refine ⟨_, @pss_cons _ _ _ _ _ (@ps_expr _ _ _ _ (@pe_cal _ _ _ _ _ _ _ _ _ _ c_must_be_counted hr_must_be_counted (@pa_cons _ _ _ _ _ (pv 0) (@pa_nil _) (by rfl)) (by rfl) (by decide) (by rfl) (by rfl)) (by rfl)) (@pss_one _ _ _ (@ps_ret _ _ _ _ (@pe_cal _ _ _ _ _ _ _ _ _ _ c_kinds_below hr_kinds_below (@pa_cons _ _ _ _ _ (pv 0) (@pa_cons _ _ _ _ _ (pv 0) (@pa_nil _) (by rfl)) (by rfl)) (by rfl) (by decide) (by rfl) (by rfl)))), ?_⟩
    refine ⟨_, rfl, n, rfl, hn, ?_⟩
    exact ⟨_, rfl, _, rfl, n, n, rfl, hn, hn, by decide, fun l as H' a1 a2 a3 a4 a5 a6 a7 => q l as H' a1 a2 a3 a4 a5 a6 a7⟩
def risingB : List (List Int) → Bool
  | r :: r' :: rs => !HT.lexLt r' r && risingB (r' :: rs)
  | _ => true
theorem rising_of : ∀ {rs : List (List Int)}, risingB rs = true → Rising rs
  | [], _, j, _, _, e, _ => by cases e
  | [_], _, 0, _, _, _, e => by cases e
  | [_], _, j + 1, _, _, e, _ => by cases e
  | r :: r' :: rs, h, 0, a, b, e, e' => by
    cases e; cases e'
    have := (Bool.and_eq_true _ _).mp h
    simpa using this.1
  | r :: r' :: rs, h, j + 1, a, b, e, e' => by
    have := (Bool.and_eq_true _ _).mp h
    exact rising_of this.2 j a b e e'
theorem kinds_riseB : ∀ n, n < 13 → risingB (kindsF 12 n n) = true := by decide +kernel
theorem kinds_rise {n : Nat} (h : n ≤ 12) : Rising (kindsF 12 n n) := rising_of (kinds_riseB n (by omega))
def spRight : Sp := fun vs H Q _ => ∃ n : Nat, vs = [.int (n : Int)] ∧ n ≤ 12 ∧ ∀ H' : Hp, Same H H' → Q (.bl true) H'
theorem sc_law_right : FnScope ["many", "due", "again", "found", "at", "one"] ["many"] (defScope s_law_right) := ⟨rfl, rfl, rfl, by decide +kernel, rfl, by decide +kernel, by decide +kernel⟩
theorem nd_one_other_law_right : (["one", "other"] : List Str).Nodup := by decide +kernel
theorem nd_at_one_law_right : (["at", "one"] : List Str).Nodup := by decide +kernel
theorem ok_law_right {f : Addr} {fd : FuncData} (F : Fun K "_law_right" "_law_right" s_law_right f fd) (B : Bl mg) (c_law_kinds : Cal P w K mg base "_law_kinds" 13 ["many", "most"] (spKinds 12)) (c_kinds_of : Cal P w K mg base "kinds_of" 14 ["n"] spKindsOf) (c_law_same : Cal P w K mg base "_law_same" 1 ["found", "due"] spSame) : FnOk P w K mg base CX0 15 f fd ["many"] spRight := by
  refine F.ok sc_law_right (fun vs H Q E h => ?_) (fun cdv A outer s H vs Q E hr h => ?_)
  · obtain ⟨n, rfl, hn, q⟩ := h
    rfl
  · obtain ⟨n, rfl, hn, q⟩ := h
    have hr_law_kinds : Room 13 _ := hr.mono (by decide)
    have hr_kinds_of : Room 14 _ := hr.mono (by decide)
    have hr_law_same : Room 1 _ := hr.mono (by decide)
    have hu := hu_of hr
    have hu2 : _ + 1 + 1 < cLine := Nat.lt_of_le_of_lt (Nat.add_le_add_left (by decide : 2 ≤ 64) _) hr.units
    refine ⟨_, @pss_cons _ _ _ _ _ (@ps_set _ _ (1) _ _ _ _ sc_law_right.nd rfl (Or.inl rfl) (@pe_sortedUp _ _ _ _ _ hu2 B.sorted (@pa_cons _ _ _ _ _ (@pe_cal _ _ _ _ _ _ _ _ _ _ c_law_kinds hr_law_kinds (@pa_cons _ _ _ _ _ (pv 0) (@pa_cons _ _ _ _ _ (pv 0) (@pa_nil _) (by rfl)) (by rfl)) (by rfl) (by decide) (by rfl) (by rfl)) (@pa_nil _) (by rfl)) (by rfl) (by rfl)) (by rfl) (by first | exact .inl rfl | exact .inr rfl | assumption)) (@pss_cons _ _ _ _ _ (@ps_for _ _ _ _ _ _ _ _ PassesOwn.never rfl (@pi_range1 _ _ _ _ _ _ (by rfl) B.range (@pa_cons _ _ _ _ _ (@pe_int _ _ _ _) (@pa_nil _) (by rfl)) (by rfl)) (@pg_name _ _ (2) _ sc_law_right.nd rfl (Or.inl rfl) (by first | exact .inl rfl | exact .inr rfl | assumption)) (@pss_cons _ _ _ _ _ (@ps_set _ _ (3) _ _ _ _ sc_law_right.nd rfl (Or.inl rfl) (@pe_cal _ _ _ _ _ _ _ _ _ _ c_kinds_of hr_kinds_of (@pa_cons _ _ _ _ _ (pv 0) (@pa_nil _) (by rfl)) (by rfl) (by decide) (by rfl) (by rfl)) (by rfl) (by first | exact .inl rfl | exact .inr rfl | assumption)) (@pss_cons _ _ _ _ _ (@ps_if _ _ _ _ _ _ _ _ (@pw_or _ _ _ _ _ _ _ (@pt_not _ _ _ _ (@pt_val _ _ _ (@pe_isi _ _ _ _ _ _ B.isi (@pa_cons _ _ _ _ _ (pv 3) (@pa_cons _ _ _ _ _ (@pe_tyList _ _ B.list (by rfl)) (@pa_nil _) (by rfl)) (by rfl)) (by rfl) (by rfl) (by rfl)) (by intro _; rfl))) (@pw_or1 _ _ _ _ (@pt_cmpR _ _ _ _ _ _ _ _ op_ne (@pe_lenL _ _ _ _ _ B.len (@pa_cons _ _ _ _ _ (pv 3) (@pa_nil _) (by rfl)) (by rfl) (by rfl)) (@pe_lenL _ _ _ _ _ B.len (@pa_cons _ _ _ _ _ (pv 1) (@pa_nil _) (by rfl)) (by rfl) (by rfl)) (nomark _)))).pt (@pss_one _ _ _ (@ps_ret _ _ _ _ (@pe_bl _ _ _ _))) (@pss_nil _)) (@pss_cons _ _ _ _ _ (@ps_if _ _ _ _ _ _ _ _ (@pt_cmpR _ _ _ _ _ _ _ _ (op_neL 0 hu) (@pe_comp _ _ _ _ _ _ _ _ _ _ _ (["one", "other"]) (2) ([]) rfl .of (@pi_zip _ _ _ _ _ _ _ _ _ B.zip (@pa_cons _ _ _ _ _ (pv 3) (@pa_cons _ _ _ _ _ (pv 1) (@pa_nil _) (by rfl)) (by rfl)) (by rfl) (by rfl) (by rfl)) (fun _ _ _ _ _ => @pg_tupK K _ _ _ _ (2) _ rfl (@pgs_cons _ _ _ _ _ (@pg_name _ _ (0) _ nd_one_other_law_right rfl (Or.inl rfl) (by first | exact .inl rfl | exact .inr rfl | assumption)) (@pgs_cons _ _ _ _ _ (@pg_name _ _ (1) _ nd_one_other_law_right rfl (Or.inl rfl) (by first | exact .inl rfl | exact .inr rfl | assumption)) (@pgs_nil _) (by rfl)) (by rfl)) (by rfl) (by rfl) (by rfl)) (fun _ _ _ _ _ => @pifs_one _ _ _ (@pt_not _ _ _ _ (@pt_val _ _ _ (@pe_cal _ _ _ _ _ _ _ _ _ _ c_law_same hr_law_same (@pa_cons _ _ _ _ _ (pv 0) (@pa_cons _ _ _ _ _ (pv 1) (@pa_nil _) (by rfl)) (by rfl)) (by rfl) (by decide) (by rfl) (by rfl)) (by intro _; rfl)))) (fun _ _ _ _ _ => (@pe_int _ _ _ _)) (by intro _; rfl)) (@pe_lst _ _ _ _ (@pa_nil _)) (nomark _)) (@pss_one _ _ _ (@ps_ret _ _ _ _ (@pe_bl _ _ _ _))) (@pss_nil _)) (@pss_cons _ _ _ _ _ (@ps_for _ _ _ _ _ _ _ _ PassesOwn.never rfl (@pi_enum _ _ _ _ _ _ _ _ B.enum (@pa_cons _ _ _ _ _ (pv 3) (@pa_nil _) (by rfl)) (by rfl) (by rfl)) (@pg_tup _ _ _ _ _ _ rfl (@pgs_cons _ _ _ _ _ (@pg_name _ _ (4) _ sc_law_right.nd rfl (Or.inl rfl) (by first | exact .inl rfl | exact .inr rfl | assumption)) (@pgs_cons _ _ _ _ _ (@pg_name _ _ (5) _ sc_law_right.nd rfl (Or.inl rfl) (by first | exact .inl rfl | exact .inr rfl | assumption)) (@pgs_nil _) (by rfl)) (by rfl)) (by rfl) (by rfl)) (@pss_one _ _ _ (@ps_expr _ _ _ _ (@pe_append _ _ _ _ _ _ _ (pv 5) (@pa_cons _ _ _ _ _ (pv 4) (@pa_nil _) (by rfl)) (by rfl) (by rfl) (by rfl) (by rfl) (by rfl)) (by rfl))) (by intro _; rfl)) (@pss_cons _ _ _ _ _ (@ps_if _ _ _ _ _ _ _ _ (@pt_cmpR _ _ _ _ _ _ _ _ (op_neL 1 hu2) (pv 3) (@pe_comp _ _ _ _ _ _ _ _ _ _ _ (["at", "one"]) (2) ([]) rfl .of (@pi_enum _ _ _ _ _ _ _ _ B.enum (@pa_cons _ _ _ _ _ (pv 1) (@pa_nil _) (by rfl)) (by rfl) (by rfl)) (fun _ _ _ _ _ => @pg_tupK K _ _ _ _ (2) _ rfl (@pgs_cons _ _ _ _ _ (@pg_name _ _ (0) _ nd_at_one_law_right rfl (Or.inl rfl) (by first | exact .inl rfl | exact .inr rfl | assumption)) (@pgs_cons _ _ _ _ _ (@pg_name _ _ (1) _ nd_at_one_law_right rfl (Or.inl rfl) (by first | exact .inl rfl | exact .inr rfl | assumption)) (@pgs_nil _) (by rfl)) (by rfl)) (by rfl) (by rfl) (by rfl)) (fun _ _ _ _ _ => (@pifs_nil _)) (fun _ _ _ _ _ => (@pe_op _ _ _ _ _ _ _ _ op_cat (pv 1) (@pe_lst _ _ _ _ (@pa_cons _ _ _ _ _ (pv 0) (@pa_nil _) (by rfl))))) (by intro _; rfl)) (nomark _)) (@pss_one _ _ _ (@ps_ret _ _ _ _ (@pe_bl _ _ _ _))) (@pss_nil _)) (@pss_one _ _ _ (@ps_expr _ _ _ _ (@pe_append _ _ _ _ _ _ _ (pv 3) (@pa_cons _ _ _ _ _ (@pe_lst _ _ _ _ (@pa_nil _)) (@pa_nil _) (by rfl)) (by rfl) (by rfl) (by rfl) (by rfl) (by rfl)) (by rfl)))))))) (by intro _; rfl)) (@pss_one _ _ _ (@ps_ret _ _ _ _ (@pe_bl _ _ _ _)))), ?_⟩
    refine ⟨_, rfl, _, rfl, n, n, rfl, hn, hn, by decide, fun l0 bs H1 hl0 s1 h1l rowsB fB ndB nB => ?_⟩
    refine ⟨l0, bs, kindsF 12 n n, rfl, SqL.of h1l, rowsB, kinds_rise hn, fun du hdu => ?_⟩
    have s06 : Same H (upd H1 du (.lst (bs.map V.ref))) := s1.trans (Same.upd_new hdu)
    have h6du : (upd H1 du (.lst (bs.map V.ref))) du = some (.lst (bs.map V.ref)) := upd_same
    have rows6 : RowsH (upd H1 du (.lst (bs.map V.ref))) bs (kindsF 12 n n) := rows_keep rowsB fun c _ o ho => Same.upd_new hdu c o ho
    generalize (upd H1 du (.lst (bs.map V.ref))) = H6 at s06 h6du rows6 ⊢
    have lrs := kinds_many 12 (by decide) n (by omega) n (by omega)
    refine ⟨2, rfl, by decide, by decide, for_range (lo := 0) (n := 2) (fun j σ H7 => ∃ (v2 v3 v8' v9' : Option V), σ = [some (.int (n : Int)), some (.ref du), v2, v3, v8', v9'] ∧ Same H6 H7)
      ⟨none, none, none, none, rfl, Same.refl H6⟩ ?_ ?_⟩
    · rintro j σ H7 hj ⟨v2, v3, v8', v9', rfl, s67⟩
      refine ⟨_, rfl, n, rfl, hn, fun fo as H8 hfo s78 h8fo rowsA fA ndA nA => ?_⟩
      obtain ⟨rs', ers⟩ : ∃ rs', rs' = kindsF 12 n n := ⟨_, rfl⟩
      rw [← ers] at rowsA rowsB rows6 lrs
      have s68 := s67.trans s78
      have h8du := s68 du _ h6du
      have rows8 : RowsH H8 bs rs' := rows_keep rows6 fun c _ o ho => s68 c o ho
      refine ⟨_, rfl, _, "list", _, true, rfl, .lst h8fo, kit_same K "list", true, rfl, ?_⟩
      refine iteF ⟨_, rfl, fo, _, rfl, .inl (SqL.of h8fo), _, rfl, du, _, rfl, .inl (SqL.of h8du), rfl, _, rfl, ?_⟩
      refine iteNS (by rw [List.length_map, List.length_map, rowsA.1, rowsB.1]) ?_
      refine ⟨_, rfl, _, rfl, fo, du, _, _, rfl, h8fo, h8du, comp_zip (a := fo) (b := du) (n := rs'.length) (fun j ys σ H9 => ∃ v0 v1, σ = [v0, v1] ∧ ys = [] ∧ Same H8 H9) ⟨none, none, rfl, rfl, Same.refl H8⟩
        (fun j ys σ H9 _ ⟨_, _, _, _, s⟩ => ⟨_, _, s fo _ h8fo, s du _ h8du, by rw [List.length_map, rowsA.1], by rw [List.length_map, rowsB.1]⟩) ?_ ?_⟩
      · rintro j x y ys σ H9 t xs zs hj hxs hzs hx hy ⟨v0, v1, rfl, rfl, s89⟩ ht
        rw [s89 fo _ h8fo] at hxs; cases hxs
        rw [s89 du _ h8du] at hzs; cases hzs
        rw [List.getElem?_map] at hx hy
        cases hA : as[j]? with
        | none => rw [hA] at hx; cases hx
        | some fa =>
          cases hB : bs[j]? with
          | none => rw [hB] at hy; cases hy
          | some fb =>
            rw [hA] at hx; rw [hB] at hy
            cases hx; cases hy
            have hrj : rs'[j]? = some rs'[j] := List.getElem?_eq_getElem hj
            have hfa := s89 fa _ (rowsA.2 j fa _ hA hrj)
            have hfb := s89 fb _ (rows8.2 j fb _ hB hrj)
            have s910 : Same H9 (upd H9 t (.tup [.ref fa, .ref fb])) := Same.upd_new ht
            refine ⟨t, _, rfl, SqT.of upd_same, rfl, _, _, rfl, _, _, rfl, rfl, ?_⟩
            refine ⟨_, rfl, _, rfl, fa, fb, _, _, rfl, s910 fa _ hfa, s910 fb _ hfb, fun r H11 s1011 hr' => ⟨r, rfl, ?_⟩⟩
            have : r = true := hr'.mpr rfl
            subst this
            exact iteF ⟨_, _, rfl, rfl, (s89.trans s910).trans s1011⟩
      rintro ys σ H9 ⟨v0, v1, rfl, rfl, s89⟩ D hD
      refine ⟨Nat.zero_le _, fun e he => ?_⟩
      have hde : D ≠ e := fun z => by rw [← z, upd_same] at he; cases he
      have he0 : H9 e = none := by rw [upd_ne hde.symm] at he; exact he
      have s911 : Same H9 (upd (upd H9 D (.lst [])) e (.lst [])) := (Same.upd_new hD).upd_r he0
      refine ⟨D, e, [], [], true, rfl, rfl, SqL.of (by rw [upd_ne hde, upd_same]), SqL.of upd_same, leq_nil _ _ _ _, _, rfl, ?_⟩
      refine iteF ?_
      have s811 := s89.trans s911
      generalize (upd (upd H9 D (.lst [])) e (.lst [])) = H11 at s811 ⊢
      have h11fo := s811 fo _ h8fo
      have h11du := s811 du _ h8du
      have rowsA11 : RowsH H11 as rs' := rows_keep rowsA fun c _ o ho => s811 c o ho
      have rowsB11 : RowsH H11 bs rs' := rows_keep rows8 fun c _ o ho => s811 c o ho
      have foA : fo ∉ as := nA
      refine ⟨_, rfl, fo, rfl, ⟨_, SqL.of h11fo⟩, for_enum (K := K) (a := fo) (xs := as.map V.ref) (fun j σ H12 => ∃ v8 v9 : Option V, σ = [some (.int (n : Int)), some (.ref du), some (.int ((0 : Int) + _)), some (.ref fo), v8, v9] ∧ (∀ c o, H11 c = some o → c ∉ as → H12 c = some o) ∧
          ∀ (k : Nat) c r, as[k]? = some c → rs'[k]? = some r → H12 c = some (.lst ((if k < j then r ++ [(k : Int)] else r).map V.int)))
        ⟨v8', v9', rfl, fun c o ho _ => ho, fun k c r h1 h2 => by rw [if_neg (by omega)]; exact rowsA11.2 k c r h1 h2⟩ (fun j σ H12 _ ⟨_, _, _, k, _⟩ => SqL.of (k fo _ h11fo foA)) ?_ ?_⟩
      · rintro j y σ H12 t hj ⟨v8, v9, rfl, k12, r12⟩ ht
        rw [List.getElem?_map] at hj
        cases hA : as[j]? with
        | none => rw [hA] at hj; cases hj
        | some fa =>
          rw [hA] at hj
          cases hj
          have hjl : j < as.length := (List.getElem?_eq_some_iff.mp hA).1
          have hrj : rs'[j]? = some (rs'[j]'(by rw [← rowsA.1]; exact hjl)) := List.getElem?_eq_getElem _
          generalize (rs'[j]'(by rw [← rowsA.1]; exact hjl)) = r at hrj
          have hfa := r12 j fa r hA hrj
          rw [if_neg (by omega)] at hfa
          have nft : fa ≠ t := ne_of_none hfa ht
          refine ⟨t, _, rfl, SqT.of upd_same, rfl, _, _, rfl, _, _, rfl, rfl, ?_⟩
          have h13 : (upd H12 t (.tup [.int (j : Int), .ref fa])) fa = some (.lst (r.map V.int)) := by rw [upd_ne nft]; exact hfa
          have lr : r.length ≤ 1000 := by
            have := kinds_row 12 n n r (List.mem_of_getElem? (ers ▸ hrj))
            omega
          refine ⟨_, rfl, .inl ⟨rfl, _, SqL.of h13⟩, _, rfl, fa, _, _, rfl, rfl, h13, small1000 (by rw [List.length_map]; exact lr), ?_⟩
          refine ⟨_, _, rfl, fun c o ho hc => ?_, fun k c r' h1 h2 => ?_⟩
          · have hc12 := k12 c o ho hc
            have hcf : c ≠ fa := fun z => hc (by rw [z]; exact List.mem_of_getElem? hA)
            rw [upd_ne hcf, upd_ne (ne_of_none hc12 ht)]
            exact hc12
          · by_cases hk : k = j
            · subst hk
              rw [hA] at h1; cases h1
              rw [hrj] at h2; cases h2
              rw [upd_same, if_pos (by omega), List.map_append]
              rfl
            · have hcf : c ≠ fa := fun z => by
                subst z
                have hkl := (List.getElem?_eq_some_iff.mp h1).1
                have e1 := (List.getElem?_eq_some_iff.mp h1).2
                have e2 := (List.getElem?_eq_some_iff.mp hA).2
                rcases Nat.lt_or_gt_of_ne hk with z | z
                · exact List.pairwise_iff_getElem.mp (List.nodup_iff_pairwise_ne.mp ndA) k j hkl hjl z (by rw [e1, e2])
                · exact List.pairwise_iff_getElem.mp (List.nodup_iff_pairwise_ne.mp ndA) j k hjl hkl z (by rw [e1, e2])
              have h3 := r12 k c r' h1 h2
              rw [upd_ne hcf, upd_ne (ne_of_none h3 ht), h3]
              by_cases hkj : k < j
              · rw [if_pos hkj, if_pos (by omega)]
              · rw [if_neg hkj, if_neg (by omega)]
      rintro σ H12 ⟨v8, v9, rfl, k12, r12⟩
      have rowsA12 : RowsH H12 as (numbered rs') := by
        refine ⟨by rw [numbered_len]; exact rowsA.1, fun k c r h1 h2 => ?_⟩
        have hkl : k < rs'.length := by rw [← rowsA.1]; exact (List.getElem?_eq_some_iff.mp h1).1
        have hrk : rs'[k]? = some rs'[k] := List.getElem?_eq_getElem hkl
        rw [numbered_get hrk] at h2
        cases h2
        have := r12 k c _ h1 hrk
        rw [List.length_map, if_pos (by rw [rowsA.1]; exact hkl)] at this
        exact this
      have nBA : ∀ c ∈ bs, c ∉ as := fun c hc hc' => by
        have h1 := fA c hc'
        obtain ⟨r, hr'⟩ := rows_mem rows6 hc
        have := s67 c _ hr'
        rw [h1] at this; cases this
      have rowsB12 : RowsH H12 bs rs' := rows_keep rowsB11 fun c hc o ho => k12 c o ho (nBA c hc)
      have nduA : du ∉ as := fun hc => by
        have h1 := fA du hc
        have := s67 du _ h6du
        rw [h1] at this; cases this
      have h12du := k12 du _ h11du nduA
      have h12fo := k12 fo _ h11fo foA
      refine ⟨_, rfl, _, rfl, du, rfl, ⟨_, SqL.of h12du⟩, comp_enum (K := K) (a := du) (xs := bs.map V.ref) (fun j ys σ H13 => ∃ (v0 v1 : Option V) (cs : List Addr), σ = [v0, v1] ∧ ys = cs.map V.ref ∧ cs.length = j ∧ Same H12 H13 ∧ ∀ (k : Nat) c r, cs[k]? = some c → rs'[k]? = some r → H13 c = some (.lst ((r ++ [(k : Int)]).map V.int)))
        ⟨none, none, [], rfl, rfl, rfl, Same.refl H12, fun k c r h => by simp at h⟩ (fun j ys σ H13 _ ⟨_, _, _, _, _, _, s, _⟩ => SqL.of (s du _ h12du)) ?_ ?_⟩
      · rintro j y ys σ H13 t hj ⟨v0, v1, cs, rfl, rfl, hcl, s1213, hcs⟩ ht
        rw [List.getElem?_map] at hj
        cases hB : bs[j]? with
        | none => rw [hB] at hj; cases hj
        | some fb =>
          rw [hB] at hj
          cases hj
          have hjl : j < bs.length := (List.getElem?_eq_some_iff.mp hB).1
          have hrj : rs'[j]? = some (rs'[j]'(by rw [← rowsB.1]; exact hjl)) := List.getElem?_eq_getElem _
          generalize (rs'[j]'(by rw [← rowsB.1]; exact hjl)) = r at hrj
          have hfb := s1213 fb _ (rowsB12.2 j fb r hB hrj)
          have nft : fb ≠ t := ne_of_none hfb ht
          refine ⟨t, _, rfl, SqT.of upd_same, rfl, _, _, rfl, _, _, rfl, rfl, ?_⟩
          have s1314 : Same H13 (upd H13 t (.tup [.int (j : Int), .ref fb])) := Same.upd_new ht
          generalize (upd H13 t (.tup [.int (j : Int), .ref fb])) = H14 at s1314 ⊢
          have h14 := s1314 fb _ hfb
          refine ⟨_, rfl, _, rfl, (by show 1 ≤ sizeLine; decide), fun e he => ?_⟩
          have nfe : fb ≠ e := ne_of_none h14 he
          have lr : r.length ≤ 1000 := by
            have := kinds_row 12 n n r (List.mem_of_getElem? (ers ▸ hrj))
            omega
          refine ⟨fb, e, _, _, rfl, rfl, by rw [upd_ne nfe]; exact h14, upd_same, ?_, fun c hc => ⟨?_, ?_⟩⟩
          · have := small1000 lr
            rw [List.length_map]
            show r.length + 1 ≤ sizeLine
            omega
          · exact small1000 (by rw [List.length_map, hcl]; have := rowsB.1; omega)
          · have hce : c ≠ e := fun z => by rw [z, upd_same] at hc; cases hc
            have hc14 : H14 c = none := by rw [upd_ne hce] at hc; exact hc
            have s1416 : Same H14 (upd (upd H14 e (.lst [.int (j : Int)])) c (.lst (r.map V.int ++ [.int (j : Int)]))) := (Same.upd_new he).upd_r hc14
            refine ⟨_, _, cs ++ [c], rfl, by rw [List.map_append]; rfl, by rw [List.length_append, hcl]; rfl, (s1213.trans s1314).trans s1416, fun k c' r' h1 h2 => ?_⟩
            by_cases hk : k < cs.length
            · rw [List.getElem?_append_left hk] at h1
              exact s1416 c' _ (s1314 c' _ (hcs k c' r' h1 h2))
            · rw [List.getElem?_append_right (by omega)] at h1
              have hk0 : k - cs.length = 0 := by
                have := (List.getElem?_eq_some_iff.mp h1).1
                simpa using this
              rw [hk0] at h1
              cases h1
              have hkj : k = j := by omega
              subst hkj
              rw [hrj] at h2; cases h2
              rw [upd_same, List.map_append]
              rfl
      rintro ys σ H13 ⟨v0, v1, cs, rfl, rfl, hcl, s1213, hcs⟩ D hD
      rw [List.length_map] at hcl
      have s1314 : Same H13 (upd H13 D (.lst (cs.map V.ref))) := Same.upd_new hD
      have rowsC : RowsH (upd H13 D (.lst (cs.map V.ref))) cs (numbered rs') := by
        refine ⟨by rw [numbered_len, hcl]; exact rowsB.1, fun k c r h1 h2 => ?_⟩
        have hkl : k < rs'.length := by rw [← rowsB.1, ← hcl]; exact (List.getElem?_eq_some_iff.mp h1).1
        have hrk : rs'[k]? = some rs'[k] := List.getElem?_eq_getElem hkl
        rw [numbered_get hrk] at h2
        cases h2
        exact s1314 c _ (hcs k c _ h1 hrk)
      have s1214 := s1213.trans s1314
      have hDs : (upd H13 D (.lst (cs.map V.ref))) D = some (.lst (cs.map V.ref)) := upd_same
      generalize (upd H13 D (.lst (cs.map V.ref))) = H14 at s1214 rowsC hDs ⊢
      have h14fo := s1214 fo _ h12fo
      have rowsA14 : RowsH H14 as (numbered rs') := rows_keep rowsA12 fun c _ o ho => s1214 c o ho
      refine ⟨fo, D, _, _, decide (numbered rs' = numbered rs'), rfl, rfl, SqL.of h14fo, SqL.of hDs, leq_rowsH rowsA14 rowsC, _, rfl, ?_⟩
      rw [decide_eq_true rfl]
      refine iteF ?_
      refine ⟨_, rfl, .inl ⟨rfl, _, SqL.of h14fo⟩, Nat.zero_le _, fun e he => ?_⟩
      have nfe : fo ≠ e := ne_of_none h14fo he
      refine ⟨fo, _, _, rfl, rfl, by rw [upd_ne nfe]; exact h14fo, small1000 (by rw [List.length_map, rowsA.1]; omega), ?_⟩
      refine ⟨_, _, _, _, rfl, fun c o hc => ?_⟩
      have h7c := s67 c o hc
      have hcA : c ∉ as := fun hc' => by have := fA c hc'; rw [h7c] at this; cases this
      have h14c := s1214 c o (k12 c o (s811 c o (s78 c o h7c)) hcA)
      rw [upd_ne (ne_of_none h7c hfo), upd_ne (ne_of_none h14c he)]
      exact h14c
    rintro σ H7 ⟨v2, v3, v8', v9', rfl, s67⟩
    exact q _ (s06.trans s67)
theorem sc_law : FnScope ["script", "k", "pool"] ["script"] (defScope s_law) := ⟨rfl, rfl, rfl, by decide +kernel, rfl, by decide +kernel, by decide +kernel⟩
theorem nd_many_law : (["many"] : List Str).Nodup := by decide +kernel
theorem ok_law {f : Addr} {fd : FuncData} (F : Fun K "law" "law" s_law f fd) (B : Bl mg) (c_law_pool : Cal P w K mg base "_law_pool" 1 ["script", "k"] (spPool K)) (c_law_right : Cal P w K mg base "_law_right" 15 ["many"] spRight) (c_law_take : Cal P w K mg base "_law_take" 1 ["pool", "many"] spTake) : FnOk P w K mg base CX0 16 f fd ["script"] (spLaw K) := by
  refine F.ok sc_law (fun vs H Q E h => ?_) (fun cdv A outer s H vs Q E hr h => ?_)
  · obtain ⟨a, ns, rfl, ha, hl, q⟩ := h
    rfl
  · obtain ⟨a, ns, rfl, ha, hl, q⟩ := h
    have hr_law_pool : Room 1 _ := hr.mono (by decide)
    have hr_law_right : Room 15 _ := hr.mono (by decide)
    have hr_law_take : Room 1 _ := hr.mono (by decide)
    have hu := hu_of hr
    refine ⟨_, @pss_cons _ _ _ _ _ (@ps_for _ _ _ _ _ _ _ _ PassesOwn.never rfl (@pi_range1 _ _ _ _ _ _ (by rfl) B.range (@pa_cons _ _ _ _ _ (@pe_max2 _ _ _ _ _ _ rfl B.max (@pa_cons _ _ _ _ _ (@pe_int _ _ _ _) (@pa_cons _ _ _ _ _ (@pe_min2 _ _ _ _ _ _ rfl B.min (@pa_cons _ _ _ _ _ (@pe_int _ _ _ _) (@pa_cons _ _ _ _ _ (@pe_lenL _ _ _ _ _ B.len (@pa_cons _ _ _ _ _ (pv 0) (@pa_nil _) (by rfl)) (by rfl) (by rfl)) (@pa_nil _) (by rfl)) (by rfl)) (by rfl) (by rfl) (by rfl)) (@pa_nil _) (by rfl)) (by rfl)) (by rfl) (by rfl) (by rfl)) (@pa_nil _) (by rfl)) (by rfl)) (@pg_name _ _ (1) _ sc_law.nd rfl (Or.inl rfl) (by first | exact .inl rfl | exact .inr rfl | assumption)) (@pss_cons _ _ _ _ _ (@ps_set _ _ (2) _ _ _ _ sc_law.nd rfl (Or.inl rfl) (@pe_cal _ _ _ _ _ _ _ _ _ _ c_law_pool hr_law_pool (@pa_cons _ _ _ _ _ (pv 0) (@pa_cons _ _ _ _ _ (pv 1) (@pa_nil _) (by rfl)) (by rfl)) (by rfl) (by decide) (by rfl) (by rfl)) (by rfl) (by first | exact .inl rfl | exact .inr rfl | assumption)) (@pss_one _ _ _ (@ps_if _ _ _ _ _ _ _ _ (@pt_not _ _ _ _ (@pt_val _ _ _ (@pe_cal _ _ _ _ _ _ _ _ _ _ c_law_right hr_law_right (@pa_cons _ _ _ _ _ (@pe_cal _ _ _ _ _ _ _ _ _ _ c_law_take hr_law_take (@pa_cons _ _ _ _ _ (pv 2) (@pa_cons _ _ _ _ _ (@pe_int _ _ _ _) (@pa_nil _) (by rfl)) (by rfl)) (by rfl) (by decide) (by rfl) (by rfl)) (@pa_nil _) (by rfl)) (by rfl) (by decide) (by rfl) (by rfl)) (by intro _; rfl))) (@pss_one _ _ _ (@ps_ret _ _ _ _ (@pe_bl _ _ _ _))) (@pss_nil _)))) (by intro _; rfl)) (@pss_one _ _ _ (@ps_ret _ _ _ _ (@pe_cmpR _ _ _ _ _ _ _ _ (op_eqL 0 hu) (@pe_comp _ _ _ _ _ _ _ _ _ _ _ (["many"]) (1) ([]) rfl .of (@pi_range1 _ _ _ _ _ _ (by rfl) B.range (@pa_cons _ _ _ _ _ (@pe_int _ _ _ _) (@pa_nil _) (by rfl)) (by rfl)) (fun _ _ _ _ _ => @pg_name _ _ (0) _ nd_many_law rfl (Or.inl rfl) (by first | exact .inl rfl | exact .inr rfl | assumption)) (fun _ _ _ _ _ => @pifs_one _ _ _ (@pt_not _ _ _ _ (@pt_val _ _ _ (@pe_cal _ _ _ _ _ _ _ _ _ _ c_law_right hr_law_right (@pa_cons _ _ _ _ _ (pv 0) (@pa_nil _) (by rfl)) (by rfl) (by decide) (by rfl) (by rfl)) (by intro _; rfl)))) (fun _ _ _ _ _ => (pv 0)) (by intro _; rfl)) (@pe_lst _ _ _ _ (@pa_nil _)) (nomark _)))), ?_⟩
    refine ⟨_, rfl, a, _, rfl, .inl ha, 6, _, rfl, 1, _, rfl, _, rfl, ?_⟩
    have hm : ∀ c : Int, 0 ≤ c → -(2 ^ 62) ≤ (if (if c < 6 then c else 6) > 1 then (if c < 6 then c else 6) else (1 : Int)) ∧ (if (if c < 6 then c else 6) > 1 then (if c < 6 then c else 6) else (1 : Int)) ≤ 6 := fun c hc => by split <;> split <;> omega
    have hm' := hm ((ns.map V.int).length : Int) (by omega)
    generalize (if (if ((ns.map V.int).length : Int) < 6 then ((ns.map V.int).length : Int) else 6) > 1 then (if ((ns.map V.int).length : Int) < 6 then ((ns.map V.int).length : Int) else 6) else (1 : Int)) = mx at hm' ⊢
    refine ⟨hm'.1, by omega, for_range (lo := 0) (n := mx.toNat) (fun i σ H2 => ∃ v1 v2 : Option V, σ = [some (.ref a), v1, v2] ∧ Same H H2)
      ⟨none, none, rfl, Same.refl H⟩ ?_ ?_⟩
    · rintro i σ H2 hi ⟨v1, v2, rfl, s02⟩
      refine ⟨_, rfl, _, rfl, a, ns, _, rfl, s02.seq ha, by omega, by omega, fun g H3 hg s23 P3 => ?_⟩
      refine ⟨_, rfl, g, 4300, 13, rfl, P3, by decide, by decide, by decide, fun r H4 r0 r1 P4 kb4 => ?_⟩
      obtain ⟨n, rfl⟩ := Int.eq_ofNat_of_zero_le r0
      have s04 : Same H H4 := (s02.trans s23).kb kb4 (s02.free hg)
      refine ⟨n, rfl, by omega, fun H5 s5 => ⟨true, rfl, ?_⟩⟩
      exact iteF ⟨_, _, rfl, s04.trans s5⟩
    · rintro σ H2 ⟨v1, v2, rfl, s02⟩
      refine ⟨13, rfl, by decide, by decide, comp_range (lo := 0) (n := 13) (fun j ys σ H3 => ∃ v : Option V, σ = [v] ∧ ys = []) ⟨none, rfl, rfl⟩ ?_ ?_⟩
      · rintro j ys σ H3 hj ⟨v, rfl, rfl⟩
        refine ⟨_, rfl, j, (show [V.int _] = _ by rw [Int.zero_add]), by omega, fun H4 s4 => ⟨true, rfl, ?_⟩⟩
        exact iteF ⟨_, rfl, rfl⟩
      · rintro ys σ H3 ⟨v, rfl, rfl⟩ D hD
        refine ⟨Nat.zero_le _, fun e he => ?_⟩
        have hde : D ≠ e := fun z => by rw [← z, upd_same] at he; cases he
        refine ⟨D, e, [], [], true, rfl, rfl, SqL.of (by rw [upd_ne hde, upd_same]), SqL.of upd_same, leq_nil _ _ _ _, ?_⟩
        exact q _
end
end My
namespace My
open PySem L2 Mth
theorem all_mk {l : PySem.W.OpenLaw} {w : World} {K : PySem.W.Frag} {h : Heap} {mg : Str → Option Value} {fa f0 f1 f2 f3 f4 f5 f6 f7 f8 f9 : Addr} (X : K.In h) (G : h.Ns mainGlobals mg) (hfa : mg "law" = some (.ref fa))
    {od0 an0 od1 an1 od2 an2 od3 an3 od4 an4 od5 an5 od6 an6 od7 an7 od8 an8 od9 an9 : Option Addr} {sl0 sl1 sl2 sl3 sl4 sl5 sl6 sl7 sl8 sl9 : Array (Option Value)} {oc0 kV0 dc0 pm0 cd0 ct0 oc1 kV1 dc1 pm1 cd1 ct1 oc2 kV2 dc2 pm2 cd2 ct2 oc3 kV3 dc3 pm3 cd3 ct3 oc4 kV4 dc4 pm4 cd4 ct4 oc5 kV5 dc5 pm5 cd5 ct5 oc6 kV6 dc6 pm6 cd6 ct6 oc7 kV7 dc7 pm7 cd7 ct7 oc8 kV8 dc8 pm8 cd8 ct8 oc9 kV9 dc9 pm9 cd9 ct9 : Value} {tk0 : Tok}
    (a0 : PySem.W.nsIn K mainGlobals "is_whole" = some (some (.ref f0))) (l0 : K.lookup f0 = some ⟨oc0, od0, .func (PySem.W.fnOf "is_whole" "is_whole" (defArgs s_is_whole) (defBody s_is_whole) (defScope s_is_whole) .none kV0 dc0 pm0 an0 cd0 ct0), sl0⟩) (c0 : PySem.W.codeIn K cd0 "is_whole" = true) (k0 : PySem.W.keepIn K (.ref f0) = true)
    (a1 : PySem.W.nsIn K mainGlobals "must_be_counted" = some (some (.ref f1))) (l1 : K.lookup f1 = some ⟨oc1, od1, .func (PySem.W.fnOf "must_be_counted" "must_be_counted" (defArgs s_must_be_counted) (defBody s_must_be_counted) (defScope s_must_be_counted) .none kV1 dc1 pm1 an1 cd1 ct1), sl1⟩) (c1 : PySem.W.codeIn K cd1 "must_be_counted" = true) (k1 : PySem.W.keepIn K (.ref f1) = true)
    (a2 : PySem.W.nsIn K mainGlobals "kinds_below" = some (some (.ref f2))) (l2 : K.lookup f2 = some ⟨oc2, od2, .func (PySem.W.fnOf "kinds_below" "kinds_below" (defArgs s_kinds_below) (defBody s_kinds_below) (defScope s_kinds_below) .none kV2 dc2 pm2 an2 cd2 ct2), sl2⟩) (c2 : PySem.W.codeIn K cd2 "kinds_below" = true) (k2 : PySem.W.keepIn K (.ref f2) = true)
    (a3 : PySem.W.nsIn K mainGlobals "kinds_of" = some (some (.ref f3))) (l3 : K.lookup f3 = some ⟨oc3, od3, .func (PySem.W.fnOf "kinds_of" "kinds_of" (defArgs s_kinds_of) (defBody s_kinds_of) (defScope s_kinds_of) .none kV3 dc3 pm3 an3 cd3 ct3), sl3⟩) (c3 : PySem.W.codeIn K cd3 "kinds_of" = true) (k3 : PySem.W.keepIn K (.ref f3) = true)
    (a4 : PySem.W.nsIn K mainGlobals "_law_pool" = some (some (.ref f4))) (l4 : K.lookup f4 = some ⟨oc4, od4, .func (PySem.W.fnOf "_law_pool" "_law_pool" (defArgs s_law_pool) (defBody s_law_pool) (defScope s_law_pool) .none kV4 dc4 pm4 an4 cd4 ct4), sl4⟩) (c4 : PySem.W.codeIn K cd4 "_law_pool" = true) (k4 : PySem.W.keepIn K (.ref f4) = true)
    (a5 : PySem.W.nsIn K mainGlobals "_law_take" = some (some (.ref f5))) (l5 : K.lookup f5 = some ⟨oc5, od5, .func (PySem.W.fnOf "_law_take" "_law_take" (defArgs s_law_take) (defBody s_law_take) (defScope s_law_take) .none kV5 dc5 pm5 an5 cd5 ct5), sl5⟩) (c5 : PySem.W.codeIn K cd5 "_law_take" = true) (k5 : PySem.W.keepIn K (.ref f5) = true)
    (a6 : PySem.W.nsIn K mainGlobals "_law_same" = some (some (.ref f6))) (l6 : K.lookup f6 = some ⟨oc6, od6, .func (PySem.W.fnOf "_law_same" "_law_same" (defArgs s_law_same) (defBody s_law_same) (defScope s_law_same) .none kV6 dc6 pm6 an6 cd6 ct6), sl6⟩) (c6 : PySem.W.codeIn K cd6 "_law_same" = true) (k6 : PySem.W.keepIn K (.ref f6) = true)
    (a7 : PySem.W.nsIn K mainGlobals "_law_kinds" = some (some (.ref f7))) (l7 : K.lookup f7 = some ⟨oc7, od7, .func (PySem.W.fnOf "_law_kinds" "_law_kinds" (defArgs s_law_kinds) (defBody s_law_kinds) (defScope s_law_kinds) .none kV7 dc7 pm7 an7 cd7 ct7), sl7⟩) (c7 : PySem.W.codeIn K cd7 "_law_kinds" = true) (k7 : PySem.W.keepIn K (.ref f7) = true)
    (a8 : PySem.W.nsIn K mainGlobals "_law_right" = some (some (.ref f8))) (l8 : K.lookup f8 = some ⟨oc8, od8, .func (PySem.W.fnOf "_law_right" "_law_right" (defArgs s_law_right) (defBody s_law_right) (defScope s_law_right) .none kV8 dc8 pm8 an8 cd8 ct8), sl8⟩) (c8 : PySem.W.codeIn K cd8 "_law_right" = true) (k8 : PySem.W.keepIn K (.ref f8) = true)
    (a9 : PySem.W.nsIn K mainGlobals "law" = some (some (.ref f9))) (l9 : K.lookup f9 = some ⟨oc9, od9, .func (PySem.W.fnOf "law" "law" (defArgs s_law) (defBody s_law) (defScope s_law) .none kV9 dc9 pm9 an9 cd9 ct9), sl9⟩) (c9 : PySem.W.codeIn K cd9 "law" = true) (k9 : PySem.W.keepIn K (.ref f9) = true)
    (m0 : PySem.W.nsIn K mainGlobals "MOST_COUNTED" = some (some (.int 12 tk0)))
    (z0 : PySem.W.nsIn K mainGlobals "len" = some none)
    (z1 : PySem.W.nsIn K mainGlobals "isinstance" = some none)
    (z2 : PySem.W.nsIn K mainGlobals "int" = some none)
    (z3 : PySem.W.nsIn K mainGlobals "bool" = some none)
    (z4 : PySem.W.nsIn K mainGlobals "list" = some none)
    (z5 : PySem.W.nsIn K mainGlobals "range" = some none)
    (z6 : PySem.W.nsIn K mainGlobals "sum" = some none)
    (z7 : PySem.W.nsIn K mainGlobals "min" = some none)
    (z8 : PySem.W.nsIn K mainGlobals "max" = some none)
    (z9 : PySem.W.nsIn K mainGlobals "enumerate" = some none)
    (z10 : PySem.W.nsIn K mainGlobals "zip" = some none)
    (z11 : PySem.W.nsIn K mainGlobals "sorted" = some none)
    (z12 : PySem.W.nsIn K mainGlobals "tuple" = some none)
    (z13 : PySem.W.nsIn K mainGlobals "str" = some none)
    (z14 : PySem.W.nsIn K mainGlobals "repr" = some none)
    (z15 : PySem.W.nsIn K mainGlobals "all" = some none)
    (z16 : PySem.W.nsIn K mainGlobals "any" = some none)
    (z17 : PySem.W.nsIn K mainGlobals "set" = some none)
    (z18 : PySem.W.nsIn K mainGlobals "dict" = some none)
    (z19 : PySem.W.nsIn K mainGlobals "ValueError" = some none)
    : ∃ fd : FuncData, (∀ (s : Shared) (v : Value), BindsTo s fd ⟨[v], []⟩ [("script", v)]) ∧ ∀ base : Heap, K.In base → base.Ns mainGlobals mg → FnOk l.prog w K mg base CX0 16 fa fd ["script"] (spLaw K) := by
  have e := hfa.symm.trans (PySem.W.mg_of X G a9)
  cases e
  have B : Bl mg := ⟨PySem.W.mg_none_of X G z0, PySem.W.mg_none_of X G z1, PySem.W.mg_none_of X G z2, PySem.W.mg_none_of X G z3, PySem.W.mg_none_of X G z4, PySem.W.mg_none_of X G z5, PySem.W.mg_none_of X G z6, PySem.W.mg_none_of X G z7, PySem.W.mg_none_of X G z8, PySem.W.mg_none_of X G z9, PySem.W.mg_none_of X G z10, PySem.W.mg_none_of X G z11, PySem.W.mg_none_of X G z12, PySem.W.mg_none_of X G z13, PySem.W.mg_none_of X G z14, PySem.W.mg_none_of X G z15, PySem.W.mg_none_of X G z16, PySem.W.mg_none_of X G z17, PySem.W.mg_none_of X G z18, PySem.W.mg_none_of X G z19⟩
  have g_MOST_COUNTED : ∃ t, mg "MOST_COUNTED" = some (.int 12 t) := ⟨_, PySem.W.mg_of X G m0⟩
  have F0 := fun_mk (st := s_is_whole) l0 c0 k0
  have b0 := F0.binds (ps := ["thing"]) fun _ _ _ _ _ _ us hl => match us, hl with | [_], _ => rfl
  have F1 := fun_mk (st := s_must_be_counted) l1 c1 k1
  have b1 := F1.binds (ps := ["n"]) fun _ _ _ _ _ _ us hl => match us, hl with | [_], _ => rfl
  have F2 := fun_mk (st := s_kinds_below) l2 c2 k2
  have b2 := F2.binds (ps := ["n", "most"]) fun _ _ _ _ _ _ us hl => match us, hl with | [_, _], _ => rfl
  have F3 := fun_mk (st := s_kinds_of) l3 c3 k3
  have b3 := F3.binds (ps := ["n"]) fun _ _ _ _ _ _ us hl => match us, hl with | [_], _ => rfl
  have F4 := fun_mk (st := s_law_pool) l4 c4 k4
  have b4 := F4.binds (ps := ["script", "k"]) fun _ _ _ _ _ _ us hl => match us, hl with | [_, _], _ => rfl
  have F5 := fun_mk (st := s_law_take) l5 c5 k5
  have b5 := F5.binds (ps := ["pool", "many"]) fun _ _ _ _ _ _ us hl => match us, hl with | [_, _], _ => rfl
  have F6 := fun_mk (st := s_law_same) l6 c6 k6
  have b6 := F6.binds (ps := ["found", "due"]) fun _ _ _ _ _ _ us hl => match us, hl with | [_, _], _ => rfl
  have F7 := fun_mk (st := s_law_kinds) l7 c7 k7
  have b7 := F7.binds (ps := ["many", "most"]) fun _ _ _ _ _ _ us hl => match us, hl with | [_, _], _ => rfl
  have F8 := fun_mk (st := s_law_right) l8 c8 k8
  have b8 := F8.binds (ps := ["many"]) fun _ _ _ _ _ _ us hl => match us, hl with | [_], _ => rfl
  have F9 := fun_mk (st := s_law) l9 c9 k9
  refine ⟨PySem.W.fnOf "law" "law" (defArgs s_law) (defBody s_law) (defScope s_law) .none kV9 dc9 pm9 an9 cd9 ct9, fun s v => .of_eq rfl, fun base _ _ => ?_⟩
  have c_is_whole : Cal l.prog w K mg base "is_whole" 1 ["thing"] (spWhole K) := ⟨f0, _, PySem.W.mg_of X G a0, k0, b0, ok_whole F0 B⟩
  have c_must_be_counted : Cal l.prog w K mg base "must_be_counted" 2 ["n"] spCounted := ⟨f1, _, PySem.W.mg_of X G a1, k1, b1, ok_must_be_counted F1 g_MOST_COUNTED c_is_whole⟩
  have c_kinds_below : Cal l.prog w K mg base "kinds_below" 13 ["n", "most"] (spKinds 12) := ⟨f2, _, PySem.W.mg_of X G a2, k2, b2, okr_kinds_below F2 B (⟨f2, _, PySem.W.mg_of X G a2, k2, b2, okr_kinds_below F2 B (⟨f2, _, PySem.W.mg_of X G a2, k2, b2, okr_kinds_below F2 B (⟨f2, _, PySem.W.mg_of X G a2, k2, b2, okr_kinds_below F2 B (⟨f2, _, PySem.W.mg_of X G a2, k2, b2, okr_kinds_below F2 B (⟨f2, _, PySem.W.mg_of X G a2, k2, b2, okr_kinds_below F2 B (⟨f2, _, PySem.W.mg_of X G a2, k2, b2, okr_kinds_below F2 B (⟨f2, _, PySem.W.mg_of X G a2, k2, b2, okr_kinds_below F2 B (⟨f2, _, PySem.W.mg_of X G a2, k2, b2, okr_kinds_below F2 B (⟨f2, _, PySem.W.mg_of X G a2, k2, b2, okr_kinds_below F2 B (⟨f2, _, PySem.W.mg_of X G a2, k2, b2, okr_kinds_below F2 B (⟨f2, _, PySem.W.mg_of X G a2, k2, b2, okr_kinds_below F2 B (⟨f2, _, PySem.W.mg_of X G a2, k2, b2, ok_kinds_below F2 B⟩)⟩)⟩)⟩)⟩)⟩)⟩)⟩)⟩)⟩)⟩)⟩)⟩
  have c_kinds_of : Cal l.prog w K mg base "kinds_of" 14 ["n"] spKindsOf := ⟨f3, _, PySem.W.mg_of X G a3, k3, b3, ok_kinds_of F3 c_must_be_counted c_kinds_below⟩
  have c_law_pool : Cal l.prog w K mg base "_law_pool" 1 ["script", "k"] (spPool K) := ⟨f4, _, PySem.W.mg_of X G a4, k4, b4, ok_pool F4 B⟩
  have c_law_take : Cal l.prog w K mg base "_law_take" 1 ["pool", "many"] spTake := ⟨f5, _, PySem.W.mg_of X G a5, k5, b5, ok_take F5⟩
  have c_law_same : Cal l.prog w K mg base "_law_same" 1 ["found", "due"] spSame := ⟨f6, _, PySem.W.mg_of X G a6, k6, b6, ok_same F6 B⟩
  have c_law_kinds : Cal l.prog w K mg base "_law_kinds" 13 ["many", "most"] (spKinds 12) := ⟨f7, _, PySem.W.mg_of X G a7, k7, b7, okr_law_kinds F7 B (⟨f7, _, PySem.W.mg_of X G a7, k7, b7, okr_law_kinds F7 B (⟨f7, _, PySem.W.mg_of X G a7, k7, b7, okr_law_kinds F7 B (⟨f7, _, PySem.W.mg_of X G a7, k7, b7, okr_law_kinds F7 B (⟨f7, _, PySem.W.mg_of X G a7, k7, b7, okr_law_kinds F7 B (⟨f7, _, PySem.W.mg_of X G a7, k7, b7, okr_law_kinds F7 B (⟨f7, _, PySem.W.mg_of X G a7, k7, b7, okr_law_kinds F7 B (⟨f7, _, PySem.W.mg_of X G a7, k7, b7, okr_law_kinds F7 B (⟨f7, _, PySem.W.mg_of X G a7, k7, b7, okr_law_kinds F7 B (⟨f7, _, PySem.W.mg_of X G a7, k7, b7, okr_law_kinds F7 B (⟨f7, _, PySem.W.mg_of X G a7, k7, b7, okr_law_kinds F7 B (⟨f7, _, PySem.W.mg_of X G a7, k7, b7, okr_law_kinds F7 B (⟨f7, _, PySem.W.mg_of X G a7, k7, b7, ok_law_kinds F7 B⟩)⟩)⟩)⟩)⟩)⟩)⟩)⟩)⟩)⟩)⟩)⟩)⟩
  have c_law_right : Cal l.prog w K mg base "_law_right" 15 ["many"] spRight := ⟨f8, _, PySem.W.mg_of X G a8, k8, b8, ok_law_right F8 B c_law_kinds c_kinds_of c_law_same⟩
  exact ok_law F9 B c_law_pool c_law_right c_law_take
theorem walk {l : PySem.W.OpenLaw} {q : Program} {loose : List Str} {XP : (Str → Option Value) → Heap → Prop} {YP : World → Heap → Prop} {d : DefRec} {K : Params → PySem.W.Frag} (hn : l.most = some 63) (hdf : d.params.defaults = [])
    (hY : ∀ (w : World) (h : Heap), YP w h → (K w.params).In h)
    (F : ∀ (w : World) (mg : Str → Option Value) (fa : Addr) (h : Heap), (K w.params).In h → h.Ns mainGlobals mg → mg d.name = some (.ref fa) →
      ∃ fd : FuncData, (∀ (s : Shared) (u : Value), BindsTo s fd ⟨[u], []⟩ [("script", u)]) ∧ ∀ base : Heap, (K w.params).In base → base.Ns mainGlobals mg → FnOk l.prog w (K w.params) mg base CX0 16 fa fd ["script"] (spLaw (K w.params))) :
    PySem.W.WalkO q loose XP YP l.row.toRowW d [] (fun f vs => PySem.call f vs) :=
  L2.walk_of (n := 63) (k := 16) (x := "script") (CX := fun _ => CX0) (sp := fun w => spLaw (K w.params)) hn (by decide) hdf ⟨rfl, by decide, by decide, rfl⟩ hY F (fun _ _ a ns hl _ hS => ⟨a, ns, rfl, hS, hl, fun _ => rfl⟩) fun _ _ _ _ _ z => z
end My
open PySem PySem.W PyProof.Rows
set_option maxRecDepth 100000 in
set_option maxHeartbeats 0 in
theorem PySem.Challenge.cw_turnroots_k40_kinds_told_holds : PySem.Challenge.rw_turnroots_k40_kinds_told.Holds := by
  w_on; o_law; k_head; (case hw => w_witness2)
  k_fill
  refine My.walk (l := PySem.Challenge.rw_turnroots_k40_kinds_told) rfl rfl (fun w h Y => PySem.W.kIn_of Y) ?F
  case F =>
    intro w mg fa h KX G hmg
    refine' My.all_mk KX G hmg ?a0 ?l0 ?c0 ?k0 ?a1 ?l1 ?c1 ?k1 ?a2 ?l2 ?c2 ?k2 ?a3 ?l3 ?c3 ?k3 ?a4 ?l4 ?c4 ?k4 ?a5 ?l5 ?c5 ?k5 ?a6 ?l6 ?c6 ?k6 ?a7 ?l7 ?c7 ?k7 ?a8 ?l8 ?c8 ?k8 ?a9 ?l9 ?c9 ?k9 ?m0 ?z0 ?z1 ?z2 ?z3 ?z4 ?z5 ?z6 ?z7 ?z8 ?z9 ?z10 ?z11 ?z12 ?z13 ?z14 ?z15 ?z16 ?z17 ?z18 ?z19
    (case a0 => k_is)
    (case l0 => k_is)
    (case c0 => k_is)
    (case k0 => k_is)
    (case a1 => k_is)
    (case l1 => k_is)
    (case c1 => k_is)
    (case k1 => k_is)
    (case a2 => k_is)
    (case l2 => k_is)
    (case c2 => k_is)
    (case k2 => k_is)
    (case a3 => k_is)
    (case l3 => k_is)
    (case c3 => k_is)
    (case k3 => k_is)
    (case a4 => k_is)
    (case l4 => k_is)
    (case c4 => k_is)
    (case k4 => k_is)
    (case a5 => k_is)
    (case l5 => k_is)
    (case c5 => k_is)
    (case k5 => k_is)
    (case a6 => k_is)
    (case l6 => k_is)
    (case c6 => k_is)
    (case k6 => k_is)
    (case a7 => k_is)
    (case l7 => k_is)
    (case c7 => k_is)
    (case k7 => k_is)
    (case a8 => k_is)
    (case l8 => k_is)
    (case c8 => k_is)
    (case k8 => k_is)
    (case a9 => k_is)
    (case l9 => k_is)
    (case c9 => k_is)
    (case k9 => k_is)
    (case m0 => k_is)
    (case z0 => k_is)
    (case z1 => k_is)
    (case z2 => k_is)
    (case z3 => k_is)
    (case z4 => k_is)
    (case z5 => k_is)
    (case z6 => k_is)
    (case z7 => k_is)
    (case z8 => k_is)
    (case z9 => k_is)
    (case z10 => k_is)
    (case z11 => k_is)
    (case z12 => k_is)
    (case z13 => k_is)
    (case z14 => k_is)
    (case z15 => k_is)
    (case z16 => k_is)
    (case z17 => k_is)
    (case z18 => k_is)
    (case z19 => k_is)
#print axioms PySem.Challenge.cw_turnroots_k40_kinds_told_holds