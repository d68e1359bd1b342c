import PyProof.Rows.All
import Wide.All
import OpenK.AllK
import Wide.FinOn
import Lean
import PyProof.EqAt
import PyProof.EqKinds
import PyProof.TupleCall
import PyProof.NeKinds
import PyProof.EnumMake
import PyProof.Rows.SeqMore2
import PyProof.ZipIter
import PyProof.Rows.SortRev
import PyProof.Rows.SortWalk
import PyProof.Rows.CallKwBuiltin
import PyProof.DictIter
import PyProof.DictWalks
import PyProof.MeetsDict
import PyProof.Conv_int_bool
import PyProof.EqAt
import PyProof.CollectWalk
import PyProof.Rows.SortShell
import PyProof.Rows.Range3
import PyProof.CallFns
import PyProof.StrBlockH
import PySem.Challenge.RW_turnroots_k32_refused_of_past
set_option Elab.async false
set_option linter.all false
set_option maxRecDepth 100000
set_option maxHeartbeats 8000000
set_option Elab.async false
set_option linter.all false
set_option maxRecDepth 100000
namespace L2
open PySem PySem.Spec PyProof.Rows
abbrev Key := Sum Int Str
def keyIs : Key → Value → Bool
  | .inl k, v => Value.isInt k v
  | .inr x, v => Value.isStrOf x v
def keyH (w : World) : Key → Int
  | .inl k => hashInt k
  | .inr x => hashStr w x
theorem keyIs_shape : ∀ {k : Key} {v : Value}, keyIs k v = true → (∃ i t, k = Sum.inl i ∧ v = Value.int i t) ∨ (∃ x t, k = Sum.inr x ∧ v = Value.str x t)
  | .inl i, v, h => by
    obtain ⟨t, e⟩ := Value.isInt_shape (k := i) (v := v) h
    exact .inl ⟨i, t, rfl, e⟩
  | .inr x, v, h => by
    obtain ⟨t, e⟩ := Value.isStrOf_shape (x := x) (v := v) h
    exact .inr ⟨x, t, rfl, e⟩
theorem keyIs_int (i : Int) (t : Tok) : keyIs (.inl i) (.int i t) = true := by simp [keyIs, Value.isInt]
theorem keyIs_str (x : Str) (t : Tok) : keyIs (.inr x) (.str x t) = true := by simp [keyIs, Value.isStrOf]
theorem key_ll (a b : Int) : decide ((Sum.inl a : Key) = Sum.inl b) = (a == b) := by
  by_cases e : a = b
  · subst e; simp
  · have h : ¬ (Sum.inl a : Key) = Sum.inl b := fun q => e (Sum.inl.inj q)
    rw [decide_eq_false h]
    exact (beq_eq_false_iff_ne.mpr e).symm
theorem key_rr (a b : Str) : decide ((Sum.inr a : Key) = Sum.inr b) = decide (a = b) := by
  by_cases e : a = b
  · subst e; simp
  · have h : ¬ (Sum.inr a : Key) = Sum.inr b := fun q => e (Sum.inr.inj q)
    rw [decide_eq_false h, decide_eq_false e]
theorem key_lr (a : Int) (b : Str) : decide ((Sum.inl a : Key) = Sum.inr b) = false := decide_eq_false (fun q => nomatch q)
theorem key_rl (a : Str) (b : Int) : decide ((Sum.inr a : Key) = Sum.inl b) = false := decide_eq_false (fun q => nomatch q)
def mixKind (prog : Program) (w : World) : PySem.KeyKind prog w Key where
  is := keyIs
  hash := keyH w
  inj := fun v a b ha hb => by
    rcases keyIs_shape ha with ⟨i, t, rfl, rfl⟩ | ⟨x, t, rfl, rfl⟩
    · rcases keyIs_shape hb with ⟨j, u, rfl, e⟩ | ⟨y, u, rfl, e⟩
      · injection e with e1 _; rw [e1]
      · exact nomatch e
    · rcases keyIs_shape hb with ⟨j, u, rfl, e⟩ | ⟨y, u, rfl, e⟩
      · exact nomatch e
      · injection e with e1 _; rw [e1]
  byValue := fun k v h => by
    rcases keyIs_shape h with ⟨i, t, rfl, rfl⟩ | ⟨x, t, rfl, rfl⟩ <;> rfl
  pyHash := fun hv h => by
    rcases keyIs_shape hv with ⟨i, t, rfl, rfl⟩ | ⟨x, t, rfl, rfl⟩
    · exact wpAny_pyHash_int h
    · exact wpAny_pyHash_str h
  eqBool := fun hu hv h => by
    rcases keyIs_shape hu with ⟨i, t, rfl, rfl⟩ | ⟨x, t, rfl, rfl⟩
    · rcases keyIs_shape hv with ⟨j, u, rfl, rfl⟩ | ⟨y, u, rfl, rfl⟩
      · rw [key_ll] at h; exact wpAny_eqBool_int h
      · rw [key_lr] at h; exact SeqAt.EqAt.int_str i t y u _ _ _ _ h
    · rcases keyIs_shape hv with ⟨j, u, rfl, rfl⟩ | ⟨y, u, rfl, rfl⟩
      · rw [key_rl] at h; exact SeqAt.EqAt.str_int x t j u _ _ _ _ h
      · rw [key_rr] at h; exact wpAny_eqBool_str h
  «strs» := fun k x t v h => by
    rcases keyIs_shape h with ⟨i, u, rfl, e⟩ | ⟨y, u, rfl, e⟩
    · exact nomatch e
    · injection e with e1 _
      subst e1
      cases v <;> rfl
theorem mixKind_int (prog : Program) (w : World) (i : Int) (t : Tok) : (mixKind prog w).is (.inl i) (.int i t) = true := keyIs_int i t
theorem mixKind_str (prog : Program) (w : World) (x : Str) (t : Tok) : (mixKind prog w).is (.inr x) (.str x t) = true := keyIs_str x t
end L2
namespace L2
open PySem PySem.Spec PyProof.Rows
inductive V where
  | non | bl (b : Bool) | int (i : Int) | str (x : Str) | byt (b : Array UInt8) | flt (b : UInt64) | ref (a : Addr) | ty (n : String)
  deriving DecidableEq
def RelV : V → Value → Prop
  | .non, u => u = Value.none
  | .bl b, u => u = Value.bool b
  | .int i, u => ∃ t, u = Value.int i t
  | .str x, u => ∃ t, u = Value.str x t
  | .byt b, u => ∃ t, u = Value.bytes b t
  | .flt b, u => ∃ t, u = Value.float b t
  | .ref a, u => u = Value.ref a
  | .ty n, u => u = Value.type n
abbrev Vals : List V → List Value → Prop := Paired RelV
theorem Vals.length {xs : List V} {us : List Value} (r : Vals xs us) : xs.length = us.length := Paired.length r
theorem Vals.get : ∀ {xs : List V} {us : List Value} {i : Nat} {x : V}, Vals xs us → xs[i]? = some x → ∃ u, us[i]? = some u ∧ RelV x u
  | _, _, _, _, .nil, e => by simp at e
  | _, _, 0, _, .cons r _, e => by simp at e; subst e; exact ⟨_, rfl, r⟩
  | _, _, i + 1, x, .cons _ t, e => by
    obtain ⟨u, h1, h2⟩ := Vals.get (i := i) (x := x) t (by simpa using e)
    exact ⟨u, by simpa using h1, h2⟩
theorem Vals.set {x : V} {u : Value} (r : RelV x u) : ∀ {xs : List V} {us : List Value} (i : Nat), Vals xs us → Vals (xs.set i x) (us.set i u)
  | _, _, _, .nil => .nil
  | _, _, 0, .cons _ t => .cons r t
  | _, _, i + 1, .cons q t => .cons q (Vals.set r i t)
theorem Vals.append : ∀ {xs ys : List V} {us ws : List Value}, Vals xs us → Vals ys ws → Vals (xs ++ ys) (us ++ ws)
  | _, _, _, _, .nil, s => s
  | _, _, _, _, .cons r t, s => .cons r (Vals.append t s)
theorem Vals.take : ∀ {xs : List V} {us : List Value} (n : Nat), Vals xs us → Vals (xs.take n) (us.take n)
  | _, _, 0, _ => .nil
  | _, _, _ + 1, .nil => .nil
  | _, _, n + 1, .cons r t => .cons r (Vals.take n t)
theorem Vals.drop : ∀ {xs : List V} {us : List Value} (n : Nat), Vals xs us → Vals (xs.drop n) (us.drop n)
  | _, _, 0, r => r
  | _, _, _ + 1, .nil => .nil
  | _, _, n + 1, .cons _ t => Vals.drop n t
def RelO : Option V → Option Value → Prop
  | some v, some u => RelV v u
  | none, none => True
  | _, _ => False
def KV {κ : Type} : List (κ × V) → List (κ × Value) → Prop := Paired fun (p : κ × V) (q : κ × Value) => p.1 = q.1 ∧ RelV p.2 q.2
def kV : Key → V
  | .inl i => .int i
  | .inr x => .str x
inductive HO where
  | lst (xs : List V)
  | tup (xs : List V)
  | dK (kvs : List (Key × V)) | dT (kvs : List (List Key × V))
  | set (S : Int → Bool) (n : Nat)
  | ins (C dx : Addr) (fs : List (Str × V))
  | own (x : Addr)
  | xd (fs : List (Str × V))
  | met (f x : Addr)
  | rng (lo hi : Int)
  | frz (o : Obj) (u : HO)
  | tbl (ps : Array Value)
  | ext (φ : Heap → Prop)
abbrev Hp := Addr → Option HO
def upd (H : Hp) (a : Addr) (o : HO) : Hp := fun b => if b = a then some o else H b
theorem upd_same {H : Hp} {a : Addr} {o : HO} : upd H a o a = some o := by unfold upd; rw [if_pos rfl]
theorem upd_ne {H : Hp} {a b : Addr} {o : HO} (h : b ≠ a) : upd H a o b = H b := by unfold upd; rw [if_neg h]
theorem ne_of {H : Hp} {a b : Addr} {o u : HO} (h : H a = some o) (h' : H b = some u) (d : o ≠ u) : a ≠ b := by
  intro e; subst e; rw [h] at h'; exact d (Option.some.inj h')
theorem ne_of_none {H : Hp} {a b : Addr} {o : HO} (h : H a = some o) (h' : H b = none) : a ≠ b := by
  intro e; subst e; rw [h] at h'; cases h'
section
variable (P : Program) (w : World)
def ObjOk (H : Hp) (h : Heap) (a : Addr) : HO → Prop
  | .lst xs => xs.length ≤ sizeLine ∧ ∃ (its : List Value) (n : Nat), Vals xs its ∧ h.get? a = some { cls := .type "list", data := .seq its.toArray n }
  | .tup xs => xs.length ≤ sizeLine ∧ ∃ its : List Value, Vals xs its ∧ IsTup h a its.toArray
  | .dK kvs => kvs.length ≤ sizeLine ∧ (a == sysModules) = false ∧ ∃ vs, KV kvs vs ∧ h.DictOf (mixKind P w) a vs
  | .dT kvs => kvs.length ≤ sizeLine ∧ (a == sysModules) = false ∧ ∃ xs : List (List Key × Addr × Value),
      Paired (fun (p : List Key × V) (q : List Key × Addr × Value) => p.1 = q.1 ∧ H q.2.1 = some (.tup (p.1.map kV)) ∧ RelV p.2 q.2.2) kvs xs ∧
      ∃ o es ep, h.get? a = some o ∧ o.ExactDict ∧ o.data = .dict es ep ∧ es.toList = xs.map (entryOfKey (tupleKind (mixKind P w))) ∧ (xs.map (·.1)).Nodup
  | .set S n => h.SetOf (intKind P w) a S n
  | .ins C dx fs => H dx = some (.own a) ∧ fs.length ≤ 1000 ∧ dx ≠ a ∧ h.get? a = some (PySem.W.instObj C dx) ∧
      ∃ mA, h.Ns1 dx mA ∧ (∀ f, RelO (fs.lookup f) (mA f)) ∧ PySem.Within mA (fs.map (·.1))
  | .own _ => ∃ o, h.get? a = some o
  | .xd fs => ∃ mA, h.Ns1 a mA ∧ ∀ f, RelO (fs.lookup f) (mA f)
  | .rng lo hi => ∃ t u v, h.get? a = some { cls := .type "range", data := .fields #[.int lo t, .int hi u, .int 1 v] }
  | .frz o u => h.get? a = some o ∧ ObjOk H h a u
  | .tbl ps => h.get? a = some { cls := .none, data := .fields ps }
  | .met f x => h.get? a = some (PySem.W.methodObj (.ref f) (.ref x))
  | .ext φ => φ h ∧ (∃ o, h.get? a = some o) ∧ ∀ h1 h2 : Heap, φ h1 → (∀ o, h1.get? a = some o → h2.get? a = some o) → φ h2
def HOk (H : Hp) (h : Heap) : Prop := ∀ a o, H a = some o → ObjOk P w H h a o
end
section
variable {P : Program} {w : World} {H H' : Hp} {h h' : Heap} {a : Addr} {o : HO}
theorem ObjOk.lt (x : ObjOk P w H h a o) : a < h.objs.size := by
  cases o with
  | lst xs => obtain ⟨_, _, _, _, e⟩ := x; exact Heap.lt_size e
  | tup xs => obtain ⟨_, _, _, p⟩ := x; exact p.lt
  | dK kvs => obtain ⟨_, _, _, _, o, _, _, e, _⟩ := x; exact Heap.lt_size e
  | dT kvs => obtain ⟨_, _, _, _, o, _, _, e, _⟩ := x; exact Heap.lt_size e
  | set S n => obtain ⟨o, _, _, _, e, _⟩ := x; exact Heap.lt_size e
  | ins C dx fs => obtain ⟨_, _, _, e, _⟩ := x; exact Heap.lt_size e
  | own y => obtain ⟨_, e⟩ := x; exact Heap.lt_size e
  | xd fs => obtain ⟨_, ⟨_, _, _, e, _⟩, _⟩ := x; exact Heap.lt_size e
  | rng lo hi => obtain ⟨_, _, _, e⟩ := x; exact Heap.lt_size e
  | frz ob u => obtain ⟨e, _⟩ := x; exact Heap.lt_size e
  | tbl ps => exact Heap.lt_size (show h.get? a = some _ from x)
  | met f y => exact Heap.lt_size (show h.get? a = some _ from x)
  | ext φ => obtain ⟨_, ⟨_, e⟩, _⟩ := x; exact Heap.lt_size e
theorem Paired.mapP {α β : Type} {F G : α → β → Prop} : ∀ {l₁ : List α} {l₂ : List β}, Paired F l₁ l₂ → (∀ a b, F a b → G a b) → Paired G l₁ l₂
  | _, _, .nil, _ => .nil
  | _, _, .cons r t, f => .cons (f _ _ r) (Paired.mapP t f)
theorem ObjOk.stay (x : ObjOk P w H h a o) (k : ∀ b u, (b = a ∨ H b = some (.own a)) → h.get? b = some u → h'.get? b = some u)
    (ho : ∀ b, H b = some (.own a) → H' b = some (.own a)) (ht : ∀ b xs, H b = some (.tup xs) → H' b = some (.tup xs)) : ObjOk P w H' h' a o := by
  induction o with
  | lst xs => obtain ⟨z, its, n, r, e⟩ := x; exact ⟨z, its, n, r, k _ _ (.inl rfl) e⟩
  | tup xs => obtain ⟨z, its, r, ob, e, c⟩ := x; exact ⟨z, its, r, ob, k _ _ (.inl rfl) e, c⟩
  | dK kvs => obtain ⟨z, y, vs, r, ob, es, ep, e, c⟩ := x; exact ⟨z, y, vs, r, ob, es, ep, k _ _ (.inl rfl) e, c⟩
  | dT kvs =>
    obtain ⟨z, y, xs, r, ob, es, ep, e, c⟩ := x
    exact ⟨z, y, xs, Paired.mapP r fun p q z => ⟨z.1, ht _ _ z.2.1, z.2.2⟩, ob, es, ep, k _ _ (.inl rfl) e, c⟩
  | set S n => obtain ⟨ob, es, ep, t, e, c⟩ := x; exact ⟨ob, es, ep, t, k _ _ (.inl rfl) e, c⟩
  | ins C dx fs =>
    obtain ⟨d, z, ne, e, mA, ⟨od, es, ep, e2, c⟩, r⟩ := x
    exact ⟨ho _ d, z, ne, k _ _ (.inl rfl) e, mA, ⟨od, es, ep, k _ _ (.inr d) e2, c⟩, r⟩
  | own y => obtain ⟨ob, e⟩ := x; exact ⟨ob, k _ _ (.inl rfl) e⟩
  | xd fs => obtain ⟨mA, ⟨od, es, ep, e, c⟩, r⟩ := x; exact ⟨mA, ⟨od, es, ep, k _ _ (.inl rfl) e, c⟩, r⟩
  | rng lo hi => obtain ⟨t, u, v, e⟩ := x; exact ⟨t, u, v, k _ _ (.inl rfl) e⟩
  | frz ob u ih => obtain ⟨e, q⟩ := x; exact ⟨k _ _ (.inl rfl) e, ih q⟩
  | tbl ps =>
    have e : h.get? a = some { cls := .none, data := .fields ps } := x
    show h'.get? a = some { cls := .none, data := .fields ps }
    exact k a _ (.inl rfl) e
  | met f y =>
    have e : h.get? a = some (PySem.W.methodObj (.ref f) (.ref y)) := x
    show h'.get? a = some (PySem.W.methodObj (.ref f) (.ref y))
    exact k a _ (.inl rfl) e
  | ext φ => obtain ⟨p, ⟨o, e⟩, st⟩ := x; exact ⟨st _ _ p fun o q => k _ _ (.inl rfl) q, ⟨o, k _ _ (.inl rfl) e⟩, st⟩
theorem HOk.lt (x : HOk P w H h) (e : H a = some o) : a < h.objs.size := (x a o e).lt
theorem HOk.fresh (x : HOk P w H h) (e : h.objs.size ≤ a) : H a = none := by
  cases q : H a with
  | none => rfl
  | some u => exact absurd (Nat.lt_of_lt_of_le (x.lt q) e) (Nat.lt_irrefl _)
theorem HOk.kept (x : HOk P w H h) (k : ∀ b u, h.get? b = some u → h'.get? b = some u) : HOk P w H h' := fun a o e =>
  (x a o e).stay (fun b u _ q => k b u q) (fun _ q => q) fun _ _ q => q
theorem HOk.laid (x : HOk P w H h) (k : ∀ b u, h.get? b = some u → h'.get? b = some u) (hp : h.objs.size ≤ a) (new : ObjOk P w (upd H a o) h' a o) : HOk P w (upd H a o) h' := fun b u e => by
  have hn := x.fresh hp
  by_cases hb : b = a
  · subst hb; rw [upd_same] at e; cases e; exact new
  · rw [upd_ne hb] at e
    exact (x b u e).stay (fun c v _ q => k c v q) (fun c q => by rw [upd_ne (ne_of_none q hn)]; exact q) fun c xs q => by rw [upd_ne (ne_of_none q hn)]; exact q
end
def Rd (H : Hp) (a : Addr) (u : HO) : Prop := H a = some u ∨ ∃ o, H a = some (.frz o u)
theorem Rd.ok {P : Program} {w : World} {H : Hp} {h : Heap} {a : Addr} {u : HO} (r : Rd H a u) (x : HOk P w H h) : ObjOk P w H h a u := by
  rcases r with r | ⟨o, r⟩
  · exact x a u r
  · obtain ⟨_, q⟩ := x a _ r
    exact q
def Mut : Option HO → Prop
  | some (.lst _) => True
  | some (.dK _) => True
  | some (.dT _) => True
  | some (.set _ _) => True
  | some (.ins _ _ _) => True
  | some (.ext _) => True
  | _ => False
section
variable {P : Program} {w : World} {H : Hp} {h h' : Heap} {x e : Addr} {o' : HO}
theorem HOk.write (ok : HOk P w H h) (mu : Mut (H x)) (he : e = x ∨ H e = some (.own x)) (k : ∀ b u, b ≠ e → h.get? b = some u → h'.get? b = some u) (heo : ∃ u, h'.get? e = some u)
    (new : ObjOk P w (upd H x o') h' x o') : HOk P w (upd H x o') h' := fun b u q => by
  have nown : ∀ c y, H c = some (.own y) → c ≠ x := fun c y r z => by subst z; rw [r] at mu; exact mu
  have ntup : ∀ c xs, H c = some (.tup xs) → c ≠ x := fun c xs r z => by subst z; rw [r] at mu; exact mu
  by_cases hb : b = x
  · subst hb; rw [upd_same] at q; cases q; exact new
  · rw [upd_ne hb] at q
    by_cases hbe : b = e
    · have q' : H b = some (.own x) := by
        rcases he with z | z
        · exact absurd (hbe.trans z) hb
        · rw [hbe]; exact z
      rw [q] at q'; cases q'
      obtain ⟨v, hv⟩ := heo
      exact ⟨v, by rw [hbe]; exact hv⟩
    · refine (ok b u q).stay (fun c v hc r => k c v ?_ r) (fun c r => by rw [upd_ne (nown c b r)]; exact r) fun c xs r => by rw [upd_ne (ntup c xs r)]; exact r
      rcases hc with rfl | hc
      · exact hbe
      · rintro rfl
        rcases he with z | z
        · exact nown c b hc z
        · rw [hc] at z; cases z; exact hb rfl
end
structure Un (fs ex : List Addr) (H H' : Hp) (h h' : Heap) : Prop where
  keep : ∀ b o, h.get? b = some o → H b = none → b ∉ fs → b ∉ ex → h'.get? b = some o
  slot : ∀ b o, h.get? b = some o → H b = none → b ∈ fs → b ∉ ex → ∃ sl, h'.get? b = some { o with slots := sl }
  free : ∀ b o, h.get? b = some o → H b = none → b ∉ ex → H' b = none
  there : ∀ b o, h.get? b = some o → b ∉ ex → ∃ o', h'.get? b = some o'
  tups : ∀ b xs, H b = some (.tup xs) → H' b = some (.tup xs)
  frzs : ∀ b o u, H b = some (.frz o u) → H' b = some (.frz o u)
  tbls : ∀ b ps, H b = some (.tbl ps) → ∃ more, H' b = some (.tbl (ps ++ more))
section
variable {fs fs' ex ex' : List Addr} {H H1 H2 : Hp} {h h1 h2 h' : Heap} {a x e : Addr} {o : HO}
theorem Un.any (u : Un fs ex H H1 h h1) {b : Addr} {ob : Obj} (q : h.get? b = some ob) (n : H b = none) (hx : b ∉ ex) : ∃ sl, h1.get? b = some { ob with slots := sl } := by
  by_cases hb : b ∈ fs
  · exact u.slot b ob q n hb hx
  · exact ⟨ob.slots, u.keep b ob q n hb hx⟩
theorem Un.kept (k : ∀ b u, h.get? b = some u → h'.get? b = some u) : Un fs ex H H h h' :=
  ⟨fun b ob q _ _ _ => k b ob q, fun b ob q _ _ _ => ⟨ob.slots, k b ob q⟩, fun _ _ _ n _ => n, fun b ob q _ => ⟨ob, k b ob q⟩, fun _ _ q => q, fun _ _ _ q => q, fun _ ps q => ⟨#[], by rw [q]; simp⟩⟩
theorem Un.refl : Un fs ex H H h h := Un.kept fun _ _ q => q
theorem Un.laid (k : ∀ b u, h.get? b = some u → h'.get? b = some u) (hp : h.objs.size ≤ a) (hn : H a = none) : Un fs ex H (upd H a o) h h' where
  keep := fun b u q _ _ _ => k b u q
  slot := fun b u q _ _ _ => ⟨u.slots, k b u q⟩
  free := fun b u q n _ => by rw [upd_ne (Nat.ne_of_lt (Nat.lt_of_lt_of_le (Heap.lt_size q) hp))]; exact n
  there := fun b u q _ => ⟨u, k b u q⟩
  tups := fun b xs q => by rw [upd_ne (ne_of_none q hn)]; exact q
  frzs := fun b u xs q => by rw [upd_ne (ne_of_none q hn)]; exact q
  tbls := fun b ps q => ⟨#[], by rw [upd_ne (ne_of_none q hn), q]; simp⟩
theorem Un.write (mu : Mut (H x)) (he : e = x ∨ H e = some (.own x)) (k : ∀ b u, b ≠ e → h.get? b = some u → h'.get? b = some u) (heo : ∃ u, h'.get? e = some u) : Un fs ex H (upd H x o) h h' := by
  have hx : ∀ b, H b = none → b ≠ x := fun b n z => by subst z; rw [n] at mu; exact mu
  have hb : ∀ b, H b = none → b ≠ e := fun b n z => by
    subst z
    rcases he with r | r
    · exact hx b n r
    · rw [n] at r; cases r
  have hm : ∀ b u, H b = some u → ¬ Mut (some u) → b ≠ x := fun b u q nm z => by subst z; rw [q] at mu; exact nm mu
  refine ⟨fun b u q n _ _ => k b u (hb b n) q, fun b u q n _ _ => ⟨u.slots, k b u (hb b n) q⟩, fun b u q n _ => by rw [upd_ne (hx b n)]; exact n, fun b u q _ => ?_,
    fun b xs q => by rw [upd_ne (hm b _ q fun z => z)]; exact q, fun b u xs q => by rw [upd_ne (hm b _ q fun z => z)]; exact q, fun b ps q => ⟨#[], by rw [upd_ne (hm b _ q fun z => z), q]; simp⟩⟩
  by_cases hbe : b = e
  · subst hbe; exact heo
  · exact ⟨u, k b u hbe q⟩
end
def trk (h : Heap) (H : Hp) : List Addr := (List.range h.objs.size).filter fun a => (H a).isSome
def hidT (h : Heap) (H : Hp) : Heap := PySem.W.hideAll h (trk h H)
theorem hidT_size (h : Heap) (H : Hp) : (hidT h H).objs.size = h.objs.size := PySem.W.hideAll_size _ _
theorem hidT_get {h : Heap} {H : Hp} {b : Addr} {o : Obj} (e : h.get? b = some o) (n : H b = none) : (hidT h H).get? b = some o :=
  PySem.W.hideAll_get _ e fun hm => by
    have q : (H b).isSome = true := (List.mem_filter.mp hm).2
    rw [n] at q; simp at q
theorem of_hidT {h : Heap} {H : Hp} {b : Addr} {o : Obj} (e : (hidT h H).get? b = some o) : h.get? b = some o ∧ H b = none := by
  have e' : h.get? b = some o := PySem.W.of_hideAll (trk h H) e
  refine ⟨e', ?_⟩
  cases q : H b with
  | none => rfl
  | some x =>
    have hm : b ∈ trk h H := List.mem_filter.mpr ⟨List.mem_range.mpr (Heap.lt_size e'), by simp [q]⟩
    have z : (hidT h H).get? b = none := PySem.W.hideAll_none (trk h H) hm
    rw [z] at e; cases e
end L2
namespace L2
open PySem PySem.Spec PyProof.Rows
structure Mod (K : PySem.W.Frag) (mg : Str → Option Value) (base : Heap) : Prop where
  kin : K.In base
  glob : base.Ns mainGlobals mg
  blt : ∃ mb, base.Ns builtinsNs mb ∧ ∀ x : Str, x ≠ "__name__" → mb x = bootBuiltins x
  nolimit : base.NoLimit
structure Cx where
  prog : Program
  w : World
  K : PySem.W.Frag
  mg : Str → Option Value
  base : Heap
  A : Around
  N : List Str
  s₀ : Shared
  H₀ : Hp
  env : Env
  outer : List Env
  stack : List Env
  ex : List Addr
  fn : Str → Bool
  calm : Bool
  pn : List (Addr × Obj)
  xe : Value → Shared → Prop
def frs (l : List Env) : List Addr := l.filterMap (·.frame)
abbrev Cx.fs (X : Cx) : List Addr := frs X.outer
def Vis (sc : Scope) (x : Str) : Prop := sc.names.lookup x = some .local ∨ sc.names.lookup x = some .cell ∨ sc.names.lookup x = some .free
def Loc (sc : Scope) (x : Str) : Prop := sc.names.lookup x = some .local ∨ sc.names.lookup x = some .cell
def Look (env : Env) (h : Heap) (m : Str → Option Value) (x : Str) (u : Value) : Prop :=
  (env.kindOf x = some .local ∧ m x = some u) ∨ ((env.kindOf x = some .cell ∨ env.kindOf x = some .free) ∧ ∃ c, env.cells.lookup x = some c ∧ h.IsCell c (some u))
structure Cx.Ok (X : Cx) : Prop where
  mod : Mod X.K X.mg X.base
  kind : X.env.scope.kind = .function
  glob : X.env.globals = mainGlobals
  blt : X.env.builtins = builtinsNs
  above : X.s₀.heap.objs.size ≤ X.env.locals
  inj : ∀ x y c, X.env.cells.lookup x = some c → X.env.cells.lookup y = some c → x = y
  has : ∀ x, (X.env.kindOf x = some .cell ∨ X.env.kindOf x = some .free) → ∃ c, X.env.cells.lookup x = some c
  cab : ∀ x c, X.fn x = true → X.env.cells.lookup x = some c → X.s₀.heap.objs.size ≤ c
  hd : X.calm = true → X.A.handled = none
  frames : X.A.frames = some X.stack
  stk : X.stack = X.outer ∨ (X.stack = X.env :: X.outer ∧ X.env.frame = some X.env.locals)
  exf : ∀ b ∈ X.ex, b ≠ X.env.locals ∧ ∀ x c, X.env.cells.lookup x = some c → c ≠ b
  bs : ∀ b o, X.base.get? b = some o → X.s₀.heap.get? b = some o ∧ X.H₀ b = none
  bsz : X.base.objs.size ≤ X.s₀.heap.objs.size
  noex : ∀ b o, X.base.get? b = some o → b ∉ X.ex
  exfs : ∀ b ∈ X.ex, b ∉ X.fs
  funs : X.s₀.heap.FunFrames X.base X.outer
  frf : ∀ b ∈ X.fs, X.H₀ b = none
structure Inv (X : Cx) (pins : List (Addr × Obj)) (σ : List (Option V)) (H : Hp) (s : Shared) : Prop where
  ok : X.Ok
  os : s.os = X.s₀.os
  bare : AllBare s.gens
  base : Un X.fs X.ex X.H₀ H X.s₀.heap s.heap
  loc : ∃ m, s.heap.Ns X.env.locals m ∧ ∀ (i : Nat) (x : Str) (v : V), X.N[i]? = some x → σ[i]? = some (some v) → Vis X.env.scope x → ∃ u, RelV v u ∧ Look X.env s.heap m x u
  cell : ∀ x c, X.env.cells.lookup x = some c → ∃ v, s.heap.IsCell c v
  free : H X.env.locals = none
  freeC : ∀ x c, X.env.cells.lookup x = some c → H c = none
  pin : ∀ p ∈ X.pn ++ pins, s.heap.get? p.1 = some p.2 ∧ H p.1 = none ∧ p.1 ≠ X.env.locals ∧ p.1 ∉ X.fs ∧ ∀ v, p.2.data ≠ .cell v
  hok : HOk X.prog X.w H s.heap
  len : σ.length = X.N.length
section
variable {X : Cx} {pins : List (Addr × Obj)} {σ : List (Option V)} {H H' : Hp} {s : Shared} {h' : Heap}
theorem Cx.Ok.nofr (ok : X.Ok) {b : Addr} {o : Obj} (e : X.base.get? b = some o) : b ∉ X.fs := fun hb => by
  have := (ok.funs.mem hb).1
  rw [e] at this; cases this
theorem Inv.bs (I : Inv X pins σ H s) : ∀ b o, X.base.get? b = some o → s.heap.get? b = some o ∧ H b = none := fun b o e =>
  ⟨I.base.keep b o (I.ok.bs b o e).1 (I.ok.bs b o e).2 (I.ok.nofr e) (I.ok.noex b o e), I.base.free b o (I.ok.bs b o e).1 (I.ok.bs b o e).2 (I.ok.noex b o e)⟩
theorem Inv.bk (I : Inv X pins σ H s) : ∀ b o, X.base.get? b = some o → s.heap.get? b = some o := fun b o e => (I.bs b o e).1
theorem Inv.mod (I : Inv X pins σ H s) : Mod X.K X.mg X.base := I.ok.mod
theorem Inv.kIn (I : Inv X pins σ H s) : X.K.In s.heap := I.ok.mod.kin.keeps I.bk
theorem Inv.lt (I : Inv X pins σ H s) : X.env.locals < s.heap.objs.size := let ⟨_, hn, _⟩ := I.loc; hn.lt
theorem Inv.sz (I : Inv X pins σ H s) : X.s₀.heap.objs.size ≤ s.heap.objs.size := Nat.le_trans I.ok.above (Nat.le_of_lt I.lt)
theorem Inv.nofs (I : Inv X pins σ H s) {a : Addr} (h : s.heap.objs.size ≤ a) : a ∉ X.fs := fun hb => by
  obtain ⟨_, o, ho, _⟩ := I.ok.funs.mem hb
  exact absurd (Nat.lt_of_lt_of_le (Heap.lt_size ho) (Nat.le_trans I.sz h)) (Nat.lt_irrefl _)
theorem Inv.cne (I : Inv X pins σ H s) : ∀ x c, X.env.cells.lookup x = some c → c ≠ X.env.locals := fun x c e z => by
  obtain ⟨v, o, ho, hd⟩ := I.cell x c e
  obtain ⟨m, ⟨o', es, ep, ho', hd', _⟩, _⟩ := I.loc
  rw [z, ho'] at ho; cases ho; rw [hd'] at hd; cases hd
theorem Inv.funs (I : Inv X pins σ H s) : s.heap.FunFrames X.base X.outer := by
  have all : ∀ (l : List Env), (∀ b ∈ frs l, b ∈ X.fs) → X.s₀.heap.FunFrames X.base l → s.heap.FunFrames X.base l := by
    intro l
    induction l with
    | nil => intro _ _; trivial
    | cons env r ih =>
      intro hs hl
      obtain ⟨hk, ⟨L, o, hf, hn, ho, hd⟩, hr⟩ := hl
      have hL : L ∈ X.fs := hs L (by unfold frs; rw [List.filterMap_cons, hf]; exact List.mem_cons_self)
      obtain ⟨sl, e⟩ := I.base.slot L o ho (I.ok.frf L hL) hL fun z => I.ok.exfs L z hL
      exact ⟨hk, ⟨L, _, hf, hn, e, hd⟩, ih (fun b hb => hs b (by unfold frs; rw [List.filterMap_cons, hf]; exact List.mem_cons_of_mem _ hb)) hr⟩
  exact all X.outer (fun _ hb => hb) I.ok.funs
theorem Inv.stack (I : Inv X pins σ H s) : s.heap.FunFrames X.base X.stack := by
  rcases I.ok.stk with e | ⟨e, hf⟩
  · rw [e]; exact I.funs
  · rw [e]
    obtain ⟨m, hn, _⟩ := I.loc
    refine .cons (by rw [I.ok.kind]; decide) hf hn ?_ I.funs
    exact Heap.get?_none_of_le (Nat.le_trans I.ok.bsz I.ok.above)
theorem Inv.stkSub (I : Inv X pins σ H s) : ∀ b ∈ frs X.stack, b ∈ X.env.locals :: X.fs := fun b hb => by
  rcases I.ok.stk with e | ⟨e, hf⟩
  · rw [e] at hb; exact List.mem_cons_of_mem _ hb
  · rw [e] at hb
    unfold frs at hb
    rw [List.filterMap_cons, hf] at hb
    exact hb
theorem Inv.stkFree (I : Inv X pins σ H s) : ∀ b ∈ frs X.stack, H b = none := fun b hb => by
  rcases List.mem_cons.mp (I.stkSub b hb) with e | hb
  · rw [e]; exact I.free
  · obtain ⟨_, o, ho, _⟩ := I.ok.funs.mem hb
    exact I.base.free b o ho (I.ok.frf b hb) fun z => I.ok.exfs b z hb
theorem Inv.step {g' : Array GenState} {t' : Nat} {d' : Drawn} {ch : List Addr} (I : Inv X pins σ H s)
    (hch : ∀ b ∈ ch, (b ∈ X.ex ∨ X.s₀.heap.objs.size ≤ b) ∧ b ≠ X.env.locals ∧ (∀ x c, X.env.cells.lookup x = some c → c ≠ b) ∧ ∀ p ∈ X.pn ++ pins, p.1 ≠ b)
    (keep : ∀ b o, b ≠ X.env.locals → b ∉ X.fs → b ∉ ch → s.heap.get? b = some o → H b = none → h'.get? b = some o)
    (slot : ∀ b o, b ≠ X.env.locals → b ∈ X.fs → b ∉ ch → s.heap.get? b = some o → H b = none → ∃ sl, h'.get? b = some { o with slots := sl }) (free : ∀ b o, b ∉ ch → s.heap.get? b = some o → H b = none → H' b = none)
    (there : ∀ b o, b ∉ ch → s.heap.get? b = some o → ∃ o', h'.get? b = some o')
    (tups : ∀ b xs, H b = some (.tup xs) → H' b = some (.tup xs)) (frzs : ∀ b o u, H b = some (.frz o u) → H' b = some (.frz o u)) (tbls : ∀ b ps, H b = some (.tbl ps) → ∃ more, H' b = some (.tbl (ps ++ more)))
    (ns : ∀ m, s.heap.Ns X.env.locals m → h'.Ns X.env.locals m) (hok : HOk X.prog X.w H' h') (hg : AllBare g') :
    Inv X pins σ H' { s with heap := h', gens := g', drawn := d', toks := t' } := by
  have neL : ∀ b o, X.s₀.heap.get? b = some o → b ≠ X.env.locals := fun b o e => Nat.ne_of_lt (Nat.lt_of_lt_of_le (Heap.lt_size e) I.ok.above)
  have neC : ∀ b o, X.s₀.heap.get? b = some o → b ∉ X.ex → b ∉ ch := fun b o e hx hb => by
    rcases (hch b hb).1 with z | z
    · exact hx z
    · exact absurd (Nat.lt_of_lt_of_le (Heap.lt_size e) z) (Nat.lt_irrefl _)
  have cellK : ∀ x c, X.env.cells.lookup x = some c → ∀ v, s.heap.IsCell c v → h'.IsCell c v := fun x c e v ⟨o, ho, hd⟩ => by
    have nch : c ∉ ch := fun z => (hch c z).2.2.1 x c e rfl
    by_cases hc : c ∈ X.fs
    · obtain ⟨sl, q⟩ := slot c o (I.cne x c e) hc nch ho (I.freeC x c e)
      exact ⟨_, q, hd⟩
    · exact ⟨o, keep c o (I.cne x c e) hc nch ho (I.freeC x c e), hd⟩
  refine ⟨I.ok, I.os, hg, ⟨fun b o e n hb hx => ?_, fun b o e n hb hx => ?_, fun b o e n hx => ?_, fun b o e hx => ?_, fun b xs e => tups b xs (I.base.tups b xs e), fun b o xs e => frzs b o xs (I.base.frzs b o xs e), fun b ps e => ?_⟩, ?_, fun x c e => ?_, ?_, fun x c e => ?_, fun p hp => ?_, hok, I.len⟩
  · exact keep b o (neL b o e) hb (neC b o e hx) (I.base.keep b o e n hb hx) (I.base.free b o e n hx)
  · obtain ⟨sl, e1⟩ := I.base.slot b o e n hb hx
    obtain ⟨sl', e2⟩ := slot b _ (neL b o e) hb (neC b o e hx) e1 (I.base.free b o e n hx)
    exact ⟨sl', e2⟩
  · obtain ⟨o', e1⟩ := I.base.there b o e hx
    exact free b o' (neC b o e hx) e1 (I.base.free b o e n hx)
  · obtain ⟨o', e1⟩ := I.base.there b o e hx
    exact there b o' (neC b o e hx) e1
  · obtain ⟨m1, e1⟩ := I.base.tbls b ps e
    obtain ⟨m2, e2⟩ := tbls b _ e1
    exact ⟨m1 ++ m2, by rw [e2, Array.append_assoc]⟩
  · obtain ⟨m, hn, hl⟩ := I.loc
    refine ⟨m, ns m hn, fun i x v e1 e2 e3 => ?_⟩
    obtain ⟨u, r, l⟩ := hl i x v e1 e2 e3
    refine ⟨u, r, ?_⟩
    rcases l with l | ⟨k, c, e, z⟩
    · exact .inl l
    · exact .inr ⟨k, c, e, cellK x c e _ z⟩
  · obtain ⟨v, z⟩ := I.cell x c e
    exact ⟨v, cellK x c e v z⟩
  · obtain ⟨m, ⟨o, _, _, ho, _⟩, _⟩ := I.loc
    exact free _ o (fun z => (hch _ z).2.1 rfl) ho I.free
  · obtain ⟨v, o, ho, hd⟩ := I.cell x c e
    exact free c o (fun z => (hch c z).2.2.1 x c e rfl) ho (I.freeC x c e)
  · obtain ⟨e, n, ne, nf, d⟩ := I.pin p hp
    have nch : p.1 ∉ ch := fun z => (hch p.1 z).2.2.2 p hp rfl
    exact ⟨keep p.1 p.2 ne nf nch e n, free p.1 p.2 nch e n, ne, nf, d⟩
theorem Inv.un {t' : Nat} (I : Inv X pins σ H s) (u : Un X.fs [] H H' s.heap h') (hok : HOk X.prog X.w H' h') : Inv X pins σ H' { s with heap := h', toks := t' } := by
  obtain ⟨m, ⟨o, es, ep, ho, r⟩, _⟩ := id I.loc
  obtain ⟨sl, hL⟩ := u.any ho I.free (by simp)
  exact I.step (g' := s.gens) (d' := s.drawn) (ch := []) (fun _ z => nomatch z) (fun b o _ hb _ e n => u.keep b o e n hb (by simp)) (fun b o _ hb _ e n => u.slot b o e n hb (by simp)) (fun b o _ e n => u.free b o e n (by simp)) (fun b o _ e => u.there b o e (by simp)) u.tups u.frzs u.tbls (fun m' hm => by
    obtain ⟨o', es', ep', ho', r'⟩ := hm
    rw [ho] at ho'; cases ho'
    exact ⟨_, es', ep', hL, r'⟩) hok I.bare
theorem Inv.call {g' : Array GenState} {t' : Nat} {d' : Drawn} {ch : List Addr} (I : Inv X pins σ H s) (u : Un (frs X.stack) ch H H' s.heap h') (hok : HOk X.prog X.w H' h') (hg : AllBare g')
    (hch : ∀ b ∈ ch, (b ∈ X.ex ∨ X.s₀.heap.objs.size ≤ b) ∧ b ≠ X.env.locals ∧ (∀ x c, X.env.cells.lookup x = some c → c ≠ b) ∧ ∀ p ∈ X.pn ++ pins, p.1 ≠ b) :
    Inv X pins σ H' { s with heap := h', gens := g', drawn := d', toks := t' } := by
  obtain ⟨m, ⟨o, es, ep, ho, r⟩, _⟩ := id I.loc
  obtain ⟨sl, hL⟩ := u.any ho I.free fun z => (hch _ z).2.1 rfl
  exact I.step (ch := ch) hch (fun b o hL hb hc e n => u.keep b o e n (fun z => (List.mem_cons.mp (I.stkSub b z)).elim hL hb) hc) (fun b o _ _ hc e n => u.any e n hc) (fun b o hc e n => u.free b o e n hc) (fun b o hc e => u.there b o e hc) u.tups u.frzs u.tbls (fun m' hm => by
    obtain ⟨o', es', ep', ho', r'⟩ := hm
    rw [ho] at ho'; cases ho'
    exact ⟨_, es', ep', hL, r'⟩) hok hg
theorem Inv.turned {t' : Nat} {it : Addr} (I : Inv X pins σ H s) (k : ∀ b o, b ≠ it → s.heap.get? b = some o → h'.get? b = some o) (hn : H it = none) (hL : it ≠ X.env.locals)
    (h1 : it ∈ X.ex ∨ X.s₀.heap.objs.size ≤ it) (h2 : ∀ x c, X.env.cells.lookup x = some c → c ≠ it) (h3 : ∀ p ∈ X.pn ++ pins, p.1 ≠ it) : Inv X pins σ H { s with heap := h', toks := t' } := by
  have nit : ∀ b u, H b = some u → b ≠ it := fun b u e z => by rw [z, hn] at e; cases e
  refine I.step (g' := s.gens) (d' := s.drawn) (ch := [it]) (fun b hb => ?_) (fun b o _ _ hc e _ => k b o (fun z => hc (by simp [z])) e) (fun b o _ _ hc e _ => ⟨o.slots, k b o (fun z => hc (by simp [z])) e⟩) (fun _ _ _ _ n => n)
    (fun b o hc e => ⟨o, k b o (fun z => hc (by simp [z])) e⟩) (fun _ _ e => e) (fun _ _ _ e => e) (fun b ps e => ⟨#[], by rw [e]; simp⟩) (fun m hm => ?_) (fun b u e => ?_) I.bare
  · have e : b = it := by simpa using hb
    subst e
    exact ⟨h1, hL, h2, h3⟩
  · obtain ⟨o, es, ep, ho, r⟩ := hm
    exact ⟨o, es, ep, k _ o (Ne.symm hL) ho, r⟩
  · refine (I.hok b u e).stay (fun c v hc q => k c v ?_ q) (fun _ q => q) fun _ _ q => q
    rcases hc with z | z
    · rw [z]; exact nit b u e
    · exact nit c _ z
theorem Inv.tok (I : Inv X pins σ H s) (t : Nat) : Inv X pins σ H { s with toks := t } := I.un (h' := s.heap) (t' := t) Un.refl I.hok
theorem Inv.kept {t' : Nat} (I : Inv X pins σ H s) (k : ∀ b u, s.heap.get? b = some u → h'.get? b = some u) : Inv X pins σ H { s with heap := h', toks := t' } := I.un (Un.kept k) (I.hok.kept k)
theorem Inv.laid {a : Addr} {o : HO} {t' : Nat} (I : Inv X pins σ H s) (k : ∀ b u, s.heap.get? b = some u → h'.get? b = some u) (hp : s.heap.objs.size ≤ a) (new : ObjOk X.prog X.w (upd H a o) h' a o) :
    Inv X pins σ (upd H a o) { s with heap := h', toks := t' } := I.un (Un.laid k hp (I.hok.fresh hp)) (I.hok.laid k hp new)
theorem Inv.write {x e : Addr} {o : HO} {t' : Nat} (I : Inv X pins σ H s) (mu : Mut (H x)) (he : e = x ∨ H e = some (.own x)) (k : ∀ b u, b ≠ e → s.heap.get? b = some u → h'.get? b = some u) (heo : ∃ u, h'.get? e = some u)
    (new : ObjOk X.prog X.w (upd H x o) h' x o) : Inv X pins σ (upd H x o) { s with heap := h', toks := t' } := I.un (Un.write mu he k heo) (I.hok.write mu he k heo new)
theorem Inv.pins_of {pins' : List (Addr × Obj)} (I : Inv X pins σ H s) (h : ∀ p ∈ pins', s.heap.get? p.1 = some p.2 ∧ H p.1 = none ∧ p.1 ≠ X.env.locals ∧ p.1 ∉ X.fs ∧ ∀ v, p.2.data ≠ .cell v) : Inv X pins' σ H s :=
  ⟨I.ok, I.os, I.bare, I.base, I.loc, I.cell, I.free, I.freeC, fun p hp => (List.mem_append.mp hp).elim (fun z => I.pin p (List.mem_append_left _ z)) (h p), I.hok, I.len⟩
theorem nodup_ix {N : List Str} (hN : N.Nodup) {i j : Nat} {x : Str} (a : N[i]? = some x) (b : N[j]? = some x) : i = j := by
  obtain ⟨h1, e1⟩ := List.getElem?_eq_some_iff.mp a
  obtain ⟨h2, e2⟩ := List.getElem?_eq_some_iff.mp b
  exact (List.getElem_inj hN).mp (e1.trans e2.symm)
theorem store_ok2 {M : Model} {A : Around} {E : Value → Shared → Prop} {i : Nat} {x : Str} {v : V} {u : Value} {Q : Unit → Shared → Prop} (I : Inv X pins σ H s) (hN : X.N.Nodup) (hi : X.N[i]? = some x) (hx : Loc X.env.scope x) (r : RelV v u)
    (h : ∀ s', Inv X pins (σ.set i (some v)) H s' → (∃ a, Heap.SameBut a s.heap s'.heap ∧ (a = X.env.locals ∨ X.env.cells.lookup x = some a)) → Q () s') (hf : X.fn x = true ∨ X.env.scope.names.lookup x = some .local := by first | exact .inl rfl | exact .inr rfl | assumption) : wpAny M A (storeName X.env x u) Q E s := by
  obtain ⟨m, hn, hl⟩ := id I.loc
  have hcls : (X.env.scope.kind == .class || (X.env.scope.kind == .module && X.env.locals != X.env.globals)) = false := by rw [I.ok.kind]; rfl
  have hiσ : i < σ.length := by rw [I.len]; exact (List.getElem?_eq_some_iff.mp hi).1
  have cne := I.cne
  have tracked : ∀ {a : Addr} {h' : Heap}, (∃ o, s.heap.get? a = some o ∧ H a = none) → Heap.SameBut a s.heap h' → HOk X.prog X.w H h' := fun {a h'} ha hs b ob e => by
    obtain ⟨_, _, hfree⟩ := ha
    refine (I.hok b ob e).stay (fun c w' hc q => (hs.2 c ?_).trans q) (fun _ q => q) fun _ _ q => q
    rintro rfl
    rcases hc with rfl | hc
    · rw [hfree] at e; cases e
    · rw [hfree] at hc; cases hc
  rcases hx with hk | hk
  · refine wpAny_storeName_local hk hn (fun h' hn' hs => ?_) hcls
    obtain ⟨oL, _, _, hoL, _⟩ := id hn
    refine h _ ⟨I.ok, I.os, I.bare, ⟨fun b o e n hb hx => ?_, fun b o e n hb hx => ?_, I.base.free, fun b o e hx => ?_, I.base.tups, I.base.frzs, I.base.tbls⟩, ⟨_, hn', fun j y v' e1 e2 e3 => ?_⟩, fun y c e => ?_, I.free, I.freeC, fun p hp => ?_, tracked ⟨oL, hoL, I.free⟩ hs, by simpa using I.len⟩ ⟨_, hs, .inl rfl⟩
    · exact (hs.2 b (Nat.ne_of_lt (Nat.lt_of_lt_of_le (Heap.lt_size e) I.ok.above))).trans (I.base.keep b o e n hb hx)
    · obtain ⟨sl, e1⟩ := I.base.slot b o e n hb hx
      exact ⟨sl, (hs.2 b (Nat.ne_of_lt (Nat.lt_of_lt_of_le (Heap.lt_size e) I.ok.above))).trans e1⟩
    · obtain ⟨o', e1⟩ := I.base.there b o e hx
      exact ⟨o', (hs.2 b (Nat.ne_of_lt (Nat.lt_of_lt_of_le (Heap.lt_size e) I.ok.above))).trans e1⟩
    · by_cases hj : j = i
      · subst hj
        rw [hi] at e1; cases e1
        rw [List.getElem?_set_self hiσ] at e2
        cases e2
        exact ⟨u, r, .inl ⟨hk, by simp⟩⟩
      · rw [List.getElem?_set_ne (Ne.symm hj)] at e2
        obtain ⟨u', r', q⟩ := hl j y v' e1 e2 e3
        refine ⟨u', r', ?_⟩
        rcases q with ⟨k, e⟩ | ⟨k, c, e, z⟩
        · refine .inl ⟨k, ?_⟩
          have : y ≠ x := fun e => hj (nodup_ix hN e1 (e ▸ hi))
          simp [this, e]
        · exact .inr ⟨k, c, e, z.sameBut hs (cne y c e)⟩
    · obtain ⟨w', z⟩ := I.cell y c e
      exact ⟨w', z.sameBut hs (cne y c e)⟩
    · obtain ⟨e, n, ne, nf, d⟩ := I.pin p hp
      exact ⟨(hs.2 p.1 ne).trans e, n, ne, nf, d⟩
  · have hfn : X.fn x = true := by
      rcases hf with z | z
      · exact z
      · rw [z] at hk; cases hk
    obtain ⟨c, hc⟩ := I.ok.has x (.inl hk)
    obtain ⟨w', z⟩ := I.cell x c hc
    refine wpAny_storeName_cell I.ok.kind hk hc z (fun h' hc' hs => ?_)
    obtain ⟨oc, hoc, hocd⟩ := id z
    refine h { s with heap := h' } ⟨I.ok, I.os, I.bare, ⟨fun b o e n hb hx => ?_, fun b o e n hb hx => ?_, I.base.free, fun b o e hx => ?_, I.base.tups, I.base.frzs, I.base.tbls⟩, ⟨m, hn.sameBut hs (Ne.symm (cne x c hc)), fun j y v' e1 e2 e3 => ?_⟩, fun y c' e => ?_, I.free, I.freeC, fun p hp => ?_, tracked ⟨oc, hoc, I.freeC x c hc⟩ hs, by simpa using I.len⟩ ⟨c, hs, .inr hc⟩
    · exact (hs.2 b (Nat.ne_of_lt (Nat.lt_of_lt_of_le (Heap.lt_size e) (I.ok.cab x c hfn hc)))).trans (I.base.keep b o e n hb hx)
    · obtain ⟨sl, e1⟩ := I.base.slot b o e n hb hx
      exact ⟨sl, (hs.2 b (Nat.ne_of_lt (Nat.lt_of_lt_of_le (Heap.lt_size e) (I.ok.cab x c hfn hc)))).trans e1⟩
    · obtain ⟨o', e1⟩ := I.base.there b o e hx
      exact ⟨o', (hs.2 b (Nat.ne_of_lt (Nat.lt_of_lt_of_le (Heap.lt_size e) (I.ok.cab x c hfn hc)))).trans e1⟩
    · by_cases hj : j = i
      · subst hj
        rw [hi] at e1; cases e1
        rw [List.getElem?_set_self hiσ] at e2
        cases e2
        exact ⟨u, r, .inr ⟨.inl hk, c, hc, hc'⟩⟩
      · rw [List.getElem?_set_ne (Ne.symm hj)] at e2
        obtain ⟨u', r', q⟩ := hl j y v' e1 e2 e3
        refine ⟨u', r', ?_⟩
        rcases q with q | ⟨k, c', e, z'⟩
        · exact .inl q
        · refine .inr ⟨k, c', e, z'.sameBut hs ?_⟩
          rintro rfl
          exact hj (nodup_ix hN e1 (I.ok.inj _ _ _ e hc ▸ hi))
    · by_cases hcc : c' = c
      · subst hcc; exact ⟨_, hc'⟩
      · obtain ⟨w2, z2⟩ := I.cell y c' e
        exact ⟨w2, z2.sameBut hs hcc⟩
    · obtain ⟨e, n, ne, nf, d⟩ := I.pin p hp
      refine ⟨(hs.2 p.1 ?_).trans e, n, ne, nf, d⟩
      intro q
      rw [q, hoc] at e
      have q' : oc = p.2 := Option.some.inj e
      exact d w' (by rw [← q']; exact hocd)
theorem store_ok {M : Model} {A : Around} {E : Value → Shared → Prop} {i : Nat} {x : Str} {v : V} {u : Value} {Q : Unit → Shared → Prop} (I : Inv X pins σ H s) (hN : X.N.Nodup) (hi : X.N[i]? = some x) (hx : Loc X.env.scope x) (r : RelV v u)
    (h : ∀ s', Inv X pins (σ.set i (some v)) H s' → Q () s') (hf : X.fn x = true ∨ X.env.scope.names.lookup x = some .local := by first | exact .inl rfl | exact .inr rfl | assumption) : wpAny M A (storeName X.env x u) Q E s :=
  store_ok2 I hN hi hx r (fun s' I' _ => h s' I') hf
theorem Inv.call' {s' : Shared} {ch : List Addr} (I : Inv X pins σ H s) (ho : s'.os = s.os) (u : Un (frs X.stack) ch H H' s.heap s'.heap) (hok : HOk X.prog X.w H' s'.heap) (hg : AllBare s'.gens)
    (hch : ∀ b ∈ ch, (b ∈ X.ex ∨ X.s₀.heap.objs.size ≤ b) ∧ b ≠ X.env.locals ∧ (∀ x c, X.env.cells.lookup x = some c → c ≠ b) ∧ ∀ p ∈ X.pn ++ pins, p.1 ≠ b) : Inv X pins σ H' s' := by
  obtain ⟨h', g', d', t', o'⟩ := s'
  have e : o' = s.os := ho
  subst e
  exact I.call (g' := g') (t' := t') (d' := d') u hok hg hch
end
abbrev XK := Value → Option Addr → Hp → Prop
abbrev St := List (Option V)
abbrev VK := V → Hp → Prop
abbrev TE := St → Hp → VK → Prop
abbrev TT := St → Hp → (Bool → Hp → Prop) → Prop
abbrev TA := St → Hp → (List V → Hp → Prop) → Prop
structure Ends where
  nx : St → Hp → Prop
  rt : VK
  bk : St → Hp → Prop := fun _ _ => False
  ct : St → Hp → Prop := fun _ _ => False
abbrev TS := Ends → St → Hp → Prop
def EP (X : Cx) (pins : List (Addr × Obj)) (σ : St) (Q : VK) (u : Value) (s' : Shared) : Prop := ∃ v H', Inv X pins σ H' s' ∧ RelV v u ∧ Q v H'
def TP (X : Cx) (pins : List (Addr × Obj)) (σ : St) (Q : Bool → Hp → Prop) (b : Bool) (s' : Shared) : Prop := ∃ H', Inv X pins σ H' s' ∧ Q b H'
def AP (X : Cx) (pins : List (Addr × Obj)) (σ : St) (Q : List V → Hp → Prop) (us : List Value) (s' : Shared) : Prop := ∃ vs H', Inv X pins σ H' s' ∧ Vals vs us ∧ Q vs H'
def SP (X : Cx) (pins : List (Addr × Obj)) (D : Ends) (f : Flow) (s' : Shared) : Prop :=
  match f with
  | .next => ∃ σ' H', Inv X pins σ' H' s' ∧ D.nx σ' H'
  | .brk => ∃ σ' H', Inv X pins σ' H' s' ∧ D.bk σ' H'
  | .cont => ∃ σ' H', Inv X pins σ' H' s' ∧ D.ct σ' H'
  | .ret u => ∃ v σ' H', Inv X pins σ' H' s' ∧ RelV v u ∧ D.rt v H'
def PE (X : Cx) (e : Expr) (t : TE) : Prop :=
  ∀ (pins : List (Addr × Obj)) (s : Shared) (σ : St) (H : Hp) (Q : VK), Inv X pins σ H s → t σ H Q → wpAny (model X.prog X.w) X.A (eval e X.env) (EP X pins σ Q) X.xe s
def PT (X : Cx) (e : Expr) (t : TT) : Prop :=
  ∀ (pins : List (Addr × Obj)) (s : Shared) (σ : St) (H : Hp) (Q : Bool → Hp → Prop), Inv X pins σ H s → t σ H Q → wpAny (model X.prog X.w) X.A (isTrue e X.env (eval e X.env)) (TP X pins σ Q) X.xe s
def PW (X : Cx) (e : Expr) (t : TT) : Prop :=
  ∀ (whole : Sem Value) (pins : List (Addr × Obj)) (s : Shared) (σ : St) (H : Hp) (Q : Bool → Hp → Prop), Inv X pins σ H s → t σ H Q → wpAny (model X.prog X.w) X.A (isTrue e X.env whole) (TP X pins σ Q) X.xe s
theorem PW.pt {X : Cx} {e : Expr} {t : TT} (h : PW X e t) : PT X e t := h _
def PA (X : Cx) (es : List Expr) (t : TA) : Prop :=
  ∀ (pos : Pos) (pins : List (Addr × Obj)) (s : Shared) (σ : St) (H : Hp) (Q : List V → Hp → Prop), Inv X pins σ H s → t σ H Q → wpAny (model X.prog X.w) X.A (spliced (backTo pos (starEach es X.env))) (AP X pins σ Q) X.xe s
def PS (X : Cx) (st : Stmt) (t : TS) : Prop :=
  ∀ (pins : List (Addr × Obj)) (s : Shared) (σ : St) (H : Hp) (D : Ends), Inv X pins σ H s → t D σ H → wpAny (model X.prog X.w) X.A (exec st X.env) (SP X pins D) X.xe s
def PSs (X : Cx) (st : List Stmt) (t : TS) : Prop :=
  ∀ (pins : List (Addr × Obj)) (s : Shared) (σ : St) (H : Hp) (D : Ends), Inv X pins σ H s → t D σ H → wpAny (model X.prog X.w) X.A (execs st X.env) (SP X pins D) X.xe s
theorem thn {α : Type} {t : Sem α} {Q Q' : α → Shared → Prop} {M : Model} {A : Around} {E : Value → Shared → Prop} {s : Shared} (h : wpAny M A t Q E s) (hQ : ∀ a s, Q a s → Q' a s) : wpAny M A t Q' E s := wpAny_mono h hQ fun _ _ x => x
end L2
namespace L2
open PySem PySem.Spec PyProof.Rows
section
variable {X : Cx}
theorem bin {a b : Expr} {ta tb : TE} (ha : PE X a ta) (hb : PE X b tb) {pins : List (Addr × Obj)} {s : Shared} {σ : St} {H : Hp} {R : V → V → Hp → Prop} (I : Inv X pins σ H s) (h : ta σ H fun x H1 => tb σ H1 fun y H2 => R x y H2)
    {α : Type} {Q : α → Shared → Prop} {f : Value → Value → Sem α}
    (hf : ∀ v u s2 x y H2, Inv X pins σ H2 s2 → RelV x v → RelV y u → R x y H2 → wpAny (model X.prog X.w) X.A (f v u) Q X.xe s2) :
    wpAny (model X.prog X.w) X.A (eval a X.env) (fun v s₁ => wpAny (model X.prog X.w) X.A (eval b X.env) (fun u s₂ => wpAny (model X.prog X.w) X.A (f v u) Q X.xe s₂) X.xe s₁) X.xe s := by
  refine thn (ha pins s σ H _ I h) fun v s1 ⟨x, H1, I1, r1, q1⟩ => ?_
  refine thn (hb pins s1 σ H1 _ I1 q1) fun u s2 ⟨y, H2, I2, r2, q2⟩ => ?_
  exact hf v u s2 x y H2 I2 r1 r2 q2
def tVar (i : Nat) : TE := fun σ H Q => ∃ v, σ[i]? = some (some v) ∧ Q v H
def tC (v : V) : TE := fun _ H Q => Q v H
theorem pe_var {i : Nat} {x : Str} {pos : Pos} (hN : X.N[i]? = some x) (hv : Vis X.env.scope x) (hd : (x == ("__debug__" : Str)) = false := by decide) (hcd : (x == ("__classdict__" : Str)) = false := by decide) : PE X (.Name x pos) (tVar i) := by
  intro pins s σ H Q I h
  obtain ⟨v, e, h⟩ := h
  obtain ⟨m, hn, hl⟩ := I.loc
  obtain ⟨u, r, l⟩ := hl i x v hN e hv
  have fin : EP X pins σ Q u s := ⟨v, H, I, r, h⟩
  rcases l with ⟨hk, hm⟩ | ⟨hk, c, hc, hcell⟩
  · exact wpAny_Name (wpAny_loadName_local I.ok.kind hk hn hm fin) hd
  · rcases hk with hk | hk
    · exact wpAny_Name (wpAny_loadName_cell I.ok.kind hk hc hcell fin) hd
    · exact wpAny_Name (wpAny_loadName_free I.ok.kind hk hc hcell fin hcd) hd
theorem pe_int {i j pos} : PE X (.Constant (.int i) j pos) (tC (.int i)) := fun _ _ _ H _ I h => wpAny_Constant_int ⟨.int i, H, I.tok _, ⟨_, rfl⟩, h⟩
theorem pe_bl {b j pos} : PE X (.Constant (.bool b) j pos) (tC (.bl b)) := fun _ _ _ H _ I h => Constant_bool ⟨.bl b, H, I, rfl, h⟩
theorem pe_non {j pos} : PE X (.Constant .none j pos) (tC .non) := fun _ _ _ H _ I h => Constant_none ⟨.non, H, I, rfl, h⟩
theorem pe_str {x j pos} : PE X (.Constant (.str x) j pos) (tC (.str x)) := fun _ _ _ H _ I h => Calls.Constant_str ⟨.str x, H, I.tok _, ⟨_, rfl⟩, h⟩
def Gl (X : Cx) (x : Str) : Prop := X.env.kindOf x = some .globalImplicit
theorem ld_glob {E : Value → Shared → Prop} {pins : List (Addr × Obj)} {s : Shared} {σ : St} {H : Hp} {x : Str} {u : Value} {pos : Pos} {Q : Value → Shared → Prop} (I : Inv X pins σ H s) (hg : Gl X x) (hm : X.mg x = some u) (h : Q u s)
    (hd : (x == ("__debug__" : Str)) = false := by decide) : wpAny (model X.prog X.w) X.A (eval (.Name x pos) X.env) Q E s :=
  Calls.Name_function_global I.ok.kind hg (Calls.loadGlobal_global (by rw [I.ok.glob]; exact I.mod.glob.keeps I.bk) hm h) hd
theorem ld_blt {E : Value → Shared → Prop} {pins : List (Addr × Obj)} {s : Shared} {σ : St} {H : Hp} {x : Str} {u : Value} {pos : Pos} {Q : Value → Shared → Prop} (I : Inv X pins σ H s) (hg : Gl X x) (hm : X.mg x = none) (hv : bootBuiltins x = some u) (h : Q u s)
    (hn : x ≠ "__name__" := by decide) (hd : (x == ("__debug__" : Str)) = false := by decide) : wpAny (model X.prog X.w) X.A (eval (.Name x pos) X.env) Q E s := by
  obtain ⟨mb, h1, h2⟩ := I.mod.blt
  exact Calls.Name_function_global I.ok.kind hg (Calls.loadGlobal_builtin (by rw [I.ok.glob]; exact I.mod.glob.keeps I.bk) hm (by rw [I.ok.blt]; exact h1.keeps I.bk) ((h2 x hn).trans hv) h) hd
theorem pe_glob {x : Str} {v : V} {u : Value} {pos : Pos} (hg : Gl X x) (hm : X.mg x = some u) (r : RelV v u) (hd : (x == ("__debug__" : Str)) = false := by decide) : PE X (.Name x pos) (tC v) :=
  fun _ _ _ H _ I h => ld_glob I hg hm ⟨v, H, I, r, h⟩ hd
theorem pe_bltn {x : Str} {v : V} {u : Value} {pos : Pos} (hg : Gl X x) (hm : X.mg x = none) (hv : bootBuiltins x = some u) (r : RelV v u) (hn : x ≠ "__name__" := by decide) (hd : (x == ("__debug__" : Str)) = false := by decide) : PE X (.Name x pos) (tC v) :=
  fun _ _ _ H _ I h => ld_blt I hg hm hv ⟨v, H, I, r, h⟩ hn hd
variable {a b : Expr} {ta tb : TE} {pos : Pos}
def PC (X : Cx) (op : CmpOp) (a b : Expr) (t : TE) : Prop :=
  ∀ (pins : List (Addr × Obj)) (s : Shared) (σ : St) (H : Hp) (Q : VK), Inv X pins σ H s → t σ H Q →
    wpAny (model X.prog X.w) X.A (eval a X.env) (fun v s₁ => wpAny (model X.prog X.w) X.A (eval b X.env) (fun u s₂ => wpAny (model X.prog X.w) X.A (compareOp op v u) (EP X pins σ Q) X.xe s₂) X.xe s₁) X.xe s
def tB (t : TE) : TT := fun σ H Q => t σ H fun x H1 => ∃ c, x = .bl c ∧ Q c H1
theorem pt_cmp {op : CmpOp} {t : TE} (h : PC X op a b t) (h1 : behindInMarks op b = false := by first | exact nobehind _ (by decide) (by decide) | rfl) : PT X (.Compare a [op] [b] pos) (tB t) := by
  intro pins s σ H Q I hw
  refine wpAny_isTrue_Compare1 (thn (h pins s σ H _ I hw) fun v s1 h1 => thn h1 fun u s2 h2 => thn h2 fun c s3 ⟨x, H1, I1, r1, q1⟩ => ?_) h1
  obtain ⟨d, rfl, q⟩ := q1
  cases r1
  exact wpAny_truthy_bool ⟨H1, I1, q⟩
theorem pt_val {e : Expr} {t : TE} (h : PE X e t) (he : ∀ whole, isTrue e X.env whole = (do let v ← whole; standAt e.pos; holding [v] (truthy v)) := by intro _; rfl) : PT X e (tB t) := by
  intro pins s σ H Q I hw
  refine isTrue_plain (thn (h pins s σ H _ I hw) fun v s1 ⟨x, H1, I1, r1, q1⟩ => ?_) (he _)
  obtain ⟨d, rfl, q⟩ := q1
  cases r1
  exact wpAny_truthy_bool ⟨H1, I1, q⟩
variable {tA tB' : TT} {rest : List Expr}
def tAnd (t u : TT) : TT := fun σ H Q => t σ H fun c H1 => if c = true then u σ H1 Q else Q false H1
def tOr (t u : TT) : TT := fun σ H Q => t σ H fun c H1 => if c = true then Q true H1 else u σ H1 Q
def tNot (t : TT) : TT := fun σ H Q => t σ H fun c H1 => Q (!c) H1
theorem pw_and1 (ha : PT X a tA) : PW X (.BoolOp .And [a] pos) tA := by
  intro wh pins s σ H Q I h
  refine isTrue_and (thn (ha pins s σ H Q I h) fun c s1 e => ?_)
  cases c with
  | true => exact isTrue_and_nil e
  | false => exact e
theorem pw_or1 (ha : PT X a tA) : PW X (.BoolOp .Or [a] pos) tA := by
  intro wh pins s σ H Q I h
  refine isTrue_or (thn (ha pins s σ H Q I h) fun c s1 e => ?_)
  cases c with
  | false => exact isTrue_or_nil e
  | true => exact e
theorem pw_and (ha : PT X a tA) (hb : PW X (.BoolOp .And (b :: rest) pos) tB') : PW X (.BoolOp .And (a :: b :: rest) pos) (tAnd tA tB') := by
  intro wh pins s σ H Q I h
  refine isTrue_and (thn (ha pins s σ H _ I h) fun c s1 ⟨H1, I1, q1⟩ => ?_)
  cases c with
  | true => exact hb wh pins s1 σ H1 Q I1 q1
  | false => exact ⟨H1, I1, q1⟩
theorem pw_or (ha : PT X a tA) (hb : PW X (.BoolOp .Or (b :: rest) pos) tB') : PW X (.BoolOp .Or (a :: b :: rest) pos) (tOr tA tB') := by
  intro wh pins s σ H Q I h
  refine isTrue_or (thn (ha pins s σ H _ I h) fun c s1 ⟨H1, I1, q1⟩ => ?_)
  cases c with
  | true => exact ⟨H1, I1, q1⟩
  | false => exact hb wh pins s1 σ H1 Q I1 q1
theorem pt_not (ha : PT X a tA) : PT X (.UnaryOp .Not a pos) (tNot tA) := by
  intro pins s σ H Q I h
  exact isTrue_not (ha pins s σ H (fun c H1 => Q (!c) H1) I h)
def tAndV (ta tb : TE) : TE := fun σ H Q => ta σ H fun x H1 => ∃ c, x = .bl c ∧ if c = true then tb σ H1 Q else Q (.bl false) H1
def tNotV (ta : TE) : TE := fun σ H Q => ta σ H fun x H1 => ∃ c, x = .bl c ∧ Q (.bl (!c)) H1
theorem pe_one {op} {t : TE} (h : PE X a t) : PE X (.BoolOp op [a] pos) t := fun pins s σ H Q I hw => BoolOp_one (h pins s σ H Q I hw)
theorem pe_and (ha : PE X a ta) (hb : PE X (.BoolOp .And (b :: rest) pos) tb) : PE X (.BoolOp .And (a :: b :: rest) pos) (tAndV ta tb) := by
  intro pins s σ H Q I h
  refine BoolOp_and (thn (ha pins s σ H _ I h) fun v s1 ⟨x, H1, I1, r1, q1⟩ => ?_)
  obtain ⟨c, rfl, q1⟩ := q1
  cases r1
  refine wpAny_truthy_bool ?_
  cases c with
  | true => exact hb pins s1 σ H1 Q I1 q1
  | false => exact ⟨.bl false, H1, I1, rfl, q1⟩
theorem pe_not (ha : PE X a ta) : PE X (.UnaryOp .Not a pos) (tNotV ta) := by
  intro pins s σ H Q I h
  refine UnaryOp_ (thn (ha pins s σ H _ I h) fun v s1 ⟨x, H1, I1, r1, q1⟩ => ?_)
  obtain ⟨c, rfl, q1⟩ := q1
  cases r1
  exact not_of (wpAny_truthy_bool ⟨.bl (!c), H1, I1, rfl, q1⟩)
end
end L2
namespace L2
open PySem PySem.Spec PyProof.Rows
def SqL (K : PySem.W.Frag) (H : Hp) (a : Addr) (xs : List V) : Prop :=
  Rd H a (.lst xs) ∨
    ∃ (o : Obj) (its : Array Value) (n : Nat), K.lookup a = some o ∧ o.cls = .type "list" ∧ o.dict = none ∧ o.data = .seq its n ∧ its.size ≤ sizeLine ∧ Vals xs its.toList
def SqT (K : PySem.W.Frag) (H : Hp) (a : Addr) (xs : List V) : Prop :=
  Rd H a (.tup xs) ∨
    ∃ (o : Obj) (its : Array Value) (n : Nat), K.lookup a = some o ∧ o.cls = .type "tuple" ∧ o.data = .seq its n ∧ its.size ≤ sizeLine ∧ Vals xs its.toList
def absV : Value → Option V
  | .none => some .non
  | .bool b => some (.bl b)
  | .int i _ => some (.int i)
  | .str x _ => some (.str x)
  | .bytes b _ => some (.byt b)
  | .float b _ => some (.flt b)
  | .ref a => some (.ref a)
  | .type n => some (.ty n)
  | _ => none
theorem RelV.abs {x : V} {u : Value} (r : RelV x u) : absV u = some x := by
  cases x with
  | non => cases r; rfl
  | bl _ => cases r; rfl
  | int _ => obtain ⟨t, rfl⟩ := r; rfl
  | str _ => obtain ⟨t, rfl⟩ := r; rfl
  | byt _ => obtain ⟨t, rfl⟩ := r; rfl
  | flt _ => obtain ⟨t, rfl⟩ := r; rfl
  | ref _ => cases r; rfl
  | ty _ => cases r; rfl
theorem RelV.inj {x y : V} {u : Value} (r : RelV x u) (q : RelV y u) : x = y := Option.some.inj (r.abs.symm.trans q.abs)
theorem Vals.inj : ∀ {xs ys : List V} {us : List Value}, Vals xs us → Vals ys us → xs = ys
  | _, _, _, .nil, .nil => rfl
  | _, _, _, .cons r t, .cons r' t' => by rw [r.inj r', Vals.inj t t']
section
variable {X : Cx} {pins : List (Addr × Obj)} {σ : St} {H : Hp} {s : Shared} {a : Addr} {xs ys : List V}
theorem SqL.of {K : PySem.W.Frag} (h : H a = some (.lst xs)) : SqL K H a xs := .inl (.inl h)
theorem SqT.of {K : PySem.W.Frag} (h : H a = some (.tup xs)) : SqT K H a xs := .inl (.inl h)
theorem Inv.list (I : Inv X pins σ H s) (h : SqL X.K H a xs) : ∃ its : List Value, Vals xs its ∧ PlainL s.heap a its.toArray ∧ xs.length ≤ sizeLine := by
  rcases h with h | ⟨o, its, n, hk, hc, hd, hs, hz, r⟩
  · obtain ⟨z, its, n, r, e⟩ := h.ok I.hok
    exact ⟨its, r, ⟨_, n, e, rfl, rfl, rfl⟩, z⟩
  · refine ⟨its.toList, r, ⟨o, n, I.kIn a o hk, hc, hd, by simpa using hs⟩, ?_⟩
    have e := r.length
    simp only [Array.length_toList] at e
    omega
theorem Inv.tuple (I : Inv X pins σ H s) (h : SqT X.K H a xs) : ∃ its : List Value, Vals xs its ∧ IsTup s.heap a its.toArray ∧ xs.length ≤ sizeLine := by
  rcases h with h | ⟨o, its, n, hk, hc, hs, hz, r⟩
  · obtain ⟨z, its, r, p⟩ := h.ok I.hok
    exact ⟨its, r, p, z⟩
  · refine ⟨its.toList, r, ⟨o, I.kIn a o hk, hc, n, by simpa using hs⟩, ?_⟩
    have e := r.length
    simp only [Array.length_toList] at e
    omega
theorem Inv.list_inj (I : Inv X pins σ H s) (h : SqL X.K H a xs) (h' : SqL X.K H a ys) : xs = ys := by
  obtain ⟨its, r, ⟨o, n, e, _, _, d⟩, _⟩ := I.list h
  obtain ⟨its', r', ⟨o', n', e', _, _, d'⟩, _⟩ := I.list h'
  rw [e] at e'; cases e'
  rw [d] at d'
  injection d' with d1 _
  have : its = its' := by simpa using congrArg Array.toList d1
  subst this
  exact r.inj r'
end
abbrev Cx.wish (X : Cx) (E : Value → Shared → Prop) : Cx := { X with xe := E }
abbrev Cx.nox (X : Cx) : Cx := X.wish fun _ _ => False
theorem Cx.Ok.wish {X : Cx} (ok : X.Ok) (E : Value → Shared → Prop) : (X.wish E).Ok :=
  ⟨ok.mod, ok.kind, ok.glob, ok.blt, ok.above, ok.inj, ok.has, ok.cab, ok.hd, ok.frames, ok.stk, ok.exf, ok.bs, ok.bsz, ok.noex, ok.exfs, ok.funs, ok.frf⟩
theorem Cx.Ok.unwish {X : Cx} {E : Value → Shared → Prop} (ok : (X.wish E).Ok) : X.Ok :=
  ⟨ok.mod, ok.kind, ok.glob, ok.blt, ok.above, ok.inj, ok.has, ok.cab, ok.hd, ok.frames, ok.stk, ok.exf, ok.bs, ok.bsz, ok.noex, ok.exfs, ok.funs, ok.frf⟩
section
variable {X : Cx} {pins : List (Addr × Obj)} {σ : St} {H : Hp} {s : Shared} {E : Value → Shared → Prop}
theorem Inv.wish (I : Inv X pins σ H s) (E : Value → Shared → Prop) : Inv (X.wish E) pins σ H s := ⟨I.ok.wish E, I.os, I.bare, I.base, I.loc, I.cell, I.free, I.freeC, I.pin, I.hok, I.len⟩
theorem Inv.unwish (I : Inv (X.wish E) pins σ H s) : Inv X pins σ H s := ⟨I.ok.unwish, I.os, I.bare, I.base, I.loc, I.cell, I.free, I.freeC, I.pin, I.hok, I.len⟩
theorem SP.unwish {D : Ends} {f : Flow} {s' : Shared} (h : SP (X.wish E) pins D f s') : SP X pins D f s' := by
  cases f with
  | next => obtain ⟨σ', H', I, q⟩ := h; exact ⟨σ', H', I.unwish, q⟩
  | brk => obtain ⟨σ', H', I, q⟩ := h; exact ⟨σ', H', I.unwish, q⟩
  | cont => obtain ⟨σ', H', I, q⟩ := h; exact ⟨σ', H', I.unwish, q⟩
  | ret u => obtain ⟨v, σ', H', I, r, q⟩ := h; exact ⟨v, σ', H', I.unwish, r, q⟩
theorem PSs.nox {st : List Stmt} {t : TS} (h : PSs X.nox st t) : PSs X st t := fun pins s σ H D I hw =>
  wpAny_mono (h pins s σ H D (I.wish _) hw) (fun _ _ q => q.unwish) fun _ _ z => False.elim z
end
section
variable {X : Cx} {st : Stmt} {rest : List Stmt} {t u : TS} {e : Expr} {te : TE} {pos : Pos}
def tNext : TS := fun D σ H => D.nx σ H
def tSeq (t u : TS) : TS := fun D σ H => t { D with nx := u D } σ H
theorem pss_nil : PSs X [] tNext := fun _ _ σ H _ I h => wpAny_execs_nil ⟨σ, H, I, h⟩
theorem pss_cons (h1 : PS X st t) (h2 : PSs X rest u) : PSs X (st :: rest) (tSeq t u) := by
  intro pins s σ H D I h
  refine wpAny_execs_cons (thn (h1 pins s σ H { D with nx := u D } I h) fun f s1 q => ?_)
  cases f with
  | next =>
    obtain ⟨σ', H', I', q⟩ := q
    exact h2 pins s1 σ' H' D I' q
  | ret v => exact q
  | brk => exact q
  | cont => exact q
theorem pss_one (h1 : PS X st t) : PSs X [st] t := by
  intro pins s σ H D I h
  refine wpAny_execs_cons (thn (h1 pins s σ H D I h) fun f s1 q => ?_)
  cases f with
  | next => exact wpAny_execs_nil q
  | ret v => exact q
  | brk => exact q
  | cont => exact q
theorem Inv.quiet {pins : List (Addr × Obj)} {σ : St} {H : Hp} {s : Shared} (I : Inv X pins σ H s) : interactive X.env = false := by simp [interactive, I.ok.kind]
def tDrop (te : TE) : TS := fun D σ H => te σ H fun _ H1 => D.nx σ H1
theorem ps_expr (he : PE X e te) (hs : swapsWith e none pos.line X.env = pure false := by rfl) : PS X (.Expr e pos) (tDrop te) := by
  intro pins s σ H D I h
  exact wpAny_Expr_any (thn (he pins s σ H _ I h) fun v s1 ⟨x, H1, I1, r1, q1⟩ => ⟨σ, H1, I1, q1⟩) I.quiet hs
def tRet (te : TE) : TS := fun D σ H => te σ H D.rt
theorem ps_ret (he : PE X e te) : PS X (.Return (some e) pos) (tRet te) := by
  intro pins s σ H D I h
  exact wpAny_Return_some (thn (he pins s σ H _ I h) fun v s1 ⟨x, H1, I1, r1, q1⟩ => ⟨x, σ, H1, I1, r1, q1⟩)
def tIfS (c : TT) (t u : TS) : TS := fun D σ H => c σ H fun b H1 => if b = true then t D σ H1 else u D σ H1
theorem ps_if {c : Expr} {a b : List Stmt} {tc : TT} (hc : PT X c tc) (ha : PSs X a t) (hb : PSs X b u) : PS X (.If c a b pos) (tIfS tc t u) := by
  intro pins s σ H D I h
  refine wpAny_If (thn (hc pins s σ H _ I h) fun d s1 ⟨H1, I1, q1⟩ => ?_)
  cases d with
  | true => exact ha pins s1 σ H1 D I1 q1
  | false => exact hb pins s1 σ H1 D I1 q1
def tNever : TS := fun _ _ _ => False
theorem ps_never : PS X st tNever := fun _ _ _ _ _ _ h => h.elim
theorem pss_never {sts : List Stmt} : PSs X sts tNever := fun _ _ _ _ _ _ h => h.elim
end
abbrev TG := V → St → Hp → (St → Hp → Prop) → Prop
abbrev TGs := List V → St → Hp → (St → Hp → Prop) → Prop
def PG (X : Cx) (target : Expr) (t : TG) : Prop :=
  ∀ (pins : List (Addr × Obj)) (s : Shared) (σ : St) (H : Hp) (v : V) (u : Value) (Q : St → Hp → Prop), Inv X pins σ H s → RelV v u → t v σ H Q →
    wpAny (model X.prog X.w) X.A (assign target X.env u) (fun _ s' => ∃ σ' H', Inv X pins σ' H' s' ∧ Q σ' H') X.xe s
def PGs (X : Cx) (ts : List Expr) (t : TGs) : Prop :=
  ∀ (pins : List (Addr × Obj)) (s : Shared) (σ : St) (H : Hp) (vs : List V) (us : List Value) (Q : St → Hp → Prop), Inv X pins σ H s → Vals vs us → t vs σ H Q →
    wpAny (model X.prog X.w) X.A (assignInOrder ((assignEach ts X.env).map (·.2)) us) (fun _ s' => ∃ σ' H', Inv X pins σ' H' s' ∧ Q σ' H') X.xe s
abbrev TSet := V → V → V → Hp → (Hp → Prop) → Prop
def PSet (X : Cx) (t : TSet) : Prop :=
  ∀ (pins : List (Addr × Obj)) (s : Shared) (σ : St) (H : Hp) (o i v : V) (ov iv u : Value) (Q : Hp → Prop), Inv X pins σ H s → RelV o ov → RelV i iv → RelV v u → t o i v H Q →
    wpAny (model X.prog X.w) X.A (setItem ov iv u) (fun _ s' => ∃ H', Inv X pins σ H' s' ∧ Q H') X.xe s
section
variable {X : Cx} {pos : Pos}
def gName (i : Nat) : TG := fun v σ H Q => Q (σ.set i (some v)) H
theorem pg_name {i : Nat} {x : Str} (hN : X.N.Nodup) (hi : X.N[i]? = some x) (hx : Loc X.env.scope x) (hf : X.fn x = true ∨ X.env.scope.names.lookup x = some .local := by first | exact .inl rfl | exact .inr rfl | assumption) : PG X (.Name x pos) (gName i) := by
  intro pins s σ H v u Q I r h
  exact wpAny_assign_Name (store_ok I hN hi hx r (fun s' I' => ⟨_, H, I', h⟩) hf)
def gNil : TGs := fun vs σ H Q => vs = [] ∧ Q σ H
def gCons (t : TG) (u : TGs) : TGs := fun vs σ H Q => ∃ v r, vs = v :: r ∧ t v σ H fun σ' H' => u r σ' H' Q
theorem pgs_nil : PGs X [] gNil := by
  intro pins s σ H vs us Q I r h
  obtain ⟨e, h⟩ := h
  subst e
  cases r
  exact assignInOrder_nil ⟨σ, H, I, h⟩
theorem pgs_cons {e : Expr} {es : List Expr} {t : TG} {u : TGs} (h1 : PG X e t) (h2 : PGs X es u)
    (hs : (assignEach (e :: es) X.env).map (·.2) = assign e X.env :: (assignEach es X.env).map (·.2) := by rfl) : PGs X (e :: es) (gCons t u) := by
  intro pins s σ H vs us Q I r h
  obtain ⟨v, vr, e1, h⟩ := h
  subst e1
  cases r with
  | cons r rr =>
    rw [hs]
    refine assignInOrder_cons (thn (h1 pins s σ H _ _ _ I r h) fun _ s1 ⟨σ1, H1, I1, q1⟩ => ?_)
    exact h2 pins s1 σ1 H1 _ _ Q I1 rr q1
def gTup (K : PySem.W.Frag) (n : Nat) (t : TGs) : TG := fun v σ H Q => ∃ a xs, v = .ref a ∧ SqT K H a xs ∧ xs.length = n ∧ t xs σ H Q
theorem pg_tup {es : List Expr} {k : Nat} {t : TGs} {n : Nat} (hc : X.calm = true) (h : PGs X es t)
    (hn : (assignEach es X.env).length = n := by rfl) (hst : (assignEach es X.env).findIdx? (·.1) = none := by rfl) : PG X (.Tuple es k pos) (gTup X.K n t) := by
  intro pins s σ H v u Q I r hw
  obtain ⟨a, xs, e1, hq, hl, hw⟩ := hw
  subst e1
  cases r
  obtain ⟨its, rv, ht, hz⟩ := I.tuple hq
  refine assign_Tuple_tuple (I.ok.hd hc) ht (by simp [hn, ← hl, rv.length]) hst fun h' hx => ?_
  have I1 : Inv X pins σ H { s with heap := h' } := I.kept (t' := s.toks) fun b o e => hx b o (Nat.ne_of_lt (Heap.lt_size e)) e
  exact h pins _ σ H xs _ Q I1 (by simpa using rv) hw
def gSub (to ti : TE) (t : TSet) : TG := fun v σ H Q => to σ H fun o H1 => ti σ H1 fun i H2 => t o i v H2 fun H3 => Q σ H3
theorem pg_sub {o i : Expr} {to ti : TE} {t : TSet} (ho : PE X o to) (hi : PE X i ti) (hs : PSet X t)
    (ha : ∀ v, assign (.Subscript o i pos) X.env v = (do
      let ov ← holding [v] (eval o X.env)
      let iv ← holding [v, ov] (eval i X.env)
      standAt pos
      holding [v, ov, iv] (setItem ov iv v)
      release [v, ov, iv] []) := by intro _; rfl) : PG X (.Subscript o i pos) (gSub to ti t) := by
  intro pins s σ H v u Q I r h
  rw [ha]
  refine wpAny_bind (wpAny_holding (thn (ho pins s σ H _ I h) fun ov s1 ⟨x, H1, I1, r1, q1⟩ => ?_))
  refine wpAny_bind (wpAny_holding (thn (hi pins s1 σ H1 _ I1 q1) fun iv s2 ⟨y, H2, I2, r2, q2⟩ => ?_))
  refine wpAny_bind (wpAny_standAt (wpAny_bind (wpAny_holding (thn (hs pins s2 σ H2 x y v ov iv u _ I2 r1 r2 r q2) fun _ s3 ⟨H3, I3, q3⟩ => ?_))))
  exact wpAny_release ⟨σ, H3, I3, q3⟩
def tAsg (te : TE) (g : TG) : TS := fun D σ H => te σ H fun x H1 => g x σ H1 D.nx
theorem ps_asg {tg e : Expr} {te : TE} {g : TG} (he : PE X e te) (hg : PG X tg g) (hs : swapsWithSole [tg] e pos.line X.env = pure false := by rfl) (hw : swappedStores [tg] e X.env = pure none := by rfl)
    (h1 : (assignEach [tg] X.env).map (·.2) = [assign tg X.env] := by rfl) : PS X (.Assign [tg] e pos) (tAsg te g) := by
  intro pins s σ H D I h
  refine wpAny_Assign_stores (thn (he pins s σ H _ I h) fun v s1 ⟨x, H1, I1, r1, q1⟩ => ?_) hs hw
  rw [h1]
  exact thn (hg pins s1 σ H1 x v _ I1 r1 q1) fun _ s2 q => q
theorem ps_set {i : Nat} {x : Str} {e : Expr} {te : TE} {pos' : Pos} (hN : X.N.Nodup) (hi : X.N[i]? = some x) (hx : Loc X.env.scope x) (he : PE X e te) (hs : swapsWith e (some (.Name x pos')) pos.line X.env = pure false := by rfl) (hf : X.fn x = true ∨ X.env.scope.names.lookup x = some .local := by first | exact .inl rfl | exact .inr rfl | assumption) :
    PS X (.Assign [.Name x pos'] e pos) (tAsg te (gName i)) := by
  intro pins s σ H D I h
  refine wpAny_Assign_Name (thn (he pins s σ H _ I h) fun v s1 ⟨y, H1, I1, r1, q1⟩ => ?_) hs
  exact store_ok I1 hN hi hx r1 (fun s2 I2 => ⟨_, H1, I2, q1⟩) hf
end
section
variable {X : Cx} {pos : Pos}
def tWhile (c : TT) (tb : TS) : TS := fun D σ H => ∃ W : Nat → St → Hp → Prop, (∃ m, W m σ H) ∧ ∀ m σ H, W m σ H →
  c σ H fun b H1 => if b = true then ∃ N : St → Hp → Prop, (∀ σ' H', N σ' H' → ∃ m', m' < m ∧ W m' σ' H') ∧ tb { D with nx := N, ct := N, bk := D.nx } σ H1 else D.nx σ H1
theorem ps_while {c : Expr} {body : List Stmt} {tc : TT} {tb : TS} (hp : PassesOwn (model X.prog X.w) X.A X.env X.xe) (hc : PT X c tc) (hb : PSs X body tb) : PS X (.While c body [] pos) (tWhile tc tb) := by
  intro pins s σ H D I h
  obtain ⟨W, ⟨m0, w0⟩, turn⟩ := h
  refine wpAny_While (codeAny_whileLoop (fun n s' => ∃ σ' H', Inv X pins σ' H' s' ∧ W n σ' H') ?_ m0 ⟨σ, H, I, w0⟩)
  rintro n s1 ⟨σ1, H1, I1, w1⟩
  refine wpAny_passesOwn hp (thn (hc pins s1 σ1 H1 _ I1 (turn n σ1 H1 w1)) fun b s2 ⟨H2, I2, q2⟩ => ?_)
  cases b with
  | true =>
    obtain ⟨N, hN, q2⟩ := q2
    rw [if_pos rfl]
    refine wpAny_passesOwn hp (thn (hb pins s2 σ1 H2 _ I2 q2) fun f s3 q3 => ?_)
    cases f with
    | next =>
      obtain ⟨σ3, H3, I3, n3⟩ := q3
      obtain ⟨m', hm, w3⟩ := hN σ3 H3 n3
      exact ⟨m', hm, σ3, H3, I3, w3⟩
    | cont =>
      obtain ⟨σ3, H3, I3, n3⟩ := q3
      obtain ⟨m', hm, w3⟩ := hN σ3 H3 n3
      exact ⟨m', hm, σ3, H3, I3, w3⟩
    | brk => exact q3
    | ret v => exact q3
  | false =>
    rw [if_neg Bool.false_ne_true]
    exact wpAny_execs_nil ⟨σ1, H2, I2, q2⟩
end
structure It where
  go : Nat → Hp → Prop
  yld : Nat → Hp → V → Hp → Prop
  stop : Nat → Hp → Prop
def FpOk (X : Cx) (pins : List (Addr × Obj)) (H : Hp) (b : Addr) : Prop :=
  H b = none ∧ b ≠ X.env.locals ∧ b ∉ X.fs ∧ (b ∈ X.ex ∨ X.s₀.heap.objs.size ≤ b) ∧ (∀ x c, X.env.cells.lookup x = some c → c ≠ b) ∧ ∀ p ∈ X.pn ++ pins, p.1 ≠ b
theorem Inv.fpOk {X : Cx} {pins : List (Addr × Obj)} {σ : St} {H H' : Hp} {s : Shared} {b : Addr} (I : Inv X pins σ H s) (hb : s.heap.objs.size ≤ b) (hn : H' b = none) : FpOk X pins H' b := by
  refine ⟨hn, Nat.ne_of_gt (Nat.lt_of_lt_of_le I.lt hb), I.nofs hb, .inr (Nat.le_trans I.sz hb), fun x c e z => ?_, fun p hp z => ?_⟩
  · obtain ⟨v, q⟩ := I.cell x c e
    exact absurd (Nat.lt_of_lt_of_le q.lt (by rw [z]; exact hb)) (Nat.lt_irrefl _)
  · exact absurd (Nat.lt_of_lt_of_le (Heap.lt_size (I.pin p hp).1) (by rw [z]; exact hb)) (Nat.lt_irrefl _)
structure Turn (P : Program) (w : World) (K : PySem.W.Frag) (tg : Expr) (J : It) (fp : List Addr) (it : Addr) (tn : Nat → Heap → Prop) : Prop where
  mem : it ∈ fp
  obj : ∀ i h, tn i h → ∀ b ∈ fp, ∃ o, h.get? b = some o ∧ ∀ v, o.data ≠ .cell v
  keep : ∀ i h h', tn i h → (∀ b ∈ fp, ∀ o, h.get? b = some o → h'.get? b = some o) → tn i h'
  item : ∀ (X : Cx), X.prog = P → X.w = w → X.K = K → X.calm = true → ∀ (i : Nat) (pins : List (Addr × Obj)) (s : Shared) (σ : St) (H : Hp) (E : Value → Shared → Prop), Inv X pins σ H s → (∀ b ∈ fp, FpOk X pins H b) → tn i s.heap → J.go i H →
    wpAny (model P w) X.A (pyNext (.ref it)) (fun r s1 => ∃ u, r = some u ∧
      wpAny (model P w) X.A (letOwnedTupleGo tg (.ref it) u) (fun _ s2 => ∃ x H', Inv X pins σ H' s2 ∧ RelV x u ∧ J.yld i H x H' ∧ tn (i + 1) s2.heap ∧ ∀ b ∈ fp, H' b = none) E s1) E s
  done : ∀ (X : Cx), X.prog = P → X.w = w → X.K = K → X.calm = true → ∀ (i : Nat) (pins : List (Addr × Obj)) (s : Shared) (σ : St) (H : Hp) (E : Value → Shared → Prop), Inv X pins σ H s → (∀ b ∈ fp, FpOk X pins H b) → tn i s.heap → J.stop i H →
    wpAny (model P w) X.A (pyNext (.ref it)) (fun r s1 => r = none ∧ Inv X pins σ H s1) E s
  self : ∀ (A : Around) (i : Nat) (s : Shared) (Q : Value → Shared → Prop) (E : Value → Shared → Prop), tn i s.heap → Q (.ref it) s → wpAny (model P w) A (pyIter (.ref it)) Q E s
abbrev TI := St → Hp → (It → Hp → Prop) → Prop
def PIE (X : Cx) (pins : List (Addr × Obj)) (σ : St) (tg : Expr) (R : It → Hp → Prop) (itv : Value) (s2 : Shared) : Prop :=
  ∃ (it : Addr) (fp : List Addr) (tn : Nat → Heap → Prop) (J : It) (H' : Hp), itv = .ref it ∧ Inv X pins σ H' s2 ∧ Turn X.prog X.w X.K tg J fp it tn ∧ tn 0 s2.heap ∧ (∀ b ∈ fp, FpOk X pins H' b) ∧ R J H'
def PI (X : Cx) (tg iter : Expr) (wi : TI) : Prop :=
  ∀ (pins : List (Addr × Obj)) (s : Shared) (σ : St) (H : Hp) (R : It → Hp → Prop), Inv X pins σ H s → wi σ H R →
    wpAny (model X.prog X.w) X.A (eval iter X.env) (fun v s1 => wpAny (model X.prog X.w) X.A (pyIter v) (PIE X pins σ tg R) X.xe s1) X.xe s
theorem go_of {M : Model} {A : Around} {E : Value → Shared → Prop} {s : Shared} {tg : Expr} {it : Addr} {u : Value} {o : Obj} {n : String} {vs : Array Value} {Q : Unit → Shared → Prop} (ho : s.heap.get? it = some o) (hc : o.cls = .type n) (hd : o.data = .fields vs)
    (hn : ["enumerate", "zip", "dict_itemiterator", "dict_reverseitemiterator", "odict_iterator", "itertools.zip_longest", "itertools.pairwise"].contains n = false) (hQ : Q () s) : wpAny M A (letOwnedTupleGo tg (.ref it) u) Q E s := by
  unfold letOwnedTupleGo
  cases tg <;> first
    | exact wpAny_pure hQ
    | (cases u <;> first
        | exact wpAny_pure hQ
        | (refine wpAny_bind (wpAny_load ho ?_)
           rw [hc, hd]
           show wpAny M A (if (["enumerate", "zip", "dict_itemiterator", "dict_reverseitemiterator", "odict_iterator", "itertools.zip_longest", "itertools.pairwise"].contains n && vs[0]? == some (rawInt _)) = true then _ else _) Q E s
           rw [if_neg (by intro h; rw [hn, Bool.false_and] at h; cases h)]
           exact wpAny_pure hQ))
def Itl (K : PySem.W.Frag) (a : Addr) : It :=
  ⟨fun i H => ∃ xs x, SqL K H a xs ∧ xs[i]? = some x, fun i H x H' => H' = H ∧ ∀ xs, SqL K H a xs → xs[i]? = some x, fun i H => ∃ xs, SqL K H a xs ∧ xs.length ≤ i⟩
def Itr (lo : Int) (n : Nat) : It := ⟨fun i _ => i < n, fun i H x H' => H' = H ∧ x = .int (lo + i), fun i _ => n ≤ i⟩
theorem turn_list {P : Program} {w : World} {K : PySem.W.Frag} {tg : Expr} (a it : Addr) : Turn P w K tg (Itl K a) [it] it (fun i h => h.IsListIter it a i) where
  mem := by simp
  obj := fun i h st b hb => by
    have e : b = it := by simpa using hb
    subst e
    obtain ⟨o, e, c, d⟩ := st
    exact ⟨o, e, fun v z => by rw [d] at z; cases z⟩
  keep := fun i h h' st k => st.at fun o e => k it (by simp) o e
  item := by
    intro X hP hw hK hc i pins s σ H E I hf st hg
    subst hP hw hK
    obtain ⟨xs, x, hq, hx⟩ := hg
    obtain ⟨its, rv, p, hz⟩ := I.list hq
    obtain ⟨u, hu, ru⟩ := rv.get hx
    obtain ⟨f0, f1, f2, f3, f4, f5⟩ := hf it (by simp)
    refine wpAny_pyNext_list_item st p.isList (x := u) (by simpa using hu) fun h' st' sb => ?_
    have I1 : Inv X pins σ H { s with heap := h' } := I.turned (t' := s.toks) (fun b o hb e => (sb.2 b hb).trans e) f0 f1 f3 f4 f5
    obtain ⟨o, e, c, d⟩ := id st'
    exact ⟨u, rfl, go_of (s := { s with heap := h' }) e c d (by decide) ⟨x, H, I1, ru, ⟨rfl, fun ys hy => by rw [I.list_inj hy hq]; exact hx⟩, st', fun b hb => (hf b hb).1⟩⟩
  done := by
    intro X hP hw hK hc i pins s σ H E I hf st hg
    subst hP hw hK
    obtain ⟨xs, hq, hx⟩ := hg
    obtain ⟨its, rv, p, hz⟩ := I.list hq
    obtain ⟨f0, f1, f2, f3, f4, f5⟩ := hf it (by simp)
    have hl := rv.length
    exact wpAny_pyNext_list_end (I.ok.hd hc) st p.isList (by simp; omega) fun h' eb => ⟨rfl, I.turned (t' := s.toks) (fun b o hb e => eb b o hb e) f0 f1 f3 f4 f5⟩
  self := fun _ _ _ _ _ st h => wpAny_pyIter_listiter st h
theorem turn_range {P : Program} {w : World} {K : PySem.W.Frag} {tg : Expr} (it : Addr) (lo : Int) (n : Nat) : Turn P w K tg (Itr lo n) [it] it (fun i h => IsRangeIter h it (lo + (i : Nat) * 1) ((n : Int) - (i : Nat)) 1) where
  mem := by simp
  obj := fun i h st b hb => by
    have e : b = it := by simpa using hb
    subst e
    exact ⟨_, st, fun v z => by
      have z' : Data.fields _ = Data.cell v := z
      cases z'⟩
  keep := fun i h h' st k => k it (by simp) _ st
  item := by
    intro X hP hw hK hc i pins s σ H E I hf st hg
    subst hP hw hK
    obtain ⟨f0, f1, f2, f3, f4, f5⟩ := hf it (by simp)
    have W := Walks.range (prog := X.prog) (w := X.w) (I.ok.hd hc) it lo 1 n
    refine W.item i s _ _ hg st fun v h' tk hv st' kk => ?_
    obtain ⟨t, rfl⟩ := hv
    have I1 : Inv X pins σ H { s with heap := h', toks := tk } := I.turned (fun b o hb e => kk b o (by simpa using hb) e) f0 f1 f3 f4 f5
    refine ⟨_, rfl, go_of (s := { s with heap := h', toks := tk }) (n := "range_iterator") st' rfl rfl (by decide) ⟨.int (lo + i), H, I1, ⟨t, ?_⟩, ⟨rfl, rfl⟩, st', fun b hb => (hf b hb).1⟩⟩
    rw [Int.mul_one]
  done := by
    intro X hP hw hK hc i pins s σ H E I hf st hg
    subst hP hw hK
    obtain ⟨f0, f1, f2, f3, f4, f5⟩ := hf it (by simp)
    exact wpAny_pyNext_range_end (I.ok.hd hc) st (by have : n ≤ i := hg; omega) fun h' eb => ⟨rfl, I.turned (t' := s.toks) (fun b o hb e => eb b o hb e) f0 f1 f3 f4 f5⟩
  self := fun _ _ _ _ _ st h => wpAny_pyIter_rangeiter st h
end L2
namespace L2
open PySem PySem.Spec PyProof.Rows
section
variable {X : Cx} {tg : Expr}
def iList (K : PySem.W.Frag) (tl : TE) : TI := fun σ H R => tl σ H fun x H1 => ∃ a, x = .ref a ∧ (∃ xs, SqL K H1 a xs) ∧ R (Itl K a) H1
theorem pi_list {l : Expr} {tl : TE} (hl : PE X l tl) : PI X tg l (iList X.K tl) := by
  intro pins s σ H R I h
  refine thn (hl pins s σ H _ I h) fun v s1 ⟨x, H1, I1, r1, q1⟩ => ?_
  obtain ⟨a, e, ⟨xs, hq⟩, q⟩ := q1
  subst e
  cases r1
  obtain ⟨its, rv, p, hz⟩ := I1.list hq
  refine wpAny_pyIter_list p.isList ?_
  refine ⟨s1.heap.objs.size, [s1.heap.objs.size], _, _, H1, rfl, I1.kept (t' := s1.toks) fun b o e => Heap.get?_push_of_some _ e, turn_list a _, ⟨_, Heap.get?_push_size _ rfl, rfl, rfl⟩, fun b hb => ?_, q⟩
  have e : b = s1.heap.objs.size := by simpa using hb
  subst e
  exact I1.fpOk (Nat.le_refl _) (I1.hok.fresh (Nat.le_refl _))
theorem range_it {pins : List (Addr × Obj)} {σ : St} {H : Hp} {s : Shared} {R : It → Hp → Prop} {E : Value → Shared → Prop} {lo hi : Int} {t u v : Tok} {tk : Nat} (I : Inv X pins σ H s) (h1 : -(2 ^ 62) ≤ lo) (h2 : lo < 2 ^ 62) (h3 : -(2 ^ 62) ≤ hi) (h4 : hi < 2 ^ 62)
    (q : R (Itr lo (hi - lo).toNat) H) : wpAny (model X.prog X.w) X.A (pyIter (.ref s.heap.objs.size)) (PIE X pins σ tg R) E { s with heap := s.heap.push { cls := .type "range", data := .fields #[.int lo t, .int hi u, .int 1 v] }, toks := tk } := by
  refine wpAny_pyIter_range (IsRange.new ..) (small_one h1 h2 h3 h4) ?_
  have I1 : Inv X pins σ H { s with heap := s.heap.push { cls := .type "range", data := .fields #[.int lo t, .int hi u, .int 1 v] }, toks := tk } := I.kept fun b o e => Heap.get?_push_of_some _ e
  refine ⟨(s.heap.push { cls := .type "range", data := .fields #[.int lo t, .int hi u, .int 1 v] }).objs.size, [(s.heap.push { cls := .type "range", data := .fields #[.int lo t, .int hi u, .int 1 v] }).objs.size], _, _, H, rfl,
    I1.kept (t' := tk) fun b o e => Heap.get?_push_of_some _ e, turn_range _ lo (hi - lo).toNat, ?_, fun b hb => ?_, q⟩
  · have e1 : lo + ((0 : Nat) : Int) * 1 = lo := by simp
    have e2 : (((hi - lo).toNat : Nat) : Int) - ((0 : Nat) : Int) = Builtin.Range.rangeSize lo hi 1 := by rw [rangeSize_one]; split <;> omega
    show IsRangeIter _ _ (lo + ((0 : Nat) : Int) * 1) ((((hi - lo).toNat : Nat) : Int) - ((0 : Nat) : Int)) 1
    rw [e1, e2]
    exact Heap.get?_push_size _ rfl
  · have e : b = (s.heap.push { cls := .type "range", data := .fields #[.int lo t, .int hi u, .int 1 v] }).objs.size := by simpa using hb
    subst e
    exact I1.fpOk (Nat.le_refl _) (I1.hok.fresh (Nat.le_refl _))
def iRng1 (ta : TA) : TI := fun σ H R => ta σ H fun vs H1 => ∃ j : Int, vs = [.int j] ∧ -(2 ^ 62) ≤ j ∧ j < 2 ^ 62 ∧ R (Itr 0 j.toNat) H1
theorem pi_range1 {a : Expr} {ta : TA} {p pos : Pos} (hg : Gl X "range") (hm : X.mg "range" = none) (ha : PA X [a] ta) (hs : starEach [a] X.env = [(false, eval a X.env)] := by rfl) : PI X tg (.Call (.Name "range" p) [a] [] pos) (iRng1 ta) := by
  intro pins s σ H R I h
  refine Call_ (ld_blt I hg hm boot_range (PyProof.Rows.callWith_type1 (thn (ha pos pins s σ H _ I h) fun us s1 ⟨vs, H1, I1, r1, q1⟩ => ?_) hs rfl))
  obtain ⟨j, e, q1, q2, q⟩ := q1
  subst e
  cases r1 with
  | cons r rr =>
    cases rr
    obtain ⟨t, rfl⟩ := r
    exact call_range_1 (range_it I1 (by omega) (by omega) q1 q2 (by simpa using q))
def tFor (wi : TI) (g : TG) (tb : TS) : TS := fun D σ H => wi σ H fun J H1 => ∃ W : Nat → Nat → St → Hp → Prop, (∃ m, W 0 m σ H1) ∧ ∀ i m σ H, W i m σ H →
  (J.stop i H ∧ D.nx σ H) ∨ (J.go i H ∧ ∃ N : St → Hp → Prop, (∀ σ' H', N σ' H' → ∃ m', m' < m ∧ W (i + 1) m' σ' H') ∧ ∀ x H', J.yld i H x H' → g x σ H' fun σ2 H2 => tb { D with nx := N, ct := N, bk := D.nx } σ2 H2)
def pinsAt (fp : List Addr) (h : Heap) : List (Addr × Obj) := fp.filterMap fun b => (h.get? b).map fun o => (b, o)
theorem mem_pinsAt {fp : List Addr} {h : Heap} {b : Addr} {o : Obj} (hb : b ∈ fp) (e : h.get? b = some o) : (b, o) ∈ pinsAt fp h := List.mem_filterMap.mpr ⟨b, hb, by rw [e]; rfl⟩
theorem of_pinsAt {fp : List Addr} {h : Heap} {p : Addr × Obj} (hp : p ∈ pinsAt fp h) : p.1 ∈ fp ∧ h.get? p.1 = some p.2 := by
  obtain ⟨b, hb, e⟩ := List.mem_filterMap.mp hp
  cases q : h.get? b with
  | none => rw [q] at e; cases e
  | some o =>
    rw [q] at e
    have e' : (b, o) = p := Option.some.inj e
    subst e'
    exact ⟨hb, q⟩
theorem Inv.pinned {pins : List (Addr × Obj)} {σ : St} {H : Hp} {s : Shared} {fp : List Addr} (I : Inv X pins σ H s) (hf : ∀ b ∈ fp, FpOk X pins H b) (ho : ∀ b ∈ fp, ∃ o, s.heap.get? b = some o ∧ ∀ v, o.data ≠ .cell v) : Inv X (pins ++ pinsAt fp s.heap) σ H s :=
  I.pins_of fun p hp => (List.mem_append.mp hp).elim (fun z => I.pin p (List.mem_append_right _ z)) fun z => by
    obtain ⟨hb, e⟩ := of_pinsAt z
    obtain ⟨f0, f1, f2, _⟩ := hf p.1 hb
    obtain ⟨o, e', d⟩ := ho p.1 hb
    rw [e] at e'; cases e'
    exact ⟨e, f0, f1, f2, d⟩
theorem Inv.unpinned {pins pl : List (Addr × Obj)} {σ : St} {H : Hp} {s : Shared} (I : Inv X (pins ++ pl) σ H s) : Inv X pins σ H s := I.pins_of fun p hp => I.pin p (List.mem_append_right _ (List.mem_append_left _ hp))
theorem ps_for {iter : Expr} {body : List Stmt} {wi : TI} {g : TG} {tb : TS} {pos : Pos} (hp : PassesOwn (model X.prog X.w) X.A X.env X.xe) (hc : X.calm = true) (hi : PI X tg iter wi) (hg : PG X tg g) (hb : PSs X body tb)
    (hs : ∀ x, foldedSetIterable iter X.env x = pure x := by intro _; rfl) : PS X (.For tg iter body [] pos) (tFor wi g tb) := by
  intro pins s σ H D I h
  refine wpAny_For (thn (hi pins s σ H _ I h) fun v s1 h1 => thn h1 fun itv s2 h2 => ?_) hs
  obtain ⟨it, fp, tn, J, H2, e, I2, T, st2, f2, W, ⟨m0, w0⟩, turn⟩ := h2
  subst e
  have stat : ∀ {H' : Hp}, (∀ b ∈ fp, H' b = none) → ∀ b ∈ fp, FpOk X pins H' b := fun hn b hb => ⟨hn b hb, (f2 b hb).2⟩
  refine codeAny_forLoop_any (fun n s' => ∃ i σ' H', Inv X pins σ' H' s' ∧ tn i s'.heap ∧ (∀ b ∈ fp, H' b = none) ∧ W i n σ' H') ?_ m0 ⟨0, σ, H2, I2, st2, fun b hb => (f2 b hb).1, w0⟩
  rintro n s3 ⟨i, σ3, H3, I3, st3, fr3, w3⟩
  rcases turn i n σ3 H3 w3 with ⟨stop, qn⟩ | ⟨go, N, hN, step⟩
  · refine wpAny_passesOwn hp (thn (T.done X rfl rfl rfl hc i pins s3 σ3 H3 X.xe I3 (stat fr3) st3 stop) fun r s4 ⟨hr, I4⟩ => ?_)
    subst hr
    exact wpAny_execs_nil ⟨σ3, H3, I4, qn⟩
  · refine wpAny_passesOwn hp (thn (T.item X rfl rfl rfl hc i pins s3 σ3 H3 X.xe I3 (stat fr3) st3 go) fun r s4 ⟨u, hr, h4⟩ => ?_)
    subst hr
    refine wpAny_passesOwn hp (thn h4 fun _ s5 ⟨x, H5, I5, r5, y5, st5, fr5⟩ => ?_)
    have I5' := I5.pinned (stat fr5) (T.obj _ _ st5)
    refine wpAny_passesOwn hp (thn (hg _ s5 σ3 H5 x u _ I5' r5 (step x H5 y5)) fun _ s6 ⟨σ6, H6, I6, q6⟩ => ?_)
    refine wpAny_passesOwn hp (thn (hb _ s6 σ6 H6 _ I6 q6) fun f s7 q7 => ?_)
    have again : ∀ {σ7 : St} {H7 : Hp}, Inv X (pins ++ pinsAt fp s5.heap) σ7 H7 s7 → N σ7 H7 → ∃ m, m < n ∧ ∃ i σ' H', Inv X pins σ' H' s7 ∧ tn i s7.heap ∧ (∀ b ∈ fp, H' b = none) ∧ W i m σ' H' := fun {σ7 H7} I7 n7 => by
      obtain ⟨m', hm, w7⟩ := hN σ7 H7 n7
      refine ⟨m', hm, i + 1, σ7, H7, I7.unpinned, T.keep _ _ _ st5 fun b hb o e => (I7.pin (b, o) (List.mem_append_right _ (List.mem_append_right _ (mem_pinsAt hb e)))).1, fun b hb => ?_, w7⟩
      obtain ⟨o, e, d⟩ := T.obj _ _ st5 b hb
      exact (I7.pin (b, o) (List.mem_append_right _ (List.mem_append_right _ (mem_pinsAt hb e)))).2.1
    cases f with
    | next => obtain ⟨σ7, H7, I7, n7⟩ := q7; exact again I7 n7
    | cont => obtain ⟨σ7, H7, I7, n7⟩ := q7; exact again I7 n7
    | brk => obtain ⟨σ7, H7, I7, q7⟩ := q7; exact ⟨σ7, H7, I7.unpinned, q7⟩
    | ret v => obtain ⟨x7, σ7, H7, I7, r7, q7⟩ := q7; exact ⟨x7, σ7, H7, I7.unpinned, r7, q7⟩
end
theorem for_list {K : PySem.W.Frag} {a : Addr} {xs : List V} {g : TG} {tb : TS} {D : Ends} {σ : St} {H : Hp} (Pv : Nat → St → Hp → Prop) (h0 : Pv 0 σ H) (hl : ∀ i σ H, i ≤ xs.length → Pv i σ H → SqL K H a xs)
    (hs : ∀ i x σ H, xs[i]? = some x → Pv i σ H → g x σ H fun σ2 H2 => tb { D with nx := Pv (i + 1), ct := Pv (i + 1), bk := D.nx } σ2 H2) (hd : ∀ σ H, Pv xs.length σ H → D.nx σ H) :
    ∃ W : Nat → Nat → St → Hp → Prop, (∃ m, W 0 m σ H) ∧ ∀ i m σ H, W i m σ H →
      ((Itl K a).stop i H ∧ D.nx σ H) ∨ ((Itl K a).go i H ∧ ∃ N : St → Hp → Prop, (∀ σ' H', N σ' H' → ∃ m', m' < m ∧ W (i + 1) m' σ' H') ∧ ∀ x H', (Itl K a).yld i H x H' → g x σ H' fun σ2 H2 => tb { D with nx := N, ct := N, bk := D.nx } σ2 H2) := by
  refine ⟨fun i m σ H => m = xs.length - i ∧ i ≤ xs.length ∧ Pv i σ H, ⟨xs.length, by simp, Nat.zero_le _, h0⟩, ?_⟩
  rintro i m σ H ⟨rfl, hi, p⟩
  have q := hl i σ H hi p
  by_cases hlt : i < xs.length
  · refine .inr ⟨⟨xs, xs[i], q, by simp [hlt]⟩, Pv (i + 1), fun σ' H' p' => ⟨xs.length - (i + 1), by omega, rfl, hlt, p'⟩, fun x H' y => ?_⟩
    obtain ⟨e, y⟩ := y
    subst e
    exact hs i x σ _ (y xs q) p
  · have e : i = xs.length := by omega
    subst e
    exact .inl ⟨⟨xs, q, Nat.le_refl _⟩, hd σ H p⟩
theorem for_range {lo : Int} {n : Nat} {g : TG} {tb : TS} {D : Ends} {σ : St} {H : Hp} (Pv : Nat → St → Hp → Prop) (h0 : Pv 0 σ H)
    (hs : ∀ i σ H, i < n → Pv i σ H → g (.int (lo + i)) σ H fun σ2 H2 => tb { D with nx := Pv (i + 1), ct := Pv (i + 1), bk := D.nx } σ2 H2) (hd : ∀ σ H, Pv n σ H → D.nx σ H) :
    ∃ W : Nat → Nat → St → Hp → Prop, (∃ m, W 0 m σ H) ∧ ∀ i m σ H, W i m σ H →
      ((Itr lo n).stop i H ∧ D.nx σ H) ∨ ((Itr lo n).go i H ∧ ∃ N : St → Hp → Prop, (∀ σ' H', N σ' H' → ∃ m', m' < m ∧ W (i + 1) m' σ' H') ∧ ∀ x H', (Itr lo n).yld i H x H' → g x σ H' fun σ2 H2 => tb { D with nx := N, ct := N, bk := D.nx } σ2 H2) := by
  refine ⟨fun i m σ H => m = n - i ∧ i ≤ n ∧ Pv i σ H, ⟨n, by simp, Nat.zero_le _, h0⟩, ?_⟩
  rintro i m σ H ⟨rfl, hi, p⟩
  by_cases hlt : i < n
  · refine .inr ⟨hlt, Pv (i + 1), fun σ' H' p' => ⟨n - (i + 1), by omega, rfl, hlt, p'⟩, fun x H' y => ?_⟩
    obtain ⟨e, y⟩ := y
    subst e y
    exact hs i σ _ hlt p
  · have e : i = n := by omega
    subst e
    exact .inl ⟨Nat.le_refl _, hd σ H p⟩
theorem while_by {c : TT} {tb : TS} {D : Ends} {σ : St} {H : Hp} (Pv : St → Hp → Prop) (μ : St → Hp → Nat) (h0 : Pv σ H)
    (hs : ∀ σ H, Pv σ H → c σ H fun b H1 => if b = true then tb { D with nx := fun σ' H' => Pv σ' H' ∧ μ σ' H' < μ σ H, ct := fun σ' H' => Pv σ' H' ∧ μ σ' H' < μ σ H, bk := D.nx } σ H1 else D.nx σ H1)
    (mono : ∀ σ H Q Q', (∀ b H1, Q b H1 → Q' b H1) → c σ H Q → c σ H Q') : tWhile c tb D σ H := by
  refine ⟨fun m σ H => m = μ σ H ∧ Pv σ H, ⟨_, rfl, h0⟩, ?_⟩
  rintro m σ H ⟨rfl, p⟩
  refine mono σ H _ _ (fun b H1 q => ?_) (hs σ H p)
  cases b with
  | true => exact ⟨_, fun σ' H' ⟨p', l⟩ => ⟨_, l, rfl, p'⟩, q⟩
  | false => exact q
end L2
namespace L2
open PySem PySem.Spec PyProof.Rows
abbrev R2 := V → V → Hp → VK → Prop
def OpR (X : Cx) (f : Value → Value → Sem Value) (r : R2) : Prop :=
  ∀ (pins : List (Addr × Obj)) (s : Shared) (σ : St) (H : Hp) (x y : V) (v u : Value) (Q : VK), Inv X pins σ H s → RelV x v → RelV y u → r x y H Q →
    wpAny (model X.prog X.w) X.A (f v u) (EP X pins σ Q) X.xe s
def UnR (X : Cx) (f : Value → Sem Value) (r : V → Hp → VK → Prop) : Prop :=
  ∀ (pins : List (Addr × Obj)) (s : Shared) (σ : St) (H : Hp) (x : V) (v : Value) (Q : VK), Inv X pins σ H s → RelV x v → r x H Q →
    wpAny (model X.prog X.w) X.A (f v) (EP X pins σ Q) X.xe s
def CallR (X : Cx) (f : Value) (r : List V → Hp → VK → Prop) : Prop :=
  ∀ (pins : List (Addr × Obj)) (s : Shared) (σ : St) (H : Hp) (xs : List V) (us : List Value) (Q : VK), Inv X pins σ H s → Vals xs us → r xs H Q →
    wpAny (model X.prog X.w) X.A (call f us) (EP X pins σ Q) X.xe s
def tOp (r : R2) (ta tb : TE) : TE := fun σ H Q => ta σ H fun x H1 => tb σ H1 fun y H2 => r x y H2 Q
def tUn (r : V → Hp → VK → Prop) (ta : TE) : TE := fun σ H Q => ta σ H fun x H1 => r x H1 Q
def rI (C : Int → Int → Prop) (g : Int → Int → V) : R2 := fun x y H Q => ∃ i j, x = .int i ∧ y = .int j ∧ C i j ∧ Q (g i j) H
def rI0 (g : Int → Int → V) : R2 := fun x y H Q => ∃ i j, x = .int i ∧ y = .int j ∧ Q (g i j) H
def rU (g : Int → V) : V → Hp → VK → Prop := fun x H Q => ∃ i, x = .int i ∧ Q (g i) H
section
variable {X : Cx} {a b c : Expr} {ta tb tc : TE} {pos : Pos}
theorem binT (ha : PE X a ta) (hb : PE X b tb) {pins : List (Addr × Obj)} {s : Shared} {σ : St} {H : Hp} {R : V → V → Hp → Prop} (I : Inv X pins σ H s)
    (h : ta σ H fun x H1 => tb σ H1 fun y H2 => R x y H2) {Q : Value → Shared → Prop} {f : Value → Value → Sem Value}
    (hf : ∀ v u s2 x y H2, Inv X pins σ H2 s2 → RelV x v → RelV y u → R x y H2 → wpAny (model X.prog X.w) X.A (f v u) Q X.xe s2) :
    wpAny (model X.prog X.w) X.A (eval a X.env) (fun v s₁ => wpAny (model X.prog X.w) X.A (eval b X.env) (fun u s₂ => wpAny (model X.prog X.w) X.A (f v u) Q X.xe s₂) X.xe s₁) X.xe s := by
  refine thn (ha pins s σ H _ I h) fun v s1 ⟨x, H1, I1, r1, q1⟩ => ?_
  refine thn (hb pins s1 σ H1 _ I1 q1) fun u s2 ⟨y, H2, I2, r2, q2⟩ => ?_
  exact hf v u s2 x y H2 I2 r1 r2 q2
theorem pe_op {op : Operator} {r : R2} (ho : OpR X (binaryOp op) r) (ha : PE X a ta) (hb : PE X b tb) : PE X (.BinOp a op b pos) (tOp r ta tb) := by
  intro pins s σ H Q I h
  exact wpAny_BinOp (binT ha hb I h fun v u s2 x y H2 I2 rx ry q => ho pins s2 σ H2 x y v u Q I2 rx ry q)
theorem pe_un {op : UnaryOp} {r : V → Hp → VK → Prop} (ho : UnR X (unaryOp op) r) (ha : PE X a ta) : PE X (.UnaryOp op a pos) (tUn r ta) := by
  intro pins s σ H Q I h
  exact UnaryOp_ (thn (ha pins s σ H _ I h) fun v s1 ⟨x, H1, I1, r1, q1⟩ => ho pins s1 σ H1 x v Q I1 r1 q1)
theorem opI {f : Value → Value → Sem Value} {C : Int → Int → Prop} {g : Int → Int → Int}
    (rule : ∀ (i j : Int) (t u : Tok) (s : Shared) (Q : Value → Shared → Prop) (E : Value → Shared → Prop), C i j → Q (.int (g i j) s.toks) { s with toks := s.toks + 1 } → wpAny (model X.prog X.w) X.A (f (.int i t) (.int j u)) Q E s) :
    OpR X f (rI C fun i j => .int (g i j)) := by
  intro pins s σ H x y v u Q I rx ry h
  obtain ⟨i, j, rfl, rfl, hc, q⟩ := h
  obtain ⟨t, rfl⟩ := rx
  obtain ⟨t', rfl⟩ := ry
  exact rule i j t t' s _ _ hc ⟨.int (g i j), H, I.tok _, ⟨_, rfl⟩, q⟩
theorem opI0 {f : Value → Value → Sem Value} {g : Int → Int → Int}
    (rule : ∀ (i j : Int) (t u : Tok) (s : Shared) (Q : Value → Shared → Prop) (E : Value → Shared → Prop), Q (.int (g i j) s.toks) { s with toks := s.toks + 1 } → wpAny (model X.prog X.w) X.A (f (.int i t) (.int j u)) Q E s) :
    OpR X f (rI0 fun i j => .int (g i j)) := by
  intro pins s σ H x y v u Q I rx ry h
  obtain ⟨i, j, rfl, rfl, q⟩ := h
  obtain ⟨t, rfl⟩ := rx
  obtain ⟨t', rfl⟩ := ry
  exact rule i j t t' s _ _ ⟨.int (g i j), H, I.tok _, ⟨_, rfl⟩, q⟩
theorem opB0 {f : Value → Value → Sem Value} {g : Int → Int → Bool}
    (rule : ∀ (i j : Int) (t u : Tok) (s : Shared) (Q : Value → Shared → Prop) (E : Value → Shared → Prop), Q (.bool (g i j)) s → wpAny (model X.prog X.w) X.A (f (.int i t) (.int j u)) Q E s) :
    OpR X f (rI0 fun i j => .bl (g i j)) := by
  intro pins s σ H x y v u Q I rx ry h
  obtain ⟨i, j, rfl, rfl, q⟩ := h
  obtain ⟨t, rfl⟩ := rx
  obtain ⟨t', rfl⟩ := ry
  exact rule i j t t' s _ _ ⟨.bl (g i j), H, I, rfl, q⟩
def CDiv (i j : Int) : Prop := 0 < j ∧ j < 1073741824
def CPow (i j : Int) : Prop := 0 ≤ j ∧ j ≤ 1000000 ∧ i.natAbs < 2 ^ 64
def CMul (i j : Int) : Prop := (-(2 ^ 64) < i ∧ i < 2 ^ 64) ∨ (-(2 ^ 64) < j ∧ j < 2 ^ 64)
theorem CMul.ok {i j : Int} (h : CMul i j) : IntMulOk i j := by
  rcases h with ⟨h1, h2⟩ | ⟨h1, h2⟩
  · exact .of_left (intBits_le_64 h1 h2)
  · exact .of_right (intBits_le_64 h1 h2)
theorem op_add : OpR X (binaryOp .Add) (rI0 fun i j => .int (i + j)) := opI0 fun _ _ _ _ _ _ _ q => add_int q
theorem op_sub : OpR X (binaryOp .Sub) (rI0 fun i j => .int (i - j)) := opI0 fun _ _ _ _ _ _ _ q => sub_int q
theorem op_mul : OpR X (binaryOp .Mult) (rI CMul fun i j => .int (i * j)) := opI fun _ _ _ _ _ _ _ hc q => mul_int q hc.ok
theorem op_fdiv : OpR X (binaryOp .FloorDiv) (rI CDiv fun i j => .int (i / j)) := opI fun i j _ _ _ _ _ hc q => by
  have h1 : (0 : Int) < j := hc.1
  have h2 : j < 1073741824 := hc.2
  exact floordiv_int (by omega) (by rw [Int.fdiv_eq_ediv_of_nonneg i (by omega)]; exact q) (.inl (PyProof.noPylong_small (by omega)))
theorem op_mod : OpR X (binaryOp .Mod) (rI (fun _ j => 0 < j) fun i j => .int (i % j)) := opI fun i j _ _ _ _ _ hc q => by
  have h1 : (0 : Int) < j := hc
  exact mod_int' (by omega) (by rw [Int.fmod_eq_emod_of_nonneg i (by omega)]; exact q)
theorem op_pow : OpR X (binaryOp .Pow) (rI CPow fun i j => .int (i ^ j.toNat)) := opI fun _ _ _ _ _ _ _ hc q => pow_int_small hc.1 hc.2.1 hc.2.2 q
theorem unI {f : Value → Sem Value} {g : Int → Int}
    (rule : ∀ (i : Int) (t : Tok) (s : Shared) (Q : Value → Shared → Prop) (E : Value → Shared → Prop), Q (.int (g i) s.toks) { s with toks := s.toks + 1 } → wpAny (model X.prog X.w) X.A (f (.int i t)) Q E s) :
    UnR X f (rU fun i => .int (g i)) := by
  intro pins s σ H x v Q I rx h
  obtain ⟨i, rfl, q⟩ := h
  obtain ⟨t, rfl⟩ := rx
  exact rule i t s _ _ ⟨.int (g i), H, I.tok _, ⟨_, rfl⟩, q⟩
theorem un_neg : UnR X (unaryOp .USub) (rU fun i => .int (-i)) := unI fun _ _ _ _ _ q => neg_int q
end
def scal : V → V → Bool
  | .non, .non => true | .non, .int _ => true | .int _, .non => true | .non, .bl _ => true | .bl _, .non => true | .non, .str _ => true | .str _, .non => true
  | .int _, .int _ => true | .bl _, .bl _ => true | .str _, .str _ => true | .byt _, .byt _ => true
  | .int _, .str _ => true | .str _, .int _ => true | .bl _, .str _ => true | .str _, .bl _ => true
  | _, _ => false
def rEq : R2 := fun x y H Q => scal x y = true ∧ Q (.bl (decide (x = y))) H
def rNe : R2 := fun x y H Q => scal x y = true ∧ Q (.bl (!decide (x = y))) H
theorem dec_int {i j : Int} : decide (V.int i = V.int j) = (i == j) := by
  rw [Bool.eq_iff_iff]
  simp
theorem dec_bl {i j : Bool} : decide (V.bl i = V.bl j) = (i == j) := by
  rw [Bool.eq_iff_iff]
  simp
theorem dec_str {i j : Str} : decide (V.str i = V.str j) = (i == j) := by
  rw [Bool.eq_iff_iff]
  simp
theorem dec_byt {i j : Array UInt8} : decide (V.byt i = V.byt j) = (i.toList == j.toList) := by
  rw [Bool.eq_iff_iff]
  cases i
  cases j
  simp
section
variable {X : Cx} {a b c : Expr} {ta tb tc : TE} {pos : Pos}
theorem fin_bl {pins : List (Addr × Obj)} {σ : St} {H : Hp} {s : Shared} {Q : VK} {k k' : Bool} (I : Inv X pins σ H s) (q : Q (.bl k) H) (e : k = k') : EP X pins σ Q (.bool k') s := by
  subst e
  exact ⟨.bl k, H, I, rfl, q⟩
theorem op_eq : OpR X (compareOp .Eq) rEq := by
  intro pins s σ H x y v u Q I rx ry h
  obtain ⟨hs, q⟩ := h
  cases x with
  | non =>
    cases rx
    cases y with
    | non => cases ry; exact PySem.EqNone.eq_none_none (fin_bl I q (by simp))
    | bl j => cases ry; exact PySem.EqNone.eq_none_bool (fin_bl I q (by simp))
    | int j => obtain ⟨t', rfl⟩ := ry; exact PySem.EqNone.eq_none_int (fin_bl I q (by simp))
    | str j => obtain ⟨t', rfl⟩ := ry; exact PySem.EqNone.eq_none_str (fin_bl I q (by simp))
    | _ => exact absurd (show false = true from hs) Bool.false_ne_true
  | bl i =>
    cases rx
    cases y with
    | non => cases ry; exact PySem.EqNone.eq_bool_none (fin_bl I q (by simp))
    | bl j => cases ry; exact eq_bool (fin_bl I q dec_bl)
    | str j => obtain ⟨t', rfl⟩ := ry; exact PySem.EqMixed.eq_bool_str (fin_bl I q (by simp))
    | _ => exact absurd (show false = true from hs) Bool.false_ne_true
  | int i =>
    obtain ⟨t, rfl⟩ := rx
    cases y with
    | non => cases ry; exact PySem.EqNone.eq_int_none (fin_bl I q (by simp))
    | int j => obtain ⟨t', rfl⟩ := ry; exact eq_int (fin_bl I q dec_int)
    | str j => obtain ⟨t', rfl⟩ := ry; exact PySem.EqMixed.eq_int_str (fin_bl I q (by simp))
    | _ => exact absurd (show false = true from hs) Bool.false_ne_true
  | str i =>
    obtain ⟨t, rfl⟩ := rx
    cases y with
    | non => cases ry; exact PySem.EqNone.eq_str_none (fin_bl I q (by simp))
    | bl j => cases ry; exact PySem.EqMixed.eq_str_bool (fin_bl I q (by simp))
    | int j => obtain ⟨t', rfl⟩ := ry; exact PySem.EqMixed.eq_str_int (fin_bl I q (by simp))
    | str j => obtain ⟨t', rfl⟩ := ry; exact eq_str (fin_bl I q dec_str)
    | _ => exact absurd (show false = true from hs) Bool.false_ne_true
  | byt i =>
    obtain ⟨t, rfl⟩ := rx
    cases y with
    | byt j => obtain ⟨t', rfl⟩ := ry; exact PySem.W.eq_bytes (fin_bl I q dec_byt)
    | _ => exact absurd (show false = true from hs) Bool.false_ne_true
  | _ => cases y <;> exact absurd (show false = true from hs) Bool.false_ne_true
theorem op_ne : OpR X (compareOp .NotEq) rNe := by
  intro pins s σ H x y v u Q I rx ry h
  obtain ⟨hs, q⟩ := h
  cases x with
  | non =>
    cases rx
    cases y with
    | non => cases ry; exact PySem.EqNone.ne_none_none (fin_bl I q (by simp))
    | bl j => cases ry; exact PySem.EqNone.ne_none_bool (fin_bl I q (by simp))
    | int j => obtain ⟨t', rfl⟩ := ry; exact PySem.EqNone.ne_none_int (fin_bl I q (by simp))
    | str j => obtain ⟨t', rfl⟩ := ry; exact PySem.EqNone.ne_none_str (fin_bl I q (by simp))
    | _ => exact absurd (show false = true from hs) Bool.false_ne_true
  | bl i =>
    cases rx
    cases y with
    | non => cases ry; exact PySem.EqNone.ne_bool_none (fin_bl I q (by simp))
    | bl j => cases ry; exact ne_bool (fin_bl I q (congrArg not dec_bl))
    | str j => obtain ⟨t', rfl⟩ := ry; exact PySem.EqMixed.ne_bool_str (fin_bl I q (by simp))
    | _ => exact absurd (show false = true from hs) Bool.false_ne_true
  | int i =>
    obtain ⟨t, rfl⟩ := rx
    cases y with
    | non => cases ry; exact PySem.EqNone.ne_int_none (fin_bl I q (by simp))
    | int j => obtain ⟨t', rfl⟩ := ry; exact ne_int (fin_bl I q (congrArg not dec_int))
    | str j => obtain ⟨t', rfl⟩ := ry; exact PySem.EqMixed.ne_int_str (fin_bl I q (by simp))
    | _ => exact absurd (show false = true from hs) Bool.false_ne_true
  | str i =>
    obtain ⟨t, rfl⟩ := rx
    cases y with
    | non => cases ry; exact PySem.EqNone.ne_str_none (fin_bl I q (by simp))
    | bl j => cases ry; exact PySem.EqMixed.ne_str_bool (fin_bl I q (by simp))
    | int j => obtain ⟨t', rfl⟩ := ry; exact PySem.EqMixed.ne_str_int (fin_bl I q (by simp))
    | str j => obtain ⟨t', rfl⟩ := ry; exact ne_str (fin_bl I q (congrArg not dec_str))
    | _ => exact absurd (show false = true from hs) Bool.false_ne_true
  | byt i =>
    obtain ⟨t, rfl⟩ := rx
    cases y with
    | byt j => obtain ⟨t', rfl⟩ := ry; exact PySem.W.ne_bytes (fin_bl I q (congrArg not dec_byt))
    | _ => exact absurd (show false = true from hs) Bool.false_ne_true
  | _ => cases y <;> exact absurd (show false = true from hs) Bool.false_ne_true
theorem op_lt : OpR X (compareOp .Lt) (rI0 fun i j => .bl (decide (i < j))) := opB0 fun _ _ _ _ _ _ _ q => lt_int q
theorem op_gt : OpR X (compareOp .Gt) (rI0 fun i j => .bl (decide (j < i))) := opB0 fun _ _ _ _ _ _ _ q => gt_int q
theorem op_ge : OpR X (compareOp .GtE) (rI0 fun i j => .bl (decide (j ≤ i))) := opB0 fun _ _ _ _ _ _ _ q => ge_int q
theorem nomark (b : Expr) {op : CmpOp} (h : op ≠ .In := by decide) (h2 : op ≠ .NotIn := by decide) : behindInMarks op b = false := by
  have e1 : (op == CmpOp.In) = false := by cases op <;> first | rfl | exact absurd rfl h
  have e2 : (op == CmpOp.NotIn) = false := by cases op <;> first | rfl | exact absurd rfl h2
  cases b <;> simp [behindInMarks, e1, e2]
theorem pe_cmpR {op : CmpOp} {r : R2} (ho : OpR X (compareOp op) r) (ha : PE X a ta) (hb : PE X b tb) (hm : behindInMarks op b = false) : PE X (.Compare a [op] [b] pos) (tOp r ta tb) := by
  intro pins s σ H Q I h
  exact wpAny_Compare1 (binT ha hb I h fun v u s2 x y H2 I2 rx ry q => ho pins s2 σ H2 x y v u Q I2 rx ry q) hm
def tTest (t : TE) : TT := fun σ H Q => t σ H fun x H' => ∃ k, x = .bl k ∧ Q k H'
theorem pt_cmpR {op : CmpOp} {r : R2} (ho : OpR X (compareOp op) r) (ha : PE X a ta) (hb : PE X b tb) (hm : behindInMarks op b = false) : PT X (.Compare a [op] [b] pos) (tTest (tOp r ta tb)) := by
  intro pins s σ H Q I h
  refine wpAny_isTrue_Compare1 (thn (ha pins s σ H _ I h) fun v s1 ⟨x, H1, I1, r1, q1⟩ => thn (hb pins s1 σ H1 _ I1 q1) fun u s2 ⟨y, H2, I2, r2, q2⟩ =>
    thn (ho pins s2 σ H2 x y v u _ I2 r1 r2 q2) fun c s3 ⟨z, H3, I3, r3, k, e, q3⟩ => ?_) hm
  subst e
  cases r3
  exact wpAny_truthy_bool ⟨H3, I3, q3⟩
theorem line63 : (sizeLine : Nat) < 2 ^ 63 := by rw [sizeLine_eq]; decide
theorem vals1 {x : V} {us : List Value} (r : Vals [x] us) : ∃ u, us = [u] ∧ RelV x u := by
  cases r with
  | cons r1 r2 => cases r2; exact ⟨_, rfl, r1⟩
theorem vals2 {x y : V} {us : List Value} (r : Vals [x, y] us) : ∃ u w', us = [u, w'] ∧ RelV x u ∧ RelV y w' := by
  cases r with
  | cons r1 r2 =>
    cases r2 with
    | cons r3 r4 => cases r4; exact ⟨_, _, rfl, r1, r3⟩
theorem call_max2 (hc : X.calm = true) : CallR X (.builtin "max") (fun xs H Q => ∃ i j, xs = [.int i, .int j] ∧ Q (.int (if j > i then j else i)) H) := by
  intro pins s σ H xs us Q I r h
  obtain ⟨i, j, rfl, q⟩ := h
  obtain ⟨u, w', rfl, ⟨t, rfl⟩, ⟨t', rfl⟩⟩ := vals2 r
  refine max_two_ints (I.ok.hd hc) fun h' tk k => ⟨_, H, I.kept k, ?_, q⟩
  by_cases hj : j > i
  · rw [if_pos hj, if_pos hj]; exact ⟨_, rfl⟩
  · rw [if_neg hj, if_neg hj]; exact ⟨_, rfl⟩
theorem call_min2 (hc : X.calm = true) : CallR X (.builtin "min") (fun xs H Q => ∃ i j, xs = [.int i, .int j] ∧ Q (.int (if j < i then j else i)) H) := by
  intro pins s σ H xs us Q I r h
  obtain ⟨i, j, rfl, q⟩ := h
  obtain ⟨u, w', rfl, ⟨t, rfl⟩, ⟨t', rfl⟩⟩ := vals2 r
  refine min_two_ints (I.ok.hd hc) fun h' tk k => ⟨_, H, I.kept k, ?_, q⟩
  by_cases hj : j < i
  · rw [if_pos hj, if_pos hj]; exact ⟨_, rfl⟩
  · rw [if_neg hj, if_neg hj]; exact ⟨_, rfl⟩
end
end L2
namespace L2
open PySem PySem.Spec PyProof.Rows
structure ObjM (h : Heap) (x dx C : Addr) (mA : Str → Option Value) : Prop where
  obj : h.get? x = some (PySem.W.instObj C dx)
  ns : h.Ns1 dx mA
  ne : dx ≠ x
theorem lookIn_ns {h : Heap} {dx : Addr} {mA : Str → Option Value} (n : h.Ns1 dx mA) : ∃ od, h.get? dx = some od ∧ ∀ name, PySem.W.lookIn name od = some (mA name) := by
  obtain ⟨o, es, ep, ho, hd, hk, _, hm⟩ := n
  refine ⟨o, ho, fun name => ?_⟩
  have e := hm name
  unfold nsFind findBy at e
  rw [← Array.find?_toList] at e
  unfold PySem.W.lookIn
  rw [hd]
  dsimp only
  split
  · rename_i y q
    rw [q] at e
    exact congrArg some e
  · rename_i q
    rw [q] at e
    have a : es.toList.any (·.refKey) = false := by
      rw [List.any_eq_false]
      intro y hy
      obtain ⟨z, t, hkey⟩ := hk y (Array.mem_toList_iff.mp hy)
      simp [DictEntry.refKey, hkey]
    have a' : ¬ es.toList.any (·.refKey) = true := by rw [a]; exact Bool.false_ne_true
    rw [if_neg a']
    exact congrArg some e
theorem ObjM.look {h : Heap} {x dx C : Addr} {mA : Str → Option Value} (I : ObjM h x dx C mA) : ∃ od, PySem.W.InstAt h x (PySem.W.instObj C dx) C (some od) ∧ ∀ name, PySem.W.lookIn name od = some (mA name) :=
  let ⟨od, ho, hl⟩ := lookIn_ns I.ns
  ⟨od, ⟨I.obj, rfl, rfl, ho⟩, hl⟩
section
variable {P : Program} {w : World} {H H' : Hp} {h h' : Heap} {a C dx : Addr} {fs fs' : List (Str × V)}
theorem ins_get (hok : HOk P w H h) (e : H a = some (.ins C dx fs)) : ∃ mA, ObjM h a dx C mA ∧ (∀ f, RelO (fs.lookup f) (mA f)) ∧ PySem.Within mA (fs.map (·.1)) ∧ fs.length ≤ 1000 ∧ H dx = some (.own a) := by
  obtain ⟨d, z, ne, ob, mA, n, r, q⟩ := (show ObjOk P w H h a (.ins C dx fs) from hok a _ e)
  exact ⟨mA, ⟨ob, n, ne⟩, r, q, z, d⟩
end
structure Cls (K : PySem.W.Frag) (C : Addr) : Prop where
  pg : PySem.W.plainGet K C Str.empty = true
  hd : PySem.W.hasDictIn K C = true
  po : PySem.W.plainOver K C = true
  sa : PySem.W.findIn K (.ref C) "__setattr__" = some (some (.builtin "object.__setattr__"))
theorem Cls.get {K : PySem.W.Frag} {C : Addr} (c : Cls K C) (f : Str) : PySem.W.plainGet K C f = true := c.pg
section
variable {X : Cx} {pins : List (Addr × Obj)} {σ : St} {H : Hp} {s : Shared} {A : Around} {E : Value → Shared → Prop} {Q : Value → Shared → Prop} {c : Value} {b : Bool}
inductive TyOf (K : PySem.W.Frag) (H : Hp) : V → Value → Prop where
  | non : TyOf K H .non (.type "NoneType")
  | bl (x : Bool) : TyOf K H (.bl x) (.type "bool")
  | int (i : Int) : TyOf K H (.int i) (.type "int")
  | str (x : Str) : TyOf K H (.str x) (.type "str")
  | flt (x : UInt64) : TyOf K H (.flt x) (.type "float")
  | lst {a : Addr} {xs : List V} (e : H a = some (.lst xs)) : TyOf K H (.ref a) (.type "list")
  | frz {a : Addr} {o : Obj} {xs : List V} (e : H a = some (.frz o (.lst xs))) : TyOf K H (.ref a) (.type "list")
  | tup {a : Addr} {xs : List V} (e : H a = some (.tup xs)) : TyOf K H (.ref a) (.type "tuple")
  | dK {a : Addr} {kvs : List (Key × V)} (e : H a = some (.dK kvs)) : TyOf K H (.ref a) (.type "dict")
  | dT {a : Addr} {kvs : List (List Key × V)} (e : H a = some (.dT kvs)) : TyOf K H (.ref a) (.type "dict")
  | ins {a C dx : Addr} {fs : List (Str × V)} (e : H a = some (.ins C dx fs)) (cl : Cls K C) (ha : PySem.W.findIn K (.ref C) "__class__" = some (some (.builtin "object.__class__")))
      (hn : PySem.W.specialIn K (.builtin "object.__class__") "__get__" = some (some (.builtin "getset_descriptor.__get__"))) (htk : PySem.W.takesIn K (.builtin "object.__class__") = some true)
      (hm : PySem.W.mroIn K C (.type "object") = some true) : TyOf K H (.ref a) (.ref C)
theorem isinst_ok {x : V} {u t : Value} (I : Inv X pins σ H s) (rx : RelV x u) (ty : TyOf X.K H x t) (e : PySem.W.kitOne X.K t c = some b) (h : ∀ tk, Q (.bool b) { s with toks := tk }) :
    wpAny (model X.prog X.w) A (call (.builtin "isinstance") [u, c]) Q E s := by
  cases ty with
  | non => cases (show u = Value.none from rx); exact PySem.W.kia_one PySem.W.kitx_none I.kIn True.intro e (fun z => nomatch z) h
  | bl y => cases (show u = Value.bool y from rx); exact PySem.W.kia_one PySem.W.kitx_bool I.kIn True.intro e (fun z => nomatch z) h
  | int i => obtain ⟨t, q⟩ := (show ∃ t, u = Value.int i t from rx); cases q; exact PySem.W.kia_one PySem.W.kitx_int I.kIn True.intro e (fun z => nomatch z) h
  | str y => obtain ⟨t, q⟩ := (show ∃ t, u = Value.str y t from rx); cases q; exact PySem.W.kia_one PySem.W.kitx_str I.kIn True.intro e (fun z => nomatch z) h
  | flt y => obtain ⟨t, q⟩ := (show ∃ t, u = Value.float y t from rx); cases q; exact PySem.W.kia_one PySem.W.kitx_float I.kIn True.intro e (fun z => nomatch z) h
  | @lst a xs ea =>
    cases (show u = Value.ref a from rx)
    obtain ⟨_, _, n, _, h1⟩ := (show ObjOk X.prog X.w H s.heap a (.lst xs) from I.hok a _ ea)
    exact PySem.W.kia_one PySem.W.kitx_list I.kIn ⟨_, h1, rfl⟩ e (fun z => nomatch z) h
  | @frz a ob xs ea =>
    cases (show u = Value.ref a from rx)
    obtain ⟨_, _, _, n, _, h1⟩ := (show ObjOk X.prog X.w H s.heap a (.frz ob (.lst xs)) from I.hok a _ ea)
    exact PySem.W.kia_one PySem.W.kitx_list I.kIn ⟨_, h1, rfl⟩ e (fun z => nomatch z) h
  | @tup a xs ea =>
    cases (show u = Value.ref a from rx)
    obtain ⟨_, _, _, p⟩ := (show ObjOk X.prog X.w H s.heap a (.tup xs) from I.hok a _ ea)
    obtain ⟨o, h1, h2, _⟩ := p
    exact PySem.W.kia_one PySem.W.kitx_tuple I.kIn ⟨o, h1, h2⟩ e (fun z => nomatch z) h
  | @dK a kvs ea =>
    cases (show u = Value.ref a from rx)
    obtain ⟨_, _, vs, _, p⟩ := (show ObjOk X.prog X.w H s.heap a (.dK kvs) from I.hok a _ ea)
    obtain ⟨o, es, ep, h1, h2, _⟩ := p
    exact PySem.W.kia_one PySem.W.kitx_dict I.kIn ⟨o, h1, h2.1⟩ e (fun z => nomatch z) h
  | @dT a kvs ea =>
    cases (show u = Value.ref a from rx)
    obtain ⟨_, _, xs, _, o, es, ep, h1, h2, _⟩ := (show ObjOk X.prog X.w H s.heap a (.dT kvs) from I.hok a _ ea)
    exact PySem.W.kia_one PySem.W.kitx_dict I.kIn ⟨o, h1, h2.1⟩ e (fun z => nomatch z) h
  | @ins a C dx fs ea cl ha hn htk hm =>
    cases (show u = Value.ref a from rx)
    obtain ⟨mA, O, _⟩ := ins_get I.hok ea
    obtain ⟨od, J, _⟩ := O.look
    exact PySem.W.kia_one (PySem.W.kitx_own (cl.get _) cl.hd ha hn htk hm) I.kIn J e (fun z => nomatch z) h
end
end L2
namespace L2
open PySem PySem.Spec PyProof.Rows
structure Room (k : Nat) (A : Around) : Prop where
  hd : A.handled = none
  dp : A.depth + 3 * k + 5 < recursionLimit
  un : A.units + 16 * k + 200 < cLine
  gd : A.guards = some []
theorem Room.mono {j k : Nat} {A : Around} (r : Room k A) (h : j ≤ k) : Room j A := ⟨r.hd, by have := r.dp; omega, by have := r.un; omega, r.gd⟩
theorem Room.deeper {k : Nat} {A : Around} (r : Room (k + 1) A) (env : Env) : Room k (A.deeper env) :=
  ⟨r.hd, by have := r.dp; show A.depth + 1 + 3 * k + 5 < _; omega, by have := r.un; show A.units + 3 + 16 * k + 200 < _; omega, r.gd⟩
theorem Room.depth {k : Nat} {A : Around} (r : Room k A) : A.depth < recursionLimit := by have := r.dp; omega
theorem Room.units {k : Nat} {A : Around} (r : Room k A) : A.units + 64 < cLine := by have := r.un; omega
def tNil : TA := fun _ H Q => Q [] H
def tCons (ta : TE) (tr : TA) : TA := fun σ H Q => ta σ H fun x H1 => tr σ H1 fun xs H2 => Q (x :: xs) H2
section
variable {X : Cx} {e : Expr} {es : List Expr} {te : TE} {t : TA} {pos : Pos}
theorem pa_nil : PA X [] tNil := fun _ _ _ _ H Q I h => Calls.spliced_nil ⟨[], H, I, .nil, h⟩
theorem pa_cons (ha : PE X e te) (hr : PA X es t) (hs : starEach (e :: es) X.env = (false, eval e X.env) :: starEach es X.env := by rfl) : PA X (e :: es) (tCons te t) := by
  intro pos pins s σ H Q I h
  rw [hs]
  show wpAny _ _ (spliced ((false, eval e X.env) :: backTo pos (starEach es X.env))) _ _ s
  refine Calls.spliced_cons (thn (ha pins s σ H _ I h) fun u s1 ⟨x, H1, I1, r1, q1⟩ => ?_)
  exact thn (hr pos pins s1 σ H1 _ I1 q1) fun us s2 ⟨xs, H2, I2, r2, q2⟩ => ⟨x :: xs, H2, I2, .cons r1 r2, q2⟩
def tTup (t : TA) : TE := fun σ H Q => t σ H fun xs H1 => xs.length ≤ sizeLine ∧ ∀ p, H1 p = none → Q (.ref p) (upd H1 p (.tup xs))
def tLst (t : TA) : TE := fun σ H Q => t σ H fun xs H1 => xs.length ≤ sizeLine ∧ ∀ p, H1 p = none → Q (.ref p) (upd H1 p (.lst xs))
theorem pe_tup {x1} (h : PA X es t) : PE X (.Tuple es x1 pos) (tTup t) := by
  intro pins s σ H Q I hq
  refine wpAny_Tuple_spliced (thn (h pos pins s σ H _ I hq) fun us s1 ⟨xs, H1, I1, r, z, q⟩ => ⟨by rw [← r.length]; exact z, ?_⟩)
  have hf : H1 s1.heap.objs.size = none := I1.hok.fresh (Nat.le_refl _)
  refine ⟨.ref s1.heap.objs.size, upd H1 s1.heap.objs.size (.tup xs), I1.laid (t' := s1.toks) (fun b u e => Heap.get?_push_of_some _ e) (Nat.le_refl _) ?_, rfl, q _ hf⟩
  exact ⟨z, us, r, ⟨_, Heap.get?_push_size _ rfl, rfl, _, rfl⟩⟩
theorem pe_lst (h : PA X es t) : PE X (.List es pos) (tLst t) := by
  intro pins s σ H Q I hq
  refine wpAny_List_spliced (thn (h pos pins s σ H _ I hq) fun us s1 ⟨xs, H1, I1, r, z, q⟩ => ⟨by rw [← r.length]; exact z, ?_⟩)
  have hf : H1 s1.heap.objs.size = none := I1.hok.fresh (Nat.le_refl _)
  refine ⟨.ref s1.heap.objs.size, upd H1 s1.heap.objs.size (.lst xs), I1.laid (t' := s1.toks) (fun b u e => Heap.get?_push_of_some _ e) (Nat.le_refl _) ?_, rfl, q _ hf⟩
  exact ⟨z, us, 0, r, Heap.get?_push_size _ rfl⟩
end
abbrev Sp := List V → Hp → VK → XK → Prop
abbrev CXT := List Env → Hp → Shared → XK → Value → Shared → Prop
structure Env0 (P : Program) (w : World) (K : PySem.W.Frag) (mg : Str → Option Value) (base : Heap) (A : Around) (outer : List Env) (s : Shared) (H : Hp) : Prop where
  frames : A.frames = some outer
  mod : Mod K mg base
  bs : ∀ b o, base.get? b = some o → s.heap.get? b = some o ∧ H b = none
  bsz : base.objs.size ≤ s.heap.objs.size
  funs : s.heap.FunFrames base outer
  frf : ∀ b ∈ frs outer, H b = none
  hok : HOk P w H s.heap
  bare : AllBare s.gens
def CE (outer : List Env) (P : Program) (w : World) (H : Hp) (s : Shared) (Q : VK) (u : Value) (s' : Shared) : Prop :=
  ∃ v H', s'.os = s.os ∧ AllBare s'.gens ∧ Un (frs outer) [] H H' s.heap s'.heap ∧ HOk P w H' s'.heap ∧ RelV v u ∧ Q v H'
def CR (CX : CXT) (outer : List Env) (P : Program) (w : World) (H : Hp) (s : Shared) (Q : VK) (E : XK) (r : Result) (s' : Shared) : Prop :=
  match r with
  | .ok (.ret u) => CE outer P w H s Q u s'
  | .ok _ => False
  | .error e => CX outer H s E e s'
structure FnOk (P : Program) (w : World) (K : PySem.W.Frag) (mg : Str → Option Value) (base : Heap) (CX : CXT) (k : Nat) (f : Addr) (fd : FuncData) (ps : List Str) (sp : Sp) : Prop where
  len : ∀ vs H Q E, sp vs H Q E → vs.length = ps.length
  run : ∀ (A : Around) (outer : List Env) (s : Shared) (H : Hp) (args : Args) (us : List Value) (vs : List V) (Q : VK) (E : XK), Room k A → Env0 P w K mg base A outer s H → BindsTo s fd args (ps.zip us) → Vals vs us → sp vs H Q E →
    codeAny (model P w) A (.call (.ref f) args) (CR CX outer P w H s Q E) s
theorem FnOk.imp {P : Program} {w : World} {K : PySem.W.Frag} {mg : Str → Option Value} {base : Heap} {CX : CXT} {k : Nat} {f : Addr} {fd : FuncData} {ps : List Str} {sp sp' : Sp} (F : FnOk P w K mg base CX k f fd ps sp)
    (h : ∀ vs H Q E, sp' vs H Q E → sp vs H Q E) : FnOk P w K mg base CX k f fd ps sp' :=
  ⟨fun vs H Q E q => F.len vs H Q E (h _ _ _ _ q), fun A outer s H args us vs Q E hr he hb hv hs => F.run A outer s H args us vs Q E hr he hb hv (h _ _ _ _ hs)⟩
section
variable {X : Cx} {pins : List (Addr × Obj)} {σ : St} {H : Hp} {s s' : Shared}
theorem Inv.env0 (I : Inv X pins σ H s) : Env0 X.prog X.w X.K X.mg X.base X.A X.stack s H :=
  ⟨I.ok.frames, I.ok.mod, I.bs, Nat.le_trans I.ok.bsz I.sz, I.stack, I.stkFree, I.hok, I.bare⟩
theorem Inv.after {Q : VK} {u : Value} (I : Inv X pins σ H s) (h : CE X.stack X.prog X.w H s Q u s') : EP X pins σ Q u s' := by
  obtain ⟨v, H', os, bare, un, hok, r, q⟩ := h
  obtain ⟨hh, g, d, t, os'⟩ := s'
  obtain rfl : os' = s.os := os
  exact ⟨v, H', I.call (h' := hh) (g' := g) (d' := d) (t' := t) (ch := []) un hok bare (fun b z => absurd z (by simp)), r, q⟩
end
def tCall (sp : Sp) (dvs : List V) (E : XK) (t : TA) : TE := fun σ H Q => t σ H fun vs H1 => sp (vs ++ dvs) H1 Q E
def Binds (K : PySem.W.Frag) (fd : FuncData) (ps : List Str) (ds : List Value) : Prop :=
  ∀ (s : Shared) (us : List Value), K.In s.heap → (us ++ ds).length = ps.length → BindsTo s fd ⟨us, []⟩ (ps.zip (us ++ ds))
theorem Binds.all {K : PySem.W.Frag} {fd : FuncData} {ps : List Str} (h : ∀ us : List Value, us.length = ps.length → bindArgs fd ⟨us, []⟩ = pure (ps.zip us)) : Binds K fd ps [] := fun s us _ hl => by
  rw [List.append_nil] at hl ⊢
  exact .of_eq (h us hl)
def Passes (CX : CXT) (X : Cx) (E : XK) : Prop := ∀ (pins : List (Addr × Obj)) (σ : St) (H : Hp) (s : Shared) (e : Value) (s' : Shared), Inv X pins σ H s → CX X.stack H s E e s' → X.xe e s'
section
variable {X : Cx} {CX : CXT} {k : Nat} {f C : Addr} {fd : FuncData} {ps : List Str} {sp : Sp} {dvs : List V} {ds : List Value} {E : XK} {x m : Str} {p pos apos : Pos} {e o : Expr} {es : List Expr} {ta : TE} {t : TA}
theorem run_fn {pins : List (Addr × Obj)} {σ : St} {H : Hp} {s : Shared} {Q : VK} {us : List Value} {vs : List V} (F : FnOk X.prog X.w X.K X.mg X.base CX k f fd ps sp) (hr : Room k X.A) (hb : Binds X.K fd ps ds) (hd : Vals dvs ds) (hx : Passes CX X E)
    (I : Inv X pins σ H s) (r : Vals vs us) (h : sp (vs ++ dvs) H Q E) : wpAny (model X.prog X.w) X.A (call (.ref f) us) (EP X pins σ Q) X.xe s := by
  have r2 : Vals (vs ++ dvs) (us ++ ds) := r.append hd
  have hl : (us ++ ds).length = ps.length := by rw [← r2.length]; exact F.len _ _ _ _ h
  refine wpAny_call (codeAny_mono (F.run X.A X.stack s H ⟨us, []⟩ (us ++ ds) (vs ++ dvs) Q E hr I.env0 (hb s us I.kIn hl) r2 h) fun r s' hq => ?_)
  cases r with
  | error e => exact hx pins σ H s e s' I hq
  | ok fl =>
    cases fl with
    | ret u => exact I.after hq
    | next => exact False.elim hq
    | brk => exact False.elim hq
    | cont => exact False.elim hq
theorem pe_call (F : FnOk X.prog X.w X.K X.mg X.base CX k f fd ps sp) (hr : Room k X.A) (hg : Gl X x) (hm : X.mg x = some (.ref f)) (hk : PySem.W.keepIn X.K (.ref f) = true) (hb : Binds X.K fd ps ds) (hd : Vals dvs ds) (hx : Passes CX X E)
    (ha : PA X (e :: es) t) (hdb : (x == ("__debug__" : Str)) = false := by decide) (he : starEach (e :: es) X.env = (false, eval e X.env) :: starEach es X.env := by rfl) (hpl : (backTo pos (starEach es X.env)).any (·.1) = false := by rfl) :
    PE X (.Call (.Name x p) (e :: es) [] pos) (tCall sp dvs E t) := by
  intro pins s σ H Q I h
  refine wpAny_Call_Name_kw (ld_glob I hg hm ?_ hdb)
  refine PySem.W.callWith_K (h₀ := X.base) I.ok.mod.kin hk (thn (ha pos pins s σ H _ I h) fun us s1 ⟨vs, H1, I1, r, q⟩ => ⟨I1.kIn, ?_⟩) he hpl
  exact run_fn F hr hb hd hx I1 r q
end
structure FnScope (N P : List Str) (sc : Scope) : Prop where
  kind : sc.kind = .function
  co : sc.isCoroutine = false
  gen : sc.isGenerator = false
  nd : N.Nodup
  pre : N.take P.length = P
  par : ∀ x ∈ P, sc.names.lookup x = some .local ∨ sc.names.lookup x = some .cell
  nofree : ∀ y ∈ sc.names, y.2 ≠ .free
theorem bindL_out {kindOf : Str → Option NameKind} {x : Str} : ∀ {binds : List (Str × Value)} {m : Str → Option Value}, (∀ v, (x, v) ∉ binds) → bindL kindOf binds m x = m x
  | [], _, _ => rfl
  | (n, v) :: r, m, h => by
    unfold bindL
    rw [bindL_out fun w hw => h w (List.mem_cons_of_mem _ hw)]
    split
    · have : x ≠ n := by rintro rfl; exact h v List.mem_cons_self
      simp [this]
    · rfl
theorem bindC_out {kindOf : Str → Option NameKind} {x : Str} : ∀ {binds : List (Str × Value)} {m : Str → Option Value}, (∀ v, (x, v) ∉ binds) → bindC kindOf binds m x = m x
  | [], _, _ => rfl
  | (n, v) :: r, m, h => by
    unfold bindC
    rw [bindC_out fun w hw => h w (List.mem_cons_of_mem _ hw)]
    split
    · rfl
    · have : x ≠ n := by rintro rfl; exact h v List.mem_cons_self
      simp [this]
theorem bindL_get {kindOf : Str → Option NameKind} {x : Str} {v : Value} : ∀ {P : List Str} {vs : List Value} {i : Nat} {m : Str → Option Value}, P.Nodup → P[i]? = some x → vs[i]? = some v → kindOf x = some .local →
    bindL kindOf (P.zip vs) m x = some v
  | [], _, _, _, _, h, _, _ => by simp at h
  | _ :: _, [], _, _, _, _, h, _ => by simp at h
  | p :: P, w :: vs, 0, m, nd, h1, h2, hk => by
    simp at h1 h2; subst h1; subst h2
    show bindL kindOf ((p, w) :: P.zip vs) m p = _
    unfold bindL
    rw [bindL_out fun v hv => (List.nodup_cons.mp nd).1 (List.of_mem_zip hv).1, if_pos hk]
    simp
  | p :: P, w :: vs, i + 1, m, nd, h1, h2, hk => by
    show bindL kindOf ((p, w) :: P.zip vs) m x = _
    unfold bindL
    exact bindL_get (i := i) (List.nodup_cons.mp nd).2 (by simpa using h1) (by simpa using h2) hk
theorem bindC_get {kindOf : Str → Option NameKind} {x : Str} {v : Value} : ∀ {P : List Str} {vs : List Value} {i : Nat} {m : Str → Option Value}, P.Nodup → P[i]? = some x → vs[i]? = some v → kindOf x ≠ some .local →
    bindC kindOf (P.zip vs) m x = some v
  | [], _, _, _, _, h, _, _ => by simp at h
  | _ :: _, [], _, _, _, _, h, _ => by simp at h
  | p :: P, w :: vs, 0, m, nd, h1, h2, hk => by
    simp at h1 h2; subst h1; subst h2
    show bindC kindOf ((p, w) :: P.zip vs) m p = _
    unfold bindC
    rw [bindC_out fun v hv => (List.nodup_cons.mp nd).1 (List.of_mem_zip hv).1, if_neg hk]
    simp
  | p :: P, w :: vs, i + 1, m, nd, h1, h2, hk => by
    show bindC kindOf ((p, w) :: P.zip vs) m x = _
    unfold bindC
    exact bindC_get (i := i) (List.nodup_cons.mp nd).2 (by simpa using h1) (by simpa using h2) hk
def start (N : List Str) (vs : List V) : St := vs.map some ++ List.replicate (N.length - vs.length) none
def cxOf (CX : CXT) (P : Program) (w : World) (K : PySem.W.Frag) (mg : Str → Option Value) (base : Heap) (N : List Str) (qual : Str) (scope : Scope) (f : Addr) (cd : Value) (A : Around) (outer : List Env) (s : Shared) (H : Hp) (E : XK) : Cx where
  prog := P
  w := w
  K := K
  mg := mg
  base := base
  A := A.deeper (envOfC qual scope s.heap.objs.size f cd)
  N := N
  s₀ := s
  H₀ := H
  env := envOfC qual scope s.heap.objs.size f cd
  outer := outer
  stack := envOfC qual scope s.heap.objs.size f cd :: outer
  ex := []
  calm := true
  fn := fun _ => true
  pn := []
  xe := fun e s' => wpAny (model P w) (A.deeper (envOfC qual scope s.heap.objs.size f cd)) (leaving (envOfC qual scope s.heap.objs.size f cd) e) (fun _ s'' => CX outer H s E e s'') (fun e' s'' => CX outer H s E e' s'') s'
theorem cell_has {sc : Scope} {n : Nat} {x : Str} (h : sc.names.lookup x = some .cell) : ∃ c, (cellsFrom n sc.names []).lookup x = some c := by
  have q := PySem.W.cellsFrom_some sc.names n [] (.inl h)
  exact Option.isSome_iff_exists.mp q
theorem inv_start {CX : CXT} {P : Program} {w : World} {K : PySem.W.Frag} {mg : Str → Option Value} {base : Heap} {N ps : List Str} {qual : Str} {scope : Scope} {f : Addr} {cd : Value} {A : Around} {outer : List Env} {s s1 : Shared} {H : Hp} {E : XK} {us : List Value} {vs : List V}
    (S : FnScope N ps scope) (hd : A.handled = none) (e0 : Env0 P w K mg base A outer s H) (hl : vs.length = ps.length) (r : Vals vs us)
    (x : InCallC s s.heap.objs.size (bindL (envOfC qual scope s.heap.objs.size f cd).kindOf (ps.zip us) fun _ => none) (cellsFrom (s.heap.objs.size + 1) scope.names []) (bindC (envOfC qual scope s.heap.objs.size f cd).kindOf (ps.zip us) fun _ => none) s1) :
    Inv (cxOf CX P w K mg base N qual scope f cd A outer s H E) [] (start N vs) H s1 := by
  have hpl : ps.length ≤ N.length := by have := congrArg List.length S.pre; rw [List.length_take] at this; omega
  obtain ⟨h1, tk, rfl, hk⟩ := x.done
  have noA : ∀ b : Addr, b ∉ (cxOf CX P w K mg base N qual scope f cd A outer s H E).ex := fun b z => absurd (show b ∈ ([] : List Addr) from z) (by simp)
  refine ⟨⟨e0.mod, S.kind, rfl, rfl, Nat.le_refl _, fun y z c h1 h2 => ?_, fun y hy => ?_, fun y c _ h => ?_, fun _ => hd, Around.frames_deeper e0.frames, .inr ⟨rfl, rfl⟩, fun b z => absurd z (noA b), e0.bs, e0.bsz, fun b _ _ => noA b, fun b z => absurd z (noA b), e0.funs, e0.frf⟩,
    rfl, e0.bare, Un.kept hk, ⟨_, x.toInCall.ns, fun i y v h1 h2 h3 => ?_⟩, fun y c h => ⟨_, x.cell y c h⟩, e0.hok.fresh (Nat.le_refl _), fun y c h => ?_, fun p hp => absurd (show p ∈ ([] : List (Addr × Obj)) from hp) (by simp), e0.hok.kept hk, ?_⟩
  · exact name_of_addr x.apart (PySem.mem_of_lookup h1) (PySem.mem_of_lookup h2)
  · have hy : scope.names.lookup y = some .cell ∨ scope.names.lookup y = some .free := hy
    rcases hy with hy | hy
    · exact cell_has hy
    · exact absurd rfl (S.nofree _ (PySem.mem_of_lookup hy))
  · exact Nat.le_of_lt (x.above y c (PySem.mem_of_lookup h))
  · have hi : i < vs.length := by
      unfold start at h2
      by_cases hi : i < vs.length
      · exact hi
      · rw [List.getElem?_append_right (by simpa using hi)] at h2
        rw [List.getElem?_replicate] at h2
        split at h2 <;> cases h2
    have ha : vs[i]? = some v := by
      unfold start at h2
      rw [List.getElem?_append_left (by simpa using hi), List.getElem?_map] at h2
      cases e : vs[i]? with
      | none => rw [e] at h2; cases h2
      | some a => rw [e] at h2; cases h2; rfl
    obtain ⟨u, hu, rv⟩ := r.get ha
    have hp : ps[i]? = some y := by
      rw [← S.pre, List.getElem?_take_of_lt (by omega)]; exact h1
    have ndP : ps.Nodup := by rw [← S.pre]; exact S.nd.sublist (List.take_sublist _ _)
    refine ⟨u, rv, ?_⟩
    rcases S.par y (List.mem_of_getElem? hp) with k | k
    · exact .inl ⟨k, bindL_get ndP hp hu k⟩
    · obtain ⟨c, e⟩ := cell_has (n := s.heap.objs.size + 1) k
      refine .inr ⟨.inl k, c, e, ?_⟩
      have q := x.cell y c e
      rw [bindC_get ndP hp hu (by show scope.names.lookup y ≠ _; rw [k]; decide)] at q
      exact q
  · exact e0.hok.fresh (Nat.le_of_lt (x.above y c (PySem.mem_of_lookup h)))
  · unfold start
    show _ = N.length
    rw [List.length_append, List.length_map, List.length_replicate]
    omega
theorem fn_of {CX : CXT} {P : Program} {w : World} {K : PySem.W.Frag} {mg : Str → Option Value} {base : Heap} {k : Nat} {f : Addr} {name qual : Str} {params : Arguments} {body : List Stmt} {scope : Scope} {dV kV doc pm cdv ct oc : Value} {an od : Option Addr}
    {osl : Array (Option Value)} {N ps : List Str} {sp : Sp} (lk : K.lookup f = some ⟨oc, od, .func (PySem.W.fnOf name qual params body scope dV kV doc pm an cdv ct), osl⟩) (hcd : PySem.W.codeIn K cdv qual = true) (S : FnScope N ps scope)
    (len : ∀ vs H Q E, sp vs H Q E → vs.length = ps.length)
    (hbody : ∀ (A : Around) (outer : List Env) (s : Shared) (H : Hp) (vs : List V) (Q : VK) (E : XK), Room k (A.deeper (envOfC qual scope s.heap.objs.size f cdv)) → sp vs H Q E →
      ∃ t, PSs (cxOf CX P w K mg base N qual scope f cdv A outer s H E) body t ∧ t { nx := fun _ H' => Q .non H', rt := Q } (start N vs) H) :
    FnOk P w K mg base CX (k + 1) f (PySem.W.fnOf name qual params body scope dV kV doc pm an cdv ct) ps sp := by
  refine ⟨len, fun A outer s H args us vs Q E hr e0 hb r hsp => ?_⟩
  have hl := len _ _ _ _ hsp
  have KX : K.In s.heap := e0.mod.kin.keeps fun b o e => (e0.bs b o e).1
  have lim : s.heap.NoLimit := e0.mod.nolimit.keeps fun b o e => (e0.bs b o e).1
  have hkind : ∀ y ∈ ps.zip us, scope.names.lookup y.1 = some .local ∨ (scope.names.lookup y.1 = some .cell ∧ ((cellsFrom (s.heap.objs.size + 1) scope.names []).lookup y.1).isSome = true) := fun ⟨n, v⟩ hy => by
    rcases S.par n (List.of_mem_zip hy).1 with q | q
    · exact .inl q
    · exact .inr ⟨q, PySem.W.cellsFrom_some _ _ _ (.inl q)⟩
  refine codeAny_call_function hr.depth (KX _ _ lk) rfl S.co S.gen rfl (PySem.W.codeRec_of KX hcd) (hb _ _ _ _ ?_)
  refine wpAny_newFunctionEnv_cells S.kind hkind fun env he s1 x => ?_
  subst he
  refine ⟨lim.keeps x.toInCall.keep, codeAny_func ?_⟩
  obtain ⟨t, ht, hq⟩ := hbody A outer s H vs Q E (hr.deeper _) hsp
  have I : Inv (cxOf CX P w K mg base N qual scope f cdv A outer s H E) [] (start N vs) H s1 := inv_start S hr.hd e0 hl r x
  refine wpAny_mono (ht [] s1 (start N vs) H _ I hq) (fun fl s' hs => ?_) fun e s' hs => hs
  have fin : ∀ {σ' : St} {H' : Hp} {v : V} {u : Value}, Inv (cxOf CX P w K mg base N qual scope f cdv A outer s H E) [] σ' H' s' → RelV v u → Q v H' → CE outer P w H s Q u s' :=
    fun {σ' H' v u} J rv q => ⟨v, H', J.os, J.bare, J.base, J.hok, rv, q⟩
  cases fl with
  | ret u =>
    obtain ⟨v, σ', H', J, rv, q⟩ := hs
    exact fin J rv q
  | next =>
    obtain ⟨σ', H', J, q⟩ := hs
    exact fin (v := V.non) (u := Value.none) J rfl q
  | brk =>
    obtain ⟨_, _, _, q⟩ := hs
    exact False.elim q
  | cont =>
    obtain ⟨_, _, _, q⟩ := hs
    exact False.elim q
end L2
namespace L2
open PySem PySem.Spec PyProof.Rows
section
variable {X : Cx} {x : Str} {p pos : Pos} {e : Expr} {es : List Expr} {t : TA} {id T : String} {r : List V → Hp → VK → Prop}
def tCB (r : List V → Hp → VK → Prop) (t : TA) : TE := fun σ H Q => t σ H fun vs H1 => r vs H1 Q
theorem pe_callB (hc : CallR X (.builtin id) r) (hg : Gl X x) (hm : X.mg x = none) (hv : bootBuiltins x = some (.builtin id)) (ha : PA X (e :: es) t) (hn : x ≠ "__name__" := by decide) (hdb : (x == ("__debug__" : Str)) = false := by decide)
    (he : starEach (e :: es) X.env = (false, eval e X.env) :: starEach es X.env := by rfl) (hpl : (backTo pos (starEach es X.env)).any (·.1) = false := by rfl) : PE X (.Call (.Name x p) (e :: es) [] pos) (tCB r t) := by
  intro pins s σ H Q I h
  refine wpAny_Call_Name_kw (ld_blt I hg hm hv ?_ hn hdb)
  exact PyProof.Rows.callWith_builtin1 (thn (ha pos pins s σ H _ I h) fun us s1 ⟨vs, H1, I1, r1, q1⟩ => hc pins s1 σ H1 vs us Q I1 r1 q1) he hpl
theorem pe_callTy (hc : CallR X (.type T) r) (hg : Gl X x) (hm : X.mg x = none) (hv : bootBuiltins x = some (.type T)) (ha : PA X (e :: es) t) (hn : x ≠ "__name__" := by decide) (hdb : (x == ("__debug__" : Str)) = false := by decide)
    (he : starEach (e :: es) X.env = (false, eval e X.env) :: starEach es X.env := by rfl) (hpl : (backTo pos (starEach es X.env)).any (·.1) = false := by rfl) : PE X (.Call (.Name x p) (e :: es) [] pos) (tCB r t) := by
  intro pins s σ H Q I h
  refine wpAny_Call_Name_kw (ld_blt I hg hm hv ?_ hn hdb)
  exact PyProof.Rows.callWith_type1 (thn (ha pos pins s σ H _ I h) fun us s1 ⟨vs, H1, I1, r1, q1⟩ => hc pins s1 σ H1 vs us Q I1 r1 q1) he hpl
end
end L2
namespace HT
open PySem PyProof.Rows
section
variable {prog : Program} {w : World} {A : Around} {E : Value → Shared → Prop} {s : Shared}
def sIx (n d : Nat) : Option Int → Nat
  | none => d
  | some v => if v < 0 then (v + (n : Int)).toNat else min v.toNat n
theorem sIx_none (n d : Nat) : sIx n d none = d := rfl
theorem sIx_nat (n d k : Nat) : sIx n d (some (k : Int)) = min k n := by
  show (if (k : Int) < 0 then ((k : Int) + (n : Int)).toNat else min (k : Int).toNat n) = min k n
  rw [if_neg (by omega), Int.toNat_natCast]
end
end HT
namespace L2
open PySem PySem.Spec PyProof.Rows
abbrev TO := St → Hp → (Option Int → Hp → Prop) → Prop
def PO (X : Cx) (e : Option Expr) (t : TO) : Prop :=
  ∀ (pins : List (Addr × Obj)) (s : Shared) (σ : St) (H : Hp) (Q : Option Int → Hp → Prop), Inv X pins σ H s → t σ H Q →
    wpAny (model X.prog X.w) X.A (evalPart e X.env) (fun u s' => ∃ o H', Inv X pins σ H' s' ∧ IsPart u o ∧ Q o H') X.xe s
def tNoPart : TO := fun _ H Q => Q none H
def tPart (t : TE) : TO := fun σ H Q => t σ H fun x H1 => ∃ i, x = .int i ∧ Q (some i) H1
theorem intsAre_of {ns : List Int} : ∀ {us : List Value}, Vals (ns.map V.int) us → IntsAre us ns := by
  induction ns with
  | nil => intro us r; rw [List.map_nil] at r; cases r; exact .nil
  | cons n ns ih =>
    intro us r
    rw [List.map_cons] at r
    cases r with
    | cons r1 r2 =>
      obtain ⟨t, e⟩ := r1
      subst e
      exact .cons n t (ih r2)
section
variable {X : Cx} {e : Expr} {te : TE} {lo hi : Option Expr} {tl th : TO} {pos p2 : Pos}
theorem po_none : PO X none tNoPart := by
  intro pins s σ H Q I h
  rw [evalPart_none]
  exact wpAny_pure ⟨none, H, I, .none, h⟩
theorem po_some (h : PE X e te) : PO X (some e) (tPart te) := by
  intro pins s σ H Q I hw
  rw [evalPart_some]
  refine thn (h pins s σ H _ I hw) fun u s1 ⟨x, H1, I1, r1, q1⟩ => ?_
  obtain ⟨i, rfl, q⟩ := q1
  obtain ⟨t, rfl⟩ := r1
  exact ⟨some i, H1, I1, .int i t, q⟩
def SlR (X : Cx) (r : V → Option Int → Option Int → Hp → VK → Prop) : Prop :=
  ∀ (pins : List (Addr × Obj)) (s : Shared) (σ : St) (H : Hp) (x : V) (v vl vu : Value) (lo hi : Option Int) (sl : Addr) (Q : VK), Inv X pins σ H s → RelV x v → s.heap.IsSliceOf sl vl vu .none → IsPart vl lo → IsPart vu hi → r x lo hi H Q →
    ∃ T id, typeLookup (.type T) "__getitem__" = pure (some (.builtin id)) ∧ s.TypeIs v T ∧ wpAny (model X.prog X.w) X.A (getItem v (.ref sl)) (EP X pins σ Q) X.xe s
def tSl (r : V → Option Int → Option Int → Hp → VK → Prop) (te : TE) (tl th : TO) : TE := fun σ H Q => te σ H fun x H1 => tl σ H1 fun l H2 => th σ H2 fun u H3 => r x l u H3 Q
theorem pe_slice {r : V → Option Int → Option Int → Hp → VK → Prop} (hr : SlR X r) (he : PE X e te) (hl : PO X lo tl) (hu : PO X hi th) : PE X (.Subscript e (.Slice lo hi none p2) pos) (tSl r te tl th) := by
  intro pins s σ H Q I h
  refine Subscript_ (thn (he pins s σ H _ I h) fun v s1 ⟨x, H1, I1, r1, q1⟩ => ?_)
  refine wpAny_Slice (thn (hl pins s1 σ H1 _ I1 q1) fun vl s2 ⟨l, H2, I2, pl, q2⟩ => thn (hu pins s2 σ H2 _ I2 q2) fun vu s3 ⟨u, H3, I3, pu, q3⟩ => ?_)
  rw [evalPart_none]
  refine wpAny_pure ?_
  have I4 : Inv X pins σ H3 { s3 with heap := s3.heap.push { cls := .type "slice", data := .fields #[vl, vu, .none] } } := I3.kept (t' := s3.toks) fun b ob q => Heap.get?_push_of_some _ q
  obtain ⟨T, id, hT, ht, hg⟩ := hr pins { s3 with heap := s3.heap.push { cls := .type "slice", data := .fields #[vl, vu, .none] } } σ H3 x v vl vu l u s3.heap.objs.size Q I4 r1 (Heap.IsSliceOf.new ..) pl pu q3
  show wpAny (model X.prog X.w) X.A (subscriptTail e (.Slice lo hi none p2) v (.ref s3.heap.objs.size)) (EP X pins σ Q) X.xe { s3 with heap := s3.heap.push { cls := .type "slice", data := .fields #[vl, vu, .none] } }
  exact tail_any (ops := [.ref s3.heap.objs.size, v]) ht hT hg (by with_unfolding_all rfl)
def cutV (xs : List V) (lo hi : Option Int) : List V := (xs.drop (HT.sIx xs.length 0 lo)).take (HT.sIx xs.length xs.length hi - HT.sIx xs.length 0 lo)
theorem cutV_length (xs : List V) (lo hi : Option Int) : (cutV xs lo hi).length ≤ xs.length := by
  unfold cutV
  rw [List.length_take, List.length_drop]
  omega
end
end L2
namespace L2
open PySem PySem.Spec PyProof.Rows
def ixN (n : Nat) (i : Int) : Option Nat := if 0 ≤ i then (if i < n then some i.toNat else none) else if -(n : Int) ≤ i then some (i + n).toNat else none
def atI {α : Type} (xs : List α) (i : Int) : Option α := (ixN xs.length i).bind fun j => xs[j]?
theorem ixN_seq {n : Nat} {i : Int} {j : Nat} (h : ixN n i = some j) : seqIndex? i n = some j ∧ j < n ∧ -(n : Int) ≤ i ∧ i < n := by
  unfold ixN at h
  by_cases h0 : 0 ≤ i
  · rw [if_pos h0] at h
    by_cases h1 : i < n
    · rw [if_pos h1] at h
      have e : i.toNat = j := Option.some.inj h
      exact ⟨by rw [seqIndex_of h0 h1, e], by omega, by omega, h1⟩
    · rw [if_neg h1] at h; cases h
  · rw [if_neg h0] at h
    by_cases h1 : -(n : Int) ≤ i
    · rw [if_pos h1] at h
      have e : (i + n).toNat = j := Option.some.inj h
      exact ⟨by rw [seqIndex_neg (by omega) h1, e], by omega, h1, by omega⟩
    · rw [if_neg h1] at h; cases h
theorem atI_get {α : Type} {xs : List α} {i : Int} {v : α} (h : atI xs i = some v) : ∃ j, seqIndex? i xs.length = some j ∧ xs[j]? = some v ∧ j < xs.length ∧ -(xs.length : Int) ≤ i ∧ i < xs.length := by
  unfold atI at h
  cases e : ixN xs.length i with
  | none => rw [e] at h; cases h
  | some j =>
    rw [e] at h
    obtain ⟨h1, h2, h3, h4⟩ := ixN_seq e
    exact ⟨j, h1, h, h2, h3, h4⟩
theorem atI_nat {α : Type} {xs : List α} {j : Nat} {v : α} (h : xs[j]? = some v) : atI xs (j : Int) = some v := by
  have hj : j < xs.length := (List.getElem?_eq_some_iff.mp h).1
  have e : ixN xs.length (j : Int) = some j := by
    unfold ixN
    rw [if_pos (by omega), if_pos (by omega)]; simp
  unfold atI; rw [e]; exact h
def PlainIx (b : Expr) : Prop := ∀ o i, subscripted b false o i = operate [o, i] (getItem o i)
def IxR (X : Cx) (r : R2) : Prop :=
  ∀ (value slice : Expr) (pins : List (Addr × Obj)) (s : Shared) (σ : St) (H : Hp) (x y : V) (v u : Value) (Q : VK), Inv X pins σ H s → RelV x v → RelV y u → r x y H Q →
    subscripted slice false v u = operate [v, u] (getItem v u) → wpAny (model X.prog X.w) X.A (subscriptTail value slice v u) (EP X pins σ Q) X.xe s
def MtR (X : Cx) (id : String) (r : V → List V → Hp → VK → Prop) : Prop :=
  ∀ (pins : List (Addr × Obj)) (s : Shared) (σ : St) (H : Hp) (x : V) (xs : List V) (v : Value) (us : List Value) (Q : VK), Inv X pins σ H s → RelV x v → Vals xs us → r x xs H Q →
    wpAny (model X.prog X.w) X.A (call (.builtin id) (v :: us)) (EP X pins σ Q) X.xe s
section
variable {X : Cx} {a b : Expr} {ta tb : TE} {pos : Pos}
theorem pe_ix {r : R2} (hr : IxR X r) (ha : PE X a ta) (hb : PE X b tb) (hs : PlainIx b) : PE X (.Subscript a b pos) (tOp r ta tb) := by
  intro pins s σ H Q I h
  exact Subscript_ (binT ha hb I h fun v u s2 x y H2 I2 rx ry q => hr a b pins s2 σ H2 x y v u Q I2 rx ry q (hs _ _))
def rIxL (K : PySem.W.Frag) : R2 := fun x y H Q => ∃ p xs i v, x = .ref p ∧ y = .int i ∧ SqL K H p xs ∧ atI xs i = some v ∧ Q v H
theorem ix_list : IxR X (rIxL X.K) := by
  intro value slice pins s σ H x y v u Q I rx ry h hs
  obtain ⟨p, xs, i, z, rfl, rfl, hq, he, q⟩ := h
  cases rx
  obtain ⟨t, rfl⟩ := ry
  obtain ⟨its, r, pl, hz⟩ := I.list hq
  obtain ⟨j, h1, h2, h3, h4, h5⟩ := atI_get he
  obtain ⟨w, ew, rw'⟩ := r.get h2
  have hl := r.length
  have hn := line63
  have fin : EP X pins σ Q w s := ⟨z, H, I, rw', q⟩
  by_cases h0 : 0 ≤ i
  · have hj : i.toNat = j := by
      rw [seqIndex_of h0 h5] at h1
      exact Option.some.inj h1
    exact item_listR pl.isList h0 (by omega) (by rw [hj]; simpa using ew) fin hs
  · have hj : (i + (its.toArray.size : Int)).toNat = j := by
      rw [seqIndex_neg (by omega) h4] at h1
      rw [List.size_toArray, ← hl]
      exact Option.some.inj h1
    exact subscriptTail_builtinR (x := w) pl.isList.typeIs slot_list_getitem.lookup
      (wpAny_getItem_list_neg (Q := fun r s' => r = w ∧ EP X pins σ Q r s') pl.isList (by omega) (by rw [List.size_toArray] <;> omega) (by omega) (by rw [hj]; simpa using ew) ⟨rfl, fin⟩) hs
theorem mapSeq_set (its : List Value) (n j : Nat) (u : Value) : Obj.mapSeq (·.setIfInBounds j u) { cls := .type "list", data := .seq its.toArray n } = { cls := .type "list", data := .seq (its.set j u).toArray n } := by
  simp [Obj.mapSeq]
theorem Inv.lst {pins : List (Addr × Obj)} {σ : St} {H : Hp} {s : Shared} {p : Addr} {xs : List V} (I : Inv X pins σ H s) (h : H p = some (.lst xs)) :
    ∃ (its : List Value) (n : Nat), Vals xs its ∧ s.heap.get? p = some { cls := .type "list", data := .seq its.toArray n } ∧ xs.length ≤ sizeLine := by
  obtain ⟨z, its, n, r, e⟩ := I.hok p _ h
  exact ⟨its, n, r, e, z⟩
theorem Inv.lstUpd {pins : List (Addr × Obj)} {σ : St} {H : Hp} {s : Shared} {p : Addr} {xs ys : List V} {its its' : List Value} {n n' : Nat} {f : Obj → Obj} (I : Inv X pins σ H s) (h : H p = some (.lst xs))
    (ho : s.heap.get? p = some { cls := .type "list", data := .seq its.toArray n }) (hf : f { cls := .type "list", data := .seq its.toArray n } = { cls := .type "list", data := .seq its'.toArray n' }) (r : Vals ys its') (hz : ys.length ≤ sizeLine) (t : Nat) :
    Inv X pins σ (upd H p (.lst ys)) { s with heap := s.heap.update p f, toks := t } := by
  have e : (s.heap.update p f).get? p = some { cls := .type "list", data := .seq its'.toArray n' } := by
    rw [Heap.get?_update_self f ho (by rw [hf] <;> rfl), hf]
  refine I.write (x := p) (e := p) (by rw [h]; trivial) (.inl rfl) (fun b u hb q => (Heap.get?_update_other _ _ (Ne.symm hb)).trans q) ⟨_, e⟩ ?_
  exact ⟨hz, its', n', r, e⟩
def rSetL : V → V → V → Hp → (Hp → Prop) → Prop := fun o i v H Q => ∃ p xs k j, o = .ref p ∧ i = .int k ∧ H p = some (.lst xs) ∧ ixN xs.length k = some j ∧ Q (upd H p (.lst (xs.set j v)))
theorem set_list : PSet X rSetL := by
  intro pins s σ H o i v ov iv u Q I ro ri rv h
  obtain ⟨p, xs, k, j, rfl, rfl, hp, hj, q⟩ := h
  cases ro
  obtain ⟨t, rfl⟩ := ri
  obtain ⟨its, n, r, ho, hz⟩ := I.lst hp
  obtain ⟨h1, h2, h3, h4⟩ := ixN_seq hj
  have hl := r.length
  have hn := line63
  have I' : Inv X pins σ (upd H p (.lst (xs.set j v))) { s with heap := s.heap.update p (Obj.mapSeq (·.setIfInBounds j u)) } :=
    I.lstUpd hp ho (mapSeq_set its n j u) (r.set rv j) (by rw [List.length_set]; exact hz) s.toks
  by_cases h0 : 0 ≤ k
  · have hk : k.toNat = j := by
      rw [seqIndex_of h0 h4] at h1
      exact Option.some.inj h1
    exact PySem.W.ki_setAt ho h0 (by omega) (by rw [List.size_toArray, ← hl]; exact h4) (by rw [hk]; exact ⟨_, I', q⟩)
  · have hk : (k + (its.toArray.size : Int)).toNat = j := by
      rw [seqIndex_neg (by omega) h3] at h1
      rw [List.size_toArray, ← hl]
      exact Option.some.inj h1
    exact PySem.W.ki_setBack ho (by omega) (by rw [List.size_toArray, ← hl]; exact h3) (by omega) (by rw [hk]; exact ⟨_, I', q⟩)
theorem slice_bounds (lo hi : Option Int) (n : Nat) : (sliceBounds lo hi none n).1 = ((HT.sIx n 0 lo : Nat) : Int) ∧ (sliceBounds lo hi none n).2.1 = ((HT.sIx n n hi : Nat) : Int) ∧ (sliceBounds lo hi none n).2.2 = 1 := by
  refine ⟨?_, ?_, rfl⟩
  · cases lo with
    | none => simp [sliceBounds, HT.sIx]
    | some i =>
      simp only [sliceBounds, HT.sIx, Option.getD_none, show (1 : Int) > 0 by decide, if_true]
      by_cases h : i < 0
      · simp only [h, if_true] <;> omega
      · simp only [h, if_false] <;> omega
  · cases hi with
    | none => simp [sliceBounds, HT.sIx]
    | some i =>
      simp only [sliceBounds, HT.sIx, Option.getD_none, show (1 : Int) > 0 by decide, if_true]
      by_cases h : i < 0
      · simp only [h, if_true] <;> omega
      · simp only [h, if_false] <;> omega
theorem slicePick_cut (its : List Value) (lo hi : Option Int) : slicePick its.toArray lo hi none = ((its.drop (HT.sIx its.length 0 lo)).take (HT.sIx its.length its.length hi - HT.sIx its.length 0 lo)).toArray := by
  obtain ⟨h1, h2, h3⟩ := slice_bounds lo hi its.toArray.size
  unfold slicePick
  rw [h1, h2, h3]
  simp only [sliceRange_one, pick_run, List.size_toArray] <;> rfl
def rSlL (K : PySem.W.Frag) : V → Option Int → Option Int → Hp → VK → Prop := fun x lo hi H Q => ∃ a xs, x = .ref a ∧ SqL K H a xs ∧ ∀ p, H p = none → Q (.ref p) (upd H p (.lst (cutV xs lo hi)))
theorem sl_list : SlR X (rSlL X.K) := by
  intro pins s σ H x v vl vu lo hi sl Q I rx hs pl pu h
  obtain ⟨a, xs, rfl, hx, q⟩ := h
  cases rx
  obtain ⟨its, r, ht, hz⟩ := I.list hx
  have hlen := r.length
  refine ⟨"list", _, slot_list_getitem.lookup, ht.isList.typeIs, ?_⟩
  refine wpAny_getItem_list_slice ht.isList hs pl pu .none (by simp) ?_ (by rw [List.size_toArray] <;> omega)
  rw [slicePick_cut, ← hlen]
  refine ⟨.ref s.heap.objs.size, _, I.laid (t' := s.toks) (o := .lst (cutV xs lo hi)) (fun b ob q => Heap.get?_push_of_some _ q) (Nat.le_refl _) ?_, rfl, q _ (I.hok.fresh (Nat.le_refl _))⟩
  exact ⟨Nat.le_trans (cutV_length xs lo hi) hz, _, 0, (r.drop (HT.sIx xs.length 0 lo)).take (HT.sIx xs.length xs.length hi - HT.sIx xs.length 0 lo), Heap.get?_push_size _ rfl⟩
def flatV : V → Bool
  | .non => true
  | .bl _ => true
  | .int _ => true
  | .str _ => true
  | _ => false
def eqV : V → V → Bool
  | .non, .non => true
  | .bl a, .bl b => a == b
  | .bl a, .int b => (if a then 1 else 0) == b
  | .int a, .bl b => a == (if b then 1 else 0)
  | .int a, .int b => a == b
  | .str a, .str b => a == b
  | _, _ => false
theorem eqAt_V {A : Around} {s : Shared} {y x : V} {u v : Value} (ry : RelV y u) (rx : RelV x v) (fy : flatV y = true) (fx : flatV x = true) : SeqAt.EqAt A s u v (eqV y x) := by
  cases y with
  | non =>
    cases ry
    cases x with
    | non => cases rx; exact SeqAt.EqAt.same _
    | bl b => cases rx; exact SeqAt.EqAt.none_bool b
    | int b => obtain ⟨t, rfl⟩ := rx; exact SeqAt.EqAt.none_int b t
    | str b => obtain ⟨t, rfl⟩ := rx; exact SeqAt.EqAt.none_str b t
    | _ => exact absurd (show false = true from fx) Bool.false_ne_true
  | bl a =>
    cases ry
    cases x with
    | non => cases rx; exact SeqAt.EqAt.bool_none a
    | bl b => cases rx; exact SeqAt.EqAt.bool_bool a b
    | int b => obtain ⟨t, rfl⟩ := rx; exact SeqAt.EqAt.bool_int a b t
    | str b => obtain ⟨t, rfl⟩ := rx; exact SeqAt.EqAt.bool_str a b t
    | _ => exact absurd (show false = true from fx) Bool.false_ne_true
  | int a =>
    obtain ⟨t', rfl⟩ := ry
    cases x with
    | non => cases rx; exact SeqAt.EqAt.int_none a t'
    | bl b => cases rx; exact SeqAt.EqAt.int_bool a t' b
    | int b => obtain ⟨t, rfl⟩ := rx; exact SeqAt.EqAt.int_int a t' b t
    | str b => obtain ⟨t, rfl⟩ := rx; exact SeqAt.EqAt.int_str a t' b t
    | _ => exact absurd (show false = true from fx) Bool.false_ne_true
  | str a =>
    obtain ⟨t', rfl⟩ := ry
    cases x with
    | non => cases rx; exact SeqAt.EqAt.str_none a t'
    | bl b => cases rx; exact SeqAt.EqAt.str_bool a t' b
    | int b => obtain ⟨t, rfl⟩ := rx; exact SeqAt.EqAt.str_int a t' b t
    | str b => obtain ⟨t, rfl⟩ := rx; exact SeqAt.EqAt.str_str a t' b t
    | _ => exact absurd (show false = true from fx) Bool.false_ne_true
  | _ => exact absurd (show false = true from fy) Bool.false_ne_true
def eqU (x : V) (u : Value) : Bool := match u with
  | .none => eqV .non x
  | .bool b => eqV (.bl b) x
  | .int i _ => eqV (.int i) x
  | .str z _ => eqV (.str z) x
  | _ => false
theorem eqU_of {x y : V} {u : Value} (r : RelV y u) (f : flatV y = true) : eqU x u = eqV y x := by
  cases y with
  | non => cases r; rfl
  | bl b => cases r; rfl
  | int i => obtain ⟨t, rfl⟩ := r; rfl
  | str z => obtain ⟨t, rfl⟩ := r; rfl
  | _ => exact absurd (show false = true from f) Bool.false_ne_true
theorem any_eqU {x : V} : ∀ {xs : List V} {us : List Value}, Vals xs us → xs.all flatV = true → us.any (eqU x) = xs.any fun y => eqV y x
  | _, _, .nil, _ => rfl
  | y :: xs, u :: us, .cons r t, f => by
    rw [List.all_cons, Bool.and_eq_true] at f
    rw [List.any_cons, List.any_cons, eqU_of r f.1, any_eqU t f.2]
theorem mem_eqAt {A : Around} {s : Shared} {x : V} {v : Value} (rx : RelV x v) (fx : flatV x = true) : ∀ {xs : List V} {us : List Value}, Vals xs us → xs.all flatV = true → ∀ u ∈ us, SeqAt.EqAt A s u v (eqU x u)
  | _, _, .nil, _ => fun u hu => by cases hu
  | y :: xs, u :: us, .cons r t, f => fun u' hu => by
    rw [List.all_cons, Bool.and_eq_true] at f
    rcases List.mem_cons.mp hu with rfl | hu
    · rw [eqU_of r f.1]; exact eqAt_V r rx f.1 fx
    · exact mem_eqAt rx fx t f.2 u' hu
def inV (x : V) (xs : List V) : Bool := xs.any fun y => eqV y x
def rIn (K : PySem.W.Frag) (neg : Bool) : R2 := fun x y H Q => ∃ p xs, y = .ref p ∧ (SqL K H p xs ∨ SqT K H p xs) ∧ flatV x = true ∧ xs.all flatV = true ∧ Q (.bl (if neg then !inV x xs else inV x xs)) H
theorem op_in_seq : OpR X (compareOp .In) (rIn X.K false) := by
  intro pins s σ H x y v u Q I rx ry h
  obtain ⟨p, xs, rfl, hq, fx, fs, q⟩ := h
  cases ry
  rcases hq with hq | hq
  · obtain ⟨its, r, pl, hz⟩ := I.list hq
    refine SeqAt.in_listAt (eqU x) pl.isList (fun w hw => mem_eqAt rx fx r fs w (by simpa using hw)) ⟨.bl _, H, I, rfl, ?_⟩
    rw [show its.toArray.any (eqU x) = its.any (eqU x) by simp, any_eqU r fs]
    exact q
  · obtain ⟨its, r, pl, hz⟩ := I.tuple hq
    refine SeqAt.in_tupleAt (eqU x) pl (fun w hw => mem_eqAt rx fx r fs w (by simpa using hw)) ⟨.bl _, H, I, rfl, ?_⟩
    rw [show its.toArray.any (eqU x) = its.any (eqU x) by simp, any_eqU r fs]
    exact q
theorem call_len_seq : CallR X (.builtin "len") (fun xs H Q => ∃ p ys, xs = [.ref p] ∧ (SqL X.K H p ys ∨ SqT X.K H p ys) ∧ Q (.int ys.length) H) := by
  intro pins s σ H xs us Q I r h
  obtain ⟨p, ys, rfl, hq, q⟩ := h
  obtain ⟨u, rfl, rx⟩ := vals1 r
  cases rx
  have hn := line63
  rcases hq with hq | hq
  · obtain ⟨its, r', pl, hz⟩ := I.list hq
    have hlen := r'.length
    exact Calls.call_len_list pl.isList (by simp only [List.size_toArray] <;> omega) ⟨.int ys.length, H, I.tok _, ⟨s.toks + 1, by rw [List.size_toArray, hlen]⟩, q⟩
  · obtain ⟨its, r', pl, hz⟩ := I.tuple hq
    have hlen := r'.length
    exact len_tuple pl (by simp only [List.size_toArray] <;> omega) ⟨.int ys.length, H, I.tok _, ⟨s.toks + 1, by rw [List.size_toArray, hlen]⟩, q⟩
theorem call_list_of : CallR X (.type "list") (fun xs H Q => ∃ p ys, xs = [.ref p] ∧ (SqL X.K H p ys ∨ SqT X.K H p ys) ∧ ∀ l, H l = none → Q (.ref l) (upd H l (.lst ys))) := by
  intro pins s σ H xs us Q I r h
  obtain ⟨p, ys, rfl, hq, q⟩ := h
  obtain ⟨u, rfl, rx⟩ := vals1 r
  cases rx
  have fin : ∀ (its : List Value), Vals ys its → ys.length ≤ sizeLine → ∀ (h' : Heap) (c' : Nat), (∀ b o', s.heap.get? b = some o' → h'.get? b = some o') →
      h'.get? s.heap.objs.size = some { cls := .type "list", dict := none, data := .seq its.toArray c', slots := #[] } → EP X pins σ Q (.ref s.heap.objs.size) { s with heap := h' } := fun its r' hz h' c' kp e =>
    ⟨.ref s.heap.objs.size, _, I.laid (t' := s.toks) kp (Nat.le_refl _) (show ObjOk X.prog X.w _ h' _ (.lst ys) from ⟨hz, its, c', r', e⟩), rfl, q _ (I.hok.fresh (Nat.le_refl _))⟩
  rcases hq with hq | hq
  · obtain ⟨its, r', pl, hz⟩ := I.list hq
    have hlen := r'.length
    obtain ⟨o, ho, hc, n, hd⟩ := pl.isList
    exact call_list_seq p (.inl rfl) ho hc hd (fun h' c' kp e => fin its r' hz h' c' kp e) (by simp only [List.size_toArray] <;> omega)
  · obtain ⟨its, r', pl, hz⟩ := I.tuple hq
    have hlen := r'.length
    obtain ⟨o, ho, hc, n, hd⟩ := pl
    exact call_list_seq p (.inr rfl) ho hc hd (fun h' c' kp e => fin its r' hz h' c' kp e) (by simp only [List.size_toArray] <;> omega)
theorem call_tuple_of : CallR X (.type "tuple") (fun xs H Q => ∃ p ys, xs = [.ref p] ∧ ((SqL X.K H p ys ∧ ∀ l, H l = none → Q (.ref l) (upd H l (.tup ys))) ∨ (SqT X.K H p ys ∧ Q (.ref p) H))) := by
  intro pins s σ H xs us Q I r h
  obtain ⟨p, ys, rfl, h⟩ := h
  obtain ⟨u, rfl, rx⟩ := vals1 r
  cases rx
  rcases h with ⟨hq, q⟩ | ⟨hq, q⟩
  · obtain ⟨its, r', pl, hz⟩ := I.list hq
    have hlen := r'.length
    refine call_tuple_list pl.isList (fun h' kp => ?_) (by simp only [List.size_toArray] <;> omega)
    have I1 : Inv X pins σ H { s with heap := h' } := I.kept (t' := s.toks) kp
    have I2 : Inv X pins σ (upd H h'.objs.size (.tup ys)) { s with heap := h'.push { cls := .type "tuple", data := .seq its.toArray } } :=
      I1.laid (t' := s.toks) (fun b o e => Heap.get?_push_of_some _ e) (Nat.le_refl _) (show ObjOk X.prog X.w _ _ _ (.tup ys) from ⟨hz, its, r', IsTup.new _ _⟩)
    exact ⟨.ref h'.objs.size, _, I2, rfl, q _ (I1.hok.fresh (Nat.le_refl _))⟩
  · obtain ⟨its, r', pl, hz⟩ := I.tuple hq
    exact call_tuple_same pl ⟨.ref p, H, I, rfl, q⟩
def tyV (K : PySem.W.Frag) (T : String) (x : V) (H : Hp) : Prop := match x with
  | .str _ => T = "str"
  | .int _ => T = "int"
  | .ref p => (T = "list" ∧ ∃ xs, SqL K H p xs) ∨ (T = "tuple" ∧ ∃ o, K.lookup p = some o ∧ o.cls = .type "tuple" ∧ o.dict = none) ∨
      (T = "dict" ∧ ((∃ kvs, H p = some (.dK kvs)) ∨ ∃ kvs, H p = some (.dT kvs))) ∨ (T = "set" ∧ ∃ S n, H p = some (.set S n))
  | _ => False
theorem tyV_is {pins : List (Addr × Obj)} {σ : St} {H : Hp} {s : Shared} {T : String} {x : V} {v : Value} (I : Inv X pins σ H s) (r : RelV x v) (ty : tyV X.K T x H) :
    s.TypeIs v T ∧ ∀ a, v = .ref a → ∃ ob, s.heap.get? a = some ob ∧ ob.dict = none := by
  cases x with
  | str z =>
    obtain ⟨t, rfl⟩ := r
    cases (show T = "str" from ty)
    exact ⟨typeIs_str s z t, fun _ e => nomatch e⟩
  | int i =>
    obtain ⟨t, rfl⟩ := r
    cases (show T = "int" from ty)
    exact ⟨typeIs_int s i t, fun _ e => nomatch e⟩
  | ref p =>
    cases r
    rcases ty with ⟨rfl, xs, hq⟩ | ⟨rfl, o, hk, hc, hd⟩ | ⟨rfl, hk⟩ | ⟨rfl, S, n, hk⟩
    · obtain ⟨its, _, pl, _⟩ := I.list hq
      refine ⟨pl.isList.typeIs, fun a e => ?_⟩
      cases e
      obtain ⟨o, n, e, c, hd, _⟩ := pl
      exact ⟨o, e, hd⟩
    · refine ⟨⟨o, I.kIn p o hk, hc⟩, fun a e => ?_⟩
      cases e
      exact ⟨o, I.kIn _ o hk, hd⟩
    · have z : ∃ o, s.heap.get? p = some o ∧ o.ExactDict := by
        rcases hk with ⟨kvs, hk⟩ | ⟨kvs, hk⟩
        · obtain ⟨_, _, _, _, o, _, _, e, ex, _⟩ := I.hok p _ hk
          exact ⟨o, e, ex⟩
        · obtain ⟨_, _, _, _, o, _, _, e, ex, _⟩ := I.hok p _ hk
          exact ⟨o, e, ex⟩
      obtain ⟨o, e, ex⟩ := z
      refine ⟨⟨o, e, ex.1⟩, fun a e2 => ?_⟩
      cases e2
      exact ⟨o, e, ex.2.1⟩
    · obtain ⟨o, _, _, _, e, ex, _⟩ := I.hok p _ hk
      refine ⟨⟨o, e, ex.1⟩, fun a e2 => ?_⟩
      cases e2
      exact ⟨o, e, ex.2.1⟩
  | _ => exact False.elim ty
def tBM (K : PySem.W.Frag) (T : String) (r : V → List V → Hp → VK → Prop) (to : TE) (t : TA) : TE := fun σ H Q => to σ H fun x H1 => tyV K T x H1 ∧ t σ H1 fun xs H2 => r x xs H2 Q
variable {o e : Expr} {es : List Expr} {to : TE} {t : TA} {name : Str} {apos cpos : Pos} {T id : String} {r : V → List V → Hp → VK → Prop}
theorem pe_bm (pa : PlainAttrs T) (slot : Slot T name id) (hty : typeOf (.builtin id) = pure (.type "method_descriptor")) (hm : MtR X id r) (ho : PE X o to) (ha : PA X (e :: es) t)
    (hbase : attributeBase o name X.env (eval o X.env) = eval o X.env := by rfl)
    (hfew : ((backTo cpos (starEach (e :: es) X.env)).all (fun x => !x.1) && (backToKw cpos (keywordEach [] X.env)).all (fun x => x.1.isSome)
      && decide ((e :: es).length + ([] : List Keyword).length + (if ([] : List Keyword).isEmpty then 0 else 1) < 30)) = true := by rfl)
    (hline : (apos.endLine == cpos.line) = true := by rfl) (hs : starEach (e :: es) X.env = (false, eval e X.env) :: starEach es X.env := by rfl) (hplain : (backTo cpos (starEach es X.env)).any (·.1) = false := by rfl) :
    PE X (.Call (.Attribute o name apos) (e :: es) [] cpos) (tBM X.K T r to t) := by
  intro pins s σ H Q I h
  refine wpAny_Call_method_late hbase hfew hline rfl (thn (ho pins s σ H _ I h) fun v s1 ⟨x, H1, I1, r1, ty, q1⟩ => ?_)
  obtain ⟨h1, h2⟩ := tyV_is I1 r1 ty
  refine ⟨T, id, pa, slot, hty, h1, h2, ?_⟩
  have hA := ha cpos pins s1 σ H1 _ I1 q1
  rw [hs] at hA ⊢
  refine Calls.callWith_builtin (by show (false || (backTo cpos (starEach es X.env)).any (·.1)) = false; rw [hplain] <;> rfl) (Calls.evalArgs_plain ?_)
  exact thn hA fun us s2 ⟨vs, H2, I2, r2, q2⟩ => hm pins s2 σ H2 x vs v us Q I2 r1 r2 q2
end
end L2
namespace L2
open PySem PySem.Spec PyProof.Rows
def MtM (X : Cx) (id : String) (r : V → List V → Hp → VK → Prop) : Prop :=
  ∀ (pins : List (Addr × Obj)) (s : Shared) (σ : St) (H : Hp) (x : V) (xs : List V) (v : Value) (us : List Value) (Q : VK), Inv X pins σ H s → RelV x v → Vals xs us → r x xs H Q →
    wpAny (model X.prog X.w) X.A (call (.builtin id) (v :: us)) (EP X pins σ Q) X.xe s
theorem Vals.one : ∀ {x : V} {us : List Value}, Vals [x] us → ∃ u, us = [u] ∧ RelV x u
  | _, _, .cons r .nil => ⟨_, rfl, r⟩
theorem Vals.eraseIdx : ∀ {xs : List V} {us : List Value} (i : Nat), Vals xs us → Vals (xs.eraseIdx i) (us.eraseIdx i)
  | _, _, _, .nil => .nil
  | _, _, 0, .cons _ t => t
  | _, _, i + 1, .cons r t => .cons r (Vals.eraseIdx i t)
theorem len_erase {α : Type} : ∀ (l : List α) (i : Nat), (l.eraseIdx i).length ≤ l.length
  | [], _ => Nat.le_refl _
  | _ :: _, 0 => Nat.le_succ _
  | _ :: r, i + 1 => Nat.succ_le_succ (len_erase r i)
section
variable {X : Cx} {pins : List (Addr × Obj)} {σ : St} {H : Hp} {s : Shared} {l b : Addr} {xs ys zs : List V}
theorem Inv.lset {its its' : List Value} {n : Nat} {f : Array Value → Array Value} {t' : Nat} (I : Inv X pins σ H s) (hH : H l = some (.lst xs))
    (e : s.heap.get? l = some { cls := .type "list", data := .seq its.toArray n }) (hf : f its.toArray = its'.toArray) (hv : Vals ys its') (hz : ys.length ≤ sizeLine) :
    Inv X pins σ (upd H l (.lst ys)) { s with heap := s.heap.update l (Obj.mapSeq f), toks := t' } := by
  have q := PySem.IsL.update e f
  rw [hf] at q
  refine I.write (x := l) (e := l) (by rw [hH]; exact trivial) (.inl rfl) (fun b' u hb hu => (Heap.get?_update_other s.heap (Obj.mapSeq f) (Ne.symm hb)).trans hu) ⟨_, q⟩ ?_
  exact ⟨hz, its', _, hv, q⟩
theorem Inv.lnew {its : List Value} {t' : Nat} (I : Inv X pins σ H s) (hv : Vals ys its) (hz : ys.length ≤ sizeLine) :
    Inv X pins σ (upd H s.heap.objs.size (.lst ys)) { s with heap := s.heap.push { cls := .type "list", data := .seq its.toArray }, toks := t' } :=
  I.laid (fun _ _ q => Heap.get?_push_of_some _ q) (Nat.le_refl _) ⟨hz, its, 0, hv, Heap.get?_push_size _ rfl⟩
theorem Inv.fresh (I : Inv X pins σ H s) : H s.heap.objs.size = none := I.hok.fresh (Nat.le_refl _)
theorem Inv.lstM (I : Inv X pins σ H s) (hH : H l = some (.lst xs)) : xs.length ≤ sizeLine ∧ ∃ (its : List Value) (n : Nat), Vals xs its ∧ xs.length = its.length ∧ s.heap.get? l = some { cls := .type "list", data := .seq its.toArray n } := by
  obtain ⟨z, its, n, r, e⟩ := I.hok l _ hH
  exact ⟨z, its, n, r, r.length, e⟩
theorem notLongL {n : Nat} (h : n ≤ sizeLine) : Builtin.List.listTooLong n = false := by
  unfold Builtin.List.listTooLong
  exact decide_eq_false (by omega)
end
section
variable {X : Cx}
def rAppend : V → List V → Hp → VK → Prop := fun x vs H Q => ∃ l xs y, x = .ref l ∧ vs = [y] ∧ H l = some (.lst xs) ∧ xs.length < sizeLine ∧ Q .non (upd H l (.lst (xs ++ [y])))
theorem mt_append : MtM X "list.append" rAppend := by
  intro pins s σ H x vs v us Q I rx rv h
  obtain ⟨l, xs, y, rfl, rfl, hH, hz, q⟩ := h
  cases rx
  obtain ⟨u, rfl, ru⟩ := rv.one
  obtain ⟨z, its, n, r, hl, e⟩ := I.lstM hH
  refine call_meets F.slot_list_append ⟨_, e, rfl⟩ F.entry_list_append (F.args_list_append_2 _ _) (PySem.list_append l its.toArray n u (by rw [List.size_toArray]; omega)) ⟨e, ?_⟩
  refine ⟨.non, _, I.lset (its' := its ++ [u]) hH e (by simp) (r.append (.cons ru .nil)) ?_, rfl, q⟩
  rw [List.length_append, List.length_singleton]
  omega
def rExtend : V → List V → Hp → VK → Prop := fun x vs H Q => ∃ l b xs zs, x = .ref l ∧ vs = [.ref b] ∧ H l = some (.lst xs) ∧ H b = some (.lst zs) ∧ xs.length + zs.length ≤ sizeLine ∧ Q .non (upd H l (.lst (xs ++ zs)))
theorem mt_extend : MtM X "list.extend" rExtend := by
  intro pins s σ H x vs v us Q I rx rv h
  obtain ⟨l, b, xs, zs, rfl, rfl, hH, hB, hz, q⟩ := h
  cases rx
  obtain ⟨u, rfl, ru⟩ := rv.one
  cases ru
  obtain ⟨z, its, n, r, hl, e⟩ := I.lstM hH
  obtain ⟨z2, its2, n2, r2, hl2, e2⟩ := I.lstM hB
  have hsz : its.toArray.size + its2.toArray.size ≤ sizeLine := by rw [List.size_toArray, List.size_toArray]; omega
  have hlong : ¬ (!its.toArray.isEmpty && Builtin.List.listTooLong (its.toArray.size + its2.toArray.size)) = true := by
    rw [notLongL hsz, Bool.and_false]
    exact Bool.false_ne_true
  refine call_meets F.slot_list_extend ⟨_, e, rfl⟩ F.entry_list_extend (F.args_list_extend_2 _ _)
    (AutoSeq1.list_extend_list_list_0 l its.toArray n b its2.toArray n2 hlong (by rw [List.size_toArray]; omega) (by omega)) ⟨e, e2, ?_⟩
  refine ⟨.non, _, I.lset (its' := its ++ its2) hH e (by simp) (r.append r2) ?_, rfl, q⟩
  rw [List.length_append]
  omega
def rPopAt : V → List V → Hp → VK → Prop := fun x vs H Q => ∃ l xs i k y, x = .ref l ∧ vs = [.int i] ∧ H l = some (.lst xs) ∧ -(2 ^ 63) ≤ i ∧ i < 2 ^ 63 ∧ seqIndex? i xs.length = some k ∧ xs[k]? = some y ∧ Q y (upd H l (.lst (xs.eraseIdx k)))
theorem mt_popAt : MtM X "list.pop" rPopAt := by
  intro pins s σ H x vs v us Q I rx rv h
  obtain ⟨l, xs, i, k, y, rfl, rfl, hH, h1, h2, hk, hy, q⟩ := h
  cases rx
  obtain ⟨u, rfl, ru⟩ := rv.one
  obtain ⟨t, rfl⟩ := ru
  obtain ⟨z, its, n, r, hl, e⟩ := I.lstM hH
  obtain ⟨w, hw, rw'⟩ := r.get hy
  refine call_meets F.slot_list_pop ⟨_, e, rfl⟩ F.entry_list_pop (F.args_list_pop_2 _ _)
    (MeetsSeq.list_pop_at l its.toArray n i t k w (fitsIndex_both h1 h2) (by rw [List.size_toArray, ← hl]; exact hk) (by rw [← Array.getElem?_toList]; exact hw) (by rw [List.size_toArray]; omega)) ⟨e, ?_⟩
  refine ⟨y, _, I.lset (its' := its.eraseIdx k) hH e ?_ (r.eraseIdx k) ?_, rw', q⟩
  · show its.toArray.eraseIdxIfInBounds k = (its.eraseIdx k).toArray
    rw [List.eraseIdxIfInBounds_toArray]
  · have := len_erase xs k
    omega
def rCat : R2 := fun x y H Q => ∃ l b xs zs, x = .ref l ∧ y = .ref b ∧ H l = some (.lst xs) ∧ H b = some (.lst zs) ∧ xs.length + zs.length ≤ sizeLine ∧ ∀ p, H p = none → Q (.ref p) (upd H p (.lst (xs ++ zs)))
theorem op_cat : OpR X (binaryOp .Add) rCat := by
  intro pins s σ H x y v u Q I rx ry h
  obtain ⟨l, b, xs, zs, rfl, rfl, hH, hB, hz, q⟩ := h
  cases rx
  cases ry
  obtain ⟨z, its, n, r, hl, e⟩ := I.lstM hH
  obtain ⟨z2, its2, n2, r2, hl2, e2⟩ := I.lstM hB
  refine PySem.P.add_list e e2 ?_ (by rw [List.size_toArray, List.size_toArray]; omega)
  have ea : its.toArray ++ its2.toArray = (its ++ its2).toArray := by simp
  rw [ea]
  exact ⟨.ref _, _, I.lnew (t' := s.toks) (r.append r2) (by rw [List.length_append]; omega), rfl, q _ I.fresh⟩
end
end L2
namespace L2
open PySem PySem.Spec PyProof.Rows
section
variable {κ : Type} [DecidableEq κ]
def valV (kvs : List (κ × V)) (k : κ) : Option V := (kvs.find? fun kv => decide (kv.1 = k)).map (·.2)
def putK (kvs : List (κ × V)) (k : κ) (v : V) : List (κ × V) :=
  if (kvs.any fun kv => decide (kv.1 = k)) = true then kvs.map (fun kv => if kv.1 = k then (kv.1, v) else kv) else kvs ++ [(k, v)]
theorem valV_pos {p : κ × V} {r : List (κ × V)} {k : κ} (e : p.1 = k) : valV (p :: r) k = some p.2 := by simp [valV, List.find?_cons, e]
theorem valV_neg {p : κ × V} {r : List (κ × V)} {k : κ} (e : ¬ p.1 = k) : valV (p :: r) k = valV r k := by simp [valV, List.find?_cons, e]
theorem valV_any (k : κ) : ∀ kvs : List (κ × V), (kvs.any fun kv => decide (kv.1 = k)) = (valV kvs k).isSome
  | [] => rfl
  | p :: r => by
    rw [List.any_cons]
    by_cases e : p.1 = k
    · simp only [valV_pos e, decide_eq_true e, Bool.true_or, Option.isSome_some]
    · rw [valV_neg e, decide_eq_false e, Bool.false_or]; exact valV_any k r
theorem length_putK (kvs : List (κ × V)) (k : κ) (v : V) : (putK kvs k v).length ≤ kvs.length + 1 := by
  unfold putK
  split
  · rw [List.length_map]; omega
  · rw [List.length_append, List.length_cons, List.length_nil]; omega
theorem putK_new {kvs : List (κ × V)} {k : κ} (v : V) (h : valV kvs k = none) : putK kvs k v = kvs ++ [(k, v)] := by
  unfold putK
  rw [valV_any, h]
  exact if_neg (by decide)
theorem RelO.isSome_eq {o : Option V} {u : Option Value} (r : RelO o u) : o.isSome = u.isSome := by
  cases o with
  | none => cases u with
    | none => rfl
    | some _ => exact (show False from r).elim
  | some _ => cases u with
    | none => exact (show False from r).elim
    | some _ => rfl
theorem KV.val {kvs : List (κ × V)} {vs : List (κ × Value)} (r : KV kvs vs) (k : κ) : RelO (valV kvs k) (valueAt vs k) := by
  unfold KV at r
  induction r with
  | nil => exact True.intro
  | @cons p q ps qs h t ih =>
    obtain ⟨h1, h2⟩ := h
    by_cases e : p.1 = k
    · have e' : q.1 = k := h1.symm.trans e
      have b : valueAt (q :: qs) k = some q.2 := by simp [valueAt, List.find?_cons, e']
      rw [valV_pos e, b]; exact h2
    · have e' : ¬ q.1 = k := fun z => e (h1.trans z)
      have b : valueAt (q :: qs) k = valueAt qs k := by simp [valueAt, List.find?_cons, e']
      rw [valV_neg e, b]; exact ih
theorem KV.any {kvs : List (κ × V)} {vs : List (κ × Value)} (r : KV kvs vs) (k : κ) : (kvs.any fun kv => decide (kv.1 = k)) = vs.any fun kv => decide (kv.1 = k) := by
  unfold KV at r
  induction r with
  | nil => rfl
  | cons h t ih => rw [List.any_cons, List.any_cons, ih, h.1]
theorem KV.repl {kvs : List (κ × V)} {vs : List (κ × Value)} (r : KV kvs vs) (k : κ) {y : V} {u : Value} (ry : RelV y u) :
    KV (kvs.map fun kv => if kv.1 = k then (kv.1, y) else kv) (vs.map fun kv => if kv.1 = k then (kv.1, u) else kv) := by
  unfold KV at r ⊢
  induction r with
  | nil => exact .nil
  | @cons p q ps qs h t ih =>
    rw [List.map_cons, List.map_cons]
    refine .cons ?_ ih
    obtain ⟨h1, h2⟩ := h
    by_cases e : p.1 = k
    · rw [if_pos e, if_pos (h1.symm.trans e)]; exact ⟨h1, ry⟩
    · rw [if_neg e, if_neg (fun z => e (h1.trans z))]; exact ⟨h1, h2⟩
theorem KV.put {kvs : List (κ × V)} {vs : List (κ × Value)} (r : KV kvs vs) (k : κ) {y : V} {u : Value} (ry : RelV y u) : KV (putK kvs k y) (stored vs k u) := by
  unfold putK stored
  rw [r.any k]
  by_cases e : (vs.any fun kv => decide (kv.1 = k)) = true
  · rw [if_pos e, if_pos e]; exact r.repl k ry
  · rw [if_neg e, if_neg e]; exact Paired.snoc r ⟨rfl, ry⟩
theorem KV.length {kvs : List (κ × V)} {vs : List (κ × Value)} (r : KV kvs vs) : kvs.length = vs.length := Paired.length r
end
theorem kV_is {P : Program} {w : World} {k : Key} {u : Value} (r : RelV (kV k) u) : (mixKind P w).is k u = true := by
  cases k with
  | inl i => obtain ⟨t, e⟩ := (show ∃ t, u = Value.int i t from r); subst e; exact mixKind_int P w i t
  | inr x => obtain ⟨t, e⟩ := (show ∃ t, u = Value.str x t from r); subst e; exact mixKind_str P w x t
theorem items_are {P : Program} {w : World} : ∀ {ks : List Key} {us : List Value}, Vals (ks.map kV) us → ItemsAre (mixKind P w) ks us
  | [], _, r => by rw [List.map_nil] at r; cases r; exact .nil
  | k :: ks, _, r => by
    rw [List.map_cons] at r
    cases r with
    | cons h t => exact .cons (kV_is h) (items_are t)
abbrev KT (H : Hp) : List (List Key × V) → List (List Key × Addr × Value) → Prop := Paired fun p q => p.1 = q.1 ∧ H q.2.1 = some (.tup (p.1.map kV)) ∧ RelV p.2 q.2.2
theorem KT.val {H : Hp} {kvs : List (List Key × V)} {xs : List (List Key × Addr × Value)} (r : KT H kvs xs) (k : List Key) : RelO (valV kvs k) ((atKey xs k).map (·.2)) := by
  induction r with
  | nil => exact True.intro
  | @cons p q ps qs h t ih =>
    obtain ⟨h1, _, h2⟩ := h
    by_cases e : p.1 = k
    · have e' : q.1 = k := h1.symm.trans e
      have b : atKey (q :: qs) k = some q.2 := by simp [atKey, List.find?_cons, e']
      rw [valV_pos e, b]; exact h2
    · have e' : ¬ q.1 = k := fun z => e (h1.trans z)
      have b : atKey (q :: qs) k = atKey qs k := by simp [atKey, List.find?_cons, e']
      rw [valV_neg e, b]; exact ih
theorem KT.repl {H : Hp} {kvs : List (List Key × V)} {xs : List (List Key × Addr × Value)} (r : KT H kvs xs) (k : List Key) {y : V} {u : Value} (ry : RelV y u) :
    KT H (kvs.map fun kv => if kv.1 = k then (kv.1, y) else kv) (xs.map (putAt k u)) := by
  induction r with
  | nil => exact .nil
  | @cons p q ps qs h t ih =>
    rw [List.map_cons, List.map_cons]
    refine .cons ?_ ih
    obtain ⟨h1, h2, h3⟩ := h
    unfold putAt
    by_cases e : p.1 = k
    · rw [if_pos e, if_pos (h1.symm.trans e)]; exact ⟨h1, h2, ry⟩
    · rw [if_neg e, if_neg (fun z => e (h1.trans z))]; exact ⟨h1, h2, h3⟩
theorem KT.put {H : Hp} {kvs : List (List Key × V)} {xs : List (List Key × Addr × Value)} (r : KT H kvs xs) (k : List Key) {b : Addr} {y : V} {u : Value} (hb : H b = some (.tup (k.map kV))) (ry : RelV y u) :
    KT H (putK kvs k y) (storedH xs k b u) := by
  have e : (kvs.any fun kv => decide (kv.1 = k)) = (atKey xs k).isSome := by
    rw [valV_any, (r.val k).isSome_eq, Option.isSome_map]
  unfold putK storedH
  rw [e]
  by_cases q : (atKey xs k).isSome = true
  · rw [if_pos q, if_pos q]; exact r.repl k ry
  · rw [if_neg q, if_neg q]; exact Paired.snoc r ⟨rfl, hb, ry⟩
theorem KT.keeps {H H' : Hp} {kvs : List (List Key × V)} {xs : List (List Key × Addr × Value)} (r : KT H kvs xs) (ht : ∀ b ys, H b = some (.tup ys) → H' b = some (.tup ys)) : KT H' kvs xs :=
  Paired.mapP r fun _ _ z => ⟨z.1, ht _ _ z.2.1, z.2.2⟩
section
variable {P : Program} {w : World} {H : Hp} {h : Heap} {a : Addr}
theorem rd_of {u : HO} (ok : HOk P w H h) (e : Rd H a u) : ObjOk P w H h a u := e.ok ok
theorem dk_rd {kvs : List (Key × V)} (ok : HOk P w H h) (e : Rd H a (.dK kvs)) : kvs.length ≤ sizeLine ∧ (a == sysModules) = false ∧ ∃ vs, KV kvs vs ∧ h.DictOf (mixKind P w) a vs :=
  show ObjOk P w H h a (.dK kvs) from rd_of ok e
theorem dk_of {kvs : List (Key × V)} (ok : HOk P w H h) (e : H a = some (.dK kvs)) : kvs.length ≤ sizeLine ∧ (a == sysModules) = false ∧ ∃ vs, KV kvs vs ∧ h.DictOf (mixKind P w) a vs := dk_rd ok (.inl e)
theorem key_of {ks : List Key} (ok : HOk P w H h) (e : H a = some (.tup (ks.map kV))) : (tupleKind (mixKind P w)).is h ks a := by
  obtain ⟨_, its, r, o, h1, h2, n, h3⟩ := (show ObjOk P w H h a (.tup (ks.map kV)) from ok a _ e)
  exact ⟨o, its.toArray, n, h1, h2, h3, by simpa using items_are r⟩
theorem dt_rd {kvs : List (List Key × V)} (ok : HOk P w H h) (e : Rd H a (.dT kvs)) : kvs.length ≤ sizeLine ∧ (a == sysModules) = false ∧
    ∃ xs, KT H kvs xs ∧ h.DictOfH (tupleKind (mixKind P w)) a xs := by
  obtain ⟨z, y, xs, r, o, es, ep, h1, h2, h3, h4, h5⟩ := (show ObjOk P w H h a (.dT kvs) from rd_of ok e)
  refine ⟨z, y, xs, r, o, es, ep, h1, h2, h3, h4, fun x hx => ?_, h5⟩
  have all : ∀ {l : List (List Key × V)} {m : List (List Key × Addr × Value)}, KT H l m → ∀ x ∈ m, (tupleKind (mixKind P w)).is h x.1 x.2.1 := by
    intro l m q
    induction q with
    | nil => intro x hx; exact nomatch hx
    | @cons p q ps qs hq t ih =>
      intro x hx
      rcases List.mem_cons.mp hx with e | hx
      · subst e
        exact key_of ok (by rw [← hq.1]; exact hq.2.1)
      · exact ih x hx
  exact all r x hx
theorem dt_of {kvs : List (List Key × V)} (ok : HOk P w H h) (e : H a = some (.dT kvs)) : kvs.length ≤ sizeLine ∧ (a == sysModules) = false ∧
    ∃ xs, KT H kvs xs ∧ h.DictOfH (tupleKind (mixKind P w)) a xs := dt_rd ok (.inl e)
end
def DGet (H : Hp) (a : Addr) (y : V) (r : Option V) : Prop :=
  (∃ kvs k, Rd H a (.dK kvs) ∧ y = kV k ∧ r = valV kvs k) ∨ ∃ kvs k b, Rd H a (.dT kvs) ∧ y = .ref b ∧ H b = some (.tup (k.map kV)) ∧ r = valV kvs k
def DPut (H : Hp) (a : Addr) (y v : V) (H' : Hp) : Prop :=
  (∃ kvs k, H a = some (.dK kvs) ∧ y = kV k ∧ kvs.length < sizeLine ∧ H' = upd H a (.dK (putK kvs k v))) ∨
  ∃ kvs k b, H a = some (.dT kvs) ∧ y = .ref b ∧ H b = some (.tup (k.map kV)) ∧ kvs.length < sizeLine ∧ H' = upd H a (.dT (putK kvs k v))
theorem DGet.k {H : Hp} {a : Addr} {kvs : List (Key × V)} {k : Key} (e : H a = some (.dK kvs)) : DGet H a (kV k) (valV kvs k) := .inl ⟨kvs, k, .inl e, rfl, rfl⟩
theorem DPut.k {H : Hp} {a : Addr} {kvs : List (Key × V)} {k : Key} {v : V} (e : H a = some (.dK kvs)) (hl : kvs.length < sizeLine) : DPut H a (kV k) v (upd H a (.dK (putK kvs k v))) := .inl ⟨kvs, k, e, rfl, hl, rfl⟩
section
variable {X : Cx} {pins : List (Addr × Obj)} {σ : St} {H : Hp} {s : Shared} {a : Addr} {y v : V} {u r : Value} {o : Option V} {A : Around} {E : Value → Shared → Prop}
theorem Inv.big (I : Inv X pins σ H s) : sysModules < s.heap.objs.size := by
  have h : mainGlobals < s.heap.objs.size := (I.mod.glob.keeps I.bk).lt
  exact Nat.lt_trans (by decide) h
theorem d_in {Q : Value → Shared → Prop} (hu : A.units + 1 < cLine) (I : Inv X pins σ H s) (g : DGet H a y o) (ry : RelV y u) (h : ∀ s', Inv X pins σ H s' → Q (.bool o.isSome) s') :
    wpAny (model X.prog X.w) A (compareOp .In u (.ref a)) Q E s := by
  rcases g with ⟨kvs, k, e, ey, l⟩ | ⟨kvs, k, b, e, ey, eb, l⟩
  · subst ey
    obtain ⟨z, hd, vs, rel, dd⟩ := dk_rd I.hok e
    refine wpAny_in_of (kV_is ry) hd dd.mapOf ?_
    rw [← (rel.val k).isSome_eq, ← l]
    exact h _ (I.tok _)
  · subst ey
    cases (show u = Value.ref b from ry)
    obtain ⟨z, hd, xs, rel, dd⟩ := dt_rd I.hok e
    refine wpAny_in_heap (tupleKind_room_in1 hu) (key_of I.hok eb) hd dd ?_
    have q := (rel.val k).isSome_eq
    rw [Option.isSome_map] at q
    rw [← q, ← l]
    exact h _ (I.tok _)
theorem d_write {h' : Heap} {t' : Nat} {ob : HO} (I : Inv X pins σ H s) (mu : Mut (H a)) (hs : Heap.SameBut a s.heap h') (he : ∃ q, h'.get? a = some q) (new : ObjOk X.prog X.w (upd H a ob) h' a ob) :
    Inv X pins σ (upd H a ob) { s with heap := h', toks := t' } :=
  I.write (x := a) (e := a) mu (.inl rfl) (fun b q hb z => (hs.2 b hb).trans z) he new
theorem dk_new {P : Program} {w : World} {H' : Hp} {h' : Heap} {kvs : List (Key × V)} {vs : List (Key × Value)} (z : kvs.length ≤ sizeLine) (hd : (a == sysModules) = false) (rel : KV kvs vs) (dd : h'.DictOf (mixKind P w) a vs) :
    ObjOk P w H' h' a (.dK kvs) := ⟨z, hd, vs, rel, dd⟩
theorem d_setItem {H' : Hp} {Q : Unit → Shared → Prop} (hu : A.units + 1 < cLine) (I : Inv X pins σ H s) (g : DPut H a y v H') (ry : RelV y u) (rv : RelV v r) (h : ∀ s', Inv X pins σ H' s' → Q () s') :
    wpAny (model X.prog X.w) A (setItem (.ref a) u r) Q E s := by
  rcases g with ⟨kvs, k, e, ey, l, eH⟩ | ⟨kvs, k, b, e, ey, eb, l, eH⟩
  · subst ey eH
    obtain ⟨z, hd, vs, rel, dd⟩ := dk_of I.hok e
    have hz : vs.length ≤ sizeLine := by rw [← rel.length]; exact z
    have hl : (putK kvs k v).length ≤ sizeLine := by have := length_putK kvs k v; omega
    refine wpAny_setItem_pairs (hsz := hz) (kV_is ry) dd fun h' dd' hs => h _ ?_
    have he : ∃ q, h'.get? a = some q := let ⟨q, _, _, hq, _⟩ := dd'; ⟨q, hq⟩
    exact d_write I (by rw [e]; exact True.intro) hs he (dk_new hl hd (rel.put k rv) dd')
  · subst ey eH
    cases (show u = Value.ref b from ry)
    obtain ⟨z, hd, xs, rel, dd⟩ := dt_of I.hok e
    have hz : xs.length ≤ sizeLine := by rw [← Paired.length rel]; exact z
    have hl : (putK kvs k v).length ≤ sizeLine := by have := length_putK kvs k v; omega
    refine wpAny_setItem_heap (hsz := hz) (tupleKind_room_in1 hu) (key_of I.hok eb) dd fun h' dd' hs => h _ ?_
    obtain ⟨q, es, ep, hq, h2, h3, h4, _, h5⟩ := dd'
    refine d_write I (by rw [e]; exact True.intro) hs ⟨q, hq⟩ ⟨hl, hd, _, (rel.put k eb rv).keeps fun c ys ec => ?_, q, es, ep, hq, h2, h3, h4, h5⟩
    rw [upd_ne (ne_of ec e (fun z => nomatch z))]
    exact ec
end
def tDIn (ty td : TE) : TE := fun σ H Q => ty σ H fun y H1 => td σ H1 fun x H2 => ∃ a o, x = .ref a ∧ DGet H2 a y o ∧ Q (.bl o.isSome) H2
def sDPut (td ty tv : TE) : TS := fun D σ H => tv σ H fun v H1 => td σ H1 fun x H2 => ty σ H2 fun y H3 => ∃ a H4, x = .ref a ∧ DPut H3 a y v H4 ∧ D.nx σ H4
section
variable {X : Cx} {o i e value : Expr} {pos pos' tpos : Pos} {td ty tv : TE}
theorem pc_din (hu : X.A.units + 1 < cLine) (hi : PE X i ty) (ho : PE X o td) : PC X .In i o (tDIn ty td) := by
  intro pins s σ H Q I h
  refine thn (hi pins s σ H _ I h) fun iv s1 ⟨y, H1, I1, ry, q1⟩ => thn (ho pins s1 σ H1 _ I1 q1) fun u s2 ⟨x, H2, I2, rx, a, ov, ex, g, q2⟩ => ?_
  subst ex
  obtain rfl : u = Value.ref a := rx
  exact d_in hu I2 g ry fun s3 I3 => ⟨.bl ov.isSome, H2, I3, rfl, q2⟩
theorem ps_dput (hu : X.A.units + 1 < cLine) (ho : PE X o td) (hi : PE X i ty) (hv : PE X value tv) (hs : swapsWith value (some (.Subscript o i pos')) pos.line X.env = pure false) :
    PS X (.Assign [.Subscript o i pos'] value pos) (sDPut td ty tv) := by
  intro pins s σ H D I h
  refine wpAny_Assign_Subscript (thn (hv pins s σ H _ I h) fun r s1 ⟨v, H1, I1, rv, q1⟩ => thn (ho pins s1 σ H1 _ I1 q1) fun u s2 ⟨x, H2, I2, rx, q2⟩ => thn (hi pins s2 σ H2 _ I2 q2) fun iv s3 ⟨y, H3, I3, ry, a, H4, ex, g, q3⟩ => ?_) hs
  subst ex
  obtain rfl : u = Value.ref a := rx
  exact d_setItem hu I3 g ry rv fun s4 I4 => ⟨σ, H4, I4, q3⟩
end
theorem dk_empty {P : Program} {w : World} {H : Hp} (h : Heap) (hb : sysModules < h.objs.size) : ObjOk P w H (h.push { cls := .type "dict", data := .dict #[] }) h.objs.size (.dK []) :=
  ⟨Nat.zero_le _, beq_eq_false_iff_ne.mpr (Ne.symm (Nat.ne_of_lt hb)), [], .nil, Heap.DictOf.new h⟩
def tDNewK : TE := fun _ H Q => ∀ p, H p = none → Q (.ref p) (upd H p (.dK []))
section
variable {X : Cx} {pos : Pos}
theorem pe_dnewK : PE X (.Dict [] [] pos) tDNewK := fun pins s σ H Q I h =>
  wpAny_Dict_empty ⟨.ref s.heap.objs.size, _, I.laid (a := s.heap.objs.size) (o := .dK []) (t' := s.toks) (fun _ _ q => Heap.get?_push_of_some _ q) (Nat.le_refl _) (dk_empty s.heap I.big), rfl, h _ (I.hok.fresh (Nat.le_refl _))⟩
end
end L2
namespace Att
open PySem PySem.W PySem.Calls PyProof.Rows
theorem ints_of_wellAll {P : Params} {h : Heap} : ∀ (ns : List Int) (vs : List Value), WellAll P h vs (ns.map WData.int) → IntsAre vs ns := by
  intro ns
  induction ns with
  | nil =>
    intro vs w
    rw [List.map_nil] at w
    cases w
    exact .nil
  | cons n ns ih =>
    intro vs w
    rw [List.map_cons] at w
    cases w with
    | cons a b =>
      cases a
      exact .cons _ _ (ih _ b)
theorem script_of {l : OpenLaw} {n : Nat} (hn : l.most = some n) {P : Params} {h : Heap} {args : List WData} {vals : List Value}
    (hpre : l.row.toRowW.claim.pre args = true) (hwl : WellAll P h vals args) :
    ∃ a vs ns, vals = [Value.ref a] ∧ args = [WData.list (ns.map WData.int)] ∧ h.get? a = some { cls := .type "list", data := .seq vs.toArray } ∧ IntsAre vs ns ∧ ns.length ≤ n := by
  have hsh : WShape.hasAll [] args [.list .int] = true := (pre_splitW hpre).1
  have hc : l.pre.holds [] { args := args } = true := (pre_splitW hpre).2
  obtain ⟨d, r, rfl, h1, h2⟩ := hasAllW_cons hsh
  obtain rfl := hasAllW_nil h2
  obtain ⟨xs, rfl, h3⟩ := hasW_list h1
  obtain ⟨ns, rfl⟩ := items_int h3
  have hlen : ns.length ≤ n := by
    unfold OpenLaw.pre at hc
    have h4 : (WTm.not (.lt (.lit (.int (n : Int))) (.len (.arg 0)))).holds [] { args := [.list (ns.map .int)] } = true := by
      have h4 := (holds_andW hc).1
      rw [hn] at h4
      exact h4
    have h5 := condW_of h4 (w_not (w_lt w_lit (w_len_list (w_arg rfl))))
    rw [List.length_map] at h5
    refine Nat.le_of_not_lt fun q => ?_
    have q' : (n : Int) < ((ns.length : Nat) : Int) := by omega
    first
      | (rw [decide_eq_true q'] at h5; exact absurd h5 (by decide))
      | (simp at h5; omega)
  cases hwl with
  | cons w1 w2 =>
    cases w2
    cases w1 with
    | list ho hall => exact ⟨_, _, ns, rfl, rfl, ho, ints_of_wellAll ns _ hall, hlen⟩
theorem post_true (l : OpenLaw) (args : List WData) : l.row.toRowW.claim.post args (.bool true) args = true :=
  postW_of (r := l.row.toRowW) (X := (true == true))
    (show WShape.has [] (.bool true) .bool = true by first | rfl | decide | simp [WShape.has, WShape.arms, WShape.armsAll])
    (show (WTm.eq .res (.lit (.bool true))).value [] { args := args, res := some (.bool true), after := args } = some (.bool (true == true)) from w_eq_bool (w_res rfl) w_lit) rfl
theorem attach_call {l : OpenLaw} {n : Nat} {q : Program} {loose : List Str} {XP : (Str → Option Value) → Heap → Prop} {YP : World → Heap → Prop} {d : DefRec}
    (hn : l.most = some n) (hdf : d.params.defaults = [])
    (call : ∀ (w : World) (s₀ s₁ : Shared) (mg mb : Str → Option Value) (fa : Addr) (o : Obj) (pm cd doc : Value) (a : Addr) (vs : List Value) (ns : List Int),
      Ground q loose [] XP w s₀ mg mb s₁.heap → YP w s₁.heap →
      s₁.heap.get? fa = some o → o.data = .func (docDef d.name d.params d.body d.scope pm cd doc) → s₁.heap.CodeRec cd d.name → mg d.name = some (.ref fa) →
      s₁.heap.get? a = some { cls := .type "list", data := .seq vs.toArray } → IntsAre vs ns → ns.length ≤ n → s₁.gens = #[] →
      codeAny (model l.prog w) callerA (.call (.ref fa) ⟨[.ref a], []⟩) (fun r s' => r = .ok (.ret (.bool true)) ∧ OldK s₁.heap s'.heap ∧ s'.os = s₁.os ∧ AllBare s'.gens) s₁) :
    WalkO q loose XP YP l.row.toRowW d [] (fun f vs => PySem.call f vs) := by
  intro w s₀ s₁ mg mb G Y fa o pm cd doc dV kV ho hd hcd hD hmg hg args vals as hpre hlay hrd hwl hlo
  obtain rfl : dV = .none := Dflts.none hD hdf
  obtain rfl : kV = .none := Dflts.noKw hD
  obtain ⟨a, vs, ns, rfl, rfl, hobj, hints, hlen⟩ := script_of hn hpre hwl
  refine enter_call (codeAny_mono (call w s₀ s₁ mg mb fa o pm cd doc a vs ns G Y ho (fd_plain hd) hcd hmg hobj hints hlen hg) fun r s' hq => ?_)
  obtain ⟨rfl, h2, h3, h4⟩ := hq
  exact ⟨.inl ⟨.bool true, .bool true, [], rfl, fun _ => rfl, .bool true, post_true l _, fun _ => ⟨List.Pairwise.nil, fun _ hm => (nomatch hm)⟩⟩, h2, h3, h4⟩
end Att
namespace L2
open PySem PySem.Spec PyProof.Rows
theorem vals_ints : ∀ {vs : List Value} {ns : List Int}, IntsAre vs ns → Vals (ns.map V.int) vs
  | _, _, .nil => .nil
  | _, _, .cons n t h => .cons ⟨t, rfl⟩ (vals_ints h)
def Only (H : Hp) : Prop := ∀ b, H b = none ∨ ∃ o xs, H b = some (.frz o (.lst xs))
theorem law_call {P : Program} {w : World} {K : PySem.W.Frag} {mg mb : Str → Option Value} {CX : CXT} {k : Nat} {fa a : Addr} {fd : FuncData} {x : Str} {sp : Sp} {s₁ : Shared} {vs : List Value} {ns : List Int}
    (KX : K.In s₁.heap) (hns : s₁.heap.Ns mainGlobals mg) (hb : s₁.heap.Ns builtinsNs mb) (hbb : ∀ x : Str, x ≠ "__name__" → mb x = bootBuiltins x) (hlim : s₁.heap.NoLimit) (hg : s₁.gens = #[])
    (ha : s₁.heap.get? a = some { cls := .type "list", data := .seq vs.toArray }) (hi : IntsAre vs ns) (hl : ns.length ≤ sizeLine) (hr : Room k callerA)
    (F : ∀ base : Heap, K.In base → base.Ns mainGlobals mg → FnOk P w K mg base CX k fa fd [x] sp) (hbind : ∀ (s : Shared) (u : Value), BindsTo s fd ⟨[u], []⟩ [(x, u)])
    (hsp : ∀ H : Hp, Only H → SqL K H a (ns.map V.int) → sp [.ref a] H (fun v _ => v = .bl true) fun _ _ _ => False)
    (hCX : ∀ H e s', CX [] H s₁ (fun _ _ _ => False) e s' → False) :
    codeAny (model P w) callerA (.call (.ref fa) ⟨[.ref a], []⟩) (fun r s' => r = .ok (.ret (.bool true)) ∧ OldK s₁.heap s'.heap ∧ s'.os = s₁.os ∧ AllBare s'.gens) s₁ := by
  have rv := vals_ints hi
  have lenV := hi.length
  have core : ∀ H : Hp, Only H → SqL K H a (ns.map V.int) → HOk P w H s₁.heap → (∀ b, H b ≠ none → b = a) → (H a ≠ none → K.lookup a = none) →
      codeAny (model P w) callerA (.call (.ref fa) ⟨[.ref a], []⟩) (fun r s' => r = .ok (.ret (.bool true)) ∧ OldK s₁.heap s'.heap ∧ s'.os = s₁.os ∧ AllBare s'.gens) s₁ := by
    intro H hO hS hok hA hK
    have base_of : ∀ {b : Addr} {o : Obj}, s₁.heap.get? b = some o → H b = none → (hidT s₁.heap H).get? b = some o := fun e n => hidT_get e n
    have noA : ∀ {b : Addr} {o : Obj} {es : Array DictEntry} {ep : Nat}, s₁.heap.get? b = some o → o.data = .dict es ep → H b = none := fun {b o es ep} e d => by
      cases q : H b with
      | none => rfl
      | some u =>
        have e' : b = a := hA b (by rw [q]; simp)
        subst e'
        rw [ha] at e; cases e
        have d' : Data.seq vs.toArray _ = Data.dict es ep := d
        cases d'
    have nsK : ∀ {b : Addr} {m : Str → Option Value}, s₁.heap.Ns b m → (hidT s₁.heap H).Ns b m := fun {b m} ⟨o, es, ep, e, d, r⟩ => ⟨o, es, ep, base_of e (noA e d), d, r⟩
    have hKb : K.In (hidT s₁.heap H) := fun b o e => base_of (KX b o e) (by
      cases q : H b with
      | none => rfl
      | some u =>
        have e' : b = a := hA b (by rw [q]; simp)
        subst e'
        rw [hK (by rw [q]; simp)] at e; cases e)
    have hM : Mod K mg (hidT s₁.heap H) := ⟨hKb, nsK hns, ⟨mb, nsK hb, hbb⟩, let ⟨mc, h1, h2⟩ := hlim; ⟨mc, nsK h1, h2⟩⟩
    have e0 : Env0 P w K mg (hidT s₁.heap H) callerA [] s₁ H := ⟨rfl, hM, fun b o e => of_hidT e, Nat.le_of_eq (hidT_size _ _), trivial, fun b hb => absurd (show b ∈ ([] : List Addr) from hb) (by simp), hok, .of_eq hg⟩
    refine codeAny_mono ((F _ hKb (nsK hns)).run callerA [] s₁ H ⟨[.ref a], []⟩ [.ref a] [.ref a] _ _ hr e0 (hbind s₁ (.ref a)) (.cons rfl .nil) (hsp H hO hS)) fun r s' h => ?_
    cases r with
    | error e => exact (hCX H e s' h).elim
    | ok fl =>
      cases fl with
      | next => exact False.elim h
      | brk => exact False.elim h
      | cont => exact False.elim h
      | ret u =>
        obtain ⟨v, H', os, bare, un, hok', r', q⟩ := h
        have q' : v = .bl true := q
        subst q'
        obtain rfl : u = Value.bool true := r'
        refine ⟨rfl, OldK.of_keep fun b o e => ?_, os, bare⟩
        cases q : H b with
        | none => exact un.keep b o e q (by intro z; exact absurd (show b ∈ ([] : List Addr) from z) (by simp)) (by simp)
        | some u =>
          rcases hO b with z | ⟨ob, xs, z⟩
          · rw [q] at z; cases z
          · have z2 := un.frzs b ob _ z
            obtain ⟨e1, _⟩ := hok b _ z
            obtain ⟨e2, _⟩ := hok' b _ z2
            rw [e] at e1; cases e1
            exact e2
  cases hk : K.lookup a with
  | some o =>
    have e := KX a o hk
    rw [ha] at e
    cases e
    refine core (fun _ => none) (fun _ => .inl rfl) (.inr ⟨_, vs.toArray, _, hk, rfl, rfl, rfl, by rw [List.size_toArray, lenV]; exact hl, by simpa using rv⟩) (fun b u z => by have z' : (none : Option HO) = some u := z; cases z') (fun b z => absurd rfl z) fun z => absurd rfl z
  | none =>
    refine core (fun b => if b = a then some (.frz { cls := .type "list", data := .seq vs.toArray } (.lst (ns.map V.int))) else none) (fun b => ?_) (.inl (.inr ⟨{ cls := .type "list", data := .seq vs.toArray }, if_pos rfl⟩)) (fun b u z => ?_) (fun b z => ?_) fun _ => hk
    · by_cases hb : b = a
      · exact .inr ⟨_, _, if_pos hb⟩
      · exact .inl (if_neg hb)
    · by_cases hb : b = a
      · have z' := (if_pos hb).symm.trans z
        cases z'
        subst hb
        exact ⟨ha, by rw [List.length_map]; exact hl, vs, _, rv, ha⟩
      · have z' := (if_neg hb).symm.trans z
        cases z'
    · by_cases hb : b = a
      · exact hb
      · exact absurd (if_neg hb) z
end L2
namespace L2
open PySem PySem.Spec PyProof.Rows
theorem walk_of {l : PySem.W.OpenLaw} {n k : Nat} {q : Program} {loose : List Str} {XP : (Str → Option Value) → Heap → Prop} {YP : World → Heap → Prop} {d : DefRec} {K : Params → PySem.W.Frag} {CX : World → CXT} {sp : World → Sp} {x : Str}
    (hn : l.most = some n) (hn2 : n ≤ sizeLine) (hdf : d.params.defaults = []) (hr : Room k callerA)
    (hY : ∀ (w : World) (h : Heap), YP w h → (K w.params).In h)
    (F : ∀ (w : World) (mg : Str → Option Value) (fa : Addr) (h : Heap), (K w.params).In h → h.Ns mainGlobals mg → mg d.name = some (.ref fa) →
      ∃ fd : FuncData, (∀ (s : Shared) (u : Value), BindsTo s fd ⟨[u], []⟩ [(x, u)]) ∧
        ∀ base : Heap, (K w.params).In base → base.Ns mainGlobals mg → FnOk l.prog w (K w.params) mg base (CX w) k fa fd [x] (sp w))
    (hsp : ∀ (w : World) (H : Hp) (a : Addr) (ns : List Int), ns.length ≤ n → Only H → SqL (K w.params) H a (ns.map V.int) → sp w [.ref a] H (fun v _ => v = .bl true) fun _ _ _ => False)
    (hCX : ∀ (w : World) (H : Hp) (s : Shared) (e : Value) (s' : Shared), CX w [] H s (fun _ _ _ => False) e s' → False) :
    PySem.W.WalkO q loose XP YP l.row.toRowW d [] (fun f vs => PySem.call f vs) := by
  refine Att.attach_call hn hdf fun w s₀ s₁ mg mb fa o pm cd doc a vs ns G Y ho hd hcd hmg hobj hints hlen hg => ?_
  have KX := hY w _ Y
  obtain ⟨fd, hb, hF⟩ := F w mg fa _ KX G.T.g hmg
  exact law_call KX G.T.g G.T.b G.T.builtins G.T.nolimit hg hobj hints (Nat.le_trans hlen hn2) hr hF hb (fun H hO hS => hsp w H a ns hlen hO hS) fun H e s' => hCX w H s₁ e s'
end L2
namespace L2
open PySem PySem.Spec PyProof.Rows
def defArgs (s : Stmt) : Arguments := match s with
  | .FunctionDef _ a _ _ _ _ _ _ _ _ => a
  | _ => { posonlyargs := [], args := [], vararg := none, kwonlyargs := [], kw_defaults := [], kwarg := none, defaults := [] }
def defBody (s : Stmt) : List Stmt := match s with
  | .FunctionDef _ _ b _ _ _ _ _ _ _ => b
  | _ => []
def defScope (s : Stmt) : Scope := match s with
  | .FunctionDef _ _ _ _ _ _ sc _ _ _ => sc
  | _ => { kind := .function, names := [], isGenerator := false, isCoroutine := false }
abbrev CX0 : CXT := fun _ _ _ _ _ _ => False
abbrev E0 : XK := fun _ _ _ => False
theorem pass0 {X : Cx} : Passes CX0 X E0 := fun _ _ _ _ _ _ _ h => h.elim
structure Fun (K : PySem.W.Frag) (x qual : Str) (st : Stmt) (f : Addr) (fd : FuncData) : Prop where
  ex : ∃ (oc : Value) (od : Option Addr) (kV doc pm : Value) (an : Option Addr) (cdv ct : Value) (osl : Array (Option Value)),
    fd = PySem.W.fnOf x qual (defArgs st) (defBody st) (defScope st) .none kV doc pm an cdv ct ∧ K.lookup f = some ⟨oc, od, .func fd, osl⟩ ∧ PySem.W.codeIn K cdv qual = true
  kp : PySem.W.keepIn K (.ref f) = true
section
variable {P : Program} {w : World} {K : PySem.W.Frag} {mg : Str → Option Value} {base : Heap}
theorem Fun.ok {x qual : Str} {st : Stmt} {f : Addr} {fd : FuncData} {N ps : List Str} {k : Nat} {sp : Sp} (F : Fun K x qual st f fd) (S : FnScope N ps (defScope st)) (len : ∀ vs H Q E, sp vs H Q E → vs.length = ps.length)
    (hbody : ∀ (cdv : Value) (A : Around) (outer : List Env) (s : Shared) (H : Hp) (vs : List V) (Q : VK) (E : XK), Room k (A.deeper (envOfC qual (defScope st) s.heap.objs.size f cdv)) → sp vs H Q E →
      ∃ t, PSs (cxOf CX0 P w K mg base N qual (defScope st) f cdv A outer s H E).nox (defBody st) t ∧ t { nx := fun _ H' => Q .non H', rt := Q } (start N vs) H) : FnOk P w K mg base CX0 (k + 1) f fd ps sp := by
  obtain ⟨oc, od, kV, doc, pm, an, cdv, ct, osl, rfl, lk, hcd⟩ := F.ex
  refine fn_of lk hcd S len fun A outer s H vs Q E hr hsp => ?_
  obtain ⟨t, h, q⟩ := hbody cdv A outer s H vs Q E hr hsp
  exact ⟨t, h.nox, q⟩
theorem Fun.binds {x qual : Str} {st : Stmt} {f : Addr} {fd : FuncData} {ps : List Str} (F : Fun K x qual st f fd)
    (h : ∀ (kV doc pm : Value) (an : Option Addr) (cdv ct : Value) (us : List Value), us.length = ps.length → bindArgs (PySem.W.fnOf x qual (defArgs st) (defBody st) (defScope st) .none kV doc pm an cdv ct) ⟨us, []⟩ = pure (ps.zip us)) : Binds K fd ps [] := by
  obtain ⟨oc, od, kV, doc, pm, an, cdv, ct, osl, rfl, lk, hcd⟩ := F.ex
  exact .all (h kV doc pm an cdv ct)
theorem fun_mk {x qual : Str} {st : Stmt} {f : Addr} {oc : Value} {od an : Option Addr} {osl : Array (Option Value)} {kV doc pm cdv ct : Value} (l : K.lookup f = some ⟨oc, od, .func (PySem.W.fnOf x qual (defArgs st) (defBody st) (defScope st) .none kV doc pm an cdv ct), osl⟩)
    (c : PySem.W.codeIn K cdv qual = true) (k : PySem.W.keepIn K (.ref f) = true) : Fun K x qual st f (PySem.W.fnOf x qual (defArgs st) (defBody st) (defScope st) .none kV doc pm an cdv ct) := ⟨⟨oc, od, kV, doc, pm, an, cdv, ct, osl, rfl, l, c⟩, k⟩
end
theorem hu_of {A : Around} {k : Nat} (hr : Room k A) : A.units + 1 < cLine := Nat.lt_of_le_of_lt (Nat.add_le_add_left (by decide : 1 ≤ 64) _) hr.units
theorem small1000 {n : Nat} (h : n ≤ 1000) : n < sizeLine := Nat.lt_of_le_of_lt h (by decide)
section
variable {X : Cx}
theorem pv (i : Nat) {x : Str} {pos : Pos} (hN : X.N[i]? = some x := by rfl) (hv : Vis X.env.scope x := by first | exact Or.inl rfl | exact Or.inr (Or.inl rfl) | exact Or.inr (Or.inr rfl)) (hd : (x == ("__debug__" : Str)) = false := by decide)
    (hcd : (x == ("__classdict__" : Str)) = false := by decide) : PE X (.Name x pos) (tVar i) := pe_var hN hv hd hcd
end
theorem iteF {A B : Prop} (h : B) : if false = true then A else B := by
  rw [if_neg Bool.false_ne_true]
  exact h
theorem iteT {A B : Prop} (h : A) : if true = true then A else B := by
  rw [if_pos rfl]
  exact h
theorem ite2 {c A B : Prop} [Decidable c] (h1 : c → A) (h2 : ¬ c → B) : if c then A else B := by
  by_cases h : c
  · rw [if_pos h]
    exact h1 h
  · rw [if_neg h]
    exact h2 h
theorem iteNS {c A B : Prop} [Decidable c] (hc : c) (h : B) : if (!decide c) = true then A else B := by
  rw [decide_eq_true hc]
  exact iteF h
def Same (H H' : Hp) : Prop := ∀ b o, H b = some o → H' b = some o
theorem Same.refl (H : Hp) : Same H H := fun _ _ h => h
theorem Same.trans {H H1 H2 : Hp} (a : Same H H1) (b : Same H1 H2) : Same H H2 := fun c o h => b c o (a c o h)
theorem Same.free {H H' : Hp} (e : Same H H') {l : Addr} (h : H' l = Option.none) : H l = Option.none := by
  cases q : H l with
  | none => rfl
  | some o =>
    rw [e l o q] at h
    cases h
theorem Same.seq {K : PySem.W.Frag} {H H' : Hp} {a : Addr} {xs : List V} (e : Same H H') (h : SqL K H a xs) : SqL K H' a xs := by
  rcases h with (h | ⟨o, h⟩) | h
  · exact .inl (.inl (e _ _ h))
  · exact .inl (.inr ⟨o, e _ _ h⟩)
  · exact .inr h
section
variable {κ : Type} [DecidableEq κ]
theorem nd_snoc : ∀ {l : List κ} {k : κ}, l.Nodup → ¬ k ∈ l → (l ++ [k]).Nodup
  | [], k, _, _ => by simp
  | a :: r, k, h, hk => by
    obtain ⟨h1, h2⟩ := List.nodup_cons.mp h
    show (a :: (r ++ [k])).Nodup
    refine List.nodup_cons.mpr ⟨fun m => ?_, nd_snoc h2 fun m => hk (List.mem_cons.mpr (Or.inr m))⟩
    rcases List.mem_append.mp m with q | q
    · exact h1 q
    · exact hk (List.mem_cons.mpr (Or.inl (List.mem_singleton.mp q).symm))
end
end L2
set_option maxHeartbeats 8000000
namespace L2
open PySem PySem.Spec PyProof.Rows
def compCx (X : Cx) (N : List Str) (scope : Scope) (cl : List (Str × Addr)) (C : Addr) (s0 : Shared) (H0 : Hp) (ex : List Addr) : Cx :=
  { X with N := N, s₀ := s0, H₀ := H0, env := compEnvC scope cl C X.env, outer := X.stack, stack := X.stack, ex := ex, fn := fun _ => false, pn := [], xe := fun _ _ => False }
def compSt (nl : Nat) (fr : List Nat) (σ : St) : St := List.replicate nl none ++ fr.map fun j => (σ[j]?).join
def closOf (env : Env) : List (Str × NameKind) → List (Str × Addr) → List (Str × Addr)
  | [], cs => cs
  | (n, k) :: r, cs => closOf env r (if (k == NameKind.free) = true then (n, (env.cells.lookup n).getD 0) :: cs else cs)
theorem closOf_sub (env : Env) : ∀ (ns : List (Str × NameKind)) (cs : List (Str × Addr)), (∀ p ∈ ns, p.2 = .free → ∃ c, env.cells.lookup p.1 = some c) → (∀ y c, cs.lookup y = some c → env.cells.lookup y = some c) →
    ∀ y c, (closOf env ns cs).lookup y = some c → env.cells.lookup y = some c
  | [], cs, _, h, y, c, e => h y c e
  | (n, k) :: r, cs, hn, h, y, c, e => by
    unfold closOf at e
    refine closOf_sub env r _ (fun p hp => hn p (List.mem_cons_of_mem _ hp)) ?_ y c e
    intro z d ez
    split at ez
    · rename_i hk
      rw [List.lookup_cons] at ez
      cases hz : z == n with
      | true =>
        rw [hz] at ez
        have hzn : z = n := eq_of_beq hz
        subst hzn
        have hkf : k = .free := by simpa using hk
        obtain ⟨c', hc'⟩ := hn (z, k) List.mem_cons_self hkf
        have hc' : env.cells.lookup z = some c' := hc'
        rw [hc'] at ez
        rw [hc']
        simpa using ez
      | false =>
        rw [hz] at ez
        exact h z d ez
    · exact h z d ez
theorem closOf_keep (env : Env) : ∀ (ns : List (Str × NameKind)) (cs : List (Str × Addr)) (y : Str), (∃ c, cs.lookup y = some c) → ∃ c, (closOf env ns cs).lookup y = some c
  | [], cs, y, h => h
  | (n, k) :: r, cs, y, ⟨c, h⟩ => by
    unfold closOf
    refine closOf_keep env r _ y ?_
    split
    · rw [List.lookup_cons]
      cases hz : y == n with
      | true => exact ⟨_, rfl⟩
      | false => exact ⟨c, h⟩
    · exact ⟨c, h⟩
theorem closOf_has (env : Env) : ∀ (ns : List (Str × NameKind)) (cs : List (Str × Addr)) (p : Str × NameKind), p ∈ ns → p.2 = .free → ∃ c, (closOf env ns cs).lookup p.1 = some c
  | [], cs, p, hp, _ => by simp at hp
  | (n, k) :: r, cs, p, hp, hk => by
    unfold closOf
    rcases List.mem_cons.mp hp with e | hp
    · subst e
      have hk : k = .free := hk
      subst hk
      refine closOf_keep env r _ n ?_
      rw [if_pos (by rfl), List.lookup_cons]
      exact ⟨(List.lookup n env.cells).getD 0, by simp⟩
    · exact closOf_has env r _ p hp hk
theorem closure_loop (env : Env) : ∀ (ns : List (Str × NameKind)) (cs : List (Str × Addr)), (∀ p ∈ ns, p.2 = .free → ∃ c, env.cells.lookup p.1 = some c) →
    (forIn ns cs (fun (x : Str × NameKind) (r : List (Str × Addr)) => if (x.2 == NameKind.free) = true then (do let a ← cellOf env x.1; pure (ForInStep.yield ((x.1, a) :: r))) else pure (ForInStep.yield r)) : Sem (List (Str × Addr))) = pure (closOf env ns cs)
  | [], cs, _ => rfl
  | (n, k) :: r, cs, hn => by
    have ih := fun cs' => closure_loop env r cs' fun p hp => hn p (List.mem_cons_of_mem _ hp)
    rw [List.forIn_cons]
    unfold closOf
    by_cases hk : (k == NameKind.free) = true
    · obtain ⟨c, hc⟩ := hn (n, k) List.mem_cons_self (by simpa using hk)
      have hc : env.cells.lookup n = some c := hc
      rw [if_pos hk, if_pos hk]
      have e1 : cellOf env n = pure c := by unfold cellOf; rw [hc]
      rw [e1, hc]
      exact ih _
    · rw [if_neg hk, if_neg hk]
      exact ih _
theorem closureFor_eq {scope : Scope} {env : Env} (h : ∀ p ∈ scope.names, p.2 = .free → ∃ c, env.cells.lookup p.1 = some c) : closureFor scope env = pure (closOf env scope.names []) := by
  have e := closure_loop env scope.names [] h
  unfold closureFor
  show (forIn scope.names [] _ >>= _) = _
  have e2 : (forIn scope.names ([] : List (Str × Addr)) (fun (x : Str × NameKind) (r : List (Str × Addr)) => match x with | (name, kind) => (if (kind == NameKind.free) = true then (do let a ← cellOf env name; pure PUnit.unit; pure (ForInStep.yield ((name, a) :: r))) else (do pure PUnit.unit; pure (ForInStep.yield r)))) : Sem (List (Str × Addr))) = pure (closOf env scope.names []) := e
  first
    | exact (congrArg (fun z => z >>= fun cs => pure cs) e2)
    | (rw [show (forIn scope.names ([] : List (Str × Addr)) _ : Sem (List (Str × Addr))) = pure (closOf env scope.names []) from e]; rfl)
section
variable {X : Cx}
def PIfs (X : Cx) (ifs : List Expr) (t : TT) : Prop :=
  ∀ (pins : List (Addr × Obj)) (s : Shared) (σ : St) (H : Hp) (Q : Bool → Hp → Prop), Inv X pins σ H s → t σ H Q →
    wpAny (model X.prog X.w) X.A (forIn ifs true fun c r => if r = true then do let ok ← isTrue c X.env (eval c X.env); pure (ForInStep.yield ok) else pure (ForInStep.yield r)) (TP X pins σ Q) X.xe s
def tYes : TT := fun _ H Q => Q true H
theorem pifs_nil : PIfs X [] tYes := fun pins s σ H Q I h => by
  rw [List.forIn_nil]
  exact wpAny_pure ⟨H, I, h⟩
theorem pifs_one {c : Expr} {t : TT} (h : PT X c t) : PIfs X [c] t := by
  intro pins s σ H Q I hw
  rw [List.forIn_cons, if_pos rfl]
  refine wpAny_bind (wpAny_bind (thn (h pins s σ H Q I hw) fun b s1 q => wpAny_pure ?_))
  show wpAny _ _ (forIn [] b _) _ _ s1
  rw [List.forIn_nil]
  exact wpAny_pure q
theorem compLoop_any {prog : Program} {w : World} {A : Around} {R : Result → Shared → Prop} {s : Shared} {elt target iter : Expr} {ifs : List Expr} {scope : Scope} {pos : Pos} {it acc : Value} {env : Env} (I : Nat → Shared → Prop)
    (turn : ∀ n s, I n s → wpAny (model prog w) A (pyNext it) (fun r s1 => match r with
      | none => R (.ok .next) s1
      | some v => wpAny (model prog w) A (letOwnedTupleGo target it v) (fun _ s2 => wpAny (model prog w) A (assign target env v) (fun _ s3 =>
          wpAny (model prog w) A (forIn ifs true fun c r => if r = true then do let ok ← isTrue c env (eval c env); pure (ForInStep.yield ok) else pure (ForInStep.yield r)) (fun ok s4 =>
            if ok = true then wpAny (model prog w) A (eval elt env) (fun x s5 =>
              wpAny (model prog w) A (call (.builtin "list.append") [acc, x]) (fun _ s6 => ∃ m, m < n ∧ I m s6) (fun _ _ => False) s5) (fun _ _ => False) s4
            else ∃ m, m < n ∧ I m s4) (fun _ _ => False) s3) (fun _ _ => False) s2) (fun _ _ => False) s1) (fun _ _ => False) s)
    (n : Nat) (h : I n s) :
    codeAny (model prog w) A (.compLoop (.ListComp elt [⟨target, iter, ifs, 0⟩] scope pos) 0 it acc env) R s := by
  refine codeAny_loop rfl I (fun n s hI => ?_) n h
  show wpAny _ A ((compTurn (.ListComp elt [⟨target, iter, ifs, 0⟩] scope pos) 0 it acc env).onRaise (fun x => do noteFrame x env; theTreesLotGoes x)) _ _ s
  refine wpAny_noted ?_
  rw [compTurn_list]
  refine wpAny_bind (wpAny_standAt (wpAny_bind (wpAny_mono (turn n s hI) (fun r s1 h1 => ?_) fun _ _ f => f.elim)))
  cases r with
  | none => exact wpAny_pure h1
  | some v =>
    refine wpAny_bind (wpAny_mono h1 (fun _ s2 h2 => ?_) fun _ _ f => f.elim)
    refine wpAny_bind (wpAny_mono h2 (fun _ s3 h3 => wpAny_bind (wpAny_mono h3 (fun ok s4 h4 => ?_) fun _ _ f => f.elim)) fun _ _ f => f.elim)
    cases ok with
    | false => exact wpAny_pure ⟨rfl, h4⟩
    | true =>
      exact wpAny_bind (wpAny_bind (wpAny_mono h4 (fun x s5 h5 => wpAny_bind (wpAny_mono h5 (fun _ s6 h6 => wpAny_pure (wpAny_pure ⟨rfl, h6⟩)) fun _ _ f => f.elim)) fun _ _ f => f.elim))
def CompW (J : It) (g : TG) (tc : TT) (te : TE) (Q : VK) (σ0 : St) (H0 : Hp) : Prop := ∃ W : Nat → Nat → List V → St → Hp → Prop, (∃ m, W 0 m [] σ0 H0) ∧ ∀ i m ys σ' H', W i m ys σ' H' →
   (J.stop i H' ∧ ∀ D, H' D = none → Q (.ref D) (upd H' D (.lst ys))) ∨
   (J.go i H' ∧ ∃ N : List V → St → Hp → Prop, (∀ ys' σ2 H2, N ys' σ2 H2 → ∃ m', m' < m ∧ W (i + 1) m' ys' σ2 H2) ∧ ∀ x H2, J.yld i H' x H2 → g x σ' H2 fun σ2 H3 => tc σ2 H3 fun b H4 =>
     if b = true then te σ2 H4 fun y H5 => ys.length < sizeLine ∧ N (ys ++ [y]) σ2 H5 else N ys σ2 H4)
def tComp (nl : Nat) (fr : List Nat) (wi : TI) (g : TG) (tc : TT) (te : TE) : TE := fun σ H Q => wi σ H fun J H1 => CompW J g tc te Q (compSt nl fr σ) H1
structure CompOk (X : Cx) (N : List Str) (nl : Nat) (fr : List Nat) (scope : Scope) : Prop where
  cell : ∀ y ∈ scope.names, y.2 ≠ .cell
  kind : scope.kind = .function
  names : ∀ y ∈ scope.names, y.2 = .local → scope.names.lookup y.1 = some .local
  free : ∀ p ∈ scope.names, p.2 = .free → X.env.kindOf p.1 = some .cell ∨ X.env.kindOf p.1 = some .free
  len : N.length = nl + fr.length
  fr : ∀ (k j : Nat), fr[k]? = some j → ∃ y, N[nl + k]? = some y ∧ X.N[j]? = some y ∧ Vis X.env.scope y ∧ scope.names.lookup y = some .free
theorem lookup_relabel {env : Env} : ∀ {names : List (Str × NameKind)} {x : Str} {k : NameKind}, (names.map fun (n, k) => if (k == NameKind.free && env.scope.kind == .function && env.kindOf n == some .cell) then (n, NameKind.cell) else (n, k)).lookup x = some k →
    k = .cell ∨ k = .free → (∀ y ∈ names, y.2 ≠ .cell) → ∃ p ∈ names, p.1 = x ∧ p.2 = .free
  | [], _, _, h, _, _ => by simp at h
  | (n, kn) :: r, x, k, h, hk, hc => by
    have ih := @lookup_relabel env r x k
    rw [List.map_cons] at h
    have hcn : kn ≠ .cell := hc (n, kn) List.mem_cons_self
    have hr : ∀ y ∈ r, y.2 ≠ .cell := fun y hy => hc y (List.mem_cons_of_mem _ hy)
    cases hx : x == n with
    | true =>
      have hxn : x = n := eq_of_beq hx
      by_cases hcc : (kn == NameKind.free && env.scope.kind == .function && env.kindOf n == some .cell) = true
      · refine ⟨(n, kn), List.mem_cons_self, hxn.symm, ?_⟩
        simp only [Bool.and_eq_true] at hcc
        simpa using hcc.1.1
      · dsimp only at h
        rw [if_neg hcc, List.lookup_cons, hx] at h
        have hkk : kn = k := Option.some.inj h
        subst hkk
        rcases hk with z | z
        · exact absurd z hcn
        · exact ⟨(n, kn), List.mem_cons_self, hxn.symm, z⟩
    | false =>
      by_cases hcc : (kn == NameKind.free && env.scope.kind == .function && env.kindOf n == some .cell) = true
      · dsimp only at h
        rw [if_pos hcc, List.lookup_cons, hx] at h
        obtain ⟨p, hp, q⟩ := ih h hk hr
        exact ⟨p, List.mem_cons_of_mem _ hp, q⟩
      · dsimp only at h
        rw [if_neg hcc, List.lookup_cons, hx] at h
        obtain ⟨p, hp, q⟩ := ih h hk hr
        exact ⟨p, List.mem_cons_of_mem _ hp, q⟩
theorem lookup_relabel_free {env : Env} : ∀ {names : List (Str × NameKind)} {x : Str}, names.lookup x = some .free →
    (names.map fun (n, k) => if (k == NameKind.free && env.scope.kind == .function && env.kindOf n == some .cell) then (n, NameKind.cell) else (n, k)).lookup x = some .cell ∨
    (names.map fun (n, k) => if (k == NameKind.free && env.scope.kind == .function && env.kindOf n == some .cell) then (n, NameKind.cell) else (n, k)).lookup x = some .free
  | [], _, h => by simp at h
  | (n, kn) :: r, x, h => by
    have ih := @lookup_relabel_free env r x
    rw [List.map_cons]
    dsimp only
    cases hx : x == n with
    | true =>
      rw [List.lookup_cons, hx] at h
      have hkn : kn = .free := Option.some.inj h
      by_cases hcc : (kn == NameKind.free && env.scope.kind == .function && env.kindOf n == some .cell) = true
      · rw [if_pos hcc, List.lookup_cons, hx]; exact .inl rfl
      · rw [if_neg hcc, List.lookup_cons, hx]; exact .inr (congrArg some hkn)
    | false =>
      rw [List.lookup_cons, hx] at h
      by_cases hcc : (kn == NameKind.free && env.scope.kind == .function && env.kindOf n == some .cell) = true
      · rw [if_pos hcc, List.lookup_cons, hx]; exact ih h
      · rw [if_neg hcc, List.lookup_cons, hx]; exact ih h
theorem HOk.track {P : Program} {w : World} {H : Hp} {h : Heap} {a : Addr} {o : HO} (x : HOk P w H h) (hn : H a = none) (new : ObjOk P w (upd H a o) h a o) : HOk P w (upd H a o) h := fun b u e => by
  by_cases hb : b = a
  · subst hb; rw [upd_same] at e; cases e; exact new
  · rw [upd_ne hb] at e
    exact (x b u e).stay (fun c v _ q => q) (fun c q => by rw [upd_ne (ne_of_none q hn)]; exact q) fun c xs q => by rw [upd_ne (ne_of_none q hn)]; exact q
theorem comp_core {elt tg iter : Expr} {ifs : List Expr} {scope : Scope} {pos : Pos} {wi : TI} {g : TG} {tc : TT} {te : TE} {N : List Str} {nl : Nat} {fr : List Nat}
    (hc : X.calm = true) (hi : PI X tg iter wi) (hg : ∀ cl C s0 H0 ex, PG (compCx X N scope cl C s0 H0 ex) tg g) (ht : ∀ cl C s0 H0 ex, PIfs (compCx X N scope cl C s0 H0 ex) ifs tc)
    (he : ∀ cl C s0 H0 ex, PE (compCx X N scope cl C s0 H0 ex) elt te) (ok : CompOk X N nl fr scope)
    {RR : Value → Addr → Result → Shared → Prop} {pins : List (Addr × Obj)} {s : Shared} {σ : St} {H : Hp} {Q : VK} (I : Inv X pins σ H s) (h : tComp nl fr wi g tc te σ H Q)
    (hRR : ∀ D C s' H', Inv X pins σ H' s' → Q (.ref D) H' → FpOk X pins H' C → (∃ m, s'.heap.Ns C m) → RR (.ref D) C (.ok .next) s') :
    wpAny (model X.prog X.w) X.A (eval iter X.env) (fun x s1 => wpAny (model X.prog X.w) X.A (pyIter x) (fun it s2 => wpAny (model X.prog X.w) X.A (newList []) (fun acc s3 =>
      wpAny (model X.prog X.w) X.A (newFunctionEnv scope X.env.globals (closOf X.env scope.names []) [] X.env.qual none .none (some X.env)) (fun cenv s4 =>
        codeAny (model X.prog X.w) X.A (.compStart (.ListComp elt [⟨tg, iter, ifs, 0⟩] scope pos) 0 it acc { cenv with scope := relabel scope X.env }) (RR acc cenv.locals) s4) X.xe s3) X.xe s2) X.xe s1) X.xe s := by
  refine thn (hi pins s σ H _ I h) fun v s1 h1 => thn h1 fun itv s2 h2 => ?_
  obtain ⟨it, fp, tn, J, H2, rfl, I2, T, st2, f2, W, ⟨m0, w0⟩, turn⟩ := h2
  refine wpAny_newObj_type (wpAny_newFunctionEnv ok.cell (by intro y hy; simp at hy) (fun h1 hns1 hsb1 => ?_) ok.kind)
  dsimp only at hns1 hsb1 ⊢
  generalize hHH : s2.heap.push { cls := .type "list", dict := none, data := .seq ([] : List Value).toArray } = HH at hns1 hsb1 ⊢
  have hC : HH.objs.size = s2.heap.objs.size + 1 := by rw [← hHH, Heap.size_push]
  have hDC : s2.heap.objs.size ≠ HH.objs.size := by rw [hC]; exact Nat.ne_of_lt (Nat.lt_succ_self _)
  have hCle : s2.heap.objs.size ≤ HH.objs.size := by rw [hC]; exact Nat.le_succ _
  have below : ∀ b, b < s2.heap.objs.size → b ≠ HH.objs.size ∧ b ≠ s2.heap.objs.size := fun b hb => ⟨by rw [hC]; exact Nat.ne_of_lt (Nat.lt_succ_of_lt hb), Nat.ne_of_lt hb⟩
  have old : ∀ b o, s2.heap.get? b = some o → h1.get? b = some o := fun b o e => hsb1.extBut b o (below b (Heap.lt_size e)).1 (Heap.get?_push_of_some _ (hHH ▸ Heap.get?_push_of_some _ e))
  have hacc : h1.get? s2.heap.objs.size = some { cls := .type "list", data := .seq ([] : List Value).toArray } := hsb1.extBut _ _ hDC (Heap.get?_push_of_some _ (hHH ▸ Heap.get?_push_size _ rfl))
  have fplt : ∀ b ∈ fp, b < s2.heap.objs.size := fun b hb => by obtain ⟨o, e, _⟩ := T.obj 0 _ st2 b hb; exact Heap.lt_size e
  generalize hXd : compCx X N scope (closOf X.env scope.names []) HH.objs.size s2 H2 fp = X'
  have hfreeC : ∀ p ∈ scope.names, p.2 = .free → ∃ c, X.env.cells.lookup p.1 = some c := fun p hp hf => I.ok.has p.1 (ok.free p hp hf)
  have cellsSub : ∀ y c, (closOf X.env scope.names []).lookup y = some c → X.env.cells.lookup y = some c := closOf_sub X.env scope.names [] hfreeC (fun y c e => by simp at e)
  have cellLt : ∀ y c, X.env.cells.lookup y = some c → c < s2.heap.objs.size := fun y c e => by obtain ⟨v, z⟩ := I2.cell y c e; exact z.lt
  have ok' : X'.Ok := by
    rw [← hXd]
    refine ⟨I.ok.mod, ?_, I.ok.glob, I.ok.blt, hCle, fun x y c e1 e2 => I.ok.inj x y c (cellsSub x c e1) (cellsSub y c e2), fun x hx => ?_, fun x c hf => (by cases hf), I.ok.hd, I.ok.frames, .inl rfl,
      fun b hb => ⟨(below b (fplt b hb)).1, fun x c e => (f2 b hb).2.2.2.2.1 x c (cellsSub x c e)⟩, I2.bs, Nat.le_trans I.ok.bsz I2.sz, fun b o e hb => ?_, fun b hb hfs => ?_, I2.stack, I2.stkFree⟩
    · show (relabel scope X.env).kind = .function
      exact ok.kind
    · have hx' : ∃ p ∈ scope.names, p.1 = x ∧ p.2 = .free := by
        rcases hx with z | z
        · exact lookup_relabel z (.inl rfl) ok.cell
        · exact lookup_relabel z (.inr rfl) ok.cell
      obtain ⟨p, hp, rfl, hpf⟩ := hx'
      exact closOf_has X.env scope.names [] p hp hpf
    · rcases (f2 b hb).2.2.2.1 with z | z
      · exact I.ok.noex b o e z
      · exact absurd (Nat.lt_of_lt_of_le (Heap.lt_size e) (Nat.le_trans I.ok.bsz z)) (Nat.lt_irrefl _)
    · rcases List.mem_cons.mp (I2.stkSub b hfs) with z | z
      · exact (f2 b hb).2.1 z
      · exact (f2 b hb).2.2.1 z
  have hX'd : X'.env.locals = HH.objs.size := by rw [← hXd]; rfl
  have hX'c : X'.env.cells = closOf X.env scope.names [] := by rw [← hXd]; rfl
  have hX'pn : X'.pn = [] := by rw [← hXd]; rfl
  have hX'ex : X'.ex = fp := by rw [← hXd]; rfl
  have hX's0 : X'.s₀ = s2 := by rw [← hXd]; rfl
  have hX'H0 : X'.H₀ = H2 := by rw [← hXd]; rfl
  have hX'fs : X'.fs = frs X.stack := by rw [← hXd]; rfl
  have hX'xe : X'.xe = fun _ _ => False := by rw [← hXd]; rfl
  have hX'A : X'.A = X.A := by rw [← hXd]; rfl
  have hX'P : X'.prog = X.prog := by rw [← hXd]; rfl
  have hX'w : X'.w = X.w := by rw [← hXd]; rfl
  have hX'K : X'.K = X.K := by rw [← hXd]; rfl
  have hX'calm : X'.calm = true := by rw [← hXd]; exact hc
  have hX'env : X'.env = compEnvC scope (closOf X.env scope.names []) HH.objs.size X.env := by rw [← hXd]; rfl
  have I' : Inv X' [] (compSt nl fr σ) H2 { s2 with heap := h1, toks := s2.toks + ([] : List (Str × Value)).length } := by
    refine ⟨ok', by rw [hX's0], I2.bare, ?_, ?_, fun x c e => ?_, ?_, fun x c e => ?_, fun p hp => ?_, ?_, ?_⟩
    · rw [hX'fs, hX'ex, hX'H0, hX's0]; exact Un.kept old
    · obtain ⟨m, hn, hl⟩ := I2.loc
      rw [hX'd]
      refine ⟨_, hns1, fun i x v e1 e2 e3 => ?_⟩
      have hN' : N[i]? = some x := by rw [← hXd] at e1; exact e1
      unfold compSt at e2
      have hi : ¬ i < nl := fun hlt => by
        rw [List.getElem?_append_left (by simpa using hlt), List.getElem?_replicate, if_pos hlt] at e2
        cases e2
      rw [List.getElem?_append_right (by simpa using hi), List.length_replicate, List.getElem?_map] at e2
      cases ej : fr[i - nl]? with
      | none => rw [ej] at e2; cases e2
      | some j =>
        rw [ej] at e2
        obtain ⟨y, y1, y2, y3, y4⟩ := ok.fr (i - nl) j ej
        have hii : nl + (i - nl) = i := by omega
        rw [hii, hN'] at y1
        have hxy : x = y := Option.some.inj y1
        subst hxy
        have e2' : (σ[j]?).join = some v := Option.some.inj e2
        have e2'' : σ[j]? = some (some v) := by
          cases hσ : σ[j]? with
          | none => rw [hσ] at e2'; cases e2'
          | some z => rw [hσ] at e2'; exact congrArg some e2'
        obtain ⟨u, r, l⟩ := hl j x v y2 e2'' y3
        have hkX := ok.free (x, .free) (PySem.mem_of_lookup y4) rfl
        refine ⟨u, r, .inr ⟨?_, ?_⟩⟩
        · rw [hX'env]
          rcases lookup_relabel_free (env := X.env) y4 with z | z
          · exact .inl z
          · exact .inr z
        · rcases l with ⟨k1, _⟩ | ⟨_, c, ec, hcell⟩
          · rcases hkX with z | z
            · rw [z] at k1; cases k1
            · rw [z] at k1; cases k1
          · obtain ⟨c', ec'⟩ := closOf_has X.env scope.names [] (x, .free) (PySem.mem_of_lookup y4) rfl
            have : c' = c := by
              have q := cellsSub x c' ec'
              rw [ec] at q
              exact (Option.some.inj q).symm
            subst this
            refine ⟨c', by rw [hX'c]; exact ec', ?_⟩
            obtain ⟨oc, ho, hd⟩ := hcell
            exact ⟨oc, old _ _ ho, hd⟩
    · rw [hX'c] at e
      obtain ⟨v, oc, ho, hd⟩ := I2.cell x c (cellsSub x c e)
      exact ⟨v, oc, old _ _ ho, hd⟩
    · rw [hX'd]; exact I2.hok.fresh hCle
    · rw [hX'c] at e
      exact I2.freeC x c (cellsSub x c e)
    · rw [hX'pn] at hp; simp at hp
    · rw [hX'P, hX'w]; exact I2.hok.kept old
    · unfold compSt
      have : X'.N = N := by rw [← hXd]; rfl
      rw [this, ok.len, List.length_append, List.length_replicate, List.length_map]
  have Dn : ∀ {H' : Hp} {pins'} {s' : Shared} {σ'}, Inv X' pins' σ' H' s' → H' s2.heap.objs.size = none → ∀ o, s'.heap.get? s2.heap.objs.size = some o → (∀ v, o.data ≠ .cell v) → Inv X' [(s2.heap.objs.size, o)] σ' H' s' := fun {H' pins' s' σ'} I3 hD o ho hnc =>
    I3.pins_of fun p hp => by
      have e : p = (s2.heap.objs.size, o) := by simpa using hp
      subst e
      refine ⟨ho, hD, by rw [hX'd]; exact hDC, ?_, hnc⟩
      rw [hX'fs]
      intro hb
      rcases List.mem_cons.mp (I2.stkSub _ hb) with z | z
      · exact absurd (z ▸ I2.lt) (Nat.lt_irrefl _)
      · exact I2.nofs (Nat.le_refl _) z
  have loop : ∀ s₃ : Shared, s₃ = { s2 with heap := h1, toks := s2.toks + ([] : List (Str × Value)).length } →
      codeAny (model X.prog X.w) X.A (.compLoop (.ListComp elt [⟨tg, iter, ifs, 0⟩] scope pos) 0 (.ref it) (.ref s2.heap.objs.size) (compEnvC scope (closOf X.env scope.names []) HH.objs.size X.env)) (RR (.ref s2.heap.objs.size) HH.objs.size) s₃ := by
    rintro s₃ rfl
    refine compLoop_any (fun n s' => ∃ (i : Nat) (σ' : St) (H' : Hp) (ys : List V) (its : List Value) (k : Nat), Inv X' [(s2.heap.objs.size, { cls := .type "list", data := .seq its.toArray k })] σ' H' s' ∧ Vals ys its ∧ ys.length ≤ sizeLine ∧ tn i s'.heap ∧ (∀ b ∈ fp, H' b = none) ∧ W i n ys σ' H')
      ?_ m0 ⟨0, _, H2, [], [], 0, Dn I' (I2.hok.fresh (Nat.le_refl _)) _ hacc (fun v z => by cases z), .nil, Nat.zero_le _, T.keep 0 _ _ st2 fun b hb o e => old b o e, fun b hb => (f2 b hb).1, w0⟩
    rintro n s3 ⟨i, σ3, H3, ys, its, k, I3, rv, hyl, st3, fr3, w3⟩
    have pinD := I3.pin (s2.heap.objs.size, { cls := .type "list", data := .seq its.toArray k }) (by rw [hX'pn]; exact List.mem_append_right _ List.mem_cons_self)
    have stat : ∀ {o : Obj} {H' : Hp}, (∀ b ∈ fp, H' b = none) → ∀ b ∈ fp, FpOk X' [(s2.heap.objs.size, o)] H' b := fun {o H'} hn b hb => by
      refine ⟨hn b hb, by rw [hX'd]; exact (below b (fplt b hb)).1, fun z => ok'.exfs b (by rw [hX'ex]; exact hb) z, .inl (by rw [hX'ex]; exact hb), fun x c e => by rw [hX'c] at e; exact (f2 b hb).2.2.2.2.1 x c (cellsSub x c e), fun p hp => ?_⟩
      rw [hX'pn] at hp
      have e : p = (s2.heap.objs.size, o) := by simpa using hp
      subst e
      exact fun z => (below b (fplt b hb)).2 z.symm
    rcases turn i n ys σ3 H3 w3 with ⟨stop, qn⟩ | ⟨go, Nx, hNx, step⟩
    · have dn := T.done X' hX'P hX'w hX'K hX'calm i _ s3 σ3 H3 (fun _ _ => False) I3 (stat fr3) st3 stop
      rw [hX'A] at dn
      refine thn dn fun r s4 ⟨hr, I4⟩ => ?_
      subst hr
      have pinE := I4.pin (s2.heap.objs.size, { cls := .type "list", data := .seq its.toArray k }) (by rw [hX'pn]; exact List.mem_append_right _ List.mem_cons_self)
      have ub : Un (frs X.stack) fp H2 H3 s2.heap s4.heap := by
        have := I4.base
        rw [hX'fs, hX'ex, hX'H0, hX's0] at this
        exact this
      have hok4 : HOk X.prog X.w H3 s4.heap := by have := I4.hok; rw [hX'P, hX'w] at this; exact this
      have nD : ∀ b u, H3 b = some u → b ≠ s2.heap.objs.size := fun b u e z => by rw [z, pinE.2.1] at e; cases e
      have u2 : Un (frs X.stack) fp H2 (upd H3 s2.heap.objs.size (.lst ys)) s2.heap s4.heap :=
        ⟨ub.keep, ub.slot, fun b o e n' hx => by rw [upd_ne (Nat.ne_of_lt (Heap.lt_size e))]; exact ub.free b o e n' hx, ub.there,
          fun b xs e => by have := ub.tups b xs e; rw [upd_ne (nD b _ this)]; exact this, fun b o u e => by have := ub.frzs b o u e; rw [upd_ne (nD b _ this)]; exact this,
          fun b ps e => by obtain ⟨more, z⟩ := ub.tbls b ps e; exact ⟨more, by rw [upd_ne (nD b _ z)]; exact z⟩⟩
      have I5 : Inv X pins σ (upd H3 s2.heap.objs.size (.lst ys)) s4 := by
        refine I2.call' (by rw [I4.os, hX's0]) u2 ?_ I4.bare fun b hb => ⟨(f2 b hb).2.2.2.1, (f2 b hb).2.1, (f2 b hb).2.2.2.2.1, (f2 b hb).2.2.2.2.2⟩
        exact HOk.track hok4 pinE.2.1 ⟨hyl, its, k, rv, pinE.1⟩
      refine hRR _ _ s4 _ I5 (qn _ pinE.2.1) (I2.fpOk hCle ?_) ?_
      · rw [upd_ne (Ne.symm hDC)]
        have := I4.free
        rw [hX'd] at this
        exact this
      · obtain ⟨m, hn, _⟩ := I4.loc
        rw [hX'd] at hn
        exact ⟨m, hn⟩
    · have im := T.item X' hX'P hX'w hX'K hX'calm i _ s3 σ3 H3 (fun _ _ => False) I3 (stat fr3) st3 go
      rw [hX'A] at im
      refine thn im fun r s4 ⟨u, hr, h4⟩ => ?_
      subst hr
      refine thn h4 fun _ s5 ⟨x, H5, I5, r5, y5, st5, fr5⟩ => ?_
      have I5' := I5.pinned (stat fr5) (T.obj _ _ st5)
      have gg := hg (closOf X.env scope.names []) HH.objs.size s2 H2 fp
      rw [hXd] at gg
      have gg := gg _ s5 σ3 H5 x u _ I5' r5 (step x H5 y5)
      rw [hX'A, hX'P, hX'w, hX'xe, hX'env] at gg
      refine thn gg fun _ s6 ⟨σ6, H6, I6, q6⟩ => ?_
      have tt := ht (closOf X.env scope.names []) HH.objs.size s2 H2 fp
      rw [hXd] at tt
      have tt := tt _ s6 σ6 H6 _ I6 q6
      rw [hX'A, hX'P, hX'w, hX'xe, hX'env] at tt
      refine thn tt fun ok7 s7 ⟨H7, I7, q7⟩ => ?_
      have again : ∀ {s8 : Shared} {σ8 : St} {H8 : Hp} {ys8 : List V} {its8 : List Value} {k8 : Nat}, Inv X' ([(s2.heap.objs.size, { cls := .type "list", data := .seq its8.toArray k8 })] ++ pinsAt fp s5.heap) σ8 H8 s8 → Vals ys8 its8 → ys8.length ≤ sizeLine → Nx ys8 σ8 H8 →
          ∃ m, m < n ∧ ∃ (i : Nat) (σ' : St) (H' : Hp) (ys : List V) (its : List Value) (k : Nat), Inv X' [(s2.heap.objs.size, { cls := .type "list", data := .seq its.toArray k })] σ' H' s8 ∧ Vals ys its ∧ ys.length ≤ sizeLine ∧ tn i s8.heap ∧ (∀ b ∈ fp, H' b = none) ∧ W i m ys σ' H' :=
        fun {s8 σ8 H8 ys8 its8 k8} I8 rv8 hl8 n8 => by
          obtain ⟨m', hm, w8⟩ := hNx ys8 σ8 H8 n8
          refine ⟨m', hm, i + 1, σ8, H8, ys8, its8, k8, I8.unpinned, rv8, hl8, T.keep _ _ _ st5 fun b hb o e => (I8.pin (b, o) (List.mem_append_right _ (List.mem_append_right _ (mem_pinsAt hb e)))).1, fun b hb => ?_, w8⟩
          obtain ⟨o, e, d⟩ := T.obj _ _ st5 b hb
          exact (I8.pin (b, o) (List.mem_append_right _ (List.mem_append_right _ (mem_pinsAt hb e)))).2.1
      cases ok7 with
      | false =>
        rw [if_neg Bool.false_ne_true] at q7 ⊢
        exact again I7 rv hyl q7
      | true =>
        rw [if_pos rfl] at q7 ⊢
        have ee := he (closOf X.env scope.names []) HH.objs.size s2 H2 fp
        rw [hXd] at ee
        have ee := ee _ s7 σ6 H7 _ I7 q7
        rw [hX'A, hX'P, hX'w, hX'xe, hX'env] at ee
        refine thn ee fun yv s8 ⟨y, H8, I8, r8, hyl8, q8⟩ => ?_
        have pin8 := I8.pin (s2.heap.objs.size, { cls := .type "list", data := .seq its.toArray k }) (List.mem_append_right _ (List.mem_append_left _ List.mem_cons_self))
        refine wpAny_list_append_plain (items := its.toArray) ⟨k, pin8.1⟩ (fun h9 hp9 hs9 => ?_) (by rw [List.size_toArray, ← rv.length]; exact hyl)
        obtain ⟨k9, e9⟩ := hp9
        have I9 : Inv X' (pinsAt fp s5.heap) σ6 H8 s8 := I8.pins_of fun p hp => I8.pin p (List.mem_append_right _ (List.mem_append_right _ hp))
        have I9' : Inv X' (pinsAt fp s5.heap) σ6 H8 { s8 with heap := h9, toks := s8.toks } := by
          refine I9.turned (t' := s8.toks) (it := s2.heap.objs.size) (fun b o hb e => hs9.extBut b o hb e) pin8.2.1 (by rw [hX'd]; exact hDC) (.inr (by rw [hX's0]; exact Nat.le_refl _)) (fun x c e z => ?_) fun p hp z => ?_
          · rw [hX'c] at e
            exact absurd (z ▸ cellLt x c (cellsSub x c e)) (Nat.lt_irrefl _)
          · rw [hX'pn] at hp
            obtain ⟨hb, _⟩ := of_pinsAt (by simpa using hp)
            exact absurd (z ▸ fplt _ hb) (Nat.lt_irrefl _)
        have e9' : h9.get? s2.heap.objs.size = some { cls := .type "list", data := .seq (its ++ [yv]).toArray k9 } := by rw [e9]; simp
        refine again (ys8 := ys ++ [y]) (its8 := its ++ [yv]) (k8 := k9) ?_ (Vals.append rv (.cons r8 .nil)) (by rw [List.length_append]; exact hyl8) q8
        refine I9'.pins_of fun p hp => ?_
        rcases List.mem_append.mp hp with z | z
        · have e : p = (s2.heap.objs.size, { cls := .type "list", data := .seq (its ++ [yv]).toArray k9 }) := by simpa using z
          subst e
          exact ⟨e9', pin8.2.1, pin8.2.2.1, pin8.2.2.2.1, fun v z => by cases z⟩
        · exact I9'.pin p (List.mem_append_right _ z)
  exact codeAny_compStart_list (loop _ rfl) (T.self X.A 0 _ _ _ (T.keep 0 _ _ st2 fun b hb o e => old b o e) (loop _ rfl))
end
end L2
namespace L2
open PySem PySem.Spec PyProof.Rows
section
variable {X : Cx}
theorem pe_comp {elt tg iter : Expr} {ifs : List Expr} {scope : Scope} {pos : Pos} {wi : TI} {g : TG} {tc : TT} {te : TE} {N : List Str} {nl : Nat} {fr : List Nat}
    (hc : X.calm = true) (ok : CompOk X N nl fr scope) (hi : PI X tg iter wi) (hg : ∀ cl C s0 H0 ex, PG (compCx X N scope cl C s0 H0 ex) tg g) (ht : ∀ cl C s0 H0 ex, PIfs (compCx X N scope cl C s0 H0 ex) ifs tc)
    (he : ∀ cl C s0 H0 ex, PE (compCx X N scope cl C s0 H0 ex) elt te) (hs : ∀ x, foldedSetIterable iter X.env x = pure x := by intro _; rfl) :
    PE X (.ListComp elt [⟨tg, iter, ifs, 0⟩] scope pos) (tComp nl fr wi g tc te) := by
  intro pins s σ H Q I h
  have hclos : closureFor scope X.env = pure (closOf X.env scope.names []) := closureFor_eq fun p hp hf => I.ok.has p.1 (ok.free p hp hf)
  rw [eval_ListComp]
  refine wpAny_comprehension_free (use := none) rfl hs hclos ok.kind ok.names (comp_core (RR := fun acc C => compPost (model X.prog X.w) X.A X.xe none (EP X pins σ Q) acc C) hc hi hg ht he ok I h ?_)
  intro D C s' H' I' q f ⟨m, hn⟩
  exact ⟨m, hn, fun h' hs' => ⟨.ref D, H', I'.turned (t' := s'.toks) (fun b o hb e => hs'.extBut b o hb e) f.1 f.2.1 f.2.2.2.1 f.2.2.2.2.1 f.2.2.2.2.2, rfl, q⟩⟩
theorem ps_setC {i : Nat} {y : Str} {py spos : Pos} {elt tg iter : Expr} {ifs : List Expr} {scope : Scope} {pos : Pos} {wi : TI} {g : TG} {tc : TT} {te : TE} {N : List Str} {nl : Nat} {fr : List Nat}
    (hN : X.N.Nodup) (hi' : X.N[i]? = some y) (hx : Loc X.env.scope y)
    (hc : X.calm = true) (ok : CompOk X N nl fr scope) (hi : PI X tg iter wi) (hg : ∀ cl C s0 H0 ex, PG (compCx X N scope cl C s0 H0 ex) tg g) (ht : ∀ cl C s0 H0 ex, PIfs (compCx X N scope cl C s0 H0 ex) ifs tc)
    (he : ∀ cl C s0 H0 ex, PE (compCx X N scope cl C s0 H0 ex) elt te) (hsw : swapsWith (.ListComp elt [⟨tg, iter, ifs, 0⟩] scope pos) (some (.Name y py)) spos.line X.env = pure true := by rfl)
    (hs : ∀ x, foldedSetIterable iter X.env x = pure x := by intro _; rfl)
    (hf : X.fn y = true ∨ X.env.scope.names.lookup y = some .local := by first | exact .inl rfl | exact .inr rfl | assumption) :
    PS X (.Assign [.Name y py] (.ListComp elt [⟨tg, iter, ifs, 0⟩] scope pos) spos) (tAsg (tComp nl fr wi g tc te) (gName i)) := by
  intro pins s σ H Dn I h
  have hclos : closureFor scope X.env = pure (closOf X.env scope.names []) := closureFor_eq fun p hp hf => I.ok.has p.1 (ok.free p hp hf)
  rw [exec_Assign_Name_used _ _ _ _ hsw]
  refine wpAny_bind (wpAny_standAt (wpAny_bind ?_))
  show wpAny _ X.A (do let _ ← comprehension (.ListComp elt [⟨tg, iter, ifs, 0⟩] scope pos) scope X.env _ (newList []) false (eval iter X.env) (some (assign (.Name y py) X.env))) _ _ s
  refine wpAny_bind (wpAny_mono (wpAny_comprehension_free (use := some (assign (.Name y py) X.env)) (Q := fun _ s' => SP X pins Dn .next s') rfl hs hclos ok.kind ok.names
    (comp_core (RR := fun acc C => compPost (model X.prog X.w) X.A X.xe (some (assign (.Name y py) X.env)) (fun _ s' => SP X pins Dn .next s') acc C) hc hi hg ht he ok I h ?_)) (fun _ s' hq => wpAny_pure (wpAny_pure hq)) fun _ _ e => e)
  intro D C s' H' I' q f ⟨m, hn⟩
  show wpAny _ X.A (assign (.Name y py) X.env (.ref D)) _ _ _
  refine wpAny_assign_Name (store_ok2 I' hN hi' hx (v := .ref D) rfl (fun s2 I2 ⟨a, sb, ha⟩ => ?_) hf)
  have hCa : C ≠ a := by
    rcases ha with z | z
    · rw [z]; exact f.2.1
    · exact fun e => f.2.2.2.2.1 _ _ z e.symm
  exact ⟨m, hn.sameBut sb hCa, fun h' hs' => ⟨_, H', I2.turned (t' := s2.toks) (fun b o hb e => hs'.extBut b o hb e) f.1 f.2.1 f.2.2.2.1 f.2.2.2.2.1 f.2.2.2.2.2, q⟩⟩
theorem comp_list {K : PySem.W.Frag} {a : Addr} {xs : List V} {g : TG} {tc : TT} {te : TE} {σ0 : St} {H : Hp} {Q : VK} (Pv : Nat → List V → St → Hp → Prop) (h0 : Pv 0 [] σ0 H) (hl : ∀ i ys σ H, i ≤ xs.length → Pv i ys σ H → SqL K H a xs)
    (hs : ∀ i x ys σ H, xs[i]? = some x → Pv i ys σ H → g x σ H fun σ2 H2 => tc σ2 H2 fun b H4 => if b = true then te σ2 H4 fun y H5 => ys.length < sizeLine ∧ Pv (i + 1) (ys ++ [y]) σ2 H5 else Pv (i + 1) ys σ2 H4)
    (hd : ∀ ys σ H, Pv xs.length ys σ H → ∀ D, H D = none → Q (.ref D) (upd H D (.lst ys))) :
    CompW (Itl K a) g tc te Q σ0 H := by
  refine ⟨fun i m ys σ H => m = xs.length - i ∧ i ≤ xs.length ∧ Pv i ys σ H, ⟨xs.length, by simp, Nat.zero_le _, h0⟩, ?_⟩
  rintro i m ys σ H ⟨rfl, hi, p⟩
  have q := hl i ys σ H hi p
  by_cases hlt : i < xs.length
  · refine .inr ⟨⟨xs, xs[i], q, by simp [hlt]⟩, Pv (i + 1), fun ys' σ' H' p' => ⟨xs.length - (i + 1), by omega, rfl, hlt, p'⟩, fun x H' y => ?_⟩
    obtain ⟨e, y⟩ := y
    subst e
    exact hs i x ys σ _ (y xs q) p
  · have e : i = xs.length := by omega
    subst e
    exact .inl ⟨⟨xs, q, Nat.le_refl _⟩, hd ys σ H p⟩
inductive EqD (K : PySem.W.Frag) (H : Hp) : Nat → V → V → Bool → Prop where
  | flat {n : Nat} {x y : V} : flatV x = true → flatV y = true → EqD K H n x y (eqV x y)
  | same {n : Nat} (a : Addr) : EqD K H n (.ref a) (.ref a) true
  | lists {n : Nat} {a b : Addr} {xs ys : List V} (e : Nat → Bool) : a ≠ b → SqL K H a xs → SqL K H b ys → xs.length = ys.length → (∀ (j : Nat) x y, xs[j]? = some x → ys[j]? = some y → EqD K H n x y (e j)) → EqD K H (n + 1) (.ref a) (.ref b) ((List.range xs.length).all e)
  | lens {n : Nat} {a b : Addr} {xs ys : List V} : a ≠ b → SqL K H a xs → SqL K H b ys → xs.length ≠ ys.length → EqD K H (n + 1) (.ref a) (.ref b) false
theorem eqAt_D {pins : List (Addr × Obj)} {σ : St} {H : Hp} {s : Shared} (I : Inv X pins σ H s) {n : Nat} {x y : V} {b : Bool} (d : EqD X.K H n x y b) :
    ∀ {A : Around} {u v : Value}, A.units + n < cLine → RelV x u → RelV y v → SeqAt.EqAt A s u v b := by
  induction d with
  | flat fx fy => intro A u v _ rx ry; exact eqAt_V rx ry fx fy
  | same a => intro A u v _ rx ry; cases rx; cases ry; exact SeqAt.EqAt.same _
  | @lists n a c xs ys e ne ha hb hl _ ih =>
    intro A u v hu rx ry
    cases rx; cases ry
    obtain ⟨its, r1, p1, _⟩ := I.list ha
    obtain ⟨its2, r2, p2, _⟩ := I.list hb
    have l1 := r1.length
    have l2 := r2.length
    refine SeqAt.EqAt.of_refs ne ?_
    have q := SeqAt.RcAt.lists (A := A) (e := e) p1.isList p2.isList (by rw [List.size_toArray, List.size_toArray]; omega) (by omega) (fun j h1 h2 => by
      have h1' : j < its.length := by simpa using h1
      have h2' : j < its2.length := by simpa using h2
      have e1 : xs[j]? = some (xs[j]'(by omega)) := List.getElem?_eq_getElem _
      have e2 : ys[j]? = some (ys[j]'(by omega)) := List.getElem?_eq_getElem _
      obtain ⟨u1, z1, q1⟩ := r1.get e1
      obtain ⟨u2, z2, q2⟩ := r2.get e2
      have w1 : its.toArray[j] = u1 := by
        rw [List.getElem?_eq_getElem h1'] at z1
        simpa using z1
      have w2 : its2.toArray[j] = u2 := by
        rw [List.getElem?_eq_getElem h2'] at z2
        simpa using z2
      rw [w1, w2]
      exact ih j _ _ e1 e2 (by show A.in1.units + n < cLine; have : A.in1.units = A.units + 1 := by first | rfl | simp [Around.in1]
                               omega) q1 q2)
    rw [List.size_toArray, ← l1] at q
    exact q
  | lens ne ha hb hl =>
    intro A u v hu rx ry
    cases rx; cases ry
    obtain ⟨its, r1, p1, _⟩ := I.list ha
    obtain ⟨its2, r2, p2, _⟩ := I.list hb
    have l1 := r1.length
    have l2 := r2.length
    exact SeqAt.EqAt.of_refs ne (SeqAt.RcAt.lists_lengths p1.isList p2.isList (by rw [List.size_toArray, List.size_toArray]; simp; omega) (by omega))
def LEq (K : PySem.W.Frag) (H : Hp) (n : Nat) (xs ys : List V) (r : Bool) : Prop :=
  (xs.length ≠ ys.length ∧ r = false) ∨ (∃ e : Nat → Bool, xs.length = ys.length ∧ (∀ (j : Nat) x y, xs[j]? = some x → ys[j]? = some y → EqD K H n x y (e j)) ∧ r = (List.range xs.length).all e)
theorem leq_rc {pins : List (Addr × Obj)} {σ : St} {H : Hp} {s : Shared} (I : Inv X pins σ H s) {A : Around} {n : Nat} {a b : Addr} {xs ys : List V} {r : Bool} (hu : A.units + n + 1 < cLine) (ha : SqL X.K H a xs) (hb : SqL X.K H b ys) (d : LEq X.K H n xs ys r) :
    SeqAt.RcAt A s (.ref a) (.ref b) r := by
  obtain ⟨its, r1, p1, _⟩ := I.list ha
  obtain ⟨its2, r2, p2, _⟩ := I.list hb
  have l1 := r1.length
  have l2 := r2.length
  rcases d with ⟨hl, rfl⟩ | ⟨e, hl, he, rfl⟩
  · exact SeqAt.RcAt.lists_lengths p1.isList p2.isList (by rw [List.size_toArray, List.size_toArray]; simp; omega) (by omega)
  · have q := SeqAt.RcAt.lists (A := A) (e := e) p1.isList p2.isList (by rw [List.size_toArray, List.size_toArray]; omega) (by omega) (fun j h1 h2 => by
      have h1' : j < its.length := by simpa using h1
      have h2' : j < its2.length := by simpa using h2
      have e1 : xs[j]? = some (xs[j]'(by omega)) := List.getElem?_eq_getElem _
      have e2 : ys[j]? = some (ys[j]'(by omega)) := List.getElem?_eq_getElem _
      obtain ⟨u1, z1, q1⟩ := r1.get e1
      obtain ⟨u2, z2, q2⟩ := r2.get e2
      have w1 : its.toArray[j] = u1 := by
        rw [List.getElem?_eq_getElem h1'] at z1
        simpa using z1
      have w2 : its2.toArray[j] = u2 := by
        rw [List.getElem?_eq_getElem h2'] at z2
        simpa using z2
      rw [w1, w2]
      exact eqAt_D I (he j _ _ e1 e2) (by show A.in1.units + n < cLine; have : A.in1.units = A.units + 1 := by first | rfl | simp [Around.in1]
                                          omega) q1 q2)
    rw [List.size_toArray, ← l1] at q
    exact q
end
end L2
namespace L2
open PySem PySem.Spec PyProof.Rows
section
variable {X : Cx}
theorem leq_rcNe {pins : List (Addr × Obj)} {σ : St} {H : Hp} {s : Shared} (I : Inv X pins σ H s) {A : Around} {n : Nat} {a b : Addr} {xs ys : List V} {r : Bool} (hu : A.units + n + 1 < cLine) (ha : SqL X.K H a xs) (hb : SqL X.K H b ys) (d : LEq X.K H n xs ys r) :
    SeqAt.RcNeAt A s (.ref a) (.ref b) (!r) := by
  obtain ⟨its, r1, p1, _⟩ := I.list ha
  obtain ⟨its2, r2, p2, _⟩ := I.list hb
  have l1 := r1.length
  have l2 := r2.length
  rcases d with ⟨hl, rfl⟩ | ⟨e, hl, he, rfl⟩
  · exact SeqAt.RcNeAt.lists_lengths p1.isList p2.isList (by rw [List.size_toArray, List.size_toArray]; simp; omega) (by omega)
  · have q := SeqAt.RcNeAt.lists (A := A) (e := e) p1.isList p2.isList (by rw [List.size_toArray, List.size_toArray]; omega) (by omega) (fun j h1 h2 => by
      have h1' : j < its.length := by simpa using h1
      have h2' : j < its2.length := by simpa using h2
      have e1 : xs[j]? = some (xs[j]'(by omega)) := List.getElem?_eq_getElem _
      have e2 : ys[j]? = some (ys[j]'(by omega)) := List.getElem?_eq_getElem _
      obtain ⟨u1, z1, q1⟩ := r1.get e1
      obtain ⟨u2, z2, q2⟩ := r2.get e2
      have w1 : its.toArray[j] = u1 := by
        rw [List.getElem?_eq_getElem h1'] at z1
        simpa using z1
      have w2 : its2.toArray[j] = u2 := by
        rw [List.getElem?_eq_getElem h2'] at z2
        simpa using z2
      rw [w1, w2]
      exact eqAt_D I (he j _ _ e1 e2) (by show A.in1.units + n < cLine; have : A.in1.units = A.units + 1 := by first | rfl | simp [Around.in1]
                                          omega) q1 q2)
    rw [List.size_toArray, ← l1] at q
    exact q
def rEqL (K : PySem.W.Frag) (n : Nat) (neg : Bool) : R2 := fun x y H Q => ∃ a b xs ys r, x = .ref a ∧ y = .ref b ∧ SqL K H a xs ∧ SqL K H b ys ∧ LEq K H n xs ys r ∧ Q (.bl (if neg then !r else r)) H
theorem op_eqL (n : Nat) (hu : X.A.units + n + 1 < cLine) : OpR X (compareOp .Eq) (rEqL X.K n false) := by
  intro pins s σ H x y v u Q I rx ry h
  obtain ⟨a, b, xs, ys, r, rfl, rfl, ha, hb, d, q⟩ := h
  cases rx; cases ry
  exact leq_rc I hu ha hb d _ _ _ _ ⟨.bl r, H, I, rfl, q⟩
theorem op_neL (n : Nat) (hu : X.A.units + n + 1 < cLine) : OpR X (compareOp .NotEq) (rEqL X.K n true) := by
  intro pins s σ H x y v u Q I rx ry h
  obtain ⟨a, b, xs, ys, r, rfl, rfl, ha, hb, d, q⟩ := h
  cases rx; cases ry
  exact leq_rcNe I hu ha hb d _ _ _ _ ⟨.bl (!r), H, I, rfl, q⟩
theorem all_range_iff {n : Nat} {e : Nat → Bool} : (List.range n).all e = true ↔ ∀ j, j < n → e j = true := by
  rw [List.all_eq_true]
  exact ⟨fun h j hj => h j (List.mem_range.mpr hj), fun h j hj => h j (List.mem_range.mp hj)⟩
theorem leq_ints (K : PySem.W.Frag) (H : Hp) (n : Nat) (ns ms : List Int) : LEq K H n (ns.map V.int) (ms.map V.int) (decide (ns = ms)) := by
  by_cases hl : ns.length = ms.length
  · refine .inr ⟨fun j => decide (ns[j]? = ms[j]?), by simpa using hl, fun j x y e1 e2 => ?_, ?_⟩
    · rw [List.getElem?_map] at e1 e2
      cases h1 : ns[j]? with
      | none => rw [h1] at e1; cases e1
      | some a =>
        cases h2 : ms[j]? with
        | none => rw [h2] at e2; cases e2
        | some b =>
          rw [h1] at e1; rw [h2] at e2
          cases e1; cases e2
          have q : EqD K H n (V.int a) (V.int b) (eqV (V.int a) (V.int b)) := .flat rfl rfl
          have e : eqV (V.int a) (V.int b) = decide (some a = some b) := by
            show (a == b) = _
            by_cases z : a = b
            · subst z; simp
            · rw [decide_eq_false (fun w => z (Option.some.inj w))]; simpa using z
          rw [e] at q
          show EqD K H n _ _ (decide (ns[j]? = ms[j]?))
          rw [h1, h2]
          exact q
    · rw [Bool.eq_iff_iff, decide_eq_true_iff, all_range_iff]
      constructor
      · intro h j _; subst h; simp
      · intro h
        refine List.ext_getElem? fun j => ?_
        by_cases hj : j < ns.length
        · exact of_decide_eq_true (h j (by simpa using hj))
        · rw [List.getElem?_eq_none (by omega), List.getElem?_eq_none (by omega)]
  · refine .inl ⟨by simpa using hl, ?_⟩
    exact decide_eq_false fun h => hl (by rw [h])
theorem call_range1 : CallR X (.type "range") (fun xs H Q => ∃ j, xs = [.int j] ∧ ∀ p, H p = none → Q (.ref p) (upd H p (.rng 0 j))) := by
  intro pins s σ H xs us Q I r h
  obtain ⟨j, rfl, q⟩ := h
  obtain ⟨u, rfl, ⟨t, rfl⟩⟩ := vals1 r
  refine call_range_1 ⟨.ref s.heap.objs.size, _, I.laid (fun b o e => Heap.get?_push_of_some _ e) (Nat.le_refl _) ?_, rfl, q _ (I.hok.fresh (Nat.le_refl _))⟩
  exact ⟨_, _, _, Heap.get?_push_size _ rfl⟩
def upTo (lo : Int) (n : Nat) : List Int := (List.range n).map fun (i : Nat) => lo + (i : Int)
theorem vals_items {lo : Int} {n : Nat} {acc : Array Value} (h : ItemsOf (fun i v => ∃ t, v = Value.int (lo + (i : Int) * 1) t) acc n) : Vals ((upTo lo n).map V.int) acc.toList := by
  obtain ⟨hs, hv⟩ := h
  have key : ∀ (l : List Value) (k : Nat), (∀ (j : Nat) v, l[j]? = some v → ∃ t, v = Value.int (lo + ((k + j : Nat) : Int)) t) → Vals (((List.range l.length).map fun (i : Nat) => lo + ((k + i : Nat) : Int)).map V.int) l := by
    intro l
    induction l with
    | nil => intro k _; exact .nil
    | cons v r ih =>
      intro k hk
      have e : (((List.range r.length).map Nat.succ).map fun (i : Nat) => lo + ((k + i : Nat) : Int)) = (List.range r.length).map fun (i : Nat) => lo + ((k + 1 + i : Nat) : Int) := by
        rw [List.map_map]
        refine List.map_congr_left fun i _ => ?_
        show lo + ((k + (i + 1) : Nat) : Int) = _
        congr 2; omega
      rw [List.length_cons, List.range_succ_eq_map, List.map_cons, List.map_cons, e]
      refine .cons ?_ ?_
      · obtain ⟨t, e⟩ := hk 0 v rfl
        exact ⟨t, e⟩
      · have := ih (k + 1) fun j w e => by
          obtain ⟨t, z⟩ := hk (j + 1) w (by simpa using e)
          exact ⟨t, by rw [z]; congr 2; omega⟩
        exact this
  have := key acc.toList 0 fun j v e => by
    obtain ⟨t, z⟩ := hv j v (by simpa using e)
    exact ⟨t, by rw [z, Int.mul_one]; simp⟩
  have hl : acc.toList.length = n := by simpa using hs
  rw [hl] at this
  have e : ((List.range n).map fun (i : Nat) => lo + ((0 + i : Nat) : Int)) = upTo lo n := by
    unfold upTo
    refine List.map_congr_left fun i _ => ?_
    simp
  rw [e] at this
  exact this
theorem call_list_rng (hc : X.calm = true) : CallR X (.type "list") (fun xs H Q => ∃ p lo hi, xs = [.ref p] ∧ H p = some (.rng lo hi) ∧ (-(2 ^ 62) ≤ lo ∧ lo < 2 ^ 62 ∧ -(2 ^ 62) ≤ hi ∧ hi < 2 ^ 62) ∧ (hi - lo).toNat ≤ 2 ^ 20 ∧
    ∀ l, H l = none → Q (.ref l) (upd H l (.lst ((upTo lo (hi - lo).toNat).map V.int)))) := by
  intro pins s σ H xs us Q I r h
  obtain ⟨p, lo, hi, rfl, hp, ⟨b1, b2, b3, b4⟩, hz, q⟩ := h
  obtain ⟨u, rfl, rx⟩ := vals1 r
  cases rx
  obtain ⟨t, u, v, ho⟩ := I.hok p _ hp
  refine call_list_range (n := (hi - lo).toNat) (I.ok.hd hc) (r := p) ho (small_one b1 b2 b3 b4) (by rw [rangeSize_one]; split <;> omega) (Nat.le_trans hz (by decide)) fun h' tk acc' c' hk e it => ?_
  have rv := vals_items it
  refine ⟨.ref s.heap.objs.size, _, I.laid hk (Nat.le_refl _) (show ObjOk X.prog X.w _ h' _ (.lst ((upTo lo (hi - lo).toNat).map V.int)) from ⟨?_, acc'.toList, c', rv, by rw [e]⟩), rfl, q _ (I.hok.fresh (Nat.le_refl _))⟩
  unfold upTo
  rw [List.length_map, List.length_map, List.length_range]
  exact Nat.le_trans hz (by rw [sizeLine_eq]; decide)
end
end L2
namespace L2
open PySem PySem.Spec PyProof.Rows
section
variable {X : Cx}
theorem call_isi : CallR X (.builtin "isinstance") (fun xs H Q => ∃ x n t b, xs = [x, .ty n] ∧ TyOf X.K H x t ∧ PySem.W.kitOne X.K t (.type n) = some b ∧ Q (.bl b) H) := by
  intro pins s σ H xs us Q I r h
  obtain ⟨x, n, t, b, rfl, ty, e, q⟩ := h
  obtain ⟨u, w', rfl, rx, ry⟩ := vals2 r
  cases (show w' = Value.type n from ry)
  exact isinst_ok I rx ty e fun tk => ⟨.bl b, H, I.tok tk, rfl, q⟩
theorem kit_same (K : PySem.W.Frag) (n : String) : PySem.W.kitOne K (.type n) (.type n) = some true := by
  unfold PySem.W.kitOne
  rw [if_pos (beq_self_eq_true _)]
theorem kit_int_bool (K : PySem.W.Frag) : PySem.W.kitOne K (.type "int") (.type "bool") = some false := by
  unfold PySem.W.kitOne PySem.W.kitCls
  rw [if_neg (by decide +kernel)]
  show (if PySem.W.kitMeta "bool" = true then (fastBuiltinMro "int").map (·.contains (Value.type "bool")) else none) = some false
  rw [if_pos (by decide +kernel)]
  decide +kernel
theorem kit_bool_int (K : PySem.W.Frag) : PySem.W.kitOne K (.type "bool") (.type "int") = some true := by
  unfold PySem.W.kitOne PySem.W.kitCls
  rw [if_neg (by decide +kernel)]
  show (if PySem.W.kitMeta "int" = true then (fastBuiltinMro "bool").map (·.contains (Value.type "int")) else none) = some true
  rw [if_pos (by decide +kernel)]
  decide +kernel
theorem boot_int : bootBuiltins "int" = some (.type "int") := by decide +kernel
theorem boot_bool : bootBuiltins "bool" = some (.type "bool") := by decide +kernel
theorem boot_listT : bootBuiltins "list" = some (.type "list") := by decide +kernel
theorem boot_rangeT : bootBuiltins "range" = some (.type "range") := by decide +kernel
theorem boot_isi : bootBuiltins "isinstance" = some (.builtin "isinstance") := by decide +kernel
theorem boot_minB : bootBuiltins "min" = some (.builtin "min") := by decide +kernel
theorem boot_maxB : bootBuiltins "max" = some (.builtin "max") := by decide +kernel
end
def KeepBut (a : Addr) (H H' : Hp) : Prop := ∀ b o, H b = some o → b ≠ a → H' b = some o
theorem KeepBut.refl (a : Addr) (H : Hp) : KeepBut a H H := fun _ _ h _ => h
theorem KeepBut.trans {a : Addr} {H H1 H2 : Hp} (x : KeepBut a H H1) (y : KeepBut a H1 H2) : KeepBut a H H2 := fun b o h n => y b o (x b o h n) n
theorem Same.but {H H' : Hp} (a : Addr) (s : Same H H') : KeepBut a H H' := fun b o h _ => s b o h
theorem Same.upd_new {H : Hp} {p : Addr} {o : HO} (h : H p = none) : Same H (upd H p o) := fun b u e => by rw [upd_ne (ne_of_none e h)]; exact e
theorem KeepBut.upd {H : Hp} {a : Addr} {o : HO} : KeepBut a H (upd H a o) := fun b u e n => by rw [upd_ne n]; exact e
theorem Same.upd_r {H H' : Hp} {p : Addr} {o : HO} (s : Same H H') (h : H p = none) : Same H (L2.upd H' p o) := fun b u e => by rw [upd_ne (ne_of_none e h)]; exact s b u e
theorem KeepBut.upd_r {a : Addr} {H H' : Hp} {p : Addr} {o : HO} (k : KeepBut a H H') (h : H p = none) : KeepBut a H (L2.upd H' p o) := fun b u e n => by rw [upd_ne (ne_of_none e h)]; exact k b u e n
def PoolAt (H : Hp) (a : Addr) (c : Nat) : Prop := ∃ x y z : Int, H a = some (.lst [.int x, .int y, .int z]) ∧ 0 ≤ z ∧ z ≤ c
theorem PoolAt.mono {H : Hp} {a : Addr} {c d : Nat} (h : PoolAt H a c) (e : c ≤ d) : PoolAt H a d := by
  obtain ⟨x, y, z, h1, h2, h3⟩ := h
  exact ⟨x, y, z, h1, h2, by omega⟩
end L2
namespace L2
open PySem PySem.Spec PyProof.Rows
def Cal (P : Program) (w : World) (K : PySem.W.Frag) (mg : Str → Option Value) (base : Heap) (x : Str) (k : Nat) (ps : List Str) (sp : Sp) : Prop :=
  ∃ (f : Addr) (fd : FuncData), mg x = some (.ref f) ∧ PySem.W.keepIn K (.ref f) = true ∧ Binds K fd ps [] ∧ FnOk P w K mg base CX0 k f fd ps sp
section
variable {X : Cx} {x : Str} {p pos : Pos} {e : Expr} {es : List Expr} {t : TA} {k : Nat} {ps : List Str} {sp : Sp}
theorem pe_cal (c : Cal X.prog X.w X.K X.mg X.base x k ps sp) (hr : Room k X.A) (ha : PA X (e :: es) t) (hg : Gl X x := by rfl) (hdb : (x == ("__debug__" : Str)) = false := by decide)
    (he : starEach (e :: es) X.env = (false, eval e X.env) :: starEach es X.env := by rfl) (hpl : (backTo pos (starEach es X.env)).any (·.1) = false := by rfl) :
    PE X (.Call (.Name x p) (e :: es) [] pos) (tCall sp [] E0 t) := by
  obtain ⟨f, fd, h1, h2, h3, h4⟩ := c
  exact pe_call h4 hr hg h1 h2 h3 .nil pass0 ha hdb he hpl
theorem pe_isi {a b : Expr} {ta : TA} (hm : X.mg "isinstance" = none) (ha : PA X [a, b] ta) (hg : Gl X "isinstance" := by rfl)
    (he : starEach [a, b] X.env = (false, eval a X.env) :: starEach [b] X.env := by rfl) (hpl : (backTo pos (starEach [b] X.env)).any (·.1) = false := by rfl) :
    PE X (.Call (.Name "isinstance" p) [a, b] [] pos) (tCB (fun xs H Q => ∃ x n t b, xs = [x, .ty n] ∧ TyOf X.K H x t ∧ PySem.W.kitOne X.K t (.type n) = some b ∧ Q (.bl b) H) ta) :=
  pe_callB call_isi hg hm boot_isi ha (by decide) (by decide) he hpl
theorem pe_tyInt (hm : X.mg "int" = none) (hg : Gl X "int" := by rfl) : PE X (.Name "int" p) (tC (.ty "int")) := pe_bltn hg hm boot_int rfl
theorem pe_tyBool (hm : X.mg "bool" = none) (hg : Gl X "bool" := by rfl) : PE X (.Name "bool" p) (tC (.ty "bool")) := pe_bltn hg hm boot_bool rfl
theorem pe_tyList (hm : X.mg "list" = none) (hg : Gl X "list" := by rfl) : PE X (.Name "list" p) (tC (.ty "list")) := pe_bltn hg hm boot_listT rfl
theorem pe_lenL (hm : X.mg "len" = none) (ha : PA X [e] t) (hg : Gl X "len" := by rfl)
    (he : starEach [e] X.env = (false, eval e X.env) :: starEach [] X.env := by rfl) : PE X (.Call (.Name "len" p) [e] [] pos) (tCB (fun xs H Q => ∃ p ys, xs = [.ref p] ∧ (SqL X.K H p ys ∨ SqT X.K H p ys) ∧ Q (.int ys.length) H) t) :=
  pe_callB call_len_seq hg hm PySem.boot_len ha (by decide) (by decide) he rfl
end
end L2
namespace Mth
structure IsT (p : List Int) : Prop where
  nd : p.Nodup
  lo : ∀ x ∈ p, 0 ≤ x
  hi : ∀ x ∈ p, x < p.length
theorem mem_upTo {n : Nat} {x : Int} : x ∈ L2.upTo 0 n ↔ 0 ≤ x ∧ x < n := by
  unfold L2.upTo
  rw [List.mem_map]
  constructor
  · rintro ⟨i, hi, rfl⟩
    have := List.mem_range.mp hi
    omega
  · rintro ⟨h1, h2⟩
    exact ⟨x.toNat, List.mem_range.mpr (by omega), by omega⟩
theorem length_upTo (lo : Int) (n : Nat) : (L2.upTo lo n).length = n := by
  unfold L2.upTo
  rw [List.length_map, List.length_range]
theorem nodup_upTo (n : Nat) : (L2.upTo 0 n).Nodup := by
  unfold L2.upTo
  rw [List.nodup_iff_pairwise_ne, List.pairwise_map]
  exact List.Pairwise.imp (fun {a b} (h : a < b) => by omega) List.pairwise_lt_range
theorem isT_of_perm {p : List Int} {n : Nat} (h : p.Perm (L2.upTo 0 n)) : IsT p ∧ p.length = n := by
  have hl : p.length = n := by rw [h.length_eq, length_upTo]
  refine ⟨⟨h.nodup_iff.mpr (nodup_upTo n), fun x hx => (mem_upTo.mp (h.mem_iff.mp hx)).1, fun x hx => ?_⟩, hl⟩
  have := (mem_upTo.mp (h.mem_iff.mp hx)).2
  omega
theorem perm_of_nodup : ∀ (n : Nat) (p : List Nat), p.Nodup → (∀ x ∈ p, x < n) → p.length = n → p.Perm (List.range n) := by
  intro n
  induction n with
  | zero => intro p _ _ hl; rw [List.eq_nil_of_length_eq_zero hl]; exact List.Perm.refl _
  | succ n ih =>
    intro p nd hb hl
    by_cases hn : n ∈ p
    · obtain ⟨s, t, rfl⟩ := List.append_of_mem hn
      have pm : (s ++ n :: t).Perm (n :: (s ++ t)) := List.perm_middle
      have nd' := pm.nodup_iff.mp nd
      obtain ⟨h1, h2⟩ := List.nodup_cons.mp nd'
      have := ih (s ++ t) h2 (fun x hx => by
        have hx' : x < n + 1 := hb x (pm.mem_iff.mpr (List.mem_cons_of_mem _ hx))
        have : x ≠ n := fun e => h1 (e ▸ hx)
        omega) (by rw [List.length_append, List.length_cons] at hl; rw [List.length_append]; omega)
      refine pm.trans ?_
      rw [List.range_succ]
      exact (List.Perm.cons n this).trans (List.perm_append_comm (l₁ := [n]))
    · exfalso
      have hlt : ∀ x ∈ p, x < n := fun x hx => by
        have h1 := hb x hx
        have : x ≠ n := fun e => hn (e ▸ hx)
        omega
      match p, nd, hl, hlt with
      | [], _, hl, _ => simp at hl
      | y :: q, nd, hl, hlt =>
        obtain ⟨h1, h2⟩ := List.nodup_cons.mp nd
        have hq := ih q h2 (fun x hx => hlt x (List.mem_cons_of_mem _ hx)) (by simpa using hl)
        have hy := hlt y List.mem_cons_self
        exact h1 (hq.mem_iff.mpr (List.mem_range.mpr hy))
theorem IsT.perm {p : List Int} (h : IsT p) : p.Perm (L2.upTo 0 p.length) := by
  have e : (p.map Int.toNat).map (fun (i : Nat) => (0 : Int) + (i : Int)) = p := by
    rw [List.map_map]
    conv => rhs; rw [← List.map_id p]
    refine List.map_congr_left fun x hx => ?_
    have := h.lo x hx
    show (0 : Int) + ((x.toNat : Nat) : Int) = x
    omega
  have nd : (p.map Int.toNat).Nodup := by
    rw [List.nodup_iff_pairwise_ne, List.pairwise_map]
    have := List.nodup_iff_pairwise_ne.mp h.nd
    refine List.Pairwise.imp_of_mem (fun {a b} ha hb hne z => hne ?_) this
    have h1 := h.lo a ha
    have h2 := h.lo b hb
    omega
  have := perm_of_nodup p.length (p.map Int.toNat) nd (fun x hx => by
    obtain ⟨y, hy, rfl⟩ := List.mem_map.mp hx
    have h1 := h.lo y hy
    have h2 := h.hi y hy
    omega) (by rw [List.length_map])
  have q := this.map (fun (i : Nat) => (0 : Int) + (i : Int))
  rw [e] at q
  exact q
def at0 (fs : List Int) (u : Int) : Option Int := fs[u.toNat]?
theorem map_upTo_at0 (fs : List Int) : (L2.upTo 0 fs.length).map (at0 fs) = fs.map some := by
  unfold L2.upTo
  rw [List.map_map]
  refine List.ext_getElem? fun j => ?_
  rw [List.getElem?_map, List.getElem?_map]
  by_cases hj : j < fs.length
  · rw [List.getElem?_range hj, List.getElem?_eq_getElem hj]
    show some (fs[((0 : Int) + (j : Int)).toNat]?) = _
    have : ((0 : Int) + (j : Int)).toNat = j := by omega
    rw [this, List.getElem?_eq_getElem hj]
    rfl
  · rw [List.getElem?_eq_none (by rw [List.length_range]; omega), List.getElem?_eq_none (by omega)]
    rfl
theorem perm_some {a b : List Int} (h : (a.map some).Perm (b.map some)) : a.Perm b := by
  have := h.map (fun o : Option Int => o.getD 0)
  rw [List.map_map, List.map_map] at this
  have e : ∀ l : List Int, l.map ((fun o : Option Int => o.getD 0) ∘ some) = l := fun l => by
    conv => rhs; rw [← List.map_id l]
    rfl
  rw [e, e] at this
  exact this
theorem perm_along {fs ts qs : List Int} (ht : IsT ts) (hl : fs.length = ts.length) (h : ts.map (at0 fs) = qs.map some) : fs.Perm qs := by
  refine perm_some ?_
  have h1 := ht.perm.map (at0 fs)
  rw [← hl, map_upTo_at0, h] at h1
  exact h1.symm
end Mth
namespace L2
open PySem PySem.Spec PyProof.Rows
theorem CompOk.of {X : Cx} {N : List Str} {nl : Nat} {fr : List Nat} {scope : Scope} (h1 : (scope.names.all fun y => y.2 != .cell) = true := by rfl) (h2 : scope.kind = .function := by rfl)
    (h3 : (scope.names.all fun y => y.2 != .local || scope.names.lookup y.1 == some .local) = true := by rfl)
    (h4 : (scope.names.all fun p => p.2 != .free || (X.env.kindOf p.1 == some .cell || X.env.kindOf p.1 == some .free)) = true := by rfl) (h5 : N.length = nl + fr.length := by rfl)
    (h6 : ((List.range fr.length).all fun k => match fr[k]? with
      | some j => (match N[nl + k]?, X.N[j]? with
        | some y, some z => y == z && (X.env.scope.names.lookup y == some .local || X.env.scope.names.lookup y == some .cell || X.env.scope.names.lookup y == some .free) && scope.names.lookup y == some .free
        | _, _ => false)
      | none => false) = true := by rfl) : CompOk X N nl fr scope where
  cell := fun y hy e => by
    have := List.all_eq_true.mp h1 y hy
    rw [e] at this; exact absurd this (by decide)
  kind := h2
  names := fun y hy e => by
    have := List.all_eq_true.mp h3 y hy
    rw [e] at this
    have q : (scope.names.lookup y.1 == some NameKind.local) = true := by simpa using this
    exact eq_of_beq q
  free := fun p hp e => by
    have := List.all_eq_true.mp h4 p hp
    rw [e] at this
    have q : (X.env.kindOf p.1 == some NameKind.cell || X.env.kindOf p.1 == some NameKind.free) = true := by simpa using this
    rcases Bool.or_eq_true _ _ |>.mp q with z | z
    · exact .inl (eq_of_beq z)
    · exact .inr (eq_of_beq z)
  len := h5
  fr := fun k j e => by
    have hk : k < fr.length := (List.getElem?_eq_some_iff.mp e).1
    have := List.all_eq_true.mp h6 k (List.mem_range.mpr hk)
    rw [e] at this
    dsimp only at this
    cases e1 : N[nl + k]? with
    | none => rw [e1] at this; cases this
    | some y =>
      cases e2 : X.N[j]? with
      | none => rw [e1, e2] at this; cases this
      | some z =>
        rw [e1, e2] at this
        dsimp only at this
        rw [Bool.and_eq_true, Bool.and_eq_true] at this
        obtain ⟨⟨q1, q2⟩, q3⟩ := this
        have hyz : y = z := eq_of_beq q1
        subst hyz
        refine ⟨y, rfl, rfl, ?_, eq_of_beq q3⟩
        rw [Bool.or_eq_true, Bool.or_eq_true] at q2
        rcases q2 with (q | q) | q
        · exact .inl (eq_of_beq q)
        · exact .inr (.inl (eq_of_beq q))
        · exact .inr (.inr (eq_of_beq q))
def seenK (l : List Int) : List (Key × V) := l.map fun n => ((Sum.inl n : Key), V.bl true)
theorem seenK_in {l : List Int} {n : Int} (h : n ∈ l) : valV (seenK l) (Sum.inl n : Key) = some (.bl true) := by
  induction l with
  | nil => simp at h
  | cons a r ih =>
    show valV (((Sum.inl a : Key), V.bl true) :: seenK r) _ = _
    by_cases e : a = n
    · rw [valV_pos (by rw [e])]
    · rw [valV_neg (fun z => e (Sum.inl.inj z))]
      exact ih ((List.mem_cons.mp h).resolve_left fun z => e z.symm)
theorem seenK_no {l : List Int} {n : Int} (h : n ∉ l) : valV (seenK l) (Sum.inl n : Key) = none := by
  induction l with
  | nil => rfl
  | cons a r ih =>
    show valV (((Sum.inl a : Key), V.bl true) :: seenK r) _ = _
    rw [valV_neg (fun z => h (by rw [Sum.inl.inj z]; exact List.mem_cons_self))]
    exact ih fun z => h (List.mem_cons_of_mem _ z)
theorem seenK_put {l : List Int} {n : Int} (h : n ∉ l) : putK (seenK l) (Sum.inl n : Key) (V.bl true) = seenK (l ++ [n]) := by
  rw [putK_new _ (seenK_no h)]
  unfold seenK
  rw [List.map_append]
  rfl
theorem getElem_int {ns : List Int} {i : Nat} {y : V} (h : (ns.map V.int)[i]? = some y) : ∃ z, ns[i]? = some z ∧ y = .int z := by
  rw [List.getElem?_map] at h
  cases e : ns[i]? with
  | none => rw [e] at h; cases h
  | some z => rw [e] at h; exact ⟨z, rfl, (Option.some.inj h).symm⟩
theorem take_succ_of {α : Type} {l : List α} {i : Nat} {x : α} (h : l[i]? = some x) : l.take (i + 1) = l.take i ++ [x] := by
  rw [List.take_add_one, h]
  rfl
end L2
namespace Mth
theorem atI_map {p : List Int} {i : Int} (h0 : 0 ≤ i) (h1 : i < p.length) : L2.atI (p.map L2.V.int) i = some (.int (p.getD i.toNat 0)) := by
  obtain ⟨j, rfl⟩ := Int.eq_ofNat_of_zero_le h0
  refine L2.atI_nat ?_
  have hj : j < p.length := by omega
  rw [List.getElem?_map, List.getElem?_eq_getElem hj]
  show some (L2.V.int p[j]) = _
  rw [Int.toNat_natCast]
  rw [List.getD_eq_getElem?_getD, List.getElem?_eq_getElem hj]
  rfl
end Mth
namespace L2
open PySem PySem.Spec PyProof.Rows
theorem leq_nil (K : PySem.W.Frag) (H : Hp) (n : Nat) (xs : List V) : LEq K H n xs [] xs.isEmpty := by
  cases xs with
  | nil => exact .inr ⟨fun _ => true, rfl, fun j x y e => by simp at e, rfl⟩
  | cons x r => exact .inl ⟨by simp, rfl⟩
section
variable {X : Cx} {p pos apos : Pos} {e o : Expr} {es : List Expr} {t : TA} {to : TE}
theorem pe_append (ho : PE X o to) (ha : PA X [e] t)
    (hbase : attributeBase o "append" X.env (eval o X.env) = eval o X.env := by rfl)
    (hfew : ((backTo pos (starEach [e] X.env)).all (fun x => !x.1) && (backToKw pos (keywordEach [] X.env)).all (fun x => x.1.isSome)
      && decide ([e].length + ([] : List Keyword).length + (if ([] : List Keyword).isEmpty then 0 else 1) < 30)) = true := by rfl)
    (hline : (apos.endLine == pos.line) = true := by rfl) (hs : starEach [e] X.env = (false, eval e X.env) :: starEach [] X.env := by rfl) (hplain : (backTo pos (starEach [] X.env)).any (·.1) = false := by rfl) :
    PE X (.Call (.Attribute o "append" apos) [e] [] pos) (tBM X.K "list" rAppend to t) :=
  pe_bm PySem.F.plainAttrs_list PySem.F.slot_list_append PySem.F.type_list_append mt_append ho ha hbase hfew hline hs hplain
theorem pe_popAt (ho : PE X o to) (ha : PA X [e] t)
    (hbase : attributeBase o "pop" X.env (eval o X.env) = eval o X.env := by rfl)
    (hfew : ((backTo pos (starEach [e] X.env)).all (fun x => !x.1) && (backToKw pos (keywordEach [] X.env)).all (fun x => x.1.isSome)
      && decide ([e].length + ([] : List Keyword).length + (if ([] : List Keyword).isEmpty then 0 else 1) < 30)) = true := by rfl)
    (hline : (apos.endLine == pos.line) = true := by rfl) (hs : starEach [e] X.env = (false, eval e X.env) :: starEach [] X.env := by rfl) (hplain : (backTo pos (starEach [] X.env)).any (·.1) = false := by rfl) :
    PE X (.Call (.Attribute o "pop" apos) [e] [] pos) (tBM X.K "list" rPopAt to t) :=
  pe_bm PySem.F.plainAttrs_list PySem.F.slot_list_pop PySem.F.type_list_pop mt_popAt ho ha hbase hfew hline hs hplain
theorem pe_listOf (hm : X.mg "list" = none) (ha : PA X [e] t) (hg : Gl X "list" := by rfl) (he : starEach [e] X.env = (false, eval e X.env) :: starEach [] X.env := by rfl) :
    PE X (.Call (.Name "list" p) [e] [] pos) (tCB (fun xs H Q => ∃ p ys, xs = [.ref p] ∧ (SqL X.K H p ys ∨ SqT X.K H p ys) ∧ ∀ l, H l = none → Q (.ref l) (upd H l (.lst ys))) t) :=
  pe_callTy call_list_of hg hm boot_listT ha (by decide) (by decide) he rfl
theorem pe_listRng {p2 pos2 : Pos} (hc : X.calm = true) (hm : X.mg "list" = none) (hm2 : X.mg "range" = none) (ha : PA X [e] t) (hg : Gl X "list" := by rfl) (hg2 : Gl X "range" := by rfl) (he : starEach [e] X.env = (false, eval e X.env) :: starEach [] X.env := by rfl)
    (he2 : starEach [.Call (.Name "range" p2) [e] [] pos2] X.env = (false, eval (.Call (.Name "range" p2) [e] [] pos2) X.env) :: starEach [] X.env := by rfl) :
    PE X (.Call (.Name "list" p) [.Call (.Name "range" p2) [e] [] pos2] [] pos) (tCB (fun xs H Q => ∃ p lo hi, xs = [.ref p] ∧ H p = some (.rng lo hi) ∧ (-(2 ^ 62) ≤ lo ∧ lo < 2 ^ 62 ∧ -(2 ^ 62) ≤ hi ∧ hi < 2 ^ 62) ∧ (hi - lo).toNat ≤ 2 ^ 20 ∧
    ∀ l, H l = none → Q (.ref l) (upd H l (.lst ((upTo lo (hi - lo).toNat).map V.int)))) (tCons (tCB (fun xs H Q => ∃ j, xs = [.int j] ∧ ∀ p, H p = none → Q (.ref p) (upd H p (.rng 0 j))) t) tNil)) :=
  pe_callTy (call_list_rng hc) hg hm boot_listT (pa_cons (pe_callTy call_range1 hg2 hm2 boot_rangeT ha (by decide) (by decide) he rfl) pa_nil he2) (by decide) (by decide) he2 rfl
theorem pe_min2 {a b : Expr} (hc : X.calm = true) (hm : X.mg "min" = none) (ha : PA X [a, b] t) (hg : Gl X "min" := by rfl) (he : starEach [a, b] X.env = (false, eval a X.env) :: starEach [b] X.env := by rfl) (hpl : (backTo pos (starEach [b] X.env)).any (·.1) = false := by rfl) :
    PE X (.Call (.Name "min" p) [a, b] [] pos) (tCB (fun xs H Q => ∃ i j, xs = [.int i, .int j] ∧ Q (.int (if j < i then j else i)) H) t) :=
  pe_callB (call_min2 hc) hg hm boot_minB ha (by decide) (by decide) he hpl
theorem pe_max2 {a b : Expr} (hc : X.calm = true) (hm : X.mg "max" = none) (ha : PA X [a, b] t) (hg : Gl X "max" := by rfl) (he : starEach [a, b] X.env = (false, eval a X.env) :: starEach [b] X.env := by rfl) (hpl : (backTo pos (starEach [b] X.env)).any (·.1) = false := by rfl) :
    PE X (.Call (.Name "max" p) [a, b] [] pos) (tCB (fun xs H Q => ∃ i j, xs = [.int i, .int j] ∧ Q (.int (if j > i then j else i)) H) t) :=
  pe_callB (call_max2 hc) hg hm boot_maxB ha (by decide) (by decide) he hpl
end
end L2
namespace Mth
theorem perm_erase {α : Type} : ∀ {l : List α} {k : Nat} {y : α}, l[k]? = some y → (y :: l.eraseIdx k).Perm l
  | [], k, y, h => by simp at h
  | a :: r, 0, y, h => by
    simp at h
    subst h
    exact List.Perm.refl _
  | a :: r, k + 1, y, h => by
    have h' : r[k]? = some y := by simpa using h
    have ih := perm_erase h'
    show (y :: a :: r.eraseIdx k).Perm (a :: r)
    exact (List.Perm.swap a y _).trans (ih.cons a)
end Mth
namespace L2
open PySem PySem.Spec PyProof.Rows
def tLenL (K : PySem.W.Frag) (ta : TA) : TE := tCB (fun xs H Q => ∃ p ys, xs = [.ref p] ∧ (SqL K H p ys ∨ SqT K H p ys) ∧ Q (.int ys.length) H) ta
section
variable {X : Cx} {p pos : Pos} {e : Expr} {t : TA}
theorem pe_lenLK (K : PySem.W.Frag) (hm : X.mg "len" = none) (ha : PA X [e] t) (hK : X.K = K := by rfl) (hg : Gl X "len" := by rfl)
    (he : starEach [e] X.env = (false, eval e X.env) :: starEach [] X.env := by rfl) : PE X (.Call (.Name "len" p) [e] [] pos) (tLenL K t) := by
  subst hK
  exact pe_lenL hm ha hg he
end
def unInt : V → Int
  | .int i => i
  | _ => 0
theorem perm_ints {ys : List V} {xs : List Int} (h : ys.Perm (xs.map V.int)) : ∃ ps : List Int, ys = ps.map V.int ∧ ps.Perm xs := by
  refine ⟨ys.map unInt, ?_, ?_⟩
  · rw [List.map_map]
    conv => lhs; rw [← List.map_id ys]
    refine List.map_congr_left fun y hy => ?_
    obtain ⟨i, _, rfl⟩ := List.mem_map.mp (h.mem_iff.mp hy)
    rfl
  · have := h.map unInt
    rw [List.map_map] at this
    have e : xs.map (unInt ∘ V.int) = xs := by
      conv => rhs; rw [← List.map_id xs]
      rfl
    rw [e] at this
    exact this
end L2
namespace Mth
theorem at0_ne {fs : List Int} {u v x : Int} (hu : 0 ≤ u) (hv : 0 ≤ v) (h : u ≠ v) : at0 (fs.set v.toNat x) u = at0 fs u := by
  unfold at0
  rw [List.getElem?_set_ne (by omega)]
theorem at0_same {fs : List Int} {v x : Int} (h : v.toNat < fs.length) : at0 (fs.set v.toNat x) v = some x := by
  unfold at0
  rw [List.getElem?_set_self h]
theorem getD_eq {ts : List Int} {i : Nat} (h : i < ts.length) : ts.getD i 0 = ts[i] := by
  rw [List.getD_eq_getElem?_getD, List.getElem?_eq_getElem h]
  rfl
theorem nodup_getD {ts : List Int} (nd : ts.Nodup) {i j : Nat} (hi : i < ts.length) (hj : j < ts.length) (h : i ≠ j) : ts.getD i 0 ≠ ts.getD j 0 := by
  rw [getD_eq hi, getD_eq hj]
  rcases Nat.lt_or_gt_of_ne h with z | z
  · exact List.pairwise_iff_getElem.mp (List.nodup_iff_pairwise_ne.mp nd) i j hi hj z
  · exact fun e => List.pairwise_iff_getElem.mp (List.nodup_iff_pairwise_ne.mp nd) j i hj hi z e.symm
theorem seg_done {ts fs qs : List Int} {k L : Nat} (hL : 1 ≤ L) (hb : k + L ≤ ts.length) (h1 : (ts.take k).map (at0 fs) = qs.map some) (hq : qs.Perm (ts.take k))
    (h2 : ∀ j, j < L → at0 fs (ts.getD (k + j) 0) = some (ts.getD (k + (j + 1) % L) 0)) : ∃ qs' : List Int, qs'.Perm (ts.take (k + L)) ∧ (ts.take (k + L)).map (at0 fs) = qs'.map some := by
  have hT : ((ts.drop k).take L).length = L := by rw [List.length_take, List.length_drop]; omega
  have hTj : ∀ j, j < L → ((ts.drop k).take L)[j]? = some (ts.getD (k + j) 0) := fun j hj => by
    rw [List.getElem?_take_of_lt hj, List.getElem?_drop, getD_eq (by omega), List.getElem?_eq_getElem (by omega)]
  have e : ((ts.drop k).take L).map (at0 fs) = (((ts.drop k).take L).drop 1 ++ ((ts.drop k).take L).take 1).map some := by
    refine List.ext_getElem? fun j => ?_
    by_cases hj : j < L
    · rw [List.getElem?_map, hTj j hj, List.getElem?_map]
      show some (at0 fs (ts.getD (k + j) 0)) = _
      rw [h2 j hj]
      by_cases hj1 : j + 1 < L
      · rw [List.getElem?_append_left (by rw [List.length_drop, hT]; omega), List.getElem?_drop, Nat.add_comm 1 j, hTj (j + 1) hj1, Nat.mod_eq_of_lt hj1]
        rfl
      · have hjL : j + 1 = L := by omega
        rw [List.getElem?_append_right (by rw [List.length_drop, hT]; omega), List.length_drop, hT, hjL, Nat.mod_self]
        have : j - (L - 1) = 0 := by omega
        rw [this, List.getElem?_take_of_lt (by omega), hTj 0 (by omega)]
        rfl
    · rw [List.getElem?_eq_none (by rw [List.length_map, hT]; omega), List.getElem?_eq_none]
      rw [List.length_map, List.length_append, List.length_drop, List.length_take (i := 1), hT]
      omega
  refine ⟨qs ++ (((ts.drop k).take L).drop 1 ++ ((ts.drop k).take L).take 1), ?_, ?_⟩
  · rw [List.take_add]
    refine List.Perm.append hq ?_
    refine List.perm_append_comm.trans ?_
    rw [List.take_append_drop]
  · rw [List.take_add, List.map_append, List.map_append, h1, e]
end Mth
namespace L2
open PySem PySem.Spec PyProof.Rows
theorem KeepBut.free {a l : Addr} {H H' : Hp} (k : KeepBut a H H') (h : H' l = none) (n : l ≠ a) : H l = none := by
  cases e : H l with
  | none => rfl
  | some o => have := k l o e n; rw [h] at this; cases this
theorem Same.kb {a : Addr} {H H1 H2 : Hp} (s : Same H H1) (k : KeepBut a H1 H2) (h : H a = none) : Same H H2 := fun b o e => k b o (s b o e) (ne_of_none e h)
theorem map_int_inj {a b : List Int} (h : a.map V.int = b.map V.int) : a = b := (List.map_inj_right (fun x y (h : V.int x = V.int y) => V.int.inj h)).mp h
end L2
namespace L2
open PySem PySem.Spec PyProof.Rows
def Ite (K : PySem.W.Frag) (a : Addr) : It :=
  ⟨fun i H => ∃ xs x, SqL K H a xs ∧ xs[i]? = some x, fun i H v H' => ∃ x t, (∀ xs, SqL K H a xs → xs[i]? = some x) ∧ H t = none ∧ v = .ref t ∧ H' = upd H t (.tup [.int (i : Int), x]), fun i H => ∃ xs, SqL K H a xs ∧ xs.length ≤ i⟩
theorem turn_enum {P : Program} {w : World} {K : PySem.W.Frag} {elts : List Expr} {x1} {pos : Pos} (a e it : Addr) (hne : e ≠ it) :
    Turn P w K (.Tuple elts x1 pos) (Ite K a) [e, it] e (fun i h => (∃ old, IsEnum h e it i old) ∧ h.IsListIter it a i) where
  mem := by simp
  obj := fun i h st b hb => by
    obtain ⟨⟨old, he⟩, ⟨o, ho, c, d⟩⟩ := st
    have hb : b = e ∨ b = it := by simpa using hb
    rcases hb with rfl | rfl
    · exact ⟨_, he, fun v z => by cases z⟩
    · exact ⟨o, ho, fun v z => by rw [d] at z; cases z⟩
  keep := fun i h h' st k => ⟨let ⟨old, he⟩ := st.1; ⟨old, k e (by simp) _ he⟩, st.2.at fun o q => k it (by simp) o q⟩
  item := by
    intro X hP hw hK hc i pins s σ H E I hf st hg
    subst hP hw hK
    obtain ⟨⟨old, he⟩, hit⟩ := st
    obtain ⟨xs, x, hq, hx⟩ := hg
    obtain ⟨its, rv, p, hz⟩ := I.list hq
    obtain ⟨u, hu, ru⟩ := rv.get hx
    obtain ⟨f0, f1, f2, f3, f4, f5⟩ := hf e (by simp)
    obtain ⟨g0, g1, g2, g3, g4, g5⟩ := hf it (by simp)
    refine wpAny_pyNext_enum_item he hit p.isList (x := u) (by simpa using hu) hne fun h' he' hit' ht' hz' hk' => ?_
    refine ⟨_, rfl, wpAny_letOwnedTupleGo_enum he' fun h2 he2 hs2 => ?_⟩
    have hs2 : Heap.SameBut e h' h2 := hs2
    have eT : e ≠ s.heap.objs.size := Nat.ne_of_lt (Heap.lt_size he)
    have ht2 : h2.get? s.heap.objs.size = some { cls := .type "tuple", data := .seq #[.int i s.toks, u] } := hs2.extBut _ _ eT.symm ht'
    have kk : ∀ b o, b ≠ e → b ≠ it → s.heap.get? b = some o → h2.get? b = some o := fun b o b1 b2 q => hs2.extBut b o b1 (hk' b o b1 b2 q)
    have hn : H s.heap.objs.size = none := I.hok.fresh (Nat.le_refl _)
    have nT : ∀ b u', H b = some u' → b ≠ s.heap.objs.size := fun b u' q => ne_of_none q hn
    have ne : ∀ b u', H b = some u' → b ≠ e ∧ b ≠ it := fun b u' q => ⟨fun z => (by rw [z, f0] at q; cases q), fun z => (by rw [z, g0] at q; cases q)⟩
    have I1 : Inv X pins σ (upd H s.heap.objs.size (.tup [.int (i : Int), x])) { s with heap := h2, gens := s.gens, drawn := s.drawn, toks := s.toks + 1 } := by
      refine I.step (ch := [e, it]) (fun b hb => ?_) (fun b o _ _ hc q _ => kk b o (fun z => hc (by simp [z])) (fun z => hc (by simp [z])) q) (fun b o _ _ hc q _ => ⟨o.slots, kk b o (fun z => hc (by simp [z])) (fun z => hc (by simp [z])) q⟩)
        (fun b o hc q n => by rw [upd_ne (Nat.ne_of_lt (Heap.lt_size q))]; exact n) (fun b o hc q => ⟨o, kk b o (fun z => hc (by simp [z])) (fun z => hc (by simp [z])) q⟩)
        (fun b ys q => by rw [upd_ne (nT b _ q)]; exact q) (fun b o ys q => by rw [upd_ne (nT b _ q)]; exact q) (fun b ps q => ⟨#[], by rw [upd_ne (nT b _ q), q]; simp⟩) (fun m hm => ?_) (fun b u' q => ?_) I.bare
      · have hb : b = e ∨ b = it := by simpa using hb
        rcases hb with rfl | rfl
        · exact ⟨f3, f1, f4, f5⟩
        · exact ⟨g3, g1, g4, g5⟩
      · obtain ⟨o, es, ep, ho, r⟩ := hm
        exact ⟨o, es, ep, kk _ o (Ne.symm f1) (Ne.symm g1) ho, r⟩
      · by_cases hb : b = s.heap.objs.size
        · subst hb
          rw [upd_same] at q
          cases q
          exact ⟨by show 2 ≤ sizeLine; decide, [.int i s.toks, u], .cons ⟨_, rfl⟩ (.cons ru .nil), ⟨_, ht2, rfl, 0, rfl⟩⟩
        · rw [upd_ne hb] at q
          refine (I.hok b u' q).stay (fun c v hc q' => ?_) (fun c q' => by rw [upd_ne (nT c _ q')]; exact q') fun c ys q' => by rw [upd_ne (nT c _ q')]; exact q'
          rcases hc with z | z
          · rw [z] at q' ⊢; exact kk b v (ne b _ q).1 (ne b _ q).2 q'
          · exact kk c v (ne c _ z).1 (ne c _ z).2 q'
    refine ⟨.ref s.heap.objs.size, _, I1, rfl, ⟨x, s.heap.objs.size, fun ys hy => by rw [I.list_inj hy hq]; exact hx, hn, rfl, rfl⟩, ⟨⟨u, ?_⟩, ?_⟩, fun b hb => ?_⟩
    · have : ((i + 1 : Nat) : Int) = (i : Int) + 1 := by push_cast; rfl
      rw [this]
      exact he2
    · exact hit'.extBut hs2.extBut hne.symm
    · have hb : b = e ∨ b = it := by simpa using hb
      rcases hb with rfl | rfl
      · rw [upd_ne eT]; exact f0
      · obtain ⟨o, ho, _⟩ := hit
        rw [upd_ne (Nat.ne_of_lt (Heap.lt_size ho))]; exact g0
  done := by
    intro X hP hw hK hc i pins s σ H E I hf st hg
    subst hP hw hK
    obtain ⟨⟨old, he⟩, hit⟩ := st
    obtain ⟨xs, hq, hx⟩ := hg
    obtain ⟨its, rv, p, hz⟩ := I.list hq
    obtain ⟨g0, g1, g2, g3, g4, g5⟩ := hf it (by simp)
    have hl := rv.length
    exact wpAny_pyNext_enum_end (I.ok.hd hc) he hit p.isList (by simp; omega) fun h' eb => ⟨rfl, I.turned (t' := s.toks) (fun b o hb q => eb b o hb q) g0 g1 g3 g4 g5⟩
  self := fun _ _ _ _ _ st h => let ⟨_, he⟩ := st.1; wpAny_pyIter_enum he h
theorem boot_enum : bootBuiltins "enumerate" = some (.type "enumerate") := by decide +kernel
section
variable {X : Cx} {l : Expr} {ta : TA} {p pos : Pos} {elts : List Expr} {x1 : Nat} {tpos : Pos}
def iEnum (K : PySem.W.Frag) (ta : TA) : TI := fun σ H R => ta σ H fun vs H1 => ∃ a, vs = [.ref a] ∧ (∃ xs, SqL K H1 a xs) ∧ R (Ite K a) H1
theorem pi_enum (hm : X.mg "enumerate" = none) (ha : PA X [l] ta) (hg : Gl X "enumerate" := by rfl) (hs : starEach [l] X.env = [(false, eval l X.env)] := by rfl) : PI X (.Tuple elts x1 tpos) (.Call (.Name "enumerate" p) [l] [] pos) (iEnum X.K ta) := by
  intro pins s σ H R I h
  refine Call_ (ld_blt I hg hm boot_enum (PyProof.Rows.callWith_type1 (thn (ha pos pins s σ H _ I h) fun us s1 ⟨vs, H1, I1, r1, q1⟩ => ?_) hs rfl))
  obtain ⟨a, e, ⟨xs, hq⟩, q⟩ := q1
  subst e
  obtain ⟨u, rfl, rx⟩ := vals1 r1
  cases rx
  obtain ⟨its, rv, pl, hz⟩ := I1.list hq
  refine call_enumerate_list pl.isList fun h' he hit hz' hk => ?_
  refine wpAny_pyIter_enum he ?_
  have I2 : Inv X pins σ H1 { s1 with heap := h', toks := s1.toks } := I1.kept (t' := s1.toks) hk
  refine ⟨s1.heap.objs.size + 1, [s1.heap.objs.size + 1, s1.heap.objs.size], _, _, H1, rfl, I2, turn_enum a (s1.heap.objs.size + 1) s1.heap.objs.size (Nat.succ_ne_self _), ⟨⟨.none, he⟩, hit⟩, fun b hb => ?_, q⟩
  have hb : b = s1.heap.objs.size + 1 ∨ b = s1.heap.objs.size := by simpa using hb
  rcases hb with rfl | rfl
  · exact I1.fpOk (by omega) (I1.hok.fresh (by omega))
  · exact I1.fpOk (by omega) (I1.hok.fresh (by omega))
end
theorem for_enum {K : PySem.W.Frag} {a : Addr} {xs : List V} {g : TG} {tb : TS} {D : Ends} {σ : St} {H : Hp} (Pv : Nat → St → Hp → Prop) (h0 : Pv 0 σ H) (hl : ∀ i σ H, i ≤ xs.length → Pv i σ H → SqL K H a xs)
    (hs : ∀ i x σ H t, xs[i]? = some x → Pv i σ H → H t = none → g (.ref t) σ (upd H t (.tup [.int (i : Int), x])) fun σ2 H2 => tb { D with nx := Pv (i + 1), ct := Pv (i + 1), bk := D.nx } σ2 H2) (hd : ∀ σ H, Pv xs.length σ H → D.nx σ H) :
    ∃ W : Nat → Nat → St → Hp → Prop, (∃ m, W 0 m σ H) ∧ ∀ i m σ H, W i m σ H →
      ((Ite K a).stop i H ∧ D.nx σ H) ∨ ((Ite K a).go i H ∧ ∃ N : St → Hp → Prop, (∀ σ' H', N σ' H' → ∃ m', m' < m ∧ W (i + 1) m' σ' H') ∧ ∀ x H', (Ite K a).yld i H x H' → g x σ H' fun σ2 H2 => tb { D with nx := N, ct := N, bk := D.nx } σ2 H2) := by
  refine ⟨fun i m σ H => m = xs.length - i ∧ i ≤ xs.length ∧ Pv i σ H, ⟨xs.length, by simp, Nat.zero_le _, h0⟩, ?_⟩
  rintro i m σ H ⟨rfl, hi, p⟩
  have q := hl i σ H hi p
  by_cases hlt : i < xs.length
  · refine .inr ⟨⟨xs, xs[i], q, by simp [hlt]⟩, Pv (i + 1), fun σ' H' p' => ⟨xs.length - (i + 1), by omega, rfl, hlt, p'⟩, fun x H' y => ?_⟩
    obtain ⟨x', t, y1, y2, e1, e2⟩ := y
    subst e1 e2
    exact hs i x' σ _ t (y1 xs q) p y2
  · have e : i = xs.length := by omega
    subst e
    exact .inl ⟨⟨xs, q, Nat.le_refl _⟩, hd σ H p⟩
end L2
namespace L2
open PySem PySem.Spec PyProof.Rows
def CDivB (i j : Int) : Prop := 0 < j ∧ j ≤ 1000000000000000000000000000000
theorem op_fdivB {X : Cx} : OpR X (binaryOp .FloorDiv) (rI CDivB fun i j => .int (i / j)) := opI fun i j _ _ _ _ _ hc q => by
  have hp : Builtin.divisionGoesByPylong i j = false := by
    refine PyProof.noPylong_of_log2 ?_
    obtain ⟨h1, h2⟩ := hc
    have : j.natAbs < 2 ^ 9000 := Nat.lt_of_le_of_lt (show j.natAbs ≤ 1000000000000000000000000000000 by omega) (by decide +kernel)
    exact (Nat.log2_lt (by omega)).mpr this
  refine floordiv_int (by have := hc.1; omega) ?_ (.inl hp)
  rw [Int.fdiv_eq_ediv_of_nonneg i (by have := hc.1; omega)]
  exact q
end L2
namespace L2
open PySem PySem.Spec PyProof.Rows
theorem boot_sortedB : bootBuiltins "sorted" = some (.builtin "sorted") := by decide +kernel
section
variable {X : Cx}
theorem laid_sorted {pins : List (Addr × Obj)} {σ : St} {H : Hp} {s : Shared} (I : Inv X pins σ H s) {vs : List Value} {out : Array Value} {ms : List Int} (h : IntsAre out.toList ms) (hl : ms.length ≤ sizeLine) :
    Inv X pins σ (upd H (s.heap.objs.size + 1) (.lst (ms.map V.int))) { s with heap := sortedAll s.heap vs out, toks := s.toks } := by
  obtain ⟨e, he⟩ := sortedAll_at s.heap vs out
  refine I.laid (t' := s.toks) (fun _ _ q => sortedAll_old q) (Nat.le_succ _) (show ObjOk X.prog X.w _ _ _ (.lst (ms.map V.int)) from ⟨by rw [List.length_map]; exact hl, out.toList, e, vals_ints h, he⟩)
variable {e : Expr} {t : TA} {p pos kpos : Pos}
end
end L2
namespace Mth
theorem sorted_same : ∀ {a b : List Int}, a.Perm b → a.Pairwise (· ≥ ·) → b.Pairwise (· ≥ ·) → a = b
  | [], b, h, _, _ => by rw [List.nil_perm.mp h]
  | x :: a, [], h, _, _ => by exact absurd h.length_eq (by simp)
  | x :: a, y :: b, h, ha, hb => by
    obtain ⟨a1, a2⟩ := List.pairwise_cons.mp ha
    obtain ⟨b1, b2⟩ := List.pairwise_cons.mp hb
    have hxy : x = y := by
      have h1 : x ∈ y :: b := h.mem_iff.mp List.mem_cons_self
      have h2 : y ∈ x :: a := h.mem_iff.mpr List.mem_cons_self
      have l1 : y ≥ x := by
        rcases List.mem_cons.mp h1 with e | e
        · exact Int.le_of_eq e
        · exact b1 x e
      have l2 : x ≥ y := by
        rcases List.mem_cons.mp h2 with e | e
        · exact Int.le_of_eq e
        · exact a1 y e
      omega
    subst hxy
    rw [sorted_same ((List.perm_cons x).mp h) a2 b2]
end Mth
namespace L2
open PySem PySem.Spec PyProof.Rows
section
variable {X : Cx}
theorem boot_intB : bootBuiltins "int" = some (.type "int") := by decide +kernel
theorem call_intB : CallR X (.type "int") (fun xs H Q => ∃ b, xs = [.bl b] ∧ Q (.int (if b then 1 else 0)) H) := by
  intro pins s σ H xs us Q I r h
  obtain ⟨b, rfl, q⟩ := h
  obtain ⟨u, rfl, rx⟩ := vals1 r
  cases rx
  exact call_int_bool ⟨.int _, H, I.tok _, ⟨_, rfl⟩, q⟩
theorem pe_intB {e : Expr} {t : TA} {p pos : Pos} (hm : X.mg "int" = none) (ha : PA X [e] t) (hg : Gl X "int" := by rfl) (he : starEach [e] X.env = (false, eval e X.env) :: starEach [] X.env := by rfl) :
    PE X (.Call (.Name "int" p) [e] [] pos) (tCB (fun xs H Q => ∃ b, xs = [.bl b] ∧ Q (.int (if b then 1 else 0)) H) t) :=
  pe_callTy call_intB hg hm boot_intB ha (by decide) (by decide) he rfl
end
theorem cut_mid (xs : List V) (k j : Nat) (h : k ≤ xs.length) : cutV xs (some (k : Int)) (some (j : Int)) = (xs.drop k).take (min j xs.length - k) := by
  unfold cutV
  rw [HT.sIx_nat, HT.sIx_nat, Nat.min_eq_left h]
end L2
namespace Mth
theorem maxmin {n c : Int} (hn : 1 ≤ n) (hc : 0 ≤ c) : ∃ mx, (if (if n < c then n else c) > 1 then (if n < c then n else c) else (1 : Int)) = mx ∧ 1 ≤ mx ∧ mx ≤ n := by
  refine ⟨_, rfl, ?_⟩
  split <;> split at * <;> omega
theorem maxmin' {n c : Int} (hn : 1 ≤ n) (hc : 0 ≤ c) : ∃ mx, (if (if c < n then c else n) > 1 then (if c < n then c else n) else (1 : Int)) = mx ∧ 1 ≤ mx ∧ mx ≤ n := by
  refine ⟨_, rfl, ?_⟩
  split <;> split at * <;> omega
end Mth
namespace L2
open PySem PySem.Spec PyProof.Rows
theorem boot_tupleT : bootBuiltins "tuple" = some (.type "tuple") := by decide +kernel
end L2
namespace L2
open PySem PySem.Spec PyProof.Rows
theorem HOk.hide {P : Program} {w : World} {H : Hp} {h : Heap} {as : List Addr} (x : HOk P w H h) (hn : ∀ b ∈ as, H b = none) : HOk P w H (PySem.W.hideAll h as) := fun a o e =>
  (x a o e).stay (fun b u hb q => PySem.W.hideAll_get _ q fun hm => by
    have := hn b hm
    rcases hb with rfl | hb
    · rw [e] at this; cases this
    · rw [hb] at this; cases this) (fun _ q => q) fun _ _ q => q
def CX1 (P : Program) (w : World) : CXT := fun outer H s E e s' =>
  ∃ (a t C : Addr) (vs : List Value) (B : Heap) (H' : Hp), e = .ref a ∧ s'.os = s.os ∧ AllBare s'.gens ∧ Un (frs outer) [] H H' s.heap s'.heap ∧ HOk P w H' B ∧
    (∀ b o, s.heap.get? b = some o → H b = none → b ∉ frs outer → B.get? b = some o) ∧ (∀ b o, s.heap.get? b = some o → b ∉ frs outer → ∃ o', B.get? b = some o') ∧
    Heap.FlyingW B outer a (.ref C) (.ref t) s'.heap ∧ s'.heap.TupAt t vs ∧ B.get? t = none ∧ E (.ref C) none H'
theorem un_fly {fs : List Addr} {H0 H1 : Hp} {h0 h1 h2 B : Heap} (u : Un fs [] H0 H1 h0 h1) (kb : ∀ b o, h0.get? b = some o → H0 b = none → b ∉ fs → B.get? b = some o) (tb : ∀ b o, h0.get? b = some o → b ∉ fs → ∃ o', B.get? b = some o')
    (st : B.StaysIn h2) (up : h1.UpToSlots h2) (fr : ∀ b ∈ fs, ∀ o, h1.get? b = some o → ∀ vs, o.data ≠ .fields vs) : Un fs [] H0 H1 h0 h2 where
  keep := fun b o q n hb _ => st b o (kb b o q n hb)
  slot := fun b o q n hb hx => by
    obtain ⟨sl, e⟩ := u.slot b o q n hb hx
    obtain ⟨sl2, e2⟩ := up b _ e (fr b hb _ e)
    exact ⟨sl2, e2⟩
  free := u.free
  there := fun b o q hx => by
    by_cases hb : b ∈ fs
    · obtain ⟨o', e⟩ := u.there b o q hx
      obtain ⟨sl, e2⟩ := up b o' e (fr b hb _ e)
      exact ⟨_, e2⟩
    · obtain ⟨o', e⟩ := tb b o q hb
      exact ⟨o', st b o' e⟩
  tups := u.tups
  frzs := u.frzs
  tbls := u.tbls
def Raises (X : Cx) (E : XK) : Prop := ∀ (pins : List (Addr × Obj)) (σ : St) (H : Hp) (s : Shared) (h' : Heap) (e C : Addr) (vs : List Value), Inv X pins σ H s → Heap.MadeExcOf s.heap h' e (.ref C) vs → E (.ref C) none H → X.xe (.ref e) { s with heap := h' }
theorem frames_plain {X : Cx} {pins : List (Addr × Obj)} {σ : St} {H : Hp} {s : Shared} (I : Inv X pins σ H s) : ∀ b ∈ frs X.stack, ∀ o, s.heap.get? b = some o → ∀ vs, o.data ≠ .fields vs := fun b hb o ho => by
  obtain ⟨_, o', ho', hn⟩ := I.stack.mem hb
  rw [ho] at ho'
  cases ho'
  exact hn
section
variable {P : Program} {w : World} {K : PySem.W.Frag} {mg : Str → Option Value} {base : Heap} {N : List Str} {qual : Str} {scope : Scope} {f : Addr} {cd : Value} {A : Around} {outer : List Env} {s₀ : Shared} {H₀ : Hp} {E E' : XK}
theorem own_above {pins : List (Addr × Obj)} {σ : St} {H : Hp} {s : Shared} (I : Inv (cxOf (CX1 P w) P w K mg base N qual scope f cd A outer s₀ H₀ E) pins σ H s) {b : Addr} {o : Obj} (h : s₀.heap.get? b = some o) (hb : b ∉ frs outer) :
    b ∉ frs (envOfC qual scope s₀.heap.objs.size f cd :: outer) := fun hm => by
  unfold frs at hm hb
  rw [List.filterMap_cons] at hm
  have hf : (envOfC qual scope s₀.heap.objs.size f cd).frame = some s₀.heap.objs.size := rfl
  rw [hf] at hm
  rcases List.mem_cons.mp hm with z | z
  · have := Heap.lt_size h
    rw [z] at this
    exact absurd this (Nat.lt_irrefl _)
  · exact hb z
theorem raises_cx : Raises (cxOf (CX1 P w) P w K mg base N qual scope f cd A outer s₀ H₀ E) E := by
  intro pins σ H s h' e C vs I hx hE
  show wpAny (model P w) _ (leaving _ (.ref e)) _ _ _
  have hin : ∀ env ∈ (envOfC qual scope s₀.heap.objs.size f cd :: outer), ∀ b, env.frame = some b → b ∈ frs (envOfC qual scope s₀.heap.objs.size f cd :: outer) := fun env he b hb => List.mem_filterMap.mpr ⟨env, he, hb⟩
  have hst : s.heap.FunFrames base (envOfC qual scope s₀.heap.objs.size f cd :: outer) := I.stack
  have hsf : ∀ b ∈ frs (envOfC qual scope s₀.heap.objs.size f cd :: outer), H b = none := I.stkFree
  have hub : Un (frs outer) [] H₀ H s₀.heap s.heap := I.base
  refine wpAny_leaves_madeW (base := PySem.W.hideAll s.heap (frs (envOfC qual scope s₀.heap.objs.size f cd :: outer))) (h := s.heap) I.ok.frames rfl (fun b o q => PySem.W.of_hideAll _ q) (PySem.W.funFrames_hide hst hin) hx fun h2 t fl tup tn up => ?_
  have up' : s.heap.UpToSlots h2 := (Heap.UpToSlots.of_keeps hx.keeps).trans up
  have kb : ∀ b o, s₀.heap.get? b = some o → H₀ b = none → b ∉ frs outer → (PySem.W.hideAll s.heap (frs (envOfC qual scope s₀.heap.objs.size f cd :: outer))).get? b = some o := fun b o q n hb =>
    PySem.W.hideAll_get _ (hub.keep b o q n hb (by simp)) (own_above I q hb)
  have tb : ∀ b o, s₀.heap.get? b = some o → b ∉ frs outer → ∃ o', (PySem.W.hideAll s.heap (frs (envOfC qual scope s₀.heap.objs.size f cd :: outer))).get? b = some o' := fun b o q hb => by
    obtain ⟨o', e'⟩ := hub.there b o q (by simp)
    exact ⟨o', PySem.W.hideAll_get _ e' (own_above I q hb)⟩
  refine ⟨e, t, C, vs, _, H, rfl, I.os, I.bare, un_fly hub kb tb fl.1 up' (fun b hb o ho => ?_), I.hok.hide hsf, kb, tb, fl, tup, tn, hE⟩
  exact frames_plain I b (by show b ∈ frs (envOfC qual scope s₀.heap.objs.size f cd :: outer); unfold frs at hb ⊢; rw [List.filterMap_cons]; exact List.mem_cons_of_mem _ hb) o ho
theorem passes_cx (imp : ∀ c d H, E c d H → E' c d H) : Passes (CX1 P w) (cxOf (CX1 P w) P w K mg base N qual scope f cd A outer s₀ H₀ E') E := by
  intro pins σ H s e s' I h
  obtain ⟨a, t, C, vs, B, H', rfl, os, bare, un, hok, kb, tb, fl, tup, tn, hE⟩ := h
  show wpAny (model P w) _ (leaving _ (.ref a)) _ _ _
  have hub : Un (frs outer) [] H₀ H s₀.heap s.heap := I.base
  have un' : Un (frs (envOfC qual scope s₀.heap.objs.size f cd :: outer)) [] H H' s.heap s'.heap := un
  have sub : ∀ b, b ∈ frs outer → b ∈ frs (envOfC qual scope s₀.heap.objs.size f cd :: outer) := fun b hb => by
    unfold frs at hb ⊢; rw [List.filterMap_cons]; exact List.mem_cons_of_mem _ hb
  refine wpAny_leaves_onW (L := s₀.heap.objs.size) I.ok.frames rfl fl fun h2 fl2 up => ?_
  have kb' : ∀ b o, s₀.heap.get? b = some o → H₀ b = none → b ∉ frs outer → B.get? b = some o := fun b o q n hb =>
    kb b o (hub.keep b o q n hb (by simp)) (hub.free b o q n (by simp)) (own_above I q hb)
  have tb' : ∀ b o, s₀.heap.get? b = some o → b ∉ frs outer → ∃ o', B.get? b = some o' := fun b o q hb => by
    obtain ⟨o', e'⟩ := hub.there b o q (by simp)
    exact tb b o' e' (own_above I q hb)
  have plain : ∀ b ∈ frs outer, ∀ o, s'.heap.get? b = some o → ∀ vs, o.data ≠ .fields vs := fun b hb o ho => by
    obtain ⟨_, o1, ho1, hn⟩ := I.stack.mem (sub b hb)
    obtain ⟨sl, e1⟩ := un'.slot b o1 ho1 (I.stkFree b (sub b hb)) (sub b hb) (by simp)
    rw [ho] at e1
    cases e1
    exact hn
  have unw : Un (frs outer) [] H₀ H' s₀.heap s'.heap := {
    keep := fun b o q n hb _ => un'.keep b o (hub.keep b o q n hb (by simp)) (hub.free b o q n (by simp)) (own_above I q hb) (by simp)
    slot := fun b o q n hb _ => by
      obtain ⟨sl, e1⟩ := hub.slot b o q n hb (by simp)
      obtain ⟨sl2, e2⟩ := un'.slot b _ e1 (hub.free b o q n (by simp)) (sub b hb) (by simp)
      exact ⟨sl2, e2⟩
    free := fun b o q n _ => by
      obtain ⟨sl, e1⟩ := hub.any q n (by simp)
      exact un'.free b _ e1 (hub.free b o q n (by simp)) (by simp)
    there := fun b o q _ => by
      obtain ⟨o', e1⟩ := hub.there b o q (by simp)
      exact un'.there b o' e1 (by simp)
    tups := fun b xs q => un'.tups b xs (hub.tups b xs q)
    frzs := fun b o u q => un'.frzs b o u (hub.frzs b o u q)
    tbls := fun b ps q => by
      obtain ⟨m1, q1⟩ := hub.tbls b ps q
      obtain ⟨m2, q2⟩ := un'.tbls b _ q1
      exact ⟨m1 ++ m2, by rw [q2, Array.append_assoc]⟩ }
  exact ⟨a, t, C, vs, B, H', rfl, os.trans I.os, bare, un_fly unw kb' tb' fl2.1 up plain, hok, kb', tb', fl2, tup.of_slots up, tn, imp _ _ _ hE⟩
end
theorem exc_obj {K : PySem.W.Frag} {h : Heap} {C : Addr} {bmB : List Value} {newId : String} (X : K.In h) (q : PySem.W.excIn K C bmB newId = true) :
    ∃ (bm : List Value) (N : Addr) (nm qn : Str) (bs : List Value) (hdct : Bool) (sn : List Str) (sub : List Value) (ab : Bool) (col : Option Bool) (dd : Option Addr) (k0 k1 k2 k3 k5 : Option Value) (mN : Str → Option Value),
      K.lookup C = some (excClassObj nm qn C N bs bm hdct sn sub ab col dd k0 k1 k2 k3 k5 newId) ∧ h.Ns N mN ∧ mN "__init__" = none ∧ OwnTail h bmB bm := by
  unfold PySem.W.excIn at q
  split at q
  · rename_i dd cd sl look
    split at q
    · rename_i C' bm k0 k1 k2 k3 n k5 hmro hsl
      rw [Bool.and_eq_true, Bool.and_eq_true, Bool.and_eq_true, Bool.and_eq_true, Bool.and_eq_true] at q
      obtain ⟨⟨⟨⟨⟨q1, q2⟩, q3⟩, q4⟩, q5⟩, q6⟩ := q
      have e1 : C' = C := beq_iff_eq.mp q1
      have e2 : n = newId := beq_iff_eq.mp q2
      subst e1 e2
      obtain ⟨nm, bs, mro, ns, qn, hd, sn, sub, ab, col, del⟩ := cd
      have e3 : mro = .ref C' :: bm := hmro
      have e4 : del = false := by
        cases del with
        | false => rfl
        | true => cases q3
      subst e3 e4
      have e5 : sl = #[k0, k1, k2, k3, some (.builtin n), k5] := by
        apply Array.ext'
        exact hsl
      subst e5
      exact ⟨bm, ns, nm, qn, bs, hd, sn, sub, ab, col, dd, k0, k1, k2, k3, k5, _, look, .of_isNs (PySem.W.isNs_of_in X q5), PySem.W.nsMap_none_of_in X q5 (beq_iff_eq.mp q6), PySem.W.tail_of_in X q4⟩
    · cases q
  · cases q
abbrev veB : List Value := [.type "ValueError", .type "Exception", .type "BaseException", .type "object"]
structure Err (K : PySem.W.Frag) (mg : Str → Option Value) (x : Str) (C : Addr) : Prop where
  mg : mg x = some (.ref C)
  ex : PySem.W.excIn K C veB "ValueError.__new__" = true
section
variable {X : Cx}
theorem ps_raise {x : Str} {C : Addr} {E : XK} {e : Expr} {te : TE} {np cpos pos : Pos} (R : Raises X E) (hc : X.calm = true) (c : Err X.K X.mg x C) (he : PE X e te) (hg : Gl X x := by rfl)
    (hs : starEach [e] X.env = (false, eval e X.env) :: starEach [] X.env := by rfl) (hd : (x == ("__debug__" : Str)) = false := by decide) :
    PS X (.Raise (some (.Call (.Name x np) [e] [] cpos)) none pos) (fun _ σ H => te σ H fun _ H1 => E (.ref C) none H1) := by
  intro pins s σ H D I h
  obtain ⟨bm, N, nm, qn, bs, hdct, sn, sub, ab, col, dd, k0, k1, k2, k3, k5, mN, hC, hN, hni, T⟩ := exc_obj I.ok.mod.kin c.ex
  refine wpAny_Raise_call_subT (C := C) (nm := nm) (q := qn) (N := N) (bs := bs) (bm := bm) (hdct := hdct) (sn := sn) (sub := sub) (ab := ab) (col := col) (dd := dd) (k0 := k0) (k1 := k1) (k2 := k2) (k3 := k3) (k5 := k5)
    PySem.F.excBase_ValueError (mN := mN) (T.hasType PySem.F.excBase_ValueError.hasBase) (I.ok.hd hc) (by rw [hs]; rfl) hni (ld_glob I hg c.mg ⟨rfl, ?_⟩ hd)
  rw [hs]
  refine Calls.evalArgs_plain (Calls.spliced_cons (thn (he pins s σ H _ I h) fun v s1 ⟨x, H1, I1, rx, q⟩ => Calls.spliced_nil ?_))
  exact ⟨rfl, (by show 1 ≤ sizeLine; decide), I1.kIn _ _ hC, hN.keeps I1.bk, T.keeps I1.bk, fun h' e' hm => R pins σ H1 s1 h' e' C _ I1 hm q⟩
end
section
variable {P : Program} {w : World} {K : PySem.W.Frag} {mg : Str → Option Value} {base : Heap}
theorem FnOk.lift {k : Nat} {f : Addr} {fd : FuncData} {ps : List Str} {sp : Sp} {CX : CXT} (F : FnOk P w K mg base CX0 k f fd ps sp) : FnOk P w K mg base CX k f fd ps sp :=
  ⟨F.len, fun A outer s H args us vs Q E hr e0 hb hv hs => codeAny_mono (F.run A outer s H args us vs Q E hr e0 hb hv hs) fun r s' h => by
    cases r with
    | error e => exact (show False from h).elim
    | ok v => cases v <;> exact h⟩
theorem FnOk.or {k : Nat} {f : Addr} {fd : FuncData} {ps : List Str} {sp sp' : Sp} {CX : CXT} (F : FnOk P w K mg base CX k f fd ps sp) (G : FnOk P w K mg base CX k f fd ps sp') : FnOk P w K mg base CX k f fd ps (fun vs H Q E => sp vs H Q E ∨ sp' vs H Q E) :=
  ⟨fun vs H Q E h => h.elim (F.len vs H Q E) (G.len vs H Q E), fun A outer s H args us vs Q E hr e0 hb hv hs => hs.elim (F.run A outer s H args us vs Q E hr e0 hb hv) (G.run A outer s H args us vs Q E hr e0 hb hv)⟩
theorem Fun.okx {x qual : Str} {st : Stmt} {f : Addr} {fd : FuncData} {N ps : List Str} {k : Nat} {sp : Sp} (F : Fun K x qual st f fd) (S : FnScope N ps (defScope st)) (len : ∀ vs H Q E, sp vs H Q E → vs.length = ps.length)
    (hbody : ∀ (cdv : Value) (A : Around) (outer : List Env) (s : Shared) (H : Hp) (vs : List V) (Q : VK) (E : XK), Room k (A.deeper (envOfC qual (defScope st) s.heap.objs.size f cdv)) → sp vs H Q E →
      ∃ t, PSs (cxOf (CX1 P w) P w K mg base N qual (defScope st) f cdv A outer s H E) (defBody st) t ∧ t { nx := fun _ H' => Q .non H', rt := Q } (start N vs) H) : FnOk P w K mg base (CX1 P w) (k + 1) f fd ps sp := by
  obtain ⟨oc, od, kV, doc, pm, an, cdv, ct, osl, rfl, lk, hcd⟩ := F.ex
  exact fn_of lk hcd S len fun A outer s H vs Q E hr hsp => hbody cdv A outer s H vs Q E hr hsp
def CalX (P : Program) (w : World) (K : PySem.W.Frag) (mg : Str → Option Value) (base : Heap) (x : Str) (k : Nat) (ps : List Str) (sp : Sp) : Prop :=
  ∃ (f : Addr) (fd : FuncData), mg x = some (.ref f) ∧ PySem.W.keepIn K (.ref f) = true ∧ Binds K fd ps [] ∧ FnOk P w K mg base (CX1 P w) k f fd ps sp
end
section
variable {X : Cx} {x : Str} {k : Nat} {ps : List Str} {sp : Sp} {e : Expr} {es : List Expr} {t : TA} {p pos : Pos} {E : XK}
theorem pe_calx (c : CalX X.prog X.w X.K X.mg X.base x k ps sp) (hr : Room k X.A) (hx : Passes (CX1 X.prog X.w) X E) (ha : PA X (e :: es) t) (hg : Gl X x := by rfl) (hdb : (x == ("__debug__" : Str)) = false := by decide)
    (he : starEach (e :: es) X.env = (false, eval e X.env) :: starEach es X.env := by rfl) (hpl : (backTo pos (starEach es X.env)).any (·.1) = false := by rfl) : PE X (.Call (.Name x p) (e :: es) [] pos) (tCall sp [] E t) := by
  obtain ⟨f, fd, h1, h2, h3, h4⟩ := c
  exact pe_call h4 hr hg h1 h2 h3 .nil hx ha hdb he hpl
end
end L2
namespace L2
open PySem PySem.Spec PyProof.Rows
theorem ObjOk.get {P : Program} {w : World} {H : Hp} {h : Heap} {a : Addr} {o : HO} (x : ObjOk P w H h a o) : ∃ u, h.get? a = some u := by
  cases o with
  | lst xs => obtain ⟨_, _, _, _, e⟩ := x; exact ⟨_, e⟩
  | tup xs => obtain ⟨_, _, _, ob, e, _⟩ := x; exact ⟨_, e⟩
  | dK kvs => obtain ⟨_, _, _, _, o, _, _, e, _⟩ := x; exact ⟨_, e⟩
  | dT kvs => obtain ⟨_, _, _, _, o, _, _, e, _⟩ := x; exact ⟨_, e⟩
  | set S n => obtain ⟨o, _, _, _, e, _⟩ := x; exact ⟨_, e⟩
  | ins C dx fs => obtain ⟨_, _, _, e, _⟩ := x; exact ⟨_, e⟩
  | own y => obtain ⟨_, e⟩ := x; exact ⟨_, e⟩
  | xd fs => obtain ⟨_, ⟨_, _, _, e, _⟩, _⟩ := x; exact ⟨_, e⟩
  | rng lo hi => obtain ⟨_, _, _, e⟩ := x; exact ⟨_, e⟩
  | frz ob u => obtain ⟨e, _⟩ := x; exact ⟨_, e⟩
  | tbl ps => exact ⟨_, show h.get? a = some _ from x⟩
  | met f y => exact ⟨_, show h.get? a = some _ from x⟩
  | ext φ => obtain ⟨_, ⟨_, e⟩, _⟩ := x; exact ⟨_, e⟩
def ExcO (a C : Addr) : HO := .ext fun h => ∃ oe vs, h.get? a = some oe ∧ oe.cls = .ref C ∧ oe.data = .fields vs
section
variable {X : Cx} {pins : List (Addr × Obj)} {σ : St} {H H' : Hp} {s s' : Shared}
theorem gone_ok {M : Model} {A : Around} {E : Value → Shared → Prop} {i : Nat} {n : Str} {pos : Pos} {Q : Unit → Shared → Prop} (I : Inv X pins σ H s) (hN : X.N.Nodup) (hi : X.N[i]? = some n) (hk : X.env.kindOf n = some .local)
    (h : ∀ s', Inv X pins (σ.set i none) H s' → Q () s') : wpAny M A (do bindName X.env n .none; unbindBehindTheSuite X.env n pos) Q E s := by
  obtain ⟨m, hn, hl⟩ := id I.loc
  have hcls : (X.env.scope.kind == .class || (X.env.scope.kind == .module && X.env.locals != X.env.globals)) = false := by rw [I.ok.kind]; rfl
  have hiσ : i < σ.length := by rw [I.len]; exact (List.getElem?_eq_some_iff.mp hi).1
  have cne := I.cne
  refine wpAny_nameGoes_keeps hk hn hcls fun h' v hn' hs => h _ ?_
  obtain ⟨oL, _, _, hoL, _⟩ := id hn
  have low : ∀ b o, X.s₀.heap.get? b = some o → b ≠ X.env.locals := fun b o e => Nat.ne_of_lt (Nat.lt_of_lt_of_le (Heap.lt_size e) I.ok.above)
  refine ⟨I.ok, I.os, I.bare, ⟨fun b o e n hb hx => ?_, fun b o e n hb hx => ?_, I.base.free, fun b o e hx => ?_, I.base.tups, I.base.frzs, I.base.tbls⟩, ⟨_, hn', fun j y v' e1 e2 e3 => ?_⟩, fun y c e => ?_, I.free, I.freeC, fun p hp => ?_, fun b ob e => ?_, by simpa using I.len⟩
  · exact (hs.2 b (low b o e)).trans (I.base.keep b o e n hb hx)
  · obtain ⟨sl, e1⟩ := I.base.slot b o e n hb hx
    exact ⟨sl, (hs.2 b (low b o e)).trans e1⟩
  · obtain ⟨o', e1⟩ := I.base.there b o e hx
    exact ⟨o', (hs.2 b (low b o e)).trans e1⟩
  · by_cases hj : j = i
    · subst hj
      rw [List.getElem?_set_self hiσ] at e2
      cases e2
    · rw [List.getElem?_set_ne (Ne.symm hj)] at e2
      obtain ⟨u', r', q⟩ := hl j y v' e1 e2 e3
      refine ⟨u', r', ?_⟩
      rcases q with ⟨k, e⟩ | ⟨k, c, e, z⟩
      · refine .inl ⟨k, ?_⟩
        have : y ≠ n := fun e => hj (nodup_ix hN e1 (e ▸ hi))
        simp [this, e]
      · exact .inr ⟨k, c, e, z.sameBut hs (cne y c e)⟩
  · obtain ⟨w', z⟩ := I.cell y c e
    exact ⟨w', z.sameBut hs (cne y c e)⟩
  · obtain ⟨e, n, ne, nf, d⟩ := I.pin p hp
    exact ⟨(hs.2 p.1 ne).trans e, n, ne, nf, d⟩
  · refine (I.hok b ob e).stay (fun c w' hc q => (hs.2 c ?_).trans q) (fun _ q => q) fun _ _ q => q
    rintro rfl
    rcases hc with rfl | hc
    · rw [I.free] at e; cases e
    · rw [I.free] at hc; cases hc
abbrev Cx.marked (X : Cx) (a : Addr) : Cx := { X with A := X.A.mark (some (.ref a)), calm := false, xe := fun _ _ => False }
theorem Inv.mark (I : Inv X pins σ H s) (a : Addr) : Inv (X.marked a) pins σ H s :=
  ⟨⟨I.ok.mod, I.ok.kind, I.ok.glob, I.ok.blt, I.ok.above, I.ok.inj, I.ok.has, I.ok.cab, (fun z => nomatch z), I.ok.frames, I.ok.stk, I.ok.exf, I.ok.bs, I.ok.bsz, I.ok.noex, I.ok.exfs, I.ok.funs, I.ok.frf⟩, I.os, I.bare, I.base, I.loc, I.cell, I.free, I.freeC, I.pin, I.hok, I.len⟩
theorem Inv.unmark {a : Addr} (ok : X.Ok) (I : Inv (X.marked a) pins σ H s) : Inv X pins σ H s :=
  ⟨ok, I.os, I.bare, I.base, I.loc, I.cell, I.free, I.freeC, I.pin, I.hok, I.len⟩
theorem Inv.trackNew {a : Addr} {o : HO} (I : Inv X pins σ H s) (hn : H a = none) (h0 : X.s₀.heap.get? a = none) (hL : a ≠ X.env.locals) (hc : ∀ x c, X.env.cells.lookup x = some c → c ≠ a) (hp : ∀ p ∈ X.pn ++ pins, p.1 ≠ a) (new : ObjOk X.prog X.w (upd H a o) s.heap a o) :
    Inv X pins σ (upd H a o) s := by
  refine ⟨I.ok, I.os, I.bare, ⟨I.base.keep, I.base.slot, fun b o' e n hx => ?_, I.base.there, fun b xs e => ?_, fun b o' u e => ?_, fun b ps e => ?_⟩, I.loc, I.cell, ?_, fun x c e => ?_, fun p hq => ?_, I.hok.track hn new, I.len⟩
  · rw [upd_ne (fun z => by rw [z, h0] at e; cases e)]; exact I.base.free b o' e n hx
  · have := I.base.tups b xs e
    rw [upd_ne (ne_of_none this hn)]; exact this
  · have := I.base.frzs b o' u e
    rw [upd_ne (ne_of_none this hn)]; exact this
  · obtain ⟨m, this⟩ := I.base.tbls b ps e
    exact ⟨m, by rw [upd_ne (ne_of_none this hn)]; exact this⟩
  · rw [upd_ne (Ne.symm hL)]; exact I.free
  · rw [upd_ne (hc x c e)]; exact I.freeC x c e
  · obtain ⟨e, n, ne, nf, d⟩ := I.pin p hq
    exact ⟨e, by rw [upd_ne (hp p hq)]; exact n, ne, nf, d⟩
end
def PX (X : Cx) (st : List Stmt) (t : XK → TS) : Prop :=
  ∀ (pins : List (Addr × Obj)) (s : Shared) (σ : St) (H : Hp) (D : Ends) (E : XK) (E1 : Value → Shared → Prop), Inv X pins σ H s →
    (∀ (H1 : Hp) (s1 : Shared) (e : Value) (s' : Shared), Inv X pins σ H1 s1 → CX1 X.prog X.w X.stack H1 s1 E e s' → E1 e s') → t E D σ H → wpAny (model X.prog X.w) X.A (execs st X.env) (SP X pins D) E1 s
section
variable {X : Cx} {x : Str} {k : Nat} {ps : List Str} {sp : Sp} {e : Expr} {es : List Expr} {t : TA} {p pos : Pos}
theorem PA.any (h : PA X.nox es t) (E1 : Value → Shared → Prop) : PA (X.wish E1) es t := fun pos pins s σ H Q I hw =>
  wpAny_mono (h pos pins s σ H Q (I.unwish.wish _) hw) (fun _ _ ⟨v, H', I', r, q⟩ => ⟨v, H', I'.unwish.wish E1, r, q⟩) fun _ _ z => False.elim z
theorem call_at {pins : List (Addr × Obj)} {σ : St} {H : Hp} {s : Shared} {Q : VK} {E : XK} {E1 : Value → Shared → Prop} (c : CalX X.prog X.w X.K X.mg X.base x k ps sp) (hr : Room k X.A) (ha : PA X.nox (e :: es) t) (I : Inv X pins σ H s)
    (hx : ∀ (H1 : Hp) (s1 : Shared) (e : Value) (s' : Shared), Inv X pins σ H1 s1 → CX1 X.prog X.w X.stack H1 s1 E e s' → E1 e s') (h : tCall sp [] E t σ H Q) (hg : Gl X x) (hdb : (x == ("__debug__" : Str)) = false)
    (he : starEach (e :: es) X.env = (false, eval e X.env) :: starEach es X.env) (hpl : (backTo pos (starEach es X.env)).any (·.1) = false) :
    wpAny (model X.prog X.w) X.A (eval (.Call (.Name x p) (e :: es) [] pos) X.env) (EP X pins σ Q) E1 s := by
  obtain ⟨f, fd, h1, h2, h3, h4⟩ := c
  have Iw : Inv (X.wish E1) pins σ H s := I.wish E1
  refine wpAny_Call_Name_kw (ld_glob (E := E1) I hg h1 ?_ hdb)
  refine PySem.W.callWith_K (h₀ := X.base) I.ok.mod.kin h2 (thn ((PA.any ha E1) pos pins s σ H _ Iw h) fun us s1 ⟨vs, H1, I1, r, q⟩ => ⟨I1.kIn, ?_⟩) he hpl
  have I1' : Inv X pins σ H1 s1 := I1.unwish
  have r2 : Vals (vs ++ []) us := by rw [List.append_nil]; exact r
  have hl : (us ++ []).length = ps.length := by rw [List.append_nil, ← r2.length]; exact h4.len _ _ _ _ q
  have hb := h3 s1 us I1'.kIn hl
  rw [List.append_nil] at hb
  refine wpAny_call (codeAny_mono (h4.run X.A X.stack s1 H1 ⟨us, []⟩ us (vs ++ []) Q E hr I1'.env0 hb r2 q) fun rr s' hq => ?_)
  cases rr with
  | error e => exact hx H1 s1 e s' I1' hq
  | ok fl =>
    cases fl with
    | ret u => exact I1'.after hq
    | next => exact False.elim hq
    | brk => exact False.elim hq
    | cont => exact False.elim hq
theorem px_expr {ep : Pos} (c : CalX X.prog X.w X.K X.mg X.base x k ps sp) (hr : Room k X.A) (ha : PA X.nox (e :: es) t) (hg : Gl X x := by rfl) (hdb : (x == ("__debug__" : Str)) = false := by decide)
    (he : starEach (e :: es) X.env = (false, eval e X.env) :: starEach es X.env := by rfl) (hpl : (backTo pos (starEach es X.env)).any (·.1) = false := by rfl) (hs : swapsWith (.Call (.Name x p) (e :: es) [] pos) none ep.line X.env = pure false := by rfl) :
    PX X [.Expr (.Call (.Name x p) (e :: es) [] pos) ep] (fun E D σ H => tCall sp [] E t σ H fun _ H1 => D.nx σ H1) := by
  intro pins s σ H D E E1 I hx h
  have first : wpAny (model X.prog X.w) X.A (exec (.Expr (.Call (.Name x p) (e :: es) [] pos) ep) X.env) (SP X pins D) E1 s :=
    wpAny_Expr_any (thn (call_at c hr ha I hx h hg hdb he hpl) fun v s1 ⟨y', H1, I1, r1, q1⟩ => ⟨σ, H1, I1, q1⟩) I.quiet hs
  refine wpAny_execs_cons (thn first fun f s1 q => ?_)
  cases f with
  | next => exact wpAny_execs_nil q
  | ret v => exact q
  | brk => exact q
  | cont => exact q
theorem px_if {c : Expr} {a b : List Stmt} {tc : TT} {ta tb : XK → TS} (hc : PT X.nox c tc) (ha : PX X a ta) (hb : PX X b tb) : PX X [.If c a b pos] (fun E => tIfS tc (ta E) (tb E)) := by
  intro pins s σ H D E E1 I hx h
  have first : wpAny (model X.prog X.w) X.A (exec (.If c a b pos) X.env) (SP X pins D) E1 s := by
    refine wpAny_If (wpAny_mono (hc pins s σ H _ (I.wish _) h) (fun v s1 ⟨H1, I1, q⟩ => ?_) fun _ _ z => False.elim z)
    cases v with
    | true => exact ha pins s1 σ H1 D E E1 I1.unwish hx (by simpa using q)
    | false => exact hb pins s1 σ H1 D E E1 I1.unwish hx (by simpa using q)
  refine wpAny_execs_cons (thn first fun f s1 q => ?_)
  cases f with
  | next => exact wpAny_execs_nil q
  | ret v => exact q
  | brk => exact q
  | cont => exact q
end
section
variable {X : Cx}
def tCaught (K : PySem.W.Frag) (T : Addr) (i : Nat) (ts : TS) (D : Ends) (σ : St) : XK := fun c _ H' =>
  ∃ C, c = .ref C ∧ PySem.W.exmOne K (.ref C) (.ref T) = some true ∧ ∀ a, H' a = none → ts { nx := fun σ' H'' => D.nx (σ'.set i none) H'', rt := fun _ _ => False } (σ.set i (some (.ref a))) (upd H' a (ExcO a C))
theorem ps_try {body : List Stmt} {x n : Str} {T : Addr} {i : Nat} {np hp pos : Pos} {b₀ : Stmt} {suite : List Stmt} {tb : XK → TS} {ts : TS} (hb : PX X body tb) (hm : X.mg x = some (.ref T)) (hN : X.N.Nodup) (hi : X.N[i]? = some n) (hk : X.env.kindOf n = some .local)
    (hsu : ∀ a, PSs (X.marked a) (b₀ :: suite) ts) (hst : X.stack = X.env :: X.outer := by rfl) (hfr : X.env.frame = some X.env.locals := by rfl) (hex0 : X.ex = [] := by rfl) (hg : Gl X x := by rfl) (hdb : (x == ("__debug__" : Str)) = false := by decide) (hf : X.fn n = true ∨ X.env.scope.names.lookup n = some .local := by first | exact .inl rfl | exact .inr rfl | assumption) :
    PS X (.Try body [.ExceptHandler (some (.Name x np)) (some n) (b₀ :: suite) hp] [] [] pos) (fun D σ H => tb (tCaught X.K T i ts D σ) D σ H) := by
  intro pins s σ H D I h
  refine wpAny_Try_except (wpAny_mono (hb pins s σ H D _ (fun e s₁ => wpAny (model X.prog X.w) X.A (noteFrame e X.env) (fun _ s₂ => wpAny (model X.prog X.w) X.A (setFlight e none) (fun _ s₃ => wpAny (model X.prog X.w) X.A (handleBy e X.env [.ExceptHandler (some (.Name x np)) (some n) (b₀ :: suite) hp]) (SP X pins D) X.xe s₃) X.xe s₂) X.xe s₁) I (fun H1 s1 e s' I1 hcx => ?_) h) (fun f s1 q => ?_) fun _ _ z => z)
  · obtain ⟨a, t, C, vs, B, H', rfl, os, bare, un, hok, kb, tb', fl, tup, tn, C', hCe, hex, hts⟩ := hcx
    cases hCe
    rw [hst] at un fl kb tb'
    have hframes : X.A.frames = some (X.env :: X.outer) := by rw [← hst]; exact I1.ok.frames
    have plain : ∀ b ∈ frs (X.env :: X.outer), ∀ o, s'.heap.get? b = some o → ∀ vs, o.data ≠ .fields vs := fun b hb o ho => by
      obtain ⟨_, o', ho', hn⟩ := fl.2.2.1.mem hb
      rw [ho] at ho'
      cases ho'
      exact hn
    have notB : B.get? a = none := fl.2.1
    have notF : a ∉ frs (X.env :: X.outer) := fun hm => by
      obtain ⟨oe, ws, he, _, hd, _⟩ := fl.first
      exact plain a hm oe he ws hd
    have new1 : s1.heap.get? a = none := by
      cases q : s1.heap.get? a with
      | none => rfl
      | some o =>
        obtain ⟨o', e'⟩ := tb' a o q notF
        rw [notB] at e'; cases e'
    have new0 : X.s₀.heap.get? a = none := by
      cases q : X.s₀.heap.get? a with
      | none => rfl
      | some o =>
        by_cases hx : a ∈ X.ex
        · rw [hex0] at hx; simp at hx
        · obtain ⟨o', e'⟩ := I1.base.there a o q hx
          rw [new1] at e'; cases e'
    have hHa : H' a = none := by
      cases q : H' a with
      | none => rfl
      | some o => obtain ⟨u, hu⟩ := (hok a o q).get; rw [notB] at hu; cases hu
    refine wpAny_looks_onW hframes hfr fl fun h₄ held₄ up₄ => ?_
    refine wpAny_landsW held₄ fun h₅ fl₅ up₅ => ?_
    have inv : ∀ h, B.StaysIn h → s'.heap.UpToSlots h → Inv X pins σ H' { s' with heap := h } := fun h st up =>
      I1.call' (ch := []) (s' := { s' with heap := h }) os (by rw [hst]; exact un_fly un kb tb' st up plain) (hok.kept st) bare (fun b z => absurd z (by simp))
    have I5 := inv h₅ fl₅.1 (up₄.trans up₅)
    refine wpAny_handleBy_cons (codeAny_handlers_test (ld_glob (X := X.marked a) (E := _) (I5.mark a) hg hm ?_ hdb)) (by intro q; cases q)
    obtain ⟨ob, hob, hobc⟩ := fl₅.there
    have LT : PySem.W.Looks (model X.prog X.w) h₅ (typeOf (.ref a)) (.ref C) := hobc ▸ (PySem.W.Looks.ld hob).andThen .now
    refine PySem.W.exm_one (M := model X.prog X.w) (h := h₅) I5.kIn LT hex _ _ _ _ (fun _ _ q => q) ?_
    refine codeAny_handlers_suite_as ?_
    refine lands_againW fl₅ fun h₆ fl₆ up₆ => ?_
    have I6 := inv h₆ fl₆.1 ((up₄.trans up₅).trans up₆)
    have hLa : a ≠ X.env.locals := fun z => notF (by unfold frs; rw [List.filterMap_cons, hfr]; rw [z]; exact List.mem_cons_self)
    have hca : ∀ y c, X.env.cells.lookup y = some c → c ≠ a := fun y c e z => by
      obtain ⟨v, o, ho, _⟩ := I1.cell y c e
      rw [z, new1] at ho; cases ho
    have hpa : ∀ q ∈ X.pn ++ pins, q.1 ≠ a := fun q hq z => by
      obtain ⟨e, _⟩ := I1.pin q hq
      rw [z, new1] at e; cases e
    obtain ⟨oe, ws, he6, hc6, hd6, _⟩ := fl₆.first
    have I7 : Inv X pins σ (upd H' a (ExcO a C)) { s' with heap := h₆ } := I6.trackNew hHa new0 hLa hca hpa ⟨⟨oe, ws, he6, hc6, hd6⟩, ⟨oe, he6⟩, fun h1 h2 ⟨o1, v1, q1, q2⟩ st => ⟨o1, v1, st o1 q1, q2⟩⟩
    have hts' := hts a hHa
    refine store_ok I7 hN hi (.inl hk) (show RelV (.ref a) (.ref a) from rfl) (fun s2 I8 => ?_) hf
    refine wpAny_mono (hsu a pins s2 _ _ _ (I8.mark a) hts') (fun f s3 q => ?_) fun _ _ z => False.elim z
    cases f with
    | next =>
      obtain ⟨σ', H'', I9, q⟩ := q
      exact gone_ok (I9.unmark I1.ok) hN hi hk fun s4 I10 => show SP X pins D .next s4 from ⟨_, _, I10, q⟩
    | ret v => obtain ⟨_, _, _, _, _, q⟩ := q; exact q.elim
    | brk => obtain ⟨_, _, _, q⟩ := q; exact q.elim
    | cont => obtain ⟨_, _, _, q⟩ := q; exact q.elim
  · cases f with
    | next => exact wpAny_execs_nil q
    | ret v => exact q
    | brk => exact q
    | cont => exact q
end
end L2
namespace L2
open PySem PySem.Spec PyProof.Rows PySem.W PySem.Builtin PySem.Builtin.ObjectAttr PySem.Builtin.Getset_descriptor
section
variable {prog : Program} {w : World} {A : Around} {E : Value → Shared → Prop} {s : Shared} {K : PySem.W.Frag} {a C : Addr}
structure ErrI (K : PySem.W.Frag) (C : Addr) : Prop where
  ga : PySem.W.findIn K (.ref C) "__getattribute__" = some (some (.builtin "BaseException.__getattribute__"))
  hook : PySem.W.findIn K (.ref C) "__getattr__" = some none
  cls : PySem.W.findIn K (.ref C) "__class__" = some (some (.builtin "object.__class__"))
  get : PySem.W.specialIn K (.builtin "object.__class__") "__get__" = some (some (.builtin "getset_descriptor.__get__"))
  tak : PySem.W.takesIn K (.builtin "object.__class__") = some true
  bex : PySem.W.mroIn K C (.type "BaseException") = some true
  obj : PySem.W.mroIn K C (.type "object") = some true
  isc : ∃ oc, K.lookup C = some oc ∧ ∃ cd, oc.data = .cls cd
theorem exc_class_get {tp : Value} {R : Result → Shared → Prop} (X : K.In s.heap) (L0 : PySem.W.Looks (model prog w) s.heap (typeOf (.ref a)) (.ref C)) (hm : PySem.W.mroIn K C (.type "object") = some true)
    (h : R (.ok (.ret (.ref C))) s) : codeAny (model prog w) A (.call (.builtin "getset_descriptor.__get__") ⟨[.builtin "object.__class__", .ref a, tp], []⟩) R s := by
  obtain ⟨hh, g, dr, t, os⟩ := s
  have L1 := looks_mroIn (M := model prog w) X hm
  refine codeAny_call_builtin KF.slot_gs.plain KF.entry_gs (KF.slot_gs.check _ _ _ _ _ _ _ _ KF.type_class (KF.args_gs _ _ _) ?_)
  unfold Builtin.«getset_descriptor.__get__» descrGet
  rw [dga_obj]
  refine wpAny_bind (wpAny_pure ?_)
  unfold descrGetter descrCheckInstance descrNameAndClass isInstance
  simp only [KF.owner_class]
  repeat lk
  refine ⟨Code.quiet_builtin _ (by decide +kernel), codeAny_builtin KF.entry_class ?_⟩
  unfold Builtin.«object.__class__» shownTypeOf
  repeat lk
  exact h
theorem exc_check {M : Model} {nameV : Value} {Q : Unit → Shared → Prop} (X : K.In s.heap) (L0 : PySem.W.Looks M s.heap (typeOf (.ref a)) (.ref C)) (hm : PySem.W.mroIn K C (.type "BaseException") = some true)
    (hq : Q () s) : wpAny M A (checkBuiltinCall "BaseException.__getattribute__" ⟨[.ref a, nameV], []⟩) Q E s := by
  obtain ⟨hh, g, dr, t, os⟩ := s
  have L1 := looks_mroIn (M := M) X hm
  have hk : builtinKind "BaseException.__getattribute__" = some .slot := by decide +kernel
  have hsplit : splitId "BaseException.__getattribute__" = some ("BaseException", "__getattribute__") := by decide +kernel
  have ha := F.args_bexc_ga (.ref a) nameV
  simp only [checkBuiltinCall, hk, hsplit]
  unfold isInstance
  repeat (first | lk | wp_step)
  exact hq
theorem exc_entry {tk : Tok} {Q : Fin → Shared → Prop} (X : K.In s.heap) (L0 : PySem.W.Looks (model prog w) s.heap (typeOf (.ref a)) (.ref C)) (I : ErrI K C) (hq : Q (.done (.ret (.ref C))) s) :
    wpAny (model prog w) A (Builtin.«object.__getattribute__» ⟨[.ref a, .str "__class__" tk], []⟩) Q E s := by
  obtain ⟨hh, g, dr, t, os⟩ := s
  have L1 := looks_findIn (M := model prog w) X I.cls
  have L2 := looks_specialIn (M := model prog w) X I.get
  have L3 := looks_takesIn (M := model prog w) X I.tak
  unfold Builtin.«object.__getattribute__»
  repeat lk
  refine wpAny_run (exc_class_get X L0 I.obj ?_)
  repeat (first | exact hq | lk)
theorem exc_class_attr {Q : Option Value → Shared → Prop} (X : K.In s.heap) (L0 : PySem.W.Looks (model prog w) s.heap (typeOf (.ref a)) (.ref C)) (I : ErrI K C) (h : Q (some (.ref C)) { s with toks := s.toks + 1 }) :
    wpAny (model prog w) A (getAttr? (.ref a) "__class__") Q E s := by
  obtain ⟨hh, g, dr, t, os⟩ := s
  have L1 := looks_findIn (M := model prog w) X I.ga
  have L2 := looks_findIn (M := model prog w) X I.hook
  have hb := PySem.F.attrBase_ValueError.ga.bind (.ref a)
  unfold getAttr? getAttrBy? getAttrBy
  refine wpAny_bind (wpAny_mkText (wpAny_bind (wpAny_attempt (wpAny_holding (wpAny_bind (L0.at (wpAny_bind (L1.at ?_))))))))
  dsimp only
  rw [if_neg (show ¬ ((onTheHeap (Value.ref C) && Value.builtin "BaseException.__getattribute__" == Value.builtin "object.__getattribute__") = true) from by
    rw [show (Value.builtin "BaseException.__getattribute__" == Value.builtin "object.__getattribute__") = false from by decide +kernel, Bool.and_false]; exact Bool.false_ne_true)]
  unfold getAttrByItsOwn hookBefore
  refine wpAny_bind ?_
  rw [if_pos (show onTheHeap (Value.ref C) = true from rfl)]
  refine L2.at ?_
  refine wpAny_bind (wpAny_attempt (wpAny_holding ?_))
  unfold callGetattribute
  rw [if_neg (by simp)]
  unfold boundAndCalled
  rw [hb]
  refine wpAny_bind (wpAny_pure ?_)
  refine wpAny_call (codeAny_call_builtin PySem.F.attrBase_ValueError.ga.plain F.entry_bexc_ga (exc_check X L0 I.bex (exc_entry X L0 I ?_)))
  refine handed_on (M := model prog w) rfl ?_
  exact wpAny_pure h
theorem kitx_exc (I : ErrI K C) : PySem.W.KitX K (.ref a) (.ref C) (fun h => ∃ oe vs, h.get? a = some oe ∧ oe.cls = .ref C ∧ oe.data = .fields vs) where
  ty := fun M h _ ⟨oe, vs, h1, h2, _⟩ => h2 ▸ (PySem.W.Looks.ld h1).andThen .now
  it := fun M h X _ => by
    obtain ⟨oc, h1, cd, h2⟩ := I.isc
    obtain ⟨c1, c2, c3, c4⟩ := oc
    dsimp only at h2
    subst h2
    intro A' Q' E' s' k q
    unfold isType loadHead
    exact wpAny_bind (wpAny_loadPart (k _ _ (X _ _ h1)) (wpAny_pure q))
  ne := fun h tp dd its n sl X htp => by
    obtain ⟨oc, h1, cd, h2⟩ := I.isc
    refine Bool.eq_false_iff.mpr fun q => ?_
    have e : C = tp := Value.ref.inj (beq_iff_eq.mp q)
    subst e
    have z := (X _ _ h1).symm.trans htp
    cases z
    cases h2
  ca := fun {prog w A E Q s} X ⟨oe, vs, h1, h2, _⟩ k => exc_class_attr X (h2 ▸ (PySem.W.Looks.ld h1).andThen .now) I k
end
section
variable {X : Cx}
def rIsiX (K : PySem.W.Frag) : List V → Hp → VK → Prop := fun xs H Q => ∃ a C c u b, xs = [.ref a, c] ∧ ((∃ D, c = .ref D ∧ u = Value.ref D) ∨ (∃ n, c = .ty n ∧ u = Value.type n)) ∧ H a = some (ExcO a C) ∧ ErrI K C ∧ PySem.W.kitOne K (.ref C) u = some b ∧ Q (.bl b) H
theorem call_isiX : CallR X (.builtin "isinstance") (rIsiX X.K) := by
  intro pins s σ H xs us Q I r h
  obtain ⟨a, C, c, u, b, rfl, hc, hH, ei, hk, q⟩ := h
  obtain ⟨u1, u2, rfl, r1, r2⟩ := vals2 r
  cases (show u1 = Value.ref a from r1)
  have e2 : u2 = u := by
    rcases hc with ⟨D, rfl, rfl⟩ | ⟨n, rfl, rfl⟩
    · exact r2
    · exact r2
  subst e2
  have p := (show ObjOk X.prog X.w H s.heap a (ExcO a C) from I.hok a _ hH).1
  exact PySem.W.kia_one (kitx_exc ei) I.kIn p hk (fun z => nomatch z) fun tk => ⟨.bl b, H, I.tok tk, rfl, q⟩
theorem pe_isiX {a b : Expr} {ta : TA} {p pos : Pos} (hm : X.mg "isinstance" = none) (ha : PA X [a, b] ta) (hg : Gl X "isinstance" := by rfl)
    (he : starEach [a, b] X.env = (false, eval a X.env) :: starEach [b] X.env := by rfl) (hpl : (backTo pos (starEach [b] X.env)).any (·.1) = false := by rfl) :
    PE X (.Call (.Name "isinstance" p) [a, b] [] pos) (tCB (rIsiX X.K) ta) := pe_callB call_isiX hg hm boot_isi ha (by decide) (by decide) he hpl
theorem boot_VE : bootBuiltins "ValueError" = some (.type "ValueError") := by decide +kernel
theorem pe_tyVE {p : Pos} (hm : X.mg "ValueError" = none) (hg : Gl X "ValueError" := by rfl) : PE X (.Name "ValueError" p) (tC (.ty "ValueError")) := pe_bltn hg hm boot_VE rfl
end
theorem kit_own {K : PySem.W.Frag} {C D : Addr} {b : Bool} (h1 : PySem.W.isClsIn K D = true) (h2 : PySem.W.typeIn K (.ref D) = some (.type "type")) (h3 : PySem.W.mroIn K C (.ref D) = some b) (hs : C = D → b = true) : PySem.W.kitOne K (.ref C) (.ref D) = some b := by
  unfold PySem.W.kitOne
  by_cases e : C = D
  · rw [if_pos (by rw [e]; exact beq_self_eq_true _), hs e]
  · rw [if_neg (fun q => e (Value.ref.inj (beq_iff_eq.mp q)))]
    unfold PySem.W.kitCls
    dsimp only
    rw [if_pos (by rw [Bool.and_eq_true]; exact ⟨h1, by rw [h2]; exact beq_self_eq_true _⟩)]
    exact h3
theorem kit_ve {K : PySem.W.Frag} {C : Addr} (h3 : PySem.W.mroIn K C (.type "ValueError") = some true) : PySem.W.kitOne K (.ref C) (.type "ValueError") = some true := by
  unfold PySem.W.kitOne
  rw [if_neg (fun q => by cases beq_iff_eq.mp q)]
  unfold PySem.W.kitCls
  dsimp only
  rw [if_pos (by decide +kernel)]
  exact h3
theorem exm_own {K : PySem.W.Frag} {C T : Addr} {b : Bool} (h0 : PySem.W.mroIn K T (.type "BaseException") = some true) (h1 : PySem.W.isClsIn K T = true) (h2 : PySem.W.typeIn K (.ref T) = some (.type "type")) (h3 : PySem.W.mroIn K C (.ref T) = some b) : PySem.W.exmOne K (.ref C) (.ref T) = some b := by
  unfold PySem.W.exmOne
  rw [if_pos (show (PySem.W.subIn K (.ref T) (.type "BaseException") == some true) = true from beq_iff_eq.mpr h0)]
  unfold PySem.W.kitCls
  dsimp only
  rw [if_pos (by rw [Bool.and_eq_true]; exact ⟨h1, by rw [h2]; exact beq_self_eq_true _⟩)]
  exact h3
theorem errI_mk {K : PySem.W.Frag} {C : Addr} (ga : PySem.W.findIn K (.ref C) "__getattribute__" = some (some (.builtin "BaseException.__getattribute__"))) (hook : PySem.W.findIn K (.ref C) "__getattr__" = some none) (cls : PySem.W.findIn K (.ref C) "__class__" = some (some (.builtin "object.__class__")))
    (get : PySem.W.specialIn K (.builtin "object.__class__") "__get__" = some (some (.builtin "getset_descriptor.__get__"))) (tak : PySem.W.takesIn K (.builtin "object.__class__") = some true) (bex : PySem.W.mroIn K C (.type "BaseException") = some true) (obj : PySem.W.mroIn K C (.type "object") = some true) (isc : PySem.W.isClsIn K C = true) : ErrI K C :=
  ⟨ga, hook, cls, get, tak, bex, obj, by
    obtain ⟨cd, h⟩ := Option.isSome_iff_exists.mp (show (PySem.W.clsIn K C).isSome = true from isc)
    unfold PySem.W.clsIn at h
    split at h
    · rename_i ho
      exact ⟨_, ho, _, rfl⟩
    · cases h⟩
structure ErrAll (K : PySem.W.Frag) (mg : Str → Option Value) (T : Addr) (cs : List (Str × Addr)) : Prop where
  top : mg "TurnError" = some (.ref T)
  err : ∀ p ∈ cs, Err K mg p.1 p.2
  inst : ∀ p ∈ cs, ErrI K p.2
  exm : ∀ p ∈ cs, PySem.W.exmOne K (.ref p.2) (.ref T) = some true
  ve : ∀ p ∈ cs, PySem.W.kitOne K (.ref p.2) (.type "ValueError") = some true
  pair : ∀ p ∈ cs, ∀ q ∈ cs, PySem.W.kitOne K (.ref p.2) (.ref q.2) = some (decide (p.1 = q.1))
end L2
namespace L2
open PySem PySem.Spec PyProof.Rows
section
variable {X : Cx}
def rIndexV : V → List V → Hp → VK → Prop := fun x vs H Q => ∃ (l : Addr) (ns : List V) (v : V) (j : Nat), x = .ref l ∧ vs = [v] ∧ flatV v = true ∧ ns.all flatV = true ∧ H l = some (.lst ns) ∧ (∃ y, ns[j]? = some y ∧ eqV y v = true) ∧ (∀ i y, i < j → ns[i]? = some y → eqV y v = false) ∧ ns.length ≤ 1000 ∧ Q (.int j) H
theorem mt_indexV : MtM X "list.index" rIndexV := by
  intro pins s σ H x vs v us Q I rx rv h
  obtain ⟨l, ns, k, j, rfl, rfl, fk, fl, hH, ⟨y, hj, hy⟩, hno, hz, q⟩ := h
  cases rx
  cases rv with
  | cons rk rr =>
  rename_i u _
  cases rr
  obtain ⟨z, its, n, r, hl, e⟩ := I.lstM hH
  have hjl : j < ns.length := (List.getElem?_eq_some_iff.mp hj).1
  have hjI : j < its.length := by omega
  have at_ : ∀ m (hm : m < its.length), eqU k its[m] = eqV (ns[m]'(by omega)) k := fun m hm => by
    have e1 : ns[m]? = some (ns[m]'(by omega)) := List.getElem?_eq_getElem (by omega)
    obtain ⟨u1, z1, q1⟩ := r.get e1
    rw [List.getElem?_eq_getElem hm] at z1
    rw [Option.some.inj z1]
    exact eqU_of q1 (List.all_eq_true.mp fl _ (List.getElem_mem _))
  refine call_meets F.slot_list_index ⟨_, e, rfl⟩ F.entry_list_index (F.args_list_index_2 _ _)
    (SeqAt.list_indexAt l its.toArray n none #[] u (eqU k) j (by simpa using hjI) (by omega) ?_ ?_) ⟨e, fun y hy => ?_, ?_⟩
  · have : eqU k its.toArray[j] = _ := at_ j hjI
    rw [this, ← hy, (List.getElem?_eq_some_iff.mp hj).2]
  · intro m hm hmj
    have hm' : m < its.length := by simpa using hm
    have : eqU k its.toArray[m] = _ := at_ m hm'
    rw [this]
    exact hno m _ hmj (List.getElem?_eq_getElem (by omega))
  · exact mem_eqAt rk fk r fl y (by simpa using hy)
  · exact ⟨.int j, H, I.tok _, ⟨_, rfl⟩, q⟩
theorem pe_indexV (K : PySem.W.Frag) {o e : Expr} {to : TE} {t : TA} {apos pos : Pos} (ho : PE X o to) (ha : PA X [e] t) (hK : X.K = K := by rfl)
    (hbase : attributeBase o "index" X.env (eval o X.env) = eval o X.env := by rfl)
    (hfew : ((backTo pos (starEach [e] X.env)).all (fun x => !x.1) && (backToKw pos (keywordEach [] X.env)).all (fun x => x.1.isSome)
      && decide ([e].length + ([] : List Keyword).length + (if ([] : List Keyword).isEmpty then 0 else 1) < 30)) = true := by rfl)
    (hline : (apos.endLine == pos.line) = true := by rfl) (hs : starEach [e] X.env = (false, eval e X.env) :: starEach [] X.env := by rfl) (hplain : (backTo pos (starEach [] X.env)).any (·.1) = false := by rfl) :
    PE X (.Call (.Attribute o "index" apos) [e] [] pos) (tBM K "list" rIndexV to t) := by
  subst hK
  exact pe_bm PySem.F.plainAttrs_list PySem.F.slot_list_index PySem.F.type_list_index mt_indexV ho ha hbase hfew hline hs hplain
end
end L2
namespace L2
open PySem PySem.Spec PyProof.Rows
mutual
inductive Sh (H : Hp) : V → PyData → Prop
  | non : Sh H .non .none
  | bl (b : Bool) : Sh H (.bl b) (.bool b)
  | int (i : Int) : Sh H (.int i) (.int i)
  | str (x : Str) : Sh H (.str x) (.str x)
  | lst {a : Addr} {xs : List V} {ds : List PyData} (e : H a = some (.lst xs)) (h : ShA H xs ds) : Sh H (.ref a) (.list ds)
  | tup {a : Addr} {xs : List V} {ds : List PyData} (e : H a = some (.tup xs)) (h : ShA H xs ds) : Sh H (.ref a) (.tuple ds)
inductive ShA (H : Hp) : List V → List PyData → Prop
  | nil : ShA H [] []
  | cons {x : V} {xs : List V} {d : PyData} {ds : List PyData} (h : Sh H x d) (hs : ShA H xs ds) : ShA H (x :: xs) (d :: ds)
end
mutual
theorem Sh.keep {H H' : Hp} (s : Same H H') : ∀ {v : V} {d : PyData}, Sh H v d → Sh H' v d
  | _, _, .non => .non
  | _, _, .bl b => .bl b
  | _, _, .int i => .int i
  | _, _, .str x => .str x
  | _, _, .lst e h => .lst (s _ _ e) (ShA.keep s h)
  | _, _, .tup e h => .tup (s _ _ e) (ShA.keep s h)
theorem ShA.keep {H H' : Hp} (s : Same H H') : ∀ {v : List V} {d : List PyData}, ShA H v d → ShA H' v d
  | _, _, .nil => .nil
  | _, _, .cons h hs => .cons (Sh.keep s h) (ShA.keep s hs)
end
theorem textFrom_le : ∀ (ts : List Str) (k : Nat) (acc : Str) (m : Nat), (∀ t ∈ ts, t.length ≤ m) → (textFrom k acc ts).length ≤ acc.length + ts.length * (m + 2)
  | [], k, acc, m, _ => by show acc.length ≤ _; omega
  | t :: r, k, acc, m, h => by
    have ih := textFrom_le r (k + 1) (acc ++ (if k > 0 then ", " else "" : String) ++ t) m fun x hx => h x (List.mem_cons_of_mem _ hx)
    have ht := h t List.mem_cons_self
    have el : ((acc ++ (if k > 0 then ", " else "" : String) ++ t : Str)).length ≤ acc.length + 2 + t.length := by
      rw [strLen_append, strLen_append]
      by_cases z : k > 0
      · rw [if_pos z]; exact Nat.le_refl _
      · rw [if_neg z]
        have : (("" : String) : Str).length = 0 := rfl
        omega
    show (textFrom (k + 1) (acc ++ (if k > 0 then ", " else "" : String) ++ t) r).length ≤ _
    rw [List.length_cons, Nat.succ_mul]
    omega
theorem listText_le {ts : List Str} {m : Nat} (h : ∀ t ∈ ts, t.length ≤ m) : (listText ts).length ≤ 2 + ts.length * (m + 2) := by
  unfold listText
  rw [strLen_append]
  have := textFrom_le ts 0 "[" m h
  have e1 : (("[" : String) : Str).length = 1 := rfl
  have e2 : (("]" : String) : Str).length = 1 := rfl
  omega
section
variable {X : Cx} {p pos : Pos} {e : Expr} {t : TA}
theorem boot_reprB : bootBuiltins "repr" = some (.builtin "repr") := by decide +kernel
end
end L2
namespace L2
open PySem PySem.Spec PyProof.Rows
def orSp (a b : Sp) : Sp := fun vs H Q E => a vs H Q E ∨ b vs H Q E
section
variable {P : Program} {w : World} {K : PySem.W.Frag} {mg : Str → Option Value} {base : Heap} {CX : CXT} {k : Nat} {f : Addr} {fd : FuncData} {ps : List Str} {a b : Sp}
theorem fn_or (x : FnOk P w K mg base CX k f fd ps a) (y : FnOk P w K mg base CX k f fd ps b) : FnOk P w K mg base CX k f fd ps (orSp a b) :=
  ⟨fun vs H Q E h => h.elim (x.len vs H Q E) (y.len vs H Q E), fun A outer s H args us vs Q E r e bt v h => h.elim (x.run A outer s H args us vs Q E r e bt v) (y.run A outer s H args us vs Q E r e bt v)⟩
theorem cal_l {x : Str} (c : Cal P w K mg base x k ps (orSp a b)) : Cal P w K mg base x k ps a := by
  obtain ⟨f, fd, h1, h2, h3, h4⟩ := c
  exact ⟨f, fd, h1, h2, h3, h4.imp fun vs H Q E z => .inl z⟩
end
theorem kit_no (K : PySem.W.Frag) {a b : String} (h0 : ((Value.type a == Value.type b) = true) → False) (h1 : PySem.W.kitMeta b = true) (h2 : (fastBuiltinMro a).map (·.contains (Value.type b)) = some false) : PySem.W.kitOne K (.type a) (.type b) = some false := by
  unfold PySem.W.kitOne PySem.W.kitCls
  rw [if_neg h0]
  show (if PySem.W.kitMeta b = true then (fastBuiltinMro a).map (·.contains (Value.type b)) else none) = some false
  rw [if_pos h1]
  exact h2
theorem kit_none_int (K : PySem.W.Frag) : PySem.W.kitOne K (.type "NoneType") (.type "int") = some false := kit_no K (by decide +kernel) (by decide +kernel) (by decide +kernel)
theorem kit_none_bool (K : PySem.W.Frag) : PySem.W.kitOne K (.type "NoneType") (.type "bool") = some false := kit_no K (by decide +kernel) (by decide +kernel) (by decide +kernel)
theorem kit_none_list (K : PySem.W.Frag) : PySem.W.kitOne K (.type "NoneType") (.type "list") = some false := kit_no K (by decide +kernel) (by decide +kernel) (by decide +kernel)
theorem kit_str_int (K : PySem.W.Frag) : PySem.W.kitOne K (.type "str") (.type "int") = some false := kit_no K (by decide +kernel) (by decide +kernel) (by decide +kernel)
theorem kit_str_bool (K : PySem.W.Frag) : PySem.W.kitOne K (.type "str") (.type "bool") = some false := kit_no K (by decide +kernel) (by decide +kernel) (by decide +kernel)
theorem kit_str_list (K : PySem.W.Frag) : PySem.W.kitOne K (.type "str") (.type "list") = some false := kit_no K (by decide +kernel) (by decide +kernel) (by decide +kernel)
theorem kit_list_int (K : PySem.W.Frag) : PySem.W.kitOne K (.type "list") (.type "int") = some false := kit_no K (by decide +kernel) (by decide +kernel) (by decide +kernel)
theorem kit_list_bool (K : PySem.W.Frag) : PySem.W.kitOne K (.type "list") (.type "bool") = some false := kit_no K (by decide +kernel) (by decide +kernel) (by decide +kernel)
theorem kit_tuple_list (K : PySem.W.Frag) : PySem.W.kitOne K (.type "tuple") (.type "list") = some false := kit_no K (by decide +kernel) (by decide +kernel) (by decide +kernel)
theorem kit_dict_list (K : PySem.W.Frag) : PySem.W.kitOne K (.type "dict") (.type "list") = some false := kit_no K (by decide +kernel) (by decide +kernel) (by decide +kernel)
theorem kit_int_list (K : PySem.W.Frag) : PySem.W.kitOne K (.type "int") (.type "list") = some false := kit_no K (by decide +kernel) (by decide +kernel) (by decide +kernel)
theorem kit_bool_list (K : PySem.W.Frag) : PySem.W.kitOne K (.type "bool") (.type "list") = some false := kit_no K (by decide +kernel) (by decide +kernel) (by decide +kernel)
end L2
namespace L2
open PySem PySem.Spec PyProof.Rows
def mask (H H' : Hp) : Hp := fun a => match H a with
  | none => H' a
  | some _ => none
theorem mask_some {H H' : Hp} {a : Addr} {o : HO} (h : mask H H' a = some o) : H a = none ∧ H' a = some o := by
  unfold mask at h
  cases e : H a with
  | none => rw [e] at h; exact ⟨rfl, h⟩
  | some x => rw [e] at h; cases h
theorem mask_of {H H' : Hp} {a : Addr} {o : HO} (h0 : H a = none) (h : H' a = some o) : mask H H' a = some o := by
  unfold mask
  rw [h0]; exact h
theorem mask_l {H H1 H2 : Hp} (s : Same H1 H2) : Same (mask H H1) (mask H H2) := fun a o h => mask_of (mask_some h).1 (s _ _ (mask_some h).2)
theorem mask_r {H H1 H2 : Hp} (s : Same H H1) : Same (mask H1 H2) (mask H H2) := fun a o h => mask_of (s.free (mask_some h).1) (mask_some h).2
theorem ShA.length {H : Hp} : ∀ {xs : List V} {ds : List PyData}, ShA H xs ds → xs.length = ds.length
  | _, _, .nil => rfl
  | _, _, .cons _ h => congrArg Nat.succ h.length
def datasBy (f : Expr → Option PyData) : List Expr → Option (List PyData)
  | [] => some []
  | e :: es => (f e).bind fun d => (datasBy f es).map (d :: ·)
theorem datasBy_len {f : Expr → Option PyData} : ∀ {es : List Expr} {ds : List PyData}, datasBy f es = some ds → ds.length = es.length
  | [], ds, h => by cases (Option.some.inj h); rfl
  | e :: es, ds, h => by
    obtain ⟨d, hd, h⟩ := Option.bind_eq_some_iff.mp h
    obtain ⟨r, hr, rfl⟩ := Option.map_eq_some_iff.mp h
    exact congrArg Nat.succ (datasBy_len hr)
def dataOf : Nat → Expr → Option PyData
  | 0, _ => none
  | _ + 1, .Constant .none _ _ => some .none
  | _ + 1, .Constant (.bool b) _ _ => some (.bool b)
  | _ + 1, .Constant (.int i) _ _ => some (.int i)
  | _ + 1, .Constant (.str x) _ _ => some (.str x)
  | n + 1, .UnaryOp .USub e _ => match dataOf n e with
    | some (.int i) => some (.int (-i))
    | _ => none
  | n + 1, .BinOp a .Pow b _ => match dataOf n a, dataOf n b with
    | some (.int i), some (.int j) => if 0 ≤ j ∧ j ≤ 1000000 ∧ i.natAbs < 2 ^ 64 then some (.int (i ^ j.toNat)) else none
    | _, _ => none
  | n + 1, .List es _ => if es.length ≤ 1000 then (datasBy (dataOf n) es).map .list else none
  | n + 1, .Tuple es _ _ => if es.length ≤ 1000 then (datasBy (dataOf n) es).map .tuple else none
  | _ + 1, _ => none
def tData (d : PyData) : TE := fun _ H Q => ∀ v H', Same H H' → Sh (mask H H') v d → Q v H'
def tDatas (ds : List PyData) : TA := fun _ H Q => ∀ xs H', Same H H' → ShA (mask H H') xs ds → Q xs H'
theorem star_data {env : Env} {es : List Expr} : ∀ {n : Nat} {e : Expr} {d : PyData}, dataOf n e = some d → starEach (e :: es) env = (false, eval e env) :: starEach es env
  | 0, _, _, h => by cases h
  | n + 1, e, d, h => by
    unfold dataOf at h
    split at h
    all_goals first
      | rfl
      | cases h
theorem pa_datas {X : Cx} {n : Nat} (hf : ∀ (e : Expr) (d : PyData), dataOf n e = some d → PE X e (tData d)) : ∀ {es : List Expr} {ds : List PyData}, datasBy (dataOf n) es = some ds → PA X es (tDatas ds)
  | [], ds, h => by
    cases (Option.some.inj h)
    exact fun pos pins s σ H Q I h => pa_nil pos pins s σ H Q I (h [] H (Same.refl H) .nil)
  | e :: es, ds, h => by
    obtain ⟨d, hd, h⟩ := Option.bind_eq_some_iff.mp h
    obtain ⟨r, hr, rfl⟩ := Option.map_eq_some_iff.mp h
    refine fun pos pins s σ H Q I h => pa_cons (hf e d hd) (pa_datas hf hr) (star_data hd) pos pins s σ H Q I ?_
    intro v H1 s1 sh xs H2 s2 sa
    exact h (v :: xs) H2 (s1.trans s2) (.cons (sh.keep (mask_l s2)) (sa.keep (mask_r s1)))
theorem pe_data {X : Cx} : ∀ (n : Nat) (e : Expr) (d : PyData), dataOf n e = some d → PE X e (tData d)
  | 0, _, _, h => by cases h
  | n + 1, e, d, h => by
    have ih := fun e d => pe_data (X := X) n e d
    unfold dataOf at h
    split at h
    · rename_i e0; cases e0
    · cases h; exact fun pins s σ H Q I h => pe_non pins s σ H Q I (h _ _ (Same.refl H) .non)
    · cases h; exact fun pins s σ H Q I h => pe_bl pins s σ H Q I (h _ _ (Same.refl H) (.bl _))
    · cases h; exact fun pins s σ H Q I h => pe_int pins s σ H Q I (h _ _ (Same.refl H) (.int _))
    · cases h; exact fun pins s σ H Q I h => pe_str pins s σ H Q I (h _ _ (Same.refl H) (.str _))
    · rename_i e0
      obtain rfl := Nat.succ.inj e0
      split at h
      · rename_i i hi
        cases h
        refine fun pins s σ H Q I h => pe_un un_neg (ih _ _ hi) pins s σ H Q I fun v H' s' sh => ?_
        cases sh
        exact ⟨i, rfl, h _ _ s' (.int _)⟩
      · cases h
    · rename_i e0
      obtain rfl := Nat.succ.inj e0
      split at h
      · rename_i i j hi hj
        split at h
        · rename_i hc
          cases h
          refine fun pins s σ H Q I h => pe_op op_pow (ih _ _ hi) (ih _ _ hj) pins s σ H Q I fun v H1 s1 sh => ?_
          cases sh
          intro v2 H2 s2 sh2
          cases sh2
          exact ⟨i, j, rfl, rfl, hc, h _ _ (s1.trans s2) (.int _)⟩
        · cases h
      · cases h
    · rename_i e0
      obtain rfl := Nat.succ.inj e0
      split at h
      · rename_i hl
        obtain ⟨ds, hd, rfl⟩ := Option.map_eq_some_iff.mp h
        refine fun pins s σ H Q I h => pe_lst (pa_datas ih hd) pins s σ H Q I fun xs H1 s1 sa => ⟨?_, fun p hp => ?_⟩
        · rw [sa.length, datasBy_len hd, sizeLine_eq]; omega
        · have s2 : Same H1 (upd H1 p (.lst xs)) := Same.upd_new hp
          exact h _ _ (s1.trans s2) (.lst (mask_of (s1.free hp) upd_same) (sa.keep (mask_l s2)))
      · cases h
    · rename_i e0
      obtain rfl := Nat.succ.inj e0
      split at h
      · rename_i hl
        obtain ⟨ds, hd, rfl⟩ := Option.map_eq_some_iff.mp h
        refine fun pins s σ H Q I h => pe_tup (pa_datas ih hd) pins s σ H Q I fun xs H1 s1 sa => ⟨?_, fun p hp => ?_⟩
        · rw [sa.length, datasBy_len hd, sizeLine_eq]; omega
        · have s2 : Same H1 (upd H1 p (.tup xs)) := Same.upd_new hp
          exact h _ _ (s1.trans s2) (.tup (mask_of (s1.free hp) upd_same) (sa.keep (mask_l s2)))
      · cases h
    · cases h
theorem pa_data {X : Cx} (n : Nat) {es : List Expr} (ds : List PyData) (h : datasBy (dataOf n) es = some ds) : PA X es (tDatas ds) := pa_datas (pe_data n) h
def tDataC (ds : List PyData) (t : TA) : TA := fun σ H Q => ∀ xs H', Same H H' → ShA (mask H H') xs ds → t σ H' fun ys H2 => Q (xs ++ ys) H2
theorem pa_pre {X : Cx} (n : Nat) : ∀ {es fs : List Expr} {t : TA} (ds : List PyData), datasBy (dataOf n) es = some ds → PA X fs t → PA X (es ++ fs) (tDataC ds t)
  | [], fs, t, ds, h, hf => by
    cases (Option.some.inj h)
    exact fun pos pins s σ H Q I h => hf pos pins s σ H Q I (h [] H (Same.refl H) .nil)
  | e :: es, fs, t, ds, h, hf => by
    obtain ⟨d, hd, h⟩ := Option.bind_eq_some_iff.mp h
    obtain ⟨r, hr, rfl⟩ := Option.map_eq_some_iff.mp h
    refine fun pos pins s σ H Q I h => pa_cons (pe_data n e d hd) (pa_pre n r hr hf) (star_data hd) pos pins s σ H Q I ?_
    intro v H1 s1 sh xs H2 s2 sa
    exact h (v :: xs) H2 (s1.trans s2) (.cons (sh.keep (mask_l s2)) (sa.keep (mask_r s1)))
theorem pa_first {X : Cx} (n k : Nat) {es : List Expr} {t : TA} (ds : List PyData) (h : datasBy (dataOf n) (es.take k) = some ds) (hf : PA X (es.drop k) t) : PA X es (tDataC ds t) := by
  have := pa_pre n ds h hf
  rw [List.take_append_drop] at this
  exact this
end L2
namespace L2
open PySem PySem.Spec PyProof.Rows
section
variable {X : Cx}
theorem pe_never {e : Expr} : PE X e (fun _ _ _ => False) := fun _ _ _ _ _ _ h => h.elim
end
end L2
namespace L2
open PySem PySem.Spec PyProof.Rows
section
variable {prog : Program} {w : World} {A : Around} {E : Value → Shared → Prop} {s : Shared}
theorem pairs_snd (vs : List Value) : (pairsOf vs).map (·.2) = vs.toArray := by
  apply Array.toList_inj.mp
  rw [Array.toList_map, pairsOf_toList]
  exact List.map_snd_zip (Nat.le_refl _)
end
end L2
namespace Mth
open L2 (upTo)
theorem getD_at {l : List Int} {i : Nat} (h : i < l.length) : l.getD i 0 = l[i] := by
  rw [List.getD_eq_getElem?_getD, List.getElem?_eq_getElem h]; rfl
end Mth
namespace TS
open PySem PyProof.Rows
section
variable (rk : Keyed → Nat)
def R (xs : Array Keyed) (i : Nat) : Nat := match xs[i]? with
  | some p => rk p
  | none => 0
def Up (xs : Array Keyed) (lo hi : Nat) : Prop := ∀ i j, lo ≤ i → i ≤ j → j < hi → R rk xs i ≤ R rk xs j
def Down (xs : Array Keyed) (lo hi : Nat) : Prop := ∀ i j, lo ≤ i → i ≤ j → j < hi → R rk xs j ≤ R rk xs i
end
def Kept (xs ys : Array Keyed) (lo hi : Nat) : Prop := ∀ k, k < lo ∨ hi ≤ k → ys[k]? = xs[k]?
theorem Kept.refl (xs : Array Keyed) (lo hi : Nat) : Kept xs xs lo hi := fun _ _ => rfl
theorem Kept.trans {xs ys zs : Array Keyed} {lo hi : Nat} (h : Kept xs ys lo hi) (g : Kept ys zs lo hi) : Kept xs zs lo hi := fun k hk => (g k hk).trans (h k hk)
theorem Kept.wide {xs ys : Array Keyed} {lo hi lo' hi' : Nat} (h : Kept xs ys lo hi) (h1 : lo' ≤ lo) (h2 : hi ≤ hi') : Kept xs ys lo' hi' := fun k hk => h k (by omega)
section
variable {rk : Keyed → Nat}
theorem R_of {xs ys : Array Keyed} {i j : Nat} (h : xs[i]? = ys[j]?) : R rk xs i = R rk ys j := by unfold R; rw [h]
theorem Kept.R {xs ys : Array Keyed} {lo hi k : Nat} (h : Kept xs ys lo hi) (hk : k < lo ∨ hi ≤ k) : TS.R rk ys k = TS.R rk xs k := R_of (h k hk)
theorem Kept.up {xs ys : Array Keyed} {lo hi a b : Nat} (h : Kept xs ys lo hi) (u : Up rk xs a b) (hk : b ≤ lo ∨ hi ≤ a) : Up rk ys a b := fun i j h1 h2 h3 => by
  rw [h.R (by omega), h.R (by omega)]; exact u i j h1 h2 h3
theorem R_bubble {xs : Array Keyed} {src d : Nat} (hs : src < xs.size) (hd : d ≤ src) (k : Nat) :
    R rk (bubble xs src d) k = if k = src - d then R rk xs src else if src - d < k ∧ k ≤ src then R rk xs (k - 1) else R rk xs k := by
  have e := getElem?_bubble hs d hd k
  split
  · rename_i h; rw [if_pos h] at e; exact R_of e
  · rename_i h
    rw [if_neg h] at e
    split
    · rename_i h2; rw [if_pos h2] at e; exact R_of e
    · rename_i h2; rw [if_neg h2] at e; exact R_of e
theorem kept_bubble {xs : Array Keyed} {src d lo hi : Nat} (hs : src < xs.size) (hd : d ≤ src) (h1 : lo ≤ src - d) (h2 : src < hi) : Kept xs (bubble xs src d) lo hi := fun k hk => by
  rw [getElem?_bubble hs d hd k, if_neg (by omega), if_neg (by omega)]
theorem R_mirror {xs : Array Keyed} {i j : Nat} (hj : j ≤ xs.size) (k : Nat) : R rk (mirror xs i j ((j - i) / 2)) k = if i ≤ k ∧ k < j then R rk xs (i + j - 1 - k) else R rk xs k := by
  have e := getElem?_mirror_all (i := i) hj k
  split
  · rename_i h; rw [if_pos h] at e; exact R_of e
  · rename_i h; rw [if_neg h] at e; exact R_of e
theorem kept_mirror {xs : Array Keyed} {i j lo hi : Nat} (hj : j ≤ xs.size) (h1 : lo ≤ i) (h2 : j ≤ hi) : Kept xs (mirror xs i j ((j - i) / 2)) lo hi := fun k hk => by
  rw [getElem?_mirror_all hj k, if_neg (by omega)]
theorem R_alike {xs : Array Keyed} {i j : Nat} (hj : j ≤ xs.size) (h : ∀ k, i ≤ k → k < j → R rk xs k = R rk xs (j - 1)) (k : Nat) : R rk (mirror xs i j ((j - i) / 2)) k = R rk xs k := by
  rw [R_mirror hj]
  split
  · rw [h _ (by omega) (by omega), h k (by omega) (by omega)]
  · rfl
end
structure Bs (a0 : Array Keyed) (κ : SortKind) (st : SortSt) : Prop where
  perm : (arrOf st).Perm a0
  kind : kindOf st = κ
  ok : failedOf st = none
theorem Bs.size {a0 : Array Keyed} {κ : SortKind} {st : SortSt} (h : Bs a0 κ st) : (arrOf st).size = a0.size := h.perm.size_eq
theorem Bs.set {a0 : Array Keyed} {κ : SortKind} {st : SortSt} (h : Bs a0 κ st) {xs : Array Keyed} (hp : xs.Perm (arrOf st)) : Bs a0 κ (setArr st xs) := ⟨hp.trans h.perm, h.kind, h.ok⟩
theorem Bs.mem {a0 : Array Keyed} {κ : SortKind} {st : SortSt} (h : Bs a0 κ st) {i : Nat} (hi : i < a0.size) : ∃ p, (arrOf st)[i]? = some p ∧ p ∈ a0.toList := by
  have hi' : i < (arrOf st).size := by rw [h.size]; exact hi
  exact ⟨(arrOf st)[i], getElem?_pos _ i hi', (Array.perm_iff_toList_perm.mp h.perm).mem_iff.mp (by simp)⟩
section
variable {prog : Program} {w : World} {A : Around} {E : Value → Shared → Prop} {s : Shared}
def Cm (prog : Program) (w : World) (A : Around) (s : Shared) (κ : SortKind) (rk : Keyed → Nat) (a0 : Array Keyed) : Prop :=
  ∀ x ∈ a0.toList, ∀ y ∈ a0.toList, ∀ (Q : Bool → Shared → Prop) (E' : Value → Shared → Prop), Q (decide (rk x < rk y)) s → wpAny (model prog w) A (keyLt' κ x.1 y.1) Q E' s
variable {rk : Keyed → Nat} {a0 : Array Keyed} {κ : SortKind}
theorem lt_of {st : SortSt} {x y : Keyed} {Q : Option Bool → SortSt → Prop} (C : Cm prog w A s κ rk a0) (hk : kindOf st = κ) (hx : x ∈ a0.toList) (hy : y ∈ a0.toList) (h : Q (some (decide (rk x < rk y))) st) :
    wpS (model prog w) A E s (lt' x y) Q st := by
  rw [lt'_eq]
  refine wpS_bind (wpS_get ?_)
  rw [hk]
  exact wpS_bind (wpS_lift (wpAny_attempt (C x hx y hy _ _ ⟨rfl, wpS_pure h⟩)))
theorem ltAt_of {st : SortSt} {i j : Nat} {Q : Option Bool → SortSt → Prop} (C : Cm prog w A s κ rk a0) (B : Bs a0 κ st) (hi : i < a0.size) (hj : j < a0.size) (h : Q (some (decide (R rk (arrOf st) i < R rk (arrOf st) j))) st) :
    wpS (model prog w) A E s (ltAt' i j) Q st := by
  obtain ⟨x, ex, mx⟩ := B.mem hi
  obtain ⟨y, ey, my⟩ := B.mem hj
  rw [ltAt'_eq]
  refine wpS_bind (wpS_get ?_)
  show wpS _ _ _ _ (do let u ← elem' (arrOf st) i; let v ← elem' (arrOf st) j; lt' u v) Q st
  rw [elem'_eq, elem'_eq, ex, ey]
  refine wpS_bind (wpS_pure (wpS_bind (wpS_pure (lt_of C B.kind mx my ?_))))
  unfold R at h
  rw [ex, ey] at h
  exact h
theorem rev_of {st : SortSt} {i j : Nat} {Q : Unit → SortSt → Prop} (h : Q () (setArr st (mirror (arrOf st) i j ((j - i) / 2)))) : wpS (model prog w) A E s (reverseSlice' i j) Q st := by
  rw [reverseSlice'_eq]; exact wpS_modify h
theorem bin_of {st : SortSt} {lo n ok : Nat} {Q : Bool → SortSt → Prop} (C : Cm prog w A s κ rk a0) (hn : lo + n ≤ a0.size) (hok : ok ≤ n) (B : Bs a0 κ st) (hs : Up rk (arrOf st) lo (lo + ok))
    (h : ∀ st', Bs a0 κ st' → Up rk (arrOf st') lo (lo + n) → Kept (arrOf st) (arrOf st') lo (lo + n) → pendingOf st' = pendingOf st → Q true st') : wpS (model prog w) A E s (binarySort' lo n ok) Q st := by
  rw [binarySort'_eq]
  refine wpS_bind (wpS_mono (wpS_forRange (I := fun k c t => c = (none, ()) ∧ Bs a0 κ t ∧ Up rk (arrOf t) lo (lo + min k n) ∧ Kept (arrOf st) (arrOf t) lo (lo + n) ∧ pendingOf t = pendingOf st)
    (Q := fun c t => c = (none, ()) ∧ Bs a0 κ t ∧ Up rk (arrOf t) lo (lo + n) ∧ Kept (arrOf st) (arrOf t) lo (lo + n) ∧ pendingOf t = pendingOf st) ?step ?fin ?init) ?post)
  case post =>
    rintro c t ⟨rfl, B', u, k, p⟩
    exact wpS_pure (h t B' u k p)
  case init =>
    refine ⟨rfl, B, fun i j h1 h2 h3 => ?_, Kept.refl _ _ _, rfl⟩
    by_cases z : ok = 0
    · have : i = j := by omega
      rw [this]; exact Nat.le_refl _
    · exact hs i j h1 h2 (by omega)
  case fin =>
    rintro c t ⟨hc, B', u, k, p⟩
    refine ⟨hc, B', ?_, k, p⟩
    rwa [show min (max (max ok 1) n) n = n by omega] at u
  case step =>
    rintro k c t h1 h2 ⟨rfl, B', u, kp, pe⟩
    rw [show min k n = k by omega] at u
    refine wpS_bind (wpS_mono (wpS_forRange (I := fun x c t' => t' = t ∧ ∃ l r, c = (none, l, r) ∧ l ≤ r ∧ r ≤ k ∧ r - l ≤ k - x ∧
        (∀ i, i < l → R rk (arrOf t) (lo + i) ≤ R rk (arrOf t) (lo + k)) ∧ (∀ i, r ≤ i → i < k → R rk (arrOf t) (lo + k) < R rk (arrOf t) (lo + i)))
      (Q := fun c t' => t' = t ∧ ∃ l r, c = (none, l, r) ∧ l ≤ k ∧ (∀ i, i < l → R rk (arrOf t) (lo + i) ≤ R rk (arrOf t) (lo + k)) ∧ (∀ i, l ≤ i → i < k → R rk (arrOf t) (lo + k) < R rk (arrOf t) (lo + i))) ?st2 ?fin2 ?init2) ?post2)
    case init2 => exact ⟨rfl, 0, k, rfl, by omega, by omega, by omega, fun i hi => by omega, fun i h1 h2 => by omega⟩
    case fin2 =>
      rintro c t' ⟨rfl, l, r, rfl, a1, a2, a3, a4, a5⟩
      have : l = r := by omega
      subst this
      exact ⟨rfl, l, l, rfl, a2, a4, a5⟩
    case st2 =>
      rintro x c t' _ hx ⟨rfl, l, r, rfl, a1, a2, a3, a4, a5⟩
      dsimp only
      by_cases z : l ≥ r
      · rw [if_pos z]
        have : l = r := by omega
        subst this
        exact wpS_pure ⟨rfl, l, l, rfl, a2, a4, a5⟩
      · rw [if_neg z]
        refine wpS_bind (ltAt_of C B' (by omega) (by omega) ?_)
        by_cases y : R rk (arrOf t') (lo + k) < R rk (arrOf t') (lo + (l + r) / 2)
        · simp only [y, decide_true, if_true]
          refine wpS_pure ⟨rfl, l, (l + r) / 2, rfl, by omega, by omega, by omega, a4, fun i b1 b2 => ?_⟩
          have := u (lo + (l + r) / 2) (lo + i) (by omega) (by omega) (by omega)
          omega
        · simp only [y, decide_false, Bool.false_eq_true, if_false]
          refine wpS_pure ⟨rfl, (l + r) / 2 + 1, r, rfl, by omega, by omega, by omega, fun i b1 => ?_, a5⟩
          have := u (lo + i) (lo + (l + r) / 2) (by omega) (by omega) (by omega)
          omega
    case post2 =>
      rintro c t' ⟨rfl, l, r, rfl, a1, a2, a3⟩
      show wpS _ _ _ _ (do moveDown' (lo + k) (lo + l); pure (ForInStep.yield (none, ()))) _ _
      rw [moveDown'_eq]
      have hz : lo + k < (arrOf t').size := by rw [B'.size]; omega
      refine wpS_bind (wpS_modify (wpS_pure ⟨rfl, B'.set (bubble_perm _ _ _), ?_, kp.trans (kept_bubble hz (by omega) (by omega) (by omega)), pe⟩))
      rw [show min (k + 1) n = k + 1 by omega]
      intro i j b1 b2 b3
      show R rk (bubble (arrOf t') (lo + k) (lo + k - (lo + l))) i ≤ R rk (bubble (arrOf t') (lo + k) (lo + k - (lo + l))) j
      have f1 : ∀ i, lo ≤ i → i < lo + l → R rk (arrOf t') i ≤ R rk (arrOf t') (lo + k) := fun i c1 c2 => by have := a2 (i - lo) (by omega); rwa [show lo + (i - lo) = i by omega] at this
      have f2 : ∀ i, lo + l ≤ i → i < lo + k → R rk (arrOf t') (lo + k) < R rk (arrOf t') i := fun i c1 c2 => by have := a3 (i - lo) (by omega) (by omega); rwa [show lo + (i - lo) = i by omega] at this
      rw [R_bubble hz (by omega), R_bubble hz (by omega), show lo + k - (lo + k - (lo + l)) = lo + l by omega]
      repeat' split
      all_goals first
        | (exfalso; omega)
        | exact Nat.le_refl _
        | exact f1 _ (by omega) (by omega)
        | exact Nat.le_of_lt (f2 _ (by omega) (by omega))
        | exact u _ _ (by omega) (by omega) (by omega)
end
end TS
namespace TS
open PySem PyProof.Rows
section
variable {prog : Program} {w : World} {A : Around} {E : Value → Shared → Prop} {s : Shared}
variable {rk : Keyed → Nat} {a0 : Array Keyed} {κ : SortKind}
theorem up_one {xs : Array Keyed} {lo x : Nat} (u : Up rk xs lo (lo + x)) (x1 : 1 ≤ x) (h : ¬ R rk xs (lo + x) < R rk xs (lo + x - 1)) : Up rk xs lo (lo + (x + 1)) := fun i j h1 h2 h3 => by
  by_cases hj : j < lo + x
  · exact u i j h1 h2 hj
  · have e : j = lo + x := by omega
    subst e
    by_cases hi : i = lo + x
    · rw [hi]; exact Nat.le_refl _
    · have := u i (lo + x - 1) h1 (by omega) (by omega)
      omega
theorem down_one {xs : Array Keyed} {lo x : Nat} (u : Down rk xs lo (lo + x)) (x1 : 1 ≤ x) (h : R rk xs (lo + x) ≤ R rk xs (lo + x - 1)) : Down rk xs lo (lo + (x + 1)) := fun i j h1 h2 h3 => by
  by_cases hj : j < lo + x
  · exact u i j h1 h2 hj
  · have e : j = lo + x := by omega
    subst e
    by_cases hi : i = lo + x
    · rw [hi]; exact Nat.le_refl _
    · have := u i (lo + x - 1) h1 (by omega) (by omega)
      omega
def RunQ (a0 : Array Keyed) (κ : SortKind) (rk : Keyed → Nat) (lo nrem : Nat) (st : SortSt) (r : Option Nat) (t : SortSt) : Prop :=
  ∃ m, r = some m ∧ Bs a0 κ t ∧ 1 ≤ m ∧ m ≤ nrem ∧ Up rk (arrOf t) lo (lo + m) ∧ Kept (arrOf st) (arrOf t) lo (lo + nrem) ∧ pendingOf t = pendingOf st
theorem run_of {st : SortSt} {lo nrem : Nat} (C : Cm prog w A s κ rk a0) (hn : lo + nrem ≤ a0.size) (n1 : 1 ≤ nrem) (B : Bs a0 κ st) : wpS (model prog w) A E s (countRun' lo nrem) (RunQ a0 κ rk lo nrem st) st := by
  rw [countRun'_eq]
  refine wpS_bind (wpS_mono (wpS_forRange (I := fun x c t => t = st ∧ c = (none, x) ∧ Up rk (arrOf st) lo (lo + x))
    (Q := fun c t => t = st ∧ ∃ n, c = (none, n) ∧ 1 ≤ n ∧ n ≤ nrem ∧ Up rk (arrOf st) lo (lo + n) ∧ (n = nrem ∨ R rk (arrOf st) (lo + n) < R rk (arrOf st) (lo + n - 1))) ?step ?fin
    ⟨rfl, rfl, fun i j h1 h2 h3 => by rw [show i = j by omega]; exact Nat.le_refl _⟩) ?post)
  case fin =>
    rintro c t ⟨rfl, rfl, u⟩
    rw [show max 1 nrem = nrem by omega] at u ⊢
    exact ⟨rfl, nrem, rfl, n1, Nat.le_refl _, u, .inl rfl⟩
  case step =>
    rintro x c t x1 xn ⟨rfl, rfl, u⟩
    dsimp only
    refine wpS_bind (ltAt_of C B (by omega) (by omega) ?_)
    by_cases y : R rk (arrOf t) (lo + x) < R rk (arrOf t) (lo + x - 1)
    · simp only [y, decide_true, if_true]
      exact wpS_pure ⟨rfl, x, rfl, x1, by omega, u, .inr y⟩
    · simp only [y, decide_false, Bool.false_eq_true, if_false]
      exact wpS_pure ⟨rfl, rfl, up_one u x1 y⟩
  case post =>
    rintro c t ⟨rfl, n, rfl, m1, mn, u, hor⟩
    dsimp only
    by_cases z : n = nrem
    · rw [if_pos (by simpa using z)]
      exact wpS_pure ⟨n, rfl, B, m1, mn, u, Kept.refl _ _ _, rfl⟩
    · rw [if_neg (by simpa using z)]
      have lt := hor.resolve_left z
      suffices D : ∀ t', Bs a0 κ t' → Down rk (arrOf t') lo (lo + (n + 1)) → Kept (arrOf t) (arrOf t') lo (lo + nrem) → pendingOf t' = pendingOf t → wpS (model prog w) A E s _ (RunQ a0 κ rk lo nrem t) t' by
        by_cases g : n > 1
        · rw [if_pos g]
          refine wpS_bind (ltAt_of C B (by omega) (by omega) ?_)
          by_cases y : R rk (arrOf t) lo < R rk (arrOf t) (lo + n - 1)
          · simp only [y, decide_true, if_true]
            exact wpS_pure ⟨n, rfl, B, m1, mn, u, Kept.refl _ _ _, rfl⟩
          · simp only [y, decide_false, Bool.false_eq_true, if_false]
            have hz : lo + n ≤ (arrOf t).size := by rw [B.size]; omega
            have all : ∀ k, lo ≤ k → k < lo + n → R rk (arrOf t) k = R rk (arrOf t) (lo + n - 1) := fun k h1 h2 => by
              have a1 := u lo k (by omega) h1 h2
              have a2 := u k (lo + n - 1) h1 (by omega) (by omega)
              omega
            refine wpS_bind (rev_of (D _ (B.set (mirror_perm _ _ _ _)) ?_ (kept_mirror hz (Nat.le_refl _) (by omega)) rfl))
            refine down_one (fun i j h1 h2 h3 => ?_) m1 ?_
            · show R rk (mirror (arrOf t) _ _ _) j ≤ R rk (mirror (arrOf t) _ _ _) i
              rw [R_alike hz all, R_alike hz all, all i h1 (by omega), all j (by omega) h3]
              exact Nat.le_refl _
            · show R rk (mirror (arrOf t) _ _ _) _ ≤ R rk (mirror (arrOf t) _ _ _) _
              rw [R_alike hz all, R_alike hz all]
              omega
        · rw [if_neg g]
          refine D _ B (down_one (fun i j h1 h2 h3 => by rw [show i = j by omega]; exact Nat.le_refl _) m1 (by omega)) (Kept.refl _ _ _) rfl
      intro t1 B1 d1 k1 p1
      refine wpS_bind (wpS_lift (wpAny_rule ⟨rfl, ?_⟩))
      refine wpS_bind (wpS_mono (wpS_forRange (I := fun x c t' => ∃ q, c = (none, x, q) ∧ Bs a0 κ t' ∧ Down rk (arrOf t') lo (lo + x) ∧ q + 1 ≤ x ∧ (∀ i, lo + x - (q + 1) ≤ i → i < lo + x → R rk (arrOf t') i = R rk (arrOf t') (lo + x - 1)) ∧ Kept (arrOf t) (arrOf t') lo (lo + nrem) ∧ pendingOf t' = pendingOf t)
        (Q := fun c t' => ∃ x q, c = (none, x, q) ∧ n + 1 ≤ x ∧ x ≤ nrem ∧ Bs a0 κ t' ∧ Down rk (arrOf t') lo (lo + x) ∧ q + 1 ≤ x ∧ (∀ i, lo + x - (q + 1) ≤ i → i < lo + x → R rk (arrOf t') i = R rk (arrOf t') (lo + x - 1)) ∧ Kept (arrOf t) (arrOf t') lo (lo + nrem) ∧ pendingOf t' = pendingOf t) ?step2 ?fin2
        ⟨0, rfl, B1, d1, by omega, (fun i h1 h2 => by rw [show i = lo + (n + 1) - 1 by omega]), k1, p1⟩) ?post2)
      case fin2 =>
        rintro c t' ⟨q, rfl, B', d, q1, al, k, p⟩
        rw [show max (n + 1) nrem = nrem by omega] at d q1 al ⊢
        exact ⟨nrem, q, rfl, by omega, Nat.le_refl _, B', d, q1, al, k, p⟩
      case step2 =>
        rintro x c t' x1 xn ⟨q, rfl, B', d, q1, al, k, p⟩
        dsimp only
        have hz : lo + x ≤ (arrOf t').size := by rw [B'.size]; omega
        refine wpS_bind (ltAt_of C B' (by omega) (by omega) ?_)
        by_cases y : R rk (arrOf t') (lo + x) < R rk (arrOf t') (lo + x - 1)
        · simp only [y, decide_true, if_true]
          by_cases g : q > 0
          · rw [if_pos g]
            refine wpS_bind (rev_of (wpS_pure ⟨0, rfl, B'.set (mirror_perm _ _ _ _), ?_, by omega, (fun i h1 h2 => by rw [show i = lo + (x + 1) - 1 by omega]), k.trans (kept_mirror hz (by omega) (by omega)), p⟩))
            refine down_one (fun i j h1 h2 h3 => ?_) (by omega) ?_
            · show R rk (mirror (arrOf t') _ _ _) j ≤ R rk (mirror (arrOf t') _ _ _) i
              rw [R_alike hz al, R_alike hz al]
              exact d i j h1 h2 h3
            · show R rk (mirror (arrOf t') _ _ _) _ ≤ R rk (mirror (arrOf t') _ _ _) _
              rw [R_alike hz al, R_alike hz al]
              omega
          · rw [if_neg g]
            exact wpS_pure ⟨0, rfl, B', down_one d (by omega) (by omega), by omega, (fun i h1 h2 => by rw [show i = lo + (x + 1) - 1 by omega]), k, p⟩
        · simp only [y, decide_false, Bool.false_eq_true, if_false]
          refine wpS_bind (ltAt_of C B' (by omega) (by omega) ?_)
          by_cases g : R rk (arrOf t') (lo + x - 1) < R rk (arrOf t') (lo + x)
          · simp only [g, decide_true, if_true]
            exact wpS_pure ⟨x, q, rfl, x1, by omega, B', d, q1, al, k, p⟩
          · simp only [g, decide_false, Bool.false_eq_true, if_false]
            have e : R rk (arrOf t') (lo + x) = R rk (arrOf t') (lo + x - 1) := by omega
            refine wpS_pure ⟨q + 1, rfl, B', down_one d (by omega) (by omega), by omega, fun i h1 h2 => ?_, k, p⟩
            rw [show lo + (x + 1) - 1 = lo + x by omega]
            by_cases hi : i = lo + x
            · rw [hi]
            · rw [e]; exact al i (by omega) (by omega)
      case post2 =>
        rintro c t2 ⟨x, q, rfl, x1, xn, B2, d, q1, al, k2, p2⟩
        dsimp only
        have hz : lo + x ≤ (arrOf t2).size := by rw [B2.size]; omega
        suffices T : ∀ t3, Bs a0 κ t3 → Down rk (arrOf t3) lo (lo + x) → Kept (arrOf t) (arrOf t3) lo (lo + nrem) → pendingOf t3 = pendingOf t → wpS (model prog w) A E s _ (RunQ a0 κ rk lo nrem t) t3 by
          by_cases g : q > 0
          · rw [if_pos g]
            refine wpS_bind (rev_of (T _ (B2.set (mirror_perm _ _ _ _)) (fun i j h1 h2 h3 => ?_) (k2.trans (kept_mirror hz (by omega) (by omega))) p2))
            show R rk (mirror (arrOf t2) _ _ _) j ≤ R rk (mirror (arrOf t2) _ _ _) i
            rw [R_alike hz al, R_alike hz al]
            exact d i j h1 h2 h3
          · rw [if_neg g]
            exact T _ B2 d k2 p2
        intro t3 B3 d3 k3 p3
        have hz3 : lo + x ≤ (arrOf t3).size := by rw [B3.size]; omega
        refine wpS_bind (rev_of ?_)
        have B4 := B3.set (mirror_perm (arrOf t3) lo (lo + x) ((lo + x - lo) / 2))
        have u4 : Up rk (arrOf (setArr t3 (mirror (arrOf t3) lo (lo + x) ((lo + x - lo) / 2)))) lo (lo + x) := fun i j h1 h2 h3 => by
          show R rk (mirror (arrOf t3) _ _ _) i ≤ R rk (mirror (arrOf t3) _ _ _) j
          rw [R_mirror hz3, R_mirror hz3, if_pos (by omega), if_pos (by omega)]
          exact d3 _ _ (by omega) (by omega) (by omega)
        have k4 : Kept (arrOf t) (arrOf (setArr t3 (mirror (arrOf t3) lo (lo + x) ((lo + x - lo) / 2)))) lo (lo + nrem) := k3.trans (kept_mirror hz3 (Nat.le_refl _) (by omega))
        have p4 : pendingOf (setArr t3 (mirror (arrOf t3) lo (lo + x) ((lo + x - lo) / 2))) = pendingOf t := p3
        generalize setArr t3 (mirror (arrOf t3) lo (lo + x) ((lo + x - lo) / 2)) = t4 at B4 u4 k4 p4 ⊢
        refine wpS_bind (wpS_mono (wpS_forRange (I := fun y c t' => t' = t4 ∧ c = (none, y) ∧ Up rk (arrOf t4) lo (lo + y)) (Q := fun c t' => t' = t4 ∧ ∃ y, c = (none, y) ∧ x ≤ y ∧ y ≤ nrem ∧ Up rk (arrOf t4) lo (lo + y)) ?step3 ?fin3 ⟨rfl, rfl, u4⟩) ?post3)
        case fin3 =>
          rintro c t' ⟨rfl, rfl, v⟩
          rw [show max x nrem = nrem by omega] at v ⊢
          exact ⟨rfl, nrem, rfl, xn, Nat.le_refl _, v⟩
        case step3 =>
          rintro y c t' y1 yn ⟨rfl, rfl, v⟩
          dsimp only
          refine wpS_bind (ltAt_of C B4 (by omega) (by omega) ?_)
          by_cases g : R rk (arrOf t') (lo + y) < R rk (arrOf t') (lo + y - 1)
          · simp only [g, decide_true, if_true]
            exact wpS_pure ⟨rfl, y, rfl, y1, by omega, v⟩
          · simp only [g, decide_false, Bool.false_eq_true, if_false]
            exact wpS_pure ⟨rfl, rfl, up_one v (by omega) g⟩
        case post3 =>
          rintro c t' ⟨rfl, y, rfl, y1, yn, v⟩
          exact wpS_pure ⟨y, rfl, B4, by omega, yn, v, k4, p4⟩
end
end TS
namespace TS
open PySem PyProof.Rows
def gal : Bool → Keyed → Array Keyed → Nat → Nat → Nat → StateT SortSt Sem (Option Nat) := sortPriv% PySem.Builtin.gallop
section
variable {prog : Program} {w : World} {A : Around} {E : Value → Shared → Prop} {s : Shared}
variable {rk : Keyed → Nat} {a0 : Array Keyed} {κ : SortKind}
def bey (rk : Keyed → Nat) (left : Bool) (key : Keyed) (arr : Array Keyed) (base i : Nat) : Bool := if left then decide (R rk arr (base + i) < rk key) else !decide (rk key < R rk arr (base + i))
theorem bey_mono {left : Bool} {key : Keyed} {arr : Array Keyed} {base n i j : Nat} (u : Up rk arr base (base + n)) (h1 : i ≤ j) (h2 : j < n) (h : bey rk left key arr base j = true) : bey rk left key arr base i = true := by
  have := u (base + i) (base + j) (by omega) (by omega) (by omega)
  unfold bey at h ⊢
  cases left
  · simp at h ⊢; omega
  · simp at h ⊢; omega
theorem elem_of {arr : Array Keyed} {i : Nat} {st : SortSt} {Q : Keyed → SortSt → Prop} {p : Keyed} (h : arr[i]? = some p) (q : Q p st) : wpS (model prog w) A E s (elem' arr i) Q st := by
  rw [elem'_eq, h]; exact wpS_pure q
def In0 (a0 arr : Array Keyed) : Prop := ∀ x ∈ arr.toList, x ∈ a0.toList
theorem In0.at {arr : Array Keyed} (h : In0 a0 arr) {i : Nat} (hi : i < arr.size) : ∃ p, arr[i]? = some p ∧ p ∈ a0.toList := ⟨arr[i], getElem?_pos _ i hi, h _ (by simp)⟩
theorem R_at {arr : Array Keyed} {i : Nat} {p : Keyed} (h : arr[i]? = some p) : R rk arr i = rk p := by unfold R; rw [h]
theorem gal_of {st : SortSt} {left : Bool} {key : Keyed} {arr : Array Keyed} {base n hint : Nat} {Q : Option Nat → SortSt → Prop} (C : Cm prog w A s κ rk a0) (hk : kindOf st = κ) (ia : In0 a0 arr) (ik : key ∈ a0.toList) (hz : base + n ≤ arr.size) (hh : hint < n)
    (u : Up rk arr base (base + n)) (h : ∀ k, k ≤ n → (∀ i, i < k → bey rk left key arr base i = true) → (∀ i, k ≤ i → i < n → bey rk left key arr base i = false) → Q (some k) st) : wpS (model prog w) A E s (gal left key arr base n hint) Q st := by
  have by0 : ∀ (i : Nat) (Q' : Option Bool → SortSt → Prop), i < n → Q' (some (bey rk left key arr base i)) st → wpS (model prog w) A E s (do let x ← elem' arr (base + i); if left then lt' x key else return (← lt' key x).map (!·)) Q' st := by
    intro i Q' hi q
    obtain ⟨p, e, m⟩ := ia.at (show base + i < arr.size by omega)
    refine wpS_bind (elem_of e ?_)
    unfold bey at q
    rw [R_at e] at q
    cases left with
    | true => 
      rw [if_pos rfl] at q ⊢
      exact lt_of C hk m ik q
    | false =>
      rw [if_neg (by decide)] at q ⊢
      exact wpS_bind (lt_of C hk ik m (wpS_pure q))
  refine wpS_bind (by0 hint _ hh ?_)
  cases hr : bey rk left key arr base hint with
  | true =>
    dsimp only
    rw [if_pos rfl]
    refine wpS_bind (wpS_mono (wpS_forRange (I := fun x c t => t = st ∧ ∃ l o, c = (none, l, o) ∧ l < o ∧ l < n - hint ∧ x + 1 ≤ o ∧ bey rk left key arr base (hint + l) = true)
      (Q := fun c t => t = st ∧ ∃ l o, c = (none, l, o) ∧ l < o ∧ l < n - hint ∧ bey rk left key arr base (hint + l) = true ∧ (n - hint ≤ o ∨ bey rk left key arr base (hint + o) = false)) ?step ?fin ⟨rfl, 0, 1, rfl, by omega, by omega, by omega, hr⟩) ?post)
    case fin =>
      rintro c t ⟨rfl, l, o, rfl, a1, a2, a3, a4⟩
      exact ⟨rfl, l, o, rfl, a1, a2, a4, .inl (by omega)⟩
    case step =>
      rintro x c t _ xn ⟨rfl, l, o, rfl, a1, a2, a3, a4⟩
      dsimp only
      by_cases z : o ≥ n - hint
      · rw [if_pos z]
        exact wpS_pure ⟨rfl, l, o, rfl, a1, a2, a4, .inl z⟩
      · rw [if_neg z]
        refine wpS_bind (by0 (hint + o) _ (by omega) ?_)
        cases y : bey rk left key arr base (hint + o) with
        | true =>
          dsimp only
          rw [if_neg (by decide)]
          exact wpS_pure ⟨rfl, _, _, rfl, by omega, by omega, by omega, y⟩
        | false =>
          dsimp only
          rw [if_pos (by decide)]
          exact wpS_pure ⟨rfl, l, o, rfl, a1, a2, a4, .inr y⟩
    case post =>
      rintro c t ⟨ht, l, o, rfl, a1, a2, a3, a4⟩
      obtain rfl := ht.symm
      dsimp only
      have le1 : hint + l + 1 ≤ hint + min o (n - hint) := by omega
      have le2 : hint + min o (n - hint) ≤ n := by omega
      have b1 : ∀ i, i < hint + l + 1 → bey rk left key arr base i = true := fun i h1 => bey_mono u (show i ≤ hint + l by omega) (by omega) a3
      have b2 : ∀ i, hint + min o (n - hint) ≤ i → i < n → bey rk left key arr base i = false := fun i h1 h2 => by
        rcases a4 with a4 | a4
        · omega
        · cases y' : bey rk left key arr base i with
          | false => rfl
          | true => rw [bey_mono u (show hint + o ≤ i by omega) h2 y'] at a4; cases a4
      refine wpS_bind (wpS_mono (wpS_forRange (I := fun x c t => t = st ∧ ∃ lo hi, c = (none, lo, hi) ∧ lo ≤ hi ∧ hi ≤ n ∧ hi - lo ≤ n - x ∧ (∀ i, i < lo → bey rk left key arr base i = true) ∧ (∀ i, hi ≤ i → i < n → bey rk left key arr base i = false))
        (Q := fun c t => t = st ∧ ∃ lo hi, c = (none, lo, hi) ∧ hi ≤ n ∧ (∀ i, i < hi → bey rk left key arr base i = true) ∧ (∀ i, hi ≤ i → i < n → bey rk left key arr base i = false)) ?stepB ?finB ⟨rfl, _, _, rfl, le1, le2, by omega, b1, b2⟩) ?postB)
      case finB =>
        rintro c t ⟨rfl, lo, hi, rfl, a1, a2, a3, a4, a5⟩
        rw [show lo = hi by omega] at a4
        exact ⟨rfl, lo, hi, rfl, a2, a4, a5⟩
      case stepB =>
        rintro x c t _ xn ⟨rfl, lo, hi, rfl, a1, a2, a3, a4, a5⟩
        dsimp only
        by_cases z : lo ≥ hi
        · rw [if_pos z]
          rw [show lo = hi by omega] at a4
          exact wpS_pure ⟨rfl, lo, hi, rfl, a2, a4, a5⟩
        · rw [if_neg z]
          refine wpS_bind (by0 (lo + (hi - lo) / 2) _ (by omega) ?_)
          cases y : bey rk left key arr base (lo + (hi - lo) / 2) with
          | true =>
            dsimp only
            rw [if_pos rfl]
            exact wpS_pure ⟨rfl, _, _, rfl, by omega, a2, by omega, fun i h1 => bey_mono u (show i ≤ lo + (hi - lo) / 2 by omega) (by omega) y, a5⟩
          | false =>
            dsimp only
            rw [if_neg (by decide)]
            refine wpS_pure ⟨rfl, _, _, rfl, by omega, by omega, by omega, a4, fun i h1 h2 => ?_⟩
            cases y' : bey rk left key arr base i with
            | false => rfl
            | true => rw [bey_mono u h1 h2 y'] at y; cases y
      case postB =>
        rintro c t ⟨rfl, lo, hi, rfl, a1, a2, a3⟩
        exact wpS_pure (h hi a1 a2 a3)
  | false =>
    dsimp only
    rw [if_neg (by decide)]
    refine wpS_bind (wpS_mono (wpS_forRange (I := fun x c t => t = st ∧ ∃ l o, c = (none, l, o) ∧ l < o ∧ l < hint + 1 ∧ x + 1 ≤ o ∧ bey rk left key arr base (hint - l) = false)
      (Q := fun c t => t = st ∧ ∃ l o, c = (none, l, o) ∧ l < o ∧ l < hint + 1 ∧ bey rk left key arr base (hint - l) = false ∧ (hint + 1 ≤ o ∨ bey rk left key arr base (hint - o) = true)) ?step ?fin ⟨rfl, 0, 1, rfl, by omega, by omega, by omega, hr⟩) ?post)
    case fin =>
      rintro c t ⟨rfl, l, o, rfl, a1, a2, a3, a4⟩
      exact ⟨rfl, l, o, rfl, a1, a2, a4, .inl (by omega)⟩
    case step =>
      rintro x c t _ xn ⟨rfl, l, o, rfl, a1, a2, a3, a4⟩
      dsimp only
      by_cases z : o ≥ hint + 1
      · rw [if_pos z]
        exact wpS_pure ⟨rfl, l, o, rfl, a1, a2, a4, .inl z⟩
      · rw [if_neg z]
        refine wpS_bind (by0 (hint - o) _ (by omega) ?_)
        cases y : bey rk left key arr base (hint - o) with
        | false =>
          dsimp only
          rw [if_neg (by decide)]
          exact wpS_pure ⟨rfl, _, _, rfl, by omega, by omega, by omega, y⟩
        | true =>
          dsimp only
          rw [if_pos rfl]
          exact wpS_pure ⟨rfl, l, o, rfl, a1, a2, a4, .inr y⟩
    case post =>
      rintro c t ⟨ht, l, o, rfl, a1, a2, a3, a4⟩
      obtain rfl := ht.symm
      dsimp only
      have le1 : hint + 1 - min o (hint + 1) ≤ hint - l := by omega
      have le2 : hint - l ≤ n := by omega
      have b1 : ∀ i, i < hint + 1 - min o (hint + 1) → bey rk left key arr base i = true := fun i h1 => by
        rcases a4 with a4 | a4
        · omega
        · exact bey_mono u (show i ≤ hint - o by omega) (by omega) a4
      have b2 : ∀ i, hint - l ≤ i → i < n → bey rk left key arr base i = false := fun i h1 h2 => by
        cases y' : bey rk left key arr base i with
        | false => rfl
        | true => rw [bey_mono u h1 h2 y'] at a3; cases a3
      refine wpS_bind (wpS_mono (wpS_forRange (I := fun x c t => t = st ∧ ∃ lo hi, c = (none, lo, hi) ∧ lo ≤ hi ∧ hi ≤ n ∧ hi - lo ≤ n - x ∧ (∀ i, i < lo → bey rk left key arr base i = true) ∧ (∀ i, hi ≤ i → i < n → bey rk left key arr base i = false))
        (Q := fun c t => t = st ∧ ∃ lo hi, c = (none, lo, hi) ∧ hi ≤ n ∧ (∀ i, i < hi → bey rk left key arr base i = true) ∧ (∀ i, hi ≤ i → i < n → bey rk left key arr base i = false)) ?stepB ?finB ⟨rfl, _, _, rfl, le1, le2, by omega, b1, b2⟩) ?postB)
      case finB =>
        rintro c t ⟨rfl, lo, hi, rfl, a1, a2, a3, a4, a5⟩
        rw [show lo = hi by omega] at a4
        exact ⟨rfl, lo, hi, rfl, a2, a4, a5⟩
      case stepB =>
        rintro x c t _ xn ⟨rfl, lo, hi, rfl, a1, a2, a3, a4, a5⟩
        dsimp only
        by_cases z : lo ≥ hi
        · rw [if_pos z]
          rw [show lo = hi by omega] at a4
          exact wpS_pure ⟨rfl, lo, hi, rfl, a2, a4, a5⟩
        · rw [if_neg z]
          refine wpS_bind (by0 (lo + (hi - lo) / 2) _ (by omega) ?_)
          cases y : bey rk left key arr base (lo + (hi - lo) / 2) with
          | true =>
            dsimp only
            rw [if_pos rfl]
            exact wpS_pure ⟨rfl, _, _, rfl, by omega, a2, by omega, fun i h1 => bey_mono u (show i ≤ lo + (hi - lo) / 2 by omega) (by omega) y, a5⟩
          | false =>
            dsimp only
            rw [if_neg (by decide)]
            refine wpS_pure ⟨rfl, _, _, rfl, by omega, by omega, by omega, a4, fun i h1 h2 => ?_⟩
            cases y' : bey rk left key arr base i with
            | false => rfl
            | true => rw [bey_mono u h1 h2 y'] at y; cases y
      case postB =>
        rintro c t ⟨rfl, lo, hi, rfl, a1, a2, a3⟩
        exact wpS_pure (h hi a1 a2 a3)
end
end TS
namespace TS
open PySem PyProof.Rows
section
variable {rk : Keyed → Nat}
def Le (rk : Keyed → Nat) (x y : Keyed) : Prop := rk x ≤ rk y
section
variable {le : Keyed → Keyed → Prop}
def Srt (le : Keyed → Keyed → Prop) (l : List Keyed) : Prop := l.Pairwise le
structure Mi (le : Keyed → Keyed → Prop) (a b out : List Keyed) (i j : Nat) : Prop where
  pm : out.Perm (a.take i ++ b.take j)
  up : Srt le out
  ba : ∀ x ∈ out, ∀ y ∈ a.drop i, le x y
  bb : ∀ x ∈ out, ∀ y ∈ b.drop j, le x y
theorem srt_app {l m : List Keyed} : Srt le (l ++ m) ↔ Srt le l ∧ Srt le m ∧ ∀ x ∈ l, ∀ y ∈ m, le x y := List.pairwise_append
theorem srt_drop {l : List Keyed} (h : Srt le l) (i : Nat) : Srt le (l.drop i) := List.Pairwise.sublist (List.drop_sublist i l) h
theorem drop_at {l : List Keyed} {i : Nat} {x : Keyed} (h : l[i]? = some x) : l.drop i = x :: l.drop (i + 1) := by
  obtain ⟨hi, e⟩ := List.getElem?_eq_some_iff.mp h
  rw [List.drop_eq_getElem_cons hi, e]
theorem take_at {l : List Keyed} {i : Nat} {x : Keyed} (h : l[i]? = some x) : l.take (i + 1) = l.take i ++ [x] := by rw [List.take_succ, h]; rfl
theorem srt_head (rf : ∀ x, le x x) {l : List Keyed} (s : Srt le l) {i : Nat} {x : Keyed} (h : l[i]? = some x) : ∀ y ∈ l.drop i, le x y := fun y hy => by
  have := srt_drop s i
  rw [drop_at h] at this hy
  rcases List.mem_cons.mp hy with e | e
  · rw [e]; exact rf _
  · exact (List.pairwise_cons.mp this).1 y e
theorem Mi.pushA (rf : ∀ x, le x x) {a b out : List Keyed} {i j : Nat} {x : Keyed} (h : Mi le a b out i j) (sa : Srt le a) (hx : a[i]? = some x) (hb : ∀ y ∈ b.drop j, le x y) : Mi le a b (out ++ [x]) (i + 1) j := by
  have da := drop_at hx
  have mx : x ∈ a.drop i := by rw [da]; exact List.mem_cons_self
  refine ⟨?_, ?_, ?_, ?_⟩
  · rw [take_at hx, List.append_assoc]
    refine (h.pm.append_right [x]).trans ?_
    rw [List.append_assoc]
    exact List.Perm.append_left _ List.perm_append_comm
  · refine srt_app.mpr ⟨h.up, List.pairwise_singleton _ _, fun y hy z hz => ?_⟩
    rw [List.mem_singleton.mp hz]
    exact h.ba y hy x mx
  · intro y hy z hz
    have hz' : z ∈ a.drop i := by rw [da]; exact List.mem_cons_of_mem _ hz
    rcases List.mem_append.mp hy with e | e
    · exact h.ba y e z hz'
    · rw [List.mem_singleton.mp e]
      exact srt_head rf sa hx z hz'
  · intro y hy z hz
    rcases List.mem_append.mp hy with e | e
    · exact h.bb y e z hz
    · rw [List.mem_singleton.mp e]
      exact hb z hz
theorem Mi.pushB (rf : ∀ x, le x x) {a b out : List Keyed} {i j : Nat} {x : Keyed} (h : Mi le a b out i j) (sb : Srt le b) (hx : b[j]? = some x) (ha : ∀ y ∈ a.drop i, le x y) : Mi le a b (out ++ [x]) i (j + 1) := by
  have db := drop_at hx
  have mx : x ∈ b.drop j := by rw [db]; exact List.mem_cons_self
  refine ⟨?_, ?_, ?_, ?_⟩
  · rw [take_at hx, ← List.append_assoc]
    exact h.pm.append_right [x]
  · refine srt_app.mpr ⟨h.up, List.pairwise_singleton _ _, fun y hy z hz => ?_⟩
    rw [List.mem_singleton.mp hz]
    exact h.bb y hy x mx
  · intro y hy z hz
    rcases List.mem_append.mp hy with e | e
    · exact h.ba y e z hz
    · rw [List.mem_singleton.mp e]
      exact ha z hz
  · intro y hy z hz
    have hz' : z ∈ b.drop j := by rw [db]; exact List.mem_cons_of_mem _ hz
    rcases List.mem_append.mp hy with e | e
    · exact h.bb y e z hz'
    · rw [List.mem_singleton.mp e]
      exact srt_head rf sb hx z hz'
theorem seg_succ {l : List Keyed} {i k : Nat} {x : Keyed} (h : l[i + k]? = some x) : (l.take (i + (k + 1))).drop i = (l.take (i + k)).drop i ++ [x] := by
  have hl := (List.getElem?_eq_some_iff.mp h).1
  rw [show i + (k + 1) = (i + k) + 1 by omega, take_at h, List.drop_append_of_le_length (by rw [List.length_take]; omega)]
theorem Mi.manyA (rf : ∀ x, le x x) {a b out : List Keyed} {i j : Nat} (h : Mi le a b out i j) (sa : Srt le a) : ∀ k, i + k ≤ a.length → (∀ n x, n < k → a[i + n]? = some x → ∀ y ∈ b.drop j, le x y) → Mi le a b (out ++ (a.take (i + k)).drop i) (i + k) j
  | 0, _, _ => by rw [Nat.add_zero, List.drop_eq_nil_of_le (by rw [List.length_take]; omega), List.append_nil]; exact h
  | k + 1, hl, hc => by
    have e : a[i + k]? = some a[i + k] := List.getElem?_eq_getElem (by omega)
    rw [seg_succ e, ← List.append_assoc, show i + (k + 1) = i + k + 1 by omega]
    exact (Mi.manyA rf h sa k (by omega) fun n x hn => hc n x (by omega)).pushA rf sa e (hc k _ (by omega) e)
theorem Mi.manyB (rf : ∀ x, le x x) {a b out : List Keyed} {i j : Nat} (h : Mi le a b out i j) (sb : Srt le b) : ∀ k, j + k ≤ b.length → (∀ n x, n < k → b[j + n]? = some x → ∀ y ∈ a.drop i, le x y) → Mi le a b (out ++ (b.take (j + k)).drop j) i (j + k)
  | 0, _, _ => by rw [Nat.add_zero, List.drop_eq_nil_of_le (by rw [List.length_take]; omega), List.append_nil]; exact h
  | k + 1, hl, hc => by
    have e : b[j + k]? = some b[j + k] := List.getElem?_eq_getElem (by omega)
    rw [seg_succ e, ← List.append_assoc, show j + (k + 1) = j + k + 1 by omega]
    exact (Mi.manyB rf h sb k (by omega) fun n x hn => hc n x (by omega)).pushB rf sb e (hc k _ (by omega) e)
def Mg (le : Keyed → Keyed → Prop) (a b r : List Keyed) : Prop := r.Perm (a ++ b) ∧ Srt le r
theorem perm_ends (a b out : List Keyed) (i j : Nat) (h : out.Perm (a.take i ++ b.take j)) : (out ++ a.drop i ++ b.drop j).Perm (a ++ b) := by
  have e1 := (h.append_right (a.drop i)).append_right (b.drop j)
  refine e1.trans ?_
  have e2 : ((a.take i ++ b.take j) ++ a.drop i).Perm (a ++ b.take j) := by
    rw [List.append_assoc]
    refine (List.Perm.append_left _ List.perm_append_comm).trans ?_
    rw [← List.append_assoc, List.take_append_drop]
  refine (e2.append_right _).trans ?_
  rw [List.append_assoc, List.take_append_drop]
theorem Mi.doneB {a b out : List Keyed} {i j : Nat} (h : Mi le a b out i j) (sa : Srt le a) (hj : b.length ≤ j) : Mg le a b (out ++ a.drop i ++ b.drop j) := by
  refine ⟨perm_ends a b out i j h.pm, ?_⟩
  rw [List.drop_eq_nil_of_le hj, List.append_nil]
  exact srt_app.mpr ⟨h.up, srt_drop sa i, h.ba⟩
theorem Mi.doneA {a b out : List Keyed} {i j : Nat} (h : Mi le a b out i j) (sb : Srt le b) (hi : a.length ≤ i) : Mg le a b (out ++ a.drop i ++ b.drop j) := by
  refine ⟨perm_ends a b out i j h.pm, ?_⟩
  rw [List.drop_eq_nil_of_le hi, List.append_nil]
  exact srt_app.mpr ⟨h.up, srt_drop sb j, h.bb⟩
theorem Mi.last {a b out : List Keyed} {i j : Nat} (h : Mi le a b out i j) (sa : Srt le a) (sb : Srt le b) (top : ∀ x ∈ b.drop j, ∀ y ∈ a.drop i, le x y) : Mg le a b (out ++ b.drop j ++ a.drop i) := by
  constructor
  · refine List.Perm.trans ?_ (perm_ends a b out i j h.pm)
    rw [List.append_assoc, List.append_assoc]
    exact List.Perm.append_left _ List.perm_append_comm
  · rw [List.append_assoc]
    refine srt_app.mpr ⟨h.up, srt_app.mpr ⟨srt_drop sb j, srt_drop sa i, top⟩, fun x hx y hy => ?_⟩
    rcases List.mem_append.mp hy with e | e
    · exact h.bb x hx y e
    · exact h.ba x hx y e
end
theorem srt_of_up {xs : Array Keyed} (u : Up rk xs 0 xs.size) : Srt (Le rk) xs.toList := by
  refine List.pairwise_iff_getElem.mpr fun i j hi hj hij => ?_
  have := u i j (Nat.zero_le _) (by omega) (by simpa using hj)
  rw [R_at (p := xs.toList[i]) (by simp), R_at (p := xs.toList[j]) (by simp)] at this
  exact this
theorem up_of_srt {xs : Array Keyed} (h : Srt (Le rk) xs.toList) : Up rk xs 0 xs.size := fun i j _ hij hj => by
  rcases Nat.lt_or_eq_of_le hij with z | z
  · have := List.pairwise_iff_getElem.mp h i j (by simp; omega) (by simpa using hj) z
    rw [R_at (i := i) (p := xs.toList[i]'(by simp; omega)) (by simp), R_at (i := j) (p := xs.toList[j]'(by simpa using hj)) (by simp)]
    exact this
  · rw [z]; exact Nat.le_refl _
end
end TS
namespace TS
open PySem PyProof.Rows
def mLo : Array Keyed → Array Keyed → StateT SortSt Sem (Array Keyed) := sortPriv% PySem.Builtin.mergeLo
section
variable {prog : Program} {w : World} {A : Around} {E : Value → Shared → Prop} {s : Shared}
variable {rk : Keyed → Nat} {a0 : Array Keyed} {κ : SortKind}
structure Like (st t : SortSt) : Prop where
  arr : arrOf t = arrOf st
  pend : pendingOf t = pendingOf st
  kind : kindOf t = kindOf st
  ok : failedOf t = failedOf st
theorem Like.refl (st : SortSt) : Like st st := ⟨rfl, rfl, rfl, rfl⟩
def MQ (rk : Keyed → Nat) (a b : Array Keyed) (st : SortSt) (r : Array Keyed) (t : SortSt) : Prop := Mg (Le rk) a.toList b.toList r.toList ∧ Like st t
theorem hv {β γ : Type} {F : γ} {K : γ → StateT SortSt Sem β} {Q : β → SortSt → Prop} {st : SortSt} (h : wpS (model prog w) A E s (K F) Q st) : wpS (model prog w) A E s (have x := F; K x) Q st := h
theorem wIte {β : Type} {c : Prop} [Decidable c] {m n : StateT SortSt Sem β} {Q : β → SortSt → Prop} {st : SortSt} (h1 : c → wpS (model prog w) A E s m Q st) (h2 : ¬ c → wpS (model prog w) A E s n Q st) : wpS (model prog w) A E s (if c then m else n) Q st := by
  split
  · exact h1 ‹_›
  · exact h2 ‹_›
theorem beqT {a b : Nat} (h : (a == b) = true) : a = b := by simpa using h
theorem beqF {a b : Nat} (h : ¬ (a == b) = true) : ¬ a = b := by simpa using h
theorem ext_tail (xs : Array Keyed) (i : Nat) : (xs.extract i).toList = xs.toList.drop i := by rw [Array.toList_extract, List.extract_eq_take_drop, List.take_of_length_le (by simp)]
theorem ext_seg (xs : Array Keyed) (i j : Nat) : (xs.extract i j).toList = (xs.toList.take j).drop i := by rw [Array.toList_extract, List.extract_eq_take_drop, List.drop_take]
theorem at_list {xs : Array Keyed} {i : Nat} {x : Keyed} (h : xs[i]? = some x) : xs.toList[i]? = some x := by rw [← h]; simp
theorem setG {st : SortSt} {g : Nat} {Q : Unit → SortSt → Prop} (h : Q () (SortSt.mk' (kindOf st) (arrOf st) (pendingOf st) g (failedOf st))) : wpS (model prog w) A E s ((sortPriv% PySem.Builtin.setMinGallop) g) Q st := wpS_modify h
theorem Like.gal {st t : SortSt} (h : Like st t) (g : Nat) : Like st (SortSt.mk' (kindOf t) (arrOf t) (pendingOf t) g (failedOf t)) := ⟨h.arr, h.pend, h.kind, h.ok⟩
theorem setL {st0 st : SortSt} {g : Nat} {Q : Unit → SortSt → Prop} (l : Like st0 st) (h : ∀ t, Like st0 t → Q () t) : wpS (model prog w) A E s ((sortPriv% PySem.Builtin.setMinGallop) g) Q st := setG (h _ (l.gal g))
theorem mLo_of {st : SortSt} {a b : Array Keyed} (C : Cm prog w A s κ rk a0) (hk : kindOf st = κ) (ia : In0 a0 a) (ib : In0 a0 b) (a1 : 1 ≤ a.size) (b1 : 1 ≤ b.size) (sa : Srt (Le rk) a.toList) (sb : Srt (Le rk) b.toList)
    (first : ∀ x, b[0]? = some x → ∀ y ∈ a.toList, Le rk x y) (last : ∀ x ∈ b.toList, ∀ y, a[a.size - 1]? = some y → Le rk x y) : wpS (model prog w) A E s (mLo a b) (MQ rk a b st) st := by
  have la : a.toList.length = a.size := Array.length_toList
  have lb : b.toList.length = b.size := Array.length_toList
  have ua := up_of_srt sa
  have ub := up_of_srt sb
  have doneB : ∀ out i j t, Mi (Le rk) a.toList b.toList (Array.toList out) i j → Like st t → b.size ≤ j → MQ rk a b st (out ++ a.extract i ++ b.extract j) t := fun out i j t m l hj => by
    refine ⟨?_, l⟩
    rw [Array.toList_append, Array.toList_append, ext_tail, ext_tail]
    exact m.doneB sa (by omega)
  have doneA : ∀ out i j t, Mi (Le rk) a.toList b.toList (Array.toList out) i j → Like st t → a.size ≤ i → MQ rk a b st (out ++ a.extract i ++ b.extract j) t := fun out i j t m l hi => by
    refine ⟨?_, l⟩
    rw [Array.toList_append, Array.toList_append, ext_tail, ext_tail]
    exact m.doneA sb (by omega)
  have lastA : ∀ out i j t, Mi (Le rk) a.toList b.toList (Array.toList out) i j → Like st t → i + 1 = a.size → MQ rk a b st (out ++ b.extract j ++ a.extract i) t := fun out i j t m l hi => by
    refine ⟨?_, l⟩
    rw [Array.toList_append, Array.toList_append, ext_tail, ext_tail]
    refine m.last sa sb fun x hx y hy => last x (List.mem_of_mem_drop hx) y ?_
    have e : a.toList[i]? = some a.toList[i] := List.getElem?_eq_getElem (by omega)
    rw [drop_at e, List.drop_eq_nil_of_le (by omega)] at hy
    rw [List.mem_singleton.mp hy, show a.size - 1 = i by omega, ← Array.getElem?_toList]
    exact e
  have stepB : ∀ out i j x y, Mi (Le rk) a.toList b.toList (Array.toList out) i j → a[i]? = some x → b[j]? = some y → rk y ≤ rk x → Mi (Le rk) a.toList b.toList (Array.toList (out.push y)) i (j + 1) := fun out i j x y m hx hy le => by
    rw [Array.toList_push]
    exact m.pushB (fun _ => Nat.le_refl _) sb (at_list hy) fun z hz => Nat.le_trans le (srt_head (fun _ => Nat.le_refl _) sa (at_list hx) z hz)
  have stepA : ∀ out i j x y, Mi (Le rk) a.toList b.toList (Array.toList out) i j → a[i]? = some x → b[j]? = some y → rk x ≤ rk y → Mi (Le rk) a.toList b.toList (Array.toList (out.push x)) (i + 1) j := fun out i j x y m hx hy le => by
    rw [Array.toList_push]
    exact m.pushA (fun _ => Nat.le_refl _) sa (at_list hx) fun z hz => Nat.le_trans le (srt_head (fun _ => Nat.le_refl _) sb (at_list hy) z hz)
  refine wpS_bind (wpS_lift (wpAny_rule ⟨rfl, ?_⟩))
  obtain ⟨b0, eb0, mb0⟩ := ib.at (show 0 < b.size by omega)
  refine wpS_bind (elem_of eb0 ?_)
  have m0 : Mi (Le rk) a.toList b.toList (Array.toList #[b0]) 0 1 := by
    have e : b.toList[0]? = some b0 := at_list eb0
    have n : Mi (Le rk) a.toList b.toList [] 0 0 := ⟨List.Perm.refl _, List.Pairwise.nil, (fun x h => by cases h), (fun x h => by cases h)⟩
    exact n.pushB (fun _ => Nat.le_refl _) sb e fun y hy => first b0 eb0 y hy
  refine hv (hv (hv ?_))
  by_cases z1 : 1 = b.size
  · rw [if_pos (by simpa using z1)]
    exact wpS_pure (doneB _ _ _ _ m0 (Like.refl st) (by omega))
  rw [if_neg (by simpa using z1)]
  by_cases z2 : 0 + 1 = a.size
  · rw [if_pos (by simpa using z2)]
    exact wpS_pure (lastA _ _ _ _ m0 (Like.refl st) z2)
  rw [if_neg (by simpa using z2)]
  refine wpS_bind (wpS_get ?_)
  refine wpS_bind (wpS_mono (wpS_forRange (I := fun x c t => ∃ out i j g, c = (none, out, i, j, g) ∧ Mi (Le rk) a.toList b.toList (Array.toList out) i j ∧ i + 1 < a.size ∧ j < b.size ∧ x ≤ i + j ∧ Like st t)
    (Q := fun c t => ∃ r, c.1 = some r ∧ MQ rk a b st r t) ?step ?fin ⟨_, _, _, _, rfl, m0, by omega, by omega, by omega, Like.refl st⟩) ?post)
  case post =>
    rintro c t ⟨r, hr, q⟩
    obtain ⟨c1, c2⟩ := c
    cases hr
    exact wpS_pure q
  case fin =>
    rintro c t ⟨out, i, j, g, rfl, m, h1, h2, h3, l⟩
    omega
  case step =>
    rintro x c t _ xn ⟨out, i, j, g, rfl, m, h1, h2, h3, l⟩
    refine wpS_bind (wpS_mono (wpS_forRange (I := fun y c t' => ∃ out' i' j' p q, c = (none, out', i', j', p, q) ∧ t' = t ∧ Mi (Le rk) a.toList b.toList (Array.toList out') i' j' ∧ i' + 1 < a.size ∧ j' < b.size ∧ i' + j' = i + j + y)
      (Q := fun c t' => (∃ r, c.1 = some r ∧ MQ rk a b st r t') ∨ (∃ out' i' j' p q, c = (none, out', i', j', p, q) ∧ t' = t ∧ Mi (Le rk) a.toList b.toList (Array.toList out') i' j' ∧ i' + 1 < a.size ∧ j' < b.size ∧ x + 1 ≤ i' + j')) ?step2 ?fin2 ⟨_, _, _, _, _, rfl, rfl, m, h1, h2, rfl⟩) ?post2)
    case fin2 =>
      rintro c t' ⟨out', i', j', p, q, rfl, rfl, m', k1, k2, k3⟩
      omega
    case step2 =>
      rintro y c t' _ yn ⟨out', i', j', p, q, rfl, rfl, m', k1, k2, k3⟩
      obtain ⟨u, eu, mu⟩ := ia.at (show i' < a.size by omega)
      obtain ⟨v, ev, mv⟩ := ib.at k2
      refine wpS_bind (elem_of ev (wpS_bind (elem_of eu (wpS_bind (lt_of C (l.kind.trans hk) mv mu ?_)))))
      by_cases d : rk v < rk u
      · rw [decide_eq_true d]
        dsimp only
        rw [if_pos rfl]
        have m2 := stepB out' i' j' u v m' eu ev (Nat.le_of_lt d)
        refine wpS_bind (elem_of ev ?_)
        by_cases z : j' + 1 = b.size
        · rw [if_pos (by simpa using z)]
          exact wpS_pure (.inl ⟨_, rfl, doneB _ _ _ _ m2 l (by omega)⟩)
        · rw [if_neg (by simpa using z)]
          split
          · exact wpS_pure (.inr ⟨_, _, _, _, _, rfl, rfl, m2, k1, by omega, by omega⟩)
          · exact wpS_pure ⟨_, _, _, _, _, rfl, rfl, m2, k1, by omega, by omega⟩
      · rw [decide_eq_false d]
        dsimp only
        rw [if_neg (by decide)]
        have m2 := stepA out' i' j' u v m' eu ev (by omega)
        refine wpS_bind (elem_of eu ?_)
        by_cases z : i' + 1 + 1 = a.size
        · rw [if_pos (by simpa using z)]
          exact wpS_pure (.inl ⟨_, rfl, lastA _ _ _ _ m2 l z⟩)
        · rw [if_neg (by simpa using z)]
          split
          · exact wpS_pure (.inr ⟨_, _, _, _, _, rfl, rfl, m2, by omega, k2, by omega⟩)
          · exact wpS_pure ⟨_, _, _, _, _, rfl, rfl, m2, by omega, k2, by omega⟩
    case post2 =>
      rintro c t' (⟨r, hr, q⟩ | ⟨out', i', j', p, q, rfl, rfl, m', k1, k2, k3⟩)
      · obtain ⟨c1, c2⟩ := c
        cases hr
        exact wpS_pure ⟨r, rfl, q⟩
      · refine wpS_bind (wpS_lift (wpAny_rule ⟨rfl, ?_⟩))
        refine wpS_bind (wpS_mono (wpS_forRange (I := fun y c t2 => ∃ out2 i2 j2 g2 p q, c = (none, out2, i2, j2, g2, p, q) ∧ Like st t2 ∧ Mi (Le rk) a.toList b.toList (Array.toList out2) i2 j2 ∧ i2 + 1 < a.size ∧ j2 < b.size ∧ x + 1 ≤ i2 + j2)
          (Q := fun c t2 => (∃ r, c.1 = some r ∧ MQ rk a b st r t2) ∨ (∃ out2 i2 j2 g2 p q, c = (none, out2, i2, j2, g2, p, q) ∧ Like st t2 ∧ Mi (Le rk) a.toList b.toList (Array.toList out2) i2 j2 ∧ i2 + 1 < a.size ∧ j2 < b.size ∧ x + 1 ≤ i2 + j2)) ?step3 ?fin3 ⟨_, _, _, _, _, _, rfl, l, m', k1, k2, k3⟩) ?post3)
        case fin3 =>
          rintro c t2 h
          exact .inr h
        case post3 =>
          rintro c t2 (⟨r, hr, q⟩ | ⟨out2, i2, j2, g2, p, q, rfl, l2, m2, n1, n2, n3⟩)
          · obtain ⟨c1, c2⟩ := c
            cases hr
            exact wpS_pure ⟨r, rfl, q⟩
          · refine wpS_bind (setG ?_)
            exact wpS_pure ⟨_, _, _, _, rfl, m2, n1, n2, n3, l2.gal _⟩
        case step3 =>
          rintro y c t2 _ yn ⟨out2, i2, j2, g2, p, q, rfl, l2, m2, n1, n2, n3⟩
          obtain ⟨v, ev, mv⟩ := ib.at n2
          refine wIte (fun _ => ?_) (fun _ => ?_)
          all_goals
            refine wpS_bind (setL l2 fun t3 l3 => ?_)
            refine wpS_bind (elem_of ev ?_)
            refine wpS_bind (gal_of (base := i2) (n := a.size - i2) (hint := 0) C (l3.kind.trans hk) ia mv (show i2 + (a.size - i2) ≤ a.size by omega) (by omega) (fun x y h1 h2 h3 => ua x y (by omega) h2 (by omega)) fun k kn ka kb => ?_)
            have mA : ∀ k', k' ≤ k → Mi (Le rk) a.toList b.toList (Array.toList (out2 ++ a.extract i2 (i2 + k'))) (i2 + k') j2 := fun k' hk' => by
              rw [Array.toList_append, ext_seg]
              refine m2.manyA (fun _ => Nat.le_refl _) sa k' (by omega) fun n x hn hx z hz => ?_
              have h := ka n (by omega)
              unfold bey at h
              rw [if_neg (by decide), R_at (p := x) (by rw [← Array.getElem?_toList]; exact hx)] at h
              have hle : rk x ≤ rk v := by simpa using h
              exact Nat.le_trans hle (srt_head (fun _ => Nat.le_refl _) sb (at_list ev) z hz)
            have gB : i2 + k < a.size → rk v < R rk a (i2 + k) := fun h => by
              have h := kb k (Nat.le_refl _) (by omega)
              unfold bey at h
              rw [if_neg (by decide)] at h
              simpa using h
            have m3 := mA k (Nat.le_refl _)
            refine wIte (fun kz => ?_) (fun kz => ?_)
            refine wIte (fun z => wpS_pure (.inl ⟨_, rfl, lastA _ _ _ _ m3 l3 (beqT z)⟩)) (fun z1 => ?_)
            refine wIte (fun z => wpS_pure (.inl ⟨_, rfl, doneA _ _ _ _ m3 l3 (Nat.le_of_eq (beqT z).symm)⟩)) (fun z2 => ?_)
            have z1 : ¬ i2 + k + 1 = a.size := beqF z1
            have z2 : ¬ i2 + k = a.size := beqF z2
            have f1 : i2 + k + 1 < a.size := by omega
            have f2 : x + 1 ≤ i2 + k + j2 := by omega
            have f3 := gB (by omega)
            generalize out2 ++ a.extract i2 (i2 + k) = out3 at m3 ⊢
            generalize i2 + k = i3 at m3 f1 f2 f3 ⊢
            rotate_left
            have k0 : k = 0 := by omega
            subst k0
            have e0 : out2 ++ a.extract i2 (i2 + 0) = out2 := by simp <;> omega
            rw [e0, Nat.add_zero] at m3
            have f1 : i2 + 1 < a.size := by omega
            have f2 : x + 1 ≤ i2 + j2 := by omega
            have f3 := gB (by omega)
            rw [Nat.add_zero] at f3
            clear e0
            generalize out2 = out3 at m3 ⊢
            generalize i2 = i3 at m3 f1 f2 f3 ⊢
            rotate_left
            all_goals
              obtain ⟨u3, eu3, mu3⟩ := ia.at (show i3 < a.size by omega)
              rw [R_at eu3] at f3
              refine wpS_bind (elem_of ev ?_)
              have m4 := stepB out3 i3 j2 u3 v m3 eu3 ev (Nat.le_of_lt f3)
              refine wIte (fun z => wpS_pure (.inl ⟨_, rfl, doneB _ _ _ _ m4 l3 (Nat.le_of_eq (beqT z).symm)⟩)) (fun z3 => ?_)
              have z3 : ¬ j2 + 1 = b.size := beqF z3
              refine wpS_bind (elem_of eu3 ?_)
              refine wpS_bind (gal_of (base := j2 + 1) (n := b.size - (j2 + 1)) (hint := 0) C (l3.kind.trans hk) ib mu3 (show j2 + 1 + (b.size - (j2 + 1)) ≤ b.size by omega) (by omega) (fun x y h1 h2 h3 => ub x y (by omega) h2 (by omega)) fun k' kn' ka' kb' => ?_)
              have m5 : Mi (Le rk) a.toList b.toList (Array.toList (out3.push v ++ b.extract (j2 + 1) (j2 + 1 + k'))) i3 (j2 + 1 + k') := by
                rw [Array.toList_append, ext_seg]
                refine m4.manyB (fun _ => Nat.le_refl _) sb k' (by omega) fun n x hn hx z hz => ?_
                have h := ka' n hn
                unfold bey at h
                rw [if_pos rfl, R_at (p := x) (by rw [← Array.getElem?_toList]; exact hx)] at h
                have hle : rk x < rk u3 := by simpa using h
                exact Nat.le_trans (Nat.le_of_lt hle) (srt_head (fun _ => Nat.le_refl _) sa (at_list eu3) z hz)
              have gA : j2 + 1 + k' < b.size → rk u3 ≤ R rk b (j2 + 1 + k') := fun h => by
                have h := kb' k' (Nat.le_refl _) (by omega)
                unfold bey at h
                rw [if_pos rfl] at h
                simpa using h
              refine wIte (fun kz' => ?_) (fun kz' => ?_)
              refine wIte (fun z => wpS_pure (.inl ⟨_, rfl, doneB _ _ _ _ m5 l3 (Nat.le_of_eq (beqT z).symm)⟩)) (fun z4 => ?_)
              have z4 : ¬ j2 + 1 + k' = b.size := beqF z4
              have f4 : j2 + 1 + k' < b.size := by omega
              have f5 : x + 1 ≤ i3 + (j2 + 1 + k') := by omega
              have f6 := gA f4
              generalize out3.push v ++ b.extract (j2 + 1) (j2 + 1 + k') = out4 at m5 ⊢
              generalize j2 + 1 + k' = j4 at m5 f4 f5 f6 ⊢
              rotate_left
              have k0 : k' = 0 := by omega
              subst k0
              have e0 : out3.push v ++ b.extract (j2 + 1) (j2 + 1 + 0) = out3.push v := by simp <;> omega
              rw [e0, Nat.add_zero] at m5
              have f4 : j2 + 1 < b.size := by omega
              have f5 : x + 1 ≤ i3 + (j2 + 1) := by omega
              have f6 := gA (by omega)
              rw [Nat.add_zero] at f6
              clear e0
              generalize out3.push v = out4 at m5 ⊢
              generalize j2 + 1 = j4 at m5 f4 f5 f6 ⊢
              rotate_left
              all_goals
                obtain ⟨v4, ev4, mv4⟩ := ib.at f4
                rw [R_at ev4] at f6
                have m6 := stepA out4 i3 j4 u3 v4 m5 eu3 ev4 f6
                refine wpS_bind (elem_of eu3 ?_)
                refine wIte (fun z => wpS_pure (.inl ⟨_, rfl, lastA _ _ _ _ m6 l3 (beqT z)⟩)) (fun z5 => ?_)
                have z5 : ¬ i3 + 1 + 1 = a.size := beqF z5
                refine wIte (fun _ => ?_) (fun _ => ?_)
                · exact wpS_pure (.inr ⟨out4.push u3, i3 + 1, j4, _, _, _, rfl, l3, m6, by omega, f4, by omega⟩)
                · exact wpS_pure ⟨out4.push u3, i3 + 1, j4, _, _, _, rfl, l3, m6, by omega, f4, by omega⟩
end
end TS
namespace TS
open PySem PyProof.Rows
def mHi : Array Keyed → Array Keyed → StateT SortSt Sem (Array Keyed) := sortPriv% PySem.Builtin.mergeHi
def Ge (rk : Keyed → Nat) (x y : Keyed) : Prop := rk y ≤ rk x
theorem srt_rev {rk : Keyed → Nat} {l : List Keyed} (h : Srt (Le rk) l) : Srt (Ge rk) l.reverse := List.pairwise_reverse.mpr h
theorem mg_rev {rk : Keyed → Nat} {a b r : List Keyed} (h : Mg (Ge rk) b.reverse a.reverse r.reverse) : Mg (Le rk) a b r := by
  obtain ⟨p, u⟩ := h
  refine ⟨?_, List.pairwise_reverse.mp u⟩
  have e : b.reverse ++ a.reverse = (a ++ b).reverse := by rw [List.reverse_append]
  rw [e] at p
  exact (List.reverse_perm r).symm.trans (p.trans (List.reverse_perm _))
theorem drop_rev {l : List Keyed} {n : Nat} (h : n ≤ l.length) : l.reverse.drop (l.length - n) = (l.take n).reverse := by
  rw [List.drop_reverse]; congr 2; omega
theorem get_rev {l : List Keyed} {n : Nat} {x : Keyed} (h1 : 1 ≤ n) (h : l[n - 1]? = some x) : l.reverse[l.length - n]? = some x := by
  have hl := (List.getElem?_eq_some_iff.mp h).1
  rw [List.getElem?_reverse (by omega), ← h]
  congr 1
  omega
theorem seg_rev {l : List Keyed} {m n : Nat} (h1 : m ≤ n) (h : n ≤ l.length) : (l.reverse.take (l.length - n + (n - m))).drop (l.length - n) = ((l.take n).drop m).reverse := by
  rw [List.drop_take, drop_rev h, Nat.add_sub_cancel_left, List.take_reverse, List.length_take]
  congr 2
  omega
theorem take_le {rk : Keyed → Nat} {l : List Keyed} {n : Nat} {x : Keyed} (s : Srt (Le rk) l) (h1 : 1 ≤ n) (h : l[n - 1]? = some x) : ∀ y ∈ l.take n, rk y ≤ rk x := fun y hy => by
  obtain ⟨hl, e⟩ := List.getElem?_eq_some_iff.mp h
  obtain ⟨i, hi⟩ := List.mem_iff_getElem?.mp hy
  have hil := (List.getElem?_eq_some_iff.mp hi).1
  rw [List.length_take] at hil
  rw [List.getElem?_take_of_lt (by omega), List.getElem?_eq_getElem (by omega)] at hi
  have ey := Option.some.inj hi
  rcases Nat.lt_or_eq_of_le (show i ≤ n - 1 by omega) with z | z
  · have := List.pairwise_iff_getElem.mp s i (n - 1) (by omega) hl z
    rw [ey, e] at this; exact this
  · subst z
    rw [← ey, e]; exact Nat.le_refl _
section
variable {prog : Program} {w : World} {A : Around} {E : Value → Shared → Prop} {s : Shared}
variable {rk : Keyed → Nat} {a0 : Array Keyed} {κ : SortKind}
def Mh (rk : Keyed → Nat) (a b out : Array Keyed) (na nb : Nat) : Prop := na ≤ a.size ∧ nb ≤ b.size ∧ Mi (Ge rk) b.toList.reverse a.toList.reverse out.toList (b.size - nb) (a.size - na)
theorem Mh.pushB {a b out : Array Keyed} {na nb : Nat} {x : Keyed} (h : Mh rk a b out na nb) (sb : Srt (Le rk) b.toList) (n1 : 1 ≤ nb) (hx : b[nb - 1]? = some x) (ha : ∀ y ∈ a.toList.take na, rk y ≤ rk x) : Mh rk a b (out.push x) na (nb - 1) := by
  obtain ⟨h1, h2, m⟩ := h
  refine ⟨h1, by omega, ?_⟩
  have lb : b.toList.length = b.size := Array.length_toList
  have la : a.toList.length = a.size := Array.length_toList
  rw [Array.toList_push, show b.size - (nb - 1) = b.size - nb + 1 by omega]
  refine m.pushA (fun _ => Nat.le_refl _) (srt_rev sb) ?_ fun y hy => ha y ?_
  · rw [← lb]; exact get_rev n1 (at_list hx)
  · rw [← la, drop_rev (by omega)] at hy; exact List.mem_reverse.mp hy
theorem Mh.pushA {a b out : Array Keyed} {na nb : Nat} {x : Keyed} (h : Mh rk a b out na nb) (sa : Srt (Le rk) a.toList) (n1 : 1 ≤ na) (hx : a[na - 1]? = some x) (hb : ∀ y ∈ b.toList.take nb, rk y ≤ rk x) : Mh rk a b (out.push x) (na - 1) nb := by
  obtain ⟨h1, h2, m⟩ := h
  refine ⟨by omega, h2, ?_⟩
  have lb : b.toList.length = b.size := Array.length_toList
  have la : a.toList.length = a.size := Array.length_toList
  rw [Array.toList_push, show a.size - (na - 1) = a.size - na + 1 by omega]
  refine m.pushB (fun _ => Nat.le_refl _) (srt_rev sa) ?_ fun y hy => hb y ?_
  · rw [← la]; exact get_rev n1 (at_list hx)
  · rw [← lb, drop_rev (by omega)] at hy; exact List.mem_reverse.mp hy
theorem Mh.manyA {a b out : Array Keyed} {na nb m : Nat} (h : Mh rk a b out na nb) (sa : Srt (Le rk) a.toList) (hm : m ≤ na) (hc : ∀ n x, m ≤ n → n < na → a[n]? = some x → ∀ y ∈ b.toList.take nb, rk y ≤ rk x) : Mh rk a b (out ++ (a.extract m na).reverse) m nb := by
  obtain ⟨h1, h2, mi⟩ := h
  refine ⟨by omega, h2, ?_⟩
  have lb : b.toList.length = b.size := Array.length_toList
  have la : a.toList.length = a.size := Array.length_toList
  have := mi.manyB (fun _ => Nat.le_refl _) (srt_rev sa) (na - m) (by rw [List.length_reverse]; omega) fun n x hn hx y hy => hc (na - 1 - n) x (by omega) (by omega) ?_ y ?_
  · rw [← la, seg_rev hm (by omega), ← ext_seg, la, show a.size - na + (na - m) = a.size - m by omega] at this
    rw [Array.toList_append, Array.toList_reverse]
    exact this
  · rw [List.getElem?_reverse (by omega)] at hx
    rw [← Array.getElem?_toList, ← hx]
    congr 1
    omega
  · rw [← lb, drop_rev (by omega)] at hy; exact List.mem_reverse.mp hy
theorem Mh.manyB {a b out : Array Keyed} {na nb m : Nat} (h : Mh rk a b out na nb) (sb : Srt (Le rk) b.toList) (hm : m ≤ nb) (hc : ∀ n x, m ≤ n → n < nb → b[n]? = some x → ∀ y ∈ a.toList.take na, rk y ≤ rk x) : Mh rk a b (out ++ (b.extract m nb).reverse) na m := by
  obtain ⟨h1, h2, mi⟩ := h
  refine ⟨h1, by omega, ?_⟩
  have lb : b.toList.length = b.size := Array.length_toList
  have la : a.toList.length = a.size := Array.length_toList
  have := mi.manyA (fun _ => Nat.le_refl _) (srt_rev sb) (nb - m) (by rw [List.length_reverse]; omega) fun n x hn hx y hy => hc (nb - 1 - n) x (by omega) (by omega) ?_ y ?_
  · rw [← lb, seg_rev hm (by omega), ← ext_seg, lb, show b.size - nb + (nb - m) = b.size - m by omega] at this
    rw [Array.toList_append, Array.toList_reverse]
    exact this
  · rw [List.getElem?_reverse (by omega)] at hx
    rw [← Array.getElem?_toList, ← hx]
    congr 1
    omega
  · rw [← la, drop_rev (by omega)] at hy; exact List.mem_reverse.mp hy
theorem ext_head (xs : Array Keyed) (j : Nat) : (xs.extract 0 j).toList = xs.toList.take j := by rw [ext_seg, List.drop_zero]
theorem Mh.done {a b out : Array Keyed} {na nb : Nat} (h : Mh rk a b out na nb) (sa : Srt (Le rk) a.toList) (sb : Srt (Le rk) b.toList) (z : na = 0 ∨ nb = 0) : Mg (Le rk) a.toList b.toList (a.extract 0 na ++ b.extract 0 nb ++ out.reverse).toList := by
  obtain ⟨h1, h2, m⟩ := h
  have lb : b.toList.length = b.size := Array.length_toList
  have la : a.toList.length = a.size := Array.length_toList
  refine mg_rev ?_
  have e : (a.extract 0 na ++ b.extract 0 nb ++ out.reverse).toList.reverse = out.toList ++ b.toList.reverse.drop (b.size - nb) ++ a.toList.reverse.drop (a.size - na) := by
    rw [Array.toList_append, Array.toList_append, Array.toList_reverse, ext_head, ext_head, List.reverse_append, List.reverse_append, List.reverse_reverse, ← la, ← lb, drop_rev (by omega), drop_rev (by omega), List.append_assoc]
  rw [e]
  rcases z with z | z
  · exact m.doneB (srt_rev sb) (by rw [List.length_reverse]; omega)
  · exact m.doneA (srt_rev sa) (by rw [List.length_reverse]; omega)
theorem Mh.first {a b out : Array Keyed} {na nb : Nat} (h : Mh rk a b out na nb) (sa : Srt (Le rk) a.toList) (sb : Srt (Le rk) b.toList) (lo : ∀ x ∈ a.toList.take na, ∀ y ∈ b.toList.take nb, rk y ≤ rk x) : Mg (Le rk) a.toList b.toList (b.extract 0 nb ++ a.extract 0 na ++ out.reverse).toList := by
  obtain ⟨h1, h2, m⟩ := h
  have lb : b.toList.length = b.size := Array.length_toList
  have la : a.toList.length = a.size := Array.length_toList
  refine mg_rev ?_
  have e : (b.extract 0 nb ++ a.extract 0 na ++ out.reverse).toList.reverse = out.toList ++ a.toList.reverse.drop (a.size - na) ++ b.toList.reverse.drop (b.size - nb) := by
    rw [Array.toList_append, Array.toList_append, Array.toList_reverse, ext_head, ext_head, List.reverse_append, List.reverse_append, List.reverse_reverse, ← la, ← lb, drop_rev (by omega), drop_rev (by omega), List.append_assoc]
  rw [e]
  refine m.last (srt_rev sb) (srt_rev sa) fun x hx y hy => ?_
  rw [← la, drop_rev (by omega)] at hx
  rw [← lb, drop_rev (by omega)] at hy
  exact lo x (List.mem_reverse.mp hx) y (List.mem_reverse.mp hy)
theorem mHi_of {st : SortSt} {a b : Array Keyed} (C : Cm prog w A s κ rk a0) (hk : kindOf st = κ) (ia : In0 a0 a) (ib : In0 a0 b) (a1 : 1 ≤ a.size) (b1 : 1 ≤ b.size) (sa : Srt (Le rk) a.toList) (sb : Srt (Le rk) b.toList)
    (first : ∀ x, b[0]? = some x → ∀ y ∈ a.toList, Le rk x y) (last : ∀ x ∈ b.toList, ∀ y, a[a.size - 1]? = some y → Le rk x y) : wpS (model prog w) A E s (mHi a b) (MQ rk a b st) st := by
  have la : a.toList.length = a.size := Array.length_toList
  have lb : b.toList.length = b.size := Array.length_toList
  have ua := up_of_srt sa
  have ub := up_of_srt sb
  refine wpS_bind (wpS_lift (wpAny_rule ⟨rfl, ?_⟩))
  obtain ⟨x0, ex0, mx0⟩ := ia.at (show a.size - 1 < a.size by omega)
  refine wpS_bind (elem_of ex0 ?_)
  have doneM : ∀ out na nb t, Mh rk a b out na nb → Like st t → na = 0 ∨ nb = 0 → MQ rk a b st (a.extract 0 na ++ b.extract 0 nb ++ Array.reverse out) t := fun out na nb t m l z => ⟨m.done sa sb z, l⟩
  have firstM : ∀ out na nb t, Mh rk a b out na nb → Like st t → nb = 1 → MQ rk a b st (b.extract 0 nb ++ a.extract 0 na ++ Array.reverse out) t := fun out na nb t m l z => by
    refine ⟨m.first sa sb fun x hx y hy => ?_, l⟩
    subst z
    obtain ⟨b0, eb0, mb0⟩ := ib.at (show 0 < b.size by omega)
    have := take_le sb (Nat.le_refl 1) (at_list eb0) y hy
    exact Nat.le_trans this (first b0 eb0 x (List.mem_of_mem_take hx))
  have stepA : ∀ out na nb x y, Mh rk a b out na nb → 1 ≤ na → 1 ≤ nb → a[na - 1]? = some x → b[nb - 1]? = some y → rk y ≤ rk x → Mh rk a b (out.push x) (na - 1) nb := fun out na nb x y m h1 h2 hx hy le =>
    m.pushA sa h1 hx fun z hz => Nat.le_trans (take_le sb h2 (at_list hy) z hz) le
  have stepB : ∀ out na nb x y, Mh rk a b out na nb → 1 ≤ na → 1 ≤ nb → a[na - 1]? = some x → b[nb - 1]? = some y → rk x ≤ rk y → Mh rk a b (out.push y) na (nb - 1) := fun out na nb x y m h1 h2 hx hy le =>
    m.pushB sb h2 hy fun z hz => Nat.le_trans (take_le sa h1 (at_list hx) z hz) le
  have m0 : Mh rk a b #[x0] (a.size - 1) b.size := by
    have n : Mh rk a b #[] a.size b.size := ⟨Nat.le_refl _, Nat.le_refl _, by rw [Nat.sub_self, Nat.sub_self]; exact ⟨List.Perm.refl _, List.Pairwise.nil, (fun x h => by cases h), (fun x h => by cases h)⟩⟩
    exact n.pushA sa a1 ex0 fun y hy => last y (List.mem_of_mem_take hy) x0 ex0
  refine wIte (fun z => wpS_pure (doneM _ _ _ _ m0 (Like.refl st) (.inl (beqT z)))) (fun z1 => ?_)
  have z1 : ¬ a.size - 1 = 0 := beqF z1
  refine wIte (fun z => wpS_pure (firstM _ _ _ _ m0 (Like.refl st) (beqT z))) (fun z2 => ?_)
  have z2 : ¬ b.size = 1 := beqF z2
  refine wpS_bind (wpS_get ?_)
  refine wpS_bind (wpS_mono (wpS_forRange (I := fun x c t => ∃ na nb out g, c = (none, na, nb, out, g) ∧ Mh rk a b out na nb ∧ 1 ≤ na ∧ 2 ≤ nb ∧ x + na + nb ≤ a.size + b.size ∧ Like st t)
    (Q := fun c t => ∃ r, c.1 = some r ∧ MQ rk a b st r t) ?step ?fin ⟨_, _, _, _, rfl, m0, by omega, by omega, by omega, Like.refl st⟩) ?post)
  case post =>
    rintro c t ⟨r, hr, q⟩
    obtain ⟨c1, c2⟩ := c
    cases hr
    exact wpS_pure q
  case fin =>
    rintro c t ⟨na, nb, out, g, rfl, m, h1, h2, h3, l⟩
    omega
  case step =>
    rintro x c t _ xn ⟨na, nb, out, g, rfl, m, h1, h2, h3, l⟩
    refine wpS_bind (wpS_mono (wpS_forRange (I := fun y c t' => ∃ na' nb' out' p q, c = (none, na', nb', out', p, q) ∧ t' = t ∧ Mh rk a b out' na' nb' ∧ 1 ≤ na' ∧ 2 ≤ nb' ∧ na' + nb' + y = na + nb)
      (Q := fun c t' => (∃ r, c.1 = some r ∧ MQ rk a b st r t') ∨ (∃ na' nb' out' p q, c = (none, na', nb', out', p, q) ∧ t' = t ∧ Mh rk a b out' na' nb' ∧ 1 ≤ na' ∧ 2 ≤ nb' ∧ x + 1 + na' + nb' ≤ a.size + b.size)) ?step2 ?fin2 ⟨_, _, _, _, _, rfl, rfl, m, h1, h2, rfl⟩) ?post2)
    case fin2 =>
      rintro c t' ⟨na', nb', out', p, q, rfl, rfl, m', k1, k2, k3⟩
      omega
    case step2 =>
      rintro y c t' _ yn ⟨na', nb', out', p, q, rfl, rfl, m', k1, k2, k3⟩
      obtain ⟨u, eu, mu⟩ := ia.at (show na' - 1 < a.size by have := m'.1; omega)
      obtain ⟨v, ev, mv⟩ := ib.at (show nb' - 1 < b.size by have := m'.2.1; omega)
      refine wpS_bind (elem_of ev (wpS_bind (elem_of eu (wpS_bind (lt_of C (l.kind.trans hk) mv mu ?_)))))
      by_cases d : rk v < rk u
      · rw [decide_eq_true d]
        refine wIte (fun _ => ?_) (fun h => absurd rfl h)
        have m2 := stepA out' na' nb' u v m' k1 (by omega) eu ev (Nat.le_of_lt d)
        refine wpS_bind (elem_of eu ?_)
        refine wIte (fun z => wpS_pure (.inl ⟨_, rfl, doneM _ _ _ _ m2 l (.inl (beqT z))⟩)) (fun z => ?_)
        have z : ¬ na' - 1 = 0 := beqF z
        refine wIte (fun _ => ?_) (fun _ => ?_)
        · exact wpS_pure (.inr ⟨na' - 1, nb', out'.push u, _, _, rfl, rfl, m2, by omega, k2, by omega⟩)
        · exact wpS_pure ⟨na' - 1, nb', out'.push u, _, _, rfl, rfl, m2, by omega, k2, by omega⟩
      · rw [decide_eq_false d]
        refine wIte (fun h => absurd h (by decide)) (fun _ => ?_)
        have m2 := stepB out' na' nb' u v m' k1 (by omega) eu ev (by omega)
        refine wpS_bind (elem_of ev ?_)
        refine wIte (fun z => wpS_pure (.inl ⟨_, rfl, firstM _ _ _ _ m2 l (beqT z)⟩)) (fun z => ?_)
        have z : ¬ nb' - 1 = 1 := beqF z
        refine wIte (fun _ => ?_) (fun _ => ?_)
        · exact wpS_pure (.inr ⟨na', nb' - 1, out'.push v, _, _, rfl, rfl, m2, k1, by omega, by omega⟩)
        · exact wpS_pure ⟨na', nb' - 1, out'.push v, _, _, rfl, rfl, m2, k1, by omega, by omega⟩
    case post2 =>
      rintro c t' (⟨r, hr, q⟩ | ⟨na', nb', out', p, q, rfl, rfl, m', k1, k2, k3⟩)
      · obtain ⟨c1, c2⟩ := c
        cases hr
        exact wpS_pure ⟨r, rfl, q⟩
      · refine wpS_bind (wpS_lift (wpAny_rule ⟨rfl, ?_⟩))
        refine wpS_bind (wpS_mono (wpS_forRange (I := fun y c t2 => ∃ na2 nb2 out2 g2 p q, c = (none, na2, nb2, out2, g2, p, q) ∧ Like st t2 ∧ Mh rk a b out2 na2 nb2 ∧ 1 ≤ na2 ∧ 2 ≤ nb2 ∧ x + 1 + na2 + nb2 ≤ a.size + b.size)
          (Q := fun c t2 => (∃ r, c.1 = some r ∧ MQ rk a b st r t2) ∨ (∃ na2 nb2 out2 g2 p q, c = (none, na2, nb2, out2, g2, p, q) ∧ Like st t2 ∧ Mh rk a b out2 na2 nb2 ∧ 1 ≤ na2 ∧ 2 ≤ nb2 ∧ x + 1 + na2 + nb2 ≤ a.size + b.size)) ?step3 ?fin3 ⟨_, _, _, _, _, _, rfl, l, m', k1, k2, k3⟩) ?post3)
        case fin3 =>
          rintro c t2 h
          exact .inr h
        case post3 =>
          rintro c t2 (⟨r, hr, q⟩ | ⟨na2, nb2, out2, g2, p, q, rfl, l2, m2, n1, n2, n3⟩)
          · obtain ⟨c1, c2⟩ := c
            cases hr
            exact wpS_pure ⟨r, rfl, q⟩
          · refine wpS_bind (setL l2 fun t3 l3 => ?_)
            exact wpS_pure ⟨_, _, _, _, rfl, m2, n1, n2, n3, l3⟩
        case step3 =>
          rintro y c t2 _ yn ⟨na2, nb2, out2, g2, p, q, rfl, l2, m2, n1, n2, n3⟩
          have q1 := m2.1
          have q2 := m2.2.1
          obtain ⟨v, ev, mv⟩ := ib.at (show nb2 - 1 < b.size by omega)
          refine wIte (fun _ => ?_) (fun _ => ?_)
          all_goals
            refine wpS_bind (setL l2 fun t3 l3 => ?_)
            refine wpS_bind (elem_of ev ?_)
            refine wpS_bind (gal_of (base := 0) (n := na2) (hint := na2 - 1) C (l3.kind.trans hk) ia mv (by omega) (by omega) (fun x y h1 h2 h3 => ua x y (by omega) h2 (by omega)) fun k kn ka kb => ?_)
            have m3 : Mh rk a b (out2 ++ (a.extract k na2).reverse) k nb2 := m2.manyA sa kn fun n x h1 h2 hx z hz => by
              have h := kb n h1 h2
              unfold bey at h
              rw [if_neg (by decide), Nat.zero_add, R_at hx] at h
              have hle : rk v < rk x := by simpa using h
              exact Nat.le_trans (take_le sb (by omega) (at_list ev) z hz) (Nat.le_of_lt hle)
            have gA : 1 ≤ k → R rk a (k - 1) ≤ rk v := fun h => by
              have h := ka (k - 1) (by omega)
              unfold bey at h
              rw [if_neg (by decide), Nat.zero_add] at h
              simpa using h
            refine wIte (fun kz => ?_) (fun kz => ?_)
            have kz : na2 - k > 0 := kz
            refine wIte (fun z => wpS_pure (.inl ⟨_, rfl, doneM _ _ _ _ m3 l3 (.inl (beqT z))⟩)) (fun z1 => ?_)
            have z1 : ¬ k = 0 := beqF z1
            have f1 : 1 ≤ k := by omega
            have f2 : x + 1 + k + nb2 ≤ a.size + b.size := by omega
            have f3 := gA f1
            generalize out2 ++ (a.extract k na2).reverse = out3 at m3 ⊢
            rotate_left
            have kz : ¬ na2 - k > 0 := kz
            have k0 : k = na2 := by omega
            have e0 : out2 ++ (a.extract k na2).reverse = out2 := by rw [k0]; simp <;> omega
            rw [e0] at m3
            have f1 : 1 ≤ k := by omega
            have f2 : x + 1 + k + nb2 ≤ a.size + b.size := by omega
            have f3 := gA f1
            clear e0
            subst k0
            generalize out2 = out3 at m3 ⊢
            rotate_left
            all_goals
              obtain ⟨u3, eu3, mu3⟩ := ia.at (show k - 1 < a.size by omega)
              rw [R_at eu3] at f3
              refine wpS_bind (elem_of ev ?_)
              have m4 := stepB out3 k nb2 u3 v m3 f1 (by omega) eu3 ev f3
              refine wIte (fun z => wpS_pure (.inl ⟨_, rfl, firstM _ _ _ _ m4 l3 (beqT z)⟩)) (fun z3 => ?_)
              have z3 : ¬ nb2 - 1 = 1 := beqF z3
              refine wpS_bind (elem_of eu3 ?_)
              refine wpS_bind (gal_of (base := 0) (n := nb2 - 1) (hint := nb2 - 1 - 1) C (l3.kind.trans hk) ib mu3 (by omega) (by omega) (fun x y h1 h2 h3 => ub x y (by omega) h2 (by omega)) fun k' kn' ka' kb' => ?_)
              have m5 : Mh rk a b (out3.push v ++ (b.extract k' (nb2 - 1)).reverse) k k' := m4.manyB sb kn' fun n x h1 h2 hx z hz => by
                have h := kb' n h1 h2
                unfold bey at h
                rw [if_pos rfl, Nat.zero_add, R_at hx] at h
                have hle : rk u3 ≤ rk x := by simpa using h
                exact Nat.le_trans (take_le sa f1 (at_list eu3) z hz) hle
              have gB : 1 ≤ k' → R rk b (k' - 1) < rk u3 := fun h => by
                have h := ka' (k' - 1) (by omega)
                unfold bey at h
                rw [if_pos rfl, Nat.zero_add] at h
                simpa using h
              refine wIte (fun kz' => ?_) (fun kz' => ?_)
              have kz' : nb2 - 1 - k' > 0 := kz'
              refine wIte (fun z => wpS_pure (.inl ⟨_, rfl, firstM _ _ _ _ m5 l3 (beqT z)⟩)) (fun z4 => ?_)
              have z4 : ¬ k' = 1 := beqF z4
              refine wIte (fun z => wpS_pure (.inl ⟨_, rfl, doneM _ _ _ _ m5 l3 (.inr (beqT z))⟩)) (fun z5 => ?_)
              have z5 : ¬ k' = 0 := beqF z5
              have f4 : 2 ≤ k' := by omega
              have f5 : x + 1 + k + k' ≤ a.size + b.size := by omega
              have f6 := gB (by omega)
              generalize out3.push v ++ (b.extract k' (nb2 - 1)).reverse = out4 at m5 ⊢
              rotate_left
              have kz' : ¬ nb2 - 1 - k' > 0 := kz'
              have k0' : k' = nb2 - 1 := by omega
              have e0 : out3.push v ++ (b.extract k' (nb2 - 1)).reverse = out3.push v := by rw [k0']; simp <;> omega
              rw [e0] at m5
              have f4 : 2 ≤ k' := by omega
              have f5 : x + 1 + k + k' ≤ a.size + b.size := by omega
              have f6 := gB (by omega)
              clear e0
              generalize out3.push v = out4 at m5 ⊢
              rotate_left
              all_goals
                have q3 := m5.2.1
                obtain ⟨v4, ev4, mv4⟩ := ib.at (show k' - 1 < b.size by omega)
                rw [R_at ev4] at f6
                have m6 := stepA out4 k k' u3 v4 m5 f1 (by omega) eu3 ev4 (Nat.le_of_lt f6)
                refine wpS_bind (elem_of eu3 ?_)
                first
                  | refine wIte (fun z => wpS_pure (.inl ⟨_, rfl, doneM _ _ _ _ m6 l3 (.inl (beqT z))⟩)) (fun z6 => ?_)
                  | (rw [k0'] at m6; refine wIte (fun z => wpS_pure (.inl ⟨_, rfl, doneM _ _ _ _ m6 l3 (.inl (beqT z))⟩)) (fun z6 => ?_))
                have z6 : ¬ k - 1 = 0 := beqF z6
                refine wIte (fun _ => ?_) (fun _ => ?_)
                · first
                    | exact wpS_pure (.inr ⟨k - 1, k', out4.push u3, _, _, _, rfl, l3, m6, by omega, f4, by omega⟩)
                    | exact wpS_pure (.inr ⟨k - 1, nb2 - 1, out4.push u3, _, _, _, rfl, l3, m6, by omega, by omega, by omega⟩)
                · first
                    | exact wpS_pure ⟨k - 1, k', out4.push u3, _, _, _, rfl, l3, m6, by omega, f4, by omega⟩
                    | exact wpS_pure ⟨k - 1, nb2 - 1, out4.push u3, _, _, _, rfl, l3, m6, by omega, by omega, by omega⟩
end
end TS
namespace TS
open PySem PyProof.Rows
section
variable {rk : Keyed → Nat}
def seg (xs : Array Keyed) (lo hi : Nat) : List Keyed := (xs.toList.take hi).drop lo
theorem seg_len {xs : Array Keyed} {lo hi : Nat} (h : hi ≤ xs.size) : (seg xs lo hi).length = hi - lo := by unfold seg; rw [List.length_drop, List.length_take]; simp; omega
theorem seg_get {xs : Array Keyed} {lo hi i : Nat} (hi' : lo + i < hi) : (seg xs lo hi)[i]? = xs[lo + i]? := by
  unfold seg
  rw [List.getElem?_drop, List.getElem?_take_of_lt hi', Array.getElem?_toList]
theorem srt_seg {xs : Array Keyed} {lo hi : Nat} (u : Up rk xs lo hi) (h : hi ≤ xs.size) : Srt (Le rk) (seg xs lo hi) := by
  refine List.pairwise_iff_getElem.mpr fun i j h1 h2 hij => ?_
  have l := seg_len (lo := lo) h
  have e1 : (seg xs lo hi)[i]? = some (seg xs lo hi)[i] := List.getElem?_eq_getElem h1
  have e2 : (seg xs lo hi)[j]? = some (seg xs lo hi)[j] := List.getElem?_eq_getElem h2
  rw [seg_get (by omega)] at e1 e2
  have := u (lo + i) (lo + j) (by omega) (by omega) (by omega)
  rw [R_at e1, R_at e2] at this
  exact this
theorem up_seg {xs : Array Keyed} {lo hi : Nat} (s : Srt (Le rk) (seg xs lo hi)) (h : hi ≤ xs.size) : Up rk xs lo hi := fun i j h1 h2 h3 => by
  have l := seg_len (lo := lo) h
  rcases Nat.lt_or_eq_of_le h2 with z | z
  · have := List.pairwise_iff_getElem.mp s (i - lo) (j - lo) (by omega) (by omega) (by omega)
    have e1 : (seg xs lo hi)[i - lo]? = some (seg xs lo hi)[i - lo] := List.getElem?_eq_getElem (by omega)
    have e2 : (seg xs lo hi)[j - lo]? = some (seg xs lo hi)[j - lo] := List.getElem?_eq_getElem (by omega)
    rw [seg_get (by omega), show lo + (i - lo) = i by omega] at e1
    rw [seg_get (by omega), show lo + (j - lo) = j by omega] at e2
    rw [R_at e1, R_at e2]
    exact this
  · rw [z]; exact Nat.le_refl _
theorem seg_mem {xs : Array Keyed} {lo hi : Nat} {x : Keyed} (h : hi ≤ xs.size) (hx : x ∈ seg xs lo hi) : ∃ i, lo ≤ i ∧ i < hi ∧ xs[i]? = some x := by
  obtain ⟨i, hi'⟩ := List.mem_iff_getElem?.mp hx
  have l := seg_len (lo := lo) h
  have := (List.getElem?_eq_some_iff.mp hi').1
  exact ⟨lo + i, by omega, by omega, by rw [← seg_get (hi := hi) (by omega)]; exact hi'⟩
theorem seg_app {xs : Array Keyed} {a b c : Nat} (h1 : a ≤ b) (h2 : b ≤ c) (h : c ≤ xs.size) : seg xs a b ++ seg xs b c = seg xs a c := by
  refine List.ext_getElem? fun i => ?_
  by_cases z : i < b - a
  · rw [List.getElem?_append_left (by rw [seg_len (by omega)]; omega), seg_get (by omega), seg_get (by omega)]
  · rw [List.getElem?_append_right (by rw [seg_len (by omega)]; omega), seg_len (by omega)]
    by_cases y : i < c - a
    · rw [seg_get (by omega), seg_get (by omega)]; congr 1; omega
    · rw [List.getElem?_eq_none (by rw [seg_len h]; omega), List.getElem?_eq_none (by rw [seg_len h]; omega)]
theorem seg_all (xs : Array Keyed) : seg xs 0 xs.size = xs.toList := by
  unfold seg; rw [List.drop_zero, List.take_of_length_le (by simp)]
def wr (p : Nat) (l : List (Keyed × Nat)) (xs : Array Keyed) : Array Keyed := l.foldl (fun a q => a.setIfInBounds (p + q.2) q.1) xs
theorem wr_size (p : Nat) : ∀ (l : List (Keyed × Nat)) (xs : Array Keyed), (wr p l xs).size = xs.size
  | [], xs => rfl
  | q :: l, xs => (wr_size p l _).trans (by simp)
theorem wr_get (p : Nat) : ∀ (m : List Keyed) (n : Nat) (xs : Array Keyed), p + n + m.length ≤ xs.size → ∀ k, (wr p (m.zipIdx n) xs)[k]? = if p + n ≤ k ∧ k < p + n + m.length then m[k - (p + n)]? else xs[k]?
  | [], n, xs, _, k => by
    show xs[k]? = _
    rw [if_neg (by simp)]
  | x :: m, n, xs, h, k => by
    rw [List.length_cons] at h ⊢
    show (wr p (m.zipIdx (n + 1)) (xs.setIfInBounds (p + n) x))[k]? = _
    rw [wr_get p m (n + 1) _ (by rw [Array.size_setIfInBounds]; omega) k, Array.getElem?_setIfInBounds]
    by_cases z : k = p + n
    · subst z
      rw [if_neg (by omega), if_pos rfl, if_pos (by omega), if_pos (by omega), Nat.sub_self]
      rfl
    · by_cases y : p + n ≤ k ∧ k < p + n + (m.length + 1)
      · rw [if_pos (by omega), if_pos y, show k - (p + n) = k - (p + (n + 1)) + 1 by omega]
        rfl
      · rw [if_neg (by omega), if_neg (by omega), if_neg y]
theorem wr_seg {m : List Keyed} {p : Nat} {xs : Array Keyed} (h : p + m.length ≤ xs.size) : seg (wr p m.zipIdx xs) p (p + m.length) = m := by
  refine List.ext_getElem? fun i => ?_
  by_cases z : i < m.length
  · rw [seg_get (by omega), wr_get p m 0 xs h, if_pos (by omega)]
    congr 1; omega
  · rw [List.getElem?_eq_none (by rw [seg_len (by rw [wr_size]; omega)]; omega), List.getElem?_eq_none (by omega)]
theorem wr_kept {m : List Keyed} {p : Nat} {xs : Array Keyed} (h : p + m.length ≤ xs.size) : Kept xs (wr p m.zipIdx xs) p (p + m.length) := fun k hk => by
  rw [wr_get p m 0 xs h, if_neg (by omega)]
theorem seg_kept {xs ys : Array Keyed} {lo hi a b : Nat} (hz : ys.size = xs.size) (k : Kept xs ys lo hi) (h : b ≤ lo ∨ hi ≤ a) (hb : b ≤ xs.size) : seg ys a b = seg xs a b := by
  refine List.ext_getElem? fun i => ?_
  by_cases z : a + i < b
  · rw [seg_get z, seg_get z]; exact k _ (by omega)
  · rw [List.getElem?_eq_none (by rw [seg_len (by omega)]; omega), List.getElem?_eq_none (by rw [seg_len hb]; omega)]
theorem wr_perm {m : List Keyed} {p : Nat} {xs : Array Keyed} (h : p + m.length ≤ xs.size) (pm : m.Perm (seg xs p (p + m.length))) : (wr p m.zipIdx xs).Perm xs := by
  rw [Array.perm_iff_toList_perm, ← seg_all xs, ← seg_all (wr p m.zipIdx xs), wr_size]
  have hk := wr_kept h
  have hs := wr_size p m.zipIdx xs
  rw [← seg_app (Nat.zero_le p) (show p ≤ xs.size by omega) (Nat.le_refl _), ← seg_app (show p ≤ p + m.length by omega) (show p + m.length ≤ xs.size by omega) (Nat.le_refl _)]
  rw [← seg_app (xs := wr p m.zipIdx xs) (Nat.zero_le p) (show p ≤ xs.size by omega) (by omega), ← seg_app (xs := wr p m.zipIdx xs) (show p ≤ p + m.length by omega) (show p + m.length ≤ xs.size by omega) (by omega)]
  rw [seg_kept hs hk (.inl (Nat.le_refl _)) (by omega), seg_kept hs hk (.inr (Nat.le_refl _)) (Nat.le_refl _), wr_seg h]
  exact List.Perm.append_left _ (pm.append_right _)
end
end TS
namespace TS
open PySem PyProof.Rows
section
variable {prog : Program} {w : World} {A : Around} {E : Value → Shared → Prop} {s : Shared}
variable {rk : Keyed → Nat} {a0 : Array Keyed} {κ : SortKind}
theorem in0_seg {st : SortSt} (B : Bs a0 κ st) (lo hi : Nat) : In0 a0 ((arrOf st).extract lo hi) := fun x hx => by
  rw [ext_seg] at hx
  exact (Array.perm_iff_toList_perm.mp B.perm).mem_iff.mp (List.mem_of_mem_take (List.mem_of_mem_drop hx))
theorem in0_all {st : SortSt} (B : Bs a0 κ st) : In0 a0 (arrOf st) := fun x hx => (Array.perm_iff_toList_perm.mp B.perm).mem_iff.mp hx
theorem ext_get {xs : Array Keyed} {lo hi i : Nat} (h : lo + i < hi) : (xs.extract lo hi)[i]? = xs[lo + i]? := by
  rw [← Array.getElem?_toList, ext_seg]; exact seg_get h
theorem mAt_of {st : SortSt} {i sa na nb pw pw2 : Nat} {Q : Bool → SortSt → Prop} (C : Cm prog w A s κ rk a0) (B : Bs a0 κ st) (e1 : (pendingOf st)[i]? = some (sa, na, pw)) (e2 : (pendingOf st)[i + 1]? = some (sa + na, nb, pw2)) (n1 : 1 ≤ na) (n2 : 1 ≤ nb)
    (hz : sa + na + nb ≤ a0.size) (u1 : Up rk (arrOf st) sa (sa + na)) (u2 : Up rk (arrOf st) (sa + na) (sa + na + nb))
    (h : ∀ t, Bs a0 κ t → Up rk (arrOf t) sa (sa + na + nb) → Kept (arrOf st) (arrOf t) sa (sa + na + nb) → pendingOf t = ((pendingOf st).setIfInBounds i (sa, na + nb, pw)).eraseIdxIfInBounds (i + 1) → Q true t) :
    wpS (model prog w) A E s (mergeAt' i) Q st := by
  have hs := B.size
  refine wpS_bind (wpS_get ?_)
  rw [show (sortPriv% PySem.Builtin.SortState.pending) st = pendingOf st from rfl, e1, e2]
  refine wpS_bind (wpS_modify (f := fun _ => setPending st (((pendingOf st).setIfInBounds i (sa, na + nb, pw)).eraseIdxIfInBounds (i + 1))) ?_)
  obtain ⟨pd, hpd⟩ : ∃ pd, pd = ((pendingOf st).setIfInBounds i (sa, na + nb, pw)).eraseIdxIfInBounds (i + 1) := ⟨_, rfl⟩
  rw [← hpd] at h ⊢
  have B1 : Bs a0 κ (setPending st pd) := ⟨B.perm, B.kind, B.ok⟩
  obtain ⟨xs, hxs⟩ : ∃ xs, xs = arrOf st := ⟨_, rfl⟩
  have In := in0_all B
  have ext0 := fun lo hi => in0_seg B lo hi
  rw [← hxs] at hs u1 u2 h In ext0
  have hxz : sa + na + nb ≤ xs.size := by omega
  obtain ⟨key, ek, mk⟩ := In.at (show sa + na < xs.size by omega)
  have ek' : (arrOf st)[sa + na]? = some key := by rw [← hxs]; exact ek
  refine wpS_bind (elem_of ek' ?_)
  refine wpS_bind (gal_of (left := false) (arr := arrOf st) (base := sa) (n := na) (hint := 0) C B1.kind (in0_all B) mk (by rw [← hxs]; omega) (by omega) (by rw [← hxs]; exact u1) fun k kn ka kb => ?_)
  have ka1 : ∀ i, sa ≤ i → i < sa + k → R rk xs i ≤ rk key := fun i h1 h2 => by
    have := ka (i - sa) (by omega)
    unfold bey at this
    rw [if_neg (by decide), ← hxs, show sa + (i - sa) = i by omega] at this
    simpa using this
  have kb1 : ∀ i, sa + k ≤ i → i < sa + na → rk key < R rk xs i := fun i h1 h2 => by
    have := kb (i - sa) (by omega) (by omega)
    unfold bey at this
    rw [if_neg (by decide), ← hxs, show sa + (i - sa) = i by omega] at this
    simpa using this
  have rkey : R rk xs (sa + na) = rk key := R_at ek
  have joined : (∀ i, sa ≤ i → i < sa + na → ∀ j, sa + na ≤ j → j < sa + na + nb → R rk xs i ≤ R rk xs j) → Up rk xs sa (sa + na + nb) := fun g i j h1 h2 h3 => by
    by_cases y : j < sa + na
    · exact u1 i j h1 h2 y
    · by_cases z : i < sa + na
      · exact g i h1 z j (by omega) h3
      · exact u2 i j (by omega) h2 h3
  refine wIte (fun z => ?_) (fun z => ?_)
  · have z : na - k = 0 := beqT z
    refine wpS_pure (h _ B1 ?_ (by rw [hxs]; exact Kept.refl _ _ _) rfl)
    show Up rk (arrOf st) _ _
    rw [← hxs]
    refine joined fun i h1 h2 j h3 h4 => ?_
    have a1 := ka1 i h1 (by omega)
    have a2 := u2 (sa + na) j (Nat.le_refl _) h3 h4
    omega
  have z : ¬ na - k = 0 := beqF z
  have ep : sa + k + (na - k) - 1 = sa + na - 1 := by omega
  obtain ⟨key2, ek2, mk2⟩ := In.at (show sa + na - 1 < xs.size by omega)
  have ek2' : (arrOf st)[sa + k + (na - k) - 1]? = some key2 := by rw [ep, ← hxs]; exact ek2
  have rkey2 : R rk xs (sa + na - 1) = rk key2 := R_at ek2
  refine wpS_bind (elem_of ek2' ?_)
  refine wpS_bind (gal_of (left := true) (arr := arrOf st) (base := sa + na) (n := nb) (hint := nb - 1) C B1.kind (in0_all B) mk2 (by rw [← hxs]; omega) (by omega) (by rw [← hxs]; exact u2) fun k' kn' ka' kb' => ?_)
  have ka2 : ∀ i, sa + na ≤ i → i < sa + na + k' → R rk xs i < rk key2 := fun i h1 h2 => by
    have := ka' (i - (sa + na)) (by omega)
    unfold bey at this
    rw [if_pos rfl, ← hxs, show sa + na + (i - (sa + na)) = i by omega] at this
    simpa using this
  have kb2 : ∀ i, sa + na + k' ≤ i → i < sa + na + nb → rk key2 ≤ R rk xs i := fun i h1 h2 => by
    have := kb' (i - (sa + na)) (by omega) (by omega)
    unfold bey at this
    rw [if_pos rfl, ← hxs, show sa + na + (i - (sa + na)) = i by omega] at this
    simpa using this
  refine wIte (fun z' => ?_) (fun z' => ?_)
  · have z' : k' = 0 := beqT z'
    refine wpS_pure (h _ B1 ?_ (by rw [hxs]; exact Kept.refl _ _ _) rfl)
    show Up rk (arrOf st) _ _
    rw [← hxs]
    refine joined fun i h1 h2 j h3 h4 => ?_
    have a1 := kb2 j (by omega) h4
    have a2 := u1 i (sa + na - 1) h1 (by omega) (by omega)
    omega
  have z' : ¬ k' = 0 := beqF z'
  have xl : (xs.extract (sa + k) (sa + na)).toList = seg xs (sa + k) (sa + na) := ext_seg _ _ _
  have yl : (xs.extract (sa + na) (sa + na + k')).toList = seg xs (sa + na) (sa + na + k') := ext_seg _ _ _
  have xz : (xs.extract (sa + k) (sa + na)).size = na - k := by rw [Array.size_extract]; omega
  have yz : (xs.extract (sa + na) (sa + na + k')).size = k' := by rw [Array.size_extract]; omega
  have sx : Srt (Le rk) (xs.extract (sa + k) (sa + na)).toList := by rw [xl]; exact srt_seg (fun i j h1 h2 h3 => u1 i j (by omega) h2 h3) (by omega)
  have sy : Srt (Le rk) (xs.extract (sa + na) (sa + na + k')).toList := by rw [yl]; exact srt_seg (fun i j h1 h2 h3 => u2 i j h1 h2 (by omega)) (by omega)
  have fx : ∀ x, (xs.extract (sa + na) (sa + na + k'))[0]? = some x → ∀ y ∈ (xs.extract (sa + k) (sa + na)).toList, Le rk x y := fun x hx y hy => by
    rw [ext_get (by omega), Nat.add_zero, ek] at hx
    rw [xl] at hy
    obtain ⟨i, h1, h2, h3⟩ := seg_mem (by omega) hy
    have := kb1 i h1 h2
    rw [R_at h3] at this
    rw [← Option.some.inj hx]
    exact Nat.le_of_lt this
  have ly : ∀ x ∈ (xs.extract (sa + na) (sa + na + k')).toList, ∀ y, (xs.extract (sa + k) (sa + na))[(xs.extract (sa + k) (sa + na)).size - 1]? = some y → Le rk x y := fun x hx y hy => by
    rw [xz, ext_get (by omega), show sa + k + (na - k - 1) = sa + na - 1 by omega, ek2] at hy
    rw [yl] at hx
    obtain ⟨i, h1, h2, h3⟩ := seg_mem (by omega) hx
    have := ka2 i h1 h2
    rw [R_at h3] at this
    rw [← Option.some.inj hy]
    exact Nat.le_of_lt this
  have fin : ∀ m t, MQ rk (xs.extract (sa + k) (sa + na)) (xs.extract (sa + na) (sa + na + k')) (setPending st pd) m t → Q true (setArr t (wr (sa + k) m.toList.zipIdx (arrOf t))) ∧ failedOf t = none := by
    rintro m t ⟨⟨pm, sm⟩, l⟩
    have lm : m.toList.length = na - k + k' := by rw [pm.length_eq, List.length_append, Array.length_toList, Array.length_toList, xz, yz]
    have ea : arrOf t = xs := by rw [l.arr, hxs]
    have hle : sa + k + m.toList.length ≤ xs.size := by omega
    have esg : seg xs (sa + k) (sa + k + m.toList.length) = seg xs (sa + k) (sa + na) ++ seg xs (sa + na) (sa + na + k') := by
      rw [seg_app (by omega) (by omega) (by omega)]; congr 1; omega
    have pm' : m.toList.Perm (seg xs (sa + k) (sa + k + m.toList.length)) := by rw [esg, ← xl, ← yl]; exact pm
    have kw := wr_kept hle
    have zw := wr_size (sa + k) m.toList.zipIdx xs
    refine ⟨h _ ⟨?_, l.kind.trans B1.kind, l.ok.trans B1.ok⟩ ?_ ?_ l.pend, l.ok.trans B1.ok⟩
    · show (wr (sa + k) m.toList.zipIdx (arrOf t)).Perm a0
      rw [ea]
      refine (wr_perm hle pm').trans ?_
      rw [hxs]; exact B.perm
    · show Up rk (wr (sa + k) m.toList.zipIdx (arrOf t)) sa (sa + na + nb)
      rw [ea]
      refine up_seg ?_ (by omega)
      rw [← seg_app (show sa ≤ sa + k by omega) (show sa + k ≤ sa + na + nb by omega) (by omega), ← seg_app (show sa + k ≤ sa + k + m.toList.length by omega) (show sa + k + m.toList.length ≤ sa + na + nb by omega) (by omega), wr_seg hle,
        seg_kept zw kw (.inl (Nat.le_refl _)) (by omega), seg_kept zw kw (.inr (Nat.le_refl _)) (by omega)]
      have mm : ∀ x ∈ m.toList, (∃ i, sa + k ≤ i ∧ i < sa + na ∧ xs[i]? = some x) ∨ (∃ i, sa + na ≤ i ∧ i < sa + na + k' ∧ xs[i]? = some x) := fun x hx => by
        have := pm.mem_iff.mp hx
        rw [xl, yl] at this
        rcases List.mem_append.mp this with e | e
        · exact .inl (seg_mem (by omega) e)
        · exact .inr (seg_mem (by omega) e)
      refine srt_app.mpr ⟨srt_seg (fun i j h1 h2 h3 => u1 i j h1 h2 (by omega)) (by omega), srt_app.mpr ⟨sm, srt_seg (fun i j h1 h2 h3 => u2 i j (by omega) h2 h3) (by omega), fun x hx y hy => ?_⟩, fun x hx y hy => ?_⟩
      · obtain ⟨j, j1, j2, j3⟩ := seg_mem (by omega) hy
        have b2 := kb2 j (by omega) j2
        rw [R_at j3] at b2
        rcases mm x hx with ⟨i, i1, i2, i3⟩ | ⟨i, i1, i2, i3⟩
        · have b1 := u1 i (sa + na - 1) (by omega) (by omega) (by omega)
          rw [R_at i3, rkey2] at b1
          exact Nat.le_trans b1 b2
        · have b1 := ka2 i i1 i2
          rw [R_at i3] at b1
          show rk x ≤ rk y
          omega
      · obtain ⟨i, i1, i2, i3⟩ := seg_mem (by omega) hx
        have b1 := ka1 i i1 i2
        rw [R_at i3] at b1
        show rk x ≤ rk y
        rcases List.mem_append.mp hy with e | e
        · rcases mm y e with ⟨j, j1, j2, j3⟩ | ⟨j, j1, j2, j3⟩
          · have b2 := kb1 j j1 j2
            rw [R_at j3] at b2
            omega
          · have b2 := u2 (sa + na) j (Nat.le_refl _) j1 (by omega)
            rw [R_at j3, rkey] at b2
            omega
        · obtain ⟨j, j1, j2, j3⟩ := seg_mem (by omega) e
          have b2 := u2 (sa + na) j (Nat.le_refl _) (by omega) j2
          rw [R_at j3, rkey] at b2
          omega
    · show Kept xs (wr (sa + k) m.toList.zipIdx (arrOf t)) _ _
      rw [ea]
      exact kw.wide (by omega) (by omega)
  have ix := ext0 (sa + k) (sa + na)
  have iy := ext0 (sa + na) (sa + na + k')
  have k1 : kindOf (setPending st pd) = κ := B1.kind
  have end_ : ∀ m t, MQ rk (xs.extract (sa + k) (sa + na)) (xs.extract (sa + na) (sa + na + k')) (setPending st pd) m t → Q (failedOf (setArr t (wr (sa + k) m.toList.zipIdx (arrOf t)))).isNone (setArr t (wr (sa + k) m.toList.zipIdx (arrOf t))) := fun m t q => by
    obtain ⟨f1, f2⟩ := fin m t q
    show Q (failedOf t).isNone _
    rw [f2]; exact f1
  rw [hxs] at ix iy sx sy fx ly end_ xz yz
  have g1 : 1 ≤ ((arrOf st).extract (sa + k) (sa + na)).size := by rw [xz]; omega
  have g2 : 1 ≤ ((arrOf st).extract (sa + na) (sa + na + k')).size := by rw [yz]; omega
  refine wIte (fun _ => ?_) (fun _ => ?_)
  · refine wpS_bind (wpS_mono (mLo_of C k1 ix iy g1 g2 sx sy fx ly) fun m t q => ?_)
    exact wpS_bind (wpS_modify (wpS_bind (wpS_get (wpS_pure (end_ m t q)))))
  · refine wpS_bind (wpS_mono (mHi_of C k1 ix iy g1 g2 sx sy fx ly) fun m t q => ?_)
    exact wpS_bind (wpS_modify (wpS_bind (wpS_get (wpS_pure (end_ m t q)))))
end
end TS
namespace TS
open PySem PyProof.Rows
section
variable {rk : Keyed → Nat}
def Cov (rk : Keyed → Nat) (xs : Array Keyed) : List (Nat × Nat × Nat) → Nat → Nat → Prop
  | [], a, b => a = b
  | q :: r, a, b => q.1 = a ∧ 1 ≤ q.2.1 ∧ Up rk xs a (a + q.2.1) ∧ Cov rk xs r (a + q.2.1) b
theorem Cov.len {xs : Array Keyed} : ∀ {l : List (Nat × Nat × Nat)} {a b : Nat}, Cov rk xs l a b → a + l.length ≤ b
  | [], a, b, h => Nat.le_of_eq h
  | q :: r, a, b, ⟨h1, h2, h3, h4⟩ => by
    have := Cov.len h4
    rw [List.length_cons]; omega
theorem Cov.app {xs : Array Keyed} : ∀ {l m : List (Nat × Nat × Nat)} {a b : Nat}, Cov rk xs (l ++ m) a b ↔ ∃ c, Cov rk xs l a c ∧ Cov rk xs m c b
  | [], m, a, b => ⟨fun h => ⟨a, rfl, h⟩, fun ⟨c, e, h⟩ => by cases e; exact h⟩
  | q :: r, m, a, b => by
    constructor
    · rintro ⟨h1, h2, h3, h4⟩
      obtain ⟨c, g1, g2⟩ := Cov.app.mp h4
      exact ⟨c, ⟨h1, h2, h3, g1⟩, g2⟩
    · rintro ⟨c, ⟨h1, h2, h3, h4⟩, g⟩
      exact ⟨h1, h2, h3, Cov.app.mpr ⟨c, h4, g⟩⟩
theorem Cov.kept {xs ys : Array Keyed} {lo hi : Nat} (k : Kept xs ys lo hi) : ∀ {l : List (Nat × Nat × Nat)} {a b : Nat}, Cov rk xs l a b → b ≤ lo ∨ hi ≤ a → Cov rk ys l a b
  | [], a, b, h, _ => h
  | q :: r, a, b, ⟨h1, h2, h3, h4⟩, hk => by
    have := Cov.len h4
    exact ⟨h1, h2, k.up h3 (by omega), Cov.kept k h4 (by omega)⟩
theorem set_erase {α : Type} : ∀ (l : List α) (x y z : α) (m : List α), ((l ++ x :: y :: m).set l.length z).eraseIdx (l.length + 1) = l ++ z :: m
  | [], x, y, z, m => rfl
  | a :: l, x, y, z, m => by
    show a :: (((l ++ x :: y :: m).set l.length z).eraseIdx (l.length + 1)) = _
    rw [set_erase l x y z m]; rfl
theorem two_at {α : Type} {l : List α} {i : Nat} (h : i + 1 < l.length) : l = l.take i ++ l[i] :: l[i + 1] :: l.drop (i + 2) := by
  have e1 := List.drop_eq_getElem_cons (show i < l.length by omega)
  have e2 := List.drop_eq_getElem_cons h
  rw [← e2, ← e1, List.take_append_drop]
theorem cov_mod {xs : Array Keyed} {pw : Nat} : ∀ {l : List (Nat × Nat × Nat)} {n a b : Nat}, Cov rk xs l a b → Cov rk xs (l.modify n fun q => (q.1, q.2.1, pw)) a b
  | [], n, a, b, h => by cases n <;> exact h
  | q :: r, 0, a, b, ⟨h1, h2, h3, h4⟩ => ⟨h1, h2, h3, h4⟩
  | q :: r, n + 1, a, b, ⟨h1, h2, h3, h4⟩ => ⟨h1, h2, h3, cov_mod h4⟩
end
section
variable {prog : Program} {w : World} {A : Around} {E : Value → Shared → Prop} {s : Shared}
variable {rk : Keyed → Nat} {a0 : Array Keyed} {κ : SortKind}
theorem mst_of {st : SortSt} {i lo : Nat} {Q : Bool → SortSt → Prop} (C : Cm prog w A s κ rk a0) (B : Bs a0 κ st) (cv : Cov rk (arrOf st) (pendingOf st).toList 0 lo) (hl : lo ≤ a0.size) (hi : i + 1 < (pendingOf st).size)
    (h : ∀ t, Bs a0 κ t → Cov rk (arrOf t) (pendingOf t).toList 0 lo → (pendingOf t).size + 1 = (pendingOf st).size → Kept (arrOf st) (arrOf t) 0 lo → Q true t) : wpS (model prog w) A E s (mergeAt' i) Q st := by
  obtain ⟨l, hl0⟩ : ∃ l, l = (pendingOf st).toList := ⟨_, rfl⟩
  have ll : l.length = (pendingOf st).size := by rw [hl0]; simp
  have hil : i + 1 < l.length := by omega
  have e := two_at hil
  rw [← hl0, e] at cv
  obtain ⟨c, c1, d1, d2, d3, f1, f2, f3, g⟩ := Cov.app.mp cv
  have lg := Cov.len g
  have e1 : (pendingOf st)[i]? = some (c, l[i].2.1, l[i].2.2) := by
    rw [← Array.getElem?_toList, ← hl0, List.getElem?_eq_getElem (by omega), ← d1]
  have e2 : (pendingOf st)[i + 1]? = some (c + l[i].2.1, l[i + 1].2.1, l[i + 1].2.2) := by
    rw [← Array.getElem?_toList, ← hl0, List.getElem?_eq_getElem hil, ← f1]
  refine mAt_of C B e1 e2 d2 f2 (by omega) d3 f3 fun t B' u k p => ?_
  have lt : (l.take i).length = i := by rw [List.length_take]; omega
  have ep : (pendingOf t).toList = l.take i ++ (c, l[i].2.1 + l[i + 1].2.1, l[i].2.2) :: l.drop (i + 2) := by
    rw [p, Array.toList_eraseIdxIfInBounds, Array.toList_setIfInBounds, ← hl0]
    have := set_erase (l.take i) l[i] l[i + 1] (c, l[i].2.1 + l[i + 1].2.1, l[i].2.2) (l.drop (i + 2))
    rw [lt, ← e] at this
    exact this
  have lc := Cov.len c1
  refine h t B' ?_ ?_ (k.wide (Nat.zero_le _) (by omega))
  · rw [ep]
    refine Cov.app.mpr ⟨c, Cov.kept k c1 (.inl (Nat.le_refl _)), rfl, by show 1 ≤ l[i].2.1 + l[i + 1].2.1; omega, ?_, ?_⟩
    · show Up rk (arrOf t) c (c + (l[i].2.1 + l[i + 1].2.1))
      rw [← Nat.add_assoc]; exact u
    · show Cov rk (arrOf t) (l.drop (i + 2)) (c + (l[i].2.1 + l[i + 1].2.1)) lo
      rw [← Nat.add_assoc]
      exact Cov.kept k g (.inr (Nat.le_refl _))
  · rw [← Array.length_toList, ep, List.length_append, List.length_cons, List.length_drop, lt]
    omega
theorem iteLe {c : Prop} [Decidable c] {a b n : Nat} (h1 : a ≤ n) (h2 : b ≤ n) : (if c then a else b) ≤ n := by split <;> assumption
theorem cov_push {t : SortSt} {lo n : Nat} (cv : Cov rk (arrOf t) (pendingOf t).toList 0 lo) (n1 : 1 ≤ n) (u : Up rk (arrOf t) lo (lo + n)) : Cov rk (arrOf t) ((pendingOf t).push (lo, n, 0)).toList 0 (lo + n) := by
  rw [Array.toList_push]
  exact Cov.app.mpr ⟨lo, cv, rfl, n1, u, rfl⟩
theorem sort_of {st : SortSt} {Q : Unit → SortSt → Prop} (C : Cm prog w A s κ rk a0) (B : Bs a0 κ st) (pe : pendingOf st = #[]) (h2 : 2 ≤ a0.size)
    (h : ∀ t, Bs a0 κ t → Up rk (arrOf t) 0 a0.size → Q () t) : wpS (model prog w) A E s sortRuns' Q st := by
  rw [sortRuns'_eq]
  refine wpS_bind (wpS_get ?_)
  dsimp only
  rw [B.size]
  generalize minRun' a0.size a0.size 0 = mr
  refine wpS_bind (wpS_mono (wpS_forRange (I := fun x c t => ∃ lo, c = (none, lo) ∧ Bs a0 κ t ∧ Cov rk (arrOf t) (pendingOf t).toList 0 lo ∧ lo ≤ a0.size ∧ (x ≤ lo ∨ a0.size ≤ lo))
    (Q := fun c t => ∃ lo, c = (none, lo) ∧ Bs a0 κ t ∧ Cov rk (arrOf t) (pendingOf t).toList 0 lo ∧ lo = a0.size) ?step ?fin ⟨0, rfl, B, by rw [pe]; exact rfl, Nat.zero_le _, .inl (Nat.le_refl _)⟩) ?post)
  case fin =>
    rintro c t ⟨lo, rfl, B', cv, h3, h4⟩
    exact ⟨lo, rfl, B', cv, by omega⟩
  case step =>
    rintro x c t _ xn ⟨lo, rfl, B', cv, h3, h4⟩
    refine wIte (fun z => wpS_pure ⟨lo, rfl, B', cv, by have z : lo ≥ a0.size := z; omega⟩) (fun z => ?_)
    have z : ¬ lo ≥ a0.size := z
    refine wpS_bind (wpS_mono (run_of (lo := lo) (nrem := a0.size - lo) C (by omega) (by omega) B') ?_)
    rintro r t1 ⟨n, rfl, B1, n1, n2, u1, k1, p1⟩
    have cv1 : Cov rk (arrOf t1) (pendingOf t1).toList 0 lo := by rw [p1]; exact Cov.kept k1 cv (.inl (Nat.le_refl _))
    clear k1 p1
    refine wIte (fun y => ?_) (fun y => ?_)
    have y : n < mr := y
    refine wpS_bind (wpS_lift (wpAny_rule ⟨rfl, ?_⟩))
    refine wpS_bind (bin_of (lo := lo) (n := min (a0.size - lo) mr) (ok := n) C (by omega) (by omega) B1 u1 fun t2 B2 u2 k2 p2 => ?_)
    refine wIte (fun h => absurd h (by decide)) (fun _ => ?_)
    have cv2 : Cov rk (arrOf t2) (pendingOf t2).toList 0 lo := by rw [p2]; exact Cov.kept k2 cv1 (.inl (Nat.le_refl _))
    have N1 : 1 ≤ min (a0.size - lo) mr := by omega
    have N2 : lo + min (a0.size - lo) mr ≤ a0.size := by omega
    clear p2 k2
    generalize min (a0.size - lo) mr = N at u2 N1 N2 ⊢
    rotate_left
    have N1 : 1 ≤ n := n1
    have N2 : lo + n ≤ a0.size := by omega
    have B2 := B1
    have u2 := u1
    have cv2 := cv1
    generalize t1 = t2 at B2 u2 cv2 ⊢
    generalize n = N at N1 N2 u2 ⊢
    rotate_left
    all_goals
      refine wpS_bind (wpS_get ?_)
      cases hb : (pendingOf t2).back? with
      | none =>
        exact wpS_bind (wpS_modify (wpS_pure ⟨lo + N, rfl, ⟨B2.perm, B2.kind, B2.ok⟩, cov_push cv2 N1 u2, N2, by omega⟩))
      | some q =>
        obtain ⟨s1, m1, pw⟩ := q
        refine wpS_bind (wpS_mono (wpS_forRange (I := fun y c t => c = (none, ()) ∧ Bs a0 κ t ∧ Cov rk (arrOf t) (pendingOf t).toList 0 lo ∧ Up rk (arrOf t) lo (lo + N))
          (Q := fun c t => c = (none, ()) ∧ Bs a0 κ t ∧ Cov rk (arrOf t) (pendingOf t).toList 0 lo ∧ Up rk (arrOf t) lo (lo + N)) ?_ (fun _ _ h => h) ⟨rfl, B2, cv2, u2⟩) ?_)
        · rintro y c t3 _ yn ⟨rfl, B3, cv3, u3⟩
          refine wpS_bind (wpS_get ?_)
          by_cases g : (pendingOf t3).size > 1
          · rw [if_pos g, Array.getElem?_eq_getElem (show (pendingOf t3).size - 2 < (pendingOf t3).size by omega)]
            refine wIte (fun _ => wpS_pure ⟨rfl, B3, cv3, u3⟩) (fun _ => ?_)
            refine wpS_bind (mst_of C B3 cv3 (by omega) (by omega) fun t4 B4 cv4 sz k4 => ?_)
            refine wIte (fun h => absurd h (by decide)) (fun _ => ?_)
            exact wpS_pure ⟨rfl, B4, cv4, k4.up u3 (.inr (Nat.le_refl _))⟩
          · rw [if_neg g]
            exact wpS_pure ⟨rfl, B3, cv3, u3⟩
        · rintro c t3 ⟨rfl, B3, cv3, u3⟩
          refine wpS_bind (wpS_modify (wpS_bind (wpS_modify (wpS_pure ⟨lo + N, rfl, ⟨B3.perm, B3.kind, B3.ok⟩, ?_, N2, by omega⟩))))
          show Cov rk (arrOf t3) (Array.toList (Array.push (Array.modify (pendingOf t3) _ _) (lo, N, 0))) 0 (lo + N)
          rw [Array.toList_push, Array.toList_modify]
          exact Cov.app.mpr ⟨lo, cov_mod cv3, rfl, N1, u3, rfl⟩
  case post =>
    rintro c t ⟨lo, rfl, B', cv, rfl⟩
    dsimp only
    have lc := Cov.len cv
    refine wpS_bind (wpS_mono (wpS_forRange (I := fun x c t => c = (none, ()) ∧ Bs a0 κ t ∧ Cov rk (arrOf t) (pendingOf t).toList 0 a0.size ∧ ((pendingOf t).size ≤ 1 ∨ (pendingOf t).size + x ≤ a0.size))
      (Q := fun c t => c = (none, ()) ∧ Bs a0 κ t ∧ Cov rk (arrOf t) (pendingOf t).toList 0 a0.size ∧ (pendingOf t).size ≤ 1) ?stepE ?finE ⟨rfl, B', cv, .inr (by rw [← Array.length_toList]; omega)⟩) ?postE)
    case finE =>
      rintro c t ⟨rfl, B', cv, z⟩
      exact ⟨rfl, B', cv, by omega⟩
    case stepE =>
      rintro x c t _ xn ⟨rfl, B', cv, z⟩
      refine wpS_bind (wpS_get ?_)
      refine wIte (fun y => wpS_pure ⟨rfl, B', cv, y⟩) (fun y => ?_)
      have y : ¬ (pendingOf t).size ≤ 1 := y
      refine wpS_bind (mst_of C B' cv (Nat.le_refl _) ?_ fun t2 B2 cv2 sz _ => ?_)
      · exact Nat.lt_of_le_of_lt (Nat.succ_le_succ (iteLe (n := (pendingOf t).size - 2) (by omega) (Nat.le_refl _))) (by omega)
      · exact wpS_pure ⟨rfl, B2, cv2, by omega⟩
    case postE =>
      rintro c t ⟨rfl, B', cv, z⟩
      refine wpS_pure (h t B' ?_)
      obtain ⟨l, hl⟩ : ∃ l, l = (pendingOf t).toList := ⟨_, rfl⟩
      have ll : l.length ≤ 1 := by rw [hl, Array.length_toList]; exact z
      rw [← hl] at cv
      match l, ll, cv with
      | [], _, cv => have : 0 = a0.size := cv; omega
      | [q], _, ⟨c1, c2, c3, c4⟩ =>
        have c4 : 0 + q.2.1 = a0.size := c4
        rw [c4] at c3
        exact c3
end
end TS
namespace L2
open PySem PySem.Spec PyProof.Rows
section
variable {prog : Program} {w : World} {A : Around} {E : Value → Shared → Prop} {s : Shared}
structure SortOk (prog : Program) (w : World) (A : Around) (s : Shared) (rk : Value → Nat) (vs : List Value) : Prop where
  kind : 2 ≤ vs.length → ∀ (Q : SortKind → Shared → Prop) (E : Value → Shared → Prop), Q oneType' s → wpAny (model prog w) A (keyKind' vs.toArray) Q E s
  less : ∀ x ∈ vs, ∀ y ∈ vs, ∀ (Q : Bool → Shared → Prop) (E : Value → Shared → Prop), Q (decide (rk x < rk y)) s → wpAny (model prog w) A (oneLt' true x y) Q E s
theorem pair_eq {vs : List Value} {p : Keyed} (h : p ∈ (pairsOf vs).toList) : p.1 ∈ vs ∧ p.2 = p.1 := by
  rw [pairsOf_toList] at h
  obtain ⟨i, hi⟩ := List.mem_iff_getElem?.mp h
  obtain ⟨x, y⟩ := p
  rw [List.getElem?_zip_eq_some] at hi
  obtain ⟨e1, e2⟩ := hi
  rw [e1] at e2
  exact ⟨List.mem_of_getElem? e1, (Option.some.inj e2).symm⟩
theorem out_of {rk : Value → Nat} {vs : List Value} {xs : Array Keyed} (hp : xs.Perm (pairsOf vs)) (u : TS.Up (fun p => rk p.1) xs 0 xs.size) : (xs.map (·.2)).toList.Perm vs ∧ (xs.map (·.2)).toList.Pairwise (fun x y => rk x ≤ rk y) := by
  have pl := Array.perm_iff_toList_perm.mp hp
  have e : xs.toList.map (·.2) = xs.toList.map (·.1) := List.map_congr_left fun p hp' => (pair_eq (pl.mem_iff.mp hp')).2
  rw [Array.toList_map]
  constructor
  · refine (pl.map _).trans ?_
    rw [← Array.toList_map, pairs_snd]
  · show List.Pairwise _ (xs.toList.map (·.2))
    rw [e]
    exact List.pairwise_map.mpr (TS.srt_of_up u)
theorem cm_of {rk : Value → Nat} {vs : List Value} (h : SortOk prog w A s rk vs) : TS.Cm prog w A s oneType' (fun p => rk p.1) (pairsOf vs) := fun x hx y hy Q E' q => by
  rw [keyLt'_oneType]
  exact h.less x.1 (pair_eq hx).1 y.1 (pair_eq hy).1 Q E' q
theorem gsort {a : Addr} {vs : List Value} {rk : Value → Nat} {n : Nat} {P : Fin → Shared → Prop} (ho : s.heap.get? a = some (seqObj "list" vs.toArray n)) (hl : vs.length ≤ sizeLine)
    (ok : ∀ h' : Heap, (∀ b o, b ≠ a → s.heap.get? b = some o → h'.get? b = some o) → SortOk prog w A { s with heap := h' } rk vs)
    (h : ∀ out : List Value, out.Perm vs → out.Pairwise (fun x y => rk x ≤ rk y) → P (.done (.ret .none)) { s with heap := sortedHeap s.heap a vs out.toArray }) : wpAny (model prog w) A (Builtin.«list.sort» ⟨[.ref a], []⟩) P E s := by
  rw [list_sort_plain]
  have ha : a < s.heap.objs.size := Heap.lt_size ho
  have hsz : vs.toArray.size = vs.length := by simp
  refine wpAny_bind (listItems_at ho rfl ?_)
  refine wpAny_bind (listUpdate_at ho rfl ?_ (by rw [hsz]; exact hl) (Nat.zero_le _))
  obtain ⟨e1, ho1⟩ : ∃ e1, (s.heap.update a (Obj.mapSeq fun _ => #[])).get? a = some (seqObj "list" #[] e1) := ⟨_, get?_update_seq ho (fun _ => #[])⟩
  refine wpAny_bind (seqEpoch_at ho1 rfl ?_)
  refine wpAny_bind (wpAny_newTuple ?_ (hsz := hl))
  refine wpAny_bind (wpAny_newList ?_)
  refine wpAny_holding ?_
  obtain ⟨H6, e6⟩ : ∃ H6, H6 = ((s.heap.update a (Obj.mapSeq fun _ => #[])).push (seqObj "tuple" vs.toArray 0)).push (seqObj "list" #[] 0) := ⟨_, rfl⟩
  have ho6 : H6.get? a = some (seqObj "list" #[] e1) := by
    rw [e6, Heap.get?_push_ne _ _ _ (by rw [size_push', Heap.size_update]; exact Nat.ne_of_lt (Nat.lt_succ_of_lt ha)), Heap.get?_push_ne _ _ _ (by rw [Heap.size_update]; exact Nat.ne_of_lt ha)]
    exact ho1
  have old : ∀ b o, b ≠ a → s.heap.get? b = some o → H6.get? b = some o := by
    intro b o nb hb
    rw [e6]
    refine Heap.get?_push_of_some _ (Heap.get?_push_of_some _ ?_)
    rw [Heap.get?_update_ne _ _ _ _ nb]
    exact hb
  have ok6 := ok H6 old
  show wpAny (model prog w) A _ P E { s with heap := ((s.heap.update a (Obj.mapSeq fun _ => #[])).push (seqObj "tuple" vs.toArray 0)).push (seqObj "list" #[] 0) }
  unfold sortedHeap at h
  rw [← e6] at h ⊢
  dsimp only
  by_cases h2 : vs.toArray.size < 2
  · rw [if_pos h2, if_pos h2]
    refine wpAny_bind (wpAny_pure ?_)
    rw [StateT.run_pure]
    refine wpAny_bind (wpAny_pure ?_)
    dsimp only
    refine wpAny_bind (seqEpoch_at ho6 rfl ?_)
    have ee : (arrOf (SortSt.mk' general' (vs.toArray.zip vs.toArray) #[] 7 none)).map (·.2) = vs.toArray := pairs_snd vs
    rw [ee]
    refine wpAny_bind (listUpdate_at ho6 rfl ?_ (Nat.zero_le _) (by rw [hsz]; omega))
    simp only [bne_self_eq_false, Bool.false_eq_true, if_false]
    refine wpAny_pure (h vs (List.Perm.refl _) ?_)
    match vs, hsz, h2 with
    | [], _, _ => exact List.Pairwise.nil
    | [_], _, _ => exact List.pairwise_singleton _ _
    | _ :: _ :: _, _, h2 => simp at h2; omega
  · rw [if_neg h2, if_neg h2]
    refine wpAny_bind (ok6.kind (by omega) _ _ ?_)
    refine wpAny_bind (wpAny_mono (TS.sort_of (s := { s with heap := H6 }) (st := SortSt.mk' oneType' (vs.toArray.zip vs.toArray) #[] 7 none) (a0 := pairsOf vs) (rk := fun p => rk p.1)
      (Q := fun _ st' => (arrOf st').Perm (pairsOf vs) ∧ failedOf st' = none ∧ TS.Up (fun p => rk p.1) (arrOf st') 0 (pairsOf vs).size) (cm_of ok6) ⟨Array.Perm.refl _, rfl, rfl⟩ rfl (by rw [pairsOf_size]; omega) fun t B u => ⟨B.perm, B.ok, u⟩) ?_ fun _ _ e => e)
    rintro ⟨⟨⟩, st'⟩ s' ⟨rfl, hp, hf, hu⟩
    dsimp only
    rw [← hp.size_eq] at hu
    obtain ⟨o1, o2⟩ := out_of hp hu
    refine wpAny_bind (seqEpoch_at ho6 rfl ?_)
    refine wpAny_bind (listUpdate_at ho6 rfl ?_ (Nat.zero_le _) (by rw [Array.size_map, hp.size_eq, pairsOf_size]; omega))
    rw [hf]
    simp only [bne_self_eq_false, Bool.false_eq_true, if_false]
    have := h _ o1 o2
    rw [Array.toArray_toList] at this
    exact wpAny_pure this
theorem gsorted {l : Addr} {vs : List Value} {rk : Value → Nat} {Q : Value → Shared → Prop} (pl : s.heap.IsList l vs.toArray) (hl : vs.length ≤ sizeLine)
    (ok : ∀ h' : Heap, (∀ b o, b < s.heap.objs.size → s.heap.get? b = some o → h'.get? b = some o) → SortOk prog w A.in1.in1 { s with heap := h' } rk vs)
    (h : ∀ out : List Value, out.Perm vs → out.Pairwise (fun x y => rk x ≤ rk y) → Q (.ref (s.heap.objs.size + 1)) { s with heap := sortedAll s.heap vs out.toArray }) : wpAny (model prog w) A (call (.builtin "sorted") [.ref l]) Q E s := by
  refine Calls.call_function_entry kind_sorted plain_sorted entry_sorted (args_sorted1 _) ?_
  unfold Builtin.«sorted»
  refine wpAny_bind (m := checkCount "sorted" 1 1 _) (wpAny_pure ?_)
  refine wpAny_bind (collect_list pl ?_ hl)
  refine wpAny_bind (wpAny_newList ?_ (hsz := hl))
  have hsz : ((s.heap.push (seqObj "list" #[] 0)).update s.heap.objs.size (Obj.mapSeq (· ++ vs.toArray))).objs.size = s.heap.objs.size + 1 := by
    rw [Heap.size_update, size_push']
  have hoL : (((s.heap.push (seqObj "list" #[] 0)).update s.heap.objs.size (Obj.mapSeq (· ++ vs.toArray))).push (seqObj "list" vs.toArray 0)).get? (s.heap.objs.size + 1) = some (seqObj "list" vs.toArray 0) := by
    rw [← hsz]; exact Heap.get?_push_size _ rfl
  show wpAny _ _ _ _ _ { s with heap := ((s.heap.push (seqObj "list" #[] 0)).update s.heap.objs.size (Obj.mapSeq (· ++ vs.toArray))).push (seqObj "list" vs.toArray 0) }
  rw [hsz]
  refine wpAny_bind (wpAny_holding (wpAny_call_entry slot_list_sort ⟨_, hoL, rfl⟩ entry_list_sort (gsort hoL hl (rk := rk) (fun h' old => ok h' fun b o lt e => old b o (Nat.ne_of_lt (Nat.lt_succ_of_lt lt)) ?_) fun out o1 o2 => ⟨_, rfl, ?_⟩) (args_list_sort _)))
  · refine Heap.get?_push_of_some _ ?_
    rw [Heap.get?_update_ne _ _ _ _ (Nat.ne_of_lt lt)]
    exact Heap.get?_push_of_some _ e
  · exact wpAny_pure ⟨_, rfl, h out o1 o2⟩
end
end L2
namespace L2
open PySem PySem.Spec PyProof.Rows
section
variable {α : Type}
theorem cnt_less {p q : α → Bool} (h : ∀ a, p a = true → q a = true) : ∀ {l : List α} {x : α}, x ∈ l → p x = false → q x = true → l.countP p < l.countP q
  | [], x, hx, _, _ => by cases hx
  | y :: l, x, hx, px, qx => by
    have le : l.countP p ≤ l.countP q := List.countP_mono_left fun a _ => h a
    rw [List.countP_cons, List.countP_cons]
    by_cases e : x = y
    · subst e
      rw [px, qx]
      simp; omega
    · have hx' : x ∈ l := by
        rcases List.mem_cons.mp hx with z | z
        · exact absurd z e
        · exact z
      have := cnt_less h hx' px qx
      cases hp : p y with
      | false => simp; split <;> omega
      | true => rw [h y hp]; simp; omega
def rank (lt : α → α → Bool) (l : List α) (x : α) : Nat := l.countP fun y => lt y x
theorem rank_eq {lt : α → α → Bool} (ir : ∀ a, lt a a = false) (tr : ∀ a b c, lt a b = true → lt b c = true → lt a c = true) (tot : ∀ a b, lt a b = false → lt b a = true ∨ a = b) {l : List α} {x y : α} (hx : x ∈ l) (hy : y ∈ l) : decide (rank lt l x < rank lt l y) = lt x y := by
  unfold rank
  cases h : lt x y with
  | true => exact decide_eq_true (cnt_less (fun a ha => tr a x y ha h) hx (ir x) h)
  | false =>
    refine decide_eq_false ?_
    rcases tot x y h with z | z
    · have := cnt_less (fun a ha => tr a y x ha z) hy (ir y) z
      omega
    · rw [z]; omega
theorem rank_le {lt : α → α → Bool} (ir : ∀ a, lt a a = false) (tr : ∀ a b c, lt a b = true → lt b c = true → lt a c = true) {l : List α} {x y : α} (hy : y ∈ l) (h : rank lt l x ≤ rank lt l y) : lt y x = false := by
  cases z : lt y x with
  | false => rfl
  | true =>
    have := cnt_less (l := l) (fun a ha => tr a y x ha z) hy (ir y) z
    unfold rank at h
    omega
end
section
variable {prog : Program} {w : World} {A : Around} {E : Value → Shared → Prop} {s : Shared}
theorem sok_ints {vs : List Value} {ns : List Int} (h : IntsAre vs ns) : SortOk prog w A s (fun v => rank (fun a b : Int => decide (a < b)) ns (numOf v)) vs := by
  constructor
  · intro h2 Q E q
    match vs, h2, h with
    | [], h2, _ => simp at h2
    | [_], h2, _ => simp at h2
    | v1 :: v2 :: vs, _, h => rw [keyKind_ints h]; exact wpAny_pure q
  · intro x hx y hy Q E q
    obtain ⟨a, t, rfl⟩ := h.all x hx
    obtain ⟨b, u, rfl⟩ := h.all y hy
    have mx : ∀ {v : Int} {t : Tok}, Value.int v t ∈ vs → v ∈ ns := fun {v t} hv => by
      rw [← h.nums]
      exact List.mem_map.mpr ⟨_, hv, rfl⟩
    refine oneLt_int ?_
    have := rank_eq (lt := fun a b : Int => decide (a < b)) (fun a => decide_eq_false (Int.lt_irrefl a)) (fun a b c h1 h2 => decide_eq_true (Int.lt_trans (of_decide_eq_true h1) (of_decide_eq_true h2))) (fun a b h => by
      have := of_decide_eq_false h
      by_cases e : a = b
      · exact .inr e
      · exact .inl (decide_eq_true (by omega))) (l := ns) (mx hx) (mx hy)
    rw [← this]; exact q
end
end L2
namespace L2
open PySem PySem.Spec PyProof.Rows
theorem ints_perm {vs out : List Value} {ns : List Int} (h : IntsAre vs ns) (p : out.Perm vs) : ∃ ms, IntsAre out ms ∧ ms.Perm ns ∧ ms = out.map numOf := by
  refine ⟨out.map numOf, intsAre_map out fun v hv => h.all v (p.mem_iff.mp hv), ?_, rfl⟩
  rw [← h.nums]
  exact p.map numOf
section
variable {X : Cx}
theorem int_pair {ns ms : List Int} {out : List Value} (pm : ms.Perm ns) (em : ms = out.map numOf) (o2 : out.Pairwise (fun x y => rank (fun a b : Int => decide (a < b)) ns (numOf x) ≤ rank (fun a b : Int => decide (a < b)) ns (numOf y))) : ms.Pairwise (· ≤ ·) := by
  rw [em]
  refine List.pairwise_map.mpr (List.Pairwise.imp_of_mem (fun {x y} hx hy h => ?_) o2)
  have my : numOf y ∈ ns := pm.mem_iff.mp (by rw [em]; exact List.mem_map.mpr ⟨y, hy, rfl⟩)
  have := rank_le (lt := fun a b : Int => decide (a < b)) (fun a => decide_eq_false (Int.lt_irrefl a)) (fun a b c h1 h2 => decide_eq_true (Int.lt_trans (of_decide_eq_true h1) (of_decide_eq_true h2))) my h
  have := of_decide_eq_false this
  omega
theorem call_sortedN : CallR X (.builtin "sorted") (fun xs H Q => ∃ (p : Addr) (ns : List Int), xs = [.ref p] ∧ SqL X.K H p (ns.map V.int) ∧ ∀ (ms : List Int) l, ms.Perm ns → ms.Pairwise (· ≤ ·) → H l = none → Q (.ref l) (upd H l (.lst (ms.map V.int)))) := by
  intro pins s σ H xs us Q I r h
  obtain ⟨p, ns, rfl, hp, q⟩ := h
  obtain ⟨u, rfl, rx⟩ := vals1 r
  cases rx
  obtain ⟨its, rv, pl, hl⟩ := I.list hp
  have il := rv.length
  have ia := intsAre_of rv
  refine gsorted (rk := fun v => rank (fun a b : Int => decide (a < b)) ns (numOf v)) pl.isList (by omega) (fun h' old => sok_ints ia) fun out o1 o2 => ?_
  obtain ⟨ms, i1, i2, i3⟩ := ints_perm ia o1
  have hlm : ms.length ≤ sizeLine := by rw [i2.length_eq]; rw [List.length_map] at hl; exact hl
  exact ⟨.ref (s.heap.objs.size + 1), _, laid_sorted I (by simpa using i1) hlm, rfl, q ms _ i2 (int_pair i2 i3 o2) (I.hok.fresh (Nat.le_succ _))⟩
variable {e : Expr} {t : TA} {p pos kpos : Pos}
def tSortedN (K : PySem.W.Frag) (t : TA) : TE := tCB (fun xs H Q => ∃ (p : Addr) (ns : List Int), xs = [.ref p] ∧ SqL K H p (ns.map V.int) ∧ ∀ (ms : List Int) l, ms.Perm ns → ms.Pairwise (· ≤ ·) → H l = none → Q (.ref l) (upd H l (.lst (ms.map V.int)))) t
theorem pe_sortedNX (hm : X.mg "sorted" = none) (ha : PA X [e] t) (hg : Gl X "sorted" := by rfl) (he : starEach [e] X.env = (false, eval e X.env) :: starEach [] X.env := by rfl) :
    PE X (.Call (.Name "sorted" p) [e] [] pos) (tSortedN X.K t) := pe_callB call_sortedN hg hm boot_sortedB ha (by decide) (by decide) he rfl
end
end L2
namespace L2
open PySem PySem.Spec PyProof PyProof.Rows
open PySem.Builtin PySem.Builtin.Str PySem.Builtin.BaseException PySem.Builtin.Exceptions
section
variable {X : Cx}
structure ErrS (K : PySem.W.Frag) (C : Addr) : Prop where
  str : PySem.W.findIn K (.ref C) "__str__" = some (some (.builtin "BaseException.__str__"))
  bex : PySem.W.mroIn K C (.type "BaseException") = some true
end
end L2
namespace L2
open PySem PySem.Spec PyProof.Rows
section
variable {P : Program} {w : World} {K : PySem.W.Frag} {mg : Str → Option Value} {base h : Heap} {x : Str} {st : Stmt} {f : Addr} {fd : FuncData} {ps : List Str} {k : Nat} {sp : Sp}
def Fu (K : PySem.W.Frag) (x : Str) (st : Stmt) (f : Addr) : Prop := ∃ fd, PySem.W.nsIn K mainGlobals x = some (some (.ref f)) ∧ Fun K x x st f fd
theorem fu_mk {oc : Value} {od an : Option Addr} {osl : Array (Option Value)} {kV doc pm cdv ct : Value} (a : PySem.W.nsIn K mainGlobals x = some (some (.ref f))) (l : K.lookup f = some ⟨oc, od, .func (PySem.W.fnOf x x (defArgs st) (defBody st) (defScope st) .none kV doc pm an cdv ct), osl⟩)
    (c : PySem.W.codeIn K cdv x = true) (k : PySem.W.keepIn K (.ref f) = true) : Fu K x st f := ⟨_, a, fun_mk l c k⟩
theorem cal_mk (X : K.In h) (G : h.Ns mainGlobals mg) (a : PySem.W.nsIn K mainGlobals x = some (some (.ref f))) (F : Fun K x x st f fd) (b : Binds K fd ps []) (ok : FnOk P w K mg base CX0 k f fd ps sp) : Cal P w K mg base x k ps sp := ⟨f, fd, PySem.W.mg_of X G a, F.kp, b, ok⟩
theorem calx_mk (X : K.In h) (G : h.Ns mainGlobals mg) (a : PySem.W.nsIn K mainGlobals x = some (some (.ref f))) (F : Fun K x x st f fd) (b : Binds K fd ps []) (ok : FnOk P w K mg base (CX1 P w) k f fd ps sp) : CalX P w K mg base x k ps sp := ⟨f, fd, PySem.W.mg_of X G a, F.kp, b, ok⟩
def Fre (K : PySem.W.Frag) : List Str → Prop
  | [] => True
  | x :: l => PySem.W.nsIn K mainGlobals x = some none ∧ Fre K l
structure ClF (K : PySem.W.Frag) (T : Addr) (x : Str) (q : Addr) : Prop where
  n : PySem.W.nsIn K mainGlobals x = some (some (.ref q))
  e : PySem.W.excIn K q veB "ValueError.__new__" = true
  g : PySem.W.findIn K (.ref q) "__getattribute__" = some (some (.builtin "BaseException.__getattribute__"))
  h : PySem.W.findIn K (.ref q) "__getattr__" = some none
  c : PySem.W.findIn K (.ref q) "__class__" = some (some (.builtin "object.__class__"))
  b : PySem.W.mroIn K q (.type "BaseException") = some true
  o : PySem.W.mroIn K q (.type "object") = some true
  i : PySem.W.isClsIn K q = true
  t : PySem.W.typeIn K (.ref q) = some (.type "type")
  u : PySem.W.mroIn K q (.ref T) = some true
  v : PySem.W.mroIn K q (.type "ValueError") = some true
  s : PySem.W.findIn K (.ref q) "__str__" = some (some (.builtin "BaseException.__str__"))
def ClFs (K : PySem.W.Frag) (T : Addr) : List (Str × Addr) → Prop
  | [] => True
  | (x, q) :: l => ClF K T x q ∧ ClFs K T l
def PrI (K : PySem.W.Frag) (i : Nat) (a : Addr) : Nat → List (Str × Addr) → Prop
  | _, [] => True
  | j, (_, b) :: l => PySem.W.mroIn K a (.ref b) = some (Nat.beq i j) ∧ PrI K i a (j + 1) l
def PrsI (K : PySem.W.Frag) (all : List (Str × Addr)) : Nat → List (Str × Addr) → Prop
  | _, [] => True
  | i, (_, a) :: l => PrI K i a 0 all ∧ PrsI K all (i + 1) l
theorem ClFs.get {T : Addr} : ∀ {cs : List (Str × Addr)}, ClFs K T cs → ∀ p ∈ cs, ClF K T p.1 p.2
  | (x, q) :: l, h, p, hp => by
    rcases List.mem_cons.mp hp with rfl | hp
    · exact h.1
    · exact ClFs.get h.2 p hp
theorem PrI.get {i : Nat} {a : Addr} : ∀ {l : List (Str × Addr)} {j0 : Nat}, PrI K i a j0 l → ∀ j q, l[j]? = some q → PySem.W.mroIn K a (.ref q.2) = some (Nat.beq i (j0 + j))
  | (x, b) :: l, j0, h, 0, q, e => by
    cases e
    exact h.1
  | (x, b) :: l, j0, h, j + 1, q, e => by
    have := PrI.get h.2 j q e
    rw [this, show j0 + 1 + j = j0 + (j + 1) by omega]
theorem PrsI.get {all : List (Str × Addr)} : ∀ {l : List (Str × Addr)} {i0 : Nat}, PrsI K all i0 l → ∀ i p, l[i]? = some p → PrI K (i0 + i) p.2 0 all
  | (x, b) :: l, i0, h, 0, p, e => by
    cases e
    exact h.1
  | (x, b) :: l, i0, h, i + 1, p, e => by
    have := PrsI.get h.2 i p e
    rw [show i0 + 1 + i = i0 + (i + 1) by omega] at this
    exact this
theorem errAll_mk {T : Addr} {cs : List (Str × Addr)} (X : K.In h) (G : h.Ns mainGlobals mg) (uT : PySem.W.nsIn K mainGlobals "TurnError" = some (some (.ref T))) (uTb : PySem.W.mroIn K T (.type "BaseException") = some true) (uTc : PySem.W.isClsIn K T = true) (uTt : PySem.W.typeIn K (.ref T) = some (.type "type"))
    (uG : PySem.W.specialIn K (.builtin "object.__class__") "__get__" = some (some (.builtin "getset_descriptor.__get__"))) (uK : PySem.W.takesIn K (.builtin "object.__class__") = some true) (uC : ClFs K T cs) (uP : PrsI K cs 0 cs) (nd : (cs.map (·.1)).Nodup) : ErrAll K mg T cs := by
  refine ⟨PySem.W.mg_of X G uT, fun p hp => ?_, fun p hp => ?_, fun p hp => ?_, fun p hp => ?_, fun p hp q hq => ?_⟩
  · exact ⟨PySem.W.mg_of X G (uC.get p hp).n, (uC.get p hp).e⟩
  · have c := uC.get p hp
    exact errI_mk c.g c.h c.c uG uK c.b c.o c.i
  · exact exm_own uTb uTc uTt (uC.get p hp).u
  · exact kit_ve (uC.get p hp).v
  · have c := uC.get q hq
    obtain ⟨i, hi⟩ := List.getElem?_of_mem hp
    obtain ⟨j, hj⟩ := List.getElem?_of_mem hq
    have e : ∀ {k : Nat} {r : Str × Addr}, cs[k]? = some r → PySem.W.mroIn K p.2 (.ref r.2) = some (Nat.beq i k) := fun {k r} hr => by
      have := (uP.get i p hi).get k r hr
      rw [Nat.zero_add, Nat.zero_add] at this
      exact this
    have eb : decide (p.1 = q.1) = Nat.beq i j := by
      by_cases z : i = j
      · subst z
        rw [hi] at hj
        cases hj
        rw [decide_eq_true rfl, Nat.beq_refl]
      · have : Nat.beq i j = false := by
          cases y : Nat.beq i j with
          | false => rfl
          | true => exact absurd (Nat.eq_of_beq_eq_true y) z
        rw [this]
        refine decide_eq_false fun y => z ?_
        have i1 : i < (cs.map (·.1)).length := by rw [List.length_map]; exact (List.getElem?_eq_some_iff.mp hi).1
        refine (List.getElem?_inj i1 nd).mp ?_
        rw [List.getElem?_map, List.getElem?_map, hi, hj]
        exact congrArg some y
    rw [eb]
    refine kit_own c.i c.t (e hj) fun z => ?_
    have a := e hi
    rw [z] at a
    have b := e hj
    rw [z, a, Nat.beq_refl] at b
    exact (Option.some.inj b).symm
end
end L2
namespace L2
open PySem PySem.Spec PyProof PyProof.Rows
mutual
inductive RdN (h : Heap) : Value → PyData → Prop
  | non : RdN h .none .none
  | bl (b : Bool) : RdN h (.bool b) (.bool b)
  | int (i : Int) (t : Tok) : RdN h (.int i t) (.int i)
  | str (x : Str) (t : Tok) : RdN h (.str x t) (.str x)
  | lst {a : Addr} {o : Obj} {vs : Array Value} {n : Nat} {ds : List PyData} (g : h.get? a = some o) (c : o.cls = .type "list") (e : o.data = .seq vs n) (r : RdNs h vs.toList ds) : RdN h (.ref a) (.list ds)
  | tup {a : Addr} {o : Obj} {vs : Array Value} {n : Nat} {ds : List PyData} (g : h.get? a = some o) (c : o.cls = .type "tuple") (e : o.data = .seq vs n) (r : RdNs h vs.toList ds) : RdN h (.ref a) (.tuple ds)
  | dic {a : Addr} {o : Obj} {es : Array DictEntry} {n : Nat} {kds : List (PyData × PyData)} (g : h.get? a = some o) (c : o.cls = .type "dict") (e : o.data = .dict es n) (ns : (a == sysModules) = false)
      (rk : RdNs h (es.toList.map (·.key)) (kds.map (·.1))) (rv : RdNs h (es.toList.map (·.val)) (kds.map (·.2))) : RdN h (.ref a) (.dict kds)
inductive RdNs (h : Heap) : List Value → List PyData → Prop
  | nil : RdNs h [] []
  | cons {u : Value} {us : List Value} {d : PyData} {ds : List PyData} (r : RdN h u d) (rs : RdNs h us ds) : RdNs h (u :: us) (d :: ds)
end
mutual
theorem RdN.reads {h : Heap} : ∀ {u : Value} {d : PyData}, RdN h u d → ∃ as, Reads h u d as
  | _, _, .non => ⟨_, .none⟩
  | _, _, .bl b => ⟨_, .bool b⟩
  | _, _, .int i t => ⟨_, .int i t⟩
  | _, _, .str x t => ⟨_, .str x t⟩
  | _, _, .lst g c e r => let ⟨_, q⟩ := RdNs.reads r; ⟨_, .list g c e q⟩
  | _, _, .tup g c e r => let ⟨_, q⟩ := RdNs.reads r; ⟨_, .tuple g c e q⟩
  | _, _, .dic g c e _ rk rv => let ⟨_, q⟩ := RdNs.reads rk; let ⟨_, p⟩ := RdNs.reads rv; ⟨_, .dict g c e q p⟩
theorem RdNs.reads {h : Heap} : ∀ {us : List Value} {ds : List PyData}, RdNs h us ds → ∃ as, ReadsAll h us ds as
  | _, _, .nil => ⟨_, .nil⟩
  | _, _, .cons r rs => let ⟨_, q⟩ := RdN.reads r; let ⟨_, p⟩ := RdNs.reads rs; ⟨_, .cons q p⟩
end
section
variable {prog : Program} {w : World} {h : Heap}
mutual
theorem RdN.shows : ∀ {u : Value} {d : PyData}, RdN h u d → d.showable = true → d.shown.length ≤ sizeLine → ∃ bs, ReadAtMost h d.depth bs ∧ ReprK prog w bs h d.depth u d.shown
  | _, _, .non, _, _ => ⟨[], (fun _ z => nomatch z), by rw [PyData.shown]; exact .of_is ReprIs.none _ _ _⟩
  | _, _, .bl b, _, _ => ⟨[], (fun _ z => nomatch z), by rw [PyData.shown]; exact .of_is (ReprIs.bool b) _ _ _⟩
  | _, _, .int i t, s, _ => ⟨[], (fun _ z => nomatch z), by rw [PyData.shown]; exact .of_is (ReprIs.int t (by simpa [PyData.showable] using s)) _ _ _⟩
  | _, _, .str x t, _, z => ⟨[], (fun _ y => nomatch y), by rw [PyData.shown] at z ⊢; exact .of_is (ReprIs.str x t z) _ _ _⟩
  | _, _, .lst (a := a) (vs := vs) (ds := ds) g c e r, s, z => by
    rw [PyData.shown] at z
    obtain ⟨bs, b, k⟩ := RdNs.shows r (by simpa [PyData.showable] using s) fun t ht => Nat.le_trans (listText_mem_le ht) z
    obtain ⟨as, q⟩ := RdN.reads (.lst g c e r)
    have no := not_mem_of_deeper q (by rw [PyData.depth]; omega) b
    refine ⟨a :: bs, ReadAtMost.cons q (by rw [PyData.depth]; omega) b, ?_⟩
    rw [PyData.depth, PyData.shown]
    obtain ⟨l⟩ := vs
    cases l with
    | nil =>
      cases (show RdNs h [] ds from r)
      rw [PyData.shownAll, listText_nil]
      exact ReprK.listEmpty g c e
    | cons x l => exact ReprK.list g c e no (by simpa using k.length_eq) fun i y ey => k.item i y (by simpa using ey)
  | _, _, .tup (a := a) (ds := ds) g c e r, s, z => by
    rw [PyData.shown] at z
    obtain ⟨bs, b, k⟩ := RdNs.shows r (by simpa [PyData.showable] using s) fun t ht => Nat.le_trans (tupleText_mem_le ht) z
    obtain ⟨as, q⟩ := RdN.reads (.tup g c e r)
    have no := not_mem_of_deeper q (by rw [PyData.depth]; omega) b
    refine ⟨a :: bs, ReadAtMost.cons q (by rw [PyData.depth]; omega) b, ?_⟩
    rw [PyData.depth, PyData.shown]
    exact ReprK.tuple g c e no k
  | _, _, .dic (a := a) (es := es) (kds := kds) g c e ns rk rv, s, z => by
    rw [PyData.shown] at z
    obtain ⟨s1, s2⟩ := PyData.showableKv_split kds (by simpa [PyData.showable] using s)
    obtain ⟨b1, m1, k1⟩ := RdNs.shows rk s1 fun t ht => by
      obtain ⟨y, hy, l⟩ := PyData.shownKv_key_le kds t ht
      exact Nat.le_trans l (Nat.le_trans (dictText_mem_le hy) z)
    obtain ⟨b2, m2, k2⟩ := RdNs.shows rv s2 fun t ht => by
      obtain ⟨y, hy, l⟩ := PyData.shownKv_val_le kds t ht
      exact Nat.le_trans l (Nat.le_trans (dictText_mem_le hy) z)
    obtain ⟨as, q⟩ := RdN.reads (.dic g c e ns rk rv)
    have b : ReadAtMost h (PyData.depthKv kds) (b1 ++ b2) := ReadAtMost.append (m1.mono (PyData.depthAll_keys_le kds)) (m2.mono (PyData.depthAll_vals_le kds))
    have no := not_mem_of_deeper q (by rw [PyData.depth]; omega) b
    refine ⟨a :: (b1 ++ b2), ReadAtMost.cons q (by rw [PyData.depth]; omega) b, ?_⟩
    rw [PyData.depth, PyData.shown, PyData.shownKv_eq]
    have j1 := k1.more_le (as' := b1 ++ b2) (fun _ y => List.mem_append_left _ y) (PyData.depthAll_keys_le kds)
    have j2 := k2.more_le (as' := b1 ++ b2) (fun _ y => List.mem_append_right _ y) (PyData.depthAll_vals_le kds)
    exact ReprK.dict g c e ns no (ReprEntriesK.of_two es.toList _ _ j1 j2)
theorem RdNs.shows : ∀ {us : List Value} {ds : List PyData}, RdNs h us ds → PyData.showableAll ds = true → (∀ t ∈ PyData.shownAll ds, t.length ≤ sizeLine) →
    ∃ bs, ReadAtMost h (PyData.depthAll ds) bs ∧ ReprAllK prog w bs h (PyData.depthAll ds) us (PyData.shownAll ds)
  | _, _, .nil, _, _ => ⟨[], (fun _ z => nomatch z), by rw [PyData.shownAll]; exact .nil⟩
  | _, _, .cons (d := d) (ds := ds) r rs, s, z => by
    have s' : d.showable = true ∧ PyData.showableAll ds = true := by simpa [PyData.showableAll] using s
    rw [PyData.shownAll] at z
    obtain ⟨b1, m1, k1⟩ := RdN.shows r s'.1 (z _ List.mem_cons_self)
    obtain ⟨b2, m2, k2⟩ := RdNs.shows rs s'.2 fun t ht => z t (List.mem_cons_of_mem _ ht)
    rw [PyData.depthAll, PyData.shownAll]
    refine ⟨b1 ++ b2, fun b hb => ?_, .cons ((k1.more fun _ y => List.mem_append_left _ y).level_le (Nat.le_max_left _ _)) (k2.more_le (fun _ y => List.mem_append_right _ y) (Nat.le_max_right _ _))⟩
    rcases List.mem_append.mp hb with y | y
    · obtain ⟨d1, as1, r1, l1⟩ := m1 b y
      exact ⟨d1, as1, r1, Nat.le_trans l1 (Nat.le_max_left _ _)⟩
    · obtain ⟨d1, as1, r1, l1⟩ := m2 b y
      exact ⟨d1, as1, r1, Nat.le_trans l1 (Nat.le_max_right _ _)⟩
end
theorem RdN.by_ {a : Addr} {d : PyData} (r : RdN h (.ref a) d) (s : d.showable = true) (z : d.shown.length ≤ sizeLine) : ∃ T idr, ShowsBy prog w h a d T idr := by
  obtain ⟨as, q⟩ := r.reads
  cases r with
  | lst g c e r =>
    rename_i o vs n ds
    rw [PyData.shown] at z
    obtain ⟨bs, b, k⟩ := RdNs.shows (prog := prog) (w := w) r (by simpa [PyData.showable] using s) fun t ht => Nat.le_trans (listText_mem_le ht) z
    have no := not_mem_of_deeper q (by rw [PyData.depth]; omega) b
    refine ⟨"list", "list.__repr__", F.slot_list_repr.toG, F.slot_list_str, F.slot_list_format, fun s k0 => ⟨o, k0 _ _ g, c⟩, fun A E s0 Q hg u k0 hq => ?_⟩
    rw [PyData.depth] at u
    rw [PyData.shown] at hq
    obtain ⟨l⟩ := vs
    cases l with
    | nil =>
      cases (show RdNs h [] ds from r)
      rw [PyData.shownAll, listText_nil] at hq
      exact call_list_repr_empty ⟨o, k0 _ _ g, c⟩ (k0 _ _ g) e (hq s0.heap _ _ fun _ _ y => y)
    | cons x l => exact call_list_reprK g c e no (by simpa using k.length_eq) (fun i y ey => k.item i y (by simpa using ey)) hg (fun b _ => Clear.nil b) u k0 hq z
  | tup g c e r =>
    rename_i o vs n ds
    rw [PyData.shown] at z
    obtain ⟨bs, b, k⟩ := RdNs.shows (prog := prog) (w := w) r (by simpa [PyData.showable] using s) fun t ht => Nat.le_trans (tupleText_mem_le ht) z
    have no := not_mem_of_deeper q (by rw [PyData.depth]; omega) b
    refine ⟨"tuple", "tuple.__repr__", F.slot_tuple_repr, F.slot_tuple_str, F.slot_tuple_format, fun s k0 => ⟨o, k0 _ _ g, c⟩, fun A E s0 Q hg u k0 hq => ?_⟩
    rw [PyData.depth] at u
    rw [PyData.shown] at hq
    exact call_tuple_reprK g c e no k hg (fun b _ => Clear.nil b) u k0 hq z
  | dic g c e ns rk rv =>
    rename_i o es n kds
    rw [PyData.shown] at z
    obtain ⟨s1, s2⟩ := PyData.showableKv_split kds (by simpa [PyData.showable] using s)
    obtain ⟨b1, m1, k1⟩ := RdNs.shows (prog := prog) (w := w) rk s1 fun t ht => by
      obtain ⟨y, hy, l⟩ := PyData.shownKv_key_le kds t ht
      exact Nat.le_trans l (Nat.le_trans (dictText_mem_le hy) z)
    obtain ⟨b2, m2, k2⟩ := RdNs.shows (prog := prog) (w := w) rv s2 fun t ht => by
      obtain ⟨y, hy, l⟩ := PyData.shownKv_val_le kds t ht
      exact Nat.le_trans l (Nat.le_trans (dictText_mem_le hy) z)
    have b : ReadAtMost h (PyData.depthKv kds) (b1 ++ b2) := ReadAtMost.append (m1.mono (PyData.depthAll_keys_le kds)) (m2.mono (PyData.depthAll_vals_le kds))
    have no := not_mem_of_deeper q (by rw [PyData.depth]; omega) b
    refine ⟨"dict", "dict.__repr__", F.slot_dict_repr, F.slot_dict_str, F.slot_dict_format, fun s k0 => ⟨o, k0 _ _ g, c⟩, fun A E s0 Q hg u k0 hq => ?_⟩
    rw [PyData.depth] at u
    rw [PyData.shown, PyData.shownKv_eq] at hq
    rw [PyData.shownKv_eq] at z
    have j1 := k1.more_le (as' := b1 ++ b2) (fun _ y => List.mem_append_left _ y) (PyData.depthAll_keys_le kds)
    have j2 := k2.more_le (as' := b1 ++ b2) (fun _ y => List.mem_append_right _ y) (PyData.depthAll_vals_le kds)
    exact call_dict_reprK g c e ns no (ReprEntriesK.of_two es.toList _ _ j1 j2) hg (fun b _ => Clear.nil b) u k0 hq z
end
mutual
inductive Da (H : Hp) : V → PyData → Prop
  | non : Da H .non .none
  | bl (b : Bool) : Da H (.bl b) (.bool b)
  | int (i : Int) : Da H (.int i) (.int i)
  | str (x : Str) : Da H (.str x) (.str x)
  | lst {a : Addr} {xs : List V} {ds : List PyData} (e : H a = some (.lst xs)) (h : DaA H xs ds) : Da H (.ref a) (.list ds)
  | tup {a : Addr} {xs : List V} {ds : List PyData} (e : H a = some (.tup xs)) (h : DaA H xs ds) : Da H (.ref a) (.tuple ds)
  | dic {a : Addr} (e : H a = some (.dK [])) : Da H (.ref a) (.dict [])
inductive DaA (H : Hp) : List V → List PyData → Prop
  | nil : DaA H [] []
  | cons {x : V} {xs : List V} {d : PyData} {ds : List PyData} (h : Da H x d) (hs : DaA H xs ds) : DaA H (x :: xs) (d :: ds)
end
mutual
theorem Da.keep {H H' : Hp} (s : Same H H') : ∀ {v : V} {d : PyData}, Da H v d → Da H' v d
  | _, _, .non => .non
  | _, _, .bl b => .bl b
  | _, _, .int i => .int i
  | _, _, .str x => .str x
  | _, _, .lst e h => .lst (s _ _ e) (DaA.keep s h)
  | _, _, .tup e h => .tup (s _ _ e) (DaA.keep s h)
  | _, _, .dic e => .dic (s _ _ e)
theorem DaA.keep {H H' : Hp} (s : Same H H') : ∀ {vs : List V} {ds : List PyData}, DaA H vs ds → DaA H' vs ds
  | _, _, .nil => .nil
  | _, _, .cons h hs => .cons (Da.keep s h) (DaA.keep s hs)
end
mutual
theorem Da.rd {X : Cx} {pins : List (Addr × Obj)} {σ : St} {H : Hp} {s : Shared} (I : Inv X pins σ H s) : ∀ {v : V} {d : PyData} {u : Value}, Da H v d → RelV v u → RdN s.heap u d
  | _, _, u, .non, r => by cases (show u = Value.none from r); exact .non
  | _, _, u, .bl b, r => by cases (show u = Value.bool b from r); exact .bl b
  | _, _, u, .int i, r => by obtain ⟨t, rfl⟩ := r; exact .int i t
  | _, _, u, .str x, r => by obtain ⟨t, rfl⟩ := r; exact .str x t
  | _, _, u, .lst e h, r => by
    cases r
    obtain ⟨z, its, n, rv, hl, ho⟩ := I.lstM e
    exact .lst ho rfl rfl (by simpa using DaA.rd I h rv)
  | _, _, u, .tup e h, r => by
    cases r
    obtain ⟨z, its, rv, o, ho, hc, n, hd⟩ := I.hok _ _ e
    exact .tup ho hc hd (by simpa using DaA.rd I h rv)
  | _, _, u, .dic e, r => by
    cases r
    obtain ⟨hz, hS, vs, kv, o, es, ep, ho, hx, hd, hk, hp, hn⟩ := I.hok _ _ e
    cases kv
    have ee : es.toList = [] := by
      cases hq : es.toList with
      | nil => rfl
      | cons x xs => rw [hq] at hp; cases hp
    exact .dic (kds := []) ho hx.1 hd hS (by rw [ee]; exact .nil) (by rw [ee]; exact .nil)
theorem DaA.rd {X : Cx} {pins : List (Addr × Obj)} {σ : St} {H : Hp} {s : Shared} (I : Inv X pins σ H s) : ∀ {vs : List V} {ds : List PyData} {us : List Value}, DaA H vs ds → Vals vs us → RdNs s.heap us ds
  | _, _, _, .nil, .nil => .nil
  | _, _, _, .cons h hs, .cons r rs => .cons (Da.rd I h r) (DaA.rd I hs rs)
end
structure DaS (H : Hp) (v : V) (d : PyData) : Prop where
  da : Da H v d
  ok : d.showable = true
  le : d.shown.length ≤ sizeLine
  dp : d.depth ≤ 8
section
variable {X : Cx} {p pos : Pos} {e : Expr} {t : TA}
def rReprD : List V → Hp → VK → Prop := fun xs H Q => ∃ v d, xs = [v] ∧ DaS H v d ∧ Q (.str d.shown) H
theorem call_reprD (hu : X.A.units + 16 < cLine) (hg : X.A.guards = some []) : CallR X (.builtin "repr") rReprD := by
  intro pins s σ H xs us Q I r h
  obtain ⟨v, d, rfl, ⟨hs, sh, le, dp⟩, q⟩ := h
  obtain ⟨u, rfl, ru⟩ := vals1 r
  have fin : ∀ tk0 tk, (EP X pins σ Q) (.str d.shown tk0) { s with toks := tk } := fun tk0 tk => ⟨.str d.shown, H, I.tok _, ⟨_, rfl⟩, q⟩
  have onref : ∀ {a : Addr}, u = .ref a → wpAny (model X.prog X.w) X.A (call (.builtin "repr") [u]) (EP X pins σ Q) X.xe s := fun {a} eu => by
    subst eu
    obtain ⟨T, idr, S⟩ := (hs.rd I ru).by_ (prog := X.prog) (w := X.w) sh le
    exact call_repr_slot (by omega) (S.typeIs s fun _ _ y => y) S.slotRepr (S.call X.A.in1 _ s _ hg (by show X.A.units + 1 + d.depth < cLine; omega) (fun _ _ y => y) fun h' u tk hk => ⟨_, _, rfl, .str d.shown, H, I.kept (t' := tk) hk, ⟨_, rfl⟩, q⟩)
  cases hs with
  | non => cases (show u = Value.none from ru); exact PySem.P.repr_of_none (by simpa only [PyData.shown] using fin _ _)
  | bl b => cases (show u = Value.bool b from ru); exact PySem.P.repr_of_bool (by simpa only [PyData.shown] using fin _ _)
  | int i => obtain ⟨t, rfl⟩ := ru; exact PySem.P.repr_of_int (by simpa [PyData.showable] using sh) (by simpa only [PyData.shown] using fin _ _)
  | str x => obtain ⟨t, rfl⟩ := ru; exact PySem.P.repr_of_str (by simpa only [PyData.shown] using fin _ _) (by simpa only [PyData.shown] using le)
  | lst e h => exact onref ru
  | tup e h => exact onref ru
  | dic e => exact onref ru
theorem pe_reprD (hu : X.A.units + 16 < cLine) (hg0 : X.A.guards = some []) (hm : X.mg "repr" = none) (ha : PA X [e] t) (hg : Gl X "repr" := by rfl) (he : starEach [e] X.env = (false, eval e X.env) :: starEach [] X.env := by rfl) :
    PE X (.Call (.Name "repr" p) [e] [] pos) (tCB rReprD t) := pe_callB (call_reprD hu hg0) hg hm boot_reprB ha (by decide) (by decide) he rfl
end
end L2
namespace My
open PySem L2 Mth
def top (i : Nat) : Stmt := PySem.Challenge.pw_turnroots_k32_refused_of_past.main.body.getD i (.Pass ⟨0, 0, 0, 0⟩)
abbrev s_is_whole : Stmt := top 14
abbrev s_must_be_from_one : Stmt := top 15
abbrev s_must_be_few : Stmt := top 16
abbrev s_is_turn : Stmt := top 27
abbrev s_must_be_turn : Stmt := top 28
abbrev s_must_fit : Stmt := top 29
abbrev s_put_behind : Stmt := top 30
abbrev s_rounds_of : Stmt := top 33
abbrev s_how_many_roots : Stmt := top 42
abbrev s_all_roots : Stmt := top 45
abbrev s_go_past : Stmt := top 47
abbrev s_how_many_past : Stmt := top 48
abbrev s_all_past : Stmt := top 50
abbrev s_named_anew : Stmt := top 51
abbrev s_root_families : Stmt := top 52
abbrev s_powers_of_one : Stmt := top 57
abbrev s_law_pool : Stmt := top 59
abbrev s_law_draw : Stmt := top 60
abbrev s_law_turn : Stmt := top 61
abbrev s_law_which : Stmt := top 65
abbrev s_law_refused : Stmt := top 66
abbrev s_law_bad : Stmt := top 67
abbrev s_law_copy : Stmt := top 68
abbrev s_law : Stmt := top 69
end My
namespace My
open PySem L2 Mth
structure Bl (mg : Str → Option Value) : Prop where
  len : mg "len" = none
  isi : mg "isinstance" = none
  int : mg "int" = none
  bool : mg "bool" = none
  list : mg "list" = none
  range : mg "range" = none
  sum : mg "sum" = none
  min : mg "min" = none
  max : mg "max" = none
  enum : mg "enumerate" = none
  zip : mg "zip" = none
  sorted : mg "sorted" = none
  tuple : mg "tuple" = none
  str : mg "str" = none
  repr : mg "repr" = none
  all : mg "all" = none
  any : mg "any" = none
  set : mg "set" = none
  dict : mg "dict" = none
  ve : mg "ValueError" = none
section
variable {P : Program} {w : World} {K : PySem.W.Frag} {mg : Str → Option Value} {base : Heap}
def spWhole (K : PySem.W.Frag) : Sp := fun vs H Q _ => ∃ x t b1 b2, vs = [x] ∧ TyOf K H x t ∧ PySem.W.kitOne K t (.type "int") = some b1 ∧ PySem.W.kitOne K t (.type "bool") = some b2 ∧ Q (.bl (b1 && !b2)) H
theorem scWhole : FnScope ["thing"] ["thing"] (defScope s_is_whole) := ⟨rfl, rfl, rfl, by decide +kernel, rfl, by decide +kernel, by decide +kernel⟩
theorem ok_whole {f : Addr} {fd : FuncData} (F : Fun K "is_whole" "is_whole" s_is_whole f fd) (B : Bl mg) : FnOk P w K mg base CX0 1 f fd ["thing"] (spWhole K) := by
  refine F.ok scWhole (fun vs H Q E h => ?_) (fun cdv A outer s H vs Q E hr h => ?_)
  · obtain ⟨x, t, b1, b2, rfl, _⟩ := h
    rfl
  · obtain ⟨x, t, b1, b2, rfl, ty, e1, e2, q⟩ := h
    refine ⟨_, pss_one (ps_ret (pe_and (pe_isi B.isi (pa_cons (pv 0) (pa_cons (pe_tyInt B.int) pa_nil))) (pe_one (pe_not (pe_isi B.isi (pa_cons (pv 0) (pa_cons (pe_tyBool B.bool) pa_nil))))))), ?_⟩
    refine ⟨x, rfl, x, "int", t, b1, rfl, ty, e1, b1, rfl, ?_⟩
    cases b1 with
    | true =>
      refine iteT ⟨x, rfl, x, "bool", t, b2, rfl, ty, e2, b2, rfl, ?_⟩
      exact q
    | false => exact iteF q
def spIsTurn : Sp := fun vs H Q _ => ∃ (a : Addr) (ns : List Int), vs = [.ref a] ∧ H a = some (.lst (ns.map V.int)) ∧ ∀ (b : Bool) (H' : Hp), Same H H' → (b = true ↔ ns.length ≤ 40 ∧ IsT ns) → Q (.bl b) H'
theorem scIsTurn : FnScope ["thing", "seen", "place"] ["thing"] (defScope s_is_turn) := ⟨rfl, rfl, rfl, by decide +kernel, rfl, by decide +kernel, by decide +kernel⟩
theorem ok_isTurn {f : Addr} {fd : FuncData} (F : Fun K "is_turn" "is_turn" s_is_turn f fd) (B : Bl mg) (mt : ∃ t, mg "MOST_THINGS_turns" = some (.int 40 t)) (cW : Cal P w K mg base "is_whole" 1 ["thing"] (spWhole K)) : FnOk P w K mg base CX0 2 f fd ["thing"] spIsTurn := by
  refine F.ok scIsTurn (fun vs H Q E h => ?_) (fun cdv A outer s H vs Q E hr h => ?_)
  · obtain ⟨a, ns, rfl, _⟩ := h
    rfl
  · obtain ⟨a, ns, rfl, ha, k⟩ := h
    obtain ⟨tk, mt⟩ := mt
    have hu := hu_of hr
    refine ⟨_, pss_cons (ps_if (pw_or (pt_not (pt_val (pe_isi B.isi (pa_cons (pv 0) (pa_cons (pe_tyList B.list) pa_nil))))) (pw_or1 (pt_cmpR op_gt (pe_lenL B.len (pa_cons (pv 0) pa_nil)) (pe_glob (v := .int 40) (by rfl) mt ⟨tk, rfl⟩) (nomark _)))).pt (pss_one (ps_ret pe_bl)) pss_nil)
      (pss_cons (ps_set (i := 1) scIsTurn.nd rfl (Or.inl rfl) pe_dnewK)
      (pss_cons (ps_for PassesOwn.never rfl (pi_list (pv 0)) (pg_name (i := 2) scIsTurn.nd rfl (Or.inl rfl))
        (pss_cons (ps_if (pw_or (pt_not (pt_val (pe_cal cW hr (pa_cons (pv 2) pa_nil)))) (pw_or (pt_cmpR op_lt (pv 2) pe_int (nomark _)) (pw_or (pt_cmpR op_ge (pv 2) (pe_lenL B.len (pa_cons (pv 0) pa_nil)) (nomark _)) (pw_or1 (pt_cmp (pc_din hu (pv 2) (pv 1))))))).pt (pss_one (ps_ret pe_bl)) pss_nil)
        (pss_one (ps_dput hu (pv 1) (pv 2) pe_bl rfl))))
      (pss_one (ps_ret pe_bl)))), ?_⟩
    refine ⟨_, rfl, _, "list", _, true, rfl, .lst ha, kit_same K "list", true, rfl, ?_⟩
    refine iteF ⟨_, rfl, a, _, rfl, .inl (SqL.of ha), _, _, rfl, rfl, _, rfl, ?_⟩
    rw [List.length_map]
    refine ite2 (fun h40 => ?_) (fun h40 => ?_)
    · have h40 : (40 : Int) < (ns.length : Int) := of_decide_eq_true h40
      exact k false H (Same.refl H) ⟨fun z => (by cases z), fun z => (by have := z.1; omega)⟩
    · have h40 : ¬ (40 : Int) < (ns.length : Int) := fun z => h40 (decide_eq_true z)
      intro d hd
      have nad : a ≠ d := ne_of_none ha hd
      have ha1 : (upd H d (.dK [])) a = some (.lst (ns.map V.int)) := by rw [upd_ne nad]; exact ha
      refine ⟨_, rfl, a, rfl, ⟨_, SqL.of ha1⟩, for_list (K := K) (a := a) (xs := ns.map V.int) (fun i σ H2 => ∃ v : Option V, σ = [some (.ref a), some (.ref d), v] ∧ Same H H2 ∧ H2 d = some (.dK (seenK (ns.take i))) ∧ (ns.take i).Nodup ∧ ∀ x ∈ ns.take i, 0 ≤ x ∧ x < ns.length)
        ⟨none, rfl, Same.upd_new hd, upd_same, List.nodup_nil, fun x hx => by simp at hx⟩ (fun i σ H2 _ ⟨_, _, s2, _⟩ => SqL.of (s2 a _ ha)) ?_ ?_⟩
      · rintro i y σ H2 hi ⟨v, rfl, s2, h2, nd, bd⟩
        obtain ⟨z, hz, rfl⟩ := getElem_int hi
        have ha2 := s2 a _ ha
        have hil : i < ns.length := (List.getElem?_eq_some_iff.mp hz).1
        refine ⟨_, rfl, .int z, _, true, false, rfl, .int z, kit_same K "int", kit_int_bool K, _, rfl, ?_⟩
        refine iteF ⟨_, rfl, _, _, rfl, rfl, _, rfl, ?_⟩
        refine ite2 (fun hz0 => ?_) (fun hz0 => ?_)
        · have hz0 : z < 0 := of_decide_eq_true hz0
          exact iteT (k false H2 s2 ⟨fun q => (by cases q), fun q => (by have := q.2.lo z (List.mem_of_getElem? hz); omega)⟩)
        have hz0 : ¬ z < 0 := fun q => hz0 (decide_eq_true q)
        refine ⟨_, rfl, _, rfl, a, _, rfl, .inl (SqL.of ha2), _, _, rfl, rfl, _, rfl, ?_⟩
        rw [List.length_map]
        refine ite2 (fun hz1 => ?_) (fun hz1 => ?_)
        · have hz1 : (ns.length : Int) ≤ z := of_decide_eq_true hz1
          exact iteT (k false H2 s2 ⟨fun q => (by cases q), fun q => (by have := q.2.hi z (List.mem_of_getElem? hz); omega)⟩)
        have hz1 : ¬ (ns.length : Int) ≤ z := fun q => hz1 (decide_eq_true q)
        refine ⟨_, rfl, _, rfl, d, _, rfl, DGet.k (k := Sum.inl z) h2, _, rfl, ?_⟩
        by_cases hm : z ∈ ns.take i
        · rw [seenK_in hm]
          refine iteT (k false H2 s2 ⟨fun q => (by cases q), fun q => ?_⟩)
          exfalso
          obtain ⟨j, hj⟩ := List.mem_iff_getElem?.mp hm
          have hjl : j < i := by
            have := (List.getElem?_eq_some_iff.mp hj).1
            rw [List.length_take] at this
            omega
          rw [List.getElem?_take_of_lt hjl] at hj
          have e1 := (List.getElem?_eq_some_iff.mp hj).2
          have e2 := (List.getElem?_eq_some_iff.mp hz).2
          exact List.pairwise_iff_getElem.mp (List.nodup_iff_pairwise_ne.mp q.2.nd) j i (by omega) hil hjl (by rw [e1, e2])
        · rw [seenK_no hm]
          refine iteF ⟨_, rfl, _, rfl, d, _, rfl, DPut.k (k := Sum.inl z) h2 (small1000 (by unfold seenK; rw [List.length_map, List.length_take]; omega)), ?_⟩
          have hds : ∀ b o, H b = some o → b ≠ d := fun b o e => ne_of_none e hd
          refine ⟨some (.int z), rfl, fun b o e => by rw [upd_ne (hds b o e)]; exact s2 b o e, ?_, ?_, ?_⟩
          · rw [seenK_put hm, upd_same, take_succ_of hz]
          · rw [take_succ_of hz]; exact nd_snoc nd hm
          · intro x hx
            rw [take_succ_of hz] at hx
            rcases List.mem_append.mp hx with q | q
            · exact bd x q
            · have : x = z := by simpa using q
              omega
      · rintro σ H2 ⟨v, rfl, s2, h2, nd, bd⟩
        rw [List.length_map, List.take_length] at nd bd
        refine k true H2 s2 ⟨fun _ => ⟨by omega, ⟨nd, fun x hx => (bd x hx).1, fun x hx => (bd x hx).2⟩⟩, fun _ => rfl⟩
end
end My
namespace My
open PySem L2 Mth
section
variable {P : Program} {w : World} {K : PySem.W.Frag} {mg : Str → Option Value} {base : Heap}
def TurnAt (H : Hp) (a : Addr) (p : List Int) : Prop := H a = some (.lst (p.map V.int)) ∧ IsT p ∧ p.length ≤ 40
end
end My
namespace My
open PySem L2 Mth
section
variable {P : Program} {w : World} {K : PySem.W.Frag} {mg : Str → Option Value} {base : Heap}
def spMust : Sp := fun vs H Q _ => ∃ (a : Addr) (ns : List Int), vs = [.ref a] ∧ TurnAt H a ns ∧ ∀ (H' : Hp), Same H H' → Q .non H'
theorem scMust : FnScope ["thing"] ["thing"] (defScope s_must_be_turn) := ⟨rfl, rfl, rfl, by decide +kernel, rfl, by decide +kernel, by decide +kernel⟩
theorem ok_must {f : Addr} {fd : FuncData} (F : Fun K "must_be_turn" "must_be_turn" s_must_be_turn f fd) (cT : Cal P w K mg base "is_turn" 2 ["thing"] spIsTurn) : FnOk P w K mg base CX0 3 f fd ["thing"] spMust := by
  refine F.ok scMust (fun vs H Q E h => ?_) (fun cdv A outer s H vs Q E hr h => ?_)
  · obtain ⟨a, ns, rfl, _⟩ := h
    rfl
  · obtain ⟨a, ns, rfl, ⟨ha, ht, hl⟩, k⟩ := h
    refine ⟨_, pss_one (ps_if (pt_not (pt_val (pe_cal cT hr (pa_cons (pv 0) pa_nil)))) (pss_one ps_never) pss_nil), ?_⟩
    refine ⟨_, rfl, a, ns, rfl, ha, fun b H' s' hb => ⟨b, rfl, ?_⟩⟩
    have : b = true := hb.mpr ⟨hl, ht⟩
    subst this
    exact iteF (k H' s')
end
end My
namespace My
open PySem L2 Mth
section
variable {P : Program} {w : World} {K : PySem.W.Frag} {mg : Str → Option Value} {base : Heap}
def spPool (K : PySem.W.Frag) : Sp := fun vs H Q _ => ∃ (a : Addr) (ns : List Int) (k : Int), vs = [.ref a, .int k] ∧ SqL K H a (ns.map V.int) ∧ 0 ≤ k ∧ k ≤ 100 ∧ ∀ (l : Addr) (H' : Hp), H l = none → Same H H' → PoolAt H' l 4300 → Q (.ref l) H'
theorem scPool : FnScope ["script", "k", "cell"] ["script", "k"] (defScope s_law_pool) := ⟨rfl, rfl, rfl, by decide +kernel, rfl, by decide +kernel, by decide +kernel⟩
theorem ok_pool {f : Addr} {fd : FuncData} (F : Fun K "_law_pool" "_law_pool" s_law_pool f fd) (B : Bl mg) : FnOk P w K mg base CX0 1 f fd ["script", "k"] (spPool K) := by
  refine F.ok scPool (fun vs H Q E h => ?_) (fun cdv A outer s H vs Q E hr h => ?_)
  · obtain ⟨a, ns, k, rfl, _⟩ := h
    rfl
  · obtain ⟨a, ns, k, rfl, ha, k0, k1, q⟩ := h
    refine ⟨_, pss_cons (ps_set (i := 2) scPool.nd rfl (Or.inl rfl) pe_int)
      (pss_cons (ps_if (pt_cmpR op_lt (pv 1) (pe_lenL B.len (pa_cons (pv 0) pa_nil)) (nomark _)) (pss_one (ps_set (i := 2) scPool.nd rfl (Or.inl rfl) (pe_ix ix_list (pv 0) (pv 1) (fun _ _ => rfl)))) pss_nil)
      (pss_one (ps_ret (pe_lst (pa_cons (pv 2) (pa_cons (pe_intB B.int (pa_cons (pe_cmpR op_ge (pv 2) (pe_op op_pow pe_int pe_int) (nomark _)) pa_nil)) (pa_cons (pe_op op_mul pe_int (pv 1)) pa_nil))))))), ?_⟩
    refine ⟨_, rfl, _, rfl, a, _, rfl, .inl ha, _, _, rfl, rfl, _, rfl, ?_⟩
    rw [List.length_map]
    have cp : CPow 10 18 := ⟨by decide, by decide, by decide⟩
    refine ite2 (fun h => ?_) (fun h => ?_)
    · have h : k < (ns.length : Int) := of_decide_eq_true h
      refine ⟨_, rfl, _, rfl, a, _, k, _, rfl, rfl, ha, atI_map k0 h, ?_⟩
      refine ⟨_, rfl, _, rfl, _, _, rfl, rfl, cp, _, _, rfl, rfl, _, rfl, _, rfl, _, _, rfl, rfl, .inl ⟨by decide, by decide⟩, (by show 3 ≤ sizeLine; decide), fun l hl => ?_⟩
      exact q l _ hl (Same.upd_new hl) ⟨_, _, _, upd_same, by omega, by omega⟩
    · refine ⟨_, rfl, _, rfl, _, _, rfl, rfl, cp, _, _, rfl, rfl, _, rfl, _, rfl, _, _, rfl, rfl, .inl ⟨by decide, by decide⟩, (by show 3 ≤ sizeLine; decide), fun l hl => ?_⟩
      exact q l _ hl (Same.upd_new hl) ⟨_, _, _, upd_same, by omega, by omega⟩
def spTake : Sp := fun vs H Q _ => ∃ (a : Addr) (c : Nat) (m : Int), vs = [.ref a, .int m] ∧ PoolAt H a c ∧ c ≤ 1000000 ∧ 0 < m ∧ m ≤ 1000000000000000000000000000000 ∧ ∀ (r : Int) (H' : Hp), 0 ≤ r → r < m → PoolAt H' a (c + 1) → KeepBut a H H' → Q (.int r) H'
theorem scTake : FnScope ["pool", "many", "found", "x"] ["pool", "many"] (defScope s_law_draw) := ⟨rfl, rfl, rfl, by decide +kernel, rfl, by decide +kernel, by decide +kernel⟩
theorem ok_take {f : Addr} {fd : FuncData} (F : Fun K "_law_draw" "_law_draw" s_law_draw f fd) : FnOk P w K mg base CX0 1 f fd ["pool", "many"] spTake := by
  refine F.ok scTake (fun vs H Q E h => ?_) (fun cdv A outer s H vs Q E hr h => ?_)
  · obtain ⟨a, c, m, rfl, _⟩ := h
    rfl
  · obtain ⟨a, c, m, rfl, ⟨x, y, z, ha, hz, hzc⟩, hc, m0, m1, q⟩ := h
    refine ⟨_, pss_cons (ps_if (pt_cmpR op_eq (pe_ix ix_list (pv 0) pe_int (fun _ _ => rfl)) pe_int (nomark _))
        (pss_cons (ps_set (i := 2) scTake.nd rfl (Or.inl rfl) (pe_op op_mod (pe_ix ix_list (pv 0) pe_int (fun _ _ => rfl)) (pv 1)))
        (pss_cons (ps_asg (pe_op op_fdivB (pe_ix ix_list (pv 0) pe_int (fun _ _ => rfl)) (pv 1)) (pg_sub (pv 0) pe_int set_list))
        (pss_one (ps_ret (pv 2))))) pss_nil)
      (pss_cons (ps_asg (pe_op op_add (pe_ix ix_list (pv 0) pe_int (fun _ _ => rfl)) pe_int) (pg_sub (pv 0) pe_int set_list))
      (pss_cons (ps_set (i := 3) scTake.nd rfl (Or.inl rfl) (pe_op op_mod (pe_op op_add (pe_op op_mod (pe_ix ix_list (pv 0) pe_int (fun _ _ => rfl)) pe_int) (pe_op op_mul pe_int (pe_ix ix_list (pv 0) pe_int (fun _ _ => rfl)))) pe_int))
      (pss_cons (ps_set (i := 3) scTake.nd rfl (Or.inl rfl) (pe_op op_mod (pe_op op_mul (pv 3) (pv 3)) pe_int))
      (pss_cons (ps_set (i := 3) scTake.nd rfl (Or.inl rfl) (pe_op op_mod (pe_op op_mul (pe_op op_add (pv 3) pe_int) (pv 3)) pe_int))
      (pss_one (ps_ret (pe_op op_mod (pe_op op_fdiv (pv 3) pe_int) (pv 1)))))))), ?_⟩
    refine ⟨_, rfl, a, _, _, _, rfl, rfl, SqL.of ha, (atI_nat (j := 1) rfl), rfl, _, rfl, ?_⟩
    refine ite2 (fun h => ?_) (fun h => ?_)
    · refine ⟨_, rfl, a, _, _, _, rfl, rfl, SqL.of ha, (atI_nat (j := 0) rfl), _, rfl, _, _, rfl, rfl, m0, ?_⟩
      refine ⟨_, rfl, a, _, _, _, rfl, rfl, SqL.of ha, (atI_nat (j := 0) rfl), _, rfl, _, _, rfl, rfl, ⟨m0, m1⟩, ?_⟩
      refine ⟨_, rfl, a, _, _, 0, rfl, rfl, ha, rfl, ?_⟩
      refine ⟨_, rfl, q _ _ (Int.emod_nonneg _ (by omega)) (Int.emod_lt_of_pos _ m0) ⟨_, _, _, upd_same, hz, by omega⟩ KeepBut.upd⟩
    · refine ⟨_, rfl, a, _, _, _, rfl, rfl, SqL.of ha, (atI_nat (j := 2) rfl), _, _, rfl, rfl, ?_⟩
      refine ⟨_, rfl, a, _, _, 2, rfl, rfl, ha, rfl, ?_⟩
      have ha2 : (upd H a (.lst [.int x, .int y, .int (z + 1)])) a = some (.lst [.int x, .int y, .int (z + 1)]) := upd_same
      have e64 : (2 : Int) ^ 64 = 18446744073709551616 := by decide
      refine ⟨_, rfl, a, _, _, _, rfl, rfl, SqL.of ha2, (atI_nat (j := 0) rfl), _, _, rfl, rfl, (by show (0 : Int) < 999999999989; decide), _, rfl, a, _, _, _, rfl, rfl, SqL.of ha2, (atI_nat (j := 2) rfl), _, _, rfl, rfl, .inl ⟨by decide, by decide⟩, _, _, rfl, rfl, _, _, rfl, rfl, (by show (0 : Int) < 999999999989; decide), ?_⟩
      refine ⟨_, rfl, _, rfl, _, _, rfl, rfl, .inl ⟨by rw [e64]; omega, by rw [e64]; omega⟩, _, _, rfl, rfl, (by show (0 : Int) < 1000000000039; decide), ?_⟩
      refine ⟨_, rfl, _, _, rfl, rfl, _, rfl, _, _, rfl, rfl, .inl ⟨by rw [e64]; omega, by rw [e64]; omega⟩, _, _, rfl, rfl, (by show (0 : Int) < 999999999961; decide), ?_⟩
      refine ⟨_, rfl, _, _, rfl, rfl, ⟨by decide, by decide⟩, _, rfl, _, _, rfl, rfl, m0, ?_⟩
      exact q _ _ (Int.emod_nonneg _ (by omega)) (Int.emod_lt_of_pos _ m0) ⟨_, _, _, upd_same, by omega, by omega⟩ KeepBut.upd
def lenAt (H : Hp) (l : Addr) : Nat := match H l with
  | some (.lst xs) => xs.length
  | _ => 0
theorem lenAt_of {H : Hp} {l : Addr} {xs : List V} (h : H l = some (.lst xs)) : lenAt H l = xs.length := by unfold lenAt; rw [h]
def spTurn : Sp := fun vs H Q _ => ∃ (a : Addr) (c : Nat) (m : Int), vs = [.ref a, .int m] ∧ PoolAt H a c ∧ 0 ≤ m ∧ m ≤ 40 ∧ c ≤ 800000 ∧
  ∀ (l : Addr) (p : List Int) (H' : Hp), H l = none → IsT p → (p.length : Int) = m → H' l = some (.lst (p.map V.int)) → PoolAt H' a (c + 100) → KeepBut a H H' → Q (.ref l) H'
theorem scTurn : FnScope ["pool", "many", "left", "row", "most", "found", "at", "part", "k", "thing"] ["pool", "many"] (defScope s_law_turn) := ⟨rfl, rfl, rfl, by decide +kernel, rfl, by decide +kernel, by decide +kernel⟩
theorem ok_turn {f : Addr} {fd : FuncData} (F : Fun K "_law_turn" "_law_turn" s_law_turn f fd) (B : Bl mg) (cT : Cal P w K mg base "_law_draw" 1 ["pool", "many"] spTake) : FnOk P w K mg base CX0 2 f fd ["pool", "many"] spTurn := by
  refine F.ok scTurn (fun vs H Q E h => ?_) (fun cdv A outer s H vs Q E hr h => ?_)
  · obtain ⟨a, c, m, rfl, _⟩ := h
    rfl
  · obtain ⟨a, c, n, rfl, hp, n0, n1, hc, q⟩ := h
    have hu := hu_of hr
    refine ⟨_, pss_cons (ps_set (i := 2) scTurn.nd rfl (Or.inl rfl) (pe_listRng rfl B.list B.range (pa_cons (pv 1) pa_nil)))
      (pss_cons (ps_set (i := 3) scTurn.nd rfl (Or.inl rfl) (pe_lst pa_nil))
      (pss_cons (ps_while PassesOwn.never (pt_cmpR (op_neL 0 hu) (pv 2) (pe_lst pa_nil) (nomark _))
        (pss_one (ps_expr (pe_append (pv 3) (pa_cons (pe_popAt (pv 2) (pa_cons (pe_cal cT hr (pa_cons (pv 0) (pa_cons (pe_lenL B.len (pa_cons (pv 2) pa_nil)) pa_nil))) pa_nil)) pa_nil)))))
      (pss_cons (ps_if (pt_cmpR op_eq (pe_cal cT hr (pa_cons (pv 0) (pa_cons pe_int pa_nil))) pe_int (nomark _)) (pss_one (ps_ret (pv 3))) pss_nil)
      (pss_cons (ps_set (i := 4) scTurn.nd rfl (Or.inl rfl) (pe_op op_add pe_int (pe_cal cT hr (pa_cons (pv 0) (pa_cons pe_int pa_nil)))))
      (pss_cons (ps_set (i := 5) scTurn.nd rfl (Or.inl rfl) (pe_listRng rfl B.list B.range (pa_cons (pv 1) pa_nil)))
      (pss_cons (ps_set (i := 6) scTurn.nd rfl (Or.inl rfl) pe_int)
      (pss_cons (ps_while PassesOwn.never (pt_cmpR op_lt (pv 6) (pv 1) (nomark _))
        (pss_cons (ps_set (i := 7) scTurn.nd rfl (Or.inl rfl) (pe_slice sl_list (pv 3) (po_some (pv 6)) (po_some (pe_op op_add (pe_op op_add (pv 6) pe_int) (pe_cal cT hr (pa_cons (pv 0) (pa_cons (pv 4) pa_nil)))))))
        (pss_cons (ps_for PassesOwn.never rfl (pi_enum B.enum (pa_cons (pv 7) pa_nil)) (pg_tup rfl (pgs_cons (pg_name (i := 8) scTurn.nd rfl (Or.inl rfl)) (pgs_cons (pg_name (i := 9) scTurn.nd rfl (Or.inl rfl)) pgs_nil)))
          (pss_one (ps_asg (pe_ix ix_list (pv 7) (pe_op op_mod (pe_op op_add (pv 8) pe_int) (pe_lenL B.len (pa_cons (pv 7) pa_nil))) (fun _ _ => rfl)) (pg_sub (pv 5) (pv 9) set_list))))
        (pss_one (ps_set (i := 6) scTurn.nd rfl (Or.inl rfl) (pe_op op_add (pv 6) (pe_lenL B.len (pa_cons (pv 7) pa_nil))))))))
      (pss_one (ps_ret (pv 5)))))))))), ?_⟩
    obtain ⟨px, py, pz, hpa, hpz, hpz'⟩ := id hp
    refine ⟨_, rfl, _, rfl, fun r hr' => ⟨r, 0, n, rfl, upd_same, ⟨by decide, by decide, by omega, by omega⟩, by omega, fun l hl => ?_⟩⟩
    have hlr : l ≠ r := fun z => by rw [z, upd_same] at hl; cases hl
    have hl0 : H l = none := by rw [upd_ne hlr] at hl; exact hl
    have s1 : Same H (upd (upd H r (.rng 0 n)) l (.lst ((upTo 0 (n - 0).toNat).map V.int))) := (Same.upd_new hr').upd_r hl0
    have e0 : (n - 0).toNat = n.toNat := by rw [Int.sub_zero]
    rw [e0] at s1
    rw [e0]
    have h1l : (upd (upd H r (.rng 0 n)) l (.lst ((upTo 0 n.toNat).map V.int))) l = some (.lst ((upTo 0 n.toNat).map V.int)) := upd_same
    generalize (upd (upd H r (.rng 0 n)) l (.lst ((upTo 0 n.toNat).map V.int))) = H1 at s1 h1l ⊢
    refine ⟨Nat.zero_le _, fun m hm => ?_⟩
    have hm0 : H m = none := s1.free hm
    have nal : a ≠ l := ne_of_none hpa hl0
    have nam : a ≠ m := ne_of_none hpa hm0
    have hml : m ≠ l := fun z => by rw [z, h1l] at hm; cases hm
    refine while_by (fun σ H2 => ∃ (ls fs : List V), σ = [some (.ref a), some (.int n), some (.ref l), some (.ref m), none, none, none, none, none, none] ∧ H2 l = some (.lst ls) ∧ H2 m = some (.lst fs) ∧ (fs ++ ls).Perm ((upTo 0 n.toNat).map V.int) ∧ PoolAt H2 a (c + fs.length) ∧ KeepBut a H H2) (fun σ H2 => lenAt H2 l)
      ⟨(upTo 0 n.toNat).map V.int, [], rfl, by rw [upd_ne hml.symm]; exact h1l, upd_same, List.Perm.refl _, ⟨px, py, pz, by rw [upd_ne nam]; exact s1 a _ hpa, hpz, hpz'⟩, fun b o hb _ => by rw [upd_ne (ne_of_none hb hm0)]; exact s1 b o hb⟩ ?_ ?_
    · rintro σ H2 ⟨ls, fs, rfl, h2l, h2m, pm, ⟨x, y, z, h2a, hz0, hz1⟩, kb⟩
      refine ⟨_, rfl, Nat.zero_le _, fun e he => ?_⟩
      have nle : l ≠ e := ne_of_none h2l he
      have nme : m ≠ e := ne_of_none h2m he
      have nae : a ≠ e := ne_of_none h2a he
      refine ⟨l, e, ls, [], ls.isEmpty, rfl, rfl, SqL.of (by rw [upd_ne nle]; exact h2l), SqL.of upd_same, leq_nil _ _ _ _, _, rfl, ?_⟩
      have hlen : fs.length + ls.length = n.toNat := by
        have := pm.length_eq
        rw [List.length_append, List.length_map, length_upTo] at this
        exact this
      cases ls with
      | nil =>
        refine iteF ?_
        rw [List.append_nil] at pm
        obtain ⟨ts, rfl, hts⟩ := perm_ints pm
        obtain ⟨hT, hTl⟩ := isT_of_perm hts
        rw [List.length_map] at hz1
        have h3m : (upd H2 e (.lst [])) m = some (.lst (ts.map V.int)) := by rw [upd_ne nme]; exact h2m
        have P3 : PoolAt (upd H2 e (.lst [])) a (c + 40) := ⟨x, y, z, by rw [upd_ne nae]; exact h2a, hz0, by omega⟩
        have kb3 : KeepBut a H (upd H2 e (.lst [])) := fun b o hb hn => by
          have := kb b o hb hn
          rw [upd_ne (ne_of_none this he)]; exact this
        generalize (upd H2 e (.lst [])) = H3 at h3m P3 kb3 ⊢
        refine ⟨_, rfl, a, c + 40, 2, rfl, P3, by omega, by decide, by decide, fun r1 H4 r10 r11 P4 kb34 => ⟨rfl, _, rfl, ?_⟩⟩
        have h4m := kb34 m _ h3m nam.symm
        have kb4 := kb3.trans kb34
        refine ite2 (fun _ => ⟨_, rfl, q m ts H4 hm0 hT (by omega) h4m (P4.mono (by omega)) kb4⟩) (fun _ => ?_)
        refine ⟨_, rfl, a, c + 41, 4, rfl, P4, by omega, by decide, by decide, fun r2 H5 r20 r21 P5 kb45 => ⟨_, _, rfl, rfl, ?_⟩⟩
        have h5m := kb45 m _ h4m nam.symm
        have kb5 := kb4.trans kb45
        obtain ⟨x5, y5, z5, h5a, hz5, hz5'⟩ := id P5
        refine ⟨_, rfl, _, rfl, fun r' hr'' => ⟨r', 0, n, rfl, upd_same, ⟨by decide, by decide, by omega, by omega⟩, by omega, fun fo hfo => ?_⟩⟩
        rw [e0]
        have hfr : fo ≠ r' := fun z => by rw [z, upd_same] at hfo; cases hfo
        have hfo5 : H5 fo = none := by rw [upd_ne hfr] at hfo; exact hfo
        have s6 : Same H5 (upd (upd H5 r' (.rng 0 n)) fo (.lst ((upTo 0 n.toNat).map V.int))) := (Same.upd_new hr'').upd_r hfo5
        have h6f : (upd (upd H5 r' (.rng 0 n)) fo (.lst ((upTo 0 n.toNat).map V.int))) fo = some (.lst ((upTo 0 n.toNat).map V.int)) := upd_same
        generalize (upd (upd H5 r' (.rng 0 n)) fo (.lst ((upTo 0 n.toNat).map V.int))) = H6 at s6 h6f ⊢
        have h6m := s6 m _ h5m
        have naf : a ≠ fo := ne_of_none h5a hfo5
        have hmf : m ≠ fo := ne_of_none h5m hfo5
        have hfo0 : H fo = none := by
          cases ee : H fo with
          | none => rfl
          | some o => have := kb5 fo o ee naf.symm; rw [hfo5] at this; cases this
        have kb6 : KeepBut a H H6 := fun b o hb hn => s6 b o (kb5 b o hb hn)
        have P6 : PoolAt H6 a (c + 42) := ⟨x5, y5, z5, s6 a _ h5a, hz5, hz5'⟩
        have mob : 1 ≤ 1 + r2 ∧ 1 + r2 ≤ 4 := by omega
        obtain ⟨mo, hmo⟩ : ∃ mo, mo = 1 + r2 := ⟨_, rfl⟩
        rw [← hmo] at mob
        refine ⟨fun mm σ H7 => ∃ (fs qs : List Int) (k : Nat) (v7 v8 v9 : Option V), σ = [some (.ref a), some (.int n), some (.ref l), some (.ref m), some (.int mo), some (.ref fo), some (.int (k : Int)), v7, v8, v9] ∧ k ≤ ts.length ∧ H7 fo = some (.lst (fs.map V.int)) ∧ H7 m = some (.lst (ts.map V.int)) ∧ fs.length = ts.length ∧ qs.Perm (ts.take k) ∧ (ts.take k).map (at0 fs) = qs.map some ∧ PoolAt H7 a (c + 42 + k) ∧ KeepBut a H H7 ∧ mm = ts.length - k,
          ⟨ts.length, _, [], 0, none, none, none, by rw [hmo]; rfl, Nat.zero_le _, h6f, h6m, by rw [length_upTo, hTl], List.Perm.refl _, rfl, P6, kb6, by omega⟩, ?_⟩
        rintro mm σ H7 ⟨fs, qs, k, v7, v8, v9, rfl, hk, h7f, h7m, hfl, hq, hmap, P7, kb7, rfl⟩
        refine ⟨_, rfl, _, rfl, _, _, rfl, rfl, _, rfl, ?_⟩
        refine ite2 (fun hlt => ?_) (fun hge => ?_)
        · have hlt : (k : Int) < n := of_decide_eq_true hlt
          have hkl : k < ts.length := by omega
          refine ⟨fun σ' H' => ∃ m', m' < ts.length - k ∧ _, fun _ _ h => h, ?_⟩
          refine ⟨_, rfl, _, rfl, _, rfl, _, rfl, _, _, rfl, rfl, _, rfl, _, rfl, a, c + 42 + k, mo, rfl, P7, by omega, by omega, by omega, fun r3 H8 r30 r31 P8 kb78 => ⟨_, _, rfl, rfl, _, rfl, ?_⟩⟩
          have h8m := kb78 m _ h7m nam.symm
          have h8f := kb78 fo _ h7f naf.symm
          have kb8 := kb7.trans kb78
          refine ⟨m, _, rfl, SqL.of h8m, fun pa hpa' => ?_⟩
          obtain ⟨rn, rfl⟩ := Int.eq_ofNat_of_zero_le r30
          have ecut : cutV (ts.map V.int) (some (k : Int)) (some ((k : Int) + 1 + (rn : Int))) = (((ts.drop k).take (min (k + 1 + rn) ts.length - k))).map V.int := by
            rw [show (k : Int) + 1 + (rn : Int) = ((k + 1 + rn : Nat) : Int) by omega, cut_mid _ _ _ (by rw [List.length_map]; exact hk), List.length_map, List.map_take, List.map_drop]
          rw [ecut]
          obtain ⟨L, hL⟩ : ∃ L, L = min (k + 1 + rn) ts.length - k := ⟨_, rfl⟩
          rw [← hL]
          have L1 : 1 ≤ L := by omega
          have hkL : k + L ≤ ts.length := by omega
          have segL : ((ts.drop k).take L).length = L := by rw [List.length_take, List.length_drop]; omega
          have segAt : ∀ u, u < L → ((ts.drop k).take L)[u]? = some (ts.getD (k + u) 0) := fun u hu => by
            rw [List.getElem?_take_of_lt hu, List.getElem?_drop, getD_eq (by omega), List.getElem?_eq_getElem (by omega)]
          have s89 : Same H8 (upd H8 pa (.lst (((ts.drop k).take L).map V.int))) := Same.upd_new hpa'
          have h9p : (upd H8 pa (.lst (((ts.drop k).take L).map V.int))) pa = some (.lst (((ts.drop k).take L).map V.int)) := upd_same
          generalize (upd H8 pa (.lst (((ts.drop k).take L).map V.int))) = H9 at s89 h9p ⊢
          obtain ⟨seg, hseg⟩ : ∃ seg, seg = (ts.drop k).take L := ⟨_, rfl⟩
          rw [← hseg] at segL segAt h9p
          have h9m := s89 m _ h8m
          have h9f := s89 fo _ h8f
          have kb9 : KeepBut a H H9 := fun b o hb hn => s89 b o (kb8 b o hb hn)
          have P9 : PoolAt H9 a (c + 43 + k) := by
            obtain ⟨x, y, z, e, z0, z1⟩ := id P8
            exact ⟨x, y, z, s89 a _ e, z0, by omega⟩
          have npf : pa ≠ fo := fun z => by rw [z, h8f] at hpa'; cases hpa'
          have npm : pa ≠ m := fun z => by rw [z, h8m] at hpa'; cases hpa'
          refine ⟨_, rfl, pa, rfl, ⟨_, SqL.of h9p⟩, for_enum (K := K) (a := pa) (xs := seg.map V.int) (fun j σ H10 => ∃ (fs' : List Int) (v8' v9' : Option V), σ = [some (.ref a), some (.int n), some (.ref l), some (.ref m), some (.int mo), some (.ref fo), some (.int (k : Int)), some (.ref pa), v8', v9'] ∧ H10 fo = some (.lst (fs'.map V.int)) ∧ H10 m = some (.lst (ts.map V.int)) ∧ H10 pa = some (.lst (seg.map V.int)) ∧ fs'.length = ts.length ∧ (ts.take k).map (at0 fs') = qs.map some ∧ (∀ u, u < j → at0 fs' (ts.getD (k + u) 0) = some (ts.getD (k + (u + 1) % L) 0)) ∧ PoolAt H10 a (c + 43 + k) ∧ KeepBut a H H10)
            ⟨fs, v8, v9, rfl, h9f, h9m, h9p, hfl, hmap, fun u hu => by omega, P9, kb9⟩ (fun j σ H10 _ ⟨_, _, _, _, _, _, h, _⟩ => SqL.of h) ?_ ?_⟩
          · rintro j y σ H10 t hj ⟨fs', v8', v9', rfl, h10f, h10m, h10p, hfl', hmap', hu', P10, kb10⟩ ht
            obtain ⟨zz, hzz, rfl⟩ := getElem_int hj
            have hjL : j < L := by rw [← segL]; exact (List.getElem?_eq_some_iff.mp hzz).1
            have ezz : zz = ts.getD (k + j) 0 := by
              rw [segAt j hjL] at hzz
              exact (Option.some.inj hzz).symm
            subst ezz
            have hjm : (j + 1) % L < L := Nat.mod_lt _ (by omega)
            have hi1 : k + j < ts.length := by omega
            have s1011 : Same H10 (upd H10 t (.tup [.int (j : Int), .int (ts.getD (k + j) 0)])) := Same.upd_new ht
            refine ⟨t, _, rfl, SqT.of upd_same, rfl, _, _, rfl, _, _, rfl, rfl, ?_⟩
            generalize (upd H10 t (.tup [.int (j : Int), .int (ts.getD (k + j) 0)])) = H11 at s1011 ⊢
            have h11p := s1011 pa _ h10p
            have h11f := s1011 fo _ h10f
            have hat1 : atI (seg.map V.int) (((j : Int) + 1) % ((seg.map V.int).length : Int)) = some (.int (ts.getD (k + (j + 1) % L) 0)) := by
              rw [List.length_map, segL, show ((j : Int) + 1) % (L : Int) = (((j + 1) % L : Nat) : Int) by rw [Int.natCast_emod]; rfl]
              exact atI_nat (by rw [List.getElem?_map, segAt _ hjm]; rfl)
            refine ⟨_, rfl, _, rfl, _, _, rfl, rfl, _, rfl, pa, _, rfl, .inl (SqL.of h11p), _, _, rfl, rfl, (by rw [List.length_map, segL]; show (0 : Int) < (L : Int); omega), pa, _, _, _, rfl, rfl, SqL.of h11p, hat1, ?_⟩
            have htv : ts.getD (k + j) 0 ∈ ts := by rw [getD_eq hi1]; exact List.getElem_mem hi1
            have t0 := hT.lo _ htv
            have t1 := hT.hi _ htv
            refine ⟨_, rfl, _, rfl, fo, _, _, (ts.getD (k + j) 0).toNat, rfl, rfl, h11f, ?_, ?_⟩
            · unfold ixN
              rw [List.length_map, if_pos t0, if_pos (by omega)]
            have es : (fs'.map V.int).set (ts.getD (k + j) 0).toNat (.int (ts.getD (k + (j + 1) % L) 0)) = (fs'.set (ts.getD (k + j) 0).toNat (ts.getD (k + (j + 1) % L) 0)).map V.int := by rw [List.map_set]
            rw [es]
            refine ⟨_, _, _, rfl, upd_same, by rw [upd_ne hmf]; exact s1011 m _ h10m, by rw [upd_ne npf]; exact h11p, by rw [List.length_set]; exact hfl', ?_, ?_, ?_, fun b o hb hn => by rw [upd_ne (ne_of_none hb hfo0)]; exact s1011 b o (kb10 b o hb hn)⟩
            · rw [← hmap']
              refine List.map_congr_left fun u hu => ?_
              have hut := List.mem_of_mem_take hu
              refine at0_ne (hT.lo u hut) t0 fun z => ?_
              obtain ⟨jj, hjj⟩ := List.mem_iff_getElem?.mp hu
              have hjk : jj < k := by
                have := (List.getElem?_eq_some_iff.mp hjj).1
                rw [List.length_take] at this
                omega
              rw [List.getElem?_take_of_lt hjk] at hjj
              have := (List.getElem?_eq_some_iff.mp hjj).2
              exact nodup_getD hT.nd (i := jj) (j := k + j) (by omega) hi1 (by omega) (by rw [getD_eq (show jj < ts.length by omega), this]; exact z)
            · intro u hu
              by_cases huj : u = j
              · subst huj
                exact at0_same (by omega)
              · have huj' : u < j := by omega
                rw [at0_ne (hT.lo _ (by rw [getD_eq (show k + u < ts.length by omega)]; exact List.getElem_mem _)) t0 (nodup_getD hT.nd (by omega) hi1 (by omega))]
                exact hu' u huj'
            · obtain ⟨x, y, z, e, z0, z1⟩ := id P10
              exact ⟨x, y, z, by rw [upd_ne naf]; exact s1011 a _ e, z0, z1⟩
          · rintro σ H10 ⟨fs', v8', v9', rfl, h10f, h10m, h10p, hfl', hmap', hu', P10, kb10⟩
            rw [List.length_map, segL] at hu'
            obtain ⟨qs', hq', hmap''⟩ := seg_done L1 hkL hmap' hq hu'
            refine ⟨_, rfl, _, rfl, pa, _, rfl, .inl (SqL.of h10p), _, _, rfl, rfl, ts.length - (k + L), by omega, fs', qs', k + L, some (.ref pa), v8', v9', ?_, by omega, h10f, h10m, hfl', hq', hmap'', P10.mono (by omega), kb10, rfl⟩
            rw [List.length_map, segL, show ((k + L : Nat) : Int) = (k : Int) + (L : Int) by omega]; rfl
        · have hge : ¬ (k : Int) < n := fun z => hge (decide_eq_true z)
          have hkl : k = ts.length := by omega
          rw [hkl, List.take_length] at hq hmap
          have := (perm_along hT hfl hmap).trans (hq.trans hts)
          obtain ⟨hF, hFl⟩ := isT_of_perm this
          exact ⟨_, rfl, q fo fs H7 hfo0 hF (by omega) h7f (P7.mono (by omega)) kb7⟩
      | cons g rr =>
        refine iteT ?_
        have h3m : (upd H2 e (.lst [])) m = some (.lst fs) := by rw [upd_ne nme]; exact h2m
        have h3l : (upd H2 e (.lst [])) l = some (.lst (g :: rr)) := by rw [upd_ne nle]; exact h2l
        refine ⟨_, rfl, .inl ⟨rfl, _, SqL.of h3m⟩, _, rfl, .inl ⟨rfl, _, SqL.of h3l⟩, _, rfl, _, rfl, l, _, rfl, .inl (SqL.of h3l), a, c + fs.length, _, rfl, ⟨x, y, z, by rw [upd_ne nae]; exact h2a, hz0, hz1⟩, by simp only [List.length_cons] at hlen; omega, by simp only [List.length_cons]; omega, by simp only [List.length_cons] at *; omega, ?_⟩
        intro j H4 j0 j1 ⟨x', y', z', h4a, hz0', hz1'⟩ kb4
        have h4l := kb4 l _ h3l nal.symm
        have h4m := kb4 m _ h3m nam.symm
        obtain ⟨jn, rfl⟩ := Int.eq_ofNat_of_zero_le j0
        have hjl : jn < (g :: rr).length := by simp only [List.length_cons] at j1 ⊢; omega
        refine ⟨l, _, _, jn, (g :: rr)[jn], rfl, rfl, h4l, by omega, by simp only [List.length_cons] at *; omega, ?_, List.getElem?_eq_getElem hjl, ?_⟩
        · have : ixN (g :: rr).length (jn : Int) = some jn := by
            unfold ixN
            rw [if_pos (by omega), if_pos (by omega)]
            simp
          exact (ixN_seq this).1
        have h5m : (upd H4 l (.lst ((g :: rr).eraseIdx jn))) m = some (.lst fs) := by rw [upd_ne hml]; exact h4m
        refine ⟨m, _, _, rfl, rfl, h5m, small1000 (by simp only [List.length_cons] at hlen; omega), ?_⟩
        have e5 : (upd (upd H4 l (.lst ((g :: rr).eraseIdx jn))) m (.lst (fs ++ [(g :: rr)[jn]]))) l = some (.lst ((g :: rr).eraseIdx jn)) := by rw [upd_ne hml.symm, upd_same]
        refine ⟨⟨_, _, rfl, e5, upd_same, ?_, ⟨x', y', z', by rw [upd_ne nam, upd_ne nal]; exact h4a, hz0', by rw [List.length_append]; exact hz1'⟩, ?_⟩, ?_⟩
        · have pe := perm_erase (l := g :: rr) (k := jn) (List.getElem?_eq_getElem hjl)
          refine List.Perm.trans ?_ pm
          rw [List.append_assoc]
          exact List.Perm.append_left fs pe
        · intro b o hb hn
          have b2 := kb b o hb hn
          have b3 : (upd H2 e (.lst [])) b = some o := by rw [upd_ne (ne_of_none b2 he)]; exact b2
          have b4 := kb4 b o b3 hn
          rw [upd_ne (ne_of_none hb hm0), upd_ne (ne_of_none hb hl0)]
          exact b4
        · rw [lenAt_of e5, lenAt_of h2l, List.length_eraseIdx_of_lt hjl]
          simp only [List.length_cons] at *
          omega
    · rintro σ H2 Q Q' hq ⟨v, hv, h1, h2⟩
      refine ⟨v, hv, h1, fun e he => ?_⟩
      obtain ⟨a1, b1, xs1, ys1, r1, e1, e2, e3, e4, e5, k1, e6, e7⟩ := h2 e he
      exact ⟨a1, b1, xs1, ys1, r1, e1, e2, e3, e4, e5, k1, e6, hq _ _ e7⟩
end
end My
namespace My
open PySem L2 Mth
section
variable {P : Program} {w : World} {K : PySem.W.Frag} {mg : Str → Option Value} {base : Heap} {q_TurnError q_NoTurn q_NoFit q_NoRounds q_NoNumber q_NoRoot q_TooMany q_NoKind q_NoText q_NoName q_NoRow : Addr}
def OddV (K : PySem.W.Frag) (H : Hp) (x : V) : Prop := ∃ t b1 b2, TyOf K H x t ∧ PySem.W.kitOne K t (.type "int") = some b1 ∧ PySem.W.kitOne K t (.type "bool") = some b2 ∧ (b1 && !b2) = false
def NoTurnV (K : PySem.W.Frag) (H : Hp) (v : V) : Prop := (∃ t, TyOf K H v t ∧ PySem.W.kitOne K t (.type "list") = some false) ∨
  ∃ (a : Addr) (xs : List V), v = .ref a ∧ H a = some (.lst xs) ∧ (∀ x ∈ xs, (∃ i : Int, x = .int i) ∨ OddV K H x) ∧ ∀ p : List Int, xs = p.map V.int → p.length ≤ 40 → ¬ IsT p
theorem tyOf_same {K : PySem.W.Frag} {H H' : Hp} {v : V} {t : Value} (h : TyOf K H v t) (s : Same H H') : TyOf K H' v t := by
  cases h with
  | non => exact .non
  | bl x => exact .bl x
  | int i => exact .int i
  | str x => exact .str x
  | flt x => exact .flt x
  | lst e => exact .lst (s _ _ e)
  | frz e => exact .frz (s _ _ e)
  | tup e => exact .tup (s _ _ e)
  | dK e => exact .dK (s _ _ e)
  | dT e => exact .dT (s _ _ e)
  | ins e a b c d f => exact .ins (s _ _ e) a b c d f
theorem OddV.keep {K : PySem.W.Frag} {H H' : Hp} {x : V} (h : OddV K H x) (s : Same H H') : OddV K H' x := by
  obtain ⟨t, b1, b2, ty, r⟩ := h
  exact ⟨t, b1, b2, tyOf_same ty s, r⟩
theorem NoTurnV.keep {K : PySem.W.Frag} {H H' : Hp} {v : V} (h : NoTurnV K H v) (s : Same H H') : NoTurnV K H' v := by
  rcases h with ⟨t, ty, r⟩ | ⟨a, xs, e, ha, el, no⟩
  · exact .inl ⟨t, tyOf_same ty s, r⟩
  · exact .inr ⟨a, xs, e, s _ _ ha, fun x hx => (el x hx).imp id fun z => z.keep s, no⟩
def spTurnX (K : PySem.W.Frag) : Sp := fun vs H Q _ => ∃ v, vs = [v] ∧ NoTurnV K H v ∧ ∀ H', Same H H' → Q (.bl false) H'
theorem sc_is_turn : FnScope ["thing", "seen", "place"] ["thing"] (defScope s_is_turn) := ⟨rfl, rfl, rfl, by decide +kernel, rfl, by decide +kernel, by decide +kernel⟩
theorem ok_is_turn {f : Addr} {fd : FuncData} (F : Fun K "is_turn" "is_turn" s_is_turn f fd) (B : Bl mg) (g_MOST_THINGS_turns : ∃ t, mg "MOST_THINGS_turns" = some (.int 40 t)) (c_is_whole : Cal P w K mg base "is_whole" 1 ["thing"] (spWhole K)) : FnOk P w K mg base CX0 2 f fd ["thing"] (spTurnX K) := by
  refine F.ok sc_is_turn (fun vs H Q E h => ?_) (fun cdv A outer s H vs Q E hr h => ?_)
  · obtain ⟨v, rfl, no, k⟩ := h
    rfl
  · obtain ⟨v, rfl, no, k⟩ := h
    obtain ⟨_, m_MOST_THINGS_turns⟩ := g_MOST_THINGS_turns
    have hr_is_whole : Room 1 _ := hr.mono (by decide)
    have hu := hu_of hr
    refine ⟨_, @pss_cons _ _ _ _ _ (@ps_if _ _ _ _ _ _ _ _ (@pw_or _ _ _ _ _ _ _ (@pt_not _ _ _ _ (@pt_val _ _ _ (@pe_isi _ _ _ _ _ _ B.isi (@pa_cons _ _ _ _ _ (pv 0) (@pa_cons _ _ _ _ _ (@pe_tyList _ _ B.list (by rfl)) (@pa_nil _) (by rfl)) (by rfl)) (by rfl) (by rfl) (by rfl)) (by intro _; rfl))) (@pw_or1 _ _ _ _ (@pt_cmpR _ _ _ _ _ _ _ _ op_gt (@pe_lenL _ _ _ _ _ B.len (@pa_cons _ _ _ _ _ (pv 0) (@pa_nil _) (by rfl)) (by rfl) (by rfl)) (@pe_glob _ _ (.int 40) _ _ (by rfl) m_MOST_THINGS_turns ⟨_, rfl⟩ (by decide)) (nomark _)))).pt (@pss_one _ _ _ (@ps_ret _ _ _ _ (@pe_bl _ _ _ _))) (@pss_nil _)) (@pss_cons _ _ _ _ _ (@ps_set _ _ (1) _ _ _ _ sc_is_turn.nd rfl (Or.inl rfl) (@pe_dnewK _ _) (by rfl) (by first | exact .inl rfl | exact .inr rfl | assumption)) (@pss_cons _ _ _ _ _ (@ps_for _ _ _ _ _ _ _ _ PassesOwn.never rfl (@pi_list _ _ _ _ (pv 0)) (@pg_name _ _ (2) _ sc_is_turn.nd rfl (Or.inl rfl) (by first | exact .inl rfl | exact .inr rfl | assumption)) (@pss_cons _ _ _ _ _ (@ps_if _ _ _ _ _ _ _ _ (@pw_or _ _ _ _ _ _ _ (@pt_not _ _ _ _ (@pt_val _ _ _ (@pe_cal _ _ _ _ _ _ _ _ _ _ c_is_whole hr_is_whole (@pa_cons _ _ _ _ _ (pv 2) (@pa_nil _) (by rfl)) (by rfl) (by decide) (by rfl) (by rfl)) (by intro _; rfl))) (@pw_or _ _ _ _ _ _ _ (@pt_cmpR _ _ _ _ _ _ _ _ op_lt (pv 2) (@pe_int _ _ _ _) (nomark _)) (@pw_or _ _ _ _ _ _ _ (@pt_cmpR _ _ _ _ _ _ _ _ op_ge (pv 2) (@pe_lenL _ _ _ _ _ B.len (@pa_cons _ _ _ _ _ (pv 0) (@pa_nil _) (by rfl)) (by rfl) (by rfl)) (nomark _)) (@pw_or1 _ _ _ _ (@pt_cmp _ _ _ _ _ _ (@pc_din _ _ _ _ _ hu (pv 2) (pv 1)) (by first | exact nobehind _ (by decide) (by decide) | rfl)))))).pt (@pss_one _ _ _ (@ps_ret _ _ _ _ (@pe_bl _ _ _ _))) (@pss_nil _)) (@pss_one _ _ _ (@ps_dput _ _ _ _ _ _ _ _ _ hu (pv 1) (pv 2) (@pe_bl _ _ _ _) rfl))) (by intro _; rfl)) (@pss_one _ _ _ (@ps_ret _ _ _ _ (@pe_bl _ _ _ _))))), ?_⟩
    rcases no with ⟨t, ty, kt⟩ | ⟨a, xs, rfl, ha, el, no⟩
    · refine ⟨_, rfl, v, "list", t, false, rfl, ty, kt, false, rfl, ?_⟩
      exact iteT (k H (Same.refl H))
    · refine ⟨_, rfl, _, "list", _, true, rfl, .lst ha, kit_same K "list", true, rfl, ?_⟩
      refine iteF ⟨_, rfl, a, _, rfl, .inl (SqL.of ha), _, _, rfl, rfl, _, rfl, ?_⟩
      refine ite2 (fun h40 => k H (Same.refl H)) (fun h40 => ?_)
      have h40 : ¬ (40 : Int) < (xs.length : Int) := fun z => h40 (decide_eq_true z)
      intro d hd
      have nad : a ≠ d := ne_of_none ha hd
      have ha1 : (upd H d (.dK [])) a = some (.lst xs) := by rw [upd_ne nad]; exact ha
      refine ⟨_, rfl, a, rfl, ⟨_, SqL.of ha1⟩, for_list (K := K) (a := a) (xs := xs) (fun i σ H2 => ∃ (v : Option V) (p : List Int), σ = [some (.ref a), some (.ref d), v] ∧ Same H H2 ∧ xs.take i = p.map V.int ∧ H2 d = some (.dK (seenK p)) ∧ p.Nodup ∧ ∀ x ∈ p, 0 ≤ x ∧ x < xs.length)
        ⟨none, [], rfl, Same.upd_new hd, rfl, upd_same, List.nodup_nil, fun x hx => by simp at hx⟩ (fun i σ H2 _ ⟨_, _, _, s2, _⟩ => SqL.of (s2 a _ ha)) ?_ ?_⟩
      · rintro i y σ H2 hi ⟨v, p, rfl, s2, hp, h2, nd, bd⟩
        have ha2 := s2 a _ ha
        have hil : i < xs.length := (List.getElem?_eq_some_iff.mp hi).1
        rcases el y (List.mem_of_getElem? hi) with ⟨z, rfl⟩ | odd
        · refine ⟨_, rfl, .int z, _, true, false, rfl, .int z, kit_same K "int", kit_int_bool K, _, rfl, ?_⟩
          refine iteF ⟨_, rfl, _, _, rfl, rfl, _, rfl, ?_⟩
          refine ite2 (fun hz0 => iteT (k H2 s2)) (fun hz0 => ?_)
          have hz0 : ¬ z < 0 := fun q => hz0 (decide_eq_true q)
          refine ⟨_, rfl, _, rfl, a, _, rfl, .inl (SqL.of ha2), _, _, rfl, rfl, _, rfl, ?_⟩
          refine ite2 (fun hz1 => iteT (k H2 s2)) (fun hz1 => ?_)
          have hz1 : ¬ (xs.length : Int) ≤ z := fun q => hz1 (decide_eq_true q)
          refine ⟨_, rfl, _, rfl, d, _, rfl, DGet.k (k := Sum.inl z) h2, _, rfl, ?_⟩
          have lp : p.length ≤ i := by
            have := congrArg List.length hp
            rw [List.length_take, List.length_map] at this
            omega
          by_cases hm : z ∈ p
          · rw [seenK_in hm]
            exact iteT (k H2 s2)
          · rw [seenK_no hm]
            refine iteF ⟨_, rfl, _, rfl, d, _, rfl, DPut.k (k := Sum.inl z) h2 (small1000 (by unfold seenK; rw [List.length_map]; omega)), ?_⟩
            refine ⟨some (.int z), p ++ [z], rfl, fun b o e => by rw [upd_ne (ne_of_none e hd)]; exact s2 b o e, ?_, ?_, ?_, ?_⟩
            · rw [take_succ_of hi, hp, List.map_append]; rfl
            · rw [seenK_put hm, upd_same]
            · exact nd_snoc nd hm
            · intro x hx
              rcases List.mem_append.mp hx with q | q
              · exact bd x q
              · have : x = z := by simpa using q
                omega
        · obtain ⟨t, b1, b2, ty, e1, e2, e3⟩ := odd.keep s2
          refine ⟨_, rfl, y, t, b1, b2, rfl, ty, e1, e2, _, rfl, ?_⟩
          rw [e3]
          exact iteT (k H2 s2)
      · rintro σ H2 ⟨v, p, rfl, s2, hp, h2, nd, bd⟩
        rw [List.take_length] at hp
        have lp : xs.length = p.length := by rw [hp, List.length_map]
        exact absurd (show IsT p from ⟨nd, fun x hx => (bd x hx).1, fun x hx => by have := (bd x hx).2; omega⟩) (no p hp (by omega))
def spMustX (K : PySem.W.Frag) (q : Addr) : Sp := fun vs H _ E => ∃ v, vs = [v] ∧ NoTurnV K H v ∧ ∀ H', Same H H' → E (.ref q) none H'
theorem sc_must_be_turn : FnScope ["thing"] ["thing"] (defScope s_must_be_turn) := scMust
theorem okx_must_be_turn {f : Addr} {fd : FuncData} (F : Fun K "must_be_turn" "must_be_turn" s_must_be_turn f fd) (c_is_turn : Cal P w K mg base "is_turn" 2 ["thing"] (orSp spIsTurn (spTurnX K))) (e_NoTurn : Err K mg "NoTurn" q_NoTurn) : FnOk P w K mg base (CX1 P w) 3 f fd ["thing"] (spMustX K q_NoTurn) := by
  refine F.okx sc_must_be_turn (fun vs H Q E h => ?_) (fun cdv A outer s H vs Q E hr h => ?_)
  · obtain ⟨v, rfl, no, k⟩ := h
    rfl
  · obtain ⟨v, rfl, no, k⟩ := h
    have hr_is_turn : Room 2 _ := hr.mono (by decide)
    refine ⟨_, @pss_one _ _ _ (@ps_if _ _ _ _ _ _ _ _ (@pt_not _ _ _ _ (@pt_val _ _ _ (@pe_cal _ _ _ _ _ _ _ _ _ _ c_is_turn hr_is_turn (@pa_cons _ _ _ _ _ (pv 0) (@pa_nil _) (by rfl)) (by rfl) (by decide) (by rfl) (by rfl)) (by intro _; rfl))) (@pss_one _ _ _ (@ps_raise _ _ _ _ _ _ _ _ _ raises_cx rfl e_NoTurn (@pe_str _ _ _ _) (by rfl) (by rfl) (by decide))) (@pss_nil _)), ?_⟩
    refine ⟨_, rfl, .inr ⟨v, rfl, no, fun H' s => ⟨false, rfl, ?_⟩⟩⟩
    exact iteT (k H' s)
theorem sc_rounds_of : FnScope ["p"] ["p"] (defScope s_rounds_of) := ⟨rfl, rfl, rfl, by decide +kernel, rfl, by decide +kernel, by decide +kernel⟩
theorem okx_rounds_of {f : Addr} {fd : FuncData} (F : Fun K "rounds_of" "rounds_of" s_rounds_of f fd) (c_must_be_turn : CalX P w K mg base "must_be_turn" 3 ["thing"] (fun vs H Q E => spMust vs H Q E ∨ (spMustX K q_NoTurn) vs H Q E)) : FnOk P w K mg base (CX1 P w) 4 f fd ["p"] (spMustX K q_NoTurn) := by
  refine F.okx sc_rounds_of (fun vs H Q E h => ?_) (fun cdv A outer s H vs Q E hr h => ?_)
  · obtain ⟨v, rfl, no, k⟩ := h
    rfl
  · obtain ⟨v, rfl, no, k⟩ := h
    have hr_must_be_turn : Room 3 _ := hr.mono (by decide)
    refine ⟨_, @pss_cons _ _ _ _ _ (@ps_expr _ _ _ _ (@pe_calx _ _ _ _ _ _ _ _ _ _ _ c_must_be_turn hr_must_be_turn (@passes_cx _ _ _ _ _ _ _ _ _ _ _ _ _ _ _ _ fun _ _ _ h => h) (@pa_cons _ _ _ _ _ (pv 0) (@pa_nil _) (by rfl)) (by rfl) (by decide) (by rfl) (by rfl)) (by rfl)) (@pss_never _ _), ?_⟩
    exact ⟨_, rfl, .inr ⟨v, rfl, no, k⟩⟩
end
end My
namespace My
open PySem L2 Mth
section
variable {P : Program} {w : World} {K : PySem.W.Frag} {mg : Str → Option Value} {base : Heap} {q_TurnError q_NoTurn q_NoFit q_NoRounds q_NoNumber q_NoRoot q_TooMany q_NoKind q_NoText q_NoName q_NoRow : Addr}
inductive Cpb (H : Hp) : Nat → V → Prop
  | non {n : Nat} : Cpb H n .non
  | bl {n : Nat} (b : Bool) : Cpb H n (.bl b)
  | int {n : Nat} (i : Int) : Cpb H n (.int i)
  | str {n : Nat} (x : Str) : Cpb H n (.str x)
  | tup {n : Nat} {a : Addr} {xs : List V} (e : H a = some (.tup xs)) : Cpb H n (.ref a)
  | dic {n : Nat} {a : Addr} (e : H a = some (.dK [])) : Cpb H n (.ref a)
  | lst {n : Nat} {a : Addr} {xs : List V} (e : H a = some (.lst xs)) (l : xs.length ≤ 1000) (h : ∀ x ∈ xs, Cpb H n x) : Cpb H (n + 1) (.ref a)
theorem Cpb.keep {H H' : Hp} (s : Same H H') {n : Nat} {v : V} (h : Cpb H n v) : Cpb H' n v := by
  induction h with
  | non => exact .non
  | bl b => exact .bl b
  | int i => exact .int i
  | str x => exact .str x
  | tup e => exact .tup (s _ _ e)
  | dic e => exact .dic (s _ _ e)
  | lst e l _ ih => exact .lst (s _ _ e) l ih
theorem Cpb.ints {H : Hp} {n : Nat} {a : Addr} {ns : List Int} (e : H a = some (.lst (ns.map V.int))) (l : ns.length ≤ 1000) : Cpb H (n + 1) (.ref a) :=
  .lst e (by rw [List.length_map]; exact l) fun x hx => by obtain ⟨i, _, rfl⟩ := List.mem_map.mp hx; exact .int i
inductive CpR (H : Hp) : Nat → V → V → Prop
  | same {n : Nat} {v : V} (h : Cpb H n v) : CpR H n v v
  | lst {n : Nat} {a b : Addr} {xs ys : List V} (e : H a = some (.lst xs)) (e' : H b = some (.lst ys)) (ne : a ≠ b) (len : xs.length = ys.length) (h : ∀ (j : Nat) x y, xs[j]? = some x → ys[j]? = some y → CpR H n x y) : CpR H (n + 1) (.ref a) (.ref b)
theorem CpR.keep {H H' : Hp} (s : Same H H') {n : Nat} {v u : V} (h : CpR H n v u) : CpR H' n v u := by
  induction h with
  | same h => exact .same (h.keep s)
  | lst e e' ne len _ ih => exact .lst (s _ _ e) (s _ _ e') ne len ih
theorem CpR.eqD {H : Hp} {n : Nat} {v u : V} (h : CpR H n v u) : EqD K H n v u true := by
  induction h with
  | same h =>
    rename_i n v
    cases h with
    | non => exact EqD.flat (x := .non) (y := .non) rfl rfl
    | bl b =>
      have := EqD.flat (K := K) (H := H) (n := n) (x := .bl b) (y := .bl b) rfl rfl
      rw [show eqV (.bl b) (.bl b) = true by cases b <;> rfl] at this
      exact this
    | int i =>
      have := EqD.flat (K := K) (H := H) (n := n) (x := .int i) (y := .int i) rfl rfl
      rw [show eqV (.int i) (.int i) = true from decide_eq_true rfl] at this
      exact this
    | str x =>
      have := EqD.flat (K := K) (H := H) (n := n) (x := .str x) (y := .str x) rfl rfl
      rw [show eqV (.str x) (.str x) = true from decide_eq_true rfl] at this
      exact this
    | tup e => exact .same _
    | dic e => exact .same _
    | lst e l h => exact .same _
  | lst e e' ne len _ ih =>
    have := EqD.lists (K := K) (fun _ => true) ne (SqL.of e) (SqL.of e') len ih
    rw [show ((List.range _).all fun _ => true) = true from List.all_eq_true.mpr fun _ _ => rfl] at this
    exact this
theorem CpR.eqD2 {H : Hp} {n : Nat} {v u : V} (h : CpR H n v u) : EqD K H n u v true := by
  induction h with
  | same h => exact CpR.eqD (.same h)
  | lst e e' ne len _ ih =>
    have := EqD.lists (K := K) (fun _ => true) ne.symm (SqL.of e') (SqL.of e) len.symm fun j x y ex ey => ih j y x ey ex
    rw [show ((List.range _).all fun _ => true) = true from List.all_eq_true.mpr fun _ _ => rfl] at this
    exact this
theorem leq_true {H : Hp} {n : Nat} {xs ys : List V} (l : xs.length = ys.length) (h : ∀ (j : Nat) x y, xs[j]? = some x → ys[j]? = some y → EqD K H n x y true) : LEq K H n xs ys true :=
  .inr ⟨fun _ => true, l, h, by rw [eq_comm, all_range_iff]; exact fun _ _ => rfl⟩
theorem leq_two {H : Hp} {n : Nat} {a b c d : V} (h1 : EqD K H n a c true) (h2 : EqD K H n b d true) : LEq K H n [a, b] [c, d] true :=
  leq_true rfl fun j x y ex ey => by
    rcases j with _ | _ | j
    · cases ex; cases ey; exact h1
    · cases ex; cases ey; exact h2
    · simp at ex
theorem daA_of {H : Hp} : ∀ {xs ys : List V} {ds : List PyData}, DaA H xs ds → xs.length = ys.length → (∀ (j : Nat) x y d, xs[j]? = some x → ys[j]? = some y → Da H x d → Da H y d) → DaA H ys ds
  | [], [], _, .nil, _, _ => .nil
  | x :: xs, y :: ys, _, .cons h hs, l, f => .cons (f 0 x y _ rfl rfl h) (daA_of hs (by simpa using l) fun j a b d ea eb => f (j + 1) a b d ea eb)
theorem CpR.da {H : Hp} {n : Nat} {v u : V} (h : CpR H n v u) : ∀ {d : PyData}, Da H v d → Da H u d := by
  induction h with
  | same h => exact fun x => x
  | lst e e' ne len _ ih =>
    intro d hd
    cases hd with
    | lst e2 h2 =>
      rw [e] at e2
      cases e2
      exact .lst e' (daA_of h2 len fun j x y d ex ey hx => ih j x y ex ey hx)
    | tup e2 => rw [e] at e2; cases e2
    | dic e2 => rw [e] at e2; cases e2
theorem CpR.noT {H : Hp} {n : Nat} {v u : V} (h : CpR H n v u) (no : NoTurnV K H v) : NoTurnV K H u := by
  cases h with
  | same h => exact no
  | lst e e' ne len h =>
    rename_i m a b xs ys
    rcases no with ⟨t, ty, kt⟩ | ⟨a2, xs2, ea, e2, el, no⟩
    · have kl := kit_same K "list"
      cases ty with
      | lst e2 => rw [kl] at kt; cases kt
      | frz e2 => rw [e] at e2; cases e2
      | tup e2 => rw [e] at e2; cases e2
      | dK e2 => rw [e] at e2; cases e2
      | dT e2 => rw [e] at e2; cases e2
      | ins e2 _ _ _ _ _ => rw [e] at e2; cases e2
    · cases ea
      rw [e] at e2
      cases e2
      have at_ : ∀ (j : Nat) y, ys[j]? = some y → ∃ x, xs[j]? = some x ∧ CpR H m x y := fun j y ey => by
        have jl : j < xs.length := by rw [len]; exact (List.getElem?_eq_some_iff.mp ey).1
        exact ⟨_, List.getElem?_eq_getElem jl, h j _ y (List.getElem?_eq_getElem jl) ey⟩
      refine .inr ⟨b, ys, rfl, e', fun y hy => ?_, fun p ep lp => ?_⟩
      · obtain ⟨j, ej⟩ := List.getElem?_of_mem hy
        obtain ⟨x, ex, c⟩ := at_ j y ej
        cases c with
        | same c => exact el _ (List.mem_of_getElem? ex)
        | lst c1 c2 _ _ _ => exact .inr ⟨_, false, false, .lst c2, kit_list_int K, kit_list_bool K, rfl⟩
      · have : xs = ys := by
          refine List.ext_getElem? fun j => ?_
          cases ey : ys[j]? with
          | none =>
            rw [List.getElem?_eq_none_iff] at ey ⊢
            omega
          | some y =>
            obtain ⟨x, ex, c⟩ := at_ j y ey
            rw [ep, List.getElem?_map] at ey
            obtain ⟨i, _, rfl⟩ := Option.map_eq_some_iff.mp ey
            cases c with
            | same c => exact ex
        exact no p (this.trans ep) lp
def spCopy (n : Nat) : Sp := fun vs H Q _ => ∃ v, vs = [v] ∧ Cpb H n v ∧ ∀ u H', Same H H' → CpR H' n v u → Q u H'
theorem sc_law_copy : FnScope ["thing"] ["thing"] (defScope s_law_copy) := ⟨rfl, rfl, rfl, by decide +kernel, rfl, by decide +kernel, by decide +kernel⟩
theorem nd_one_law_copy : (["one"] : List Str).Nodup := by decide +kernel
theorem ok_law_copy {f : Addr} {fd : FuncData} (F : Fun K "_law_copy" "_law_copy" s_law_copy f fd) (B : Bl mg) : FnOk P w K mg base CX0 1 f fd ["thing"] (spCopy 0) := by
  refine F.ok sc_law_copy (fun vs H Q E h => ?_) (fun cdv A outer s H vs Q E hr h => ?_)
  · obtain ⟨v, rfl, c, q⟩ := h
    rfl
  · obtain ⟨v, rfl, c, q⟩ := h
    refine ⟨_, @pss_cons _ _ _ _ _ (@ps_if _ _ _ _ _ _ _ _ (@pt_val _ _ _ (@pe_isi _ _ _ _ _ _ B.isi (@pa_cons _ _ _ _ _ (pv 0) (@pa_cons _ _ _ _ _ (@pe_tyList _ _ B.list (by rfl)) (@pa_nil _) (by rfl)) (by rfl)) (by rfl) (by rfl) (by rfl)) (by intro _; rfl)) (@pss_one _ _ _ (@ps_ret _ _ _ _ (@pe_comp _ _ _ _ _ _ _ _ _ _ _ (["one"]) (1) ([]) rfl .of (@pi_list _ _ _ _ (pv 0)) (fun _ _ _ _ _ => @pg_name _ _ (0) _ nd_one_law_copy rfl (Or.inl rfl) (by first | exact .inl rfl | exact .inr rfl | assumption)) (fun _ _ _ _ _ => (@pifs_nil _)) (fun _ _ _ _ _ => (@pe_never _ _)) (by intro _; rfl)))) (@pss_nil _)) (@pss_one _ _ _ (@ps_ret _ _ _ _ (pv 0))), ?_⟩
    have fin := q v H (Same.refl H) (.same c)
    cases c with
    | non => exact ⟨_, rfl, _, "list", _, false, rfl, .non, kit_none_list K, false, rfl, iteF ⟨_, rfl, fin⟩⟩
    | bl b => exact ⟨_, rfl, _, "list", _, false, rfl, .bl b, kit_bool_list K, false, rfl, iteF ⟨_, rfl, fin⟩⟩
    | int i => exact ⟨_, rfl, _, "list", _, false, rfl, .int i, kit_int_list K, false, rfl, iteF ⟨_, rfl, fin⟩⟩
    | str x => exact ⟨_, rfl, _, "list", _, false, rfl, .str x, kit_str_list K, false, rfl, iteF ⟨_, rfl, fin⟩⟩
    | tup e => exact ⟨_, rfl, _, "list", _, false, rfl, .tup e, kit_tuple_list K, false, rfl, iteF ⟨_, rfl, fin⟩⟩
    | dic e => exact ⟨_, rfl, _, "list", _, false, rfl, .dK e, kit_dict_list K, false, rfl, iteF ⟨_, rfl, fin⟩⟩
theorem okr_law_copy {d k : Nat} {f : Addr} {fd : FuncData} (F : Fun K "_law_copy" "_law_copy" s_law_copy f fd) (B : Bl mg) (c_law_copy : Cal P w K mg base "_law_copy" k ["thing"] (spCopy d)) : FnOk P w K mg base CX0 (k + 1) f fd ["thing"] (spCopy (d + 1)) := by
  refine F.ok sc_law_copy (fun vs H Q E h => ?_) (fun cdv A outer s H vs Q E hr h => ?_)
  · obtain ⟨v, rfl, c, q⟩ := h
    rfl
  · obtain ⟨v, rfl, c, q⟩ := h
    have hr_law_copy : Room k _ := hr.mono (by omega)
    refine ⟨_, @pss_cons _ _ _ _ _ (@ps_if _ _ _ _ _ _ _ _ (@pt_val _ _ _ (@pe_isi _ _ _ _ _ _ B.isi (@pa_cons _ _ _ _ _ (pv 0) (@pa_cons _ _ _ _ _ (@pe_tyList _ _ B.list (by rfl)) (@pa_nil _) (by rfl)) (by rfl)) (by rfl) (by rfl) (by rfl)) (by intro _; rfl)) (@pss_one _ _ _ (@ps_ret _ _ _ _ (@pe_comp _ _ _ _ _ _ _ _ _ _ _ (["one"]) (1) ([]) rfl .of (@pi_list _ _ _ _ (pv 0)) (fun _ _ _ _ _ => @pg_name _ _ (0) _ nd_one_law_copy rfl (Or.inl rfl) (by first | exact .inl rfl | exact .inr rfl | assumption)) (fun _ _ _ _ _ => (@pifs_nil _)) (fun _ _ _ _ _ => (@pe_cal _ _ _ _ _ _ _ _ _ _ c_law_copy hr_law_copy (@pa_cons _ _ _ _ _ (pv 0) (@pa_nil _) (by rfl)) (by rfl) (by decide) (by rfl) (by rfl))) (by intro _; rfl)))) (@pss_nil _)) (@pss_one _ _ _ (@ps_ret _ _ _ _ (pv 0))), ?_⟩
    have fin := q v H (Same.refl H) (.same c)
    cases c with
    | non => exact ⟨_, rfl, _, "list", _, false, rfl, .non, kit_none_list K, false, rfl, iteF ⟨_, rfl, fin⟩⟩
    | bl b => exact ⟨_, rfl, _, "list", _, false, rfl, .bl b, kit_bool_list K, false, rfl, iteF ⟨_, rfl, fin⟩⟩
    | int i => exact ⟨_, rfl, _, "list", _, false, rfl, .int i, kit_int_list K, false, rfl, iteF ⟨_, rfl, fin⟩⟩
    | str x => exact ⟨_, rfl, _, "list", _, false, rfl, .str x, kit_str_list K, false, rfl, iteF ⟨_, rfl, fin⟩⟩
    | tup e => exact ⟨_, rfl, _, "list", _, false, rfl, .tup e, kit_tuple_list K, false, rfl, iteF ⟨_, rfl, fin⟩⟩
    | dic e => exact ⟨_, rfl, _, "list", _, false, rfl, .dK e, kit_dict_list K, false, rfl, iteF ⟨_, rfl, fin⟩⟩
    | lst e l h =>
      rename_i a xs
      refine ⟨_, rfl, _, "list", _, true, rfl, .lst e, kit_same K "list", true, rfl, iteT ?_⟩
      refine ⟨_, rfl, a, rfl, ⟨_, SqL.of e⟩, comp_list (K := K) (a := a) (xs := xs) (fun j ys σ H2 => ∃ v : Option V, σ = [v] ∧ Same H H2 ∧ ys.length = j ∧ ∀ (i : Nat) x y, xs[i]? = some x → ys[i]? = some y → CpR H2 d x y) ⟨none, rfl, Same.refl H, rfl, fun i x y _ ey => by simp at ey⟩ (fun j ys σ H2 _ ⟨_, _, s, _⟩ => SqL.of (s _ _ e)) ?_ ?_⟩
      · rintro j x ys σ H2 hj ⟨v, rfl, s2, ly, cp⟩
        have jl : j < xs.length := (List.getElem?_eq_some_iff.mp hj).1
        refine ⟨_, rfl, x, rfl, (h x (List.mem_of_getElem? hj)).keep s2, fun u H3 s3 c => ⟨small1000 (by omega), _, rfl, s2.trans s3, by rw [List.length_append, ly]; rfl, fun i x' y ex ey => ?_⟩⟩
        rcases Nat.lt_or_ge i ys.length with il | il
        · rw [List.getElem?_append_left il] at ey
          exact (cp i x' y ex ey).keep s3
        · have il2 : i < (ys ++ [u]).length := (List.getElem?_eq_some_iff.mp ey).1
          rw [List.length_append] at il2
          have ei : i = j := by simp at il2; omega
          subst ei
          rw [hj] at ex
          cases ex
          rw [List.getElem?_append_right il, ly, Nat.sub_self] at ey
          cases ey
          exact c
      · rintro ys σ H2 ⟨v, rfl, s2, ly, cp⟩ D hD
        have e2 := s2 _ _ e
        have s3 : Same H2 (upd H2 D (.lst ys)) := Same.upd_new hD
        exact q (.ref D) _ (s2.trans s3) (.lst (s3 _ _ e2) upd_same (ne_of_none e2 hD) (by omega) fun i x y ex ey => (cp i x y ex ey).keep s3)
end
end My
namespace My
open PySem L2 Mth
section
variable {P : Program} {w : World} {K : PySem.W.Frag} {mg : Str → Option Value} {base : Heap} {q_TurnError q_NoTurn q_NoFit q_NoRounds q_NoNumber q_NoRoot q_TooMany q_NoKind q_NoText q_NoName q_NoRow : Addr}
def hole (H : Hp) (g l : Addr) : Hp := fun a => if a = g ∨ a = l then none else H a
theorem hole_of {H : Hp} {g l a : Addr} {o : HO} (h : H a = some o) (ng : a ≠ g) (nl : a ≠ l) : hole H g l a = some o := by
  unfold hole
  rw [if_neg (fun z => z.elim ng nl)]; exact h
theorem hole_some {H : Hp} {g l a : Addr} {o : HO} (h : hole H g l a = some o) : H a = some o ∧ a ≠ g ∧ a ≠ l := by
  unfold hole at h
  by_cases z : a = g ∨ a = l
  · rw [if_pos z] at h; cases h
  · rw [if_neg z] at h; exact ⟨h, fun e => z (.inl e), fun e => z (.inr e)⟩
theorem hole_kb {H H' : Hp} {g l : Addr} (k : KeepBut g H H') : Same (hole H g l) (hole H' g l) := fun a o h => let ⟨e, ng, nl⟩ := hole_some h; hole_of (k a o e ng) ng nl
theorem hole_l {H : Hp} {g l : Addr} {o : HO} : Same (hole H g l) (hole (upd H l o) g l) := fun a u h => let ⟨e, ng, nl⟩ := hole_some h; hole_of (by rw [upd_ne nl]; exact e) ng nl
theorem hole_gg {H : Hp} {g l : Addr} : Same (hole H g l) (hole H g g) := fun a o h => let ⟨e, ng, _⟩ := hole_some h; hole_of e ng ng
theorem hole_same (H : Hp) (g l : Addr) : Same (hole H g l) H := fun a o h => (hole_some h).1
theorem log_ltk {k : Nat} (hk : 200 ≤ k) {i : Int} (h1 : -10000000000000000000000000000000000000000 ≤ i) (h2 : i ≤ 10000000000000000000000000000000000000000) : i.natAbs.log2 < k := by
  by_cases z : i.natAbs = 0
  · rw [z, Nat.log2_zero]; omega
  · refine (Nat.log2_lt z).mpr (Nat.lt_of_lt_of_le (m := 2 ^ 200) ?_ (Nat.pow_le_pow_right (by decide) hk))
    have e : (2 : Nat) ^ 200 = 1606938044258990275541962092341162602522202993782792835301376 := by decide
    rw [e]; omega
def Mod40 (i : Int) : Prop := -10000000000000000000000000000000000000000 ≤ i ∧ i ≤ 10000000000000000000000000000000000000000
def IE (M : Hp) (x : V) : Prop := ∃ d, Da M x d ∧ d.showable = true ∧ d.shown.length ≤ 2000 ∧ d.depth ≤ 3
theorem ie_int {M : Hp} {i : Int} (h : Mod40 i) : IE M (.int i) := by
  have lg : i.natAbs.log2 < 1920 := log_ltk (by decide) h.1 h.2
  refine ⟨_, .int i, by rw [PyData.showable]; exact decide_eq_true lg, ?_, by rw [PyData.depth]; decide⟩
  rw [PyData.shown]
  have : (Str.ofString (toString i)).length ≤ 1921 := by
    rw [ofString_length]; exact int_text_length_le (k := 1920) (by decide) lg
  exact Nat.le_trans this (by decide)
theorem ie_bl {M : Hp} (b : Bool) : IE M (.bl b) := ⟨_, .bl b, by rw [PyData.showable], by rw [PyData.shown]; cases b <;> decide, by rw [PyData.depth]; decide⟩
theorem ie_non {M : Hp} : IE M .non := ⟨_, .non, by rw [PyData.showable], by rw [PyData.shown]; decide, by rw [PyData.depth]; decide⟩
theorem ie_str {M : Hp} {x : Str} (h : (reprText x).length ≤ 2000) : IE M (.str x) := ⟨_, .str x, by rw [PyData.showable], by rw [PyData.shown]; exact h, by rw [PyData.depth]; decide⟩
theorem ie_dic {M : Hp} {a : Addr} (e : M a = some (.dK [])) : IE M (.ref a) := ⟨_, .dic e, by decide +kernel, by decide +kernel, by decide +kernel⟩
theorem ie_all {M : Hp} : ∀ {xs : List V}, (∀ x ∈ xs, IE M x) → ∃ ds, DaA M xs ds ∧ PyData.showableAll ds = true ∧ (∀ t ∈ PyData.shownAll ds, t.length ≤ 2000) ∧ (PyData.shownAll ds).length = xs.length ∧ PyData.depthAll ds ≤ 3
  | [], _ => ⟨[], .nil, by rw [PyData.showableAll], (fun t h => by rw [PyData.shownAll] at h; cases h), by rw [PyData.shownAll]; rfl, by rw [PyData.depthAll]; decide⟩
  | x :: xs, h => by
    obtain ⟨ds, h1, h2, h3, h4, h5⟩ := ie_all fun y hy => h y (List.mem_cons_of_mem _ hy)
    obtain ⟨d, g1, g2, g3, g4⟩ := h x List.mem_cons_self
    refine ⟨d :: ds, .cons g1 h1, by rw [PyData.showableAll, g2, h2]; rfl, fun t ht => ?_, by rw [PyData.shownAll, List.length_cons, List.length_cons, h4], by rw [PyData.depthAll]; omega⟩
    rw [PyData.shownAll] at ht
    rcases List.mem_cons.mp ht with z | z
    · rw [z]; exact g3
    · exact h3 t z
def Shows (M : Hp) (v : V) : Prop := ∃ d, Da M v d ∧ d.showable = true ∧ d.shown.length ≤ 700000 ∧ d.depth ≤ 4
theorem Shows.keep {M M' : Hp} {x : V} (h : Shows M x) (s : Same M M') : Shows M' x := let ⟨d, a, r⟩ := h; ⟨d, a.keep s, r⟩
theorem Shows.of {M : Hp} {x : V} (h : IE M x) : Shows M x := let ⟨d, a, b, c, e⟩ := h; ⟨d, a, b, by omega, by omega⟩
theorem shows_list {M : Hp} {a : Addr} {xs : List V} (h : M a = some (.lst xs)) (hx : ∀ x ∈ xs, IE M x) (l : xs.length ≤ 300) : Shows M (.ref a) := by
  obtain ⟨ds, h1, h2, h3, h4, h5⟩ := ie_all hx
  refine ⟨.list ds, .lst h h1, by rw [PyData.showable]; exact h2, ?_, by rw [PyData.depth]; omega⟩
  rw [PyData.shown]
  refine Nat.le_trans (listText_le h3) ?_
  rw [h4]
  have := Nat.mul_le_mul_right (2000 + 2) l
  omega
theorem shows_ints {M : Hp} {a : Addr} {ns : List Int} (h : M a = some (.lst (ns.map V.int))) (l : ns.length ≤ 300) (b : ∀ x ∈ ns, Mod40 x) : Shows M (.ref a) :=
  shows_list h (fun x hx => by obtain ⟨i, hi, rfl⟩ := List.mem_map.mp hx; exact ie_int (b i hi)) (by rw [List.length_map]; exact l)
theorem noT_ints {H : Hp} {a : Addr} {ns : List Int} (h : H a = some (.lst (ns.map V.int))) (no : ns.length ≤ 40 → ¬ IsT ns) : NoTurnV K H (.ref a) :=
  .inr ⟨a, _, rfl, h, fun x hx => by obtain ⟨i, _, rfl⟩ := List.mem_map.mp hx; exact .inl ⟨i, rfl⟩, fun p e l => by rw [map_int_inj e] at no; exact no l⟩
theorem noT_odd {H : Hp} {a : Addr} {xs : List V} {y : V} (h : H a = some (.lst xs)) (el : ∀ x ∈ xs, (∃ i : Int, x = .int i) ∨ OddV K H x) (hy : y ∈ xs) (ny : ∀ i : Int, y = .int i → i < 0 ∨ (xs.length : Int) ≤ i) : NoTurnV K H (.ref a) :=
  .inr ⟨a, xs, rfl, h, el, fun p e l t => by
    rw [e] at hy ny
    obtain ⟨i, hi, rfl⟩ := List.mem_map.mp hy
    have h1 := t.lo i hi
    have h2 := t.hi i hi
    rcases ny i rfl with z | z
    · omega
    · rw [List.length_map] at z; omega⟩
theorem odd_bl {H : Hp} (b : Bool) : OddV K H (.bl b) := ⟨_, true, true, .bl b, kit_bool_int K, kit_same K "bool", rfl⟩
theorem odd_non {H : Hp} : OddV K H .non := ⟨_, false, false, .non, kit_none_int K, kit_none_bool K, rfl⟩
theorem odd_str {H : Hp} (x : Str) : OddV K H (.str x) := ⟨_, false, false, .str x, kit_str_int K, kit_str_bool K, rfl⟩
theorem odd_lst {H : Hp} {a : Addr} {xs : List V} (h : H a = some (.lst xs)) : OddV K H (.ref a) := ⟨_, false, false, .lst h, kit_list_int K, kit_list_bool K, rfl⟩
structure BadV (K : PySem.W.Frag) (M : Hp) (v : V) : Prop where
  no : NoTurnV K M v
  cp : Cpb M 2 v
  sh : Shows M v
theorem BadV.keep {M M' : Hp} {v : V} (h : BadV K M v) (s : Same M M') : BadV K M' v := ⟨h.no.keep s, h.cp.keep s, h.sh.keep s⟩
theorem bad_ints {M : Hp} {a : Addr} {ns : List Int} (h : M a = some (.lst (ns.map V.int))) (no : ns.length ≤ 40 → ¬ IsT ns) (l : ns.length ≤ 300) (b : ∀ x ∈ ns, Mod40 x) : BadV K M (.ref a) :=
  ⟨noT_ints h no, Cpb.ints h (by omega), shows_ints h l b⟩
structure OddI (K : PySem.W.Frag) (M : Hp) (n : Nat) (y : V) : Prop where
  el : (∃ i : Int, y = .int i) ∨ OddV K M y
  ny : ∀ i : Int, y = .int i → i < 0 ∨ (n : Int) ≤ i
  cp : Cpb M 1 y
  sh : IE M y
theorem bad_odd {M : Hp} {a : Addr} {xs : List V} {y : V} {n : Nat} (h : M a = some (.lst xs)) (el : ∀ x ∈ xs, (∃ i : Int, x = .int i ∧ 0 ≤ i ∧ i ≤ 100) ∨ x = y) (hy : y ∈ xs) (l : xs.length = n) (n41 : n ≤ 300) (o : OddI K M n y) : BadV K M (.ref a) :=
  ⟨noT_odd h (fun x hx => by
      rcases el x hx with ⟨i, e, _⟩ | e
      · exact .inl ⟨i, e⟩
      · rw [e]; exact o.el) hy (fun i e => by have := o.ny i e; omega),
   .lst h (by omega) (fun x hx => by
      rcases el x hx with ⟨i, e, _⟩ | e
      · rw [e]; exact .int i
      · rw [e]; exact o.cp),
   shows_list h (fun x hx => by
      rcases el x hx with ⟨i, e, b1, b2⟩ | e
      · rw [e]; exact ie_int ⟨by omega, by omega⟩
      · rw [e]; exact o.sh) (by omega)⟩
theorem upTo_sorted (n : Nat) : (L2.upTo 0 n).Pairwise (· ≤ ·) := by
  unfold L2.upTo
  rw [List.pairwise_map]
  exact List.Pairwise.imp (fun {a b} h => by omega) List.pairwise_lt_range
theorem sorted_up {ms r : List Int} (h : ms.Perm r) (s : ms.Pairwise (· ≤ ·)) (t : IsT r) : ms = L2.upTo 0 r.length := by
  have h2 : ms.Perm (L2.upTo 0 r.length) := h.trans t.perm
  have := sorted_same (a := ms.reverse) (b := (L2.upTo 0 r.length).reverse) (((List.reverse_perm ms).trans h2).trans (List.reverse_perm _).symm) (by rw [List.pairwise_reverse]; exact s) (by rw [List.pairwise_reverse]; exact upTo_sorted _)
  exact List.reverse_inj.mp this
end
end My
namespace My
open PySem L2 Mth
section
variable {P : Program} {w : World} {K : PySem.W.Frag} {mg : Str → Option Value} {base : Heap} {q_TurnError q_NoTurn q_NoFit q_NoRounds q_NoNumber q_NoRoot q_TooMany q_NoKind q_NoText q_NoName q_NoRow : Addr}
theorem turn_keep {H H' : Hp} {a : Addr} {p : List Int} (h : TurnAt H a p) (s : Same H H') : TurnAt H' a p := ⟨s _ _ h.1, h.2⟩
theorem ps_forNever {X : Cx} {tg iter : Expr} {body : List Stmt} {ti : TE} {pos : Pos} (hi : PE X iter ti) (hs : ∀ x, foldedSetIterable iter X.env x = pure x := by intro _; rfl) : PS X (.For tg iter body [] pos) (fun _ σ H => ti σ H fun _ _ => False) := by
  intro pins s σ H D I h
  exact wpAny_For (thn (hi pins s σ H _ I h) fun v s1 ⟨x, H1, I1, r1, q1⟩ => q1.elim) hs
def spOneX (q : Addr) : Sp := fun vs H _ E => ∃ (n : Int), vs = [.int n] ∧ n < 1 ∧ E (.ref q) none H
theorem sc_must_be_from_one : FnScope ["number"] ["number"] (defScope s_must_be_from_one) := ⟨rfl, rfl, rfl, by decide +kernel, rfl, by decide +kernel, by decide +kernel⟩
theorem okx_must_be_from_one {f : Addr} {fd : FuncData} (F : Fun K "must_be_from_one" "must_be_from_one" s_must_be_from_one f fd) (c_is_whole : Cal P w K mg base "is_whole" 1 ["thing"] (spWhole K)) (e_NoNumber : Err K mg "NoNumber" q_NoNumber) : FnOk P w K mg base (CX1 P w) 2 f fd ["number"] (spOneX q_NoNumber) := by
  refine F.okx sc_must_be_from_one (fun vs H Q E h => ?_) (fun cdv A outer s H vs Q E hr h => ?_)
  · obtain ⟨n, rfl, hn, q⟩ := h
    rfl
  · obtain ⟨n, rfl, hn, q⟩ := h
    have hr_is_whole : Room 1 _ := hr.mono (by decide)
    refine ⟨_, @pss_one _ _ _ (@ps_if _ _ _ _ _ _ _ _ (@pw_or _ _ _ _ _ _ _ (@pt_not _ _ _ _ (@pt_val _ _ _ (@pe_cal _ _ _ _ _ _ _ _ _ _ c_is_whole hr_is_whole (@pa_cons _ _ _ _ _ (pv 0) (@pa_nil _) (by rfl)) (by rfl) (by decide) (by rfl) (by rfl)) (by intro _; rfl))) (@pw_or1 _ _ _ _ (@pt_cmpR _ _ _ _ _ _ _ _ op_lt (pv 0) (@pe_int _ _ _ _) (nomark _)))).pt (@pss_one _ _ _ (@ps_raise _ _ _ _ _ _ _ _ _ raises_cx rfl e_NoNumber (@pe_str _ _ _ _) (by rfl) (by rfl) (by decide))) (@pss_nil _)), ?_⟩
    refine ⟨_, rfl, .int n, _, true, false, rfl, .int n, kit_same K "int", kit_int_bool K, true, rfl, ?_⟩
    refine iteF ⟨_, rfl, _, _, rfl, rfl, _, rfl, ?_⟩
    rw [decide_eq_true hn]
    exact iteT q
def spFitX (q : Addr) : Sp := fun vs H _ E => ∃ (a b : Addr) (xs ys : List V), vs = [.ref a, .ref b] ∧ H a = some (.lst xs) ∧ H b = some (.lst ys) ∧ xs.length ≠ ys.length ∧ E (.ref q) none H
theorem sc_must_fit : FnScope ["p", "q"] ["p", "q"] (defScope s_must_fit) := ⟨rfl, rfl, rfl, by decide +kernel, rfl, by decide +kernel, by decide +kernel⟩
theorem okx_must_fit {f : Addr} {fd : FuncData} (F : Fun K "must_fit" "must_fit" s_must_fit f fd) (B : Bl mg) (e_NoFit : Err K mg "NoFit" q_NoFit) : FnOk P w K mg base (CX1 P w) 1 f fd ["p", "q"] (spFitX q_NoFit) := by
  refine F.okx sc_must_fit (fun vs H Q E h => ?_) (fun cdv A outer s H vs Q E hr h => ?_)
  · obtain ⟨a, b, xs, ys, rfl, ha, hb, ne, q⟩ := h
    rfl
  · obtain ⟨a, b, xs, ys, rfl, ha, hb, ne, q⟩ := h
    refine ⟨_, @pss_one _ _ _ (@ps_if _ _ _ _ _ _ _ _ (@pt_cmpR _ _ _ _ _ _ _ _ op_ne (@pe_lenL _ _ _ _ _ B.len (@pa_cons _ _ _ _ _ (pv 0) (@pa_nil _) (by rfl)) (by rfl) (by rfl)) (@pe_lenL _ _ _ _ _ B.len (@pa_cons _ _ _ _ _ (pv 1) (@pa_nil _) (by rfl)) (by rfl) (by rfl)) (nomark _)) (@pss_one _ _ _ (@ps_raise _ _ _ _ _ _ _ _ _ raises_cx rfl e_NoFit (@pe_str _ _ _ _) (by rfl) (by rfl) (by decide))) (@pss_nil _)), ?_⟩
    refine ⟨_, rfl, a, xs, rfl, .inl (SqL.of ha), _, rfl, b, ys, rfl, .inl (SqL.of hb), rfl, _, rfl, ?_⟩
    rw [decide_eq_false fun z => ne (by have := V.int.inj z; omega)]
    exact iteT q
def spTwoX (K : PySem.W.Frag) (qt qf : Addr) : Sp := fun vs H _ E => ∃ v u, vs = [v, u] ∧ ((NoTurnV K H v ∧ ∀ H', Same H H' → E (.ref qt) none H') ∨
  (∃ a p, v = .ref a ∧ TurnAt H a p ∧ ((NoTurnV K H u ∧ ∀ H', Same H H' → E (.ref qt) none H') ∨ ∃ b q, u = .ref b ∧ TurnAt H b q ∧ p.length ≠ q.length ∧ ∀ H', Same H H' → E (.ref qf) none H')))
theorem sc_put_behind : FnScope ["p", "q"] ["p", "q"] (defScope s_put_behind) := ⟨rfl, rfl, rfl, by decide +kernel, rfl, by decide +kernel, by decide +kernel⟩
theorem okx_put_behind {f : Addr} {fd : FuncData} (F : Fun K "put_behind" "put_behind" s_put_behind f fd) (c_must_be_turn : CalX P w K mg base "must_be_turn" 3 ["thing"] (fun vs H Q E => spMust vs H Q E ∨ (spMustX K q_NoTurn) vs H Q E)) (c_must_fit : CalX P w K mg base "must_fit" 1 ["p", "q"] (spFitX q_NoFit)) : FnOk P w K mg base (CX1 P w) 4 f fd ["p", "q"] (spTwoX K q_NoTurn q_NoFit) := by
  refine F.okx sc_put_behind (fun vs H Q E h => ?_) (fun cdv A outer s H vs Q E hr h => ?_)
  · obtain ⟨v, u, rfl, h⟩ := h
    rfl
  · obtain ⟨v, u, rfl, h⟩ := h
    have hr_must_be_turn : Room 3 _ := hr.mono (by decide)
    have hr_must_fit : Room 1 _ := hr.mono (by decide)
    refine ⟨_, @pss_cons _ _ _ _ _ (@ps_expr _ _ _ _ (@pe_calx _ _ _ _ _ _ _ _ _ _ _ c_must_be_turn hr_must_be_turn (@passes_cx _ _ _ _ _ _ _ _ _ _ _ _ _ _ _ _ fun _ _ _ h => h) (@pa_cons _ _ _ _ _ (pv 0) (@pa_nil _) (by rfl)) (by rfl) (by decide) (by rfl) (by rfl)) (by rfl)) (@pss_cons _ _ _ _ _ (@ps_expr _ _ _ _ (@pe_calx _ _ _ _ _ _ _ _ _ _ _ c_must_be_turn hr_must_be_turn (@passes_cx _ _ _ _ _ _ _ _ _ _ _ _ _ _ _ _ fun _ _ _ h => h) (@pa_cons _ _ _ _ _ (pv 1) (@pa_nil _) (by rfl)) (by rfl) (by decide) (by rfl) (by rfl)) (by rfl)) (@pss_cons _ _ _ _ _ (@ps_expr _ _ _ _ (@pe_calx _ _ _ _ _ _ _ _ _ _ _ c_must_fit hr_must_fit (@passes_cx _ _ _ _ _ _ _ _ _ _ _ _ _ _ _ _ fun _ _ _ h => h) (@pa_cons _ _ _ _ _ (pv 0) (@pa_cons _ _ _ _ _ (pv 1) (@pa_nil _) (by rfl)) (by rfl)) (by rfl) (by decide) (by rfl) (by rfl)) (by rfl)) (@pss_never _ _))), ?_⟩
    rcases h with ⟨no, k⟩ | ⟨a, p, rfl, tp, h⟩
    · exact ⟨_, rfl, .inr ⟨v, rfl, no, k⟩⟩
    · refine ⟨_, rfl, .inl ⟨a, p, rfl, tp, fun H1 s1 => ?_⟩⟩
      rcases h with ⟨no, k⟩ | ⟨b, q, rfl, tq, ne, k⟩
      · exact ⟨_, rfl, .inr ⟨u, rfl, no.keep s1, fun H2 s2 => k H2 (s1.trans s2)⟩⟩
      · refine ⟨_, rfl, .inl ⟨b, q, rfl, turn_keep tq s1, fun H2 s2 => ?_⟩⟩
        have s12 := s1.trans s2
        exact ⟨_, rfl, _, rfl, a, b, _, _, rfl, s12 _ _ tp.1, s12 _ _ tq.1, by simpa using ne, k H2 s12⟩
theorem sc_go_past : FnScope ["p", "q"] ["p", "q"] (defScope s_go_past) := ⟨rfl, rfl, rfl, by decide +kernel, rfl, by decide +kernel, by decide +kernel⟩
theorem okx_go_past {f : Addr} {fd : FuncData} (F : Fun K "go_past" "go_past" s_go_past f fd) (c_put_behind : CalX P w K mg base "put_behind" 4 ["p", "q"] (spTwoX K q_NoTurn q_NoFit)) : FnOk P w K mg base (CX1 P w) 5 f fd ["p", "q"] (spTwoX K q_NoTurn q_NoFit) := by
  refine F.okx sc_go_past (fun vs H Q E h => ?_) (fun cdv A outer s H vs Q E hr h => ?_)
  · obtain ⟨v, u, rfl, h⟩ := h
    rfl
  · obtain ⟨v, u, rfl, h⟩ := h
    have hr_put_behind : Room 4 _ := hr.mono (by decide)
    have hu := hu_of hr
    refine ⟨_, @pss_one _ _ _ (@ps_ret _ _ _ _ (@pe_cmpR _ _ _ _ _ _ _ _ (op_eqL 0 hu) (@pe_calx _ _ _ _ _ _ _ _ _ _ _ c_put_behind hr_put_behind (@passes_cx _ _ _ _ _ _ _ _ _ _ _ _ _ _ _ _ fun _ _ _ h => h) (@pa_cons _ _ _ _ _ (pv 0) (@pa_cons _ _ _ _ _ (pv 1) (@pa_nil _) (by rfl)) (by rfl)) (by rfl) (by decide) (by rfl) (by rfl)) (@pe_calx _ _ _ _ _ _ _ _ _ _ _ c_put_behind hr_put_behind (@passes_cx _ _ _ _ _ _ _ _ _ _ _ _ _ _ _ _ fun _ _ _ h => h) (@pa_cons _ _ _ _ _ (pv 1) (@pa_cons _ _ _ _ _ (pv 0) (@pa_nil _) (by rfl)) (by rfl)) (by rfl) (by decide) (by rfl) (by rfl)) (nomark _))), ?_⟩
    exact ⟨_, rfl, _, rfl, v, u, rfl, h⟩
theorem sc_named_anew : FnScope ["p", "q", "images", "by_length", "told", "length", "ring", "image"] ["p", "q"] (defScope s_named_anew) := ⟨rfl, rfl, rfl, by decide +kernel, rfl, by decide +kernel, by decide +kernel⟩
theorem okx_named_anew {f : Addr} {fd : FuncData} (F : Fun K "named_anew" "named_anew" s_named_anew f fd) (c_must_be_turn : CalX P w K mg base "must_be_turn" 3 ["thing"] (fun vs H Q E => spMust vs H Q E ∨ (spMustX K q_NoTurn) vs H Q E)) (c_must_fit : CalX P w K mg base "must_fit" 1 ["p", "q"] (spFitX q_NoFit)) : FnOk P w K mg base (CX1 P w) 4 f fd ["p", "q"] (spTwoX K q_NoTurn q_NoFit) := by
  refine F.okx sc_named_anew (fun vs H Q E h => ?_) (fun cdv A outer s H vs Q E hr h => ?_)
  · obtain ⟨v, u, rfl, h⟩ := h
    rfl
  · obtain ⟨v, u, rfl, h⟩ := h
    have hr_must_be_turn : Room 3 _ := hr.mono (by decide)
    have hr_must_fit : Room 1 _ := hr.mono (by decide)
    refine ⟨_, @pss_cons _ _ _ _ _ (@ps_expr _ _ _ _ (@pe_calx _ _ _ _ _ _ _ _ _ _ _ c_must_be_turn hr_must_be_turn (@passes_cx _ _ _ _ _ _ _ _ _ _ _ _ _ _ _ _ fun _ _ _ h => h) (@pa_cons _ _ _ _ _ (pv 0) (@pa_nil _) (by rfl)) (by rfl) (by decide) (by rfl) (by rfl)) (by rfl)) (@pss_cons _ _ _ _ _ (@ps_expr _ _ _ _ (@pe_calx _ _ _ _ _ _ _ _ _ _ _ c_must_be_turn hr_must_be_turn (@passes_cx _ _ _ _ _ _ _ _ _ _ _ _ _ _ _ _ fun _ _ _ h => h) (@pa_cons _ _ _ _ _ (pv 1) (@pa_nil _) (by rfl)) (by rfl) (by decide) (by rfl) (by rfl)) (by rfl)) (@pss_cons _ _ _ _ _ (@ps_expr _ _ _ _ (@pe_calx _ _ _ _ _ _ _ _ _ _ _ c_must_fit hr_must_fit (@passes_cx _ _ _ _ _ _ _ _ _ _ _ _ _ _ _ _ fun _ _ _ h => h) (@pa_cons _ _ _ _ _ (pv 0) (@pa_cons _ _ _ _ _ (pv 1) (@pa_nil _) (by rfl)) (by rfl)) (by rfl) (by decide) (by rfl) (by rfl)) (by rfl)) (@pss_never _ _))), ?_⟩
    rcases h with ⟨no, k⟩ | ⟨a, p, rfl, tp, h⟩
    · exact ⟨_, rfl, .inr ⟨v, rfl, no, k⟩⟩
    · refine ⟨_, rfl, .inl ⟨a, p, rfl, tp, fun H1 s1 => ?_⟩⟩
      rcases h with ⟨no, k⟩ | ⟨b, q, rfl, tq, ne, k⟩
      · exact ⟨_, rfl, .inr ⟨u, rfl, no.keep s1, fun H2 s2 => k H2 (s1.trans s2)⟩⟩
      · refine ⟨_, rfl, .inl ⟨b, q, rfl, turn_keep tq s1, fun H2 s2 => ?_⟩⟩
        have s12 := s1.trans s2
        exact ⟨_, rfl, _, rfl, a, b, _, _, rfl, s12 _ _ tp.1, s12 _ _ tq.1, by simpa using ne, k H2 s12⟩
theorem sc_powers_of_one : FnScope ["p", "q", "are_past", "one", "other", "told"] ["p", "q"] (defScope s_powers_of_one) := ⟨rfl, rfl, rfl, by decide +kernel, rfl, by decide +kernel, by decide +kernel⟩
theorem okx_powers_of_one {f : Addr} {fd : FuncData} (F : Fun K "powers_of_one" "powers_of_one" s_powers_of_one f fd) (c_go_past : CalX P w K mg base "go_past" 5 ["p", "q"] (spTwoX K q_NoTurn q_NoFit)) : FnOk P w K mg base (CX1 P w) 6 f fd ["p", "q"] (spTwoX K q_NoTurn q_NoFit) := by
  refine F.okx sc_powers_of_one (fun vs H Q E h => ?_) (fun cdv A outer s H vs Q E hr h => ?_)
  · obtain ⟨v, u, rfl, h⟩ := h
    rfl
  · obtain ⟨v, u, rfl, h⟩ := h
    have hr_go_past : Room 5 _ := hr.mono (by decide)
    refine ⟨_, @pss_cons _ _ _ _ _ (@ps_set _ _ (2) _ _ _ _ sc_powers_of_one.nd rfl (Or.inl rfl) (@pe_calx _ _ _ _ _ _ _ _ _ _ _ c_go_past hr_go_past (@passes_cx _ _ _ _ _ _ _ _ _ _ _ _ _ _ _ _ fun _ _ _ h => h) (@pa_cons _ _ _ _ _ (pv 0) (@pa_cons _ _ _ _ _ (pv 1) (@pa_nil _) (by rfl)) (by rfl)) (by rfl) (by decide) (by rfl) (by rfl)) (by rfl) (by first | exact .inl rfl | exact .inr rfl | assumption)) (@pss_never _ _), ?_⟩
    exact ⟨_, rfl, _, rfl, v, u, rfl, h⟩
theorem sc_how_many_past : FnScope ["p", "by_length", "many", "length", "free"] ["p"] (defScope s_how_many_past) := ⟨rfl, rfl, rfl, by decide +kernel, rfl, by decide +kernel, by decide +kernel⟩
theorem okx_how_many_past {f : Addr} {fd : FuncData} (F : Fun K "how_many_past" "how_many_past" s_how_many_past f fd) (c_must_be_turn : CalX P w K mg base "must_be_turn" 3 ["thing"] (fun vs H Q E => spMust vs H Q E ∨ (spMustX K q_NoTurn) vs H Q E)) : FnOk P w K mg base (CX1 P w) 4 f fd ["p"] (spMustX K q_NoTurn) := by
  refine F.okx sc_how_many_past (fun vs H Q E h => ?_) (fun cdv A outer s H vs Q E hr h => ?_)
  · obtain ⟨v, rfl, no, k⟩ := h
    rfl
  · obtain ⟨v, rfl, no, k⟩ := h
    have hr_must_be_turn : Room 3 _ := hr.mono (by decide)
    refine ⟨_, @pss_cons _ _ _ _ _ (@ps_expr _ _ _ _ (@pe_calx _ _ _ _ _ _ _ _ _ _ _ c_must_be_turn hr_must_be_turn (@passes_cx _ _ _ _ _ _ _ _ _ _ _ _ _ _ _ _ fun _ _ _ h => h) (@pa_cons _ _ _ _ _ (pv 0) (@pa_nil _) (by rfl)) (by rfl) (by decide) (by rfl) (by rfl)) (by rfl)) (@pss_never _ _), ?_⟩
    exact ⟨_, rfl, .inr ⟨v, rfl, no, k⟩⟩
theorem sc_all_past : FnScope ["p", "by_length"] ["p"] (defScope s_all_past) := ⟨rfl, rfl, rfl, by decide +kernel, rfl, by decide +kernel, by decide +kernel⟩
theorem sc_must_be_few : FnScope ["many"] ["many"] (defScope s_must_be_few) := ⟨rfl, rfl, rfl, by decide +kernel, rfl, by decide +kernel, by decide +kernel⟩
def spFewX (q : Addr) : Sp := fun vs H _ E => ∃ (n : Int), vs = [.int n] ∧ 2000 < n ∧ E (.ref q) none H
theorem okx_must_be_few {f : Addr} {fd : FuncData} (F : Fun K "must_be_few" "must_be_few" s_must_be_few f fd) (g_MOST_TOLD : ∃ t, mg "MOST_TOLD" = some (.int 2000 t)) (e_TooMany : Err K mg "TooMany" q_TooMany) : FnOk P w K mg base (CX1 P w) 1 f fd ["many"] (spFewX q_TooMany) := by
  refine F.okx sc_must_be_few (fun vs H Q E h => ?_) (fun cdv A outer s H vs Q E hr h => ?_)
  · obtain ⟨n, rfl, hn, q⟩ := h
    rfl
  · obtain ⟨n, rfl, hn, q⟩ := h
    obtain ⟨_, m_MOST_TOLD⟩ := g_MOST_TOLD
    refine ⟨_, @pss_one _ _ _ (@ps_if _ _ _ _ _ _ _ _ (@pt_cmpR _ _ _ _ _ _ _ _ op_gt (pv 0) (@pe_glob _ _ (.int 2000) _ _ (by rfl) m_MOST_TOLD ⟨_, rfl⟩ (by decide)) (nomark _)) (@pss_one _ _ _ (@ps_raise _ _ _ _ _ _ _ _ _ raises_cx rfl e_TooMany (@pe_str _ _ _ _) (by rfl) (by rfl) (by decide))) (@pss_nil _)), ?_⟩
    refine ⟨_, rfl, _, _, rfl, rfl, _, rfl, ?_⟩
    rw [decide_eq_true hn]
    exact iteT q
theorem okx_all_past {f : Addr} {fd : FuncData} (F : Fun K "all_past" "all_past" s_all_past f fd) (c_must_be_few : CalX P w K mg base "must_be_few" 1 ["many"] (spFewX q_TooMany)) (c_how_many_past : CalX P w K mg base "how_many_past" 4 ["p"] (spMustX K q_NoTurn)) : FnOk P w K mg base (CX1 P w) 5 f fd ["p"] (spMustX K q_NoTurn) := by
  refine F.okx sc_all_past (fun vs H Q E h => ?_) (fun cdv A outer s H vs Q E hr h => ?_)
  · obtain ⟨v, rfl, no, k⟩ := h
    rfl
  · obtain ⟨v, rfl, no, k⟩ := h
    have hr_must_be_few : Room 1 _ := hr.mono (by decide)
    have hr_how_many_past : Room 4 _ := hr.mono (by decide)
    refine ⟨_, @pss_cons _ _ _ _ _ (@ps_expr _ _ _ _ (@pe_calx _ _ _ _ _ _ _ _ _ _ _ c_must_be_few hr_must_be_few (@passes_cx _ _ _ _ _ _ _ _ _ _ _ _ _ _ _ _ fun _ _ _ h => h) (@pa_cons _ _ _ _ _ (@pe_calx _ _ _ _ _ _ _ _ _ _ _ c_how_many_past hr_how_many_past (@passes_cx _ _ _ _ _ _ _ _ _ _ _ _ _ _ _ _ fun _ _ _ h => h) (@pa_cons _ _ _ _ _ (pv 0) (@pa_nil _) (by rfl)) (by rfl) (by decide) (by rfl) (by rfl)) (@pa_nil _) (by rfl)) (by rfl) (by decide) (by rfl) (by rfl)) (by rfl)) (@pss_never _ _), ?_⟩
    exact ⟨_, rfl, v, rfl, no, k⟩
def spOneNX (K : PySem.W.Frag) (qt qn : Addr) : Sp := fun vs H _ E => ∃ v m, vs = [v, .int m] ∧ ((NoTurnV K H v ∧ ∀ H', Same H H' → E (.ref qt) none H') ∨ (∃ a p, v = .ref a ∧ TurnAt H a p ∧ m < 1 ∧ ∀ H', Same H H' → E (.ref qn) none H'))
theorem sc_how_many_roots : FnScope ["p", "m", "by_length", "many", "length"] ["p", "m"] (defScope s_how_many_roots) := ⟨rfl, rfl, rfl, by decide +kernel, rfl, by decide +kernel, by decide +kernel⟩
theorem okx_how_many_roots {f : Addr} {fd : FuncData} (F : Fun K "how_many_roots" "how_many_roots" s_how_many_roots f fd) (c_must_be_turn : CalX P w K mg base "must_be_turn" 3 ["thing"] (fun vs H Q E => spMust vs H Q E ∨ (spMustX K q_NoTurn) vs H Q E)) (c_must_be_from_one : CalX P w K mg base "must_be_from_one" 2 ["number"] (spOneX q_NoNumber)) : FnOk P w K mg base (CX1 P w) 4 f fd ["p", "m"] (spOneNX K q_NoTurn q_NoNumber) := by
  refine F.okx sc_how_many_roots (fun vs H Q E h => ?_) (fun cdv A outer s H vs Q E hr h => ?_)
  · obtain ⟨v, m, rfl, h⟩ := h
    rfl
  · obtain ⟨v, m, rfl, h⟩ := h
    have hr_must_be_turn : Room 3 _ := hr.mono (by decide)
    have hr_must_be_from_one : Room 2 _ := hr.mono (by decide)
    refine ⟨_, @pss_cons _ _ _ _ _ (@ps_expr _ _ _ _ (@pe_calx _ _ _ _ _ _ _ _ _ _ _ c_must_be_turn hr_must_be_turn (@passes_cx _ _ _ _ _ _ _ _ _ _ _ _ _ _ _ _ fun _ _ _ h => h) (@pa_cons _ _ _ _ _ (pv 0) (@pa_nil _) (by rfl)) (by rfl) (by decide) (by rfl) (by rfl)) (by rfl)) (@pss_cons _ _ _ _ _ (@ps_expr _ _ _ _ (@pe_calx _ _ _ _ _ _ _ _ _ _ _ c_must_be_from_one hr_must_be_from_one (@passes_cx _ _ _ _ _ _ _ _ _ _ _ _ _ _ _ _ fun _ _ _ h => h) (@pa_cons _ _ _ _ _ (pv 1) (@pa_nil _) (by rfl)) (by rfl) (by decide) (by rfl) (by rfl)) (by rfl)) (@pss_never _ _)), ?_⟩
    rcases h with ⟨no, k⟩ | ⟨a, p, rfl, tp, hm, k⟩
    · exact ⟨_, rfl, .inr ⟨v, rfl, no, k⟩⟩
    · refine ⟨_, rfl, .inl ⟨a, p, rfl, tp, fun H1 s1 => ?_⟩⟩
      exact ⟨_, rfl, m, rfl, hm, k H1 s1⟩
theorem sc_all_roots : FnScope ["p", "m", "many", "by_length", "choices", "length", "rings"] ["p", "m"] (defScope s_all_roots) := ⟨rfl, rfl, rfl, by decide +kernel, rfl, by decide +kernel, by decide +kernel⟩
theorem okx_all_roots {f : Addr} {fd : FuncData} (F : Fun K "all_roots" "all_roots" s_all_roots f fd) (c_how_many_roots : CalX P w K mg base "how_many_roots" 4 ["p", "m"] (spOneNX K q_NoTurn q_NoNumber)) : FnOk P w K mg base (CX1 P w) 5 f fd ["p", "m"] (spOneNX K q_NoTurn q_NoNumber) := by
  refine F.okx sc_all_roots (fun vs H Q E h => ?_) (fun cdv A outer s H vs Q E hr h => ?_)
  · obtain ⟨v, m, rfl, h⟩ := h
    rfl
  · obtain ⟨v, m, rfl, h⟩ := h
    have hr_how_many_roots : Room 4 _ := hr.mono (by decide)
    refine ⟨_, @pss_cons _ _ _ _ _ (@ps_set _ _ (2) _ _ _ _ sc_all_roots.nd rfl (Or.inl rfl) (@pe_calx _ _ _ _ _ _ _ _ _ _ _ c_how_many_roots hr_how_many_roots (@passes_cx _ _ _ _ _ _ _ _ _ _ _ _ _ _ _ _ fun _ _ _ h => h) (@pa_cons _ _ _ _ _ (pv 0) (@pa_cons _ _ _ _ _ (pv 1) (@pa_nil _) (by rfl)) (by rfl)) (by rfl) (by decide) (by rfl) (by rfl)) (by rfl) (by first | exact .inl rfl | exact .inr rfl | assumption)) (@pss_never _ _), ?_⟩
    exact ⟨_, rfl, _, rfl, v, m, rfl, h⟩
theorem sc_root_families : FnScope ["p", "m", "families", "root"] ["p", "m"] (defScope s_root_families) := ⟨rfl, rfl, rfl, by decide +kernel, rfl, by decide +kernel, by decide +kernel⟩
theorem okx_root_families {f : Addr} {fd : FuncData} (F : Fun K "root_families" "root_families" s_root_families f fd) (c_all_roots : CalX P w K mg base "all_roots" 5 ["p", "m"] (spOneNX K q_NoTurn q_NoNumber)) : FnOk P w K mg base (CX1 P w) 6 f fd ["p", "m"] (spOneNX K q_NoTurn q_NoNumber) := by
  refine F.okx sc_root_families (fun vs H Q E h => ?_) (fun cdv A outer s H vs Q E hr h => ?_)
  · obtain ⟨v, m, rfl, h⟩ := h
    rfl
  · obtain ⟨v, m, rfl, h⟩ := h
    have hr_all_roots : Room 5 _ := hr.mono (by decide)
    refine ⟨_, @pss_cons _ _ _ _ _ (@ps_set _ _ (2) _ _ _ _ sc_root_families.nd rfl (Or.inl rfl) (@pe_dnewK _ _) (by rfl) (by first | exact .inl rfl | exact .inr rfl | assumption)) (@pss_cons _ _ _ _ _ (ps_forNever (@pe_calx _ _ _ _ _ _ _ _ _ _ _ c_all_roots hr_all_roots (@passes_cx _ _ _ _ _ _ _ _ _ _ _ _ _ _ _ _ fun _ _ _ h => h) (@pa_cons _ _ _ _ _ (pv 0) (@pa_cons _ _ _ _ _ (pv 1) (@pa_nil _) (by rfl)) (by rfl)) (by rfl) (by decide) (by rfl) (by rfl))) (@pss_never _ _)), ?_⟩
    intro d hd
    have s1 : Same H (upd H d (.dK [])) := Same.upd_new hd
    generalize (upd H d (.dK [])) = H1 at s1 ⊢
    rcases h with ⟨no, k⟩ | ⟨a, p, rfl, tp, hm, k⟩
    · exact ⟨_, rfl, _, rfl, v, m, rfl, .inl ⟨no.keep s1, fun H2 s2 => k H2 (s1.trans s2)⟩⟩
    · exact ⟨_, rfl, _, rfl, .ref a, m, rfl, .inr ⟨a, p, rfl, turn_keep tp s1, hm, fun H2 s2 => k H2 (s1.trans s2)⟩⟩
end
end My
namespace My
open PySem L2 Mth
section
variable {P : Program} {w : World} {K : PySem.W.Frag} {mg : Str → Option Value} {base : Heap} {q_TurnError q_NoTurn q_NoFit q_NoRounds q_NoNumber q_NoRoot q_TooMany q_NoKind q_NoText q_NoName q_NoRow : Addr}
def spWhich (qt qf qn : Addr) : Sp := fun vs H Q _ => ∃ (e C : Addr) (r : Int), vs = [.ref e] ∧ H e = some (ExcO e C) ∧ ((C = qt ∧ r = 0) ∨ (C = qf ∧ r = 1) ∨ (C = qn ∧ r = 2)) ∧ ∀ H' : Hp, Same H H' → Q (.int r) H'
theorem sc_law_which : FnScope ["caught", "others", "kinds"] ["caught"] (defScope s_law_which) := ⟨rfl, rfl, rfl, by decide +kernel, rfl, by decide +kernel, by decide +kernel⟩
theorem nd_one_law_which : (["one"] : List Str).Nodup := by decide +kernel
theorem ok_law_which {f : Addr} {fd : FuncData} (F : Fun K "_law_which" "_law_which" s_law_which f fd) (B : Bl mg) (ER : ErrAll K mg q_TurnError [("NoTurn", q_NoTurn), ("NoFit", q_NoFit), ("NoRounds", q_NoRounds), ("NoNumber", q_NoNumber), ("NoRoot", q_NoRoot), ("TooMany", q_TooMany), ("NoKind", q_NoKind), ("NoText", q_NoText), ("NoName", q_NoName), ("NoRow", q_NoRow)]) : FnOk P w K mg base CX0 1 f fd ["caught"] (spWhich q_NoTurn q_NoFit q_NoNumber) := by
  refine F.ok sc_law_which (fun vs H Q E h => ?_) (fun cdv A outer s H vs Q E hr h => ?_)
  · obtain ⟨e, C, r, rfl, he, hd, q⟩ := h
    rfl
  · obtain ⟨e, C, r, rfl, he, hd, q⟩ := h
    have hu := hu_of hr
    refine ⟨_, @pss_cons _ _ _ _ _ (@ps_set _ _ (1) _ _ _ _ sc_law_which.nd rfl (Or.inl rfl) (@pe_lst _ _ _ _ (@pa_cons _ _ _ _ _ (@pe_isiX _ _ _ _ _ _ B.isi (@pa_cons _ _ _ _ _ (pv 0) (@pa_cons _ _ _ _ _ (@pe_glob _ _ (.ref q_NoKind) _ _ (by rfl) (ER.err ("NoKind" , q_NoKind) (by simp)).mg rfl (by decide)) (@pa_nil _) (by rfl)) (by rfl)) (by rfl) (by rfl) (by rfl)) (@pa_cons _ _ _ _ _ (@pe_isiX _ _ _ _ _ _ B.isi (@pa_cons _ _ _ _ _ (pv 0) (@pa_cons _ _ _ _ _ (@pe_glob _ _ (.ref q_NoName) _ _ (by rfl) (ER.err ("NoName" , q_NoName) (by simp)).mg rfl (by decide)) (@pa_nil _) (by rfl)) (by rfl)) (by rfl) (by rfl) (by rfl)) (@pa_cons _ _ _ _ _ (@pe_isiX _ _ _ _ _ _ B.isi (@pa_cons _ _ _ _ _ (pv 0) (@pa_cons _ _ _ _ _ (@pe_glob _ _ (.ref q_NoRoot) _ _ (by rfl) (ER.err ("NoRoot" , q_NoRoot) (by simp)).mg rfl (by decide)) (@pa_nil _) (by rfl)) (by rfl)) (by rfl) (by rfl) (by rfl)) (@pa_nil _) (by rfl)) (by rfl)) (by rfl))) (by rfl) (by first | exact .inl rfl | exact .inr rfl | assumption)) (@pss_cons _ _ _ _ _ (@ps_set _ _ (1) _ _ _ _ sc_law_which.nd rfl (Or.inl rfl) (@pe_op _ _ _ _ _ _ _ _ op_cat (pv 1) (@pe_lst _ _ _ _ (@pa_cons _ _ _ _ _ (@pe_isiX _ _ _ _ _ _ B.isi (@pa_cons _ _ _ _ _ (pv 0) (@pa_cons _ _ _ _ _ (@pe_glob _ _ (.ref q_NoRounds) _ _ (by rfl) (ER.err ("NoRounds" , q_NoRounds) (by simp)).mg rfl (by decide)) (@pa_nil _) (by rfl)) (by rfl)) (by rfl) (by rfl) (by rfl)) (@pa_cons _ _ _ _ _ (@pe_isiX _ _ _ _ _ _ B.isi (@pa_cons _ _ _ _ _ (pv 0) (@pa_cons _ _ _ _ _ (@pe_glob _ _ (.ref q_NoRow) _ _ (by rfl) (ER.err ("NoRow" , q_NoRow) (by simp)).mg rfl (by decide)) (@pa_nil _) (by rfl)) (by rfl)) (by rfl) (by rfl) (by rfl)) (@pa_cons _ _ _ _ _ (@pe_isiX _ _ _ _ _ _ B.isi (@pa_cons _ _ _ _ _ (pv 0) (@pa_cons _ _ _ _ _ (@pe_glob _ _ (.ref q_NoText) _ _ (by rfl) (ER.err ("NoText" , q_NoText) (by simp)).mg rfl (by decide)) (@pa_nil _) (by rfl)) (by rfl)) (by rfl) (by rfl) (by rfl)) (@pa_nil _) (by rfl)) (by rfl)) (by rfl)))) (by rfl) (by first | exact .inl rfl | exact .inr rfl | assumption)) (@pss_cons _ _ _ _ _ (@ps_expr _ _ _ _ (@pe_append _ _ _ _ _ _ _ (pv 1) (@pa_cons _ _ _ _ _ (@pe_isiX _ _ _ _ _ _ B.isi (@pa_cons _ _ _ _ _ (pv 0) (@pa_cons _ _ _ _ _ (@pe_glob _ _ (.ref q_TooMany) _ _ (by rfl) (ER.err ("TooMany" , q_TooMany) (by simp)).mg rfl (by decide)) (@pa_nil _) (by rfl)) (by rfl)) (by rfl) (by rfl) (by rfl)) (@pa_nil _) (by rfl)) (by rfl) (by rfl) (by rfl) (by rfl) (by rfl)) (by rfl)) (@pss_cons _ _ _ _ _ (@ps_set _ _ (2) _ _ _ _ sc_law_which.nd rfl (Or.inl rfl) (@pe_lst _ _ _ _ (@pa_cons _ _ _ _ _ (@pe_isiX _ _ _ _ _ _ B.isi (@pa_cons _ _ _ _ _ (pv 0) (@pa_cons _ _ _ _ _ (@pe_glob _ _ (.ref q_NoTurn) _ _ (by rfl) (ER.err ("NoTurn" , q_NoTurn) (by simp)).mg rfl (by decide)) (@pa_nil _) (by rfl)) (by rfl)) (by rfl) (by rfl) (by rfl)) (@pa_cons _ _ _ _ _ (@pe_isiX _ _ _ _ _ _ B.isi (@pa_cons _ _ _ _ _ (pv 0) (@pa_cons _ _ _ _ _ (@pe_glob _ _ (.ref q_NoFit) _ _ (by rfl) (ER.err ("NoFit" , q_NoFit) (by simp)).mg rfl (by decide)) (@pa_nil _) (by rfl)) (by rfl)) (by rfl) (by rfl) (by rfl)) (@pa_cons _ _ _ _ _ (@pe_isiX _ _ _ _ _ _ B.isi (@pa_cons _ _ _ _ _ (pv 0) (@pa_cons _ _ _ _ _ (@pe_glob _ _ (.ref q_NoNumber) _ _ (by rfl) (ER.err ("NoNumber" , q_NoNumber) (by simp)).mg rfl (by decide)) (@pa_nil _) (by rfl)) (by rfl)) (by rfl) (by rfl) (by rfl)) (@pa_nil _) (by rfl)) (by rfl)) (by rfl))) (by rfl) (by first | exact .inl rfl | exact .inr rfl | assumption)) (@pss_cons _ _ _ _ _ (@ps_if _ _ _ _ _ _ _ _ (@pw_or _ _ _ _ _ _ _ (@pt_cmpR _ _ _ _ _ _ _ _ (op_in_seq) (@pe_bl _ _ _ _) (pv 1) (by with_unfolding_all rfl)) (@pw_or _ _ _ _ _ _ _ (@pt_not _ _ _ _ (@pt_val _ _ _ (@pe_isiX _ _ _ _ _ _ B.isi (@pa_cons _ _ _ _ _ (pv 0) (@pa_cons _ _ _ _ _ (@pe_tyVE _ _ B.ve (by rfl)) (@pa_nil _) (by rfl)) (by rfl)) (by rfl) (by rfl) (by rfl)) (by intro _; rfl))) (@pw_or1 _ _ _ _ (@pt_cmpR _ _ _ _ _ _ _ _ op_ne (@pe_lenL _ _ _ _ _ B.len (@pa_cons _ _ _ _ _ (@pe_comp _ _ _ _ _ _ _ _ _ _ _ (["one"]) (1) ([]) rfl .of (@pi_list _ _ _ _ (pv 2)) (fun _ _ _ _ _ => @pg_name _ _ (0) _ nd_one_law_which rfl (Or.inl rfl) (by first | exact .inl rfl | exact .inr rfl | assumption)) (fun _ _ _ _ _ => @pifs_one _ _ _ (@pt_val _ _ _ (pv 0) (by intro _; rfl))) (fun _ _ _ _ _ => (@pe_int _ _ _ _)) (by intro _; rfl)) (@pa_nil _) (by rfl)) (by rfl) (by rfl)) (@pe_int _ _ _ _) (nomark _))))).pt (@pss_one _ _ _ (@ps_ret _ _ _ _ (@pe_un _ _ _ _ _ _ un_neg (@pe_int _ _ _ _)))) (@pss_nil _)) (@pss_one _ _ _ (@ps_ret _ _ _ _ (@pe_indexV _ K _ _ _ _ _ _ (pv 2) (@pa_cons _ _ _ _ _ (@pe_bl _ _ _ _) (@pa_nil _) (by rfl)) (by rfl) (by rfl) (by rfl) (by rfl) (by rfl) (by rfl)))))))), ?_⟩
    obtain ⟨nm, hn, hz, hb⟩ : ∃ nm : Str, (nm, C) ∈ [(("NoTurn" : Str), q_NoTurn), ("NoFit", q_NoFit), ("NoRounds", q_NoRounds), ("NoNumber", q_NoNumber), ("NoRoot", q_NoRoot), ("TooMany", q_TooMany), ("NoKind", q_NoKind), ("NoText", q_NoText), ("NoName", q_NoName), ("NoRow", q_NoRow)] ∧ (decide (nm = "NoKind") = false ∧ decide (nm = "NoName") = false ∧ decide (nm = "NoRoot") = false ∧ decide (nm = "NoRounds") = false ∧ decide (nm = "NoRow") = false ∧ decide (nm = "NoText") = false ∧ decide (nm = "TooMany") = false) ∧ ∃ j : Nat, r = (j : Int) ∧ j < 3 ∧ [decide (nm = "NoTurn"), decide (nm = "NoFit"), decide (nm = "NoNumber")] = [decide (j = 0), decide (j = 1), decide (j = 2)] := by
      rcases hd with ⟨rfl, rfl⟩ | ⟨rfl, rfl⟩ | ⟨rfl, rfl⟩
      · exact ⟨"NoTurn", by simp, by decide +kernel, 0, rfl, by decide, by decide +kernel⟩
      · exact ⟨"NoFit", by simp, by decide +kernel, 1, rfl, by decide, by decide +kernel⟩
      · exact ⟨"NoNumber", by simp, by decide +kernel, 2, rfl, by decide, by decide +kernel⟩
    have IC := ER.inst (nm, C) hn
    have pr := ER.pair (nm, C) hn
    have p0 := pr ("NoKind", q_NoKind) (by simp)
    have p1 := pr ("NoName", q_NoName) (by simp)
    have p2 := pr ("NoRoot", q_NoRoot) (by simp)
    have p3 := pr ("NoRounds", q_NoRounds) (by simp)
    have p4 := pr ("NoRow", q_NoRow) (by simp)
    have p5 := pr ("NoText", q_NoText) (by simp)
    have p6 := pr ("TooMany", q_TooMany) (by simp)
    have p7 := pr ("NoTurn", q_NoTurn) (by simp)
    have p8 := pr ("NoFit", q_NoFit) (by simp)
    have p9 := pr ("NoNumber", q_NoNumber) (by simp)
    dsimp only at p0 p1 p2 p3 p4 p5 p6 p7 p8 p9
    obtain ⟨z0, z1, z2, z3, z4, z5, z6⟩ := hz
    rw [z0] at p0
    rw [z1] at p1
    rw [z2] at p2
    rw [z3] at p3
    rw [z4] at p4
    rw [z5] at p5
    rw [z6] at p6
    generalize decide (nm = "NoTurn") = b0 at p7 hb
    generalize decide (nm = "NoFit") = b1 at p8 hb
    generalize decide (nm = "NoNumber") = b2 at p9 hb
    refine ⟨_, rfl, e, C, _, _, _, rfl, .inl ⟨_, rfl, rfl⟩, he, IC, p0, _, rfl, e, C, _, _, _, rfl, .inl ⟨_, rfl, rfl⟩, he, IC, p1, _, rfl, e, C, _, _, _, rfl, .inl ⟨_, rfl, rfl⟩, he, IC, p2, (show 3 ≤ sizeLine by decide), fun l1 h1 => ?_⟩
    have s1 : Same H (upd H l1 (.lst [V.bl false, V.bl false, V.bl false])) := Same.upd_new h1
    have g1 : (upd H l1 (.lst [V.bl false, V.bl false, V.bl false])) l1 = some (.lst [V.bl false, V.bl false, V.bl false]) := upd_same
    generalize (upd H l1 (.lst [V.bl false, V.bl false, V.bl false])) = H1 at s1 g1 ⊢
    have e1 := s1 _ _ he
    refine ⟨_, rfl, _, rfl, e, C, _, _, _, rfl, .inl ⟨_, rfl, rfl⟩, e1, IC, p3, _, rfl, e, C, _, _, _, rfl, .inl ⟨_, rfl, rfl⟩, e1, IC, p4, _, rfl, e, C, _, _, _, rfl, .inl ⟨_, rfl, rfl⟩, e1, IC, p5, (show 3 ≤ sizeLine by decide), fun l2 h2 => ?_⟩
    have s2 : Same H1 (upd H1 l2 (.lst [V.bl false, V.bl false, V.bl false])) := Same.upd_new h2
    have g2 : (upd H1 l2 (.lst [V.bl false, V.bl false, V.bl false])) l2 = some (.lst [V.bl false, V.bl false, V.bl false]) := upd_same
    generalize (upd H1 l2 (.lst [V.bl false, V.bl false, V.bl false])) = H2 at s2 g2 ⊢
    refine ⟨l1, l2, _, _, rfl, rfl, s2 _ _ g1, g2, (show 6 ≤ sizeLine by decide), fun l3 h3 => ?_⟩
    have s3 : Same H2 (upd H2 l3 (.lst ([V.bl false, V.bl false, V.bl false] ++ [V.bl false, V.bl false, V.bl false]))) := Same.upd_new h3
    have g3 : (upd H2 l3 (.lst ([V.bl false, V.bl false, V.bl false] ++ [V.bl false, V.bl false, V.bl false]))) l3 = some (.lst [V.bl false, V.bl false, V.bl false, V.bl false, V.bl false, V.bl false]) := upd_same
    generalize (upd H2 l3 (.lst ([V.bl false, V.bl false, V.bl false] ++ [V.bl false, V.bl false, V.bl false]))) = H3 at s3 g3 ⊢
    have s03 := s1.trans (s2.trans s3)
    have e3 := s03 _ _ he
    refine ⟨_, rfl, .inl ⟨rfl, _, SqL.of g3⟩, _, rfl, e, C, _, _, _, rfl, .inl ⟨_, rfl, rfl⟩, e3, IC, p6, l3, _, _, rfl, rfl, g3, (show 7 ≤ sizeLine by decide), ?_⟩
    have hl3 : H l3 = none := (s1.trans s2).free h3
    have s4 : Same H (upd H3 l3 (.lst ([V.bl false, V.bl false, V.bl false, V.bl false, V.bl false, V.bl false] ++ [V.bl false]))) := s03.upd_r hl3
    have g4 : (upd H3 l3 (.lst ([V.bl false, V.bl false, V.bl false, V.bl false, V.bl false, V.bl false] ++ [V.bl false]))) l3 = some (.lst [V.bl false, V.bl false, V.bl false, V.bl false, V.bl false, V.bl false, V.bl false]) := upd_same
    generalize (upd H3 l3 (.lst ([V.bl false, V.bl false, V.bl false, V.bl false, V.bl false, V.bl false] ++ [V.bl false]))) = H4 at s4 g4 ⊢
    have e4 := s4 _ _ he
    refine ⟨_, rfl, e, C, _, _, _, rfl, .inl ⟨_, rfl, rfl⟩, e4, IC, p7, _, rfl, e, C, _, _, _, rfl, .inl ⟨_, rfl, rfl⟩, e4, IC, p8, _, rfl, e, C, _, _, _, rfl, .inl ⟨_, rfl, rfl⟩, e4, IC, p9, (show 3 ≤ sizeLine by decide), fun l5 h5 => ?_⟩
    have s5 : Same H4 (upd H4 l5 (.lst [V.bl b0, V.bl b1, V.bl b2])) := Same.upd_new h5
    have g5 : (upd H4 l5 (.lst [V.bl b0, V.bl b1, V.bl b2])) l5 = some (.lst (([b0, b1, b2] : List Bool).map V.bl)) := upd_same
    generalize (upd H4 l5 (.lst [V.bl b0, V.bl b1, V.bl b2])) = H5 at s5 g5 ⊢
    have e5 := s5 _ _ e4
    obtain ⟨j, rfl, j3, eb⟩ := hb
    generalize [b0, b1, b2] = bs at g5 eb
    have lb : bs.length = 3 := by rw [eb]; rfl
    refine ⟨_, rfl, l3, _, rfl, .inl (SqL.of (s5 _ _ g4)), rfl, rfl, _, rfl, iteF ⟨_, rfl, e, C, _, _, _, rfl, .inr ⟨_, rfl, rfl⟩, e5, IC, ER.ve (nm, C) hn, _, rfl, iteF ?_⟩⟩
    refine ⟨_, rfl, l5, rfl, ⟨_, SqL.of g5⟩, comp_list (K := K) (a := l5) (xs := bs.map V.bl) (fun i ys σ H6 => ∃ v : Option V, σ = [v] ∧ H6 = H5 ∧ ys = ((bs.take i).filter id).map fun _ => V.int 1) ⟨none, rfl, rfl, rfl⟩ (fun i ys σ H6 _ ⟨_, _, z, _⟩ => by rw [z]; exact SqL.of g5) ?_ ?_⟩
    · rintro i x ys σ H6 hi ⟨v, rfl, rfl, rfl⟩
      rw [List.getElem?_map] at hi
      obtain ⟨b, hb, rfl⟩ := Option.map_eq_some_iff.mp hi
      refine ⟨_, rfl, b, rfl, ?_⟩
      cases b with
      | true =>
        refine iteT ⟨small1000 (by rw [List.length_map]; exact Nat.le_trans (List.length_filter_le _ _) (by rw [List.length_take]; omega)), _, rfl, rfl, ?_⟩
        rw [take_succ_of hb, List.filter_append, List.map_append]
        rfl
      | false =>
        refine iteF ⟨_, rfl, rfl, ?_⟩
        rw [take_succ_of hb, List.filter_append, List.map_append]
        exact (List.append_nil _).symm
    · rintro ys σ H6 ⟨v, rfl, rfl, rfl⟩ D hD
      rw [List.length_map, List.take_length]
      obtain ⟨c1, kj, kb⟩ : (bs.filter id).length = 1 ∧ bs[j]? = some true ∧ ∀ i, i < j → bs[i]? = some false := by
        rw [eb]
        have : j = 0 ∨ j = 1 ∨ j = 2 := by omega
        rcases this with rfl | rfl | rfl
        · exact ⟨rfl, rfl, fun i hi => by omega⟩
        · exact ⟨rfl, rfl, fun i hi => by
            have z : i = 0 := by omega
            rw [z]
            rfl⟩
        · refine ⟨rfl, rfl, fun i hi => ?_⟩
          have : i = 0 ∨ i = 1 := by omega
          rcases this with rfl | rfl <;> rfl
      have s7 : Same H6 (upd H6 D (.lst ((bs.filter id).map fun _ => V.int 1))) := Same.upd_new hD
      have g7 : (upd H6 D (.lst ((bs.filter id).map fun _ => V.int 1))) D = some (.lst ((bs.filter id).map fun _ => V.int 1)) := upd_same
      generalize (upd H6 D (.lst ((bs.filter id).map fun _ => V.int 1))) = H7 at s7 g7 ⊢
      refine ⟨D, _, rfl, .inl (SqL.of g7), rfl, _, rfl, iteNS (congrArg V.int (by rw [List.length_map, c1]; rfl)) ?_⟩
      have g5' := s7 _ _ g5
      refine ⟨_, rfl, .inl ⟨rfl, _, SqL.of g5'⟩, l5, bs.map V.bl, .bl true, j, rfl, rfl, rfl, ?_, g5', ⟨_, by rw [List.getElem?_map, kj]; rfl, rfl⟩, fun i y hi e => ?_, ?_, ?_⟩
      · rw [List.all_eq_true]
        intro x hx
        obtain ⟨b, _, rfl⟩ := List.mem_map.mp hx
        rfl
      · rw [List.getElem?_map, kb i hi] at e
        cases e
        rfl
      · rw [List.length_map]; omega
      · exact q H7 (s4.trans (s5.trans s7))
def spRefused (K : PySem.W.Frag) : Sp := fun vs H Q _ => ∃ (way m r : Int) (v u : V), vs = [.int way, v, u, .int m] ∧ 0 ≤ way ∧ way ≤ 5 ∧ ((NoTurnV K H v ∧ r = 0) ∨ (∃ a p, v = .ref a ∧ TurnAt H a p ∧
  ((way < 3 ∧ NoTurnV K H u ∧ r = 0) ∨ (way < 3 ∧ r = 1 ∧ ∃ b q, u = .ref b ∧ TurnAt H b q ∧ p.length ≠ q.length) ∨ (way = 5 ∧ m < 1 ∧ r = 2)))) ∧ ∀ H' : Hp, Same H H' → Q (.int r) H'
theorem sc_law_refused : FnScope ["way", "p", "q", "m", "caught", "e"] ["way", "p", "q", "m"] (defScope s_law_refused) := ⟨rfl, rfl, rfl, by decide +kernel, rfl, by decide +kernel, by decide +kernel⟩
theorem ok_law_refused {f : Addr} {fd : FuncData} (F : Fun K "_law_refused" "_law_refused" s_law_refused f fd) (c_go_past : CalX P w K mg base "go_past" 5 ["p", "q"] (spTwoX K q_NoTurn q_NoFit)) (c_named_anew : CalX P w K mg base "named_anew" 4 ["p", "q"] (spTwoX K q_NoTurn q_NoFit)) (c_powers_of_one : CalX P w K mg base "powers_of_one" 6 ["p", "q"] (spTwoX K q_NoTurn q_NoFit)) (c_how_many_past : CalX P w K mg base "how_many_past" 4 ["p"] (spMustX K q_NoTurn)) (c_all_past : CalX P w K mg base "all_past" 5 ["p"] (spMustX K q_NoTurn)) (c_root_families : CalX P w K mg base "root_families" 6 ["p", "m"] (spOneNX K q_NoTurn q_NoNumber)) (c_law_which : Cal P w K mg base "_law_which" 1 ["caught"] (spWhich q_NoTurn q_NoFit q_NoNumber)) (ER : ErrAll K mg q_TurnError [("NoTurn", q_NoTurn), ("NoFit", q_NoFit), ("NoRounds", q_NoRounds), ("NoNumber", q_NoNumber), ("NoRoot", q_NoRoot), ("TooMany", q_TooMany), ("NoKind", q_NoKind), ("NoText", q_NoText), ("NoName", q_NoName), ("NoRow", q_NoRow)]) : FnOk P w K mg base CX0 7 f fd ["way", "p", "q", "m"] (spRefused K) := by
  refine F.ok sc_law_refused (fun vs H Q E h => ?_) (fun cdv A outer s H vs Q E hr h => ?_)
  · obtain ⟨way, m, r, v, u, rfl, w0, w5, h, q⟩ := h
    rfl
  · obtain ⟨way, m, r, v, u, rfl, w0, w5, h, q⟩ := h
    have hr_go_past : Room 5 _ := hr.mono (by decide)
    have hr_named_anew : Room 4 _ := hr.mono (by decide)
    have hr_powers_of_one : Room 6 _ := hr.mono (by decide)
    have hr_how_many_past : Room 4 _ := hr.mono (by decide)
    have hr_all_past : Room 5 _ := hr.mono (by decide)
    have hr_root_families : Room 6 _ := hr.mono (by decide)
    have hr_law_which : Room 1 _ := hr.mono (by decide)
    refine ⟨_, @pss_cons _ _ _ _ _ (@ps_set _ _ (4) _ _ _ _ sc_law_refused.nd rfl (Or.inl rfl) (@pe_non _ _ _) (by rfl) (by first | exact .inl rfl | exact .inr rfl | assumption)) (@pss_cons _ _ _ _ _ (@ps_try _ _ _ _ _ (5) _ _ _ _ _ _ _ (@px_if _ _ _ _ _ _ _ _ (@pt_cmpR _ _ _ _ _ _ _ _ op_eq (pv 0) (@pe_int _ _ _ _) (nomark _)) (@px_expr _ _ _ _ _ _ _ _ _ _ _ c_go_past hr_go_past (@pa_cons _ _ _ _ _ (pv 1) (@pa_cons _ _ _ _ _ (pv 2) (@pa_nil _) (by rfl)) (by rfl)) (by rfl) (by decide) (by rfl) (by rfl) (by rfl)) (@px_if _ _ _ _ _ _ _ _ (@pt_cmpR _ _ _ _ _ _ _ _ op_eq (pv 0) (@pe_int _ _ _ _) (nomark _)) (@px_expr _ _ _ _ _ _ _ _ _ _ _ c_named_anew hr_named_anew (@pa_cons _ _ _ _ _ (pv 1) (@pa_cons _ _ _ _ _ (pv 2) (@pa_nil _) (by rfl)) (by rfl)) (by rfl) (by decide) (by rfl) (by rfl) (by rfl)) (@px_if _ _ _ _ _ _ _ _ (@pt_cmpR _ _ _ _ _ _ _ _ op_eq (pv 0) (@pe_int _ _ _ _) (nomark _)) (@px_expr _ _ _ _ _ _ _ _ _ _ _ c_powers_of_one hr_powers_of_one (@pa_cons _ _ _ _ _ (pv 1) (@pa_cons _ _ _ _ _ (pv 2) (@pa_nil _) (by rfl)) (by rfl)) (by rfl) (by decide) (by rfl) (by rfl) (by rfl)) (@px_if _ _ _ _ _ _ _ _ (@pt_cmpR _ _ _ _ _ _ _ _ op_eq (pv 0) (@pe_int _ _ _ _) (nomark _)) (@px_expr _ _ _ _ _ _ _ _ _ _ _ c_how_many_past hr_how_many_past (@pa_cons _ _ _ _ _ (pv 1) (@pa_nil _) (by rfl)) (by rfl) (by decide) (by rfl) (by rfl) (by rfl)) (@px_if _ _ _ _ _ _ _ _ (@pt_cmpR _ _ _ _ _ _ _ _ op_eq (pv 0) (@pe_int _ _ _ _) (nomark _)) (@px_expr _ _ _ _ _ _ _ _ _ _ _ c_all_past hr_all_past (@pa_cons _ _ _ _ _ (pv 1) (@pa_nil _) (by rfl)) (by rfl) (by decide) (by rfl) (by rfl) (by rfl)) (@px_expr _ _ _ _ _ _ _ _ _ _ _ c_root_families hr_root_families (@pa_cons _ _ _ _ _ (pv 1) (@pa_cons _ _ _ _ _ (pv 3) (@pa_nil _) (by rfl)) (by rfl)) (by rfl) (by decide) (by rfl) (by rfl) (by rfl))))))) ER.top sc_law_refused.nd rfl rfl (fun _ => (@pss_one _ _ _ (@ps_set _ _ (4) _ _ _ _ sc_law_refused.nd rfl (Or.inl rfl) (pv 5) (by rfl) (by first | exact .inl rfl | exact .inr rfl | assumption)))) (by rfl) (by rfl) (by rfl) (by rfl) (by decide) (by first | exact .inl rfl | exact .inr rfl | assumption)) (@pss_one _ _ _ (@ps_ret _ _ _ _ (@pe_cal _ _ _ _ _ _ _ _ _ _ c_law_which hr_law_which (@pa_cons _ _ _ _ _ (pv 4) (@pa_nil _) (by rfl)) (by rfl) (by decide) (by rfl) (by rfl))))), ?_⟩
    have hw : way = 0 ∨ way = 1 ∨ way = 2 ∨ way = 3 ∨ way = 4 ∨ way = 5 := by omega
    rcases hw with rfl | rfl | rfl | rfl | rfl | rfl
    · refine ⟨_, rfl, rfl, _, rfl, iteT ?_⟩
      rcases h with ⟨no, rfl⟩ | ⟨a, p, rfl, tp, ⟨_, no, rfl⟩ | ⟨_, rfl, b, q2, rfl, tq, ne⟩ | ⟨z, _⟩⟩
      · exact ⟨_, rfl, _, rfl, v, u, rfl, .inl ⟨no, fun H1 s1 => ⟨q_NoTurn, rfl, ER.exm ("NoTurn", q_NoTurn) (by simp), fun e he => ⟨_, rfl, _, rfl, e, q_NoTurn, 0, rfl, upd_same, .inl ⟨rfl, rfl⟩, fun H2 s2 => q H2 (s1.trans ((Same.upd_new he).trans s2))⟩⟩⟩⟩
      · exact ⟨_, rfl, _, rfl, .ref a, u, rfl, .inr ⟨a, p, rfl, tp, .inl ⟨no, fun H1 s1 => ⟨q_NoTurn, rfl, ER.exm ("NoTurn", q_NoTurn) (by simp), fun e he => ⟨_, rfl, _, rfl, e, q_NoTurn, 0, rfl, upd_same, .inl ⟨rfl, rfl⟩, fun H2 s2 => q H2 (s1.trans ((Same.upd_new he).trans s2))⟩⟩⟩⟩⟩
      · exact ⟨_, rfl, _, rfl, .ref a, .ref b, rfl, .inr ⟨a, p, rfl, tp, .inr ⟨b, q2, rfl, tq, ne, fun H1 s1 => ⟨q_NoFit, rfl, ER.exm ("NoFit", q_NoFit) (by simp), fun e he => ⟨_, rfl, _, rfl, e, q_NoFit, 1, rfl, upd_same, .inr (.inl ⟨rfl, rfl⟩), fun H2 s2 => q H2 (s1.trans ((Same.upd_new he).trans s2))⟩⟩⟩⟩⟩
      · omega
    · refine ⟨_, rfl, rfl, _, rfl, iteF ⟨_, rfl, rfl, _, rfl, iteT ?_⟩⟩
      rcases h with ⟨no, rfl⟩ | ⟨a, p, rfl, tp, ⟨_, no, rfl⟩ | ⟨_, rfl, b, q2, rfl, tq, ne⟩ | ⟨z, _⟩⟩
      · exact ⟨_, rfl, _, rfl, v, u, rfl, .inl ⟨no, fun H1 s1 => ⟨q_NoTurn, rfl, ER.exm ("NoTurn", q_NoTurn) (by simp), fun e he => ⟨_, rfl, _, rfl, e, q_NoTurn, 0, rfl, upd_same, .inl ⟨rfl, rfl⟩, fun H2 s2 => q H2 (s1.trans ((Same.upd_new he).trans s2))⟩⟩⟩⟩
      · exact ⟨_, rfl, _, rfl, .ref a, u, rfl, .inr ⟨a, p, rfl, tp, .inl ⟨no, fun H1 s1 => ⟨q_NoTurn, rfl, ER.exm ("NoTurn", q_NoTurn) (by simp), fun e he => ⟨_, rfl, _, rfl, e, q_NoTurn, 0, rfl, upd_same, .inl ⟨rfl, rfl⟩, fun H2 s2 => q H2 (s1.trans ((Same.upd_new he).trans s2))⟩⟩⟩⟩⟩
      · exact ⟨_, rfl, _, rfl, .ref a, .ref b, rfl, .inr ⟨a, p, rfl, tp, .inr ⟨b, q2, rfl, tq, ne, fun H1 s1 => ⟨q_NoFit, rfl, ER.exm ("NoFit", q_NoFit) (by simp), fun e he => ⟨_, rfl, _, rfl, e, q_NoFit, 1, rfl, upd_same, .inr (.inl ⟨rfl, rfl⟩), fun H2 s2 => q H2 (s1.trans ((Same.upd_new he).trans s2))⟩⟩⟩⟩⟩
      · omega
    · refine ⟨_, rfl, rfl, _, rfl, iteF ⟨_, rfl, rfl, _, rfl, iteF ⟨_, rfl, rfl, _, rfl, iteT ?_⟩⟩⟩
      rcases h with ⟨no, rfl⟩ | ⟨a, p, rfl, tp, ⟨_, no, rfl⟩ | ⟨_, rfl, b, q2, rfl, tq, ne⟩ | ⟨z, _⟩⟩
      · exact ⟨_, rfl, _, rfl, v, u, rfl, .inl ⟨no, fun H1 s1 => ⟨q_NoTurn, rfl, ER.exm ("NoTurn", q_NoTurn) (by simp), fun e he => ⟨_, rfl, _, rfl, e, q_NoTurn, 0, rfl, upd_same, .inl ⟨rfl, rfl⟩, fun H2 s2 => q H2 (s1.trans ((Same.upd_new he).trans s2))⟩⟩⟩⟩
      · exact ⟨_, rfl, _, rfl, .ref a, u, rfl, .inr ⟨a, p, rfl, tp, .inl ⟨no, fun H1 s1 => ⟨q_NoTurn, rfl, ER.exm ("NoTurn", q_NoTurn) (by simp), fun e he => ⟨_, rfl, _, rfl, e, q_NoTurn, 0, rfl, upd_same, .inl ⟨rfl, rfl⟩, fun H2 s2 => q H2 (s1.trans ((Same.upd_new he).trans s2))⟩⟩⟩⟩⟩
      · exact ⟨_, rfl, _, rfl, .ref a, .ref b, rfl, .inr ⟨a, p, rfl, tp, .inr ⟨b, q2, rfl, tq, ne, fun H1 s1 => ⟨q_NoFit, rfl, ER.exm ("NoFit", q_NoFit) (by simp), fun e he => ⟨_, rfl, _, rfl, e, q_NoFit, 1, rfl, upd_same, .inr (.inl ⟨rfl, rfl⟩), fun H2 s2 => q H2 (s1.trans ((Same.upd_new he).trans s2))⟩⟩⟩⟩⟩
      · omega
    · refine ⟨_, rfl, rfl, _, rfl, iteF ⟨_, rfl, rfl, _, rfl, iteF ⟨_, rfl, rfl, _, rfl, iteF ⟨_, rfl, rfl, _, rfl, iteT ?_⟩⟩⟩⟩
      rcases h with ⟨no, rfl⟩ | ⟨a, p, rfl, tp, ⟨z, _⟩ | ⟨z, _⟩ | ⟨z, _⟩⟩
      · exact ⟨_, rfl, v, rfl, no, fun H1 s1 => ⟨q_NoTurn, rfl, ER.exm ("NoTurn", q_NoTurn) (by simp), fun e he => ⟨_, rfl, _, rfl, e, q_NoTurn, 0, rfl, upd_same, .inl ⟨rfl, rfl⟩, fun H2 s2 => q H2 (s1.trans ((Same.upd_new he).trans s2))⟩⟩⟩
      · omega
      · omega
      · omega
    · refine ⟨_, rfl, rfl, _, rfl, iteF ⟨_, rfl, rfl, _, rfl, iteF ⟨_, rfl, rfl, _, rfl, iteF ⟨_, rfl, rfl, _, rfl, iteF ⟨_, rfl, rfl, _, rfl, iteT ?_⟩⟩⟩⟩⟩
      rcases h with ⟨no, rfl⟩ | ⟨a, p, rfl, tp, ⟨z, _⟩ | ⟨z, _⟩ | ⟨z, _⟩⟩
      · exact ⟨_, rfl, v, rfl, no, fun H1 s1 => ⟨q_NoTurn, rfl, ER.exm ("NoTurn", q_NoTurn) (by simp), fun e he => ⟨_, rfl, _, rfl, e, q_NoTurn, 0, rfl, upd_same, .inl ⟨rfl, rfl⟩, fun H2 s2 => q H2 (s1.trans ((Same.upd_new he).trans s2))⟩⟩⟩
      · omega
      · omega
      · omega
    · refine ⟨_, rfl, rfl, _, rfl, iteF ⟨_, rfl, rfl, _, rfl, iteF ⟨_, rfl, rfl, _, rfl, iteF ⟨_, rfl, rfl, _, rfl, iteF ⟨_, rfl, rfl, _, rfl, iteF ?_⟩⟩⟩⟩⟩
      rcases h with ⟨no, rfl⟩ | ⟨a, p, rfl, tp, ⟨z, _⟩ | ⟨z, _⟩ | ⟨_, hm, rfl⟩⟩
      · exact ⟨_, rfl, _, rfl, v, m, rfl, .inl ⟨no, fun H1 s1 => ⟨q_NoTurn, rfl, ER.exm ("NoTurn", q_NoTurn) (by simp), fun e he => ⟨_, rfl, _, rfl, e, q_NoTurn, 0, rfl, upd_same, .inl ⟨rfl, rfl⟩, fun H2 s2 => q H2 (s1.trans ((Same.upd_new he).trans s2))⟩⟩⟩⟩
      · omega
      · omega
      · exact ⟨_, rfl, _, rfl, .ref a, m, rfl, .inr ⟨a, p, rfl, tp, hm, fun H1 s1 => ⟨q_NoNumber, rfl, ER.exm ("NoNumber", q_NoNumber) (by simp), fun e he => ⟨_, rfl, _, rfl, e, q_NoNumber, 2, rfl, upd_same, .inr (.inr ⟨rfl, rfl⟩), fun H2 s2 => q H2 (s1.trans ((Same.upd_new he).trans s2))⟩⟩⟩⟩
theorem pool_same {H H' : Hp} {g : Addr} {c : Nat} (h : PoolAt H g c) (s : Same H H') : PoolAt H' g c := by
  obtain ⟨x, y, z, e1, e2⟩ := h
  exact ⟨x, y, z, s _ _ e1, e2⟩
theorem pool_ne {H : Hp} {g b : Addr} {c : Nat} (h : PoolAt H g c) (hb : H b = none) : b ≠ g := by
  obtain ⟨x, y, z, e1, e2⟩ := h
  exact fun e => by rw [e, e1] at hb; cases hb
theorem pool_upd {H : Hp} {a so : Addr} {o : HO} {c : Nat} (h : PoolAt H a c) (ne : so ≠ a) : PoolAt (upd H so o) a c := by
  obtain ⟨x, y, z, e1, e2⟩ := h
  exact ⟨x, y, z, by rw [upd_ne ne.symm]; exact e1, e2⟩
theorem pickN : ∀ {xs : List Int} {r : Int}, 0 ≤ r → r < xs.length → ∃ v ∈ xs, atI (xs.map V.int) r = some (.int v) := fun {xs r} h0 h1 => by
  obtain ⟨j, rfl⟩ := Int.eq_ofNat_of_zero_le h0
  have hj : j < xs.length := by omega
  exact ⟨xs[j], List.getElem_mem hj, atI_nat (j := j) (by rw [List.getElem?_map, List.getElem?_eq_getElem hj]; rfl)⟩
theorem piled_le : ∀ {ts : List Str} {m : Nat}, (∀ t ∈ ts, t.length ≤ m) → piled ts ≤ ts.length * (m + 2)
  | [], m, _ => by simp [piled]
  | t :: ts, m, h => by
    have := piled_le (ts := ts) (m := m) fun x hx => h x (List.mem_cons_of_mem _ hx)
    have := h t List.mem_cons_self
    rw [List.length_cons, Nat.succ_mul, piled_cons]
    omega
theorem tupleText_le {ts : List Str} {m : Nat} (h : ∀ t ∈ ts, t.length ≤ m) : (tupleText ts).length ≤ 4 + ts.length * (m + 2) := by
  unfold tupleText
  rw [strLen_append, strLen_append]
  have e1 : (("(" : String) : Str).length = 1 := rfl
  have e2 : (((if ts.length == 1 then ",)" else ")" : String)) : Str).length ≤ 2 := by split <;> decide
  by_cases z : ts = []
  · subst z
    have : (Str.join ", " []).length = 0 := rfl
    omega
  · have := join_length_add ts z
    have := piled_le h
    omega
theorem shows_tup {M : Hp} {a : Addr} {ns : List Int} (h : M a = some (.tup (ns.map V.int))) (l : ns.length ≤ 300) (b : ∀ x ∈ ns, Mod40 x) : Shows M (.ref a) := by
  obtain ⟨ds, h1, h2, h3, h4, h5⟩ := ie_all (M := M) (xs := ns.map V.int) fun x hx => by obtain ⟨i, hi, rfl⟩ := List.mem_map.mp hx; exact ie_int (b i hi)
  refine ⟨.tuple ds, .tup h h1, by rw [PyData.showable]; exact h2, ?_, by rw [PyData.depth]; omega⟩
  rw [PyData.shown]
  refine Nat.le_trans (tupleText_le h3) ?_
  rw [h4, List.length_map]
  have := Nat.mul_le_mul_right (2000 + 2) l
  omega
theorem set_split {p : List Int} {k : Nat} (h : k < p.length) (y : Int) : p.set k y = p.take k ++ [y] ++ p.drop (k + 1) := by
  rw [List.set_eq_take_append_cons_drop, if_pos h, List.append_assoc]
  rfl
theorem dup_no {p : List Int} {i j : Nat} (hi : i < p.length) (hj : j < p.length) (ne : j ≠ i) : ¬ IsT (p.set i (p.getD j 0)) := fun t => by
  have nd := t.nd
  have a : (p.set i (p.getD j 0))[i]? = some (p.getD j 0) := by rw [List.getElem?_set_self hi]
  have b : (p.set i (p.getD j 0))[j]? = some (p.getD j 0) := by rw [List.getElem?_set_ne (Ne.symm ne), List.getElem?_eq_getElem hj, Mth.getD_at hj]
  exact ne ((List.getElem?_inj (by rw [List.length_set]; exact hj) nd).mp (b.trans a.symm))
theorem cut_no {p : List Int} (t : IsT p) {i : Nat} (hi : i < p.length) (ne : p.getD i 0 ≠ (p.length : Int) - 1) : ¬ IsT (p.take i ++ p.drop (i + 1)) := fun u => by
  have m : ((p.length : Int) - 1) ∈ p := by
    refine t.perm.mem_iff.mpr ?_
    unfold L2.upTo
    exact List.mem_map.mpr ⟨p.length - 1, List.mem_range.mpr (by omega), by omega⟩
  have m2 : ((p.length : Int) - 1) ∈ p.take i ++ p.drop (i + 1) := by
    obtain ⟨x, ex⟩ : ∃ x, x = (p.length : Int) - 1 := ⟨_, rfl⟩
    rw [← ex] at m ne ⊢
    have e : p = p.take i ++ p[i] :: p.drop (i + 1) := by rw [List.getElem_cons_drop, List.take_append_drop]
    have m' : x ∈ p.take i ++ p[i] :: p.drop (i + 1) := by rw [← e]; exact m
    rcases List.mem_append.mp m' with z | z
    · exact List.mem_append_left _ z
    · rcases List.mem_cons.mp z with z | z
      · exact absurd (by rw [Mth.getD_at hi, z]) ne
      · exact List.mem_append_right _ z
  have := u.hi _ m2
  rw [List.length_append, List.length_take, List.length_drop] at this
  omega
theorem cut_to {xs : List V} {i : Int} (h0 : 0 ≤ i) (h1 : i ≤ (xs.length : Int)) : cutV xs none (some i) = xs.take i.toNat := by
  obtain ⟨k, rfl⟩ := Int.eq_ofNat_of_zero_le h0
  unfold cutV
  rw [HT.sIx_nat, HT.sIx_none, List.drop_zero, Nat.sub_zero, Nat.min_eq_left (by omega)]
  rfl
theorem cut_from {xs : List V} {i : Int} (h0 : 0 ≤ i) (h1 : i ≤ (xs.length : Int)) : cutV xs (some i) none = xs.drop i.toNat := by
  obtain ⟨k, rfl⟩ := Int.eq_ofNat_of_zero_le h0
  unfold cutV
  rw [HT.sIx_nat, HT.sIx_none, Nat.min_eq_left (by omega), List.take_of_length_le (by rw [List.length_drop]; omega)]
  rfl
theorem joinF {R : St → Hp → Prop} {σ : St} {H : Hp} {A B : Prop} {b : Bool} (G : St → Hp → Prop) (rest : ∀ σ' H', G σ' H' → R σ' H') (hb : G σ H) (ha : (∀ σ' H', G σ' H' → R σ' H') → A) : if b = true then A else if false = true then B else R σ H := by
  cases b with
  | true => exact ha rest
  | false => exact rest σ H hb
theorem joinFB {R : St → Hp → Prop} {σ : St} {H : Hp} {A B : Prop} {b : Bool} (G : St → Hp → Prop) (rest : ∀ σ' H', G σ' H' → R σ' H') (hb : G σ H) (ha : b = true → (∀ σ' H', G σ' H' → R σ' H') → A) : if b = true then A else if false = true then B else R σ H := by
  cases b with
  | true => exact ha rfl rest
  | false => exact rest σ H hb
theorem das_two {M : Hp} {l : Addr} {x y : V} {d e : PyData} (h : M l = some (.lst [x, y])) (hx : Da M x d) (hy : Da M y e) (sx : d.showable = true) (sy : e.showable = true) (lx : d.shown.length ≤ 700000) (ly : e.shown.length ≤ 700000) (dx : d.depth ≤ 4) (dy : e.depth ≤ 4) : DaS M (.ref l) (.list [d, e]) := by
  refine ⟨.lst h (.cons hx (.cons hy .nil)), by simp only [PyData.showable, PyData.showableAll]; rw [sx, sy]; rfl, ?_, by simp only [PyData.depth, PyData.depthAll]; omega⟩
  rw [PyData.shown]
  simp only [PyData.shownAll]
  refine Nat.le_trans (listText_le (m := 700000) fun t ht => ?_) ?_
  · simp only [List.mem_cons, List.not_mem_nil, or_false] at ht
    rcases ht with rfl | rfl
    · exact lx
    · exact ly
  · rw [sizeLine_eq]
    simp only [List.length_cons, List.length_nil]
    omega
theorem joinR {R : St → Hp → Prop} {σ : St} {H : Hp} {A : Prop} {b : Bool} (G : St → Hp → Prop) (rest : ∀ σ' H', G σ' H' → R σ' H') (hb : G σ H) (ha : (∀ σ' H', G σ' H' → R σ' H') → A) : if b = true then A else R σ H := by
  cases b with
  | true => exact ha rest
  | false => exact rest σ H hb
theorem joinB {R : St → Hp → Prop} {σ : St} {H : Hp} {A : Prop} {b : Bool} (G : St → Hp → Prop) (rest : ∀ σ' H', G σ' H' → R σ' H') (hb : ¬ b = true → G σ H) (ha : b = true → (∀ σ' H', G σ' H' → R σ' H') → A) : if b = true then A else R σ H := by
  cases b with
  | true => exact ha rfl rest
  | false => exact rest σ H (hb (by decide))
theorem ixN_of {n : Nat} {k : Int} (h0 : 0 ≤ k) (h1 : k < (n : Int)) : ixN n k = some k.toNat := by
  unfold ixN
  rw [if_pos h0, if_pos h1]
def spBad (K : PySem.W.Frag) : Sp := fun vs H Q _ => ∃ (g : Addr) (c : Nat), vs = [.ref g] ∧ PoolAt H g c ∧ c ≤ 700000 ∧ ∀ (v : V) (H' : Hp), PoolAt H' g (c + 500) → KeepBut g H H' → BadV K (hole H' g g) v → Q v H'
theorem sc_law_bad : FnScope ["pool", "p", "at", "other", "made", "free", "odds", "found"] ["pool"] (defScope s_law_bad) := ⟨rfl, rfl, rfl, by decide +kernel, rfl, by decide +kernel, by decide +kernel⟩
theorem nd_thing_pool_p_law_bad : (["thing", "pool", "p"] : List Str).Nodup := by decide +kernel
theorem ok_law_bad {f : Addr} {fd : FuncData} (F : Fun K "_law_bad" "_law_bad" s_law_bad f fd) (B : Bl mg) (c_law_turn : Cal P w K mg base "_law_turn" 2 ["pool", "many"] spTurn) (c_law_draw : Cal P w K mg base "_law_draw" 1 ["pool", "many"] spTake) : FnOk P w K mg base CX0 3 f fd ["pool"] (spBad K) := by
  refine F.ok sc_law_bad (fun vs H Q E h => ?_) (fun cdv A outer s H vs Q E hr h => ?_)
  · obtain ⟨g, c, rfl, P0, hc, q⟩ := h
    rfl
  · obtain ⟨g, c, rfl, P0, hc, q⟩ := h
    have hr_law_turn : Room 2 _ := hr.mono (by decide)
    have hr_law_draw : Room 1 _ := hr.mono (by decide)
    have hu := hu_of hr
    refine ⟨_, @pss_cons _ _ _ _ _ (@ps_set _ _ (1) _ _ _ _ sc_law_bad.nd rfl (Or.inr rfl) (@pe_cal _ _ _ _ _ _ _ _ _ _ c_law_turn hr_law_turn (@pa_cons _ _ _ _ _ (pv 0) (@pa_cons _ _ _ _ _ (@pe_ix _ _ _ _ _ _ _ ix_list (@pe_lst _ _ _ _ (@pa_cons _ _ _ _ _ (@pe_op _ _ _ _ _ _ _ _ op_add (@pe_int _ _ _ _) (@pe_cal _ _ _ _ _ _ _ _ _ _ c_law_draw hr_law_draw (@pa_cons _ _ _ _ _ (pv 0) (@pa_cons _ _ _ _ _ (@pe_int _ _ _ _) (@pa_nil _) (by rfl)) (by rfl)) (by rfl) (by decide) (by rfl) (by rfl))) (@pa_cons _ _ _ _ _ (@pe_op _ _ _ _ _ _ _ _ op_add (@pe_int _ _ _ _) (@pe_cal _ _ _ _ _ _ _ _ _ _ c_law_draw hr_law_draw (@pa_cons _ _ _ _ _ (pv 0) (@pa_cons _ _ _ _ _ (@pe_int _ _ _ _) (@pa_nil _) (by rfl)) (by rfl)) (by rfl) (by decide) (by rfl) (by rfl))) (@pa_nil _) (by rfl)) (by rfl))) (@pe_cal _ _ _ _ _ _ _ _ _ _ c_law_draw hr_law_draw (@pa_cons _ _ _ _ _ (pv 0) (@pa_cons _ _ _ _ _ (@pe_int _ _ _ _) (@pa_nil _) (by rfl)) (by rfl)) (by rfl) (by decide) (by rfl) (by rfl)) (fun _ _ => rfl)) (@pa_nil _) (by rfl)) (by rfl)) (by rfl) (by decide) (by rfl) (by rfl)) (by rfl) (by first | exact .inl rfl | exact .inr rfl | assumption)) (@pss_cons _ _ _ _ _ (@ps_set _ _ (2) _ _ _ _ sc_law_bad.nd rfl (Or.inl rfl) (@pe_cal _ _ _ _ _ _ _ _ _ _ c_law_draw hr_law_draw (@pa_cons _ _ _ _ _ (pv 0) (@pa_cons _ _ _ _ _ (@pe_lenL _ _ _ _ _ B.len (@pa_cons _ _ _ _ _ (pv 1) (@pa_nil _) (by rfl)) (by rfl) (by rfl)) (@pa_nil _) (by rfl)) (by rfl)) (by rfl) (by decide) (by rfl) (by rfl)) (by rfl) (by first | exact .inl rfl | exact .inr rfl | assumption)) (@pss_cons _ _ _ _ _ (@ps_set _ _ (3) _ _ _ _ sc_law_bad.nd rfl (Or.inl rfl) (@pe_op _ _ _ _ _ _ _ _ op_mod (@pe_op _ _ _ _ _ _ _ _ op_add (@pe_op _ _ _ _ _ _ _ _ op_add (pv 2) (@pe_int _ _ _ _)) (@pe_cal _ _ _ _ _ _ _ _ _ _ c_law_draw hr_law_draw (@pa_cons _ _ _ _ _ (pv 0) (@pa_cons _ _ _ _ _ (@pe_op _ _ _ _ _ _ _ _ op_sub (@pe_lenL _ _ _ _ _ B.len (@pa_cons _ _ _ _ _ (pv 1) (@pa_nil _) (by rfl)) (by rfl) (by rfl)) (@pe_int _ _ _ _)) (@pa_nil _) (by rfl)) (by rfl)) (by rfl) (by decide) (by rfl) (by rfl))) (@pe_lenL _ _ _ _ _ B.len (@pa_cons _ _ _ _ _ (pv 1) (@pa_nil _) (by rfl)) (by rfl) (by rfl))) (by rfl) (by first | exact .inl rfl | exact .inr rfl | assumption)) (@pss_cons _ _ _ _ _ (@ps_if _ _ _ _ _ _ _ _ (@pt_cmpR _ _ _ _ _ _ _ _ op_eq (@pe_cal _ _ _ _ _ _ _ _ _ _ c_law_draw hr_law_draw (@pa_cons _ _ _ _ _ (pv 0) (@pa_cons _ _ _ _ _ (@pe_int _ _ _ _) (@pa_nil _) (by rfl)) (by rfl)) (by rfl) (by decide) (by rfl) (by rfl)) (@pe_int _ _ _ _) (nomark _)) (@pss_cons _ _ _ _ _ (@ps_set _ _ (4) _ _ _ _ sc_law_bad.nd rfl (Or.inl rfl) (@pe_listOf _ _ _ _ _ B.list (@pa_cons _ _ _ _ _ (pv 1) (@pa_nil _) (by rfl)) (by rfl) (by rfl)) (by rfl) (by first | exact .inl rfl | exact .inr rfl | assumption)) (@pss_cons _ _ _ _ _ (@ps_asg _ _ _ _ _ _ (@pe_op _ _ _ _ _ _ _ _ op_add (@pe_ix _ _ _ _ _ _ _ ix_list (pv 4) (pv 2) (fun _ _ => rfl)) (@pe_int _ _ _ _)) (@pg_sub _ _ _ _ _ _ _ (pv 4) (pv 2) set_list (by intro _; rfl)) (by rfl) (by rfl) (by rfl)) (@pss_cons _ _ _ _ _ (@ps_asg _ _ _ _ _ _ (@pe_op _ _ _ _ _ _ _ _ op_sub (@pe_ix _ _ _ _ _ _ _ ix_list (pv 4) (pv 3) (fun _ _ => rfl)) (@pe_int _ _ _ _)) (@pg_sub _ _ _ _ _ _ _ (pv 4) (pv 3) set_list (by intro _; rfl)) (by rfl) (by rfl) (by rfl)) (@pss_one _ _ _ (@ps_if _ _ _ _ _ _ _ _ (@pt_cmpR _ _ _ _ _ _ _ _ (op_neL 0 hu) (pe_sortedNX B.sorted (@pa_cons _ _ _ _ _ (pv 4) (@pa_nil _) (by rfl))) (@pe_listRng _ _ _ _ _ _ _ rfl B.list B.range (@pa_cons _ _ _ _ _ (@pe_lenL _ _ _ _ _ B.len (@pa_cons _ _ _ _ _ (pv 1) (@pa_nil _) (by rfl)) (by rfl) (by rfl)) (@pa_nil _) (by rfl)) (by rfl) (by rfl) (by rfl) (by rfl)) (nomark _)) (@pss_one _ _ _ (@ps_ret _ _ _ _ (pv 4))) (@pss_nil _)))))) (@pss_nil _)) (@pss_cons _ _ _ _ _ (@ps_if _ _ _ _ _ _ _ _ (@pt_cmpR _ _ _ _ _ _ _ _ op_eq (@pe_cal _ _ _ _ _ _ _ _ _ _ c_law_draw hr_law_draw (@pa_cons _ _ _ _ _ (pv 0) (@pa_cons _ _ _ _ _ (@pe_int _ _ _ _) (@pa_nil _) (by rfl)) (by rfl)) (by rfl) (by decide) (by rfl) (by rfl)) (@pe_int _ _ _ _) (nomark _)) (@pss_cons _ _ _ _ _ (@ps_setC _ (5) _ _ _ _ _ _ _ _ _ _ _ _ _ (["thing", "pool", "p"]) (1) ([0, 1]) sc_law_bad.nd rfl (Or.inl rfl) rfl .of (@pi_list _ _ _ _ (pv 1)) (fun _ _ _ _ _ => @pg_name _ _ (0) _ nd_thing_pool_p_law_bad rfl (Or.inl rfl) (by first | exact .inl rfl | exact .inr rfl | assumption)) (fun _ _ _ _ _ => (@pifs_nil _)) (fun _ _ _ _ _ => (@pe_cal _ _ _ _ _ _ _ _ _ _ c_law_draw hr_law_draw (@pa_cons _ _ _ _ _ (pv 1) (@pa_cons _ _ _ _ _ (@pe_lenLK _ _ _ _ _ K (by exact B.len) (@pa_cons _ _ _ _ _ (pv 2) (@pa_nil _) (by rfl)) (by rfl) (by rfl) (by rfl)) (@pa_nil _) (by rfl)) (by rfl)) (by rfl) (by decide) (by rfl) (by rfl))) (by rfl) (by intro _; rfl) (by first | exact .inl rfl | exact .inr rfl | assumption)) (@pss_one _ _ _ (@ps_if _ _ _ _ _ _ _ _ (@pt_cmpR _ _ _ _ _ _ _ _ (op_neL 0 hu) (pe_sortedNX B.sorted (@pa_cons _ _ _ _ _ (pv 5) (@pa_nil _) (by rfl))) (@pe_listRng _ _ _ _ _ _ _ rfl B.list B.range (@pa_cons _ _ _ _ _ (@pe_lenL _ _ _ _ _ B.len (@pa_cons _ _ _ _ _ (pv 1) (@pa_nil _) (by rfl)) (by rfl) (by rfl)) (@pa_nil _) (by rfl)) (by rfl) (by rfl) (by rfl) (by rfl)) (nomark _)) (@pss_one _ _ _ (@ps_ret _ _ _ _ (pv 5))) (@pss_nil _)))) (@pss_nil _)) (@pss_cons _ _ _ _ _ (@ps_set _ _ (6) _ _ _ _ sc_law_bad.nd rfl (Or.inl rfl) (@pe_lst _ _ _ _ (@pa_cons _ _ _ _ _ (@pe_ix _ _ _ _ _ _ _ ix_list (pv 1) (pv 3) (fun _ _ => rfl)) (@pa_cons _ _ _ _ _ (@pe_lenL _ _ _ _ _ B.len (@pa_cons _ _ _ _ _ (pv 1) (@pa_nil _) (by rfl)) (by rfl) (by rfl)) (@pa_cons _ _ _ _ _ (@pe_op _ _ _ _ _ _ _ _ op_add (@pe_lenL _ _ _ _ _ B.len (@pa_cons _ _ _ _ _ (pv 1) (@pa_nil _) (by rfl)) (by rfl) (by rfl)) (@pe_cal _ _ _ _ _ _ _ _ _ _ c_law_draw hr_law_draw (@pa_cons _ _ _ _ _ (pv 0) (@pa_cons _ _ _ _ _ (@pe_op _ _ _ _ _ _ _ _ op_pow (@pe_int _ _ _ _) (@pe_int _ _ _ _)) (@pa_nil _) (by rfl)) (by rfl)) (by rfl) (by decide) (by rfl) (by rfl))) (@pa_first _ 9 4 _ _ [.int (-(1)), .none, .str "0", .list [.int (0)]] (by rfl) (@pa_cons _ _ _ _ _ (@pe_op _ _ _ _ _ _ _ _ op_sub (@pe_un _ _ _ _ _ _ un_neg (@pe_int _ _ _ _)) (@pe_cal _ _ _ _ _ _ _ _ _ _ c_law_draw hr_law_draw (@pa_cons _ _ _ _ _ (pv 0) (@pa_cons _ _ _ _ _ (@pe_int _ _ _ _) (@pa_nil _) (by rfl)) (by rfl)) (by rfl) (by decide) (by rfl) (by rfl))) (@pa_nil _) (by rfl))) (by rfl)) (by rfl)) (by rfl))) (by rfl) (by first | exact .inl rfl | exact .inr rfl | assumption)) (@pss_cons _ _ _ _ _ (@ps_if _ _ _ _ _ _ _ _ (@pw_and _ _ _ _ _ _ _ (@pt_cmpR _ _ _ _ _ _ _ _ op_lt (@pe_ix _ _ _ _ _ _ _ ix_list (pv 1) (pv 2) (fun _ _ => rfl)) (@pe_int _ _ _ _) (nomark _)) (@pw_and1 _ _ _ _ (@pt_cmpR _ _ _ _ _ _ _ _ op_eq (@pe_cal _ _ _ _ _ _ _ _ _ _ c_law_draw hr_law_draw (@pa_cons _ _ _ _ _ (pv 0) (@pa_cons _ _ _ _ _ (@pe_int _ _ _ _) (@pa_nil _) (by rfl)) (by rfl)) (by rfl) (by decide) (by rfl) (by rfl)) (@pe_int _ _ _ _) (nomark _)))).pt (@pss_one _ _ _ (@ps_ret _ _ _ _ (@pe_op _ _ _ _ _ _ _ _ op_cat (@pe_op _ _ _ _ _ _ _ _ op_cat (@pe_slice _ _ _ _ _ _ _ _ _ _ sl_list (pv 1) (@po_none _) (@po_some _ _ _ (pv 2))) (@pe_lst _ _ _ _ (@pa_cons _ _ _ _ _ (@pe_cmpR _ _ _ _ _ _ _ _ op_eq (@pe_ix _ _ _ _ _ _ _ ix_list (pv 1) (pv 2) (fun _ _ => rfl)) (@pe_int _ _ _ _) (nomark _)) (@pa_nil _) (by rfl)))) (@pe_slice _ _ _ _ _ _ _ _ _ _ sl_list (pv 1) (@po_some _ _ _ (@pe_op _ _ _ _ _ _ _ _ op_add (pv 2) (@pe_int _ _ _ _))) (@po_none _))))) (@pss_nil _)) (@pss_cons _ _ _ _ _ (@ps_set _ _ (7) _ _ _ _ sc_law_bad.nd rfl (Or.inl rfl) (@pe_lst _ _ _ _ (@pa_cons _ _ _ _ _ (@pe_op _ _ _ _ _ _ _ _ op_cat (@pe_op _ _ _ _ _ _ _ _ op_cat (@pe_slice _ _ _ _ _ _ _ _ _ _ sl_list (pv 1) (@po_none _) (@po_some _ _ _ (pv 2))) (@pe_lst _ _ _ _ (@pa_cons _ _ _ _ _ (@pe_ix _ _ _ _ _ _ _ ix_list (pv 6) (@pe_cal _ _ _ _ _ _ _ _ _ _ c_law_draw hr_law_draw (@pa_cons _ _ _ _ _ (pv 0) (@pa_cons _ _ _ _ _ (@pe_int _ _ _ _) (@pa_nil _) (by rfl)) (by rfl)) (by rfl) (by decide) (by rfl) (by rfl)) (fun _ _ => rfl)) (@pa_nil _) (by rfl)))) (@pe_slice _ _ _ _ _ _ _ _ _ _ sl_list (pv 1) (@po_some _ _ _ (@pe_op _ _ _ _ _ _ _ _ op_add (pv 2) (@pe_int _ _ _ _))) (@po_none _))) (@pa_cons _ _ _ _ _ (@pe_op _ _ _ _ _ _ _ _ op_cat (@pe_slice _ _ _ _ _ _ _ _ _ _ sl_list (pv 1) (@po_none _) (@po_some _ _ _ (pv 2))) (@pe_slice _ _ _ _ _ _ _ _ _ _ sl_list (pv 1) (@po_some _ _ _ (@pe_op _ _ _ _ _ _ _ _ op_add (pv 2) (@pe_int _ _ _ _))) (@po_none _))) (@pa_nil _) (by rfl)) (by rfl))) (by rfl) (by first | exact .inl rfl | exact .inr rfl | assumption)) (@pss_cons _ _ _ _ _ (@ps_set _ _ (7) _ _ _ _ sc_law_bad.nd rfl (Or.inl rfl) (@pe_op _ _ _ _ _ _ _ _ op_cat (pv 7) (@pe_lst _ _ _ _ (@pa_cons _ _ _ _ _ (@pe_callTy _ _ _ _ _ _ _ _ _ call_tuple_of (by rfl) B.tuple boot_tupleT (@pa_cons _ _ _ _ _ (pv 1) (@pa_nil _) (by rfl)) (by decide) (by decide) (by rfl) (by rfl)) (@pa_first _ 9 3 _ _ [.none, .str "0 1", .int (5)] (by rfl) (@pa_cons _ _ _ _ _ (@pe_dnewK _ _) (@pa_data _ 9 _ [.bool true] (by rfl)) (by rfl))) (by rfl)))) (by rfl) (by first | exact .inl rfl | exact .inr rfl | assumption)) (@pss_cons _ _ _ _ _ (@ps_set _ _ (7) _ _ _ _ sc_law_bad.nd rfl (Or.inl rfl) (@pe_op _ _ _ _ _ _ _ _ op_cat (pv 7) (@pe_lst _ _ _ _ (@pa_cons _ _ _ _ _ (@pe_listRng _ _ _ _ _ _ _ rfl B.list B.range (@pa_cons _ _ _ _ _ (@pe_op _ _ _ _ _ _ _ _ op_add (@pe_int _ _ _ _) (@pe_cal _ _ _ _ _ _ _ _ _ _ c_law_draw hr_law_draw (@pa_cons _ _ _ _ _ (pv 0) (@pa_cons _ _ _ _ _ (@pe_int _ _ _ _) (@pa_nil _) (by rfl)) (by rfl)) (by rfl) (by decide) (by rfl) (by rfl))) (@pa_nil _) (by rfl)) (by rfl) (by rfl) (by rfl) (by rfl)) (@pa_cons _ _ _ _ _ (@pe_lst _ _ _ _ (@pa_cons _ _ _ _ _ (@pe_bl _ _ _ _) (@pa_cons _ _ _ _ _ (@pe_bl _ _ _ _) (@pa_nil _) (by rfl)) (by rfl))) (@pa_cons _ _ _ _ _ (@pe_lst _ _ _ _ (@pa_cons _ _ _ _ _ (@pe_bl _ _ _ _) (@pa_nil _) (by rfl))) (@pa_cons _ _ _ _ _ (@pe_lst _ _ _ _ (@pa_cons _ _ _ _ _ (@pe_int _ _ _ _) (@pa_nil _) (by rfl))) (@pa_nil _) (by rfl)) (by rfl)) (by rfl)) (by rfl)))) (by rfl) (by first | exact .inl rfl | exact .inr rfl | assumption)) (@pss_cons _ _ _ _ _ (@ps_if _ _ _ _ _ _ _ _ (@pt_cmpR _ _ _ _ _ _ _ _ op_eq (@pe_ix _ _ _ _ _ _ _ ix_list (pv 1) (pv 2) (fun _ _ => rfl)) (@pe_op _ _ _ _ _ _ _ _ op_sub (@pe_lenL _ _ _ _ _ B.len (@pa_cons _ _ _ _ _ (pv 1) (@pa_nil _) (by rfl)) (by rfl) (by rfl)) (@pe_int _ _ _ _)) (nomark _)) (@pss_one _ _ _ (@ps_asg _ _ _ _ _ _ (@pe_lst _ _ _ _ (@pa_cons _ _ _ _ _ (@pe_int _ _ _ _) (@pa_cons _ _ _ _ _ (@pe_int _ _ _ _) (@pa_nil _) (by rfl)) (by rfl))) (@pg_sub _ _ _ _ _ _ _ (pv 7) (@pe_int _ _ _ _) set_list (by intro _; rfl)) (by rfl) (by rfl) (by rfl))) (@pss_nil _)) (@pss_one _ _ _ (@ps_ret _ _ _ _ (@pe_ix _ _ _ _ _ _ _ ix_list (pv 7) (@pe_ix _ _ _ _ _ _ _ ix_list (@pe_lst _ _ _ _ (@pa_cons _ _ _ _ _ (@pe_int _ _ _ _) (@pa_cons _ _ _ _ _ (@pe_int _ _ _ _) (@pa_cons _ _ _ _ _ (@pe_int _ _ _ _) (@pa_cons _ _ _ _ _ (@pe_cal _ _ _ _ _ _ _ _ _ _ c_law_draw hr_law_draw (@pa_cons _ _ _ _ _ (pv 0) (@pa_cons _ _ _ _ _ (@pe_int _ _ _ _) (@pa_nil _) (by rfl)) (by rfl)) (by rfl) (by decide) (by rfl) (by rfl)) (@pa_nil _) (by rfl)) (by rfl)) (by rfl)) (by rfl))) (@pe_cal _ _ _ _ _ _ _ _ _ _ c_law_draw hr_law_draw (@pa_cons _ _ _ _ _ (pv 0) (@pa_cons _ _ _ _ _ (@pe_int _ _ _ _) (@pa_nil _) (by rfl)) (by rfl)) (by rfl) (by decide) (by rfl) (by rfl)) (fun _ _ => rfl)) (fun _ _ => rfl)))))))))))))), ?_⟩
    refine ⟨_, rfl, _, rfl, g, c, 11, rfl, P0, by omega, by decide, by decide, fun r1 H1 a0 a1 P1 kb1 => ⟨_, _, rfl, rfl, _, rfl, g, _, 39, rfl, P1, by omega, by decide, by decide, fun r2 H2 b0 b1 P2 kb2 => ⟨_, _, rfl, rfl, (show 2 ≤ sizeLine by decide), fun l1 n1 => ?_⟩⟩⟩
    have s3 : Same H2 (upd H2 l1 (.lst [V.int (2 + r1), V.int (2 + r2)])) := Same.upd_new n1
    have g3 : (upd H2 l1 (.lst [V.int (2 + r1), V.int (2 + r2)])) l1 = some (.lst (([2 + r1, 2 + r2] : List Int).map V.int)) := upd_same
    have ne1 : l1 ≠ g := pool_ne P2 n1
    have P3 := pool_same P2 s3
    have kb03 : KeepBut g H (upd H2 l1 (.lst [V.int (2 + r1), V.int (2 + r2)])) := (kb1.trans kb2).trans (s3.but g)
    generalize (upd H2 l1 (.lst [V.int (2 + r1), V.int (2 + r2)])) = H3 at s3 g3 P3 kb03 ⊢
    refine ⟨_, rfl, g, _, 2, rfl, P3, by omega, by decide, by decide, fun r3 H4 c0 c1 P4 kb4 => ?_⟩
    obtain ⟨mv, hmv, hat⟩ := pickN (xs := [2 + r1, 2 + r2]) c0 (by show r3 < ((2 : Nat) : Int); omega)
    have mb : 2 ≤ mv ∧ mv ≤ 40 := by
      simp only [List.mem_cons, List.not_mem_nil, or_false] at hmv
      omega
    refine ⟨l1, _, r3, _, rfl, rfl, SqL.of (kb4 _ _ g3 ne1), hat, g, _, mv, rfl, P4, by omega, by omega, by omega, fun pa p H5 npa tp lp h5p P5 kb5 => ?_⟩
    have kb05 := (kb03.trans kb4).trans kb5
    have npg : pa ≠ g := pool_ne P4 npa
    have n2 : 2 ≤ p.length := by omega
    have n40 : p.length ≤ 40 := by omega
    refine ⟨_, rfl, _, rfl, pa, _, rfl, .inl (SqL.of h5p), g, _, _, rfl, P5, by omega, (by rw [List.length_map]; omega), (by rw [List.length_map]; omega), fun at_ H6 d0 d1 P6 kb6 => ?_⟩
    rw [List.length_map] at d1
    have h6p := kb6 _ _ h5p npg
    refine ⟨_, rfl, _, _, rfl, rfl, _, rfl, _, rfl, pa, _, rfl, .inl (SqL.of h6p), _, _, rfl, rfl, g, _, _, rfl, P6, by omega, (by rw [List.length_map]; show (0 : Int) < (p.length : Int) - 1; omega), (by rw [List.length_map]; show (p.length : Int) - 1 ≤ _; omega), fun r4 H7 e0 e1 P7 kb7 => ?_⟩
    replace e1 : r4 < (p.length : Int) - 1 := by rw [List.length_map] at e1; exact e1
    have h7p := kb7 _ _ h6p npg
    have pos : (0 : Int) < ((p.length : Nat) : Int) := by omega
    refine ⟨_, _, rfl, rfl, _, rfl, pa, _, rfl, .inl (SqL.of h7p), at_ + 1 + r4, ((p.length : Nat) : Int), rfl, congrArg V.int (by rw [List.length_map]), pos, ?_⟩
    have o0 := Int.emod_nonneg (at_ + 1 + r4) (show ((p.length : Nat) : Int) ≠ 0 by omega)
    have o1 := Int.emod_lt_of_pos (at_ + 1 + r4) pos
    have o2 : (at_ + 1 + r4) % ((p.length : Nat) : Int) ≠ at_ := by
      intro z
      rcases Int.lt_or_le (at_ + 1 + r4) ((p.length : Nat) : Int) with y | y
      · rw [Int.emod_eq_of_lt (by omega) y] at z; omega
      · have : (at_ + 1 + r4 - ((p.length : Nat) : Int)) % ((p.length : Nat) : Int) = (at_ + 1 + r4) % ((p.length : Nat) : Int) := Int.sub_emod_right _ _
        rw [← this, Int.emod_eq_of_lt (by omega) (by omega)] at z
        omega
    obtain ⟨ot, eot⟩ : ∃ ot, ot = (at_ + 1 + r4) % ((p.length : Nat) : Int) := ⟨_, rfl⟩
    rw [← eot] at o0 o1 o2
    refine ⟨_, rfl, g, _, 6, rfl, P7, by omega, by decide, by decide, fun r5 H8 f0 f1 P8 kb8 => ⟨rfl, _, rfl, ?_⟩⟩
    have h8p := kb8 _ _ h7p npg
    have kb08 := ((kb05.trans kb6).trans kb7).trans kb8
    have pb : ∀ x ∈ p, 0 ≤ x ∧ x < 40 := fun x hx => by have := tp.lo x hx; have := tp.hi x hx; omega
    refine joinR (fun σ' H' => ∃ v4 : Option V, σ' = [some (.ref g), some (.ref pa), some (.int at_), some (.int ot), v4, none, none, none] ∧ PoolAt H' g (c + 110) ∧ KeepBut g H8 H') ?_ ⟨none, by rw [eot]; rfl, P8.mono (by omega), KeepBut.refl _ _⟩ fun rest => ?_
    rotate_left
    · refine ⟨_, rfl, pa, _, rfl, .inl (SqL.of h8p), fun ml nml => ?_⟩
      have s9 : Same H8 (upd H8 ml (.lst (p.map V.int))) := Same.upd_new nml
      have g9 : (upd H8 ml (.lst (p.map V.int))) ml = some (.lst (p.map V.int)) := upd_same
      have nmg : ml ≠ g := pool_ne P8 nml
      have P9 := pool_same P8 s9
      generalize (upd H8 ml (.lst (p.map V.int))) = H9 at s9 g9 P9 ⊢
      have hx1 := Mth.atI_map (p := p) d0 d1
      refine ⟨_, rfl, _, rfl, ml, _, at_, _, rfl, rfl, SqL.of g9, hx1, _, _, rfl, rfl, _, rfl, _, rfl, ml, _, at_, at_.toNat, rfl, rfl, g9, ixN_of d0 (by rw [List.length_map]; exact d1), ?_⟩
      obtain ⟨m1, em1⟩ : ∃ m1, m1 = p.set at_.toNat (p.getD at_.toNat 0 + 1) := ⟨_, rfl⟩
      have l1' : m1.length = p.length := by rw [em1, List.length_set]
      have b1' : ∀ x ∈ m1, -1 ≤ x ∧ x ≤ 41 := fun x hx => by
        rw [em1] at hx
        rcases List.mem_or_eq_of_mem_set hx with z | z
        · have := pb x z; omega
        · have := pb _ (List.getElem_mem (show at_.toNat < p.length by omega))
          rw [Mth.getD_at (show at_.toNat < p.length by omega)] at z
          omega
      have g10 : (upd H9 ml (.lst ((p.map V.int).set at_.toNat (V.int (p.getD at_.toNat 0 + 1))))) ml = some (.lst (m1.map V.int)) := by rw [upd_same, em1, List.map_set]
      have kb10 : KeepBut g H8 (upd H9 ml (.lst ((p.map V.int).set at_.toNat (V.int (p.getD at_.toNat 0 + 1))))) := (s9.but g).upd_r nml
      have P10 : PoolAt (upd H9 ml (.lst ((p.map V.int).set at_.toNat (V.int (p.getD at_.toNat 0 + 1))))) g _ := pool_upd P9 nmg
      generalize (upd H9 ml (.lst ((p.map V.int).set at_.toNat (V.int (p.getD at_.toNat 0 + 1))))) = H10 at g10 kb10 P10 ⊢
      have hx2 := Mth.atI_map (p := m1) o0 (by rw [l1']; exact o1)
      refine ⟨_, rfl, _, rfl, ml, _, ot, _, rfl, by rw [eot], SqL.of g10, hx2, _, _, rfl, rfl, _, rfl, _, rfl, ml, _, ot, ot.toNat, rfl, by rw [eot], g10, ixN_of o0 (by rw [List.length_map, l1']; exact o1), ?_⟩
      obtain ⟨m2, em2⟩ : ∃ m2, m2 = m1.set ot.toNat (m1.getD ot.toNat 0 - 1) := ⟨_, rfl⟩
      have l2' : m2.length = p.length := by rw [em2, List.length_set, l1']
      have b2' : ∀ x ∈ m2, -2 ≤ x ∧ x ≤ 41 := fun x hx => by
        rw [em2] at hx
        rcases List.mem_or_eq_of_mem_set hx with z | z
        · have := b1' x z; omega
        · have := b1' _ (List.getElem_mem (show ot.toNat < m1.length by omega))
          rw [Mth.getD_at (show ot.toNat < m1.length by omega)] at z
          omega
      have g11 : (upd H10 ml (.lst ((m1.map V.int).set ot.toNat (V.int (m1.getD ot.toNat 0 - 1))))) ml = some (.lst (m2.map V.int)) := by rw [upd_same, em2, List.map_set]
      have kb11 : KeepBut g H8 (upd H10 ml (.lst ((m1.map V.int).set ot.toNat (V.int (m1.getD ot.toNat 0 - 1))))) := kb10.upd_r nml
      have P11 : PoolAt (upd H10 ml (.lst ((m1.map V.int).set ot.toNat (V.int (m1.getD ot.toNat 0 - 1))))) g _ := pool_upd P10 nmg
      generalize (upd H10 ml (.lst ((m1.map V.int).set ot.toNat (V.int (m1.getD ot.toNat 0 - 1))))) = H11 at g11 kb11 P11 ⊢
      have h11p := kb11 _ _ h8p npg
      refine ⟨_, rfl, ml, m2, rfl, SqL.of g11, fun ms l3 pm up n3 => ?_⟩
      have s12 : Same H11 (upd H11 l3 (.lst (ms.map V.int))) := Same.upd_new n3
      have g12 : (upd H11 l3 (.lst (ms.map V.int))) l3 = some (.lst (ms.map V.int)) := upd_same
      generalize (upd H11 l3 (.lst (ms.map V.int))) = H12 at s12 g12 ⊢
      refine ⟨_, rfl, pa, _, rfl, .inl (SqL.of (s12 _ _ h11p)), ((p.length : Nat) : Int), by rw [List.length_map], fun rg hrg => ?_⟩
      have s13 : Same H12 (upd H12 rg (.rng 0 ((p.length : Nat) : Int))) := Same.upd_new hrg
      have g13 : (upd H12 rg (.rng 0 ((p.length : Nat) : Int))) rg = some (.rng 0 ((p.length : Nat) : Int)) := upd_same
      generalize (upd H12 rg (.rng 0 ((p.length : Nat) : Int))) = H13 at s13 g13 ⊢
      refine ⟨rg, 0, _, rfl, g13, ⟨by omega, by omega, by omega, by omega⟩, by omega, fun st hst => ?_⟩
      rw [show (((p.length : Nat) : Int) - 0).toNat = p.length by omega]
      have s14 : Same H13 (upd H13 st (.lst ((upTo 0 p.length).map V.int))) := Same.upd_new hst
      have g14 : (upd H13 st (.lst ((upTo 0 p.length).map V.int))) st = some (.lst ((upTo 0 p.length).map V.int)) := upd_same
      generalize (upd H13 st (.lst ((upTo 0 p.length).map V.int))) = H14 at s14 g14 ⊢
      have s114 := s12.trans (s13.trans s14)
      refine ⟨l3, st, _, _, _, rfl, rfl, SqL.of (s14 _ _ (s13 _ _ g12)), SqL.of g14, leq_ints K H14 0 ms (upTo 0 p.length), _, rfl, ?_⟩
      have kb14 : KeepBut g H8 H14 := kb11.trans (s114.but g)
      have P14 := pool_same P11 s114
      by_cases ce : ms = upTo 0 p.length
      · rw [decide_eq_true ce]
        exact iteF (rest _ _ ⟨some (.ref ml), by rw [eot]; rfl, P14.mono (by omega), kb14⟩)
      · rw [decide_eq_false ce]
        refine iteT ⟨_, rfl, q (.ref ml) H14 (P14.mono (by omega)) (kb08.trans kb14) (bad_ints (hole_of (s114 _ _ g11) nmg nmg) (fun _ ti => ce ?_) (by omega) fun x hx => ?_)⟩
        · rw [← l2']; exact sorted_up pm up ti
        · have := b2' x hx
          exact ⟨by omega, by omega⟩
    rintro σ' H9 ⟨v4, rfl, P9, kb9⟩
    have h9p := kb9 _ _ h8p npg
    have kb09 := kb08.trans kb9
    clear P0 P1 P2 P3 P4 P5 P6 P7 P8 kb1 kb2 kb4 kb5 kb6 kb7 kb8 kb03 kb05 h5p h6p h7p s3 g3
    refine ⟨_, rfl, g, _, 4, rfl, P9, by omega, by decide, by decide, fun r6 H10 f2 f3 P10 kb10 => ⟨rfl, _, rfl, ?_⟩⟩
    have h10p := kb10 _ _ h9p npg
    have kb010 := kb09.trans kb10
    refine joinR (fun σ' H' => ∃ v4 v5 : Option V, σ' = [some (.ref g), some (.ref pa), some (.int at_), some (.int ot), v4, v5, none, none] ∧ PoolAt H' g (c + 160) ∧ KeepBut g H10 H') ?_ ⟨v4, none, rfl, P10.mono (by omega), KeepBut.refl _ _⟩ fun rest => ?_
    rotate_left
    · refine ⟨_, rfl, pa, rfl, ⟨_, SqL.of h10p⟩, comp_list (K := K) (a := pa) (xs := p.map V.int) (fun i ys σ H11 => ∃ (v : Option V) (os : List Int), σ = [v, some (.ref g), some (.ref pa)] ∧ ys = os.map V.int ∧ os.length = i ∧ (∀ x ∈ os, 0 ≤ x ∧ x ≤ 40) ∧ PoolAt H11 g (c + 111 + i) ∧ KeepBut g H10 H11)
        ⟨none, [], rfl, rfl, rfl, (fun x hx => by cases hx), P10, KeepBut.refl g H10⟩ (fun i ys σ H11 _ ⟨_, _, _, _, _, _, _, k⟩ => SqL.of (k _ _ h10p npg)) ?_ ?_⟩
      · rintro i x ys σ H11 hi ⟨v, os, rfl, rfl, lo, bo, P11, kb11⟩
        have il : i < p.length := by have := (List.getElem?_eq_some_iff.mp hi).1; rw [List.length_map] at this; exact this
        have h11p := kb11 _ _ h10p npg
        refine ⟨_, rfl, _, rfl, pa, _, rfl, .inl (SqL.of h11p), g, _, _, rfl, P11, by omega, (by rw [List.length_map]; omega), (by rw [List.length_map]; omega), fun r7 H12 i0 i1 P12 kb12 => ⟨small1000 (by rw [List.length_map]; omega), _, os ++ [r7], rfl, by rw [List.map_append]; rfl, by rw [List.length_append, lo]; rfl, fun y hy => ?_, P12, kb11.trans kb12⟩⟩
        rw [List.length_map] at i1
        rcases List.mem_append.mp hy with z | z
        · exact bo y z
        · rw [List.mem_singleton.mp z]; omega
      · rintro ys σ H11 ⟨v, os, rfl, rfl, lo, bo, P11, kb11⟩ fr nfr
        rw [List.length_map] at lo P11
        have s12 : Same H11 (upd H11 fr (.lst (os.map V.int))) := Same.upd_new nfr
        have g12 : (upd H11 fr (.lst (os.map V.int))) fr = some (.lst (os.map V.int)) := upd_same
        have nfg : fr ≠ g := pool_ne P11 nfr
        generalize (upd H11 fr (.lst (os.map V.int))) = H12 at s12 g12 ⊢
        have h12p := s12 _ _ (kb11 _ _ h10p npg)
        refine ⟨_, rfl, fr, os, rfl, SqL.of g12, fun ms l3 pm up n3 => ?_⟩
        have s13 : Same H12 (upd H12 l3 (.lst (ms.map V.int))) := Same.upd_new n3
        have g13 : (upd H12 l3 (.lst (ms.map V.int))) l3 = some (.lst (ms.map V.int)) := upd_same
        generalize (upd H12 l3 (.lst (ms.map V.int))) = H13 at s13 g13 ⊢
        refine ⟨_, rfl, pa, _, rfl, .inl (SqL.of (s13 _ _ h12p)), ((p.length : Nat) : Int), by rw [List.length_map], fun rg hrg => ?_⟩
        have s14 : Same H13 (upd H13 rg (.rng 0 ((p.length : Nat) : Int))) := Same.upd_new hrg
        have g14 : (upd H13 rg (.rng 0 ((p.length : Nat) : Int))) rg = some (.rng 0 ((p.length : Nat) : Int)) := upd_same
        generalize (upd H13 rg (.rng 0 ((p.length : Nat) : Int))) = H14 at s14 g14 ⊢
        refine ⟨rg, 0, _, rfl, g14, ⟨by omega, by omega, by omega, by omega⟩, by omega, fun st hst => ?_⟩
        rw [show (((p.length : Nat) : Int) - 0).toNat = p.length by omega]
        have s15 : Same H14 (upd H14 st (.lst ((upTo 0 p.length).map V.int))) := Same.upd_new hst
        have g15 : (upd H14 st (.lst ((upTo 0 p.length).map V.int))) st = some (.lst ((upTo 0 p.length).map V.int)) := upd_same
        generalize (upd H14 st (.lst ((upTo 0 p.length).map V.int))) = H15 at s15 g15 ⊢
        have s125 := s13.trans (s14.trans s15)
        refine ⟨l3, st, _, _, _, rfl, rfl, SqL.of (s15 _ _ (s14 _ _ g13)), SqL.of g15, leq_ints K H15 0 ms (upTo 0 p.length), _, rfl, ?_⟩
        have kb15 : KeepBut g H10 H15 := kb11.trans ((s12.trans s125).but g)
        have P15 := pool_same P11 (s12.trans s125)
        by_cases ce : ms = upTo 0 p.length
        · rw [decide_eq_true ce]
          exact iteF (rest _ _ ⟨v4, some (.ref fr), rfl, P15.mono (by omega), kb15⟩)
        · rw [decide_eq_false ce]
          refine iteT ⟨_, rfl, q (.ref fr) H15 (P15.mono (by omega)) (kb010.trans kb15) (bad_ints (hole_of (s125 _ _ g12) nfg nfg) (fun _ ti => ce ?_) (by omega) fun x hx => ?_)⟩
          · rw [← lo]; exact sorted_up pm up ti
          · have := bo x hx
            exact ⟨by omega, by omega⟩
    rintro σ' H11 ⟨v4, v5, rfl, P11, kb11⟩
    have h11p := kb11 _ _ h10p npg
    have kb011 := kb010.trans kb11
    clear P9 P10 kb9 kb10 h8p h9p h10p kb08 kb09 kb010
    have hot := Mth.atI_map (p := p) o0 o1
    refine ⟨_, rfl, _, rfl, pa, _, ot, _, rfl, rfl, SqL.of h11p, hot, _, rfl, pa, _, rfl, .inl (SqL.of h11p), _, rfl, pa, _, rfl, .inl (SqL.of h11p), _, rfl, _, _, rfl, rfl, ⟨by decide, by decide, by decide⟩, g, _, _, rfl, P11, by omega, (by show (0 : Int) < 10 ^ 20; decide), (by show (10 : Int) ^ 20 ≤ _; decide), fun r8 H12 i0 i1 P12 kb12 => ?_⟩
    refine ⟨_, _, rfl, rfl, fun xs0 H13 s13 sa => ?_⟩
    have h12p := kb12 _ _ h11p npg
    obtain ⟨z, rfl, nz, gz⟩ : ∃ z, xs0 = [V.int (-1), V.non, V.str "0", V.ref z] ∧ H12 z = none ∧ H13 z = some (.lst [V.int 0]) := by
      cases sa with
      | cons h1 sa =>
        cases h1
        cases sa with
        | cons h2 sa =>
          cases h2
          cases sa with
          | cons h3 sa =>
            cases h3
            cases sa with
            | cons h4 sa =>
              cases sa
              cases h4 with
              | lst e h =>
                cases h with
                | cons h5 h =>
                  cases h5
                  cases h
                  exact ⟨_, rfl, (mask_some e).1, (mask_some e).2⟩
    have P13 := pool_same P12 s13
    have nzg : z ≠ g := pool_ne P12 nz
    refine ⟨_, rfl, _, rfl, g, _, 99, rfl, P13, by omega, by decide, by decide, fun r9 H14 j0 j1 P14 kb14 => ⟨_, _, rfl, rfl, (show 8 ≤ sizeLine by decide), fun ol nol => ?_⟩⟩
    obtain ⟨pot, epot⟩ : ∃ x, x = p.getD ot.toNat 0 := ⟨_, rfl⟩
    have mpot : pot ∈ p := by rw [epot, Mth.getD_at (show ot.toNat < p.length by omega)]; exact List.getElem_mem _
    obtain ⟨os, eos⟩ : ∃ os : List V, os = [V.int pot, V.int ((p.length : Nat) : Int), V.int (((p.length : Nat) : Int) + r8), V.int (-1), V.non, V.str "0", V.ref z, V.int (-1 - r9)] := ⟨_, rfl⟩
    have ex15 : (V.int (p.getD ot.toNat 0) :: V.int (((p.map V.int).length : Nat) : Int) :: V.int ((((p.map V.int).length : Nat) : Int) + r8) :: ([V.int (-1), V.non, V.str "0", V.ref z] ++ [V.int (-1 - r9)])) = os := by rw [eos, ← epot, List.length_map]; rfl
    have g15 : (upd H14 ol (.lst (V.int (p.getD ot.toNat 0) :: V.int (((p.map V.int).length : Nat) : Int) :: V.int ((((p.map V.int).length : Nat) : Int) + r8) :: ([V.int (-1), V.non, V.str "0", V.ref z] ++ [V.int (-1 - r9)])))) ol = some (.lst os) := by rw [upd_same, ex15]
    have s15 : Same H14 (upd H14 ol (.lst (V.int (p.getD ot.toNat 0) :: V.int (((p.map V.int).length : Nat) : Int) :: V.int ((((p.map V.int).length : Nat) : Int) + r8) :: ([V.int (-1), V.non, V.str "0", V.ref z] ++ [V.int (-1 - r9)])))) := Same.upd_new nol
    have P15 := pool_same P14 s15
    have nolg : ol ≠ g := pool_ne P14 nol
    have kb015 : KeepBut g H (upd H14 ol (.lst (V.int (p.getD ot.toNat 0) :: V.int (((p.map V.int).length : Nat) : Int) :: V.int ((((p.map V.int).length : Nat) : Int) + r8) :: ([V.int (-1), V.non, V.str "0", V.ref z] ++ [V.int (-1 - r9)])))) := (((kb011.trans kb12).trans (s13.but g)).trans kb14).trans (s15.but g)
    have h15p := s15 _ _ (kb14 _ _ (s13 _ _ h12p) npg)
    have h15z := s15 _ _ (kb14 _ _ gz nzg)
    generalize (upd H14 ol (.lst (V.int (p.getD ot.toNat 0) :: V.int (((p.map V.int).length : Nat) : Int) :: V.int ((((p.map V.int).length : Nat) : Int) + r8) :: ([V.int (-1), V.non, V.str "0", V.ref z] ++ [V.int (-1 - r9)])))) = H15 at g15 s15 P15 kb015 h15p h15z ⊢
    clear P11 P12 P13 P14 kb11 kb12 kb14 s13 s15 kb011 h11p h12p
    have hatp := Mth.atI_map (p := p) d0 d1
    refine ⟨_, rfl, _, rfl, pa, _, at_, _, rfl, rfl, SqL.of h15p, hatp, _, _, rfl, rfl, _, rfl, ?_⟩
    have ml : ((p.map V.int).take at_.toNat).length = at_.toNat := by rw [List.length_take, List.length_map]; omega
    have mr : ((p.map V.int).drop (at_ + 1).toNat).length = p.length - at_.toNat - 1 := by rw [List.length_drop, List.length_map]; omega
    have elx : ∀ {y x : V}, x ∈ (p.map V.int).take at_.toNat ++ [y] ++ (p.map V.int).drop (at_ + 1).toNat → (∃ i : Int, x = .int i ∧ 0 ≤ i ∧ i ≤ 100) ∨ x = y := fun {y x} hx => by
      have inp : ∀ u, u ∈ p.map V.int → ∃ i : Int, u = .int i ∧ 0 ≤ i ∧ i ≤ 100 := fun u hu => by
        obtain ⟨i, hi, rfl⟩ := List.mem_map.mp hu
        have := pb i hi
        exact ⟨i, rfl, by omega, by omega⟩
      rcases List.mem_append.mp hx with z | z
      · rcases List.mem_append.mp z with z | z
        · exact .inl (inp x (List.mem_of_mem_take z))
        · exact .inr (List.mem_singleton.mp z)
      · exact .inl (inp x (List.mem_of_mem_drop z))
    refine joinF (fun σ' H' => σ' = [some (.ref g), some (.ref pa), some (.int at_), some (.int ot), v4, v5, some (.ref ol), none] ∧ PoolAt H' g (c + 163) ∧ KeepBut g H15 H') ?_ ⟨rfl, P15.mono (by omega), KeepBut.refl _ _⟩ fun rest => ?_
    rotate_left
    · refine ⟨_, rfl, g, _, 3, rfl, P15, by omega, by decide, by decide, fun r10 H16 k0 k1 P16 kb16 => ⟨rfl, _, rfl, ?_⟩⟩
      refine ite2 (fun _ => ?_) fun _ => rest _ _ ⟨rfl, P16.mono (by omega), kb16⟩
      have h16p := kb16 _ _ h15p npg
      refine ⟨_, rfl, _, rfl, _, rfl, pa, _, rfl, SqL.of h16p, fun w1 n1 => ?_⟩
      rw [cut_to d0 (by rw [List.length_map]; omega)]
      have s17 : Same H16 (upd H16 w1 (.lst ((p.map V.int).take at_.toNat))) := Same.upd_new n1
      have g17 : (upd H16 w1 (.lst ((p.map V.int).take at_.toNat))) w1 = some (.lst ((p.map V.int).take at_.toNat)) := upd_same
      generalize (upd H16 w1 (.lst ((p.map V.int).take at_.toNat))) = H17 at s17 g17 ⊢
      have h17p := s17 _ _ h16p
      refine ⟨_, rfl, _, rfl, pa, _, at_, _, rfl, rfl, SqL.of h17p, hatp, rfl, (show 1 ≤ sizeLine by decide), fun w2 n2 => ?_⟩
      obtain ⟨bb, ebb⟩ : ∃ bb, bb = decide (V.int (p.getD at_.toNat 0) = V.int 1) := ⟨_, rfl⟩
      rw [← ebb]
      have s18 : Same H17 (upd H17 w2 (.lst [V.bl bb])) := Same.upd_new n2
      have g18 : (upd H17 w2 (.lst [V.bl bb])) w2 = some (.lst [V.bl bb]) := upd_same
      generalize (upd H17 w2 (.lst [V.bl bb])) = H18 at s18 g18 ⊢
      refine ⟨w1, w2, _, _, rfl, rfl, s18 _ _ g17, g18, Nat.le_of_lt (small1000 (by rw [ml]; show at_.toNat + 1 ≤ 1000; omega)), fun w3 n3 => ?_⟩
      have s19 : Same H18 (upd H18 w3 (.lst ((p.map V.int).take at_.toNat ++ [V.bl bb]))) := Same.upd_new n3
      have g19 : (upd H18 w3 (.lst ((p.map V.int).take at_.toNat ++ [V.bl bb]))) w3 = some (.lst ((p.map V.int).take at_.toNat ++ [V.bl bb])) := upd_same
      generalize (upd H18 w3 (.lst ((p.map V.int).take at_.toNat ++ [V.bl bb]))) = H19 at s19 g19 ⊢
      have s169 := s17.trans (s18.trans s19)
      refine ⟨_, rfl, _, rfl, _, _, rfl, rfl, _, rfl, pa, _, rfl, SqL.of (s169 _ _ h16p), fun w4 n4 => ?_⟩
      rw [show cutV (p.map V.int) (some (at_ + 1)) none = (p.map V.int).drop (at_ + 1).toNat from cut_from (by omega) (by rw [List.length_map]; omega)]
      have s20 : Same H19 (upd H19 w4 (.lst ((p.map V.int).drop (at_ + 1).toNat))) := Same.upd_new n4
      have g20 : (upd H19 w4 (.lst ((p.map V.int).drop (at_ + 1).toNat))) w4 = some (.lst ((p.map V.int).drop (at_ + 1).toNat)) := upd_same
      generalize (upd H19 w4 (.lst ((p.map V.int).drop (at_ + 1).toNat))) = H20 at s20 g20 ⊢
      refine ⟨w3, w4, _, _, rfl, rfl, s20 _ _ g19, g20, Nat.le_of_lt (small1000 (by rw [List.length_append, ml, mr]; show at_.toNat + 1 + _ ≤ 1000; omega)), fun w5 n5 => ?_⟩
      have s21 : Same H20 (upd H20 w5 (.lst ((p.map V.int).take at_.toNat ++ [V.bl bb] ++ (p.map V.int).drop (at_ + 1).toNat))) := Same.upd_new n5
      have g21 : (upd H20 w5 (.lst ((p.map V.int).take at_.toNat ++ [V.bl bb] ++ (p.map V.int).drop (at_ + 1).toNat))) w5 = some (.lst ((p.map V.int).take at_.toNat ++ [V.bl bb] ++ (p.map V.int).drop (at_ + 1).toNat)) := upd_same
      generalize (upd H20 w5 (.lst ((p.map V.int).take at_.toNat ++ [V.bl bb] ++ (p.map V.int).drop (at_ + 1).toNat))) = H21 at s21 g21 ⊢
      have s1621 := s169.trans (s20.trans s21)
      have nw5 : w5 ≠ g := pool_ne (pool_same P16 (s169.trans s20)) n5
      refine q (.ref w5) H21 ((pool_same P16 s1621).mono (by omega)) (kb015.trans (kb16.trans (s1621.but g))) (bad_odd (y := .bl bb) (n := p.length) (hole_of g21 nw5 nw5) (fun x hx => elx hx) (by simp) (by rw [List.length_append, List.length_append, ml, mr]; simp only [List.length_singleton]; omega) (by omega) ⟨.inr (odd_bl bb), (fun i e => by cases e), .bl bb, ie_bl bb⟩)
    rintro σ' H16 ⟨rfl, P16, kb16⟩
    have h16p := kb16 _ _ h15p npg
    have h16o := kb16 _ _ g15 nolg
    have h16z := kb16 _ _ h15z nzg
    have kb016 := kb015.trans kb16
    clear P15 h15p h15z g15 kb015 kb16
    refine ⟨_, rfl, _, rfl, _, rfl, pa, _, rfl, SqL.of h16p, fun w1 n1 => ?_⟩
    rw [cut_to d0 (by rw [List.length_map]; omega)]
    have s17 : Same H16 (upd H16 w1 (.lst ((p.map V.int).take at_.toNat))) := Same.upd_new n1
    have g17 : (upd H16 w1 (.lst ((p.map V.int).take at_.toNat))) w1 = some (.lst ((p.map V.int).take at_.toNat)) := upd_same
    have nw1 : w1 ≠ g := pool_ne P16 n1
    have P17 := pool_same P16 s17
    generalize (upd H16 w1 (.lst ((p.map V.int).take at_.toNat))) = H17 at s17 g17 P17 ⊢
    refine ⟨_, rfl, _, rfl, g, _, 8, rfl, P17, by omega, by decide, by decide, fun r11 H18 l0 l1 P18 kb18 => ?_⟩
    have h18p := kb18 _ _ (s17 _ _ h16p) npg
    have h18o := kb18 _ _ (s17 _ _ h16o) nolg
    have h18z := kb18 _ _ (s17 _ _ h16z) nzg
    have h18w := kb18 _ _ g17 nw1
    have kb018 : KeepBut g H H18 := (kb016.trans (s17.but g)).trans kb18
    obtain ⟨y, hy, oy⟩ : ∃ y, atI os r11 = some y ∧ (y = V.int pot ∨ ∀ M : Hp, M z = some (.lst [V.int 0]) → OddI K M p.length y) := by
      have ii : ∀ {M : Hp} {i : Int}, (i < 0 ∨ ((p.length : Nat) : Int) ≤ i) → Mod40 i → OddI K M p.length (.int i) := fun {M i} h1 h2 => ⟨.inl ⟨i, rfl⟩, (fun j e => by cases e; exact h1), .int i, ie_int h2⟩
      have p20 : r8 < 100000000000000000000 := i1
      have : r11 = 0 ∨ r11 = 1 ∨ r11 = 2 ∨ r11 = 3 ∨ r11 = 4 ∨ r11 = 5 ∨ r11 = 6 ∨ r11 = 7 := by omega
      rw [eos]
      rcases this with rfl | rfl | rfl | rfl | rfl | rfl | rfl | rfl
      · exact ⟨_, atI_nat (j := 0) rfl, .inl rfl⟩
      · exact ⟨_, atI_nat (j := 1) rfl, .inr fun M _ => ii (.inr (by omega)) ⟨by omega, by omega⟩⟩
      · exact ⟨_, atI_nat (j := 2) rfl, .inr fun M _ => ii (.inr (by omega)) ⟨by omega, by omega⟩⟩
      · exact ⟨_, atI_nat (j := 3) rfl, .inr fun M _ => ii (.inl (by omega)) ⟨by omega, by omega⟩⟩
      · exact ⟨_, atI_nat (j := 4) rfl, .inr fun M _ => ⟨.inr odd_non, (fun j e => by cases e), .non, ie_non⟩⟩
      · exact ⟨_, atI_nat (j := 5) rfl, .inr fun M _ => ⟨.inr (odd_str _), (fun j e => by cases e), .str _, ie_str (by decide +kernel)⟩⟩
      · refine ⟨_, atI_nat (j := 6) rfl, .inr fun M hM => ⟨.inr (odd_lst hM), (fun j e => by cases e), Cpb.ints (ns := [0]) hM (by decide), ?_⟩⟩
        exact ⟨.list [.int 0], .lst hM (.cons (.int 0) .nil), by decide +kernel, by decide +kernel, by decide +kernel⟩
      · exact ⟨_, atI_nat (j := 7) rfl, .inr fun M _ => ii (.inl (by omega)) ⟨by omega, by omega⟩⟩
    refine ⟨ol, _, r11, _, rfl, rfl, SqL.of h18o, hy, (show 1 ≤ sizeLine by decide), fun w2 n2 => ?_⟩
    have s19 : Same H18 (upd H18 w2 (.lst [y])) := Same.upd_new n2
    have g19 : (upd H18 w2 (.lst [y])) w2 = some (.lst [y]) := upd_same
    generalize (upd H18 w2 (.lst [y])) = H19 at s19 g19 ⊢
    refine ⟨w1, w2, _, _, rfl, rfl, s19 _ _ h18w, g19, Nat.le_of_lt (small1000 (by rw [ml]; show at_.toNat + 1 ≤ 1000; omega)), fun w3 n3 => ?_⟩
    have s20 : Same H19 (upd H19 w3 (.lst ((p.map V.int).take at_.toNat ++ [y]))) := Same.upd_new n3
    have g20 : (upd H19 w3 (.lst ((p.map V.int).take at_.toNat ++ [y]))) w3 = some (.lst ((p.map V.int).take at_.toNat ++ [y])) := upd_same
    generalize (upd H19 w3 (.lst ((p.map V.int).take at_.toNat ++ [y]))) = H20 at s20 g20 ⊢
    have s1820 := s19.trans s20
    refine ⟨_, rfl, _, rfl, _, _, rfl, rfl, _, rfl, pa, _, rfl, SqL.of (s1820 _ _ h18p), fun w4 n4 => ?_⟩
    rw [show cutV (p.map V.int) (some (at_ + 1)) none = (p.map V.int).drop (at_ + 1).toNat from cut_from (by omega) (by rw [List.length_map]; omega)]
    have s21 : Same H20 (upd H20 w4 (.lst ((p.map V.int).drop (at_ + 1).toNat))) := Same.upd_new n4
    have g21 : (upd H20 w4 (.lst ((p.map V.int).drop (at_ + 1).toNat))) w4 = some (.lst ((p.map V.int).drop (at_ + 1).toNat)) := upd_same
    generalize (upd H20 w4 (.lst ((p.map V.int).drop (at_ + 1).toNat))) = H21 at s21 g21 ⊢
    refine ⟨w3, w4, _, _, rfl, rfl, s21 _ _ g20, g21, Nat.le_of_lt (small1000 (by rw [List.length_append, ml, mr]; show at_.toNat + 1 + _ ≤ 1000; omega)), fun w5 n5 => ?_⟩
    have s22 : Same H21 (upd H21 w5 (.lst ((p.map V.int).take at_.toNat ++ [y] ++ (p.map V.int).drop (at_ + 1).toNat))) := Same.upd_new n5
    have g22 : (upd H21 w5 (.lst ((p.map V.int).take at_.toNat ++ [y] ++ (p.map V.int).drop (at_ + 1).toNat))) w5 = some (.lst ((p.map V.int).take at_.toNat ++ [y] ++ (p.map V.int).drop (at_ + 1).toNat)) := upd_same
    have s1821 := s1820.trans s21
    have nw5 : w5 ≠ g := pool_ne (pool_same P18 s1821) n5
    generalize (upd H21 w5 (.lst ((p.map V.int).take at_.toNat ++ [y] ++ (p.map V.int).drop (at_ + 1).toNat))) = H22 at s22 g22 ⊢
    have s1822 := s1821.trans s22
    have P22 := pool_same P18 s1822
    have h22p := s1822 _ _ h18p
    have k1 : (at_ + 1).toNat = at_.toNat + 1 := by omega
    have B5 : BadV K (hole H22 g g) (.ref w5) := by
      rcases oy with rfl | oy
      · have e : (p.map V.int).take at_.toNat ++ [V.int pot] ++ (p.map V.int).drop (at_ + 1).toNat = (p.set at_.toNat pot).map V.int := by
          rw [set_split (show at_.toNat < p.length by omega), List.map_append, List.map_append, List.map_take, List.map_drop, k1]
          rfl
        rw [e] at g22
        refine bad_ints (hole_of g22 nw5 nw5) (fun _ => ?_) (by rw [List.length_set]; omega) fun x hx => ?_
        · rw [epot]
          exact dup_no (by omega) (by omega) (by omega)
        · rcases List.mem_or_eq_of_mem_set hx with z | z
          · have := pb x z
            exact ⟨by omega, by omega⟩
          · have := pb pot mpot
            exact ⟨by omega, by omega⟩
      · exact bad_odd (y := y) (n := p.length) (hole_of g22 nw5 nw5) (fun x hx => elx hx) (by simp) (by rw [List.length_append, List.length_append, ml, mr]; simp only [List.length_singleton]; omega) (by omega) (oy _ (hole_of (s1822 _ _ h18z) nzg nzg))
    refine ⟨_, rfl, _, rfl, _, rfl, pa, _, rfl, SqL.of h22p, fun w6 n_w6 => ?_⟩
    rw [cut_to d0 (by rw [List.length_map]; omega)]
    have s23 : Same H22 (upd H22 w6 (.lst ((p.map V.int).take at_.toNat))) := Same.upd_new n_w6
    have g23 : (upd H22 w6 (.lst ((p.map V.int).take at_.toNat))) w6 = some (.lst ((p.map V.int).take at_.toNat)) := upd_same
    generalize (upd H22 w6 (.lst ((p.map V.int).take at_.toNat))) = H23 at s23 g23 ⊢
    refine ⟨_, rfl, _, rfl, _, _, rfl, rfl, _, rfl, pa, _, rfl, SqL.of (s23 _ _ h22p), fun w7 n_w7 => ?_⟩
    rw [show cutV (p.map V.int) (some (at_ + 1)) none = (p.map V.int).drop (at_ + 1).toNat from cut_from (by omega) (by rw [List.length_map]; omega)]
    have s24 : Same H23 (upd H23 w7 (.lst ((p.map V.int).drop (at_ + 1).toNat))) := Same.upd_new n_w7
    have g24 : (upd H23 w7 (.lst ((p.map V.int).drop (at_ + 1).toNat))) w7 = some (.lst ((p.map V.int).drop (at_ + 1).toNat)) := upd_same
    generalize (upd H23 w7 (.lst ((p.map V.int).drop (at_ + 1).toNat))) = H24 at s24 g24 ⊢
    refine ⟨w6, w7, _, _, rfl, rfl, s24 _ _ g23, g24, Nat.le_of_lt (small1000 (by rw [ml, mr]; omega)), fun w8 n_w8 => ?_⟩
    obtain ⟨e2, ee2⟩ : ∃ e2, e2 = p.take at_.toNat ++ p.drop (at_.toNat + 1) := ⟨_, rfl⟩
    have le2 : e2.length = p.length - 1 := by rw [ee2, List.length_append, List.length_take, List.length_drop]; omega
    rw [show (p.map V.int).take at_.toNat ++ (p.map V.int).drop (at_ + 1).toNat = e2.map V.int by rw [ee2, List.map_append, List.map_take, List.map_drop, k1]]
    have nw8 : w8 ≠ g := pool_ne (pool_same P22 (s23.trans s24)) n_w8
    have s25 : Same H24 (upd H24 w8 (.lst (e2.map V.int))) := Same.upd_new n_w8
    have g25 : (upd H24 w8 (.lst (e2.map V.int))) w8 = some (.lst (e2.map V.int)) := upd_same
    generalize (upd H24 w8 (.lst (e2.map V.int))) = H25 at s25 g25 ⊢
    have s2225 := s23.trans (s24.trans s25)
    have P25 := pool_same P22 s2225
    have h25p := s2225 _ _ h22p
    have B5' := B5.keep (hole_kb (l := g) (s2225.but g))
    have b2e : ∀ x ∈ e2, 0 ≤ x ∧ x < 40 := fun x hx => by
      rw [ee2] at hx
      rcases List.mem_append.mp hx with z | z
      · exact pb x (List.mem_of_mem_take z)
      · exact pb x (List.mem_of_mem_drop z)
    have B8 : p.getD at_.toNat 0 ≠ ((p.length : Nat) : Int) - 1 → BadV K (hole H25 g g) (.ref w8) := fun ne => bad_ints (hole_of g25 nw8 nw8) (fun _ => by rw [ee2]; exact cut_no tp (by omega) ne) (by omega) fun x hx => by
      have := b2e x hx
      exact ⟨by omega, by omega⟩
    refine ⟨(show 2 ≤ sizeLine by decide), fun f1 n_f1 => ?_⟩
    have s26 : Same H25 (upd H25 f1 (.lst [V.ref w5, V.ref w8])) := Same.upd_new n_f1
    have g26 : (upd H25 f1 (.lst [V.ref w5, V.ref w8])) f1 = some (.lst [V.ref w5, V.ref w8]) := upd_same
    generalize (upd H25 f1 (.lst [V.ref w5, V.ref w8])) = H26 at s26 g26 ⊢
    have P26 := pool_same P25 s26
    have h26p := s26 _ _ h25p
    refine ⟨_, rfl, _, rfl, pa, _, rfl, .inl ⟨SqL.of h26p, fun tt n_tt => ?_⟩⟩
    have ntt : tt ≠ g := pool_ne P26 n_tt
    have s27 : Same H26 (upd H26 tt (.tup (p.map V.int))) := Same.upd_new n_tt
    have g27 : (upd H26 tt (.tup (p.map V.int))) tt = some (.tup (p.map V.int)) := upd_same
    generalize (upd H26 tt (.tup (p.map V.int))) = H27 at s27 g27 ⊢
    intro xs1 H28 s28 sa1
    have ex1 : xs1 = [V.non, V.str "0 1", V.int 5] := by
      cases sa1 with
      | cons h1 sa =>
        cases h1
        cases sa with
        | cons h2 sa =>
          cases h2
          cases sa with
          | cons h3 sa =>
            cases h3
            cases sa
            rfl
    subst ex1
    intro dd n_dd
    have ndd : dd ≠ g := pool_ne (pool_same P26 (s27.trans s28)) n_dd
    have s29 : Same H28 (upd H28 dd (.dK [])) := Same.upd_new n_dd
    have g29 : (upd H28 dd (.dK [])) dd = some (.dK []) := upd_same
    generalize (upd H28 dd (.dK [])) = H29 at s29 g29 ⊢
    intro xs2 H30 s30 sa2
    have ex2 : xs2 = [V.bl true] := by
      cases sa2 with
      | cons h1 sa =>
        cases h1
        cases sa
        rfl
    subst ex2
    refine ⟨(show 6 ≤ sizeLine by decide), fun f2 n_f2 => ?_⟩
    have s31 : Same H30 (upd H30 f2 (.lst (V.ref tt :: ([V.non, V.str "0 1", V.int 5] ++ (V.ref dd :: [V.bl true]))))) := Same.upd_new n_f2
    have g31 : (upd H30 f2 (.lst (V.ref tt :: ([V.non, V.str "0 1", V.int 5] ++ (V.ref dd :: [V.bl true]))))) f2 = some (.lst [V.ref tt, V.non, V.str "0 1", V.int 5, V.ref dd, V.bl true]) := upd_same
    generalize (upd H30 f2 (.lst (V.ref tt :: ([V.non, V.str "0 1", V.int 5] ++ (V.ref dd :: [V.bl true]))))) = H31 at s31 g31 ⊢
    have s2631 := s27.trans (s28.trans (s29.trans (s30.trans s31)))
    refine ⟨f1, f2, _, _, rfl, rfl, s2631 _ _ g26, g31, (show 8 ≤ sizeLine by decide), fun f3 n_f3 => ?_⟩
    have s32 : Same H31 (upd H31 f3 (.lst ([V.ref w5, V.ref w8] ++ [V.ref tt, V.non, V.str "0 1", V.int 5, V.ref dd, V.bl true]))) := Same.upd_new n_f3
    have g32 : (upd H31 f3 (.lst ([V.ref w5, V.ref w8] ++ [V.ref tt, V.non, V.str "0 1", V.int 5, V.ref dd, V.bl true]))) f3 = some (.lst [V.ref w5, V.ref w8, V.ref tt, V.non, V.str "0 1", V.int 5, V.ref dd, V.bl true]) := upd_same
    generalize (upd H31 f3 (.lst ([V.ref w5, V.ref w8] ++ [V.ref tt, V.non, V.str "0 1", V.int 5, V.ref dd, V.bl true]))) = H32 at s32 g32 ⊢
    have s2532 := s26.trans (s2631.trans s32)
    have P32 := pool_same P25 s2532
    have nf3 : f3 ≠ g := pool_ne (pool_same P26 s2631) n_f3
    refine ⟨_, rfl, _, rfl, g, _, 200, rfl, P32, by omega, by decide, by decide, fun r12 H33 m0 m1 P33 kb33 => ⟨_, _, rfl, rfl, 41 + r12, rfl, fun rg n_rg => ?_⟩⟩
    have s34 : Same H33 (upd H33 rg (.rng 0 (41 + r12))) := Same.upd_new n_rg
    have g34 : (upd H33 rg (.rng 0 (41 + r12))) rg = some (.rng 0 (41 + r12)) := upd_same
    generalize (upd H33 rg (.rng 0 (41 + r12))) = H34 at s34 g34 ⊢
    refine ⟨rg, 0, _, rfl, g34, ⟨by omega, by omega, by omega, by omega⟩, by omega, fun rl n_rl => ?_⟩
    obtain ⟨un, eun⟩ : ∃ un : Nat, (un : Int) = 41 + r12 := ⟨(41 + r12).toNat, by omega⟩
    rw [show ((41 + r12) - 0).toNat = un by omega]
    have nrl : rl ≠ g := pool_ne (pool_same P33 s34) n_rl
    have s35 : Same H34 (upd H34 rl (.lst ((upTo 0 un).map V.int))) := Same.upd_new n_rl
    have g35 : (upd H34 rl (.lst ((upTo 0 un).map V.int))) rl = some (.lst ((upTo 0 un).map V.int)) := upd_same
    generalize (upd H34 rl (.lst ((upTo 0 un).map V.int))) = H35 at s35 g35 ⊢
    refine ⟨(show 2 ≤ sizeLine by decide), fun x1 n_x1 => ?_⟩
    have nx1 : x1 ≠ g := pool_ne (pool_same P33 (s34.trans s35)) n_x1
    have s36 : Same H35 (upd H35 x1 (.lst [V.bl true, V.bl false])) := Same.upd_new n_x1
    have g36 : (upd H35 x1 (.lst [V.bl true, V.bl false])) x1 = some (.lst [V.bl true, V.bl false]) := upd_same
    generalize (upd H35 x1 (.lst [V.bl true, V.bl false])) = H36 at s36 g36 ⊢
    refine ⟨(show 1 ≤ sizeLine by decide), fun x2 n_x2 => ?_⟩
    have nx2 : x2 ≠ g := pool_ne (pool_same P33 (s34.trans (s35.trans s36))) n_x2
    have s37 : Same H36 (upd H36 x2 (.lst [V.bl false])) := Same.upd_new n_x2
    have g37 : (upd H36 x2 (.lst [V.bl false])) x2 = some (.lst [V.bl false]) := upd_same
    generalize (upd H36 x2 (.lst [V.bl false])) = H37 at s37 g37 ⊢
    refine ⟨(show 1 ≤ sizeLine by decide), fun x3 n_x3 => ?_⟩
    have nx3 : x3 ≠ g := pool_ne (pool_same P33 (s34.trans (s35.trans (s36.trans s37)))) n_x3
    have s38 : Same H37 (upd H37 x3 (.lst [V.int 1])) := Same.upd_new n_x3
    have g38 : (upd H37 x3 (.lst [V.int 1])) x3 = some (.lst [V.int 1]) := upd_same
    generalize (upd H37 x3 (.lst [V.int 1])) = H38 at s38 g38 ⊢
    refine ⟨(show 4 ≤ sizeLine by decide), fun f4 n_f4 => ?_⟩
    have s39 : Same H38 (upd H38 f4 (.lst [V.ref rl, V.ref x1, V.ref x2, V.ref x3])) := Same.upd_new n_f4
    have g39 : (upd H38 f4 (.lst [V.ref rl, V.ref x1, V.ref x2, V.ref x3])) f4 = some (.lst [V.ref rl, V.ref x1, V.ref x2, V.ref x3]) := upd_same
    generalize (upd H38 f4 (.lst [V.ref rl, V.ref x1, V.ref x2, V.ref x3])) = H39 at s39 g39 ⊢
    have s3339 := s34.trans (s35.trans (s36.trans (s37.trans (s38.trans s39))))
    refine ⟨f3, f4, _, _, rfl, rfl, s3339 _ _ (kb33 _ _ g32 nf3), g39, (show 12 ≤ sizeLine by decide), fun fl n_fl => ?_⟩
    have s40 : Same H39 (upd H39 fl (.lst ([V.ref w5, V.ref w8, V.ref tt, V.non, V.str "0 1", V.int 5, V.ref dd, V.bl true] ++ [V.ref rl, V.ref x1, V.ref x2, V.ref x3]))) := Same.upd_new n_fl
    have g40 : (upd H39 fl (.lst ([V.ref w5, V.ref w8, V.ref tt, V.non, V.str "0 1", V.int 5, V.ref dd, V.bl true] ++ [V.ref rl, V.ref x1, V.ref x2, V.ref x3]))) fl = some (.lst [V.ref w5, V.ref w8, V.ref tt, V.non, V.str "0 1", V.int 5, V.ref dd, V.bl true, V.ref rl, V.ref x1, V.ref x2, V.ref x3]) := upd_same
    generalize (upd H39 fl (.lst ([V.ref w5, V.ref w8, V.ref tt, V.non, V.str "0 1", V.int 5, V.ref dd, V.bl true] ++ [V.ref rl, V.ref x1, V.ref x2, V.ref x3]))) = H40 at s40 g40 ⊢
    have P39 := pool_same P33 s3339
    have nfl : fl ≠ g := pool_ne P39 n_fl
    have P40 := pool_same P39 s40
    have kb2540 : KeepBut g H25 H40 := (((s2532.but g).trans kb33).trans (s3339.but g)).trans (s40.but g)
    have kb2539 : KeepBut g H25 H39 := ((s2532.but g).trans kb33).trans (s3339.but g)
    have sM : Same (hole H25 g g) (hole H40 g fl) := fun a o h => let ⟨e, ng, _⟩ := hole_some h; hole_of (kb2540 a o e ng) ng (ne_of_none (kb2539 a o e ng) n_fl)
    have inM : ∀ {x : Addr} {o : HO}, H39 x = some o → x ≠ g → hole H40 g fl x = some o := fun {x o} h n => hole_of (s40 _ _ h) n (ne_of_none h n_fl)
    have t39 : ∀ {x : Addr} {o : HO}, H32 x = some o → x ≠ g → H39 x = some o := fun {x o} h n => s3339 _ _ (kb33 _ _ h n)
    have Ctt := inM (t39 (s32 _ _ (s31 _ _ (s30 _ _ (s29 _ _ (s28 _ _ g27))))) ntt) ntt
    have Cdd := inM (t39 (s32 _ _ (s31 _ _ (s30 _ _ g29))) ndd) ndd
    have Crl := inM (s39 _ _ (s38 _ _ (s37 _ _ (s36 _ _ g35)))) nrl
    have Cx1 := inM (s39 _ _ (s38 _ _ (s37 _ _ g36))) nx1
    have Cx2 := inM (s39 _ _ (s38 _ _ g37)) nx2
    have Cx3 := inM (s39 _ _ g38) nx3
    have B5m := B5'.keep sM
    have pm40 : ∀ x ∈ p, Mod40 x := fun x hx => by
      have := pb x hx
      exact ⟨by omega, by omega⟩
    have two : ∀ {a : Addr} {b : Bool} {xs : List V}, hole H40 g fl a = some (.lst xs) → xs.length ≤ 2 → V.bl b ∈ xs → (∀ x ∈ xs, ∃ c, x = V.bl c) → BadV K (hole H40 g fl) (.ref a) := fun {a b xs} h l hb hx =>
      ⟨noT_odd h (fun x hm => by obtain ⟨c, rfl⟩ := hx x hm; exact .inr (odd_bl c)) hb (fun i e => by cases e), .lst h (by omega) (fun x hm => by obtain ⟨c, rfl⟩ := hx x hm; exact .bl c), shows_list h (fun x hm => by obtain ⟨c, rfl⟩ := hx x hm; exact ie_bl c) (by omega)⟩
    have ALL : ∀ u : Addr, BadV K (hole H40 g fl) (.ref u) → ∀ x ∈ [V.ref w5, V.ref u, V.ref tt, V.non, V.str "0 1", V.int 5, V.ref dd, V.bl true, V.ref rl, V.ref x1, V.ref x2, V.ref x3], BadV K (hole H40 g fl) x := fun u hu x hx => by
      simp only [List.mem_cons, List.not_mem_nil, or_false] at hx
      rcases hx with rfl | rfl | rfl | rfl | rfl | rfl | rfl | rfl | rfl | rfl | rfl | rfl
      · exact B5m
      · exact hu
      · exact ⟨.inl ⟨_, .tup Ctt, kit_tuple_list K⟩, .tup Ctt, shows_tup Ctt (by omega) pm40⟩
      · exact ⟨.inl ⟨_, .non, kit_none_list K⟩, .non, Shows.of ie_non⟩
      · exact ⟨.inl ⟨_, .str _, kit_str_list K⟩, .str _, Shows.of (ie_str (by decide +kernel))⟩
      · exact ⟨.inl ⟨_, .int 5, kit_int_list K⟩, .int 5, Shows.of (ie_int ⟨by decide, by decide⟩)⟩
      · exact ⟨.inl ⟨_, .dK Cdd, kit_dict_list K⟩, .dic Cdd, Shows.of (ie_dic Cdd)⟩
      · exact ⟨.inl ⟨_, .bl true, kit_bool_list K⟩, .bl true, Shows.of (ie_bl true)⟩
      · refine bad_ints Crl (fun z => ?_) (by rw [length_upTo]; omega) fun x hx => ?_
        · rw [length_upTo] at z; omega
        · have := Mth.mem_upTo.mp hx
          exact ⟨by omega, by omega⟩
      · exact two (b := true) Cx1 (by decide) (by simp) fun x hx => by
          simp only [List.mem_cons, List.not_mem_nil, or_false] at hx
          rcases hx with rfl | rfl <;> exact ⟨_, rfl⟩
      · exact two (b := false) Cx2 (by decide) (by simp) fun x hx => ⟨_, List.mem_singleton.mp hx⟩
      · exact bad_ints (ns := [1]) Cx3 (fun _ ti => by have := ti.hi 1 (by simp); simp at this) (by decide) fun x hx => by
          rw [List.mem_singleton.mp hx]
          exact ⟨by decide, by decide⟩
    have h40p := kb2540 _ _ h25p npg
    have kb040 : KeepBut g H H40 := (kb018.trans (s1822.but g)).trans ((s2225.but g).trans kb2540)
    refine ⟨_, rfl, _, rfl, pa, _, at_, _, rfl, rfl, SqL.of h40p, hatp, _, rfl, pa, _, rfl, .inl (SqL.of h40p), _, _, rfl, rfl, rfl, _, rfl, ?_⟩
    refine joinB (fun σ' H' => σ' = [some (.ref g), some (.ref pa), some (.int at_), some (.int ot), v4, v5, some (.ref ol), some (.ref fl)] ∧ ∃ its : List V, H' fl = some (.lst its) ∧ its.length = 12 ∧ (∀ x ∈ its, BadV K (hole H' g fl) x) ∧ PoolAt H' g (c + 200) ∧ KeepBut g H H') ?_ (fun c1 => ⟨rfl, _, g40, rfl, ALL w8 ((B8 ?_).keep sM), P40.mono (by omega), kb040⟩) fun c1 rest => ?_
    rotate_left
    · intro z
      exact c1 (decide_eq_true (congrArg V.int (by rw [List.length_map]; exact z)))
    · refine ⟨(show 2 ≤ sizeLine by decide), fun nn n_nn => ?_⟩
      have nng : nn ≠ g := pool_ne P40 n_nn
      have s41 : Same H40 (upd H40 nn (.lst [V.int 0, V.int 0])) := Same.upd_new n_nn
      have g41 : (upd H40 nn (.lst [V.int 0, V.int 0])) nn = some (.lst (([0, 0] : List Int).map V.int)) := upd_same
      generalize (upd H40 nn (.lst [V.int 0, V.int 0])) = H41 at s41 g41 ⊢
      have nnf : nn ≠ fl := fun z => by rw [z, g40] at n_nn; cases n_nn
      refine ⟨_, rfl, fl, _, 1, 1, rfl, rfl, s41 _ _ g40, rfl, ?_⟩
      have sS : Same (hole H40 g fl) (hole (upd H41 fl (.lst [V.ref w5, V.ref nn, V.ref tt, V.non, V.str "0 1", V.int 5, V.ref dd, V.bl true, V.ref rl, V.ref x1, V.ref x2, V.ref x3])) g fl) := (hole_kb (l := fl) (s41.but g)).trans hole_l
      have fin : ∀ x ∈ [V.ref w5, V.ref nn, V.ref tt, V.non, V.str "0 1", V.int 5, V.ref dd, V.bl true, V.ref rl, V.ref x1, V.ref x2, V.ref x3], BadV K (hole (upd H41 fl (.lst [V.ref w5, V.ref nn, V.ref tt, V.non, V.str "0 1", V.int 5, V.ref dd, V.bl true, V.ref rl, V.ref x1, V.ref x2, V.ref x3])) g fl) x := fun x hx => by
        by_cases e : x = V.ref nn
        · rw [e]
          refine bad_ints (ns := [0, 0]) (hole_of (by rw [upd_ne nnf]; exact g41) nng nnf) (fun _ ti => by have := ti.nd; simp at this) (by decide) fun x hx => ?_
          simp only [List.mem_cons, List.not_mem_nil, or_false] at hx
          rcases hx with rfl | rfl <;> exact ⟨by decide, by decide⟩
        · refine (ALL w5 B5m x ?_).keep sS
          simp only [List.mem_cons, List.not_mem_nil, or_false] at hx ⊢
          rcases hx with h | h | h | h | h | h | h | h | h | h | h | h
          · exact .inl h
          · exact absurd h e
          all_goals simp [h]
      exact rest _ _ ⟨rfl, _, upd_same, rfl, fin, (pool_upd (pool_same P40 s41) nfl).mono (by omega), (kb040.trans (s41.but g)).upd_r (((kb018.trans (s1822.but g)).trans ((s2225.but g).trans kb2539)).free n_fl nfl)⟩
    rintro σ' H50 ⟨rfl, its, g50, l12, bads, P50, kb050⟩
    refine ⟨_, rfl, _, rfl, g, _, 12, rfl, P50, by omega, by decide, by decide, fun r13 H51 q0 q1 P51 kb51 => ⟨(show 4 ≤ sizeLine by decide), fun il n_il => ?_⟩⟩
    have s52 : Same H51 (upd H51 il (.lst [V.int 0, V.int 0, V.int 0, V.int r13])) := Same.upd_new n_il
    have g52 : (upd H51 il (.lst [V.int 0, V.int 0, V.int 0, V.int r13])) il = some (.lst (([0, 0, 0, r13] : List Int).map V.int)) := upd_same
    have nil_ : il ≠ g := pool_ne P51 n_il
    have P52 := pool_same P51 s52
    generalize (upd H51 il (.lst [V.int 0, V.int 0, V.int 0, V.int r13])) = H52 at s52 g52 P52 ⊢
    refine ⟨_, rfl, g, _, 4, rfl, P52, by omega, by decide, by decide, fun r14 H53 t0 t1 P53 kb53 => ?_⟩
    obtain ⟨ix, hix, hat2⟩ := pickN (xs := [0, 0, 0, r13]) t0 (by show r14 < ((4 : Nat) : Int); omega)
    have ixb : 0 ≤ ix ∧ ix < 12 := by
      simp only [List.mem_cons, List.not_mem_nil, or_false] at hix
      omega
    obtain ⟨kx, rfl⟩ := Int.eq_ofNat_of_zero_le ixb.1
    have kl : kx < its.length := by omega
    have kb5053 : KeepBut g H50 H53 := (kb51.trans (s52.but g)).trans kb53
    refine ⟨il, _, r14, _, rfl, rfl, SqL.of (kb53 _ _ g52 nil_), hat2, fl, _, (kx : Int), its[kx], rfl, rfl, SqL.of (kb5053 _ _ g50 nfl), atI_nat (List.getElem?_eq_getElem kl), ?_⟩
    exact q _ H53 (P53.mono (by omega)) (kb050.trans kb5053) ((bads _ (List.getElem_mem kl)).keep ((hole_kb (l := fl) kb5053).trans hole_gg))
def spLaw (K : PySem.W.Frag) : Sp := fun vs H Q _ => ∃ (a : Addr) (ns : List Int), vs = [.ref a] ∧ SqL K H a (ns.map V.int) ∧ ns.length ≤ 63 ∧ ∀ H', Q (.bl true) H'
structure Stand (K : PySem.W.Frag) (g ga : Addr) (bad : V) (gp : List Int) (H : Hp) : Prop where
  bad : BadV K (hole H g g) bad
  good : H ga = some (.lst (gp.map V.int))
theorem Stand.keep {g ga : Addr} {bad : V} {gp : List Int} {H H' : Hp} (h : Stand K g ga bad gp H) (n : ga ≠ g) (k : KeepBut g H H') : Stand K g ga bad gp H' := ⟨h.bad.keep (hole_kb k), k _ _ h.good n⟩
theorem sc_law : FnScope ["script", "k", "pool", "bad", "good", "way", "p", "q", "handed", "pair", "more", "one", "other", "m"] ["script"] (defScope s_law) := ⟨rfl, rfl, rfl, by decide +kernel, rfl, by decide +kernel, by decide +kernel⟩
theorem ok_law {f : Addr} {fd : FuncData} (F : Fun K "law" "law" s_law f fd) (B : Bl mg) (c_law_pool : Cal P w K mg base "_law_pool" 1 ["script", "k"] (spPool K)) (c_law_bad : Cal P w K mg base "_law_bad" 3 ["pool"] (spBad K)) (c_law_turn : Cal P w K mg base "_law_turn" 2 ["pool", "many"] spTurn) (c_law_draw : Cal P w K mg base "_law_draw" 1 ["pool", "many"] spTake) (c_law_copy : Cal P w K mg base "_law_copy" 3 ["thing"] (spCopy 2)) (c_law_refused : Cal P w K mg base "_law_refused" 7 ["way", "p", "q", "m"] (spRefused K)) : FnOk P w K mg base CX0 8 f fd ["script"] (spLaw K) := by
  refine F.ok sc_law (fun vs H Q E h => ?_) (fun cdv A outer s H vs Q E hr h => ?_)
  · obtain ⟨a, ns, rfl, ha, hl, q⟩ := h
    rfl
  · obtain ⟨a, ns, rfl, ha, hl, q⟩ := h
    have hr_law_pool : Room 1 _ := hr.mono (by decide)
    have hr_law_bad : Room 3 _ := hr.mono (by decide)
    have hr_law_turn : Room 2 _ := hr.mono (by decide)
    have hr_law_draw : Room 1 _ := hr.mono (by decide)
    have hr_law_copy : Room 3 _ := hr.mono (by decide)
    have hr_law_refused : Room 7 _ := hr.mono (by decide)
    have hug : _ + 16 < cLine := Nat.lt_of_le_of_lt (Nat.add_le_add_left (by decide : 16 ≤ 64) _) hr.units
    have hu2 : _ + 1 + 1 < cLine := Nat.lt_of_le_of_lt (Nat.add_le_add_left (by decide : 2 ≤ 64) _) hr.units
    have hu3 : _ + 2 + 1 < cLine := Nat.lt_of_le_of_lt (Nat.add_le_add_left (by decide : 3 ≤ 64) _) hr.units
    refine ⟨_, @pss_cons _ _ _ _ _ (@ps_for _ _ _ _ _ _ _ _ PassesOwn.never rfl (@pi_range1 _ _ _ _ _ _ (by rfl) B.range (@pa_cons _ _ _ _ _ (@pe_max2 _ _ _ _ _ _ rfl B.max (@pa_cons _ _ _ _ _ (@pe_int _ _ _ _) (@pa_cons _ _ _ _ _ (@pe_min2 _ _ _ _ _ _ rfl B.min (@pa_cons _ _ _ _ _ (@pe_int _ _ _ _) (@pa_cons _ _ _ _ _ (@pe_lenL _ _ _ _ _ B.len (@pa_cons _ _ _ _ _ (pv 0) (@pa_nil _) (by rfl)) (by rfl) (by rfl)) (@pa_nil _) (by rfl)) (by rfl)) (by rfl) (by rfl) (by rfl)) (@pa_nil _) (by rfl)) (by rfl)) (by rfl) (by rfl) (by rfl)) (@pa_nil _) (by rfl)) (by rfl)) (@pg_name _ _ (1) _ sc_law.nd rfl (Or.inl rfl) (by first | exact .inl rfl | exact .inr rfl | assumption)) (@pss_cons _ _ _ _ _ (@ps_set _ _ (2) _ _ _ _ sc_law.nd rfl (Or.inl rfl) (@pe_cal _ _ _ _ _ _ _ _ _ _ c_law_pool hr_law_pool (@pa_cons _ _ _ _ _ (pv 0) (@pa_cons _ _ _ _ _ (pv 1) (@pa_nil _) (by rfl)) (by rfl)) (by rfl) (by decide) (by rfl) (by rfl)) (by rfl) (by first | exact .inl rfl | exact .inr rfl | assumption)) (@pss_cons _ _ _ _ _ (@ps_set _ _ (3) _ _ _ _ sc_law.nd rfl (Or.inl rfl) (@pe_cal _ _ _ _ _ _ _ _ _ _ c_law_bad hr_law_bad (@pa_cons _ _ _ _ _ (pv 2) (@pa_nil _) (by rfl)) (by rfl) (by decide) (by rfl) (by rfl)) (by rfl) (by first | exact .inl rfl | exact .inr rfl | assumption)) (@pss_cons _ _ _ _ _ (@ps_set _ _ (4) _ _ _ _ sc_law.nd rfl (Or.inl rfl) (@pe_cal _ _ _ _ _ _ _ _ _ _ c_law_turn hr_law_turn (@pa_cons _ _ _ _ _ (pv 2) (@pa_cons _ _ _ _ _ (@pe_cal _ _ _ _ _ _ _ _ _ _ c_law_draw hr_law_draw (@pa_cons _ _ _ _ _ (pv 2) (@pa_cons _ _ _ _ _ (@pe_int _ _ _ _) (@pa_nil _) (by rfl)) (by rfl)) (by rfl) (by decide) (by rfl) (by rfl)) (@pa_nil _) (by rfl)) (by rfl)) (by rfl) (by decide) (by rfl) (by rfl)) (by rfl) (by first | exact .inl rfl | exact .inr rfl | assumption)) (@pss_cons _ _ _ _ _ (@ps_for _ _ _ _ _ _ _ _ PassesOwn.never rfl (@pi_range1 _ _ _ _ _ _ (by rfl) B.range (@pa_cons _ _ _ _ _ (@pe_int _ _ _ _) (@pa_nil _) (by rfl)) (by rfl)) (@pg_name _ _ (5) _ sc_law.nd rfl (Or.inl rfl) (by first | exact .inl rfl | exact .inr rfl | assumption)) (@pss_cons _ _ _ _ _ (@ps_for _ _ _ _ _ _ _ _ PassesOwn.never rfl (@pi_list _ _ _ _ (@pe_lst _ _ _ _ (@pa_cons _ _ _ _ _ (@pe_tup _ _ _ _ _ (@pa_cons _ _ _ _ _ (pv 3) (@pa_cons _ _ _ _ _ (pv 4) (@pa_nil _) (by rfl)) (by rfl))) (@pa_cons _ _ _ _ _ (@pe_tup _ _ _ _ _ (@pa_cons _ _ _ _ _ (pv 3) (@pa_cons _ _ _ _ _ (pv 3) (@pa_nil _) (by rfl)) (by rfl))) (@pa_cons _ _ _ _ _ (@pe_tup _ _ _ _ _ (@pa_cons _ _ _ _ _ (pv 3) (@pa_cons _ _ _ _ _ (@pe_non _ _ _) (@pa_nil _) (by rfl)) (by rfl))) (@pa_nil _) (by rfl)) (by rfl)) (by rfl)))) (@pg_tup _ _ _ _ _ _ rfl (@pgs_cons _ _ _ _ _ (@pg_name _ _ (6) _ sc_law.nd rfl (Or.inl rfl) (by first | exact .inl rfl | exact .inr rfl | assumption)) (@pgs_cons _ _ _ _ _ (@pg_name _ _ (7) _ sc_law.nd rfl (Or.inl rfl) (by first | exact .inl rfl | exact .inr rfl | assumption)) (@pgs_nil _) (by rfl)) (by rfl)) (by rfl) (by rfl)) (@pss_cons _ _ _ _ _ (@ps_set _ _ (8) _ _ _ _ sc_law.nd rfl (Or.inl rfl) (@pe_lst _ _ _ _ (@pa_cons _ _ _ _ _ (@pe_cal _ _ _ _ _ _ _ _ _ _ c_law_copy hr_law_copy (@pa_cons _ _ _ _ _ (pv 6) (@pa_nil _) (by rfl)) (by rfl) (by decide) (by rfl) (by rfl)) (@pa_cons _ _ _ _ _ (@pe_cal _ _ _ _ _ _ _ _ _ _ c_law_copy hr_law_copy (@pa_cons _ _ _ _ _ (pv 7) (@pa_nil _) (by rfl)) (by rfl) (by decide) (by rfl) (by rfl)) (@pa_nil _) (by rfl)) (by rfl))) (by rfl) (by first | exact .inl rfl | exact .inr rfl | assumption)) (@pss_one _ _ _ (@ps_if _ _ _ _ _ _ _ _ (@pw_or _ _ _ _ _ _ _ (@pt_cmpR _ _ _ _ _ _ _ _ op_ne (@pe_cal _ _ _ _ _ _ _ _ _ _ c_law_refused hr_law_refused (@pa_cons _ _ _ _ _ (pv 5) (@pa_cons _ _ _ _ _ (@pe_ix _ _ _ _ _ _ _ ix_list (pv 8) (@pe_int _ _ _ _) (fun _ _ => rfl)) (@pa_cons _ _ _ _ _ (@pe_ix _ _ _ _ _ _ _ ix_list (pv 8) (@pe_int _ _ _ _) (fun _ _ => rfl)) (@pa_cons _ _ _ _ _ (@pe_int _ _ _ _) (@pa_nil _) (by rfl)) (by rfl)) (by rfl)) (by rfl)) (by rfl) (by decide) (by rfl) (by rfl)) (@pe_int _ _ _ _) (nomark _)) (@pw_or1 _ _ _ _ (@pt_cmpR _ _ _ _ _ _ _ _ (op_neL 2 hu3) (pv 8) (@pe_lst _ _ _ _ (@pa_cons _ _ _ _ _ (pv 6) (@pa_cons _ _ _ _ _ (pv 7) (@pa_nil _) (by rfl)) (by rfl))) (nomark _)))).pt (@pss_one _ _ _ (@ps_ret _ _ _ _ (@pe_bl _ _ _ _))) (@pss_nil _)))) (by intro _; rfl)) (@pss_cons _ _ _ _ _ (@ps_set _ _ (9) _ _ _ _ sc_law.nd rfl (Or.inl rfl) (@pe_lst _ _ _ _ (@pa_cons _ _ _ _ _ (@pe_listOf _ _ _ _ _ B.list (@pa_cons _ _ _ _ _ (pv 4) (@pa_nil _) (by rfl)) (by rfl) (by rfl)) (@pa_cons _ _ _ _ _ (@pe_cal _ _ _ _ _ _ _ _ _ _ c_law_copy hr_law_copy (@pa_cons _ _ _ _ _ (pv 3) (@pa_nil _) (by rfl)) (by rfl) (by decide) (by rfl) (by rfl)) (@pa_nil _) (by rfl)) (by rfl))) (by rfl) (by first | exact .inl rfl | exact .inr rfl | assumption)) (@pss_cons _ _ _ _ _ (@ps_if _ _ _ _ _ _ _ _ (@pw_and _ _ _ _ _ _ _ (@pt_cmpR _ _ _ _ _ _ _ _ op_lt (pv 5) (@pe_int _ _ _ _) (nomark _)) (@pw_and1 _ _ _ _ (@pt_cmpR _ _ _ _ _ _ _ _ op_ne (@pe_cal _ _ _ _ _ _ _ _ _ _ c_law_refused hr_law_refused (@pa_cons _ _ _ _ _ (pv 5) (@pa_cons _ _ _ _ _ (@pe_ix _ _ _ _ _ _ _ ix_list (pv 9) (@pe_int _ _ _ _) (fun _ _ => rfl)) (@pa_cons _ _ _ _ _ (@pe_ix _ _ _ _ _ _ _ ix_list (pv 9) (@pe_int _ _ _ _) (fun _ _ => rfl)) (@pa_cons _ _ _ _ _ (@pe_int _ _ _ _) (@pa_nil _) (by rfl)) (by rfl)) (by rfl)) (by rfl)) (by rfl) (by decide) (by rfl) (by rfl)) (@pe_int _ _ _ _) (nomark _)))).pt (@pss_one _ _ _ (@ps_ret _ _ _ _ (@pe_bl _ _ _ _))) (@pss_nil _)) (@pss_cons _ _ _ _ _ (@ps_if _ _ _ _ _ _ _ _ (@pt_cmpR _ _ _ _ _ _ _ _ op_ne (@pe_reprD _ _ _ _ _ hug hr.gd B.repr (@pa_cons _ _ _ _ _ (pv 9) (@pa_nil _) (by rfl)) (by rfl) (by rfl)) (@pe_reprD _ _ _ _ _ hug hr.gd B.repr (@pa_cons _ _ _ _ _ (@pe_lst _ _ _ _ (@pa_cons _ _ _ _ _ (pv 4) (@pa_cons _ _ _ _ _ (pv 3) (@pa_nil _) (by rfl)) (by rfl))) (@pa_nil _) (by rfl)) (by rfl) (by rfl)) (nomark _)) (@pss_one _ _ _ (@ps_ret _ _ _ _ (@pe_bl _ _ _ _))) (@pss_nil _)) (@pss_cons _ _ _ _ _ (@ps_set _ _ (10) _ _ _ _ sc_law.nd rfl (Or.inl rfl) (@pe_listRng _ _ _ _ _ _ _ rfl B.list B.range (@pa_cons _ _ _ _ _ (@pe_op _ _ _ _ _ _ _ _ op_add (@pe_op _ _ _ _ _ _ _ _ op_add (@pe_lenL _ _ _ _ _ B.len (@pa_cons _ _ _ _ _ (pv 4) (@pa_nil _) (by rfl)) (by rfl) (by rfl)) (@pe_int _ _ _ _)) (@pe_cal _ _ _ _ _ _ _ _ _ _ c_law_draw hr_law_draw (@pa_cons _ _ _ _ _ (pv 2) (@pa_cons _ _ _ _ _ (@pe_int _ _ _ _) (@pa_nil _) (by rfl)) (by rfl)) (by rfl) (by decide) (by rfl) (by rfl))) (@pa_nil _) (by rfl)) (by rfl) (by rfl) (by rfl) (by rfl)) (by rfl) (by first | exact .inl rfl | exact .inr rfl | assumption)) (@pss_one _ _ _ (@ps_for _ _ _ _ _ _ _ _ PassesOwn.never rfl (@pi_list _ _ _ _ (@pe_lst _ _ _ _ (@pa_cons _ _ _ _ _ (@pe_tup _ _ _ _ _ (@pa_cons _ _ _ _ _ (pv 4) (@pa_cons _ _ _ _ _ (pv 10) (@pa_nil _) (by rfl)) (by rfl))) (@pa_cons _ _ _ _ _ (@pe_tup _ _ _ _ _ (@pa_cons _ _ _ _ _ (pv 10) (@pa_cons _ _ _ _ _ (pv 4) (@pa_nil _) (by rfl)) (by rfl))) (@pa_nil _) (by rfl)) (by rfl)))) (@pg_tup _ _ _ _ _ _ rfl (@pgs_cons _ _ _ _ _ (@pg_name _ _ (11) _ sc_law.nd rfl (Or.inl rfl) (by first | exact .inl rfl | exact .inr rfl | assumption)) (@pgs_cons _ _ _ _ _ (@pg_name _ _ (12) _ sc_law.nd rfl (Or.inl rfl) (by first | exact .inl rfl | exact .inr rfl | assumption)) (@pgs_nil _) (by rfl)) (by rfl)) (by rfl) (by rfl)) (@pss_cons _ _ _ _ _ (@ps_set _ _ (9) _ _ _ _ sc_law.nd rfl (Or.inl rfl) (@pe_lst _ _ _ _ (@pa_cons _ _ _ _ _ (@pe_listOf _ _ _ _ _ B.list (@pa_cons _ _ _ _ _ (pv 11) (@pa_nil _) (by rfl)) (by rfl) (by rfl)) (@pa_cons _ _ _ _ _ (@pe_listOf _ _ _ _ _ B.list (@pa_cons _ _ _ _ _ (pv 12) (@pa_nil _) (by rfl)) (by rfl) (by rfl)) (@pa_nil _) (by rfl)) (by rfl))) (by rfl) (by first | exact .inl rfl | exact .inr rfl | assumption)) (@pss_cons _ _ _ _ _ (@ps_if _ _ _ _ _ _ _ _ (@pw_and _ _ _ _ _ _ _ (@pt_cmpR _ _ _ _ _ _ _ _ op_lt (pv 5) (@pe_int _ _ _ _) (nomark _)) (@pw_and1 _ _ _ _ (@pt_cmpR _ _ _ _ _ _ _ _ op_ne (@pe_cal _ _ _ _ _ _ _ _ _ _ c_law_refused hr_law_refused (@pa_cons _ _ _ _ _ (pv 5) (@pa_cons _ _ _ _ _ (@pe_ix _ _ _ _ _ _ _ ix_list (pv 9) (@pe_int _ _ _ _) (fun _ _ => rfl)) (@pa_cons _ _ _ _ _ (@pe_ix _ _ _ _ _ _ _ ix_list (pv 9) (@pe_int _ _ _ _) (fun _ _ => rfl)) (@pa_cons _ _ _ _ _ (@pe_int _ _ _ _) (@pa_nil _) (by rfl)) (by rfl)) (by rfl)) (by rfl)) (by rfl) (by decide) (by rfl) (by rfl)) (@pe_int _ _ _ _) (nomark _)))).pt (@pss_one _ _ _ (@ps_ret _ _ _ _ (@pe_bl _ _ _ _))) (@pss_nil _)) (@pss_one _ _ _ (@ps_if _ _ _ _ _ _ _ _ (@pt_cmpR _ _ _ _ _ _ _ _ (op_neL 2 hu3) (pv 9) (@pe_lst _ _ _ _ (@pa_cons _ _ _ _ _ (pv 11) (@pa_cons _ _ _ _ _ (pv 12) (@pa_nil _) (by rfl)) (by rfl))) (nomark _)) (@pss_one _ _ _ (@ps_ret _ _ _ _ (@pe_bl _ _ _ _))) (@pss_nil _))))) (by intro _; rfl)))))))) (by intro _; rfl)) (@pss_one _ _ _ (@ps_for _ _ _ _ _ _ _ _ PassesOwn.never rfl (@pi_list _ _ _ _ (@pe_lst _ _ _ _ (@pa_cons _ _ _ _ _ (@pe_int _ _ _ _) (@pa_cons _ _ _ _ _ (@pe_un _ _ _ _ _ _ un_neg (@pe_int _ _ _ _)) (@pa_cons _ _ _ _ _ (@pe_op _ _ _ _ _ _ _ _ op_sub (@pe_int _ _ _ _) (@pe_cal _ _ _ _ _ _ _ _ _ _ c_law_draw hr_law_draw (@pa_cons _ _ _ _ _ (pv 2) (@pa_cons _ _ _ _ _ (@pe_op _ _ _ _ _ _ _ _ op_pow (@pe_int _ _ _ _) (@pe_int _ _ _ _)) (@pa_nil _) (by rfl)) (by rfl)) (by rfl) (by decide) (by rfl) (by rfl))) (@pa_nil _) (by rfl)) (by rfl)) (by rfl)))) (@pg_name _ _ (13) _ sc_law.nd rfl (Or.inl rfl) (by first | exact .inl rfl | exact .inr rfl | assumption)) (@pss_cons _ _ _ _ _ (@ps_set _ _ (8) _ _ _ _ sc_law.nd rfl (Or.inl rfl) (@pe_listOf _ _ _ _ _ B.list (@pa_cons _ _ _ _ _ (pv 4) (@pa_nil _) (by rfl)) (by rfl) (by rfl)) (by rfl) (by first | exact .inl rfl | exact .inr rfl | assumption)) (@pss_one _ _ _ (@ps_if _ _ _ _ _ _ _ _ (@pw_or _ _ _ _ _ _ _ (@pt_cmpR _ _ _ _ _ _ _ _ op_ne (@pe_cal _ _ _ _ _ _ _ _ _ _ c_law_refused hr_law_refused (@pa_cons _ _ _ _ _ (@pe_int _ _ _ _) (@pa_cons _ _ _ _ _ (pv 8) (@pa_cons _ _ _ _ _ (@pe_non _ _ _) (@pa_cons _ _ _ _ _ (pv 13) (@pa_nil _) (by rfl)) (by rfl)) (by rfl)) (by rfl)) (by rfl) (by decide) (by rfl) (by rfl)) (@pe_int _ _ _ _) (nomark _)) (@pw_or1 _ _ _ _ (@pt_cmpR _ _ _ _ _ _ _ _ (op_neL 2 hu3) (pv 8) (pv 4) (nomark _)))).pt (@pss_one _ _ _ (@ps_ret _ _ _ _ (@pe_bl _ _ _ _))) (@pss_nil _)))) (by intro _; rfl))))))) (by intro _; rfl)) (@pss_one _ _ _ (@ps_ret _ _ _ _ (@pe_bl _ _ _ _))), ?_⟩
    refine ⟨_, rfl, a, _, rfl, .inl ha, 10, _, rfl, 1, _, rfl, _, rfl, ?_⟩
    obtain ⟨mx, hmx, hm1, hm2⟩ := maxmin' (n := 10) (c := ((ns.map V.int).length : Int)) (by decide) (by omega)
    rw [hmx]
    refine ⟨by omega, by omega, for_range (lo := 0) (n := mx.toNat) (fun i σ H2 => ∃ v1 v2 v3 v4 v5 v6 v7 v8 v9 v10 v11 v12 v13 : Option V, σ = [some (.ref a), v1, v2, v3, v4, v5, v6, v7, v8, v9, v10, v11, v12, v13] ∧ Same H H2)
      ⟨none, none, none, none, none, none, none, none, none, none, none, none, none, rfl, Same.refl H⟩ ?_ (fun σ H2 _ => q H2)⟩
    rintro i σ H2 hi ⟨v1, v2, v3, v4, v5, v6, v7, v8, v9, v10, v11, v12, v13, rfl, s02⟩
    refine ⟨_, rfl, _, rfl, a, ns, _, rfl, s02.seq ha, by omega, by omega, fun g H3 hg s23 P3 => ?_⟩
    have hg0 : H g = none := s02.free hg
    refine ⟨_, rfl, g, _, rfl, P3, by decide, fun bad H4 P4 kb4 B4 => ?_⟩
    refine ⟨_, rfl, _, rfl, g, _, 13, rfl, P4, by decide, by decide, by decide, fun r1 H5 a0 a1 P5 kb5 => ?_⟩
    refine ⟨g, _, r1, rfl, P5, a0, by omega, by decide, fun ga gp H6 nga tg lg h6g P6 kb6 => ?_⟩
    have ngg : ga ≠ g := pool_ne P5 nga
    have g12 : gp.length ≤ 12 := by omega
    have S6 : Stand K g ga bad gp H6 := ⟨B4.keep (hole_kb (kb5.trans kb6)), h6g⟩
    have s06 : Same H H6 := (((s02.trans s23).kb kb4 hg0).kb kb5 hg0).kb kb6 hg0
    refine ⟨6, rfl, by decide, by decide, for_range (lo := 0) (n := 6) (fun w σ H7 => ∃ v5 v6 v7 v8 v9 v10 v11 v12 v13 : Option V, σ = [some (.ref a), some (.int ((0 : Int) + (i : Int))), some (.ref g), some bad, some (.ref ga), v5, v6, v7, v8, v9, v10, v11, v12, v13] ∧ KeepBut g H6 H7 ∧ PoolAt H7 g (5000 + w))
      ⟨_, _, _, _, _, _, _, _, _, rfl, KeepBut.refl _ _, P6.mono (by omega)⟩ ?_ ?_⟩
    · rintro wi σ H7 hw ⟨v5, v6, v7, v8, v9, v10, v11, v12, v13, rfl, kb7, P7⟩
      have S7 := S6.keep ngg kb7
      refine ⟨_, rfl, _, rfl, (show 2 ≤ sizeLine by decide), fun t1 nt1 => ?_⟩
      have s8 : Same H7 (upd H7 t1 (.tup [bad, V.ref ga])) := Same.upd_new nt1
      have g8 : (upd H7 t1 (.tup [bad, V.ref ga])) t1 = some (.tup [bad, V.ref ga]) := upd_same
      generalize (upd H7 t1 (.tup [bad, V.ref ga])) = H8 at s8 g8 ⊢
      refine ⟨_, rfl, _, rfl, (show 2 ≤ sizeLine by decide), fun t2 nt2 => ?_⟩
      have s9 : Same H8 (upd H8 t2 (.tup [bad, bad])) := Same.upd_new nt2
      have g9 : (upd H8 t2 (.tup [bad, bad])) t2 = some (.tup [bad, bad]) := upd_same
      generalize (upd H8 t2 (.tup [bad, bad])) = H9 at s9 g9 ⊢
      refine ⟨_, rfl, (show 2 ≤ sizeLine by decide), fun t3 nt3 => ?_⟩
      have s10 : Same H9 (upd H9 t3 (.tup [bad, V.non])) := Same.upd_new nt3
      have g10 : (upd H9 t3 (.tup [bad, V.non])) t3 = some (.tup [bad, V.non]) := upd_same
      generalize (upd H9 t3 (.tup [bad, V.non])) = H10 at s10 g10 ⊢
      refine ⟨(show 3 ≤ sizeLine by decide), fun tl ntl => ?_⟩
      have s11 : Same H10 (upd H10 tl (.lst [V.ref t1, V.ref t2, V.ref t3])) := Same.upd_new ntl
      have g11 : (upd H10 tl (.lst [V.ref t1, V.ref t2, V.ref t3])) tl = some (.lst [V.ref t1, V.ref t2, V.ref t3]) := upd_same
      generalize (upd H10 tl (.lst [V.ref t1, V.ref t2, V.ref t3])) = H11 at s11 g11 ⊢
      have s711 := s8.trans (s9.trans (s10.trans s11))
      have S11 := S7.keep ngg (s711.but g)
      have P11 := pool_same P7 s711
      have tups : ∀ (j : Nat) x, [V.ref t1, V.ref t2, V.ref t3][j]? = some x → ∃ t u, x = V.ref t ∧ H11 t = some (.tup [bad, u]) ∧ Cpb H11 2 u := fun j x hx => by
        have cb := S11.bad.cp.keep (hole_same H11 g g)
        rcases j with _ | _ | _ | j
        · cases hx; exact ⟨t1, _, rfl, s11 _ _ (s10 _ _ (s9 _ _ g8)), Cpb.ints S11.good (by omega)⟩
        · cases hx; exact ⟨t2, _, rfl, s11 _ _ (s10 _ _ g9), cb⟩
        · cases hx; exact ⟨t3, _, rfl, s11 _ _ g10, .non⟩
        · simp at hx
      refine ⟨tl, rfl, ⟨_, SqL.of g11⟩, for_list (K := K) (a := tl) (xs := [V.ref t1, V.ref t2, V.ref t3]) (fun j σ H12 => ∃ v6 v7 v8 v9 v10 v11 v12 v13 : Option V, σ = [some (.ref a), some (.int ((0 : Int) + (i : Int))), some (.ref g), some bad, some (.ref ga), some (.int ((0 : Int) + (wi : Int))), v6, v7, v8, v9, v10, v11, v12, v13] ∧ Same H11 H12)
        ⟨_, _, _, _, _, _, _, _, rfl, Same.refl _⟩ (fun j σ H12 _ ⟨_, _, _, _, _, _, _, _, _, s⟩ => SqL.of (s _ _ g11)) ?_ ?_⟩
      · rintro j x σ H12 hj ⟨u6, u7, u8, u9, u10, u11, u12, u13, rfl, s12⟩
        obtain ⟨t, u, rfl, ht, cu⟩ := tups j x hj
        refine ⟨t, _, rfl, SqT.of (s12 _ _ ht), rfl, _, _, rfl, _, _, rfl, rfl, ?_⟩
        have S12 := S11.keep ngg (s12.but g)
        have cb := S12.bad.cp.keep (hole_same H12 g g)
        refine ⟨_, rfl, bad, rfl, cb, fun b1 H13 s13 c1 => ⟨_, rfl, u, rfl, cu.keep (s12.trans s13), fun u1 H14 s14 c2 => ⟨(show 2 ≤ sizeLine by decide), fun hd nhd => ?_⟩⟩⟩
        have s15 : Same H14 (upd H14 hd (.lst [b1, u1])) := Same.upd_new nhd
        have g15 : (upd H14 hd (.lst [b1, u1])) hd = some (.lst [b1, u1]) := upd_same
        generalize (upd H14 hd (.lst [b1, u1])) = H15 at s15 g15 ⊢
        have s1215 := s13.trans (s14.trans s15)
        have no1 : NoTurnV K H15 b1 := ((c1.keep (s14.trans s15)).noT ((S12.bad.no.keep (hole_same H12 g g)).keep s1215))
        refine ⟨_, rfl, _, rfl, hd, _, 0, b1, rfl, rfl, SqL.of g15, atI_nat (j := 0) rfl, _, rfl, hd, _, 1, u1, rfl, rfl, SqL.of g15, atI_nat (j := 1) rfl, _, 0, 0, b1, u1, rfl, by omega, by omega, .inl ⟨no1, rfl⟩, fun H16 s16 => ⟨rfl, _, rfl, iteNS rfl ?_⟩⟩
        refine ⟨_, rfl, _, rfl, _, rfl, (show 2 ≤ sizeLine by decide), fun h2 nh2 => ?_⟩
        have s17 : Same H16 (upd H16 h2 (.lst [bad, u])) := Same.upd_new nh2
        have g17 : (upd H16 h2 (.lst [bad, u])) h2 = some (.lst [bad, u]) := upd_same
        generalize (upd H16 h2 (.lst [bad, u])) = H17 at s17 g17 ⊢
        have s1517 := s16.trans s17
        refine ⟨hd, h2, _, _, true, rfl, rfl, SqL.of (s1517 _ _ g15), SqL.of g17, leq_two ((c1.keep (s14.trans (s15.trans s1517))).eqD2) ((c2.keep (s15.trans s1517)).eqD2), _, rfl, iteF ?_⟩
        exact ⟨_, _, _, _, _, _, _, _, rfl, s12.trans (s1215.trans s1517)⟩
      · rintro σ H12 ⟨u6, u7, u8, u9, u10, u11, u12, u13, rfl, s12⟩
        have S12 := S11.keep ngg (s12.but g)
        have cb := S12.bad.cp.keep (hole_same H12 g g)
        have no12 := S12.bad.no.keep (hole_same H12 g g)
        refine ⟨_, rfl, ga, _, rfl, .inl (SqL.of S12.good), fun gc ngc => ?_⟩
        have s13 : Same H12 (upd H12 gc (.lst (gp.map V.int))) := Same.upd_new ngc
        have g13 : (upd H12 gc (.lst (gp.map V.int))) gc = some (.lst (gp.map V.int)) := upd_same
        generalize (upd H12 gc (.lst (gp.map V.int))) = H13 at s13 g13 ⊢
        refine ⟨_, rfl, bad, rfl, cb.keep s13, fun b1 H14 s14 c1 => ⟨(show 2 ≤ sizeLine by decide), fun pr npr => ?_⟩⟩
        have s15 : Same H14 (upd H14 pr (.lst [V.ref gc, b1])) := Same.upd_new npr
        have g15 : (upd H14 pr (.lst [V.ref gc, b1])) pr = some (.lst [V.ref gc, b1]) := upd_same
        generalize (upd H14 pr (.lst [V.ref gc, b1])) = H15 at s15 g15 ⊢
        have s1315 := s14.trans s15
        have s1215 := s13.trans s1315
        have no1 : NoTurnV K H15 b1 := (c1.keep s15).noT (no12.keep s1215)
        have g15c := s1315 _ _ g13
        have T12 : TurnAt H12 ga gp := ⟨S12.good, tg, by omega⟩
        refine ⟨_, rfl, _, _, rfl, rfl, _, rfl, ?_⟩
        refine joinFB (fun σ' H' => σ' = [some (.ref a), some (.int ((0 : Int) + (i : Int))), some (.ref g), some bad, some (.ref ga), some (.int ((0 : Int) + (wi : Int))), u6, u7, u8, some (.ref pr), u10, u11, u12, u13] ∧ Same H15 H') ?_ ⟨rfl, Same.refl _⟩ fun c3 rest => ?_
        rotate_left
        · have c3 : (0 : Int) + (wi : Int) < 3 := of_decide_eq_true c3
          refine ⟨_, rfl, _, rfl, pr, _, 0, V.ref gc, rfl, rfl, SqL.of g15, atI_nat (j := 0) rfl, _, rfl, pr, _, 1, b1, rfl, rfl, SqL.of g15, atI_nat (j := 1) rfl, _, 0, 0, V.ref gc, b1, rfl, by omega, by omega, .inr ⟨gc, gp, rfl, ⟨g15c, tg, by omega⟩, .inl ⟨c3, no1, rfl⟩⟩, fun H16 s16 => ⟨rfl, _, rfl, iteNS rfl ?_⟩⟩
          exact rest _ _ ⟨rfl, s16⟩
        rintro σ' H16 ⟨rfl, s16⟩
        have s1216 := s1215.trans s16
        have S16 := S12.keep ngg (s1216.but g)
        obtain ⟨db, da1, da2, da3, da4⟩ := S16.bad.sh.keep (hole_same H16 g g)
        obtain ⟨dg, dg1, dg2, dg3, dg4⟩ := shows_ints (M := H16) S16.good (by omega) (fun x hx => by have := tg.lo x hx; have := tg.hi x hx; exact ⟨by omega, by omega⟩)
        have c1' := c1.keep (s15.trans s16)
        have dgc : Da H16 (.ref gc) dg := by
          cases dg1 with
          | lst e h =>
            rw [S16.good] at e
            cases e
            exact .lst (s16 _ _ g15c) h
          | tup e h => rw [S16.good] at e; cases e
          | dic e => rw [S16.good] at e; cases e
        refine ⟨_, rfl, V.ref pr, _, rfl, das_two (s16 _ _ g15) dgc (c1'.da da1) dg2 da2 dg3 da3 dg4 da4, ?_⟩
        refine ⟨_, rfl, _, rfl, (show 2 ≤ sizeLine by decide), fun ql nql => ?_⟩
        have s17 : Same H16 (upd H16 ql (.lst [V.ref ga, bad])) := Same.upd_new nql
        have g17 : (upd H16 ql (.lst [V.ref ga, bad])) ql = some (.lst [V.ref ga, bad]) := upd_same
        generalize (upd H16 ql (.lst [V.ref ga, bad])) = H17 at s17 g17 ⊢
        refine ⟨V.ref ql, _, rfl, das_two g17 (dg1.keep s17) (da1.keep s17) dg2 da2 dg3 da3 dg4 da4, rfl, _, rfl, iteNS rfl ?_⟩
        have S17 := S16.keep ngg (s17.but g)
        have s1117 := s12.trans (s1216.trans s17)
        have P17 := pool_same P11 s1117
        have kb617 : KeepBut g H6 H17 := kb7.trans ((s711.trans s1117).but g)
        refine ⟨_, rfl, ga, _, rfl, .inl (SqL.of S17.good), _, _, rfl, rfl, _, rfl, g, _, 9, rfl, P17, by omega, by decide, by decide, fun r2 H18 b0 b1' P18 kb18 => ⟨_, _, rfl, rfl, ((gp.length : Nat) : Int) + 1 + r2, by rw [List.length_map], fun rg nrg => ?_⟩⟩
        have s19 : Same H18 (upd H18 rg (.rng 0 (((gp.length : Nat) : Int) + 1 + r2))) := Same.upd_new nrg
        have g19 : (upd H18 rg (.rng 0 (((gp.length : Nat) : Int) + 1 + r2))) rg = some (.rng 0 (((gp.length : Nat) : Int) + 1 + r2)) := upd_same
        generalize (upd H18 rg (.rng 0 (((gp.length : Nat) : Int) + 1 + r2))) = H19 at s19 g19 ⊢
        refine ⟨rg, 0, _, rfl, g19, ⟨by omega, by omega, by omega, by omega⟩, by omega, fun mo nmo => ?_⟩
        obtain ⟨un, eun⟩ : ∃ un : Nat, (un : Int) = ((gp.length : Nat) : Int) + 1 + r2 := ⟨(((gp.length : Nat) : Int) + 1 + r2).toNat, by omega⟩
        rw [show ((((gp.length : Nat) : Int) + 1 + r2) - 0).toNat = un by omega]
        have s20 : Same H19 (upd H19 mo (.lst ((upTo 0 un).map V.int))) := Same.upd_new nmo
        have g20 : (upd H19 mo (.lst ((upTo 0 un).map V.int))) mo = some (.lst ((upTo 0 un).map V.int)) := upd_same
        have nmg : mo ≠ g := pool_ne (pool_same P18 s19) nmo
        generalize (upd H19 mo (.lst ((upTo 0 un).map V.int))) = H20 at s20 g20 ⊢
        have S20 := S17.keep ngg (kb18.trans ((s19.trans s20).but g))
        have P20 := pool_same P18 (s19.trans s20)
        have tu : IsT (upTo 0 un) := (isT_of_perm (List.Perm.refl _)).1
        have lu : (upTo 0 un).length = un := length_upTo ..
        refine ⟨_, rfl, _, rfl, (show 2 ≤ sizeLine by decide), fun p1 np1 => ?_⟩
        have s21 : Same H20 (upd H20 p1 (.tup [V.ref ga, V.ref mo])) := Same.upd_new np1
        have g21 : (upd H20 p1 (.tup [V.ref ga, V.ref mo])) p1 = some (.tup [V.ref ga, V.ref mo]) := upd_same
        generalize (upd H20 p1 (.tup [V.ref ga, V.ref mo])) = H21 at s21 g21 ⊢
        refine ⟨_, rfl, _, rfl, (show 2 ≤ sizeLine by decide), fun p2 np2 => ?_⟩
        have s22 : Same H21 (upd H21 p2 (.tup [V.ref mo, V.ref ga])) := Same.upd_new np2
        have g22 : (upd H21 p2 (.tup [V.ref mo, V.ref ga])) p2 = some (.tup [V.ref mo, V.ref ga]) := upd_same
        generalize (upd H21 p2 (.tup [V.ref mo, V.ref ga])) = H22 at s22 g22 ⊢
        refine ⟨(show 2 ≤ sizeLine by decide), fun pl npl => ?_⟩
        have s23' : Same H22 (upd H22 pl (.lst [V.ref p1, V.ref p2])) := Same.upd_new npl
        have g23 : (upd H22 pl (.lst [V.ref p1, V.ref p2])) pl = some (.lst [V.ref p1, V.ref p2]) := upd_same
        generalize (upd H22 pl (.lst [V.ref p1, V.ref p2])) = H23 at s23' g23 ⊢
        have s2023 := s21.trans (s22.trans s23')
        have ga23 := s2023 _ _ S20.good
        have mo23 := s2023 _ _ g20
        have prs : ∀ (j : Nat) x, [V.ref p1, V.ref p2][j]? = some x → ∃ (t o1 o2 : Addr) (l1 l2 : List Int), x = V.ref t ∧ H23 t = some (.tup [V.ref o1, V.ref o2]) ∧ TurnAt H23 o1 l1 ∧ TurnAt H23 o2 l2 ∧ l1.length ≠ l2.length := fun j x hx => by
          rcases j with _ | _ | j
          · cases hx; exact ⟨p1, ga, mo, gp, upTo 0 un, rfl, s23' _ _ (s22 _ _ g21), ⟨ga23, tg, by omega⟩, ⟨mo23, tu, by omega⟩, by omega⟩
          · cases hx; exact ⟨p2, mo, ga, upTo 0 un, gp, rfl, s23' _ _ g22, ⟨mo23, tu, by omega⟩, ⟨ga23, tg, by omega⟩, by omega⟩
          · simp at hx
        have P23 := pool_same P20 s2023
        refine ⟨pl, rfl, ⟨_, SqL.of g23⟩, for_list (K := K) (a := pl) (xs := [V.ref p1, V.ref p2]) (fun j σ H24 => ∃ v6 v7 v8 v9 v10 v11 v12 v13 : Option V, σ = [some (.ref a), some (.int ((0 : Int) + (i : Int))), some (.ref g), some bad, some (.ref ga), some (.int ((0 : Int) + (wi : Int))), v6, v7, v8, v9, v10, v11, v12, v13] ∧ Same H23 H24)
          ⟨_, _, _, _, _, _, _, _, rfl, Same.refl _⟩ (fun j σ H24 _ ⟨_, _, _, _, _, _, _, _, _, s⟩ => SqL.of (s _ _ g23)) ?_ ?_⟩
        · rintro j x σ H24 hj ⟨u6, u7, u8, u9, u10, u11, u12, u13, rfl, s24⟩
          obtain ⟨t, o1, o2, l1, l2, rfl, ht, t1', t2', ne⟩ := prs j x hj
          refine ⟨t, _, rfl, SqT.of (s24 _ _ ht), rfl, _, _, rfl, _, _, rfl, rfl, ?_⟩
          refine ⟨_, rfl, o1, _, rfl, .inl (SqL.of (s24 _ _ t1'.1)), fun d1 nd1 => ?_⟩
          have s25 : Same H24 (upd H24 d1 (.lst (l1.map V.int))) := Same.upd_new nd1
          have g25 : (upd H24 d1 (.lst (l1.map V.int))) d1 = some (.lst (l1.map V.int)) := upd_same
          have ne1 : o1 ≠ d1 := ne_of_none (s24 _ _ t1'.1) nd1
          generalize (upd H24 d1 (.lst (l1.map V.int))) = H25 at s25 g25 ⊢
          refine ⟨_, rfl, o2, _, rfl, .inl (SqL.of (s25 _ _ (s24 _ _ t2'.1))), fun d2 nd2 => ?_⟩
          have s26 : Same H25 (upd H25 d2 (.lst (l2.map V.int))) := Same.upd_new nd2
          have g26 : (upd H25 d2 (.lst (l2.map V.int))) d2 = some (.lst (l2.map V.int)) := upd_same
          have ne2 : o2 ≠ d2 := ne_of_none (s25 _ _ (s24 _ _ t2'.1)) nd2
          generalize (upd H25 d2 (.lst (l2.map V.int))) = H26 at s26 g26 ⊢
          refine ⟨(show 2 ≤ sizeLine by decide), fun pr2 npr2 => ?_⟩
          have s27 : Same H26 (upd H26 pr2 (.lst [V.ref d1, V.ref d2])) := Same.upd_new npr2
          have g27 : (upd H26 pr2 (.lst [V.ref d1, V.ref d2])) pr2 = some (.lst [V.ref d1, V.ref d2]) := upd_same
          generalize (upd H26 pr2 (.lst [V.ref d1, V.ref d2])) = H27 at s27 g27 ⊢
          have s2427 := s25.trans (s26.trans s27)
          have d1' := s27 _ _ (s26 _ _ g25)
          have d2' := s27 _ _ g26
          refine ⟨_, rfl, _, _, rfl, rfl, _, rfl, ?_⟩
          refine joinFB (fun σ' H' => σ' = [some (.ref a), some (.int ((0 : Int) + (i : Int))), some (.ref g), some bad, some (.ref ga), some (.int ((0 : Int) + (wi : Int))), u6, u7, u8, some (.ref pr2), u10, some (.ref o1), some (.ref o2), u13] ∧ Same H27 H') ?_ ⟨rfl, Same.refl _⟩ fun c3 rest => ?_
          rotate_left
          · have c3 : (0 : Int) + (wi : Int) < 3 := of_decide_eq_true c3
            refine ⟨_, rfl, _, rfl, pr2, _, 0, V.ref d1, rfl, rfl, SqL.of g27, atI_nat (j := 0) rfl, _, rfl, pr2, _, 1, V.ref d2, rfl, rfl, SqL.of g27, atI_nat (j := 1) rfl, _, 0, 1, V.ref d1, V.ref d2, rfl, by omega, by omega, .inr ⟨d1, l1, rfl, ⟨d1', t1'.2⟩, .inr (.inl ⟨c3, rfl, d2, l2, rfl, ⟨d2', t2'.2⟩, ne⟩)⟩, fun H28 s28 => ⟨rfl, _, rfl, iteNS rfl ?_⟩⟩
            exact rest _ _ ⟨rfl, s28⟩
          rintro σ' H28 ⟨rfl, s28⟩
          refine ⟨_, rfl, _, rfl, _, rfl, (show 2 ≤ sizeLine by decide), fun e2 ne2' => ?_⟩
          have s29 : Same H28 (upd H28 e2 (.lst [V.ref o1, V.ref o2])) := Same.upd_new ne2'
          have g29 : (upd H28 e2 (.lst [V.ref o1, V.ref o2])) e2 = some (.lst [V.ref o1, V.ref o2]) := upd_same
          generalize (upd H28 e2 (.lst [V.ref o1, V.ref o2])) = H29 at s29 g29 ⊢
          have s2729 := s28.trans s29
          have s2429 := s2427.trans s2729
          have cpr : ∀ {o d : Addr} {l : List Int}, H29 o = some (.lst (l.map V.int)) → H29 d = some (.lst (l.map V.int)) → o ≠ d → CpR H29 2 (.ref o) (.ref d) := fun {o d l} h1 h2 n => .lst h1 h2 n rfl fun j x y ex ey => by
            rw [ex] at ey
            cases ey
            obtain ⟨z, _, rfl⟩ := getElem_int ex
            exact .same (.int z)
          refine ⟨pr2, e2, _, _, true, rfl, rfl, SqL.of (s2729 _ _ g27), SqL.of g29, leq_two ((cpr (s2429 _ _ (s24 _ _ t1'.1)) (s2729 _ _ d1') ne1).eqD2) ((cpr (s2429 _ _ (s24 _ _ t2'.1)) (s2729 _ _ d2') ne2).eqD2), _, rfl, iteF ?_⟩
          exact ⟨_, _, _, _, _, _, _, _, rfl, s24.trans s2429⟩
        · rintro σ H24 ⟨u6, u7, u8, u9, u10, u11, u12, u13, rfl, s24⟩
          refine ⟨_, _, _, _, _, _, _, _, _, rfl, ?_, (pool_same P23 s24).mono (by omega)⟩
          exact kb617.trans (kb18.trans ((s19.trans (s20.trans (s2023.trans s24))).but g))
    · rintro σ H7 ⟨v5, v6, v7, v8, v9, v10, v11, v12, v13, rfl, kb7, P7⟩
      have S7 := S6.keep ngg kb7
      replace P7 : PoolAt H7 g (5000 + 6) := P7
      have s07 : Same H H7 := s06.kb kb7 hg0
      refine ⟨_, rfl, _, rfl, _, _, rfl, rfl, ⟨by decide, by decide, by decide⟩, g, _, _, rfl, P7, by decide, (by show (0 : Int) < 10 ^ 29; decide), (by show (10 : Int) ^ 29 ≤ _; decide), fun r3 H8 c0 c1 P8 kb8 => ⟨_, _, rfl, rfl, (show 3 ≤ sizeLine by decide), fun ml nml => ?_⟩⟩
      have s9 : Same H8 (upd H8 ml (.lst [V.int 0, V.int (-1), V.int (0 - r3)])) := Same.upd_new nml
      have g9 : (upd H8 ml (.lst [V.int 0, V.int (-1), V.int (0 - r3)])) ml = some (.lst (([0, -1, 0 - r3] : List Int).map V.int)) := upd_same
      generalize (upd H8 ml (.lst [V.int 0, V.int (-1), V.int (0 - r3)])) = H9 at s9 g9 ⊢
      have S9 := S7.keep ngg (kb8.trans (s9.but g))
      refine ⟨ml, rfl, ⟨_, SqL.of g9⟩, for_list (K := K) (a := ml) (xs := ([0, -1, 0 - r3] : List Int).map V.int) (fun j σ H10 => ∃ v5 v6 v7 v8 v9 v10 v11 v12 v13 : Option V, σ = [some (.ref a), some (.int ((0 : Int) + (i : Int))), some (.ref g), some bad, some (.ref ga), v5, v6, v7, v8, v9, v10, v11, v12, v13] ∧ Same H9 H10)
        ⟨_, _, _, _, _, _, _, _, _, rfl, Same.refl _⟩ (fun j σ H10 _ ⟨_, _, _, _, _, _, _, _, _, _, s⟩ => SqL.of (s _ _ g9)) ?_ ?_⟩
      · rintro j x σ H10 hj ⟨u5, u6, u7, u8, u9, u10, u11, u12, u13, rfl, s10⟩
        obtain ⟨mz, hz, rfl⟩ := getElem_int hj
        have mz1 : mz < 1 := by
          have := List.mem_of_getElem? hz
          simp only [List.mem_cons, List.not_mem_nil, or_false] at this
          omega
        have g10 := s10 _ _ S9.good
        refine ⟨_, rfl, ga, _, rfl, .inl (SqL.of g10), fun hd nhd => ?_⟩
        have s11 : Same H10 (upd H10 hd (.lst (gp.map V.int))) := Same.upd_new nhd
        have g11 : (upd H10 hd (.lst (gp.map V.int))) hd = some (.lst (gp.map V.int)) := upd_same
        generalize (upd H10 hd (.lst (gp.map V.int))) = H11 at s11 g11 ⊢
        refine ⟨_, rfl, _, rfl, 5, mz, 2, V.ref hd, V.non, rfl, by decide, by decide, .inr ⟨hd, gp, rfl, ⟨g11, tg, by omega⟩, .inr (.inr ⟨rfl, mz1, rfl⟩)⟩, fun H12 s12 => ⟨rfl, _, rfl, iteNS rfl ?_⟩⟩
        refine ⟨_, rfl, _, rfl, hd, ga, _, _, _, rfl, rfl, SqL.of (s12 _ _ g11), SqL.of (s12 _ _ (s11 _ _ g10)), leq_ints K H12 2 gp gp, ?_⟩
        rw [decide_eq_true rfl]
        refine ⟨_, rfl, iteF ?_⟩
        exact ⟨_, _, _, _, _, _, _, _, _, rfl, s10.trans (s11.trans s12)⟩
      · rintro σ H10 ⟨u5, u6, u7, u8, u9, u10, u11, u12, u13, rfl, s10⟩
        exact ⟨_, _, _, _, _, _, _, _, _, _, _, _, _, rfl, (s07.kb kb8 hg0).trans (s9.trans s10)⟩
end
end My
namespace My
open PySem L2 Mth
theorem all_mk {l : PySem.W.OpenLaw} {w : World} {K : PySem.W.Frag} {h : Heap} {mg : Str → Option Value} {fa f0 f1 f2 f3 f4 f5 f6 f7 f8 f9 f10 f11 f12 f13 f14 f15 f16 f17 f18 f19 f20 f21 f22 f23 : Addr} {q_TurnError q_NoTurn q_NoFit q_NoRounds q_NoNumber q_NoRoot q_TooMany q_NoKind q_NoText q_NoName q_NoRow : Addr} {tk0 tk1 : Tok} (X : K.In h) (G : h.Ns mainGlobals mg) (hfa : mg "law" = some (.ref fa))
    (u0 : Fu K "is_whole" s_is_whole f0)
    (u1 : Fu K "must_be_from_one" s_must_be_from_one f1)
    (u2 : Fu K "must_be_few" s_must_be_few f2)
    (u3 : Fu K "is_turn" s_is_turn f3)
    (u4 : Fu K "must_be_turn" s_must_be_turn f4)
    (u5 : Fu K "must_fit" s_must_fit f5)
    (u6 : Fu K "put_behind" s_put_behind f6)
    (u7 : Fu K "rounds_of" s_rounds_of f7)
    (u8 : Fu K "how_many_roots" s_how_many_roots f8)
    (u9 : Fu K "all_roots" s_all_roots f9)
    (u10 : Fu K "go_past" s_go_past f10)
    (u11 : Fu K "how_many_past" s_how_many_past f11)
    (u12 : Fu K "all_past" s_all_past f12)
    (u13 : Fu K "named_anew" s_named_anew f13)
    (u14 : Fu K "root_families" s_root_families f14)
    (u15 : Fu K "powers_of_one" s_powers_of_one f15)
    (u16 : Fu K "_law_pool" s_law_pool f16)
    (u17 : Fu K "_law_draw" s_law_draw f17)
    (u18 : Fu K "_law_turn" s_law_turn f18)
    (u19 : Fu K "_law_which" s_law_which f19)
    (u20 : Fu K "_law_refused" s_law_refused f20)
    (u21 : Fu K "_law_bad" s_law_bad f21)
    (u22 : Fu K "_law_copy" s_law_copy f22)
    (u23 : Fu K "law" s_law f23)
    (m0 : PySem.W.nsIn K mainGlobals "MOST_THINGS_turns" = some (some (.int 40 tk0)))
    (m1 : PySem.W.nsIn K mainGlobals "MOST_TOLD" = some (some (.int 2000 tk1)))
    (zz : Fre K ["len", "isinstance", "int", "bool", "list", "range", "sum", "min", "max", "enumerate", "zip", "sorted", "tuple", "str", "repr", "all", "any", "set", "dict", "ValueError"])
    (uT : PySem.W.nsIn K mainGlobals "TurnError" = some (some (.ref q_TurnError)))
    (uTb : PySem.W.mroIn K q_TurnError (.type "BaseException") = some true)
    (uTc : PySem.W.isClsIn K q_TurnError = true)
    (uTt : PySem.W.typeIn K (.ref q_TurnError) = some (.type "type"))
    (uG : PySem.W.specialIn K (.builtin "object.__class__") "__get__" = some (some (.builtin "getset_descriptor.__get__")))
    (uK : PySem.W.takesIn K (.builtin "object.__class__") = some true)
    (uC : ClFs K q_TurnError [(("NoTurn" : Str), q_NoTurn), (("NoFit" : Str), q_NoFit), (("NoRounds" : Str), q_NoRounds), (("NoNumber" : Str), q_NoNumber), (("NoRoot" : Str), q_NoRoot), (("TooMany" : Str), q_TooMany), (("NoKind" : Str), q_NoKind), (("NoText" : Str), q_NoText), (("NoName" : Str), q_NoName), (("NoRow" : Str), q_NoRow)])
    (uP : PrsI K [(("NoTurn" : Str), q_NoTurn), (("NoFit" : Str), q_NoFit), (("NoRounds" : Str), q_NoRounds), (("NoNumber" : Str), q_NoNumber), (("NoRoot" : Str), q_NoRoot), (("TooMany" : Str), q_TooMany), (("NoKind" : Str), q_NoKind), (("NoText" : Str), q_NoText), (("NoName" : Str), q_NoName), (("NoRow" : Str), q_NoRow)] 0 [(("NoTurn" : Str), q_NoTurn), (("NoFit" : Str), q_NoFit), (("NoRounds" : Str), q_NoRounds), (("NoNumber" : Str), q_NoNumber), (("NoRoot" : Str), q_NoRoot), (("TooMany" : Str), q_TooMany), (("NoKind" : Str), q_NoKind), (("NoText" : Str), q_NoText), (("NoName" : Str), q_NoName), (("NoRow" : Str), q_NoRow)])
    : ∃ fd : FuncData, (∀ (s : Shared) (v : Value), BindsTo s fd ⟨[v], []⟩ [("script", v)]) ∧ ∀ base : Heap, K.In base → base.Ns mainGlobals mg → FnOk l.prog w K mg base CX0 8 fa fd ["script"] (spLaw K) := by
  obtain ⟨d0, a0, F0⟩ := u0
  obtain ⟨d1, a1, F1⟩ := u1
  obtain ⟨d2, a2, F2⟩ := u2
  obtain ⟨d3, a3, F3⟩ := u3
  obtain ⟨d4, a4, F4⟩ := u4
  obtain ⟨d5, a5, F5⟩ := u5
  obtain ⟨d6, a6, F6⟩ := u6
  obtain ⟨d7, a7, F7⟩ := u7
  obtain ⟨d8, a8, F8⟩ := u8
  obtain ⟨d9, a9, F9⟩ := u9
  obtain ⟨d10, a10, F10⟩ := u10
  obtain ⟨d11, a11, F11⟩ := u11
  obtain ⟨d12, a12, F12⟩ := u12
  obtain ⟨d13, a13, F13⟩ := u13
  obtain ⟨d14, a14, F14⟩ := u14
  obtain ⟨d15, a15, F15⟩ := u15
  obtain ⟨d16, a16, F16⟩ := u16
  obtain ⟨d17, a17, F17⟩ := u17
  obtain ⟨d18, a18, F18⟩ := u18
  obtain ⟨d19, a19, F19⟩ := u19
  obtain ⟨d20, a20, F20⟩ := u20
  obtain ⟨d21, a21, F21⟩ := u21
  obtain ⟨d22, a22, F22⟩ := u22
  obtain ⟨d23, a23, F23⟩ := u23
  have e := hfa.symm.trans (PySem.W.mg_of X G a23)
  cases e
  obtain ⟨z0, z1, z2, z3, z4, z5, z6, z7, z8, z9, z10, z11, z12, z13, z14, z15, z16, z17, z18, z19, _⟩ := zz
  have zn {y : Str} (z : PySem.W.nsIn K mainGlobals y = some none) := PySem.W.mg_none_of X G z
  have B : Bl mg := ⟨zn z0, zn z1, zn z2, zn z3, zn z4, zn z5, zn z6, zn z7, zn z8, zn z9, zn z10, zn z11, zn z12, zn z13, zn z14, zn z15, zn z16, zn z17, zn z18, zn z19⟩
  have mt : ∃ t, mg "MOST_THINGS_turns" = some (.int 40 t) := ⟨_, PySem.W.mg_of X G m0⟩
  have g_MOST_TOLD : ∃ t, mg "MOST_TOLD" = some (.int 2000 t) := ⟨_, PySem.W.mg_of X G m1⟩
  have ER : ErrAll K mg q_TurnError [(("NoTurn" : Str), q_NoTurn), (("NoFit" : Str), q_NoFit), (("NoRounds" : Str), q_NoRounds), (("NoNumber" : Str), q_NoNumber), (("NoRoot" : Str), q_NoRoot), (("TooMany" : Str), q_TooMany), (("NoKind" : Str), q_NoKind), (("NoText" : Str), q_NoText), (("NoName" : Str), q_NoName), (("NoRow" : Str), q_NoRow)] := errAll_mk X G uT uTb uTc uTt uG uK uC uP (show (["NoTurn", "NoFit", "NoRounds", "NoNumber", "NoRoot", "TooMany", "NoKind", "NoText", "NoName", "NoRow"] : List Str).Nodup by decide +kernel)
  have ES : ∀ p ∈ [(("NoTurn" : Str), q_NoTurn), (("NoFit" : Str), q_NoFit), (("NoRounds" : Str), q_NoRounds), (("NoNumber" : Str), q_NoNumber), (("NoRoot" : Str), q_NoRoot), (("TooMany" : Str), q_TooMany), (("NoKind" : Str), q_NoKind), (("NoText" : Str), q_NoText), (("NoName" : Str), q_NoName), (("NoRow" : Str), q_NoRow)], ErrS K p.2 := fun p hp => ⟨(uC.get p hp).s, (uC.get p hp).b⟩
  have e_NoTurn : Err K mg "NoTurn" q_NoTurn := ER.err ("NoTurn", q_NoTurn) (by simp)
  have e_NoFit : Err K mg "NoFit" q_NoFit := ER.err ("NoFit", q_NoFit) (by simp)
  have e_NoRounds : Err K mg "NoRounds" q_NoRounds := ER.err ("NoRounds", q_NoRounds) (by simp)
  have e_NoNumber : Err K mg "NoNumber" q_NoNumber := ER.err ("NoNumber", q_NoNumber) (by simp)
  have e_NoRoot : Err K mg "NoRoot" q_NoRoot := ER.err ("NoRoot", q_NoRoot) (by simp)
  have e_TooMany : Err K mg "TooMany" q_TooMany := ER.err ("TooMany", q_TooMany) (by simp)
  have e_NoKind : Err K mg "NoKind" q_NoKind := ER.err ("NoKind", q_NoKind) (by simp)
  have e_NoText : Err K mg "NoText" q_NoText := ER.err ("NoText", q_NoText) (by simp)
  have e_NoName : Err K mg "NoName" q_NoName := ER.err ("NoName", q_NoName) (by simp)
  have e_NoRow : Err K mg "NoRow" q_NoRow := ER.err ("NoRow", q_NoRow) (by simp)
  have b0 := F0.binds (ps := ["thing"]) fun _ _ _ _ _ _ us hl => match us, hl with | [_], _ => rfl
  have b1 := F1.binds (ps := ["number"]) fun _ _ _ _ _ _ us hl => match us, hl with | [_], _ => rfl
  have b2 := F2.binds (ps := ["many"]) fun _ _ _ _ _ _ us hl => match us, hl with | [_], _ => rfl
  have b3 := F3.binds (ps := ["thing"]) fun _ _ _ _ _ _ us hl => match us, hl with | [_], _ => rfl
  have b4 := F4.binds (ps := ["thing"]) fun _ _ _ _ _ _ us hl => match us, hl with | [_], _ => rfl
  have b5 := F5.binds (ps := ["p", "q"]) fun _ _ _ _ _ _ us hl => match us, hl with | [_, _], _ => rfl
  have b6 := F6.binds (ps := ["p", "q"]) fun _ _ _ _ _ _ us hl => match us, hl with | [_, _], _ => rfl
  have b7 := F7.binds (ps := ["p"]) fun _ _ _ _ _ _ us hl => match us, hl with | [_], _ => rfl
  have b8 := F8.binds (ps := ["p", "m"]) fun _ _ _ _ _ _ us hl => match us, hl with | [_, _], _ => rfl
  have b9 := F9.binds (ps := ["p", "m"]) fun _ _ _ _ _ _ us hl => match us, hl with | [_, _], _ => rfl
  have b10 := F10.binds (ps := ["p", "q"]) fun _ _ _ _ _ _ us hl => match us, hl with | [_, _], _ => rfl
  have b11 := F11.binds (ps := ["p"]) fun _ _ _ _ _ _ us hl => match us, hl with | [_], _ => rfl
  have b12 := F12.binds (ps := ["p"]) fun _ _ _ _ _ _ us hl => match us, hl with | [_], _ => rfl
  have b13 := F13.binds (ps := ["p", "q"]) fun _ _ _ _ _ _ us hl => match us, hl with | [_, _], _ => rfl
  have b14 := F14.binds (ps := ["p", "m"]) fun _ _ _ _ _ _ us hl => match us, hl with | [_, _], _ => rfl
  have b15 := F15.binds (ps := ["p", "q"]) fun _ _ _ _ _ _ us hl => match us, hl with | [_, _], _ => rfl
  have b16 := F16.binds (ps := ["script", "k"]) fun _ _ _ _ _ _ us hl => match us, hl with | [_, _], _ => rfl
  have b17 := F17.binds (ps := ["pool", "many"]) fun _ _ _ _ _ _ us hl => match us, hl with | [_, _], _ => rfl
  have b18 := F18.binds (ps := ["pool", "many"]) fun _ _ _ _ _ _ us hl => match us, hl with | [_, _], _ => rfl
  have b19 := F19.binds (ps := ["caught"]) fun _ _ _ _ _ _ us hl => match us, hl with | [_], _ => rfl
  have b20 := F20.binds (ps := ["way", "p", "q", "m"]) fun _ _ _ _ _ _ us hl => match us, hl with | [_, _, _, _], _ => rfl
  have b21 := F21.binds (ps := ["pool"]) fun _ _ _ _ _ _ us hl => match us, hl with | [_], _ => rfl
  have b22 := F22.binds (ps := ["thing"]) fun _ _ _ _ _ _ us hl => match us, hl with | [_], _ => rfl
  obtain ⟨oc, od, kV, dc, pm, an, cd, ct, sl, rfl, lk, hcd⟩ := id F23.ex
  refine ⟨PySem.W.fnOf "law" "law" (defArgs s_law) (defBody s_law) (defScope s_law) .none kV dc pm an cd ct, fun s v => .of_eq rfl, fun base _ _ => ?_⟩
  have c_is_whole : Cal l.prog w K mg base "is_whole" 1 ["thing"] (spWhole K) := cal_mk X G a0 F0 b0 (ok_whole F0 B)
  have cx_must_be_from_one : CalX l.prog w K mg base "must_be_from_one" 2 ["number"] (spOneX q_NoNumber) := calx_mk X G a1 F1 b1 (okx_must_be_from_one F1 c_is_whole e_NoNumber)
  have cx_must_be_few : CalX l.prog w K mg base "must_be_few" 1 ["many"] (spFewX q_TooMany) := calx_mk X G a2 F2 b2 (okx_must_be_few F2 g_MOST_TOLD e_TooMany)
  have c_is_turn : Cal l.prog w K mg base "is_turn" 2 ["thing"] (orSp spIsTurn (spTurnX K)) := cal_mk X G a3 F3 b3 (fn_or (ok_isTurn F3 B mt c_is_whole) (ok_is_turn F3 B mt c_is_whole))
  have cx_must_be_turn : CalX l.prog w K mg base "must_be_turn" 3 ["thing"] (fun vs H Q E => spMust vs H Q E ∨ (spMustX K q_NoTurn) vs H Q E) := calx_mk X G a4 F4 b4 (FnOk.or (FnOk.lift (ok_must F4 (cal_l c_is_turn))) (okx_must_be_turn F4 c_is_turn e_NoTurn))
  have c_must_be_turn : Cal l.prog w K mg base "must_be_turn" 3 ["thing"] spMust := cal_mk X G a4 F4 b4 (ok_must F4 (cal_l c_is_turn))
  have cx_must_fit : CalX l.prog w K mg base "must_fit" 1 ["p", "q"] (spFitX q_NoFit) := calx_mk X G a5 F5 b5 (okx_must_fit F5 B e_NoFit)
  have cx_put_behind : CalX l.prog w K mg base "put_behind" 4 ["p", "q"] (spTwoX K q_NoTurn q_NoFit) := calx_mk X G a6 F6 b6 (okx_put_behind F6 cx_must_be_turn cx_must_fit)
  have cx_rounds_of : CalX l.prog w K mg base "rounds_of" 4 ["p"] (spMustX K q_NoTurn) := calx_mk X G a7 F7 b7 (okx_rounds_of F7 cx_must_be_turn)
  have cx_how_many_roots : CalX l.prog w K mg base "how_many_roots" 4 ["p", "m"] (spOneNX K q_NoTurn q_NoNumber) := calx_mk X G a8 F8 b8 (okx_how_many_roots F8 cx_must_be_turn cx_must_be_from_one)
  have cx_all_roots : CalX l.prog w K mg base "all_roots" 5 ["p", "m"] (spOneNX K q_NoTurn q_NoNumber) := calx_mk X G a9 F9 b9 (okx_all_roots F9 cx_how_many_roots)
  have cx_go_past : CalX l.prog w K mg base "go_past" 5 ["p", "q"] (spTwoX K q_NoTurn q_NoFit) := calx_mk X G a10 F10 b10 (okx_go_past F10 cx_put_behind)
  have cx_how_many_past : CalX l.prog w K mg base "how_many_past" 4 ["p"] (spMustX K q_NoTurn) := calx_mk X G a11 F11 b11 (okx_how_many_past F11 cx_must_be_turn)
  have cx_all_past : CalX l.prog w K mg base "all_past" 5 ["p"] (spMustX K q_NoTurn) := calx_mk X G a12 F12 b12 (okx_all_past F12 cx_must_be_few cx_how_many_past)
  have cx_named_anew : CalX l.prog w K mg base "named_anew" 4 ["p", "q"] (spTwoX K q_NoTurn q_NoFit) := calx_mk X G a13 F13 b13 (okx_named_anew F13 cx_must_be_turn cx_must_fit)
  have cx_root_families : CalX l.prog w K mg base "root_families" 6 ["p", "m"] (spOneNX K q_NoTurn q_NoNumber) := calx_mk X G a14 F14 b14 (okx_root_families F14 cx_all_roots)
  have cx_powers_of_one : CalX l.prog w K mg base "powers_of_one" 6 ["p", "q"] (spTwoX K q_NoTurn q_NoFit) := calx_mk X G a15 F15 b15 (okx_powers_of_one F15 cx_go_past)
  have c_law_pool : Cal l.prog w K mg base "_law_pool" 1 ["script", "k"] (spPool K) := cal_mk X G a16 F16 b16 (ok_pool F16 B)
  have c_law_draw : Cal l.prog w K mg base "_law_draw" 1 ["pool", "many"] spTake := cal_mk X G a17 F17 b17 (ok_take F17)
  have c_law_turn : Cal l.prog w K mg base "_law_turn" 2 ["pool", "many"] spTurn := cal_mk X G a18 F18 b18 (ok_turn F18 B c_law_draw)
  have c_law_which : Cal l.prog w K mg base "_law_which" 1 ["caught"] (spWhich q_NoTurn q_NoFit q_NoNumber) := cal_mk X G a19 F19 b19 (ok_law_which F19 B ER)
  have c_law_refused : Cal l.prog w K mg base "_law_refused" 7 ["way", "p", "q", "m"] (spRefused K) := cal_mk X G a20 F20 b20 (ok_law_refused F20 cx_go_past cx_named_anew cx_powers_of_one cx_how_many_past cx_all_past cx_root_families c_law_which ER)
  have c_law_bad : Cal l.prog w K mg base "_law_bad" 3 ["pool"] (spBad K) := cal_mk X G a21 F21 b21 (ok_law_bad F21 B c_law_turn c_law_draw)
  have c_law_copy : Cal l.prog w K mg base "_law_copy" 3 ["thing"] (spCopy 2) := cal_mk X G a22 F22 b22 (okr_law_copy F22 B (cal_mk X G a22 F22 b22 (okr_law_copy F22 B (cal_mk X G a22 F22 b22 (ok_law_copy F22 B)))))
  exact ok_law F23 B c_law_pool c_law_bad c_law_turn c_law_draw c_law_copy c_law_refused
theorem walk {l : PySem.W.OpenLaw} {q : Program} {loose : List Str} {XP : (Str → Option Value) → Heap → Prop} {YP : World → Heap → Prop} {d : DefRec} {K : Params → PySem.W.Frag} (hn : l.most = some 63) (hdf : d.params.defaults = [])
    (hY : ∀ (w : World) (h : Heap), YP w h → (K w.params).In h)
    (F : ∀ (w : World) (mg : Str → Option Value) (fa : Addr) (h : Heap), (K w.params).In h → h.Ns mainGlobals mg → mg d.name = some (.ref fa) →
      ∃ fd : FuncData, (∀ (s : Shared) (u : Value), BindsTo s fd ⟨[u], []⟩ [("script", u)]) ∧ ∀ base : Heap, (K w.params).In base → base.Ns mainGlobals mg → FnOk l.prog w (K w.params) mg base CX0 8 fa fd ["script"] (spLaw (K w.params))) :
    PySem.W.WalkO q loose XP YP l.row.toRowW d [] (fun f vs => PySem.call f vs) :=
  L2.walk_of (n := 63) (k := 8) (x := "script") (CX := fun _ => CX0) (sp := fun w => spLaw (K w.params)) hn (by decide) hdf ⟨rfl, by decide, by decide, rfl⟩ hY F (fun _ _ a ns hl _ hS => ⟨a, ns, rfl, hS, hl, fun _ => rfl⟩) fun _ _ _ _ _ z => z
end My
abbrev PySem.W.Fast.tw90343872475197607 : Type := PySem.Params
theorem PySem.W.Fast.te90343872475197607 : PySem.Params = PySem.W.Fast.tw90343872475197607 := rfl
open PySem PySem.W PyProof.Rows L2
set_option maxRecDepth 100000 in
set_option maxHeartbeats 0 in
theorem PySem.Challenge.cw_turnroots_k32_refused_of_past_holds : PySem.Challenge.rw_turnroots_k32_refused_of_past.Holds := by
  w_on; o_law; k_head; (case hw => w_witness2)
  k_fill
  refine My.walk (l := PySem.Challenge.rw_turnroots_k32_refused_of_past) rfl rfl (fun w h Y => PySem.W.kIn_of Y) ?F
  case F =>
    intro w mg fa h KX G hmg
    refine' My.all_mk KX G hmg ?_ ?_ ?_ ?_ ?_ ?_ ?_ ?_ ?_ ?_ ?_ ?_ ?_ ?_ ?_ ?_ ?_ ?_ ?_ ?_ ?_ ?_ ?_ ?_ ?_ ?_ ?_ ?_ ?_ ?_ ?_ ?_ ?_ ?_ ?_
    all_goals first
      | k_is
      | (refine' fu_mk ?a ?l ?c ?k; (case a => k_is); (case l => k_is); (case c => k_is); (case k => k_is))
      | ((repeat (refine' And.intro (ClF.mk ?n ?e ?g ?h ?c ?b ?o ?i ?t ?u ?v ?s) ?_; (case n => k_is); (case e => k_exc); (case g => k_is); (case h => k_is); (case c => k_is); (case b => k_is); (case o => k_is); (case i => k_is); (case t => k_is); (case u => k_is); (case v => k_is); (case s => k_is))); exact trivial)
      | ((repeat (refine' And.intro ?n ?_; (case n => k_is))); exact trivial)
      | ((repeat (refine' And.intro ?zp ?_; (case zp => ((repeat (refine' And.intro ?n ?_; (case n => k_is))); exact trivial)))); exact trivial)
      | skip
#print axioms PySem.Challenge.cw_turnroots_k32_refused_of_past_holds