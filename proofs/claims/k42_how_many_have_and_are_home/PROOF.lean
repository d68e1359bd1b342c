import PyProof.Rows.All
import Wide.All
import OpenK.AllK
import Wide.FinOn
import Lean
import PyProof.EqAt
import PyProof.EqKinds
import PyProof.TupleCall
import PyProof.NeKinds
import PyProof.EnumMake
import PyProof.Rows.SeqMore2
import PyProof.ZipIter
import PyProof.Rows.SortRev
import PyProof.Rows.SortWalk
import PyProof.Rows.CallKwBuiltin
import PyProof.DictIter
import PyProof.DictWalks
import PyProof.MeetsDict
import PyProof.Conv_int_bool
import PyProof.EqAt
import PyProof.CollectWalk
import PyProof.Rows.SortShell
import PyProof.Rows.Range3
import PyProof.CallFns
import PyProof.StrBlockH
import PySem.Challenge.RW_turnroots_k42_how_many_have_and_are_home
set_option Elab.async false
set_option linter.all false
set_option maxRecDepth 100000
set_option maxHeartbeats 8000000
set_option Elab.async false
set_option linter.all false
set_option maxRecDepth 100000
namespace L2
open PySem PySem.Spec PyProof.Rows
abbrev Key := Sum Int Str
def keyIs : Key → Value → Bool
  | .inl k, v => Value.isInt k v
  | .inr x, v => Value.isStrOf x v
def keyH (w : World) : Key → Int
  | .inl k => hashInt k
  | .inr x => hashStr w x
theorem keyIs_shape : ∀ {k : Key} {v : Value}, keyIs k v = true → (∃ i t, k = Sum.inl i ∧ v = Value.int i t) ∨ (∃ x t, k = Sum.inr x ∧ v = Value.str x t)
  | .inl i, v, h => by
    obtain ⟨t, e⟩ := Value.isInt_shape (k := i) (v := v) h
    exact .inl ⟨i, t, rfl, e⟩
  | .inr x, v, h => by
    obtain ⟨t, e⟩ := Value.isStrOf_shape (x := x) (v := v) h
    exact .inr ⟨x, t, rfl, e⟩
theorem keyIs_int (i : Int) (t : Tok) : keyIs (.inl i) (.int i t) = true := by simp [keyIs, Value.isInt]
theorem keyIs_str (x : Str) (t : Tok) : keyIs (.inr x) (.str x t) = true := by simp [keyIs, Value.isStrOf]
theorem key_ll (a b : Int) : decide ((Sum.inl a : Key) = Sum.inl b) = (a == b) := by
  by_cases e : a = b
  · subst e; simp
  · have h : ¬ (Sum.inl a : Key) = Sum.inl b := fun q => e (Sum.inl.inj q)
    rw [decide_eq_false h]
    exact (beq_eq_false_iff_ne.mpr e).symm
theorem key_rr (a b : Str) : decide ((Sum.inr a : Key) = Sum.inr b) = decide (a = b) := by
  by_cases e : a = b
  · subst e; simp
  · have h : ¬ (Sum.inr a : Key) = Sum.inr b := fun q => e (Sum.inr.inj q)
    rw [decide_eq_false h, decide_eq_false e]
theorem key_lr (a : Int) (b : Str) : decide ((Sum.inl a : Key) = Sum.inr b) = false := decide_eq_false (fun q => nomatch q)
theorem key_rl (a : Str) (b : Int) : decide ((Sum.inr a : Key) = Sum.inl b) = false := decide_eq_false (fun q => nomatch q)
def mixKind (prog : Program) (w : World) : PySem.KeyKind prog w Key where
  is := keyIs
  hash := keyH w
  inj := fun v a b ha hb => by
    rcases keyIs_shape ha with ⟨i, t, rfl, rfl⟩ | ⟨x, t, rfl, rfl⟩
    · rcases keyIs_shape hb with ⟨j, u, rfl, e⟩ | ⟨y, u, rfl, e⟩
      · injection e with e1 _; rw [e1]
      · exact nomatch e
    · rcases keyIs_shape hb with ⟨j, u, rfl, e⟩ | ⟨y, u, rfl, e⟩
      · exact nomatch e
      · injection e with e1 _; rw [e1]
  byValue := fun k v h => by
    rcases keyIs_shape h with ⟨i, t, rfl, rfl⟩ | ⟨x, t, rfl, rfl⟩ <;> rfl
  pyHash := fun hv h => by
    rcases keyIs_shape hv with ⟨i, t, rfl, rfl⟩ | ⟨x, t, rfl, rfl⟩
    · exact wpAny_pyHash_int h
    · exact wpAny_pyHash_str h
  eqBool := fun hu hv h => by
    rcases keyIs_shape hu with ⟨i, t, rfl, rfl⟩ | ⟨x, t, rfl, rfl⟩
    · rcases keyIs_shape hv with ⟨j, u, rfl, rfl⟩ | ⟨y, u, rfl, rfl⟩
      · rw [key_ll] at h; exact wpAny_eqBool_int h
      · rw [key_lr] at h; exact SeqAt.EqAt.int_str i t y u _ _ _ _ h
    · rcases keyIs_shape hv with ⟨j, u, rfl, rfl⟩ | ⟨y, u, rfl, rfl⟩
      · rw [key_rl] at h; exact SeqAt.EqAt.str_int x t j u _ _ _ _ h
      · rw [key_rr] at h; exact wpAny_eqBool_str h
  «strs» := fun k x t v h => by
    rcases keyIs_shape h with ⟨i, u, rfl, e⟩ | ⟨y, u, rfl, e⟩
    · exact nomatch e
    · injection e with e1 _
      subst e1
      cases v <;> rfl
theorem mixKind_int (prog : Program) (w : World) (i : Int) (t : Tok) : (mixKind prog w).is (.inl i) (.int i t) = true := keyIs_int i t
theorem mixKind_str (prog : Program) (w : World) (x : Str) (t : Tok) : (mixKind prog w).is (.inr x) (.str x t) = true := keyIs_str x t
end L2
namespace L2
open PySem PySem.Spec PyProof.Rows
inductive V where
  | non | bl (b : Bool) | int (i : Int) | str (x : Str) | byt (b : Array UInt8) | flt (b : UInt64) | ref (a : Addr) | ty (n : String)
  deriving DecidableEq
def RelV : V → Value → Prop
  | .non, u => u = Value.none
  | .bl b, u => u = Value.bool b
  | .int i, u => ∃ t, u = Value.int i t
  | .str x, u => ∃ t, u = Value.str x t
  | .byt b, u => ∃ t, u = Value.bytes b t
  | .flt b, u => ∃ t, u = Value.float b t
  | .ref a, u => u = Value.ref a
  | .ty n, u => u = Value.type n
abbrev Vals : List V → List Value → Prop := Paired RelV
theorem Vals.length {xs : List V} {us : List Value} (r : Vals xs us) : xs.length = us.length := Paired.length r
theorem Vals.get : ∀ {xs : List V} {us : List Value} {i : Nat} {x : V}, Vals xs us → xs[i]? = some x → ∃ u, us[i]? = some u ∧ RelV x u
  | _, _, _, _, .nil, e => by simp at e
  | _, _, 0, _, .cons r _, e => by simp at e; subst e; exact ⟨_, rfl, r⟩
  | _, _, i + 1, x, .cons _ t, e => by
    obtain ⟨u, h1, h2⟩ := Vals.get (i := i) (x := x) t (by simpa using e)
    exact ⟨u, by simpa using h1, h2⟩
theorem Vals.set {x : V} {u : Value} (r : RelV x u) : ∀ {xs : List V} {us : List Value} (i : Nat), Vals xs us → Vals (xs.set i x) (us.set i u)
  | _, _, _, .nil => .nil
  | _, _, 0, .cons _ t => .cons r t
  | _, _, i + 1, .cons q t => .cons q (Vals.set r i t)
theorem Vals.append : ∀ {xs ys : List V} {us ws : List Value}, Vals xs us → Vals ys ws → Vals (xs ++ ys) (us ++ ws)
  | _, _, _, _, .nil, s => s
  | _, _, _, _, .cons r t, s => .cons r (Vals.append t s)
theorem Vals.take : ∀ {xs : List V} {us : List Value} (n : Nat), Vals xs us → Vals (xs.take n) (us.take n)
  | _, _, 0, _ => .nil
  | _, _, _ + 1, .nil => .nil
  | _, _, n + 1, .cons r t => .cons r (Vals.take n t)
theorem Vals.drop : ∀ {xs : List V} {us : List Value} (n : Nat), Vals xs us → Vals (xs.drop n) (us.drop n)
  | _, _, 0, r => r
  | _, _, _ + 1, .nil => .nil
  | _, _, n + 1, .cons _ t => Vals.drop n t
def RelO : Option V → Option Value → Prop
  | some v, some u => RelV v u
  | none, none => True
  | _, _ => False
def KV {κ : Type} : List (κ × V) → List (κ × Value) → Prop := Paired fun (p : κ × V) (q : κ × Value) => p.1 = q.1 ∧ RelV p.2 q.2
def kV : Key → V
  | .inl i => .int i
  | .inr x => .str x
inductive HO where
  | lst (xs : List V)
  | tup (xs : List V)
  | dK (kvs : List (Key × V)) | dT (kvs : List (List Key × V))
  | set (S : Int → Bool) (n : Nat)
  | ins (C dx : Addr) (fs : List (Str × V))
  | own (x : Addr)
  | xd (fs : List (Str × V))
  | met (f x : Addr)
  | rng (lo hi : Int)
  | frz (o : Obj) (u : HO)
  | tbl (ps : Array Value)
  | ext (φ : Heap → Prop)
abbrev Hp := Addr → Option HO
def upd (H : Hp) (a : Addr) (o : HO) : Hp := fun b => if b = a then some o else H b
theorem upd_same {H : Hp} {a : Addr} {o : HO} : upd H a o a = some o := by unfold upd; rw [if_pos rfl]
theorem upd_ne {H : Hp} {a b : Addr} {o : HO} (h : b ≠ a) : upd H a o b = H b := by unfold upd; rw [if_neg h]
theorem ne_of {H : Hp} {a b : Addr} {o u : HO} (h : H a = some o) (h' : H b = some u) (d : o ≠ u) : a ≠ b := by
  intro e; subst e; rw [h] at h'; exact d (Option.some.inj h')
theorem ne_of_none {H : Hp} {a b : Addr} {o : HO} (h : H a = some o) (h' : H b = none) : a ≠ b := by
  intro e; subst e; rw [h] at h'; cases h'
section
variable (P : Program) (w : World)
def ObjOk (H : Hp) (h : Heap) (a : Addr) : HO → Prop
  | .lst xs => xs.length ≤ sizeLine ∧ ∃ (its : List Value) (n : Nat), Vals xs its ∧ h.get? a = some { cls := .type "list", data := .seq its.toArray n }
  | .tup xs => xs.length ≤ sizeLine ∧ ∃ its : List Value, Vals xs its ∧ IsTup h a its.toArray
  | .dK kvs => kvs.length ≤ sizeLine ∧ (a == sysModules) = false ∧ ∃ vs, KV kvs vs ∧ h.DictOf (mixKind P w) a vs
  | .dT kvs => kvs.length ≤ sizeLine ∧ (a == sysModules) = false ∧ ∃ xs : List (List Key × Addr × Value),
      Paired (fun (p : List Key × V) (q : List Key × Addr × Value) => p.1 = q.1 ∧ H q.2.1 = some (.tup (p.1.map kV)) ∧ RelV p.2 q.2.2) kvs xs ∧
      ∃ o es ep, h.get? a = some o ∧ o.ExactDict ∧ o.data = .dict es ep ∧ es.toList = xs.map (entryOfKey (tupleKind (mixKind P w))) ∧ (xs.map (·.1)).Nodup
  | .set S n => h.SetOf (intKind P w) a S n
  | .ins C dx fs => H dx = some (.own a) ∧ fs.length ≤ 1000 ∧ dx ≠ a ∧ h.get? a = some (PySem.W.instObj C dx) ∧
      ∃ mA, h.Ns1 dx mA ∧ (∀ f, RelO (fs.lookup f) (mA f)) ∧ PySem.Within mA (fs.map (·.1))
  | .own _ => ∃ o, h.get? a = some o
  | .xd fs => ∃ mA, h.Ns1 a mA ∧ ∀ f, RelO (fs.lookup f) (mA f)
  | .rng lo hi => ∃ t u v, h.get? a = some { cls := .type "range", data := .fields #[.int lo t, .int hi u, .int 1 v] }
  | .frz o u => h.get? a = some o ∧ ObjOk H h a u
  | .tbl ps => h.get? a = some { cls := .none, data := .fields ps }
  | .met f x => h.get? a = some (PySem.W.methodObj (.ref f) (.ref x))
  | .ext φ => φ h ∧ (∃ o, h.get? a = some o) ∧ ∀ h1 h2 : Heap, φ h1 → (∀ o, h1.get? a = some o → h2.get? a = some o) → φ h2
def HOk (H : Hp) (h : Heap) : Prop := ∀ a o, H a = some o → ObjOk P w H h a o
end
section
variable {P : Program} {w : World} {H H' : Hp} {h h' : Heap} {a : Addr} {o : HO}
theorem ObjOk.lt (x : ObjOk P w H h a o) : a < h.objs.size := by
  cases o with
  | lst xs => obtain ⟨_, _, _, _, e⟩ := x; exact Heap.lt_size e
  | tup xs => obtain ⟨_, _, _, p⟩ := x; exact p.lt
  | dK kvs => obtain ⟨_, _, _, _, o, _, _, e, _⟩ := x; exact Heap.lt_size e
  | dT kvs => obtain ⟨_, _, _, _, o, _, _, e, _⟩ := x; exact Heap.lt_size e
  | set S n => obtain ⟨o, _, _, _, e, _⟩ := x; exact Heap.lt_size e
  | ins C dx fs => obtain ⟨_, _, _, e, _⟩ := x; exact Heap.lt_size e
  | own y => obtain ⟨_, e⟩ := x; exact Heap.lt_size e
  | xd fs => obtain ⟨_, ⟨_, _, _, e, _⟩, _⟩ := x; exact Heap.lt_size e
  | rng lo hi => obtain ⟨_, _, _, e⟩ := x; exact Heap.lt_size e
  | frz ob u => obtain ⟨e, _⟩ := x; exact Heap.lt_size e
  | tbl ps => exact Heap.lt_size (show h.get? a = some _ from x)
  | met f y => exact Heap.lt_size (show h.get? a = some _ from x)
  | ext φ => obtain ⟨_, ⟨_, e⟩, _⟩ := x; exact Heap.lt_size e
theorem Paired.mapP {α β : Type} {F G : α → β → Prop} : ∀ {l₁ : List α} {l₂ : List β}, Paired F l₁ l₂ → (∀ a b, F a b → G a b) → Paired G l₁ l₂
  | _, _, .nil, _ => .nil
  | _, _, .cons r t, f => .cons (f _ _ r) (Paired.mapP t f)
theorem ObjOk.stay (x : ObjOk P w H h a o) (k : ∀ b u, (b = a ∨ H b = some (.own a)) → h.get? b = some u → h'.get? b = some u)
    (ho : ∀ b, H b = some (.own a) → H' b = some (.own a)) (ht : ∀ b xs, H b = some (.tup xs) → H' b = some (.tup xs)) : ObjOk P w H' h' a o := by
  induction o with
  | lst xs => obtain ⟨z, its, n, r, e⟩ := x; exact ⟨z, its, n, r, k _ _ (.inl rfl) e⟩
  | tup xs => obtain ⟨z, its, r, ob, e, c⟩ := x; exact ⟨z, its, r, ob, k _ _ (.inl rfl) e, c⟩
  | dK kvs => obtain ⟨z, y, vs, r, ob, es, ep, e, c⟩ := x; exact ⟨z, y, vs, r, ob, es, ep, k _ _ (.inl rfl) e, c⟩
  | dT kvs =>
    obtain ⟨z, y, xs, r, ob, es, ep, e, c⟩ := x
    exact ⟨z, y, xs, Paired.mapP r fun p q z => ⟨z.1, ht _ _ z.2.1, z.2.2⟩, ob, es, ep, k _ _ (.inl rfl) e, c⟩
  | set S n => obtain ⟨ob, es, ep, t, e, c⟩ := x; exact ⟨ob, es, ep, t, k _ _ (.inl rfl) e, c⟩
  | ins C dx fs =>
    obtain ⟨d, z, ne, e, mA, ⟨od, es, ep, e2, c⟩, r⟩ := x
    exact ⟨ho _ d, z, ne, k _ _ (.inl rfl) e, mA, ⟨od, es, ep, k _ _ (.inr d) e2, c⟩, r⟩
  | own y => obtain ⟨ob, e⟩ := x; exact ⟨ob, k _ _ (.inl rfl) e⟩
  | xd fs => obtain ⟨mA, ⟨od, es, ep, e, c⟩, r⟩ := x; exact ⟨mA, ⟨od, es, ep, k _ _ (.inl rfl) e, c⟩, r⟩
  | rng lo hi => obtain ⟨t, u, v, e⟩ := x; exact ⟨t, u, v, k _ _ (.inl rfl) e⟩
  | frz ob u ih => obtain ⟨e, q⟩ := x; exact ⟨k _ _ (.inl rfl) e, ih q⟩
  | tbl ps =>
    have e : h.get? a = some { cls := .none, data := .fields ps } := x
    show h'.get? a = some { cls := .none, data := .fields ps }
    exact k a _ (.inl rfl) e
  | met f y =>
    have e : h.get? a = some (PySem.W.methodObj (.ref f) (.ref y)) := x
    show h'.get? a = some (PySem.W.methodObj (.ref f) (.ref y))
    exact k a _ (.inl rfl) e
  | ext φ => obtain ⟨p, ⟨o, e⟩, st⟩ := x; exact ⟨st _ _ p fun o q => k _ _ (.inl rfl) q, ⟨o, k _ _ (.inl rfl) e⟩, st⟩
theorem HOk.lt (x : HOk P w H h) (e : H a = some o) : a < h.objs.size := (x a o e).lt
theorem HOk.fresh (x : HOk P w H h) (e : h.objs.size ≤ a) : H a = none := by
  cases q : H a with
  | none => rfl
  | some u => exact absurd (Nat.lt_of_lt_of_le (x.lt q) e) (Nat.lt_irrefl _)
theorem HOk.kept (x : HOk P w H h) (k : ∀ b u, h.get? b = some u → h'.get? b = some u) : HOk P w H h' := fun a o e =>
  (x a o e).stay (fun b u _ q => k b u q) (fun _ q => q) fun _ _ q => q
theorem HOk.laid (x : HOk P w H h) (k : ∀ b u, h.get? b = some u → h'.get? b = some u) (hp : h.objs.size ≤ a) (new : ObjOk P w (upd H a o) h' a o) : HOk P w (upd H a o) h' := fun b u e => by
  have hn := x.fresh hp
  by_cases hb : b = a
  · subst hb; rw [upd_same] at e; cases e; exact new
  · rw [upd_ne hb] at e
    exact (x b u e).stay (fun c v _ q => k c v q) (fun c q => by rw [upd_ne (ne_of_none q hn)]; exact q) fun c xs q => by rw [upd_ne (ne_of_none q hn)]; exact q
end
def Rd (H : Hp) (a : Addr) (u : HO) : Prop := H a = some u ∨ ∃ o, H a = some (.frz o u)
theorem Rd.ok {P : Program} {w : World} {H : Hp} {h : Heap} {a : Addr} {u : HO} (r : Rd H a u) (x : HOk P w H h) : ObjOk P w H h a u := by
  rcases r with r | ⟨o, r⟩
  · exact x a u r
  · obtain ⟨_, q⟩ := x a _ r
    exact q
def Mut : Option HO → Prop
  | some (.lst _) => True
  | some (.dK _) => True
  | some (.dT _) => True
  | some (.set _ _) => True
  | some (.ins _ _ _) => True
  | some (.ext _) => True
  | _ => False
section
variable {P : Program} {w : World} {H : Hp} {h h' : Heap} {x e : Addr} {o' : HO}
theorem HOk.write (ok : HOk P w H h) (mu : Mut (H x)) (he : e = x ∨ H e = some (.own x)) (k : ∀ b u, b ≠ e → h.get? b = some u → h'.get? b = some u) (heo : ∃ u, h'.get? e = some u)
    (new : ObjOk P w (upd H x o') h' x o') : HOk P w (upd H x o') h' := fun b u q => by
  have nown : ∀ c y, H c = some (.own y) → c ≠ x := fun c y r z => by subst z; rw [r] at mu; exact mu
  have ntup : ∀ c xs, H c = some (.tup xs) → c ≠ x := fun c xs r z => by subst z; rw [r] at mu; exact mu
  by_cases hb : b = x
  · subst hb; rw [upd_same] at q; cases q; exact new
  · rw [upd_ne hb] at q
    by_cases hbe : b = e
    · have q' : H b = some (.own x) := by
        rcases he with z | z
        · exact absurd (hbe.trans z) hb
        · rw [hbe]; exact z
      rw [q] at q'; cases q'
      obtain ⟨v, hv⟩ := heo
      exact ⟨v, by rw [hbe]; exact hv⟩
    · refine (ok b u q).stay (fun c v hc r => k c v ?_ r) (fun c r => by rw [upd_ne (nown c b r)]; exact r) fun c xs r => by rw [upd_ne (ntup c xs r)]; exact r
      rcases hc with rfl | hc
      · exact hbe
      · rintro rfl
        rcases he with z | z
        · exact nown c b hc z
        · rw [hc] at z; cases z; exact hb rfl
end
structure Un (fs ex : List Addr) (H H' : Hp) (h h' : Heap) : Prop where
  keep : ∀ b o, h.get? b = some o → H b = none → b ∉ fs → b ∉ ex → h'.get? b = some o
  slot : ∀ b o, h.get? b = some o → H b = none → b ∈ fs → b ∉ ex → ∃ sl, h'.get? b = some { o with slots := sl }
  free : ∀ b o, h.get? b = some o → H b = none → b ∉ ex → H' b = none
  there : ∀ b o, h.get? b = some o → b ∉ ex → ∃ o', h'.get? b = some o'
  tups : ∀ b xs, H b = some (.tup xs) → H' b = some (.tup xs)
  frzs : ∀ b o u, H b = some (.frz o u) → H' b = some (.frz o u)
  tbls : ∀ b ps, H b = some (.tbl ps) → ∃ more, H' b = some (.tbl (ps ++ more))
section
variable {fs fs' ex ex' : List Addr} {H H1 H2 : Hp} {h h1 h2 h' : Heap} {a x e : Addr} {o : HO}
theorem Un.any (u : Un fs ex H H1 h h1) {b : Addr} {ob : Obj} (q : h.get? b = some ob) (n : H b = none) (hx : b ∉ ex) : ∃ sl, h1.get? b = some { ob with slots := sl } := by
  by_cases hb : b ∈ fs
  · exact u.slot b ob q n hb hx
  · exact ⟨ob.slots, u.keep b ob q n hb hx⟩
theorem Un.kept (k : ∀ b u, h.get? b = some u → h'.get? b = some u) : Un fs ex H H h h' :=
  ⟨fun b ob q _ _ _ => k b ob q, fun b ob q _ _ _ => ⟨ob.slots, k b ob q⟩, fun _ _ _ n _ => n, fun b ob q _ => ⟨ob, k b ob q⟩, fun _ _ q => q, fun _ _ _ q => q, fun _ ps q => ⟨#[], by rw [q]; simp⟩⟩
theorem Un.refl : Un fs ex H H h h := Un.kept fun _ _ q => q
theorem Un.laid (k : ∀ b u, h.get? b = some u → h'.get? b = some u) (hp : h.objs.size ≤ a) (hn : H a = none) : Un fs ex H (upd H a o) h h' where
  keep := fun b u q _ _ _ => k b u q
  slot := fun b u q _ _ _ => ⟨u.slots, k b u q⟩
  free := fun b u q n _ => by rw [upd_ne (Nat.ne_of_lt (Nat.lt_of_lt_of_le (Heap.lt_size q) hp))]; exact n
  there := fun b u q _ => ⟨u, k b u q⟩
  tups := fun b xs q => by rw [upd_ne (ne_of_none q hn)]; exact q
  frzs := fun b u xs q => by rw [upd_ne (ne_of_none q hn)]; exact q
  tbls := fun b ps q => ⟨#[], by rw [upd_ne (ne_of_none q hn), q]; simp⟩
theorem Un.write (mu : Mut (H x)) (he : e = x ∨ H e = some (.own x)) (k : ∀ b u, b ≠ e → h.get? b = some u → h'.get? b = some u) (heo : ∃ u, h'.get? e = some u) : Un fs ex H (upd H x o) h h' := by
  have hx : ∀ b, H b = none → b ≠ x := fun b n z => by subst z; rw [n] at mu; exact mu
  have hb : ∀ b, H b = none → b ≠ e := fun b n z => by
    subst z
    rcases he with r | r
    · exact hx b n r
    · rw [n] at r; cases r
  have hm : ∀ b u, H b = some u → ¬ Mut (some u) → b ≠ x := fun b u q nm z => by subst z; rw [q] at mu; exact nm mu
  refine ⟨fun b u q n _ _ => k b u (hb b n) q, fun b u q n _ _ => ⟨u.slots, k b u (hb b n) q⟩, fun b u q n _ => by rw [upd_ne (hx b n)]; exact n, fun b u q _ => ?_,
    fun b xs q => by rw [upd_ne (hm b _ q fun z => z)]; exact q, fun b u xs q => by rw [upd_ne (hm b _ q fun z => z)]; exact q, fun b ps q => ⟨#[], by rw [upd_ne (hm b _ q fun z => z), q]; simp⟩⟩
  by_cases hbe : b = e
  · subst hbe; exact heo
  · exact ⟨u, k b u hbe q⟩
end
def trk (h : Heap) (H : Hp) : List Addr := (List.range h.objs.size).filter fun a => (H a).isSome
def hidT (h : Heap) (H : Hp) : Heap := PySem.W.hideAll h (trk h H)
theorem hidT_size (h : Heap) (H : Hp) : (hidT h H).objs.size = h.objs.size := PySem.W.hideAll_size _ _
theorem hidT_get {h : Heap} {H : Hp} {b : Addr} {o : Obj} (e : h.get? b = some o) (n : H b = none) : (hidT h H).get? b = some o :=
  PySem.W.hideAll_get _ e fun hm => by
    have q : (H b).isSome = true := (List.mem_filter.mp hm).2
    rw [n] at q; simp at q
theorem of_hidT {h : Heap} {H : Hp} {b : Addr} {o : Obj} (e : (hidT h H).get? b = some o) : h.get? b = some o ∧ H b = none := by
  have e' : h.get? b = some o := PySem.W.of_hideAll (trk h H) e
  refine ⟨e', ?_⟩
  cases q : H b with
  | none => rfl
  | some x =>
    have hm : b ∈ trk h H := List.mem_filter.mpr ⟨List.mem_range.mpr (Heap.lt_size e'), by simp [q]⟩
    have z : (hidT h H).get? b = none := PySem.W.hideAll_none (trk h H) hm
    rw [z] at e; cases e
end L2
namespace L2
open PySem PySem.Spec PyProof.Rows
structure Mod (K : PySem.W.Frag) (mg : Str → Option Value) (base : Heap) : Prop where
  kin : K.In base
  glob : base.Ns mainGlobals mg
  blt : ∃ mb, base.Ns builtinsNs mb ∧ ∀ x : Str, x ≠ "__name__" → mb x = bootBuiltins x
  nolimit : base.NoLimit
structure Cx where
  prog : Program
  w : World
  K : PySem.W.Frag
  mg : Str → Option Value
  base : Heap
  A : Around
  N : List Str
  s₀ : Shared
  H₀ : Hp
  env : Env
  outer : List Env
  stack : List Env
  ex : List Addr
  fn : Str → Bool
  calm : Bool
  pn : List (Addr × Obj)
  xe : Value → Shared → Prop
def frs (l : List Env) : List Addr := l.filterMap (·.frame)
abbrev Cx.fs (X : Cx) : List Addr := frs X.outer
def Vis (sc : Scope) (x : Str) : Prop := sc.names.lookup x = some .local ∨ sc.names.lookup x = some .cell ∨ sc.names.lookup x = some .free
def Loc (sc : Scope) (x : Str) : Prop := sc.names.lookup x = some .local ∨ sc.names.lookup x = some .cell
def Look (env : Env) (h : Heap) (m : Str → Option Value) (x : Str) (u : Value) : Prop :=
  (env.kindOf x = some .local ∧ m x = some u) ∨ ((env.kindOf x = some .cell ∨ env.kindOf x = some .free) ∧ ∃ c, env.cells.lookup x = some c ∧ h.IsCell c (some u))
structure Cx.Ok (X : Cx) : Prop where
  mod : Mod X.K X.mg X.base
  kind : X.env.scope.kind = .function
  glob : X.env.globals = mainGlobals
  blt : X.env.builtins = builtinsNs
  above : X.s₀.heap.objs.size ≤ X.env.locals
  inj : ∀ x y c, X.env.cells.lookup x = some c → X.env.cells.lookup y = some c → x = y
  has : ∀ x, (X.env.kindOf x = some .cell ∨ X.env.kindOf x = some .free) → ∃ c, X.env.cells.lookup x = some c
  cab : ∀ x c, X.fn x = true → X.env.cells.lookup x = some c → X.s₀.heap.objs.size ≤ c
  hd : X.calm = true → X.A.handled = none
  frames : X.A.frames = some X.stack
  stk : X.stack = X.outer ∨ (X.stack = X.env :: X.outer ∧ X.env.frame = some X.env.locals)
  exf : ∀ b ∈ X.ex, b ≠ X.env.locals ∧ ∀ x c, X.env.cells.lookup x = some c → c ≠ b
  bs : ∀ b o, X.base.get? b = some o → X.s₀.heap.get? b = some o ∧ X.H₀ b = none
  bsz : X.base.objs.size ≤ X.s₀.heap.objs.size
  noex : ∀ b o, X.base.get? b = some o → b ∉ X.ex
  exfs : ∀ b ∈ X.ex, b ∉ X.fs
  funs : X.s₀.heap.FunFrames X.base X.outer
  frf : ∀ b ∈ X.fs, X.H₀ b = none
structure Inv (X : Cx) (pins : List (Addr × Obj)) (σ : List (Option V)) (H : Hp) (s : Shared) : Prop where
  ok : X.Ok
  os : s.os = X.s₀.os
  bare : AllBare s.gens
  base : Un X.fs X.ex X.H₀ H X.s₀.heap s.heap
  loc : ∃ m, s.heap.Ns X.env.locals m ∧ ∀ (i : Nat) (x : Str) (v : V), X.N[i]? = some x → σ[i]? = some (some v) → Vis X.env.scope x → ∃ u, RelV v u ∧ Look X.env s.heap m x u
  cell : ∀ x c, X.env.cells.lookup x = some c → ∃ v, s.heap.IsCell c v
  free : H X.env.locals = none
  freeC : ∀ x c, X.env.cells.lookup x = some c → H c = none
  pin : ∀ p ∈ X.pn ++ pins, s.heap.get? p.1 = some p.2 ∧ H p.1 = none ∧ p.1 ≠ X.env.locals ∧ p.1 ∉ X.fs ∧ ∀ v, p.2.data ≠ .cell v
  hok : HOk X.prog X.w H s.heap
  len : σ.length = X.N.length
section
variable {X : Cx} {pins : List (Addr × Obj)} {σ : List (Option V)} {H H' : Hp} {s : Shared} {h' : Heap}
theorem Cx.Ok.nofr (ok : X.Ok) {b : Addr} {o : Obj} (e : X.base.get? b = some o) : b ∉ X.fs := fun hb => by
  have := (ok.funs.mem hb).1
  rw [e] at this; cases this
theorem Inv.bs (I : Inv X pins σ H s) : ∀ b o, X.base.get? b = some o → s.heap.get? b = some o ∧ H b = none := fun b o e =>
  ⟨I.base.keep b o (I.ok.bs b o e).1 (I.ok.bs b o e).2 (I.ok.nofr e) (I.ok.noex b o e), I.base.free b o (I.ok.bs b o e).1 (I.ok.bs b o e).2 (I.ok.noex b o e)⟩
theorem Inv.bk (I : Inv X pins σ H s) : ∀ b o, X.base.get? b = some o → s.heap.get? b = some o := fun b o e => (I.bs b o e).1
theorem Inv.mod (I : Inv X pins σ H s) : Mod X.K X.mg X.base := I.ok.mod
theorem Inv.kIn (I : Inv X pins σ H s) : X.K.In s.heap := I.ok.mod.kin.keeps I.bk
theorem Inv.lt (I : Inv X pins σ H s) : X.env.locals < s.heap.objs.size := let ⟨_, hn, _⟩ := I.loc; hn.lt
theorem Inv.sz (I : Inv X pins σ H s) : X.s₀.heap.objs.size ≤ s.heap.objs.size := Nat.le_trans I.ok.above (Nat.le_of_lt I.lt)
theorem Inv.nofs (I : Inv X pins σ H s) {a : Addr} (h : s.heap.objs.size ≤ a) : a ∉ X.fs := fun hb => by
  obtain ⟨_, o, ho, _⟩ := I.ok.funs.mem hb
  exact absurd (Nat.lt_of_lt_of_le (Heap.lt_size ho) (Nat.le_trans I.sz h)) (Nat.lt_irrefl _)
theorem Inv.cne (I : Inv X pins σ H s) : ∀ x c, X.env.cells.lookup x = some c → c ≠ X.env.locals := fun x c e z => by
  obtain ⟨v, o, ho, hd⟩ := I.cell x c e
  obtain ⟨m, ⟨o', es, ep, ho', hd', _⟩, _⟩ := I.loc
  rw [z, ho'] at ho; cases ho; rw [hd'] at hd; cases hd
theorem Inv.funs (I : Inv X pins σ H s) : s.heap.FunFrames X.base X.outer := by
  have all : ∀ (l : List Env), (∀ b ∈ frs l, b ∈ X.fs) → X.s₀.heap.FunFrames X.base l → s.heap.FunFrames X.base l := by
    intro l
    induction l with
    | nil => intro _ _; trivial
    | cons env r ih =>
      intro hs hl
      obtain ⟨hk, ⟨L, o, hf, hn, ho, hd⟩, hr⟩ := hl
      have hL : L ∈ X.fs := hs L (by unfold frs; rw [List.filterMap_cons, hf]; exact List.mem_cons_self)
      obtain ⟨sl, e⟩ := I.base.slot L o ho (I.ok.frf L hL) hL fun z => I.ok.exfs L z hL
      exact ⟨hk, ⟨L, _, hf, hn, e, hd⟩, ih (fun b hb => hs b (by unfold frs; rw [List.filterMap_cons, hf]; exact List.mem_cons_of_mem _ hb)) hr⟩
  exact all X.outer (fun _ hb => hb) I.ok.funs
theorem Inv.stack (I : Inv X pins σ H s) : s.heap.FunFrames X.base X.stack := by
  rcases I.ok.stk with e | ⟨e, hf⟩
  · rw [e]; exact I.funs
  · rw [e]
    obtain ⟨m, hn, _⟩ := I.loc
    refine .cons (by rw [I.ok.kind]; decide) hf hn ?_ I.funs
    exact Heap.get?_none_of_le (Nat.le_trans I.ok.bsz I.ok.above)
theorem Inv.stkSub (I : Inv X pins σ H s) : ∀ b ∈ frs X.stack, b ∈ X.env.locals :: X.fs := fun b hb => by
  rcases I.ok.stk with e | ⟨e, hf⟩
  · rw [e] at hb; exact List.mem_cons_of_mem _ hb
  · rw [e] at hb
    unfold frs at hb
    rw [List.filterMap_cons, hf] at hb
    exact hb
theorem Inv.stkFree (I : Inv X pins σ H s) : ∀ b ∈ frs X.stack, H b = none := fun b hb => by
  rcases List.mem_cons.mp (I.stkSub b hb) with e | hb
  · rw [e]; exact I.free
  · obtain ⟨_, o, ho, _⟩ := I.ok.funs.mem hb
    exact I.base.free b o ho (I.ok.frf b hb) fun z => I.ok.exfs b z hb
theorem Inv.step {g' : Array GenState} {t' : Nat} {d' : Drawn} {ch : List Addr} (I : Inv X pins σ H s)
    (hch : ∀ b ∈ ch, (b ∈ X.ex ∨ X.s₀.heap.objs.size ≤ b) ∧ b ≠ X.env.locals ∧ (∀ x c, X.env.cells.lookup x = some c → c ≠ b) ∧ ∀ p ∈ X.pn ++ pins, p.1 ≠ b)
    (keep : ∀ b o, b ≠ X.env.locals → b ∉ X.fs → b ∉ ch → s.heap.get? b = some o → H b = none → h'.get? b = some o)
    (slot : ∀ b o, b ≠ X.env.locals → b ∈ X.fs → b ∉ ch → s.heap.get? b = some o → H b = none → ∃ sl, h'.get? b = some { o with slots := sl }) (free : ∀ b o, b ∉ ch → s.heap.get? b = some o → H b = none → H' b = none)
    (there : ∀ b o, b ∉ ch → s.heap.get? b = some o → ∃ o', h'.get? b = some o')
    (tups : ∀ b xs, H b = some (.tup xs) → H' b = some (.tup xs)) (frzs : ∀ b o u, H b = some (.frz o u) → H' b = some (.frz o u)) (tbls : ∀ b ps, H b = some (.tbl ps) → ∃ more, H' b = some (.tbl (ps ++ more)))
    (ns : ∀ m, s.heap.Ns X.env.locals m → h'.Ns X.env.locals m) (hok : HOk X.prog X.w H' h') (hg : AllBare g') :
    Inv X pins σ H' { s with heap := h', gens := g', drawn := d', toks := t' } := by
  have neL : ∀ b o, X.s₀.heap.get? b = some o → b ≠ X.env.locals := fun b o e => Nat.ne_of_lt (Nat.lt_of_lt_of_le (Heap.lt_size e) I.ok.above)
  have neC : ∀ b o, X.s₀.heap.get? b = some o → b ∉ X.ex → b ∉ ch := fun b o e hx hb => by
    rcases (hch b hb).1 with z | z
    · exact hx z
    · exact absurd (Nat.lt_of_lt_of_le (Heap.lt_size e) z) (Nat.lt_irrefl _)
  have cellK : ∀ x c, X.env.cells.lookup x = some c → ∀ v, s.heap.IsCell c v → h'.IsCell c v := fun x c e v ⟨o, ho, hd⟩ => by
    have nch : c ∉ ch := fun z => (hch c z).2.2.1 x c e rfl
    by_cases hc : c ∈ X.fs
    · obtain ⟨sl, q⟩ := slot c o (I.cne x c e) hc nch ho (I.freeC x c e)
      exact ⟨_, q, hd⟩
    · exact ⟨o, keep c o (I.cne x c e) hc nch ho (I.freeC x c e), hd⟩
  refine ⟨I.ok, I.os, hg, ⟨fun b o e n hb hx => ?_, fun b o e n hb hx => ?_, fun b o e n hx => ?_, fun b o e hx => ?_, fun b xs e => tups b xs (I.base.tups b xs e), fun b o xs e => frzs b o xs (I.base.frzs b o xs e), fun b ps e => ?_⟩, ?_, fun x c e => ?_, ?_, fun x c e => ?_, fun p hp => ?_, hok, I.len⟩
  · exact keep b o (neL b o e) hb (neC b o e hx) (I.base.keep b o e n hb hx) (I.base.free b o e n hx)
  · obtain ⟨sl, e1⟩ := I.base.slot b o e n hb hx
    obtain ⟨sl', e2⟩ := slot b _ (neL b o e) hb (neC b o e hx) e1 (I.base.free b o e n hx)
    exact ⟨sl', e2⟩
  · obtain ⟨o', e1⟩ := I.base.there b o e hx
    exact free b o' (neC b o e hx) e1 (I.base.free b o e n hx)
  · obtain ⟨o', e1⟩ := I.base.there b o e hx
    exact there b o' (neC b o e hx) e1
  · obtain ⟨m1, e1⟩ := I.base.tbls b ps e
    obtain ⟨m2, e2⟩ := tbls b _ e1
    exact ⟨m1 ++ m2, by rw [e2, Array.append_assoc]⟩
  · obtain ⟨m, hn, hl⟩ := I.loc
    refine ⟨m, ns m hn, fun i x v e1 e2 e3 => ?_⟩
    obtain ⟨u, r, l⟩ := hl i x v e1 e2 e3
    refine ⟨u, r, ?_⟩
    rcases l with l | ⟨k, c, e, z⟩
    · exact .inl l
    · exact .inr ⟨k, c, e, cellK x c e _ z⟩
  · obtain ⟨v, z⟩ := I.cell x c e
    exact ⟨v, cellK x c e v z⟩
  · obtain ⟨m, ⟨o, _, _, ho, _⟩, _⟩ := I.loc
    exact free _ o (fun z => (hch _ z).2.1 rfl) ho I.free
  · obtain ⟨v, o, ho, hd⟩ := I.cell x c e
    exact free c o (fun z => (hch c z).2.2.1 x c e rfl) ho (I.freeC x c e)
  · obtain ⟨e, n, ne, nf, d⟩ := I.pin p hp
    have nch : p.1 ∉ ch := fun z => (hch p.1 z).2.2.2 p hp rfl
    exact ⟨keep p.1 p.2 ne nf nch e n, free p.1 p.2 nch e n, ne, nf, d⟩
theorem Inv.un {t' : Nat} (I : Inv X pins σ H s) (u : Un X.fs [] H H' s.heap h') (hok : HOk X.prog X.w H' h') : Inv X pins σ H' { s with heap := h', toks := t' } := by
  obtain ⟨m, ⟨o, es, ep, ho, r⟩, _⟩ := id I.loc
  obtain ⟨sl, hL⟩ := u.any ho I.free (by simp)
  exact I.step (g' := s.gens) (d' := s.drawn) (ch := []) (fun _ z => nomatch z) (fun b o _ hb _ e n => u.keep b o e n hb (by simp)) (fun b o _ hb _ e n => u.slot b o e n hb (by simp)) (fun b o _ e n => u.free b o e n (by simp)) (fun b o _ e => u.there b o e (by simp)) u.tups u.frzs u.tbls (fun m' hm => by
    obtain ⟨o', es', ep', ho', r'⟩ := hm
    rw [ho] at ho'; cases ho'
    exact ⟨_, es', ep', hL, r'⟩) hok I.bare
theorem Inv.call {g' : Array GenState} {t' : Nat} {d' : Drawn} {ch : List Addr} (I : Inv X pins σ H s) (u : Un (frs X.stack) ch H H' s.heap h') (hok : HOk X.prog X.w H' h') (hg : AllBare g')
    (hch : ∀ b ∈ ch, (b ∈ X.ex ∨ X.s₀.heap.objs.size ≤ b) ∧ b ≠ X.env.locals ∧ (∀ x c, X.env.cells.lookup x = some c → c ≠ b) ∧ ∀ p ∈ X.pn ++ pins, p.1 ≠ b) :
    Inv X pins σ H' { s with heap := h', gens := g', drawn := d', toks := t' } := by
  obtain ⟨m, ⟨o, es, ep, ho, r⟩, _⟩ := id I.loc
  obtain ⟨sl, hL⟩ := u.any ho I.free fun z => (hch _ z).2.1 rfl
  exact I.step (ch := ch) hch (fun b o hL hb hc e n => u.keep b o e n (fun z => (List.mem_cons.mp (I.stkSub b z)).elim hL hb) hc) (fun b o _ _ hc e n => u.any e n hc) (fun b o hc e n => u.free b o e n hc) (fun b o hc e => u.there b o e hc) u.tups u.frzs u.tbls (fun m' hm => by
    obtain ⟨o', es', ep', ho', r'⟩ := hm
    rw [ho] at ho'; cases ho'
    exact ⟨_, es', ep', hL, r'⟩) hok hg
theorem Inv.turned {t' : Nat} {it : Addr} (I : Inv X pins σ H s) (k : ∀ b o, b ≠ it → s.heap.get? b = some o → h'.get? b = some o) (hn : H it = none) (hL : it ≠ X.env.locals)
    (h1 : it ∈ X.ex ∨ X.s₀.heap.objs.size ≤ it) (h2 : ∀ x c, X.env.cells.lookup x = some c → c ≠ it) (h3 : ∀ p ∈ X.pn ++ pins, p.1 ≠ it) : Inv X pins σ H { s with heap := h', toks := t' } := by
  have nit : ∀ b u, H b = some u → b ≠ it := fun b u e z => by rw [z, hn] at e; cases e
  refine I.step (g' := s.gens) (d' := s.drawn) (ch := [it]) (fun b hb => ?_) (fun b o _ _ hc e _ => k b o (fun z => hc (by simp [z])) e) (fun b o _ _ hc e _ => ⟨o.slots, k b o (fun z => hc (by simp [z])) e⟩) (fun _ _ _ _ n => n)
    (fun b o hc e => ⟨o, k b o (fun z => hc (by simp [z])) e⟩) (fun _ _ e => e) (fun _ _ _ e => e) (fun b ps e => ⟨#[], by rw [e]; simp⟩) (fun m hm => ?_) (fun b u e => ?_) I.bare
  · have e : b = it := by simpa using hb
    subst e
    exact ⟨h1, hL, h2, h3⟩
  · obtain ⟨o, es, ep, ho, r⟩ := hm
    exact ⟨o, es, ep, k _ o (Ne.symm hL) ho, r⟩
  · refine (I.hok b u e).stay (fun c v hc q => k c v ?_ q) (fun _ q => q) fun _ _ q => q
    rcases hc with z | z
    · rw [z]; exact nit b u e
    · exact nit c _ z
theorem Inv.tok (I : Inv X pins σ H s) (t : Nat) : Inv X pins σ H { s with toks := t } := I.un (h' := s.heap) (t' := t) Un.refl I.hok
theorem Inv.kept {t' : Nat} (I : Inv X pins σ H s) (k : ∀ b u, s.heap.get? b = some u → h'.get? b = some u) : Inv X pins σ H { s with heap := h', toks := t' } := I.un (Un.kept k) (I.hok.kept k)
theorem Inv.laid {a : Addr} {o : HO} {t' : Nat} (I : Inv X pins σ H s) (k : ∀ b u, s.heap.get? b = some u → h'.get? b = some u) (hp : s.heap.objs.size ≤ a) (new : ObjOk X.prog X.w (upd H a o) h' a o) :
    Inv X pins σ (upd H a o) { s with heap := h', toks := t' } := I.un (Un.laid k hp (I.hok.fresh hp)) (I.hok.laid k hp new)
theorem Inv.write {x e : Addr} {o : HO} {t' : Nat} (I : Inv X pins σ H s) (mu : Mut (H x)) (he : e = x ∨ H e = some (.own x)) (k : ∀ b u, b ≠ e → s.heap.get? b = some u → h'.get? b = some u) (heo : ∃ u, h'.get? e = some u)
    (new : ObjOk X.prog X.w (upd H x o) h' x o) : Inv X pins σ (upd H x o) { s with heap := h', toks := t' } := I.un (Un.write mu he k heo) (I.hok.write mu he k heo new)
theorem Inv.pins_of {pins' : List (Addr × Obj)} (I : Inv X pins σ H s) (h : ∀ p ∈ pins', s.heap.get? p.1 = some p.2 ∧ H p.1 = none ∧ p.1 ≠ X.env.locals ∧ p.1 ∉ X.fs ∧ ∀ v, p.2.data ≠ .cell v) : Inv X pins' σ H s :=
  ⟨I.ok, I.os, I.bare, I.base, I.loc, I.cell, I.free, I.freeC, fun p hp => (List.mem_append.mp hp).elim (fun z => I.pin p (List.mem_append_left _ z)) (h p), I.hok, I.len⟩
theorem nodup_ix {N : List Str} (hN : N.Nodup) {i j : Nat} {x : Str} (a : N[i]? = some x) (b : N[j]? = some x) : i = j := by
  obtain ⟨h1, e1⟩ := List.getElem?_eq_some_iff.mp a
  obtain ⟨h2, e2⟩ := List.getElem?_eq_some_iff.mp b
  exact (List.getElem_inj hN).mp (e1.trans e2.symm)
theorem store_ok2 {M : Model} {A : Around} {E : Value → Shared → Prop} {i : Nat} {x : Str} {v : V} {u : Value} {Q : Unit → Shared → Prop} (I : Inv X pins σ H s) (hN : X.N.Nodup) (hi : X.N[i]? = some x) (hx : Loc X.env.scope x) (r : RelV v u)
    (h : ∀ s', Inv X pins (σ.set i (some v)) H s' → (∃ a, Heap.SameBut a s.heap s'.heap ∧ (a = X.env.locals ∨ X.env.cells.lookup x = some a)) → Q () s') (hf : X.fn x = true ∨ X.env.scope.names.lookup x = some .local := by first | exact .inl rfl | exact .inr rfl | assumption) : wpAny M A (storeName X.env x u) Q E s := by
  obtain ⟨m, hn, hl⟩ := id I.loc
  have hcls : (X.env.scope.kind == .class || (X.env.scope.kind == .module && X.env.locals != X.env.globals)) = false := by rw [I.ok.kind]; rfl
  have hiσ : i < σ.length := by rw [I.len]; exact (List.getElem?_eq_some_iff.mp hi).1
  have cne := I.cne
  have tracked : ∀ {a : Addr} {h' : Heap}, (∃ o, s.heap.get? a = some o ∧ H a = none) → Heap.SameBut a s.heap h' → HOk X.prog X.w H h' := fun {a h'} ha hs b ob e => by
    obtain ⟨_, _, hfree⟩ := ha
    refine (I.hok b ob e).stay (fun c w' hc q => (hs.2 c ?_).trans q) (fun _ q => q) fun _ _ q => q
    rintro rfl
    rcases hc with rfl | hc
    · rw [hfree] at e; cases e
    · rw [hfree] at hc; cases hc
  rcases hx with hk | hk
  · refine wpAny_storeName_local hk hn (fun h' hn' hs => ?_) hcls
    obtain ⟨oL, _, _, hoL, _⟩ := id hn
    refine h _ ⟨I.ok, I.os, I.bare, ⟨fun b o e n hb hx => ?_, fun b o e n hb hx => ?_, I.base.free, fun b o e hx => ?_, I.base.tups, I.base.frzs, I.base.tbls⟩, ⟨_, hn', fun j y v' e1 e2 e3 => ?_⟩, fun y c e => ?_, I.free, I.freeC, fun p hp => ?_, tracked ⟨oL, hoL, I.free⟩ hs, by simpa using I.len⟩ ⟨_, hs, .inl rfl⟩
    · exact (hs.2 b (Nat.ne_of_lt (Nat.lt_of_lt_of_le (Heap.lt_size e) I.ok.above))).trans (I.base.keep b o e n hb hx)
    · obtain ⟨sl, e1⟩ := I.base.slot b o e n hb hx
      exact ⟨sl, (hs.2 b (Nat.ne_of_lt (Nat.lt_of_lt_of_le (Heap.lt_size e) I.ok.above))).trans e1⟩
    · obtain ⟨o', e1⟩ := I.base.there b o e hx
      exact ⟨o', (hs.2 b (Nat.ne_of_lt (Nat.lt_of_lt_of_le (Heap.lt_size e) I.ok.above))).trans e1⟩
    · by_cases hj : j = i
      · subst hj
        rw [hi] at e1; cases e1
        rw [List.getElem?_set_self hiσ] at e2
        cases e2
        exact ⟨u, r, .inl ⟨hk, by simp⟩⟩
      · rw [List.getElem?_set_ne (Ne.symm hj)] at e2
        obtain ⟨u', r', q⟩ := hl j y v' e1 e2 e3
        refine ⟨u', r', ?_⟩
        rcases q with ⟨k, e⟩ | ⟨k, c, e, z⟩
        · refine .inl ⟨k, ?_⟩
          have : y ≠ x := fun e => hj (nodup_ix hN e1 (e ▸ hi))
          simp [this, e]
        · exact .inr ⟨k, c, e, z.sameBut hs (cne y c e)⟩
    · obtain ⟨w', z⟩ := I.cell y c e
      exact ⟨w', z.sameBut hs (cne y c e)⟩
    · obtain ⟨e, n, ne, nf, d⟩ := I.pin p hp
      exact ⟨(hs.2 p.1 ne).trans e, n, ne, nf, d⟩
  · have hfn : X.fn x = true := by
      rcases hf with z | z
      · exact z
      · rw [z] at hk; cases hk
    obtain ⟨c, hc⟩ := I.ok.has x (.inl hk)
    obtain ⟨w', z⟩ := I.cell x c hc
    refine wpAny_storeName_cell I.ok.kind hk hc z (fun h' hc' hs => ?_)
    obtain ⟨oc, hoc, hocd⟩ := id z
    refine h { s with heap := h' } ⟨I.ok, I.os, I.bare, ⟨fun b o e n hb hx => ?_, fun b o e n hb hx => ?_, I.base.free, fun b o e hx => ?_, I.base.tups, I.base.frzs, I.base.tbls⟩, ⟨m, hn.sameBut hs (Ne.symm (cne x c hc)), fun j y v' e1 e2 e3 => ?_⟩, fun y c' e => ?_, I.free, I.freeC, fun p hp => ?_, tracked ⟨oc, hoc, I.freeC x c hc⟩ hs, by simpa using I.len⟩ ⟨c, hs, .inr hc⟩
    · exact (hs.2 b (Nat.ne_of_lt (Nat.lt_of_lt_of_le (Heap.lt_size e) (I.ok.cab x c hfn hc)))).trans (I.base.keep b o e n hb hx)
    · obtain ⟨sl, e1⟩ := I.base.slot b o e n hb hx
      exact ⟨sl, (hs.2 b (Nat.ne_of_lt (Nat.lt_of_lt_of_le (Heap.lt_size e) (I.ok.cab x c hfn hc)))).trans e1⟩
    · obtain ⟨o', e1⟩ := I.base.there b o e hx
      exact ⟨o', (hs.2 b (Nat.ne_of_lt (Nat.lt_of_lt_of_le (Heap.lt_size e) (I.ok.cab x c hfn hc)))).trans e1⟩
    · by_cases hj : j = i
      · subst hj
        rw [hi] at e1; cases e1
        rw [List.getElem?_set_self hiσ] at e2
        cases e2
        exact ⟨u, r, .inr ⟨.inl hk, c, hc, hc'⟩⟩
      · rw [List.getElem?_set_ne (Ne.symm hj)] at e2
        obtain ⟨u', r', q⟩ := hl j y v' e1 e2 e3
        refine ⟨u', r', ?_⟩
        rcases q with q | ⟨k, c', e, z'⟩
        · exact .inl q
        · refine .inr ⟨k, c', e, z'.sameBut hs ?_⟩
          rintro rfl
          exact hj (nodup_ix hN e1 (I.ok.inj _ _ _ e hc ▸ hi))
    · by_cases hcc : c' = c
      · subst hcc; exact ⟨_, hc'⟩
      · obtain ⟨w2, z2⟩ := I.cell y c' e
        exact ⟨w2, z2.sameBut hs hcc⟩
    · obtain ⟨e, n, ne, nf, d⟩ := I.pin p hp
      refine ⟨(hs.2 p.1 ?_).trans e, n, ne, nf, d⟩
      intro q
      rw [q, hoc] at e
      have q' : oc = p.2 := Option.some.inj e
      exact d w' (by rw [← q']; exact hocd)
theorem store_ok {M : Model} {A : Around} {E : Value → Shared → Prop} {i : Nat} {x : Str} {v : V} {u : Value} {Q : Unit → Shared → Prop} (I : Inv X pins σ H s) (hN : X.N.Nodup) (hi : X.N[i]? = some x) (hx : Loc X.env.scope x) (r : RelV v u)
    (h : ∀ s', Inv X pins (σ.set i (some v)) H s' → Q () s') (hf : X.fn x = true ∨ X.env.scope.names.lookup x = some .local := by first | exact .inl rfl | exact .inr rfl | assumption) : wpAny M A (storeName X.env x u) Q E s :=
  store_ok2 I hN hi hx r (fun s' I' _ => h s' I') hf
theorem Inv.call' {s' : Shared} {ch : List Addr} (I : Inv X pins σ H s) (ho : s'.os = s.os) (u : Un (frs X.stack) ch H H' s.heap s'.heap) (hok : HOk X.prog X.w H' s'.heap) (hg : AllBare s'.gens)
    (hch : ∀ b ∈ ch, (b ∈ X.ex ∨ X.s₀.heap.objs.size ≤ b) ∧ b ≠ X.env.locals ∧ (∀ x c, X.env.cells.lookup x = some c → c ≠ b) ∧ ∀ p ∈ X.pn ++ pins, p.1 ≠ b) : Inv X pins σ H' s' := by
  obtain ⟨h', g', d', t', o'⟩ := s'
  have e : o' = s.os := ho
  subst e
  exact I.call (g' := g') (t' := t') (d' := d') u hok hg hch
end
abbrev XK := Value → Option Addr → Hp → Prop
abbrev St := List (Option V)
abbrev VK := V → Hp → Prop
abbrev TE := St → Hp → VK → Prop
abbrev TT := St → Hp → (Bool → Hp → Prop) → Prop
abbrev TA := St → Hp → (List V → Hp → Prop) → Prop
structure Ends where
  nx : St → Hp → Prop
  rt : VK
  bk : St → Hp → Prop := fun _ _ => False
  ct : St → Hp → Prop := fun _ _ => False
abbrev TS := Ends → St → Hp → Prop
def EP (X : Cx) (pins : List (Addr × Obj)) (σ : St) (Q : VK) (u : Value) (s' : Shared) : Prop := ∃ v H', Inv X pins σ H' s' ∧ RelV v u ∧ Q v H'
def TP (X : Cx) (pins : List (Addr × Obj)) (σ : St) (Q : Bool → Hp → Prop) (b : Bool) (s' : Shared) : Prop := ∃ H', Inv X pins σ H' s' ∧ Q b H'
def AP (X : Cx) (pins : List (Addr × Obj)) (σ : St) (Q : List V → Hp → Prop) (us : List Value) (s' : Shared) : Prop := ∃ vs H', Inv X pins σ H' s' ∧ Vals vs us ∧ Q vs H'
def SP (X : Cx) (pins : List (Addr × Obj)) (D : Ends) (f : Flow) (s' : Shared) : Prop :=
  match f with
  | .next => ∃ σ' H', Inv X pins σ' H' s' ∧ D.nx σ' H'
  | .brk => ∃ σ' H', Inv X pins σ' H' s' ∧ D.bk σ' H'
  | .cont => ∃ σ' H', Inv X pins σ' H' s' ∧ D.ct σ' H'
  | .ret u => ∃ v σ' H', Inv X pins σ' H' s' ∧ RelV v u ∧ D.rt v H'
def PE (X : Cx) (e : Expr) (t : TE) : Prop :=
  ∀ (pins : List (Addr × Obj)) (s : Shared) (σ : St) (H : Hp) (Q : VK), Inv X pins σ H s → t σ H Q → wpAny (model X.prog X.w) X.A (eval e X.env) (EP X pins σ Q) X.xe s
def PT (X : Cx) (e : Expr) (t : TT) : Prop :=
  ∀ (pins : List (Addr × Obj)) (s : Shared) (σ : St) (H : Hp) (Q : Bool → Hp → Prop), Inv X pins σ H s → t σ H Q → wpAny (model X.prog X.w) X.A (isTrue e X.env (eval e X.env)) (TP X pins σ Q) X.xe s
def PW (X : Cx) (e : Expr) (t : TT) : Prop :=
  ∀ (whole : Sem Value) (pins : List (Addr × Obj)) (s : Shared) (σ : St) (H : Hp) (Q : Bool → Hp → Prop), Inv X pins σ H s → t σ H Q → wpAny (model X.prog X.w) X.A (isTrue e X.env whole) (TP X pins σ Q) X.xe s
theorem PW.pt {X : Cx} {e : Expr} {t : TT} (h : PW X e t) : PT X e t := h _
def PA (X : Cx) (es : List Expr) (t : TA) : Prop :=
  ∀ (pos : Pos) (pins : List (Addr × Obj)) (s : Shared) (σ : St) (H : Hp) (Q : List V → Hp → Prop), Inv X pins σ H s → t σ H Q → wpAny (model X.prog X.w) X.A (spliced (backTo pos (starEach es X.env))) (AP X pins σ Q) X.xe s
def PS (X : Cx) (st : Stmt) (t : TS) : Prop :=
  ∀ (pins : List (Addr × Obj)) (s : Shared) (σ : St) (H : Hp) (D : Ends), Inv X pins σ H s → t D σ H → wpAny (model X.prog X.w) X.A (exec st X.env) (SP X pins D) X.xe s
def PSs (X : Cx) (st : List Stmt) (t : TS) : Prop :=
  ∀ (pins : List (Addr × Obj)) (s : Shared) (σ : St) (H : Hp) (D : Ends), Inv X pins σ H s → t D σ H → wpAny (model X.prog X.w) X.A (execs st X.env) (SP X pins D) X.xe s
theorem thn {α : Type} {t : Sem α} {Q Q' : α → Shared → Prop} {M : Model} {A : Around} {E : Value → Shared → Prop} {s : Shared} (h : wpAny M A t Q E s) (hQ : ∀ a s, Q a s → Q' a s) : wpAny M A t Q' E s := wpAny_mono h hQ fun _ _ x => x
end L2
namespace L2
open PySem PySem.Spec PyProof.Rows
section
variable {X : Cx}
theorem bin {a b : Expr} {ta tb : TE} (ha : PE X a ta) (hb : PE X b tb) {pins : List (Addr × Obj)} {s : Shared} {σ : St} {H : Hp} {R : V → V → Hp → Prop} (I : Inv X pins σ H s) (h : ta σ H fun x H1 => tb σ H1 fun y H2 => R x y H2)
    {α : Type} {Q : α → Shared → Prop} {f : Value → Value → Sem α}
    (hf : ∀ v u s2 x y H2, Inv X pins σ H2 s2 → RelV x v → RelV y u → R x y H2 → wpAny (model X.prog X.w) X.A (f v u) Q X.xe s2) :
    wpAny (model X.prog X.w) X.A (eval a X.env) (fun v s₁ => wpAny (model X.prog X.w) X.A (eval b X.env) (fun u s₂ => wpAny (model X.prog X.w) X.A (f v u) Q X.xe s₂) X.xe s₁) X.xe s := by
  refine thn (ha pins s σ H _ I h) fun v s1 ⟨x, H1, I1, r1, q1⟩ => ?_
  refine thn (hb pins s1 σ H1 _ I1 q1) fun u s2 ⟨y, H2, I2, r2, q2⟩ => ?_
  exact hf v u s2 x y H2 I2 r1 r2 q2
def tVar (i : Nat) : TE := fun σ H Q => ∃ v, σ[i]? = some (some v) ∧ Q v H
def tC (v : V) : TE := fun _ H Q => Q v H
theorem pe_var {i : Nat} {x : Str} {pos : Pos} (hN : X.N[i]? = some x) (hv : Vis X.env.scope x) (hd : (x == ("__debug__" : Str)) = false := by decide) (hcd : (x == ("__classdict__" : Str)) = false := by decide) : PE X (.Name x pos) (tVar i) := by
  intro pins s σ H Q I h
  obtain ⟨v, e, h⟩ := h
  obtain ⟨m, hn, hl⟩ := I.loc
  obtain ⟨u, r, l⟩ := hl i x v hN e hv
  have fin : EP X pins σ Q u s := ⟨v, H, I, r, h⟩
  rcases l with ⟨hk, hm⟩ | ⟨hk, c, hc, hcell⟩
  · exact wpAny_Name (wpAny_loadName_local I.ok.kind hk hn hm fin) hd
  · rcases hk with hk | hk
    · exact wpAny_Name (wpAny_loadName_cell I.ok.kind hk hc hcell fin) hd
    · exact wpAny_Name (wpAny_loadName_free I.ok.kind hk hc hcell fin hcd) hd
theorem pe_int {i j pos} : PE X (.Constant (.int i) j pos) (tC (.int i)) := fun _ _ _ H _ I h => wpAny_Constant_int ⟨.int i, H, I.tok _, ⟨_, rfl⟩, h⟩
theorem pe_bl {b j pos} : PE X (.Constant (.bool b) j pos) (tC (.bl b)) := fun _ _ _ H _ I h => Constant_bool ⟨.bl b, H, I, rfl, h⟩
theorem pe_str {x j pos} : PE X (.Constant (.str x) j pos) (tC (.str x)) := fun _ _ _ H _ I h => Calls.Constant_str ⟨.str x, H, I.tok _, ⟨_, rfl⟩, h⟩
def Gl (X : Cx) (x : Str) : Prop := X.env.kindOf x = some .globalImplicit
theorem ld_glob {E : Value → Shared → Prop} {pins : List (Addr × Obj)} {s : Shared} {σ : St} {H : Hp} {x : Str} {u : Value} {pos : Pos} {Q : Value → Shared → Prop} (I : Inv X pins σ H s) (hg : Gl X x) (hm : X.mg x = some u) (h : Q u s)
    (hd : (x == ("__debug__" : Str)) = false := by decide) : wpAny (model X.prog X.w) X.A (eval (.Name x pos) X.env) Q E s :=
  Calls.Name_function_global I.ok.kind hg (Calls.loadGlobal_global (by rw [I.ok.glob]; exact I.mod.glob.keeps I.bk) hm h) hd
theorem ld_blt {E : Value → Shared → Prop} {pins : List (Addr × Obj)} {s : Shared} {σ : St} {H : Hp} {x : Str} {u : Value} {pos : Pos} {Q : Value → Shared → Prop} (I : Inv X pins σ H s) (hg : Gl X x) (hm : X.mg x = none) (hv : bootBuiltins x = some u) (h : Q u s)
    (hn : x ≠ "__name__" := by decide) (hd : (x == ("__debug__" : Str)) = false := by decide) : wpAny (model X.prog X.w) X.A (eval (.Name x pos) X.env) Q E s := by
  obtain ⟨mb, h1, h2⟩ := I.mod.blt
  exact Calls.Name_function_global I.ok.kind hg (Calls.loadGlobal_builtin (by rw [I.ok.glob]; exact I.mod.glob.keeps I.bk) hm (by rw [I.ok.blt]; exact h1.keeps I.bk) ((h2 x hn).trans hv) h) hd
theorem pe_glob {x : Str} {v : V} {u : Value} {pos : Pos} (hg : Gl X x) (hm : X.mg x = some u) (r : RelV v u) (hd : (x == ("__debug__" : Str)) = false := by decide) : PE X (.Name x pos) (tC v) :=
  fun _ _ _ H _ I h => ld_glob I hg hm ⟨v, H, I, r, h⟩ hd
theorem pe_bltn {x : Str} {v : V} {u : Value} {pos : Pos} (hg : Gl X x) (hm : X.mg x = none) (hv : bootBuiltins x = some u) (r : RelV v u) (hn : x ≠ "__name__" := by decide) (hd : (x == ("__debug__" : Str)) = false := by decide) : PE X (.Name x pos) (tC v) :=
  fun _ _ _ H _ I h => ld_blt I hg hm hv ⟨v, H, I, r, h⟩ hn hd
variable {a b : Expr} {ta tb : TE} {pos : Pos}
def PC (X : Cx) (op : CmpOp) (a b : Expr) (t : TE) : Prop :=
  ∀ (pins : List (Addr × Obj)) (s : Shared) (σ : St) (H : Hp) (Q : VK), Inv X pins σ H s → t σ H Q →
    wpAny (model X.prog X.w) X.A (eval a X.env) (fun v s₁ => wpAny (model X.prog X.w) X.A (eval b X.env) (fun u s₂ => wpAny (model X.prog X.w) X.A (compareOp op v u) (EP X pins σ Q) X.xe s₂) X.xe s₁) X.xe s
def tB (t : TE) : TT := fun σ H Q => t σ H fun x H1 => ∃ c, x = .bl c ∧ Q c H1
theorem pt_cmp {op : CmpOp} {t : TE} (h : PC X op a b t) (h1 : behindInMarks op b = false := by first | exact nobehind _ (by decide) (by decide) | rfl) : PT X (.Compare a [op] [b] pos) (tB t) := by
  intro pins s σ H Q I hw
  refine wpAny_isTrue_Compare1 (thn (h pins s σ H _ I hw) fun v s1 h1 => thn h1 fun u s2 h2 => thn h2 fun c s3 ⟨x, H1, I1, r1, q1⟩ => ?_) h1
  obtain ⟨d, rfl, q⟩ := q1
  cases r1
  exact wpAny_truthy_bool ⟨H1, I1, q⟩
theorem pt_val {e : Expr} {t : TE} (h : PE X e t) (he : ∀ whole, isTrue e X.env whole = (do let v ← whole; standAt e.pos; holding [v] (truthy v)) := by intro _; rfl) : PT X e (tB t) := by
  intro pins s σ H Q I hw
  refine isTrue_plain (thn (h pins s σ H _ I hw) fun v s1 ⟨x, H1, I1, r1, q1⟩ => ?_) (he _)
  obtain ⟨d, rfl, q⟩ := q1
  cases r1
  exact wpAny_truthy_bool ⟨H1, I1, q⟩
variable {tA tB' : TT} {rest : List Expr}
def tAnd (t u : TT) : TT := fun σ H Q => t σ H fun c H1 => if c = true then u σ H1 Q else Q false H1
def tOr (t u : TT) : TT := fun σ H Q => t σ H fun c H1 => if c = true then Q true H1 else u σ H1 Q
def tNot (t : TT) : TT := fun σ H Q => t σ H fun c H1 => Q (!c) H1
theorem pw_and1 (ha : PT X a tA) : PW X (.BoolOp .And [a] pos) tA := by
  intro wh pins s σ H Q I h
  refine isTrue_and (thn (ha pins s σ H Q I h) fun c s1 e => ?_)
  cases c with
  | true => exact isTrue_and_nil e
  | false => exact e
theorem pw_or1 (ha : PT X a tA) : PW X (.BoolOp .Or [a] pos) tA := by
  intro wh pins s σ H Q I h
  refine isTrue_or (thn (ha pins s σ H Q I h) fun c s1 e => ?_)
  cases c with
  | false => exact isTrue_or_nil e
  | true => exact e
theorem pw_and (ha : PT X a tA) (hb : PW X (.BoolOp .And (b :: rest) pos) tB') : PW X (.BoolOp .And (a :: b :: rest) pos) (tAnd tA tB') := by
  intro wh pins s σ H Q I h
  refine isTrue_and (thn (ha pins s σ H _ I h) fun c s1 ⟨H1, I1, q1⟩ => ?_)
  cases c with
  | true => exact hb wh pins s1 σ H1 Q I1 q1
  | false => exact ⟨H1, I1, q1⟩
theorem pw_or (ha : PT X a tA) (hb : PW X (.BoolOp .Or (b :: rest) pos) tB') : PW X (.BoolOp .Or (a :: b :: rest) pos) (tOr tA tB') := by
  intro wh pins s σ H Q I h
  refine isTrue_or (thn (ha pins s σ H _ I h) fun c s1 ⟨H1, I1, q1⟩ => ?_)
  cases c with
  | true => exact ⟨H1, I1, q1⟩
  | false => exact hb wh pins s1 σ H1 Q I1 q1
theorem pt_not (ha : PT X a tA) : PT X (.UnaryOp .Not a pos) (tNot tA) := by
  intro pins s σ H Q I h
  exact isTrue_not (ha pins s σ H (fun c H1 => Q (!c) H1) I h)
def tAndV (ta tb : TE) : TE := fun σ H Q => ta σ H fun x H1 => ∃ c, x = .bl c ∧ if c = true then tb σ H1 Q else Q (.bl false) H1
def tNotV (ta : TE) : TE := fun σ H Q => ta σ H fun x H1 => ∃ c, x = .bl c ∧ Q (.bl (!c)) H1
theorem pe_one {op} {t : TE} (h : PE X a t) : PE X (.BoolOp op [a] pos) t := fun pins s σ H Q I hw => BoolOp_one (h pins s σ H Q I hw)
theorem pe_and (ha : PE X a ta) (hb : PE X (.BoolOp .And (b :: rest) pos) tb) : PE X (.BoolOp .And (a :: b :: rest) pos) (tAndV ta tb) := by
  intro pins s σ H Q I h
  refine BoolOp_and (thn (ha pins s σ H _ I h) fun v s1 ⟨x, H1, I1, r1, q1⟩ => ?_)
  obtain ⟨c, rfl, q1⟩ := q1
  cases r1
  refine wpAny_truthy_bool ?_
  cases c with
  | true => exact hb pins s1 σ H1 Q I1 q1
  | false => exact ⟨.bl false, H1, I1, rfl, q1⟩
theorem pe_not (ha : PE X a ta) : PE X (.UnaryOp .Not a pos) (tNotV ta) := by
  intro pins s σ H Q I h
  refine UnaryOp_ (thn (ha pins s σ H _ I h) fun v s1 ⟨x, H1, I1, r1, q1⟩ => ?_)
  obtain ⟨c, rfl, q1⟩ := q1
  cases r1
  exact not_of (wpAny_truthy_bool ⟨.bl (!c), H1, I1, rfl, q1⟩)
end
end L2
namespace L2
open PySem PySem.Spec PyProof.Rows
def SqL (K : PySem.W.Frag) (H : Hp) (a : Addr) (xs : List V) : Prop :=
  Rd H a (.lst xs) ∨
    ∃ (o : Obj) (its : Array Value) (n : Nat), K.lookup a = some o ∧ o.cls = .type "list" ∧ o.dict = none ∧ o.data = .seq its n ∧ its.size ≤ sizeLine ∧ Vals xs its.toList
def SqT (K : PySem.W.Frag) (H : Hp) (a : Addr) (xs : List V) : Prop :=
  Rd H a (.tup xs) ∨
    ∃ (o : Obj) (its : Array Value) (n : Nat), K.lookup a = some o ∧ o.cls = .type "tuple" ∧ o.data = .seq its n ∧ its.size ≤ sizeLine ∧ Vals xs its.toList
def absV : Value → Option V
  | .none => some .non
  | .bool b => some (.bl b)
  | .int i _ => some (.int i)
  | .str x _ => some (.str x)
  | .bytes b _ => some (.byt b)
  | .float b _ => some (.flt b)
  | .ref a => some (.ref a)
  | .type n => some (.ty n)
  | _ => none
theorem RelV.abs {x : V} {u : Value} (r : RelV x u) : absV u = some x := by
  cases x with
  | non => cases r; rfl
  | bl _ => cases r; rfl
  | int _ => obtain ⟨t, rfl⟩ := r; rfl
  | str _ => obtain ⟨t, rfl⟩ := r; rfl
  | byt _ => obtain ⟨t, rfl⟩ := r; rfl
  | flt _ => obtain ⟨t, rfl⟩ := r; rfl
  | ref _ => cases r; rfl
  | ty _ => cases r; rfl
theorem RelV.inj {x y : V} {u : Value} (r : RelV x u) (q : RelV y u) : x = y := Option.some.inj (r.abs.symm.trans q.abs)
theorem Vals.inj : ∀ {xs ys : List V} {us : List Value}, Vals xs us → Vals ys us → xs = ys
  | _, _, _, .nil, .nil => rfl
  | _, _, _, .cons r t, .cons r' t' => by rw [r.inj r', Vals.inj t t']
section
variable {X : Cx} {pins : List (Addr × Obj)} {σ : St} {H : Hp} {s : Shared} {a : Addr} {xs ys : List V}
theorem SqL.of {K : PySem.W.Frag} (h : H a = some (.lst xs)) : SqL K H a xs := .inl (.inl h)
theorem SqT.of {K : PySem.W.Frag} (h : H a = some (.tup xs)) : SqT K H a xs := .inl (.inl h)
theorem Inv.list (I : Inv X pins σ H s) (h : SqL X.K H a xs) : ∃ its : List Value, Vals xs its ∧ PlainL s.heap a its.toArray ∧ xs.length ≤ sizeLine := by
  rcases h with h | ⟨o, its, n, hk, hc, hd, hs, hz, r⟩
  · obtain ⟨z, its, n, r, e⟩ := h.ok I.hok
    exact ⟨its, r, ⟨_, n, e, rfl, rfl, rfl⟩, z⟩
  · refine ⟨its.toList, r, ⟨o, n, I.kIn a o hk, hc, hd, by simpa using hs⟩, ?_⟩
    have e := r.length
    simp only [Array.length_toList] at e
    omega
theorem Inv.tuple (I : Inv X pins σ H s) (h : SqT X.K H a xs) : ∃ its : List Value, Vals xs its ∧ IsTup s.heap a its.toArray ∧ xs.length ≤ sizeLine := by
  rcases h with h | ⟨o, its, n, hk, hc, hs, hz, r⟩
  · obtain ⟨z, its, r, p⟩ := h.ok I.hok
    exact ⟨its, r, p, z⟩
  · refine ⟨its.toList, r, ⟨o, I.kIn a o hk, hc, n, by simpa using hs⟩, ?_⟩
    have e := r.length
    simp only [Array.length_toList] at e
    omega
theorem Inv.list_inj (I : Inv X pins σ H s) (h : SqL X.K H a xs) (h' : SqL X.K H a ys) : xs = ys := by
  obtain ⟨its, r, ⟨o, n, e, _, _, d⟩, _⟩ := I.list h
  obtain ⟨its', r', ⟨o', n', e', _, _, d'⟩, _⟩ := I.list h'
  rw [e] at e'; cases e'
  rw [d] at d'
  injection d' with d1 _
  have : its = its' := by simpa using congrArg Array.toList d1
  subst this
  exact r.inj r'
end
abbrev Cx.wish (X : Cx) (E : Value → Shared → Prop) : Cx := { X with xe := E }
abbrev Cx.nox (X : Cx) : Cx := X.wish fun _ _ => False
theorem Cx.Ok.wish {X : Cx} (ok : X.Ok) (E : Value → Shared → Prop) : (X.wish E).Ok :=
  ⟨ok.mod, ok.kind, ok.glob, ok.blt, ok.above, ok.inj, ok.has, ok.cab, ok.hd, ok.frames, ok.stk, ok.exf, ok.bs, ok.bsz, ok.noex, ok.exfs, ok.funs, ok.frf⟩
theorem Cx.Ok.unwish {X : Cx} {E : Value → Shared → Prop} (ok : (X.wish E).Ok) : X.Ok :=
  ⟨ok.mod, ok.kind, ok.glob, ok.blt, ok.above, ok.inj, ok.has, ok.cab, ok.hd, ok.frames, ok.stk, ok.exf, ok.bs, ok.bsz, ok.noex, ok.exfs, ok.funs, ok.frf⟩
section
variable {X : Cx} {pins : List (Addr × Obj)} {σ : St} {H : Hp} {s : Shared} {E : Value → Shared → Prop}
theorem Inv.wish (I : Inv X pins σ H s) (E : Value → Shared → Prop) : Inv (X.wish E) pins σ H s := ⟨I.ok.wish E, I.os, I.bare, I.base, I.loc, I.cell, I.free, I.freeC, I.pin, I.hok, I.len⟩
theorem Inv.unwish (I : Inv (X.wish E) pins σ H s) : Inv X pins σ H s := ⟨I.ok.unwish, I.os, I.bare, I.base, I.loc, I.cell, I.free, I.freeC, I.pin, I.hok, I.len⟩
theorem SP.unwish {D : Ends} {f : Flow} {s' : Shared} (h : SP (X.wish E) pins D f s') : SP X pins D f s' := by
  cases f with
  | next => obtain ⟨σ', H', I, q⟩ := h; exact ⟨σ', H', I.unwish, q⟩
  | brk => obtain ⟨σ', H', I, q⟩ := h; exact ⟨σ', H', I.unwish, q⟩
  | cont => obtain ⟨σ', H', I, q⟩ := h; exact ⟨σ', H', I.unwish, q⟩
  | ret u => obtain ⟨v, σ', H', I, r, q⟩ := h; exact ⟨v, σ', H', I.unwish, r, q⟩
theorem PSs.nox {st : List Stmt} {t : TS} (h : PSs X.nox st t) : PSs X st t := fun pins s σ H D I hw =>
  wpAny_mono (h pins s σ H D (I.wish _) hw) (fun _ _ q => q.unwish) fun _ _ z => False.elim z
end
section
variable {X : Cx} {st : Stmt} {rest : List Stmt} {t u : TS} {e : Expr} {te : TE} {pos : Pos}
def tNext : TS := fun D σ H => D.nx σ H
def tSeq (t u : TS) : TS := fun D σ H => t { D with nx := u D } σ H
theorem pss_nil : PSs X [] tNext := fun _ _ σ H _ I h => wpAny_execs_nil ⟨σ, H, I, h⟩
theorem pss_cons (h1 : PS X st t) (h2 : PSs X rest u) : PSs X (st :: rest) (tSeq t u) := by
  intro pins s σ H D I h
  refine wpAny_execs_cons (thn (h1 pins s σ H { D with nx := u D } I h) fun f s1 q => ?_)
  cases f with
  | next =>
    obtain ⟨σ', H', I', q⟩ := q
    exact h2 pins s1 σ' H' D I' q
  | ret v => exact q
  | brk => exact q
  | cont => exact q
theorem pss_one (h1 : PS X st t) : PSs X [st] t := by
  intro pins s σ H D I h
  refine wpAny_execs_cons (thn (h1 pins s σ H D I h) fun f s1 q => ?_)
  cases f with
  | next => exact wpAny_execs_nil q
  | ret v => exact q
  | brk => exact q
  | cont => exact q
theorem Inv.quiet {pins : List (Addr × Obj)} {σ : St} {H : Hp} {s : Shared} (I : Inv X pins σ H s) : interactive X.env = false := by simp [interactive, I.ok.kind]
def tDrop (te : TE) : TS := fun D σ H => te σ H fun _ H1 => D.nx σ H1
theorem ps_expr (he : PE X e te) (hs : swapsWith e none pos.line X.env = pure false := by rfl) : PS X (.Expr e pos) (tDrop te) := by
  intro pins s σ H D I h
  exact wpAny_Expr_any (thn (he pins s σ H _ I h) fun v s1 ⟨x, H1, I1, r1, q1⟩ => ⟨σ, H1, I1, q1⟩) I.quiet hs
def tRet (te : TE) : TS := fun D σ H => te σ H D.rt
theorem ps_ret (he : PE X e te) : PS X (.Return (some e) pos) (tRet te) := by
  intro pins s σ H D I h
  exact wpAny_Return_some (thn (he pins s σ H _ I h) fun v s1 ⟨x, H1, I1, r1, q1⟩ => ⟨x, σ, H1, I1, r1, q1⟩)
def tIfS (c : TT) (t u : TS) : TS := fun D σ H => c σ H fun b H1 => if b = true then t D σ H1 else u D σ H1
theorem ps_if {c : Expr} {a b : List Stmt} {tc : TT} (hc : PT X c tc) (ha : PSs X a t) (hb : PSs X b u) : PS X (.If c a b pos) (tIfS tc t u) := by
  intro pins s σ H D I h
  refine wpAny_If (thn (hc pins s σ H _ I h) fun d s1 ⟨H1, I1, q1⟩ => ?_)
  cases d with
  | true => exact ha pins s1 σ H1 D I1 q1
  | false => exact hb pins s1 σ H1 D I1 q1
def tNever : TS := fun _ _ _ => False
theorem ps_never : PS X st tNever := fun _ _ _ _ _ _ h => h.elim
end
abbrev TG := V → St → Hp → (St → Hp → Prop) → Prop
abbrev TGs := List V → St → Hp → (St → Hp → Prop) → Prop
def PG (X : Cx) (target : Expr) (t : TG) : Prop :=
  ∀ (pins : List (Addr × Obj)) (s : Shared) (σ : St) (H : Hp) (v : V) (u : Value) (Q : St → Hp → Prop), Inv X pins σ H s → RelV v u → t v σ H Q →
    wpAny (model X.prog X.w) X.A (assign target X.env u) (fun _ s' => ∃ σ' H', Inv X pins σ' H' s' ∧ Q σ' H') X.xe s
def PGs (X : Cx) (ts : List Expr) (t : TGs) : Prop :=
  ∀ (pins : List (Addr × Obj)) (s : Shared) (σ : St) (H : Hp) (vs : List V) (us : List Value) (Q : St → Hp → Prop), Inv X pins σ H s → Vals vs us → t vs σ H Q →
    wpAny (model X.prog X.w) X.A (assignInOrder ((assignEach ts X.env).map (·.2)) us) (fun _ s' => ∃ σ' H', Inv X pins σ' H' s' ∧ Q σ' H') X.xe s
abbrev TSet := V → V → V → Hp → (Hp → Prop) → Prop
def PSet (X : Cx) (t : TSet) : Prop :=
  ∀ (pins : List (Addr × Obj)) (s : Shared) (σ : St) (H : Hp) (o i v : V) (ov iv u : Value) (Q : Hp → Prop), Inv X pins σ H s → RelV o ov → RelV i iv → RelV v u → t o i v H Q →
    wpAny (model X.prog X.w) X.A (setItem ov iv u) (fun _ s' => ∃ H', Inv X pins σ H' s' ∧ Q H') X.xe s
section
variable {X : Cx} {pos : Pos}
def gName (i : Nat) : TG := fun v σ H Q => Q (σ.set i (some v)) H
theorem pg_name {i : Nat} {x : Str} (hN : X.N.Nodup) (hi : X.N[i]? = some x) (hx : Loc X.env.scope x) (hf : X.fn x = true ∨ X.env.scope.names.lookup x = some .local := by first | exact .inl rfl | exact .inr rfl | assumption) : PG X (.Name x pos) (gName i) := by
  intro pins s σ H v u Q I r h
  exact wpAny_assign_Name (store_ok I hN hi hx r (fun s' I' => ⟨_, H, I', h⟩) hf)
def gNil : TGs := fun vs σ H Q => vs = [] ∧ Q σ H
def gCons (t : TG) (u : TGs) : TGs := fun vs σ H Q => ∃ v r, vs = v :: r ∧ t v σ H fun σ' H' => u r σ' H' Q
theorem pgs_nil : PGs X [] gNil := by
  intro pins s σ H vs us Q I r h
  obtain ⟨e, h⟩ := h
  subst e
  cases r
  exact assignInOrder_nil ⟨σ, H, I, h⟩
theorem pgs_cons {e : Expr} {es : List Expr} {t : TG} {u : TGs} (h1 : PG X e t) (h2 : PGs X es u)
    (hs : (assignEach (e :: es) X.env).map (·.2) = assign e X.env :: (assignEach es X.env).map (·.2) := by rfl) : PGs X (e :: es) (gCons t u) := by
  intro pins s σ H vs us Q I r h
  obtain ⟨v, vr, e1, h⟩ := h
  subst e1
  cases r with
  | cons r rr =>
    rw [hs]
    refine assignInOrder_cons (thn (h1 pins s σ H _ _ _ I r h) fun _ s1 ⟨σ1, H1, I1, q1⟩ => ?_)
    exact h2 pins s1 σ1 H1 _ _ Q I1 rr q1
def gTup (K : PySem.W.Frag) (n : Nat) (t : TGs) : TG := fun v σ H Q => ∃ a xs, v = .ref a ∧ SqT K H a xs ∧ xs.length = n ∧ t xs σ H Q
theorem pg_tup {es : List Expr} {k : Nat} {t : TGs} {n : Nat} (hc : X.calm = true) (h : PGs X es t)
    (hn : (assignEach es X.env).length = n := by rfl) (hst : (assignEach es X.env).findIdx? (·.1) = none := by rfl) : PG X (.Tuple es k pos) (gTup X.K n t) := by
  intro pins s σ H v u Q I r hw
  obtain ⟨a, xs, e1, hq, hl, hw⟩ := hw
  subst e1
  cases r
  obtain ⟨its, rv, ht, hz⟩ := I.tuple hq
  refine assign_Tuple_tuple (I.ok.hd hc) ht (by simp [hn, ← hl, rv.length]) hst fun h' hx => ?_
  have I1 : Inv X pins σ H { s with heap := h' } := I.kept (t' := s.toks) fun b o e => hx b o (Nat.ne_of_lt (Heap.lt_size e)) e
  exact h pins _ σ H xs _ Q I1 (by simpa using rv) hw
def gSub (to ti : TE) (t : TSet) : TG := fun v σ H Q => to σ H fun o H1 => ti σ H1 fun i H2 => t o i v H2 fun H3 => Q σ H3
theorem pg_sub {o i : Expr} {to ti : TE} {t : TSet} (ho : PE X o to) (hi : PE X i ti) (hs : PSet X t)
    (ha : ∀ v, assign (.Subscript o i pos) X.env v = (do
      let ov ← holding [v] (eval o X.env)
      let iv ← holding [v, ov] (eval i X.env)
      standAt pos
      holding [v, ov, iv] (setItem ov iv v)
      release [v, ov, iv] []) := by intro _; rfl) : PG X (.Subscript o i pos) (gSub to ti t) := by
  intro pins s σ H v u Q I r h
  rw [ha]
  refine wpAny_bind (wpAny_holding (thn (ho pins s σ H _ I h) fun ov s1 ⟨x, H1, I1, r1, q1⟩ => ?_))
  refine wpAny_bind (wpAny_holding (thn (hi pins s1 σ H1 _ I1 q1) fun iv s2 ⟨y, H2, I2, r2, q2⟩ => ?_))
  refine wpAny_bind (wpAny_standAt (wpAny_bind (wpAny_holding (thn (hs pins s2 σ H2 x y v ov iv u _ I2 r1 r2 r q2) fun _ s3 ⟨H3, I3, q3⟩ => ?_))))
  exact wpAny_release ⟨σ, H3, I3, q3⟩
def tAsg (te : TE) (g : TG) : TS := fun D σ H => te σ H fun x H1 => g x σ H1 D.nx
theorem ps_asg {tg e : Expr} {te : TE} {g : TG} (he : PE X e te) (hg : PG X tg g) (hs : swapsWithSole [tg] e pos.line X.env = pure false := by rfl) (hw : swappedStores [tg] e X.env = pure none := by rfl)
    (h1 : (assignEach [tg] X.env).map (·.2) = [assign tg X.env] := by rfl) : PS X (.Assign [tg] e pos) (tAsg te g) := by
  intro pins s σ H D I h
  refine wpAny_Assign_stores (thn (he pins s σ H _ I h) fun v s1 ⟨x, H1, I1, r1, q1⟩ => ?_) hs hw
  rw [h1]
  exact thn (hg pins s1 σ H1 x v _ I1 r1 q1) fun _ s2 q => q
theorem ps_set {i : Nat} {x : Str} {e : Expr} {te : TE} {pos' : Pos} (hN : X.N.Nodup) (hi : X.N[i]? = some x) (hx : Loc X.env.scope x) (he : PE X e te) (hs : swapsWith e (some (.Name x pos')) pos.line X.env = pure false := by rfl) (hf : X.fn x = true ∨ X.env.scope.names.lookup x = some .local := by first | exact .inl rfl | exact .inr rfl | assumption) :
    PS X (.Assign [.Name x pos'] e pos) (tAsg te (gName i)) := by
  intro pins s σ H D I h
  refine wpAny_Assign_Name (thn (he pins s σ H _ I h) fun v s1 ⟨y, H1, I1, r1, q1⟩ => ?_) hs
  exact store_ok I1 hN hi hx r1 (fun s2 I2 => ⟨_, H1, I2, q1⟩) hf
end
section
variable {X : Cx} {pos : Pos}
def tWhile (c : TT) (tb : TS) : TS := fun D σ H => ∃ W : Nat → St → Hp → Prop, (∃ m, W m σ H) ∧ ∀ m σ H, W m σ H →
  c σ H fun b H1 => if b = true then ∃ N : St → Hp → Prop, (∀ σ' H', N σ' H' → ∃ m', m' < m ∧ W m' σ' H') ∧ tb { D with nx := N, ct := N, bk := D.nx } σ H1 else D.nx σ H1
theorem ps_while {c : Expr} {body : List Stmt} {tc : TT} {tb : TS} (hp : PassesOwn (model X.prog X.w) X.A X.env X.xe) (hc : PT X c tc) (hb : PSs X body tb) : PS X (.While c body [] pos) (tWhile tc tb) := by
  intro pins s σ H D I h
  obtain ⟨W, ⟨m0, w0⟩, turn⟩ := h
  refine wpAny_While (codeAny_whileLoop (fun n s' => ∃ σ' H', Inv X pins σ' H' s' ∧ W n σ' H') ?_ m0 ⟨σ, H, I, w0⟩)
  rintro n s1 ⟨σ1, H1, I1, w1⟩
  refine wpAny_passesOwn hp (thn (hc pins s1 σ1 H1 _ I1 (turn n σ1 H1 w1)) fun b s2 ⟨H2, I2, q2⟩ => ?_)
  cases b with
  | true =>
    obtain ⟨N, hN, q2⟩ := q2
    rw [if_pos rfl]
    refine wpAny_passesOwn hp (thn (hb pins s2 σ1 H2 _ I2 q2) fun f s3 q3 => ?_)
    cases f with
    | next =>
      obtain ⟨σ3, H3, I3, n3⟩ := q3
      obtain ⟨m', hm, w3⟩ := hN σ3 H3 n3
      exact ⟨m', hm, σ3, H3, I3, w3⟩
    | cont =>
      obtain ⟨σ3, H3, I3, n3⟩ := q3
      obtain ⟨m', hm, w3⟩ := hN σ3 H3 n3
      exact ⟨m', hm, σ3, H3, I3, w3⟩
    | brk => exact q3
    | ret v => exact q3
  | false =>
    rw [if_neg Bool.false_ne_true]
    exact wpAny_execs_nil ⟨σ1, H2, I2, q2⟩
end
structure It where
  go : Nat → Hp → Prop
  yld : Nat → Hp → V → Hp → Prop
  stop : Nat → Hp → Prop
def FpOk (X : Cx) (pins : List (Addr × Obj)) (H : Hp) (b : Addr) : Prop :=
  H b = none ∧ b ≠ X.env.locals ∧ b ∉ X.fs ∧ (b ∈ X.ex ∨ X.s₀.heap.objs.size ≤ b) ∧ (∀ x c, X.env.cells.lookup x = some c → c ≠ b) ∧ ∀ p ∈ X.pn ++ pins, p.1 ≠ b
theorem Inv.fpOk {X : Cx} {pins : List (Addr × Obj)} {σ : St} {H H' : Hp} {s : Shared} {b : Addr} (I : Inv X pins σ H s) (hb : s.heap.objs.size ≤ b) (hn : H' b = none) : FpOk X pins H' b := by
  refine ⟨hn, Nat.ne_of_gt (Nat.lt_of_lt_of_le I.lt hb), I.nofs hb, .inr (Nat.le_trans I.sz hb), fun x c e z => ?_, fun p hp z => ?_⟩
  · obtain ⟨v, q⟩ := I.cell x c e
    exact absurd (Nat.lt_of_lt_of_le q.lt (by rw [z]; exact hb)) (Nat.lt_irrefl _)
  · exact absurd (Nat.lt_of_lt_of_le (Heap.lt_size (I.pin p hp).1) (by rw [z]; exact hb)) (Nat.lt_irrefl _)
structure Turn (P : Program) (w : World) (K : PySem.W.Frag) (tg : Expr) (J : It) (fp : List Addr) (it : Addr) (tn : Nat → Heap → Prop) : Prop where
  mem : it ∈ fp
  obj : ∀ i h, tn i h → ∀ b ∈ fp, ∃ o, h.get? b = some o ∧ ∀ v, o.data ≠ .cell v
  keep : ∀ i h h', tn i h → (∀ b ∈ fp, ∀ o, h.get? b = some o → h'.get? b = some o) → tn i h'
  item : ∀ (X : Cx), X.prog = P → X.w = w → X.K = K → X.calm = true → ∀ (i : Nat) (pins : List (Addr × Obj)) (s : Shared) (σ : St) (H : Hp) (E : Value → Shared → Prop), Inv X pins σ H s → (∀ b ∈ fp, FpOk X pins H b) → tn i s.heap → J.go i H →
    wpAny (model P w) X.A (pyNext (.ref it)) (fun r s1 => ∃ u, r = some u ∧
      wpAny (model P w) X.A (letOwnedTupleGo tg (.ref it) u) (fun _ s2 => ∃ x H', Inv X pins σ H' s2 ∧ RelV x u ∧ J.yld i H x H' ∧ tn (i + 1) s2.heap ∧ ∀ b ∈ fp, H' b = none) E s1) E s
  done : ∀ (X : Cx), X.prog = P → X.w = w → X.K = K → X.calm = true → ∀ (i : Nat) (pins : List (Addr × Obj)) (s : Shared) (σ : St) (H : Hp) (E : Value → Shared → Prop), Inv X pins σ H s → (∀ b ∈ fp, FpOk X pins H b) → tn i s.heap → J.stop i H →
    wpAny (model P w) X.A (pyNext (.ref it)) (fun r s1 => r = none ∧ Inv X pins σ H s1) E s
  self : ∀ (A : Around) (i : Nat) (s : Shared) (Q : Value → Shared → Prop) (E : Value → Shared → Prop), tn i s.heap → Q (.ref it) s → wpAny (model P w) A (pyIter (.ref it)) Q E s
abbrev TI := St → Hp → (It → Hp → Prop) → Prop
def PIE (X : Cx) (pins : List (Addr × Obj)) (σ : St) (tg : Expr) (R : It → Hp → Prop) (itv : Value) (s2 : Shared) : Prop :=
  ∃ (it : Addr) (fp : List Addr) (tn : Nat → Heap → Prop) (J : It) (H' : Hp), itv = .ref it ∧ Inv X pins σ H' s2 ∧ Turn X.prog X.w X.K tg J fp it tn ∧ tn 0 s2.heap ∧ (∀ b ∈ fp, FpOk X pins H' b) ∧ R J H'
def PI (X : Cx) (tg iter : Expr) (wi : TI) : Prop :=
  ∀ (pins : List (Addr × Obj)) (s : Shared) (σ : St) (H : Hp) (R : It → Hp → Prop), Inv X pins σ H s → wi σ H R →
    wpAny (model X.prog X.w) X.A (eval iter X.env) (fun v s1 => wpAny (model X.prog X.w) X.A (pyIter v) (PIE X pins σ tg R) X.xe s1) X.xe s
theorem go_of {M : Model} {A : Around} {E : Value → Shared → Prop} {s : Shared} {tg : Expr} {it : Addr} {u : Value} {o : Obj} {n : String} {vs : Array Value} {Q : Unit → Shared → Prop} (ho : s.heap.get? it = some o) (hc : o.cls = .type n) (hd : o.data = .fields vs)
    (hn : ["enumerate", "zip", "dict_itemiterator", "dict_reverseitemiterator", "odict_iterator", "itertools.zip_longest", "itertools.pairwise"].contains n = false) (hQ : Q () s) : wpAny M A (letOwnedTupleGo tg (.ref it) u) Q E s := by
  unfold letOwnedTupleGo
  cases tg <;> first
    | exact wpAny_pure hQ
    | (cases u <;> first
        | exact wpAny_pure hQ
        | (refine wpAny_bind (wpAny_load ho ?_)
           rw [hc, hd]
           show wpAny M A (if (["enumerate", "zip", "dict_itemiterator", "dict_reverseitemiterator", "odict_iterator", "itertools.zip_longest", "itertools.pairwise"].contains n && vs[0]? == some (rawInt _)) = true then _ else _) Q E s
           rw [if_neg (by intro h; rw [hn, Bool.false_and] at h; cases h)]
           exact wpAny_pure hQ))
def Itl (K : PySem.W.Frag) (a : Addr) : It :=
  ⟨fun i H => ∃ xs x, SqL K H a xs ∧ xs[i]? = some x, fun i H x H' => H' = H ∧ ∀ xs, SqL K H a xs → xs[i]? = some x, fun i H => ∃ xs, SqL K H a xs ∧ xs.length ≤ i⟩
def Itr (lo : Int) (n : Nat) : It := ⟨fun i _ => i < n, fun i H x H' => H' = H ∧ x = .int (lo + i), fun i _ => n ≤ i⟩
theorem turn_list {P : Program} {w : World} {K : PySem.W.Frag} {tg : Expr} (a it : Addr) : Turn P w K tg (Itl K a) [it] it (fun i h => h.IsListIter it a i) where
  mem := by simp
  obj := fun i h st b hb => by
    have e : b = it := by simpa using hb
    subst e
    obtain ⟨o, e, c, d⟩ := st
    exact ⟨o, e, fun v z => by rw [d] at z; cases z⟩
  keep := fun i h h' st k => st.at fun o e => k it (by simp) o e
  item := by
    intro X hP hw hK hc i pins s σ H E I hf st hg
    subst hP hw hK
    obtain ⟨xs, x, hq, hx⟩ := hg
    obtain ⟨its, rv, p, hz⟩ := I.list hq
    obtain ⟨u, hu, ru⟩ := rv.get hx
    obtain ⟨f0, f1, f2, f3, f4, f5⟩ := hf it (by simp)
    refine wpAny_pyNext_list_item st p.isList (x := u) (by simpa using hu) fun h' st' sb => ?_
    have I1 : Inv X pins σ H { s with heap := h' } := I.turned (t' := s.toks) (fun b o hb e => (sb.2 b hb).trans e) f0 f1 f3 f4 f5
    obtain ⟨o, e, c, d⟩ := id st'
    exact ⟨u, rfl, go_of (s := { s with heap := h' }) e c d (by decide) ⟨x, H, I1, ru, ⟨rfl, fun ys hy => by rw [I.list_inj hy hq]; exact hx⟩, st', fun b hb => (hf b hb).1⟩⟩
  done := by
    intro X hP hw hK hc i pins s σ H E I hf st hg
    subst hP hw hK
    obtain ⟨xs, hq, hx⟩ := hg
    obtain ⟨its, rv, p, hz⟩ := I.list hq
    obtain ⟨f0, f1, f2, f3, f4, f5⟩ := hf it (by simp)
    have hl := rv.length
    exact wpAny_pyNext_list_end (I.ok.hd hc) st p.isList (by simp; omega) fun h' eb => ⟨rfl, I.turned (t' := s.toks) (fun b o hb e => eb b o hb e) f0 f1 f3 f4 f5⟩
  self := fun _ _ _ _ _ st h => wpAny_pyIter_listiter st h
theorem turn_range {P : Program} {w : World} {K : PySem.W.Frag} {tg : Expr} (it : Addr) (lo : Int) (n : Nat) : Turn P w K tg (Itr lo n) [it] it (fun i h => IsRangeIter h it (lo + (i : Nat) * 1) ((n : Int) - (i : Nat)) 1) where
  mem := by simp
  obj := fun i h st b hb => by
    have e : b = it := by simpa using hb
    subst e
    exact ⟨_, st, fun v z => by
      have z' : Data.fields _ = Data.cell v := z
      cases z'⟩
  keep := fun i h h' st k => k it (by simp) _ st
  item := by
    intro X hP hw hK hc i pins s σ H E I hf st hg
    subst hP hw hK
    obtain ⟨f0, f1, f2, f3, f4, f5⟩ := hf it (by simp)
    have W := Walks.range (prog := X.prog) (w := X.w) (I.ok.hd hc) it lo 1 n
    refine W.item i s _ _ hg st fun v h' tk hv st' kk => ?_
    obtain ⟨t, rfl⟩ := hv
    have I1 : Inv X pins σ H { s with heap := h', toks := tk } := I.turned (fun b o hb e => kk b o (by simpa using hb) e) f0 f1 f3 f4 f5
    refine ⟨_, rfl, go_of (s := { s with heap := h', toks := tk }) (n := "range_iterator") st' rfl rfl (by decide) ⟨.int (lo + i), H, I1, ⟨t, ?_⟩, ⟨rfl, rfl⟩, st', fun b hb => (hf b hb).1⟩⟩
    rw [Int.mul_one]
  done := by
    intro X hP hw hK hc i pins s σ H E I hf st hg
    subst hP hw hK
    obtain ⟨f0, f1, f2, f3, f4, f5⟩ := hf it (by simp)
    exact wpAny_pyNext_range_end (I.ok.hd hc) st (by have : n ≤ i := hg; omega) fun h' eb => ⟨rfl, I.turned (t' := s.toks) (fun b o hb e => eb b o hb e) f0 f1 f3 f4 f5⟩
  self := fun _ _ _ _ _ st h => wpAny_pyIter_rangeiter st h
end L2
namespace L2
open PySem PySem.Spec PyProof.Rows
section
variable {X : Cx} {tg : Expr}
def iList (K : PySem.W.Frag) (tl : TE) : TI := fun σ H R => tl σ H fun x H1 => ∃ a, x = .ref a ∧ (∃ xs, SqL K H1 a xs) ∧ R (Itl K a) H1
theorem pi_list {l : Expr} {tl : TE} (hl : PE X l tl) : PI X tg l (iList X.K tl) := by
  intro pins s σ H R I h
  refine thn (hl pins s σ H _ I h) fun v s1 ⟨x, H1, I1, r1, q1⟩ => ?_
  obtain ⟨a, e, ⟨xs, hq⟩, q⟩ := q1
  subst e
  cases r1
  obtain ⟨its, rv, p, hz⟩ := I1.list hq
  refine wpAny_pyIter_list p.isList ?_
  refine ⟨s1.heap.objs.size, [s1.heap.objs.size], _, _, H1, rfl, I1.kept (t' := s1.toks) fun b o e => Heap.get?_push_of_some _ e, turn_list a _, ⟨_, Heap.get?_push_size _ rfl, rfl, rfl⟩, fun b hb => ?_, q⟩
  have e : b = s1.heap.objs.size := by simpa using hb
  subst e
  exact I1.fpOk (Nat.le_refl _) (I1.hok.fresh (Nat.le_refl _))
theorem range_it {pins : List (Addr × Obj)} {σ : St} {H : Hp} {s : Shared} {R : It → Hp → Prop} {E : Value → Shared → Prop} {lo hi : Int} {t u v : Tok} {tk : Nat} (I : Inv X pins σ H s) (h1 : -(2 ^ 62) ≤ lo) (h2 : lo < 2 ^ 62) (h3 : -(2 ^ 62) ≤ hi) (h4 : hi < 2 ^ 62)
    (q : R (Itr lo (hi - lo).toNat) H) : wpAny (model X.prog X.w) X.A (pyIter (.ref s.heap.objs.size)) (PIE X pins σ tg R) E { s with heap := s.heap.push { cls := .type "range", data := .fields #[.int lo t, .int hi u, .int 1 v] }, toks := tk } := by
  refine wpAny_pyIter_range (IsRange.new ..) (small_one h1 h2 h3 h4) ?_
  have I1 : Inv X pins σ H { s with heap := s.heap.push { cls := .type "range", data := .fields #[.int lo t, .int hi u, .int 1 v] }, toks := tk } := I.kept fun b o e => Heap.get?_push_of_some _ e
  refine ⟨(s.heap.push { cls := .type "range", data := .fields #[.int lo t, .int hi u, .int 1 v] }).objs.size, [(s.heap.push { cls := .type "range", data := .fields #[.int lo t, .int hi u, .int 1 v] }).objs.size], _, _, H, rfl,
    I1.kept (t' := tk) fun b o e => Heap.get?_push_of_some _ e, turn_range _ lo (hi - lo).toNat, ?_, fun b hb => ?_, q⟩
  · have e1 : lo + ((0 : Nat) : Int) * 1 = lo := by simp
    have e2 : (((hi - lo).toNat : Nat) : Int) - ((0 : Nat) : Int) = Builtin.Range.rangeSize lo hi 1 := by rw [rangeSize_one]; split <;> omega
    show IsRangeIter _ _ (lo + ((0 : Nat) : Int) * 1) ((((hi - lo).toNat : Nat) : Int) - ((0 : Nat) : Int)) 1
    rw [e1, e2]
    exact Heap.get?_push_size _ rfl
  · have e : b = (s.heap.push { cls := .type "range", data := .fields #[.int lo t, .int hi u, .int 1 v] }).objs.size := by simpa using hb
    subst e
    exact I1.fpOk (Nat.le_refl _) (I1.hok.fresh (Nat.le_refl _))
def iRng1 (ta : TA) : TI := fun σ H R => ta σ H fun vs H1 => ∃ j : Int, vs = [.int j] ∧ -(2 ^ 62) ≤ j ∧ j < 2 ^ 62 ∧ R (Itr 0 j.toNat) H1
def iRng2 (ta : TA) : TI := fun σ H R => ta σ H fun vs H1 => ∃ i j : Int, vs = [.int i, .int j] ∧ (-(2 ^ 62) ≤ i ∧ i < 2 ^ 62 ∧ -(2 ^ 62) ≤ j ∧ j < 2 ^ 62) ∧ R (Itr i (j - i).toNat) H1
theorem pi_range1 {a : Expr} {ta : TA} {p pos : Pos} (hg : Gl X "range") (hm : X.mg "range" = none) (ha : PA X [a] ta) (hs : starEach [a] X.env = [(false, eval a X.env)] := by rfl) : PI X tg (.Call (.Name "range" p) [a] [] pos) (iRng1 ta) := by
  intro pins s σ H R I h
  refine Call_ (ld_blt I hg hm boot_range (PyProof.Rows.callWith_type1 (thn (ha pos pins s σ H _ I h) fun us s1 ⟨vs, H1, I1, r1, q1⟩ => ?_) hs rfl))
  obtain ⟨j, e, q1, q2, q⟩ := q1
  subst e
  cases r1 with
  | cons r rr =>
    cases rr
    obtain ⟨t, rfl⟩ := r
    exact call_range_1 (range_it I1 (by omega) (by omega) q1 q2 (by simpa using q))
theorem pi_range2 {a b : Expr} {ta : TA} {p pos : Pos} (hg : Gl X "range") (hm : X.mg "range" = none) (ha : PA X [a, b] ta) (hs : starEach [a, b] X.env = [(false, eval a X.env), (false, eval b X.env)] := by rfl) (hs2 : starEach [b] X.env = [(false, eval b X.env)] := by rfl) :
    PI X tg (.Call (.Name "range" p) [a, b] [] pos) (iRng2 ta) := by
  intro pins s σ H R I h
  refine Call_ (ld_blt I hg hm boot_range (PyProof.Rows.callWith_type1 (thn (ha pos pins s σ H _ I h) fun us s1 ⟨vs, H1, I1, r1, q1⟩ => ?_) (by rw [hs, hs2]) (by rw [hs2]; rfl)))
  obtain ⟨i, j, e, ⟨q1, q2, q3, q4⟩, q⟩ := q1
  subst e
  cases r1 with
  | cons r rr =>
    cases rr with
    | cons r' rr =>
      cases rr
      obtain ⟨t, rfl⟩ := r
      obtain ⟨t', rfl⟩ := r'
      exact call_range_2 (range_it I1 q1 q2 q3 q4 q)
def tFor (wi : TI) (g : TG) (tb : TS) : TS := fun D σ H => wi σ H fun J H1 => ∃ W : Nat → Nat → St → Hp → Prop, (∃ m, W 0 m σ H1) ∧ ∀ i m σ H, W i m σ H →
  (J.stop i H ∧ D.nx σ H) ∨ (J.go i H ∧ ∃ N : St → Hp → Prop, (∀ σ' H', N σ' H' → ∃ m', m' < m ∧ W (i + 1) m' σ' H') ∧ ∀ x H', J.yld i H x H' → g x σ H' fun σ2 H2 => tb { D with nx := N, ct := N, bk := D.nx } σ2 H2)
def pinsAt (fp : List Addr) (h : Heap) : List (Addr × Obj) := fp.filterMap fun b => (h.get? b).map fun o => (b, o)
theorem mem_pinsAt {fp : List Addr} {h : Heap} {b : Addr} {o : Obj} (hb : b ∈ fp) (e : h.get? b = some o) : (b, o) ∈ pinsAt fp h := List.mem_filterMap.mpr ⟨b, hb, by rw [e]; rfl⟩
theorem of_pinsAt {fp : List Addr} {h : Heap} {p : Addr × Obj} (hp : p ∈ pinsAt fp h) : p.1 ∈ fp ∧ h.get? p.1 = some p.2 := by
  obtain ⟨b, hb, e⟩ := List.mem_filterMap.mp hp
  cases q : h.get? b with
  | none => rw [q] at e; cases e
  | some o =>
    rw [q] at e
    have e' : (b, o) = p := Option.some.inj e
    subst e'
    exact ⟨hb, q⟩
theorem Inv.pinned {pins : List (Addr × Obj)} {σ : St} {H : Hp} {s : Shared} {fp : List Addr} (I : Inv X pins σ H s) (hf : ∀ b ∈ fp, FpOk X pins H b) (ho : ∀ b ∈ fp, ∃ o, s.heap.get? b = some o ∧ ∀ v, o.data ≠ .cell v) : Inv X (pins ++ pinsAt fp s.heap) σ H s :=
  I.pins_of fun p hp => (List.mem_append.mp hp).elim (fun z => I.pin p (List.mem_append_right _ z)) fun z => by
    obtain ⟨hb, e⟩ := of_pinsAt z
    obtain ⟨f0, f1, f2, _⟩ := hf p.1 hb
    obtain ⟨o, e', d⟩ := ho p.1 hb
    rw [e] at e'; cases e'
    exact ⟨e, f0, f1, f2, d⟩
theorem Inv.unpinned {pins pl : List (Addr × Obj)} {σ : St} {H : Hp} {s : Shared} (I : Inv X (pins ++ pl) σ H s) : Inv X pins σ H s := I.pins_of fun p hp => I.pin p (List.mem_append_right _ (List.mem_append_left _ hp))
theorem ps_for {iter : Expr} {body : List Stmt} {wi : TI} {g : TG} {tb : TS} {pos : Pos} (hp : PassesOwn (model X.prog X.w) X.A X.env X.xe) (hc : X.calm = true) (hi : PI X tg iter wi) (hg : PG X tg g) (hb : PSs X body tb)
    (hs : ∀ x, foldedSetIterable iter X.env x = pure x := by intro _; rfl) : PS X (.For tg iter body [] pos) (tFor wi g tb) := by
  intro pins s σ H D I h
  refine wpAny_For (thn (hi pins s σ H _ I h) fun v s1 h1 => thn h1 fun itv s2 h2 => ?_) hs
  obtain ⟨it, fp, tn, J, H2, e, I2, T, st2, f2, W, ⟨m0, w0⟩, turn⟩ := h2
  subst e
  have stat : ∀ {H' : Hp}, (∀ b ∈ fp, H' b = none) → ∀ b ∈ fp, FpOk X pins H' b := fun hn b hb => ⟨hn b hb, (f2 b hb).2⟩
  refine codeAny_forLoop_any (fun n s' => ∃ i σ' H', Inv X pins σ' H' s' ∧ tn i s'.heap ∧ (∀ b ∈ fp, H' b = none) ∧ W i n σ' H') ?_ m0 ⟨0, σ, H2, I2, st2, fun b hb => (f2 b hb).1, w0⟩
  rintro n s3 ⟨i, σ3, H3, I3, st3, fr3, w3⟩
  rcases turn i n σ3 H3 w3 with ⟨stop, qn⟩ | ⟨go, N, hN, step⟩
  · refine wpAny_passesOwn hp (thn (T.done X rfl rfl rfl hc i pins s3 σ3 H3 X.xe I3 (stat fr3) st3 stop) fun r s4 ⟨hr, I4⟩ => ?_)
    subst hr
    exact wpAny_execs_nil ⟨σ3, H3, I4, qn⟩
  · refine wpAny_passesOwn hp (thn (T.item X rfl rfl rfl hc i pins s3 σ3 H3 X.xe I3 (stat fr3) st3 go) fun r s4 ⟨u, hr, h4⟩ => ?_)
    subst hr
    refine wpAny_passesOwn hp (thn h4 fun _ s5 ⟨x, H5, I5, r5, y5, st5, fr5⟩ => ?_)
    have I5' := I5.pinned (stat fr5) (T.obj _ _ st5)
    refine wpAny_passesOwn hp (thn (hg _ s5 σ3 H5 x u _ I5' r5 (step x H5 y5)) fun _ s6 ⟨σ6, H6, I6, q6⟩ => ?_)
    refine wpAny_passesOwn hp (thn (hb _ s6 σ6 H6 _ I6 q6) fun f s7 q7 => ?_)
    have again : ∀ {σ7 : St} {H7 : Hp}, Inv X (pins ++ pinsAt fp s5.heap) σ7 H7 s7 → N σ7 H7 → ∃ m, m < n ∧ ∃ i σ' H', Inv X pins σ' H' s7 ∧ tn i s7.heap ∧ (∀ b ∈ fp, H' b = none) ∧ W i m σ' H' := fun {σ7 H7} I7 n7 => by
      obtain ⟨m', hm, w7⟩ := hN σ7 H7 n7
      refine ⟨m', hm, i + 1, σ7, H7, I7.unpinned, T.keep _ _ _ st5 fun b hb o e => (I7.pin (b, o) (List.mem_append_right _ (List.mem_append_right _ (mem_pinsAt hb e)))).1, fun b hb => ?_, w7⟩
      obtain ⟨o, e, d⟩ := T.obj _ _ st5 b hb
      exact (I7.pin (b, o) (List.mem_append_right _ (List.mem_append_right _ (mem_pinsAt hb e)))).2.1
    cases f with
    | next => obtain ⟨σ7, H7, I7, n7⟩ := q7; exact again I7 n7
    | cont => obtain ⟨σ7, H7, I7, n7⟩ := q7; exact again I7 n7
    | brk => obtain ⟨σ7, H7, I7, q7⟩ := q7; exact ⟨σ7, H7, I7.unpinned, q7⟩
    | ret v => obtain ⟨x7, σ7, H7, I7, r7, q7⟩ := q7; exact ⟨x7, σ7, H7, I7.unpinned, r7, q7⟩
end
theorem for_list {K : PySem.W.Frag} {a : Addr} {xs : List V} {g : TG} {tb : TS} {D : Ends} {σ : St} {H : Hp} (Pv : Nat → St → Hp → Prop) (h0 : Pv 0 σ H) (hl : ∀ i σ H, i ≤ xs.length → Pv i σ H → SqL K H a xs)
    (hs : ∀ i x σ H, xs[i]? = some x → Pv i σ H → g x σ H fun σ2 H2 => tb { D with nx := Pv (i + 1), ct := Pv (i + 1), bk := D.nx } σ2 H2) (hd : ∀ σ H, Pv xs.length σ H → D.nx σ H) :
    ∃ W : Nat → Nat → St → Hp → Prop, (∃ m, W 0 m σ H) ∧ ∀ i m σ H, W i m σ H →
      ((Itl K a).stop i H ∧ D.nx σ H) ∨ ((Itl K a).go i H ∧ ∃ N : St → Hp → Prop, (∀ σ' H', N σ' H' → ∃ m', m' < m ∧ W (i + 1) m' σ' H') ∧ ∀ x H', (Itl K a).yld i H x H' → g x σ H' fun σ2 H2 => tb { D with nx := N, ct := N, bk := D.nx } σ2 H2) := by
  refine ⟨fun i m σ H => m = xs.length - i ∧ i ≤ xs.length ∧ Pv i σ H, ⟨xs.length, by simp, Nat.zero_le _, h0⟩, ?_⟩
  rintro i m σ H ⟨rfl, hi, p⟩
  have q := hl i σ H hi p
  by_cases hlt : i < xs.length
  · refine .inr ⟨⟨xs, xs[i], q, by simp [hlt]⟩, Pv (i + 1), fun σ' H' p' => ⟨xs.length - (i + 1), by omega, rfl, hlt, p'⟩, fun x H' y => ?_⟩
    obtain ⟨e, y⟩ := y
    subst e
    exact hs i x σ _ (y xs q) p
  · have e : i = xs.length := by omega
    subst e
    exact .inl ⟨⟨xs, q, Nat.le_refl _⟩, hd σ H p⟩
theorem for_range {lo : Int} {n : Nat} {g : TG} {tb : TS} {D : Ends} {σ : St} {H : Hp} (Pv : Nat → St → Hp → Prop) (h0 : Pv 0 σ H)
    (hs : ∀ i σ H, i < n → Pv i σ H → g (.int (lo + i)) σ H fun σ2 H2 => tb { D with nx := Pv (i + 1), ct := Pv (i + 1), bk := D.nx } σ2 H2) (hd : ∀ σ H, Pv n σ H → D.nx σ H) :
    ∃ W : Nat → Nat → St → Hp → Prop, (∃ m, W 0 m σ H) ∧ ∀ i m σ H, W i m σ H →
      ((Itr lo n).stop i H ∧ D.nx σ H) ∨ ((Itr lo n).go i H ∧ ∃ N : St → Hp → Prop, (∀ σ' H', N σ' H' → ∃ m', m' < m ∧ W (i + 1) m' σ' H') ∧ ∀ x H', (Itr lo n).yld i H x H' → g x σ H' fun σ2 H2 => tb { D with nx := N, ct := N, bk := D.nx } σ2 H2) := by
  refine ⟨fun i m σ H => m = n - i ∧ i ≤ n ∧ Pv i σ H, ⟨n, by simp, Nat.zero_le _, h0⟩, ?_⟩
  rintro i m σ H ⟨rfl, hi, p⟩
  by_cases hlt : i < n
  · refine .inr ⟨hlt, Pv (i + 1), fun σ' H' p' => ⟨n - (i + 1), by omega, rfl, hlt, p'⟩, fun x H' y => ?_⟩
    obtain ⟨e, y⟩ := y
    subst e y
    exact hs i σ _ hlt p
  · have e : i = n := by omega
    subst e
    exact .inl ⟨Nat.le_refl _, hd σ H p⟩
theorem while_by {c : TT} {tb : TS} {D : Ends} {σ : St} {H : Hp} (Pv : St → Hp → Prop) (μ : St → Hp → Nat) (h0 : Pv σ H)
    (hs : ∀ σ H, Pv σ H → c σ H fun b H1 => if b = true then tb { D with nx := fun σ' H' => Pv σ' H' ∧ μ σ' H' < μ σ H, ct := fun σ' H' => Pv σ' H' ∧ μ σ' H' < μ σ H, bk := D.nx } σ H1 else D.nx σ H1)
    (mono : ∀ σ H Q Q', (∀ b H1, Q b H1 → Q' b H1) → c σ H Q → c σ H Q') : tWhile c tb D σ H := by
  refine ⟨fun m σ H => m = μ σ H ∧ Pv σ H, ⟨_, rfl, h0⟩, ?_⟩
  rintro m σ H ⟨rfl, p⟩
  refine mono σ H _ _ (fun b H1 q => ?_) (hs σ H p)
  cases b with
  | true => exact ⟨_, fun σ' H' ⟨p', l⟩ => ⟨_, l, rfl, p'⟩, q⟩
  | false => exact q
end L2
namespace L2
open PySem PySem.Spec PyProof.Rows
abbrev R2 := V → V → Hp → VK → Prop
def OpR (X : Cx) (f : Value → Value → Sem Value) (r : R2) : Prop :=
  ∀ (pins : List (Addr × Obj)) (s : Shared) (σ : St) (H : Hp) (x y : V) (v u : Value) (Q : VK), Inv X pins σ H s → RelV x v → RelV y u → r x y H Q →
    wpAny (model X.prog X.w) X.A (f v u) (EP X pins σ Q) X.xe s
def UnR (X : Cx) (f : Value → Sem Value) (r : V → Hp → VK → Prop) : Prop :=
  ∀ (pins : List (Addr × Obj)) (s : Shared) (σ : St) (H : Hp) (x : V) (v : Value) (Q : VK), Inv X pins σ H s → RelV x v → r x H Q →
    wpAny (model X.prog X.w) X.A (f v) (EP X pins σ Q) X.xe s
def CallR (X : Cx) (f : Value) (r : List V → Hp → VK → Prop) : Prop :=
  ∀ (pins : List (Addr × Obj)) (s : Shared) (σ : St) (H : Hp) (xs : List V) (us : List Value) (Q : VK), Inv X pins σ H s → Vals xs us → r xs H Q →
    wpAny (model X.prog X.w) X.A (call f us) (EP X pins σ Q) X.xe s
def tOp (r : R2) (ta tb : TE) : TE := fun σ H Q => ta σ H fun x H1 => tb σ H1 fun y H2 => r x y H2 Q
def tUn (r : V → Hp → VK → Prop) (ta : TE) : TE := fun σ H Q => ta σ H fun x H1 => r x H1 Q
def rI (C : Int → Int → Prop) (g : Int → Int → V) : R2 := fun x y H Q => ∃ i j, x = .int i ∧ y = .int j ∧ C i j ∧ Q (g i j) H
def rI0 (g : Int → Int → V) : R2 := fun x y H Q => ∃ i j, x = .int i ∧ y = .int j ∧ Q (g i j) H
def rU (g : Int → V) : V → Hp → VK → Prop := fun x H Q => ∃ i, x = .int i ∧ Q (g i) H
section
variable {X : Cx} {a b c : Expr} {ta tb tc : TE} {pos : Pos}
theorem binT (ha : PE X a ta) (hb : PE X b tb) {pins : List (Addr × Obj)} {s : Shared} {σ : St} {H : Hp} {R : V → V → Hp → Prop} (I : Inv X pins σ H s)
    (h : ta σ H fun x H1 => tb σ H1 fun y H2 => R x y H2) {Q : Value → Shared → Prop} {f : Value → Value → Sem Value}
    (hf : ∀ v u s2 x y H2, Inv X pins σ H2 s2 → RelV x v → RelV y u → R x y H2 → wpAny (model X.prog X.w) X.A (f v u) Q X.xe s2) :
    wpAny (model X.prog X.w) X.A (eval a X.env) (fun v s₁ => wpAny (model X.prog X.w) X.A (eval b X.env) (fun u s₂ => wpAny (model X.prog X.w) X.A (f v u) Q X.xe s₂) X.xe s₁) X.xe s := by
  refine thn (ha pins s σ H _ I h) fun v s1 ⟨x, H1, I1, r1, q1⟩ => ?_
  refine thn (hb pins s1 σ H1 _ I1 q1) fun u s2 ⟨y, H2, I2, r2, q2⟩ => ?_
  exact hf v u s2 x y H2 I2 r1 r2 q2
theorem pe_op {op : Operator} {r : R2} (ho : OpR X (binaryOp op) r) (ha : PE X a ta) (hb : PE X b tb) : PE X (.BinOp a op b pos) (tOp r ta tb) := by
  intro pins s σ H Q I h
  exact wpAny_BinOp (binT ha hb I h fun v u s2 x y H2 I2 rx ry q => ho pins s2 σ H2 x y v u Q I2 rx ry q)
theorem pe_un {op : UnaryOp} {r : V → Hp → VK → Prop} (ho : UnR X (unaryOp op) r) (ha : PE X a ta) : PE X (.UnaryOp op a pos) (tUn r ta) := by
  intro pins s σ H Q I h
  exact UnaryOp_ (thn (ha pins s σ H _ I h) fun v s1 ⟨x, H1, I1, r1, q1⟩ => ho pins s1 σ H1 x v Q I1 r1 q1)
theorem opI {f : Value → Value → Sem Value} {C : Int → Int → Prop} {g : Int → Int → Int}
    (rule : ∀ (i j : Int) (t u : Tok) (s : Shared) (Q : Value → Shared → Prop) (E : Value → Shared → Prop), C i j → Q (.int (g i j) s.toks) { s with toks := s.toks + 1 } → wpAny (model X.prog X.w) X.A (f (.int i t) (.int j u)) Q E s) :
    OpR X f (rI C fun i j => .int (g i j)) := by
  intro pins s σ H x y v u Q I rx ry h
  obtain ⟨i, j, rfl, rfl, hc, q⟩ := h
  obtain ⟨t, rfl⟩ := rx
  obtain ⟨t', rfl⟩ := ry
  exact rule i j t t' s _ _ hc ⟨.int (g i j), H, I.tok _, ⟨_, rfl⟩, q⟩
theorem opI0 {f : Value → Value → Sem Value} {g : Int → Int → Int}
    (rule : ∀ (i j : Int) (t u : Tok) (s : Shared) (Q : Value → Shared → Prop) (E : Value → Shared → Prop), Q (.int (g i j) s.toks) { s with toks := s.toks + 1 } → wpAny (model X.prog X.w) X.A (f (.int i t) (.int j u)) Q E s) :
    OpR X f (rI0 fun i j => .int (g i j)) := by
  intro pins s σ H x y v u Q I rx ry h
  obtain ⟨i, j, rfl, rfl, q⟩ := h
  obtain ⟨t, rfl⟩ := rx
  obtain ⟨t', rfl⟩ := ry
  exact rule i j t t' s _ _ ⟨.int (g i j), H, I.tok _, ⟨_, rfl⟩, q⟩
theorem opB0 {f : Value → Value → Sem Value} {g : Int → Int → Bool}
    (rule : ∀ (i j : Int) (t u : Tok) (s : Shared) (Q : Value → Shared → Prop) (E : Value → Shared → Prop), Q (.bool (g i j)) s → wpAny (model X.prog X.w) X.A (f (.int i t) (.int j u)) Q E s) :
    OpR X f (rI0 fun i j => .bl (g i j)) := by
  intro pins s σ H x y v u Q I rx ry h
  obtain ⟨i, j, rfl, rfl, q⟩ := h
  obtain ⟨t, rfl⟩ := rx
  obtain ⟨t', rfl⟩ := ry
  exact rule i j t t' s _ _ ⟨.bl (g i j), H, I, rfl, q⟩
def CDiv (i j : Int) : Prop := 0 < j ∧ j < 1073741824
def CPow (i j : Int) : Prop := 0 ≤ j ∧ j ≤ 1000000 ∧ i.natAbs < 2 ^ 64
def CMul (i j : Int) : Prop := (-(2 ^ 64) < i ∧ i < 2 ^ 64) ∨ (-(2 ^ 64) < j ∧ j < 2 ^ 64)
theorem CMul.ok {i j : Int} (h : CMul i j) : IntMulOk i j := by
  rcases h with ⟨h1, h2⟩ | ⟨h1, h2⟩
  · exact .of_left (intBits_le_64 h1 h2)
  · exact .of_right (intBits_le_64 h1 h2)
theorem op_add : OpR X (binaryOp .Add) (rI0 fun i j => .int (i + j)) := opI0 fun _ _ _ _ _ _ _ q => add_int q
theorem op_sub : OpR X (binaryOp .Sub) (rI0 fun i j => .int (i - j)) := opI0 fun _ _ _ _ _ _ _ q => sub_int q
theorem op_mul : OpR X (binaryOp .Mult) (rI CMul fun i j => .int (i * j)) := opI fun _ _ _ _ _ _ _ hc q => mul_int q hc.ok
theorem op_fdiv : OpR X (binaryOp .FloorDiv) (rI CDiv fun i j => .int (i / j)) := opI fun i j _ _ _ _ _ hc q => by
  have h1 : (0 : Int) < j := hc.1
  have h2 : j < 1073741824 := hc.2
  exact floordiv_int (by omega) (by rw [Int.fdiv_eq_ediv_of_nonneg i (by omega)]; exact q) (.inl (PyProof.noPylong_small (by omega)))
theorem op_mod : OpR X (binaryOp .Mod) (rI (fun _ j => 0 < j) fun i j => .int (i % j)) := opI fun i j _ _ _ _ _ hc q => by
  have h1 : (0 : Int) < j := hc
  exact mod_int' (by omega) (by rw [Int.fmod_eq_emod_of_nonneg i (by omega)]; exact q)
theorem op_pow : OpR X (binaryOp .Pow) (rI CPow fun i j => .int (i ^ j.toNat)) := opI fun _ _ _ _ _ _ _ hc q => pow_int_small hc.1 hc.2.1 hc.2.2 q
theorem unI {f : Value → Sem Value} {g : Int → Int}
    (rule : ∀ (i : Int) (t : Tok) (s : Shared) (Q : Value → Shared → Prop) (E : Value → Shared → Prop), Q (.int (g i) s.toks) { s with toks := s.toks + 1 } → wpAny (model X.prog X.w) X.A (f (.int i t)) Q E s) :
    UnR X f (rU fun i => .int (g i)) := by
  intro pins s σ H x v Q I rx h
  obtain ⟨i, rfl, q⟩ := h
  obtain ⟨t, rfl⟩ := rx
  exact rule i t s _ _ ⟨.int (g i), H, I.tok _, ⟨_, rfl⟩, q⟩
theorem un_neg : UnR X (unaryOp .USub) (rU fun i => .int (-i)) := unI fun _ _ _ _ _ q => neg_int q
end
def scal : V → V → Bool
  | .non, .non => true | .non, .int _ => true | .int _, .non => true | .non, .bl _ => true | .bl _, .non => true | .non, .str _ => true | .str _, .non => true
  | .int _, .int _ => true | .bl _, .bl _ => true | .str _, .str _ => true | .byt _, .byt _ => true
  | .int _, .str _ => true | .str _, .int _ => true | .bl _, .str _ => true | .str _, .bl _ => true
  | _, _ => false
def rEq : R2 := fun x y H Q => scal x y = true ∧ Q (.bl (decide (x = y))) H
def rNe : R2 := fun x y H Q => scal x y = true ∧ Q (.bl (!decide (x = y))) H
theorem dec_int {i j : Int} : decide (V.int i = V.int j) = (i == j) := by
  rw [Bool.eq_iff_iff]
  simp
theorem dec_bl {i j : Bool} : decide (V.bl i = V.bl j) = (i == j) := by
  rw [Bool.eq_iff_iff]
  simp
theorem dec_str {i j : Str} : decide (V.str i = V.str j) = (i == j) := by
  rw [Bool.eq_iff_iff]
  simp
theorem dec_byt {i j : Array UInt8} : decide (V.byt i = V.byt j) = (i.toList == j.toList) := by
  rw [Bool.eq_iff_iff]
  cases i
  cases j
  simp
section
variable {X : Cx} {a b c : Expr} {ta tb tc : TE} {pos : Pos}
theorem fin_bl {pins : List (Addr × Obj)} {σ : St} {H : Hp} {s : Shared} {Q : VK} {k k' : Bool} (I : Inv X pins σ H s) (q : Q (.bl k) H) (e : k = k') : EP X pins σ Q (.bool k') s := by
  subst e
  exact ⟨.bl k, H, I, rfl, q⟩
theorem op_eq : OpR X (compareOp .Eq) rEq := by
  intro pins s σ H x y v u Q I rx ry h
  obtain ⟨hs, q⟩ := h
  cases x with
  | non =>
    cases rx
    cases y with
    | non => cases ry; exact PySem.EqNone.eq_none_none (fin_bl I q (by simp))
    | bl j => cases ry; exact PySem.EqNone.eq_none_bool (fin_bl I q (by simp))
    | int j => obtain ⟨t', rfl⟩ := ry; exact PySem.EqNone.eq_none_int (fin_bl I q (by simp))
    | str j => obtain ⟨t', rfl⟩ := ry; exact PySem.EqNone.eq_none_str (fin_bl I q (by simp))
    | _ => exact absurd (show false = true from hs) Bool.false_ne_true
  | bl i =>
    cases rx
    cases y with
    | non => cases ry; exact PySem.EqNone.eq_bool_none (fin_bl I q (by simp))
    | bl j => cases ry; exact eq_bool (fin_bl I q dec_bl)
    | str j => obtain ⟨t', rfl⟩ := ry; exact PySem.EqMixed.eq_bool_str (fin_bl I q (by simp))
    | _ => exact absurd (show false = true from hs) Bool.false_ne_true
  | int i =>
    obtain ⟨t, rfl⟩ := rx
    cases y with
    | non => cases ry; exact PySem.EqNone.eq_int_none (fin_bl I q (by simp))
    | int j => obtain ⟨t', rfl⟩ := ry; exact eq_int (fin_bl I q dec_int)
    | str j => obtain ⟨t', rfl⟩ := ry; exact PySem.EqMixed.eq_int_str (fin_bl I q (by simp))
    | _ => exact absurd (show false = true from hs) Bool.false_ne_true
  | str i =>
    obtain ⟨t, rfl⟩ := rx
    cases y with
    | non => cases ry; exact PySem.EqNone.eq_str_none (fin_bl I q (by simp))
    | bl j => cases ry; exact PySem.EqMixed.eq_str_bool (fin_bl I q (by simp))
    | int j => obtain ⟨t', rfl⟩ := ry; exact PySem.EqMixed.eq_str_int (fin_bl I q (by simp))
    | str j => obtain ⟨t', rfl⟩ := ry; exact eq_str (fin_bl I q dec_str)
    | _ => exact absurd (show false = true from hs) Bool.false_ne_true
  | byt i =>
    obtain ⟨t, rfl⟩ := rx
    cases y with
    | byt j => obtain ⟨t', rfl⟩ := ry; exact PySem.W.eq_bytes (fin_bl I q dec_byt)
    | _ => exact absurd (show false = true from hs) Bool.false_ne_true
  | _ => cases y <;> exact absurd (show false = true from hs) Bool.false_ne_true
theorem op_ne : OpR X (compareOp .NotEq) rNe := by
  intro pins s σ H x y v u Q I rx ry h
  obtain ⟨hs, q⟩ := h
  cases x with
  | non =>
    cases rx
    cases y with
    | non => cases ry; exact PySem.EqNone.ne_none_none (fin_bl I q (by simp))
    | bl j => cases ry; exact PySem.EqNone.ne_none_bool (fin_bl I q (by simp))
    | int j => obtain ⟨t', rfl⟩ := ry; exact PySem.EqNone.ne_none_int (fin_bl I q (by simp))
    | str j => obtain ⟨t', rfl⟩ := ry; exact PySem.EqNone.ne_none_str (fin_bl I q (by simp))
    | _ => exact absurd (show false = true from hs) Bool.false_ne_true
  | bl i =>
    cases rx
    cases y with
    | non => cases ry; exact PySem.EqNone.ne_bool_none (fin_bl I q (by simp))
    | bl j => cases ry; exact ne_bool (fin_bl I q (congrArg not dec_bl))
    | str j => obtain ⟨t', rfl⟩ := ry; exact PySem.EqMixed.ne_bool_str (fin_bl I q (by simp))
    | _ => exact absurd (show false = true from hs) Bool.false_ne_true
  | int i =>
    obtain ⟨t, rfl⟩ := rx
    cases y with
    | non => cases ry; exact PySem.EqNone.ne_int_none (fin_bl I q (by simp))
    | int j => obtain ⟨t', rfl⟩ := ry; exact ne_int (fin_bl I q (congrArg not dec_int))
    | str j => obtain ⟨t', rfl⟩ := ry; exact PySem.EqMixed.ne_int_str (fin_bl I q (by simp))
    | _ => exact absurd (show false = true from hs) Bool.false_ne_true
  | str i =>
    obtain ⟨t, rfl⟩ := rx
    cases y with
    | non => cases ry; exact PySem.EqNone.ne_str_none (fin_bl I q (by simp))
    | bl j => cases ry; exact PySem.EqMixed.ne_str_bool (fin_bl I q (by simp))
    | int j => obtain ⟨t', rfl⟩ := ry; exact PySem.EqMixed.ne_str_int (fin_bl I q (by simp))
    | str j => obtain ⟨t', rfl⟩ := ry; exact ne_str (fin_bl I q (congrArg not dec_str))
    | _ => exact absurd (show false = true from hs) Bool.false_ne_true
  | byt i =>
    obtain ⟨t, rfl⟩ := rx
    cases y with
    | byt j => obtain ⟨t', rfl⟩ := ry; exact PySem.W.ne_bytes (fin_bl I q (congrArg not dec_byt))
    | _ => exact absurd (show false = true from hs) Bool.false_ne_true
  | _ => cases y <;> exact absurd (show false = true from hs) Bool.false_ne_true
theorem op_lt : OpR X (compareOp .Lt) (rI0 fun i j => .bl (decide (i < j))) := opB0 fun _ _ _ _ _ _ _ q => lt_int q
theorem op_le : OpR X (compareOp .LtE) (rI0 fun i j => .bl (decide (i ≤ j))) := opB0 fun _ _ _ _ _ _ _ q => le_int q
theorem op_gt : OpR X (compareOp .Gt) (rI0 fun i j => .bl (decide (j < i))) := opB0 fun _ _ _ _ _ _ _ q => gt_int q
theorem op_ge : OpR X (compareOp .GtE) (rI0 fun i j => .bl (decide (j ≤ i))) := opB0 fun _ _ _ _ _ _ _ q => ge_int q
theorem nomark (b : Expr) {op : CmpOp} (h : op ≠ .In := by decide) (h2 : op ≠ .NotIn := by decide) : behindInMarks op b = false := by
  have e1 : (op == CmpOp.In) = false := by cases op <;> first | rfl | exact absurd rfl h
  have e2 : (op == CmpOp.NotIn) = false := by cases op <;> first | rfl | exact absurd rfl h2
  cases b <;> simp [behindInMarks, e1, e2]
theorem pe_cmpR {op : CmpOp} {r : R2} (ho : OpR X (compareOp op) r) (ha : PE X a ta) (hb : PE X b tb) (hm : behindInMarks op b = false) : PE X (.Compare a [op] [b] pos) (tOp r ta tb) := by
  intro pins s σ H Q I h
  exact wpAny_Compare1 (binT ha hb I h fun v u s2 x y H2 I2 rx ry q => ho pins s2 σ H2 x y v u Q I2 rx ry q) hm
def tTest (t : TE) : TT := fun σ H Q => t σ H fun x H' => ∃ k, x = .bl k ∧ Q k H'
theorem pt_cmpR {op : CmpOp} {r : R2} (ho : OpR X (compareOp op) r) (ha : PE X a ta) (hb : PE X b tb) (hm : behindInMarks op b = false) : PT X (.Compare a [op] [b] pos) (tTest (tOp r ta tb)) := by
  intro pins s σ H Q I h
  refine wpAny_isTrue_Compare1 (thn (ha pins s σ H _ I h) fun v s1 ⟨x, H1, I1, r1, q1⟩ => thn (hb pins s1 σ H1 _ I1 q1) fun u s2 ⟨y, H2, I2, r2, q2⟩ =>
    thn (ho pins s2 σ H2 x y v u _ I2 r1 r2 q2) fun c s3 ⟨z, H3, I3, r3, k, e, q3⟩ => ?_) hm
  subst e
  cases r3
  exact wpAny_truthy_bool ⟨H3, I3, q3⟩
theorem line63 : (sizeLine : Nat) < 2 ^ 63 := by rw [sizeLine_eq]; decide
theorem vals1 {x : V} {us : List Value} (r : Vals [x] us) : ∃ u, us = [u] ∧ RelV x u := by
  cases r with
  | cons r1 r2 => cases r2; exact ⟨_, rfl, r1⟩
theorem vals2 {x y : V} {us : List Value} (r : Vals [x, y] us) : ∃ u w', us = [u, w'] ∧ RelV x u ∧ RelV y w' := by
  cases r with
  | cons r1 r2 =>
    cases r2 with
    | cons r3 r4 => cases r4; exact ⟨_, _, rfl, r1, r3⟩
theorem call_max2 (hc : X.calm = true) : CallR X (.builtin "max") (fun xs H Q => ∃ i j, xs = [.int i, .int j] ∧ Q (.int (if j > i then j else i)) H) := by
  intro pins s σ H xs us Q I r h
  obtain ⟨i, j, rfl, q⟩ := h
  obtain ⟨u, w', rfl, ⟨t, rfl⟩, ⟨t', rfl⟩⟩ := vals2 r
  refine max_two_ints (I.ok.hd hc) fun h' tk k => ⟨_, H, I.kept k, ?_, q⟩
  by_cases hj : j > i
  · rw [if_pos hj, if_pos hj]; exact ⟨_, rfl⟩
  · rw [if_neg hj, if_neg hj]; exact ⟨_, rfl⟩
theorem call_min2 (hc : X.calm = true) : CallR X (.builtin "min") (fun xs H Q => ∃ i j, xs = [.int i, .int j] ∧ Q (.int (if j < i then j else i)) H) := by
  intro pins s σ H xs us Q I r h
  obtain ⟨i, j, rfl, q⟩ := h
  obtain ⟨u, w', rfl, ⟨t, rfl⟩, ⟨t', rfl⟩⟩ := vals2 r
  refine min_two_ints (I.ok.hd hc) fun h' tk k => ⟨_, H, I.kept k, ?_, q⟩
  by_cases hj : j < i
  · rw [if_pos hj, if_pos hj]; exact ⟨_, rfl⟩
  · rw [if_neg hj, if_neg hj]; exact ⟨_, rfl⟩
end
end L2
namespace L2
open PySem PySem.Spec PyProof.Rows
structure ObjM (h : Heap) (x dx C : Addr) (mA : Str → Option Value) : Prop where
  obj : h.get? x = some (PySem.W.instObj C dx)
  ns : h.Ns1 dx mA
  ne : dx ≠ x
theorem lookIn_ns {h : Heap} {dx : Addr} {mA : Str → Option Value} (n : h.Ns1 dx mA) : ∃ od, h.get? dx = some od ∧ ∀ name, PySem.W.lookIn name od = some (mA name) := by
  obtain ⟨o, es, ep, ho, hd, hk, _, hm⟩ := n
  refine ⟨o, ho, fun name => ?_⟩
  have e := hm name
  unfold nsFind findBy at e
  rw [← Array.find?_toList] at e
  unfold PySem.W.lookIn
  rw [hd]
  dsimp only
  split
  · rename_i y q
    rw [q] at e
    exact congrArg some e
  · rename_i q
    rw [q] at e
    have a : es.toList.any (·.refKey) = false := by
      rw [List.any_eq_false]
      intro y hy
      obtain ⟨z, t, hkey⟩ := hk y (Array.mem_toList_iff.mp hy)
      simp [DictEntry.refKey, hkey]
    have a' : ¬ es.toList.any (·.refKey) = true := by rw [a]; exact Bool.false_ne_true
    rw [if_neg a']
    exact congrArg some e
theorem ObjM.look {h : Heap} {x dx C : Addr} {mA : Str → Option Value} (I : ObjM h x dx C mA) : ∃ od, PySem.W.InstAt h x (PySem.W.instObj C dx) C (some od) ∧ ∀ name, PySem.W.lookIn name od = some (mA name) :=
  let ⟨od, ho, hl⟩ := lookIn_ns I.ns
  ⟨od, ⟨I.obj, rfl, rfl, ho⟩, hl⟩
theorem RelO.some_of {v : V} {o : Option Value} (r : RelO (some v) o) : ∃ u, o = some u ∧ RelV v u := by
  cases o with
  | none => exact (show False from r).elim
  | some u => exact ⟨u, rfl, r⟩
section
variable {P : Program} {w : World} {H H' : Hp} {h h' : Heap} {a C dx : Addr} {fs fs' : List (Str × V)}
theorem ins_get (hok : HOk P w H h) (e : H a = some (.ins C dx fs)) : ∃ mA, ObjM h a dx C mA ∧ (∀ f, RelO (fs.lookup f) (mA f)) ∧ PySem.Within mA (fs.map (·.1)) ∧ fs.length ≤ 1000 ∧ H dx = some (.own a) := by
  obtain ⟨d, z, ne, ob, mA, n, r, q⟩ := (show ObjOk P w H h a (.ins C dx fs) from hok a _ e)
  exact ⟨mA, ⟨ob, n, ne⟩, r, q, z, d⟩
end
structure Cls (K : PySem.W.Frag) (C : Addr) : Prop where
  pg : PySem.W.plainGet K C Str.empty = true
  hd : PySem.W.hasDictIn K C = true
  po : PySem.W.plainOver K C = true
  sa : PySem.W.findIn K (.ref C) "__setattr__" = some (some (.builtin "object.__setattr__"))
theorem Cls.get {K : PySem.W.Frag} {C : Addr} (c : Cls K C) (f : Str) : PySem.W.plainGet K C f = true := c.pg
section
variable {X : Cx} {pins : List (Addr × Obj)} {σ : St} {H : Hp} {s : Shared} {A : Around} {E : Value → Shared → Prop} {Q : Value → Shared → Prop} {c : Value} {b : Bool}
inductive TyOf (K : PySem.W.Frag) (H : Hp) : V → Value → Prop where
  | non : TyOf K H .non (.type "NoneType")
  | bl (x : Bool) : TyOf K H (.bl x) (.type "bool")
  | int (i : Int) : TyOf K H (.int i) (.type "int")
  | str (x : Str) : TyOf K H (.str x) (.type "str")
  | flt (x : UInt64) : TyOf K H (.flt x) (.type "float")
  | lst {a : Addr} {xs : List V} (e : H a = some (.lst xs)) : TyOf K H (.ref a) (.type "list")
  | frz {a : Addr} {o : Obj} {xs : List V} (e : H a = some (.frz o (.lst xs))) : TyOf K H (.ref a) (.type "list")
  | tup {a : Addr} {xs : List V} (e : H a = some (.tup xs)) : TyOf K H (.ref a) (.type "tuple")
  | dK {a : Addr} {kvs : List (Key × V)} (e : H a = some (.dK kvs)) : TyOf K H (.ref a) (.type "dict")
  | dT {a : Addr} {kvs : List (List Key × V)} (e : H a = some (.dT kvs)) : TyOf K H (.ref a) (.type "dict")
  | ins {a C dx : Addr} {fs : List (Str × V)} (e : H a = some (.ins C dx fs)) (cl : Cls K C) (ha : PySem.W.findIn K (.ref C) "__class__" = some (some (.builtin "object.__class__")))
      (hn : PySem.W.specialIn K (.builtin "object.__class__") "__get__" = some (some (.builtin "getset_descriptor.__get__"))) (htk : PySem.W.takesIn K (.builtin "object.__class__") = some true)
      (hm : PySem.W.mroIn K C (.type "object") = some true) : TyOf K H (.ref a) (.ref C)
theorem isinst_ok {x : V} {u t : Value} (I : Inv X pins σ H s) (rx : RelV x u) (ty : TyOf X.K H x t) (e : PySem.W.kitOne X.K t c = some b) (h : ∀ tk, Q (.bool b) { s with toks := tk }) :
    wpAny (model X.prog X.w) A (call (.builtin "isinstance") [u, c]) Q E s := by
  cases ty with
  | non => cases (show u = Value.none from rx); exact PySem.W.kia_one PySem.W.kitx_none I.kIn True.intro e (fun z => nomatch z) h
  | bl y => cases (show u = Value.bool y from rx); exact PySem.W.kia_one PySem.W.kitx_bool I.kIn True.intro e (fun z => nomatch z) h
  | int i => obtain ⟨t, q⟩ := (show ∃ t, u = Value.int i t from rx); cases q; exact PySem.W.kia_one PySem.W.kitx_int I.kIn True.intro e (fun z => nomatch z) h
  | str y => obtain ⟨t, q⟩ := (show ∃ t, u = Value.str y t from rx); cases q; exact PySem.W.kia_one PySem.W.kitx_str I.kIn True.intro e (fun z => nomatch z) h
  | flt y => obtain ⟨t, q⟩ := (show ∃ t, u = Value.float y t from rx); cases q; exact PySem.W.kia_one PySem.W.kitx_float I.kIn True.intro e (fun z => nomatch z) h
  | @lst a xs ea =>
    cases (show u = Value.ref a from rx)
    obtain ⟨_, _, n, _, h1⟩ := (show ObjOk X.prog X.w H s.heap a (.lst xs) from I.hok a _ ea)
    exact PySem.W.kia_one PySem.W.kitx_list I.kIn ⟨_, h1, rfl⟩ e (fun z => nomatch z) h
  | @frz a ob xs ea =>
    cases (show u = Value.ref a from rx)
    obtain ⟨_, _, _, n, _, h1⟩ := (show ObjOk X.prog X.w H s.heap a (.frz ob (.lst xs)) from I.hok a _ ea)
    exact PySem.W.kia_one PySem.W.kitx_list I.kIn ⟨_, h1, rfl⟩ e (fun z => nomatch z) h
  | @tup a xs ea =>
    cases (show u = Value.ref a from rx)
    obtain ⟨_, _, _, p⟩ := (show ObjOk X.prog X.w H s.heap a (.tup xs) from I.hok a _ ea)
    obtain ⟨o, h1, h2, _⟩ := p
    exact PySem.W.kia_one PySem.W.kitx_tuple I.kIn ⟨o, h1, h2⟩ e (fun z => nomatch z) h
  | @dK a kvs ea =>
    cases (show u = Value.ref a from rx)
    obtain ⟨_, _, vs, _, p⟩ := (show ObjOk X.prog X.w H s.heap a (.dK kvs) from I.hok a _ ea)
    obtain ⟨o, es, ep, h1, h2, _⟩ := p
    exact PySem.W.kia_one PySem.W.kitx_dict I.kIn ⟨o, h1, h2.1⟩ e (fun z => nomatch z) h
  | @dT a kvs ea =>
    cases (show u = Value.ref a from rx)
    obtain ⟨_, _, xs, _, o, es, ep, h1, h2, _⟩ := (show ObjOk X.prog X.w H s.heap a (.dT kvs) from I.hok a _ ea)
    exact PySem.W.kia_one PySem.W.kitx_dict I.kIn ⟨o, h1, h2.1⟩ e (fun z => nomatch z) h
  | @ins a C dx fs ea cl ha hn htk hm =>
    cases (show u = Value.ref a from rx)
    obtain ⟨mA, O, _⟩ := ins_get I.hok ea
    obtain ⟨od, J, _⟩ := O.look
    exact PySem.W.kia_one (PySem.W.kitx_own (cl.get _) cl.hd ha hn htk hm) I.kIn J e (fun z => nomatch z) h
end
end L2
namespace L2
open PySem PySem.Spec PyProof.Rows
structure Room (k : Nat) (A : Around) : Prop where
  hd : A.handled = none
  dp : A.depth + 3 * k + 5 < recursionLimit
  un : A.units + 16 * k + 200 < cLine
  gd : A.guards = some []
theorem Room.mono {j k : Nat} {A : Around} (r : Room k A) (h : j ≤ k) : Room j A := ⟨r.hd, by have := r.dp; omega, by have := r.un; omega, r.gd⟩
theorem Room.deeper {k : Nat} {A : Around} (r : Room (k + 1) A) (env : Env) : Room k (A.deeper env) :=
  ⟨r.hd, by have := r.dp; show A.depth + 1 + 3 * k + 5 < _; omega, by have := r.un; show A.units + 3 + 16 * k + 200 < _; omega, r.gd⟩
theorem Room.depth {k : Nat} {A : Around} (r : Room k A) : A.depth < recursionLimit := by have := r.dp; omega
theorem Room.units {k : Nat} {A : Around} (r : Room k A) : A.units + 64 < cLine := by have := r.un; omega
def tNil : TA := fun _ H Q => Q [] H
def tCons (ta : TE) (tr : TA) : TA := fun σ H Q => ta σ H fun x H1 => tr σ H1 fun xs H2 => Q (x :: xs) H2
section
variable {X : Cx} {e : Expr} {es : List Expr} {te : TE} {t : TA} {pos : Pos}
theorem pa_nil : PA X [] tNil := fun _ _ _ _ H Q I h => Calls.spliced_nil ⟨[], H, I, .nil, h⟩
theorem pa_cons (ha : PE X e te) (hr : PA X es t) (hs : starEach (e :: es) X.env = (false, eval e X.env) :: starEach es X.env := by rfl) : PA X (e :: es) (tCons te t) := by
  intro pos pins s σ H Q I h
  rw [hs]
  show wpAny _ _ (spliced ((false, eval e X.env) :: backTo pos (starEach es X.env))) _ _ s
  refine Calls.spliced_cons (thn (ha pins s σ H _ I h) fun u s1 ⟨x, H1, I1, r1, q1⟩ => ?_)
  exact thn (hr pos pins s1 σ H1 _ I1 q1) fun us s2 ⟨xs, H2, I2, r2, q2⟩ => ⟨x :: xs, H2, I2, .cons r1 r2, q2⟩
def tTup (t : TA) : TE := fun σ H Q => t σ H fun xs H1 => xs.length ≤ sizeLine ∧ ∀ p, H1 p = none → Q (.ref p) (upd H1 p (.tup xs))
def tLst (t : TA) : TE := fun σ H Q => t σ H fun xs H1 => xs.length ≤ sizeLine ∧ ∀ p, H1 p = none → Q (.ref p) (upd H1 p (.lst xs))
theorem pe_tup {x1} (h : PA X es t) : PE X (.Tuple es x1 pos) (tTup t) := by
  intro pins s σ H Q I hq
  refine wpAny_Tuple_spliced (thn (h pos pins s σ H _ I hq) fun us s1 ⟨xs, H1, I1, r, z, q⟩ => ⟨by rw [← r.length]; exact z, ?_⟩)
  have hf : H1 s1.heap.objs.size = none := I1.hok.fresh (Nat.le_refl _)
  refine ⟨.ref s1.heap.objs.size, upd H1 s1.heap.objs.size (.tup xs), I1.laid (t' := s1.toks) (fun b u e => Heap.get?_push_of_some _ e) (Nat.le_refl _) ?_, rfl, q _ hf⟩
  exact ⟨z, us, r, ⟨_, Heap.get?_push_size _ rfl, rfl, _, rfl⟩⟩
theorem pe_lst (h : PA X es t) : PE X (.List es pos) (tLst t) := by
  intro pins s σ H Q I hq
  refine wpAny_List_spliced (thn (h pos pins s σ H _ I hq) fun us s1 ⟨xs, H1, I1, r, z, q⟩ => ⟨by rw [← r.length]; exact z, ?_⟩)
  have hf : H1 s1.heap.objs.size = none := I1.hok.fresh (Nat.le_refl _)
  refine ⟨.ref s1.heap.objs.size, upd H1 s1.heap.objs.size (.lst xs), I1.laid (t' := s1.toks) (fun b u e => Heap.get?_push_of_some _ e) (Nat.le_refl _) ?_, rfl, q _ hf⟩
  exact ⟨z, us, 0, r, Heap.get?_push_size _ rfl⟩
end
abbrev Sp := List V → Hp → VK → XK → Prop
abbrev CXT := List Env → Hp → Shared → XK → Value → Shared → Prop
structure Env0 (P : Program) (w : World) (K : PySem.W.Frag) (mg : Str → Option Value) (base : Heap) (A : Around) (outer : List Env) (s : Shared) (H : Hp) : Prop where
  frames : A.frames = some outer
  mod : Mod K mg base
  bs : ∀ b o, base.get? b = some o → s.heap.get? b = some o ∧ H b = none
  bsz : base.objs.size ≤ s.heap.objs.size
  funs : s.heap.FunFrames base outer
  frf : ∀ b ∈ frs outer, H b = none
  hok : HOk P w H s.heap
  bare : AllBare s.gens
def CE (outer : List Env) (P : Program) (w : World) (H : Hp) (s : Shared) (Q : VK) (u : Value) (s' : Shared) : Prop :=
  ∃ v H', s'.os = s.os ∧ AllBare s'.gens ∧ Un (frs outer) [] H H' s.heap s'.heap ∧ HOk P w H' s'.heap ∧ RelV v u ∧ Q v H'
def CR (CX : CXT) (outer : List Env) (P : Program) (w : World) (H : Hp) (s : Shared) (Q : VK) (E : XK) (r : Result) (s' : Shared) : Prop :=
  match r with
  | .ok (.ret u) => CE outer P w H s Q u s'
  | .ok _ => False
  | .error e => CX outer H s E e s'
structure FnOk (P : Program) (w : World) (K : PySem.W.Frag) (mg : Str → Option Value) (base : Heap) (CX : CXT) (k : Nat) (f : Addr) (fd : FuncData) (ps : List Str) (sp : Sp) : Prop where
  len : ∀ vs H Q E, sp vs H Q E → vs.length = ps.length
  run : ∀ (A : Around) (outer : List Env) (s : Shared) (H : Hp) (args : Args) (us : List Value) (vs : List V) (Q : VK) (E : XK), Room k A → Env0 P w K mg base A outer s H → BindsTo s fd args (ps.zip us) → Vals vs us → sp vs H Q E →
    codeAny (model P w) A (.call (.ref f) args) (CR CX outer P w H s Q E) s
theorem FnOk.imp {P : Program} {w : World} {K : PySem.W.Frag} {mg : Str → Option Value} {base : Heap} {CX : CXT} {k : Nat} {f : Addr} {fd : FuncData} {ps : List Str} {sp sp' : Sp} (F : FnOk P w K mg base CX k f fd ps sp)
    (h : ∀ vs H Q E, sp' vs H Q E → sp vs H Q E) : FnOk P w K mg base CX k f fd ps sp' :=
  ⟨fun vs H Q E q => F.len vs H Q E (h _ _ _ _ q), fun A outer s H args us vs Q E hr he hb hv hs => F.run A outer s H args us vs Q E hr he hb hv (h _ _ _ _ hs)⟩
section
variable {X : Cx} {pins : List (Addr × Obj)} {σ : St} {H : Hp} {s s' : Shared}
theorem Inv.env0 (I : Inv X pins σ H s) : Env0 X.prog X.w X.K X.mg X.base X.A X.stack s H :=
  ⟨I.ok.frames, I.ok.mod, I.bs, Nat.le_trans I.ok.bsz I.sz, I.stack, I.stkFree, I.hok, I.bare⟩
theorem Inv.after {Q : VK} {u : Value} (I : Inv X pins σ H s) (h : CE X.stack X.prog X.w H s Q u s') : EP X pins σ Q u s' := by
  obtain ⟨v, H', os, bare, un, hok, r, q⟩ := h
  obtain ⟨hh, g, d, t, os'⟩ := s'
  obtain rfl : os' = s.os := os
  exact ⟨v, H', I.call (h' := hh) (g' := g) (d' := d) (t' := t) (ch := []) un hok bare (fun b z => absurd z (by simp)), r, q⟩
end
def tCall (sp : Sp) (dvs : List V) (E : XK) (t : TA) : TE := fun σ H Q => t σ H fun vs H1 => sp (vs ++ dvs) H1 Q E
def Binds (K : PySem.W.Frag) (fd : FuncData) (ps : List Str) (ds : List Value) : Prop :=
  ∀ (s : Shared) (us : List Value), K.In s.heap → (us ++ ds).length = ps.length → BindsTo s fd ⟨us, []⟩ (ps.zip (us ++ ds))
theorem Binds.all {K : PySem.W.Frag} {fd : FuncData} {ps : List Str} (h : ∀ us : List Value, us.length = ps.length → bindArgs fd ⟨us, []⟩ = pure (ps.zip us)) : Binds K fd ps [] := fun s us _ hl => by
  rw [List.append_nil] at hl ⊢
  exact .of_eq (h us hl)
def Passes (CX : CXT) (X : Cx) (E : XK) : Prop := ∀ (pins : List (Addr × Obj)) (σ : St) (H : Hp) (s : Shared) (e : Value) (s' : Shared), Inv X pins σ H s → CX X.stack H s E e s' → X.xe e s'
section
variable {X : Cx} {CX : CXT} {k : Nat} {f C : Addr} {fd : FuncData} {ps : List Str} {sp : Sp} {dvs : List V} {ds : List Value} {E : XK} {x m : Str} {p pos apos : Pos} {e o : Expr} {es : List Expr} {ta : TE} {t : TA}
theorem run_fn {pins : List (Addr × Obj)} {σ : St} {H : Hp} {s : Shared} {Q : VK} {us : List Value} {vs : List V} (F : FnOk X.prog X.w X.K X.mg X.base CX k f fd ps sp) (hr : Room k X.A) (hb : Binds X.K fd ps ds) (hd : Vals dvs ds) (hx : Passes CX X E)
    (I : Inv X pins σ H s) (r : Vals vs us) (h : sp (vs ++ dvs) H Q E) : wpAny (model X.prog X.w) X.A (call (.ref f) us) (EP X pins σ Q) X.xe s := by
  have r2 : Vals (vs ++ dvs) (us ++ ds) := r.append hd
  have hl : (us ++ ds).length = ps.length := by rw [← r2.length]; exact F.len _ _ _ _ h
  refine wpAny_call (codeAny_mono (F.run X.A X.stack s H ⟨us, []⟩ (us ++ ds) (vs ++ dvs) Q E hr I.env0 (hb s us I.kIn hl) r2 h) fun r s' hq => ?_)
  cases r with
  | error e => exact hx pins σ H s e s' I hq
  | ok fl =>
    cases fl with
    | ret u => exact I.after hq
    | next => exact False.elim hq
    | brk => exact False.elim hq
    | cont => exact False.elim hq
theorem pe_call (F : FnOk X.prog X.w X.K X.mg X.base CX k f fd ps sp) (hr : Room k X.A) (hg : Gl X x) (hm : X.mg x = some (.ref f)) (hk : PySem.W.keepIn X.K (.ref f) = true) (hb : Binds X.K fd ps ds) (hd : Vals dvs ds) (hx : Passes CX X E)
    (ha : PA X (e :: es) t) (hdb : (x == ("__debug__" : Str)) = false := by decide) (he : starEach (e :: es) X.env = (false, eval e X.env) :: starEach es X.env := by rfl) (hpl : (backTo pos (starEach es X.env)).any (·.1) = false := by rfl) :
    PE X (.Call (.Name x p) (e :: es) [] pos) (tCall sp dvs E t) := by
  intro pins s σ H Q I h
  refine wpAny_Call_Name_kw (ld_glob I hg hm ?_ hdb)
  refine PySem.W.callWith_K (h₀ := X.base) I.ok.mod.kin hk (thn (ha pos pins s σ H _ I h) fun us s1 ⟨vs, H1, I1, r, q⟩ => ⟨I1.kIn, ?_⟩) he hpl
  exact run_fn F hr hb hd hx I1 r q
end
def PK (X : Cx) (kws : List Keyword) (t : TA) : Prop :=
  ∀ (pos : Pos) (pins : List (Addr × Obj)) (s : Shared) (σ : St) (H : Hp) (Q : List V → Hp → Prop), Inv X pins σ H s → t σ H Q → wpAny (model X.prog X.w) X.A (evalAll ((backToKw pos (keywordEach kws X.env)).map (·.2))) (AP X pins σ Q) X.xe s
section
variable {X : Cx} {CX : CXT} {k : Nat} {f C : Addr} {fd : FuncData} {ps ks : List Str} {sp : Sp} {E : XK} {x m : Str} {p pos apos kpos : Pos} {e o : Expr} {es : List Expr} {kws : List Keyword} {te ta : TE} {t tk : TA} {nm : Option Str}
theorem pk_nil : PK X [] tNil := fun _ _ _ _ H Q I h => wpAny_evalAll_nil ⟨[], H, I, .nil, h⟩
theorem pk_cons (ha : PE X e te) (hr : PK X kws t) : PK X (⟨nm, e, kpos⟩ :: kws) (tCons te t) := by
  intro pos pins s σ H Q I h
  show wpAny _ _ (evalAll ((do let v ← eval e X.env; standAt pos; pure v) :: (backToKw pos (keywordEach kws X.env)).map (·.2))) _ _ s
  refine wpAny_evalAll_cons (wpAny_bind (thn (ha pins s σ H _ I h) fun u s1 ⟨x, H1, I1, r1, q1⟩ => wpAny_bind (wpAny_standAt (wpAny_pure ?_))))
  exact thn (hr pos pins s1 σ H1 _ I1 q1) fun us s2 ⟨xs, H2, I2, r2, q2⟩ => ⟨x :: xs, H2, I2, .cons r1 r2, q2⟩
variable {g : List Value → List Value → List Value} {gV : List V → List V → List V}
end
structure FnScope (N P : List Str) (sc : Scope) : Prop where
  kind : sc.kind = .function
  co : sc.isCoroutine = false
  gen : sc.isGenerator = false
  nd : N.Nodup
  pre : N.take P.length = P
  par : ∀ x ∈ P, sc.names.lookup x = some .local ∨ sc.names.lookup x = some .cell
  nofree : ∀ y ∈ sc.names, y.2 ≠ .free
theorem bindL_out {kindOf : Str → Option NameKind} {x : Str} : ∀ {binds : List (Str × Value)} {m : Str → Option Value}, (∀ v, (x, v) ∉ binds) → bindL kindOf binds m x = m x
  | [], _, _ => rfl
  | (n, v) :: r, m, h => by
    unfold bindL
    rw [bindL_out fun w hw => h w (List.mem_cons_of_mem _ hw)]
    split
    · have : x ≠ n := by rintro rfl; exact h v List.mem_cons_self
      simp [this]
    · rfl
theorem bindC_out {kindOf : Str → Option NameKind} {x : Str} : ∀ {binds : List (Str × Value)} {m : Str → Option Value}, (∀ v, (x, v) ∉ binds) → bindC kindOf binds m x = m x
  | [], _, _ => rfl
  | (n, v) :: r, m, h => by
    unfold bindC
    rw [bindC_out fun w hw => h w (List.mem_cons_of_mem _ hw)]
    split
    · rfl
    · have : x ≠ n := by rintro rfl; exact h v List.mem_cons_self
      simp [this]
theorem bindL_get {kindOf : Str → Option NameKind} {x : Str} {v : Value} : ∀ {P : List Str} {vs : List Value} {i : Nat} {m : Str → Option Value}, P.Nodup → P[i]? = some x → vs[i]? = some v → kindOf x = some .local →
    bindL kindOf (P.zip vs) m x = some v
  | [], _, _, _, _, h, _, _ => by simp at h
  | _ :: _, [], _, _, _, _, h, _ => by simp at h
  | p :: P, w :: vs, 0, m, nd, h1, h2, hk => by
    simp at h1 h2; subst h1; subst h2
    show bindL kindOf ((p, w) :: P.zip vs) m p = _
    unfold bindL
    rw [bindL_out fun v hv => (List.nodup_cons.mp nd).1 (List.of_mem_zip hv).1, if_pos hk]
    simp
  | p :: P, w :: vs, i + 1, m, nd, h1, h2, hk => by
    show bindL kindOf ((p, w) :: P.zip vs) m x = _
    unfold bindL
    exact bindL_get (i := i) (List.nodup_cons.mp nd).2 (by simpa using h1) (by simpa using h2) hk
theorem bindC_get {kindOf : Str → Option NameKind} {x : Str} {v : Value} : ∀ {P : List Str} {vs : List Value} {i : Nat} {m : Str → Option Value}, P.Nodup → P[i]? = some x → vs[i]? = some v → kindOf x ≠ some .local →
    bindC kindOf (P.zip vs) m x = some v
  | [], _, _, _, _, h, _, _ => by simp at h
  | _ :: _, [], _, _, _, _, h, _ => by simp at h
  | p :: P, w :: vs, 0, m, nd, h1, h2, hk => by
    simp at h1 h2; subst h1; subst h2
    show bindC kindOf ((p, w) :: P.zip vs) m p = _
    unfold bindC
    rw [bindC_out fun v hv => (List.nodup_cons.mp nd).1 (List.of_mem_zip hv).1, if_neg hk]
    simp
  | p :: P, w :: vs, i + 1, m, nd, h1, h2, hk => by
    show bindC kindOf ((p, w) :: P.zip vs) m x = _
    unfold bindC
    exact bindC_get (i := i) (List.nodup_cons.mp nd).2 (by simpa using h1) (by simpa using h2) hk
def start (N : List Str) (vs : List V) : St := vs.map some ++ List.replicate (N.length - vs.length) none
def cxOf (CX : CXT) (P : Program) (w : World) (K : PySem.W.Frag) (mg : Str → Option Value) (base : Heap) (N : List Str) (qual : Str) (scope : Scope) (f : Addr) (cd : Value) (A : Around) (outer : List Env) (s : Shared) (H : Hp) (E : XK) : Cx where
  prog := P
  w := w
  K := K
  mg := mg
  base := base
  A := A.deeper (envOfC qual scope s.heap.objs.size f cd)
  N := N
  s₀ := s
  H₀ := H
  env := envOfC qual scope s.heap.objs.size f cd
  outer := outer
  stack := envOfC qual scope s.heap.objs.size f cd :: outer
  ex := []
  calm := true
  fn := fun _ => true
  pn := []
  xe := fun e s' => wpAny (model P w) (A.deeper (envOfC qual scope s.heap.objs.size f cd)) (leaving (envOfC qual scope s.heap.objs.size f cd) e) (fun _ s'' => CX outer H s E e s'') (fun e' s'' => CX outer H s E e' s'') s'
theorem cell_has {sc : Scope} {n : Nat} {x : Str} (h : sc.names.lookup x = some .cell) : ∃ c, (cellsFrom n sc.names []).lookup x = some c := by
  have q := PySem.W.cellsFrom_some sc.names n [] (.inl h)
  exact Option.isSome_iff_exists.mp q
theorem inv_start {CX : CXT} {P : Program} {w : World} {K : PySem.W.Frag} {mg : Str → Option Value} {base : Heap} {N ps : List Str} {qual : Str} {scope : Scope} {f : Addr} {cd : Value} {A : Around} {outer : List Env} {s s1 : Shared} {H : Hp} {E : XK} {us : List Value} {vs : List V}
    (S : FnScope N ps scope) (hd : A.handled = none) (e0 : Env0 P w K mg base A outer s H) (hl : vs.length = ps.length) (r : Vals vs us)
    (x : InCallC s s.heap.objs.size (bindL (envOfC qual scope s.heap.objs.size f cd).kindOf (ps.zip us) fun _ => none) (cellsFrom (s.heap.objs.size + 1) scope.names []) (bindC (envOfC qual scope s.heap.objs.size f cd).kindOf (ps.zip us) fun _ => none) s1) :
    Inv (cxOf CX P w K mg base N qual scope f cd A outer s H E) [] (start N vs) H s1 := by
  have hpl : ps.length ≤ N.length := by have := congrArg List.length S.pre; rw [List.length_take] at this; omega
  obtain ⟨h1, tk, rfl, hk⟩ := x.done
  have noA : ∀ b : Addr, b ∉ (cxOf CX P w K mg base N qual scope f cd A outer s H E).ex := fun b z => absurd (show b ∈ ([] : List Addr) from z) (by simp)
  refine ⟨⟨e0.mod, S.kind, rfl, rfl, Nat.le_refl _, fun y z c h1 h2 => ?_, fun y hy => ?_, fun y c _ h => ?_, fun _ => hd, Around.frames_deeper e0.frames, .inr ⟨rfl, rfl⟩, fun b z => absurd z (noA b), e0.bs, e0.bsz, fun b _ _ => noA b, fun b z => absurd z (noA b), e0.funs, e0.frf⟩,
    rfl, e0.bare, Un.kept hk, ⟨_, x.toInCall.ns, fun i y v h1 h2 h3 => ?_⟩, fun y c h => ⟨_, x.cell y c h⟩, e0.hok.fresh (Nat.le_refl _), fun y c h => ?_, fun p hp => absurd (show p ∈ ([] : List (Addr × Obj)) from hp) (by simp), e0.hok.kept hk, ?_⟩
  · exact name_of_addr x.apart (PySem.mem_of_lookup h1) (PySem.mem_of_lookup h2)
  · have hy : scope.names.lookup y = some .cell ∨ scope.names.lookup y = some .free := hy
    rcases hy with hy | hy
    · exact cell_has hy
    · exact absurd rfl (S.nofree _ (PySem.mem_of_lookup hy))
  · exact Nat.le_of_lt (x.above y c (PySem.mem_of_lookup h))
  · have hi : i < vs.length := by
      unfold start at h2
      by_cases hi : i < vs.length
      · exact hi
      · rw [List.getElem?_append_right (by simpa using hi)] at h2
        rw [List.getElem?_replicate] at h2
        split at h2 <;> cases h2
    have ha : vs[i]? = some v := by
      unfold start at h2
      rw [List.getElem?_append_left (by simpa using hi), List.getElem?_map] at h2
      cases e : vs[i]? with
      | none => rw [e] at h2; cases h2
      | some a => rw [e] at h2; cases h2; rfl
    obtain ⟨u, hu, rv⟩ := r.get ha
    have hp : ps[i]? = some y := by
      rw [← S.pre, List.getElem?_take_of_lt (by omega)]; exact h1
    have ndP : ps.Nodup := by rw [← S.pre]; exact S.nd.sublist (List.take_sublist _ _)
    refine ⟨u, rv, ?_⟩
    rcases S.par y (List.mem_of_getElem? hp) with k | k
    · exact .inl ⟨k, bindL_get ndP hp hu k⟩
    · obtain ⟨c, e⟩ := cell_has (n := s.heap.objs.size + 1) k
      refine .inr ⟨.inl k, c, e, ?_⟩
      have q := x.cell y c e
      rw [bindC_get ndP hp hu (by show scope.names.lookup y ≠ _; rw [k]; decide)] at q
      exact q
  · exact e0.hok.fresh (Nat.le_of_lt (x.above y c (PySem.mem_of_lookup h)))
  · unfold start
    show _ = N.length
    rw [List.length_append, List.length_map, List.length_replicate]
    omega
theorem fn_of {CX : CXT} {P : Program} {w : World} {K : PySem.W.Frag} {mg : Str → Option Value} {base : Heap} {k : Nat} {f : Addr} {name qual : Str} {params : Arguments} {body : List Stmt} {scope : Scope} {dV kV doc pm cdv ct oc : Value} {an od : Option Addr}
    {osl : Array (Option Value)} {N ps : List Str} {sp : Sp} (lk : K.lookup f = some ⟨oc, od, .func (PySem.W.fnOf name qual params body scope dV kV doc pm an cdv ct), osl⟩) (hcd : PySem.W.codeIn K cdv qual = true) (S : FnScope N ps scope)
    (len : ∀ vs H Q E, sp vs H Q E → vs.length = ps.length)
    (hbody : ∀ (A : Around) (outer : List Env) (s : Shared) (H : Hp) (vs : List V) (Q : VK) (E : XK), Room k (A.deeper (envOfC qual scope s.heap.objs.size f cdv)) → sp vs H Q E →
      ∃ t, PSs (cxOf CX P w K mg base N qual scope f cdv A outer s H E) body t ∧ t { nx := fun _ H' => Q .non H', rt := Q } (start N vs) H) :
    FnOk P w K mg base CX (k + 1) f (PySem.W.fnOf name qual params body scope dV kV doc pm an cdv ct) ps sp := by
  refine ⟨len, fun A outer s H args us vs Q E hr e0 hb r hsp => ?_⟩
  have hl := len _ _ _ _ hsp
  have KX : K.In s.heap := e0.mod.kin.keeps fun b o e => (e0.bs b o e).1
  have lim : s.heap.NoLimit := e0.mod.nolimit.keeps fun b o e => (e0.bs b o e).1
  have hkind : ∀ y ∈ ps.zip us, scope.names.lookup y.1 = some .local ∨ (scope.names.lookup y.1 = some .cell ∧ ((cellsFrom (s.heap.objs.size + 1) scope.names []).lookup y.1).isSome = true) := fun ⟨n, v⟩ hy => by
    rcases S.par n (List.of_mem_zip hy).1 with q | q
    · exact .inl q
    · exact .inr ⟨q, PySem.W.cellsFrom_some _ _ _ (.inl q)⟩
  refine codeAny_call_function hr.depth (KX _ _ lk) rfl S.co S.gen rfl (PySem.W.codeRec_of KX hcd) (hb _ _ _ _ ?_)
  refine wpAny_newFunctionEnv_cells S.kind hkind fun env he s1 x => ?_
  subst he
  refine ⟨lim.keeps x.toInCall.keep, codeAny_func ?_⟩
  obtain ⟨t, ht, hq⟩ := hbody A outer s H vs Q E (hr.deeper _) hsp
  have I : Inv (cxOf CX P w K mg base N qual scope f cdv A outer s H E) [] (start N vs) H s1 := inv_start S hr.hd e0 hl r x
  refine wpAny_mono (ht [] s1 (start N vs) H _ I hq) (fun fl s' hs => ?_) fun e s' hs => hs
  have fin : ∀ {σ' : St} {H' : Hp} {v : V} {u : Value}, Inv (cxOf CX P w K mg base N qual scope f cdv A outer s H E) [] σ' H' s' → RelV v u → Q v H' → CE outer P w H s Q u s' :=
    fun {σ' H' v u} J rv q => ⟨v, H', J.os, J.bare, J.base, J.hok, rv, q⟩
  cases fl with
  | ret u =>
    obtain ⟨v, σ', H', J, rv, q⟩ := hs
    exact fin J rv q
  | next =>
    obtain ⟨σ', H', J, q⟩ := hs
    exact fin (v := V.non) (u := Value.none) J rfl q
  | brk =>
    obtain ⟨_, _, _, q⟩ := hs
    exact False.elim q
  | cont =>
    obtain ⟨_, _, _, q⟩ := hs
    exact False.elim q
end L2
namespace L2
open PySem PySem.Spec PyProof.Rows
section
variable {X : Cx} {x : Str} {p pos : Pos} {e : Expr} {es : List Expr} {t : TA} {id T : String} {r : List V → Hp → VK → Prop}
def tCB (r : List V → Hp → VK → Prop) (t : TA) : TE := fun σ H Q => t σ H fun vs H1 => r vs H1 Q
theorem pe_callB (hc : CallR X (.builtin id) r) (hg : Gl X x) (hm : X.mg x = none) (hv : bootBuiltins x = some (.builtin id)) (ha : PA X (e :: es) t) (hn : x ≠ "__name__" := by decide) (hdb : (x == ("__debug__" : Str)) = false := by decide)
    (he : starEach (e :: es) X.env = (false, eval e X.env) :: starEach es X.env := by rfl) (hpl : (backTo pos (starEach es X.env)).any (·.1) = false := by rfl) : PE X (.Call (.Name x p) (e :: es) [] pos) (tCB r t) := by
  intro pins s σ H Q I h
  refine wpAny_Call_Name_kw (ld_blt I hg hm hv ?_ hn hdb)
  exact PyProof.Rows.callWith_builtin1 (thn (ha pos pins s σ H _ I h) fun us s1 ⟨vs, H1, I1, r1, q1⟩ => hc pins s1 σ H1 vs us Q I1 r1 q1) he hpl
theorem pe_callTy (hc : CallR X (.type T) r) (hg : Gl X x) (hm : X.mg x = none) (hv : bootBuiltins x = some (.type T)) (ha : PA X (e :: es) t) (hn : x ≠ "__name__" := by decide) (hdb : (x == ("__debug__" : Str)) = false := by decide)
    (he : starEach (e :: es) X.env = (false, eval e X.env) :: starEach es X.env := by rfl) (hpl : (backTo pos (starEach es X.env)).any (·.1) = false := by rfl) : PE X (.Call (.Name x p) (e :: es) [] pos) (tCB r t) := by
  intro pins s σ H Q I h
  refine wpAny_Call_Name_kw (ld_blt I hg hm hv ?_ hn hdb)
  exact PyProof.Rows.callWith_type1 (thn (ha pos pins s σ H _ I h) fun us s1 ⟨vs, H1, I1, r1, q1⟩ => hc pins s1 σ H1 vs us Q I1 r1 q1) he hpl
end
end L2
namespace HT
open PySem PyProof.Rows
section
variable {prog : Program} {w : World} {A : Around} {E : Value → Shared → Prop} {s : Shared}
def sIx (n d : Nat) : Option Int → Nat
  | none => d
  | some v => if v < 0 then (v + (n : Int)).toNat else min v.toNat n
theorem sIx_none (n d : Nat) : sIx n d none = d := rfl
theorem sIx_nat (n d k : Nat) : sIx n d (some (k : Int)) = min k n := by
  show (if (k : Int) < 0 then ((k : Int) + (n : Int)).toNat else min (k : Int).toNat n) = min k n
  rw [if_neg (by omega), Int.toNat_natCast]
end
end HT
namespace L2
open PySem PySem.Spec PyProof.Rows
abbrev TO := St → Hp → (Option Int → Hp → Prop) → Prop
def PO (X : Cx) (e : Option Expr) (t : TO) : Prop :=
  ∀ (pins : List (Addr × Obj)) (s : Shared) (σ : St) (H : Hp) (Q : Option Int → Hp → Prop), Inv X pins σ H s → t σ H Q →
    wpAny (model X.prog X.w) X.A (evalPart e X.env) (fun u s' => ∃ o H', Inv X pins σ H' s' ∧ IsPart u o ∧ Q o H') X.xe s
def tNoPart : TO := fun _ H Q => Q none H
def tPart (t : TE) : TO := fun σ H Q => t σ H fun x H1 => ∃ i, x = .int i ∧ Q (some i) H1
theorem intsAre_of {ns : List Int} : ∀ {us : List Value}, Vals (ns.map V.int) us → IntsAre us ns := by
  induction ns with
  | nil => intro us r; rw [List.map_nil] at r; cases r; exact .nil
  | cons n ns ih =>
    intro us r
    rw [List.map_cons] at r
    cases r with
    | cons r1 r2 =>
      obtain ⟨t, e⟩ := r1
      subst e
      exact .cons n t (ih r2)
section
variable {X : Cx} {e : Expr} {te : TE} {lo hi : Option Expr} {tl th : TO} {pos p2 : Pos}
theorem po_none : PO X none tNoPart := by
  intro pins s σ H Q I h
  rw [evalPart_none]
  exact wpAny_pure ⟨none, H, I, .none, h⟩
theorem po_some (h : PE X e te) : PO X (some e) (tPart te) := by
  intro pins s σ H Q I hw
  rw [evalPart_some]
  refine thn (h pins s σ H _ I hw) fun u s1 ⟨x, H1, I1, r1, q1⟩ => ?_
  obtain ⟨i, rfl, q⟩ := q1
  obtain ⟨t, rfl⟩ := r1
  exact ⟨some i, H1, I1, .int i t, q⟩
def SlR (X : Cx) (r : V → Option Int → Option Int → Hp → VK → Prop) : Prop :=
  ∀ (pins : List (Addr × Obj)) (s : Shared) (σ : St) (H : Hp) (x : V) (v vl vu : Value) (lo hi : Option Int) (sl : Addr) (Q : VK), Inv X pins σ H s → RelV x v → s.heap.IsSliceOf sl vl vu .none → IsPart vl lo → IsPart vu hi → r x lo hi H Q →
    ∃ T id, typeLookup (.type T) "__getitem__" = pure (some (.builtin id)) ∧ s.TypeIs v T ∧ wpAny (model X.prog X.w) X.A (getItem v (.ref sl)) (EP X pins σ Q) X.xe s
def tSl (r : V → Option Int → Option Int → Hp → VK → Prop) (te : TE) (tl th : TO) : TE := fun σ H Q => te σ H fun x H1 => tl σ H1 fun l H2 => th σ H2 fun u H3 => r x l u H3 Q
theorem pe_slice {r : V → Option Int → Option Int → Hp → VK → Prop} (hr : SlR X r) (he : PE X e te) (hl : PO X lo tl) (hu : PO X hi th) : PE X (.Subscript e (.Slice lo hi none p2) pos) (tSl r te tl th) := by
  intro pins s σ H Q I h
  refine Subscript_ (thn (he pins s σ H _ I h) fun v s1 ⟨x, H1, I1, r1, q1⟩ => ?_)
  refine wpAny_Slice (thn (hl pins s1 σ H1 _ I1 q1) fun vl s2 ⟨l, H2, I2, pl, q2⟩ => thn (hu pins s2 σ H2 _ I2 q2) fun vu s3 ⟨u, H3, I3, pu, q3⟩ => ?_)
  rw [evalPart_none]
  refine wpAny_pure ?_
  have I4 : Inv X pins σ H3 { s3 with heap := s3.heap.push { cls := .type "slice", data := .fields #[vl, vu, .none] } } := I3.kept (t' := s3.toks) fun b ob q => Heap.get?_push_of_some _ q
  obtain ⟨T, id, hT, ht, hg⟩ := hr pins { s3 with heap := s3.heap.push { cls := .type "slice", data := .fields #[vl, vu, .none] } } σ H3 x v vl vu l u s3.heap.objs.size Q I4 r1 (Heap.IsSliceOf.new ..) pl pu q3
  show wpAny (model X.prog X.w) X.A (subscriptTail e (.Slice lo hi none p2) v (.ref s3.heap.objs.size)) (EP X pins σ Q) X.xe { s3 with heap := s3.heap.push { cls := .type "slice", data := .fields #[vl, vu, .none] } }
  exact tail_any (ops := [.ref s3.heap.objs.size, v]) ht hT hg (by with_unfolding_all rfl)
def cutV (xs : List V) (lo hi : Option Int) : List V := (xs.drop (HT.sIx xs.length 0 lo)).take (HT.sIx xs.length xs.length hi - HT.sIx xs.length 0 lo)
theorem cutV_length (xs : List V) (lo hi : Option Int) : (cutV xs lo hi).length ≤ xs.length := by
  unfold cutV
  rw [List.length_take, List.length_drop]
  omega
end
end L2
namespace L2
open PySem PySem.Spec PyProof.Rows
def ixN (n : Nat) (i : Int) : Option Nat := if 0 ≤ i then (if i < n then some i.toNat else none) else if -(n : Int) ≤ i then some (i + n).toNat else none
def atI {α : Type} (xs : List α) (i : Int) : Option α := (ixN xs.length i).bind fun j => xs[j]?
theorem ixN_seq {n : Nat} {i : Int} {j : Nat} (h : ixN n i = some j) : seqIndex? i n = some j ∧ j < n ∧ -(n : Int) ≤ i ∧ i < n := by
  unfold ixN at h
  by_cases h0 : 0 ≤ i
  · rw [if_pos h0] at h
    by_cases h1 : i < n
    · rw [if_pos h1] at h
      have e : i.toNat = j := Option.some.inj h
      exact ⟨by rw [seqIndex_of h0 h1, e], by omega, by omega, h1⟩
    · rw [if_neg h1] at h; cases h
  · rw [if_neg h0] at h
    by_cases h1 : -(n : Int) ≤ i
    · rw [if_pos h1] at h
      have e : (i + n).toNat = j := Option.some.inj h
      exact ⟨by rw [seqIndex_neg (by omega) h1, e], by omega, h1, by omega⟩
    · rw [if_neg h1] at h; cases h
theorem atI_get {α : Type} {xs : List α} {i : Int} {v : α} (h : atI xs i = some v) : ∃ j, seqIndex? i xs.length = some j ∧ xs[j]? = some v ∧ j < xs.length ∧ -(xs.length : Int) ≤ i ∧ i < xs.length := by
  unfold atI at h
  cases e : ixN xs.length i with
  | none => rw [e] at h; cases h
  | some j =>
    rw [e] at h
    obtain ⟨h1, h2, h3, h4⟩ := ixN_seq e
    exact ⟨j, h1, h, h2, h3, h4⟩
theorem atI_nat {α : Type} {xs : List α} {j : Nat} {v : α} (h : xs[j]? = some v) : atI xs (j : Int) = some v := by
  have hj : j < xs.length := (List.getElem?_eq_some_iff.mp h).1
  have e : ixN xs.length (j : Int) = some j := by
    unfold ixN
    rw [if_pos (by omega), if_pos (by omega)]; simp
  unfold atI; rw [e]; exact h
theorem atI_last {α : Type} (xs : List α) (v : α) : atI (xs ++ [v]) (-1) = some v := by
  have hl : (xs ++ [v]).length = xs.length + 1 := by simp
  have e : ixN (xs ++ [v]).length (-1) = some xs.length := by
    unfold ixN
    rw [hl, if_neg (by decide), if_pos (by omega)]
    congr 1
    omega
  unfold atI
  rw [e]
  show (xs ++ [v])[xs.length]? = some v
  simp
def PlainIx (b : Expr) : Prop := ∀ o i, subscripted b false o i = operate [o, i] (getItem o i)
def IxR (X : Cx) (r : R2) : Prop :=
  ∀ (value slice : Expr) (pins : List (Addr × Obj)) (s : Shared) (σ : St) (H : Hp) (x y : V) (v u : Value) (Q : VK), Inv X pins σ H s → RelV x v → RelV y u → r x y H Q →
    subscripted slice false v u = operate [v, u] (getItem v u) → wpAny (model X.prog X.w) X.A (subscriptTail value slice v u) (EP X pins σ Q) X.xe s
def MtR (X : Cx) (id : String) (r : V → List V → Hp → VK → Prop) : Prop :=
  ∀ (pins : List (Addr × Obj)) (s : Shared) (σ : St) (H : Hp) (x : V) (xs : List V) (v : Value) (us : List Value) (Q : VK), Inv X pins σ H s → RelV x v → Vals xs us → r x xs H Q →
    wpAny (model X.prog X.w) X.A (call (.builtin id) (v :: us)) (EP X pins σ Q) X.xe s
section
variable {X : Cx} {a b : Expr} {ta tb : TE} {pos : Pos}
theorem pe_ix {r : R2} (hr : IxR X r) (ha : PE X a ta) (hb : PE X b tb) (hs : PlainIx b) : PE X (.Subscript a b pos) (tOp r ta tb) := by
  intro pins s σ H Q I h
  exact Subscript_ (binT ha hb I h fun v u s2 x y H2 I2 rx ry q => hr a b pins s2 σ H2 x y v u Q I2 rx ry q (hs _ _))
def rIxL (K : PySem.W.Frag) : R2 := fun x y H Q => ∃ p xs i v, x = .ref p ∧ y = .int i ∧ SqL K H p xs ∧ atI xs i = some v ∧ Q v H
def rIxT (K : PySem.W.Frag) : R2 := fun x y H Q => ∃ p xs i v, x = .ref p ∧ y = .int i ∧ SqT K H p xs ∧ atI xs i = some v ∧ Q v H
theorem ix_list : IxR X (rIxL X.K) := by
  intro value slice pins s σ H x y v u Q I rx ry h hs
  obtain ⟨p, xs, i, z, rfl, rfl, hq, he, q⟩ := h
  cases rx
  obtain ⟨t, rfl⟩ := ry
  obtain ⟨its, r, pl, hz⟩ := I.list hq
  obtain ⟨j, h1, h2, h3, h4, h5⟩ := atI_get he
  obtain ⟨w, ew, rw'⟩ := r.get h2
  have hl := r.length
  have hn := line63
  have fin : EP X pins σ Q w s := ⟨z, H, I, rw', q⟩
  by_cases h0 : 0 ≤ i
  · have hj : i.toNat = j := by
      rw [seqIndex_of h0 h5] at h1
      exact Option.some.inj h1
    exact item_listR pl.isList h0 (by omega) (by rw [hj]; simpa using ew) fin hs
  · have hj : (i + (its.toArray.size : Int)).toNat = j := by
      rw [seqIndex_neg (by omega) h4] at h1
      rw [List.size_toArray, ← hl]
      exact Option.some.inj h1
    exact subscriptTail_builtinR (x := w) pl.isList.typeIs slot_list_getitem.lookup
      (wpAny_getItem_list_neg (Q := fun r s' => r = w ∧ EP X pins σ Q r s') pl.isList (by omega) (by rw [List.size_toArray] <;> omega) (by omega) (by rw [hj]; simpa using ew) ⟨rfl, fin⟩) hs
theorem ix_tup : IxR X (rIxT X.K) := by
  intro value slice pins s σ H x y v u Q I rx ry h hs
  obtain ⟨p, xs, i, z, rfl, rfl, hq, he, q⟩ := h
  cases rx
  obtain ⟨t, rfl⟩ := ry
  obtain ⟨its, r, pl, hz⟩ := I.tuple hq
  obtain ⟨j, h1, h2, h3, h4, h5⟩ := atI_get he
  obtain ⟨w, ew, rw'⟩ := r.get h2
  have hl := r.length
  have hn := line63
  have fin : EP X pins σ Q w s := ⟨z, H, I, rw', q⟩
  exact subscriptTail_builtinR (x := w) pl.typeIs slot_tuple_getitem.lookup
    (getItem_tuple (j := j) (Q := fun r s' => r = w ∧ EP X pins σ Q r s') pl (by omega) (by omega) (by rw [List.size_toArray, ← hl]; exact h1) (by simpa using ew) ⟨rfl, fin⟩) hs
theorem mapSeq_set (its : List Value) (n j : Nat) (u : Value) : Obj.mapSeq (·.setIfInBounds j u) { cls := .type "list", data := .seq its.toArray n } = { cls := .type "list", data := .seq (its.set j u).toArray n } := by
  simp [Obj.mapSeq]
theorem Inv.lst {pins : List (Addr × Obj)} {σ : St} {H : Hp} {s : Shared} {p : Addr} {xs : List V} (I : Inv X pins σ H s) (h : H p = some (.lst xs)) :
    ∃ (its : List Value) (n : Nat), Vals xs its ∧ s.heap.get? p = some { cls := .type "list", data := .seq its.toArray n } ∧ xs.length ≤ sizeLine := by
  obtain ⟨z, its, n, r, e⟩ := I.hok p _ h
  exact ⟨its, n, r, e, z⟩
theorem Inv.lstUpd {pins : List (Addr × Obj)} {σ : St} {H : Hp} {s : Shared} {p : Addr} {xs ys : List V} {its its' : List Value} {n n' : Nat} {f : Obj → Obj} (I : Inv X pins σ H s) (h : H p = some (.lst xs))
    (ho : s.heap.get? p = some { cls := .type "list", data := .seq its.toArray n }) (hf : f { cls := .type "list", data := .seq its.toArray n } = { cls := .type "list", data := .seq its'.toArray n' }) (r : Vals ys its') (hz : ys.length ≤ sizeLine) (t : Nat) :
    Inv X pins σ (upd H p (.lst ys)) { s with heap := s.heap.update p f, toks := t } := by
  have e : (s.heap.update p f).get? p = some { cls := .type "list", data := .seq its'.toArray n' } := by
    rw [Heap.get?_update_self f ho (by rw [hf] <;> rfl), hf]
  refine I.write (x := p) (e := p) (by rw [h]; trivial) (.inl rfl) (fun b u hb q => (Heap.get?_update_other _ _ (Ne.symm hb)).trans q) ⟨_, e⟩ ?_
  exact ⟨hz, its', n', r, e⟩
def rSetL : V → V → V → Hp → (Hp → Prop) → Prop := fun o i v H Q => ∃ p xs k j, o = .ref p ∧ i = .int k ∧ H p = some (.lst xs) ∧ ixN xs.length k = some j ∧ Q (upd H p (.lst (xs.set j v)))
theorem set_list : PSet X rSetL := by
  intro pins s σ H o i v ov iv u Q I ro ri rv h
  obtain ⟨p, xs, k, j, rfl, rfl, hp, hj, q⟩ := h
  cases ro
  obtain ⟨t, rfl⟩ := ri
  obtain ⟨its, n, r, ho, hz⟩ := I.lst hp
  obtain ⟨h1, h2, h3, h4⟩ := ixN_seq hj
  have hl := r.length
  have hn := line63
  have I' : Inv X pins σ (upd H p (.lst (xs.set j v))) { s with heap := s.heap.update p (Obj.mapSeq (·.setIfInBounds j u)) } :=
    I.lstUpd hp ho (mapSeq_set its n j u) (r.set rv j) (by rw [List.length_set]; exact hz) s.toks
  by_cases h0 : 0 ≤ k
  · have hk : k.toNat = j := by
      rw [seqIndex_of h0 h4] at h1
      exact Option.some.inj h1
    exact PySem.W.ki_setAt ho h0 (by omega) (by rw [List.size_toArray, ← hl]; exact h4) (by rw [hk]; exact ⟨_, I', q⟩)
  · have hk : (k + (its.toArray.size : Int)).toNat = j := by
      rw [seqIndex_neg (by omega) h3] at h1
      rw [List.size_toArray, ← hl]
      exact Option.some.inj h1
    exact PySem.W.ki_setBack ho (by omega) (by rw [List.size_toArray, ← hl]; exact h3) (by omega) (by rw [hk]; exact ⟨_, I', q⟩)
theorem slice_bounds (lo hi : Option Int) (n : Nat) : (sliceBounds lo hi none n).1 = ((HT.sIx n 0 lo : Nat) : Int) ∧ (sliceBounds lo hi none n).2.1 = ((HT.sIx n n hi : Nat) : Int) ∧ (sliceBounds lo hi none n).2.2 = 1 := by
  refine ⟨?_, ?_, rfl⟩
  · cases lo with
    | none => simp [sliceBounds, HT.sIx]
    | some i =>
      simp only [sliceBounds, HT.sIx, Option.getD_none, show (1 : Int) > 0 by decide, if_true]
      by_cases h : i < 0
      · simp only [h, if_true] <;> omega
      · simp only [h, if_false] <;> omega
  · cases hi with
    | none => simp [sliceBounds, HT.sIx]
    | some i =>
      simp only [sliceBounds, HT.sIx, Option.getD_none, show (1 : Int) > 0 by decide, if_true]
      by_cases h : i < 0
      · simp only [h, if_true] <;> omega
      · simp only [h, if_false] <;> omega
theorem slicePick_cut (its : List Value) (lo hi : Option Int) : slicePick its.toArray lo hi none = ((its.drop (HT.sIx its.length 0 lo)).take (HT.sIx its.length its.length hi - HT.sIx its.length 0 lo)).toArray := by
  obtain ⟨h1, h2, h3⟩ := slice_bounds lo hi its.toArray.size
  unfold slicePick
  rw [h1, h2, h3]
  simp only [sliceRange_one, pick_run, List.size_toArray] <;> rfl
def rSlL (K : PySem.W.Frag) : V → Option Int → Option Int → Hp → VK → Prop := fun x lo hi H Q => ∃ a xs, x = .ref a ∧ SqL K H a xs ∧ ∀ p, H p = none → Q (.ref p) (upd H p (.lst (cutV xs lo hi)))
theorem sl_list : SlR X (rSlL X.K) := by
  intro pins s σ H x v vl vu lo hi sl Q I rx hs pl pu h
  obtain ⟨a, xs, rfl, hx, q⟩ := h
  cases rx
  obtain ⟨its, r, ht, hz⟩ := I.list hx
  have hlen := r.length
  refine ⟨"list", _, slot_list_getitem.lookup, ht.isList.typeIs, ?_⟩
  refine wpAny_getItem_list_slice ht.isList hs pl pu .none (by simp) ?_ (by rw [List.size_toArray] <;> omega)
  rw [slicePick_cut, ← hlen]
  refine ⟨.ref s.heap.objs.size, _, I.laid (t' := s.toks) (o := .lst (cutV xs lo hi)) (fun b ob q => Heap.get?_push_of_some _ q) (Nat.le_refl _) ?_, rfl, q _ (I.hok.fresh (Nat.le_refl _))⟩
  exact ⟨Nat.le_trans (cutV_length xs lo hi) hz, _, 0, (r.drop (HT.sIx xs.length 0 lo)).take (HT.sIx xs.length xs.length hi - HT.sIx xs.length 0 lo), Heap.get?_push_size _ rfl⟩
def flatV : V → Bool
  | .non => true
  | .bl _ => true
  | .int _ => true
  | .str _ => true
  | _ => false
def eqV : V → V → Bool
  | .non, .non => true
  | .bl a, .bl b => a == b
  | .bl a, .int b => (if a then 1 else 0) == b
  | .int a, .bl b => a == (if b then 1 else 0)
  | .int a, .int b => a == b
  | .str a, .str b => a == b
  | _, _ => false
theorem eqAt_V {A : Around} {s : Shared} {y x : V} {u v : Value} (ry : RelV y u) (rx : RelV x v) (fy : flatV y = true) (fx : flatV x = true) : SeqAt.EqAt A s u v (eqV y x) := by
  cases y with
  | non =>
    cases ry
    cases x with
    | non => cases rx; exact SeqAt.EqAt.same _
    | bl b => cases rx; exact SeqAt.EqAt.none_bool b
    | int b => obtain ⟨t, rfl⟩ := rx; exact SeqAt.EqAt.none_int b t
    | str b => obtain ⟨t, rfl⟩ := rx; exact SeqAt.EqAt.none_str b t
    | _ => exact absurd (show false = true from fx) Bool.false_ne_true
  | bl a =>
    cases ry
    cases x with
    | non => cases rx; exact SeqAt.EqAt.bool_none a
    | bl b => cases rx; exact SeqAt.EqAt.bool_bool a b
    | int b => obtain ⟨t, rfl⟩ := rx; exact SeqAt.EqAt.bool_int a b t
    | str b => obtain ⟨t, rfl⟩ := rx; exact SeqAt.EqAt.bool_str a b t
    | _ => exact absurd (show false = true from fx) Bool.false_ne_true
  | int a =>
    obtain ⟨t', rfl⟩ := ry
    cases x with
    | non => cases rx; exact SeqAt.EqAt.int_none a t'
    | bl b => cases rx; exact SeqAt.EqAt.int_bool a t' b
    | int b => obtain ⟨t, rfl⟩ := rx; exact SeqAt.EqAt.int_int a t' b t
    | str b => obtain ⟨t, rfl⟩ := rx; exact SeqAt.EqAt.int_str a t' b t
    | _ => exact absurd (show false = true from fx) Bool.false_ne_true
  | str a =>
    obtain ⟨t', rfl⟩ := ry
    cases x with
    | non => cases rx; exact SeqAt.EqAt.str_none a t'
    | bl b => cases rx; exact SeqAt.EqAt.str_bool a t' b
    | int b => obtain ⟨t, rfl⟩ := rx; exact SeqAt.EqAt.str_int a t' b t
    | str b => obtain ⟨t, rfl⟩ := rx; exact SeqAt.EqAt.str_str a t' b t
    | _ => exact absurd (show false = true from fx) Bool.false_ne_true
  | _ => exact absurd (show false = true from fy) Bool.false_ne_true
def eqU (x : V) (u : Value) : Bool := match u with
  | .none => eqV .non x
  | .bool b => eqV (.bl b) x
  | .int i _ => eqV (.int i) x
  | .str z _ => eqV (.str z) x
  | _ => false
theorem eqU_of {x y : V} {u : Value} (r : RelV y u) (f : flatV y = true) : eqU x u = eqV y x := by
  cases y with
  | non => cases r; rfl
  | bl b => cases r; rfl
  | int i => obtain ⟨t, rfl⟩ := r; rfl
  | str z => obtain ⟨t, rfl⟩ := r; rfl
  | _ => exact absurd (show false = true from f) Bool.false_ne_true
theorem mem_eqAt {A : Around} {s : Shared} {x : V} {v : Value} (rx : RelV x v) (fx : flatV x = true) : ∀ {xs : List V} {us : List Value}, Vals xs us → xs.all flatV = true → ∀ u ∈ us, SeqAt.EqAt A s u v (eqU x u)
  | _, _, .nil, _ => fun u hu => by cases hu
  | y :: xs, u :: us, .cons r t, f => fun u' hu => by
    rw [List.all_cons, Bool.and_eq_true] at f
    rcases List.mem_cons.mp hu with rfl | hu
    · rw [eqU_of r f.1]; exact eqAt_V r rx f.1 fx
    · exact mem_eqAt rx fx t f.2 u' hu
theorem call_len_seq : CallR X (.builtin "len") (fun xs H Q => ∃ p ys, xs = [.ref p] ∧ (SqL X.K H p ys ∨ SqT X.K H p ys) ∧ Q (.int ys.length) H) := by
  intro pins s σ H xs us Q I r h
  obtain ⟨p, ys, rfl, hq, q⟩ := h
  obtain ⟨u, rfl, rx⟩ := vals1 r
  cases rx
  have hn := line63
  rcases hq with hq | hq
  · obtain ⟨its, r', pl, hz⟩ := I.list hq
    have hlen := r'.length
    exact Calls.call_len_list pl.isList (by simp only [List.size_toArray] <;> omega) ⟨.int ys.length, H, I.tok _, ⟨s.toks + 1, by rw [List.size_toArray, hlen]⟩, q⟩
  · obtain ⟨its, r', pl, hz⟩ := I.tuple hq
    have hlen := r'.length
    exact len_tuple pl (by simp only [List.size_toArray] <;> omega) ⟨.int ys.length, H, I.tok _, ⟨s.toks + 1, by rw [List.size_toArray, hlen]⟩, q⟩
theorem call_tuple_of : CallR X (.type "tuple") (fun xs H Q => ∃ p ys, xs = [.ref p] ∧ ((SqL X.K H p ys ∧ ∀ l, H l = none → Q (.ref l) (upd H l (.tup ys))) ∨ (SqT X.K H p ys ∧ Q (.ref p) H))) := by
  intro pins s σ H xs us Q I r h
  obtain ⟨p, ys, rfl, h⟩ := h
  obtain ⟨u, rfl, rx⟩ := vals1 r
  cases rx
  rcases h with ⟨hq, q⟩ | ⟨hq, q⟩
  · obtain ⟨its, r', pl, hz⟩ := I.list hq
    have hlen := r'.length
    refine call_tuple_list pl.isList (fun h' kp => ?_) (by simp only [List.size_toArray] <;> omega)
    have I1 : Inv X pins σ H { s with heap := h' } := I.kept (t' := s.toks) kp
    have I2 : Inv X pins σ (upd H h'.objs.size (.tup ys)) { s with heap := h'.push { cls := .type "tuple", data := .seq its.toArray } } :=
      I1.laid (t' := s.toks) (fun b o e => Heap.get?_push_of_some _ e) (Nat.le_refl _) (show ObjOk X.prog X.w _ _ _ (.tup ys) from ⟨hz, its, r', IsTup.new _ _⟩)
    exact ⟨.ref h'.objs.size, _, I2, rfl, q _ (I1.hok.fresh (Nat.le_refl _))⟩
  · obtain ⟨its, r', pl, hz⟩ := I.tuple hq
    exact call_tuple_same pl ⟨.ref p, H, I, rfl, q⟩
def tyV (K : PySem.W.Frag) (T : String) (x : V) (H : Hp) : Prop := match x with
  | .str _ => T = "str"
  | .int _ => T = "int"
  | .ref p => (T = "list" ∧ ∃ xs, SqL K H p xs) ∨ (T = "tuple" ∧ ∃ o, K.lookup p = some o ∧ o.cls = .type "tuple" ∧ o.dict = none) ∨
      (T = "dict" ∧ ((∃ kvs, H p = some (.dK kvs)) ∨ ∃ kvs, H p = some (.dT kvs))) ∨ (T = "set" ∧ ∃ S n, H p = some (.set S n))
  | _ => False
theorem tyV_is {pins : List (Addr × Obj)} {σ : St} {H : Hp} {s : Shared} {T : String} {x : V} {v : Value} (I : Inv X pins σ H s) (r : RelV x v) (ty : tyV X.K T x H) :
    s.TypeIs v T ∧ ∀ a, v = .ref a → ∃ ob, s.heap.get? a = some ob ∧ ob.dict = none := by
  cases x with
  | str z =>
    obtain ⟨t, rfl⟩ := r
    cases (show T = "str" from ty)
    exact ⟨typeIs_str s z t, fun _ e => nomatch e⟩
  | int i =>
    obtain ⟨t, rfl⟩ := r
    cases (show T = "int" from ty)
    exact ⟨typeIs_int s i t, fun _ e => nomatch e⟩
  | ref p =>
    cases r
    rcases ty with ⟨rfl, xs, hq⟩ | ⟨rfl, o, hk, hc, hd⟩ | ⟨rfl, hk⟩ | ⟨rfl, S, n, hk⟩
    · obtain ⟨its, _, pl, _⟩ := I.list hq
      refine ⟨pl.isList.typeIs, fun a e => ?_⟩
      cases e
      obtain ⟨o, n, e, c, hd, _⟩ := pl
      exact ⟨o, e, hd⟩
    · refine ⟨⟨o, I.kIn p o hk, hc⟩, fun a e => ?_⟩
      cases e
      exact ⟨o, I.kIn _ o hk, hd⟩
    · have z : ∃ o, s.heap.get? p = some o ∧ o.ExactDict := by
        rcases hk with ⟨kvs, hk⟩ | ⟨kvs, hk⟩
        · obtain ⟨_, _, _, _, o, _, _, e, ex, _⟩ := I.hok p _ hk
          exact ⟨o, e, ex⟩
        · obtain ⟨_, _, _, _, o, _, _, e, ex, _⟩ := I.hok p _ hk
          exact ⟨o, e, ex⟩
      obtain ⟨o, e, ex⟩ := z
      refine ⟨⟨o, e, ex.1⟩, fun a e2 => ?_⟩
      cases e2
      exact ⟨o, e, ex.2.1⟩
    · obtain ⟨o, _, _, _, e, ex, _⟩ := I.hok p _ hk
      refine ⟨⟨o, e, ex.1⟩, fun a e2 => ?_⟩
      cases e2
      exact ⟨o, e, ex.2.1⟩
  | _ => exact False.elim ty
def tBM (K : PySem.W.Frag) (T : String) (r : V → List V → Hp → VK → Prop) (to : TE) (t : TA) : TE := fun σ H Q => to σ H fun x H1 => tyV K T x H1 ∧ t σ H1 fun xs H2 => r x xs H2 Q
variable {o e : Expr} {es : List Expr} {to : TE} {t : TA} {name : Str} {apos cpos : Pos} {T id : String} {r : V → List V → Hp → VK → Prop}
theorem pe_bm (pa : PlainAttrs T) (slot : Slot T name id) (hty : typeOf (.builtin id) = pure (.type "method_descriptor")) (hm : MtR X id r) (ho : PE X o to) (ha : PA X (e :: es) t)
    (hbase : attributeBase o name X.env (eval o X.env) = eval o X.env := by rfl)
    (hfew : ((backTo cpos (starEach (e :: es) X.env)).all (fun x => !x.1) && (backToKw cpos (keywordEach [] X.env)).all (fun x => x.1.isSome)
      && decide ((e :: es).length + ([] : List Keyword).length + (if ([] : List Keyword).isEmpty then 0 else 1) < 30)) = true := by rfl)
    (hline : (apos.endLine == cpos.line) = true := by rfl) (hs : starEach (e :: es) X.env = (false, eval e X.env) :: starEach es X.env := by rfl) (hplain : (backTo cpos (starEach es X.env)).any (·.1) = false := by rfl) :
    PE X (.Call (.Attribute o name apos) (e :: es) [] cpos) (tBM X.K T r to t) := by
  intro pins s σ H Q I h
  refine wpAny_Call_method_late hbase hfew hline rfl (thn (ho pins s σ H _ I h) fun v s1 ⟨x, H1, I1, r1, ty, q1⟩ => ?_)
  obtain ⟨h1, h2⟩ := tyV_is I1 r1 ty
  refine ⟨T, id, pa, slot, hty, h1, h2, ?_⟩
  have hA := ha cpos pins s1 σ H1 _ I1 q1
  rw [hs] at hA ⊢
  refine Calls.callWith_builtin (by show (false || (backTo cpos (starEach es X.env)).any (·.1)) = false; rw [hplain] <;> rfl) (Calls.evalArgs_plain ?_)
  exact thn hA fun us s2 ⟨vs, H2, I2, r2, q2⟩ => hm pins s2 σ H2 x vs v us Q I2 r1 r2 q2
end
end L2
namespace L2
open PySem PySem.Spec PyProof.Rows
def MtM (X : Cx) (id : String) (r : V → List V → Hp → VK → Prop) : Prop :=
  ∀ (pins : List (Addr × Obj)) (s : Shared) (σ : St) (H : Hp) (x : V) (xs : List V) (v : Value) (us : List Value) (Q : VK), Inv X pins σ H s → RelV x v → Vals xs us → r x xs H Q →
    wpAny (model X.prog X.w) X.A (call (.builtin id) (v :: us)) (EP X pins σ Q) X.xe s
theorem Vals.one : ∀ {x : V} {us : List Value}, Vals [x] us → ∃ u, us = [u] ∧ RelV x u
  | _, _, .cons r .nil => ⟨_, rfl, r⟩
theorem Vals.rep {xs : List V} {us : List Value} (h : Vals xs us) : ∀ k : Nat, Vals (List.replicate k xs).flatten (List.replicate k us).flatten
  | 0 => .nil
  | k + 1 => by
    rw [List.replicate_succ, List.replicate_succ, List.flatten_cons, List.flatten_cons]
    exact Vals.append h (Vals.rep h k)
theorem foldl_rep (its : List Value) : ∀ (k : Nat) (acc : List Value),
    List.foldl (fun x1 x2 => x1 ++ x2) acc.toArray (List.replicate k its.toArray) = (acc ++ (List.replicate k its).flatten).toArray
  | 0, acc => by simp
  | k + 1, acc => by
    have e : acc.toArray ++ its.toArray = (acc ++ its).toArray := by simp
    have e2 : (acc ++ its) ++ (List.replicate k its).flatten = acc ++ (List.replicate (k + 1) its).flatten := by
      rw [List.replicate_succ, List.flatten_cons, List.append_assoc]
    rw [← e2, ← foldl_rep its k (acc ++ its), ← e, List.replicate_succ, List.foldl_cons]
section
variable {X : Cx} {pins : List (Addr × Obj)} {σ : St} {H : Hp} {s : Shared} {l b : Addr} {xs ys zs : List V}
theorem Inv.lset {its its' : List Value} {n : Nat} {f : Array Value → Array Value} {t' : Nat} (I : Inv X pins σ H s) (hH : H l = some (.lst xs))
    (e : s.heap.get? l = some { cls := .type "list", data := .seq its.toArray n }) (hf : f its.toArray = its'.toArray) (hv : Vals ys its') (hz : ys.length ≤ sizeLine) :
    Inv X pins σ (upd H l (.lst ys)) { s with heap := s.heap.update l (Obj.mapSeq f), toks := t' } := by
  have q := PySem.IsL.update e f
  rw [hf] at q
  refine I.write (x := l) (e := l) (by rw [hH]; exact trivial) (.inl rfl) (fun b' u hb hu => (Heap.get?_update_other s.heap (Obj.mapSeq f) (Ne.symm hb)).trans hu) ⟨_, q⟩ ?_
  exact ⟨hz, its', _, hv, q⟩
theorem Inv.lnew {its : List Value} {t' : Nat} (I : Inv X pins σ H s) (hv : Vals ys its) (hz : ys.length ≤ sizeLine) :
    Inv X pins σ (upd H s.heap.objs.size (.lst ys)) { s with heap := s.heap.push { cls := .type "list", data := .seq its.toArray }, toks := t' } :=
  I.laid (fun _ _ q => Heap.get?_push_of_some _ q) (Nat.le_refl _) ⟨hz, its, 0, hv, Heap.get?_push_size _ rfl⟩
theorem Inv.fresh (I : Inv X pins σ H s) : H s.heap.objs.size = none := I.hok.fresh (Nat.le_refl _)
theorem Inv.lstM (I : Inv X pins σ H s) (hH : H l = some (.lst xs)) : xs.length ≤ sizeLine ∧ ∃ (its : List Value) (n : Nat), Vals xs its ∧ xs.length = its.length ∧ s.heap.get? l = some { cls := .type "list", data := .seq its.toArray n } := by
  obtain ⟨z, its, n, r, e⟩ := I.hok l _ hH
  exact ⟨z, its, n, r, r.length, e⟩
theorem notLongL {n : Nat} (h : n ≤ sizeLine) : Builtin.List.listTooLong n = false := by
  unfold Builtin.List.listTooLong
  exact decide_eq_false (by omega)
end
section
variable {X : Cx}
def rAppend : V → List V → Hp → VK → Prop := fun x vs H Q => ∃ l xs y, x = .ref l ∧ vs = [y] ∧ H l = some (.lst xs) ∧ xs.length < sizeLine ∧ Q .non (upd H l (.lst (xs ++ [y])))
theorem mt_append : MtM X "list.append" rAppend := by
  intro pins s σ H x vs v us Q I rx rv h
  obtain ⟨l, xs, y, rfl, rfl, hH, hz, q⟩ := h
  cases rx
  obtain ⟨u, rfl, ru⟩ := rv.one
  obtain ⟨z, its, n, r, hl, e⟩ := I.lstM hH
  refine call_meets F.slot_list_append ⟨_, e, rfl⟩ F.entry_list_append (F.args_list_append_2 _ _) (PySem.list_append l its.toArray n u (by rw [List.size_toArray]; omega)) ⟨e, ?_⟩
  refine ⟨.non, _, I.lset (its' := its ++ [u]) hH e (by simp) (r.append (.cons ru .nil)) ?_, rfl, q⟩
  rw [List.length_append, List.length_singleton]
  omega
def rExtend : V → List V → Hp → VK → Prop := fun x vs H Q => ∃ l b xs zs, x = .ref l ∧ vs = [.ref b] ∧ H l = some (.lst xs) ∧ H b = some (.lst zs) ∧ xs.length + zs.length ≤ sizeLine ∧ Q .non (upd H l (.lst (xs ++ zs)))
theorem mt_extend : MtM X "list.extend" rExtend := by
  intro pins s σ H x vs v us Q I rx rv h
  obtain ⟨l, b, xs, zs, rfl, rfl, hH, hB, hz, q⟩ := h
  cases rx
  obtain ⟨u, rfl, ru⟩ := rv.one
  cases ru
  obtain ⟨z, its, n, r, hl, e⟩ := I.lstM hH
  obtain ⟨z2, its2, n2, r2, hl2, e2⟩ := I.lstM hB
  have hsz : its.toArray.size + its2.toArray.size ≤ sizeLine := by rw [List.size_toArray, List.size_toArray]; omega
  have hlong : ¬ (!its.toArray.isEmpty && Builtin.List.listTooLong (its.toArray.size + its2.toArray.size)) = true := by
    rw [notLongL hsz, Bool.and_false]
    exact Bool.false_ne_true
  refine call_meets F.slot_list_extend ⟨_, e, rfl⟩ F.entry_list_extend (F.args_list_extend_2 _ _)
    (AutoSeq1.list_extend_list_list_0 l its.toArray n b its2.toArray n2 hlong (by rw [List.size_toArray]; omega) (by omega)) ⟨e, e2, ?_⟩
  refine ⟨.non, _, I.lset (its' := its ++ its2) hH e (by simp) (r.append r2) ?_, rfl, q⟩
  rw [List.length_append]
  omega
def rCat : R2 := fun x y H Q => ∃ l b xs zs, x = .ref l ∧ y = .ref b ∧ H l = some (.lst xs) ∧ H b = some (.lst zs) ∧ xs.length + zs.length ≤ sizeLine ∧ ∀ p, H p = none → Q (.ref p) (upd H p (.lst (xs ++ zs)))
theorem op_cat : OpR X (binaryOp .Add) rCat := by
  intro pins s σ H x y v u Q I rx ry h
  obtain ⟨l, b, xs, zs, rfl, rfl, hH, hB, hz, q⟩ := h
  cases rx
  cases ry
  obtain ⟨z, its, n, r, hl, e⟩ := I.lstM hH
  obtain ⟨z2, its2, n2, r2, hl2, e2⟩ := I.lstM hB
  refine PySem.P.add_list e e2 ?_ (by rw [List.size_toArray, List.size_toArray]; omega)
  have ea : its.toArray ++ its2.toArray = (its ++ its2).toArray := by simp
  rw [ea]
  exact ⟨.ref _, _, I.lnew (t' := s.toks) (r.append r2) (by rw [List.length_append]; omega), rfl, q _ I.fresh⟩
def rRep : R2 := fun x y H Q => ∃ l k xs, x = .ref l ∧ y = .int k ∧ H l = some (.lst xs) ∧ -(2 ^ 63) ≤ k ∧ k < 2 ^ 63 ∧ xs.length * k.toNat ≤ sizeLine ∧
  ∀ p, H p = none → Q (.ref p) (upd H p (.lst (List.replicate k.toNat xs).flatten))
theorem len_rep {α : Type} (xs : List α) (k : Nat) : (List.replicate k xs).flatten.length = k * xs.length := by
  induction k with
  | zero => simp
  | succ k ih => rw [List.replicate_succ, List.flatten_cons, List.length_append, ih, Nat.succ_mul, Nat.add_comm]
theorem op_rep : OpR X (binaryOp .Mult) rRep := by
  intro pins s σ H x y v u Q I rx ry h
  obtain ⟨l, k, xs, rfl, rfl, hH, h1, h2, hz, q⟩ := h
  cases rx
  obtain ⟨t, rfl⟩ := ry
  obtain ⟨z, its, n, r, hl, e⟩ := I.lstM hH
  have hlen : its.toArray.size * k.toNat ≤ sizeLine := by rw [List.size_toArray, ← hl]; exact hz
  have hcap : ¬ its.toArray.size * k.toNat > (2 ^ 63 - 1) / 8 := by
    have : (sizeLine : Nat) ≤ (2 ^ 63 - 1) / 8 := by decide
    omega
  have hfit : ¬ (!Builtin.List.listFitsIndex k) = true := by
    rw [fitsIndex_both h1 h2]
    exact Bool.false_ne_true
  have hlong : ¬ Builtin.List.listTooLong (its.toArray.size * k.toNat) = true := by
    rw [notLongL hlen]
    exact Bool.false_ne_true
  have hnew : List.foldl (fun x1 x2 => x1 ++ x2) #[] (List.replicate (if its.toArray.isEmpty = true then 0 else k.toNat) its.toArray) = (List.replicate k.toNat its).flatten.toArray := by
    have f0 : ∀ m : Nat, List.foldl (fun x1 x2 => x1 ++ x2) #[] (List.replicate m its.toArray) = (List.replicate m its).flatten.toArray := fun m => by
      have := foldl_rep its m []
      rw [List.nil_append] at this
      exact this
    rw [f0]
    cases its with
    | nil => simp
    | cons a r' => rw [if_neg (by simp)]
  refine wpAny_binaryOp_repeat_ref (T := "list") (U := "int") (by decide) ⟨_, e, rfl⟩ (fun s' => typeIs_int s' k t) noFill_list_mul F.fills_int_mul F.slot_int_rmul repeat_list F.slot_int_index.lookup
    (call_meets F.slot_int_rmul (typeIs_int s k t) F.entry_int_rmul (F.args_int_rmul_2 _ _) (int___rmul___int_list k t l its.toArray n)
      ⟨e, rfl, ⟨_, e, rfl⟩, call_meets F.slot_list_mul ⟨_, e, rfl⟩ F.entry_list_mul (F.args_list_mul_2 _ _) (AutoListH.list___mul___list_int_3 l its.toArray n k t hfit hcap hlong) ⟨e, ?_⟩⟩)
  rw [hnew]
  exact ⟨.ref _, _, I.lnew (t' := s.toks) (r.rep k.toNat) (by rw [len_rep, Nat.mul_comm]; exact hz), rfl, q _ I.fresh⟩
end
end L2
namespace L2
open PySem PySem.Spec PyProof.Rows
section
variable {κ : Type} [DecidableEq κ]
def valV (kvs : List (κ × V)) (k : κ) : Option V := (kvs.find? fun kv => decide (kv.1 = k)).map (·.2)
def putK (kvs : List (κ × V)) (k : κ) (v : V) : List (κ × V) :=
  if (kvs.any fun kv => decide (kv.1 = k)) = true then kvs.map (fun kv => if kv.1 = k then (kv.1, v) else kv) else kvs ++ [(k, v)]
theorem valV_pos {p : κ × V} {r : List (κ × V)} {k : κ} (e : p.1 = k) : valV (p :: r) k = some p.2 := by simp [valV, List.find?_cons, e]
theorem valV_neg {p : κ × V} {r : List (κ × V)} {k : κ} (e : ¬ p.1 = k) : valV (p :: r) k = valV r k := by simp [valV, List.find?_cons, e]
theorem valV_any (k : κ) : ∀ kvs : List (κ × V), (kvs.any fun kv => decide (kv.1 = k)) = (valV kvs k).isSome
  | [] => rfl
  | p :: r => by
    rw [List.any_cons]
    by_cases e : p.1 = k
    · simp only [valV_pos e, decide_eq_true e, Bool.true_or, Option.isSome_some]
    · rw [valV_neg e, decide_eq_false e, Bool.false_or]; exact valV_any k r
theorem length_putK (kvs : List (κ × V)) (k : κ) (v : V) : (putK kvs k v).length ≤ kvs.length + 1 := by
  unfold putK
  split
  · rw [List.length_map]; omega
  · rw [List.length_append, List.length_cons, List.length_nil]; omega
theorem putK_new {kvs : List (κ × V)} {k : κ} (v : V) (h : valV kvs k = none) : putK kvs k v = kvs ++ [(k, v)] := by
  unfold putK
  rw [valV_any, h]
  exact if_neg (by decide)
theorem RelO.isSome_eq {o : Option V} {u : Option Value} (r : RelO o u) : o.isSome = u.isSome := by
  cases o with
  | none => cases u with
    | none => rfl
    | some _ => exact (show False from r).elim
  | some _ => cases u with
    | none => exact (show False from r).elim
    | some _ => rfl
theorem KV.val {kvs : List (κ × V)} {vs : List (κ × Value)} (r : KV kvs vs) (k : κ) : RelO (valV kvs k) (valueAt vs k) := by
  unfold KV at r
  induction r with
  | nil => exact True.intro
  | @cons p q ps qs h t ih =>
    obtain ⟨h1, h2⟩ := h
    by_cases e : p.1 = k
    · have e' : q.1 = k := h1.symm.trans e
      have b : valueAt (q :: qs) k = some q.2 := by simp [valueAt, List.find?_cons, e']
      rw [valV_pos e, b]; exact h2
    · have e' : ¬ q.1 = k := fun z => e (h1.trans z)
      have b : valueAt (q :: qs) k = valueAt qs k := by simp [valueAt, List.find?_cons, e']
      rw [valV_neg e, b]; exact ih
theorem KV.any {kvs : List (κ × V)} {vs : List (κ × Value)} (r : KV kvs vs) (k : κ) : (kvs.any fun kv => decide (kv.1 = k)) = vs.any fun kv => decide (kv.1 = k) := by
  unfold KV at r
  induction r with
  | nil => rfl
  | cons h t ih => rw [List.any_cons, List.any_cons, ih, h.1]
theorem KV.repl {kvs : List (κ × V)} {vs : List (κ × Value)} (r : KV kvs vs) (k : κ) {y : V} {u : Value} (ry : RelV y u) :
    KV (kvs.map fun kv => if kv.1 = k then (kv.1, y) else kv) (vs.map fun kv => if kv.1 = k then (kv.1, u) else kv) := by
  unfold KV at r ⊢
  induction r with
  | nil => exact .nil
  | @cons p q ps qs h t ih =>
    rw [List.map_cons, List.map_cons]
    refine .cons ?_ ih
    obtain ⟨h1, h2⟩ := h
    by_cases e : p.1 = k
    · rw [if_pos e, if_pos (h1.symm.trans e)]; exact ⟨h1, ry⟩
    · rw [if_neg e, if_neg (fun z => e (h1.trans z))]; exact ⟨h1, h2⟩
theorem KV.put {kvs : List (κ × V)} {vs : List (κ × Value)} (r : KV kvs vs) (k : κ) {y : V} {u : Value} (ry : RelV y u) : KV (putK kvs k y) (stored vs k u) := by
  unfold putK stored
  rw [r.any k]
  by_cases e : (vs.any fun kv => decide (kv.1 = k)) = true
  · rw [if_pos e, if_pos e]; exact r.repl k ry
  · rw [if_neg e, if_neg e]; exact Paired.snoc r ⟨rfl, ry⟩
theorem KV.length {kvs : List (κ × V)} {vs : List (κ × Value)} (r : KV kvs vs) : kvs.length = vs.length := Paired.length r
end
theorem kV_is {P : Program} {w : World} {k : Key} {u : Value} (r : RelV (kV k) u) : (mixKind P w).is k u = true := by
  cases k with
  | inl i => obtain ⟨t, e⟩ := (show ∃ t, u = Value.int i t from r); subst e; exact mixKind_int P w i t
  | inr x => obtain ⟨t, e⟩ := (show ∃ t, u = Value.str x t from r); subst e; exact mixKind_str P w x t
theorem items_are {P : Program} {w : World} : ∀ {ks : List Key} {us : List Value}, Vals (ks.map kV) us → ItemsAre (mixKind P w) ks us
  | [], _, r => by rw [List.map_nil] at r; cases r; exact .nil
  | k :: ks, _, r => by
    rw [List.map_cons] at r
    cases r with
    | cons h t => exact .cons (kV_is h) (items_are t)
abbrev KT (H : Hp) : List (List Key × V) → List (List Key × Addr × Value) → Prop := Paired fun p q => p.1 = q.1 ∧ H q.2.1 = some (.tup (p.1.map kV)) ∧ RelV p.2 q.2.2
theorem KT.val {H : Hp} {kvs : List (List Key × V)} {xs : List (List Key × Addr × Value)} (r : KT H kvs xs) (k : List Key) : RelO (valV kvs k) ((atKey xs k).map (·.2)) := by
  induction r with
  | nil => exact True.intro
  | @cons p q ps qs h t ih =>
    obtain ⟨h1, _, h2⟩ := h
    by_cases e : p.1 = k
    · have e' : q.1 = k := h1.symm.trans e
      have b : atKey (q :: qs) k = some q.2 := by simp [atKey, List.find?_cons, e']
      rw [valV_pos e, b]; exact h2
    · have e' : ¬ q.1 = k := fun z => e (h1.trans z)
      have b : atKey (q :: qs) k = atKey qs k := by simp [atKey, List.find?_cons, e']
      rw [valV_neg e, b]; exact ih
theorem KT.repl {H : Hp} {kvs : List (List Key × V)} {xs : List (List Key × Addr × Value)} (r : KT H kvs xs) (k : List Key) {y : V} {u : Value} (ry : RelV y u) :
    KT H (kvs.map fun kv => if kv.1 = k then (kv.1, y) else kv) (xs.map (putAt k u)) := by
  induction r with
  | nil => exact .nil
  | @cons p q ps qs h t ih =>
    rw [List.map_cons, List.map_cons]
    refine .cons ?_ ih
    obtain ⟨h1, h2, h3⟩ := h
    unfold putAt
    by_cases e : p.1 = k
    · rw [if_pos e, if_pos (h1.symm.trans e)]; exact ⟨h1, h2, ry⟩
    · rw [if_neg e, if_neg (fun z => e (h1.trans z))]; exact ⟨h1, h2, h3⟩
theorem KT.put {H : Hp} {kvs : List (List Key × V)} {xs : List (List Key × Addr × Value)} (r : KT H kvs xs) (k : List Key) {b : Addr} {y : V} {u : Value} (hb : H b = some (.tup (k.map kV))) (ry : RelV y u) :
    KT H (putK kvs k y) (storedH xs k b u) := by
  have e : (kvs.any fun kv => decide (kv.1 = k)) = (atKey xs k).isSome := by
    rw [valV_any, (r.val k).isSome_eq, Option.isSome_map]
  unfold putK storedH
  rw [e]
  by_cases q : (atKey xs k).isSome = true
  · rw [if_pos q, if_pos q]; exact r.repl k ry
  · rw [if_neg q, if_neg q]; exact Paired.snoc r ⟨rfl, hb, ry⟩
theorem KT.keeps {H H' : Hp} {kvs : List (List Key × V)} {xs : List (List Key × Addr × Value)} (r : KT H kvs xs) (ht : ∀ b ys, H b = some (.tup ys) → H' b = some (.tup ys)) : KT H' kvs xs :=
  Paired.mapP r fun _ _ z => ⟨z.1, ht _ _ z.2.1, z.2.2⟩
section
variable {P : Program} {w : World} {H : Hp} {h : Heap} {a : Addr}
theorem rd_of {u : HO} (ok : HOk P w H h) (e : Rd H a u) : ObjOk P w H h a u := e.ok ok
theorem dk_rd {kvs : List (Key × V)} (ok : HOk P w H h) (e : Rd H a (.dK kvs)) : kvs.length ≤ sizeLine ∧ (a == sysModules) = false ∧ ∃ vs, KV kvs vs ∧ h.DictOf (mixKind P w) a vs :=
  show ObjOk P w H h a (.dK kvs) from rd_of ok e
theorem dk_of {kvs : List (Key × V)} (ok : HOk P w H h) (e : H a = some (.dK kvs)) : kvs.length ≤ sizeLine ∧ (a == sysModules) = false ∧ ∃ vs, KV kvs vs ∧ h.DictOf (mixKind P w) a vs := dk_rd ok (.inl e)
theorem key_of {ks : List Key} (ok : HOk P w H h) (e : H a = some (.tup (ks.map kV))) : (tupleKind (mixKind P w)).is h ks a := by
  obtain ⟨_, its, r, o, h1, h2, n, h3⟩ := (show ObjOk P w H h a (.tup (ks.map kV)) from ok a _ e)
  exact ⟨o, its.toArray, n, h1, h2, h3, by simpa using items_are r⟩
theorem dt_rd {kvs : List (List Key × V)} (ok : HOk P w H h) (e : Rd H a (.dT kvs)) : kvs.length ≤ sizeLine ∧ (a == sysModules) = false ∧
    ∃ xs, KT H kvs xs ∧ h.DictOfH (tupleKind (mixKind P w)) a xs := by
  obtain ⟨z, y, xs, r, o, es, ep, h1, h2, h3, h4, h5⟩ := (show ObjOk P w H h a (.dT kvs) from rd_of ok e)
  refine ⟨z, y, xs, r, o, es, ep, h1, h2, h3, h4, fun x hx => ?_, h5⟩
  have all : ∀ {l : List (List Key × V)} {m : List (List Key × Addr × Value)}, KT H l m → ∀ x ∈ m, (tupleKind (mixKind P w)).is h x.1 x.2.1 := by
    intro l m q
    induction q with
    | nil => intro x hx; exact nomatch hx
    | @cons p q ps qs hq t ih =>
      intro x hx
      rcases List.mem_cons.mp hx with e | hx
      · subst e
        exact key_of ok (by rw [← hq.1]; exact hq.2.1)
      · exact ih x hx
  exact all r x hx
theorem dt_of {kvs : List (List Key × V)} (ok : HOk P w H h) (e : H a = some (.dT kvs)) : kvs.length ≤ sizeLine ∧ (a == sysModules) = false ∧
    ∃ xs, KT H kvs xs ∧ h.DictOfH (tupleKind (mixKind P w)) a xs := dt_rd ok (.inl e)
end
def DGet (H : Hp) (a : Addr) (y : V) (r : Option V) : Prop :=
  (∃ kvs k, Rd H a (.dK kvs) ∧ y = kV k ∧ r = valV kvs k) ∨ ∃ kvs k b, Rd H a (.dT kvs) ∧ y = .ref b ∧ H b = some (.tup (k.map kV)) ∧ r = valV kvs k
def DPut (H : Hp) (a : Addr) (y v : V) (H' : Hp) : Prop :=
  (∃ kvs k, H a = some (.dK kvs) ∧ y = kV k ∧ kvs.length < sizeLine ∧ H' = upd H a (.dK (putK kvs k v))) ∨
  ∃ kvs k b, H a = some (.dT kvs) ∧ y = .ref b ∧ H b = some (.tup (k.map kV)) ∧ kvs.length < sizeLine ∧ H' = upd H a (.dT (putK kvs k v))
theorem DGet.k {H : Hp} {a : Addr} {kvs : List (Key × V)} {k : Key} (e : H a = some (.dK kvs)) : DGet H a (kV k) (valV kvs k) := .inl ⟨kvs, k, .inl e, rfl, rfl⟩
theorem DPut.k {H : Hp} {a : Addr} {kvs : List (Key × V)} {k : Key} {v : V} (e : H a = some (.dK kvs)) (hl : kvs.length < sizeLine) : DPut H a (kV k) v (upd H a (.dK (putK kvs k v))) := .inl ⟨kvs, k, e, rfl, hl, rfl⟩
theorem DPut.t {H : Hp} {a b : Addr} {kvs : List (List Key × V)} {k : List Key} {v : V} (e : H a = some (.dT kvs)) (eb : H b = some (.tup (k.map kV))) (hl : kvs.length < sizeLine) :
    DPut H a (.ref b) v (upd H a (.dT (putK kvs k v))) := .inr ⟨kvs, k, b, e, rfl, eb, hl, rfl⟩
section
variable {X : Cx} {pins : List (Addr × Obj)} {σ : St} {H : Hp} {s : Shared} {a : Addr} {y v : V} {u r : Value} {o : Option V} {A : Around} {E : Value → Shared → Prop}
theorem Inv.big (I : Inv X pins σ H s) : sysModules < s.heap.objs.size := by
  have h : mainGlobals < s.heap.objs.size := (I.mod.glob.keeps I.bk).lt
  exact Nat.lt_trans (by decide) h
theorem d_getItem {Q : Value → Shared → Prop} (hu : A.units + 1 < cLine) (I : Inv X pins σ H s) (g : DGet H a y (some v)) (ry : RelV y u) (h : ∀ w' s', Inv X pins σ H s' → RelV v w' → Q w' s') :
    wpAny (model X.prog X.w) A (getItem (.ref a) u) Q E s := by
  rcases g with ⟨kvs, k, e, ey, l⟩ | ⟨kvs, k, b, e, ey, eb, l⟩
  · subst ey
    obtain ⟨z, hd, vs, rel, dd⟩ := dk_rd I.hok e
    obtain ⟨w', hw, rw'⟩ := RelO.some_of (v := v) (o := valueAt vs k) (by rw [l]; exact rel.val k)
    exact wpAny_getItem_of (kV_is ry) dd.mapOf hw (h w' _ (I.tok _) rw')
  · subst ey
    cases (show u = Value.ref b from ry)
    obtain ⟨z, hd, xs, rel, dd⟩ := dt_rd I.hok e
    obtain ⟨w', hw, rw'⟩ := RelO.some_of (v := v) (o := (atKey xs k).map (·.2)) (by rw [l]; exact rel.val k)
    obtain ⟨p, hp, hp2⟩ := Option.map_eq_some_iff.mp hw
    refine wpAny_getItem_heap (tupleKind_room_in1 hu) (key_of I.hok eb) dd hp ?_
    rw [hp2]
    exact h w' _ (I.tok _) rw'
theorem d_in {Q : Value → Shared → Prop} (hu : A.units + 1 < cLine) (I : Inv X pins σ H s) (g : DGet H a y o) (ry : RelV y u) (h : ∀ s', Inv X pins σ H s' → Q (.bool o.isSome) s') :
    wpAny (model X.prog X.w) A (compareOp .In u (.ref a)) Q E s := by
  rcases g with ⟨kvs, k, e, ey, l⟩ | ⟨kvs, k, b, e, ey, eb, l⟩
  · subst ey
    obtain ⟨z, hd, vs, rel, dd⟩ := dk_rd I.hok e
    refine wpAny_in_of (kV_is ry) hd dd.mapOf ?_
    rw [← (rel.val k).isSome_eq, ← l]
    exact h _ (I.tok _)
  · subst ey
    cases (show u = Value.ref b from ry)
    obtain ⟨z, hd, xs, rel, dd⟩ := dt_rd I.hok e
    refine wpAny_in_heap (tupleKind_room_in1 hu) (key_of I.hok eb) hd dd ?_
    have q := (rel.val k).isSome_eq
    rw [Option.isSome_map] at q
    rw [← q, ← l]
    exact h _ (I.tok _)
theorem d_notIn {Q : Value → Shared → Prop} (hu : A.units + 1 < cLine) (I : Inv X pins σ H s) (g : DGet H a y o) (ry : RelV y u) (h : ∀ s', Inv X pins σ H s' → Q (.bool (!o.isSome)) s') :
    wpAny (model X.prog X.w) A (compareOp .NotIn u (.ref a)) Q E s := by
  rcases g with ⟨kvs, k, e, ey, l⟩ | ⟨kvs, k, b, e, ey, eb, l⟩
  · subst ey
    obtain ⟨z, hd, vs, rel, dd⟩ := dk_rd I.hok e
    refine wpAny_notIn_of (kV_is ry) hd dd.mapOf ?_
    rw [← (rel.val k).isSome_eq, ← l]
    exact h _ (I.tok _)
  · subst ey
    cases (show u = Value.ref b from ry)
    obtain ⟨z, hd, xs, rel, dd⟩ := dt_rd I.hok e
    refine wpAny_notIn_heap (tupleKind_room_in1 hu) (key_of I.hok eb) hd dd ?_
    have q := (rel.val k).isSome_eq
    rw [Option.isSome_map] at q
    rw [← q, ← l]
    exact h _ (I.tok _)
theorem d_write {h' : Heap} {t' : Nat} {ob : HO} (I : Inv X pins σ H s) (mu : Mut (H a)) (hs : Heap.SameBut a s.heap h') (he : ∃ q, h'.get? a = some q) (new : ObjOk X.prog X.w (upd H a ob) h' a ob) :
    Inv X pins σ (upd H a ob) { s with heap := h', toks := t' } :=
  I.write (x := a) (e := a) mu (.inl rfl) (fun b q hb z => (hs.2 b hb).trans z) he new
theorem dk_new {P : Program} {w : World} {H' : Hp} {h' : Heap} {kvs : List (Key × V)} {vs : List (Key × Value)} (z : kvs.length ≤ sizeLine) (hd : (a == sysModules) = false) (rel : KV kvs vs) (dd : h'.DictOf (mixKind P w) a vs) :
    ObjOk P w H' h' a (.dK kvs) := ⟨z, hd, vs, rel, dd⟩
theorem d_setItem {H' : Hp} {Q : Unit → Shared → Prop} (hu : A.units + 1 < cLine) (I : Inv X pins σ H s) (g : DPut H a y v H') (ry : RelV y u) (rv : RelV v r) (h : ∀ s', Inv X pins σ H' s' → Q () s') :
    wpAny (model X.prog X.w) A (setItem (.ref a) u r) Q E s := by
  rcases g with ⟨kvs, k, e, ey, l, eH⟩ | ⟨kvs, k, b, e, ey, eb, l, eH⟩
  · subst ey eH
    obtain ⟨z, hd, vs, rel, dd⟩ := dk_of I.hok e
    have hz : vs.length ≤ sizeLine := by rw [← rel.length]; exact z
    have hl : (putK kvs k v).length ≤ sizeLine := by have := length_putK kvs k v; omega
    refine wpAny_setItem_pairs (hsz := hz) (kV_is ry) dd fun h' dd' hs => h _ ?_
    have he : ∃ q, h'.get? a = some q := let ⟨q, _, _, hq, _⟩ := dd'; ⟨q, hq⟩
    exact d_write I (by rw [e]; exact True.intro) hs he (dk_new hl hd (rel.put k rv) dd')
  · subst ey eH
    cases (show u = Value.ref b from ry)
    obtain ⟨z, hd, xs, rel, dd⟩ := dt_of I.hok e
    have hz : xs.length ≤ sizeLine := by rw [← Paired.length rel]; exact z
    have hl : (putK kvs k v).length ≤ sizeLine := by have := length_putK kvs k v; omega
    refine wpAny_setItem_heap (hsz := hz) (tupleKind_room_in1 hu) (key_of I.hok eb) dd fun h' dd' hs => h _ ?_
    obtain ⟨q, es, ep, hq, h2, h3, h4, _, h5⟩ := dd'
    refine d_write I (by rw [e]; exact True.intro) hs ⟨q, hq⟩ ⟨hl, hd, _, (rel.put k eb rv).keeps fun c ys ec => ?_, q, es, ep, hq, h2, h3, h4, h5⟩
    rw [upd_ne (ne_of ec e (fun z => nomatch z))]
    exact ec
end
def NoSl (i : Expr) : Prop := ∀ ov iv, subscripted i false ov iv = operate [ov, iv] (getItem ov iv)
theorem subD_of {prog : Program} {w : World} {A : Around} {E : Value → Shared → Prop} {s : Shared} {env : Env} {value slice : Expr} {pos : Pos} {T id : String} {Q : Value → Shared → Prop}
    (hl : typeLookup (.type T) "__getitem__" = pure (some (.builtin id))) (hs : NoSl slice)
    (h : wpAny (model prog w) A (eval value env) (fun o s₁ => wpAny (model prog w) A (eval slice env) (fun i s₂ => s₂.TypeIs o T ∧ wpAny (model prog w) A (getItem o i) Q E s₂) E s₁) E s) :
    wpAny (model prog w) A (eval (.Subscript value slice pos) env) Q E s := by
  refine Subscript_ (wpAny_mono h (fun o s₁ h₁ => wpAny_mono h₁ (fun i s₂ h₂ => ?_) fun _ _ x => x) fun _ _ x => x)
  obtain ⟨hT, h₂⟩ := h₂
  unfold subscriptTail
  refine wpAny_bind ?_
  rw [getitemInPython_of_ne hT.not_modules]
  refine wpAny_bind (wpAny_specialOf hT hl ?_)
  have fin : wpAny (model prog w) A (subscripted slice false o i) (fun r s₃ => wpAny (model prog w) A (letTemporaryGo value o r >>= fun _ => pure r) Q E s₃) E s₂ := by
    rw [hs o i]
    exact wpAny_operating (wpAny_mono h₂ (fun r s₃ h₃ => wpAny_bind (wpAny_letTemporaryGo (wpAny_pure h₃))) fun _ _ x => x)
  first
    | exact wpAny_pure (wpAny_bind fin)
    | exact wpAny_bind (wpAny_pure (wpAny_bind fin))
    | exact wpAny_bind fin
theorem dict_typeIs {X : Cx} {pins : List (Addr × Obj)} {σ : St} {H : Hp} {s : Shared} {a : Addr} {y : V} {o : Option V} (I : Inv X pins σ H s) (g : DGet H a y o) : s.TypeIs (.ref a) "dict" := by
  rcases g with ⟨kvs, k, e, _, _⟩ | ⟨kvs, k, b, e, _, _, _⟩
  · obtain ⟨_, _, vs, _, dd⟩ := dk_rd I.hok e
    exact dd.typeIs
  · obtain ⟨_, _, xs, _, dd⟩ := dt_rd I.hok e
    exact dd.typeIs
def tDGet (td ty : TE) : TE := fun σ H Q => td σ H fun x H1 => ty σ H1 fun y H2 => ∃ a v, x = .ref a ∧ DGet H2 a y (some v) ∧ Q v H2
def tDIn (ty td : TE) : TE := fun σ H Q => ty σ H fun y H1 => td σ H1 fun x H2 => ∃ a o, x = .ref a ∧ DGet H2 a y o ∧ Q (.bl o.isSome) H2
def tDNotIn (ty td : TE) : TE := fun σ H Q => ty σ H fun y H1 => td σ H1 fun x H2 => ∃ a o, x = .ref a ∧ DGet H2 a y o ∧ Q (.bl (!o.isSome)) H2
def sDPut (td ty tv : TE) : TS := fun D σ H => tv σ H fun v H1 => td σ H1 fun x H2 => ty σ H2 fun y H3 => ∃ a H4, x = .ref a ∧ DPut H3 a y v H4 ∧ D.nx σ H4
section
variable {X : Cx} {o i e value : Expr} {pos pos' tpos : Pos} {td ty tv : TE}
theorem pe_dget (hu : X.A.units + 1 < cLine) (ho : PE X o td) (hi : PE X i ty) (hs : NoSl i) : PE X (.Subscript o i pos) (tDGet td ty) := by
  intro pins s σ H Q I h
  refine subD_of PySem.F.slot_dict_getitem.lookup hs (thn (ho pins s σ H _ I h) fun u s1 ⟨x, H1, I1, rx, q1⟩ => thn (hi pins s1 σ H1 _ I1 q1) fun iv s2 ⟨y, H2, I2, ry, a, v, ex, g, q2⟩ => ?_)
  subst ex
  obtain rfl : u = Value.ref a := rx
  exact ⟨dict_typeIs I2 g, d_getItem hu I2 g ry fun w' s3 I3 rw' => ⟨v, H2, I3, rw', q2⟩⟩
theorem pc_din (hu : X.A.units + 1 < cLine) (hi : PE X i ty) (ho : PE X o td) : PC X .In i o (tDIn ty td) := by
  intro pins s σ H Q I h
  refine thn (hi pins s σ H _ I h) fun iv s1 ⟨y, H1, I1, ry, q1⟩ => thn (ho pins s1 σ H1 _ I1 q1) fun u s2 ⟨x, H2, I2, rx, a, ov, ex, g, q2⟩ => ?_
  subst ex
  obtain rfl : u = Value.ref a := rx
  exact d_in hu I2 g ry fun s3 I3 => ⟨.bl ov.isSome, H2, I3, rfl, q2⟩
theorem pc_dnotin (hu : X.A.units + 1 < cLine) (hi : PE X i ty) (ho : PE X o td) : PC X .NotIn i o (tDNotIn ty td) := by
  intro pins s σ H Q I h
  refine thn (hi pins s σ H _ I h) fun iv s1 ⟨y, H1, I1, ry, q1⟩ => thn (ho pins s1 σ H1 _ I1 q1) fun u s2 ⟨x, H2, I2, rx, a, ov, ex, g, q2⟩ => ?_
  subst ex
  obtain rfl : u = Value.ref a := rx
  exact d_notIn hu I2 g ry fun s3 I3 => ⟨.bl (!ov.isSome), H2, I3, rfl, q2⟩
theorem ps_dput (hu : X.A.units + 1 < cLine) (ho : PE X o td) (hi : PE X i ty) (hv : PE X value tv) (hs : swapsWith value (some (.Subscript o i pos')) pos.line X.env = pure false) :
    PS X (.Assign [.Subscript o i pos'] value pos) (sDPut td ty tv) := by
  intro pins s σ H D I h
  refine wpAny_Assign_Subscript (thn (hv pins s σ H _ I h) fun r s1 ⟨v, H1, I1, rv, q1⟩ => thn (ho pins s1 σ H1 _ I1 q1) fun u s2 ⟨x, H2, I2, rx, q2⟩ => thn (hi pins s2 σ H2 _ I2 q2) fun iv s3 ⟨y, H3, I3, ry, a, H4, ex, g, q3⟩ => ?_) hs
  subst ex
  obtain rfl : u = Value.ref a := rx
  exact d_setItem hu I3 g ry rv fun s4 I4 => ⟨σ, H4, I4, q3⟩
end
theorem dk_empty {P : Program} {w : World} {H : Hp} (h : Heap) (hb : sysModules < h.objs.size) : ObjOk P w H (h.push { cls := .type "dict", data := .dict #[] }) h.objs.size (.dK []) :=
  ⟨Nat.zero_le _, beq_eq_false_iff_ne.mpr (Ne.symm (Nat.ne_of_lt hb)), [], .nil, Heap.DictOf.new h⟩
theorem dt_empty {P : Program} {w : World} {H : Hp} (h : Heap) (hb : sysModules < h.objs.size) : ObjOk P w H (h.push { cls := .type "dict", data := .dict #[] }) h.objs.size (.dT []) :=
  ⟨Nat.zero_le _, beq_eq_false_iff_ne.mpr (Ne.symm (Nat.ne_of_lt hb)), [], .nil, _, #[], 0, Heap.get?_push_size _ rfl, ⟨rfl, rfl, rfl⟩, rfl, rfl, List.nodup_nil⟩
def tDNewK : TE := fun _ H Q => ∀ p, H p = none → Q (.ref p) (upd H p (.dK []))
def tDNewT : TE := fun _ H Q => ∀ p, H p = none → Q (.ref p) (upd H p (.dT []))
section
variable {X : Cx} {pos : Pos}
theorem pe_dnewK : PE X (.Dict [] [] pos) tDNewK := fun pins s σ H Q I h =>
  wpAny_Dict_empty ⟨.ref s.heap.objs.size, _, I.laid (a := s.heap.objs.size) (o := .dK []) (t' := s.toks) (fun _ _ q => Heap.get?_push_of_some _ q) (Nat.le_refl _) (dk_empty s.heap I.big), rfl, h _ (I.hok.fresh (Nat.le_refl _))⟩
theorem pe_dnewT : PE X (.Dict [] [] pos) tDNewT := fun pins s σ H Q I h =>
  wpAny_Dict_empty ⟨.ref s.heap.objs.size, _, I.laid (a := s.heap.objs.size) (o := .dT []) (t' := s.toks) (fun _ _ q => Heap.get?_push_of_some _ q) (Nat.le_refl _) (dt_empty s.heap I.big), rfl, h _ (I.hok.fresh (Nat.le_refl _))⟩
end
end L2
namespace Att
open PySem PySem.W PySem.Calls PyProof.Rows
theorem ints_of_wellAll {P : Params} {h : Heap} : ∀ (ns : List Int) (vs : List Value), WellAll P h vs (ns.map WData.int) → IntsAre vs ns := by
  intro ns
  induction ns with
  | nil =>
    intro vs w
    rw [List.map_nil] at w
    cases w
    exact .nil
  | cons n ns ih =>
    intro vs w
    rw [List.map_cons] at w
    cases w with
    | cons a b =>
      cases a
      exact .cons _ _ (ih _ b)
theorem script_of {l : OpenLaw} {n : Nat} (hn : l.most = some n) {P : Params} {h : Heap} {args : List WData} {vals : List Value}
    (hpre : l.row.toRowW.claim.pre args = true) (hwl : WellAll P h vals args) :
    ∃ a vs ns, vals = [Value.ref a] ∧ args = [WData.list (ns.map WData.int)] ∧ h.get? a = some { cls := .type "list", data := .seq vs.toArray } ∧ IntsAre vs ns ∧ ns.length ≤ n := by
  have hsh : WShape.hasAll [] args [.list .int] = true := (pre_splitW hpre).1
  have hc : l.pre.holds [] { args := args } = true := (pre_splitW hpre).2
  obtain ⟨d, r, rfl, h1, h2⟩ := hasAllW_cons hsh
  obtain rfl := hasAllW_nil h2
  obtain ⟨xs, rfl, h3⟩ := hasW_list h1
  obtain ⟨ns, rfl⟩ := items_int h3
  have hlen : ns.length ≤ n := by
    unfold OpenLaw.pre at hc
    have h4 : (WTm.not (.lt (.lit (.int (n : Int))) (.len (.arg 0)))).holds [] { args := [.list (ns.map .int)] } = true := by
      have h4 := (holds_andW hc).1
      rw [hn] at h4
      exact h4
    have h5 := condW_of h4 (w_not (w_lt w_lit (w_len_list (w_arg rfl))))
    rw [List.length_map] at h5
    refine Nat.le_of_not_lt fun q => ?_
    have q' : (n : Int) < ((ns.length : Nat) : Int) := by omega
    first
      | (rw [decide_eq_true q'] at h5; exact absurd h5 (by decide))
      | (simp at h5; omega)
  cases hwl with
  | cons w1 w2 =>
    cases w2
    cases w1 with
    | list ho hall => exact ⟨_, _, ns, rfl, rfl, ho, ints_of_wellAll ns _ hall, hlen⟩
theorem post_true (l : OpenLaw) (args : List WData) : l.row.toRowW.claim.post args (.bool true) args = true :=
  postW_of (r := l.row.toRowW) (X := (true == true))
    (show WShape.has [] (.bool true) .bool = true by first | rfl | decide | simp [WShape.has, WShape.arms, WShape.armsAll])
    (show (WTm.eq .res (.lit (.bool true))).value [] { args := args, res := some (.bool true), after := args } = some (.bool (true == true)) from w_eq_bool (w_res rfl) w_lit) rfl
theorem attach_call {l : OpenLaw} {n : Nat} {q : Program} {loose : List Str} {XP : (Str → Option Value) → Heap → Prop} {YP : World → Heap → Prop} {d : DefRec}
    (hn : l.most = some n) (hdf : d.params.defaults = [])
    (call : ∀ (w : World) (s₀ s₁ : Shared) (mg mb : Str → Option Value) (fa : Addr) (o : Obj) (pm cd doc : Value) (a : Addr) (vs : List Value) (ns : List Int),
      Ground q loose [] XP w s₀ mg mb s₁.heap → YP w s₁.heap →
      s₁.heap.get? fa = some o → o.data = .func (docDef d.name d.params d.body d.scope pm cd doc) → s₁.heap.CodeRec cd d.name → mg d.name = some (.ref fa) →
      s₁.heap.get? a = some { cls := .type "list", data := .seq vs.toArray } → IntsAre vs ns → ns.length ≤ n → s₁.gens = #[] →
      codeAny (model l.prog w) callerA (.call (.ref fa) ⟨[.ref a], []⟩) (fun r s' => r = .ok (.ret (.bool true)) ∧ OldK s₁.heap s'.heap ∧ s'.os = s₁.os ∧ AllBare s'.gens) s₁) :
    WalkO q loose XP YP l.row.toRowW d [] (fun f vs => PySem.call f vs) := by
  intro w s₀ s₁ mg mb G Y fa o pm cd doc dV kV ho hd hcd hD hmg hg args vals as hpre hlay hrd hwl hlo
  obtain rfl : dV = .none := Dflts.none hD hdf
  obtain rfl : kV = .none := Dflts.noKw hD
  obtain ⟨a, vs, ns, rfl, rfl, hobj, hints, hlen⟩ := script_of hn hpre hwl
  refine enter_call (codeAny_mono (call w s₀ s₁ mg mb fa o pm cd doc a vs ns G Y ho (fd_plain hd) hcd hmg hobj hints hlen hg) fun r s' hq => ?_)
  obtain ⟨rfl, h2, h3, h4⟩ := hq
  exact ⟨.inl ⟨.bool true, .bool true, [], rfl, fun _ => rfl, .bool true, post_true l _, fun _ => ⟨List.Pairwise.nil, fun _ hm => (nomatch hm)⟩⟩, h2, h3, h4⟩
end Att
namespace L2
open PySem PySem.Spec PyProof.Rows
theorem vals_ints : ∀ {vs : List Value} {ns : List Int}, IntsAre vs ns → Vals (ns.map V.int) vs
  | _, _, .nil => .nil
  | _, _, .cons n t h => .cons ⟨t, rfl⟩ (vals_ints h)
def Only (H : Hp) : Prop := ∀ b, H b = none ∨ ∃ o xs, H b = some (.frz o (.lst xs))
theorem law_call {P : Program} {w : World} {K : PySem.W.Frag} {mg mb : Str → Option Value} {CX : CXT} {k : Nat} {fa a : Addr} {fd : FuncData} {x : Str} {sp : Sp} {s₁ : Shared} {vs : List Value} {ns : List Int}
    (KX : K.In s₁.heap) (hns : s₁.heap.Ns mainGlobals mg) (hb : s₁.heap.Ns builtinsNs mb) (hbb : ∀ x : Str, x ≠ "__name__" → mb x = bootBuiltins x) (hlim : s₁.heap.NoLimit) (hg : s₁.gens = #[])
    (ha : s₁.heap.get? a = some { cls := .type "list", data := .seq vs.toArray }) (hi : IntsAre vs ns) (hl : ns.length ≤ sizeLine) (hr : Room k callerA)
    (F : ∀ base : Heap, K.In base → base.Ns mainGlobals mg → FnOk P w K mg base CX k fa fd [x] sp) (hbind : ∀ (s : Shared) (u : Value), BindsTo s fd ⟨[u], []⟩ [(x, u)])
    (hsp : ∀ H : Hp, Only H → SqL K H a (ns.map V.int) → sp [.ref a] H (fun v _ => v = .bl true) fun _ _ _ => False)
    (hCX : ∀ H e s', CX [] H s₁ (fun _ _ _ => False) e s' → False) :
    codeAny (model P w) callerA (.call (.ref fa) ⟨[.ref a], []⟩) (fun r s' => r = .ok (.ret (.bool true)) ∧ OldK s₁.heap s'.heap ∧ s'.os = s₁.os ∧ AllBare s'.gens) s₁ := by
  have rv := vals_ints hi
  have lenV := hi.length
  have core : ∀ H : Hp, Only H → SqL K H a (ns.map V.int) → HOk P w H s₁.heap → (∀ b, H b ≠ none → b = a) → (H a ≠ none → K.lookup a = none) →
      codeAny (model P w) callerA (.call (.ref fa) ⟨[.ref a], []⟩) (fun r s' => r = .ok (.ret (.bool true)) ∧ OldK s₁.heap s'.heap ∧ s'.os = s₁.os ∧ AllBare s'.gens) s₁ := by
    intro H hO hS hok hA hK
    have base_of : ∀ {b : Addr} {o : Obj}, s₁.heap.get? b = some o → H b = none → (hidT s₁.heap H).get? b = some o := fun e n => hidT_get e n
    have noA : ∀ {b : Addr} {o : Obj} {es : Array DictEntry} {ep : Nat}, s₁.heap.get? b = some o → o.data = .dict es ep → H b = none := fun {b o es ep} e d => by
      cases q : H b with
      | none => rfl
      | some u =>
        have e' : b = a := hA b (by rw [q]; simp)
        subst e'
        rw [ha] at e; cases e
        have d' : Data.seq vs.toArray _ = Data.dict es ep := d
        cases d'
    have nsK : ∀ {b : Addr} {m : Str → Option Value}, s₁.heap.Ns b m → (hidT s₁.heap H).Ns b m := fun {b m} ⟨o, es, ep, e, d, r⟩ => ⟨o, es, ep, base_of e (noA e d), d, r⟩
    have hKb : K.In (hidT s₁.heap H) := fun b o e => base_of (KX b o e) (by
      cases q : H b with
      | none => rfl
      | some u =>
        have e' : b = a := hA b (by rw [q]; simp)
        subst e'
        rw [hK (by rw [q]; simp)] at e; cases e)
    have hM : Mod K mg (hidT s₁.heap H) := ⟨hKb, nsK hns, ⟨mb, nsK hb, hbb⟩, let ⟨mc, h1, h2⟩ := hlim; ⟨mc, nsK h1, h2⟩⟩
    have e0 : Env0 P w K mg (hidT s₁.heap H) callerA [] s₁ H := ⟨rfl, hM, fun b o e => of_hidT e, Nat.le_of_eq (hidT_size _ _), trivial, fun b hb => absurd (show b ∈ ([] : List Addr) from hb) (by simp), hok, .of_eq hg⟩
    refine codeAny_mono ((F _ hKb (nsK hns)).run callerA [] s₁ H ⟨[.ref a], []⟩ [.ref a] [.ref a] _ _ hr e0 (hbind s₁ (.ref a)) (.cons rfl .nil) (hsp H hO hS)) fun r s' h => ?_
    cases r with
    | error e => exact (hCX H e s' h).elim
    | ok fl =>
      cases fl with
      | next => exact False.elim h
      | brk => exact False.elim h
      | cont => exact False.elim h
      | ret u =>
        obtain ⟨v, H', os, bare, un, hok', r', q⟩ := h
        have q' : v = .bl true := q
        subst q'
        obtain rfl : u = Value.bool true := r'
        refine ⟨rfl, OldK.of_keep fun b o e => ?_, os, bare⟩
        cases q : H b with
        | none => exact un.keep b o e q (by intro z; exact absurd (show b ∈ ([] : List Addr) from z) (by simp)) (by simp)
        | some u =>
          rcases hO b with z | ⟨ob, xs, z⟩
          · rw [q] at z; cases z
          · have z2 := un.frzs b ob _ z
            obtain ⟨e1, _⟩ := hok b _ z
            obtain ⟨e2, _⟩ := hok' b _ z2
            rw [e] at e1; cases e1
            exact e2
  cases hk : K.lookup a with
  | some o =>
    have e := KX a o hk
    rw [ha] at e
    cases e
    refine core (fun _ => none) (fun _ => .inl rfl) (.inr ⟨_, vs.toArray, _, hk, rfl, rfl, rfl, by rw [List.size_toArray, lenV]; exact hl, by simpa using rv⟩) (fun b u z => by have z' : (none : Option HO) = some u := z; cases z') (fun b z => absurd rfl z) fun z => absurd rfl z
  | none =>
    refine core (fun b => if b = a then some (.frz { cls := .type "list", data := .seq vs.toArray } (.lst (ns.map V.int))) else none) (fun b => ?_) (.inl (.inr ⟨{ cls := .type "list", data := .seq vs.toArray }, if_pos rfl⟩)) (fun b u z => ?_) (fun b z => ?_) fun _ => hk
    · by_cases hb : b = a
      · exact .inr ⟨_, _, if_pos hb⟩
      · exact .inl (if_neg hb)
    · by_cases hb : b = a
      · have z' := (if_pos hb).symm.trans z
        cases z'
        subst hb
        exact ⟨ha, by rw [List.length_map]; exact hl, vs, _, rv, ha⟩
      · have z' := (if_neg hb).symm.trans z
        cases z'
    · by_cases hb : b = a
      · exact hb
      · exact absurd (if_neg hb) z
end L2
namespace L2
open PySem PySem.Spec PyProof.Rows
theorem walk_of {l : PySem.W.OpenLaw} {n k : Nat} {q : Program} {loose : List Str} {XP : (Str → Option Value) → Heap → Prop} {YP : World → Heap → Prop} {d : DefRec} {K : Params → PySem.W.Frag} {CX : World → CXT} {sp : World → Sp} {x : Str}
    (hn : l.most = some n) (hn2 : n ≤ sizeLine) (hdf : d.params.defaults = []) (hr : Room k callerA)
    (hY : ∀ (w : World) (h : Heap), YP w h → (K w.params).In h)
    (F : ∀ (w : World) (mg : Str → Option Value) (fa : Addr) (h : Heap), (K w.params).In h → h.Ns mainGlobals mg → mg d.name = some (.ref fa) →
      ∃ fd : FuncData, (∀ (s : Shared) (u : Value), BindsTo s fd ⟨[u], []⟩ [(x, u)]) ∧
        ∀ base : Heap, (K w.params).In base → base.Ns mainGlobals mg → FnOk l.prog w (K w.params) mg base (CX w) k fa fd [x] (sp w))
    (hsp : ∀ (w : World) (H : Hp) (a : Addr) (ns : List Int), ns.length ≤ n → Only H → SqL (K w.params) H a (ns.map V.int) → sp w [.ref a] H (fun v _ => v = .bl true) fun _ _ _ => False)
    (hCX : ∀ (w : World) (H : Hp) (s : Shared) (e : Value) (s' : Shared), CX w [] H s (fun _ _ _ => False) e s' → False) :
    PySem.W.WalkO q loose XP YP l.row.toRowW d [] (fun f vs => PySem.call f vs) := by
  refine Att.attach_call hn hdf fun w s₀ s₁ mg mb fa o pm cd doc a vs ns G Y ho hd hcd hmg hobj hints hlen hg => ?_
  have KX := hY w _ Y
  obtain ⟨fd, hb, hF⟩ := F w mg fa _ KX G.T.g hmg
  exact law_call KX G.T.g G.T.b G.T.builtins G.T.nolimit hg hobj hints (Nat.le_trans hlen hn2) hr hF hb (fun H hO hS => hsp w H a ns hlen hO hS) fun H e s' => hCX w H s₁ e s'
end L2
namespace L2
open PySem PySem.Spec PyProof.Rows
def defArgs (s : Stmt) : Arguments := match s with
  | .FunctionDef _ a _ _ _ _ _ _ _ _ => a
  | _ => { posonlyargs := [], args := [], vararg := none, kwonlyargs := [], kw_defaults := [], kwarg := none, defaults := [] }
def defBody (s : Stmt) : List Stmt := match s with
  | .FunctionDef _ _ b _ _ _ _ _ _ _ => b
  | _ => []
def defScope (s : Stmt) : Scope := match s with
  | .FunctionDef _ _ _ _ _ _ sc _ _ _ => sc
  | _ => { kind := .function, names := [], isGenerator := false, isCoroutine := false }
abbrev CX0 : CXT := fun _ _ _ _ _ _ => False
abbrev E0 : XK := fun _ _ _ => False
theorem pass0 {X : Cx} : Passes CX0 X E0 := fun _ _ _ _ _ _ _ h => h.elim
structure Fun (K : PySem.W.Frag) (x qual : Str) (st : Stmt) (f : Addr) (fd : FuncData) : Prop where
  ex : ∃ (oc : Value) (od : Option Addr) (kV doc pm : Value) (an : Option Addr) (cdv ct : Value) (osl : Array (Option Value)),
    fd = PySem.W.fnOf x qual (defArgs st) (defBody st) (defScope st) .none kV doc pm an cdv ct ∧ K.lookup f = some ⟨oc, od, .func fd, osl⟩ ∧ PySem.W.codeIn K cdv qual = true
  kp : PySem.W.keepIn K (.ref f) = true
section
variable {P : Program} {w : World} {K : PySem.W.Frag} {mg : Str → Option Value} {base : Heap}
theorem Fun.ok {x qual : Str} {st : Stmt} {f : Addr} {fd : FuncData} {N ps : List Str} {k : Nat} {sp : Sp} (F : Fun K x qual st f fd) (S : FnScope N ps (defScope st)) (len : ∀ vs H Q E, sp vs H Q E → vs.length = ps.length)
    (hbody : ∀ (cdv : Value) (A : Around) (outer : List Env) (s : Shared) (H : Hp) (vs : List V) (Q : VK) (E : XK), Room k (A.deeper (envOfC qual (defScope st) s.heap.objs.size f cdv)) → sp vs H Q E →
      ∃ t, PSs (cxOf CX0 P w K mg base N qual (defScope st) f cdv A outer s H E).nox (defBody st) t ∧ t { nx := fun _ H' => Q .non H', rt := Q } (start N vs) H) : FnOk P w K mg base CX0 (k + 1) f fd ps sp := by
  obtain ⟨oc, od, kV, doc, pm, an, cdv, ct, osl, rfl, lk, hcd⟩ := F.ex
  refine fn_of lk hcd S len fun A outer s H vs Q E hr hsp => ?_
  obtain ⟨t, h, q⟩ := hbody cdv A outer s H vs Q E hr hsp
  exact ⟨t, h.nox, q⟩
theorem Fun.binds {x qual : Str} {st : Stmt} {f : Addr} {fd : FuncData} {ps : List Str} (F : Fun K x qual st f fd)
    (h : ∀ (kV doc pm : Value) (an : Option Addr) (cdv ct : Value) (us : List Value), us.length = ps.length → bindArgs (PySem.W.fnOf x qual (defArgs st) (defBody st) (defScope st) .none kV doc pm an cdv ct) ⟨us, []⟩ = pure (ps.zip us)) : Binds K fd ps [] := by
  obtain ⟨oc, od, kV, doc, pm, an, cdv, ct, osl, rfl, lk, hcd⟩ := F.ex
  exact .all (h kV doc pm an cdv ct)
theorem fun_mk {x qual : Str} {st : Stmt} {f : Addr} {oc : Value} {od an : Option Addr} {osl : Array (Option Value)} {kV doc pm cdv ct : Value} (l : K.lookup f = some ⟨oc, od, .func (PySem.W.fnOf x qual (defArgs st) (defBody st) (defScope st) .none kV doc pm an cdv ct), osl⟩)
    (c : PySem.W.codeIn K cdv qual = true) (k : PySem.W.keepIn K (.ref f) = true) : Fun K x qual st f (PySem.W.fnOf x qual (defArgs st) (defBody st) (defScope st) .none kV doc pm an cdv ct) := ⟨⟨oc, od, kV, doc, pm, an, cdv, ct, osl, rfl, l, c⟩, k⟩
end
theorem hu_of {A : Around} {k : Nat} (hr : Room k A) : A.units + 1 < cLine := Nat.lt_of_le_of_lt (Nat.add_le_add_left (by decide : 1 ≤ 64) _) hr.units
theorem small1000 {n : Nat} (h : n ≤ 1000) : n < sizeLine := Nat.lt_of_le_of_lt h (by decide)
section
variable {X : Cx}
theorem pv (i : Nat) {x : Str} {pos : Pos} (hN : X.N[i]? = some x := by rfl) (hv : Vis X.env.scope x := by first | exact Or.inl rfl | exact Or.inr (Or.inl rfl) | exact Or.inr (Or.inr rfl)) (hd : (x == ("__debug__" : Str)) = false := by decide)
    (hcd : (x == ("__classdict__" : Str)) = false := by decide) : PE X (.Name x pos) (tVar i) := pe_var hN hv hd hcd
end
theorem iteF {A B : Prop} (h : B) : if false = true then A else B := by
  rw [if_neg Bool.false_ne_true]
  exact h
theorem iteT {A B : Prop} (h : A) : if true = true then A else B := by
  rw [if_pos rfl]
  exact h
theorem ite2 {c A B : Prop} [Decidable c] (h1 : c → A) (h2 : ¬ c → B) : if c then A else B := by
  by_cases h : c
  · rw [if_pos h]
    exact h1 h
  · rw [if_neg h]
    exact h2 h
theorem iteNS {c A B : Prop} [Decidable c] (hc : c) (h : B) : if (!decide c) = true then A else B := by
  rw [decide_eq_true hc]
  exact iteF h
def Same (H H' : Hp) : Prop := ∀ b o, H b = some o → H' b = some o
theorem Same.refl (H : Hp) : Same H H := fun _ _ h => h
theorem Same.trans {H H1 H2 : Hp} (a : Same H H1) (b : Same H1 H2) : Same H H2 := fun c o h => b c o (a c o h)
theorem Same.free {H H' : Hp} (e : Same H H') {l : Addr} (h : H' l = Option.none) : H l = Option.none := by
  cases q : H l with
  | none => rfl
  | some o =>
    rw [e l o q] at h
    cases h
theorem Same.seq {K : PySem.W.Frag} {H H' : Hp} {a : Addr} {xs : List V} (e : Same H H') (h : SqL K H a xs) : SqL K H' a xs := by
  rcases h with (h | ⟨o, h⟩) | h
  · exact .inl (.inl (e _ _ h))
  · exact .inl (.inr ⟨o, e _ _ h⟩)
  · exact .inr h
section
variable {κ : Type} [DecidableEq κ]
theorem nd_snoc : ∀ {l : List κ} {k : κ}, l.Nodup → ¬ k ∈ l → (l ++ [k]).Nodup
  | [], k, _, _ => by simp
  | a :: r, k, h, hk => by
    obtain ⟨h1, h2⟩ := List.nodup_cons.mp h
    show (a :: (r ++ [k])).Nodup
    refine List.nodup_cons.mpr ⟨fun m => ?_, nd_snoc h2 fun m => hk (List.mem_cons.mpr (Or.inr m))⟩
    rcases List.mem_append.mp m with q | q
    · exact h1 q
    · exact hk (List.mem_cons.mpr (Or.inl (List.mem_singleton.mp q).symm))
end
end L2
set_option maxHeartbeats 8000000
namespace L2
open PySem PySem.Spec PyProof.Rows
def compCx (X : Cx) (N : List Str) (scope : Scope) (cl : List (Str × Addr)) (C : Addr) (s0 : Shared) (H0 : Hp) (ex : List Addr) : Cx :=
  { X with N := N, s₀ := s0, H₀ := H0, env := compEnvC scope cl C X.env, outer := X.stack, stack := X.stack, ex := ex, fn := fun _ => false, pn := [], xe := fun _ _ => False }
def compSt (nl : Nat) (fr : List Nat) (σ : St) : St := List.replicate nl none ++ fr.map fun j => (σ[j]?).join
def closOf (env : Env) : List (Str × NameKind) → List (Str × Addr) → List (Str × Addr)
  | [], cs => cs
  | (n, k) :: r, cs => closOf env r (if (k == NameKind.free) = true then (n, (env.cells.lookup n).getD 0) :: cs else cs)
theorem closOf_sub (env : Env) : ∀ (ns : List (Str × NameKind)) (cs : List (Str × Addr)), (∀ p ∈ ns, p.2 = .free → ∃ c, env.cells.lookup p.1 = some c) → (∀ y c, cs.lookup y = some c → env.cells.lookup y = some c) →
    ∀ y c, (closOf env ns cs).lookup y = some c → env.cells.lookup y = some c
  | [], cs, _, h, y, c, e => h y c e
  | (n, k) :: r, cs, hn, h, y, c, e => by
    unfold closOf at e
    refine closOf_sub env r _ (fun p hp => hn p (List.mem_cons_of_mem _ hp)) ?_ y c e
    intro z d ez
    split at ez
    · rename_i hk
      rw [List.lookup_cons] at ez
      cases hz : z == n with
      | true =>
        rw [hz] at ez
        have hzn : z = n := eq_of_beq hz
        subst hzn
        have hkf : k = .free := by simpa using hk
        obtain ⟨c', hc'⟩ := hn (z, k) List.mem_cons_self hkf
        have hc' : env.cells.lookup z = some c' := hc'
        rw [hc'] at ez
        rw [hc']
        simpa using ez
      | false =>
        rw [hz] at ez
        exact h z d ez
    · exact h z d ez
theorem closOf_keep (env : Env) : ∀ (ns : List (Str × NameKind)) (cs : List (Str × Addr)) (y : Str), (∃ c, cs.lookup y = some c) → ∃ c, (closOf env ns cs).lookup y = some c
  | [], cs, y, h => h
  | (n, k) :: r, cs, y, ⟨c, h⟩ => by
    unfold closOf
    refine closOf_keep env r _ y ?_
    split
    · rw [List.lookup_cons]
      cases hz : y == n with
      | true => exact ⟨_, rfl⟩
      | false => exact ⟨c, h⟩
    · exact ⟨c, h⟩
theorem closOf_has (env : Env) : ∀ (ns : List (Str × NameKind)) (cs : List (Str × Addr)) (p : Str × NameKind), p ∈ ns → p.2 = .free → ∃ c, (closOf env ns cs).lookup p.1 = some c
  | [], cs, p, hp, _ => by simp at hp
  | (n, k) :: r, cs, p, hp, hk => by
    unfold closOf
    rcases List.mem_cons.mp hp with e | hp
    · subst e
      have hk : k = .free := hk
      subst hk
      refine closOf_keep env r _ n ?_
      rw [if_pos (by rfl), List.lookup_cons]
      exact ⟨(List.lookup n env.cells).getD 0, by simp⟩
    · exact closOf_has env r _ p hp hk
theorem closure_loop (env : Env) : ∀ (ns : List (Str × NameKind)) (cs : List (Str × Addr)), (∀ p ∈ ns, p.2 = .free → ∃ c, env.cells.lookup p.1 = some c) →
    (forIn ns cs (fun (x : Str × NameKind) (r : List (Str × Addr)) => if (x.2 == NameKind.free) = true then (do let a ← cellOf env x.1; pure (ForInStep.yield ((x.1, a) :: r))) else pure (ForInStep.yield r)) : Sem (List (Str × Addr))) = pure (closOf env ns cs)
  | [], cs, _ => rfl
  | (n, k) :: r, cs, hn => by
    have ih := fun cs' => closure_loop env r cs' fun p hp => hn p (List.mem_cons_of_mem _ hp)
    rw [List.forIn_cons]
    unfold closOf
    by_cases hk : (k == NameKind.free) = true
    · obtain ⟨c, hc⟩ := hn (n, k) List.mem_cons_self (by simpa using hk)
      have hc : env.cells.lookup n = some c := hc
      rw [if_pos hk, if_pos hk]
      have e1 : cellOf env n = pure c := by unfold cellOf; rw [hc]
      rw [e1, hc]
      exact ih _
    · rw [if_neg hk, if_neg hk]
      exact ih _
theorem closureFor_eq {scope : Scope} {env : Env} (h : ∀ p ∈ scope.names, p.2 = .free → ∃ c, env.cells.lookup p.1 = some c) : closureFor scope env = pure (closOf env scope.names []) := by
  have e := closure_loop env scope.names [] h
  unfold closureFor
  show (forIn scope.names [] _ >>= _) = _
  have e2 : (forIn scope.names ([] : List (Str × Addr)) (fun (x : Str × NameKind) (r : List (Str × Addr)) => match x with | (name, kind) => (if (kind == NameKind.free) = true then (do let a ← cellOf env name; pure PUnit.unit; pure (ForInStep.yield ((name, a) :: r))) else (do pure PUnit.unit; pure (ForInStep.yield r)))) : Sem (List (Str × Addr))) = pure (closOf env scope.names []) := e
  first
    | exact (congrArg (fun z => z >>= fun cs => pure cs) e2)
    | (rw [show (forIn scope.names ([] : List (Str × Addr)) _ : Sem (List (Str × Addr))) = pure (closOf env scope.names []) from e]; rfl)
section
variable {X : Cx}
def PIfs (X : Cx) (ifs : List Expr) (t : TT) : Prop :=
  ∀ (pins : List (Addr × Obj)) (s : Shared) (σ : St) (H : Hp) (Q : Bool → Hp → Prop), Inv X pins σ H s → t σ H Q →
    wpAny (model X.prog X.w) X.A (forIn ifs true fun c r => if r = true then do let ok ← isTrue c X.env (eval c X.env); pure (ForInStep.yield ok) else pure (ForInStep.yield r)) (TP X pins σ Q) X.xe s
theorem pifs_one {c : Expr} {t : TT} (h : PT X c t) : PIfs X [c] t := by
  intro pins s σ H Q I hw
  rw [List.forIn_cons, if_pos rfl]
  refine wpAny_bind (wpAny_bind (thn (h pins s σ H Q I hw) fun b s1 q => wpAny_pure ?_))
  show wpAny _ _ (forIn [] b _) _ _ s1
  rw [List.forIn_nil]
  exact wpAny_pure q
theorem compLoop_any {prog : Program} {w : World} {A : Around} {R : Result → Shared → Prop} {s : Shared} {elt target iter : Expr} {ifs : List Expr} {scope : Scope} {pos : Pos} {it acc : Value} {env : Env} (I : Nat → Shared → Prop)
    (turn : ∀ n s, I n s → wpAny (model prog w) A (pyNext it) (fun r s1 => match r with
      | none => R (.ok .next) s1
      | some v => wpAny (model prog w) A (letOwnedTupleGo target it v) (fun _ s2 => wpAny (model prog w) A (assign target env v) (fun _ s3 =>
          wpAny (model prog w) A (forIn ifs true fun c r => if r = true then do let ok ← isTrue c env (eval c env); pure (ForInStep.yield ok) else pure (ForInStep.yield r)) (fun ok s4 =>
            if ok = true then wpAny (model prog w) A (eval elt env) (fun x s5 =>
              wpAny (model prog w) A (call (.builtin "list.append") [acc, x]) (fun _ s6 => ∃ m, m < n ∧ I m s6) (fun _ _ => False) s5) (fun _ _ => False) s4
            else ∃ m, m < n ∧ I m s4) (fun _ _ => False) s3) (fun _ _ => False) s2) (fun _ _ => False) s1) (fun _ _ => False) s)
    (n : Nat) (h : I n s) :
    codeAny (model prog w) A (.compLoop (.ListComp elt [⟨target, iter, ifs, 0⟩] scope pos) 0 it acc env) R s := by
  refine codeAny_loop rfl I (fun n s hI => ?_) n h
  show wpAny _ A ((compTurn (.ListComp elt [⟨target, iter, ifs, 0⟩] scope pos) 0 it acc env).onRaise (fun x => do noteFrame x env; theTreesLotGoes x)) _ _ s
  refine wpAny_noted ?_
  rw [compTurn_list]
  refine wpAny_bind (wpAny_standAt (wpAny_bind (wpAny_mono (turn n s hI) (fun r s1 h1 => ?_) fun _ _ f => f.elim)))
  cases r with
  | none => exact wpAny_pure h1
  | some v =>
    refine wpAny_bind (wpAny_mono h1 (fun _ s2 h2 => ?_) fun _ _ f => f.elim)
    refine wpAny_bind (wpAny_mono h2 (fun _ s3 h3 => wpAny_bind (wpAny_mono h3 (fun ok s4 h4 => ?_) fun _ _ f => f.elim)) fun _ _ f => f.elim)
    cases ok with
    | false => exact wpAny_pure ⟨rfl, h4⟩
    | true =>
      exact wpAny_bind (wpAny_bind (wpAny_mono h4 (fun x s5 h5 => wpAny_bind (wpAny_mono h5 (fun _ s6 h6 => wpAny_pure (wpAny_pure ⟨rfl, h6⟩)) fun _ _ f => f.elim)) fun _ _ f => f.elim))
def CompW (J : It) (g : TG) (tc : TT) (te : TE) (Q : VK) (σ0 : St) (H0 : Hp) : Prop := ∃ W : Nat → Nat → List V → St → Hp → Prop, (∃ m, W 0 m [] σ0 H0) ∧ ∀ i m ys σ' H', W i m ys σ' H' →
   (J.stop i H' ∧ ∀ D, H' D = none → Q (.ref D) (upd H' D (.lst ys))) ∨
   (J.go i H' ∧ ∃ N : List V → St → Hp → Prop, (∀ ys' σ2 H2, N ys' σ2 H2 → ∃ m', m' < m ∧ W (i + 1) m' ys' σ2 H2) ∧ ∀ x H2, J.yld i H' x H2 → g x σ' H2 fun σ2 H3 => tc σ2 H3 fun b H4 =>
     if b = true then te σ2 H4 fun y H5 => ys.length < sizeLine ∧ N (ys ++ [y]) σ2 H5 else N ys σ2 H4)
def tComp (nl : Nat) (fr : List Nat) (wi : TI) (g : TG) (tc : TT) (te : TE) : TE := fun σ H Q => wi σ H fun J H1 => CompW J g tc te Q (compSt nl fr σ) H1
structure CompOk (X : Cx) (N : List Str) (nl : Nat) (fr : List Nat) (scope : Scope) : Prop where
  cell : ∀ y ∈ scope.names, y.2 ≠ .cell
  kind : scope.kind = .function
  names : ∀ y ∈ scope.names, y.2 = .local → scope.names.lookup y.1 = some .local
  free : ∀ p ∈ scope.names, p.2 = .free → X.env.kindOf p.1 = some .cell ∨ X.env.kindOf p.1 = some .free
  len : N.length = nl + fr.length
  fr : ∀ (k j : Nat), fr[k]? = some j → ∃ y, N[nl + k]? = some y ∧ X.N[j]? = some y ∧ Vis X.env.scope y ∧ scope.names.lookup y = some .free
theorem lookup_relabel {env : Env} : ∀ {names : List (Str × NameKind)} {x : Str} {k : NameKind}, (names.map fun (n, k) => if (k == NameKind.free && env.scope.kind == .function && env.kindOf n == some .cell) then (n, NameKind.cell) else (n, k)).lookup x = some k →
    k = .cell ∨ k = .free → (∀ y ∈ names, y.2 ≠ .cell) → ∃ p ∈ names, p.1 = x ∧ p.2 = .free
  | [], _, _, h, _, _ => by simp at h
  | (n, kn) :: r, x, k, h, hk, hc => by
    have ih := @lookup_relabel env r x k
    rw [List.map_cons] at h
    have hcn : kn ≠ .cell := hc (n, kn) List.mem_cons_self
    have hr : ∀ y ∈ r, y.2 ≠ .cell := fun y hy => hc y (List.mem_cons_of_mem _ hy)
    cases hx : x == n with
    | true =>
      have hxn : x = n := eq_of_beq hx
      by_cases hcc : (kn == NameKind.free && env.scope.kind == .function && env.kindOf n == some .cell) = true
      · refine ⟨(n, kn), List.mem_cons_self, hxn.symm, ?_⟩
        simp only [Bool.and_eq_true] at hcc
        simpa using hcc.1.1
      · dsimp only at h
        rw [if_neg hcc, List.lookup_cons, hx] at h
        have hkk : kn = k := Option.some.inj h
        subst hkk
        rcases hk with z | z
        · exact absurd z hcn
        · exact ⟨(n, kn), List.mem_cons_self, hxn.symm, z⟩
    | false =>
      by_cases hcc : (kn == NameKind.free && env.scope.kind == .function && env.kindOf n == some .cell) = true
      · dsimp only at h
        rw [if_pos hcc, List.lookup_cons, hx] at h
        obtain ⟨p, hp, q⟩ := ih h hk hr
        exact ⟨p, List.mem_cons_of_mem _ hp, q⟩
      · dsimp only at h
        rw [if_neg hcc, List.lookup_cons, hx] at h
        obtain ⟨p, hp, q⟩ := ih h hk hr
        exact ⟨p, List.mem_cons_of_mem _ hp, q⟩
theorem lookup_relabel_free {env : Env} : ∀ {names : List (Str × NameKind)} {x : Str}, names.lookup x = some .free →
    (names.map fun (n, k) => if (k == NameKind.free && env.scope.kind == .function && env.kindOf n == some .cell) then (n, NameKind.cell) else (n, k)).lookup x = some .cell ∨
    (names.map fun (n, k) => if (k == NameKind.free && env.scope.kind == .function && env.kindOf n == some .cell) then (n, NameKind.cell) else (n, k)).lookup x = some .free
  | [], _, h => by simp at h
  | (n, kn) :: r, x, h => by
    have ih := @lookup_relabel_free env r x
    rw [List.map_cons]
    dsimp only
    cases hx : x == n with
    | true =>
      rw [List.lookup_cons, hx] at h
      have hkn : kn = .free := Option.some.inj h
      by_cases hcc : (kn == NameKind.free && env.scope.kind == .function && env.kindOf n == some .cell) = true
      · rw [if_pos hcc, List.lookup_cons, hx]; exact .inl rfl
      · rw [if_neg hcc, List.lookup_cons, hx]; exact .inr (congrArg some hkn)
    | false =>
      rw [List.lookup_cons, hx] at h
      by_cases hcc : (kn == NameKind.free && env.scope.kind == .function && env.kindOf n == some .cell) = true
      · rw [if_pos hcc, List.lookup_cons, hx]; exact ih h
      · rw [if_neg hcc, List.lookup_cons, hx]; exact ih h
theorem HOk.track {P : Program} {w : World} {H : Hp} {h : Heap} {a : Addr} {o : HO} (x : HOk P w H h) (hn : H a = none) (new : ObjOk P w (upd H a o) h a o) : HOk P w (upd H a o) h := fun b u e => by
  by_cases hb : b = a
  · subst hb; rw [upd_same] at e; cases e; exact new
  · rw [upd_ne hb] at e
    exact (x b u e).stay (fun c v _ q => q) (fun c q => by rw [upd_ne (ne_of_none q hn)]; exact q) fun c xs q => by rw [upd_ne (ne_of_none q hn)]; exact q
theorem comp_core {elt tg iter : Expr} {ifs : List Expr} {scope : Scope} {pos : Pos} {wi : TI} {g : TG} {tc : TT} {te : TE} {N : List Str} {nl : Nat} {fr : List Nat}
    (hc : X.calm = true) (hi : PI X tg iter wi) (hg : ∀ cl C s0 H0 ex, PG (compCx X N scope cl C s0 H0 ex) tg g) (ht : ∀ cl C s0 H0 ex, PIfs (compCx X N scope cl C s0 H0 ex) ifs tc)
    (he : ∀ cl C s0 H0 ex, PE (compCx X N scope cl C s0 H0 ex) elt te) (ok : CompOk X N nl fr scope)
    {RR : Value → Addr → Result → Shared → Prop} {pins : List (Addr × Obj)} {s : Shared} {σ : St} {H : Hp} {Q : VK} (I : Inv X pins σ H s) (h : tComp nl fr wi g tc te σ H Q)
    (hRR : ∀ D C s' H', Inv X pins σ H' s' → Q (.ref D) H' → FpOk X pins H' C → (∃ m, s'.heap.Ns C m) → RR (.ref D) C (.ok .next) s') :
    wpAny (model X.prog X.w) X.A (eval iter X.env) (fun x s1 => wpAny (model X.prog X.w) X.A (pyIter x) (fun it s2 => wpAny (model X.prog X.w) X.A (newList []) (fun acc s3 =>
      wpAny (model X.prog X.w) X.A (newFunctionEnv scope X.env.globals (closOf X.env scope.names []) [] X.env.qual none .none (some X.env)) (fun cenv s4 =>
        codeAny (model X.prog X.w) X.A (.compStart (.ListComp elt [⟨tg, iter, ifs, 0⟩] scope pos) 0 it acc { cenv with scope := relabel scope X.env }) (RR acc cenv.locals) s4) X.xe s3) X.xe s2) X.xe s1) X.xe s := by
  refine thn (hi pins s σ H _ I h) fun v s1 h1 => thn h1 fun itv s2 h2 => ?_
  obtain ⟨it, fp, tn, J, H2, rfl, I2, T, st2, f2, W, ⟨m0, w0⟩, turn⟩ := h2
  refine wpAny_newObj_type (wpAny_newFunctionEnv ok.cell (by intro y hy; simp at hy) (fun h1 hns1 hsb1 => ?_) ok.kind)
  dsimp only at hns1 hsb1 ⊢
  generalize hHH : s2.heap.push { cls := .type "list", dict := none, data := .seq ([] : List Value).toArray } = HH at hns1 hsb1 ⊢
  have hC : HH.objs.size = s2.heap.objs.size + 1 := by rw [← hHH, Heap.size_push]
  have hDC : s2.heap.objs.size ≠ HH.objs.size := by rw [hC]; exact Nat.ne_of_lt (Nat.lt_succ_self _)
  have hCle : s2.heap.objs.size ≤ HH.objs.size := by rw [hC]; exact Nat.le_succ _
  have below : ∀ b, b < s2.heap.objs.size → b ≠ HH.objs.size ∧ b ≠ s2.heap.objs.size := fun b hb => ⟨by rw [hC]; exact Nat.ne_of_lt (Nat.lt_succ_of_lt hb), Nat.ne_of_lt hb⟩
  have old : ∀ b o, s2.heap.get? b = some o → h1.get? b = some o := fun b o e => hsb1.extBut b o (below b (Heap.lt_size e)).1 (Heap.get?_push_of_some _ (hHH ▸ Heap.get?_push_of_some _ e))
  have hacc : h1.get? s2.heap.objs.size = some { cls := .type "list", data := .seq ([] : List Value).toArray } := hsb1.extBut _ _ hDC (Heap.get?_push_of_some _ (hHH ▸ Heap.get?_push_size _ rfl))
  have fplt : ∀ b ∈ fp, b < s2.heap.objs.size := fun b hb => by obtain ⟨o, e, _⟩ := T.obj 0 _ st2 b hb; exact Heap.lt_size e
  generalize hXd : compCx X N scope (closOf X.env scope.names []) HH.objs.size s2 H2 fp = X'
  have hfreeC : ∀ p ∈ scope.names, p.2 = .free → ∃ c, X.env.cells.lookup p.1 = some c := fun p hp hf => I.ok.has p.1 (ok.free p hp hf)
  have cellsSub : ∀ y c, (closOf X.env scope.names []).lookup y = some c → X.env.cells.lookup y = some c := closOf_sub X.env scope.names [] hfreeC (fun y c e => by simp at e)
  have cellLt : ∀ y c, X.env.cells.lookup y = some c → c < s2.heap.objs.size := fun y c e => by obtain ⟨v, z⟩ := I2.cell y c e; exact z.lt
  have ok' : X'.Ok := by
    rw [← hXd]
    refine ⟨I.ok.mod, ?_, I.ok.glob, I.ok.blt, hCle, fun x y c e1 e2 => I.ok.inj x y c (cellsSub x c e1) (cellsSub y c e2), fun x hx => ?_, fun x c hf => (by cases hf), I.ok.hd, I.ok.frames, .inl rfl,
      fun b hb => ⟨(below b (fplt b hb)).1, fun x c e => (f2 b hb).2.2.2.2.1 x c (cellsSub x c e)⟩, I2.bs, Nat.le_trans I.ok.bsz I2.sz, fun b o e hb => ?_, fun b hb hfs => ?_, I2.stack, I2.stkFree⟩
    · show (relabel scope X.env).kind = .function
      exact ok.kind
    · have hx' : ∃ p ∈ scope.names, p.1 = x ∧ p.2 = .free := by
        rcases hx with z | z
        · exact lookup_relabel z (.inl rfl) ok.cell
        · exact lookup_relabel z (.inr rfl) ok.cell
      obtain ⟨p, hp, rfl, hpf⟩ := hx'
      exact closOf_has X.env scope.names [] p hp hpf
    · rcases (f2 b hb).2.2.2.1 with z | z
      · exact I.ok.noex b o e z
      · exact absurd (Nat.lt_of_lt_of_le (Heap.lt_size e) (Nat.le_trans I.ok.bsz z)) (Nat.lt_irrefl _)
    · rcases List.mem_cons.mp (I2.stkSub b hfs) with z | z
      · exact (f2 b hb).2.1 z
      · exact (f2 b hb).2.2.1 z
  have hX'd : X'.env.locals = HH.objs.size := by rw [← hXd]; rfl
  have hX'c : X'.env.cells = closOf X.env scope.names [] := by rw [← hXd]; rfl
  have hX'pn : X'.pn = [] := by rw [← hXd]; rfl
  have hX'ex : X'.ex = fp := by rw [← hXd]; rfl
  have hX's0 : X'.s₀ = s2 := by rw [← hXd]; rfl
  have hX'H0 : X'.H₀ = H2 := by rw [← hXd]; rfl
  have hX'fs : X'.fs = frs X.stack := by rw [← hXd]; rfl
  have hX'xe : X'.xe = fun _ _ => False := by rw [← hXd]; rfl
  have hX'A : X'.A = X.A := by rw [← hXd]; rfl
  have hX'P : X'.prog = X.prog := by rw [← hXd]; rfl
  have hX'w : X'.w = X.w := by rw [← hXd]; rfl
  have hX'K : X'.K = X.K := by rw [← hXd]; rfl
  have hX'calm : X'.calm = true := by rw [← hXd]; exact hc
  have hX'env : X'.env = compEnvC scope (closOf X.env scope.names []) HH.objs.size X.env := by rw [← hXd]; rfl
  have I' : Inv X' [] (compSt nl fr σ) H2 { s2 with heap := h1, toks := s2.toks + ([] : List (Str × Value)).length } := by
    refine ⟨ok', by rw [hX's0], I2.bare, ?_, ?_, fun x c e => ?_, ?_, fun x c e => ?_, fun p hp => ?_, ?_, ?_⟩
    · rw [hX'fs, hX'ex, hX'H0, hX's0]; exact Un.kept old
    · obtain ⟨m, hn, hl⟩ := I2.loc
      rw [hX'd]
      refine ⟨_, hns1, fun i x v e1 e2 e3 => ?_⟩
      have hN' : N[i]? = some x := by rw [← hXd] at e1; exact e1
      unfold compSt at e2
      have hi : ¬ i < nl := fun hlt => by
        rw [List.getElem?_append_left (by simpa using hlt), List.getElem?_replicate, if_pos hlt] at e2
        cases e2
      rw [List.getElem?_append_right (by simpa using hi), List.length_replicate, List.getElem?_map] at e2
      cases ej : fr[i - nl]? with
      | none => rw [ej] at e2; cases e2
      | some j =>
        rw [ej] at e2
        obtain ⟨y, y1, y2, y3, y4⟩ := ok.fr (i - nl) j ej
        have hii : nl + (i - nl) = i := by omega
        rw [hii, hN'] at y1
        have hxy : x = y := Option.some.inj y1
        subst hxy
        have e2' : (σ[j]?).join = some v := Option.some.inj e2
        have e2'' : σ[j]? = some (some v) := by
          cases hσ : σ[j]? with
          | none => rw [hσ] at e2'; cases e2'
          | some z => rw [hσ] at e2'; exact congrArg some e2'
        obtain ⟨u, r, l⟩ := hl j x v y2 e2'' y3
        have hkX := ok.free (x, .free) (PySem.mem_of_lookup y4) rfl
        refine ⟨u, r, .inr ⟨?_, ?_⟩⟩
        · rw [hX'env]
          rcases lookup_relabel_free (env := X.env) y4 with z | z
          · exact .inl z
          · exact .inr z
        · rcases l with ⟨k1, _⟩ | ⟨_, c, ec, hcell⟩
          · rcases hkX with z | z
            · rw [z] at k1; cases k1
            · rw [z] at k1; cases k1
          · obtain ⟨c', ec'⟩ := closOf_has X.env scope.names [] (x, .free) (PySem.mem_of_lookup y4) rfl
            have : c' = c := by
              have q := cellsSub x c' ec'
              rw [ec] at q
              exact (Option.some.inj q).symm
            subst this
            refine ⟨c', by rw [hX'c]; exact ec', ?_⟩
            obtain ⟨oc, ho, hd⟩ := hcell
            exact ⟨oc, old _ _ ho, hd⟩
    · rw [hX'c] at e
      obtain ⟨v, oc, ho, hd⟩ := I2.cell x c (cellsSub x c e)
      exact ⟨v, oc, old _ _ ho, hd⟩
    · rw [hX'd]; exact I2.hok.fresh hCle
    · rw [hX'c] at e
      exact I2.freeC x c (cellsSub x c e)
    · rw [hX'pn] at hp; simp at hp
    · rw [hX'P, hX'w]; exact I2.hok.kept old
    · unfold compSt
      have : X'.N = N := by rw [← hXd]; rfl
      rw [this, ok.len, List.length_append, List.length_replicate, List.length_map]
  have Dn : ∀ {H' : Hp} {pins'} {s' : Shared} {σ'}, Inv X' pins' σ' H' s' → H' s2.heap.objs.size = none → ∀ o, s'.heap.get? s2.heap.objs.size = some o → (∀ v, o.data ≠ .cell v) → Inv X' [(s2.heap.objs.size, o)] σ' H' s' := fun {H' pins' s' σ'} I3 hD o ho hnc =>
    I3.pins_of fun p hp => by
      have e : p = (s2.heap.objs.size, o) := by simpa using hp
      subst e
      refine ⟨ho, hD, by rw [hX'd]; exact hDC, ?_, hnc⟩
      rw [hX'fs]
      intro hb
      rcases List.mem_cons.mp (I2.stkSub _ hb) with z | z
      · exact absurd (z ▸ I2.lt) (Nat.lt_irrefl _)
      · exact I2.nofs (Nat.le_refl _) z
  have loop : ∀ s₃ : Shared, s₃ = { s2 with heap := h1, toks := s2.toks + ([] : List (Str × Value)).length } →
      codeAny (model X.prog X.w) X.A (.compLoop (.ListComp elt [⟨tg, iter, ifs, 0⟩] scope pos) 0 (.ref it) (.ref s2.heap.objs.size) (compEnvC scope (closOf X.env scope.names []) HH.objs.size X.env)) (RR (.ref s2.heap.objs.size) HH.objs.size) s₃ := by
    rintro s₃ rfl
    refine compLoop_any (fun n s' => ∃ (i : Nat) (σ' : St) (H' : Hp) (ys : List V) (its : List Value) (k : Nat), Inv X' [(s2.heap.objs.size, { cls := .type "list", data := .seq its.toArray k })] σ' H' s' ∧ Vals ys its ∧ ys.length ≤ sizeLine ∧ tn i s'.heap ∧ (∀ b ∈ fp, H' b = none) ∧ W i n ys σ' H')
      ?_ m0 ⟨0, _, H2, [], [], 0, Dn I' (I2.hok.fresh (Nat.le_refl _)) _ hacc (fun v z => by cases z), .nil, Nat.zero_le _, T.keep 0 _ _ st2 fun b hb o e => old b o e, fun b hb => (f2 b hb).1, w0⟩
    rintro n s3 ⟨i, σ3, H3, ys, its, k, I3, rv, hyl, st3, fr3, w3⟩
    have pinD := I3.pin (s2.heap.objs.size, { cls := .type "list", data := .seq its.toArray k }) (by rw [hX'pn]; exact List.mem_append_right _ List.mem_cons_self)
    have stat : ∀ {o : Obj} {H' : Hp}, (∀ b ∈ fp, H' b = none) → ∀ b ∈ fp, FpOk X' [(s2.heap.objs.size, o)] H' b := fun {o H'} hn b hb => by
      refine ⟨hn b hb, by rw [hX'd]; exact (below b (fplt b hb)).1, fun z => ok'.exfs b (by rw [hX'ex]; exact hb) z, .inl (by rw [hX'ex]; exact hb), fun x c e => by rw [hX'c] at e; exact (f2 b hb).2.2.2.2.1 x c (cellsSub x c e), fun p hp => ?_⟩
      rw [hX'pn] at hp
      have e : p = (s2.heap.objs.size, o) := by simpa using hp
      subst e
      exact fun z => (below b (fplt b hb)).2 z.symm
    rcases turn i n ys σ3 H3 w3 with ⟨stop, qn⟩ | ⟨go, Nx, hNx, step⟩
    · have dn := T.done X' hX'P hX'w hX'K hX'calm i _ s3 σ3 H3 (fun _ _ => False) I3 (stat fr3) st3 stop
      rw [hX'A] at dn
      refine thn dn fun r s4 ⟨hr, I4⟩ => ?_
      subst hr
      have pinE := I4.pin (s2.heap.objs.size, { cls := .type "list", data := .seq its.toArray k }) (by rw [hX'pn]; exact List.mem_append_right _ List.mem_cons_self)
      have ub : Un (frs X.stack) fp H2 H3 s2.heap s4.heap := by
        have := I4.base
        rw [hX'fs, hX'ex, hX'H0, hX's0] at this
        exact this
      have hok4 : HOk X.prog X.w H3 s4.heap := by have := I4.hok; rw [hX'P, hX'w] at this; exact this
      have nD : ∀ b u, H3 b = some u → b ≠ s2.heap.objs.size := fun b u e z => by rw [z, pinE.2.1] at e; cases e
      have u2 : Un (frs X.stack) fp H2 (upd H3 s2.heap.objs.size (.lst ys)) s2.heap s4.heap :=
        ⟨ub.keep, ub.slot, fun b o e n' hx => by rw [upd_ne (Nat.ne_of_lt (Heap.lt_size e))]; exact ub.free b o e n' hx, ub.there,
          fun b xs e => by have := ub.tups b xs e; rw [upd_ne (nD b _ this)]; exact this, fun b o u e => by have := ub.frzs b o u e; rw [upd_ne (nD b _ this)]; exact this,
          fun b ps e => by obtain ⟨more, z⟩ := ub.tbls b ps e; exact ⟨more, by rw [upd_ne (nD b _ z)]; exact z⟩⟩
      have I5 : Inv X pins σ (upd H3 s2.heap.objs.size (.lst ys)) s4 := by
        refine I2.call' (by rw [I4.os, hX's0]) u2 ?_ I4.bare fun b hb => ⟨(f2 b hb).2.2.2.1, (f2 b hb).2.1, (f2 b hb).2.2.2.2.1, (f2 b hb).2.2.2.2.2⟩
        exact HOk.track hok4 pinE.2.1 ⟨hyl, its, k, rv, pinE.1⟩
      refine hRR _ _ s4 _ I5 (qn _ pinE.2.1) (I2.fpOk hCle ?_) ?_
      · rw [upd_ne (Ne.symm hDC)]
        have := I4.free
        rw [hX'd] at this
        exact this
      · obtain ⟨m, hn, _⟩ := I4.loc
        rw [hX'd] at hn
        exact ⟨m, hn⟩
    · have im := T.item X' hX'P hX'w hX'K hX'calm i _ s3 σ3 H3 (fun _ _ => False) I3 (stat fr3) st3 go
      rw [hX'A] at im
      refine thn im fun r s4 ⟨u, hr, h4⟩ => ?_
      subst hr
      refine thn h4 fun _ s5 ⟨x, H5, I5, r5, y5, st5, fr5⟩ => ?_
      have I5' := I5.pinned (stat fr5) (T.obj _ _ st5)
      have gg := hg (closOf X.env scope.names []) HH.objs.size s2 H2 fp
      rw [hXd] at gg
      have gg := gg _ s5 σ3 H5 x u _ I5' r5 (step x H5 y5)
      rw [hX'A, hX'P, hX'w, hX'xe, hX'env] at gg
      refine thn gg fun _ s6 ⟨σ6, H6, I6, q6⟩ => ?_
      have tt := ht (closOf X.env scope.names []) HH.objs.size s2 H2 fp
      rw [hXd] at tt
      have tt := tt _ s6 σ6 H6 _ I6 q6
      rw [hX'A, hX'P, hX'w, hX'xe, hX'env] at tt
      refine thn tt fun ok7 s7 ⟨H7, I7, q7⟩ => ?_
      have again : ∀ {s8 : Shared} {σ8 : St} {H8 : Hp} {ys8 : List V} {its8 : List Value} {k8 : Nat}, Inv X' ([(s2.heap.objs.size, { cls := .type "list", data := .seq its8.toArray k8 })] ++ pinsAt fp s5.heap) σ8 H8 s8 → Vals ys8 its8 → ys8.length ≤ sizeLine → Nx ys8 σ8 H8 →
          ∃ m, m < n ∧ ∃ (i : Nat) (σ' : St) (H' : Hp) (ys : List V) (its : List Value) (k : Nat), Inv X' [(s2.heap.objs.size, { cls := .type "list", data := .seq its.toArray k })] σ' H' s8 ∧ Vals ys its ∧ ys.length ≤ sizeLine ∧ tn i s8.heap ∧ (∀ b ∈ fp, H' b = none) ∧ W i m ys σ' H' :=
        fun {s8 σ8 H8 ys8 its8 k8} I8 rv8 hl8 n8 => by
          obtain ⟨m', hm, w8⟩ := hNx ys8 σ8 H8 n8
          refine ⟨m', hm, i + 1, σ8, H8, ys8, its8, k8, I8.unpinned, rv8, hl8, T.keep _ _ _ st5 fun b hb o e => (I8.pin (b, o) (List.mem_append_right _ (List.mem_append_right _ (mem_pinsAt hb e)))).1, fun b hb => ?_, w8⟩
          obtain ⟨o, e, d⟩ := T.obj _ _ st5 b hb
          exact (I8.pin (b, o) (List.mem_append_right _ (List.mem_append_right _ (mem_pinsAt hb e)))).2.1
      cases ok7 with
      | false =>
        rw [if_neg Bool.false_ne_true] at q7 ⊢
        exact again I7 rv hyl q7
      | true =>
        rw [if_pos rfl] at q7 ⊢
        have ee := he (closOf X.env scope.names []) HH.objs.size s2 H2 fp
        rw [hXd] at ee
        have ee := ee _ s7 σ6 H7 _ I7 q7
        rw [hX'A, hX'P, hX'w, hX'xe, hX'env] at ee
        refine thn ee fun yv s8 ⟨y, H8, I8, r8, hyl8, q8⟩ => ?_
        have pin8 := I8.pin (s2.heap.objs.size, { cls := .type "list", data := .seq its.toArray k }) (List.mem_append_right _ (List.mem_append_left _ List.mem_cons_self))
        refine wpAny_list_append_plain (items := its.toArray) ⟨k, pin8.1⟩ (fun h9 hp9 hs9 => ?_) (by rw [List.size_toArray, ← rv.length]; exact hyl)
        obtain ⟨k9, e9⟩ := hp9
        have I9 : Inv X' (pinsAt fp s5.heap) σ6 H8 s8 := I8.pins_of fun p hp => I8.pin p (List.mem_append_right _ (List.mem_append_right _ hp))
        have I9' : Inv X' (pinsAt fp s5.heap) σ6 H8 { s8 with heap := h9, toks := s8.toks } := by
          refine I9.turned (t' := s8.toks) (it := s2.heap.objs.size) (fun b o hb e => hs9.extBut b o hb e) pin8.2.1 (by rw [hX'd]; exact hDC) (.inr (by rw [hX's0]; exact Nat.le_refl _)) (fun x c e z => ?_) fun p hp z => ?_
          · rw [hX'c] at e
            exact absurd (z ▸ cellLt x c (cellsSub x c e)) (Nat.lt_irrefl _)
          · rw [hX'pn] at hp
            obtain ⟨hb, _⟩ := of_pinsAt (by simpa using hp)
            exact absurd (z ▸ fplt _ hb) (Nat.lt_irrefl _)
        have e9' : h9.get? s2.heap.objs.size = some { cls := .type "list", data := .seq (its ++ [yv]).toArray k9 } := by rw [e9]; simp
        refine again (ys8 := ys ++ [y]) (its8 := its ++ [yv]) (k8 := k9) ?_ (Vals.append rv (.cons r8 .nil)) (by rw [List.length_append]; exact hyl8) q8
        refine I9'.pins_of fun p hp => ?_
        rcases List.mem_append.mp hp with z | z
        · have e : p = (s2.heap.objs.size, { cls := .type "list", data := .seq (its ++ [yv]).toArray k9 }) := by simpa using z
          subst e
          exact ⟨e9', pin8.2.1, pin8.2.2.1, pin8.2.2.2.1, fun v z => by cases z⟩
        · exact I9'.pin p (List.mem_append_right _ z)
  exact codeAny_compStart_list (loop _ rfl) (T.self X.A 0 _ _ _ (T.keep 0 _ _ st2 fun b hb o e => old b o e) (loop _ rfl))
end
end L2
namespace L2
open PySem PySem.Spec PyProof.Rows
section
variable {X : Cx}
theorem pe_comp {elt tg iter : Expr} {ifs : List Expr} {scope : Scope} {pos : Pos} {wi : TI} {g : TG} {tc : TT} {te : TE} {N : List Str} {nl : Nat} {fr : List Nat}
    (hc : X.calm = true) (ok : CompOk X N nl fr scope) (hi : PI X tg iter wi) (hg : ∀ cl C s0 H0 ex, PG (compCx X N scope cl C s0 H0 ex) tg g) (ht : ∀ cl C s0 H0 ex, PIfs (compCx X N scope cl C s0 H0 ex) ifs tc)
    (he : ∀ cl C s0 H0 ex, PE (compCx X N scope cl C s0 H0 ex) elt te) (hs : ∀ x, foldedSetIterable iter X.env x = pure x := by intro _; rfl) :
    PE X (.ListComp elt [⟨tg, iter, ifs, 0⟩] scope pos) (tComp nl fr wi g tc te) := by
  intro pins s σ H Q I h
  have hclos : closureFor scope X.env = pure (closOf X.env scope.names []) := closureFor_eq fun p hp hf => I.ok.has p.1 (ok.free p hp hf)
  rw [eval_ListComp]
  refine wpAny_comprehension_free (use := none) rfl hs hclos ok.kind ok.names (comp_core (RR := fun acc C => compPost (model X.prog X.w) X.A X.xe none (EP X pins σ Q) acc C) hc hi hg ht he ok I h ?_)
  intro D C s' H' I' q f ⟨m, hn⟩
  exact ⟨m, hn, fun h' hs' => ⟨.ref D, H', I'.turned (t' := s'.toks) (fun b o hb e => hs'.extBut b o hb e) f.1 f.2.1 f.2.2.2.1 f.2.2.2.2.1 f.2.2.2.2.2, rfl, q⟩⟩
theorem ps_setC {i : Nat} {y : Str} {py spos : Pos} {elt tg iter : Expr} {ifs : List Expr} {scope : Scope} {pos : Pos} {wi : TI} {g : TG} {tc : TT} {te : TE} {N : List Str} {nl : Nat} {fr : List Nat}
    (hN : X.N.Nodup) (hi' : X.N[i]? = some y) (hx : Loc X.env.scope y)
    (hc : X.calm = true) (ok : CompOk X N nl fr scope) (hi : PI X tg iter wi) (hg : ∀ cl C s0 H0 ex, PG (compCx X N scope cl C s0 H0 ex) tg g) (ht : ∀ cl C s0 H0 ex, PIfs (compCx X N scope cl C s0 H0 ex) ifs tc)
    (he : ∀ cl C s0 H0 ex, PE (compCx X N scope cl C s0 H0 ex) elt te) (hsw : swapsWith (.ListComp elt [⟨tg, iter, ifs, 0⟩] scope pos) (some (.Name y py)) spos.line X.env = pure true := by rfl)
    (hs : ∀ x, foldedSetIterable iter X.env x = pure x := by intro _; rfl)
    (hf : X.fn y = true ∨ X.env.scope.names.lookup y = some .local := by first | exact .inl rfl | exact .inr rfl | assumption) :
    PS X (.Assign [.Name y py] (.ListComp elt [⟨tg, iter, ifs, 0⟩] scope pos) spos) (tAsg (tComp nl fr wi g tc te) (gName i)) := by
  intro pins s σ H Dn I h
  have hclos : closureFor scope X.env = pure (closOf X.env scope.names []) := closureFor_eq fun p hp hf => I.ok.has p.1 (ok.free p hp hf)
  rw [exec_Assign_Name_used _ _ _ _ hsw]
  refine wpAny_bind (wpAny_standAt (wpAny_bind ?_))
  show wpAny _ X.A (do let _ ← comprehension (.ListComp elt [⟨tg, iter, ifs, 0⟩] scope pos) scope X.env _ (newList []) false (eval iter X.env) (some (assign (.Name y py) X.env))) _ _ s
  refine wpAny_bind (wpAny_mono (wpAny_comprehension_free (use := some (assign (.Name y py) X.env)) (Q := fun _ s' => SP X pins Dn .next s') rfl hs hclos ok.kind ok.names
    (comp_core (RR := fun acc C => compPost (model X.prog X.w) X.A X.xe (some (assign (.Name y py) X.env)) (fun _ s' => SP X pins Dn .next s') acc C) hc hi hg ht he ok I h ?_)) (fun _ s' hq => wpAny_pure (wpAny_pure hq)) fun _ _ e => e)
  intro D C s' H' I' q f ⟨m, hn⟩
  show wpAny _ X.A (assign (.Name y py) X.env (.ref D)) _ _ _
  refine wpAny_assign_Name (store_ok2 I' hN hi' hx (v := .ref D) rfl (fun s2 I2 ⟨a, sb, ha⟩ => ?_) hf)
  have hCa : C ≠ a := by
    rcases ha with z | z
    · rw [z]; exact f.2.1
    · exact fun e => f.2.2.2.2.1 _ _ z e.symm
  exact ⟨m, hn.sameBut sb hCa, fun h' hs' => ⟨_, H', I2.turned (t' := s2.toks) (fun b o hb e => hs'.extBut b o hb e) f.1 f.2.1 f.2.2.2.1 f.2.2.2.2.1 f.2.2.2.2.2, q⟩⟩
theorem comp_list {K : PySem.W.Frag} {a : Addr} {xs : List V} {g : TG} {tc : TT} {te : TE} {σ0 : St} {H : Hp} {Q : VK} (Pv : Nat → List V → St → Hp → Prop) (h0 : Pv 0 [] σ0 H) (hl : ∀ i ys σ H, i ≤ xs.length → Pv i ys σ H → SqL K H a xs)
    (hs : ∀ i x ys σ H, xs[i]? = some x → Pv i ys σ H → g x σ H fun σ2 H2 => tc σ2 H2 fun b H4 => if b = true then te σ2 H4 fun y H5 => ys.length < sizeLine ∧ Pv (i + 1) (ys ++ [y]) σ2 H5 else Pv (i + 1) ys σ2 H4)
    (hd : ∀ ys σ H, Pv xs.length ys σ H → ∀ D, H D = none → Q (.ref D) (upd H D (.lst ys))) :
    CompW (Itl K a) g tc te Q σ0 H := by
  refine ⟨fun i m ys σ H => m = xs.length - i ∧ i ≤ xs.length ∧ Pv i ys σ H, ⟨xs.length, by simp, Nat.zero_le _, h0⟩, ?_⟩
  rintro i m ys σ H ⟨rfl, hi, p⟩
  have q := hl i ys σ H hi p
  by_cases hlt : i < xs.length
  · refine .inr ⟨⟨xs, xs[i], q, by simp [hlt]⟩, Pv (i + 1), fun ys' σ' H' p' => ⟨xs.length - (i + 1), by omega, rfl, hlt, p'⟩, fun x H' y => ?_⟩
    obtain ⟨e, y⟩ := y
    subst e
    exact hs i x ys σ _ (y xs q) p
  · have e : i = xs.length := by omega
    subst e
    exact .inl ⟨⟨xs, q, Nat.le_refl _⟩, hd ys σ H p⟩
theorem comp_range {lo : Int} {n : Nat} {g : TG} {tc : TT} {te : TE} {σ0 : St} {H : Hp} {Q : VK} (Pv : Nat → List V → St → Hp → Prop) (h0 : Pv 0 [] σ0 H)
    (hs : ∀ i ys σ H, i < n → Pv i ys σ H → g (.int (lo + i)) σ H fun σ2 H2 => tc σ2 H2 fun b H4 => if b = true then te σ2 H4 fun y H5 => ys.length < sizeLine ∧ Pv (i + 1) (ys ++ [y]) σ2 H5 else Pv (i + 1) ys σ2 H4)
    (hd : ∀ ys σ H, Pv n ys σ H → ∀ D, H D = none → Q (.ref D) (upd H D (.lst ys))) :
    CompW (Itr lo n) g tc te Q σ0 H := by
  refine ⟨fun i m ys σ H => m = n - i ∧ i ≤ n ∧ Pv i ys σ H, ⟨n, by simp, Nat.zero_le _, h0⟩, ?_⟩
  rintro i m ys σ H ⟨rfl, hi, p⟩
  by_cases hlt : i < n
  · refine .inr ⟨hlt, Pv (i + 1), fun ys' σ' H' p' => ⟨n - (i + 1), by omega, rfl, hlt, p'⟩, fun x H' y => ?_⟩
    obtain ⟨e, y⟩ := y
    subst e y
    exact hs i ys σ _ hlt p
  · have e : i = n := by omega
    subst e
    exact .inl ⟨Nat.le_refl _, hd ys σ H p⟩
inductive EqD (K : PySem.W.Frag) (H : Hp) : Nat → V → V → Bool → Prop where
  | flat {n : Nat} {x y : V} : flatV x = true → flatV y = true → EqD K H n x y (eqV x y)
  | same {n : Nat} (a : Addr) : EqD K H n (.ref a) (.ref a) true
  | lists {n : Nat} {a b : Addr} {xs ys : List V} (e : Nat → Bool) : a ≠ b → SqL K H a xs → SqL K H b ys → xs.length = ys.length → (∀ (j : Nat) x y, xs[j]? = some x → ys[j]? = some y → EqD K H n x y (e j)) → EqD K H (n + 1) (.ref a) (.ref b) ((List.range xs.length).all e)
  | lens {n : Nat} {a b : Addr} {xs ys : List V} : a ≠ b → SqL K H a xs → SqL K H b ys → xs.length ≠ ys.length → EqD K H (n + 1) (.ref a) (.ref b) false
theorem eqAt_D {pins : List (Addr × Obj)} {σ : St} {H : Hp} {s : Shared} (I : Inv X pins σ H s) {n : Nat} {x y : V} {b : Bool} (d : EqD X.K H n x y b) :
    ∀ {A : Around} {u v : Value}, A.units + n < cLine → RelV x u → RelV y v → SeqAt.EqAt A s u v b := by
  induction d with
  | flat fx fy => intro A u v _ rx ry; exact eqAt_V rx ry fx fy
  | same a => intro A u v _ rx ry; cases rx; cases ry; exact SeqAt.EqAt.same _
  | @lists n a c xs ys e ne ha hb hl _ ih =>
    intro A u v hu rx ry
    cases rx; cases ry
    obtain ⟨its, r1, p1, _⟩ := I.list ha
    obtain ⟨its2, r2, p2, _⟩ := I.list hb
    have l1 := r1.length
    have l2 := r2.length
    refine SeqAt.EqAt.of_refs ne ?_
    have q := SeqAt.RcAt.lists (A := A) (e := e) p1.isList p2.isList (by rw [List.size_toArray, List.size_toArray]; omega) (by omega) (fun j h1 h2 => by
      have h1' : j < its.length := by simpa using h1
      have h2' : j < its2.length := by simpa using h2
      have e1 : xs[j]? = some (xs[j]'(by omega)) := List.getElem?_eq_getElem _
      have e2 : ys[j]? = some (ys[j]'(by omega)) := List.getElem?_eq_getElem _
      obtain ⟨u1, z1, q1⟩ := r1.get e1
      obtain ⟨u2, z2, q2⟩ := r2.get e2
      have w1 : its.toArray[j] = u1 := by
        rw [List.getElem?_eq_getElem h1'] at z1
        simpa using z1
      have w2 : its2.toArray[j] = u2 := by
        rw [List.getElem?_eq_getElem h2'] at z2
        simpa using z2
      rw [w1, w2]
      exact ih j _ _ e1 e2 (by show A.in1.units + n < cLine; have : A.in1.units = A.units + 1 := by first | rfl | simp [Around.in1]
                               omega) q1 q2)
    rw [List.size_toArray, ← l1] at q
    exact q
  | lens ne ha hb hl =>
    intro A u v hu rx ry
    cases rx; cases ry
    obtain ⟨its, r1, p1, _⟩ := I.list ha
    obtain ⟨its2, r2, p2, _⟩ := I.list hb
    have l1 := r1.length
    have l2 := r2.length
    exact SeqAt.EqAt.of_refs ne (SeqAt.RcAt.lists_lengths p1.isList p2.isList (by rw [List.size_toArray, List.size_toArray]; simp; omega) (by omega))
def LEq (K : PySem.W.Frag) (H : Hp) (n : Nat) (xs ys : List V) (r : Bool) : Prop :=
  (xs.length ≠ ys.length ∧ r = false) ∨ (∃ e : Nat → Bool, xs.length = ys.length ∧ (∀ (j : Nat) x y, xs[j]? = some x → ys[j]? = some y → EqD K H n x y (e j)) ∧ r = (List.range xs.length).all e)
theorem leq_rc {pins : List (Addr × Obj)} {σ : St} {H : Hp} {s : Shared} (I : Inv X pins σ H s) {A : Around} {n : Nat} {a b : Addr} {xs ys : List V} {r : Bool} (hu : A.units + n + 1 < cLine) (ha : SqL X.K H a xs) (hb : SqL X.K H b ys) (d : LEq X.K H n xs ys r) :
    SeqAt.RcAt A s (.ref a) (.ref b) r := by
  obtain ⟨its, r1, p1, _⟩ := I.list ha
  obtain ⟨its2, r2, p2, _⟩ := I.list hb
  have l1 := r1.length
  have l2 := r2.length
  rcases d with ⟨hl, rfl⟩ | ⟨e, hl, he, rfl⟩
  · exact SeqAt.RcAt.lists_lengths p1.isList p2.isList (by rw [List.size_toArray, List.size_toArray]; simp; omega) (by omega)
  · have q := SeqAt.RcAt.lists (A := A) (e := e) p1.isList p2.isList (by rw [List.size_toArray, List.size_toArray]; omega) (by omega) (fun j h1 h2 => by
      have h1' : j < its.length := by simpa using h1
      have h2' : j < its2.length := by simpa using h2
      have e1 : xs[j]? = some (xs[j]'(by omega)) := List.getElem?_eq_getElem _
      have e2 : ys[j]? = some (ys[j]'(by omega)) := List.getElem?_eq_getElem _
      obtain ⟨u1, z1, q1⟩ := r1.get e1
      obtain ⟨u2, z2, q2⟩ := r2.get e2
      have w1 : its.toArray[j] = u1 := by
        rw [List.getElem?_eq_getElem h1'] at z1
        simpa using z1
      have w2 : its2.toArray[j] = u2 := by
        rw [List.getElem?_eq_getElem h2'] at z2
        simpa using z2
      rw [w1, w2]
      exact eqAt_D I (he j _ _ e1 e2) (by show A.in1.units + n < cLine; have : A.in1.units = A.units + 1 := by first | rfl | simp [Around.in1]
                                          omega) q1 q2)
    rw [List.size_toArray, ← l1] at q
    exact q
end
end L2
namespace L2
open PySem PySem.Spec PyProof.Rows
section
variable {X : Cx}
theorem leq_rcNe {pins : List (Addr × Obj)} {σ : St} {H : Hp} {s : Shared} (I : Inv X pins σ H s) {A : Around} {n : Nat} {a b : Addr} {xs ys : List V} {r : Bool} (hu : A.units + n + 1 < cLine) (ha : SqL X.K H a xs) (hb : SqL X.K H b ys) (d : LEq X.K H n xs ys r) :
    SeqAt.RcNeAt A s (.ref a) (.ref b) (!r) := by
  obtain ⟨its, r1, p1, _⟩ := I.list ha
  obtain ⟨its2, r2, p2, _⟩ := I.list hb
  have l1 := r1.length
  have l2 := r2.length
  rcases d with ⟨hl, rfl⟩ | ⟨e, hl, he, rfl⟩
  · exact SeqAt.RcNeAt.lists_lengths p1.isList p2.isList (by rw [List.size_toArray, List.size_toArray]; simp; omega) (by omega)
  · have q := SeqAt.RcNeAt.lists (A := A) (e := e) p1.isList p2.isList (by rw [List.size_toArray, List.size_toArray]; omega) (by omega) (fun j h1 h2 => by
      have h1' : j < its.length := by simpa using h1
      have h2' : j < its2.length := by simpa using h2
      have e1 : xs[j]? = some (xs[j]'(by omega)) := List.getElem?_eq_getElem _
      have e2 : ys[j]? = some (ys[j]'(by omega)) := List.getElem?_eq_getElem _
      obtain ⟨u1, z1, q1⟩ := r1.get e1
      obtain ⟨u2, z2, q2⟩ := r2.get e2
      have w1 : its.toArray[j] = u1 := by
        rw [List.getElem?_eq_getElem h1'] at z1
        simpa using z1
      have w2 : its2.toArray[j] = u2 := by
        rw [List.getElem?_eq_getElem h2'] at z2
        simpa using z2
      rw [w1, w2]
      exact eqAt_D I (he j _ _ e1 e2) (by show A.in1.units + n < cLine; have : A.in1.units = A.units + 1 := by first | rfl | simp [Around.in1]
                                          omega) q1 q2)
    rw [List.size_toArray, ← l1] at q
    exact q
def rEqL (K : PySem.W.Frag) (n : Nat) (neg : Bool) : R2 := fun x y H Q => ∃ a b xs ys r, x = .ref a ∧ y = .ref b ∧ SqL K H a xs ∧ SqL K H b ys ∧ LEq K H n xs ys r ∧ Q (.bl (if neg then !r else r)) H
theorem op_eqL (n : Nat) (hu : X.A.units + n + 1 < cLine) : OpR X (compareOp .Eq) (rEqL X.K n false) := by
  intro pins s σ H x y v u Q I rx ry h
  obtain ⟨a, b, xs, ys, r, rfl, rfl, ha, hb, d, q⟩ := h
  cases rx; cases ry
  exact leq_rc I hu ha hb d _ _ _ _ ⟨.bl r, H, I, rfl, q⟩
theorem op_neL (n : Nat) (hu : X.A.units + n + 1 < cLine) : OpR X (compareOp .NotEq) (rEqL X.K n true) := by
  intro pins s σ H x y v u Q I rx ry h
  obtain ⟨a, b, xs, ys, r, rfl, rfl, ha, hb, d, q⟩ := h
  cases rx; cases ry
  exact leq_rcNe I hu ha hb d _ _ _ _ ⟨.bl (!r), H, I, rfl, q⟩
theorem all_range_iff {n : Nat} {e : Nat → Bool} : (List.range n).all e = true ↔ ∀ j, j < n → e j = true := by
  rw [List.all_eq_true]
  exact ⟨fun h j hj => h j (List.mem_range.mpr hj), fun h j hj => h j (List.mem_range.mp hj)⟩
theorem leq_ints (K : PySem.W.Frag) (H : Hp) (n : Nat) (ns ms : List Int) : LEq K H n (ns.map V.int) (ms.map V.int) (decide (ns = ms)) := by
  by_cases hl : ns.length = ms.length
  · refine .inr ⟨fun j => decide (ns[j]? = ms[j]?), by simpa using hl, fun j x y e1 e2 => ?_, ?_⟩
    · rw [List.getElem?_map] at e1 e2
      cases h1 : ns[j]? with
      | none => rw [h1] at e1; cases e1
      | some a =>
        cases h2 : ms[j]? with
        | none => rw [h2] at e2; cases e2
        | some b =>
          rw [h1] at e1; rw [h2] at e2
          cases e1; cases e2
          have q : EqD K H n (V.int a) (V.int b) (eqV (V.int a) (V.int b)) := .flat rfl rfl
          have e : eqV (V.int a) (V.int b) = decide (some a = some b) := by
            show (a == b) = _
            by_cases z : a = b
            · subst z; simp
            · rw [decide_eq_false (fun w => z (Option.some.inj w))]; simpa using z
          rw [e] at q
          show EqD K H n _ _ (decide (ns[j]? = ms[j]?))
          rw [h1, h2]
          exact q
    · rw [Bool.eq_iff_iff, decide_eq_true_iff, all_range_iff]
      constructor
      · intro h j _; subst h; simp
      · intro h
        refine List.ext_getElem? fun j => ?_
        by_cases hj : j < ns.length
        · exact of_decide_eq_true (h j (by simpa using hj))
        · rw [List.getElem?_eq_none (by omega), List.getElem?_eq_none (by omega)]
  · refine .inl ⟨by simpa using hl, ?_⟩
    exact decide_eq_false fun h => hl (by rw [h])
theorem call_range1 : CallR X (.type "range") (fun xs H Q => ∃ j, xs = [.int j] ∧ ∀ p, H p = none → Q (.ref p) (upd H p (.rng 0 j))) := by
  intro pins s σ H xs us Q I r h
  obtain ⟨j, rfl, q⟩ := h
  obtain ⟨u, rfl, ⟨t, rfl⟩⟩ := vals1 r
  refine call_range_1 ⟨.ref s.heap.objs.size, _, I.laid (fun b o e => Heap.get?_push_of_some _ e) (Nat.le_refl _) ?_, rfl, q _ (I.hok.fresh (Nat.le_refl _))⟩
  exact ⟨_, _, _, Heap.get?_push_size _ rfl⟩
theorem call_range2 : CallR X (.type "range") (fun xs H Q => ∃ i j, xs = [.int i, .int j] ∧ ∀ p, H p = none → Q (.ref p) (upd H p (.rng i j))) := by
  intro pins s σ H xs us Q I r h
  obtain ⟨i, j, rfl, q⟩ := h
  obtain ⟨u, w', rfl, ⟨t, rfl⟩, ⟨t', rfl⟩⟩ := vals2 r
  refine call_range_2 ⟨.ref s.heap.objs.size, _, I.laid (fun b o e => Heap.get?_push_of_some _ e) (Nat.le_refl _) ?_, rfl, q _ (I.hok.fresh (Nat.le_refl _))⟩
  exact ⟨_, _, _, Heap.get?_push_size _ rfl⟩
def upTo (lo : Int) (n : Nat) : List Int := (List.range n).map fun (i : Nat) => lo + (i : Int)
theorem vals_items {lo : Int} {n : Nat} {acc : Array Value} (h : ItemsOf (fun i v => ∃ t, v = Value.int (lo + (i : Int) * 1) t) acc n) : Vals ((upTo lo n).map V.int) acc.toList := by
  obtain ⟨hs, hv⟩ := h
  have key : ∀ (l : List Value) (k : Nat), (∀ (j : Nat) v, l[j]? = some v → ∃ t, v = Value.int (lo + ((k + j : Nat) : Int)) t) → Vals (((List.range l.length).map fun (i : Nat) => lo + ((k + i : Nat) : Int)).map V.int) l := by
    intro l
    induction l with
    | nil => intro k _; exact .nil
    | cons v r ih =>
      intro k hk
      have e : (((List.range r.length).map Nat.succ).map fun (i : Nat) => lo + ((k + i : Nat) : Int)) = (List.range r.length).map fun (i : Nat) => lo + ((k + 1 + i : Nat) : Int) := by
        rw [List.map_map]
        refine List.map_congr_left fun i _ => ?_
        show lo + ((k + (i + 1) : Nat) : Int) = _
        congr 2; omega
      rw [List.length_cons, List.range_succ_eq_map, List.map_cons, List.map_cons, e]
      refine .cons ?_ ?_
      · obtain ⟨t, e⟩ := hk 0 v rfl
        exact ⟨t, e⟩
      · have := ih (k + 1) fun j w e => by
          obtain ⟨t, z⟩ := hk (j + 1) w (by simpa using e)
          exact ⟨t, by rw [z]; congr 2; omega⟩
        exact this
  have := key acc.toList 0 fun j v e => by
    obtain ⟨t, z⟩ := hv j v (by simpa using e)
    exact ⟨t, by rw [z, Int.mul_one]; simp⟩
  have hl : acc.toList.length = n := by simpa using hs
  rw [hl] at this
  have e : ((List.range n).map fun (i : Nat) => lo + ((0 + i : Nat) : Int)) = upTo lo n := by
    unfold upTo
    refine List.map_congr_left fun i _ => ?_
    simp
  rw [e] at this
  exact this
theorem call_list_rng (hc : X.calm = true) : CallR X (.type "list") (fun xs H Q => ∃ p lo hi, xs = [.ref p] ∧ H p = some (.rng lo hi) ∧ (-(2 ^ 62) ≤ lo ∧ lo < 2 ^ 62 ∧ -(2 ^ 62) ≤ hi ∧ hi < 2 ^ 62) ∧ (hi - lo).toNat ≤ 2 ^ 20 ∧
    ∀ l, H l = none → Q (.ref l) (upd H l (.lst ((upTo lo (hi - lo).toNat).map V.int)))) := by
  intro pins s σ H xs us Q I r h
  obtain ⟨p, lo, hi, rfl, hp, ⟨b1, b2, b3, b4⟩, hz, q⟩ := h
  obtain ⟨u, rfl, rx⟩ := vals1 r
  cases rx
  obtain ⟨t, u, v, ho⟩ := I.hok p _ hp
  refine call_list_range (n := (hi - lo).toNat) (I.ok.hd hc) (r := p) ho (small_one b1 b2 b3 b4) (by rw [rangeSize_one]; split <;> omega) (Nat.le_trans hz (by decide)) fun h' tk acc' c' hk e it => ?_
  have rv := vals_items it
  refine ⟨.ref s.heap.objs.size, _, I.laid hk (Nat.le_refl _) (show ObjOk X.prog X.w _ h' _ (.lst ((upTo lo (hi - lo).toNat).map V.int)) from ⟨?_, acc'.toList, c', rv, by rw [e]⟩), rfl, q _ (I.hok.fresh (Nat.le_refl _))⟩
  unfold upTo
  rw [List.length_map, List.length_map, List.length_range]
  exact Nat.le_trans hz (by rw [sizeLine_eq]; decide)
theorem call_sumI (hc : X.calm = true) : CallR X (.builtin "sum") (fun xs H Q => ∃ (p : Addr) (ns : List Int), xs = [.ref p] ∧ SqL X.K H p (ns.map V.int) ∧ Q (.int ns.sum) H) := by
  intro pins s σ H xs us Q I r h
  obtain ⟨p, ns, rfl, hp, q⟩ := h
  obtain ⟨u, rfl, rx⟩ := vals1 r
  cases rx
  obtain ⟨its, rv, pl, _⟩ := I.list hp
  have ia := intsAre_of rv
  obtain ⟨xs, hxs⟩ := ia.allInts.items
  have hn := ia.numsOf
  have hxl : its = (intItems xs).toList := by rw [← hxs]
  rw [hxl, nums_intItems] at hn
  have hl := pl.isList
  rw [hxs] at hl
  refine sum_intListG (I.ok.hd hc) hl fun h' tk t' hk => ⟨.int ns.sum, H, I.kept hk, ?_, q⟩
  rw [preSum_eq, List.take_of_length_le (by simp), hn]
  exact ⟨_, rfl⟩
end
end L2
namespace L2
open PySem PySem.Spec PyProof.Rows
section
variable {X : Cx}
theorem call_isi : CallR X (.builtin "isinstance") (fun xs H Q => ∃ x n t b, xs = [x, .ty n] ∧ TyOf X.K H x t ∧ PySem.W.kitOne X.K t (.type n) = some b ∧ Q (.bl b) H) := by
  intro pins s σ H xs us Q I r h
  obtain ⟨x, n, t, b, rfl, ty, e, q⟩ := h
  obtain ⟨u, w', rfl, rx, ry⟩ := vals2 r
  cases (show w' = Value.type n from ry)
  exact isinst_ok I rx ty e fun tk => ⟨.bl b, H, I.tok tk, rfl, q⟩
theorem kit_same (K : PySem.W.Frag) (n : String) : PySem.W.kitOne K (.type n) (.type n) = some true := by
  unfold PySem.W.kitOne
  rw [if_pos (beq_self_eq_true _)]
theorem kit_int_bool (K : PySem.W.Frag) : PySem.W.kitOne K (.type "int") (.type "bool") = some false := by
  unfold PySem.W.kitOne PySem.W.kitCls
  rw [if_neg (by decide +kernel)]
  show (if PySem.W.kitMeta "bool" = true then (fastBuiltinMro "int").map (·.contains (Value.type "bool")) else none) = some false
  rw [if_pos (by decide +kernel)]
  decide +kernel
theorem boot_int : bootBuiltins "int" = some (.type "int") := by decide +kernel
theorem boot_bool : bootBuiltins "bool" = some (.type "bool") := by decide +kernel
theorem boot_listT : bootBuiltins "list" = some (.type "list") := by decide +kernel
theorem boot_rangeT : bootBuiltins "range" = some (.type "range") := by decide +kernel
theorem boot_isi : bootBuiltins "isinstance" = some (.builtin "isinstance") := by decide +kernel
theorem boot_sumB : bootBuiltins "sum" = some (.builtin "sum") := by decide +kernel
theorem boot_minB : bootBuiltins "min" = some (.builtin "min") := by decide +kernel
theorem boot_maxB : bootBuiltins "max" = some (.builtin "max") := by decide +kernel
end
def KeepBut (a : Addr) (H H' : Hp) : Prop := ∀ b o, H b = some o → b ≠ a → H' b = some o
theorem KeepBut.refl (a : Addr) (H : Hp) : KeepBut a H H := fun _ _ h _ => h
theorem KeepBut.trans {a : Addr} {H H1 H2 : Hp} (x : KeepBut a H H1) (y : KeepBut a H1 H2) : KeepBut a H H2 := fun b o h n => y b o (x b o h n) n
theorem Same.but {H H' : Hp} (a : Addr) (s : Same H H') : KeepBut a H H' := fun b o h _ => s b o h
theorem Same.upd_new {H : Hp} {p : Addr} {o : HO} (h : H p = none) : Same H (upd H p o) := fun b u e => by rw [upd_ne (ne_of_none e h)]; exact e
theorem KeepBut.upd {H : Hp} {a : Addr} {o : HO} : KeepBut a H (upd H a o) := fun b u e n => by rw [upd_ne n]; exact e
theorem Same.upd_r {H H' : Hp} {p : Addr} {o : HO} (s : Same H H') (h : H p = none) : Same H (L2.upd H' p o) := fun b u e => by rw [upd_ne (ne_of_none e h)]; exact s b u e
theorem KeepBut.upd_a {a : Addr} {H H' : Hp} {o : HO} (k : KeepBut a H H') : KeepBut a H (L2.upd H' a o) := fun b u e n => by rw [upd_ne n]; exact k b u e n
def PoolAt (H : Hp) (a : Addr) (c : Nat) : Prop := ∃ x y z : Int, H a = some (.lst [.int x, .int y, .int z]) ∧ 0 ≤ z ∧ z ≤ c
theorem PoolAt.mono {H : Hp} {a : Addr} {c d : Nat} (h : PoolAt H a c) (e : c ≤ d) : PoolAt H a d := by
  obtain ⟨x, y, z, h1, h2, h3⟩ := h
  exact ⟨x, y, z, h1, h2, by omega⟩
end L2
namespace L2
open PySem PySem.Spec PyProof.Rows
def Cal (P : Program) (w : World) (K : PySem.W.Frag) (mg : Str → Option Value) (base : Heap) (x : Str) (k : Nat) (ps : List Str) (sp : Sp) : Prop :=
  ∃ (f : Addr) (fd : FuncData), mg x = some (.ref f) ∧ PySem.W.keepIn K (.ref f) = true ∧ Binds K fd ps [] ∧ FnOk P w K mg base CX0 k f fd ps sp
theorem Cal.imp {P : Program} {w : World} {K : PySem.W.Frag} {mg : Str → Option Value} {base : Heap} {x : Str} {k : Nat} {ps : List Str} {sp sp' : Sp} (c : Cal P w K mg base x k ps sp) (h : ∀ vs H Q E, sp' vs H Q E → sp vs H Q E) (hl : ∀ vs H Q E, sp' vs H Q E → vs.length = ps.length) : Cal P w K mg base x k ps sp' := by
  obtain ⟨f, fd, a, b, d, g⟩ := c
  exact ⟨f, fd, a, b, d, g.imp (by first | exact h | exact fun vs H Q E z => h vs H Q E z)⟩
section
variable {X : Cx} {x : Str} {p pos : Pos} {e : Expr} {es : List Expr} {t : TA} {k : Nat} {ps : List Str} {sp : Sp}
theorem pe_cal (c : Cal X.prog X.w X.K X.mg X.base x k ps sp) (hr : Room k X.A) (ha : PA X (e :: es) t) (hg : Gl X x := by rfl) (hdb : (x == ("__debug__" : Str)) = false := by decide)
    (he : starEach (e :: es) X.env = (false, eval e X.env) :: starEach es X.env := by rfl) (hpl : (backTo pos (starEach es X.env)).any (·.1) = false := by rfl) :
    PE X (.Call (.Name x p) (e :: es) [] pos) (tCall sp [] E0 t) := by
  obtain ⟨f, fd, h1, h2, h3, h4⟩ := c
  exact pe_call h4 hr hg h1 h2 h3 .nil pass0 ha hdb he hpl
theorem pe_isi {a b : Expr} {ta : TA} (hm : X.mg "isinstance" = none) (ha : PA X [a, b] ta) (hg : Gl X "isinstance" := by rfl)
    (he : starEach [a, b] X.env = (false, eval a X.env) :: starEach [b] X.env := by rfl) (hpl : (backTo pos (starEach [b] X.env)).any (·.1) = false := by rfl) :
    PE X (.Call (.Name "isinstance" p) [a, b] [] pos) (tCB (fun xs H Q => ∃ x n t b, xs = [x, .ty n] ∧ TyOf X.K H x t ∧ PySem.W.kitOne X.K t (.type n) = some b ∧ Q (.bl b) H) ta) :=
  pe_callB call_isi hg hm boot_isi ha (by decide) (by decide) he hpl
theorem pe_tyInt (hm : X.mg "int" = none) (hg : Gl X "int" := by rfl) : PE X (.Name "int" p) (tC (.ty "int")) := pe_bltn hg hm boot_int rfl
theorem pe_tyBool (hm : X.mg "bool" = none) (hg : Gl X "bool" := by rfl) : PE X (.Name "bool" p) (tC (.ty "bool")) := pe_bltn hg hm boot_bool rfl
theorem pe_tyList (hm : X.mg "list" = none) (hg : Gl X "list" := by rfl) : PE X (.Name "list" p) (tC (.ty "list")) := pe_bltn hg hm boot_listT rfl
theorem pe_lenL (hm : X.mg "len" = none) (ha : PA X [e] t) (hg : Gl X "len" := by rfl)
    (he : starEach [e] X.env = (false, eval e X.env) :: starEach [] X.env := by rfl) : PE X (.Call (.Name "len" p) [e] [] pos) (tCB (fun xs H Q => ∃ p ys, xs = [.ref p] ∧ (SqL X.K H p ys ∨ SqT X.K H p ys) ∧ Q (.int ys.length) H) t) :=
  pe_callB call_len_seq hg hm PySem.boot_len ha (by decide) (by decide) he rfl
end
end L2
namespace Mth
structure IsT (p : List Int) : Prop where
  nd : p.Nodup
  lo : ∀ x ∈ p, 0 ≤ x
  hi : ∀ x ∈ p, x < p.length
theorem mem_upTo {n : Nat} {x : Int} : x ∈ L2.upTo 0 n ↔ 0 ≤ x ∧ x < n := by
  unfold L2.upTo
  rw [List.mem_map]
  constructor
  · rintro ⟨i, hi, rfl⟩
    have := List.mem_range.mp hi
    omega
  · rintro ⟨h1, h2⟩
    exact ⟨x.toNat, List.mem_range.mpr (by omega), by omega⟩
theorem length_upTo (lo : Int) (n : Nat) : (L2.upTo lo n).length = n := by
  unfold L2.upTo
  rw [List.length_map, List.length_range]
theorem nodup_upTo (n : Nat) : (L2.upTo 0 n).Nodup := by
  unfold L2.upTo
  rw [List.nodup_iff_pairwise_ne, List.pairwise_map]
  exact List.Pairwise.imp (fun {a b} (h : a < b) => by omega) List.pairwise_lt_range
theorem isT_of_perm {p : List Int} {n : Nat} (h : p.Perm (L2.upTo 0 n)) : IsT p ∧ p.length = n := by
  have hl : p.length = n := by rw [h.length_eq, length_upTo]
  refine ⟨⟨h.nodup_iff.mpr (nodup_upTo n), fun x hx => (mem_upTo.mp (h.mem_iff.mp hx)).1, fun x hx => ?_⟩, hl⟩
  have := (mem_upTo.mp (h.mem_iff.mp hx)).2
  omega
theorem perm_of_nodup : ∀ (n : Nat) (p : List Nat), p.Nodup → (∀ x ∈ p, x < n) → p.length = n → p.Perm (List.range n) := by
  intro n
  induction n with
  | zero => intro p _ _ hl; rw [List.eq_nil_of_length_eq_zero hl]; exact List.Perm.refl _
  | succ n ih =>
    intro p nd hb hl
    by_cases hn : n ∈ p
    · obtain ⟨s, t, rfl⟩ := List.append_of_mem hn
      have pm : (s ++ n :: t).Perm (n :: (s ++ t)) := List.perm_middle
      have nd' := pm.nodup_iff.mp nd
      obtain ⟨h1, h2⟩ := List.nodup_cons.mp nd'
      have := ih (s ++ t) h2 (fun x hx => by
        have hx' : x < n + 1 := hb x (pm.mem_iff.mpr (List.mem_cons_of_mem _ hx))
        have : x ≠ n := fun e => h1 (e ▸ hx)
        omega) (by rw [List.length_append, List.length_cons] at hl; rw [List.length_append]; omega)
      refine pm.trans ?_
      rw [List.range_succ]
      exact (List.Perm.cons n this).trans (List.perm_append_comm (l₁ := [n]))
    · exfalso
      have hlt : ∀ x ∈ p, x < n := fun x hx => by
        have h1 := hb x hx
        have : x ≠ n := fun e => hn (e ▸ hx)
        omega
      match p, nd, hl, hlt with
      | [], _, hl, _ => simp at hl
      | y :: q, nd, hl, hlt =>
        obtain ⟨h1, h2⟩ := List.nodup_cons.mp nd
        have hq := ih q h2 (fun x hx => hlt x (List.mem_cons_of_mem _ hx)) (by simpa using hl)
        have hy := hlt y List.mem_cons_self
        exact h1 (hq.mem_iff.mpr (List.mem_range.mpr hy))
theorem IsT.perm {p : List Int} (h : IsT p) : p.Perm (L2.upTo 0 p.length) := by
  have e : (p.map Int.toNat).map (fun (i : Nat) => (0 : Int) + (i : Int)) = p := by
    rw [List.map_map]
    conv => rhs; rw [← List.map_id p]
    refine List.map_congr_left fun x hx => ?_
    have := h.lo x hx
    show (0 : Int) + ((x.toNat : Nat) : Int) = x
    omega
  have nd : (p.map Int.toNat).Nodup := by
    rw [List.nodup_iff_pairwise_ne, List.pairwise_map]
    have := List.nodup_iff_pairwise_ne.mp h.nd
    refine List.Pairwise.imp_of_mem (fun {a b} ha hb hne z => hne ?_) this
    have h1 := h.lo a ha
    have h2 := h.lo b hb
    omega
  have := perm_of_nodup p.length (p.map Int.toNat) nd (fun x hx => by
    obtain ⟨y, hy, rfl⟩ := List.mem_map.mp hx
    have h1 := h.lo y hy
    have h2 := h.hi y hy
    omega) (by rw [List.length_map])
  have q := this.map (fun (i : Nat) => (0 : Int) + (i : Int))
  rw [e] at q
  exact q
def at0 (fs : List Int) (u : Int) : Option Int := fs[u.toNat]?
theorem map_upTo_at0 (fs : List Int) : (L2.upTo 0 fs.length).map (at0 fs) = fs.map some := by
  unfold L2.upTo
  rw [List.map_map]
  refine List.ext_getElem? fun j => ?_
  rw [List.getElem?_map, List.getElem?_map]
  by_cases hj : j < fs.length
  · rw [List.getElem?_range hj, List.getElem?_eq_getElem hj]
    show some (fs[((0 : Int) + (j : Int)).toNat]?) = _
    have : ((0 : Int) + (j : Int)).toNat = j := by omega
    rw [this, List.getElem?_eq_getElem hj]
    rfl
  · rw [List.getElem?_eq_none (by rw [List.length_range]; omega), List.getElem?_eq_none (by omega)]
    rfl
theorem perm_some {a b : List Int} (h : (a.map some).Perm (b.map some)) : a.Perm b := by
  have := h.map (fun o : Option Int => o.getD 0)
  rw [List.map_map, List.map_map] at this
  have e : ∀ l : List Int, l.map ((fun o : Option Int => o.getD 0) ∘ some) = l := fun l => by
    conv => rhs; rw [← List.map_id l]
    rfl
  rw [e, e] at this
  exact this
theorem perm_along {fs ts qs : List Int} (ht : IsT ts) (hl : fs.length = ts.length) (h : ts.map (at0 fs) = qs.map some) : fs.Perm qs := by
  refine perm_some ?_
  have h1 := ht.perm.map (at0 fs)
  rw [← hl, map_upTo_at0, h] at h1
  exact h1.symm
end Mth
namespace L2
open PySem PySem.Spec PyProof.Rows
theorem CompOk.of {X : Cx} {N : List Str} {nl : Nat} {fr : List Nat} {scope : Scope} (h1 : (scope.names.all fun y => y.2 != .cell) = true := by rfl) (h2 : scope.kind = .function := by rfl)
    (h3 : (scope.names.all fun y => y.2 != .local || scope.names.lookup y.1 == some .local) = true := by rfl)
    (h4 : (scope.names.all fun p => p.2 != .free || (X.env.kindOf p.1 == some .cell || X.env.kindOf p.1 == some .free)) = true := by rfl) (h5 : N.length = nl + fr.length := by rfl)
    (h6 : ((List.range fr.length).all fun k => match fr[k]? with
      | some j => (match N[nl + k]?, X.N[j]? with
        | some y, some z => y == z && (X.env.scope.names.lookup y == some .local || X.env.scope.names.lookup y == some .cell || X.env.scope.names.lookup y == some .free) && scope.names.lookup y == some .free
        | _, _ => false)
      | none => false) = true := by rfl) : CompOk X N nl fr scope where
  cell := fun y hy e => by
    have := List.all_eq_true.mp h1 y hy
    rw [e] at this; exact absurd this (by decide)
  kind := h2
  names := fun y hy e => by
    have := List.all_eq_true.mp h3 y hy
    rw [e] at this
    have q : (scope.names.lookup y.1 == some NameKind.local) = true := by simpa using this
    exact eq_of_beq q
  free := fun p hp e => by
    have := List.all_eq_true.mp h4 p hp
    rw [e] at this
    have q : (X.env.kindOf p.1 == some NameKind.cell || X.env.kindOf p.1 == some NameKind.free) = true := by simpa using this
    rcases Bool.or_eq_true _ _ |>.mp q with z | z
    · exact .inl (eq_of_beq z)
    · exact .inr (eq_of_beq z)
  len := h5
  fr := fun k j e => by
    have hk : k < fr.length := (List.getElem?_eq_some_iff.mp e).1
    have := List.all_eq_true.mp h6 k (List.mem_range.mpr hk)
    rw [e] at this
    dsimp only at this
    cases e1 : N[nl + k]? with
    | none => rw [e1] at this; cases this
    | some y =>
      cases e2 : X.N[j]? with
      | none => rw [e1, e2] at this; cases this
      | some z =>
        rw [e1, e2] at this
        dsimp only at this
        rw [Bool.and_eq_true, Bool.and_eq_true] at this
        obtain ⟨⟨q1, q2⟩, q3⟩ := this
        have hyz : y = z := eq_of_beq q1
        subst hyz
        refine ⟨y, rfl, rfl, ?_, eq_of_beq q3⟩
        rw [Bool.or_eq_true, Bool.or_eq_true] at q2
        rcases q2 with (q | q) | q
        · exact .inl (eq_of_beq q)
        · exact .inr (.inl (eq_of_beq q))
        · exact .inr (.inr (eq_of_beq q))
def seenK (l : List Int) : List (Key × V) := l.map fun n => ((Sum.inl n : Key), V.bl true)
theorem seenK_in {l : List Int} {n : Int} (h : n ∈ l) : valV (seenK l) (Sum.inl n : Key) = some (.bl true) := by
  induction l with
  | nil => simp at h
  | cons a r ih =>
    show valV (((Sum.inl a : Key), V.bl true) :: seenK r) _ = _
    by_cases e : a = n
    · rw [valV_pos (by rw [e])]
    · rw [valV_neg (fun z => e (Sum.inl.inj z))]
      exact ih ((List.mem_cons.mp h).resolve_left fun z => e z.symm)
theorem seenK_no {l : List Int} {n : Int} (h : n ∉ l) : valV (seenK l) (Sum.inl n : Key) = none := by
  induction l with
  | nil => rfl
  | cons a r ih =>
    show valV (((Sum.inl a : Key), V.bl true) :: seenK r) _ = _
    rw [valV_neg (fun z => h (by rw [Sum.inl.inj z]; exact List.mem_cons_self))]
    exact ih fun z => h (List.mem_cons_of_mem _ z)
theorem seenK_put {l : List Int} {n : Int} (h : n ∉ l) : putK (seenK l) (Sum.inl n : Key) (V.bl true) = seenK (l ++ [n]) := by
  rw [putK_new _ (seenK_no h)]
  unfold seenK
  rw [List.map_append]
  rfl
theorem getElem_int {ns : List Int} {i : Nat} {y : V} (h : (ns.map V.int)[i]? = some y) : ∃ z, ns[i]? = some z ∧ y = .int z := by
  rw [List.getElem?_map] at h
  cases e : ns[i]? with
  | none => rw [e] at h; cases h
  | some z => rw [e] at h; exact ⟨z, rfl, (Option.some.inj h).symm⟩
theorem take_succ_of {α : Type} {l : List α} {i : Nat} {x : α} (h : l[i]? = some x) : l.take (i + 1) = l.take i ++ [x] := by
  rw [List.take_add_one, h]
  rfl
end L2
namespace Mth
theorem atI_map {p : List Int} {i : Int} (h0 : 0 ≤ i) (h1 : i < p.length) : L2.atI (p.map L2.V.int) i = some (.int (p.getD i.toNat 0)) := by
  obtain ⟨j, rfl⟩ := Int.eq_ofNat_of_zero_le h0
  refine L2.atI_nat ?_
  have hj : j < p.length := by omega
  rw [List.getElem?_map, List.getElem?_eq_getElem hj]
  show some (L2.V.int p[j]) = _
  rw [Int.toNat_natCast]
  rw [List.getD_eq_getElem?_getD, List.getElem?_eq_getElem hj]
  rfl
end Mth
namespace L2
open PySem PySem.Spec PyProof.Rows
theorem leq_nil (K : PySem.W.Frag) (H : Hp) (n : Nat) (xs : List V) : LEq K H n xs [] xs.isEmpty := by
  cases xs with
  | nil => exact .inr ⟨fun _ => true, rfl, fun j x y e => by simp at e, rfl⟩
  | cons x r => exact .inl ⟨by simp, rfl⟩
section
variable {X : Cx} {p pos apos : Pos} {e o : Expr} {es : List Expr} {t : TA} {to : TE}
theorem pe_append (ho : PE X o to) (ha : PA X [e] t)
    (hbase : attributeBase o "append" X.env (eval o X.env) = eval o X.env := by rfl)
    (hfew : ((backTo pos (starEach [e] X.env)).all (fun x => !x.1) && (backToKw pos (keywordEach [] X.env)).all (fun x => x.1.isSome)
      && decide ([e].length + ([] : List Keyword).length + (if ([] : List Keyword).isEmpty then 0 else 1) < 30)) = true := by rfl)
    (hline : (apos.endLine == pos.line) = true := by rfl) (hs : starEach [e] X.env = (false, eval e X.env) :: starEach [] X.env := by rfl) (hplain : (backTo pos (starEach [] X.env)).any (·.1) = false := by rfl) :
    PE X (.Call (.Attribute o "append" apos) [e] [] pos) (tBM X.K "list" rAppend to t) :=
  pe_bm PySem.F.plainAttrs_list PySem.F.slot_list_append PySem.F.type_list_append mt_append ho ha hbase hfew hline hs hplain
theorem pe_listRng {p2 pos2 : Pos} (hc : X.calm = true) (hm : X.mg "list" = none) (hm2 : X.mg "range" = none) (ha : PA X [e] t) (hg : Gl X "list" := by rfl) (hg2 : Gl X "range" := by rfl) (he : starEach [e] X.env = (false, eval e X.env) :: starEach [] X.env := by rfl)
    (he2 : starEach [.Call (.Name "range" p2) [e] [] pos2] X.env = (false, eval (.Call (.Name "range" p2) [e] [] pos2) X.env) :: starEach [] X.env := by rfl) :
    PE X (.Call (.Name "list" p) [.Call (.Name "range" p2) [e] [] pos2] [] pos) (tCB (fun xs H Q => ∃ p lo hi, xs = [.ref p] ∧ H p = some (.rng lo hi) ∧ (-(2 ^ 62) ≤ lo ∧ lo < 2 ^ 62 ∧ -(2 ^ 62) ≤ hi ∧ hi < 2 ^ 62) ∧ (hi - lo).toNat ≤ 2 ^ 20 ∧
    ∀ l, H l = none → Q (.ref l) (upd H l (.lst ((upTo lo (hi - lo).toNat).map V.int)))) (tCons (tCB (fun xs H Q => ∃ j, xs = [.int j] ∧ ∀ p, H p = none → Q (.ref p) (upd H p (.rng 0 j))) t) tNil)) :=
  pe_callTy (call_list_rng hc) hg hm boot_listT (pa_cons (pe_callTy call_range1 hg2 hm2 boot_rangeT ha (by decide) (by decide) he rfl) pa_nil he2) (by decide) (by decide) he2 rfl
theorem pe_sum (hc : X.calm = true) (hm : X.mg "sum" = none) (ha : PA X [e] t) (hg : Gl X "sum" := by rfl) (he : starEach [e] X.env = (false, eval e X.env) :: starEach [] X.env := by rfl) :
    PE X (.Call (.Name "sum" p) [e] [] pos) (tCB (fun xs H Q => ∃ (p : Addr) (ns : List Int), xs = [.ref p] ∧ SqL X.K H p (ns.map V.int) ∧ Q (.int ns.sum) H) t) :=
  pe_callB (call_sumI hc) hg hm boot_sumB ha (by decide) (by decide) he rfl
theorem pe_min2 {a b : Expr} (hc : X.calm = true) (hm : X.mg "min" = none) (ha : PA X [a, b] t) (hg : Gl X "min" := by rfl) (he : starEach [a, b] X.env = (false, eval a X.env) :: starEach [b] X.env := by rfl) (hpl : (backTo pos (starEach [b] X.env)).any (·.1) = false := by rfl) :
    PE X (.Call (.Name "min" p) [a, b] [] pos) (tCB (fun xs H Q => ∃ i j, xs = [.int i, .int j] ∧ Q (.int (if j < i then j else i)) H) t) :=
  pe_callB (call_min2 hc) hg hm boot_minB ha (by decide) (by decide) he hpl
theorem pe_max2 {a b : Expr} (hc : X.calm = true) (hm : X.mg "max" = none) (ha : PA X [a, b] t) (hg : Gl X "max" := by rfl) (he : starEach [a, b] X.env = (false, eval a X.env) :: starEach [b] X.env := by rfl) (hpl : (backTo pos (starEach [b] X.env)).any (·.1) = false := by rfl) :
    PE X (.Call (.Name "max" p) [a, b] [] pos) (tCB (fun xs H Q => ∃ i j, xs = [.int i, .int j] ∧ Q (.int (if j > i then j else i)) H) t) :=
  pe_callB (call_max2 hc) hg hm boot_maxB ha (by decide) (by decide) he hpl
end
end L2
namespace Mth
theorem take_bound {u s : Int} (h1 : 0 ≤ u) (h2 : u < 10000001000) (h3 : 0 ≤ s) (h4 : s ≤ 1000001) : 0 ≤ u * (37 * s + 67) + 3557 * s * s ∧ u * (37 * s + 67) + 3557 * s * s < 2 ^ 64 := by
  have a1 : 0 ≤ 37 * s + 67 := by omega
  have a2 : 37 * s + 67 ≤ 37000200 := by omega
  have b1 : 0 ≤ u * (37 * s + 67) := Int.mul_nonneg h1 a1
  have b2 : u * (37 * s + 67) ≤ 10000001000 * 37000200 := Int.mul_le_mul (by omega) a2 a1 (by omega)
  have c0 : 0 ≤ 3557 * s := by omega
  have c1 : 0 ≤ 3557 * s * s := Int.mul_nonneg c0 h3
  have c2 : 3557 * s * s ≤ (3557 * 1000001) * 1000001 := Int.mul_le_mul (by omega) h4 h3 (by omega)
  have e : (2 : Int) ^ 64 = 18446744073709551616 := by decide
  rw [e]
  omega
end Mth
namespace L2
open PySem PySem.Spec PyProof.Rows
def tIsi (K : PySem.W.Frag) (ta : TA) : TE := tCB (fun xs H Q => ∃ x n t b, xs = [x, .ty n] ∧ TyOf K H x t ∧ PySem.W.kitOne K t (.type n) = some b ∧ Q (.bl b) H) ta
section
variable {X : Cx} {p pos : Pos} {e : Expr} {t : TA}
theorem pe_isiK (K : PySem.W.Frag) {a b : Expr} {ta : TA} (hm : X.mg "isinstance" = none) (ha : PA X [a, b] ta) (hK : X.K = K := by rfl) (hg : Gl X "isinstance" := by rfl)
    (he : starEach [a, b] X.env = (false, eval a X.env) :: starEach [b] X.env := by rfl) (hpl : (backTo pos (starEach [b] X.env)).any (·.1) = false := by rfl) :
    PE X (.Call (.Name "isinstance" p) [a, b] [] pos) (tIsi K ta) := by
  subst hK
  exact pe_isi hm ha hg he hpl
end
theorem rep_zero (n : Nat) : (List.replicate n [V.int 0]).flatten = (List.replicate n (0 : Int)).map V.int := by
  induction n with
  | zero => rfl
  | succ n ih => rw [List.replicate_succ, List.flatten_cons, ih, List.replicate_succ, List.map_cons]; rfl
end L2
namespace Mth
theorem at0_ne {fs : List Int} {u v x : Int} (hu : 0 ≤ u) (hv : 0 ≤ v) (h : u ≠ v) : at0 (fs.set v.toNat x) u = at0 fs u := by
  unfold at0
  rw [List.getElem?_set_ne (by omega)]
theorem at0_same {fs : List Int} {v x : Int} (h : v.toNat < fs.length) : at0 (fs.set v.toNat x) v = some x := by
  unfold at0
  rw [List.getElem?_set_self h]
theorem getD_eq {ts : List Int} {i : Nat} (h : i < ts.length) : ts.getD i 0 = ts[i] := by
  rw [List.getD_eq_getElem?_getD, List.getElem?_eq_getElem h]
  rfl
theorem nodup_getD {ts : List Int} (nd : ts.Nodup) {i j : Nat} (hi : i < ts.length) (hj : j < ts.length) (h : i ≠ j) : ts.getD i 0 ≠ ts.getD j 0 := by
  rw [getD_eq hi, getD_eq hj]
  rcases Nat.lt_or_gt_of_ne h with z | z
  · exact List.pairwise_iff_getElem.mp (List.nodup_iff_pairwise_ne.mp nd) i j hi hj z
  · exact fun e => List.pairwise_iff_getElem.mp (List.nodup_iff_pairwise_ne.mp nd) j i hj hi z e.symm
end Mth
namespace L2
open PySem PySem.Spec PyProof.Rows
theorem Same.kb {a : Addr} {H H1 H2 : Hp} (s : Same H H1) (k : KeepBut a H1 H2) (h : H a = none) : Same H H2 := fun b o e => k b o (s b o e) (ne_of_none e h)
def RowsH (H : Hp) (as : List Addr) (rs : List (List Int)) : Prop := as.length = rs.length ∧ ∀ (j : Nat) a r, as[j]? = some a → rs[j]? = some r → H a = some (.lst (r.map V.int))
end L2
namespace Mth
theorem isT_getD {p : List Int} (t : IsT p) {j : Nat} (h : j < p.length) : 0 ≤ p.getD j 0 ∧ p.getD j 0 < p.length := by
  rw [getD_eq h]
  exact ⟨t.lo _ (List.getElem_mem h), t.hi _ (List.getElem_mem h)⟩
end Mth
namespace L2
open PySem PySem.Spec PyProof.Rows
def Ite (K : PySem.W.Frag) (a : Addr) : It :=
  ⟨fun i H => ∃ xs x, SqL K H a xs ∧ xs[i]? = some x, fun i H v H' => ∃ x t, (∀ xs, SqL K H a xs → xs[i]? = some x) ∧ H t = none ∧ v = .ref t ∧ H' = upd H t (.tup [.int (i : Int), x]), fun i H => ∃ xs, SqL K H a xs ∧ xs.length ≤ i⟩
theorem turn_enum {P : Program} {w : World} {K : PySem.W.Frag} {elts : List Expr} {x1} {pos : Pos} (a e it : Addr) (hne : e ≠ it) :
    Turn P w K (.Tuple elts x1 pos) (Ite K a) [e, it] e (fun i h => (∃ old, IsEnum h e it i old) ∧ h.IsListIter it a i) where
  mem := by simp
  obj := fun i h st b hb => by
    obtain ⟨⟨old, he⟩, ⟨o, ho, c, d⟩⟩ := st
    have hb : b = e ∨ b = it := by simpa using hb
    rcases hb with rfl | rfl
    · exact ⟨_, he, fun v z => by cases z⟩
    · exact ⟨o, ho, fun v z => by rw [d] at z; cases z⟩
  keep := fun i h h' st k => ⟨let ⟨old, he⟩ := st.1; ⟨old, k e (by simp) _ he⟩, st.2.at fun o q => k it (by simp) o q⟩
  item := by
    intro X hP hw hK hc i pins s σ H E I hf st hg
    subst hP hw hK
    obtain ⟨⟨old, he⟩, hit⟩ := st
    obtain ⟨xs, x, hq, hx⟩ := hg
    obtain ⟨its, rv, p, hz⟩ := I.list hq
    obtain ⟨u, hu, ru⟩ := rv.get hx
    obtain ⟨f0, f1, f2, f3, f4, f5⟩ := hf e (by simp)
    obtain ⟨g0, g1, g2, g3, g4, g5⟩ := hf it (by simp)
    refine wpAny_pyNext_enum_item he hit p.isList (x := u) (by simpa using hu) hne fun h' he' hit' ht' hz' hk' => ?_
    refine ⟨_, rfl, wpAny_letOwnedTupleGo_enum he' fun h2 he2 hs2 => ?_⟩
    have hs2 : Heap.SameBut e h' h2 := hs2
    have eT : e ≠ s.heap.objs.size := Nat.ne_of_lt (Heap.lt_size he)
    have ht2 : h2.get? s.heap.objs.size = some { cls := .type "tuple", data := .seq #[.int i s.toks, u] } := hs2.extBut _ _ eT.symm ht'
    have kk : ∀ b o, b ≠ e → b ≠ it → s.heap.get? b = some o → h2.get? b = some o := fun b o b1 b2 q => hs2.extBut b o b1 (hk' b o b1 b2 q)
    have hn : H s.heap.objs.size = none := I.hok.fresh (Nat.le_refl _)
    have nT : ∀ b u', H b = some u' → b ≠ s.heap.objs.size := fun b u' q => ne_of_none q hn
    have ne : ∀ b u', H b = some u' → b ≠ e ∧ b ≠ it := fun b u' q => ⟨fun z => (by rw [z, f0] at q; cases q), fun z => (by rw [z, g0] at q; cases q)⟩
    have I1 : Inv X pins σ (upd H s.heap.objs.size (.tup [.int (i : Int), x])) { s with heap := h2, gens := s.gens, drawn := s.drawn, toks := s.toks + 1 } := by
      refine I.step (ch := [e, it]) (fun b hb => ?_) (fun b o _ _ hc q _ => kk b o (fun z => hc (by simp [z])) (fun z => hc (by simp [z])) q) (fun b o _ _ hc q _ => ⟨o.slots, kk b o (fun z => hc (by simp [z])) (fun z => hc (by simp [z])) q⟩)
        (fun b o hc q n => by rw [upd_ne (Nat.ne_of_lt (Heap.lt_size q))]; exact n) (fun b o hc q => ⟨o, kk b o (fun z => hc (by simp [z])) (fun z => hc (by simp [z])) q⟩)
        (fun b ys q => by rw [upd_ne (nT b _ q)]; exact q) (fun b o ys q => by rw [upd_ne (nT b _ q)]; exact q) (fun b ps q => ⟨#[], by rw [upd_ne (nT b _ q), q]; simp⟩) (fun m hm => ?_) (fun b u' q => ?_) I.bare
      · have hb : b = e ∨ b = it := by simpa using hb
        rcases hb with rfl | rfl
        · exact ⟨f3, f1, f4, f5⟩
        · exact ⟨g3, g1, g4, g5⟩
      · obtain ⟨o, es, ep, ho, r⟩ := hm
        exact ⟨o, es, ep, kk _ o (Ne.symm f1) (Ne.symm g1) ho, r⟩
      · by_cases hb : b = s.heap.objs.size
        · subst hb
          rw [upd_same] at q
          cases q
          exact ⟨by show 2 ≤ sizeLine; decide, [.int i s.toks, u], .cons ⟨_, rfl⟩ (.cons ru .nil), ⟨_, ht2, rfl, 0, rfl⟩⟩
        · rw [upd_ne hb] at q
          refine (I.hok b u' q).stay (fun c v hc q' => ?_) (fun c q' => by rw [upd_ne (nT c _ q')]; exact q') fun c ys q' => by rw [upd_ne (nT c _ q')]; exact q'
          rcases hc with z | z
          · rw [z] at q' ⊢; exact kk b v (ne b _ q).1 (ne b _ q).2 q'
          · exact kk c v (ne c _ z).1 (ne c _ z).2 q'
    refine ⟨.ref s.heap.objs.size, _, I1, rfl, ⟨x, s.heap.objs.size, fun ys hy => by rw [I.list_inj hy hq]; exact hx, hn, rfl, rfl⟩, ⟨⟨u, ?_⟩, ?_⟩, fun b hb => ?_⟩
    · have : ((i + 1 : Nat) : Int) = (i : Int) + 1 := by push_cast; rfl
      rw [this]
      exact he2
    · exact hit'.extBut hs2.extBut hne.symm
    · have hb : b = e ∨ b = it := by simpa using hb
      rcases hb with rfl | rfl
      · rw [upd_ne eT]; exact f0
      · obtain ⟨o, ho, _⟩ := hit
        rw [upd_ne (Nat.ne_of_lt (Heap.lt_size ho))]; exact g0
  done := by
    intro X hP hw hK hc i pins s σ H E I hf st hg
    subst hP hw hK
    obtain ⟨⟨old, he⟩, hit⟩ := st
    obtain ⟨xs, hq, hx⟩ := hg
    obtain ⟨its, rv, p, hz⟩ := I.list hq
    obtain ⟨g0, g1, g2, g3, g4, g5⟩ := hf it (by simp)
    have hl := rv.length
    exact wpAny_pyNext_enum_end (I.ok.hd hc) he hit p.isList (by simp; omega) fun h' eb => ⟨rfl, I.turned (t' := s.toks) (fun b o hb q => eb b o hb q) g0 g1 g3 g4 g5⟩
  self := fun _ _ _ _ _ st h => let ⟨_, he⟩ := st.1; wpAny_pyIter_enum he h
theorem boot_enum : bootBuiltins "enumerate" = some (.type "enumerate") := by decide +kernel
section
variable {X : Cx} {l : Expr} {ta : TA} {p pos : Pos} {elts : List Expr} {x1 : Nat} {tpos : Pos}
def iEnum (K : PySem.W.Frag) (ta : TA) : TI := fun σ H R => ta σ H fun vs H1 => ∃ a, vs = [.ref a] ∧ (∃ xs, SqL K H1 a xs) ∧ R (Ite K a) H1
theorem pi_enum (hm : X.mg "enumerate" = none) (ha : PA X [l] ta) (hg : Gl X "enumerate" := by rfl) (hs : starEach [l] X.env = [(false, eval l X.env)] := by rfl) : PI X (.Tuple elts x1 tpos) (.Call (.Name "enumerate" p) [l] [] pos) (iEnum X.K ta) := by
  intro pins s σ H R I h
  refine Call_ (ld_blt I hg hm boot_enum (PyProof.Rows.callWith_type1 (thn (ha pos pins s σ H _ I h) fun us s1 ⟨vs, H1, I1, r1, q1⟩ => ?_) hs rfl))
  obtain ⟨a, e, ⟨xs, hq⟩, q⟩ := q1
  subst e
  obtain ⟨u, rfl, rx⟩ := vals1 r1
  cases rx
  obtain ⟨its, rv, pl, hz⟩ := I1.list hq
  refine call_enumerate_list pl.isList fun h' he hit hz' hk => ?_
  refine wpAny_pyIter_enum he ?_
  have I2 : Inv X pins σ H1 { s1 with heap := h', toks := s1.toks } := I1.kept (t' := s1.toks) hk
  refine ⟨s1.heap.objs.size + 1, [s1.heap.objs.size + 1, s1.heap.objs.size], _, _, H1, rfl, I2, turn_enum a (s1.heap.objs.size + 1) s1.heap.objs.size (Nat.succ_ne_self _), ⟨⟨.none, he⟩, hit⟩, fun b hb => ?_, q⟩
  have hb : b = s1.heap.objs.size + 1 ∨ b = s1.heap.objs.size := by simpa using hb
  rcases hb with rfl | rfl
  · exact I1.fpOk (by omega) (I1.hok.fresh (by omega))
  · exact I1.fpOk (by omega) (I1.hok.fresh (by omega))
end
theorem for_enum {K : PySem.W.Frag} {a : Addr} {xs : List V} {g : TG} {tb : TS} {D : Ends} {σ : St} {H : Hp} (Pv : Nat → St → Hp → Prop) (h0 : Pv 0 σ H) (hl : ∀ i σ H, i ≤ xs.length → Pv i σ H → SqL K H a xs)
    (hs : ∀ i x σ H t, xs[i]? = some x → Pv i σ H → H t = none → g (.ref t) σ (upd H t (.tup [.int (i : Int), x])) fun σ2 H2 => tb { D with nx := Pv (i + 1), ct := Pv (i + 1), bk := D.nx } σ2 H2) (hd : ∀ σ H, Pv xs.length σ H → D.nx σ H) :
    ∃ W : Nat → Nat → St → Hp → Prop, (∃ m, W 0 m σ H) ∧ ∀ i m σ H, W i m σ H →
      ((Ite K a).stop i H ∧ D.nx σ H) ∨ ((Ite K a).go i H ∧ ∃ N : St → Hp → Prop, (∀ σ' H', N σ' H' → ∃ m', m' < m ∧ W (i + 1) m' σ' H') ∧ ∀ x H', (Ite K a).yld i H x H' → g x σ H' fun σ2 H2 => tb { D with nx := N, ct := N, bk := D.nx } σ2 H2) := by
  refine ⟨fun i m σ H => m = xs.length - i ∧ i ≤ xs.length ∧ Pv i σ H, ⟨xs.length, by simp, Nat.zero_le _, h0⟩, ?_⟩
  rintro i m σ H ⟨rfl, hi, p⟩
  have q := hl i σ H hi p
  by_cases hlt : i < xs.length
  · refine .inr ⟨⟨xs, xs[i], q, by simp [hlt]⟩, Pv (i + 1), fun σ' H' p' => ⟨xs.length - (i + 1), by omega, rfl, hlt, p'⟩, fun x H' y => ?_⟩
    obtain ⟨x', t, y1, y2, e1, e2⟩ := y
    subst e1 e2
    exact hs i x' σ _ t (y1 xs q) p y2
  · have e : i = xs.length := by omega
    subst e
    exact .inl ⟨⟨xs, q, Nat.le_refl _⟩, hd σ H p⟩
end L2
namespace Mth
def nx (p : List Int) (x : Int) : Int := p.getD x.toNat 0
def it (p : List Int) : Nat → Int → Int
  | 0, x => x
  | i + 1, x => nx p (it p i x)
def In (p : List Int) (x : Int) : Prop := 0 ≤ x ∧ x < p.length
theorem nx_in {p : List Int} (t : IsT p) {x : Int} (h : In p x) : In p (nx p x) := isT_getD t (j := x.toNat) (by have := h.1; have := h.2; omega)
theorem nx_inj {p : List Int} (t : IsT p) {x y : Int} (hx : In p x) (hy : In p y) (h : nx p x = nx p y) : x = y := by
  have a1 := hx.1
  have a2 := hx.2
  have b1 := hy.1
  have b2 := hy.2
  by_cases e : x.toNat = y.toNat
  · omega
  · exact absurd h (nodup_getD t.nd (i := x.toNat) (j := y.toNat) (by omega) (by omega) e)
theorem it_in {p : List Int} (t : IsT p) {x : Int} (h : In p x) : ∀ i, In p (it p i x)
  | 0 => h
  | i + 1 => nx_in t (it_in t h i)
theorem it_add (p : List Int) (x : Int) : ∀ i j, it p (i + j) x = it p i (it p j x)
  | 0, j => by rw [Nat.zero_add]; rfl
  | i + 1, j => by
    rw [Nat.add_right_comm]
    show nx p (it p (i + j) x) = nx p (it p i (it p j x))
    rw [it_add p x i j]
theorem it_succ (p : List Int) (x : Int) (i : Nat) : it p (i + 1) x = it p i (nx p x) := by
  rw [it_add p x i 1]; rfl
theorem it_inj {p : List Int} (t : IsT p) {x y : Int} (hx : In p x) (hy : In p y) : ∀ i, it p i x = it p i y → x = y
  | 0, h => h
  | i + 1, h => it_inj t hx hy i (nx_inj t (it_in t hx i) (it_in t hy i) h)
structure Per (p : List Int) (x : Int) (L : Nat) : Prop where
  pos : 0 < L
  back : it p L x = x
  least : ∀ i, 0 < i → i < L → it p i x ≠ x
theorem Per.uniq {p : List Int} {x : Int} {L M : Nat} (h : Per p x L) (g : Per p x M) : L = M := by
  rcases Nat.lt_trichotomy L M with z | z | z
  · exact absurd h.back (g.least L h.pos z)
  · exact z
  · exact absurd g.back (h.least M g.pos z)
theorem it_mul {p : List Int} {x : Int} {L : Nat} (h : it p L x = x) : ∀ q, it p (L * q) x = x
  | 0 => by rw [Nat.mul_zero]; rfl
  | q + 1 => by rw [Nat.mul_succ, it_add, h, it_mul h q]
theorem it_mod {p : List Int} {x : Int} {L : Nat} (h : it p L x = x) (i : Nat) : it p (i % L) x = it p i x := by
  conv => rhs; rw [← Nat.div_add_mod i L, Nat.add_comm, it_add, it_mul h]
theorem it_cong {p : List Int} {x : Int} {L : Nat} (h : it p L x = x) {a b : Nat} (e : a % L = b % L) : it p a x = it p b x := by
  rw [← it_mod h a, e, it_mod h]
theorem Per.shift {p : List Int} (t : IsT p) {x : Int} {L : Nat} (hx : In p x) (h : Per p x L) (j : Nat) : Per p (it p j x) L := by
  refine ⟨h.pos, ?_, fun i i0 i1 e => ?_⟩
  · rw [← it_add, Nat.add_comm, it_add, h.back]
  · rw [← it_add, Nat.add_comm, it_add] at e
    exact h.least i i0 i1 (it_inj t (it_in t hx i) hx j e)
def ringL (p : List Int) (x : Int) (L : Nat) : List Int := (List.range L).map fun i => it p i x
theorem ringL_len (p : List Int) (x : Int) (L : Nat) : (ringL p x L).length = L := by unfold ringL; rw [List.length_map, List.length_range]
theorem ringL_get {p : List Int} {x : Int} {L j : Nat} (h : j < L) : (ringL p x L)[j]? = some (it p j x) := by
  unfold ringL
  rw [List.getElem?_map, List.getElem?_range h]
  rfl
theorem ringL_getD {p : List Int} {x : Int} {L j : Nat} (h : j < L) : (ringL p x L).getD j 0 = it p j x := by
  rw [List.getD_eq_getElem?_getD, ringL_get h]; rfl
theorem mem_ringL {p : List Int} {x y : Int} {L : Nat} : y ∈ ringL p x L ↔ ∃ j, j < L ∧ y = it p j x := by
  unfold ringL
  rw [List.mem_map]
  constructor
  · rintro ⟨j, hj, rfl⟩
    exact ⟨j, List.mem_range.mp hj, rfl⟩
  · rintro ⟨j, hj, rfl⟩
    exact ⟨j, List.mem_range.mpr hj, rfl⟩
theorem ringL_succ (p : List Int) (x : Int) (m : Nat) : ringL p x (m + 1) = ringL p x m ++ [it p m x] := by
  unfold ringL
  rw [List.range_succ, List.map_append]
  rfl
theorem ringL_nodup {p : List Int} (t : IsT p) {x : Int} (hx : In p x) {m : Nat} (h : ∀ i, 0 < i → i < m → it p i x ≠ x) : (ringL p x m).Nodup := by
  unfold ringL
  rw [List.nodup_iff_pairwise_ne, List.pairwise_map]
  refine List.Pairwise.imp_of_mem (fun {a b} ha hb hlt e => ?_) List.pairwise_lt_range
  have hb := List.mem_range.mp hb
  have e2 : b = a + (b - a) := by omega
  rw [e2, it_add] at e
  exact h (b - a) (by omega) (by omega) (it_inj t (it_in t hx _) hx a e.symm)
theorem nodup_len : ∀ (n : Nat) (l : List Nat), l.Nodup → (∀ x ∈ l, x < n) → l.length ≤ n := by
  intro n
  induction n with
  | zero =>
    intro l _ hb
    cases l with
    | nil => exact Nat.le_refl _
    | cons a r => exact absurd (hb a List.mem_cons_self) (Nat.not_lt_zero _)
  | succ n ih =>
    intro l nd hb
    by_cases hn : n ∈ l
    · obtain ⟨s, u, rfl⟩ := List.append_of_mem hn
      have pm : (s ++ n :: u).Perm (n :: (s ++ u)) := List.perm_middle
      obtain ⟨h1, h2⟩ := List.nodup_cons.mp (pm.nodup_iff.mp nd)
      have := ih (s ++ u) h2 fun x hx => by
        have hx' := hb x (pm.mem_iff.mpr (List.mem_cons_of_mem _ hx))
        have : x ≠ n := fun e => h1 (e ▸ hx)
        omega
      rw [pm.length_eq, List.length_cons]
      omega
    · exact Nat.le_succ_of_le (ih l nd fun x hx => by
        have h1 := hb x hx
        have : x ≠ n := fun e => hn (e ▸ hx)
        omega)
theorem nodup_len_in {p : List Int} {r : List Int} (nd : r.Nodup) (h : ∀ x ∈ r, In p x) : r.length ≤ p.length := by
  have := nodup_len p.length (r.map Int.toNat) (by
    rw [List.nodup_iff_pairwise_ne, List.pairwise_map]
    refine List.Pairwise.imp_of_mem (fun {a b} ha hb hne z => hne ?_) (List.nodup_iff_pairwise_ne.mp nd)
    have h1 := (h a ha).1
    have h2 := (h b hb).1
    omega) fun x hx => by
      obtain ⟨y, hy, rfl⟩ := List.mem_map.mp hx
      have h1 := (h y hy).1
      have h2 := (h y hy).2
      omega
  rw [List.length_map] at this
  exact this
theorem ringL_in {p : List Int} (t : IsT p) {x : Int} (hx : In p x) {L : Nat} : ∀ y ∈ ringL p x L, In p y := fun y hy => by
  obtain ⟨j, _, rfl⟩ := mem_ringL.mp hy
  exact it_in t hx j
theorem ring_bound {p : List Int} (t : IsT p) {x : Int} (hx : In p x) {m : Nat} (h : ∀ i, 0 < i → i < m → it p i x ≠ x) : m ≤ p.length := by
  have := nodup_len_in (ringL_nodup t hx h) (ringL_in t hx)
  rw [ringL_len] at this
  exact this
theorem ring_closed {p : List Int} {x y : Int} {L : Nat} (h : Per p x L) (hy : y ∈ ringL p x L) (i : Nat) : it p i y ∈ ringL p x L := by
  obtain ⟨j, hj, rfl⟩ := mem_ringL.mp hy
  refine mem_ringL.mpr ⟨(i + j) % L, Nat.mod_lt _ h.pos, ?_⟩
  rw [it_mod h.back, it_add]
theorem ring_meet {p : List Int} {x y z : Int} {L M : Nat} (h : Per p x L) (g : Per p y M) (h1 : z ∈ ringL p x L) (h2 : z ∈ ringL p y M) : y ∈ ringL p x L := by
  obtain ⟨j, hj, rfl⟩ := mem_ringL.mp h2
  have := ring_closed h h1 (M - j)
  rw [← it_add, show M - j + j = M by omega, g.back] at this
  exact this
open Classical in
noncomputable def perOf (p : List Int) (x : Int) : Nat := if h : ∃ L, Per p x L then Classical.choose h else 0
theorem perOf_eq {p : List Int} {x : Int} {L : Nat} (h : Per p x L) : perOf p x = L := by
  have hx : ∃ L, Per p x L := ⟨L, h⟩
  unfold perOf
  rw [dif_pos hx]
  exact (Classical.choose_spec hx).uniq h
noncomputable def ringsF (p : List Int) : Nat → List (List Int)
  | 0 => []
  | i + 1 => if (i : Int) ∈ (ringsF p i).flatten then ringsF p i else ringsF p i ++ [ringL p i (perOf p i)]
structure RingsUp (p : List Int) (i : Nat) (rs : List (List Int)) : Prop where
  ring : ∀ r ∈ rs, ∃ x L, In p x ∧ Per p x L ∧ r = ringL p x L ∧ (∀ y ∈ r, x ≤ y) ∧ x < i
  nd : rs.flatten.Nodup
  all : ∀ u : Int, 0 ≤ u → u < i → u ∈ rs.flatten
  ord : rs.Pairwise fun r s => r.getD 0 0 < s.getD 0 0
  eq : rs = ringsF p i
theorem rings_none (p : List Int) : RingsUp p 0 [] := ⟨fun r hr => by simp at hr, List.nodup_nil, fun u h1 h2 => by omega, List.Pairwise.nil, rfl⟩
theorem rings_skip {p : List Int} {i : Nat} {rs : List (List Int)} (h : RingsUp p i rs) (hi : (i : Int) ∈ rs.flatten) : RingsUp p (i + 1) rs := by
  refine ⟨fun r hr => ?_, h.nd, fun u h1 h2 => ?_, h.ord, ?_⟩
  · obtain ⟨x, L, a, b, c, d, e⟩ := h.ring r hr
    exact ⟨x, L, a, b, c, d, by omega⟩
  · by_cases e : u = i
    · subst e; exact hi
    · exact h.all u h1 (by omega)
  · show rs = if (i : Int) ∈ (ringsF p i).flatten then ringsF p i else ringsF p i ++ [ringL p i (perOf p i)]
    rw [← h.eq, if_pos hi]
theorem rings_fresh {p : List Int} {i : Nat} {rs : List (List Int)} (h : RingsUp p i rs) {L : Nat} (hL : Per p i L) (hi : (i : Int) ∉ rs.flatten) : ∀ y ∈ ringL p i L, y ∉ rs.flatten := by
  intro y hy hm
  obtain ⟨r, hr, hyr⟩ := List.mem_flatten.mp hm
  obtain ⟨x, M, a, b, rfl, d, e⟩ := h.ring r hr
  exact hi (List.mem_flatten.mpr ⟨_, hr, ring_meet b hL hyr hy⟩)
theorem rings_step {p : List Int} (t : IsT p) {i : Nat} {rs : List (List Int)} (h : RingsUp p i rs) (hx : In p i) {L : Nat} (hL : Per p i L) (hi : (i : Int) ∉ rs.flatten) : RingsUp p (i + 1) (rs ++ [ringL p i L]) := by
  have fr := rings_fresh h hL hi
  refine ⟨fun r hr => ?_, ?_, fun u h1 h2 => ?_, ?_, ?_⟩
  · rcases List.mem_append.mp hr with z | z
    · obtain ⟨x, L, a, b, c, d, e⟩ := h.ring r z
      exact ⟨x, L, a, b, c, d, by omega⟩
    · have : r = ringL p i L := by simpa using z
      subst this
      refine ⟨i, L, hx, hL, rfl, fun y hy => ?_, by omega⟩
      have y0 := (ringL_in t hx y hy).1
      by_cases hlt : y < i
      · exact absurd (h.all y y0 hlt) (fr y hy)
      · omega
  · rw [List.flatten_append, List.flatten_singleton]
    refine List.nodup_append.mpr ⟨h.nd, ringL_nodup t hx fun j j0 j1 => hL.least j j0 j1, fun a ha b hb e => ?_⟩
    subst e
    exact fr a hb ha
  · rw [List.flatten_append, List.flatten_singleton]
    by_cases e : u = i
    · subst e
      exact List.mem_append_right _ (mem_ringL.mpr ⟨0, hL.pos, rfl⟩)
    · exact List.mem_append_left _ (h.all u h1 (by omega))
  · refine List.pairwise_append.mpr ⟨h.ord, List.pairwise_singleton _ _, fun r hr s hs => ?_⟩
    have : s = ringL p i L := by simpa using hs
    subst this
    obtain ⟨x, M, a, b, rfl, d, e⟩ := h.ring r hr
    rw [ringL_getD b.pos, ringL_getD hL.pos]
    exact e
  · show rs ++ [ringL p i L] = if (i : Int) ∈ (ringsF p i).flatten then ringsF p i else ringsF p i ++ [ringL p i (perOf p i)]
    rw [← h.eq, if_neg hi, perOf_eq hL]
def PowIs (p : List Int) (k : Int) (t : List Int) : Prop := t.length = p.length ∧ ∀ x, In p x → ∃ L, Per p x L ∧ at0 t x = some (it p (k % (L : Int)).toNat x)
end Mth
namespace Mth
theorem nx_at0 {p : List Int} {x : Int} (h : In p x) : at0 p x = some (nx p x) := by
  have a1 := h.1
  have a2 := h.2
  unfold at0 nx
  rw [List.getD_eq_getElem?_getD, List.getElem?_eq_getElem (by omega)]
  rfl
theorem back_nx {p s : List Int} (t : IsT p) (h : PowIs p (-1) s) {x : Int} (hx : In p x) : ∃ y, at0 s x = some y ∧ In p y ∧ nx p y = x := by
  obtain ⟨L, hL, e⟩ := h.2 x hx
  have hpos := hL.pos
  have e1 : ((-1 : Int) % (L : Int)).toNat = L - 1 := by
    have h1 : (-1 : Int) % (L : Int) = (L : Int) - 1 := by
      have := Int.add_emod_right (-1 : Int) (L : Int)
      rw [← this, Int.emod_eq_of_lt (by omega) (by omega)]
      omega
    rw [h1]; omega
  rw [e1] at e
  refine ⟨_, e, it_in t hx _, ?_⟩
  show it p (L - 1 + 1) x = x
  rw [show L - 1 + 1 = L by omega, hL.back]
theorem back_eq {p s : List Int} (t : IsT p) (h : PowIs p (-1) s) {f : Nat → Int} (hf : ∀ u, u < p.length → ∃ j : Nat, f u = (j : Int) ∧ p[j]? = some (u : Int)) : s = (List.range p.length).map f := by
  refine List.ext_getElem? fun u => ?_
  by_cases hu : u < p.length
  · obtain ⟨y, e, hy, en⟩ := back_nx t h (x := (u : Int)) ⟨by omega, by omega⟩
    obtain ⟨j, e1, e2⟩ := hf u hu
    have hj : j < p.length := (List.getElem?_eq_some_iff.mp e2).1
    have e3 : nx p (j : Int) = (u : Int) := by
      unfold nx
      rw [Int.toNat_natCast, getD_eq hj]
      exact (List.getElem?_eq_some_iff.mp e2).2
    have : y = (j : Int) := nx_inj t hy ⟨by omega, by omega⟩ (by rw [en, e3])
    unfold at0 at e
    rw [Int.toNat_natCast] at e
    rw [e, List.getElem?_map, List.getElem?_range hu, this]
    show some (j : Int) = some (f u)
    rw [e1]
  · rw [List.getElem?_eq_none (by rw [h.1]; omega), List.getElem?_eq_none (by rw [List.length_map, List.length_range]; omega)]
end Mth
namespace L2
open PySem PySem.Spec PyProof.Rows
def CDivB (i j : Int) : Prop := 0 < j ∧ j ≤ 1000000000000000000000000000000
theorem op_fdivB {X : Cx} : OpR X (binaryOp .FloorDiv) (rI CDivB fun i j => .int (i / j)) := opI fun i j _ _ _ _ _ hc q => by
  have hp : Builtin.divisionGoesByPylong i j = false := by
    refine PyProof.noPylong_of_log2 ?_
    obtain ⟨h1, h2⟩ := hc
    have : j.natAbs < 2 ^ 9000 := Nat.lt_of_le_of_lt (show j.natAbs ≤ 1000000000000000000000000000000 by omega) (by decide +kernel)
    exact (Nat.log2_lt (by omega)).mpr this
  refine floordiv_int (by have := hc.1; omega) ?_ (.inl hp)
  rw [Int.fdiv_eq_ediv_of_nonneg i (by have := hc.1; omega)]
  exact q
end L2
namespace Mth
theorem last_at {p : List Int} {x : Int} {m : Nat} (h : 1 ≤ m) : L2.atI ((ringL p x m).map L2.V.int) (-1) = some (.int (it p (m - 1) x)) := by
  obtain ⟨k, rfl⟩ : ∃ k, m = k + 1 := ⟨m - 1, by omega⟩
  rw [ringL_succ, List.map_append]
  exact L2.atI_last _ _
end Mth
namespace Mth
theorem per_ex {p : List Int} (t : IsT p) {x : Int} (hx : In p x) : ∃ L, Per p x L := by
  have h0 : ∃ i, 0 < i ∧ i ≤ p.length ∧ it p i x = x := Classical.byContradiction fun hn => by
    have := ring_bound t hx (m := p.length + 1) fun i i0 i1 e => hn ⟨i, i0, by omega, e⟩
    omega
  have key : ∀ n, (∃ i, 0 < i ∧ i ≤ n ∧ it p i x = x) → ∃ L, Per p x L := by
    intro n
    induction n with
    | zero => rintro ⟨i, i0, i1, _⟩; omega
    | succ n ih =>
      rintro ⟨i, i0, i1, e⟩
      by_cases h : ∃ j, 0 < j ∧ j ≤ n ∧ it p j x = x
      · exact ih h
      · refine ⟨i, i0, e, fun j j0 j1 ej => h ⟨j, j0, by omega, ej⟩⟩
  exact key _ h0
theorem per_dvd {p : List Int} {x : Int} {L : Nat} (h : Per p x L) {i : Nat} (e : it p i x = x) : L ∣ i := by
  rw [← it_mod h.back] at e
  refine Nat.dvd_of_mod_eq_zero (Classical.byContradiction fun hn => ?_)
  exact h.least (i % L) (by omega) (Nat.mod_lt _ h.pos) e
theorem it_congZ {p : List Int} {x : Int} {L : Nat} (h : Per p x L) {a b : Nat} (e : ((a : Int) - (b : Int)) % (L : Int) = 0) : it p a x = it p b x := by
  refine it_cong h.back ?_
  have : ((a % L : Nat) : Int) = ((b % L : Nat) : Int) := by
    rw [Int.natCast_emod, Int.natCast_emod]
    exact Int.emod_emod_of_dvd _ (Int.dvd_refl _) |>.symm.trans (by
      rw [Int.emod_emod]
      exact (Int.emod_eq_emod_iff_emod_sub_eq_zero).mpr e)
  exact Int.ofNat.inj this
theorem isT_of_nx {t : List Int} (h1 : ∀ x : Int, 0 ≤ x → x < t.length → 0 ≤ nx t x ∧ nx t x < t.length) (h2 : ∀ x y : Int, 0 ≤ x → x < t.length → 0 ≤ y → y < t.length → nx t x = nx t y → x = y) : IsT t := by
  have g : ∀ i (hi : i < t.length), nx t (i : Int) = t[i] := fun i hi => by unfold nx; rw [Int.toNat_natCast, getD_eq hi]
  refine ⟨?_, fun x hx => ?_, fun x hx => ?_⟩
  · rw [List.nodup_iff_pairwise_ne, List.pairwise_iff_getElem]
    intro i j hi hj hlt e
    have := h2 i j (by omega) (by omega) (by omega) (by omega) (by rw [g i hi, g j hj]; exact e)
    omega
  · obtain ⟨i, hi, rfl⟩ := List.mem_iff_getElem.mp hx
    rw [← g i hi]; exact (h1 i (by omega) (by omega)).1
  · obtain ⟨i, hi, rfl⟩ := List.mem_iff_getElem.mp hx
    rw [← g i hi]; exact (h1 i (by omega) (by omega)).2
theorem pow_nx {p t : List Int} {k : Int} (h : PowIs p k t) {x : Int} (hx : In p x) : ∃ L, Per p x L ∧ ∀ m : Nat, ((m : Int) - k) % (L : Int) = 0 → nx t x = it p m x := by
  obtain ⟨L, hL, e⟩ := h.2 x hx
  refine ⟨L, hL, fun m hm => ?_⟩
  have e1 : nx t x = it p (k % (L : Int)).toNat x := by
    have hx' : In t x := ⟨hx.1, by rw [h.1]; exact hx.2⟩
    rw [nx_at0 hx'] at e
    exact Option.some.inj e
  rw [e1]
  refine it_congZ hL ?_
  have b0 := Int.emod_nonneg k (show (L : Int) ≠ 0 by have := hL.pos; omega)
  rw [Int.toNat_of_nonneg b0]
  have : k % (L : Int) - (m : Int) = -(((m : Int) - k) + (k - k % (L : Int))) := by omega
  rw [this]
  have d1 : (L : Int) ∣ ((m : Int) - k) := Int.dvd_of_emod_eq_zero hm
  have d2 : (L : Int) ∣ (k - k % (L : Int)) := Int.dvd_self_sub_emod
  exact Int.emod_eq_zero_of_dvd (Int.dvd_neg.mpr (Int.dvd_add d1 d2))
theorem pow_of {p t : List Int} {k : Int} (tp : IsT p) (hl : t.length = p.length) (h : ∀ x, In p x → ∀ L, Per p x L → ∃ m : Nat, ((m : Int) - k) % (L : Int) = 0 ∧ nx t x = it p m x) : PowIs p k t := by
  refine ⟨hl, fun x hx => ?_⟩
  obtain ⟨L, hL⟩ := per_ex tp hx
  obtain ⟨m, hm, e⟩ := h x hx L hL
  refine ⟨L, hL, ?_⟩
  rw [nx_at0 (p := t) ⟨hx.1, by rw [hl]; exact hx.2⟩, e]
  congr 1
  refine it_congZ hL ?_
  have b0 := Int.emod_nonneg k (show (L : Int) ≠ 0 by have := hL.pos; omega)
  rw [Int.toNat_of_nonneg b0]
  have : (m : Int) - k % (L : Int) = ((m : Int) - k) + (k - k % (L : Int)) := by omega
  rw [this]
  exact Int.emod_eq_zero_of_dvd (Int.dvd_add (Int.dvd_of_emod_eq_zero hm) Int.dvd_self_sub_emod)
theorem nat_like (k : Int) (L : Nat) (h : 0 < L) : (((k % (L : Int)).toNat : Int) - k) % (L : Int) = 0 := by
  have b0 := Int.emod_nonneg k (show (L : Int) ≠ 0 by omega)
  rw [Int.toNat_of_nonneg b0]
  have : k % (L : Int) - k = -(k - k % (L : Int)) := by omega
  rw [this]
  exact Int.emod_eq_zero_of_dvd (Int.dvd_neg.mpr Int.dvd_self_sub_emod)
theorem pow_isT {p t : List Int} {k : Int} (tp : IsT p) (h : PowIs p k t) : IsT t := by
  have tx : ∀ x, In p x → ∃ L, Per p x L ∧ nx t x = it p (k % (L : Int)).toNat x := fun x hx => by
    obtain ⟨L, hL, e⟩ := pow_nx h hx
    exact ⟨L, hL, e _ (nat_like k L hL.pos)⟩
  refine isT_of_nx (fun x x0 x1 => ?_) (fun x y x0 x1 y0 y1 e => ?_)
  · rw [h.1] at x1 ⊢
    obtain ⟨L, hL, e⟩ := tx x ⟨x0, x1⟩
    rw [e]
    exact it_in tp ⟨x0, x1⟩ _
  · rw [h.1] at x1 y1
    obtain ⟨L, hL, e1⟩ := tx x ⟨x0, x1⟩
    obtain ⟨M, hM, e2⟩ := tx y ⟨y0, y1⟩
    rw [e1, e2] at e
    have pL := hL.shift tp ⟨x0, x1⟩ (k % (L : Int)).toNat
    have pM := hM.shift tp ⟨y0, y1⟩ (k % (M : Int)).toNat
    rw [e] at pL
    have := pL.uniq pM
    subst this
    exact it_inj tp ⟨x0, x1⟩ ⟨y0, y1⟩ _ e
theorem nx_upTo {n : Nat} {x : Int} (h0 : 0 ≤ x) (h1 : x < n) : nx (L2.upTo 0 n) x = x := by
  unfold nx L2.upTo
  rw [List.getD_eq_getElem?_getD, List.getElem?_map, List.getElem?_range (by omega)]
  show (0 : Int) + ((x.toNat : Nat) : Int) = x
  omega
end Mth
namespace L2
open PySem PySem.Spec PyProof.Rows
section
variable {X : Cx} {o e : Expr} {to : TE} {t : TA} {apos pos p : Pos}
theorem pe_extend (ho : PE X o to) (ha : PA X [e] t)
    (hbase : attributeBase o "extend" X.env (eval o X.env) = eval o X.env := by rfl)
    (hfew : ((backTo pos (starEach [e] X.env)).all (fun x => !x.1) && (backToKw pos (keywordEach [] X.env)).all (fun x => x.1.isSome)
      && decide ([e].length + ([] : List Keyword).length + (if ([] : List Keyword).isEmpty then 0 else 1) < 30)) = true := by rfl)
    (hline : (apos.endLine == pos.line) = true := by rfl) (hs : starEach [e] X.env = (false, eval e X.env) :: starEach [] X.env := by rfl) (hplain : (backTo pos (starEach [] X.env)).any (·.1) = false := by rfl) :
    PE X (.Call (.Attribute o "extend" apos) [e] [] pos) (tBM X.K "list" rExtend to t) :=
  pe_bm PySem.F.plainAttrs_list PySem.F.slot_list_extend PySem.F.type_list_extend mt_extend ho ha hbase hfew hline hs hplain
end
theorem cut_from (xs : List V) (k : Nat) (h : k ≤ xs.length) : cutV xs (some (k : Int)) none = xs.drop k := by
  unfold cutV
  rw [HT.sIx_nat, HT.sIx_none, Nat.min_eq_left h, List.take_of_length_le (by rw [List.length_drop]; omega)]
theorem cut_to (xs : List V) (k : Nat) (h : k ≤ xs.length) : cutV xs none (some (k : Int)) = xs.take k := by
  unfold cutV
  rw [HT.sIx_nat, HT.sIx_none, Nat.min_eq_left h, List.drop_zero, Nat.sub_zero]
end L2
namespace Mth
theorem up_flat {p : List Int} {rs : List (List Int)} (t : IsT p) (h : RingsUp p p.length rs) : rs.flatten.Perm (L2.upTo 0 p.length) := by
  have i1 : IsT rs.flatten := by
    have hin : ∀ x ∈ rs.flatten, In p x := fun x hx => by
      obtain ⟨r, hr, hxr⟩ := List.mem_flatten.mp hx
      obtain ⟨y, L, a, b, rfl, _⟩ := h.ring r hr
      exact ringL_in t a x hxr
    have l1 := nodup_len_in h.nd hin
    have l2 : p.length ≤ rs.flatten.length := by
      have := nodup_len_in (p := rs.flatten) (r := L2.upTo 0 p.length) (nodup_upTo _) fun x hx => by
        have hx' := mem_upTo.mp hx
        obtain ⟨r, hr, hxr⟩ := List.mem_flatten.mp (h.all x hx'.1 hx'.2)
        refine ⟨hx'.1, ?_⟩
        exact Classical.byContradiction fun hn => by
          have hle : (rs.flatten.length : Int) ≤ x := by omega
          have hlt := nodup_len_in h.nd hin
          have q : (L2.upTo 0 (x.toNat + 1)).length ≤ rs.flatten.length := by
            have sub : ∀ z ∈ L2.upTo 0 (x.toNat + 1), z ∈ rs.flatten := fun z hz => by
              have hz' := mem_upTo.mp hz
              exact h.all z hz'.1 (by have := hx'.2; omega)
            have : ∀ (l m : List Int), l.Nodup → (∀ z ∈ l, z ∈ m) → l.length ≤ m.length := by
              intro l
              induction l with
              | nil => intro m _ _; exact Nat.zero_le _
              | cons c l ih =>
                intro m nd hs
                obtain ⟨n1, n2⟩ := List.nodup_cons.mp nd
                obtain ⟨s, u, rfl⟩ := List.append_of_mem (hs c List.mem_cons_self)
                have := ih (s ++ u) n2 fun z hz => by
                  have hzm := hs z (List.mem_cons_of_mem _ hz)
                  rcases List.mem_append.mp hzm with g | g
                  · exact List.mem_append_left _ g
                  · rcases List.mem_cons.mp g with g | g
                    · subst g; exact absurd hz n1
                    · exact List.mem_append_right _ g
                rw [List.length_append] at this
                rw [List.length_append, List.length_cons, List.length_cons]
                omega
            exact this _ _ (nodup_upTo _) sub
          rw [length_upTo] at q
          have := hx'.1
          omega
      rw [length_upTo] at this
      exact this
    exact ⟨h.nd, fun x hx => (hin x hx).1, fun x hx => by have := (hin x hx).2; omega⟩
  have hl : rs.flatten.length = p.length := by
    have l1 := nodup_len_in h.nd fun x hx => by
      obtain ⟨r, hr, hxr⟩ := List.mem_flatten.mp hx
      obtain ⟨y, L, a, b, rfl, _⟩ := h.ring r hr
      exact ringL_in t a x hxr
    have l2 : p.length ≤ rs.flatten.length := by
      have := nodup_len_in (p := rs.flatten) (r := L2.upTo 0 p.length) (nodup_upTo _) fun x hx => by
        have hx' := mem_upTo.mp hx
        have hm := h.all x hx'.1 hx'.2
        exact ⟨hx'.1, i1.hi x hm⟩
      rw [length_upTo] at this
      exact this
    omega
  have := i1.perm
  rw [hl] at this
  exact this
end Mth
namespace L2
open PySem PySem.Spec PyProof.Rows
theorem boot_sortedB : bootBuiltins "sorted" = some (.builtin "sorted") := by decide +kernel
section
variable {X : Cx}
theorem laid_sorted {pins : List (Addr × Obj)} {σ : St} {H : Hp} {s : Shared} (I : Inv X pins σ H s) {vs : List Value} {out : Array Value} {ms : List Int} (h : IntsAre out.toList ms) (hl : ms.length ≤ sizeLine) :
    Inv X pins σ (upd H (s.heap.objs.size + 1) (.lst (ms.map V.int))) { s with heap := sortedAll s.heap vs out, toks := s.toks } := by
  obtain ⟨e, he⟩ := sortedAll_at s.heap vs out
  refine I.laid (t' := s.toks) (fun _ _ q => sortedAll_old q) (Nat.le_succ _) (show ObjOk X.prog X.w _ _ _ (.lst (ms.map V.int)) from ⟨by rw [List.length_map]; exact hl, out.toList, e, vals_ints h, he⟩)
variable {e : Expr} {t : TA} {p pos kpos : Pos}
end
end L2
namespace Mth
theorem sorted_same : ∀ {a b : List Int}, a.Perm b → a.Pairwise (· ≥ ·) → b.Pairwise (· ≥ ·) → a = b
  | [], b, h, _, _ => by rw [List.nil_perm.mp h]
  | x :: a, [], h, _, _ => by exact absurd h.length_eq (by simp)
  | x :: a, y :: b, h, ha, hb => by
    obtain ⟨a1, a2⟩ := List.pairwise_cons.mp ha
    obtain ⟨b1, b2⟩ := List.pairwise_cons.mp hb
    have hxy : x = y := by
      have h1 : x ∈ y :: b := h.mem_iff.mp List.mem_cons_self
      have h2 : y ∈ x :: a := h.mem_iff.mpr List.mem_cons_self
      have l1 : y ≥ x := by
        rcases List.mem_cons.mp h1 with e | e
        · exact Int.le_of_eq e
        · exact b1 x e
      have l2 : x ≥ y := by
        rcases List.mem_cons.mp h2 with e | e
        · exact Int.le_of_eq e
        · exact a1 y e
      omega
    subst hxy
    rw [sorted_same ((List.perm_cons x).mp h) a2 b2]
end Mth
namespace L2
open PySem PySem.Spec PyProof.Rows
def litsOf : List Expr → Option (List Int)
  | [] => some []
  | .Constant (.int i) _ _ :: es => (litsOf es).map (i :: ·)
  | _ :: _ => none
def tLitA (ns : List Int) : TA := fun _ H Q => Q (ns.map V.int) H
def tLits (ns : List Int) : TE := fun _ H Q => ns.length ≤ sizeLine ∧ ∀ p, H p = none → Q (.ref p) (upd H p (.lst (ns.map V.int)))
theorem starEach_int (i : Int) (j : Nat) (p : Pos) (es : List Expr) (env : Env) : starEach (.Constant (.int i) j p :: es) env = (false, eval (.Constant (.int i) j p) env) :: starEach es env := rfl
theorem pa_litsO {X : Cx} : ∀ (es : List Expr) (ns : List Int), litsOf es = some ns → PA X es (tLitA ns)
  | [], ns, h => by
    have : ns = [] := (Option.some.inj h).symm
    subst this
    exact fun pos pins s σ H Q I h => pa_nil pos pins s σ H Q I h
  | e :: es, ns, h => by
    unfold litsOf at h
    split at h
    · rename_i h0; cases h0
    · rename_i i j p es' heq
      cases heq
      cases ho : litsOf es with
      | none => rw [ho] at h; cases h
      | some ms =>
        rw [ho] at h
        cases h
        exact fun pos pins s σ H Q I h => (pa_cons (te := tC (.int i)) pe_int (pa_litsO es ms ho) (starEach_int i j p es X.env)) pos pins s σ H Q I h
    · cases h
theorem pe_litsO {X : Cx} {pos : Pos} {es : List Expr} (ns : List Int) (h : litsOf es = some ns) : PE X (.List es pos) (tLits ns) := fun pins s σ H Q I h' => pe_lst (pa_litsO es ns h) pins s σ H Q I (by
  show (ns.map V.int).length ≤ sizeLine ∧ _
  rw [List.length_map]; exact h')
end L2
namespace L2
open PySem PySem.Spec PyProof.Rows
section
variable {X : Cx}
theorem kV_of_is {P : Program} {w : World} {k : Key} {u : Value} (h : (mixKind P w).is k u = true) : RelV (kV k) u := by
  cases k with
  | inl i =>
    cases u with
    | int j t =>
      have : i = j := by
        have h2 := KeyKind.is_eq_decide (knd := mixKind P w) (mixKind_int P w j t) (Sum.inl i)
        rw [h] at h2
        have := of_decide_eq_true h2.symm
        exact Sum.inl.inj this
      subst this
      exact ⟨t, rfl⟩
    | _ => cases h
  | inr x =>
    cases u with
    | str y t =>
      have : x = y := by
        have h2 := KeyKind.is_eq_decide (knd := mixKind P w) (mixKind_str P w y t) (Sum.inr x)
        rw [h] at h2
        have := of_decide_eq_true h2.symm
        exact Sum.inr.inj this
      subst this
      exact ⟨t, rfl⟩
    | _ => cases h
theorem Inv.freeze {pins : List (Addr × Obj)} {σ : St} {H : Hp} {s : Shared} {a : Addr} {kvs : List (Key × V)} {o : Obj} (I : Inv X pins σ H s) (e : H a = some (.dK kvs)) (ho : s.heap.get? a = some o) : Inv X pins σ (upd H a (.frz o (.dK kvs))) s := by
  have ok : ObjOk X.prog X.w H s.heap a (.dK kvs) := I.hok a _ e
  exact d_write (h' := s.heap) (t' := s.toks) I (by rw [e]; exact True.intro) ⟨rfl, fun b _ => rfl⟩ ⟨o, ho⟩ ⟨ho, ok⟩
def Itd (d : Addr) (o : Obj) (kvs : List (Key × V)) : It :=
  ⟨fun i H => H d = some (.frz o (.dK kvs)) ∧ i < kvs.length, fun i H x H' => H' = H ∧ ∃ k v, kvs[i]? = some (k, v) ∧ x = kV k, fun i H => H d = some (.frz o (.dK kvs)) ∧ kvs.length ≤ i⟩
theorem dk_at {P : Program} {w : World} {H : Hp} {h : Heap} {d : Addr} {o : Obj} {kvs : List (Key × V)} (x : ObjOk P w H h d (.frz o (.dK kvs))) {es : Array DictEntry} {ep : Nat} (hd : o.data = .dict es ep) : ∃ vs, KV kvs vs ∧ h.DictAt (mixKind P w) d vs ep := by
  obtain ⟨ho, _, _, vs, rel, o', es', ep', ho', hc, hd', r⟩ := x
  rw [ho] at ho'
  cases ho'
  rw [hd] at hd'
  cases hd'
  exact ⟨vs, rel, o, es, ho, hc, hd, r⟩
theorem paired_get {α β : Type} {R : α → β → Prop} {xs : List α} {ys : List β} (h : Paired R xs ys) : ∀ {i : Nat} {x : α}, xs[i]? = some x → ∃ y, ys[i]? = some y ∧ R x y := by
  induction h with
  | nil => intro i x e; simp at e
  | cons r _ ih =>
    intro i x e
    cases i with
    | zero => rw [List.getElem?_cons_zero] at e; cases e; exact ⟨_, rfl, r⟩
    | succ i => rw [List.getElem?_cons_succ] at e; exact ih e
theorem turn_dict {P : Program} {w : World} {K : PySem.W.Frag} {tg : Expr} (d it : Addr) (o : Obj) (kvs : List (Key × V)) (es : Array DictEntry) (ep : Nat) (hdat : o.data = .dict es ep) : Turn P w K tg (Itd d o kvs) [it] it (fun i h => h.IsKeyIter it d i kvs.length ep) where
  mem := by simp
  obj := fun i h st b hb => by
    have e : b = it := by simpa using hb
    subst e
    obtain ⟨o, e, c, d⟩ := st
    exact ⟨o, e, fun v z => by rw [d] at z; cases z⟩
  keep := fun i h h' st k => by
    obtain ⟨o, e, r⟩ := st
    exact ⟨o, k it (by simp) o e, r⟩
  item := by
    intro X hP hw hK hc i pins s σ H E I hf st hg
    subst hP hw hK
    obtain ⟨hH, hi⟩ := hg
    obtain ⟨vs, rel, hat⟩ := dk_at (I.hok d _ hH) hdat
    have hl : kvs.length = vs.length := rel.length
    obtain ⟨f0, f1, f2, f3, f4, f5⟩ := hf it (by simp)
    have e1 : kvs[i]? = some (kvs[i].1, kvs[i].2) := List.getElem?_eq_getElem hi
    generalize kvs[i].1 = k at e1
    generalize kvs[i].2 = v at e1
    obtain ⟨⟨k', u⟩, e2, e3, _⟩ := paired_get rel e1
    have e3 : k = k' := e3
    subst e3
    rw [hl] at st
    refine wpAny_pyNext_dict_item st hat e2 fun key h' hk st' sb => ?_
    have I1 : Inv X pins σ H { s with heap := h' } := I.turned (t' := s.toks) (fun b o hb e => (sb.2 b hb).trans e) f0 f1 f3 f4 f5
    obtain ⟨o, e, c, dd⟩ := id st'
    exact ⟨key, rfl, go_of (s := { s with heap := h' }) e c dd (by decide) ⟨kV k, H, I1, kV_of_is hk, ⟨rfl, k, v, e1, rfl⟩, by rw [hl]; exact st', fun b hb => (hf b hb).1⟩⟩
  done := by
    intro X hP hw hK hc i pins s σ H E I hf st hg
    subst hP hw hK
    obtain ⟨hH, hi⟩ := hg
    obtain ⟨vs, rel, hat⟩ := dk_at (I.hok d _ hH) hdat
    have hl : kvs.length = vs.length := rel.length
    obtain ⟨f0, f1, f2, f3, f4, f5⟩ := hf it (by simp)
    rw [hl] at st
    exact wpAny_pyNext_dict_end (I.ok.hd hc) st hat (List.getElem?_eq_none (by omega)) fun h' eb => ⟨rfl, I.turned (t' := s.toks) (fun b o hb e => eb b o hb e) f0 f1 f3 f4 f5⟩
  self := fun _ _ _ _ _ st h => wpAny_pyIter_keyiter st h
def iDict (td : TE) : TI := fun σ H R => td σ H fun x H1 => ∃ d kvs, x = .ref d ∧ H1 d = some (.dK kvs) ∧ ∀ o, R (Itd d o kvs) (upd H1 d (.frz o (.dK kvs)))
theorem pi_dict {tg l : Expr} {tl : TE} (hl : PE X l tl) : PI X tg l (iDict tl) := by
  intro pins s σ H R I h
  refine thn (hl pins s σ H _ I h) fun v s1 ⟨x, H1, I1, r1, q1⟩ => ?_
  obtain ⟨d, kvs, e, hH, q⟩ := q1
  subst e
  cases r1
  obtain ⟨_, hsm, vs, rel, o, es, ep, ho, hc, hdat, rr⟩ := (show ObjOk X.prog X.w H1 s1.heap d (.dK kvs) from I1.hok d _ hH)
  have hat : s1.heap.DictAt (mixKind X.prog X.w) d vs ep := ⟨o, es, ho, hc, hdat, rr⟩
  have I2 := I1.freeze hH ho
  refine wpAny_pyIter_dict hsm hat ?_
  have hlen : kvs.length = vs.length := rel.length
  refine ⟨s1.heap.objs.size, [s1.heap.objs.size], _, _, _, rfl, I2.kept (t' := s1.toks) fun b o e => Heap.get?_push_of_some _ e, turn_dict d _ o kvs es ep hdat, ⟨_, Heap.get?_push_size _ rfl, rfl, by rw [hlen]; rfl⟩, fun b hb => ?_, q o⟩
  have e : b = s1.heap.objs.size := by simpa using hb
  subst e
  exact I2.fpOk (Nat.le_refl _) (I2.hok.fresh (Nat.le_refl _))
theorem for_dict {d : Addr} {o : Obj} {kvs : List (Key × V)} {g : TG} {tb : TS} {D : Ends} {σ : St} {H : Hp} (Pv : Nat → St → Hp → Prop) (h0 : Pv 0 σ H) (hl : ∀ i σ H, i ≤ kvs.length → Pv i σ H → H d = some (.frz o (.dK kvs)))
    (hs : ∀ i k v σ H, kvs[i]? = some (k, v) → Pv i σ H → g (kV k) σ H fun σ2 H2 => tb { D with nx := Pv (i + 1), ct := Pv (i + 1), bk := D.nx } σ2 H2) (hd : ∀ σ H, Pv kvs.length σ H → D.nx σ H) :
    ∃ W : Nat → Nat → St → Hp → Prop, (∃ m, W 0 m σ H) ∧ ∀ i m σ H, W i m σ H →
      ((Itd d o kvs).stop i H ∧ D.nx σ H) ∨ ((Itd d o kvs).go i H ∧ ∃ N : St → Hp → Prop, (∀ σ' H', N σ' H' → ∃ m', m' < m ∧ W (i + 1) m' σ' H') ∧ ∀ x H', (Itd d o kvs).yld i H x H' → g x σ H' fun σ2 H2 => tb { D with nx := N, ct := N, bk := D.nx } σ2 H2) := by
  refine ⟨fun i m σ H => m = kvs.length - i ∧ i ≤ kvs.length ∧ Pv i σ H, ⟨kvs.length, by simp, Nat.zero_le _, h0⟩, ?_⟩
  rintro i m σ H ⟨rfl, hi, p⟩
  have q := hl i σ H hi p
  by_cases hlt : i < kvs.length
  · refine .inr ⟨⟨q, hlt⟩, Pv (i + 1), fun σ' H' p' => ⟨kvs.length - (i + 1), by omega, rfl, hlt, p'⟩, fun x H' y => ?_⟩
    obtain ⟨e, k, v, y1, y2⟩ := y
    subst e y2
    exact hs i k v σ _ y1 p
  · have e : i = kvs.length := by omega
    subst e
    exact .inl ⟨⟨q, Nat.le_refl _⟩, hd σ H p⟩
theorem meets_setdefault_pairs {prog : Program} {w : World} {κ : Type} [DecidableEq κ] (knd : KeyKind prog w κ) {k : κ} {key : Value} (d : Addr) (hkey : knd.is k key = true) (hd : (d == sysModules) = false) (dflt : Value) :
    MeetsIn prog w (Builtin.«dict.setdefault» ⟨[.ref d, key, dflt], []⟩) (fun _ R s => ∃ kvs, s.heap.DictOf knd d kvs ∧ kvs.length ≤ sizeLine ∧
      (∀ v, valueAt kvs k = some v → R (.ok (.ret v)) { s with toks := s.toks + 1 }) ∧
      (valueAt kvs k = none → ∀ h', h'.DictOf knd d (kvs ++ [(k, dflt)]) → Heap.SameBut d s.heap h' → R (.ok (.ret dflt)) { s with heap := h', toks := s.toks + 1 })) :=
  .of_wp fun A R s ⟨kvs, hm, hz, h1, h2⟩ => by
    unfold Builtin.«dict.setdefault»
    refine wpAny_bind ?_
    unfold Builtin.Dict.keyAndDefault
    refine wpAny_bind (wpAny_notOrdered_dict hm.typeIs ?_)
    show wpAny _ _ (pure (d, key, some dflt)) _ _ s
    refine wpAny_pure ?_
    show wpAny _ _ (if (d == sysModules) = true then _ else (dictSetDefault d key dflt >>= _)) _ _ s
    rw [if_neg (by rw [hd]; exact Bool.false_ne_true)]
    obtain ⟨o, es, ep, ho, hc, hdat, hk, hp, hn⟩ := id hm
    have hes : es.size ≤ sizeLine := by
      have e1 := hp.length
      have e2 : es.toList.length = es.size := by simp
      omega
    have hf := hm.mapOf
    refine wpAny_bind ?_
    unfold dictSetDefault
    try with_reducible refine wpAny_holding ?_
    refine wpAny_bind (knd.pyHash hkey ?_)
    refine wpAny_bind (wpAny_dictFind_of (s := { s with toks := s.toks + 1 }) hkey ho hdat hk ?_)
    have hidx : (es.findIdx? fun e => knd.is k e.key) = kvs.findIdx? fun kv => decide (kv.1 = k) := by
      rw [← hp.findIdx k]; obtain ⟨l⟩ := es; simp
    have hfb : findBy knd.is es k = valueAt kvs k := by
      rw [← hp.find k]
      obtain ⟨l⟩ := es
      simp [findBy]
    rw [findBy_of_findIdx?] at hfb
    cases hi : es.findIdx? fun e => knd.is k e.key with
    | some i =>
      refine wpAny_bind (wpAny_dictEntries (s := { s with toks := s.toks + 1 }) ho hdat ?_)
      cases he : es[i]? with
      | none =>
        exfalso
        have := Array.findIdx?_eq_some_iff_findIdx_eq.mp hi
        have hlt : i < es.size := this.1
        rw [Array.getElem?_eq_getElem hlt] at he
        exact nomatch he
      | some e =>
        refine wpAny_bind (wpAny_rule (wpAny_pure (wpAny_pure ⟨e.val, rfl, h1 e.val ?_⟩)))
        rw [hi] at hfb
        rw [← hfb]
        show Option.map _ es[i]? = _
        rw [he]; rfl
    | none =>
      have hnot : k ∉ kvs.map (·.1) := not_mem_of_findIdx_none (hidx ▸ hi)
      have hnone : valueAt kvs k = none := by rw [hi] at hfb; exact hfb.symm
      refine wpAny_bind (wpAny_rule (wpAny_bind (wpAny_updateDictKeys (hz := hes) (s := { s with toks := s.toks + 1 }) ho hdat (wpAny_pure (wpAny_pure ⟨dflt, rfl, h2 hnone _ ⟨_, _, ep + 1, Heap.get?_update_self _ ho (Obj.isFreed_of_dict (Obj.data_mapDictKeys hdat _)),
        hc.mapDictKeys _, Obj.data_mapDictKeys hdat _, hk.push hkey _, ?_, ?_⟩ (Heap.SameBut.update ..)⟩)))))
      · have := hp.append hkey (knd.hash k) dflt
        obtain ⟨l⟩ := es
        simpa using this
      · rw [List.map_append, List.nodup_append]
        refine ⟨hn, by simp, ?_⟩
        intro a ha b hb
        simp only [List.map_cons, List.map_nil, List.mem_singleton] at hb
        subst hb
        exact fun e => hnot (e ▸ ha)
def rSetDef : V → List V → Hp → VK → Prop := fun x vs H Q => ∃ (d : Addr) (kvs : List (Key × V)) (k : Key) (y : V), x = .ref d ∧ vs = [kV k, y] ∧ H d = some (.dK kvs) ∧ kvs.length < sizeLine ∧
  (∀ v, valV kvs k = some v → Q v H) ∧ (valV kvs k = none → Q y (upd H d (.dK (kvs ++ [(k, y)]))))
theorem mt_setdef : MtM X "dict.setdefault" rSetDef := by
  intro pins s σ H x vs v us Q I rx rv h
  obtain ⟨d, kvs, k, y, rfl, rfl, hH, hlen, q1, q2⟩ := h
  cases rx
  cases rv with
  | cons rk rr =>
    cases rr with
    | cons ry rn =>
      cases rn
      obtain ⟨z, hd, ws, rel, dd⟩ := dk_of I.hok hH
      refine call_meetsIn PySem.F.slot_dict_setdefault dd.typeIs PySem.F.entry_dict_setdefault (PySem.F.args_dict_setdefault_3 _ _ _) (meets_setdefault_pairs (mixKind X.prog X.w) d (kV_is rk) hd _)
        ⟨ws, dd, by rw [← rel.length]; exact z, fun u hu => ?_, fun hn h' dd' hs => ?_⟩
      · have := rel.val k
        rw [hu] at this
        cases hv : valV kvs k with
        | none => rw [hv] at this; cases this
        | some v =>
          rw [hv] at this
          exact ⟨v, H, I.tok _, this, q1 v hv⟩
      · have hvn : valV kvs k = none := by
          have := rel.val k
          rw [hn] at this
          cases hv : valV kvs k with
          | none => rfl
          | some v => rw [hv] at this; cases this
        have he : ∃ q, h'.get? d = some q := let ⟨q, _, _, hq, _⟩ := dd'; ⟨q, hq⟩
        have rel' := rel.put k ry
        have hany : ¬ (ws.any fun kv => decide (kv.1 = k)) = true := by
          rw [List.any_eq_true]
          rintro ⟨kv, hkv, hek⟩
          unfold valueAt at hn
          cases hf : ws.find? (fun kv => decide (kv.1 = k)) with
          | none => exact List.find?_eq_none.mp hf kv hkv hek
          | some y => rw [hf] at hn; cases hn
        rw [putK_new y hvn, stored, if_neg hany] at rel'
        exact ⟨y, _, d_write I (by rw [hH]; exact True.intro) hs he (dk_new (by rw [List.length_append]; exact hlen) hd rel' dd'), ry, q2 hvn⟩
theorem pe_setdef {o e f : Expr} {to : TE} {t : TA} {apos pos : Pos} (ho : PE X o to) (ha : PA X [e, f] t)
    (hbase : attributeBase o "setdefault" X.env (eval o X.env) = eval o X.env := by rfl)
    (hfew : ((backTo pos (starEach [e, f] X.env)).all (fun x => !x.1) && (backToKw pos (keywordEach [] X.env)).all (fun x => x.1.isSome)
      && decide ([e, f].length + ([] : List Keyword).length + (if ([] : List Keyword).isEmpty then 0 else 1) < 30)) = true := by rfl)
    (hline : (apos.endLine == pos.line) = true := by rfl) (hs : starEach [e, f] X.env = (false, eval e X.env) :: starEach [f] X.env := by rfl) (hplain : (backTo pos (starEach [f] X.env)).any (·.1) = false := by rfl) :
    PE X (.Call (.Attribute o "setdefault" apos) [e, f] [] pos) (tBM X.K "dict" rSetDef to t) :=
  pe_bm PySem.F.plainAttrs_dict PySem.F.slot_dict_setdefault PySem.F.type_dict_setdefault mt_setdef ho ha hbase hfew hline hs hplain
def rCount : V → List V → Hp → VK → Prop := fun x vs H Q => ∃ (l : Addr) (ns : List Int) (v : Int), x = .ref l ∧ vs = [.int v] ∧ H l = some (.lst (ns.map V.int)) ∧ Q (.int ((ns.countP fun i => decide (i = v) : Nat) : Int)) H
theorem mt_count : MtM X "list.count" rCount := by
  intro pins s σ H x vs v us Q I rx rv h
  obtain ⟨l, ns, k, rfl, rfl, hH, q⟩ := h
  cases rx
  obtain ⟨u, rfl, t, rfl⟩ := rv.one
  obtain ⟨z, its, n, r, hl, e⟩ := I.lstM hH
  refine call_meets F.slot_list_count ⟨_, e, rfl⟩ F.entry_list_count (F.args_list_count_2 _ _)
    (SeqAt.list_countAt l its.toArray n none #[] (.int k t) (eqU (.int k))) ⟨e, fun y hy => ?_, ?_⟩
  · exact mem_eqAt (x := .int k) ⟨t, rfl⟩ rfl r (by rw [List.all_eq_true]; intro y hy; obtain ⟨i, _, rfl⟩ := List.mem_map.mp hy; rfl) y (by simpa using hy)
  · have cnt : ∀ (ms : List Int) (us : List Value), Vals (ms.map V.int) us → us.countP (eqU (.int k)) = ms.countP fun i => decide (i = k) := by
      intro ms
      induction ms with
      | nil => intro us h; rw [List.map_nil] at h; cases h; rfl
      | cons m ms ih =>
        intro us h
        rw [List.map_cons] at h
        cases h with
        | cons h1 h2 =>
          obtain ⟨t', rfl⟩ := h1
          rw [List.countP_cons, List.countP_cons, ih _ h2, eqU_of (y := .int m) ⟨t', rfl⟩ rfl]
          congr 1
    rw [show its.toArray.toList.countP (eqU (.int k)) = ns.countP fun i => decide (i = k) from cnt ns its r]
    exact ⟨.int _, H, I.tok _, ⟨_, rfl⟩, q⟩
theorem pe_count {o e : Expr} {to : TE} {t : TA} {apos pos : Pos} (ho : PE X o to) (ha : PA X [e] t)
    (hbase : attributeBase o "count" X.env (eval o X.env) = eval o X.env := by rfl)
    (hfew : ((backTo pos (starEach [e] X.env)).all (fun x => !x.1) && (backToKw pos (keywordEach [] X.env)).all (fun x => x.1.isSome)
      && decide ([e].length + ([] : List Keyword).length + (if ([] : List Keyword).isEmpty then 0 else 1) < 30)) = true := by rfl)
    (hline : (apos.endLine == pos.line) = true := by rfl) (hs : starEach [e] X.env = (false, eval e X.env) :: starEach [] X.env := by rfl) (hplain : (backTo pos (starEach [] X.env)).any (·.1) = false := by rfl) :
    PE X (.Call (.Attribute o "count" apos) [e] [] pos) (tBM X.K "list" rCount to t) :=
  pe_bm PySem.F.plainAttrs_list PySem.F.slot_list_count PySem.F.type_list_count mt_count ho ha hbase hfew hline hs hplain
theorem boot_intB : bootBuiltins "int" = some (.type "int") := by decide +kernel
theorem call_intB : CallR X (.type "int") (fun xs H Q => ∃ b, xs = [.bl b] ∧ Q (.int (if b then 1 else 0)) H) := by
  intro pins s σ H xs us Q I r h
  obtain ⟨b, rfl, q⟩ := h
  obtain ⟨u, rfl, rx⟩ := vals1 r
  cases rx
  exact call_int_bool ⟨.int _, H, I.tok _, ⟨_, rfl⟩, q⟩
theorem pe_intB {e : Expr} {t : TA} {p pos : Pos} (hm : X.mg "int" = none) (ha : PA X [e] t) (hg : Gl X "int" := by rfl) (he : starEach [e] X.env = (false, eval e X.env) :: starEach [] X.env := by rfl) :
    PE X (.Call (.Name "int" p) [e] [] pos) (tCB (fun xs H Q => ∃ b, xs = [.bl b] ∧ Q (.int (if b then 1 else 0)) H) t) :=
  pe_callTy call_intB hg hm boot_intB ha (by decide) (by decide) he rfl
end
theorem cut_mid (xs : List V) (k j : Nat) (h : k ≤ xs.length) : cutV xs (some (k : Int)) (some (j : Int)) = (xs.drop k).take (min j xs.length - k) := by
  unfold cutV
  rw [HT.sIx_nat, HT.sIx_nat, Nat.min_eq_left h]
end L2
namespace Mth
def facL (l : Nat) : Nat → Nat
  | 0 => 1
  | c + 1 => facL l c * l * (c + 1)
def prodF (f : Nat → Nat) : List Nat → Nat
  | [] => 1
  | x :: xs => f x * prodF f xs
theorem prodF_app (f : Nat → Nat) : ∀ xs ys, prodF f (xs ++ ys) = prodF f xs * prodF f ys
  | [], ys => by rw [List.nil_append]; exact (Nat.one_mul _).symm
  | x :: xs, ys => by
    show f x * prodF f (xs ++ ys) = f x * prodF f xs * prodF f ys
    rw [prodF_app f xs ys, Nat.mul_assoc]
theorem prodF_snoc (f : Nat → Nat) (xs : List Nat) (x : Nat) : prodF f (xs ++ [x]) = prodF f xs * f x := by
  rw [prodF_app]
  show prodF f xs * (f x * 1) = _
  rw [Nat.mul_one]
theorem prodF_perm {f : Nat → Nat} {xs ys : List Nat} (h : xs.Perm ys) : prodF f xs = prodF f ys := by
  induction h with
  | nil => rfl
  | cons x _ ih => show f x * prodF f _ = f x * prodF f _; rw [ih]
  | swap x y l => show f y * (f x * prodF f l) = f x * (f y * prodF f l); rw [← Nat.mul_assoc, Nat.mul_comm (f y), Nat.mul_assoc]
  | trans _ _ i1 i2 => rw [i1, i2]
theorem prodF_ones {f : Nat → Nat} : ∀ {us : List Nat}, (∀ u ∈ us, f u = 1) → prodF f us = 1
  | [], _ => rfl
  | u :: us, h => by
    show f u * prodF f us = 1
    rw [h u List.mem_cons_self, prodF_ones fun x hx => h x (List.mem_cons_of_mem _ hx)]
theorem prodF_sub {f : Nat → Nat} : ∀ {ks us : List Nat}, ks.Nodup → us.Nodup → (∀ k ∈ ks, k ∈ us) → (∀ u ∈ us, u ∉ ks → f u = 1) → prodF f ks = prodF f us
  | [], us, _, _, _, h => (prodF_ones fun u hu => h u hu (by simp)).symm
  | k :: ks, us, nk, nu, sub, h => by
    obtain ⟨nk1, nk2⟩ := List.nodup_cons.mp nk
    have hk : k ∈ us := sub k List.mem_cons_self
    rw [prodF_perm (List.perm_cons_erase hk)]
    show f k * prodF f ks = f k * prodF f (us.erase k)
    have ih : prodF f ks = prodF f (us.erase k) := by
      refine prodF_sub nk2 (nu.erase k) (fun x hx => ?_) fun u hu hn => ?_
      · have hxk : x ≠ k := fun e => nk1 (by rw [← e]; exact hx)
        exact (List.mem_erase_of_ne hxk).mpr (sub x (List.mem_cons_of_mem _ hx))
      · obtain ⟨h1, h2⟩ := (List.Nodup.mem_erase_iff nu).mp hu
        refine h u h2 fun z => ?_
        rcases List.mem_cons.mp z with e | e
        · exact h1 e
        · exact hn e
    rw [ih]
def cntL (rs : List (List Int)) (l : Nat) : Nat := rs.countP fun r => decide (r.length = l)
theorem count_flat {g : Int → Nat} {l : Nat} : ∀ {rs : List (List Int)}, (∀ r ∈ rs, ∀ x ∈ r, g x = r.length) → (rs.flatten.countP fun x => decide (g x = l)) = l * cntL rs l
  | [], _ => by simp [cntL]
  | r :: rs, h => by
    have ih := count_flat (l := l) (rs := rs) fun q hq => h q (List.mem_cons_of_mem _ hq)
    rw [List.flatten_cons, List.countP_append, ih]
    unfold cntL
    rw [List.countP_cons]
    have hr := h r List.mem_cons_self
    by_cases e : r.length = l
    · have : (r.countP fun x => decide (g x = l)) = r.length := List.countP_eq_length.mpr fun x hx => by rw [hr x hx]; exact decide_eq_true e
      rw [this, e]
      simp only [decide_true, if_true]
      rw [Nat.mul_add, Nat.mul_one, Nat.add_comm]
    · have : (r.countP fun x => decide (g x = l)) = 0 := List.countP_eq_zero.mpr fun x hx => by rw [hr x hx]; simpa using e
      rw [this]
      simp [e]
theorem per_len {p : List Int} (t : IsT p) {rs : List (List Int)} (up : RingsUp p p.length rs) : ∀ r ∈ rs, ∀ x ∈ r, perOf p x = r.length := by
  intro r hr x hx
  obtain ⟨y, L, hy, pr, er, _⟩ := up.ring r hr
  subst er
  obtain ⟨j, hj, rfl⟩ := mem_ringL.mp hx
  rw [ringL_len]
  exact perOf_eq (pr.shift t hy j)
theorem count_per {p : List Int} (t : IsT p) {rs : List (List Int)} (up : RingsUp p p.length rs) (l : Nat) : ((((List.range p.length).map fun (i : Nat) => (perOf p (i : Int) : Int))).countP fun i => decide (i = (l : Int))) = l * cntL rs l := by
  rw [← count_flat (per_len t up)]
  rw [(up_flat t up).countP_eq, List.countP_map]
  unfold L2.upTo
  rw [List.countP_map]
  refine List.countP_congr fun i hi => ?_
  simp
  constructor <;> intro h <;> omega
theorem cnt_pos {rs : List (List Int)} {l : Nat} (h : cntL rs l ≠ 0) : ∃ r ∈ rs, r.length = l := by
  unfold cntL at h
  obtain ⟨r, hr, e⟩ := List.countP_pos_iff.mp (Nat.pos_of_ne_zero h)
  exact ⟨r, hr, of_decide_eq_true e⟩
theorem past_same {p : List Int} (t : IsT p) {rs : List (List Int)} (up : RingsUp p p.length rs) {ks : List Nat} (nk : ks.Nodup) (h1 : ∀ k ∈ ks, ∃ r ∈ rs, r.length = k) (h2 : ∀ r ∈ rs, r.length ∈ ks) {g : Nat → Nat} (hg : ∀ l, g (l + 1) = facL (l + 1) (cntL rs (l + 1))) :
    prodF (fun l => facL l (cntL rs l)) ks = prodF g ((List.range p.length).map (· + 1)) := by
  have e : prodF g ((List.range p.length).map (· + 1)) = prodF (fun l => facL l (cntL rs l)) ((List.range p.length).map (· + 1)) := by
    induction List.range p.length with
    | nil => rfl
    | cons x xs ih =>
      show g (x + 1) * prodF g (xs.map (· + 1)) = facL (x + 1) (cntL rs (x + 1)) * prodF _ (xs.map (· + 1))
      rw [ih, hg]
  rw [e]
  refine prodF_sub nk ?_ (fun k hk => ?_) fun u hu hn => ?_
  · exact List.Pairwise.map (fun x : Nat => x + 1) (fun a b h => by omega) (List.nodup_range (n := p.length))
  · obtain ⟨r, hr, rfl⟩ := h1 k hk
    obtain ⟨y, L, hy, pr, er, _⟩ := up.ring r hr
    have b := ring_bound t hy (m := L) fun i i0 i1 => pr.least i i0 i1
    have := pr.pos
    rw [er, ringL_len]
    exact List.mem_map.mpr ⟨L - 1, List.mem_range.mpr (by omega), by omega⟩
  · have : cntL rs u = 0 := by
      by_cases z : cntL rs u = 0
      · exact z
      · obtain ⟨r, hr, rfl⟩ := cnt_pos z
        exact absurd (h2 r hr) hn
    show facL u (cntL rs u) = 1
    rw [this]; rfl
end Mth
namespace Mth
structure IsLR (l m d : Nat) : Prop where
  parts : d ∣ m
  rest : Nat.gcd l (m / d) = 1
  least : ∀ e, e ∣ m → Nat.gcd l (m / e) = 1 → d ∣ e
theorem IsLR.uniq {l m a b : Nat} (x : IsLR l m a) (y : IsLR l m b) : a = b := Nat.dvd_antisymm (x.least b y.parts y.rest) (y.least a x.parts x.rest)
theorem IsLR.pos {l m d : Nat} (x : IsLR l m d) (hm : 0 < m) : 0 < d := by
  rcases Nat.eq_zero_or_pos d with z | z
  · have := x.parts
    rw [z] at this
    have := Nat.zero_dvd.mp this
    omega
  · exact z
structure LrUp (l m d : Nat) : Prop where
  pos : 0 < d
  parts : d ∣ m
  least : ∀ e, e ∣ m → Nat.gcd l (m / e) = 1 → d ∣ e
theorem LrUp.start (l m : Nat) : LrUp l m 1 := ⟨by decide, Nat.one_dvd m, fun e _ _ => Nat.one_dvd e⟩
theorem LrUp.step {l m d : Nat} (hm : 0 < m) (u : LrUp l m d) : LrUp l m (d * Nat.gcd l (m / d)) := by
  obtain ⟨k, rfl⟩ := u.parts
  have dp := u.pos
  rw [Nat.mul_div_cancel_left k dp]
  have kp : 0 < k := Nat.pos_of_mul_pos_left hm |> fun h => by
    rcases Nat.eq_zero_or_pos k with z | z
    · rw [z, Nat.mul_zero] at hm; omega
    · exact z
  refine ⟨Nat.mul_pos dp (Nat.gcd_pos_of_pos_right _ kp), Nat.mul_dvd_mul_left d (Nat.gcd_dvd_right l k), fun e he hr => ?_⟩
  obtain ⟨f, rfl⟩ := u.least e he hr
  have hfk : f ∣ k := Nat.dvd_of_mul_dvd_mul_left dp he
  obtain ⟨g, rfl⟩ := hfk
  have fp : 0 < f := by
    rcases Nat.eq_zero_or_pos f with z | z
    · rw [z, Nat.zero_mul] at kp; omega
    · exact z
  have e1 : d * (f * g) / (d * f) = g := by
    rw [← Nat.mul_assoc, Nat.mul_div_cancel_left g (Nat.mul_pos dp fp)]
  rw [e1] at hr
  refine Nat.mul_dvd_mul_left d ?_
  have c : Nat.Coprime (Nat.gcd l (f * g)) g := by
    have : Nat.Coprime l g := hr
    exact Nat.Coprime.coprime_dvd_left (Nat.gcd_dvd_left l (f * g)) this
  exact c.dvd_of_dvd_mul_right (Nat.gcd_dvd_right l (f * g))
theorem LrUp.done {l m d : Nat} (u : LrUp l m d) (h : Nat.gcd l (m / d) = 1) : IsLR l m d := ⟨u.parts, h, u.least⟩
theorem LrUp.more {l m d : Nat} (hm : 0 < m) (u : LrUp l m d) (h : Nat.gcd l (m / d) ≠ 1) : d < d * Nat.gcd l (m / d) ∧ d * Nat.gcd l (m / d) ≤ m := by
  have kp : 0 < m / d := Nat.div_pos (Nat.le_of_dvd hm u.parts) u.pos
  have gp : 0 < Nat.gcd l (m / d) := Nat.gcd_pos_of_pos_right _ kp
  have dp := u.pos
  refine ⟨?_, Nat.le_of_dvd hm (u.step hm).parts⟩
  have : 2 ≤ Nat.gcd l (m / d) := by omega
  calc d < d * 2 := by omega
    _ ≤ d * Nat.gcd l (m / d) := Nat.mul_le_mul_left d this
def posJ (d l k lane step : Nat) : Nat := lane + d * ((step * k) % l)
theorem mod_lane {d l x lane : Nat} (hl : lane < d) (h : 0 < l) : (lane + d * x) % (d * l) = lane + d * (x % l) := by
  have e : lane + d * x = (lane + d * (x % l)) + (d * l) * (x / l) := by
    have := Nat.mod_add_div x l
    calc lane + d * x = lane + d * (x % l + l * (x / l)) := by rw [this]
      _ = (lane + d * (x % l)) + (d * l) * (x / l) := by rw [Nat.mul_add, ← Nat.mul_assoc, Nat.add_assoc]
  rw [e, Nat.add_mul_mod_self_left]
  refine Nat.mod_eq_of_lt ?_
  have hx : x % l + 1 ≤ l := Nat.mod_lt _ h
  calc lane + d * (x % l) < d + d * (x % l) := by omega
    _ = d * (x % l + 1) := by rw [Nat.mul_add, Nat.mul_one, Nat.add_comm]
    _ ≤ d * l := Nat.mul_le_mul_left d hx
theorem posJ_eq {d l k lane step : Nat} (hl : lane < d) (h : 0 < l) : (lane + step * (d * k)) % (d * l) = posJ d l k lane step := by
  have e : step * (d * k) = d * (step * k) := by rw [← Nat.mul_assoc, Nat.mul_comm step d, Nat.mul_assoc]
  rw [e, mod_lane hl h]; rfl
theorem posJ_lt {d l k lane step : Nat} (hl : lane < d) (h : 0 < l) : posJ d l k lane step < d * l := by
  rw [← posJ_eq (k := k) hl h]
  exact Nat.mod_lt _ (Nat.mul_pos (by omega) h)
theorem posJ_inj {d l k a b x y : Nat} (ha : a < d) (hb : b < d) (hx : x < l) (hy : y < l) (c : Nat.gcd l k = 1) (h : posJ d l k a x = posJ d l k b y) : a = b ∧ x = y := by
  unfold posJ at h
  have dp : 0 < d := by omega
  have h1 : a = b := by
    have e1 : (a + d * ((x * k) % l)) % d = a := by rw [Nat.add_mul_mod_self_left]; exact Nat.mod_eq_of_lt ha
    have e2 : (b + d * ((y * k) % l)) % d = b := by rw [Nat.add_mul_mod_self_left]; exact Nat.mod_eq_of_lt hb
    rw [← e1, ← e2, h]
  subst h1
  have h2 : (x * k) % l = (y * k) % l := Nat.eq_of_mul_eq_mul_left dp (by omega)
  refine ⟨rfl, ?_⟩
  have key : ∀ u v, u ≤ v → v < l → (u * k) % l = (v * k) % l → u = v := fun u v huv hv e => by
    have d1 : l ∣ v * k - u * k := Nat.dvd_of_mod_eq_zero (Nat.sub_mod_eq_zero_of_mod_eq e.symm)
    rw [← Nat.sub_mul] at d1
    have d2 : l ∣ v - u := Nat.Coprime.dvd_of_dvd_mul_right c d1
    rcases Nat.eq_zero_or_pos (v - u) with z | z
    · omega
    · have := Nat.le_of_dvd z d2
      omega
  rcases Nat.le_total x y with z | z
  · exact key x y z hy h2
  · exact (key y x z hx h2.symm).symm
theorem posJ_next {d l k lane step : Nat} (hl : lane < d) (h : 0 < l) : (posJ d l k lane step + d * k) % (d * l) = posJ d l k lane ((step + 1) % l) := by
  have e1 : posJ d l k lane step + d * k = lane + d * ((step * k) % l + k) := by
    unfold posJ
    rw [Nat.mul_add, Nat.add_assoc]
  rw [e1, mod_lane hl h]
  unfold posJ
  congr 2
  rw [Nat.mod_add_mod, ← Nat.succ_mul, Nat.mul_mod ((step + 1) % l), Nat.mod_mod, ← Nat.mul_mod]
end Mth
namespace Mth
theorem isT_of_back {r : List Int} (h1 : ∀ x, In r x → In r (nx r x)) (h2 : ∀ x, In r x → ∃ L, 0 < L ∧ it r L x = x) : IsT r := by
  refine isT_of_nx (fun x a b => h1 x ⟨a, b⟩) fun x y x0 x1 y0 y1 e => ?_
  obtain ⟨L, L0, hL⟩ := h2 x ⟨x0, x1⟩
  obtain ⟨M, M0, hM⟩ := h2 y ⟨y0, y1⟩
  have a1 := it_mul hL M
  have a2 := it_mul hM L
  rw [Nat.mul_comm] at a2
  have hp : 0 < L * M := Nat.mul_pos L0 M0
  obtain ⟨N, hN⟩ : ∃ N, L * M = N + 1 := ⟨L * M - 1, by omega⟩
  rw [hN, it_succ] at a1 a2
  rw [← a1, ← a2, e]
structure RoundOf (r J : List Int) : Prop where
  ne : J ≠ []
  nd : J.Nodup
  lo : ∀ x ∈ J, 0 ≤ x
  on : ∀ j, j < J.length → at0 r (J.getD j 0) = some (J.getD ((j + 1) % J.length) 0)
theorem RoundOf.in_ {r J : List Int} (h : RoundOf r J) {j : Nat} (hj : j < J.length) : In r (J.getD j 0) := by
  have := h.on j hj
  unfold at0 at this
  have h1 := (List.getElem?_eq_some_iff.mp this).1
  have h0 := h.lo (J.getD j 0) (by rw [getD_eq hj]; exact List.getElem_mem hj)
  exact ⟨h0, by omega⟩
theorem RoundOf.nx {r J : List Int} (h : RoundOf r J) {j : Nat} (hj : j < J.length) : nx r (J.getD j 0) = J.getD ((j + 1) % J.length) 0 := by
  have e := nx_at0 (h.in_ hj)
  rw [h.on j hj] at e
  exact (Option.some.inj e).symm
theorem RoundOf.it {r J : List Int} (h : RoundOf r J) {j : Nat} (hj : j < J.length) : ∀ i, it r i (J.getD j 0) = J.getD ((j + i) % J.length) 0
  | 0 => by rw [Nat.add_zero, Nat.mod_eq_of_lt hj]; rfl
  | i + 1 => by
    have hm : (j + i) % J.length < J.length := Nat.mod_lt _ (by omega)
    show Mth.nx r (Mth.it r i (J.getD j 0)) = _
    rw [h.it hj i, h.nx hm, Nat.mod_add_mod, Nat.add_assoc]
theorem RoundOf.per {r J : List Int} (h : RoundOf r J) {j : Nat} (hj : j < J.length) : Per r (J.getD j 0) J.length := by
  refine ⟨by omega, ?_, fun i i0 i1 e => ?_⟩
  · rw [h.it hj, Nat.add_mod_right, Nat.mod_eq_of_lt hj]
  · rw [h.it hj] at e
    have hm : (j + i) % J.length < J.length := Nat.mod_lt _ (by omega)
    have hne : (j + i) % J.length ≠ j := fun z => by
      rcases Nat.lt_or_ge (j + i) J.length with y | y
      · rw [Nat.mod_eq_of_lt y] at z; omega
      · have e2 : (j + i) % J.length = j + i - J.length := by
          rw [Nat.mod_eq_sub_mod y, Nat.mod_eq_of_lt (by omega)]
        omega
    exact nodup_getD h.nd hm hj hne e
def posL (d l k : Nat) : List Int := (List.range (d * l)).map fun i => ((posJ d l k (i / l) (i % l) : Nat) : Int)
theorem posL_len (d l k : Nat) : (posL d l k).length = d * l := by unfold posL; rw [List.length_map, List.length_range]
theorem lane_lt {d l i : Nat} (h : i < d * l) : i / l < d := by
  refine Nat.div_lt_of_lt_mul ?_
  rw [Nat.mul_comm]; exact h
theorem posL_isT {d l k : Nat} (hl : 0 < l) (c : Nat.gcd l k = 1) : IsT (posL d l k) := by
  refine ⟨?_, fun x hx => ?_, fun x hx => ?_⟩
  · unfold posL
    rw [List.nodup_iff_pairwise_ne, List.pairwise_map]
    refine List.Pairwise.imp_of_mem ?_ (List.nodup_iff_pairwise_ne.mp (List.nodup_range (n := d * l)))
    intro a b ha hb hne e
    have ha := List.mem_range.mp ha
    have hb := List.mem_range.mp hb
    have e' : posJ d l k (a / l) (a % l) = posJ d l k (b / l) (b % l) := by omega
    obtain ⟨h1, h2⟩ := posJ_inj (lane_lt ha) (lane_lt hb) (Nat.mod_lt _ hl) (Nat.mod_lt _ hl) c e'
    exact hne (by rw [← Nat.div_add_mod a l, ← Nat.div_add_mod b l, h1, h2])
  · obtain ⟨i, _, rfl⟩ := List.mem_map.mp hx
    omega
  · obtain ⟨i, hi, rfl⟩ := List.mem_map.mp hx
    rw [posL_len]
    have := posJ_lt (k := k) (step := i % l) (lane_lt (List.mem_range.mp hi)) hl
    omega
theorem flat_get {l : Nat} (hl : 0 < l) : ∀ {Rs : List (List Int)}, (∀ r ∈ Rs, r.length = l) → Rs.flatten.length = Rs.length * l ∧ ∀ a b, a < Rs.length → b < l → Rs.flatten[a * l + b]? = (Rs.getD a [])[b]?
  | [], _ => ⟨by simp, fun a b h => by simp at h⟩
  | r :: Rs, h => by
    have hr := h r List.mem_cons_self
    obtain ⟨i1, i2⟩ := flat_get hl (Rs := Rs) fun q hq => h q (List.mem_cons_of_mem _ hq)
    refine ⟨by rw [List.flatten_cons, List.length_append, i1, hr, List.length_cons, Nat.succ_mul, Nat.add_comm], fun a b ha hb => ?_⟩
    rw [List.flatten_cons]
    cases a with
    | zero =>
      rw [Nat.zero_mul, Nat.zero_add, List.getElem?_append_left (by omega)]
      rfl
    | succ a =>
      rw [Nat.succ_mul, List.getElem?_append_right (by omega), hr]
      have e : a * l + l + b - l = a * l + b := by omega
      rw [e, i2 a b (by simp only [List.length_cons] at ha; omega) hb]
      rfl
structure JoinIs (l k : Nat) (Rs : List (List Int)) (J : List Int) : Prop where
  len : J.length = Rs.length * l
  at_ : (posL Rs.length l k).map (at0 J) = Rs.flatten.map some
theorem JoinIs.perm {l k : Nat} {Rs : List (List Int)} {J : List Int} (hl : 0 < l) (c : Nat.gcd l k = 1) (h : JoinIs l k Rs J) : J.Perm Rs.flatten :=
  perm_along (posL_isT hl c) (by rw [posL_len]; exact h.len) h.at_
theorem JoinIs.get {l k : Nat} {Rs : List (List Int)} {J : List Int} (hl : 0 < l) (hr : ∀ r ∈ Rs, r.length = l) (h : JoinIs l k Rs J) {a b : Nat} (ha : a < Rs.length) (hb : b < l) : J.getD (posJ Rs.length l k a b) 0 = (Rs.getD a []).getD b 0 := by
  have hi : a * l + b < Rs.length * l := by
    calc a * l + b < a * l + l := by omega
      _ = (a + 1) * l := by rw [Nat.succ_mul]
      _ ≤ Rs.length * l := Nat.mul_le_mul_right l ha
  have e := congrArg (fun z : List (Option Int) => z[a * l + b]?) h.at_
  unfold posL at e
  rw [List.getElem?_map, List.getElem?_map, List.getElem?_range hi, List.getElem?_map, (flat_get hl hr).2 a b ha hb] at e
  have d1 : (a * l + b) / l = a := by
    rw [Nat.mul_comm, Nat.mul_add_div hl, Nat.div_eq_of_lt hb, Nat.add_zero]
  have d2 : (a * l + b) % l = b := by
    rw [Nat.mul_comm, Nat.mul_add_mod, Nat.mod_eq_of_lt hb]
  simp only [Option.map_some, d1, d2] at e
  have hra : (Rs.getD a []).length = l := by
    refine hr _ ?_
    rw [List.getD_eq_getElem?_getD, List.getElem?_eq_getElem ha]
    exact List.getElem_mem ha
  rw [List.getElem?_eq_getElem (by omega)] at e
  have e := Option.some.inj e
  have hp := posJ_lt (k := k) (step := b) ha hl
  rw [← h.len] at hp
  unfold at0 at e
  rw [Int.toNat_natCast, List.getElem?_eq_getElem hp] at e
  rw [List.getD_eq_getElem?_getD, List.getElem?_eq_getElem hp, List.getD_eq_getElem?_getD, List.getElem?_eq_getElem (show b < (Rs.getD a []).length by omega)]
  simpa using e
def InJoin (p : List Int) (m : Nat) (J : List Int) (x : Int) : Prop :=
  ∃ (l k : Nat) (Rs : List (List Int)) (a b : Nat) (y : Int), 0 < l ∧ m = Rs.length * k ∧ Nat.gcd l k = 1 ∧ (∀ r ∈ Rs, r.length = l) ∧ JoinIs l k Rs J ∧ a < Rs.length ∧ b < l ∧ In p y ∧ Per p y l ∧ Rs.getD a [] = ringL p y l ∧ x = it p b y
theorem root_is {p r : List Int} {m : Nat} {qs : List (List Int)} (tp : IsT p) (hlen : r.length = p.length) (hq : ∀ J ∈ qs, RoundOf r J) (hx : ∀ x, In p x → ∃ J ∈ qs, InJoin p m J x) : IsT r ∧ PowIs r (m : Int) p := by
  have at_ : ∀ x, In p x → ∃ J ∈ qs, ∃ j, j < J.length ∧ x = J.getD j 0 ∧ J.getD ((j + m) % J.length) 0 = nx p x := fun x hxi => by
    obtain ⟨J, hJ, l, k, Rs, a, b, y, l0, rfl, c, hr, hj, ha, hb, hy, py, er, rfl⟩ := hx x hxi
    refine ⟨J, hJ, posJ Rs.length l k a b, by rw [hj.len]; exact posJ_lt ha l0, ?_, ?_⟩
    · rw [hj.get l0 hr ha hb, er, ringL_getD hb]
    · rw [hj.len, posJ_next ha l0, hj.get l0 hr ha (Nat.mod_lt _ l0), er, ringL_getD (Nat.mod_lt _ l0), it_mod py.back]
      rfl
  have inr : ∀ x, In r x ↔ In p x := fun x => by unfold In; rw [hlen]
  have tr : IsT r := by
    refine isT_of_back (fun x h => ?_) fun x h => ?_
    · obtain ⟨J, hJ, j, hj, rfl, _⟩ := at_ x ((inr x).mp h)
      rw [(hq J hJ).nx hj]
      exact (hq J hJ).in_ (Nat.mod_lt _ (by omega))
    · obtain ⟨J, hJ, j, hj, rfl, _⟩ := at_ x ((inr x).mp h)
      have := (hq J hJ).per hj
      exact ⟨_, this.pos, this.back⟩
  refine ⟨tr, pow_of tr hlen.symm fun x h L hL => ?_⟩
  obtain ⟨J, hJ, j, hj, rfl, e⟩ := at_ x ((inr _).mp h)
  have hp := (hq J hJ).per hj
  have : L = J.length := hL.uniq hp
  subst this
  exact ⟨m, by simp, by rw [(hq J hJ).it hj, e]⟩
end Mth
namespace L2
open PySem PySem.Spec PyProof.Rows
theorem intsAre_at : ∀ {us : List Value} {ns : List Int}, us.length = ns.length → (∀ (j : Nat) i, ns[j]? = some i → ∃ t, us[j]? = some (.int i t)) → IntsAre us ns
  | [], [], _, _ => .nil
  | [], _ :: _, h, _ => by simp at h
  | _ :: _, [], h, _ => by simp at h
  | u :: us, n :: ns, h, hj => by
    obtain ⟨t, e⟩ := hj 0 n rfl
    have e : u = .int n t := Option.some.inj e
    subst e
    exact .cons n t (intsAre_at (by simpa using h) fun j i hi => hj (j + 1) i hi)
section
variable {prog : Program} {w : World} {A : Around} {E : Value → Shared → Prop} {s : Shared} {κ : Type} [DecidableEq κ] {knd : KeyKind prog w κ}
theorem collect_dict {d : Addr} {kvs : List (κ × Value)} {ep : Nat} {Q : List Value → Shared → Prop} (hh : A.handled = none) (hd : (d == sysModules) = false) (hm : s.heap.DictAt knd d kvs ep) (hn : kvs.length ≤ sizeLine)
    (hQ : ∀ (h' : Heap) (tk : Nat) (acc : Array Value), s.heap.objs.size ≤ h'.objs.size → (∀ b o, s.heap.get? b = some o → h'.get? b = some o) → acc.size = kvs.length → (∀ (j : Nat) v, acc[j]? = some v → ∃ k x, kvs[j]? = some (k, x) ∧ knd.is k v = true) → Q acc.toList { s with heap := h', toks := tk }) :
    wpAny (model prog w) A (collect (.ref d)) Q E s := by
  have hdS : s.heap.objs.size ≠ d := fun e => absurd (hm.lt_size) (by rw [e]; exact Nat.lt_irrefl _)
  unfold collect
  refine wpAny_bind (wpAny_runValue (codeAny_builtin F.entry_proto_collect ?_))
  rw [Around.under_plainId F.plain_proto_collect _]
  show wpAny _ A.in1 (newList [] >>= fun l => again (.builtin "list.__iadd__" ⟨[l, .ref d], []⟩)) _ _ s
  refine wpAny_bind (wpAny_newObj_type ?_)
  refine wpAny_pure ⟨plainId_quiet F.plain_list_iadd _, codeAny_builtin F.entry_list_iadd ?_⟩
  rw [Around.under_plainId F.plain_list_iadd _]
  have hm₁ := hm.push { cls := .type "list", data := .seq ([] : List Value).toArray }
  have hS₁ : (s.heap.push { cls := .type "list", data := .seq ([] : List Value).toArray }).get? s.heap.objs.size = some { cls := .type "list", data := .seq ([] : List Value).toArray } := Heap.get?_push_size _ rfl
  have h1 : Builtin.List.listSameRef (.ref s.heap.objs.size) (.ref d) = false := by simp [Builtin.List.listSameRef, hdS]
  have hT : ({ s with heap := s.heap.push { cls := .type "list", data := .seq ([] : List Value).toArray } } : Shared).TypeIs (.ref d) "dict" := hm₁.dictOf.typeIs
  show wpAny _ A.in1 (Builtin.List.listExtendWith (.ref s.heap.objs.size) (.ref d) (.ref s.heap.objs.size)) _ _ _
  unfold Builtin.List.listExtendWith
  refine wpAny_bind (wpAny_typeOf hT ?_)
  rw [if_neg (by rw [h1]; decide)]
  refine wpAny_bind (wpAny_pyIter_dict hd hm₁ ?_)
  generalize hh1 : s.heap.push { cls := .type "list", data := .seq ([] : List Value).toArray } = H1 at hm₁ hS₁ hT ⊢
  have hsz1 : H1.objs.size = s.heap.objs.size + 1 := by rw [← hh1, Heap.size_push]
  have hm₂ := hm₁.push { cls := .type "dict_keyiterator", data := .fields #[.ref d, .int 0 0, .int kvs.length 0, .int ep 0] }
  have hS₂ : (H1.push { cls := .type "dict_keyiterator", data := .fields #[.ref d, .int 0 0, .int kvs.length 0, .int ep 0] }).get? s.heap.objs.size = some { cls := .type "list", data := .seq ([] : List Value).toArray } := Heap.get?_push_of_some _ hS₁
  have hit : (H1.push { cls := .type "dict_keyiterator", data := .fields #[.ref d, .int 0 0, .int kvs.length 0, .int ep 0] }).IsKeyIter H1.objs.size d 0 kvs.length ep := ⟨_, Heap.get?_push_size _ rfl, rfl, rfl⟩
  have old2 : ∀ b o, s.heap.get? b = some o → (H1.push { cls := .type "dict_keyiterator", data := .fields #[.ref d, .int 0 0, .int kvs.length 0, .int ep 0] }).get? b = some o := fun b o e => Heap.get?_push_of_some _ (by rw [← hh1]; exact Heap.get?_push_of_some _ e)
  have hT₂ : ({ s with heap := H1.push { cls := .type "dict_keyiterator", data := .fields #[.ref d, .int 0 0, .int kvs.length 0, .int ep 0] } } : Shared).TypeIs (.ref d) "dict" := hm₂.dictOf.typeIs
  generalize (H1.push { cls := .type "dict_keyiterator", data := .fields #[.ref d, .int 0 0, .int kvs.length 0, .int ep 0] }) = H2 at hm₂ hS₂ hit old2 hT₂ ⊢
  have hIS : H1.objs.size ≠ s.heap.objs.size := by omega
  have hdI : d ≠ H1.objs.size := fun e => absurd (hm₁.lt_size) (by rw [e]; exact Nat.lt_irrefl _)
  have W := (Walks.dictKeys (prog := prog) (w := w) (A := A.in1) (knd := knd) hh H1.objs.size d hdI kvs ep).toS
  have hSf : s.heap.objs.size ∉ [H1.objs.size, d] := by
    intro hb
    rcases List.mem_cons.mp hb with e | e
    · exact hIS e.symm
    · have : s.heap.objs.size = d := by simpa using e
      exact hdS this
  refine wpAny_bind (wpAny_holding ?_)
  unfold Builtin.List.listLengthHint
  refine wpAny_bind (wpAny_specialOf hT₂ PySem.F.slot_dict_len.lookup ?_)
  (generalize hid : ("dict.__len__" : String) = id0; (fail_if_success (clear hid id0)); wp_delta; rw [show splitId id0 = some ("dict", "__len__") from by subst hid; decide +kernel]; subst hid)
  refine wpAny_bind (wpAny_isInstance (b := true) hT₂ (by rw [isSubtype_type]; kernel_rfl) ?_)
  rw [if_neg (by decide)]
  show wpAny _ A.in1 (typeOf (.ref d) >>= _) _ _ _
  refine wpAny_bind (wpAny_typeOf hT₂ ?_)
  refine wpAny_pure ?_
  show wpAny _ A.in1 (rule "list.extend.makes-room" >>= fun _ => Builtin.List.listTouch (.ref s.heap.objs.size) >>= fun _ =>
    again (.builtin "list.extend.loop" ⟨[.ref s.heap.objs.size, .ref H1.objs.size, .ref s.heap.objs.size], []⟩)) _ _ _
  refine wpAny_bind (wpAny_rule ?_)
  refine wpAny_bind ?_
  show wpAny _ A.in1 (updateSeq s.heap.objs.size (·.push .none) >>= fun _ => updateSeq s.heap.objs.size (·.pop)) _ _ _
  refine wpAny_bind (wpAny_updateSeq hS₂ rfl ?_)
  have hS₃ := Heap.get?_update_self (Obj.mapSeq (·.push Value.none)) hS₂ rfl
  refine wpAny_updateSeq hS₃ rfl ?_
  have hS₄ := Heap.get?_update_self (Obj.mapSeq (·.pop)) hS₃ rfl
  have oth : ∀ b o, b ≠ s.heap.objs.size → H2.get? b = some o → ((H2.update s.heap.objs.size (Obj.mapSeq (·.push Value.none))).update s.heap.objs.size (Obj.mapSeq (·.pop))).get? b = some o :=
    fun b o hb e => (Heap.get?_update_other _ _ (Ne.symm hb)).trans ((Heap.get?_update_other _ _ (Ne.symm hb)).trans e)
  refine wpAny_pure ⟨plainId_quiet F.plain_extend_loop _, codeAny_extend_loopS W hn _ hSf _ kvs.length 0 _ _ _ rfl (Nat.zero_le _)
    ⟨hit.at fun o e => oth _ o hIS e, hm₂.at' fun o e => oth _ o hdS.symm e⟩ hS₄ (ItemsOf.nil _) fun s' acc' c' hmv hS' hacc => ?_⟩
  show wpAny _ A (load s.heap.objs.size >>= _) _ _ s'
  refine wpAny_bind (wpAny_load hS' ?_)
  refine wpAny_pure ?_
  have es' : s' = { s with heap := s'.heap, toks := s'.toks } := by
    obtain ⟨h, g, dr, t, os⟩ := s'
    have a1 := hmv.gens
    have a2 := hmv.drawn
    have a3 := hmv.os
    dsimp only at a1 a2 a3
    rw [a1, a2, a3]
  rw [es']
  refine hQ s'.heap s'.toks acc' (Nat.le_of_lt (Heap.lt_size hS')) (fun b o e => ?_) hacc.1 hacc.2
  have hb : b < s.heap.objs.size := Heap.lt_size e
  have hbS : b ≠ s.heap.objs.size := Nat.ne_of_lt hb
  refine hmv.heap b o (fun hm => ?_) (oth b o hbS (old2 b o e))
  rcases List.mem_cons.mp hm with z | z
  · exact hbS z
  · have : b = H1.objs.size := by simpa using z
    rw [this, hsz1] at hb
    exact absurd hb (Nat.not_lt.mpr (Nat.le_succ _))
theorem sorted_dict {d : Addr} {kvs : List (κ × Value)} {ep : Nat} {ns : List Int} {Q : Value → Shared → Prop} (hh : A.handled = none) (hd : (d == sysModules) = false) (hm : s.heap.DictAt knd d kvs ep) (hI : ∀ acc : Array Value, acc.size = kvs.length → (∀ (j : Nat) v, acc[j]? = some v → ∃ k x, kvs[j]? = some (k, x) ∧ knd.is k v = true) → IntsAre acc.toList ns) (h64 : kvs.length < 64)
    (h : ∀ (h' : Heap) (tk : Nat) (a : Addr) (out : Array Value) (ns' : List Int) (e : Nat), s.heap.objs.size ≤ a → (∀ b o, s.heap.get? b = some o → h'.get? b = some o) → h'.get? a = some (seqObj "list" out e) → IntsAre out.toList ns' → ns'.Perm ns → ns'.Pairwise (· ≤ ·) → Q (.ref a) { s with heap := h', toks := tk }) :
    wpAny (model prog w) A (call (.builtin "sorted") [.ref d]) Q E s := by
  refine Calls.call_function_entry kind_sorted plain_sorted entry_sorted (args_sorted1 _) ?_
  unfold Builtin.«sorted»
  refine wpAny_bind (m := checkCount "sorted" 1 1 _) (wpAny_pure ?_)
  refine wpAny_bind (collect_dict hh hd hm (by rw [sizeLine_eq]; omega) fun h1 tk acc hle old hsz hit => ?_)
  have hInt := hI acc hsz hit
  refine wpAny_bind (wpAny_newList ?_ (hsz := by rw [Array.length_toList, hsz, sizeLine_eq]; omega))
  have hoL : (h1.push (seqObj "list" acc.toList.toArray 0)).get? h1.objs.size = some (seqObj "list" acc.toList.toArray 0) := Heap.get?_push_size _ rfl
  show wpAny _ _ _ _ _ { s with heap := h1.push (seqObj "list" acc.toList.toArray 0), toks := tk }
  refine wpAny_bind (wpAny_holding (wpAny_call_entry slot_list_sort ⟨_, hoL, rfl⟩ entry_list_sort (list_sort_tree hoL hInt (by rw [Array.length_toList, hsz]; exact h64) fun out ns' a1 a2 a3 => ⟨_, rfl, ?_⟩) (args_list_sort _)))
  refine wpAny_pure ⟨_, rfl, ?_⟩
  obtain ⟨e, he⟩ := sortedHeap_at (out := out) hoL
  refine h _ tk h1.objs.size out ns' e hle (fun b o e => ?_) he a1 a2 a3
  have hb1 := old b o e
  have hlt : b < h1.objs.size := Heap.lt_size hb1
  rw [sortedHeap_old (Nat.ne_of_lt hlt) (by rw [Heap.size_push]; exact Nat.lt_succ_of_lt hlt)]
  exact Heap.get?_push_of_some _ hb1
end
section
variable {X : Cx}
theorem laid_seq {pins : List (Addr × Obj)} {σ : St} {H : Hp} {s : Shared} (I : Inv X pins σ H s) {h' : Heap} {tk : Nat} {a : Addr} {out : Array Value} {ms : List Int} {e : Nat} (ha : s.heap.objs.size ≤ a) (k : ∀ b o, s.heap.get? b = some o → h'.get? b = some o) (he : h'.get? a = some (seqObj "list" out e)) (hi : IntsAre out.toList ms) (hl : ms.length ≤ sizeLine) :
    Inv X pins σ (upd H a (.lst (ms.map V.int))) { s with heap := h', toks := tk } :=
  I.laid (t' := tk) k ha (show ObjOk X.prog X.w _ _ _ (.lst (ms.map V.int)) from ⟨by rw [List.length_map]; exact hl, out.toList, e, vals_ints hi, he⟩)
theorem call_sortedD (hc : X.calm = true) : CallR X (.builtin "sorted") (fun xs H Q => ∃ (d : Addr) (kvs : List (Key × V)) (ns : List Int), xs = [.ref d] ∧ H d = some (.dK kvs) ∧ kvs.map (·.1) = ns.map Sum.inl ∧ ns.length < 64 ∧ ∀ (ms : List Int) l, ms.Perm ns → ms.Pairwise (· ≤ ·) → H l = none → Q (.ref l) (upd H l (.lst (ms.map V.int)))) := by
  intro pins s σ H xs us Q I r h
  obtain ⟨d, kvs, ns, rfl, hH, hk, h64, q⟩ := h
  obtain ⟨u, rfl, rx⟩ := vals1 r
  cases rx
  obtain ⟨_, hsm, vs, rel, o, es, ep, ho, hcx, hdat, rr⟩ := (show ObjOk X.prog X.w H s.heap d (.dK kvs) from I.hok d _ hH)
  have hat : s.heap.DictAt (mixKind X.prog X.w) d vs ep := ⟨o, es, ho, hcx, hdat, rr⟩
  have hlen : kvs.length = vs.length := rel.length
  have hkn : kvs.length = ns.length := by have := congrArg List.length hk; rw [List.length_map, List.length_map] at this; exact this
  refine sorted_dict (ns := ns) (I.ok.hd hc) hsm hat (fun acc hsz hit => ?_) (by omega) fun h' tk a out ms e ha kp he hi pm srt => ?_
  · refine intsAre_at (by rw [Array.length_toList]; omega) fun j i hj => ?_
    have hjl : j < ns.length := (List.getElem?_eq_some_iff.mp hj).1
    have hja : j < acc.size := by omega
    obtain ⟨k, x, hkx, his⟩ := hit j acc[j] (Array.getElem?_eq_getElem hja)
    have hj1 : kvs[j]? = some kvs[j] := List.getElem?_eq_getElem (by omega)
    obtain ⟨⟨k', x'⟩, e2, e3, _⟩ := paired_get rel hj1
    rw [hkx] at e2
    cases e2
    have e3 : kvs[j].1 = k := e3
    have e4 := congrArg (fun z : List Key => z[j]?) hk
    rw [List.getElem?_map, List.getElem?_map, hj1, hj] at e4
    have e5 : kvs[j].1 = Sum.inl i := Option.some.inj e4
    rw [← e3, e5] at his
    obtain ⟨t, et⟩ := (show ∃ t, acc[j] = Value.int i t from kV_of_is his)
    exact ⟨t, by rw [Array.getElem?_toList, Array.getElem?_eq_getElem hja, et]⟩
  · have hl : ms.length ≤ sizeLine := by rw [pm.length_eq, sizeLine_eq]; omega
    exact ⟨.ref a, _, laid_seq I ha kp he hi hl, rfl, q ms a pm srt (I.hok.fresh ha)⟩
theorem pe_sortedD {e : Expr} {t : TA} {p pos : Pos} (hc : X.calm = true) (hm : X.mg "sorted" = none) (ha : PA X [e] t) (hg : Gl X "sorted" := by rfl) (he : starEach [e] X.env = (false, eval e X.env) :: starEach [] X.env := by rfl) :
    PE X (.Call (.Name "sorted" p) [e] [] pos) (tCB (fun xs H Q => ∃ (d : Addr) (kvs : List (Key × V)) (ns : List Int), xs = [.ref d] ∧ H d = some (.dK kvs) ∧ kvs.map (·.1) = ns.map Sum.inl ∧ ns.length < 64 ∧ ∀ (ms : List Int) l, ms.Perm ns → ms.Pairwise (· ≤ ·) → H l = none → Q (.ref l) (upd H l (.lst (ms.map V.int)))) t) :=
  pe_callB (call_sortedD hc) hg hm boot_sortedB ha (by decide) (by decide) he rfl
def Itrs (lo st : Int) (n : Nat) : It := ⟨fun i _ => i < n, fun i H x H' => H' = H ∧ x = .int (lo + i * st), fun i _ => n ≤ i⟩
theorem turn_rangeS {P : Program} {w : World} {K : PySem.W.Frag} {tg : Expr} (it : Addr) (lo st : Int) (n : Nat) : Turn P w K tg (Itrs lo st n) [it] it (fun i h => IsRangeIter h it (lo + (i : Nat) * st) ((n : Int) - (i : Nat)) st) where
  mem := by simp
  obj := fun i h st' b hb => by
    have e : b = it := by simpa using hb
    subst e
    exact ⟨_, st', fun v z => by
      have z' : Data.fields _ = Data.cell v := z
      cases z'⟩
  keep := fun i h h' st' k => k it (by simp) _ st'
  item := by
    intro X hP hw hK hc i pins s σ H E I hf st' hg
    subst hP hw hK
    obtain ⟨f0, f1, f2, f3, f4, f5⟩ := hf it (by simp)
    have W := Walks.range (prog := X.prog) (w := X.w) (I.ok.hd hc) it lo st n
    refine W.item i s _ _ hg st' fun v h' tk hv st'' kk => ?_
    obtain ⟨t, rfl⟩ := hv
    have I1 : Inv X pins σ H { s with heap := h', toks := tk } := I.turned (fun b o hb e => kk b o (by simpa using hb) e) f0 f1 f3 f4 f5
    exact ⟨_, rfl, go_of (s := { s with heap := h', toks := tk }) (n := "range_iterator") st'' rfl rfl (by decide) ⟨.int (lo + i * st), H, I1, ⟨t, rfl⟩, ⟨rfl, rfl⟩, st'', fun b hb => (hf b hb).1⟩⟩
  done := by
    intro X hP hw hK hc i pins s σ H E I hf st' hg
    subst hP hw hK
    obtain ⟨f0, f1, f2, f3, f4, f5⟩ := hf it (by simp)
    exact wpAny_pyNext_range_end (I.ok.hd hc) st' (by have : n ≤ i := hg; omega) fun h' eb => ⟨rfl, I.turned (t' := s.toks) (fun b o hb e => eb b o hb e) f0 f1 f3 f4 f5⟩
  self := fun _ _ _ _ _ st' h => wpAny_pyIter_rangeiter st' h
def iRng3 (ta : TA) : TI := fun σ H R => ta σ H fun vs H1 => ∃ (b c : Nat), vs = [.int 0, .int (b : Int), .int (c : Int)] ∧ 1 ≤ b ∧ b ≤ 1000 ∧ 1 ≤ c ∧ c ≤ 1000 ∧ R (Itrs 0 (c : Int) ((b - 1) / c + 1)) H1
theorem size3 {b c : Nat} (b1 : 1 ≤ b) (c1 : 1 ≤ c) : Builtin.Range.rangeSize 0 (b : Int) (c : Int) = (((b - 1) / c + 1 : Nat) : Int) := by
  unfold Builtin.Range.rangeSize
  rw [if_pos (by omega), if_pos (by omega)]
  have : (b : Int) - 0 - 1 = ((b - 1 : Nat) : Int) := by omega
  rw [this, ← Int.natCast_ediv]
  rfl
theorem small3 {b c : Nat} (b1 : 1 ≤ b) (b2 : b ≤ 1000) (c1 : 1 ≤ c) (c2 : c ≤ 1000) : Builtin.Range.small 0 (b : Int) (c : Int) = true := by
  unfold Builtin.Range.small
  rw [size3 b1 c1]
  have h1 : (b - 1) / c ≤ b - 1 := Nat.div_le_self _ _
  have h2 : (b - 1) / c * c ≤ b - 1 := Nat.div_mul_le_self _ _
  generalize hq : (b - 1) / c = q at h1 h2 ⊢
  simp only [Builtin.Range.rangeFitsLong, Bool.and_eq_true, Bool.or_eq_true, decide_eq_true_eq, beq_iff_eq, show (c : Int) > 0 by omega, if_true]
  exact ⟨⟨⟨⟨⟨by decide, by decide⟩, by omega, by omega⟩, by omega, by omega⟩, by omega, by omega⟩, .inr ⟨by omega, by omega⟩⟩
theorem pi_range3 {tg a b c : Expr} {ta : TA} {p pos : Pos} (hg : Gl X "range") (hm : X.mg "range" = none) (ha : PA X [a, b, c] ta) (hs : starEach [a, b, c] X.env = (false, eval a X.env) :: starEach [b, c] X.env := by rfl) (hpl : (backTo pos (starEach [b, c] X.env)).any (·.1) = false := by rfl) :
    PI X tg (.Call (.Name "range" p) [a, b, c] [] pos) (iRng3 ta) := by
  intro pins s σ H R I h
  refine Call_ (ld_blt I hg hm boot_range (PyProof.Rows.callWith_type1 (thn (ha pos pins s σ H _ I h) fun us s1 ⟨vs, H1, I1, r1, q1⟩ => ?_) hs hpl))
  obtain ⟨bn, cn, e, b1, b2, c1, c2, q⟩ := q1
  subst e
  cases r1 with
  | cons r rr =>
    cases rr with
    | cons r' rr =>
      cases rr with
      | cons r'' rr =>
        cases rr
        obtain ⟨t, rfl⟩ := r
        obtain ⟨t', rfl⟩ := r'
        obtain ⟨t'', rfl⟩ := r''
        refine call_range_3 (by omega) ?_ (.inl (PyProof.noPylong_small (by omega)))
        refine wpAny_pyIter_range (IsRange.new ..) (small3 b1 b2 c1 c2) ?_
        have I2 : Inv X pins σ H1 { s1 with heap := s1.heap.push { cls := .type "range", data := .fields #[.int 0 t, .int (bn : Int) t', .int (cn : Int) t''] }, toks := s1.toks } := I1.kept fun b o e => Heap.get?_push_of_some _ e
        refine ⟨(s1.heap.push { cls := .type "range", data := .fields #[.int 0 t, .int (bn : Int) t', .int (cn : Int) t''] }).objs.size, [(s1.heap.push { cls := .type "range", data := .fields #[.int 0 t, .int (bn : Int) t', .int (cn : Int) t''] }).objs.size], _, _, H1, rfl,
          I2.kept (t' := s1.toks) fun b o e => Heap.get?_push_of_some _ e, turn_rangeS _ 0 (cn : Int) ((bn - 1) / cn + 1), ?_, fun b hb => ?_, q⟩
        · show IsRangeIter _ _ ((0 : Int) + ((0 : Nat) : Int) * (cn : Int)) ((((bn - 1) / cn + 1 : Nat) : Int) - ((0 : Nat) : Int)) (cn : Int)
          have e1 : (0 : Int) + ((0 : Nat) : Int) * (cn : Int) = 0 := by simp
          have e2 : (((bn - 1) / cn + 1 : Nat) : Int) - ((0 : Nat) : Int) = Builtin.Range.rangeSize 0 (bn : Int) (cn : Int) := by rw [size3 b1 c1]; omega
          rw [e1, e2]
          exact Heap.get?_push_size _ rfl
        · have e : b = (s1.heap.push { cls := .type "range", data := .fields #[.int 0 t, .int (bn : Int) t', .int (cn : Int) t''] }).objs.size := by simpa using hb
          subst e
          exact I2.fpOk (Nat.le_refl _) (I2.hok.fresh (Nat.le_refl _))
theorem for_rangeS {lo st : Int} {n : Nat} {g : TG} {tb : TS} {D : Ends} {σ : St} {H : Hp} (Pv : Nat → St → Hp → Prop) (h0 : Pv 0 σ H)
    (hs : ∀ i σ H, i < n → Pv i σ H → g (.int (lo + i * st)) σ H fun σ2 H2 => tb { D with nx := Pv (i + 1), ct := Pv (i + 1), bk := D.nx } σ2 H2) (hd : ∀ σ H, Pv n σ H → D.nx σ H) :
    ∃ W : Nat → Nat → St → Hp → Prop, (∃ m, W 0 m σ H) ∧ ∀ i m σ H, W i m σ H →
      ((Itrs lo st n).stop i H ∧ D.nx σ H) ∨ ((Itrs lo st n).go i H ∧ ∃ N : St → Hp → Prop, (∀ σ' H', N σ' H' → ∃ m', m' < m ∧ W (i + 1) m' σ' H') ∧ ∀ x H', (Itrs lo st n).yld i H x H' → g x σ H' fun σ2 H2 => tb { D with nx := N, ct := N, bk := D.nx } σ2 H2) := by
  refine ⟨fun i m σ H => m = n - i ∧ i ≤ n ∧ Pv i σ H, ⟨n, by simp, Nat.zero_le _, h0⟩, ?_⟩
  rintro i m σ H ⟨rfl, hi, p⟩
  by_cases hlt : i < n
  · refine .inr ⟨hlt, Pv (i + 1), fun σ' H' p' => ⟨n - (i + 1), by omega, rfl, hlt, p'⟩, fun x H' y => ?_⟩
    obtain ⟨e, y⟩ := y
    subst e y
    exact hs i σ _ hlt p
  · have e : i = n := by omega
    subst e
    exact .inl ⟨Nat.le_refl _, hd σ H p⟩
end
end L2
namespace Mth
theorem rings_to {p : List Int} (t : IsT p) : ∀ i, i ≤ p.length → RingsUp p i (ringsF p i)
  | 0, _ => rings_none p
  | i + 1, h => by
    have ih := rings_to t i (by omega)
    show RingsUp p (i + 1) (if (i : Int) ∈ (ringsF p i).flatten then ringsF p i else ringsF p i ++ [ringL p i (perOf p i)])
    have hx : In p (i : Int) := ⟨by omega, by omega⟩
    by_cases hi : (i : Int) ∈ (ringsF p i).flatten
    · rw [if_pos hi]; exact rings_skip ih hi
    · rw [if_neg hi]
      obtain ⟨L, hL⟩ := per_ex t hx
      rw [perOf_eq hL]
      exact rings_step t ih hx hL hi
theorem rings_up {p : List Int} (t : IsT p) : RingsUp p p.length (ringsF p p.length) := rings_to t _ (Nat.le_refl _)
theorem it_pow {p t : List Int} {k : Int} (tp : IsT p) (h : PowIs p k t) {x : Int} (hx : In p x) {L : Nat} (hL : Per p x L) {m : Nat} (hm : ((m : Int) - k) % (L : Int) = 0) : ∀ i, it t i x = it p (m * i) x
  | 0 => by rw [Nat.mul_zero]; rfl
  | i + 1 => by
    show nx t (it t i x) = _
    rw [it_pow tp h hx hL hm i]
    obtain ⟨M, hM, e⟩ := pow_nx h (it_in tp hx (m * i))
    have := (hL.shift tp hx (m * i)).uniq hM
    subst this
    rw [e m hm, ← it_add, Nat.mul_succ, Nat.add_comm]
theorem per_pow {p t : List Int} {k : Int} (tp : IsT p) (h : PowIs p k t) {x : Int} (hx : In p x) {L : Nat} (hL : Per p x L) {m : Nat} (hm : ((m : Int) - k) % (L : Int) = 0) : Per t x (L / Nat.gcd L m) := by
  have lp := hL.pos
  have gp : 0 < Nat.gcd L m := Nat.gcd_pos_of_pos_left _ lp
  obtain ⟨a, ha⟩ := Nat.gcd_dvd_left L m
  obtain ⟨b, hb⟩ := Nat.gcd_dvd_right L m
  have cp : Nat.Coprime (L / Nat.gcd L m) (m / Nat.gcd L m) := Nat.coprime_div_gcd_div_gcd gp
  generalize Nat.gcd L m = g at *
  have e1 : L / g = a := by rw [ha, Nat.mul_div_cancel_left _ gp]
  have e2 : m / g = b := by rw [hb, Nat.mul_div_cancel_left _ gp]
  rw [e1, e2] at cp
  rw [e1]
  refine ⟨?_, ?_, fun i i0 i1 e => ?_⟩
  · rcases Nat.eq_zero_or_pos a with z | z
    · rw [z] at ha; omega
    · exact z
  · rw [it_pow tp h hx hL hm, hb, show g * b * a = L * b by rw [ha]; ac_rfl]
    exact it_mul hL.back b
  · rw [it_pow tp h hx hL hm] at e
    have d := per_dvd hL e
    rw [ha, hb, Nat.mul_assoc] at d
    have d2 : a ∣ b * i := Nat.dvd_of_mul_dvd_mul_left gp d
    have d3 : a ∣ i := cp.dvd_of_dvd_mul_left d2
    exact absurd (Nat.le_of_dvd i0 d3) (by omega)
theorem dvd_count {D : Nat} {g : Int → Bool} : ∀ {rs : List (List Int)}, (∀ r ∈ rs, (∀ x ∈ r, g x = false) ∨ ((∀ x ∈ r, g x = true) ∧ D ∣ r.length)) → D ∣ rs.flatten.countP g
  | [], _ => by simp
  | r :: rs, h => by
    have ih := dvd_count (D := D) (g := g) (rs := rs) fun q hq => h q (List.mem_cons_of_mem _ hq)
    rw [List.flatten_cons, List.countP_append]
    refine Nat.dvd_add ?_ ih
    rcases h r List.mem_cons_self with z | ⟨z, d⟩
    · rw [List.countP_eq_zero.mpr fun x hx => by rw [z x hx]; decide]; exact Nat.dvd_zero D
    · rw [List.countP_eq_length.mpr fun x hx => z x hx]; exact d
theorem count_upTo {p : List Int} (t : IsT p) (l : Nat) : ((L2.upTo 0 p.length).countP fun x => decide (perOf p x = l)) = l * cntL (ringsF p p.length) l := by
  rw [← count_flat (per_len t (rings_up t)), (up_flat t (rings_up t)).countP_eq]
theorem cnt_zero {p : List Int} (t : IsT p) : cntL (ringsF p p.length) 0 = 0 := by
  by_cases z : cntL (ringsF p p.length) 0 = 0
  · exact z
  · obtain ⟨r, hr, e⟩ := cnt_pos z
    obtain ⟨y, L, hy, pr, er, _⟩ := (rings_up t).ring r hr
    rw [er, ringL_len] at e
    have := pr.pos
    omega
theorem root_parts {r p : List Int} {m l d : Nat} (tr : IsT r) (h : PowIs r (m : Int) p) (hd : IsLR l m d) : d ∣ cntL (ringsF p p.length) l := by
  have tp := pow_isT tr h
  rcases Nat.eq_zero_or_pos l with z | l0
  · rw [z, cnt_zero tp]; exact Nat.dvd_zero d
  have e := count_upTo tp l
  have key : l * d ∣ l * cntL (ringsF p p.length) l := by
    rw [← e, h.1, ← (up_flat tr (rings_up tr)).countP_eq]
    refine dvd_count fun q hq => ?_
    obtain ⟨y, L, hy, pr, er, _⟩ := (rings_up tr).ring q hq
    have pers : ∀ x ∈ q, perOf p x = L / Nat.gcd L m := fun x hx => by
      rw [er] at hx
      obtain ⟨j, hj, rfl⟩ := mem_ringL.mp hx
      exact perOf_eq (per_pow tr h (it_in tr hy j) (pr.shift tr hy j) (by rw [Int.sub_self]; rfl))
    by_cases hl : L / Nat.gcd L m = l
    · refine .inr ⟨fun x hx => by rw [pers x hx]; exact decide_eq_true hl, ?_⟩
      have gp : 0 < Nat.gcd L m := Nat.gcd_pos_of_pos_left _ pr.pos
      have eL : L = l * Nat.gcd L m := by rw [← hl, Nat.div_mul_cancel (Nat.gcd_dvd_left L m)]
      rw [er, ringL_len]
      have hr : d ∣ Nat.gcd L m := by
        refine hd.least _ (Nat.gcd_dvd_right L m) ?_
        have := Nat.coprime_div_gcd_div_gcd gp
        rw [hl] at this
        exact this
      rw [eL]
      exact Nat.mul_dvd_mul_left l hr
    · exact .inl fun x hx => by rw [pers x hx]; exact decide_eq_false hl
  exact Nat.dvd_of_mul_dvd_mul_left l0 key
structure BarsAt (c : Nat → Nat) (m l d : Nat) : Prop where
  some : 1 ≤ c l
  right : IsLR l m d
  bad : ¬ d ∣ c l
  less : ∀ k, 1 ≤ c k → k < l → ∀ e, IsLR k m e → e ∣ c k
end Mth
namespace Mth
def fil (rs : List (List Int)) (l : Nat) : List (List Int) := rs.filter fun r => decide (r.length = l)
theorem fil_cnt (rs : List (List Int)) (l : Nat) : (fil rs l).length = cntL rs l := by unfold fil cntL; rw [List.countP_eq_length_filter]
def JO (m : Nat) (rs : List (List Int)) (J : List Int) (Rs : List (List Int)) : Prop :=
  ∃ l k, 0 < l ∧ m = Rs.length * k ∧ Nat.gcd l k = 1 ∧ (∀ r ∈ Rs, r.length = l) ∧ 1 ≤ Rs.length ∧ JoinIs l k Rs J ∧ (∀ r ∈ Rs, r ∈ rs) ∧ IsLR l m Rs.length ∧ ∃ j, Rs = ((fil rs l).drop (j * Rs.length)).take Rs.length
def RootOf (p : List Int) (m : Nat) (r : List Int) : Prop := r.length = p.length ∧ ∀ r0 ∈ ringsF p p.length, ∃ J Rs, JO m (ringsF p p.length) J Rs ∧ r0 ∈ Rs ∧ RoundOf r J
end Mth
namespace Mth
theorem maxmin {n c : Int} (hn : 1 ≤ n) (hc : 0 ≤ c) : ∃ mx, (if (if n < c then n else c) > 1 then (if n < c then n else c) else (1 : Int)) = mx ∧ 1 ≤ mx ∧ mx ≤ n := by
  refine ⟨_, rfl, ?_⟩
  split <;> split at * <;> omega
theorem maxmin' {n c : Int} (hn : 1 ≤ n) (hc : 0 ≤ c) : ∃ mx, (if (if c < n then c else n) > 1 then (if c < n then c else n) else (1 : Int)) = mx ∧ 1 ≤ mx ∧ mx ≤ n := by
  refine ⟨_, rfl, ?_⟩
  split <;> split at * <;> omega
end Mth
namespace L2
open PySem PySem.Spec PyProof.Rows
theorem boot_tupleT : bootBuiltins "tuple" = some (.type "tuple") := by decide +kernel
end L2
namespace L2
open PySem PySem.Spec PyProof.Rows
structure XPS (X : Cx) (st : Stmt) (t : TS) : Prop where
  h : PS X st t
structure XPSs (X : Cx) (st : List Stmt) (t : TS) : Prop where
  h : PSs X st t
section
variable {X : Cx} {st : Stmt} {rest : List Stmt} {t u : TS}
theorem xb_litsL {tg : Expr} {es : List Expr} {tpos pos : Pos} {body : List Stmt} {g : TG} {tb : TS} (ns : List Int) (h : litsOf es = some ns) (hc : X.calm = true) (hp : PassesOwn (model X.prog X.w) X.A X.env X.xe) (hg : PG X tg g) (hb : PSs X body tb)
    (hs : ∀ x, foldedSetIterable (.List es tpos) X.env x = pure x := by intro _; rfl) : XPS X (.For tg (.List es tpos) body [] pos) (tFor (iList X.K (tLits ns)) g tb) := ⟨ps_for hp hc (pi_list (pe_litsO ns h)) hg hb hs⟩
theorem xb_cons (h1 : XPS X st t) (h2 : PSs X rest u) : XPSs X (st :: rest) (tSeq t u) := ⟨pss_cons h1.h h2⟩
theorem xb_pre (h1 : PS X st t) (h2 : XPSs X rest u) : PSs X (st :: rest) (tSeq t u) := pss_cons h1 h2.h
end
end L2
namespace Mth
theorem lr_of {l m d r k : Nat} (hm : 0 < m) (e : m = d * r) (c : Nat.gcd l r = 1) (p : d ∣ l ^ k) : IsLR l m d := by
  have d1 : 0 < d := Nat.pos_of_ne_zero fun z => by rw [z, Nat.zero_mul] at e; omega
  refine ⟨⟨r, e⟩, by rw [e, Nat.mul_div_cancel_left r d1]; exact c, fun b hb hc => ?_⟩
  have c2 : Nat.Coprime (l ^ k) (m / b) := Nat.Coprime.pow_left k hc
  have c3 : Nat.Coprime d (m / b) := Nat.Coprime.coprime_dvd_left p c2
  exact c3.dvd_of_dvd_mul_right (by rw [Nat.mul_div_cancel' hb]; exact ⟨r, e⟩)
end Mth
namespace L2
open PySem PySem.Spec PyProof.Rows
section
variable {X : Cx}
theorem pe_never {e : Expr} : PE X e (fun _ _ _ => False) := fun _ _ _ _ _ _ h => h.elim
end
end L2
namespace L2
open PySem PySem.Spec PyProof.Rows
section
variable {prog : Program} {w : World} {A : Around} {E : Value → Shared → Prop} {s : Shared}
theorem pairs_snd (vs : List Value) : (pairsOf vs).map (·.2) = vs.toArray := by
  apply Array.toList_inj.mp
  rw [Array.toList_map, pairsOf_toList]
  exact List.map_snd_zip (Nat.le_refl _)
end
end L2
namespace L2
open PySem PySem.Spec PyProof.Rows
def CDivH (i j : Int) : Prop := 0 < j ∧ j.natAbs < 2 ^ 9000
theorem op_fdivH {X : Cx} : OpR X (binaryOp .FloorDiv) (rI CDivH fun i j => .int (i / j)) := opI fun i j _ _ _ _ _ hc q => by
  have hp : Builtin.divisionGoesByPylong i j = false := PyProof.noPylong_of_log2 ((Nat.log2_lt (by have := hc.1; omega)).mpr hc.2)
  refine floordiv_int (by have := hc.1; omega) ?_ (.inl hp)
  rw [Int.fdiv_eq_ediv_of_nonneg i (by have := hc.1; omega)]
  exact q
end L2
namespace Mth
open L2 (upTo)
def Along (t : List Int) (rs : List (List Int)) : Prop := ∀ r ∈ rs, ∀ j, j < r.length → at0 t (r.getD j 0) = some (r.getD ((j + 1) % r.length) 0)
theorem along_row {t r : List Int} (h : ∀ j, j < r.length → at0 t (r.getD j 0) = some (r.getD ((j + 1) % r.length) 0)) : r.map (at0 t) = (r.drop 1 ++ r.take 1).map some := by
  cases r with
  | nil => rfl
  | cons a r =>
    refine List.ext_getElem? fun j => ?_
    rw [List.getElem?_map, List.getElem?_map]
    by_cases hj : j < (a :: r).length
    · have e := h j hj
      rw [List.getD_eq_getElem?_getD, List.getElem?_eq_getElem hj] at e
      rw [List.getElem?_eq_getElem hj]
      show some (at0 t _) = _
      rw [show at0 t (a :: r)[j] = _ from e]
      have hl : (a :: r).length = r.length + 1 := rfl
      rw [hl] at hj ⊢
      show _ = Option.map some (r ++ [a])[j]?
      by_cases z : j < r.length
      · rw [Nat.mod_eq_of_lt (by omega), List.getElem?_append_left z, List.getD_eq_getElem?_getD, List.getElem?_cons_succ, List.getElem?_eq_getElem z]
        rfl
      · have : j = r.length := by omega
        subst this
        rw [Nat.mod_self, List.getElem?_append_right (Nat.le_refl _), Nat.sub_self]
        rfl
    · rw [List.getElem?_eq_none (by omega), List.getElem?_eq_none (by
        show (r ++ [a]).length ≤ j
        rw [List.length_append]
        have : (a :: r).length = r.length + 1 := rfl
        simp only [List.length_singleton]; omega)]
      rfl
theorem along_is {t : List Int} {rs : List (List Int)} (al : Along t rs) (fl : rs.flatten = upTo 0 t.length) : t.Perm rs.flatten := by
  have e : t.map some = ((rs.map fun r => r.drop 1 ++ r.take 1).flatten).map some := by
    rw [← map_upTo_at0, ← fl, List.map_flatten, List.map_flatten, List.map_map]
    congr 1
    refine List.map_congr_left fun r hr => ?_
    exact along_row (al r hr)
  have e' := (List.map_inj_right (fun x y (h : some x = some y) => Option.some.inj h)).mp e
  rw [e']
  clear e e' fl al
  induction rs with
  | nil => exact List.Perm.refl _
  | cons r rs ih =>
    rw [List.map_cons, List.flatten_cons, List.flatten_cons]
    refine List.Perm.append ?_ ih
    have := List.perm_append_comm (l₁ := r.drop 1) (l₂ := r.take 1)
    rwa [List.take_append_drop] at this
theorem along_turn {t : List Int} {rs : List (List Int)} (al : Along t rs) (fl : rs.flatten = upTo 0 t.length) : IsT t := by
  have p := along_is al fl
  rw [fl] at p
  refine ⟨p.nodup_iff.mpr (by rw [← fl, fl]; exact (by
    unfold L2.upTo
    exact List.Pairwise.map _ (fun a b h => by omega) (List.nodup_range (n := t.length)))), fun x hx => (mem_upTo.mp (p.mem_iff.mp hx)).1, fun x hx => (mem_upTo.mp (p.mem_iff.mp hx)).2⟩
theorem along_it {t r : List Int} (h : ∀ j, j < r.length → at0 t (r.getD j 0) = some (r.getD ((j + 1) % r.length) 0)) {j : Nat} (hj : j < r.length) : ∀ k, it t k (r.getD j 0) = r.getD ((j + k) % r.length) 0
  | 0 => by rw [Nat.add_zero, Nat.mod_eq_of_lt hj]; rfl
  | k + 1 => by
    show nx t (it t k (r.getD j 0)) = _
    rw [along_it h hj k]
    have := h ((j + k) % r.length) (Nat.mod_lt _ (by omega))
    unfold at0 at this
    unfold nx
    rw [List.getD_eq_getElem?_getD, this]
    show r.getD (((j + k) % r.length + 1) % r.length) 0 = _
    rw [Nat.mod_add_mod]; rfl
theorem along_per {t : List Int} {rs : List (List Int)} (al : Along t rs) (nd : rs.flatten.Nodup) : ∀ r ∈ rs, ∀ x ∈ r, perOf t x = r.length := by
  intro r hr x hx
  obtain ⟨j, hj⟩ := List.mem_iff_getElem?.mp hx
  have hjl : j < r.length := (List.getElem?_eq_some_iff.mp hj).1
  have ex : x = r.getD j 0 := by rw [List.getD_eq_getElem?_getD, hj]; rfl
  have ndr : r.Nodup := nd.sublist (List.sublist_flatten_of_mem hr)
  subst ex
  refine perOf_eq ⟨by omega, ?_, fun i i0 il => ?_⟩
  · rw [along_it (al r hr) hjl, Nat.add_mod_right, Nat.mod_eq_of_lt hjl]
  · rw [along_it (al r hr) hjl]
    intro e
    have hm : (j + i) % r.length < r.length := Nat.mod_lt _ (by omega)
    rw [List.getD_eq_getElem?_getD, List.getD_eq_getElem?_getD, List.getElem?_eq_getElem hm, List.getElem?_eq_getElem hjl] at e
    have e2 := (List.nodup_iff_pairwise_ne.mp ndr)
    have ne : (j + i) % r.length ≠ j := by
      by_cases z : j + i < r.length
      · rw [Nat.mod_eq_of_lt z]; omega
      · rw [Nat.mod_eq_sub_mod (by omega), Nat.mod_eq_of_lt (by omega)]; omega
    rcases Nat.lt_or_gt_of_ne ne with z | z
    · exact List.pairwise_iff_getElem.mp e2 _ _ hm hjl z e
    · exact List.pairwise_iff_getElem.mp e2 _ _ hjl hm z e.symm
theorem along_count {t : List Int} {rs : List (List Int)} (al : Along t rs) (fl : rs.flatten = upTo 0 t.length) (l : Nat) : ((((List.range t.length).map fun (i : Nat) => (perOf t (i : Int) : Int))).countP fun i => decide (i = (l : Int))) = l * cntL rs l := by
  have nd : rs.flatten.Nodup := by
    rw [fl]; unfold L2.upTo
    exact List.Pairwise.map _ (fun a b h => by omega) (List.nodup_range (n := t.length))
  rw [← count_flat (along_per al nd), fl, List.countP_map]
  unfold L2.upTo
  rw [List.countP_map]
  refine List.countP_congr fun i hi => ?_
  simp
  constructor <;> intro h <;> omega
def facN : Nat → Nat
  | 0 => 1
  | n + 1 => facN n * (n + 1)
def zK (kind : List Int) : Nat → Nat
  | 0 => 1
  | i + 1 => zK kind i * (kind.getD i 0).toNat * ((kind.take (i + 1)).countP fun x => decide (x = kind.getD i 0))
theorem prodF_one {f g : Nat → Nat} {c x : Nat} : ∀ {us : List Nat}, us.Nodup → x ∈ us → g x = f x * c → (∀ u ∈ us, u ≠ x → g u = f u) → prodF g us = prodF f us * c
  | [], _, hx, _, _ => by cases hx
  | u :: us, nd, hx, h1, h2 => by
    show g u * prodF g us = f u * prodF f us * c
    rw [List.nodup_cons] at nd
    by_cases z : u = x
    · have same : prodF g us = prodF f us := by
        have : ∀ vs : List Nat, (∀ v ∈ vs, g v = f v) → prodF g vs = prodF f vs := by
          intro vs
          induction vs with
          | nil => intro _; rfl
          | cons v vs ih =>
            intro hv
            show g v * prodF g vs = f v * prodF f vs
            rw [hv v List.mem_cons_self, ih fun y hy => hv y (List.mem_cons_of_mem _ hy)]
        exact this us fun v hv => h2 v (List.mem_cons_of_mem _ hv) fun e => nd.1 (by rw [z, ← e]; exact hv)
      rw [same, z, h1, Nat.mul_assoc, Nat.mul_comm c, Nat.mul_assoc]
    · have hx' : x ∈ us := by
        rcases List.mem_cons.mp hx with e | e
        · exact absurd e.symm z
        · exact e
      rw [h2 u List.mem_cons_self z, prodF_one nd.2 hx' h1 fun v hv => h2 v (List.mem_cons_of_mem _ hv), Nat.mul_assoc]
theorem zK_prod {kind : List Int} (pos : ∀ x ∈ kind, 1 ≤ x) {us : List Nat} (nd : us.Nodup) (hu : ∀ x ∈ kind, x.toNat ∈ us) : ∀ i, i ≤ kind.length → zK kind i = prodF (fun l => facL l ((kind.take i).countP fun x => decide (x.toNat = l))) us
  | 0, _ => by
    show 1 = _
    exact (prodF_ones (f := fun l => facL l ((kind.take 0).countP fun x => decide (x.toNat = l))) fun u _ => rfl).symm
  | i + 1, h => by
    have hi : i < kind.length := by omega
    have e : kind[i]? = some kind[i] := List.getElem?_eq_getElem hi
    have eD : kind.getD i 0 = kind[i] := by rw [List.getD_eq_getElem?_getD, e]; rfl
    have mem : kind[i] ∈ kind := List.getElem_mem hi
    have p1 := pos _ mem
    have et : kind.take (i + 1) = kind.take i ++ [kind[i]] := by rw [List.take_succ, e]; rfl
    show zK kind i * (kind.getD i 0).toNat * ((kind.take (i + 1)).countP fun x => decide (x = kind.getD i 0)) = _
    rw [eD, zK_prod pos nd hu i (by omega), Nat.mul_assoc]
    have cnt : ((kind.take (i + 1)).countP fun x => decide (x = kind[i])) = ((kind.take i).countP fun x => decide (x.toNat = kind[i].toNat)) + 1 := by
      rw [et, List.countP_append, List.countP_singleton, if_pos (decide_eq_true rfl)]
      congr 1
      refine List.countP_congr fun x hx => ?_
      have := pos x (List.mem_of_mem_take hx)
      simp
      constructor
      · intro h; rw [h]
      · intro h; omega
    rw [cnt]
    refine (prodF_one (f := fun l => facL l ((kind.take i).countP fun x => decide (x.toNat = l))) nd (hu _ mem) ?_ fun u _ hne => ?_).symm
    · show facL _ ((kind.take (i + 1)).countP fun x => decide (x.toNat = kind[i].toNat)) = _
      rw [et, List.countP_append, List.countP_singleton, if_pos (decide_eq_true rfl)]
      show facL _ _ * _ * _ = _
      rw [Nat.mul_assoc]
    · show facL _ ((kind.take (i + 1)).countP fun x => decide (x.toNat = u)) = _
      rw [et, List.countP_append, List.countP_singleton, if_neg (by simpa using fun h => hne h.symm)]
      rfl
theorem getD_at {l : List Int} {i : Nat} (h : i < l.length) : l.getD i 0 = l[i] := by
  rw [List.getD_eq_getElem?_getD, List.getElem?_eq_getElem h]; rfl
theorem take_snoc {l : List Int} {i : Nat} (h : i < l.length) : l.take (i + 1) = l.take i ++ [l.getD i 0] := by
  rw [List.take_succ, List.getElem?_eq_getElem h, getD_at h]; rfl
def likeK (kind : List Int) (i : Nat) : Nat := (kind.take (i + 1)).countP fun x => decide (x = kind.getD i 0)
theorem like_zero {kind : List Int} (h : 0 < kind.length) : likeK kind 0 = 1 := by
  unfold likeK
  rw [take_snoc h, List.countP_append, List.countP_singleton, if_pos (decide_eq_true rfl)]
  simp
theorem like_succ {kind : List Int} (fal : kind.Pairwise (· ≥ ·)) {i : Nat} (h : i + 1 < kind.length) : likeK kind (i + 1) = if kind.getD i 0 = kind.getD (i + 1) 0 then likeK kind i + 1 else 1 := by
  unfold likeK
  rw [take_snoc h, List.countP_append, List.countP_singleton, if_pos (decide_eq_true rfl)]
  split
  · rename_i e
    rw [e]
  · rename_i e
    have : ((kind.take (i + 1)).countP fun x => decide (x = kind.getD (i + 1) 0)) = 0 := by
      refine List.countP_eq_zero.mpr fun x hx => ?_
      obtain ⟨j, hj⟩ := List.mem_iff_getElem?.mp hx
      have hjl : j < i + 1 := by
        have := (List.getElem?_eq_some_iff.mp hj).1
        rw [List.length_take] at this
        omega
      rw [List.getElem?_take_of_lt hjl] at hj
      have hx' := (List.getElem?_eq_some_iff.mp hj).2
      have a1 : kind[j]'(by omega) ≥ kind[i]'(by omega) := by
        rcases Nat.lt_or_ge j i with z | z
        · exact List.pairwise_iff_getElem.mp fal j i (by omega) (by omega) z
        · have : j = i := by omega
          subst this; exact Int.le_refl _
      have a2 : kind[i]'(by omega) ≥ kind[i + 1] := List.pairwise_iff_getElem.mp fal i (i + 1) (by omega) h (by omega)
      rw [getD_at (show i < kind.length by omega), getD_at h] at e
      rw [getD_at h]
      simp only [decide_eq_true_eq]
      omega
    rw [this]
theorem zK_succ (kind : List Int) (i : Nat) : zK kind (i + 1) = zK kind i * (kind.getD i 0).toNat * likeK kind i := rfl
theorem zK_bound {kind : List Int} (lo : ∀ x ∈ kind, 1 ≤ x) (hi : ∀ x ∈ kind, x ≤ 40) (hl : kind.length ≤ 40) : ∀ i, i ≤ kind.length → 0 < zK kind i ∧ zK kind i ≤ 1600 ^ i
  | 0, _ => ⟨Nat.one_pos, Nat.le_refl _⟩
  | i + 1, h => by
    obtain ⟨a, b⟩ := zK_bound lo hi hl i (by omega)
    have hi' : i < kind.length := by omega
    have m : kind.getD i 0 ∈ kind := by rw [getD_at hi']; exact List.getElem_mem hi'
    have m1 := lo _ m
    have m2 := hi _ m
    have l1 : 1 ≤ likeK kind i := by
      unfold likeK
      rw [take_snoc hi', List.countP_append, List.countP_singleton, if_pos (decide_eq_true rfl)]
      omega
    have l2 : likeK kind i ≤ 40 := by
      unfold likeK
      have := List.countP_le_length (p := fun x => decide (x = kind.getD i 0)) (l := kind.take (i + 1))
      rw [List.length_take] at this
      omega
    rw [zK_succ]
    refine ⟨Nat.mul_pos (Nat.mul_pos a (by omega)) (by omega), ?_⟩
    rw [Nat.pow_succ, Nat.mul_assoc]
    refine Nat.mul_le_mul b ?_
    show _ ≤ 40 * 40
    exact Nat.mul_le_mul (by omega) l2
theorem big_pow {k i : Nat} (h : i ≤ 40) (hk : k ≤ 1600 ^ i) : k < 2 ^ 9000 := by
  refine Nat.lt_of_le_of_lt hk (Nat.lt_of_le_of_lt (Nat.pow_le_pow_right (by decide) h) ?_)
  decide +kernel
def manyK (kind : List Int) : Nat := facN kind.sum.toNat / zK kind kind.length
end Mth
namespace L2
open PySem PySem.Spec PyProof.Rows
def tListRng2 (t : TA) : TE := tCB (fun xs H Q => ∃ p lo hi, xs = [.ref p] ∧ H p = some (.rng lo hi) ∧ (-(2 ^ 62) ≤ lo ∧ lo < 2 ^ 62 ∧ -(2 ^ 62) ≤ hi ∧ hi < 2 ^ 62) ∧ (hi - lo).toNat ≤ 2 ^ 20 ∧
    ∀ l, H l = none → Q (.ref l) (upd H l (.lst ((upTo lo (hi - lo).toNat).map V.int)))) (tCons (tCB (fun xs H Q => ∃ i j, xs = [.int i, .int j] ∧ ∀ p, H p = none → Q (.ref p) (upd H p (.rng i j))) t) tNil)
theorem pe_listRng2 {X : Cx} {a b : Expr} {t : TA} {p p2 pos pos2 : Pos} (hc : X.calm = true) (hm : X.mg "list" = none) (hm2 : X.mg "range" = none) (ha : PA X [a, b] t) (hg : Gl X "list" := by rfl) (hg2 : Gl X "range" := by rfl)
    (he : starEach [a, b] X.env = (false, eval a X.env) :: starEach [b] X.env := by rfl) (hpl : (backTo pos2 (starEach [b] X.env)).any (·.1) = false := by rfl)
    (he2 : starEach [.Call (.Name "range" p2) [a, b] [] pos2] X.env = (false, eval (.Call (.Name "range" p2) [a, b] [] pos2) X.env) :: starEach [] X.env := by rfl) :
    PE X (.Call (.Name "list" p) [.Call (.Name "range" p2) [a, b] [] pos2] [] pos) (tListRng2 t) :=
  pe_callTy (call_list_rng hc) hg hm boot_listT (pa_cons (pe_callTy call_range2 hg2 hm2 boot_rangeT ha (by decide) (by decide) he hpl) pa_nil he2) (by decide) (by decide) he2 rfl
end L2
namespace TS
open PySem PyProof.Rows
section
variable (rk : Keyed → Nat)
def R (xs : Array Keyed) (i : Nat) : Nat := match xs[i]? with
  | some p => rk p
  | none => 0
def Up (xs : Array Keyed) (lo hi : Nat) : Prop := ∀ i j, lo ≤ i → i ≤ j → j < hi → R rk xs i ≤ R rk xs j
def Down (xs : Array Keyed) (lo hi : Nat) : Prop := ∀ i j, lo ≤ i → i ≤ j → j < hi → R rk xs j ≤ R rk xs i
end
def Kept (xs ys : Array Keyed) (lo hi : Nat) : Prop := ∀ k, k < lo ∨ hi ≤ k → ys[k]? = xs[k]?
theorem Kept.refl (xs : Array Keyed) (lo hi : Nat) : Kept xs xs lo hi := fun _ _ => rfl
theorem Kept.trans {xs ys zs : Array Keyed} {lo hi : Nat} (h : Kept xs ys lo hi) (g : Kept ys zs lo hi) : Kept xs zs lo hi := fun k hk => (g k hk).trans (h k hk)
theorem Kept.wide {xs ys : Array Keyed} {lo hi lo' hi' : Nat} (h : Kept xs ys lo hi) (h1 : lo' ≤ lo) (h2 : hi ≤ hi') : Kept xs ys lo' hi' := fun k hk => h k (by omega)
section
variable {rk : Keyed → Nat}
theorem R_of {xs ys : Array Keyed} {i j : Nat} (h : xs[i]? = ys[j]?) : R rk xs i = R rk ys j := by unfold R; rw [h]
theorem Kept.R {xs ys : Array Keyed} {lo hi k : Nat} (h : Kept xs ys lo hi) (hk : k < lo ∨ hi ≤ k) : TS.R rk ys k = TS.R rk xs k := R_of (h k hk)
theorem Kept.up {xs ys : Array Keyed} {lo hi a b : Nat} (h : Kept xs ys lo hi) (u : Up rk xs a b) (hk : b ≤ lo ∨ hi ≤ a) : Up rk ys a b := fun i j h1 h2 h3 => by
  rw [h.R (by omega), h.R (by omega)]; exact u i j h1 h2 h3
theorem R_bubble {xs : Array Keyed} {src d : Nat} (hs : src < xs.size) (hd : d ≤ src) (k : Nat) :
    R rk (bubble xs src d) k = if k = src - d then R rk xs src else if src - d < k ∧ k ≤ src then R rk xs (k - 1) else R rk xs k := by
  have e := getElem?_bubble hs d hd k
  split
  · rename_i h; rw [if_pos h] at e; exact R_of e
  · rename_i h
    rw [if_neg h] at e
    split
    · rename_i h2; rw [if_pos h2] at e; exact R_of e
    · rename_i h2; rw [if_neg h2] at e; exact R_of e
theorem kept_bubble {xs : Array Keyed} {src d lo hi : Nat} (hs : src < xs.size) (hd : d ≤ src) (h1 : lo ≤ src - d) (h2 : src < hi) : Kept xs (bubble xs src d) lo hi := fun k hk => by
  rw [getElem?_bubble hs d hd k, if_neg (by omega), if_neg (by omega)]
theorem R_mirror {xs : Array Keyed} {i j : Nat} (hj : j ≤ xs.size) (k : Nat) : R rk (mirror xs i j ((j - i) / 2)) k = if i ≤ k ∧ k < j then R rk xs (i + j - 1 - k) else R rk xs k := by
  have e := getElem?_mirror_all (i := i) hj k
  split
  · rename_i h; rw [if_pos h] at e; exact R_of e
  · rename_i h; rw [if_neg h] at e; exact R_of e
theorem kept_mirror {xs : Array Keyed} {i j lo hi : Nat} (hj : j ≤ xs.size) (h1 : lo ≤ i) (h2 : j ≤ hi) : Kept xs (mirror xs i j ((j - i) / 2)) lo hi := fun k hk => by
  rw [getElem?_mirror_all hj k, if_neg (by omega)]
theorem R_alike {xs : Array Keyed} {i j : Nat} (hj : j ≤ xs.size) (h : ∀ k, i ≤ k → k < j → R rk xs k = R rk xs (j - 1)) (k : Nat) : R rk (mirror xs i j ((j - i) / 2)) k = R rk xs k := by
  rw [R_mirror hj]
  split
  · rw [h _ (by omega) (by omega), h k (by omega) (by omega)]
  · rfl
end
structure Bs (a0 : Array Keyed) (κ : SortKind) (st : SortSt) : Prop where
  perm : (arrOf st).Perm a0
  kind : kindOf st = κ
  ok : failedOf st = none
theorem Bs.size {a0 : Array Keyed} {κ : SortKind} {st : SortSt} (h : Bs a0 κ st) : (arrOf st).size = a0.size := h.perm.size_eq
theorem Bs.set {a0 : Array Keyed} {κ : SortKind} {st : SortSt} (h : Bs a0 κ st) {xs : Array Keyed} (hp : xs.Perm (arrOf st)) : Bs a0 κ (setArr st xs) := ⟨hp.trans h.perm, h.kind, h.ok⟩
theorem Bs.mem {a0 : Array Keyed} {κ : SortKind} {st : SortSt} (h : Bs a0 κ st) {i : Nat} (hi : i < a0.size) : ∃ p, (arrOf st)[i]? = some p ∧ p ∈ a0.toList := by
  have hi' : i < (arrOf st).size := by rw [h.size]; exact hi
  exact ⟨(arrOf st)[i], getElem?_pos _ i hi', (Array.perm_iff_toList_perm.mp h.perm).mem_iff.mp (by simp)⟩
section
variable {prog : Program} {w : World} {A : Around} {E : Value → Shared → Prop} {s : Shared}
def Cm (prog : Program) (w : World) (A : Around) (s : Shared) (κ : SortKind) (rk : Keyed → Nat) (a0 : Array Keyed) : Prop :=
  ∀ x ∈ a0.toList, ∀ y ∈ a0.toList, ∀ (Q : Bool → Shared → Prop) (E' : Value → Shared → Prop), Q (decide (rk x < rk y)) s → wpAny (model prog w) A (keyLt' κ x.1 y.1) Q E' s
variable {rk : Keyed → Nat} {a0 : Array Keyed} {κ : SortKind}
theorem lt_of {st : SortSt} {x y : Keyed} {Q : Option Bool → SortSt → Prop} (C : Cm prog w A s κ rk a0) (hk : kindOf st = κ) (hx : x ∈ a0.toList) (hy : y ∈ a0.toList) (h : Q (some (decide (rk x < rk y))) st) :
    wpS (model prog w) A E s (lt' x y) Q st := by
  rw [lt'_eq]
  refine wpS_bind (wpS_get ?_)
  rw [hk]
  exact wpS_bind (wpS_lift (wpAny_attempt (C x hx y hy _ _ ⟨rfl, wpS_pure h⟩)))
theorem ltAt_of {st : SortSt} {i j : Nat} {Q : Option Bool → SortSt → Prop} (C : Cm prog w A s κ rk a0) (B : Bs a0 κ st) (hi : i < a0.size) (hj : j < a0.size) (h : Q (some (decide (R rk (arrOf st) i < R rk (arrOf st) j))) st) :
    wpS (model prog w) A E s (ltAt' i j) Q st := by
  obtain ⟨x, ex, mx⟩ := B.mem hi
  obtain ⟨y, ey, my⟩ := B.mem hj
  rw [ltAt'_eq]
  refine wpS_bind (wpS_get ?_)
  show wpS _ _ _ _ (do let u ← elem' (arrOf st) i; let v ← elem' (arrOf st) j; lt' u v) Q st
  rw [elem'_eq, elem'_eq, ex, ey]
  refine wpS_bind (wpS_pure (wpS_bind (wpS_pure (lt_of C B.kind mx my ?_))))
  unfold R at h
  rw [ex, ey] at h
  exact h
theorem rev_of {st : SortSt} {i j : Nat} {Q : Unit → SortSt → Prop} (h : Q () (setArr st (mirror (arrOf st) i j ((j - i) / 2)))) : wpS (model prog w) A E s (reverseSlice' i j) Q st := by
  rw [reverseSlice'_eq]; exact wpS_modify h
theorem bin_of {st : SortSt} {lo n ok : Nat} {Q : Bool → SortSt → Prop} (C : Cm prog w A s κ rk a0) (hn : lo + n ≤ a0.size) (hok : ok ≤ n) (B : Bs a0 κ st) (hs : Up rk (arrOf st) lo (lo + ok))
    (h : ∀ st', Bs a0 κ st' → Up rk (arrOf st') lo (lo + n) → Kept (arrOf st) (arrOf st') lo (lo + n) → pendingOf st' = pendingOf st → Q true st') : wpS (model prog w) A E s (binarySort' lo n ok) Q st := by
  rw [binarySort'_eq]
  refine wpS_bind (wpS_mono (wpS_forRange (I := fun k c t => c = (none, ()) ∧ Bs a0 κ t ∧ Up rk (arrOf t) lo (lo + min k n) ∧ Kept (arrOf st) (arrOf t) lo (lo + n) ∧ pendingOf t = pendingOf st)
    (Q := fun c t => c = (none, ()) ∧ Bs a0 κ t ∧ Up rk (arrOf t) lo (lo + n) ∧ Kept (arrOf st) (arrOf t) lo (lo + n) ∧ pendingOf t = pendingOf st) ?step ?fin ?init) ?post)
  case post =>
    rintro c t ⟨rfl, B', u, k, p⟩
    exact wpS_pure (h t B' u k p)
  case init =>
    refine ⟨rfl, B, fun i j h1 h2 h3 => ?_, Kept.refl _ _ _, rfl⟩
    by_cases z : ok = 0
    · have : i = j := by omega
      rw [this]; exact Nat.le_refl _
    · exact hs i j h1 h2 (by omega)
  case fin =>
    rintro c t ⟨hc, B', u, k, p⟩
    refine ⟨hc, B', ?_, k, p⟩
    rwa [show min (max (max ok 1) n) n = n by omega] at u
  case step =>
    rintro k c t h1 h2 ⟨rfl, B', u, kp, pe⟩
    rw [show min k n = k by omega] at u
    refine wpS_bind (wpS_mono (wpS_forRange (I := fun x c t' => t' = t ∧ ∃ l r, c = (none, l, r) ∧ l ≤ r ∧ r ≤ k ∧ r - l ≤ k - x ∧
        (∀ i, i < l → R rk (arrOf t) (lo + i) ≤ R rk (arrOf t) (lo + k)) ∧ (∀ i, r ≤ i → i < k → R rk (arrOf t) (lo + k) < R rk (arrOf t) (lo + i)))
      (Q := fun c t' => t' = t ∧ ∃ l r, c = (none, l, r) ∧ l ≤ k ∧ (∀ i, i < l → R rk (arrOf t) (lo + i) ≤ R rk (arrOf t) (lo + k)) ∧ (∀ i, l ≤ i → i < k → R rk (arrOf t) (lo + k) < R rk (arrOf t) (lo + i))) ?st2 ?fin2 ?init2) ?post2)
    case init2 => exact ⟨rfl, 0, k, rfl, by omega, by omega, by omega, fun i hi => by omega, fun i h1 h2 => by omega⟩
    case fin2 =>
      rintro c t' ⟨rfl, l, r, rfl, a1, a2, a3, a4, a5⟩
      have : l = r := by omega
      subst this
      exact ⟨rfl, l, l, rfl, a2, a4, a5⟩
    case st2 =>
      rintro x c t' _ hx ⟨rfl, l, r, rfl, a1, a2, a3, a4, a5⟩
      dsimp only
      by_cases z : l ≥ r
      · rw [if_pos z]
        have : l = r := by omega
        subst this
        exact wpS_pure ⟨rfl, l, l, rfl, a2, a4, a5⟩
      · rw [if_neg z]
        refine wpS_bind (ltAt_of C B' (by omega) (by omega) ?_)
        by_cases y : R rk (arrOf t') (lo + k) < R rk (arrOf t') (lo + (l + r) / 2)
        · simp only [y, decide_true, if_true]
          refine wpS_pure ⟨rfl, l, (l + r) / 2, rfl, by omega, by omega, by omega, a4, fun i b1 b2 => ?_⟩
          have := u (lo + (l + r) / 2) (lo + i) (by omega) (by omega) (by omega)
          omega
        · simp only [y, decide_false, Bool.false_eq_true, if_false]
          refine wpS_pure ⟨rfl, (l + r) / 2 + 1, r, rfl, by omega, by omega, by omega, fun i b1 => ?_, a5⟩
          have := u (lo + i) (lo + (l + r) / 2) (by omega) (by omega) (by omega)
          omega
    case post2 =>
      rintro c t' ⟨rfl, l, r, rfl, a1, a2, a3⟩
      show wpS _ _ _ _ (do moveDown' (lo + k) (lo + l); pure (ForInStep.yield (none, ()))) _ _
      rw [moveDown'_eq]
      have hz : lo + k < (arrOf t').size := by rw [B'.size]; omega
      refine wpS_bind (wpS_modify (wpS_pure ⟨rfl, B'.set (bubble_perm _ _ _), ?_, kp.trans (kept_bubble hz (by omega) (by omega) (by omega)), pe⟩))
      rw [show min (k + 1) n = k + 1 by omega]
      intro i j b1 b2 b3
      show R rk (bubble (arrOf t') (lo + k) (lo + k - (lo + l))) i ≤ R rk (bubble (arrOf t') (lo + k) (lo + k - (lo + l))) j
      have f1 : ∀ i, lo ≤ i → i < lo + l → R rk (arrOf t') i ≤ R rk (arrOf t') (lo + k) := fun i c1 c2 => by have := a2 (i - lo) (by omega); rwa [show lo + (i - lo) = i by omega] at this
      have f2 : ∀ i, lo + l ≤ i → i < lo + k → R rk (arrOf t') (lo + k) < R rk (arrOf t') i := fun i c1 c2 => by have := a3 (i - lo) (by omega) (by omega); rwa [show lo + (i - lo) = i by omega] at this
      rw [R_bubble hz (by omega), R_bubble hz (by omega), show lo + k - (lo + k - (lo + l)) = lo + l by omega]
      repeat' split
      all_goals first
        | (exfalso; omega)
        | exact Nat.le_refl _
        | exact f1 _ (by omega) (by omega)
        | exact Nat.le_of_lt (f2 _ (by omega) (by omega))
        | exact u _ _ (by omega) (by omega) (by omega)
end
end TS
namespace TS
open PySem PyProof.Rows
section
variable {prog : Program} {w : World} {A : Around} {E : Value → Shared → Prop} {s : Shared}
variable {rk : Keyed → Nat} {a0 : Array Keyed} {κ : SortKind}
theorem up_one {xs : Array Keyed} {lo x : Nat} (u : Up rk xs lo (lo + x)) (x1 : 1 ≤ x) (h : ¬ R rk xs (lo + x) < R rk xs (lo + x - 1)) : Up rk xs lo (lo + (x + 1)) := fun i j h1 h2 h3 => by
  by_cases hj : j < lo + x
  · exact u i j h1 h2 hj
  · have e : j = lo + x := by omega
    subst e
    by_cases hi : i = lo + x
    · rw [hi]; exact Nat.le_refl _
    · have := u i (lo + x - 1) h1 (by omega) (by omega)
      omega
theorem down_one {xs : Array Keyed} {lo x : Nat} (u : Down rk xs lo (lo + x)) (x1 : 1 ≤ x) (h : R rk xs (lo + x) ≤ R rk xs (lo + x - 1)) : Down rk xs lo (lo + (x + 1)) := fun i j h1 h2 h3 => by
  by_cases hj : j < lo + x
  · exact u i j h1 h2 hj
  · have e : j = lo + x := by omega
    subst e
    by_cases hi : i = lo + x
    · rw [hi]; exact Nat.le_refl _
    · have := u i (lo + x - 1) h1 (by omega) (by omega)
      omega
def RunQ (a0 : Array Keyed) (κ : SortKind) (rk : Keyed → Nat) (lo nrem : Nat) (st : SortSt) (r : Option Nat) (t : SortSt) : Prop :=
  ∃ m, r = some m ∧ Bs a0 κ t ∧ 1 ≤ m ∧ m ≤ nrem ∧ Up rk (arrOf t) lo (lo + m) ∧ Kept (arrOf st) (arrOf t) lo (lo + nrem) ∧ pendingOf t = pendingOf st
theorem run_of {st : SortSt} {lo nrem : Nat} (C : Cm prog w A s κ rk a0) (hn : lo + nrem ≤ a0.size) (n1 : 1 ≤ nrem) (B : Bs a0 κ st) : wpS (model prog w) A E s (countRun' lo nrem) (RunQ a0 κ rk lo nrem st) st := by
  rw [countRun'_eq]
  refine wpS_bind (wpS_mono (wpS_forRange (I := fun x c t => t = st ∧ c = (none, x) ∧ Up rk (arrOf st) lo (lo + x))
    (Q := fun c t => t = st ∧ ∃ n, c = (none, n) ∧ 1 ≤ n ∧ n ≤ nrem ∧ Up rk (arrOf st) lo (lo + n) ∧ (n = nrem ∨ R rk (arrOf st) (lo + n) < R rk (arrOf st) (lo + n - 1))) ?step ?fin
    ⟨rfl, rfl, fun i j h1 h2 h3 => by rw [show i = j by omega]; exact Nat.le_refl _⟩) ?post)
  case fin =>
    rintro c t ⟨rfl, rfl, u⟩
    rw [show max 1 nrem = nrem by omega] at u ⊢
    exact ⟨rfl, nrem, rfl, n1, Nat.le_refl _, u, .inl rfl⟩
  case step =>
    rintro x c t x1 xn ⟨rfl, rfl, u⟩
    dsimp only
    refine wpS_bind (ltAt_of C B (by omega) (by omega) ?_)
    by_cases y : R rk (arrOf t) (lo + x) < R rk (arrOf t) (lo + x - 1)
    · simp only [y, decide_true, if_true]
      exact wpS_pure ⟨rfl, x, rfl, x1, by omega, u, .inr y⟩
    · simp only [y, decide_false, Bool.false_eq_true, if_false]
      exact wpS_pure ⟨rfl, rfl, up_one u x1 y⟩
  case post =>
    rintro c t ⟨rfl, n, rfl, m1, mn, u, hor⟩
    dsimp only
    by_cases z : n = nrem
    · rw [if_pos (by simpa using z)]
      exact wpS_pure ⟨n, rfl, B, m1, mn, u, Kept.refl _ _ _, rfl⟩
    · rw [if_neg (by simpa using z)]
      have lt := hor.resolve_left z
      suffices D : ∀ t', Bs a0 κ t' → Down rk (arrOf t') lo (lo + (n + 1)) → Kept (arrOf t) (arrOf t') lo (lo + nrem) → pendingOf t' = pendingOf t → wpS (model prog w) A E s _ (RunQ a0 κ rk lo nrem t) t' by
        by_cases g : n > 1
        · rw [if_pos g]
          refine wpS_bind (ltAt_of C B (by omega) (by omega) ?_)
          by_cases y : R rk (arrOf t) lo < R rk (arrOf t) (lo + n - 1)
          · simp only [y, decide_true, if_true]
            exact wpS_pure ⟨n, rfl, B, m1, mn, u, Kept.refl _ _ _, rfl⟩
          · simp only [y, decide_false, Bool.false_eq_true, if_false]
            have hz : lo + n ≤ (arrOf t).size := by rw [B.size]; omega
            have all : ∀ k, lo ≤ k → k < lo + n → R rk (arrOf t) k = R rk (arrOf t) (lo + n - 1) := fun k h1 h2 => by
              have a1 := u lo k (by omega) h1 h2
              have a2 := u k (lo + n - 1) h1 (by omega) (by omega)
              omega
            refine wpS_bind (rev_of (D _ (B.set (mirror_perm _ _ _ _)) ?_ (kept_mirror hz (Nat.le_refl _) (by omega)) rfl))
            refine down_one (fun i j h1 h2 h3 => ?_) m1 ?_
            · show R rk (mirror (arrOf t) _ _ _) j ≤ R rk (mirror (arrOf t) _ _ _) i
              rw [R_alike hz all, R_alike hz all, all i h1 (by omega), all j (by omega) h3]
              exact Nat.le_refl _
            · show R rk (mirror (arrOf t) _ _ _) _ ≤ R rk (mirror (arrOf t) _ _ _) _
              rw [R_alike hz all, R_alike hz all]
              omega
        · rw [if_neg g]
          refine D _ B (down_one (fun i j h1 h2 h3 => by rw [show i = j by omega]; exact Nat.le_refl _) m1 (by omega)) (Kept.refl _ _ _) rfl
      intro t1 B1 d1 k1 p1
      refine wpS_bind (wpS_lift (wpAny_rule ⟨rfl, ?_⟩))
      refine wpS_bind (wpS_mono (wpS_forRange (I := fun x c t' => ∃ q, c = (none, x, q) ∧ Bs a0 κ t' ∧ Down rk (arrOf t') lo (lo + x) ∧ q + 1 ≤ x ∧ (∀ i, lo + x - (q + 1) ≤ i → i < lo + x → R rk (arrOf t') i = R rk (arrOf t') (lo + x - 1)) ∧ Kept (arrOf t) (arrOf t') lo (lo + nrem) ∧ pendingOf t' = pendingOf t)
        (Q := fun c t' => ∃ x q, c = (none, x, q) ∧ n + 1 ≤ x ∧ x ≤ nrem ∧ Bs a0 κ t' ∧ Down rk (arrOf t') lo (lo + x) ∧ q + 1 ≤ x ∧ (∀ i, lo + x - (q + 1) ≤ i → i < lo + x → R rk (arrOf t') i = R rk (arrOf t') (lo + x - 1)) ∧ Kept (arrOf t) (arrOf t') lo (lo + nrem) ∧ pendingOf t' = pendingOf t) ?step2 ?fin2
        ⟨0, rfl, B1, d1, by omega, (fun i h1 h2 => by rw [show i = lo + (n + 1) - 1 by omega]), k1, p1⟩) ?post2)
      case fin2 =>
        rintro c t' ⟨q, rfl, B', d, q1, al, k, p⟩
        rw [show max (n + 1) nrem = nrem by omega] at d q1 al ⊢
        exact ⟨nrem, q, rfl, by omega, Nat.le_refl _, B', d, q1, al, k, p⟩
      case step2 =>
        rintro x c t' x1 xn ⟨q, rfl, B', d, q1, al, k, p⟩
        dsimp only
        have hz : lo + x ≤ (arrOf t').size := by rw [B'.size]; omega
        refine wpS_bind (ltAt_of C B' (by omega) (by omega) ?_)
        by_cases y : R rk (arrOf t') (lo + x) < R rk (arrOf t') (lo + x - 1)
        · simp only [y, decide_true, if_true]
          by_cases g : q > 0
          · rw [if_pos g]
            refine wpS_bind (rev_of (wpS_pure ⟨0, rfl, B'.set (mirror_perm _ _ _ _), ?_, by omega, (fun i h1 h2 => by rw [show i = lo + (x + 1) - 1 by omega]), k.trans (kept_mirror hz (by omega) (by omega)), p⟩))
            refine down_one (fun i j h1 h2 h3 => ?_) (by omega) ?_
            · show R rk (mirror (arrOf t') _ _ _) j ≤ R rk (mirror (arrOf t') _ _ _) i
              rw [R_alike hz al, R_alike hz al]
              exact d i j h1 h2 h3
            · show R rk (mirror (arrOf t') _ _ _) _ ≤ R rk (mirror (arrOf t') _ _ _) _
              rw [R_alike hz al, R_alike hz al]
              omega
          · rw [if_neg g]
            exact wpS_pure ⟨0, rfl, B', down_one d (by omega) (by omega), by omega, (fun i h1 h2 => by rw [show i = lo + (x + 1) - 1 by omega]), k, p⟩
        · simp only [y, decide_false, Bool.false_eq_true, if_false]
          refine wpS_bind (ltAt_of C B' (by omega) (by omega) ?_)
          by_cases g : R rk (arrOf t') (lo + x - 1) < R rk (arrOf t') (lo + x)
          · simp only [g, decide_true, if_true]
            exact wpS_pure ⟨x, q, rfl, x1, by omega, B', d, q1, al, k, p⟩
          · simp only [g, decide_false, Bool.false_eq_true, if_false]
            have e : R rk (arrOf t') (lo + x) = R rk (arrOf t') (lo + x - 1) := by omega
            refine wpS_pure ⟨q + 1, rfl, B', down_one d (by omega) (by omega), by omega, fun i h1 h2 => ?_, k, p⟩
            rw [show lo + (x + 1) - 1 = lo + x by omega]
            by_cases hi : i = lo + x
            · rw [hi]
            · rw [e]; exact al i (by omega) (by omega)
      case post2 =>
        rintro c t2 ⟨x, q, rfl, x1, xn, B2, d, q1, al, k2, p2⟩
        dsimp only
        have hz : lo + x ≤ (arrOf t2).size := by rw [B2.size]; omega
        suffices T : ∀ t3, Bs a0 κ t3 → Down rk (arrOf t3) lo (lo + x) → Kept (arrOf t) (arrOf t3) lo (lo + nrem) → pendingOf t3 = pendingOf t → wpS (model prog w) A E s _ (RunQ a0 κ rk lo nrem t) t3 by
          by_cases g : q > 0
          · rw [if_pos g]
            refine wpS_bind (rev_of (T _ (B2.set (mirror_perm _ _ _ _)) (fun i j h1 h2 h3 => ?_) (k2.trans (kept_mirror hz (by omega) (by omega))) p2))
            show R rk (mirror (arrOf t2) _ _ _) j ≤ R rk (mirror (arrOf t2) _ _ _) i
            rw [R_alike hz al, R_alike hz al]
            exact d i j h1 h2 h3
          · rw [if_neg g]
            exact T _ B2 d k2 p2
        intro t3 B3 d3 k3 p3
        have hz3 : lo + x ≤ (arrOf t3).size := by rw [B3.size]; omega
        refine wpS_bind (rev_of ?_)
        have B4 := B3.set (mirror_perm (arrOf t3) lo (lo + x) ((lo + x - lo) / 2))
        have u4 : Up rk (arrOf (setArr t3 (mirror (arrOf t3) lo (lo + x) ((lo + x - lo) / 2)))) lo (lo + x) := fun i j h1 h2 h3 => by
          show R rk (mirror (arrOf t3) _ _ _) i ≤ R rk (mirror (arrOf t3) _ _ _) j
          rw [R_mirror hz3, R_mirror hz3, if_pos (by omega), if_pos (by omega)]
          exact d3 _ _ (by omega) (by omega) (by omega)
        have k4 : Kept (arrOf t) (arrOf (setArr t3 (mirror (arrOf t3) lo (lo + x) ((lo + x - lo) / 2)))) lo (lo + nrem) := k3.trans (kept_mirror hz3 (Nat.le_refl _) (by omega))
        have p4 : pendingOf (setArr t3 (mirror (arrOf t3) lo (lo + x) ((lo + x - lo) / 2))) = pendingOf t := p3
        generalize setArr t3 (mirror (arrOf t3) lo (lo + x) ((lo + x - lo) / 2)) = t4 at B4 u4 k4 p4 ⊢
        refine wpS_bind (wpS_mono (wpS_forRange (I := fun y c t' => t' = t4 ∧ c = (none, y) ∧ Up rk (arrOf t4) lo (lo + y)) (Q := fun c t' => t' = t4 ∧ ∃ y, c = (none, y) ∧ x ≤ y ∧ y ≤ nrem ∧ Up rk (arrOf t4) lo (lo + y)) ?step3 ?fin3 ⟨rfl, rfl, u4⟩) ?post3)
        case fin3 =>
          rintro c t' ⟨rfl, rfl, v⟩
          rw [show max x nrem = nrem by omega] at v ⊢
          exact ⟨rfl, nrem, rfl, xn, Nat.le_refl _, v⟩
        case step3 =>
          rintro y c t' y1 yn ⟨rfl, rfl, v⟩
          dsimp only
          refine wpS_bind (ltAt_of C B4 (by omega) (by omega) ?_)
          by_cases g : R rk (arrOf t') (lo + y) < R rk (arrOf t') (lo + y - 1)
          · simp only [g, decide_true, if_true]
            exact wpS_pure ⟨rfl, y, rfl, y1, by omega, v⟩
          · simp only [g, decide_false, Bool.false_eq_true, if_false]
            exact wpS_pure ⟨rfl, rfl, up_one v (by omega) g⟩
        case post3 =>
          rintro c t' ⟨rfl, y, rfl, y1, yn, v⟩
          exact wpS_pure ⟨y, rfl, B4, by omega, yn, v, k4, p4⟩
end
end TS
namespace TS
open PySem PyProof.Rows
def gal : Bool → Keyed → Array Keyed → Nat → Nat → Nat → StateT SortSt Sem (Option Nat) := sortPriv% PySem.Builtin.gallop
section
variable {prog : Program} {w : World} {A : Around} {E : Value → Shared → Prop} {s : Shared}
variable {rk : Keyed → Nat} {a0 : Array Keyed} {κ : SortKind}
def bey (rk : Keyed → Nat) (left : Bool) (key : Keyed) (arr : Array Keyed) (base i : Nat) : Bool := if left then decide (R rk arr (base + i) < rk key) else !decide (rk key < R rk arr (base + i))
theorem bey_mono {left : Bool} {key : Keyed} {arr : Array Keyed} {base n i j : Nat} (u : Up rk arr base (base + n)) (h1 : i ≤ j) (h2 : j < n) (h : bey rk left key arr base j = true) : bey rk left key arr base i = true := by
  have := u (base + i) (base + j) (by omega) (by omega) (by omega)
  unfold bey at h ⊢
  cases left
  · simp at h ⊢; omega
  · simp at h ⊢; omega
theorem elem_of {arr : Array Keyed} {i : Nat} {st : SortSt} {Q : Keyed → SortSt → Prop} {p : Keyed} (h : arr[i]? = some p) (q : Q p st) : wpS (model prog w) A E s (elem' arr i) Q st := by
  rw [elem'_eq, h]; exact wpS_pure q
def In0 (a0 arr : Array Keyed) : Prop := ∀ x ∈ arr.toList, x ∈ a0.toList
theorem In0.at {arr : Array Keyed} (h : In0 a0 arr) {i : Nat} (hi : i < arr.size) : ∃ p, arr[i]? = some p ∧ p ∈ a0.toList := ⟨arr[i], getElem?_pos _ i hi, h _ (by simp)⟩
theorem R_at {arr : Array Keyed} {i : Nat} {p : Keyed} (h : arr[i]? = some p) : R rk arr i = rk p := by unfold R; rw [h]
theorem gal_of {st : SortSt} {left : Bool} {key : Keyed} {arr : Array Keyed} {base n hint : Nat} {Q : Option Nat → SortSt → Prop} (C : Cm prog w A s κ rk a0) (hk : kindOf st = κ) (ia : In0 a0 arr) (ik : key ∈ a0.toList) (hz : base + n ≤ arr.size) (hh : hint < n)
    (u : Up rk arr base (base + n)) (h : ∀ k, k ≤ n → (∀ i, i < k → bey rk left key arr base i = true) → (∀ i, k ≤ i → i < n → bey rk left key arr base i = false) → Q (some k) st) : wpS (model prog w) A E s (gal left key arr base n hint) Q st := by
  have by0 : ∀ (i : Nat) (Q' : Option Bool → SortSt → Prop), i < n → Q' (some (bey rk left key arr base i)) st → wpS (model prog w) A E s (do let x ← elem' arr (base + i); if left then lt' x key else return (← lt' key x).map (!·)) Q' st := by
    intro i Q' hi q
    obtain ⟨p, e, m⟩ := ia.at (show base + i < arr.size by omega)
    refine wpS_bind (elem_of e ?_)
    unfold bey at q
    rw [R_at e] at q
    cases left with
    | true => 
      rw [if_pos rfl] at q ⊢
      exact lt_of C hk m ik q
    | false =>
      rw [if_neg (by decide)] at q ⊢
      exact wpS_bind (lt_of C hk ik m (wpS_pure q))
  refine wpS_bind (by0 hint _ hh ?_)
  cases hr : bey rk left key arr base hint with
  | true =>
    dsimp only
    rw [if_pos rfl]
    refine wpS_bind (wpS_mono (wpS_forRange (I := fun x c t => t = st ∧ ∃ l o, c = (none, l, o) ∧ l < o ∧ l < n - hint ∧ x + 1 ≤ o ∧ bey rk left key arr base (hint + l) = true)
      (Q := fun c t => t = st ∧ ∃ l o, c = (none, l, o) ∧ l < o ∧ l < n - hint ∧ bey rk left key arr base (hint + l) = true ∧ (n - hint ≤ o ∨ bey rk left key arr base (hint + o) = false)) ?step ?fin ⟨rfl, 0, 1, rfl, by omega, by omega, by omega, hr⟩) ?post)
    case fin =>
      rintro c t ⟨rfl, l, o, rfl, a1, a2, a3, a4⟩
      exact ⟨rfl, l, o, rfl, a1, a2, a4, .inl (by omega)⟩
    case step =>
      rintro x c t _ xn ⟨rfl, l, o, rfl, a1, a2, a3, a4⟩
      dsimp only
      by_cases z : o ≥ n - hint
      · rw [if_pos z]
        exact wpS_pure ⟨rfl, l, o, rfl, a1, a2, a4, .inl z⟩
      · rw [if_neg z]
        refine wpS_bind (by0 (hint + o) _ (by omega) ?_)
        cases y : bey rk left key arr base (hint + o) with
        | true =>
          dsimp only
          rw [if_neg (by decide)]
          exact wpS_pure ⟨rfl, _, _, rfl, by omega, by omega, by omega, y⟩
        | false =>
          dsimp only
          rw [if_pos (by decide)]
          exact wpS_pure ⟨rfl, l, o, rfl, a1, a2, a4, .inr y⟩
    case post =>
      rintro c t ⟨ht, l, o, rfl, a1, a2, a3, a4⟩
      obtain rfl := ht.symm
      dsimp only
      have le1 : hint + l + 1 ≤ hint + min o (n - hint) := by omega
      have le2 : hint + min o (n - hint) ≤ n := by omega
      have b1 : ∀ i, i < hint + l + 1 → bey rk left key arr base i = true := fun i h1 => bey_mono u (show i ≤ hint + l by omega) (by omega) a3
      have b2 : ∀ i, hint + min o (n - hint) ≤ i → i < n → bey rk left key arr base i = false := fun i h1 h2 => by
        rcases a4 with a4 | a4
        · omega
        · cases y' : bey rk left key arr base i with
          | false => rfl
          | true => rw [bey_mono u (show hint + o ≤ i by omega) h2 y'] at a4; cases a4
      refine wpS_bind (wpS_mono (wpS_forRange (I := fun x c t => t = st ∧ ∃ lo hi, c = (none, lo, hi) ∧ lo ≤ hi ∧ hi ≤ n ∧ hi - lo ≤ n - x ∧ (∀ i, i < lo → bey rk left key arr base i = true) ∧ (∀ i, hi ≤ i → i < n → bey rk left key arr base i = false))
        (Q := fun c t => t = st ∧ ∃ lo hi, c = (none, lo, hi) ∧ hi ≤ n ∧ (∀ i, i < hi → bey rk left key arr base i = true) ∧ (∀ i, hi ≤ i → i < n → bey rk left key arr base i = false)) ?stepB ?finB ⟨rfl, _, _, rfl, le1, le2, by omega, b1, b2⟩) ?postB)
      case finB =>
        rintro c t ⟨rfl, lo, hi, rfl, a1, a2, a3, a4, a5⟩
        rw [show lo = hi by omega] at a4
        exact ⟨rfl, lo, hi, rfl, a2, a4, a5⟩
      case stepB =>
        rintro x c t _ xn ⟨rfl, lo, hi, rfl, a1, a2, a3, a4, a5⟩
        dsimp only
        by_cases z : lo ≥ hi
        · rw [if_pos z]
          rw [show lo = hi by omega] at a4
          exact wpS_pure ⟨rfl, lo, hi, rfl, a2, a4, a5⟩
        · rw [if_neg z]
          refine wpS_bind (by0 (lo + (hi - lo) / 2) _ (by omega) ?_)
          cases y : bey rk left key arr base (lo + (hi - lo) / 2) with
          | true =>
            dsimp only
            rw [if_pos rfl]
            exact wpS_pure ⟨rfl, _, _, rfl, by omega, a2, by omega, fun i h1 => bey_mono u (show i ≤ lo + (hi - lo) / 2 by omega) (by omega) y, a5⟩
          | false =>
            dsimp only
            rw [if_neg (by decide)]
            refine wpS_pure ⟨rfl, _, _, rfl, by omega, by omega, by omega, a4, fun i h1 h2 => ?_⟩
            cases y' : bey rk left key arr base i with
            | false => rfl
            | true => rw [bey_mono u h1 h2 y'] at y; cases y
      case postB =>
        rintro c t ⟨rfl, lo, hi, rfl, a1, a2, a3⟩
        exact wpS_pure (h hi a1 a2 a3)
  | false =>
    dsimp only
    rw [if_neg (by decide)]
    refine wpS_bind (wpS_mono (wpS_forRange (I := fun x c t => t = st ∧ ∃ l o, c = (none, l, o) ∧ l < o ∧ l < hint + 1 ∧ x + 1 ≤ o ∧ bey rk left key arr base (hint - l) = false)
      (Q := fun c t => t = st ∧ ∃ l o, c = (none, l, o) ∧ l < o ∧ l < hint + 1 ∧ bey rk left key arr base (hint - l) = false ∧ (hint + 1 ≤ o ∨ bey rk left key arr base (hint - o) = true)) ?step ?fin ⟨rfl, 0, 1, rfl, by omega, by omega, by omega, hr⟩) ?post)
    case fin =>
      rintro c t ⟨rfl, l, o, rfl, a1, a2, a3, a4⟩
      exact ⟨rfl, l, o, rfl, a1, a2, a4, .inl (by omega)⟩
    case step =>
      rintro x c t _ xn ⟨rfl, l, o, rfl, a1, a2, a3, a4⟩
      dsimp only
      by_cases z : o ≥ hint + 1
      · rw [if_pos z]
        exact wpS_pure ⟨rfl, l, o, rfl, a1, a2, a4, .inl z⟩
      · rw [if_neg z]
        refine wpS_bind (by0 (hint - o) _ (by omega) ?_)
        cases y : bey rk left key arr base (hint - o) with
        | false =>
          dsimp only
          rw [if_neg (by decide)]
          exact wpS_pure ⟨rfl, _, _, rfl, by omega, by omega, by omega, y⟩
        | true =>
          dsimp only
          rw [if_pos rfl]
          exact wpS_pure ⟨rfl, l, o, rfl, a1, a2, a4, .inr y⟩
    case post =>
      rintro c t ⟨ht, l, o, rfl, a1, a2, a3, a4⟩
      obtain rfl := ht.symm
      dsimp only
      have le1 : hint + 1 - min o (hint + 1) ≤ hint - l := by omega
      have le2 : hint - l ≤ n := by omega
      have b1 : ∀ i, i < hint + 1 - min o (hint + 1) → bey rk left key arr base i = true := fun i h1 => by
        rcases a4 with a4 | a4
        · omega
        · exact bey_mono u (show i ≤ hint - o by omega) (by omega) a4
      have b2 : ∀ i, hint - l ≤ i → i < n → bey rk left key arr base i = false := fun i h1 h2 => by
        cases y' : bey rk left key arr base i with
        | false => rfl
        | true => rw [bey_mono u h1 h2 y'] at a3; cases a3
      refine wpS_bind (wpS_mono (wpS_forRange (I := fun x c t => t = st ∧ ∃ lo hi, c = (none, lo, hi) ∧ lo ≤ hi ∧ hi ≤ n ∧ hi - lo ≤ n - x ∧ (∀ i, i < lo → bey rk left key arr base i = true) ∧ (∀ i, hi ≤ i → i < n → bey rk left key arr base i = false))
        (Q := fun c t => t = st ∧ ∃ lo hi, c = (none, lo, hi) ∧ hi ≤ n ∧ (∀ i, i < hi → bey rk left key arr base i = true) ∧ (∀ i, hi ≤ i → i < n → bey rk left key arr base i = false)) ?stepB ?finB ⟨rfl, _, _, rfl, le1, le2, by omega, b1, b2⟩) ?postB)
      case finB =>
        rintro c t ⟨rfl, lo, hi, rfl, a1, a2, a3, a4, a5⟩
        rw [show lo = hi by omega] at a4
        exact ⟨rfl, lo, hi, rfl, a2, a4, a5⟩
      case stepB =>
        rintro x c t _ xn ⟨rfl, lo, hi, rfl, a1, a2, a3, a4, a5⟩
        dsimp only
        by_cases z : lo ≥ hi
        · rw [if_pos z]
          rw [show lo = hi by omega] at a4
          exact wpS_pure ⟨rfl, lo, hi, rfl, a2, a4, a5⟩
        · rw [if_neg z]
          refine wpS_bind (by0 (lo + (hi - lo) / 2) _ (by omega) ?_)
          cases y : bey rk left key arr base (lo + (hi - lo) / 2) with
          | true =>
            dsimp only
            rw [if_pos rfl]
            exact wpS_pure ⟨rfl, _, _, rfl, by omega, a2, by omega, fun i h1 => bey_mono u (show i ≤ lo + (hi - lo) / 2 by omega) (by omega) y, a5⟩
          | false =>
            dsimp only
            rw [if_neg (by decide)]
            refine wpS_pure ⟨rfl, _, _, rfl, by omega, by omega, by omega, a4, fun i h1 h2 => ?_⟩
            cases y' : bey rk left key arr base i with
            | false => rfl
            | true => rw [bey_mono u h1 h2 y'] at y; cases y
      case postB =>
        rintro c t ⟨rfl, lo, hi, rfl, a1, a2, a3⟩
        exact wpS_pure (h hi a1 a2 a3)
end
end TS
namespace TS
open PySem PyProof.Rows
section
variable {rk : Keyed → Nat}
def Le (rk : Keyed → Nat) (x y : Keyed) : Prop := rk x ≤ rk y
section
variable {le : Keyed → Keyed → Prop}
def Srt (le : Keyed → Keyed → Prop) (l : List Keyed) : Prop := l.Pairwise le
structure Mi (le : Keyed → Keyed → Prop) (a b out : List Keyed) (i j : Nat) : Prop where
  pm : out.Perm (a.take i ++ b.take j)
  up : Srt le out
  ba : ∀ x ∈ out, ∀ y ∈ a.drop i, le x y
  bb : ∀ x ∈ out, ∀ y ∈ b.drop j, le x y
theorem srt_app {l m : List Keyed} : Srt le (l ++ m) ↔ Srt le l ∧ Srt le m ∧ ∀ x ∈ l, ∀ y ∈ m, le x y := List.pairwise_append
theorem srt_drop {l : List Keyed} (h : Srt le l) (i : Nat) : Srt le (l.drop i) := List.Pairwise.sublist (List.drop_sublist i l) h
theorem drop_at {l : List Keyed} {i : Nat} {x : Keyed} (h : l[i]? = some x) : l.drop i = x :: l.drop (i + 1) := by
  obtain ⟨hi, e⟩ := List.getElem?_eq_some_iff.mp h
  rw [List.drop_eq_getElem_cons hi, e]
theorem take_at {l : List Keyed} {i : Nat} {x : Keyed} (h : l[i]? = some x) : l.take (i + 1) = l.take i ++ [x] := by rw [List.take_succ, h]; rfl
theorem srt_head (rf : ∀ x, le x x) {l : List Keyed} (s : Srt le l) {i : Nat} {x : Keyed} (h : l[i]? = some x) : ∀ y ∈ l.drop i, le x y := fun y hy => by
  have := srt_drop s i
  rw [drop_at h] at this hy
  rcases List.mem_cons.mp hy with e | e
  · rw [e]; exact rf _
  · exact (List.pairwise_cons.mp this).1 y e
theorem Mi.pushA (rf : ∀ x, le x x) {a b out : List Keyed} {i j : Nat} {x : Keyed} (h : Mi le a b out i j) (sa : Srt le a) (hx : a[i]? = some x) (hb : ∀ y ∈ b.drop j, le x y) : Mi le a b (out ++ [x]) (i + 1) j := by
  have da := drop_at hx
  have mx : x ∈ a.drop i := by rw [da]; exact List.mem_cons_self
  refine ⟨?_, ?_, ?_, ?_⟩
  · rw [take_at hx, List.append_assoc]
    refine (h.pm.append_right [x]).trans ?_
    rw [List.append_assoc]
    exact List.Perm.append_left _ List.perm_append_comm
  · refine srt_app.mpr ⟨h.up, List.pairwise_singleton _ _, fun y hy z hz => ?_⟩
    rw [List.mem_singleton.mp hz]
    exact h.ba y hy x mx
  · intro y hy z hz
    have hz' : z ∈ a.drop i := by rw [da]; exact List.mem_cons_of_mem _ hz
    rcases List.mem_append.mp hy with e | e
    · exact h.ba y e z hz'
    · rw [List.mem_singleton.mp e]
      exact srt_head rf sa hx z hz'
  · intro y hy z hz
    rcases List.mem_append.mp hy with e | e
    · exact h.bb y e z hz
    · rw [List.mem_singleton.mp e]
      exact hb z hz
theorem Mi.pushB (rf : ∀ x, le x x) {a b out : List Keyed} {i j : Nat} {x : Keyed} (h : Mi le a b out i j) (sb : Srt le b) (hx : b[j]? = some x) (ha : ∀ y ∈ a.drop i, le x y) : Mi le a b (out ++ [x]) i (j + 1) := by
  have db := drop_at hx
  have mx : x ∈ b.drop j := by rw [db]; exact List.mem_cons_self
  refine ⟨?_, ?_, ?_, ?_⟩
  · rw [take_at hx, ← List.append_assoc]
    exact h.pm.append_right [x]
  · refine srt_app.mpr ⟨h.up, List.pairwise_singleton _ _, fun y hy z hz => ?_⟩
    rw [List.mem_singleton.mp hz]
    exact h.bb y hy x mx
  · intro y hy z hz
    rcases List.mem_append.mp hy with e | e
    · exact h.ba y e z hz
    · rw [List.mem_singleton.mp e]
      exact ha z hz
  · intro y hy z hz
    have hz' : z ∈ b.drop j := by rw [db]; exact List.mem_cons_of_mem _ hz
    rcases List.mem_append.mp hy with e | e
    · exact h.bb y e z hz'
    · rw [List.mem_singleton.mp e]
      exact srt_head rf sb hx z hz'
theorem seg_succ {l : List Keyed} {i k : Nat} {x : Keyed} (h : l[i + k]? = some x) : (l.take (i + (k + 1))).drop i = (l.take (i + k)).drop i ++ [x] := by
  have hl := (List.getElem?_eq_some_iff.mp h).1
  rw [show i + (k + 1) = (i + k) + 1 by omega, take_at h, List.drop_append_of_le_length (by rw [List.length_take]; omega)]
theorem Mi.manyA (rf : ∀ x, le x x) {a b out : List Keyed} {i j : Nat} (h : Mi le a b out i j) (sa : Srt le a) : ∀ k, i + k ≤ a.length → (∀ n x, n < k → a[i + n]? = some x → ∀ y ∈ b.drop j, le x y) → Mi le a b (out ++ (a.take (i + k)).drop i) (i + k) j
  | 0, _, _ => by rw [Nat.add_zero, List.drop_eq_nil_of_le (by rw [List.length_take]; omega), List.append_nil]; exact h
  | k + 1, hl, hc => by
    have e : a[i + k]? = some a[i + k] := List.getElem?_eq_getElem (by omega)
    rw [seg_succ e, ← List.append_assoc, show i + (k + 1) = i + k + 1 by omega]
    exact (Mi.manyA rf h sa k (by omega) fun n x hn => hc n x (by omega)).pushA rf sa e (hc k _ (by omega) e)
theorem Mi.manyB (rf : ∀ x, le x x) {a b out : List Keyed} {i j : Nat} (h : Mi le a b out i j) (sb : Srt le b) : ∀ k, j + k ≤ b.length → (∀ n x, n < k → b[j + n]? = some x → ∀ y ∈ a.drop i, le x y) → Mi le a b (out ++ (b.take (j + k)).drop j) i (j + k)
  | 0, _, _ => by rw [Nat.add_zero, List.drop_eq_nil_of_le (by rw [List.length_take]; omega), List.append_nil]; exact h
  | k + 1, hl, hc => by
    have e : b[j + k]? = some b[j + k] := List.getElem?_eq_getElem (by omega)
    rw [seg_succ e, ← List.append_assoc, show j + (k + 1) = j + k + 1 by omega]
    exact (Mi.manyB rf h sb k (by omega) fun n x hn => hc n x (by omega)).pushB rf sb e (hc k _ (by omega) e)
def Mg (le : Keyed → Keyed → Prop) (a b r : List Keyed) : Prop := r.Perm (a ++ b) ∧ Srt le r
theorem perm_ends (a b out : List Keyed) (i j : Nat) (h : out.Perm (a.take i ++ b.take j)) : (out ++ a.drop i ++ b.drop j).Perm (a ++ b) := by
  have e1 := (h.append_right (a.drop i)).append_right (b.drop j)
  refine e1.trans ?_
  have e2 : ((a.take i ++ b.take j) ++ a.drop i).Perm (a ++ b.take j) := by
    rw [List.append_assoc]
    refine (List.Perm.append_left _ List.perm_append_comm).trans ?_
    rw [← List.append_assoc, List.take_append_drop]
  refine (e2.append_right _).trans ?_
  rw [List.append_assoc, List.take_append_drop]
theorem Mi.doneB {a b out : List Keyed} {i j : Nat} (h : Mi le a b out i j) (sa : Srt le a) (hj : b.length ≤ j) : Mg le a b (out ++ a.drop i ++ b.drop j) := by
  refine ⟨perm_ends a b out i j h.pm, ?_⟩
  rw [List.drop_eq_nil_of_le hj, List.append_nil]
  exact srt_app.mpr ⟨h.up, srt_drop sa i, h.ba⟩
theorem Mi.doneA {a b out : List Keyed} {i j : Nat} (h : Mi le a b out i j) (sb : Srt le b) (hi : a.length ≤ i) : Mg le a b (out ++ a.drop i ++ b.drop j) := by
  refine ⟨perm_ends a b out i j h.pm, ?_⟩
  rw [List.drop_eq_nil_of_le hi, List.append_nil]
  exact srt_app.mpr ⟨h.up, srt_drop sb j, h.bb⟩
theorem Mi.last {a b out : List Keyed} {i j : Nat} (h : Mi le a b out i j) (sa : Srt le a) (sb : Srt le b) (top : ∀ x ∈ b.drop j, ∀ y ∈ a.drop i, le x y) : Mg le a b (out ++ b.drop j ++ a.drop i) := by
  constructor
  · refine List.Perm.trans ?_ (perm_ends a b out i j h.pm)
    rw [List.append_assoc, List.append_assoc]
    exact List.Perm.append_left _ List.perm_append_comm
  · rw [List.append_assoc]
    refine srt_app.mpr ⟨h.up, srt_app.mpr ⟨srt_drop sb j, srt_drop sa i, top⟩, fun x hx y hy => ?_⟩
    rcases List.mem_append.mp hy with e | e
    · exact h.bb x hx y e
    · exact h.ba x hx y e
end
theorem srt_of_up {xs : Array Keyed} (u : Up rk xs 0 xs.size) : Srt (Le rk) xs.toList := by
  refine List.pairwise_iff_getElem.mpr fun i j hi hj hij => ?_
  have := u i j (Nat.zero_le _) (by omega) (by simpa using hj)
  rw [R_at (p := xs.toList[i]) (by simp), R_at (p := xs.toList[j]) (by simp)] at this
  exact this
theorem up_of_srt {xs : Array Keyed} (h : Srt (Le rk) xs.toList) : Up rk xs 0 xs.size := fun i j _ hij hj => by
  rcases Nat.lt_or_eq_of_le hij with z | z
  · have := List.pairwise_iff_getElem.mp h i j (by simp; omega) (by simpa using hj) z
    rw [R_at (i := i) (p := xs.toList[i]'(by simp; omega)) (by simp), R_at (i := j) (p := xs.toList[j]'(by simpa using hj)) (by simp)]
    exact this
  · rw [z]; exact Nat.le_refl _
end
end TS
namespace TS
open PySem PyProof.Rows
def mLo : Array Keyed → Array Keyed → StateT SortSt Sem (Array Keyed) := sortPriv% PySem.Builtin.mergeLo
section
variable {prog : Program} {w : World} {A : Around} {E : Value → Shared → Prop} {s : Shared}
variable {rk : Keyed → Nat} {a0 : Array Keyed} {κ : SortKind}
structure Like (st t : SortSt) : Prop where
  arr : arrOf t = arrOf st
  pend : pendingOf t = pendingOf st
  kind : kindOf t = kindOf st
  ok : failedOf t = failedOf st
theorem Like.refl (st : SortSt) : Like st st := ⟨rfl, rfl, rfl, rfl⟩
def MQ (rk : Keyed → Nat) (a b : Array Keyed) (st : SortSt) (r : Array Keyed) (t : SortSt) : Prop := Mg (Le rk) a.toList b.toList r.toList ∧ Like st t
theorem hv {β γ : Type} {F : γ} {K : γ → StateT SortSt Sem β} {Q : β → SortSt → Prop} {st : SortSt} (h : wpS (model prog w) A E s (K F) Q st) : wpS (model prog w) A E s (have x := F; K x) Q st := h
theorem wIte {β : Type} {c : Prop} [Decidable c] {m n : StateT SortSt Sem β} {Q : β → SortSt → Prop} {st : SortSt} (h1 : c → wpS (model prog w) A E s m Q st) (h2 : ¬ c → wpS (model prog w) A E s n Q st) : wpS (model prog w) A E s (if c then m else n) Q st := by
  split
  · exact h1 ‹_›
  · exact h2 ‹_›
theorem beqT {a b : Nat} (h : (a == b) = true) : a = b := by simpa using h
theorem beqF {a b : Nat} (h : ¬ (a == b) = true) : ¬ a = b := by simpa using h
theorem ext_tail (xs : Array Keyed) (i : Nat) : (xs.extract i).toList = xs.toList.drop i := by rw [Array.toList_extract, List.extract_eq_take_drop, List.take_of_length_le (by simp)]
theorem ext_seg (xs : Array Keyed) (i j : Nat) : (xs.extract i j).toList = (xs.toList.take j).drop i := by rw [Array.toList_extract, List.extract_eq_take_drop, List.drop_take]
theorem at_list {xs : Array Keyed} {i : Nat} {x : Keyed} (h : xs[i]? = some x) : xs.toList[i]? = some x := by rw [← h]; simp
theorem setG {st : SortSt} {g : Nat} {Q : Unit → SortSt → Prop} (h : Q () (SortSt.mk' (kindOf st) (arrOf st) (pendingOf st) g (failedOf st))) : wpS (model prog w) A E s ((sortPriv% PySem.Builtin.setMinGallop) g) Q st := wpS_modify h
theorem Like.gal {st t : SortSt} (h : Like st t) (g : Nat) : Like st (SortSt.mk' (kindOf t) (arrOf t) (pendingOf t) g (failedOf t)) := ⟨h.arr, h.pend, h.kind, h.ok⟩
theorem setL {st0 st : SortSt} {g : Nat} {Q : Unit → SortSt → Prop} (l : Like st0 st) (h : ∀ t, Like st0 t → Q () t) : wpS (model prog w) A E s ((sortPriv% PySem.Builtin.setMinGallop) g) Q st := setG (h _ (l.gal g))
theorem mLo_of {st : SortSt} {a b : Array Keyed} (C : Cm prog w A s κ rk a0) (hk : kindOf st = κ) (ia : In0 a0 a) (ib : In0 a0 b) (a1 : 1 ≤ a.size) (b1 : 1 ≤ b.size) (sa : Srt (Le rk) a.toList) (sb : Srt (Le rk) b.toList)
    (first : ∀ x, b[0]? = some x → ∀ y ∈ a.toList, Le rk x y) (last : ∀ x ∈ b.toList, ∀ y, a[a.size - 1]? = some y → Le rk x y) : wpS (model prog w) A E s (mLo a b) (MQ rk a b st) st := by
  have la : a.toList.length = a.size := Array.length_toList
  have lb : b.toList.length = b.size := Array.length_toList
  have ua := up_of_srt sa
  have ub := up_of_srt sb
  have doneB : ∀ out i j t, Mi (Le rk) a.toList b.toList (Array.toList out) i j → Like st t → b.size ≤ j → MQ rk a b st (out ++ a.extract i ++ b.extract j) t := fun out i j t m l hj => by
    refine ⟨?_, l⟩
    rw [Array.toList_append, Array.toList_append, ext_tail, ext_tail]
    exact m.doneB sa (by omega)
  have doneA : ∀ out i j t, Mi (Le rk) a.toList b.toList (Array.toList out) i j → Like st t → a.size ≤ i → MQ rk a b st (out ++ a.extract i ++ b.extract j) t := fun out i j t m l hi => by
    refine ⟨?_, l⟩
    rw [Array.toList_append, Array.toList_append, ext_tail, ext_tail]
    exact m.doneA sb (by omega)
  have lastA : ∀ out i j t, Mi (Le rk) a.toList b.toList (Array.toList out) i j → Like st t → i + 1 = a.size → MQ rk a b st (out ++ b.extract j ++ a.extract i) t := fun out i j t m l hi => by
    refine ⟨?_, l⟩
    rw [Array.toList_append, Array.toList_append, ext_tail, ext_tail]
    refine m.last sa sb fun x hx y hy => last x (List.mem_of_mem_drop hx) y ?_
    have e : a.toList[i]? = some a.toList[i] := List.getElem?_eq_getElem (by omega)
    rw [drop_at e, List.drop_eq_nil_of_le (by omega)] at hy
    rw [List.mem_singleton.mp hy, show a.size - 1 = i by omega, ← Array.getElem?_toList]
    exact e
  have stepB : ∀ out i j x y, Mi (Le rk) a.toList b.toList (Array.toList out) i j → a[i]? = some x → b[j]? = some y → rk y ≤ rk x → Mi (Le rk) a.toList b.toList (Array.toList (out.push y)) i (j + 1) := fun out i j x y m hx hy le => by
    rw [Array.toList_push]
    exact m.pushB (fun _ => Nat.le_refl _) sb (at_list hy) fun z hz => Nat.le_trans le (srt_head (fun _ => Nat.le_refl _) sa (at_list hx) z hz)
  have stepA : ∀ out i j x y, Mi (Le rk) a.toList b.toList (Array.toList out) i j → a[i]? = some x → b[j]? = some y → rk x ≤ rk y → Mi (Le rk) a.toList b.toList (Array.toList (out.push x)) (i + 1) j := fun out i j x y m hx hy le => by
    rw [Array.toList_push]
    exact m.pushA (fun _ => Nat.le_refl _) sa (at_list hx) fun z hz => Nat.le_trans le (srt_head (fun _ => Nat.le_refl _) sb (at_list hy) z hz)
  refine wpS_bind (wpS_lift (wpAny_rule ⟨rfl, ?_⟩))
  obtain ⟨b0, eb0, mb0⟩ := ib.at (show 0 < b.size by omega)
  refine wpS_bind (elem_of eb0 ?_)
  have m0 : Mi (Le rk) a.toList b.toList (Array.toList #[b0]) 0 1 := by
    have e : b.toList[0]? = some b0 := at_list eb0
    have n : Mi (Le rk) a.toList b.toList [] 0 0 := ⟨List.Perm.refl _, List.Pairwise.nil, (fun x h => by cases h), (fun x h => by cases h)⟩
    exact n.pushB (fun _ => Nat.le_refl _) sb e fun y hy => first b0 eb0 y hy
  refine hv (hv (hv ?_))
  by_cases z1 : 1 = b.size
  · rw [if_pos (by simpa using z1)]
    exact wpS_pure (doneB _ _ _ _ m0 (Like.refl st) (by omega))
  rw [if_neg (by simpa using z1)]
  by_cases z2 : 0 + 1 = a.size
  · rw [if_pos (by simpa using z2)]
    exact wpS_pure (lastA _ _ _ _ m0 (Like.refl st) z2)
  rw [if_neg (by simpa using z2)]
  refine wpS_bind (wpS_get ?_)
  refine wpS_bind (wpS_mono (wpS_forRange (I := fun x c t => ∃ out i j g, c = (none, out, i, j, g) ∧ Mi (Le rk) a.toList b.toList (Array.toList out) i j ∧ i + 1 < a.size ∧ j < b.size ∧ x ≤ i + j ∧ Like st t)
    (Q := fun c t => ∃ r, c.1 = some r ∧ MQ rk a b st r t) ?step ?fin ⟨_, _, _, _, rfl, m0, by omega, by omega, by omega, Like.refl st⟩) ?post)
  case post =>
    rintro c t ⟨r, hr, q⟩
    obtain ⟨c1, c2⟩ := c
    cases hr
    exact wpS_pure q
  case fin =>
    rintro c t ⟨out, i, j, g, rfl, m, h1, h2, h3, l⟩
    omega
  case step =>
    rintro x c t _ xn ⟨out, i, j, g, rfl, m, h1, h2, h3, l⟩
    refine wpS_bind (wpS_mono (wpS_forRange (I := fun y c t' => ∃ out' i' j' p q, c = (none, out', i', j', p, q) ∧ t' = t ∧ Mi (Le rk) a.toList b.toList (Array.toList out') i' j' ∧ i' + 1 < a.size ∧ j' < b.size ∧ i' + j' = i + j + y)
      (Q := fun c t' => (∃ r, c.1 = some r ∧ MQ rk a b st r t') ∨ (∃ out' i' j' p q, c = (none, out', i', j', p, q) ∧ t' = t ∧ Mi (Le rk) a.toList b.toList (Array.toList out') i' j' ∧ i' + 1 < a.size ∧ j' < b.size ∧ x + 1 ≤ i' + j')) ?step2 ?fin2 ⟨_, _, _, _, _, rfl, rfl, m, h1, h2, rfl⟩) ?post2)
    case fin2 =>
      rintro c t' ⟨out', i', j', p, q, rfl, rfl, m', k1, k2, k3⟩
      omega
    case step2 =>
      rintro y c t' _ yn ⟨out', i', j', p, q, rfl, rfl, m', k1, k2, k3⟩
      obtain ⟨u, eu, mu⟩ := ia.at (show i' < a.size by omega)
      obtain ⟨v, ev, mv⟩ := ib.at k2
      refine wpS_bind (elem_of ev (wpS_bind (elem_of eu (wpS_bind (lt_of C (l.kind.trans hk) mv mu ?_)))))
      by_cases d : rk v < rk u
      · rw [decide_eq_true d]
        dsimp only
        rw [if_pos rfl]
        have m2 := stepB out' i' j' u v m' eu ev (Nat.le_of_lt d)
        refine wpS_bind (elem_of ev ?_)
        by_cases z : j' + 1 = b.size
        · rw [if_pos (by simpa using z)]
          exact wpS_pure (.inl ⟨_, rfl, doneB _ _ _ _ m2 l (by omega)⟩)
        · rw [if_neg (by simpa using z)]
          split
          · exact wpS_pure (.inr ⟨_, _, _, _, _, rfl, rfl, m2, k1, by omega, by omega⟩)
          · exact wpS_pure ⟨_, _, _, _, _, rfl, rfl, m2, k1, by omega, by omega⟩
      · rw [decide_eq_false d]
        dsimp only
        rw [if_neg (by decide)]
        have m2 := stepA out' i' j' u v m' eu ev (by omega)
        refine wpS_bind (elem_of eu ?_)
        by_cases z : i' + 1 + 1 = a.size
        · rw [if_pos (by simpa using z)]
          exact wpS_pure (.inl ⟨_, rfl, lastA _ _ _ _ m2 l z⟩)
        · rw [if_neg (by simpa using z)]
          split
          · exact wpS_pure (.inr ⟨_, _, _, _, _, rfl, rfl, m2, by omega, k2, by omega⟩)
          · exact wpS_pure ⟨_, _, _, _, _, rfl, rfl, m2, by omega, k2, by omega⟩
    case post2 =>
      rintro c t' (⟨r, hr, q⟩ | ⟨out', i', j', p, q, rfl, rfl, m', k1, k2, k3⟩)
      · obtain ⟨c1, c2⟩ := c
        cases hr
        exact wpS_pure ⟨r, rfl, q⟩
      · refine wpS_bind (wpS_lift (wpAny_rule ⟨rfl, ?_⟩))
        refine wpS_bind (wpS_mono (wpS_forRange (I := fun y c t2 => ∃ out2 i2 j2 g2 p q, c = (none, out2, i2, j2, g2, p, q) ∧ Like st t2 ∧ Mi (Le rk) a.toList b.toList (Array.toList out2) i2 j2 ∧ i2 + 1 < a.size ∧ j2 < b.size ∧ x + 1 ≤ i2 + j2)
          (Q := fun c t2 => (∃ r, c.1 = some r ∧ MQ rk a b st r t2) ∨ (∃ out2 i2 j2 g2 p q, c = (none, out2, i2, j2, g2, p, q) ∧ Like st t2 ∧ Mi (Le rk) a.toList b.toList (Array.toList out2) i2 j2 ∧ i2 + 1 < a.size ∧ j2 < b.size ∧ x + 1 ≤ i2 + j2)) ?step3 ?fin3 ⟨_, _, _, _, _, _, rfl, l, m', k1, k2, k3⟩) ?post3)
        case fin3 =>
          rintro c t2 h
          exact .inr h
        case post3 =>
          rintro c t2 (⟨r, hr, q⟩ | ⟨out2, i2, j2, g2, p, q, rfl, l2, m2, n1, n2, n3⟩)
          · obtain ⟨c1, c2⟩ := c
            cases hr
            exact wpS_pure ⟨r, rfl, q⟩
          · refine wpS_bind (setG ?_)
            exact wpS_pure ⟨_, _, _, _, rfl, m2, n1, n2, n3, l2.gal _⟩
        case step3 =>
          rintro y c t2 _ yn ⟨out2, i2, j2, g2, p, q, rfl, l2, m2, n1, n2, n3⟩
          obtain ⟨v, ev, mv⟩ := ib.at n2
          refine wIte (fun _ => ?_) (fun _ => ?_)
          all_goals
            refine wpS_bind (setL l2 fun t3 l3 => ?_)
            refine wpS_bind (elem_of ev ?_)
            refine wpS_bind (gal_of (base := i2) (n := a.size - i2) (hint := 0) C (l3.kind.trans hk) ia mv (show i2 + (a.size - i2) ≤ a.size by omega) (by omega) (fun x y h1 h2 h3 => ua x y (by omega) h2 (by omega)) fun k kn ka kb => ?_)
            have mA : ∀ k', k' ≤ k → Mi (Le rk) a.toList b.toList (Array.toList (out2 ++ a.extract i2 (i2 + k'))) (i2 + k') j2 := fun k' hk' => by
              rw [Array.toList_append, ext_seg]
              refine m2.manyA (fun _ => Nat.le_refl _) sa k' (by omega) fun n x hn hx z hz => ?_
              have h := ka n (by omega)
              unfold bey at h
              rw [if_neg (by decide), R_at (p := x) (by rw [← Array.getElem?_toList]; exact hx)] at h
              have hle : rk x ≤ rk v := by simpa using h
              exact Nat.le_trans hle (srt_head (fun _ => Nat.le_refl _) sb (at_list ev) z hz)
            have gB : i2 + k < a.size → rk v < R rk a (i2 + k) := fun h => by
              have h := kb k (Nat.le_refl _) (by omega)
              unfold bey at h
              rw [if_neg (by decide)] at h
              simpa using h
            have m3 := mA k (Nat.le_refl _)
            refine wIte (fun kz => ?_) (fun kz => ?_)
            refine wIte (fun z => wpS_pure (.inl ⟨_, rfl, lastA _ _ _ _ m3 l3 (beqT z)⟩)) (fun z1 => ?_)
            refine wIte (fun z => wpS_pure (.inl ⟨_, rfl, doneA _ _ _ _ m3 l3 (Nat.le_of_eq (beqT z).symm)⟩)) (fun z2 => ?_)
            have z1 : ¬ i2 + k + 1 = a.size := beqF z1
            have z2 : ¬ i2 + k = a.size := beqF z2
            have f1 : i2 + k + 1 < a.size := by omega
            have f2 : x + 1 ≤ i2 + k + j2 := by omega
            have f3 := gB (by omega)
            generalize out2 ++ a.extract i2 (i2 + k) = out3 at m3 ⊢
            generalize i2 + k = i3 at m3 f1 f2 f3 ⊢
            rotate_left
            have k0 : k = 0 := by omega
            subst k0
            have e0 : out2 ++ a.extract i2 (i2 + 0) = out2 := by simp <;> omega
            rw [e0, Nat.add_zero] at m3
            have f1 : i2 + 1 < a.size := by omega
            have f2 : x + 1 ≤ i2 + j2 := by omega
            have f3 := gB (by omega)
            rw [Nat.add_zero] at f3
            clear e0
            generalize out2 = out3 at m3 ⊢
            generalize i2 = i3 at m3 f1 f2 f3 ⊢
            rotate_left
            all_goals
              obtain ⟨u3, eu3, mu3⟩ := ia.at (show i3 < a.size by omega)
              rw [R_at eu3] at f3
              refine wpS_bind (elem_of ev ?_)
              have m4 := stepB out3 i3 j2 u3 v m3 eu3 ev (Nat.le_of_lt f3)
              refine wIte (fun z => wpS_pure (.inl ⟨_, rfl, doneB _ _ _ _ m4 l3 (Nat.le_of_eq (beqT z).symm)⟩)) (fun z3 => ?_)
              have z3 : ¬ j2 + 1 = b.size := beqF z3
              refine wpS_bind (elem_of eu3 ?_)
              refine wpS_bind (gal_of (base := j2 + 1) (n := b.size - (j2 + 1)) (hint := 0) C (l3.kind.trans hk) ib mu3 (show j2 + 1 + (b.size - (j2 + 1)) ≤ b.size by omega) (by omega) (fun x y h1 h2 h3 => ub x y (by omega) h2 (by omega)) fun k' kn' ka' kb' => ?_)
              have m5 : Mi (Le rk) a.toList b.toList (Array.toList (out3.push v ++ b.extract (j2 + 1) (j2 + 1 + k'))) i3 (j2 + 1 + k') := by
                rw [Array.toList_append, ext_seg]
                refine m4.manyB (fun _ => Nat.le_refl _) sb k' (by omega) fun n x hn hx z hz => ?_
                have h := ka' n hn
                unfold bey at h
                rw [if_pos rfl, R_at (p := x) (by rw [← Array.getElem?_toList]; exact hx)] at h
                have hle : rk x < rk u3 := by simpa using h
                exact Nat.le_trans (Nat.le_of_lt hle) (srt_head (fun _ => Nat.le_refl _) sa (at_list eu3) z hz)
              have gA : j2 + 1 + k' < b.size → rk u3 ≤ R rk b (j2 + 1 + k') := fun h => by
                have h := kb' k' (Nat.le_refl _) (by omega)
                unfold bey at h
                rw [if_pos rfl] at h
                simpa using h
              refine wIte (fun kz' => ?_) (fun kz' => ?_)
              refine wIte (fun z => wpS_pure (.inl ⟨_, rfl, doneB _ _ _ _ m5 l3 (Nat.le_of_eq (beqT z).symm)⟩)) (fun z4 => ?_)
              have z4 : ¬ j2 + 1 + k' = b.size := beqF z4
              have f4 : j2 + 1 + k' < b.size := by omega
              have f5 : x + 1 ≤ i3 + (j2 + 1 + k') := by omega
              have f6 := gA f4
              generalize out3.push v ++ b.extract (j2 + 1) (j2 + 1 + k') = out4 at m5 ⊢
              generalize j2 + 1 + k' = j4 at m5 f4 f5 f6 ⊢
              rotate_left
              have k0 : k' = 0 := by omega
              subst k0
              have e0 : out3.push v ++ b.extract (j2 + 1) (j2 + 1 + 0) = out3.push v := by simp <;> omega
              rw [e0, Nat.add_zero] at m5
              have f4 : j2 + 1 < b.size := by omega
              have f5 : x + 1 ≤ i3 + (j2 + 1) := by omega
              have f6 := gA (by omega)
              rw [Nat.add_zero] at f6
              clear e0
              generalize out3.push v = out4 at m5 ⊢
              generalize j2 + 1 = j4 at m5 f4 f5 f6 ⊢
              rotate_left
              all_goals
                obtain ⟨v4, ev4, mv4⟩ := ib.at f4
                rw [R_at ev4] at f6
                have m6 := stepA out4 i3 j4 u3 v4 m5 eu3 ev4 f6
                refine wpS_bind (elem_of eu3 ?_)
                refine wIte (fun z => wpS_pure (.inl ⟨_, rfl, lastA _ _ _ _ m6 l3 (beqT z)⟩)) (fun z5 => ?_)
                have z5 : ¬ i3 + 1 + 1 = a.size := beqF z5
                refine wIte (fun _ => ?_) (fun _ => ?_)
                · exact wpS_pure (.inr ⟨out4.push u3, i3 + 1, j4, _, _, _, rfl, l3, m6, by omega, f4, by omega⟩)
                · exact wpS_pure ⟨out4.push u3, i3 + 1, j4, _, _, _, rfl, l3, m6, by omega, f4, by omega⟩
end
end TS
namespace TS
open PySem PyProof.Rows
def mHi : Array Keyed → Array Keyed → StateT SortSt Sem (Array Keyed) := sortPriv% PySem.Builtin.mergeHi
def Ge (rk : Keyed → Nat) (x y : Keyed) : Prop := rk y ≤ rk x
theorem srt_rev {rk : Keyed → Nat} {l : List Keyed} (h : Srt (Le rk) l) : Srt (Ge rk) l.reverse := List.pairwise_reverse.mpr h
theorem mg_rev {rk : Keyed → Nat} {a b r : List Keyed} (h : Mg (Ge rk) b.reverse a.reverse r.reverse) : Mg (Le rk) a b r := by
  obtain ⟨p, u⟩ := h
  refine ⟨?_, List.pairwise_reverse.mp u⟩
  have e : b.reverse ++ a.reverse = (a ++ b).reverse := by rw [List.reverse_append]
  rw [e] at p
  exact (List.reverse_perm r).symm.trans (p.trans (List.reverse_perm _))
theorem drop_rev {l : List Keyed} {n : Nat} (h : n ≤ l.length) : l.reverse.drop (l.length - n) = (l.take n).reverse := by
  rw [List.drop_reverse]; congr 2; omega
theorem get_rev {l : List Keyed} {n : Nat} {x : Keyed} (h1 : 1 ≤ n) (h : l[n - 1]? = some x) : l.reverse[l.length - n]? = some x := by
  have hl := (List.getElem?_eq_some_iff.mp h).1
  rw [List.getElem?_reverse (by omega), ← h]
  congr 1
  omega
theorem seg_rev {l : List Keyed} {m n : Nat} (h1 : m ≤ n) (h : n ≤ l.length) : (l.reverse.take (l.length - n + (n - m))).drop (l.length - n) = ((l.take n).drop m).reverse := by
  rw [List.drop_take, drop_rev h, Nat.add_sub_cancel_left, List.take_reverse, List.length_take]
  congr 2
  omega
theorem take_le {rk : Keyed → Nat} {l : List Keyed} {n : Nat} {x : Keyed} (s : Srt (Le rk) l) (h1 : 1 ≤ n) (h : l[n - 1]? = some x) : ∀ y ∈ l.take n, rk y ≤ rk x := fun y hy => by
  obtain ⟨hl, e⟩ := List.getElem?_eq_some_iff.mp h
  obtain ⟨i, hi⟩ := List.mem_iff_getElem?.mp hy
  have hil := (List.getElem?_eq_some_iff.mp hi).1
  rw [List.length_take] at hil
  rw [List.getElem?_take_of_lt (by omega), List.getElem?_eq_getElem (by omega)] at hi
  have ey := Option.some.inj hi
  rcases Nat.lt_or_eq_of_le (show i ≤ n - 1 by omega) with z | z
  · have := List.pairwise_iff_getElem.mp s i (n - 1) (by omega) hl z
    rw [ey, e] at this; exact this
  · subst z
    rw [← ey, e]; exact Nat.le_refl _
section
variable {prog : Program} {w : World} {A : Around} {E : Value → Shared → Prop} {s : Shared}
variable {rk : Keyed → Nat} {a0 : Array Keyed} {κ : SortKind}
def Mh (rk : Keyed → Nat) (a b out : Array Keyed) (na nb : Nat) : Prop := na ≤ a.size ∧ nb ≤ b.size ∧ Mi (Ge rk) b.toList.reverse a.toList.reverse out.toList (b.size - nb) (a.size - na)
theorem Mh.pushB {a b out : Array Keyed} {na nb : Nat} {x : Keyed} (h : Mh rk a b out na nb) (sb : Srt (Le rk) b.toList) (n1 : 1 ≤ nb) (hx : b[nb - 1]? = some x) (ha : ∀ y ∈ a.toList.take na, rk y ≤ rk x) : Mh rk a b (out.push x) na (nb - 1) := by
  obtain ⟨h1, h2, m⟩ := h
  refine ⟨h1, by omega, ?_⟩
  have lb : b.toList.length = b.size := Array.length_toList
  have la : a.toList.length = a.size := Array.length_toList
  rw [Array.toList_push, show b.size - (nb - 1) = b.size - nb + 1 by omega]
  refine m.pushA (fun _ => Nat.le_refl _) (srt_rev sb) ?_ fun y hy => ha y ?_
  · rw [← lb]; exact get_rev n1 (at_list hx)
  · rw [← la, drop_rev (by omega)] at hy; exact List.mem_reverse.mp hy
theorem Mh.pushA {a b out : Array Keyed} {na nb : Nat} {x : Keyed} (h : Mh rk a b out na nb) (sa : Srt (Le rk) a.toList) (n1 : 1 ≤ na) (hx : a[na - 1]? = some x) (hb : ∀ y ∈ b.toList.take nb, rk y ≤ rk x) : Mh rk a b (out.push x) (na - 1) nb := by
  obtain ⟨h1, h2, m⟩ := h
  refine ⟨by omega, h2, ?_⟩
  have lb : b.toList.length = b.size := Array.length_toList
  have la : a.toList.length = a.size := Array.length_toList
  rw [Array.toList_push, show a.size - (na - 1) = a.size - na + 1 by omega]
  refine m.pushB (fun _ => Nat.le_refl _) (srt_rev sa) ?_ fun y hy => hb y ?_
  · rw [← la]; exact get_rev n1 (at_list hx)
  · rw [← lb, drop_rev (by omega)] at hy; exact List.mem_reverse.mp hy
theorem Mh.manyA {a b out : Array Keyed} {na nb m : Nat} (h : Mh rk a b out na nb) (sa : Srt (Le rk) a.toList) (hm : m ≤ na) (hc : ∀ n x, m ≤ n → n < na → a[n]? = some x → ∀ y ∈ b.toList.take nb, rk y ≤ rk x) : Mh rk a b (out ++ (a.extract m na).reverse) m nb := by
  obtain ⟨h1, h2, mi⟩ := h
  refine ⟨by omega, h2, ?_⟩
  have lb : b.toList.length = b.size := Array.length_toList
  have la : a.toList.length = a.size := Array.length_toList
  have := mi.manyB (fun _ => Nat.le_refl _) (srt_rev sa) (na - m) (by rw [List.length_reverse]; omega) fun n x hn hx y hy => hc (na - 1 - n) x (by omega) (by omega) ?_ y ?_
  · rw [← la, seg_rev hm (by omega), ← ext_seg, la, show a.size - na + (na - m) = a.size - m by omega] at this
    rw [Array.toList_append, Array.toList_reverse]
    exact this
  · rw [List.getElem?_reverse (by omega)] at hx
    rw [← Array.getElem?_toList, ← hx]
    congr 1
    omega
  · rw [← lb, drop_rev (by omega)] at hy; exact List.mem_reverse.mp hy
theorem Mh.manyB {a b out : Array Keyed} {na nb m : Nat} (h : Mh rk a b out na nb) (sb : Srt (Le rk) b.toList) (hm : m ≤ nb) (hc : ∀ n x, m ≤ n → n < nb → b[n]? = some x → ∀ y ∈ a.toList.take na, rk y ≤ rk x) : Mh rk a b (out ++ (b.extract m nb).reverse) na m := by
  obtain ⟨h1, h2, mi⟩ := h
  refine ⟨h1, by omega, ?_⟩
  have lb : b.toList.length = b.size := Array.length_toList
  have la : a.toList.length = a.size := Array.length_toList
  have := mi.manyA (fun _ => Nat.le_refl _) (srt_rev sb) (nb - m) (by rw [List.length_reverse]; omega) fun n x hn hx y hy => hc (nb - 1 - n) x (by omega) (by omega) ?_ y ?_
  · rw [← lb, seg_rev hm (by omega), ← ext_seg, lb, show b.size - nb + (nb - m) = b.size - m by omega] at this
    rw [Array.toList_append, Array.toList_reverse]
    exact this
  · rw [List.getElem?_reverse (by omega)] at hx
    rw [← Array.getElem?_toList, ← hx]
    congr 1
    omega
  · rw [← la, drop_rev (by omega)] at hy; exact List.mem_reverse.mp hy
theorem ext_head (xs : Array Keyed) (j : Nat) : (xs.extract 0 j).toList = xs.toList.take j := by rw [ext_seg, List.drop_zero]
theorem Mh.done {a b out : Array Keyed} {na nb : Nat} (h : Mh rk a b out na nb) (sa : Srt (Le rk) a.toList) (sb : Srt (Le rk) b.toList) (z : na = 0 ∨ nb = 0) : Mg (Le rk) a.toList b.toList (a.extract 0 na ++ b.extract 0 nb ++ out.reverse).toList := by
  obtain ⟨h1, h2, m⟩ := h
  have lb : b.toList.length = b.size := Array.length_toList
  have la : a.toList.length = a.size := Array.length_toList
  refine mg_rev ?_
  have e : (a.extract 0 na ++ b.extract 0 nb ++ out.reverse).toList.reverse = out.toList ++ b.toList.reverse.drop (b.size - nb) ++ a.toList.reverse.drop (a.size - na) := by
    rw [Array.toList_append, Array.toList_append, Array.toList_reverse, ext_head, ext_head, List.reverse_append, List.reverse_append, List.reverse_reverse, ← la, ← lb, drop_rev (by omega), drop_rev (by omega), List.append_assoc]
  rw [e]
  rcases z with z | z
  · exact m.doneB (srt_rev sb) (by rw [List.length_reverse]; omega)
  · exact m.doneA (srt_rev sa) (by rw [List.length_reverse]; omega)
theorem Mh.first {a b out : Array Keyed} {na nb : Nat} (h : Mh rk a b out na nb) (sa : Srt (Le rk) a.toList) (sb : Srt (Le rk) b.toList) (lo : ∀ x ∈ a.toList.take na, ∀ y ∈ b.toList.take nb, rk y ≤ rk x) : Mg (Le rk) a.toList b.toList (b.extract 0 nb ++ a.extract 0 na ++ out.reverse).toList := by
  obtain ⟨h1, h2, m⟩ := h
  have lb : b.toList.length = b.size := Array.length_toList
  have la : a.toList.length = a.size := Array.length_toList
  refine mg_rev ?_
  have e : (b.extract 0 nb ++ a.extract 0 na ++ out.reverse).toList.reverse = out.toList ++ a.toList.reverse.drop (a.size - na) ++ b.toList.reverse.drop (b.size - nb) := by
    rw [Array.toList_append, Array.toList_append, Array.toList_reverse, ext_head, ext_head, List.reverse_append, List.reverse_append, List.reverse_reverse, ← la, ← lb, drop_rev (by omega), drop_rev (by omega), List.append_assoc]
  rw [e]
  refine m.last (srt_rev sb) (srt_rev sa) fun x hx y hy => ?_
  rw [← la, drop_rev (by omega)] at hx
  rw [← lb, drop_rev (by omega)] at hy
  exact lo x (List.mem_reverse.mp hx) y (List.mem_reverse.mp hy)
theorem mHi_of {st : SortSt} {a b : Array Keyed} (C : Cm prog w A s κ rk a0) (hk : kindOf st = κ) (ia : In0 a0 a) (ib : In0 a0 b) (a1 : 1 ≤ a.size) (b1 : 1 ≤ b.size) (sa : Srt (Le rk) a.toList) (sb : Srt (Le rk) b.toList)
    (first : ∀ x, b[0]? = some x → ∀ y ∈ a.toList, Le rk x y) (last : ∀ x ∈ b.toList, ∀ y, a[a.size - 1]? = some y → Le rk x y) : wpS (model prog w) A E s (mHi a b) (MQ rk a b st) st := by
  have la : a.toList.length = a.size := Array.length_toList
  have lb : b.toList.length = b.size := Array.length_toList
  have ua := up_of_srt sa
  have ub := up_of_srt sb
  refine wpS_bind (wpS_lift (wpAny_rule ⟨rfl, ?_⟩))
  obtain ⟨x0, ex0, mx0⟩ := ia.at (show a.size - 1 < a.size by omega)
  refine wpS_bind (elem_of ex0 ?_)
  have doneM : ∀ out na nb t, Mh rk a b out na nb → Like st t → na = 0 ∨ nb = 0 → MQ rk a b st (a.extract 0 na ++ b.extract 0 nb ++ Array.reverse out) t := fun out na nb t m l z => ⟨m.done sa sb z, l⟩
  have firstM : ∀ out na nb t, Mh rk a b out na nb → Like st t → nb = 1 → MQ rk a b st (b.extract 0 nb ++ a.extract 0 na ++ Array.reverse out) t := fun out na nb t m l z => by
    refine ⟨m.first sa sb fun x hx y hy => ?_, l⟩
    subst z
    obtain ⟨b0, eb0, mb0⟩ := ib.at (show 0 < b.size by omega)
    have := take_le sb (Nat.le_refl 1) (at_list eb0) y hy
    exact Nat.le_trans this (first b0 eb0 x (List.mem_of_mem_take hx))
  have stepA : ∀ out na nb x y, Mh rk a b out na nb → 1 ≤ na → 1 ≤ nb → a[na - 1]? = some x → b[nb - 1]? = some y → rk y ≤ rk x → Mh rk a b (out.push x) (na - 1) nb := fun out na nb x y m h1 h2 hx hy le =>
    m.pushA sa h1 hx fun z hz => Nat.le_trans (take_le sb h2 (at_list hy) z hz) le
  have stepB : ∀ out na nb x y, Mh rk a b out na nb → 1 ≤ na → 1 ≤ nb → a[na - 1]? = some x → b[nb - 1]? = some y → rk x ≤ rk y → Mh rk a b (out.push y) na (nb - 1) := fun out na nb x y m h1 h2 hx hy le =>
    m.pushB sb h2 hy fun z hz => Nat.le_trans (take_le sa h1 (at_list hx) z hz) le
  have m0 : Mh rk a b #[x0] (a.size - 1) b.size := by
    have n : Mh rk a b #[] a.size b.size := ⟨Nat.le_refl _, Nat.le_refl _, by rw [Nat.sub_self, Nat.sub_self]; exact ⟨List.Perm.refl _, List.Pairwise.nil, (fun x h => by cases h), (fun x h => by cases h)⟩⟩
    exact n.pushA sa a1 ex0 fun y hy => last y (List.mem_of_mem_take hy) x0 ex0
  refine wIte (fun z => wpS_pure (doneM _ _ _ _ m0 (Like.refl st) (.inl (beqT z)))) (fun z1 => ?_)
  have z1 : ¬ a.size - 1 = 0 := beqF z1
  refine wIte (fun z => wpS_pure (firstM _ _ _ _ m0 (Like.refl st) (beqT z))) (fun z2 => ?_)
  have z2 : ¬ b.size = 1 := beqF z2
  refine wpS_bind (wpS_get ?_)
  refine wpS_bind (wpS_mono (wpS_forRange (I := fun x c t => ∃ na nb out g, c = (none, na, nb, out, g) ∧ Mh rk a b out na nb ∧ 1 ≤ na ∧ 2 ≤ nb ∧ x + na + nb ≤ a.size + b.size ∧ Like st t)
    (Q := fun c t => ∃ r, c.1 = some r ∧ MQ rk a b st r t) ?step ?fin ⟨_, _, _, _, rfl, m0, by omega, by omega, by omega, Like.refl st⟩) ?post)
  case post =>
    rintro c t ⟨r, hr, q⟩
    obtain ⟨c1, c2⟩ := c
    cases hr
    exact wpS_pure q
  case fin =>
    rintro c t ⟨na, nb, out, g, rfl, m, h1, h2, h3, l⟩
    omega
  case step =>
    rintro x c t _ xn ⟨na, nb, out, g, rfl, m, h1, h2, h3, l⟩
    refine wpS_bind (wpS_mono (wpS_forRange (I := fun y c t' => ∃ na' nb' out' p q, c = (none, na', nb', out', p, q) ∧ t' = t ∧ Mh rk a b out' na' nb' ∧ 1 ≤ na' ∧ 2 ≤ nb' ∧ na' + nb' + y = na + nb)
      (Q := fun c t' => (∃ r, c.1 = some r ∧ MQ rk a b st r t') ∨ (∃ na' nb' out' p q, c = (none, na', nb', out', p, q) ∧ t' = t ∧ Mh rk a b out' na' nb' ∧ 1 ≤ na' ∧ 2 ≤ nb' ∧ x + 1 + na' + nb' ≤ a.size + b.size)) ?step2 ?fin2 ⟨_, _, _, _, _, rfl, rfl, m, h1, h2, rfl⟩) ?post2)
    case fin2 =>
      rintro c t' ⟨na', nb', out', p, q, rfl, rfl, m', k1, k2, k3⟩
      omega
    case step2 =>
      rintro y c t' _ yn ⟨na', nb', out', p, q, rfl, rfl, m', k1, k2, k3⟩
      obtain ⟨u, eu, mu⟩ := ia.at (show na' - 1 < a.size by have := m'.1; omega)
      obtain ⟨v, ev, mv⟩ := ib.at (show nb' - 1 < b.size by have := m'.2.1; omega)
      refine wpS_bind (elem_of ev (wpS_bind (elem_of eu (wpS_bind (lt_of C (l.kind.trans hk) mv mu ?_)))))
      by_cases d : rk v < rk u
      · rw [decide_eq_true d]
        refine wIte (fun _ => ?_) (fun h => absurd rfl h)
        have m2 := stepA out' na' nb' u v m' k1 (by omega) eu ev (Nat.le_of_lt d)
        refine wpS_bind (elem_of eu ?_)
        refine wIte (fun z => wpS_pure (.inl ⟨_, rfl, doneM _ _ _ _ m2 l (.inl (beqT z))⟩)) (fun z => ?_)
        have z : ¬ na' - 1 = 0 := beqF z
        refine wIte (fun _ => ?_) (fun _ => ?_)
        · exact wpS_pure (.inr ⟨na' - 1, nb', out'.push u, _, _, rfl, rfl, m2, by omega, k2, by omega⟩)
        · exact wpS_pure ⟨na' - 1, nb', out'.push u, _, _, rfl, rfl, m2, by omega, k2, by omega⟩
      · rw [decide_eq_false d]
        refine wIte (fun h => absurd h (by decide)) (fun _ => ?_)
        have m2 := stepB out' na' nb' u v m' k1 (by omega) eu ev (by omega)
        refine wpS_bind (elem_of ev ?_)
        refine wIte (fun z => wpS_pure (.inl ⟨_, rfl, firstM _ _ _ _ m2 l (beqT z)⟩)) (fun z => ?_)
        have z : ¬ nb' - 1 = 1 := beqF z
        refine wIte (fun _ => ?_) (fun _ => ?_)
        · exact wpS_pure (.inr ⟨na', nb' - 1, out'.push v, _, _, rfl, rfl, m2, k1, by omega, by omega⟩)
        · exact wpS_pure ⟨na', nb' - 1, out'.push v, _, _, rfl, rfl, m2, k1, by omega, by omega⟩
    case post2 =>
      rintro c t' (⟨r, hr, q⟩ | ⟨na', nb', out', p, q, rfl, rfl, m', k1, k2, k3⟩)
      · obtain ⟨c1, c2⟩ := c
        cases hr
        exact wpS_pure ⟨r, rfl, q⟩
      · refine wpS_bind (wpS_lift (wpAny_rule ⟨rfl, ?_⟩))
        refine wpS_bind (wpS_mono (wpS_forRange (I := fun y c t2 => ∃ na2 nb2 out2 g2 p q, c = (none, na2, nb2, out2, g2, p, q) ∧ Like st t2 ∧ Mh rk a b out2 na2 nb2 ∧ 1 ≤ na2 ∧ 2 ≤ nb2 ∧ x + 1 + na2 + nb2 ≤ a.size + b.size)
          (Q := fun c t2 => (∃ r, c.1 = some r ∧ MQ rk a b st r t2) ∨ (∃ na2 nb2 out2 g2 p q, c = (none, na2, nb2, out2, g2, p, q) ∧ Like st t2 ∧ Mh rk a b out2 na2 nb2 ∧ 1 ≤ na2 ∧ 2 ≤ nb2 ∧ x + 1 + na2 + nb2 ≤ a.size + b.size)) ?step3 ?fin3 ⟨_, _, _, _, _, _, rfl, l, m', k1, k2, k3⟩) ?post3)
        case fin3 =>
          rintro c t2 h
          exact .inr h
        case post3 =>
          rintro c t2 (⟨r, hr, q⟩ | ⟨na2, nb2, out2, g2, p, q, rfl, l2, m2, n1, n2, n3⟩)
          · obtain ⟨c1, c2⟩ := c
            cases hr
            exact wpS_pure ⟨r, rfl, q⟩
          · refine wpS_bind (setL l2 fun t3 l3 => ?_)
            exact wpS_pure ⟨_, _, _, _, rfl, m2, n1, n2, n3, l3⟩
        case step3 =>
          rintro y c t2 _ yn ⟨na2, nb2, out2, g2, p, q, rfl, l2, m2, n1, n2, n3⟩
          have q1 := m2.1
          have q2 := m2.2.1
          obtain ⟨v, ev, mv⟩ := ib.at (show nb2 - 1 < b.size by omega)
          refine wIte (fun _ => ?_) (fun _ => ?_)
          all_goals
            refine wpS_bind (setL l2 fun t3 l3 => ?_)
            refine wpS_bind (elem_of ev ?_)
            refine wpS_bind (gal_of (base := 0) (n := na2) (hint := na2 - 1) C (l3.kind.trans hk) ia mv (by omega) (by omega) (fun x y h1 h2 h3 => ua x y (by omega) h2 (by omega)) fun k kn ka kb => ?_)
            have m3 : Mh rk a b (out2 ++ (a.extract k na2).reverse) k nb2 := m2.manyA sa kn fun n x h1 h2 hx z hz => by
              have h := kb n h1 h2
              unfold bey at h
              rw [if_neg (by decide), Nat.zero_add, R_at hx] at h
              have hle : rk v < rk x := by simpa using h
              exact Nat.le_trans (take_le sb (by omega) (at_list ev) z hz) (Nat.le_of_lt hle)
            have gA : 1 ≤ k → R rk a (k - 1) ≤ rk v := fun h => by
              have h := ka (k - 1) (by omega)
              unfold bey at h
              rw [if_neg (by decide), Nat.zero_add] at h
              simpa using h
            refine wIte (fun kz => ?_) (fun kz => ?_)
            have kz : na2 - k > 0 := kz
            refine wIte (fun z => wpS_pure (.inl ⟨_, rfl, doneM _ _ _ _ m3 l3 (.inl (beqT z))⟩)) (fun z1 => ?_)
            have z1 : ¬ k = 0 := beqF z1
            have f1 : 1 ≤ k := by omega
            have f2 : x + 1 + k + nb2 ≤ a.size + b.size := by omega
            have f3 := gA f1
            generalize out2 ++ (a.extract k na2).reverse = out3 at m3 ⊢
            rotate_left
            have kz : ¬ na2 - k > 0 := kz
            have k0 : k = na2 := by omega
            have e0 : out2 ++ (a.extract k na2).reverse = out2 := by rw [k0]; simp <;> omega
            rw [e0] at m3
            have f1 : 1 ≤ k := by omega
            have f2 : x + 1 + k + nb2 ≤ a.size + b.size := by omega
            have f3 := gA f1
            clear e0
            subst k0
            generalize out2 = out3 at m3 ⊢
            rotate_left
            all_goals
              obtain ⟨u3, eu3, mu3⟩ := ia.at (show k - 1 < a.size by omega)
              rw [R_at eu3] at f3
              refine wpS_bind (elem_of ev ?_)
              have m4 := stepB out3 k nb2 u3 v m3 f1 (by omega) eu3 ev f3
              refine wIte (fun z => wpS_pure (.inl ⟨_, rfl, firstM _ _ _ _ m4 l3 (beqT z)⟩)) (fun z3 => ?_)
              have z3 : ¬ nb2 - 1 = 1 := beqF z3
              refine wpS_bind (elem_of eu3 ?_)
              refine wpS_bind (gal_of (base := 0) (n := nb2 - 1) (hint := nb2 - 1 - 1) C (l3.kind.trans hk) ib mu3 (by omega) (by omega) (fun x y h1 h2 h3 => ub x y (by omega) h2 (by omega)) fun k' kn' ka' kb' => ?_)
              have m5 : Mh rk a b (out3.push v ++ (b.extract k' (nb2 - 1)).reverse) k k' := m4.manyB sb kn' fun n x h1 h2 hx z hz => by
                have h := kb' n h1 h2
                unfold bey at h
                rw [if_pos rfl, Nat.zero_add, R_at hx] at h
                have hle : rk u3 ≤ rk x := by simpa using h
                exact Nat.le_trans (take_le sa f1 (at_list eu3) z hz) hle
              have gB : 1 ≤ k' → R rk b (k' - 1) < rk u3 := fun h => by
                have h := ka' (k' - 1) (by omega)
                unfold bey at h
                rw [if_pos rfl, Nat.zero_add] at h
                simpa using h
              refine wIte (fun kz' => ?_) (fun kz' => ?_)
              have kz' : nb2 - 1 - k' > 0 := kz'
              refine wIte (fun z => wpS_pure (.inl ⟨_, rfl, firstM _ _ _ _ m5 l3 (beqT z)⟩)) (fun z4 => ?_)
              have z4 : ¬ k' = 1 := beqF z4
              refine wIte (fun z => wpS_pure (.inl ⟨_, rfl, doneM _ _ _ _ m5 l3 (.inr (beqT z))⟩)) (fun z5 => ?_)
              have z5 : ¬ k' = 0 := beqF z5
              have f4 : 2 ≤ k' := by omega
              have f5 : x + 1 + k + k' ≤ a.size + b.size := by omega
              have f6 := gB (by omega)
              generalize out3.push v ++ (b.extract k' (nb2 - 1)).reverse = out4 at m5 ⊢
              rotate_left
              have kz' : ¬ nb2 - 1 - k' > 0 := kz'
              have k0' : k' = nb2 - 1 := by omega
              have e0 : out3.push v ++ (b.extract k' (nb2 - 1)).reverse = out3.push v := by rw [k0']; simp <;> omega
              rw [e0] at m5
              have f4 : 2 ≤ k' := by omega
              have f5 : x + 1 + k + k' ≤ a.size + b.size := by omega
              have f6 := gB (by omega)
              clear e0
              generalize out3.push v = out4 at m5 ⊢
              rotate_left
              all_goals
                have q3 := m5.2.1
                obtain ⟨v4, ev4, mv4⟩ := ib.at (show k' - 1 < b.size by omega)
                rw [R_at ev4] at f6
                have m6 := stepA out4 k k' u3 v4 m5 f1 (by omega) eu3 ev4 (Nat.le_of_lt f6)
                refine wpS_bind (elem_of eu3 ?_)
                first
                  | refine wIte (fun z => wpS_pure (.inl ⟨_, rfl, doneM _ _ _ _ m6 l3 (.inl (beqT z))⟩)) (fun z6 => ?_)
                  | (rw [k0'] at m6; refine wIte (fun z => wpS_pure (.inl ⟨_, rfl, doneM _ _ _ _ m6 l3 (.inl (beqT z))⟩)) (fun z6 => ?_))
                have z6 : ¬ k - 1 = 0 := beqF z6
                refine wIte (fun _ => ?_) (fun _ => ?_)
                · first
                    | exact wpS_pure (.inr ⟨k - 1, k', out4.push u3, _, _, _, rfl, l3, m6, by omega, f4, by omega⟩)
                    | exact wpS_pure (.inr ⟨k - 1, nb2 - 1, out4.push u3, _, _, _, rfl, l3, m6, by omega, by omega, by omega⟩)
                · first
                    | exact wpS_pure ⟨k - 1, k', out4.push u3, _, _, _, rfl, l3, m6, by omega, f4, by omega⟩
                    | exact wpS_pure ⟨k - 1, nb2 - 1, out4.push u3, _, _, _, rfl, l3, m6, by omega, by omega, by omega⟩
end
end TS
namespace TS
open PySem PyProof.Rows
section
variable {rk : Keyed → Nat}
def seg (xs : Array Keyed) (lo hi : Nat) : List Keyed := (xs.toList.take hi).drop lo
theorem seg_len {xs : Array Keyed} {lo hi : Nat} (h : hi ≤ xs.size) : (seg xs lo hi).length = hi - lo := by unfold seg; rw [List.length_drop, List.length_take]; simp; omega
theorem seg_get {xs : Array Keyed} {lo hi i : Nat} (hi' : lo + i < hi) : (seg xs lo hi)[i]? = xs[lo + i]? := by
  unfold seg
  rw [List.getElem?_drop, List.getElem?_take_of_lt hi', Array.getElem?_toList]
theorem srt_seg {xs : Array Keyed} {lo hi : Nat} (u : Up rk xs lo hi) (h : hi ≤ xs.size) : Srt (Le rk) (seg xs lo hi) := by
  refine List.pairwise_iff_getElem.mpr fun i j h1 h2 hij => ?_
  have l := seg_len (lo := lo) h
  have e1 : (seg xs lo hi)[i]? = some (seg xs lo hi)[i] := List.getElem?_eq_getElem h1
  have e2 : (seg xs lo hi)[j]? = some (seg xs lo hi)[j] := List.getElem?_eq_getElem h2
  rw [seg_get (by omega)] at e1 e2
  have := u (lo + i) (lo + j) (by omega) (by omega) (by omega)
  rw [R_at e1, R_at e2] at this
  exact this
theorem up_seg {xs : Array Keyed} {lo hi : Nat} (s : Srt (Le rk) (seg xs lo hi)) (h : hi ≤ xs.size) : Up rk xs lo hi := fun i j h1 h2 h3 => by
  have l := seg_len (lo := lo) h
  rcases Nat.lt_or_eq_of_le h2 with z | z
  · have := List.pairwise_iff_getElem.mp s (i - lo) (j - lo) (by omega) (by omega) (by omega)
    have e1 : (seg xs lo hi)[i - lo]? = some (seg xs lo hi)[i - lo] := List.getElem?_eq_getElem (by omega)
    have e2 : (seg xs lo hi)[j - lo]? = some (seg xs lo hi)[j - lo] := List.getElem?_eq_getElem (by omega)
    rw [seg_get (by omega), show lo + (i - lo) = i by omega] at e1
    rw [seg_get (by omega), show lo + (j - lo) = j by omega] at e2
    rw [R_at e1, R_at e2]
    exact this
  · rw [z]; exact Nat.le_refl _
theorem seg_mem {xs : Array Keyed} {lo hi : Nat} {x : Keyed} (h : hi ≤ xs.size) (hx : x ∈ seg xs lo hi) : ∃ i, lo ≤ i ∧ i < hi ∧ xs[i]? = some x := by
  obtain ⟨i, hi'⟩ := List.mem_iff_getElem?.mp hx
  have l := seg_len (lo := lo) h
  have := (List.getElem?_eq_some_iff.mp hi').1
  exact ⟨lo + i, by omega, by omega, by rw [← seg_get (hi := hi) (by omega)]; exact hi'⟩
theorem seg_app {xs : Array Keyed} {a b c : Nat} (h1 : a ≤ b) (h2 : b ≤ c) (h : c ≤ xs.size) : seg xs a b ++ seg xs b c = seg xs a c := by
  refine List.ext_getElem? fun i => ?_
  by_cases z : i < b - a
  · rw [List.getElem?_append_left (by rw [seg_len (by omega)]; omega), seg_get (by omega), seg_get (by omega)]
  · rw [List.getElem?_append_right (by rw [seg_len (by omega)]; omega), seg_len (by omega)]
    by_cases y : i < c - a
    · rw [seg_get (by omega), seg_get (by omega)]; congr 1; omega
    · rw [List.getElem?_eq_none (by rw [seg_len h]; omega), List.getElem?_eq_none (by rw [seg_len h]; omega)]
theorem seg_all (xs : Array Keyed) : seg xs 0 xs.size = xs.toList := by
  unfold seg; rw [List.drop_zero, List.take_of_length_le (by simp)]
def wr (p : Nat) (l : List (Keyed × Nat)) (xs : Array Keyed) : Array Keyed := l.foldl (fun a q => a.setIfInBounds (p + q.2) q.1) xs
theorem wr_size (p : Nat) : ∀ (l : List (Keyed × Nat)) (xs : Array Keyed), (wr p l xs).size = xs.size
  | [], xs => rfl
  | q :: l, xs => (wr_size p l _).trans (by simp)
theorem wr_get (p : Nat) : ∀ (m : List Keyed) (n : Nat) (xs : Array Keyed), p + n + m.length ≤ xs.size → ∀ k, (wr p (m.zipIdx n) xs)[k]? = if p + n ≤ k ∧ k < p + n + m.length then m[k - (p + n)]? else xs[k]?
  | [], n, xs, _, k => by
    show xs[k]? = _
    rw [if_neg (by simp)]
  | x :: m, n, xs, h, k => by
    rw [List.length_cons] at h ⊢
    show (wr p (m.zipIdx (n + 1)) (xs.setIfInBounds (p + n) x))[k]? = _
    rw [wr_get p m (n + 1) _ (by rw [Array.size_setIfInBounds]; omega) k, Array.getElem?_setIfInBounds]
    by_cases z : k = p + n
    · subst z
      rw [if_neg (by omega), if_pos rfl, if_pos (by omega), if_pos (by omega), Nat.sub_self]
      rfl
    · by_cases y : p + n ≤ k ∧ k < p + n + (m.length + 1)
      · rw [if_pos (by omega), if_pos y, show k - (p + n) = k - (p + (n + 1)) + 1 by omega]
        rfl
      · rw [if_neg (by omega), if_neg (by omega), if_neg y]
theorem wr_seg {m : List Keyed} {p : Nat} {xs : Array Keyed} (h : p + m.length ≤ xs.size) : seg (wr p m.zipIdx xs) p (p + m.length) = m := by
  refine List.ext_getElem? fun i => ?_
  by_cases z : i < m.length
  · rw [seg_get (by omega), wr_get p m 0 xs h, if_pos (by omega)]
    congr 1; omega
  · rw [List.getElem?_eq_none (by rw [seg_len (by rw [wr_size]; omega)]; omega), List.getElem?_eq_none (by omega)]
theorem wr_kept {m : List Keyed} {p : Nat} {xs : Array Keyed} (h : p + m.length ≤ xs.size) : Kept xs (wr p m.zipIdx xs) p (p + m.length) := fun k hk => by
  rw [wr_get p m 0 xs h, if_neg (by omega)]
theorem seg_kept {xs ys : Array Keyed} {lo hi a b : Nat} (hz : ys.size = xs.size) (k : Kept xs ys lo hi) (h : b ≤ lo ∨ hi ≤ a) (hb : b ≤ xs.size) : seg ys a b = seg xs a b := by
  refine List.ext_getElem? fun i => ?_
  by_cases z : a + i < b
  · rw [seg_get z, seg_get z]; exact k _ (by omega)
  · rw [List.getElem?_eq_none (by rw [seg_len (by omega)]; omega), List.getElem?_eq_none (by rw [seg_len hb]; omega)]
theorem wr_perm {m : List Keyed} {p : Nat} {xs : Array Keyed} (h : p + m.length ≤ xs.size) (pm : m.Perm (seg xs p (p + m.length))) : (wr p m.zipIdx xs).Perm xs := by
  rw [Array.perm_iff_toList_perm, ← seg_all xs, ← seg_all (wr p m.zipIdx xs), wr_size]
  have hk := wr_kept h
  have hs := wr_size p m.zipIdx xs
  rw [← seg_app (Nat.zero_le p) (show p ≤ xs.size by omega) (Nat.le_refl _), ← seg_app (show p ≤ p + m.length by omega) (show p + m.length ≤ xs.size by omega) (Nat.le_refl _)]
  rw [← seg_app (xs := wr p m.zipIdx xs) (Nat.zero_le p) (show p ≤ xs.size by omega) (by omega), ← seg_app (xs := wr p m.zipIdx xs) (show p ≤ p + m.length by omega) (show p + m.length ≤ xs.size by omega) (by omega)]
  rw [seg_kept hs hk (.inl (Nat.le_refl _)) (by omega), seg_kept hs hk (.inr (Nat.le_refl _)) (Nat.le_refl _), wr_seg h]
  exact List.Perm.append_left _ (pm.append_right _)
end
end TS
namespace TS
open PySem PyProof.Rows
section
variable {prog : Program} {w : World} {A : Around} {E : Value → Shared → Prop} {s : Shared}
variable {rk : Keyed → Nat} {a0 : Array Keyed} {κ : SortKind}
theorem in0_seg {st : SortSt} (B : Bs a0 κ st) (lo hi : Nat) : In0 a0 ((arrOf st).extract lo hi) := fun x hx => by
  rw [ext_seg] at hx
  exact (Array.perm_iff_toList_perm.mp B.perm).mem_iff.mp (List.mem_of_mem_take (List.mem_of_mem_drop hx))
theorem in0_all {st : SortSt} (B : Bs a0 κ st) : In0 a0 (arrOf st) := fun x hx => (Array.perm_iff_toList_perm.mp B.perm).mem_iff.mp hx
theorem ext_get {xs : Array Keyed} {lo hi i : Nat} (h : lo + i < hi) : (xs.extract lo hi)[i]? = xs[lo + i]? := by
  rw [← Array.getElem?_toList, ext_seg]; exact seg_get h
theorem mAt_of {st : SortSt} {i sa na nb pw pw2 : Nat} {Q : Bool → SortSt → Prop} (C : Cm prog w A s κ rk a0) (B : Bs a0 κ st) (e1 : (pendingOf st)[i]? = some (sa, na, pw)) (e2 : (pendingOf st)[i + 1]? = some (sa + na, nb, pw2)) (n1 : 1 ≤ na) (n2 : 1 ≤ nb)
    (hz : sa + na + nb ≤ a0.size) (u1 : Up rk (arrOf st) sa (sa + na)) (u2 : Up rk (arrOf st) (sa + na) (sa + na + nb))
    (h : ∀ t, Bs a0 κ t → Up rk (arrOf t) sa (sa + na + nb) → Kept (arrOf st) (arrOf t) sa (sa + na + nb) → pendingOf t = ((pendingOf st).setIfInBounds i (sa, na + nb, pw)).eraseIdxIfInBounds (i + 1) → Q true t) :
    wpS (model prog w) A E s (mergeAt' i) Q st := by
  have hs := B.size
  refine wpS_bind (wpS_get ?_)
  rw [show (sortPriv% PySem.Builtin.SortState.pending) st = pendingOf st from rfl, e1, e2]
  refine wpS_bind (wpS_modify (f := fun _ => setPending st (((pendingOf st).setIfInBounds i (sa, na + nb, pw)).eraseIdxIfInBounds (i + 1))) ?_)
  obtain ⟨pd, hpd⟩ : ∃ pd, pd = ((pendingOf st).setIfInBounds i (sa, na + nb, pw)).eraseIdxIfInBounds (i + 1) := ⟨_, rfl⟩
  rw [← hpd] at h ⊢
  have B1 : Bs a0 κ (setPending st pd) := ⟨B.perm, B.kind, B.ok⟩
  obtain ⟨xs, hxs⟩ : ∃ xs, xs = arrOf st := ⟨_, rfl⟩
  have In := in0_all B
  have ext0 := fun lo hi => in0_seg B lo hi
  rw [← hxs] at hs u1 u2 h In ext0
  have hxz : sa + na + nb ≤ xs.size := by omega
  obtain ⟨key, ek, mk⟩ := In.at (show sa + na < xs.size by omega)
  have ek' : (arrOf st)[sa + na]? = some key := by rw [← hxs]; exact ek
  refine wpS_bind (elem_of ek' ?_)
  refine wpS_bind (gal_of (left := false) (arr := arrOf st) (base := sa) (n := na) (hint := 0) C B1.kind (in0_all B) mk (by rw [← hxs]; omega) (by omega) (by rw [← hxs]; exact u1) fun k kn ka kb => ?_)
  have ka1 : ∀ i, sa ≤ i → i < sa + k → R rk xs i ≤ rk key := fun i h1 h2 => by
    have := ka (i - sa) (by omega)
    unfold bey at this
    rw [if_neg (by decide), ← hxs, show sa + (i - sa) = i by omega] at this
    simpa using this
  have kb1 : ∀ i, sa + k ≤ i → i < sa + na → rk key < R rk xs i := fun i h1 h2 => by
    have := kb (i - sa) (by omega) (by omega)
    unfold bey at this
    rw [if_neg (by decide), ← hxs, show sa + (i - sa) = i by omega] at this
    simpa using this
  have rkey : R rk xs (sa + na) = rk key := R_at ek
  have joined : (∀ i, sa ≤ i → i < sa + na → ∀ j, sa + na ≤ j → j < sa + na + nb → R rk xs i ≤ R rk xs j) → Up rk xs sa (sa + na + nb) := fun g i j h1 h2 h3 => by
    by_cases y : j < sa + na
    · exact u1 i j h1 h2 y
    · by_cases z : i < sa + na
      · exact g i h1 z j (by omega) h3
      · exact u2 i j (by omega) h2 h3
  refine wIte (fun z => ?_) (fun z => ?_)
  · have z : na - k = 0 := beqT z
    refine wpS_pure (h _ B1 ?_ (by rw [hxs]; exact Kept.refl _ _ _) rfl)
    show Up rk (arrOf st) _ _
    rw [← hxs]
    refine joined fun i h1 h2 j h3 h4 => ?_
    have a1 := ka1 i h1 (by omega)
    have a2 := u2 (sa + na) j (Nat.le_refl _) h3 h4
    omega
  have z : ¬ na - k = 0 := beqF z
  have ep : sa + k + (na - k) - 1 = sa + na - 1 := by omega
  obtain ⟨key2, ek2, mk2⟩ := In.at (show sa + na - 1 < xs.size by omega)
  have ek2' : (arrOf st)[sa + k + (na - k) - 1]? = some key2 := by rw [ep, ← hxs]; exact ek2
  have rkey2 : R rk xs (sa + na - 1) = rk key2 := R_at ek2
  refine wpS_bind (elem_of ek2' ?_)
  refine wpS_bind (gal_of (left := true) (arr := arrOf st) (base := sa + na) (n := nb) (hint := nb - 1) C B1.kind (in0_all B) mk2 (by rw [← hxs]; omega) (by omega) (by rw [← hxs]; exact u2) fun k' kn' ka' kb' => ?_)
  have ka2 : ∀ i, sa + na ≤ i → i < sa + na + k' → R rk xs i < rk key2 := fun i h1 h2 => by
    have := ka' (i - (sa + na)) (by omega)
    unfold bey at this
    rw [if_pos rfl, ← hxs, show sa + na + (i - (sa + na)) = i by omega] at this
    simpa using this
  have kb2 : ∀ i, sa + na + k' ≤ i → i < sa + na + nb → rk key2 ≤ R rk xs i := fun i h1 h2 => by
    have := kb' (i - (sa + na)) (by omega) (by omega)
    unfold bey at this
    rw [if_pos rfl, ← hxs, show sa + na + (i - (sa + na)) = i by omega] at this
    simpa using this
  refine wIte (fun z' => ?_) (fun z' => ?_)
  · have z' : k' = 0 := beqT z'
    refine wpS_pure (h _ B1 ?_ (by rw [hxs]; exact Kept.refl _ _ _) rfl)
    show Up rk (arrOf st) _ _
    rw [← hxs]
    refine joined fun i h1 h2 j h3 h4 => ?_
    have a1 := kb2 j (by omega) h4
    have a2 := u1 i (sa + na - 1) h1 (by omega) (by omega)
    omega
  have z' : ¬ k' = 0 := beqF z'
  have xl : (xs.extract (sa + k) (sa + na)).toList = seg xs (sa + k) (sa + na) := ext_seg _ _ _
  have yl : (xs.extract (sa + na) (sa + na + k')).toList = seg xs (sa + na) (sa + na + k') := ext_seg _ _ _
  have xz : (xs.extract (sa + k) (sa + na)).size = na - k := by rw [Array.size_extract]; omega
  have yz : (xs.extract (sa + na) (sa + na + k')).size = k' := by rw [Array.size_extract]; omega
  have sx : Srt (Le rk) (xs.extract (sa + k) (sa + na)).toList := by rw [xl]; exact srt_seg (fun i j h1 h2 h3 => u1 i j (by omega) h2 h3) (by omega)
  have sy : Srt (Le rk) (xs.extract (sa + na) (sa + na + k')).toList := by rw [yl]; exact srt_seg (fun i j h1 h2 h3 => u2 i j h1 h2 (by omega)) (by omega)
  have fx : ∀ x, (xs.extract (sa + na) (sa + na + k'))[0]? = some x → ∀ y ∈ (xs.extract (sa + k) (sa + na)).toList, Le rk x y := fun x hx y hy => by
    rw [ext_get (by omega), Nat.add_zero, ek] at hx
    rw [xl] at hy
    obtain ⟨i, h1, h2, h3⟩ := seg_mem (by omega) hy
    have := kb1 i h1 h2
    rw [R_at h3] at this
    rw [← Option.some.inj hx]
    exact Nat.le_of_lt this
  have ly : ∀ x ∈ (xs.extract (sa + na) (sa + na + k')).toList, ∀ y, (xs.extract (sa + k) (sa + na))[(xs.extract (sa + k) (sa + na)).size - 1]? = some y → Le rk x y := fun x hx y hy => by
    rw [xz, ext_get (by omega), show sa + k + (na - k - 1) = sa + na - 1 by omega, ek2] at hy
    rw [yl] at hx
    obtain ⟨i, h1, h2, h3⟩ := seg_mem (by omega) hx
    have := ka2 i h1 h2
    rw [R_at h3] at this
    rw [← Option.some.inj hy]
    exact Nat.le_of_lt this
  have fin : ∀ m t, MQ rk (xs.extract (sa + k) (sa + na)) (xs.extract (sa + na) (sa + na + k')) (setPending st pd) m t → Q true (setArr t (wr (sa + k) m.toList.zipIdx (arrOf t))) ∧ failedOf t = none := by
    rintro m t ⟨⟨pm, sm⟩, l⟩
    have lm : m.toList.length = na - k + k' := by rw [pm.length_eq, List.length_append, Array.length_toList, Array.length_toList, xz, yz]
    have ea : arrOf t = xs := by rw [l.arr, hxs]
    have hle : sa + k + m.toList.length ≤ xs.size := by omega
    have esg : seg xs (sa + k) (sa + k + m.toList.length) = seg xs (sa + k) (sa + na) ++ seg xs (sa + na) (sa + na + k') := by
      rw [seg_app (by omega) (by omega) (by omega)]; congr 1; omega
    have pm' : m.toList.Perm (seg xs (sa + k) (sa + k + m.toList.length)) := by rw [esg, ← xl, ← yl]; exact pm
    have kw := wr_kept hle
    have zw := wr_size (sa + k) m.toList.zipIdx xs
    refine ⟨h _ ⟨?_, l.kind.trans B1.kind, l.ok.trans B1.ok⟩ ?_ ?_ l.pend, l.ok.trans B1.ok⟩
    · show (wr (sa + k) m.toList.zipIdx (arrOf t)).Perm a0
      rw [ea]
      refine (wr_perm hle pm').trans ?_
      rw [hxs]; exact B.perm
    · show Up rk (wr (sa + k) m.toList.zipIdx (arrOf t)) sa (sa + na + nb)
      rw [ea]
      refine up_seg ?_ (by omega)
      rw [← seg_app (show sa ≤ sa + k by omega) (show sa + k ≤ sa + na + nb by omega) (by omega), ← seg_app (show sa + k ≤ sa + k + m.toList.length by omega) (show sa + k + m.toList.length ≤ sa + na + nb by omega) (by omega), wr_seg hle,
        seg_kept zw kw (.inl (Nat.le_refl _)) (by omega), seg_kept zw kw (.inr (Nat.le_refl _)) (by omega)]
      have mm : ∀ x ∈ m.toList, (∃ i, sa + k ≤ i ∧ i < sa + na ∧ xs[i]? = some x) ∨ (∃ i, sa + na ≤ i ∧ i < sa + na + k' ∧ xs[i]? = some x) := fun x hx => by
        have := pm.mem_iff.mp hx
        rw [xl, yl] at this
        rcases List.mem_append.mp this with e | e
        · exact .inl (seg_mem (by omega) e)
        · exact .inr (seg_mem (by omega) e)
      refine srt_app.mpr ⟨srt_seg (fun i j h1 h2 h3 => u1 i j h1 h2 (by omega)) (by omega), srt_app.mpr ⟨sm, srt_seg (fun i j h1 h2 h3 => u2 i j (by omega) h2 h3) (by omega), fun x hx y hy => ?_⟩, fun x hx y hy => ?_⟩
      · obtain ⟨j, j1, j2, j3⟩ := seg_mem (by omega) hy
        have b2 := kb2 j (by omega) j2
        rw [R_at j3] at b2
        rcases mm x hx with ⟨i, i1, i2, i3⟩ | ⟨i, i1, i2, i3⟩
        · have b1 := u1 i (sa + na - 1) (by omega) (by omega) (by omega)
          rw [R_at i3, rkey2] at b1
          exact Nat.le_trans b1 b2
        · have b1 := ka2 i i1 i2
          rw [R_at i3] at b1
          show rk x ≤ rk y
          omega
      · obtain ⟨i, i1, i2, i3⟩ := seg_mem (by omega) hx
        have b1 := ka1 i i1 i2
        rw [R_at i3] at b1
        show rk x ≤ rk y
        rcases List.mem_append.mp hy with e | e
        · rcases mm y e with ⟨j, j1, j2, j3⟩ | ⟨j, j1, j2, j3⟩
          · have b2 := kb1 j j1 j2
            rw [R_at j3] at b2
            omega
          · have b2 := u2 (sa + na) j (Nat.le_refl _) j1 (by omega)
            rw [R_at j3, rkey] at b2
            omega
        · obtain ⟨j, j1, j2, j3⟩ := seg_mem (by omega) e
          have b2 := u2 (sa + na) j (Nat.le_refl _) (by omega) j2
          rw [R_at j3, rkey] at b2
          omega
    · show Kept xs (wr (sa + k) m.toList.zipIdx (arrOf t)) _ _
      rw [ea]
      exact kw.wide (by omega) (by omega)
  have ix := ext0 (sa + k) (sa + na)
  have iy := ext0 (sa + na) (sa + na + k')
  have k1 : kindOf (setPending st pd) = κ := B1.kind
  have end_ : ∀ m t, MQ rk (xs.extract (sa + k) (sa + na)) (xs.extract (sa + na) (sa + na + k')) (setPending st pd) m t → Q (failedOf (setArr t (wr (sa + k) m.toList.zipIdx (arrOf t)))).isNone (setArr t (wr (sa + k) m.toList.zipIdx (arrOf t))) := fun m t q => by
    obtain ⟨f1, f2⟩ := fin m t q
    show Q (failedOf t).isNone _
    rw [f2]; exact f1
  rw [hxs] at ix iy sx sy fx ly end_ xz yz
  have g1 : 1 ≤ ((arrOf st).extract (sa + k) (sa + na)).size := by rw [xz]; omega
  have g2 : 1 ≤ ((arrOf st).extract (sa + na) (sa + na + k')).size := by rw [yz]; omega
  refine wIte (fun _ => ?_) (fun _ => ?_)
  · refine wpS_bind (wpS_mono (mLo_of C k1 ix iy g1 g2 sx sy fx ly) fun m t q => ?_)
    exact wpS_bind (wpS_modify (wpS_bind (wpS_get (wpS_pure (end_ m t q)))))
  · refine wpS_bind (wpS_mono (mHi_of C k1 ix iy g1 g2 sx sy fx ly) fun m t q => ?_)
    exact wpS_bind (wpS_modify (wpS_bind (wpS_get (wpS_pure (end_ m t q)))))
end
end TS
namespace TS
open PySem PyProof.Rows
section
variable {rk : Keyed → Nat}
def Cov (rk : Keyed → Nat) (xs : Array Keyed) : List (Nat × Nat × Nat) → Nat → Nat → Prop
  | [], a, b => a = b
  | q :: r, a, b => q.1 = a ∧ 1 ≤ q.2.1 ∧ Up rk xs a (a + q.2.1) ∧ Cov rk xs r (a + q.2.1) b
theorem Cov.len {xs : Array Keyed} : ∀ {l : List (Nat × Nat × Nat)} {a b : Nat}, Cov rk xs l a b → a + l.length ≤ b
  | [], a, b, h => Nat.le_of_eq h
  | q :: r, a, b, ⟨h1, h2, h3, h4⟩ => by
    have := Cov.len h4
    rw [List.length_cons]; omega
theorem Cov.app {xs : Array Keyed} : ∀ {l m : List (Nat × Nat × Nat)} {a b : Nat}, Cov rk xs (l ++ m) a b ↔ ∃ c, Cov rk xs l a c ∧ Cov rk xs m c b
  | [], m, a, b => ⟨fun h => ⟨a, rfl, h⟩, fun ⟨c, e, h⟩ => by cases e; exact h⟩
  | q :: r, m, a, b => by
    constructor
    · rintro ⟨h1, h2, h3, h4⟩
      obtain ⟨c, g1, g2⟩ := Cov.app.mp h4
      exact ⟨c, ⟨h1, h2, h3, g1⟩, g2⟩
    · rintro ⟨c, ⟨h1, h2, h3, h4⟩, g⟩
      exact ⟨h1, h2, h3, Cov.app.mpr ⟨c, h4, g⟩⟩
theorem Cov.kept {xs ys : Array Keyed} {lo hi : Nat} (k : Kept xs ys lo hi) : ∀ {l : List (Nat × Nat × Nat)} {a b : Nat}, Cov rk xs l a b → b ≤ lo ∨ hi ≤ a → Cov rk ys l a b
  | [], a, b, h, _ => h
  | q :: r, a, b, ⟨h1, h2, h3, h4⟩, hk => by
    have := Cov.len h4
    exact ⟨h1, h2, k.up h3 (by omega), Cov.kept k h4 (by omega)⟩
theorem set_erase {α : Type} : ∀ (l : List α) (x y z : α) (m : List α), ((l ++ x :: y :: m).set l.length z).eraseIdx (l.length + 1) = l ++ z :: m
  | [], x, y, z, m => rfl
  | a :: l, x, y, z, m => by
    show a :: (((l ++ x :: y :: m).set l.length z).eraseIdx (l.length + 1)) = _
    rw [set_erase l x y z m]; rfl
theorem two_at {α : Type} {l : List α} {i : Nat} (h : i + 1 < l.length) : l = l.take i ++ l[i] :: l[i + 1] :: l.drop (i + 2) := by
  have e1 := List.drop_eq_getElem_cons (show i < l.length by omega)
  have e2 := List.drop_eq_getElem_cons h
  rw [← e2, ← e1, List.take_append_drop]
theorem cov_mod {xs : Array Keyed} {pw : Nat} : ∀ {l : List (Nat × Nat × Nat)} {n a b : Nat}, Cov rk xs l a b → Cov rk xs (l.modify n fun q => (q.1, q.2.1, pw)) a b
  | [], n, a, b, h => by cases n <;> exact h
  | q :: r, 0, a, b, ⟨h1, h2, h3, h4⟩ => ⟨h1, h2, h3, h4⟩
  | q :: r, n + 1, a, b, ⟨h1, h2, h3, h4⟩ => ⟨h1, h2, h3, cov_mod h4⟩
end
section
variable {prog : Program} {w : World} {A : Around} {E : Value → Shared → Prop} {s : Shared}
variable {rk : Keyed → Nat} {a0 : Array Keyed} {κ : SortKind}
theorem mst_of {st : SortSt} {i lo : Nat} {Q : Bool → SortSt → Prop} (C : Cm prog w A s κ rk a0) (B : Bs a0 κ st) (cv : Cov rk (arrOf st) (pendingOf st).toList 0 lo) (hl : lo ≤ a0.size) (hi : i + 1 < (pendingOf st).size)
    (h : ∀ t, Bs a0 κ t → Cov rk (arrOf t) (pendingOf t).toList 0 lo → (pendingOf t).size + 1 = (pendingOf st).size → Kept (arrOf st) (arrOf t) 0 lo → Q true t) : wpS (model prog w) A E s (mergeAt' i) Q st := by
  obtain ⟨l, hl0⟩ : ∃ l, l = (pendingOf st).toList := ⟨_, rfl⟩
  have ll : l.length = (pendingOf st).size := by rw [hl0]; simp
  have hil : i + 1 < l.length := by omega
  have e := two_at hil
  rw [← hl0, e] at cv
  obtain ⟨c, c1, d1, d2, d3, f1, f2, f3, g⟩ := Cov.app.mp cv
  have lg := Cov.len g
  have e1 : (pendingOf st)[i]? = some (c, l[i].2.1, l[i].2.2) := by
    rw [← Array.getElem?_toList, ← hl0, List.getElem?_eq_getElem (by omega), ← d1]
  have e2 : (pendingOf st)[i + 1]? = some (c + l[i].2.1, l[i + 1].2.1, l[i + 1].2.2) := by
    rw [← Array.getElem?_toList, ← hl0, List.getElem?_eq_getElem hil, ← f1]
  refine mAt_of C B e1 e2 d2 f2 (by omega) d3 f3 fun t B' u k p => ?_
  have lt : (l.take i).length = i := by rw [List.length_take]; omega
  have ep : (pendingOf t).toList = l.take i ++ (c, l[i].2.1 + l[i + 1].2.1, l[i].2.2) :: l.drop (i + 2) := by
    rw [p, Array.toList_eraseIdxIfInBounds, Array.toList_setIfInBounds, ← hl0]
    have := set_erase (l.take i) l[i] l[i + 1] (c, l[i].2.1 + l[i + 1].2.1, l[i].2.2) (l.drop (i + 2))
    rw [lt, ← e] at this
    exact this
  have lc := Cov.len c1
  refine h t B' ?_ ?_ (k.wide (Nat.zero_le _) (by omega))
  · rw [ep]
    refine Cov.app.mpr ⟨c, Cov.kept k c1 (.inl (Nat.le_refl _)), rfl, by show 1 ≤ l[i].2.1 + l[i + 1].2.1; omega, ?_, ?_⟩
    · show Up rk (arrOf t) c (c + (l[i].2.1 + l[i + 1].2.1))
      rw [← Nat.add_assoc]; exact u
    · show Cov rk (arrOf t) (l.drop (i + 2)) (c + (l[i].2.1 + l[i + 1].2.1)) lo
      rw [← Nat.add_assoc]
      exact Cov.kept k g (.inr (Nat.le_refl _))
  · rw [← Array.length_toList, ep, List.length_append, List.length_cons, List.length_drop, lt]
    omega
theorem iteLe {c : Prop} [Decidable c] {a b n : Nat} (h1 : a ≤ n) (h2 : b ≤ n) : (if c then a else b) ≤ n := by split <;> assumption
theorem cov_push {t : SortSt} {lo n : Nat} (cv : Cov rk (arrOf t) (pendingOf t).toList 0 lo) (n1 : 1 ≤ n) (u : Up rk (arrOf t) lo (lo + n)) : Cov rk (arrOf t) ((pendingOf t).push (lo, n, 0)).toList 0 (lo + n) := by
  rw [Array.toList_push]
  exact Cov.app.mpr ⟨lo, cv, rfl, n1, u, rfl⟩
theorem sort_of {st : SortSt} {Q : Unit → SortSt → Prop} (C : Cm prog w A s κ rk a0) (B : Bs a0 κ st) (pe : pendingOf st = #[]) (h2 : 2 ≤ a0.size)
    (h : ∀ t, Bs a0 κ t → Up rk (arrOf t) 0 a0.size → Q () t) : wpS (model prog w) A E s sortRuns' Q st := by
  rw [sortRuns'_eq]
  refine wpS_bind (wpS_get ?_)
  dsimp only
  rw [B.size]
  generalize minRun' a0.size a0.size 0 = mr
  refine wpS_bind (wpS_mono (wpS_forRange (I := fun x c t => ∃ lo, c = (none, lo) ∧ Bs a0 κ t ∧ Cov rk (arrOf t) (pendingOf t).toList 0 lo ∧ lo ≤ a0.size ∧ (x ≤ lo ∨ a0.size ≤ lo))
    (Q := fun c t => ∃ lo, c = (none, lo) ∧ Bs a0 κ t ∧ Cov rk (arrOf t) (pendingOf t).toList 0 lo ∧ lo = a0.size) ?step ?fin ⟨0, rfl, B, by rw [pe]; exact rfl, Nat.zero_le _, .inl (Nat.le_refl _)⟩) ?post)
  case fin =>
    rintro c t ⟨lo, rfl, B', cv, h3, h4⟩
    exact ⟨lo, rfl, B', cv, by omega⟩
  case step =>
    rintro x c t _ xn ⟨lo, rfl, B', cv, h3, h4⟩
    refine wIte (fun z => wpS_pure ⟨lo, rfl, B', cv, by have z : lo ≥ a0.size := z; omega⟩) (fun z => ?_)
    have z : ¬ lo ≥ a0.size := z
    refine wpS_bind (wpS_mono (run_of (lo := lo) (nrem := a0.size - lo) C (by omega) (by omega) B') ?_)
    rintro r t1 ⟨n, rfl, B1, n1, n2, u1, k1, p1⟩
    have cv1 : Cov rk (arrOf t1) (pendingOf t1).toList 0 lo := by rw [p1]; exact Cov.kept k1 cv (.inl (Nat.le_refl _))
    clear k1 p1
    refine wIte (fun y => ?_) (fun y => ?_)
    have y : n < mr := y
    refine wpS_bind (wpS_lift (wpAny_rule ⟨rfl, ?_⟩))
    refine wpS_bind (bin_of (lo := lo) (n := min (a0.size - lo) mr) (ok := n) C (by omega) (by omega) B1 u1 fun t2 B2 u2 k2 p2 => ?_)
    refine wIte (fun h => absurd h (by decide)) (fun _ => ?_)
    have cv2 : Cov rk (arrOf t2) (pendingOf t2).toList 0 lo := by rw [p2]; exact Cov.kept k2 cv1 (.inl (Nat.le_refl _))
    have N1 : 1 ≤ min (a0.size - lo) mr := by omega
    have N2 : lo + min (a0.size - lo) mr ≤ a0.size := by omega
    clear p2 k2
    generalize min (a0.size - lo) mr = N at u2 N1 N2 ⊢
    rotate_left
    have N1 : 1 ≤ n := n1
    have N2 : lo + n ≤ a0.size := by omega
    have B2 := B1
    have u2 := u1
    have cv2 := cv1
    generalize t1 = t2 at B2 u2 cv2 ⊢
    generalize n = N at N1 N2 u2 ⊢
    rotate_left
    all_goals
      refine wpS_bind (wpS_get ?_)
      cases hb : (pendingOf t2).back? with
      | none =>
        exact wpS_bind (wpS_modify (wpS_pure ⟨lo + N, rfl, ⟨B2.perm, B2.kind, B2.ok⟩, cov_push cv2 N1 u2, N2, by omega⟩))
      | some q =>
        obtain ⟨s1, m1, pw⟩ := q
        refine wpS_bind (wpS_mono (wpS_forRange (I := fun y c t => c = (none, ()) ∧ Bs a0 κ t ∧ Cov rk (arrOf t) (pendingOf t).toList 0 lo ∧ Up rk (arrOf t) lo (lo + N))
          (Q := fun c t => c = (none, ()) ∧ Bs a0 κ t ∧ Cov rk (arrOf t) (pendingOf t).toList 0 lo ∧ Up rk (arrOf t) lo (lo + N)) ?_ (fun _ _ h => h) ⟨rfl, B2, cv2, u2⟩) ?_)
        · rintro y c t3 _ yn ⟨rfl, B3, cv3, u3⟩
          refine wpS_bind (wpS_get ?_)
          by_cases g : (pendingOf t3).size > 1
          · rw [if_pos g, Array.getElem?_eq_getElem (show (pendingOf t3).size - 2 < (pendingOf t3).size by omega)]
            refine wIte (fun _ => wpS_pure ⟨rfl, B3, cv3, u3⟩) (fun _ => ?_)
            refine wpS_bind (mst_of C B3 cv3 (by omega) (by omega) fun t4 B4 cv4 sz k4 => ?_)
            refine wIte (fun h => absurd h (by decide)) (fun _ => ?_)
            exact wpS_pure ⟨rfl, B4, cv4, k4.up u3 (.inr (Nat.le_refl _))⟩
          · rw [if_neg g]
            exact wpS_pure ⟨rfl, B3, cv3, u3⟩
        · rintro c t3 ⟨rfl, B3, cv3, u3⟩
          refine wpS_bind (wpS_modify (wpS_bind (wpS_modify (wpS_pure ⟨lo + N, rfl, ⟨B3.perm, B3.kind, B3.ok⟩, ?_, N2, by omega⟩))))
          show Cov rk (arrOf t3) (Array.toList (Array.push (Array.modify (pendingOf t3) _ _) (lo, N, 0))) 0 (lo + N)
          rw [Array.toList_push, Array.toList_modify]
          exact Cov.app.mpr ⟨lo, cov_mod cv3, rfl, N1, u3, rfl⟩
  case post =>
    rintro c t ⟨lo, rfl, B', cv, rfl⟩
    dsimp only
    have lc := Cov.len cv
    refine wpS_bind (wpS_mono (wpS_forRange (I := fun x c t => c = (none, ()) ∧ Bs a0 κ t ∧ Cov rk (arrOf t) (pendingOf t).toList 0 a0.size ∧ ((pendingOf t).size ≤ 1 ∨ (pendingOf t).size + x ≤ a0.size))
      (Q := fun c t => c = (none, ()) ∧ Bs a0 κ t ∧ Cov rk (arrOf t) (pendingOf t).toList 0 a0.size ∧ (pendingOf t).size ≤ 1) ?stepE ?finE ⟨rfl, B', cv, .inr (by rw [← Array.length_toList]; omega)⟩) ?postE)
    case finE =>
      rintro c t ⟨rfl, B', cv, z⟩
      exact ⟨rfl, B', cv, by omega⟩
    case stepE =>
      rintro x c t _ xn ⟨rfl, B', cv, z⟩
      refine wpS_bind (wpS_get ?_)
      refine wIte (fun y => wpS_pure ⟨rfl, B', cv, y⟩) (fun y => ?_)
      have y : ¬ (pendingOf t).size ≤ 1 := y
      refine wpS_bind (mst_of C B' cv (Nat.le_refl _) ?_ fun t2 B2 cv2 sz _ => ?_)
      · exact Nat.lt_of_le_of_lt (Nat.succ_le_succ (iteLe (n := (pendingOf t).size - 2) (by omega) (Nat.le_refl _))) (by omega)
      · exact wpS_pure ⟨rfl, B2, cv2, by omega⟩
    case postE =>
      rintro c t ⟨rfl, B', cv, z⟩
      refine wpS_pure (h t B' ?_)
      obtain ⟨l, hl⟩ : ∃ l, l = (pendingOf t).toList := ⟨_, rfl⟩
      have ll : l.length ≤ 1 := by rw [hl, Array.length_toList]; exact z
      rw [← hl] at cv
      match l, ll, cv with
      | [], _, cv => have : 0 = a0.size := cv; omega
      | [q], _, ⟨c1, c2, c3, c4⟩ =>
        have c4 : 0 + q.2.1 = a0.size := c4
        rw [c4] at c3
        exact c3
end
end TS
namespace L2
open PySem PySem.Spec PyProof.Rows
section
variable {prog : Program} {w : World} {A : Around} {E : Value → Shared → Prop} {s : Shared}
structure SortOk (prog : Program) (w : World) (A : Around) (s : Shared) (rk : Value → Nat) (vs : List Value) : Prop where
  kind : 2 ≤ vs.length → ∀ (Q : SortKind → Shared → Prop) (E : Value → Shared → Prop), Q oneType' s → wpAny (model prog w) A (keyKind' vs.toArray) Q E s
  less : ∀ x ∈ vs, ∀ y ∈ vs, ∀ (Q : Bool → Shared → Prop) (E : Value → Shared → Prop), Q (decide (rk x < rk y)) s → wpAny (model prog w) A (oneLt' true x y) Q E s
theorem pair_eq {vs : List Value} {p : Keyed} (h : p ∈ (pairsOf vs).toList) : p.1 ∈ vs ∧ p.2 = p.1 := by
  rw [pairsOf_toList] at h
  obtain ⟨i, hi⟩ := List.mem_iff_getElem?.mp h
  obtain ⟨x, y⟩ := p
  rw [List.getElem?_zip_eq_some] at hi
  obtain ⟨e1, e2⟩ := hi
  rw [e1] at e2
  exact ⟨List.mem_of_getElem? e1, (Option.some.inj e2).symm⟩
theorem out_of {rk : Value → Nat} {vs : List Value} {xs : Array Keyed} (hp : xs.Perm (pairsOf vs)) (u : TS.Up (fun p => rk p.1) xs 0 xs.size) : (xs.map (·.2)).toList.Perm vs ∧ (xs.map (·.2)).toList.Pairwise (fun x y => rk x ≤ rk y) := by
  have pl := Array.perm_iff_toList_perm.mp hp
  have e : xs.toList.map (·.2) = xs.toList.map (·.1) := List.map_congr_left fun p hp' => (pair_eq (pl.mem_iff.mp hp')).2
  rw [Array.toList_map]
  constructor
  · refine (pl.map _).trans ?_
    rw [← Array.toList_map, pairs_snd]
  · show List.Pairwise _ (xs.toList.map (·.2))
    rw [e]
    exact List.pairwise_map.mpr (TS.srt_of_up u)
theorem cm_of {rk : Value → Nat} {vs : List Value} (h : SortOk prog w A s rk vs) : TS.Cm prog w A s oneType' (fun p => rk p.1) (pairsOf vs) := fun x hx y hy Q E' q => by
  rw [keyLt'_oneType]
  exact h.less x.1 (pair_eq hx).1 y.1 (pair_eq hy).1 Q E' q
theorem gsort {a : Addr} {vs : List Value} {rk : Value → Nat} {n : Nat} {P : Fin → Shared → Prop} (ho : s.heap.get? a = some (seqObj "list" vs.toArray n)) (hl : vs.length ≤ sizeLine)
    (ok : ∀ h' : Heap, (∀ b o, b ≠ a → s.heap.get? b = some o → h'.get? b = some o) → SortOk prog w A { s with heap := h' } rk vs)
    (h : ∀ out : List Value, out.Perm vs → out.Pairwise (fun x y => rk x ≤ rk y) → P (.done (.ret .none)) { s with heap := sortedHeap s.heap a vs out.toArray }) : wpAny (model prog w) A (Builtin.«list.sort» ⟨[.ref a], []⟩) P E s := by
  rw [list_sort_plain]
  have ha : a < s.heap.objs.size := Heap.lt_size ho
  have hsz : vs.toArray.size = vs.length := by simp
  refine wpAny_bind (listItems_at ho rfl ?_)
  refine wpAny_bind (listUpdate_at ho rfl ?_ (by rw [hsz]; exact hl) (Nat.zero_le _))
  obtain ⟨e1, ho1⟩ : ∃ e1, (s.heap.update a (Obj.mapSeq fun _ => #[])).get? a = some (seqObj "list" #[] e1) := ⟨_, get?_update_seq ho (fun _ => #[])⟩
  refine wpAny_bind (seqEpoch_at ho1 rfl ?_)
  refine wpAny_bind (wpAny_newTuple ?_ (hsz := hl))
  refine wpAny_bind (wpAny_newList ?_)
  refine wpAny_holding ?_
  obtain ⟨H6, e6⟩ : ∃ H6, H6 = ((s.heap.update a (Obj.mapSeq fun _ => #[])).push (seqObj "tuple" vs.toArray 0)).push (seqObj "list" #[] 0) := ⟨_, rfl⟩
  have ho6 : H6.get? a = some (seqObj "list" #[] e1) := by
    rw [e6, Heap.get?_push_ne _ _ _ (by rw [size_push', Heap.size_update]; exact Nat.ne_of_lt (Nat.lt_succ_of_lt ha)), Heap.get?_push_ne _ _ _ (by rw [Heap.size_update]; exact Nat.ne_of_lt ha)]
    exact ho1
  have old : ∀ b o, b ≠ a → s.heap.get? b = some o → H6.get? b = some o := by
    intro b o nb hb
    rw [e6]
    refine Heap.get?_push_of_some _ (Heap.get?_push_of_some _ ?_)
    rw [Heap.get?_update_ne _ _ _ _ nb]
    exact hb
  have ok6 := ok H6 old
  show wpAny (model prog w) A _ P E { s with heap := ((s.heap.update a (Obj.mapSeq fun _ => #[])).push (seqObj "tuple" vs.toArray 0)).push (seqObj "list" #[] 0) }
  unfold sortedHeap at h
  rw [← e6] at h ⊢
  dsimp only
  by_cases h2 : vs.toArray.size < 2
  · rw [if_pos h2, if_pos h2]
    refine wpAny_bind (wpAny_pure ?_)
    rw [StateT.run_pure]
    refine wpAny_bind (wpAny_pure ?_)
    dsimp only
    refine wpAny_bind (seqEpoch_at ho6 rfl ?_)
    have ee : (arrOf (SortSt.mk' general' (vs.toArray.zip vs.toArray) #[] 7 none)).map (·.2) = vs.toArray := pairs_snd vs
    rw [ee]
    refine wpAny_bind (listUpdate_at ho6 rfl ?_ (Nat.zero_le _) (by rw [hsz]; omega))
    simp only [bne_self_eq_false, Bool.false_eq_true, if_false]
    refine wpAny_pure (h vs (List.Perm.refl _) ?_)
    match vs, hsz, h2 with
    | [], _, _ => exact List.Pairwise.nil
    | [_], _, _ => exact List.pairwise_singleton _ _
    | _ :: _ :: _, _, h2 => simp at h2; omega
  · rw [if_neg h2, if_neg h2]
    refine wpAny_bind (ok6.kind (by omega) _ _ ?_)
    refine wpAny_bind (wpAny_mono (TS.sort_of (s := { s with heap := H6 }) (st := SortSt.mk' oneType' (vs.toArray.zip vs.toArray) #[] 7 none) (a0 := pairsOf vs) (rk := fun p => rk p.1)
      (Q := fun _ st' => (arrOf st').Perm (pairsOf vs) ∧ failedOf st' = none ∧ TS.Up (fun p => rk p.1) (arrOf st') 0 (pairsOf vs).size) (cm_of ok6) ⟨Array.Perm.refl _, rfl, rfl⟩ rfl (by rw [pairsOf_size]; omega) fun t B u => ⟨B.perm, B.ok, u⟩) ?_ fun _ _ e => e)
    rintro ⟨⟨⟩, st'⟩ s' ⟨rfl, hp, hf, hu⟩
    dsimp only
    rw [← hp.size_eq] at hu
    obtain ⟨o1, o2⟩ := out_of hp hu
    refine wpAny_bind (seqEpoch_at ho6 rfl ?_)
    refine wpAny_bind (listUpdate_at ho6 rfl ?_ (Nat.zero_le _) (by rw [Array.size_map, hp.size_eq, pairsOf_size]; omega))
    rw [hf]
    simp only [bne_self_eq_false, Bool.false_eq_true, if_false]
    have := h _ o1 o2
    rw [Array.toArray_toList] at this
    exact wpAny_pure this
theorem gsorted {l : Addr} {vs : List Value} {rk : Value → Nat} {Q : Value → Shared → Prop} (pl : s.heap.IsList l vs.toArray) (hl : vs.length ≤ sizeLine)
    (ok : ∀ h' : Heap, (∀ b o, b < s.heap.objs.size → s.heap.get? b = some o → h'.get? b = some o) → SortOk prog w A.in1.in1 { s with heap := h' } rk vs)
    (h : ∀ out : List Value, out.Perm vs → out.Pairwise (fun x y => rk x ≤ rk y) → Q (.ref (s.heap.objs.size + 1)) { s with heap := sortedAll s.heap vs out.toArray }) : wpAny (model prog w) A (call (.builtin "sorted") [.ref l]) Q E s := by
  refine Calls.call_function_entry kind_sorted plain_sorted entry_sorted (args_sorted1 _) ?_
  unfold Builtin.«sorted»
  refine wpAny_bind (m := checkCount "sorted" 1 1 _) (wpAny_pure ?_)
  refine wpAny_bind (collect_list pl ?_ hl)
  refine wpAny_bind (wpAny_newList ?_ (hsz := hl))
  have hsz : ((s.heap.push (seqObj "list" #[] 0)).update s.heap.objs.size (Obj.mapSeq (· ++ vs.toArray))).objs.size = s.heap.objs.size + 1 := by
    rw [Heap.size_update, size_push']
  have hoL : (((s.heap.push (seqObj "list" #[] 0)).update s.heap.objs.size (Obj.mapSeq (· ++ vs.toArray))).push (seqObj "list" vs.toArray 0)).get? (s.heap.objs.size + 1) = some (seqObj "list" vs.toArray 0) := by
    rw [← hsz]; exact Heap.get?_push_size _ rfl
  show wpAny _ _ _ _ _ { s with heap := ((s.heap.push (seqObj "list" #[] 0)).update s.heap.objs.size (Obj.mapSeq (· ++ vs.toArray))).push (seqObj "list" vs.toArray 0) }
  rw [hsz]
  refine wpAny_bind (wpAny_holding (wpAny_call_entry slot_list_sort ⟨_, hoL, rfl⟩ entry_list_sort (gsort hoL hl (rk := rk) (fun h' old => ok h' fun b o lt e => old b o (Nat.ne_of_lt (Nat.lt_succ_of_lt lt)) ?_) fun out o1 o2 => ⟨_, rfl, ?_⟩) (args_list_sort _)))
  · refine Heap.get?_push_of_some _ ?_
    rw [Heap.get?_update_ne _ _ _ _ (Nat.ne_of_lt lt)]
    exact Heap.get?_push_of_some _ e
  · exact wpAny_pure ⟨_, rfl, h out o1 o2⟩
end
end L2
namespace L2
open PySem PySem.Spec PyProof.Rows
section
variable {α : Type}
theorem cnt_less {p q : α → Bool} (h : ∀ a, p a = true → q a = true) : ∀ {l : List α} {x : α}, x ∈ l → p x = false → q x = true → l.countP p < l.countP q
  | [], x, hx, _, _ => by cases hx
  | y :: l, x, hx, px, qx => by
    have le : l.countP p ≤ l.countP q := List.countP_mono_left fun a _ => h a
    rw [List.countP_cons, List.countP_cons]
    by_cases e : x = y
    · subst e
      rw [px, qx]
      simp; omega
    · have hx' : x ∈ l := by
        rcases List.mem_cons.mp hx with z | z
        · exact absurd z e
        · exact z
      have := cnt_less h hx' px qx
      cases hp : p y with
      | false => simp; split <;> omega
      | true => rw [h y hp]; simp; omega
def rank (lt : α → α → Bool) (l : List α) (x : α) : Nat := l.countP fun y => lt y x
theorem rank_eq {lt : α → α → Bool} (ir : ∀ a, lt a a = false) (tr : ∀ a b c, lt a b = true → lt b c = true → lt a c = true) (tot : ∀ a b, lt a b = false → lt b a = true ∨ a = b) {l : List α} {x y : α} (hx : x ∈ l) (hy : y ∈ l) : decide (rank lt l x < rank lt l y) = lt x y := by
  unfold rank
  cases h : lt x y with
  | true => exact decide_eq_true (cnt_less (fun a ha => tr a x y ha h) hx (ir x) h)
  | false =>
    refine decide_eq_false ?_
    rcases tot x y h with z | z
    · have := cnt_less (fun a ha => tr a y x ha z) hy (ir y) z
      omega
    · rw [z]; omega
theorem rank_le {lt : α → α → Bool} (ir : ∀ a, lt a a = false) (tr : ∀ a b c, lt a b = true → lt b c = true → lt a c = true) {l : List α} {x y : α} (hy : y ∈ l) (h : rank lt l x ≤ rank lt l y) : lt y x = false := by
  cases z : lt y x with
  | false => rfl
  | true =>
    have := cnt_less (l := l) (fun a ha => tr a y x ha z) hy (ir y) z
    unfold rank at h
    omega
end
section
variable {prog : Program} {w : World} {A : Around} {E : Value → Shared → Prop} {s : Shared}
theorem sok_ints {vs : List Value} {ns : List Int} (h : IntsAre vs ns) : SortOk prog w A s (fun v => rank (fun a b : Int => decide (a < b)) ns (numOf v)) vs := by
  constructor
  · intro h2 Q E q
    match vs, h2, h with
    | [], h2, _ => simp at h2
    | [_], h2, _ => simp at h2
    | v1 :: v2 :: vs, _, h => rw [keyKind_ints h]; exact wpAny_pure q
  · intro x hx y hy Q E q
    obtain ⟨a, t, rfl⟩ := h.all x hx
    obtain ⟨b, u, rfl⟩ := h.all y hy
    have mx : ∀ {v : Int} {t : Tok}, Value.int v t ∈ vs → v ∈ ns := fun {v t} hv => by
      rw [← h.nums]
      exact List.mem_map.mpr ⟨_, hv, rfl⟩
    refine oneLt_int ?_
    have := rank_eq (lt := fun a b : Int => decide (a < b)) (fun a => decide_eq_false (Int.lt_irrefl a)) (fun a b c h1 h2 => decide_eq_true (Int.lt_trans (of_decide_eq_true h1) (of_decide_eq_true h2))) (fun a b h => by
      have := of_decide_eq_false h
      by_cases e : a = b
      · exact .inr e
      · exact .inl (decide_eq_true (by omega))) (l := ns) (mx hx) (mx hy)
    rw [← this]; exact q
end
end L2
namespace L2
open PySem PySem.Spec PyProof.Rows
section
variable {prog : Program} {w : World} {A : Around} {E : Value → Shared → Prop} {s : Shared}
theorem gsortT {a : Addr} {vs : List Value} {rk : Value → Nat} {n : Nat} {P : Fin → Shared → Prop} (ho : s.heap.get? a = some (seqObj "list" vs.toArray n)) (hl : vs.length ≤ sizeLine)
    (ok : ∀ h' : Heap, (∀ b o, b ≠ a → s.heap.get? b = some o → h'.get? b = some o) → SortOk prog w A { s with heap := h' } rk vs)
    (h : ∀ out : List Value, out.Perm vs → out.Pairwise (fun x y => rk x ≥ rk y) → P (.done (.ret .none)) { s with heap := sortedHeap s.heap a vs out.toArray }) : wpAny (model prog w) A (Builtin.«list.sort» ⟨[.ref a], [(Str.ofString "reverse", .bool true)]⟩) P E s := by
  rw [list_sort_rev]
  have ha : a < s.heap.objs.size := Heap.lt_size ho
  have hsz : vs.toArray.size = vs.length := by simp
  refine wpAny_bind (listItems_at ho rfl ?_)
  refine wpAny_bind (listUpdate_at ho rfl ?_ (by rw [hsz]; exact hl) (Nat.zero_le _))
  obtain ⟨e1, ho1⟩ : ∃ e1, (s.heap.update a (Obj.mapSeq fun _ => #[])).get? a = some (seqObj "list" #[] e1) := ⟨_, get?_update_seq ho (fun _ => #[])⟩
  refine wpAny_bind (seqEpoch_at ho1 rfl ?_)
  refine wpAny_bind (wpAny_newTuple ?_ (hsz := hl))
  refine wpAny_bind (wpAny_newList ?_)
  refine wpAny_holding ?_
  obtain ⟨H6, e6⟩ : ∃ H6, H6 = ((s.heap.update a (Obj.mapSeq fun _ => #[])).push (seqObj "tuple" vs.toArray 0)).push (seqObj "list" #[] 0) := ⟨_, rfl⟩
  have ho6 : H6.get? a = some (seqObj "list" #[] e1) := by
    rw [e6, Heap.get?_push_ne _ _ _ (by rw [size_push', Heap.size_update]; exact Nat.ne_of_lt (Nat.lt_succ_of_lt ha)), Heap.get?_push_ne _ _ _ (by rw [Heap.size_update]; exact Nat.ne_of_lt ha)]
    exact ho1
  have old : ∀ b o, b ≠ a → s.heap.get? b = some o → H6.get? b = some o := by
    intro b o nb hb
    rw [e6]
    refine Heap.get?_push_of_some _ (Heap.get?_push_of_some _ ?_)
    rw [Heap.get?_update_ne _ _ _ _ nb]
    exact hb
  have ok6 := ok H6 old
  show wpAny (model prog w) A _ P E { s with heap := ((s.heap.update a (Obj.mapSeq fun _ => #[])).push (seqObj "tuple" vs.toArray 0)).push (seqObj "list" #[] 0) }
  unfold sortedHeap at h
  rw [← e6] at h ⊢
  dsimp only
  rw [if_pos rfl]
  refine wpAny_bind (wpAny_rule ?_)
  simp only [if_true]
  have pr : (vs.toArray.zip vs.toArray).reverse.Perm (pairsOf vs) := Array.perm_iff_toList_perm.mpr (by rw [Array.toList_reverse]; exact List.reverse_perm _)
  have fin : ∀ xs : Array Keyed, xs.Perm (pairsOf vs) → TS.Up (fun p => rk p.1) xs 0 xs.size → P (.done (.ret .none)) { s with heap := H6.update a (Obj.mapSeq fun _ => (xs.map (·.2)).reverse) } := fun xs hp hu => by
    obtain ⟨o1, o2⟩ := out_of hp hu
    have := h ((xs.map (·.2)).toList.reverse) ((List.reverse_perm _).trans o1) (List.pairwise_reverse.mpr o2)
    rw [← Array.toList_reverse, Array.toArray_toList] at this
    exact this
  by_cases h2 : vs.toArray.size < 2
  · rw [if_pos h2, if_pos h2]
    refine wpAny_bind (wpAny_pure ?_)
    rw [StateT.run_pure]
    refine wpAny_bind (wpAny_pure ?_)
    dsimp only
    refine wpAny_bind (seqEpoch_at ho6 rfl ?_)
    refine wpAny_bind (listUpdate_at ho6 rfl ?_ (Nat.zero_le _) (by
      rw [Array.size_reverse, Array.size_map]
      show (vs.toArray.zip vs.toArray).reverse.size ≤ _
      rw [pr.size_eq, pairsOf_size]; omega))
    simp only [bne_self_eq_false, Bool.false_eq_true, if_false]
    refine wpAny_pure (fin _ pr ?_)
    intro i j _ hij hj
    have : (vs.toArray.zip vs.toArray).reverse.size = vs.length := by rw [pr.size_eq, pairsOf_size]
    have hj' : j < (vs.toArray.zip vs.toArray).reverse.size := hj
    rw [show i = j by omega]; exact Nat.le_refl _
  · rw [if_neg h2, if_neg h2]
    refine wpAny_bind (ok6.kind (by omega) _ _ ?_)
    refine wpAny_bind (wpAny_mono (TS.sort_of (s := { s with heap := H6 }) (st := SortSt.mk' oneType' (vs.toArray.zip vs.toArray).reverse #[] 7 none) (a0 := pairsOf vs) (rk := fun p => rk p.1)
      (Q := fun _ st' => (arrOf st').Perm (pairsOf vs) ∧ failedOf st' = none ∧ TS.Up (fun p => rk p.1) (arrOf st') 0 (pairsOf vs).size) (cm_of ok6) ⟨pr, rfl, rfl⟩ rfl (by rw [pairsOf_size]; omega) fun t B u => ⟨B.perm, B.ok, u⟩) ?_ fun _ _ e => e)
    rintro ⟨⟨⟩, st'⟩ s' ⟨rfl, hp, hf, hu⟩
    dsimp only
    rw [← hp.size_eq] at hu
    refine wpAny_bind (seqEpoch_at ho6 rfl ?_)
    refine wpAny_bind (listUpdate_at ho6 rfl ?_ (Nat.zero_le _) (by rw [Array.size_reverse, Array.size_map, hp.size_eq, pairsOf_size]; omega))
    rw [hf]
    simp only [bne_self_eq_false, Bool.false_eq_true, if_false]
    exact wpAny_pure (fin _ hp hu)
theorem gsortedT {l : Addr} {vs : List Value} {rk : Value → Nat} {Q : Value → Shared → Prop} (pl : s.heap.IsList l vs.toArray) (hl : vs.length ≤ sizeLine)
    (ok : ∀ h' : Heap, (∀ b o, b < s.heap.objs.size → s.heap.get? b = some o → h'.get? b = some o) → SortOk prog w A.in1.in1 { s with heap := h' } rk vs)
    (h : ∀ out : List Value, out.Perm vs → out.Pairwise (fun x y => rk x ≥ rk y) → Q (.ref (s.heap.objs.size + 1)) { s with heap := sortedAll s.heap vs out.toArray }) : wpAny (model prog w) A (call (.builtin "sorted") [.ref l] [(Str.ofString "reverse", .bool true)]) Q E s := by
  refine call_function_entry_kw kind_sorted plain_sorted entry_sorted (args_sorted_rev _ _) ?_
  unfold Builtin.«sorted»
  refine wpAny_bind (m := checkCount "sorted" 1 1 _) (wpAny_pure ?_)
  refine wpAny_bind (collect_list pl ?_ hl)
  refine wpAny_bind (wpAny_newList ?_ (hsz := hl))
  have hsz : ((s.heap.push (seqObj "list" #[] 0)).update s.heap.objs.size (Obj.mapSeq (· ++ vs.toArray))).objs.size = s.heap.objs.size + 1 := by
    rw [Heap.size_update, size_push']
  have hoL : (((s.heap.push (seqObj "list" #[] 0)).update s.heap.objs.size (Obj.mapSeq (· ++ vs.toArray))).push (seqObj "list" vs.toArray 0)).get? (s.heap.objs.size + 1) = some (seqObj "list" vs.toArray 0) := by
    rw [← hsz]; exact Heap.get?_push_size _ rfl
  show wpAny _ _ _ _ _ { s with heap := ((s.heap.push (seqObj "list" #[] 0)).update s.heap.objs.size (Obj.mapSeq (· ++ vs.toArray))).push (seqObj "list" vs.toArray 0) }
  rw [hsz]
  refine wpAny_bind (wpAny_holding (wpAny_call_entry_kw slot_list_sort ⟨_, hoL, rfl⟩ entry_list_sort (gsortT hoL hl (rk := rk) (fun h' old => ok h' fun b o lt e => old b o (Nat.ne_of_lt (Nat.lt_succ_of_lt lt)) ?_) fun out o1 o2 => ⟨_, rfl, ?_⟩) (args_list_sort_rev _ _)))
  · refine Heap.get?_push_of_some _ ?_
    rw [Heap.get?_update_ne _ _ _ _ (Nat.ne_of_lt lt)]
    exact Heap.get?_push_of_some _ e
  · exact wpAny_pure ⟨_, rfl, h out o1 o2⟩
end
theorem ints_perm {vs out : List Value} {ns : List Int} (h : IntsAre vs ns) (p : out.Perm vs) : ∃ ms, IntsAre out ms ∧ ms.Perm ns ∧ ms = out.map numOf := by
  refine ⟨out.map numOf, intsAre_map out fun v hv => h.all v (p.mem_iff.mp hv), ?_, rfl⟩
  rw [← h.nums]
  exact p.map numOf
section
variable {X : Cx}
theorem int_pair {ns ms : List Int} {out : List Value} (pm : ms.Perm ns) (em : ms = out.map numOf) (o2 : out.Pairwise (fun x y => rank (fun a b : Int => decide (a < b)) ns (numOf x) ≤ rank (fun a b : Int => decide (a < b)) ns (numOf y))) : ms.Pairwise (· ≤ ·) := by
  rw [em]
  refine List.pairwise_map.mpr (List.Pairwise.imp_of_mem (fun {x y} hx hy h => ?_) o2)
  have my : numOf y ∈ ns := pm.mem_iff.mp (by rw [em]; exact List.mem_map.mpr ⟨y, hy, rfl⟩)
  have := rank_le (lt := fun a b : Int => decide (a < b)) (fun a => decide_eq_false (Int.lt_irrefl a)) (fun a b c h1 h2 => decide_eq_true (Int.lt_trans (of_decide_eq_true h1) (of_decide_eq_true h2))) my h
  have := of_decide_eq_false this
  omega
theorem call_sortedN : CallR X (.builtin "sorted") (fun xs H Q => ∃ (p : Addr) (ns : List Int), xs = [.ref p] ∧ SqL X.K H p (ns.map V.int) ∧ ∀ (ms : List Int) l, ms.Perm ns → ms.Pairwise (· ≤ ·) → H l = none → Q (.ref l) (upd H l (.lst (ms.map V.int)))) := by
  intro pins s σ H xs us Q I r h
  obtain ⟨p, ns, rfl, hp, q⟩ := h
  obtain ⟨u, rfl, rx⟩ := vals1 r
  cases rx
  obtain ⟨its, rv, pl, hl⟩ := I.list hp
  have il := rv.length
  have ia := intsAre_of rv
  refine gsorted (rk := fun v => rank (fun a b : Int => decide (a < b)) ns (numOf v)) pl.isList (by omega) (fun h' old => sok_ints ia) fun out o1 o2 => ?_
  obtain ⟨ms, i1, i2, i3⟩ := ints_perm ia o1
  have hlm : ms.length ≤ sizeLine := by rw [i2.length_eq]; rw [List.length_map] at hl; exact hl
  exact ⟨.ref (s.heap.objs.size + 1), _, laid_sorted I (by simpa using i1) hlm, rfl, q ms _ i2 (int_pair i2 i3 o2) (I.hok.fresh (Nat.le_succ _))⟩
variable {e : Expr} {t : TA} {p pos kpos : Pos}
def tSortedT (K : PySem.W.Frag) (t : TA) : TE := tCB (fun xs H Q => ∃ (p : Addr) (ns : List Int), xs = [.ref p] ∧ SqL K H p (ns.map V.int) ∧ ∀ (ms : List Int) l, ms.Perm ns → ms.Pairwise (· ≥ ·) → H l = none → Q (.ref l) (upd H l (.lst (ms.map V.int)))) t
theorem pe_sortedT {j : Nat} {kp : Pos} (K : PySem.W.Frag) (hm : X.mg "sorted" = none) (ha : PA X [e] t) (hK : X.K = K := by rfl) (hg : Gl X "sorted" := by rfl)
    (he : backTo pos (starEach [e] X.env) = (false, eval e X.env) :: backTo pos (starEach [] X.env) := by rfl) (hplain : (backTo pos (starEach [e] X.env)).any (·.1) = false := by rfl) :
    PE X (.Call (.Name "sorted" p) [e] [⟨some "reverse", .Constant (.bool true) j kp, kpos⟩] pos) (tSortedT K t) := by
  subst hK
  intro pins s σ H Q I h
  refine wpAny_Call_Name_kw (ld_blt I hg hm boot_sortedB ?_ (by decide) (by decide))
  refine callWith_kw (thn (ha pos pins s σ H _ I h) fun us s1 ⟨vs, H1, I1, r1, q1⟩ => ?_) he hplain
  obtain ⟨a, ns, rfl, hp, q⟩ := q1
  obtain ⟨u, rfl, rx⟩ := vals1 r1
  cases rx
  have hk : PK X [⟨some "reverse", .Constant (.bool true) j kp, kpos⟩] (tCons (tC (.bl true)) tNil) := pk_cons pe_bl pk_nil
  refine thn (hk pos pins s1 σ H1 (fun zs H2 => zs = [.bl true] ∧ H2 = H1) I1 ⟨rfl, rfl⟩) fun ws s2 ⟨zs, H2, I2, rz, ez, eH⟩ => ?_
  subst ez eH
  obtain ⟨u2, rfl, rx2⟩ := vals1 rz
  cases (show u2 = Value.bool true from rx2)
  obtain ⟨its, rv, pl, hl⟩ := I2.list hp
  have ia := intsAre_of rv
  have il := rv.length
  refine gsortedT (rk := fun v => rank (fun a b : Int => decide (a < b)) ns (numOf v)) pl.isList (by omega) (fun h' old => sok_ints ia) fun out o1 o2 => ?_
  obtain ⟨ms, i1, i2, i3⟩ := ints_perm ia o1
  have hlm : ms.length ≤ sizeLine := by rw [i2.length_eq]; rw [List.length_map] at hl; exact hl
  have fal : ms.Pairwise (· ≥ ·) := by
    have e2 : ms.reverse = out.reverse.map numOf := by rw [i3, List.map_reverse]
    have := int_pair (ms := ms.reverse) ((List.reverse_perm ms).trans i2) e2 (List.pairwise_reverse.mpr o2)
    exact List.pairwise_reverse.mp this
  exact ⟨.ref (s2.heap.objs.size + 1), _, laid_sorted I2 (by simpa using i1) hlm, rfl, q ms _ i2 fal (I2.hok.fresh (Nat.le_succ _))⟩
end
end L2
namespace L2
open PySem PySem.Spec PyProof PyProof.Rows
def CMulH (i j : Int) : Prop := i.natAbs < 2 ^ 20000 ∧ j.natAbs < 2 ^ 20000
theorem mulH_ok {i j : Int} {n : Nat} (hn : n ≤ 2 ^ 20) (h1 : i.natAbs < 2 ^ n) (h2 : j.natAbs < 2 ^ n) : IntMulOk i j := by
  refine IntMulOk.of_bits ?_ ?_
  · exact Nat.le_trans (PySem.intBits_le_iff.mpr h1) hn
  · exact Nat.le_trans (PySem.intBits_le_iff.mpr h2) hn
theorem op_mulH {X : Cx} : OpR X (binaryOp .Mult) (rI CMulH fun i j => .int (i * j)) := opI fun _ _ _ _ _ _ _ hc q => mul_int q (mulH_ok (by decide) hc.1 hc.2)
end L2
namespace L2
open PySem PySem.Spec PyProof.Rows
section
variable {P : Program} {w : World} {K : PySem.W.Frag} {mg : Str → Option Value} {base h : Heap} {x : Str} {st : Stmt} {f : Addr} {fd : FuncData} {ps : List Str} {k : Nat} {sp : Sp}
def Fu (K : PySem.W.Frag) (x : Str) (st : Stmt) (f : Addr) : Prop := ∃ fd, PySem.W.nsIn K mainGlobals x = some (some (.ref f)) ∧ Fun K x x st f fd
theorem fu_mk {oc : Value} {od an : Option Addr} {osl : Array (Option Value)} {kV doc pm cdv ct : Value} (a : PySem.W.nsIn K mainGlobals x = some (some (.ref f))) (l : K.lookup f = some ⟨oc, od, .func (PySem.W.fnOf x x (defArgs st) (defBody st) (defScope st) .none kV doc pm an cdv ct), osl⟩)
    (c : PySem.W.codeIn K cdv x = true) (k : PySem.W.keepIn K (.ref f) = true) : Fu K x st f := ⟨_, a, fun_mk l c k⟩
theorem cal_mk (X : K.In h) (G : h.Ns mainGlobals mg) (a : PySem.W.nsIn K mainGlobals x = some (some (.ref f))) (F : Fun K x x st f fd) (b : Binds K fd ps []) (ok : FnOk P w K mg base CX0 k f fd ps sp) : Cal P w K mg base x k ps sp := ⟨f, fd, PySem.W.mg_of X G a, F.kp, b, ok⟩
def Fre (K : PySem.W.Frag) : List Str → Prop
  | [] => True
  | x :: l => PySem.W.nsIn K mainGlobals x = some none ∧ Fre K l
end
end L2
namespace L2
open PySem PySem.Spec PyProof PyProof.Rows
section
variable {prog : Program} {w : World} {A : Around} {E : Value → Shared → Prop} {s : Shared}
theorem meets_len_raw (d : Addr) (hd : (d == sysModules) = false) :
    MeetsIn prog w (Builtin.«dict.__len__» ⟨[.ref d], []⟩) (fun _ R s => ∃ o es ep, s.heap.get? d = some o ∧ o.data = .dict es ep ∧ R (.ok (.ret (.int es.size s.toks))) { s with toks := s.toks + 1 }) :=
  .of_wp fun A R s ⟨o, es, ep, ho, hdat, h⟩ => by
    show wpAny _ _ (dictSize d >>= _) _ _ s
    unfold dictSize
    refine wpAny_bind (wpAny_bind (wpAny_dictEntries ho hdat (wpAny_pure ?_)))
    show wpAny _ _ (Builtin.Dict.pendingCount d >>= _) _ _ s
    refine wpAny_bind (wpAny_pendingCount_other hd ?_)
    refine wpAny_ret_mkInt ?_
    rw [Nat.add_zero]; exact h
theorem call_len_raw {d : Addr} {o : Obj} {es : Array DictEntry} {ep : Nat} {Q : Value → Shared → Prop} (hd : (d == sysModules) = false) (ho : s.heap.get? d = some o) (hc : o.ExactDict) (hdat : o.data = .dict es ep) (hfit : (es.size : Int) < 2 ^ 63)
    (h : Q (.int es.size (s.toks + 1)) { s with toks := s.toks + 1 + 1 }) : wpAny (model prog w) A (call (.builtin "len") [.ref d]) Q E s := by
  have ht : s.TypeIs (.ref d) "dict" := ⟨o, ho, hc.1⟩
  refine Calls.call_function_entry kind_len plain_len entry_len (args_len1 _) ?_
  unfold Builtin.«len»
  refine wpAny_bind (m := oneArg "len" _) (wpAny_pure ?_)
  refine wpAny_bind (m := callSpecial? (.ref d) (Str.ofString "__len__")) (wpAny_callSpecial?_slot (name := Str.ofString "__len__") ht F.slot_dict_len
    (call_meetsIn F.slot_dict_len ht F.entry_dict_len (F.args_dict_len_1 _) (meets_len_raw d hd) ⟨o, es, ep, ho, hdat, ?_⟩))
  show wpAny _ _ _ _ _ { s with toks := s.toks + 1 }
  refine wpAny_bind (wpAny_holding (wpAny_pure ?_))
  refine wpAny_bind (wpAny_letGo ?_)
  show wpAny _ _ (if ((es.size : Nat) : Int) < 0 then _ else _) _ _ _
  rw [if_neg (by omega)]
  show wpAny _ _ (if ((es.size : Nat) : Int) ≥ 2 ^ 63 then _ else _) _ _ _
  rw [if_neg (by omega)]
  exact wpAny_bind (wpAny_mkInt (wpAny_pure ⟨_, rfl, h⟩))
end
section
variable {X : Cx}
theorem call_lenDT : CallR X (.builtin "len") (fun xs H Q => ∃ a kvs, xs = [V.ref a] ∧ H a = some (.dT kvs) ∧ Q (.int kvs.length) H) := by
  intro pins s σ H xs us Q I r h
  obtain ⟨a, kvs, rfl, ha, q⟩ := h
  obtain ⟨u, rfl, ru⟩ := vals1 r
  cases ru
  obtain ⟨z, hd, ys, rel, o, es, ep, ho, hc, hdat, he, hn⟩ := (show ObjOk X.prog X.w H s.heap a (.dT kvs) from I.hok a _ ha)
  have e : es.size = kvs.length := by
    have := congrArg List.length he
    rw [List.length_map, ← rel.length] at this
    simpa using this
  refine call_len_raw hd ho hc hdat (by rw [e]; rw [sizeLine_eq] at z; omega) ?_
  rw [e]
  exact ⟨.int kvs.length, H, I.tok _, ⟨_, rfl⟩, q⟩
end
end L2
namespace My
open PySem L2 Mth
def top (i : Nat) : Stmt := PySem.Challenge.pw_turnroots_k42_how_many_have_and_are_home.main.body.getD i (.Pass ⟨0, 0, 0, 0⟩)
abbrev s_is_whole : Stmt := top 8
abbrev s_must_be_from_one : Stmt := top 9
abbrev s_greatest_part : Stmt := top 10
abbrev s_walk_ring : Stmt := top 11
abbrev s_walk_rings : Stmt := top 12
abbrev s_send_along : Stmt := top 13
abbrev s_sort_by_length : Stmt := top 14
abbrev s_is_turn : Stmt := top 17
abbrev s_must_be_turn : Stmt := top 18
abbrev s_rounds_of : Stmt := top 20
abbrev s_are_filled_lists : Stmt := top 21
abbrev s_things_in : Stmt := top 22
abbrev s_from_rounds : Stmt := top 23
abbrev s_least_right : Stmt := top 25
abbrev s_join_rings : Stmt := top 26
abbrev s_root_told : Stmt := top 27
abbrev s_right_numbers : Stmt := top 29
abbrev s_ways_to_follow : Stmt := top 30
abbrev s_count_joins : Stmt := top 31
abbrev s_how_many_roots : Stmt := top 32
abbrev s_how_many_past : Stmt := top 34
abbrev s_must_be_counted : Stmt := top 37
abbrev s_kinds_below : Stmt := top 38
abbrev s_kinds_of : Stmt := top 39
abbrev s_is_kind : Stmt := top 40
abbrev s_one_of_kind : Stmt := top 41
abbrev s_orders_of : Stmt := top 42
abbrev s_how_many_of : Stmt := top 43
abbrev s_how_many_have : Stmt := top 44
abbrev s_how_many_home : Stmt := top 45
abbrev s_law_pool : Stmt := top 47
abbrev s_law_take : Stmt := top 48
abbrev s_law_same : Stmt := top 49
abbrev s_law_kinds : Stmt := top 50
abbrev s_law_product : Stmt := top 51
abbrev s_law_of_kind : Stmt := top 52
abbrev s_law_times : Stmt := top 53
abbrev s_law_least_right : Stmt := top 54
abbrev s_law_has_root : Stmt := top 55
abbrev s_law_all_turns : Stmt := top 56
abbrev s_law_done : Stmt := top 57
abbrev s_law_right : Stmt := top 58
abbrev s_law_tried : Stmt := top 59
abbrev s_law : Stmt := top 60
end My
namespace My
open PySem L2 Mth
structure Bl (mg : Str → Option Value) : Prop where
  len : mg "len" = none
  isi : mg "isinstance" = none
  int : mg "int" = none
  bool : mg "bool" = none
  list : mg "list" = none
  range : mg "range" = none
  sum : mg "sum" = none
  min : mg "min" = none
  max : mg "max" = none
  enum : mg "enumerate" = none
  zip : mg "zip" = none
  sorted : mg "sorted" = none
  tuple : mg "tuple" = none
  str : mg "str" = none
  repr : mg "repr" = none
  all : mg "all" = none
  any : mg "any" = none
  set : mg "set" = none
  dict : mg "dict" = none
  ve : mg "ValueError" = none
section
variable {P : Program} {w : World} {K : PySem.W.Frag} {mg : Str → Option Value} {base : Heap}
def spWhole (K : PySem.W.Frag) : Sp := fun vs H Q _ => ∃ x t b1 b2, vs = [x] ∧ TyOf K H x t ∧ PySem.W.kitOne K t (.type "int") = some b1 ∧ PySem.W.kitOne K t (.type "bool") = some b2 ∧ Q (.bl (b1 && !b2)) H
theorem scWhole : FnScope ["thing"] ["thing"] (defScope s_is_whole) := ⟨rfl, rfl, rfl, by decide +kernel, rfl, by decide +kernel, by decide +kernel⟩
theorem ok_whole {f : Addr} {fd : FuncData} (F : Fun K "is_whole" "is_whole" s_is_whole f fd) (B : Bl mg) : FnOk P w K mg base CX0 1 f fd ["thing"] (spWhole K) := by
  refine F.ok scWhole (fun vs H Q E h => ?_) (fun cdv A outer s H vs Q E hr h => ?_)
  · obtain ⟨x, t, b1, b2, rfl, _⟩ := h
    rfl
  · obtain ⟨x, t, b1, b2, rfl, ty, e1, e2, q⟩ := h
    refine ⟨_, pss_one (ps_ret (pe_and (pe_isi B.isi (pa_cons (pv 0) (pa_cons (pe_tyInt B.int) pa_nil))) (pe_one (pe_not (pe_isi B.isi (pa_cons (pv 0) (pa_cons (pe_tyBool B.bool) pa_nil))))))), ?_⟩
    refine ⟨x, rfl, x, "int", t, b1, rfl, ty, e1, b1, rfl, ?_⟩
    cases b1 with
    | true =>
      refine iteT ⟨x, rfl, x, "bool", t, b2, rfl, ty, e2, b2, rfl, ?_⟩
      exact q
    | false => exact iteF q
def spIsTurn : Sp := fun vs H Q _ => ∃ (a : Addr) (ns : List Int), vs = [.ref a] ∧ H a = some (.lst (ns.map V.int)) ∧ ∀ (b : Bool) (H' : Hp), Same H H' → (b = true ↔ ns.length ≤ 40 ∧ IsT ns) → Q (.bl b) H'
theorem scIsTurn : FnScope ["thing", "seen", "place"] ["thing"] (defScope s_is_turn) := ⟨rfl, rfl, rfl, by decide +kernel, rfl, by decide +kernel, by decide +kernel⟩
theorem ok_isTurn {f : Addr} {fd : FuncData} (F : Fun K "is_turn" "is_turn" s_is_turn f fd) (B : Bl mg) (mt : ∃ t, mg "MOST_THINGS" = some (.int 40 t)) (cW : Cal P w K mg base "is_whole" 1 ["thing"] (spWhole K)) : FnOk P w K mg base CX0 2 f fd ["thing"] spIsTurn := by
  refine F.ok scIsTurn (fun vs H Q E h => ?_) (fun cdv A outer s H vs Q E hr h => ?_)
  · obtain ⟨a, ns, rfl, _⟩ := h
    rfl
  · obtain ⟨a, ns, rfl, ha, k⟩ := h
    obtain ⟨tk, mt⟩ := mt
    have hu := hu_of hr
    refine ⟨_, pss_cons (ps_if (pw_or (pt_not (pt_val (pe_isi B.isi (pa_cons (pv 0) (pa_cons (pe_tyList B.list) pa_nil))))) (pw_or1 (pt_cmpR op_gt (pe_lenL B.len (pa_cons (pv 0) pa_nil)) (pe_glob (v := .int 40) (by rfl) mt ⟨tk, rfl⟩) (nomark _)))).pt (pss_one (ps_ret pe_bl)) pss_nil)
      (pss_cons (ps_set (i := 1) scIsTurn.nd rfl (Or.inl rfl) pe_dnewK)
      (pss_cons (ps_for PassesOwn.never rfl (pi_list (pv 0)) (pg_name (i := 2) scIsTurn.nd rfl (Or.inl rfl))
        (pss_cons (ps_if (pw_or (pt_not (pt_val (pe_cal cW hr (pa_cons (pv 2) pa_nil)))) (pw_or (pt_cmpR op_lt (pv 2) pe_int (nomark _)) (pw_or (pt_cmpR op_ge (pv 2) (pe_lenL B.len (pa_cons (pv 0) pa_nil)) (nomark _)) (pw_or1 (pt_cmp (pc_din hu (pv 2) (pv 1))))))).pt (pss_one (ps_ret pe_bl)) pss_nil)
        (pss_one (ps_dput hu (pv 1) (pv 2) pe_bl rfl))))
      (pss_one (ps_ret pe_bl)))), ?_⟩
    refine ⟨_, rfl, _, "list", _, true, rfl, .lst ha, kit_same K "list", true, rfl, ?_⟩
    refine iteF ⟨_, rfl, a, _, rfl, .inl (SqL.of ha), _, _, rfl, rfl, _, rfl, ?_⟩
    rw [List.length_map]
    refine ite2 (fun h40 => ?_) (fun h40 => ?_)
    · have h40 : (40 : Int) < (ns.length : Int) := of_decide_eq_true h40
      exact k false H (Same.refl H) ⟨fun z => (by cases z), fun z => (by have := z.1; omega)⟩
    · have h40 : ¬ (40 : Int) < (ns.length : Int) := fun z => h40 (decide_eq_true z)
      intro d hd
      have nad : a ≠ d := ne_of_none ha hd
      have ha1 : (upd H d (.dK [])) a = some (.lst (ns.map V.int)) := by rw [upd_ne nad]; exact ha
      refine ⟨_, rfl, a, rfl, ⟨_, SqL.of ha1⟩, for_list (K := K) (a := a) (xs := ns.map V.int) (fun i σ H2 => ∃ v : Option V, σ = [some (.ref a), some (.ref d), v] ∧ Same H H2 ∧ H2 d = some (.dK (seenK (ns.take i))) ∧ (ns.take i).Nodup ∧ ∀ x ∈ ns.take i, 0 ≤ x ∧ x < ns.length)
        ⟨none, rfl, Same.upd_new hd, upd_same, List.nodup_nil, fun x hx => by simp at hx⟩ (fun i σ H2 _ ⟨_, _, s2, _⟩ => SqL.of (s2 a _ ha)) ?_ ?_⟩
      · rintro i y σ H2 hi ⟨v, rfl, s2, h2, nd, bd⟩
        obtain ⟨z, hz, rfl⟩ := getElem_int hi
        have ha2 := s2 a _ ha
        have hil : i < ns.length := (List.getElem?_eq_some_iff.mp hz).1
        refine ⟨_, rfl, .int z, _, true, false, rfl, .int z, kit_same K "int", kit_int_bool K, _, rfl, ?_⟩
        refine iteF ⟨_, rfl, _, _, rfl, rfl, _, rfl, ?_⟩
        refine ite2 (fun hz0 => ?_) (fun hz0 => ?_)
        · have hz0 : z < 0 := of_decide_eq_true hz0
          exact iteT (k false H2 s2 ⟨fun q => (by cases q), fun q => (by have := q.2.lo z (List.mem_of_getElem? hz); omega)⟩)
        have hz0 : ¬ z < 0 := fun q => hz0 (decide_eq_true q)
        refine ⟨_, rfl, _, rfl, a, _, rfl, .inl (SqL.of ha2), _, _, rfl, rfl, _, rfl, ?_⟩
        rw [List.length_map]
        refine ite2 (fun hz1 => ?_) (fun hz1 => ?_)
        · have hz1 : (ns.length : Int) ≤ z := of_decide_eq_true hz1
          exact iteT (k false H2 s2 ⟨fun q => (by cases q), fun q => (by have := q.2.hi z (List.mem_of_getElem? hz); omega)⟩)
        have hz1 : ¬ (ns.length : Int) ≤ z := fun q => hz1 (decide_eq_true q)
        refine ⟨_, rfl, _, rfl, d, _, rfl, DGet.k (k := Sum.inl z) h2, _, rfl, ?_⟩
        by_cases hm : z ∈ ns.take i
        · rw [seenK_in hm]
          refine iteT (k false H2 s2 ⟨fun q => (by cases q), fun q => ?_⟩)
          exfalso
          obtain ⟨j, hj⟩ := List.mem_iff_getElem?.mp hm
          have hjl : j < i := by
            have := (List.getElem?_eq_some_iff.mp hj).1
            rw [List.length_take] at this
            omega
          rw [List.getElem?_take_of_lt hjl] at hj
          have e1 := (List.getElem?_eq_some_iff.mp hj).2
          have e2 := (List.getElem?_eq_some_iff.mp hz).2
          exact List.pairwise_iff_getElem.mp (List.nodup_iff_pairwise_ne.mp q.2.nd) j i (by omega) hil hjl (by rw [e1, e2])
        · rw [seenK_no hm]
          refine iteF ⟨_, rfl, _, rfl, d, _, rfl, DPut.k (k := Sum.inl z) h2 (small1000 (by unfold seenK; rw [List.length_map, List.length_take]; omega)), ?_⟩
          have hds : ∀ b o, H b = some o → b ≠ d := fun b o e => ne_of_none e hd
          refine ⟨some (.int z), rfl, fun b o e => by rw [upd_ne (hds b o e)]; exact s2 b o e, ?_, ?_, ?_⟩
          · rw [seenK_put hm, upd_same, take_succ_of hz]
          · rw [take_succ_of hz]; exact nd_snoc nd hm
          · intro x hx
            rw [take_succ_of hz] at hx
            rcases List.mem_append.mp hx with q | q
            · exact bd x q
            · have : x = z := by simpa using q
              omega
      · rintro σ H2 ⟨v, rfl, s2, h2, nd, bd⟩
        rw [List.length_map, List.take_length] at nd bd
        refine k true H2 s2 ⟨fun _ => ⟨by omega, ⟨nd, fun x hx => (bd x hx).1, fun x hx => (bd x hx).2⟩⟩, fun _ => rfl⟩
end
end My
namespace My
open PySem L2 Mth
section
variable {P : Program} {w : World} {K : PySem.W.Frag} {mg : Str → Option Value} {base : Heap}
def TurnAt (H : Hp) (a : Addr) (p : List Int) : Prop := H a = some (.lst (p.map V.int)) ∧ IsT p ∧ p.length ≤ 40
end
end My
namespace My
open PySem L2 Mth
section
variable {P : Program} {w : World} {K : PySem.W.Frag} {mg : Str → Option Value} {base : Heap}
def spMust : Sp := fun vs H Q _ => ∃ (a : Addr) (ns : List Int), vs = [.ref a] ∧ TurnAt H a ns ∧ ∀ (H' : Hp), Same H H' → Q .non H'
theorem scMust : FnScope ["thing"] ["thing"] (defScope s_must_be_turn) := ⟨rfl, rfl, rfl, by decide +kernel, rfl, by decide +kernel, by decide +kernel⟩
theorem ok_must {f : Addr} {fd : FuncData} (F : Fun K "must_be_turn" "must_be_turn" s_must_be_turn f fd) (cT : Cal P w K mg base "is_turn" 2 ["thing"] spIsTurn) : FnOk P w K mg base CX0 3 f fd ["thing"] spMust := by
  refine F.ok scMust (fun vs H Q E h => ?_) (fun cdv A outer s H vs Q E hr h => ?_)
  · obtain ⟨a, ns, rfl, _⟩ := h
    rfl
  · obtain ⟨a, ns, rfl, ⟨ha, ht, hl⟩, k⟩ := h
    refine ⟨_, pss_one (ps_if (pt_not (pt_val (pe_cal cT hr (pa_cons (pv 0) pa_nil)))) (pss_one ps_never) pss_nil), ?_⟩
    refine ⟨_, rfl, a, ns, rfl, ha, fun b H' s' hb => ⟨b, rfl, ?_⟩⟩
    have : b = true := hb.mpr ⟨hl, ht⟩
    subst this
    exact iteF (k H' s')
end
end My
namespace My
open PySem L2 Mth
section
variable {P : Program} {w : World} {K : PySem.W.Frag} {mg : Str → Option Value} {base : Heap}
def spPool (K : PySem.W.Frag) : Sp := fun vs H Q _ => ∃ (a : Addr) (ns : List Int) (k : Int), vs = [.ref a, .int k] ∧ SqL K H a (ns.map V.int) ∧ 0 ≤ k ∧ k ≤ 100 ∧ ∀ (l : Addr) (H' : Hp), H l = none → Same H H' → PoolAt H' l 4300 → Q (.ref l) H'
theorem scPool : FnScope ["script", "k", "cell"] ["script", "k"] (defScope s_law_pool) := ⟨rfl, rfl, rfl, by decide +kernel, rfl, by decide +kernel, by decide +kernel⟩
theorem ok_pool {f : Addr} {fd : FuncData} (F : Fun K "_law_pool" "_law_pool" s_law_pool f fd) (B : Bl mg) : FnOk P w K mg base CX0 1 f fd ["script", "k"] (spPool K) := by
  refine F.ok scPool (fun vs H Q E h => ?_) (fun cdv A outer s H vs Q E hr h => ?_)
  · obtain ⟨a, ns, k, rfl, _⟩ := h
    rfl
  · obtain ⟨a, ns, k, rfl, ha, k0, k1, q⟩ := h
    refine ⟨_, pss_cons (ps_set (i := 2) scPool.nd rfl (Or.inl rfl) pe_int)
      (pss_cons (ps_if (pt_cmpR op_lt (pv 1) (pe_lenL B.len (pa_cons (pv 0) pa_nil)) (nomark _)) (pss_one (ps_set (i := 2) scPool.nd rfl (Or.inl rfl) (pe_ix ix_list (pv 0) (pv 1) (fun _ _ => rfl)))) pss_nil)
      (pss_cons (ps_if (pt_cmpR op_ge (pv 2) (pe_op op_pow pe_int pe_int) (nomark _)) (pss_one (ps_ret (pe_lst (pa_cons (pe_op op_sub (pv 2) (pe_op op_pow pe_int pe_int)) (pa_cons pe_int (pa_cons pe_int pa_nil)))))) pss_nil)
      (pss_one (ps_ret (pe_lst (pa_cons (pv 2) (pa_cons pe_int (pa_cons (pe_op op_mul pe_int (pv 1)) pa_nil)))))))), ?_⟩
    refine ⟨_, rfl, _, rfl, a, _, rfl, .inl ha, _, _, rfl, rfl, _, rfl, ?_⟩
    rw [List.length_map]
    have cp : CPow 10 18 := ⟨by decide, by decide, by decide⟩
    refine ite2 (fun h => ?_) (fun h => ?_)
    · have h : k < (ns.length : Int) := of_decide_eq_true h
      refine ⟨_, rfl, _, rfl, a, _, k, _, rfl, rfl, ha, atI_map k0 h, ?_⟩
      refine ⟨_, rfl, _, _, rfl, rfl, cp, _, _, rfl, rfl, _, rfl, ?_⟩
      refine ite2 (fun h => ?_) (fun h => ?_)
      · refine ⟨_, rfl, _, _, rfl, rfl, cp, _, _, rfl, rfl, (by show 3 ≤ sizeLine; decide), fun l hl => ?_⟩
        exact q l _ hl (Same.upd_new hl) ⟨_, _, _, upd_same, by decide, by decide⟩
      · refine ⟨_, rfl, _, rfl, _, _, rfl, rfl, .inl ⟨by decide, by decide⟩, (by show 3 ≤ sizeLine; decide), fun l hl => ?_⟩
        exact q l _ hl (Same.upd_new hl) ⟨_, _, _, upd_same, by omega, by omega⟩
    · refine ⟨_, rfl, _, _, rfl, rfl, cp, _, _, rfl, rfl, _, rfl, ?_⟩
      refine ite2 (fun h => ?_) (fun h => ?_)
      · refine ⟨_, rfl, _, _, rfl, rfl, cp, _, _, rfl, rfl, (by show 3 ≤ sizeLine; decide), fun l hl => ?_⟩
        exact q l _ hl (Same.upd_new hl) ⟨_, _, _, upd_same, by decide, by decide⟩
      · refine ⟨_, rfl, _, rfl, _, _, rfl, rfl, .inl ⟨by decide, by decide⟩, (by show 3 ≤ sizeLine; decide), fun l hl => ?_⟩
        exact q l _ hl (Same.upd_new hl) ⟨_, _, _, upd_same, by omega, by omega⟩
def spTake : Sp := fun vs H Q _ => ∃ (a : Addr) (c : Nat) (m : Int), vs = [.ref a, .int m] ∧ PoolAt H a c ∧ c ≤ 1000000 ∧ 0 < m ∧ m ≤ 1000000000000000000000000000000 ∧ ∀ (r : Int) (H' : Hp), 0 ≤ r → r < m → PoolAt H' a (c + 1) → KeepBut a H H' → Q (.int r) H'
theorem scTake : FnScope ["pool", "many", "found", "step", "mark"] ["pool", "many"] (defScope s_law_take) := ⟨rfl, rfl, rfl, by decide +kernel, rfl, by decide +kernel, by decide +kernel⟩
theorem ok_take {f : Addr} {fd : FuncData} (F : Fun K "_law_take" "_law_take" s_law_take f fd) : FnOk P w K mg base CX0 1 f fd ["pool", "many"] spTake := by
  refine F.ok scTake (fun vs H Q E h => ?_) (fun cdv A outer s H vs Q E hr h => ?_)
  · obtain ⟨a, c, m, rfl, _⟩ := h
    rfl
  · obtain ⟨a, c, m, rfl, ⟨x, y, z, ha, hz, hzc⟩, hc, m0, m1, q⟩ := h
    refine ⟨_, pss_cons (ps_if (pt_cmpR op_eq (pe_ix ix_list (pv 0) pe_int (fun _ _ => rfl)) pe_int (nomark _))
        (pss_cons (ps_set (i := 2) scTake.nd rfl (Or.inl rfl) (pe_op op_mod (pe_ix ix_list (pv 0) pe_int (fun _ _ => rfl)) (pv 1)))
        (pss_cons (ps_asg (pe_op op_fdivB (pe_ix ix_list (pv 0) pe_int (fun _ _ => rfl)) (pv 1)) (pg_sub (pv 0) pe_int set_list))
        (pss_one (ps_ret (pv 2))))) pss_nil)
      (pss_cons (ps_asg (pe_op op_add (pe_ix ix_list (pv 0) pe_int (fun _ _ => rfl)) pe_int) (pg_sub (pv 0) pe_int set_list))
      (pss_cons (ps_set (i := 3) scTake.nd rfl (Or.inl rfl) (pe_ix ix_list (pv 0) pe_int (fun _ _ => rfl)))
      (pss_cons (ps_set (i := 4) scTake.nd rfl (Or.inl rfl) (pe_op op_mul (pe_op op_add (pe_op op_mod (pe_ix ix_list (pv 0) pe_int (fun _ _ => rfl)) pe_int) pe_int) (pe_op op_add (pe_op op_mul pe_int (pv 3)) pe_int)))
      (pss_cons (ps_set (i := 4) scTake.nd rfl (Or.inl rfl) (pe_op op_add (pv 4) (pe_op op_mul (pe_op op_mul pe_int (pv 3)) (pv 3))))
      (pss_cons (ps_set (i := 4) scTake.nd rfl (Or.inl rfl) (pe_op op_mod (pe_op op_mul (pv 4) (pv 4)) pe_int))
      (pss_one (ps_ret (pe_op op_mod (pe_op op_fdiv (pe_op op_mod (pe_op op_mul (pv 4) (pe_op op_add (pv 4) pe_int)) pe_int) pe_int) (pv 1))))))))), ?_⟩
    refine ⟨_, rfl, a, _, _, _, rfl, rfl, SqL.of ha, (atI_nat (j := 1) rfl), rfl, _, rfl, ?_⟩
    refine ite2 (fun h => ?_) (fun h => ?_)
    · refine ⟨_, rfl, a, _, _, _, rfl, rfl, SqL.of ha, (atI_nat (j := 0) rfl), _, rfl, _, _, rfl, rfl, m0, ?_⟩
      refine ⟨_, rfl, a, _, _, _, rfl, rfl, SqL.of ha, (atI_nat (j := 0) rfl), _, rfl, _, _, rfl, rfl, ⟨m0, m1⟩, ?_⟩
      refine ⟨_, rfl, a, _, _, 0, rfl, rfl, ha, rfl, ?_⟩
      refine ⟨_, rfl, q _ _ (Int.emod_nonneg _ (by omega)) (Int.emod_lt_of_pos _ m0) ⟨_, _, _, upd_same, hz, by omega⟩ KeepBut.upd⟩
    · refine ⟨_, rfl, a, _, _, _, rfl, rfl, SqL.of ha, (atI_nat (j := 2) rfl), _, _, rfl, rfl, ?_⟩
      refine ⟨_, rfl, a, _, _, 2, rfl, rfl, ha, rfl, ?_⟩
      have ha2 : (upd H a (.lst [.int x, .int y, .int (z + 1)])) a = some (.lst [.int x, .int y, .int (z + 1)]) := upd_same
      refine ⟨_, rfl, a, _, _, _, rfl, rfl, SqL.of ha2, (atI_nat (j := 2) rfl), ?_⟩
      have hxm : 0 ≤ x % 9999999577 ∧ x % 9999999577 < 9999999577 := ⟨Int.emod_nonneg _ (by decide), Int.emod_lt_of_pos _ (by decide)⟩
      have tb := take_bound (u := x % 9999999577 + 1009) (s := z + 1) (by omega) (by omega) (by omega) (by omega)
      have e64 : (2 : Int) ^ 64 = 18446744073709551616 := by decide
      refine ⟨_, rfl, a, _, _, _, rfl, rfl, SqL.of ha2, (atI_nat (j := 0) rfl), _, _, rfl, rfl, (by show (0 : Int) < 9999999577; decide), _, _, rfl, rfl, _, rfl, _, _, rfl, rfl, .inl ⟨by decide, by decide⟩, _, _, rfl, rfl, _, _, rfl, rfl, .inl ⟨by rw [e64]; omega, by rw [e64]; omega⟩, ?_⟩
      refine ⟨_, rfl, _, rfl, _, _, rfl, rfl, .inl ⟨by decide, by decide⟩, _, rfl, _, _, rfl, rfl, .inl ⟨by rw [e64]; omega, by rw [e64]; omega⟩, _, _, rfl, rfl, ?_⟩
      refine ⟨_, rfl, _, rfl, _, _, rfl, rfl, .inl ⟨by have := tb.1; rw [e64]; omega, tb.2⟩, _, _, rfl, rfl, (by show (0 : Int) < 99999999599; decide), ?_⟩
      refine ⟨_, rfl, _, rfl, _, _, rfl, rfl, _, _, rfl, rfl, .inl ⟨by rw [e64]; omega, by rw [e64]; omega⟩, _, _, rfl, rfl, (by show (0 : Int) < 99999999907; decide), _, _, rfl, rfl, ⟨by decide, by decide⟩, _, rfl, _, _, rfl, rfl, m0, ?_⟩
      exact q _ _ (Int.emod_nonneg _ (by omega)) (Int.emod_lt_of_pos _ m0) ⟨_, _, _, upd_same, by omega, by omega⟩ KeepBut.upd
def lenAt (H : Hp) (l : Addr) : Nat := match H l with
  | some (.lst xs) => xs.length
  | _ => 0
theorem lenAt_of {H : Hp} {l : Addr} {xs : List V} (h : H l = some (.lst xs)) : lenAt H l = xs.length := by unfold lenAt; rw [h]
end
end My
namespace My
open PySem L2 Mth
section
variable {P : Program} {w : World} {K : PySem.W.Frag} {mg : Str → Option Value} {base : Heap}
def leftOf (σ : St) : Nat := match σ[5]? with
  | some (some (V.int i)) => i.toNat
  | _ => 0
end
end My
namespace My
open PySem L2 Mth
section
variable {P : Program} {w : World} {K : PySem.W.Frag} {mg : Str → Option Value} {base : Heap}
def spSame : Sp := fun vs H Q _ => ∃ (a b : Addr) (fs ds : List Int), vs = [.ref a, .ref b] ∧ H a = some (.lst (fs.map V.int)) ∧ H b = some (.lst (ds.map V.int)) ∧ ∀ (r : Bool) (H' : Hp), Same H H' → (r = true ↔ fs = ds) → Q (.bl r) H'
theorem scSame : FnScope ["found", "due"] ["found", "due"] (defScope s_law_same) := ⟨rfl, rfl, rfl, by decide +kernel, rfl, by decide +kernel, by decide +kernel⟩
theorem ndOne : (["one"] : List Str).Nodup := by decide +kernel
theorem ok_same {f : Addr} {fd : FuncData} (F : Fun K "_law_same" "_law_same" s_law_same f fd) (B : Bl mg) : FnOk P w K mg base CX0 1 f fd ["found", "due"] spSame := by
  refine F.ok scSame (fun vs H Q E h => ?_) (fun cdv A outer s H vs Q E hr h => ?_)
  · obtain ⟨a, b, fs, ds, rfl, _⟩ := h
    rfl
  · obtain ⟨a, b, fs, ds, rfl, ha, hb, q⟩ := h
    have hu := hu_of hr
    refine ⟨_, pss_cons (ps_if (pw_or (pt_not (pt_val (pe_isi B.isi (pa_cons (pv 0) (pa_cons (pe_tyList B.list) pa_nil))))) (pw_or1 (pt_cmpR (op_neL 0 hu) (pv 0) (pv 1) (nomark _)))).pt (pss_one (ps_ret pe_bl)) pss_nil)
      (pss_one (ps_ret (pe_cmpR (op_eqL 0 hu) (pe_comp (N := ["one"]) (nl := 1) (fr := []) rfl .of (pi_list (pv 0)) (fun _ _ _ _ _ => pg_name (i := 0) ndOne rfl (Or.inl rfl))
        (fun _ _ _ _ _ => pifs_one (pw_or (pt_not (pt_val (pe_isiK K B.isi (pa_cons (pv 0) (pa_cons (pe_tyInt B.int) pa_nil))))) (pw_or1 (pt_val (pe_isiK K B.isi (pa_cons (pv 0) (pa_cons (pe_tyBool B.bool) pa_nil)))))).pt) (fun _ _ _ _ _ => pv 0)) (pe_lst pa_nil) (nomark _)))), ?_⟩
    refine ⟨_, rfl, _, "list", _, true, rfl, .lst ha, kit_same K "list", true, rfl, ?_⟩
    refine iteF ⟨_, rfl, _, rfl, a, b, _, _, decide (fs = ds), rfl, rfl, SqL.of ha, SqL.of hb, leq_ints _ _ _ _ _, _, rfl, ?_⟩
    by_cases hfd : fs = ds
    · rw [decide_eq_true hfd]
      refine iteF ?_
      refine ⟨_, rfl, a, rfl, ⟨_, SqL.of ha⟩, comp_list (K := K) (a := a) (xs := fs.map V.int) (fun i ys σ H3 => ∃ v, σ = [v] ∧ H3 = H ∧ ys = []) ⟨none, rfl, rfl, rfl⟩ (fun i ys σ H3 _ ⟨_, _, e, _⟩ => by rw [e]; exact SqL.of ha) ?_ ?_⟩
      · rintro i x ys σ H3 hi ⟨v, rfl, rfl, rfl⟩
        obtain ⟨z, hz, rfl⟩ := getElem_int hi
        refine ⟨_, rfl, .int z, "int", _, true, rfl, .int z, kit_same K "int", true, rfl, ?_⟩
        refine iteF ⟨_, rfl, .int z, "bool", _, false, rfl, .int z, kit_int_bool K, false, rfl, ?_⟩
        exact iteF ⟨_, rfl, rfl, rfl⟩
      · rintro ys σ H3 ⟨v, rfl, rfl, rfl⟩ D hD
        refine ⟨Nat.zero_le _, fun e he => ?_⟩
        have hde : D ≠ e := fun z => by rw [← z, upd_same] at he; cases he
        have he0 : H3 e = none := by rw [upd_ne hde.symm] at he; exact he
        refine ⟨D, e, [], [], true, rfl, rfl, SqL.of (by rw [upd_ne hde, upd_same]), SqL.of upd_same, leq_nil _ _ _ _, ?_⟩
        exact q true _ (Same.upd_r (Same.upd_new hD) he0) ⟨fun _ => hfd, fun _ => rfl⟩
    · rw [decide_eq_false hfd]
      exact iteT (q false H (Same.refl H) ⟨fun z => (by cases z), fun z => absurd z hfd⟩)
end
end My
namespace My
open PySem L2 Mth
section
variable {P : Program} {w : World} {K : PySem.W.Frag} {mg : Str → Option Value} {base : Heap}
def spRings : Sp := fun vs H Q _ => ∃ (a : Addr) (p : List Int), vs = [.ref a] ∧ TurnAt H a p ∧
  ∀ (l : Addr) (as : List Addr) (rs : List (List Int)) (H' : Hp), H l = none → Same H H' → H' l = some (.lst (as.map V.ref)) → RowsH H' as rs → RingsUp p p.length rs → (∀ b ∈ as, H b = none) → as.Nodup → l ∉ as → Q (.ref l) H'
theorem rows_snoc {H : Hp} {as : List Addr} {rs : List (List Int)} {e : Addr} {r : List Int} (h : RowsH H as rs) (he : H e = some (.lst (r.map V.int))) : RowsH H (as ++ [e]) (rs ++ [r]) := by
  refine ⟨by rw [List.length_append, List.length_append, h.1]; rfl, fun j b q h1 h2 => ?_⟩
  by_cases hj : j < as.length
  · rw [List.getElem?_append_left hj] at h1
    rw [List.getElem?_append_left (by rw [← h.1]; exact hj)] at h2
    exact h.2 j b q h1 h2
  · rw [List.getElem?_append_right (by omega)] at h1
    rw [List.getElem?_append_right (by rw [← h.1]; omega), ← h.1] at h2
    have hj0 : j - as.length = 0 := by
      have := (List.getElem?_eq_some_iff.mp h1).1
      simpa using this
    rw [hj0] at h1 h2
    cases h1; cases h2
    exact he
theorem rows_keep {H H' : Hp} {as : List Addr} {rs : List (List Int)} (h : RowsH H as rs) (k : ∀ b ∈ as, ∀ o, H b = some o → H' b = some o) : RowsH H' as rs :=
  ⟨h.1, fun j a r h1 h2 => k a (List.mem_of_getElem? h1) _ (h.2 j a r h1 h2)⟩
theorem rows_mem {H : Hp} {as : List Addr} {rs : List (List Int)} (h : RowsH H as rs) {b : Addr} (hb : b ∈ as) : ∃ r : List Int, H b = some (.lst (r.map V.int)) := by
  obtain ⟨j, hj⟩ := List.mem_iff_getElem?.mp hb
  have hjl := (List.getElem?_eq_some_iff.mp hj).1
  exact ⟨_, h.2 j b (rs[j]'(by rw [← h.1]; exact hjl)) hj (List.getElem?_eq_getElem _)⟩
theorem up_len {p : List Int} {i : Nat} {rs : List (List Int)} (tp : IsT p) (h : RingsUp p i rs) : rs.flatten.length ≤ p.length := by
  refine nodup_len_in h.nd fun x hx => ?_
  obtain ⟨r, hr, hxr⟩ := List.mem_flatten.mp hx
  obtain ⟨y, L, a, b, rfl, _⟩ := h.ring r hr
  exact ringL_in tp a x hxr
theorem up_count {p : List Int} {i : Nat} {rs : List (List Int)} (h : RingsUp p i rs) : rs.length ≤ rs.flatten.length := by
  have : ∀ l : List (List Int), (∀ r ∈ l, 1 ≤ r.length) → l.length ≤ l.flatten.length := by
    intro l
    induction l with
    | nil => intro _; exact Nat.le_refl _
    | cons a r ih =>
      intro h
      have h1 := h a List.mem_cons_self
      have h2 := ih fun x hx => h x (List.mem_cons_of_mem _ hx)
      rw [List.flatten_cons, List.length_append, List.length_cons]
      omega
  refine this rs fun r hr => ?_
  obtain ⟨y, L, a, b, rfl, _⟩ := h.ring r hr
  rw [ringL_len]
  exact b.pos
end
end My
namespace My
open PySem L2 Mth
section
variable {P : Program} {w : World} {K : PySem.W.Frag} {mg : Str → Option Value} {base : Heap}
def spRing : Sp := fun vs H Q _ => ∃ (a : Addr) (p : List Int) (x : Int), vs = [.ref a, .int x] ∧ TurnAt H a p ∧ In p x ∧
  ∀ (l : Addr) (L : Nat) (H' : Hp), H l = none → Same H H' → Per p x L → L ≤ 40 → H' l = some (.lst ((ringL p x L).map V.int)) → Q (.ref l) H'
theorem scRing : FnScope ["p", "first", "ring", "thing"] ["p", "first"] (defScope s_walk_ring) := ⟨rfl, rfl, rfl, by decide +kernel, rfl, by decide +kernel, by decide +kernel⟩
theorem ok_ring {f : Addr} {fd : FuncData} (F : Fun K "walk_ring" "walk_ring" s_walk_ring f fd) : FnOk P w K mg base CX0 1 f fd ["p", "first"] spRing := by
  refine F.ok scRing (fun vs H Q E h => ?_) (fun cdv A outer s H vs Q E hr h => ?_)
  · obtain ⟨a, p, x, rfl, _⟩ := h
    rfl
  · obtain ⟨a, p, x, rfl, ⟨ha, tp, lp⟩, hx, q⟩ := h
    refine ⟨_, pss_cons (ps_set (i := 2) scRing.nd rfl (Or.inl rfl) (pe_lst (pa_cons (pv 1) pa_nil)))
      (pss_cons (ps_set (i := 3) scRing.nd rfl (Or.inl rfl) (pe_ix ix_list (pv 0) (pv 1) (fun _ _ => rfl)))
      (pss_cons (ps_while PassesOwn.never (pt_cmpR op_ne (pv 3) (pv 1) (nomark _)) (pss_cons (ps_expr (pe_append (pv 2) (pa_cons (pv 3) pa_nil))) (pss_one (ps_set (i := 3) scRing.nd rfl (Or.inl rfl) (pe_ix ix_list (pv 0) (pv 3) (fun _ _ => rfl))))))
      (pss_one (ps_ret (pv 2))))), ?_⟩
    refine ⟨_, rfl, (by show 1 ≤ sizeLine; decide), fun l hl => ?_⟩
    have nal : a ≠ l := ne_of_none ha hl
    have hal : (upd H l (.lst [.int x])) a = some (.lst (p.map V.int)) := by rw [upd_ne nal]; exact ha
    refine ⟨_, rfl, _, rfl, a, _, _, _, rfl, rfl, SqL.of hal, atI_map hx.1 hx.2, ?_⟩
    refine while_by (fun σ H2 => ∃ m : Nat, σ = [some (.ref a), some (.int x), some (.ref l), some (.int (it p m x))] ∧ 1 ≤ m ∧ H2 l = some (.lst ((ringL p x m).map V.int)) ∧ Same H H2 ∧ ∀ i, 0 < i → i < m → it p i x ≠ x) (fun _ H2 => p.length + 1 - lenAt H2 l)
      ⟨1, rfl, Nat.le_refl _, upd_same, Same.upd_new hl, fun i i0 i1 => by omega⟩ ?_ ?_
    · rintro σ H2 ⟨m, rfl, m1, h2l, s2, hne⟩
      have ha2 := s2 a _ ha
      refine ⟨_, rfl, _, rfl, rfl, _, rfl, ?_⟩
      by_cases hb : it p m x = x
      · refine iteNS (congrArg V.int hb) ?_
        exact ⟨_, rfl, q l m H2 hl s2 ⟨by omega, hb, hne⟩ (by have := ring_bound tp hx hne; omega) h2l⟩
      · have hb' : ¬ V.int (it p m x) = V.int x := fun z => hb (V.int.inj z)
        rw [decide_eq_false hb']
        refine iteT ?_
        have hne' : ∀ i, 0 < i → i < m + 1 → it p i x ≠ x := fun i i0 i1 => by
          by_cases e : i = m
          · rw [e]; exact hb
          · exact hne i i0 (by omega)
        have hbd := ring_bound tp hx hne'
        refine ⟨_, rfl, .inl ⟨rfl, _, SqL.of h2l⟩, _, rfl, l, _, _, rfl, rfl, h2l, small1000 (by rw [List.length_map, ringL_len]; omega), ?_⟩
        have hi := it_in tp hx m
        refine ⟨_, rfl, _, rfl, a, _, _, _, rfl, rfl, SqL.of (by rw [upd_ne nal]; exact ha2), atI_map hi.1 hi.2, ?_⟩
        have h3l : (upd H2 l (.lst ((ringL p x m).map V.int ++ [.int (it p m x)]))) l = some (.lst ((ringL p x (m + 1)).map V.int)) := by
          rw [upd_same, ringL_succ, List.map_append]; rfl
        refine ⟨⟨m + 1, rfl, by omega, h3l, fun b o hb => by rw [upd_ne (ne_of_none hb hl)]; exact s2 b o hb, hne'⟩, ?_⟩
        rw [lenAt_of h3l, lenAt_of h2l, List.length_map, List.length_map, ringL_len, ringL_len]
        omega
    · rintro σ H2 Q Q' hq ⟨v, hv, u, hu, e1, k1, e2, e3⟩
      exact ⟨v, hv, u, hu, e1, k1, e2, hq _ _ e3⟩
theorem scRings : FnScope ["p", "rings", "seen", "first", "ring", "thing"] ["p"] (defScope s_walk_rings) := ⟨rfl, rfl, rfl, by decide +kernel, rfl, by decide +kernel, by decide +kernel⟩
theorem ok_rings {f : Addr} {fd : FuncData} (F : Fun K "walk_rings" "walk_rings" s_walk_rings f fd) (B : Bl mg) (cR : Cal P w K mg base "walk_ring" 1 ["p", "first"] spRing) : FnOk P w K mg base CX0 2 f fd ["p"] spRings := by
  refine F.ok scRings (fun vs H Q E h => ?_) (fun cdv A outer s H vs Q E hr h => ?_)
  · obtain ⟨a, p, rfl, _⟩ := h
    rfl
  · obtain ⟨a, p, rfl, ⟨ha, tp, lp⟩, q⟩ := h
    have hu := hu_of hr
    refine ⟨_, pss_cons (ps_set (i := 1) scRings.nd rfl (Or.inl rfl) (pe_lst pa_nil)) (pss_cons (ps_set (i := 2) scRings.nd rfl (Or.inl rfl) pe_dnewK)
      (pss_cons (ps_for PassesOwn.never rfl (pi_range1 (by rfl) B.range (pa_cons (pe_lenL B.len (pa_cons (pv 0) pa_nil)) pa_nil)) (pg_name (i := 3) scRings.nd rfl (Or.inl rfl))
        (pss_one (ps_if (pt_cmp (pc_dnotin hu (pv 3) (pv 2))) (pss_cons (ps_set (i := 4) scRings.nd rfl (Or.inl rfl) (pe_cal cR hr (pa_cons (pv 0) (pa_cons (pv 3) pa_nil)))) (pss_cons (ps_expr (pe_append (pv 1) (pa_cons (pv 4) pa_nil)))
          (pss_one (ps_for PassesOwn.never rfl (pi_list (pv 4)) (pg_name (i := 5) scRings.nd rfl (Or.inl rfl)) (pss_one (ps_dput hu (pv 2) (pv 5) pe_bl rfl)))))) pss_nil)))
      (pss_one (ps_ret (pv 1))))), ?_⟩
    refine ⟨Nat.zero_le _, fun l hl => ?_⟩
    intro d hd
    have hdl : d ≠ l := fun z => by rw [z, upd_same] at hd; cases hd
    have hd0 : H d = none := by rw [upd_ne hdl] at hd; exact hd
    have s0 : Same H (upd (upd H l (.lst [])) d (.dK [])) := (Same.upd_new hl).upd_r hd0
    have h0l : (upd (upd H l (.lst [])) d (.dK [])) l = some (.lst []) := by rw [upd_ne hdl.symm, upd_same]
    refine ⟨_, rfl, a, _, rfl, .inl (SqL.of (s0 a _ ha)), (p.length : Int), ?_, by omega, by omega, ?_⟩
    · rw [List.length_map]
    rw [show ((p.length : Int)).toNat = p.length by omega]
    refine for_range (lo := 0) (n := p.length) (fun i σ H2 => ∃ (as : List Addr) (rs : List (List Int)) (v3 v4 v5 : Option V), σ = [some (.ref a), some (.ref l), some (.ref d), v3, v4, v5] ∧ H2 l = some (.lst (as.map V.ref)) ∧ H2 d = some (.dK (seenK rs.flatten)) ∧ RowsH H2 as rs ∧ RingsUp p i rs ∧ Same H H2 ∧ (∀ b ∈ as, H b = none) ∧ as.Nodup ∧ l ∉ as)
      ⟨[], [], none, none, none, rfl, h0l, upd_same, ⟨rfl, fun j b r h => by simp at h⟩, rings_none p, s0, fun b hb => by simp at hb, List.nodup_nil, by simp⟩ ?_ ?_
    · rintro i σ H2 hi ⟨as, rs, v3, v4, v5, rfl, h2l, h2d, rows, up, s2, fa, nda, nla⟩
      have hx : In p (i : Int) := ⟨by omega, by omega⟩
      have e0 : (0 : Int) + (i : Int) = (i : Int) := by omega
      rw [e0]
      refine ⟨_, rfl, _, rfl, d, _, rfl, DGet.k (k := Sum.inl (i : Int)) h2d, _, rfl, ?_⟩
      by_cases hm : (i : Int) ∈ rs.flatten
      · rw [seenK_in hm]
        refine iteF ?_
        exact ⟨as, rs, _, _, _, rfl, h2l, h2d, rows, rings_skip up hm, s2, fa, nda, nla⟩
      · rw [seenK_no hm]
        refine iteT ?_
        refine ⟨_, rfl, _, rfl, a, p, _, rfl, ⟨s2 a _ ha, tp, lp⟩, hx, fun e L H3 he s23 pr hL h3e => ?_⟩
        have h3l := s23 l _ h2l
        have h3d := s23 d _ h2d
        have nle : l ≠ e := ne_of_none h2l he
        have nde : d ≠ e := ne_of_none h2d he
        have fl := up_len tp up
        have cl := up_count up
        have lenas := rows.1
        refine ⟨_, rfl, .inl ⟨rfl, _, SqL.of h3l⟩, _, rfl, l, _, _, rfl, rfl, h3l, small1000 (by rw [List.length_map, lenas]; omega), ?_⟩
        have es : as.map V.ref ++ [V.ref e] = (as ++ [e]).map V.ref := by rw [List.map_append]; rfl
        rw [es]
        have h4l : (upd H3 l (.lst ((as ++ [e]).map V.ref))) l = some (.lst ((as ++ [e]).map V.ref)) := upd_same
        have h4d : (upd H3 l (.lst ((as ++ [e]).map V.ref))) d = some (.dK (seenK rs.flatten)) := by rw [upd_ne hdl]; exact h3d
        have h4e : (upd H3 l (.lst ((as ++ [e]).map V.ref))) e = some (.lst ((ringL p i L).map V.int)) := by rw [upd_ne nle.symm]; exact h3e
        have k4 : ∀ b o, H2 b = some o → b ≠ l → (upd H3 l (.lst ((as ++ [e]).map V.ref))) b = some o := fun b o hb hn => by rw [upd_ne hn]; exact s23 b o hb
        generalize (upd H3 l (.lst ((as ++ [e]).map V.ref))) = H4 at h4l h4d h4e k4 ⊢
        have fr := rings_fresh up pr hm
        have ndr := ringL_nodup tp hx fun j j0 j1 => pr.least j j0 j1
        refine ⟨_, rfl, e, rfl, ⟨_, SqL.of h4e⟩, for_list (K := K) (a := e) (xs := (ringL p i L).map V.int) (fun j σ H5 => ∃ v5' : Option V, σ = [some (.ref a), some (.ref l), some (.ref d), some (.int (i : Int)), some (.ref e), v5'] ∧ H5 d = some (.dK (seenK (rs.flatten ++ (ringL p i L).take j))) ∧ KeepBut d H4 H5)
          ⟨v5, rfl, by rw [List.take_zero, List.append_nil]; exact h4d, KeepBut.refl d H4⟩ (fun j σ H5 _ ⟨_, _, _, k⟩ => SqL.of (k e _ h4e nde.symm)) ?_ ?_⟩
        · rintro j y σ H5 hj ⟨v5', rfl, h5d, kb⟩
          obtain ⟨z, hz, rfl⟩ := getElem_int hj
          have hjl : j < (ringL p i L).length := (List.getElem?_eq_some_iff.mp hz).1
          rw [ringL_len] at hjl
          have hzn : z ∉ rs.flatten ++ (ringL p i L).take j := by
            intro hm'
            rcases List.mem_append.mp hm' with g | g
            · exact fr z (List.mem_of_getElem? hz) g
            · obtain ⟨jj, hjj⟩ := List.mem_iff_getElem?.mp g
              have hjk : jj < j := by
                have := (List.getElem?_eq_some_iff.mp hjj).1
                rw [List.length_take] at this
                omega
              rw [List.getElem?_take_of_lt hjk] at hjj
              have e1 := (List.getElem?_eq_some_iff.mp hjj).2
              have e2 := (List.getElem?_eq_some_iff.mp hz).2
              exact List.pairwise_iff_getElem.mp (List.nodup_iff_pairwise_ne.mp ndr) jj j (by rw [ringL_len]; omega) (by rw [ringL_len]; omega) hjk (by rw [e1, e2])
          refine ⟨_, rfl, _, rfl, d, _, rfl, DPut.k (k := Sum.inl z) h5d (small1000 (by unfold seenK; rw [List.length_map, List.length_append, List.length_take, ringL_len]; omega)), ?_⟩
          refine ⟨_, rfl, ?_, kb.upd_a⟩
          rw [seenK_put hzn, upd_same, take_succ_of hz, List.append_assoc]
        · rintro σ H5 ⟨v5', rfl, h5d, kb⟩
          rw [List.length_map, List.take_length] at h5d
          have nad : ∀ b ∈ as, b ≠ d ∧ b ≠ l := fun b hb => by
            obtain ⟨r, hr'⟩ := rows_mem rows hb
            exact ⟨ne_of hr' h2d (by intro z; cases z), fun z => nla (z ▸ hb)⟩
          refine ⟨as ++ [e], rs ++ [ringL p i L], _, _, _, rfl, kb l _ h4l hdl.symm, ?_, ?_, rings_step tp up hx pr hm, ?_, ?_, ?_, ?_⟩
          · rw [h5d, List.flatten_append, List.flatten_singleton]
          · exact rows_snoc (rows_keep rows fun b hb o ho => kb b o (k4 b o ho (nad b hb).2) (nad b hb).1) (kb e _ h4e nde.symm)
          · exact fun b o hb => kb b o (k4 b o (s2 b o hb) (ne_of_none hb hl)) (ne_of_none hb hd0)
          · intro b hb
            rcases List.mem_append.mp hb with g | g
            · exact fa b g
            · have : b = e := by simpa using g
              rw [this]; exact s2.free he
          · refine nd_snoc nda fun g => ?_
            obtain ⟨r, hr'⟩ := rows_mem rows g
            rw [he] at hr'; cases hr'
          · intro g
            rcases List.mem_append.mp g with g | g
            · exact nla g
            · exact nle (by simpa using g)
    · rintro σ H2 ⟨as, rs, v3, v4, v5, rfl, h2l, h2d, rows, up, s2, fa, nda, nla⟩
      exact ⟨_, rfl, q l as rs H2 hl s2 h2l rows up fa nda nla⟩
end
end My
namespace My
open PySem L2 Mth
section
variable {P : Program} {w : World} {K : PySem.W.Frag} {mg : Str → Option Value} {base : Heap}
def spSend : Sp := fun vs H Q _ => ∃ (t r : Addr) (ts rs : List Int) (k : Int), vs = [.ref t, .ref r, .int k] ∧ H t = some (.lst (ts.map V.int)) ∧ H r = some (.lst (rs.map V.int)) ∧ t ≠ r ∧ rs.Nodup ∧ (∀ x ∈ rs, 0 ≤ x ∧ x < ts.length) ∧
  ∀ (ts' : List Int) (H' : Hp), ts'.length = ts.length → (∀ j, j < rs.length → at0 ts' (rs.getD j 0) = some (rs.getD (((j : Int) + k) % (rs.length : Int)).toNat 0)) → (∀ u, 0 ≤ u → u ∉ rs → at0 ts' u = at0 ts u) → H' t = some (.lst (ts'.map V.int)) → KeepBut t H H' → Q .non H'
theorem scSend : FnScope ["target", "ring", "steps", "place", "thing"] ["target", "ring", "steps"] (defScope s_send_along) := ⟨rfl, rfl, rfl, by decide +kernel, rfl, by decide +kernel, by decide +kernel⟩
theorem ok_send {f : Addr} {fd : FuncData} (F : Fun K "send_along" "send_along" s_send_along f fd) (B : Bl mg) : FnOk P w K mg base CX0 1 f fd ["target", "ring", "steps"] spSend := by
  refine F.ok scSend (fun vs H Q E h => ?_) (fun cdv A outer s H vs Q E hr h => ?_)
  · obtain ⟨t, r, ts, rs, k, rfl, _⟩ := h
    rfl
  · obtain ⟨t, r, ts, rs, k, rfl, ht, hrr, ntr, nd, bd, q⟩ := h
    refine ⟨_, pss_one (ps_for PassesOwn.never rfl (pi_enum B.enum (pa_cons (pv 1) pa_nil)) (pg_tup rfl (pgs_cons (pg_name (i := 3) scSend.nd rfl (Or.inl rfl)) (pgs_cons (pg_name (i := 4) scSend.nd rfl (Or.inl rfl)) pgs_nil)))
      (pss_one (ps_asg (pe_ix ix_list (pv 1) (pe_op op_mod (pe_op op_add (pv 3) (pv 2)) (pe_lenL B.len (pa_cons (pv 1) pa_nil))) (fun _ _ => rfl)) (pg_sub (pv 0) (pv 4) set_list)))), ?_⟩
    refine ⟨_, rfl, r, rfl, ⟨_, SqL.of hrr⟩, for_enum (K := K) (a := r) (xs := rs.map V.int) (fun i σ H2 => ∃ (ts' : List Int) (v3 v4 : Option V), σ = [some (.ref t), some (.ref r), some (.int k), v3, v4] ∧ H2 t = some (.lst (ts'.map V.int)) ∧ ts'.length = ts.length ∧ (∀ j, j < i → at0 ts' (rs.getD j 0) = some (rs.getD (((j : Int) + k) % (rs.length : Int)).toNat 0)) ∧ (∀ u, 0 ≤ u → u ∉ rs → at0 ts' u = at0 ts u) ∧ KeepBut t H H2)
      ⟨ts, none, none, rfl, ht, rfl, fun j hj => by omega, fun u _ _ => rfl, KeepBut.refl t H⟩ (fun i σ H2 _ ⟨_, _, _, _, _, _, _, _, k⟩ => SqL.of (k r _ hrr ntr.symm)) ?_ ?_⟩
    · rintro i y σ H2 tt hi ⟨ts', v3, v4, rfl, h2t, hl, hj, hu, kb⟩ htt
      obtain ⟨z, hz, rfl⟩ := getElem_int hi
      have hil : i < rs.length := (List.getElem?_eq_some_iff.mp hz).1
      have h2r := kb r _ hrr ntr.symm
      have nt : t ≠ tt := ne_of_none h2t htt
      have nr : r ≠ tt := ne_of_none h2r htt
      have h3r : (upd H2 tt (.tup [.int (i : Int), .int z])) r = some (.lst (rs.map V.int)) := by rw [upd_ne nr]; exact h2r
      have h3t : (upd H2 tt (.tup [.int (i : Int), .int z])) t = some (.lst (ts'.map V.int)) := by rw [upd_ne nt]; exact h2t
      have L0 : (0 : Int) < (rs.length : Int) := by omega
      have m0 := Int.emod_nonneg ((i : Int) + k) (show (rs.length : Int) ≠ 0 by omega)
      have m1 := Int.emod_lt_of_pos ((i : Int) + k) L0
      refine ⟨tt, _, rfl, SqT.of upd_same, rfl, _, _, rfl, _, _, rfl, rfl, ?_⟩
      refine ⟨_, rfl, _, rfl, _, rfl, _, _, rfl, rfl, _, rfl, r, _, rfl, .inl (SqL.of h3r), ?_⟩
      rw [List.length_map]
      refine ⟨_, _, rfl, rfl, L0, r, _, _, _, rfl, rfl, SqL.of h3r, atI_map m0 m1, ?_⟩
      obtain ⟨z0, z1⟩ := bd z (List.mem_of_getElem? hz)
      refine ⟨_, rfl, _, rfl, t, _, _, z.toNat, rfl, rfl, h3t, ?_, ?_⟩
      · unfold ixN
        rw [List.length_map, if_pos z0, if_pos (by omega)]
      have es : (ts'.map V.int).set z.toNat (.int (rs.getD (((i : Int) + k) % (rs.length : Int)).toNat 0)) = (ts'.set z.toNat (rs.getD (((i : Int) + k) % (rs.length : Int)).toNat 0)).map V.int := by rw [List.map_set]
      rw [es]
      have hzi : rs.getD i 0 = z := by rw [getD_eq hil]; exact (List.getElem?_eq_some_iff.mp hz).2
      refine ⟨_, _, _, rfl, upd_same, by rw [List.length_set]; exact hl, fun j hji => ?_, fun u u0 un => ?_, fun b o hb hn => ?_⟩
      · by_cases e : j = i
        · subst e
          rw [hzi, at0_same (by omega)]
        · have hjl : j < rs.length := by omega
          have : rs.getD j 0 ≠ z := by rw [← hzi]; exact nodup_getD nd hjl hil e
          rw [at0_ne (bd _ (by rw [getD_eq hjl]; exact List.getElem_mem hjl)).1 z0 this]
          exact hj j (by omega)
      · rw [at0_ne u0 z0 (fun e => un (e ▸ List.mem_of_getElem? hz))]
        exact hu u u0 un
      · have := kb b o hb hn
        rw [upd_ne hn, upd_ne (ne_of_none this htt)]
        exact this
    · rintro σ H2 ⟨ts', v3, v4, rfl, h2t, hl, hj, hu, kb⟩
      rw [List.length_map] at hj
      exact q ts' H2 hl hj hu h2t kb
end
end My
namespace My
open PySem L2 Mth
section
variable {P : Program} {w : World} {K : PySem.W.Frag} {mg : Str → Option Value} {base : Heap}
theorem scRoundsOf : FnScope ["p"] ["p"] (defScope s_rounds_of) := ⟨rfl, rfl, rfl, by decide +kernel, rfl, by decide +kernel, by decide +kernel⟩
theorem ok_roundsOf {f : Addr} {fd : FuncData} (F : Fun K "rounds_of" "rounds_of" s_rounds_of f fd) (cM : Cal P w K mg base "must_be_turn" 3 ["thing"] spMust) (cR : Cal P w K mg base "walk_rings" 2 ["p"] spRings) : FnOk P w K mg base CX0 4 f fd ["p"] spRings := by
  refine F.ok scRoundsOf (fun vs H Q E h => ?_) (fun cdv A outer s H vs Q E hr h => ?_)
  · obtain ⟨a, p, rfl, _⟩ := h
    rfl
  · obtain ⟨a, p, rfl, ⟨ha, tp, lp⟩, q⟩ := h
    refine ⟨_, pss_cons (ps_expr (pe_cal cM hr (pa_cons (pv 0) pa_nil))) (pss_one (ps_ret (pe_cal cR (hr.mono (by decide)) (pa_cons (pv 0) pa_nil)))), ?_⟩
    refine ⟨_, rfl, a, p, rfl, ⟨ha, tp, lp⟩, fun H1 s1 => ?_⟩
    exact ⟨_, rfl, a, p, rfl, ⟨s1 a _ ha, tp, lp⟩, fun l as rs H' hl s' h1 h2 h3 h4 h5 h6 => q l as rs H' (s1.free hl) (s1.trans s') h1 h2 h3 (fun b hb => s1.free (h4 b hb)) h5 h6⟩
end
end My
namespace My
open PySem L2 Mth
section
variable {P : Program} {w : World} {K : PySem.W.Frag} {mg : Str → Option Value} {base : Heap}
def spGcd : Sp := fun vs H Q _ => ∃ (x y : Nat), vs = [.int (x : Int), .int (y : Int)] ∧ Q (.int (Nat.gcd x y : Nat)) H
theorem scGcd : FnScope ["a", "b", "rest"] ["a", "b"] (defScope s_greatest_part) := ⟨rfl, rfl, rfl, by decide +kernel, rfl, by decide +kernel, by decide +kernel⟩
def secondOf (σ : St) : Nat := match σ[1]? with
  | some (some (V.int i)) => i.toNat
  | _ => 0
theorem ok_gcd {f : Addr} {fd : FuncData} (F : Fun K "greatest_part" "greatest_part" s_greatest_part f fd) : FnOk P w K mg base CX0 1 f fd ["a", "b"] spGcd := by
  refine F.ok scGcd (fun vs H Q E h => ?_) (fun cdv A outer s H vs Q E hr h => ?_)
  · obtain ⟨x, y, rfl, _⟩ := h
    rfl
  · obtain ⟨x, y, rfl, q⟩ := h
    refine ⟨_, pss_cons (ps_while PassesOwn.never (pt_cmpR op_ne (pv 1) pe_int (nomark _))
        (pss_cons (ps_set (i := 2) scGcd.nd rfl (Or.inl rfl) (pe_op op_mod (pv 0) (pv 1))) (pss_cons (ps_set (i := 0) scGcd.nd rfl (Or.inl rfl) (pv 1)) (pss_one (ps_set (i := 1) scGcd.nd rfl (Or.inl rfl) (pv 2))))))
      (pss_one (ps_ret (pv 0))), ?_⟩
    refine while_by (fun σ H2 => ∃ (a b : Nat) (v : Option V), σ = [some (.int (a : Int)), some (.int (b : Int)), v] ∧ Nat.gcd a b = Nat.gcd x y ∧ H2 = H) (fun σ _ => secondOf σ) ⟨x, y, none, rfl, rfl, rfl⟩ ?_ ?_
    · rintro σ H2 ⟨a, b, v, rfl, hg, rfl⟩
      refine ⟨_, rfl, rfl, _, rfl, ?_⟩
      by_cases hb : b = 0
      · subst hb
        refine iteNS (by rfl) ?_
        refine ⟨_, rfl, ?_⟩
        rw [Nat.gcd_zero_right] at hg
        rw [hg]
        exact q
      · have hb' : ¬ V.int (b : Int) = V.int 0 := fun z => hb (by have := V.int.inj z; omega)
        rw [decide_eq_false hb']
        refine iteT ?_
        refine ⟨_, rfl, _, rfl, _, _, rfl, rfl, (by show (0 : Int) < (b : Int); omega), _, rfl, _, rfl, ⟨b, a % b, some (.int ((a : Int) % (b : Int))), ?_, ?_, rfl⟩, ?_⟩
        · rw [Int.natCast_emod]; rfl
        · rw [← hg, Nat.gcd_comm a b, Nat.gcd_rec b a, Nat.gcd_comm]
        · show ((a : Int) % (b : Int)).toNat < ((b : Int)).toNat
          have := Int.emod_lt_of_pos (a : Int) (show (0 : Int) < (b : Int) by omega)
          have := Int.emod_nonneg (a : Int) (show (b : Int) ≠ 0 by omega)
          omega
    · rintro σ H2 Q Q' hq ⟨v, hv, e1, k1, e2, e3⟩
      exact ⟨v, hv, e1, k1, e2, hq _ _ e3⟩
end
end My
namespace My
open PySem L2 Mth
section
variable {P : Program} {w : World} {K : PySem.W.Frag} {mg : Str → Option Value} {base : Heap}
def spFilled : Sp := fun vs H Q _ => ∃ (l : Addr) (as : List Addr) (rs : List (List Int)), vs = [.ref l] ∧ H l = some (.lst (as.map V.ref)) ∧ RowsH H as rs ∧ (∀ r ∈ rs, r ≠ []) ∧ Q (.bl true) H
theorem scFilled : FnScope ["rounds", "ring"] ["rounds"] (defScope s_are_filled_lists) := ⟨rfl, rfl, rfl, by decide +kernel, rfl, by decide +kernel, by decide +kernel⟩
theorem ok_filled {f : Addr} {fd : FuncData} (F : Fun K "are_filled_lists" "are_filled_lists" s_are_filled_lists f fd) (B : Bl mg) : FnOk P w K mg base CX0 1 f fd ["rounds"] spFilled := by
  refine F.ok scFilled (fun vs H Q E h => ?_) (fun cdv A outer s H vs Q E hr h => ?_)
  · obtain ⟨l, as, rs, rfl, _⟩ := h
    rfl
  · obtain ⟨l, as, rs, rfl, hl, rows, hne, q⟩ := h
    refine ⟨_, pss_cons (ps_if (pt_not (pt_val (pe_isi B.isi (pa_cons (pv 0) (pa_cons (pe_tyList B.list) pa_nil))))) (pss_one (ps_ret pe_bl)) pss_nil)
      (pss_cons (ps_for PassesOwn.never rfl (pi_list (pv 0)) (pg_name (i := 1) scFilled.nd rfl (Or.inl rfl))
        (pss_one (ps_if (pw_or (pt_not (pt_val (pe_isi B.isi (pa_cons (pv 1) (pa_cons (pe_tyList B.list) pa_nil))))) (pw_or1 (pt_cmpR op_eq (pe_lenL B.len (pa_cons (pv 1) pa_nil)) pe_int (nomark _)))).pt (pss_one (ps_ret pe_bl)) pss_nil)))
      (pss_one (ps_ret pe_bl))), ?_⟩
    refine ⟨_, rfl, _, "list", _, true, rfl, .lst hl, kit_same K "list", true, rfl, ?_⟩
    refine iteF ?_
    refine ⟨_, rfl, l, rfl, ⟨_, SqL.of hl⟩, for_list (K := K) (a := l) (xs := as.map V.ref) (fun i σ H2 => ∃ v : Option V, σ = [some (.ref l), v] ∧ H2 = H) ⟨none, rfl, rfl⟩ (fun i σ H2 _ ⟨_, _, e⟩ => by rw [e]; exact SqL.of hl) ?_ (fun σ H2 ⟨v, _, e⟩ => by rw [e]; exact q)⟩
    rintro i y σ H2 hi ⟨v, rfl, rfl⟩
    rw [List.getElem?_map] at hi
    cases hA : as[i]? with
    | none => rw [hA] at hi; cases hi
    | some e =>
      rw [hA] at hi
      cases hi
      have hil : i < as.length := (List.getElem?_eq_some_iff.mp hA).1
      have hri : rs[i]? = some (rs[i]'(by rw [← rows.1]; exact hil)) := List.getElem?_eq_getElem _
      generalize (rs[i]'(by rw [← rows.1]; exact hil)) = r at hri
      have he := rows.2 i e r hA hri
      have hrn := hne r (List.mem_of_getElem? hri)
      refine ⟨_, rfl, _, "list", _, true, rfl, .lst he, kit_same K "list", true, rfl, ?_⟩
      refine iteF ⟨_, rfl, e, _, rfl, .inl (SqL.of he), rfl, _, rfl, ?_⟩
      have hnz : ¬ V.int (((r.map V.int).length : Nat) : Int) = V.int 0 := fun z => by
        have z := V.int.inj z
        rw [List.length_map] at z
        have := List.length_pos_iff.mpr hrn
        omega
      rw [decide_eq_false hnz]
      exact iteF ⟨_, rfl, rfl⟩
def spThings : Sp := fun vs H Q _ => ∃ (l : Addr) (as : List Addr) (rs : List (List Int)), vs = [.ref l] ∧ H l = some (.lst (as.map V.ref)) ∧ RowsH H as rs ∧ rs.flatten.length ≤ 1000 ∧
  ∀ (o : Addr) (H' : Hp), H o = none → Same H H' → H' o = some (.lst (rs.flatten.map V.int)) → Q (.ref o) H'
theorem scThings : FnScope ["rounds", "things", "ring"] ["rounds"] (defScope s_things_in) := ⟨rfl, rfl, rfl, by decide +kernel, rfl, by decide +kernel, by decide +kernel⟩
theorem flat_take_le (rs : List (List Int)) (i : Nat) : (rs.take i).flatten.length ≤ rs.flatten.length := by
  conv => rhs; rw [← List.take_append_drop i rs, List.flatten_append, List.length_append]
  omega
theorem ok_things {f : Addr} {fd : FuncData} (F : Fun K "things_in" "things_in" s_things_in f fd) : FnOk P w K mg base CX0 1 f fd ["rounds"] spThings := by
  refine F.ok scThings (fun vs H Q E h => ?_) (fun cdv A outer s H vs Q E hr h => ?_)
  · obtain ⟨l, as, rs, rfl, _⟩ := h
    rfl
  · obtain ⟨l, as, rs, rfl, hl, rows, hb, q⟩ := h
    refine ⟨_, pss_cons (ps_set (i := 1) scThings.nd rfl (Or.inl rfl) (pe_lst pa_nil))
      (pss_cons (ps_for PassesOwn.never rfl (pi_list (pv 0)) (pg_name (i := 2) scThings.nd rfl (Or.inl rfl)) (pss_one (ps_expr (pe_extend (pv 1) (pa_cons (pv 2) pa_nil)))))
      (pss_one (ps_ret (pv 1)))), ?_⟩
    refine ⟨Nat.zero_le _, fun o ho => ?_⟩
    have s0 : Same H (upd H o (.lst [])) := Same.upd_new ho
    refine ⟨_, rfl, l, rfl, ⟨_, SqL.of (s0 l _ hl)⟩, for_list (K := K) (a := l) (xs := as.map V.ref) (fun i σ H2 => ∃ v : Option V, σ = [some (.ref l), some (.ref o), v] ∧ Same H H2 ∧ H2 o = some (.lst ((rs.take i).flatten.map V.int))) ⟨none, rfl, s0, upd_same⟩ (fun i σ H2 _ ⟨_, _, s, _⟩ => SqL.of (s l _ hl)) ?_ ?_⟩
    · rintro i y σ H2 hi ⟨v, rfl, s2, h2o⟩
      rw [List.getElem?_map] at hi
      cases hA : as[i]? with
      | none => rw [hA] at hi; cases hi
      | some e =>
        rw [hA] at hi
        cases hi
        have hil : i < as.length := (List.getElem?_eq_some_iff.mp hA).1
        have hri : rs[i]? = some (rs[i]'(by rw [← rows.1]; exact hil)) := List.getElem?_eq_getElem _
        generalize (rs[i]'(by rw [← rows.1]; exact hil)) = r at hri
        have he := s2 e _ (rows.2 i e r hA hri)
        have hle := flat_take_le rs (i + 1)
        rw [take_succ_of hri, List.flatten_append, List.flatten_singleton, List.length_append] at hle
        have h1000 := small1000 (Nat.le_refl 1000)
        refine ⟨_, rfl, .inl ⟨rfl, _, SqL.of h2o⟩, _, rfl, o, e, _, _, rfl, rfl, h2o, he, by rw [List.length_map, List.length_map]; omega, ?_⟩
        refine ⟨_, rfl, fun b u hb => by rw [upd_ne (ne_of_none hb ho)]; exact s2 b u hb, ?_⟩
        rw [upd_same, take_succ_of hri, List.flatten_append, List.flatten_singleton, List.map_append]
    · rintro σ H2 ⟨v, rfl, s2, h2o⟩
      rw [List.length_map, rows.1, List.take_length] at h2o
      exact ⟨_, rfl, q o H2 ho s2 h2o⟩
def spFrom : Sp := fun vs H Q _ => ∃ (l : Addr) (as : List Addr) (rs : List (List Int)), vs = [.ref l] ∧ H l = some (.lst (as.map V.ref)) ∧ RowsH H as rs ∧ (∀ r ∈ rs, r ≠ []) ∧ IsT rs.flatten ∧ rs.flatten.length ≤ 40 ∧
  ∀ (o : Addr) (t : List Int) (H' : Hp), H o = none → Same H H' → H' o = some (.lst (t.map V.int)) → t.length = rs.flatten.length → (∀ r ∈ rs, ∀ j, j < r.length → at0 t (r.getD j 0) = some (r.getD ((j + 1) % r.length) 0)) → Q (.ref o) H'
theorem scFrom : FnScope ["rounds", "told", "ring"] ["rounds"] (defScope s_from_rounds) := ⟨rfl, rfl, rfl, by decide +kernel, rfl, by decide +kernel, by decide +kernel⟩
theorem ok_from {f : Addr} {fd : FuncData} (F : Fun K "from_rounds" "from_rounds" s_from_rounds f fd) (cF : Cal P w K mg base "are_filled_lists" 1 ["rounds"] spFilled) (cT : Cal P w K mg base "things_in" 1 ["rounds"] spThings) (cI : Cal P w K mg base "is_turn" 2 ["thing"] spIsTurn)
    (cS : Cal P w K mg base "send_along" 1 ["target", "ring", "steps"] spSend) : FnOk P w K mg base CX0 3 f fd ["rounds"] spFrom := by
  refine F.ok scFrom (fun vs H Q E h => ?_) (fun cdv A outer s H vs Q E hr h => ?_)
  · obtain ⟨l, as, rs, rfl, _⟩ := h
    rfl
  · obtain ⟨l, as, rs, rfl, hl, rows, hne, tf, lf, q⟩ := h
    have hr1 : Room 1 _ := hr.mono (by decide)
    refine ⟨_, pss_cons (ps_if (pt_not (pt_val (pe_cal cF hr1 (pa_cons (pv 0) pa_nil)))) (pss_one ps_never) pss_nil)
      (pss_cons (ps_set (i := 1) scFrom.nd rfl (Or.inl rfl) (pe_cal cT hr1 (pa_cons (pv 0) pa_nil)))
      (pss_cons (ps_if (pt_not (pt_val (pe_cal cI hr (pa_cons (pv 1) pa_nil)))) (pss_one ps_never) pss_nil)
      (pss_cons (ps_for PassesOwn.never rfl (pi_list (pv 0)) (pg_name (i := 2) scFrom.nd rfl (Or.inl rfl)) (pss_one (ps_expr (pe_cal cS hr1 (pa_cons (pv 1) (pa_cons (pv 2) (pa_cons pe_int pa_nil)))))))
      (pss_one (ps_ret (pv 1)))))), ?_⟩
    refine ⟨_, rfl, l, as, rs, rfl, hl, rows, hne, true, rfl, ?_⟩
    refine iteF ?_
    refine ⟨_, rfl, l, as, rs, rfl, hl, rows, by omega, fun o H1 ho s1 h1o => ?_⟩
    refine ⟨_, rfl, o, _, rfl, h1o, fun bb H2 s2 hbb => ⟨bb, rfl, ?_⟩⟩
    have : bb = true := hbb.mpr ⟨lf, tf⟩
    subst this
    refine iteF ?_
    have s02 := s1.trans s2
    have h2o := s2 o _ h1o
    have h2l := s02 l _ hl
    have rows2 : RowsH H2 as rs := rows_keep rows fun c _ u hu => s02 c u hu
    have nlo : l ≠ o := ne_of_none hl ho
    refine ⟨_, rfl, l, rfl, ⟨_, SqL.of h2l⟩, for_list (K := K) (a := l) (xs := as.map V.ref) (fun i σ H3 => ∃ (ts : List Int) (v : Option V), σ = [some (.ref l), some (.ref o), v] ∧ H3 o = some (.lst (ts.map V.int)) ∧ ts.length = rs.flatten.length ∧ (∀ r ∈ rs.take i, ∀ j, j < r.length → at0 ts (r.getD j 0) = some (r.getD ((j + 1) % r.length) 0)) ∧ KeepBut o H2 H3)
      ⟨_, none, rfl, h2o, rfl, fun r hr => by simp at hr, KeepBut.refl o H2⟩ (fun i σ H3 _ ⟨_, _, _, _, _, _, k⟩ => SqL.of (k l _ h2l nlo)) ?_ ?_⟩
    · rintro i y σ H3 hi ⟨ts, v, rfl, h3o, lts, hts, kb⟩
      rw [List.getElem?_map] at hi
      cases hA : as[i]? with
      | none => rw [hA] at hi; cases hi
      | some e =>
        rw [hA] at hi
        cases hi
        have hil : i < as.length := (List.getElem?_eq_some_iff.mp hA).1
        have hri : rs[i]? = some (rs[i]'(by rw [← rows.1]; exact hil)) := List.getElem?_eq_getElem _
        generalize hR : (rs[i]'(by rw [← rows.1]; exact hil)) = r at hri
        have neo : o ≠ e := fun z => by
          have := rows.2 i e r hA hri
          rw [← z, ho] at this; cases this
        have h3e := kb e _ (rows2.2 i e r hA hri) neo.symm
        have hrm : r ∈ rs := List.mem_of_getElem? hri
        have hsplit : rs.flatten = (rs.take i).flatten ++ (r ++ (rs.drop (i + 1)).flatten) := by
          conv => lhs; rw [← List.take_append_drop i rs, List.flatten_append]
          rw [List.drop_eq_getElem_cons (by rw [← rows.1]; exact hil), hR, List.flatten_cons]
        have nds := tf.nd
        rw [hsplit] at nds
        obtain ⟨nd1, nd2, nd3⟩ := List.nodup_append.mp nds
        obtain ⟨ndr, _, _⟩ := List.nodup_append.mp nd2
        refine ⟨_, rfl, _, rfl, o, e, ts, r, 1, rfl, h3o, h3e, neo, ndr, fun x hx => ?_, fun ts' H4 l4 hj hu h4o kb4 => ?_⟩
        · have hxf : x ∈ rs.flatten := List.mem_flatten.mpr ⟨r, hrm, hx⟩
          exact ⟨tf.lo x hxf, by rw [lts]; exact tf.hi x hxf⟩
        refine ⟨ts', _, rfl, h4o, by omega, fun r' hr' j hj' => ?_, kb.trans kb4⟩
        rw [take_succ_of hri] at hr'
        rcases List.mem_append.mp hr' with g | g
        · have hx : r'.getD j 0 ∈ (rs.take i).flatten := by
            rw [getD_eq hj'] 
            exact List.mem_flatten.mpr ⟨r', g, List.getElem_mem hj'⟩
          have hxn : r'.getD j 0 ∉ r := fun z => nd3 _ hx _ (List.mem_append_left _ z) rfl
          have hx0 : 0 ≤ r'.getD j 0 := tf.lo _ (by rw [hsplit]; exact List.mem_append_left _ hx)
          rw [hu _ hx0 hxn]
          exact hts r' g j hj'
        · have : r' = r := by simpa using g
          subst this
          have h1 := hj j hj'
          have e1 : (((j : Int) + 1) % (r'.length : Int)).toNat = (j + 1) % r'.length := by
            have : ((j : Int) + 1) = ((j + 1 : Nat) : Int) := by omega
            rw [this, ← Int.natCast_emod, Int.toNat_natCast]
          rw [e1] at h1
          exact h1
    · rintro σ H3 ⟨ts, v, rfl, h3o, lts, hts, kb⟩
      rw [List.length_map, rows.1, List.take_length] at hts
      exact ⟨_, rfl, q o ts H3 ho (fun b u hb => kb b u (s02 b u hb) (ne_of_none hb ho)) h3o lts hts⟩
end
end My
namespace My
open PySem L2 Mth
section
variable {P : Program} {w : World} {K : PySem.W.Frag} {mg : Str → Option Value} {base : Heap}
def spOne : Sp := fun vs H Q _ => ∃ (n : Int), vs = [.int n] ∧ 1 ≤ n ∧ Q .non H
theorem scOne : FnScope ["number"] ["number"] (defScope s_must_be_from_one) := ⟨rfl, rfl, rfl, by decide +kernel, rfl, by decide +kernel, by decide +kernel⟩
theorem ok_one {f : Addr} {fd : FuncData} (F : Fun K "must_be_from_one" "must_be_from_one" s_must_be_from_one f fd) (cW : Cal P w K mg base "is_whole" 1 ["thing"] (spWhole K)) : FnOk P w K mg base CX0 2 f fd ["number"] spOne := by
  refine F.ok scOne (fun vs H Q E h => ?_) (fun cdv A outer s H vs Q E hr h => ?_)
  · obtain ⟨n, rfl, _⟩ := h
    rfl
  · obtain ⟨n, rfl, h1, q⟩ := h
    have hr1 : Room 1 _ := hr.mono (by decide)
    refine ⟨_, pss_one (ps_if (pw_or (pt_not (pt_val (pe_cal cW hr1 (pa_cons (pv 0) pa_nil)))) (pw_or1 (pt_cmpR op_lt (pv 0) pe_int (nomark _)))).pt (pss_one ps_never) pss_nil), ?_⟩
    refine ⟨_, rfl, .int n, _, true, false, rfl, .int n, kit_same K "int", kit_int_bool K, true, rfl, ?_⟩
    refine iteF ⟨_, rfl, _, _, rfl, rfl, _, rfl, ?_⟩
    rw [decide_eq_false (show ¬ n < 1 by omega)]
    exact iteF q
def spLR : Sp := fun vs H Q _ => ∃ (l m : Nat), vs = [.int (l : Int), .int (m : Int)] ∧ 1 ≤ l ∧ l ≤ 1000000000000000000000000000000 ∧ 1 ≤ m ∧ m ≤ 1000000000000000000000000000000 ∧ ∀ d, IsLR l m d → Q (.int ((d : Nat) : Int)) H
theorem scLR : FnScope ["l", "m", "least", "common"] ["l", "m"] (defScope s_least_right) := ⟨rfl, rfl, rfl, by decide +kernel, rfl, by decide +kernel, by decide +kernel⟩
theorem ok_lr {f : Addr} {fd : FuncData} (F : Fun K "least_right" "least_right" s_least_right f fd) (c1 : Cal P w K mg base "must_be_from_one" 2 ["number"] spOne) (cG : Cal P w K mg base "greatest_part" 1 ["a", "b"] spGcd) : FnOk P w K mg base CX0 3 f fd ["l", "m"] spLR := by
  refine F.ok scLR (fun vs H Q E h => ?_) (fun cdv A outer s H vs Q E hr h => ?_)
  · obtain ⟨l, m, rfl, _⟩ := h
    rfl
  · obtain ⟨l, m, rfl, l1, l2, m1, m2, q⟩ := h
    have hr1 : Room 1 _ := hr.mono (by decide)
    refine ⟨_, pss_cons (ps_expr (pe_cal c1 hr (pa_cons (pv 0) pa_nil))) (pss_cons (ps_expr (pe_cal c1 hr (pa_cons (pv 1) pa_nil)))
      (pss_cons (ps_set (i := 2) scLR.nd rfl (Or.inl rfl) pe_int) (pss_cons (ps_set (i := 3) scLR.nd rfl (Or.inl rfl) (pe_cal cG hr1 (pa_cons (pv 0) (pa_cons (pv 1) pa_nil))))
      (pss_cons (ps_while PassesOwn.never (pt_cmpR op_gt (pv 3) pe_int (nomark _))
        (pss_cons (ps_set (i := 2) scLR.nd rfl (Or.inl rfl) (pe_op op_mul (pv 2) (pv 3))) (pss_one (ps_set (i := 3) scLR.nd rfl (Or.inl rfl) (pe_cal cG hr1 (pa_cons (pv 0) (pa_cons (pe_op op_fdivB (pv 1) (pv 2)) pa_nil)))))))
      (pss_one (ps_ret (pv 2))))))), ?_⟩
    refine ⟨_, rfl, (l : Int), rfl, by omega, ?_⟩
    refine ⟨_, rfl, (m : Int), rfl, by omega, ?_⟩
    refine ⟨_, rfl, _, rfl, l, m, rfl, ?_⟩
    refine ⟨fun mm σ H2 => ∃ d : Nat, σ = [some (.int (l : Int)), some (.int (m : Int)), some (.int (d : Int)), some (.int ((Nat.gcd l (m / d) : Nat) : Int))] ∧ LrUp l m d ∧ H2 = H ∧ mm = m - d,
      ⟨m - 1, 1, by rw [Nat.div_one]; rfl, LrUp.start l m, rfl, rfl⟩, ?_⟩
    rintro mm σ H2 ⟨d, rfl, up, rfl, rfl⟩
    have gle : Nat.gcd l (m / d) ≤ l := Nat.gcd_le_left _ l1
    refine ⟨_, rfl, _, _, rfl, rfl, _, rfl, ?_⟩
    refine ite2 (fun hg => ?_) (fun hg => ?_)
    · have hg : (1 : Int) < ((Nat.gcd l (m / d) : Nat) : Int) := of_decide_eq_true hg
      have hg1 : Nat.gcd l (m / d) ≠ 1 := by omega
      obtain ⟨mo1, mo2⟩ := up.more (by omega) hg1
      have up' := up.step (by omega)
      refine ⟨fun σ' H' => ∃ m', m' < m - d ∧ _, fun _ _ h => h, ?_⟩
      have small : d < 18446744073709551616 ∨ Nat.gcd l (m / d) < 18446744073709551616 := by
        rcases Nat.lt_or_ge d 18446744073709551616 with z | z
        · exact .inl z
        · rcases Nat.lt_or_ge (Nat.gcd l (m / d)) 18446744073709551616 with y | y
          · exact .inr y
          · have := Nat.mul_le_mul z y
            omega
      refine ⟨_, rfl, _, rfl, _, _, rfl, rfl, (by rcases small with z | z; exact .inl ⟨by omega, by omega⟩; exact .inr ⟨by omega, by omega⟩), ?_⟩
      have e1 : ((d : Nat) : Int) * ((Nat.gcd l (m / d) : Nat) : Int) = ((d * Nat.gcd l (m / d) : Nat) : Int) := (Int.natCast_mul _ _).symm
      have dp := up'.pos
      refine ⟨_, rfl, _, rfl, _, rfl, _, _, rfl, rfl, ⟨by rw [e1]; omega, by rw [e1]; omega⟩, ?_⟩
      have e2 : (m : Int) / (((d : Nat) : Int) * ((Nat.gcd l (m / d) : Nat) : Int)) = ((m / (d * Nat.gcd l (m / d)) : Nat) : Int) := by rw [e1]; exact (Int.natCast_ediv _ _).symm
      dsimp only
      rw [e2]
      refine ⟨l, m / (d * Nat.gcd l (m / d)), rfl, ?_⟩
      refine ⟨m - d * Nat.gcd l (m / d), by omega, d * Nat.gcd l (m / d), ?_, up', rfl, rfl⟩
      show [some (V.int (l : Int)), some (V.int (m : Int)), some (V.int (((d : Nat) : Int) * ((Nat.gcd l (m / d) : Nat) : Int))), some (V.int ((Nat.gcd l (m / (d * Nat.gcd l (m / d))) : Nat) : Int))] = _
      rw [e1]
    · have hg : ¬ (1 : Int) < ((Nat.gcd l (m / d) : Nat) : Int) := fun z => hg (decide_eq_true z)
      have kp : 0 < m / d := Nat.div_pos (Nat.le_of_dvd (by omega) up.parts) up.pos
      have gp : 0 < Nat.gcd l (m / d) := Nat.gcd_pos_of_pos_right _ kp
      exact ⟨_, rfl, q d (up.done (by omega))⟩
end
end My
namespace My
open PySem L2 Mth
section
variable {P : Program} {w : World} {K : PySem.W.Frag} {mg : Str → Option Value} {base : Heap}
theorem set_step {T J F : List Int} {t : Nat} {u f : Int} (hT : IsT T) (hl : J.length = T.length) (hu : T[t]? = some u) (hf : F[t]? = some f) (h : (T.take t).map (at0 J) = (F.take t).map some) : (T.take (t + 1)).map (at0 (J.set u.toNat f)) = (F.take (t + 1)).map some := by
  have ht : t < T.length := (List.getElem?_eq_some_iff.mp hu).1
  have hum := List.mem_of_getElem? hu
  have u0 := hT.lo u hum
  have u1 := hT.hi u hum
  rw [take_succ_of hu, take_succ_of hf, List.map_append, List.map_append]
  congr 1
  · rw [← h]
    refine List.map_congr_left fun v hv => at0_ne (hT.lo v (List.mem_of_mem_take hv)) u0 fun e => ?_
    obtain ⟨j, hj⟩ := List.mem_iff_getElem?.mp hv
    have hjt : j < t := by
      have := (List.getElem?_eq_some_iff.mp hj).1
      rw [List.length_take] at this
      omega
    rw [List.getElem?_take_of_lt hjt] at hj
    have e1 := (List.getElem?_eq_some_iff.mp hj).2
    have e2 := (List.getElem?_eq_some_iff.mp hu).2
    exact List.pairwise_iff_getElem.mp (List.nodup_iff_pairwise_ne.mp hT.nd) j t (by omega) ht hjt (by rw [e1, e2, e])
  · show [at0 (J.set u.toNat f) u] = [some f]
    rw [at0_same (by omega)]
def spJoin : Sp := fun vs H Q _ => ∃ (a : Addr) (bs : List Addr) (Rs : List (List Int)) (l k : Nat), vs = [.ref a, .int ((Rs.length * k : Nat) : Int)] ∧ H a = some (.lst (bs.map V.ref)) ∧ RowsH H bs Rs ∧ 1 ≤ Rs.length ∧ (∀ r ∈ Rs, r.length = l) ∧ 0 < l ∧ Rs.length * l ≤ 40 ∧ Nat.gcd l k = 1 ∧
  ∀ (o : Addr) (J : List Int) (H' : Hp), H o = none → Same H H' → H' o = some (.lst (J.map V.int)) → JoinIs l k Rs J → Q (.ref o) H'
theorem scJoin : FnScope ["rings", "m", "whole", "joined", "lane", "ring", "step", "thing"] ["rings", "m"] (defScope s_join_rings) := ⟨rfl, rfl, rfl, by decide +kernel, rfl, by decide +kernel, by decide +kernel⟩
theorem ok_join {f : Addr} {fd : FuncData} (F : Fun K "join_rings" "join_rings" s_join_rings f fd) (B : Bl mg) : FnOk P w K mg base CX0 1 f fd ["rings", "m"] spJoin := by
  refine F.ok scJoin (fun vs H Q E h => ?_) (fun cdv A outer s H vs Q E hr h => ?_)
  · obtain ⟨a, bs, Rs, l, k, rfl, _⟩ := h
    rfl
  · obtain ⟨a, bs, Rs, l, k, rfl, ha, rows, d1, hRl, l0, dl, cop, q⟩ := h
    refine ⟨_, pss_cons (ps_set (i := 2) scJoin.nd rfl (Or.inl rfl) (pe_op op_mul (pe_lenL B.len (pa_cons (pv 0) pa_nil)) (pe_lenL B.len (pa_cons (pe_ix ix_list (pv 0) pe_int (fun _ _ => rfl)) pa_nil))))
      (pss_cons (ps_set (i := 3) scJoin.nd rfl (Or.inl rfl) (pe_op op_rep (pe_lst (pa_cons pe_int pa_nil)) (pv 2)))
      (pss_cons (ps_for PassesOwn.never rfl (pi_enum B.enum (pa_cons (pv 0) pa_nil)) (pg_tup rfl (pgs_cons (pg_name (i := 4) scJoin.nd rfl (Or.inl rfl)) (pgs_cons (pg_name (i := 5) scJoin.nd rfl (Or.inl rfl)) pgs_nil)))
        (pss_one (ps_for PassesOwn.never rfl (pi_enum B.enum (pa_cons (pv 5) pa_nil)) (pg_tup rfl (pgs_cons (pg_name (i := 6) scJoin.nd rfl (Or.inl rfl)) (pgs_cons (pg_name (i := 7) scJoin.nd rfl (Or.inl rfl)) pgs_nil)))
          (pss_one (ps_asg (pv 7) (pg_sub (pv 3) (pe_op op_mod (pe_op op_add (pv 4) (pe_op op_mul (pv 6) (pv 1))) (pv 2)) set_list))))))
      (pss_one (ps_ret (pv 3))))), ?_⟩
    have lb : bs.length = Rs.length := rows.1
    have dR : Rs.length ≤ Rs.length * l := Nat.le_mul_of_pos_right _ l0
    have lR : l ≤ Rs.length * l := Nat.le_mul_of_pos_left _ (by omega)
    have hb0 : bs[0]? = some (bs[0]'(by omega)) := List.getElem?_eq_getElem _
    generalize (bs[0]'(by omega)) = b0 at hb0
    have hr0 : Rs[0]? = some (Rs[0]'(by omega)) := List.getElem?_eq_getElem _
    have lr0 : (Rs[0]'(by omega)).length = l := hRl _ (List.getElem_mem _)
    generalize (Rs[0]'(by omega)) = r0 at hr0 lr0
    have h0 := rows.2 0 b0 r0 hb0 hr0
    refine ⟨_, rfl, a, _, rfl, .inl (SqL.of ha), _, rfl, a, _, _, _, rfl, rfl, SqL.of ha, atI_nat (j := 0) (by rw [List.getElem?_map, hb0]; rfl), b0, _, rfl, .inl (SqL.of h0), _, _, rfl, rfl, .inl ⟨by rw [List.length_map]; omega, by rw [List.length_map]; omega⟩, ?_⟩
    rw [List.length_map, List.length_map, lb, lr0]
    dsimp only
    have ew : ((Rs.length : Nat) : Int) * ((l : Nat) : Int) = ((Rs.length * l : Nat) : Int) := (Int.natCast_mul _ _).symm
    rw [ew]
    obtain ⟨D, hD⟩ : ∃ D, D = Rs.length := ⟨_, rfl⟩
    rw [← hD] at d1 dl lb dR lR ⊢
    obtain ⟨N, hN⟩ : ∃ N, N = D * l := ⟨_, rfl⟩
    rw [← hN] at dl dR lR ⊢
    refine ⟨(by show 1 ≤ sizeLine; decide), fun e he => ?_⟩
    refine ⟨_, rfl, e, _, _, rfl, rfl, upd_same, by omega, by omega, by show 1 * _ ≤ sizeLine; rw [sizeLine_eq]; omega, fun n hn => ?_⟩
    rw [show ((N : Nat) : Int).toNat = N by omega, rep_zero]
    have hne : n ≠ e := fun z => by rw [z, upd_same] at hn; cases hn
    have hn0 : H n = none := by rw [upd_ne hne] at hn; exact hn
    have s1 : Same H (upd (upd H e (.lst [.int 0])) n (.lst ((List.replicate N (0 : Int)).map V.int))) := (Same.upd_new he).upd_r hn0
    have h1n : (upd (upd H e (.lst [.int 0])) n (.lst ((List.replicate N (0 : Int)).map V.int))) n = some (.lst ((List.replicate N (0 : Int)).map V.int)) := upd_same
    generalize (upd (upd H e (.lst [.int 0])) n (.lst ((List.replicate N (0 : Int)).map V.int))) = H1 at s1 h1n ⊢
    have T := posL_isT (d := D) l0 cop
    have lT := posL_len D l k
    obtain ⟨fl, fg⟩ := flat_get l0 hRl
    refine ⟨_, rfl, a, rfl, ⟨_, SqL.of (s1 a _ ha)⟩, for_enum (K := K) (a := a) (xs := bs.map V.ref) (fun i σ H2 => ∃ (J : List Int) (v4 v5 v6 v7 : Option V), σ = [some (.ref a), some (.int ((D * k : Nat) : Int)), some (.int ((N : Nat) : Int)), some (.ref n), v4, v5, v6, v7] ∧ H2 n = some (.lst (J.map V.int)) ∧ J.length = N ∧ ((posL D l k).take (i * l)).map (at0 J) = (Rs.flatten.take (i * l)).map some ∧ Same H H2)
      ⟨_, none, none, none, none, rfl, h1n, by rw [List.length_replicate], by rw [Nat.zero_mul]; rfl, s1⟩ (fun i σ H2 _ ⟨_, _, _, _, _, _, _, _, _, s⟩ => SqL.of (s a _ ha)) ?_ ?_⟩
    · rintro i y σ H2 t hi ⟨J, v4, v5, v6, v7, rfl, h2n, lJ, hmap, s2⟩ ht
      rw [List.getElem?_map] at hi
      cases hA : bs[i]? with
      | none => rw [hA] at hi; cases hi
      | some b =>
        rw [hA] at hi
        cases hi
        have hil : i < bs.length := (List.getElem?_eq_some_iff.mp hA).1
        have hiD : i < D := by omega
        have hri : Rs[i]? = some (Rs[i]'(by omega)) := List.getElem?_eq_getElem _
        have lri : (Rs[i]'(by omega)).length = l := hRl _ (List.getElem_mem _)
        generalize (Rs[i]'(by omega)) = r at hri lri
        have hrow := rows.2 i b r hA hri
        have s23 : Same H2 (upd H2 t (.tup [.int (i : Int), .ref b])) := Same.upd_new ht
        refine ⟨t, _, rfl, SqT.of upd_same, rfl, _, _, rfl, _, _, rfl, rfl, ?_⟩
        generalize (upd H2 t (.tup [.int (i : Int), .ref b])) = H3 at s23 ⊢
        have s3 := s2.trans s23
        have h3b := s3 b _ hrow
        refine ⟨_, rfl, b, rfl, ⟨_, SqL.of h3b⟩, for_enum (K := K) (a := b) (xs := r.map V.int) (fun j σ H4 => ∃ (J : List Int) (v6 v7 : Option V), σ = [some (.ref a), some (.int ((D * k : Nat) : Int)), some (.int ((N : Nat) : Int)), some (.ref n), some (.int (i : Int)), some (.ref b), v6, v7] ∧ H4 n = some (.lst (J.map V.int)) ∧ J.length = N ∧ ((posL D l k).take (i * l + j)).map (at0 J) = (Rs.flatten.take (i * l + j)).map some ∧ Same H H4)
          ⟨J, v6, v7, rfl, s23 n _ h2n, lJ, hmap, s3⟩ (fun j σ H4 _ ⟨_, _, _, _, _, _, _, s⟩ => SqL.of (s b _ hrow)) ?_ ?_⟩
        · rintro j y σ H4 t2 hj ⟨J, v6, v7, rfl, h4n, lJ, hmap, s4⟩ ht2
          obtain ⟨z, hz, rfl⟩ := getElem_int hj
          have hjl : j < l := by rw [← lri]; exact (List.getElem?_eq_some_iff.mp hz).1
          have s45 : Same H4 (upd H4 t2 (.tup [.int (j : Int), .int z])) := Same.upd_new ht2
          refine ⟨t2, _, rfl, SqT.of upd_same, rfl, _, _, rfl, _, _, rfl, rfl, ?_⟩
          generalize (upd H4 t2 (.tup [.int (j : Int), .int z])) = H5 at s45 ⊢
          have h5n := s45 n _ h4n
          have tlt : i * l + j < D * l := by
            calc i * l + j < i * l + l := by omega
              _ = (i + 1) * l := by rw [Nat.succ_mul]
              _ ≤ D * l := Nat.mul_le_mul_right l hiD
          have dv1 : (i * l + j) / l = i := by rw [Nat.mul_comm, Nat.mul_add_div l0, Nat.div_eq_of_lt hjl, Nat.add_zero]
          have dv2 : (i * l + j) % l = j := by rw [Nat.mul_comm, Nat.mul_add_mod, Nat.mod_eq_of_lt hjl]
          have hTt : (posL D l k)[i * l + j]? = some ((posJ D l k i j : Nat) : Int) := by
            unfold posL
            rw [List.getElem?_map, List.getElem?_range tlt]
            show some ((posJ D l k ((i * l + j) / l) ((i * l + j) % l) : Nat) : Int) = _
            rw [dv1, dv2]
          have hFt : Rs.flatten[i * l + j]? = some z := by
            rw [fg i j (by omega) hjl, List.getD_eq_getElem?_getD, hri]
            exact hz
          have ep : ((i : Int) + (j : Int) * ((D * k : Nat) : Int)) % ((N : Nat) : Int) = ((posJ D l k i j : Nat) : Int) := by
            rw [← posJ_eq hiD l0, ← Int.natCast_mul, ← Int.natCast_add, ← Int.natCast_emod, hN]
          have plt : posJ D l k i j < D * l := posJ_lt hiD l0
          refine ⟨_, rfl, _, rfl, _, rfl, _, rfl, _, rfl, _, _, rfl, rfl, .inl ⟨by omega, by omega⟩, _, _, rfl, rfl, _, rfl, _, _, rfl, rfl, (by show (0 : Int) < (N : Int); omega), ?_⟩
          dsimp only
          rw [ep]
          refine ⟨n, _, _, posJ D l k i j, rfl, rfl, h5n, ?_, ?_⟩
          · unfold ixN
            rw [List.length_map, if_pos (by omega), if_pos (by omega)]
            rfl
          have es : (J.map V.int).set (posJ D l k i j) (.int z) = (J.set (posJ D l k i j) z).map V.int := by rw [List.map_set]
          rw [es]
          refine ⟨_, _, _, rfl, upd_same, by rw [List.length_set]; exact lJ, ?_, fun c o hc => by rw [upd_ne (ne_of_none hc hn0)]; exact s45 c o (s4 c o hc)⟩
          have := set_step (J := J) T (by rw [lT]; omega) hTt hFt hmap
          rw [Int.toNat_natCast] at this
          exact this
        · rintro σ H4 ⟨J, v6, v7, rfl, h4n, lJ, hmap, s4⟩
          rw [List.length_map, lri] at hmap
          refine ⟨J, _, _, _, _, rfl, h4n, lJ, ?_, s4⟩
          rw [Nat.succ_mul]; exact hmap
    · rintro σ H2 ⟨J, v4, v5, v6, v7, rfl, h2n, lJ, hmap, s2⟩
      rw [List.length_map, lb, List.take_of_length_le (by rw [lT]; exact Nat.le_refl _), List.take_of_length_le (by rw [fl, ← hD]; exact Nat.le_refl _)] at hmap
      refine ⟨_, rfl, q n J H2 hn0 s2 h2n ⟨by rw [lJ, hN, hD], by rw [← hD]; exact hmap⟩⟩
end
end My
namespace My
open PySem L2 Mth
section
variable {P : Program} {w : World} {K : PySem.W.Frag} {mg : Str → Option Value} {base : Heap}
def kvsOf (es : List (Nat × Addr)) : List (Key × V) := es.map fun e => (Sum.inl (e.1 : Int), V.ref e.2)
theorem kvs_some {es : List (Nat × Addr)} {l : Nat} {v : V} (h : valV (kvsOf es) (Sum.inl (l : Int)) = some v) : ∃ e ∈ es, e.1 = l ∧ v = .ref e.2 := by
  unfold valV at h
  cases hf : (kvsOf es).find? (fun kv => decide (kv.1 = Sum.inl (l : Int))) with
  | none => rw [hf] at h; cases h
  | some kv =>
    rw [hf] at h
    have hk := of_decide_eq_true (List.find?_some (p := fun kv : Key × V => decide (kv.1 = Sum.inl (l : Int))) hf)
    obtain ⟨e, he, rfl⟩ := List.mem_map.mp (List.mem_of_find?_eq_some hf)
    have hk' : (Sum.inl (e.1 : Int) : Key) = Sum.inl (l : Int) := hk
    have := Sum.inl.inj hk'
    exact ⟨e, he, by omega, (Option.some.inj h).symm⟩
theorem kvs_none {es : List (Nat × Addr)} {l : Nat} (h : valV (kvsOf es) (Sum.inl (l : Int)) = none) : l ∉ es.map (·.1) := by
  intro hm
  obtain ⟨e, he, rfl⟩ := List.mem_map.mp hm
  unfold valV at h
  have h' := Option.map_eq_none_iff.mp h
  exact List.find?_eq_none.mp h' (Sum.inl (e.1 : Int), V.ref e.2) (List.mem_map.mpr ⟨e, he, rfl⟩) (by simp)
theorem fst_inj {α β : Type} : ∀ {es : List (α × β)}, (es.map (·.1)).Nodup → ∀ {e f : α × β}, e ∈ es → f ∈ es → e.1 = f.1 → e = f
  | [], _, e, f, h, _, _ => by simp at h
  | x :: es, nd, e, f, he, hf, h => by
    obtain ⟨n1, n2⟩ := List.nodup_cons.mp nd
    rcases List.mem_cons.mp he with z | z
    · rcases List.mem_cons.mp hf with y | y
      · rw [z, y]
      · exact absurd (List.mem_map.mpr ⟨f, y, by rw [← h, z]⟩) n1
    · rcases List.mem_cons.mp hf with y | y
      · exact absurd (List.mem_map.mpr ⟨e, z, by rw [h, y]⟩) n1
      · exact fst_inj n2 z y h
theorem snd_inj {α β : Type} : ∀ {es : List (α × β)}, (es.map (·.2)).Nodup → ∀ {e f : α × β}, e ∈ es → f ∈ es → e.2 = f.2 → e = f
  | [], _, e, f, h, _, _ => by simp at h
  | x :: es, nd, e, f, he, hf, h => by
    obtain ⟨n1, n2⟩ := List.nodup_cons.mp nd
    rcases List.mem_cons.mp he with z | z
    · rcases List.mem_cons.mp hf with y | y
      · rw [z, y]
      · exact absurd (List.mem_map.mpr ⟨f, y, by rw [← h, z]⟩) n1
    · rcases List.mem_cons.mp hf with y | y
      · exact absurd (List.mem_map.mpr ⟨e, z, by rw [h, y]⟩) n1
      · exact snd_inj n2 z y h
theorem kvs_at {es : List (Nat × Addr)} (nd : (es.map (·.1)).Nodup) {e : Nat × Addr} (he : e ∈ es) : valV (kvsOf es) (Sum.inl (e.1 : Int)) = some (.ref e.2) := by
  cases h : valV (kvsOf es) (Sum.inl (e.1 : Int)) with
  | none => exact absurd (List.mem_map.mpr ⟨e, he, rfl⟩) (kvs_none h)
  | some v =>
    obtain ⟨f, hf, h1, rfl⟩ := kvs_some h
    rw [fst_inj nd hf he h1]
theorem fil_pos {rs : List (List Int)} {r : List Int} {l : Nat} (h : r.length = l) : fil (rs ++ [r]) l = fil rs l ++ [r] := by
  unfold fil
  rw [List.filter_append, List.filter_cons_of_pos (by simpa using h), List.filter_nil]
theorem fil_neg {rs : List (List Int)} {r : List Int} {l : Nat} (h : r.length ≠ l) : fil (rs ++ [r]) l = fil rs l := by
  unfold fil
  rw [List.filter_append, List.filter_cons_of_neg (by simpa using h), List.filter_nil, List.append_nil]
theorem fil_none {rs : List (List Int)} {l : Nat} (h : ∀ r ∈ rs, r.length ≠ l) : fil rs l = [] := by
  unfold fil
  exact List.filter_eq_nil_iff.mpr fun r hr => by simpa using h r hr
structure ByLenR (H0 H : Hp) (d : Addr) (es : List (Nat × Addr)) (rs : List (List Int)) : Prop where
  nk : (es.map (·.1)).Nodup
  na : (es.map (·.2)).Nodup
  row : ∀ e ∈ es, ∃ cs : List Addr, H e.2 = some (.lst (cs.map V.ref)) ∧ RowsH H0 cs (fil rs e.1)
  key : ∀ k ∈ es.map (·.1), ∃ r ∈ rs, r.length = k
  all : ∀ r ∈ rs, r.length ∈ es.map (·.1)
  nd : ∀ e ∈ es, e.2 ≠ d
def spSortR : Sp := fun vs H Q _ => ∃ (a : Addr) (as : List Addr) (rs : List (List Int)), vs = [.ref a] ∧ H a = some (.lst (as.map V.ref)) ∧ RowsH H as rs ∧ rs.length ≤ 40 ∧
  ∀ (d : Addr) (es : List (Nat × Addr)) (H' : Hp), H d = none → Same H H' → H' d = some (.dK (kvsOf es)) → ByLenR H H' d es rs → es.length ≤ 40 → (∀ e ∈ es, H e.2 = none) → Q (.ref d) H'
theorem scSort : FnScope ["rings", "by_length", "ring"] ["rings"] (defScope s_sort_by_length) := ⟨rfl, rfl, rfl, by decide +kernel, rfl, by decide +kernel, by decide +kernel⟩
theorem ok_sortR {f : Addr} {fd : FuncData} (F : Fun K "sort_by_length" "sort_by_length" s_sort_by_length f fd) (B : Bl mg) : FnOk P w K mg base CX0 1 f fd ["rings"] spSortR := by
  refine F.ok scSort (fun vs H Q E h => ?_) (fun cdv A outer s H vs Q E hr h => ?_)
  · obtain ⟨a, as, rs, rfl, _⟩ := h
    rfl
  · obtain ⟨a, as, rs, rfl, ha, rows, lrs, q⟩ := h
    refine ⟨_, pss_cons (ps_set (i := 1) scSort.nd rfl (Or.inl rfl) pe_dnewK)
      (pss_cons (ps_for PassesOwn.never rfl (pi_list (pv 0)) (pg_name (i := 2) scSort.nd rfl (Or.inl rfl))
        (pss_one (ps_expr (pe_append (pe_setdef (pv 1) (pa_cons (pe_lenL B.len (pa_cons (pv 2) pa_nil)) (pa_cons (pe_lst pa_nil) pa_nil))) (pa_cons (pv 2) pa_nil)))))
      (pss_one (ps_ret (pv 1)))), ?_⟩
    refine fun d hd => ?_
    have s1 : Same H (upd H d (.dK [])) := Same.upd_new hd
    have h1d : (upd H d (.dK [])) d = some (.dK (kvsOf [])) := upd_same
    generalize (upd H d (.dK [])) = H1 at s1 h1d ⊢
    refine ⟨_, rfl, a, rfl, ⟨_, SqL.of (s1 a _ ha)⟩, for_list (K := K) (a := a) (xs := as.map V.ref) (fun i σ H2 => ∃ (es : List (Nat × Addr)) (v2 : Option V), σ = [some (.ref a), some (.ref d), v2] ∧ H2 d = some (.dK (kvsOf es)) ∧ ByLenR H H2 d es (rs.take i) ∧ es.length ≤ i ∧ (∀ e ∈ es, H e.2 = none) ∧ Same H H2)
      ⟨[], none, rfl, h1d, ⟨List.nodup_nil, List.nodup_nil, fun e h => by simp at h, fun k h => by simp at h, fun r h => by simp at h, fun e h => by simp at h⟩, Nat.le_refl _, fun e h => by simp at h, s1⟩ (fun i σ H2 _ ⟨_, _, _, _, _, _, _, s⟩ => SqL.of (s a _ ha)) ?_ ?_⟩
    · rintro i y σ H2 hi ⟨es, v2, rfl, h2d, bl, les, fr, s2⟩
      rw [List.getElem?_map] at hi
      cases hA : as[i]? with
      | none => rw [hA] at hi; cases hi
      | some b =>
        rw [hA] at hi
        cases hi
        have hil : i < as.length := (List.getElem?_eq_some_iff.mp hA).1
        have hri : rs[i]? = some (rs[i]'(by rw [← rows.1]; exact hil)) := List.getElem?_eq_getElem _
        generalize (rs[i]'(by rw [← rows.1]; exact hil)) = r at hri
        have hb0 := rows.2 i b r hA hri
        have hb := s2 b _ hb0
        have hi40 : i < 40 := by have := rows.1; omega
        have et : rs.take (i + 1) = rs.take i ++ [r] := take_succ_of hri
        refine ⟨_, rfl, .inr (.inr (.inl ⟨rfl, .inl ⟨_, h2d⟩⟩)), _, rfl, b, _, rfl, .inl (SqL.of hb), Nat.zero_le _, fun e he => ?_⟩
        rw [List.length_map]
        have nde : d ≠ e := ne_of_none h2d he
        have s23 : Same H2 (upd H2 e (.lst [])) := Same.upd_new he
        have h3e : (upd H2 e (.lst [])) e = some (.lst []) := upd_same
        have kp : ∀ c, c ≠ e → (upd H2 e (.lst [])) c = H2 c := fun c hc => upd_ne hc
        generalize (upd H2 e (.lst [])) = H3 at s23 h3e kp ⊢
        refine ⟨d, kvsOf es, Sum.inl (r.length : Int), .ref e, rfl, rfl, s23 d _ h2d, ?_, fun v hv => ?_, fun hn => ?_⟩
        · unfold kvsOf
          rw [List.length_map, sizeLine_eq]; omega
        · obtain ⟨e0, he0, hl0, rfl⟩ := kvs_some hv
          obtain ⟨cs, hcs, rcs⟩ := bl.row e0 he0
          have h3x := s23 e0.2 _ hcs
          have lx : (cs.map V.ref).length ≤ 1000 := by
            rw [List.length_map, rcs.1]
            have := List.length_filter_le (fun r => decide (r.length = e0.1)) (rs.take i)
            rw [List.length_take] at this
            unfold fil
            omega
          refine ⟨.inl ⟨rfl, _, SqL.of h3x⟩, _, rfl, e0.2, _, _, rfl, rfl, h3x, small1000 lx, ?_⟩
          refine ⟨es, _, rfl, by rw [upd_ne (bl.nd e0 he0).symm]; exact s23 d _ h2d, ⟨bl.nk, bl.na, fun e1 he1 => ?_, fun k hk => ?_, fun r' hr' => ?_, bl.nd⟩, by omega, fr, fun c o hc => by rw [upd_ne (ne_of_none hc (fr e0 he0))]; exact s23 c o (s2 c o hc)⟩
          · by_cases h12 : e1.2 = e0.2
            · have : e1 = e0 := snd_inj bl.na he1 he0 h12
              subst this
              refine ⟨cs ++ [b], by rw [upd_same, List.map_append]; rfl, ?_⟩
              rw [et, fil_pos hl0.symm]
              exact rows_snoc rcs hb0
            · obtain ⟨ys, hys, rys⟩ := bl.row e1 he1
              refine ⟨ys, by rw [upd_ne h12]; exact s23 _ _ hys, ?_⟩
              rw [et, fil_neg (fun z => h12 (by rw [fst_inj bl.nk he1 he0 (by omega)]))]
              exact rys
          · obtain ⟨r', hr', e⟩ := bl.key k hk
            exact ⟨r', by rw [et]; exact List.mem_append_left _ hr', e⟩
          · rw [et] at hr'
            rcases List.mem_append.mp hr' with z | z
            · exact bl.all r' z
            · have : r' = r := by simpa using z
              rw [this]
              exact List.mem_map.mpr ⟨e0, he0, hl0⟩
        · have hnk := kvs_none hn
          have ekv : kvsOf es ++ [(Sum.inl (r.length : Int), V.ref e)] = kvsOf (es ++ [(r.length, e)]) := by unfold kvsOf; rw [List.map_append]; rfl
          rw [ekv]
          have h4e : (upd H3 d (.dK (kvsOf (es ++ [(r.length, e)])))) e = some (.lst []) := by rw [upd_ne nde.symm]; exact h3e
          refine ⟨.inl ⟨rfl, _, SqL.of h4e⟩, _, rfl, e, _, _, rfl, rfl, h4e, small1000 (Nat.zero_le _), ?_⟩
          have hne : ∀ e1 ∈ es, e1.2 ≠ e := fun e1 he1 z => by
            obtain ⟨ys, hys, _⟩ := bl.row e1 he1
            rw [z, he] at hys; cases hys
          refine ⟨es ++ [(r.length, e)], _, rfl, by rw [upd_ne nde, upd_same], ⟨?_, ?_, fun e1 he1 => ?_, fun k hk => ?_, fun r' hr' => ?_, fun e1 he1 => ?_⟩, by rw [List.length_append]; show es.length + 1 ≤ i + 1; omega, fun e1 he1 => ?_, fun c o hc => ?_⟩
          · rw [List.map_append, List.nodup_append]
            refine ⟨bl.nk, by simp, fun x hx y hy => ?_⟩
            have : y = r.length := by simpa using hy
            rw [this]
            exact fun z => hnk (by rw [← z]; exact hx)
          · rw [List.map_append, List.nodup_append]
            refine ⟨bl.na, by simp, fun x hx y hy => ?_⟩
            have : y = e := by simpa using hy
            rw [this]
            obtain ⟨e1, he1, rfl⟩ := List.mem_map.mp hx
            exact hne e1 he1
          · rcases List.mem_append.mp he1 with z | z
            · obtain ⟨ys, hys, rys⟩ := bl.row e1 z
              refine ⟨ys, by rw [upd_ne (hne e1 z), upd_ne (bl.nd e1 z), kp _ (hne e1 z)]; exact hys, ?_⟩
              rw [et, fil_neg (fun y => hnk (by rw [y]; exact List.mem_map.mpr ⟨e1, z, rfl⟩))]
              exact rys
            · have : e1 = (r.length, e) := by simpa using z
              subst this
              refine ⟨[b], upd_same, ?_⟩
              show RowsH H [b] (fil (rs.take (i + 1)) r.length)
              rw [et, fil_pos rfl, fil_none (fun r' hr' y => hnk (by rw [← y]; exact bl.all r' hr'))]
              exact rows_snoc (as := []) (rs := []) ⟨rfl, fun j a r h => by simp at h⟩ hb0
          · rw [List.map_append] at hk
            rcases List.mem_append.mp hk with z | z
            · obtain ⟨r', hr', e⟩ := bl.key k z
              exact ⟨r', by rw [et]; exact List.mem_append_left _ hr', e⟩
            · have : k = r.length := by simpa using z
              exact ⟨r, by rw [et]; exact List.mem_append_right _ (by simp), this.symm⟩
          · rw [et] at hr'
            rw [List.map_append]
            rcases List.mem_append.mp hr' with z | z
            · exact List.mem_append_left _ (bl.all r' z)
            · have : r' = r := by simpa using z
              rw [this]
              exact List.mem_append_right _ (by simp)
          · rcases List.mem_append.mp he1 with z | z
            · exact bl.nd e1 z
            · have : e1 = (r.length, e) := by simpa using z
              subst this
              exact nde.symm
          · rcases List.mem_append.mp he1 with z | z
            · exact fr e1 z
            · have : e1 = (r.length, e) := by simpa using z
              subst this
              exact s2.free he
          · have h2c := s2 c o hc
            rw [upd_ne (ne_of_none h2c he), upd_ne (ne_of_none hc hd), kp _ (ne_of_none h2c he)]
            exact h2c
    · rintro σ H2 ⟨es, v2, rfl, h2d, bl, les, fr, s2⟩
      rw [List.length_map, rows.1, List.take_length] at bl
      rw [List.length_map, rows.1] at les
      exact ⟨_, rfl, q d es H2 hd s2 h2d bl (by omega) fr⟩
end
end My
namespace My
open PySem L2 Mth
section
variable {P : Program} {w : World} {K : PySem.W.Frag} {mg : Str → Option Value} {base : Heap}
def JL (m : Nat) (rs : List (List Int)) : List (List Int) → List (List (List Int)) → Prop
  | [], [] => True
  | J :: qs, Rs :: Rss => JO m rs J Rs ∧ JL m rs qs Rss
  | _, _ => False
theorem jl_snoc {m : Nat} {rs : List (List Int)} : ∀ {qs : List (List Int)} {Rss : List (List (List Int))} {J : List Int} {Rs : List (List Int)}, JL m rs qs Rss → JO m rs J Rs → JL m rs (qs ++ [J]) (Rss ++ [Rs])
  | [], [], _, _, _, h => ⟨h, trivial⟩
  | [], _ :: _, _, _, h, _ => h.elim
  | _ :: _, [], _, _, h, _ => h.elim
  | _ :: _, _ :: _, _, _, ⟨a, b⟩, h => ⟨a, jl_snoc b h⟩
theorem jl_perm {m : Nat} {rs : List (List Int)} : ∀ {qs : List (List Int)} {Rss : List (List (List Int))}, JL m rs qs Rss → qs.flatten.Perm Rss.flatten.flatten
  | [], [], _ => List.Perm.refl _
  | [], _ :: _, h => h.elim
  | _ :: _, [], h => h.elim
  | J :: qs, Rs :: Rss, ⟨⟨l, k, l0, _, c, _, _, hj, _⟩, b⟩ => by
    rw [List.flatten_cons, List.flatten_cons, List.flatten_append]
    exact List.Perm.append (hj.perm l0 c) (jl_perm b)
theorem jl_at {m : Nat} {rs : List (List Int)} : ∀ {qs : List (List Int)} {Rss : List (List (List Int))}, JL m rs qs Rss → ∀ {Rs : List (List Int)}, Rs ∈ Rss → ∃ J ∈ qs, JO m rs J Rs
  | [], [], _, _, h => by simp at h
  | [], _ :: _, h, _, _ => h.elim
  | _ :: _, [], h, _, _ => h.elim
  | J :: qs, Rs :: Rss, ⟨a, b⟩, R, h => by
    rcases List.mem_cons.mp h with e | e
    · rw [e]; exact ⟨J, List.mem_cons_self, a⟩
    · obtain ⟨J', h1, h2⟩ := jl_at b e
      exact ⟨J', List.mem_cons_of_mem _ h1, h2⟩
theorem jl_back {m : Nat} {rs : List (List Int)} : ∀ {qs : List (List Int)} {Rss : List (List (List Int))}, JL m rs qs Rss → ∀ {J : List Int}, J ∈ qs → ∃ Rs ∈ Rss, JO m rs J Rs
  | [], [], _, _, h => by simp at h
  | [], _ :: _, h, _, _ => h.elim
  | _ :: _, [], h, _, _ => h.elim
  | J :: qs, Rs :: Rss, ⟨a, b⟩, R, h => by
    rcases List.mem_cons.mp h with e | e
    · rw [e]; exact ⟨Rs, List.mem_cons_self, a⟩
    · obtain ⟨J', h1, h2⟩ := jl_back b e
      exact ⟨J', List.mem_cons_of_mem _ h1, h2⟩
theorem jo_ne {m : Nat} {rs Rs : List (List Int)} {J : List Int} (h : JO m rs J Rs) : J ≠ [] := by
  obtain ⟨l, k, l0, _, _, _, d1, hj, _⟩ := h
  intro e
  have := hj.len
  rw [e] at this
  have : 0 < Rs.length * l := Nat.mul_pos (by omega) l0
  simp only [List.length_nil] at *
  omega
theorem part_perm : ∀ {ks : List Nat} {rs : List (List Int)}, ks.Nodup → (∀ r ∈ rs, r.length ∈ ks) → ((ks.map (fil rs)).flatten).Perm rs
  | [], rs, _, h => by
    cases rs with
    | nil => exact List.Perm.refl _
    | cons r rs => exact absurd (h r List.mem_cons_self) (by simp)
  | k :: ks, rs, nd, h => by
    obtain ⟨n1, n2⟩ := List.nodup_cons.mp nd
    have e : ks.map (fil rs) = ks.map (fil (rs.filter fun r => !decide (r.length = k))) := List.map_congr_left fun l hl => by
      unfold fil
      rw [List.filter_filter]
      refine List.filter_congr fun r hr => ?_
      by_cases z : r.length = l
      · have : r.length ≠ k := fun y => n1 (by rw [← y, z]; exact hl)
        simp [z, this] at *
        exact fun y => this (by rw [← y])
      · simp [z]
    rw [List.map_cons, List.flatten_cons, e]
    have ih := part_perm (ks := ks) (rs := rs.filter fun r => !decide (r.length = k)) n2 fun r hr => by
      obtain ⟨h1, h2⟩ := List.mem_filter.mp hr
      have := h r h1
      rcases List.mem_cons.mp this with y | y
      · simp [y] at h2
      · exact y
    exact (List.Perm.append_left _ ih).trans (List.filter_append_perm (fun r : List Int => decide (r.length = k)) rs)
theorem rows_slice {H : Hp} {as : List Addr} {rs : List (List Int)} (h : RowsH H as rs) (b n : Nat) : RowsH H ((as.drop b).take n) ((rs.drop b).take n) := by
  refine ⟨by rw [List.length_take, List.length_take, List.length_drop, List.length_drop, h.1], fun j a r h1 h2 => ?_⟩
  by_cases hj : j < n
  · rw [List.getElem?_take_of_lt hj, List.getElem?_drop] at h1 h2
    exact h.2 _ a r h1 h2
  · have := (List.getElem?_eq_some_iff.mp h1).1
    rw [List.length_take] at this
    omega
theorem flat_filter_le (g : List Int → Bool) : ∀ rs : List (List Int), (rs.filter g).flatten.length ≤ rs.flatten.length
  | [] => Nat.le_refl _
  | r :: rs => by
    have ih := flat_filter_le g rs
    rw [List.filter_cons]
    split
    · rw [List.flatten_cons, List.flatten_cons, List.length_append, List.length_append]; omega
    · rw [List.flatten_cons, List.length_append]; omega
theorem nodup_mem : ∀ {qs : List (List Int)} {J : List Int}, qs.flatten.Nodup → J ∈ qs → J.Nodup
  | [], _, _, h => by simp at h
  | q :: qs, J, nd, h => by
    rw [List.flatten_cons, List.nodup_append] at nd
    rcases List.mem_cons.mp h with e | e
    · rw [e]; exact nd.1
    · exact nodup_mem nd.2.1 e
def spRoot : Sp := fun vs H Q _ => ∃ (a : Addr) (p : List Int) (m : Nat), vs = [.ref a, .int (m : Int)] ∧ TurnAt H a p ∧ 1 ≤ m ∧ m ≤ 1000000000000000000000000000000 ∧
  (∀ (t o : Addr) (r : List Int) (H' : Hp), Same H H' → H' t = some (.tup [.str "root", .ref o]) → H o = none → H' o = some (.lst (r.map V.int)) → IsT r → r.length = p.length → PowIs r (m : Int) p → RootOf p m r → Q (.ref t) H') ∧
  (∀ (t : Addr) (l c d : Nat) (H' : Hp), Same H H' → H' t = some (.tup [.str "bars", .int (l : Int), .int (c : Int), .int (d : Int)]) → c = cntL (ringsF p p.length) l → 1 ≤ c → IsLR l m d → ¬ d ∣ c → (∀ r ∈ ringsF p p.length, r.length < l → ∀ e, IsLR r.length m e → e ∣ cntL (ringsF p p.length) r.length) → Q (.ref t) H')
theorem scRoot : FnScope ["p", "m", "by_length", "joined", "length", "rings", "many", "least", "begin"] ["p", "m"] (defScope s_root_told) := ⟨rfl, rfl, rfl, by decide +kernel, rfl, by decide +kernel, by decide +kernel⟩
theorem ok_root {f : Addr} {fd : FuncData} (F : Fun K "root_told" "root_told" s_root_told f fd) (B : Bl mg) (cR : Cal P w K mg base "rounds_of" 4 ["p"] spRings) (cS : Cal P w K mg base "sort_by_length" 1 ["rings"] spSortR) (c1 : Cal P w K mg base "must_be_from_one" 2 ["number"] spOne)
    (cLR : Cal P w K mg base "least_right" 3 ["l", "m"] spLR) (cJ : Cal P w K mg base "join_rings" 1 ["rings", "m"] spJoin) (cF : Cal P w K mg base "from_rounds" 3 ["rounds"] spFrom) : FnOk P w K mg base CX0 5 f fd ["p", "m"] spRoot := by
  refine F.ok scRoot (fun vs H Q E h => ?_) (fun cdv A outer s H vs Q E hr h => ?_)
  · obtain ⟨a, p, m, rfl, _⟩ := h
    rfl
  · obtain ⟨a, p, m, rfl, ⟨ha, tp, lp⟩, m1, m2, q1, q2⟩ := h
    have hr1 : Room 1 _ := hr.mono (by decide)
    have hr2 : Room 2 _ := hr.mono (by decide)
    have hr3 : Room 3 _ := hr.mono (by decide)
    have hu := hu_of hr
    refine ⟨_, pss_cons (ps_set (i := 2) scRoot.nd rfl (Or.inl rfl) (pe_cal cS hr1 (pa_cons (pe_cal cR hr (pa_cons (pv 0) pa_nil)) pa_nil)))
      (pss_cons (ps_expr (pe_cal c1 hr2 (pa_cons (pv 1) pa_nil)))
      (pss_cons (ps_set (i := 3) scRoot.nd rfl (Or.inl rfl) (pe_lst pa_nil))
      (pss_cons (ps_for PassesOwn.never rfl (pi_list (pe_sortedD rfl B.sorted (pa_cons (pv 2) pa_nil))) (pg_name (i := 4) scRoot.nd rfl (Or.inl rfl))
        (pss_cons (ps_set (i := 5) scRoot.nd rfl (Or.inl rfl) (pe_dget hu (pv 2) (pv 4) (fun _ _ => rfl)))
        (pss_cons (ps_set (i := 6) scRoot.nd rfl (Or.inl rfl) (pe_lenL B.len (pa_cons (pv 5) pa_nil)))
        (pss_cons (ps_set (i := 7) scRoot.nd rfl (Or.inl rfl) (pe_cal cLR hr3 (pa_cons (pv 4) (pa_cons (pv 1) pa_nil))))
        (pss_cons (ps_if (pt_cmpR op_ne (pe_op op_mod (pv 6) (pv 7)) pe_int (nomark _)) (pss_one (ps_ret (pe_tup (pa_cons pe_str (pa_cons (pv 4) (pa_cons (pv 6) (pa_cons (pv 7) pa_nil))))))) pss_nil)
        (pss_one (ps_for PassesOwn.never rfl (pi_range3 (by rfl) B.range (pa_cons pe_int (pa_cons (pv 6) (pa_cons (pv 7) pa_nil)))) (pg_name (i := 8) scRoot.nd rfl (Or.inl rfl))
          (pss_one (ps_expr (pe_append (pv 3) (pa_cons (pe_cal cJ hr1 (pa_cons (pe_slice sl_list (pv 5) (po_some (pv 8)) (po_some (pe_op op_add (pv 8) (pv 7)))) (pa_cons (pv 1) pa_nil))) pa_nil)))))))))))
      (pss_one (ps_ret (pe_tup (pa_cons pe_str (pa_cons (pe_cal cF hr3 (pa_cons (pv 3) pa_nil)) pa_nil)))))))), ?_⟩
    refine ⟨_, rfl, a, p, rfl, ⟨ha, tp, lp⟩, fun ro as rs H1 hro s1 h1ro rows up fa nda nra => ?_⟩
    have cl := up_count up
    have fl := up_len tp up
    have ers : rs = ringsF p p.length := up.eq
    refine ⟨ro, as, rs, rfl, h1ro, rows, by omega, fun d es H2 hd s12 h2d bl les fre => ?_⟩
    have s02 := s1.trans s12
    refine ⟨_, rfl, (m : Int), rfl, by omega, ?_⟩
    refine ⟨Nat.zero_le _, fun jo hjo => ?_⟩
    have ndj : d ≠ jo := ne_of_none h2d hjo
    have s23 : Same H2 (upd H2 jo (.lst [])) := Same.upd_new hjo
    have h3j : (upd H2 jo (.lst [])) jo = some (.lst []) := upd_same
    generalize (upd H2 jo (.lst [])) = H3 at s23 h3j ⊢
    have h3d := s23 d _ h2d
    have hkeys : (kvsOf es).map (·.1) = (es.map fun e => (e.1 : Int)).map Sum.inl := by unfold kvsOf; rw [List.map_map, List.map_map]; rfl
    refine ⟨_, rfl, d, kvsOf es, es.map fun e => (e.1 : Int), rfl, h3d, hkeys, by rw [List.length_map]; omega, fun ms so pm srt hso => ?_⟩
    have s34 : Same H3 (upd H3 so (.lst (ms.map V.int))) := Same.upd_new hso
    have h4s : (upd H3 so (.lst (ms.map V.int))) so = some (.lst (ms.map V.int)) := upd_same
    generalize (upd H3 so (.lst (ms.map V.int))) = H4 at s34 h4s ⊢
    have h4j := s34 jo _ h3j
    have s24 := s23.trans s34
    have s04 := s02.trans s24
    have hjo0 : H jo = none := s02.free hjo
    have mem_ms : ∀ z ∈ ms, ∃ e ∈ es, z = (e.1 : Int) := fun z hz => by
      obtain ⟨e, he, rfl⟩ := List.mem_map.mp (pm.mem_iff.mp hz)
      exact ⟨e, he, rfl⟩
    have in_ms : ∀ r ∈ rs, ((r.length : Nat) : Int) ∈ ms := fun r hr' => by
      obtain ⟨e, he, hl⟩ := List.mem_map.mp (bl.all r hr')
      exact pm.mem_iff.mpr (List.mem_map.mpr ⟨e, he, by rw [hl]⟩)
    have nso : so ≠ jo := fun z => by rw [z, h3j] at hso; cases hso
    refine ⟨so, rfl, ⟨_, SqL.of h4s⟩, for_list (K := K) (a := so) (xs := ms.map V.int) (fun i σ H5 => ∃ (js : List Addr) (qs : List (List Int)) (Rss : List (List (List Int))) (v4 v5 v6 v7 v8 : Option V), σ = [some (.ref a), some (.int (m : Int)), some (.ref d), some (.ref jo), v4, v5, v6, v7, v8] ∧ H5 jo = some (.lst (js.map V.ref)) ∧ RowsH H5 js qs ∧ jo ∉ js ∧ js.length ≤ 40 * i ∧ JL m rs qs Rss ∧ Rss.flatten = ((ms.take i).map fun z => fil rs z.toNat).flatten ∧ (∀ z ∈ ms.take i, ∀ e, IsLR z.toNat m e → e ∣ cntL rs z.toNat) ∧ (∀ c o, H4 c = some o → c ≠ jo → H5 c = some o))
      ⟨[], [], [], none, none, none, none, none, rfl, h4j, ⟨rfl, fun j a r h => by simp at h⟩, by simp, Nat.zero_le _, trivial, rfl, fun z hz => by simp at hz, fun c o h _ => h⟩ (fun i σ H5 _ ⟨_, _, _, _, _, _, _, _, _, _, _, _, _, _, _, _, k⟩ => SqL.of (k so _ h4s nso)) ?_ ?_⟩
    · rintro i y σ H5 hi ⟨js, qs, Rss, v4, v5, v6, v7, v8, rfl, h5j, rowsJ, njj, ljs, jl, hfl, hdv, k5⟩
      obtain ⟨z, hz, rfl⟩ := getElem_int hi
      obtain ⟨e, he, rfl⟩ := mem_ms z (List.mem_of_getElem? hz)
      have hil : i < ms.length := (List.getElem?_eq_some_iff.mp hz).1
      have lms : ms.length = es.length := by rw [pm.length_eq, List.length_map]
      obtain ⟨cs, hcs, rcs⟩ := bl.row e he
      have h5d := k5 d _ (s34 d _ h3d) ndj
      have nej : e.2 ≠ jo := ne_of_none hcs hjo
      have h5c := k5 e.2 _ (s24 e.2 _ hcs) nej
      obtain ⟨r0, hr0, lr0⟩ := bl.key e.1 (List.mem_map.mpr ⟨e, he, rfl⟩)
      have le : 1 ≤ e.1 ∧ e.1 ≤ 40 := by
        obtain ⟨y, L, hy, pr, er, _⟩ := up.ring r0 hr0
        have b := ring_bound tp hy (m := L) fun i i0 i1 => pr.least i i0 i1
        have := pr.pos
        rw [er, ringL_len] at lr0
        omega
      have lcs : cs.length = cntL rs e.1 := by rw [rcs.1, fil_cnt]
      have hfil : ∀ r ∈ fil rs e.1, r.length = e.1 ∧ r ∈ rs := fun r hr' => by
        obtain ⟨h1, h2⟩ := List.mem_filter.mp hr'
        exact ⟨of_decide_eq_true h2, h1⟩
      have c1' : 1 ≤ cntL rs e.1 := by
        rw [← fil_cnt]
        exact List.length_pos_of_mem (List.mem_filter.mpr ⟨hr0, decide_eq_true lr0⟩)
      have ccl : cntL rs e.1 * e.1 ≤ 40 := by
        have h1 := (flat_get (l := e.1) (by omega) (Rs := fil rs e.1) fun r hr' => (hfil r hr').1).1
        rw [fil_cnt] at h1
        have h2 : (fil rs e.1).flatten.length ≤ rs.flatten.length := flat_filter_le _ rs
        omega
      have c40 : cntL rs e.1 ≤ 40 := Nat.le_trans (Nat.le_mul_of_pos_right _ (by omega)) ccl
      refine ⟨_, rfl, _, rfl, d, .ref e.2, rfl, .inl ⟨kvsOf es, Sum.inl (e.1 : Int), .inl h5d, rfl, (kvs_at bl.nk he).symm⟩, ?_⟩
      refine ⟨_, rfl, e.2, _, rfl, .inl (SqL.of h5c), ?_⟩
      rw [List.length_map, lcs]
      obtain ⟨c, hc⟩ : ∃ c, c = cntL rs e.1 := ⟨_, rfl⟩
      rw [← hc] at c1' ccl c40 lcs ⊢
      refine ⟨_, rfl, _, rfl, e.1, m, rfl, by omega, by omega, by omega, m2, fun dd hlr => ?_⟩
      have ddp : 0 < dd := hlr.pos (by omega)
      refine ⟨_, rfl, _, rfl, _, _, rfl, rfl, (by show (0 : Int) < (dd : Int); omega), rfl, _, rfl, ?_⟩
      by_cases hdvd : dd ∣ c
      · have e0 : ((c : Int) % (dd : Int)) = 0 := by
          rw [← Int.natCast_emod, Nat.mod_eq_zero_of_dvd hdvd]; rfl
        refine iteNS (congrArg V.int e0) ?_
        obtain ⟨u, hu'⟩ := hdvd
        have u1 : 1 ≤ u := by
          rcases Nat.eq_zero_or_pos u with y | y
          · rw [y, Nat.mul_zero] at hu'; omega
          · exact y
        have ddc : dd ≤ c := Nat.le_of_dvd (by omega) ⟨u, hu'⟩
        have uc : u ≤ c := Nat.le_of_dvd (by omega) ⟨dd, by rw [hu', Nat.mul_comm]⟩
        have en : (c - 1) / dd + 1 = u := by
          have : c - 1 = (u - 1) * dd + (dd - 1) := by
            have : u * dd = (u - 1) * dd + dd := by rw [← Nat.succ_mul]; congr 1; omega
            rw [hu', Nat.mul_comm]; omega
          rw [this, Nat.mul_comm, Nat.mul_add_div ddp, Nat.div_eq_of_lt (by omega)]; omega
        obtain ⟨k, hk⟩ := hlr.parts
        have cop : Nat.gcd e.1 k = 1 := by
          have := hlr.rest
          rw [hk, Nat.mul_div_cancel_left k ddp] at this
          exact this
        refine ⟨_, rfl, _, rfl, c, dd, rfl, by omega, by omega, by omega, by omega, ?_⟩
        rw [en]
        refine for_rangeS (lo := 0) (st := (dd : Int)) (n := u) (fun j σ H6 => ∃ (js' : List Addr) (qs' : List (List Int)) (Rss' : List (List (List Int))) (v8 : Option V), σ = [some (.ref a), some (.int (m : Int)), some (.ref d), some (.ref jo), some (.int (e.1 : Int)), some (.ref e.2), some (.int (c : Int)), some (.int (dd : Int)), v8] ∧ H6 jo = some (.lst (js'.map V.ref)) ∧ RowsH H6 js' qs' ∧ jo ∉ js' ∧ js'.length = js.length + j ∧ JL m rs qs' Rss' ∧ Rss'.flatten = Rss.flatten ++ (fil rs e.1).take (j * dd) ∧ (∀ c o, H4 c = some o → c ≠ jo → H6 c = some o))
          ⟨js, qs, Rss, v8, rfl, h5j, rowsJ, njj, rfl, jl, by rw [Nat.zero_mul, List.take_zero, List.append_nil], k5⟩ ?_ ?_
        · rintro j σ H6 hj ⟨js', qs', Rss', v8, rfl, h6j, rowsJ', njj', ljs', jl', hfl', k6⟩
          have h6c := k6 e.2 _ (s24 e.2 _ hcs) nej
          have jle : j * dd + dd ≤ c := by
            calc j * dd + dd = (j + 1) * dd := by rw [Nat.succ_mul]
              _ ≤ u * dd := Nat.mul_le_mul_right dd hj
              _ = c := by rw [hu', Nat.mul_comm]
          refine ⟨_, rfl, .inl ⟨rfl, _, SqL.of h6j⟩, _, rfl, _, rfl, _, rfl, _, rfl, _, rfl, _, _, rfl, rfl, _, rfl, e.2, _, rfl, SqL.of h6c, fun sl hsl => ?_⟩
          have ecut : cutV (cs.map V.ref) (some ((0 : Int) + (j : Int) * (dd : Int))) (some ((0 : Int) + (j : Int) * (dd : Int) + (dd : Int))) = ((cs.drop (j * dd)).take dd).map V.ref := by
            have a1 : (0 : Int) + (j : Int) * (dd : Int) = ((j * dd : Nat) : Int) := by rw [Int.zero_add, Int.natCast_mul]
            have a2 : ((j * dd : Nat) : Int) + (dd : Int) = ((j * dd + dd : Nat) : Int) := by omega
            rw [a1, a2, cut_mid _ _ _ (by rw [List.length_map, lcs]; omega), List.length_map, lcs, List.map_take, List.map_drop]
            congr 1
            omega
          dsimp only
          rw [ecut]
          have s67 : Same H6 (upd H6 sl (.lst (((cs.drop (j * dd)).take dd).map V.ref))) := Same.upd_new hsl
          have h7s : (upd H6 sl (.lst (((cs.drop (j * dd)).take dd).map V.ref))) sl = some (.lst (((cs.drop (j * dd)).take dd).map V.ref)) := upd_same
          generalize (upd H6 sl (.lst (((cs.drop (j * dd)).take dd).map V.ref))) = H7 at s67 h7s ⊢
          have s17 : ∀ c o, H1 c = some o → H7 c = some o := fun c o h1 => s67 c o (k6 c o (s24 c o (s12 c o h1)) (ne_of_none (s12 c o h1) hjo))
          have rB : RowsH H7 ((cs.drop (j * dd)).take dd) (((fil rs e.1).drop (j * dd)).take dd) := rows_slice (rows_keep rcs fun c _ o ho => s17 c o ho) _ _
          have lB : (((fil rs e.1).drop (j * dd)).take dd).length = dd := by
            rw [List.length_take, List.length_drop, fil_cnt, ← hc]; omega
          have mB : ∀ r ∈ ((fil rs e.1).drop (j * dd)).take dd, r ∈ fil rs e.1 := fun r hr' => List.mem_of_mem_drop (List.mem_of_mem_take hr')
          obtain ⟨Bk, hBk⟩ : ∃ Bk, Bk = ((fil rs e.1).drop (j * dd)).take dd := ⟨_, rfl⟩
          rw [← hBk] at rB lB mB
          refine ⟨_, rfl, sl, _, Bk, e.1, k, by rw [lB, ← hk]; rfl, h7s, rB, by omega, fun r hr' => (hfil r (mB r hr')).1, by omega, ?_, cop, fun o J H8 ho s78 h8o hji => ?_⟩
          · rw [lB]
            exact Nat.le_trans (Nat.mul_le_mul_right _ ddc) ccl
          have h8j := s78 jo _ (s67 jo _ h6j)
          have noj : o ≠ jo := fun z => by rw [z, s67 jo _ h6j] at ho; cases ho
          refine ⟨jo, _, _, rfl, rfl, h8j, (by rw [List.length_map, sizeLine_eq]; omega), ?_⟩
          have hJO : JO m rs J Bk := ⟨e.1, k, by omega, by rw [lB, ← hk], cop, fun r hr' => (hfil r (mB r hr')).1, by omega, hji, fun r hr' => (hfil r (mB r hr')).2, by rw [lB]; exact hlr, j, by rw [lB]; exact hBk⟩
          refine ⟨js' ++ [o], qs' ++ [J], Rss' ++ [Bk], _, rfl, by rw [upd_same, List.map_append]; rfl, ?_, ?_, by rw [List.length_append, ljs']; rfl, jl_snoc jl' hJO, ?_, fun c o' hco hcj => ?_⟩
          · refine rows_snoc (rows_keep rowsJ' fun c hcm o' hco => ?_) ?_
            · have : c ≠ jo := fun z => njj' (by rw [← z]; exact hcm)
              rw [upd_ne this]
              exact s78 c o' (s67 c o' hco)
            · rw [upd_ne noj]; exact h8o
          · intro hm'
            rcases List.mem_append.mp hm' with y | y
            · exact njj' y
            · have : jo = o := by simpa using y
              exact noj this.symm
          · rw [List.flatten_append, List.flatten_cons, List.flatten_nil, List.append_nil, hfl', hBk, List.append_assoc, Nat.succ_mul, List.take_add]
          · rw [upd_ne hcj]
            exact s78 c o' (s67 c o' (k6 c o' hco hcj))
        · rintro σ H6 ⟨js', qs', Rss', v8, rfl, h6j, rowsJ', njj', ljs', jl', hfl', k6⟩
          refine ⟨js', qs', Rss', _, _, _, _, _, rfl, h6j, rowsJ', njj', ?_, jl', ?_, fun z hz' e' he' => ?_, k6⟩
          · rw [ljs', Nat.mul_add]; omega
          · have efil : (fil rs e.1).take (u * dd) = fil rs e.1 := List.take_of_length_le (by rw [fil_cnt, ← hc, hu', Nat.mul_comm]; exact Nat.le_refl _)
            rw [hfl', hfl, take_succ_of hz, List.map_append, List.flatten_append, efil]
            show _ = _ ++ ([fil rs ((e.1 : Int)).toNat]).flatten
            rw [Int.toNat_natCast, List.flatten_cons, List.flatten_nil, List.append_nil]
          · rw [take_succ_of hz] at hz'
            rcases List.mem_append.mp hz' with y | y
            · exact hdv z y e' he'
            · have : z = (e.1 : Int) := by simpa using y
              subst this
              rw [Int.toNat_natCast] at he' ⊢
              rw [he'.uniq hlr, ← hc]
              exact ⟨u, hu'⟩
      · have e0 : ¬ V.int ((c : Int) % (dd : Int)) = V.int 0 := fun z => hdvd (Nat.dvd_of_mod_eq_zero (by have := V.int.inj z; rw [← Int.natCast_emod] at this; omega))
        rw [decide_eq_false e0]
        refine iteT ?_
        refine ⟨_, rfl, _, rfl, _, rfl, (by show 4 ≤ sizeLine; decide), fun t ht => ?_⟩
        refine q2 t e.1 c dd _ (fun b o hb => ?_) upd_same (by rw [hc, ers]) c1' hlr hdvd fun r hr' hlt e' he' => ?_
        · have := k5 b o (s04 b o hb) (ne_of_none hb hjo0)
          rw [upd_ne (ne_of_none this ht)]; exact this
        · rw [← ers] at hr' ⊢
          have hin := in_ms r hr'
          obtain ⟨jj, hjj⟩ := List.mem_iff_getElem?.mp hin
          have hjl := (List.getElem?_eq_some_iff.mp hjj).1
          have : jj < i := by
            rcases Nat.lt_or_ge jj i with y | y
            · exact y
            · exfalso
              have e1 := (List.getElem?_eq_some_iff.mp hjj).2
              have e2 := (List.getElem?_eq_some_iff.mp hz).2
              rcases Nat.lt_or_ge i jj with w | w
              · have := List.pairwise_iff_getElem.mp srt i jj hil hjl w
                rw [e1, e2] at this
                omega
              · have : jj = i := by omega
                subst this
                rw [e1] at e2
                omega
          have hm' : ((r.length : Nat) : Int) ∈ ms.take i := List.mem_of_getElem? (i := jj) (by rw [List.getElem?_take_of_lt this]; exact hjj)
          have := hdv _ hm' e' (by rw [Int.toNat_natCast]; exact he')
          rw [Int.toNat_natCast] at this
          exact this
    · rintro σ H5 ⟨js, qs, Rss, v4, v5, v6, v7, v8, rfl, h5j, rowsJ, njj, ljs, jl, hfl, hdv, k5⟩
      rw [List.length_map, List.take_length] at hfl
      have hfl2 : Rss.flatten = ((ms.map Int.toNat).map (fil rs)).flatten := by rw [hfl, List.map_map]; rfl
      have pk : (ms.map Int.toNat).Perm (es.map (·.1)) := by
        have := pm.map Int.toNat
        rw [List.map_map] at this
        exact this
      have pR : Rss.flatten.Perm rs := by
        rw [hfl2]
        refine part_perm (pk.nodup_iff.mpr bl.nk) fun r hr' => ?_
        exact pk.mem_iff.mpr (bl.all r hr')
      have pq : qs.flatten.Perm (upTo 0 p.length) := ((jl_perm jl).trans pR.flatten).trans (up_flat tp up)
      obtain ⟨tq, lq⟩ := isT_of_perm pq
      refine ⟨_, rfl, jo, js, qs, rfl, h5j, rowsJ, fun J hJ => ?_, tq, by omega, fun o r H6 ho s56 h6o lr on => ?_⟩
      · obtain ⟨Rs, _, hjo'⟩ := jl_back jl hJ
        exact jo_ne hjo'
      refine ⟨(by show 2 ≤ sizeLine; decide), fun t ht => ?_⟩
      have hq : ∀ J ∈ qs, RoundOf r J := fun J hJ => by
        obtain ⟨Rs, _, hjo'⟩ := jl_back jl hJ
        refine ⟨jo_ne hjo', nodup_mem tq.nd hJ, fun x hx => tq.lo x (List.mem_flatten.mpr ⟨J, hJ, hx⟩), on J hJ⟩
      have hx : ∀ x, In p x → ∃ J ∈ qs, InJoin p m J x := fun x hxi => by
        have hxf : x ∈ rs.flatten := (up_flat tp up).mem_iff.mpr (mem_upTo.mpr hxi)
        obtain ⟨r0, hr0, hxr⟩ := List.mem_flatten.mp hxf
        obtain ⟨Rs, hRs, hrR⟩ := List.mem_flatten.mp (pR.mem_iff.mpr hr0)
        obtain ⟨J, hJ, l, k, l0, hm, c, hr', d1, hj, _, _⟩ := jl_at jl hRs
        obtain ⟨y, L, hy, pr, er, _⟩ := up.ring r0 hr0
        have hL : L = l := by
          have := hr' r0 hrR
          rw [er, ringL_len] at this
          exact this
        subst hL
        obtain ⟨aa, haa⟩ := List.mem_iff_getElem?.mp hrR
        rw [er] at hxr
        obtain ⟨bb, hbb, rfl⟩ := mem_ringL.mp hxr
        exact ⟨J, hJ, L, k, Rs, aa, bb, y, l0, hm, c, hr', hj, (List.getElem?_eq_some_iff.mp haa).1, hbb, hy, pr, by rw [List.getD_eq_getElem?_getD, haa]; exact er, rfl⟩
      obtain ⟨tr, pw⟩ := root_is tp (by rw [lr, lq]) hq hx
      have hro : RootOf p m r := ⟨by rw [lr, lq], fun r0 hr0 => by
        rw [← ers] at hr0 ⊢
        obtain ⟨Rs, hRs, hrR⟩ := List.mem_flatten.mp (pR.mem_iff.mpr hr0)
        obtain ⟨J, hJ, jo'⟩ := jl_at jl hRs
        exact ⟨J, Rs, jo', hrR, hq J hJ⟩⟩
      have h05 : ∀ b o, H b = some o → H5 b = some o := fun b o hb => k5 b o (s04 b o hb) (ne_of_none hb hjo0)
      have ho0 : H o = none := by
        cases hh : H o with
        | none => rfl
        | some z => have := h05 o z hh; rw [ho] at this; cases this
      have nto : o ≠ t := ne_of_none h6o ht
      refine q1 t o r _ (fun b u hb => ?_) upd_same ho0 (by rw [upd_ne nto]; exact h6o) tr (by rw [lr, lq]) pw hro
      have := s56 b u (h05 b u hb)
      rw [upd_ne (ne_of_none this ht)]; exact this
end
end My
namespace My
open PySem L2 Mth
section
variable {P : Program} {w : World} {K : PySem.W.Frag} {mg : Str → Option Value} {base : Heap}
noncomputable def cntF (p : List Int) (l : Nat) : Nat := cntL (ringsF p p.length) l
def ToldIs (H : Hp) (t : Addr) (p : List Int) (m : Nat) : Prop :=
  (∃ (o : Addr) (r : List Int), H t = some (.tup [.str "root", .ref o]) ∧ H o = some (.lst (r.map V.int)) ∧ IsT r ∧ r.length = p.length ∧ PowIs r (m : Int) p ∧ RootOf p m r) ∨
  (∃ l d : Nat, H t = some (.tup [.str "bars", .int (l : Int), .int ((cntF p l : Nat) : Int), .int (d : Int)]) ∧ BarsAt (cntF p) m l d)
def spToldF : Sp := fun vs H Q _ => ∃ (a : Addr) (p : List Int) (m : Nat), vs = [.ref a, .int (m : Int)] ∧ TurnAt H a p ∧ 1 ≤ m ∧ m ≤ 1000000000000000000000000000000 ∧ ∀ (t : Addr) (H' : Hp), Same H H' → ToldIs H' t p m → (∀ x o, H' t = some (.tup [x, .ref o]) → H o = none) → Q (.ref t) H'
theorem toldF_of {k : Nat} (c : Cal P w K mg base "root_told" k ["p", "m"] spRoot) : Cal P w K mg base "root_told" k ["p", "m"] spToldF := by
  refine c.imp (fun vs H Q E h => ?_) (fun vs H Q E h => ?_)
  · obtain ⟨a, p, m, rfl, ta, m1, m2, q⟩ := h
    refine ⟨a, p, m, rfl, ta, m1, m2, fun t o r H' s ht ho0 ho tr lr pw ro => q t H' s (.inl ⟨o, r, ht, ho, tr, lr, pw, ro⟩) (fun x o' h' => ?_), fun t l c d H' s ht hc c1 lr nd less => q t H' s (.inr ⟨l, d, by rw [ht, hc]; rfl, ⟨by rw [hc] at c1; exact c1, lr, by rw [hc] at nd; exact nd, fun k k1 kl e he => ?_⟩⟩) (fun x o' h' => ?_)⟩
    · rw [ht] at h'
      injection h' with h'
      injection h' with h'
      injection h' with _ h'
      injection h' with h' _
      injection h' with h'
      rw [← h']; exact ho0
    · obtain ⟨r0, hr0, e0⟩ := cnt_pos (rs := ringsF p p.length) (l := k) (by unfold cntF at k1; omega)
      have := less r0 hr0 (by omega) e (by rw [e0]; exact he)
      rw [e0] at this
      exact this
    · rw [ht] at h'
      injection h' with h'
      injection h' with h'
      have := congrArg List.length h'
      simp at this
  · obtain ⟨a, p, m, rfl, _⟩ := h
    rfl
end
end My
namespace My
open PySem L2 Mth
noncomputable def persL (p : List Int) : List Int := (List.range p.length).map fun (i : Nat) => (perOf p (i : Int) : Int)
noncomputable def pastL (p : List Int) (l : Nat) : Nat := facL l (((persL p).countP fun i => decide (i = (l : Int))) / l)
end My
namespace My
open PySem L2 Mth
section
variable {P : Program} {w : World} {K : PySem.W.Frag} {mg : Str → Option Value} {base : Heap}
def spHow : Sp := fun vs H Q _ => ∃ (a : Addr) (p : List Int), vs = [.ref a] ∧ TurnAt H a p ∧ ∀ (H' : Hp), Same H H' → Q (.int ((prodF (pastL p) ((List.range p.length).map (· + 1)) : Nat) : Int)) H'
theorem sc_how_many_past : FnScope ["p", "by_length", "many", "length", "free"] ["p"] (defScope s_how_many_past) := ⟨rfl, rfl, rfl, by decide +kernel, rfl, by decide +kernel, by decide +kernel⟩
theorem ok_how_many_past {f : Addr} {fd : FuncData} (F : Fun K "how_many_past" "how_many_past" s_how_many_past f fd) (B : Bl mg) (c_must_be_turn : Cal P w K mg base "must_be_turn" 3 ["thing"] spMust) (c_sort_by_length : Cal P w K mg base "sort_by_length" 1 ["rings"] spSortR) (c_walk_rings : Cal P w K mg base "walk_rings" 2 ["p"] spRings) : FnOk P w K mg base CX0 4 f fd ["p"] spHow := by
  refine F.ok sc_how_many_past (fun vs H Q E h => ?_) (fun cdv A outer s H vs Q E hr h => ?_)
  · obtain ⟨a, p, rfl, ⟨ha, tp, lp⟩, q⟩ := h
    rfl
  · obtain ⟨a, p, rfl, ⟨ha, tp, lp⟩, q⟩ := h
    have hr_must_be_turn : Room 3 _ := hr.mono (by decide)
    have hr_sort_by_length : Room 1 _ := hr.mono (by decide)
    have hr_walk_rings : Room 2 _ := hr.mono (by decide)
    have hu := hu_of hr
    refine ⟨_, @pss_cons _ _ _ _ _ (@ps_expr _ _ _ _ (@pe_cal _ _ _ _ _ _ _ _ _ _ c_must_be_turn hr_must_be_turn (@pa_cons _ _ _ _ _ (pv 0) (@pa_nil _) (by rfl)) (by rfl) (by decide) (by rfl) (by rfl)) (by rfl)) (@pss_cons _ _ _ _ _ (@ps_set _ _ (1) _ _ _ _ sc_how_many_past.nd rfl (Or.inl rfl) (@pe_cal _ _ _ _ _ _ _ _ _ _ c_sort_by_length hr_sort_by_length (@pa_cons _ _ _ _ _ (@pe_cal _ _ _ _ _ _ _ _ _ _ c_walk_rings hr_walk_rings (@pa_cons _ _ _ _ _ (pv 0) (@pa_nil _) (by rfl)) (by rfl) (by decide) (by rfl) (by rfl)) (@pa_nil _) (by rfl)) (by rfl) (by decide) (by rfl) (by rfl)) (by rfl) (by first | exact .inl rfl | exact .inr rfl | assumption)) (@pss_cons _ _ _ _ _ (@ps_set _ _ (2) _ _ _ _ sc_how_many_past.nd rfl (Or.inl rfl) (@pe_int _ _ _ _) (by rfl) (by first | exact .inl rfl | exact .inr rfl | assumption)) (@pss_cons _ _ _ _ _ (@ps_for _ _ _ _ _ _ _ _ PassesOwn.never rfl (@pi_dict _ _ _ _ (pv 1)) (@pg_name _ _ (3) _ sc_how_many_past.nd rfl (Or.inl rfl) (by first | exact .inl rfl | exact .inr rfl | assumption)) (@pss_one _ _ _ (@ps_for _ _ _ _ _ _ _ _ PassesOwn.never rfl (@pi_range2 _ _ _ _ _ _ _ (by rfl) B.range (@pa_cons _ _ _ _ _ (@pe_int _ _ _ _) (@pa_cons _ _ _ _ _ (@pe_op _ _ _ _ _ _ _ _ op_add (@pe_lenL _ _ _ _ _ B.len (@pa_cons _ _ _ _ _ (@pe_dget _ _ _ _ _ _ hu (pv 1) (pv 3) (fun _ _ => rfl)) (@pa_nil _) (by rfl)) (by rfl) (by rfl)) (@pe_int _ _ _ _)) (@pa_nil _) (by rfl)) (by rfl)) (by rfl) (by rfl)) (@pg_name _ _ (4) _ sc_how_many_past.nd rfl (Or.inl rfl) (by first | exact .inl rfl | exact .inr rfl | assumption)) (@pss_one _ _ _ (@ps_set _ _ (2) _ _ _ _ sc_how_many_past.nd rfl (Or.inl rfl) (@pe_op _ _ _ _ _ _ _ _ op_mul (@pe_op _ _ _ _ _ _ _ _ op_mul (pv 2) (pv 3)) (pv 4)) (by rfl) (by first | exact .inl rfl | exact .inr rfl | assumption))) (by intro _; rfl))) (by intro _; rfl)) (@pss_one _ _ _ (@ps_ret _ _ _ _ (pv 2)))))), ?_⟩
    refine ⟨_, rfl, a, p, rfl, ⟨ha, tp, lp⟩, fun H1 s1 => ?_⟩
    refine ⟨_, rfl, a, p, rfl, ⟨s1 a _ ha, tp, lp⟩, fun l as rs H2 hl s12 h2l rows up fa nda nla => ?_⟩
    have cl := up_count up
    have fl := up_len tp up
    refine ⟨l, as, rs, rfl, h2l, rows, by omega, fun d es H3 hd s23 h3d bl les fre => ?_⟩
    have s03 := (s1.trans s12).trans s23
    have hd0 : H d = none := (s1.trans s12).free hd
    refine ⟨_, rfl, d, kvsOf es, rfl, h3d, fun o => ?_⟩
    have s4 : Same H (upd H3 d (.frz o (.dK (kvsOf es)))) := s03.upd_r hd0
    have h4d : (upd H3 d (.frz o (.dK (kvsOf es)))) d = some (.frz o (.dK (kvsOf es))) := upd_same
    have kp : ∀ c, c ≠ d → (upd H3 d (.frz o (.dK (kvsOf es)))) c = H3 c := fun c hc => upd_ne hc
    generalize (upd H3 d (.frz o (.dK (kvsOf es)))) = H4 at s4 h4d kp ⊢
    have lkv : (kvsOf es).length = es.length := by unfold kvsOf; rw [List.length_map]
    refine for_dict (fun i σ H5 => ∃ (v3 v4 : Option V), σ = [some (.ref a), some (.ref d), some (.int ((prodF (fun l => facL l (cntL rs l)) ((es.take i).map (·.1)) : Nat) : Int)), v3, v4] ∧ H5 = H4)
      ⟨none, none, rfl, rfl⟩ (fun i σ H5 _ ⟨_, _, _, e⟩ => by rw [e]; exact h4d) ?_ ?_
    · rintro i k v σ H5 hi ⟨v3, v4, rfl, rfl⟩
      unfold kvsOf at hi
      rw [List.getElem?_map] at hi
      cases hE : es[i]? with
      | none => rw [hE] at hi; cases hi
      | some e =>
        rw [hE] at hi
        cases hi
        have he := List.mem_of_getElem? hE
        obtain ⟨cs, hcs, rcs⟩ := bl.row e he
        obtain ⟨xs, hxs, lxs⟩ : ∃ xs : List V, H3 e.2 = some (.lst xs) ∧ xs.length = cntL rs e.1 := ⟨_, hcs, by
          rw [List.length_map, rcs.1]
          unfold fil cntL
          exact (List.countP_eq_length_filter ..).symm⟩
        have h5x : H5 e.2 = some (.lst xs) := by rw [kp _ (bl.nd e he)]; exact hxs
        obtain ⟨r, hr', lr⟩ := bl.key e.1 (List.mem_map.mpr ⟨e, he, rfl⟩)
        have le40 : e.1 ≤ 40 := by
          obtain ⟨y, L, hy, pr, er, _⟩ := up.ring r hr'
          have b := ring_bound tp hy (m := L) fun i i0 i1 => pr.least i i0 i1
          rw [er, ringL_len] at lr
          omega
        have lx40 : xs.length ≤ 40 := by
          have : cntL rs e.1 ≤ rs.length := List.countP_le_length
          omega
        obtain ⟨F0, hF0⟩ : ∃ F0, F0 = prodF (fun l => facL l (cntL rs l)) ((es.take i).map (·.1)) := ⟨_, rfl⟩
        rw [← hF0]
        refine ⟨_, rfl, _, rfl, d, .ref e.2, rfl, .inl ⟨kvsOf es, Sum.inl (e.1 : Int), .inr ⟨o, h4d⟩, rfl, (kvs_at bl.nk he).symm⟩, e.2, xs, rfl, .inl (SqL.of h5x), _, _, rfl, rfl, _, _, rfl, ⟨by decide, by decide, by omega, by omega⟩, ?_⟩
        refine for_range (lo := 1) (n := (((xs.length : Nat) : Int) + 1 - 1).toNat) (fun j σ H6 => ∃ (v4' : Option V), σ = [some (.ref a), some (.ref d), some (.int ((F0 * facL e.1 j : Nat) : Int)), some (.int (e.1 : Int)), v4'] ∧ H6 = H5)
          ⟨v4, by rw [show facL e.1 0 = 1 from rfl, Nat.mul_one]; rfl, rfl⟩ ?_ ?_
        · rintro j σ H6 hj ⟨v4', rfl, rfl⟩
          refine ⟨_, rfl, _, rfl, _, _, rfl, rfl, .inr ⟨by omega, by omega⟩, _, rfl, _, _, rfl, rfl, .inr ⟨by omega, by omega⟩, ?_⟩
          refine ⟨some (.int ((1 : Int) + (j : Int))), ?_, rfl⟩
          have ee : ((F0 * facL e.1 j : Nat) : Int) * ((e.1 : Nat) : Int) * ((1 : Int) + (j : Int)) = ((F0 * facL e.1 (j + 1) : Nat) : Int) := by
            show _ = ((F0 * (facL e.1 j * e.1 * (j + 1)) : Nat) : Int)
            rw [show (1 : Int) + (j : Int) = ((j + 1 : Nat) : Int) by omega, ← Int.natCast_mul, ← Int.natCast_mul, Nat.mul_assoc, Nat.mul_assoc, Nat.mul_assoc]
          rw [← ee]
          first | done | rfl
        · rintro σ H6 ⟨v4', rfl, rfl⟩
          refine ⟨some (.int (e.1 : Int)), v4', ?_, rfl⟩
          rw [take_succ_of hE, List.map_append, show ([e].map (·.1) : List Nat) = [e.1] from rfl, prodF_snoc, ← hF0, show (((xs.length : Nat) : Int) + 1 - 1).toNat = xs.length by omega, lxs]
    · rintro σ H5 ⟨v3, v4, rfl, rfl⟩
      rw [lkv, List.take_length]
      have hg : ∀ l, pastL p (l + 1) = facL (l + 1) (cntL rs (l + 1)) := fun l => by
        unfold pastL persL
        rw [count_per tp up (l + 1), Nat.mul_div_cancel_left _ (by omega)]
      rw [past_same tp up bl.nk bl.key bl.all hg]
      exact ⟨_, rfl, q _ s4⟩
end
end My
namespace My
open PySem L2 Mth
section
variable {P : Program} {w : World} {K : PySem.W.Frag} {mg : Str → Option Value} {base : Heap}
def kindsF : Nat → Nat → Nat → List (List Int)
  | 0, _, _ => [[]]
  | d + 1, n, m => if n = 0 then [[]] else (List.range (min n m)).flatMap fun i => (kindsF d (n - (i + 1)) (i + 1)).map fun r => ((i : Int) + 1) :: r
theorem kinds_zero (d m : Nat) : kindsF d 0 m = [[]] := by cases d <;> rfl
theorem kinds_many : ∀ d, d < 13 → ∀ n, n < 13 → ∀ m, m < 13 → (kindsF d n m).length ≤ 77 := by decide +kernel
theorem kinds_row : ∀ (d n m : Nat) (r : List Int), r ∈ kindsF d n m → r.length ≤ d
  | 0, n, m, r, h => by rw [List.mem_singleton.mp (show r ∈ [[]] from h)]; exact Nat.le_refl _
  | d + 1, n, m, r, h => by
    unfold kindsF at h
    split at h
    · rw [List.mem_singleton.mp h]; exact Nat.zero_le _
    · obtain ⟨i, _, hi⟩ := List.mem_flatMap.mp h
      obtain ⟨q, hq, rfl⟩ := List.mem_map.mp hi
      have := kinds_row d _ _ q hq
      rw [List.length_cons]; omega
def spKinds (d : Nat) : Sp := fun vs H Q _ => ∃ n m : Nat, vs = [.int (n : Int), .int (m : Int)] ∧ n ≤ d ∧ m ≤ 12 ∧ d ≤ 12 ∧ ∀ (l : Addr) (as : List Addr) (H' : Hp), H l = none → Same H H' → H' l = some (.lst (as.map V.ref)) → RowsH H' as (kindsF d n m) → (∀ b ∈ as, H b = none) → as.Nodup → l ∉ as → Q (.ref l) H'
theorem one_row {H : Hp} {e l : Addr} (he : H e = none) (hl : (upd H e (.lst [])) l = none) : H l = none ∧ Same H (upd (upd H e (.lst [])) l (.lst [V.ref e])) ∧ RowsH (upd (upd H e (.lst [])) l (.lst [V.ref e])) [e] [[]] ∧ l ∉ [e] := by
  have n : l ≠ e := fun z => by rw [z, upd_same] at hl; cases hl
  have hl0 : H l = none := by rw [upd_ne n] at hl; exact hl
  refine ⟨hl0, (Same.upd_new he).upd_r hl0, ⟨rfl, fun j a r h1 h2 => ?_⟩, fun z => n (List.mem_singleton.mp z)⟩
  cases j with
  | zero =>
    cases h1; cases h2
    rw [upd_ne n.symm, upd_same]; rfl
  | succ j => cases h1
def kindsT (d n i : Nat) : List (List Int) := (List.range i).flatMap fun i => (kindsF d (n - (i + 1)) (i + 1)).map fun r => ((i : Int) + 1) :: r
theorem kindsT_succ (d n i : Nat) : kindsT d n (i + 1) = kindsT d n i ++ (kindsF d (n - (i + 1)) (i + 1)).map fun r => ((i : Int) + 1) :: r := by
  unfold kindsT
  rw [List.range_succ, List.flatMap_append, List.flatMap_singleton]
theorem kindsT_le (d n : Nat) : ∀ {i j : Nat}, i ≤ j → (kindsT d n i).length ≤ (kindsT d n j).length
  | i, j, h => by
    induction j with
    | zero => rw [Nat.le_zero.mp h]; exact Nat.le_refl _
    | succ j ih =>
      rcases Nat.lt_or_eq_of_le h with z | z
      · have := ih (by omega)
        rw [kindsT_succ, List.length_append]; omega
      · rw [z]; exact Nat.le_refl _
theorem kindsF_succ (d n m : Nat) (h : n ≠ 0) : kindsF (d + 1) n m = kindsT d n (min n m) := by
  unfold kindsF kindsT
  rw [if_neg h]
theorem sc_kinds_below : FnScope ["n", "most", "kinds", "first", "rest"] ["n", "most"] (defScope s_kinds_below) := ⟨rfl, rfl, rfl, by decide +kernel, rfl, by decide +kernel, by decide +kernel⟩
theorem ok_kinds_below {f : Addr} {fd : FuncData} (F : Fun K "kinds_below" "kinds_below" s_kinds_below f fd) (B : Bl mg) : FnOk P w K mg base CX0 1 f fd ["n", "most"] (spKinds 0) := by
  refine F.ok sc_kinds_below (fun vs H Q E h => ?_) (fun cdv A outer s H vs Q E hr h => ?_)
  · obtain ⟨n, m, rfl, hn, hm, hd, q⟩ := h
    rfl
  · obtain ⟨n, m, rfl, hn, hm, hd, q⟩ := h
    refine ⟨_, @pss_cons _ _ _ _ _ (@ps_if _ _ _ _ _ _ _ _ (@pt_cmpR _ _ _ _ _ _ _ _ op_eq (pv 0) (@pe_int _ _ _ _) (nomark _)) (@pss_one _ _ _ (@ps_ret _ _ _ _ (@pe_lst _ _ _ _ (@pa_cons _ _ _ _ _ (@pe_lst _ _ _ _ (@pa_nil _)) (@pa_nil _) (by rfl))))) (@pss_nil _)) (@pss_cons _ _ _ _ _ (@ps_set _ _ (2) _ _ _ _ sc_kinds_below.nd rfl (Or.inl rfl) (@pe_lst _ _ _ _ (@pa_nil _)) (by rfl) (by first | exact .inl rfl | exact .inr rfl | assumption)) (@pss_cons _ _ _ _ _ (@ps_for _ _ _ _ _ _ _ _ PassesOwn.never rfl (@pi_range2 _ _ _ _ _ _ _ (by rfl) B.range (@pa_cons _ _ _ _ _ (@pe_int _ _ _ _) (@pa_cons _ _ _ _ _ (@pe_op _ _ _ _ _ _ _ _ op_add (@pe_min2 _ _ _ _ _ _ rfl B.min (@pa_cons _ _ _ _ _ (pv 0) (@pa_cons _ _ _ _ _ (pv 1) (@pa_nil _) (by rfl)) (by rfl)) (by rfl) (by rfl) (by rfl)) (@pe_int _ _ _ _)) (@pa_nil _) (by rfl)) (by rfl)) (by rfl) (by rfl)) (@pg_name _ _ (3) _ sc_kinds_below.nd rfl (Or.inl rfl) (by first | exact .inl rfl | exact .inr rfl | assumption)) (@pss_one _ _ _ (@ps_for _ _ _ _ _ _ _ _ PassesOwn.never rfl (@pi_list _ _ _ _ (@pe_never _ _)) (@pg_name _ _ (4) _ sc_kinds_below.nd rfl (Or.inl rfl) (by first | exact .inl rfl | exact .inr rfl | assumption)) (@pss_one _ _ _ (@ps_expr _ _ _ _ (@pe_append _ _ _ _ _ _ _ (pv 2) (@pa_cons _ _ _ _ _ (@pe_op _ _ _ _ _ _ _ _ op_cat (@pe_lst _ _ _ _ (@pa_cons _ _ _ _ _ (pv 3) (@pa_nil _) (by rfl))) (pv 4)) (@pa_nil _) (by rfl)) (by rfl) (by rfl) (by rfl) (by rfl) (by rfl)) (by rfl))) (by intro _; rfl))) (by intro _; rfl)) (@pss_one _ _ _ (@ps_ret _ _ _ _ (pv 2))))), ?_⟩
    obtain rfl : n = 0 := by omega
    refine ⟨_, rfl, rfl, _, rfl, ?_⟩
    refine ite2 (fun _ => ?_) (fun h => absurd (decide_eq_true rfl) h)
    refine ⟨Nat.zero_le _, fun e he => ⟨(show 1 ≤ sizeLine by decide), fun l hl => ?_⟩⟩
    obtain ⟨a1, a2, a3, a4⟩ := one_row he hl
    exact q l [e] _ a1 a2 upd_same a3 (fun b hb => by rw [List.mem_singleton.mp hb]; exact he) (by simp) a4
theorem okr_kinds_below {d k : Nat} {f : Addr} {fd : FuncData} (F : Fun K "kinds_below" "kinds_below" s_kinds_below f fd) (B : Bl mg) (c_kinds_below : Cal P w K mg base "kinds_below" k ["n", "most"] (spKinds d)) : FnOk P w K mg base CX0 (k + 1) f fd ["n", "most"] (spKinds (d + 1)) := by
  refine F.ok sc_kinds_below (fun vs H Q E h => ?_) (fun cdv A outer s H vs Q E hr h => ?_)
  · obtain ⟨n, m, rfl, hn, hm, hd, q⟩ := h
    rfl
  · obtain ⟨n, m, rfl, hn, hm, hd, q⟩ := h
    have hr_kinds_below : Room k _ := hr.mono (by omega)
    refine ⟨_, @pss_cons _ _ _ _ _ (@ps_if _ _ _ _ _ _ _ _ (@pt_cmpR _ _ _ _ _ _ _ _ op_eq (pv 0) (@pe_int _ _ _ _) (nomark _)) (@pss_one _ _ _ (@ps_ret _ _ _ _ (@pe_lst _ _ _ _ (@pa_cons _ _ _ _ _ (@pe_lst _ _ _ _ (@pa_nil _)) (@pa_nil _) (by rfl))))) (@pss_nil _)) (@pss_cons _ _ _ _ _ (@ps_set _ _ (2) _ _ _ _ sc_kinds_below.nd rfl (Or.inl rfl) (@pe_lst _ _ _ _ (@pa_nil _)) (by rfl) (by first | exact .inl rfl | exact .inr rfl | assumption)) (@pss_cons _ _ _ _ _ (@ps_for _ _ _ _ _ _ _ _ PassesOwn.never rfl (@pi_range2 _ _ _ _ _ _ _ (by rfl) B.range (@pa_cons _ _ _ _ _ (@pe_int _ _ _ _) (@pa_cons _ _ _ _ _ (@pe_op _ _ _ _ _ _ _ _ op_add (@pe_min2 _ _ _ _ _ _ rfl B.min (@pa_cons _ _ _ _ _ (pv 0) (@pa_cons _ _ _ _ _ (pv 1) (@pa_nil _) (by rfl)) (by rfl)) (by rfl) (by rfl) (by rfl)) (@pe_int _ _ _ _)) (@pa_nil _) (by rfl)) (by rfl)) (by rfl) (by rfl)) (@pg_name _ _ (3) _ sc_kinds_below.nd rfl (Or.inl rfl) (by first | exact .inl rfl | exact .inr rfl | assumption)) (@pss_one _ _ _ (@ps_for _ _ _ _ _ _ _ _ PassesOwn.never rfl (@pi_list _ _ _ _ (@pe_cal _ _ _ _ _ _ _ _ _ _ c_kinds_below hr_kinds_below (@pa_cons _ _ _ _ _ (@pe_op _ _ _ _ _ _ _ _ op_sub (pv 0) (pv 3)) (@pa_cons _ _ _ _ _ (pv 3) (@pa_nil _) (by rfl)) (by rfl)) (by rfl) (by decide) (by rfl) (by rfl))) (@pg_name _ _ (4) _ sc_kinds_below.nd rfl (Or.inl rfl) (by first | exact .inl rfl | exact .inr rfl | assumption)) (@pss_one _ _ _ (@ps_expr _ _ _ _ (@pe_append _ _ _ _ _ _ _ (pv 2) (@pa_cons _ _ _ _ _ (@pe_op _ _ _ _ _ _ _ _ op_cat (@pe_lst _ _ _ _ (@pa_cons _ _ _ _ _ (pv 3) (@pa_nil _) (by rfl))) (pv 4)) (@pa_nil _) (by rfl)) (by rfl) (by rfl) (by rfl) (by rfl) (by rfl)) (by rfl))) (by intro _; rfl))) (by intro _; rfl)) (@pss_one _ _ _ (@ps_ret _ _ _ _ (pv 2))))), ?_⟩
    refine ⟨_, rfl, rfl, _, rfl, ?_⟩
    by_cases n0 : n = 0
    · subst n0
      refine ite2 (fun _ => ?_) (fun h => absurd (decide_eq_true rfl) h)
      refine ⟨Nat.zero_le _, fun e he => ⟨(show 1 ≤ sizeLine by decide), fun l hl => ?_⟩⟩
      obtain ⟨a1, a2, a3, a4⟩ := one_row he hl
      rw [kinds_zero] at q
      exact q l [e] _ a1 a2 upd_same a3 (fun b hb => by rw [List.mem_singleton.mp hb]; exact he) (by simp) a4
    refine ite2 (fun h => ?_) (fun _ => ?_)
    · have h := V.int.inj (of_decide_eq_true h)
      omega
    rw [kindsF_succ d n m n0] at q
    refine ⟨Nat.zero_le _, fun L hL => ?_⟩
    have s1 : Same H (upd H L (.lst [])) := Same.upd_new hL
    have h1L : (upd H L (.lst [])) L = some (.lst (([] : List Addr).map V.ref)) := upd_same
    generalize (upd H L (.lst [])) = H1 at s1 h1L ⊢
    have emin : (if (m : Int) < (n : Int) then (m : Int) else (n : Int)) + 1 = ((min n m : Nat) : Int) + 1 := by
      split <;> omega
    refine ⟨_, rfl, _, rfl, _, _, rfl, _, _, rfl, rfl, ?_⟩
    have many := kinds_many (d + 1) (by omega) n (by omega) m (by omega)
    rw [kindsF_succ d n m n0] at many
    refine ⟨1, ((min n m : Nat) : Int) + 1, congrArg (fun z => [V.int 1, V.int z]) emin, ⟨by decide, by decide, by omega, by omega⟩, ?_⟩
    have en : (((min n m : Nat) : Int) + 1 - 1).toNat = min n m := by omega
    rw [en]
    refine for_range (lo := 1) (n := min n m) (fun i σ H2 => ∃ (as : List Addr) (v3 v4 : Option V), σ = [some (.int (n : Int)), some (.int (m : Int)), some (.ref L), v3, v4] ∧ H2 L = some (.lst (as.map V.ref)) ∧ RowsH H2 as (kindsT d n i) ∧ Same H H2 ∧ (∀ b ∈ as, H b = none) ∧ as.Nodup ∧ L ∉ as)
      ⟨[], none, none, rfl, h1L, ⟨rfl, fun j b r h => by cases h⟩, s1, (fun b hb => by cases hb), List.nodup_nil, (fun z => by cases z)⟩ ?_ ?_
    · rintro i σ H2 hi ⟨as, v3, v4, rfl, h2L, rows, s2, fa, nda, nla⟩
      have e1 : (n : Int) - (1 + (i : Int)) = ((n - (i + 1) : Nat) : Int) := by omega
      have e2 : (1 : Int) + (i : Int) = ((i + 1 : Nat) : Int) := by omega
      refine ⟨_, rfl, _, rfl, _, _, rfl, rfl, _, rfl, ?_⟩
      refine ⟨n - (i + 1), i + 1, (show [V.int _, V.int _] = _ by rw [e1, e2]), by omega, by omega, by omega, fun l bs H3 hl s3 h3l rows3 fb ndb nlb => ?_⟩
      have h3L := s3 _ _ h2L
      have nLl : L ≠ l := ne_of_none h2L hl
      have rlen := rows3.1
      have tl := kindsT_le d n (show i + 1 ≤ min n m by omega)
      rw [kindsT_succ, List.length_append, List.length_map] at tl
      refine ⟨l, rfl, ⟨_, SqL.of h3l⟩, for_list (K := K) (a := l) (xs := bs.map V.ref) (fun j σ H4 => ∃ (cs : List Addr) (v4 : Option V), σ = [some (.int (n : Int)), some (.int (m : Int)), some (.ref L), some (.int (1 + (i : Int))), v4] ∧ H4 L = some (.lst (cs.map V.ref)) ∧ RowsH H4 cs (kindsT d n i ++ ((kindsF d (n - (i + 1)) (i + 1)).take j).map fun r => ((i : Int) + 1) :: r) ∧ Same H H4 ∧ KeepBut L H3 H4 ∧ (∀ b ∈ cs, H b = none) ∧ cs.Nodup ∧ L ∉ cs)
        ⟨as, v4, rfl, h3L, by rw [List.take_zero, List.map_nil, List.append_nil]; exact rows_keep rows fun b _ o e => s3 b o e, s2.trans s3, KeepBut.refl L H3, fa, nda, nla⟩ (fun j σ H4 _ ⟨_, _, _, _, _, _, k, _⟩ => SqL.of (k l _ h3l nLl.symm)) ?_ ?_⟩
      · rintro j x σ H4 hj ⟨cs, v4, rfl, h4L, rows4, s4, k4, fc, ndc, nlc⟩
        rw [List.getElem?_map] at hj
        cases hB : bs[j]? with
        | none => rw [hB] at hj; cases hj
        | some b =>
        rw [hB] at hj
        cases hj
        have hjl : j < (kindsF d (n - (i + 1)) (i + 1)).length := by rw [← rlen]; exact (List.getElem?_eq_some_iff.mp hB).1
        obtain ⟨r, hr'⟩ : ∃ r, (kindsF d (n - (i + 1)) (i + 1))[j]? = some r := ⟨_, List.getElem?_eq_getElem hjl⟩
        have h3b := rows3.2 j b r hB hr'
        have rl := kinds_row d _ _ r (List.mem_of_getElem? hr')
        have nbL : b ≠ L := fun z => by have := fb b (List.mem_of_getElem? hB); rw [z, h2L] at this; cases this
        have h4b := k4 b _ h3b nbL
        have clen := rows4.1
        rw [List.length_append, List.length_map, List.length_take] at clen
        refine ⟨_, rfl, .inl ⟨rfl, _, SqL.of h4L⟩, _, rfl, (show 1 ≤ sizeLine by decide), fun e he => ?_⟩
        have nLe : L ≠ e := ne_of_none h4L he
        have nbe : b ≠ e := ne_of_none h4b he
        have h5b : (upd H4 e (.lst [V.int (1 + (i : Int))])) b = some (.lst (r.map V.int)) := by rw [upd_ne nbe]; exact h4b
        have h5L : (upd H4 e (.lst [V.int (1 + (i : Int))])) L = some (.lst (cs.map V.ref)) := by rw [upd_ne nLe]; exact h4L
        have h5e : (upd H4 e (.lst [V.int (1 + (i : Int))])) e = some (.lst [V.int (1 + (i : Int))]) := upd_same
        have s5 : Same H4 (upd H4 e (.lst [V.int (1 + (i : Int))])) := Same.upd_new he
        generalize (upd H4 e (.lst [V.int (1 + (i : Int))])) = H5 at h5b h5L h5e s5 ⊢
        refine ⟨_, rfl, e, b, _, _, rfl, rfl, h5e, h5b, Nat.le_of_lt (small1000 (by simp only [List.length_cons, List.length_nil, List.length_map]; omega)), fun p hp => ?_⟩
        have er : [V.int (1 + (i : Int))] ++ r.map V.int = (((i : Int) + 1) :: r).map V.int := by rw [Int.add_comm 1 (i : Int)]; rfl
        rw [er]
        have nLp : L ≠ p := ne_of_none h5L hp
        have h6L : (upd H5 p (.lst ((((i : Int) + 1) :: r).map V.int))) L = some (.lst (cs.map V.ref)) := by rw [upd_ne nLp]; exact h5L
        refine ⟨L, _, _, rfl, rfl, h6L, small1000 (by rw [List.length_map]; omega), ?_⟩
        have es : cs.map V.ref ++ [V.ref p] = (cs ++ [p]).map V.ref := by rw [List.map_append]; rfl
        rw [es]
        have hp4 : H4 p = none := s5.free hp
        have h7L : (upd (upd H5 p (.lst ((((i : Int) + 1) :: r).map V.int))) L (.lst ((cs ++ [p]).map V.ref))) L = some (.lst ((cs ++ [p]).map V.ref)) := upd_same
        have h7p : (upd (upd H5 p (.lst ((((i : Int) + 1) :: r).map V.int))) L (.lst ((cs ++ [p]).map V.ref))) p = some (.lst ((((i : Int) + 1) :: r).map V.int)) := by rw [upd_ne nLp.symm, upd_same]
        have k7 : KeepBut L H4 (upd (upd H5 p (.lst ((((i : Int) + 1) :: r).map V.int))) L (.lst ((cs ++ [p]).map V.ref))) := fun c o hc hn => by rw [upd_ne hn, upd_ne (ne_of_none (s5 c o hc) hp)]; exact s5 c o hc
        generalize (upd (upd H5 p (.lst ((((i : Int) + 1) :: r).map V.int))) L (.lst ((cs ++ [p]).map V.ref))) = H7 at h7L h7p k7 ⊢
        refine ⟨cs ++ [p], _, rfl, h7L, ?_, s4.kb k7 hL, k4.trans k7, fun c hc => ?_, ?_, ?_⟩
        · rw [take_succ_of hr', List.map_append, ← List.append_assoc]
          exact rows_snoc (rows_keep rows4 fun c hc o e => k7 c o e fun z => nlc (z ▸ hc)) h7p
        · rcases List.mem_append.mp hc with z | z
          · exact fc c z
          · rw [List.mem_singleton.mp z]; exact s4.free hp4
        · refine nd_snoc ndc fun z => ?_
          obtain ⟨q', hq'⟩ := rows_mem rows4 z
          rw [hp4] at hq'; cases hq'
        · intro z
          rcases List.mem_append.mp z with z | z
          · exact nlc z
          · exact nLp (List.mem_singleton.mp z)
      · rintro σ H4 ⟨cs, v4, rfl, h4L, rows4, s4, k4, fc, ndc, nlc⟩
        rw [List.length_map, rlen, List.take_length, ← kindsT_succ] at rows4
        exact ⟨cs, _, _, rfl, h4L, rows4, s4, fc, ndc, nlc⟩
    · rintro σ H2 ⟨as, v3, v4, rfl, h2L, rows, s2, fa, nda, nla⟩
      exact ⟨_, rfl, q L as H2 hL s2 h2L rows fa nda nla⟩
theorem sc_law_kinds : FnScope ["many", "most", "found", "first", "more"] ["many", "most"] (defScope s_law_kinds) := ⟨rfl, rfl, rfl, by decide +kernel, rfl, by decide +kernel, by decide +kernel⟩
theorem ok_law_kinds {f : Addr} {fd : FuncData} (F : Fun K "_law_kinds" "_law_kinds" s_law_kinds f fd) (B : Bl mg) : FnOk P w K mg base CX0 1 f fd ["many", "most"] (spKinds 0) := by
  refine F.ok sc_law_kinds (fun vs H Q E h => ?_) (fun cdv A outer s H vs Q E hr h => ?_)
  · obtain ⟨n, m, rfl, hn, hm, hd, q⟩ := h
    rfl
  · obtain ⟨n, m, rfl, hn, hm, hd, q⟩ := h
    refine ⟨_, @pss_cons _ _ _ _ _ (@ps_if _ _ _ _ _ _ _ _ (@pt_cmpR _ _ _ _ _ _ _ _ op_eq (pv 0) (@pe_int _ _ _ _) (nomark _)) (@pss_one _ _ _ (@ps_ret _ _ _ _ (@pe_lst _ _ _ _ (@pa_cons _ _ _ _ _ (@pe_lst _ _ _ _ (@pa_nil _)) (@pa_nil _) (by rfl))))) (@pss_nil _)) (@pss_cons _ _ _ _ _ (@ps_set _ _ (2) _ _ _ _ sc_law_kinds.nd rfl (Or.inl rfl) (@pe_lst _ _ _ _ (@pa_nil _)) (by rfl) (by first | exact .inl rfl | exact .inr rfl | assumption)) (@pss_cons _ _ _ _ _ (@ps_for _ _ _ _ _ _ _ _ PassesOwn.never rfl (@pi_range2 _ _ _ _ _ _ _ (by rfl) B.range (@pa_cons _ _ _ _ _ (@pe_int _ _ _ _) (@pa_cons _ _ _ _ _ (@pe_op _ _ _ _ _ _ _ _ op_add (@pe_min2 _ _ _ _ _ _ rfl B.min (@pa_cons _ _ _ _ _ (pv 0) (@pa_cons _ _ _ _ _ (pv 1) (@pa_nil _) (by rfl)) (by rfl)) (by rfl) (by rfl) (by rfl)) (@pe_int _ _ _ _)) (@pa_nil _) (by rfl)) (by rfl)) (by rfl) (by rfl)) (@pg_name _ _ (3) _ sc_law_kinds.nd rfl (Or.inl rfl) (by first | exact .inl rfl | exact .inr rfl | assumption)) (@pss_one _ _ _ (@ps_for _ _ _ _ _ _ _ _ PassesOwn.never rfl (@pi_list _ _ _ _ (@pe_never _ _)) (@pg_name _ _ (4) _ sc_law_kinds.nd rfl (Or.inl rfl) (by first | exact .inl rfl | exact .inr rfl | assumption)) (@pss_one _ _ _ (@ps_expr _ _ _ _ (@pe_append _ _ _ _ _ _ _ (pv 2) (@pa_cons _ _ _ _ _ (@pe_op _ _ _ _ _ _ _ _ op_cat (@pe_lst _ _ _ _ (@pa_cons _ _ _ _ _ (pv 3) (@pa_nil _) (by rfl))) (pv 4)) (@pa_nil _) (by rfl)) (by rfl) (by rfl) (by rfl) (by rfl) (by rfl)) (by rfl))) (by intro _; rfl))) (by intro _; rfl)) (@pss_one _ _ _ (@ps_ret _ _ _ _ (pv 2))))), ?_⟩
    obtain rfl : n = 0 := by omega
    refine ⟨_, rfl, rfl, _, rfl, ?_⟩
    refine ite2 (fun _ => ?_) (fun h => absurd (decide_eq_true rfl) h)
    refine ⟨Nat.zero_le _, fun e he => ⟨(show 1 ≤ sizeLine by decide), fun l hl => ?_⟩⟩
    obtain ⟨a1, a2, a3, a4⟩ := one_row he hl
    exact q l [e] _ a1 a2 upd_same a3 (fun b hb => by rw [List.mem_singleton.mp hb]; exact he) (by simp) a4
theorem okr_law_kinds {d k : Nat} {f : Addr} {fd : FuncData} (F : Fun K "_law_kinds" "_law_kinds" s_law_kinds f fd) (B : Bl mg) (c_law_kinds : Cal P w K mg base "_law_kinds" k ["many", "most"] (spKinds d)) : FnOk P w K mg base CX0 (k + 1) f fd ["many", "most"] (spKinds (d + 1)) := by
  refine F.ok sc_law_kinds (fun vs H Q E h => ?_) (fun cdv A outer s H vs Q E hr h => ?_)
  · obtain ⟨n, m, rfl, hn, hm, hd, q⟩ := h
    rfl
  · obtain ⟨n, m, rfl, hn, hm, hd, q⟩ := h
    have hr_law_kinds : Room k _ := hr.mono (by omega)
    refine ⟨_, @pss_cons _ _ _ _ _ (@ps_if _ _ _ _ _ _ _ _ (@pt_cmpR _ _ _ _ _ _ _ _ op_eq (pv 0) (@pe_int _ _ _ _) (nomark _)) (@pss_one _ _ _ (@ps_ret _ _ _ _ (@pe_lst _ _ _ _ (@pa_cons _ _ _ _ _ (@pe_lst _ _ _ _ (@pa_nil _)) (@pa_nil _) (by rfl))))) (@pss_nil _)) (@pss_cons _ _ _ _ _ (@ps_set _ _ (2) _ _ _ _ sc_law_kinds.nd rfl (Or.inl rfl) (@pe_lst _ _ _ _ (@pa_nil _)) (by rfl) (by first | exact .inl rfl | exact .inr rfl | assumption)) (@pss_cons _ _ _ _ _ (@ps_for _ _ _ _ _ _ _ _ PassesOwn.never rfl (@pi_range2 _ _ _ _ _ _ _ (by rfl) B.range (@pa_cons _ _ _ _ _ (@pe_int _ _ _ _) (@pa_cons _ _ _ _ _ (@pe_op _ _ _ _ _ _ _ _ op_add (@pe_min2 _ _ _ _ _ _ rfl B.min (@pa_cons _ _ _ _ _ (pv 0) (@pa_cons _ _ _ _ _ (pv 1) (@pa_nil _) (by rfl)) (by rfl)) (by rfl) (by rfl) (by rfl)) (@pe_int _ _ _ _)) (@pa_nil _) (by rfl)) (by rfl)) (by rfl) (by rfl)) (@pg_name _ _ (3) _ sc_law_kinds.nd rfl (Or.inl rfl) (by first | exact .inl rfl | exact .inr rfl | assumption)) (@pss_one _ _ _ (@ps_for _ _ _ _ _ _ _ _ PassesOwn.never rfl (@pi_list _ _ _ _ (@pe_cal _ _ _ _ _ _ _ _ _ _ c_law_kinds hr_law_kinds (@pa_cons _ _ _ _ _ (@pe_op _ _ _ _ _ _ _ _ op_sub (pv 0) (pv 3)) (@pa_cons _ _ _ _ _ (pv 3) (@pa_nil _) (by rfl)) (by rfl)) (by rfl) (by decide) (by rfl) (by rfl))) (@pg_name _ _ (4) _ sc_law_kinds.nd rfl (Or.inl rfl) (by first | exact .inl rfl | exact .inr rfl | assumption)) (@pss_one _ _ _ (@ps_expr _ _ _ _ (@pe_append _ _ _ _ _ _ _ (pv 2) (@pa_cons _ _ _ _ _ (@pe_op _ _ _ _ _ _ _ _ op_cat (@pe_lst _ _ _ _ (@pa_cons _ _ _ _ _ (pv 3) (@pa_nil _) (by rfl))) (pv 4)) (@pa_nil _) (by rfl)) (by rfl) (by rfl) (by rfl) (by rfl) (by rfl)) (by rfl))) (by intro _; rfl))) (by intro _; rfl)) (@pss_one _ _ _ (@ps_ret _ _ _ _ (pv 2))))), ?_⟩
    refine ⟨_, rfl, rfl, _, rfl, ?_⟩
    by_cases n0 : n = 0
    · subst n0
      refine ite2 (fun _ => ?_) (fun h => absurd (decide_eq_true rfl) h)
      refine ⟨Nat.zero_le _, fun e he => ⟨(show 1 ≤ sizeLine by decide), fun l hl => ?_⟩⟩
      obtain ⟨a1, a2, a3, a4⟩ := one_row he hl
      rw [kinds_zero] at q
      exact q l [e] _ a1 a2 upd_same a3 (fun b hb => by rw [List.mem_singleton.mp hb]; exact he) (by simp) a4
    refine ite2 (fun h => ?_) (fun _ => ?_)
    · have h := V.int.inj (of_decide_eq_true h)
      omega
    rw [kindsF_succ d n m n0] at q
    refine ⟨Nat.zero_le _, fun L hL => ?_⟩
    have s1 : Same H (upd H L (.lst [])) := Same.upd_new hL
    have h1L : (upd H L (.lst [])) L = some (.lst (([] : List Addr).map V.ref)) := upd_same
    generalize (upd H L (.lst [])) = H1 at s1 h1L ⊢
    have emin : (if (m : Int) < (n : Int) then (m : Int) else (n : Int)) + 1 = ((min n m : Nat) : Int) + 1 := by
      split <;> omega
    refine ⟨_, rfl, _, rfl, _, _, rfl, _, _, rfl, rfl, ?_⟩
    have many := kinds_many (d + 1) (by omega) n (by omega) m (by omega)
    rw [kindsF_succ d n m n0] at many
    refine ⟨1, ((min n m : Nat) : Int) + 1, congrArg (fun z => [V.int 1, V.int z]) emin, ⟨by decide, by decide, by omega, by omega⟩, ?_⟩
    have en : (((min n m : Nat) : Int) + 1 - 1).toNat = min n m := by omega
    rw [en]
    refine for_range (lo := 1) (n := min n m) (fun i σ H2 => ∃ (as : List Addr) (v3 v4 : Option V), σ = [some (.int (n : Int)), some (.int (m : Int)), some (.ref L), v3, v4] ∧ H2 L = some (.lst (as.map V.ref)) ∧ RowsH H2 as (kindsT d n i) ∧ Same H H2 ∧ (∀ b ∈ as, H b = none) ∧ as.Nodup ∧ L ∉ as)
      ⟨[], none, none, rfl, h1L, ⟨rfl, fun j b r h => by cases h⟩, s1, (fun b hb => by cases hb), List.nodup_nil, (fun z => by cases z)⟩ ?_ ?_
    · rintro i σ H2 hi ⟨as, v3, v4, rfl, h2L, rows, s2, fa, nda, nla⟩
      have e1 : (n : Int) - (1 + (i : Int)) = ((n - (i + 1) : Nat) : Int) := by omega
      have e2 : (1 : Int) + (i : Int) = ((i + 1 : Nat) : Int) := by omega
      refine ⟨_, rfl, _, rfl, _, _, rfl, rfl, _, rfl, ?_⟩
      refine ⟨n - (i + 1), i + 1, (show [V.int _, V.int _] = _ by rw [e1, e2]), by omega, by omega, by omega, fun l bs H3 hl s3 h3l rows3 fb ndb nlb => ?_⟩
      have h3L := s3 _ _ h2L
      have nLl : L ≠ l := ne_of_none h2L hl
      have rlen := rows3.1
      have tl := kindsT_le d n (show i + 1 ≤ min n m by omega)
      rw [kindsT_succ, List.length_append, List.length_map] at tl
      refine ⟨l, rfl, ⟨_, SqL.of h3l⟩, for_list (K := K) (a := l) (xs := bs.map V.ref) (fun j σ H4 => ∃ (cs : List Addr) (v4 : Option V), σ = [some (.int (n : Int)), some (.int (m : Int)), some (.ref L), some (.int (1 + (i : Int))), v4] ∧ H4 L = some (.lst (cs.map V.ref)) ∧ RowsH H4 cs (kindsT d n i ++ ((kindsF d (n - (i + 1)) (i + 1)).take j).map fun r => ((i : Int) + 1) :: r) ∧ Same H H4 ∧ KeepBut L H3 H4 ∧ (∀ b ∈ cs, H b = none) ∧ cs.Nodup ∧ L ∉ cs)
        ⟨as, v4, rfl, h3L, by rw [List.take_zero, List.map_nil, List.append_nil]; exact rows_keep rows fun b _ o e => s3 b o e, s2.trans s3, KeepBut.refl L H3, fa, nda, nla⟩ (fun j σ H4 _ ⟨_, _, _, _, _, _, k, _⟩ => SqL.of (k l _ h3l nLl.symm)) ?_ ?_⟩
      · rintro j x σ H4 hj ⟨cs, v4, rfl, h4L, rows4, s4, k4, fc, ndc, nlc⟩
        rw [List.getElem?_map] at hj
        cases hB : bs[j]? with
        | none => rw [hB] at hj; cases hj
        | some b =>
        rw [hB] at hj
        cases hj
        have hjl : j < (kindsF d (n - (i + 1)) (i + 1)).length := by rw [← rlen]; exact (List.getElem?_eq_some_iff.mp hB).1
        obtain ⟨r, hr'⟩ : ∃ r, (kindsF d (n - (i + 1)) (i + 1))[j]? = some r := ⟨_, List.getElem?_eq_getElem hjl⟩
        have h3b := rows3.2 j b r hB hr'
        have rl := kinds_row d _ _ r (List.mem_of_getElem? hr')
        have nbL : b ≠ L := fun z => by have := fb b (List.mem_of_getElem? hB); rw [z, h2L] at this; cases this
        have h4b := k4 b _ h3b nbL
        have clen := rows4.1
        rw [List.length_append, List.length_map, List.length_take] at clen
        refine ⟨_, rfl, .inl ⟨rfl, _, SqL.of h4L⟩, _, rfl, (show 1 ≤ sizeLine by decide), fun e he => ?_⟩
        have nLe : L ≠ e := ne_of_none h4L he
        have nbe : b ≠ e := ne_of_none h4b he
        have h5b : (upd H4 e (.lst [V.int (1 + (i : Int))])) b = some (.lst (r.map V.int)) := by rw [upd_ne nbe]; exact h4b
        have h5L : (upd H4 e (.lst [V.int (1 + (i : Int))])) L = some (.lst (cs.map V.ref)) := by rw [upd_ne nLe]; exact h4L
        have h5e : (upd H4 e (.lst [V.int (1 + (i : Int))])) e = some (.lst [V.int (1 + (i : Int))]) := upd_same
        have s5 : Same H4 (upd H4 e (.lst [V.int (1 + (i : Int))])) := Same.upd_new he
        generalize (upd H4 e (.lst [V.int (1 + (i : Int))])) = H5 at h5b h5L h5e s5 ⊢
        refine ⟨_, rfl, e, b, _, _, rfl, rfl, h5e, h5b, Nat.le_of_lt (small1000 (by simp only [List.length_cons, List.length_nil, List.length_map]; omega)), fun p hp => ?_⟩
        have er : [V.int (1 + (i : Int))] ++ r.map V.int = (((i : Int) + 1) :: r).map V.int := by rw [Int.add_comm 1 (i : Int)]; rfl
        rw [er]
        have nLp : L ≠ p := ne_of_none h5L hp
        have h6L : (upd H5 p (.lst ((((i : Int) + 1) :: r).map V.int))) L = some (.lst (cs.map V.ref)) := by rw [upd_ne nLp]; exact h5L
        refine ⟨L, _, _, rfl, rfl, h6L, small1000 (by rw [List.length_map]; omega), ?_⟩
        have es : cs.map V.ref ++ [V.ref p] = (cs ++ [p]).map V.ref := by rw [List.map_append]; rfl
        rw [es]
        have hp4 : H4 p = none := s5.free hp
        have h7L : (upd (upd H5 p (.lst ((((i : Int) + 1) :: r).map V.int))) L (.lst ((cs ++ [p]).map V.ref))) L = some (.lst ((cs ++ [p]).map V.ref)) := upd_same
        have h7p : (upd (upd H5 p (.lst ((((i : Int) + 1) :: r).map V.int))) L (.lst ((cs ++ [p]).map V.ref))) p = some (.lst ((((i : Int) + 1) :: r).map V.int)) := by rw [upd_ne nLp.symm, upd_same]
        have k7 : KeepBut L H4 (upd (upd H5 p (.lst ((((i : Int) + 1) :: r).map V.int))) L (.lst ((cs ++ [p]).map V.ref))) := fun c o hc hn => by rw [upd_ne hn, upd_ne (ne_of_none (s5 c o hc) hp)]; exact s5 c o hc
        generalize (upd (upd H5 p (.lst ((((i : Int) + 1) :: r).map V.int))) L (.lst ((cs ++ [p]).map V.ref))) = H7 at h7L h7p k7 ⊢
        refine ⟨cs ++ [p], _, rfl, h7L, ?_, s4.kb k7 hL, k4.trans k7, fun c hc => ?_, ?_, ?_⟩
        · rw [take_succ_of hr', List.map_append, ← List.append_assoc]
          exact rows_snoc (rows_keep rows4 fun c hc o e => k7 c o e fun z => nlc (z ▸ hc)) h7p
        · rcases List.mem_append.mp hc with z | z
          · exact fc c z
          · rw [List.mem_singleton.mp z]; exact s4.free hp4
        · refine nd_snoc ndc fun z => ?_
          obtain ⟨q', hq'⟩ := rows_mem rows4 z
          rw [hp4] at hq'; cases hq'
        · intro z
          rcases List.mem_append.mp z with z | z
          · exact nlc z
          · exact nLp (List.mem_singleton.mp z)
      · rintro σ H4 ⟨cs, v4, rfl, h4L, rows4, s4, k4, fc, ndc, nlc⟩
        rw [List.length_map, rlen, List.take_length, ← kindsT_succ] at rows4
        exact ⟨cs, _, _, rfl, h4L, rows4, s4, fc, ndc, nlc⟩
    · rintro σ H2 ⟨as, v3, v4, rfl, h2L, rows, s2, fa, nda, nla⟩
      exact ⟨_, rfl, q L as H2 hL s2 h2L rows fa nda nla⟩
end
end My
namespace My
open PySem L2 Mth
section
variable {P : Program} {w : World} {K : PySem.W.Frag} {mg : Str → Option Value} {base : Heap}
def spCounted : Sp := fun vs H Q _ => ∃ n : Nat, vs = [.int (n : Int)] ∧ n ≤ 12 ∧ Q .non H
theorem sc_must_be_counted : FnScope ["n"] ["n"] (defScope s_must_be_counted) := ⟨rfl, rfl, rfl, by decide +kernel, rfl, by decide +kernel, by decide +kernel⟩
theorem ok_must_be_counted {f : Addr} {fd : FuncData} (F : Fun K "must_be_counted" "must_be_counted" s_must_be_counted f fd) (g_MOST_COUNTED : ∃ t, mg "MOST_COUNTED" = some (.int 12 t)) (c_is_whole : Cal P w K mg base "is_whole" 1 ["thing"] (spWhole K)) : FnOk P w K mg base CX0 2 f fd ["n"] spCounted := by
  refine F.ok sc_must_be_counted (fun vs H Q E h => ?_) (fun cdv A outer s H vs Q E hr h => ?_)
  · obtain ⟨n, rfl, hn, q⟩ := h
    rfl
  · obtain ⟨n, rfl, hn, q⟩ := h
    obtain ⟨_, m_MOST_COUNTED⟩ := g_MOST_COUNTED
    have hr_is_whole : Room 1 _ := hr.mono (by decide)
    refine ⟨_, @pss_cons _ _ _ _ _ (@ps_if _ _ _ _ _ _ _ _ (@pw_or _ _ _ _ _ _ _ (@pt_not _ _ _ _ (@pt_val _ _ _ (@pe_cal _ _ _ _ _ _ _ _ _ _ c_is_whole hr_is_whole (@pa_cons _ _ _ _ _ (pv 0) (@pa_nil _) (by rfl)) (by rfl) (by decide) (by rfl) (by rfl)) (by intro _; rfl))) (@pw_or1 _ _ _ _ (@pt_cmpR _ _ _ _ _ _ _ _ op_lt (pv 0) (@pe_int _ _ _ _) (nomark _)))).pt (@pss_one _ _ _ (@ps_never _ _)) (@pss_nil _)) (@pss_one _ _ _ (@ps_if _ _ _ _ _ _ _ _ (@pt_cmpR _ _ _ _ _ _ _ _ op_gt (pv 0) (@pe_glob _ _ (.int 12) _ _ (by rfl) m_MOST_COUNTED ⟨_, rfl⟩ (by decide)) (nomark _)) (@pss_one _ _ _ (@ps_never _ _)) (@pss_nil _))), ?_⟩
    refine ⟨_, rfl, .int (n : Int), _, true, false, rfl, .int _, kit_same K "int", kit_int_bool K, _, rfl, ?_⟩
    refine iteF ⟨_, rfl, _, _, rfl, rfl, _, rfl, ?_⟩
    refine ite2 (fun h => absurd (of_decide_eq_true h) (by omega)) (fun _ => ?_)
    refine ⟨_, rfl, _, _, rfl, rfl, _, rfl, ?_⟩
    exact ite2 (fun h => absurd (of_decide_eq_true h) (by omega)) (fun _ => q)
def spKindsOf : Sp := fun vs H Q _ => ∃ n : Nat, vs = [.int (n : Int)] ∧ n ≤ 12 ∧ ∀ (l : Addr) (as : List Addr) (H' : Hp), H l = none → Same H H' → H' l = some (.lst (as.map V.ref)) → RowsH H' as (kindsF 12 n n) → (∀ b ∈ as, H b = none) → as.Nodup → l ∉ as → Q (.ref l) H'
theorem sc_kinds_of : FnScope ["n"] ["n"] (defScope s_kinds_of) := ⟨rfl, rfl, rfl, by decide +kernel, rfl, by decide +kernel, by decide +kernel⟩
theorem ok_kinds_of {f : Addr} {fd : FuncData} (F : Fun K "kinds_of" "kinds_of" s_kinds_of f fd) (c_must_be_counted : Cal P w K mg base "must_be_counted" 2 ["n"] spCounted) (c_kinds_below : Cal P w K mg base "kinds_below" 13 ["n", "most"] (spKinds 12)) : FnOk P w K mg base CX0 14 f fd ["n"] spKindsOf := by
  refine F.ok sc_kinds_of (fun vs H Q E h => ?_) (fun cdv A outer s H vs Q E hr h => ?_)
  · obtain ⟨n, rfl, hn, q⟩ := h
    rfl
  · obtain ⟨n, rfl, hn, q⟩ := h
    have hr_must_be_counted : Room 2 _ := hr.mono (by decide)
    have hr_kinds_below : Room 13 _ := hr.mono (by decide)
    refine ⟨_, @pss_cons _ _ _ _ _ (@ps_expr _ _ _ _ (@pe_cal _ _ _ _ _ _ _ _ _ _ c_must_be_counted hr_must_be_counted (@pa_cons _ _ _ _ _ (pv 0) (@pa_nil _) (by rfl)) (by rfl) (by decide) (by rfl) (by rfl)) (by rfl)) (@pss_one _ _ _ (@ps_ret _ _ _ _ (@pe_cal _ _ _ _ _ _ _ _ _ _ c_kinds_below hr_kinds_below (@pa_cons _ _ _ _ _ (pv 0) (@pa_cons _ _ _ _ _ (pv 0) (@pa_nil _) (by rfl)) (by rfl)) (by rfl) (by decide) (by rfl) (by rfl)))), ?_⟩
    refine ⟨_, rfl, n, rfl, hn, ?_⟩
    exact ⟨_, rfl, _, rfl, n, n, rfl, hn, hn, by decide, fun l as H' a1 a2 a3 a4 a5 a6 a7 => q l as H' a1 a2 a3 a4 a5 a6 a7⟩
end
end My
namespace My
open PySem L2 Mth
section
variable {P : Program} {w : World} {K : PySem.W.Frag} {mg : Str → Option Value} {base : Heap}
structure IsKind (ks : List Int) : Prop where
  pos : ∀ x ∈ ks, 1 ≤ x
  fal : ks.Pairwise (· ≥ ·)
  sum : ks.sum ≤ 40
def spIsKind : Sp := fun vs H Q _ => ∃ (a : Addr) (ks : List Int), vs = [.ref a] ∧ H a = some (.lst (ks.map V.int)) ∧ IsKind ks ∧ ∀ H' : Hp, Same H H' → Q (.bl true) H'
theorem sum_ge : ∀ {l : List Int}, (∀ x ∈ l, 1 ≤ x) → (l.length : Int) ≤ l.sum
  | [], _ => by simp
  | a :: l, h => by
    have := sum_ge fun y hy => h y (List.mem_cons_of_mem _ hy)
    have := h a List.mem_cons_self
    rw [List.sum_cons, List.length_cons]; omega
theorem mem_le_sum : ∀ {l : List Int}, (∀ x ∈ l, 1 ≤ x) → ∀ x ∈ l, x ≤ l.sum
  | [], _, x, hx => by cases hx
  | a :: l, h, x, hx => by
    have h1 := sum_ge fun y hy => h y (List.mem_cons_of_mem _ hy)
    have h2 := h a List.mem_cons_self
    rw [List.sum_cons]
    rcases List.mem_cons.mp hx with rfl | hx
    · omega
    · have := mem_le_sum (fun y hy => h y (List.mem_cons_of_mem _ hy)) x hx
      omega
theorem IsKind.len {ks : List Int} (h : IsKind ks) : ks.length ≤ 40 := by have := sum_ge h.pos; have := h.sum; omega
theorem IsKind.le {ks : List Int} (h : IsKind ks) : ∀ x ∈ ks, x ≤ 40 := fun x hx => by have := mem_le_sum h.pos x hx; have := h.sum; omega
theorem sc_is_kind : FnScope ["thing", "length"] ["thing"] (defScope s_is_kind) := ⟨rfl, rfl, rfl, by decide +kernel, rfl, by decide +kernel, by decide +kernel⟩
theorem ok_is_kind {f : Addr} {fd : FuncData} (F : Fun K "is_kind" "is_kind" s_is_kind f fd) (B : Bl mg) (g_MOST_THINGS : ∃ t, mg "MOST_THINGS" = some (.int 40 t)) (c_is_whole : Cal P w K mg base "is_whole" 1 ["thing"] (spWhole K)) : FnOk P w K mg base CX0 2 f fd ["thing"] spIsKind := by
  refine F.ok sc_is_kind (fun vs H Q E h => ?_) (fun cdv A outer s H vs Q E hr h => ?_)
  · obtain ⟨a, ks, rfl, ha, hk, q⟩ := h
    rfl
  · obtain ⟨a, ks, rfl, ha, hk, q⟩ := h
    obtain ⟨_, m_MOST_THINGS⟩ := g_MOST_THINGS
    have hr_is_whole : Room 1 _ := hr.mono (by decide)
    have hu := hu_of hr
    refine ⟨_, @pss_cons _ _ _ _ _ (@ps_if _ _ _ _ _ _ _ _ (@pt_not _ _ _ _ (@pt_val _ _ _ (@pe_isi _ _ _ _ _ _ B.isi (@pa_cons _ _ _ _ _ (pv 0) (@pa_cons _ _ _ _ _ (@pe_tyList _ _ B.list (by rfl)) (@pa_nil _) (by rfl)) (by rfl)) (by rfl) (by rfl) (by rfl)) (by intro _; rfl))) (@pss_one _ _ _ (@ps_ret _ _ _ _ (@pe_bl _ _ _ _))) (@pss_nil _)) (@pss_cons _ _ _ _ _ (@ps_for _ _ _ _ _ _ _ _ PassesOwn.never rfl (@pi_list _ _ _ _ (pv 0)) (@pg_name _ _ (1) _ sc_is_kind.nd rfl (Or.inl rfl) (by first | exact .inl rfl | exact .inr rfl | assumption)) (@pss_one _ _ _ (@ps_if _ _ _ _ _ _ _ _ (@pw_or _ _ _ _ _ _ _ (@pt_not _ _ _ _ (@pt_val _ _ _ (@pe_cal _ _ _ _ _ _ _ _ _ _ c_is_whole hr_is_whole (@pa_cons _ _ _ _ _ (pv 1) (@pa_nil _) (by rfl)) (by rfl) (by decide) (by rfl) (by rfl)) (by intro _; rfl))) (@pw_or1 _ _ _ _ (@pt_cmpR _ _ _ _ _ _ _ _ op_lt (pv 1) (@pe_int _ _ _ _) (nomark _)))).pt (@pss_one _ _ _ (@ps_ret _ _ _ _ (@pe_bl _ _ _ _))) (@pss_nil _))) (by intro _; rfl)) (@pss_one _ _ _ (@ps_ret _ _ _ _ (@pe_and _ _ _ _ _ _ _ (@pe_cmpR _ _ _ _ _ _ _ _ (op_eqL 0 hu) (pv 0) (@pe_sortedT _ _ _ _ _ _ _ _ K B.sorted (@pa_cons _ _ _ _ _ (pv 0) (@pa_nil _) (by rfl)) (by rfl) (by rfl) (by rfl) (by rfl)) (nomark _)) (@pe_one _ _ _ _ _ (@pe_cmpR _ _ _ _ _ _ _ _ op_le (@pe_sum _ _ _ _ _ rfl B.sum (@pa_cons _ _ _ _ _ (pv 0) (@pa_nil _) (by rfl)) (by rfl) (by rfl)) (@pe_glob _ _ (.int 40) _ _ (by rfl) m_MOST_THINGS ⟨_, rfl⟩ (by decide)) (nomark _))))))), ?_⟩
    have kl := hk.len
    refine ⟨_, rfl, _, "list", _, true, rfl, .lst ha, kit_same K "list", true, rfl, ?_⟩
    refine iteF ?_
    refine ⟨_, rfl, a, rfl, ⟨_, SqL.of ha⟩, for_list (K := K) (a := a) (xs := ks.map V.int) (fun i σ H2 => ∃ v : Option V, σ = [some (.ref a), v] ∧ H2 = H) ⟨none, rfl, rfl⟩ (fun i σ H2 _ ⟨_, _, e⟩ => by rw [e]; exact SqL.of ha) ?_ ?_⟩
    · rintro i x σ H2 hi ⟨v, rfl, rfl⟩
      obtain ⟨z, hz, rfl⟩ := getElem_int hi
      have z1 := hk.pos z (List.mem_of_getElem? hz)
      refine ⟨_, rfl, .int z, _, true, false, rfl, .int z, kit_same K "int", kit_int_bool K, _, rfl, ?_⟩
      refine iteF ⟨_, rfl, _, _, rfl, rfl, _, rfl, ?_⟩
      refine ite2 (fun h => absurd (of_decide_eq_true h) (by omega)) (fun _ => ?_)
      exact ⟨_, rfl, rfl⟩
    · rintro σ H2 ⟨v, rfl, rfl⟩
      refine ⟨_, rfl, _, rfl, a, ks, rfl, SqL.of ha, fun ms l pm fl hl => ?_⟩
      have em : ms = ks := sorted_same pm fl hk.fal
      subst em
      have s3 : Same H2 (upd H2 l (.lst (ms.map V.int))) := Same.upd_new hl
      have h3l : (upd H2 l (.lst (ms.map V.int))) l = some (.lst (ms.map V.int)) := upd_same
      generalize (upd H2 l (.lst (ms.map V.int))) = H3 at s3 h3l ⊢
      refine ⟨a, l, _, _, _, rfl, rfl, SqL.of (s3 _ _ ha), SqL.of h3l, leq_ints _ _ _ _ _, _, rfl, ?_⟩
      rw [decide_eq_true rfl]
      refine iteT ⟨_, rfl, a, ms, rfl, SqL.of (s3 _ _ ha), _, _, rfl, rfl, ?_⟩
      show Q (V.bl (decide (ms.sum ≤ 40))) H3
      rw [decide_eq_true hk.sum]
      exact q _ s3
def spOneOf : Sp := fun vs H Q _ => ∃ (a : Addr) (ks : List Int), vs = [.ref a] ∧ H a = some (.lst (ks.map V.int)) ∧ IsKind ks ∧ ∀ (l : Addr) (t : List Int) (rs : List (List Int)) (H' : Hp), H l = none → Same H H' → H' l = some (.lst (t.map V.int)) → Along t rs → rs.flatten = upTo 0 t.length → rs.map (fun r => (r.length : Int)) = ks → t.length ≤ 40 → Q (.ref l) H'
theorem upTo_app (a : Int) (m n : Nat) : upTo a m ++ upTo (a + m) n = upTo a (m + n) := by
  unfold L2.upTo
  rw [List.range_add, List.map_append, List.map_map]
  congr 1
  refine List.map_congr_left fun i _ => ?_
  show a + (m : Int) + (i : Int) = a + ((m + i : Nat) : Int)
  omega
def ivals : Int → List Int → List (List Int)
  | _, [] => []
  | b, x :: xs => upTo b x.toNat :: ivals (b + x) xs
theorem ivals_snoc : ∀ (b : Int) (xs : List Int) (y : Int), ivals b (xs ++ [y]) = ivals b xs ++ [upTo (b + xs.sum) y.toNat]
  | b, [], y => by show [upTo b y.toNat] = [upTo (b + ([] : List Int).sum) y.toNat]; rw [List.sum_nil, Int.add_zero]
  | b, x :: xs, y => by
    show upTo b x.toNat :: ivals (b + x) (xs ++ [y]) = upTo b x.toNat :: (ivals (b + x) xs ++ [_])
    rw [ivals_snoc, List.sum_cons, Int.add_assoc]
theorem ivals_flat : ∀ (b : Int) (xs : List Int), (∀ x ∈ xs, 1 ≤ x) → (ivals b xs).flatten = upTo b xs.sum.toNat
  | b, [], _ => by show [] = _; rw [List.sum_nil]; rfl
  | b, x :: xs, h => by
    have h1 := h x List.mem_cons_self
    have h2 := sum_ge fun y hy => h y (List.mem_cons_of_mem _ hy)
    show upTo b x.toNat ++ (ivals (b + x) xs).flatten = _
    rw [ivals_flat _ xs fun y hy => h y (List.mem_cons_of_mem _ hy), List.sum_cons]
    have e : b + x = b + ((x.toNat : Nat) : Int) := by omega
    rw [e, upTo_app]
    congr 1
    omega
theorem ivals_len : ∀ (b : Int) (xs : List Int), (∀ x ∈ xs, 1 ≤ x) → (ivals b xs).map (fun r => (r.length : Int)) = xs
  | b, [], _ => rfl
  | b, x :: xs, h => by
    have h1 := h x List.mem_cons_self
    show ((upTo b x.toNat).length : Int) :: (ivals (b + x) xs).map _ = _
    rw [ivals_len _ xs fun y hy => h y (List.mem_cons_of_mem _ hy), length_upTo]
    congr 1
    omega
theorem ivals_ne {b : Int} {xs : List Int} (h : ∀ x ∈ xs, 1 ≤ x) : ∀ r ∈ ivals b xs, r ≠ [] := fun r hr e => by
  have m : (r.length : Int) ∈ (ivals b xs).map (fun r => (r.length : Int)) := List.mem_map.mpr ⟨r, hr, rfl⟩
  rw [ivals_len b xs h] at m
  have := h _ m
  rw [e] at this
  simp at this
theorem take_sum_le {ks : List Int} (h : ∀ x ∈ ks, 1 ≤ x) (i : Nat) : (ks.take i).sum ≤ ks.sum := by
  have e : ks.sum = (ks.take i).sum + (ks.drop i).sum := by rw [← List.sum_append, List.take_append_drop]
  have := sum_ge (l := ks.drop i) fun y hy => h y (List.mem_of_mem_drop hy)
  omega
theorem sc_one_of_kind : FnScope ["kind", "rounds", "begin", "length"] ["kind"] (defScope s_one_of_kind) := ⟨rfl, rfl, rfl, by decide +kernel, rfl, by decide +kernel, by decide +kernel⟩
theorem ok_one_of_kind {f : Addr} {fd : FuncData} (F : Fun K "one_of_kind" "one_of_kind" s_one_of_kind f fd) (B : Bl mg) (c_from_rounds : Cal P w K mg base "from_rounds" 3 ["rounds"] spFrom) : FnOk P w K mg base CX0 4 f fd ["kind"] spOneOf := by
  refine F.ok sc_one_of_kind (fun vs H Q E h => ?_) (fun cdv A outer s H vs Q E hr h => ?_)
  · obtain ⟨a, ks, rfl, ha, hk, q⟩ := h
    rfl
  · obtain ⟨a, ks, rfl, ha, hk, q⟩ := h
    have hr_from_rounds : Room 3 _ := hr.mono (by decide)
    refine ⟨_, @pss_cons _ _ _ _ _ (@ps_set _ _ (1) _ _ _ _ sc_one_of_kind.nd rfl (Or.inl rfl) (@pe_lst _ _ _ _ (@pa_nil _)) (by rfl) (by first | exact .inl rfl | exact .inr rfl | assumption)) (@pss_cons _ _ _ _ _ (@ps_set _ _ (2) _ _ _ _ sc_one_of_kind.nd rfl (Or.inl rfl) (@pe_int _ _ _ _) (by rfl) (by first | exact .inl rfl | exact .inr rfl | assumption)) (@pss_cons _ _ _ _ _ (@ps_for _ _ _ _ _ _ _ _ PassesOwn.never rfl (@pi_list _ _ _ _ (pv 0)) (@pg_name _ _ (3) _ sc_one_of_kind.nd rfl (Or.inl rfl) (by first | exact .inl rfl | exact .inr rfl | assumption)) (@pss_cons _ _ _ _ _ (@ps_expr _ _ _ _ (@pe_append _ _ _ _ _ _ _ (pv 1) (@pa_cons _ _ _ _ _ (@pe_listRng2 _ _ _ _ _ _ _ _ rfl B.list B.range (@pa_cons _ _ _ _ _ (pv 2) (@pa_cons _ _ _ _ _ (@pe_op _ _ _ _ _ _ _ _ op_add (pv 2) (pv 3)) (@pa_nil _) (by rfl)) (by rfl)) (by rfl) (by rfl) (by rfl) (by rfl) (by rfl)) (@pa_nil _) (by rfl)) (by rfl) (by rfl) (by rfl) (by rfl) (by rfl)) (by rfl)) (@pss_one _ _ _ (@ps_set _ _ (2) _ _ _ _ sc_one_of_kind.nd rfl (Or.inl rfl) (@pe_op _ _ _ _ _ _ _ _ op_add (pv 2) (pv 3)) (by rfl) (by first | exact .inl rfl | exact .inr rfl | assumption)))) (by intro _; rfl)) (@pss_one _ _ _ (@ps_ret _ _ _ _ (@pe_cal _ _ _ _ _ _ _ _ _ _ c_from_rounds hr_from_rounds (@pa_cons _ _ _ _ _ (pv 1) (@pa_nil _) (by rfl)) (by rfl) (by decide) (by rfl) (by rfl)))))), ?_⟩
    have kl := hk.len
    refine ⟨Nat.zero_le _, fun L hL => ?_⟩
    have s1 : Same H (upd H L (.lst [])) := Same.upd_new hL
    have h1L : (upd H L (.lst [])) L = some (.lst (([] : List Addr).map V.ref)) := upd_same
    generalize (upd H L (.lst [])) = H1 at s1 h1L ⊢
    refine ⟨_, rfl, a, rfl, ⟨_, SqL.of (s1 _ _ ha)⟩, for_list (K := K) (a := a) (xs := ks.map V.int) (fun i σ H2 => ∃ (as : List Addr) (v3 : Option V), σ = [some (.ref a), some (.ref L), some (.int (ks.take i).sum), v3] ∧ H2 L = some (.lst (as.map V.ref)) ∧ RowsH H2 as (ivals 0 (ks.take i)) ∧ Same H H2 ∧ (∀ b ∈ as, H b = none) ∧ L ∉ as)
      ⟨[], none, rfl, h1L, ⟨rfl, fun j b r h => by cases h⟩, s1, (fun b hb => by cases hb), (fun z => by cases z)⟩ (fun i σ H2 _ ⟨_, _, _, _, _, s, _⟩ => SqL.of (s _ _ ha)) ?_ ?_⟩
    · rintro i x σ H2 hi ⟨as, v3, rfl, h2L, rows, s2, fa, nla⟩
      obtain ⟨z, hz, rfl⟩ := getElem_int hi
      have z1 := hk.pos z (List.mem_of_getElem? hz)
      have t0 := sum_ge (l := ks.take i) fun y hy => hk.pos y (List.mem_of_mem_take hy)
      have et := take_succ_of hz
      have t1 := take_sum_le hk.pos (i + 1)
      have hs40 := hk.sum
      rw [et, List.sum_append, List.sum_singleton] at t1
      have il : i < ks.length := (List.getElem?_eq_some_iff.mp hz).1
      have alen := rows.1
      have vlen : (ivals 0 (ks.take i)).length = i := by
        have := congrArg List.length (ivals_len 0 (ks.take i) fun y hy => hk.pos y (List.mem_of_mem_take hy))
        rw [List.length_map, List.length_take] at this
        omega
      refine ⟨_, rfl, .inl ⟨rfl, _, SqL.of h2L⟩, _, rfl, _, rfl, _, rfl, _, _, rfl, rfl, _, _, rfl, fun r hr' => ?_⟩
      have nLr : L ≠ r := ne_of_none h2L hr'
      have s3 : Same H2 (upd H2 r (.rng (ks.take i).sum ((ks.take i).sum + z))) := Same.upd_new hr'
      have h3r : (upd H2 r (.rng (ks.take i).sum ((ks.take i).sum + z))) r = some (.rng (ks.take i).sum ((ks.take i).sum + z)) := upd_same
      generalize (upd H2 r (.rng (ks.take i).sum ((ks.take i).sum + z))) = H3 at s3 h3r ⊢
      refine ⟨r, _, _, rfl, h3r, ⟨by omega, by omega, by omega, by omega⟩, by omega, fun e he => ?_⟩
      have ez : ((ks.take i).sum + z - (ks.take i).sum).toNat = z.toNat := by omega
      rw [ez]
      have h3L := s3 _ _ h2L
      have nLe : L ≠ e := ne_of_none h3L he
      have h4L : (upd H3 e (.lst ((upTo (ks.take i).sum z.toNat).map V.int))) L = some (.lst (as.map V.ref)) := by rw [upd_ne nLe]; exact h3L
      refine ⟨L, _, _, rfl, rfl, h4L, small1000 (by rw [List.length_map]; omega), ?_⟩
      have es : as.map V.ref ++ [V.ref e] = (as ++ [e]).map V.ref := by rw [List.map_append]; rfl
      rw [es]
      have he2 : H2 e = none := s3.free he
      have h5L : (upd (upd H3 e (.lst ((upTo (ks.take i).sum z.toNat).map V.int))) L (.lst ((as ++ [e]).map V.ref))) L = some (.lst ((as ++ [e]).map V.ref)) := upd_same
      have h5e : (upd (upd H3 e (.lst ((upTo (ks.take i).sum z.toNat).map V.int))) L (.lst ((as ++ [e]).map V.ref))) e = some (.lst ((upTo (ks.take i).sum z.toNat).map V.int)) := by rw [upd_ne nLe.symm, upd_same]
      have k5 : KeepBut L H2 (upd (upd H3 e (.lst ((upTo (ks.take i).sum z.toNat).map V.int))) L (.lst ((as ++ [e]).map V.ref))) := fun c o hc hn => by rw [upd_ne hn, upd_ne (ne_of_none (s3 c o hc) he)]; exact s3 c o hc
      generalize (upd (upd H3 e (.lst ((upTo (ks.take i).sum z.toNat).map V.int))) L (.lst ((as ++ [e]).map V.ref))) = H5 at h5L h5e k5 ⊢
      refine ⟨_, rfl, _, rfl, _, _, rfl, rfl, as ++ [e], some (.int z), ?_, h5L, ?_, s2.kb k5 hL, fun c hc => ?_, ?_⟩
      · rw [et, List.sum_append, List.sum_singleton]; rfl
      · rw [et, ivals_snoc, Int.zero_add]
        exact rows_snoc (rows_keep rows fun c hc o e => k5 c o e fun z => nla (z ▸ hc)) h5e
      · rcases List.mem_append.mp hc with z | z
        · exact fa c z
        · rw [List.mem_singleton.mp z]; exact s2.free he2
      · intro z
        rcases List.mem_append.mp z with z | z
        · exact nla z
        · exact nLe (List.mem_singleton.mp z)
    · rintro σ H2 ⟨as, v3, rfl, h2L, rows, s2, fa, nla⟩
      rw [List.length_map, List.take_length] at rows
      have fl := ivals_flat 0 ks hk.pos
      have lenf : (ivals 0 ks).flatten.length = ks.sum.toNat := by rw [fl, length_upTo]
      have s0 := sum_ge hk.pos
      have hs40 := hk.sum
      have isT : IsT (ivals 0 ks).flatten := by
        rw [fl]
        refine ⟨?_, fun x hx => (mem_upTo.mp hx).1, fun x hx => ?_⟩
        · unfold L2.upTo
          exact List.Pairwise.map _ (fun a b h => by omega) (List.nodup_range (n := ks.sum.toNat))
        · rw [length_upTo]; exact (mem_upTo.mp hx).2
      refine ⟨_, rfl, L, as, _, rfl, h2L, rows, ivals_ne hk.pos, isT, by omega, fun o t H3 ho s3 h3o tl al => ?_⟩
      exact q o t (ivals 0 ks) H3 (s2.free ho) (s2.trans s3) h3o al (by rw [fl, tl, lenf]) (ivals_len 0 ks hk.pos) (by omega)
def spOrders : Sp := fun vs H Q _ => ∃ n : Nat, vs = [.int (n : Int)] ∧ n ≤ 1000 ∧ Q (.int ((facN n : Nat) : Int)) H
theorem sc_orders_of : FnScope ["n", "many", "free"] ["n"] (defScope s_orders_of) := ⟨rfl, rfl, rfl, by decide +kernel, rfl, by decide +kernel, by decide +kernel⟩
theorem ok_orders_of {f : Addr} {fd : FuncData} (F : Fun K "orders_of" "orders_of" s_orders_of f fd) (B : Bl mg) : FnOk P w K mg base CX0 1 f fd ["n"] spOrders := by
  refine F.ok sc_orders_of (fun vs H Q E h => ?_) (fun cdv A outer s H vs Q E hr h => ?_)
  · obtain ⟨n, rfl, hn, q⟩ := h
    rfl
  · obtain ⟨n, rfl, hn, q⟩ := h
    refine ⟨_, @pss_cons _ _ _ _ _ (@ps_set _ _ (1) _ _ _ _ sc_orders_of.nd rfl (Or.inl rfl) (@pe_int _ _ _ _) (by rfl) (by first | exact .inl rfl | exact .inr rfl | assumption)) (@pss_cons _ _ _ _ _ (@ps_for _ _ _ _ _ _ _ _ PassesOwn.never rfl (@pi_range2 _ _ _ _ _ _ _ (by rfl) B.range (@pa_cons _ _ _ _ _ (@pe_int _ _ _ _) (@pa_cons _ _ _ _ _ (@pe_op _ _ _ _ _ _ _ _ op_add (pv 0) (@pe_int _ _ _ _)) (@pa_nil _) (by rfl)) (by rfl)) (by rfl) (by rfl)) (@pg_name _ _ (2) _ sc_orders_of.nd rfl (Or.inl rfl) (by first | exact .inl rfl | exact .inr rfl | assumption)) (@pss_one _ _ _ (@ps_set _ _ (1) _ _ _ _ sc_orders_of.nd rfl (Or.inl rfl) (@pe_op _ _ _ _ _ _ _ _ op_mul (pv 1) (pv 2)) (by rfl) (by first | exact .inl rfl | exact .inr rfl | assumption))) (by intro _; rfl)) (@pss_one _ _ _ (@ps_ret _ _ _ _ (pv 1)))), ?_⟩
    refine ⟨_, rfl, _, _, rfl, rfl, 1, (n : Int) + 1, rfl, ⟨by decide, by decide, by omega, by omega⟩, ?_⟩
    have en : ((n : Int) + 1 - 1).toNat = n := by omega
    rw [en]
    refine for_range (lo := 1) (n := n) (fun i σ H2 => ∃ v2 : Option V, σ = [some (.int (n : Int)), some (.int ((facN i : Nat) : Int)), v2] ∧ H2 = H) ⟨none, rfl, rfl⟩ ?_ ?_
    · rintro i σ H2 hi ⟨v2, rfl, rfl⟩
      have e64 : (2 : Int) ^ 64 = 18446744073709551616 := by decide
      refine ⟨_, rfl, _, rfl, _, _, rfl, rfl, .inr ⟨by rw [e64]; omega, by rw [e64]; omega⟩, some (.int (1 + (i : Int))), ?_, rfl⟩
      have e : ((facN i : Nat) : Int) * (1 + (i : Int)) = ((facN (i + 1) : Nat) : Int) := by
        show _ = ((facN i * (i + 1) : Nat) : Int)
        rw [Int.natCast_mul]; congr 1; omega
      rw [← e]; rfl
    · rintro σ H2 ⟨v2, rfl, rfl⟩
      exact ⟨_, rfl, q⟩
def spHowOf : Sp := fun vs H Q _ => ∃ (a : Addr) (ks : List Int), vs = [.ref a] ∧ H a = some (.lst (ks.map V.int)) ∧ IsKind ks ∧ ∀ H' : Hp, Same H H' → Q (.int ((manyK ks : Nat) : Int)) H'
theorem sum_lens : ∀ rs : List (List Int), (rs.map fun r => (r.length : Int)).sum = (rs.flatten.length : Int)
  | [] => rfl
  | r :: rs => by
    rw [List.map_cons, List.sum_cons, sum_lens rs, List.flatten_cons, List.length_append]
    omega
theorem past_kind {ks t : List Int} {rs : List (List Int)} (hk : IsKind ks) (al : Along t rs) (fl : rs.flatten = upTo 0 t.length) (lens : rs.map (fun r => (r.length : Int)) = ks) : prodF (pastL t) ((List.range t.length).map (· + 1)) = zK ks ks.length := by
  have tot : ks.sum = (t.length : Int) := by rw [← lens, sum_lens, fl, length_upTo]
  have nd : ((List.range t.length).map (· + 1)).Nodup := List.Pairwise.map (fun x : Nat => x + 1) (fun a b h => by omega) (List.nodup_range (n := t.length))
  rw [zK_prod hk.pos nd (fun x hx => by
    have h1 := hk.pos x hx
    have h2 := mem_le_sum hk.pos x hx
    exact List.mem_map.mpr ⟨x.toNat - 1, List.mem_range.mpr (by omega), by omega⟩) ks.length (Nat.le_refl _)]
  have same : ∀ us : List Nat, (∀ u ∈ us, 1 ≤ u) → prodF (pastL t) us = prodF (fun l => facL l ((ks.take ks.length).countP fun x => decide (x.toNat = l))) us := by
    intro us
    induction us with
    | nil => intro _; rfl
    | cons u us ih =>
      intro hu
      show pastL t u * prodF (pastL t) us = facL u _ * prodF _ us
      rw [ih fun v hv => hu v (List.mem_cons_of_mem _ hv)]
      congr 1
      have u1 := hu u List.mem_cons_self
      unfold pastL persL
      rw [along_count al fl u, Nat.mul_div_cancel_left _ (by omega), List.take_length]
      congr 1
      rw [← lens, List.countP_map]
      unfold cntL
      refine List.countP_congr fun r _ => ?_
      simp
  exact same _ fun u hu => by obtain ⟨i, _, rfl⟩ := List.mem_map.mp hu; omega
theorem sc_how_many_of : FnScope ["kind"] ["kind"] (defScope s_how_many_of) := ⟨rfl, rfl, rfl, by decide +kernel, rfl, by decide +kernel, by decide +kernel⟩
theorem ok_how_many_of {f : Addr} {fd : FuncData} (F : Fun K "how_many_of" "how_many_of" s_how_many_of f fd) (B : Bl mg) (c_is_kind : Cal P w K mg base "is_kind" 2 ["thing"] spIsKind) (c_orders_of : Cal P w K mg base "orders_of" 1 ["n"] spOrders) (c_how_many_past : Cal P w K mg base "how_many_past" 4 ["p"] spHow) (c_one_of_kind : Cal P w K mg base "one_of_kind" 4 ["kind"] spOneOf) : FnOk P w K mg base CX0 5 f fd ["kind"] spHowOf := by
  refine F.ok sc_how_many_of (fun vs H Q E h => ?_) (fun cdv A outer s H vs Q E hr h => ?_)
  · obtain ⟨a, ks, rfl, ha, hk, q⟩ := h
    rfl
  · obtain ⟨a, ks, rfl, ha, hk, q⟩ := h
    have hr_is_kind : Room 2 _ := hr.mono (by decide)
    have hr_orders_of : Room 1 _ := hr.mono (by decide)
    have hr_how_many_past : Room 4 _ := hr.mono (by decide)
    have hr_one_of_kind : Room 4 _ := hr.mono (by decide)
    refine ⟨_, @pss_cons _ _ _ _ _ (@ps_if _ _ _ _ _ _ _ _ (@pt_not _ _ _ _ (@pt_val _ _ _ (@pe_cal _ _ _ _ _ _ _ _ _ _ c_is_kind hr_is_kind (@pa_cons _ _ _ _ _ (pv 0) (@pa_nil _) (by rfl)) (by rfl) (by decide) (by rfl) (by rfl)) (by intro _; rfl))) (@pss_one _ _ _ (@ps_never _ _)) (@pss_nil _)) (@pss_one _ _ _ (@ps_ret _ _ _ _ (@pe_op _ _ _ _ _ _ _ _ op_fdivH (@pe_cal _ _ _ _ _ _ _ _ _ _ c_orders_of hr_orders_of (@pa_cons _ _ _ _ _ (@pe_sum _ _ _ _ _ rfl B.sum (@pa_cons _ _ _ _ _ (pv 0) (@pa_nil _) (by rfl)) (by rfl) (by rfl)) (@pa_nil _) (by rfl)) (by rfl) (by decide) (by rfl) (by rfl)) (@pe_cal _ _ _ _ _ _ _ _ _ _ c_how_many_past hr_how_many_past (@pa_cons _ _ _ _ _ (@pe_cal _ _ _ _ _ _ _ _ _ _ c_one_of_kind hr_one_of_kind (@pa_cons _ _ _ _ _ (pv 0) (@pa_nil _) (by rfl)) (by rfl) (by decide) (by rfl) (by rfl)) (@pa_nil _) (by rfl)) (by rfl) (by decide) (by rfl) (by rfl))))), ?_⟩
    refine ⟨_, rfl, a, ks, rfl, ha, hk, fun H1 s1 => ⟨true, rfl, ?_⟩⟩
    refine iteF ?_
    have h1a := s1 _ _ ha
    have s0 := sum_ge hk.pos
    have hs := hk.sum
    have es : ks.sum = ((ks.sum.toNat : Nat) : Int) := by omega
    refine ⟨_, rfl, a, ks, rfl, SqL.of h1a, ks.sum.toNat, congrArg (fun z => [V.int z]) es, by omega, _, rfl, a, ks, rfl, h1a, hk, fun l t rs H2 hl s2 h2l al fl lens tl => ?_⟩
    refine ⟨l, t, rfl, ⟨h2l, along_turn al fl, tl⟩, fun H3 s3 => ?_⟩
    rw [past_kind hk al fl lens]
    obtain ⟨b1, b2⟩ := zK_bound hk.pos hk.le hk.len ks.length (Nat.le_refl _)
    refine ⟨_, _, rfl, rfl, ⟨by omega, by rw [Int.natAbs_natCast]; exact big_pow hk.len b2⟩, ?_⟩
    exact q H3 ((s1.trans s2).trans s3)
end
end My
namespace My
open PySem L2 Mth
section
variable {P : Program} {w : World} {K : PySem.W.Frag} {mg : Str → Option Value} {base : Heap}
def toI (xs : List Nat) : List Int := xs.map fun (d : Nat) => (d : Int)
def rightsN (l m j : Nat) : List Nat := ((List.range j).map (· + 1)).filter fun d => decide (Nat.gcd (d * l) m = d)
theorem rightsN_succ (l m j : Nat) : rightsN l m (j + 1) = if Nat.gcd ((j + 1) * l) m = j + 1 then rightsN l m j ++ [j + 1] else rightsN l m j := by
  unfold rightsN
  rw [List.range_succ, List.map_append, List.filter_append]
  show _ ++ List.filter _ [j + 1] = _
  split
  · rename_i h
    rw [List.filter_cons_of_pos (p := fun d => decide (Nat.gcd (d * l) m = d)) (decide_eq_true h)]; rfl
  · rename_i h
    rw [List.filter_cons_of_neg (p := fun d => decide (Nat.gcd (d * l) m = d)) (by simpa using h), List.filter_nil, List.append_nil]
theorem rightsN_len (l m j : Nat) : (rightsN l m j).length ≤ j := by
  unfold rightsN
  refine Nat.le_trans (List.length_filter_le _ _) ?_
  rw [List.length_map, List.length_range]; exact Nat.le_refl _
theorem rightsN_pos {l m j d : Nat} (h : d ∈ rightsN l m j) : 1 ≤ d ∧ d ≤ j := by
  unfold rightsN at h
  obtain ⟨i, hi, e⟩ := List.mem_map.mp (List.mem_filter.mp h).1
  have := List.mem_range.mp hi
  omega
def spRights : Sp := fun vs H Q _ => ∃ (l m j : Nat), vs = [.int (l : Int), .int (m : Int), .int (j : Int)] ∧ l ≤ 1000 ∧ j ≤ 1000 ∧ ∀ (a : Addr) (H' : Hp), H a = none → Same H H' → H' a = some (.lst ((toI (rightsN l m j)).map V.int)) → Q (.ref a) H'
theorem sc_right_numbers : FnScope ["length", "m", "most"] ["length", "m", "most"] (defScope s_right_numbers) := ⟨rfl, rfl, rfl, by decide +kernel, rfl, by decide +kernel, by decide +kernel⟩
theorem nd_d_m_length_right_numbers : (["d", "m", "length"] : List Str).Nodup := by decide +kernel
theorem ok_right_numbers {f : Addr} {fd : FuncData} (F : Fun K "right_numbers" "right_numbers" s_right_numbers f fd) (B : Bl mg) (c_greatest_part : Cal P w K mg base "greatest_part" 1 ["a", "b"] spGcd) : FnOk P w K mg base CX0 2 f fd ["length", "m", "most"] spRights := by
  refine F.ok sc_right_numbers (fun vs H Q E h => ?_) (fun cdv A outer s H vs Q E hr h => ?_)
  · obtain ⟨l, m, j, rfl, hl, hj, q⟩ := h
    rfl
  · obtain ⟨l, m, j, rfl, hl, hj, q⟩ := h
    have hr_greatest_part : Room 1 _ := hr.mono (by decide)
    refine ⟨_, @pss_one _ _ _ (@ps_ret _ _ _ _ (@pe_comp _ _ _ _ _ _ _ _ _ _ _ (["d", "m", "length"]) (1) ([1, 0]) rfl .of (@pi_range2 _ _ _ _ _ _ _ (by rfl) B.range (@pa_cons _ _ _ _ _ (@pe_int _ _ _ _) (@pa_cons _ _ _ _ _ (@pe_op _ _ _ _ _ _ _ _ op_add (pv 2) (@pe_int _ _ _ _)) (@pa_nil _) (by rfl)) (by rfl)) (by rfl) (by rfl)) (fun _ _ _ _ _ => @pg_name _ _ (0) _ nd_d_m_length_right_numbers rfl (Or.inl rfl) (by first | exact .inl rfl | exact .inr rfl | assumption)) (fun _ _ _ _ _ => @pifs_one _ _ _ (@pt_cmpR _ _ _ _ _ _ _ _ op_eq (@pe_cal _ _ _ _ _ _ _ _ _ _ c_greatest_part hr_greatest_part (@pa_cons _ _ _ _ _ (@pe_op _ _ _ _ _ _ _ _ op_mul (pv 0) (pv 2)) (@pa_cons _ _ _ _ _ (pv 1) (@pa_nil _) (by rfl)) (by rfl)) (by rfl) (by decide) (by rfl) (by rfl)) (pv 0) (nomark _))) (fun _ _ _ _ _ => (pv 0)) (by intro _; rfl))), ?_⟩
    refine ⟨_, rfl, _, _, rfl, rfl, 1, (j : Int) + 1, rfl, ⟨by decide, by decide, by omega, by omega⟩, ?_⟩
    have en : ((j : Int) + 1 - 1).toNat = j := by omega
    rw [en]
    refine comp_range (lo := 1) (n := j) (fun i ys σ H2 => ∃ v : Option V, σ = [v, some (.int (m : Int)), some (.int (l : Int))] ∧ H2 = H ∧ ys = (toI (rightsN l m i)).map V.int) ⟨none, rfl, rfl, by simp [rightsN, toI]⟩ ?_ ?_
    · rintro i ys σ H2 hi ⟨v, rfl, rfl, rfl⟩
      have li := rightsN_len l m i
      have es := rightsN_succ l m i
      have e1 : (1 : Int) + (i : Int) = ((i + 1 : Nat) : Int) := by omega
      refine ⟨_, rfl, _, rfl, _, _, rfl, rfl, .inr ⟨by omega, by omega⟩, _, rfl, (i + 1) * l, m, ?_, ?_⟩
      · show [V.int ((1 + (i : Int)) * (l : Int)), V.int (m : Int)] ++ [] = _
        rw [e1, ← Int.natCast_mul]
        rfl
      refine ⟨_, rfl, rfl, _, rfl, ite2 (fun h1 => ?_) (fun h1 => ?_)⟩
      · have d1 : Nat.gcd ((i + 1) * l) m = i + 1 := by
          have := V.int.inj (of_decide_eq_true h1)
          omega
        refine ⟨_, rfl, small1000 (by unfold toI; rw [List.length_map, List.length_map]; omega), _, rfl, rfl, ?_⟩
        rw [es, if_pos d1]
        unfold toI
        rw [List.map_append, List.map_append, e1]
        rfl
      · have d1 : ¬ Nat.gcd ((i + 1) * l) m = i + 1 := fun e => h1 (decide_eq_true (congrArg V.int (by rw [e]; omega)))
        refine ⟨_, rfl, rfl, ?_⟩
        rw [es, if_neg d1]
    · rintro ys σ H2 ⟨v, rfl, rfl, rfl⟩ D hD
      exact q D _ hD (Same.upd_new hD) upd_same
def followN (n l : Nat) : Nat → Nat
  | 0 => 1
  | k + 1 => followN n l k * (n - (k + 1)) * l
def spFollow : Sp := fun vs H Q _ => ∃ (n d l : Nat), vs = [.int (n : Int), .int (d : Int), .int (l : Int)] ∧ 1 ≤ d ∧ d ≤ n ∧ n ≤ 1000 ∧ l ≤ 1000 ∧ Q (.int ((followN n l (d - 1) : Nat) : Int)) H
theorem sc_ways_to_follow : FnScope ["left", "part", "length", "ways", "taken"] ["left", "part", "length"] (defScope s_ways_to_follow) := ⟨rfl, rfl, rfl, by decide +kernel, rfl, by decide +kernel, by decide +kernel⟩
theorem ok_ways_to_follow {f : Addr} {fd : FuncData} (F : Fun K "ways_to_follow" "ways_to_follow" s_ways_to_follow f fd) (B : Bl mg) : FnOk P w K mg base CX0 1 f fd ["left", "part", "length"] spFollow := by
  refine F.ok sc_ways_to_follow (fun vs H Q E h => ?_) (fun cdv A outer s H vs Q E hr h => ?_)
  · obtain ⟨n, d, l, rfl, d1, dn, hn, hl, q⟩ := h
    rfl
  · obtain ⟨n, d, l, rfl, d1, dn, hn, hl, q⟩ := h
    refine ⟨_, @pss_cons _ _ _ _ _ (@ps_set _ _ (3) _ _ _ _ sc_ways_to_follow.nd rfl (Or.inl rfl) (@pe_int _ _ _ _) (by rfl) (by first | exact .inl rfl | exact .inr rfl | assumption)) (@pss_cons _ _ _ _ _ (@ps_for _ _ _ _ _ _ _ _ PassesOwn.never rfl (@pi_range2 _ _ _ _ _ _ _ (by rfl) B.range (@pa_cons _ _ _ _ _ (@pe_int _ _ _ _) (@pa_cons _ _ _ _ _ (pv 1) (@pa_nil _) (by rfl)) (by rfl)) (by rfl) (by rfl)) (@pg_name _ _ (4) _ sc_ways_to_follow.nd rfl (Or.inl rfl) (by first | exact .inl rfl | exact .inr rfl | assumption)) (@pss_one _ _ _ (@ps_set _ _ (3) _ _ _ _ sc_ways_to_follow.nd rfl (Or.inl rfl) (@pe_op _ _ _ _ _ _ _ _ op_mul (@pe_op _ _ _ _ _ _ _ _ op_mul (pv 3) (@pe_op _ _ _ _ _ _ _ _ op_sub (pv 0) (pv 4))) (pv 2)) (by rfl) (by first | exact .inl rfl | exact .inr rfl | assumption))) (by intro _; rfl)) (@pss_one _ _ _ (@ps_ret _ _ _ _ (pv 3)))), ?_⟩
    refine ⟨_, rfl, 1, (d : Int), rfl, ⟨by decide, by decide, by omega, by omega⟩, ?_⟩
    have en : ((d : Int) - 1).toNat = d - 1 := by omega
    rw [en]
    refine for_range (lo := 1) (n := d - 1) (fun i σ H2 => ∃ v : Option V, σ = [some (.int (n : Int)), some (.int (d : Int)), some (.int (l : Int)), some (.int ((followN n l i : Nat) : Int)), v] ∧ H2 = H) ⟨none, rfl, rfl⟩ ?_ ?_
    · rintro i σ H2 hi ⟨v, rfl, rfl⟩
      have e64 : (2 : Int) ^ 64 = 18446744073709551616 := by decide
      refine ⟨_, rfl, _, rfl, _, rfl, _, _, rfl, rfl, _, _, rfl, rfl, .inr ⟨by rw [e64]; omega, by rw [e64]; omega⟩, _, rfl, _, _, rfl, rfl, .inr ⟨by rw [e64]; omega, by rw [e64]; omega⟩, some (.int (1 + (i : Int))), ?_, rfl⟩
      have e : ((followN n l i : Nat) : Int) * ((n : Int) - (1 + (i : Int))) * (l : Int) = ((followN n l (i + 1) : Nat) : Int) := by
        show _ = ((followN n l i * (n - (i + 1)) * l : Nat) : Int)
        rw [Int.natCast_mul, Int.natCast_mul]
        congr 2
        omega
      rw [← e]; rfl
    · rintro σ H2 ⟨v, rfl, rfl⟩
      exact ⟨_, rfl, q⟩
def stepJ (l : Nat) (rs cs : List Nat) (n : Nat) : Nat := ((rs.filter fun d => decide (d ≤ n)).map fun d => followN n l (d - 1) * cs.getD (n - d) 0).sum
def joinsL (l : Nat) (rs : List Nat) : Nat → List Nat
  | 0 => [1]
  | k + 1 => joinsL l rs k ++ [stepJ l rs (joinsL l rs k) (k + 1)]
def joinsN (l m n : Nat) : Nat := (joinsL l (rightsN l m n) n).getD n 0
theorem joinsL_len (l : Nat) (rs : List Nat) : ∀ k, (joinsL l rs k).length = k + 1
  | 0 => rfl
  | k + 1 => by
    show (joinsL l rs k ++ [_]).length = _
    rw [List.length_append, joinsL_len l rs k]; rfl
theorem follow_le {n l : Nat} (h : n * l ≤ 1600) : ∀ k, followN n l k ≤ 1600 ^ k
  | 0 => Nat.le_refl _
  | k + 1 => by
    show followN n l k * (n - (k + 1)) * l ≤ _
    rw [Nat.mul_assoc, Nat.pow_succ]
    refine Nat.mul_le_mul (follow_le h k) (Nat.le_trans (Nat.mul_le_mul_right _ (Nat.sub_le _ _)) h)
theorem sum_le_mul {c : Nat} : ∀ {xs : List Nat}, (∀ x ∈ xs, x ≤ c) → xs.sum ≤ xs.length * c
  | [], _ => Nat.zero_le _
  | x :: xs, h => by
    have := sum_le_mul fun y hy => h y (List.mem_cons_of_mem _ hy)
    have := h x List.mem_cons_self
    rw [List.sum_cons, List.length_cons, Nat.add_mul, Nat.one_mul]
    omega
theorem joins_le {l : Nat} {rs : List Nat} (hl : l ≤ 40) (hr : rs.length ≤ 40) (h1 : ∀ d ∈ rs, 1 ≤ d) : ∀ k, k ≤ 40 → ∀ i, (joinsL l rs k).getD i 0 ≤ 1600 ^ i
  | 0, _, 0 => Nat.le_refl _
  | 0, _, i + 1 => Nat.zero_le _
  | k + 1, hk, i => by
    have ih := joins_le hl hr h1 k (by omega)
    show (joinsL l rs k ++ [_]).getD i 0 ≤ _
    have ln := joinsL_len l rs k
    rw [List.getD_eq_getElem?_getD]
    by_cases z : i < k + 1
    · rw [List.getElem?_append_left (by omega), ← List.getD_eq_getElem?_getD]
      exact ih i
    · rw [List.getElem?_append_right (by omega), ln]
      by_cases y : i = k + 1
      · subst y
        rw [Nat.sub_self]
        show stepJ l rs (joinsL l rs k) (k + 1) ≤ _
        unfold stepJ
        refine Nat.le_trans (sum_le_mul (c := 1600 ^ k) fun x hx => ?_) ?_
        · obtain ⟨d, hd, rfl⟩ := List.mem_map.mp hx
          obtain ⟨hd1, hd2⟩ := List.mem_filter.mp hd
          have d1 := h1 d hd1
          have d2 : d ≤ k + 1 := of_decide_eq_true hd2
          have a := follow_le (n := k + 1) (l := l) (Nat.le_trans (Nat.mul_le_mul hk hl) (by decide)) (d - 1)
          have b := ih (k + 1 - d)
          refine Nat.le_trans (Nat.mul_le_mul a b) ?_
          rw [← Nat.pow_add, show d - 1 + (k + 1 - d) = k by omega]
          exact Nat.le_refl _
        · rw [List.length_map, Nat.pow_succ, Nat.mul_comm (1600 ^ k)]
          refine Nat.mul_le_mul_right _ ?_
          have := List.length_filter_le (fun d => decide (d ≤ k + 1)) rs
          omega
      · rw [List.getElem?_eq_none (by show 1 ≤ i - (k + 1); omega)]
        exact Nat.zero_le _
theorem toI_get {xs : List Nat} {i : Int} (h0 : 0 ≤ i) (h1 : i < xs.length) : atI ((toI xs).map V.int) i = some (.int ((xs.getD i.toNat 0 : Nat) : Int)) := by
  have l : (toI xs).length = xs.length := List.length_map ..
  rw [Mth.atI_map h0 (by rw [l]; exact h1)]
  congr 2
  unfold toI
  rw [List.getD_eq_getElem?_getD, List.getD_eq_getElem?_getD, List.getElem?_map]
  cases xs[i.toNat]? <;> rfl
theorem toI_at {xs : List Nat} {j : Nat} {x : V} (h : ((toI xs).map V.int)[j]? = some x) : ∃ d : Nat, xs[j]? = some d ∧ x = .int (d : Int) := by
  unfold toI at h
  rw [List.getElem?_map, List.getElem?_map] at h
  cases e : xs[j]? with
  | none => rw [e] at h; cases h
  | some d => rw [e] at h; exact ⟨d, rfl, (Option.some.inj h).symm⟩
theorem toI_sum : ∀ xs : List Nat, (toI xs).sum = ((xs.sum : Nat) : Int)
  | [] => rfl
  | x :: xs => by
    show (x : Int) + (toI xs).sum = _
    rw [toI_sum xs, List.sum_cons, Int.natCast_add]
theorem pow_lt (i : Nat) (h : i ≤ 40) {n : Nat} (hn : 440 < n) : 1600 ^ i < 2 ^ n := by
  have a : 1600 ^ i ≤ (2 ^ 11) ^ i := Nat.pow_le_pow_left (by decide) i
  rw [← Nat.pow_mul] at a
  exact Nat.lt_of_le_of_lt a (Nat.pow_lt_pow_right (by decide) (by omega))
def spJoins : Sp := fun vs H Q _ => ∃ (l n m : Nat), vs = [.int (l : Int), .int (n : Int), .int (m : Int)] ∧ l ≤ 40 ∧ n ≤ 40 ∧ ∀ H' : Hp, Same H H' → Q (.int ((joinsN l m n : Nat) : Int)) H'
theorem sc_count_joins : FnScope ["length", "many", "m", "right", "counts", "left", "ways"] ["length", "many", "m"] (defScope s_count_joins) := ⟨rfl, rfl, rfl, by decide +kernel, rfl, by decide +kernel, by decide +kernel⟩
theorem nd_part_left_length_counts_count_joins : (["part", "left", "length", "counts"] : List Str).Nodup := by decide +kernel
theorem ok_count_joins {f : Addr} {fd : FuncData} (F : Fun K "count_joins" "count_joins" s_count_joins f fd) (B : Bl mg) (c_right_numbers : Cal P w K mg base "right_numbers" 2 ["length", "m", "most"] spRights) (c_ways_to_follow : Cal P w K mg base "ways_to_follow" 1 ["left", "part", "length"] spFollow) : FnOk P w K mg base CX0 3 f fd ["length", "many", "m"] spJoins := by
  refine F.ok sc_count_joins (fun vs H Q E h => ?_) (fun cdv A outer s H vs Q E hr h => ?_)
  · obtain ⟨l, n, m, rfl, hl, hn, q⟩ := h
    rfl
  · obtain ⟨l, n, m, rfl, hl, hn, q⟩ := h
    have hr_right_numbers : Room 2 _ := hr.mono (by decide)
    have hr_ways_to_follow : Room 1 _ := hr.mono (by decide)
    refine ⟨_, @pss_cons _ _ _ _ _ (@ps_set _ _ (3) _ _ _ _ sc_count_joins.nd rfl (Or.inl rfl) (@pe_cal _ _ _ _ _ _ _ _ _ _ c_right_numbers hr_right_numbers (@pa_cons _ _ _ _ _ (pv 0) (@pa_cons _ _ _ _ _ (pv 2) (@pa_cons _ _ _ _ _ (pv 1) (@pa_nil _) (by rfl)) (by rfl)) (by rfl)) (by rfl) (by decide) (by rfl) (by rfl)) (by rfl) (by first | exact .inl rfl | exact .inr rfl | assumption)) (@pss_cons _ _ _ _ _ (@ps_set _ _ (4) _ _ _ _ sc_count_joins.nd rfl (Or.inr rfl) (@pe_lst _ _ _ _ (@pa_cons _ _ _ _ _ (@pe_int _ _ _ _) (@pa_nil _) (by rfl))) (by rfl) (by first | exact .inl rfl | exact .inr rfl | assumption)) (@pss_cons _ _ _ _ _ (@ps_for _ _ _ _ _ _ _ _ PassesOwn.never rfl (@pi_range2 _ _ _ _ _ _ _ (by rfl) B.range (@pa_cons _ _ _ _ _ (@pe_int _ _ _ _) (@pa_cons _ _ _ _ _ (@pe_op _ _ _ _ _ _ _ _ op_add (pv 1) (@pe_int _ _ _ _)) (@pa_nil _) (by rfl)) (by rfl)) (by rfl) (by rfl)) (@pg_name _ _ (5) _ sc_count_joins.nd rfl (Or.inr rfl) (by first | exact .inl rfl | exact .inr rfl | assumption)) (@pss_cons _ _ _ _ _ (@ps_setC _ (6) _ _ _ _ _ _ _ _ _ _ _ _ _ (["part", "left", "length", "counts"]) (1) ([5, 0, 4]) sc_count_joins.nd rfl (Or.inl rfl) rfl .of (@pi_list _ _ _ _ (pv 3)) (fun _ _ _ _ _ => @pg_name _ _ (0) _ nd_part_left_length_counts_count_joins rfl (Or.inl rfl) (by first | exact .inl rfl | exact .inr rfl | assumption)) (fun _ _ _ _ _ => @pifs_one _ _ _ (@pt_cmpR _ _ _ _ _ _ _ _ op_le (pv 0) (pv 1) (nomark _))) (fun _ _ _ _ _ => (@pe_op _ _ _ _ _ _ _ _ op_mulH (@pe_cal _ _ _ _ _ _ _ _ _ _ c_ways_to_follow hr_ways_to_follow (@pa_cons _ _ _ _ _ (pv 1) (@pa_cons _ _ _ _ _ (pv 0) (@pa_cons _ _ _ _ _ (pv 2) (@pa_nil _) (by rfl)) (by rfl)) (by rfl)) (by rfl) (by decide) (by rfl) (by rfl)) (@pe_ix _ _ _ _ _ _ (rIxL K) ix_list (pv 3) (@pe_op _ _ _ _ _ _ _ _ op_sub (pv 1) (pv 0)) (fun _ _ => rfl)))) (by rfl) (by intro _; rfl) (by first | exact .inl rfl | exact .inr rfl | assumption)) (@pss_one _ _ _ (@ps_expr _ _ _ _ (@pe_append _ _ _ _ _ _ _ (pv 4) (@pa_cons _ _ _ _ _ (@pe_sum _ _ _ _ _ rfl B.sum (@pa_cons _ _ _ _ _ (pv 6) (@pa_nil _) (by rfl)) (by rfl) (by rfl)) (@pa_nil _) (by rfl)) (by rfl) (by rfl) (by rfl) (by rfl) (by rfl)) (by rfl)))) (by intro _; rfl)) (@pss_one _ _ _ (@ps_ret _ _ _ _ (@pe_ix _ _ _ _ _ _ _ ix_list (pv 4) (pv 1) (fun _ _ => rfl)))))), ?_⟩
    refine ⟨_, rfl, _, rfl, _, rfl, l, m, n, rfl, by omega, by omega, fun ra H1 hra s1 h1 => ?_⟩
    obtain ⟨rs, ers⟩ : ∃ rs, rs = rightsN l m n := ⟨_, rfl⟩
    rw [← ers] at h1
    refine ⟨(show 1 ≤ sizeLine by decide), fun cs hcs => ?_⟩
    have s2 : Same H1 (upd H1 cs (.lst [V.int 1])) := Same.upd_new hcs
    have h2 : (upd H1 cs (.lst [V.int 1])) cs = some (.lst ((toI (joinsL l rs 0)).map V.int)) := upd_same
    have h2r := s2 _ _ h1
    have nrc : ra ≠ cs := ne_of_none h1 hcs
    generalize (upd H1 cs (.lst [V.int 1])) = H2 at s2 h2 h2r ⊢
    refine ⟨_, rfl, _, _, rfl, rfl, 1, (n : Int) + 1, rfl, ⟨by decide, by decide, by omega, by omega⟩, ?_⟩
    have en : ((n : Int) + 1 - 1).toNat = n := by omega
    rw [en]
    refine for_range (lo := 1) (n := n) (fun i σ H3 => ∃ v w : Option V, σ = [some (.int (l : Int)), some (.int (n : Int)), some (.int (m : Int)), some (.ref ra), some (.ref cs), v, w] ∧ H3 cs = some (.lst ((toI (joinsL l rs i)).map V.int)) ∧ KeepBut cs H2 H3) ⟨none, none, rfl, h2, KeepBut.refl cs H2⟩ ?_ ?_
    · rintro i σ H3 hi ⟨v, w, rfl, h3, kb3⟩
      have h3r := kb3 _ _ h2r nrc
      have lrs : rs.length ≤ 40 := by rw [ers]; exact Nat.le_trans (rightsN_len l m n) hn
      have prs : ∀ d ∈ rs, 1 ≤ d := fun d hd => by rw [ers] at hd; exact (rightsN_pos hd).1
      have e1 : (1 : Int) + (i : Int) = ((i + 1 : Nat) : Int) := by omega
      rw [e1]
      refine ⟨_, rfl, ra, rfl, ⟨_, SqL.of h3r⟩, comp_list (K := K) (a := ra) (xs := (toI rs).map V.int) (fun j ys σ H4 => ∃ u : Option V, σ = [u, some (.int ((i + 1 : Nat) : Int)), some (.int (l : Int)), some (.ref cs)] ∧ H4 = H3 ∧ ys = (toI (((rs.take j).filter fun d => decide (d ≤ i + 1)).map fun d => followN (i + 1) l (d - 1) * (joinsL l rs i).getD (i + 1 - d) 0)).map V.int)
        ⟨none, rfl, rfl, by simp [toI]⟩ (fun j ys σ H4 _ ⟨_, _, e, _⟩ => by rw [e]; exact SqL.of h3r) ?_ ?_⟩
      · rintro j x ys σ H4 hj ⟨u, rfl, rfl, rfl⟩
        obtain ⟨d, hd, rfl⟩ := toI_at hj
        have d1 := prs d (List.mem_of_getElem? hd)
        have jl : j < rs.length := (List.getElem?_eq_some_iff.mp hd).1
        refine ⟨_, rfl, _, rfl, _, _, rfl, rfl, _, rfl, ite2 (fun h1 => ?_) (fun h1 => ?_)⟩
        · have dn : d ≤ i + 1 := by
            have := of_decide_eq_true h1
            omega
          refine ⟨_, rfl, _, rfl, _, rfl, i + 1, d, l, rfl, d1, dn, by omega, by omega, _, rfl, _, rfl, _, rfl, _, _, rfl, rfl, cs, _, _, _, rfl, rfl, SqL.of h3, toI_get (xs := joinsL l rs i) (by omega) (by rw [joinsL_len]; omega), _, _, rfl, rfl, ⟨?_, ?_⟩, ?_⟩
          · rw [Int.natAbs_natCast]
            exact Nat.lt_of_le_of_lt (follow_le (Nat.le_trans (Nat.mul_le_mul (show i + 1 ≤ 40 by omega) hl) (by decide)) _) (pow_lt (d - 1) (by omega) (by decide))
          · rw [Int.natAbs_natCast]
            exact Nat.lt_of_le_of_lt (joins_le hl lrs prs i (by omega) _) (pow_lt _ (by omega) (by decide))
          · have lj : ((rs.take j).filter fun d => decide (d ≤ i + 1)).length ≤ 40 := Nat.le_trans (List.length_filter_le _ _) (by rw [List.length_take]; omega)
            refine ⟨small1000 (by unfold toI; rw [List.length_map, List.length_map, List.length_map]; omega), _, rfl, rfl, ?_⟩
            rw [take_succ_of hd, List.filter_append, List.filter_cons_of_pos (p := fun d => decide (d ≤ i + 1)) (decide_eq_true dn), List.filter_nil]
            unfold toI
            rw [List.map_append, List.map_append, List.map_append]
            congr 1
            have ed : ((((i + 1 : Nat) : Int)) - (d : Int)).toNat = i + 1 - d := by omega
            show [V.int (((followN (i + 1) l (d - 1) : Nat) : Int) * (((joinsL l rs i).getD ((((i + 1 : Nat) : Int)) - (d : Int)).toNat 0 : Nat) : Int))] = [V.int ((followN (i + 1) l (d - 1) * (joinsL l rs i).getD (i + 1 - d) 0 : Nat) : Int)]
            rw [ed, Int.natCast_mul]
        · have dn : ¬ d ≤ i + 1 := fun z => h1 (decide_eq_true (by omega))
          refine ⟨_, rfl, rfl, ?_⟩
          rw [take_succ_of hd, List.filter_append, List.filter_cons_of_neg (p := fun d => decide (d ≤ i + 1)) (by simpa using dn), List.filter_nil, List.append_nil]
      · rintro ys σ H4 ⟨u, rfl, rfl, rfl⟩ D hD
        have ll : ((toI rs).map V.int).length = rs.length := by unfold toI; rw [List.length_map, List.length_map]
        rw [ll, List.take_length]
        obtain ⟨ws, ews⟩ : ∃ ws, ws = (rs.filter fun d => decide (d ≤ i + 1)).map fun d => followN (i + 1) l (d - 1) * (joinsL l rs i).getD (i + 1 - d) 0 := ⟨_, rfl⟩
        rw [← ews]
        have s5 : Same H4 (upd H4 D (.lst ((toI ws).map V.int))) := Same.upd_new hD
        have h5 : (upd H4 D (.lst ((toI ws).map V.int))) D = some (.lst ((toI ws).map V.int)) := upd_same
        generalize (upd H4 D (.lst ((toI ws).map V.int))) = H5 at s5 h5 ⊢
        have h5c := s5 _ _ h3
        refine ⟨_, rfl, .inl ⟨rfl, _, SqL.of h5c⟩, _, rfl, D, _, rfl, SqL.of h5, cs, _, _, rfl, rfl, h5c, small1000 (by unfold toI; rw [List.length_map, List.length_map, joinsL_len]; omega), ?_⟩
        refine ⟨_, _, rfl, ?_, fun x o hx hn => by rw [upd_ne hn]; exact s5 x o (kb3 x o hx hn)⟩
        rw [upd_same, toI_sum, ews]
        show some (HO.lst (_ ++ [V.int ((stepJ l rs (joinsL l rs i) (i + 1) : Nat) : Int)])) = some (HO.lst ((toI (joinsL l rs i ++ [stepJ l rs (joinsL l rs i) (i + 1)])).map V.int))
        unfold toI
        rw [List.map_append, List.map_append]
        rfl
    · rintro σ H3 ⟨v, w, rfl, h3, kb3⟩
      have s3 : Same H H3 := (s1.trans s2).kb kb3 (s1.free hcs)
      refine ⟨_, rfl, _, rfl, cs, _, _, _, rfl, rfl, SqL.of h3, toI_get (xs := joinsL l rs n) (by omega) (by rw [joinsL_len]; omega), ?_⟩
      rw [Int.toNat_natCast, ers]
      exact q H3 s3
theorem joinsN_le {l m n : Nat} (hl : l ≤ 40) (hn : n ≤ 40) : joinsN l m n ≤ 1600 ^ 40 :=
  Nat.le_trans (joins_le hl (Nat.le_trans (rightsN_len l m n) hn) (fun _ hd => (rightsN_pos hd).1) n hn n) (Nat.pow_le_pow_right (by decide) hn)
theorem prodF_le {f : Nat → Nat} {c : Nat} : ∀ {ks : List Nat}, (∀ k ∈ ks, f k ≤ c) → prodF f ks ≤ c ^ ks.length
  | [], _ => Nat.le_refl _
  | k :: ks, h => by
    show f k * prodF f ks ≤ c ^ (ks.length + 1)
    rw [Nat.pow_succ, Nat.mul_comm]
    exact Nat.mul_le_mul (prodF_le fun x hx => h x (List.mem_cons_of_mem _ hx)) (h k List.mem_cons_self)
theorem pow_lt2 (i : Nat) (h : i ≤ 40) {n : Nat} (hn : 17600 < n) : (1600 ^ 40) ^ i < 2 ^ n := by
  rw [← Nat.pow_mul]
  have a : 1600 ^ (40 * i) ≤ (2 ^ 11) ^ (40 * i) := Nat.pow_le_pow_left (by decide) _
  rw [← Nat.pow_mul] at a
  exact Nat.lt_of_le_of_lt a (Nat.pow_lt_pow_right (by decide) (by omega))
theorem prod_keys {p : List Int} (t : IsT p) {rs : List (List Int)} (up : RingsUp p p.length rs) {ks : List Nat} (nk : ks.Nodup) (h1 : ∀ k ∈ ks, ∃ r ∈ rs, r.length = k) (h2 : ∀ r ∈ rs, r.length ∈ ks) {f : Nat → Nat} (hf : ∀ u, cntL rs u = 0 → f u = 1) :
    prodF f ks = prodF f ((List.range p.length).map (· + 1)) := by
  refine prodF_sub nk ?_ (fun k hk => ?_) fun u hu hn => ?_
  · exact List.Pairwise.map (fun x : Nat => x + 1) (fun a b h => by omega) (List.nodup_range (n := p.length))
  · obtain ⟨r, hr, rfl⟩ := h1 k hk
    obtain ⟨y, L, hy, pr, er, _⟩ := up.ring r hr
    have b := ring_bound t hy (m := L) fun i i0 i1 => pr.least i i0 i1
    have := pr.pos
    rw [er, ringL_len]
    exact List.mem_map.mpr ⟨L - 1, List.mem_range.mpr (by omega), by omega⟩
  · refine hf u ?_
    by_cases z : cntL rs u = 0
    · exact z
    · obtain ⟨r, hr, rfl⟩ := cnt_pos z
      exact absurd (h2 r hr) hn
noncomputable def howR (p : List Int) (m : Nat) : Nat := prodF (fun l => joinsN l m (cntL (ringsF p p.length) l)) ((List.range p.length).map (· + 1))
def spMany : Sp := fun vs H Q _ => ∃ (a : Addr) (p : List Int) (m : Nat), vs = [.ref a, .int (m : Int)] ∧ TurnAt H a p ∧ 1 ≤ m ∧ ∀ H' : Hp, Same H H' → Q (.int ((howR p m : Nat) : Int)) H'
theorem sc_how_many_roots : FnScope ["p", "m", "by_length", "many", "length"] ["p", "m"] (defScope s_how_many_roots) := ⟨rfl, rfl, rfl, by decide +kernel, rfl, by decide +kernel, by decide +kernel⟩
theorem ok_how_many_roots {f : Addr} {fd : FuncData} (F : Fun K "how_many_roots" "how_many_roots" s_how_many_roots f fd) (B : Bl mg) (c_must_be_turn : Cal P w K mg base "must_be_turn" 3 ["thing"] spMust) (c_must_be_from_one : Cal P w K mg base "must_be_from_one" 2 ["number"] spOne) (c_sort_by_length : Cal P w K mg base "sort_by_length" 1 ["rings"] spSortR) (c_walk_rings : Cal P w K mg base "walk_rings" 2 ["p"] spRings) (c_count_joins : Cal P w K mg base "count_joins" 3 ["length", "many", "m"] spJoins) : FnOk P w K mg base CX0 4 f fd ["p", "m"] spMany := by
  refine F.ok sc_how_many_roots (fun vs H Q E h => ?_) (fun cdv A outer s H vs Q E hr h => ?_)
  · obtain ⟨a, p, m, rfl, ⟨ha, tp, lp⟩, m1, q⟩ := h
    rfl
  · obtain ⟨a, p, m, rfl, ⟨ha, tp, lp⟩, m1, q⟩ := h
    have hr_must_be_turn : Room 3 _ := hr.mono (by decide)
    have hr_must_be_from_one : Room 2 _ := hr.mono (by decide)
    have hr_sort_by_length : Room 1 _ := hr.mono (by decide)
    have hr_walk_rings : Room 2 _ := hr.mono (by decide)
    have hr_count_joins : Room 3 _ := hr.mono (by decide)
    have hu := hu_of hr
    refine ⟨_, @pss_cons _ _ _ _ _ (@ps_expr _ _ _ _ (@pe_cal _ _ _ _ _ _ _ _ _ _ c_must_be_turn hr_must_be_turn (@pa_cons _ _ _ _ _ (pv 0) (@pa_nil _) (by rfl)) (by rfl) (by decide) (by rfl) (by rfl)) (by rfl)) (@pss_cons _ _ _ _ _ (@ps_expr _ _ _ _ (@pe_cal _ _ _ _ _ _ _ _ _ _ c_must_be_from_one hr_must_be_from_one (@pa_cons _ _ _ _ _ (pv 1) (@pa_nil _) (by rfl)) (by rfl) (by decide) (by rfl) (by rfl)) (by rfl)) (@pss_cons _ _ _ _ _ (@ps_set _ _ (2) _ _ _ _ sc_how_many_roots.nd rfl (Or.inl rfl) (@pe_cal _ _ _ _ _ _ _ _ _ _ c_sort_by_length hr_sort_by_length (@pa_cons _ _ _ _ _ (@pe_cal _ _ _ _ _ _ _ _ _ _ c_walk_rings hr_walk_rings (@pa_cons _ _ _ _ _ (pv 0) (@pa_nil _) (by rfl)) (by rfl) (by decide) (by rfl) (by rfl)) (@pa_nil _) (by rfl)) (by rfl) (by decide) (by rfl) (by rfl)) (by rfl) (by first | exact .inl rfl | exact .inr rfl | assumption)) (@pss_cons _ _ _ _ _ (@ps_set _ _ (3) _ _ _ _ sc_how_many_roots.nd rfl (Or.inl rfl) (@pe_int _ _ _ _) (by rfl) (by first | exact .inl rfl | exact .inr rfl | assumption)) (@pss_cons _ _ _ _ _ (@ps_for _ _ _ _ _ _ _ _ PassesOwn.never rfl (@pi_dict _ _ _ _ (pv 2)) (@pg_name _ _ (4) _ sc_how_many_roots.nd rfl (Or.inl rfl) (by first | exact .inl rfl | exact .inr rfl | assumption)) (@pss_one _ _ _ (@ps_set _ _ (3) _ _ _ _ sc_how_many_roots.nd rfl (Or.inl rfl) (@pe_op _ _ _ _ _ _ _ _ op_mulH (pv 3) (@pe_cal _ _ _ _ _ _ _ _ _ _ c_count_joins hr_count_joins (@pa_cons _ _ _ _ _ (pv 4) (@pa_cons _ _ _ _ _ (@pe_lenL _ _ _ _ _ B.len (@pa_cons _ _ _ _ _ (@pe_dget _ _ _ _ _ _ hu (pv 2) (pv 4) (fun _ _ => rfl)) (@pa_nil _) (by rfl)) (by rfl) (by rfl)) (@pa_cons _ _ _ _ _ (pv 1) (@pa_nil _) (by rfl)) (by rfl)) (by rfl)) (by rfl) (by decide) (by rfl) (by rfl))) (by rfl) (by first | exact .inl rfl | exact .inr rfl | assumption))) (by intro _; rfl)) (@pss_one _ _ _ (@ps_ret _ _ _ _ (pv 3))))))), ?_⟩
    refine ⟨_, rfl, a, p, rfl, ⟨ha, tp, lp⟩, fun H1 s1 => ?_⟩
    refine ⟨_, rfl, (m : Int), rfl, by omega, ?_⟩
    refine ⟨_, rfl, a, p, rfl, ⟨s1 a _ ha, tp, lp⟩, fun l as rs H2 hl s12 h2l rows up fa nda nla => ?_⟩
    have cl := up_count up
    have fl := up_len tp up
    refine ⟨l, as, rs, rfl, h2l, rows, by omega, fun d es H3 hd s23 h3d bl les fre => ?_⟩
    have s03 := (s1.trans s12).trans s23
    have hd0 : H d = none := (s1.trans s12).free hd
    refine ⟨_, rfl, d, kvsOf es, rfl, h3d, fun o => ?_⟩
    have s4 : Same H (upd H3 d (.frz o (.dK (kvsOf es)))) := s03.upd_r hd0
    have h4d : (upd H3 d (.frz o (.dK (kvsOf es)))) d = some (.frz o (.dK (kvsOf es))) := upd_same
    have kp : ∀ c, c ≠ d → (upd H3 d (.frz o (.dK (kvsOf es)))) c = H3 c := fun c hc => upd_ne hc
    generalize (upd H3 d (.frz o (.dK (kvsOf es)))) = H4 at s4 h4d kp ⊢
    have lkv : (kvsOf es).length = es.length := by unfold kvsOf; rw [List.length_map]
    have fb : ∀ e ∈ es, e.1 ≤ 40 ∧ cntL rs e.1 ≤ 40 := fun e he => by
      obtain ⟨r, hr', lr⟩ := bl.key e.1 (List.mem_map.mpr ⟨e, he, rfl⟩)
      obtain ⟨y, L, hy, pr, er, _⟩ := up.ring r hr'
      have b := ring_bound tp hy (m := L) fun i i0 i1 => pr.least i i0 i1
      rw [er, ringL_len] at lr
      have : cntL rs e.1 ≤ rs.length := List.countP_le_length
      exact ⟨by omega, by omega⟩
    refine for_dict (fun i σ H5 => ∃ (v : Option V), σ = [some (.ref a), some (.int (m : Int)), some (.ref d), some (.int ((prodF (fun l => joinsN l m (cntL rs l)) ((es.take i).map (·.1)) : Nat) : Int)), v] ∧ Same H4 H5)
      ⟨none, rfl, Same.refl H4⟩ (fun i σ H5 _ ⟨_, _, e⟩ => e _ _ h4d) ?_ ?_
    · rintro i k v σ H5 hi ⟨v4, rfl, s5⟩
      unfold kvsOf at hi
      rw [List.getElem?_map] at hi
      cases hE : es[i]? with
      | none => rw [hE] at hi; cases hi
      | some e =>
        rw [hE] at hi
        cases hi
        have he := List.mem_of_getElem? hE
        have il : i < es.length := (List.getElem?_eq_some_iff.mp hE).1
        obtain ⟨cs, hcs, rcs⟩ := bl.row e he
        obtain ⟨le40, lc40⟩ := fb e he
        have lcs : cs.length = cntL rs e.1 := by
          rw [rcs.1]
          unfold fil cntL
          exact (List.countP_eq_length_filter ..).symm
        have h5x : H5 e.2 = some (.lst (cs.map V.ref)) := s5 _ _ (by rw [kp _ (bl.nd e he)]; exact hcs)
        have pb : prodF (fun l => joinsN l m (cntL rs l)) ((es.take i).map (·.1)) ≤ (1600 ^ 40) ^ i := by
          have := prodF_le (f := fun l => joinsN l m (cntL rs l)) (c := 1600 ^ 40) (ks := (es.take i).map (·.1)) fun k hk => by
            obtain ⟨e1, he1, rfl⟩ := List.mem_map.mp hk
            obtain ⟨b1, b2⟩ := fb e1 (List.mem_of_mem_take he1)
            exact joinsN_le b1 b2
          rw [List.length_map, List.length_take, Nat.min_eq_left (by omega)] at this
          exact this
        obtain ⟨F0, hF0⟩ : ∃ F0, F0 = prodF (fun l => joinsN l m (cntL rs l)) ((es.take i).map (·.1)) := ⟨_, rfl⟩
        rw [← hF0] at pb ⊢
        refine ⟨_, rfl, _, rfl, _, rfl, _, rfl, d, .ref e.2, rfl, .inl ⟨kvsOf es, Sum.inl (e.1 : Int), .inr ⟨o, s5 _ _ h4d⟩, rfl, (kvs_at bl.nk he).symm⟩, e.2, _, rfl, .inl (SqL.of h5x), _, rfl, e.1, cs.length, m, ?_, le40, by omega, fun H6 s6 => ?_⟩
        · show [V.int (e.1 : Int), V.int (((cs.map V.ref).length : Nat) : Int), V.int (m : Int)] ++ [] = _
          rw [List.length_map]
          rfl
        refine ⟨_, _, rfl, rfl, ⟨?_, ?_⟩, some (.int (e.1 : Int)), ?_, s5.trans s6⟩
        · rw [Int.natAbs_natCast]
          exact Nat.lt_of_le_of_lt pb (pow_lt2 i (by omega) (by decide))
        · rw [Int.natAbs_natCast]
          exact Nat.lt_of_le_of_lt (joinsN_le le40 (by omega)) (pow_lt 40 (Nat.le_refl _) (by decide))
        · rw [take_succ_of hE, List.map_append, show ([e].map (·.1) : List Nat) = [e.1] from rfl, prodF_snoc, ← hF0, ← lcs, Int.natCast_mul]
          rfl
    · rintro σ H5 ⟨v, rfl, s5⟩
      rw [lkv, List.take_length, prod_keys tp up bl.nk bl.key bl.all (f := fun l => joinsN l m (cntL rs l)) fun u hu => by show joinsN u m (cntL rs u) = 1; rw [hu]; rfl]
      have er : rs = ringsF p p.length := up.eq
      rw [er]
      exact ⟨_, rfl, q _ (s4.trans s5)⟩
end
end My
namespace My
open PySem L2 Mth
section
variable {P : Program} {w : World} {K : PySem.W.Frag} {mg : Str → Option Value} {base : Heap}
theorem kinds12 : ∀ n, n < 13 → ∀ k ∈ kindsF 12 n n, (∀ x ∈ k, 1 ≤ x) ∧ k.Pairwise (· ≥ ·) ∧ k.sum = (n : Int) ∧ manyK k * zK k k.length = facN n := by decide +kernel
theorem kinds12_isK {n : Nat} (h : n ≤ 12) {k : List Int} (hk : k ∈ kindsF 12 n n) : IsKind k := by
  obtain ⟨a, b, c, _⟩ := kinds12 n (by omega) k hk
  exact ⟨a, b, by omega⟩
def cntK (k : List Int) (l : Nat) : Nat := k.countP fun x => decide (x.toNat = l)
def HasR (c : Nat → Nat) (m : Nat) : Prop := ∀ l, 1 ≤ l → 1 ≤ c l → ∀ d, IsLR l m d → d ∣ c l
noncomputable def hasB (k : List Int) (m : Nat) : Bool := @decide (HasR (cntK k) m) (Classical.propDecidable _)
noncomputable def haveK (n m : Nat) : Nat := (((kindsF 12 n n).filter fun k => hasB k m).map manyK).sum
theorem cntK_pos {k : List Int} {l : Nat} (h : 1 ≤ cntK k l) : ∃ x ∈ k, x.toNat = l := by
  unfold cntK at h
  obtain ⟨x, hx, e⟩ := List.countP_pos_iff.mp h
  exact ⟨x, hx, of_decide_eq_true e⟩
def homeK (n m : Nat) : Nat := (((kindsF 12 n n).filter fun k => k.all fun l => decide (m % l.toNat = 0)).map manyK).sum
def G12 : List Nat := [1, 2, 4, 8].flatMap fun a => [1, 3, 9].flatMap fun b => [1, 5].flatMap fun c => [1, 7].flatMap fun d => [1, 11].map fun e => a * (b * (c * (d * e)))
theorem homes12 : ∀ g ∈ G12, ∀ n, n < 13 → homeK n g = joinsN 1 g n := by decide +kernel
theorem part8 : ∀ d, d < 9 → 8 % d = 0 → d ∈ [1, 2, 4, 8] := by decide +kernel
theorem part9 : ∀ d, d < 10 → 9 % d = 0 → d ∈ [1, 3, 9] := by decide +kernel
theorem part5 : ∀ d, d < 6 → 5 % d = 0 → d ∈ [1, 5] := by decide +kernel
theorem part7 : ∀ d, d < 8 → 7 % d = 0 → d ∈ [1, 7] := by decide +kernel
theorem part11 : ∀ d, d < 12 → 11 % d = 0 → d ∈ [1, 11] := by decide +kernel
theorem gcd_of {m c : Nat} (h : 0 < c) : Nat.gcd m c < c + 1 ∧ c % Nat.gcd m c = 0 := ⟨Nat.lt_succ_of_le (Nat.le_of_dvd h (Nat.gcd_dvd_right _ _)), Nat.mod_eq_zero_of_dvd (Nat.gcd_dvd_right _ _)⟩
theorem gcd_G (m : Nat) : Nat.gcd m 27720 ∈ G12 := by
  rw [show (27720 : Nat) = 8 * (9 * (5 * (7 * 11))) from rfl, Nat.Coprime.gcd_mul m (by decide), Nat.Coprime.gcd_mul m (by decide), Nat.Coprime.gcd_mul m (by decide), Nat.Coprime.gcd_mul m (by decide)]
  unfold G12
  refine List.mem_flatMap.mpr ⟨_, part8 _ (gcd_of (m := m) (by decide)).1 (gcd_of (by decide)).2, ?_⟩
  refine List.mem_flatMap.mpr ⟨_, part9 _ (gcd_of (m := m) (by decide)).1 (gcd_of (by decide)).2, ?_⟩
  refine List.mem_flatMap.mpr ⟨_, part5 _ (gcd_of (m := m) (by decide)).1 (gcd_of (by decide)).2, ?_⟩
  refine List.mem_flatMap.mpr ⟨_, part7 _ (gcd_of (m := m) (by decide)).1 (gcd_of (by decide)).2, ?_⟩
  exact List.mem_map.mpr ⟨_, part11 _ (gcd_of (m := m) (by decide)).1 (gcd_of (by decide)).2, rfl⟩
theorem part_27720 : ∀ d, d < 13 → 1 ≤ d → 27720 % d = 0 := by decide +kernel
theorem dvd_g {m d : Nat} (h1 : 1 ≤ d) (h2 : d ≤ 12) : d ∣ Nat.gcd m 27720 ↔ d ∣ m := ⟨fun h => Nat.dvd_trans h (Nat.gcd_dvd_left _ _), fun h => Nat.dvd_gcd h (Nat.dvd_of_mod_eq_zero (part_27720 d (by omega) h1))⟩
theorem rights_g {m n : Nat} (h : n ≤ 12) : rightsN 1 (Nat.gcd m 27720) n = rightsN 1 m n := by
  unfold rightsN
  refine List.filter_congr fun d hd => ?_
  obtain ⟨i, hi, rfl⟩ := List.mem_map.mp hd
  have := List.mem_range.mp hi
  rw [Nat.mul_one]
  have e := dvd_g (m := m) (d := i + 1) (by omega) (by omega)
  by_cases z : i + 1 ∣ m
  · rw [decide_eq_true (Nat.gcd_eq_left z), decide_eq_true (Nat.gcd_eq_left (e.mpr z))]
  · rw [decide_eq_false (p := Nat.gcd (i + 1) (Nat.gcd m 27720) = i + 1) fun y => z (e.mp (by rw [← y]; exact Nat.gcd_dvd_right _ _)), decide_eq_false (p := Nat.gcd (i + 1) m = i + 1) fun y => z (by rw [← y]; exact Nat.gcd_dvd_right _ _)]
theorem homeK_g {m n : Nat} (h : n ≤ 12) : homeK n (Nat.gcd m 27720) = homeK n m := by
  unfold homeK
  congr 2
  refine List.filter_congr fun k hk => ?_
  obtain ⟨a, _, c, _⟩ := kinds12 n (by omega) k hk
  have e : ∀ x ∈ k, (Nat.gcd m 27720 % x.toNat = 0 ↔ m % x.toNat = 0) := fun x hx => by
    have x1 := a x hx
    have x2 := mem_le_sum a x hx
    have e := dvd_g (m := m) (d := x.toNat) (by omega) (by omega)
    exact ⟨fun y => Nat.mod_eq_zero_of_dvd (e.mp (Nat.dvd_of_mod_eq_zero y)), fun y => Nat.mod_eq_zero_of_dvd (e.mpr (Nat.dvd_of_mod_eq_zero y))⟩
  rw [Bool.eq_iff_iff, List.all_eq_true, List.all_eq_true]
  exact ⟨fun y x hx => decide_eq_true ((e x hx).mp (of_decide_eq_true (y x hx))), fun y x hx => decide_eq_true ((e x hx).mpr (of_decide_eq_true (y x hx)))⟩
theorem homeK_eq {m n : Nat} (h : n ≤ 12) : joinsN 1 m n = homeK n m := by
  rw [← homeK_g h, homes12 _ (gcd_G m) n (by omega)]
  unfold joinsN
  rw [rights_g h]
theorem cnt_along {t ks : List Int} {rs : List (List Int)} (al : Along t rs) (fl : rs.flatten = upTo 0 t.length) (lens : rs.map (fun r => (r.length : Int)) = ks) {l : Nat} (l1 : 1 ≤ l) : cntF t l = cntK ks l := by
  have tt := along_turn al fl
  have a := along_count al fl l
  have b := count_per tt (rings_up tt) l
  rw [a] at b
  have c : cntL rs l = cntL (ringsF t t.length) l := Nat.eq_of_mul_eq_mul_left (by omega) b
  unfold cntF cntK
  rw [← c, ← lens, List.countP_map]
  unfold cntL
  refine List.countP_congr fun r _ => ?_
  simp
theorem has_same {c c' : Nat → Nat} {m : Nat} (h : ∀ l, 1 ≤ l → c l = c' l) (x : HasR c m) : HasR c' m := fun l l1 hl d hd => by
  rw [← h l l1] at hl ⊢
  exact x l l1 hl d hd
theorem told_first {H : Hp} {o : Addr} {t ks : List Int} {m : Nat} (tt : IsT t) (h : ToldIs H o t m) (e : ∀ l, 1 ≤ l → cntF t l = cntK ks l) : ∃ x r, H o = some (.tup (V.str x :: r)) ∧ decide (V.str x = V.str "root") = hasB ks m := by
  rcases h with ⟨u, r, h1, _, tr, _, pw, _⟩ | ⟨l, d, h1, b⟩
  · refine ⟨_, _, h1, ?_⟩
    rw [decide_eq_true rfl]
    unfold hasB
    exact (@decide_eq_true _ (Classical.propDecidable _) (has_same e fun l _ _ d hd => root_parts tr pw hd)).symm
  · refine ⟨_, _, h1, ?_⟩
    rw [decide_eq_false (by intro z; injection z with z; exact absurd z (by decide))]
    unfold hasB
    refine (@decide_eq_false _ (Classical.propDecidable _) fun z => ?_).symm
    have l1 : 1 ≤ l := by
      rcases Nat.eq_zero_or_pos l with y | y
      · subst y
        have := b.some
        unfold cntF at this
        rw [cnt_zero tt] at this
        omega
      · exact y
    exact b.bad (has_same (fun l hl => (e l hl).symm) z l l1 b.some d b.right)
def spHave : Sp := fun vs H Q _ => ∃ n m : Nat, vs = [.int (n : Int), .int (m : Int)] ∧ n ≤ 12 ∧ 1 ≤ m ∧ m ≤ 1000000000000000000000000000000 ∧ ∀ H' : Hp, Same H H' → Q (.int ((haveK n m : Nat) : Int)) H'
theorem sc_how_many_have : FnScope ["n", "m", "kinds"] ["n", "m"] (defScope s_how_many_have) := ⟨rfl, rfl, rfl, by decide +kernel, rfl, by decide +kernel, by decide +kernel⟩
theorem nd_kind_m_how_many_have : (["kind", "m"] : List Str).Nodup := by decide +kernel
theorem ok_how_many_have {f : Addr} {fd : FuncData} (F : Fun K "how_many_have" "how_many_have" s_how_many_have f fd) (B : Bl mg) (c_kinds_of : Cal P w K mg base "kinds_of" 14 ["n"] spKindsOf) (c_must_be_from_one : Cal P w K mg base "must_be_from_one" 2 ["number"] spOne) (c_root_told : Cal P w K mg base "root_told" 5 ["p", "m"] spToldF) (c_one_of_kind : Cal P w K mg base "one_of_kind" 4 ["kind"] spOneOf) (c_how_many_of : Cal P w K mg base "how_many_of" 5 ["kind"] spHowOf) : FnOk P w K mg base CX0 15 f fd ["n", "m"] spHave := by
  refine F.ok sc_how_many_have (fun vs H Q E h => ?_) (fun cdv A outer s H vs Q E hr h => ?_)
  · obtain ⟨n, m, rfl, hn, m1, m2, q⟩ := h
    rfl
  · obtain ⟨n, m, rfl, hn, m1, m2, q⟩ := h
    have hr_kinds_of : Room 14 _ := hr.mono (by decide)
    have hr_must_be_from_one : Room 2 _ := hr.mono (by decide)
    have hr_root_told : Room 5 _ := hr.mono (by decide)
    have hr_one_of_kind : Room 4 _ := hr.mono (by decide)
    have hr_how_many_of : Room 5 _ := hr.mono (by decide)
    refine ⟨_, @pss_cons _ _ _ _ _ (@ps_set _ _ (2) _ _ _ _ sc_how_many_have.nd rfl (Or.inl rfl) (@pe_cal _ _ _ _ _ _ _ _ _ _ c_kinds_of hr_kinds_of (@pa_cons _ _ _ _ _ (pv 0) (@pa_nil _) (by rfl)) (by rfl) (by decide) (by rfl) (by rfl)) (by rfl) (by first | exact .inl rfl | exact .inr rfl | assumption)) (@pss_cons _ _ _ _ _ (@ps_expr _ _ _ _ (@pe_cal _ _ _ _ _ _ _ _ _ _ c_must_be_from_one hr_must_be_from_one (@pa_cons _ _ _ _ _ (pv 1) (@pa_nil _) (by rfl)) (by rfl) (by decide) (by rfl) (by rfl)) (by rfl)) (@pss_one _ _ _ (@ps_ret _ _ _ _ (@pe_sum _ _ _ _ _ rfl B.sum (@pa_cons _ _ _ _ _ (@pe_comp _ _ _ _ _ _ _ _ _ _ _ (["kind", "m"]) (1) ([1]) rfl .of (@pi_list _ _ _ _ (pv 2)) (fun _ _ _ _ _ => @pg_name _ _ (0) _ nd_kind_m_how_many_have rfl (Or.inl rfl) (by first | exact .inl rfl | exact .inr rfl | assumption)) (fun _ _ _ _ _ => @pifs_one _ _ _ (@pt_cmpR _ _ _ _ _ _ _ _ op_eq (@pe_ix _ _ _ _ _ _ (rIxT K) ix_tup (@pe_cal _ _ _ _ _ _ _ _ _ _ c_root_told hr_root_told (@pa_cons _ _ _ _ _ (@pe_cal _ _ _ _ _ _ _ _ _ _ c_one_of_kind hr_one_of_kind (@pa_cons _ _ _ _ _ (pv 0) (@pa_nil _) (by rfl)) (by rfl) (by decide) (by rfl) (by rfl)) (@pa_cons _ _ _ _ _ (pv 1) (@pa_nil _) (by rfl)) (by rfl)) (by rfl) (by decide) (by rfl) (by rfl)) (@pe_int _ _ _ _) (fun _ _ => rfl)) (@pe_str _ _ _ _) (nomark _))) (fun _ _ _ _ _ => (@pe_cal _ _ _ _ _ _ _ _ _ _ c_how_many_of hr_how_many_of (@pa_cons _ _ _ _ _ (pv 0) (@pa_nil _) (by rfl)) (by rfl) (by decide) (by rfl) (by rfl))) (by intro _; rfl)) (@pa_nil _) (by rfl)) (by rfl) (by rfl))))), ?_⟩
    refine ⟨_, rfl, n, rfl, hn, fun L as H1 hL s1 h1 rows fr nda nla => ?_⟩
    refine ⟨_, rfl, (m : Int), rfl, by omega, ?_⟩
    obtain ⟨rs, ers⟩ : ∃ rs, rs = kindsF 12 n n := ⟨_, rfl⟩
    have lrs : rs.length ≤ 77 := by rw [ers]; exact kinds_many 12 (by decide) n (by omega) n (by omega)
    have hk : ∀ k ∈ rs, IsKind k := fun k hk => kinds12_isK hn (by rw [← ers]; exact hk)
    rw [← ers] at rows
    refine ⟨_, rfl, L, rfl, ⟨_, SqL.of h1⟩, comp_list (K := K) (a := L) (xs := as.map V.ref) (fun j ys σ H2 => ∃ v : Option V, σ = [v, some (.int (m : Int))] ∧ Same H1 H2 ∧ ys = (toI (((rs.take j).filter fun k => hasB k m).map manyK)).map V.int)
      ⟨none, rfl, Same.refl H1, by simp [toI]⟩ (fun j ys σ H2 _ ⟨_, _, s, _⟩ => SqL.of (s _ _ h1)) ?_ ?_⟩
    · rintro j x ys σ H2 hj ⟨v, rfl, s2, rfl⟩
      obtain ⟨e, he, rfl⟩ : ∃ a, as[j]? = some a ∧ x = V.ref a := by
        rw [List.getElem?_map] at hj
        cases e : as[j]? with
        | none => rw [e] at hj; cases hj
        | some a => rw [e] at hj; exact ⟨a, rfl, (Option.some.inj hj).symm⟩
      have jl : j < rs.length := by rw [← rows.1]; exact (List.getElem?_eq_some_iff.mp he).1
      obtain ⟨k, hk'⟩ : ∃ k, rs[j]? = some k := ⟨_, List.getElem?_eq_getElem jl⟩
      have kk := hk k (List.mem_of_getElem? hk')
      have h2e := s2 _ _ (rows.2 j e k he hk')
      refine ⟨_, rfl, e, k, rfl, h2e, kk, fun l t qs H3 hl s3 h3l al fl lens tl => ?_⟩
      refine ⟨_, rfl, l, t, m, rfl, ⟨h3l, along_turn al fl, tl⟩, m1, m2, fun o H4 s4 ti _ => ?_⟩
      obtain ⟨x, r, ho, hx⟩ := told_first (along_turn al fl) ti (fun l l1 => cnt_along al fl lens l1)
      refine ⟨o, _, 0, _, rfl, rfl, SqT.of ho, atI_nat (j := 0) rfl, rfl, ?_⟩
      rw [hx]
      have lj : ((rs.take j).filter fun k => hasB k m).length ≤ 77 := Nat.le_trans (List.length_filter_le _ _) (by rw [List.length_take]; omega)
      have s24 := s3.trans s4
      refine ⟨_, rfl, ite2 (fun c => ?_) (fun c => ?_)⟩
      · refine ⟨_, rfl, e, k, rfl, s24 _ _ h2e, kk, fun H5 s5 => ?_⟩
        refine ⟨small1000 (by unfold toI; rw [List.length_map, List.length_map, List.length_map]; omega), _, rfl, s2.trans (s24.trans s5), ?_⟩
        rw [take_succ_of hk', List.filter_append, List.filter_cons_of_pos (p := fun k => hasB k m) c, List.filter_nil]
        unfold toI
        rw [List.map_append, List.map_append, List.map_append]
        rfl
      · refine ⟨_, rfl, s2.trans s24, ?_⟩
        rw [take_succ_of hk', List.filter_append, List.filter_cons_of_neg (p := fun k => hasB k m) c, List.filter_nil, List.append_nil]
    · rintro ys σ H2 ⟨v, rfl, s2, rfl⟩ D hD
      rw [List.length_map, rows.1, List.take_length]
      have s3 : Same H2 (upd H2 D (.lst ((toI ((rs.filter fun k => hasB k m).map manyK)).map V.int))) := Same.upd_new hD
      refine ⟨D, _, rfl, SqL.of upd_same, ?_⟩
      rw [toI_sum, ers]
      exact q _ (s1.trans (s2.trans (by rw [ers] at s3; exact s3)))
theorem per_still {n : Nat} {x : Int} (h0 : 0 ≤ x) (h1 : x < (n : Int)) : Per (upTo 0 n) x 1 :=
  ⟨Nat.one_pos, (show nx (upTo 0 n) x = x from nx_upTo h0 h1), fun i a b => by omega⟩
theorem still_turn (n : Nat) : IsT (upTo 0 n) := (isT_of_perm (List.Perm.refl _)).1
theorem howR_still {n m : Nat} : howR (upTo 0 n) m = joinsN 1 m n := by
  have tt := still_turn n
  have cnt : ∀ l, 1 ≤ l → cntL (ringsF (upTo 0 n) (upTo 0 n).length) l = if l = 1 then n else 0 := fun l l1 => by
    have b := count_per tt (rings_up tt) l
    rw [length_upTo] at b
    rw [length_upTo]
    have c : ((List.range n).map fun (i : Nat) => (perOf (upTo 0 n) (i : Int) : Int)) = List.replicate n 1 := by
      refine List.ext_getElem (by simp) fun i h1 h2 => ?_
      have hi : i < n := by simpa using h1
      rw [List.getElem_map, List.getElem_range, List.getElem_replicate, perOf_eq (per_still (by omega) (by omega))]
      rfl
    rw [c, List.countP_replicate] at b
    by_cases z : l = 1
    · subst z
      rw [if_pos rfl]
      simp at b
      exact b.symm
    · rw [if_neg z]
      rw [if_neg (by simp; omega)] at b
      rcases Nat.mul_eq_zero.mp b.symm with y | y
      · omega
      · exact y
  unfold howR
  rw [length_upTo] at cnt ⊢
  cases n with
  | zero => rfl
  | succ n =>
    rw [List.range_succ_eq_map, List.map_cons]
    show joinsN (0 + 1) m (cntL _ (0 + 1)) * prodF _ _ = _
    rw [cnt 1 (by decide), if_pos rfl, prodF_ones, Nat.mul_one]
    intro u hu
    obtain ⟨i, hi, rfl⟩ := List.mem_map.mp hu
    obtain ⟨j, _, rfl⟩ := List.mem_map.mp hi
    show joinsN _ m (cntL _ _) = 1
    rw [cnt _ (by omega), if_neg (by omega)]
    rfl
def spHomeC : Sp := fun vs H Q _ => ∃ n m : Nat, vs = [.int (n : Int), .int (m : Int)] ∧ n ≤ 12 ∧ 1 ≤ m ∧ ∀ H' : Hp, Same H H' → Q (.int ((homeK n m : Nat) : Int)) H'
theorem sc_how_many_home : FnScope ["n", "m"] ["n", "m"] (defScope s_how_many_home) := ⟨rfl, rfl, rfl, by decide +kernel, rfl, by decide +kernel, by decide +kernel⟩
theorem ok_how_many_home {f : Addr} {fd : FuncData} (F : Fun K "how_many_home" "how_many_home" s_how_many_home f fd) (B : Bl mg) (c_must_be_counted : Cal P w K mg base "must_be_counted" 2 ["n"] spCounted) (c_how_many_roots : Cal P w K mg base "how_many_roots" 4 ["p", "m"] spMany) : FnOk P w K mg base CX0 5 f fd ["n", "m"] spHomeC := by
  refine F.ok sc_how_many_home (fun vs H Q E h => ?_) (fun cdv A outer s H vs Q E hr h => ?_)
  · obtain ⟨n, m, rfl, hn, m1, q⟩ := h
    rfl
  · obtain ⟨n, m, rfl, hn, m1, q⟩ := h
    have hr_must_be_counted : Room 2 _ := hr.mono (by decide)
    have hr_how_many_roots : Room 4 _ := hr.mono (by decide)
    refine ⟨_, @pss_cons _ _ _ _ _ (@ps_expr _ _ _ _ (@pe_cal _ _ _ _ _ _ _ _ _ _ c_must_be_counted hr_must_be_counted (@pa_cons _ _ _ _ _ (pv 0) (@pa_nil _) (by rfl)) (by rfl) (by decide) (by rfl) (by rfl)) (by rfl)) (@pss_one _ _ _ (@ps_ret _ _ _ _ (@pe_cal _ _ _ _ _ _ _ _ _ _ c_how_many_roots hr_how_many_roots (@pa_cons _ _ _ _ _ (@pe_listRng _ _ _ _ _ _ _ rfl B.list B.range (@pa_cons _ _ _ _ _ (pv 0) (@pa_nil _) (by rfl)) (by rfl) (by rfl) (by rfl) (by rfl)) (@pa_cons _ _ _ _ _ (pv 1) (@pa_nil _) (by rfl)) (by rfl)) (by rfl) (by decide) (by rfl) (by rfl)))), ?_⟩
    refine ⟨_, rfl, n, rfl, hn, ?_⟩
    refine ⟨_, rfl, (n : Int), rfl, fun rg hrg => ?_⟩
    have s1 : Same H (upd H rg (.rng 0 (n : Int))) := Same.upd_new hrg
    have h1 : (upd H rg (.rng 0 (n : Int))) rg = some (.rng 0 (n : Int)) := upd_same
    generalize (upd H rg (.rng 0 (n : Int))) = H1 at s1 h1 ⊢
    refine ⟨rg, 0, _, rfl, h1, ⟨by omega, by omega, by omega, by omega⟩, by omega, fun st hst => ?_⟩
    rw [show ((n : Int) - 0).toNat = n by omega]
    have s2 : Same H1 (upd H1 st (.lst ((upTo 0 n).map V.int))) := Same.upd_new hst
    have h2 : (upd H1 st (.lst ((upTo 0 n).map V.int))) st = some (.lst ((upTo 0 n).map V.int)) := upd_same
    generalize (upd H1 st (.lst ((upTo 0 n).map V.int))) = H2 at s2 h2 ⊢
    refine ⟨_, rfl, st, upTo 0 n, m, rfl, ⟨h2, still_turn n, by rw [length_upTo]; omega⟩, m1, fun H3 s3 => ?_⟩
    rw [howR_still, homeK_eq hn]
    exact q H3 (s1.trans (s2.trans s3))
end
end My
namespace My
open PySem L2 Mth
section
variable {P : Program} {w : World} {K : PySem.W.Frag} {mg : Str → Option Value} {base : Heap}
theorem sc_law_product : FnScope ["many", "found", "k"] ["many"] (defScope s_law_product) := ⟨rfl, rfl, rfl, by decide +kernel, rfl, by decide +kernel, by decide +kernel⟩
theorem ok_law_product {f : Addr} {fd : FuncData} (F : Fun K "_law_product" "_law_product" s_law_product f fd) (B : Bl mg) : FnOk P w K mg base CX0 1 f fd ["many"] spOrders := by
  refine F.ok sc_law_product (fun vs H Q E h => ?_) (fun cdv A outer s H vs Q E hr h => ?_)
  · obtain ⟨n, rfl, hn, q⟩ := h
    rfl
  · obtain ⟨n, rfl, hn, q⟩ := h
    refine ⟨_, @pss_cons _ _ _ _ _ (@ps_set _ _ (1) _ _ _ _ sc_law_product.nd rfl (Or.inl rfl) (@pe_int _ _ _ _) (by rfl) (by first | exact .inl rfl | exact .inr rfl | assumption)) (@pss_cons _ _ _ _ _ (@ps_for _ _ _ _ _ _ _ _ PassesOwn.never rfl (@pi_range2 _ _ _ _ _ _ _ (by rfl) B.range (@pa_cons _ _ _ _ _ (@pe_int _ _ _ _) (@pa_cons _ _ _ _ _ (@pe_op _ _ _ _ _ _ _ _ op_add (pv 0) (@pe_int _ _ _ _)) (@pa_nil _) (by rfl)) (by rfl)) (by rfl) (by rfl)) (@pg_name _ _ (2) _ sc_law_product.nd rfl (Or.inl rfl) (by first | exact .inl rfl | exact .inr rfl | assumption)) (@pss_one _ _ _ (@ps_set _ _ (1) _ _ _ _ sc_law_product.nd rfl (Or.inl rfl) (@pe_op _ _ _ _ _ _ _ _ op_mul (pv 1) (pv 2)) (by rfl) (by first | exact .inl rfl | exact .inr rfl | assumption))) (by intro _; rfl)) (@pss_one _ _ _ (@ps_ret _ _ _ _ (pv 1)))), ?_⟩
    refine ⟨_, rfl, _, _, rfl, rfl, 1, (n : Int) + 1, rfl, ⟨by decide, by decide, by omega, by omega⟩, ?_⟩
    have en : ((n : Int) + 1 - 1).toNat = n := by omega
    rw [en]
    refine for_range (lo := 1) (n := n) (fun i σ H2 => ∃ v2 : Option V, σ = [some (.int (n : Int)), some (.int ((facN i : Nat) : Int)), v2] ∧ H2 = H) ⟨none, rfl, rfl⟩ ?_ ?_
    · rintro i σ H2 hi ⟨v2, rfl, rfl⟩
      have e64 : (2 : Int) ^ 64 = 18446744073709551616 := by decide
      refine ⟨_, rfl, _, rfl, _, _, rfl, rfl, .inr ⟨by rw [e64]; omega, by rw [e64]; omega⟩, some (.int (1 + (i : Int))), ?_, rfl⟩
      have e : ((facN i : Nat) : Int) * (1 + (i : Int)) = ((facN (i + 1) : Nat) : Int) := by
        show _ = ((facN i * (i + 1) : Nat) : Int)
        rw [Int.natCast_mul]; congr 1; omega
      rw [← e]; rfl
    · rintro σ H2 ⟨v2, rfl, rfl⟩
      exact ⟨_, rfl, q⟩
def likeP (ks : List Int) : Nat → Nat
  | 0 => 0
  | i + 1 => likeK ks i
theorem sc_law_of_kind : FnScope ["kind", "below", "like", "at", "length"] ["kind"] (defScope s_law_of_kind) := ⟨rfl, rfl, rfl, by decide +kernel, rfl, by decide +kernel, by decide +kernel⟩
theorem ok_law_of_kind {f : Addr} {fd : FuncData} (F : Fun K "_law_of_kind" "_law_of_kind" s_law_of_kind f fd) (B : Bl mg) (c_law_product : Cal P w K mg base "_law_product" 1 ["many"] spOrders) : FnOk P w K mg base CX0 2 f fd ["kind"] spHowOf := by
  refine F.ok sc_law_of_kind (fun vs H Q E h => ?_) (fun cdv A outer s H vs Q E hr h => ?_)
  · obtain ⟨a, ks, rfl, ha, hk, q⟩ := h
    rfl
  · obtain ⟨a, ks, rfl, ha, hk, q⟩ := h
    have hr_law_product : Room 1 _ := hr.mono (by decide)
    refine ⟨_, @pss_cons _ _ _ _ _ (@ps_set _ _ (1) _ _ _ _ sc_law_of_kind.nd rfl (Or.inl rfl) (@pe_int _ _ _ _) (by rfl) (by first | exact .inl rfl | exact .inr rfl | assumption)) (@pss_cons _ _ _ _ _ (@ps_set _ _ (2) _ _ _ _ sc_law_of_kind.nd rfl (Or.inl rfl) (@pe_int _ _ _ _) (by rfl) (by first | exact .inl rfl | exact .inr rfl | assumption)) (@pss_cons _ _ _ _ _ (@ps_for _ _ _ _ _ _ _ _ PassesOwn.never rfl (@pi_enum _ _ _ _ _ _ _ _ B.enum (@pa_cons _ _ _ _ _ (pv 0) (@pa_nil _) (by rfl)) (by rfl) (by rfl)) (@pg_tup _ _ _ _ _ _ rfl (@pgs_cons _ _ _ _ _ (@pg_name _ _ (3) _ sc_law_of_kind.nd rfl (Or.inl rfl) (by first | exact .inl rfl | exact .inr rfl | assumption)) (@pgs_cons _ _ _ _ _ (@pg_name _ _ (4) _ sc_law_of_kind.nd rfl (Or.inl rfl) (by first | exact .inl rfl | exact .inr rfl | assumption)) (@pgs_nil _) (by rfl)) (by rfl)) (by rfl) (by rfl)) (@pss_cons _ _ _ _ _ (@ps_set _ _ (2) _ _ _ _ sc_law_of_kind.nd rfl (Or.inl rfl) (@pe_ix _ _ _ _ _ _ _ ix_list (@pe_lst _ _ _ _ (@pa_cons _ _ _ _ _ (@pe_int _ _ _ _) (@pa_cons _ _ _ _ _ (@pe_op _ _ _ _ _ _ _ _ op_add (pv 2) (@pe_int _ _ _ _)) (@pa_nil _) (by rfl)) (by rfl))) (@pe_intB _ _ _ _ _ B.int (@pa_cons _ _ _ _ _ (@pe_and _ _ _ _ _ _ _ (@pe_cmpR _ _ _ _ _ _ _ _ op_gt (pv 3) (@pe_int _ _ _ _) (nomark _)) (@pe_one _ _ _ _ _ (@pe_cmpR _ _ _ _ _ _ _ _ op_eq (@pe_ix _ _ _ _ _ _ _ ix_list (pv 0) (@pe_op _ _ _ _ _ _ _ _ op_sub (pv 3) (@pe_int _ _ _ _)) (fun _ _ => rfl)) (pv 4) (nomark _)))) (@pa_nil _) (by rfl)) (by rfl) (by rfl)) (fun _ _ => rfl)) (by rfl) (by first | exact .inl rfl | exact .inr rfl | assumption)) (@pss_one _ _ _ (@ps_set _ _ (1) _ _ _ _ sc_law_of_kind.nd rfl (Or.inl rfl) (@pe_op _ _ _ _ _ _ _ _ op_mul (@pe_op _ _ _ _ _ _ _ _ op_mul (pv 1) (pv 4)) (pv 2)) (by rfl) (by first | exact .inl rfl | exact .inr rfl | assumption)))) (by intro _; rfl)) (@pss_one _ _ _ (@ps_ret _ _ _ _ (@pe_op _ _ _ _ _ _ _ _ op_fdivH (@pe_cal _ _ _ _ _ _ _ _ _ _ c_law_product hr_law_product (@pa_cons _ _ _ _ _ (@pe_sum _ _ _ _ _ rfl B.sum (@pa_cons _ _ _ _ _ (pv 0) (@pa_nil _) (by rfl)) (by rfl) (by rfl)) (@pa_nil _) (by rfl)) (by rfl) (by decide) (by rfl) (by rfl)) (pv 1)))))), ?_⟩
    have e64 : (2 : Int) ^ 64 = 18446744073709551616 := by decide
    refine ⟨_, rfl, a, rfl, ⟨_, SqL.of ha⟩, for_enum (K := K) (a := a) (xs := ks.map V.int) (fun i σ H2 => ∃ v3 v4 : Option V, σ = [some (.ref a), some (.int ((zK ks i : Nat) : Int)), some (.int ((likeP ks i : Nat) : Int)), v3, v4] ∧ Same H H2)
      ⟨none, none, rfl, Same.refl H⟩ (fun i σ H2 _ ⟨_, _, _, s⟩ => SqL.of (s _ _ ha)) ?_ ?_⟩
    · rintro i x σ H2 t hi ⟨v3, v4, rfl, s2⟩ ht
      obtain ⟨z, hz, rfl⟩ := getElem_int hi
      have il : i < ks.length := (List.getElem?_eq_some_iff.mp hz).1
      have ez : ks.getD i 0 = z := by rw [List.getD_eq_getElem?_getD, hz]; rfl
      have z1 := hk.pos z (List.mem_of_getElem? hz)
      have z2 := hk.le z (List.mem_of_getElem? hz)
      refine ⟨t, _, rfl, SqT.of upd_same, rfl, _, _, rfl, _, _, rfl, rfl, ?_⟩
      have s3 : Same H (upd H2 t (.tup [.int (i : Int), .int z])) := s2.trans (Same.upd_new ht)
      generalize (upd H2 t (.tup [.int (i : Int), .int z])) = H3 at s3 ⊢
      refine ⟨_, rfl, _, _, rfl, rfl, (show 2 ≤ sizeLine by decide), fun l hl => ?_⟩
      have s4 : Same H (upd H3 l (.lst [.int 1, .int (((likeP ks i : Nat) : Int) + 1)])) := s3.trans (Same.upd_new hl)
      have h4l : (upd H3 l (.lst [.int 1, .int (((likeP ks i : Nat) : Int) + 1)])) l = some (.lst [.int 1, .int (((likeP ks i : Nat) : Int) + 1)]) := upd_same
      generalize (upd H3 l (.lst [.int 1, .int (((likeP ks i : Nat) : Int) + 1)])) = H4 at s4 h4l ⊢
      have lk : likeK ks i ≤ 40 := by
        have := List.countP_le_length (p := fun x => decide (x = ks.getD i 0)) (l := ks.take (i + 1))
        rw [List.length_take] at this
        have := hk.len
        unfold likeK
        omega
      have ezz : ((zK ks i : Nat) : Int) * z * ((likeK ks i : Nat) : Int) = ((zK ks (i + 1) : Nat) : Int) := by
        rw [zK_succ, ez, Int.natCast_mul, Int.natCast_mul]
        congr 2
        omega
      have fin : [some (V.ref a), some (V.int (((zK ks i : Nat) : Int) * z * ((likeK ks i : Nat) : Int))), some (V.int ((likeK ks i : Nat) : Int)), some (V.int (i : Int)), some (V.int z)] = [some (V.ref a), some (V.int ((zK ks (i + 1) : Nat) : Int)), some (V.int ((likeP ks (i + 1) : Nat) : Int)), some (V.int (i : Int)), some (V.int z)] := by rw [ezz]; rfl
      refine ⟨_, rfl, _, _, rfl, rfl, _, rfl, ?_⟩
      refine ite2 (fun h0 => ?_) (fun h0 => ?_)
      · have h0 : (0 : Int) < (i : Int) := of_decide_eq_true h0
        obtain ⟨j, rfl⟩ : ∃ j, i = j + 1 := ⟨i - 1, by omega⟩
        have hat : atI (ks.map V.int) (((j + 1 : Nat) : Int) - 1) = some (.int (ks.getD j 0)) := by
          rw [show ((j + 1 : Nat) : Int) - 1 = ((j : Nat) : Int) by omega]
          exact atI_nat (by rw [List.getElem?_map, List.getElem?_eq_getElem (by omega), Mth.getD_at (show j < ks.length by omega)]; rfl)
        refine ⟨_, rfl, _, rfl, _, _, rfl, rfl, a, _, _, _, rfl, rfl, SqL.of (s4 _ _ ha), hat, _, rfl, rfl, _, rfl, l, _, _, .int ((likeK ks (j + 1) : Nat) : Int), rfl, rfl, SqL.of h4l, ?_, ?_⟩
        · rw [like_succ hk.fal il, ez]
          by_cases e : ks.getD j 0 = z
          · rw [if_pos (decide_eq_true (congrArg V.int e)), if_pos e]
            exact atI_nat (j := 1) rfl
          · rw [if_neg (by simpa using fun y => e (V.int.inj y)), if_neg e]
            exact atI_nat (j := 0) rfl
        · exact ⟨_, rfl, _, rfl, _, _, rfl, rfl, .inr ⟨by rw [e64]; omega, by rw [e64]; omega⟩, _, rfl, _, _, rfl, rfl, .inr ⟨by rw [e64]; omega, by rw [e64]; omega⟩, _, _, fin, s4⟩
      · have h0 : ¬ (0 : Int) < (i : Int) := fun y => h0 (decide_eq_true y)
        obtain rfl : i = 0 := by omega
        refine ⟨_, rfl, l, _, _, .int ((likeK ks 0 : Nat) : Int), rfl, rfl, SqL.of h4l, ?_, ?_⟩
        · rw [like_zero il]
          exact atI_nat (j := 0) rfl
        · exact ⟨_, rfl, _, rfl, _, _, rfl, rfl, .inr ⟨by rw [e64]; omega, by rw [e64]; omega⟩, _, rfl, _, _, rfl, rfl, .inr ⟨by rw [e64]; omega, by rw [e64]; omega⟩, _, _, fin, s4⟩
    · rintro σ H2 ⟨v3, v4, rfl, s2⟩
      have s0 := sum_ge hk.pos
      have hs := hk.sum
      have es : ks.sum = ((ks.sum.toNat : Nat) : Int) := by omega
      rw [List.length_map]
      obtain ⟨b1, b2⟩ := zK_bound hk.pos hk.le hk.len ks.length (Nat.le_refl _)
      refine ⟨_, rfl, a, ks, rfl, SqL.of (s2 _ _ ha), ks.sum.toNat, congrArg (fun z => [V.int z]) es, by omega, _, rfl, _, _, rfl, rfl, ⟨by omega, by rw [Int.natAbs_natCast]; exact big_pow hk.len b2⟩, ?_⟩
      exact q H2 s2
end
end My
namespace My
open PySem L2 Mth
section
variable {P : Program} {w : World} {K : PySem.W.Frag} {mg : Str → Option Value} {base : Heap}
def allT : Nat → List (List Int)
  | 0 => [[]]
  | n + 1 => (allT n).flatMap fun p => (List.range (p.length + 1)).map fun k => p.take k ++ [(n : Int)] ++ p.drop k
def spAllT : Sp := fun vs H Q _ => ∃ n : Nat, vs = [.int (n : Int)] ∧ n ≤ 5 ∧ ∀ (l : Addr) (as : List Addr) (H' : Hp), H l = none → Same H H' → H' l = some (.lst (as.map V.ref)) → RowsH H' as (allT n) → Q (.ref l) H'
def putIn (n : Nat) (p : List Int) (k : Nat) : List Int := p.take k ++ [(n : Int)] ++ p.drop k
def grow (n : Nat) (p : List Int) : List (List Int) := (List.range (p.length + 1)).map (putIn n p)
theorem allT_len : ∀ n p, p ∈ allT n → p.length = n
  | 0, p, h => by
    have : p = [] := by simpa [allT] using h
    rw [this]; rfl
  | n + 1, p, h => by
    obtain ⟨q, hq, hp⟩ := List.mem_flatMap.mp h
    obtain ⟨k, _, rfl⟩ := List.mem_map.mp hp
    have := allT_len n q hq
    rw [List.length_append, List.length_append, List.length_take, List.length_drop]
    simp only [List.length_singleton]
    omega
theorem grow_many (i : Nat) : ∀ ps : List (List Int), (∀ q ∈ ps, q.length = i) → (ps.flatMap (grow i)).length = ps.length * (i + 1)
  | [], _ => by rw [List.length_nil, Nat.zero_mul]; rfl
  | q :: ps, h => by
    rw [List.flatMap_cons, List.length_append, grow_many i ps fun q hq => h q (List.mem_cons_of_mem _ hq), List.length_cons]
    unfold grow
    rw [List.length_map, List.length_range, h q List.mem_cons_self, Nat.add_mul]
    omega
theorem allT_many : ∀ n, n ≤ 5 → (allT n).length ≤ 120 := by decide +kernel
theorem sc_law_all_turns : FnScope ["many", "found", "thing", "longer", "p", "at"] ["many"] (defScope s_law_all_turns) := ⟨rfl, rfl, rfl, by decide +kernel, rfl, by decide +kernel, by decide +kernel⟩
theorem ok_law_all_turns {f : Addr} {fd : FuncData} (F : Fun K "_law_all_turns" "_law_all_turns" s_law_all_turns f fd) (B : Bl mg) : FnOk P w K mg base CX0 1 f fd ["many"] spAllT := by
  refine F.ok sc_law_all_turns (fun vs H Q E h => ?_) (fun cdv A outer s H vs Q E hr h => ?_)
  · obtain ⟨n, rfl, hn, q⟩ := h
    rfl
  · obtain ⟨n, rfl, hn, q⟩ := h
    refine ⟨_, @pss_cons _ _ _ _ _ (@ps_set _ _ (1) _ _ _ _ sc_law_all_turns.nd rfl (Or.inl rfl) (@pe_lst _ _ _ _ (@pa_cons _ _ _ _ _ (@pe_lst _ _ _ _ (@pa_nil _)) (@pa_nil _) (by rfl))) (by rfl) (by first | exact .inl rfl | exact .inr rfl | assumption)) (@pss_cons _ _ _ _ _ (@ps_for _ _ _ _ _ _ _ _ PassesOwn.never rfl (@pi_range1 _ _ _ _ _ _ (by rfl) B.range (@pa_cons _ _ _ _ _ (pv 0) (@pa_nil _) (by rfl)) (by rfl)) (@pg_name _ _ (2) _ sc_law_all_turns.nd rfl (Or.inl rfl) (by first | exact .inl rfl | exact .inr rfl | assumption)) (@pss_cons _ _ _ _ _ (@ps_set _ _ (3) _ _ _ _ sc_law_all_turns.nd rfl (Or.inl rfl) (@pe_lst _ _ _ _ (@pa_nil _)) (by rfl) (by first | exact .inl rfl | exact .inr rfl | assumption)) (@pss_cons _ _ _ _ _ (@ps_for _ _ _ _ _ _ _ _ PassesOwn.never rfl (@pi_list _ _ _ _ (pv 1)) (@pg_name _ _ (4) _ sc_law_all_turns.nd rfl (Or.inl rfl) (by first | exact .inl rfl | exact .inr rfl | assumption)) (@pss_one _ _ _ (@ps_for _ _ _ _ _ _ _ _ PassesOwn.never rfl (@pi_range1 _ _ _ _ _ _ (by rfl) B.range (@pa_cons _ _ _ _ _ (@pe_op _ _ _ _ _ _ _ _ op_add (@pe_lenL _ _ _ _ _ B.len (@pa_cons _ _ _ _ _ (pv 4) (@pa_nil _) (by rfl)) (by rfl) (by rfl)) (@pe_int _ _ _ _)) (@pa_nil _) (by rfl)) (by rfl)) (@pg_name _ _ (5) _ sc_law_all_turns.nd rfl (Or.inl rfl) (by first | exact .inl rfl | exact .inr rfl | assumption)) (@pss_one _ _ _ (@ps_expr _ _ _ _ (@pe_append _ _ _ _ _ _ _ (pv 3) (@pa_cons _ _ _ _ _ (@pe_op _ _ _ _ _ _ _ _ op_cat (@pe_op _ _ _ _ _ _ _ _ op_cat (@pe_slice _ _ _ _ _ _ _ _ _ _ sl_list (pv 4) (@po_none _) (@po_some _ _ _ (pv 5))) (@pe_lst _ _ _ _ (@pa_cons _ _ _ _ _ (pv 2) (@pa_nil _) (by rfl)))) (@pe_slice _ _ _ _ _ _ _ _ _ _ sl_list (pv 4) (@po_some _ _ _ (pv 5)) (@po_none _))) (@pa_nil _) (by rfl)) (by rfl) (by rfl) (by rfl) (by rfl) (by rfl)) (by rfl))) (by intro _; rfl))) (by intro _; rfl)) (@pss_one _ _ _ (@ps_set _ _ (1) _ _ _ _ sc_law_all_turns.nd rfl (Or.inl rfl) (pv 3) (by rfl) (by first | exact .inl rfl | exact .inr rfl | assumption))))) (by intro _; rfl)) (@pss_one _ _ _ (@ps_ret _ _ _ _ (pv 1)))), ?_⟩
    refine ⟨Nat.zero_le _, fun e0 he0 => ?_⟩
    have s1 : Same H (upd H e0 (.lst [])) := Same.upd_new he0
    have h1e : (upd H e0 (.lst [])) e0 = some (.lst (([] : List Int).map V.int)) := upd_same
    generalize (upd H e0 (.lst [])) = H1 at s1 h1e ⊢
    refine ⟨(show 1 ≤ sizeLine by decide), fun F0 hF0 => ?_⟩
    have s2 : Same H1 (upd H1 F0 (.lst [V.ref e0])) := Same.upd_new hF0
    have h2F : (upd H1 F0 (.lst [V.ref e0])) F0 = some (.lst (([e0] : List Addr).map V.ref)) := upd_same
    generalize (upd H1 F0 (.lst [V.ref e0])) = H2 at s2 h2F ⊢
    have h2e := s2 _ _ h1e
    have s02 := s1.trans s2
    refine ⟨_, rfl, (n : Int), rfl, by omega, by omega, ?_⟩
    rw [show ((n : Int)).toNat = n by omega]
    refine for_range (lo := 0) (n := n) (fun i σ H3 => ∃ (F : Addr) (as : List Addr) (v2 v3 v4 v5 : Option V), σ = [some (.int (n : Int)), some (.ref F), v2, v3, v4, v5] ∧ H3 F = some (.lst (as.map V.ref)) ∧ RowsH H3 as (allT i) ∧ Same H H3 ∧ H F = none)
      ⟨F0, [e0], none, none, none, none, rfl, h2F, ⟨rfl, fun j b r e1 e2 => by
        rcases j with _ | j
        · cases e1; cases e2; exact h2e
        · cases e1⟩, s02, s1.free hF0⟩ ?_ ?_
    · rintro i σ H3 hi ⟨F, as, v2, v3, v4, v5, rfl, h3F, rows, s3, hF⟩
      have e0 : (0 : Int) + (i : Int) = (i : Int) := by omega
      rw [e0]
      have lenA := allT_many i (by omega)
      refine ⟨Nat.zero_le _, fun L hL => ?_⟩
      have nFL : F ≠ L := ne_of_none h3F hL
      have hL0 : H L = none := s3.free hL
      have kb1 : KeepBut L H3 (upd H3 L (.lst [])) := KeepBut.upd
      have h4L : (upd H3 L (.lst [])) L = some (.lst (([] : List Addr).map V.ref)) := upd_same
      generalize (upd H3 L (.lst [])) = H4 at kb1 h4L ⊢
      have h4F := kb1 _ _ h3F nFL
      have nLas : L ∉ as := fun z => by
        obtain ⟨r, hr'⟩ := rows_mem rows z
        rw [hL] at hr'; cases hr'
      refine ⟨_, rfl, F, rfl, ⟨_, SqL.of h4F⟩, for_list (K := K) (a := F) (xs := as.map V.ref) (fun j σ H5 => ∃ (bs : List Addr) (v4 v5 : Option V), σ = [some (.int (n : Int)), some (.ref F), some (.int (i : Int)), some (.ref L), v4, v5] ∧ H5 L = some (.lst (bs.map V.ref)) ∧ RowsH H5 bs (((allT i).take j).flatMap (grow i)) ∧ KeepBut L H3 H5 ∧ L ∉ bs)
        ⟨[], v4, v5, rfl, h4L, ⟨rfl, fun j b r h => by cases h⟩, kb1, fun z => by cases z⟩ (fun j σ H5 _ ⟨_, _, _, _, _, _, k, _⟩ => SqL.of (k _ _ h3F nFL)) ?_ ?_⟩
      · rintro j x σ H5 hj ⟨bs, v4, v5, rfl, h5L, rowsB, kb5, nLb⟩
        obtain ⟨a, ha, rfl⟩ : ∃ a, as[j]? = some a ∧ x = V.ref a := by
          rw [List.getElem?_map] at hj
          cases e : as[j]? with
          | none => rw [e] at hj; cases hj
          | some a => rw [e] at hj; exact ⟨a, rfl, (Option.some.inj hj).symm⟩
        have jl : j < (allT i).length := by rw [← rows.1]; exact (List.getElem?_eq_some_iff.mp ha).1
        obtain ⟨p, hp⟩ : ∃ p, (allT i)[j]? = some p := ⟨_, List.getElem?_eq_getElem jl⟩
        have lp : p.length = i := allT_len i p (List.mem_of_getElem? hp)
        have h3a := rows.2 j a p ha hp
        have naL : a ≠ L := fun z => nLas (z ▸ List.mem_of_getElem? ha)
        have h5a := kb5 _ _ h3a naL
        have etk : (allT i).take (j + 1) = (allT i).take j ++ [p] := by rw [List.take_succ, hp]; rfl
        refine ⟨_, rfl, a, _, rfl, .inl (SqL.of h5a), _, _, rfl, rfl, ((p.map V.int).length : Int) + 1, rfl, by rw [List.length_map]; omega, by rw [List.length_map]; omega, ?_⟩
        rw [List.length_map, show ((p.length : Int) + 1).toNat = p.length + 1 by omega]
        have cntj : (((allT i).take j).flatMap (grow i)).length = j * (i + 1) := by
          rw [grow_many i _ fun q hq => allT_len i q (List.mem_of_mem_take hq), List.length_take]
          congr 1
          omega
        refine for_range (lo := 0) (n := p.length + 1) (fun k σ H6 => ∃ (bs : List Addr) (v5 : Option V), σ = [some (.int (n : Int)), some (.ref F), some (.int (i : Int)), some (.ref L), some (.ref a), v5] ∧ H6 L = some (.lst (bs.map V.ref)) ∧ RowsH H6 bs (((allT i).take j).flatMap (grow i) ++ (List.range k).map (putIn i p)) ∧ KeepBut L H3 H6 ∧ L ∉ bs)
          ⟨bs, v5, rfl, h5L, by rw [List.range_zero, List.map_nil, List.append_nil]; exact rowsB, kb5, nLb⟩ ?_ ?_
        · rintro k σ H6 hk ⟨bs, v5, rfl, h6L, rowsC, kb6, nLc⟩
          have e0 : (0 : Int) + (k : Int) = (k : Int) := by omega
          rw [e0]
          have h6a := kb6 _ _ h3a naL
          have kl : k ≤ p.length := by omega
          refine ⟨_, rfl, .inl ⟨rfl, _, SqL.of h6L⟩, _, rfl, _, rfl, _, rfl, a, _, rfl, SqL.of h6a, fun sl hsl => ?_⟩
          rw [cut_to (p.map V.int) k (by rw [List.length_map]; exact kl), ← List.map_take]
          have s7 : Same H6 (upd H6 sl (.lst ((p.take k).map V.int))) := Same.upd_new hsl
          have h7s : (upd H6 sl (.lst ((p.take k).map V.int))) sl = some (.lst ((p.take k).map V.int)) := upd_same
          generalize (upd H6 sl (.lst ((p.take k).map V.int))) = H7 at s7 h7s ⊢
          refine ⟨_, rfl, (show 1 ≤ sizeLine by decide), fun o ho => ?_⟩
          have s8 : Same H7 (upd H7 o (.lst [V.int (i : Int)])) := Same.upd_new ho
          have h8o : (upd H7 o (.lst [V.int (i : Int)])) o = some (.lst [V.int (i : Int)]) := upd_same
          generalize (upd H7 o (.lst [V.int (i : Int)])) = H8 at s8 h8o ⊢
          refine ⟨sl, o, _, _, rfl, rfl, s8 _ _ h7s, h8o, Nat.le_of_lt (small1000 (by simp only [List.length_append, List.length_map, List.length_take, List.length_singleton]; omega)), fun c hc => ?_⟩
          have ec : (p.take k).map V.int ++ [V.int (i : Int)] = (p.take k ++ [(i : Int)]).map V.int := by rw [List.map_append]; rfl
          rw [ec]
          have s9 : Same H8 (upd H8 c (.lst ((p.take k ++ [(i : Int)]).map V.int))) := Same.upd_new hc
          have h9c : (upd H8 c (.lst ((p.take k ++ [(i : Int)]).map V.int))) c = some (.lst ((p.take k ++ [(i : Int)]).map V.int)) := upd_same
          generalize (upd H8 c (.lst ((p.take k ++ [(i : Int)]).map V.int))) = H9 at s9 h9c ⊢
          have s69 := (s7.trans s8).trans s9
          refine ⟨_, rfl, _, rfl, _, rfl, a, _, rfl, SqL.of (s69 _ _ h6a), fun d hd => ?_⟩
          rw [cut_from (p.map V.int) k (by rw [List.length_map]; exact kl), ← List.map_drop]
          have s10 : Same H9 (upd H9 d (.lst ((p.drop k).map V.int))) := Same.upd_new hd
          have h10d : (upd H9 d (.lst ((p.drop k).map V.int))) d = some (.lst ((p.drop k).map V.int)) := upd_same
          generalize (upd H9 d (.lst ((p.drop k).map V.int))) = H10 at s10 h10d ⊢
          refine ⟨c, d, _, _, rfl, rfl, s10 _ _ h9c, h10d, Nat.le_of_lt (small1000 (by simp only [List.length_append, List.length_map, List.length_take, List.length_drop, List.length_singleton]; omega)), fun e he => ?_⟩
          rw [← List.map_append]
          have s610 := s69.trans s10
          have nLe : L ≠ e := ne_of_none (s610 _ _ h6L) he
          have h11L : (upd H10 e (.lst ((p.take k ++ [(i : Int)] ++ p.drop k).map V.int))) L = some (.lst (bs.map V.ref)) := by rw [upd_ne nLe]; exact s610 _ _ h6L
          have h11e : (upd H10 e (.lst ((p.take k ++ [(i : Int)] ++ p.drop k).map V.int))) e = some (.lst ((putIn i p k).map V.int)) := upd_same
          have s11 : Same H6 (upd H10 e (.lst ((p.take k ++ [(i : Int)] ++ p.drop k).map V.int))) := s610.trans (Same.upd_new he)
          generalize (upd H10 e (.lst ((p.take k ++ [(i : Int)] ++ p.drop k).map V.int))) = H11 at s11 h11L h11e ⊢
          have lenC : bs.length ≤ 720 := by
            have := rowsC.1
            rw [List.length_append, cntj, List.length_map, List.length_range] at this
            have h1 : j * (i + 1) ≤ 119 * (i + 1) := Nat.mul_le_mul_right _ (by omega)
            omega
          refine ⟨L, _, _, rfl, rfl, h11L, small1000 (by rw [List.length_map]; omega), ?_⟩
          have es : bs.map V.ref ++ [V.ref e] = (bs ++ [e]).map V.ref := by rw [List.map_append]; rfl
          rw [es]
          refine ⟨bs ++ [e], _, rfl, upd_same, ?_, (kb6.trans (s11.but L)).upd_a, ?_⟩
          · rw [show (List.range (k + 1)).map (putIn i p) = (List.range k).map (putIn i p) ++ [putIn i p k] by rw [List.range_succ, List.map_append]; rfl, ← List.append_assoc]
            refine rows_snoc (rows_keep rowsC fun b hb o e => ?_) (by rw [upd_ne nLe.symm]; exact h11e)
            rw [upd_ne (show b ≠ L from fun z => nLc (z ▸ hb))]
            exact s11 _ _ e
          · intro z
            rcases List.mem_append.mp z with z | z
            · exact nLc z
            · exact nLe (List.mem_singleton.mp z)
        · rintro σ H6 ⟨bs, v5, rfl, h6L, rowsC, kb6, nLc⟩
          refine ⟨bs, _, _, rfl, h6L, ?_, kb6, nLc⟩
          rw [etk, List.flatMap_append, List.flatMap_cons, List.flatMap_nil, List.append_nil]
          exact rowsC
      · rintro σ H5 ⟨bs, v4, v5, rfl, h5L, rowsB, kb5, nLb⟩
        rw [List.length_map, rows.1, List.take_length] at rowsB
        exact ⟨_, rfl, L, bs, _, _, _, _, rfl, h5L, rowsB, s3.kb kb5 hL0, hL0⟩
    · rintro σ H3 ⟨F, as, v2, v3, v4, v5, rfl, h3F, rows, s3, hF⟩
      exact ⟨_, rfl, q F as H3 hF s3 h3F rows⟩
end
end My
namespace My
open PySem L2 Mth
section
variable {P : Program} {w : World} {K : PySem.W.Frag} {mg : Str → Option Value} {base : Heap}
theorem pool_same {H H' : Hp} {g : Addr} {c : Nat} (h : PoolAt H g c) (s : Same H H') : PoolAt H' g c := by
  obtain ⟨x, y, z, e1, e2⟩ := h
  exact ⟨x, y, z, s _ _ e1, e2⟩
theorem pool_ne {H : Hp} {g b : Addr} {c : Nat} (h : PoolAt H g c) (hb : H b = none) : b ≠ g := by
  obtain ⟨x, y, z, e1, e2⟩ := h
  exact fun e => by rw [e, e1] at hb; cases hb
theorem kb_upd {H H' : Hp} {a so : Addr} {o : HO} (kb : KeepBut a H H') (h : H so = none) : KeepBut a H (upd H' so o) := fun x u hx hn => by
  rw [upd_ne (ne_of_none hx h)]; exact kb x u hx hn
theorem kb_free {H H' : Hp} {a so : Addr} (kb : KeepBut a H H') (ne : so ≠ a) (h : H' so = none) : H so = none := by
  cases e : H so with
  | none => rfl
  | some o => rw [kb so o e ne] at h; cases h
theorem pool_upd {H : Hp} {a so : Addr} {o : HO} {c : Nat} (h : PoolAt H a c) (ne : so ≠ a) : PoolAt (upd H so o) a c := by
  obtain ⟨x, y, z, e1, e2⟩ := h
  exact ⟨x, y, z, by rw [upd_ne ne.symm]; exact e1, e2⟩
def OkT (z : Int) : Prop := 1 ≤ z ∧ z ≤ 1000000000000000000000000000000
theorem pick8 {r : Int} (h0 : 0 ≤ r) (h1 : r < 8) : ∃ v : Int, atI (([16, 36, 60, 27720, 8, 9, 25, 49] : List Int).map V.int) r = some (.int v) ∧ OkT v := by
  refine ⟨_, Mth.atI_map h0 (by show r < 8; exact h1), ?_⟩
  have : r = 0 ∨ r = 1 ∨ r = 2 ∨ r = 3 ∨ r = 4 ∨ r = 5 ∨ r = 6 ∨ r = 7 := by omega
  rcases this with e | e | e | e | e | e | e | e <;> subst e <;> exact ⟨by decide, by decide⟩
def spTimes : Sp := fun vs H Q _ => ∃ (a : Addr) (c : Nat), vs = [.ref a] ∧ PoolAt H a c ∧ c ≤ 900000 ∧ ∀ (z : Nat) (H' : Hp), 1 ≤ z → z ≤ 1000000000000000000000000000000 → PoolAt H' a (c + 40) → KeepBut a H H' → Q (.int (z : Int)) H'
theorem sc_law_times : FnScope ["pool", "some", "found", "prime", "turn"] ["pool"] (defScope s_law_times) := ⟨rfl, rfl, rfl, by decide +kernel, rfl, by decide +kernel, by decide +kernel⟩
theorem ok_law_times {f : Addr} {fd : FuncData} (F : Fun K "_law_times" "_law_times" s_law_times f fd) (B : Bl mg) (c_law_take : Cal P w K mg base "_law_take" 1 ["pool", "many"] spTake) : FnOk P w K mg base CX0 2 f fd ["pool"] spTimes := by
  refine F.ok sc_law_times (fun vs H Q E h => ?_) (fun cdv A outer s H vs Q E hr h => ?_)
  · obtain ⟨a, c, rfl, hp, hc, q⟩ := h
    rfl
  · obtain ⟨a, c, rfl, hp, hc, q⟩ := h
    have hr_law_take : Room 1 _ := hr.mono (by decide)
    refine ⟨_, @pss_cons _ _ _ _ _ (@ps_set _ _ (1) _ _ _ _ sc_law_times.nd rfl (Or.inl rfl) (@pe_lst _ _ _ _ (@pa_cons _ _ _ _ _ (@pe_op _ _ _ _ _ _ _ _ op_add (@pe_int _ _ _ _) (@pe_cal _ _ _ _ _ _ _ _ _ _ c_law_take hr_law_take (@pa_cons _ _ _ _ _ (pv 0) (@pa_cons _ _ _ _ _ (@pe_int _ _ _ _) (@pa_nil _) (by rfl)) (by rfl)) (by rfl) (by decide) (by rfl) (by rfl))) (@pa_cons _ _ _ _ _ (@pe_op _ _ _ _ _ _ _ _ op_add (@pe_int _ _ _ _) (@pe_cal _ _ _ _ _ _ _ _ _ _ c_law_take hr_law_take (@pa_cons _ _ _ _ _ (pv 0) (@pa_cons _ _ _ _ _ (@pe_int _ _ _ _) (@pa_nil _) (by rfl)) (by rfl)) (by rfl) (by decide) (by rfl) (by rfl))) (@pa_cons _ _ _ _ _ (@pe_ix _ _ _ _ _ _ _ ix_list (@pe_litsO _ _ _ [16, 36, 60, 27720, 8, 9, 25, 49] rfl) (@pe_cal _ _ _ _ _ _ _ _ _ _ c_law_take hr_law_take (@pa_cons _ _ _ _ _ (pv 0) (@pa_cons _ _ _ _ _ (@pe_int _ _ _ _) (@pa_nil _) (by rfl)) (by rfl)) (by rfl) (by decide) (by rfl) (by rfl)) (fun _ _ => rfl)) (@pa_nil _) (by rfl)) (by rfl)) (by rfl))) (by rfl) (by first | exact .inl rfl | exact .inr rfl | assumption)) (@pss_cons _ _ _ _ _ (@ps_expr _ _ _ _ (@pe_append _ _ _ _ _ _ _ (pv 1) (@pa_cons _ _ _ _ _ (@pe_op _ _ _ _ _ _ _ _ op_add (@pe_int _ _ _ _) (@pe_op _ _ _ _ _ _ _ _ op_mul (@pe_cal _ _ _ _ _ _ _ _ _ _ c_law_take hr_law_take (@pa_cons _ _ _ _ _ (pv 0) (@pa_cons _ _ _ _ _ (@pe_op _ _ _ _ _ _ _ _ op_pow (@pe_int _ _ _ _) (@pe_int _ _ _ _)) (@pa_nil _) (by rfl)) (by rfl)) (by rfl) (by decide) (by rfl) (by rfl)) (@pe_op _ _ _ _ _ _ _ _ op_pow (@pe_int _ _ _ _) (@pe_int _ _ _ _)))) (@pa_nil _) (by rfl)) (by rfl) (by rfl) (by rfl) (by rfl) (by rfl)) (by rfl)) (@pss_cons _ _ _ _ _ (@ps_expr _ _ _ _ (@pe_append _ _ _ _ _ _ _ (pv 1) (@pa_cons _ _ _ _ _ (@pe_op _ _ _ _ _ _ _ _ op_mul (@pe_int _ _ _ _) (@pe_op _ _ _ _ _ _ _ _ op_add (@pe_int _ _ _ _) (@pe_cal _ _ _ _ _ _ _ _ _ _ c_law_take hr_law_take (@pa_cons _ _ _ _ _ (pv 0) (@pa_cons _ _ _ _ _ (@pe_op _ _ _ _ _ _ _ _ op_pow (@pe_int _ _ _ _) (@pe_int _ _ _ _)) (@pa_nil _) (by rfl)) (by rfl)) (by rfl) (by decide) (by rfl) (by rfl)))) (@pa_nil _) (by rfl)) (by rfl) (by rfl) (by rfl) (by rfl) (by rfl)) (by rfl)) (@pss_cons _ _ _ _ _ (@ps_set _ _ (1) _ _ _ _ sc_law_times.nd rfl (Or.inl rfl) (@pe_op _ _ _ _ _ _ _ _ op_cat (pv 1) (@pe_lst _ _ _ _ (@pa_cons _ _ _ _ _ (@pe_op _ _ _ _ _ _ _ _ op_add (@pe_int _ _ _ _) (@pe_cal _ _ _ _ _ _ _ _ _ _ c_law_take hr_law_take (@pa_cons _ _ _ _ _ (pv 0) (@pa_cons _ _ _ _ _ (@pe_int _ _ _ _) (@pa_nil _) (by rfl)) (by rfl)) (by rfl) (by decide) (by rfl) (by rfl))) (@pa_cons _ _ _ _ _ (@pe_op _ _ _ _ _ _ _ _ op_add (@pe_int _ _ _ _) (@pe_cal _ _ _ _ _ _ _ _ _ _ c_law_take hr_law_take (@pa_cons _ _ _ _ _ (pv 0) (@pa_cons _ _ _ _ _ (@pe_op _ _ _ _ _ _ _ _ op_pow (@pe_int _ _ _ _) (@pe_int _ _ _ _)) (@pa_nil _) (by rfl)) (by rfl)) (by rfl) (by decide) (by rfl) (by rfl))) (@pa_nil _) (by rfl)) (by rfl)))) (by rfl) (by first | exact .inl rfl | exact .inr rfl | assumption)) (@xb_pre _ _ _ _ _ (@ps_set _ _ (2) _ _ _ _ sc_law_times.nd rfl (Or.inl rfl) (@pe_op _ _ _ _ _ _ _ _ op_add (@pe_int _ _ _ _) (@pe_cal _ _ _ _ _ _ _ _ _ _ c_law_take hr_law_take (@pa_cons _ _ _ _ _ (pv 0) (@pa_cons _ _ _ _ _ (@pe_int _ _ _ _) (@pa_nil _) (by rfl)) (by rfl)) (by rfl) (by decide) (by rfl) (by rfl))) (by rfl) (by first | exact .inl rfl | exact .inr rfl | assumption)) (@xb_cons _ _ _ _ _ (@xb_litsL _ _ _ _ _ _ _ _ [2, 3, 5, 7, 11, 2] (by decide +kernel) rfl PassesOwn.never (@pg_name _ _ (3) _ sc_law_times.nd rfl (Or.inl rfl) (by first | exact .inl rfl | exact .inr rfl | assumption)) (@pss_one _ _ _ (@ps_for _ _ _ _ _ _ _ _ PassesOwn.never rfl (@pi_range1 _ _ _ _ _ _ (by rfl) B.range (@pa_cons _ _ _ _ _ (@pe_cal _ _ _ _ _ _ _ _ _ _ c_law_take hr_law_take (@pa_cons _ _ _ _ _ (pv 0) (@pa_cons _ _ _ _ _ (@pe_int _ _ _ _) (@pa_nil _) (by rfl)) (by rfl)) (by rfl) (by decide) (by rfl) (by rfl)) (@pa_nil _) (by rfl)) (by rfl)) (@pg_name _ _ (4) _ sc_law_times.nd rfl (Or.inl rfl) (by first | exact .inl rfl | exact .inr rfl | assumption)) (@pss_one _ _ _ (@ps_set _ _ (2) _ _ _ _ sc_law_times.nd rfl (Or.inl rfl) (@pe_op _ _ _ _ _ _ _ _ op_mul (pv 2) (pv 3)) (by rfl) (by first | exact .inl rfl | exact .inr rfl | assumption))) (by intro _; rfl))) (by intro _; rfl)) (@pss_one _ _ _ (@ps_ret _ _ _ _ (@pe_ix _ _ _ _ _ _ _ ix_list (@pe_op _ _ _ _ _ _ _ _ op_cat (pv 1) (@pe_lst _ _ _ _ (@pa_cons _ _ _ _ _ (pv 2) (@pa_cons _ _ _ _ _ (pv 2) (@pa_nil _) (by rfl)) (by rfl)))) (@pe_cal _ _ _ _ _ _ _ _ _ _ c_law_take hr_law_take (@pa_cons _ _ _ _ _ (pv 0) (@pa_cons _ _ _ _ _ (@pe_int _ _ _ _) (@pa_nil _) (by rfl)) (by rfl)) (by rfl) (by decide) (by rfl) (by rfl)) (fun _ _ => rfl))))))))), ?_⟩
    refine ⟨_, rfl, a, c, 12, rfl, hp, by omega, by decide, by decide, fun r1 H1 a0 a1 P1 kb1 => ⟨_, _, rfl, rfl, ?_⟩⟩
    refine ⟨_, rfl, a, _, 12, rfl, P1, by omega, by decide, by decide, fun r2 H2 b0 b1 P2 kb2 => ⟨_, _, rfl, rfl, ?_⟩⟩
    have kb02 := kb1.trans kb2
    refine ⟨(show 8 ≤ sizeLine by decide), fun tl htl => ?_⟩
    have nt : tl ≠ a := pool_ne P2 htl
    have s3 : Same H2 (upd H2 tl (.lst (([16, 36, 60, 27720, 8, 9, 25, 49] : List Int).map V.int))) := Same.upd_new htl
    have h3 : (upd H2 tl (.lst (([16, 36, 60, 27720, 8, 9, 25, 49] : List Int).map V.int))) tl = some (.lst (([16, 36, 60, 27720, 8, 9, 25, 49] : List Int).map V.int)) := upd_same
    generalize (upd H2 tl (.lst (([16, 36, 60, 27720, 8, 9, 25, 49] : List Int).map V.int))) = H3 at s3 h3 ⊢
    refine ⟨_, rfl, a, _, 8, rfl, pool_same P2 s3, by omega, by decide, by decide, fun r3 H4 c0 c1 P4 kb4 => ?_⟩
    obtain ⟨v3, hv3, ok3⟩ := pick8 c0 c1
    have kb04 : KeepBut a H H4 := fun x o hx hn => kb4 x o (s3 x o (kb02 x o hx hn)) hn
    refine ⟨tl, _, r3, _, rfl, rfl, SqL.of (kb4 _ _ h3 nt), hv3, (show 3 ≤ sizeLine by decide), fun so hso => ?_⟩
    have nso : so ≠ a := pool_ne P4 hso
    have so0 : H so = none := kb_free kb04 nso hso
    obtain ⟨ys, eys⟩ : ∃ ys : List Int, ys = [1 + r1, 1 + r2, v3] := ⟨_, rfl⟩
    have oky : ∀ y ∈ ys, OkT y := by
      rw [eys]
      intro y hy
      simp only [List.mem_cons, List.not_mem_nil, or_false] at hy
      rcases hy with e | e | e <;> rw [e]
      · exact ⟨by omega, by omega⟩
      · exact ⟨by omega, by omega⟩
      · exact ok3
    have ly : ys.length = 3 := by rw [eys]; rfl
    have h5 : (upd H4 so (.lst [V.int (1 + r1), V.int (1 + r2), V.int v3])) so = some (.lst (ys.map V.int)) := by rw [eys]; exact upd_same
    have P5 : PoolAt (upd H4 so (.lst [V.int (1 + r1), V.int (1 + r2), V.int v3])) a _ := pool_upd P4 nso
    have kb5 : KeepBut a H (upd H4 so (.lst [V.int (1 + r1), V.int (1 + r2), V.int v3])) := kb_upd kb04 so0
    generalize (upd H4 so (.lst [V.int (1 + r1), V.int (1 + r2), V.int v3])) = H5 at h5 P5 kb5 ⊢
    clear eys
    refine ⟨_, rfl, .inl ⟨rfl, _, SqL.of h5⟩, ?_⟩
    have p15 : (10 : Int) ^ 15 = 1000000000000000 := by decide
    have p14 : (10 : Int) ^ 14 = 100000000000000 := by decide
    have p24 : (10 : Int) ^ 24 = 1000000000000000000000000 := by decide
    have p29 : (10 : Int) ^ 29 = 100000000000000000000000000000 := by decide
    refine ⟨_, rfl, _, _, rfl, rfl, ⟨by decide, by decide, by decide⟩, a, _, _, rfl, P5, by omega, (by show (0 : Int) < 10 ^ 15; decide), (by show (10 : Int) ^ 15 ≤ _; decide), fun r4 H6 d0 d1 P6 kb6 => ?_⟩
    replace d1 : r4 < 10 ^ 15 := d1
    have h6 := kb6 _ _ h5 nso
    have kb06 := kb5.trans kb6
    refine ⟨_, _, rfl, rfl, ⟨by decide, by decide, by decide⟩, _, _, rfl, rfl, .inr (by show (-(2 ^ 64) < (10 : Int) ^ 14) ∧ ((10 : Int) ^ 14 < 2 ^ 64); exact ⟨by decide, by decide⟩), _, _, rfl, rfl, so, _, _, rfl, rfl, h6, small1000 (by rw [List.length_map]; omega), ?_⟩
    have h7 : (upd H6 so (.lst (ys.map V.int ++ [V.int (1 + r4 * 10 ^ 14)]))) so = some (.lst ((ys ++ [1 + r4 * 10 ^ 14]).map V.int)) := by rw [upd_same, List.map_append]; rfl
    have P7 : PoolAt (upd H6 so (.lst (ys.map V.int ++ [V.int (1 + r4 * 10 ^ 14)]))) a _ := pool_upd P6 nso
    have kb7 : KeepBut a H (upd H6 so (.lst (ys.map V.int ++ [V.int (1 + r4 * 10 ^ 14)]))) := kb_upd kb06 so0
    have ok7 : ∀ y ∈ ys ++ [1 + r4 * 10 ^ 14], OkT y := fun y hy => (List.mem_append.mp hy).elim (oky y) fun hy => by
      rw [List.mem_singleton.mp hy, p14]; exact ⟨by omega, by omega⟩
    refine ⟨_, rfl, .inl ⟨rfl, _, SqL.of h7⟩, _, rfl, _, _, rfl, rfl, ⟨by decide, by decide, by decide⟩, a, _, _, rfl, P7, by omega, (by show (0 : Int) < 10 ^ 24; decide), (by show (10 : Int) ^ 24 ≤ _; decide), fun r5 H8 e0 e1 P8 kb8 => ?_⟩
    replace e1 : r5 < 10 ^ 24 := e1
    have h8 := kb8 _ _ h7 nso
    have kb08 := kb7.trans kb8
    refine ⟨_, _, rfl, rfl, _, _, rfl, rfl, .inl ⟨by decide, by decide⟩, so, _, _, rfl, rfl, h8, small1000 (by rw [List.length_map, List.length_append]; show ys.length + 1 ≤ _; omega), ?_⟩
    obtain ⟨zs, ezs⟩ : ∃ zs, zs = ys ++ [1 + r4 * 10 ^ 14] ++ [27720 * (1 + r5)] := ⟨_, rfl⟩
    have lz : zs.length = 5 := by rw [ezs, List.length_append, List.length_append, ly]; rfl
    have okz : ∀ y ∈ zs, OkT y := by
      rw [ezs]
      exact fun y hy => (List.mem_append.mp hy).elim (ok7 y) fun hy => by
        rw [List.mem_singleton.mp hy]; exact ⟨by omega, by omega⟩
    have h9 : (upd H8 so (.lst ((ys ++ [1 + r4 * 10 ^ 14]).map V.int ++ [V.int (27720 * (1 + r5))]))) so = some (.lst (zs.map V.int)) := by rw [upd_same, ezs]; simp only [List.map_append, List.map_cons, List.map_nil]
    have P9 : PoolAt (upd H8 so (.lst ((ys ++ [1 + r4 * 10 ^ 14]).map V.int ++ [V.int (27720 * (1 + r5))]))) a _ := pool_upd P8 nso
    have kb9 : KeepBut a H (upd H8 so (.lst ((ys ++ [1 + r4 * 10 ^ 14]).map V.int ++ [V.int (27720 * (1 + r5))]))) := kb_upd kb08 so0
    refine ⟨_, rfl, _, rfl, a, _, 200, rfl, P9, by omega, by decide, by decide, fun r6 H10 f0 f1 P10 kb10 => ⟨_, _, rfl, rfl, ?_⟩⟩
    have h10 := kb10 _ _ h9 nso
    have kb010 := kb9.trans kb10
    refine ⟨_, rfl, _, _, rfl, rfl, ⟨by decide, by decide, by decide⟩, a, _, _, rfl, P10, by omega, (by show (0 : Int) < 10 ^ 29; decide), (by show (10 : Int) ^ 29 ≤ _; decide), fun r7 H11 g0 g1 P11 kb11 => ⟨_, _, rfl, rfl, ?_⟩⟩
    replace g1 : r7 < 10 ^ 29 := g1
    have h11 := kb11 _ _ h10 nso
    have kb011 := kb010.trans kb11
    refine ⟨(show 2 ≤ sizeLine by decide), fun t2 ht2 => ?_⟩
    have nt2 : t2 ≠ a := pool_ne P11 ht2
    have s12 : Same H11 (upd H11 t2 (.lst (([1 + r6, 1 + r7] : List Int).map V.int))) := Same.upd_new ht2
    have h12 : (upd H11 t2 (.lst (([1 + r6, 1 + r7] : List Int).map V.int))) t2 = some (.lst (([1 + r6, 1 + r7] : List Int).map V.int)) := upd_same
    refine ⟨so, t2, _, _, rfl, rfl, s12 _ _ h11, h12, Nat.le_of_lt (small1000 (by simp only [List.length_map, lz, List.length_cons, List.length_nil]; omega)), fun s2 hs2 => ?_⟩
    have P12 := pool_same P11 s12
    have ns2 : s2 ≠ a := pool_ne P12 hs2
    obtain ⟨ws, ews⟩ : ∃ ws, ws = zs ++ [1 + r6, 1 + r7] := ⟨_, rfl⟩
    have lw : ws.length = 7 := by rw [ews, List.length_append, lz]; rfl
    have okw : ∀ y ∈ ws, OkT y := by
      rw [ews]
      exact fun y hy => (List.mem_append.mp hy).elim (okz y) fun hy => by
        simp only [List.mem_cons, List.not_mem_nil, or_false] at hy
        rcases hy with e | e <;> rw [e]
        · exact ⟨by omega, by omega⟩
        · exact ⟨by omega, by omega⟩
    have s13 : Same (upd H11 t2 (.lst (([1 + r6, 1 + r7] : List Int).map V.int))) (upd (upd H11 t2 (.lst (([1 + r6, 1 + r7] : List Int).map V.int))) s2 (.lst (zs.map V.int ++ ([1 + r6, 1 + r7] : List Int).map V.int))) := Same.upd_new hs2
    have h13 : (upd (upd H11 t2 (.lst (([1 + r6, 1 + r7] : List Int).map V.int))) s2 (.lst (zs.map V.int ++ ([1 + r6, 1 + r7] : List Int).map V.int))) s2 = some (.lst (ws.map V.int)) := by rw [upd_same, ews, List.map_append]
    have P13 := pool_same P12 s13
    have kb013 : KeepBut a H (upd (upd H11 t2 (.lst (([1 + r6, 1 + r7] : List Int).map V.int))) s2 (.lst (zs.map V.int ++ ([1 + r6, 1 + r7] : List Int).map V.int))) := fun x o hx hn => s13 x o (s12 x o (kb011 x o hx hn))
    refine ⟨_, rfl, a, _, 100, rfl, P13, by omega, by decide, by decide, fun r8 H14 i0 i1 P14 kb14 => ⟨_, _, rfl, rfl, ?_⟩⟩
    have h14 := kb14 _ _ h13 ns2
    have kb014 := kb013.trans kb14
    refine ⟨(show 6 ≤ sizeLine by decide), fun pl hpl => ?_⟩
    have npl : pl ≠ a := pool_ne P14 hpl
    have s15 : Same H14 (upd H14 pl (.lst (([2, 3, 5, 7, 11, 2] : List Int).map V.int))) := Same.upd_new hpl
    have h15 : (upd H14 pl (.lst (([2, 3, 5, 7, 11, 2] : List Int).map V.int))) pl = some (.lst (([2, 3, 5, 7, 11, 2] : List Int).map V.int)) := upd_same
    generalize (upd H14 pl (.lst (([2, 3, 5, 7, 11, 2] : List Int).map V.int))) = H15 at s15 h15 ⊢
    have P15 := pool_same P14 s15
    have h15s := s15 _ _ h14
    have kb015 : KeepBut a H H15 := fun x o hx hn => s15 x o (kb014 x o hx hn)
    refine ⟨pl, rfl, ⟨_, SqL.of h15⟩, for_list (K := K) (a := pl) (xs := ([2, 3, 5, 7, 11, 2] : List Int).map V.int) (fun j σ H16 => ∃ (F : Nat) (v3 v4 : Option V), σ = [some (.ref a), some (.ref s2), some (.int (F : Int)), v3, v4] ∧ 1 ≤ F ∧ F ≤ 100 * 1331 ^ j ∧ PoolAt H16 a (c + 8 + j) ∧ KeepBut a H15 H16)
      ⟨(1 + r8).toNat, none, none, ?_, by omega, by omega, P15.mono (by omega), KeepBut.refl a H15⟩ (fun j σ H16 _ ⟨_, _, _, _, _, _, _, kb⟩ => SqL.of (kb _ _ h15 npl)) ?_ ?_⟩
    · rw [show (((1 + r8).toNat : Nat) : Int) = 1 + r8 by omega]; rfl
    · rintro j x σ H16 hj ⟨F, v3, v4, rfl, F1, F2, P16, kb16⟩
      obtain ⟨pr, hpr, rfl⟩ := getElem_int hj
      have jl : j < 6 := (List.getElem?_eq_some_iff.mp hpr).1
      have two : 2 ≤ pr ∧ pr ≤ 11 := by
        have := List.mem_of_getElem? hpr
        simp only [List.mem_cons, List.not_mem_nil, or_false] at this
        omega
      obtain ⟨pn, rfl⟩ := Int.eq_ofNat_of_zero_le (show 0 ≤ pr by omega)
      refine ⟨_, rfl, a, _, 4, rfl, P16, by omega, by decide, by decide, fun r9 H17 k0 k1 P17 kb17 => ?_⟩
      refine ⟨r9, rfl, by omega, by omega, for_range (lo := 0) (n := r9.toNat) (fun i σ H18 => ∃ (G : Nat) (v : Option V), σ = [some (.ref a), some (.ref s2), some (.int (G : Int)), some (.int (pn : Int)), v] ∧ 1 ≤ G ∧ G ≤ F * 11 ^ i ∧ H18 = H17)
        ⟨F, v4, rfl, F1, by omega, rfl⟩ ?_ ?_⟩
      · rintro i σ H18 hi ⟨G, v, rfl, G1, G2, rfl⟩
        refine ⟨_, rfl, _, rfl, _, _, rfl, rfl, .inr ⟨by omega, by omega⟩, G * pn, some (.int ((0 : Int) + (i : Int))), ?_, Nat.mul_pos G1 (by omega), ?_, rfl⟩
        · rw [Int.natCast_mul]
          rfl
        · rw [Nat.pow_succ, ← Nat.mul_assoc]
          exact Nat.mul_le_mul G2 (by omega)
      · rintro σ H18 ⟨G, v, rfl, G1, G2, rfl⟩
        refine ⟨G, _, _, rfl, G1, ?_, P17, kb16.trans kb17⟩
        have e3 : 11 ^ r9.toNat ≤ 11 ^ 3 := Nat.pow_le_pow_right (by decide) (by omega)
        rw [Nat.pow_succ, ← Nat.mul_assoc]
        exact Nat.le_trans G2 (Nat.mul_le_mul F2 e3)
    · rintro σ H16 ⟨F, v3, v4, rfl, F1, F2, P16, kb16⟩
      replace F2 : F ≤ 100 * 1331 ^ 6 := F2
      replace P16 : PoolAt H16 a (c + 8 + 6) := P16
      have h16 := kb16 _ _ h15s ns2
      have kb016 := kb015.trans kb16
      refine ⟨_, rfl, _, rfl, _, rfl, (show 2 ≤ sizeLine by decide), fun t3 ht3 => ?_⟩
      have s17 : Same H16 (upd H16 t3 (.lst (([(F : Int), (F : Int)] : List Int).map V.int))) := Same.upd_new ht3
      have h17 : (upd H16 t3 (.lst (([(F : Int), (F : Int)] : List Int).map V.int))) t3 = some (.lst (([(F : Int), (F : Int)] : List Int).map V.int)) := upd_same
      refine ⟨s2, t3, _, _, rfl, rfl, s17 _ _ h16, h17, Nat.le_of_lt (small1000 (by simp only [List.length_map, lw, List.length_cons, List.length_nil]; omega)), fun u hu => ?_⟩
      have P17 := pool_same P16 s17
      have nu : u ≠ a := pool_ne P17 hu
      have s18 : Same (upd H16 t3 (.lst (([(F : Int), (F : Int)] : List Int).map V.int))) (upd (upd H16 t3 (.lst (([(F : Int), (F : Int)] : List Int).map V.int))) u (.lst (ws.map V.int ++ ([(F : Int), (F : Int)] : List Int).map V.int))) := Same.upd_new hu
      have h18 : (upd (upd H16 t3 (.lst (([(F : Int), (F : Int)] : List Int).map V.int))) u (.lst (ws.map V.int ++ ([(F : Int), (F : Int)] : List Int).map V.int))) u = some (.lst ((ws ++ [(F : Int), (F : Int)]).map V.int)) := by rw [upd_same, List.map_append]
      have P18 := pool_same P17 s18
      refine ⟨_, rfl, a, _, 9, rfl, P18, by omega, by decide, by decide, fun r10 H19 m0 m1 P19 kb19 => ?_⟩
      have lall : (ws ++ [(F : Int), (F : Int)]).length = 9 := by rw [List.length_append, lw]; rfl
      obtain ⟨y, ey⟩ : ∃ y, y = (ws ++ [(F : Int), (F : Int)]).getD r10.toNat 0 := ⟨_, rfl⟩
      have hy := Mth.atI_map (p := ws ++ [(F : Int), (F : Int)]) m0 (by rw [lall]; exact m1)
      rw [← ey] at hy
      have oky : OkT y := by
        have : y ∈ ws ++ [(F : Int), (F : Int)] := by
          rw [ey, List.getD_eq_getElem?_getD, List.getElem?_eq_getElem (by rw [lall]; omega)]
          exact List.getElem_mem _
        rcases List.mem_append.mp this with z | z
        · exact okw y z
        · have e : y = (F : Int) := by
            simp only [List.mem_cons, List.not_mem_nil, or_false] at z
            omega
          have : 100 * 1331 ^ 6 ≤ 1000000000000000000000000000000 := by decide
          rw [e]
          exact ⟨by omega, by omega⟩
      obtain ⟨yn, rfl⟩ := Int.eq_ofNat_of_zero_le (show 0 ≤ y from Int.le_trans (by decide) oky.1)
      have o1 := oky.1
      have o2 := oky.2
      refine ⟨u, _, r10, _, rfl, rfl, SqL.of (kb19 _ _ h18 nu), hy, ?_⟩
      exact q yn H19 (by omega) (by omega) (P19.mono (by omega)) fun x o hx hn => kb19 x o (s18 x o (s17 x o (kb016 x o hx hn))) hn
end
end My
namespace My
open PySem L2 Mth
section
structure LRi (l m : Nat) (ps : List Nat) (f : Nat) : Prop where
  pos : 0 < f
  parts : f ∣ m
  pow : ∃ k, f ∣ l ^ k
  rest : ∀ p ∈ ps, p ∣ l → ¬ p ∣ m / f
  free : ∀ q, (∀ p ∈ ps, Nat.Coprime p q) → Nat.Coprime f q
theorem pow_dvd {p l : Nat} (h : p ∣ l) : ∀ v, p ^ v ∣ l ^ v
  | 0 => Nat.dvd_refl _
  | v + 1 => by rw [Nat.pow_succ, Nat.pow_succ]; exact Nat.mul_dvd_mul (pow_dvd h v) h
theorem LRi.start (l m : Nat) : LRi l m [] 1 := ⟨by decide, Nat.one_dvd _, ⟨0, Nat.one_dvd _⟩, (fun p hp => by cases hp), fun q _ => Nat.coprime_one_left q⟩
theorem LRi.step {l m f p v left : Nat} {ps : List Nat} (x : LRi l m ps f) (hp : 0 < p) (hc : ∀ q ∈ ps, Nat.Coprime q p) (e : p ^ v * left = m) (hv : v = 0 ∨ p ∣ l) (hl : p ∣ l → ¬ p ∣ left) : LRi l m (ps ++ [p]) (f * p ^ v) := by
  have cf : Nat.Coprime f (p ^ v) := Nat.Coprime.pow_right v (x.free p hc)
  have fp : 0 < p ^ v := Nat.pow_pos hp
  obtain ⟨r, hr⟩ : f ∣ left := cf.dvd_of_dvd_mul_left (by rw [e]; exact x.parts)
  have em : m = f * p ^ v * r := by rw [← e, hr, Nat.mul_comm f (p ^ v), Nat.mul_assoc]
  have e1 : m / (f * p ^ v) = r := by rw [em]; exact Nat.mul_div_cancel_left r (Nat.mul_pos x.pos fp)
  have e2 : m / f = p ^ v * r := by rw [em, Nat.mul_assoc]; exact Nat.mul_div_cancel_left _ x.pos
  refine ⟨Nat.mul_pos x.pos fp, ⟨r, em⟩, ?_, fun q hq ql => ?_, fun q hq => ?_⟩
  · obtain ⟨k, hk⟩ := x.pow
    refine ⟨k + v, ?_⟩
    rw [Nat.pow_add]
    refine Nat.mul_dvd_mul hk ?_
    rcases hv with z | z
    · rw [z]; exact Nat.dvd_refl _
    · exact pow_dvd z v
  · rw [e1]
    rcases List.mem_append.mp hq with y | y
    · intro z
      exact x.rest q y ql (by rw [e2]; exact Nat.dvd_trans z (Nat.dvd_mul_left _ _))
    · rw [List.mem_singleton.mp y] at ql ⊢
      intro z
      exact hl ql (by rw [hr]; exact Nat.dvd_trans z (Nat.dvd_mul_left _ _))
  · exact Nat.Coprime.mul_left (x.free q fun p' hp' => hq p' (List.mem_append_left _ hp')) (Nat.Coprime.pow_left v (hq p (List.mem_append_right _ (List.mem_singleton.mpr rfl))))
theorem prime12 : ∀ g, g < 13 → 2 ≤ g → ∃ p ∈ [2, 3, 5, 7, 11], g % p = 0 := by decide +kernel
theorem LRi.done {l m f : Nat} (hm : 0 < m) (l1 : 1 ≤ l) (l2 : l ≤ 12) (x : LRi l m [2, 3, 5, 7, 11] f) : IsLR l m f := by
  obtain ⟨k, hk⟩ := x.pow
  refine lr_of (r := m / f) (k := k) hm (Nat.mul_div_cancel' x.parts).symm ?_ hk
  rcases Nat.lt_or_ge (Nat.gcd l (m / f)) 2 with g | g
  · have : 0 < Nat.gcd l (m / f) := Nat.gcd_pos_of_pos_left _ l1
    omega
  · have b : Nat.gcd l (m / f) ≤ l := Nat.gcd_le_left _ l1
    obtain ⟨p, hp, hd⟩ := prime12 _ (by omega) g
    have hd := Nat.dvd_of_mod_eq_zero hd
    exact absurd (Nat.dvd_trans hd (Nat.gcd_dvd_right _ _)) (x.rest p hp (Nat.dvd_trans hd (Nat.gcd_dvd_left _ _)))
theorem div_dvd {m g d : Nat} (gp : 0 < g) (h : g ∣ m) (hd : d ∣ g) : m / g ∣ m / d := by
  obtain ⟨k, rfl⟩ := h
  obtain ⟨j, rfl⟩ := hd
  have dp : 0 < d := Nat.pos_of_ne_zero fun z => by rw [z, Nat.zero_mul] at gp; omega
  rw [Nat.mul_div_cancel_left k gp, Nat.mul_assoc, Nat.mul_div_cancel_left _ dp]
  exact Nat.dvd_mul_left _ _
theorem lr_iff {l m c : Nat} (hm : 0 < m) : (∀ d, IsLR l m d → d ∣ c) ↔ (∀ d, IsLR l m d → Nat.gcd l (m / Nat.gcd m c) = 1) := by
  have gp : 0 < Nat.gcd m c := Nat.gcd_pos_of_pos_left _ hm
  constructor
  · intro h d hd
    have d1 : d ∣ Nat.gcd m c := Nat.dvd_gcd hd.parts (h d hd)
    have dv : m / Nat.gcd m c ∣ m / d := div_dvd gp (Nat.gcd_dvd_left m c) d1
    exact Nat.eq_one_of_dvd_one (by rw [← hd.rest]; exact Nat.dvd_gcd (Nat.gcd_dvd_left _ _) (Nat.dvd_trans (Nat.gcd_dvd_right _ _) dv))
  · intro h d hd
    exact Nat.dvd_trans (hd.least _ (Nat.gcd_dvd_left m c) (h d hd)) (Nat.gcd_dvd_right m c)
def okL (l m c : Nat) : Bool := Nat.beq (Nat.gcd l (m / Nat.gcd m c)) 1
def kCases : List (Nat × Nat) := [(1, 1), (1, 2), (1, 3), (1, 4), (1, 5), (2, 1), (2, 2), (3, 1), (4, 1), (5, 1)]
theorem gcd_mod60 {l m : Nat} (h : l ∣ 60) : Nat.gcd l (m % 60 + 60) = Nat.gcd l m := by
  have e : (m % 60 + 60) % l = m % l := by
    obtain ⟨k, hk⟩ := h
    rw [hk, Nat.add_mul_mod_self_left, Nat.mod_mul_right_mod]
  have a : ∀ x, Nat.gcd l x = Nat.gcd (x % l) l := fun x => Nat.gcd_rec l x
  rw [a, a m, e]
theorem okL_one {l m : Nat} : okL l m 1 = Nat.beq (Nat.gcd l m) 1 := by
  unfold okL
  rw [Nat.gcd_one_right, Nat.div_one]
theorem okL_l1 {m c : Nat} : okL 1 m c = true := by
  unfold okL
  rw [Nat.gcd_one_left]
  rfl
theorem gcd2 (x : Nat) : Nat.beq (Nat.gcd 2 x) 1 = decide (x % 2 = 1) := by
  rw [Nat.gcd_rec 2 x]
  rcases Nat.mod_two_eq_zero_or_one x with e | e <;> rw [e] <;> rfl
theorem okL_22 (m : Nat) : okL 2 m 2 = (decide (m % 2 = 1) || decide (m % 4 = 2)) := by
  unfold okL
  rw [gcd2, Nat.gcd_comm m 2, Nat.gcd_rec 2 m]
  rcases Nat.mod_two_eq_zero_or_one m with e | e
  · rw [e, Nat.gcd_zero_left]
    by_cases z : m % 4 = 2
    · rw [decide_eq_true z, decide_eq_true (show m / 2 % 2 = 1 by omega)]; rfl
    · rw [decide_eq_false z, decide_eq_false (show ¬ m / 2 % 2 = 1 by omega)]; rfl
  · rw [e, Nat.gcd_one_left, Nat.div_one, e]
    rfl
theorem okL_60 {l m c : Nat} (h : (l, c) ∈ kCases) : okL l (m % 60 + 60) c = okL l m c := by
  have one : ∀ {l}, l ∣ 60 → okL l (m % 60 + 60) 1 = okL l m 1 := fun {l} hl => by rw [okL_one, okL_one, gcd_mod60 hl]
  unfold kCases at h
  simp only [List.mem_cons, List.not_mem_nil, or_false, Prod.mk.injEq] at h
  rcases h with ⟨rfl, rfl⟩ | ⟨rfl, rfl⟩ | ⟨rfl, rfl⟩ | ⟨rfl, rfl⟩ | ⟨rfl, rfl⟩ | ⟨rfl, rfl⟩ | ⟨rfl, rfl⟩ | ⟨rfl, rfl⟩ | ⟨rfl, rfl⟩ | ⟨rfl, rfl⟩
  · rw [okL_l1, okL_l1]
  · rw [okL_l1, okL_l1]
  · rw [okL_l1, okL_l1]
  · rw [okL_l1, okL_l1]
  · rw [okL_l1, okL_l1]
  · exact one (by decide)
  · rw [okL_22, okL_22, show (m % 60 + 60) % 2 = m % 2 by omega, show (m % 60 + 60) % 4 = m % 4 by omega]
  · exact one (by decide)
  · exact one (by decide)
  · exact one (by decide)
section
variable {α β : Type} [DecidableEq α] [DecidableEq β]
def addU (acc : List α) (x : α) : List α := if x ∈ acc then acc else acc ++ [x]
theorem uniq_map {f : α → β} : ∀ (xs acc : List α), (∀ x ∈ acc ++ xs, ∀ y ∈ acc ++ xs, f x = f y → x = y) → (xs.map f).foldl addU (acc.map f) = (xs.foldl addU acc).map f
  | [], acc, _ => rfl
  | x :: xs, acc, h => by
    rw [List.map_cons, List.foldl_cons, List.foldl_cons]
    have e : addU (acc.map f) (f x) = (addU acc x).map f := by
      unfold addU
      by_cases c : x ∈ acc
      · rw [if_pos c, if_pos (List.mem_map_of_mem c)]
      · rw [if_neg c, if_neg, List.map_append]
        · rfl
        · intro z
          obtain ⟨y, hy, e⟩ := List.mem_map.mp z
          exact c (by rw [h x (List.mem_append_right _ List.mem_cons_self) y (List.mem_append_left _ hy) e.symm]; exact hy)
    rw [e]
    refine uniq_map xs (addU acc x) fun a ha b hb => h a ?_ b ?_
    · rcases List.mem_append.mp ha with z | z
      · unfold addU at z
        by_cases c : x ∈ acc
        · rw [if_pos c] at z; exact List.mem_append_left _ z
        · rw [if_neg c] at z
          rcases List.mem_append.mp z with y | y
          · exact List.mem_append_left _ y
          · rw [List.mem_singleton.mp y]; exact List.mem_append_right _ List.mem_cons_self
      · exact List.mem_append_right _ (List.mem_cons_of_mem _ z)
    · rcases List.mem_append.mp hb with z | z
      · unfold addU at z
        by_cases c : x ∈ acc
        · rw [if_pos c] at z; exact List.mem_append_left _ z
        · rw [if_neg c] at z
          rcases List.mem_append.mp z with y | y
          · exact List.mem_append_left _ y
          · rw [List.mem_singleton.mp y]; exact List.mem_append_right _ List.mem_cons_self
      · exact List.mem_append_right _ (List.mem_cons_of_mem _ z)
end
def addM (mc : Nat × Nat) (x : Nat) : Nat × Nat := if mc.1.testBit x then mc else (mc.1 ||| 2 ^ x, mc.2 + 1)
theorem addM_eq : ∀ (xs acc : List Nat) (mc : Nat × Nat), (∀ y, mc.1.testBit y = decide (y ∈ acc)) → mc.2 = acc.length → (xs.foldl addM mc).2 = (xs.foldl addU acc).length
  | [], acc, mc, _, h => h
  | x :: xs, acc, mc, h1, h2 => by
    rw [List.foldl_cons, List.foldl_cons]
    by_cases c : x ∈ acc
    · rw [show addM mc x = mc by unfold addM; rw [if_pos (by rw [h1, decide_eq_true c])], show addU acc x = acc from if_pos c]
      exact addM_eq xs acc mc h1 h2
    · rw [show addM mc x = (mc.1 ||| 2 ^ x, mc.2 + 1) by unfold addM; rw [if_neg (by rw [h1, decide_eq_false c]; simp)], show addU acc x = acc ++ [x] from if_neg c]
      refine addM_eq xs (acc ++ [x]) _ (fun y => ?_) (by rw [List.length_append, h2]; rfl)
      show (mc.1 ||| 2 ^ x).testBit y = _
      rw [Nat.testBit_or, Nat.testBit_two_pow, h1]
      by_cases e : x = y
      · subst e
        rw [decide_eq_true rfl, Bool.or_true, decide_eq_true (List.mem_append_right _ (List.mem_singleton.mpr rfl))]
      · rw [decide_eq_false e, Bool.or_false]
        by_cases d : y ∈ acc
        · rw [decide_eq_true d, decide_eq_true (List.mem_append_left _ d)]
        · rw [decide_eq_false d, decide_eq_false]
          intro z
          rcases List.mem_append.mp z with z | z
          · exact d z
          · exact e (List.mem_singleton.mp z).symm
def hasC (k : List Int) (m : Nat) : Bool := (List.range 6).all fun l => decide (l = 0) || decide (cntK k l = 0) || okL l m (cntK k l)
theorem kinds_five : ∀ n, n < 6 → ∀ k ∈ kindsF 12 n n, ∀ x ∈ k, 1 ≤ x ∧ x ≤ 5 := by decide +kernel
theorem kinds_cnt : ∀ n, n < 6 → ∀ k ∈ kindsF 12 n n, ∀ l ∈ [1, 2, 3, 4, 5], (Nat.beq (cntK k l) 0 || kCases.contains (l, cntK k l)) = true := by decide +kernel
theorem kinds_cases (n : Nat) (h : n < 6) (k : List Int) (hk : k ∈ kindsF 12 n n) : (∀ x ∈ k, 1 ≤ x ∧ x ≤ 5) ∧ ∀ l, l < 6 → 1 ≤ l → cntK k l = 0 ∨ (l, cntK k l) ∈ kCases := by
  refine ⟨kinds_five n h k hk, fun l h1 h2 => ?_⟩
  have := kinds_cnt n h k hk l (by simp only [List.mem_cons, List.not_mem_nil, or_false]; omega)
  rcases Bool.or_eq_true_iff.mp this with z | z
  · exact .inl (Nat.eq_of_beq_eq_true z)
  · exact .inr (List.contains_iff_mem.mp z)
theorem hasC_60 {n m : Nat} (hn : n ≤ 5) {k : List Int} (hk : k ∈ kindsF 12 n n) : hasC k (m % 60 + 60) = hasC k m := by
  have e : ∀ l ∈ List.range 6, (decide (l = 0) || decide (cntK k l = 0) || okL l (m % 60 + 60) (cntK k l)) = (decide (l = 0) || decide (cntK k l = 0) || okL l m (cntK k l)) := fun l hl => by
    have hl := List.mem_range.mp hl
    by_cases z : l = 0
    · rw [decide_eq_true z, Bool.true_or, Bool.true_or, Bool.true_or]
    · rcases (kinds_cases n (by omega) k hk).2 l hl (by omega) with y | y
      · rw [decide_eq_true y, Bool.or_true, Bool.true_or, Bool.true_or]
      · rw [okL_60 y]
  unfold hasC
  rw [Bool.eq_iff_iff, List.all_eq_true, List.all_eq_true]
  exact ⟨fun h l hl => by rw [← e l hl]; exact h l hl, fun h l hl => by rw [e l hl]; exact h l hl⟩
theorem lr_up {l m : Nat} (hm : 0 < m) : ∀ (n d : Nat), LrUp l m d → m - d ≤ n → ∃ d, IsLR l m d
  | 0, d, u, h => by
    by_cases z : Nat.gcd l (m / d) = 1
    · exact ⟨d, u.done z⟩
    · have := u.more hm z
      omega
  | n + 1, d, u, h => by
    by_cases z : Nat.gcd l (m / d) = 1
    · exact ⟨d, u.done z⟩
    · have := u.more hm z
      exact lr_up hm n _ (u.step hm) (by omega)
theorem lr_some {l m : Nat} (hm : 0 < m) : ∃ d, IsLR l m d := lr_up hm (m - 1) 1 (.start l m) (Nat.le_refl _)
theorem hasB_C {n m : Nat} (hn : n ≤ 5) (hm : 0 < m) {k : List Int} (hk : k ∈ kindsF 12 n n) : hasB k m = hasC k m := by
  have iff : HasR (cntK k) m ↔ hasC k m = true := by
    unfold hasC
    rw [List.all_eq_true]
    constructor
    · intro h l hl
      have hl := List.mem_range.mp hl
      by_cases z : l = 0
      · rw [decide_eq_true z, Bool.true_or, Bool.true_or]
      by_cases y : cntK k l = 0
      · rw [decide_eq_true y, Bool.or_true, Bool.true_or]
      obtain ⟨d, hd⟩ := lr_some (l := l) hm
      have := (lr_iff (c := cntK k l) hm).mp (h l (by omega) (by omega)) d hd
      unfold okL
      rw [this]
      simp
    · intro h l l1 c1
      obtain ⟨x, hx, rfl⟩ := cntK_pos c1
      have := (kinds_cases n (by omega) k hk).1 x hx
      refine (lr_iff hm).mpr fun d _ => ?_
      have q := h x.toNat (List.mem_range.mpr (by omega))
      rw [decide_eq_false (by omega), decide_eq_false (by omega), Bool.false_or, Bool.false_or] at q
      exact Nat.eq_of_beq_eq_true q
  unfold hasB
  by_cases z : HasR (cntK k) m
  · rw [iff.mp z]
    exact @decide_eq_true _ (Classical.propDecidable _) z
  · rw [show hasC k m = false from Bool.eq_false_iff.mpr fun y => z (iff.mpr y)]
    exact @decide_eq_false _ (Classical.propDecidable _) z
def perC (p : List Int) (i : Nat) : Nat := (((List.range 5).map (· + 1)).find? fun L => decide (it p L (i : Int) = (i : Int))).getD 0
def powC (p : List Int) (r : Nat) : List Int := (List.range p.length).map fun (i : Nat) => it p (r % perC p i) (i : Int)
def powL (p : List Int) (m : Nat) : List Int := (List.range p.length).map fun (i : Nat) => it p m (i : Int)
def encP (p : List Int) : Nat := p.foldl (fun a x => 5 * a + x.toNat) 0
def decP : Nat → Nat → List Int
  | 0, _ => []
  | n + 1, e => decP n (e / 5) ++ [((e % 5 : Nat) : Int)]
theorem perC_ok : ∀ n, n < 6 → ∀ p ∈ allT n, p.length = n ∧ ∀ i, i < n → it p (perC p i) (i : Int) = (i : Int) ∧ 60 % perC p i = 0 := by decide +kernel
theorem powL_C {n : Nat} (hn : n ≤ 5) {p : List Int} (hp : p ∈ allT n) (m : Nat) : powL p m = powC p (m % 60) := by
  obtain ⟨el, h⟩ := perC_ok n (by omega) p hp
  unfold powL powC
  refine List.map_congr_left fun i hi => ?_
  have hi := List.mem_range.mp hi
  obtain ⟨e1, e2⟩ := h i (by omega)
  obtain ⟨c, hc⟩ := Nat.dvd_of_mod_eq_zero e2
  have e3 : m % 60 % perC p i = m % perC p i := by rw [hc]; exact Nat.mod_mul_right_mod _ _ _
  rw [e3, it_mod e1]
theorem pow_dec : ∀ n, n < 6 → ∀ r, r < 60 → ∀ p ∈ allT n, decP n (encP (powC p r)) = powC p r := by decide +kernel
theorem pow_cnt : ∀ n, n < 6 → ∀ r, r < 60 → (((allT n).map fun p => encP (powC p r)).foldl addM (0, 0)).2 = (((kindsF 12 n n).filter fun k => hasC k (r + 60)).map manyK).sum := by decide +kernel
theorem pow_home : ∀ n, n < 6 → ∀ r, r < 60 → ((allT n).countP fun p => decide (encP (powC p r) = encP (L2.upTo 0 n))) = homeK n r := by decide +kernel
theorem up_dec : ∀ n, n < 6 → decP n (encP (L2.upTo 0 n)) = L2.upTo 0 n := by decide +kernel
theorem tried_have {n m : Nat} (hn : n ≤ 5) (hm : 0 < m) : ((((allT n).map fun p => powL p m)).foldl addU []).length = haveK n m := by
  have r60 : m % 60 < 60 := Nat.mod_lt _ (by decide)
  have e1 : ((allT n).map fun p => powL p m) = (allT n).map fun p => powC p (m % 60) := List.map_congr_left fun p hp => powL_C hn hp m
  have inj : ∀ x ∈ [] ++ (allT n).map (fun p => powC p (m % 60)), ∀ y ∈ [] ++ (allT n).map (fun p => powC p (m % 60)), encP x = encP y → x = y := fun x hx y hy e => by
    rw [List.nil_append] at hx hy
    obtain ⟨p, hp, rfl⟩ := List.mem_map.mp hx
    obtain ⟨q, hq, rfl⟩ := List.mem_map.mp hy
    rw [← pow_dec n (by omega) _ r60 p hp, ← pow_dec n (by omega) _ r60 q hq, e]
  have u := uniq_map (f := encP) ((allT n).map fun p => powC p (m % 60)) [] inj
  rw [e1, ← List.length_map (f := encP), ← u, List.map_map, List.map_nil]
  have a := addM_eq ((allT n).map fun p => encP (powC p (m % 60))) [] (0, 0) (fun y => by simp) rfl
  rw [pow_cnt n (by omega) _ r60] at a
  have e2 : (encP ∘ fun p => powC p (m % 60)) = fun p => encP (powC p (m % 60)) := rfl
  rw [e2, ← a]
  unfold haveK
  congr 1
  congr 1
  refine List.filter_congr fun k hk => ?_
  rw [hasB_C hn hm hk, hasC_60 hn hk]
theorem homeK_60 {n m : Nat} (hn : n ≤ 5) : homeK n (m % 60) = homeK n m := by
  unfold homeK
  congr 1
  congr 1
  refine List.filter_congr fun k hk => ?_
  have b := (kinds_cases n (by omega) k hk).1
  rw [Bool.eq_iff_iff, List.all_eq_true, List.all_eq_true]
  have e : ∀ x ∈ k, m % 60 % x.toNat = m % x.toNat := fun x hx => by
    have := b x hx
    have : x.toNat = 1 ∨ x.toNat = 2 ∨ x.toNat = 3 ∨ x.toNat = 4 ∨ x.toNat = 5 := by omega
    rcases this with z | z | z | z | z <;> rw [z] <;> omega
  exact ⟨fun h x hx => by rw [← e x hx]; exact h x hx, fun h x hx => by rw [e x hx]; exact h x hx⟩
theorem tried_home {n m : Nat} (hn : n ≤ 5) : ((allT n).countP fun p => decide (powL p m = L2.upTo 0 n)) = homeK n m := by
  have r60 : m % 60 < 60 := Nat.mod_lt _ (by decide)
  rw [← homeK_60 hn, ← pow_home n (by omega) _ r60]
  refine List.countP_congr fun p hp => ?_
  rw [powL_C hn hp m, decide_eq_true_iff, decide_eq_true_iff]
  refine ⟨fun e => by rw [e], fun e => ?_⟩
  rw [← pow_dec n (by omega) _ r60 p hp, e, up_dec n (by omega)]
end
end My
namespace My
open PySem L2 Mth
section
variable {P : Program} {w : World} {K : PySem.W.Frag} {mg : Str → Option Value} {base : Heap}
theorem pe_countK (K : PySem.W.Frag) {X : Cx} {o e : Expr} {to : TE} {t : TA} {apos pos : Pos} (ho : PE X o to) (ha : PA X [e] t) (hK : X.K = K := by rfl)
    (hbase : attributeBase o "count" X.env (eval o X.env) = eval o X.env := by rfl)
    (hfew : ((backTo pos (starEach [e] X.env)).all (fun x => !x.1) && (backToKw pos (keywordEach [] X.env)).all (fun x => x.1.isSome)
      && decide ([e].length + ([] : List Keyword).length + (if ([] : List Keyword).isEmpty then 0 else 1) < 30)) = true := by rfl)
    (hline : (apos.endLine == pos.line) = true := by rfl) (hs : starEach [e] X.env = (false, eval e X.env) :: starEach [] X.env := by rfl) (hplain : (backTo pos (starEach [] X.env)).any (·.1) = false := by rfl) :
    PE X (.Call (.Attribute o "count" apos) [e] [] pos) (tBM K "list" rCount to t) := by
  subst hK
  exact pe_count ho ha hbase hfew hline hs hplain
theorem primes_cop : ∀ j, j < 5 → ∀ q ∈ ([2, 3, 5, 7, 11] : List Nat).take j, Nat.gcd q (([2, 3, 5, 7, 11] : List Nat).getD j 0) = 1 := by decide +kernel
def spLeastL : Sp := fun vs H Q _ => ∃ (l m : Nat), vs = [.int (l : Int), .int (m : Int)] ∧ 1 ≤ l ∧ l ≤ 12 ∧ 1 ≤ m ∧ m ≤ 1000000000000000000000000000000 ∧ ∀ (d : Nat) (H' : Hp), Same H H' → IsLR l m d → 1 ≤ d → Q (.int (d : Int)) H'
theorem sc_law_least_right : FnScope ["length", "times", "found", "prime", "left"] ["length", "times"] (defScope s_law_least_right) := ⟨rfl, rfl, rfl, by decide +kernel, rfl, by decide +kernel, by decide +kernel⟩
theorem ok_law_least_right {f : Addr} {fd : FuncData} (F : Fun K "_law_least_right" "_law_least_right" s_law_least_right f fd) : FnOk P w K mg base CX0 1 f fd ["length", "times"] spLeastL := by
  refine F.ok sc_law_least_right (fun vs H Q E h => ?_) (fun cdv A outer s H vs Q E hr h => ?_)
  · obtain ⟨l, m, rfl, l1, l2, m1, m2, q⟩ := h
    rfl
  · obtain ⟨l, m, rfl, l1, l2, m1, m2, q⟩ := h
    refine ⟨_, @xb_pre _ _ _ _ _ (@ps_set _ _ (2) _ _ _ _ sc_law_least_right.nd rfl (Or.inl rfl) (@pe_int _ _ _ _) (by rfl) (by first | exact .inl rfl | exact .inr rfl | assumption)) (@xb_cons _ _ _ _ _ (@xb_litsL _ _ _ _ _ _ _ _ [2, 3, 5, 7, 11] (by decide +kernel) rfl PassesOwn.never (@pg_name _ _ (3) _ sc_law_least_right.nd rfl (Or.inl rfl) (by first | exact .inl rfl | exact .inr rfl | assumption)) (@pss_cons _ _ _ _ _ (@ps_set _ _ (4) _ _ _ _ sc_law_least_right.nd rfl (Or.inl rfl) (pv 1) (by rfl) (by first | exact .inl rfl | exact .inr rfl | assumption)) (@pss_one _ _ _ (@ps_while _ _ _ _ _ _ PassesOwn.never (@pw_and _ _ _ _ _ _ _ (@pt_cmpR _ _ _ _ _ _ _ _ op_eq (@pe_op _ _ _ _ _ _ _ _ op_mod (pv 0) (pv 3)) (@pe_int _ _ _ _) (nomark _)) (@pw_and1 _ _ _ _ (@pt_cmpR _ _ _ _ _ _ _ _ op_eq (@pe_op _ _ _ _ _ _ _ _ op_mod (pv 4) (pv 3)) (@pe_int _ _ _ _) (nomark _)))).pt (@pss_cons _ _ _ _ _ (@ps_set _ _ (2) _ _ _ _ sc_law_least_right.nd rfl (Or.inl rfl) (@pe_op _ _ _ _ _ _ _ _ op_mul (pv 2) (pv 3)) (by rfl) (by first | exact .inl rfl | exact .inr rfl | assumption)) (@pss_one _ _ _ (@ps_set _ _ (4) _ _ _ _ sc_law_least_right.nd rfl (Or.inl rfl) (@pe_op _ _ _ _ _ _ _ _ op_fdivB (pv 4) (pv 3)) (by rfl) (by first | exact .inl rfl | exact .inr rfl | assumption))))))) (by intro _; rfl)) (@pss_one _ _ _ (@ps_ret _ _ _ _ (pv 2)))), ?_⟩
    refine ⟨(show 5 ≤ sizeLine by decide), fun pl hpl => ?_⟩
    have s1 : Same H (upd H pl (.lst (([2, 3, 5, 7, 11] : List Int).map V.int))) := Same.upd_new hpl
    have h1 : (upd H pl (.lst (([2, 3, 5, 7, 11] : List Int).map V.int))) pl = some (.lst (([2, 3, 5, 7, 11] : List Int).map V.int)) := upd_same
    generalize (upd H pl (.lst (([2, 3, 5, 7, 11] : List Int).map V.int))) = H1 at s1 h1 ⊢
    refine ⟨pl, rfl, ⟨_, SqL.of h1⟩, for_list (K := K) (a := pl) (xs := ([2, 3, 5, 7, 11] : List Int).map V.int) (fun j σ H2 => ∃ (f : Nat) (v3 v4 : Option V), σ = [some (.int (l : Int)), some (.int (m : Int)), some (.int (f : Int)), v3, v4] ∧ LRi l m (([2, 3, 5, 7, 11] : List Nat).take j) f ∧ H2 = H1)
      ⟨1, none, none, rfl, LRi.start l m, rfl⟩ (fun j σ H2 _ ⟨_, _, _, _, _, e⟩ => by rw [e]; exact SqL.of h1) ?_ ?_⟩
    · rintro j x σ H2 hj ⟨f, v3, v4, rfl, inv, rfl⟩
      obtain ⟨pr, hpr, rfl⟩ := getElem_int hj
      have jl : j < 5 := (List.getElem?_eq_some_iff.mp hpr).1
      obtain ⟨pn, epn, rfl, p2, p11⟩ : ∃ pn : Nat, ([2, 3, 5, 7, 11] : List Nat)[j]? = some pn ∧ pr = (pn : Int) ∧ 2 ≤ pn ∧ pn ≤ 11 := by
        have : j = 0 ∨ j = 1 ∨ j = 2 ∨ j = 3 ∨ j = 4 := by omega
        rcases this with rfl | rfl | rfl | rfl | rfl <;> cases hpr <;> exact ⟨_, rfl, rfl, by decide, by decide⟩
      have hc : ∀ q ∈ ([2, 3, 5, 7, 11] : List Nat).take j, Nat.Coprime q pn := fun q hq => by
        have := primes_cop j jl q hq
        rw [List.getD_eq_getElem?_getD, epn] at this
        exact this
      have modI : ∀ x : Nat, V.int ((x : Int) % (pn : Int)) = V.int 0 ↔ pn ∣ x := fun x => by
        constructor
        · intro z
          have z := V.int.inj z
          exact Nat.dvd_of_mod_eq_zero (by rw [← Int.natCast_emod] at z; omega)
        · intro z
          rw [← Int.natCast_emod, Nat.mod_eq_zero_of_dvd z]
          rfl
      refine ⟨_, rfl, ?_⟩
      refine ⟨fun mm σ H3 => ∃ v left : Nat, σ = [some (.int (l : Int)), some (.int (m : Int)), some (.int ((f * pn ^ v : Nat) : Int)), some (.int (pn : Int)), some (.int (left : Int))] ∧ pn ^ v * left = m ∧ (v = 0 ∨ pn ∣ l) ∧ H3 = H2 ∧ left = mm, ⟨m, 0, m, ?_, by rw [Nat.pow_zero, Nat.one_mul], .inl rfl, rfl, rfl⟩, ?_⟩
      · rw [Nat.pow_zero, Nat.mul_one]; rfl
      rintro mm σ H3 ⟨v, left, rfl, e, hv, rfl, rfl⟩
      have pv0 : 0 < pn ^ v := Nat.pow_pos (by omega)
      have lm : left ≤ m := by rw [← e]; exact Nat.le_mul_of_pos_left _ pv0
      have l0 : 0 < left := Nat.pos_of_ne_zero fun z => by rw [z, Nat.mul_zero] at e; omega
      have out : (pn ∣ l → ¬ pn ∣ left) → ∃ (f' : Nat) (v3 v4 : Option V), [some (V.int (l : Int)), some (V.int (m : Int)), some (V.int ((f * pn ^ v : Nat) : Int)), some (V.int (pn : Int)), some (V.int (left : Int))] = [some (V.int (l : Int)), some (V.int (m : Int)), some (V.int (f' : Int)), v3, v4] ∧ LRi l m (([2, 3, 5, 7, 11] : List Nat).take (j + 1)) f' ∧ H3 = H3 := fun h =>
        ⟨_, _, _, rfl, by rw [take_succ_of epn]; exact inv.step (by omega) hc e hv h, rfl⟩
      refine ⟨_, rfl, _, rfl, _, _, rfl, rfl, (show (0 : Int) < (pn : Int) by omega), rfl, _, rfl, ?_⟩
      by_cases c1 : pn ∣ l
      · rw [decide_eq_true ((modI l).mpr c1)]
        refine iteT ⟨_, rfl, _, rfl, _, _, rfl, rfl, (show (0 : Int) < (pn : Int) by omega), rfl, _, rfl, ?_⟩
        by_cases c2 : pn ∣ left
        · rw [decide_eq_true ((modI left).mpr c2)]
          obtain ⟨r, rfl⟩ := c2
          have r0 : 0 < r := Nat.pos_of_ne_zero fun z => by rw [z, Nat.mul_zero] at l0; omega
          refine ⟨fun σ' H' => ∃ m', m' < pn * r ∧ _, fun _ _ h => h, ?_⟩
          refine ⟨_, rfl, _, rfl, _, _, rfl, rfl, .inr ⟨by omega, by omega⟩, _, rfl, _, rfl, _, _, rfl, rfl, ⟨by omega, by omega⟩, ?_⟩
          refine ⟨r, ?_, v + 1, r, ?_, by rw [Nat.pow_succ, Nat.mul_assoc]; exact e, .inr c1, rfl, rfl⟩
          · have := Nat.mul_le_mul_right r p2
            omega
          · have e1 : ((f * pn ^ (v + 1) : Nat) : Int) = ((f * pn ^ v : Nat) : Int) * (pn : Int) := by rw [Nat.pow_succ, ← Nat.mul_assoc, Int.natCast_mul]
            have e2 : ((pn * r : Nat) : Int) / (pn : Int) = (r : Int) := by rw [Int.natCast_mul]; exact Int.mul_ediv_cancel_left _ (by omega)
            rw [e1, ← e2]
            rfl
        · rw [decide_eq_false fun z => c2 ((modI left).mp z)]
          exact out fun _ => c2
      · rw [decide_eq_false fun z => c1 ((modI l).mp z)]
        exact iteF (out fun z => absurd z c1)
    · rintro σ H2 ⟨f, v3, v4, rfl, inv, rfl⟩
      exact ⟨_, rfl, q f H2 s1 (inv.done m1 l1 l2) inv.pos⟩
noncomputable def badP (ks : List Int) (m : Nat) (x : Int) : Bool := @decide (∃ d, IsLR x.toNat m d ∧ ¬ d ∣ cntK ks x.toNat) (Classical.propDecidable _)
theorem badP_iff {ks : List Int} {m d : Nat} {x : Int} (h : IsLR x.toNat m d) : badP ks m x = !decide (cntK ks x.toNat % d = 0) := by
  unfold badP
  by_cases z : d ∣ cntK ks x.toNat
  · rw [decide_eq_true (Nat.mod_eq_zero_of_dvd z)]
    exact @decide_eq_false _ (Classical.propDecidable _) fun ⟨e, he, n⟩ => n (by rw [he.uniq h]; exact z)
  · rw [decide_eq_false fun y => z (Nat.dvd_of_mod_eq_zero y)]
    exact @decide_eq_true _ (Classical.propDecidable _) ⟨d, h, z⟩
theorem bad_none {ks : List Int} {m : Nat} (hm : 0 < m) (pos : ∀ x ∈ ks, 1 ≤ x) : decide (ks.filter (badP ks m) = []) = hasB ks m := by
  have iff : ks.filter (badP ks m) = [] ↔ HasR (cntK ks) m := by
    rw [List.filter_eq_nil_iff]
    constructor
    · intro h l l1 c1 d hd
      obtain ⟨x, hx, rfl⟩ := cntK_pos c1
      have := h x hx
      rw [badP_iff hd] at this
      simp only [Bool.not_eq_true, Bool.not_eq_false', decide_eq_true_iff] at this
      exact Nat.dvd_of_mod_eq_zero this
    · intro h x hx z
      have x1 := pos x hx
      obtain ⟨d, hd⟩ := lr_some (l := x.toNat) hm
      rw [badP_iff hd] at z
      have c1 : 1 ≤ cntK ks x.toNat := by
        unfold cntK
        exact List.countP_pos_iff.mpr ⟨x, hx, decide_eq_true rfl⟩
      rw [decide_eq_true (Nat.mod_eq_zero_of_dvd (h x.toNat (by omega) c1 d hd))] at z
      cases z
  unfold hasB
  by_cases z : HasR (cntK ks) m
  · rw [decide_eq_true (iff.mpr z)]
    exact (@decide_eq_true _ (Classical.propDecidable _) z).symm
  · rw [decide_eq_false fun y => z (iff.mp y)]
    exact (@decide_eq_false _ (Classical.propDecidable _) z).symm
theorem cnt_same {ks : List Int} (pos : ∀ x ∈ ks, 1 ≤ x) {z : Int} (hz : 1 ≤ z) : (ks.countP fun i => decide (i = z)) = cntK ks z.toNat := by
  unfold cntK
  refine List.countP_congr fun x hx => ?_
  have := pos x hx
  rw [decide_eq_true_iff, decide_eq_true_iff]
  omega
def spHasRoot : Sp := fun vs H Q _ => ∃ (a : Addr) (ks : List Int) (m : Nat), vs = [.ref a, .int (m : Int)] ∧ H a = some (.lst (ks.map V.int)) ∧ (∀ x ∈ ks, 1 ≤ x ∧ x ≤ 12) ∧ ks.length ≤ 40 ∧ 1 ≤ m ∧ m ≤ 1000000000000000000000000000000 ∧ ∀ H', Same H H' → Q (.bl (hasB ks m)) H'
theorem sc_law_has_root : FnScope ["kind", "times"] ["kind", "times"] (defScope s_law_has_root) := ⟨rfl, rfl, rfl, by decide +kernel, rfl, by decide +kernel, by decide +kernel⟩
theorem nd_length_times_kind_law_has_root : (["length", "times", "kind"] : List Str).Nodup := by decide +kernel
theorem ok_law_has_root {f : Addr} {fd : FuncData} (F : Fun K "_law_has_root" "_law_has_root" s_law_has_root f fd) (c_law_least_right : Cal P w K mg base "_law_least_right" 1 ["length", "times"] spLeastL) : FnOk P w K mg base CX0 2 f fd ["kind", "times"] spHasRoot := by
  refine F.ok sc_law_has_root (fun vs H Q E h => ?_) (fun cdv A outer s H vs Q E hr h => ?_)
  · obtain ⟨a, ks, m, rfl, ha, bd, lk, m1, m2, q⟩ := h
    rfl
  · obtain ⟨a, ks, m, rfl, ha, bd, lk, m1, m2, q⟩ := h
    have hr_law_least_right : Room 1 _ := hr.mono (by decide)
    have hu := hu_of hr
    refine ⟨_, @pss_one _ _ _ (@ps_ret _ _ _ _ (@pe_cmpR _ _ _ _ _ _ _ _ (op_eqL 0 hu) (@pe_comp _ _ _ _ _ _ _ _ _ _ _ (["length", "times", "kind"]) (1) ([1, 0]) rfl .of (@pi_list _ _ _ _ (pv 0)) (fun _ _ _ _ _ => @pg_name _ _ (0) _ nd_length_times_kind_law_has_root rfl (Or.inl rfl) (by first | exact .inl rfl | exact .inr rfl | assumption)) (fun _ _ _ _ _ => @pifs_one _ _ _ (@pt_cmpR _ _ _ _ _ _ _ _ op_ne (@pe_op _ _ _ _ _ _ _ _ op_mod (@pe_countK K _ _ _ _ _ _ _ (pv 2) (@pa_cons _ _ _ _ _ (pv 0) (@pa_nil _) (by rfl)) (by rfl) (by rfl) (by rfl) (by rfl) (by rfl) (by rfl)) (@pe_cal _ _ _ _ _ _ _ _ _ _ c_law_least_right hr_law_least_right (@pa_cons _ _ _ _ _ (pv 0) (@pa_cons _ _ _ _ _ (pv 1) (@pa_nil _) (by rfl)) (by rfl)) (by rfl) (by decide) (by rfl) (by rfl))) (@pe_int _ _ _ _) (nomark _))) (fun _ _ _ _ _ => (pv 0)) (by intro _; rfl)) (@pe_lst _ _ _ _ (@pa_nil _)) (nomark _))), ?_⟩
    refine ⟨_, rfl, a, rfl, ⟨_, SqL.of ha⟩, comp_list (K := K) (a := a) (xs := ks.map V.int) (fun j ys σ H2 => ∃ v : Option V, σ = [v, some (.int (m : Int)), some (.ref a)] ∧ Same H H2 ∧ ys = ((ks.take j).filter (badP ks m)).map V.int) ⟨none, rfl, Same.refl H, by simp⟩ (fun j ys σ H2 _ ⟨_, _, s, _⟩ => SqL.of (s _ _ ha)) ?_ ?_⟩
    · rintro j x ys σ H2 hj ⟨v, rfl, s2, rfl⟩
      obtain ⟨z, hz, rfl⟩ := getElem_int hj
      obtain ⟨z1, z2⟩ := bd z (List.mem_of_getElem? hz)
      have lj : ((ks.take j).filter (badP ks m)).length ≤ 40 := Nat.le_trans (List.length_filter_le _ _) (by rw [List.length_take]; omega)
      have ez : (z.toNat : Int) = z := by omega
      refine ⟨_, rfl, .inl ⟨rfl, _, SqL.of (s2 _ _ ha)⟩, _, rfl, a, ks, z, rfl, rfl, s2 _ _ ha, ?_⟩
      refine ⟨_, rfl, _, rfl, z.toNat, m, by rw [ez]; rfl, by omega, by omega, m1, m2, fun d H3 s3 lr d1 => ?_⟩
      rw [cnt_same (fun x hx => (bd x hx).1) z1]
      refine ⟨_, _, rfl, rfl, (show (0 : Int) < (d : Int) by omega), rfl, _, rfl, ?_⟩
      have eb := badP_iff (ks := ks) lr
      by_cases c : cntK ks z.toNat % d = 0
      · rw [decide_eq_true c] at eb
        refine iteNS (congrArg V.int (by rw [← Int.natCast_emod, c]; rfl)) ⟨_, rfl, s2.trans s3, ?_⟩
        rw [take_succ_of hz, List.filter_append, List.filter_cons_of_neg (by rw [eb]; decide), List.filter_nil, List.append_nil]
      · rw [decide_eq_false c] at eb
        have ne : ¬ V.int ((cntK ks z.toNat : Int) % (d : Int)) = V.int 0 := fun y => c (by
          have y := V.int.inj y
          rw [← Int.natCast_emod] at y
          omega)
        rw [decide_eq_false ne]
        refine iteT ⟨_, rfl, small1000 (by rw [List.length_map]; omega), _, rfl, s2.trans s3, ?_⟩
        rw [take_succ_of hz, List.filter_append, List.filter_cons_of_pos (by rw [eb]; decide), List.filter_nil, List.map_append]
        rfl
    · rintro ys σ H2 ⟨v, rfl, s2, rfl⟩ D hD
      rw [List.length_map, List.take_length]
      obtain ⟨fs, efs⟩ : ∃ fs, fs = ks.filter (badP ks m) := ⟨_, rfl⟩
      rw [← efs]
      have s3 : Same H2 (upd H2 D (.lst (fs.map V.int))) := Same.upd_new hD
      have h3 : (upd H2 D (.lst (fs.map V.int))) D = some (.lst (fs.map V.int)) := upd_same
      generalize (upd H2 D (.lst (fs.map V.int))) = H3 at s3 h3 ⊢
      refine ⟨Nat.zero_le _, fun e0 he0 => ?_⟩
      have s4 : Same H3 (upd H3 e0 (.lst [])) := Same.upd_new he0
      have h4 : (upd H3 e0 (.lst [])) e0 = some (.lst (([] : List Int).map V.int)) := upd_same
      generalize (upd H3 e0 (.lst [])) = H4 at s4 h4 ⊢
      refine ⟨D, e0, _, _, _, rfl, rfl, SqL.of (s4 _ _ h3), SqL.of h4, leq_ints K H4 0 fs [], ?_⟩
      rw [efs, bad_none m1 fun x hx => (bd x hx).1]
      exact q H4 (s2.trans (s3.trans s4))
def spDone : Sp := fun vs H Q _ => ∃ (a : Addr) (p : List Int) (m : Nat), vs = [.ref a, .int (m : Int)] ∧ TurnAt H a p ∧ ∀ (l : Addr) (H' : Hp), H l = none → Same H H' → H' l = some (.lst ((powL p m).map V.int)) → Q (.ref l) H'
theorem powL_take {p : List Int} {m i : Nat} (hi : i < p.length) : (powL p m).take (i + 1) = (powL p m).take i ++ [it p m (i : Int)] := by
  refine take_succ_of ?_
  unfold powL
  rw [List.getElem?_map, List.getElem?_range hi]
  rfl
theorem sc_law_done : FnScope ["p", "times", "found", "thing", "here"] ["p", "times"] (defScope s_law_done) := ⟨rfl, rfl, rfl, by decide +kernel, rfl, by decide +kernel, by decide +kernel⟩
theorem ok_law_done {f : Addr} {fd : FuncData} (F : Fun K "_law_done" "_law_done" s_law_done f fd) (B : Bl mg) : FnOk P w K mg base CX0 1 f fd ["p", "times"] spDone := by
  refine F.ok sc_law_done (fun vs H Q E h => ?_) (fun cdv A outer s H vs Q E hr h => ?_)
  · obtain ⟨a, p, m, rfl, ⟨ha, tp, lp⟩, q⟩ := h
    rfl
  · obtain ⟨a, p, m, rfl, ⟨ha, tp, lp⟩, q⟩ := h
    refine ⟨_, @pss_cons _ _ _ _ _ (@ps_set _ _ (2) _ _ _ _ sc_law_done.nd rfl (Or.inl rfl) (@pe_lst _ _ _ _ (@pa_nil _)) (by rfl) (by first | exact .inl rfl | exact .inr rfl | assumption)) (@pss_cons _ _ _ _ _ (@ps_for _ _ _ _ _ _ _ _ PassesOwn.never rfl (@pi_range1 _ _ _ _ _ _ (by rfl) B.range (@pa_cons _ _ _ _ _ (@pe_lenL _ _ _ _ _ B.len (@pa_cons _ _ _ _ _ (pv 0) (@pa_nil _) (by rfl)) (by rfl) (by rfl)) (@pa_nil _) (by rfl)) (by rfl)) (@pg_name _ _ (3) _ sc_law_done.nd rfl (Or.inl rfl) (by first | exact .inl rfl | exact .inr rfl | assumption)) (@pss_cons _ _ _ _ _ (@ps_set _ _ (4) _ _ _ _ sc_law_done.nd rfl (Or.inl rfl) (@pe_lst _ _ _ _ (@pa_cons _ _ _ _ _ (pv 3) (@pa_nil _) (by rfl))) (by rfl) (by first | exact .inl rfl | exact .inr rfl | assumption)) (@pss_cons _ _ _ _ _ (@ps_while _ _ _ _ _ _ PassesOwn.never (@pt_cmpR _ _ _ _ _ _ _ _ op_ne (@pe_ix _ _ _ _ _ _ _ ix_list (pv 0) (@pe_ix _ _ _ _ _ _ _ ix_list (pv 4) (@pe_un _ _ _ _ _ _ un_neg (@pe_int _ _ _ _)) (fun _ _ => rfl)) (fun _ _ => rfl)) (pv 3) (nomark _)) (@pss_one _ _ _ (@ps_expr _ _ _ _ (@pe_append _ _ _ _ _ _ _ (pv 4) (@pa_cons _ _ _ _ _ (@pe_ix _ _ _ _ _ _ _ ix_list (pv 0) (@pe_ix _ _ _ _ _ _ _ ix_list (pv 4) (@pe_un _ _ _ _ _ _ un_neg (@pe_int _ _ _ _)) (fun _ _ => rfl)) (fun _ _ => rfl)) (@pa_nil _) (by rfl)) (by rfl) (by rfl) (by rfl) (by rfl) (by rfl)) (by rfl)))) (@pss_one _ _ _ (@ps_expr _ _ _ _ (@pe_append _ _ _ _ _ _ _ (pv 2) (@pa_cons _ _ _ _ _ (@pe_ix _ _ _ _ _ _ _ ix_list (pv 4) (@pe_op _ _ _ _ _ _ _ _ op_mod (pv 1) (@pe_lenL _ _ _ _ _ B.len (@pa_cons _ _ _ _ _ (pv 4) (@pa_nil _) (by rfl)) (by rfl) (by rfl))) (fun _ _ => rfl)) (@pa_nil _) (by rfl)) (by rfl) (by rfl) (by rfl) (by rfl) (by rfl)) (by rfl))))) (by intro _; rfl)) (@pss_one _ _ _ (@ps_ret _ _ _ _ (pv 2)))), ?_⟩
    refine ⟨Nat.zero_le _, fun l hl => ?_⟩
    have s0 : Same H (upd H l (.lst [])) := Same.upd_new hl
    refine ⟨_, rfl, a, _, rfl, .inl (SqL.of (s0 a _ ha)), (p.length : Int), ?_, by omega, by omega, ?_⟩
    · rw [List.length_map]
    rw [show ((p.length : Int)).toNat = p.length by omega]
    refine for_range (lo := 0) (n := p.length) (fun i σ H2 => ∃ (v2 v3 : Option V), σ = [some (.ref a), some (.int (m : Int)), some (.ref l), v2, v3] ∧ H2 l = some (.lst (((powL p m).take i).map V.int)) ∧ Same H H2)
      ⟨none, none, rfl, upd_same, s0⟩ ?_ ?_
    · rintro i σ H2 hi ⟨v2, v3, rfl, h2l, s2⟩
      have e0 : (0 : Int) + (i : Int) = (i : Int) := by omega
      rw [e0]
      have hx : In p (i : Int) := ⟨by omega, by omega⟩
      refine ⟨_, rfl, (by show 1 ≤ sizeLine; decide), fun e he => ?_⟩
      have nle : l ≠ e := ne_of_none h2l he
      have he0 : H e = none := s2.free he
      refine while_by (fun σ H3 => ∃ n : Nat, σ = [some (.ref a), some (.int (m : Int)), some (.ref l), some (.int (i : Int)), some (.ref e)] ∧ 1 ≤ n ∧ H3 e = some (.lst ((ringL p i n).map V.int)) ∧ KeepBut e H2 H3 ∧ ∀ j, 0 < j → j < n → it p j i ≠ i) (fun _ H3 => p.length + 1 - lenAt H3 e)
        ⟨1, rfl, Nat.le_refl _, upd_same, KeepBut.upd, fun j j0 j1 => by omega⟩ ?_ ?_
      · rintro σ H3 ⟨n, rfl, n1, h3e, kb, hne⟩
        have nae : a ≠ e := ne_of_none (s2 a _ ha) he
        have h3a := kb a _ (s2 a _ ha) nae
        have h3l := kb l _ h2l nle
        have hin := it_in tp hx (n - 1)
        have hn1 : n - 1 + 1 = n := by omega
        have est : p.getD (it p (n - 1) i).toNat 0 = it p n i := by
          show nx p (it p (n - 1) i) = it p n i
          rw [← hn1]; rfl
        have hat := atI_map hin.1 hin.2
        rw [est] at hat
        refine ⟨_, rfl, _, rfl, _, rfl, e, _, _, _, rfl, rfl, SqL.of h3e, last_at n1, a, _, _, _, rfl, rfl, SqL.of h3a, hat, _, rfl, rfl, _, rfl, ?_⟩
        by_cases hb : it p n i = i
        · refine iteNS (congrArg V.int hb) ?_
          have s3 : Same H H3 := fun b o hb => kb b o (s2 b o hb) (ne_of_none hb he0)
          have hmod : atI ((ringL p i n).map V.int) ((m : Int) % ((((ringL p i n).map V.int).length : Nat) : Int)) = some (.int (it p m i)) := by
            rw [List.length_map, ringL_len, ← Int.natCast_emod]
            refine atI_nat ?_
            have lt : m % n < n := Nat.mod_lt _ (by omega)
            rw [List.getElem?_map, ringL, List.getElem?_map, List.getElem?_range lt]
            exact congrArg (fun z => some (V.int z)) (it_mod hb m)
          refine ⟨_, rfl, .inl ⟨rfl, _, SqL.of h3l⟩, _, rfl, _, rfl, _, rfl, e, _, rfl, .inl (SqL.of h3e), _, _, rfl, rfl, (by rw [List.length_map, ringL_len]; show (0 : Int) < (n : Int); omega), e, _, _, _, rfl, rfl, SqL.of h3e, hmod, l, _, _, rfl, rfl, h3l, small1000 (by rw [List.length_map, List.length_take]; omega), ?_⟩
          refine ⟨_, _, rfl, ?_, fun b o hb => by rw [upd_ne (ne_of_none hb hl)]; exact s3 b o hb⟩
          rw [upd_same, powL_take hi, List.map_append]
          rfl
        · have hb' : ¬ V.int (it p n i) = V.int i := fun z => hb (V.int.inj z)
          rw [decide_eq_false hb']
          refine iteT ?_
          have hne' : ∀ j, 0 < j → j < n + 1 → it p j i ≠ i := fun j j0 j1 => by
            by_cases e : j = n
            · rw [e]; exact hb
            · exact hne j j0 (by omega)
          have hbd := ring_bound tp hx hne'
          refine ⟨_, rfl, .inl ⟨rfl, _, SqL.of h3e⟩, _, rfl, _, rfl, _, rfl, e, _, _, _, rfl, rfl, SqL.of h3e, last_at n1, a, _, _, _, rfl, rfl, SqL.of h3a, hat, e, _, _, rfl, rfl, h3e, small1000 (by rw [List.length_map, ringL_len]; omega), ?_⟩
          have h4e : (upd H3 e (.lst ((ringL p i n).map V.int ++ [.int (it p n i)]))) e = some (.lst ((ringL p i (n + 1)).map V.int)) := by
            rw [upd_same, ringL_succ, List.map_append]; rfl
          refine ⟨⟨n + 1, rfl, by omega, h4e, kb.upd_a, hne'⟩, ?_⟩
          rw [lenAt_of h4e, lenAt_of h3e, List.length_map, List.length_map, ringL_len, ringL_len]
          omega
      · rintro σ H3 Q Q' hq ⟨v, hv, v1, hv1, v2, hv2, p1, xs1, i1, y1, e1, e2, e3, e4, p2, xs2, i2, y2, f1, f2, f3, f4, v3, hv3, g1, k1, g2, g3⟩
        exact ⟨v, hv, v1, hv1, v2, hv2, p1, xs1, i1, y1, e1, e2, e3, e4, p2, xs2, i2, y2, f1, f2, f3, f4, v3, hv3, g1, k1, g2, hq _ _ g3⟩
    · rintro σ H2 ⟨v2, v3, rfl, h2l, s2⟩
      have el : (powL p m).length = p.length := by unfold powL; rw [List.length_map, List.length_range]
      rw [List.take_of_length_le (by omega)] at h2l
      exact ⟨_, rfl, q l H2 hl s2 h2l⟩
def homeB (m : Nat) (k : List Int) : Bool := k.all fun l => decide (m % l.toNat = 0)
def sumK (f : List Int → Bool) (ks : List (List Int)) : Nat := ((ks.filter f).map manyK).sum
theorem sumK_snoc (f : List Int → Bool) (ks : List (List Int)) (k : List Int) : sumK f (ks ++ [k]) = sumK f ks + manyK k * (if f k = true then 1 else 0) := by
  unfold sumK
  rw [List.filter_append, List.map_append, List.sum_append, List.filter_cons]
  split
  · simp
  · simp
theorem kinds12_le : ∀ n, n < 13 → ∀ k ∈ kindsF 12 n n, (∀ x ∈ k, 1 ≤ x ∧ x ≤ 12) ∧ k.length ≤ 12 := by decide +kernel
theorem home_none {m : Nat} {k : List Int} : decide (k.filter (fun x => !decide (m % x.toNat = 0)) = []) = homeB m k := by
  unfold homeB
  rw [Bool.eq_iff_iff, decide_eq_true_iff, List.filter_eq_nil_iff, List.all_eq_true]
  constructor
  · intro h x hx
    have := h x hx
    simpa using this
  · intro h x hx
    have := h x hx
    simpa using this
def spRight42 : Sp := fun vs H Q _ => ∃ n m : Nat, vs = [.int (n : Int), .int (m : Int)] ∧ n ≤ 12 ∧ 1 ≤ m ∧ m ≤ 1000000000000000000000000000000 ∧ ∀ H' : Hp, Same H H' → Q (.bl true) H'
theorem sc_law_right : FnScope ["many", "times", "have", "home", "kind"] ["many", "times"] (defScope s_law_right) := ⟨rfl, rfl, rfl, by decide +kernel, rfl, by decide +kernel, by decide +kernel⟩
theorem nd_length_times_law_right : (["length", "times"] : List Str).Nodup := by decide +kernel
theorem ok_law_right {f : Addr} {fd : FuncData} (F : Fun K "_law_right" "_law_right" s_law_right f fd) (c_law_kinds : Cal P w K mg base "_law_kinds" 13 ["many", "most"] (spKinds 12)) (c_law_has_root : Cal P w K mg base "_law_has_root" 2 ["kind", "times"] spHasRoot) (c_law_of_kind : Cal P w K mg base "_law_of_kind" 2 ["kind"] spHowOf) (c_law_same : Cal P w K mg base "_law_same" 1 ["found", "due"] spSame) (c_how_many_home : Cal P w K mg base "how_many_home" 5 ["n", "m"] spHomeC) (c_how_many_have : Cal P w K mg base "how_many_have" 15 ["n", "m"] spHave) : FnOk P w K mg base CX0 16 f fd ["many", "times"] spRight42 := by
  refine F.ok sc_law_right (fun vs H Q E h => ?_) (fun cdv A outer s H vs Q E hr h => ?_)
  · obtain ⟨n, m, rfl, hn, m1, m2, q⟩ := h
    rfl
  · obtain ⟨n, m, rfl, hn, m1, m2, q⟩ := h
    have hr_law_kinds : Room 13 _ := hr.mono (by decide)
    have hr_law_has_root : Room 2 _ := hr.mono (by decide)
    have hr_law_of_kind : Room 2 _ := hr.mono (by decide)
    have hr_law_same : Room 1 _ := hr.mono (by decide)
    have hr_how_many_home : Room 5 _ := hr.mono (by decide)
    have hr_how_many_have : Room 15 _ := hr.mono (by decide)
    have hu := hu_of hr
    refine ⟨_, @pss_cons _ _ _ _ _ (@ps_set _ _ (2) _ _ _ _ sc_law_right.nd rfl (Or.inl rfl) (@pe_int _ _ _ _) (by rfl) (by first | exact .inl rfl | exact .inr rfl | assumption)) (@pss_cons _ _ _ _ _ (@ps_set _ _ (3) _ _ _ _ sc_law_right.nd rfl (Or.inl rfl) (@pe_int _ _ _ _) (by rfl) (by first | exact .inl rfl | exact .inr rfl | assumption)) (@pss_cons _ _ _ _ _ (@ps_for _ _ _ _ _ _ _ _ PassesOwn.never rfl (@pi_list _ _ _ _ (@pe_cal _ _ _ _ _ _ _ _ _ _ c_law_kinds hr_law_kinds (@pa_cons _ _ _ _ _ (pv 0) (@pa_cons _ _ _ _ _ (pv 0) (@pa_nil _) (by rfl)) (by rfl)) (by rfl) (by decide) (by rfl) (by rfl))) (@pg_name _ _ (4) _ sc_law_right.nd rfl (Or.inl rfl) (by first | exact .inl rfl | exact .inr rfl | assumption)) (@pss_cons _ _ _ _ _ (@ps_if _ _ _ _ _ _ _ _ (@pt_val _ _ _ (@pe_cal _ _ _ _ _ _ _ _ _ _ c_law_has_root hr_law_has_root (@pa_cons _ _ _ _ _ (pv 4) (@pa_cons _ _ _ _ _ (pv 1) (@pa_nil _) (by rfl)) (by rfl)) (by rfl) (by decide) (by rfl) (by rfl)) (by intro _; rfl)) (@pss_one _ _ _ (@ps_set _ _ (2) _ _ _ _ sc_law_right.nd rfl (Or.inl rfl) (@pe_op _ _ _ _ _ _ _ _ op_add (pv 2) (@pe_cal _ _ _ _ _ _ _ _ _ _ c_law_of_kind hr_law_of_kind (@pa_cons _ _ _ _ _ (pv 4) (@pa_nil _) (by rfl)) (by rfl) (by decide) (by rfl) (by rfl))) (by rfl) (by first | exact .inl rfl | exact .inr rfl | assumption))) (@pss_nil _)) (@pss_one _ _ _ (@ps_if _ _ _ _ _ _ _ _ (@pt_cmpR _ _ _ _ _ _ _ _ (op_eqL 0 hu) (@pe_comp _ _ _ _ _ _ _ _ _ _ _ (["length", "times"]) (1) ([1]) rfl .of (@pi_list _ _ _ _ (pv 4)) (fun _ _ _ _ _ => @pg_name _ _ (0) _ nd_length_times_law_right rfl (Or.inl rfl) (by first | exact .inl rfl | exact .inr rfl | assumption)) (fun _ _ _ _ _ => @pifs_one _ _ _ (@pt_cmpR _ _ _ _ _ _ _ _ op_ne (@pe_op _ _ _ _ _ _ _ _ op_mod (pv 1) (pv 0)) (@pe_int _ _ _ _) (nomark _))) (fun _ _ _ _ _ => (pv 0)) (by intro _; rfl)) (@pe_lst _ _ _ _ (@pa_nil _)) (nomark _)) (@pss_one _ _ _ (@ps_set _ _ (3) _ _ _ _ sc_law_right.nd rfl (Or.inl rfl) (@pe_op _ _ _ _ _ _ _ _ op_add (pv 3) (@pe_cal _ _ _ _ _ _ _ _ _ _ c_law_of_kind hr_law_of_kind (@pa_cons _ _ _ _ _ (pv 4) (@pa_nil _) (by rfl)) (by rfl) (by decide) (by rfl) (by rfl))) (by rfl) (by first | exact .inl rfl | exact .inr rfl | assumption))) (@pss_nil _)))) (by intro _; rfl)) (@pss_one _ _ _ (@ps_ret _ _ _ _ (@pe_cal _ _ _ _ _ _ _ _ _ _ c_law_same hr_law_same (@pa_cons _ _ _ _ _ (@pe_lst _ _ _ _ (@pa_cons _ _ _ _ _ (@pe_cal _ _ _ _ _ _ _ _ _ _ c_how_many_have hr_how_many_have (@pa_cons _ _ _ _ _ (pv 0) (@pa_cons _ _ _ _ _ (pv 1) (@pa_nil _) (by rfl)) (by rfl)) (by rfl) (by decide) (by rfl) (by rfl)) (@pa_cons _ _ _ _ _ (@pe_cal _ _ _ _ _ _ _ _ _ _ c_how_many_home hr_how_many_home (@pa_cons _ _ _ _ _ (pv 0) (@pa_cons _ _ _ _ _ (pv 1) (@pa_nil _) (by rfl)) (by rfl)) (by rfl) (by decide) (by rfl) (by rfl)) (@pa_nil _) (by rfl)) (by rfl))) (@pa_cons _ _ _ _ _ (@pe_lst _ _ _ _ (@pa_cons _ _ _ _ _ (pv 2) (@pa_cons _ _ _ _ _ (pv 3) (@pa_nil _) (by rfl)) (by rfl))) (@pa_nil _) (by rfl)) (by rfl)) (by rfl) (by decide) (by rfl) (by rfl)))))), ?_⟩
    refine ⟨_, rfl, _, rfl, n, n, rfl, hn, hn, by decide, fun L as H1 hL s1 h1 rows fr nda nla => ?_⟩
    obtain ⟨rs, ers⟩ : ∃ rs, rs = kindsF 12 n n := ⟨_, rfl⟩
    have hk : ∀ k ∈ rs, IsKind k ∧ (∀ x ∈ k, 1 ≤ x ∧ x ≤ 12) ∧ k.length ≤ 12 := fun k hk => ⟨kinds12_isK hn (by rw [← ers]; exact hk), kinds12_le n (by omega) k (by rw [← ers]; exact hk)⟩
    rw [← ers] at rows
    refine ⟨L, rfl, ⟨_, SqL.of h1⟩, for_list (K := K) (a := L) (xs := as.map V.ref) (fun j σ H2 => ∃ v4 : Option V, σ = [some (.int (n : Int)), some (.int (m : Int)), some (.int ((sumK (fun k => hasB k m) (rs.take j) : Nat) : Int)), some (.int ((sumK (homeB m) (rs.take j) : Nat) : Int)), v4] ∧ Same H1 H2)
      ⟨none, rfl, Same.refl H1⟩ (fun j σ H2 _ ⟨_, _, s⟩ => SqL.of (s _ _ h1)) ?_ ?_⟩
    · rintro j x σ H2 hj ⟨v4, rfl, s2⟩
      obtain ⟨e, he, rfl⟩ : ∃ a, as[j]? = some a ∧ x = V.ref a := by
        rw [List.getElem?_map] at hj
        cases e : as[j]? with
        | none => rw [e] at hj; cases hj
        | some a => rw [e] at hj; exact ⟨a, rfl, (Option.some.inj hj).symm⟩
      have jl : j < rs.length := by rw [← rows.1]; exact (List.getElem?_eq_some_iff.mp he).1
      obtain ⟨k, hk'⟩ : ∃ k, rs[j]? = some k := ⟨_, List.getElem?_eq_getElem jl⟩
      obtain ⟨kk, bd, kl⟩ := hk k (List.mem_of_getElem? hk')
      have h2e := s2 _ _ (rows.2 j e k he hk')
      refine ⟨_, rfl, _, rfl, e, k, m, rfl, h2e, bd, by omega, m1, m2, fun H3 s3 => ⟨_, rfl, ite2 (fun c => ?_) (fun c => ?_)⟩⟩
      rotate_left
      · obtain ⟨Hb, rfl⟩ : ∃ x, x = H3 := ⟨_, rfl⟩
        have sb := s3
        have eH : V.int ((sumK (fun k => hasB k m) (rs.take j) : Nat) : Int) = V.int ((sumK (fun k => hasB k m) (rs.take (j + 1)) : Nat) : Int) := by
          rw [take_succ_of hk', sumK_snoc, if_neg c, Nat.mul_zero, Nat.add_zero]
        refine ⟨_, rfl, e, rfl, ⟨_, SqL.of (sb _ _ h2e)⟩, comp_list (K := K) (a := e) (xs := k.map V.int) (fun i ys σ H4 => ∃ v : Option V, σ = [v, some (.int (m : Int))] ∧ H4 = Hb ∧ ys = ((k.take i).filter fun x => !decide (m % x.toNat = 0)).map V.int) ⟨none, rfl, rfl, by simp⟩ (fun i ys σ H4 _ ⟨_, _, z, _⟩ => by rw [z]; exact SqL.of (sb _ _ h2e)) ?_ ?_⟩
        · rintro i x ys σ H4 hi ⟨v, rfl, rfl, rfl⟩
          obtain ⟨z, hz, rfl⟩ := getElem_int hi
          obtain ⟨z1, z2⟩ := bd z (List.mem_of_getElem? hz)
          have li : ((k.take i).filter fun x => !decide (m % x.toNat = 0)).length ≤ 40 := Nat.le_trans (List.length_filter_le _ _) (by rw [List.length_take]; omega)
          have em : (m : Int) % z = ((m % z.toNat : Nat) : Int) := by
            rw [Int.natCast_emod]
            congr 1
            omega
          refine ⟨_, rfl, _, rfl, _, _, rfl, rfl, (show (0 : Int) < z by omega), rfl, _, rfl, ?_⟩
          by_cases c5 : m % z.toNat = 0
          · refine iteNS (congrArg V.int (by rw [em, c5]; rfl)) ⟨_, rfl, rfl, ?_⟩
            rw [take_succ_of hz, List.filter_append, List.filter_cons_of_neg (by simp [c5]), List.filter_nil, List.append_nil]
          · rw [decide_eq_false fun y => c5 (by have y := V.int.inj y; rw [em] at y; omega)]
            refine iteT ⟨_, rfl, small1000 (by rw [List.length_map]; omega), _, rfl, rfl, ?_⟩
            rw [take_succ_of hz, List.filter_append, List.filter_cons_of_pos (by simp [c5]), List.filter_nil, List.map_append]
            rfl
        · rintro ys σ H4 ⟨v, rfl, rfl, rfl⟩ D hD
          rw [List.length_map, List.take_length]
          obtain ⟨fs, efs⟩ : ∃ fs, fs = k.filter fun x => !decide (m % x.toNat = 0) := ⟨_, rfl⟩
          rw [← efs]
          have s5 : Same H4 (upd H4 D (.lst (fs.map V.int))) := Same.upd_new hD
          have h5 : (upd H4 D (.lst (fs.map V.int))) D = some (.lst (fs.map V.int)) := upd_same
          generalize (upd H4 D (.lst (fs.map V.int))) = H5 at s5 h5 ⊢
          refine ⟨Nat.zero_le _, fun e0 he0 => ?_⟩
          have s6 : Same H5 (upd H5 e0 (.lst [])) := Same.upd_new he0
          have h6 : (upd H5 e0 (.lst [])) e0 = some (.lst (([] : List Int).map V.int)) := upd_same
          generalize (upd H5 e0 (.lst [])) = H6 at s6 h6 ⊢
          refine ⟨D, e0, _, _, _, rfl, rfl, SqL.of (s6 _ _ h5), SqL.of h6, leq_ints K H6 0 fs [], _, rfl, ?_⟩
          rw [efs, home_none]
          have s26 := sb.trans (s5.trans s6)
          refine ite2 (fun c6 => ?_) (fun c6 => ?_)
          · replace c6 : homeB m k = true := c6
            refine ⟨_, rfl, _, rfl, e, k, rfl, s26 _ _ h2e, kk, fun H7 s7 => ⟨_, _, rfl, rfl, some (.ref e), ?_, s2.trans (s26.trans s7)⟩⟩
            have eO : V.int (((sumK (homeB m) (rs.take j) : Nat) : Int) + ((manyK k : Nat) : Int)) = V.int ((sumK (homeB m) (rs.take (j + 1)) : Nat) : Int) := by
              rw [take_succ_of hk', sumK_snoc, if_pos c6, Nat.mul_one, Int.natCast_add]
            rw [← eH, ← eO]
            rfl
          · replace c6 : ¬ homeB m k = true := c6
            have eO : V.int ((sumK (homeB m) (rs.take j) : Nat) : Int) = V.int ((sumK (homeB m) (rs.take (j + 1)) : Nat) : Int) := by
              rw [take_succ_of hk', sumK_snoc, if_neg c6, Nat.mul_zero, Nat.add_zero]
            refine ⟨some (.ref e), ?_, s2.trans s26⟩
            rw [← eH, ← eO]
            rfl
      · refine ⟨_, rfl, _, rfl, e, k, rfl, s3 _ _ h2e, kk, fun Hb sb' => ⟨_, _, rfl, rfl, ?_⟩⟩
        have sb := s3.trans sb'
        have eH : V.int (((sumK (fun k => hasB k m) (rs.take j) : Nat) : Int) + ((manyK k : Nat) : Int)) = V.int ((sumK (fun k => hasB k m) (rs.take (j + 1)) : Nat) : Int) := by
          rw [take_succ_of hk', sumK_snoc, if_pos c, Nat.mul_one, Int.natCast_add]
        refine ⟨_, rfl, e, rfl, ⟨_, SqL.of (sb _ _ h2e)⟩, comp_list (K := K) (a := e) (xs := k.map V.int) (fun i ys σ H4 => ∃ v : Option V, σ = [v, some (.int (m : Int))] ∧ H4 = Hb ∧ ys = ((k.take i).filter fun x => !decide (m % x.toNat = 0)).map V.int) ⟨none, rfl, rfl, by simp⟩ (fun i ys σ H4 _ ⟨_, _, z, _⟩ => by rw [z]; exact SqL.of (sb _ _ h2e)) ?_ ?_⟩
        · rintro i x ys σ H4 hi ⟨v, rfl, rfl, rfl⟩
          obtain ⟨z, hz, rfl⟩ := getElem_int hi
          obtain ⟨z1, z2⟩ := bd z (List.mem_of_getElem? hz)
          have li : ((k.take i).filter fun x => !decide (m % x.toNat = 0)).length ≤ 40 := Nat.le_trans (List.length_filter_le _ _) (by rw [List.length_take]; omega)
          have em : (m : Int) % z = ((m % z.toNat : Nat) : Int) := by
            rw [Int.natCast_emod]
            congr 1
            omega
          refine ⟨_, rfl, _, rfl, _, _, rfl, rfl, (show (0 : Int) < z by omega), rfl, _, rfl, ?_⟩
          by_cases c5 : m % z.toNat = 0
          · refine iteNS (congrArg V.int (by rw [em, c5]; rfl)) ⟨_, rfl, rfl, ?_⟩
            rw [take_succ_of hz, List.filter_append, List.filter_cons_of_neg (by simp [c5]), List.filter_nil, List.append_nil]
          · rw [decide_eq_false fun y => c5 (by have y := V.int.inj y; rw [em] at y; omega)]
            refine iteT ⟨_, rfl, small1000 (by rw [List.length_map]; omega), _, rfl, rfl, ?_⟩
            rw [take_succ_of hz, List.filter_append, List.filter_cons_of_pos (by simp [c5]), List.filter_nil, List.map_append]
            rfl
        · rintro ys σ H4 ⟨v, rfl, rfl, rfl⟩ D hD
          rw [List.length_map, List.take_length]
          obtain ⟨fs, efs⟩ : ∃ fs, fs = k.filter fun x => !decide (m % x.toNat = 0) := ⟨_, rfl⟩
          rw [← efs]
          have s5 : Same H4 (upd H4 D (.lst (fs.map V.int))) := Same.upd_new hD
          have h5 : (upd H4 D (.lst (fs.map V.int))) D = some (.lst (fs.map V.int)) := upd_same
          generalize (upd H4 D (.lst (fs.map V.int))) = H5 at s5 h5 ⊢
          refine ⟨Nat.zero_le _, fun e0 he0 => ?_⟩
          have s6 : Same H5 (upd H5 e0 (.lst [])) := Same.upd_new he0
          have h6 : (upd H5 e0 (.lst [])) e0 = some (.lst (([] : List Int).map V.int)) := upd_same
          generalize (upd H5 e0 (.lst [])) = H6 at s6 h6 ⊢
          refine ⟨D, e0, _, _, _, rfl, rfl, SqL.of (s6 _ _ h5), SqL.of h6, leq_ints K H6 0 fs [], _, rfl, ?_⟩
          rw [efs, home_none]
          have s26 := sb.trans (s5.trans s6)
          refine ite2 (fun c6 => ?_) (fun c6 => ?_)
          · replace c6 : homeB m k = true := c6
            refine ⟨_, rfl, _, rfl, e, k, rfl, s26 _ _ h2e, kk, fun H7 s7 => ⟨_, _, rfl, rfl, some (.ref e), ?_, s2.trans (s26.trans s7)⟩⟩
            have eO : V.int (((sumK (homeB m) (rs.take j) : Nat) : Int) + ((manyK k : Nat) : Int)) = V.int ((sumK (homeB m) (rs.take (j + 1)) : Nat) : Int) := by
              rw [take_succ_of hk', sumK_snoc, if_pos c6, Nat.mul_one, Int.natCast_add]
            rw [← eH, ← eO]
            rfl
          · replace c6 : ¬ homeB m k = true := c6
            have eO : V.int ((sumK (homeB m) (rs.take j) : Nat) : Int) = V.int ((sumK (homeB m) (rs.take (j + 1)) : Nat) : Int) := by
              rw [take_succ_of hk', sumK_snoc, if_neg c6, Nat.mul_zero, Nat.add_zero]
            refine ⟨some (.ref e), ?_, s2.trans s26⟩
            rw [← eH, ← eO]
            rfl
    · rintro σ H2 ⟨v4, rfl, s2⟩
      rw [List.length_map, rows.1, List.take_length]
      refine ⟨_, rfl, _, rfl, n, m, rfl, hn, m1, m2, fun H3 s3 => ⟨_, rfl, _, rfl, n, m, rfl, hn, m1, fun H4 s4 => ⟨(show 2 ≤ sizeLine by decide), fun l1 hl1 => ?_⟩⟩⟩
      have s5 : Same H4 (upd H4 l1 (.lst (([((haveK n m : Nat) : Int), ((homeK n m : Nat) : Int)] : List Int).map V.int))) := Same.upd_new hl1
      have h5 : (upd H4 l1 (.lst (([((haveK n m : Nat) : Int), ((homeK n m : Nat) : Int)] : List Int).map V.int))) l1 = some (.lst (([((haveK n m : Nat) : Int), ((homeK n m : Nat) : Int)] : List Int).map V.int)) := upd_same
      refine ⟨_, rfl, _, rfl, (show 2 ≤ sizeLine by decide), fun l2 hl2 => ?_⟩
      have s6 : Same (upd H4 l1 (.lst (([((haveK n m : Nat) : Int), ((homeK n m : Nat) : Int)] : List Int).map V.int))) (upd (upd H4 l1 (.lst (([((haveK n m : Nat) : Int), ((homeK n m : Nat) : Int)] : List Int).map V.int))) l2 (.lst (([((sumK (fun k => hasB k m) rs : Nat) : Int), ((sumK (homeB m) rs : Nat) : Int)] : List Int).map V.int))) := Same.upd_new hl2
      have h6 : (upd (upd H4 l1 (.lst (([((haveK n m : Nat) : Int), ((homeK n m : Nat) : Int)] : List Int).map V.int))) l2 (.lst (([((sumK (fun k => hasB k m) rs : Nat) : Int), ((sumK (homeB m) rs : Nat) : Int)] : List Int).map V.int))) l2 = some (.lst (([((sumK (fun k => hasB k m) rs : Nat) : Int), ((sumK (homeB m) rs : Nat) : Int)] : List Int).map V.int)) := upd_same
      refine ⟨l1, l2, _, _, rfl, s6 _ _ h5, h6, fun r H7 s7 hr => ?_⟩
      have : r = true := hr.mpr (by rw [ers]; rfl)
      rw [this]
      exact q H7 (s1.trans (s2.trans (s3.trans (s4.trans (s5.trans (s6.trans s7))))))
def keyL (r : List Int) : List Key := r.map Sum.inl
theorem keyL_inj {a b : List Int} (h : keyL a = keyL b) : a = b := by
  induction a generalizing b with
  | nil => cases b with
    | nil => rfl
    | cons y b => cases h
  | cons x a ih => cases b with
    | nil => cases h
    | cons y b =>
      unfold keyL at h
      rw [List.map_cons, List.map_cons] at h
      injection h with h1 h2
      rw [Sum.inl.inj h1, ih h2]
theorem keyL_kV (r : List Int) : (keyL r).map kV = r.map V.int := by
  unfold keyL
  rw [List.map_map]
  rfl
theorem putK_keys {kvs : List (List Key × V)} {us : List (List Int)} {r : List Int} {v : V} (h : kvs.map (·.1) = us.map keyL) : (putK kvs (keyL r) v).map (·.1) = (addU us r).map keyL := by
  have m : keyL r ∈ kvs.map (·.1) ↔ r ∈ us := by
    rw [h]
    constructor
    · intro z
      obtain ⟨y, hy, e⟩ := List.mem_map.mp z
      rw [← keyL_inj e]; exact hy
    · exact fun z => List.mem_map_of_mem z
  have a : (kvs.any fun kv => decide (kv.1 = keyL r)) = true ↔ r ∈ us := by
    rw [← m, List.any_eq_true, List.mem_map]
    constructor
    · rintro ⟨x, hx, e⟩
      exact ⟨x, hx, of_decide_eq_true e⟩
    · rintro ⟨x, hx, e⟩
      exact ⟨x, hx, decide_eq_true e⟩
  unfold putK addU
  by_cases c : r ∈ us
  · rw [if_pos (a.mpr c), if_pos c, ← h, List.map_map]
    refine List.map_congr_left fun x hx => ?_
    show (if x.1 = keyL r then (x.1, v) else x).1 = x.1
    split <;> rfl
  · rw [if_neg fun z => c (a.mp z), if_neg c, List.map_append, List.map_append, h]
    rfl
theorem addU_len : ∀ (xs acc : List (List Int)), (xs.foldl addU acc).length ≤ acc.length + xs.length
  | [], acc => Nat.le_refl _
  | x :: xs, acc => by
    rw [List.foldl_cons, List.length_cons]
    have := addU_len xs (addU acc x)
    have : (addU acc x).length ≤ acc.length + 1 := by
      unfold addU
      split
      · omega
      · rw [List.length_append]; exact Nat.le_refl _
    omega
def metU (n m j : Nat) : List (List Int) := (((allT n).take j).map fun p => powL p m).foldl addU []
theorem metU_succ {n m j : Nat} {p : List Int} (h : (allT n)[j]? = some p) : metU n m (j + 1) = addU (metU n m j) (powL p m) := by
  unfold metU
  rw [take_succ_of h, List.map_append, List.foldl_append]
  rfl
theorem metU_len (n m j : Nat) : (metU n m j).length ≤ j := by
  unfold metU
  have := addU_len (((allT n).take j).map fun p => powL p m) []
  rw [List.length_map, List.length_take, List.length_nil] at this
  omega
def stillN (n m j : Nat) : Nat := ((allT n).take j).countP fun p => decide (powL p m = L2.upTo 0 n)
theorem stillN_succ {n m j : Nat} {p : List Int} (h : (allT n)[j]? = some p) : stillN n m (j + 1) = stillN n m j + (if decide (powL p m = L2.upTo 0 n) = true then 1 else 0) := by
  unfold stillN
  rw [take_succ_of h, List.countP_append, List.countP_singleton]
theorem allT_turns : ∀ n, n ≤ 5 → ∀ p ∈ allT n, p.Nodup ∧ (∀ x ∈ p, 0 ≤ x) ∧ (∀ x ∈ p, x < (p.length : Int)) := by decide +kernel
theorem allT_isT {n : Nat} (h : n ≤ 5) {p : List Int} (hp : p ∈ allT n) : IsT p := ⟨(allT_turns n h p hp).1, (allT_turns n h p hp).2.1, (allT_turns n h p hp).2.2⟩
def spTried42 : Sp := fun vs H Q _ => ∃ n m : Nat, vs = [.int (n : Int), .int (m : Int)] ∧ n ≤ 5 ∧ 1 ≤ m ∧ m ≤ 1000000000000000000000000000000 ∧ ∀ H' : Hp, Same H H' → Q (.bl true) H'
theorem sc_law_tried : FnScope ["many", "times", "met", "still", "p", "done"] ["many", "times"] (defScope s_law_tried) := ⟨rfl, rfl, rfl, by decide +kernel, rfl, by decide +kernel, by decide +kernel⟩
theorem ok_law_tried {f : Addr} {fd : FuncData} (F : Fun K "_law_tried" "_law_tried" s_law_tried f fd) (B : Bl mg) (c_law_all_turns : Cal P w K mg base "_law_all_turns" 1 ["many"] spAllT) (c_law_done : Cal P w K mg base "_law_done" 1 ["p", "times"] spDone) (c_how_many_have : Cal P w K mg base "how_many_have" 15 ["n", "m"] spHave) (c_how_many_home : Cal P w K mg base "how_many_home" 5 ["n", "m"] spHomeC) : FnOk P w K mg base CX0 16 f fd ["many", "times"] spTried42 := by
  refine F.ok sc_law_tried (fun vs H Q E h => ?_) (fun cdv A outer s H vs Q E hr h => ?_)
  · obtain ⟨n, m, rfl, hn, m1, m2, q⟩ := h
    rfl
  · obtain ⟨n, m, rfl, hn, m1, m2, q⟩ := h
    have hr_law_all_turns : Room 1 _ := hr.mono (by decide)
    have hr_law_done : Room 1 _ := hr.mono (by decide)
    have hr_how_many_have : Room 15 _ := hr.mono (by decide)
    have hr_how_many_home : Room 5 _ := hr.mono (by decide)
    have hu := hu_of hr
    refine ⟨_, @pss_cons _ _ _ _ _ (@ps_set _ _ (2) _ _ _ _ sc_law_tried.nd rfl (Or.inl rfl) (@pe_dnewT _ _) (by rfl) (by first | exact .inl rfl | exact .inr rfl | assumption)) (@pss_cons _ _ _ _ _ (@ps_set _ _ (3) _ _ _ _ sc_law_tried.nd rfl (Or.inl rfl) (@pe_int _ _ _ _) (by rfl) (by first | exact .inl rfl | exact .inr rfl | assumption)) (@pss_cons _ _ _ _ _ (@ps_for _ _ _ _ _ _ _ _ PassesOwn.never rfl (@pi_list _ _ _ _ (@pe_cal _ _ _ _ _ _ _ _ _ _ c_law_all_turns hr_law_all_turns (@pa_cons _ _ _ _ _ (pv 0) (@pa_nil _) (by rfl)) (by rfl) (by decide) (by rfl) (by rfl))) (@pg_name _ _ (4) _ sc_law_tried.nd rfl (Or.inl rfl) (by first | exact .inl rfl | exact .inr rfl | assumption)) (@pss_cons _ _ _ _ _ (@ps_set _ _ (5) _ _ _ _ sc_law_tried.nd rfl (Or.inl rfl) (@pe_cal _ _ _ _ _ _ _ _ _ _ c_law_done hr_law_done (@pa_cons _ _ _ _ _ (pv 4) (@pa_cons _ _ _ _ _ (pv 1) (@pa_nil _) (by rfl)) (by rfl)) (by rfl) (by decide) (by rfl) (by rfl)) (by rfl) (by first | exact .inl rfl | exact .inr rfl | assumption)) (@pss_cons _ _ _ _ _ (@ps_dput _ _ _ _ _ _ _ _ _ hu (pv 2) (@pe_callTy _ _ _ _ _ _ _ _ _ call_tuple_of (by rfl) B.tuple boot_tupleT (@pa_cons _ _ _ _ _ (pv 5) (@pa_nil _) (by rfl)) (by decide) (by decide) (by rfl) (by rfl)) (@pe_bl _ _ _ _) rfl) (@pss_one _ _ _ (@ps_set _ _ (3) _ _ _ _ sc_law_tried.nd rfl (Or.inl rfl) (@pe_op _ _ _ _ _ _ _ _ op_add (pv 3) (@pe_intB _ _ _ _ _ B.int (@pa_cons _ _ _ _ _ (@pe_cmpR _ _ _ _ _ _ _ _ (op_eqL 0 hu) (pv 5) (@pe_listRng _ _ _ _ _ _ _ rfl B.list B.range (@pa_cons _ _ _ _ _ (pv 0) (@pa_nil _) (by rfl)) (by rfl) (by rfl) (by rfl) (by rfl)) (nomark _)) (@pa_nil _) (by rfl)) (by rfl) (by rfl))) (by rfl) (by first | exact .inl rfl | exact .inr rfl | assumption))))) (by intro _; rfl)) (@pss_one _ _ _ (@ps_ret _ _ _ _ (@pe_and _ _ _ _ _ _ _ (@pe_cmpR _ _ _ _ _ _ _ _ op_eq (@pe_cal _ _ _ _ _ _ _ _ _ _ c_how_many_have hr_how_many_have (@pa_cons _ _ _ _ _ (pv 0) (@pa_cons _ _ _ _ _ (pv 1) (@pa_nil _) (by rfl)) (by rfl)) (by rfl) (by decide) (by rfl) (by rfl)) (@pe_callB _ _ _ _ _ _ _ _ _ call_lenDT (by rfl) B.len PySem.boot_len (@pa_cons _ _ _ _ _ (pv 2) (@pa_nil _) (by rfl)) (by decide) (by decide) (by rfl) (by rfl)) (nomark _)) (@pe_one _ _ _ _ _ (@pe_cmpR _ _ _ _ _ _ _ _ op_eq (@pe_cal _ _ _ _ _ _ _ _ _ _ c_how_many_home hr_how_many_home (@pa_cons _ _ _ _ _ (pv 0) (@pa_cons _ _ _ _ _ (pv 1) (@pa_nil _) (by rfl)) (by rfl)) (by rfl) (by decide) (by rfl) (by rfl)) (pv 3) (nomark _)))))))), ?_⟩
    intro d hd
    have s1 : Same H (upd H d (.dT [])) := Same.upd_new hd
    have h1 : (upd H d (.dT [])) d = some (.dT []) := upd_same
    generalize (upd H d (.dT [])) = H1 at s1 h1 ⊢
    refine ⟨_, rfl, n, rfl, hn, fun L as H2 hL s2 h2 rows => ?_⟩
    have many := allT_many n hn
    have nLd : L ≠ d := fun z => by rw [z, h1] at hL; cases hL
    have nad : ∀ b ∈ as, b ≠ d := fun b hb z => by
      obtain ⟨i, hi⟩ := List.getElem?_of_mem hb
      have il : i < (allT n).length := by rw [← rows.1]; exact (List.getElem?_eq_some_iff.mp hi).1
      have := rows.2 i b _ hi (List.getElem?_eq_getElem il)
      rw [z, s2 _ _ h1] at this
      cases this
    refine ⟨L, rfl, ⟨_, SqL.of h2⟩, for_list (K := K) (a := L) (xs := as.map V.ref) (fun j σ H3 => ∃ (kvs : List (List Key × V)) (v4 v5 : Option V), σ = [some (.int (n : Int)), some (.int (m : Int)), some (.ref d), some (.int ((stillN n m j : Nat) : Int)), v4, v5] ∧ H3 d = some (.dT kvs) ∧ kvs.map (·.1) = (metU n m j).map keyL ∧ KeepBut d H2 H3)
      ⟨[], none, none, rfl, s2 _ _ h1, rfl, KeepBut.refl _ _⟩ (fun j σ H3 _ ⟨_, _, _, _, _, _, kb⟩ => SqL.of (kb _ _ h2 nLd)) ?_ ?_⟩
    · rintro j x σ H3 hj ⟨kvs, v4, v5, rfl, h3, ek, kb⟩
      obtain ⟨e, he, rfl⟩ : ∃ a, as[j]? = some a ∧ x = V.ref a := by
        rw [List.getElem?_map] at hj
        cases e : as[j]? with
        | none => rw [e] at hj; cases hj
        | some a => rw [e] at hj; exact ⟨a, rfl, (Option.some.inj hj).symm⟩
      have jl : j < (allT n).length := by rw [← rows.1]; exact (List.getElem?_eq_some_iff.mp he).1
      obtain ⟨p, hp⟩ : ∃ p, (allT n)[j]? = some p := ⟨_, List.getElem?_eq_getElem jl⟩
      have pm := List.mem_of_getElem? hp
      have h3e := kb _ _ (rows.2 j e p he hp) (nad e (List.mem_of_getElem? he))
      have lp := allT_len n p pm
      refine ⟨_, rfl, _, rfl, e, p, m, rfl, ⟨h3e, allT_isT hn pm, by omega⟩, fun l H4 hl s4 h4 => ?_⟩
      have h4d := s4 _ _ h3
      refine ⟨_, rfl, _, rfl, l, _, rfl, .inl ⟨SqL.of h4, fun t ht => ?_⟩⟩
      have s5 : Same H4 (upd H4 t (.tup ((powL p m).map V.int))) := Same.upd_new ht
      have h5 : (upd H4 t (.tup ((powL p m).map V.int))) t = some (.tup ((keyL (powL p m)).map kV)) := by rw [keyL_kV]; exact upd_same
      generalize (upd H4 t (.tup ((powL p m).map V.int))) = H5 at s5 h5 ⊢
      have kl : kvs.length ≤ 120 := by
        have a := congrArg List.length ek
        rw [List.length_map, List.length_map] at a
        have := metU_len n m j
        omega
      have h5d := s5 _ _ h4d
      refine ⟨d, _, rfl, DPut.t h5d h5 (small1000 (by omega)), ?_⟩
      have h6 : (upd H5 d (.dT (putK kvs (keyL (powL p m)) (.bl true)))) d = some (.dT (putK kvs (keyL (powL p m)) (.bl true))) := upd_same
      have kb6 : KeepBut d H5 (upd H5 d (.dT (putK kvs (keyL (powL p m)) (.bl true)))) := KeepBut.upd
      generalize (upd H5 d (.dT (putK kvs (keyL (powL p m)) (.bl true)))) = H6 at h6 kb6 ⊢
      have nld : l ≠ d := fun z => by rw [z, h3] at hl; cases hl
      have h6l := kb6 _ _ (s5 _ _ h4) nld
      refine ⟨_, rfl, _, rfl, _, rfl, (n : Int), rfl, fun rg hrg => ?_⟩
      have s7 : Same H6 (upd H6 rg (.rng 0 (n : Int))) := Same.upd_new hrg
      have h7 : (upd H6 rg (.rng 0 (n : Int))) rg = some (.rng 0 (n : Int)) := upd_same
      generalize (upd H6 rg (.rng 0 (n : Int))) = H7 at s7 h7 ⊢
      refine ⟨rg, 0, _, rfl, h7, ⟨by omega, by omega, by omega, by omega⟩, by omega, fun st hst => ?_⟩
      rw [show ((n : Int) - 0).toNat = n by omega]
      have s8 : Same H7 (upd H7 st (.lst ((upTo 0 n).map V.int))) := Same.upd_new hst
      have h8 : (upd H7 st (.lst ((upTo 0 n).map V.int))) st = some (.lst ((upTo 0 n).map V.int)) := upd_same
      generalize (upd H7 st (.lst ((upTo 0 n).map V.int))) = H8 at s8 h8 ⊢
      have s68 := s7.trans s8
      refine ⟨l, st, _, _, _, rfl, rfl, SqL.of (s68 _ _ h6l), SqL.of h8, leq_ints K H8 0 _ _, _, rfl, _, _, rfl, rfl, ?_⟩
      refine ⟨_, some (.ref e), some (.ref l), ?_, s68 _ _ h6, by rw [metU_succ hp]; exact putK_keys ek, fun b o hb nb => s68 _ _ (kb6 _ _ (s5 _ _ (s4 _ _ (kb b o hb nb))) nb)⟩
      have eS : V.int (((stillN n m j : Nat) : Int) + (if decide (powL p m = L2.upTo 0 n) = true then 1 else 0)) = V.int ((stillN n m (j + 1) : Nat) : Int) := by
        rw [stillN_succ hp, Int.natCast_add]
        congr 2
        split <;> rfl
      rw [← eS]
      rfl
    · rintro σ H3 ⟨kvs, v4, v5, rfl, h3, ek, kb⟩
      rw [List.length_map, rows.1] at ek ⊢
      have eU : kvs.length = haveK n m := by
        have a := congrArg List.length ek
        rw [List.length_map, List.length_map] at a
        rw [a, ← tried_have hn m1]
        unfold metU
        rw [List.take_length]
      have eS : stillN n m (allT n).length = homeK n m := by
        unfold stillN
        rw [List.take_length, tried_home hn]
      refine ⟨_, rfl, _, rfl, n, m, rfl, by omega, m1, m2, fun H4 s4 => ⟨_, rfl, d, kvs, rfl, s4 _ _ h3, rfl, true, congrArg V.bl (decide_eq_true (congrArg V.int (by rw [eU]))), iteT ⟨_, rfl, _, rfl, n, m, rfl, by omega, m1, fun H5 s5 => ⟨_, rfl, rfl, ?_⟩⟩⟩⟩
      rw [eS, decide_eq_true rfl]
      exact q H5 (fun b o hb => s5 _ _ (s4 _ _ (kb b o (s2 _ _ (s1 _ _ hb)) (ne_of_none hb hd))))
def spLaw (K : PySem.W.Frag) : Sp := fun vs H Q _ => ∃ (a : Addr) (ns : List Int), vs = [.ref a] ∧ SqL K H a (ns.map V.int) ∧ ns.length ≤ 63 ∧ ∀ H', Q (.bl true) H'
theorem sc_law : FnScope ["script", "k", "pool", "many"] ["script"] (defScope s_law) := ⟨rfl, rfl, rfl, by decide +kernel, rfl, by decide +kernel, by decide +kernel⟩
theorem ok_law {f : Addr} {fd : FuncData} (F : Fun K "law" "law" s_law f fd) (B : Bl mg) (c_law_pool : Cal P w K mg base "_law_pool" 1 ["script", "k"] (spPool K)) (c_law_take : Cal P w K mg base "_law_take" 1 ["pool", "many"] spTake) (c_law_right : Cal P w K mg base "_law_right" 16 ["many", "times"] spRight42) (c_law_times : Cal P w K mg base "_law_times" 2 ["pool"] spTimes) (c_law_tried : Cal P w K mg base "_law_tried" 16 ["many", "times"] spTried42) : FnOk P w K mg base CX0 17 f fd ["script"] (spLaw K) := by
  refine F.ok sc_law (fun vs H Q E h => ?_) (fun cdv A outer s H vs Q E hr h => ?_)
  · obtain ⟨a, ns, rfl, ha, hl, q⟩ := h
    rfl
  · obtain ⟨a, ns, rfl, ha, hl, q⟩ := h
    have hr_law_pool : Room 1 _ := hr.mono (by decide)
    have hr_law_take : Room 1 _ := hr.mono (by decide)
    have hr_law_right : Room 16 _ := hr.mono (by decide)
    have hr_law_times : Room 2 _ := hr.mono (by decide)
    have hr_law_tried : Room 16 _ := hr.mono (by decide)
    refine ⟨_, @pss_cons _ _ _ _ _ (@ps_for _ _ _ _ _ _ _ _ PassesOwn.never rfl (@pi_range1 _ _ _ _ _ _ (by rfl) B.range (@pa_cons _ _ _ _ _ (@pe_max2 _ _ _ _ _ _ rfl B.max (@pa_cons _ _ _ _ _ (@pe_int _ _ _ _) (@pa_cons _ _ _ _ _ (@pe_min2 _ _ _ _ _ _ rfl B.min (@pa_cons _ _ _ _ _ (@pe_int _ _ _ _) (@pa_cons _ _ _ _ _ (@pe_lenL _ _ _ _ _ B.len (@pa_cons _ _ _ _ _ (pv 0) (@pa_nil _) (by rfl)) (by rfl) (by rfl)) (@pa_nil _) (by rfl)) (by rfl)) (by rfl) (by rfl) (by rfl)) (@pa_nil _) (by rfl)) (by rfl)) (by rfl) (by rfl) (by rfl)) (@pa_nil _) (by rfl)) (by rfl)) (@pg_name _ _ (1) _ sc_law.nd rfl (Or.inl rfl) (by first | exact .inl rfl | exact .inr rfl | assumption)) (@pss_cons _ _ _ _ _ (@ps_set _ _ (2) _ _ _ _ sc_law.nd rfl (Or.inl rfl) (@pe_cal _ _ _ _ _ _ _ _ _ _ c_law_pool hr_law_pool (@pa_cons _ _ _ _ _ (pv 0) (@pa_cons _ _ _ _ _ (pv 1) (@pa_nil _) (by rfl)) (by rfl)) (by rfl) (by decide) (by rfl) (by rfl)) (by rfl) (by first | exact .inl rfl | exact .inr rfl | assumption)) (@pss_cons _ _ _ _ _ (@ps_for _ _ _ _ _ _ _ _ PassesOwn.never rfl (@pi_list _ _ _ _ (@pe_lst _ _ _ _ (@pa_cons _ _ _ _ _ (@pe_cal _ _ _ _ _ _ _ _ _ _ c_law_take hr_law_take (@pa_cons _ _ _ _ _ (pv 2) (@pa_cons _ _ _ _ _ (@pe_int _ _ _ _) (@pa_nil _) (by rfl)) (by rfl)) (by rfl) (by decide) (by rfl) (by rfl)) (@pa_cons _ _ _ _ _ (@pe_op _ _ _ _ _ _ _ _ op_sub (@pe_int _ _ _ _) (@pe_cal _ _ _ _ _ _ _ _ _ _ c_law_take hr_law_take (@pa_cons _ _ _ _ _ (pv 2) (@pa_cons _ _ _ _ _ (@pe_int _ _ _ _) (@pa_nil _) (by rfl)) (by rfl)) (by rfl) (by decide) (by rfl) (by rfl))) (@pa_nil _) (by rfl)) (by rfl)))) (@pg_name _ _ (3) _ sc_law.nd rfl (Or.inl rfl) (by first | exact .inl rfl | exact .inr rfl | assumption)) (@pss_one _ _ _ (@ps_if _ _ _ _ _ _ _ _ (@pt_not _ _ _ _ (@pt_val _ _ _ (@pe_cal _ _ _ _ _ _ _ _ _ _ c_law_right hr_law_right (@pa_cons _ _ _ _ _ (pv 3) (@pa_cons _ _ _ _ _ (@pe_cal _ _ _ _ _ _ _ _ _ _ c_law_times hr_law_times (@pa_cons _ _ _ _ _ (pv 2) (@pa_nil _) (by rfl)) (by rfl) (by decide) (by rfl) (by rfl)) (@pa_nil _) (by rfl)) (by rfl)) (by rfl) (by decide) (by rfl) (by rfl)) (by intro _; rfl))) (@pss_one _ _ _ (@ps_ret _ _ _ _ (@pe_bl _ _ _ _))) (@pss_nil _))) (by intro _; rfl)) (@pss_one _ _ _ (@ps_if _ _ _ _ _ _ _ _ (@pw_and _ _ _ _ _ _ _ (@pt_cmpR _ _ _ _ _ _ _ _ op_lt (pv 1) (@pe_int _ _ _ _) (nomark _)) (@pw_and1 _ _ _ _ (@pt_not _ _ _ _ (@pt_val _ _ _ (@pe_cal _ _ _ _ _ _ _ _ _ _ c_law_tried hr_law_tried (@pa_cons _ _ _ _ _ (@pe_cal _ _ _ _ _ _ _ _ _ _ c_law_take hr_law_take (@pa_cons _ _ _ _ _ (pv 2) (@pa_cons _ _ _ _ _ (@pe_int _ _ _ _) (@pa_nil _) (by rfl)) (by rfl)) (by rfl) (by decide) (by rfl) (by rfl)) (@pa_cons _ _ _ _ _ (@pe_cal _ _ _ _ _ _ _ _ _ _ c_law_times hr_law_times (@pa_cons _ _ _ _ _ (pv 2) (@pa_nil _) (by rfl)) (by rfl) (by decide) (by rfl) (by rfl)) (@pa_nil _) (by rfl)) (by rfl)) (by rfl) (by decide) (by rfl) (by rfl)) (by intro _; rfl))))).pt (@pss_one _ _ _ (@ps_ret _ _ _ _ (@pe_bl _ _ _ _))) (@pss_nil _))))) (by intro _; rfl)) (@pss_one _ _ _ (@ps_ret _ _ _ _ (@pe_and _ _ _ _ _ _ _ (@pe_cal _ _ _ _ _ _ _ _ _ _ c_law_right hr_law_right (@pa_cons _ _ _ _ _ (@pe_int _ _ _ _) (@pa_cons _ _ _ _ _ (@pe_int _ _ _ _) (@pa_nil _) (by rfl)) (by rfl)) (by rfl) (by decide) (by rfl) (by rfl)) (@pe_and _ _ _ _ _ _ _ (@pe_cal _ _ _ _ _ _ _ _ _ _ c_law_right hr_law_right (@pa_cons _ _ _ _ _ (@pe_int _ _ _ _) (@pa_cons _ _ _ _ _ (@pe_int _ _ _ _) (@pa_nil _) (by rfl)) (by rfl)) (by rfl) (by decide) (by rfl) (by rfl)) (@pe_one _ _ _ _ _ (@pe_cal _ _ _ _ _ _ _ _ _ _ c_law_tried hr_law_tried (@pa_cons _ _ _ _ _ (@pe_int _ _ _ _) (@pa_cons _ _ _ _ _ (@pe_int _ _ _ _) (@pa_nil _) (by rfl)) (by rfl)) (by rfl) (by decide) (by rfl) (by rfl))))))), ?_⟩
    refine ⟨_, rfl, a, _, rfl, .inl ha, 8, _, rfl, 1, _, rfl, _, rfl, ?_⟩
    obtain ⟨mx, hmx, hm1, hm2⟩ := maxmin' (n := 8) (c := ((ns.map V.int).length : Int)) (by decide) (by omega)
    rw [hmx]
    refine ⟨by omega, by omega, for_range (lo := 0) (n := mx.toNat) (fun i σ H2 => ∃ v1 v2 v3 : Option V, σ = [some (.ref a), v1, v2, v3] ∧ Same H H2)
      ⟨none, none, none, rfl, Same.refl H⟩ ?_ ?_⟩
    · rintro i σ H2 hi ⟨v1, v2, v3, rfl, s02⟩
      refine ⟨_, rfl, _, rfl, a, ns, _, rfl, s02.seq ha, by omega, by omega, fun g H3 hg s23 P3 => ?_⟩
      have hg0 : H g = none := s02.free hg
      refine ⟨_, rfl, g, _, 13, rfl, P3, by decide, by decide, by decide, fun r1 H4 a0 a1 P4 kb4 => ?_⟩
      refine ⟨_, rfl, g, _, 4, rfl, P4, by decide, by decide, by decide, fun r2 H5 b0 b1 P5 kb5 => ?_⟩
      refine ⟨_, _, rfl, rfl, (show 2 ≤ sizeLine by decide), fun l1 n1 => ?_⟩
      have s6 : Same H5 (upd H5 l1 (.lst [V.int r1, V.int (12 - r2)])) := Same.upd_new n1
      have g6 : (upd H5 l1 (.lst [V.int r1, V.int (12 - r2)])) l1 = some (.lst (([r1, 12 - r2] : List Int).map V.int)) := upd_same
      have ne1 : l1 ≠ g := pool_ne P5 n1
      have P6 := pool_same P5 s6
      have s06 : Same H (upd H5 l1 (.lst [V.int r1, V.int (12 - r2)])) := (((s02.trans s23).kb kb4 hg0).kb kb5 hg0).trans s6
      generalize (upd H5 l1 (.lst [V.int r1, V.int (12 - r2)])) = H6 at s6 g6 P6 s06 ⊢
      refine ⟨l1, rfl, ⟨_, SqL.of g6⟩, for_list (K := K) (a := l1) (xs := ([r1, 12 - r2] : List Int).map V.int) (fun j σ H7 => ∃ v3 : Option V, σ = [some (.ref a), some (.int ((0 : Int) + (i : Int))), some (.ref g), v3] ∧ PoolAt H7 g (4300 + 1 + 1 + 40 * j) ∧ KeepBut g H6 H7)
        ⟨_, rfl, P6, KeepBut.refl _ _⟩ (fun j σ H7 _ ⟨_, _, _, kb⟩ => SqL.of (kb _ _ g6 ne1)) ?_ ?_⟩
      · rintro j x σ H7 hj ⟨w3, rfl, P7, kb7⟩
        obtain ⟨z, hz, rfl⟩ := getElem_int hj
        have jl : j < 2 := (List.getElem?_eq_some_iff.mp hz).1
        have zb : 0 ≤ z ∧ z ≤ 12 := by
          have := List.mem_of_getElem? hz
          simp only [List.mem_cons, List.not_mem_nil, or_false] at this
          omega
        obtain ⟨n, rfl⟩ := Int.eq_ofNat_of_zero_le zb.1
        refine ⟨_, rfl, _, rfl, g, _, rfl, P7, by omega, fun y H8 y1 y2 P8 kb8 => ⟨n, y, rfl, by omega, y1, y2, fun H9 s9 => ⟨true, rfl, iteF ?_⟩⟩⟩
        exact ⟨_, rfl, pool_same P8 s9, fun b o hb nb => s9 _ _ (kb8 _ _ (kb7 b o hb nb) nb)⟩
      · rintro σ H7 ⟨w3, rfl, P7, kb7⟩
        have s07 : Same H H7 := s06.kb kb7 hg0
        replace P7 : PoolAt H7 g (4300 + 1 + 1 + 40 * 2) := P7
        refine ⟨_, rfl, _, _, rfl, rfl, _, rfl, ite2 (fun c => ?_) (fun c => ?_)⟩
        · refine ⟨_, rfl, g, _, 6, rfl, P7, by decide, by decide, by decide, fun r3 H8 c0 c1 P8 kb8 => ?_⟩
          obtain ⟨n, rfl⟩ := Int.eq_ofNat_of_zero_le c0
          refine ⟨_, rfl, g, _, rfl, P8, by decide, fun y H9 y1 y2 P9 kb9 => ⟨n, y, rfl, by omega, y1, y2, fun H10 s10 => ⟨true, rfl, iteF ?_⟩⟩⟩
          exact ⟨_, _, _, rfl, ((s07.kb kb8 hg0).kb kb9 hg0).trans s10⟩
        · exact iteF ⟨_, _, _, rfl, s07⟩
    · rintro σ H2 ⟨v1, v2, v3, rfl, s02⟩
      refine ⟨0, 1, rfl, by decide, by decide, by decide, fun H3 s3 => ⟨true, rfl, iteT ⟨12, 12, rfl, by decide, by decide, by decide, fun H4 s4 => ⟨true, rfl, iteT ⟨5, 2, rfl, by decide, by decide, by decide, fun H5 s5 => q H5⟩⟩⟩⟩⟩
end
end My
namespace My
open PySem L2 Mth
theorem all_mk {l : PySem.W.OpenLaw} {w : World} {K : PySem.W.Frag} {h : Heap} {mg : Str → Option Value} {fa f0 f1 f2 f3 f4 f5 f6 f7 f8 f9 f10 f11 f12 f13 f14 f15 f16 f17 f18 f19 f20 f21 f22 f23 f24 f25 f26 f27 f28 f29 f30 f31 f32 f33 f34 f35 f36 f37 f38 f39 f40 f41 f42 f43 : Addr} {tk0 tk1 : Tok} (X : K.In h) (G : h.Ns mainGlobals mg) (hfa : mg "law" = some (.ref fa))
    (u0 : Fu K "is_whole" s_is_whole f0)
    (u1 : Fu K "must_be_from_one" s_must_be_from_one f1)
    (u2 : Fu K "greatest_part" s_greatest_part f2)
    (u3 : Fu K "walk_ring" s_walk_ring f3)
    (u4 : Fu K "walk_rings" s_walk_rings f4)
    (u5 : Fu K "send_along" s_send_along f5)
    (u6 : Fu K "sort_by_length" s_sort_by_length f6)
    (u7 : Fu K "is_turn" s_is_turn f7)
    (u8 : Fu K "must_be_turn" s_must_be_turn f8)
    (u9 : Fu K "rounds_of" s_rounds_of f9)
    (u10 : Fu K "are_filled_lists" s_are_filled_lists f10)
    (u11 : Fu K "things_in" s_things_in f11)
    (u12 : Fu K "from_rounds" s_from_rounds f12)
    (u13 : Fu K "least_right" s_least_right f13)
    (u14 : Fu K "join_rings" s_join_rings f14)
    (u15 : Fu K "root_told" s_root_told f15)
    (u16 : Fu K "right_numbers" s_right_numbers f16)
    (u17 : Fu K "ways_to_follow" s_ways_to_follow f17)
    (u18 : Fu K "count_joins" s_count_joins f18)
    (u19 : Fu K "how_many_roots" s_how_many_roots f19)
    (u20 : Fu K "how_many_past" s_how_many_past f20)
    (u21 : Fu K "must_be_counted" s_must_be_counted f21)
    (u22 : Fu K "kinds_below" s_kinds_below f22)
    (u23 : Fu K "kinds_of" s_kinds_of f23)
    (u24 : Fu K "is_kind" s_is_kind f24)
    (u25 : Fu K "one_of_kind" s_one_of_kind f25)
    (u26 : Fu K "orders_of" s_orders_of f26)
    (u27 : Fu K "how_many_of" s_how_many_of f27)
    (u28 : Fu K "how_many_have" s_how_many_have f28)
    (u29 : Fu K "how_many_home" s_how_many_home f29)
    (u30 : Fu K "_law_pool" s_law_pool f30)
    (u31 : Fu K "_law_take" s_law_take f31)
    (u32 : Fu K "_law_same" s_law_same f32)
    (u33 : Fu K "_law_kinds" s_law_kinds f33)
    (u34 : Fu K "_law_product" s_law_product f34)
    (u35 : Fu K "_law_of_kind" s_law_of_kind f35)
    (u36 : Fu K "_law_times" s_law_times f36)
    (u37 : Fu K "_law_least_right" s_law_least_right f37)
    (u38 : Fu K "_law_has_root" s_law_has_root f38)
    (u39 : Fu K "_law_all_turns" s_law_all_turns f39)
    (u40 : Fu K "_law_done" s_law_done f40)
    (u41 : Fu K "_law_right" s_law_right f41)
    (u42 : Fu K "_law_tried" s_law_tried f42)
    (u43 : Fu K "law" s_law f43)
    (m0 : PySem.W.nsIn K mainGlobals "MOST_COUNTED" = some (some (.int 12 tk0)))
    (m1 : PySem.W.nsIn K mainGlobals "MOST_THINGS" = some (some (.int 40 tk1)))
    (zz : Fre K ["len", "isinstance", "int", "bool", "list", "range", "sum", "min", "max", "enumerate", "zip", "sorted", "tuple", "str", "repr", "all", "any", "set", "dict", "ValueError"])
    : ∃ fd : FuncData, (∀ (s : Shared) (v : Value), BindsTo s fd ⟨[v], []⟩ [("script", v)]) ∧ ∀ base : Heap, K.In base → base.Ns mainGlobals mg → FnOk l.prog w K mg base CX0 17 fa fd ["script"] (spLaw K) := by
  obtain ⟨d0, a0, F0⟩ := u0
  obtain ⟨d1, a1, F1⟩ := u1
  obtain ⟨d2, a2, F2⟩ := u2
  obtain ⟨d3, a3, F3⟩ := u3
  obtain ⟨d4, a4, F4⟩ := u4
  obtain ⟨d5, a5, F5⟩ := u5
  obtain ⟨d6, a6, F6⟩ := u6
  obtain ⟨d7, a7, F7⟩ := u7
  obtain ⟨d8, a8, F8⟩ := u8
  obtain ⟨d9, a9, F9⟩ := u9
  obtain ⟨d10, a10, F10⟩ := u10
  obtain ⟨d11, a11, F11⟩ := u11
  obtain ⟨d12, a12, F12⟩ := u12
  obtain ⟨d13, a13, F13⟩ := u13
  obtain ⟨d14, a14, F14⟩ := u14
  obtain ⟨d15, a15, F15⟩ := u15
  obtain ⟨d16, a16, F16⟩ := u16
  obtain ⟨d17, a17, F17⟩ := u17
  obtain ⟨d18, a18, F18⟩ := u18
  obtain ⟨d19, a19, F19⟩ := u19
  obtain ⟨d20, a20, F20⟩ := u20
  obtain ⟨d21, a21, F21⟩ := u21
  obtain ⟨d22, a22, F22⟩ := u22
  obtain ⟨d23, a23, F23⟩ := u23
  obtain ⟨d24, a24, F24⟩ := u24
  obtain ⟨d25, a25, F25⟩ := u25
  obtain ⟨d26, a26, F26⟩ := u26
  obtain ⟨d27, a27, F27⟩ := u27
  obtain ⟨d28, a28, F28⟩ := u28
  obtain ⟨d29, a29, F29⟩ := u29
  obtain ⟨d30, a30, F30⟩ := u30
  obtain ⟨d31, a31, F31⟩ := u31
  obtain ⟨d32, a32, F32⟩ := u32
  obtain ⟨d33, a33, F33⟩ := u33
  obtain ⟨d34, a34, F34⟩ := u34
  obtain ⟨d35, a35, F35⟩ := u35
  obtain ⟨d36, a36, F36⟩ := u36
  obtain ⟨d37, a37, F37⟩ := u37
  obtain ⟨d38, a38, F38⟩ := u38
  obtain ⟨d39, a39, F39⟩ := u39
  obtain ⟨d40, a40, F40⟩ := u40
  obtain ⟨d41, a41, F41⟩ := u41
  obtain ⟨d42, a42, F42⟩ := u42
  obtain ⟨d43, a43, F43⟩ := u43
  have e := hfa.symm.trans (PySem.W.mg_of X G a43)
  cases e
  obtain ⟨z0, z1, z2, z3, z4, z5, z6, z7, z8, z9, z10, z11, z12, z13, z14, z15, z16, z17, z18, z19, _⟩ := zz
  have zn {y : Str} (z : PySem.W.nsIn K mainGlobals y = some none) := PySem.W.mg_none_of X G z
  have B : Bl mg := ⟨zn z0, zn z1, zn z2, zn z3, zn z4, zn z5, zn z6, zn z7, zn z8, zn z9, zn z10, zn z11, zn z12, zn z13, zn z14, zn z15, zn z16, zn z17, zn z18, zn z19⟩
  have g_MOST_COUNTED : ∃ t, mg "MOST_COUNTED" = some (.int 12 t) := ⟨_, PySem.W.mg_of X G m0⟩
  have mt : ∃ t, mg "MOST_THINGS" = some (.int 40 t) := ⟨_, PySem.W.mg_of X G m1⟩
  have b0 := F0.binds (ps := ["thing"]) fun _ _ _ _ _ _ us hl => match us, hl with | [_], _ => rfl
  have b1 := F1.binds (ps := ["number"]) fun _ _ _ _ _ _ us hl => match us, hl with | [_], _ => rfl
  have b2 := F2.binds (ps := ["a", "b"]) fun _ _ _ _ _ _ us hl => match us, hl with | [_, _], _ => rfl
  have b3 := F3.binds (ps := ["p", "first"]) fun _ _ _ _ _ _ us hl => match us, hl with | [_, _], _ => rfl
  have b4 := F4.binds (ps := ["p"]) fun _ _ _ _ _ _ us hl => match us, hl with | [_], _ => rfl
  have b5 := F5.binds (ps := ["target", "ring", "steps"]) fun _ _ _ _ _ _ us hl => match us, hl with | [_, _, _], _ => rfl
  have b6 := F6.binds (ps := ["rings"]) fun _ _ _ _ _ _ us hl => match us, hl with | [_], _ => rfl
  have b7 := F7.binds (ps := ["thing"]) fun _ _ _ _ _ _ us hl => match us, hl with | [_], _ => rfl
  have b8 := F8.binds (ps := ["thing"]) fun _ _ _ _ _ _ us hl => match us, hl with | [_], _ => rfl
  have b9 := F9.binds (ps := ["p"]) fun _ _ _ _ _ _ us hl => match us, hl with | [_], _ => rfl
  have b10 := F10.binds (ps := ["rounds"]) fun _ _ _ _ _ _ us hl => match us, hl with | [_], _ => rfl
  have b11 := F11.binds (ps := ["rounds"]) fun _ _ _ _ _ _ us hl => match us, hl with | [_], _ => rfl
  have b12 := F12.binds (ps := ["rounds"]) fun _ _ _ _ _ _ us hl => match us, hl with | [_], _ => rfl
  have b13 := F13.binds (ps := ["l", "m"]) fun _ _ _ _ _ _ us hl => match us, hl with | [_, _], _ => rfl
  have b14 := F14.binds (ps := ["rings", "m"]) fun _ _ _ _ _ _ us hl => match us, hl with | [_, _], _ => rfl
  have b15 := F15.binds (ps := ["p", "m"]) fun _ _ _ _ _ _ us hl => match us, hl with | [_, _], _ => rfl
  have b16 := F16.binds (ps := ["length", "m", "most"]) fun _ _ _ _ _ _ us hl => match us, hl with | [_, _, _], _ => rfl
  have b17 := F17.binds (ps := ["left", "part", "length"]) fun _ _ _ _ _ _ us hl => match us, hl with | [_, _, _], _ => rfl
  have b18 := F18.binds (ps := ["length", "many", "m"]) fun _ _ _ _ _ _ us hl => match us, hl with | [_, _, _], _ => rfl
  have b19 := F19.binds (ps := ["p", "m"]) fun _ _ _ _ _ _ us hl => match us, hl with | [_, _], _ => rfl
  have b20 := F20.binds (ps := ["p"]) fun _ _ _ _ _ _ us hl => match us, hl with | [_], _ => rfl
  have b21 := F21.binds (ps := ["n"]) fun _ _ _ _ _ _ us hl => match us, hl with | [_], _ => rfl
  have b22 := F22.binds (ps := ["n", "most"]) fun _ _ _ _ _ _ us hl => match us, hl with | [_, _], _ => rfl
  have b23 := F23.binds (ps := ["n"]) fun _ _ _ _ _ _ us hl => match us, hl with | [_], _ => rfl
  have b24 := F24.binds (ps := ["thing"]) fun _ _ _ _ _ _ us hl => match us, hl with | [_], _ => rfl
  have b25 := F25.binds (ps := ["kind"]) fun _ _ _ _ _ _ us hl => match us, hl with | [_], _ => rfl
  have b26 := F26.binds (ps := ["n"]) fun _ _ _ _ _ _ us hl => match us, hl with | [_], _ => rfl
  have b27 := F27.binds (ps := ["kind"]) fun _ _ _ _ _ _ us hl => match us, hl with | [_], _ => rfl
  have b28 := F28.binds (ps := ["n", "m"]) fun _ _ _ _ _ _ us hl => match us, hl with | [_, _], _ => rfl
  have b29 := F29.binds (ps := ["n", "m"]) fun _ _ _ _ _ _ us hl => match us, hl with | [_, _], _ => rfl
  have b30 := F30.binds (ps := ["script", "k"]) fun _ _ _ _ _ _ us hl => match us, hl with | [_, _], _ => rfl
  have b31 := F31.binds (ps := ["pool", "many"]) fun _ _ _ _ _ _ us hl => match us, hl with | [_, _], _ => rfl
  have b32 := F32.binds (ps := ["found", "due"]) fun _ _ _ _ _ _ us hl => match us, hl with | [_, _], _ => rfl
  have b33 := F33.binds (ps := ["many", "most"]) fun _ _ _ _ _ _ us hl => match us, hl with | [_, _], _ => rfl
  have b34 := F34.binds (ps := ["many"]) fun _ _ _ _ _ _ us hl => match us, hl with | [_], _ => rfl
  have b35 := F35.binds (ps := ["kind"]) fun _ _ _ _ _ _ us hl => match us, hl with | [_], _ => rfl
  have b36 := F36.binds (ps := ["pool"]) fun _ _ _ _ _ _ us hl => match us, hl with | [_], _ => rfl
  have b37 := F37.binds (ps := ["length", "times"]) fun _ _ _ _ _ _ us hl => match us, hl with | [_, _], _ => rfl
  have b38 := F38.binds (ps := ["kind", "times"]) fun _ _ _ _ _ _ us hl => match us, hl with | [_, _], _ => rfl
  have b39 := F39.binds (ps := ["many"]) fun _ _ _ _ _ _ us hl => match us, hl with | [_], _ => rfl
  have b40 := F40.binds (ps := ["p", "times"]) fun _ _ _ _ _ _ us hl => match us, hl with | [_, _], _ => rfl
  have b41 := F41.binds (ps := ["many", "times"]) fun _ _ _ _ _ _ us hl => match us, hl with | [_, _], _ => rfl
  have b42 := F42.binds (ps := ["many", "times"]) fun _ _ _ _ _ _ us hl => match us, hl with | [_, _], _ => rfl
  obtain ⟨oc, od, kV, dc, pm, an, cd, ct, sl, rfl, lk, hcd⟩ := id F43.ex
  refine ⟨PySem.W.fnOf "law" "law" (defArgs s_law) (defBody s_law) (defScope s_law) .none kV dc pm an cd ct, fun s v => .of_eq rfl, fun base _ _ => ?_⟩
  have c_is_whole : Cal l.prog w K mg base "is_whole" 1 ["thing"] (spWhole K) := cal_mk X G a0 F0 b0 (ok_whole F0 B)
  have c_must_be_from_one : Cal l.prog w K mg base "must_be_from_one" 2 ["number"] spOne := cal_mk X G a1 F1 b1 (ok_one F1 c_is_whole)
  have c_greatest_part : Cal l.prog w K mg base "greatest_part" 1 ["a", "b"] spGcd := cal_mk X G a2 F2 b2 (ok_gcd F2)
  have c_walk_ring : Cal l.prog w K mg base "walk_ring" 1 ["p", "first"] spRing := cal_mk X G a3 F3 b3 (ok_ring F3)
  have c_walk_rings : Cal l.prog w K mg base "walk_rings" 2 ["p"] spRings := cal_mk X G a4 F4 b4 (ok_rings F4 B c_walk_ring)
  have c_send_along : Cal l.prog w K mg base "send_along" 1 ["target", "ring", "steps"] spSend := cal_mk X G a5 F5 b5 (ok_send F5 B)
  have c_sort_by_length : Cal l.prog w K mg base "sort_by_length" 1 ["rings"] spSortR := cal_mk X G a6 F6 b6 (ok_sortR F6 B)
  have c_is_turn : Cal l.prog w K mg base "is_turn" 2 ["thing"] spIsTurn := cal_mk X G a7 F7 b7 (ok_isTurn F7 B mt c_is_whole)
  have c_must_be_turn : Cal l.prog w K mg base "must_be_turn" 3 ["thing"] spMust := cal_mk X G a8 F8 b8 (ok_must F8 c_is_turn)
  have c_rounds_of : Cal l.prog w K mg base "rounds_of" 4 ["p"] spRings := cal_mk X G a9 F9 b9 (ok_roundsOf F9 c_must_be_turn c_walk_rings)
  have c_are_filled_lists : Cal l.prog w K mg base "are_filled_lists" 1 ["rounds"] spFilled := cal_mk X G a10 F10 b10 (ok_filled F10 B)
  have c_things_in : Cal l.prog w K mg base "things_in" 1 ["rounds"] spThings := cal_mk X G a11 F11 b11 (ok_things F11)
  have c_from_rounds : Cal l.prog w K mg base "from_rounds" 3 ["rounds"] spFrom := cal_mk X G a12 F12 b12 (ok_from F12 c_are_filled_lists c_things_in c_is_turn c_send_along)
  have c_least_right : Cal l.prog w K mg base "least_right" 3 ["l", "m"] spLR := cal_mk X G a13 F13 b13 (ok_lr F13 c_must_be_from_one c_greatest_part)
  have c_join_rings : Cal l.prog w K mg base "join_rings" 1 ["rings", "m"] spJoin := cal_mk X G a14 F14 b14 (ok_join F14 B)
  have c_root_told : Cal l.prog w K mg base "root_told" 5 ["p", "m"] spRoot := cal_mk X G a15 F15 b15 (ok_root F15 B c_rounds_of c_sort_by_length c_must_be_from_one c_least_right c_join_rings c_from_rounds)
  have c_right_numbers : Cal l.prog w K mg base "right_numbers" 2 ["length", "m", "most"] spRights := cal_mk X G a16 F16 b16 (ok_right_numbers F16 B c_greatest_part)
  have c_ways_to_follow : Cal l.prog w K mg base "ways_to_follow" 1 ["left", "part", "length"] spFollow := cal_mk X G a17 F17 b17 (ok_ways_to_follow F17 B)
  have c_count_joins : Cal l.prog w K mg base "count_joins" 3 ["length", "many", "m"] spJoins := cal_mk X G a18 F18 b18 (ok_count_joins F18 B c_right_numbers c_ways_to_follow)
  have c_how_many_roots : Cal l.prog w K mg base "how_many_roots" 4 ["p", "m"] spMany := cal_mk X G a19 F19 b19 (ok_how_many_roots F19 B c_must_be_turn c_must_be_from_one c_sort_by_length c_walk_rings c_count_joins)
  have c_how_many_past : Cal l.prog w K mg base "how_many_past" 4 ["p"] spHow := cal_mk X G a20 F20 b20 (ok_how_many_past F20 B c_must_be_turn c_sort_by_length c_walk_rings)
  have c_must_be_counted : Cal l.prog w K mg base "must_be_counted" 2 ["n"] spCounted := cal_mk X G a21 F21 b21 (ok_must_be_counted F21 g_MOST_COUNTED c_is_whole)
  have c_kinds_below : Cal l.prog w K mg base "kinds_below" 13 ["n", "most"] (spKinds 12) := cal_mk X G a22 F22 b22 (okr_kinds_below F22 B (cal_mk X G a22 F22 b22 (okr_kinds_below F22 B (cal_mk X G a22 F22 b22 (okr_kinds_below F22 B (cal_mk X G a22 F22 b22 (okr_kinds_below F22 B (cal_mk X G a22 F22 b22 (okr_kinds_below F22 B (cal_mk X G a22 F22 b22 (okr_kinds_below F22 B (cal_mk X G a22 F22 b22 (okr_kinds_below F22 B (cal_mk X G a22 F22 b22 (okr_kinds_below F22 B (cal_mk X G a22 F22 b22 (okr_kinds_below F22 B (cal_mk X G a22 F22 b22 (okr_kinds_below F22 B (cal_mk X G a22 F22 b22 (okr_kinds_below F22 B (cal_mk X G a22 F22 b22 (okr_kinds_below F22 B (cal_mk X G a22 F22 b22 (ok_kinds_below F22 B)))))))))))))))))))))))))
  have c_kinds_of : Cal l.prog w K mg base "kinds_of" 14 ["n"] spKindsOf := cal_mk X G a23 F23 b23 (ok_kinds_of F23 c_must_be_counted c_kinds_below)
  have c_is_kind : Cal l.prog w K mg base "is_kind" 2 ["thing"] spIsKind := cal_mk X G a24 F24 b24 (ok_is_kind F24 B mt c_is_whole)
  have c_one_of_kind : Cal l.prog w K mg base "one_of_kind" 4 ["kind"] spOneOf := cal_mk X G a25 F25 b25 (ok_one_of_kind F25 B c_from_rounds)
  have c_orders_of : Cal l.prog w K mg base "orders_of" 1 ["n"] spOrders := cal_mk X G a26 F26 b26 (ok_orders_of F26 B)
  have c_how_many_of : Cal l.prog w K mg base "how_many_of" 5 ["kind"] spHowOf := cal_mk X G a27 F27 b27 (ok_how_many_of F27 B c_is_kind c_orders_of c_how_many_past c_one_of_kind)
  have c_how_many_have : Cal l.prog w K mg base "how_many_have" 15 ["n", "m"] spHave := cal_mk X G a28 F28 b28 (ok_how_many_have F28 B c_kinds_of c_must_be_from_one (toldF_of c_root_told) c_one_of_kind c_how_many_of)
  have c_how_many_home : Cal l.prog w K mg base "how_many_home" 5 ["n", "m"] spHomeC := cal_mk X G a29 F29 b29 (ok_how_many_home F29 B c_must_be_counted c_how_many_roots)
  have c_law_pool : Cal l.prog w K mg base "_law_pool" 1 ["script", "k"] (spPool K) := cal_mk X G a30 F30 b30 (ok_pool F30 B)
  have c_law_take : Cal l.prog w K mg base "_law_take" 1 ["pool", "many"] spTake := cal_mk X G a31 F31 b31 (ok_take F31)
  have c_law_same : Cal l.prog w K mg base "_law_same" 1 ["found", "due"] spSame := cal_mk X G a32 F32 b32 (ok_same F32 B)
  have c_law_kinds : Cal l.prog w K mg base "_law_kinds" 13 ["many", "most"] (spKinds 12) := cal_mk X G a33 F33 b33 (okr_law_kinds F33 B (cal_mk X G a33 F33 b33 (okr_law_kinds F33 B (cal_mk X G a33 F33 b33 (okr_law_kinds F33 B (cal_mk X G a33 F33 b33 (okr_law_kinds F33 B (cal_mk X G a33 F33 b33 (okr_law_kinds F33 B (cal_mk X G a33 F33 b33 (okr_law_kinds F33 B (cal_mk X G a33 F33 b33 (okr_law_kinds F33 B (cal_mk X G a33 F33 b33 (okr_law_kinds F33 B (cal_mk X G a33 F33 b33 (okr_law_kinds F33 B (cal_mk X G a33 F33 b33 (okr_law_kinds F33 B (cal_mk X G a33 F33 b33 (okr_law_kinds F33 B (cal_mk X G a33 F33 b33 (okr_law_kinds F33 B (cal_mk X G a33 F33 b33 (ok_law_kinds F33 B)))))))))))))))))))))))))
  have c_law_product : Cal l.prog w K mg base "_law_product" 1 ["many"] spOrders := cal_mk X G a34 F34 b34 (ok_law_product F34 B)
  have c_law_of_kind : Cal l.prog w K mg base "_law_of_kind" 2 ["kind"] spHowOf := cal_mk X G a35 F35 b35 (ok_law_of_kind F35 B c_law_product)
  have c_law_times : Cal l.prog w K mg base "_law_times" 2 ["pool"] spTimes := cal_mk X G a36 F36 b36 (ok_law_times F36 B c_law_take)
  have c_law_least_right : Cal l.prog w K mg base "_law_least_right" 1 ["length", "times"] spLeastL := cal_mk X G a37 F37 b37 (ok_law_least_right F37)
  have c_law_has_root : Cal l.prog w K mg base "_law_has_root" 2 ["kind", "times"] spHasRoot := cal_mk X G a38 F38 b38 (ok_law_has_root F38 c_law_least_right)
  have c_law_all_turns : Cal l.prog w K mg base "_law_all_turns" 1 ["many"] spAllT := cal_mk X G a39 F39 b39 (ok_law_all_turns F39 B)
  have c_law_done : Cal l.prog w K mg base "_law_done" 1 ["p", "times"] spDone := cal_mk X G a40 F40 b40 (ok_law_done F40 B)
  have c_law_right : Cal l.prog w K mg base "_law_right" 16 ["many", "times"] spRight42 := cal_mk X G a41 F41 b41 (ok_law_right F41 c_law_kinds c_law_has_root c_law_of_kind c_law_same c_how_many_home c_how_many_have)
  have c_law_tried : Cal l.prog w K mg base "_law_tried" 16 ["many", "times"] spTried42 := cal_mk X G a42 F42 b42 (ok_law_tried F42 B c_law_all_turns c_law_done c_how_many_have c_how_many_home)
  exact ok_law F43 B c_law_pool c_law_take c_law_right c_law_times c_law_tried
theorem walk {l : PySem.W.OpenLaw} {q : Program} {loose : List Str} {XP : (Str → Option Value) → Heap → Prop} {YP : World → Heap → Prop} {d : DefRec} {K : Params → PySem.W.Frag} (hn : l.most = some 63) (hdf : d.params.defaults = [])
    (hY : ∀ (w : World) (h : Heap), YP w h → (K w.params).In h)
    (F : ∀ (w : World) (mg : Str → Option Value) (fa : Addr) (h : Heap), (K w.params).In h → h.Ns mainGlobals mg → mg d.name = some (.ref fa) →
      ∃ fd : FuncData, (∀ (s : Shared) (u : Value), BindsTo s fd ⟨[u], []⟩ [("script", u)]) ∧ ∀ base : Heap, (K w.params).In base → base.Ns mainGlobals mg → FnOk l.prog w (K w.params) mg base CX0 17 fa fd ["script"] (spLaw (K w.params))) :
    PySem.W.WalkO q loose XP YP l.row.toRowW d [] (fun f vs => PySem.call f vs) :=
  L2.walk_of (n := 63) (k := 17) (x := "script") (CX := fun _ => CX0) (sp := fun w => spLaw (K w.params)) hn (by decide) hdf ⟨rfl, by decide, by decide, rfl⟩ hY F (fun _ _ a ns hl _ hS => ⟨a, ns, rfl, hS, hl, fun _ => rfl⟩) fun _ _ _ _ _ z => z
end My
abbrev PySem.W.Fast.tw90343872475197607 : Type := PySem.Params
theorem PySem.W.Fast.te90343872475197607 : PySem.Params = PySem.W.Fast.tw90343872475197607 := rfl
open PySem PySem.W PyProof.Rows L2
set_option maxRecDepth 100000 in
set_option maxHeartbeats 0 in
theorem PySem.Challenge.cw_turnroots_k42_how_many_have_and_are_home_holds : PySem.Challenge.rw_turnroots_k42_how_many_have_and_are_home.Holds := by
  w_on; o_law; k_head; (case hw => w_witness2)
  k_fill
  refine My.walk (l := PySem.Challenge.rw_turnroots_k42_how_many_have_and_are_home) rfl rfl (fun w h Y => PySem.W.kIn_of Y) ?F
  case F =>
    intro w mg fa h KX G hmg
    refine' My.all_mk KX G hmg ?_ ?_ ?_ ?_ ?_ ?_ ?_ ?_ ?_ ?_ ?_ ?_ ?_ ?_ ?_ ?_ ?_ ?_ ?_ ?_ ?_ ?_ ?_ ?_ ?_ ?_ ?_ ?_ ?_ ?_ ?_ ?_ ?_ ?_ ?_ ?_ ?_ ?_ ?_ ?_ ?_ ?_ ?_ ?_ ?_ ?_ ?_
    all_goals first
      | k_is
      | (refine' fu_mk ?a ?l ?c ?k; (case a => k_is); (case l => k_is); (case c => k_is); (case k => k_is))
      | ((repeat (refine' And.intro (ClF.mk ?n ?e ?g ?h ?c ?b ?o ?i ?t ?u ?v ?s) ?_; (case n => k_is); (case e => k_exc); (case g => k_is); (case h => k_is); (case c => k_is); (case b => k_is); (case o => k_is); (case i => k_is); (case t => k_is); (case u => k_is); (case v => k_is); (case s => k_is))); exact trivial)
      | ((repeat (refine' And.intro ?n ?_; (case n => k_is))); exact trivial)
      | ((repeat (refine' And.intro ?zp ?_; (case zp => ((repeat (refine' And.intro ?n ?_; (case n => k_is))); exact trivial)))); exact trivial)
      | skip
#print axioms PySem.Challenge.cw_turnroots_k42_how_many_have_and_are_home_holds