import PyProof.Rows.All
import Wide.All
import OpenK.AllK
import Wide.FinOn
import Lean
import PyProof.EqAt
import PyProof.EqKinds
import PyProof.TupleCall
import PyProof.NeKinds
import PyProof.EnumMake
import PyProof.Rows.SeqMore2
import PyProof.ZipIter
import PyProof.Rows.SortRev
import PyProof.Rows.SortWalk
import PyProof.Rows.CallKwBuiltin
import PyProof.DictIter
import PyProof.DictWalks
import PyProof.MeetsDict
import PyProof.Conv_int_bool
import PyProof.EqAt
import PyProof.CollectWalk
import PyProof.Rows.SortShell
import PyProof.Rows.Range3
import PyProof.CallFns
import PyProof.StrBlockH
import PySem.Challenge.RW_turnroots_k01_what_is_a_turn
set_option Elab.async false
set_option linter.all false
set_option maxRecDepth 100000
set_option maxHeartbeats 8000000
set_option Elab.async false
set_option linter.all false
set_option maxRecDepth 100000
namespace L2
open PySem PySem.Spec PyProof.Rows
abbrev Key := Sum Int Str
def keyIs : Key → Value → Bool
  | .inl k, v => Value.isInt k v
  | .inr x, v => Value.isStrOf x v
def keyH (w : World) : Key → Int
  | .inl k => hashInt k
  | .inr x => hashStr w x
theorem keyIs_shape : ∀ {k : Key} {v : Value}, keyIs k v = true → (∃ i t, k = Sum.inl i ∧ v = Value.int i t) ∨ (∃ x t, k = Sum.inr x ∧ v = Value.str x t)
  | .inl i, v, h => by
    obtain ⟨t, e⟩ := Value.isInt_shape (k := i) (v := v) h
    exact .inl ⟨i, t, rfl, e⟩
  | .inr x, v, h => by
    obtain ⟨t, e⟩ := Value.isStrOf_shape (x := x) (v := v) h
    exact .inr ⟨x, t, rfl, e⟩
theorem keyIs_int (i : Int) (t : Tok) : keyIs (.inl i) (.int i t) = true := by simp [keyIs, Value.isInt]
theorem keyIs_str (x : Str) (t : Tok) : keyIs (.inr x) (.str x t) = true := by simp [keyIs, Value.isStrOf]
theorem key_ll (a b : Int) : decide ((Sum.inl a : Key) = Sum.inl b) = (a == b) := by
  by_cases e : a = b
  · subst e; simp
  · have h : ¬ (Sum.inl a : Key) = Sum.inl b := fun q => e (Sum.inl.inj q)
    rw [decide_eq_false h]
    exact (beq_eq_false_iff_ne.mpr e).symm
theorem key_rr (a b : Str) : decide ((Sum.inr a : Key) = Sum.inr b) = decide (a = b) := by
  by_cases e : a = b
  · subst e; simp
  · have h : ¬ (Sum.inr a : Key) = Sum.inr b := fun q => e (Sum.inr.inj q)
    rw [decide_eq_false h, decide_eq_false e]
theorem key_lr (a : Int) (b : Str) : decide ((Sum.inl a : Key) = Sum.inr b) = false := decide_eq_false (fun q => nomatch q)
theorem key_rl (a : Str) (b : Int) : decide ((Sum.inr a : Key) = Sum.inl b) = false := decide_eq_false (fun q => nomatch q)
def mixKind (prog : Program) (w : World) : PySem.KeyKind prog w Key where
  is := keyIs
  hash := keyH w
  inj := fun v a b ha hb => by
    rcases keyIs_shape ha with ⟨i, t, rfl, rfl⟩ | ⟨x, t, rfl, rfl⟩
    · rcases keyIs_shape hb with ⟨j, u, rfl, e⟩ | ⟨y, u, rfl, e⟩
      · injection e with e1 _; rw [e1]
      · exact nomatch e
    · rcases keyIs_shape hb with ⟨j, u, rfl, e⟩ | ⟨y, u, rfl, e⟩
      · exact nomatch e
      · injection e with e1 _; rw [e1]
  byValue := fun k v h => by
    rcases keyIs_shape h with ⟨i, t, rfl, rfl⟩ | ⟨x, t, rfl, rfl⟩ <;> rfl
  pyHash := fun hv h => by
    rcases keyIs_shape hv with ⟨i, t, rfl, rfl⟩ | ⟨x, t, rfl, rfl⟩
    · exact wpAny_pyHash_int h
    · exact wpAny_pyHash_str h
  eqBool := fun hu hv h => by
    rcases keyIs_shape hu with ⟨i, t, rfl, rfl⟩ | ⟨x, t, rfl, rfl⟩
    · rcases keyIs_shape hv with ⟨j, u, rfl, rfl⟩ | ⟨y, u, rfl, rfl⟩
      · rw [key_ll] at h; exact wpAny_eqBool_int h
      · rw [key_lr] at h; exact SeqAt.EqAt.int_str i t y u _ _ _ _ h
    · rcases keyIs_shape hv with ⟨j, u, rfl, rfl⟩ | ⟨y, u, rfl, rfl⟩
      · rw [key_rl] at h; exact SeqAt.EqAt.str_int x t j u _ _ _ _ h
      · rw [key_rr] at h; exact wpAny_eqBool_str h
  «strs» := fun k x t v h => by
    rcases keyIs_shape h with ⟨i, u, rfl, e⟩ | ⟨y, u, rfl, e⟩
    · exact nomatch e
    · injection e with e1 _
      subst e1
      cases v <;> rfl
theorem mixKind_int (prog : Program) (w : World) (i : Int) (t : Tok) : (mixKind prog w).is (.inl i) (.int i t) = true := keyIs_int i t
theorem mixKind_str (prog : Program) (w : World) (x : Str) (t : Tok) : (mixKind prog w).is (.inr x) (.str x t) = true := keyIs_str x t
end L2
namespace L2
open PySem PySem.Spec PyProof.Rows
inductive V where
  | non | bl (b : Bool) | int (i : Int) | str (x : Str) | byt (b : Array UInt8) | flt (b : UInt64) | ref (a : Addr) | ty (n : String)
  deriving DecidableEq
def RelV : V → Value → Prop
  | .non, u => u = Value.none
  | .bl b, u => u = Value.bool b
  | .int i, u => ∃ t, u = Value.int i t
  | .str x, u => ∃ t, u = Value.str x t
  | .byt b, u => ∃ t, u = Value.bytes b t
  | .flt b, u => ∃ t, u = Value.float b t
  | .ref a, u => u = Value.ref a
  | .ty n, u => u = Value.type n
abbrev Vals : List V → List Value → Prop := Paired RelV
theorem Vals.length {xs : List V} {us : List Value} (r : Vals xs us) : xs.length = us.length := Paired.length r
theorem Vals.get : ∀ {xs : List V} {us : List Value} {i : Nat} {x : V}, Vals xs us → xs[i]? = some x → ∃ u, us[i]? = some u ∧ RelV x u
  | _, _, _, _, .nil, e => by simp at e
  | _, _, 0, _, .cons r _, e => by simp at e; subst e; exact ⟨_, rfl, r⟩
  | _, _, i + 1, x, .cons _ t, e => by
    obtain ⟨u, h1, h2⟩ := Vals.get (i := i) (x := x) t (by simpa using e)
    exact ⟨u, by simpa using h1, h2⟩
theorem Vals.set {x : V} {u : Value} (r : RelV x u) : ∀ {xs : List V} {us : List Value} (i : Nat), Vals xs us → Vals (xs.set i x) (us.set i u)
  | _, _, _, .nil => .nil
  | _, _, 0, .cons _ t => .cons r t
  | _, _, i + 1, .cons q t => .cons q (Vals.set r i t)
theorem Vals.append : ∀ {xs ys : List V} {us ws : List Value}, Vals xs us → Vals ys ws → Vals (xs ++ ys) (us ++ ws)
  | _, _, _, _, .nil, s => s
  | _, _, _, _, .cons r t, s => .cons r (Vals.append t s)
theorem Vals.take : ∀ {xs : List V} {us : List Value} (n : Nat), Vals xs us → Vals (xs.take n) (us.take n)
  | _, _, 0, _ => .nil
  | _, _, _ + 1, .nil => .nil
  | _, _, n + 1, .cons r t => .cons r (Vals.take n t)
theorem Vals.drop : ∀ {xs : List V} {us : List Value} (n : Nat), Vals xs us → Vals (xs.drop n) (us.drop n)
  | _, _, 0, r => r
  | _, _, _ + 1, .nil => .nil
  | _, _, n + 1, .cons _ t => Vals.drop n t
def RelO : Option V → Option Value → Prop
  | some v, some u => RelV v u
  | none, none => True
  | _, _ => False
def KV {κ : Type} : List (κ × V) → List (κ × Value) → Prop := Paired fun (p : κ × V) (q : κ × Value) => p.1 = q.1 ∧ RelV p.2 q.2
def kV : Key → V
  | .inl i => .int i
  | .inr x => .str x
inductive HO where
  | lst (xs : List V)
  | tup (xs : List V)
  | dK (kvs : List (Key × V)) | dT (kvs : List (List Key × V))
  | set (S : Int → Bool) (n : Nat)
  | ins (C dx : Addr) (fs : List (Str × V))
  | own (x : Addr)
  | xd (fs : List (Str × V))
  | met (f x : Addr)
  | rng (lo hi : Int)
  | frz (o : Obj) (u : HO)
  | tbl (ps : Array Value)
  | ext (φ : Heap → Prop)
abbrev Hp := Addr → Option HO
def upd (H : Hp) (a : Addr) (o : HO) : Hp := fun b => if b = a then some o else H b
theorem upd_same {H : Hp} {a : Addr} {o : HO} : upd H a o a = some o := by unfold upd; rw [if_pos rfl]
theorem upd_ne {H : Hp} {a b : Addr} {o : HO} (h : b ≠ a) : upd H a o b = H b := by unfold upd; rw [if_neg h]
theorem ne_of {H : Hp} {a b : Addr} {o u : HO} (h : H a = some o) (h' : H b = some u) (d : o ≠ u) : a ≠ b := by
  intro e; subst e; rw [h] at h'; exact d (Option.some.inj h')
theorem ne_of_none {H : Hp} {a b : Addr} {o : HO} (h : H a = some o) (h' : H b = none) : a ≠ b := by
  intro e; subst e; rw [h] at h'; cases h'
section
variable (P : Program) (w : World)
def ObjOk (H : Hp) (h : Heap) (a : Addr) : HO → Prop
  | .lst xs => xs.length ≤ sizeLine ∧ ∃ (its : List Value) (n : Nat), Vals xs its ∧ h.get? a = some { cls := .type "list", data := .seq its.toArray n }
  | .tup xs => xs.length ≤ sizeLine ∧ ∃ its : List Value, Vals xs its ∧ IsTup h a its.toArray
  | .dK kvs => kvs.length ≤ sizeLine ∧ (a == sysModules) = false ∧ ∃ vs, KV kvs vs ∧ h.DictOf (mixKind P w) a vs
  | .dT kvs => kvs.length ≤ sizeLine ∧ (a == sysModules) = false ∧ ∃ xs : List (List Key × Addr × Value),
      Paired (fun (p : List Key × V) (q : List Key × Addr × Value) => p.1 = q.1 ∧ H q.2.1 = some (.tup (p.1.map kV)) ∧ RelV p.2 q.2.2) kvs xs ∧
      ∃ o es ep, h.get? a = some o ∧ o.ExactDict ∧ o.data = .dict es ep ∧ es.toList = xs.map (entryOfKey (tupleKind (mixKind P w))) ∧ (xs.map (·.1)).Nodup
  | .set S n => h.SetOf (intKind P w) a S n
  | .ins C dx fs => H dx = some (.own a) ∧ fs.length ≤ 1000 ∧ dx ≠ a ∧ h.get? a = some (PySem.W.instObj C dx) ∧
      ∃ mA, h.Ns1 dx mA ∧ (∀ f, RelO (fs.lookup f) (mA f)) ∧ PySem.Within mA (fs.map (·.1))
  | .own _ => ∃ o, h.get? a = some o
  | .xd fs => ∃ mA, h.Ns1 a mA ∧ ∀ f, RelO (fs.lookup f) (mA f)
  | .rng lo hi => ∃ t u v, h.get? a = some { cls := .type "range", data := .fields #[.int lo t, .int hi u, .int 1 v] }
  | .frz o u => h.get? a = some o ∧ ObjOk H h a u
  | .tbl ps => h.get? a = some { cls := .none, data := .fields ps }
  | .met f x => h.get? a = some (PySem.W.methodObj (.ref f) (.ref x))
  | .ext φ => φ h ∧ (∃ o, h.get? a = some o) ∧ ∀ h1 h2 : Heap, φ h1 → (∀ o, h1.get? a = some o → h2.get? a = some o) → φ h2
def HOk (H : Hp) (h : Heap) : Prop := ∀ a o, H a = some o → ObjOk P w H h a o
end
section
variable {P : Program} {w : World} {H H' : Hp} {h h' : Heap} {a : Addr} {o : HO}
theorem ObjOk.lt (x : ObjOk P w H h a o) : a < h.objs.size := by
  cases o with
  | lst xs => obtain ⟨_, _, _, _, e⟩ := x; exact Heap.lt_size e
  | tup xs => obtain ⟨_, _, _, p⟩ := x; exact p.lt
  | dK kvs => obtain ⟨_, _, _, _, o, _, _, e, _⟩ := x; exact Heap.lt_size e
  | dT kvs => obtain ⟨_, _, _, _, o, _, _, e, _⟩ := x; exact Heap.lt_size e
  | set S n => obtain ⟨o, _, _, _, e, _⟩ := x; exact Heap.lt_size e
  | ins C dx fs => obtain ⟨_, _, _, e, _⟩ := x; exact Heap.lt_size e
  | own y => obtain ⟨_, e⟩ := x; exact Heap.lt_size e
  | xd fs => obtain ⟨_, ⟨_, _, _, e, _⟩, _⟩ := x; exact Heap.lt_size e
  | rng lo hi => obtain ⟨_, _, _, e⟩ := x; exact Heap.lt_size e
  | frz ob u => obtain ⟨e, _⟩ := x; exact Heap.lt_size e
  | tbl ps => exact Heap.lt_size (show h.get? a = some _ from x)
  | met f y => exact Heap.lt_size (show h.get? a = some _ from x)
  | ext φ => obtain ⟨_, ⟨_, e⟩, _⟩ := x; exact Heap.lt_size e
theorem Paired.mapP {α β : Type} {F G : α → β → Prop} : ∀ {l₁ : List α} {l₂ : List β}, Paired F l₁ l₂ → (∀ a b, F a b → G a b) → Paired G l₁ l₂
  | _, _, .nil, _ => .nil
  | _, _, .cons r t, f => .cons (f _ _ r) (Paired.mapP t f)
theorem ObjOk.stay (x : ObjOk P w H h a o) (k : ∀ b u, (b = a ∨ H b = some (.own a)) → h.get? b = some u → h'.get? b = some u)
    (ho : ∀ b, H b = some (.own a) → H' b = some (.own a)) (ht : ∀ b xs, H b = some (.tup xs) → H' b = some (.tup xs)) : ObjOk P w H' h' a o := by
  induction o with
  | lst xs => obtain ⟨z, its, n, r, e⟩ := x; exact ⟨z, its, n, r, k _ _ (.inl rfl) e⟩
  | tup xs => obtain ⟨z, its, r, ob, e, c⟩ := x; exact ⟨z, its, r, ob, k _ _ (.inl rfl) e, c⟩
  | dK kvs => obtain ⟨z, y, vs, r, ob, es, ep, e, c⟩ := x; exact ⟨z, y, vs, r, ob, es, ep, k _ _ (.inl rfl) e, c⟩
  | dT kvs =>
    obtain ⟨z, y, xs, r, ob, es, ep, e, c⟩ := x
    exact ⟨z, y, xs, Paired.mapP r fun p q z => ⟨z.1, ht _ _ z.2.1, z.2.2⟩, ob, es, ep, k _ _ (.inl rfl) e, c⟩
  | set S n => obtain ⟨ob, es, ep, t, e, c⟩ := x; exact ⟨ob, es, ep, t, k _ _ (.inl rfl) e, c⟩
  | ins C dx fs =>
    obtain ⟨d, z, ne, e, mA, ⟨od, es, ep, e2, c⟩, r⟩ := x
    exact ⟨ho _ d, z, ne, k _ _ (.inl rfl) e, mA, ⟨od, es, ep, k _ _ (.inr d) e2, c⟩, r⟩
  | own y => obtain ⟨ob, e⟩ := x; exact ⟨ob, k _ _ (.inl rfl) e⟩
  | xd fs => obtain ⟨mA, ⟨od, es, ep, e, c⟩, r⟩ := x; exact ⟨mA, ⟨od, es, ep, k _ _ (.inl rfl) e, c⟩, r⟩
  | rng lo hi => obtain ⟨t, u, v, e⟩ := x; exact ⟨t, u, v, k _ _ (.inl rfl) e⟩
  | frz ob u ih => obtain ⟨e, q⟩ := x; exact ⟨k _ _ (.inl rfl) e, ih q⟩
  | tbl ps =>
    have e : h.get? a = some { cls := .none, data := .fields ps } := x
    show h'.get? a = some { cls := .none, data := .fields ps }
    exact k a _ (.inl rfl) e
  | met f y =>
    have e : h.get? a = some (PySem.W.methodObj (.ref f) (.ref y)) := x
    show h'.get? a = some (PySem.W.methodObj (.ref f) (.ref y))
    exact k a _ (.inl rfl) e
  | ext φ => obtain ⟨p, ⟨o, e⟩, st⟩ := x; exact ⟨st _ _ p fun o q => k _ _ (.inl rfl) q, ⟨o, k _ _ (.inl rfl) e⟩, st⟩
theorem HOk.lt (x : HOk P w H h) (e : H a = some o) : a < h.objs.size := (x a o e).lt
theorem HOk.fresh (x : HOk P w H h) (e : h.objs.size ≤ a) : H a = none := by
  cases q : H a with
  | none => rfl
  | some u => exact absurd (Nat.lt_of_lt_of_le (x.lt q) e) (Nat.lt_irrefl _)
theorem HOk.kept (x : HOk P w H h) (k : ∀ b u, h.get? b = some u → h'.get? b = some u) : HOk P w H h' := fun a o e =>
  (x a o e).stay (fun b u _ q => k b u q) (fun _ q => q) fun _ _ q => q
theorem HOk.laid (x : HOk P w H h) (k : ∀ b u, h.get? b = some u → h'.get? b = some u) (hp : h.objs.size ≤ a) (new : ObjOk P w (upd H a o) h' a o) : HOk P w (upd H a o) h' := fun b u e => by
  have hn := x.fresh hp
  by_cases hb : b = a
  · subst hb; rw [upd_same] at e; cases e; exact new
  · rw [upd_ne hb] at e
    exact (x b u e).stay (fun c v _ q => k c v q) (fun c q => by rw [upd_ne (ne_of_none q hn)]; exact q) fun c xs q => by rw [upd_ne (ne_of_none q hn)]; exact q
end
def Rd (H : Hp) (a : Addr) (u : HO) : Prop := H a = some u ∨ ∃ o, H a = some (.frz o u)
theorem Rd.ok {P : Program} {w : World} {H : Hp} {h : Heap} {a : Addr} {u : HO} (r : Rd H a u) (x : HOk P w H h) : ObjOk P w H h a u := by
  rcases r with r | ⟨o, r⟩
  · exact x a u r
  · obtain ⟨_, q⟩ := x a _ r
    exact q
def Mut : Option HO → Prop
  | some (.lst _) => True
  | some (.dK _) => True
  | some (.dT _) => True
  | some (.set _ _) => True
  | some (.ins _ _ _) => True
  | some (.ext _) => True
  | _ => False
section
variable {P : Program} {w : World} {H : Hp} {h h' : Heap} {x e : Addr} {o' : HO}
theorem HOk.write (ok : HOk P w H h) (mu : Mut (H x)) (he : e = x ∨ H e = some (.own x)) (k : ∀ b u, b ≠ e → h.get? b = some u → h'.get? b = some u) (heo : ∃ u, h'.get? e = some u)
    (new : ObjOk P w (upd H x o') h' x o') : HOk P w (upd H x o') h' := fun b u q => by
  have nown : ∀ c y, H c = some (.own y) → c ≠ x := fun c y r z => by subst z; rw [r] at mu; exact mu
  have ntup : ∀ c xs, H c = some (.tup xs) → c ≠ x := fun c xs r z => by subst z; rw [r] at mu; exact mu
  by_cases hb : b = x
  · subst hb; rw [upd_same] at q; cases q; exact new
  · rw [upd_ne hb] at q
    by_cases hbe : b = e
    · have q' : H b = some (.own x) := by
        rcases he with z | z
        · exact absurd (hbe.trans z) hb
        · rw [hbe]; exact z
      rw [q] at q'; cases q'
      obtain ⟨v, hv⟩ := heo
      exact ⟨v, by rw [hbe]; exact hv⟩
    · refine (ok b u q).stay (fun c v hc r => k c v ?_ r) (fun c r => by rw [upd_ne (nown c b r)]; exact r) fun c xs r => by rw [upd_ne (ntup c xs r)]; exact r
      rcases hc with rfl | hc
      · exact hbe
      · rintro rfl
        rcases he with z | z
        · exact nown c b hc z
        · rw [hc] at z; cases z; exact hb rfl
end
structure Un (fs ex : List Addr) (H H' : Hp) (h h' : Heap) : Prop where
  keep : ∀ b o, h.get? b = some o → H b = none → b ∉ fs → b ∉ ex → h'.get? b = some o
  slot : ∀ b o, h.get? b = some o → H b = none → b ∈ fs → b ∉ ex → ∃ sl, h'.get? b = some { o with slots := sl }
  free : ∀ b o, h.get? b = some o → H b = none → b ∉ ex → H' b = none
  there : ∀ b o, h.get? b = some o → b ∉ ex → ∃ o', h'.get? b = some o'
  tups : ∀ b xs, H b = some (.tup xs) → H' b = some (.tup xs)
  frzs : ∀ b o u, H b = some (.frz o u) → H' b = some (.frz o u)
  tbls : ∀ b ps, H b = some (.tbl ps) → ∃ more, H' b = some (.tbl (ps ++ more))
section
variable {fs fs' ex ex' : List Addr} {H H1 H2 : Hp} {h h1 h2 h' : Heap} {a x e : Addr} {o : HO}
theorem Un.any (u : Un fs ex H H1 h h1) {b : Addr} {ob : Obj} (q : h.get? b = some ob) (n : H b = none) (hx : b ∉ ex) : ∃ sl, h1.get? b = some { ob with slots := sl } := by
  by_cases hb : b ∈ fs
  · exact u.slot b ob q n hb hx
  · exact ⟨ob.slots, u.keep b ob q n hb hx⟩
theorem Un.kept (k : ∀ b u, h.get? b = some u → h'.get? b = some u) : Un fs ex H H h h' :=
  ⟨fun b ob q _ _ _ => k b ob q, fun b ob q _ _ _ => ⟨ob.slots, k b ob q⟩, fun _ _ _ n _ => n, fun b ob q _ => ⟨ob, k b ob q⟩, fun _ _ q => q, fun _ _ _ q => q, fun _ ps q => ⟨#[], by rw [q]; simp⟩⟩
theorem Un.refl : Un fs ex H H h h := Un.kept fun _ _ q => q
theorem Un.laid (k : ∀ b u, h.get? b = some u → h'.get? b = some u) (hp : h.objs.size ≤ a) (hn : H a = none) : Un fs ex H (upd H a o) h h' where
  keep := fun b u q _ _ _ => k b u q
  slot := fun b u q _ _ _ => ⟨u.slots, k b u q⟩
  free := fun b u q n _ => by rw [upd_ne (Nat.ne_of_lt (Nat.lt_of_lt_of_le (Heap.lt_size q) hp))]; exact n
  there := fun b u q _ => ⟨u, k b u q⟩
  tups := fun b xs q => by rw [upd_ne (ne_of_none q hn)]; exact q
  frzs := fun b u xs q => by rw [upd_ne (ne_of_none q hn)]; exact q
  tbls := fun b ps q => ⟨#[], by rw [upd_ne (ne_of_none q hn), q]; simp⟩
theorem Un.write (mu : Mut (H x)) (he : e = x ∨ H e = some (.own x)) (k : ∀ b u, b ≠ e → h.get? b = some u → h'.get? b = some u) (heo : ∃ u, h'.get? e = some u) : Un fs ex H (upd H x o) h h' := by
  have hx : ∀ b, H b = none → b ≠ x := fun b n z => by subst z; rw [n] at mu; exact mu
  have hb : ∀ b, H b = none → b ≠ e := fun b n z => by
    subst z
    rcases he with r | r
    · exact hx b n r
    · rw [n] at r; cases r
  have hm : ∀ b u, H b = some u → ¬ Mut (some u) → b ≠ x := fun b u q nm z => by subst z; rw [q] at mu; exact nm mu
  refine ⟨fun b u q n _ _ => k b u (hb b n) q, fun b u q n _ _ => ⟨u.slots, k b u (hb b n) q⟩, fun b u q n _ => by rw [upd_ne (hx b n)]; exact n, fun b u q _ => ?_,
    fun b xs q => by rw [upd_ne (hm b _ q fun z => z)]; exact q, fun b u xs q => by rw [upd_ne (hm b _ q fun z => z)]; exact q, fun b ps q => ⟨#[], by rw [upd_ne (hm b _ q fun z => z), q]; simp⟩⟩
  by_cases hbe : b = e
  · subst hbe; exact heo
  · exact ⟨u, k b u hbe q⟩
end
def trk (h : Heap) (H : Hp) : List Addr := (List.range h.objs.size).filter fun a => (H a).isSome
def hidT (h : Heap) (H : Hp) : Heap := PySem.W.hideAll h (trk h H)
theorem hidT_size (h : Heap) (H : Hp) : (hidT h H).objs.size = h.objs.size := PySem.W.hideAll_size _ _
theorem hidT_get {h : Heap} {H : Hp} {b : Addr} {o : Obj} (e : h.get? b = some o) (n : H b = none) : (hidT h H).get? b = some o :=
  PySem.W.hideAll_get _ e fun hm => by
    have q : (H b).isSome = true := (List.mem_filter.mp hm).2
    rw [n] at q; simp at q
theorem of_hidT {h : Heap} {H : Hp} {b : Addr} {o : Obj} (e : (hidT h H).get? b = some o) : h.get? b = some o ∧ H b = none := by
  have e' : h.get? b = some o := PySem.W.of_hideAll (trk h H) e
  refine ⟨e', ?_⟩
  cases q : H b with
  | none => rfl
  | some x =>
    have hm : b ∈ trk h H := List.mem_filter.mpr ⟨List.mem_range.mpr (Heap.lt_size e'), by simp [q]⟩
    have z : (hidT h H).get? b = none := PySem.W.hideAll_none (trk h H) hm
    rw [z] at e; cases e
end L2
namespace L2
open PySem PySem.Spec PyProof.Rows
structure Mod (K : PySem.W.Frag) (mg : Str → Option Value) (base : Heap) : Prop where
  kin : K.In base
  glob : base.Ns mainGlobals mg
  blt : ∃ mb, base.Ns builtinsNs mb ∧ ∀ x : Str, x ≠ "__name__" → mb x = bootBuiltins x
  nolimit : base.NoLimit
structure Cx where
  prog : Program
  w : World
  K : PySem.W.Frag
  mg : Str → Option Value
  base : Heap
  A : Around
  N : List Str
  s₀ : Shared
  H₀ : Hp
  env : Env
  outer : List Env
  stack : List Env
  ex : List Addr
  fn : Str → Bool
  calm : Bool
  pn : List (Addr × Obj)
  xe : Value → Shared → Prop
def frs (l : List Env) : List Addr := l.filterMap (·.frame)
abbrev Cx.fs (X : Cx) : List Addr := frs X.outer
def Vis (sc : Scope) (x : Str) : Prop := sc.names.lookup x = some .local ∨ sc.names.lookup x = some .cell ∨ sc.names.lookup x = some .free
def Loc (sc : Scope) (x : Str) : Prop := sc.names.lookup x = some .local ∨ sc.names.lookup x = some .cell
def Look (env : Env) (h : Heap) (m : Str → Option Value) (x : Str) (u : Value) : Prop :=
  (env.kindOf x = some .local ∧ m x = some u) ∨ ((env.kindOf x = some .cell ∨ env.kindOf x = some .free) ∧ ∃ c, env.cells.lookup x = some c ∧ h.IsCell c (some u))
structure Cx.Ok (X : Cx) : Prop where
  mod : Mod X.K X.mg X.base
  kind : X.env.scope.kind = .function
  glob : X.env.globals = mainGlobals
  blt : X.env.builtins = builtinsNs
  above : X.s₀.heap.objs.size ≤ X.env.locals
  inj : ∀ x y c, X.env.cells.lookup x = some c → X.env.cells.lookup y = some c → x = y
  has : ∀ x, (X.env.kindOf x = some .cell ∨ X.env.kindOf x = some .free) → ∃ c, X.env.cells.lookup x = some c
  cab : ∀ x c, X.fn x = true → X.env.cells.lookup x = some c → X.s₀.heap.objs.size ≤ c
  hd : X.calm = true → X.A.handled = none
  frames : X.A.frames = some X.stack
  stk : X.stack = X.outer ∨ (X.stack = X.env :: X.outer ∧ X.env.frame = some X.env.locals)
  exf : ∀ b ∈ X.ex, b ≠ X.env.locals ∧ ∀ x c, X.env.cells.lookup x = some c → c ≠ b
  bs : ∀ b o, X.base.get? b = some o → X.s₀.heap.get? b = some o ∧ X.H₀ b = none
  bsz : X.base.objs.size ≤ X.s₀.heap.objs.size
  noex : ∀ b o, X.base.get? b = some o → b ∉ X.ex
  exfs : ∀ b ∈ X.ex, b ∉ X.fs
  funs : X.s₀.heap.FunFrames X.base X.outer
  frf : ∀ b ∈ X.fs, X.H₀ b = none
structure Inv (X : Cx) (pins : List (Addr × Obj)) (σ : List (Option V)) (H : Hp) (s : Shared) : Prop where
  ok : X.Ok
  os : s.os = X.s₀.os
  bare : AllBare s.gens
  base : Un X.fs X.ex X.H₀ H X.s₀.heap s.heap
  loc : ∃ m, s.heap.Ns X.env.locals m ∧ ∀ (i : Nat) (x : Str) (v : V), X.N[i]? = some x → σ[i]? = some (some v) → Vis X.env.scope x → ∃ u, RelV v u ∧ Look X.env s.heap m x u
  cell : ∀ x c, X.env.cells.lookup x = some c → ∃ v, s.heap.IsCell c v
  free : H X.env.locals = none
  freeC : ∀ x c, X.env.cells.lookup x = some c → H c = none
  pin : ∀ p ∈ X.pn ++ pins, s.heap.get? p.1 = some p.2 ∧ H p.1 = none ∧ p.1 ≠ X.env.locals ∧ p.1 ∉ X.fs ∧ ∀ v, p.2.data ≠ .cell v
  hok : HOk X.prog X.w H s.heap
  len : σ.length = X.N.length
section
variable {X : Cx} {pins : List (Addr × Obj)} {σ : List (Option V)} {H H' : Hp} {s : Shared} {h' : Heap}
theorem Cx.Ok.nofr (ok : X.Ok) {b : Addr} {o : Obj} (e : X.base.get? b = some o) : b ∉ X.fs := fun hb => by
  have := (ok.funs.mem hb).1
  rw [e] at this; cases this
theorem Inv.bs (I : Inv X pins σ H s) : ∀ b o, X.base.get? b = some o → s.heap.get? b = some o ∧ H b = none := fun b o e =>
  ⟨I.base.keep b o (I.ok.bs b o e).1 (I.ok.bs b o e).2 (I.ok.nofr e) (I.ok.noex b o e), I.base.free b o (I.ok.bs b o e).1 (I.ok.bs b o e).2 (I.ok.noex b o e)⟩
theorem Inv.bk (I : Inv X pins σ H s) : ∀ b o, X.base.get? b = some o → s.heap.get? b = some o := fun b o e => (I.bs b o e).1
theorem Inv.mod (I : Inv X pins σ H s) : Mod X.K X.mg X.base := I.ok.mod
theorem Inv.kIn (I : Inv X pins σ H s) : X.K.In s.heap := I.ok.mod.kin.keeps I.bk
theorem Inv.lt (I : Inv X pins σ H s) : X.env.locals < s.heap.objs.size := let ⟨_, hn, _⟩ := I.loc; hn.lt
theorem Inv.sz (I : Inv X pins σ H s) : X.s₀.heap.objs.size ≤ s.heap.objs.size := Nat.le_trans I.ok.above (Nat.le_of_lt I.lt)
theorem Inv.nofs (I : Inv X pins σ H s) {a : Addr} (h : s.heap.objs.size ≤ a) : a ∉ X.fs := fun hb => by
  obtain ⟨_, o, ho, _⟩ := I.ok.funs.mem hb
  exact absurd (Nat.lt_of_lt_of_le (Heap.lt_size ho) (Nat.le_trans I.sz h)) (Nat.lt_irrefl _)
theorem Inv.cne (I : Inv X pins σ H s) : ∀ x c, X.env.cells.lookup x = some c → c ≠ X.env.locals := fun x c e z => by
  obtain ⟨v, o, ho, hd⟩ := I.cell x c e
  obtain ⟨m, ⟨o', es, ep, ho', hd', _⟩, _⟩ := I.loc
  rw [z, ho'] at ho; cases ho; rw [hd'] at hd; cases hd
theorem Inv.funs (I : Inv X pins σ H s) : s.heap.FunFrames X.base X.outer := by
  have all : ∀ (l : List Env), (∀ b ∈ frs l, b ∈ X.fs) → X.s₀.heap.FunFrames X.base l → s.heap.FunFrames X.base l := by
    intro l
    induction l with
    | nil => intro _ _; trivial
    | cons env r ih =>
      intro hs hl
      obtain ⟨hk, ⟨L, o, hf, hn, ho, hd⟩, hr⟩ := hl
      have hL : L ∈ X.fs := hs L (by unfold frs; rw [List.filterMap_cons, hf]; exact List.mem_cons_self)
      obtain ⟨sl, e⟩ := I.base.slot L o ho (I.ok.frf L hL) hL fun z => I.ok.exfs L z hL
      exact ⟨hk, ⟨L, _, hf, hn, e, hd⟩, ih (fun b hb => hs b (by unfold frs; rw [List.filterMap_cons, hf]; exact List.mem_cons_of_mem _ hb)) hr⟩
  exact all X.outer (fun _ hb => hb) I.ok.funs
theorem Inv.stack (I : Inv X pins σ H s) : s.heap.FunFrames X.base X.stack := by
  rcases I.ok.stk with e | ⟨e, hf⟩
  · rw [e]; exact I.funs
  · rw [e]
    obtain ⟨m, hn, _⟩ := I.loc
    refine .cons (by rw [I.ok.kind]; decide) hf hn ?_ I.funs
    exact Heap.get?_none_of_le (Nat.le_trans I.ok.bsz I.ok.above)
theorem Inv.stkSub (I : Inv X pins σ H s) : ∀ b ∈ frs X.stack, b ∈ X.env.locals :: X.fs := fun b hb => by
  rcases I.ok.stk with e | ⟨e, hf⟩
  · rw [e] at hb; exact List.mem_cons_of_mem _ hb
  · rw [e] at hb
    unfold frs at hb
    rw [List.filterMap_cons, hf] at hb
    exact hb
theorem Inv.stkFree (I : Inv X pins σ H s) : ∀ b ∈ frs X.stack, H b = none := fun b hb => by
  rcases List.mem_cons.mp (I.stkSub b hb) with e | hb
  · rw [e]; exact I.free
  · obtain ⟨_, o, ho, _⟩ := I.ok.funs.mem hb
    exact I.base.free b o ho (I.ok.frf b hb) fun z => I.ok.exfs b z hb
theorem Inv.step {g' : Array GenState} {t' : Nat} {d' : Drawn} {ch : List Addr} (I : Inv X pins σ H s)
    (hch : ∀ b ∈ ch, (b ∈ X.ex ∨ X.s₀.heap.objs.size ≤ b) ∧ b ≠ X.env.locals ∧ (∀ x c, X.env.cells.lookup x = some c → c ≠ b) ∧ ∀ p ∈ X.pn ++ pins, p.1 ≠ b)
    (keep : ∀ b o, b ≠ X.env.locals → b ∉ X.fs → b ∉ ch → s.heap.get? b = some o → H b = none → h'.get? b = some o)
    (slot : ∀ b o, b ≠ X.env.locals → b ∈ X.fs → b ∉ ch → s.heap.get? b = some o → H b = none → ∃ sl, h'.get? b = some { o with slots := sl }) (free : ∀ b o, b ∉ ch → s.heap.get? b = some o → H b = none → H' b = none)
    (there : ∀ b o, b ∉ ch → s.heap.get? b = some o → ∃ o', h'.get? b = some o')
    (tups : ∀ b xs, H b = some (.tup xs) → H' b = some (.tup xs)) (frzs : ∀ b o u, H b = some (.frz o u) → H' b = some (.frz o u)) (tbls : ∀ b ps, H b = some (.tbl ps) → ∃ more, H' b = some (.tbl (ps ++ more)))
    (ns : ∀ m, s.heap.Ns X.env.locals m → h'.Ns X.env.locals m) (hok : HOk X.prog X.w H' h') (hg : AllBare g') :
    Inv X pins σ H' { s with heap := h', gens := g', drawn := d', toks := t' } := by
  have neL : ∀ b o, X.s₀.heap.get? b = some o → b ≠ X.env.locals := fun b o e => Nat.ne_of_lt (Nat.lt_of_lt_of_le (Heap.lt_size e) I.ok.above)
  have neC : ∀ b o, X.s₀.heap.get? b = some o → b ∉ X.ex → b ∉ ch := fun b o e hx hb => by
    rcases (hch b hb).1 with z | z
    · exact hx z
    · exact absurd (Nat.lt_of_lt_of_le (Heap.lt_size e) z) (Nat.lt_irrefl _)
  have cellK : ∀ x c, X.env.cells.lookup x = some c → ∀ v, s.heap.IsCell c v → h'.IsCell c v := fun x c e v ⟨o, ho, hd⟩ => by
    have nch : c ∉ ch := fun z => (hch c z).2.2.1 x c e rfl
    by_cases hc : c ∈ X.fs
    · obtain ⟨sl, q⟩ := slot c o (I.cne x c e) hc nch ho (I.freeC x c e)
      exact ⟨_, q, hd⟩
    · exact ⟨o, keep c o (I.cne x c e) hc nch ho (I.freeC x c e), hd⟩
  refine ⟨I.ok, I.os, hg, ⟨fun b o e n hb hx => ?_, fun b o e n hb hx => ?_, fun b o e n hx => ?_, fun b o e hx => ?_, fun b xs e => tups b xs (I.base.tups b xs e), fun b o xs e => frzs b o xs (I.base.frzs b o xs e), fun b ps e => ?_⟩, ?_, fun x c e => ?_, ?_, fun x c e => ?_, fun p hp => ?_, hok, I.len⟩
  · exact keep b o (neL b o e) hb (neC b o e hx) (I.base.keep b o e n hb hx) (I.base.free b o e n hx)
  · obtain ⟨sl, e1⟩ := I.base.slot b o e n hb hx
    obtain ⟨sl', e2⟩ := slot b _ (neL b o e) hb (neC b o e hx) e1 (I.base.free b o e n hx)
    exact ⟨sl', e2⟩
  · obtain ⟨o', e1⟩ := I.base.there b o e hx
    exact free b o' (neC b o e hx) e1 (I.base.free b o e n hx)
  · obtain ⟨o', e1⟩ := I.base.there b o e hx
    exact there b o' (neC b o e hx) e1
  · obtain ⟨m1, e1⟩ := I.base.tbls b ps e
    obtain ⟨m2, e2⟩ := tbls b _ e1
    exact ⟨m1 ++ m2, by rw [e2, Array.append_assoc]⟩
  · obtain ⟨m, hn, hl⟩ := I.loc
    refine ⟨m, ns m hn, fun i x v e1 e2 e3 => ?_⟩
    obtain ⟨u, r, l⟩ := hl i x v e1 e2 e3
    refine ⟨u, r, ?_⟩
    rcases l with l | ⟨k, c, e, z⟩
    · exact .inl l
    · exact .inr ⟨k, c, e, cellK x c e _ z⟩
  · obtain ⟨v, z⟩ := I.cell x c e
    exact ⟨v, cellK x c e v z⟩
  · obtain ⟨m, ⟨o, _, _, ho, _⟩, _⟩ := I.loc
    exact free _ o (fun z => (hch _ z).2.1 rfl) ho I.free
  · obtain ⟨v, o, ho, hd⟩ := I.cell x c e
    exact free c o (fun z => (hch c z).2.2.1 x c e rfl) ho (I.freeC x c e)
  · obtain ⟨e, n, ne, nf, d⟩ := I.pin p hp
    have nch : p.1 ∉ ch := fun z => (hch p.1 z).2.2.2 p hp rfl
    exact ⟨keep p.1 p.2 ne nf nch e n, free p.1 p.2 nch e n, ne, nf, d⟩
theorem Inv.un {t' : Nat} (I : Inv X pins σ H s) (u : Un X.fs [] H H' s.heap h') (hok : HOk X.prog X.w H' h') : Inv X pins σ H' { s with heap := h', toks := t' } := by
  obtain ⟨m, ⟨o, es, ep, ho, r⟩, _⟩ := id I.loc
  obtain ⟨sl, hL⟩ := u.any ho I.free (by simp)
  exact I.step (g' := s.gens) (d' := s.drawn) (ch := []) (fun _ z => nomatch z) (fun b o _ hb _ e n => u.keep b o e n hb (by simp)) (fun b o _ hb _ e n => u.slot b o e n hb (by simp)) (fun b o _ e n => u.free b o e n (by simp)) (fun b o _ e => u.there b o e (by simp)) u.tups u.frzs u.tbls (fun m' hm => by
    obtain ⟨o', es', ep', ho', r'⟩ := hm
    rw [ho] at ho'; cases ho'
    exact ⟨_, es', ep', hL, r'⟩) hok I.bare
theorem Inv.call {g' : Array GenState} {t' : Nat} {d' : Drawn} {ch : List Addr} (I : Inv X pins σ H s) (u : Un (frs X.stack) ch H H' s.heap h') (hok : HOk X.prog X.w H' h') (hg : AllBare g')
    (hch : ∀ b ∈ ch, (b ∈ X.ex ∨ X.s₀.heap.objs.size ≤ b) ∧ b ≠ X.env.locals ∧ (∀ x c, X.env.cells.lookup x = some c → c ≠ b) ∧ ∀ p ∈ X.pn ++ pins, p.1 ≠ b) :
    Inv X pins σ H' { s with heap := h', gens := g', drawn := d', toks := t' } := by
  obtain ⟨m, ⟨o, es, ep, ho, r⟩, _⟩ := id I.loc
  obtain ⟨sl, hL⟩ := u.any ho I.free fun z => (hch _ z).2.1 rfl
  exact I.step (ch := ch) hch (fun b o hL hb hc e n => u.keep b o e n (fun z => (List.mem_cons.mp (I.stkSub b z)).elim hL hb) hc) (fun b o _ _ hc e n => u.any e n hc) (fun b o hc e n => u.free b o e n hc) (fun b o hc e => u.there b o e hc) u.tups u.frzs u.tbls (fun m' hm => by
    obtain ⟨o', es', ep', ho', r'⟩ := hm
    rw [ho] at ho'; cases ho'
    exact ⟨_, es', ep', hL, r'⟩) hok hg
theorem Inv.turned {t' : Nat} {it : Addr} (I : Inv X pins σ H s) (k : ∀ b o, b ≠ it → s.heap.get? b = some o → h'.get? b = some o) (hn : H it = none) (hL : it ≠ X.env.locals)
    (h1 : it ∈ X.ex ∨ X.s₀.heap.objs.size ≤ it) (h2 : ∀ x c, X.env.cells.lookup x = some c → c ≠ it) (h3 : ∀ p ∈ X.pn ++ pins, p.1 ≠ it) : Inv X pins σ H { s with heap := h', toks := t' } := by
  have nit : ∀ b u, H b = some u → b ≠ it := fun b u e z => by rw [z, hn] at e; cases e
  refine I.step (g' := s.gens) (d' := s.drawn) (ch := [it]) (fun b hb => ?_) (fun b o _ _ hc e _ => k b o (fun z => hc (by simp [z])) e) (fun b o _ _ hc e _ => ⟨o.slots, k b o (fun z => hc (by simp [z])) e⟩) (fun _ _ _ _ n => n)
    (fun b o hc e => ⟨o, k b o (fun z => hc (by simp [z])) e⟩) (fun _ _ e => e) (fun _ _ _ e => e) (fun b ps e => ⟨#[], by rw [e]; simp⟩) (fun m hm => ?_) (fun b u e => ?_) I.bare
  · have e : b = it := by simpa using hb
    subst e
    exact ⟨h1, hL, h2, h3⟩
  · obtain ⟨o, es, ep, ho, r⟩ := hm
    exact ⟨o, es, ep, k _ o (Ne.symm hL) ho, r⟩
  · refine (I.hok b u e).stay (fun c v hc q => k c v ?_ q) (fun _ q => q) fun _ _ q => q
    rcases hc with z | z
    · rw [z]; exact nit b u e
    · exact nit c _ z
theorem Inv.tok (I : Inv X pins σ H s) (t : Nat) : Inv X pins σ H { s with toks := t } := I.un (h' := s.heap) (t' := t) Un.refl I.hok
theorem Inv.kept {t' : Nat} (I : Inv X pins σ H s) (k : ∀ b u, s.heap.get? b = some u → h'.get? b = some u) : Inv X pins σ H { s with heap := h', toks := t' } := I.un (Un.kept k) (I.hok.kept k)
theorem Inv.laid {a : Addr} {o : HO} {t' : Nat} (I : Inv X pins σ H s) (k : ∀ b u, s.heap.get? b = some u → h'.get? b = some u) (hp : s.heap.objs.size ≤ a) (new : ObjOk X.prog X.w (upd H a o) h' a o) :
    Inv X pins σ (upd H a o) { s with heap := h', toks := t' } := I.un (Un.laid k hp (I.hok.fresh hp)) (I.hok.laid k hp new)
theorem Inv.write {x e : Addr} {o : HO} {t' : Nat} (I : Inv X pins σ H s) (mu : Mut (H x)) (he : e = x ∨ H e = some (.own x)) (k : ∀ b u, b ≠ e → s.heap.get? b = some u → h'.get? b = some u) (heo : ∃ u, h'.get? e = some u)
    (new : ObjOk X.prog X.w (upd H x o) h' x o) : Inv X pins σ (upd H x o) { s with heap := h', toks := t' } := I.un (Un.write mu he k heo) (I.hok.write mu he k heo new)
theorem Inv.pins_of {pins' : List (Addr × Obj)} (I : Inv X pins σ H s) (h : ∀ p ∈ pins', s.heap.get? p.1 = some p.2 ∧ H p.1 = none ∧ p.1 ≠ X.env.locals ∧ p.1 ∉ X.fs ∧ ∀ v, p.2.data ≠ .cell v) : Inv X pins' σ H s :=
  ⟨I.ok, I.os, I.bare, I.base, I.loc, I.cell, I.free, I.freeC, fun p hp => (List.mem_append.mp hp).elim (fun z => I.pin p (List.mem_append_left _ z)) (h p), I.hok, I.len⟩
theorem nodup_ix {N : List Str} (hN : N.Nodup) {i j : Nat} {x : Str} (a : N[i]? = some x) (b : N[j]? = some x) : i = j := by
  obtain ⟨h1, e1⟩ := List.getElem?_eq_some_iff.mp a
  obtain ⟨h2, e2⟩ := List.getElem?_eq_some_iff.mp b
  exact (List.getElem_inj hN).mp (e1.trans e2.symm)
theorem store_ok2 {M : Model} {A : Around} {E : Value → Shared → Prop} {i : Nat} {x : Str} {v : V} {u : Value} {Q : Unit → Shared → Prop} (I : Inv X pins σ H s) (hN : X.N.Nodup) (hi : X.N[i]? = some x) (hx : Loc X.env.scope x) (r : RelV v u)
    (h : ∀ s', Inv X pins (σ.set i (some v)) H s' → (∃ a, Heap.SameBut a s.heap s'.heap ∧ (a = X.env.locals ∨ X.env.cells.lookup x = some a)) → Q () s') (hf : X.fn x = true ∨ X.env.scope.names.lookup x = some .local := by first | exact .inl rfl | exact .inr rfl | assumption) : wpAny M A (storeName X.env x u) Q E s := by
  obtain ⟨m, hn, hl⟩ := id I.loc
  have hcls : (X.env.scope.kind == .class || (X.env.scope.kind == .module && X.env.locals != X.env.globals)) = false := by rw [I.ok.kind]; rfl
  have hiσ : i < σ.length := by rw [I.len]; exact (List.getElem?_eq_some_iff.mp hi).1
  have cne := I.cne
  have tracked : ∀ {a : Addr} {h' : Heap}, (∃ o, s.heap.get? a = some o ∧ H a = none) → Heap.SameBut a s.heap h' → HOk X.prog X.w H h' := fun {a h'} ha hs b ob e => by
    obtain ⟨_, _, hfree⟩ := ha
    refine (I.hok b ob e).stay (fun c w' hc q => (hs.2 c ?_).trans q) (fun _ q => q) fun _ _ q => q
    rintro rfl
    rcases hc with rfl | hc
    · rw [hfree] at e; cases e
    · rw [hfree] at hc; cases hc
  rcases hx with hk | hk
  · refine wpAny_storeName_local hk hn (fun h' hn' hs => ?_) hcls
    obtain ⟨oL, _, _, hoL, _⟩ := id hn
    refine h _ ⟨I.ok, I.os, I.bare, ⟨fun b o e n hb hx => ?_, fun b o e n hb hx => ?_, I.base.free, fun b o e hx => ?_, I.base.tups, I.base.frzs, I.base.tbls⟩, ⟨_, hn', fun j y v' e1 e2 e3 => ?_⟩, fun y c e => ?_, I.free, I.freeC, fun p hp => ?_, tracked ⟨oL, hoL, I.free⟩ hs, by simpa using I.len⟩ ⟨_, hs, .inl rfl⟩
    · exact (hs.2 b (Nat.ne_of_lt (Nat.lt_of_lt_of_le (Heap.lt_size e) I.ok.above))).trans (I.base.keep b o e n hb hx)
    · obtain ⟨sl, e1⟩ := I.base.slot b o e n hb hx
      exact ⟨sl, (hs.2 b (Nat.ne_of_lt (Nat.lt_of_lt_of_le (Heap.lt_size e) I.ok.above))).trans e1⟩
    · obtain ⟨o', e1⟩ := I.base.there b o e hx
      exact ⟨o', (hs.2 b (Nat.ne_of_lt (Nat.lt_of_lt_of_le (Heap.lt_size e) I.ok.above))).trans e1⟩
    · by_cases hj : j = i
      · subst hj
        rw [hi] at e1; cases e1
        rw [List.getElem?_set_self hiσ] at e2
        cases e2
        exact ⟨u, r, .inl ⟨hk, by simp⟩⟩
      · rw [List.getElem?_set_ne (Ne.symm hj)] at e2
        obtain ⟨u', r', q⟩ := hl j y v' e1 e2 e3
        refine ⟨u', r', ?_⟩
        rcases q with ⟨k, e⟩ | ⟨k, c, e, z⟩
        · refine .inl ⟨k, ?_⟩
          have : y ≠ x := fun e => hj (nodup_ix hN e1 (e ▸ hi))
          simp [this, e]
        · exact .inr ⟨k, c, e, z.sameBut hs (cne y c e)⟩
    · obtain ⟨w', z⟩ := I.cell y c e
      exact ⟨w', z.sameBut hs (cne y c e)⟩
    · obtain ⟨e, n, ne, nf, d⟩ := I.pin p hp
      exact ⟨(hs.2 p.1 ne).trans e, n, ne, nf, d⟩
  · have hfn : X.fn x = true := by
      rcases hf with z | z
      · exact z
      · rw [z] at hk; cases hk
    obtain ⟨c, hc⟩ := I.ok.has x (.inl hk)
    obtain ⟨w', z⟩ := I.cell x c hc
    refine wpAny_storeName_cell I.ok.kind hk hc z (fun h' hc' hs => ?_)
    obtain ⟨oc, hoc, hocd⟩ := id z
    refine h { s with heap := h' } ⟨I.ok, I.os, I.bare, ⟨fun b o e n hb hx => ?_, fun b o e n hb hx => ?_, I.base.free, fun b o e hx => ?_, I.base.tups, I.base.frzs, I.base.tbls⟩, ⟨m, hn.sameBut hs (Ne.symm (cne x c hc)), fun j y v' e1 e2 e3 => ?_⟩, fun y c' e => ?_, I.free, I.freeC, fun p hp => ?_, tracked ⟨oc, hoc, I.freeC x c hc⟩ hs, by simpa using I.len⟩ ⟨c, hs, .inr hc⟩
    · exact (hs.2 b (Nat.ne_of_lt (Nat.lt_of_lt_of_le (Heap.lt_size e) (I.ok.cab x c hfn hc)))).trans (I.base.keep b o e n hb hx)
    · obtain ⟨sl, e1⟩ := I.base.slot b o e n hb hx
      exact ⟨sl, (hs.2 b (Nat.ne_of_lt (Nat.lt_of_lt_of_le (Heap.lt_size e) (I.ok.cab x c hfn hc)))).trans e1⟩
    · obtain ⟨o', e1⟩ := I.base.there b o e hx
      exact ⟨o', (hs.2 b (Nat.ne_of_lt (Nat.lt_of_lt_of_le (Heap.lt_size e) (I.ok.cab x c hfn hc)))).trans e1⟩
    · by_cases hj : j = i
      · subst hj
        rw [hi] at e1; cases e1
        rw [List.getElem?_set_self hiσ] at e2
        cases e2
        exact ⟨u, r, .inr ⟨.inl hk, c, hc, hc'⟩⟩
      · rw [List.getElem?_set_ne (Ne.symm hj)] at e2
        obtain ⟨u', r', q⟩ := hl j y v' e1 e2 e3
        refine ⟨u', r', ?_⟩
        rcases q with q | ⟨k, c', e, z'⟩
        · exact .inl q
        · refine .inr ⟨k, c', e, z'.sameBut hs ?_⟩
          rintro rfl
          exact hj (nodup_ix hN e1 (I.ok.inj _ _ _ e hc ▸ hi))
    · by_cases hcc : c' = c
      · subst hcc; exact ⟨_, hc'⟩
      · obtain ⟨w2, z2⟩ := I.cell y c' e
        exact ⟨w2, z2.sameBut hs hcc⟩
    · obtain ⟨e, n, ne, nf, d⟩ := I.pin p hp
      refine ⟨(hs.2 p.1 ?_).trans e, n, ne, nf, d⟩
      intro q
      rw [q, hoc] at e
      have q' : oc = p.2 := Option.some.inj e
      exact d w' (by rw [← q']; exact hocd)
theorem store_ok {M : Model} {A : Around} {E : Value → Shared → Prop} {i : Nat} {x : Str} {v : V} {u : Value} {Q : Unit → Shared → Prop} (I : Inv X pins σ H s) (hN : X.N.Nodup) (hi : X.N[i]? = some x) (hx : Loc X.env.scope x) (r : RelV v u)
    (h : ∀ s', Inv X pins (σ.set i (some v)) H s' → Q () s') (hf : X.fn x = true ∨ X.env.scope.names.lookup x = some .local := by first | exact .inl rfl | exact .inr rfl | assumption) : wpAny M A (storeName X.env x u) Q E s :=
  store_ok2 I hN hi hx r (fun s' I' _ => h s' I') hf
theorem Inv.call' {s' : Shared} {ch : List Addr} (I : Inv X pins σ H s) (ho : s'.os = s.os) (u : Un (frs X.stack) ch H H' s.heap s'.heap) (hok : HOk X.prog X.w H' s'.heap) (hg : AllBare s'.gens)
    (hch : ∀ b ∈ ch, (b ∈ X.ex ∨ X.s₀.heap.objs.size ≤ b) ∧ b ≠ X.env.locals ∧ (∀ x c, X.env.cells.lookup x = some c → c ≠ b) ∧ ∀ p ∈ X.pn ++ pins, p.1 ≠ b) : Inv X pins σ H' s' := by
  obtain ⟨h', g', d', t', o'⟩ := s'
  have e : o' = s.os := ho
  subst e
  exact I.call (g' := g') (t' := t') (d' := d') u hok hg hch
end
abbrev XK := Value → Option Addr → Hp → Prop
abbrev St := List (Option V)
abbrev VK := V → Hp → Prop
abbrev TE := St → Hp → VK → Prop
abbrev TT := St → Hp → (Bool → Hp → Prop) → Prop
abbrev TA := St → Hp → (List V → Hp → Prop) → Prop
structure Ends where
  nx : St → Hp → Prop
  rt : VK
  bk : St → Hp → Prop := fun _ _ => False
  ct : St → Hp → Prop := fun _ _ => False
abbrev TS := Ends → St → Hp → Prop
def EP (X : Cx) (pins : List (Addr × Obj)) (σ : St) (Q : VK) (u : Value) (s' : Shared) : Prop := ∃ v H', Inv X pins σ H' s' ∧ RelV v u ∧ Q v H'
def TP (X : Cx) (pins : List (Addr × Obj)) (σ : St) (Q : Bool → Hp → Prop) (b : Bool) (s' : Shared) : Prop := ∃ H', Inv X pins σ H' s' ∧ Q b H'
def AP (X : Cx) (pins : List (Addr × Obj)) (σ : St) (Q : List V → Hp → Prop) (us : List Value) (s' : Shared) : Prop := ∃ vs H', Inv X pins σ H' s' ∧ Vals vs us ∧ Q vs H'
def SP (X : Cx) (pins : List (Addr × Obj)) (D : Ends) (f : Flow) (s' : Shared) : Prop :=
  match f with
  | .next => ∃ σ' H', Inv X pins σ' H' s' ∧ D.nx σ' H'
  | .brk => ∃ σ' H', Inv X pins σ' H' s' ∧ D.bk σ' H'
  | .cont => ∃ σ' H', Inv X pins σ' H' s' ∧ D.ct σ' H'
  | .ret u => ∃ v σ' H', Inv X pins σ' H' s' ∧ RelV v u ∧ D.rt v H'
def PE (X : Cx) (e : Expr) (t : TE) : Prop :=
  ∀ (pins : List (Addr × Obj)) (s : Shared) (σ : St) (H : Hp) (Q : VK), Inv X pins σ H s → t σ H Q → wpAny (model X.prog X.w) X.A (eval e X.env) (EP X pins σ Q) X.xe s
def PT (X : Cx) (e : Expr) (t : TT) : Prop :=
  ∀ (pins : List (Addr × Obj)) (s : Shared) (σ : St) (H : Hp) (Q : Bool → Hp → Prop), Inv X pins σ H s → t σ H Q → wpAny (model X.prog X.w) X.A (isTrue e X.env (eval e X.env)) (TP X pins σ Q) X.xe s
def PW (X : Cx) (e : Expr) (t : TT) : Prop :=
  ∀ (whole : Sem Value) (pins : List (Addr × Obj)) (s : Shared) (σ : St) (H : Hp) (Q : Bool → Hp → Prop), Inv X pins σ H s → t σ H Q → wpAny (model X.prog X.w) X.A (isTrue e X.env whole) (TP X pins σ Q) X.xe s
theorem PW.pt {X : Cx} {e : Expr} {t : TT} (h : PW X e t) : PT X e t := h _
def PA (X : Cx) (es : List Expr) (t : TA) : Prop :=
  ∀ (pos : Pos) (pins : List (Addr × Obj)) (s : Shared) (σ : St) (H : Hp) (Q : List V → Hp → Prop), Inv X pins σ H s → t σ H Q → wpAny (model X.prog X.w) X.A (spliced (backTo pos (starEach es X.env))) (AP X pins σ Q) X.xe s
def PS (X : Cx) (st : Stmt) (t : TS) : Prop :=
  ∀ (pins : List (Addr × Obj)) (s : Shared) (σ : St) (H : Hp) (D : Ends), Inv X pins σ H s → t D σ H → wpAny (model X.prog X.w) X.A (exec st X.env) (SP X pins D) X.xe s
def PSs (X : Cx) (st : List Stmt) (t : TS) : Prop :=
  ∀ (pins : List (Addr × Obj)) (s : Shared) (σ : St) (H : Hp) (D : Ends), Inv X pins σ H s → t D σ H → wpAny (model X.prog X.w) X.A (execs st X.env) (SP X pins D) X.xe s
theorem thn {α : Type} {t : Sem α} {Q Q' : α → Shared → Prop} {M : Model} {A : Around} {E : Value → Shared → Prop} {s : Shared} (h : wpAny M A t Q E s) (hQ : ∀ a s, Q a s → Q' a s) : wpAny M A t Q' E s := wpAny_mono h hQ fun _ _ x => x
end L2
namespace L2
open PySem PySem.Spec PyProof.Rows
section
variable {X : Cx}
theorem bin {a b : Expr} {ta tb : TE} (ha : PE X a ta) (hb : PE X b tb) {pins : List (Addr × Obj)} {s : Shared} {σ : St} {H : Hp} {R : V → V → Hp → Prop} (I : Inv X pins σ H s) (h : ta σ H fun x H1 => tb σ H1 fun y H2 => R x y H2)
    {α : Type} {Q : α → Shared → Prop} {f : Value → Value → Sem α}
    (hf : ∀ v u s2 x y H2, Inv X pins σ H2 s2 → RelV x v → RelV y u → R x y H2 → wpAny (model X.prog X.w) X.A (f v u) Q X.xe s2) :
    wpAny (model X.prog X.w) X.A (eval a X.env) (fun v s₁ => wpAny (model X.prog X.w) X.A (eval b X.env) (fun u s₂ => wpAny (model X.prog X.w) X.A (f v u) Q X.xe s₂) X.xe s₁) X.xe s := by
  refine thn (ha pins s σ H _ I h) fun v s1 ⟨x, H1, I1, r1, q1⟩ => ?_
  refine thn (hb pins s1 σ H1 _ I1 q1) fun u s2 ⟨y, H2, I2, r2, q2⟩ => ?_
  exact hf v u s2 x y H2 I2 r1 r2 q2
def tVar (i : Nat) : TE := fun σ H Q => ∃ v, σ[i]? = some (some v) ∧ Q v H
def tC (v : V) : TE := fun _ H Q => Q v H
theorem pe_var {i : Nat} {x : Str} {pos : Pos} (hN : X.N[i]? = some x) (hv : Vis X.env.scope x) (hd : (x == ("__debug__" : Str)) = false := by decide) (hcd : (x == ("__classdict__" : Str)) = false := by decide) : PE X (.Name x pos) (tVar i) := by
  intro pins s σ H Q I h
  obtain ⟨v, e, h⟩ := h
  obtain ⟨m, hn, hl⟩ := I.loc
  obtain ⟨u, r, l⟩ := hl i x v hN e hv
  have fin : EP X pins σ Q u s := ⟨v, H, I, r, h⟩
  rcases l with ⟨hk, hm⟩ | ⟨hk, c, hc, hcell⟩
  · exact wpAny_Name (wpAny_loadName_local I.ok.kind hk hn hm fin) hd
  · rcases hk with hk | hk
    · exact wpAny_Name (wpAny_loadName_cell I.ok.kind hk hc hcell fin) hd
    · exact wpAny_Name (wpAny_loadName_free I.ok.kind hk hc hcell fin hcd) hd
theorem pe_int {i j pos} : PE X (.Constant (.int i) j pos) (tC (.int i)) := fun _ _ _ H _ I h => wpAny_Constant_int ⟨.int i, H, I.tok _, ⟨_, rfl⟩, h⟩
theorem pe_bl {b j pos} : PE X (.Constant (.bool b) j pos) (tC (.bl b)) := fun _ _ _ H _ I h => Constant_bool ⟨.bl b, H, I, rfl, h⟩
theorem pe_non {j pos} : PE X (.Constant .none j pos) (tC .non) := fun _ _ _ H _ I h => Constant_none ⟨.non, H, I, rfl, h⟩
theorem pe_str {x j pos} : PE X (.Constant (.str x) j pos) (tC (.str x)) := fun _ _ _ H _ I h => Calls.Constant_str ⟨.str x, H, I.tok _, ⟨_, rfl⟩, h⟩
def Gl (X : Cx) (x : Str) : Prop := X.env.kindOf x = some .globalImplicit
theorem ld_glob {E : Value → Shared → Prop} {pins : List (Addr × Obj)} {s : Shared} {σ : St} {H : Hp} {x : Str} {u : Value} {pos : Pos} {Q : Value → Shared → Prop} (I : Inv X pins σ H s) (hg : Gl X x) (hm : X.mg x = some u) (h : Q u s)
    (hd : (x == ("__debug__" : Str)) = false := by decide) : wpAny (model X.prog X.w) X.A (eval (.Name x pos) X.env) Q E s :=
  Calls.Name_function_global I.ok.kind hg (Calls.loadGlobal_global (by rw [I.ok.glob]; exact I.mod.glob.keeps I.bk) hm h) hd
theorem ld_blt {E : Value → Shared → Prop} {pins : List (Addr × Obj)} {s : Shared} {σ : St} {H : Hp} {x : Str} {u : Value} {pos : Pos} {Q : Value → Shared → Prop} (I : Inv X pins σ H s) (hg : Gl X x) (hm : X.mg x = none) (hv : bootBuiltins x = some u) (h : Q u s)
    (hn : x ≠ "__name__" := by decide) (hd : (x == ("__debug__" : Str)) = false := by decide) : wpAny (model X.prog X.w) X.A (eval (.Name x pos) X.env) Q E s := by
  obtain ⟨mb, h1, h2⟩ := I.mod.blt
  exact Calls.Name_function_global I.ok.kind hg (Calls.loadGlobal_builtin (by rw [I.ok.glob]; exact I.mod.glob.keeps I.bk) hm (by rw [I.ok.blt]; exact h1.keeps I.bk) ((h2 x hn).trans hv) h) hd
theorem pe_glob {x : Str} {v : V} {u : Value} {pos : Pos} (hg : Gl X x) (hm : X.mg x = some u) (r : RelV v u) (hd : (x == ("__debug__" : Str)) = false := by decide) : PE X (.Name x pos) (tC v) :=
  fun _ _ _ H _ I h => ld_glob I hg hm ⟨v, H, I, r, h⟩ hd
theorem pe_bltn {x : Str} {v : V} {u : Value} {pos : Pos} (hg : Gl X x) (hm : X.mg x = none) (hv : bootBuiltins x = some u) (r : RelV v u) (hn : x ≠ "__name__" := by decide) (hd : (x == ("__debug__" : Str)) = false := by decide) : PE X (.Name x pos) (tC v) :=
  fun _ _ _ H _ I h => ld_blt I hg hm hv ⟨v, H, I, r, h⟩ hn hd
variable {a b : Expr} {ta tb : TE} {pos : Pos}
def PC (X : Cx) (op : CmpOp) (a b : Expr) (t : TE) : Prop :=
  ∀ (pins : List (Addr × Obj)) (s : Shared) (σ : St) (H : Hp) (Q : VK), Inv X pins σ H s → t σ H Q →
    wpAny (model X.prog X.w) X.A (eval a X.env) (fun v s₁ => wpAny (model X.prog X.w) X.A (eval b X.env) (fun u s₂ => wpAny (model X.prog X.w) X.A (compareOp op v u) (EP X pins σ Q) X.xe s₂) X.xe s₁) X.xe s
def tB (t : TE) : TT := fun σ H Q => t σ H fun x H1 => ∃ c, x = .bl c ∧ Q c H1
theorem pt_cmp {op : CmpOp} {t : TE} (h : PC X op a b t) (h1 : behindInMarks op b = false := by first | exact nobehind _ (by decide) (by decide) | rfl) : PT X (.Compare a [op] [b] pos) (tB t) := by
  intro pins s σ H Q I hw
  refine wpAny_isTrue_Compare1 (thn (h pins s σ H _ I hw) fun v s1 h1 => thn h1 fun u s2 h2 => thn h2 fun c s3 ⟨x, H1, I1, r1, q1⟩ => ?_) h1
  obtain ⟨d, rfl, q⟩ := q1
  cases r1
  exact wpAny_truthy_bool ⟨H1, I1, q⟩
theorem pt_val {e : Expr} {t : TE} (h : PE X e t) (he : ∀ whole, isTrue e X.env whole = (do let v ← whole; standAt e.pos; holding [v] (truthy v)) := by intro _; rfl) : PT X e (tB t) := by
  intro pins s σ H Q I hw
  refine isTrue_plain (thn (h pins s σ H _ I hw) fun v s1 ⟨x, H1, I1, r1, q1⟩ => ?_) (he _)
  obtain ⟨d, rfl, q⟩ := q1
  cases r1
  exact wpAny_truthy_bool ⟨H1, I1, q⟩
variable {tA tB' : TT} {rest : List Expr}
def tOr (t u : TT) : TT := fun σ H Q => t σ H fun c H1 => if c = true then Q true H1 else u σ H1 Q
def tNot (t : TT) : TT := fun σ H Q => t σ H fun c H1 => Q (!c) H1
theorem pw_or1 (ha : PT X a tA) : PW X (.BoolOp .Or [a] pos) tA := by
  intro wh pins s σ H Q I h
  refine isTrue_or (thn (ha pins s σ H Q I h) fun c s1 e => ?_)
  cases c with
  | false => exact isTrue_or_nil e
  | true => exact e
theorem pw_or (ha : PT X a tA) (hb : PW X (.BoolOp .Or (b :: rest) pos) tB') : PW X (.BoolOp .Or (a :: b :: rest) pos) (tOr tA tB') := by
  intro wh pins s σ H Q I h
  refine isTrue_or (thn (ha pins s σ H _ I h) fun c s1 ⟨H1, I1, q1⟩ => ?_)
  cases c with
  | true => exact ⟨H1, I1, q1⟩
  | false => exact hb wh pins s1 σ H1 Q I1 q1
theorem pt_not (ha : PT X a tA) : PT X (.UnaryOp .Not a pos) (tNot tA) := by
  intro pins s σ H Q I h
  exact isTrue_not (ha pins s σ H (fun c H1 => Q (!c) H1) I h)
def tAndV (ta tb : TE) : TE := fun σ H Q => ta σ H fun x H1 => ∃ c, x = .bl c ∧ if c = true then tb σ H1 Q else Q (.bl false) H1
def tNotV (ta : TE) : TE := fun σ H Q => ta σ H fun x H1 => ∃ c, x = .bl c ∧ Q (.bl (!c)) H1
theorem pe_one {op} {t : TE} (h : PE X a t) : PE X (.BoolOp op [a] pos) t := fun pins s σ H Q I hw => BoolOp_one (h pins s σ H Q I hw)
theorem pe_and (ha : PE X a ta) (hb : PE X (.BoolOp .And (b :: rest) pos) tb) : PE X (.BoolOp .And (a :: b :: rest) pos) (tAndV ta tb) := by
  intro pins s σ H Q I h
  refine BoolOp_and (thn (ha pins s σ H _ I h) fun v s1 ⟨x, H1, I1, r1, q1⟩ => ?_)
  obtain ⟨c, rfl, q1⟩ := q1
  cases r1
  refine wpAny_truthy_bool ?_
  cases c with
  | true => exact hb pins s1 σ H1 Q I1 q1
  | false => exact ⟨.bl false, H1, I1, rfl, q1⟩
theorem pe_not (ha : PE X a ta) : PE X (.UnaryOp .Not a pos) (tNotV ta) := by
  intro pins s σ H Q I h
  refine UnaryOp_ (thn (ha pins s σ H _ I h) fun v s1 ⟨x, H1, I1, r1, q1⟩ => ?_)
  obtain ⟨c, rfl, q1⟩ := q1
  cases r1
  exact not_of (wpAny_truthy_bool ⟨.bl (!c), H1, I1, rfl, q1⟩)
end
end L2
namespace L2
open PySem PySem.Spec PyProof.Rows
def SqL (K : PySem.W.Frag) (H : Hp) (a : Addr) (xs : List V) : Prop :=
  Rd H a (.lst xs) ∨
    ∃ (o : Obj) (its : Array Value) (n : Nat), K.lookup a = some o ∧ o.cls = .type "list" ∧ o.dict = none ∧ o.data = .seq its n ∧ its.size ≤ sizeLine ∧ Vals xs its.toList
def SqT (K : PySem.W.Frag) (H : Hp) (a : Addr) (xs : List V) : Prop :=
  Rd H a (.tup xs) ∨
    ∃ (o : Obj) (its : Array Value) (n : Nat), K.lookup a = some o ∧ o.cls = .type "tuple" ∧ o.data = .seq its n ∧ its.size ≤ sizeLine ∧ Vals xs its.toList
def absV : Value → Option V
  | .none => some .non
  | .bool b => some (.bl b)
  | .int i _ => some (.int i)
  | .str x _ => some (.str x)
  | .bytes b _ => some (.byt b)
  | .float b _ => some (.flt b)
  | .ref a => some (.ref a)
  | .type n => some (.ty n)
  | _ => none
theorem RelV.abs {x : V} {u : Value} (r : RelV x u) : absV u = some x := by
  cases x with
  | non => cases r; rfl
  | bl _ => cases r; rfl
  | int _ => obtain ⟨t, rfl⟩ := r; rfl
  | str _ => obtain ⟨t, rfl⟩ := r; rfl
  | byt _ => obtain ⟨t, rfl⟩ := r; rfl
  | flt _ => obtain ⟨t, rfl⟩ := r; rfl
  | ref _ => cases r; rfl
  | ty _ => cases r; rfl
theorem RelV.inj {x y : V} {u : Value} (r : RelV x u) (q : RelV y u) : x = y := Option.some.inj (r.abs.symm.trans q.abs)
theorem Vals.inj : ∀ {xs ys : List V} {us : List Value}, Vals xs us → Vals ys us → xs = ys
  | _, _, _, .nil, .nil => rfl
  | _, _, _, .cons r t, .cons r' t' => by rw [r.inj r', Vals.inj t t']
section
variable {X : Cx} {pins : List (Addr × Obj)} {σ : St} {H : Hp} {s : Shared} {a : Addr} {xs ys : List V}
theorem SqL.of {K : PySem.W.Frag} (h : H a = some (.lst xs)) : SqL K H a xs := .inl (.inl h)
theorem Inv.list (I : Inv X pins σ H s) (h : SqL X.K H a xs) : ∃ its : List Value, Vals xs its ∧ PlainL s.heap a its.toArray ∧ xs.length ≤ sizeLine := by
  rcases h with h | ⟨o, its, n, hk, hc, hd, hs, hz, r⟩
  · obtain ⟨z, its, n, r, e⟩ := h.ok I.hok
    exact ⟨its, r, ⟨_, n, e, rfl, rfl, rfl⟩, z⟩
  · refine ⟨its.toList, r, ⟨o, n, I.kIn a o hk, hc, hd, by simpa using hs⟩, ?_⟩
    have e := r.length
    simp only [Array.length_toList] at e
    omega
theorem Inv.tuple (I : Inv X pins σ H s) (h : SqT X.K H a xs) : ∃ its : List Value, Vals xs its ∧ IsTup s.heap a its.toArray ∧ xs.length ≤ sizeLine := by
  rcases h with h | ⟨o, its, n, hk, hc, hs, hz, r⟩
  · obtain ⟨z, its, r, p⟩ := h.ok I.hok
    exact ⟨its, r, p, z⟩
  · refine ⟨its.toList, r, ⟨o, I.kIn a o hk, hc, n, by simpa using hs⟩, ?_⟩
    have e := r.length
    simp only [Array.length_toList] at e
    omega
theorem Inv.list_inj (I : Inv X pins σ H s) (h : SqL X.K H a xs) (h' : SqL X.K H a ys) : xs = ys := by
  obtain ⟨its, r, ⟨o, n, e, _, _, d⟩, _⟩ := I.list h
  obtain ⟨its', r', ⟨o', n', e', _, _, d'⟩, _⟩ := I.list h'
  rw [e] at e'; cases e'
  rw [d] at d'
  injection d' with d1 _
  have : its = its' := by simpa using congrArg Array.toList d1
  subst this
  exact r.inj r'
end
abbrev Cx.wish (X : Cx) (E : Value → Shared → Prop) : Cx := { X with xe := E }
abbrev Cx.nox (X : Cx) : Cx := X.wish fun _ _ => False
theorem Cx.Ok.wish {X : Cx} (ok : X.Ok) (E : Value → Shared → Prop) : (X.wish E).Ok :=
  ⟨ok.mod, ok.kind, ok.glob, ok.blt, ok.above, ok.inj, ok.has, ok.cab, ok.hd, ok.frames, ok.stk, ok.exf, ok.bs, ok.bsz, ok.noex, ok.exfs, ok.funs, ok.frf⟩
theorem Cx.Ok.unwish {X : Cx} {E : Value → Shared → Prop} (ok : (X.wish E).Ok) : X.Ok :=
  ⟨ok.mod, ok.kind, ok.glob, ok.blt, ok.above, ok.inj, ok.has, ok.cab, ok.hd, ok.frames, ok.stk, ok.exf, ok.bs, ok.bsz, ok.noex, ok.exfs, ok.funs, ok.frf⟩
section
variable {X : Cx} {pins : List (Addr × Obj)} {σ : St} {H : Hp} {s : Shared} {E : Value → Shared → Prop}
theorem Inv.wish (I : Inv X pins σ H s) (E : Value → Shared → Prop) : Inv (X.wish E) pins σ H s := ⟨I.ok.wish E, I.os, I.bare, I.base, I.loc, I.cell, I.free, I.freeC, I.pin, I.hok, I.len⟩
theorem Inv.unwish (I : Inv (X.wish E) pins σ H s) : Inv X pins σ H s := ⟨I.ok.unwish, I.os, I.bare, I.base, I.loc, I.cell, I.free, I.freeC, I.pin, I.hok, I.len⟩
theorem SP.unwish {D : Ends} {f : Flow} {s' : Shared} (h : SP (X.wish E) pins D f s') : SP X pins D f s' := by
  cases f with
  | next => obtain ⟨σ', H', I, q⟩ := h; exact ⟨σ', H', I.unwish, q⟩
  | brk => obtain ⟨σ', H', I, q⟩ := h; exact ⟨σ', H', I.unwish, q⟩
  | cont => obtain ⟨σ', H', I, q⟩ := h; exact ⟨σ', H', I.unwish, q⟩
  | ret u => obtain ⟨v, σ', H', I, r, q⟩ := h; exact ⟨v, σ', H', I.unwish, r, q⟩
theorem PSs.nox {st : List Stmt} {t : TS} (h : PSs X.nox st t) : PSs X st t := fun pins s σ H D I hw =>
  wpAny_mono (h pins s σ H D (I.wish _) hw) (fun _ _ q => q.unwish) fun _ _ z => False.elim z
end
section
variable {X : Cx} {st : Stmt} {rest : List Stmt} {t u : TS} {e : Expr} {te : TE} {pos : Pos}
def tNext : TS := fun D σ H => D.nx σ H
def tSeq (t u : TS) : TS := fun D σ H => t { D with nx := u D } σ H
theorem pss_nil : PSs X [] tNext := fun _ _ σ H _ I h => wpAny_execs_nil ⟨σ, H, I, h⟩
theorem pss_cons (h1 : PS X st t) (h2 : PSs X rest u) : PSs X (st :: rest) (tSeq t u) := by
  intro pins s σ H D I h
  refine wpAny_execs_cons (thn (h1 pins s σ H { D with nx := u D } I h) fun f s1 q => ?_)
  cases f with
  | next =>
    obtain ⟨σ', H', I', q⟩ := q
    exact h2 pins s1 σ' H' D I' q
  | ret v => exact q
  | brk => exact q
  | cont => exact q
theorem pss_one (h1 : PS X st t) : PSs X [st] t := by
  intro pins s σ H D I h
  refine wpAny_execs_cons (thn (h1 pins s σ H D I h) fun f s1 q => ?_)
  cases f with
  | next => exact wpAny_execs_nil q
  | ret v => exact q
  | brk => exact q
  | cont => exact q
theorem Inv.quiet {pins : List (Addr × Obj)} {σ : St} {H : Hp} {s : Shared} (I : Inv X pins σ H s) : interactive X.env = false := by simp [interactive, I.ok.kind]
def tDrop (te : TE) : TS := fun D σ H => te σ H fun _ H1 => D.nx σ H1
theorem ps_expr (he : PE X e te) (hs : swapsWith e none pos.line X.env = pure false := by rfl) : PS X (.Expr e pos) (tDrop te) := by
  intro pins s σ H D I h
  exact wpAny_Expr_any (thn (he pins s σ H _ I h) fun v s1 ⟨x, H1, I1, r1, q1⟩ => ⟨σ, H1, I1, q1⟩) I.quiet hs
def tRet (te : TE) : TS := fun D σ H => te σ H D.rt
theorem ps_ret (he : PE X e te) : PS X (.Return (some e) pos) (tRet te) := by
  intro pins s σ H D I h
  exact wpAny_Return_some (thn (he pins s σ H _ I h) fun v s1 ⟨x, H1, I1, r1, q1⟩ => ⟨x, σ, H1, I1, r1, q1⟩)
def tIfS (c : TT) (t u : TS) : TS := fun D σ H => c σ H fun b H1 => if b = true then t D σ H1 else u D σ H1
theorem ps_if {c : Expr} {a b : List Stmt} {tc : TT} (hc : PT X c tc) (ha : PSs X a t) (hb : PSs X b u) : PS X (.If c a b pos) (tIfS tc t u) := by
  intro pins s σ H D I h
  refine wpAny_If (thn (hc pins s σ H _ I h) fun d s1 ⟨H1, I1, q1⟩ => ?_)
  cases d with
  | true => exact ha pins s1 σ H1 D I1 q1
  | false => exact hb pins s1 σ H1 D I1 q1
end
abbrev TG := V → St → Hp → (St → Hp → Prop) → Prop
def PG (X : Cx) (target : Expr) (t : TG) : Prop :=
  ∀ (pins : List (Addr × Obj)) (s : Shared) (σ : St) (H : Hp) (v : V) (u : Value) (Q : St → Hp → Prop), Inv X pins σ H s → RelV v u → t v σ H Q →
    wpAny (model X.prog X.w) X.A (assign target X.env u) (fun _ s' => ∃ σ' H', Inv X pins σ' H' s' ∧ Q σ' H') X.xe s
abbrev TSet := V → V → V → Hp → (Hp → Prop) → Prop
def PSet (X : Cx) (t : TSet) : Prop :=
  ∀ (pins : List (Addr × Obj)) (s : Shared) (σ : St) (H : Hp) (o i v : V) (ov iv u : Value) (Q : Hp → Prop), Inv X pins σ H s → RelV o ov → RelV i iv → RelV v u → t o i v H Q →
    wpAny (model X.prog X.w) X.A (setItem ov iv u) (fun _ s' => ∃ H', Inv X pins σ H' s' ∧ Q H') X.xe s
section
variable {X : Cx} {pos : Pos}
def gName (i : Nat) : TG := fun v σ H Q => Q (σ.set i (some v)) H
theorem pg_name {i : Nat} {x : Str} (hN : X.N.Nodup) (hi : X.N[i]? = some x) (hx : Loc X.env.scope x) (hf : X.fn x = true ∨ X.env.scope.names.lookup x = some .local := by first | exact .inl rfl | exact .inr rfl | assumption) : PG X (.Name x pos) (gName i) := by
  intro pins s σ H v u Q I r h
  exact wpAny_assign_Name (store_ok I hN hi hx r (fun s' I' => ⟨_, H, I', h⟩) hf)
def gSub (to ti : TE) (t : TSet) : TG := fun v σ H Q => to σ H fun o H1 => ti σ H1 fun i H2 => t o i v H2 fun H3 => Q σ H3
theorem pg_sub {o i : Expr} {to ti : TE} {t : TSet} (ho : PE X o to) (hi : PE X i ti) (hs : PSet X t)
    (ha : ∀ v, assign (.Subscript o i pos) X.env v = (do
      let ov ← holding [v] (eval o X.env)
      let iv ← holding [v, ov] (eval i X.env)
      standAt pos
      holding [v, ov, iv] (setItem ov iv v)
      release [v, ov, iv] []) := by intro _; rfl) : PG X (.Subscript o i pos) (gSub to ti t) := by
  intro pins s σ H v u Q I r h
  rw [ha]
  refine wpAny_bind (wpAny_holding (thn (ho pins s σ H _ I h) fun ov s1 ⟨x, H1, I1, r1, q1⟩ => ?_))
  refine wpAny_bind (wpAny_holding (thn (hi pins s1 σ H1 _ I1 q1) fun iv s2 ⟨y, H2, I2, r2, q2⟩ => ?_))
  refine wpAny_bind (wpAny_standAt (wpAny_bind (wpAny_holding (thn (hs pins s2 σ H2 x y v ov iv u _ I2 r1 r2 r q2) fun _ s3 ⟨H3, I3, q3⟩ => ?_))))
  exact wpAny_release ⟨σ, H3, I3, q3⟩
def tAsg (te : TE) (g : TG) : TS := fun D σ H => te σ H fun x H1 => g x σ H1 D.nx
theorem ps_asg {tg e : Expr} {te : TE} {g : TG} (he : PE X e te) (hg : PG X tg g) (hs : swapsWithSole [tg] e pos.line X.env = pure false := by rfl) (hw : swappedStores [tg] e X.env = pure none := by rfl)
    (h1 : (assignEach [tg] X.env).map (·.2) = [assign tg X.env] := by rfl) : PS X (.Assign [tg] e pos) (tAsg te g) := by
  intro pins s σ H D I h
  refine wpAny_Assign_stores (thn (he pins s σ H _ I h) fun v s1 ⟨x, H1, I1, r1, q1⟩ => ?_) hs hw
  rw [h1]
  exact thn (hg pins s1 σ H1 x v _ I1 r1 q1) fun _ s2 q => q
theorem ps_set {i : Nat} {x : Str} {e : Expr} {te : TE} {pos' : Pos} (hN : X.N.Nodup) (hi : X.N[i]? = some x) (hx : Loc X.env.scope x) (he : PE X e te) (hs : swapsWith e (some (.Name x pos')) pos.line X.env = pure false := by rfl) (hf : X.fn x = true ∨ X.env.scope.names.lookup x = some .local := by first | exact .inl rfl | exact .inr rfl | assumption) :
    PS X (.Assign [.Name x pos'] e pos) (tAsg te (gName i)) := by
  intro pins s σ H D I h
  refine wpAny_Assign_Name (thn (he pins s σ H _ I h) fun v s1 ⟨y, H1, I1, r1, q1⟩ => ?_) hs
  exact store_ok I1 hN hi hx r1 (fun s2 I2 => ⟨_, H1, I2, q1⟩) hf
end
section
variable {X : Cx} {pos : Pos}
def tWhile (c : TT) (tb : TS) : TS := fun D σ H => ∃ W : Nat → St → Hp → Prop, (∃ m, W m σ H) ∧ ∀ m σ H, W m σ H →
  c σ H fun b H1 => if b = true then ∃ N : St → Hp → Prop, (∀ σ' H', N σ' H' → ∃ m', m' < m ∧ W m' σ' H') ∧ tb { D with nx := N, ct := N, bk := D.nx } σ H1 else D.nx σ H1
theorem ps_while {c : Expr} {body : List Stmt} {tc : TT} {tb : TS} (hp : PassesOwn (model X.prog X.w) X.A X.env X.xe) (hc : PT X c tc) (hb : PSs X body tb) : PS X (.While c body [] pos) (tWhile tc tb) := by
  intro pins s σ H D I h
  obtain ⟨W, ⟨m0, w0⟩, turn⟩ := h
  refine wpAny_While (codeAny_whileLoop (fun n s' => ∃ σ' H', Inv X pins σ' H' s' ∧ W n σ' H') ?_ m0 ⟨σ, H, I, w0⟩)
  rintro n s1 ⟨σ1, H1, I1, w1⟩
  refine wpAny_passesOwn hp (thn (hc pins s1 σ1 H1 _ I1 (turn n σ1 H1 w1)) fun b s2 ⟨H2, I2, q2⟩ => ?_)
  cases b with
  | true =>
    obtain ⟨N, hN, q2⟩ := q2
    rw [if_pos rfl]
    refine wpAny_passesOwn hp (thn (hb pins s2 σ1 H2 _ I2 q2) fun f s3 q3 => ?_)
    cases f with
    | next =>
      obtain ⟨σ3, H3, I3, n3⟩ := q3
      obtain ⟨m', hm, w3⟩ := hN σ3 H3 n3
      exact ⟨m', hm, σ3, H3, I3, w3⟩
    | cont =>
      obtain ⟨σ3, H3, I3, n3⟩ := q3
      obtain ⟨m', hm, w3⟩ := hN σ3 H3 n3
      exact ⟨m', hm, σ3, H3, I3, w3⟩
    | brk => exact q3
    | ret v => exact q3
  | false =>
    rw [if_neg Bool.false_ne_true]
    exact wpAny_execs_nil ⟨σ1, H2, I2, q2⟩
end
structure It where
  go : Nat → Hp → Prop
  yld : Nat → Hp → V → Hp → Prop
  stop : Nat → Hp → Prop
def FpOk (X : Cx) (pins : List (Addr × Obj)) (H : Hp) (b : Addr) : Prop :=
  H b = none ∧ b ≠ X.env.locals ∧ b ∉ X.fs ∧ (b ∈ X.ex ∨ X.s₀.heap.objs.size ≤ b) ∧ (∀ x c, X.env.cells.lookup x = some c → c ≠ b) ∧ ∀ p ∈ X.pn ++ pins, p.1 ≠ b
theorem Inv.fpOk {X : Cx} {pins : List (Addr × Obj)} {σ : St} {H H' : Hp} {s : Shared} {b : Addr} (I : Inv X pins σ H s) (hb : s.heap.objs.size ≤ b) (hn : H' b = none) : FpOk X pins H' b := by
  refine ⟨hn, Nat.ne_of_gt (Nat.lt_of_lt_of_le I.lt hb), I.nofs hb, .inr (Nat.le_trans I.sz hb), fun x c e z => ?_, fun p hp z => ?_⟩
  · obtain ⟨v, q⟩ := I.cell x c e
    exact absurd (Nat.lt_of_lt_of_le q.lt (by rw [z]; exact hb)) (Nat.lt_irrefl _)
  · exact absurd (Nat.lt_of_lt_of_le (Heap.lt_size (I.pin p hp).1) (by rw [z]; exact hb)) (Nat.lt_irrefl _)
structure Turn (P : Program) (w : World) (K : PySem.W.Frag) (tg : Expr) (J : It) (fp : List Addr) (it : Addr) (tn : Nat → Heap → Prop) : Prop where
  mem : it ∈ fp
  obj : ∀ i h, tn i h → ∀ b ∈ fp, ∃ o, h.get? b = some o ∧ ∀ v, o.data ≠ .cell v
  keep : ∀ i h h', tn i h → (∀ b ∈ fp, ∀ o, h.get? b = some o → h'.get? b = some o) → tn i h'
  item : ∀ (X : Cx), X.prog = P → X.w = w → X.K = K → X.calm = true → ∀ (i : Nat) (pins : List (Addr × Obj)) (s : Shared) (σ : St) (H : Hp) (E : Value → Shared → Prop), Inv X pins σ H s → (∀ b ∈ fp, FpOk X pins H b) → tn i s.heap → J.go i H →
    wpAny (model P w) X.A (pyNext (.ref it)) (fun r s1 => ∃ u, r = some u ∧
      wpAny (model P w) X.A (letOwnedTupleGo tg (.ref it) u) (fun _ s2 => ∃ x H', Inv X pins σ H' s2 ∧ RelV x u ∧ J.yld i H x H' ∧ tn (i + 1) s2.heap ∧ ∀ b ∈ fp, H' b = none) E s1) E s
  done : ∀ (X : Cx), X.prog = P → X.w = w → X.K = K → X.calm = true → ∀ (i : Nat) (pins : List (Addr × Obj)) (s : Shared) (σ : St) (H : Hp) (E : Value → Shared → Prop), Inv X pins σ H s → (∀ b ∈ fp, FpOk X pins H b) → tn i s.heap → J.stop i H →
    wpAny (model P w) X.A (pyNext (.ref it)) (fun r s1 => r = none ∧ Inv X pins σ H s1) E s
  self : ∀ (A : Around) (i : Nat) (s : Shared) (Q : Value → Shared → Prop) (E : Value → Shared → Prop), tn i s.heap → Q (.ref it) s → wpAny (model P w) A (pyIter (.ref it)) Q E s
abbrev TI := St → Hp → (It → Hp → Prop) → Prop
def PIE (X : Cx) (pins : List (Addr × Obj)) (σ : St) (tg : Expr) (R : It → Hp → Prop) (itv : Value) (s2 : Shared) : Prop :=
  ∃ (it : Addr) (fp : List Addr) (tn : Nat → Heap → Prop) (J : It) (H' : Hp), itv = .ref it ∧ Inv X pins σ H' s2 ∧ Turn X.prog X.w X.K tg J fp it tn ∧ tn 0 s2.heap ∧ (∀ b ∈ fp, FpOk X pins H' b) ∧ R J H'
def PI (X : Cx) (tg iter : Expr) (wi : TI) : Prop :=
  ∀ (pins : List (Addr × Obj)) (s : Shared) (σ : St) (H : Hp) (R : It → Hp → Prop), Inv X pins σ H s → wi σ H R →
    wpAny (model X.prog X.w) X.A (eval iter X.env) (fun v s1 => wpAny (model X.prog X.w) X.A (pyIter v) (PIE X pins σ tg R) X.xe s1) X.xe s
theorem go_of {M : Model} {A : Around} {E : Value → Shared → Prop} {s : Shared} {tg : Expr} {it : Addr} {u : Value} {o : Obj} {n : String} {vs : Array Value} {Q : Unit → Shared → Prop} (ho : s.heap.get? it = some o) (hc : o.cls = .type n) (hd : o.data = .fields vs)
    (hn : ["enumerate", "zip", "dict_itemiterator", "dict_reverseitemiterator", "odict_iterator", "itertools.zip_longest", "itertools.pairwise"].contains n = false) (hQ : Q () s) : wpAny M A (letOwnedTupleGo tg (.ref it) u) Q E s := by
  unfold letOwnedTupleGo
  cases tg <;> first
    | exact wpAny_pure hQ
    | (cases u <;> first
        | exact wpAny_pure hQ
        | (refine wpAny_bind (wpAny_load ho ?_)
           rw [hc, hd]
           show wpAny M A (if (["enumerate", "zip", "dict_itemiterator", "dict_reverseitemiterator", "odict_iterator", "itertools.zip_longest", "itertools.pairwise"].contains n && vs[0]? == some (rawInt _)) = true then _ else _) Q E s
           rw [if_neg (by intro h; rw [hn, Bool.false_and] at h; cases h)]
           exact wpAny_pure hQ))
def Itl (K : PySem.W.Frag) (a : Addr) : It :=
  ⟨fun i H => ∃ xs x, SqL K H a xs ∧ xs[i]? = some x, fun i H x H' => H' = H ∧ ∀ xs, SqL K H a xs → xs[i]? = some x, fun i H => ∃ xs, SqL K H a xs ∧ xs.length ≤ i⟩
def Itr (lo : Int) (n : Nat) : It := ⟨fun i _ => i < n, fun i H x H' => H' = H ∧ x = .int (lo + i), fun i _ => n ≤ i⟩
theorem turn_list {P : Program} {w : World} {K : PySem.W.Frag} {tg : Expr} (a it : Addr) : Turn P w K tg (Itl K a) [it] it (fun i h => h.IsListIter it a i) where
  mem := by simp
  obj := fun i h st b hb => by
    have e : b = it := by simpa using hb
    subst e
    obtain ⟨o, e, c, d⟩ := st
    exact ⟨o, e, fun v z => by rw [d] at z; cases z⟩
  keep := fun i h h' st k => st.at fun o e => k it (by simp) o e
  item := by
    intro X hP hw hK hc i pins s σ H E I hf st hg
    subst hP hw hK
    obtain ⟨xs, x, hq, hx⟩ := hg
    obtain ⟨its, rv, p, hz⟩ := I.list hq
    obtain ⟨u, hu, ru⟩ := rv.get hx
    obtain ⟨f0, f1, f2, f3, f4, f5⟩ := hf it (by simp)
    refine wpAny_pyNext_list_item st p.isList (x := u) (by simpa using hu) fun h' st' sb => ?_
    have I1 : Inv X pins σ H { s with heap := h' } := I.turned (t' := s.toks) (fun b o hb e => (sb.2 b hb).trans e) f0 f1 f3 f4 f5
    obtain ⟨o, e, c, d⟩ := id st'
    exact ⟨u, rfl, go_of (s := { s with heap := h' }) e c d (by decide) ⟨x, H, I1, ru, ⟨rfl, fun ys hy => by rw [I.list_inj hy hq]; exact hx⟩, st', fun b hb => (hf b hb).1⟩⟩
  done := by
    intro X hP hw hK hc i pins s σ H E I hf st hg
    subst hP hw hK
    obtain ⟨xs, hq, hx⟩ := hg
    obtain ⟨its, rv, p, hz⟩ := I.list hq
    obtain ⟨f0, f1, f2, f3, f4, f5⟩ := hf it (by simp)
    have hl := rv.length
    exact wpAny_pyNext_list_end (I.ok.hd hc) st p.isList (by simp; omega) fun h' eb => ⟨rfl, I.turned (t' := s.toks) (fun b o hb e => eb b o hb e) f0 f1 f3 f4 f5⟩
  self := fun _ _ _ _ _ st h => wpAny_pyIter_listiter st h
theorem turn_range {P : Program} {w : World} {K : PySem.W.Frag} {tg : Expr} (it : Addr) (lo : Int) (n : Nat) : Turn P w K tg (Itr lo n) [it] it (fun i h => IsRangeIter h it (lo + (i : Nat) * 1) ((n : Int) - (i : Nat)) 1) where
  mem := by simp
  obj := fun i h st b hb => by
    have e : b = it := by simpa using hb
    subst e
    exact ⟨_, st, fun v z => by
      have z' : Data.fields _ = Data.cell v := z
      cases z'⟩
  keep := fun i h h' st k => k it (by simp) _ st
  item := by
    intro X hP hw hK hc i pins s σ H E I hf st hg
    subst hP hw hK
    obtain ⟨f0, f1, f2, f3, f4, f5⟩ := hf it (by simp)
    have W := Walks.range (prog := X.prog) (w := X.w) (I.ok.hd hc) it lo 1 n
    refine W.item i s _ _ hg st fun v h' tk hv st' kk => ?_
    obtain ⟨t, rfl⟩ := hv
    have I1 : Inv X pins σ H { s with heap := h', toks := tk } := I.turned (fun b o hb e => kk b o (by simpa using hb) e) f0 f1 f3 f4 f5
    refine ⟨_, rfl, go_of (s := { s with heap := h', toks := tk }) (n := "range_iterator") st' rfl rfl (by decide) ⟨.int (lo + i), H, I1, ⟨t, ?_⟩, ⟨rfl, rfl⟩, st', fun b hb => (hf b hb).1⟩⟩
    rw [Int.mul_one]
  done := by
    intro X hP hw hK hc i pins s σ H E I hf st hg
    subst hP hw hK
    obtain ⟨f0, f1, f2, f3, f4, f5⟩ := hf it (by simp)
    exact wpAny_pyNext_range_end (I.ok.hd hc) st (by have : n ≤ i := hg; omega) fun h' eb => ⟨rfl, I.turned (t' := s.toks) (fun b o hb e => eb b o hb e) f0 f1 f3 f4 f5⟩
  self := fun _ _ _ _ _ st h => wpAny_pyIter_rangeiter st h
end L2
namespace L2
open PySem PySem.Spec PyProof.Rows
section
variable {X : Cx} {tg : Expr}
def iList (K : PySem.W.Frag) (tl : TE) : TI := fun σ H R => tl σ H fun x H1 => ∃ a, x = .ref a ∧ (∃ xs, SqL K H1 a xs) ∧ R (Itl K a) H1
theorem pi_list {l : Expr} {tl : TE} (hl : PE X l tl) : PI X tg l (iList X.K tl) := by
  intro pins s σ H R I h
  refine thn (hl pins s σ H _ I h) fun v s1 ⟨x, H1, I1, r1, q1⟩ => ?_
  obtain ⟨a, e, ⟨xs, hq⟩, q⟩ := q1
  subst e
  cases r1
  obtain ⟨its, rv, p, hz⟩ := I1.list hq
  refine wpAny_pyIter_list p.isList ?_
  refine ⟨s1.heap.objs.size, [s1.heap.objs.size], _, _, H1, rfl, I1.kept (t' := s1.toks) fun b o e => Heap.get?_push_of_some _ e, turn_list a _, ⟨_, Heap.get?_push_size _ rfl, rfl, rfl⟩, fun b hb => ?_, q⟩
  have e : b = s1.heap.objs.size := by simpa using hb
  subst e
  exact I1.fpOk (Nat.le_refl _) (I1.hok.fresh (Nat.le_refl _))
theorem range_it {pins : List (Addr × Obj)} {σ : St} {H : Hp} {s : Shared} {R : It → Hp → Prop} {E : Value → Shared → Prop} {lo hi : Int} {t u v : Tok} {tk : Nat} (I : Inv X pins σ H s) (h1 : -(2 ^ 62) ≤ lo) (h2 : lo < 2 ^ 62) (h3 : -(2 ^ 62) ≤ hi) (h4 : hi < 2 ^ 62)
    (q : R (Itr lo (hi - lo).toNat) H) : wpAny (model X.prog X.w) X.A (pyIter (.ref s.heap.objs.size)) (PIE X pins σ tg R) E { s with heap := s.heap.push { cls := .type "range", data := .fields #[.int lo t, .int hi u, .int 1 v] }, toks := tk } := by
  refine wpAny_pyIter_range (IsRange.new ..) (small_one h1 h2 h3 h4) ?_
  have I1 : Inv X pins σ H { s with heap := s.heap.push { cls := .type "range", data := .fields #[.int lo t, .int hi u, .int 1 v] }, toks := tk } := I.kept fun b o e => Heap.get?_push_of_some _ e
  refine ⟨(s.heap.push { cls := .type "range", data := .fields #[.int lo t, .int hi u, .int 1 v] }).objs.size, [(s.heap.push { cls := .type "range", data := .fields #[.int lo t, .int hi u, .int 1 v] }).objs.size], _, _, H, rfl,
    I1.kept (t' := tk) fun b o e => Heap.get?_push_of_some _ e, turn_range _ lo (hi - lo).toNat, ?_, fun b hb => ?_, q⟩
  · have e1 : lo + ((0 : Nat) : Int) * 1 = lo := by simp
    have e2 : (((hi - lo).toNat : Nat) : Int) - ((0 : Nat) : Int) = Builtin.Range.rangeSize lo hi 1 := by rw [rangeSize_one]; split <;> omega
    show IsRangeIter _ _ (lo + ((0 : Nat) : Int) * 1) ((((hi - lo).toNat : Nat) : Int) - ((0 : Nat) : Int)) 1
    rw [e1, e2]
    exact Heap.get?_push_size _ rfl
  · have e : b = (s.heap.push { cls := .type "range", data := .fields #[.int lo t, .int hi u, .int 1 v] }).objs.size := by simpa using hb
    subst e
    exact I1.fpOk (Nat.le_refl _) (I1.hok.fresh (Nat.le_refl _))
def iRng1 (ta : TA) : TI := fun σ H R => ta σ H fun vs H1 => ∃ j : Int, vs = [.int j] ∧ -(2 ^ 62) ≤ j ∧ j < 2 ^ 62 ∧ R (Itr 0 j.toNat) H1
theorem pi_range1 {a : Expr} {ta : TA} {p pos : Pos} (hg : Gl X "range") (hm : X.mg "range" = none) (ha : PA X [a] ta) (hs : starEach [a] X.env = [(false, eval a X.env)] := by rfl) : PI X tg (.Call (.Name "range" p) [a] [] pos) (iRng1 ta) := by
  intro pins s σ H R I h
  refine Call_ (ld_blt I hg hm boot_range (PyProof.Rows.callWith_type1 (thn (ha pos pins s σ H _ I h) fun us s1 ⟨vs, H1, I1, r1, q1⟩ => ?_) hs rfl))
  obtain ⟨j, e, q1, q2, q⟩ := q1
  subst e
  cases r1 with
  | cons r rr =>
    cases rr
    obtain ⟨t, rfl⟩ := r
    exact call_range_1 (range_it I1 (by omega) (by omega) q1 q2 (by simpa using q))
def tFor (wi : TI) (g : TG) (tb : TS) : TS := fun D σ H => wi σ H fun J H1 => ∃ W : Nat → Nat → St → Hp → Prop, (∃ m, W 0 m σ H1) ∧ ∀ i m σ H, W i m σ H →
  (J.stop i H ∧ D.nx σ H) ∨ (J.go i H ∧ ∃ N : St → Hp → Prop, (∀ σ' H', N σ' H' → ∃ m', m' < m ∧ W (i + 1) m' σ' H') ∧ ∀ x H', J.yld i H x H' → g x σ H' fun σ2 H2 => tb { D with nx := N, ct := N, bk := D.nx } σ2 H2)
def pinsAt (fp : List Addr) (h : Heap) : List (Addr × Obj) := fp.filterMap fun b => (h.get? b).map fun o => (b, o)
theorem mem_pinsAt {fp : List Addr} {h : Heap} {b : Addr} {o : Obj} (hb : b ∈ fp) (e : h.get? b = some o) : (b, o) ∈ pinsAt fp h := List.mem_filterMap.mpr ⟨b, hb, by rw [e]; rfl⟩
theorem of_pinsAt {fp : List Addr} {h : Heap} {p : Addr × Obj} (hp : p ∈ pinsAt fp h) : p.1 ∈ fp ∧ h.get? p.1 = some p.2 := by
  obtain ⟨b, hb, e⟩ := List.mem_filterMap.mp hp
  cases q : h.get? b with
  | none => rw [q] at e; cases e
  | some o =>
    rw [q] at e
    have e' : (b, o) = p := Option.some.inj e
    subst e'
    exact ⟨hb, q⟩
theorem Inv.pinned {pins : List (Addr × Obj)} {σ : St} {H : Hp} {s : Shared} {fp : List Addr} (I : Inv X pins σ H s) (hf : ∀ b ∈ fp, FpOk X pins H b) (ho : ∀ b ∈ fp, ∃ o, s.heap.get? b = some o ∧ ∀ v, o.data ≠ .cell v) : Inv X (pins ++ pinsAt fp s.heap) σ H s :=
  I.pins_of fun p hp => (List.mem_append.mp hp).elim (fun z => I.pin p (List.mem_append_right _ z)) fun z => by
    obtain ⟨hb, e⟩ := of_pinsAt z
    obtain ⟨f0, f1, f2, _⟩ := hf p.1 hb
    obtain ⟨o, e', d⟩ := ho p.1 hb
    rw [e] at e'; cases e'
    exact ⟨e, f0, f1, f2, d⟩
theorem Inv.unpinned {pins pl : List (Addr × Obj)} {σ : St} {H : Hp} {s : Shared} (I : Inv X (pins ++ pl) σ H s) : Inv X pins σ H s := I.pins_of fun p hp => I.pin p (List.mem_append_right _ (List.mem_append_left _ hp))
theorem ps_for {iter : Expr} {body : List Stmt} {wi : TI} {g : TG} {tb : TS} {pos : Pos} (hp : PassesOwn (model X.prog X.w) X.A X.env X.xe) (hc : X.calm = true) (hi : PI X tg iter wi) (hg : PG X tg g) (hb : PSs X body tb)
    (hs : ∀ x, foldedSetIterable iter X.env x = pure x := by intro _; rfl) : PS X (.For tg iter body [] pos) (tFor wi g tb) := by
  intro pins s σ H D I h
  refine wpAny_For (thn (hi pins s σ H _ I h) fun v s1 h1 => thn h1 fun itv s2 h2 => ?_) hs
  obtain ⟨it, fp, tn, J, H2, e, I2, T, st2, f2, W, ⟨m0, w0⟩, turn⟩ := h2
  subst e
  have stat : ∀ {H' : Hp}, (∀ b ∈ fp, H' b = none) → ∀ b ∈ fp, FpOk X pins H' b := fun hn b hb => ⟨hn b hb, (f2 b hb).2⟩
  refine codeAny_forLoop_any (fun n s' => ∃ i σ' H', Inv X pins σ' H' s' ∧ tn i s'.heap ∧ (∀ b ∈ fp, H' b = none) ∧ W i n σ' H') ?_ m0 ⟨0, σ, H2, I2, st2, fun b hb => (f2 b hb).1, w0⟩
  rintro n s3 ⟨i, σ3, H3, I3, st3, fr3, w3⟩
  rcases turn i n σ3 H3 w3 with ⟨stop, qn⟩ | ⟨go, N, hN, step⟩
  · refine wpAny_passesOwn hp (thn (T.done X rfl rfl rfl hc i pins s3 σ3 H3 X.xe I3 (stat fr3) st3 stop) fun r s4 ⟨hr, I4⟩ => ?_)
    subst hr
    exact wpAny_execs_nil ⟨σ3, H3, I4, qn⟩
  · refine wpAny_passesOwn hp (thn (T.item X rfl rfl rfl hc i pins s3 σ3 H3 X.xe I3 (stat fr3) st3 go) fun r s4 ⟨u, hr, h4⟩ => ?_)
    subst hr
    refine wpAny_passesOwn hp (thn h4 fun _ s5 ⟨x, H5, I5, r5, y5, st5, fr5⟩ => ?_)
    have I5' := I5.pinned (stat fr5) (T.obj _ _ st5)
    refine wpAny_passesOwn hp (thn (hg _ s5 σ3 H5 x u _ I5' r5 (step x H5 y5)) fun _ s6 ⟨σ6, H6, I6, q6⟩ => ?_)
    refine wpAny_passesOwn hp (thn (hb _ s6 σ6 H6 _ I6 q6) fun f s7 q7 => ?_)
    have again : ∀ {σ7 : St} {H7 : Hp}, Inv X (pins ++ pinsAt fp s5.heap) σ7 H7 s7 → N σ7 H7 → ∃ m, m < n ∧ ∃ i σ' H', Inv X pins σ' H' s7 ∧ tn i s7.heap ∧ (∀ b ∈ fp, H' b = none) ∧ W i m σ' H' := fun {σ7 H7} I7 n7 => by
      obtain ⟨m', hm, w7⟩ := hN σ7 H7 n7
      refine ⟨m', hm, i + 1, σ7, H7, I7.unpinned, T.keep _ _ _ st5 fun b hb o e => (I7.pin (b, o) (List.mem_append_right _ (List.mem_append_right _ (mem_pinsAt hb e)))).1, fun b hb => ?_, w7⟩
      obtain ⟨o, e, d⟩ := T.obj _ _ st5 b hb
      exact (I7.pin (b, o) (List.mem_append_right _ (List.mem_append_right _ (mem_pinsAt hb e)))).2.1
    cases f with
    | next => obtain ⟨σ7, H7, I7, n7⟩ := q7; exact again I7 n7
    | cont => obtain ⟨σ7, H7, I7, n7⟩ := q7; exact again I7 n7
    | brk => obtain ⟨σ7, H7, I7, q7⟩ := q7; exact ⟨σ7, H7, I7.unpinned, q7⟩
    | ret v => obtain ⟨x7, σ7, H7, I7, r7, q7⟩ := q7; exact ⟨x7, σ7, H7, I7.unpinned, r7, q7⟩
end
theorem for_list {K : PySem.W.Frag} {a : Addr} {xs : List V} {g : TG} {tb : TS} {D : Ends} {σ : St} {H : Hp} (Pv : Nat → St → Hp → Prop) (h0 : Pv 0 σ H) (hl : ∀ i σ H, i ≤ xs.length → Pv i σ H → SqL K H a xs)
    (hs : ∀ i x σ H, xs[i]? = some x → Pv i σ H → g x σ H fun σ2 H2 => tb { D with nx := Pv (i + 1), ct := Pv (i + 1), bk := D.nx } σ2 H2) (hd : ∀ σ H, Pv xs.length σ H → D.nx σ H) :
    ∃ W : Nat → Nat → St → Hp → Prop, (∃ m, W 0 m σ H) ∧ ∀ i m σ H, W i m σ H →
      ((Itl K a).stop i H ∧ D.nx σ H) ∨ ((Itl K a).go i H ∧ ∃ N : St → Hp → Prop, (∀ σ' H', N σ' H' → ∃ m', m' < m ∧ W (i + 1) m' σ' H') ∧ ∀ x H', (Itl K a).yld i H x H' → g x σ H' fun σ2 H2 => tb { D with nx := N, ct := N, bk := D.nx } σ2 H2) := by
  refine ⟨fun i m σ H => m = xs.length - i ∧ i ≤ xs.length ∧ Pv i σ H, ⟨xs.length, by simp, Nat.zero_le _, h0⟩, ?_⟩
  rintro i m σ H ⟨rfl, hi, p⟩
  have q := hl i σ H hi p
  by_cases hlt : i < xs.length
  · refine .inr ⟨⟨xs, xs[i], q, by simp [hlt]⟩, Pv (i + 1), fun σ' H' p' => ⟨xs.length - (i + 1), by omega, rfl, hlt, p'⟩, fun x H' y => ?_⟩
    obtain ⟨e, y⟩ := y
    subst e
    exact hs i x σ _ (y xs q) p
  · have e : i = xs.length := by omega
    subst e
    exact .inl ⟨⟨xs, q, Nat.le_refl _⟩, hd σ H p⟩
theorem for_range {lo : Int} {n : Nat} {g : TG} {tb : TS} {D : Ends} {σ : St} {H : Hp} (Pv : Nat → St → Hp → Prop) (h0 : Pv 0 σ H)
    (hs : ∀ i σ H, i < n → Pv i σ H → g (.int (lo + i)) σ H fun σ2 H2 => tb { D with nx := Pv (i + 1), ct := Pv (i + 1), bk := D.nx } σ2 H2) (hd : ∀ σ H, Pv n σ H → D.nx σ H) :
    ∃ W : Nat → Nat → St → Hp → Prop, (∃ m, W 0 m σ H) ∧ ∀ i m σ H, W i m σ H →
      ((Itr lo n).stop i H ∧ D.nx σ H) ∨ ((Itr lo n).go i H ∧ ∃ N : St → Hp → Prop, (∀ σ' H', N σ' H' → ∃ m', m' < m ∧ W (i + 1) m' σ' H') ∧ ∀ x H', (Itr lo n).yld i H x H' → g x σ H' fun σ2 H2 => tb { D with nx := N, ct := N, bk := D.nx } σ2 H2) := by
  refine ⟨fun i m σ H => m = n - i ∧ i ≤ n ∧ Pv i σ H, ⟨n, by simp, Nat.zero_le _, h0⟩, ?_⟩
  rintro i m σ H ⟨rfl, hi, p⟩
  by_cases hlt : i < n
  · refine .inr ⟨hlt, Pv (i + 1), fun σ' H' p' => ⟨n - (i + 1), by omega, rfl, hlt, p'⟩, fun x H' y => ?_⟩
    obtain ⟨e, y⟩ := y
    subst e y
    exact hs i σ _ hlt p
  · have e : i = n := by omega
    subst e
    exact .inl ⟨Nat.le_refl _, hd σ H p⟩
theorem while_by {c : TT} {tb : TS} {D : Ends} {σ : St} {H : Hp} (Pv : St → Hp → Prop) (μ : St → Hp → Nat) (h0 : Pv σ H)
    (hs : ∀ σ H, Pv σ H → c σ H fun b H1 => if b = true then tb { D with nx := fun σ' H' => Pv σ' H' ∧ μ σ' H' < μ σ H, ct := fun σ' H' => Pv σ' H' ∧ μ σ' H' < μ σ H, bk := D.nx } σ H1 else D.nx σ H1)
    (mono : ∀ σ H Q Q', (∀ b H1, Q b H1 → Q' b H1) → c σ H Q → c σ H Q') : tWhile c tb D σ H := by
  refine ⟨fun m σ H => m = μ σ H ∧ Pv σ H, ⟨_, rfl, h0⟩, ?_⟩
  rintro m σ H ⟨rfl, p⟩
  refine mono σ H _ _ (fun b H1 q => ?_) (hs σ H p)
  cases b with
  | true => exact ⟨_, fun σ' H' ⟨p', l⟩ => ⟨_, l, rfl, p'⟩, q⟩
  | false => exact q
end L2
namespace L2
open PySem PySem.Spec PyProof.Rows
abbrev R2 := V → V → Hp → VK → Prop
def OpR (X : Cx) (f : Value → Value → Sem Value) (r : R2) : Prop :=
  ∀ (pins : List (Addr × Obj)) (s : Shared) (σ : St) (H : Hp) (x y : V) (v u : Value) (Q : VK), Inv X pins σ H s → RelV x v → RelV y u → r x y H Q →
    wpAny (model X.prog X.w) X.A (f v u) (EP X pins σ Q) X.xe s
def UnR (X : Cx) (f : Value → Sem Value) (r : V → Hp → VK → Prop) : Prop :=
  ∀ (pins : List (Addr × Obj)) (s : Shared) (σ : St) (H : Hp) (x : V) (v : Value) (Q : VK), Inv X pins σ H s → RelV x v → r x H Q →
    wpAny (model X.prog X.w) X.A (f v) (EP X pins σ Q) X.xe s
def CallR (X : Cx) (f : Value) (r : List V → Hp → VK → Prop) : Prop :=
  ∀ (pins : List (Addr × Obj)) (s : Shared) (σ : St) (H : Hp) (xs : List V) (us : List Value) (Q : VK), Inv X pins σ H s → Vals xs us → r xs H Q →
    wpAny (model X.prog X.w) X.A (call f us) (EP X pins σ Q) X.xe s
def tOp (r : R2) (ta tb : TE) : TE := fun σ H Q => ta σ H fun x H1 => tb σ H1 fun y H2 => r x y H2 Q
def tUn (r : V → Hp → VK → Prop) (ta : TE) : TE := fun σ H Q => ta σ H fun x H1 => r x H1 Q
def rI (C : Int → Int → Prop) (g : Int → Int → V) : R2 := fun x y H Q => ∃ i j, x = .int i ∧ y = .int j ∧ C i j ∧ Q (g i j) H
def rI0 (g : Int → Int → V) : R2 := fun x y H Q => ∃ i j, x = .int i ∧ y = .int j ∧ Q (g i j) H
def rU (g : Int → V) : V → Hp → VK → Prop := fun x H Q => ∃ i, x = .int i ∧ Q (g i) H
section
variable {X : Cx} {a b c : Expr} {ta tb tc : TE} {pos : Pos}
theorem binT (ha : PE X a ta) (hb : PE X b tb) {pins : List (Addr × Obj)} {s : Shared} {σ : St} {H : Hp} {R : V → V → Hp → Prop} (I : Inv X pins σ H s)
    (h : ta σ H fun x H1 => tb σ H1 fun y H2 => R x y H2) {Q : Value → Shared → Prop} {f : Value → Value → Sem Value}
    (hf : ∀ v u s2 x y H2, Inv X pins σ H2 s2 → RelV x v → RelV y u → R x y H2 → wpAny (model X.prog X.w) X.A (f v u) Q X.xe s2) :
    wpAny (model X.prog X.w) X.A (eval a X.env) (fun v s₁ => wpAny (model X.prog X.w) X.A (eval b X.env) (fun u s₂ => wpAny (model X.prog X.w) X.A (f v u) Q X.xe s₂) X.xe s₁) X.xe s := by
  refine thn (ha pins s σ H _ I h) fun v s1 ⟨x, H1, I1, r1, q1⟩ => ?_
  refine thn (hb pins s1 σ H1 _ I1 q1) fun u s2 ⟨y, H2, I2, r2, q2⟩ => ?_
  exact hf v u s2 x y H2 I2 r1 r2 q2
theorem pe_op {op : Operator} {r : R2} (ho : OpR X (binaryOp op) r) (ha : PE X a ta) (hb : PE X b tb) : PE X (.BinOp a op b pos) (tOp r ta tb) := by
  intro pins s σ H Q I h
  exact wpAny_BinOp (binT ha hb I h fun v u s2 x y H2 I2 rx ry q => ho pins s2 σ H2 x y v u Q I2 rx ry q)
theorem pe_un {op : UnaryOp} {r : V → Hp → VK → Prop} (ho : UnR X (unaryOp op) r) (ha : PE X a ta) : PE X (.UnaryOp op a pos) (tUn r ta) := by
  intro pins s σ H Q I h
  exact UnaryOp_ (thn (ha pins s σ H _ I h) fun v s1 ⟨x, H1, I1, r1, q1⟩ => ho pins s1 σ H1 x v Q I1 r1 q1)
theorem opI {f : Value → Value → Sem Value} {C : Int → Int → Prop} {g : Int → Int → Int}
    (rule : ∀ (i j : Int) (t u : Tok) (s : Shared) (Q : Value → Shared → Prop) (E : Value → Shared → Prop), C i j → Q (.int (g i j) s.toks) { s with toks := s.toks + 1 } → wpAny (model X.prog X.w) X.A (f (.int i t) (.int j u)) Q E s) :
    OpR X f (rI C fun i j => .int (g i j)) := by
  intro pins s σ H x y v u Q I rx ry h
  obtain ⟨i, j, rfl, rfl, hc, q⟩ := h
  obtain ⟨t, rfl⟩ := rx
  obtain ⟨t', rfl⟩ := ry
  exact rule i j t t' s _ _ hc ⟨.int (g i j), H, I.tok _, ⟨_, rfl⟩, q⟩
theorem opI0 {f : Value → Value → Sem Value} {g : Int → Int → Int}
    (rule : ∀ (i j : Int) (t u : Tok) (s : Shared) (Q : Value → Shared → Prop) (E : Value → Shared → Prop), Q (.int (g i j) s.toks) { s with toks := s.toks + 1 } → wpAny (model X.prog X.w) X.A (f (.int i t) (.int j u)) Q E s) :
    OpR X f (rI0 fun i j => .int (g i j)) := by
  intro pins s σ H x y v u Q I rx ry h
  obtain ⟨i, j, rfl, rfl, q⟩ := h
  obtain ⟨t, rfl⟩ := rx
  obtain ⟨t', rfl⟩ := ry
  exact rule i j t t' s _ _ ⟨.int (g i j), H, I.tok _, ⟨_, rfl⟩, q⟩
theorem opB0 {f : Value → Value → Sem Value} {g : Int → Int → Bool}
    (rule : ∀ (i j : Int) (t u : Tok) (s : Shared) (Q : Value → Shared → Prop) (E : Value → Shared → Prop), Q (.bool (g i j)) s → wpAny (model X.prog X.w) X.A (f (.int i t) (.int j u)) Q E s) :
    OpR X f (rI0 fun i j => .bl (g i j)) := by
  intro pins s σ H x y v u Q I rx ry h
  obtain ⟨i, j, rfl, rfl, q⟩ := h
  obtain ⟨t, rfl⟩ := rx
  obtain ⟨t', rfl⟩ := ry
  exact rule i j t t' s _ _ ⟨.bl (g i j), H, I, rfl, q⟩
def CDiv (i j : Int) : Prop := 0 < j ∧ j < 1073741824
def CPow (i j : Int) : Prop := 0 ≤ j ∧ j ≤ 1000000 ∧ i.natAbs < 2 ^ 64
def CMul (i j : Int) : Prop := (-(2 ^ 64) < i ∧ i < 2 ^ 64) ∨ (-(2 ^ 64) < j ∧ j < 2 ^ 64)
theorem CMul.ok {i j : Int} (h : CMul i j) : IntMulOk i j := by
  rcases h with ⟨h1, h2⟩ | ⟨h1, h2⟩
  · exact .of_left (intBits_le_64 h1 h2)
  · exact .of_right (intBits_le_64 h1 h2)
theorem op_add : OpR X (binaryOp .Add) (rI0 fun i j => .int (i + j)) := opI0 fun _ _ _ _ _ _ _ q => add_int q
theorem op_sub : OpR X (binaryOp .Sub) (rI0 fun i j => .int (i - j)) := opI0 fun _ _ _ _ _ _ _ q => sub_int q
theorem op_mul : OpR X (binaryOp .Mult) (rI CMul fun i j => .int (i * j)) := opI fun _ _ _ _ _ _ _ hc q => mul_int q hc.ok
theorem op_fdiv : OpR X (binaryOp .FloorDiv) (rI CDiv fun i j => .int (i / j)) := opI fun i j _ _ _ _ _ hc q => by
  have h1 : (0 : Int) < j := hc.1
  have h2 : j < 1073741824 := hc.2
  exact floordiv_int (by omega) (by rw [Int.fdiv_eq_ediv_of_nonneg i (by omega)]; exact q) (.inl (PyProof.noPylong_small (by omega)))
theorem op_mod : OpR X (binaryOp .Mod) (rI (fun _ j => 0 < j) fun i j => .int (i % j)) := opI fun i j _ _ _ _ _ hc q => by
  have h1 : (0 : Int) < j := hc
  exact mod_int' (by omega) (by rw [Int.fmod_eq_emod_of_nonneg i (by omega)]; exact q)
theorem op_pow : OpR X (binaryOp .Pow) (rI CPow fun i j => .int (i ^ j.toNat)) := opI fun _ _ _ _ _ _ _ hc q => pow_int_small hc.1 hc.2.1 hc.2.2 q
theorem unI {f : Value → Sem Value} {g : Int → Int}
    (rule : ∀ (i : Int) (t : Tok) (s : Shared) (Q : Value → Shared → Prop) (E : Value → Shared → Prop), Q (.int (g i) s.toks) { s with toks := s.toks + 1 } → wpAny (model X.prog X.w) X.A (f (.int i t)) Q E s) :
    UnR X f (rU fun i => .int (g i)) := by
  intro pins s σ H x v Q I rx h
  obtain ⟨i, rfl, q⟩ := h
  obtain ⟨t, rfl⟩ := rx
  exact rule i t s _ _ ⟨.int (g i), H, I.tok _, ⟨_, rfl⟩, q⟩
theorem un_neg : UnR X (unaryOp .USub) (rU fun i => .int (-i)) := unI fun _ _ _ _ _ q => neg_int q
end
def scal : V → V → Bool
  | .non, .non => true | .non, .int _ => true | .int _, .non => true | .non, .bl _ => true | .bl _, .non => true | .non, .str _ => true | .str _, .non => true
  | .int _, .int _ => true | .bl _, .bl _ => true | .str _, .str _ => true | .byt _, .byt _ => true
  | .int _, .str _ => true | .str _, .int _ => true | .bl _, .str _ => true | .str _, .bl _ => true
  | _, _ => false
def rEq : R2 := fun x y H Q => scal x y = true ∧ Q (.bl (decide (x = y))) H
def rNe : R2 := fun x y H Q => scal x y = true ∧ Q (.bl (!decide (x = y))) H
theorem dec_int {i j : Int} : decide (V.int i = V.int j) = (i == j) := by
  rw [Bool.eq_iff_iff]
  simp
theorem dec_bl {i j : Bool} : decide (V.bl i = V.bl j) = (i == j) := by
  rw [Bool.eq_iff_iff]
  simp
theorem dec_str {i j : Str} : decide (V.str i = V.str j) = (i == j) := by
  rw [Bool.eq_iff_iff]
  simp
theorem dec_byt {i j : Array UInt8} : decide (V.byt i = V.byt j) = (i.toList == j.toList) := by
  rw [Bool.eq_iff_iff]
  cases i
  cases j
  simp
section
variable {X : Cx} {a b c : Expr} {ta tb tc : TE} {pos : Pos}
theorem fin_bl {pins : List (Addr × Obj)} {σ : St} {H : Hp} {s : Shared} {Q : VK} {k k' : Bool} (I : Inv X pins σ H s) (q : Q (.bl k) H) (e : k = k') : EP X pins σ Q (.bool k') s := by
  subst e
  exact ⟨.bl k, H, I, rfl, q⟩
theorem op_eq : OpR X (compareOp .Eq) rEq := by
  intro pins s σ H x y v u Q I rx ry h
  obtain ⟨hs, q⟩ := h
  cases x with
  | non =>
    cases rx
    cases y with
    | non => cases ry; exact PySem.EqNone.eq_none_none (fin_bl I q (by simp))
    | bl j => cases ry; exact PySem.EqNone.eq_none_bool (fin_bl I q (by simp))
    | int j => obtain ⟨t', rfl⟩ := ry; exact PySem.EqNone.eq_none_int (fin_bl I q (by simp))
    | str j => obtain ⟨t', rfl⟩ := ry; exact PySem.EqNone.eq_none_str (fin_bl I q (by simp))
    | _ => exact absurd (show false = true from hs) Bool.false_ne_true
  | bl i =>
    cases rx
    cases y with
    | non => cases ry; exact PySem.EqNone.eq_bool_none (fin_bl I q (by simp))
    | bl j => cases ry; exact eq_bool (fin_bl I q dec_bl)
    | str j => obtain ⟨t', rfl⟩ := ry; exact PySem.EqMixed.eq_bool_str (fin_bl I q (by simp))
    | _ => exact absurd (show false = true from hs) Bool.false_ne_true
  | int i =>
    obtain ⟨t, rfl⟩ := rx
    cases y with
    | non => cases ry; exact PySem.EqNone.eq_int_none (fin_bl I q (by simp))
    | int j => obtain ⟨t', rfl⟩ := ry; exact eq_int (fin_bl I q dec_int)
    | str j => obtain ⟨t', rfl⟩ := ry; exact PySem.EqMixed.eq_int_str (fin_bl I q (by simp))
    | _ => exact absurd (show false = true from hs) Bool.false_ne_true
  | str i =>
    obtain ⟨t, rfl⟩ := rx
    cases y with
    | non => cases ry; exact PySem.EqNone.eq_str_none (fin_bl I q (by simp))
    | bl j => cases ry; exact PySem.EqMixed.eq_str_bool (fin_bl I q (by simp))
    | int j => obtain ⟨t', rfl⟩ := ry; exact PySem.EqMixed.eq_str_int (fin_bl I q (by simp))
    | str j => obtain ⟨t', rfl⟩ := ry; exact eq_str (fin_bl I q dec_str)
    | _ => exact absurd (show false = true from hs) Bool.false_ne_true
  | byt i =>
    obtain ⟨t, rfl⟩ := rx
    cases y with
    | byt j => obtain ⟨t', rfl⟩ := ry; exact PySem.W.eq_bytes (fin_bl I q dec_byt)
    | _ => exact absurd (show false = true from hs) Bool.false_ne_true
  | _ => cases y <;> exact absurd (show false = true from hs) Bool.false_ne_true
theorem op_ne : OpR X (compareOp .NotEq) rNe := by
  intro pins s σ H x y v u Q I rx ry h
  obtain ⟨hs, q⟩ := h
  cases x with
  | non =>
    cases rx
    cases y with
    | non => cases ry; exact PySem.EqNone.ne_none_none (fin_bl I q (by simp))
    | bl j => cases ry; exact PySem.EqNone.ne_none_bool (fin_bl I q (by simp))
    | int j => obtain ⟨t', rfl⟩ := ry; exact PySem.EqNone.ne_none_int (fin_bl I q (by simp))
    | str j => obtain ⟨t', rfl⟩ := ry; exact PySem.EqNone.ne_none_str (fin_bl I q (by simp))
    | _ => exact absurd (show false = true from hs) Bool.false_ne_true
  | bl i =>
    cases rx
    cases y with
    | non => cases ry; exact PySem.EqNone.ne_bool_none (fin_bl I q (by simp))
    | bl j => cases ry; exact ne_bool (fin_bl I q (congrArg not dec_bl))
    | str j => obtain ⟨t', rfl⟩ := ry; exact PySem.EqMixed.ne_bool_str (fin_bl I q (by simp))
    | _ => exact absurd (show false = true from hs) Bool.false_ne_true
  | int i =>
    obtain ⟨t, rfl⟩ := rx
    cases y with
    | non => cases ry; exact PySem.EqNone.ne_int_none (fin_bl I q (by simp))
    | int j => obtain ⟨t', rfl⟩ := ry; exact ne_int (fin_bl I q (congrArg not dec_int))
    | str j => obtain ⟨t', rfl⟩ := ry; exact PySem.EqMixed.ne_int_str (fin_bl I q (by simp))
    | _ => exact absurd (show false = true from hs) Bool.false_ne_true
  | str i =>
    obtain ⟨t, rfl⟩ := rx
    cases y with
    | non => cases ry; exact PySem.EqNone.ne_str_none (fin_bl I q (by simp))
    | bl j => cases ry; exact PySem.EqMixed.ne_str_bool (fin_bl I q (by simp))
    | int j => obtain ⟨t', rfl⟩ := ry; exact PySem.EqMixed.ne_str_int (fin_bl I q (by simp))
    | str j => obtain ⟨t', rfl⟩ := ry; exact ne_str (fin_bl I q (congrArg not dec_str))
    | _ => exact absurd (show false = true from hs) Bool.false_ne_true
  | byt i =>
    obtain ⟨t, rfl⟩ := rx
    cases y with
    | byt j => obtain ⟨t', rfl⟩ := ry; exact PySem.W.ne_bytes (fin_bl I q (congrArg not dec_byt))
    | _ => exact absurd (show false = true from hs) Bool.false_ne_true
  | _ => cases y <;> exact absurd (show false = true from hs) Bool.false_ne_true
theorem op_lt : OpR X (compareOp .Lt) (rI0 fun i j => .bl (decide (i < j))) := opB0 fun _ _ _ _ _ _ _ q => lt_int q
theorem op_gt : OpR X (compareOp .Gt) (rI0 fun i j => .bl (decide (j < i))) := opB0 fun _ _ _ _ _ _ _ q => gt_int q
theorem op_ge : OpR X (compareOp .GtE) (rI0 fun i j => .bl (decide (j ≤ i))) := opB0 fun _ _ _ _ _ _ _ q => ge_int q
theorem nomark (b : Expr) {op : CmpOp} (h : op ≠ .In := by decide) (h2 : op ≠ .NotIn := by decide) : behindInMarks op b = false := by
  have e1 : (op == CmpOp.In) = false := by cases op <;> first | rfl | exact absurd rfl h
  have e2 : (op == CmpOp.NotIn) = false := by cases op <;> first | rfl | exact absurd rfl h2
  cases b <;> simp [behindInMarks, e1, e2]
theorem pe_cmpR {op : CmpOp} {r : R2} (ho : OpR X (compareOp op) r) (ha : PE X a ta) (hb : PE X b tb) (hm : behindInMarks op b = false) : PE X (.Compare a [op] [b] pos) (tOp r ta tb) := by
  intro pins s σ H Q I h
  exact wpAny_Compare1 (binT ha hb I h fun v u s2 x y H2 I2 rx ry q => ho pins s2 σ H2 x y v u Q I2 rx ry q) hm
def tTest (t : TE) : TT := fun σ H Q => t σ H fun x H' => ∃ k, x = .bl k ∧ Q k H'
theorem pt_cmpR {op : CmpOp} {r : R2} (ho : OpR X (compareOp op) r) (ha : PE X a ta) (hb : PE X b tb) (hm : behindInMarks op b = false) : PT X (.Compare a [op] [b] pos) (tTest (tOp r ta tb)) := by
  intro pins s σ H Q I h
  refine wpAny_isTrue_Compare1 (thn (ha pins s σ H _ I h) fun v s1 ⟨x, H1, I1, r1, q1⟩ => thn (hb pins s1 σ H1 _ I1 q1) fun u s2 ⟨y, H2, I2, r2, q2⟩ =>
    thn (ho pins s2 σ H2 x y v u _ I2 r1 r2 q2) fun c s3 ⟨z, H3, I3, r3, k, e, q3⟩ => ?_) hm
  subst e
  cases r3
  exact wpAny_truthy_bool ⟨H3, I3, q3⟩
theorem line63 : (sizeLine : Nat) < 2 ^ 63 := by rw [sizeLine_eq]; decide
theorem vals1 {x : V} {us : List Value} (r : Vals [x] us) : ∃ u, us = [u] ∧ RelV x u := by
  cases r with
  | cons r1 r2 => cases r2; exact ⟨_, rfl, r1⟩
theorem vals2 {x y : V} {us : List Value} (r : Vals [x, y] us) : ∃ u w', us = [u, w'] ∧ RelV x u ∧ RelV y w' := by
  cases r with
  | cons r1 r2 =>
    cases r2 with
    | cons r3 r4 => cases r4; exact ⟨_, _, rfl, r1, r3⟩
theorem call_max2 (hc : X.calm = true) : CallR X (.builtin "max") (fun xs H Q => ∃ i j, xs = [.int i, .int j] ∧ Q (.int (if j > i then j else i)) H) := by
  intro pins s σ H xs us Q I r h
  obtain ⟨i, j, rfl, q⟩ := h
  obtain ⟨u, w', rfl, ⟨t, rfl⟩, ⟨t', rfl⟩⟩ := vals2 r
  refine max_two_ints (I.ok.hd hc) fun h' tk k => ⟨_, H, I.kept k, ?_, q⟩
  by_cases hj : j > i
  · rw [if_pos hj, if_pos hj]; exact ⟨_, rfl⟩
  · rw [if_neg hj, if_neg hj]; exact ⟨_, rfl⟩
theorem call_min2 (hc : X.calm = true) : CallR X (.builtin "min") (fun xs H Q => ∃ i j, xs = [.int i, .int j] ∧ Q (.int (if j < i then j else i)) H) := by
  intro pins s σ H xs us Q I r h
  obtain ⟨i, j, rfl, q⟩ := h
  obtain ⟨u, w', rfl, ⟨t, rfl⟩, ⟨t', rfl⟩⟩ := vals2 r
  refine min_two_ints (I.ok.hd hc) fun h' tk k => ⟨_, H, I.kept k, ?_, q⟩
  by_cases hj : j < i
  · rw [if_pos hj, if_pos hj]; exact ⟨_, rfl⟩
  · rw [if_neg hj, if_neg hj]; exact ⟨_, rfl⟩
theorem call_str_int : CallR X (.type "str") (fun xs H Q => ∃ i, xs = [.int i] ∧ i.natAbs.log2 < 1920 ∧ Q (.str (toString i)) H) := by
  intro pins s σ H xs us Q I r h
  obtain ⟨i, rfl, hz, q⟩ := h
  obtain ⟨u, rfl, t, rfl⟩ := vals1 r
  exact PySem.P.str_of_int hz ⟨.str _, H, I.tok _, ⟨_, rfl⟩, q⟩
end
end L2
namespace L2
open PySem PySem.Spec PyProof.Rows
structure ObjM (h : Heap) (x dx C : Addr) (mA : Str → Option Value) : Prop where
  obj : h.get? x = some (PySem.W.instObj C dx)
  ns : h.Ns1 dx mA
  ne : dx ≠ x
theorem lookIn_ns {h : Heap} {dx : Addr} {mA : Str → Option Value} (n : h.Ns1 dx mA) : ∃ od, h.get? dx = some od ∧ ∀ name, PySem.W.lookIn name od = some (mA name) := by
  obtain ⟨o, es, ep, ho, hd, hk, _, hm⟩ := n
  refine ⟨o, ho, fun name => ?_⟩
  have e := hm name
  unfold nsFind findBy at e
  rw [← Array.find?_toList] at e
  unfold PySem.W.lookIn
  rw [hd]
  dsimp only
  split
  · rename_i y q
    rw [q] at e
    exact congrArg some e
  · rename_i q
    rw [q] at e
    have a : es.toList.any (·.refKey) = false := by
      rw [List.any_eq_false]
      intro y hy
      obtain ⟨z, t, hkey⟩ := hk y (Array.mem_toList_iff.mp hy)
      simp [DictEntry.refKey, hkey]
    have a' : ¬ es.toList.any (·.refKey) = true := by rw [a]; exact Bool.false_ne_true
    rw [if_neg a']
    exact congrArg some e
theorem ObjM.look {h : Heap} {x dx C : Addr} {mA : Str → Option Value} (I : ObjM h x dx C mA) : ∃ od, PySem.W.InstAt h x (PySem.W.instObj C dx) C (some od) ∧ ∀ name, PySem.W.lookIn name od = some (mA name) :=
  let ⟨od, ho, hl⟩ := lookIn_ns I.ns
  ⟨od, ⟨I.obj, rfl, rfl, ho⟩, hl⟩
section
variable {P : Program} {w : World} {H H' : Hp} {h h' : Heap} {a C dx : Addr} {fs fs' : List (Str × V)}
theorem ins_get (hok : HOk P w H h) (e : H a = some (.ins C dx fs)) : ∃ mA, ObjM h a dx C mA ∧ (∀ f, RelO (fs.lookup f) (mA f)) ∧ PySem.Within mA (fs.map (·.1)) ∧ fs.length ≤ 1000 ∧ H dx = some (.own a) := by
  obtain ⟨d, z, ne, ob, mA, n, r, q⟩ := (show ObjOk P w H h a (.ins C dx fs) from hok a _ e)
  exact ⟨mA, ⟨ob, n, ne⟩, r, q, z, d⟩
end
structure Cls (K : PySem.W.Frag) (C : Addr) : Prop where
  pg : PySem.W.plainGet K C Str.empty = true
  hd : PySem.W.hasDictIn K C = true
  po : PySem.W.plainOver K C = true
  sa : PySem.W.findIn K (.ref C) "__setattr__" = some (some (.builtin "object.__setattr__"))
theorem Cls.get {K : PySem.W.Frag} {C : Addr} (c : Cls K C) (f : Str) : PySem.W.plainGet K C f = true := c.pg
section
variable {X : Cx} {pins : List (Addr × Obj)} {σ : St} {H : Hp} {s : Shared} {A : Around} {E : Value → Shared → Prop} {Q : Value → Shared → Prop} {c : Value} {b : Bool}
inductive TyOf (K : PySem.W.Frag) (H : Hp) : V → Value → Prop where
  | non : TyOf K H .non (.type "NoneType")
  | bl (x : Bool) : TyOf K H (.bl x) (.type "bool")
  | int (i : Int) : TyOf K H (.int i) (.type "int")
  | str (x : Str) : TyOf K H (.str x) (.type "str")
  | flt (x : UInt64) : TyOf K H (.flt x) (.type "float")
  | lst {a : Addr} {xs : List V} (e : H a = some (.lst xs)) : TyOf K H (.ref a) (.type "list")
  | frz {a : Addr} {o : Obj} {xs : List V} (e : H a = some (.frz o (.lst xs))) : TyOf K H (.ref a) (.type "list")
  | tup {a : Addr} {xs : List V} (e : H a = some (.tup xs)) : TyOf K H (.ref a) (.type "tuple")
  | dK {a : Addr} {kvs : List (Key × V)} (e : H a = some (.dK kvs)) : TyOf K H (.ref a) (.type "dict")
  | dT {a : Addr} {kvs : List (List Key × V)} (e : H a = some (.dT kvs)) : TyOf K H (.ref a) (.type "dict")
  | ins {a C dx : Addr} {fs : List (Str × V)} (e : H a = some (.ins C dx fs)) (cl : Cls K C) (ha : PySem.W.findIn K (.ref C) "__class__" = some (some (.builtin "object.__class__")))
      (hn : PySem.W.specialIn K (.builtin "object.__class__") "__get__" = some (some (.builtin "getset_descriptor.__get__"))) (htk : PySem.W.takesIn K (.builtin "object.__class__") = some true)
      (hm : PySem.W.mroIn K C (.type "object") = some true) : TyOf K H (.ref a) (.ref C)
theorem isinst_ok {x : V} {u t : Value} (I : Inv X pins σ H s) (rx : RelV x u) (ty : TyOf X.K H x t) (e : PySem.W.kitOne X.K t c = some b) (h : ∀ tk, Q (.bool b) { s with toks := tk }) :
    wpAny (model X.prog X.w) A (call (.builtin "isinstance") [u, c]) Q E s := by
  cases ty with
  | non => cases (show u = Value.none from rx); exact PySem.W.kia_one PySem.W.kitx_none I.kIn True.intro e (fun z => nomatch z) h
  | bl y => cases (show u = Value.bool y from rx); exact PySem.W.kia_one PySem.W.kitx_bool I.kIn True.intro e (fun z => nomatch z) h
  | int i => obtain ⟨t, q⟩ := (show ∃ t, u = Value.int i t from rx); cases q; exact PySem.W.kia_one PySem.W.kitx_int I.kIn True.intro e (fun z => nomatch z) h
  | str y => obtain ⟨t, q⟩ := (show ∃ t, u = Value.str y t from rx); cases q; exact PySem.W.kia_one PySem.W.kitx_str I.kIn True.intro e (fun z => nomatch z) h
  | flt y => obtain ⟨t, q⟩ := (show ∃ t, u = Value.float y t from rx); cases q; exact PySem.W.kia_one PySem.W.kitx_float I.kIn True.intro e (fun z => nomatch z) h
  | @lst a xs ea =>
    cases (show u = Value.ref a from rx)
    obtain ⟨_, _, n, _, h1⟩ := (show ObjOk X.prog X.w H s.heap a (.lst xs) from I.hok a _ ea)
    exact PySem.W.kia_one PySem.W.kitx_list I.kIn ⟨_, h1, rfl⟩ e (fun z => nomatch z) h
  | @frz a ob xs ea =>
    cases (show u = Value.ref a from rx)
    obtain ⟨_, _, _, n, _, h1⟩ := (show ObjOk X.prog X.w H s.heap a (.frz ob (.lst xs)) from I.hok a _ ea)
    exact PySem.W.kia_one PySem.W.kitx_list I.kIn ⟨_, h1, rfl⟩ e (fun z => nomatch z) h
  | @tup a xs ea =>
    cases (show u = Value.ref a from rx)
    obtain ⟨_, _, _, p⟩ := (show ObjOk X.prog X.w H s.heap a (.tup xs) from I.hok a _ ea)
    obtain ⟨o, h1, h2, _⟩ := p
    exact PySem.W.kia_one PySem.W.kitx_tuple I.kIn ⟨o, h1, h2⟩ e (fun z => nomatch z) h
  | @dK a kvs ea =>
    cases (show u = Value.ref a from rx)
    obtain ⟨_, _, vs, _, p⟩ := (show ObjOk X.prog X.w H s.heap a (.dK kvs) from I.hok a _ ea)
    obtain ⟨o, es, ep, h1, h2, _⟩ := p
    exact PySem.W.kia_one PySem.W.kitx_dict I.kIn ⟨o, h1, h2.1⟩ e (fun z => nomatch z) h
  | @dT a kvs ea =>
    cases (show u = Value.ref a from rx)
    obtain ⟨_, _, xs, _, o, es, ep, h1, h2, _⟩ := (show ObjOk X.prog X.w H s.heap a (.dT kvs) from I.hok a _ ea)
    exact PySem.W.kia_one PySem.W.kitx_dict I.kIn ⟨o, h1, h2.1⟩ e (fun z => nomatch z) h
  | @ins a C dx fs ea cl ha hn htk hm =>
    cases (show u = Value.ref a from rx)
    obtain ⟨mA, O, _⟩ := ins_get I.hok ea
    obtain ⟨od, J, _⟩ := O.look
    exact PySem.W.kia_one (PySem.W.kitx_own (cl.get _) cl.hd ha hn htk hm) I.kIn J e (fun z => nomatch z) h
end
end L2
namespace L2
open PySem PySem.Spec PyProof.Rows
structure Room (k : Nat) (A : Around) : Prop where
  hd : A.handled = none
  dp : A.depth + 3 * k + 5 < recursionLimit
  un : A.units + 16 * k + 200 < cLine
  gd : A.guards = some []
theorem Room.mono {j k : Nat} {A : Around} (r : Room k A) (h : j ≤ k) : Room j A := ⟨r.hd, by have := r.dp; omega, by have := r.un; omega, r.gd⟩
theorem Room.deeper {k : Nat} {A : Around} (r : Room (k + 1) A) (env : Env) : Room k (A.deeper env) :=
  ⟨r.hd, by have := r.dp; show A.depth + 1 + 3 * k + 5 < _; omega, by have := r.un; show A.units + 3 + 16 * k + 200 < _; omega, r.gd⟩
theorem Room.depth {k : Nat} {A : Around} (r : Room k A) : A.depth < recursionLimit := by have := r.dp; omega
theorem Room.units {k : Nat} {A : Around} (r : Room k A) : A.units + 64 < cLine := by have := r.un; omega
def tNil : TA := fun _ H Q => Q [] H
def tCons (ta : TE) (tr : TA) : TA := fun σ H Q => ta σ H fun x H1 => tr σ H1 fun xs H2 => Q (x :: xs) H2
section
variable {X : Cx} {e : Expr} {es : List Expr} {te : TE} {t : TA} {pos : Pos}
theorem pa_nil : PA X [] tNil := fun _ _ _ _ H Q I h => Calls.spliced_nil ⟨[], H, I, .nil, h⟩
theorem pa_cons (ha : PE X e te) (hr : PA X es t) (hs : starEach (e :: es) X.env = (false, eval e X.env) :: starEach es X.env := by rfl) : PA X (e :: es) (tCons te t) := by
  intro pos pins s σ H Q I h
  rw [hs]
  show wpAny _ _ (spliced ((false, eval e X.env) :: backTo pos (starEach es X.env))) _ _ s
  refine Calls.spliced_cons (thn (ha pins s σ H _ I h) fun u s1 ⟨x, H1, I1, r1, q1⟩ => ?_)
  exact thn (hr pos pins s1 σ H1 _ I1 q1) fun us s2 ⟨xs, H2, I2, r2, q2⟩ => ⟨x :: xs, H2, I2, .cons r1 r2, q2⟩
def tTup (t : TA) : TE := fun σ H Q => t σ H fun xs H1 => xs.length ≤ sizeLine ∧ ∀ p, H1 p = none → Q (.ref p) (upd H1 p (.tup xs))
def tLst (t : TA) : TE := fun σ H Q => t σ H fun xs H1 => xs.length ≤ sizeLine ∧ ∀ p, H1 p = none → Q (.ref p) (upd H1 p (.lst xs))
theorem pe_tup {x1} (h : PA X es t) : PE X (.Tuple es x1 pos) (tTup t) := by
  intro pins s σ H Q I hq
  refine wpAny_Tuple_spliced (thn (h pos pins s σ H _ I hq) fun us s1 ⟨xs, H1, I1, r, z, q⟩ => ⟨by rw [← r.length]; exact z, ?_⟩)
  have hf : H1 s1.heap.objs.size = none := I1.hok.fresh (Nat.le_refl _)
  refine ⟨.ref s1.heap.objs.size, upd H1 s1.heap.objs.size (.tup xs), I1.laid (t' := s1.toks) (fun b u e => Heap.get?_push_of_some _ e) (Nat.le_refl _) ?_, rfl, q _ hf⟩
  exact ⟨z, us, r, ⟨_, Heap.get?_push_size _ rfl, rfl, _, rfl⟩⟩
theorem pe_lst (h : PA X es t) : PE X (.List es pos) (tLst t) := by
  intro pins s σ H Q I hq
  refine wpAny_List_spliced (thn (h pos pins s σ H _ I hq) fun us s1 ⟨xs, H1, I1, r, z, q⟩ => ⟨by rw [← r.length]; exact z, ?_⟩)
  have hf : H1 s1.heap.objs.size = none := I1.hok.fresh (Nat.le_refl _)
  refine ⟨.ref s1.heap.objs.size, upd H1 s1.heap.objs.size (.lst xs), I1.laid (t' := s1.toks) (fun b u e => Heap.get?_push_of_some _ e) (Nat.le_refl _) ?_, rfl, q _ hf⟩
  exact ⟨z, us, 0, r, Heap.get?_push_size _ rfl⟩
end
abbrev Sp := List V → Hp → VK → XK → Prop
abbrev CXT := List Env → Hp → Shared → XK → Value → Shared → Prop
structure Env0 (P : Program) (w : World) (K : PySem.W.Frag) (mg : Str → Option Value) (base : Heap) (A : Around) (outer : List Env) (s : Shared) (H : Hp) : Prop where
  frames : A.frames = some outer
  mod : Mod K mg base
  bs : ∀ b o, base.get? b = some o → s.heap.get? b = some o ∧ H b = none
  bsz : base.objs.size ≤ s.heap.objs.size
  funs : s.heap.FunFrames base outer
  frf : ∀ b ∈ frs outer, H b = none
  hok : HOk P w H s.heap
  bare : AllBare s.gens
def CE (outer : List Env) (P : Program) (w : World) (H : Hp) (s : Shared) (Q : VK) (u : Value) (s' : Shared) : Prop :=
  ∃ v H', s'.os = s.os ∧ AllBare s'.gens ∧ Un (frs outer) [] H H' s.heap s'.heap ∧ HOk P w H' s'.heap ∧ RelV v u ∧ Q v H'
def CR (CX : CXT) (outer : List Env) (P : Program) (w : World) (H : Hp) (s : Shared) (Q : VK) (E : XK) (r : Result) (s' : Shared) : Prop :=
  match r with
  | .ok (.ret u) => CE outer P w H s Q u s'
  | .ok _ => False
  | .error e => CX outer H s E e s'
structure FnOk (P : Program) (w : World) (K : PySem.W.Frag) (mg : Str → Option Value) (base : Heap) (CX : CXT) (k : Nat) (f : Addr) (fd : FuncData) (ps : List Str) (sp : Sp) : Prop where
  len : ∀ vs H Q E, sp vs H Q E → vs.length = ps.length
  run : ∀ (A : Around) (outer : List Env) (s : Shared) (H : Hp) (args : Args) (us : List Value) (vs : List V) (Q : VK) (E : XK), Room k A → Env0 P w K mg base A outer s H → BindsTo s fd args (ps.zip us) → Vals vs us → sp vs H Q E →
    codeAny (model P w) A (.call (.ref f) args) (CR CX outer P w H s Q E) s
section
variable {X : Cx} {pins : List (Addr × Obj)} {σ : St} {H : Hp} {s s' : Shared}
theorem Inv.env0 (I : Inv X pins σ H s) : Env0 X.prog X.w X.K X.mg X.base X.A X.stack s H :=
  ⟨I.ok.frames, I.ok.mod, I.bs, Nat.le_trans I.ok.bsz I.sz, I.stack, I.stkFree, I.hok, I.bare⟩
theorem Inv.after {Q : VK} {u : Value} (I : Inv X pins σ H s) (h : CE X.stack X.prog X.w H s Q u s') : EP X pins σ Q u s' := by
  obtain ⟨v, H', os, bare, un, hok, r, q⟩ := h
  obtain ⟨hh, g, d, t, os'⟩ := s'
  obtain rfl : os' = s.os := os
  exact ⟨v, H', I.call (h' := hh) (g' := g) (d' := d) (t' := t) (ch := []) un hok bare (fun b z => absurd z (by simp)), r, q⟩
end
def tCall (sp : Sp) (dvs : List V) (E : XK) (t : TA) : TE := fun σ H Q => t σ H fun vs H1 => sp (vs ++ dvs) H1 Q E
def Binds (K : PySem.W.Frag) (fd : FuncData) (ps : List Str) (ds : List Value) : Prop :=
  ∀ (s : Shared) (us : List Value), K.In s.heap → (us ++ ds).length = ps.length → BindsTo s fd ⟨us, []⟩ (ps.zip (us ++ ds))
theorem Binds.all {K : PySem.W.Frag} {fd : FuncData} {ps : List Str} (h : ∀ us : List Value, us.length = ps.length → bindArgs fd ⟨us, []⟩ = pure (ps.zip us)) : Binds K fd ps [] := fun s us _ hl => by
  rw [List.append_nil] at hl ⊢
  exact .of_eq (h us hl)
def Passes (CX : CXT) (X : Cx) (E : XK) : Prop := ∀ (pins : List (Addr × Obj)) (σ : St) (H : Hp) (s : Shared) (e : Value) (s' : Shared), Inv X pins σ H s → CX X.stack H s E e s' → X.xe e s'
section
variable {X : Cx} {CX : CXT} {k : Nat} {f C : Addr} {fd : FuncData} {ps : List Str} {sp : Sp} {dvs : List V} {ds : List Value} {E : XK} {x m : Str} {p pos apos : Pos} {e o : Expr} {es : List Expr} {ta : TE} {t : TA}
theorem run_fn {pins : List (Addr × Obj)} {σ : St} {H : Hp} {s : Shared} {Q : VK} {us : List Value} {vs : List V} (F : FnOk X.prog X.w X.K X.mg X.base CX k f fd ps sp) (hr : Room k X.A) (hb : Binds X.K fd ps ds) (hd : Vals dvs ds) (hx : Passes CX X E)
    (I : Inv X pins σ H s) (r : Vals vs us) (h : sp (vs ++ dvs) H Q E) : wpAny (model X.prog X.w) X.A (call (.ref f) us) (EP X pins σ Q) X.xe s := by
  have r2 : Vals (vs ++ dvs) (us ++ ds) := r.append hd
  have hl : (us ++ ds).length = ps.length := by rw [← r2.length]; exact F.len _ _ _ _ h
  refine wpAny_call (codeAny_mono (F.run X.A X.stack s H ⟨us, []⟩ (us ++ ds) (vs ++ dvs) Q E hr I.env0 (hb s us I.kIn hl) r2 h) fun r s' hq => ?_)
  cases r with
  | error e => exact hx pins σ H s e s' I hq
  | ok fl =>
    cases fl with
    | ret u => exact I.after hq
    | next => exact False.elim hq
    | brk => exact False.elim hq
    | cont => exact False.elim hq
theorem pe_call (F : FnOk X.prog X.w X.K X.mg X.base CX k f fd ps sp) (hr : Room k X.A) (hg : Gl X x) (hm : X.mg x = some (.ref f)) (hk : PySem.W.keepIn X.K (.ref f) = true) (hb : Binds X.K fd ps ds) (hd : Vals dvs ds) (hx : Passes CX X E)
    (ha : PA X (e :: es) t) (hdb : (x == ("__debug__" : Str)) = false := by decide) (he : starEach (e :: es) X.env = (false, eval e X.env) :: starEach es X.env := by rfl) (hpl : (backTo pos (starEach es X.env)).any (·.1) = false := by rfl) :
    PE X (.Call (.Name x p) (e :: es) [] pos) (tCall sp dvs E t) := by
  intro pins s σ H Q I h
  refine wpAny_Call_Name_kw (ld_glob I hg hm ?_ hdb)
  refine PySem.W.callWith_K (h₀ := X.base) I.ok.mod.kin hk (thn (ha pos pins s σ H _ I h) fun us s1 ⟨vs, H1, I1, r, q⟩ => ⟨I1.kIn, ?_⟩) he hpl
  exact run_fn F hr hb hd hx I1 r q
end
structure FnScope (N P : List Str) (sc : Scope) : Prop where
  kind : sc.kind = .function
  co : sc.isCoroutine = false
  gen : sc.isGenerator = false
  nd : N.Nodup
  pre : N.take P.length = P
  par : ∀ x ∈ P, sc.names.lookup x = some .local ∨ sc.names.lookup x = some .cell
  nofree : ∀ y ∈ sc.names, y.2 ≠ .free
theorem bindL_out {kindOf : Str → Option NameKind} {x : Str} : ∀ {binds : List (Str × Value)} {m : Str → Option Value}, (∀ v, (x, v) ∉ binds) → bindL kindOf binds m x = m x
  | [], _, _ => rfl
  | (n, v) :: r, m, h => by
    unfold bindL
    rw [bindL_out fun w hw => h w (List.mem_cons_of_mem _ hw)]
    split
    · have : x ≠ n := by rintro rfl; exact h v List.mem_cons_self
      simp [this]
    · rfl
theorem bindC_out {kindOf : Str → Option NameKind} {x : Str} : ∀ {binds : List (Str × Value)} {m : Str → Option Value}, (∀ v, (x, v) ∉ binds) → bindC kindOf binds m x = m x
  | [], _, _ => rfl
  | (n, v) :: r, m, h => by
    unfold bindC
    rw [bindC_out fun w hw => h w (List.mem_cons_of_mem _ hw)]
    split
    · rfl
    · have : x ≠ n := by rintro rfl; exact h v List.mem_cons_self
      simp [this]
theorem bindL_get {kindOf : Str → Option NameKind} {x : Str} {v : Value} : ∀ {P : List Str} {vs : List Value} {i : Nat} {m : Str → Option Value}, P.Nodup → P[i]? = some x → vs[i]? = some v → kindOf x = some .local →
    bindL kindOf (P.zip vs) m x = some v
  | [], _, _, _, _, h, _, _ => by simp at h
  | _ :: _, [], _, _, _, _, h, _ => by simp at h
  | p :: P, w :: vs, 0, m, nd, h1, h2, hk => by
    simp at h1 h2; subst h1; subst h2
    show bindL kindOf ((p, w) :: P.zip vs) m p = _
    unfold bindL
    rw [bindL_out fun v hv => (List.nodup_cons.mp nd).1 (List.of_mem_zip hv).1, if_pos hk]
    simp
  | p :: P, w :: vs, i + 1, m, nd, h1, h2, hk => by
    show bindL kindOf ((p, w) :: P.zip vs) m x = _
    unfold bindL
    exact bindL_get (i := i) (List.nodup_cons.mp nd).2 (by simpa using h1) (by simpa using h2) hk
theorem bindC_get {kindOf : Str → Option NameKind} {x : Str} {v : Value} : ∀ {P : List Str} {vs : List Value} {i : Nat} {m : Str → Option Value}, P.Nodup → P[i]? = some x → vs[i]? = some v → kindOf x ≠ some .local →
    bindC kindOf (P.zip vs) m x = some v
  | [], _, _, _, _, h, _, _ => by simp at h
  | _ :: _, [], _, _, _, _, h, _ => by simp at h
  | p :: P, w :: vs, 0, m, nd, h1, h2, hk => by
    simp at h1 h2; subst h1; subst h2
    show bindC kindOf ((p, w) :: P.zip vs) m p = _
    unfold bindC
    rw [bindC_out fun v hv => (List.nodup_cons.mp nd).1 (List.of_mem_zip hv).1, if_neg hk]
    simp
  | p :: P, w :: vs, i + 1, m, nd, h1, h2, hk => by
    show bindC kindOf ((p, w) :: P.zip vs) m x = _
    unfold bindC
    exact bindC_get (i := i) (List.nodup_cons.mp nd).2 (by simpa using h1) (by simpa using h2) hk
def start (N : List Str) (vs : List V) : St := vs.map some ++ List.replicate (N.length - vs.length) none
def cxOf (CX : CXT) (P : Program) (w : World) (K : PySem.W.Frag) (mg : Str → Option Value) (base : Heap) (N : List Str) (qual : Str) (scope : Scope) (f : Addr) (cd : Value) (A : Around) (outer : List Env) (s : Shared) (H : Hp) (E : XK) : Cx where
  prog := P
  w := w
  K := K
  mg := mg
  base := base
  A := A.deeper (envOfC qual scope s.heap.objs.size f cd)
  N := N
  s₀ := s
  H₀ := H
  env := envOfC qual scope s.heap.objs.size f cd
  outer := outer
  stack := envOfC qual scope s.heap.objs.size f cd :: outer
  ex := []
  calm := true
  fn := fun _ => true
  pn := []
  xe := fun e s' => wpAny (model P w) (A.deeper (envOfC qual scope s.heap.objs.size f cd)) (leaving (envOfC qual scope s.heap.objs.size f cd) e) (fun _ s'' => CX outer H s E e s'') (fun e' s'' => CX outer H s E e' s'') s'
theorem cell_has {sc : Scope} {n : Nat} {x : Str} (h : sc.names.lookup x = some .cell) : ∃ c, (cellsFrom n sc.names []).lookup x = some c := by
  have q := PySem.W.cellsFrom_some sc.names n [] (.inl h)
  exact Option.isSome_iff_exists.mp q
theorem inv_start {CX : CXT} {P : Program} {w : World} {K : PySem.W.Frag} {mg : Str → Option Value} {base : Heap} {N ps : List Str} {qual : Str} {scope : Scope} {f : Addr} {cd : Value} {A : Around} {outer : List Env} {s s1 : Shared} {H : Hp} {E : XK} {us : List Value} {vs : List V}
    (S : FnScope N ps scope) (hd : A.handled = none) (e0 : Env0 P w K mg base A outer s H) (hl : vs.length = ps.length) (r : Vals vs us)
    (x : InCallC s s.heap.objs.size (bindL (envOfC qual scope s.heap.objs.size f cd).kindOf (ps.zip us) fun _ => none) (cellsFrom (s.heap.objs.size + 1) scope.names []) (bindC (envOfC qual scope s.heap.objs.size f cd).kindOf (ps.zip us) fun _ => none) s1) :
    Inv (cxOf CX P w K mg base N qual scope f cd A outer s H E) [] (start N vs) H s1 := by
  have hpl : ps.length ≤ N.length := by have := congrArg List.length S.pre; rw [List.length_take] at this; omega
  obtain ⟨h1, tk, rfl, hk⟩ := x.done
  have noA : ∀ b : Addr, b ∉ (cxOf CX P w K mg base N qual scope f cd A outer s H E).ex := fun b z => absurd (show b ∈ ([] : List Addr) from z) (by simp)
  refine ⟨⟨e0.mod, S.kind, rfl, rfl, Nat.le_refl _, fun y z c h1 h2 => ?_, fun y hy => ?_, fun y c _ h => ?_, fun _ => hd, Around.frames_deeper e0.frames, .inr ⟨rfl, rfl⟩, fun b z => absurd z (noA b), e0.bs, e0.bsz, fun b _ _ => noA b, fun b z => absurd z (noA b), e0.funs, e0.frf⟩,
    rfl, e0.bare, Un.kept hk, ⟨_, x.toInCall.ns, fun i y v h1 h2 h3 => ?_⟩, fun y c h => ⟨_, x.cell y c h⟩, e0.hok.fresh (Nat.le_refl _), fun y c h => ?_, fun p hp => absurd (show p ∈ ([] : List (Addr × Obj)) from hp) (by simp), e0.hok.kept hk, ?_⟩
  · exact name_of_addr x.apart (PySem.mem_of_lookup h1) (PySem.mem_of_lookup h2)
  · have hy : scope.names.lookup y = some .cell ∨ scope.names.lookup y = some .free := hy
    rcases hy with hy | hy
    · exact cell_has hy
    · exact absurd rfl (S.nofree _ (PySem.mem_of_lookup hy))
  · exact Nat.le_of_lt (x.above y c (PySem.mem_of_lookup h))
  · have hi : i < vs.length := by
      unfold start at h2
      by_cases hi : i < vs.length
      · exact hi
      · rw [List.getElem?_append_right (by simpa using hi)] at h2
        rw [List.getElem?_replicate] at h2
        split at h2 <;> cases h2
    have ha : vs[i]? = some v := by
      unfold start at h2
      rw [List.getElem?_append_left (by simpa using hi), List.getElem?_map] at h2
      cases e : vs[i]? with
      | none => rw [e] at h2; cases h2
      | some a => rw [e] at h2; cases h2; rfl
    obtain ⟨u, hu, rv⟩ := r.get ha
    have hp : ps[i]? = some y := by
      rw [← S.pre, List.getElem?_take_of_lt (by omega)]; exact h1
    have ndP : ps.Nodup := by rw [← S.pre]; exact S.nd.sublist (List.take_sublist _ _)
    refine ⟨u, rv, ?_⟩
    rcases S.par y (List.mem_of_getElem? hp) with k | k
    · exact .inl ⟨k, bindL_get ndP hp hu k⟩
    · obtain ⟨c, e⟩ := cell_has (n := s.heap.objs.size + 1) k
      refine .inr ⟨.inl k, c, e, ?_⟩
      have q := x.cell y c e
      rw [bindC_get ndP hp hu (by show scope.names.lookup y ≠ _; rw [k]; decide)] at q
      exact q
  · exact e0.hok.fresh (Nat.le_of_lt (x.above y c (PySem.mem_of_lookup h)))
  · unfold start
    show _ = N.length
    rw [List.length_append, List.length_map, List.length_replicate]
    omega
theorem fn_of {CX : CXT} {P : Program} {w : World} {K : PySem.W.Frag} {mg : Str → Option Value} {base : Heap} {k : Nat} {f : Addr} {name qual : Str} {params : Arguments} {body : List Stmt} {scope : Scope} {dV kV doc pm cdv ct oc : Value} {an od : Option Addr}
    {osl : Array (Option Value)} {N ps : List Str} {sp : Sp} (lk : K.lookup f = some ⟨oc, od, .func (PySem.W.fnOf name qual params body scope dV kV doc pm an cdv ct), osl⟩) (hcd : PySem.W.codeIn K cdv qual = true) (S : FnScope N ps scope)
    (len : ∀ vs H Q E, sp vs H Q E → vs.length = ps.length)
    (hbody : ∀ (A : Around) (outer : List Env) (s : Shared) (H : Hp) (vs : List V) (Q : VK) (E : XK), Room k (A.deeper (envOfC qual scope s.heap.objs.size f cdv)) → sp vs H Q E →
      ∃ t, PSs (cxOf CX P w K mg base N qual scope f cdv A outer s H E) body t ∧ t { nx := fun _ H' => Q .non H', rt := Q } (start N vs) H) :
    FnOk P w K mg base CX (k + 1) f (PySem.W.fnOf name qual params body scope dV kV doc pm an cdv ct) ps sp := by
  refine ⟨len, fun A outer s H args us vs Q E hr e0 hb r hsp => ?_⟩
  have hl := len _ _ _ _ hsp
  have KX : K.In s.heap := e0.mod.kin.keeps fun b o e => (e0.bs b o e).1
  have lim : s.heap.NoLimit := e0.mod.nolimit.keeps fun b o e => (e0.bs b o e).1
  have hkind : ∀ y ∈ ps.zip us, scope.names.lookup y.1 = some .local ∨ (scope.names.lookup y.1 = some .cell ∧ ((cellsFrom (s.heap.objs.size + 1) scope.names []).lookup y.1).isSome = true) := fun ⟨n, v⟩ hy => by
    rcases S.par n (List.of_mem_zip hy).1 with q | q
    · exact .inl q
    · exact .inr ⟨q, PySem.W.cellsFrom_some _ _ _ (.inl q)⟩
  refine codeAny_call_function hr.depth (KX _ _ lk) rfl S.co S.gen rfl (PySem.W.codeRec_of KX hcd) (hb _ _ _ _ ?_)
  refine wpAny_newFunctionEnv_cells S.kind hkind fun env he s1 x => ?_
  subst he
  refine ⟨lim.keeps x.toInCall.keep, codeAny_func ?_⟩
  obtain ⟨t, ht, hq⟩ := hbody A outer s H vs Q E (hr.deeper _) hsp
  have I : Inv (cxOf CX P w K mg base N qual scope f cdv A outer s H E) [] (start N vs) H s1 := inv_start S hr.hd e0 hl r x
  refine wpAny_mono (ht [] s1 (start N vs) H _ I hq) (fun fl s' hs => ?_) fun e s' hs => hs
  have fin : ∀ {σ' : St} {H' : Hp} {v : V} {u : Value}, Inv (cxOf CX P w K mg base N qual scope f cdv A outer s H E) [] σ' H' s' → RelV v u → Q v H' → CE outer P w H s Q u s' :=
    fun {σ' H' v u} J rv q => ⟨v, H', J.os, J.bare, J.base, J.hok, rv, q⟩
  cases fl with
  | ret u =>
    obtain ⟨v, σ', H', J, rv, q⟩ := hs
    exact fin J rv q
  | next =>
    obtain ⟨σ', H', J, q⟩ := hs
    exact fin (v := V.non) (u := Value.none) J rfl q
  | brk =>
    obtain ⟨_, _, _, q⟩ := hs
    exact False.elim q
  | cont =>
    obtain ⟨_, _, _, q⟩ := hs
    exact False.elim q
end L2
namespace L2
open PySem PySem.Spec PyProof.Rows
section
variable {X : Cx} {x : Str} {p pos : Pos} {e : Expr} {es : List Expr} {t : TA} {id T : String} {r : List V → Hp → VK → Prop}
def tCB (r : List V → Hp → VK → Prop) (t : TA) : TE := fun σ H Q => t σ H fun vs H1 => r vs H1 Q
theorem pe_callB (hc : CallR X (.builtin id) r) (hg : Gl X x) (hm : X.mg x = none) (hv : bootBuiltins x = some (.builtin id)) (ha : PA X (e :: es) t) (hn : x ≠ "__name__" := by decide) (hdb : (x == ("__debug__" : Str)) = false := by decide)
    (he : starEach (e :: es) X.env = (false, eval e X.env) :: starEach es X.env := by rfl) (hpl : (backTo pos (starEach es X.env)).any (·.1) = false := by rfl) : PE X (.Call (.Name x p) (e :: es) [] pos) (tCB r t) := by
  intro pins s σ H Q I h
  refine wpAny_Call_Name_kw (ld_blt I hg hm hv ?_ hn hdb)
  exact PyProof.Rows.callWith_builtin1 (thn (ha pos pins s σ H _ I h) fun us s1 ⟨vs, H1, I1, r1, q1⟩ => hc pins s1 σ H1 vs us Q I1 r1 q1) he hpl
theorem pe_callTy (hc : CallR X (.type T) r) (hg : Gl X x) (hm : X.mg x = none) (hv : bootBuiltins x = some (.type T)) (ha : PA X (e :: es) t) (hn : x ≠ "__name__" := by decide) (hdb : (x == ("__debug__" : Str)) = false := by decide)
    (he : starEach (e :: es) X.env = (false, eval e X.env) :: starEach es X.env := by rfl) (hpl : (backTo pos (starEach es X.env)).any (·.1) = false := by rfl) : PE X (.Call (.Name x p) (e :: es) [] pos) (tCB r t) := by
  intro pins s σ H Q I h
  refine wpAny_Call_Name_kw (ld_blt I hg hm hv ?_ hn hdb)
  exact PyProof.Rows.callWith_type1 (thn (ha pos pins s σ H _ I h) fun us s1 ⟨vs, H1, I1, r1, q1⟩ => hc pins s1 σ H1 vs us Q I1 r1 q1) he hpl
end
end L2
namespace HT
open PySem PyProof.Rows
section
variable {prog : Program} {w : World} {A : Around} {E : Value → Shared → Prop} {s : Shared}
def sIx (n d : Nat) : Option Int → Nat
  | none => d
  | some v => if v < 0 then (v + (n : Int)).toNat else min v.toNat n
theorem sIx_none (n d : Nat) : sIx n d none = d := rfl
theorem sIx_nat (n d k : Nat) : sIx n d (some (k : Int)) = min k n := by
  show (if (k : Int) < 0 then ((k : Int) + (n : Int)).toNat else min (k : Int).toNat n) = min k n
  rw [if_neg (by omega), Int.toNat_natCast]
end
end HT
namespace L2
open PySem PySem.Spec PyProof.Rows
abbrev TO := St → Hp → (Option Int → Hp → Prop) → Prop
def PO (X : Cx) (e : Option Expr) (t : TO) : Prop :=
  ∀ (pins : List (Addr × Obj)) (s : Shared) (σ : St) (H : Hp) (Q : Option Int → Hp → Prop), Inv X pins σ H s → t σ H Q →
    wpAny (model X.prog X.w) X.A (evalPart e X.env) (fun u s' => ∃ o H', Inv X pins σ H' s' ∧ IsPart u o ∧ Q o H') X.xe s
def tNoPart : TO := fun _ H Q => Q none H
def tPart (t : TE) : TO := fun σ H Q => t σ H fun x H1 => ∃ i, x = .int i ∧ Q (some i) H1
theorem intsAre_of {ns : List Int} : ∀ {us : List Value}, Vals (ns.map V.int) us → IntsAre us ns := by
  induction ns with
  | nil => intro us r; rw [List.map_nil] at r; cases r; exact .nil
  | cons n ns ih =>
    intro us r
    rw [List.map_cons] at r
    cases r with
    | cons r1 r2 =>
      obtain ⟨t, e⟩ := r1
      subst e
      exact .cons n t (ih r2)
section
variable {X : Cx} {e : Expr} {te : TE} {lo hi : Option Expr} {tl th : TO} {pos p2 : Pos}
theorem po_none : PO X none tNoPart := by
  intro pins s σ H Q I h
  rw [evalPart_none]
  exact wpAny_pure ⟨none, H, I, .none, h⟩
theorem po_some (h : PE X e te) : PO X (some e) (tPart te) := by
  intro pins s σ H Q I hw
  rw [evalPart_some]
  refine thn (h pins s σ H _ I hw) fun u s1 ⟨x, H1, I1, r1, q1⟩ => ?_
  obtain ⟨i, rfl, q⟩ := q1
  obtain ⟨t, rfl⟩ := r1
  exact ⟨some i, H1, I1, .int i t, q⟩
def SlR (X : Cx) (r : V → Option Int → Option Int → Hp → VK → Prop) : Prop :=
  ∀ (pins : List (Addr × Obj)) (s : Shared) (σ : St) (H : Hp) (x : V) (v vl vu : Value) (lo hi : Option Int) (sl : Addr) (Q : VK), Inv X pins σ H s → RelV x v → s.heap.IsSliceOf sl vl vu .none → IsPart vl lo → IsPart vu hi → r x lo hi H Q →
    ∃ T id, typeLookup (.type T) "__getitem__" = pure (some (.builtin id)) ∧ s.TypeIs v T ∧ wpAny (model X.prog X.w) X.A (getItem v (.ref sl)) (EP X pins σ Q) X.xe s
def tSl (r : V → Option Int → Option Int → Hp → VK → Prop) (te : TE) (tl th : TO) : TE := fun σ H Q => te σ H fun x H1 => tl σ H1 fun l H2 => th σ H2 fun u H3 => r x l u H3 Q
theorem pe_slice {r : V → Option Int → Option Int → Hp → VK → Prop} (hr : SlR X r) (he : PE X e te) (hl : PO X lo tl) (hu : PO X hi th) : PE X (.Subscript e (.Slice lo hi none p2) pos) (tSl r te tl th) := by
  intro pins s σ H Q I h
  refine Subscript_ (thn (he pins s σ H _ I h) fun v s1 ⟨x, H1, I1, r1, q1⟩ => ?_)
  refine wpAny_Slice (thn (hl pins s1 σ H1 _ I1 q1) fun vl s2 ⟨l, H2, I2, pl, q2⟩ => thn (hu pins s2 σ H2 _ I2 q2) fun vu s3 ⟨u, H3, I3, pu, q3⟩ => ?_)
  rw [evalPart_none]
  refine wpAny_pure ?_
  have I4 : Inv X pins σ H3 { s3 with heap := s3.heap.push { cls := .type "slice", data := .fields #[vl, vu, .none] } } := I3.kept (t' := s3.toks) fun b ob q => Heap.get?_push_of_some _ q
  obtain ⟨T, id, hT, ht, hg⟩ := hr pins { s3 with heap := s3.heap.push { cls := .type "slice", data := .fields #[vl, vu, .none] } } σ H3 x v vl vu l u s3.heap.objs.size Q I4 r1 (Heap.IsSliceOf.new ..) pl pu q3
  show wpAny (model X.prog X.w) X.A (subscriptTail e (.Slice lo hi none p2) v (.ref s3.heap.objs.size)) (EP X pins σ Q) X.xe { s3 with heap := s3.heap.push { cls := .type "slice", data := .fields #[vl, vu, .none] } }
  exact tail_any (ops := [.ref s3.heap.objs.size, v]) ht hT hg (by with_unfolding_all rfl)
def cutV (xs : List V) (lo hi : Option Int) : List V := (xs.drop (HT.sIx xs.length 0 lo)).take (HT.sIx xs.length xs.length hi - HT.sIx xs.length 0 lo)
theorem cutV_length (xs : List V) (lo hi : Option Int) : (cutV xs lo hi).length ≤ xs.length := by
  unfold cutV
  rw [List.length_take, List.length_drop]
  omega
end
end L2
namespace L2
open PySem PySem.Spec PyProof.Rows
def ixN (n : Nat) (i : Int) : Option Nat := if 0 ≤ i then (if i < n then some i.toNat else none) else if -(n : Int) ≤ i then some (i + n).toNat else none
def atI {α : Type} (xs : List α) (i : Int) : Option α := (ixN xs.length i).bind fun j => xs[j]?
theorem ixN_seq {n : Nat} {i : Int} {j : Nat} (h : ixN n i = some j) : seqIndex? i n = some j ∧ j < n ∧ -(n : Int) ≤ i ∧ i < n := by
  unfold ixN at h
  by_cases h0 : 0 ≤ i
  · rw [if_pos h0] at h
    by_cases h1 : i < n
    · rw [if_pos h1] at h
      have e : i.toNat = j := Option.some.inj h
      exact ⟨by rw [seqIndex_of h0 h1, e], by omega, by omega, h1⟩
    · rw [if_neg h1] at h; cases h
  · rw [if_neg h0] at h
    by_cases h1 : -(n : Int) ≤ i
    · rw [if_pos h1] at h
      have e : (i + n).toNat = j := Option.some.inj h
      exact ⟨by rw [seqIndex_neg (by omega) h1, e], by omega, h1, by omega⟩
    · rw [if_neg h1] at h; cases h
theorem atI_get {α : Type} {xs : List α} {i : Int} {v : α} (h : atI xs i = some v) : ∃ j, seqIndex? i xs.length = some j ∧ xs[j]? = some v ∧ j < xs.length ∧ -(xs.length : Int) ≤ i ∧ i < xs.length := by
  unfold atI at h
  cases e : ixN xs.length i with
  | none => rw [e] at h; cases h
  | some j =>
    rw [e] at h
    obtain ⟨h1, h2, h3, h4⟩ := ixN_seq e
    exact ⟨j, h1, h, h2, h3, h4⟩
theorem atI_nat {α : Type} {xs : List α} {j : Nat} {v : α} (h : xs[j]? = some v) : atI xs (j : Int) = some v := by
  have hj : j < xs.length := (List.getElem?_eq_some_iff.mp h).1
  have e : ixN xs.length (j : Int) = some j := by
    unfold ixN
    rw [if_pos (by omega), if_pos (by omega)]; simp
  unfold atI; rw [e]; exact h
def PlainIx (b : Expr) : Prop := ∀ o i, subscripted b false o i = operate [o, i] (getItem o i)
def IxR (X : Cx) (r : R2) : Prop :=
  ∀ (value slice : Expr) (pins : List (Addr × Obj)) (s : Shared) (σ : St) (H : Hp) (x y : V) (v u : Value) (Q : VK), Inv X pins σ H s → RelV x v → RelV y u → r x y H Q →
    subscripted slice false v u = operate [v, u] (getItem v u) → wpAny (model X.prog X.w) X.A (subscriptTail value slice v u) (EP X pins σ Q) X.xe s
def MtR (X : Cx) (id : String) (r : V → List V → Hp → VK → Prop) : Prop :=
  ∀ (pins : List (Addr × Obj)) (s : Shared) (σ : St) (H : Hp) (x : V) (xs : List V) (v : Value) (us : List Value) (Q : VK), Inv X pins σ H s → RelV x v → Vals xs us → r x xs H Q →
    wpAny (model X.prog X.w) X.A (call (.builtin id) (v :: us)) (EP X pins σ Q) X.xe s
section
variable {X : Cx} {a b : Expr} {ta tb : TE} {pos : Pos}
theorem pe_ix {r : R2} (hr : IxR X r) (ha : PE X a ta) (hb : PE X b tb) (hs : PlainIx b) : PE X (.Subscript a b pos) (tOp r ta tb) := by
  intro pins s σ H Q I h
  exact Subscript_ (binT ha hb I h fun v u s2 x y H2 I2 rx ry q => hr a b pins s2 σ H2 x y v u Q I2 rx ry q (hs _ _))
def rIxL (K : PySem.W.Frag) : R2 := fun x y H Q => ∃ p xs i v, x = .ref p ∧ y = .int i ∧ SqL K H p xs ∧ atI xs i = some v ∧ Q v H
theorem ix_list : IxR X (rIxL X.K) := by
  intro value slice pins s σ H x y v u Q I rx ry h hs
  obtain ⟨p, xs, i, z, rfl, rfl, hq, he, q⟩ := h
  cases rx
  obtain ⟨t, rfl⟩ := ry
  obtain ⟨its, r, pl, hz⟩ := I.list hq
  obtain ⟨j, h1, h2, h3, h4, h5⟩ := atI_get he
  obtain ⟨w, ew, rw'⟩ := r.get h2
  have hl := r.length
  have hn := line63
  have fin : EP X pins σ Q w s := ⟨z, H, I, rw', q⟩
  by_cases h0 : 0 ≤ i
  · have hj : i.toNat = j := by
      rw [seqIndex_of h0 h5] at h1
      exact Option.some.inj h1
    exact item_listR pl.isList h0 (by omega) (by rw [hj]; simpa using ew) fin hs
  · have hj : (i + (its.toArray.size : Int)).toNat = j := by
      rw [seqIndex_neg (by omega) h4] at h1
      rw [List.size_toArray, ← hl]
      exact Option.some.inj h1
    exact subscriptTail_builtinR (x := w) pl.isList.typeIs slot_list_getitem.lookup
      (wpAny_getItem_list_neg (Q := fun r s' => r = w ∧ EP X pins σ Q r s') pl.isList (by omega) (by rw [List.size_toArray] <;> omega) (by omega) (by rw [hj]; simpa using ew) ⟨rfl, fin⟩) hs
theorem mapSeq_set (its : List Value) (n j : Nat) (u : Value) : Obj.mapSeq (·.setIfInBounds j u) { cls := .type "list", data := .seq its.toArray n } = { cls := .type "list", data := .seq (its.set j u).toArray n } := by
  simp [Obj.mapSeq]
theorem Inv.lst {pins : List (Addr × Obj)} {σ : St} {H : Hp} {s : Shared} {p : Addr} {xs : List V} (I : Inv X pins σ H s) (h : H p = some (.lst xs)) :
    ∃ (its : List Value) (n : Nat), Vals xs its ∧ s.heap.get? p = some { cls := .type "list", data := .seq its.toArray n } ∧ xs.length ≤ sizeLine := by
  obtain ⟨z, its, n, r, e⟩ := I.hok p _ h
  exact ⟨its, n, r, e, z⟩
theorem Inv.lstUpd {pins : List (Addr × Obj)} {σ : St} {H : Hp} {s : Shared} {p : Addr} {xs ys : List V} {its its' : List Value} {n n' : Nat} {f : Obj → Obj} (I : Inv X pins σ H s) (h : H p = some (.lst xs))
    (ho : s.heap.get? p = some { cls := .type "list", data := .seq its.toArray n }) (hf : f { cls := .type "list", data := .seq its.toArray n } = { cls := .type "list", data := .seq its'.toArray n' }) (r : Vals ys its') (hz : ys.length ≤ sizeLine) (t : Nat) :
    Inv X pins σ (upd H p (.lst ys)) { s with heap := s.heap.update p f, toks := t } := by
  have e : (s.heap.update p f).get? p = some { cls := .type "list", data := .seq its'.toArray n' } := by
    rw [Heap.get?_update_self f ho (by rw [hf] <;> rfl), hf]
  refine I.write (x := p) (e := p) (by rw [h]; trivial) (.inl rfl) (fun b u hb q => (Heap.get?_update_other _ _ (Ne.symm hb)).trans q) ⟨_, e⟩ ?_
  exact ⟨hz, its', n', r, e⟩
def rSetL : V → V → V → Hp → (Hp → Prop) → Prop := fun o i v H Q => ∃ p xs k j, o = .ref p ∧ i = .int k ∧ H p = some (.lst xs) ∧ ixN xs.length k = some j ∧ Q (upd H p (.lst (xs.set j v)))
theorem set_list : PSet X rSetL := by
  intro pins s σ H o i v ov iv u Q I ro ri rv h
  obtain ⟨p, xs, k, j, rfl, rfl, hp, hj, q⟩ := h
  cases ro
  obtain ⟨t, rfl⟩ := ri
  obtain ⟨its, n, r, ho, hz⟩ := I.lst hp
  obtain ⟨h1, h2, h3, h4⟩ := ixN_seq hj
  have hl := r.length
  have hn := line63
  have I' : Inv X pins σ (upd H p (.lst (xs.set j v))) { s with heap := s.heap.update p (Obj.mapSeq (·.setIfInBounds j u)) } :=
    I.lstUpd hp ho (mapSeq_set its n j u) (r.set rv j) (by rw [List.length_set]; exact hz) s.toks
  by_cases h0 : 0 ≤ k
  · have hk : k.toNat = j := by
      rw [seqIndex_of h0 h4] at h1
      exact Option.some.inj h1
    exact PySem.W.ki_setAt ho h0 (by omega) (by rw [List.size_toArray, ← hl]; exact h4) (by rw [hk]; exact ⟨_, I', q⟩)
  · have hk : (k + (its.toArray.size : Int)).toNat = j := by
      rw [seqIndex_neg (by omega) h3] at h1
      rw [List.size_toArray, ← hl]
      exact Option.some.inj h1
    exact PySem.W.ki_setBack ho (by omega) (by rw [List.size_toArray, ← hl]; exact h3) (by omega) (by rw [hk]; exact ⟨_, I', q⟩)
theorem slice_bounds (lo hi : Option Int) (n : Nat) : (sliceBounds lo hi none n).1 = ((HT.sIx n 0 lo : Nat) : Int) ∧ (sliceBounds lo hi none n).2.1 = ((HT.sIx n n hi : Nat) : Int) ∧ (sliceBounds lo hi none n).2.2 = 1 := by
  refine ⟨?_, ?_, rfl⟩
  · cases lo with
    | none => simp [sliceBounds, HT.sIx]
    | some i =>
      simp only [sliceBounds, HT.sIx, Option.getD_none, show (1 : Int) > 0 by decide, if_true]
      by_cases h : i < 0
      · simp only [h, if_true] <;> omega
      · simp only [h, if_false] <;> omega
  · cases hi with
    | none => simp [sliceBounds, HT.sIx]
    | some i =>
      simp only [sliceBounds, HT.sIx, Option.getD_none, show (1 : Int) > 0 by decide, if_true]
      by_cases h : i < 0
      · simp only [h, if_true] <;> omega
      · simp only [h, if_false] <;> omega
theorem slicePick_cut (its : List Value) (lo hi : Option Int) : slicePick its.toArray lo hi none = ((its.drop (HT.sIx its.length 0 lo)).take (HT.sIx its.length its.length hi - HT.sIx its.length 0 lo)).toArray := by
  obtain ⟨h1, h2, h3⟩ := slice_bounds lo hi its.toArray.size
  unfold slicePick
  rw [h1, h2, h3]
  simp only [sliceRange_one, pick_run, List.size_toArray] <;> rfl
def rSlL (K : PySem.W.Frag) : V → Option Int → Option Int → Hp → VK → Prop := fun x lo hi H Q => ∃ a xs, x = .ref a ∧ SqL K H a xs ∧ ∀ p, H p = none → Q (.ref p) (upd H p (.lst (cutV xs lo hi)))
theorem sl_list : SlR X (rSlL X.K) := by
  intro pins s σ H x v vl vu lo hi sl Q I rx hs pl pu h
  obtain ⟨a, xs, rfl, hx, q⟩ := h
  cases rx
  obtain ⟨its, r, ht, hz⟩ := I.list hx
  have hlen := r.length
  refine ⟨"list", _, slot_list_getitem.lookup, ht.isList.typeIs, ?_⟩
  refine wpAny_getItem_list_slice ht.isList hs pl pu .none (by simp) ?_ (by rw [List.size_toArray] <;> omega)
  rw [slicePick_cut, ← hlen]
  refine ⟨.ref s.heap.objs.size, _, I.laid (t' := s.toks) (o := .lst (cutV xs lo hi)) (fun b ob q => Heap.get?_push_of_some _ q) (Nat.le_refl _) ?_, rfl, q _ (I.hok.fresh (Nat.le_refl _))⟩
  exact ⟨Nat.le_trans (cutV_length xs lo hi) hz, _, 0, (r.drop (HT.sIx xs.length 0 lo)).take (HT.sIx xs.length xs.length hi - HT.sIx xs.length 0 lo), Heap.get?_push_size _ rfl⟩
def flatV : V → Bool
  | .non => true
  | .bl _ => true
  | .int _ => true
  | .str _ => true
  | _ => false
def eqV : V → V → Bool
  | .non, .non => true
  | .bl a, .bl b => a == b
  | .bl a, .int b => (if a then 1 else 0) == b
  | .int a, .bl b => a == (if b then 1 else 0)
  | .int a, .int b => a == b
  | .str a, .str b => a == b
  | _, _ => false
theorem eqAt_V {A : Around} {s : Shared} {y x : V} {u v : Value} (ry : RelV y u) (rx : RelV x v) (fy : flatV y = true) (fx : flatV x = true) : SeqAt.EqAt A s u v (eqV y x) := by
  cases y with
  | non =>
    cases ry
    cases x with
    | non => cases rx; exact SeqAt.EqAt.same _
    | bl b => cases rx; exact SeqAt.EqAt.none_bool b
    | int b => obtain ⟨t, rfl⟩ := rx; exact SeqAt.EqAt.none_int b t
    | str b => obtain ⟨t, rfl⟩ := rx; exact SeqAt.EqAt.none_str b t
    | _ => exact absurd (show false = true from fx) Bool.false_ne_true
  | bl a =>
    cases ry
    cases x with
    | non => cases rx; exact SeqAt.EqAt.bool_none a
    | bl b => cases rx; exact SeqAt.EqAt.bool_bool a b
    | int b => obtain ⟨t, rfl⟩ := rx; exact SeqAt.EqAt.bool_int a b t
    | str b => obtain ⟨t, rfl⟩ := rx; exact SeqAt.EqAt.bool_str a b t
    | _ => exact absurd (show false = true from fx) Bool.false_ne_true
  | int a =>
    obtain ⟨t', rfl⟩ := ry
    cases x with
    | non => cases rx; exact SeqAt.EqAt.int_none a t'
    | bl b => cases rx; exact SeqAt.EqAt.int_bool a t' b
    | int b => obtain ⟨t, rfl⟩ := rx; exact SeqAt.EqAt.int_int a t' b t
    | str b => obtain ⟨t, rfl⟩ := rx; exact SeqAt.EqAt.int_str a t' b t
    | _ => exact absurd (show false = true from fx) Bool.false_ne_true
  | str a =>
    obtain ⟨t', rfl⟩ := ry
    cases x with
    | non => cases rx; exact SeqAt.EqAt.str_none a t'
    | bl b => cases rx; exact SeqAt.EqAt.str_bool a t' b
    | int b => obtain ⟨t, rfl⟩ := rx; exact SeqAt.EqAt.str_int a t' b t
    | str b => obtain ⟨t, rfl⟩ := rx; exact SeqAt.EqAt.str_str a t' b t
    | _ => exact absurd (show false = true from fx) Bool.false_ne_true
  | _ => exact absurd (show false = true from fy) Bool.false_ne_true
def eqU (x : V) (u : Value) : Bool := match u with
  | .none => eqV .non x
  | .bool b => eqV (.bl b) x
  | .int i _ => eqV (.int i) x
  | .str z _ => eqV (.str z) x
  | _ => false
theorem eqU_of {x y : V} {u : Value} (r : RelV y u) (f : flatV y = true) : eqU x u = eqV y x := by
  cases y with
  | non => cases r; rfl
  | bl b => cases r; rfl
  | int i => obtain ⟨t, rfl⟩ := r; rfl
  | str z => obtain ⟨t, rfl⟩ := r; rfl
  | _ => exact absurd (show false = true from f) Bool.false_ne_true
theorem any_eqU {x : V} : ∀ {xs : List V} {us : List Value}, Vals xs us → xs.all flatV = true → us.any (eqU x) = xs.any fun y => eqV y x
  | _, _, .nil, _ => rfl
  | y :: xs, u :: us, .cons r t, f => by
    rw [List.all_cons, Bool.and_eq_true] at f
    rw [List.any_cons, List.any_cons, eqU_of r f.1, any_eqU t f.2]
theorem mem_eqAt {A : Around} {s : Shared} {x : V} {v : Value} (rx : RelV x v) (fx : flatV x = true) : ∀ {xs : List V} {us : List Value}, Vals xs us → xs.all flatV = true → ∀ u ∈ us, SeqAt.EqAt A s u v (eqU x u)
  | _, _, .nil, _ => fun u hu => by cases hu
  | y :: xs, u :: us, .cons r t, f => fun u' hu => by
    rw [List.all_cons, Bool.and_eq_true] at f
    rcases List.mem_cons.mp hu with rfl | hu
    · rw [eqU_of r f.1]; exact eqAt_V r rx f.1 fx
    · exact mem_eqAt rx fx t f.2 u' hu
def inV (x : V) (xs : List V) : Bool := xs.any fun y => eqV y x
def rIn (K : PySem.W.Frag) (neg : Bool) : R2 := fun x y H Q => ∃ p xs, y = .ref p ∧ (SqL K H p xs ∨ SqT K H p xs) ∧ flatV x = true ∧ xs.all flatV = true ∧ Q (.bl (if neg then !inV x xs else inV x xs)) H
theorem op_in_seq : OpR X (compareOp .In) (rIn X.K false) := by
  intro pins s σ H x y v u Q I rx ry h
  obtain ⟨p, xs, rfl, hq, fx, fs, q⟩ := h
  cases ry
  rcases hq with hq | hq
  · obtain ⟨its, r, pl, hz⟩ := I.list hq
    refine SeqAt.in_listAt (eqU x) pl.isList (fun w hw => mem_eqAt rx fx r fs w (by simpa using hw)) ⟨.bl _, H, I, rfl, ?_⟩
    rw [show its.toArray.any (eqU x) = its.any (eqU x) by simp, any_eqU r fs]
    exact q
  · obtain ⟨its, r, pl, hz⟩ := I.tuple hq
    refine SeqAt.in_tupleAt (eqU x) pl (fun w hw => mem_eqAt rx fx r fs w (by simpa using hw)) ⟨.bl _, H, I, rfl, ?_⟩
    rw [show its.toArray.any (eqU x) = its.any (eqU x) by simp, any_eqU r fs]
    exact q
theorem call_len_seq : CallR X (.builtin "len") (fun xs H Q => ∃ p ys, xs = [.ref p] ∧ (SqL X.K H p ys ∨ SqT X.K H p ys) ∧ Q (.int ys.length) H) := by
  intro pins s σ H xs us Q I r h
  obtain ⟨p, ys, rfl, hq, q⟩ := h
  obtain ⟨u, rfl, rx⟩ := vals1 r
  cases rx
  have hn := line63
  rcases hq with hq | hq
  · obtain ⟨its, r', pl, hz⟩ := I.list hq
    have hlen := r'.length
    exact Calls.call_len_list pl.isList (by simp only [List.size_toArray] <;> omega) ⟨.int ys.length, H, I.tok _, ⟨s.toks + 1, by rw [List.size_toArray, hlen]⟩, q⟩
  · obtain ⟨its, r', pl, hz⟩ := I.tuple hq
    have hlen := r'.length
    exact len_tuple pl (by simp only [List.size_toArray] <;> omega) ⟨.int ys.length, H, I.tok _, ⟨s.toks + 1, by rw [List.size_toArray, hlen]⟩, q⟩
theorem call_list_of : CallR X (.type "list") (fun xs H Q => ∃ p ys, xs = [.ref p] ∧ (SqL X.K H p ys ∨ SqT X.K H p ys) ∧ ∀ l, H l = none → Q (.ref l) (upd H l (.lst ys))) := by
  intro pins s σ H xs us Q I r h
  obtain ⟨p, ys, rfl, hq, q⟩ := h
  obtain ⟨u, rfl, rx⟩ := vals1 r
  cases rx
  have fin : ∀ (its : List Value), Vals ys its → ys.length ≤ sizeLine → ∀ (h' : Heap) (c' : Nat), (∀ b o', s.heap.get? b = some o' → h'.get? b = some o') →
      h'.get? s.heap.objs.size = some { cls := .type "list", dict := none, data := .seq its.toArray c', slots := #[] } → EP X pins σ Q (.ref s.heap.objs.size) { s with heap := h' } := fun its r' hz h' c' kp e =>
    ⟨.ref s.heap.objs.size, _, I.laid (t' := s.toks) kp (Nat.le_refl _) (show ObjOk X.prog X.w _ h' _ (.lst ys) from ⟨hz, its, c', r', e⟩), rfl, q _ (I.hok.fresh (Nat.le_refl _))⟩
  rcases hq with hq | hq
  · obtain ⟨its, r', pl, hz⟩ := I.list hq
    have hlen := r'.length
    obtain ⟨o, ho, hc, n, hd⟩ := pl.isList
    exact call_list_seq p (.inl rfl) ho hc hd (fun h' c' kp e => fin its r' hz h' c' kp e) (by simp only [List.size_toArray] <;> omega)
  · obtain ⟨its, r', pl, hz⟩ := I.tuple hq
    have hlen := r'.length
    obtain ⟨o, ho, hc, n, hd⟩ := pl
    exact call_list_seq p (.inr rfl) ho hc hd (fun h' c' kp e => fin its r' hz h' c' kp e) (by simp only [List.size_toArray] <;> omega)
theorem call_tuple_of : CallR X (.type "tuple") (fun xs H Q => ∃ p ys, xs = [.ref p] ∧ ((SqL X.K H p ys ∧ ∀ l, H l = none → Q (.ref l) (upd H l (.tup ys))) ∨ (SqT X.K H p ys ∧ Q (.ref p) H))) := by
  intro pins s σ H xs us Q I r h
  obtain ⟨p, ys, rfl, h⟩ := h
  obtain ⟨u, rfl, rx⟩ := vals1 r
  cases rx
  rcases h with ⟨hq, q⟩ | ⟨hq, q⟩
  · obtain ⟨its, r', pl, hz⟩ := I.list hq
    have hlen := r'.length
    refine call_tuple_list pl.isList (fun h' kp => ?_) (by simp only [List.size_toArray] <;> omega)
    have I1 : Inv X pins σ H { s with heap := h' } := I.kept (t' := s.toks) kp
    have I2 : Inv X pins σ (upd H h'.objs.size (.tup ys)) { s with heap := h'.push { cls := .type "tuple", data := .seq its.toArray } } :=
      I1.laid (t' := s.toks) (fun b o e => Heap.get?_push_of_some _ e) (Nat.le_refl _) (show ObjOk X.prog X.w _ _ _ (.tup ys) from ⟨hz, its, r', IsTup.new _ _⟩)
    exact ⟨.ref h'.objs.size, _, I2, rfl, q _ (I1.hok.fresh (Nat.le_refl _))⟩
  · obtain ⟨its, r', pl, hz⟩ := I.tuple hq
    exact call_tuple_same pl ⟨.ref p, H, I, rfl, q⟩
def tyV (K : PySem.W.Frag) (T : String) (x : V) (H : Hp) : Prop := match x with
  | .str _ => T = "str"
  | .int _ => T = "int"
  | .ref p => (T = "list" ∧ ∃ xs, SqL K H p xs) ∨ (T = "tuple" ∧ ∃ o, K.lookup p = some o ∧ o.cls = .type "tuple" ∧ o.dict = none) ∨
      (T = "dict" ∧ ((∃ kvs, H p = some (.dK kvs)) ∨ ∃ kvs, H p = some (.dT kvs))) ∨ (T = "set" ∧ ∃ S n, H p = some (.set S n))
  | _ => False
theorem tyV_is {pins : List (Addr × Obj)} {σ : St} {H : Hp} {s : Shared} {T : String} {x : V} {v : Value} (I : Inv X pins σ H s) (r : RelV x v) (ty : tyV X.K T x H) :
    s.TypeIs v T ∧ ∀ a, v = .ref a → ∃ ob, s.heap.get? a = some ob ∧ ob.dict = none := by
  cases x with
  | str z =>
    obtain ⟨t, rfl⟩ := r
    cases (show T = "str" from ty)
    exact ⟨typeIs_str s z t, fun _ e => nomatch e⟩
  | int i =>
    obtain ⟨t, rfl⟩ := r
    cases (show T = "int" from ty)
    exact ⟨typeIs_int s i t, fun _ e => nomatch e⟩
  | ref p =>
    cases r
    rcases ty with ⟨rfl, xs, hq⟩ | ⟨rfl, o, hk, hc, hd⟩ | ⟨rfl, hk⟩ | ⟨rfl, S, n, hk⟩
    · obtain ⟨its, _, pl, _⟩ := I.list hq
      refine ⟨pl.isList.typeIs, fun a e => ?_⟩
      cases e
      obtain ⟨o, n, e, c, hd, _⟩ := pl
      exact ⟨o, e, hd⟩
    · refine ⟨⟨o, I.kIn p o hk, hc⟩, fun a e => ?_⟩
      cases e
      exact ⟨o, I.kIn _ o hk, hd⟩
    · have z : ∃ o, s.heap.get? p = some o ∧ o.ExactDict := by
        rcases hk with ⟨kvs, hk⟩ | ⟨kvs, hk⟩
        · obtain ⟨_, _, _, _, o, _, _, e, ex, _⟩ := I.hok p _ hk
          exact ⟨o, e, ex⟩
        · obtain ⟨_, _, _, _, o, _, _, e, ex, _⟩ := I.hok p _ hk
          exact ⟨o, e, ex⟩
      obtain ⟨o, e, ex⟩ := z
      refine ⟨⟨o, e, ex.1⟩, fun a e2 => ?_⟩
      cases e2
      exact ⟨o, e, ex.2.1⟩
    · obtain ⟨o, _, _, _, e, ex, _⟩ := I.hok p _ hk
      refine ⟨⟨o, e, ex.1⟩, fun a e2 => ?_⟩
      cases e2
      exact ⟨o, e, ex.2.1⟩
  | _ => exact False.elim ty
def tBM (K : PySem.W.Frag) (T : String) (r : V → List V → Hp → VK → Prop) (to : TE) (t : TA) : TE := fun σ H Q => to σ H fun x H1 => tyV K T x H1 ∧ t σ H1 fun xs H2 => r x xs H2 Q
variable {o e : Expr} {es : List Expr} {to : TE} {t : TA} {name : Str} {apos cpos : Pos} {T id : String} {r : V → List V → Hp → VK → Prop}
theorem pe_bm (pa : PlainAttrs T) (slot : Slot T name id) (hty : typeOf (.builtin id) = pure (.type "method_descriptor")) (hm : MtR X id r) (ho : PE X o to) (ha : PA X (e :: es) t)
    (hbase : attributeBase o name X.env (eval o X.env) = eval o X.env := by rfl)
    (hfew : ((backTo cpos (starEach (e :: es) X.env)).all (fun x => !x.1) && (backToKw cpos (keywordEach [] X.env)).all (fun x => x.1.isSome)
      && decide ((e :: es).length + ([] : List Keyword).length + (if ([] : List Keyword).isEmpty then 0 else 1) < 30)) = true := by rfl)
    (hline : (apos.endLine == cpos.line) = true := by rfl) (hs : starEach (e :: es) X.env = (false, eval e X.env) :: starEach es X.env := by rfl) (hplain : (backTo cpos (starEach es X.env)).any (·.1) = false := by rfl) :
    PE X (.Call (.Attribute o name apos) (e :: es) [] cpos) (tBM X.K T r to t) := by
  intro pins s σ H Q I h
  refine wpAny_Call_method_late hbase hfew hline rfl (thn (ho pins s σ H _ I h) fun v s1 ⟨x, H1, I1, r1, ty, q1⟩ => ?_)
  obtain ⟨h1, h2⟩ := tyV_is I1 r1 ty
  refine ⟨T, id, pa, slot, hty, h1, h2, ?_⟩
  have hA := ha cpos pins s1 σ H1 _ I1 q1
  rw [hs] at hA ⊢
  refine Calls.callWith_builtin (by show (false || (backTo cpos (starEach es X.env)).any (·.1)) = false; rw [hplain] <;> rfl) (Calls.evalArgs_plain ?_)
  exact thn hA fun us s2 ⟨vs, H2, I2, r2, q2⟩ => hm pins s2 σ H2 x vs v us Q I2 r1 r2 q2
end
end L2
namespace L2
open PySem PySem.Spec PyProof.Rows
def MtM (X : Cx) (id : String) (r : V → List V → Hp → VK → Prop) : Prop :=
  ∀ (pins : List (Addr × Obj)) (s : Shared) (σ : St) (H : Hp) (x : V) (xs : List V) (v : Value) (us : List Value) (Q : VK), Inv X pins σ H s → RelV x v → Vals xs us → r x xs H Q →
    wpAny (model X.prog X.w) X.A (call (.builtin id) (v :: us)) (EP X pins σ Q) X.xe s
theorem Vals.one : ∀ {x : V} {us : List Value}, Vals [x] us → ∃ u, us = [u] ∧ RelV x u
  | _, _, .cons r .nil => ⟨_, rfl, r⟩
theorem Vals.eraseIdx : ∀ {xs : List V} {us : List Value} (i : Nat), Vals xs us → Vals (xs.eraseIdx i) (us.eraseIdx i)
  | _, _, _, .nil => .nil
  | _, _, 0, .cons _ t => t
  | _, _, i + 1, .cons r t => .cons r (Vals.eraseIdx i t)
theorem Vals.rep {xs : List V} {us : List Value} (h : Vals xs us) : ∀ k : Nat, Vals (List.replicate k xs).flatten (List.replicate k us).flatten
  | 0 => .nil
  | k + 1 => by
    rw [List.replicate_succ, List.replicate_succ, List.flatten_cons, List.flatten_cons]
    exact Vals.append h (Vals.rep h k)
theorem len_erase {α : Type} : ∀ (l : List α) (i : Nat), (l.eraseIdx i).length ≤ l.length
  | [], _ => Nat.le_refl _
  | _ :: _, 0 => Nat.le_succ _
  | _ :: r, i + 1 => Nat.succ_le_succ (len_erase r i)
theorem foldl_rep (its : List Value) : ∀ (k : Nat) (acc : List Value),
    List.foldl (fun x1 x2 => x1 ++ x2) acc.toArray (List.replicate k its.toArray) = (acc ++ (List.replicate k its).flatten).toArray
  | 0, acc => by simp
  | k + 1, acc => by
    have e : acc.toArray ++ its.toArray = (acc ++ its).toArray := by simp
    have e2 : (acc ++ its) ++ (List.replicate k its).flatten = acc ++ (List.replicate (k + 1) its).flatten := by
      rw [List.replicate_succ, List.flatten_cons, List.append_assoc]
    rw [← e2, ← foldl_rep its k (acc ++ its), ← e, List.replicate_succ, List.foldl_cons]
section
variable {X : Cx} {pins : List (Addr × Obj)} {σ : St} {H : Hp} {s : Shared} {l b : Addr} {xs ys zs : List V}
theorem Inv.lset {its its' : List Value} {n : Nat} {f : Array Value → Array Value} {t' : Nat} (I : Inv X pins σ H s) (hH : H l = some (.lst xs))
    (e : s.heap.get? l = some { cls := .type "list", data := .seq its.toArray n }) (hf : f its.toArray = its'.toArray) (hv : Vals ys its') (hz : ys.length ≤ sizeLine) :
    Inv X pins σ (upd H l (.lst ys)) { s with heap := s.heap.update l (Obj.mapSeq f), toks := t' } := by
  have q := PySem.IsL.update e f
  rw [hf] at q
  refine I.write (x := l) (e := l) (by rw [hH]; exact trivial) (.inl rfl) (fun b' u hb hu => (Heap.get?_update_other s.heap (Obj.mapSeq f) (Ne.symm hb)).trans hu) ⟨_, q⟩ ?_
  exact ⟨hz, its', _, hv, q⟩
theorem Inv.lnew {its : List Value} {t' : Nat} (I : Inv X pins σ H s) (hv : Vals ys its) (hz : ys.length ≤ sizeLine) :
    Inv X pins σ (upd H s.heap.objs.size (.lst ys)) { s with heap := s.heap.push { cls := .type "list", data := .seq its.toArray }, toks := t' } :=
  I.laid (fun _ _ q => Heap.get?_push_of_some _ q) (Nat.le_refl _) ⟨hz, its, 0, hv, Heap.get?_push_size _ rfl⟩
theorem Inv.fresh (I : Inv X pins σ H s) : H s.heap.objs.size = none := I.hok.fresh (Nat.le_refl _)
theorem Inv.lstM (I : Inv X pins σ H s) (hH : H l = some (.lst xs)) : xs.length ≤ sizeLine ∧ ∃ (its : List Value) (n : Nat), Vals xs its ∧ xs.length = its.length ∧ s.heap.get? l = some { cls := .type "list", data := .seq its.toArray n } := by
  obtain ⟨z, its, n, r, e⟩ := I.hok l _ hH
  exact ⟨z, its, n, r, r.length, e⟩
theorem notLongL {n : Nat} (h : n ≤ sizeLine) : Builtin.List.listTooLong n = false := by
  unfold Builtin.List.listTooLong
  exact decide_eq_false (by omega)
end
section
variable {X : Cx}
def rAppend : V → List V → Hp → VK → Prop := fun x vs H Q => ∃ l xs y, x = .ref l ∧ vs = [y] ∧ H l = some (.lst xs) ∧ xs.length < sizeLine ∧ Q .non (upd H l (.lst (xs ++ [y])))
theorem mt_append : MtM X "list.append" rAppend := by
  intro pins s σ H x vs v us Q I rx rv h
  obtain ⟨l, xs, y, rfl, rfl, hH, hz, q⟩ := h
  cases rx
  obtain ⟨u, rfl, ru⟩ := rv.one
  obtain ⟨z, its, n, r, hl, e⟩ := I.lstM hH
  refine call_meets F.slot_list_append ⟨_, e, rfl⟩ F.entry_list_append (F.args_list_append_2 _ _) (PySem.list_append l its.toArray n u (by rw [List.size_toArray]; omega)) ⟨e, ?_⟩
  refine ⟨.non, _, I.lset (its' := its ++ [u]) hH e (by simp) (r.append (.cons ru .nil)) ?_, rfl, q⟩
  rw [List.length_append, List.length_singleton]
  omega
def rExtend : V → List V → Hp → VK → Prop := fun x vs H Q => ∃ l b xs zs, x = .ref l ∧ vs = [.ref b] ∧ H l = some (.lst xs) ∧ H b = some (.lst zs) ∧ xs.length + zs.length ≤ sizeLine ∧ Q .non (upd H l (.lst (xs ++ zs)))
theorem mt_extend : MtM X "list.extend" rExtend := by
  intro pins s σ H x vs v us Q I rx rv h
  obtain ⟨l, b, xs, zs, rfl, rfl, hH, hB, hz, q⟩ := h
  cases rx
  obtain ⟨u, rfl, ru⟩ := rv.one
  cases ru
  obtain ⟨z, its, n, r, hl, e⟩ := I.lstM hH
  obtain ⟨z2, its2, n2, r2, hl2, e2⟩ := I.lstM hB
  have hsz : its.toArray.size + its2.toArray.size ≤ sizeLine := by rw [List.size_toArray, List.size_toArray]; omega
  have hlong : ¬ (!its.toArray.isEmpty && Builtin.List.listTooLong (its.toArray.size + its2.toArray.size)) = true := by
    rw [notLongL hsz, Bool.and_false]
    exact Bool.false_ne_true
  refine call_meets F.slot_list_extend ⟨_, e, rfl⟩ F.entry_list_extend (F.args_list_extend_2 _ _)
    (AutoSeq1.list_extend_list_list_0 l its.toArray n b its2.toArray n2 hlong (by rw [List.size_toArray]; omega) (by omega)) ⟨e, e2, ?_⟩
  refine ⟨.non, _, I.lset (its' := its ++ its2) hH e (by simp) (r.append r2) ?_, rfl, q⟩
  rw [List.length_append]
  omega
def rPopAt : V → List V → Hp → VK → Prop := fun x vs H Q => ∃ l xs i k y, x = .ref l ∧ vs = [.int i] ∧ H l = some (.lst xs) ∧ -(2 ^ 63) ≤ i ∧ i < 2 ^ 63 ∧ seqIndex? i xs.length = some k ∧ xs[k]? = some y ∧ Q y (upd H l (.lst (xs.eraseIdx k)))
theorem mt_popAt : MtM X "list.pop" rPopAt := by
  intro pins s σ H x vs v us Q I rx rv h
  obtain ⟨l, xs, i, k, y, rfl, rfl, hH, h1, h2, hk, hy, q⟩ := h
  cases rx
  obtain ⟨u, rfl, ru⟩ := rv.one
  obtain ⟨t, rfl⟩ := ru
  obtain ⟨z, its, n, r, hl, e⟩ := I.lstM hH
  obtain ⟨w, hw, rw'⟩ := r.get hy
  refine call_meets F.slot_list_pop ⟨_, e, rfl⟩ F.entry_list_pop (F.args_list_pop_2 _ _)
    (MeetsSeq.list_pop_at l its.toArray n i t k w (fitsIndex_both h1 h2) (by rw [List.size_toArray, ← hl]; exact hk) (by rw [← Array.getElem?_toList]; exact hw) (by rw [List.size_toArray]; omega)) ⟨e, ?_⟩
  refine ⟨y, _, I.lset (its' := its.eraseIdx k) hH e ?_ (r.eraseIdx k) ?_, rw', q⟩
  · show its.toArray.eraseIdxIfInBounds k = (its.eraseIdx k).toArray
    rw [List.eraseIdxIfInBounds_toArray]
  · have := len_erase xs k
    omega
def rCat : R2 := fun x y H Q => ∃ l b xs zs, x = .ref l ∧ y = .ref b ∧ H l = some (.lst xs) ∧ H b = some (.lst zs) ∧ xs.length + zs.length ≤ sizeLine ∧ ∀ p, H p = none → Q (.ref p) (upd H p (.lst (xs ++ zs)))
theorem op_cat : OpR X (binaryOp .Add) rCat := by
  intro pins s σ H x y v u Q I rx ry h
  obtain ⟨l, b, xs, zs, rfl, rfl, hH, hB, hz, q⟩ := h
  cases rx
  cases ry
  obtain ⟨z, its, n, r, hl, e⟩ := I.lstM hH
  obtain ⟨z2, its2, n2, r2, hl2, e2⟩ := I.lstM hB
  refine PySem.P.add_list e e2 ?_ (by rw [List.size_toArray, List.size_toArray]; omega)
  have ea : its.toArray ++ its2.toArray = (its ++ its2).toArray := by simp
  rw [ea]
  exact ⟨.ref _, _, I.lnew (t' := s.toks) (r.append r2) (by rw [List.length_append]; omega), rfl, q _ I.fresh⟩
def rRep : R2 := fun x y H Q => ∃ l k xs, x = .ref l ∧ y = .int k ∧ H l = some (.lst xs) ∧ -(2 ^ 63) ≤ k ∧ k < 2 ^ 63 ∧ xs.length * k.toNat ≤ sizeLine ∧
  ∀ p, H p = none → Q (.ref p) (upd H p (.lst (List.replicate k.toNat xs).flatten))
theorem len_rep {α : Type} (xs : List α) (k : Nat) : (List.replicate k xs).flatten.length = k * xs.length := by
  induction k with
  | zero => simp
  | succ k ih => rw [List.replicate_succ, List.flatten_cons, List.length_append, ih, Nat.succ_mul, Nat.add_comm]
theorem op_rep : OpR X (binaryOp .Mult) rRep := by
  intro pins s σ H x y v u Q I rx ry h
  obtain ⟨l, k, xs, rfl, rfl, hH, h1, h2, hz, q⟩ := h
  cases rx
  obtain ⟨t, rfl⟩ := ry
  obtain ⟨z, its, n, r, hl, e⟩ := I.lstM hH
  have hlen : its.toArray.size * k.toNat ≤ sizeLine := by rw [List.size_toArray, ← hl]; exact hz
  have hcap : ¬ its.toArray.size * k.toNat > (2 ^ 63 - 1) / 8 := by
    have : (sizeLine : Nat) ≤ (2 ^ 63 - 1) / 8 := by decide
    omega
  have hfit : ¬ (!Builtin.List.listFitsIndex k) = true := by
    rw [fitsIndex_both h1 h2]
    exact Bool.false_ne_true
  have hlong : ¬ Builtin.List.listTooLong (its.toArray.size * k.toNat) = true := by
    rw [notLongL hlen]
    exact Bool.false_ne_true
  have hnew : List.foldl (fun x1 x2 => x1 ++ x2) #[] (List.replicate (if its.toArray.isEmpty = true then 0 else k.toNat) its.toArray) = (List.replicate k.toNat its).flatten.toArray := by
    have f0 : ∀ m : Nat, List.foldl (fun x1 x2 => x1 ++ x2) #[] (List.replicate m its.toArray) = (List.replicate m its).flatten.toArray := fun m => by
      have := foldl_rep its m []
      rw [List.nil_append] at this
      exact this
    rw [f0]
    cases its with
    | nil => simp
    | cons a r' => rw [if_neg (by simp)]
  refine wpAny_binaryOp_repeat_ref (T := "list") (U := "int") (by decide) ⟨_, e, rfl⟩ (fun s' => typeIs_int s' k t) noFill_list_mul F.fills_int_mul F.slot_int_rmul repeat_list F.slot_int_index.lookup
    (call_meets F.slot_int_rmul (typeIs_int s k t) F.entry_int_rmul (F.args_int_rmul_2 _ _) (int___rmul___int_list k t l its.toArray n)
      ⟨e, rfl, ⟨_, e, rfl⟩, call_meets F.slot_list_mul ⟨_, e, rfl⟩ F.entry_list_mul (F.args_list_mul_2 _ _) (AutoListH.list___mul___list_int_3 l its.toArray n k t hfit hcap hlong) ⟨e, ?_⟩⟩)
  rw [hnew]
  exact ⟨.ref _, _, I.lnew (t' := s.toks) (r.rep k.toNat) (by rw [len_rep, Nat.mul_comm]; exact hz), rfl, q _ I.fresh⟩
end
end L2
namespace L2
open PySem PySem.Spec PyProof.Rows
section
variable {κ : Type} [DecidableEq κ]
def valV (kvs : List (κ × V)) (k : κ) : Option V := (kvs.find? fun kv => decide (kv.1 = k)).map (·.2)
def putK (kvs : List (κ × V)) (k : κ) (v : V) : List (κ × V) :=
  if (kvs.any fun kv => decide (kv.1 = k)) = true then kvs.map (fun kv => if kv.1 = k then (kv.1, v) else kv) else kvs ++ [(k, v)]
theorem valV_pos {p : κ × V} {r : List (κ × V)} {k : κ} (e : p.1 = k) : valV (p :: r) k = some p.2 := by simp [valV, List.find?_cons, e]
theorem valV_neg {p : κ × V} {r : List (κ × V)} {k : κ} (e : ¬ p.1 = k) : valV (p :: r) k = valV r k := by simp [valV, List.find?_cons, e]
theorem valV_any (k : κ) : ∀ kvs : List (κ × V), (kvs.any fun kv => decide (kv.1 = k)) = (valV kvs k).isSome
  | [] => rfl
  | p :: r => by
    rw [List.any_cons]
    by_cases e : p.1 = k
    · simp only [valV_pos e, decide_eq_true e, Bool.true_or, Option.isSome_some]
    · rw [valV_neg e, decide_eq_false e, Bool.false_or]; exact valV_any k r
theorem length_putK (kvs : List (κ × V)) (k : κ) (v : V) : (putK kvs k v).length ≤ kvs.length + 1 := by
  unfold putK
  split
  · rw [List.length_map]; omega
  · rw [List.length_append, List.length_cons, List.length_nil]; omega
theorem putK_new {kvs : List (κ × V)} {k : κ} (v : V) (h : valV kvs k = none) : putK kvs k v = kvs ++ [(k, v)] := by
  unfold putK
  rw [valV_any, h]
  exact if_neg (by decide)
theorem RelO.isSome_eq {o : Option V} {u : Option Value} (r : RelO o u) : o.isSome = u.isSome := by
  cases o with
  | none => cases u with
    | none => rfl
    | some _ => exact (show False from r).elim
  | some _ => cases u with
    | none => exact (show False from r).elim
    | some _ => rfl
theorem KV.val {kvs : List (κ × V)} {vs : List (κ × Value)} (r : KV kvs vs) (k : κ) : RelO (valV kvs k) (valueAt vs k) := by
  unfold KV at r
  induction r with
  | nil => exact True.intro
  | @cons p q ps qs h t ih =>
    obtain ⟨h1, h2⟩ := h
    by_cases e : p.1 = k
    · have e' : q.1 = k := h1.symm.trans e
      have b : valueAt (q :: qs) k = some q.2 := by simp [valueAt, List.find?_cons, e']
      rw [valV_pos e, b]; exact h2
    · have e' : ¬ q.1 = k := fun z => e (h1.trans z)
      have b : valueAt (q :: qs) k = valueAt qs k := by simp [valueAt, List.find?_cons, e']
      rw [valV_neg e, b]; exact ih
theorem KV.any {kvs : List (κ × V)} {vs : List (κ × Value)} (r : KV kvs vs) (k : κ) : (kvs.any fun kv => decide (kv.1 = k)) = vs.any fun kv => decide (kv.1 = k) := by
  unfold KV at r
  induction r with
  | nil => rfl
  | cons h t ih => rw [List.any_cons, List.any_cons, ih, h.1]
theorem KV.repl {kvs : List (κ × V)} {vs : List (κ × Value)} (r : KV kvs vs) (k : κ) {y : V} {u : Value} (ry : RelV y u) :
    KV (kvs.map fun kv => if kv.1 = k then (kv.1, y) else kv) (vs.map fun kv => if kv.1 = k then (kv.1, u) else kv) := by
  unfold KV at r ⊢
  induction r with
  | nil => exact .nil
  | @cons p q ps qs h t ih =>
    rw [List.map_cons, List.map_cons]
    refine .cons ?_ ih
    obtain ⟨h1, h2⟩ := h
    by_cases e : p.1 = k
    · rw [if_pos e, if_pos (h1.symm.trans e)]; exact ⟨h1, ry⟩
    · rw [if_neg e, if_neg (fun z => e (h1.trans z))]; exact ⟨h1, h2⟩
theorem KV.put {kvs : List (κ × V)} {vs : List (κ × Value)} (r : KV kvs vs) (k : κ) {y : V} {u : Value} (ry : RelV y u) : KV (putK kvs k y) (stored vs k u) := by
  unfold putK stored
  rw [r.any k]
  by_cases e : (vs.any fun kv => decide (kv.1 = k)) = true
  · rw [if_pos e, if_pos e]; exact r.repl k ry
  · rw [if_neg e, if_neg e]; exact Paired.snoc r ⟨rfl, ry⟩
theorem KV.length {kvs : List (κ × V)} {vs : List (κ × Value)} (r : KV kvs vs) : kvs.length = vs.length := Paired.length r
end
theorem kV_is {P : Program} {w : World} {k : Key} {u : Value} (r : RelV (kV k) u) : (mixKind P w).is k u = true := by
  cases k with
  | inl i => obtain ⟨t, e⟩ := (show ∃ t, u = Value.int i t from r); subst e; exact mixKind_int P w i t
  | inr x => obtain ⟨t, e⟩ := (show ∃ t, u = Value.str x t from r); subst e; exact mixKind_str P w x t
theorem items_are {P : Program} {w : World} : ∀ {ks : List Key} {us : List Value}, Vals (ks.map kV) us → ItemsAre (mixKind P w) ks us
  | [], _, r => by rw [List.map_nil] at r; cases r; exact .nil
  | k :: ks, _, r => by
    rw [List.map_cons] at r
    cases r with
    | cons h t => exact .cons (kV_is h) (items_are t)
abbrev KT (H : Hp) : List (List Key × V) → List (List Key × Addr × Value) → Prop := Paired fun p q => p.1 = q.1 ∧ H q.2.1 = some (.tup (p.1.map kV)) ∧ RelV p.2 q.2.2
theorem KT.val {H : Hp} {kvs : List (List Key × V)} {xs : List (List Key × Addr × Value)} (r : KT H kvs xs) (k : List Key) : RelO (valV kvs k) ((atKey xs k).map (·.2)) := by
  induction r with
  | nil => exact True.intro
  | @cons p q ps qs h t ih =>
    obtain ⟨h1, _, h2⟩ := h
    by_cases e : p.1 = k
    · have e' : q.1 = k := h1.symm.trans e
      have b : atKey (q :: qs) k = some q.2 := by simp [atKey, List.find?_cons, e']
      rw [valV_pos e, b]; exact h2
    · have e' : ¬ q.1 = k := fun z => e (h1.trans z)
      have b : atKey (q :: qs) k = atKey qs k := by simp [atKey, List.find?_cons, e']
      rw [valV_neg e, b]; exact ih
theorem KT.repl {H : Hp} {kvs : List (List Key × V)} {xs : List (List Key × Addr × Value)} (r : KT H kvs xs) (k : List Key) {y : V} {u : Value} (ry : RelV y u) :
    KT H (kvs.map fun kv => if kv.1 = k then (kv.1, y) else kv) (xs.map (putAt k u)) := by
  induction r with
  | nil => exact .nil
  | @cons p q ps qs h t ih =>
    rw [List.map_cons, List.map_cons]
    refine .cons ?_ ih
    obtain ⟨h1, h2, h3⟩ := h
    unfold putAt
    by_cases e : p.1 = k
    · rw [if_pos e, if_pos (h1.symm.trans e)]; exact ⟨h1, h2, ry⟩
    · rw [if_neg e, if_neg (fun z => e (h1.trans z))]; exact ⟨h1, h2, h3⟩
theorem KT.put {H : Hp} {kvs : List (List Key × V)} {xs : List (List Key × Addr × Value)} (r : KT H kvs xs) (k : List Key) {b : Addr} {y : V} {u : Value} (hb : H b = some (.tup (k.map kV))) (ry : RelV y u) :
    KT H (putK kvs k y) (storedH xs k b u) := by
  have e : (kvs.any fun kv => decide (kv.1 = k)) = (atKey xs k).isSome := by
    rw [valV_any, (r.val k).isSome_eq, Option.isSome_map]
  unfold putK storedH
  rw [e]
  by_cases q : (atKey xs k).isSome = true
  · rw [if_pos q, if_pos q]; exact r.repl k ry
  · rw [if_neg q, if_neg q]; exact Paired.snoc r ⟨rfl, hb, ry⟩
theorem KT.keeps {H H' : Hp} {kvs : List (List Key × V)} {xs : List (List Key × Addr × Value)} (r : KT H kvs xs) (ht : ∀ b ys, H b = some (.tup ys) → H' b = some (.tup ys)) : KT H' kvs xs :=
  Paired.mapP r fun _ _ z => ⟨z.1, ht _ _ z.2.1, z.2.2⟩
section
variable {P : Program} {w : World} {H : Hp} {h : Heap} {a : Addr}
theorem rd_of {u : HO} (ok : HOk P w H h) (e : Rd H a u) : ObjOk P w H h a u := e.ok ok
theorem dk_rd {kvs : List (Key × V)} (ok : HOk P w H h) (e : Rd H a (.dK kvs)) : kvs.length ≤ sizeLine ∧ (a == sysModules) = false ∧ ∃ vs, KV kvs vs ∧ h.DictOf (mixKind P w) a vs :=
  show ObjOk P w H h a (.dK kvs) from rd_of ok e
theorem dk_of {kvs : List (Key × V)} (ok : HOk P w H h) (e : H a = some (.dK kvs)) : kvs.length ≤ sizeLine ∧ (a == sysModules) = false ∧ ∃ vs, KV kvs vs ∧ h.DictOf (mixKind P w) a vs := dk_rd ok (.inl e)
theorem key_of {ks : List Key} (ok : HOk P w H h) (e : H a = some (.tup (ks.map kV))) : (tupleKind (mixKind P w)).is h ks a := by
  obtain ⟨_, its, r, o, h1, h2, n, h3⟩ := (show ObjOk P w H h a (.tup (ks.map kV)) from ok a _ e)
  exact ⟨o, its.toArray, n, h1, h2, h3, by simpa using items_are r⟩
theorem dt_rd {kvs : List (List Key × V)} (ok : HOk P w H h) (e : Rd H a (.dT kvs)) : kvs.length ≤ sizeLine ∧ (a == sysModules) = false ∧
    ∃ xs, KT H kvs xs ∧ h.DictOfH (tupleKind (mixKind P w)) a xs := by
  obtain ⟨z, y, xs, r, o, es, ep, h1, h2, h3, h4, h5⟩ := (show ObjOk P w H h a (.dT kvs) from rd_of ok e)
  refine ⟨z, y, xs, r, o, es, ep, h1, h2, h3, h4, fun x hx => ?_, h5⟩
  have all : ∀ {l : List (List Key × V)} {m : List (List Key × Addr × Value)}, KT H l m → ∀ x ∈ m, (tupleKind (mixKind P w)).is h x.1 x.2.1 := by
    intro l m q
    induction q with
    | nil => intro x hx; exact nomatch hx
    | @cons p q ps qs hq t ih =>
      intro x hx
      rcases List.mem_cons.mp hx with e | hx
      · subst e
        exact key_of ok (by rw [← hq.1]; exact hq.2.1)
      · exact ih x hx
  exact all r x hx
theorem dt_of {kvs : List (List Key × V)} (ok : HOk P w H h) (e : H a = some (.dT kvs)) : kvs.length ≤ sizeLine ∧ (a == sysModules) = false ∧
    ∃ xs, KT H kvs xs ∧ h.DictOfH (tupleKind (mixKind P w)) a xs := dt_rd ok (.inl e)
end
def DGet (H : Hp) (a : Addr) (y : V) (r : Option V) : Prop :=
  (∃ kvs k, Rd H a (.dK kvs) ∧ y = kV k ∧ r = valV kvs k) ∨ ∃ kvs k b, Rd H a (.dT kvs) ∧ y = .ref b ∧ H b = some (.tup (k.map kV)) ∧ r = valV kvs k
def DPut (H : Hp) (a : Addr) (y v : V) (H' : Hp) : Prop :=
  (∃ kvs k, H a = some (.dK kvs) ∧ y = kV k ∧ kvs.length < sizeLine ∧ H' = upd H a (.dK (putK kvs k v))) ∨
  ∃ kvs k b, H a = some (.dT kvs) ∧ y = .ref b ∧ H b = some (.tup (k.map kV)) ∧ kvs.length < sizeLine ∧ H' = upd H a (.dT (putK kvs k v))
theorem DGet.k {H : Hp} {a : Addr} {kvs : List (Key × V)} {k : Key} (e : H a = some (.dK kvs)) : DGet H a (kV k) (valV kvs k) := .inl ⟨kvs, k, .inl e, rfl, rfl⟩
theorem DPut.k {H : Hp} {a : Addr} {kvs : List (Key × V)} {k : Key} {v : V} (e : H a = some (.dK kvs)) (hl : kvs.length < sizeLine) : DPut H a (kV k) v (upd H a (.dK (putK kvs k v))) := .inl ⟨kvs, k, e, rfl, hl, rfl⟩
section
variable {X : Cx} {pins : List (Addr × Obj)} {σ : St} {H : Hp} {s : Shared} {a : Addr} {y v : V} {u r : Value} {o : Option V} {A : Around} {E : Value → Shared → Prop}
theorem Inv.big (I : Inv X pins σ H s) : sysModules < s.heap.objs.size := by
  have h : mainGlobals < s.heap.objs.size := (I.mod.glob.keeps I.bk).lt
  exact Nat.lt_trans (by decide) h
theorem d_in {Q : Value → Shared → Prop} (hu : A.units + 1 < cLine) (I : Inv X pins σ H s) (g : DGet H a y o) (ry : RelV y u) (h : ∀ s', Inv X pins σ H s' → Q (.bool o.isSome) s') :
    wpAny (model X.prog X.w) A (compareOp .In u (.ref a)) Q E s := by
  rcases g with ⟨kvs, k, e, ey, l⟩ | ⟨kvs, k, b, e, ey, eb, l⟩
  · subst ey
    obtain ⟨z, hd, vs, rel, dd⟩ := dk_rd I.hok e
    refine wpAny_in_of (kV_is ry) hd dd.mapOf ?_
    rw [← (rel.val k).isSome_eq, ← l]
    exact h _ (I.tok _)
  · subst ey
    cases (show u = Value.ref b from ry)
    obtain ⟨z, hd, xs, rel, dd⟩ := dt_rd I.hok e
    refine wpAny_in_heap (tupleKind_room_in1 hu) (key_of I.hok eb) hd dd ?_
    have q := (rel.val k).isSome_eq
    rw [Option.isSome_map] at q
    rw [← q, ← l]
    exact h _ (I.tok _)
theorem d_write {h' : Heap} {t' : Nat} {ob : HO} (I : Inv X pins σ H s) (mu : Mut (H a)) (hs : Heap.SameBut a s.heap h') (he : ∃ q, h'.get? a = some q) (new : ObjOk X.prog X.w (upd H a ob) h' a ob) :
    Inv X pins σ (upd H a ob) { s with heap := h', toks := t' } :=
  I.write (x := a) (e := a) mu (.inl rfl) (fun b q hb z => (hs.2 b hb).trans z) he new
theorem dk_new {P : Program} {w : World} {H' : Hp} {h' : Heap} {kvs : List (Key × V)} {vs : List (Key × Value)} (z : kvs.length ≤ sizeLine) (hd : (a == sysModules) = false) (rel : KV kvs vs) (dd : h'.DictOf (mixKind P w) a vs) :
    ObjOk P w H' h' a (.dK kvs) := ⟨z, hd, vs, rel, dd⟩
theorem d_setItem {H' : Hp} {Q : Unit → Shared → Prop} (hu : A.units + 1 < cLine) (I : Inv X pins σ H s) (g : DPut H a y v H') (ry : RelV y u) (rv : RelV v r) (h : ∀ s', Inv X pins σ H' s' → Q () s') :
    wpAny (model X.prog X.w) A (setItem (.ref a) u r) Q E s := by
  rcases g with ⟨kvs, k, e, ey, l, eH⟩ | ⟨kvs, k, b, e, ey, eb, l, eH⟩
  · subst ey eH
    obtain ⟨z, hd, vs, rel, dd⟩ := dk_of I.hok e
    have hz : vs.length ≤ sizeLine := by rw [← rel.length]; exact z
    have hl : (putK kvs k v).length ≤ sizeLine := by have := length_putK kvs k v; omega
    refine wpAny_setItem_pairs (hsz := hz) (kV_is ry) dd fun h' dd' hs => h _ ?_
    have he : ∃ q, h'.get? a = some q := let ⟨q, _, _, hq, _⟩ := dd'; ⟨q, hq⟩
    exact d_write I (by rw [e]; exact True.intro) hs he (dk_new hl hd (rel.put k rv) dd')
  · subst ey eH
    cases (show u = Value.ref b from ry)
    obtain ⟨z, hd, xs, rel, dd⟩ := dt_of I.hok e
    have hz : xs.length ≤ sizeLine := by rw [← Paired.length rel]; exact z
    have hl : (putK kvs k v).length ≤ sizeLine := by have := length_putK kvs k v; omega
    refine wpAny_setItem_heap (hsz := hz) (tupleKind_room_in1 hu) (key_of I.hok eb) dd fun h' dd' hs => h _ ?_
    obtain ⟨q, es, ep, hq, h2, h3, h4, _, h5⟩ := dd'
    refine d_write I (by rw [e]; exact True.intro) hs ⟨q, hq⟩ ⟨hl, hd, _, (rel.put k eb rv).keeps fun c ys ec => ?_, q, es, ep, hq, h2, h3, h4, h5⟩
    rw [upd_ne (ne_of ec e (fun z => nomatch z))]
    exact ec
end
def tDIn (ty td : TE) : TE := fun σ H Q => ty σ H fun y H1 => td σ H1 fun x H2 => ∃ a o, x = .ref a ∧ DGet H2 a y o ∧ Q (.bl o.isSome) H2
def sDPut (td ty tv : TE) : TS := fun D σ H => tv σ H fun v H1 => td σ H1 fun x H2 => ty σ H2 fun y H3 => ∃ a H4, x = .ref a ∧ DPut H3 a y v H4 ∧ D.nx σ H4
section
variable {X : Cx} {o i e value : Expr} {pos pos' tpos : Pos} {td ty tv : TE}
theorem pc_din (hu : X.A.units + 1 < cLine) (hi : PE X i ty) (ho : PE X o td) : PC X .In i o (tDIn ty td) := by
  intro pins s σ H Q I h
  refine thn (hi pins s σ H _ I h) fun iv s1 ⟨y, H1, I1, ry, q1⟩ => thn (ho pins s1 σ H1 _ I1 q1) fun u s2 ⟨x, H2, I2, rx, a, ov, ex, g, q2⟩ => ?_
  subst ex
  obtain rfl : u = Value.ref a := rx
  exact d_in hu I2 g ry fun s3 I3 => ⟨.bl ov.isSome, H2, I3, rfl, q2⟩
theorem ps_dput (hu : X.A.units + 1 < cLine) (ho : PE X o td) (hi : PE X i ty) (hv : PE X value tv) (hs : swapsWith value (some (.Subscript o i pos')) pos.line X.env = pure false) :
    PS X (.Assign [.Subscript o i pos'] value pos) (sDPut td ty tv) := by
  intro pins s σ H D I h
  refine wpAny_Assign_Subscript (thn (hv pins s σ H _ I h) fun r s1 ⟨v, H1, I1, rv, q1⟩ => thn (ho pins s1 σ H1 _ I1 q1) fun u s2 ⟨x, H2, I2, rx, q2⟩ => thn (hi pins s2 σ H2 _ I2 q2) fun iv s3 ⟨y, H3, I3, ry, a, H4, ex, g, q3⟩ => ?_) hs
  subst ex
  obtain rfl : u = Value.ref a := rx
  exact d_setItem hu I3 g ry rv fun s4 I4 => ⟨σ, H4, I4, q3⟩
end
theorem dk_empty {P : Program} {w : World} {H : Hp} (h : Heap) (hb : sysModules < h.objs.size) : ObjOk P w H (h.push { cls := .type "dict", data := .dict #[] }) h.objs.size (.dK []) :=
  ⟨Nat.zero_le _, beq_eq_false_iff_ne.mpr (Ne.symm (Nat.ne_of_lt hb)), [], .nil, Heap.DictOf.new h⟩
def tDNewK : TE := fun _ H Q => ∀ p, H p = none → Q (.ref p) (upd H p (.dK []))
section
variable {X : Cx} {pos : Pos}
theorem pe_dnewK : PE X (.Dict [] [] pos) tDNewK := fun pins s σ H Q I h =>
  wpAny_Dict_empty ⟨.ref s.heap.objs.size, _, I.laid (a := s.heap.objs.size) (o := .dK []) (t' := s.toks) (fun _ _ q => Heap.get?_push_of_some _ q) (Nat.le_refl _) (dk_empty s.heap I.big), rfl, h _ (I.hok.fresh (Nat.le_refl _))⟩
end
end L2
namespace Att
open PySem PySem.W PySem.Calls PyProof.Rows
theorem ints_of_wellAll {P : Params} {h : Heap} : ∀ (ns : List Int) (vs : List Value), WellAll P h vs (ns.map WData.int) → IntsAre vs ns := by
  intro ns
  induction ns with
  | nil =>
    intro vs w
    rw [List.map_nil] at w
    cases w
    exact .nil
  | cons n ns ih =>
    intro vs w
    rw [List.map_cons] at w
    cases w with
    | cons a b =>
      cases a
      exact .cons _ _ (ih _ b)
theorem script_of {l : OpenLaw} {n : Nat} (hn : l.most = some n) {P : Params} {h : Heap} {args : List WData} {vals : List Value}
    (hpre : l.row.toRowW.claim.pre args = true) (hwl : WellAll P h vals args) :
    ∃ a vs ns, vals = [Value.ref a] ∧ args = [WData.list (ns.map WData.int)] ∧ h.get? a = some { cls := .type "list", data := .seq vs.toArray } ∧ IntsAre vs ns ∧ ns.length ≤ n := by
  have hsh : WShape.hasAll [] args [.list .int] = true := (pre_splitW hpre).1
  have hc : l.pre.holds [] { args := args } = true := (pre_splitW hpre).2
  obtain ⟨d, r, rfl, h1, h2⟩ := hasAllW_cons hsh
  obtain rfl := hasAllW_nil h2
  obtain ⟨xs, rfl, h3⟩ := hasW_list h1
  obtain ⟨ns, rfl⟩ := items_int h3
  have hlen : ns.length ≤ n := by
    unfold OpenLaw.pre at hc
    have h4 : (WTm.not (.lt (.lit (.int (n : Int))) (.len (.arg 0)))).holds [] { args := [.list (ns.map .int)] } = true := by
      have h4 := (holds_andW hc).1
      rw [hn] at h4
      exact h4
    have h5 := condW_of h4 (w_not (w_lt w_lit (w_len_list (w_arg rfl))))
    rw [List.length_map] at h5
    refine Nat.le_of_not_lt fun q => ?_
    have q' : (n : Int) < ((ns.length : Nat) : Int) := by omega
    first
      | (rw [decide_eq_true q'] at h5; exact absurd h5 (by decide))
      | (simp at h5; omega)
  cases hwl with
  | cons w1 w2 =>
    cases w2
    cases w1 with
    | list ho hall => exact ⟨_, _, ns, rfl, rfl, ho, ints_of_wellAll ns _ hall, hlen⟩
theorem post_true (l : OpenLaw) (args : List WData) : l.row.toRowW.claim.post args (.bool true) args = true :=
  postW_of (r := l.row.toRowW) (X := (true == true))
    (show WShape.has [] (.bool true) .bool = true by first | rfl | decide | simp [WShape.has, WShape.arms, WShape.armsAll])
    (show (WTm.eq .res (.lit (.bool true))).value [] { args := args, res := some (.bool true), after := args } = some (.bool (true == true)) from w_eq_bool (w_res rfl) w_lit) rfl
theorem attach_call {l : OpenLaw} {n : Nat} {q : Program} {loose : List Str} {XP : (Str → Option Value) → Heap → Prop} {YP : World → Heap → Prop} {d : DefRec}
    (hn : l.most = some n) (hdf : d.params.defaults = [])
    (call : ∀ (w : World) (s₀ s₁ : Shared) (mg mb : Str → Option Value) (fa : Addr) (o : Obj) (pm cd doc : Value) (a : Addr) (vs : List Value) (ns : List Int),
      Ground q loose [] XP w s₀ mg mb s₁.heap → YP w s₁.heap →
      s₁.heap.get? fa = some o → o.data = .func (docDef d.name d.params d.body d.scope pm cd doc) → s₁.heap.CodeRec cd d.name → mg d.name = some (.ref fa) →
      s₁.heap.get? a = some { cls := .type "list", data := .seq vs.toArray } → IntsAre vs ns → ns.length ≤ n → s₁.gens = #[] →
      codeAny (model l.prog w) callerA (.call (.ref fa) ⟨[.ref a], []⟩) (fun r s' => r = .ok (.ret (.bool true)) ∧ OldK s₁.heap s'.heap ∧ s'.os = s₁.os ∧ AllBare s'.gens) s₁) :
    WalkO q loose XP YP l.row.toRowW d [] (fun f vs => PySem.call f vs) := by
  intro w s₀ s₁ mg mb G Y fa o pm cd doc dV kV ho hd hcd hD hmg hg args vals as hpre hlay hrd hwl hlo
  obtain rfl : dV = .none := Dflts.none hD hdf
  obtain rfl : kV = .none := Dflts.noKw hD
  obtain ⟨a, vs, ns, rfl, rfl, hobj, hints, hlen⟩ := script_of hn hpre hwl
  refine enter_call (codeAny_mono (call w s₀ s₁ mg mb fa o pm cd doc a vs ns G Y ho (fd_plain hd) hcd hmg hobj hints hlen hg) fun r s' hq => ?_)
  obtain ⟨rfl, h2, h3, h4⟩ := hq
  exact ⟨.inl ⟨.bool true, .bool true, [], rfl, fun _ => rfl, .bool true, post_true l _, fun _ => ⟨List.Pairwise.nil, fun _ hm => (nomatch hm)⟩⟩, h2, h3, h4⟩
end Att
namespace L2
open PySem PySem.Spec PyProof.Rows
theorem vals_ints : ∀ {vs : List Value} {ns : List Int}, IntsAre vs ns → Vals (ns.map V.int) vs
  | _, _, .nil => .nil
  | _, _, .cons n t h => .cons ⟨t, rfl⟩ (vals_ints h)
def Only (H : Hp) : Prop := ∀ b, H b = none ∨ ∃ o xs, H b = some (.frz o (.lst xs))
theorem law_call {P : Program} {w : World} {K : PySem.W.Frag} {mg mb : Str → Option Value} {CX : CXT} {k : Nat} {fa a : Addr} {fd : FuncData} {x : Str} {sp : Sp} {s₁ : Shared} {vs : List Value} {ns : List Int}
    (KX : K.In s₁.heap) (hns : s₁.heap.Ns mainGlobals mg) (hb : s₁.heap.Ns builtinsNs mb) (hbb : ∀ x : Str, x ≠ "__name__" → mb x = bootBuiltins x) (hlim : s₁.heap.NoLimit) (hg : s₁.gens = #[])
    (ha : s₁.heap.get? a = some { cls := .type "list", data := .seq vs.toArray }) (hi : IntsAre vs ns) (hl : ns.length ≤ sizeLine) (hr : Room k callerA)
    (F : ∀ base : Heap, K.In base → base.Ns mainGlobals mg → FnOk P w K mg base CX k fa fd [x] sp) (hbind : ∀ (s : Shared) (u : Value), BindsTo s fd ⟨[u], []⟩ [(x, u)])
    (hsp : ∀ H : Hp, Only H → SqL K H a (ns.map V.int) → sp [.ref a] H (fun v _ => v = .bl true) fun _ _ _ => False)
    (hCX : ∀ H e s', CX [] H s₁ (fun _ _ _ => False) e s' → False) :
    codeAny (model P w) callerA (.call (.ref fa) ⟨[.ref a], []⟩) (fun r s' => r = .ok (.ret (.bool true)) ∧ OldK s₁.heap s'.heap ∧ s'.os = s₁.os ∧ AllBare s'.gens) s₁ := by
  have rv := vals_ints hi
  have lenV := hi.length
  have core : ∀ H : Hp, Only H → SqL K H a (ns.map V.int) → HOk P w H s₁.heap → (∀ b, H b ≠ none → b = a) → (H a ≠ none → K.lookup a = none) →
      codeAny (model P w) callerA (.call (.ref fa) ⟨[.ref a], []⟩) (fun r s' => r = .ok (.ret (.bool true)) ∧ OldK s₁.heap s'.heap ∧ s'.os = s₁.os ∧ AllBare s'.gens) s₁ := by
    intro H hO hS hok hA hK
    have base_of : ∀ {b : Addr} {o : Obj}, s₁.heap.get? b = some o → H b = none → (hidT s₁.heap H).get? b = some o := fun e n => hidT_get e n
    have noA : ∀ {b : Addr} {o : Obj} {es : Array DictEntry} {ep : Nat}, s₁.heap.get? b = some o → o.data = .dict es ep → H b = none := fun {b o es ep} e d => by
      cases q : H b with
      | none => rfl
      | some u =>
        have e' : b = a := hA b (by rw [q]; simp)
        subst e'
        rw [ha] at e; cases e
        have d' : Data.seq vs.toArray _ = Data.dict es ep := d
        cases d'
    have nsK : ∀ {b : Addr} {m : Str → Option Value}, s₁.heap.Ns b m → (hidT s₁.heap H).Ns b m := fun {b m} ⟨o, es, ep, e, d, r⟩ => ⟨o, es, ep, base_of e (noA e d), d, r⟩
    have hKb : K.In (hidT s₁.heap H) := fun b o e => base_of (KX b o e) (by
      cases q : H b with
      | none => rfl
      | some u =>
        have e' : b = a := hA b (by rw [q]; simp)
        subst e'
        rw [hK (by rw [q]; simp)] at e; cases e)
    have hM : Mod K mg (hidT s₁.heap H) := ⟨hKb, nsK hns, ⟨mb, nsK hb, hbb⟩, let ⟨mc, h1, h2⟩ := hlim; ⟨mc, nsK h1, h2⟩⟩
    have e0 : Env0 P w K mg (hidT s₁.heap H) callerA [] s₁ H := ⟨rfl, hM, fun b o e => of_hidT e, Nat.le_of_eq (hidT_size _ _), trivial, fun b hb => absurd (show b ∈ ([] : List Addr) from hb) (by simp), hok, .of_eq hg⟩
    refine codeAny_mono ((F _ hKb (nsK hns)).run callerA [] s₁ H ⟨[.ref a], []⟩ [.ref a] [.ref a] _ _ hr e0 (hbind s₁ (.ref a)) (.cons rfl .nil) (hsp H hO hS)) fun r s' h => ?_
    cases r with
    | error e => exact (hCX H e s' h).elim
    | ok fl =>
      cases fl with
      | next => exact False.elim h
      | brk => exact False.elim h
      | cont => exact False.elim h
      | ret u =>
        obtain ⟨v, H', os, bare, un, hok', r', q⟩ := h
        have q' : v = .bl true := q
        subst q'
        obtain rfl : u = Value.bool true := r'
        refine ⟨rfl, OldK.of_keep fun b o e => ?_, os, bare⟩
        cases q : H b with
        | none => exact un.keep b o e q (by intro z; exact absurd (show b ∈ ([] : List Addr) from z) (by simp)) (by simp)
        | some u =>
          rcases hO b with z | ⟨ob, xs, z⟩
          · rw [q] at z; cases z
          · have z2 := un.frzs b ob _ z
            obtain ⟨e1, _⟩ := hok b _ z
            obtain ⟨e2, _⟩ := hok' b _ z2
            rw [e] at e1; cases e1
            exact e2
  cases hk : K.lookup a with
  | some o =>
    have e := KX a o hk
    rw [ha] at e
    cases e
    refine core (fun _ => none) (fun _ => .inl rfl) (.inr ⟨_, vs.toArray, _, hk, rfl, rfl, rfl, by rw [List.size_toArray, lenV]; exact hl, by simpa using rv⟩) (fun b u z => by have z' : (none : Option HO) = some u := z; cases z') (fun b z => absurd rfl z) fun z => absurd rfl z
  | none =>
    refine core (fun b => if b = a then some (.frz { cls := .type "list", data := .seq vs.toArray } (.lst (ns.map V.int))) else none) (fun b => ?_) (.inl (.inr ⟨{ cls := .type "list", data := .seq vs.toArray }, if_pos rfl⟩)) (fun b u z => ?_) (fun b z => ?_) fun _ => hk
    · by_cases hb : b = a
      · exact .inr ⟨_, _, if_pos hb⟩
      · exact .inl (if_neg hb)
    · by_cases hb : b = a
      · have z' := (if_pos hb).symm.trans z
        cases z'
        subst hb
        exact ⟨ha, by rw [List.length_map]; exact hl, vs, _, rv, ha⟩
      · have z' := (if_neg hb).symm.trans z
        cases z'
    · by_cases hb : b = a
      · exact hb
      · exact absurd (if_neg hb) z
end L2
namespace L2
open PySem PySem.Spec PyProof.Rows
theorem walk_of {l : PySem.W.OpenLaw} {n k : Nat} {q : Program} {loose : List Str} {XP : (Str → Option Value) → Heap → Prop} {YP : World → Heap → Prop} {d : DefRec} {K : Params → PySem.W.Frag} {CX : World → CXT} {sp : World → Sp} {x : Str}
    (hn : l.most = some n) (hn2 : n ≤ sizeLine) (hdf : d.params.defaults = []) (hr : Room k callerA)
    (hY : ∀ (w : World) (h : Heap), YP w h → (K w.params).In h)
    (F : ∀ (w : World) (mg : Str → Option Value) (fa : Addr) (h : Heap), (K w.params).In h → h.Ns mainGlobals mg → mg d.name = some (.ref fa) →
      ∃ fd : FuncData, (∀ (s : Shared) (u : Value), BindsTo s fd ⟨[u], []⟩ [(x, u)]) ∧
        ∀ base : Heap, (K w.params).In base → base.Ns mainGlobals mg → FnOk l.prog w (K w.params) mg base (CX w) k fa fd [x] (sp w))
    (hsp : ∀ (w : World) (H : Hp) (a : Addr) (ns : List Int), ns.length ≤ n → Only H → SqL (K w.params) H a (ns.map V.int) → sp w [.ref a] H (fun v _ => v = .bl true) fun _ _ _ => False)
    (hCX : ∀ (w : World) (H : Hp) (s : Shared) (e : Value) (s' : Shared), CX w [] H s (fun _ _ _ => False) e s' → False) :
    PySem.W.WalkO q loose XP YP l.row.toRowW d [] (fun f vs => PySem.call f vs) := by
  refine Att.attach_call hn hdf fun w s₀ s₁ mg mb fa o pm cd doc a vs ns G Y ho hd hcd hmg hobj hints hlen hg => ?_
  have KX := hY w _ Y
  obtain ⟨fd, hb, hF⟩ := F w mg fa _ KX G.T.g hmg
  exact law_call KX G.T.g G.T.b G.T.builtins G.T.nolimit hg hobj hints (Nat.le_trans hlen hn2) hr hF hb (fun H hO hS => hsp w H a ns hlen hO hS) fun H e s' => hCX w H s₁ e s'
end L2
namespace L2
open PySem PySem.Spec PyProof.Rows
def defArgs (s : Stmt) : Arguments := match s with
  | .FunctionDef _ a _ _ _ _ _ _ _ _ => a
  | _ => { posonlyargs := [], args := [], vararg := none, kwonlyargs := [], kw_defaults := [], kwarg := none, defaults := [] }
def defBody (s : Stmt) : List Stmt := match s with
  | .FunctionDef _ _ b _ _ _ _ _ _ _ => b
  | _ => []
def defScope (s : Stmt) : Scope := match s with
  | .FunctionDef _ _ _ _ _ _ sc _ _ _ => sc
  | _ => { kind := .function, names := [], isGenerator := false, isCoroutine := false }
abbrev CX0 : CXT := fun _ _ _ _ _ _ => False
abbrev E0 : XK := fun _ _ _ => False
theorem pass0 {X : Cx} : Passes CX0 X E0 := fun _ _ _ _ _ _ _ h => h.elim
structure Fun (K : PySem.W.Frag) (x qual : Str) (st : Stmt) (f : Addr) (fd : FuncData) : Prop where
  ex : ∃ (oc : Value) (od : Option Addr) (kV doc pm : Value) (an : Option Addr) (cdv ct : Value) (osl : Array (Option Value)),
    fd = PySem.W.fnOf x qual (defArgs st) (defBody st) (defScope st) .none kV doc pm an cdv ct ∧ K.lookup f = some ⟨oc, od, .func fd, osl⟩ ∧ PySem.W.codeIn K cdv qual = true
  kp : PySem.W.keepIn K (.ref f) = true
section
variable {P : Program} {w : World} {K : PySem.W.Frag} {mg : Str → Option Value} {base : Heap}
theorem Fun.ok {x qual : Str} {st : Stmt} {f : Addr} {fd : FuncData} {N ps : List Str} {k : Nat} {sp : Sp} (F : Fun K x qual st f fd) (S : FnScope N ps (defScope st)) (len : ∀ vs H Q E, sp vs H Q E → vs.length = ps.length)
    (hbody : ∀ (cdv : Value) (A : Around) (outer : List Env) (s : Shared) (H : Hp) (vs : List V) (Q : VK) (E : XK), Room k (A.deeper (envOfC qual (defScope st) s.heap.objs.size f cdv)) → sp vs H Q E →
      ∃ t, PSs (cxOf CX0 P w K mg base N qual (defScope st) f cdv A outer s H E).nox (defBody st) t ∧ t { nx := fun _ H' => Q .non H', rt := Q } (start N vs) H) : FnOk P w K mg base CX0 (k + 1) f fd ps sp := by
  obtain ⟨oc, od, kV, doc, pm, an, cdv, ct, osl, rfl, lk, hcd⟩ := F.ex
  refine fn_of lk hcd S len fun A outer s H vs Q E hr hsp => ?_
  obtain ⟨t, h, q⟩ := hbody cdv A outer s H vs Q E hr hsp
  exact ⟨t, h.nox, q⟩
theorem Fun.binds {x qual : Str} {st : Stmt} {f : Addr} {fd : FuncData} {ps : List Str} (F : Fun K x qual st f fd)
    (h : ∀ (kV doc pm : Value) (an : Option Addr) (cdv ct : Value) (us : List Value), us.length = ps.length → bindArgs (PySem.W.fnOf x qual (defArgs st) (defBody st) (defScope st) .none kV doc pm an cdv ct) ⟨us, []⟩ = pure (ps.zip us)) : Binds K fd ps [] := by
  obtain ⟨oc, od, kV, doc, pm, an, cdv, ct, osl, rfl, lk, hcd⟩ := F.ex
  exact .all (h kV doc pm an cdv ct)
theorem fun_mk {x qual : Str} {st : Stmt} {f : Addr} {oc : Value} {od an : Option Addr} {osl : Array (Option Value)} {kV doc pm cdv ct : Value} (l : K.lookup f = some ⟨oc, od, .func (PySem.W.fnOf x qual (defArgs st) (defBody st) (defScope st) .none kV doc pm an cdv ct), osl⟩)
    (c : PySem.W.codeIn K cdv qual = true) (k : PySem.W.keepIn K (.ref f) = true) : Fun K x qual st f (PySem.W.fnOf x qual (defArgs st) (defBody st) (defScope st) .none kV doc pm an cdv ct) := ⟨⟨oc, od, kV, doc, pm, an, cdv, ct, osl, rfl, l, c⟩, k⟩
end
theorem hu_of {A : Around} {k : Nat} (hr : Room k A) : A.units + 1 < cLine := Nat.lt_of_le_of_lt (Nat.add_le_add_left (by decide : 1 ≤ 64) _) hr.units
theorem small1000 {n : Nat} (h : n ≤ 1000) : n < sizeLine := Nat.lt_of_le_of_lt h (by decide)
section
variable {X : Cx}
theorem pv (i : Nat) {x : Str} {pos : Pos} (hN : X.N[i]? = some x := by rfl) (hv : Vis X.env.scope x := by first | exact Or.inl rfl | exact Or.inr (Or.inl rfl) | exact Or.inr (Or.inr rfl)) (hd : (x == ("__debug__" : Str)) = false := by decide)
    (hcd : (x == ("__classdict__" : Str)) = false := by decide) : PE X (.Name x pos) (tVar i) := pe_var hN hv hd hcd
end
theorem iteF {A B : Prop} (h : B) : if false = true then A else B := by
  rw [if_neg Bool.false_ne_true]
  exact h
theorem iteT {A B : Prop} (h : A) : if true = true then A else B := by
  rw [if_pos rfl]
  exact h
theorem ite2 {c A B : Prop} [Decidable c] (h1 : c → A) (h2 : ¬ c → B) : if c then A else B := by
  by_cases h : c
  · rw [if_pos h]
    exact h1 h
  · rw [if_neg h]
    exact h2 h
theorem iteNS {c A B : Prop} [Decidable c] (hc : c) (h : B) : if (!decide c) = true then A else B := by
  rw [decide_eq_true hc]
  exact iteF h
def Same (H H' : Hp) : Prop := ∀ b o, H b = some o → H' b = some o
theorem Same.refl (H : Hp) : Same H H := fun _ _ h => h
theorem Same.trans {H H1 H2 : Hp} (a : Same H H1) (b : Same H1 H2) : Same H H2 := fun c o h => b c o (a c o h)
theorem Same.free {H H' : Hp} (e : Same H H') {l : Addr} (h : H' l = Option.none) : H l = Option.none := by
  cases q : H l with
  | none => rfl
  | some o =>
    rw [e l o q] at h
    cases h
theorem Same.seq {K : PySem.W.Frag} {H H' : Hp} {a : Addr} {xs : List V} (e : Same H H') (h : SqL K H a xs) : SqL K H' a xs := by
  rcases h with (h | ⟨o, h⟩) | h
  · exact .inl (.inl (e _ _ h))
  · exact .inl (.inr ⟨o, e _ _ h⟩)
  · exact .inr h
section
variable {κ : Type} [DecidableEq κ]
theorem nd_snoc : ∀ {l : List κ} {k : κ}, l.Nodup → ¬ k ∈ l → (l ++ [k]).Nodup
  | [], k, _, _ => by simp
  | a :: r, k, h, hk => by
    obtain ⟨h1, h2⟩ := List.nodup_cons.mp h
    show (a :: (r ++ [k])).Nodup
    refine List.nodup_cons.mpr ⟨fun m => ?_, nd_snoc h2 fun m => hk (List.mem_cons.mpr (Or.inr m))⟩
    rcases List.mem_append.mp m with q | q
    · exact h1 q
    · exact hk (List.mem_cons.mpr (Or.inl (List.mem_singleton.mp q).symm))
end
end L2
set_option maxHeartbeats 8000000
namespace L2
open PySem PySem.Spec PyProof.Rows
def compCx (X : Cx) (N : List Str) (scope : Scope) (cl : List (Str × Addr)) (C : Addr) (s0 : Shared) (H0 : Hp) (ex : List Addr) : Cx :=
  { X with N := N, s₀ := s0, H₀ := H0, env := compEnvC scope cl C X.env, outer := X.stack, stack := X.stack, ex := ex, fn := fun _ => false, pn := [], xe := fun _ _ => False }
def compSt (nl : Nat) (fr : List Nat) (σ : St) : St := List.replicate nl none ++ fr.map fun j => (σ[j]?).join
def closOf (env : Env) : List (Str × NameKind) → List (Str × Addr) → List (Str × Addr)
  | [], cs => cs
  | (n, k) :: r, cs => closOf env r (if (k == NameKind.free) = true then (n, (env.cells.lookup n).getD 0) :: cs else cs)
theorem closOf_sub (env : Env) : ∀ (ns : List (Str × NameKind)) (cs : List (Str × Addr)), (∀ p ∈ ns, p.2 = .free → ∃ c, env.cells.lookup p.1 = some c) → (∀ y c, cs.lookup y = some c → env.cells.lookup y = some c) →
    ∀ y c, (closOf env ns cs).lookup y = some c → env.cells.lookup y = some c
  | [], cs, _, h, y, c, e => h y c e
  | (n, k) :: r, cs, hn, h, y, c, e => by
    unfold closOf at e
    refine closOf_sub env r _ (fun p hp => hn p (List.mem_cons_of_mem _ hp)) ?_ y c e
    intro z d ez
    split at ez
    · rename_i hk
      rw [List.lookup_cons] at ez
      cases hz : z == n with
      | true =>
        rw [hz] at ez
        have hzn : z = n := eq_of_beq hz
        subst hzn
        have hkf : k = .free := by simpa using hk
        obtain ⟨c', hc'⟩ := hn (z, k) List.mem_cons_self hkf
        have hc' : env.cells.lookup z = some c' := hc'
        rw [hc'] at ez
        rw [hc']
        simpa using ez
      | false =>
        rw [hz] at ez
        exact h z d ez
    · exact h z d ez
theorem closOf_keep (env : Env) : ∀ (ns : List (Str × NameKind)) (cs : List (Str × Addr)) (y : Str), (∃ c, cs.lookup y = some c) → ∃ c, (closOf env ns cs).lookup y = some c
  | [], cs, y, h => h
  | (n, k) :: r, cs, y, ⟨c, h⟩ => by
    unfold closOf
    refine closOf_keep env r _ y ?_
    split
    · rw [List.lookup_cons]
      cases hz : y == n with
      | true => exact ⟨_, rfl⟩
      | false => exact ⟨c, h⟩
    · exact ⟨c, h⟩
theorem closOf_has (env : Env) : ∀ (ns : List (Str × NameKind)) (cs : List (Str × Addr)) (p : Str × NameKind), p ∈ ns → p.2 = .free → ∃ c, (closOf env ns cs).lookup p.1 = some c
  | [], cs, p, hp, _ => by simp at hp
  | (n, k) :: r, cs, p, hp, hk => by
    unfold closOf
    rcases List.mem_cons.mp hp with e | hp
    · subst e
      have hk : k = .free := hk
      subst hk
      refine closOf_keep env r _ n ?_
      rw [if_pos (by rfl), List.lookup_cons]
      exact ⟨(List.lookup n env.cells).getD 0, by simp⟩
    · exact closOf_has env r _ p hp hk
theorem closure_loop (env : Env) : ∀ (ns : List (Str × NameKind)) (cs : List (Str × Addr)), (∀ p ∈ ns, p.2 = .free → ∃ c, env.cells.lookup p.1 = some c) →
    (forIn ns cs (fun (x : Str × NameKind) (r : List (Str × Addr)) => if (x.2 == NameKind.free) = true then (do let a ← cellOf env x.1; pure (ForInStep.yield ((x.1, a) :: r))) else pure (ForInStep.yield r)) : Sem (List (Str × Addr))) = pure (closOf env ns cs)
  | [], cs, _ => rfl
  | (n, k) :: r, cs, hn => by
    have ih := fun cs' => closure_loop env r cs' fun p hp => hn p (List.mem_cons_of_mem _ hp)
    rw [List.forIn_cons]
    unfold closOf
    by_cases hk : (k == NameKind.free) = true
    · obtain ⟨c, hc⟩ := hn (n, k) List.mem_cons_self (by simpa using hk)
      have hc : env.cells.lookup n = some c := hc
      rw [if_pos hk, if_pos hk]
      have e1 : cellOf env n = pure c := by unfold cellOf; rw [hc]
      rw [e1, hc]
      exact ih _
    · rw [if_neg hk, if_neg hk]
      exact ih _
theorem closureFor_eq {scope : Scope} {env : Env} (h : ∀ p ∈ scope.names, p.2 = .free → ∃ c, env.cells.lookup p.1 = some c) : closureFor scope env = pure (closOf env scope.names []) := by
  have e := closure_loop env scope.names [] h
  unfold closureFor
  show (forIn scope.names [] _ >>= _) = _
  have e2 : (forIn scope.names ([] : List (Str × Addr)) (fun (x : Str × NameKind) (r : List (Str × Addr)) => match x with | (name, kind) => (if (kind == NameKind.free) = true then (do let a ← cellOf env name; pure PUnit.unit; pure (ForInStep.yield ((name, a) :: r))) else (do pure PUnit.unit; pure (ForInStep.yield r)))) : Sem (List (Str × Addr))) = pure (closOf env scope.names []) := e
  first
    | exact (congrArg (fun z => z >>= fun cs => pure cs) e2)
    | (rw [show (forIn scope.names ([] : List (Str × Addr)) _ : Sem (List (Str × Addr))) = pure (closOf env scope.names []) from e]; rfl)
section
variable {X : Cx}
def PIfs (X : Cx) (ifs : List Expr) (t : TT) : Prop :=
  ∀ (pins : List (Addr × Obj)) (s : Shared) (σ : St) (H : Hp) (Q : Bool → Hp → Prop), Inv X pins σ H s → t σ H Q →
    wpAny (model X.prog X.w) X.A (forIn ifs true fun c r => if r = true then do let ok ← isTrue c X.env (eval c X.env); pure (ForInStep.yield ok) else pure (ForInStep.yield r)) (TP X pins σ Q) X.xe s
def tYes : TT := fun _ H Q => Q true H
theorem pifs_nil : PIfs X [] tYes := fun pins s σ H Q I h => by
  rw [List.forIn_nil]
  exact wpAny_pure ⟨H, I, h⟩
theorem compLoop_any {prog : Program} {w : World} {A : Around} {R : Result → Shared → Prop} {s : Shared} {elt target iter : Expr} {ifs : List Expr} {scope : Scope} {pos : Pos} {it acc : Value} {env : Env} (I : Nat → Shared → Prop)
    (turn : ∀ n s, I n s → wpAny (model prog w) A (pyNext it) (fun r s1 => match r with
      | none => R (.ok .next) s1
      | some v => wpAny (model prog w) A (letOwnedTupleGo target it v) (fun _ s2 => wpAny (model prog w) A (assign target env v) (fun _ s3 =>
          wpAny (model prog w) A (forIn ifs true fun c r => if r = true then do let ok ← isTrue c env (eval c env); pure (ForInStep.yield ok) else pure (ForInStep.yield r)) (fun ok s4 =>
            if ok = true then wpAny (model prog w) A (eval elt env) (fun x s5 =>
              wpAny (model prog w) A (call (.builtin "list.append") [acc, x]) (fun _ s6 => ∃ m, m < n ∧ I m s6) (fun _ _ => False) s5) (fun _ _ => False) s4
            else ∃ m, m < n ∧ I m s4) (fun _ _ => False) s3) (fun _ _ => False) s2) (fun _ _ => False) s1) (fun _ _ => False) s)
    (n : Nat) (h : I n s) :
    codeAny (model prog w) A (.compLoop (.ListComp elt [⟨target, iter, ifs, 0⟩] scope pos) 0 it acc env) R s := by
  refine codeAny_loop rfl I (fun n s hI => ?_) n h
  show wpAny _ A ((compTurn (.ListComp elt [⟨target, iter, ifs, 0⟩] scope pos) 0 it acc env).onRaise (fun x => do noteFrame x env; theTreesLotGoes x)) _ _ s
  refine wpAny_noted ?_
  rw [compTurn_list]
  refine wpAny_bind (wpAny_standAt (wpAny_bind (wpAny_mono (turn n s hI) (fun r s1 h1 => ?_) fun _ _ f => f.elim)))
  cases r with
  | none => exact wpAny_pure h1
  | some v =>
    refine wpAny_bind (wpAny_mono h1 (fun _ s2 h2 => ?_) fun _ _ f => f.elim)
    refine wpAny_bind (wpAny_mono h2 (fun _ s3 h3 => wpAny_bind (wpAny_mono h3 (fun ok s4 h4 => ?_) fun _ _ f => f.elim)) fun _ _ f => f.elim)
    cases ok with
    | false => exact wpAny_pure ⟨rfl, h4⟩
    | true =>
      exact wpAny_bind (wpAny_bind (wpAny_mono h4 (fun x s5 h5 => wpAny_bind (wpAny_mono h5 (fun _ s6 h6 => wpAny_pure (wpAny_pure ⟨rfl, h6⟩)) fun _ _ f => f.elim)) fun _ _ f => f.elim))
def CompW (J : It) (g : TG) (tc : TT) (te : TE) (Q : VK) (σ0 : St) (H0 : Hp) : Prop := ∃ W : Nat → Nat → List V → St → Hp → Prop, (∃ m, W 0 m [] σ0 H0) ∧ ∀ i m ys σ' H', W i m ys σ' H' →
   (J.stop i H' ∧ ∀ D, H' D = none → Q (.ref D) (upd H' D (.lst ys))) ∨
   (J.go i H' ∧ ∃ N : List V → St → Hp → Prop, (∀ ys' σ2 H2, N ys' σ2 H2 → ∃ m', m' < m ∧ W (i + 1) m' ys' σ2 H2) ∧ ∀ x H2, J.yld i H' x H2 → g x σ' H2 fun σ2 H3 => tc σ2 H3 fun b H4 =>
     if b = true then te σ2 H4 fun y H5 => ys.length < sizeLine ∧ N (ys ++ [y]) σ2 H5 else N ys σ2 H4)
def tComp (nl : Nat) (fr : List Nat) (wi : TI) (g : TG) (tc : TT) (te : TE) : TE := fun σ H Q => wi σ H fun J H1 => CompW J g tc te Q (compSt nl fr σ) H1
structure CompOk (X : Cx) (N : List Str) (nl : Nat) (fr : List Nat) (scope : Scope) : Prop where
  cell : ∀ y ∈ scope.names, y.2 ≠ .cell
  kind : scope.kind = .function
  names : ∀ y ∈ scope.names, y.2 = .local → scope.names.lookup y.1 = some .local
  free : ∀ p ∈ scope.names, p.2 = .free → X.env.kindOf p.1 = some .cell ∨ X.env.kindOf p.1 = some .free
  len : N.length = nl + fr.length
  fr : ∀ (k j : Nat), fr[k]? = some j → ∃ y, N[nl + k]? = some y ∧ X.N[j]? = some y ∧ Vis X.env.scope y ∧ scope.names.lookup y = some .free
theorem lookup_relabel {env : Env} : ∀ {names : List (Str × NameKind)} {x : Str} {k : NameKind}, (names.map fun (n, k) => if (k == NameKind.free && env.scope.kind == .function && env.kindOf n == some .cell) then (n, NameKind.cell) else (n, k)).lookup x = some k →
    k = .cell ∨ k = .free → (∀ y ∈ names, y.2 ≠ .cell) → ∃ p ∈ names, p.1 = x ∧ p.2 = .free
  | [], _, _, h, _, _ => by simp at h
  | (n, kn) :: r, x, k, h, hk, hc => by
    have ih := @lookup_relabel env r x k
    rw [List.map_cons] at h
    have hcn : kn ≠ .cell := hc (n, kn) List.mem_cons_self
    have hr : ∀ y ∈ r, y.2 ≠ .cell := fun y hy => hc y (List.mem_cons_of_mem _ hy)
    cases hx : x == n with
    | true =>
      have hxn : x = n := eq_of_beq hx
      by_cases hcc : (kn == NameKind.free && env.scope.kind == .function && env.kindOf n == some .cell) = true
      · refine ⟨(n, kn), List.mem_cons_self, hxn.symm, ?_⟩
        simp only [Bool.and_eq_true] at hcc
        simpa using hcc.1.1
      · dsimp only at h
        rw [if_neg hcc, List.lookup_cons, hx] at h
        have hkk : kn = k := Option.some.inj h
        subst hkk
        rcases hk with z | z
        · exact absurd z hcn
        · exact ⟨(n, kn), List.mem_cons_self, hxn.symm, z⟩
    | false =>
      by_cases hcc : (kn == NameKind.free && env.scope.kind == .function && env.kindOf n == some .cell) = true
      · dsimp only at h
        rw [if_pos hcc, List.lookup_cons, hx] at h
        obtain ⟨p, hp, q⟩ := ih h hk hr
        exact ⟨p, List.mem_cons_of_mem _ hp, q⟩
      · dsimp only at h
        rw [if_neg hcc, List.lookup_cons, hx] at h
        obtain ⟨p, hp, q⟩ := ih h hk hr
        exact ⟨p, List.mem_cons_of_mem _ hp, q⟩
theorem lookup_relabel_free {env : Env} : ∀ {names : List (Str × NameKind)} {x : Str}, names.lookup x = some .free →
    (names.map fun (n, k) => if (k == NameKind.free && env.scope.kind == .function && env.kindOf n == some .cell) then (n, NameKind.cell) else (n, k)).lookup x = some .cell ∨
    (names.map fun (n, k) => if (k == NameKind.free && env.scope.kind == .function && env.kindOf n == some .cell) then (n, NameKind.cell) else (n, k)).lookup x = some .free
  | [], _, h => by simp at h
  | (n, kn) :: r, x, h => by
    have ih := @lookup_relabel_free env r x
    rw [List.map_cons]
    dsimp only
    cases hx : x == n with
    | true =>
      rw [List.lookup_cons, hx] at h
      have hkn : kn = .free := Option.some.inj h
      by_cases hcc : (kn == NameKind.free && env.scope.kind == .function && env.kindOf n == some .cell) = true
      · rw [if_pos hcc, List.lookup_cons, hx]; exact .inl rfl
      · rw [if_neg hcc, List.lookup_cons, hx]; exact .inr (congrArg some hkn)
    | false =>
      rw [List.lookup_cons, hx] at h
      by_cases hcc : (kn == NameKind.free && env.scope.kind == .function && env.kindOf n == some .cell) = true
      · rw [if_pos hcc, List.lookup_cons, hx]; exact ih h
      · rw [if_neg hcc, List.lookup_cons, hx]; exact ih h
theorem HOk.track {P : Program} {w : World} {H : Hp} {h : Heap} {a : Addr} {o : HO} (x : HOk P w H h) (hn : H a = none) (new : ObjOk P w (upd H a o) h a o) : HOk P w (upd H a o) h := fun b u e => by
  by_cases hb : b = a
  · subst hb; rw [upd_same] at e; cases e; exact new
  · rw [upd_ne hb] at e
    exact (x b u e).stay (fun c v _ q => q) (fun c q => by rw [upd_ne (ne_of_none q hn)]; exact q) fun c xs q => by rw [upd_ne (ne_of_none q hn)]; exact q
theorem comp_core {elt tg iter : Expr} {ifs : List Expr} {scope : Scope} {pos : Pos} {wi : TI} {g : TG} {tc : TT} {te : TE} {N : List Str} {nl : Nat} {fr : List Nat}
    (hc : X.calm = true) (hi : PI X tg iter wi) (hg : ∀ cl C s0 H0 ex, PG (compCx X N scope cl C s0 H0 ex) tg g) (ht : ∀ cl C s0 H0 ex, PIfs (compCx X N scope cl C s0 H0 ex) ifs tc)
    (he : ∀ cl C s0 H0 ex, PE (compCx X N scope cl C s0 H0 ex) elt te) (ok : CompOk X N nl fr scope)
    {RR : Value → Addr → Result → Shared → Prop} {pins : List (Addr × Obj)} {s : Shared} {σ : St} {H : Hp} {Q : VK} (I : Inv X pins σ H s) (h : tComp nl fr wi g tc te σ H Q)
    (hRR : ∀ D C s' H', Inv X pins σ H' s' → Q (.ref D) H' → FpOk X pins H' C → (∃ m, s'.heap.Ns C m) → RR (.ref D) C (.ok .next) s') :
    wpAny (model X.prog X.w) X.A (eval iter X.env) (fun x s1 => wpAny (model X.prog X.w) X.A (pyIter x) (fun it s2 => wpAny (model X.prog X.w) X.A (newList []) (fun acc s3 =>
      wpAny (model X.prog X.w) X.A (newFunctionEnv scope X.env.globals (closOf X.env scope.names []) [] X.env.qual none .none (some X.env)) (fun cenv s4 =>
        codeAny (model X.prog X.w) X.A (.compStart (.ListComp elt [⟨tg, iter, ifs, 0⟩] scope pos) 0 it acc { cenv with scope := relabel scope X.env }) (RR acc cenv.locals) s4) X.xe s3) X.xe s2) X.xe s1) X.xe s := by
  refine thn (hi pins s σ H _ I h) fun v s1 h1 => thn h1 fun itv s2 h2 => ?_
  obtain ⟨it, fp, tn, J, H2, rfl, I2, T, st2, f2, W, ⟨m0, w0⟩, turn⟩ := h2
  refine wpAny_newObj_type (wpAny_newFunctionEnv ok.cell (by intro y hy; simp at hy) (fun h1 hns1 hsb1 => ?_) ok.kind)
  dsimp only at hns1 hsb1 ⊢
  generalize hHH : s2.heap.push { cls := .type "list", dict := none, data := .seq ([] : List Value).toArray } = HH at hns1 hsb1 ⊢
  have hC : HH.objs.size = s2.heap.objs.size + 1 := by rw [← hHH, Heap.size_push]
  have hDC : s2.heap.objs.size ≠ HH.objs.size := by rw [hC]; exact Nat.ne_of_lt (Nat.lt_succ_self _)
  have hCle : s2.heap.objs.size ≤ HH.objs.size := by rw [hC]; exact Nat.le_succ _
  have below : ∀ b, b < s2.heap.objs.size → b ≠ HH.objs.size ∧ b ≠ s2.heap.objs.size := fun b hb => ⟨by rw [hC]; exact Nat.ne_of_lt (Nat.lt_succ_of_lt hb), Nat.ne_of_lt hb⟩
  have old : ∀ b o, s2.heap.get? b = some o → h1.get? b = some o := fun b o e => hsb1.extBut b o (below b (Heap.lt_size e)).1 (Heap.get?_push_of_some _ (hHH ▸ Heap.get?_push_of_some _ e))
  have hacc : h1.get? s2.heap.objs.size = some { cls := .type "list", data := .seq ([] : List Value).toArray } := hsb1.extBut _ _ hDC (Heap.get?_push_of_some _ (hHH ▸ Heap.get?_push_size _ rfl))
  have fplt : ∀ b ∈ fp, b < s2.heap.objs.size := fun b hb => by obtain ⟨o, e, _⟩ := T.obj 0 _ st2 b hb; exact Heap.lt_size e
  generalize hXd : compCx X N scope (closOf X.env scope.names []) HH.objs.size s2 H2 fp = X'
  have hfreeC : ∀ p ∈ scope.names, p.2 = .free → ∃ c, X.env.cells.lookup p.1 = some c := fun p hp hf => I.ok.has p.1 (ok.free p hp hf)
  have cellsSub : ∀ y c, (closOf X.env scope.names []).lookup y = some c → X.env.cells.lookup y = some c := closOf_sub X.env scope.names [] hfreeC (fun y c e => by simp at e)
  have cellLt : ∀ y c, X.env.cells.lookup y = some c → c < s2.heap.objs.size := fun y c e => by obtain ⟨v, z⟩ := I2.cell y c e; exact z.lt
  have ok' : X'.Ok := by
    rw [← hXd]
    refine ⟨I.ok.mod, ?_, I.ok.glob, I.ok.blt, hCle, fun x y c e1 e2 => I.ok.inj x y c (cellsSub x c e1) (cellsSub y c e2), fun x hx => ?_, fun x c hf => (by cases hf), I.ok.hd, I.ok.frames, .inl rfl,
      fun b hb => ⟨(below b (fplt b hb)).1, fun x c e => (f2 b hb).2.2.2.2.1 x c (cellsSub x c e)⟩, I2.bs, Nat.le_trans I.ok.bsz I2.sz, fun b o e hb => ?_, fun b hb hfs => ?_, I2.stack, I2.stkFree⟩
    · show (relabel scope X.env).kind = .function
      exact ok.kind
    · have hx' : ∃ p ∈ scope.names, p.1 = x ∧ p.2 = .free := by
        rcases hx with z | z
        · exact lookup_relabel z (.inl rfl) ok.cell
        · exact lookup_relabel z (.inr rfl) ok.cell
      obtain ⟨p, hp, rfl, hpf⟩ := hx'
      exact closOf_has X.env scope.names [] p hp hpf
    · rcases (f2 b hb).2.2.2.1 with z | z
      · exact I.ok.noex b o e z
      · exact absurd (Nat.lt_of_lt_of_le (Heap.lt_size e) (Nat.le_trans I.ok.bsz z)) (Nat.lt_irrefl _)
    · rcases List.mem_cons.mp (I2.stkSub b hfs) with z | z
      · exact (f2 b hb).2.1 z
      · exact (f2 b hb).2.2.1 z
  have hX'd : X'.env.locals = HH.objs.size := by rw [← hXd]; rfl
  have hX'c : X'.env.cells = closOf X.env scope.names [] := by rw [← hXd]; rfl
  have hX'pn : X'.pn = [] := by rw [← hXd]; rfl
  have hX'ex : X'.ex = fp := by rw [← hXd]; rfl
  have hX's0 : X'.s₀ = s2 := by rw [← hXd]; rfl
  have hX'H0 : X'.H₀ = H2 := by rw [← hXd]; rfl
  have hX'fs : X'.fs = frs X.stack := by rw [← hXd]; rfl
  have hX'xe : X'.xe = fun _ _ => False := by rw [← hXd]; rfl
  have hX'A : X'.A = X.A := by rw [← hXd]; rfl
  have hX'P : X'.prog = X.prog := by rw [← hXd]; rfl
  have hX'w : X'.w = X.w := by rw [← hXd]; rfl
  have hX'K : X'.K = X.K := by rw [← hXd]; rfl
  have hX'calm : X'.calm = true := by rw [← hXd]; exact hc
  have hX'env : X'.env = compEnvC scope (closOf X.env scope.names []) HH.objs.size X.env := by rw [← hXd]; rfl
  have I' : Inv X' [] (compSt nl fr σ) H2 { s2 with heap := h1, toks := s2.toks + ([] : List (Str × Value)).length } := by
    refine ⟨ok', by rw [hX's0], I2.bare, ?_, ?_, fun x c e => ?_, ?_, fun x c e => ?_, fun p hp => ?_, ?_, ?_⟩
    · rw [hX'fs, hX'ex, hX'H0, hX's0]; exact Un.kept old
    · obtain ⟨m, hn, hl⟩ := I2.loc
      rw [hX'd]
      refine ⟨_, hns1, fun i x v e1 e2 e3 => ?_⟩
      have hN' : N[i]? = some x := by rw [← hXd] at e1; exact e1
      unfold compSt at e2
      have hi : ¬ i < nl := fun hlt => by
        rw [List.getElem?_append_left (by simpa using hlt), List.getElem?_replicate, if_pos hlt] at e2
        cases e2
      rw [List.getElem?_append_right (by simpa using hi), List.length_replicate, List.getElem?_map] at e2
      cases ej : fr[i - nl]? with
      | none => rw [ej] at e2; cases e2
      | some j =>
        rw [ej] at e2
        obtain ⟨y, y1, y2, y3, y4⟩ := ok.fr (i - nl) j ej
        have hii : nl + (i - nl) = i := by omega
        rw [hii, hN'] at y1
        have hxy : x = y := Option.some.inj y1
        subst hxy
        have e2' : (σ[j]?).join = some v := Option.some.inj e2
        have e2'' : σ[j]? = some (some v) := by
          cases hσ : σ[j]? with
          | none => rw [hσ] at e2'; cases e2'
          | some z => rw [hσ] at e2'; exact congrArg some e2'
        obtain ⟨u, r, l⟩ := hl j x v y2 e2'' y3
        have hkX := ok.free (x, .free) (PySem.mem_of_lookup y4) rfl
        refine ⟨u, r, .inr ⟨?_, ?_⟩⟩
        · rw [hX'env]
          rcases lookup_relabel_free (env := X.env) y4 with z | z
          · exact .inl z
          · exact .inr z
        · rcases l with ⟨k1, _⟩ | ⟨_, c, ec, hcell⟩
          · rcases hkX with z | z
            · rw [z] at k1; cases k1
            · rw [z] at k1; cases k1
          · obtain ⟨c', ec'⟩ := closOf_has X.env scope.names [] (x, .free) (PySem.mem_of_lookup y4) rfl
            have : c' = c := by
              have q := cellsSub x c' ec'
              rw [ec] at q
              exact (Option.some.inj q).symm
            subst this
            refine ⟨c', by rw [hX'c]; exact ec', ?_⟩
            obtain ⟨oc, ho, hd⟩ := hcell
            exact ⟨oc, old _ _ ho, hd⟩
    · rw [hX'c] at e
      obtain ⟨v, oc, ho, hd⟩ := I2.cell x c (cellsSub x c e)
      exact ⟨v, oc, old _ _ ho, hd⟩
    · rw [hX'd]; exact I2.hok.fresh hCle
    · rw [hX'c] at e
      exact I2.freeC x c (cellsSub x c e)
    · rw [hX'pn] at hp; simp at hp
    · rw [hX'P, hX'w]; exact I2.hok.kept old
    · unfold compSt
      have : X'.N = N := by rw [← hXd]; rfl
      rw [this, ok.len, List.length_append, List.length_replicate, List.length_map]
  have Dn : ∀ {H' : Hp} {pins'} {s' : Shared} {σ'}, Inv X' pins' σ' H' s' → H' s2.heap.objs.size = none → ∀ o, s'.heap.get? s2.heap.objs.size = some o → (∀ v, o.data ≠ .cell v) → Inv X' [(s2.heap.objs.size, o)] σ' H' s' := fun {H' pins' s' σ'} I3 hD o ho hnc =>
    I3.pins_of fun p hp => by
      have e : p = (s2.heap.objs.size, o) := by simpa using hp
      subst e
      refine ⟨ho, hD, by rw [hX'd]; exact hDC, ?_, hnc⟩
      rw [hX'fs]
      intro hb
      rcases List.mem_cons.mp (I2.stkSub _ hb) with z | z
      · exact absurd (z ▸ I2.lt) (Nat.lt_irrefl _)
      · exact I2.nofs (Nat.le_refl _) z
  have loop : ∀ s₃ : Shared, s₃ = { s2 with heap := h1, toks := s2.toks + ([] : List (Str × Value)).length } →
      codeAny (model X.prog X.w) X.A (.compLoop (.ListComp elt [⟨tg, iter, ifs, 0⟩] scope pos) 0 (.ref it) (.ref s2.heap.objs.size) (compEnvC scope (closOf X.env scope.names []) HH.objs.size X.env)) (RR (.ref s2.heap.objs.size) HH.objs.size) s₃ := by
    rintro s₃ rfl
    refine compLoop_any (fun n s' => ∃ (i : Nat) (σ' : St) (H' : Hp) (ys : List V) (its : List Value) (k : Nat), Inv X' [(s2.heap.objs.size, { cls := .type "list", data := .seq its.toArray k })] σ' H' s' ∧ Vals ys its ∧ ys.length ≤ sizeLine ∧ tn i s'.heap ∧ (∀ b ∈ fp, H' b = none) ∧ W i n ys σ' H')
      ?_ m0 ⟨0, _, H2, [], [], 0, Dn I' (I2.hok.fresh (Nat.le_refl _)) _ hacc (fun v z => by cases z), .nil, Nat.zero_le _, T.keep 0 _ _ st2 fun b hb o e => old b o e, fun b hb => (f2 b hb).1, w0⟩
    rintro n s3 ⟨i, σ3, H3, ys, its, k, I3, rv, hyl, st3, fr3, w3⟩
    have pinD := I3.pin (s2.heap.objs.size, { cls := .type "list", data := .seq its.toArray k }) (by rw [hX'pn]; exact List.mem_append_right _ List.mem_cons_self)
    have stat : ∀ {o : Obj} {H' : Hp}, (∀ b ∈ fp, H' b = none) → ∀ b ∈ fp, FpOk X' [(s2.heap.objs.size, o)] H' b := fun {o H'} hn b hb => by
      refine ⟨hn b hb, by rw [hX'd]; exact (below b (fplt b hb)).1, fun z => ok'.exfs b (by rw [hX'ex]; exact hb) z, .inl (by rw [hX'ex]; exact hb), fun x c e => by rw [hX'c] at e; exact (f2 b hb).2.2.2.2.1 x c (cellsSub x c e), fun p hp => ?_⟩
      rw [hX'pn] at hp
      have e : p = (s2.heap.objs.size, o) := by simpa using hp
      subst e
      exact fun z => (below b (fplt b hb)).2 z.symm
    rcases turn i n ys σ3 H3 w3 with ⟨stop, qn⟩ | ⟨go, Nx, hNx, step⟩
    · have dn := T.done X' hX'P hX'w hX'K hX'calm i _ s3 σ3 H3 (fun _ _ => False) I3 (stat fr3) st3 stop
      rw [hX'A] at dn
      refine thn dn fun r s4 ⟨hr, I4⟩ => ?_
      subst hr
      have pinE := I4.pin (s2.heap.objs.size, { cls := .type "list", data := .seq its.toArray k }) (by rw [hX'pn]; exact List.mem_append_right _ List.mem_cons_self)
      have ub : Un (frs X.stack) fp H2 H3 s2.heap s4.heap := by
        have := I4.base
        rw [hX'fs, hX'ex, hX'H0, hX's0] at this
        exact this
      have hok4 : HOk X.prog X.w H3 s4.heap := by have := I4.hok; rw [hX'P, hX'w] at this; exact this
      have nD : ∀ b u, H3 b = some u → b ≠ s2.heap.objs.size := fun b u e z => by rw [z, pinE.2.1] at e; cases e
      have u2 : Un (frs X.stack) fp H2 (upd H3 s2.heap.objs.size (.lst ys)) s2.heap s4.heap :=
        ⟨ub.keep, ub.slot, fun b o e n' hx => by rw [upd_ne (Nat.ne_of_lt (Heap.lt_size e))]; exact ub.free b o e n' hx, ub.there,
          fun b xs e => by have := ub.tups b xs e; rw [upd_ne (nD b _ this)]; exact this, fun b o u e => by have := ub.frzs b o u e; rw [upd_ne (nD b _ this)]; exact this,
          fun b ps e => by obtain ⟨more, z⟩ := ub.tbls b ps e; exact ⟨more, by rw [upd_ne (nD b _ z)]; exact z⟩⟩
      have I5 : Inv X pins σ (upd H3 s2.heap.objs.size (.lst ys)) s4 := by
        refine I2.call' (by rw [I4.os, hX's0]) u2 ?_ I4.bare fun b hb => ⟨(f2 b hb).2.2.2.1, (f2 b hb).2.1, (f2 b hb).2.2.2.2.1, (f2 b hb).2.2.2.2.2⟩
        exact HOk.track hok4 pinE.2.1 ⟨hyl, its, k, rv, pinE.1⟩
      refine hRR _ _ s4 _ I5 (qn _ pinE.2.1) (I2.fpOk hCle ?_) ?_
      · rw [upd_ne (Ne.symm hDC)]
        have := I4.free
        rw [hX'd] at this
        exact this
      · obtain ⟨m, hn, _⟩ := I4.loc
        rw [hX'd] at hn
        exact ⟨m, hn⟩
    · have im := T.item X' hX'P hX'w hX'K hX'calm i _ s3 σ3 H3 (fun _ _ => False) I3 (stat fr3) st3 go
      rw [hX'A] at im
      refine thn im fun r s4 ⟨u, hr, h4⟩ => ?_
      subst hr
      refine thn h4 fun _ s5 ⟨x, H5, I5, r5, y5, st5, fr5⟩ => ?_
      have I5' := I5.pinned (stat fr5) (T.obj _ _ st5)
      have gg := hg (closOf X.env scope.names []) HH.objs.size s2 H2 fp
      rw [hXd] at gg
      have gg := gg _ s5 σ3 H5 x u _ I5' r5 (step x H5 y5)
      rw [hX'A, hX'P, hX'w, hX'xe, hX'env] at gg
      refine thn gg fun _ s6 ⟨σ6, H6, I6, q6⟩ => ?_
      have tt := ht (closOf X.env scope.names []) HH.objs.size s2 H2 fp
      rw [hXd] at tt
      have tt := tt _ s6 σ6 H6 _ I6 q6
      rw [hX'A, hX'P, hX'w, hX'xe, hX'env] at tt
      refine thn tt fun ok7 s7 ⟨H7, I7, q7⟩ => ?_
      have again : ∀ {s8 : Shared} {σ8 : St} {H8 : Hp} {ys8 : List V} {its8 : List Value} {k8 : Nat}, Inv X' ([(s2.heap.objs.size, { cls := .type "list", data := .seq its8.toArray k8 })] ++ pinsAt fp s5.heap) σ8 H8 s8 → Vals ys8 its8 → ys8.length ≤ sizeLine → Nx ys8 σ8 H8 →
          ∃ m, m < n ∧ ∃ (i : Nat) (σ' : St) (H' : Hp) (ys : List V) (its : List Value) (k : Nat), Inv X' [(s2.heap.objs.size, { cls := .type "list", data := .seq its.toArray k })] σ' H' s8 ∧ Vals ys its ∧ ys.length ≤ sizeLine ∧ tn i s8.heap ∧ (∀ b ∈ fp, H' b = none) ∧ W i m ys σ' H' :=
        fun {s8 σ8 H8 ys8 its8 k8} I8 rv8 hl8 n8 => by
          obtain ⟨m', hm, w8⟩ := hNx ys8 σ8 H8 n8
          refine ⟨m', hm, i + 1, σ8, H8, ys8, its8, k8, I8.unpinned, rv8, hl8, T.keep _ _ _ st5 fun b hb o e => (I8.pin (b, o) (List.mem_append_right _ (List.mem_append_right _ (mem_pinsAt hb e)))).1, fun b hb => ?_, w8⟩
          obtain ⟨o, e, d⟩ := T.obj _ _ st5 b hb
          exact (I8.pin (b, o) (List.mem_append_right _ (List.mem_append_right _ (mem_pinsAt hb e)))).2.1
      cases ok7 with
      | false =>
        rw [if_neg Bool.false_ne_true] at q7 ⊢
        exact again I7 rv hyl q7
      | true =>
        rw [if_pos rfl] at q7 ⊢
        have ee := he (closOf X.env scope.names []) HH.objs.size s2 H2 fp
        rw [hXd] at ee
        have ee := ee _ s7 σ6 H7 _ I7 q7
        rw [hX'A, hX'P, hX'w, hX'xe, hX'env] at ee
        refine thn ee fun yv s8 ⟨y, H8, I8, r8, hyl8, q8⟩ => ?_
        have pin8 := I8.pin (s2.heap.objs.size, { cls := .type "list", data := .seq its.toArray k }) (List.mem_append_right _ (List.mem_append_left _ List.mem_cons_self))
        refine wpAny_list_append_plain (items := its.toArray) ⟨k, pin8.1⟩ (fun h9 hp9 hs9 => ?_) (by rw [List.size_toArray, ← rv.length]; exact hyl)
        obtain ⟨k9, e9⟩ := hp9
        have I9 : Inv X' (pinsAt fp s5.heap) σ6 H8 s8 := I8.pins_of fun p hp => I8.pin p (List.mem_append_right _ (List.mem_append_right _ hp))
        have I9' : Inv X' (pinsAt fp s5.heap) σ6 H8 { s8 with heap := h9, toks := s8.toks } := by
          refine I9.turned (t' := s8.toks) (it := s2.heap.objs.size) (fun b o hb e => hs9.extBut b o hb e) pin8.2.1 (by rw [hX'd]; exact hDC) (.inr (by rw [hX's0]; exact Nat.le_refl _)) (fun x c e z => ?_) fun p hp z => ?_
          · rw [hX'c] at e
            exact absurd (z ▸ cellLt x c (cellsSub x c e)) (Nat.lt_irrefl _)
          · rw [hX'pn] at hp
            obtain ⟨hb, _⟩ := of_pinsAt (by simpa using hp)
            exact absurd (z ▸ fplt _ hb) (Nat.lt_irrefl _)
        have e9' : h9.get? s2.heap.objs.size = some { cls := .type "list", data := .seq (its ++ [yv]).toArray k9 } := by rw [e9]; simp
        refine again (ys8 := ys ++ [y]) (its8 := its ++ [yv]) (k8 := k9) ?_ (Vals.append rv (.cons r8 .nil)) (by rw [List.length_append]; exact hyl8) q8
        refine I9'.pins_of fun p hp => ?_
        rcases List.mem_append.mp hp with z | z
        · have e : p = (s2.heap.objs.size, { cls := .type "list", data := .seq (its ++ [yv]).toArray k9 }) := by simpa using z
          subst e
          exact ⟨e9', pin8.2.1, pin8.2.2.1, pin8.2.2.2.1, fun v z => by cases z⟩
        · exact I9'.pin p (List.mem_append_right _ z)
  exact codeAny_compStart_list (loop _ rfl) (T.self X.A 0 _ _ _ (T.keep 0 _ _ st2 fun b hb o e => old b o e) (loop _ rfl))
end
end L2
namespace L2
open PySem PySem.Spec PyProof.Rows
section
variable {X : Cx}
theorem pe_comp {elt tg iter : Expr} {ifs : List Expr} {scope : Scope} {pos : Pos} {wi : TI} {g : TG} {tc : TT} {te : TE} {N : List Str} {nl : Nat} {fr : List Nat}
    (hc : X.calm = true) (ok : CompOk X N nl fr scope) (hi : PI X tg iter wi) (hg : ∀ cl C s0 H0 ex, PG (compCx X N scope cl C s0 H0 ex) tg g) (ht : ∀ cl C s0 H0 ex, PIfs (compCx X N scope cl C s0 H0 ex) ifs tc)
    (he : ∀ cl C s0 H0 ex, PE (compCx X N scope cl C s0 H0 ex) elt te) (hs : ∀ x, foldedSetIterable iter X.env x = pure x := by intro _; rfl) :
    PE X (.ListComp elt [⟨tg, iter, ifs, 0⟩] scope pos) (tComp nl fr wi g tc te) := by
  intro pins s σ H Q I h
  have hclos : closureFor scope X.env = pure (closOf X.env scope.names []) := closureFor_eq fun p hp hf => I.ok.has p.1 (ok.free p hp hf)
  rw [eval_ListComp]
  refine wpAny_comprehension_free (use := none) rfl hs hclos ok.kind ok.names (comp_core (RR := fun acc C => compPost (model X.prog X.w) X.A X.xe none (EP X pins σ Q) acc C) hc hi hg ht he ok I h ?_)
  intro D C s' H' I' q f ⟨m, hn⟩
  exact ⟨m, hn, fun h' hs' => ⟨.ref D, H', I'.turned (t' := s'.toks) (fun b o hb e => hs'.extBut b o hb e) f.1 f.2.1 f.2.2.2.1 f.2.2.2.2.1 f.2.2.2.2.2, rfl, q⟩⟩
theorem comp_list {K : PySem.W.Frag} {a : Addr} {xs : List V} {g : TG} {tc : TT} {te : TE} {σ0 : St} {H : Hp} {Q : VK} (Pv : Nat → List V → St → Hp → Prop) (h0 : Pv 0 [] σ0 H) (hl : ∀ i ys σ H, i ≤ xs.length → Pv i ys σ H → SqL K H a xs)
    (hs : ∀ i x ys σ H, xs[i]? = some x → Pv i ys σ H → g x σ H fun σ2 H2 => tc σ2 H2 fun b H4 => if b = true then te σ2 H4 fun y H5 => ys.length < sizeLine ∧ Pv (i + 1) (ys ++ [y]) σ2 H5 else Pv (i + 1) ys σ2 H4)
    (hd : ∀ ys σ H, Pv xs.length ys σ H → ∀ D, H D = none → Q (.ref D) (upd H D (.lst ys))) :
    CompW (Itl K a) g tc te Q σ0 H := by
  refine ⟨fun i m ys σ H => m = xs.length - i ∧ i ≤ xs.length ∧ Pv i ys σ H, ⟨xs.length, by simp, Nat.zero_le _, h0⟩, ?_⟩
  rintro i m ys σ H ⟨rfl, hi, p⟩
  have q := hl i ys σ H hi p
  by_cases hlt : i < xs.length
  · refine .inr ⟨⟨xs, xs[i], q, by simp [hlt]⟩, Pv (i + 1), fun ys' σ' H' p' => ⟨xs.length - (i + 1), by omega, rfl, hlt, p'⟩, fun x H' y => ?_⟩
    obtain ⟨e, y⟩ := y
    subst e
    exact hs i x ys σ _ (y xs q) p
  · have e : i = xs.length := by omega
    subst e
    exact .inl ⟨⟨xs, q, Nat.le_refl _⟩, hd ys σ H p⟩
theorem comp_range {lo : Int} {n : Nat} {g : TG} {tc : TT} {te : TE} {σ0 : St} {H : Hp} {Q : VK} (Pv : Nat → List V → St → Hp → Prop) (h0 : Pv 0 [] σ0 H)
    (hs : ∀ i ys σ H, i < n → Pv i ys σ H → g (.int (lo + i)) σ H fun σ2 H2 => tc σ2 H2 fun b H4 => if b = true then te σ2 H4 fun y H5 => ys.length < sizeLine ∧ Pv (i + 1) (ys ++ [y]) σ2 H5 else Pv (i + 1) ys σ2 H4)
    (hd : ∀ ys σ H, Pv n ys σ H → ∀ D, H D = none → Q (.ref D) (upd H D (.lst ys))) :
    CompW (Itr lo n) g tc te Q σ0 H := by
  refine ⟨fun i m ys σ H => m = n - i ∧ i ≤ n ∧ Pv i ys σ H, ⟨n, by simp, Nat.zero_le _, h0⟩, ?_⟩
  rintro i m ys σ H ⟨rfl, hi, p⟩
  by_cases hlt : i < n
  · refine .inr ⟨hlt, Pv (i + 1), fun ys' σ' H' p' => ⟨n - (i + 1), by omega, rfl, hlt, p'⟩, fun x H' y => ?_⟩
    obtain ⟨e, y⟩ := y
    subst e y
    exact hs i ys σ _ hlt p
  · have e : i = n := by omega
    subst e
    exact .inl ⟨Nat.le_refl _, hd ys σ H p⟩
inductive EqD (K : PySem.W.Frag) (H : Hp) : Nat → V → V → Bool → Prop where
  | flat {n : Nat} {x y : V} : flatV x = true → flatV y = true → EqD K H n x y (eqV x y)
  | same {n : Nat} (a : Addr) : EqD K H n (.ref a) (.ref a) true
  | lists {n : Nat} {a b : Addr} {xs ys : List V} (e : Nat → Bool) : a ≠ b → SqL K H a xs → SqL K H b ys → xs.length = ys.length → (∀ (j : Nat) x y, xs[j]? = some x → ys[j]? = some y → EqD K H n x y (e j)) → EqD K H (n + 1) (.ref a) (.ref b) ((List.range xs.length).all e)
  | lens {n : Nat} {a b : Addr} {xs ys : List V} : a ≠ b → SqL K H a xs → SqL K H b ys → xs.length ≠ ys.length → EqD K H (n + 1) (.ref a) (.ref b) false
theorem eqAt_D {pins : List (Addr × Obj)} {σ : St} {H : Hp} {s : Shared} (I : Inv X pins σ H s) {n : Nat} {x y : V} {b : Bool} (d : EqD X.K H n x y b) :
    ∀ {A : Around} {u v : Value}, A.units + n < cLine → RelV x u → RelV y v → SeqAt.EqAt A s u v b := by
  induction d with
  | flat fx fy => intro A u v _ rx ry; exact eqAt_V rx ry fx fy
  | same a => intro A u v _ rx ry; cases rx; cases ry; exact SeqAt.EqAt.same _
  | @lists n a c xs ys e ne ha hb hl _ ih =>
    intro A u v hu rx ry
    cases rx; cases ry
    obtain ⟨its, r1, p1, _⟩ := I.list ha
    obtain ⟨its2, r2, p2, _⟩ := I.list hb
    have l1 := r1.length
    have l2 := r2.length
    refine SeqAt.EqAt.of_refs ne ?_
    have q := SeqAt.RcAt.lists (A := A) (e := e) p1.isList p2.isList (by rw [List.size_toArray, List.size_toArray]; omega) (by omega) (fun j h1 h2 => by
      have h1' : j < its.length := by simpa using h1
      have h2' : j < its2.length := by simpa using h2
      have e1 : xs[j]? = some (xs[j]'(by omega)) := List.getElem?_eq_getElem _
      have e2 : ys[j]? = some (ys[j]'(by omega)) := List.getElem?_eq_getElem _
      obtain ⟨u1, z1, q1⟩ := r1.get e1
      obtain ⟨u2, z2, q2⟩ := r2.get e2
      have w1 : its.toArray[j] = u1 := by
        rw [List.getElem?_eq_getElem h1'] at z1
        simpa using z1
      have w2 : its2.toArray[j] = u2 := by
        rw [List.getElem?_eq_getElem h2'] at z2
        simpa using z2
      rw [w1, w2]
      exact ih j _ _ e1 e2 (by show A.in1.units + n < cLine; have : A.in1.units = A.units + 1 := by first | rfl | simp [Around.in1]
                               omega) q1 q2)
    rw [List.size_toArray, ← l1] at q
    exact q
  | lens ne ha hb hl =>
    intro A u v hu rx ry
    cases rx; cases ry
    obtain ⟨its, r1, p1, _⟩ := I.list ha
    obtain ⟨its2, r2, p2, _⟩ := I.list hb
    have l1 := r1.length
    have l2 := r2.length
    exact SeqAt.EqAt.of_refs ne (SeqAt.RcAt.lists_lengths p1.isList p2.isList (by rw [List.size_toArray, List.size_toArray]; simp; omega) (by omega))
def LEq (K : PySem.W.Frag) (H : Hp) (n : Nat) (xs ys : List V) (r : Bool) : Prop :=
  (xs.length ≠ ys.length ∧ r = false) ∨ (∃ e : Nat → Bool, xs.length = ys.length ∧ (∀ (j : Nat) x y, xs[j]? = some x → ys[j]? = some y → EqD K H n x y (e j)) ∧ r = (List.range xs.length).all e)
theorem leq_rc {pins : List (Addr × Obj)} {σ : St} {H : Hp} {s : Shared} (I : Inv X pins σ H s) {A : Around} {n : Nat} {a b : Addr} {xs ys : List V} {r : Bool} (hu : A.units + n + 1 < cLine) (ha : SqL X.K H a xs) (hb : SqL X.K H b ys) (d : LEq X.K H n xs ys r) :
    SeqAt.RcAt A s (.ref a) (.ref b) r := by
  obtain ⟨its, r1, p1, _⟩ := I.list ha
  obtain ⟨its2, r2, p2, _⟩ := I.list hb
  have l1 := r1.length
  have l2 := r2.length
  rcases d with ⟨hl, rfl⟩ | ⟨e, hl, he, rfl⟩
  · exact SeqAt.RcAt.lists_lengths p1.isList p2.isList (by rw [List.size_toArray, List.size_toArray]; simp; omega) (by omega)
  · have q := SeqAt.RcAt.lists (A := A) (e := e) p1.isList p2.isList (by rw [List.size_toArray, List.size_toArray]; omega) (by omega) (fun j h1 h2 => by
      have h1' : j < its.length := by simpa using h1
      have h2' : j < its2.length := by simpa using h2
      have e1 : xs[j]? = some (xs[j]'(by omega)) := List.getElem?_eq_getElem _
      have e2 : ys[j]? = some (ys[j]'(by omega)) := List.getElem?_eq_getElem _
      obtain ⟨u1, z1, q1⟩ := r1.get e1
      obtain ⟨u2, z2, q2⟩ := r2.get e2
      have w1 : its.toArray[j] = u1 := by
        rw [List.getElem?_eq_getElem h1'] at z1
        simpa using z1
      have w2 : its2.toArray[j] = u2 := by
        rw [List.getElem?_eq_getElem h2'] at z2
        simpa using z2
      rw [w1, w2]
      exact eqAt_D I (he j _ _ e1 e2) (by show A.in1.units + n < cLine; have : A.in1.units = A.units + 1 := by first | rfl | simp [Around.in1]
                                          omega) q1 q2)
    rw [List.size_toArray, ← l1] at q
    exact q
end
end L2
namespace L2
open PySem PySem.Spec PyProof.Rows
section
variable {X : Cx}
theorem leq_rcNe {pins : List (Addr × Obj)} {σ : St} {H : Hp} {s : Shared} (I : Inv X pins σ H s) {A : Around} {n : Nat} {a b : Addr} {xs ys : List V} {r : Bool} (hu : A.units + n + 1 < cLine) (ha : SqL X.K H a xs) (hb : SqL X.K H b ys) (d : LEq X.K H n xs ys r) :
    SeqAt.RcNeAt A s (.ref a) (.ref b) (!r) := by
  obtain ⟨its, r1, p1, _⟩ := I.list ha
  obtain ⟨its2, r2, p2, _⟩ := I.list hb
  have l1 := r1.length
  have l2 := r2.length
  rcases d with ⟨hl, rfl⟩ | ⟨e, hl, he, rfl⟩
  · exact SeqAt.RcNeAt.lists_lengths p1.isList p2.isList (by rw [List.size_toArray, List.size_toArray]; simp; omega) (by omega)
  · have q := SeqAt.RcNeAt.lists (A := A) (e := e) p1.isList p2.isList (by rw [List.size_toArray, List.size_toArray]; omega) (by omega) (fun j h1 h2 => by
      have h1' : j < its.length := by simpa using h1
      have h2' : j < its2.length := by simpa using h2
      have e1 : xs[j]? = some (xs[j]'(by omega)) := List.getElem?_eq_getElem _
      have e2 : ys[j]? = some (ys[j]'(by omega)) := List.getElem?_eq_getElem _
      obtain ⟨u1, z1, q1⟩ := r1.get e1
      obtain ⟨u2, z2, q2⟩ := r2.get e2
      have w1 : its.toArray[j] = u1 := by
        rw [List.getElem?_eq_getElem h1'] at z1
        simpa using z1
      have w2 : its2.toArray[j] = u2 := by
        rw [List.getElem?_eq_getElem h2'] at z2
        simpa using z2
      rw [w1, w2]
      exact eqAt_D I (he j _ _ e1 e2) (by show A.in1.units + n < cLine; have : A.in1.units = A.units + 1 := by first | rfl | simp [Around.in1]
                                          omega) q1 q2)
    rw [List.size_toArray, ← l1] at q
    exact q
def rEqL (K : PySem.W.Frag) (n : Nat) (neg : Bool) : R2 := fun x y H Q => ∃ a b xs ys r, x = .ref a ∧ y = .ref b ∧ SqL K H a xs ∧ SqL K H b ys ∧ LEq K H n xs ys r ∧ Q (.bl (if neg then !r else r)) H
theorem op_eqL (n : Nat) (hu : X.A.units + n + 1 < cLine) : OpR X (compareOp .Eq) (rEqL X.K n false) := by
  intro pins s σ H x y v u Q I rx ry h
  obtain ⟨a, b, xs, ys, r, rfl, rfl, ha, hb, d, q⟩ := h
  cases rx; cases ry
  exact leq_rc I hu ha hb d _ _ _ _ ⟨.bl r, H, I, rfl, q⟩
theorem op_neL (n : Nat) (hu : X.A.units + n + 1 < cLine) : OpR X (compareOp .NotEq) (rEqL X.K n true) := by
  intro pins s σ H x y v u Q I rx ry h
  obtain ⟨a, b, xs, ys, r, rfl, rfl, ha, hb, d, q⟩ := h
  cases rx; cases ry
  exact leq_rcNe I hu ha hb d _ _ _ _ ⟨.bl (!r), H, I, rfl, q⟩
theorem all_range_iff {n : Nat} {e : Nat → Bool} : (List.range n).all e = true ↔ ∀ j, j < n → e j = true := by
  rw [List.all_eq_true]
  exact ⟨fun h j hj => h j (List.mem_range.mpr hj), fun h j hj => h j (List.mem_range.mp hj)⟩
theorem leq_ints (K : PySem.W.Frag) (H : Hp) (n : Nat) (ns ms : List Int) : LEq K H n (ns.map V.int) (ms.map V.int) (decide (ns = ms)) := by
  by_cases hl : ns.length = ms.length
  · refine .inr ⟨fun j => decide (ns[j]? = ms[j]?), by simpa using hl, fun j x y e1 e2 => ?_, ?_⟩
    · rw [List.getElem?_map] at e1 e2
      cases h1 : ns[j]? with
      | none => rw [h1] at e1; cases e1
      | some a =>
        cases h2 : ms[j]? with
        | none => rw [h2] at e2; cases e2
        | some b =>
          rw [h1] at e1; rw [h2] at e2
          cases e1; cases e2
          have q : EqD K H n (V.int a) (V.int b) (eqV (V.int a) (V.int b)) := .flat rfl rfl
          have e : eqV (V.int a) (V.int b) = decide (some a = some b) := by
            show (a == b) = _
            by_cases z : a = b
            · subst z; simp
            · rw [decide_eq_false (fun w => z (Option.some.inj w))]; simpa using z
          rw [e] at q
          show EqD K H n _ _ (decide (ns[j]? = ms[j]?))
          rw [h1, h2]
          exact q
    · rw [Bool.eq_iff_iff, decide_eq_true_iff, all_range_iff]
      constructor
      · intro h j _; subst h; simp
      · intro h
        refine List.ext_getElem? fun j => ?_
        by_cases hj : j < ns.length
        · exact of_decide_eq_true (h j (by simpa using hj))
        · rw [List.getElem?_eq_none (by omega), List.getElem?_eq_none (by omega)]
  · refine .inl ⟨by simpa using hl, ?_⟩
    exact decide_eq_false fun h => hl (by rw [h])
theorem call_range1 : CallR X (.type "range") (fun xs H Q => ∃ j, xs = [.int j] ∧ ∀ p, H p = none → Q (.ref p) (upd H p (.rng 0 j))) := by
  intro pins s σ H xs us Q I r h
  obtain ⟨j, rfl, q⟩ := h
  obtain ⟨u, rfl, ⟨t, rfl⟩⟩ := vals1 r
  refine call_range_1 ⟨.ref s.heap.objs.size, _, I.laid (fun b o e => Heap.get?_push_of_some _ e) (Nat.le_refl _) ?_, rfl, q _ (I.hok.fresh (Nat.le_refl _))⟩
  exact ⟨_, _, _, Heap.get?_push_size _ rfl⟩
def upTo (lo : Int) (n : Nat) : List Int := (List.range n).map fun (i : Nat) => lo + (i : Int)
theorem vals_items {lo : Int} {n : Nat} {acc : Array Value} (h : ItemsOf (fun i v => ∃ t, v = Value.int (lo + (i : Int) * 1) t) acc n) : Vals ((upTo lo n).map V.int) acc.toList := by
  obtain ⟨hs, hv⟩ := h
  have key : ∀ (l : List Value) (k : Nat), (∀ (j : Nat) v, l[j]? = some v → ∃ t, v = Value.int (lo + ((k + j : Nat) : Int)) t) → Vals (((List.range l.length).map fun (i : Nat) => lo + ((k + i : Nat) : Int)).map V.int) l := by
    intro l
    induction l with
    | nil => intro k _; exact .nil
    | cons v r ih =>
      intro k hk
      have e : (((List.range r.length).map Nat.succ).map fun (i : Nat) => lo + ((k + i : Nat) : Int)) = (List.range r.length).map fun (i : Nat) => lo + ((k + 1 + i : Nat) : Int) := by
        rw [List.map_map]
        refine List.map_congr_left fun i _ => ?_
        show lo + ((k + (i + 1) : Nat) : Int) = _
        congr 2; omega
      rw [List.length_cons, List.range_succ_eq_map, List.map_cons, List.map_cons, e]
      refine .cons ?_ ?_
      · obtain ⟨t, e⟩ := hk 0 v rfl
        exact ⟨t, e⟩
      · have := ih (k + 1) fun j w e => by
          obtain ⟨t, z⟩ := hk (j + 1) w (by simpa using e)
          exact ⟨t, by rw [z]; congr 2; omega⟩
        exact this
  have := key acc.toList 0 fun j v e => by
    obtain ⟨t, z⟩ := hv j v (by simpa using e)
    exact ⟨t, by rw [z, Int.mul_one]; simp⟩
  have hl : acc.toList.length = n := by simpa using hs
  rw [hl] at this
  have e : ((List.range n).map fun (i : Nat) => lo + ((0 + i : Nat) : Int)) = upTo lo n := by
    unfold upTo
    refine List.map_congr_left fun i _ => ?_
    simp
  rw [e] at this
  exact this
theorem call_list_rng (hc : X.calm = true) : CallR X (.type "list") (fun xs H Q => ∃ p lo hi, xs = [.ref p] ∧ H p = some (.rng lo hi) ∧ (-(2 ^ 62) ≤ lo ∧ lo < 2 ^ 62 ∧ -(2 ^ 62) ≤ hi ∧ hi < 2 ^ 62) ∧ (hi - lo).toNat ≤ 2 ^ 20 ∧
    ∀ l, H l = none → Q (.ref l) (upd H l (.lst ((upTo lo (hi - lo).toNat).map V.int)))) := by
  intro pins s σ H xs us Q I r h
  obtain ⟨p, lo, hi, rfl, hp, ⟨b1, b2, b3, b4⟩, hz, q⟩ := h
  obtain ⟨u, rfl, rx⟩ := vals1 r
  cases rx
  obtain ⟨t, u, v, ho⟩ := I.hok p _ hp
  refine call_list_range (n := (hi - lo).toNat) (I.ok.hd hc) (r := p) ho (small_one b1 b2 b3 b4) (by rw [rangeSize_one]; split <;> omega) (Nat.le_trans hz (by decide)) fun h' tk acc' c' hk e it => ?_
  have rv := vals_items it
  refine ⟨.ref s.heap.objs.size, _, I.laid hk (Nat.le_refl _) (show ObjOk X.prog X.w _ h' _ (.lst ((upTo lo (hi - lo).toNat).map V.int)) from ⟨?_, acc'.toList, c', rv, by rw [e]⟩), rfl, q _ (I.hok.fresh (Nat.le_refl _))⟩
  unfold upTo
  rw [List.length_map, List.length_map, List.length_range]
  exact Nat.le_trans hz (by rw [sizeLine_eq]; decide)
theorem call_sumI (hc : X.calm = true) : CallR X (.builtin "sum") (fun xs H Q => ∃ (p : Addr) (ns : List Int), xs = [.ref p] ∧ SqL X.K H p (ns.map V.int) ∧ Q (.int ns.sum) H) := by
  intro pins s σ H xs us Q I r h
  obtain ⟨p, ns, rfl, hp, q⟩ := h
  obtain ⟨u, rfl, rx⟩ := vals1 r
  cases rx
  obtain ⟨its, rv, pl, _⟩ := I.list hp
  have ia := intsAre_of rv
  obtain ⟨xs, hxs⟩ := ia.allInts.items
  have hn := ia.numsOf
  have hxl : its = (intItems xs).toList := by rw [← hxs]
  rw [hxl, nums_intItems] at hn
  have hl := pl.isList
  rw [hxs] at hl
  refine sum_intListG (I.ok.hd hc) hl fun h' tk t' hk => ⟨.int ns.sum, H, I.kept hk, ?_, q⟩
  rw [preSum_eq, List.take_of_length_le (by simp), hn]
  exact ⟨_, rfl⟩
end
end L2
namespace L2
open PySem PySem.Spec PyProof.Rows
section
variable {X : Cx}
theorem call_isi : CallR X (.builtin "isinstance") (fun xs H Q => ∃ x n t b, xs = [x, .ty n] ∧ TyOf X.K H x t ∧ PySem.W.kitOne X.K t (.type n) = some b ∧ Q (.bl b) H) := by
  intro pins s σ H xs us Q I r h
  obtain ⟨x, n, t, b, rfl, ty, e, q⟩ := h
  obtain ⟨u, w', rfl, rx, ry⟩ := vals2 r
  cases (show w' = Value.type n from ry)
  exact isinst_ok I rx ty e fun tk => ⟨.bl b, H, I.tok tk, rfl, q⟩
theorem kit_same (K : PySem.W.Frag) (n : String) : PySem.W.kitOne K (.type n) (.type n) = some true := by
  unfold PySem.W.kitOne
  rw [if_pos (beq_self_eq_true _)]
theorem kit_int_bool (K : PySem.W.Frag) : PySem.W.kitOne K (.type "int") (.type "bool") = some false := by
  unfold PySem.W.kitOne PySem.W.kitCls
  rw [if_neg (by decide +kernel)]
  show (if PySem.W.kitMeta "bool" = true then (fastBuiltinMro "int").map (·.contains (Value.type "bool")) else none) = some false
  rw [if_pos (by decide +kernel)]
  decide +kernel
theorem kit_bool_int (K : PySem.W.Frag) : PySem.W.kitOne K (.type "bool") (.type "int") = some true := by
  unfold PySem.W.kitOne PySem.W.kitCls
  rw [if_neg (by decide +kernel)]
  show (if PySem.W.kitMeta "int" = true then (fastBuiltinMro "bool").map (·.contains (Value.type "int")) else none) = some true
  rw [if_pos (by decide +kernel)]
  decide +kernel
theorem boot_int : bootBuiltins "int" = some (.type "int") := by decide +kernel
theorem boot_bool : bootBuiltins "bool" = some (.type "bool") := by decide +kernel
theorem boot_listT : bootBuiltins "list" = some (.type "list") := by decide +kernel
theorem boot_rangeT : bootBuiltins "range" = some (.type "range") := by decide +kernel
theorem boot_isi : bootBuiltins "isinstance" = some (.builtin "isinstance") := by decide +kernel
theorem boot_sumB : bootBuiltins "sum" = some (.builtin "sum") := by decide +kernel
theorem boot_minB : bootBuiltins "min" = some (.builtin "min") := by decide +kernel
theorem boot_maxB : bootBuiltins "max" = some (.builtin "max") := by decide +kernel
end
def KeepBut (a : Addr) (H H' : Hp) : Prop := ∀ b o, H b = some o → b ≠ a → H' b = some o
theorem KeepBut.refl (a : Addr) (H : Hp) : KeepBut a H H := fun _ _ h _ => h
theorem KeepBut.trans {a : Addr} {H H1 H2 : Hp} (x : KeepBut a H H1) (y : KeepBut a H1 H2) : KeepBut a H H2 := fun b o h n => y b o (x b o h n) n
theorem Same.but {H H' : Hp} (a : Addr) (s : Same H H') : KeepBut a H H' := fun b o h _ => s b o h
theorem Same.upd_new {H : Hp} {p : Addr} {o : HO} (h : H p = none) : Same H (upd H p o) := fun b u e => by rw [upd_ne (ne_of_none e h)]; exact e
theorem KeepBut.upd {H : Hp} {a : Addr} {o : HO} : KeepBut a H (upd H a o) := fun b u e n => by rw [upd_ne n]; exact e
theorem Same.upd_r {H H' : Hp} {p : Addr} {o : HO} (s : Same H H') (h : H p = none) : Same H (L2.upd H' p o) := fun b u e => by rw [upd_ne (ne_of_none e h)]; exact s b u e
theorem KeepBut.upd_r {a : Addr} {H H' : Hp} {p : Addr} {o : HO} (k : KeepBut a H H') (h : H p = none) : KeepBut a H (L2.upd H' p o) := fun b u e n => by rw [upd_ne (ne_of_none e h)]; exact k b u e n
def PoolAt (H : Hp) (a : Addr) (c : Nat) : Prop := ∃ x y z : Int, H a = some (.lst [.int x, .int y, .int z]) ∧ 0 ≤ z ∧ z ≤ c
theorem PoolAt.mono {H : Hp} {a : Addr} {c d : Nat} (h : PoolAt H a c) (e : c ≤ d) : PoolAt H a d := by
  obtain ⟨x, y, z, h1, h2, h3⟩ := h
  exact ⟨x, y, z, h1, h2, by omega⟩
end L2
namespace L2
open PySem PySem.Spec PyProof.Rows
def Cal (P : Program) (w : World) (K : PySem.W.Frag) (mg : Str → Option Value) (base : Heap) (x : Str) (k : Nat) (ps : List Str) (sp : Sp) : Prop :=
  ∃ (f : Addr) (fd : FuncData), mg x = some (.ref f) ∧ PySem.W.keepIn K (.ref f) = true ∧ Binds K fd ps [] ∧ FnOk P w K mg base CX0 k f fd ps sp
section
variable {X : Cx} {x : Str} {p pos : Pos} {e : Expr} {es : List Expr} {t : TA} {k : Nat} {ps : List Str} {sp : Sp}
theorem pe_cal (c : Cal X.prog X.w X.K X.mg X.base x k ps sp) (hr : Room k X.A) (ha : PA X (e :: es) t) (hg : Gl X x := by rfl) (hdb : (x == ("__debug__" : Str)) = false := by decide)
    (he : starEach (e :: es) X.env = (false, eval e X.env) :: starEach es X.env := by rfl) (hpl : (backTo pos (starEach es X.env)).any (·.1) = false := by rfl) :
    PE X (.Call (.Name x p) (e :: es) [] pos) (tCall sp [] E0 t) := by
  obtain ⟨f, fd, h1, h2, h3, h4⟩ := c
  exact pe_call h4 hr hg h1 h2 h3 .nil pass0 ha hdb he hpl
theorem pe_isi {a b : Expr} {ta : TA} (hm : X.mg "isinstance" = none) (ha : PA X [a, b] ta) (hg : Gl X "isinstance" := by rfl)
    (he : starEach [a, b] X.env = (false, eval a X.env) :: starEach [b] X.env := by rfl) (hpl : (backTo pos (starEach [b] X.env)).any (·.1) = false := by rfl) :
    PE X (.Call (.Name "isinstance" p) [a, b] [] pos) (tCB (fun xs H Q => ∃ x n t b, xs = [x, .ty n] ∧ TyOf X.K H x t ∧ PySem.W.kitOne X.K t (.type n) = some b ∧ Q (.bl b) H) ta) :=
  pe_callB call_isi hg hm boot_isi ha (by decide) (by decide) he hpl
theorem pe_tyInt (hm : X.mg "int" = none) (hg : Gl X "int" := by rfl) : PE X (.Name "int" p) (tC (.ty "int")) := pe_bltn hg hm boot_int rfl
theorem pe_tyBool (hm : X.mg "bool" = none) (hg : Gl X "bool" := by rfl) : PE X (.Name "bool" p) (tC (.ty "bool")) := pe_bltn hg hm boot_bool rfl
theorem pe_tyList (hm : X.mg "list" = none) (hg : Gl X "list" := by rfl) : PE X (.Name "list" p) (tC (.ty "list")) := pe_bltn hg hm boot_listT rfl
theorem pe_lenL (hm : X.mg "len" = none) (ha : PA X [e] t) (hg : Gl X "len" := by rfl)
    (he : starEach [e] X.env = (false, eval e X.env) :: starEach [] X.env := by rfl) : PE X (.Call (.Name "len" p) [e] [] pos) (tCB (fun xs H Q => ∃ p ys, xs = [.ref p] ∧ (SqL X.K H p ys ∨ SqT X.K H p ys) ∧ Q (.int ys.length) H) t) :=
  pe_callB call_len_seq hg hm PySem.boot_len ha (by decide) (by decide) he rfl
end
end L2
namespace Mth
structure IsT (p : List Int) : Prop where
  nd : p.Nodup
  lo : ∀ x ∈ p, 0 ≤ x
  hi : ∀ x ∈ p, x < p.length
theorem mem_upTo {n : Nat} {x : Int} : x ∈ L2.upTo 0 n ↔ 0 ≤ x ∧ x < n := by
  unfold L2.upTo
  rw [List.mem_map]
  constructor
  · rintro ⟨i, hi, rfl⟩
    have := List.mem_range.mp hi
    omega
  · rintro ⟨h1, h2⟩
    exact ⟨x.toNat, List.mem_range.mpr (by omega), by omega⟩
theorem length_upTo (lo : Int) (n : Nat) : (L2.upTo lo n).length = n := by
  unfold L2.upTo
  rw [List.length_map, List.length_range]
theorem nodup_upTo (n : Nat) : (L2.upTo 0 n).Nodup := by
  unfold L2.upTo
  rw [List.nodup_iff_pairwise_ne, List.pairwise_map]
  exact List.Pairwise.imp (fun {a b} (h : a < b) => by omega) List.pairwise_lt_range
theorem isT_of_perm {p : List Int} {n : Nat} (h : p.Perm (L2.upTo 0 n)) : IsT p ∧ p.length = n := by
  have hl : p.length = n := by rw [h.length_eq, length_upTo]
  refine ⟨⟨h.nodup_iff.mpr (nodup_upTo n), fun x hx => (mem_upTo.mp (h.mem_iff.mp hx)).1, fun x hx => ?_⟩, hl⟩
  have := (mem_upTo.mp (h.mem_iff.mp hx)).2
  omega
theorem perm_of_nodup : ∀ (n : Nat) (p : List Nat), p.Nodup → (∀ x ∈ p, x < n) → p.length = n → p.Perm (List.range n) := by
  intro n
  induction n with
  | zero => intro p _ _ hl; rw [List.eq_nil_of_length_eq_zero hl]; exact List.Perm.refl _
  | succ n ih =>
    intro p nd hb hl
    by_cases hn : n ∈ p
    · obtain ⟨s, t, rfl⟩ := List.append_of_mem hn
      have pm : (s ++ n :: t).Perm (n :: (s ++ t)) := List.perm_middle
      have nd' := pm.nodup_iff.mp nd
      obtain ⟨h1, h2⟩ := List.nodup_cons.mp nd'
      have := ih (s ++ t) h2 (fun x hx => by
        have hx' : x < n + 1 := hb x (pm.mem_iff.mpr (List.mem_cons_of_mem _ hx))
        have : x ≠ n := fun e => h1 (e ▸ hx)
        omega) (by rw [List.length_append, List.length_cons] at hl; rw [List.length_append]; omega)
      refine pm.trans ?_
      rw [List.range_succ]
      exact (List.Perm.cons n this).trans (List.perm_append_comm (l₁ := [n]))
    · exfalso
      have hlt : ∀ x ∈ p, x < n := fun x hx => by
        have h1 := hb x hx
        have : x ≠ n := fun e => hn (e ▸ hx)
        omega
      match p, nd, hl, hlt with
      | [], _, hl, _ => simp at hl
      | y :: q, nd, hl, hlt =>
        obtain ⟨h1, h2⟩ := List.nodup_cons.mp nd
        have hq := ih q h2 (fun x hx => hlt x (List.mem_cons_of_mem _ hx)) (by simpa using hl)
        have hy := hlt y List.mem_cons_self
        exact h1 (hq.mem_iff.mpr (List.mem_range.mpr hy))
theorem IsT.perm {p : List Int} (h : IsT p) : p.Perm (L2.upTo 0 p.length) := by
  have e : (p.map Int.toNat).map (fun (i : Nat) => (0 : Int) + (i : Int)) = p := by
    rw [List.map_map]
    conv => rhs; rw [← List.map_id p]
    refine List.map_congr_left fun x hx => ?_
    have := h.lo x hx
    show (0 : Int) + ((x.toNat : Nat) : Int) = x
    omega
  have nd : (p.map Int.toNat).Nodup := by
    rw [List.nodup_iff_pairwise_ne, List.pairwise_map]
    have := List.nodup_iff_pairwise_ne.mp h.nd
    refine List.Pairwise.imp_of_mem (fun {a b} ha hb hne z => hne ?_) this
    have h1 := h.lo a ha
    have h2 := h.lo b hb
    omega
  have := perm_of_nodup p.length (p.map Int.toNat) nd (fun x hx => by
    obtain ⟨y, hy, rfl⟩ := List.mem_map.mp hx
    have h1 := h.lo y hy
    have h2 := h.hi y hy
    omega) (by rw [List.length_map])
  have q := this.map (fun (i : Nat) => (0 : Int) + (i : Int))
  rw [e] at q
  exact q
def at0 (fs : List Int) (u : Int) : Option Int := fs[u.toNat]?
theorem map_upTo_at0 (fs : List Int) : (L2.upTo 0 fs.length).map (at0 fs) = fs.map some := by
  unfold L2.upTo
  rw [List.map_map]
  refine List.ext_getElem? fun j => ?_
  rw [List.getElem?_map, List.getElem?_map]
  by_cases hj : j < fs.length
  · rw [List.getElem?_range hj, List.getElem?_eq_getElem hj]
    show some (fs[((0 : Int) + (j : Int)).toNat]?) = _
    have : ((0 : Int) + (j : Int)).toNat = j := by omega
    rw [this, List.getElem?_eq_getElem hj]
    rfl
  · rw [List.getElem?_eq_none (by rw [List.length_range]; omega), List.getElem?_eq_none (by omega)]
    rfl
theorem perm_some {a b : List Int} (h : (a.map some).Perm (b.map some)) : a.Perm b := by
  have := h.map (fun o : Option Int => o.getD 0)
  rw [List.map_map, List.map_map] at this
  have e : ∀ l : List Int, l.map ((fun o : Option Int => o.getD 0) ∘ some) = l := fun l => by
    conv => rhs; rw [← List.map_id l]
    rfl
  rw [e, e] at this
  exact this
theorem perm_along {fs ts qs : List Int} (ht : IsT ts) (hl : fs.length = ts.length) (h : ts.map (at0 fs) = qs.map some) : fs.Perm qs := by
  refine perm_some ?_
  have h1 := ht.perm.map (at0 fs)
  rw [← hl, map_upTo_at0, h] at h1
  exact h1.symm
end Mth
namespace L2
open PySem PySem.Spec PyProof.Rows
theorem CompOk.of {X : Cx} {N : List Str} {nl : Nat} {fr : List Nat} {scope : Scope} (h1 : (scope.names.all fun y => y.2 != .cell) = true := by rfl) (h2 : scope.kind = .function := by rfl)
    (h3 : (scope.names.all fun y => y.2 != .local || scope.names.lookup y.1 == some .local) = true := by rfl)
    (h4 : (scope.names.all fun p => p.2 != .free || (X.env.kindOf p.1 == some .cell || X.env.kindOf p.1 == some .free)) = true := by rfl) (h5 : N.length = nl + fr.length := by rfl)
    (h6 : ((List.range fr.length).all fun k => match fr[k]? with
      | some j => (match N[nl + k]?, X.N[j]? with
        | some y, some z => y == z && (X.env.scope.names.lookup y == some .local || X.env.scope.names.lookup y == some .cell || X.env.scope.names.lookup y == some .free) && scope.names.lookup y == some .free
        | _, _ => false)
      | none => false) = true := by rfl) : CompOk X N nl fr scope where
  cell := fun y hy e => by
    have := List.all_eq_true.mp h1 y hy
    rw [e] at this; exact absurd this (by decide)
  kind := h2
  names := fun y hy e => by
    have := List.all_eq_true.mp h3 y hy
    rw [e] at this
    have q : (scope.names.lookup y.1 == some NameKind.local) = true := by simpa using this
    exact eq_of_beq q
  free := fun p hp e => by
    have := List.all_eq_true.mp h4 p hp
    rw [e] at this
    have q : (X.env.kindOf p.1 == some NameKind.cell || X.env.kindOf p.1 == some NameKind.free) = true := by simpa using this
    rcases Bool.or_eq_true _ _ |>.mp q with z | z
    · exact .inl (eq_of_beq z)
    · exact .inr (eq_of_beq z)
  len := h5
  fr := fun k j e => by
    have hk : k < fr.length := (List.getElem?_eq_some_iff.mp e).1
    have := List.all_eq_true.mp h6 k (List.mem_range.mpr hk)
    rw [e] at this
    dsimp only at this
    cases e1 : N[nl + k]? with
    | none => rw [e1] at this; cases this
    | some y =>
      cases e2 : X.N[j]? with
      | none => rw [e1, e2] at this; cases this
      | some z =>
        rw [e1, e2] at this
        dsimp only at this
        rw [Bool.and_eq_true, Bool.and_eq_true] at this
        obtain ⟨⟨q1, q2⟩, q3⟩ := this
        have hyz : y = z := eq_of_beq q1
        subst hyz
        refine ⟨y, rfl, rfl, ?_, eq_of_beq q3⟩
        rw [Bool.or_eq_true, Bool.or_eq_true] at q2
        rcases q2 with (q | q) | q
        · exact .inl (eq_of_beq q)
        · exact .inr (.inl (eq_of_beq q))
        · exact .inr (.inr (eq_of_beq q))
def seenK (l : List Int) : List (Key × V) := l.map fun n => ((Sum.inl n : Key), V.bl true)
theorem seenK_in {l : List Int} {n : Int} (h : n ∈ l) : valV (seenK l) (Sum.inl n : Key) = some (.bl true) := by
  induction l with
  | nil => simp at h
  | cons a r ih =>
    show valV (((Sum.inl a : Key), V.bl true) :: seenK r) _ = _
    by_cases e : a = n
    · rw [valV_pos (by rw [e])]
    · rw [valV_neg (fun z => e (Sum.inl.inj z))]
      exact ih ((List.mem_cons.mp h).resolve_left fun z => e z.symm)
theorem seenK_no {l : List Int} {n : Int} (h : n ∉ l) : valV (seenK l) (Sum.inl n : Key) = none := by
  induction l with
  | nil => rfl
  | cons a r ih =>
    show valV (((Sum.inl a : Key), V.bl true) :: seenK r) _ = _
    rw [valV_neg (fun z => h (by rw [Sum.inl.inj z]; exact List.mem_cons_self))]
    exact ih fun z => h (List.mem_cons_of_mem _ z)
theorem seenK_put {l : List Int} {n : Int} (h : n ∉ l) : putK (seenK l) (Sum.inl n : Key) (V.bl true) = seenK (l ++ [n]) := by
  rw [putK_new _ (seenK_no h)]
  unfold seenK
  rw [List.map_append]
  rfl
theorem getElem_int {ns : List Int} {i : Nat} {y : V} (h : (ns.map V.int)[i]? = some y) : ∃ z, ns[i]? = some z ∧ y = .int z := by
  rw [List.getElem?_map] at h
  cases e : ns[i]? with
  | none => rw [e] at h; cases h
  | some z => rw [e] at h; exact ⟨z, rfl, (Option.some.inj h).symm⟩
theorem take_succ_of {α : Type} {l : List α} {i : Nat} {x : α} (h : l[i]? = some x) : l.take (i + 1) = l.take i ++ [x] := by
  rw [List.take_add_one, h]
  rfl
end L2
namespace Mth
theorem atI_map {p : List Int} {i : Int} (h0 : 0 ≤ i) (h1 : i < p.length) : L2.atI (p.map L2.V.int) i = some (.int (p.getD i.toNat 0)) := by
  obtain ⟨j, rfl⟩ := Int.eq_ofNat_of_zero_le h0
  refine L2.atI_nat ?_
  have hj : j < p.length := by omega
  rw [List.getElem?_map, List.getElem?_eq_getElem hj]
  show some (L2.V.int p[j]) = _
  rw [Int.toNat_natCast]
  rw [List.getD_eq_getElem?_getD, List.getElem?_eq_getElem hj]
  rfl
end Mth
namespace L2
open PySem PySem.Spec PyProof.Rows
theorem leq_nil (K : PySem.W.Frag) (H : Hp) (n : Nat) (xs : List V) : LEq K H n xs [] xs.isEmpty := by
  cases xs with
  | nil => exact .inr ⟨fun _ => true, rfl, fun j x y e => by simp at e, rfl⟩
  | cons x r => exact .inl ⟨by simp, rfl⟩
section
variable {X : Cx} {p pos apos : Pos} {e o : Expr} {es : List Expr} {t : TA} {to : TE}
theorem pe_append (ho : PE X o to) (ha : PA X [e] t)
    (hbase : attributeBase o "append" X.env (eval o X.env) = eval o X.env := by rfl)
    (hfew : ((backTo pos (starEach [e] X.env)).all (fun x => !x.1) && (backToKw pos (keywordEach [] X.env)).all (fun x => x.1.isSome)
      && decide ([e].length + ([] : List Keyword).length + (if ([] : List Keyword).isEmpty then 0 else 1) < 30)) = true := by rfl)
    (hline : (apos.endLine == pos.line) = true := by rfl) (hs : starEach [e] X.env = (false, eval e X.env) :: starEach [] X.env := by rfl) (hplain : (backTo pos (starEach [] X.env)).any (·.1) = false := by rfl) :
    PE X (.Call (.Attribute o "append" apos) [e] [] pos) (tBM X.K "list" rAppend to t) :=
  pe_bm PySem.F.plainAttrs_list PySem.F.slot_list_append PySem.F.type_list_append mt_append ho ha hbase hfew hline hs hplain
theorem pe_popAt (ho : PE X o to) (ha : PA X [e] t)
    (hbase : attributeBase o "pop" X.env (eval o X.env) = eval o X.env := by rfl)
    (hfew : ((backTo pos (starEach [e] X.env)).all (fun x => !x.1) && (backToKw pos (keywordEach [] X.env)).all (fun x => x.1.isSome)
      && decide ([e].length + ([] : List Keyword).length + (if ([] : List Keyword).isEmpty then 0 else 1) < 30)) = true := by rfl)
    (hline : (apos.endLine == pos.line) = true := by rfl) (hs : starEach [e] X.env = (false, eval e X.env) :: starEach [] X.env := by rfl) (hplain : (backTo pos (starEach [] X.env)).any (·.1) = false := by rfl) :
    PE X (.Call (.Attribute o "pop" apos) [e] [] pos) (tBM X.K "list" rPopAt to t) :=
  pe_bm PySem.F.plainAttrs_list PySem.F.slot_list_pop PySem.F.type_list_pop mt_popAt ho ha hbase hfew hline hs hplain
theorem pe_listOf (hm : X.mg "list" = none) (ha : PA X [e] t) (hg : Gl X "list" := by rfl) (he : starEach [e] X.env = (false, eval e X.env) :: starEach [] X.env := by rfl) :
    PE X (.Call (.Name "list" p) [e] [] pos) (tCB (fun xs H Q => ∃ p ys, xs = [.ref p] ∧ (SqL X.K H p ys ∨ SqT X.K H p ys) ∧ ∀ l, H l = none → Q (.ref l) (upd H l (.lst ys))) t) :=
  pe_callTy call_list_of hg hm boot_listT ha (by decide) (by decide) he rfl
theorem pe_listRng {p2 pos2 : Pos} (hc : X.calm = true) (hm : X.mg "list" = none) (hm2 : X.mg "range" = none) (ha : PA X [e] t) (hg : Gl X "list" := by rfl) (hg2 : Gl X "range" := by rfl) (he : starEach [e] X.env = (false, eval e X.env) :: starEach [] X.env := by rfl)
    (he2 : starEach [.Call (.Name "range" p2) [e] [] pos2] X.env = (false, eval (.Call (.Name "range" p2) [e] [] pos2) X.env) :: starEach [] X.env := by rfl) :
    PE X (.Call (.Name "list" p) [.Call (.Name "range" p2) [e] [] pos2] [] pos) (tCB (fun xs H Q => ∃ p lo hi, xs = [.ref p] ∧ H p = some (.rng lo hi) ∧ (-(2 ^ 62) ≤ lo ∧ lo < 2 ^ 62 ∧ -(2 ^ 62) ≤ hi ∧ hi < 2 ^ 62) ∧ (hi - lo).toNat ≤ 2 ^ 20 ∧
    ∀ l, H l = none → Q (.ref l) (upd H l (.lst ((upTo lo (hi - lo).toNat).map V.int)))) (tCons (tCB (fun xs H Q => ∃ j, xs = [.int j] ∧ ∀ p, H p = none → Q (.ref p) (upd H p (.rng 0 j))) t) tNil)) :=
  pe_callTy (call_list_rng hc) hg hm boot_listT (pa_cons (pe_callTy call_range1 hg2 hm2 boot_rangeT ha (by decide) (by decide) he rfl) pa_nil he2) (by decide) (by decide) he2 rfl
theorem pe_sum (hc : X.calm = true) (hm : X.mg "sum" = none) (ha : PA X [e] t) (hg : Gl X "sum" := by rfl) (he : starEach [e] X.env = (false, eval e X.env) :: starEach [] X.env := by rfl) :
    PE X (.Call (.Name "sum" p) [e] [] pos) (tCB (fun xs H Q => ∃ (p : Addr) (ns : List Int), xs = [.ref p] ∧ SqL X.K H p (ns.map V.int) ∧ Q (.int ns.sum) H) t) :=
  pe_callB (call_sumI hc) hg hm boot_sumB ha (by decide) (by decide) he rfl
theorem pe_min2 {a b : Expr} (hc : X.calm = true) (hm : X.mg "min" = none) (ha : PA X [a, b] t) (hg : Gl X "min" := by rfl) (he : starEach [a, b] X.env = (false, eval a X.env) :: starEach [b] X.env := by rfl) (hpl : (backTo pos (starEach [b] X.env)).any (·.1) = false := by rfl) :
    PE X (.Call (.Name "min" p) [a, b] [] pos) (tCB (fun xs H Q => ∃ i j, xs = [.int i, .int j] ∧ Q (.int (if j < i then j else i)) H) t) :=
  pe_callB (call_min2 hc) hg hm boot_minB ha (by decide) (by decide) he hpl
theorem pe_max2 {a b : Expr} (hc : X.calm = true) (hm : X.mg "max" = none) (ha : PA X [a, b] t) (hg : Gl X "max" := by rfl) (he : starEach [a, b] X.env = (false, eval a X.env) :: starEach [b] X.env := by rfl) (hpl : (backTo pos (starEach [b] X.env)).any (·.1) = false := by rfl) :
    PE X (.Call (.Name "max" p) [a, b] [] pos) (tCB (fun xs H Q => ∃ i j, xs = [.int i, .int j] ∧ Q (.int (if j > i then j else i)) H) t) :=
  pe_callB (call_max2 hc) hg hm boot_maxB ha (by decide) (by decide) he hpl
end
end L2
namespace Mth
theorem perm_erase {α : Type} : ∀ {l : List α} {k : Nat} {y : α}, l[k]? = some y → (y :: l.eraseIdx k).Perm l
  | [], k, y, h => by simp at h
  | a :: r, 0, y, h => by
    simp at h
    subst h
    exact List.Perm.refl _
  | a :: r, k + 1, y, h => by
    have h' : r[k]? = some y := by simpa using h
    have ih := perm_erase h'
    show (y :: a :: r.eraseIdx k).Perm (a :: r)
    exact (List.Perm.swap a y _).trans (ih.cons a)
theorem take_bound {u s : Int} (h1 : 0 ≤ u) (h2 : u < 10000001000) (h3 : 0 ≤ s) (h4 : s ≤ 1000001) : 0 ≤ u * (37 * s + 67) + 3557 * s * s ∧ u * (37 * s + 67) + 3557 * s * s < 2 ^ 64 := by
  have a1 : 0 ≤ 37 * s + 67 := by omega
  have a2 : 37 * s + 67 ≤ 37000200 := by omega
  have b1 : 0 ≤ u * (37 * s + 67) := Int.mul_nonneg h1 a1
  have b2 : u * (37 * s + 67) ≤ 10000001000 * 37000200 := Int.mul_le_mul (by omega) a2 a1 (by omega)
  have c0 : 0 ≤ 3557 * s := by omega
  have c1 : 0 ≤ 3557 * s * s := Int.mul_nonneg c0 h3
  have c2 : 3557 * s * s ≤ (3557 * 1000001) * 1000001 := Int.mul_le_mul (by omega) h4 h3 (by omega)
  have e : (2 : Int) ^ 64 = 18446744073709551616 := by decide
  rw [e]
  omega
end Mth
namespace L2
open PySem PySem.Spec PyProof.Rows
def tLenL (K : PySem.W.Frag) (ta : TA) : TE := tCB (fun xs H Q => ∃ p ys, xs = [.ref p] ∧ (SqL K H p ys ∨ SqT K H p ys) ∧ Q (.int ys.length) H) ta
section
variable {X : Cx} {p pos : Pos} {e : Expr} {t : TA}
theorem pe_lenLK (K : PySem.W.Frag) (hm : X.mg "len" = none) (ha : PA X [e] t) (hK : X.K = K := by rfl) (hg : Gl X "len" := by rfl)
    (he : starEach [e] X.env = (false, eval e X.env) :: starEach [] X.env := by rfl) : PE X (.Call (.Name "len" p) [e] [] pos) (tLenL K t) := by
  subst hK
  exact pe_lenL hm ha hg he
end
theorem rep_zero (n : Nat) : (List.replicate n [V.int 0]).flatten = (List.replicate n (0 : Int)).map V.int := by
  induction n with
  | zero => rfl
  | succ n ih => rw [List.replicate_succ, List.flatten_cons, ih, List.replicate_succ, List.map_cons]; rfl
def unInt : V → Int
  | .int i => i
  | _ => 0
theorem perm_ints {ys : List V} {xs : List Int} (h : ys.Perm (xs.map V.int)) : ∃ ps : List Int, ys = ps.map V.int ∧ ps.Perm xs := by
  refine ⟨ys.map unInt, ?_, ?_⟩
  · rw [List.map_map]
    conv => lhs; rw [← List.map_id ys]
    refine List.map_congr_left fun y hy => ?_
    obtain ⟨i, _, rfl⟩ := List.mem_map.mp (h.mem_iff.mp hy)
    rfl
  · have := h.map unInt
    rw [List.map_map] at this
    have e : xs.map (unInt ∘ V.int) = xs := by
      conv => rhs; rw [← List.map_id xs]
      rfl
    rw [e] at this
    exact this
end L2
namespace Mth
theorem at0_ne {fs : List Int} {u v x : Int} (hu : 0 ≤ u) (hv : 0 ≤ v) (h : u ≠ v) : at0 (fs.set v.toNat x) u = at0 fs u := by
  unfold at0
  rw [List.getElem?_set_ne (by omega)]
theorem at0_same {fs : List Int} {v x : Int} (h : v.toNat < fs.length) : at0 (fs.set v.toNat x) v = some x := by
  unfold at0
  rw [List.getElem?_set_self h]
theorem getD_eq {ts : List Int} {i : Nat} (h : i < ts.length) : ts.getD i 0 = ts[i] := by
  rw [List.getD_eq_getElem?_getD, List.getElem?_eq_getElem h]
  rfl
theorem nodup_getD {ts : List Int} (nd : ts.Nodup) {i j : Nat} (hi : i < ts.length) (hj : j < ts.length) (h : i ≠ j) : ts.getD i 0 ≠ ts.getD j 0 := by
  rw [getD_eq hi, getD_eq hj]
  rcases Nat.lt_or_gt_of_ne h with z | z
  · exact List.pairwise_iff_getElem.mp (List.nodup_iff_pairwise_ne.mp nd) i j hi hj z
  · exact fun e => List.pairwise_iff_getElem.mp (List.nodup_iff_pairwise_ne.mp nd) j i hj hi z e.symm
theorem seg_done {ts fs qs : List Int} {k L : Nat} (hL : 1 ≤ L) (hb : k + L ≤ ts.length) (h1 : (ts.take k).map (at0 fs) = qs.map some) (hq : qs.Perm (ts.take k))
    (h2 : ∀ j, j < L → at0 fs (ts.getD (k + j) 0) = some (ts.getD (k + (j + 1) % L) 0)) : ∃ qs' : List Int, qs'.Perm (ts.take (k + L)) ∧ (ts.take (k + L)).map (at0 fs) = qs'.map some := by
  have hT : ((ts.drop k).take L).length = L := by rw [List.length_take, List.length_drop]; omega
  have hTj : ∀ j, j < L → ((ts.drop k).take L)[j]? = some (ts.getD (k + j) 0) := fun j hj => by
    rw [List.getElem?_take_of_lt hj, List.getElem?_drop, getD_eq (by omega), List.getElem?_eq_getElem (by omega)]
  have e : ((ts.drop k).take L).map (at0 fs) = (((ts.drop k).take L).drop 1 ++ ((ts.drop k).take L).take 1).map some := by
    refine List.ext_getElem? fun j => ?_
    by_cases hj : j < L
    · rw [List.getElem?_map, hTj j hj, List.getElem?_map]
      show some (at0 fs (ts.getD (k + j) 0)) = _
      rw [h2 j hj]
      by_cases hj1 : j + 1 < L
      · rw [List.getElem?_append_left (by rw [List.length_drop, hT]; omega), List.getElem?_drop, Nat.add_comm 1 j, hTj (j + 1) hj1, Nat.mod_eq_of_lt hj1]
        rfl
      · have hjL : j + 1 = L := by omega
        rw [List.getElem?_append_right (by rw [List.length_drop, hT]; omega), List.length_drop, hT, hjL, Nat.mod_self]
        have : j - (L - 1) = 0 := by omega
        rw [this, List.getElem?_take_of_lt (by omega), hTj 0 (by omega)]
        rfl
    · rw [List.getElem?_eq_none (by rw [List.length_map, hT]; omega), List.getElem?_eq_none]
      rw [List.length_map, List.length_append, List.length_drop, List.length_take (i := 1), hT]
      omega
  refine ⟨qs ++ (((ts.drop k).take L).drop 1 ++ ((ts.drop k).take L).take 1), ?_, ?_⟩
  · rw [List.take_add]
    refine List.Perm.append hq ?_
    refine List.perm_append_comm.trans ?_
    rw [List.take_append_drop]
  · rw [List.take_add, List.map_append, List.map_append, h1, e]
theorem sum_take_le {ls : List Int} (h : ∀ x ∈ ls, 1 ≤ x) (i : Nat) : 0 ≤ (ls.take i).sum ∧ (ls.take i).sum ≤ ls.sum := by
  have nn : ∀ l : List Int, (∀ x ∈ l, 1 ≤ x) → 0 ≤ l.sum := by
    intro l
    induction l with
    | nil => intro _; simp
    | cons a r ih =>
      intro h
      have h1 := h a List.mem_cons_self
      have h2 := ih fun x hx => h x (List.mem_cons_of_mem _ hx)
      rw [List.sum_cons]; omega
  refine ⟨nn _ fun x hx => h x (List.mem_of_mem_take hx), ?_⟩
  have e : ls.sum = (ls.take i).sum + (ls.drop i).sum := by
    rw [← List.sum_append, List.take_append_drop]
  have := nn (ls.drop i) fun x hx => h x (List.mem_of_mem_drop hx)
  omega
theorem len_le_sum {ls : List Int} (h : ∀ x ∈ ls, 1 ≤ x) : (ls.length : Int) ≤ ls.sum := by
  induction ls with
  | nil => simp
  | cons a r ih =>
    have h1 := h a List.mem_cons_self
    have h2 := ih fun x hx => h x (List.mem_cons_of_mem _ hx)
    rw [List.sum_cons, List.length_cons]; omega
theorem sum_snoc (ls : List Int) (x : Int) : (ls ++ [x]).sum = ls.sum + x := by
  rw [List.sum_append]; simp
end Mth
namespace L2
open PySem PySem.Spec PyProof.Rows
theorem Same.kb {a : Addr} {H H1 H2 : Hp} (s : Same H H1) (k : KeepBut a H1 H2) (h : H a = none) : Same H H2 := fun b o e => k b o (s b o e) (ne_of_none e h)
theorem map_int_inj {a b : List Int} (h : a.map V.int = b.map V.int) : a = b := (List.map_inj_right (fun x y (h : V.int x = V.int y) => V.int.inj h)).mp h
end L2
namespace L2
open PySem PySem.Spec PyProof.Rows
theorem boot_enum : bootBuiltins "enumerate" = some (.type "enumerate") := by decide +kernel
end L2
namespace L2
open PySem PySem.Spec PyProof.Rows
def CDivB (i j : Int) : Prop := 0 < j ∧ j ≤ 1000000000000000000000000000000
theorem op_fdivB {X : Cx} : OpR X (binaryOp .FloorDiv) (rI CDivB fun i j => .int (i / j)) := opI fun i j _ _ _ _ _ hc q => by
  have hp : Builtin.divisionGoesByPylong i j = false := by
    refine PyProof.noPylong_of_log2 ?_
    obtain ⟨h1, h2⟩ := hc
    have : j.natAbs < 2 ^ 9000 := Nat.lt_of_le_of_lt (show j.natAbs ≤ 1000000000000000000000000000000 by omega) (by decide +kernel)
    exact (Nat.log2_lt (by omega)).mpr this
  refine floordiv_int (by have := hc.1; omega) ?_ (.inl hp)
  rw [Int.fdiv_eq_ediv_of_nonneg i (by have := hc.1; omega)]
  exact q
end L2
namespace Mth
theorem maxmin {n c : Int} (hn : 1 ≤ n) (hc : 0 ≤ c) : ∃ mx, (if (if n < c then n else c) > 1 then (if n < c then n else c) else (1 : Int)) = mx ∧ 1 ≤ mx ∧ mx ≤ n := by
  refine ⟨_, rfl, ?_⟩
  split <;> split at * <;> omega
theorem maxmin' {n c : Int} (hn : 1 ≤ n) (hc : 0 ≤ c) : ∃ mx, (if (if c < n then c else n) > 1 then (if c < n then c else n) else (1 : Int)) = mx ∧ 1 ≤ mx ∧ mx ≤ n := by
  refine ⟨_, rfl, ?_⟩
  split <;> split at * <;> omega
end Mth
namespace L2
open PySem PySem.Spec PyProof.Rows
theorem boot_tupleT : bootBuiltins "tuple" = some (.type "tuple") := by decide +kernel
theorem boot_strT : bootBuiltins "str" = some (.type "str") := by decide +kernel
end L2
namespace L2
open PySem PySem.Spec PyProof.Rows
theorem textFrom_le : ∀ (ts : List Str) (k : Nat) (acc : Str) (m : Nat), (∀ t ∈ ts, t.length ≤ m) → (textFrom k acc ts).length ≤ acc.length + ts.length * (m + 2)
  | [], k, acc, m, _ => by show acc.length ≤ _; omega
  | t :: r, k, acc, m, h => by
    have ih := textFrom_le r (k + 1) (acc ++ (if k > 0 then ", " else "" : String) ++ t) m fun x hx => h x (List.mem_cons_of_mem _ hx)
    have ht := h t List.mem_cons_self
    have el : ((acc ++ (if k > 0 then ", " else "" : String) ++ t : Str)).length ≤ acc.length + 2 + t.length := by
      rw [strLen_append, strLen_append]
      by_cases z : k > 0
      · rw [if_pos z]; exact Nat.le_refl _
      · rw [if_neg z]
        have : (("" : String) : Str).length = 0 := rfl
        omega
    show (textFrom (k + 1) (acc ++ (if k > 0 then ", " else "" : String) ++ t) r).length ≤ _
    rw [List.length_cons, Nat.succ_mul]
    omega
theorem listText_le {ts : List Str} {m : Nat} (h : ∀ t ∈ ts, t.length ≤ m) : (listText ts).length ≤ 2 + ts.length * (m + 2) := by
  unfold listText
  rw [strLen_append]
  have := textFrom_le ts 0 "[" m h
  have e1 : (("[" : String) : Str).length = 1 := rfl
  have e2 : (("]" : String) : Str).length = 1 := rfl
  omega
section
variable {X : Cx} {p pos : Pos} {e : Expr} {t : TA}
theorem boot_reprB : bootBuiltins "repr" = some (.builtin "repr") := by decide +kernel
end
end L2
namespace L2
open PySem PySem.Spec PyProof.Rows
def orSp (a b : Sp) : Sp := fun vs H Q E => a vs H Q E ∨ b vs H Q E
section
variable {P : Program} {w : World} {K : PySem.W.Frag} {mg : Str → Option Value} {base : Heap} {CX : CXT} {k : Nat} {f : Addr} {fd : FuncData} {ps : List Str} {a b : Sp}
theorem fn_or (x : FnOk P w K mg base CX k f fd ps a) (y : FnOk P w K mg base CX k f fd ps b) : FnOk P w K mg base CX k f fd ps (orSp a b) :=
  ⟨fun vs H Q E h => h.elim (x.len vs H Q E) (y.len vs H Q E), fun A outer s H args us vs Q E r e bt v h => h.elim (x.run A outer s H args us vs Q E r e bt v) (y.run A outer s H args us vs Q E r e bt v)⟩
end
theorem kit_no (K : PySem.W.Frag) {a b : String} (h0 : ((Value.type a == Value.type b) = true) → False) (h1 : PySem.W.kitMeta b = true) (h2 : (fastBuiltinMro a).map (·.contains (Value.type b)) = some false) : PySem.W.kitOne K (.type a) (.type b) = some false := by
  unfold PySem.W.kitOne PySem.W.kitCls
  rw [if_neg h0]
  show (if PySem.W.kitMeta b = true then (fastBuiltinMro a).map (·.contains (Value.type b)) else none) = some false
  rw [if_pos h1]
  exact h2
theorem kit_none_int (K : PySem.W.Frag) : PySem.W.kitOne K (.type "NoneType") (.type "int") = some false := kit_no K (by decide +kernel) (by decide +kernel) (by decide +kernel)
theorem kit_none_bool (K : PySem.W.Frag) : PySem.W.kitOne K (.type "NoneType") (.type "bool") = some false := kit_no K (by decide +kernel) (by decide +kernel) (by decide +kernel)
theorem kit_none_list (K : PySem.W.Frag) : PySem.W.kitOne K (.type "NoneType") (.type "list") = some false := kit_no K (by decide +kernel) (by decide +kernel) (by decide +kernel)
theorem kit_str_int (K : PySem.W.Frag) : PySem.W.kitOne K (.type "str") (.type "int") = some false := kit_no K (by decide +kernel) (by decide +kernel) (by decide +kernel)
theorem kit_str_bool (K : PySem.W.Frag) : PySem.W.kitOne K (.type "str") (.type "bool") = some false := kit_no K (by decide +kernel) (by decide +kernel) (by decide +kernel)
theorem kit_str_list (K : PySem.W.Frag) : PySem.W.kitOne K (.type "str") (.type "list") = some false := kit_no K (by decide +kernel) (by decide +kernel) (by decide +kernel)
theorem kit_list_int (K : PySem.W.Frag) : PySem.W.kitOne K (.type "list") (.type "int") = some false := kit_no K (by decide +kernel) (by decide +kernel) (by decide +kernel)
theorem kit_list_bool (K : PySem.W.Frag) : PySem.W.kitOne K (.type "list") (.type "bool") = some false := kit_no K (by decide +kernel) (by decide +kernel) (by decide +kernel)
theorem kit_tuple_int (K : PySem.W.Frag) : PySem.W.kitOne K (.type "tuple") (.type "int") = some false := kit_no K (by decide +kernel) (by decide +kernel) (by decide +kernel)
theorem kit_tuple_bool (K : PySem.W.Frag) : PySem.W.kitOne K (.type "tuple") (.type "bool") = some false := kit_no K (by decide +kernel) (by decide +kernel) (by decide +kernel)
theorem kit_tuple_list (K : PySem.W.Frag) : PySem.W.kitOne K (.type "tuple") (.type "list") = some false := kit_no K (by decide +kernel) (by decide +kernel) (by decide +kernel)
theorem kit_dict_list (K : PySem.W.Frag) : PySem.W.kitOne K (.type "dict") (.type "list") = some false := kit_no K (by decide +kernel) (by decide +kernel) (by decide +kernel)
theorem kit_int_list (K : PySem.W.Frag) : PySem.W.kitOne K (.type "int") (.type "list") = some false := kit_no K (by decide +kernel) (by decide +kernel) (by decide +kernel)
theorem kit_bool_list (K : PySem.W.Frag) : PySem.W.kitOne K (.type "bool") (.type "list") = some false := kit_no K (by decide +kernel) (by decide +kernel) (by decide +kernel)
end L2
namespace L2
open PySem PySem.Spec PyProof.Rows
section
variable {X : Cx} {p pos apos : Pos} {e o : Expr} {es : List Expr} {t : TA} {to : TE}
theorem pe_strI (hm : X.mg "str" = none) (ha : PA X [e] t) (hg : Gl X "str" := by rfl) (he : starEach [e] X.env = (false, eval e X.env) :: starEach [] X.env := by rfl) :
    PE X (.Call (.Name "str" p) [e] [] pos) (tCB (fun xs H Q => ∃ i, xs = [.int i] ∧ i.natAbs.log2 < 1920 ∧ Q (.str (toString i)) H) t) :=
  pe_callTy call_str_int hg hm boot_strT ha (by decide) (by decide) he rfl
end
end L2
namespace L2
open PySem PySem.Spec PyProof.Rows
section
variable {X : Cx}
theorem pe_never {e : Expr} : PE X e (fun _ _ _ => False) := fun _ _ _ _ _ _ h => h.elim
end
end L2
namespace Mth
open L2 (upTo)
theorem getD_at {l : List Int} {i : Nat} (h : i < l.length) : l.getD i 0 = l[i] := by
  rw [List.getD_eq_getElem?_getD, List.getElem?_eq_getElem h]; rfl
end Mth
namespace L2
open PySem PySem.Spec PyProof.Rows
section
variable {P : Program} {w : World} {K : PySem.W.Frag} {mg : Str → Option Value} {base h : Heap} {x : Str} {st : Stmt} {f : Addr} {fd : FuncData} {ps : List Str} {k : Nat} {sp : Sp}
def Fu (K : PySem.W.Frag) (x : Str) (st : Stmt) (f : Addr) : Prop := ∃ fd, PySem.W.nsIn K mainGlobals x = some (some (.ref f)) ∧ Fun K x x st f fd
theorem fu_mk {oc : Value} {od an : Option Addr} {osl : Array (Option Value)} {kV doc pm cdv ct : Value} (a : PySem.W.nsIn K mainGlobals x = some (some (.ref f))) (l : K.lookup f = some ⟨oc, od, .func (PySem.W.fnOf x x (defArgs st) (defBody st) (defScope st) .none kV doc pm an cdv ct), osl⟩)
    (c : PySem.W.codeIn K cdv x = true) (k : PySem.W.keepIn K (.ref f) = true) : Fu K x st f := ⟨_, a, fun_mk l c k⟩
theorem cal_mk (X : K.In h) (G : h.Ns mainGlobals mg) (a : PySem.W.nsIn K mainGlobals x = some (some (.ref f))) (F : Fun K x x st f fd) (b : Binds K fd ps []) (ok : FnOk P w K mg base CX0 k f fd ps sp) : Cal P w K mg base x k ps sp := ⟨f, fd, PySem.W.mg_of X G a, F.kp, b, ok⟩
def Fre (K : PySem.W.Frag) : List Str → Prop
  | [] => True
  | x :: l => PySem.W.nsIn K mainGlobals x = some none ∧ Fre K l
end
end L2
namespace L2
open PySem PySem.Spec PyProof PyProof.Rows
mutual
inductive RdN (h : Heap) : Value → PyData → Prop
  | non : RdN h .none .none
  | bl (b : Bool) : RdN h (.bool b) (.bool b)
  | int (i : Int) (t : Tok) : RdN h (.int i t) (.int i)
  | str (x : Str) (t : Tok) : RdN h (.str x t) (.str x)
  | lst {a : Addr} {o : Obj} {vs : Array Value} {n : Nat} {ds : List PyData} (g : h.get? a = some o) (c : o.cls = .type "list") (e : o.data = .seq vs n) (r : RdNs h vs.toList ds) : RdN h (.ref a) (.list ds)
  | tup {a : Addr} {o : Obj} {vs : Array Value} {n : Nat} {ds : List PyData} (g : h.get? a = some o) (c : o.cls = .type "tuple") (e : o.data = .seq vs n) (r : RdNs h vs.toList ds) : RdN h (.ref a) (.tuple ds)
  | dic {a : Addr} {o : Obj} {es : Array DictEntry} {n : Nat} {kds : List (PyData × PyData)} (g : h.get? a = some o) (c : o.cls = .type "dict") (e : o.data = .dict es n) (ns : (a == sysModules) = false)
      (rk : RdNs h (es.toList.map (·.key)) (kds.map (·.1))) (rv : RdNs h (es.toList.map (·.val)) (kds.map (·.2))) : RdN h (.ref a) (.dict kds)
inductive RdNs (h : Heap) : List Value → List PyData → Prop
  | nil : RdNs h [] []
  | cons {u : Value} {us : List Value} {d : PyData} {ds : List PyData} (r : RdN h u d) (rs : RdNs h us ds) : RdNs h (u :: us) (d :: ds)
end
mutual
theorem RdN.reads {h : Heap} : ∀ {u : Value} {d : PyData}, RdN h u d → ∃ as, Reads h u d as
  | _, _, .non => ⟨_, .none⟩
  | _, _, .bl b => ⟨_, .bool b⟩
  | _, _, .int i t => ⟨_, .int i t⟩
  | _, _, .str x t => ⟨_, .str x t⟩
  | _, _, .lst g c e r => let ⟨_, q⟩ := RdNs.reads r; ⟨_, .list g c e q⟩
  | _, _, .tup g c e r => let ⟨_, q⟩ := RdNs.reads r; ⟨_, .tuple g c e q⟩
  | _, _, .dic g c e _ rk rv => let ⟨_, q⟩ := RdNs.reads rk; let ⟨_, p⟩ := RdNs.reads rv; ⟨_, .dict g c e q p⟩
theorem RdNs.reads {h : Heap} : ∀ {us : List Value} {ds : List PyData}, RdNs h us ds → ∃ as, ReadsAll h us ds as
  | _, _, .nil => ⟨_, .nil⟩
  | _, _, .cons r rs => let ⟨_, q⟩ := RdN.reads r; let ⟨_, p⟩ := RdNs.reads rs; ⟨_, .cons q p⟩
end
section
variable {prog : Program} {w : World} {h : Heap}
mutual
theorem RdN.shows : ∀ {u : Value} {d : PyData}, RdN h u d → d.showable = true → d.shown.length ≤ sizeLine → ∃ bs, ReadAtMost h d.depth bs ∧ ReprK prog w bs h d.depth u d.shown
  | _, _, .non, _, _ => ⟨[], (fun _ z => nomatch z), by rw [PyData.shown]; exact .of_is ReprIs.none _ _ _⟩
  | _, _, .bl b, _, _ => ⟨[], (fun _ z => nomatch z), by rw [PyData.shown]; exact .of_is (ReprIs.bool b) _ _ _⟩
  | _, _, .int i t, s, _ => ⟨[], (fun _ z => nomatch z), by rw [PyData.shown]; exact .of_is (ReprIs.int t (by simpa [PyData.showable] using s)) _ _ _⟩
  | _, _, .str x t, _, z => ⟨[], (fun _ y => nomatch y), by rw [PyData.shown] at z ⊢; exact .of_is (ReprIs.str x t z) _ _ _⟩
  | _, _, .lst (a := a) (vs := vs) (ds := ds) g c e r, s, z => by
    rw [PyData.shown] at z
    obtain ⟨bs, b, k⟩ := RdNs.shows r (by simpa [PyData.showable] using s) fun t ht => Nat.le_trans (listText_mem_le ht) z
    obtain ⟨as, q⟩ := RdN.reads (.lst g c e r)
    have no := not_mem_of_deeper q (by rw [PyData.depth]; omega) b
    refine ⟨a :: bs, ReadAtMost.cons q (by rw [PyData.depth]; omega) b, ?_⟩
    rw [PyData.depth, PyData.shown]
    obtain ⟨l⟩ := vs
    cases l with
    | nil =>
      cases (show RdNs h [] ds from r)
      rw [PyData.shownAll, listText_nil]
      exact ReprK.listEmpty g c e
    | cons x l => exact ReprK.list g c e no (by simpa using k.length_eq) fun i y ey => k.item i y (by simpa using ey)
  | _, _, .tup (a := a) (ds := ds) g c e r, s, z => by
    rw [PyData.shown] at z
    obtain ⟨bs, b, k⟩ := RdNs.shows r (by simpa [PyData.showable] using s) fun t ht => Nat.le_trans (tupleText_mem_le ht) z
    obtain ⟨as, q⟩ := RdN.reads (.tup g c e r)
    have no := not_mem_of_deeper q (by rw [PyData.depth]; omega) b
    refine ⟨a :: bs, ReadAtMost.cons q (by rw [PyData.depth]; omega) b, ?_⟩
    rw [PyData.depth, PyData.shown]
    exact ReprK.tuple g c e no k
  | _, _, .dic (a := a) (es := es) (kds := kds) g c e ns rk rv, s, z => by
    rw [PyData.shown] at z
    obtain ⟨s1, s2⟩ := PyData.showableKv_split kds (by simpa [PyData.showable] using s)
    obtain ⟨b1, m1, k1⟩ := RdNs.shows rk s1 fun t ht => by
      obtain ⟨y, hy, l⟩ := PyData.shownKv_key_le kds t ht
      exact Nat.le_trans l (Nat.le_trans (dictText_mem_le hy) z)
    obtain ⟨b2, m2, k2⟩ := RdNs.shows rv s2 fun t ht => by
      obtain ⟨y, hy, l⟩ := PyData.shownKv_val_le kds t ht
      exact Nat.le_trans l (Nat.le_trans (dictText_mem_le hy) z)
    obtain ⟨as, q⟩ := RdN.reads (.dic g c e ns rk rv)
    have b : ReadAtMost h (PyData.depthKv kds) (b1 ++ b2) := ReadAtMost.append (m1.mono (PyData.depthAll_keys_le kds)) (m2.mono (PyData.depthAll_vals_le kds))
    have no := not_mem_of_deeper q (by rw [PyData.depth]; omega) b
    refine ⟨a :: (b1 ++ b2), ReadAtMost.cons q (by rw [PyData.depth]; omega) b, ?_⟩
    rw [PyData.depth, PyData.shown, PyData.shownKv_eq]
    have j1 := k1.more_le (as' := b1 ++ b2) (fun _ y => List.mem_append_left _ y) (PyData.depthAll_keys_le kds)
    have j2 := k2.more_le (as' := b1 ++ b2) (fun _ y => List.mem_append_right _ y) (PyData.depthAll_vals_le kds)
    exact ReprK.dict g c e ns no (ReprEntriesK.of_two es.toList _ _ j1 j2)
theorem RdNs.shows : ∀ {us : List Value} {ds : List PyData}, RdNs h us ds → PyData.showableAll ds = true → (∀ t ∈ PyData.shownAll ds, t.length ≤ sizeLine) →
    ∃ bs, ReadAtMost h (PyData.depthAll ds) bs ∧ ReprAllK prog w bs h (PyData.depthAll ds) us (PyData.shownAll ds)
  | _, _, .nil, _, _ => ⟨[], (fun _ z => nomatch z), by rw [PyData.shownAll]; exact .nil⟩
  | _, _, .cons (d := d) (ds := ds) r rs, s, z => by
    have s' : d.showable = true ∧ PyData.showableAll ds = true := by simpa [PyData.showableAll] using s
    rw [PyData.shownAll] at z
    obtain ⟨b1, m1, k1⟩ := RdN.shows r s'.1 (z _ List.mem_cons_self)
    obtain ⟨b2, m2, k2⟩ := RdNs.shows rs s'.2 fun t ht => z t (List.mem_cons_of_mem _ ht)
    rw [PyData.depthAll, PyData.shownAll]
    refine ⟨b1 ++ b2, fun b hb => ?_, .cons ((k1.more fun _ y => List.mem_append_left _ y).level_le (Nat.le_max_left _ _)) (k2.more_le (fun _ y => List.mem_append_right _ y) (Nat.le_max_right _ _))⟩
    rcases List.mem_append.mp hb with y | y
    · obtain ⟨d1, as1, r1, l1⟩ := m1 b y
      exact ⟨d1, as1, r1, Nat.le_trans l1 (Nat.le_max_left _ _)⟩
    · obtain ⟨d1, as1, r1, l1⟩ := m2 b y
      exact ⟨d1, as1, r1, Nat.le_trans l1 (Nat.le_max_right _ _)⟩
end
theorem RdN.by_ {a : Addr} {d : PyData} (r : RdN h (.ref a) d) (s : d.showable = true) (z : d.shown.length ≤ sizeLine) : ∃ T idr, ShowsBy prog w h a d T idr := by
  obtain ⟨as, q⟩ := r.reads
  cases r with
  | lst g c e r =>
    rename_i o vs n ds
    rw [PyData.shown] at z
    obtain ⟨bs, b, k⟩ := RdNs.shows (prog := prog) (w := w) r (by simpa [PyData.showable] using s) fun t ht => Nat.le_trans (listText_mem_le ht) z
    have no := not_mem_of_deeper q (by rw [PyData.depth]; omega) b
    refine ⟨"list", "list.__repr__", F.slot_list_repr.toG, F.slot_list_str, F.slot_list_format, fun s k0 => ⟨o, k0 _ _ g, c⟩, fun A E s0 Q hg u k0 hq => ?_⟩
    rw [PyData.depth] at u
    rw [PyData.shown] at hq
    obtain ⟨l⟩ := vs
    cases l with
    | nil =>
      cases (show RdNs h [] ds from r)
      rw [PyData.shownAll, listText_nil] at hq
      exact call_list_repr_empty ⟨o, k0 _ _ g, c⟩ (k0 _ _ g) e (hq s0.heap _ _ fun _ _ y => y)
    | cons x l => exact call_list_reprK g c e no (by simpa using k.length_eq) (fun i y ey => k.item i y (by simpa using ey)) hg (fun b _ => Clear.nil b) u k0 hq z
  | tup g c e r =>
    rename_i o vs n ds
    rw [PyData.shown] at z
    obtain ⟨bs, b, k⟩ := RdNs.shows (prog := prog) (w := w) r (by simpa [PyData.showable] using s) fun t ht => Nat.le_trans (tupleText_mem_le ht) z
    have no := not_mem_of_deeper q (by rw [PyData.depth]; omega) b
    refine ⟨"tuple", "tuple.__repr__", F.slot_tuple_repr, F.slot_tuple_str, F.slot_tuple_format, fun s k0 => ⟨o, k0 _ _ g, c⟩, fun A E s0 Q hg u k0 hq => ?_⟩
    rw [PyData.depth] at u
    rw [PyData.shown] at hq
    exact call_tuple_reprK g c e no k hg (fun b _ => Clear.nil b) u k0 hq z
  | dic g c e ns rk rv =>
    rename_i o es n kds
    rw [PyData.shown] at z
    obtain ⟨s1, s2⟩ := PyData.showableKv_split kds (by simpa [PyData.showable] using s)
    obtain ⟨b1, m1, k1⟩ := RdNs.shows (prog := prog) (w := w) rk s1 fun t ht => by
      obtain ⟨y, hy, l⟩ := PyData.shownKv_key_le kds t ht
      exact Nat.le_trans l (Nat.le_trans (dictText_mem_le hy) z)
    obtain ⟨b2, m2, k2⟩ := RdNs.shows (prog := prog) (w := w) rv s2 fun t ht => by
      obtain ⟨y, hy, l⟩ := PyData.shownKv_val_le kds t ht
      exact Nat.le_trans l (Nat.le_trans (dictText_mem_le hy) z)
    have b : ReadAtMost h (PyData.depthKv kds) (b1 ++ b2) := ReadAtMost.append (m1.mono (PyData.depthAll_keys_le kds)) (m2.mono (PyData.depthAll_vals_le kds))
    have no := not_mem_of_deeper q (by rw [PyData.depth]; omega) b
    refine ⟨"dict", "dict.__repr__", F.slot_dict_repr, F.slot_dict_str, F.slot_dict_format, fun s k0 => ⟨o, k0 _ _ g, c⟩, fun A E s0 Q hg u k0 hq => ?_⟩
    rw [PyData.depth] at u
    rw [PyData.shown, PyData.shownKv_eq] at hq
    rw [PyData.shownKv_eq] at z
    have j1 := k1.more_le (as' := b1 ++ b2) (fun _ y => List.mem_append_left _ y) (PyData.depthAll_keys_le kds)
    have j2 := k2.more_le (as' := b1 ++ b2) (fun _ y => List.mem_append_right _ y) (PyData.depthAll_vals_le kds)
    exact call_dict_reprK g c e ns no (ReprEntriesK.of_two es.toList _ _ j1 j2) hg (fun b _ => Clear.nil b) u k0 hq z
end
mutual
inductive Da (H : Hp) : V → PyData → Prop
  | non : Da H .non .none
  | bl (b : Bool) : Da H (.bl b) (.bool b)
  | int (i : Int) : Da H (.int i) (.int i)
  | str (x : Str) : Da H (.str x) (.str x)
  | lst {a : Addr} {xs : List V} {ds : List PyData} (e : H a = some (.lst xs)) (h : DaA H xs ds) : Da H (.ref a) (.list ds)
  | tup {a : Addr} {xs : List V} {ds : List PyData} (e : H a = some (.tup xs)) (h : DaA H xs ds) : Da H (.ref a) (.tuple ds)
  | dic {a : Addr} (e : H a = some (.dK [])) : Da H (.ref a) (.dict [])
inductive DaA (H : Hp) : List V → List PyData → Prop
  | nil : DaA H [] []
  | cons {x : V} {xs : List V} {d : PyData} {ds : List PyData} (h : Da H x d) (hs : DaA H xs ds) : DaA H (x :: xs) (d :: ds)
end
mutual
theorem Da.keep {H H' : Hp} (s : Same H H') : ∀ {v : V} {d : PyData}, Da H v d → Da H' v d
  | _, _, .non => .non
  | _, _, .bl b => .bl b
  | _, _, .int i => .int i
  | _, _, .str x => .str x
  | _, _, .lst e h => .lst (s _ _ e) (DaA.keep s h)
  | _, _, .tup e h => .tup (s _ _ e) (DaA.keep s h)
  | _, _, .dic e => .dic (s _ _ e)
theorem DaA.keep {H H' : Hp} (s : Same H H') : ∀ {vs : List V} {ds : List PyData}, DaA H vs ds → DaA H' vs ds
  | _, _, .nil => .nil
  | _, _, .cons h hs => .cons (Da.keep s h) (DaA.keep s hs)
end
mutual
theorem Da.rd {X : Cx} {pins : List (Addr × Obj)} {σ : St} {H : Hp} {s : Shared} (I : Inv X pins σ H s) : ∀ {v : V} {d : PyData} {u : Value}, Da H v d → RelV v u → RdN s.heap u d
  | _, _, u, .non, r => by cases (show u = Value.none from r); exact .non
  | _, _, u, .bl b, r => by cases (show u = Value.bool b from r); exact .bl b
  | _, _, u, .int i, r => by obtain ⟨t, rfl⟩ := r; exact .int i t
  | _, _, u, .str x, r => by obtain ⟨t, rfl⟩ := r; exact .str x t
  | _, _, u, .lst e h, r => by
    cases r
    obtain ⟨z, its, n, rv, hl, ho⟩ := I.lstM e
    exact .lst ho rfl rfl (by simpa using DaA.rd I h rv)
  | _, _, u, .tup e h, r => by
    cases r
    obtain ⟨z, its, rv, o, ho, hc, n, hd⟩ := I.hok _ _ e
    exact .tup ho hc hd (by simpa using DaA.rd I h rv)
  | _, _, u, .dic e, r => by
    cases r
    obtain ⟨hz, hS, vs, kv, o, es, ep, ho, hx, hd, hk, hp, hn⟩ := I.hok _ _ e
    cases kv
    have ee : es.toList = [] := by
      cases hq : es.toList with
      | nil => rfl
      | cons x xs => rw [hq] at hp; cases hp
    exact .dic (kds := []) ho hx.1 hd hS (by rw [ee]; exact .nil) (by rw [ee]; exact .nil)
theorem DaA.rd {X : Cx} {pins : List (Addr × Obj)} {σ : St} {H : Hp} {s : Shared} (I : Inv X pins σ H s) : ∀ {vs : List V} {ds : List PyData} {us : List Value}, DaA H vs ds → Vals vs us → RdNs s.heap us ds
  | _, _, _, .nil, .nil => .nil
  | _, _, _, .cons h hs, .cons r rs => .cons (Da.rd I h r) (DaA.rd I hs rs)
end
structure DaS (H : Hp) (v : V) (d : PyData) : Prop where
  da : Da H v d
  ok : d.showable = true
  le : d.shown.length ≤ sizeLine
  dp : d.depth ≤ 8
section
variable {X : Cx} {p pos : Pos} {e : Expr} {t : TA}
def rReprD : List V → Hp → VK → Prop := fun xs H Q => ∃ v d, xs = [v] ∧ DaS H v d ∧ Q (.str d.shown) H
theorem call_reprD (hu : X.A.units + 16 < cLine) (hg : X.A.guards = some []) : CallR X (.builtin "repr") rReprD := by
  intro pins s σ H xs us Q I r h
  obtain ⟨v, d, rfl, ⟨hs, sh, le, dp⟩, q⟩ := h
  obtain ⟨u, rfl, ru⟩ := vals1 r
  have fin : ∀ tk0 tk, (EP X pins σ Q) (.str d.shown tk0) { s with toks := tk } := fun tk0 tk => ⟨.str d.shown, H, I.tok _, ⟨_, rfl⟩, q⟩
  have onref : ∀ {a : Addr}, u = .ref a → wpAny (model X.prog X.w) X.A (call (.builtin "repr") [u]) (EP X pins σ Q) X.xe s := fun {a} eu => by
    subst eu
    obtain ⟨T, idr, S⟩ := (hs.rd I ru).by_ (prog := X.prog) (w := X.w) sh le
    exact call_repr_slot (by omega) (S.typeIs s fun _ _ y => y) S.slotRepr (S.call X.A.in1 _ s _ hg (by show X.A.units + 1 + d.depth < cLine; omega) (fun _ _ y => y) fun h' u tk hk => ⟨_, _, rfl, .str d.shown, H, I.kept (t' := tk) hk, ⟨_, rfl⟩, q⟩)
  cases hs with
  | non => cases (show u = Value.none from ru); exact PySem.P.repr_of_none (by simpa only [PyData.shown] using fin _ _)
  | bl b => cases (show u = Value.bool b from ru); exact PySem.P.repr_of_bool (by simpa only [PyData.shown] using fin _ _)
  | int i => obtain ⟨t, rfl⟩ := ru; exact PySem.P.repr_of_int (by simpa [PyData.showable] using sh) (by simpa only [PyData.shown] using fin _ _)
  | str x => obtain ⟨t, rfl⟩ := ru; exact PySem.P.repr_of_str (by simpa only [PyData.shown] using fin _ _) (by simpa only [PyData.shown] using le)
  | lst e h => exact onref ru
  | tup e h => exact onref ru
  | dic e => exact onref ru
end
end L2
namespace My
open PySem L2 Mth
def top (i : Nat) : Stmt := PySem.Challenge.pw_turnroots_k01_what_is_a_turn.main.body.getD i (.Pass ⟨0, 0, 0, 0⟩)
abbrev s_is_whole : Stmt := top 1
abbrev s_is_turn : Stmt := top 4
abbrev s_law_pool : Stmt := top 6
abbrev s_law_take : Stmt := top 7
abbrev s_law_mixed_up : Stmt := top 8
abbrev s_law_by_lengths : Stmt := top 9
abbrev s_law_lengths : Stmt := top 10
abbrev s_law_turn : Stmt := top 11
abbrev s_law_is_turn : Stmt := top 12
abbrev s_law_odd : Stmt := top 13
abbrev s_law_spoilt : Stmt := top 14
abbrev s_law_copy : Stmt := top 15
abbrev s_law : Stmt := top 16
end My
namespace My
open PySem L2 Mth
structure Bl (mg : Str → Option Value) : Prop where
  len : mg "len" = none
  isi : mg "isinstance" = none
  int : mg "int" = none
  bool : mg "bool" = none
  list : mg "list" = none
  range : mg "range" = none
  sum : mg "sum" = none
  min : mg "min" = none
  max : mg "max" = none
  enum : mg "enumerate" = none
  zip : mg "zip" = none
  sorted : mg "sorted" = none
  tuple : mg "tuple" = none
  str : mg "str" = none
  repr : mg "repr" = none
  all : mg "all" = none
  any : mg "any" = none
  set : mg "set" = none
  dict : mg "dict" = none
  ve : mg "ValueError" = none
section
variable {P : Program} {w : World} {K : PySem.W.Frag} {mg : Str → Option Value} {base : Heap}
def spWhole (K : PySem.W.Frag) : Sp := fun vs H Q _ => ∃ x t b1 b2, vs = [x] ∧ TyOf K H x t ∧ PySem.W.kitOne K t (.type "int") = some b1 ∧ PySem.W.kitOne K t (.type "bool") = some b2 ∧ Q (.bl (b1 && !b2)) H
theorem scWhole : FnScope ["thing"] ["thing"] (defScope s_is_whole) := ⟨rfl, rfl, rfl, by decide +kernel, rfl, by decide +kernel, by decide +kernel⟩
theorem ok_whole {f : Addr} {fd : FuncData} (F : Fun K "is_whole" "is_whole" s_is_whole f fd) (B : Bl mg) : FnOk P w K mg base CX0 1 f fd ["thing"] (spWhole K) := by
  refine F.ok scWhole (fun vs H Q E h => ?_) (fun cdv A outer s H vs Q E hr h => ?_)
  · obtain ⟨x, t, b1, b2, rfl, _⟩ := h
    rfl
  · obtain ⟨x, t, b1, b2, rfl, ty, e1, e2, q⟩ := h
    refine ⟨_, pss_one (ps_ret (pe_and (pe_isi B.isi (pa_cons (pv 0) (pa_cons (pe_tyInt B.int) pa_nil))) (pe_one (pe_not (pe_isi B.isi (pa_cons (pv 0) (pa_cons (pe_tyBool B.bool) pa_nil))))))), ?_⟩
    refine ⟨x, rfl, x, "int", t, b1, rfl, ty, e1, b1, rfl, ?_⟩
    cases b1 with
    | true =>
      refine iteT ⟨x, rfl, x, "bool", t, b2, rfl, ty, e2, b2, rfl, ?_⟩
      exact q
    | false => exact iteF q
def spIsTurn : Sp := fun vs H Q _ => ∃ (a : Addr) (ns : List Int), vs = [.ref a] ∧ H a = some (.lst (ns.map V.int)) ∧ ∀ (b : Bool) (H' : Hp), Same H H' → (b = true ↔ ns.length ≤ 40 ∧ IsT ns) → Q (.bl b) H'
theorem scIsTurn : FnScope ["thing", "seen", "place"] ["thing"] (defScope s_is_turn) := ⟨rfl, rfl, rfl, by decide +kernel, rfl, by decide +kernel, by decide +kernel⟩
theorem ok_isTurn {f : Addr} {fd : FuncData} (F : Fun K "is_turn" "is_turn" s_is_turn f fd) (B : Bl mg) (mt : ∃ t, mg "MOST_THINGS" = some (.int 40 t)) (cW : Cal P w K mg base "is_whole" 1 ["thing"] (spWhole K)) : FnOk P w K mg base CX0 2 f fd ["thing"] spIsTurn := by
  refine F.ok scIsTurn (fun vs H Q E h => ?_) (fun cdv A outer s H vs Q E hr h => ?_)
  · obtain ⟨a, ns, rfl, _⟩ := h
    rfl
  · obtain ⟨a, ns, rfl, ha, k⟩ := h
    obtain ⟨tk, mt⟩ := mt
    have hu := hu_of hr
    refine ⟨_, pss_cons (ps_if (pw_or (pt_not (pt_val (pe_isi B.isi (pa_cons (pv 0) (pa_cons (pe_tyList B.list) pa_nil))))) (pw_or1 (pt_cmpR op_gt (pe_lenL B.len (pa_cons (pv 0) pa_nil)) (pe_glob (v := .int 40) (by rfl) mt ⟨tk, rfl⟩) (nomark _)))).pt (pss_one (ps_ret pe_bl)) pss_nil)
      (pss_cons (ps_set (i := 1) scIsTurn.nd rfl (Or.inl rfl) pe_dnewK)
      (pss_cons (ps_for PassesOwn.never rfl (pi_list (pv 0)) (pg_name (i := 2) scIsTurn.nd rfl (Or.inl rfl))
        (pss_cons (ps_if (pw_or (pt_not (pt_val (pe_cal cW hr (pa_cons (pv 2) pa_nil)))) (pw_or (pt_cmpR op_lt (pv 2) pe_int (nomark _)) (pw_or (pt_cmpR op_ge (pv 2) (pe_lenL B.len (pa_cons (pv 0) pa_nil)) (nomark _)) (pw_or1 (pt_cmp (pc_din hu (pv 2) (pv 1))))))).pt (pss_one (ps_ret pe_bl)) pss_nil)
        (pss_one (ps_dput hu (pv 1) (pv 2) pe_bl rfl))))
      (pss_one (ps_ret pe_bl)))), ?_⟩
    refine ⟨_, rfl, _, "list", _, true, rfl, .lst ha, kit_same K "list", true, rfl, ?_⟩
    refine iteF ⟨_, rfl, a, _, rfl, .inl (SqL.of ha), _, _, rfl, rfl, _, rfl, ?_⟩
    rw [List.length_map]
    refine ite2 (fun h40 => ?_) (fun h40 => ?_)
    · have h40 : (40 : Int) < (ns.length : Int) := of_decide_eq_true h40
      exact k false H (Same.refl H) ⟨fun z => (by cases z), fun z => (by have := z.1; omega)⟩
    · have h40 : ¬ (40 : Int) < (ns.length : Int) := fun z => h40 (decide_eq_true z)
      intro d hd
      have nad : a ≠ d := ne_of_none ha hd
      have ha1 : (upd H d (.dK [])) a = some (.lst (ns.map V.int)) := by rw [upd_ne nad]; exact ha
      refine ⟨_, rfl, a, rfl, ⟨_, SqL.of ha1⟩, for_list (K := K) (a := a) (xs := ns.map V.int) (fun i σ H2 => ∃ v : Option V, σ = [some (.ref a), some (.ref d), v] ∧ Same H H2 ∧ H2 d = some (.dK (seenK (ns.take i))) ∧ (ns.take i).Nodup ∧ ∀ x ∈ ns.take i, 0 ≤ x ∧ x < ns.length)
        ⟨none, rfl, Same.upd_new hd, upd_same, List.nodup_nil, fun x hx => by simp at hx⟩ (fun i σ H2 _ ⟨_, _, s2, _⟩ => SqL.of (s2 a _ ha)) ?_ ?_⟩
      · rintro i y σ H2 hi ⟨v, rfl, s2, h2, nd, bd⟩
        obtain ⟨z, hz, rfl⟩ := getElem_int hi
        have ha2 := s2 a _ ha
        have hil : i < ns.length := (List.getElem?_eq_some_iff.mp hz).1
        refine ⟨_, rfl, .int z, _, true, false, rfl, .int z, kit_same K "int", kit_int_bool K, _, rfl, ?_⟩
        refine iteF ⟨_, rfl, _, _, rfl, rfl, _, rfl, ?_⟩
        refine ite2 (fun hz0 => ?_) (fun hz0 => ?_)
        · have hz0 : z < 0 := of_decide_eq_true hz0
          exact iteT (k false H2 s2 ⟨fun q => (by cases q), fun q => (by have := q.2.lo z (List.mem_of_getElem? hz); omega)⟩)
        have hz0 : ¬ z < 0 := fun q => hz0 (decide_eq_true q)
        refine ⟨_, rfl, _, rfl, a, _, rfl, .inl (SqL.of ha2), _, _, rfl, rfl, _, rfl, ?_⟩
        rw [List.length_map]
        refine ite2 (fun hz1 => ?_) (fun hz1 => ?_)
        · have hz1 : (ns.length : Int) ≤ z := of_decide_eq_true hz1
          exact iteT (k false H2 s2 ⟨fun q => (by cases q), fun q => (by have := q.2.hi z (List.mem_of_getElem? hz); omega)⟩)
        have hz1 : ¬ (ns.length : Int) ≤ z := fun q => hz1 (decide_eq_true q)
        refine ⟨_, rfl, _, rfl, d, _, rfl, DGet.k (k := Sum.inl z) h2, _, rfl, ?_⟩
        by_cases hm : z ∈ ns.take i
        · rw [seenK_in hm]
          refine iteT (k false H2 s2 ⟨fun q => (by cases q), fun q => ?_⟩)
          exfalso
          obtain ⟨j, hj⟩ := List.mem_iff_getElem?.mp hm
          have hjl : j < i := by
            have := (List.getElem?_eq_some_iff.mp hj).1
            rw [List.length_take] at this
            omega
          rw [List.getElem?_take_of_lt hjl] at hj
          have e1 := (List.getElem?_eq_some_iff.mp hj).2
          have e2 := (List.getElem?_eq_some_iff.mp hz).2
          exact List.pairwise_iff_getElem.mp (List.nodup_iff_pairwise_ne.mp q.2.nd) j i (by omega) hil hjl (by rw [e1, e2])
        · rw [seenK_no hm]
          refine iteF ⟨_, rfl, _, rfl, d, _, rfl, DPut.k (k := Sum.inl z) h2 (small1000 (by unfold seenK; rw [List.length_map, List.length_take]; omega)), ?_⟩
          have hds : ∀ b o, H b = some o → b ≠ d := fun b o e => ne_of_none e hd
          refine ⟨some (.int z), rfl, fun b o e => by rw [upd_ne (hds b o e)]; exact s2 b o e, ?_, ?_, ?_⟩
          · rw [seenK_put hm, upd_same, take_succ_of hz]
          · rw [take_succ_of hz]; exact nd_snoc nd hm
          · intro x hx
            rw [take_succ_of hz] at hx
            rcases List.mem_append.mp hx with q | q
            · exact bd x q
            · have : x = z := by simpa using q
              omega
      · rintro σ H2 ⟨v, rfl, s2, h2, nd, bd⟩
        rw [List.length_map, List.take_length] at nd bd
        refine k true H2 s2 ⟨fun _ => ⟨by omega, ⟨nd, fun x hx => (bd x hx).1, fun x hx => (bd x hx).2⟩⟩, fun _ => rfl⟩
end
end My
namespace My
open PySem L2 Mth
section
variable {P : Program} {w : World} {K : PySem.W.Frag} {mg : Str → Option Value} {base : Heap}
def spPool (K : PySem.W.Frag) : Sp := fun vs H Q _ => ∃ (a : Addr) (ns : List Int) (k : Int), vs = [.ref a, .int k] ∧ SqL K H a (ns.map V.int) ∧ 0 ≤ k ∧ k ≤ 100 ∧ ∀ (l : Addr) (H' : Hp), H l = none → Same H H' → PoolAt H' l 4300 → Q (.ref l) H'
theorem scPool : FnScope ["script", "k", "cell"] ["script", "k"] (defScope s_law_pool) := ⟨rfl, rfl, rfl, by decide +kernel, rfl, by decide +kernel, by decide +kernel⟩
theorem ok_pool {f : Addr} {fd : FuncData} (F : Fun K "_law_pool" "_law_pool" s_law_pool f fd) (B : Bl mg) : FnOk P w K mg base CX0 1 f fd ["script", "k"] (spPool K) := by
  refine F.ok scPool (fun vs H Q E h => ?_) (fun cdv A outer s H vs Q E hr h => ?_)
  · obtain ⟨a, ns, k, rfl, _⟩ := h
    rfl
  · obtain ⟨a, ns, k, rfl, ha, k0, k1, q⟩ := h
    refine ⟨_, pss_cons (ps_set (i := 2) scPool.nd rfl (Or.inl rfl) pe_int)
      (pss_cons (ps_if (pt_cmpR op_lt (pv 1) (pe_lenL B.len (pa_cons (pv 0) pa_nil)) (nomark _)) (pss_one (ps_set (i := 2) scPool.nd rfl (Or.inl rfl) (pe_ix ix_list (pv 0) (pv 1) (fun _ _ => rfl)))) pss_nil)
      (pss_cons (ps_if (pt_cmpR op_ge (pv 2) (pe_op op_pow pe_int pe_int) (nomark _)) (pss_one (ps_ret (pe_lst (pa_cons (pe_op op_sub (pv 2) (pe_op op_pow pe_int pe_int)) (pa_cons pe_int (pa_cons pe_int pa_nil)))))) pss_nil)
      (pss_one (ps_ret (pe_lst (pa_cons (pv 2) (pa_cons pe_int (pa_cons (pe_op op_mul pe_int (pv 1)) pa_nil)))))))), ?_⟩
    refine ⟨_, rfl, _, rfl, a, _, rfl, .inl ha, _, _, rfl, rfl, _, rfl, ?_⟩
    rw [List.length_map]
    have cp : CPow 10 18 := ⟨by decide, by decide, by decide⟩
    refine ite2 (fun h => ?_) (fun h => ?_)
    · have h : k < (ns.length : Int) := of_decide_eq_true h
      refine ⟨_, rfl, _, rfl, a, _, k, _, rfl, rfl, ha, atI_map k0 h, ?_⟩
      refine ⟨_, rfl, _, _, rfl, rfl, cp, _, _, rfl, rfl, _, rfl, ?_⟩
      refine ite2 (fun h => ?_) (fun h => ?_)
      · refine ⟨_, rfl, _, _, rfl, rfl, cp, _, _, rfl, rfl, (by show 3 ≤ sizeLine; decide), fun l hl => ?_⟩
        exact q l _ hl (Same.upd_new hl) ⟨_, _, _, upd_same, by decide, by decide⟩
      · refine ⟨_, rfl, _, rfl, _, _, rfl, rfl, .inl ⟨by decide, by decide⟩, (by show 3 ≤ sizeLine; decide), fun l hl => ?_⟩
        exact q l _ hl (Same.upd_new hl) ⟨_, _, _, upd_same, by omega, by omega⟩
    · refine ⟨_, rfl, _, _, rfl, rfl, cp, _, _, rfl, rfl, _, rfl, ?_⟩
      refine ite2 (fun h => ?_) (fun h => ?_)
      · refine ⟨_, rfl, _, _, rfl, rfl, cp, _, _, rfl, rfl, (by show 3 ≤ sizeLine; decide), fun l hl => ?_⟩
        exact q l _ hl (Same.upd_new hl) ⟨_, _, _, upd_same, by decide, by decide⟩
      · refine ⟨_, rfl, _, rfl, _, _, rfl, rfl, .inl ⟨by decide, by decide⟩, (by show 3 ≤ sizeLine; decide), fun l hl => ?_⟩
        exact q l _ hl (Same.upd_new hl) ⟨_, _, _, upd_same, by omega, by omega⟩
def spTake : Sp := fun vs H Q _ => ∃ (a : Addr) (c : Nat) (m : Int), vs = [.ref a, .int m] ∧ PoolAt H a c ∧ c ≤ 1000000 ∧ 0 < m ∧ m ≤ 1000000000000000000000000000000 ∧ ∀ (r : Int) (H' : Hp), 0 ≤ r → r < m → PoolAt H' a (c + 1) → KeepBut a H H' → Q (.int r) H'
theorem scTake : FnScope ["pool", "many", "found", "step", "mark"] ["pool", "many"] (defScope s_law_take) := ⟨rfl, rfl, rfl, by decide +kernel, rfl, by decide +kernel, by decide +kernel⟩
theorem ok_take {f : Addr} {fd : FuncData} (F : Fun K "_law_take" "_law_take" s_law_take f fd) : FnOk P w K mg base CX0 1 f fd ["pool", "many"] spTake := by
  refine F.ok scTake (fun vs H Q E h => ?_) (fun cdv A outer s H vs Q E hr h => ?_)
  · obtain ⟨a, c, m, rfl, _⟩ := h
    rfl
  · obtain ⟨a, c, m, rfl, ⟨x, y, z, ha, hz, hzc⟩, hc, m0, m1, q⟩ := h
    refine ⟨_, pss_cons (ps_if (pt_cmpR op_eq (pe_ix ix_list (pv 0) pe_int (fun _ _ => rfl)) pe_int (nomark _))
        (pss_cons (ps_set (i := 2) scTake.nd rfl (Or.inl rfl) (pe_op op_mod (pe_ix ix_list (pv 0) pe_int (fun _ _ => rfl)) (pv 1)))
        (pss_cons (ps_asg (pe_op op_fdivB (pe_ix ix_list (pv 0) pe_int (fun _ _ => rfl)) (pv 1)) (pg_sub (pv 0) pe_int set_list))
        (pss_one (ps_ret (pv 2))))) pss_nil)
      (pss_cons (ps_asg (pe_op op_add (pe_ix ix_list (pv 0) pe_int (fun _ _ => rfl)) pe_int) (pg_sub (pv 0) pe_int set_list))
      (pss_cons (ps_set (i := 3) scTake.nd rfl (Or.inl rfl) (pe_ix ix_list (pv 0) pe_int (fun _ _ => rfl)))
      (pss_cons (ps_set (i := 4) scTake.nd rfl (Or.inl rfl) (pe_op op_mul (pe_op op_add (pe_op op_mod (pe_ix ix_list (pv 0) pe_int (fun _ _ => rfl)) pe_int) pe_int) (pe_op op_add (pe_op op_mul pe_int (pv 3)) pe_int)))
      (pss_cons (ps_set (i := 4) scTake.nd rfl (Or.inl rfl) (pe_op op_add (pv 4) (pe_op op_mul (pe_op op_mul pe_int (pv 3)) (pv 3))))
      (pss_cons (ps_set (i := 4) scTake.nd rfl (Or.inl rfl) (pe_op op_mod (pe_op op_mul (pv 4) (pv 4)) pe_int))
      (pss_one (ps_ret (pe_op op_mod (pe_op op_fdiv (pe_op op_mod (pe_op op_mul (pv 4) (pe_op op_add (pv 4) pe_int)) pe_int) pe_int) (pv 1))))))))), ?_⟩
    refine ⟨_, rfl, a, _, _, _, rfl, rfl, SqL.of ha, (atI_nat (j := 1) rfl), rfl, _, rfl, ?_⟩
    refine ite2 (fun h => ?_) (fun h => ?_)
    · refine ⟨_, rfl, a, _, _, _, rfl, rfl, SqL.of ha, (atI_nat (j := 0) rfl), _, rfl, _, _, rfl, rfl, m0, ?_⟩
      refine ⟨_, rfl, a, _, _, _, rfl, rfl, SqL.of ha, (atI_nat (j := 0) rfl), _, rfl, _, _, rfl, rfl, ⟨m0, m1⟩, ?_⟩
      refine ⟨_, rfl, a, _, _, 0, rfl, rfl, ha, rfl, ?_⟩
      refine ⟨_, rfl, q _ _ (Int.emod_nonneg _ (by omega)) (Int.emod_lt_of_pos _ m0) ⟨_, _, _, upd_same, hz, by omega⟩ KeepBut.upd⟩
    · refine ⟨_, rfl, a, _, _, _, rfl, rfl, SqL.of ha, (atI_nat (j := 2) rfl), _, _, rfl, rfl, ?_⟩
      refine ⟨_, rfl, a, _, _, 2, rfl, rfl, ha, rfl, ?_⟩
      have ha2 : (upd H a (.lst [.int x, .int y, .int (z + 1)])) a = some (.lst [.int x, .int y, .int (z + 1)]) := upd_same
      refine ⟨_, rfl, a, _, _, _, rfl, rfl, SqL.of ha2, (atI_nat (j := 2) rfl), ?_⟩
      have hxm : 0 ≤ x % 9999999577 ∧ x % 9999999577 < 9999999577 := ⟨Int.emod_nonneg _ (by decide), Int.emod_lt_of_pos _ (by decide)⟩
      have tb := take_bound (u := x % 9999999577 + 1009) (s := z + 1) (by omega) (by omega) (by omega) (by omega)
      have e64 : (2 : Int) ^ 64 = 18446744073709551616 := by decide
      refine ⟨_, rfl, a, _, _, _, rfl, rfl, SqL.of ha2, (atI_nat (j := 0) rfl), _, _, rfl, rfl, (by show (0 : Int) < 9999999577; decide), _, _, rfl, rfl, _, rfl, _, _, rfl, rfl, .inl ⟨by decide, by decide⟩, _, _, rfl, rfl, _, _, rfl, rfl, .inl ⟨by rw [e64]; omega, by rw [e64]; omega⟩, ?_⟩
      refine ⟨_, rfl, _, rfl, _, _, rfl, rfl, .inl ⟨by decide, by decide⟩, _, rfl, _, _, rfl, rfl, .inl ⟨by rw [e64]; omega, by rw [e64]; omega⟩, _, _, rfl, rfl, ?_⟩
      refine ⟨_, rfl, _, rfl, _, _, rfl, rfl, .inl ⟨by have := tb.1; rw [e64]; omega, tb.2⟩, _, _, rfl, rfl, (by show (0 : Int) < 99999999599; decide), ?_⟩
      refine ⟨_, rfl, _, rfl, _, _, rfl, rfl, _, _, rfl, rfl, .inl ⟨by rw [e64]; omega, by rw [e64]; omega⟩, _, _, rfl, rfl, (by show (0 : Int) < 99999999907; decide), _, _, rfl, rfl, ⟨by decide, by decide⟩, _, rfl, _, _, rfl, rfl, m0, ?_⟩
      exact q _ _ (Int.emod_nonneg _ (by omega)) (Int.emod_lt_of_pos _ m0) ⟨_, _, _, upd_same, by omega, by omega⟩ KeepBut.upd
def spMixed (K : PySem.W.Frag) : Sp := fun vs H Q _ => ∃ (a t : Addr) (c : Nat) (xs : List V), vs = [.ref a, .ref t] ∧ PoolAt H a c ∧ c + xs.length ≤ 1000000 ∧ SqL K H t xs ∧ xs.length ≤ 1000 ∧
  ∀ (l : Addr) (ys : List V) (H' : Hp), H l = none → ys.Perm xs → H' l = some (.lst ys) → PoolAt H' a (c + xs.length) → KeepBut a H H' → Q (.ref l) H'
def lenAt (H : Hp) (l : Addr) : Nat := match H l with
  | some (.lst xs) => xs.length
  | _ => 0
theorem lenAt_of {H : Hp} {l : Addr} {xs : List V} (h : H l = some (.lst xs)) : lenAt H l = xs.length := by unfold lenAt; rw [h]
theorem scMixed : FnScope ["pool", "things", "left", "found"] ["pool", "things"] (defScope s_law_mixed_up) := ⟨rfl, rfl, rfl, by decide +kernel, rfl, by decide +kernel, by decide +kernel⟩
theorem ok_mixed {f : Addr} {fd : FuncData} (F : Fun K "_law_mixed_up" "_law_mixed_up" s_law_mixed_up f fd) (B : Bl mg) (cT : Cal P w K mg base "_law_take" 1 ["pool", "many"] spTake) : FnOk P w K mg base CX0 2 f fd ["pool", "things"] (spMixed K) := by
  refine F.ok scMixed (fun vs H Q E h => ?_) (fun cdv A outer s H vs Q E hr h => ?_)
  · obtain ⟨a, t, c, xs, rfl, _⟩ := h
    rfl
  · obtain ⟨a, t, c, xs, rfl, hp, hcx, ht, hx1, q⟩ := h
    have hu := hu_of hr
    refine ⟨_, pss_cons (ps_set (i := 2) scMixed.nd rfl (Or.inl rfl) (pe_listOf B.list (pa_cons (pv 1) pa_nil)))
      (pss_cons (ps_set (i := 3) scMixed.nd rfl (Or.inl rfl) (pe_lst pa_nil))
      (pss_cons (ps_while PassesOwn.never (pt_cmpR (op_neL 0 hu) (pv 2) (pe_lst pa_nil) (nomark _))
        (pss_one (ps_expr (pe_append (pv 3) (pa_cons (pe_popAt (pv 2) (pa_cons (pe_cal cT hr (pa_cons (pv 0) (pa_cons (pe_lenL B.len (pa_cons (pv 2) pa_nil)) pa_nil))) pa_nil)) pa_nil)))))
      (pss_one (ps_ret (pv 3))))), ?_⟩
    refine ⟨_, rfl, t, xs, rfl, .inl ht, fun l hl => ?_⟩
    refine ⟨Nat.zero_le _, fun m hm => ?_⟩
    obtain ⟨px, py, pz, hpa, hpz⟩ := id hp
    have hml : m ≠ l := fun z => by rw [z, upd_same] at hm; cases hm
    have hm0 : H m = none := by rw [upd_ne hml] at hm; exact hm
    have nal : a ≠ l := ne_of_none hpa hl
    have nam : a ≠ m := ne_of_none hpa hm0
    refine while_by (fun σ H2 => ∃ ls fs, σ = [some (.ref a), some (.ref t), some (.ref l), some (.ref m)] ∧ H2 l = some (.lst ls) ∧ H2 m = some (.lst fs) ∧ (fs ++ ls).Perm xs ∧ PoolAt H2 a (c + fs.length) ∧ KeepBut a H H2) (fun σ H2 => lenAt H2 l)
      ⟨xs, [], rfl, by rw [upd_ne hml.symm, upd_same], upd_same, List.Perm.refl _, ⟨px, py, pz, by rw [upd_ne nam, upd_ne nal]; exact hpa, hpz⟩, ((KeepBut.refl a H).upd_r hl).upd_r hm0⟩ ?_ ?_
    · rintro σ H2 ⟨ls, fs, rfl, h2l, h2m, pm, ⟨x, y, z, h2a, hz0, hz1⟩, kb⟩
      refine ⟨_, rfl, Nat.zero_le _, fun e he => ?_⟩
      have nle : l ≠ e := ne_of_none h2l he
      have nme : m ≠ e := ne_of_none h2m he
      have nae : a ≠ e := ne_of_none h2a he
      refine ⟨l, e, ls, [], ls.isEmpty, rfl, rfl, SqL.of (by rw [upd_ne nle]; exact h2l), SqL.of upd_same, leq_nil _ _ _ _, _, rfl, ?_⟩
      have hlen : fs.length + ls.length = xs.length := by rw [← List.length_append]; exact pm.length_eq
      cases ls with
      | nil =>
        refine iteF ?_
        rw [List.append_nil] at pm
        refine ⟨_, rfl, ?_⟩
        have hfl : fs.length = xs.length := by simpa using hlen
        refine q m fs _ hm0 pm (by rw [upd_ne nme]; exact h2m) ⟨x, y, z, by rw [upd_ne nae]; exact h2a, hz0, by rw [← hfl]; exact hz1⟩ fun b o hb hn => ?_
        have := kb b o hb hn
        rw [upd_ne (ne_of_none this he)]
        exact this
      | cons g r =>
        refine iteT ?_
        have h3m : (upd H2 e (.lst [])) m = some (.lst fs) := by rw [upd_ne nme]; exact h2m
        have h3l : (upd H2 e (.lst [])) l = some (.lst (g :: r)) := by rw [upd_ne nle]; exact h2l
        refine ⟨_, rfl, .inl ⟨rfl, _, SqL.of h3m⟩, _, rfl, .inl ⟨rfl, _, SqL.of h3l⟩, _, rfl, _, rfl, l, _, rfl, .inl (SqL.of h3l), a, c + fs.length, _, rfl, ⟨x, y, z, by rw [upd_ne nae]; exact h2a, hz0, hz1⟩, by simp only [List.length_cons] at hlen; omega, by simp only [List.length_cons]; omega, by simp only [List.length_cons] at *; omega, ?_⟩
        intro j H4 j0 j1 ⟨x', y', z', h4a, hz0', hz1'⟩ kb4
        have h4l := kb4 l _ h3l nal.symm
        have h4m := kb4 m _ h3m nam.symm
        obtain ⟨jn, rfl⟩ := Int.eq_ofNat_of_zero_le j0
        have hjl : jn < (g :: r).length := by simp only [List.length_cons] at j1 ⊢; omega
        refine ⟨l, _, _, jn, (g :: r)[jn], rfl, rfl, h4l, by omega, by simp only [List.length_cons] at *; omega, ?_, List.getElem?_eq_getElem hjl, ?_⟩
        · have : ixN (g :: r).length (jn : Int) = some jn := by
            unfold ixN
            rw [if_pos (by omega), if_pos (by omega)]
            simp
          exact (ixN_seq this).1
        have h5m : (upd H4 l (.lst ((g :: r).eraseIdx jn))) m = some (.lst fs) := by rw [upd_ne hml]; exact h4m
        refine ⟨m, _, _, rfl, rfl, h5m, small1000 (by simp only [List.length_cons] at hlen; omega), ?_⟩
        have e5 : (upd (upd H4 l (.lst ((g :: r).eraseIdx jn))) m (.lst (fs ++ [(g :: r)[jn]]))) l = some (.lst ((g :: r).eraseIdx jn)) := by rw [upd_ne hml.symm, upd_same]
        refine ⟨⟨_, _, rfl, e5, upd_same, ?_, ⟨x', y', z', by rw [upd_ne nam, upd_ne nal]; exact h4a, hz0', by rw [List.length_append]; exact hz1'⟩, ?_⟩, ?_⟩
        · have pe := perm_erase (l := g :: r) (k := jn) (List.getElem?_eq_getElem hjl)
          refine List.Perm.trans ?_ pm
          rw [List.append_assoc]
          exact List.Perm.append_left fs pe
        · intro b o hb hn
          have b2 := kb b o hb hn
          have b3 : (upd H2 e (.lst [])) b = some o := by rw [upd_ne (ne_of_none b2 he)]; exact b2
          have b4 := kb4 b o b3 hn
          rw [upd_ne (ne_of_none hb hm0), upd_ne (ne_of_none hb hl)]
          exact b4
        · rw [lenAt_of e5, lenAt_of h2l, List.length_eraseIdx_of_lt hjl]
          simp only [List.length_cons] at *
          omega
    · rintro σ H2 Q Q' hq ⟨v, hv, h1, h2⟩
      refine ⟨v, hv, h1, fun e he => ?_⟩
      obtain ⟨a1, b1, xs1, ys1, r1, e1, e2, e3, e4, e5, k1, e6, e7⟩ := h2 e he
      exact ⟨a1, b1, xs1, ys1, r1, e1, e2, e3, e4, e5, k1, e6, hq _ _ e7⟩
end
end My
namespace My
open PySem L2 Mth
section
variable {P : Program} {w : World} {K : PySem.W.Frag} {mg : Str → Option Value} {base : Heap}
def spLengths : Sp := fun vs H Q _ => ∃ (a : Addr) (c : Nat) (n : Int), vs = [.ref a, .int n] ∧ PoolAt H a c ∧ 0 ≤ n ∧ n ≤ 100 ∧ c ≤ 900000 ∧
  ∀ (l : Addr) (ls : List Int) (H' : Hp), H l = none → (∀ x ∈ ls, 1 ≤ x) → ls.sum = n → H' l = some (.lst (ls.map V.int)) → PoolAt H' a (c + 110) → KeepBut a H H' → Q (.ref l) H'
theorem scLengths : FnScope ["pool", "many", "way", "like", "found", "left", "most", "length"] ["pool", "many"] (defScope s_law_lengths) := ⟨rfl, rfl, rfl, by decide +kernel, rfl, by decide +kernel, by decide +kernel⟩
def leftOf (σ : St) : Nat := match σ[5]? with
  | some (some (V.int i)) => i.toNat
  | _ => 0
theorem ok_lengths {f : Addr} {fd : FuncData} (F : Fun K "_law_lengths" "_law_lengths" s_law_lengths f fd) (B : Bl mg) (cT : Cal P w K mg base "_law_take" 1 ["pool", "many"] spTake) : FnOk P w K mg base CX0 2 f fd ["pool", "many"] spLengths := by
  refine F.ok scLengths (fun vs H Q E h => ?_) (fun cdv A outer s H vs Q E hr h => ?_)
  · obtain ⟨a, c, n, rfl, _⟩ := h
    rfl
  · obtain ⟨a, c, n, rfl, hp, n0, n1, hc, q⟩ := h
    refine ⟨_, pss_cons (ps_set (i := 2) scLengths.nd rfl (Or.inl rfl) (pe_cal cT hr (pa_cons (pv 0) (pa_cons pe_int pa_nil))))
      (pss_cons (ps_set (i := 3) scLengths.nd rfl (Or.inl rfl) (pe_op op_add pe_int (pe_cal cT hr (pa_cons (pv 0) (pa_cons pe_int pa_nil)))))
      (pss_cons (ps_set (i := 4) scLengths.nd rfl (Or.inl rfl) (pe_lst pa_nil))
      (pss_cons (ps_set (i := 5) scLengths.nd rfl (Or.inl rfl) (pv 1))
      (pss_cons (ps_while PassesOwn.never (pt_cmpR op_gt (pv 5) pe_int (nomark _))
        (pss_cons (ps_set (i := 6) scLengths.nd rfl (Or.inl rfl) (pe_ix ix_list (pe_lst (pa_cons (pv 5) (pa_cons (pe_min2 rfl B.min (pa_cons (pv 5) (pa_cons pe_int pa_nil))) (pa_cons (pe_min2 rfl B.min (pa_cons (pv 5) (pa_cons (pv 3) pa_nil))) (pa_cons (pv 5) pa_nil))))) (pv 2) (fun _ _ => rfl)))
        (pss_cons (ps_if (pt_cmpR op_eq (pv 2) pe_int (nomark _)) (pss_one (ps_set (i := 7) scLengths.nd rfl (Or.inl rfl) (pv 6))) (pss_one (ps_set (i := 7) scLengths.nd rfl (Or.inl rfl) (pe_op op_add pe_int (pe_cal cT hr (pa_cons (pv 0) (pa_cons (pv 6) pa_nil)))))))
        (pss_cons (ps_expr (pe_append (pv 4) (pa_cons (pv 7) pa_nil)))
        (pss_one (ps_set (i := 5) scLengths.nd rfl (Or.inl rfl) (pe_op op_sub (pv 5) (pv 7))))))))
      (pss_one (ps_ret (pv 4))))))), ?_⟩
    refine ⟨_, rfl, a, c, 4, rfl, hp, by omega, by decide, by decide, fun way H1 w0 w1 p1 kb1 => ?_⟩
    refine ⟨_, rfl, a, c + 1, 6, rfl, p1, by omega, by decide, by decide, fun lk H2 l0 l1 p2 kb2 => ⟨_, _, rfl, rfl, ?_⟩⟩
    refine ⟨Nat.zero_le _, fun m hm => ?_⟩
    obtain ⟨x2, y2, z2, h2a, hz2, hz2'⟩ := id p2
    have nam : a ≠ m := ne_of_none h2a hm
    have kb02 : KeepBut a H H2 := kb1.trans kb2
    have hm0 : H m = none := by
      cases e : H m with
      | none => rfl
      | some o => have := kb02 m o e nam.symm; rw [hm] at this; cases this
    refine ⟨_, rfl, ?_⟩
    refine while_by (fun σ H3 => ∃ (ls : List Int) (lf : Int) (v6 v7 : Option V), σ = [some (.ref a), some (.int n), some (.int way), some (.int (1 + lk)), some (.ref m), some (.int lf), v6, v7] ∧ H3 m = some (.lst (ls.map V.int)) ∧ (∀ x ∈ ls, 1 ≤ x) ∧ ls.sum + lf = n ∧ 0 ≤ lf ∧ PoolAt H3 a (c + 2 + ls.length) ∧ KeepBut a H H3) (fun σ _ => leftOf σ)
      ⟨[], n, none, none, rfl, upd_same, fun x hx => by simp at hx, by simp, n0, ⟨x2, y2, z2, by rw [upd_ne nam]; exact h2a, hz2, by simp only [List.length_nil]; omega⟩, kb02.upd_r hm0⟩ ?_ ?_
    · rintro σ H3 ⟨ls, lf, v6, v7, rfl, h3m, hge, hsum, lf0, ⟨x, y, z, h3a, hz0, hz1⟩, kb⟩
      have hll := len_le_sum hge
      refine ⟨_, rfl, _, _, rfl, rfl, _, rfl, ?_⟩
      refine ite2 (fun h => ?_) (fun h => ?_)
      · have h : 0 < lf := of_decide_eq_true h
        refine ⟨_, rfl, _, rfl, lf, 6, rfl, _, rfl, _, rfl, lf, 1 + lk, rfl, _, rfl, (by show 4 ≤ sizeLine; decide), fun e he => ?_⟩
        have nme : m ≠ e := ne_of_none h3m he
        have nae : a ≠ e := ne_of_none h3a he
        have key : ∃ mv, atI [V.int lf, V.int (if (6 : Int) < lf then 6 else lf), V.int (if 1 + lk < lf then 1 + lk else lf), V.int lf] way = some (.int mv) ∧ 1 ≤ mv ∧ mv ≤ lf := by
          have : way = 0 ∨ way = 1 ∨ way = 2 ∨ way = 3 := by omega
          rcases this with rfl | rfl | rfl | rfl
          · exact ⟨lf, atI_nat (j := 0) rfl, by omega, by omega⟩
          · exact ⟨_, atI_nat (j := 1) rfl, by split <;> omega, by split <;> omega⟩
          · exact ⟨_, atI_nat (j := 2) rfl, by split <;> omega, by split <;> omega⟩
          · exact ⟨lf, atI_nat (j := 3) rfl, by omega, by omega⟩
        obtain ⟨mv, hat, mv1, mv2⟩ := key
        refine ⟨_, rfl, e, _, way, _, rfl, rfl, SqL.of upd_same, hat, ?_⟩
        have h4m : (upd H3 e (.lst [V.int lf, V.int (if (6 : Int) < lf then 6 else lf), V.int (if 1 + lk < lf then 1 + lk else lf), V.int lf])) m = some (.lst (ls.map V.int)) := by rw [upd_ne nme]; exact h3m
        have h4a : (upd H3 e (.lst [V.int lf, V.int (if (6 : Int) < lf then 6 else lf), V.int (if 1 + lk < lf then 1 + lk else lf), V.int lf])) a = some (.lst [.int x, .int y, .int z]) := by rw [upd_ne nae]; exact h3a
        have kb4 : KeepBut a H (upd H3 e (.lst [V.int lf, V.int (if (6 : Int) < lf then 6 else lf), V.int (if 1 + lk < lf then 1 + lk else lf), V.int lf])) := fun b o hb hn => by
          have := kb b o hb hn
          rw [upd_ne (ne_of_none this he)]; exact this
        generalize upd H3 e (.lst [V.int lf, V.int (if (6 : Int) < lf then 6 else lf), V.int (if 1 + lk < lf then 1 + lk else lf), V.int lf]) = H4 at h4m h4a kb4 ⊢
        have done : ∀ (len : Int) (H5 : Hp), 1 ≤ len → len ≤ lf → H5 m = some (.lst (ls.map V.int)) → PoolAt H5 a (c + 2 + ls.length + 1) → KeepBut a H H5 →
            (∃ (ls' : List Int) (lf' : Int) (v6 v7 : Option V), [some (.ref a), some (.int n), some (.int way), some (.int (1 + lk)), some (.ref m), some (.int (lf - len)), some (.int mv), some (.int len)] = [some (.ref a), some (.int n), some (.int way), some (.int (1 + lk)), some (.ref m), some (.int lf'), v6, v7] ∧ (upd H5 m (.lst (ls.map V.int ++ [.int len]))) m = some (.lst (ls'.map V.int)) ∧ (∀ x ∈ ls', 1 ≤ x) ∧ ls'.sum + lf' = n ∧ 0 ≤ lf' ∧ PoolAt (upd H5 m (.lst (ls.map V.int ++ [.int len]))) a (c + 2 + ls'.length) ∧ KeepBut a H (upd H5 m (.lst (ls.map V.int ++ [.int len])))) := by
          intro len H5 g1 g2 h5m ⟨x5, y5, z5, h5a, h5z, h5z'⟩ kb5
          refine ⟨ls ++ [len], lf - len, _, _, rfl, by rw [upd_same, List.map_append]; rfl, fun x hx => ?_, by rw [sum_snoc]; omega, by omega, ⟨x5, y5, z5, by rw [upd_ne nam]; exact h5a, h5z, by rw [List.length_append]; simpa [Nat.add_assoc] using h5z'⟩, fun b o hb hn => by rw [upd_ne (ne_of_none hb hm0)]; exact kb5 b o hb hn⟩
          rcases List.mem_append.mp hx with g | g
          · exact hge x g
          · have : x = len := by simpa using g
            omega
        refine ⟨_, rfl, rfl, _, rfl, ?_⟩
        refine ite2 (fun hw => ?_) (fun hw => ?_)
        · refine ⟨_, rfl, _, rfl, .inl ⟨rfl, _, SqL.of h4m⟩, _, rfl, m, _, _, rfl, rfl, h4m, small1000 (by rw [List.length_map]; omega), ?_⟩
          refine ⟨_, rfl, _, rfl, _, _, rfl, rfl, done mv H4 mv1 mv2 h4m ⟨x, y, z, h4a, hz0, by omega⟩ kb4, ?_⟩
          show (lf - mv).toNat < lf.toNat
          omega
        · refine ⟨_, rfl, _, rfl, a, c + 2 + ls.length, mv, rfl, ⟨x, y, z, h4a, hz0, hz1⟩, by omega, by omega, by omega, fun r H5 r0 r1 p5 kb5 => ⟨_, _, rfl, rfl, ?_⟩⟩
          have h5m := kb5 m _ h4m nam.symm
          refine ⟨_, rfl, .inl ⟨rfl, _, SqL.of h5m⟩, _, rfl, m, _, _, rfl, rfl, h5m, small1000 (by rw [List.length_map]; omega), ?_⟩
          refine ⟨_, rfl, _, rfl, _, _, rfl, rfl, done (1 + r) H5 (by omega) (by omega) h5m p5 (kb4.trans kb5), ?_⟩
          show (lf - (1 + r)).toNat < lf.toNat
          omega
      · have h : ¬ 0 < lf := fun z => h (decide_eq_true z)
        have : lf = 0 := by omega
        refine ⟨_, rfl, q m ls H3 hm0 hge (by omega) h3m ⟨x, y, z, h3a, hz0, by omega⟩ kb⟩
    · rintro σ H3 Q Q' hq ⟨v, hv, i, j, e1, e2, k1, e3, e4⟩
      exact ⟨v, hv, i, j, e1, e2, k1, e3, hq _ _ e4⟩
def spByLen : Sp := fun vs H Q _ => ∃ (a t : Addr) (c : Nat) (ls : List Int), vs = [.ref a, .ref t] ∧ PoolAt H a c ∧ t ≠ a ∧ H t = some (.lst (ls.map V.int)) ∧ (∀ x ∈ ls, 1 ≤ x) ∧ ls.sum ≤ 100 ∧ c ≤ 900000 ∧
  ∀ (l : Addr) (ps : List Int) (H' : Hp), H l = none → ps.Perm (upTo 0 ls.sum.toNat) → H' l = some (.lst (ps.map V.int)) → PoolAt H' a (c + 110) → KeepBut a H H' → Q (.ref l) H'
theorem scByLen : FnScope ["pool", "lengths", "things", "found", "at", "length", "k"] ["pool", "lengths"] (defScope s_law_by_lengths) := ⟨rfl, rfl, rfl, by decide +kernel, rfl, by decide +kernel, by decide +kernel⟩
theorem ok_byLen {f : Addr} {fd : FuncData} (F : Fun K "_law_by_lengths" "_law_by_lengths" s_law_by_lengths f fd) (B : Bl mg) (cM : Cal P w K mg base "_law_mixed_up" 2 ["pool", "things"] (spMixed K)) : FnOk P w K mg base CX0 3 f fd ["pool", "lengths"] spByLen := by
  refine F.ok scByLen (fun vs H Q E h => ?_) (fun cdv A outer s H vs Q E hr h => ?_)
  · obtain ⟨a, t, c, ls, rfl, _⟩ := h
    rfl
  · obtain ⟨a, t, c, ls, rfl, hp, nta, ht, hge, hs, hc, q⟩ := h
    have hsum := (sum_take_le hge 0).2
    have hs0 : 0 ≤ ls.sum := by simpa using hsum
    refine ⟨_, pss_cons (ps_set (i := 2) scByLen.nd rfl (Or.inl rfl) (pe_cal cM hr (pa_cons (pv 0) (pa_cons (pe_listRng rfl B.list B.range (pa_cons (pe_sum rfl B.sum (pa_cons (pv 1) pa_nil)) pa_nil)) pa_nil))))
      (pss_cons (ps_set (i := 3) scByLen.nd rfl (Or.inl rfl) (pe_op op_rep (pe_lst (pa_cons pe_int pa_nil)) (pe_lenL B.len (pa_cons (pv 2) pa_nil))))
      (pss_cons (ps_set (i := 4) scByLen.nd rfl (Or.inl rfl) pe_int)
      (pss_cons (ps_for PassesOwn.never rfl (pi_list (pv 1)) (pg_name (i := 5) scByLen.nd rfl (Or.inl rfl))
        (pss_cons (ps_for PassesOwn.never rfl (pi_range1 rfl B.range (pa_cons (pv 5) pa_nil)) (pg_name (i := 6) scByLen.nd rfl (Or.inl rfl))
          (pss_one (ps_asg (pe_ix ix_list (pv 2) (pe_op op_add (pv 4) (pe_op op_mod (pe_op op_add (pv 6) pe_int) (pv 5))) (fun _ _ => rfl)) (pg_sub (pv 3) (pe_ix ix_list (pv 2) (pe_op op_add (pv 4) (pv 6)) (fun _ _ => rfl)) set_list))))
        (pss_one (ps_set (i := 4) scByLen.nd rfl (Or.inl rfl) (pe_op op_add (pv 4) (pv 5))))))
      (pss_one (ps_ret (pv 3)))))), ?_⟩
    refine ⟨_, rfl, _, rfl, t, ls, rfl, SqL.of ht, _, rfl, fun r hr' => ⟨r, 0, ls.sum, rfl, upd_same, ⟨by decide, by decide, by omega, by omega⟩, by omega, fun g hg => ?_⟩⟩
    obtain ⟨x1, y1, z1, h1a, hz1, hz1'⟩ := id hp
    have nar : a ≠ r := ne_of_none h1a hr'
    have hgr : g ≠ r := fun z => by rw [z, upd_same] at hg; cases hg
    have hg0 : H g = none := by rw [upd_ne hgr] at hg; exact hg
    have nag : a ≠ g := ne_of_none h1a hg0
    refine ⟨a, g, c, (upTo 0 (ls.sum - 0).toNat).map V.int, rfl, ⟨x1, y1, z1, by rw [upd_ne nag, upd_ne nar]; exact h1a, hz1, hz1'⟩, by rw [List.length_map, length_upTo]; omega, SqL.of upd_same, by rw [List.length_map, length_upTo]; omega, ?_⟩
    intro m ys H1 hm hperm h1m p1 kb1
    have e0 : (ls.sum - 0).toNat = ls.sum.toNat := by rw [Int.sub_zero]
    rw [e0] at hperm p1
    rw [List.length_map, length_upTo] at p1
    have hmg : m ≠ g := fun z => by rw [z, upd_same] at hm; cases hm
    have hmr : m ≠ r := fun z => by rw [z, upd_ne hgr.symm, upd_same] at hm; cases hm
    have hm0 : H m = none := by rw [upd_ne hmg, upd_ne hmr] at hm; exact hm
    obtain ⟨ts, rfl, hts⟩ := perm_ints hperm
    obtain ⟨hT, hTl⟩ := isT_of_perm hts
    have s0 : Same H (upd (upd H r (.rng 0 ls.sum)) g (.lst ((upTo 0 (ls.sum - 0).toNat).map V.int))) := (Same.upd_new hr').upd_r hg0
    have kb01 : KeepBut a H H1 := fun b o hb hn => kb1 b o (s0 b o hb) hn
    have nam : a ≠ m := ne_of_none h1a hm0
    refine ⟨(by show 1 ≤ sizeLine; decide), fun e he => ?_⟩
    have nme : m ≠ e := ne_of_none h1m he
    refine ⟨_, rfl, m, _, rfl, .inl (SqL.of (by rw [upd_ne nme]; exact h1m)), ?_⟩
    rw [List.length_map, hTl]
    refine ⟨e, _, _, rfl, rfl, upd_same, by omega, by omega, by show 1 * _ ≤ sizeLine; rw [sizeLine_eq]; omega, fun n hn => ?_⟩
    have hne : n ≠ e := fun z => by rw [z, upd_same] at hn; cases hn
    have hn1 : H1 n = none := by rw [upd_ne hne] at hn; exact hn
    have hnm : n ≠ m := fun z => by rw [z, h1m] at hn1; cases hn1
    obtain ⟨x2, y2, z2, h2a, hz2, hz2'⟩ := id p1
    have nan : a ≠ n := ne_of_none h2a hn1
    have nae : a ≠ e := ne_of_none h2a he
    have hn0 : H n = none := by
      cases ee : H n with
      | none => rfl
      | some o => have := kb01 n o ee nan.symm; rw [hn1] at this; cases this
    have he0 : H e = none := by
      cases ee : H e with
      | none => rfl
      | some o => have := kb01 e o ee nae.symm; rw [he] at this; cases this
    rw [show ((ls.sum.toNat : Nat) : Int).toNat = ls.sum.toNat by omega, rep_zero]
    have ht1 := kb01 t _ ht nta
    have nte : t ≠ e := ne_of_none ht1 he
    have ntn : t ≠ n := ne_of_none ht1 hn1
    refine ⟨_, rfl, t, rfl, ⟨ls.map V.int, ?ht2⟩, for_list (K := K) (a := t) (xs := ls.map V.int) (fun i σ H2 => ∃ (fs qs : List Int) (k : Nat) (v5 v6 : Option V), σ = [some (.ref a), some (.ref t), some (.ref m), some (.ref n), some (.int k), v5, v6] ∧ (k : Int) = (ls.take i).sum ∧ H2 n = some (.lst (fs.map V.int)) ∧ H2 m = some (.lst (ts.map V.int)) ∧ fs.length = ts.length ∧ qs.Perm (ts.take k) ∧ (ts.take k).map (at0 fs) = qs.map some ∧ PoolAt H2 a (c + ls.sum.toNat) ∧ KeepBut a H H2)
      ?h0 (fun i σ H2 _ ⟨_, _, _, _, _, _, _, _, _, _, _, _, _, h⟩ => SqL.of (h t _ ht nta)) ?_ ?_⟩
    case ht2 =>
      exact SqL.of (by rw [upd_ne ntn, upd_ne nte]; exact ht1)
    case h0 =>
      refine ⟨_, [], 0, none, none, rfl, by simp, upd_same, by rw [upd_ne hnm.symm, upd_ne nme]; exact h1m, by rw [List.length_replicate, hTl], List.Perm.refl _, rfl, ⟨x2, y2, z2, by rw [upd_ne nan, upd_ne nae]; exact h2a, hz2, hz2'⟩, (kb01.upd_r he0).upd_r hn0⟩
    · rintro i y σ H2 hi ⟨fs, qs, k, v5, v6, rfl, hk, h2n, h2m, hfl, hq, hmap, p2, kb2⟩
      obtain ⟨L, hL, rfl⟩ := getElem_int hi
      have hL1 := hge L (List.mem_of_getElem? hL)
      have hsL := (sum_take_le hge (i + 1)).2
      rw [take_succ_of hL, sum_snoc] at hsL
      have hkL : k + L.toNat ≤ ts.length := by omega
      have hLn : ((L.toNat : Nat) : Int) = L := by omega
      refine ⟨_, rfl, L, rfl, by omega, by omega, for_range (lo := 0) (n := L.toNat) (fun j σ H3 => ∃ (fs' : List Int) (v6' : Option V), σ = [some (.ref a), some (.ref t), some (.ref m), some (.ref n), some (.int k), some (.int L), v6'] ∧ H3 n = some (.lst (fs'.map V.int)) ∧ H3 m = some (.lst (ts.map V.int)) ∧ fs'.length = ts.length ∧ (ts.take k).map (at0 fs') = qs.map some ∧ (∀ u, u < j → at0 fs' (ts.getD (k + u) 0) = some (ts.getD (k + (u + 1) % L.toNat) 0)) ∧ PoolAt H3 a (c + ls.sum.toNat) ∧ KeepBut a H H3)
        ⟨fs, v6, rfl, h2n, h2m, hfl, hmap, fun u hu => by omega, p2, kb2⟩ ?_ ?_⟩
      · rintro j σ H3 hj ⟨fs', v6', rfl, h3n, h3m, hfl', hmap', hu', p3, kb3⟩
        have hjm : (j + 1) % L.toNat < L.toNat := Nat.mod_lt _ (by omega)
        have hi1 : k + j < ts.length := by omega
        have hi2 : k + (j + 1) % L.toNat < ts.length := by omega
        have ej : (k : Int) + ((0 : Int) + (j : Int) + 1) % L = ((k + (j + 1) % L.toNat : Nat) : Int) := by
          have e1 : (0 : Int) + (j : Int) + 1 = ((j + 1 : Nat) : Int) := by omega
          have e2 : ((j + 1 : Nat) : Int) % L = (((j + 1) % L.toNat : Nat) : Int) := by
            rw [Int.natCast_emod, hLn]
          rw [e1, e2]
          omega
        have hat1 : atI (ts.map V.int) ((k : Int) + ((0 : Int) + (j : Int) + 1) % L) = some (.int (ts.getD (k + (j + 1) % L.toNat) 0)) := by
          rw [ej]
          have := atI_map (p := ts) (i := ((k + (j + 1) % L.toNat : Nat) : Int)) (by omega) (by omega)
          rw [Int.toNat_natCast] at this
          exact this
        have hat2 : atI (ts.map V.int) ((k : Int) + ((0 : Int) + (j : Int))) = some (.int (ts.getD (k + j) 0)) := by
          have e : (k : Int) + ((0 : Int) + (j : Int)) = ((k + j : Nat) : Int) := by omega
          rw [e]
          have := atI_map (p := ts) (i := ((k + j : Nat) : Int)) (by omega) (by omega)
          rw [Int.toNat_natCast] at this
          exact this
        refine ⟨_, rfl, _, rfl, _, rfl, _, _, rfl, rfl, _, rfl, _, _, rfl, rfl, hL1, _, _, rfl, rfl, m, _, _, _, rfl, rfl, SqL.of h3m, hat1, ?_⟩
        refine ⟨_, rfl, _, rfl, _, rfl, _, rfl, _, _, rfl, rfl, m, _, _, _, rfl, rfl, SqL.of h3m, hat2, ?_⟩
        have htv : ts.getD (k + j) 0 ∈ ts := by rw [getD_eq hi1]; exact List.getElem_mem hi1
        have t0 := hT.lo _ htv
        have t1 := hT.hi _ htv
        refine ⟨n, _, _, (ts.getD (k + j) 0).toNat, rfl, rfl, h3n, ?_, ?_⟩
        · unfold ixN
          rw [List.length_map, if_pos t0, if_pos (by omega)]
        obtain ⟨x3, y3, z3, h3a, hz3, hz3'⟩ := id p3
        have es : (fs'.map V.int).set (ts.getD (k + j) 0).toNat (.int (ts.getD (k + (j + 1) % L.toNat) 0)) = (fs'.set (ts.getD (k + j) 0).toNat (ts.getD (k + (j + 1) % L.toNat) 0)).map V.int := by rw [List.map_set]
        rw [es]
        refine ⟨_, _, rfl, upd_same, by rw [upd_ne hnm.symm]; exact h3m, by rw [List.length_set]; exact hfl', ?_, ?_, ⟨x3, y3, z3, by rw [upd_ne nan]; exact h3a, hz3, hz3'⟩, fun b o hb hnn => by rw [upd_ne (ne_of_none hb hn0)]; exact kb3 b o hb hnn⟩
        · rw [← hmap']
          refine List.map_congr_left fun u hu => ?_
          have hut := List.mem_of_mem_take hu
          refine at0_ne (hT.lo u hut) t0 fun z => ?_
          obtain ⟨jj, hjj⟩ := List.mem_iff_getElem?.mp hu
          have hjk : jj < k := by
            have := (List.getElem?_eq_some_iff.mp hjj).1
            rw [List.length_take] at this
            omega
          rw [List.getElem?_take_of_lt hjk] at hjj
          have := (List.getElem?_eq_some_iff.mp hjj).2
          exact nodup_getD hT.nd (i := jj) (j := k + j) (by omega) hi1 (by omega) (by rw [getD_eq (show jj < ts.length by omega), this]; exact z)
        · intro u hu
          by_cases huj : u = j
          · subst huj
            exact at0_same (by omega)
          · have huj' : u < j := by omega
            rw [at0_ne (hT.lo _ (by rw [getD_eq (show k + u < ts.length by omega)]; exact List.getElem_mem _)) t0 (nodup_getD hT.nd (by omega) hi1 (by omega))]
            exact hu' u huj'
      · rintro σ H3 ⟨fs', v6', rfl, h3n, h3m, hfl', hmap', hu', p3, kb3⟩
        obtain ⟨qs', hq', hmap''⟩ := seg_done (by omega) hkL hmap' hq hu'
        refine ⟨_, rfl, _, rfl, _, _, rfl, rfl, fs', qs', k + L.toNat, some (.int L), v6', ?_, ?_, h3n, h3m, hfl', hq', hmap'', p3, kb3⟩
        · rw [show ((k + L.toNat : Nat) : Int) = (k : Int) + L by omega]; rfl
        · rw [take_succ_of hL, sum_snoc]; omega
    · rintro σ H2 ⟨fs, qs, k, v5, v6, rfl, hk, h2n, h2m, hfl, hq, hmap, ⟨x2', y2', z2', p2a, p2z, p2z'⟩, kb2⟩
      rw [List.length_map, List.take_length] at hk
      have hkl : k = ts.length := by omega
      rw [hkl, List.take_length] at hq hmap
      have := (perm_along hT hfl hmap).trans (hq.trans hts)
      exact ⟨_, rfl, q n fs H2 hn0 this h2n ⟨x2', y2', z2', p2a, p2z, by omega⟩ kb2⟩
def spTurn : Sp := fun vs H Q _ => ∃ (a : Addr) (c : Nat) (m : Int), vs = [.ref a, .int m] ∧ PoolAt H a c ∧ 0 ≤ m ∧ m ≤ 40 ∧ c ≤ 800000 ∧
  ∀ (l : Addr) (p : List Int) (H' : Hp), H l = none → IsT p → (p.length : Int) ≤ m → H' l = some (.lst (p.map V.int)) → PoolAt H' a (c + 300) → KeepBut a H H' → Q (.ref l) H'
theorem scTurn : FnScope ["pool", "most", "many"] ["pool", "most"] (defScope s_law_turn) := ⟨rfl, rfl, rfl, by decide +kernel, rfl, by decide +kernel, by decide +kernel⟩
theorem ok_turn {f : Addr} {fd : FuncData} (F : Fun K "_law_turn" "_law_turn" s_law_turn f fd) (B : Bl mg) (cT : Cal P w K mg base "_law_take" 1 ["pool", "many"] spTake) (cM : Cal P w K mg base "_law_mixed_up" 2 ["pool", "things"] (spMixed K))
    (cB : Cal P w K mg base "_law_by_lengths" 3 ["pool", "lengths"] spByLen) (cL : Cal P w K mg base "_law_lengths" 2 ["pool", "many"] spLengths) : FnOk P w K mg base CX0 4 f fd ["pool", "most"] spTurn := by
  refine F.ok scTurn (fun vs H Q E h => ?_) (fun cdv A outer s H vs Q E hr h => ?_)
  · obtain ⟨a, c, m, rfl, _⟩ := h
    rfl
  · obtain ⟨a, c, m, rfl, hp, m0, m1, hc, q⟩ := h
    have hr1 : Room 1 _ := hr.mono (by decide)
    have hr2 : Room 2 _ := hr.mono (by decide)
    refine ⟨_, pss_cons (ps_set (i := 2) scTurn.nd rfl (Or.inl rfl) (pe_ix ix_list (pe_lst (pa_cons (pe_cal cT hr1 (pa_cons (pv 0) (pa_cons (pe_op op_add (pe_min2 rfl B.min (pa_cons (pv 1) (pa_cons pe_int pa_nil))) pe_int) pa_nil))) (pa_cons (pe_cal cT hr1 (pa_cons (pv 0) (pa_cons (pe_op op_add (pv 1) pe_int) pa_nil))) (pa_cons (pv 1) pa_nil)))) (pe_cal cT hr1 (pa_cons (pv 0) (pa_cons pe_int pa_nil))) (fun _ _ => rfl)))
      (pss_cons (ps_if (pt_cmpR op_eq (pe_cal cT hr1 (pa_cons (pv 0) (pa_cons pe_int pa_nil))) pe_int (nomark _)) (pss_one (ps_ret (pe_cal cM hr2 (pa_cons (pv 0) (pa_cons (pe_listRng rfl B.list B.range (pa_cons (pv 2) pa_nil)) pa_nil))))) pss_nil)
      (pss_one (ps_ret (pe_cal cB hr (pa_cons (pv 0) (pa_cons (pe_cal cL hr2 (pa_cons (pv 0) (pa_cons (pv 2) pa_nil))) pa_nil)))))), ?_⟩
    refine ⟨_, rfl, _, rfl, m, 9, rfl, _, _, rfl, rfl, a, c, _, rfl, hp, by omega, by split <;> omega, by split <;> omega, fun r1 H1 r10 r11 p1 kb1 => ?_⟩
    refine ⟨_, rfl, _, rfl, _, _, rfl, rfl, a, c + 1, _, rfl, p1, by omega, by omega, by omega, fun r2 H2 r20 r21 p2 kb2 => ?_⟩
    refine ⟨_, rfl, (by show 3 ≤ sizeLine; decide), fun e he => ?_⟩
    obtain ⟨x2, y2, z2, h2a, hz2, hz2'⟩ := id p2
    have nae : a ≠ e := ne_of_none h2a he
    have kb02 : KeepBut a H H2 := kb1.trans kb2
    have he0 : H e = none := by
      cases ee : H e with
      | none => rfl
      | some o => have := kb02 e o ee nae.symm; rw [he] at this; cases this
    refine ⟨_, rfl, a, c + 2, 3, rfl, ⟨x2, y2, z2, by rw [upd_ne nae]; exact h2a, hz2, by omega⟩, by omega, by decide, by decide, fun r3 H3 r30 r31 p3 kb3 => ?_⟩
    have h3e := kb3 e _ upd_same nae.symm
    have kb03 : KeepBut a H H3 := (kb02.upd_r he0).trans kb3
    have key : ∃ mv, atI [V.int r1, V.int r2, V.int m] r3 = some (.int mv) ∧ 0 ≤ mv ∧ mv ≤ m := by
      have : r3 = 0 ∨ r3 = 1 ∨ r3 = 2 := by omega
      rcases this with rfl | rfl | rfl
      · exact ⟨r1, atI_nat (j := 0) rfl, r10, by revert r11; split <;> omega⟩
      · exact ⟨r2, atI_nat (j := 1) rfl, r20, by omega⟩
      · exact ⟨m, atI_nat (j := 2) rfl, m0, by omega⟩
    obtain ⟨mv, hat, mv0, mv1⟩ := key
    refine ⟨e, _, _, _, rfl, rfl, SqL.of h3e, hat, ?_⟩
    refine ⟨_, rfl, a, c + 3, 3, rfl, p3, by omega, by decide, by decide, fun r4 H4 r40 r41 p4 kb4 => ?_⟩
    have kb04 : KeepBut a H H4 := kb03.trans kb4
    refine ⟨rfl, _, rfl, ?_⟩
    refine ite2 (fun h => ?_) (fun h => ?_)
    · refine ⟨_, rfl, _, rfl, _, rfl, fun r hr' => ⟨r, 0, mv, rfl, upd_same, ⟨by decide, by decide, by omega, by omega⟩, by omega, fun g hg => ?_⟩⟩
      obtain ⟨x4, y4, z4, h4a, hz4, hz4'⟩ := id p4
      have nar : a ≠ r := ne_of_none h4a hr'
      have hgr : g ≠ r := fun z => by rw [z, upd_same] at hg; cases hg
      have hg0 : H4 g = none := by rw [upd_ne hgr] at hg; exact hg
      have nag : a ≠ g := ne_of_none h4a hg0
      refine ⟨a, g, c + 4, (upTo 0 (mv - 0).toNat).map V.int, rfl, ⟨x4, y4, z4, by rw [upd_ne nag, upd_ne nar]; exact h4a, hz4, by omega⟩, by rw [List.length_map, length_upTo]; omega, SqL.of upd_same, by rw [List.length_map, length_upTo]; omega, ?_⟩
      intro l ys H5 hl hperm h5l p5 kb5
      have e0 : (mv - 0).toNat = mv.toNat := by rw [Int.sub_zero]
      rw [e0] at hperm
      obtain ⟨ts, rfl, hts⟩ := perm_ints hperm
      obtain ⟨hT, hTl⟩ := isT_of_perm hts
      have hlg : l ≠ g := fun z => by rw [z, upd_same] at hl; cases hl
      have hlr : l ≠ r := fun z => by rw [z, upd_ne hgr.symm, upd_same] at hl; cases hl
      have hl4 : H4 l = none := by rw [upd_ne hlg, upd_ne hlr] at hl; exact hl
      have nal : l ≠ a := fun z => by rw [z, h4a] at hl4; cases hl4
      have hl0 : H l = none := by
        cases ee : H l with
        | none => rfl
        | some o => have := kb04 l o ee nal; rw [hl4] at this; cases this
      have s4 : Same H4 (upd (upd H4 r (.rng 0 mv)) g (.lst ((upTo 0 (mv - 0).toNat).map V.int))) := (Same.upd_new hr').upd_r hg0
      refine q l ts H5 hl0 hT (by omega) h5l (p5.mono (by rw [List.length_map, length_upTo]; omega)) fun b o hb hn => kb5 b o (s4 b o (kb04 b o hb hn)) hn
    · refine ⟨_, rfl, _, rfl, _, rfl, a, c + 4, mv, rfl, p4, mv0, by omega, by omega, ?_⟩
      intro g ls H5 hg hge hsum h5g p5 kb5
      have nag : g ≠ a := by
        obtain ⟨x4, y4, z4, h4a, hz4, hz4'⟩ := id p4
        exact fun z => by rw [z, h4a] at hg; cases hg
      refine ⟨a, g, c + 4 + 110, ls, rfl, p5, nag, h5g, hge, by omega, by omega, ?_⟩
      intro l ps H6 hl hperm h6l p6 kb6
      obtain ⟨hT, hTl⟩ := isT_of_perm hperm
      have kb05 := kb04.trans kb5
      have nal : l ≠ a := by
        obtain ⟨x5, y5, z5, h5a, _⟩ := id p5
        exact fun z => by rw [z, h5a] at hl; cases hl
      have hl0 : H l = none := by
        cases ee : H l with
        | none => rfl
        | some o => have := kb05 l o ee nal; rw [hl] at this; cases this
      exact q l ps H6 hl0 hT (by omega) h6l (p6.mono (by omega)) (kb05.trans kb6)
end
end My
namespace My
open PySem L2 Mth
section
variable {P : Program} {w : World} {K : PySem.W.Frag} {mg : Str → Option Value} {base : Heap} {q_TurnError q_NoTurn q_NoFit q_NoRounds q_NoNumber q_NoRoot q_TooMany q_NoKind q_NoText q_NoName q_NoRow : Addr}
def OddV (K : PySem.W.Frag) (H : Hp) (x : V) : Prop := ∃ t b1 b2, TyOf K H x t ∧ PySem.W.kitOne K t (.type "int") = some b1 ∧ PySem.W.kitOne K t (.type "bool") = some b2 ∧ (b1 && !b2) = false
def NoTurnV (K : PySem.W.Frag) (H : Hp) (v : V) : Prop := (∃ t, TyOf K H v t ∧ PySem.W.kitOne K t (.type "list") = some false) ∨
  ∃ (a : Addr) (xs : List V), v = .ref a ∧ H a = some (.lst xs) ∧ (∀ x ∈ xs, (∃ i : Int, x = .int i) ∨ OddV K H x) ∧ ∀ p : List Int, xs = p.map V.int → p.length ≤ 40 → ¬ IsT p
theorem tyOf_same {K : PySem.W.Frag} {H H' : Hp} {v : V} {t : Value} (h : TyOf K H v t) (s : Same H H') : TyOf K H' v t := by
  cases h with
  | non => exact .non
  | bl x => exact .bl x
  | int i => exact .int i
  | str x => exact .str x
  | flt x => exact .flt x
  | lst e => exact .lst (s _ _ e)
  | frz e => exact .frz (s _ _ e)
  | tup e => exact .tup (s _ _ e)
  | dK e => exact .dK (s _ _ e)
  | dT e => exact .dT (s _ _ e)
  | ins e a b c d f => exact .ins (s _ _ e) a b c d f
theorem OddV.keep {K : PySem.W.Frag} {H H' : Hp} {x : V} (h : OddV K H x) (s : Same H H') : OddV K H' x := by
  obtain ⟨t, b1, b2, ty, r⟩ := h
  exact ⟨t, b1, b2, tyOf_same ty s, r⟩
theorem NoTurnV.keep {K : PySem.W.Frag} {H H' : Hp} {v : V} (h : NoTurnV K H v) (s : Same H H') : NoTurnV K H' v := by
  rcases h with ⟨t, ty, r⟩ | ⟨a, xs, e, ha, el, no⟩
  · exact .inl ⟨t, tyOf_same ty s, r⟩
  · exact .inr ⟨a, xs, e, s _ _ ha, fun x hx => (el x hx).imp id fun z => z.keep s, no⟩
def spTurnX (K : PySem.W.Frag) : Sp := fun vs H Q _ => ∃ v, vs = [v] ∧ NoTurnV K H v ∧ ∀ H', Same H H' → Q (.bl false) H'
theorem sc_is_turn : FnScope ["thing", "seen", "place"] ["thing"] (defScope s_is_turn) := ⟨rfl, rfl, rfl, by decide +kernel, rfl, by decide +kernel, by decide +kernel⟩
theorem ok_is_turn {f : Addr} {fd : FuncData} (F : Fun K "is_turn" "is_turn" s_is_turn f fd) (B : Bl mg) (g_MOST_THINGS : ∃ t, mg "MOST_THINGS" = some (.int 40 t)) (c_is_whole : Cal P w K mg base "is_whole" 1 ["thing"] (spWhole K)) : FnOk P w K mg base CX0 2 f fd ["thing"] (spTurnX K) := by
  refine F.ok sc_is_turn (fun vs H Q E h => ?_) (fun cdv A outer s H vs Q E hr h => ?_)
  · obtain ⟨v, rfl, no, k⟩ := h
    rfl
  · obtain ⟨v, rfl, no, k⟩ := h
    obtain ⟨_, m_MOST_THINGS⟩ := g_MOST_THINGS
    have hr_is_whole : Room 1 _ := hr.mono (by decide)
    have hu := hu_of hr
    refine ⟨_, @pss_cons _ _ _ _ _ (@ps_if _ _ _ _ _ _ _ _ (@pw_or _ _ _ _ _ _ _ (@pt_not _ _ _ _ (@pt_val _ _ _ (@pe_isi _ _ _ _ _ _ B.isi (@pa_cons _ _ _ _ _ (pv 0) (@pa_cons _ _ _ _ _ (@pe_tyList _ _ B.list (by rfl)) (@pa_nil _) (by rfl)) (by rfl)) (by rfl) (by rfl) (by rfl)) (by intro _; rfl))) (@pw_or1 _ _ _ _ (@pt_cmpR _ _ _ _ _ _ _ _ op_gt (@pe_lenL _ _ _ _ _ B.len (@pa_cons _ _ _ _ _ (pv 0) (@pa_nil _) (by rfl)) (by rfl) (by rfl)) (@pe_glob _ _ (.int 40) _ _ (by rfl) m_MOST_THINGS ⟨_, rfl⟩ (by decide)) (nomark _)))).pt (@pss_one _ _ _ (@ps_ret _ _ _ _ (@pe_bl _ _ _ _))) (@pss_nil _)) (@pss_cons _ _ _ _ _ (@ps_set _ _ (1) _ _ _ _ sc_is_turn.nd rfl (Or.inl rfl) (@pe_dnewK _ _) (by rfl) (by first | exact .inl rfl | exact .inr rfl | assumption)) (@pss_cons _ _ _ _ _ (@ps_for _ _ _ _ _ _ _ _ PassesOwn.never rfl (@pi_list _ _ _ _ (pv 0)) (@pg_name _ _ (2) _ sc_is_turn.nd rfl (Or.inl rfl) (by first | exact .inl rfl | exact .inr rfl | assumption)) (@pss_cons _ _ _ _ _ (@ps_if _ _ _ _ _ _ _ _ (@pw_or _ _ _ _ _ _ _ (@pt_not _ _ _ _ (@pt_val _ _ _ (@pe_cal _ _ _ _ _ _ _ _ _ _ c_is_whole hr_is_whole (@pa_cons _ _ _ _ _ (pv 2) (@pa_nil _) (by rfl)) (by rfl) (by decide) (by rfl) (by rfl)) (by intro _; rfl))) (@pw_or _ _ _ _ _ _ _ (@pt_cmpR _ _ _ _ _ _ _ _ op_lt (pv 2) (@pe_int _ _ _ _) (nomark _)) (@pw_or _ _ _ _ _ _ _ (@pt_cmpR _ _ _ _ _ _ _ _ op_ge (pv 2) (@pe_lenL _ _ _ _ _ B.len (@pa_cons _ _ _ _ _ (pv 0) (@pa_nil _) (by rfl)) (by rfl) (by rfl)) (nomark _)) (@pw_or1 _ _ _ _ (@pt_cmp _ _ _ _ _ _ (@pc_din _ _ _ _ _ hu (pv 2) (pv 1)) (by first | exact nobehind _ (by decide) (by decide) | rfl)))))).pt (@pss_one _ _ _ (@ps_ret _ _ _ _ (@pe_bl _ _ _ _))) (@pss_nil _)) (@pss_one _ _ _ (@ps_dput _ _ _ _ _ _ _ _ _ hu (pv 1) (pv 2) (@pe_bl _ _ _ _) rfl))) (by intro _; rfl)) (@pss_one _ _ _ (@ps_ret _ _ _ _ (@pe_bl _ _ _ _))))), ?_⟩
    rcases no with ⟨t, ty, kt⟩ | ⟨a, xs, rfl, ha, el, no⟩
    · refine ⟨_, rfl, v, "list", t, false, rfl, ty, kt, false, rfl, ?_⟩
      exact iteT (k H (Same.refl H))
    · refine ⟨_, rfl, _, "list", _, true, rfl, .lst ha, kit_same K "list", true, rfl, ?_⟩
      refine iteF ⟨_, rfl, a, _, rfl, .inl (SqL.of ha), _, _, rfl, rfl, _, rfl, ?_⟩
      refine ite2 (fun h40 => k H (Same.refl H)) (fun h40 => ?_)
      have h40 : ¬ (40 : Int) < (xs.length : Int) := fun z => h40 (decide_eq_true z)
      intro d hd
      have nad : a ≠ d := ne_of_none ha hd
      have ha1 : (upd H d (.dK [])) a = some (.lst xs) := by rw [upd_ne nad]; exact ha
      refine ⟨_, rfl, a, rfl, ⟨_, SqL.of ha1⟩, for_list (K := K) (a := a) (xs := xs) (fun i σ H2 => ∃ (v : Option V) (p : List Int), σ = [some (.ref a), some (.ref d), v] ∧ Same H H2 ∧ xs.take i = p.map V.int ∧ H2 d = some (.dK (seenK p)) ∧ p.Nodup ∧ ∀ x ∈ p, 0 ≤ x ∧ x < xs.length)
        ⟨none, [], rfl, Same.upd_new hd, rfl, upd_same, List.nodup_nil, fun x hx => by simp at hx⟩ (fun i σ H2 _ ⟨_, _, _, s2, _⟩ => SqL.of (s2 a _ ha)) ?_ ?_⟩
      · rintro i y σ H2 hi ⟨v, p, rfl, s2, hp, h2, nd, bd⟩
        have ha2 := s2 a _ ha
        have hil : i < xs.length := (List.getElem?_eq_some_iff.mp hi).1
        rcases el y (List.mem_of_getElem? hi) with ⟨z, rfl⟩ | odd
        · refine ⟨_, rfl, .int z, _, true, false, rfl, .int z, kit_same K "int", kit_int_bool K, _, rfl, ?_⟩
          refine iteF ⟨_, rfl, _, _, rfl, rfl, _, rfl, ?_⟩
          refine ite2 (fun hz0 => iteT (k H2 s2)) (fun hz0 => ?_)
          have hz0 : ¬ z < 0 := fun q => hz0 (decide_eq_true q)
          refine ⟨_, rfl, _, rfl, a, _, rfl, .inl (SqL.of ha2), _, _, rfl, rfl, _, rfl, ?_⟩
          refine ite2 (fun hz1 => iteT (k H2 s2)) (fun hz1 => ?_)
          have hz1 : ¬ (xs.length : Int) ≤ z := fun q => hz1 (decide_eq_true q)
          refine ⟨_, rfl, _, rfl, d, _, rfl, DGet.k (k := Sum.inl z) h2, _, rfl, ?_⟩
          have lp : p.length ≤ i := by
            have := congrArg List.length hp
            rw [List.length_take, List.length_map] at this
            omega
          by_cases hm : z ∈ p
          · rw [seenK_in hm]
            exact iteT (k H2 s2)
          · rw [seenK_no hm]
            refine iteF ⟨_, rfl, _, rfl, d, _, rfl, DPut.k (k := Sum.inl z) h2 (small1000 (by unfold seenK; rw [List.length_map]; omega)), ?_⟩
            refine ⟨some (.int z), p ++ [z], rfl, fun b o e => by rw [upd_ne (ne_of_none e hd)]; exact s2 b o e, ?_, ?_, ?_, ?_⟩
            · rw [take_succ_of hi, hp, List.map_append]; rfl
            · rw [seenK_put hm, upd_same]
            · exact nd_snoc nd hm
            · intro x hx
              rcases List.mem_append.mp hx with q | q
              · exact bd x q
              · have : x = z := by simpa using q
                omega
        · obtain ⟨t, b1, b2, ty, e1, e2, e3⟩ := odd.keep s2
          refine ⟨_, rfl, y, t, b1, b2, rfl, ty, e1, e2, _, rfl, ?_⟩
          rw [e3]
          exact iteT (k H2 s2)
      · rintro σ H2 ⟨v, p, rfl, s2, hp, h2, nd, bd⟩
        rw [List.take_length] at hp
        have lp : xs.length = p.length := by rw [hp, List.length_map]
        exact absurd (show IsT p from ⟨nd, fun x hx => (bd x hx).1, fun x hx => by have := (bd x hx).2; omega⟩) (no p hp (by omega))
end
end My
namespace My
open PySem L2 Mth
section
variable {P : Program} {w : World} {K : PySem.W.Frag} {mg : Str → Option Value} {base : Heap} {q_TurnError q_NoTurn q_NoFit q_NoRounds q_NoNumber q_NoRoot q_TooMany q_NoKind q_NoText q_NoName q_NoRow : Addr}
inductive Cpb (H : Hp) : Nat → V → Prop
  | non {n : Nat} : Cpb H n .non
  | bl {n : Nat} (b : Bool) : Cpb H n (.bl b)
  | int {n : Nat} (i : Int) : Cpb H n (.int i)
  | str {n : Nat} (x : Str) : Cpb H n (.str x)
  | tup {n : Nat} {a : Addr} {xs : List V} (e : H a = some (.tup xs)) : Cpb H n (.ref a)
  | dic {n : Nat} {a : Addr} {kvs : List (Key × V)} (e : H a = some (.dK kvs)) : Cpb H n (.ref a)
  | lst {n : Nat} {a : Addr} {xs : List V} (e : H a = some (.lst xs)) (l : xs.length ≤ 1000) (h : ∀ x ∈ xs, Cpb H n x) : Cpb H (n + 1) (.ref a)
theorem Cpb.keep {H H' : Hp} (s : Same H H') {n : Nat} {v : V} (h : Cpb H n v) : Cpb H' n v := by
  induction h with
  | non => exact .non
  | bl b => exact .bl b
  | int i => exact .int i
  | str x => exact .str x
  | tup e => exact .tup (s _ _ e)
  | dic e => exact .dic (s _ _ e)
  | lst e l _ ih => exact .lst (s _ _ e) l ih
theorem Cpb.ints {H : Hp} {n : Nat} {a : Addr} {ns : List Int} (e : H a = some (.lst (ns.map V.int))) (l : ns.length ≤ 1000) : Cpb H (n + 1) (.ref a) :=
  .lst e (by rw [List.length_map]; exact l) fun x hx => by obtain ⟨i, _, rfl⟩ := List.mem_map.mp hx; exact .int i
inductive CpR (H : Hp) : Nat → V → V → Prop
  | same {n : Nat} {v : V} (h : Cpb H n v) : CpR H n v v
  | lst {n : Nat} {a b : Addr} {xs ys : List V} (e : H a = some (.lst xs)) (e' : H b = some (.lst ys)) (ne : a ≠ b) (len : xs.length = ys.length) (h : ∀ (j : Nat) x y, xs[j]? = some x → ys[j]? = some y → CpR H n x y) : CpR H (n + 1) (.ref a) (.ref b)
theorem CpR.keep {H H' : Hp} (s : Same H H') {n : Nat} {v u : V} (h : CpR H n v u) : CpR H' n v u := by
  induction h with
  | same h => exact .same (h.keep s)
  | lst e e' ne len _ ih => exact .lst (s _ _ e) (s _ _ e') ne len ih
theorem daA_of {H : Hp} : ∀ {xs ys : List V} {ds : List PyData}, DaA H xs ds → xs.length = ys.length → (∀ (j : Nat) x y d, xs[j]? = some x → ys[j]? = some y → Da H x d → Da H y d) → DaA H ys ds
  | [], [], _, .nil, _, _ => .nil
  | x :: xs, y :: ys, _, .cons h hs, l, f => .cons (f 0 x y _ rfl rfl h) (daA_of hs (by simpa using l) fun j a b d ea eb => f (j + 1) a b d ea eb)
theorem CpR.da {H : Hp} {n : Nat} {v u : V} (h : CpR H n v u) : ∀ {d : PyData}, Da H v d → Da H u d := by
  induction h with
  | same h => exact fun x => x
  | lst e e' ne len _ ih =>
    intro d hd
    cases hd with
    | lst e2 h2 =>
      rw [e] at e2
      cases e2
      exact .lst e' (daA_of h2 len fun j x y d ex ey hx => ih j x y ex ey hx)
    | tup e2 => rw [e] at e2; cases e2
    | dic e2 => rw [e] at e2; cases e2
theorem CpR.noT {H : Hp} {n : Nat} {v u : V} (h : CpR H n v u) (no : NoTurnV K H v) : NoTurnV K H u := by
  cases h with
  | same h => exact no
  | lst e e' ne len h =>
    rename_i m a b xs ys
    rcases no with ⟨t, ty, kt⟩ | ⟨a2, xs2, ea, e2, el, no⟩
    · have kl := kit_same K "list"
      cases ty with
      | lst e2 => rw [kl] at kt; cases kt
      | frz e2 => rw [e] at e2; cases e2
      | tup e2 => rw [e] at e2; cases e2
      | dK e2 => rw [e] at e2; cases e2
      | dT e2 => rw [e] at e2; cases e2
      | ins e2 _ _ _ _ _ => rw [e] at e2; cases e2
    · cases ea
      rw [e] at e2
      cases e2
      have at_ : ∀ (j : Nat) y, ys[j]? = some y → ∃ x, xs[j]? = some x ∧ CpR H m x y := fun j y ey => by
        have jl : j < xs.length := by rw [len]; exact (List.getElem?_eq_some_iff.mp ey).1
        exact ⟨_, List.getElem?_eq_getElem jl, h j _ y (List.getElem?_eq_getElem jl) ey⟩
      refine .inr ⟨b, ys, rfl, e', fun y hy => ?_, fun p ep lp => ?_⟩
      · obtain ⟨j, ej⟩ := List.getElem?_of_mem hy
        obtain ⟨x, ex, c⟩ := at_ j y ej
        cases c with
        | same c => exact el _ (List.mem_of_getElem? ex)
        | lst c1 c2 _ _ _ => exact .inr ⟨_, false, false, .lst c2, kit_list_int K, kit_list_bool K, rfl⟩
      · have : xs = ys := by
          refine List.ext_getElem? fun j => ?_
          cases ey : ys[j]? with
          | none =>
            rw [List.getElem?_eq_none_iff] at ey ⊢
            omega
          | some y =>
            obtain ⟨x, ex, c⟩ := at_ j y ey
            rw [ep, List.getElem?_map] at ey
            obtain ⟨i, _, rfl⟩ := Option.map_eq_some_iff.mp ey
            cases c with
            | same c => exact ex
        exact no p (this.trans ep) lp
def spCopy (n : Nat) : Sp := fun vs H Q _ => ∃ v, vs = [v] ∧ Cpb H n v ∧ ∀ u H', Same H H' → CpR H' n v u → Q u H'
theorem sc_law_copy : FnScope ["thing"] ["thing"] (defScope s_law_copy) := ⟨rfl, rfl, rfl, by decide +kernel, rfl, by decide +kernel, by decide +kernel⟩
theorem nd_one_law_copy : (["one"] : List Str).Nodup := by decide +kernel
theorem ok_law_copy {f : Addr} {fd : FuncData} (F : Fun K "_law_copy" "_law_copy" s_law_copy f fd) (B : Bl mg) : FnOk P w K mg base CX0 1 f fd ["thing"] (spCopy 0) := by
  refine F.ok sc_law_copy (fun vs H Q E h => ?_) (fun cdv A outer s H vs Q E hr h => ?_)
  · obtain ⟨v, rfl, c, q⟩ := h
    rfl
  · obtain ⟨v, rfl, c, q⟩ := h
    refine ⟨_, @pss_cons _ _ _ _ _ (@ps_if _ _ _ _ _ _ _ _ (@pt_val _ _ _ (@pe_isi _ _ _ _ _ _ B.isi (@pa_cons _ _ _ _ _ (pv 0) (@pa_cons _ _ _ _ _ (@pe_tyList _ _ B.list (by rfl)) (@pa_nil _) (by rfl)) (by rfl)) (by rfl) (by rfl) (by rfl)) (by intro _; rfl)) (@pss_one _ _ _ (@ps_ret _ _ _ _ (@pe_comp _ _ _ _ _ _ _ _ _ _ _ (["one"]) (1) ([]) rfl .of (@pi_list _ _ _ _ (pv 0)) (fun _ _ _ _ _ => @pg_name _ _ (0) _ nd_one_law_copy rfl (Or.inl rfl) (by first | exact .inl rfl | exact .inr rfl | assumption)) (fun _ _ _ _ _ => (@pifs_nil _)) (fun _ _ _ _ _ => (@pe_never _ _)) (by intro _; rfl)))) (@pss_nil _)) (@pss_one _ _ _ (@ps_ret _ _ _ _ (pv 0))), ?_⟩
    have fin := q v H (Same.refl H) (.same c)
    cases c with
    | non => exact ⟨_, rfl, _, "list", _, false, rfl, .non, kit_none_list K, false, rfl, iteF ⟨_, rfl, fin⟩⟩
    | bl b => exact ⟨_, rfl, _, "list", _, false, rfl, .bl b, kit_bool_list K, false, rfl, iteF ⟨_, rfl, fin⟩⟩
    | int i => exact ⟨_, rfl, _, "list", _, false, rfl, .int i, kit_int_list K, false, rfl, iteF ⟨_, rfl, fin⟩⟩
    | str x => exact ⟨_, rfl, _, "list", _, false, rfl, .str x, kit_str_list K, false, rfl, iteF ⟨_, rfl, fin⟩⟩
    | tup e => exact ⟨_, rfl, _, "list", _, false, rfl, .tup e, kit_tuple_list K, false, rfl, iteF ⟨_, rfl, fin⟩⟩
    | dic e => exact ⟨_, rfl, _, "list", _, false, rfl, .dK e, kit_dict_list K, false, rfl, iteF ⟨_, rfl, fin⟩⟩
theorem okr_law_copy {d k : Nat} {f : Addr} {fd : FuncData} (F : Fun K "_law_copy" "_law_copy" s_law_copy f fd) (B : Bl mg) (c_law_copy : Cal P w K mg base "_law_copy" (k + 1) ["thing"] (spCopy d)) : FnOk P w K mg base CX0 (k + 1 + 1) f fd ["thing"] (spCopy (d + 1)) := by
  refine F.ok sc_law_copy (fun vs H Q E h => ?_) (fun cdv A outer s H vs Q E hr h => ?_)
  · obtain ⟨v, rfl, c, q⟩ := h
    rfl
  · obtain ⟨v, rfl, c, q⟩ := h
    have hr_law_copy : Room (k + 1) _ := hr.mono (by omega)
    refine ⟨_, @pss_cons _ _ _ _ _ (@ps_if _ _ _ _ _ _ _ _ (@pt_val _ _ _ (@pe_isi _ _ _ _ _ _ B.isi (@pa_cons _ _ _ _ _ (pv 0) (@pa_cons _ _ _ _ _ (@pe_tyList _ _ B.list (by rfl)) (@pa_nil _) (by rfl)) (by rfl)) (by rfl) (by rfl) (by rfl)) (by intro _; rfl)) (@pss_one _ _ _ (@ps_ret _ _ _ _ (@pe_comp _ _ _ _ _ _ _ _ _ _ _ (["one"]) (1) ([]) rfl .of (@pi_list _ _ _ _ (pv 0)) (fun _ _ _ _ _ => @pg_name _ _ (0) _ nd_one_law_copy rfl (Or.inl rfl) (by first | exact .inl rfl | exact .inr rfl | assumption)) (fun _ _ _ _ _ => (@pifs_nil _)) (fun _ _ _ _ _ => (@pe_cal _ _ _ _ _ _ _ _ _ _ c_law_copy hr_law_copy (@pa_cons _ _ _ _ _ (pv 0) (@pa_nil _) (by rfl)) (by rfl) (by decide) (by rfl) (by rfl))) (by intro _; rfl)))) (@pss_nil _)) (@pss_one _ _ _ (@ps_ret _ _ _ _ (pv 0))), ?_⟩
    have fin := q v H (Same.refl H) (.same c)
    cases c with
    | non => exact ⟨_, rfl, _, "list", _, false, rfl, .non, kit_none_list K, false, rfl, iteF ⟨_, rfl, fin⟩⟩
    | bl b => exact ⟨_, rfl, _, "list", _, false, rfl, .bl b, kit_bool_list K, false, rfl, iteF ⟨_, rfl, fin⟩⟩
    | int i => exact ⟨_, rfl, _, "list", _, false, rfl, .int i, kit_int_list K, false, rfl, iteF ⟨_, rfl, fin⟩⟩
    | str x => exact ⟨_, rfl, _, "list", _, false, rfl, .str x, kit_str_list K, false, rfl, iteF ⟨_, rfl, fin⟩⟩
    | tup e => exact ⟨_, rfl, _, "list", _, false, rfl, .tup e, kit_tuple_list K, false, rfl, iteF ⟨_, rfl, fin⟩⟩
    | dic e => exact ⟨_, rfl, _, "list", _, false, rfl, .dK e, kit_dict_list K, false, rfl, iteF ⟨_, rfl, fin⟩⟩
    | lst e l h =>
      rename_i a xs
      refine ⟨_, rfl, _, "list", _, true, rfl, .lst e, kit_same K "list", true, rfl, iteT ?_⟩
      refine ⟨_, rfl, a, rfl, ⟨_, SqL.of e⟩, comp_list (K := K) (a := a) (xs := xs) (fun j ys σ H2 => ∃ v : Option V, σ = [v] ∧ Same H H2 ∧ ys.length = j ∧ ∀ (i : Nat) x y, xs[i]? = some x → ys[i]? = some y → CpR H2 d x y) ⟨none, rfl, Same.refl H, rfl, fun i x y _ ey => by simp at ey⟩ (fun j ys σ H2 _ ⟨_, _, s, _⟩ => SqL.of (s _ _ e)) ?_ ?_⟩
      · rintro j x ys σ H2 hj ⟨v, rfl, s2, ly, cp⟩
        have jl : j < xs.length := (List.getElem?_eq_some_iff.mp hj).1
        refine ⟨_, rfl, x, rfl, (h x (List.mem_of_getElem? hj)).keep s2, fun u H3 s3 c => ⟨small1000 (by omega), _, rfl, s2.trans s3, by rw [List.length_append, ly]; rfl, fun i x' y ex ey => ?_⟩⟩
        rcases Nat.lt_or_ge i ys.length with il | il
        · rw [List.getElem?_append_left il] at ey
          exact (cp i x' y ex ey).keep s3
        · have il2 : i < (ys ++ [u]).length := (List.getElem?_eq_some_iff.mp ey).1
          rw [List.length_append] at il2
          have ei : i = j := by simp at il2; omega
          subst ei
          rw [hj] at ex
          cases ex
          rw [List.getElem?_append_right il, ly, Nat.sub_self] at ey
          cases ey
          exact c
      · rintro ys σ H2 ⟨v, rfl, s2, ly, cp⟩ D hD
        have e2 := s2 _ _ e
        have s3 : Same H2 (upd H2 D (.lst ys)) := Same.upd_new hD
        exact q (.ref D) _ (s2.trans s3) (.lst (s3 _ _ e2) upd_same (ne_of_none e2 hD) (by omega) fun i x y ex ey => (cp i x y ex ey).keep s3)
end
end My
namespace My
open PySem L2 Mth
section
variable {P : Program} {w : World} {K : PySem.W.Frag} {mg : Str → Option Value} {base : Heap} {q_TurnError q_NoTurn q_NoFit q_NoRounds q_NoNumber q_NoRoot q_TooMany q_NoKind q_NoText q_NoName q_NoRow : Addr}
def hole (H : Hp) (g l : Addr) : Hp := fun a => if a = g ∨ a = l then none else H a
theorem hole_of {H : Hp} {g l a : Addr} {o : HO} (h : H a = some o) (ng : a ≠ g) (nl : a ≠ l) : hole H g l a = some o := by
  unfold hole
  rw [if_neg (fun z => z.elim ng nl)]; exact h
theorem hole_some {H : Hp} {g l a : Addr} {o : HO} (h : hole H g l a = some o) : H a = some o ∧ a ≠ g ∧ a ≠ l := by
  unfold hole at h
  by_cases z : a = g ∨ a = l
  · rw [if_pos z] at h; cases h
  · rw [if_neg z] at h; exact ⟨h, fun e => z (.inl e), fun e => z (.inr e)⟩
theorem hole_kb {H H' : Hp} {g l : Addr} (k : KeepBut g H H') : Same (hole H g l) (hole H' g l) := fun a o h => let ⟨e, ng, nl⟩ := hole_some h; hole_of (k a o e ng) ng nl
theorem hole_same (H : Hp) (g l : Addr) : Same (hole H g l) H := fun a o h => (hole_some h).1
theorem log_ltk {k : Nat} (hk : 200 ≤ k) {i : Int} (h1 : -10000000000000000000000000000000000000000 ≤ i) (h2 : i ≤ 10000000000000000000000000000000000000000) : i.natAbs.log2 < k := by
  by_cases z : i.natAbs = 0
  · rw [z, Nat.log2_zero]; omega
  · refine (Nat.log2_lt z).mpr (Nat.lt_of_lt_of_le (m := 2 ^ 200) ?_ (Nat.pow_le_pow_right (by decide) hk))
    have e : (2 : Nat) ^ 200 = 1606938044258990275541962092341162602522202993782792835301376 := by decide
    rw [e]; omega
def Mod40 (i : Int) : Prop := -10000000000000000000000000000000000000000 ≤ i ∧ i ≤ 10000000000000000000000000000000000000000
def IE (M : Hp) (x : V) : Prop := ∃ d, Da M x d ∧ d.showable = true ∧ d.shown.length ≤ 2000 ∧ d.depth ≤ 3
theorem IE.keep {M M' : Hp} {x : V} (h : IE M x) (s : Same M M') : IE M' x := let ⟨d, a, r⟩ := h; ⟨d, a.keep s, r⟩
theorem ie_int {M : Hp} {i : Int} (h : Mod40 i) : IE M (.int i) := by
  have lg : i.natAbs.log2 < 1920 := log_ltk (by decide) h.1 h.2
  refine ⟨_, .int i, by rw [PyData.showable]; exact decide_eq_true lg, ?_, by rw [PyData.depth]; decide⟩
  rw [PyData.shown]
  have : (Str.ofString (toString i)).length ≤ 1921 := by
    rw [ofString_length]; exact int_text_length_le (k := 1920) (by decide) lg
  exact Nat.le_trans this (by decide)
theorem ie_bl {M : Hp} (b : Bool) : IE M (.bl b) := ⟨_, .bl b, by rw [PyData.showable], by rw [PyData.shown]; cases b <;> decide, by rw [PyData.depth]; decide⟩
theorem ie_non {M : Hp} : IE M .non := ⟨_, .non, by rw [PyData.showable], by rw [PyData.shown]; decide, by rw [PyData.depth]; decide⟩
theorem ie_str {M : Hp} {x : Str} (h : (reprText x).length ≤ 2000) : IE M (.str x) := ⟨_, .str x, by rw [PyData.showable], by rw [PyData.shown]; exact h, by rw [PyData.depth]; decide⟩
theorem ie_dic {M : Hp} {a : Addr} (e : M a = some (.dK [])) : IE M (.ref a) := ⟨_, .dic e, by decide +kernel, by decide +kernel, by decide +kernel⟩
theorem ie_all {M : Hp} : ∀ {xs : List V}, (∀ x ∈ xs, IE M x) → ∃ ds, DaA M xs ds ∧ PyData.showableAll ds = true ∧ (∀ t ∈ PyData.shownAll ds, t.length ≤ 2000) ∧ (PyData.shownAll ds).length = xs.length ∧ PyData.depthAll ds ≤ 3
  | [], _ => ⟨[], .nil, by rw [PyData.showableAll], (fun t h => by rw [PyData.shownAll] at h; cases h), by rw [PyData.shownAll]; rfl, by rw [PyData.depthAll]; decide⟩
  | x :: xs, h => by
    obtain ⟨ds, h1, h2, h3, h4, h5⟩ := ie_all fun y hy => h y (List.mem_cons_of_mem _ hy)
    obtain ⟨d, g1, g2, g3, g4⟩ := h x List.mem_cons_self
    refine ⟨d :: ds, .cons g1 h1, by rw [PyData.showableAll, g2, h2]; rfl, fun t ht => ?_, by rw [PyData.shownAll, List.length_cons, List.length_cons, h4], by rw [PyData.depthAll]; omega⟩
    rw [PyData.shownAll] at ht
    rcases List.mem_cons.mp ht with z | z
    · rw [z]; exact g3
    · exact h3 t z
def Shows (M : Hp) (v : V) : Prop := ∃ d, Da M v d ∧ d.showable = true ∧ d.shown.length ≤ 700000 ∧ d.depth ≤ 4
theorem Shows.keep {M M' : Hp} {x : V} (h : Shows M x) (s : Same M M') : Shows M' x := let ⟨d, a, r⟩ := h; ⟨d, a.keep s, r⟩
theorem Shows.of {M : Hp} {x : V} (h : IE M x) : Shows M x := let ⟨d, a, b, c, e⟩ := h; ⟨d, a, b, by omega, by omega⟩
theorem shows_list {M : Hp} {a : Addr} {xs : List V} (h : M a = some (.lst xs)) (hx : ∀ x ∈ xs, IE M x) (l : xs.length ≤ 300) : Shows M (.ref a) := by
  obtain ⟨ds, h1, h2, h3, h4, h5⟩ := ie_all hx
  refine ⟨.list ds, .lst h h1, by rw [PyData.showable]; exact h2, ?_, by rw [PyData.depth]; omega⟩
  rw [PyData.shown]
  refine Nat.le_trans (listText_le h3) ?_
  rw [h4]
  have := Nat.mul_le_mul_right (2000 + 2) l
  omega
theorem noT_ints {H : Hp} {a : Addr} {ns : List Int} (h : H a = some (.lst (ns.map V.int))) (no : ns.length ≤ 40 → ¬ IsT ns) : NoTurnV K H (.ref a) :=
  .inr ⟨a, _, rfl, h, fun x hx => by obtain ⟨i, _, rfl⟩ := List.mem_map.mp hx; exact .inl ⟨i, rfl⟩, fun p e l => by rw [map_int_inj e] at no; exact no l⟩
theorem noT_odd {H : Hp} {a : Addr} {xs : List V} {y : V} (h : H a = some (.lst xs)) (el : ∀ x ∈ xs, (∃ i : Int, x = .int i) ∨ OddV K H x) (hy : y ∈ xs) (ny : ∀ i : Int, y = .int i → i < 0 ∨ (xs.length : Int) ≤ i) : NoTurnV K H (.ref a) :=
  .inr ⟨a, xs, rfl, h, el, fun p e l t => by
    rw [e] at hy ny
    obtain ⟨i, hi, rfl⟩ := List.mem_map.mp hy
    have h1 := t.lo i hi
    have h2 := t.hi i hi
    rcases ny i rfl with z | z
    · omega
    · rw [List.length_map] at z; omega⟩
theorem odd_bl {H : Hp} (b : Bool) : OddV K H (.bl b) := ⟨_, true, true, .bl b, kit_bool_int K, kit_same K "bool", rfl⟩
theorem odd_non {H : Hp} : OddV K H .non := ⟨_, false, false, .non, kit_none_int K, kit_none_bool K, rfl⟩
theorem odd_str {H : Hp} (x : Str) : OddV K H (.str x) := ⟨_, false, false, .str x, kit_str_int K, kit_str_bool K, rfl⟩
theorem odd_lst {H : Hp} {a : Addr} {xs : List V} (h : H a = some (.lst xs)) : OddV K H (.ref a) := ⟨_, false, false, .lst h, kit_list_int K, kit_list_bool K, rfl⟩
end
end My
namespace PySem
namespace F
theorem en_getattr_none : typeLookup (.type "enumerate") "__getattr__" = pure none := by rw [typeLookup_type, builtinLookup_eq_fast]; kernel_rfl
theorem en_keys_none : typeLookup (.type "enumerate") "keys" = pure none := by rw [typeLookup_type, builtinLookup_eq_fast]; kernel_rfl
theorem en_entry_getattribute : entryFor table "enumerate.__getattribute__" = some Builtin.«object.__getattribute__» :=
  entryFor_alias (id' := "object.__getattribute__") (by kernel_rfl) (by decide +kernel) (by decide +kernel) (by kernel_rfl)
theorem en_entry_loop : entryFor table "dict.update.loop" = some Builtin.«dict.update.loop» := entryFor_of_tree (by kernel_rfl)
theorem en_plain_loop : plainId "dict.update.loop" = true := by decide +kernel
end F
theorem en_meets_miss (a : Addr) (fs : Array Value) (u : Tok) :
    Meets (Builtin.«object.__getattribute__» ⟨[.ref a, .str "keys" u], []⟩) (fun A R s => s.heap.get? a = some { cls := .type "enumerate", dict := none, data := .fields fs, slots := #[] } ∧ raisesAttr (.ref a) "keys" A R s) :=
  Meets.of_wp fun prog w A R s hs => by
    obtain ⟨hp, g, d, tk, os⟩ := s
    obtain ⟨hx, hs⟩ := hs
    have hT : (⟨hp, g, d, tk, os⟩ : Shared).TypeIs (.ref a) "enumerate" := ⟨_, hx, rfl⟩
    have f1 := F.en_keys_none
    unfold Builtin.«object.__getattribute__»
    repeat (any_goals (first | assumption | wp_step))
    exact wpAny_raiseAttrError hs.1 hs.2 (attrMsg_fits (by decide +kernel) (by decide +kernel))
section
variable {prog : Program} {w : World} {A : Around} {E : Value → Shared → Prop} {s : Shared}
theorem en_getAttr {a : Addr} {fs : Array Value} {Q : Option Value → Shared → Prop} (hx : s.heap.get? a = some { cls := .type "enumerate", dict := none, data := .fields fs, slots := #[] }) (hA : A.handled = none)
    (h : ∀ h' tk, (∀ b ob, s.heap.get? b = some ob → h'.get? b = some ob) → Q none { s with heap := h', toks := tk }) :
    wpAny (model prog w) A (getAttr? (.ref a) "keys") Q E s := by
  obtain ⟨hp, g, d, tk, os⟩ := s
  have hT : ∀ tk', (⟨hp, g, d, tk', os⟩ : Shared).TypeIs (.ref a) "enumerate" := fun _ => ⟨_, hx, rfl⟩
  have f1 := sub_AttributeError
  have f3 := F.slot_enumerate_getattribute.lookup
  have f4 := F.slot_enumerate_getattribute.bind (.ref a)
  have f5 := F.en_getattr_none
  unfold getAttr? getAttrBy? getAttrBy
  repeat (any_goals (first | assumption | exact hT _ | ((with_reducible show wpAny _ _ (call (Value.builtin "enumerate.__getattribute__") _ _) _ _ _); refine call_meets F.slot_enumerate_getattribute (hT _) F.en_entry_getattribute (F.args_enumerate_getattribute_2 _ _) (en_meets_miss a fs _) ⟨hx, hA, fun h' tk' e hx' => ?_⟩) | wp_step))
  obtain ⟨t', u', he⟩ := hx'.there
  show wpAny _ _ (getattributeRaised _ _ _ _ _ _ _) _ _ _
  unfold getattributeRaised
  repeat (any_goals (first | assumption | wp_step))
  exact h _ _ hx'.keeps
abbrev EnBusy (h : Heap) (e it : Addr) (i : Int) (old : Value) (a : Addr) (f : Bool) : Prop :=
  h.get? e = some { cls := .type "enumerate", dict := none, data := .fields #[rawInt a, .bool f, .ref it, rawInt i, .none, old], slots := #[] }
theorem en_alive {a : Addr} {o : Obj} {Q : Option Obj → Shared → Prop} (ho : s.heap.get? a = some o) (h : Q (some o) s) : wpAny (model prog w) A (loadIfAlive a) Q E s := by
  have h' : Q (s.heap.get? a) s := by rw [ho]; exact h
  exact fun _ _ _ => h'
theorem en_next_busy {e it l a : Addr} {f : Bool} {oa : Obj} {i : Nat} {items : Array Value} {x old : Value} {Q : Value → Shared → Prop}
    (he : EnBusy s.heap e it i old a f) (ha : s.heap.get? a = some oa) (hae : a ≠ e) (hai : a ≠ it) (hit : s.heap.IsListIter it l i) (hl : s.heap.IsList l items) (hx : items[i]? = some x) (hne : e ≠ it)
    (hQ : ∀ h', EnBusy h' e it ((i : Int) + 1) old a true → h'.IsListIter it l (i + 1) →
      h'.get? s.heap.objs.size = some { cls := .type "tuple", data := .seq #[.int i s.toks, x] } → h'.objs.size = s.heap.objs.size + 1 →
      (∀ b o, b ≠ e → b ≠ it → s.heap.get? b = some o → h'.get? b = some o) → Q (.ref s.heap.objs.size) { s with heap := h', toks := s.toks + 1 }) :
    wpAny (model prog w) A (Builtin.«enumerate.__next__» ⟨[.ref e], []⟩) (fun fin s' => ∃ v, fin = .done (.ret v) ∧ Q v s') E s := by
  obtain ⟨hp, g, d, tk, os⟩ := s
  show wpAny _ _ (field (.ref e) 2 >>= _) _ _ _
  refine wpAny_bind (wpAny_field he rfl (x := .ref it) rfl ?_)
  refine wpAny_bind (wpAny_nextOf_list_item hit hl hx fun h₁ hit₁ hs₁ => ?_)
  replace hs₁ : Heap.SameBut it hp h₁ := hs₁
  have he₁ : EnBusy h₁ e it i old a f := (hs₁.2 e hne).trans he
  show wpAny _ _ (field (.ref e) 3 >>= _) _ _ ⟨h₁, g, d, tk, os⟩
  refine wpAny_bind (wpAny_field he₁ rfl (x := rawInt i) rfl ?_)
  show wpAny _ _ (field (.ref e) 4 >>= _) _ _ ⟨h₁, g, d, tk, os⟩
  refine wpAny_bind (wpAny_field he₁ rfl (x := .none) rfl ?_)
  show wpAny _ _ (mkInt i >>= _) _ _ ⟨h₁, g, d, tk, os⟩
  refine wpAny_bind (wpAny_mkInt ?_)
  show wpAny _ _ (setField (.ref e) 3 (rawInt ((i : Int) + 1)) >>= _) _ _ ⟨h₁, g, d, tk + 1, os⟩
  refine wpAny_bind (wpAny_setField_rec he₁ (by simp) fun h₂ he₂ hs₂ => ?_)
  replace hs₂ : Heap.SameBut e h₁ h₂ := hs₂
  replace he₂ : EnBusy h₂ e it ((i : Int) + 1) old a f := he₂
  show wpAny _ _ (setField (.ref e) 4 .none >>= _) _ _ ⟨h₂, g, d, tk + 1, os⟩
  refine wpAny_bind (wpAny_setField_rec he₂ (by simp) fun h₃ he₃ hs₃ => ?_)
  replace hs₃ : Heap.SameBut e h₂ h₃ := hs₃
  replace he₃ : EnBusy h₃ e it ((i : Int) + 1) old a f := he₃
  show wpAny _ _ (newTuple [.int i tk, x] >>= _) _ _ ⟨h₃, g, d, tk + 1, os⟩
  refine wpAny_bind (wpAny_newTuple ?_)
  have he₄ : EnBusy (h₃.push { cls := .type "tuple", data := .seq #[.int i tk, x] }) e it ((i : Int) + 1) old a f := Heap.get?_push_of_some _ he₃
  generalize hh₄ : h₃.push { cls := .type "tuple", data := .seq #[.int i tk, x] } = h₄ at he₄
  have hsz : h₃.objs.size = hp.objs.size := by rw [hs₃.1, hs₂.1, hs₁.1]
  have hel : e < hp.objs.size := Heap.lt_size he
  have ht₄ : h₄.get? hp.objs.size = some { cls := .type "tuple", data := .seq #[.int i tk, x] } := by rw [← hh₄, ← hsz]; exact Heap.get?_push_size _ rfl
  have hz₄ : h₄.objs.size = hp.objs.size + 1 := by rw [← hh₄, Heap.size_push, hsz]
  have hk₄ : ∀ b o, b ≠ e → b ≠ it → hp.get? b = some o → h₄.get? b = some o := fun b o hbe hbi hb => by
    rw [← hh₄]; exact Heap.get?_push_of_some _ (hs₃.extBut b o hbe (hs₂.extBut b o hbe (hs₁.extBut b o hbi hb)))
  have hit₄ : h₄.IsListIter it l (i + 1) := by
    rw [← hh₄]; obtain ⟨o, ho, r⟩ := (hit₁.extBut hs₂.extBut (Ne.symm hne)).extBut hs₃.extBut (Ne.symm hne); exact ⟨o, Heap.get?_push_of_some _ ho, r⟩
  have ha₄ : h₄.get? a = some oa := hk₄ a oa hae hai ha
  show wpAny _ _ (Builtin.SmallTypes.ownedTupleIsFree (.ref e) >>= _) _ _ ⟨h₄, g, d, tk + 1, os⟩
  rw [hsz]
  clear hh₄ he₃ hs₃ he₂ hs₂ he₁ hs₁ hit₁ hsz h₃ h₂ h₁
  refine wpAny_bind ?_
  unfold Builtin.SmallTypes.ownedTupleIsFree
  refine wpAny_bind (wpAny_field he₄ rfl (x := rawInt a) rfl ?_)
  show wpAny _ _ (loadIfAlive a >>= _) _ _ _
  refine wpAny_bind (en_alive ha₄ ?_)
  show wpAny _ _ (field (.ref e) 1 >>= _) _ _ _
  refine wpAny_bind (wpAny_field he₄ rfl (x := .bool f) rfl ?_)
  cases f with
  | true =>
    refine wpAny_pure ?_
    refine wpAny_pure ⟨_, rfl, hQ h₄ he₄ hit₄ ht₄ hz₄ hk₄⟩
  | false =>
    show wpAny _ _ (setField (.ref e) 1 (.bool true) >>= _) _ _ _
    refine wpAny_bind (wpAny_setField_rec he₄ (by simp) fun h₅ he₅ hs₅ => ?_)
    replace hs₅ : Heap.SameBut e h₄ h₅ := hs₅
    replace he₅ : EnBusy h₅ e it ((i : Int) + 1) old a true := he₅
    refine wpAny_pure ?_
    refine wpAny_pure ⟨_, rfl, hQ h₅ he₅ (hit₄.extBut hs₅.extBut (Ne.symm hne)) (hs₅.extBut _ _ (Nat.ne_of_gt hel) ht₄) (by rw [hs₅.1, hz₄]) fun b o hbe hbi hb => hs₅.extBut b o hbe (hk₄ b o hbe hbi hb)⟩
end
end PySem
namespace L2
open PySem PySem.Spec PyProof.Rows
section
variable {prog : Program} {w : World} {A : Around} {E : Value → Shared → Prop} {s : Shared}
def EnSt (h : Heap) (e it D : Addr) (i : Nat) : Prop :=
  (∃ old, IsEnum h e it i old) ∨ ∃ old a f oa, EnBusy h e it i old a f ∧ h.get? a = some oa ∧ a ≠ e ∧ a ≠ it ∧ a ≠ D
theorem EnSt.ty {h : Heap} {e it D : Addr} {i : Nat} (x : EnSt h e it D i) : ∃ fs, h.get? e = some { cls := .type "enumerate", dict := none, data := .fields fs, slots := #[] } := by
  rcases x with ⟨old, h⟩ | ⟨old, a, f, oa, h, _⟩
  · exact ⟨_, h⟩
  · exact ⟨_, h⟩
theorem EnSt.keep {h h' : Heap} {e it D : Addr} {i : Nat} (x : EnSt h e it D i) (hD : D ≠ e) (k : ∀ b o, b ≠ D → h.get? b = some o → h'.get? b = some o) : EnSt h' e it D i := by
  rcases x with ⟨old, h⟩ | ⟨old, a, f, oa, h, ha, h1, h2, h3⟩
  · exact .inl ⟨old, k _ _ hD.symm h⟩
  · exact .inr ⟨old, a, f, oa, k _ _ hD.symm h, k _ _ h3 ha, h1, h2, h3⟩
theorem en_next {e it l D : Addr} {i : Nat} {items : Array Value} {x : Value} {Q : Option Value → Shared → Prop}
    (st : EnSt s.heap e it D i) (hit : s.heap.IsListIter it l i) (hl : s.heap.IsList l items) (hx : items[i]? = some x) (hne : e ≠ it) (hD : D < s.heap.objs.size)
    (hQ : ∀ h', EnSt h' e it D (i + 1) → h'.IsListIter it l (i + 1) →
      h'.get? s.heap.objs.size = some { cls := .type "tuple", data := .seq #[.int i s.toks, x] } →
      (∀ b o, b ≠ e → b ≠ it → s.heap.get? b = some o → h'.get? b = some o) → Q (some (.ref s.heap.objs.size)) { s with heap := h', toks := s.toks + 1 }) :
    wpAny (model prog w) A (pyNext (.ref e)) Q E s := by
  have ei : (((i + 1 : Nat)) : Int) = (i : Int) + 1 := by push_cast; rfl
  have hil : it < s.heap.objs.size := by obtain ⟨_, x, _⟩ := hit; exact Heap.lt_size x
  have hel : e < s.heap.objs.size := by obtain ⟨_, y⟩ := st.ty; exact Heap.lt_size y
  rcases st with ⟨old, he⟩ | ⟨old, a, f, oa, he, ha, h1, h2, h3⟩
  · exact wpAny_pyNext_enum_item he hit hl hx hne fun h' ho hit' ht hz hk => hQ h' (.inr ⟨x, s.heap.objs.size, false, _, by rw [ei]; exact ho, ht, Nat.ne_of_gt hel, Nat.ne_of_gt hil, Nat.ne_of_gt hD⟩) hit' ht hk
  · have hT : s.TypeIs (.ref e) "enumerate" := ⟨_, he, rfl⟩
    unfold pyNext
    exact wpAny_bind (wpAny_attempt (wpAny_callSpecial?_slot (name := Str.ofString "__next__") hT PySem.F.slot_enumerate_next
      (wpAny_call_entry PySem.F.slot_enumerate_next hT PySem.F.entry_enumerate_next
        (en_next_busy he ha h1 h2 hit hl hx hne fun h' ho hit' ht hz hk => wpAny_pure (hQ h' (.inr ⟨old, a, true, oa, by rw [ei]; exact ho, hk a oa h1 h2 ha, h1, h2, h3⟩) hit' ht hk)) (PySem.F.args_enumerate_next_1 _))))
theorem en_end {e it l D : Addr} {i : Nat} {items : Array Value} {Q : Option Value → Shared → Prop} (hh : A.handled = none)
    (st : EnSt s.heap e it D i) (hit : s.heap.IsListIter it l i) (hl : s.heap.IsList l items) (hx : items[i]? = none)
    (hQ : ∀ h', Heap.ExtBut it s.heap h' → Q none { s with heap := h' }) : wpAny (model prog w) A (pyNext (.ref e)) Q E s := by
  rcases st with ⟨old, he⟩ | ⟨old, a, f, oa, he, ha, h1, h2, h3⟩
  · exact wpAny_pyNext_enum_end hh he hit hl hx hQ
  · have hT : s.TypeIs (.ref e) "enumerate" := ⟨_, he, rfl⟩
    unfold pyNext
    refine wpAny_bind (wpAny_attempt (wpAny_callSpecial?_slot (name := Str.ofString "__next__") hT PySem.F.slot_enumerate_next
      (wpAny_call_entry PySem.F.slot_enumerate_next hT PySem.F.entry_enumerate_next ?_ (PySem.F.args_enumerate_next_1 _))))
    show wpAny _ _ (field (.ref e) 2 >>= _) _ _ _
    refine wpAny_bind (wpAny_field he rfl (x := .ref it) rfl ?_)
    refine wpAny_bind (wpAny_nextOf_list_end hh hit hl hx fun h' x he' hx' => ?_)
    obtain ⟨o, ho, hc⟩ := hx'
    refine wpAny_bind (wpAny_isInstance (T := "StopIteration") (b := true) ⟨o, ho, hc⟩ isSubtype_stop ?_)
    exact wpAny_pure (hQ _ he')
def enAll (xs : List Value) : List (Key × Value) := xs.zipIdx.map fun p => ((Sum.inl (p.2 : Int) : Key), p.1)
theorem enAll_get {xs : List Value} {i : Nat} {x : Value} (h : xs[i]? = some x) : (enAll xs)[i]? = some ((Sum.inl (i : Int) : Key), x) := by
  unfold enAll
  rw [List.getElem?_map, List.getElem?_zipIdx, h]
  simp
theorem enAll_nodup (xs : List Value) : ((enAll xs).map (·.1)).Nodup := by
  unfold enAll
  rw [List.map_map]
  have : ((fun x : Key × Value => x.1) ∘ fun p : Value × Nat => ((Sum.inl (p.2 : Int) : Key), p.1)) = (fun n : Nat => (Sum.inl (n : Int) : Key)) ∘ Prod.snd := by funext p; rfl
  rw [this, ← List.map_map, List.zipIdx_map_snd, List.range'_eq_map_range, List.map_map]
  refine List.Pairwise.map _ (fun a b hne h => ?_) List.nodup_range
  have h' := Sum.inl.inj h
  simp at h'
  exact hne (Int.ofNat.inj h')
theorem enAll_length (xs : List Value) : (enAll xs).length = xs.length := by unfold enAll; simp
theorem en_loop {e it l D : Addr} {items : Array Value} {R : Result → Shared → Prop} (hh : A.handled = none) (hne : e ≠ it) (hle : l ≠ e) (hli : l ≠ it) (hDe : D ≠ e) (hDi : D ≠ it) (hDl : D ≠ l) (hn : items.size ≤ 1000) :
    ∀ (k i : Nat) (s : Shared), items.size - i = k → i ≤ items.size → EnSt s.heap e it D i → s.heap.IsListIter it l i → s.heap.IsList l items → s.heap.DictOf (mixKind prog w) D (merged [] ((enAll items.toList).take i)) →
      (∀ h' tk, h'.DictOf (mixKind prog w) D (enAll items.toList) → (∀ b o, b ≠ e → b ≠ it → b ≠ D → s.heap.get? b = some o → h'.get? b = some o) → R (.ok (.ret .none)) { s with heap := h', toks := tk }) →
      codeAny (model prog w) A (.builtin "dict.update.loop" ⟨[.ref D, .ref e, rawInt (i : Int), .none], []⟩) R s := by
  intro k
  induction k with
  | zero =>
    intro i s hk hi st hit hl hd hR
    have hin : i = items.size := by omega
    subst hin
    refine codeAny_builtin PySem.F.en_entry_loop ?_
    rw [Around.under_plainId PySem.F.en_plain_loop _]
    show wpAny _ A.in1 (pyNext (.ref e) >>= _) _ _ s
    refine wpAny_bind (en_end (by simp [hh]) st hit hl (by simp) fun h' hx => ?_)
    show wpAny _ A.in1 (Builtin.Dict.addKeywords D [] >>= _) _ _ _
    refine wpAny_bind (wpAny_pure (wpAny_pure ?_))
    rw [List.take_of_length_le (by rw [enAll_length]; simp), merged_nil_of_nodup _ (enAll_nodup _)] at hd
    refine hR h' s.toks ?_ fun b o h1 h2 _ q => hx b o h2 q
    obtain ⟨o, es, ep, ho, r⟩ := hd
    exact ⟨o, es, ep, hx D o hDi ho, r⟩
  | succ k ih =>
    intro i s hk hi st hit hl hd hR
    have hlt : i < items.size := by omega
    have hx : items[i]? = some items[i] := Array.getElem?_eq_getElem hlt
    have hDlt : D < s.heap.objs.size := by obtain ⟨o, es, ep, ho, r⟩ := hd; exact Heap.lt_size ho
    refine codeAny_builtin PySem.F.en_entry_loop ?_
    rw [Around.under_plainId PySem.F.en_plain_loop _]
    show wpAny _ A.in1 (pyNext (.ref e) >>= _) _ _ s
    refine wpAny_bind (en_next st hit hl hx hne hDlt fun h' st' hit' ht hk' => ?_)
    have hl' : h'.IsList l items := hl.at fun o q => hk' l o hle hli q
    have hd' : h'.DictOf (mixKind prog w) D (merged [] ((enAll items.toList).take i)) := by
      obtain ⟨o, es, ep, ho, r⟩ := hd
      exact ⟨o, es, ep, hk' D o hDe hDi ho, r⟩
    refine wpAny_bind (wpAny_holding ?_)
    refine wpAny_bind (wpAny_tryCatch ?_)
    unfold Builtin.Dict.pairItems
    refine wpAny_bind (wpAny_typeOf (T := "tuple") ⟨_, ht, rfl⟩ ?_)
    rw [if_pos (by decide)]
    refine wpAny_bind (wpAny_seqItems ht rfl (wpAny_pure ?_))
    show wpAny _ _ (holding [.int i s.toks, items[i]] (dictSet D (.int i s.toks) items[i])) _ _ _
    refine wpAny_holding ?_
    have hz : (merged [] ((enAll items.toList).take i)).length ≤ sizeLine := by
      refine Nat.le_trans (merged_length_le _ _) (Nat.le_trans (m := 1000) ?_ (by decide))
      simp; omega
    refine wpAny_dictSet_pairs (hsz := hz) (k := (Sum.inl (i : Int) : Key)) (kV_is (k := Sum.inl (i : Int)) ⟨_, rfl⟩) hd' fun h2 hd2 hs2 => ?_
    replace hs2 : Heap.SameBut D h' h2 := hs2
    rw [← merged_take_succ [] (enAll items.toList) i ((Sum.inl (i : Int) : Key), items[i]) (enAll_get (by simpa using hx))] at hd2
    have st2 := st'.keep (h' := h2) hDe fun b o hb q => (hs2.2 b hb).trans q
    refine wpAny_pure ⟨plainId_quiet PySem.F.en_plain_loop _, ?_⟩
    have ei : ((i : Int) + 1) = ((i + 1 : Nat) : Int) := by push_cast; rfl
    show codeAny _ _ (.builtin "dict.update.loop" ⟨[.ref D, .ref e, rawInt ((i : Int) + 1), .none], []⟩) _ _
    rw [ei]
    refine ih (i + 1) _ (by omega) hlt st2 (hit'.at fun o q => (hs2.2 it hDi.symm).trans q) (hl'.at fun o q => (hs2.2 l hDl.symm).trans q) hd2 fun h3 tk hd3 hk3 => ?_
    exact hR h3 tk hd3 fun b o h1 h2' h3' q => hk3 b o h1 h2' h3' ((hs2.2 b h3').trans (hk' b o h1 h2' q))
theorem call_dict_enum {e it l : Addr} {items : Array Value} {Q : Value → Shared → Prop} (hh : A.handled = none) (hne : e ≠ it) (hle : l ≠ e) (hli : l ≠ it) (he : IsEnum s.heap e it 0 .none) (hit : s.heap.IsListIter it l 0) (hl : s.heap.IsList l items) (hn : items.size ≤ 1000)
    (h : ∀ h' tk, h'.DictOf (mixKind prog w) s.heap.objs.size (enAll items.toList) → (∀ b o, b ≠ e → b ≠ it → s.heap.get? b = some o → h'.get? b = some o) → Q (.ref s.heap.objs.size) { s with heap := h', toks := tk }) :
    wpAny (model prog w) A (call (.type "dict") [.ref e]) Q E s := by
  refine callType_codes (Q₁ := fun obj s₁ => obj = .ref s.heap.objs.size ∧ s₁ = { s with heap := s.heap.push { cls := .type "dict", data := .dict #[] } }) PySem.F.kt_called_dict (PySem.F.kt_typeCall_dict_1 _) PySem.F.entry_dict_init (kt_code_dict_new _ ⟨rfl, rfl⟩) ?_
  rintro obj s₁ ⟨rfl, rfl⟩
  have hnew : (s.heap.push { cls := .type "dict", data := .dict #[] }).DictOf (mixKind prog w) s.heap.objs.size [] := Heap.DictOf.new s.heap
  refine ⟨hnew.typeIs, PySem.F.args_dict_init_2 _ _, ?_⟩
  have hes : e < s.heap.objs.size := Heap.lt_size he
  have his : it < s.heap.objs.size := by obtain ⟨_, x, _⟩ := hit; exact Heap.lt_size x
  have hls : l < s.heap.objs.size := by obtain ⟨_, x, _⟩ := hl; exact Heap.lt_size x
  have he' : IsEnum (s.heap.push { cls := .type "dict", data := .dict #[] }) e it 0 .none := Heap.get?_push_of_some _ he
  unfold Builtin.«dict.__init__»
  refine wpAny_bind ?_
  unfold Builtin.Dict.selfAndRest
  refine wpAny_bind (wpAny_notOrdered_dict hnew.typeIs ?_)
  show wpAny _ _ (pure (s.heap.objs.size, [Value.ref e])) _ _ _
  refine wpAny_pure ?_
  show wpAny _ _ (Builtin.Dict.updateFrom "dict.__init__" s.heap.objs.size (.ref e) [] .none) _ _ _
  unfold Builtin.Dict.updateFrom
  refine wpAny_bind (wpAny_typeOf (T := "enumerate") ⟨_, he', rfl⟩ ?_)
  rw [if_pos (by decide)]
  refine wpAny_bind (en_getAttr (A := A.in1.in1) he' (by simpa using hh) fun h2 tk2 hk2 => ?_)
  rw [if_pos (show (none : Option Value).isNone = true from rfl)]
  refine wpAny_bind (wpAny_rule ?_)
  have he2 : IsEnum h2 e it 0 .none := hk2 _ _ he'
  refine wpAny_bind (wpAny_pyIter_enum he2 ?_)
  refine wpAny_pure ⟨plainId_quiet PySem.F.en_plain_loop _, ?_⟩
  have kk : ∀ b o, s.heap.get? b = some o → h2.get? b = some o := fun b o q => hk2 b o (Heap.get?_push_of_some _ q)
  refine en_loop (l := l) (items := items) (by simp [hh]) hne hle hli (Nat.ne_of_gt hes) (Nat.ne_of_gt his) (Nat.ne_of_gt hls) hn items.size 0 _ (by simp) (Nat.zero_le _) (.inl ⟨_, he2⟩) (hit.at fun o q => kk it o q) (hl.at fun o q => kk l o q) ?_ fun h3 tk3 hd3 hk3 => ?_
  · obtain ⟨o, es, ep, ho, r⟩ := hnew
    exact ⟨o, es, ep, hk2 _ _ ho, r⟩
  · exact ⟨rfl, h h3 tk3 hd3 fun b o h1 h2 q => hk3 b o h1 h2 (Nat.ne_of_lt (Heap.lt_size q)) (kk b o q)⟩
end
end L2
namespace L2
open PySem PySem.Spec PyProof.Rows
def enKV (xs : List V) : List (Key × V) := xs.zipIdx.map fun p => ((Sum.inl (p.2 : Int) : Key), p.1)
theorem enKV_length (xs : List V) : (enKV xs).length = xs.length := by unfold enKV; simp
theorem enKV_rel {xs : List V} {us : List Value} (r : Vals xs us) : KV (enKV xs) (enAll us) := by
  have : ∀ (n : Nat), KV ((xs.zipIdx n).map fun p => ((Sum.inl (p.2 : Int) : Key), p.1)) ((us.zipIdx n).map fun p => ((Sum.inl (p.2 : Int) : Key), p.1)) := by
    induction r with
    | nil => exact fun _ => .nil
    | cons h _ ih => exact fun n => .cons ⟨rfl, h⟩ (ih (n + 1))
  exact this 0
theorem boot_dictT : bootBuiltins "dict" = some (.type "dict") := by decide +kernel
section
variable {X : Cx} {l : Expr} {ta : TA} {p p2 pos pos2 : Pos}
def tDictE (K : PySem.W.Frag) (ta : TA) : TE := fun σ H Q => ta σ H fun vs H1 => ∃ a xs, vs = [.ref a] ∧ SqL K H1 a xs ∧ xs.length ≤ 1000 ∧ ∀ D, H1 D = none → Q (.ref D) (upd H1 D (.dK (enKV xs)))
theorem pe_dictE (hc : X.calm = true) (hm : X.mg "dict" = none) (hm2 : X.mg "enumerate" = none) (ha : PA X [l] ta) (hg : Gl X "dict" := by rfl) (hg2 : Gl X "enumerate" := by rfl) (hs : starEach [l] X.env = [(false, eval l X.env)] := by rfl)
    (hs2 : starEach [.Call (.Name "enumerate" p2) [l] [] pos2] X.env = (false, eval (.Call (.Name "enumerate" p2) [l] [] pos2) X.env) :: starEach [] X.env := by rfl) :
    PE X (.Call (.Name "dict" p) [.Call (.Name "enumerate" p2) [l] [] pos2] [] pos) (tDictE X.K ta) := by
  intro pins s σ H Q I h
  refine Call_ (ld_blt I hg hm boot_dictT (PyProof.Rows.callWith_type1 ?_ hs2 rfl))
  rw [hs2]
  show wpAny _ _ (spliced ((false, eval (.Call (.Name "enumerate" p2) [l] [] pos2) X.env) :: backTo pos (starEach [] X.env))) _ _ s
  refine Calls.spliced_cons ?_
  refine Call_ (ld_blt I hg2 hm2 boot_enum (PyProof.Rows.callWith_type1 (thn (ha pos2 pins s σ H _ I h) fun us s1 ⟨vs, H1, I1, r1, q1⟩ => ?_) hs rfl))
  obtain ⟨a, xs, e, hq, hz, q⟩ := q1
  subst e
  obtain ⟨u, rfl, rx⟩ := vals1 r1
  cases rx
  obtain ⟨its, rv, pl, hz2⟩ := I1.list hq
  refine call_enumerate_list pl.isList fun h' he hit hz' hk => ?_
  have nil : starEach ([] : List Expr) X.env = [] := rfl
  rw [nil]
  show wpAny _ _ (pure []) _ _ _
  refine wpAny_pure ?_
  have al : a < s1.heap.objs.size := by obtain ⟨_, x, _⟩ := pl.isList; exact Heap.lt_size x
  have hh : X.A.handled = none := I1.ok.hd hc
  refine call_dict_enum (l := a) (items := its.toArray) hh (Nat.succ_ne_self _) (Nat.ne_of_lt (Nat.lt_succ_of_lt al)) (Nat.ne_of_lt al) he hit (pl.isList.at fun o x => hk a o x) (by rw [List.size_toArray, ← rv.length]; exact hz) fun h3 tk hd hk3 => ?_
  have nw : H1 (s1.heap.objs.size + 2) = none := I1.hok.fresh (by omega)
  rw [show (Shared.heap ⟨h', s1.gens, s1.drawn, s1.toks, s1.os⟩).objs.size = s1.heap.objs.size + 2 from hz'] at hd ⊢
  refine ⟨.ref (s1.heap.objs.size + 2), _, I1.laid (a := s1.heap.objs.size + 2) (o := .dK (enKV xs)) (t' := tk) (fun b o x => ?_) (by omega) ?_, rfl, q _ nw⟩
  · have bl : b < s1.heap.objs.size := Heap.lt_size x
    exact hk3 b o (Nat.ne_of_lt (Nat.lt_succ_of_lt bl)) (Nat.ne_of_lt bl) (hk b o x)
  · have bg := I1.big
    exact dk_new (by rw [enKV_length]; exact hz2) (beq_eq_false_iff_ne.mpr (Ne.symm (Nat.ne_of_lt (Nat.lt_of_lt_of_le bg (Nat.le_add_right _ _))))) (enKV_rel rv) (by simpa using hd)
end
end L2
namespace L2
open PySem PySem.Spec PyProof.Rows
theorem kit_dict_int (K : PySem.W.Frag) : PySem.W.kitOne K (.type "dict") (.type "int") = some false := kit_no K (by decide +kernel) (by decide +kernel) (by decide +kernel)
theorem kit_dict_bool (K : PySem.W.Frag) : PySem.W.kitOne K (.type "dict") (.type "bool") = some false := kit_no K (by decide +kernel) (by decide +kernel) (by decide +kernel)
section
variable {X : Cx} {p pos : Pos} {e : Expr} {t : TA}
theorem op_isBl : OpR X (compareOp .Is) (fun x y H Q => ∃ b c, x = .bl b ∧ y = .bl c ∧ Q (.bl (b == c)) H) := by
  intro pins s σ H x y v u Q I rx ry h
  obtain ⟨b, c, rfl, rfl, q⟩ := h
  cases rx
  cases ry
  exact is_bool (fin_bl I q rfl)
theorem op_notBl : OpR X (compareOp .IsNot) (fun x y H Q => ∃ b c, x = .bl b ∧ y = .bl c ∧ Q (.bl (b != c)) H) := by
  intro pins s σ H x y v u Q I rx ry h
  obtain ⟨b, c, rfl, rfl, q⟩ := h
  cases rx
  cases ry
  exact isnot_bool (fin_bl I q rfl)
def rStrD : List V → Hp → VK → Prop := fun xs H Q => ∃ a d, xs = [.ref a] ∧ DaS H (.ref a) d ∧ d.hasDict = false ∧ Q (.str d.shown) H
theorem call_strD (hu : X.A.units + 16 < cLine) (hg : X.A.guards = some []) : CallR X (.type "str") rStrD := by
  intro pins s σ H xs us Q I r h
  obtain ⟨a, d, rfl, ⟨hs, sh, le, dp⟩, nd, q⟩ := h
  obtain ⟨u, rfl, ru⟩ := vals1 r
  cases ru
  obtain ⟨as, rd⟩ := (hs.rd I rfl).reads
  exact str_of_reads rd sh (fun h => by rw [nd] at h; cases h) hg (by omega) (fun _ _ y => y) (fun h' u tk hk => ⟨.str d.shown, H, I.kept (t' := tk) hk, ⟨_, rfl⟩, q⟩) le
theorem pe_strD (hu : X.A.units + 16 < cLine) (hg0 : X.A.guards = some []) (hm : X.mg "str" = none) (ha : PA X [e] t) (hg : Gl X "str" := by rfl) (he : starEach [e] X.env = (false, eval e X.env) :: starEach [] X.env := by rfl) :
    PE X (.Call (.Name "str" p) [e] [] pos) (tCB rStrD t) := pe_callTy (call_strD hu hg0) hg hm boot_strT ha (by decide) (by decide) he rfl
def enD (ns : List Int) : PyData := .dict (ns.zipIdx.map fun p => (.int (p.2 : Int), .int p.1))
def ShT (H : Hp) (v : V) (t : Str) : Prop := (∃ d, DaS H v d ∧ t = d.shown) ∨ ∃ a ns, v = .ref a ∧ H a = some (.dK (enKV (ns.map V.int))) ∧ (enD ns).showable = true ∧ (enD ns).shown.length ≤ sizeLine ∧ t = (enD ns).shown
def rReprX : List V → Hp → VK → Prop := fun xs H Q => ∃ v t, xs = [v] ∧ ShT H v t ∧ Q (.str t) H
theorem rdNs_en {P : Program} {w : World} {h : Heap} : ∀ {ns : List Int} {n : Nat} {es : List DictEntry} {vs : List (Key × Value)}, KV (((ns.map V.int).zipIdx n).map fun p => ((Sum.inl (p.2 : Int) : Key), p.1)) vs → Pairs (mixKind P w) es vs →
    RdNs h (es.map (·.key)) (((ns.zipIdx n).map fun p => (PyData.int (p.2 : Int), PyData.int p.1)).map (·.1)) ∧ RdNs h (es.map (·.val)) (((ns.zipIdx n).map fun p => (PyData.int (p.2 : Int), PyData.int p.1)).map (·.2))
  | [], n, es, vs, kv, ps => by
    cases kv
    cases ps
    exact ⟨.nil, .nil⟩
  | i :: ns, n, es, vs, kv, ps => by
    cases kv with
    | cons r kv =>
      cases ps with
      | cons k1 v1 ps =>
        obtain ⟨e1, e2⟩ := rdNs_en kv ps
        obtain ⟨r1, r2⟩ := r
        rw [← r1] at k1
        rw [← v1] at r2
        obtain ⟨t, rfl'⟩ := r2
        rcases keyIs_shape (show keyIs (Sum.inl (n : Int)) _ = true from k1) with ⟨j, u, a1, a2⟩ | ⟨y, u, a1, a2⟩
        · have : j = (n : Int) := Sum.inl.inj a1.symm
          subst this
          refine ⟨.cons ?_ e1, .cons ?_ e2⟩
          · dsimp only
            rw [a2]; exact .int _ u
          · dsimp only
            rw [rfl']; exact .int _ t
        · cases a1
theorem en_rd {Y : Cx} {pins : List (Addr × Obj)} {σ : St} {H : Hp} {s : Shared} {a : Addr} {ns : List Int} (I : Inv Y pins σ H s) (e : H a = some (.dK (enKV (ns.map V.int)))) : RdN s.heap (.ref a) (enD ns) := by
  obtain ⟨hz, hS, vs, kv, o, es, ep, ho, hx, hd, hk, hp, hn⟩ := I.hok _ _ e
  obtain ⟨e1, e2⟩ := rdNs_en (h := s.heap) (ns := ns) (n := 0) kv hp
  exact .dic ho hx.1 hd hS e1 e2
theorem enD_depth (ns : List Int) : (enD ns).depth ≤ 8 := by
  unfold enD
  rw [PyData.depth]
  have : ∀ (l : List (Int × Nat)), PyData.depthKv (l.map fun p => (PyData.int (p.2 : Int), PyData.int p.1)) ≤ 1 := by
    intro l
    induction l with
    | nil => rw [List.map_nil, PyData.depthKv]; omega
    | cons x l ih => rw [List.map_cons, PyData.depthKv, PyData.depth, PyData.depth]; omega
  have := this ns.zipIdx
  omega
theorem call_reprX (hu : X.A.units + 16 < cLine) (hg : X.A.guards = some []) : CallR X (.builtin "repr") rReprX := by
  intro pins s σ H xs us Q I r h
  obtain ⟨v, t, rfl, ⟨d, hd, rfl⟩ | ⟨a, ns, rfl, ha, sh, le, rfl⟩, q⟩ := h
  · exact call_reprD hu hg pins s σ H _ us Q I r ⟨v, d, rfl, hd, q⟩
  · obtain ⟨u, rfl, ru⟩ := vals1 r
    cases ru
    obtain ⟨T, idr, S⟩ := (en_rd I ha).by_ (prog := X.prog) (w := X.w) sh le
    have dp := enD_depth ns
    exact call_repr_slot (by omega) (S.typeIs s fun _ _ y => y) S.slotRepr (S.call X.A.in1 _ s _ hg (by show X.A.units + 1 + (enD ns).depth < cLine; omega) (fun _ _ y => y) fun h' u tk hk => ⟨_, _, rfl, .str _, H, I.kept (t' := tk) hk, ⟨_, rfl⟩, q⟩)
theorem pe_reprX (hu : X.A.units + 16 < cLine) (hg0 : X.A.guards = some []) (hm : X.mg "repr" = none) (ha : PA X [e] t) (hg : Gl X "repr" := by rfl) (he : starEach [e] X.env = (false, eval e X.env) :: starEach [] X.env := by rfl) :
    PE X (.Call (.Name "repr" p) [e] [] pos) (tCB rReprX t) := pe_callB (call_reprX hu hg0) hg hm boot_reprB ha (by decide) (by decide) he rfl
end
end L2
namespace My
open PySem L2 Mth
section
variable {P : Program} {w : World} {K : PySem.W.Frag} {mg : Str → Option Value} {base : Heap}
def Jd (K : PySem.W.Frag) (H : Hp) (v : V) (b : Bool) : Prop := (NoTurnV K H v ∧ b = false) ∨ ∃ (a : Addr) (p : List Int), v = .ref a ∧ H a = some (.lst (p.map V.int)) ∧ p.length ≤ 40 ∧ IsT p ∧ b = true
theorem Jd.keep {H H' : Hp} {v : V} {b : Bool} (h : Jd K H v b) (s : Same H H') : Jd K H' v b := by
  rcases h with ⟨no, e⟩ | ⟨a, p, e, ha, r⟩
  · exact .inl ⟨no.keep s, e⟩
  · exact .inr ⟨a, p, e, s _ _ ha, r⟩
theorem jd_list {H : Hp} {a : Addr} {xs : List V} (h : H a = some (.lst xs)) (el : ∀ x ∈ xs, (∃ i : Int, x = .int i) ∨ OddV K H x) : ∃ b, Jd K H (.ref a) b := by
  by_cases z : ∃ p : List Int, xs = p.map V.int ∧ p.length ≤ 40 ∧ IsT p
  · obtain ⟨p, rfl, l, t⟩ := z
    exact ⟨true, .inr ⟨a, p, rfl, h, l, t, rfl⟩⟩
  · exact ⟨false, .inl ⟨.inr ⟨a, xs, rfl, h, el, fun p e l t => z ⟨p, e, l, t⟩⟩, rfl⟩⟩
theorem Jd.view {H : Hp} {v : V} {b : Bool} (h : Jd K H v b) : (∃ t, TyOf K H v t ∧ PySem.W.kitOne K t (.type "list") = some false ∧ b = false) ∨
    ∃ (a : Addr) (xs : List V), v = .ref a ∧ H a = some (.lst xs) ∧ (∀ x ∈ xs, (∃ i : Int, x = .int i) ∨ OddV K H x) ∧ (b = true ↔ ∃ p : List Int, xs = p.map V.int ∧ p.length ≤ 40 ∧ IsT p) := by
  rcases h with ⟨⟨t, ty, kt⟩ | ⟨a, xs, rfl, ha, el, no⟩, rfl⟩ | ⟨a, p, rfl, ha, hl, tp, rfl⟩
  · exact .inl ⟨t, ty, kt, rfl⟩
  · exact .inr ⟨a, xs, rfl, ha, el, ⟨(fun z => by cases z), fun ⟨p, e, l, t⟩ => absurd t (no p e l)⟩⟩
  · exact .inr ⟨a, _, rfl, ha, fun x hx => by obtain ⟨i, _, rfl⟩ := List.mem_map.mp hx; exact .inl ⟨i, rfl⟩, ⟨fun _ => ⟨p, rfl, hl, tp⟩, fun _ => rfl⟩⟩
theorem inV_ints {z : Int} {p : List Int} : inV (.int z) (p.map V.int) = decide (z ∈ p) := by
  unfold inV
  rw [Bool.eq_iff_iff, decide_eq_true_iff, List.any_eq_true]
  constructor
  · rintro ⟨x, hx, e⟩
    obtain ⟨i, hi, rfl⟩ := List.mem_map.mp hx
    have : i = z ∨ z = i := by
      first
        | exact .inl (by simpa [eqV] using e)
        | exact .inr (by simpa [eqV] using e)
    rcases this with rfl | rfl <;> exact hi
  · intro hz
    exact ⟨.int z, List.mem_map.mpr ⟨z, hz, rfl⟩, by simp [eqV]⟩
def spLIs (K : PySem.W.Frag) : Sp := fun vs H Q _ => ∃ (v : V) (b : Bool), vs = [v] ∧ Jd K H v b ∧ ∀ H', Same H H' → Q (.bl b) H'
theorem sc_law_is_turn : FnScope ["thing", "seen_ones", "one"] ["thing"] (defScope s_law_is_turn) := ⟨rfl, rfl, rfl, by decide +kernel, rfl, by decide +kernel, by decide +kernel⟩
theorem ok_law_is_turn {f : Addr} {fd : FuncData} (F : Fun K "_law_is_turn" "_law_is_turn" s_law_is_turn f fd) (B : Bl mg) : FnOk P w K mg base CX0 1 f fd ["thing"] (spLIs K) := by
  refine F.ok sc_law_is_turn (fun vs H Q E h => ?_) (fun cdv A outer s H vs Q E hr h => ?_)
  · obtain ⟨v, b, rfl, J, q⟩ := h
    rfl
  · obtain ⟨v, b, rfl, J, q⟩ := h
    have hu := hu_of hr
    refine ⟨_, @pss_cons _ _ _ _ _ (@ps_if _ _ _ _ _ _ _ _ (@pw_or _ _ _ _ _ _ _ (@pt_not _ _ _ _ (@pt_val _ _ _ (@pe_isi _ _ _ _ _ _ B.isi (@pa_cons _ _ _ _ _ (pv 0) (@pa_cons _ _ _ _ _ (@pe_tyList _ _ B.list (by rfl)) (@pa_nil _) (by rfl)) (by rfl)) (by rfl) (by rfl) (by rfl)) (by intro _; rfl))) (@pw_or1 _ _ _ _ (@pt_cmpR _ _ _ _ _ _ _ _ op_gt (@pe_lenL _ _ _ _ _ B.len (@pa_cons _ _ _ _ _ (pv 0) (@pa_nil _) (by rfl)) (by rfl) (by rfl)) (@pe_int _ _ _ _) (nomark _)))).pt (@pss_one _ _ _ (@ps_ret _ _ _ _ (@pe_bl _ _ _ _))) (@pss_nil _)) (@pss_cons _ _ _ _ _ (@ps_set _ _ (1) _ _ _ _ sc_law_is_turn.nd rfl (Or.inl rfl) (@pe_lst _ _ _ _ (@pa_nil _)) (by rfl) (by first | exact .inl rfl | exact .inr rfl | assumption)) (@pss_cons _ _ _ _ _ (@ps_for _ _ _ _ _ _ _ _ PassesOwn.never rfl (@pi_list _ _ _ _ (pv 0)) (@pg_name _ _ (2) _ sc_law_is_turn.nd rfl (Or.inl rfl) (by first | exact .inl rfl | exact .inr rfl | assumption)) (@pss_cons _ _ _ _ _ (@ps_if _ _ _ _ _ _ _ _ (@pw_or _ _ _ _ _ _ _ (@pt_not _ _ _ _ (@pt_val _ _ _ (@pe_isi _ _ _ _ _ _ B.isi (@pa_cons _ _ _ _ _ (pv 2) (@pa_cons _ _ _ _ _ (@pe_tyInt _ _ B.int (by rfl)) (@pa_nil _) (by rfl)) (by rfl)) (by rfl) (by rfl) (by rfl)) (by intro _; rfl))) (@pw_or _ _ _ _ _ _ _ (@pt_val _ _ _ (@pe_isi _ _ _ _ _ _ B.isi (@pa_cons _ _ _ _ _ (pv 2) (@pa_cons _ _ _ _ _ (@pe_tyBool _ _ B.bool (by rfl)) (@pa_nil _) (by rfl)) (by rfl)) (by rfl) (by rfl) (by rfl)) (by intro _; rfl)) (@pw_or _ _ _ _ _ _ _ (@pt_cmpR _ _ _ _ _ _ _ _ op_lt (pv 2) (@pe_int _ _ _ _) (nomark _)) (@pw_or _ _ _ _ _ _ _ (@pt_cmpR _ _ _ _ _ _ _ _ op_ge (pv 2) (@pe_lenL _ _ _ _ _ B.len (@pa_cons _ _ _ _ _ (pv 0) (@pa_nil _) (by rfl)) (by rfl) (by rfl)) (nomark _)) (@pw_or1 _ _ _ _ (@pt_cmpR _ _ _ _ _ _ _ _ (op_in_seq) (pv 2) (pv 1) (by with_unfolding_all rfl))))))).pt (@pss_one _ _ _ (@ps_ret _ _ _ _ (@pe_bl _ _ _ _))) (@pss_nil _)) (@pss_one _ _ _ (@ps_expr _ _ _ _ (@pe_append _ _ _ _ _ _ _ (pv 1) (@pa_cons _ _ _ _ _ (pv 2) (@pa_nil _) (by rfl)) (by rfl) (by rfl) (by rfl) (by rfl) (by rfl)) (by rfl)))) (by intro _; rfl)) (@pss_one _ _ _ (@ps_ret _ _ _ _ (@pe_bl _ _ _ _))))), ?_⟩
    rcases J.view with ⟨t, ty, kt, rfl⟩ | ⟨a, xs, rfl, ha, el, iff⟩
    · exact ⟨_, rfl, v, "list", t, false, rfl, ty, kt, false, rfl, iteT (q H (Same.refl H))⟩
    have no : ∀ H', Same H H' → (¬ ∃ p : List Int, xs = p.map V.int ∧ p.length ≤ 40 ∧ IsT p) → Q (.bl false) H' := fun H' s n => by
      cases b with
      | true => exact absurd (iff.mp rfl) n
      | false => exact q H' s
    refine ⟨_, rfl, _, "list", _, true, rfl, .lst ha, kit_same K "list", true, rfl, ?_⟩
    refine iteF ⟨_, rfl, a, _, rfl, .inl (SqL.of ha), _, _, rfl, rfl, _, rfl, ?_⟩
    refine ite2 (fun h40 => ?_) (fun h40 => ?_)
    · have h40 : (40 : Int) < (xs.length : Int) := of_decide_eq_true h40
      exact no H (Same.refl H) fun ⟨p, e, l, _⟩ => by rw [e, List.length_map] at h40; omega
    have h40 : ¬ (40 : Int) < (xs.length : Int) := fun z => h40 (decide_eq_true z)
    refine ⟨(show 0 ≤ sizeLine by decide), fun sl nsl => ?_⟩
    have nas : a ≠ sl := ne_of_none ha nsl
    have s1 : Same H (upd H sl (.lst [])) := Same.upd_new nsl
    refine ⟨_, rfl, a, rfl, ⟨_, SqL.of (s1 _ _ ha)⟩, for_list (K := K) (a := a) (xs := xs) (fun i σ H2 => ∃ (v : Option V) (p : List Int), σ = [some (.ref a), some (.ref sl), v] ∧ Same H H2 ∧ xs.take i = p.map V.int ∧ H2 sl = some (.lst (p.map V.int)) ∧ p.Nodup ∧ ∀ x ∈ p, 0 ≤ x ∧ x < xs.length)
      ⟨none, [], rfl, s1, rfl, upd_same, List.nodup_nil, fun x hx => by simp at hx⟩ (fun i σ H2 _ ⟨_, _, _, s2, _⟩ => SqL.of (s2 a _ ha)) ?_ ?_⟩
    · rintro i y σ H2 hi ⟨v, p, rfl, s2, hp, h2, nd, bd⟩
      have ha2 := s2 a _ ha
      have hil : i < xs.length := (List.getElem?_eq_some_iff.mp hi).1
      rcases el y (List.mem_of_getElem? hi) with ⟨z, rfl⟩ | odd
      · have tk : ∀ r : List Int, xs = r.map V.int → r[i]? = some z ∧ r.take i = p := fun r e => by
          constructor
          · rw [e] at hi
            obtain ⟨z', hz, ez⟩ := getElem_int hi
            cases ez
            exact hz
          · have : (r.take i).map V.int = p.map V.int := by rw [← hp, e, List.map_take]
            exact map_int_inj this
        refine ⟨_, rfl, .int z, "int", _, true, rfl, .int z, kit_same K "int", _, rfl, iteF ⟨_, rfl, .int z, "bool", _, false, rfl, .int z, kit_int_bool K, _, rfl, iteF ⟨_, rfl, _, _, rfl, rfl, _, rfl, ?_⟩⟩⟩
        refine ite2 (fun hz0 => ?_) (fun hz0 => ?_)
        · have hz0 : z < 0 := of_decide_eq_true hz0
          exact iteT (no H2 s2 fun ⟨r, e, _, t⟩ => by have := t.lo z (List.mem_of_getElem? (tk r e).1); omega)
        have hz0 : ¬ z < 0 := fun q => hz0 (decide_eq_true q)
        refine ⟨_, rfl, _, rfl, a, _, rfl, .inl (SqL.of ha2), _, _, rfl, rfl, _, rfl, ?_⟩
        refine ite2 (fun hz1 => ?_) (fun hz1 => ?_)
        · have hz1 : (xs.length : Int) ≤ z := of_decide_eq_true hz1
          exact iteT (no H2 s2 fun ⟨r, e, _, t⟩ => by
            have := t.hi z (List.mem_of_getElem? (tk r e).1)
            rw [e, List.length_map] at hz1
            omega)
        have hz1 : ¬ (xs.length : Int) ≤ z := fun q => hz1 (decide_eq_true q)
        have lp : p.length ≤ i := by
          have := congrArg List.length hp
          rw [List.length_take, List.length_map] at this
          omega
        refine ⟨_, rfl, _, rfl, sl, _, rfl, .inl (SqL.of h2), rfl, ?_, _, rfl, ?_⟩
        · rw [List.all_eq_true]
          intro x hx
          obtain ⟨j, _, rfl⟩ := List.mem_map.mp hx
          rfl
        show if inV (V.int z) (p.map V.int) = true then _ else _
        rw [inV_ints]
        refine ite2 (fun hm => ?_) (fun hm => ?_)
        · have hm : z ∈ p := of_decide_eq_true hm
          refine no H2 s2 fun ⟨r, e, _, t⟩ => ?_
          obtain ⟨e1, e2⟩ := tk r e
          rw [← e2] at hm
          obtain ⟨j, hj⟩ := List.mem_iff_getElem?.mp hm
          have hjl : j < i := by
            have := (List.getElem?_eq_some_iff.mp hj).1
            rw [List.length_take] at this
            omega
          rw [List.getElem?_take_of_lt hjl] at hj
          have jl := (List.getElem?_eq_some_iff.mp hj).1
          have := (List.getElem?_inj jl t.nd).mp (hj.trans e1.symm)
          omega
        · have hm : z ∉ p := fun q => hm (decide_eq_true q)
          refine ⟨_, rfl, .inl ⟨rfl, _, SqL.of h2⟩, _, rfl, sl, _, _, rfl, rfl, h2, small1000 (by rw [List.length_map]; omega), ?_⟩
          refine ⟨some (.int z), p ++ [z], rfl, fun b o e => by rw [upd_ne (ne_of_none e nsl)]; exact s2 b o e, ?_, ?_, ?_, ?_⟩
          · rw [take_succ_of hi, hp, List.map_append]; rfl
          · rw [upd_same, List.map_append]; rfl
          · exact nd_snoc nd hm
          · intro x hx
            rcases List.mem_append.mp hx with q | q
            · exact bd x q
            · have : x = z := by simpa using q
              omega
      · obtain ⟨t, b1, b2, ty, e1, e2, e3⟩ := odd.keep s2
        have nn : ¬ ∃ r : List Int, xs = r.map V.int ∧ r.length ≤ 40 ∧ IsT r := fun ⟨r, e, _, t'⟩ => by
          rw [e] at hi
          obtain ⟨z', hz, rfl⟩ := getElem_int hi
          obtain ⟨t0, c1, c2, ty0, g1, g2, g3⟩ := odd
          cases ty0
          rw [kit_same K "int"] at g1
          rw [kit_int_bool K] at g2
          cases g1
          cases g2
          cases g3
        refine ⟨_, rfl, y, "int", t, b1, rfl, ty, e1, _, rfl, ?_⟩
        cases b1 with
        | false => exact iteT (no H2 s2 nn)
        | true =>
          cases b2 with
          | false => cases e3
          | true => exact iteF ⟨_, rfl, y, "bool", t, true, rfl, ty, e2, _, rfl, iteT (no H2 s2 nn)⟩
    · rintro σ H2 ⟨v, p, rfl, s2, hp, h2, nd, bd⟩
      rw [List.take_length] at hp
      have lp : xs.length = p.length := by rw [hp, List.length_map]
      have : b = true := iff.mpr ⟨p, hp, by omega, nd, fun x hx => (bd x hx).1, fun x hx => by have := (bd x hx).2; omega⟩
      rw [this] at q
      exact q H2 s2
theorem pool_same {H H' : Hp} {g : Addr} {c : Nat} (h : PoolAt H g c) (s : Same H H') : PoolAt H' g c := by
  obtain ⟨x, y, z, e1, e2⟩ := h
  exact ⟨x, y, z, s _ _ e1, e2⟩
theorem pool_ne {H : Hp} {g b : Addr} {c : Nat} (h : PoolAt H g c) (hb : H b = none) : b ≠ g := by
  obtain ⟨x, y, z, e1, e2⟩ := h
  exact fun e => by rw [e, e1] at hb; cases hb
theorem pool_upd {H : Hp} {a so : Addr} {o : HO} {c : Nat} (h : PoolAt H a c) (ne : so ≠ a) : PoolAt (upd H so o) a c := by
  obtain ⟨x, y, z, e1, e2⟩ := h
  exact ⟨x, y, z, by rw [upd_ne ne.symm]; exact e1, e2⟩
theorem piled_le : ∀ {ts : List Str} {m : Nat}, (∀ t ∈ ts, t.length ≤ m) → piled ts ≤ ts.length * (m + 2)
  | [], m, _ => by simp [piled]
  | t :: ts, m, h => by
    have := piled_le (ts := ts) (m := m) fun x hx => h x (List.mem_cons_of_mem _ hx)
    have := h t List.mem_cons_self
    rw [List.length_cons, Nat.succ_mul, piled_cons]
    omega
theorem tupleText_le {ts : List Str} {m : Nat} (h : ∀ t ∈ ts, t.length ≤ m) : (tupleText ts).length ≤ 4 + ts.length * (m + 2) := by
  unfold tupleText
  rw [strLen_append, strLen_append]
  have e1 : (("(" : String) : Str).length = 1 := rfl
  have e2 : (((if ts.length == 1 then ",)" else ")" : String)) : Str).length ≤ 2 := by split <;> decide
  by_cases z : ts = []
  · subst z
    have : (Str.join ", " []).length = 0 := rfl
    omega
  · have := join_length_add ts z
    have := piled_le h
    omega
theorem shows_tup {M : Hp} {a : Addr} {ns : List Int} (h : M a = some (.tup (ns.map V.int))) (l : ns.length ≤ 300) (b : ∀ x ∈ ns, Mod40 x) : Shows M (.ref a) := by
  obtain ⟨ds, h1, h2, h3, h4, h5⟩ := ie_all (M := M) (xs := ns.map V.int) fun x hx => by obtain ⟨i, hi, rfl⟩ := List.mem_map.mp hx; exact ie_int (b i hi)
  refine ⟨.tuple ds, .tup h h1, by rw [PyData.showable]; exact h2, ?_, by rw [PyData.depth]; omega⟩
  rw [PyData.shown]
  refine Nat.le_trans (tupleText_le h3) ?_
  rw [h4, List.length_map]
  have := Nat.mul_le_mul_right (2000 + 2) l
  omega
theorem cut_to {xs : List V} {i : Int} (h0 : 0 ≤ i) (h1 : i ≤ (xs.length : Int)) : cutV xs none (some i) = xs.take i.toNat := by
  obtain ⟨k, rfl⟩ := Int.eq_ofNat_of_zero_le h0
  unfold cutV
  rw [HT.sIx_nat, HT.sIx_none, List.drop_zero, Nat.sub_zero, Nat.min_eq_left (by omega)]
  rfl
theorem cut_from {xs : List V} {i : Int} (h0 : 0 ≤ i) (h1 : i ≤ (xs.length : Int)) : cutV xs (some i) none = xs.drop i.toNat := by
  obtain ⟨k, rfl⟩ := Int.eq_ofNat_of_zero_le h0
  unfold cutV
  rw [HT.sIx_nat, HT.sIx_none, Nat.min_eq_left (by omega), List.take_of_length_le (by rw [List.length_drop]; omega)]
  rfl
theorem ixN_of {n : Nat} {k : Int} (h0 : 0 ≤ k) (h1 : k < (n : Int)) : ixN n k = some k.toNat := by
  unfold ixN
  rw [if_pos h0, if_pos h1]
def Sm (x : Str) : Prop := ∀ c ∈ x.cps.toList, c < 16 ^ 8
theorem sm_of (s : String) : Sm (Str.ofString s) := fun c hc => by
  rw [PyProof.Rows.signs_ofString] at hc
  obtain ⟨d, _, rfl⟩ := List.mem_map.mp hc
  have h1 : d.toNat < 4294967296 := UInt32.toNat_lt d.val
  have h2 : (16 : Nat) ^ 8 = 4294967296 := by decide
  omega
theorem sm_app {x y : Str} (hx : Sm x) (hy : Sm y) : Sm (x ++ y) := fun c hc => by
  have e : (x ++ y).cps = x.cps ++ y.cps := rfl
  rw [e, Array.toList_append] at hc
  exact (List.mem_append.mp hc).elim (hx c) (hy c)
theorem sm_from : ∀ {ts : List Str} {k : Nat} {acc : Str}, Sm acc → (∀ t ∈ ts, Sm t) → Sm (textFrom k acc ts)
  | [], k, acc, h, _ => h
  | t :: ts, k, acc, h, hs => by
    have : textFrom k acc (t :: ts) = textFrom (k + 1) (acc ++ (if k > 0 then ", " else "" : String) ++ t) ts := rfl
    rw [this]
    refine sm_from (sm_app (sm_app h (sm_of _)) (hs t List.mem_cons_self)) fun x hx => hs x (List.mem_cons_of_mem _ hx)
theorem sm_list {ts : List Str} (hs : ∀ t ∈ ts, Sm t) : Sm (listText ts) := sm_app (sm_from (sm_of "[") hs) (sm_of "]")
structure ItV (K : PySem.W.Frag) (M : Hp) (x : V) : Prop where
  el : (∃ i : Int, x = .int i) ∨ OddV K M x
  cp : Cpb M 1 x
  sh : IE M x
theorem ItV.keep {M M' : Hp} {x : V} (h : ItV K M x) (s : Same M M') : ItV K M' x := ⟨h.el.imp id fun z => z.keep s, h.cp.keep s, h.sh.keep s⟩
theorem small_all {M : Hp} : ∀ {ns : List Int}, (∀ x ∈ ns, -100 ≤ x ∧ x ≤ 100) → ∃ ds, DaA M (ns.map V.int) ds ∧ PyData.showableAll ds = true ∧ (∀ t ∈ PyData.shownAll ds, t.length ≤ 8 ∧ Sm t) ∧ (PyData.shownAll ds).length = ns.length ∧ PyData.depthAll ds ≤ 1 ∧ ds = ns.map PyData.int
  | [], _ => ⟨[], .nil, by rw [PyData.showableAll], (fun t h => by rw [PyData.shownAll] at h; cases h), by rw [PyData.shownAll]; rfl, by rw [PyData.depthAll]; omega, rfl⟩
  | x :: xs, h => by
    obtain ⟨ds, h1, h2, h3, h4, h5, h6⟩ := small_all (M := M) fun y hy => h y (List.mem_cons_of_mem _ hy)
    have hx := h x List.mem_cons_self
    have lg : x.natAbs.log2 < 7 := by
      by_cases z : x.natAbs = 0
      · rw [z, Nat.log2_zero]; omega
      · exact (Nat.log2_lt z).mpr (by omega)
    refine ⟨.int x :: ds, .cons (.int x) h1, ?_, fun t ht => ?_, by rw [PyData.shownAll, List.length_cons, List.length_cons, h4], by rw [PyData.depthAll, PyData.depth]; omega, by rw [h6]; rfl⟩
    · rw [PyData.showableAll, PyData.showable, h2, Bool.and_true]
      exact decide_eq_true (by omega)
    · rw [PyData.shownAll, PyData.shown] at ht
      rcases List.mem_cons.mp ht with z | z
      · rw [z]
        refine ⟨?_, sm_of _⟩
        rw [ofString_length]
        exact int_text_length_le (k := 7) (by decide) lg
      · exact h3 t z
theorem ie_small {M : Hp} {a : Addr} {ns : List Int} (h : M a = some (.lst (ns.map V.int))) (l : ns.length ≤ 60) (b : ∀ x ∈ ns, -100 ≤ x ∧ x ≤ 100) : ∃ d, Da M (.ref a) d ∧ d.showable = true ∧ d.shown.length ≤ 700 ∧ d.depth ≤ 2 ∧ d.hasDict = false ∧ Sm d.shown := by
  obtain ⟨ds, h1, h2, h3, h4, h5, h6⟩ := small_all (M := M) b
  refine ⟨.list ds, .lst h h1, by rw [PyData.showable]; exact h2, ?_, by rw [PyData.depth]; omega, ?_, ?_⟩
  · rw [PyData.shown]
    refine Nat.le_trans (listText_le (m := 8) fun t ht => (h3 t ht).1) ?_
    rw [h4]
    omega
  · rw [PyData.hasDict, h6]
    have : ∀ l : List Int, PyData.hasDictAll (l.map PyData.int) = false := by
      intro l
      induction l with
      | nil => rw [List.map_nil, PyData.hasDictAll]
      | cons x l ih => rw [List.map_cons, PyData.hasDictAll, PyData.hasDict, ih]; rfl
    exact this ns
  · rw [PyData.shown]
    exact sm_list fun t ht => (h3 t ht).2
theorem it_int {M : Hp} {i : Int} (h : Mod40 i) : ItV K M (.int i) := ⟨.inl ⟨i, rfl⟩, .int i, ie_int h⟩
theorem it_bl {M : Hp} (b : Bool) : ItV K M (.bl b) := ⟨.inr (odd_bl b), .bl b, ie_bl b⟩
theorem it_non {M : Hp} : ItV K M .non := ⟨.inr odd_non, .non, ie_non⟩
theorem it_str {M : Hp} {x : Str} (h : Sm x) (l : x.length ≤ 100) : ItV K M (.str x) := ⟨.inr (odd_str x), .str x, ie_str (by have := StrLaws.reprText_len x h; omega)⟩
theorem it_lst {M : Hp} {a : Addr} {ns : List Int} (h : M a = some (.lst (ns.map V.int))) (l : ns.length ≤ 60) (b : ∀ x ∈ ns, -100 ≤ x ∧ x ≤ 100) : ItV K M (.ref a) := by
  obtain ⟨d, h1, h2, h3, h4, _⟩ := ie_small h l b
  exact ⟨.inr (odd_lst h), Cpb.ints h (by omega), d, h1, h2, by omega, by omega⟩
theorem it_tup {M : Hp} {a : Addr} {i : Int} (h : M a = some (.tup [V.int i])) (b : -100 ≤ i ∧ i ≤ 100) : ItV K M (.ref a) := by
  obtain ⟨ds, h1, h2, h3, h4, h5, h6⟩ := small_all (M := M) (ns := [i]) (fun x hx => by rw [List.mem_singleton.mp hx]; exact b)
  refine ⟨.inr ⟨_, false, false, .tup h, kit_tuple_int K, kit_tuple_bool K, rfl⟩, .tup h, .tuple ds, .tup h h1, by rw [PyData.showable]; exact h2, ?_, by rw [PyData.depth]; omega⟩
  rw [PyData.shown]
  refine Nat.le_trans (tupleText_le (m := 8) fun t ht => (h3 t ht).1) ?_
  rw [h4]
  simp only [List.length_singleton]
  omega
theorem it_dic {M : Hp} {a : Addr} (h : M a = some (.dK [])) : ItV K M (.ref a) := ⟨.inr ⟨_, false, false, .dK h, kit_dict_int K, kit_dict_bool K, rfl⟩, .dic h, ie_dic h⟩
def spOdd (K : PySem.W.Frag) : Sp := fun vs H Q _ => ∃ (g l : Addr) (c : Nat) (p : List Int) (k : Int), vs = [.ref g, .ref l, .int k] ∧ PoolAt H g c ∧ c ≤ 700000 ∧ H l = some (.lst (p.map V.int)) ∧ l ≠ g ∧ (∀ x ∈ p, 0 ≤ x ∧ x < 40) ∧ p.length ≤ 40 ∧ 0 ≤ k ∧ k < p.length ∧
  ∀ (v : V) (H' : Hp), PoolAt H' g (c + 3) → KeepBut g H H' → ItV K (hole H' g g) v → Q v H'
theorem sc_law_odd : FnScope ["pool", "p", "at", "one", "far", "some"] ["pool", "p", "at"] (defScope s_law_odd) := ⟨rfl, rfl, rfl, by decide +kernel, rfl, by decide +kernel, by decide +kernel⟩
theorem ok_law_odd {f : Addr} {fd : FuncData} (F : Fun K "_law_odd" "_law_odd" s_law_odd f fd) (B : Bl mg) (c_law_take : Cal P w K mg base "_law_take" 1 ["pool", "many"] spTake) : FnOk P w K mg base CX0 2 f fd ["pool", "p", "at"] (spOdd K) := by
  refine F.ok sc_law_odd (fun vs H Q E h => ?_) (fun cdv A outer s H vs Q E hr h => ?_)
  · obtain ⟨g, l, c, p, k, rfl, P0, hc, hl, lg, pb, l40, k0, k1, q⟩ := h
    rfl
  · obtain ⟨g, l, c, p, k, rfl, P0, hc, hl, lg, pb, l40, k0, k1, q⟩ := h
    have hr_law_take : Room 1 _ := hr.mono (by decide)
    refine ⟨_, @pss_cons _ _ _ _ _ (@ps_set _ _ (3) _ _ _ _ sc_law_odd.nd rfl (Or.inl rfl) (@pe_ix _ _ _ _ _ _ _ ix_list (pv 1) (pv 2) (fun _ _ => rfl)) (by rfl) (by first | exact .inl rfl | exact .inr rfl | assumption)) (@pss_cons _ _ _ _ _ (@ps_set _ _ (4) _ _ _ _ sc_law_odd.nd rfl (Or.inl rfl) (@pe_cal _ _ _ _ _ _ _ _ _ _ c_law_take hr_law_take (@pa_cons _ _ _ _ _ (pv 0) (@pa_cons _ _ _ _ _ (@pe_op _ _ _ _ _ _ _ _ op_pow (@pe_int _ _ _ _) (@pe_int _ _ _ _)) (@pa_nil _) (by rfl)) (by rfl)) (by rfl) (by decide) (by rfl) (by rfl)) (by rfl) (by first | exact .inl rfl | exact .inr rfl | assumption)) (@pss_cons _ _ _ _ _ (@ps_set _ _ (5) _ _ _ _ sc_law_odd.nd rfl (Or.inl rfl) (@pe_lst _ _ _ _ (@pa_cons _ _ _ _ _ (@pe_lenL _ _ _ _ _ B.len (@pa_cons _ _ _ _ _ (pv 1) (@pa_nil _) (by rfl)) (by rfl) (by rfl)) (@pa_cons _ _ _ _ _ (@pe_un _ _ _ _ _ _ un_neg (@pe_int _ _ _ _)) (@pa_cons _ _ _ _ _ (@pe_op _ _ _ _ _ _ _ _ op_add (@pe_lenL _ _ _ _ _ B.len (@pa_cons _ _ _ _ _ (pv 1) (@pa_nil _) (by rfl)) (by rfl) (by rfl)) (pv 4)) (@pa_cons _ _ _ _ _ (@pe_op _ _ _ _ _ _ _ _ op_sub (@pe_un _ _ _ _ _ _ un_neg (@pe_int _ _ _ _)) (pv 4)) (@pa_cons _ _ _ _ _ (@pe_bl _ _ _ _) (@pa_cons _ _ _ _ _ (@pe_bl _ _ _ _) (@pa_cons _ _ _ _ _ (@pe_non _ _ _) (@pa_cons _ _ _ _ _ (@pe_strI _ _ _ _ _ B.str (@pa_cons _ _ _ _ _ (pv 3) (@pa_nil _) (by rfl)) (by rfl) (by rfl)) (@pa_cons _ _ _ _ _ (@pe_lst _ _ _ _ (@pa_cons _ _ _ _ _ (pv 3) (@pa_nil _) (by rfl))) (@pa_cons _ _ _ _ _ (@pe_tup _ _ _ _ _ (@pa_cons _ _ _ _ _ (pv 3) (@pa_nil _) (by rfl))) (@pa_cons _ _ _ _ _ (@pe_dnewK _ _) (@pa_cons _ _ _ _ _ (@pe_str _ _ _ _) (@pa_cons _ _ _ _ _ (@pe_op _ _ _ _ _ _ _ _ op_sub (@pe_int _ _ _ _) (pv 3)) (@pa_nil _) (by rfl)) (by rfl)) (by rfl)) (by rfl)) (by rfl)) (by rfl)) (by rfl)) (by rfl)) (by rfl)) (by rfl)) (by rfl)) (by rfl)) (by rfl))) (by rfl) (by first | exact .inl rfl | exact .inr rfl | assumption)) (@pss_one _ _ _ (@ps_ret _ _ _ _ (@pe_ix _ _ _ _ _ _ _ ix_list (@pe_op _ _ _ _ _ _ _ _ op_cat (pv 5) (@pe_lst _ _ _ _ (@pa_cons _ _ _ _ _ (@pe_ix _ _ _ _ _ _ _ ix_list (pv 1) (@pe_cal _ _ _ _ _ _ _ _ _ _ c_law_take hr_law_take (@pa_cons _ _ _ _ _ (pv 0) (@pa_cons _ _ _ _ _ (@pe_lenL _ _ _ _ _ B.len (@pa_cons _ _ _ _ _ (pv 1) (@pa_nil _) (by rfl)) (by rfl) (by rfl)) (@pa_nil _) (by rfl)) (by rfl)) (by rfl) (by decide) (by rfl) (by rfl)) (fun _ _ => rfl)) (@pa_cons _ _ _ _ _ (@pe_op _ _ _ _ _ _ _ _ op_mod (@pe_op _ _ _ _ _ _ _ _ op_add (pv 3) (@pe_int _ _ _ _)) (@pe_lenL _ _ _ _ _ B.len (@pa_cons _ _ _ _ _ (pv 1) (@pa_nil _) (by rfl)) (by rfl) (by rfl))) (@pa_nil _) (by rfl)) (by rfl)))) (@pe_cal _ _ _ _ _ _ _ _ _ _ c_law_take hr_law_take (@pa_cons _ _ _ _ _ (pv 0) (@pa_cons _ _ _ _ _ (@pe_int _ _ _ _) (@pa_nil _) (by rfl)) (by rfl)) (by rfl) (by decide) (by rfl) (by rfl)) (fun _ _ => rfl)))))), ?_⟩
    have kn : k.toNat < p.length := by omega
    obtain ⟨o, eo⟩ : ∃ o, o = p.getD k.toNat 0 := ⟨_, rfl⟩
    have ob : 0 ≤ o ∧ o < 40 := by rw [eo, Mth.getD_at kn]; exact pb _ (List.getElem_mem kn)
    have hat := Mth.atI_map (p := p) k0 k1
    rw [← eo] at hat
    refine ⟨_, rfl, _, rfl, l, _, k, _, rfl, rfl, SqL.of hl, hat, ?_⟩
    refine ⟨_, rfl, _, _, rfl, rfl, ⟨by decide, by decide, by decide⟩, g, c, _, rfl, P0, by omega, (show (0 : Int) < 10 ^ 29 by decide), (show (10 : Int) ^ 29 ≤ _ by decide), fun far H1 a0 a1 P1 kb1 => ?_⟩
    replace a1 : far < 10 ^ 29 := a1
    have e29 : (10 : Int) ^ 29 = 100000000000000000000000000000 := by decide
    rw [e29] at a1
    have h1 := kb1 _ _ hl lg
    have lgo : o.natAbs.log2 < 1920 := log_ltk (by decide) (by omega) (by omega)
    refine ⟨_, rfl, l, _, rfl, .inl (SqL.of h1), _, rfl, _, rfl, l, _, rfl, .inl (SqL.of h1), _, rfl, _, _, rfl, rfl, _, rfl, _, rfl, _, _, rfl, rfl, _, rfl, _, rfl, lgo, _, rfl, (show 1 ≤ sizeLine by decide), fun l1 n1 => ?_⟩
    have s2 : Same H1 (upd H1 l1 (.lst [V.int o])) := Same.upd_new n1
    have g2 : (upd H1 l1 (.lst [V.int o])) l1 = some (.lst (([o] : List Int).map V.int)) := upd_same
    have ng1 : l1 ≠ g := pool_ne P1 n1
    have P2 := pool_same P1 s2
    generalize (upd H1 l1 (.lst [V.int o])) = H2 at s2 g2 P2 ⊢
    refine ⟨_, rfl, (show 1 ≤ sizeLine by decide), fun t1 n2 => ?_⟩
    have s3 : Same H2 (upd H2 t1 (.tup [V.int o])) := Same.upd_new n2
    have g3 : (upd H2 t1 (.tup [V.int o])) t1 = some (.tup [V.int o]) := upd_same
    have ng2 : t1 ≠ g := pool_ne P2 n2
    have P3 := pool_same P2 s3
    generalize (upd H2 t1 (.tup [V.int o])) = H3 at s3 g3 P3 ⊢
    refine fun d1 n3 => ?_
    have s4 : Same H3 (upd H3 d1 (.dK [])) := Same.upd_new n3
    have g4 : (upd H3 d1 (.dK [])) d1 = some (.dK []) := upd_same
    have ng3 : d1 ≠ g := pool_ne P3 n3
    have P4 := pool_same P3 s4
    generalize (upd H3 d1 (.dK [])) = H4 at s4 g4 P4 ⊢
    refine ⟨_, rfl, _, _, rfl, rfl, (show 13 ≤ sizeLine by decide), fun so n4 => ?_⟩
    obtain ⟨xs, exs⟩ : ∃ xs : List V, xs = [V.int (((p.map V.int).length : Nat) : Int), V.int (-1), V.int ((((p.map V.int).length : Nat) : Int) + far), V.int (-1 - far), V.bl true, V.bl false, V.non, V.str (Str.ofString (toString o)), V.ref l1, V.ref t1, V.ref d1, V.str (Str.ofString ""), V.int (0 - o)] := ⟨_, rfl⟩
    have s5 : Same H4 (upd H4 so (.lst xs)) := Same.upd_new n4
    have g5 : (upd H4 so (.lst xs)) so = some (.lst xs) := upd_same
    have ng4 : so ≠ g := pool_ne P4 n4
    have P5 := pool_same P4 s5
    have s15 : Same H1 (upd H4 so (.lst xs)) := s2.trans (s3.trans (s4.trans s5))
    have e1 := s5 _ _ (s4 _ _ (s3 _ _ g2))
    have e2 := s5 _ _ (s4 _ _ g3)
    have e3 := s5 _ _ g4
    show gName 5 (V.ref so) _ (upd H4 so (.lst [V.int (((p.map V.int).length : Nat) : Int), V.int (-1), V.int ((((p.map V.int).length : Nat) : Int) + far), V.int (-1 - far), V.bl true, V.bl false, V.non, V.str (Str.ofString (toString o)), V.ref l1, V.ref t1, V.ref d1, V.str (Str.ofString ""), V.int (0 - o)])) _
    rw [← exs]
    generalize (upd H4 so (.lst xs)) = H5 at s5 g5 P5 s15 e1 e2 e3 ⊢
    have h5 := s15 _ _ h1
    have pl : (0 : Int) < (p.length : Int) := by omega
    refine ⟨_, rfl, _, rfl, _, rfl, _, rfl, l, _, rfl, .inl (SqL.of h5), g, _, _, rfl, P5, by omega, (by rw [List.length_map]; exact pl), (by rw [List.length_map]; omega), fun r2 H6 b0 b1 P6 kb6 => ?_⟩
    rw [List.length_map] at b1
    have h6 := kb6 _ _ h5 lg
    refine ⟨l, _, r2, _, rfl, rfl, SqL.of h6, Mth.atI_map (p := p) b0 b1, _, rfl, _, _, rfl, rfl, _, rfl, l, _, rfl, .inl (SqL.of h6), o + 1, ((p.length : Nat) : Int), rfl, congrArg V.int (by rw [List.length_map]), pl, (show 2 ≤ sizeLine by decide), fun l2 n6 => ?_⟩
    have m0 := Int.emod_nonneg (o + 1) (show ((p.length : Nat) : Int) ≠ 0 by omega)
    have m1 := Int.emod_lt_of_pos (o + 1) pl
    obtain ⟨o2, eo2⟩ : ∃ o2, o2 = (o + 1) % ((p.length : Nat) : Int) := ⟨_, rfl⟩
    obtain ⟨o1, eo1⟩ : ∃ o1, o1 = p.getD r2.toNat 0 := ⟨_, rfl⟩
    have rn : r2.toNat < p.length := by omega
    have o1b : 0 ≤ o1 ∧ o1 < 40 := by rw [eo1, Mth.getD_at rn]; exact pb _ (List.getElem_mem rn)
    rw [← eo2] at m0 m1
    show ∃ _, _
    rw [← eo1]
    have s7 : Same H6 (upd H6 l2 (.lst [V.int o1, V.int ((o + 1) % ((p.length : Nat) : Int))])) := Same.upd_new n6
    have g7 : (upd H6 l2 (.lst [V.int o1, V.int ((o + 1) % ((p.length : Nat) : Int))])) l2 = some (.lst [V.int o1, V.int o2]) := by rw [upd_same, eo2]
    have P7 := pool_same P6 s7
    generalize (upd H6 l2 (.lst [V.int o1, V.int ((o + 1) % ((p.length : Nat) : Int))])) = H7 at s7 g7 P7 ⊢
    have lx : xs.length = 13 := by rw [exs]; rfl
    refine ⟨so, l2, _, _, rfl, rfl, s7 _ _ (kb6 _ _ g5 ng4), g7, (show xs.length + 2 ≤ sizeLine by rw [lx]; decide), fun l3 n7 => ?_⟩
    have s8 : Same H7 (upd H7 l3 (.lst (xs ++ [V.int o1, V.int o2]))) := Same.upd_new n7
    have g8 : (upd H7 l3 (.lst (xs ++ [V.int o1, V.int o2]))) l3 = some (.lst (xs ++ [V.int o1, V.int o2])) := upd_same
    have ng5 : l3 ≠ g := pool_ne P7 n7
    have P8 := pool_same P7 s8
    generalize (upd H7 l3 (.lst (xs ++ [V.int o1, V.int o2]))) = H8 at s8 g8 P8 ⊢
    refine ⟨_, rfl, g, _, _, rfl, P8, by omega, (show (0 : Int) < 15 by decide), (show (15 : Int) ≤ _ by decide), fun r3 H9 c0 c1 P9 kb9 => ?_⟩
    have g9 := kb9 _ _ g8 ng5
    have ly : (xs ++ [V.int o1, V.int o2]).length = 15 := by rw [List.length_append, lx]; rfl
    obtain ⟨j, rfl⟩ := Int.eq_ofNat_of_zero_le c0
    have jl : j < (xs ++ [V.int o1, V.int o2]).length := by rw [ly]; omega
    refine ⟨l3, _, _, _, rfl, rfl, SqL.of g9, atI_nat (List.getElem?_eq_getElem jl), ?_⟩
    have k19 : KeepBut g H1 H9 := ((s15.but g).trans kb6).trans (((s7.trans s8).but g).trans kb9)
    have kk : ∀ a u, H5 a = some u → a ≠ g → hole H9 g g a = some u := fun a u e n => hole_of (((kb6.trans ((s7.trans s8).but g)).trans kb9) _ _ e n) n n
    refine q _ H9 P9 (kb1.trans k19) ?_
    have all : ∀ x ∈ xs ++ [V.int o1, V.int o2], ItV K (hole H9 g g) x := by
      intro x hx
      rw [exs, List.length_map] at hx
      simp only [List.cons_append, List.nil_append, List.mem_cons, List.not_mem_nil, or_false] at hx
      have lo : (Str.ofString (toString o)).length ≤ 8 := by
        rw [ofString_length]
        exact int_text_length_le (k := 7) (by decide) (by
          by_cases z : o.natAbs = 0
          · rw [z, Nat.log2_zero]; omega
          · exact (Nat.log2_lt z).mpr (by omega))
      rcases hx with rfl | rfl | rfl | rfl | rfl | rfl | rfl | rfl | rfl | rfl | rfl | rfl | rfl | rfl | rfl
      · exact it_int ⟨by omega, by omega⟩
      · exact it_int ⟨by omega, by omega⟩
      · exact it_int ⟨by omega, by omega⟩
      · exact it_int ⟨by omega, by omega⟩
      · exact it_bl true
      · exact it_bl false
      · exact it_non
      · exact it_str (sm_of _) (by omega)
      · exact it_lst (ns := [o]) (kk _ _ e1 ng1) (by simp) fun x hx => by rw [List.mem_singleton.mp hx]; omega
      · exact it_tup (kk _ _ e2 ng2) (by omega)
      · exact it_dic (kk _ _ e3 ng3)
      · exact it_str (sm_of "") (by decide)
      · exact it_int ⟨by omega, by omega⟩
      · exact it_int ⟨by omega, by omega⟩
      · exact it_int ⟨by omega, by omega⟩
    exact all _ (List.getElem_mem jl)
def ShX (M : Hp) (v : V) : Prop := Shows M v ∨ ∃ (a : Addr) (ns : List Int), v = .ref a ∧ M a = some (.dK (enKV (ns.map V.int))) ∧ ns.length ≤ 40 ∧ ∀ x ∈ ns, 0 ≤ x ∧ x < 40
theorem ShX.keep {M M' : Hp} {v : V} (h : ShX M v) (s : Same M M') : ShX M' v := by
  rcases h with h | ⟨a, ns, e, h, r⟩
  · exact .inl (h.keep s)
  · exact .inr ⟨a, ns, e, s _ _ h, r⟩
structure ThV (K : PySem.W.Frag) (M : Hp) (v : V) : Prop where
  jd : ∃ b, Jd K M v b
  cp : Cpb M 2 v
  sh : ShX M v
theorem ThV.keep {M M' : Hp} {v : V} (h : ThV K M v) (s : Same M M') : ThV K M' v := ⟨let ⟨b, j⟩ := h.jd; ⟨b, j.keep s⟩, h.cp.keep s, h.sh.keep s⟩
theorem th_list {M : Hp} {a : Addr} {xs : List V} (h : M a = some (.lst xs)) (hx : ∀ x ∈ xs, ItV K M x) (l : xs.length ≤ 300) : ThV K M (.ref a) :=
  ⟨jd_list h (fun x m => (hx x m).el), .lst h (by omega) (fun x m => (hx x m).cp), .inl (shows_list h (fun x m => (hx x m).sh) l)⟩
theorem th_no {M : Hp} {v : V} {t : Value} (ty : TyOf K M v t) (kt : PySem.W.kitOne K t (.type "list") = some false) (cp : Cpb M 2 v) (sh : ShX M v) : ThV K M v := ⟨⟨false, .inl ⟨.inl ⟨t, ty, kt⟩, rfl⟩⟩, cp, sh⟩
theorem it_small {M : Hp} {ns : List Int} (b : ∀ x ∈ ns, -100 ≤ x ∧ x ≤ 100) : ∀ x ∈ ns.map V.int, ItV K M x := fun x hx => by
  obtain ⟨i, hi, rfl⟩ := List.mem_map.mp hx
  have := b i hi
  exact it_int ⟨by omega, by omega⟩
theorem orWays {A B G : Hp → Prop} {T : Prop} {b : Bool} {H1 : Hp} (h1 : b = true → G H1) (h2 : (∀ H, G H → A H) → T) (hA : ∀ H, G H → A H) : (if b = true then (if true = true then A H1 else B H1) else T) := by
  cases b with
  | true => exact hA H1 (h1 rfl)
  | false => exact h2 hA
def spSpoilt (K : PySem.W.Frag) : Sp := fun vs H Q _ => ∃ (g l : Addr) (c : Nat) (p : List Int), vs = [.ref g, .ref l] ∧ PoolAt H g c ∧ c ≤ 600000 ∧ H l = some (.lst (p.map V.int)) ∧ l ≠ g ∧ (∀ x ∈ p, 0 ≤ x ∧ x < 40) ∧ p.length ≤ 40 ∧
  ∀ (v : V) (H' : Hp), PoolAt H' g (c + 60) → KeepBut g H H' → ThV K (hole H' g g) v → Q v H'
theorem sc_law_spoilt : FnScope ["pool", "p", "way", "some", "at", "found", "to", "step"] ["pool", "p"] (defScope s_law_spoilt) := ⟨rfl, rfl, rfl, by decide +kernel, rfl, by decide +kernel, by decide +kernel⟩
theorem nd_one_pool_p_law_spoilt : (["one", "pool", "p"] : List Str).Nodup := by decide +kernel
theorem ok_law_spoilt {f : Addr} {fd : FuncData} (F : Fun K "_law_spoilt" "_law_spoilt" s_law_spoilt f fd) (B : Bl mg) (c_law_take : Cal P w K mg base "_law_take" 1 ["pool", "many"] spTake) (c_law_odd : Cal P w K mg base "_law_odd" 2 ["pool", "p", "at"] (spOdd K)) : FnOk P w K mg base CX0 3 f fd ["pool", "p"] (spSpoilt K) := by
  refine F.ok sc_law_spoilt (fun vs H Q E h => ?_) (fun cdv A outer s H vs Q E hr h => ?_)
  · obtain ⟨g, l, c, p, rfl, P0, hc, hl, lg, pb, l40, q⟩ := h
    rfl
  · obtain ⟨g, l, c, p, rfl, P0, hc, hl, lg, pb, l40, q⟩ := h
    have hr_law_take : Room 1 _ := hr.mono (by decide)
    have hr_law_odd : Room 2 _ := hr.mono (by decide)
    have hu := hu_of hr
    have hug : _ + 16 < cLine := Nat.lt_of_le_of_lt (Nat.add_le_add_left (by decide : 16 ≤ 64) _) hr.units
    refine ⟨_, @pss_cons _ _ _ _ _ (@ps_set _ _ (2) _ _ _ _ sc_law_spoilt.nd rfl (Or.inl rfl) (@pe_cal _ _ _ _ _ _ _ _ _ _ c_law_take hr_law_take (@pa_cons _ _ _ _ _ (pv 0) (@pa_cons _ _ _ _ _ (@pe_int _ _ _ _) (@pa_nil _) (by rfl)) (by rfl)) (by rfl) (by decide) (by rfl) (by rfl)) (by rfl) (by first | exact .inl rfl | exact .inr rfl | assumption)) (@pss_cons _ _ _ _ _ (@ps_if _ _ _ _ _ _ _ _ (@pw_or _ _ _ _ _ _ _ (@pt_cmpR _ _ _ _ _ _ _ _ op_eq (pv 2) (@pe_int _ _ _ _) (nomark _)) (@pw_or1 _ _ _ _ (@pt_cmpR _ _ _ _ _ _ _ _ (op_eqL 0 hu) (pv 1) (@pe_lst _ _ _ _ (@pa_nil _)) (nomark _)))).pt (@pss_cons _ _ _ _ _ (@ps_set _ _ (3) _ _ _ _ sc_law_spoilt.nd rfl (Or.inl rfl) (@pe_lst _ _ _ _ (@pa_cons _ _ _ _ _ (@pe_callTy _ _ _ _ _ _ _ _ _ call_tuple_of (by rfl) B.tuple boot_tupleT (@pa_cons _ _ _ _ _ (pv 1) (@pa_nil _) (by rfl)) (by decide) (by decide) (by rfl) (by rfl)) (@pa_cons _ _ _ _ _ (@pe_non _ _ _) (@pa_cons _ _ _ _ _ (@pe_strD _ _ _ _ _ hug hr.gd B.str (@pa_cons _ _ _ _ _ (pv 1) (@pa_nil _) (by rfl)) (by rfl) (by rfl)) (@pa_cons _ _ _ _ _ (@pe_dnewK _ _) (@pa_cons _ _ _ _ _ (@pe_op _ _ _ _ _ _ _ _ op_cat (pv 1) (@pe_lst _ _ _ _ (@pa_cons _ _ _ _ _ (@pe_op _ _ _ _ _ _ _ _ op_add (@pe_lenL _ _ _ _ _ B.len (@pa_cons _ _ _ _ _ (pv 1) (@pa_nil _) (by rfl)) (by rfl) (by rfl)) (@pe_int _ _ _ _)) (@pa_nil _) (by rfl)))) (@pa_cons _ _ _ _ _ (@pe_lst _ _ _ _ (@pa_cons _ _ _ _ _ (pv 1) (@pa_nil _) (by rfl))) (@pa_cons _ _ _ _ _ (@pe_bl _ _ _ _) (@pa_cons _ _ _ _ _ (@pe_int _ _ _ _) (@pa_cons _ _ _ _ _ (@pe_tup _ _ _ _ _ (@pa_cons _ _ _ _ _ (pv 1) (@pa_nil _) (by rfl))) (@pa_cons _ _ _ _ _ (@pe_dictE _ _ _ _ _ _ _ rfl B.dict B.enum (@pa_cons _ _ _ _ _ (pv 1) (@pa_nil _) (by rfl)) (by rfl) (by rfl) (by rfl) (by rfl)) (@pa_cons _ _ _ _ _ (@pe_op _ _ _ _ _ _ _ _ op_cat (pv 1) (@pe_lst _ _ _ _ (@pa_cons _ _ _ _ _ (pv 1) (@pa_nil _) (by rfl)))) (@pa_cons _ _ _ _ _ (@pe_str _ _ _ _) (@pa_nil _) (by rfl)) (by rfl)) (by rfl)) (by rfl)) (by rfl)) (by rfl)) (by rfl)) (by rfl)) (by rfl)) (by rfl)) (by rfl)) (by rfl))) (by rfl) (by first | exact .inl rfl | exact .inr rfl | assumption)) (@pss_one _ _ _ (@ps_ret _ _ _ _ (@pe_ix _ _ _ _ _ _ _ ix_list (pv 3) (@pe_cal _ _ _ _ _ _ _ _ _ _ c_law_take hr_law_take (@pa_cons _ _ _ _ _ (pv 0) (@pa_cons _ _ _ _ _ (@pe_int _ _ _ _) (@pa_nil _) (by rfl)) (by rfl)) (by rfl) (by decide) (by rfl) (by rfl)) (fun _ _ => rfl))))) (@pss_nil _)) (@pss_cons _ _ _ _ _ (@ps_set _ _ (4) _ _ _ _ sc_law_spoilt.nd rfl (Or.inl rfl) (@pe_cal _ _ _ _ _ _ _ _ _ _ c_law_take hr_law_take (@pa_cons _ _ _ _ _ (pv 0) (@pa_cons _ _ _ _ _ (@pe_lenL _ _ _ _ _ B.len (@pa_cons _ _ _ _ _ (pv 1) (@pa_nil _) (by rfl)) (by rfl) (by rfl)) (@pa_nil _) (by rfl)) (by rfl)) (by rfl) (by decide) (by rfl) (by rfl)) (by rfl) (by first | exact .inl rfl | exact .inr rfl | assumption)) (@pss_cons _ _ _ _ _ (@ps_if _ _ _ _ _ _ _ _ (@pt_cmpR _ _ _ _ _ _ _ _ op_gt (pv 2) (@pe_int _ _ _ _) (nomark _)) (@pss_one _ _ _ (@ps_ret _ _ _ _ (@pe_comp _ _ _ _ _ _ _ _ _ _ _ (["one", "pool", "p"]) (1) ([0, 1]) rfl .of (@pi_list _ _ _ _ (pv 1)) (fun _ _ _ _ _ => @pg_name _ _ (0) _ nd_one_pool_p_law_spoilt rfl (Or.inl rfl) (by first | exact .inl rfl | exact .inr rfl | assumption)) (fun _ _ _ _ _ => (@pifs_nil _)) (fun _ _ _ _ _ => (@pe_cal _ _ _ _ _ _ _ _ _ _ c_law_take hr_law_take (@pa_cons _ _ _ _ _ (pv 1) (@pa_cons _ _ _ _ _ (@pe_lenLK _ _ _ _ _ K (by exact B.len) (@pa_cons _ _ _ _ _ (pv 2) (@pa_nil _) (by rfl)) (by rfl) (by rfl) (by rfl)) (@pa_nil _) (by rfl)) (by rfl)) (by rfl) (by decide) (by rfl) (by rfl))) (by intro _; rfl)))) (@pss_nil _)) (@pss_cons _ _ _ _ _ (@ps_if _ _ _ _ _ _ _ _ (@pt_cmpR _ _ _ _ _ _ _ _ op_gt (pv 2) (@pe_int _ _ _ _) (nomark _)) (@pss_cons _ _ _ _ _ (@ps_set _ _ (5) _ _ _ _ sc_law_spoilt.nd rfl (Or.inl rfl) (@pe_listOf _ _ _ _ _ B.list (@pa_cons _ _ _ _ _ (pv 1) (@pa_nil _) (by rfl)) (by rfl) (by rfl)) (by rfl) (by first | exact .inl rfl | exact .inr rfl | assumption)) (@pss_cons _ _ _ _ _ (@ps_set _ _ (6) _ _ _ _ sc_law_spoilt.nd rfl (Or.inl rfl) (@pe_cal _ _ _ _ _ _ _ _ _ _ c_law_take hr_law_take (@pa_cons _ _ _ _ _ (pv 0) (@pa_cons _ _ _ _ _ (@pe_lenL _ _ _ _ _ B.len (@pa_cons _ _ _ _ _ (pv 1) (@pa_nil _) (by rfl)) (by rfl) (by rfl)) (@pa_nil _) (by rfl)) (by rfl)) (by rfl) (by decide) (by rfl) (by rfl)) (by rfl) (by first | exact .inl rfl | exact .inr rfl | assumption)) (@pss_cons _ _ _ _ _ (@ps_set _ _ (7) _ _ _ _ sc_law_spoilt.nd rfl (Or.inl rfl) (@pe_op _ _ _ _ _ _ _ _ op_add (@pe_int _ _ _ _) (@pe_cal _ _ _ _ _ _ _ _ _ _ c_law_take hr_law_take (@pa_cons _ _ _ _ _ (pv 0) (@pa_cons _ _ _ _ _ (@pe_int _ _ _ _) (@pa_nil _) (by rfl)) (by rfl)) (by rfl) (by decide) (by rfl) (by rfl))) (by rfl) (by first | exact .inl rfl | exact .inr rfl | assumption)) (@pss_cons _ _ _ _ _ (@ps_asg _ _ _ _ _ _ (@pe_op _ _ _ _ _ _ _ _ op_add (@pe_ix _ _ _ _ _ _ _ ix_list (pv 5) (pv 4) (fun _ _ => rfl)) (pv 7)) (@pg_sub _ _ _ _ _ _ _ (pv 5) (pv 4) set_list (by intro _; rfl)) (by rfl) (by rfl) (by rfl)) (@pss_cons _ _ _ _ _ (@ps_asg _ _ _ _ _ _ (@pe_op _ _ _ _ _ _ _ _ op_sub (@pe_ix _ _ _ _ _ _ _ ix_list (pv 5) (pv 6) (fun _ _ => rfl)) (pv 7)) (@pg_sub _ _ _ _ _ _ _ (pv 5) (pv 6) set_list (by intro _; rfl)) (by rfl) (by rfl) (by rfl)) (@pss_one _ _ _ (@ps_ret _ _ _ _ (pv 5)))))))) (@pss_nil _)) (@pss_cons _ _ _ _ _ (@ps_if _ _ _ _ _ _ _ _ (@pt_cmpR _ _ _ _ _ _ _ _ op_eq (pv 2) (@pe_int _ _ _ _) (nomark _)) (@pss_one _ _ _ (@ps_ret _ _ _ _ (@pe_op _ _ _ _ _ _ _ _ op_cat (@pe_slice _ _ _ _ _ _ _ _ _ _ sl_list (pv 1) (@po_none _) (@po_some _ _ _ (pv 4))) (@pe_slice _ _ _ _ _ _ _ _ _ _ sl_list (pv 1) (@po_some _ _ _ (@pe_op _ _ _ _ _ _ _ _ op_add (pv 4) (@pe_int _ _ _ _))) (@po_none _))))) (@pss_nil _)) (@pss_cons _ _ _ _ _ (@ps_if _ _ _ _ _ _ _ _ (@pt_cmpR _ _ _ _ _ _ _ _ op_eq (pv 2) (@pe_int _ _ _ _) (nomark _)) (@pss_one _ _ _ (@ps_ret _ _ _ _ (@pe_op _ _ _ _ _ _ _ _ op_cat (@pe_op _ _ _ _ _ _ _ _ op_cat (@pe_slice _ _ _ _ _ _ _ _ _ _ sl_list (pv 1) (@po_none _) (@po_some _ _ _ (pv 4))) (@pe_lst _ _ _ _ (@pa_cons _ _ _ _ _ (@pe_cal _ _ _ _ _ _ _ _ _ _ c_law_odd hr_law_odd (@pa_cons _ _ _ _ _ (pv 0) (@pa_cons _ _ _ _ _ (pv 1) (@pa_cons _ _ _ _ _ (pv 4) (@pa_nil _) (by rfl)) (by rfl)) (by rfl)) (by rfl) (by decide) (by rfl) (by rfl)) (@pa_nil _) (by rfl)))) (@pe_slice _ _ _ _ _ _ _ _ _ _ sl_list (pv 1) (@po_some _ _ _ (pv 4)) (@po_none _))))) (@pss_nil _)) (@pss_cons _ _ _ _ _ (@ps_if _ _ _ _ _ _ _ _ (@pt_cmpR _ _ _ _ _ _ _ _ op_eq (pv 2) (@pe_int _ _ _ _) (nomark _)) (@pss_one _ _ _ (@ps_ret _ _ _ _ (@pe_op _ _ _ _ _ _ _ _ op_cat (@pe_op _ _ _ _ _ _ _ _ op_cat (@pe_slice _ _ _ _ _ _ _ _ _ _ sl_list (pv 1) (@po_none _) (@po_some _ _ _ (pv 4))) (@pe_lst _ _ _ _ (@pa_cons _ _ _ _ _ (@pe_ix _ _ _ _ _ _ _ ix_list (@pe_lst _ _ _ _ (@pa_cons _ _ _ _ _ (@pe_un _ _ _ _ _ _ un_neg (@pe_int _ _ _ _)) (@pa_cons _ _ _ _ _ (@pe_bl _ _ _ _) (@pa_cons _ _ _ _ _ (@pe_non _ _ _) (@pa_cons _ _ _ _ _ (@pe_lenL _ _ _ _ _ B.len (@pa_cons _ _ _ _ _ (pv 1) (@pa_nil _) (by rfl)) (by rfl) (by rfl)) (@pa_nil _) (by rfl)) (by rfl)) (by rfl)) (by rfl))) (@pe_cal _ _ _ _ _ _ _ _ _ _ c_law_take hr_law_take (@pa_cons _ _ _ _ _ (pv 0) (@pa_cons _ _ _ _ _ (@pe_int _ _ _ _) (@pa_nil _) (by rfl)) (by rfl)) (by rfl) (by decide) (by rfl) (by rfl)) (fun _ _ => rfl)) (@pa_nil _) (by rfl)))) (@pe_slice _ _ _ _ _ _ _ _ _ _ sl_list (pv 1) (@po_some _ _ _ (pv 4)) (@po_none _))))) (@pss_nil _)) (@pss_one _ _ _ (@ps_ret _ _ _ _ (@pe_op _ _ _ _ _ _ _ _ op_cat (@pe_op _ _ _ _ _ _ _ _ op_cat (@pe_slice _ _ _ _ _ _ _ _ _ _ sl_list (pv 1) (@po_none _) (@po_some _ _ _ (pv 4))) (@pe_lst _ _ _ _ (@pa_cons _ _ _ _ _ (@pe_cal _ _ _ _ _ _ _ _ _ _ c_law_odd hr_law_odd (@pa_cons _ _ _ _ _ (pv 0) (@pa_cons _ _ _ _ _ (pv 1) (@pa_cons _ _ _ _ _ (pv 4) (@pa_nil _) (by rfl)) (by rfl)) (by rfl)) (by rfl) (by decide) (by rfl) (by rfl)) (@pa_nil _) (by rfl)))) (@pe_slice _ _ _ _ _ _ _ _ _ _ sl_list (pv 1) (@po_some _ _ _ (@pe_op _ _ _ _ _ _ _ _ op_add (pv 4) (@pe_int _ _ _ _))) (@po_none _)))))))))))), ?_⟩
    refine ⟨_, rfl, g, c, 12, rfl, P0, by omega, by decide, by decide, fun way H1 w0 w1 P1 kb1 => ?_⟩
    have h1 := kb1 _ _ hl lg
    have lm : (p.map V.int).length = p.length := List.length_map ..
    have pb2 : ∀ x ∈ p, -100 ≤ x ∧ x ≤ 100 := fun x hx => by have := pb x hx; omega
    refine ⟨_, rfl, rfl, _, rfl, orWays (G := fun H' => PoolAt H' g (c + 1) ∧ KeepBut g H H') (fun _ => ⟨P1, kb1⟩) (fun hA => ?_) ?_⟩
    rotate_left
    · rintro H2 ⟨P2, kb2⟩
      have h2 := kb2 _ _ hl lg
      refine ⟨_, rfl, l, _, rfl, .inl ⟨SqL.of h2, fun t1 n3 => ?_⟩⟩
      have s3 : Same H2 (upd H2 t1 (.tup (p.map V.int))) := Same.upd_new n3
      have g3 : (upd H2 t1 (.tup (p.map V.int))) t1 = some (.tup (p.map V.int)) := upd_same
      have ng3 : t1 ≠ g := pool_ne P2 n3
      have P3 := pool_same P2 s3
      generalize (upd H2 t1 (.tup (p.map V.int))) = H3 at s3 g3 P3 ⊢
      have h3 := s3 _ _ h2
      obtain ⟨dp, da, ds, dl, dd, dn, dm⟩ := ie_small h3 (by omega) pb2
      refine ⟨_, rfl, l, dp, rfl, ⟨da, ds, Nat.le_trans dl (by decide), by omega⟩, dn, fun d1 n4 => ?_⟩
      have s4 : Same H3 (upd H3 d1 (.dK [])) := Same.upd_new n4
      have g4 : (upd H3 d1 (.dK [])) d1 = some (.dK []) := upd_same
      have ng4 : d1 ≠ g := pool_ne P3 n4
      have P4 := pool_same P3 s4
      generalize (upd H3 d1 (.dK [])) = H4 at s4 g4 P4 ⊢
      have h4 := s4 _ _ h3
      refine ⟨_, rfl, _, rfl, l, _, rfl, .inl (SqL.of h4), _, _, rfl, rfl, (show 1 ≤ sizeLine by decide), fun l2 n5 => ?_⟩
      have s5 : Same H4 (upd H4 l2 (.lst [V.int (((p.map V.int).length : Int) + 1)])) := Same.upd_new n5
      have g5 : (upd H4 l2 (.lst [V.int (((p.map V.int).length : Int) + 1)])) l2 = some (.lst [V.int (((p.map V.int).length : Int) + 1)]) := upd_same
      have ng5 : l2 ≠ g := pool_ne P4 n5
      have P5 := pool_same P4 s5
      generalize (upd H4 l2 (.lst [V.int (((p.map V.int).length : Int) + 1)])) = H5 at s5 g5 P5 ⊢
      have h5 := s5 _ _ h4
      refine ⟨l, l2, _, _, rfl, rfl, h5, g5, Nat.le_of_lt (small1000 (by rw [lm]; show p.length + 1 ≤ 1000; omega)), fun l3 n6 => ?_⟩
      have s6 : Same H5 (upd H5 l3 (.lst (p.map V.int ++ [V.int (((p.map V.int).length : Int) + 1)]))) := Same.upd_new n6
      have g6 : (upd H5 l3 (.lst (p.map V.int ++ [V.int (((p.map V.int).length : Int) + 1)]))) l3 = some (.lst (p.map V.int ++ [V.int (((p.map V.int).length : Int) + 1)])) := upd_same
      have ng6 : l3 ≠ g := pool_ne P5 n6
      have P6 := pool_same P5 s6
      generalize (upd H5 l3 (.lst (p.map V.int ++ [V.int (((p.map V.int).length : Int) + 1)]))) = H6 at s6 g6 P6 ⊢
      have h6 := s6 _ _ h5
      refine ⟨_, rfl, (show 1 ≤ sizeLine by decide), fun l4 n7 => ?_⟩
      have s7 : Same H6 (upd H6 l4 (.lst [V.ref l])) := Same.upd_new n7
      have g7 : (upd H6 l4 (.lst [V.ref l])) l4 = some (.lst [V.ref l]) := upd_same
      have ng7 : l4 ≠ g := pool_ne P6 n7
      have P7 := pool_same P6 s7
      generalize (upd H6 l4 (.lst [V.ref l])) = H7 at s7 g7 P7 ⊢
      have h7 := s7 _ _ h6
      refine ⟨_, rfl, (show 1 ≤ sizeLine by decide), fun t2 n8 => ?_⟩
      have s8 : Same H7 (upd H7 t2 (.tup [V.ref l])) := Same.upd_new n8
      have g8 : (upd H7 t2 (.tup [V.ref l])) t2 = some (.tup [V.ref l]) := upd_same
      have ng8 : t2 ≠ g := pool_ne P7 n8
      have P8 := pool_same P7 s8
      generalize (upd H7 t2 (.tup [V.ref l])) = H8 at s8 g8 P8 ⊢
      have h8 := s8 _ _ h7
      refine ⟨_, rfl, l, _, rfl, SqL.of h8, by rw [lm]; omega, fun d2 n9 => ?_⟩
      have s9 : Same H8 (upd H8 d2 (.dK (enKV (p.map V.int)))) := Same.upd_new n9
      have g9 : (upd H8 d2 (.dK (enKV (p.map V.int)))) d2 = some (.dK (enKV (p.map V.int))) := upd_same
      have ng9 : d2 ≠ g := pool_ne P8 n9
      have P9 := pool_same P8 s9
      generalize (upd H8 d2 (.dK (enKV (p.map V.int)))) = H9 at s9 g9 P9 ⊢
      have h9 := s9 _ _ h8
      refine ⟨_, rfl, _, rfl, (show 1 ≤ sizeLine by decide), fun l5 n10 => ?_⟩
      have s10 : Same H9 (upd H9 l5 (.lst [V.ref l])) := Same.upd_new n10
      have g10 : (upd H9 l5 (.lst [V.ref l])) l5 = some (.lst [V.ref l]) := upd_same
      have ng10 : l5 ≠ g := pool_ne P9 n10
      have P10 := pool_same P9 s10
      generalize (upd H9 l5 (.lst [V.ref l])) = H10 at s10 g10 P10 ⊢
      have h10 := s10 _ _ h9
      refine ⟨l, l5, _, _, rfl, rfl, h10, g10, Nat.le_of_lt (small1000 (by rw [lm]; show p.length + 1 ≤ 1000; omega)), fun l6 n11 => ?_⟩
      have s11 : Same H10 (upd H10 l6 (.lst (p.map V.int ++ [V.ref l]))) := Same.upd_new n11
      have g11 : (upd H10 l6 (.lst (p.map V.int ++ [V.ref l]))) l6 = some (.lst (p.map V.int ++ [V.ref l])) := upd_same
      have ng11 : l6 ≠ g := pool_ne P10 n11
      have P11 := pool_same P10 s11
      generalize (upd H10 l6 (.lst (p.map V.int ++ [V.ref l]))) = H11 at s11 g11 P11 ⊢
      have h11 := s11 _ _ h10
      refine ⟨(show 12 ≤ sizeLine by decide), fun so n12 => ?_⟩
      obtain ⟨xs, exs⟩ : ∃ xs : List V, xs = [V.ref t1, V.non, V.str dp.shown, V.ref d1, V.ref l3, V.ref l4, V.bl true, V.int 0, V.ref t2, V.ref d2, V.ref l6, V.str (Str.ofString "")] := ⟨_, rfl⟩
      show gName 3 (V.ref so) _ (upd H11 so (.lst [V.ref t1, V.non, V.str dp.shown, V.ref d1, V.ref l3, V.ref l4, V.bl true, V.int 0, V.ref t2, V.ref d2, V.ref l6, V.str (Str.ofString "")])) _
      rw [← exs]
      have s12 : Same H11 (upd H11 so (.lst xs)) := Same.upd_new n12
      have g12 : (upd H11 so (.lst xs)) so = some (.lst xs) := upd_same
      have ng12 : so ≠ g := pool_ne P11 n12
      have P12 := pool_same P11 s12
      generalize (upd H11 so (.lst xs)) = H12 at s12 g12 P12 ⊢
      refine ⟨_, rfl, _, rfl, g, _, 12, rfl, P12, by omega, by decide, by decide, fun r H13 c0 c1 P13 kb13 => ?_⟩
      obtain ⟨j, rfl⟩ := Int.eq_ofNat_of_zero_le c0
      have lx : xs.length = 12 := by rw [exs]; rfl
      have jl : j < xs.length := by rw [lx]; omega
      refine ⟨so, _, _, _, rfl, rfl, SqL.of (kb13 _ _ g12 ng12), atI_nat (List.getElem?_eq_getElem jl), ?_⟩
      have t11 := s11.trans s12
      have t10 := s10.trans t11
      have t9 := s9.trans t10
      have t8 := s8.trans t9
      have t7 := s7.trans t8
      have t6 := s6.trans t7
      have t5 := s5.trans t6
      have t4 := s4.trans t5
      have t3 := s3.trans t4
      have kk : ∀ a u, H12 a = some u → a ≠ g → hole H13 g g a = some u := fun a u e n => hole_of (kb13 _ _ e n) n n
      refine q _ H13 (P13.mono (by omega)) (kb2.trans ((t3.but g).trans kb13)) ?_
      have hp := kk _ _ (t3 _ _ h2) lg
      have itp : ItV K (hole H13 g g) (.ref l) := it_lst hp (by omega) pb2
      have all : ∀ x ∈ xs, ThV K (hole H13 g g) x := by
        intro x hx
        rw [exs] at hx
        simp only [List.mem_cons, List.not_mem_nil, or_false] at hx
        rcases hx with rfl | rfl | rfl | rfl | rfl | rfl | rfl | rfl | rfl | rfl | rfl | rfl
        · exact th_no (.tup (kk _ _ (t4 _ _ g3) ng3)) (kit_tuple_list K) (.tup (kk _ _ (t4 _ _ g3) ng3)) (.inl (shows_tup (kk _ _ (t4 _ _ g3) ng3) (by omega) fun x hx => by have := pb x hx; exact ⟨by omega, by omega⟩))
        · exact th_no .non (kit_none_list K) .non (.inl (.of ie_non))
        · refine th_no (.str _) (kit_str_list K) (.str _) (.inl ⟨_, .str _, by rw [PyData.showable], ?_, by rw [PyData.depth]; decide⟩)
          rw [PyData.shown]
          have := StrLaws.reprText_len _ dm
          omega
        · exact th_no (.dK (kk _ _ (t5 _ _ g4) ng4)) (kit_dict_list K) (.dic (kk _ _ (t5 _ _ g4) ng4)) (.inl (.of (ie_dic (kk _ _ (t5 _ _ g4) ng4))))
        · refine th_list (kk _ _ (t7 _ _ g6) ng6) (fun x hx => ?_) (by rw [List.length_append, lm]; simp only [List.length_singleton]; omega)
          rcases List.mem_append.mp hx with z | z
          · exact it_small pb2 x z
          · rw [List.mem_singleton.mp z, lm]
            exact it_int ⟨by omega, by omega⟩
        · exact th_list (kk _ _ (t8 _ _ g7) ng7) (fun x hx => by rw [List.mem_singleton.mp hx]; exact itp) (by simp)
        · exact th_no (.bl true) (kit_bool_list K) (.bl true) (.inl (.of (ie_bl true)))
        · exact th_no (.int 0) (kit_int_list K) (.int 0) (.inl (.of (ie_int ⟨by decide, by decide⟩)))
        · refine th_no (.tup (kk _ _ (t9 _ _ g8) ng8)) (kit_tuple_list K) (.tup (kk _ _ (t9 _ _ g8) ng8)) (.inl ?_)
          obtain ⟨d, e1, e2, e3, e4, _⟩ := ie_small hp (by omega) pb2
          refine ⟨.tuple [d], .tup (kk _ _ (t9 _ _ g8) ng8) (.cons e1 .nil), by simp only [PyData.showable, PyData.showableAll]; rw [e2]; rfl, ?_, by simp only [PyData.depth, PyData.depthAll]; omega⟩
          rw [PyData.shown]
          simp only [PyData.shownAll]
          refine Nat.le_trans (tupleText_le (m := 700) fun t ht => ?_) (by simp)
          rw [List.mem_singleton.mp ht]
          exact e3
        · exact th_no (.dK (kk _ _ (t10 _ _ g9) ng9)) (kit_dict_list K) (.dic (kk _ _ (t10 _ _ g9) ng9)) (.inr ⟨_, p, rfl, kk _ _ (t10 _ _ g9) ng9, l40, pb⟩)
        · refine th_list (kk _ _ (s12 _ _ g11) ng11) (fun x hx => ?_) (by rw [List.length_append, lm]; simp only [List.length_singleton]; omega)
          rcases List.mem_append.mp hx with z | z
          · exact it_small pb2 x z
          · rw [List.mem_singleton.mp z]
            exact itp
        · exact th_no (.str _) (kit_str_list K) (.str _) (.inl (.of (ie_str (by decide +kernel))))
      exact all _ (List.getElem_mem jl)
    refine ⟨_, rfl, (show 0 ≤ sizeLine by decide), fun l0 n2 => ?_⟩
    have s2 : Same H1 (upd H1 l0 (.lst [])) := Same.upd_new n2
    have g2 : (upd H1 l0 (.lst [])) l0 = some (.lst (([] : List Int).map V.int)) := upd_same
    have P2 := pool_same P1 s2
    generalize (upd H1 l0 (.lst [])) = H2 at s2 g2 P2 ⊢
    have h2 := s2 _ _ h1
    have kb2 : KeepBut g H H2 := kb1.trans (s2.but g)
    refine ⟨l, l0, _, _, _, rfl, rfl, SqL.of h2, SqL.of g2, leq_ints K H2 0 p [], _, rfl, ?_⟩
    refine ite2 (fun _ => hA H2 ⟨P2, kb2⟩) fun ne => ?_
    have ne : p ≠ [] := fun z => ne (decide_eq_true z)
    have pl : 0 < p.length := List.length_pos_iff.mpr ne
    clear hA
    refine ⟨_, rfl, _, rfl, l, _, rfl, .inl (SqL.of h2), g, _, _, rfl, P2, by omega, (by rw [lm]; omega), (by rw [lm]; omega), fun at_ H3 a0 a1 P3 kb3 => ?_⟩
    rw [lm] at a1
    have h3 := kb3 _ _ h2 lg
    have kb03 := kb2.trans kb3
    clear P0 P1 P2 kb1 kb2 kb3 s2 g2 h1 h2 n2
    refine ⟨_, rfl, _, _, rfl, rfl, _, rfl, ite2 (fun _ => ?_) fun _ => ?_⟩
    · refine ⟨_, rfl, l, rfl, ⟨_, SqL.of h3⟩, comp_list (K := K) (a := l) (xs := p.map V.int) (fun i ys σ H4 => ∃ (v : Option V) (os : List Int), σ = [v, some (.ref g), some (.ref l)] ∧ ys = os.map V.int ∧ os.length = i ∧ (∀ x ∈ os, 0 ≤ x ∧ x ≤ 40) ∧ PoolAt H4 g (c + 2 + i) ∧ KeepBut g H3 H4)
        ⟨none, [], rfl, rfl, rfl, (fun x hx => by cases hx), P3, KeepBut.refl g H3⟩ (fun i ys σ H4 _ ⟨_, _, _, _, _, _, _, k⟩ => SqL.of (k _ _ h3 lg)) ?_ ?_⟩
      · rintro i x ys σ H4 hi ⟨v, os, rfl, rfl, lo, bo, P4, kb4⟩
        have il : i < p.length := by have := (List.getElem?_eq_some_iff.mp hi).1; rw [lm] at this; exact this
        have h4 := kb4 _ _ h3 lg
        refine ⟨_, rfl, _, rfl, l, _, rfl, .inl (SqL.of h4), g, _, _, rfl, P4, by omega, (by rw [lm]; omega), (by rw [lm]; omega), fun r H5 i0 i1 P5 kb5 => ⟨small1000 (by rw [List.length_map]; omega), _, os ++ [r], rfl, by rw [List.map_append]; rfl, by rw [List.length_append, lo]; rfl, fun y hy => ?_, P5, kb4.trans kb5⟩⟩
        rw [lm] at i1
        rcases List.mem_append.mp hy with z | z
        · exact bo y z
        · rw [List.mem_singleton.mp z]; omega
      · rintro ys σ H4 ⟨v, os, rfl, rfl, lo, bo, P4, kb4⟩ fr nfr
        rw [lm] at lo P4
        have s5 : Same H4 (upd H4 fr (.lst (os.map V.int))) := Same.upd_new nfr
        have g5 : (upd H4 fr (.lst (os.map V.int))) fr = some (.lst (os.map V.int)) := upd_same
        have nfg : fr ≠ g := pool_ne P4 nfr
        have P5 := pool_same P4 s5
        exact q (.ref fr) _ (P5.mono (by omega)) (kb03.trans (kb4.trans (s5.but g))) (th_list (hole_of g5 nfg nfg) (it_small fun x hx => by have := bo x hx; omega) (by rw [List.length_map]; omega))
    refine ⟨_, rfl, _, _, rfl, rfl, _, rfl, ite2 (fun _ => ?_) fun _ => ?_⟩
    · refine ⟨_, rfl, l, _, rfl, .inl (SqL.of h3), fun ml n4 => ?_⟩
      have s4 : Same H3 (upd H3 ml (.lst (p.map V.int))) := Same.upd_new n4
      have g4 : (upd H3 ml (.lst (p.map V.int))) ml = some (.lst (p.map V.int)) := upd_same
      have nmg : ml ≠ g := pool_ne P3 n4
      have P4 := pool_same P3 s4
      generalize (upd H3 ml (.lst (p.map V.int))) = H4 at s4 g4 P4 ⊢
      have h4 := s4 _ _ h3
      refine ⟨_, rfl, _, rfl, l, _, rfl, .inl (SqL.of h4), g, _, _, rfl, P4, by omega, (by rw [lm]; omega), (by rw [lm]; omega), fun to H5 b0 b1 P5 kb5 => ?_⟩
      rw [lm] at b1
      refine ⟨_, rfl, g, _, 2, rfl, P5, by omega, by decide, by decide, fun st H6 c0 c1 P6 kb6 => ⟨_, _, rfl, rfl, ?_⟩⟩
      have g6 := kb6 _ _ (kb5 _ _ g4 nmg) nmg
      have kb46 : KeepBut g H3 H6 := ((s4.but g).trans kb5).trans kb6
      obtain ⟨sp, esp⟩ : ∃ sp, sp = 1 + st := ⟨_, rfl⟩
      show gName 7 (V.int (1 + st)) _ _ _
      rw [← esp]
      refine ⟨_, rfl, _, rfl, ml, _, at_, _, rfl, rfl, SqL.of g6, Mth.atI_map (p := p) a0 a1, _, rfl, _, _, rfl, rfl, _, rfl, _, rfl, ml, _, at_, at_.toNat, rfl, rfl, g6, ixN_of a0 (by rw [lm]; exact a1), ?_⟩
      obtain ⟨m1, em1⟩ : ∃ m1, m1 = p.set at_.toNat (p.getD at_.toNat 0 + sp) := ⟨_, rfl⟩
      have l1' : m1.length = p.length := by rw [em1, List.length_set]
      have b1' : ∀ x ∈ m1, -10 ≤ x ∧ x ≤ 50 := fun x hx => by
        rw [em1] at hx
        rcases List.mem_or_eq_of_mem_set hx with z | z
        · have := pb x z; omega
        · have := pb _ (List.getElem_mem (show at_.toNat < p.length by omega))
          rw [Mth.getD_at (show at_.toNat < p.length by omega)] at z
          omega
      have g7 : (upd H6 ml (.lst ((p.map V.int).set at_.toNat (V.int (p.getD at_.toNat 0 + sp))))) ml = some (.lst (m1.map V.int)) := by rw [upd_same, em1, List.map_set]
      have kb7 : KeepBut g H3 (upd H6 ml (.lst ((p.map V.int).set at_.toNat (V.int (p.getD at_.toNat 0 + sp))))) := kb46.upd_r n4
      have P7 : PoolAt (upd H6 ml (.lst ((p.map V.int).set at_.toNat (V.int (p.getD at_.toNat 0 + sp))))) g _ := pool_upd P6 nmg
      generalize (upd H6 ml (.lst ((p.map V.int).set at_.toNat (V.int (p.getD at_.toNat 0 + sp))))) = H7 at g7 kb7 P7 ⊢
      refine ⟨_, rfl, _, rfl, ml, _, to, _, rfl, rfl, SqL.of g7, Mth.atI_map (p := m1) b0 (by rw [l1']; exact b1), _, rfl, _, _, rfl, rfl, _, rfl, _, rfl, ml, _, to, to.toNat, rfl, rfl, g7, ixN_of b0 (by rw [List.length_map, l1']; exact b1), ?_⟩
      obtain ⟨m2, em2⟩ : ∃ m2, m2 = m1.set to.toNat (m1.getD to.toNat 0 - sp) := ⟨_, rfl⟩
      have l2' : m2.length = p.length := by rw [em2, List.length_set, l1']
      have b2' : ∀ x ∈ m2, -20 ≤ x ∧ x ≤ 50 := fun x hx => by
        rw [em2] at hx
        rcases List.mem_or_eq_of_mem_set hx with z | z
        · have := b1' x z; omega
        · have := b1' _ (List.getElem_mem (show to.toNat < m1.length by omega))
          rw [Mth.getD_at (show to.toNat < m1.length by omega)] at z
          omega
      have g8 : (upd H7 ml (.lst ((m1.map V.int).set to.toNat (V.int (m1.getD to.toNat 0 - sp))))) ml = some (.lst (m2.map V.int)) := by rw [upd_same, em2, List.map_set]
      have kb8 : KeepBut g H3 (upd H7 ml (.lst ((m1.map V.int).set to.toNat (V.int (m1.getD to.toNat 0 - sp))))) := kb7.upd_r n4
      have P8 : PoolAt (upd H7 ml (.lst ((m1.map V.int).set to.toNat (V.int (m1.getD to.toNat 0 - sp))))) g _ := pool_upd P7 nmg
      exact ⟨_, rfl, q (.ref ml) _ (P8.mono (by omega)) (kb03.trans kb8) (th_list (hole_of g8 nmg nmg) (it_small fun x hx => by have := b2' x hx; omega) (by rw [List.length_map]; omega))⟩
    have ml : ((p.map V.int).take at_.toNat).length = at_.toNat := by rw [List.length_take, lm]; omega
    have mr : ((p.map V.int).drop (at_ + 1).toNat).length ≤ 40 := by rw [List.length_drop, lm]; omega
    have mr0 : ((p.map V.int).drop at_.toNat).length ≤ 40 := by rw [List.length_drop, lm]; omega
    have itL : ∀ {M : Hp}, ∀ x ∈ (p.map V.int).take at_.toNat, ItV K M x := fun x hx => it_small pb2 x (List.mem_of_mem_take hx)
    have itR : ∀ {M : Hp}, ∀ x ∈ (p.map V.int).drop (at_ + 1).toNat, ItV K M x := fun x hx => it_small pb2 x (List.mem_of_mem_drop hx)
    have itR0 : ∀ {M : Hp}, ∀ x ∈ (p.map V.int).drop at_.toNat, ItV K M x := fun x hx => it_small pb2 x (List.mem_of_mem_drop hx)
    refine ⟨_, rfl, rfl, _, rfl, ite2 (fun _ => ?_) fun _ => ?_⟩
    · refine ⟨_, rfl, _, rfl, _, rfl, l, _, rfl, SqL.of h3, fun w1 n4 => ?_⟩
      rw [cut_to a0 (by rw [lm]; omega)]
      have s4 : Same H3 (upd H3 w1 (.lst ((p.map V.int).take at_.toNat))) := Same.upd_new n4
      have g4 : (upd H3 w1 (.lst ((p.map V.int).take at_.toNat))) w1 = some (.lst ((p.map V.int).take at_.toNat)) := upd_same
      have ng4 : w1 ≠ g := pool_ne P3 n4
      have P4 := pool_same P3 s4
      generalize (upd H3 w1 (.lst ((p.map V.int).take at_.toNat))) = H4 at s4 g4 P4 ⊢
      refine ⟨_, rfl, _, rfl, _, _, rfl, rfl, _, rfl, l, _, rfl, SqL.of (s4 _ _ h3), fun w2 n5 => ?_⟩
      rw [show cutV (p.map V.int) (some (at_ + 1)) none = (p.map V.int).drop (at_ + 1).toNat from cut_from (by omega) (by rw [lm]; omega)]
      have s5 : Same H4 (upd H4 w2 (.lst ((p.map V.int).drop (at_ + 1).toNat))) := Same.upd_new n5
      have g5 : (upd H4 w2 (.lst ((p.map V.int).drop (at_ + 1).toNat))) w2 = some (.lst ((p.map V.int).drop (at_ + 1).toNat)) := upd_same
      have ng5 : w2 ≠ g := pool_ne P4 n5
      have P5 := pool_same P4 s5
      generalize (upd H4 w2 (.lst ((p.map V.int).drop (at_ + 1).toNat))) = H5 at s5 g5 P5 ⊢
      refine ⟨w1, w2, _, _, rfl, rfl, s5 _ _ g4, g5, Nat.le_of_lt (small1000 (by rw [ml]; omega)), fun w3 n6 => ?_⟩
      have s6 : Same H5 (upd H5 w3 (.lst ((p.map V.int).take at_.toNat ++ (p.map V.int).drop (at_ + 1).toNat))) := Same.upd_new n6
      have g6 : (upd H5 w3 (.lst ((p.map V.int).take at_.toNat ++ (p.map V.int).drop (at_ + 1).toNat))) w3 = some (.lst ((p.map V.int).take at_.toNat ++ (p.map V.int).drop (at_ + 1).toNat)) := upd_same
      have ng6 : w3 ≠ g := pool_ne P5 n6
      have P6 := pool_same P5 s6
      generalize (upd H5 w3 (.lst ((p.map V.int).take at_.toNat ++ (p.map V.int).drop (at_ + 1).toNat))) = H6 at s6 g6 P6 ⊢
      have st := s4.trans (s5.trans s6)
      exact q (.ref w3) H6 (P6.mono (by omega)) (kb03.trans (st.but g)) (th_list (hole_of g6 ng6 ng6) (fun x hx => (List.mem_append.mp hx).elim (itL x) (itR x)) (by rw [List.length_append, ml]; omega))
    refine ⟨_, rfl, rfl, _, rfl, ite2 (fun _ => ?_) fun _ => ?_⟩
    · refine ⟨_, rfl, _, rfl, _, rfl, l, _, rfl, SqL.of h3, fun w1 n4 => ?_⟩
      rw [cut_to a0 (by rw [lm]; omega)]
      have s4 : Same H3 (upd H3 w1 (.lst ((p.map V.int).take at_.toNat))) := Same.upd_new n4
      have g4 : (upd H3 w1 (.lst ((p.map V.int).take at_.toNat))) w1 = some (.lst ((p.map V.int).take at_.toNat)) := upd_same
      have ng4 : w1 ≠ g := pool_ne P3 n4
      have P4 := pool_same P3 s4
      generalize (upd H3 w1 (.lst ((p.map V.int).take at_.toNat))) = H4 at s4 g4 P4 ⊢
      refine ⟨_, rfl, _, rfl, _, rfl, g, l, _, p, at_, rfl, P4, by omega, s4 _ _ h3, lg, pb, l40, a0, a1, fun y H5 P5 kb5 ity => ?_⟩
      refine ⟨(show 1 ≤ sizeLine by decide), fun w2 n6 => ?_⟩
      have s6 : Same H5 (upd H5 w2 (.lst [y])) := Same.upd_new n6
      have g6 : (upd H5 w2 (.lst [y])) w2 = some (.lst [y]) := upd_same
      have ng6 : w2 ≠ g := pool_ne P5 n6
      have P6 := pool_same P5 s6
      generalize (upd H5 w2 (.lst [y])) = H6 at s6 g6 P6 ⊢
      refine ⟨w1, w2, _, _, rfl, rfl, s6 _ _ (kb5 _ _ g4 ng4), g6, Nat.le_of_lt (small1000 (by rw [ml]; show at_.toNat + 1 ≤ 1000; omega)), fun w3 n7 => ?_⟩
      have s7 : Same H6 (upd H6 w3 (.lst ((p.map V.int).take at_.toNat ++ [y]))) := Same.upd_new n7
      have g7 : (upd H6 w3 (.lst ((p.map V.int).take at_.toNat ++ [y]))) w3 = some (.lst ((p.map V.int).take at_.toNat ++ [y])) := upd_same
      have ng7 : w3 ≠ g := pool_ne P6 n7
      have P7 := pool_same P6 s7
      generalize (upd H6 w3 (.lst ((p.map V.int).take at_.toNat ++ [y]))) = H7 at s7 g7 P7 ⊢
      have h5 := kb5 _ _ (s4 _ _ h3) lg
      refine ⟨_, rfl, _, rfl, _, rfl, l, _, rfl, SqL.of (s7 _ _ (s6 _ _ h5)), fun w4 n8 => ?_⟩
      rw [cut_from a0 (by rw [lm]; omega)]
      have s8 : Same H7 (upd H7 w4 (.lst ((p.map V.int).drop at_.toNat))) := Same.upd_new n8
      have g8 : (upd H7 w4 (.lst ((p.map V.int).drop at_.toNat))) w4 = some (.lst ((p.map V.int).drop at_.toNat)) := upd_same
      have ng8 : w4 ≠ g := pool_ne P7 n8
      have P8 := pool_same P7 s8
      generalize (upd H7 w4 (.lst ((p.map V.int).drop at_.toNat))) = H8 at s8 g8 P8 ⊢
      refine ⟨w3, w4, _, _, rfl, rfl, s8 _ _ g7, g8, Nat.le_of_lt (small1000 (by rw [List.length_append, ml]; show at_.toNat + 1 + _ ≤ 1000; omega)), fun w5 n9 => ?_⟩
      have s9 : Same H8 (upd H8 w5 (.lst ((p.map V.int).take at_.toNat ++ [y] ++ (p.map V.int).drop at_.toNat))) := Same.upd_new n9
      have g9 : (upd H8 w5 (.lst ((p.map V.int).take at_.toNat ++ [y] ++ (p.map V.int).drop at_.toNat))) w5 = some (.lst ((p.map V.int).take at_.toNat ++ [y] ++ (p.map V.int).drop at_.toNat)) := upd_same
      have ng9 : w5 ≠ g := pool_ne P8 n9
      have P9 := pool_same P8 s9
      generalize (upd H8 w5 (.lst ((p.map V.int).take at_.toNat ++ [y] ++ (p.map V.int).drop at_.toNat))) = H9 at s9 g9 P9 ⊢
      have st := (s6.trans s7).trans (s8.trans s9)
      refine q (.ref w5) H9 (P9.mono (by omega)) (kb03.trans ((s4.but g).trans (kb5.trans (st.but g)))) (th_list (hole_of g9 ng9 ng9) (fun x hx => ?_) (by rw [List.length_append, List.length_append, ml]; simp only [List.length_singleton]; omega))
      rcases List.mem_append.mp hx with z | z
      · rcases List.mem_append.mp z with z | z
        · exact itL x z
        · rw [List.mem_singleton.mp z]; exact ity.keep (hole_kb (l := g) (st.but g))
      · exact itR0 x z
    refine ⟨_, rfl, rfl, _, rfl, ite2 (fun _ => ?_) fun _ => ?_⟩
    · refine ⟨_, rfl, _, rfl, _, rfl, l, _, rfl, SqL.of h3, fun w1 n4 => ?_⟩
      rw [cut_to a0 (by rw [lm]; omega)]
      have s4 : Same H3 (upd H3 w1 (.lst ((p.map V.int).take at_.toNat))) := Same.upd_new n4
      have g4 : (upd H3 w1 (.lst ((p.map V.int).take at_.toNat))) w1 = some (.lst ((p.map V.int).take at_.toNat)) := upd_same
      have ng4 : w1 ≠ g := pool_ne P3 n4
      have P4 := pool_same P3 s4
      generalize (upd H3 w1 (.lst ((p.map V.int).take at_.toNat))) = H4 at s4 g4 P4 ⊢
      refine ⟨_, rfl, _, rfl, l, _, rfl, .inl (SqL.of (s4 _ _ h3)), (show 4 ≤ sizeLine by decide), fun w0 n5 => ?_⟩
      obtain ⟨xs, exs⟩ : ∃ xs : List V, xs = [V.int (-1), V.bl true, V.non, V.int (((p.map V.int).length : Nat) : Int)] := ⟨_, rfl⟩
      have g5 : (upd H4 w0 (.lst [V.int (-1), V.bl true, V.non, V.int (((p.map V.int).length : Nat) : Int)])) w0 = some (.lst xs) := by rw [upd_same, exs]
      have s5 : Same H4 (upd H4 w0 (.lst [V.int (-1), V.bl true, V.non, V.int (((p.map V.int).length : Nat) : Int)])) := Same.upd_new n5
      have ng5 : w0 ≠ g := pool_ne P4 n5
      have P5 := pool_same P4 s5
      generalize (upd H4 w0 (.lst [V.int (-1), V.bl true, V.non, V.int (((p.map V.int).length : Nat) : Int)])) = H5 at s5 g5 P5 ⊢
      refine ⟨_, rfl, g, _, 4, rfl, P5, by omega, by decide, by decide, fun r H6 c0 c1 P6 kb6 => ?_⟩
      obtain ⟨j, rfl⟩ := Int.eq_ofNat_of_zero_le c0
      have lx : xs.length = 4 := by rw [exs]; rfl
      have jl : j < xs.length := by rw [lx]; omega
      refine ⟨w0, _, _, _, rfl, rfl, SqL.of (kb6 _ _ g5 ng5), atI_nat (List.getElem?_eq_getElem jl), (show 1 ≤ sizeLine by decide), fun w2 n7 => ?_⟩
      have ity : ∀ {M : Hp}, ItV K M xs[j] := by
        intro M
        have : ∀ x ∈ xs, ItV K M x := by
          intro x hx
          rw [exs, lm] at hx
          simp only [List.mem_cons, List.not_mem_nil, or_false] at hx
          rcases hx with rfl | rfl | rfl | rfl
          · exact it_int ⟨by decide, by decide⟩
          · exact it_bl true
          · exact it_non
          · exact it_int ⟨by omega, by omega⟩
        exact this _ (List.getElem_mem jl)
      generalize xs[j] = y at ity ⊢
      have s7 : Same H6 (upd H6 w2 (.lst [y])) := Same.upd_new n7
      have g7 : (upd H6 w2 (.lst [y])) w2 = some (.lst [y]) := upd_same
      have ng7 : w2 ≠ g := pool_ne P6 n7
      have P7 := pool_same P6 s7
      generalize (upd H6 w2 (.lst [y])) = H7 at s7 g7 P7 ⊢
      refine ⟨w1, w2, _, _, rfl, rfl, s7 _ _ (kb6 _ _ (s5 _ _ g4) ng4), g7, Nat.le_of_lt (small1000 (by rw [ml]; show at_.toNat + 1 ≤ 1000; omega)), fun w3 n8 => ?_⟩
      have s8 : Same H7 (upd H7 w3 (.lst ((p.map V.int).take at_.toNat ++ [y]))) := Same.upd_new n8
      have g8 : (upd H7 w3 (.lst ((p.map V.int).take at_.toNat ++ [y]))) w3 = some (.lst ((p.map V.int).take at_.toNat ++ [y])) := upd_same
      have ng8 : w3 ≠ g := pool_ne P7 n8
      have P8 := pool_same P7 s8
      generalize (upd H7 w3 (.lst ((p.map V.int).take at_.toNat ++ [y]))) = H8 at s8 g8 P8 ⊢
      have h6 := kb6 _ _ (s5 _ _ (s4 _ _ h3)) lg
      refine ⟨_, rfl, _, rfl, _, rfl, l, _, rfl, SqL.of (s8 _ _ (s7 _ _ h6)), fun w4 n9 => ?_⟩
      rw [cut_from a0 (by rw [lm]; omega)]
      have s9 : Same H8 (upd H8 w4 (.lst ((p.map V.int).drop at_.toNat))) := Same.upd_new n9
      have g9 : (upd H8 w4 (.lst ((p.map V.int).drop at_.toNat))) w4 = some (.lst ((p.map V.int).drop at_.toNat)) := upd_same
      have ng9 : w4 ≠ g := pool_ne P8 n9
      have P9 := pool_same P8 s9
      generalize (upd H8 w4 (.lst ((p.map V.int).drop at_.toNat))) = H9 at s9 g9 P9 ⊢
      refine ⟨w3, w4, _, _, rfl, rfl, s9 _ _ g8, g9, Nat.le_of_lt (small1000 (by rw [List.length_append, ml]; show at_.toNat + 1 + _ ≤ 1000; omega)), fun w5 n10 => ?_⟩
      have s10 : Same H9 (upd H9 w5 (.lst ((p.map V.int).take at_.toNat ++ [y] ++ (p.map V.int).drop at_.toNat))) := Same.upd_new n10
      have g10 : (upd H9 w5 (.lst ((p.map V.int).take at_.toNat ++ [y] ++ (p.map V.int).drop at_.toNat))) w5 = some (.lst ((p.map V.int).take at_.toNat ++ [y] ++ (p.map V.int).drop at_.toNat)) := upd_same
      have ng10 : w5 ≠ g := pool_ne P9 n10
      have P10 := pool_same P9 s10
      generalize (upd H9 w5 (.lst ((p.map V.int).take at_.toNat ++ [y] ++ (p.map V.int).drop at_.toNat))) = H10 at s10 g10 P10 ⊢
      have st := (s7.trans s8).trans (s9.trans s10)
      refine q (.ref w5) H10 (P10.mono (by omega)) (kb03.trans (((s4.trans s5).but g).trans (kb6.trans (st.but g)))) (th_list (hole_of g10 ng10 ng10) (fun x hx => ?_) (by rw [List.length_append, List.length_append, ml]; simp only [List.length_singleton]; omega))
      rcases List.mem_append.mp hx with z | z
      · rcases List.mem_append.mp z with z | z
        · exact itL x z
        · rw [List.mem_singleton.mp z]; exact ity
      · exact itR0 x z
    refine ⟨_, rfl, _, rfl, _, rfl, l, _, rfl, SqL.of h3, fun w1 n4 => ?_⟩
    rw [cut_to a0 (by rw [lm]; omega)]
    have s4 : Same H3 (upd H3 w1 (.lst ((p.map V.int).take at_.toNat))) := Same.upd_new n4
    have g4 : (upd H3 w1 (.lst ((p.map V.int).take at_.toNat))) w1 = some (.lst ((p.map V.int).take at_.toNat)) := upd_same
    have ng4 : w1 ≠ g := pool_ne P3 n4
    have P4 := pool_same P3 s4
    generalize (upd H3 w1 (.lst ((p.map V.int).take at_.toNat))) = H4 at s4 g4 P4 ⊢
    refine ⟨_, rfl, _, rfl, _, rfl, g, l, _, p, at_, rfl, P4, by omega, s4 _ _ h3, lg, pb, l40, a0, a1, fun y H5 P5 kb5 ity => ?_⟩
    refine ⟨(show 1 ≤ sizeLine by decide), fun w2 n6 => ?_⟩
    have s6 : Same H5 (upd H5 w2 (.lst [y])) := Same.upd_new n6
    have g6 : (upd H5 w2 (.lst [y])) w2 = some (.lst [y]) := upd_same
    have ng6 : w2 ≠ g := pool_ne P5 n6
    have P6 := pool_same P5 s6
    generalize (upd H5 w2 (.lst [y])) = H6 at s6 g6 P6 ⊢
    refine ⟨w1, w2, _, _, rfl, rfl, s6 _ _ (kb5 _ _ g4 ng4), g6, Nat.le_of_lt (small1000 (by rw [ml]; show at_.toNat + 1 ≤ 1000; omega)), fun w3 n7 => ?_⟩
    have s7 : Same H6 (upd H6 w3 (.lst ((p.map V.int).take at_.toNat ++ [y]))) := Same.upd_new n7
    have g7 : (upd H6 w3 (.lst ((p.map V.int).take at_.toNat ++ [y]))) w3 = some (.lst ((p.map V.int).take at_.toNat ++ [y])) := upd_same
    have ng7 : w3 ≠ g := pool_ne P6 n7
    have P7 := pool_same P6 s7
    generalize (upd H6 w3 (.lst ((p.map V.int).take at_.toNat ++ [y]))) = H7 at s7 g7 P7 ⊢
    have h5 := kb5 _ _ (s4 _ _ h3) lg
    refine ⟨_, rfl, _, rfl, _, _, rfl, rfl, _, rfl, l, _, rfl, SqL.of (s7 _ _ (s6 _ _ h5)), fun w4 n8 => ?_⟩
    rw [show cutV (p.map V.int) (some (at_ + 1)) none = (p.map V.int).drop (at_ + 1).toNat from cut_from (by omega) (by rw [lm]; omega)]
    have s8 : Same H7 (upd H7 w4 (.lst ((p.map V.int).drop (at_ + 1).toNat))) := Same.upd_new n8
    have g8 : (upd H7 w4 (.lst ((p.map V.int).drop (at_ + 1).toNat))) w4 = some (.lst ((p.map V.int).drop (at_ + 1).toNat)) := upd_same
    have ng8 : w4 ≠ g := pool_ne P7 n8
    have P8 := pool_same P7 s8
    generalize (upd H7 w4 (.lst ((p.map V.int).drop (at_ + 1).toNat))) = H8 at s8 g8 P8 ⊢
    refine ⟨w3, w4, _, _, rfl, rfl, s8 _ _ g7, g8, Nat.le_of_lt (small1000 (by rw [List.length_append, ml]; show at_.toNat + 1 + _ ≤ 1000; omega)), fun w5 n9 => ?_⟩
    have s9 : Same H8 (upd H8 w5 (.lst ((p.map V.int).take at_.toNat ++ [y] ++ (p.map V.int).drop (at_ + 1).toNat))) := Same.upd_new n9
    have g9 : (upd H8 w5 (.lst ((p.map V.int).take at_.toNat ++ [y] ++ (p.map V.int).drop (at_ + 1).toNat))) w5 = some (.lst ((p.map V.int).take at_.toNat ++ [y] ++ (p.map V.int).drop (at_ + 1).toNat)) := upd_same
    have ng9 : w5 ≠ g := pool_ne P8 n9
    have P9 := pool_same P8 s9
    generalize (upd H8 w5 (.lst ((p.map V.int).take at_.toNat ++ [y] ++ (p.map V.int).drop (at_ + 1).toNat))) = H9 at s9 g9 P9 ⊢
    have st := (s6.trans s7).trans (s8.trans s9)
    refine q (.ref w5) H9 (P9.mono (by omega)) (kb03.trans ((s4.but g).trans (kb5.trans (st.but g)))) (th_list (hole_of g9 ng9 ng9) (fun x hx => ?_) (by rw [List.length_append, List.length_append, ml]; simp only [List.length_singleton]; omega))
    rcases List.mem_append.mp hx with z | z
    · rcases List.mem_append.mp z with z | z
      · exact itL x z
      · rw [List.mem_singleton.mp z]; exact ity.keep (hole_kb (l := g) (st.but g))
    · exact itR x z
theorem piled_sum {ts : List Str} {m : Nat} (h : ∀ t ∈ ts, t.length ≤ m) : (ts.map (·.length)).sum ≤ ts.length * m := by
  induction ts with
  | nil => simp
  | cons t ts ih =>
    have := ih fun x hx => h x (List.mem_cons_of_mem _ hx)
    have := h t List.mem_cons_self
    rw [List.map_cons, List.sum_cons, List.length_cons, Nat.succ_mul]
    omega
theorem en_fits {ns : List Int} (l : ns.length ≤ 40) (b : ∀ x ∈ ns, 0 ≤ x ∧ x < 40) : (enD ns).showable = true ∧ (enD ns).shown.length ≤ sizeLine := by
  unfold enD
  have key : ∀ (l : List (Int × Nat)), (∀ x ∈ l, 0 ≤ x.1 ∧ x.1 < 40 ∧ x.2 < 100) → PyData.showableKv (l.map fun p => (PyData.int (p.2 : Int), PyData.int p.1)) = true ∧ (∀ t ∈ PyData.shownKv (l.map fun p => (PyData.int (p.2 : Int), PyData.int p.1)), t.length ≤ 100) ∧ (PyData.shownKv (l.map fun p => (PyData.int (p.2 : Int), PyData.int p.1))).length = l.length := by
    intro l
    induction l with
    | nil => exact fun _ => ⟨by rw [List.map_nil, PyData.showableKv], (fun t ht => by rw [List.map_nil, PyData.shownKv] at ht; cases ht), by rw [List.map_nil, PyData.shownKv]; rfl⟩
    | cons x l ih =>
      intro h
      obtain ⟨i1, i2, i3⟩ := ih fun y hy => h y (List.mem_cons_of_mem _ hy)
      have hx := h x List.mem_cons_self
      have lg : ∀ z : Int, 0 ≤ z → z < 100 → z.natAbs.log2 < 7 := fun z z0 z1 => by
        by_cases y : z.natAbs = 0
        · rw [y, Nat.log2_zero]; omega
        · exact (Nat.log2_lt y).mpr (by omega)
      have g1 := lg (x.2 : Int) (by omega) (by omega)
      have g2 := lg x.1 (by omega) (by omega)
      refine ⟨?_, fun t ht => ?_, ?_⟩
      · rw [List.map_cons, PyData.showableKv, PyData.showable, PyData.showable, i1, Bool.and_true]
        rw [Bool.and_eq_true]
        exact ⟨decide_eq_true (by omega), decide_eq_true (by omega)⟩
      · rw [List.map_cons, PyData.shownKv, PyData.shown, PyData.shown] at ht
        rcases List.mem_cons.mp ht with z | z
        · rw [z]
          have e1 := int_text_length_le (k := 7) (by decide) g1
          have e2 := int_text_length_le (k := 7) (by decide) g2
          rw [strLen_append, strLen_append, ofString_length, ofString_length, ofString_length]
          have : (": " : String).length = 2 := rfl
          omega
        · exact i2 t z
      · rw [List.map_cons, PyData.shownKv, List.length_cons, List.length_cons, i3]
  obtain ⟨k1, k2, k3⟩ := key ns.zipIdx fun x hx => by
    have h1 := List.mem_zipIdx hx
    have h2 : x.1 ∈ ns := by
      obtain ⟨_, h, e⟩ := h1
      rw [e]; exact List.getElem_mem _
    have := b _ h2
    omega
  refine ⟨by rw [PyData.showable]; exact k1, ?_⟩
  rw [PyData.shown]
  refine Nat.le_trans (dictText_len_le _) ?_
  have := piled_sum k2
  rw [k3, List.length_zipIdx] at *
  rw [sizeLine_eq]
  have := Nat.mul_le_mul_right 100 l
  omega
theorem CpR.jd {H : Hp} {n : Nat} {x u : V} {b : Bool} (c : CpR H n x u) (j : Jd K H x b) : Jd K H u b := by
  rcases j with ⟨no, rfl⟩ | ⟨a, p, rfl, ha, hl, tp, rfl⟩
  · exact .inl ⟨c.noT no, rfl⟩
  · cases c with
    | same h => exact .inr ⟨a, p, rfl, ha, hl, tp, rfl⟩
    | lst e e' ne len h =>
      rename_i m a' xs ys
      rw [ha] at e
      cases e
      refine .inr ⟨_, p, rfl, ?_, hl, tp, rfl⟩
      have : ys = p.map V.int := by
        refine List.ext_getElem? fun j => ?_
        rcases Nat.lt_or_ge j ys.length with jl | jl
        · have jp : j < (p.map V.int).length := by rw [len]; exact jl
          have hj := h j _ _ (List.getElem?_eq_getElem jp) (List.getElem?_eq_getElem jl)
          rw [List.getElem?_eq_getElem jl, List.getElem?_eq_getElem jp]
          rw [List.getElem_map] at hj ⊢
          generalize ys[j] = y at hj ⊢
          cases hj with
          | same _ => rfl
        · rw [List.getElem?_eq_none jl, List.getElem?_eq_none (by rw [len]; exact jl)]
      rw [e', this]
theorem sht_of {H : Hp} {n : Nat} {x u : V} (c : CpR H n x u) (h : ShX H x) : ∃ t, ShT H u t ∧ ShT H x t := by
  rcases h with ⟨d, da, sh, le, dp⟩ | ⟨a, ns, rfl, ha, l, b⟩
  · have le' : d.shown.length ≤ sizeLine := Nat.le_trans le (by rw [sizeLine_eq]; omega)
    exact ⟨d.shown, .inl ⟨d, ⟨c.da da, sh, le', by omega⟩, rfl⟩, .inl ⟨d, ⟨da, sh, le', by omega⟩, rfl⟩⟩
  · obtain ⟨e1, e2⟩ := en_fits l b
    have r : ShT H (.ref a) (enD ns).shown := .inr ⟨a, ns, rfl, ha, e1, e2, rfl⟩
    cases c with
    | same _ => exact ⟨_, r, r⟩
    | lst e _ _ _ _ => rw [ha] at e; cases e
theorem is_of {H : Hp} {v : V} {b : Bool} {Q : VK} {E : XK} (J : Jd K H v b) (q : ∀ H', Same H H' → Q (.bl b) H') : orSp spIsTurn (spTurnX K) [v] H Q E := by
  rcases J with ⟨no, rfl⟩ | ⟨a, p, rfl, ha, hl, tp, rfl⟩
  · exact .inr ⟨v, rfl, no, q⟩
  · refine .inl ⟨a, p, rfl, ha, fun b' H' s iff => ?_⟩
    rw [iff.mpr ⟨hl, tp⟩]
    exact q H' s
theorem jd_yes {H : Hp} {a : Addr} {ns : List Int} (h : H a = some (.lst (ns.map V.int))) (l : ns.length ≤ 40) (t : IsT ns) : Jd K H (.ref a) true := .inr ⟨a, ns, rfl, h, l, t, rfl⟩
theorem jd_nt {H : Hp} {a : Addr} {ns : List Int} (h : H a = some (.lst (ns.map V.int))) (no : ns.length ≤ 40 → ¬ IsT ns) : Jd K H (.ref a) false := .inl ⟨noT_ints h no, rfl⟩
theorem jd_bad {H : Hp} {a : Addr} {y : V} (h : H a = some (.lst [y])) (o : OddV K H y) (ny : ∀ i : Int, y ≠ .int i) : Jd K H (.ref a) false :=
  .inl ⟨noT_odd (y := y) h (fun x hx => by rw [List.mem_singleton.mp hx]; exact .inr o) (by simp) (fun i e => absurd e (ny i)), rfl⟩
theorem jd_no {H : Hp} {v : V} {t : Value} (ty : TyOf K H v t) (kt : PySem.W.kitOne K t (.type "list") = some false) : Jd K H v false := .inl ⟨.inl ⟨t, ty, kt⟩, rfl⟩
def spLaw (K : PySem.W.Frag) : Sp := fun vs H Q _ => ∃ (a : Addr) (ns : List Int), vs = [.ref a] ∧ SqL K H a (ns.map V.int) ∧ ns.length ≤ 63 ∧ ∀ H', Q (.bl true) H'
theorem sc_law : FnScope ["script", "k", "pool", "p", "thing", "handed", "found", "many"] ["script"] (defScope s_law) := ⟨rfl, rfl, rfl, by decide +kernel, rfl, by decide +kernel, by decide +kernel⟩
theorem nd_turn_pool_p_law : (["turn", "pool", "p"] : List Str).Nodup := by decide +kernel
theorem ok_law {f : Addr} {fd : FuncData} (F : Fun K "law" "law" s_law f fd) (B : Bl mg) (c_law_pool : Cal P w K mg base "_law_pool" 1 ["script", "k"] (spPool K)) (c_law_turn : Cal P w K mg base "_law_turn" 4 ["pool", "most"] spTurn) (c_law_spoilt : Cal P w K mg base "_law_spoilt" 3 ["pool", "p"] (spSpoilt K)) (c_law_copy : Cal P w K mg base "_law_copy" 3 ["thing"] (spCopy 2)) (c_is_turn : Cal P w K mg base "is_turn" 2 ["thing"] (orSp spIsTurn (spTurnX K))) (c_law_is_turn : Cal P w K mg base "_law_is_turn" 1 ["thing"] (spLIs K)) (c_law_mixed_up : Cal P w K mg base "_law_mixed_up" 2 ["pool", "things"] (spMixed K)) (c_law_take : Cal P w K mg base "_law_take" 1 ["pool", "many"] spTake) : FnOk P w K mg base CX0 5 f fd ["script"] (spLaw K) := by
  refine F.ok sc_law (fun vs H Q E h => ?_) (fun cdv A outer s H vs Q E hr h => ?_)
  · obtain ⟨a, ns, rfl, ha, hl, q⟩ := h
    rfl
  · obtain ⟨a, ns, rfl, ha, hl, q⟩ := h
    have hr_law_pool : Room 1 _ := hr.mono (by decide)
    have hr_law_turn : Room 4 _ := hr.mono (by decide)
    have hr_law_spoilt : Room 3 _ := hr.mono (by decide)
    have hr_law_copy : Room 3 _ := hr.mono (by decide)
    have hr_is_turn : Room 2 _ := hr.mono (by decide)
    have hr_law_is_turn : Room 1 _ := hr.mono (by decide)
    have hr_law_mixed_up : Room 2 _ := hr.mono (by decide)
    have hr_law_take : Room 1 _ := hr.mono (by decide)
    have hug : _ + 16 < cLine := Nat.lt_of_le_of_lt (Nat.add_le_add_left (by decide : 16 ≤ 64) _) hr.units
    refine ⟨_, @pss_cons _ _ _ _ _ (@ps_for _ _ _ _ _ _ _ _ PassesOwn.never rfl (@pi_range1 _ _ _ _ _ _ (by rfl) B.range (@pa_cons _ _ _ _ _ (@pe_max2 _ _ _ _ _ _ rfl B.max (@pa_cons _ _ _ _ _ (@pe_int _ _ _ _) (@pa_cons _ _ _ _ _ (@pe_min2 _ _ _ _ _ _ rfl B.min (@pa_cons _ _ _ _ _ (@pe_int _ _ _ _) (@pa_cons _ _ _ _ _ (@pe_lenL _ _ _ _ _ B.len (@pa_cons _ _ _ _ _ (pv 0) (@pa_nil _) (by rfl)) (by rfl) (by rfl)) (@pa_nil _) (by rfl)) (by rfl)) (by rfl) (by rfl) (by rfl)) (@pa_nil _) (by rfl)) (by rfl)) (by rfl) (by rfl) (by rfl)) (@pa_nil _) (by rfl)) (by rfl)) (@pg_name _ _ (1) _ sc_law.nd rfl (Or.inl rfl) (by first | exact .inl rfl | exact .inr rfl | assumption)) (@pss_cons _ _ _ _ _ (@ps_set _ _ (2) _ _ _ _ sc_law.nd rfl (Or.inr rfl) (@pe_cal _ _ _ _ _ _ _ _ _ _ c_law_pool hr_law_pool (@pa_cons _ _ _ _ _ (pv 0) (@pa_cons _ _ _ _ _ (pv 1) (@pa_nil _) (by rfl)) (by rfl)) (by rfl) (by decide) (by rfl) (by rfl)) (by rfl) (by first | exact .inl rfl | exact .inr rfl | assumption)) (@pss_cons _ _ _ _ _ (@ps_set _ _ (3) _ _ _ _ sc_law.nd rfl (Or.inr rfl) (@pe_cal _ _ _ _ _ _ _ _ _ _ c_law_turn hr_law_turn (@pa_cons _ _ _ _ _ (pv 2) (@pa_cons _ _ _ _ _ (@pe_int _ _ _ _) (@pa_nil _) (by rfl)) (by rfl)) (by rfl) (by decide) (by rfl) (by rfl)) (by rfl) (by first | exact .inl rfl | exact .inr rfl | assumption)) (@pss_cons _ _ _ _ _ (@ps_for _ _ _ _ _ _ _ _ PassesOwn.never rfl (@pi_list _ _ _ _ (@pe_op _ _ _ _ _ _ _ _ op_cat (@pe_lst _ _ _ _ (@pa_cons _ _ _ _ _ (pv 3) (@pa_nil _) (by rfl))) (@pe_comp _ _ _ _ _ _ _ _ _ _ _ (["turn", "pool", "p"]) (1) ([2, 3]) rfl .of (@pi_range1 _ _ _ _ _ _ (by rfl) B.range (@pa_cons _ _ _ _ _ (@pe_int _ _ _ _) (@pa_nil _) (by rfl)) (by rfl)) (fun _ _ _ _ _ => @pg_name _ _ (0) _ nd_turn_pool_p_law rfl (Or.inl rfl) (by first | exact .inl rfl | exact .inr rfl | assumption)) (fun _ _ _ _ _ => (@pifs_nil _)) (fun _ _ _ _ _ => (@pe_cal _ _ _ _ _ _ _ _ _ _ c_law_spoilt hr_law_spoilt (@pa_cons _ _ _ _ _ (pv 1) (@pa_cons _ _ _ _ _ (pv 2) (@pa_nil _) (by rfl)) (by rfl)) (by rfl) (by decide) (by rfl) (by rfl))) (by intro _; rfl)))) (@pg_name _ _ (4) _ sc_law.nd rfl (Or.inl rfl) (by first | exact .inl rfl | exact .inr rfl | assumption)) (@pss_cons _ _ _ _ _ (@ps_set _ _ (5) _ _ _ _ sc_law.nd rfl (Or.inl rfl) (@pe_cal _ _ _ _ _ _ _ _ _ _ c_law_copy hr_law_copy (@pa_cons _ _ _ _ _ (pv 4) (@pa_nil _) (by rfl)) (by rfl) (by decide) (by rfl) (by rfl)) (by rfl) (by first | exact .inl rfl | exact .inr rfl | assumption)) (@pss_cons _ _ _ _ _ (@ps_set _ _ (6) _ _ _ _ sc_law.nd rfl (Or.inl rfl) (@pe_cal _ _ _ _ _ _ _ _ _ _ c_is_turn hr_is_turn (@pa_cons _ _ _ _ _ (pv 5) (@pa_nil _) (by rfl)) (by rfl) (by decide) (by rfl) (by rfl)) (by rfl) (by first | exact .inl rfl | exact .inr rfl | assumption)) (@pss_one _ _ _ (@ps_if _ _ _ _ _ _ _ _ (@pw_or _ _ _ _ _ _ _ (@pt_not _ _ _ _ (@pt_val _ _ _ (@pe_isi _ _ _ _ _ _ B.isi (@pa_cons _ _ _ _ _ (pv 6) (@pa_cons _ _ _ _ _ (@pe_tyBool _ _ B.bool (by rfl)) (@pa_nil _) (by rfl)) (by rfl)) (by rfl) (by rfl) (by rfl)) (by intro _; rfl))) (@pw_or _ _ _ _ _ _ _ (@pt_cmpR _ _ _ _ _ _ _ _ op_ne (pv 6) (@pe_cal _ _ _ _ _ _ _ _ _ _ c_law_is_turn hr_law_is_turn (@pa_cons _ _ _ _ _ (pv 4) (@pa_nil _) (by rfl)) (by rfl) (by decide) (by rfl) (by rfl)) (nomark _)) (@pw_or1 _ _ _ _ (@pt_cmpR _ _ _ _ _ _ _ _ op_ne (@pe_reprX _ _ _ _ _ hug hr.gd B.repr (@pa_cons _ _ _ _ _ (pv 5) (@pa_nil _) (by rfl)) (by rfl) (by rfl)) (@pe_reprX _ _ _ _ _ hug hr.gd B.repr (@pa_cons _ _ _ _ _ (pv 4) (@pa_nil _) (by rfl)) (by rfl) (by rfl)) (nomark _))))).pt (@pss_one _ _ _ (@ps_ret _ _ _ _ (@pe_bl _ _ _ _))) (@pss_nil _))))) (by intro _; rfl)) (@pss_cons _ _ _ _ _ (@ps_if _ _ _ _ _ _ _ _ (@pt_cmpR _ _ _ _ _ _ _ _ op_notBl (@pe_cal _ _ _ _ _ _ _ _ _ _ c_is_turn hr_is_turn (@pa_cons _ _ _ _ _ (pv 3) (@pa_nil _) (by rfl)) (by rfl) (by decide) (by rfl) (by rfl)) (@pe_bl _ _ _ _) (nomark _)) (@pss_one _ _ _ (@ps_ret _ _ _ _ (@pe_bl _ _ _ _))) (@pss_nil _)) (@pss_cons _ _ _ _ _ (@ps_for _ _ _ _ _ _ _ _ PassesOwn.never rfl (@pi_list _ _ _ _ (@pe_lst _ _ _ _ (@pa_cons _ _ _ _ _ (@pe_int _ _ _ _) (@pa_cons _ _ _ _ _ (@pe_int _ _ _ _) (@pa_cons _ _ _ _ _ (@pe_int _ _ _ _) (@pa_nil _) (by rfl)) (by rfl)) (by rfl)))) (@pg_name _ _ (7) _ sc_law.nd rfl (Or.inl rfl) (by first | exact .inl rfl | exact .inr rfl | assumption)) (@pss_one _ _ _ (@ps_if _ _ _ _ _ _ _ _ (@pt_cmpR _ _ _ _ _ _ _ _ op_ne (@pe_cal _ _ _ _ _ _ _ _ _ _ c_is_turn hr_is_turn (@pa_cons _ _ _ _ _ (@pe_cal _ _ _ _ _ _ _ _ _ _ c_law_mixed_up hr_law_mixed_up (@pa_cons _ _ _ _ _ (pv 2) (@pa_cons _ _ _ _ _ (@pe_listRng _ _ _ _ _ _ _ rfl B.list B.range (@pa_cons _ _ _ _ _ (pv 7) (@pa_nil _) (by rfl)) (by rfl) (by rfl) (by rfl) (by rfl)) (@pa_nil _) (by rfl)) (by rfl)) (by rfl) (by decide) (by rfl) (by rfl)) (@pa_nil _) (by rfl)) (by rfl) (by decide) (by rfl) (by rfl)) (@pe_cmpR _ _ _ _ _ _ _ _ op_lt (pv 7) (@pe_int _ _ _ _) (nomark _)) (nomark _)) (@pss_one _ _ _ (@ps_ret _ _ _ _ (@pe_bl _ _ _ _))) (@pss_nil _))) (by intro _; rfl)) (@pss_one _ _ _ (@ps_if _ _ _ _ _ _ _ _ (@pt_cmpR _ _ _ _ _ _ _ _ op_notBl (@pe_cal _ _ _ _ _ _ _ _ _ _ c_is_turn hr_is_turn (@pa_cons _ _ _ _ _ (@pe_listRng _ _ _ _ _ _ _ rfl B.list B.range (@pa_cons _ _ _ _ _ (@pe_op _ _ _ _ _ _ _ _ op_add (@pe_int _ _ _ _) (@pe_cal _ _ _ _ _ _ _ _ _ _ c_law_take hr_law_take (@pa_cons _ _ _ _ _ (pv 2) (@pa_cons _ _ _ _ _ (@pe_int _ _ _ _) (@pa_nil _) (by rfl)) (by rfl)) (by rfl) (by decide) (by rfl) (by rfl))) (@pa_nil _) (by rfl)) (by rfl) (by rfl) (by rfl) (by rfl)) (@pa_nil _) (by rfl)) (by rfl) (by decide) (by rfl) (by rfl)) (@pe_bl _ _ _ _) (nomark _)) (@pss_one _ _ _ (@ps_ret _ _ _ _ (@pe_bl _ _ _ _))) (@pss_nil _)))))))) (by intro _; rfl)) (@pss_cons _ _ _ _ _ (@ps_for _ _ _ _ _ _ _ _ PassesOwn.never rfl (@pi_list _ _ _ _ (@pe_lst _ _ _ _ (@pa_cons _ _ _ _ _ (@pe_non _ _ _) (@pa_cons _ _ _ _ _ (@pe_int _ _ _ _) (@pa_cons _ _ _ _ _ (@pe_bl _ _ _ _) (@pa_cons _ _ _ _ _ (@pe_str _ _ _ _) (@pa_cons _ _ _ _ _ (@pe_str _ _ _ _) (@pa_cons _ _ _ _ _ (@pe_tup _ _ _ _ _ (@pa_nil _)) (@pa_cons _ _ _ _ _ (@pe_dnewK _ _) (@pa_cons _ _ _ _ _ (@pe_tup _ _ _ _ _ (@pa_cons _ _ _ _ _ (@pe_int _ _ _ _) (@pa_nil _) (by rfl))) (@pa_cons _ _ _ _ _ (@pe_lst _ _ _ _ (@pa_cons _ _ _ _ _ (@pe_bl _ _ _ _) (@pa_nil _) (by rfl))) (@pa_cons _ _ _ _ _ (@pe_lst _ _ _ _ (@pa_cons _ _ _ _ _ (@pe_bl _ _ _ _) (@pa_nil _) (by rfl))) (@pa_cons _ _ _ _ _ (@pe_lst _ _ _ _ (@pa_cons _ _ _ _ _ (@pe_lst _ _ _ _ (@pa_cons _ _ _ _ _ (@pe_int _ _ _ _) (@pa_nil _) (by rfl))) (@pa_nil _) (by rfl))) (@pa_cons _ _ _ _ _ (@pe_lst _ _ _ _ (@pa_cons _ _ _ _ _ (@pe_int _ _ _ _) (@pa_nil _) (by rfl))) (@pa_cons _ _ _ _ _ (@pe_lst _ _ _ _ (@pa_cons _ _ _ _ _ (@pe_int _ _ _ _) (@pa_cons _ _ _ _ _ (@pe_int _ _ _ _) (@pa_nil _) (by rfl)) (by rfl))) (@pa_cons _ _ _ _ _ (@pe_lst _ _ _ _ (@pa_cons _ _ _ _ _ (@pe_non _ _ _) (@pa_nil _) (by rfl))) (@pa_cons _ _ _ _ _ (@pe_str _ _ _ _) (@pa_nil _) (by rfl)) (by rfl)) (by rfl)) (by rfl)) (by rfl)) (by rfl)) (by rfl)) (by rfl)) (by rfl)) (by rfl)) (by rfl)) (by rfl)) (by rfl)) (by rfl)) (by rfl)))) (@pg_name _ _ (4) _ sc_law.nd rfl (Or.inl rfl) (by first | exact .inl rfl | exact .inr rfl | assumption)) (@pss_one _ _ _ (@ps_if _ _ _ _ _ _ _ _ (@pt_cmpR _ _ _ _ _ _ _ _ op_notBl (@pe_cal _ _ _ _ _ _ _ _ _ _ c_is_turn hr_is_turn (@pa_cons _ _ _ _ _ (pv 4) (@pa_nil _) (by rfl)) (by rfl) (by decide) (by rfl) (by rfl)) (@pe_bl _ _ _ _) (nomark _)) (@pss_one _ _ _ (@ps_ret _ _ _ _ (@pe_bl _ _ _ _))) (@pss_nil _))) (by intro _; rfl)) (@pss_one _ _ _ (@ps_ret _ _ _ _ (@pe_and _ _ _ _ _ _ _ (@pe_cmpR _ _ _ _ _ _ _ _ op_isBl (@pe_cal _ _ _ _ _ _ _ _ _ _ c_is_turn hr_is_turn (@pa_cons _ _ _ _ _ (@pe_lst _ _ _ _ (@pa_nil _)) (@pa_nil _) (by rfl)) (by rfl) (by decide) (by rfl) (by rfl)) (@pe_bl _ _ _ _) (nomark _)) (@pe_one _ _ _ _ _ (@pe_cmpR _ _ _ _ _ _ _ _ op_isBl (@pe_cal _ _ _ _ _ _ _ _ _ _ c_is_turn hr_is_turn (@pa_cons _ _ _ _ _ (@pe_lst _ _ _ _ (@pa_cons _ _ _ _ _ (@pe_int _ _ _ _) (@pa_nil _) (by rfl))) (@pa_nil _) (by rfl)) (by rfl) (by decide) (by rfl) (by rfl)) (@pe_bl _ _ _ _) (nomark _))))))), ?_⟩
    refine ⟨_, rfl, a, _, rfl, .inl ha, 15, _, rfl, 1, _, rfl, _, rfl, ?_⟩
    obtain ⟨mx, hmx, hm1, hm2⟩ := maxmin' (n := 15) (c := ((ns.map V.int).length : Int)) (by decide) (by omega)
    rw [hmx]
    refine ⟨by omega, by omega, for_range (lo := 0) (n := mx.toNat) (fun i σ H2 => ∃ v1 v2 v3 v4 v5 v6 v7 : Option V, σ = [some (.ref a), v1, v2, v3, v4, v5, v6, v7] ∧ Same H H2)
      ⟨none, none, none, none, none, none, none, rfl, Same.refl H⟩ ?_ ?_⟩
    · rintro i σ H2 hi ⟨v1, v2, v3, v4, v5, v6, v7, rfl, s02⟩
      refine ⟨_, rfl, _, rfl, a, ns, _, rfl, s02.seq ha, by omega, by omega, fun g H3 hg s23 P3 => ?_⟩
      have hg0 : H g = none := s02.free hg
      refine ⟨_, rfl, g, _, 40, rfl, P3, by decide, by decide, by decide, fun pa p H4 npa tp lp h4 P4 kb4 => ?_⟩
      have npg : pa ≠ g := pool_ne P3 npa
      have l40 : p.length ≤ 40 := by omega
      have pb : ∀ x ∈ p, 0 ≤ x ∧ x < 40 := fun x hx => by have := tp.lo x hx; have := tp.hi x hx; omega
      have s04 : Same H H4 := (s02.trans s23).kb kb4 hg0
      refine ⟨_, rfl, (show 1 ≤ sizeLine by decide), fun l1 n5 => ?_⟩
      have s5 : Same H4 (upd H4 l1 (.lst [V.ref pa])) := Same.upd_new n5
      have g5 : (upd H4 l1 (.lst [V.ref pa])) l1 = some (.lst [V.ref pa]) := upd_same
      have ng5 : l1 ≠ g := pool_ne P4 n5
      have P5 := pool_same P4 s5
      generalize (upd H4 l1 (.lst [V.ref pa])) = H5 at s5 g5 P5 ⊢
      have h5 := s5 _ _ h4
      refine ⟨8, rfl, by decide, by decide, comp_range (lo := 0) (n := 8) (fun t ys σ H6 => ∃ v : Option V, σ = [v, some (.ref g), some (.ref pa)] ∧ ys.length = t ∧ (∀ y ∈ ys, ThV K (hole H6 g g) y) ∧ PoolAt H6 g (4600 + 60 * t) ∧ KeepBut g H5 H6) ⟨none, rfl, rfl, (fun y hy => by cases hy), P5, KeepBut.refl _ _⟩ ?_ ?_⟩
      · rintro t ys σ H6 ht ⟨v, rfl, ly, th, P6, kb6⟩
        have h6 := kb6 _ _ h5 npg
        refine ⟨_, rfl, _, rfl, g, pa, _, p, rfl, P6, by omega, h6, npg, pb, l40, fun y H7 P7 kb7 ty => ⟨small1000 (by omega), _, rfl, by rw [List.length_append, ly]; rfl, fun x hx => ?_, P7.mono (by omega), kb6.trans kb7⟩⟩
        rcases List.mem_append.mp hx with z | z
        · exact (th x z).keep (hole_kb kb7)
        · rw [List.mem_singleton.mp z]; exact ty
      rintro ys σ H6 ⟨v, rfl, ly, th, P6, kb6⟩ l2 n7
      have s7 : Same H6 (upd H6 l2 (.lst ys)) := Same.upd_new n7
      have g7 : (upd H6 l2 (.lst ys)) l2 = some (.lst ys) := upd_same
      have P7 := pool_same P6 s7
      generalize (upd H6 l2 (.lst ys)) = H7 at s7 g7 P7 ⊢
      refine ⟨l1, l2, _, _, rfl, rfl, s7 _ _ (kb6 _ _ g5 ng5), g7, Nat.le_of_lt (small1000 (by rw [ly]; simp)), fun l3 n8 => ?_⟩
      have s8 : Same H7 (upd H7 l3 (.lst ([V.ref pa] ++ ys))) := Same.upd_new n8
      have g8 : (upd H7 l3 (.lst ([V.ref pa] ++ ys))) l3 = some (.lst ([V.ref pa] ++ ys)) := upd_same
      have P8 := pool_same P7 s8
      generalize (upd H7 l3 (.lst ([V.ref pa] ++ ys))) = H8 at s8 g8 P8 ⊢
      have k48 : KeepBut g H4 H8 := (s5.but g).trans (kb6.trans ((s7.trans s8).but g))
      have h8 := k48 _ _ h4 npg
      have s08 : Same H H8 := s04.kb k48 hg0
      have all : ∀ x ∈ [V.ref pa] ++ ys, ThV K H8 x := fun x hx => by
        rcases List.mem_append.mp hx with z | z
        · rw [List.mem_singleton.mp z]
          exact th_list h8 (it_small fun x hx => by have := pb x hx; omega) (by rw [List.length_map]; omega)
        · exact ((th x z).keep (hole_kb (l := g) ((s7.trans s8).but g))).keep (hole_same H8 g g)
      refine ⟨l3, rfl, ⟨_, SqL.of g8⟩, for_list (K := K) (a := l3) (xs := [V.ref pa] ++ ys) (fun j σ H9 => ∃ v4 v5 v6 v7 : Option V, σ = [some (.ref a), some (.int ((0 : Int) + (i : Int))), some (.ref g), some (.ref pa), v4, v5, v6, v7] ∧ Same H8 H9)
        ⟨_, _, _, _, rfl, Same.refl _⟩ (fun j σ H9 _ ⟨_, _, _, _, _, s⟩ => SqL.of (s _ _ g8)) ?_ ?_⟩
      · rintro j x σ H9 hj ⟨v4, v5, v6, v7, rfl, s9⟩
        have T9 := (all x (List.mem_of_getElem? hj)).keep s9
        obtain ⟨b, J⟩ := T9.jd
        refine ⟨_, rfl, x, rfl, T9.cp, fun u H10 s10 cr => ?_⟩
        refine ⟨_, rfl, is_of (cr.jd (J.keep s10)) fun H11 s11 => ?_⟩
        refine ⟨_, rfl, _, "bool", _, true, rfl, .bl b, kit_same K "bool", _, rfl, iteF ⟨_, rfl, _, rfl, x, b, rfl, J.keep (s10.trans s11), fun H12 s12 => ⟨rfl, _, rfl, iteNS rfl ?_⟩⟩⟩
        obtain ⟨t, t1, t2⟩ := sht_of (cr.keep (s11.trans s12)) (T9.sh.keep (s10.trans (s11.trans s12)))
        refine ⟨_, rfl, u, t, rfl, t1, _, rfl, x, t, rfl, t2, rfl, _, rfl, iteNS rfl ?_⟩
        exact ⟨_, _, _, _, rfl, s9.trans (s10.trans (s11.trans s12))⟩
      rintro σ H9 ⟨v4, v5, v6, v7, rfl, s9⟩
      have h9 := s9 _ _ h8
      have P9 := pool_same P8 s9
      refine ⟨_, rfl, is_of (jd_yes h9 l40 tp) fun H10 s10 => ⟨true, true, rfl, rfl, _, rfl, iteF ?_⟩⟩
      have P10 := pool_same P9 s10
      have s010 : Same H H10 := s08.trans (s9.trans s10)
      refine ⟨(show 3 ≤ sizeLine by decide), fun l4 n11 => ?_⟩
      have s11 : Same H10 (upd H10 l4 (.lst [V.int 39, V.int 40, V.int 41])) := Same.upd_new n11
      have g11 : (upd H10 l4 (.lst [V.int 39, V.int 40, V.int 41])) l4 = some (.lst (([39, 40, 41] : List Int).map V.int)) := upd_same
      have ng11 : l4 ≠ g := pool_ne P10 n11
      have P11 := pool_same P10 s11
      generalize (upd H10 l4 (.lst [V.int 39, V.int 40, V.int 41])) = H11 at s11 g11 P11 ⊢
      refine ⟨l4, rfl, ⟨_, SqL.of g11⟩, for_list (K := K) (a := l4) (xs := ([39, 40, 41] : List Int).map V.int) (fun j σ H12 => ∃ v4 v5 v6 v7 : Option V, σ = [some (.ref a), some (.int ((0 : Int) + (i : Int))), some (.ref g), some (.ref pa), v4, v5, v6, v7] ∧ KeepBut g H11 H12 ∧ PoolAt H12 g (6000 + 50 * j))
        ⟨_, _, _, _, rfl, KeepBut.refl _ _, P11.mono (by omega)⟩ (fun j σ H12 _ ⟨_, _, _, _, _, k, _⟩ => SqL.of (k _ _ g11 ng11)) ?_ ?_⟩
      · rintro j x σ H12 hj ⟨v4, v5, v6, v7, rfl, k12, P12⟩
        obtain ⟨m, hm, rfl⟩ := getElem_int hj
        have mm : m = 39 ∨ m = 40 ∨ m = 41 := by
          have := List.mem_of_getElem? hm
          simpa using this
        have jl : j < 3 := (List.getElem?_eq_some_iff.mp hm).1
        refine ⟨_, rfl, _, rfl, m, rfl, fun rg hrg => ?_⟩
        have s13 : Same H12 (upd H12 rg (.rng 0 m)) := Same.upd_new hrg
        have g13 : (upd H12 rg (.rng 0 m)) rg = some (.rng 0 m) := upd_same
        generalize (upd H12 rg (.rng 0 m)) = H13 at s13 g13 ⊢
        refine ⟨rg, 0, m, rfl, g13, ⟨by omega, by omega, by omega, by omega⟩, by omega, fun st hst => ?_⟩
        rw [show (m - 0).toNat = m.toNat by omega]
        have s14 : Same H13 (upd H13 st (.lst ((upTo 0 m.toNat).map V.int))) := Same.upd_new hst
        have g14 : (upd H13 st (.lst ((upTo 0 m.toNat).map V.int))) st = some (.lst ((upTo 0 m.toNat).map V.int)) := upd_same
        generalize (upd H13 st (.lst ((upTo 0 m.toNat).map V.int))) = H14 at s14 g14 ⊢
        have P14 := pool_same P12 (s13.trans s14)
        have lu : ((upTo 0 m.toNat).map V.int).length = m.toNat := by unfold L2.upTo; simp
        refine ⟨g, st, _, _, rfl, P14, (by rw [lu]; omega), SqL.of g14, (by rw [lu]; omega), fun l5 ys5 H15 nl5 pm h15 P15 kb15 => ?_⟩
        obtain ⟨ps, rfl, pp⟩ := perm_ints pm
        obtain ⟨tps, lps⟩ := isT_of_perm pp
        rw [lu] at P15
        have J15 : Jd K H15 (.ref l5) (decide (m < 41)) := by
          by_cases z : m < 41
          · rw [decide_eq_true z]; exact jd_yes h15 (by omega) tps
          · rw [decide_eq_false z]; exact jd_nt h15 (fun l => by omega)
        refine is_of J15 fun H16 s16 => ⟨_, rfl, _, _, rfl, rfl, rfl, _, rfl, iteNS rfl ?_⟩
        exact ⟨_, _, _, _, rfl, k12.trans (((s13.trans s14).but g).trans (kb15.trans (s16.but g))), (pool_same P15 s16).mono (by omega)⟩
      rintro σ H12 ⟨v4', v5', v6', v7', rfl, k12, P12⟩
      refine ⟨_, rfl, g, _, 2958, rfl, P12, by decide, by decide, by decide, fun r H13 c0 c1 P13 kb13 => ⟨_, _, rfl, rfl, 42 + r, rfl, fun rg hrg => ?_⟩⟩
      have s14 : Same H13 (upd H13 rg (.rng 0 (42 + r))) := Same.upd_new hrg
      have g14 : (upd H13 rg (.rng 0 (42 + r))) rg = some (.rng 0 (42 + r)) := upd_same
      generalize (upd H13 rg (.rng 0 (42 + r))) = H14 at s14 g14 ⊢
      refine ⟨rg, 0, 42 + r, rfl, g14, ⟨by omega, by omega, by omega, by omega⟩, by omega, fun st hst => ?_⟩
      rw [show (42 + r - 0).toNat = (42 + r).toNat by omega]
      have s15 : Same H14 (upd H14 st (.lst ((upTo 0 (42 + r).toNat).map V.int))) := Same.upd_new hst
      have g15 : (upd H14 st (.lst ((upTo 0 (42 + r).toNat).map V.int))) st = some (.lst ((upTo 0 (42 + r).toNat).map V.int)) := upd_same
      generalize (upd H14 st (.lst ((upTo 0 (42 + r).toNat).map V.int))) = H15 at s15 g15 ⊢
      have lu : (upTo 0 (42 + r).toNat).length = (42 + r).toNat := by unfold L2.upTo; simp
      refine is_of (jd_nt g15 fun l => by omega) fun H16 s16 => ⟨false, false, rfl, rfl, _, rfl, iteF ?_⟩
      exact ⟨_, _, _, _, _, _, _, rfl, (((s010.trans s11).kb k12 hg0).kb kb13 hg0).trans (s14.trans (s15.trans s16))⟩
    · rintro σ H1 ⟨v1, v2, v3, v4, v5, v6, v7, rfl, s01⟩
      refine ⟨(show 0 ≤ sizeLine by decide), fun t1 n2 => ?_⟩
      have s2 : Same H1 (upd H1 t1 (.tup [])) := Same.upd_new n2
      have g2 : (upd H1 t1 (.tup [])) t1 = some (.tup []) := upd_same
      generalize (upd H1 t1 (.tup [])) = H2 at s2 g2 ⊢
      refine fun d1 n3 => ?_
      have s3 : Same H2 (upd H2 d1 (.dK [])) := Same.upd_new n3
      have g3 : (upd H2 d1 (.dK [])) d1 = some (.dK []) := upd_same
      generalize (upd H2 d1 (.dK [])) = H3 at s3 g3 ⊢
      refine ⟨(show 1 ≤ sizeLine by decide), fun t2 n4 => ?_⟩
      have s4 : Same H3 (upd H3 t2 (.tup [V.int 0])) := Same.upd_new n4
      have g4 : (upd H3 t2 (.tup [V.int 0])) t2 = some (.tup [V.int 0]) := upd_same
      generalize (upd H3 t2 (.tup [V.int 0])) = H4 at s4 g4 ⊢
      refine ⟨(show 1 ≤ sizeLine by decide), fun l5 n5 => ?_⟩
      have s5 : Same H4 (upd H4 l5 (.lst [V.bl true])) := Same.upd_new n5
      have g5 : (upd H4 l5 (.lst [V.bl true])) l5 = some (.lst [V.bl true]) := upd_same
      generalize (upd H4 l5 (.lst [V.bl true])) = H5 at s5 g5 ⊢
      refine ⟨(show 1 ≤ sizeLine by decide), fun l6 n6 => ?_⟩
      have s6 : Same H5 (upd H5 l6 (.lst [V.bl false])) := Same.upd_new n6
      have g6 : (upd H5 l6 (.lst [V.bl false])) l6 = some (.lst [V.bl false]) := upd_same
      generalize (upd H5 l6 (.lst [V.bl false])) = H6 at s6 g6 ⊢
      refine ⟨(show 1 ≤ sizeLine by decide), fun l7 n7 => ?_⟩
      have s7 : Same H6 (upd H6 l7 (.lst [V.int 0])) := Same.upd_new n7
      have g7 : (upd H6 l7 (.lst [V.int 0])) l7 = some (.lst [V.int 0]) := upd_same
      generalize (upd H6 l7 (.lst [V.int 0])) = H7 at s7 g7 ⊢
      refine ⟨(show 1 ≤ sizeLine by decide), fun l8 n8 => ?_⟩
      have s8 : Same H7 (upd H7 l8 (.lst [V.ref l7])) := Same.upd_new n8
      have g8 : (upd H7 l8 (.lst [V.ref l7])) l8 = some (.lst [V.ref l7]) := upd_same
      generalize (upd H7 l8 (.lst [V.ref l7])) = H8 at s8 g8 ⊢
      refine ⟨(show 1 ≤ sizeLine by decide), fun l9 n9 => ?_⟩
      have s9 : Same H8 (upd H8 l9 (.lst [V.int 1])) := Same.upd_new n9
      have g9 : (upd H8 l9 (.lst [V.int 1])) l9 = some (.lst [V.int 1]) := upd_same
      generalize (upd H8 l9 (.lst [V.int 1])) = H9 at s9 g9 ⊢
      refine ⟨(show 2 ≤ sizeLine by decide), fun l10 n10 => ?_⟩
      have s10 : Same H9 (upd H9 l10 (.lst [V.int 0, V.int 0])) := Same.upd_new n10
      have g10 : (upd H9 l10 (.lst [V.int 0, V.int 0])) l10 = some (.lst [V.int 0, V.int 0]) := upd_same
      generalize (upd H9 l10 (.lst [V.int 0, V.int 0])) = H10 at s10 g10 ⊢
      refine ⟨(show 1 ≤ sizeLine by decide), fun l11 n11 => ?_⟩
      have s11 : Same H10 (upd H10 l11 (.lst [V.non])) := Same.upd_new n11
      have g11 : (upd H10 l11 (.lst [V.non])) l11 = some (.lst [V.non]) := upd_same
      generalize (upd H10 l11 (.lst [V.non])) = H11 at s11 g11 ⊢
      refine ⟨(show 15 ≤ sizeLine by decide), fun lo n12 => ?_⟩
      obtain ⟨xs, exs⟩ : ∃ xs : List V, xs = [V.non, V.int 0, V.bl true, V.str (Str.ofString ""), V.str (Str.ofString "0"), V.ref t1, V.ref d1, V.ref t2, V.ref l5, V.ref l6, V.ref l8, V.ref l9, V.ref l10, V.ref l11, V.str (Str.ofString "[0]")] := ⟨_, rfl⟩
      have s12 : Same H11 (upd H11 lo (.lst [V.non, V.int 0, V.bl true, V.str (Str.ofString ""), V.str (Str.ofString "0"), V.ref t1, V.ref d1, V.ref t2, V.ref l5, V.ref l6, V.ref l8, V.ref l9, V.ref l10, V.ref l11, V.str (Str.ofString "[0]")])) := Same.upd_new n12
      have g12 : (upd H11 lo (.lst [V.non, V.int 0, V.bl true, V.str (Str.ofString ""), V.str (Str.ofString "0"), V.ref t1, V.ref d1, V.ref t2, V.ref l5, V.ref l6, V.ref l8, V.ref l9, V.ref l10, V.ref l11, V.str (Str.ofString "[0]")])) lo = some (.lst xs) := by rw [upd_same, exs]
      generalize (upd H11 lo (.lst [V.non, V.int 0, V.bl true, V.str (Str.ofString ""), V.str (Str.ofString "0"), V.ref t1, V.ref d1, V.ref t2, V.ref l5, V.ref l6, V.ref l8, V.ref l9, V.ref l10, V.ref l11, V.str (Str.ofString "[0]")])) = H12 at s12 g12 ⊢
      have t11 := s11.trans s12
      have t10 := s10.trans t11
      have t9 := s9.trans t10
      have t8 := s8.trans t9
      have t7 := s7.trans t8
      have t6 := s6.trans t7
      have t5 := s5.trans t6
      have t4 := s4.trans t5
      have t3 := s3.trans t4
      have all : ∀ x ∈ xs, Jd K H12 x false := by
        intro x hx
        rw [exs] at hx
        simp only [List.mem_cons, List.not_mem_nil, or_false] at hx
        rcases hx with rfl | rfl | rfl | rfl | rfl | rfl | rfl | rfl | rfl | rfl | rfl | rfl | rfl | rfl | rfl
        · exact jd_no .non (kit_none_list K)
        · exact jd_no (.int 0) (kit_int_list K)
        · exact jd_no (.bl true) (kit_bool_list K)
        · exact jd_no (.str _) (kit_str_list K)
        · exact jd_no (.str _) (kit_str_list K)
        · exact jd_no (.tup (t3 _ _ g2)) (kit_tuple_list K)
        · exact jd_no (.dK (t4 _ _ g3)) (kit_dict_list K)
        · exact jd_no (.tup (t5 _ _ g4)) (kit_tuple_list K)
        · exact jd_bad (t6 _ _ g5) (odd_bl true) (fun i e => by cases e)
        · exact jd_bad (t7 _ _ g6) (odd_bl false) (fun i e => by cases e)
        · exact jd_bad (t9 _ _ g8) (odd_lst (t8 _ _ g7)) (fun i e => by cases e)
        · exact jd_nt (ns := [1]) (t10 _ _ g9) (fun _ t => by have := t.hi 1 (by simp); simp at this)
        · exact jd_nt (ns := [0, 0]) (t11 _ _ g10) (fun _ t => by have := t.nd; simp at this)
        · exact jd_bad (s12 _ _ g11) odd_non (fun i e => by cases e)
        · exact jd_no (.str _) (kit_str_list K)
      refine ⟨lo, rfl, ⟨_, SqL.of g12⟩, for_list (K := K) (a := lo) (xs := xs) (fun j σ H13 => ∃ u1 u2 u3 u4 u5 u6 u7 : Option V, σ = [some (.ref a), u1, u2, u3, u4, u5, u6, u7] ∧ Same H12 H13)
        ⟨_, _, _, _, _, _, _, rfl, Same.refl _⟩ (fun j σ H13 _ ⟨_, _, _, _, _, _, _, _, s⟩ => SqL.of (s _ _ g12)) ?_ ?_⟩
      · rintro j x σ H13 hj ⟨u1, u2, u3, u4, u5, u6, u7, rfl, s13⟩
        exact ⟨_, rfl, is_of ((all x (List.mem_of_getElem? hj)).keep s13) fun H14 s14 => ⟨false, false, rfl, rfl, _, rfl, iteF ⟨_, _, _, _, _, _, _, rfl, s13.trans s14⟩⟩⟩
      rintro σ H13 ⟨u1, u2, u3, u4, u5, u6, u7, rfl, s13⟩
      refine ⟨(show 0 ≤ sizeLine by decide), fun e1 n14 => ?_⟩
      refine is_of (jd_yes (ns := []) upd_same (by decide) ⟨List.nodup_nil, (fun x hx => by cases hx), (fun x hx => by cases hx)⟩) fun H14 s14 => ⟨true, true, rfl, rfl, _, rfl, iteT ?_⟩
      refine ⟨(show 1 ≤ sizeLine by decide), fun e2 n15 => ?_⟩
      refine is_of (jd_yes (ns := [0]) upd_same (by decide) ⟨by simp, (fun x hx => by rw [List.mem_singleton.mp hx]; omega), (fun x hx => by rw [List.mem_singleton.mp hx]; decide)⟩) fun H15 s15 => ⟨true, true, rfl, rfl, q H15⟩
end
end My
namespace My
open PySem L2 Mth
theorem all_mk {l : PySem.W.OpenLaw} {w : World} {K : PySem.W.Frag} {h : Heap} {mg : Str → Option Value} {fa f0 f1 f2 f3 f4 f5 f6 f7 f8 f9 f10 f11 f12 : Addr} {tk0 : Tok} (X : K.In h) (G : h.Ns mainGlobals mg) (hfa : mg "law" = some (.ref fa))
    (u0 : Fu K "is_whole" s_is_whole f0)
    (u1 : Fu K "is_turn" s_is_turn f1)
    (u2 : Fu K "_law_pool" s_law_pool f2)
    (u3 : Fu K "_law_take" s_law_take f3)
    (u4 : Fu K "_law_mixed_up" s_law_mixed_up f4)
    (u5 : Fu K "_law_by_lengths" s_law_by_lengths f5)
    (u6 : Fu K "_law_lengths" s_law_lengths f6)
    (u7 : Fu K "_law_turn" s_law_turn f7)
    (u8 : Fu K "_law_is_turn" s_law_is_turn f8)
    (u9 : Fu K "_law_odd" s_law_odd f9)
    (u10 : Fu K "_law_spoilt" s_law_spoilt f10)
    (u11 : Fu K "_law_copy" s_law_copy f11)
    (u12 : Fu K "law" s_law f12)
    (m0 : PySem.W.nsIn K mainGlobals "MOST_THINGS" = some (some (.int 40 tk0)))
    (zz : Fre K ["len", "isinstance", "int", "bool", "list", "range", "sum", "min", "max", "enumerate", "zip", "sorted", "tuple", "str", "repr", "all", "any", "set", "dict", "ValueError"])
    : ∃ fd : FuncData, (∀ (s : Shared) (v : Value), BindsTo s fd ⟨[v], []⟩ [("script", v)]) ∧ ∀ base : Heap, K.In base → base.Ns mainGlobals mg → FnOk l.prog w K mg base CX0 5 fa fd ["script"] (spLaw K) := by
  obtain ⟨d0, a0, F0⟩ := u0
  obtain ⟨d1, a1, F1⟩ := u1
  obtain ⟨d2, a2, F2⟩ := u2
  obtain ⟨d3, a3, F3⟩ := u3
  obtain ⟨d4, a4, F4⟩ := u4
  obtain ⟨d5, a5, F5⟩ := u5
  obtain ⟨d6, a6, F6⟩ := u6
  obtain ⟨d7, a7, F7⟩ := u7
  obtain ⟨d8, a8, F8⟩ := u8
  obtain ⟨d9, a9, F9⟩ := u9
  obtain ⟨d10, a10, F10⟩ := u10
  obtain ⟨d11, a11, F11⟩ := u11
  obtain ⟨d12, a12, F12⟩ := u12
  have e := hfa.symm.trans (PySem.W.mg_of X G a12)
  cases e
  obtain ⟨z0, z1, z2, z3, z4, z5, z6, z7, z8, z9, z10, z11, z12, z13, z14, z15, z16, z17, z18, z19, _⟩ := zz
  have zn {y : Str} (z : PySem.W.nsIn K mainGlobals y = some none) := PySem.W.mg_none_of X G z
  have B : Bl mg := ⟨zn z0, zn z1, zn z2, zn z3, zn z4, zn z5, zn z6, zn z7, zn z8, zn z9, zn z10, zn z11, zn z12, zn z13, zn z14, zn z15, zn z16, zn z17, zn z18, zn z19⟩
  have mt : ∃ t, mg "MOST_THINGS" = some (.int 40 t) := ⟨_, PySem.W.mg_of X G m0⟩
  have b0 := F0.binds (ps := ["thing"]) fun _ _ _ _ _ _ us hl => match us, hl with | [_], _ => rfl
  have b1 := F1.binds (ps := ["thing"]) fun _ _ _ _ _ _ us hl => match us, hl with | [_], _ => rfl
  have b2 := F2.binds (ps := ["script", "k"]) fun _ _ _ _ _ _ us hl => match us, hl with | [_, _], _ => rfl
  have b3 := F3.binds (ps := ["pool", "many"]) fun _ _ _ _ _ _ us hl => match us, hl with | [_, _], _ => rfl
  have b4 := F4.binds (ps := ["pool", "things"]) fun _ _ _ _ _ _ us hl => match us, hl with | [_, _], _ => rfl
  have b5 := F5.binds (ps := ["pool", "lengths"]) fun _ _ _ _ _ _ us hl => match us, hl with | [_, _], _ => rfl
  have b6 := F6.binds (ps := ["pool", "many"]) fun _ _ _ _ _ _ us hl => match us, hl with | [_, _], _ => rfl
  have b7 := F7.binds (ps := ["pool", "most"]) fun _ _ _ _ _ _ us hl => match us, hl with | [_, _], _ => rfl
  have b8 := F8.binds (ps := ["thing"]) fun _ _ _ _ _ _ us hl => match us, hl with | [_], _ => rfl
  have b9 := F9.binds (ps := ["pool", "p", "at"]) fun _ _ _ _ _ _ us hl => match us, hl with | [_, _, _], _ => rfl
  have b10 := F10.binds (ps := ["pool", "p"]) fun _ _ _ _ _ _ us hl => match us, hl with | [_, _], _ => rfl
  have b11 := F11.binds (ps := ["thing"]) fun _ _ _ _ _ _ us hl => match us, hl with | [_], _ => rfl
  obtain ⟨oc, od, kV, dc, pm, an, cd, ct, sl, rfl, lk, hcd⟩ := id F12.ex
  refine ⟨PySem.W.fnOf "law" "law" (defArgs s_law) (defBody s_law) (defScope s_law) .none kV dc pm an cd ct, fun s v => .of_eq rfl, fun base _ _ => ?_⟩
  have c_is_whole : Cal l.prog w K mg base "is_whole" 1 ["thing"] (spWhole K) := cal_mk X G a0 F0 b0 (ok_whole F0 B)
  have c_is_turn : Cal l.prog w K mg base "is_turn" 2 ["thing"] (orSp spIsTurn (spTurnX K)) := cal_mk X G a1 F1 b1 (fn_or (ok_isTurn F1 B mt c_is_whole) (ok_is_turn F1 B mt c_is_whole))
  have c_law_pool : Cal l.prog w K mg base "_law_pool" 1 ["script", "k"] (spPool K) := cal_mk X G a2 F2 b2 (ok_pool F2 B)
  have c_law_take : Cal l.prog w K mg base "_law_take" 1 ["pool", "many"] spTake := cal_mk X G a3 F3 b3 (ok_take F3)
  have c_law_mixed_up : Cal l.prog w K mg base "_law_mixed_up" 2 ["pool", "things"] (spMixed K) := cal_mk X G a4 F4 b4 (ok_mixed F4 B c_law_take)
  have c_law_by_lengths : Cal l.prog w K mg base "_law_by_lengths" 3 ["pool", "lengths"] spByLen := cal_mk X G a5 F5 b5 (ok_byLen F5 B c_law_mixed_up)
  have c_law_lengths : Cal l.prog w K mg base "_law_lengths" 2 ["pool", "many"] spLengths := cal_mk X G a6 F6 b6 (ok_lengths F6 B c_law_take)
  have c_law_turn : Cal l.prog w K mg base "_law_turn" 4 ["pool", "most"] spTurn := cal_mk X G a7 F7 b7 (ok_turn F7 B c_law_take c_law_mixed_up c_law_by_lengths c_law_lengths)
  have c_law_is_turn : Cal l.prog w K mg base "_law_is_turn" 1 ["thing"] (spLIs K) := cal_mk X G a8 F8 b8 (ok_law_is_turn F8 B)
  have c_law_odd : Cal l.prog w K mg base "_law_odd" 2 ["pool", "p", "at"] (spOdd K) := cal_mk X G a9 F9 b9 (ok_law_odd F9 B c_law_take)
  have c_law_spoilt : Cal l.prog w K mg base "_law_spoilt" 3 ["pool", "p"] (spSpoilt K) := cal_mk X G a10 F10 b10 (ok_law_spoilt F10 B c_law_take c_law_odd)
  have c_law_copy : Cal l.prog w K mg base "_law_copy" 3 ["thing"] (spCopy 2) := cal_mk X G a11 F11 b11 (okr_law_copy F11 B (cal_mk X G a11 F11 b11 (okr_law_copy F11 B (cal_mk X G a11 F11 b11 (ok_law_copy F11 B)))))
  exact ok_law F12 B c_law_pool c_law_turn c_law_spoilt c_law_copy c_is_turn c_law_is_turn c_law_mixed_up c_law_take
theorem walk {l : PySem.W.OpenLaw} {q : Program} {loose : List Str} {XP : (Str → Option Value) → Heap → Prop} {YP : World → Heap → Prop} {d : DefRec} {K : Params → PySem.W.Frag} (hn : l.most = some 63) (hdf : d.params.defaults = [])
    (hY : ∀ (w : World) (h : Heap), YP w h → (K w.params).In h)
    (F : ∀ (w : World) (mg : Str → Option Value) (fa : Addr) (h : Heap), (K w.params).In h → h.Ns mainGlobals mg → mg d.name = some (.ref fa) →
      ∃ fd : FuncData, (∀ (s : Shared) (u : Value), BindsTo s fd ⟨[u], []⟩ [("script", u)]) ∧ ∀ base : Heap, (K w.params).In base → base.Ns mainGlobals mg → FnOk l.prog w (K w.params) mg base CX0 5 fa fd ["script"] (spLaw (K w.params))) :
    PySem.W.WalkO q loose XP YP l.row.toRowW d [] (fun f vs => PySem.call f vs) :=
  L2.walk_of (n := 63) (k := 5) (x := "script") (CX := fun _ => CX0) (sp := fun w => spLaw (K w.params)) hn (by decide) hdf ⟨rfl, by decide, by decide, rfl⟩ hY F (fun _ _ a ns hl _ hS => ⟨a, ns, rfl, hS, hl, fun _ => rfl⟩) fun _ _ _ _ _ z => z
end My
open PySem PySem.W PyProof.Rows L2
set_option maxRecDepth 100000 in
set_option maxHeartbeats 0 in
theorem PySem.Challenge.cw_turnroots_k01_what_is_a_turn_holds : PySem.Challenge.rw_turnroots_k01_what_is_a_turn.Holds := by
  w_on; o_law; k_head; (case hw => w_witness2)
  k_fill
  refine My.walk (l := PySem.Challenge.rw_turnroots_k01_what_is_a_turn) rfl rfl (fun w h Y => PySem.W.kIn_of Y) ?F
  case F =>
    intro w mg fa h KX G hmg
    refine' My.all_mk KX G hmg ?_ ?_ ?_ ?_ ?_ ?_ ?_ ?_ ?_ ?_ ?_ ?_ ?_ ?_ ?_
    all_goals first
      | k_is
      | (refine' fu_mk ?a ?l ?c ?k; (case a => k_is); (case l => k_is); (case c => k_is); (case k => k_is))
      | ((repeat (refine' And.intro (ClF.mk ?n ?e ?g ?h ?c ?b ?o ?i ?t ?u ?v ?s) ?_; (case n => k_is); (case e => k_exc); (case g => k_is); (case h => k_is); (case c => k_is); (case b => k_is); (case o => k_is); (case i => k_is); (case t => k_is); (case u => k_is); (case v => k_is); (case s => k_is))); exact trivial)
      | ((repeat (refine' And.intro ?n ?_; (case n => k_is))); exact trivial)
      | ((repeat (refine' And.intro ?zp ?_; (case zp => ((repeat (refine' And.intro ?n ?_; (case n => k_is))); exact trivial)))); exact trivial)
      | skip
#print axioms PySem.Challenge.cw_turnroots_k01_what_is_a_turn_holds