import PyProof.Rows.All
import Wide.All
import OpenK.AllK
import Wide.FinOn
import Lean
import PyProof.EqAt
import PyProof.EqKinds
import PyProof.TupleCall
import PyProof.NeKinds
import PyProof.EnumMake
import PyProof.Rows.SeqMore2
import PyProof.ZipIter
import PyProof.Rows.SortRev
import PyProof.Rows.SortWalk
import PyProof.Rows.CallKwBuiltin
import PyProof.DictIter
import PyProof.DictWalks
import PyProof.MeetsDict
import PyProof.Conv_int_bool
import PyProof.EqAt
import PyProof.CollectWalk
import PyProof.Rows.SortShell
import PyProof.Rows.Range3
import PyProof.CallFns
import PyProof.StrBlockH
import PySem.Challenge.RW_turnroots_k46_turns_written_and_read
set_option Elab.async false
set_option linter.all false
set_option maxRecDepth 100000
set_option maxHeartbeats 8000000
set_option Elab.async false
set_option linter.all false
set_option maxRecDepth 100000
namespace L2
open PySem PySem.Spec PyProof.Rows
abbrev Key := Sum Int Str
def keyIs : Key → Value → Bool
  | .inl k, v => Value.isInt k v
  | .inr x, v => Value.isStrOf x v
def keyH (w : World) : Key → Int
  | .inl k => hashInt k
  | .inr x => hashStr w x
theorem keyIs_shape : ∀ {k : Key} {v : Value}, keyIs k v = true → (∃ i t, k = Sum.inl i ∧ v = Value.int i t) ∨ (∃ x t, k = Sum.inr x ∧ v = Value.str x t)
  | .inl i, v, h => by
    obtain ⟨t, e⟩ := Value.isInt_shape (k := i) (v := v) h
    exact .inl ⟨i, t, rfl, e⟩
  | .inr x, v, h => by
    obtain ⟨t, e⟩ := Value.isStrOf_shape (x := x) (v := v) h
    exact .inr ⟨x, t, rfl, e⟩
theorem keyIs_int (i : Int) (t : Tok) : keyIs (.inl i) (.int i t) = true := by simp [keyIs, Value.isInt]
theorem keyIs_str (x : Str) (t : Tok) : keyIs (.inr x) (.str x t) = true := by simp [keyIs, Value.isStrOf]
theorem key_ll (a b : Int) : decide ((Sum.inl a : Key) = Sum.inl b) = (a == b) := by
  by_cases e : a = b
  · subst e; simp
  · have h : ¬ (Sum.inl a : Key) = Sum.inl b := fun q => e (Sum.inl.inj q)
    rw [decide_eq_false h]
    exact (beq_eq_false_iff_ne.mpr e).symm
theorem key_rr (a b : Str) : decide ((Sum.inr a : Key) = Sum.inr b) = decide (a = b) := by
  by_cases e : a = b
  · subst e; simp
  · have h : ¬ (Sum.inr a : Key) = Sum.inr b := fun q => e (Sum.inr.inj q)
    rw [decide_eq_false h, decide_eq_false e]
theorem key_lr (a : Int) (b : Str) : decide ((Sum.inl a : Key) = Sum.inr b) = false := decide_eq_false (fun q => nomatch q)
theorem key_rl (a : Str) (b : Int) : decide ((Sum.inr a : Key) = Sum.inl b) = false := decide_eq_false (fun q => nomatch q)
def mixKind (prog : Program) (w : World) : PySem.KeyKind prog w Key where
  is := keyIs
  hash := keyH w
  inj := fun v a b ha hb => by
    rcases keyIs_shape ha with ⟨i, t, rfl, rfl⟩ | ⟨x, t, rfl, rfl⟩
    · rcases keyIs_shape hb with ⟨j, u, rfl, e⟩ | ⟨y, u, rfl, e⟩
      · injection e with e1 _; rw [e1]
      · exact nomatch e
    · rcases keyIs_shape hb with ⟨j, u, rfl, e⟩ | ⟨y, u, rfl, e⟩
      · exact nomatch e
      · injection e with e1 _; rw [e1]
  byValue := fun k v h => by
    rcases keyIs_shape h with ⟨i, t, rfl, rfl⟩ | ⟨x, t, rfl, rfl⟩ <;> rfl
  pyHash := fun hv h => by
    rcases keyIs_shape hv with ⟨i, t, rfl, rfl⟩ | ⟨x, t, rfl, rfl⟩
    · exact wpAny_pyHash_int h
    · exact wpAny_pyHash_str h
  eqBool := fun hu hv h => by
    rcases keyIs_shape hu with ⟨i, t, rfl, rfl⟩ | ⟨x, t, rfl, rfl⟩
    · rcases keyIs_shape hv with ⟨j, u, rfl, rfl⟩ | ⟨y, u, rfl, rfl⟩
      · rw [key_ll] at h; exact wpAny_eqBool_int h
      · rw [key_lr] at h; exact SeqAt.EqAt.int_str i t y u _ _ _ _ h
    · rcases keyIs_shape hv with ⟨j, u, rfl, rfl⟩ | ⟨y, u, rfl, rfl⟩
      · rw [key_rl] at h; exact SeqAt.EqAt.str_int x t j u _ _ _ _ h
      · rw [key_rr] at h; exact wpAny_eqBool_str h
  «strs» := fun k x t v h => by
    rcases keyIs_shape h with ⟨i, u, rfl, e⟩ | ⟨y, u, rfl, e⟩
    · exact nomatch e
    · injection e with e1 _
      subst e1
      cases v <;> rfl
theorem mixKind_int (prog : Program) (w : World) (i : Int) (t : Tok) : (mixKind prog w).is (.inl i) (.int i t) = true := keyIs_int i t
theorem mixKind_str (prog : Program) (w : World) (x : Str) (t : Tok) : (mixKind prog w).is (.inr x) (.str x t) = true := keyIs_str x t
end L2
namespace L2
open PySem PySem.Spec PyProof.Rows
inductive V where
  | non | bl (b : Bool) | int (i : Int) | str (x : Str) | byt (b : Array UInt8) | flt (b : UInt64) | ref (a : Addr) | ty (n : String)
  deriving DecidableEq
def RelV : V → Value → Prop
  | .non, u => u = Value.none
  | .bl b, u => u = Value.bool b
  | .int i, u => ∃ t, u = Value.int i t
  | .str x, u => ∃ t, u = Value.str x t
  | .byt b, u => ∃ t, u = Value.bytes b t
  | .flt b, u => ∃ t, u = Value.float b t
  | .ref a, u => u = Value.ref a
  | .ty n, u => u = Value.type n
abbrev Vals : List V → List Value → Prop := Paired RelV
theorem Vals.length {xs : List V} {us : List Value} (r : Vals xs us) : xs.length = us.length := Paired.length r
theorem Vals.get : ∀ {xs : List V} {us : List Value} {i : Nat} {x : V}, Vals xs us → xs[i]? = some x → ∃ u, us[i]? = some u ∧ RelV x u
  | _, _, _, _, .nil, e => by simp at e
  | _, _, 0, _, .cons r _, e => by simp at e; subst e; exact ⟨_, rfl, r⟩
  | _, _, i + 1, x, .cons _ t, e => by
    obtain ⟨u, h1, h2⟩ := Vals.get (i := i) (x := x) t (by simpa using e)
    exact ⟨u, by simpa using h1, h2⟩
theorem Vals.set {x : V} {u : Value} (r : RelV x u) : ∀ {xs : List V} {us : List Value} (i : Nat), Vals xs us → Vals (xs.set i x) (us.set i u)
  | _, _, _, .nil => .nil
  | _, _, 0, .cons _ t => .cons r t
  | _, _, i + 1, .cons q t => .cons q (Vals.set r i t)
theorem Vals.append : ∀ {xs ys : List V} {us ws : List Value}, Vals xs us → Vals ys ws → Vals (xs ++ ys) (us ++ ws)
  | _, _, _, _, .nil, s => s
  | _, _, _, _, .cons r t, s => .cons r (Vals.append t s)
theorem Vals.take : ∀ {xs : List V} {us : List Value} (n : Nat), Vals xs us → Vals (xs.take n) (us.take n)
  | _, _, 0, _ => .nil
  | _, _, _ + 1, .nil => .nil
  | _, _, n + 1, .cons r t => .cons r (Vals.take n t)
theorem Vals.drop : ∀ {xs : List V} {us : List Value} (n : Nat), Vals xs us → Vals (xs.drop n) (us.drop n)
  | _, _, 0, r => r
  | _, _, _ + 1, .nil => .nil
  | _, _, n + 1, .cons _ t => Vals.drop n t
def RelO : Option V → Option Value → Prop
  | some v, some u => RelV v u
  | none, none => True
  | _, _ => False
def KV {κ : Type} : List (κ × V) → List (κ × Value) → Prop := Paired fun (p : κ × V) (q : κ × Value) => p.1 = q.1 ∧ RelV p.2 q.2
def kV : Key → V
  | .inl i => .int i
  | .inr x => .str x
inductive HO where
  | lst (xs : List V)
  | tup (xs : List V)
  | dK (kvs : List (Key × V)) | dT (kvs : List (List Key × V))
  | set (S : Int → Bool) (n : Nat)
  | ins (C dx : Addr) (fs : List (Str × V))
  | own (x : Addr)
  | xd (fs : List (Str × V))
  | met (f x : Addr)
  | rng (lo hi : Int)
  | frz (o : Obj) (u : HO)
  | tbl (ps : Array Value)
  | ext (φ : Heap → Prop)
abbrev Hp := Addr → Option HO
def upd (H : Hp) (a : Addr) (o : HO) : Hp := fun b => if b = a then some o else H b
theorem upd_same {H : Hp} {a : Addr} {o : HO} : upd H a o a = some o := by unfold upd; rw [if_pos rfl]
theorem upd_ne {H : Hp} {a b : Addr} {o : HO} (h : b ≠ a) : upd H a o b = H b := by unfold upd; rw [if_neg h]
theorem ne_of {H : Hp} {a b : Addr} {o u : HO} (h : H a = some o) (h' : H b = some u) (d : o ≠ u) : a ≠ b := by
  intro e; subst e; rw [h] at h'; exact d (Option.some.inj h')
theorem ne_of_none {H : Hp} {a b : Addr} {o : HO} (h : H a = some o) (h' : H b = none) : a ≠ b := by
  intro e; subst e; rw [h] at h'; cases h'
section
variable (P : Program) (w : World)
def ObjOk (H : Hp) (h : Heap) (a : Addr) : HO → Prop
  | .lst xs => xs.length ≤ sizeLine ∧ ∃ (its : List Value) (n : Nat), Vals xs its ∧ h.get? a = some { cls := .type "list", data := .seq its.toArray n }
  | .tup xs => xs.length ≤ sizeLine ∧ ∃ its : List Value, Vals xs its ∧ IsTup h a its.toArray
  | .dK kvs => kvs.length ≤ sizeLine ∧ (a == sysModules) = false ∧ ∃ vs, KV kvs vs ∧ h.DictOf (mixKind P w) a vs
  | .dT kvs => kvs.length ≤ sizeLine ∧ (a == sysModules) = false ∧ ∃ xs : List (List Key × Addr × Value),
      Paired (fun (p : List Key × V) (q : List Key × Addr × Value) => p.1 = q.1 ∧ H q.2.1 = some (.tup (p.1.map kV)) ∧ RelV p.2 q.2.2) kvs xs ∧
      ∃ o es ep, h.get? a = some o ∧ o.ExactDict ∧ o.data = .dict es ep ∧ es.toList = xs.map (entryOfKey (tupleKind (mixKind P w))) ∧ (xs.map (·.1)).Nodup
  | .set S n => h.SetOf (intKind P w) a S n
  | .ins C dx fs => H dx = some (.own a) ∧ fs.length ≤ 1000 ∧ dx ≠ a ∧ h.get? a = some (PySem.W.instObj C dx) ∧
      ∃ mA, h.Ns1 dx mA ∧ (∀ f, RelO (fs.lookup f) (mA f)) ∧ PySem.Within mA (fs.map (·.1))
  | .own _ => ∃ o, h.get? a = some o
  | .xd fs => ∃ mA, h.Ns1 a mA ∧ ∀ f, RelO (fs.lookup f) (mA f)
  | .rng lo hi => ∃ t u v, h.get? a = some { cls := .type "range", data := .fields #[.int lo t, .int hi u, .int 1 v] }
  | .frz o u => h.get? a = some o ∧ ObjOk H h a u
  | .tbl ps => h.get? a = some { cls := .none, data := .fields ps }
  | .met f x => h.get? a = some (PySem.W.methodObj (.ref f) (.ref x))
  | .ext φ => φ h ∧ (∃ o, h.get? a = some o) ∧ ∀ h1 h2 : Heap, φ h1 → (∀ o, h1.get? a = some o → h2.get? a = some o) → φ h2
def HOk (H : Hp) (h : Heap) : Prop := ∀ a o, H a = some o → ObjOk P w H h a o
end
section
variable {P : Program} {w : World} {H H' : Hp} {h h' : Heap} {a : Addr} {o : HO}
theorem ObjOk.lt (x : ObjOk P w H h a o) : a < h.objs.size := by
  cases o with
  | lst xs => obtain ⟨_, _, _, _, e⟩ := x; exact Heap.lt_size e
  | tup xs => obtain ⟨_, _, _, p⟩ := x; exact p.lt
  | dK kvs => obtain ⟨_, _, _, _, o, _, _, e, _⟩ := x; exact Heap.lt_size e
  | dT kvs => obtain ⟨_, _, _, _, o, _, _, e, _⟩ := x; exact Heap.lt_size e
  | set S n => obtain ⟨o, _, _, _, e, _⟩ := x; exact Heap.lt_size e
  | ins C dx fs => obtain ⟨_, _, _, e, _⟩ := x; exact Heap.lt_size e
  | own y => obtain ⟨_, e⟩ := x; exact Heap.lt_size e
  | xd fs => obtain ⟨_, ⟨_, _, _, e, _⟩, _⟩ := x; exact Heap.lt_size e
  | rng lo hi => obtain ⟨_, _, _, e⟩ := x; exact Heap.lt_size e
  | frz ob u => obtain ⟨e, _⟩ := x; exact Heap.lt_size e
  | tbl ps => exact Heap.lt_size (show h.get? a = some _ from x)
  | met f y => exact Heap.lt_size (show h.get? a = some _ from x)
  | ext φ => obtain ⟨_, ⟨_, e⟩, _⟩ := x; exact Heap.lt_size e
theorem Paired.mapP {α β : Type} {F G : α → β → Prop} : ∀ {l₁ : List α} {l₂ : List β}, Paired F l₁ l₂ → (∀ a b, F a b → G a b) → Paired G l₁ l₂
  | _, _, .nil, _ => .nil
  | _, _, .cons r t, f => .cons (f _ _ r) (Paired.mapP t f)
theorem ObjOk.stay (x : ObjOk P w H h a o) (k : ∀ b u, (b = a ∨ H b = some (.own a)) → h.get? b = some u → h'.get? b = some u)
    (ho : ∀ b, H b = some (.own a) → H' b = some (.own a)) (ht : ∀ b xs, H b = some (.tup xs) → H' b = some (.tup xs)) : ObjOk P w H' h' a o := by
  induction o with
  | lst xs => obtain ⟨z, its, n, r, e⟩ := x; exact ⟨z, its, n, r, k _ _ (.inl rfl) e⟩
  | tup xs => obtain ⟨z, its, r, ob, e, c⟩ := x; exact ⟨z, its, r, ob, k _ _ (.inl rfl) e, c⟩
  | dK kvs => obtain ⟨z, y, vs, r, ob, es, ep, e, c⟩ := x; exact ⟨z, y, vs, r, ob, es, ep, k _ _ (.inl rfl) e, c⟩
  | dT kvs =>
    obtain ⟨z, y, xs, r, ob, es, ep, e, c⟩ := x
    exact ⟨z, y, xs, Paired.mapP r fun p q z => ⟨z.1, ht _ _ z.2.1, z.2.2⟩, ob, es, ep, k _ _ (.inl rfl) e, c⟩
  | set S n => obtain ⟨ob, es, ep, t, e, c⟩ := x; exact ⟨ob, es, ep, t, k _ _ (.inl rfl) e, c⟩
  | ins C dx fs =>
    obtain ⟨d, z, ne, e, mA, ⟨od, es, ep, e2, c⟩, r⟩ := x
    exact ⟨ho _ d, z, ne, k _ _ (.inl rfl) e, mA, ⟨od, es, ep, k _ _ (.inr d) e2, c⟩, r⟩
  | own y => obtain ⟨ob, e⟩ := x; exact ⟨ob, k _ _ (.inl rfl) e⟩
  | xd fs => obtain ⟨mA, ⟨od, es, ep, e, c⟩, r⟩ := x; exact ⟨mA, ⟨od, es, ep, k _ _ (.inl rfl) e, c⟩, r⟩
  | rng lo hi => obtain ⟨t, u, v, e⟩ := x; exact ⟨t, u, v, k _ _ (.inl rfl) e⟩
  | frz ob u ih => obtain ⟨e, q⟩ := x; exact ⟨k _ _ (.inl rfl) e, ih q⟩
  | tbl ps =>
    have e : h.get? a = some { cls := .none, data := .fields ps } := x
    show h'.get? a = some { cls := .none, data := .fields ps }
    exact k a _ (.inl rfl) e
  | met f y =>
    have e : h.get? a = some (PySem.W.methodObj (.ref f) (.ref y)) := x
    show h'.get? a = some (PySem.W.methodObj (.ref f) (.ref y))
    exact k a _ (.inl rfl) e
  | ext φ => obtain ⟨p, ⟨o, e⟩, st⟩ := x; exact ⟨st _ _ p fun o q => k _ _ (.inl rfl) q, ⟨o, k _ _ (.inl rfl) e⟩, st⟩
theorem HOk.lt (x : HOk P w H h) (e : H a = some o) : a < h.objs.size := (x a o e).lt
theorem HOk.fresh (x : HOk P w H h) (e : h.objs.size ≤ a) : H a = none := by
  cases q : H a with
  | none => rfl
  | some u => exact absurd (Nat.lt_of_lt_of_le (x.lt q) e) (Nat.lt_irrefl _)
theorem HOk.kept (x : HOk P w H h) (k : ∀ b u, h.get? b = some u → h'.get? b = some u) : HOk P w H h' := fun a o e =>
  (x a o e).stay (fun b u _ q => k b u q) (fun _ q => q) fun _ _ q => q
theorem HOk.laid (x : HOk P w H h) (k : ∀ b u, h.get? b = some u → h'.get? b = some u) (hp : h.objs.size ≤ a) (new : ObjOk P w (upd H a o) h' a o) : HOk P w (upd H a o) h' := fun b u e => by
  have hn := x.fresh hp
  by_cases hb : b = a
  · subst hb; rw [upd_same] at e; cases e; exact new
  · rw [upd_ne hb] at e
    exact (x b u e).stay (fun c v _ q => k c v q) (fun c q => by rw [upd_ne (ne_of_none q hn)]; exact q) fun c xs q => by rw [upd_ne (ne_of_none q hn)]; exact q
end
def Rd (H : Hp) (a : Addr) (u : HO) : Prop := H a = some u ∨ ∃ o, H a = some (.frz o u)
theorem Rd.ok {P : Program} {w : World} {H : Hp} {h : Heap} {a : Addr} {u : HO} (r : Rd H a u) (x : HOk P w H h) : ObjOk P w H h a u := by
  rcases r with r | ⟨o, r⟩
  · exact x a u r
  · obtain ⟨_, q⟩ := x a _ r
    exact q
def Mut : Option HO → Prop
  | some (.lst _) => True
  | some (.dK _) => True
  | some (.dT _) => True
  | some (.set _ _) => True
  | some (.ins _ _ _) => True
  | some (.ext _) => True
  | _ => False
section
variable {P : Program} {w : World} {H : Hp} {h h' : Heap} {x e : Addr} {o' : HO}
theorem HOk.write (ok : HOk P w H h) (mu : Mut (H x)) (he : e = x ∨ H e = some (.own x)) (k : ∀ b u, b ≠ e → h.get? b = some u → h'.get? b = some u) (heo : ∃ u, h'.get? e = some u)
    (new : ObjOk P w (upd H x o') h' x o') : HOk P w (upd H x o') h' := fun b u q => by
  have nown : ∀ c y, H c = some (.own y) → c ≠ x := fun c y r z => by subst z; rw [r] at mu; exact mu
  have ntup : ∀ c xs, H c = some (.tup xs) → c ≠ x := fun c xs r z => by subst z; rw [r] at mu; exact mu
  by_cases hb : b = x
  · subst hb; rw [upd_same] at q; cases q; exact new
  · rw [upd_ne hb] at q
    by_cases hbe : b = e
    · have q' : H b = some (.own x) := by
        rcases he with z | z
        · exact absurd (hbe.trans z) hb
        · rw [hbe]; exact z
      rw [q] at q'; cases q'
      obtain ⟨v, hv⟩ := heo
      exact ⟨v, by rw [hbe]; exact hv⟩
    · refine (ok b u q).stay (fun c v hc r => k c v ?_ r) (fun c r => by rw [upd_ne (nown c b r)]; exact r) fun c xs r => by rw [upd_ne (ntup c xs r)]; exact r
      rcases hc with rfl | hc
      · exact hbe
      · rintro rfl
        rcases he with z | z
        · exact nown c b hc z
        · rw [hc] at z; cases z; exact hb rfl
end
structure Un (fs ex : List Addr) (H H' : Hp) (h h' : Heap) : Prop where
  keep : ∀ b o, h.get? b = some o → H b = none → b ∉ fs → b ∉ ex → h'.get? b = some o
  slot : ∀ b o, h.get? b = some o → H b = none → b ∈ fs → b ∉ ex → ∃ sl, h'.get? b = some { o with slots := sl }
  free : ∀ b o, h.get? b = some o → H b = none → b ∉ ex → H' b = none
  there : ∀ b o, h.get? b = some o → b ∉ ex → ∃ o', h'.get? b = some o'
  tups : ∀ b xs, H b = some (.tup xs) → H' b = some (.tup xs)
  frzs : ∀ b o u, H b = some (.frz o u) → H' b = some (.frz o u)
  tbls : ∀ b ps, H b = some (.tbl ps) → ∃ more, H' b = some (.tbl (ps ++ more))
section
variable {fs fs' ex ex' : List Addr} {H H1 H2 : Hp} {h h1 h2 h' : Heap} {a x e : Addr} {o : HO}
theorem Un.any (u : Un fs ex H H1 h h1) {b : Addr} {ob : Obj} (q : h.get? b = some ob) (n : H b = none) (hx : b ∉ ex) : ∃ sl, h1.get? b = some { ob with slots := sl } := by
  by_cases hb : b ∈ fs
  · exact u.slot b ob q n hb hx
  · exact ⟨ob.slots, u.keep b ob q n hb hx⟩
theorem Un.kept (k : ∀ b u, h.get? b = some u → h'.get? b = some u) : Un fs ex H H h h' :=
  ⟨fun b ob q _ _ _ => k b ob q, fun b ob q _ _ _ => ⟨ob.slots, k b ob q⟩, fun _ _ _ n _ => n, fun b ob q _ => ⟨ob, k b ob q⟩, fun _ _ q => q, fun _ _ _ q => q, fun _ ps q => ⟨#[], by rw [q]; simp⟩⟩
theorem Un.refl : Un fs ex H H h h := Un.kept fun _ _ q => q
theorem Un.laid (k : ∀ b u, h.get? b = some u → h'.get? b = some u) (hp : h.objs.size ≤ a) (hn : H a = none) : Un fs ex H (upd H a o) h h' where
  keep := fun b u q _ _ _ => k b u q
  slot := fun b u q _ _ _ => ⟨u.slots, k b u q⟩
  free := fun b u q n _ => by rw [upd_ne (Nat.ne_of_lt (Nat.lt_of_lt_of_le (Heap.lt_size q) hp))]; exact n
  there := fun b u q _ => ⟨u, k b u q⟩
  tups := fun b xs q => by rw [upd_ne (ne_of_none q hn)]; exact q
  frzs := fun b u xs q => by rw [upd_ne (ne_of_none q hn)]; exact q
  tbls := fun b ps q => ⟨#[], by rw [upd_ne (ne_of_none q hn), q]; simp⟩
theorem Un.write (mu : Mut (H x)) (he : e = x ∨ H e = some (.own x)) (k : ∀ b u, b ≠ e → h.get? b = some u → h'.get? b = some u) (heo : ∃ u, h'.get? e = some u) : Un fs ex H (upd H x o) h h' := by
  have hx : ∀ b, H b = none → b ≠ x := fun b n z => by subst z; rw [n] at mu; exact mu
  have hb : ∀ b, H b = none → b ≠ e := fun b n z => by
    subst z
    rcases he with r | r
    · exact hx b n r
    · rw [n] at r; cases r
  have hm : ∀ b u, H b = some u → ¬ Mut (some u) → b ≠ x := fun b u q nm z => by subst z; rw [q] at mu; exact nm mu
  refine ⟨fun b u q n _ _ => k b u (hb b n) q, fun b u q n _ _ => ⟨u.slots, k b u (hb b n) q⟩, fun b u q n _ => by rw [upd_ne (hx b n)]; exact n, fun b u q _ => ?_,
    fun b xs q => by rw [upd_ne (hm b _ q fun z => z)]; exact q, fun b u xs q => by rw [upd_ne (hm b _ q fun z => z)]; exact q, fun b ps q => ⟨#[], by rw [upd_ne (hm b _ q fun z => z), q]; simp⟩⟩
  by_cases hbe : b = e
  · subst hbe; exact heo
  · exact ⟨u, k b u hbe q⟩
end
def trk (h : Heap) (H : Hp) : List Addr := (List.range h.objs.size).filter fun a => (H a).isSome
def hidT (h : Heap) (H : Hp) : Heap := PySem.W.hideAll h (trk h H)
theorem hidT_size (h : Heap) (H : Hp) : (hidT h H).objs.size = h.objs.size := PySem.W.hideAll_size _ _
theorem hidT_get {h : Heap} {H : Hp} {b : Addr} {o : Obj} (e : h.get? b = some o) (n : H b = none) : (hidT h H).get? b = some o :=
  PySem.W.hideAll_get _ e fun hm => by
    have q : (H b).isSome = true := (List.mem_filter.mp hm).2
    rw [n] at q; simp at q
theorem of_hidT {h : Heap} {H : Hp} {b : Addr} {o : Obj} (e : (hidT h H).get? b = some o) : h.get? b = some o ∧ H b = none := by
  have e' : h.get? b = some o := PySem.W.of_hideAll (trk h H) e
  refine ⟨e', ?_⟩
  cases q : H b with
  | none => rfl
  | some x =>
    have hm : b ∈ trk h H := List.mem_filter.mpr ⟨List.mem_range.mpr (Heap.lt_size e'), by simp [q]⟩
    have z : (hidT h H).get? b = none := PySem.W.hideAll_none (trk h H) hm
    rw [z] at e; cases e
end L2
namespace L2
open PySem PySem.Spec PyProof.Rows
structure Mod (K : PySem.W.Frag) (mg : Str → Option Value) (base : Heap) : Prop where
  kin : K.In base
  glob : base.Ns mainGlobals mg
  blt : ∃ mb, base.Ns builtinsNs mb ∧ ∀ x : Str, x ≠ "__name__" → mb x = bootBuiltins x
  nolimit : base.NoLimit
structure Cx where
  prog : Program
  w : World
  K : PySem.W.Frag
  mg : Str → Option Value
  base : Heap
  A : Around
  N : List Str
  s₀ : Shared
  H₀ : Hp
  env : Env
  outer : List Env
  stack : List Env
  ex : List Addr
  fn : Str → Bool
  calm : Bool
  pn : List (Addr × Obj)
  xe : Value → Shared → Prop
def frs (l : List Env) : List Addr := l.filterMap (·.frame)
abbrev Cx.fs (X : Cx) : List Addr := frs X.outer
def Vis (sc : Scope) (x : Str) : Prop := sc.names.lookup x = some .local ∨ sc.names.lookup x = some .cell ∨ sc.names.lookup x = some .free
def Loc (sc : Scope) (x : Str) : Prop := sc.names.lookup x = some .local ∨ sc.names.lookup x = some .cell
def Look (env : Env) (h : Heap) (m : Str → Option Value) (x : Str) (u : Value) : Prop :=
  (env.kindOf x = some .local ∧ m x = some u) ∨ ((env.kindOf x = some .cell ∨ env.kindOf x = some .free) ∧ ∃ c, env.cells.lookup x = some c ∧ h.IsCell c (some u))
structure Cx.Ok (X : Cx) : Prop where
  mod : Mod X.K X.mg X.base
  kind : X.env.scope.kind = .function
  glob : X.env.globals = mainGlobals
  blt : X.env.builtins = builtinsNs
  above : X.s₀.heap.objs.size ≤ X.env.locals
  inj : ∀ x y c, X.env.cells.lookup x = some c → X.env.cells.lookup y = some c → x = y
  has : ∀ x, (X.env.kindOf x = some .cell ∨ X.env.kindOf x = some .free) → ∃ c, X.env.cells.lookup x = some c
  cab : ∀ x c, X.fn x = true → X.env.cells.lookup x = some c → X.s₀.heap.objs.size ≤ c
  hd : X.calm = true → X.A.handled = none
  frames : X.A.frames = some X.stack
  stk : X.stack = X.outer ∨ (X.stack = X.env :: X.outer ∧ X.env.frame = some X.env.locals)
  exf : ∀ b ∈ X.ex, b ≠ X.env.locals ∧ ∀ x c, X.env.cells.lookup x = some c → c ≠ b
  bs : ∀ b o, X.base.get? b = some o → X.s₀.heap.get? b = some o ∧ X.H₀ b = none
  bsz : X.base.objs.size ≤ X.s₀.heap.objs.size
  noex : ∀ b o, X.base.get? b = some o → b ∉ X.ex
  exfs : ∀ b ∈ X.ex, b ∉ X.fs
  funs : X.s₀.heap.FunFrames X.base X.outer
  frf : ∀ b ∈ X.fs, X.H₀ b = none
structure Inv (X : Cx) (pins : List (Addr × Obj)) (σ : List (Option V)) (H : Hp) (s : Shared) : Prop where
  ok : X.Ok
  os : s.os = X.s₀.os
  bare : AllBare s.gens
  base : Un X.fs X.ex X.H₀ H X.s₀.heap s.heap
  loc : ∃ m, s.heap.Ns X.env.locals m ∧ ∀ (i : Nat) (x : Str) (v : V), X.N[i]? = some x → σ[i]? = some (some v) → Vis X.env.scope x → ∃ u, RelV v u ∧ Look X.env s.heap m x u
  cell : ∀ x c, X.env.cells.lookup x = some c → ∃ v, s.heap.IsCell c v
  free : H X.env.locals = none
  freeC : ∀ x c, X.env.cells.lookup x = some c → H c = none
  pin : ∀ p ∈ X.pn ++ pins, s.heap.get? p.1 = some p.2 ∧ H p.1 = none ∧ p.1 ≠ X.env.locals ∧ p.1 ∉ X.fs ∧ ∀ v, p.2.data ≠ .cell v
  hok : HOk X.prog X.w H s.heap
  len : σ.length = X.N.length
section
variable {X : Cx} {pins : List (Addr × Obj)} {σ : List (Option V)} {H H' : Hp} {s : Shared} {h' : Heap}
theorem Cx.Ok.nofr (ok : X.Ok) {b : Addr} {o : Obj} (e : X.base.get? b = some o) : b ∉ X.fs := fun hb => by
  have := (ok.funs.mem hb).1
  rw [e] at this; cases this
theorem Inv.bs (I : Inv X pins σ H s) : ∀ b o, X.base.get? b = some o → s.heap.get? b = some o ∧ H b = none := fun b o e =>
  ⟨I.base.keep b o (I.ok.bs b o e).1 (I.ok.bs b o e).2 (I.ok.nofr e) (I.ok.noex b o e), I.base.free b o (I.ok.bs b o e).1 (I.ok.bs b o e).2 (I.ok.noex b o e)⟩
theorem Inv.bk (I : Inv X pins σ H s) : ∀ b o, X.base.get? b = some o → s.heap.get? b = some o := fun b o e => (I.bs b o e).1
theorem Inv.mod (I : Inv X pins σ H s) : Mod X.K X.mg X.base := I.ok.mod
theorem Inv.kIn (I : Inv X pins σ H s) : X.K.In s.heap := I.ok.mod.kin.keeps I.bk
theorem Inv.lt (I : Inv X pins σ H s) : X.env.locals < s.heap.objs.size := let ⟨_, hn, _⟩ := I.loc; hn.lt
theorem Inv.sz (I : Inv X pins σ H s) : X.s₀.heap.objs.size ≤ s.heap.objs.size := Nat.le_trans I.ok.above (Nat.le_of_lt I.lt)
theorem Inv.nofs (I : Inv X pins σ H s) {a : Addr} (h : s.heap.objs.size ≤ a) : a ∉ X.fs := fun hb => by
  obtain ⟨_, o, ho, _⟩ := I.ok.funs.mem hb
  exact absurd (Nat.lt_of_lt_of_le (Heap.lt_size ho) (Nat.le_trans I.sz h)) (Nat.lt_irrefl _)
theorem Inv.cne (I : Inv X pins σ H s) : ∀ x c, X.env.cells.lookup x = some c → c ≠ X.env.locals := fun x c e z => by
  obtain ⟨v, o, ho, hd⟩ := I.cell x c e
  obtain ⟨m, ⟨o', es, ep, ho', hd', _⟩, _⟩ := I.loc
  rw [z, ho'] at ho; cases ho; rw [hd'] at hd; cases hd
theorem Inv.funs (I : Inv X pins σ H s) : s.heap.FunFrames X.base X.outer := by
  have all : ∀ (l : List Env), (∀ b ∈ frs l, b ∈ X.fs) → X.s₀.heap.FunFrames X.base l → s.heap.FunFrames X.base l := by
    intro l
    induction l with
    | nil => intro _ _; trivial
    | cons env r ih =>
      intro hs hl
      obtain ⟨hk, ⟨L, o, hf, hn, ho, hd⟩, hr⟩ := hl
      have hL : L ∈ X.fs := hs L (by unfold frs; rw [List.filterMap_cons, hf]; exact List.mem_cons_self)
      obtain ⟨sl, e⟩ := I.base.slot L o ho (I.ok.frf L hL) hL fun z => I.ok.exfs L z hL
      exact ⟨hk, ⟨L, _, hf, hn, e, hd⟩, ih (fun b hb => hs b (by unfold frs; rw [List.filterMap_cons, hf]; exact List.mem_cons_of_mem _ hb)) hr⟩
  exact all X.outer (fun _ hb => hb) I.ok.funs
theorem Inv.stack (I : Inv X pins σ H s) : s.heap.FunFrames X.base X.stack := by
  rcases I.ok.stk with e | ⟨e, hf⟩
  · rw [e]; exact I.funs
  · rw [e]
    obtain ⟨m, hn, _⟩ := I.loc
    refine .cons (by rw [I.ok.kind]; decide) hf hn ?_ I.funs
    exact Heap.get?_none_of_le (Nat.le_trans I.ok.bsz I.ok.above)
theorem Inv.stkSub (I : Inv X pins σ H s) : ∀ b ∈ frs X.stack, b ∈ X.env.locals :: X.fs := fun b hb => by
  rcases I.ok.stk with e | ⟨e, hf⟩
  · rw [e] at hb; exact List.mem_cons_of_mem _ hb
  · rw [e] at hb
    unfold frs at hb
    rw [List.filterMap_cons, hf] at hb
    exact hb
theorem Inv.stkFree (I : Inv X pins σ H s) : ∀ b ∈ frs X.stack, H b = none := fun b hb => by
  rcases List.mem_cons.mp (I.stkSub b hb) with e | hb
  · rw [e]; exact I.free
  · obtain ⟨_, o, ho, _⟩ := I.ok.funs.mem hb
    exact I.base.free b o ho (I.ok.frf b hb) fun z => I.ok.exfs b z hb
theorem Inv.step {g' : Array GenState} {t' : Nat} {d' : Drawn} {ch : List Addr} (I : Inv X pins σ H s)
    (hch : ∀ b ∈ ch, (b ∈ X.ex ∨ X.s₀.heap.objs.size ≤ b) ∧ b ≠ X.env.locals ∧ (∀ x c, X.env.cells.lookup x = some c → c ≠ b) ∧ ∀ p ∈ X.pn ++ pins, p.1 ≠ b)
    (keep : ∀ b o, b ≠ X.env.locals → b ∉ X.fs → b ∉ ch → s.heap.get? b = some o → H b = none → h'.get? b = some o)
    (slot : ∀ b o, b ≠ X.env.locals → b ∈ X.fs → b ∉ ch → s.heap.get? b = some o → H b = none → ∃ sl, h'.get? b = some { o with slots := sl }) (free : ∀ b o, b ∉ ch → s.heap.get? b = some o → H b = none → H' b = none)
    (there : ∀ b o, b ∉ ch → s.heap.get? b = some o → ∃ o', h'.get? b = some o')
    (tups : ∀ b xs, H b = some (.tup xs) → H' b = some (.tup xs)) (frzs : ∀ b o u, H b = some (.frz o u) → H' b = some (.frz o u)) (tbls : ∀ b ps, H b = some (.tbl ps) → ∃ more, H' b = some (.tbl (ps ++ more)))
    (ns : ∀ m, s.heap.Ns X.env.locals m → h'.Ns X.env.locals m) (hok : HOk X.prog X.w H' h') (hg : AllBare g') :
    Inv X pins σ H' { s with heap := h', gens := g', drawn := d', toks := t' } := by
  have neL : ∀ b o, X.s₀.heap.get? b = some o → b ≠ X.env.locals := fun b o e => Nat.ne_of_lt (Nat.lt_of_lt_of_le (Heap.lt_size e) I.ok.above)
  have neC : ∀ b o, X.s₀.heap.get? b = some o → b ∉ X.ex → b ∉ ch := fun b o e hx hb => by
    rcases (hch b hb).1 with z | z
    · exact hx z
    · exact absurd (Nat.lt_of_lt_of_le (Heap.lt_size e) z) (Nat.lt_irrefl _)
  have cellK : ∀ x c, X.env.cells.lookup x = some c → ∀ v, s.heap.IsCell c v → h'.IsCell c v := fun x c e v ⟨o, ho, hd⟩ => by
    have nch : c ∉ ch := fun z => (hch c z).2.2.1 x c e rfl
    by_cases hc : c ∈ X.fs
    · obtain ⟨sl, q⟩ := slot c o (I.cne x c e) hc nch ho (I.freeC x c e)
      exact ⟨_, q, hd⟩
    · exact ⟨o, keep c o (I.cne x c e) hc nch ho (I.freeC x c e), hd⟩
  refine ⟨I.ok, I.os, hg, ⟨fun b o e n hb hx => ?_, fun b o e n hb hx => ?_, fun b o e n hx => ?_, fun b o e hx => ?_, fun b xs e => tups b xs (I.base.tups b xs e), fun b o xs e => frzs b o xs (I.base.frzs b o xs e), fun b ps e => ?_⟩, ?_, fun x c e => ?_, ?_, fun x c e => ?_, fun p hp => ?_, hok, I.len⟩
  · exact keep b o (neL b o e) hb (neC b o e hx) (I.base.keep b o e n hb hx) (I.base.free b o e n hx)
  · obtain ⟨sl, e1⟩ := I.base.slot b o e n hb hx
    obtain ⟨sl', e2⟩ := slot b _ (neL b o e) hb (neC b o e hx) e1 (I.base.free b o e n hx)
    exact ⟨sl', e2⟩
  · obtain ⟨o', e1⟩ := I.base.there b o e hx
    exact free b o' (neC b o e hx) e1 (I.base.free b o e n hx)
  · obtain ⟨o', e1⟩ := I.base.there b o e hx
    exact there b o' (neC b o e hx) e1
  · obtain ⟨m1, e1⟩ := I.base.tbls b ps e
    obtain ⟨m2, e2⟩ := tbls b _ e1
    exact ⟨m1 ++ m2, by rw [e2, Array.append_assoc]⟩
  · obtain ⟨m, hn, hl⟩ := I.loc
    refine ⟨m, ns m hn, fun i x v e1 e2 e3 => ?_⟩
    obtain ⟨u, r, l⟩ := hl i x v e1 e2 e3
    refine ⟨u, r, ?_⟩
    rcases l with l | ⟨k, c, e, z⟩
    · exact .inl l
    · exact .inr ⟨k, c, e, cellK x c e _ z⟩
  · obtain ⟨v, z⟩ := I.cell x c e
    exact ⟨v, cellK x c e v z⟩
  · obtain ⟨m, ⟨o, _, _, ho, _⟩, _⟩ := I.loc
    exact free _ o (fun z => (hch _ z).2.1 rfl) ho I.free
  · obtain ⟨v, o, ho, hd⟩ := I.cell x c e
    exact free c o (fun z => (hch c z).2.2.1 x c e rfl) ho (I.freeC x c e)
  · obtain ⟨e, n, ne, nf, d⟩ := I.pin p hp
    have nch : p.1 ∉ ch := fun z => (hch p.1 z).2.2.2 p hp rfl
    exact ⟨keep p.1 p.2 ne nf nch e n, free p.1 p.2 nch e n, ne, nf, d⟩
theorem Inv.un {t' : Nat} (I : Inv X pins σ H s) (u : Un X.fs [] H H' s.heap h') (hok : HOk X.prog X.w H' h') : Inv X pins σ H' { s with heap := h', toks := t' } := by
  obtain ⟨m, ⟨o, es, ep, ho, r⟩, _⟩ := id I.loc
  obtain ⟨sl, hL⟩ := u.any ho I.free (by simp)
  exact I.step (g' := s.gens) (d' := s.drawn) (ch := []) (fun _ z => nomatch z) (fun b o _ hb _ e n => u.keep b o e n hb (by simp)) (fun b o _ hb _ e n => u.slot b o e n hb (by simp)) (fun b o _ e n => u.free b o e n (by simp)) (fun b o _ e => u.there b o e (by simp)) u.tups u.frzs u.tbls (fun m' hm => by
    obtain ⟨o', es', ep', ho', r'⟩ := hm
    rw [ho] at ho'; cases ho'
    exact ⟨_, es', ep', hL, r'⟩) hok I.bare
theorem Inv.call {g' : Array GenState} {t' : Nat} {d' : Drawn} {ch : List Addr} (I : Inv X pins σ H s) (u : Un (frs X.stack) ch H H' s.heap h') (hok : HOk X.prog X.w H' h') (hg : AllBare g')
    (hch : ∀ b ∈ ch, (b ∈ X.ex ∨ X.s₀.heap.objs.size ≤ b) ∧ b ≠ X.env.locals ∧ (∀ x c, X.env.cells.lookup x = some c → c ≠ b) ∧ ∀ p ∈ X.pn ++ pins, p.1 ≠ b) :
    Inv X pins σ H' { s with heap := h', gens := g', drawn := d', toks := t' } := by
  obtain ⟨m, ⟨o, es, ep, ho, r⟩, _⟩ := id I.loc
  obtain ⟨sl, hL⟩ := u.any ho I.free fun z => (hch _ z).2.1 rfl
  exact I.step (ch := ch) hch (fun b o hL hb hc e n => u.keep b o e n (fun z => (List.mem_cons.mp (I.stkSub b z)).elim hL hb) hc) (fun b o _ _ hc e n => u.any e n hc) (fun b o hc e n => u.free b o e n hc) (fun b o hc e => u.there b o e hc) u.tups u.frzs u.tbls (fun m' hm => by
    obtain ⟨o', es', ep', ho', r'⟩ := hm
    rw [ho] at ho'; cases ho'
    exact ⟨_, es', ep', hL, r'⟩) hok hg
theorem Inv.turned {t' : Nat} {it : Addr} (I : Inv X pins σ H s) (k : ∀ b o, b ≠ it → s.heap.get? b = some o → h'.get? b = some o) (hn : H it = none) (hL : it ≠ X.env.locals)
    (h1 : it ∈ X.ex ∨ X.s₀.heap.objs.size ≤ it) (h2 : ∀ x c, X.env.cells.lookup x = some c → c ≠ it) (h3 : ∀ p ∈ X.pn ++ pins, p.1 ≠ it) : Inv X pins σ H { s with heap := h', toks := t' } := by
  have nit : ∀ b u, H b = some u → b ≠ it := fun b u e z => by rw [z, hn] at e; cases e
  refine I.step (g' := s.gens) (d' := s.drawn) (ch := [it]) (fun b hb => ?_) (fun b o _ _ hc e _ => k b o (fun z => hc (by simp [z])) e) (fun b o _ _ hc e _ => ⟨o.slots, k b o (fun z => hc (by simp [z])) e⟩) (fun _ _ _ _ n => n)
    (fun b o hc e => ⟨o, k b o (fun z => hc (by simp [z])) e⟩) (fun _ _ e => e) (fun _ _ _ e => e) (fun b ps e => ⟨#[], by rw [e]; simp⟩) (fun m hm => ?_) (fun b u e => ?_) I.bare
  · have e : b = it := by simpa using hb
    subst e
    exact ⟨h1, hL, h2, h3⟩
  · obtain ⟨o, es, ep, ho, r⟩ := hm
    exact ⟨o, es, ep, k _ o (Ne.symm hL) ho, r⟩
  · refine (I.hok b u e).stay (fun c v hc q => k c v ?_ q) (fun _ q => q) fun _ _ q => q
    rcases hc with z | z
    · rw [z]; exact nit b u e
    · exact nit c _ z
theorem Inv.tok (I : Inv X pins σ H s) (t : Nat) : Inv X pins σ H { s with toks := t } := I.un (h' := s.heap) (t' := t) Un.refl I.hok
theorem Inv.kept {t' : Nat} (I : Inv X pins σ H s) (k : ∀ b u, s.heap.get? b = some u → h'.get? b = some u) : Inv X pins σ H { s with heap := h', toks := t' } := I.un (Un.kept k) (I.hok.kept k)
theorem Inv.laid {a : Addr} {o : HO} {t' : Nat} (I : Inv X pins σ H s) (k : ∀ b u, s.heap.get? b = some u → h'.get? b = some u) (hp : s.heap.objs.size ≤ a) (new : ObjOk X.prog X.w (upd H a o) h' a o) :
    Inv X pins σ (upd H a o) { s with heap := h', toks := t' } := I.un (Un.laid k hp (I.hok.fresh hp)) (I.hok.laid k hp new)
theorem Inv.write {x e : Addr} {o : HO} {t' : Nat} (I : Inv X pins σ H s) (mu : Mut (H x)) (he : e = x ∨ H e = some (.own x)) (k : ∀ b u, b ≠ e → s.heap.get? b = some u → h'.get? b = some u) (heo : ∃ u, h'.get? e = some u)
    (new : ObjOk X.prog X.w (upd H x o) h' x o) : Inv X pins σ (upd H x o) { s with heap := h', toks := t' } := I.un (Un.write mu he k heo) (I.hok.write mu he k heo new)
theorem Inv.pins_of {pins' : List (Addr × Obj)} (I : Inv X pins σ H s) (h : ∀ p ∈ pins', s.heap.get? p.1 = some p.2 ∧ H p.1 = none ∧ p.1 ≠ X.env.locals ∧ p.1 ∉ X.fs ∧ ∀ v, p.2.data ≠ .cell v) : Inv X pins' σ H s :=
  ⟨I.ok, I.os, I.bare, I.base, I.loc, I.cell, I.free, I.freeC, fun p hp => (List.mem_append.mp hp).elim (fun z => I.pin p (List.mem_append_left _ z)) (h p), I.hok, I.len⟩
theorem nodup_ix {N : List Str} (hN : N.Nodup) {i j : Nat} {x : Str} (a : N[i]? = some x) (b : N[j]? = some x) : i = j := by
  obtain ⟨h1, e1⟩ := List.getElem?_eq_some_iff.mp a
  obtain ⟨h2, e2⟩ := List.getElem?_eq_some_iff.mp b
  exact (List.getElem_inj hN).mp (e1.trans e2.symm)
theorem store_ok2 {M : Model} {A : Around} {E : Value → Shared → Prop} {i : Nat} {x : Str} {v : V} {u : Value} {Q : Unit → Shared → Prop} (I : Inv X pins σ H s) (hN : X.N.Nodup) (hi : X.N[i]? = some x) (hx : Loc X.env.scope x) (r : RelV v u)
    (h : ∀ s', Inv X pins (σ.set i (some v)) H s' → (∃ a, Heap.SameBut a s.heap s'.heap ∧ (a = X.env.locals ∨ X.env.cells.lookup x = some a)) → Q () s') (hf : X.fn x = true ∨ X.env.scope.names.lookup x = some .local := by first | exact .inl rfl | exact .inr rfl | assumption) : wpAny M A (storeName X.env x u) Q E s := by
  obtain ⟨m, hn, hl⟩ := id I.loc
  have hcls : (X.env.scope.kind == .class || (X.env.scope.kind == .module && X.env.locals != X.env.globals)) = false := by rw [I.ok.kind]; rfl
  have hiσ : i < σ.length := by rw [I.len]; exact (List.getElem?_eq_some_iff.mp hi).1
  have cne := I.cne
  have tracked : ∀ {a : Addr} {h' : Heap}, (∃ o, s.heap.get? a = some o ∧ H a = none) → Heap.SameBut a s.heap h' → HOk X.prog X.w H h' := fun {a h'} ha hs b ob e => by
    obtain ⟨_, _, hfree⟩ := ha
    refine (I.hok b ob e).stay (fun c w' hc q => (hs.2 c ?_).trans q) (fun _ q => q) fun _ _ q => q
    rintro rfl
    rcases hc with rfl | hc
    · rw [hfree] at e; cases e
    · rw [hfree] at hc; cases hc
  rcases hx with hk | hk
  · refine wpAny_storeName_local hk hn (fun h' hn' hs => ?_) hcls
    obtain ⟨oL, _, _, hoL, _⟩ := id hn
    refine h _ ⟨I.ok, I.os, I.bare, ⟨fun b o e n hb hx => ?_, fun b o e n hb hx => ?_, I.base.free, fun b o e hx => ?_, I.base.tups, I.base.frzs, I.base.tbls⟩, ⟨_, hn', fun j y v' e1 e2 e3 => ?_⟩, fun y c e => ?_, I.free, I.freeC, fun p hp => ?_, tracked ⟨oL, hoL, I.free⟩ hs, by simpa using I.len⟩ ⟨_, hs, .inl rfl⟩
    · exact (hs.2 b (Nat.ne_of_lt (Nat.lt_of_lt_of_le (Heap.lt_size e) I.ok.above))).trans (I.base.keep b o e n hb hx)
    · obtain ⟨sl, e1⟩ := I.base.slot b o e n hb hx
      exact ⟨sl, (hs.2 b (Nat.ne_of_lt (Nat.lt_of_lt_of_le (Heap.lt_size e) I.ok.above))).trans e1⟩
    · obtain ⟨o', e1⟩ := I.base.there b o e hx
      exact ⟨o', (hs.2 b (Nat.ne_of_lt (Nat.lt_of_lt_of_le (Heap.lt_size e) I.ok.above))).trans e1⟩
    · by_cases hj : j = i
      · subst hj
        rw [hi] at e1; cases e1
        rw [List.getElem?_set_self hiσ] at e2
        cases e2
        exact ⟨u, r, .inl ⟨hk, by simp⟩⟩
      · rw [List.getElem?_set_ne (Ne.symm hj)] at e2
        obtain ⟨u', r', q⟩ := hl j y v' e1 e2 e3
        refine ⟨u', r', ?_⟩
        rcases q with ⟨k, e⟩ | ⟨k, c, e, z⟩
        · refine .inl ⟨k, ?_⟩
          have : y ≠ x := fun e => hj (nodup_ix hN e1 (e ▸ hi))
          simp [this, e]
        · exact .inr ⟨k, c, e, z.sameBut hs (cne y c e)⟩
    · obtain ⟨w', z⟩ := I.cell y c e
      exact ⟨w', z.sameBut hs (cne y c e)⟩
    · obtain ⟨e, n, ne, nf, d⟩ := I.pin p hp
      exact ⟨(hs.2 p.1 ne).trans e, n, ne, nf, d⟩
  · have hfn : X.fn x = true := by
      rcases hf with z | z
      · exact z
      · rw [z] at hk; cases hk
    obtain ⟨c, hc⟩ := I.ok.has x (.inl hk)
    obtain ⟨w', z⟩ := I.cell x c hc
    refine wpAny_storeName_cell I.ok.kind hk hc z (fun h' hc' hs => ?_)
    obtain ⟨oc, hoc, hocd⟩ := id z
    refine h { s with heap := h' } ⟨I.ok, I.os, I.bare, ⟨fun b o e n hb hx => ?_, fun b o e n hb hx => ?_, I.base.free, fun b o e hx => ?_, I.base.tups, I.base.frzs, I.base.tbls⟩, ⟨m, hn.sameBut hs (Ne.symm (cne x c hc)), fun j y v' e1 e2 e3 => ?_⟩, fun y c' e => ?_, I.free, I.freeC, fun p hp => ?_, tracked ⟨oc, hoc, I.freeC x c hc⟩ hs, by simpa using I.len⟩ ⟨c, hs, .inr hc⟩
    · exact (hs.2 b (Nat.ne_of_lt (Nat.lt_of_lt_of_le (Heap.lt_size e) (I.ok.cab x c hfn hc)))).trans (I.base.keep b o e n hb hx)
    · obtain ⟨sl, e1⟩ := I.base.slot b o e n hb hx
      exact ⟨sl, (hs.2 b (Nat.ne_of_lt (Nat.lt_of_lt_of_le (Heap.lt_size e) (I.ok.cab x c hfn hc)))).trans e1⟩
    · obtain ⟨o', e1⟩ := I.base.there b o e hx
      exact ⟨o', (hs.2 b (Nat.ne_of_lt (Nat.lt_of_lt_of_le (Heap.lt_size e) (I.ok.cab x c hfn hc)))).trans e1⟩
    · by_cases hj : j = i
      · subst hj
        rw [hi] at e1; cases e1
        rw [List.getElem?_set_self hiσ] at e2
        cases e2
        exact ⟨u, r, .inr ⟨.inl hk, c, hc, hc'⟩⟩
      · rw [List.getElem?_set_ne (Ne.symm hj)] at e2
        obtain ⟨u', r', q⟩ := hl j y v' e1 e2 e3
        refine ⟨u', r', ?_⟩
        rcases q with q | ⟨k, c', e, z'⟩
        · exact .inl q
        · refine .inr ⟨k, c', e, z'.sameBut hs ?_⟩
          rintro rfl
          exact hj (nodup_ix hN e1 (I.ok.inj _ _ _ e hc ▸ hi))
    · by_cases hcc : c' = c
      · subst hcc; exact ⟨_, hc'⟩
      · obtain ⟨w2, z2⟩ := I.cell y c' e
        exact ⟨w2, z2.sameBut hs hcc⟩
    · obtain ⟨e, n, ne, nf, d⟩ := I.pin p hp
      refine ⟨(hs.2 p.1 ?_).trans e, n, ne, nf, d⟩
      intro q
      rw [q, hoc] at e
      have q' : oc = p.2 := Option.some.inj e
      exact d w' (by rw [← q']; exact hocd)
theorem store_ok {M : Model} {A : Around} {E : Value → Shared → Prop} {i : Nat} {x : Str} {v : V} {u : Value} {Q : Unit → Shared → Prop} (I : Inv X pins σ H s) (hN : X.N.Nodup) (hi : X.N[i]? = some x) (hx : Loc X.env.scope x) (r : RelV v u)
    (h : ∀ s', Inv X pins (σ.set i (some v)) H s' → Q () s') (hf : X.fn x = true ∨ X.env.scope.names.lookup x = some .local := by first | exact .inl rfl | exact .inr rfl | assumption) : wpAny M A (storeName X.env x u) Q E s :=
  store_ok2 I hN hi hx r (fun s' I' _ => h s' I') hf
theorem Inv.call' {s' : Shared} {ch : List Addr} (I : Inv X pins σ H s) (ho : s'.os = s.os) (u : Un (frs X.stack) ch H H' s.heap s'.heap) (hok : HOk X.prog X.w H' s'.heap) (hg : AllBare s'.gens)
    (hch : ∀ b ∈ ch, (b ∈ X.ex ∨ X.s₀.heap.objs.size ≤ b) ∧ b ≠ X.env.locals ∧ (∀ x c, X.env.cells.lookup x = some c → c ≠ b) ∧ ∀ p ∈ X.pn ++ pins, p.1 ≠ b) : Inv X pins σ H' s' := by
  obtain ⟨h', g', d', t', o'⟩ := s'
  have e : o' = s.os := ho
  subst e
  exact I.call (g' := g') (t' := t') (d' := d') u hok hg hch
end
abbrev XK := Value → Option Addr → Hp → Prop
abbrev St := List (Option V)
abbrev VK := V → Hp → Prop
abbrev TE := St → Hp → VK → Prop
abbrev TT := St → Hp → (Bool → Hp → Prop) → Prop
abbrev TA := St → Hp → (List V → Hp → Prop) → Prop
structure Ends where
  nx : St → Hp → Prop
  rt : VK
  bk : St → Hp → Prop := fun _ _ => False
  ct : St → Hp → Prop := fun _ _ => False
abbrev TS := Ends → St → Hp → Prop
def EP (X : Cx) (pins : List (Addr × Obj)) (σ : St) (Q : VK) (u : Value) (s' : Shared) : Prop := ∃ v H', Inv X pins σ H' s' ∧ RelV v u ∧ Q v H'
def TP (X : Cx) (pins : List (Addr × Obj)) (σ : St) (Q : Bool → Hp → Prop) (b : Bool) (s' : Shared) : Prop := ∃ H', Inv X pins σ H' s' ∧ Q b H'
def AP (X : Cx) (pins : List (Addr × Obj)) (σ : St) (Q : List V → Hp → Prop) (us : List Value) (s' : Shared) : Prop := ∃ vs H', Inv X pins σ H' s' ∧ Vals vs us ∧ Q vs H'
def SP (X : Cx) (pins : List (Addr × Obj)) (D : Ends) (f : Flow) (s' : Shared) : Prop :=
  match f with
  | .next => ∃ σ' H', Inv X pins σ' H' s' ∧ D.nx σ' H'
  | .brk => ∃ σ' H', Inv X pins σ' H' s' ∧ D.bk σ' H'
  | .cont => ∃ σ' H', Inv X pins σ' H' s' ∧ D.ct σ' H'
  | .ret u => ∃ v σ' H', Inv X pins σ' H' s' ∧ RelV v u ∧ D.rt v H'
def PE (X : Cx) (e : Expr) (t : TE) : Prop :=
  ∀ (pins : List (Addr × Obj)) (s : Shared) (σ : St) (H : Hp) (Q : VK), Inv X pins σ H s → t σ H Q → wpAny (model X.prog X.w) X.A (eval e X.env) (EP X pins σ Q) X.xe s
def PT (X : Cx) (e : Expr) (t : TT) : Prop :=
  ∀ (pins : List (Addr × Obj)) (s : Shared) (σ : St) (H : Hp) (Q : Bool → Hp → Prop), Inv X pins σ H s → t σ H Q → wpAny (model X.prog X.w) X.A (isTrue e X.env (eval e X.env)) (TP X pins σ Q) X.xe s
def PW (X : Cx) (e : Expr) (t : TT) : Prop :=
  ∀ (whole : Sem Value) (pins : List (Addr × Obj)) (s : Shared) (σ : St) (H : Hp) (Q : Bool → Hp → Prop), Inv X pins σ H s → t σ H Q → wpAny (model X.prog X.w) X.A (isTrue e X.env whole) (TP X pins σ Q) X.xe s
theorem PW.pt {X : Cx} {e : Expr} {t : TT} (h : PW X e t) : PT X e t := h _
def PA (X : Cx) (es : List Expr) (t : TA) : Prop :=
  ∀ (pos : Pos) (pins : List (Addr × Obj)) (s : Shared) (σ : St) (H : Hp) (Q : List V → Hp → Prop), Inv X pins σ H s → t σ H Q → wpAny (model X.prog X.w) X.A (spliced (backTo pos (starEach es X.env))) (AP X pins σ Q) X.xe s
def PS (X : Cx) (st : Stmt) (t : TS) : Prop :=
  ∀ (pins : List (Addr × Obj)) (s : Shared) (σ : St) (H : Hp) (D : Ends), Inv X pins σ H s → t D σ H → wpAny (model X.prog X.w) X.A (exec st X.env) (SP X pins D) X.xe s
def PSs (X : Cx) (st : List Stmt) (t : TS) : Prop :=
  ∀ (pins : List (Addr × Obj)) (s : Shared) (σ : St) (H : Hp) (D : Ends), Inv X pins σ H s → t D σ H → wpAny (model X.prog X.w) X.A (execs st X.env) (SP X pins D) X.xe s
theorem thn {α : Type} {t : Sem α} {Q Q' : α → Shared → Prop} {M : Model} {A : Around} {E : Value → Shared → Prop} {s : Shared} (h : wpAny M A t Q E s) (hQ : ∀ a s, Q a s → Q' a s) : wpAny M A t Q' E s := wpAny_mono h hQ fun _ _ x => x
end L2
namespace L2
open PySem PySem.Spec PyProof.Rows
section
variable {X : Cx}
theorem bin {a b : Expr} {ta tb : TE} (ha : PE X a ta) (hb : PE X b tb) {pins : List (Addr × Obj)} {s : Shared} {σ : St} {H : Hp} {R : V → V → Hp → Prop} (I : Inv X pins σ H s) (h : ta σ H fun x H1 => tb σ H1 fun y H2 => R x y H2)
    {α : Type} {Q : α → Shared → Prop} {f : Value → Value → Sem α}
    (hf : ∀ v u s2 x y H2, Inv X pins σ H2 s2 → RelV x v → RelV y u → R x y H2 → wpAny (model X.prog X.w) X.A (f v u) Q X.xe s2) :
    wpAny (model X.prog X.w) X.A (eval a X.env) (fun v s₁ => wpAny (model X.prog X.w) X.A (eval b X.env) (fun u s₂ => wpAny (model X.prog X.w) X.A (f v u) Q X.xe s₂) X.xe s₁) X.xe s := by
  refine thn (ha pins s σ H _ I h) fun v s1 ⟨x, H1, I1, r1, q1⟩ => ?_
  refine thn (hb pins s1 σ H1 _ I1 q1) fun u s2 ⟨y, H2, I2, r2, q2⟩ => ?_
  exact hf v u s2 x y H2 I2 r1 r2 q2
def tVar (i : Nat) : TE := fun σ H Q => ∃ v, σ[i]? = some (some v) ∧ Q v H
def tC (v : V) : TE := fun _ H Q => Q v H
theorem pe_var {i : Nat} {x : Str} {pos : Pos} (hN : X.N[i]? = some x) (hv : Vis X.env.scope x) (hd : (x == ("__debug__" : Str)) = false := by decide) (hcd : (x == ("__classdict__" : Str)) = false := by decide) : PE X (.Name x pos) (tVar i) := by
  intro pins s σ H Q I h
  obtain ⟨v, e, h⟩ := h
  obtain ⟨m, hn, hl⟩ := I.loc
  obtain ⟨u, r, l⟩ := hl i x v hN e hv
  have fin : EP X pins σ Q u s := ⟨v, H, I, r, h⟩
  rcases l with ⟨hk, hm⟩ | ⟨hk, c, hc, hcell⟩
  · exact wpAny_Name (wpAny_loadName_local I.ok.kind hk hn hm fin) hd
  · rcases hk with hk | hk
    · exact wpAny_Name (wpAny_loadName_cell I.ok.kind hk hc hcell fin) hd
    · exact wpAny_Name (wpAny_loadName_free I.ok.kind hk hc hcell fin hcd) hd
theorem pe_int {i j pos} : PE X (.Constant (.int i) j pos) (tC (.int i)) := fun _ _ _ H _ I h => wpAny_Constant_int ⟨.int i, H, I.tok _, ⟨_, rfl⟩, h⟩
theorem pe_bl {b j pos} : PE X (.Constant (.bool b) j pos) (tC (.bl b)) := fun _ _ _ H _ I h => Constant_bool ⟨.bl b, H, I, rfl, h⟩
theorem pe_non {j pos} : PE X (.Constant .none j pos) (tC .non) := fun _ _ _ H _ I h => Constant_none ⟨.non, H, I, rfl, h⟩
theorem pe_str {x j pos} : PE X (.Constant (.str x) j pos) (tC (.str x)) := fun _ _ _ H _ I h => Calls.Constant_str ⟨.str x, H, I.tok _, ⟨_, rfl⟩, h⟩
def Gl (X : Cx) (x : Str) : Prop := X.env.kindOf x = some .globalImplicit
theorem ld_glob {E : Value → Shared → Prop} {pins : List (Addr × Obj)} {s : Shared} {σ : St} {H : Hp} {x : Str} {u : Value} {pos : Pos} {Q : Value → Shared → Prop} (I : Inv X pins σ H s) (hg : Gl X x) (hm : X.mg x = some u) (h : Q u s)
    (hd : (x == ("__debug__" : Str)) = false := by decide) : wpAny (model X.prog X.w) X.A (eval (.Name x pos) X.env) Q E s :=
  Calls.Name_function_global I.ok.kind hg (Calls.loadGlobal_global (by rw [I.ok.glob]; exact I.mod.glob.keeps I.bk) hm h) hd
theorem ld_blt {E : Value → Shared → Prop} {pins : List (Addr × Obj)} {s : Shared} {σ : St} {H : Hp} {x : Str} {u : Value} {pos : Pos} {Q : Value → Shared → Prop} (I : Inv X pins σ H s) (hg : Gl X x) (hm : X.mg x = none) (hv : bootBuiltins x = some u) (h : Q u s)
    (hn : x ≠ "__name__" := by decide) (hd : (x == ("__debug__" : Str)) = false := by decide) : wpAny (model X.prog X.w) X.A (eval (.Name x pos) X.env) Q E s := by
  obtain ⟨mb, h1, h2⟩ := I.mod.blt
  exact Calls.Name_function_global I.ok.kind hg (Calls.loadGlobal_builtin (by rw [I.ok.glob]; exact I.mod.glob.keeps I.bk) hm (by rw [I.ok.blt]; exact h1.keeps I.bk) ((h2 x hn).trans hv) h) hd
theorem pe_glob {x : Str} {v : V} {u : Value} {pos : Pos} (hg : Gl X x) (hm : X.mg x = some u) (r : RelV v u) (hd : (x == ("__debug__" : Str)) = false := by decide) : PE X (.Name x pos) (tC v) :=
  fun _ _ _ H _ I h => ld_glob I hg hm ⟨v, H, I, r, h⟩ hd
theorem pe_bltn {x : Str} {v : V} {u : Value} {pos : Pos} (hg : Gl X x) (hm : X.mg x = none) (hv : bootBuiltins x = some u) (r : RelV v u) (hn : x ≠ "__name__" := by decide) (hd : (x == ("__debug__" : Str)) = false := by decide) : PE X (.Name x pos) (tC v) :=
  fun _ _ _ H _ I h => ld_blt I hg hm hv ⟨v, H, I, r, h⟩ hn hd
variable {a b : Expr} {ta tb : TE} {pos : Pos}
def PC (X : Cx) (op : CmpOp) (a b : Expr) (t : TE) : Prop :=
  ∀ (pins : List (Addr × Obj)) (s : Shared) (σ : St) (H : Hp) (Q : VK), Inv X pins σ H s → t σ H Q →
    wpAny (model X.prog X.w) X.A (eval a X.env) (fun v s₁ => wpAny (model X.prog X.w) X.A (eval b X.env) (fun u s₂ => wpAny (model X.prog X.w) X.A (compareOp op v u) (EP X pins σ Q) X.xe s₂) X.xe s₁) X.xe s
def tB (t : TE) : TT := fun σ H Q => t σ H fun x H1 => ∃ c, x = .bl c ∧ Q c H1
theorem pt_cmp {op : CmpOp} {t : TE} (h : PC X op a b t) (h1 : behindInMarks op b = false := by first | exact nobehind _ (by decide) (by decide) | rfl) : PT X (.Compare a [op] [b] pos) (tB t) := by
  intro pins s σ H Q I hw
  refine wpAny_isTrue_Compare1 (thn (h pins s σ H _ I hw) fun v s1 h1 => thn h1 fun u s2 h2 => thn h2 fun c s3 ⟨x, H1, I1, r1, q1⟩ => ?_) h1
  obtain ⟨d, rfl, q⟩ := q1
  cases r1
  exact wpAny_truthy_bool ⟨H1, I1, q⟩
theorem pt_val {e : Expr} {t : TE} (h : PE X e t) (he : ∀ whole, isTrue e X.env whole = (do let v ← whole; standAt e.pos; holding [v] (truthy v)) := by intro _; rfl) : PT X e (tB t) := by
  intro pins s σ H Q I hw
  refine isTrue_plain (thn (h pins s σ H _ I hw) fun v s1 ⟨x, H1, I1, r1, q1⟩ => ?_) (he _)
  obtain ⟨d, rfl, q⟩ := q1
  cases r1
  exact wpAny_truthy_bool ⟨H1, I1, q⟩
variable {tA tB' : TT} {rest : List Expr}
def tAnd (t u : TT) : TT := fun σ H Q => t σ H fun c H1 => if c = true then u σ H1 Q else Q false H1
def tOr (t u : TT) : TT := fun σ H Q => t σ H fun c H1 => if c = true then Q true H1 else u σ H1 Q
def tNot (t : TT) : TT := fun σ H Q => t σ H fun c H1 => Q (!c) H1
theorem pw_and1 (ha : PT X a tA) : PW X (.BoolOp .And [a] pos) tA := by
  intro wh pins s σ H Q I h
  refine isTrue_and (thn (ha pins s σ H Q I h) fun c s1 e => ?_)
  cases c with
  | true => exact isTrue_and_nil e
  | false => exact e
theorem pw_or1 (ha : PT X a tA) : PW X (.BoolOp .Or [a] pos) tA := by
  intro wh pins s σ H Q I h
  refine isTrue_or (thn (ha pins s σ H Q I h) fun c s1 e => ?_)
  cases c with
  | false => exact isTrue_or_nil e
  | true => exact e
theorem pw_and (ha : PT X a tA) (hb : PW X (.BoolOp .And (b :: rest) pos) tB') : PW X (.BoolOp .And (a :: b :: rest) pos) (tAnd tA tB') := by
  intro wh pins s σ H Q I h
  refine isTrue_and (thn (ha pins s σ H _ I h) fun c s1 ⟨H1, I1, q1⟩ => ?_)
  cases c with
  | true => exact hb wh pins s1 σ H1 Q I1 q1
  | false => exact ⟨H1, I1, q1⟩
theorem pw_or (ha : PT X a tA) (hb : PW X (.BoolOp .Or (b :: rest) pos) tB') : PW X (.BoolOp .Or (a :: b :: rest) pos) (tOr tA tB') := by
  intro wh pins s σ H Q I h
  refine isTrue_or (thn (ha pins s σ H _ I h) fun c s1 ⟨H1, I1, q1⟩ => ?_)
  cases c with
  | true => exact ⟨H1, I1, q1⟩
  | false => exact hb wh pins s1 σ H1 Q I1 q1
theorem pt_not (ha : PT X a tA) : PT X (.UnaryOp .Not a pos) (tNot tA) := by
  intro pins s σ H Q I h
  exact isTrue_not (ha pins s σ H (fun c H1 => Q (!c) H1) I h)
def tAndV (ta tb : TE) : TE := fun σ H Q => ta σ H fun x H1 => ∃ c, x = .bl c ∧ if c = true then tb σ H1 Q else Q (.bl false) H1
def tNotV (ta : TE) : TE := fun σ H Q => ta σ H fun x H1 => ∃ c, x = .bl c ∧ Q (.bl (!c)) H1
theorem pe_one {op} {t : TE} (h : PE X a t) : PE X (.BoolOp op [a] pos) t := fun pins s σ H Q I hw => BoolOp_one (h pins s σ H Q I hw)
theorem pe_and (ha : PE X a ta) (hb : PE X (.BoolOp .And (b :: rest) pos) tb) : PE X (.BoolOp .And (a :: b :: rest) pos) (tAndV ta tb) := by
  intro pins s σ H Q I h
  refine BoolOp_and (thn (ha pins s σ H _ I h) fun v s1 ⟨x, H1, I1, r1, q1⟩ => ?_)
  obtain ⟨c, rfl, q1⟩ := q1
  cases r1
  refine wpAny_truthy_bool ?_
  cases c with
  | true => exact hb pins s1 σ H1 Q I1 q1
  | false => exact ⟨.bl false, H1, I1, rfl, q1⟩
theorem pe_not (ha : PE X a ta) : PE X (.UnaryOp .Not a pos) (tNotV ta) := by
  intro pins s σ H Q I h
  refine UnaryOp_ (thn (ha pins s σ H _ I h) fun v s1 ⟨x, H1, I1, r1, q1⟩ => ?_)
  obtain ⟨c, rfl, q1⟩ := q1
  cases r1
  exact not_of (wpAny_truthy_bool ⟨.bl (!c), H1, I1, rfl, q1⟩)
end
end L2
namespace L2
open PySem PySem.Spec PyProof.Rows
def SqL (K : PySem.W.Frag) (H : Hp) (a : Addr) (xs : List V) : Prop :=
  Rd H a (.lst xs) ∨
    ∃ (o : Obj) (its : Array Value) (n : Nat), K.lookup a = some o ∧ o.cls = .type "list" ∧ o.dict = none ∧ o.data = .seq its n ∧ its.size ≤ sizeLine ∧ Vals xs its.toList
def SqT (K : PySem.W.Frag) (H : Hp) (a : Addr) (xs : List V) : Prop :=
  Rd H a (.tup xs) ∨
    ∃ (o : Obj) (its : Array Value) (n : Nat), K.lookup a = some o ∧ o.cls = .type "tuple" ∧ o.data = .seq its n ∧ its.size ≤ sizeLine ∧ Vals xs its.toList
def absV : Value → Option V
  | .none => some .non
  | .bool b => some (.bl b)
  | .int i _ => some (.int i)
  | .str x _ => some (.str x)
  | .bytes b _ => some (.byt b)
  | .float b _ => some (.flt b)
  | .ref a => some (.ref a)
  | .type n => some (.ty n)
  | _ => none
theorem RelV.abs {x : V} {u : Value} (r : RelV x u) : absV u = some x := by
  cases x with
  | non => cases r; rfl
  | bl _ => cases r; rfl
  | int _ => obtain ⟨t, rfl⟩ := r; rfl
  | str _ => obtain ⟨t, rfl⟩ := r; rfl
  | byt _ => obtain ⟨t, rfl⟩ := r; rfl
  | flt _ => obtain ⟨t, rfl⟩ := r; rfl
  | ref _ => cases r; rfl
  | ty _ => cases r; rfl
theorem RelV.inj {x y : V} {u : Value} (r : RelV x u) (q : RelV y u) : x = y := Option.some.inj (r.abs.symm.trans q.abs)
theorem Vals.inj : ∀ {xs ys : List V} {us : List Value}, Vals xs us → Vals ys us → xs = ys
  | _, _, _, .nil, .nil => rfl
  | _, _, _, .cons r t, .cons r' t' => by rw [r.inj r', Vals.inj t t']
section
variable {X : Cx} {pins : List (Addr × Obj)} {σ : St} {H : Hp} {s : Shared} {a : Addr} {xs ys : List V}
theorem SqL.of {K : PySem.W.Frag} (h : H a = some (.lst xs)) : SqL K H a xs := .inl (.inl h)
theorem SqT.of {K : PySem.W.Frag} (h : H a = some (.tup xs)) : SqT K H a xs := .inl (.inl h)
theorem Inv.list (I : Inv X pins σ H s) (h : SqL X.K H a xs) : ∃ its : List Value, Vals xs its ∧ PlainL s.heap a its.toArray ∧ xs.length ≤ sizeLine := by
  rcases h with h | ⟨o, its, n, hk, hc, hd, hs, hz, r⟩
  · obtain ⟨z, its, n, r, e⟩ := h.ok I.hok
    exact ⟨its, r, ⟨_, n, e, rfl, rfl, rfl⟩, z⟩
  · refine ⟨its.toList, r, ⟨o, n, I.kIn a o hk, hc, hd, by simpa using hs⟩, ?_⟩
    have e := r.length
    simp only [Array.length_toList] at e
    omega
theorem Inv.tuple (I : Inv X pins σ H s) (h : SqT X.K H a xs) : ∃ its : List Value, Vals xs its ∧ IsTup s.heap a its.toArray ∧ xs.length ≤ sizeLine := by
  rcases h with h | ⟨o, its, n, hk, hc, hs, hz, r⟩
  · obtain ⟨z, its, r, p⟩ := h.ok I.hok
    exact ⟨its, r, p, z⟩
  · refine ⟨its.toList, r, ⟨o, I.kIn a o hk, hc, n, by simpa using hs⟩, ?_⟩
    have e := r.length
    simp only [Array.length_toList] at e
    omega
theorem Inv.list_inj (I : Inv X pins σ H s) (h : SqL X.K H a xs) (h' : SqL X.K H a ys) : xs = ys := by
  obtain ⟨its, r, ⟨o, n, e, _, _, d⟩, _⟩ := I.list h
  obtain ⟨its', r', ⟨o', n', e', _, _, d'⟩, _⟩ := I.list h'
  rw [e] at e'; cases e'
  rw [d] at d'
  injection d' with d1 _
  have : its = its' := by simpa using congrArg Array.toList d1
  subst this
  exact r.inj r'
end
abbrev Cx.wish (X : Cx) (E : Value → Shared → Prop) : Cx := { X with xe := E }
abbrev Cx.nox (X : Cx) : Cx := X.wish fun _ _ => False
theorem Cx.Ok.wish {X : Cx} (ok : X.Ok) (E : Value → Shared → Prop) : (X.wish E).Ok :=
  ⟨ok.mod, ok.kind, ok.glob, ok.blt, ok.above, ok.inj, ok.has, ok.cab, ok.hd, ok.frames, ok.stk, ok.exf, ok.bs, ok.bsz, ok.noex, ok.exfs, ok.funs, ok.frf⟩
theorem Cx.Ok.unwish {X : Cx} {E : Value → Shared → Prop} (ok : (X.wish E).Ok) : X.Ok :=
  ⟨ok.mod, ok.kind, ok.glob, ok.blt, ok.above, ok.inj, ok.has, ok.cab, ok.hd, ok.frames, ok.stk, ok.exf, ok.bs, ok.bsz, ok.noex, ok.exfs, ok.funs, ok.frf⟩
section
variable {X : Cx} {pins : List (Addr × Obj)} {σ : St} {H : Hp} {s : Shared} {E : Value → Shared → Prop}
theorem Inv.wish (I : Inv X pins σ H s) (E : Value → Shared → Prop) : Inv (X.wish E) pins σ H s := ⟨I.ok.wish E, I.os, I.bare, I.base, I.loc, I.cell, I.free, I.freeC, I.pin, I.hok, I.len⟩
theorem Inv.unwish (I : Inv (X.wish E) pins σ H s) : Inv X pins σ H s := ⟨I.ok.unwish, I.os, I.bare, I.base, I.loc, I.cell, I.free, I.freeC, I.pin, I.hok, I.len⟩
theorem SP.unwish {D : Ends} {f : Flow} {s' : Shared} (h : SP (X.wish E) pins D f s') : SP X pins D f s' := by
  cases f with
  | next => obtain ⟨σ', H', I, q⟩ := h; exact ⟨σ', H', I.unwish, q⟩
  | brk => obtain ⟨σ', H', I, q⟩ := h; exact ⟨σ', H', I.unwish, q⟩
  | cont => obtain ⟨σ', H', I, q⟩ := h; exact ⟨σ', H', I.unwish, q⟩
  | ret u => obtain ⟨v, σ', H', I, r, q⟩ := h; exact ⟨v, σ', H', I.unwish, r, q⟩
theorem PSs.nox {st : List Stmt} {t : TS} (h : PSs X.nox st t) : PSs X st t := fun pins s σ H D I hw =>
  wpAny_mono (h pins s σ H D (I.wish _) hw) (fun _ _ q => q.unwish) fun _ _ z => False.elim z
end
section
variable {X : Cx} {st : Stmt} {rest : List Stmt} {t u : TS} {e : Expr} {te : TE} {pos : Pos}
def tNext : TS := fun D σ H => D.nx σ H
def tSeq (t u : TS) : TS := fun D σ H => t { D with nx := u D } σ H
theorem pss_nil : PSs X [] tNext := fun _ _ σ H _ I h => wpAny_execs_nil ⟨σ, H, I, h⟩
theorem pss_cons (h1 : PS X st t) (h2 : PSs X rest u) : PSs X (st :: rest) (tSeq t u) := by
  intro pins s σ H D I h
  refine wpAny_execs_cons (thn (h1 pins s σ H { D with nx := u D } I h) fun f s1 q => ?_)
  cases f with
  | next =>
    obtain ⟨σ', H', I', q⟩ := q
    exact h2 pins s1 σ' H' D I' q
  | ret v => exact q
  | brk => exact q
  | cont => exact q
theorem pss_one (h1 : PS X st t) : PSs X [st] t := by
  intro pins s σ H D I h
  refine wpAny_execs_cons (thn (h1 pins s σ H D I h) fun f s1 q => ?_)
  cases f with
  | next => exact wpAny_execs_nil q
  | ret v => exact q
  | brk => exact q
  | cont => exact q
theorem Inv.quiet {pins : List (Addr × Obj)} {σ : St} {H : Hp} {s : Shared} (I : Inv X pins σ H s) : interactive X.env = false := by simp [interactive, I.ok.kind]
def tDrop (te : TE) : TS := fun D σ H => te σ H fun _ H1 => D.nx σ H1
theorem ps_expr (he : PE X e te) (hs : swapsWith e none pos.line X.env = pure false := by rfl) : PS X (.Expr e pos) (tDrop te) := by
  intro pins s σ H D I h
  exact wpAny_Expr_any (thn (he pins s σ H _ I h) fun v s1 ⟨x, H1, I1, r1, q1⟩ => ⟨σ, H1, I1, q1⟩) I.quiet hs
def tRet (te : TE) : TS := fun D σ H => te σ H D.rt
theorem ps_ret (he : PE X e te) : PS X (.Return (some e) pos) (tRet te) := by
  intro pins s σ H D I h
  exact wpAny_Return_some (thn (he pins s σ H _ I h) fun v s1 ⟨x, H1, I1, r1, q1⟩ => ⟨x, σ, H1, I1, r1, q1⟩)
def tIfS (c : TT) (t u : TS) : TS := fun D σ H => c σ H fun b H1 => if b = true then t D σ H1 else u D σ H1
theorem ps_if {c : Expr} {a b : List Stmt} {tc : TT} (hc : PT X c tc) (ha : PSs X a t) (hb : PSs X b u) : PS X (.If c a b pos) (tIfS tc t u) := by
  intro pins s σ H D I h
  refine wpAny_If (thn (hc pins s σ H _ I h) fun d s1 ⟨H1, I1, q1⟩ => ?_)
  cases d with
  | true => exact ha pins s1 σ H1 D I1 q1
  | false => exact hb pins s1 σ H1 D I1 q1
def tNever : TS := fun _ _ _ => False
theorem ps_never : PS X st tNever := fun _ _ _ _ _ _ h => h.elim
end
abbrev TG := V → St → Hp → (St → Hp → Prop) → Prop
abbrev TGs := List V → St → Hp → (St → Hp → Prop) → Prop
def PG (X : Cx) (target : Expr) (t : TG) : Prop :=
  ∀ (pins : List (Addr × Obj)) (s : Shared) (σ : St) (H : Hp) (v : V) (u : Value) (Q : St → Hp → Prop), Inv X pins σ H s → RelV v u → t v σ H Q →
    wpAny (model X.prog X.w) X.A (assign target X.env u) (fun _ s' => ∃ σ' H', Inv X pins σ' H' s' ∧ Q σ' H') X.xe s
def PGs (X : Cx) (ts : List Expr) (t : TGs) : Prop :=
  ∀ (pins : List (Addr × Obj)) (s : Shared) (σ : St) (H : Hp) (vs : List V) (us : List Value) (Q : St → Hp → Prop), Inv X pins σ H s → Vals vs us → t vs σ H Q →
    wpAny (model X.prog X.w) X.A (assignInOrder ((assignEach ts X.env).map (·.2)) us) (fun _ s' => ∃ σ' H', Inv X pins σ' H' s' ∧ Q σ' H') X.xe s
abbrev TSet := V → V → V → Hp → (Hp → Prop) → Prop
def PSet (X : Cx) (t : TSet) : Prop :=
  ∀ (pins : List (Addr × Obj)) (s : Shared) (σ : St) (H : Hp) (o i v : V) (ov iv u : Value) (Q : Hp → Prop), Inv X pins σ H s → RelV o ov → RelV i iv → RelV v u → t o i v H Q →
    wpAny (model X.prog X.w) X.A (setItem ov iv u) (fun _ s' => ∃ H', Inv X pins σ H' s' ∧ Q H') X.xe s
section
variable {X : Cx} {pos : Pos}
def gName (i : Nat) : TG := fun v σ H Q => Q (σ.set i (some v)) H
theorem pg_name {i : Nat} {x : Str} (hN : X.N.Nodup) (hi : X.N[i]? = some x) (hx : Loc X.env.scope x) (hf : X.fn x = true ∨ X.env.scope.names.lookup x = some .local := by first | exact .inl rfl | exact .inr rfl | assumption) : PG X (.Name x pos) (gName i) := by
  intro pins s σ H v u Q I r h
  exact wpAny_assign_Name (store_ok I hN hi hx r (fun s' I' => ⟨_, H, I', h⟩) hf)
def gNil : TGs := fun vs σ H Q => vs = [] ∧ Q σ H
def gCons (t : TG) (u : TGs) : TGs := fun vs σ H Q => ∃ v r, vs = v :: r ∧ t v σ H fun σ' H' => u r σ' H' Q
theorem pgs_nil : PGs X [] gNil := by
  intro pins s σ H vs us Q I r h
  obtain ⟨e, h⟩ := h
  subst e
  cases r
  exact assignInOrder_nil ⟨σ, H, I, h⟩
theorem pgs_cons {e : Expr} {es : List Expr} {t : TG} {u : TGs} (h1 : PG X e t) (h2 : PGs X es u)
    (hs : (assignEach (e :: es) X.env).map (·.2) = assign e X.env :: (assignEach es X.env).map (·.2) := by rfl) : PGs X (e :: es) (gCons t u) := by
  intro pins s σ H vs us Q I r h
  obtain ⟨v, vr, e1, h⟩ := h
  subst e1
  cases r with
  | cons r rr =>
    rw [hs]
    refine assignInOrder_cons (thn (h1 pins s σ H _ _ _ I r h) fun _ s1 ⟨σ1, H1, I1, q1⟩ => ?_)
    exact h2 pins s1 σ1 H1 _ _ Q I1 rr q1
def gTup (K : PySem.W.Frag) (n : Nat) (t : TGs) : TG := fun v σ H Q => ∃ a xs, v = .ref a ∧ SqT K H a xs ∧ xs.length = n ∧ t xs σ H Q
theorem pg_tup {es : List Expr} {k : Nat} {t : TGs} {n : Nat} (hc : X.calm = true) (h : PGs X es t)
    (hn : (assignEach es X.env).length = n := by rfl) (hst : (assignEach es X.env).findIdx? (·.1) = none := by rfl) : PG X (.Tuple es k pos) (gTup X.K n t) := by
  intro pins s σ H v u Q I r hw
  obtain ⟨a, xs, e1, hq, hl, hw⟩ := hw
  subst e1
  cases r
  obtain ⟨its, rv, ht, hz⟩ := I.tuple hq
  refine assign_Tuple_tuple (I.ok.hd hc) ht (by simp [hn, ← hl, rv.length]) hst fun h' hx => ?_
  have I1 : Inv X pins σ H { s with heap := h' } := I.kept (t' := s.toks) fun b o e => hx b o (Nat.ne_of_lt (Heap.lt_size e)) e
  exact h pins _ σ H xs _ Q I1 (by simpa using rv) hw
def gSub (to ti : TE) (t : TSet) : TG := fun v σ H Q => to σ H fun o H1 => ti σ H1 fun i H2 => t o i v H2 fun H3 => Q σ H3
theorem pg_sub {o i : Expr} {to ti : TE} {t : TSet} (ho : PE X o to) (hi : PE X i ti) (hs : PSet X t)
    (ha : ∀ v, assign (.Subscript o i pos) X.env v = (do
      let ov ← holding [v] (eval o X.env)
      let iv ← holding [v, ov] (eval i X.env)
      standAt pos
      holding [v, ov, iv] (setItem ov iv v)
      release [v, ov, iv] []) := by intro _; rfl) : PG X (.Subscript o i pos) (gSub to ti t) := by
  intro pins s σ H v u Q I r h
  rw [ha]
  refine wpAny_bind (wpAny_holding (thn (ho pins s σ H _ I h) fun ov s1 ⟨x, H1, I1, r1, q1⟩ => ?_))
  refine wpAny_bind (wpAny_holding (thn (hi pins s1 σ H1 _ I1 q1) fun iv s2 ⟨y, H2, I2, r2, q2⟩ => ?_))
  refine wpAny_bind (wpAny_standAt (wpAny_bind (wpAny_holding (thn (hs pins s2 σ H2 x y v ov iv u _ I2 r1 r2 r q2) fun _ s3 ⟨H3, I3, q3⟩ => ?_))))
  exact wpAny_release ⟨σ, H3, I3, q3⟩
def tAsg (te : TE) (g : TG) : TS := fun D σ H => te σ H fun x H1 => g x σ H1 D.nx
theorem ps_asg {tg e : Expr} {te : TE} {g : TG} (he : PE X e te) (hg : PG X tg g) (hs : swapsWithSole [tg] e pos.line X.env = pure false := by rfl) (hw : swappedStores [tg] e X.env = pure none := by rfl)
    (h1 : (assignEach [tg] X.env).map (·.2) = [assign tg X.env] := by rfl) : PS X (.Assign [tg] e pos) (tAsg te g) := by
  intro pins s σ H D I h
  refine wpAny_Assign_stores (thn (he pins s σ H _ I h) fun v s1 ⟨x, H1, I1, r1, q1⟩ => ?_) hs hw
  rw [h1]
  exact thn (hg pins s1 σ H1 x v _ I1 r1 q1) fun _ s2 q => q
theorem ps_set {i : Nat} {x : Str} {e : Expr} {te : TE} {pos' : Pos} (hN : X.N.Nodup) (hi : X.N[i]? = some x) (hx : Loc X.env.scope x) (he : PE X e te) (hs : swapsWith e (some (.Name x pos')) pos.line X.env = pure false := by rfl) (hf : X.fn x = true ∨ X.env.scope.names.lookup x = some .local := by first | exact .inl rfl | exact .inr rfl | assumption) :
    PS X (.Assign [.Name x pos'] e pos) (tAsg te (gName i)) := by
  intro pins s σ H D I h
  refine wpAny_Assign_Name (thn (he pins s σ H _ I h) fun v s1 ⟨y, H1, I1, r1, q1⟩ => ?_) hs
  exact store_ok I1 hN hi hx r1 (fun s2 I2 => ⟨_, H1, I2, q1⟩) hf
end
section
variable {X : Cx} {pos : Pos}
def tWhile (c : TT) (tb : TS) : TS := fun D σ H => ∃ W : Nat → St → Hp → Prop, (∃ m, W m σ H) ∧ ∀ m σ H, W m σ H →
  c σ H fun b H1 => if b = true then ∃ N : St → Hp → Prop, (∀ σ' H', N σ' H' → ∃ m', m' < m ∧ W m' σ' H') ∧ tb { D with nx := N, ct := N, bk := D.nx } σ H1 else D.nx σ H1
theorem ps_while {c : Expr} {body : List Stmt} {tc : TT} {tb : TS} (hp : PassesOwn (model X.prog X.w) X.A X.env X.xe) (hc : PT X c tc) (hb : PSs X body tb) : PS X (.While c body [] pos) (tWhile tc tb) := by
  intro pins s σ H D I h
  obtain ⟨W, ⟨m0, w0⟩, turn⟩ := h
  refine wpAny_While (codeAny_whileLoop (fun n s' => ∃ σ' H', Inv X pins σ' H' s' ∧ W n σ' H') ?_ m0 ⟨σ, H, I, w0⟩)
  rintro n s1 ⟨σ1, H1, I1, w1⟩
  refine wpAny_passesOwn hp (thn (hc pins s1 σ1 H1 _ I1 (turn n σ1 H1 w1)) fun b s2 ⟨H2, I2, q2⟩ => ?_)
  cases b with
  | true =>
    obtain ⟨N, hN, q2⟩ := q2
    rw [if_pos rfl]
    refine wpAny_passesOwn hp (thn (hb pins s2 σ1 H2 _ I2 q2) fun f s3 q3 => ?_)
    cases f with
    | next =>
      obtain ⟨σ3, H3, I3, n3⟩ := q3
      obtain ⟨m', hm, w3⟩ := hN σ3 H3 n3
      exact ⟨m', hm, σ3, H3, I3, w3⟩
    | cont =>
      obtain ⟨σ3, H3, I3, n3⟩ := q3
      obtain ⟨m', hm, w3⟩ := hN σ3 H3 n3
      exact ⟨m', hm, σ3, H3, I3, w3⟩
    | brk => exact q3
    | ret v => exact q3
  | false =>
    rw [if_neg Bool.false_ne_true]
    exact wpAny_execs_nil ⟨σ1, H2, I2, q2⟩
end
structure It where
  go : Nat → Hp → Prop
  yld : Nat → Hp → V → Hp → Prop
  stop : Nat → Hp → Prop
def FpOk (X : Cx) (pins : List (Addr × Obj)) (H : Hp) (b : Addr) : Prop :=
  H b = none ∧ b ≠ X.env.locals ∧ b ∉ X.fs ∧ (b ∈ X.ex ∨ X.s₀.heap.objs.size ≤ b) ∧ (∀ x c, X.env.cells.lookup x = some c → c ≠ b) ∧ ∀ p ∈ X.pn ++ pins, p.1 ≠ b
theorem Inv.fpOk {X : Cx} {pins : List (Addr × Obj)} {σ : St} {H H' : Hp} {s : Shared} {b : Addr} (I : Inv X pins σ H s) (hb : s.heap.objs.size ≤ b) (hn : H' b = none) : FpOk X pins H' b := by
  refine ⟨hn, Nat.ne_of_gt (Nat.lt_of_lt_of_le I.lt hb), I.nofs hb, .inr (Nat.le_trans I.sz hb), fun x c e z => ?_, fun p hp z => ?_⟩
  · obtain ⟨v, q⟩ := I.cell x c e
    exact absurd (Nat.lt_of_lt_of_le q.lt (by rw [z]; exact hb)) (Nat.lt_irrefl _)
  · exact absurd (Nat.lt_of_lt_of_le (Heap.lt_size (I.pin p hp).1) (by rw [z]; exact hb)) (Nat.lt_irrefl _)
structure Turn (P : Program) (w : World) (K : PySem.W.Frag) (tg : Expr) (J : It) (fp : List Addr) (it : Addr) (tn : Nat → Heap → Prop) : Prop where
  mem : it ∈ fp
  obj : ∀ i h, tn i h → ∀ b ∈ fp, ∃ o, h.get? b = some o ∧ ∀ v, o.data ≠ .cell v
  keep : ∀ i h h', tn i h → (∀ b ∈ fp, ∀ o, h.get? b = some o → h'.get? b = some o) → tn i h'
  item : ∀ (X : Cx), X.prog = P → X.w = w → X.K = K → X.calm = true → ∀ (i : Nat) (pins : List (Addr × Obj)) (s : Shared) (σ : St) (H : Hp) (E : Value → Shared → Prop), Inv X pins σ H s → (∀ b ∈ fp, FpOk X pins H b) → tn i s.heap → J.go i H →
    wpAny (model P w) X.A (pyNext (.ref it)) (fun r s1 => ∃ u, r = some u ∧
      wpAny (model P w) X.A (letOwnedTupleGo tg (.ref it) u) (fun _ s2 => ∃ x H', Inv X pins σ H' s2 ∧ RelV x u ∧ J.yld i H x H' ∧ tn (i + 1) s2.heap ∧ ∀ b ∈ fp, H' b = none) E s1) E s
  done : ∀ (X : Cx), X.prog = P → X.w = w → X.K = K → X.calm = true → ∀ (i : Nat) (pins : List (Addr × Obj)) (s : Shared) (σ : St) (H : Hp) (E : Value → Shared → Prop), Inv X pins σ H s → (∀ b ∈ fp, FpOk X pins H b) → tn i s.heap → J.stop i H →
    wpAny (model P w) X.A (pyNext (.ref it)) (fun r s1 => r = none ∧ Inv X pins σ H s1) E s
  self : ∀ (A : Around) (i : Nat) (s : Shared) (Q : Value → Shared → Prop) (E : Value → Shared → Prop), tn i s.heap → Q (.ref it) s → wpAny (model P w) A (pyIter (.ref it)) Q E s
abbrev TI := St → Hp → (It → Hp → Prop) → Prop
def PIE (X : Cx) (pins : List (Addr × Obj)) (σ : St) (tg : Expr) (R : It → Hp → Prop) (itv : Value) (s2 : Shared) : Prop :=
  ∃ (it : Addr) (fp : List Addr) (tn : Nat → Heap → Prop) (J : It) (H' : Hp), itv = .ref it ∧ Inv X pins σ H' s2 ∧ Turn X.prog X.w X.K tg J fp it tn ∧ tn 0 s2.heap ∧ (∀ b ∈ fp, FpOk X pins H' b) ∧ R J H'
def PI (X : Cx) (tg iter : Expr) (wi : TI) : Prop :=
  ∀ (pins : List (Addr × Obj)) (s : Shared) (σ : St) (H : Hp) (R : It → Hp → Prop), Inv X pins σ H s → wi σ H R →
    wpAny (model X.prog X.w) X.A (eval iter X.env) (fun v s1 => wpAny (model X.prog X.w) X.A (pyIter v) (PIE X pins σ tg R) X.xe s1) X.xe s
theorem go_of {M : Model} {A : Around} {E : Value → Shared → Prop} {s : Shared} {tg : Expr} {it : Addr} {u : Value} {o : Obj} {n : String} {vs : Array Value} {Q : Unit → Shared → Prop} (ho : s.heap.get? it = some o) (hc : o.cls = .type n) (hd : o.data = .fields vs)
    (hn : ["enumerate", "zip", "dict_itemiterator", "dict_reverseitemiterator", "odict_iterator", "itertools.zip_longest", "itertools.pairwise"].contains n = false) (hQ : Q () s) : wpAny M A (letOwnedTupleGo tg (.ref it) u) Q E s := by
  unfold letOwnedTupleGo
  cases tg <;> first
    | exact wpAny_pure hQ
    | (cases u <;> first
        | exact wpAny_pure hQ
        | (refine wpAny_bind (wpAny_load ho ?_)
           rw [hc, hd]
           show wpAny M A (if (["enumerate", "zip", "dict_itemiterator", "dict_reverseitemiterator", "odict_iterator", "itertools.zip_longest", "itertools.pairwise"].contains n && vs[0]? == some (rawInt _)) = true then _ else _) Q E s
           rw [if_neg (by intro h; rw [hn, Bool.false_and] at h; cases h)]
           exact wpAny_pure hQ))
def Itl (K : PySem.W.Frag) (a : Addr) : It :=
  ⟨fun i H => ∃ xs x, SqL K H a xs ∧ xs[i]? = some x, fun i H x H' => H' = H ∧ ∀ xs, SqL K H a xs → xs[i]? = some x, fun i H => ∃ xs, SqL K H a xs ∧ xs.length ≤ i⟩
def Itr (lo : Int) (n : Nat) : It := ⟨fun i _ => i < n, fun i H x H' => H' = H ∧ x = .int (lo + i), fun i _ => n ≤ i⟩
theorem turn_list {P : Program} {w : World} {K : PySem.W.Frag} {tg : Expr} (a it : Addr) : Turn P w K tg (Itl K a) [it] it (fun i h => h.IsListIter it a i) where
  mem := by simp
  obj := fun i h st b hb => by
    have e : b = it := by simpa using hb
    subst e
    obtain ⟨o, e, c, d⟩ := st
    exact ⟨o, e, fun v z => by rw [d] at z; cases z⟩
  keep := fun i h h' st k => st.at fun o e => k it (by simp) o e
  item := by
    intro X hP hw hK hc i pins s σ H E I hf st hg
    subst hP hw hK
    obtain ⟨xs, x, hq, hx⟩ := hg
    obtain ⟨its, rv, p, hz⟩ := I.list hq
    obtain ⟨u, hu, ru⟩ := rv.get hx
    obtain ⟨f0, f1, f2, f3, f4, f5⟩ := hf it (by simp)
    refine wpAny_pyNext_list_item st p.isList (x := u) (by simpa using hu) fun h' st' sb => ?_
    have I1 : Inv X pins σ H { s with heap := h' } := I.turned (t' := s.toks) (fun b o hb e => (sb.2 b hb).trans e) f0 f1 f3 f4 f5
    obtain ⟨o, e, c, d⟩ := id st'
    exact ⟨u, rfl, go_of (s := { s with heap := h' }) e c d (by decide) ⟨x, H, I1, ru, ⟨rfl, fun ys hy => by rw [I.list_inj hy hq]; exact hx⟩, st', fun b hb => (hf b hb).1⟩⟩
  done := by
    intro X hP hw hK hc i pins s σ H E I hf st hg
    subst hP hw hK
    obtain ⟨xs, hq, hx⟩ := hg
    obtain ⟨its, rv, p, hz⟩ := I.list hq
    obtain ⟨f0, f1, f2, f3, f4, f5⟩ := hf it (by simp)
    have hl := rv.length
    exact wpAny_pyNext_list_end (I.ok.hd hc) st p.isList (by simp; omega) fun h' eb => ⟨rfl, I.turned (t' := s.toks) (fun b o hb e => eb b o hb e) f0 f1 f3 f4 f5⟩
  self := fun _ _ _ _ _ st h => wpAny_pyIter_listiter st h
theorem turn_range {P : Program} {w : World} {K : PySem.W.Frag} {tg : Expr} (it : Addr) (lo : Int) (n : Nat) : Turn P w K tg (Itr lo n) [it] it (fun i h => IsRangeIter h it (lo + (i : Nat) * 1) ((n : Int) - (i : Nat)) 1) where
  mem := by simp
  obj := fun i h st b hb => by
    have e : b = it := by simpa using hb
    subst e
    exact ⟨_, st, fun v z => by
      have z' : Data.fields _ = Data.cell v := z
      cases z'⟩
  keep := fun i h h' st k => k it (by simp) _ st
  item := by
    intro X hP hw hK hc i pins s σ H E I hf st hg
    subst hP hw hK
    obtain ⟨f0, f1, f2, f3, f4, f5⟩ := hf it (by simp)
    have W := Walks.range (prog := X.prog) (w := X.w) (I.ok.hd hc) it lo 1 n
    refine W.item i s _ _ hg st fun v h' tk hv st' kk => ?_
    obtain ⟨t, rfl⟩ := hv
    have I1 : Inv X pins σ H { s with heap := h', toks := tk } := I.turned (fun b o hb e => kk b o (by simpa using hb) e) f0 f1 f3 f4 f5
    refine ⟨_, rfl, go_of (s := { s with heap := h', toks := tk }) (n := "range_iterator") st' rfl rfl (by decide) ⟨.int (lo + i), H, I1, ⟨t, ?_⟩, ⟨rfl, rfl⟩, st', fun b hb => (hf b hb).1⟩⟩
    rw [Int.mul_one]
  done := by
    intro X hP hw hK hc i pins s σ H E I hf st hg
    subst hP hw hK
    obtain ⟨f0, f1, f2, f3, f4, f5⟩ := hf it (by simp)
    exact wpAny_pyNext_range_end (I.ok.hd hc) st (by have : n ≤ i := hg; omega) fun h' eb => ⟨rfl, I.turned (t' := s.toks) (fun b o hb e => eb b o hb e) f0 f1 f3 f4 f5⟩
  self := fun _ _ _ _ _ st h => wpAny_pyIter_rangeiter st h
end L2
namespace L2
open PySem PySem.Spec PyProof.Rows
section
variable {X : Cx} {tg : Expr}
def iList (K : PySem.W.Frag) (tl : TE) : TI := fun σ H R => tl σ H fun x H1 => ∃ a, x = .ref a ∧ (∃ xs, SqL K H1 a xs) ∧ R (Itl K a) H1
theorem pi_list {l : Expr} {tl : TE} (hl : PE X l tl) : PI X tg l (iList X.K tl) := by
  intro pins s σ H R I h
  refine thn (hl pins s σ H _ I h) fun v s1 ⟨x, H1, I1, r1, q1⟩ => ?_
  obtain ⟨a, e, ⟨xs, hq⟩, q⟩ := q1
  subst e
  cases r1
  obtain ⟨its, rv, p, hz⟩ := I1.list hq
  refine wpAny_pyIter_list p.isList ?_
  refine ⟨s1.heap.objs.size, [s1.heap.objs.size], _, _, H1, rfl, I1.kept (t' := s1.toks) fun b o e => Heap.get?_push_of_some _ e, turn_list a _, ⟨_, Heap.get?_push_size _ rfl, rfl, rfl⟩, fun b hb => ?_, q⟩
  have e : b = s1.heap.objs.size := by simpa using hb
  subst e
  exact I1.fpOk (Nat.le_refl _) (I1.hok.fresh (Nat.le_refl _))
theorem range_it {pins : List (Addr × Obj)} {σ : St} {H : Hp} {s : Shared} {R : It → Hp → Prop} {E : Value → Shared → Prop} {lo hi : Int} {t u v : Tok} {tk : Nat} (I : Inv X pins σ H s) (h1 : -(2 ^ 62) ≤ lo) (h2 : lo < 2 ^ 62) (h3 : -(2 ^ 62) ≤ hi) (h4 : hi < 2 ^ 62)
    (q : R (Itr lo (hi - lo).toNat) H) : wpAny (model X.prog X.w) X.A (pyIter (.ref s.heap.objs.size)) (PIE X pins σ tg R) E { s with heap := s.heap.push { cls := .type "range", data := .fields #[.int lo t, .int hi u, .int 1 v] }, toks := tk } := by
  refine wpAny_pyIter_range (IsRange.new ..) (small_one h1 h2 h3 h4) ?_
  have I1 : Inv X pins σ H { s with heap := s.heap.push { cls := .type "range", data := .fields #[.int lo t, .int hi u, .int 1 v] }, toks := tk } := I.kept fun b o e => Heap.get?_push_of_some _ e
  refine ⟨(s.heap.push { cls := .type "range", data := .fields #[.int lo t, .int hi u, .int 1 v] }).objs.size, [(s.heap.push { cls := .type "range", data := .fields #[.int lo t, .int hi u, .int 1 v] }).objs.size], _, _, H, rfl,
    I1.kept (t' := tk) fun b o e => Heap.get?_push_of_some _ e, turn_range _ lo (hi - lo).toNat, ?_, fun b hb => ?_, q⟩
  · have e1 : lo + ((0 : Nat) : Int) * 1 = lo := by simp
    have e2 : (((hi - lo).toNat : Nat) : Int) - ((0 : Nat) : Int) = Builtin.Range.rangeSize lo hi 1 := by rw [rangeSize_one]; split <;> omega
    show IsRangeIter _ _ (lo + ((0 : Nat) : Int) * 1) ((((hi - lo).toNat : Nat) : Int) - ((0 : Nat) : Int)) 1
    rw [e1, e2]
    exact Heap.get?_push_size _ rfl
  · have e : b = (s.heap.push { cls := .type "range", data := .fields #[.int lo t, .int hi u, .int 1 v] }).objs.size := by simpa using hb
    subst e
    exact I1.fpOk (Nat.le_refl _) (I1.hok.fresh (Nat.le_refl _))
def iRng1 (ta : TA) : TI := fun σ H R => ta σ H fun vs H1 => ∃ j : Int, vs = [.int j] ∧ -(2 ^ 62) ≤ j ∧ j < 2 ^ 62 ∧ R (Itr 0 j.toNat) H1
theorem pi_range1 {a : Expr} {ta : TA} {p pos : Pos} (hg : Gl X "range") (hm : X.mg "range" = none) (ha : PA X [a] ta) (hs : starEach [a] X.env = [(false, eval a X.env)] := by rfl) : PI X tg (.Call (.Name "range" p) [a] [] pos) (iRng1 ta) := by
  intro pins s σ H R I h
  refine Call_ (ld_blt I hg hm boot_range (PyProof.Rows.callWith_type1 (thn (ha pos pins s σ H _ I h) fun us s1 ⟨vs, H1, I1, r1, q1⟩ => ?_) hs rfl))
  obtain ⟨j, e, q1, q2, q⟩ := q1
  subst e
  cases r1 with
  | cons r rr =>
    cases rr
    obtain ⟨t, rfl⟩ := r
    exact call_range_1 (range_it I1 (by omega) (by omega) q1 q2 (by simpa using q))
def tFor (wi : TI) (g : TG) (tb : TS) : TS := fun D σ H => wi σ H fun J H1 => ∃ W : Nat → Nat → St → Hp → Prop, (∃ m, W 0 m σ H1) ∧ ∀ i m σ H, W i m σ H →
  (J.stop i H ∧ D.nx σ H) ∨ (J.go i H ∧ ∃ N : St → Hp → Prop, (∀ σ' H', N σ' H' → ∃ m', m' < m ∧ W (i + 1) m' σ' H') ∧ ∀ x H', J.yld i H x H' → g x σ H' fun σ2 H2 => tb { D with nx := N, ct := N, bk := D.nx } σ2 H2)
def pinsAt (fp : List Addr) (h : Heap) : List (Addr × Obj) := fp.filterMap fun b => (h.get? b).map fun o => (b, o)
theorem mem_pinsAt {fp : List Addr} {h : Heap} {b : Addr} {o : Obj} (hb : b ∈ fp) (e : h.get? b = some o) : (b, o) ∈ pinsAt fp h := List.mem_filterMap.mpr ⟨b, hb, by rw [e]; rfl⟩
theorem of_pinsAt {fp : List Addr} {h : Heap} {p : Addr × Obj} (hp : p ∈ pinsAt fp h) : p.1 ∈ fp ∧ h.get? p.1 = some p.2 := by
  obtain ⟨b, hb, e⟩ := List.mem_filterMap.mp hp
  cases q : h.get? b with
  | none => rw [q] at e; cases e
  | some o =>
    rw [q] at e
    have e' : (b, o) = p := Option.some.inj e
    subst e'
    exact ⟨hb, q⟩
theorem Inv.pinned {pins : List (Addr × Obj)} {σ : St} {H : Hp} {s : Shared} {fp : List Addr} (I : Inv X pins σ H s) (hf : ∀ b ∈ fp, FpOk X pins H b) (ho : ∀ b ∈ fp, ∃ o, s.heap.get? b = some o ∧ ∀ v, o.data ≠ .cell v) : Inv X (pins ++ pinsAt fp s.heap) σ H s :=
  I.pins_of fun p hp => (List.mem_append.mp hp).elim (fun z => I.pin p (List.mem_append_right _ z)) fun z => by
    obtain ⟨hb, e⟩ := of_pinsAt z
    obtain ⟨f0, f1, f2, _⟩ := hf p.1 hb
    obtain ⟨o, e', d⟩ := ho p.1 hb
    rw [e] at e'; cases e'
    exact ⟨e, f0, f1, f2, d⟩
theorem Inv.unpinned {pins pl : List (Addr × Obj)} {σ : St} {H : Hp} {s : Shared} (I : Inv X (pins ++ pl) σ H s) : Inv X pins σ H s := I.pins_of fun p hp => I.pin p (List.mem_append_right _ (List.mem_append_left _ hp))
theorem ps_for {iter : Expr} {body : List Stmt} {wi : TI} {g : TG} {tb : TS} {pos : Pos} (hp : PassesOwn (model X.prog X.w) X.A X.env X.xe) (hc : X.calm = true) (hi : PI X tg iter wi) (hg : PG X tg g) (hb : PSs X body tb)
    (hs : ∀ x, foldedSetIterable iter X.env x = pure x := by intro _; rfl) : PS X (.For tg iter body [] pos) (tFor wi g tb) := by
  intro pins s σ H D I h
  refine wpAny_For (thn (hi pins s σ H _ I h) fun v s1 h1 => thn h1 fun itv s2 h2 => ?_) hs
  obtain ⟨it, fp, tn, J, H2, e, I2, T, st2, f2, W, ⟨m0, w0⟩, turn⟩ := h2
  subst e
  have stat : ∀ {H' : Hp}, (∀ b ∈ fp, H' b = none) → ∀ b ∈ fp, FpOk X pins H' b := fun hn b hb => ⟨hn b hb, (f2 b hb).2⟩
  refine codeAny_forLoop_any (fun n s' => ∃ i σ' H', Inv X pins σ' H' s' ∧ tn i s'.heap ∧ (∀ b ∈ fp, H' b = none) ∧ W i n σ' H') ?_ m0 ⟨0, σ, H2, I2, st2, fun b hb => (f2 b hb).1, w0⟩
  rintro n s3 ⟨i, σ3, H3, I3, st3, fr3, w3⟩
  rcases turn i n σ3 H3 w3 with ⟨stop, qn⟩ | ⟨go, N, hN, step⟩
  · refine wpAny_passesOwn hp (thn (T.done X rfl rfl rfl hc i pins s3 σ3 H3 X.xe I3 (stat fr3) st3 stop) fun r s4 ⟨hr, I4⟩ => ?_)
    subst hr
    exact wpAny_execs_nil ⟨σ3, H3, I4, qn⟩
  · refine wpAny_passesOwn hp (thn (T.item X rfl rfl rfl hc i pins s3 σ3 H3 X.xe I3 (stat fr3) st3 go) fun r s4 ⟨u, hr, h4⟩ => ?_)
    subst hr
    refine wpAny_passesOwn hp (thn h4 fun _ s5 ⟨x, H5, I5, r5, y5, st5, fr5⟩ => ?_)
    have I5' := I5.pinned (stat fr5) (T.obj _ _ st5)
    refine wpAny_passesOwn hp (thn (hg _ s5 σ3 H5 x u _ I5' r5 (step x H5 y5)) fun _ s6 ⟨σ6, H6, I6, q6⟩ => ?_)
    refine wpAny_passesOwn hp (thn (hb _ s6 σ6 H6 _ I6 q6) fun f s7 q7 => ?_)
    have again : ∀ {σ7 : St} {H7 : Hp}, Inv X (pins ++ pinsAt fp s5.heap) σ7 H7 s7 → N σ7 H7 → ∃ m, m < n ∧ ∃ i σ' H', Inv X pins σ' H' s7 ∧ tn i s7.heap ∧ (∀ b ∈ fp, H' b = none) ∧ W i m σ' H' := fun {σ7 H7} I7 n7 => by
      obtain ⟨m', hm, w7⟩ := hN σ7 H7 n7
      refine ⟨m', hm, i + 1, σ7, H7, I7.unpinned, T.keep _ _ _ st5 fun b hb o e => (I7.pin (b, o) (List.mem_append_right _ (List.mem_append_right _ (mem_pinsAt hb e)))).1, fun b hb => ?_, w7⟩
      obtain ⟨o, e, d⟩ := T.obj _ _ st5 b hb
      exact (I7.pin (b, o) (List.mem_append_right _ (List.mem_append_right _ (mem_pinsAt hb e)))).2.1
    cases f with
    | next => obtain ⟨σ7, H7, I7, n7⟩ := q7; exact again I7 n7
    | cont => obtain ⟨σ7, H7, I7, n7⟩ := q7; exact again I7 n7
    | brk => obtain ⟨σ7, H7, I7, q7⟩ := q7; exact ⟨σ7, H7, I7.unpinned, q7⟩
    | ret v => obtain ⟨x7, σ7, H7, I7, r7, q7⟩ := q7; exact ⟨x7, σ7, H7, I7.unpinned, r7, q7⟩
end
theorem for_list {K : PySem.W.Frag} {a : Addr} {xs : List V} {g : TG} {tb : TS} {D : Ends} {σ : St} {H : Hp} (Pv : Nat → St → Hp → Prop) (h0 : Pv 0 σ H) (hl : ∀ i σ H, i ≤ xs.length → Pv i σ H → SqL K H a xs)
    (hs : ∀ i x σ H, xs[i]? = some x → Pv i σ H → g x σ H fun σ2 H2 => tb { D with nx := Pv (i + 1), ct := Pv (i + 1), bk := D.nx } σ2 H2) (hd : ∀ σ H, Pv xs.length σ H → D.nx σ H) :
    ∃ W : Nat → Nat → St → Hp → Prop, (∃ m, W 0 m σ H) ∧ ∀ i m σ H, W i m σ H →
      ((Itl K a).stop i H ∧ D.nx σ H) ∨ ((Itl K a).go i H ∧ ∃ N : St → Hp → Prop, (∀ σ' H', N σ' H' → ∃ m', m' < m ∧ W (i + 1) m' σ' H') ∧ ∀ x H', (Itl K a).yld i H x H' → g x σ H' fun σ2 H2 => tb { D with nx := N, ct := N, bk := D.nx } σ2 H2) := by
  refine ⟨fun i m σ H => m = xs.length - i ∧ i ≤ xs.length ∧ Pv i σ H, ⟨xs.length, by simp, Nat.zero_le _, h0⟩, ?_⟩
  rintro i m σ H ⟨rfl, hi, p⟩
  have q := hl i σ H hi p
  by_cases hlt : i < xs.length
  · refine .inr ⟨⟨xs, xs[i], q, by simp [hlt]⟩, Pv (i + 1), fun σ' H' p' => ⟨xs.length - (i + 1), by omega, rfl, hlt, p'⟩, fun x H' y => ?_⟩
    obtain ⟨e, y⟩ := y
    subst e
    exact hs i x σ _ (y xs q) p
  · have e : i = xs.length := by omega
    subst e
    exact .inl ⟨⟨xs, q, Nat.le_refl _⟩, hd σ H p⟩
theorem for_range {lo : Int} {n : Nat} {g : TG} {tb : TS} {D : Ends} {σ : St} {H : Hp} (Pv : Nat → St → Hp → Prop) (h0 : Pv 0 σ H)
    (hs : ∀ i σ H, i < n → Pv i σ H → g (.int (lo + i)) σ H fun σ2 H2 => tb { D with nx := Pv (i + 1), ct := Pv (i + 1), bk := D.nx } σ2 H2) (hd : ∀ σ H, Pv n σ H → D.nx σ H) :
    ∃ W : Nat → Nat → St → Hp → Prop, (∃ m, W 0 m σ H) ∧ ∀ i m σ H, W i m σ H →
      ((Itr lo n).stop i H ∧ D.nx σ H) ∨ ((Itr lo n).go i H ∧ ∃ N : St → Hp → Prop, (∀ σ' H', N σ' H' → ∃ m', m' < m ∧ W (i + 1) m' σ' H') ∧ ∀ x H', (Itr lo n).yld i H x H' → g x σ H' fun σ2 H2 => tb { D with nx := N, ct := N, bk := D.nx } σ2 H2) := by
  refine ⟨fun i m σ H => m = n - i ∧ i ≤ n ∧ Pv i σ H, ⟨n, by simp, Nat.zero_le _, h0⟩, ?_⟩
  rintro i m σ H ⟨rfl, hi, p⟩
  by_cases hlt : i < n
  · refine .inr ⟨hlt, Pv (i + 1), fun σ' H' p' => ⟨n - (i + 1), by omega, rfl, hlt, p'⟩, fun x H' y => ?_⟩
    obtain ⟨e, y⟩ := y
    subst e y
    exact hs i σ _ hlt p
  · have e : i = n := by omega
    subst e
    exact .inl ⟨Nat.le_refl _, hd σ H p⟩
theorem while_by {c : TT} {tb : TS} {D : Ends} {σ : St} {H : Hp} (Pv : St → Hp → Prop) (μ : St → Hp → Nat) (h0 : Pv σ H)
    (hs : ∀ σ H, Pv σ H → c σ H fun b H1 => if b = true then tb { D with nx := fun σ' H' => Pv σ' H' ∧ μ σ' H' < μ σ H, ct := fun σ' H' => Pv σ' H' ∧ μ σ' H' < μ σ H, bk := D.nx } σ H1 else D.nx σ H1)
    (mono : ∀ σ H Q Q', (∀ b H1, Q b H1 → Q' b H1) → c σ H Q → c σ H Q') : tWhile c tb D σ H := by
  refine ⟨fun m σ H => m = μ σ H ∧ Pv σ H, ⟨_, rfl, h0⟩, ?_⟩
  rintro m σ H ⟨rfl, p⟩
  refine mono σ H _ _ (fun b H1 q => ?_) (hs σ H p)
  cases b with
  | true => exact ⟨_, fun σ' H' ⟨p', l⟩ => ⟨_, l, rfl, p'⟩, q⟩
  | false => exact q
end L2
namespace L2
open PySem PySem.Spec PyProof.Rows
abbrev R2 := V → V → Hp → VK → Prop
def OpR (X : Cx) (f : Value → Value → Sem Value) (r : R2) : Prop :=
  ∀ (pins : List (Addr × Obj)) (s : Shared) (σ : St) (H : Hp) (x y : V) (v u : Value) (Q : VK), Inv X pins σ H s → RelV x v → RelV y u → r x y H Q →
    wpAny (model X.prog X.w) X.A (f v u) (EP X pins σ Q) X.xe s
def UnR (X : Cx) (f : Value → Sem Value) (r : V → Hp → VK → Prop) : Prop :=
  ∀ (pins : List (Addr × Obj)) (s : Shared) (σ : St) (H : Hp) (x : V) (v : Value) (Q : VK), Inv X pins σ H s → RelV x v → r x H Q →
    wpAny (model X.prog X.w) X.A (f v) (EP X pins σ Q) X.xe s
def CallR (X : Cx) (f : Value) (r : List V → Hp → VK → Prop) : Prop :=
  ∀ (pins : List (Addr × Obj)) (s : Shared) (σ : St) (H : Hp) (xs : List V) (us : List Value) (Q : VK), Inv X pins σ H s → Vals xs us → r xs H Q →
    wpAny (model X.prog X.w) X.A (call f us) (EP X pins σ Q) X.xe s
def tOp (r : R2) (ta tb : TE) : TE := fun σ H Q => ta σ H fun x H1 => tb σ H1 fun y H2 => r x y H2 Q
def tUn (r : V → Hp → VK → Prop) (ta : TE) : TE := fun σ H Q => ta σ H fun x H1 => r x H1 Q
def rI (C : Int → Int → Prop) (g : Int → Int → V) : R2 := fun x y H Q => ∃ i j, x = .int i ∧ y = .int j ∧ C i j ∧ Q (g i j) H
def rI0 (g : Int → Int → V) : R2 := fun x y H Q => ∃ i j, x = .int i ∧ y = .int j ∧ Q (g i j) H
def rU (g : Int → V) : V → Hp → VK → Prop := fun x H Q => ∃ i, x = .int i ∧ Q (g i) H
section
variable {X : Cx} {a b c : Expr} {ta tb tc : TE} {pos : Pos}
theorem binT (ha : PE X a ta) (hb : PE X b tb) {pins : List (Addr × Obj)} {s : Shared} {σ : St} {H : Hp} {R : V → V → Hp → Prop} (I : Inv X pins σ H s)
    (h : ta σ H fun x H1 => tb σ H1 fun y H2 => R x y H2) {Q : Value → Shared → Prop} {f : Value → Value → Sem Value}
    (hf : ∀ v u s2 x y H2, Inv X pins σ H2 s2 → RelV x v → RelV y u → R x y H2 → wpAny (model X.prog X.w) X.A (f v u) Q X.xe s2) :
    wpAny (model X.prog X.w) X.A (eval a X.env) (fun v s₁ => wpAny (model X.prog X.w) X.A (eval b X.env) (fun u s₂ => wpAny (model X.prog X.w) X.A (f v u) Q X.xe s₂) X.xe s₁) X.xe s := by
  refine thn (ha pins s σ H _ I h) fun v s1 ⟨x, H1, I1, r1, q1⟩ => ?_
  refine thn (hb pins s1 σ H1 _ I1 q1) fun u s2 ⟨y, H2, I2, r2, q2⟩ => ?_
  exact hf v u s2 x y H2 I2 r1 r2 q2
theorem pe_op {op : Operator} {r : R2} (ho : OpR X (binaryOp op) r) (ha : PE X a ta) (hb : PE X b tb) : PE X (.BinOp a op b pos) (tOp r ta tb) := by
  intro pins s σ H Q I h
  exact wpAny_BinOp (binT ha hb I h fun v u s2 x y H2 I2 rx ry q => ho pins s2 σ H2 x y v u Q I2 rx ry q)
theorem pe_un {op : UnaryOp} {r : V → Hp → VK → Prop} (ho : UnR X (unaryOp op) r) (ha : PE X a ta) : PE X (.UnaryOp op a pos) (tUn r ta) := by
  intro pins s σ H Q I h
  exact UnaryOp_ (thn (ha pins s σ H _ I h) fun v s1 ⟨x, H1, I1, r1, q1⟩ => ho pins s1 σ H1 x v Q I1 r1 q1)
theorem opI {f : Value → Value → Sem Value} {C : Int → Int → Prop} {g : Int → Int → Int}
    (rule : ∀ (i j : Int) (t u : Tok) (s : Shared) (Q : Value → Shared → Prop) (E : Value → Shared → Prop), C i j → Q (.int (g i j) s.toks) { s with toks := s.toks + 1 } → wpAny (model X.prog X.w) X.A (f (.int i t) (.int j u)) Q E s) :
    OpR X f (rI C fun i j => .int (g i j)) := by
  intro pins s σ H x y v u Q I rx ry h
  obtain ⟨i, j, rfl, rfl, hc, q⟩ := h
  obtain ⟨t, rfl⟩ := rx
  obtain ⟨t', rfl⟩ := ry
  exact rule i j t t' s _ _ hc ⟨.int (g i j), H, I.tok _, ⟨_, rfl⟩, q⟩
theorem opI0 {f : Value → Value → Sem Value} {g : Int → Int → Int}
    (rule : ∀ (i j : Int) (t u : Tok) (s : Shared) (Q : Value → Shared → Prop) (E : Value → Shared → Prop), Q (.int (g i j) s.toks) { s with toks := s.toks + 1 } → wpAny (model X.prog X.w) X.A (f (.int i t) (.int j u)) Q E s) :
    OpR X f (rI0 fun i j => .int (g i j)) := by
  intro pins s σ H x y v u Q I rx ry h
  obtain ⟨i, j, rfl, rfl, q⟩ := h
  obtain ⟨t, rfl⟩ := rx
  obtain ⟨t', rfl⟩ := ry
  exact rule i j t t' s _ _ ⟨.int (g i j), H, I.tok _, ⟨_, rfl⟩, q⟩
theorem opB0 {f : Value → Value → Sem Value} {g : Int → Int → Bool}
    (rule : ∀ (i j : Int) (t u : Tok) (s : Shared) (Q : Value → Shared → Prop) (E : Value → Shared → Prop), Q (.bool (g i j)) s → wpAny (model X.prog X.w) X.A (f (.int i t) (.int j u)) Q E s) :
    OpR X f (rI0 fun i j => .bl (g i j)) := by
  intro pins s σ H x y v u Q I rx ry h
  obtain ⟨i, j, rfl, rfl, q⟩ := h
  obtain ⟨t, rfl⟩ := rx
  obtain ⟨t', rfl⟩ := ry
  exact rule i j t t' s _ _ ⟨.bl (g i j), H, I, rfl, q⟩
def CPow (i j : Int) : Prop := 0 ≤ j ∧ j ≤ 1000000 ∧ i.natAbs < 2 ^ 64
def CMul (i j : Int) : Prop := (-(2 ^ 64) < i ∧ i < 2 ^ 64) ∨ (-(2 ^ 64) < j ∧ j < 2 ^ 64)
theorem CMul.ok {i j : Int} (h : CMul i j) : IntMulOk i j := by
  rcases h with ⟨h1, h2⟩ | ⟨h1, h2⟩
  · exact .of_left (intBits_le_64 h1 h2)
  · exact .of_right (intBits_le_64 h1 h2)
theorem op_add : OpR X (binaryOp .Add) (rI0 fun i j => .int (i + j)) := opI0 fun _ _ _ _ _ _ _ q => add_int q
theorem op_sub : OpR X (binaryOp .Sub) (rI0 fun i j => .int (i - j)) := opI0 fun _ _ _ _ _ _ _ q => sub_int q
theorem op_mul : OpR X (binaryOp .Mult) (rI CMul fun i j => .int (i * j)) := opI fun _ _ _ _ _ _ _ hc q => mul_int q hc.ok
theorem op_mod : OpR X (binaryOp .Mod) (rI (fun _ j => 0 < j) fun i j => .int (i % j)) := opI fun i j _ _ _ _ _ hc q => by
  have h1 : (0 : Int) < j := hc
  exact mod_int' (by omega) (by rw [Int.fmod_eq_emod_of_nonneg i (by omega)]; exact q)
theorem op_pow : OpR X (binaryOp .Pow) (rI CPow fun i j => .int (i ^ j.toNat)) := opI fun _ _ _ _ _ _ _ hc q => pow_int_small hc.1 hc.2.1 hc.2.2 q
theorem unI {f : Value → Sem Value} {g : Int → Int}
    (rule : ∀ (i : Int) (t : Tok) (s : Shared) (Q : Value → Shared → Prop) (E : Value → Shared → Prop), Q (.int (g i) s.toks) { s with toks := s.toks + 1 } → wpAny (model X.prog X.w) X.A (f (.int i t)) Q E s) :
    UnR X f (rU fun i => .int (g i)) := by
  intro pins s σ H x v Q I rx h
  obtain ⟨i, rfl, q⟩ := h
  obtain ⟨t, rfl⟩ := rx
  exact rule i t s _ _ ⟨.int (g i), H, I.tok _, ⟨_, rfl⟩, q⟩
theorem un_neg : UnR X (unaryOp .USub) (rU fun i => .int (-i)) := unI fun _ _ _ _ _ q => neg_int q
end
def scal : V → V → Bool
  | .non, .non => true | .non, .int _ => true | .int _, .non => true | .non, .bl _ => true | .bl _, .non => true | .non, .str _ => true | .str _, .non => true
  | .int _, .int _ => true | .bl _, .bl _ => true | .str _, .str _ => true | .byt _, .byt _ => true
  | .int _, .str _ => true | .str _, .int _ => true | .bl _, .str _ => true | .str _, .bl _ => true
  | _, _ => false
def rEq : R2 := fun x y H Q => scal x y = true ∧ Q (.bl (decide (x = y))) H
def rNe : R2 := fun x y H Q => scal x y = true ∧ Q (.bl (!decide (x = y))) H
theorem dec_int {i j : Int} : decide (V.int i = V.int j) = (i == j) := by
  rw [Bool.eq_iff_iff]
  simp
theorem dec_bl {i j : Bool} : decide (V.bl i = V.bl j) = (i == j) := by
  rw [Bool.eq_iff_iff]
  simp
theorem dec_str {i j : Str} : decide (V.str i = V.str j) = (i == j) := by
  rw [Bool.eq_iff_iff]
  simp
theorem dec_byt {i j : Array UInt8} : decide (V.byt i = V.byt j) = (i.toList == j.toList) := by
  rw [Bool.eq_iff_iff]
  cases i
  cases j
  simp
section
variable {X : Cx} {a b c : Expr} {ta tb tc : TE} {pos : Pos}
theorem fin_bl {pins : List (Addr × Obj)} {σ : St} {H : Hp} {s : Shared} {Q : VK} {k k' : Bool} (I : Inv X pins σ H s) (q : Q (.bl k) H) (e : k = k') : EP X pins σ Q (.bool k') s := by
  subst e
  exact ⟨.bl k, H, I, rfl, q⟩
theorem op_eq : OpR X (compareOp .Eq) rEq := by
  intro pins s σ H x y v u Q I rx ry h
  obtain ⟨hs, q⟩ := h
  cases x with
  | non =>
    cases rx
    cases y with
    | non => cases ry; exact PySem.EqNone.eq_none_none (fin_bl I q (by simp))
    | bl j => cases ry; exact PySem.EqNone.eq_none_bool (fin_bl I q (by simp))
    | int j => obtain ⟨t', rfl⟩ := ry; exact PySem.EqNone.eq_none_int (fin_bl I q (by simp))
    | str j => obtain ⟨t', rfl⟩ := ry; exact PySem.EqNone.eq_none_str (fin_bl I q (by simp))
    | _ => exact absurd (show false = true from hs) Bool.false_ne_true
  | bl i =>
    cases rx
    cases y with
    | non => cases ry; exact PySem.EqNone.eq_bool_none (fin_bl I q (by simp))
    | bl j => cases ry; exact eq_bool (fin_bl I q dec_bl)
    | str j => obtain ⟨t', rfl⟩ := ry; exact PySem.EqMixed.eq_bool_str (fin_bl I q (by simp))
    | _ => exact absurd (show false = true from hs) Bool.false_ne_true
  | int i =>
    obtain ⟨t, rfl⟩ := rx
    cases y with
    | non => cases ry; exact PySem.EqNone.eq_int_none (fin_bl I q (by simp))
    | int j => obtain ⟨t', rfl⟩ := ry; exact eq_int (fin_bl I q dec_int)
    | str j => obtain ⟨t', rfl⟩ := ry; exact PySem.EqMixed.eq_int_str (fin_bl I q (by simp))
    | _ => exact absurd (show false = true from hs) Bool.false_ne_true
  | str i =>
    obtain ⟨t, rfl⟩ := rx
    cases y with
    | non => cases ry; exact PySem.EqNone.eq_str_none (fin_bl I q (by simp))
    | bl j => cases ry; exact PySem.EqMixed.eq_str_bool (fin_bl I q (by simp))
    | int j => obtain ⟨t', rfl⟩ := ry; exact PySem.EqMixed.eq_str_int (fin_bl I q (by simp))
    | str j => obtain ⟨t', rfl⟩ := ry; exact eq_str (fin_bl I q dec_str)
    | _ => exact absurd (show false = true from hs) Bool.false_ne_true
  | byt i =>
    obtain ⟨t, rfl⟩ := rx
    cases y with
    | byt j => obtain ⟨t', rfl⟩ := ry; exact PySem.W.eq_bytes (fin_bl I q dec_byt)
    | _ => exact absurd (show false = true from hs) Bool.false_ne_true
  | _ => cases y <;> exact absurd (show false = true from hs) Bool.false_ne_true
theorem op_ne : OpR X (compareOp .NotEq) rNe := by
  intro pins s σ H x y v u Q I rx ry h
  obtain ⟨hs, q⟩ := h
  cases x with
  | non =>
    cases rx
    cases y with
    | non => cases ry; exact PySem.EqNone.ne_none_none (fin_bl I q (by simp))
    | bl j => cases ry; exact PySem.EqNone.ne_none_bool (fin_bl I q (by simp))
    | int j => obtain ⟨t', rfl⟩ := ry; exact PySem.EqNone.ne_none_int (fin_bl I q (by simp))
    | str j => obtain ⟨t', rfl⟩ := ry; exact PySem.EqNone.ne_none_str (fin_bl I q (by simp))
    | _ => exact absurd (show false = true from hs) Bool.false_ne_true
  | bl i =>
    cases rx
    cases y with
    | non => cases ry; exact PySem.EqNone.ne_bool_none (fin_bl I q (by simp))
    | bl j => cases ry; exact ne_bool (fin_bl I q (congrArg not dec_bl))
    | str j => obtain ⟨t', rfl⟩ := ry; exact PySem.EqMixed.ne_bool_str (fin_bl I q (by simp))
    | _ => exact absurd (show false = true from hs) Bool.false_ne_true
  | int i =>
    obtain ⟨t, rfl⟩ := rx
    cases y with
    | non => cases ry; exact PySem.EqNone.ne_int_none (fin_bl I q (by simp))
    | int j => obtain ⟨t', rfl⟩ := ry; exact ne_int (fin_bl I q (congrArg not dec_int))
    | str j => obtain ⟨t', rfl⟩ := ry; exact PySem.EqMixed.ne_int_str (fin_bl I q (by simp))
    | _ => exact absurd (show false = true from hs) Bool.false_ne_true
  | str i =>
    obtain ⟨t, rfl⟩ := rx
    cases y with
    | non => cases ry; exact PySem.EqNone.ne_str_none (fin_bl I q (by simp))
    | bl j => cases ry; exact PySem.EqMixed.ne_str_bool (fin_bl I q (by simp))
    | int j => obtain ⟨t', rfl⟩ := ry; exact PySem.EqMixed.ne_str_int (fin_bl I q (by simp))
    | str j => obtain ⟨t', rfl⟩ := ry; exact ne_str (fin_bl I q (congrArg not dec_str))
    | _ => exact absurd (show false = true from hs) Bool.false_ne_true
  | byt i =>
    obtain ⟨t, rfl⟩ := rx
    cases y with
    | byt j => obtain ⟨t', rfl⟩ := ry; exact PySem.W.ne_bytes (fin_bl I q (congrArg not dec_byt))
    | _ => exact absurd (show false = true from hs) Bool.false_ne_true
  | _ => cases y <;> exact absurd (show false = true from hs) Bool.false_ne_true
theorem op_lt : OpR X (compareOp .Lt) (rI0 fun i j => .bl (decide (i < j))) := opB0 fun _ _ _ _ _ _ _ q => lt_int q
theorem op_gt : OpR X (compareOp .Gt) (rI0 fun i j => .bl (decide (j < i))) := opB0 fun _ _ _ _ _ _ _ q => gt_int q
theorem op_ge : OpR X (compareOp .GtE) (rI0 fun i j => .bl (decide (j ≤ i))) := opB0 fun _ _ _ _ _ _ _ q => ge_int q
theorem op_isN : OpR X (compareOp .Is) (fun x y H Q => y = .non ∧ Q (.bl (decide (x = .non))) H) := by
  intro pins s σ H x y v u Q I rx ry h
  obtain ⟨rfl, q⟩ := h
  cases ry
  refine is_none_gen (fin_bl I q ?_)
  cases x <;> first
    | (cases rx; rfl)
    | (obtain ⟨t, rfl⟩ := rx; rfl)
theorem nomark (b : Expr) {op : CmpOp} (h : op ≠ .In := by decide) (h2 : op ≠ .NotIn := by decide) : behindInMarks op b = false := by
  have e1 : (op == CmpOp.In) = false := by cases op <;> first | rfl | exact absurd rfl h
  have e2 : (op == CmpOp.NotIn) = false := by cases op <;> first | rfl | exact absurd rfl h2
  cases b <;> simp [behindInMarks, e1, e2]
theorem pe_cmpR {op : CmpOp} {r : R2} (ho : OpR X (compareOp op) r) (ha : PE X a ta) (hb : PE X b tb) (hm : behindInMarks op b = false) : PE X (.Compare a [op] [b] pos) (tOp r ta tb) := by
  intro pins s σ H Q I h
  exact wpAny_Compare1 (binT ha hb I h fun v u s2 x y H2 I2 rx ry q => ho pins s2 σ H2 x y v u Q I2 rx ry q) hm
def tTest (t : TE) : TT := fun σ H Q => t σ H fun x H' => ∃ k, x = .bl k ∧ Q k H'
theorem pt_cmpR {op : CmpOp} {r : R2} (ho : OpR X (compareOp op) r) (ha : PE X a ta) (hb : PE X b tb) (hm : behindInMarks op b = false) : PT X (.Compare a [op] [b] pos) (tTest (tOp r ta tb)) := by
  intro pins s σ H Q I h
  refine wpAny_isTrue_Compare1 (thn (ha pins s σ H _ I h) fun v s1 ⟨x, H1, I1, r1, q1⟩ => thn (hb pins s1 σ H1 _ I1 q1) fun u s2 ⟨y, H2, I2, r2, q2⟩ =>
    thn (ho pins s2 σ H2 x y v u _ I2 r1 r2 q2) fun c s3 ⟨z, H3, I3, r3, k, e, q3⟩ => ?_) hm
  subst e
  cases r3
  exact wpAny_truthy_bool ⟨H3, I3, q3⟩
theorem line63 : (sizeLine : Nat) < 2 ^ 63 := by rw [sizeLine_eq]; decide
theorem op_add_str : OpR X (binaryOp .Add) (fun x y H Q => ∃ i j, x = .str i ∧ y = .str j ∧ i.length + j.length ≤ sizeLine ∧ Q (.str (i ++ j)) H) := by
  intro pins s σ H x y v u Q I rx ry h
  obtain ⟨i, j, rfl, rfl, hz, q⟩ := h
  obtain ⟨t, rfl⟩ := rx
  obtain ⟨t', rfl⟩ := ry
  exact add_str (fun t' tk => ⟨.str (i ++ j), H, I.tok _, ⟨_, rfl⟩, q⟩) hz
theorem vals1 {x : V} {us : List Value} (r : Vals [x] us) : ∃ u, us = [u] ∧ RelV x u := by
  cases r with
  | cons r1 r2 => cases r2; exact ⟨_, rfl, r1⟩
theorem vals2 {x y : V} {us : List Value} (r : Vals [x, y] us) : ∃ u w', us = [u, w'] ∧ RelV x u ∧ RelV y w' := by
  cases r with
  | cons r1 r2 =>
    cases r2 with
    | cons r3 r4 => cases r4; exact ⟨_, _, rfl, r1, r3⟩
theorem call_max2 (hc : X.calm = true) : CallR X (.builtin "max") (fun xs H Q => ∃ i j, xs = [.int i, .int j] ∧ Q (.int (if j > i then j else i)) H) := by
  intro pins s σ H xs us Q I r h
  obtain ⟨i, j, rfl, q⟩ := h
  obtain ⟨u, w', rfl, ⟨t, rfl⟩, ⟨t', rfl⟩⟩ := vals2 r
  refine max_two_ints (I.ok.hd hc) fun h' tk k => ⟨_, H, I.kept k, ?_, q⟩
  by_cases hj : j > i
  · rw [if_pos hj, if_pos hj]; exact ⟨_, rfl⟩
  · rw [if_neg hj, if_neg hj]; exact ⟨_, rfl⟩
theorem call_min2 (hc : X.calm = true) : CallR X (.builtin "min") (fun xs H Q => ∃ i j, xs = [.int i, .int j] ∧ Q (.int (if j < i then j else i)) H) := by
  intro pins s σ H xs us Q I r h
  obtain ⟨i, j, rfl, q⟩ := h
  obtain ⟨u, w', rfl, ⟨t, rfl⟩, ⟨t', rfl⟩⟩ := vals2 r
  refine min_two_ints (I.ok.hd hc) fun h' tk k => ⟨_, H, I.kept k, ?_, q⟩
  by_cases hj : j < i
  · rw [if_pos hj, if_pos hj]; exact ⟨_, rfl⟩
  · rw [if_neg hj, if_neg hj]; exact ⟨_, rfl⟩
theorem call_str_int : CallR X (.type "str") (fun xs H Q => ∃ i, xs = [.int i] ∧ i.natAbs.log2 < 1920 ∧ Q (.str (toString i)) H) := by
  intro pins s σ H xs us Q I r h
  obtain ⟨i, rfl, hz, q⟩ := h
  obtain ⟨u, rfl, t, rfl⟩ := vals1 r
  exact PySem.P.str_of_int hz ⟨.str _, H, I.tok _, ⟨_, rfl⟩, q⟩
end
end L2
namespace L2
open PySem PySem.Spec PyProof.Rows
structure ObjM (h : Heap) (x dx C : Addr) (mA : Str → Option Value) : Prop where
  obj : h.get? x = some (PySem.W.instObj C dx)
  ns : h.Ns1 dx mA
  ne : dx ≠ x
theorem lookIn_ns {h : Heap} {dx : Addr} {mA : Str → Option Value} (n : h.Ns1 dx mA) : ∃ od, h.get? dx = some od ∧ ∀ name, PySem.W.lookIn name od = some (mA name) := by
  obtain ⟨o, es, ep, ho, hd, hk, _, hm⟩ := n
  refine ⟨o, ho, fun name => ?_⟩
  have e := hm name
  unfold nsFind findBy at e
  rw [← Array.find?_toList] at e
  unfold PySem.W.lookIn
  rw [hd]
  dsimp only
  split
  · rename_i y q
    rw [q] at e
    exact congrArg some e
  · rename_i q
    rw [q] at e
    have a : es.toList.any (·.refKey) = false := by
      rw [List.any_eq_false]
      intro y hy
      obtain ⟨z, t, hkey⟩ := hk y (Array.mem_toList_iff.mp hy)
      simp [DictEntry.refKey, hkey]
    have a' : ¬ es.toList.any (·.refKey) = true := by rw [a]; exact Bool.false_ne_true
    rw [if_neg a']
    exact congrArg some e
theorem ObjM.look {h : Heap} {x dx C : Addr} {mA : Str → Option Value} (I : ObjM h x dx C mA) : ∃ od, PySem.W.InstAt h x (PySem.W.instObj C dx) C (some od) ∧ ∀ name, PySem.W.lookIn name od = some (mA name) :=
  let ⟨od, ho, hl⟩ := lookIn_ns I.ns
  ⟨od, ⟨I.obj, rfl, rfl, ho⟩, hl⟩
section
variable {prog : Program} {w : World} {A : Around} {E : Value → Shared → Prop} {s : Shared} {K : PySem.W.Frag} {x dx C f : Addr} {mA : Str → Option Value} {name : Str} {v : Value}
end
section
variable {P : Program} {w : World} {H H' : Hp} {h h' : Heap} {a C dx : Addr} {fs fs' : List (Str × V)}
theorem ins_get (hok : HOk P w H h) (e : H a = some (.ins C dx fs)) : ∃ mA, ObjM h a dx C mA ∧ (∀ f, RelO (fs.lookup f) (mA f)) ∧ PySem.Within mA (fs.map (·.1)) ∧ fs.length ≤ 1000 ∧ H dx = some (.own a) := by
  obtain ⟨d, z, ne, ob, mA, n, r, q⟩ := (show ObjOk P w H h a (.ins C dx fs) from hok a _ e)
  exact ⟨mA, ⟨ob, n, ne⟩, r, q, z, d⟩
end
structure Cls (K : PySem.W.Frag) (C : Addr) : Prop where
  pg : PySem.W.plainGet K C Str.empty = true
  hd : PySem.W.hasDictIn K C = true
  po : PySem.W.plainOver K C = true
  sa : PySem.W.findIn K (.ref C) "__setattr__" = some (some (.builtin "object.__setattr__"))
theorem Cls.get {K : PySem.W.Frag} {C : Addr} (c : Cls K C) (f : Str) : PySem.W.plainGet K C f = true := c.pg
section
variable {X : Cx} {pins : List (Addr × Obj)} {σ : St} {H : Hp} {s : Shared} {a C dx : Addr} {fs : List (Str × V)} {f : Str} {v : V} {A : Around} {E : Value → Shared → Prop}
end
section
variable {X : Cx} {o e value : Expr} {f : Str} {pos pos' tpos : Pos} {ta tv : TE}
end
section
variable {X : Cx} {pins : List (Addr × Obj)} {σ : St} {H : Hp} {s : Shared} {A : Around} {E : Value → Shared → Prop} {Q : Value → Shared → Prop} {c : Value} {b : Bool}
inductive TyOf (K : PySem.W.Frag) (H : Hp) : V → Value → Prop where
  | non : TyOf K H .non (.type "NoneType")
  | bl (x : Bool) : TyOf K H (.bl x) (.type "bool")
  | int (i : Int) : TyOf K H (.int i) (.type "int")
  | str (x : Str) : TyOf K H (.str x) (.type "str")
  | flt (x : UInt64) : TyOf K H (.flt x) (.type "float")
  | lst {a : Addr} {xs : List V} (e : H a = some (.lst xs)) : TyOf K H (.ref a) (.type "list")
  | frz {a : Addr} {o : Obj} {xs : List V} (e : H a = some (.frz o (.lst xs))) : TyOf K H (.ref a) (.type "list")
  | tup {a : Addr} {xs : List V} (e : H a = some (.tup xs)) : TyOf K H (.ref a) (.type "tuple")
  | dK {a : Addr} {kvs : List (Key × V)} (e : H a = some (.dK kvs)) : TyOf K H (.ref a) (.type "dict")
  | dT {a : Addr} {kvs : List (List Key × V)} (e : H a = some (.dT kvs)) : TyOf K H (.ref a) (.type "dict")
  | ins {a C dx : Addr} {fs : List (Str × V)} (e : H a = some (.ins C dx fs)) (cl : Cls K C) (ha : PySem.W.findIn K (.ref C) "__class__" = some (some (.builtin "object.__class__")))
      (hn : PySem.W.specialIn K (.builtin "object.__class__") "__get__" = some (some (.builtin "getset_descriptor.__get__"))) (htk : PySem.W.takesIn K (.builtin "object.__class__") = some true)
      (hm : PySem.W.mroIn K C (.type "object") = some true) : TyOf K H (.ref a) (.ref C)
theorem isinst_ok {x : V} {u t : Value} (I : Inv X pins σ H s) (rx : RelV x u) (ty : TyOf X.K H x t) (e : PySem.W.kitOne X.K t c = some b) (h : ∀ tk, Q (.bool b) { s with toks := tk }) :
    wpAny (model X.prog X.w) A (call (.builtin "isinstance") [u, c]) Q E s := by
  cases ty with
  | non => cases (show u = Value.none from rx); exact PySem.W.kia_one PySem.W.kitx_none I.kIn True.intro e (fun z => nomatch z) h
  | bl y => cases (show u = Value.bool y from rx); exact PySem.W.kia_one PySem.W.kitx_bool I.kIn True.intro e (fun z => nomatch z) h
  | int i => obtain ⟨t, q⟩ := (show ∃ t, u = Value.int i t from rx); cases q; exact PySem.W.kia_one PySem.W.kitx_int I.kIn True.intro e (fun z => nomatch z) h
  | str y => obtain ⟨t, q⟩ := (show ∃ t, u = Value.str y t from rx); cases q; exact PySem.W.kia_one PySem.W.kitx_str I.kIn True.intro e (fun z => nomatch z) h
  | flt y => obtain ⟨t, q⟩ := (show ∃ t, u = Value.float y t from rx); cases q; exact PySem.W.kia_one PySem.W.kitx_float I.kIn True.intro e (fun z => nomatch z) h
  | @lst a xs ea =>
    cases (show u = Value.ref a from rx)
    obtain ⟨_, _, n, _, h1⟩ := (show ObjOk X.prog X.w H s.heap a (.lst xs) from I.hok a _ ea)
    exact PySem.W.kia_one PySem.W.kitx_list I.kIn ⟨_, h1, rfl⟩ e (fun z => nomatch z) h
  | @frz a ob xs ea =>
    cases (show u = Value.ref a from rx)
    obtain ⟨_, _, _, n, _, h1⟩ := (show ObjOk X.prog X.w H s.heap a (.frz ob (.lst xs)) from I.hok a _ ea)
    exact PySem.W.kia_one PySem.W.kitx_list I.kIn ⟨_, h1, rfl⟩ e (fun z => nomatch z) h
  | @tup a xs ea =>
    cases (show u = Value.ref a from rx)
    obtain ⟨_, _, _, p⟩ := (show ObjOk X.prog X.w H s.heap a (.tup xs) from I.hok a _ ea)
    obtain ⟨o, h1, h2, _⟩ := p
    exact PySem.W.kia_one PySem.W.kitx_tuple I.kIn ⟨o, h1, h2⟩ e (fun z => nomatch z) h
  | @dK a kvs ea =>
    cases (show u = Value.ref a from rx)
    obtain ⟨_, _, vs, _, p⟩ := (show ObjOk X.prog X.w H s.heap a (.dK kvs) from I.hok a _ ea)
    obtain ⟨o, es, ep, h1, h2, _⟩ := p
    exact PySem.W.kia_one PySem.W.kitx_dict I.kIn ⟨o, h1, h2.1⟩ e (fun z => nomatch z) h
  | @dT a kvs ea =>
    cases (show u = Value.ref a from rx)
    obtain ⟨_, _, xs, _, o, es, ep, h1, h2, _⟩ := (show ObjOk X.prog X.w H s.heap a (.dT kvs) from I.hok a _ ea)
    exact PySem.W.kia_one PySem.W.kitx_dict I.kIn ⟨o, h1, h2.1⟩ e (fun z => nomatch z) h
  | @ins a C dx fs ea cl ha hn htk hm =>
    cases (show u = Value.ref a from rx)
    obtain ⟨mA, O, _⟩ := ins_get I.hok ea
    obtain ⟨od, J, _⟩ := O.look
    exact PySem.W.kia_one (PySem.W.kitx_own (cl.get _) cl.hd ha hn htk hm) I.kIn J e (fun z => nomatch z) h
end
end L2
namespace L2
open PySem PySem.Spec PyProof.Rows
structure Room (k : Nat) (A : Around) : Prop where
  hd : A.handled = none
  dp : A.depth + 3 * k + 5 < recursionLimit
  un : A.units + 16 * k + 200 < cLine
  gd : A.guards = some []
theorem Room.mono {j k : Nat} {A : Around} (r : Room k A) (h : j ≤ k) : Room j A := ⟨r.hd, by have := r.dp; omega, by have := r.un; omega, r.gd⟩
theorem Room.deeper {k : Nat} {A : Around} (r : Room (k + 1) A) (env : Env) : Room k (A.deeper env) :=
  ⟨r.hd, by have := r.dp; show A.depth + 1 + 3 * k + 5 < _; omega, by have := r.un; show A.units + 3 + 16 * k + 200 < _; omega, r.gd⟩
theorem Room.depth {k : Nat} {A : Around} (r : Room k A) : A.depth < recursionLimit := by have := r.dp; omega
theorem Room.units {k : Nat} {A : Around} (r : Room k A) : A.units + 64 < cLine := by have := r.un; omega
def tNil : TA := fun _ H Q => Q [] H
def tCons (ta : TE) (tr : TA) : TA := fun σ H Q => ta σ H fun x H1 => tr σ H1 fun xs H2 => Q (x :: xs) H2
section
variable {X : Cx} {e : Expr} {es : List Expr} {te : TE} {t : TA} {pos : Pos}
theorem pa_nil : PA X [] tNil := fun _ _ _ _ H Q I h => Calls.spliced_nil ⟨[], H, I, .nil, h⟩
theorem pa_cons (ha : PE X e te) (hr : PA X es t) (hs : starEach (e :: es) X.env = (false, eval e X.env) :: starEach es X.env := by rfl) : PA X (e :: es) (tCons te t) := by
  intro pos pins s σ H Q I h
  rw [hs]
  show wpAny _ _ (spliced ((false, eval e X.env) :: backTo pos (starEach es X.env))) _ _ s
  refine Calls.spliced_cons (thn (ha pins s σ H _ I h) fun u s1 ⟨x, H1, I1, r1, q1⟩ => ?_)
  exact thn (hr pos pins s1 σ H1 _ I1 q1) fun us s2 ⟨xs, H2, I2, r2, q2⟩ => ⟨x :: xs, H2, I2, .cons r1 r2, q2⟩
def tLst (t : TA) : TE := fun σ H Q => t σ H fun xs H1 => xs.length ≤ sizeLine ∧ ∀ p, H1 p = none → Q (.ref p) (upd H1 p (.lst xs))
theorem pe_lst (h : PA X es t) : PE X (.List es pos) (tLst t) := by
  intro pins s σ H Q I hq
  refine wpAny_List_spliced (thn (h pos pins s σ H _ I hq) fun us s1 ⟨xs, H1, I1, r, z, q⟩ => ⟨by rw [← r.length]; exact z, ?_⟩)
  have hf : H1 s1.heap.objs.size = none := I1.hok.fresh (Nat.le_refl _)
  refine ⟨.ref s1.heap.objs.size, upd H1 s1.heap.objs.size (.lst xs), I1.laid (t' := s1.toks) (fun b u e => Heap.get?_push_of_some _ e) (Nat.le_refl _) ?_, rfl, q _ hf⟩
  exact ⟨z, us, 0, r, Heap.get?_push_size _ rfl⟩
end
abbrev Sp := List V → Hp → VK → XK → Prop
abbrev CXT := List Env → Hp → Shared → XK → Value → Shared → Prop
structure Env0 (P : Program) (w : World) (K : PySem.W.Frag) (mg : Str → Option Value) (base : Heap) (A : Around) (outer : List Env) (s : Shared) (H : Hp) : Prop where
  frames : A.frames = some outer
  mod : Mod K mg base
  bs : ∀ b o, base.get? b = some o → s.heap.get? b = some o ∧ H b = none
  bsz : base.objs.size ≤ s.heap.objs.size
  funs : s.heap.FunFrames base outer
  frf : ∀ b ∈ frs outer, H b = none
  hok : HOk P w H s.heap
  bare : AllBare s.gens
def CE (outer : List Env) (P : Program) (w : World) (H : Hp) (s : Shared) (Q : VK) (u : Value) (s' : Shared) : Prop :=
  ∃ v H', s'.os = s.os ∧ AllBare s'.gens ∧ Un (frs outer) [] H H' s.heap s'.heap ∧ HOk P w H' s'.heap ∧ RelV v u ∧ Q v H'
def CR (CX : CXT) (outer : List Env) (P : Program) (w : World) (H : Hp) (s : Shared) (Q : VK) (E : XK) (r : Result) (s' : Shared) : Prop :=
  match r with
  | .ok (.ret u) => CE outer P w H s Q u s'
  | .ok _ => False
  | .error e => CX outer H s E e s'
structure FnOk (P : Program) (w : World) (K : PySem.W.Frag) (mg : Str → Option Value) (base : Heap) (CX : CXT) (k : Nat) (f : Addr) (fd : FuncData) (ps : List Str) (sp : Sp) : Prop where
  len : ∀ vs H Q E, sp vs H Q E → vs.length = ps.length
  run : ∀ (A : Around) (outer : List Env) (s : Shared) (H : Hp) (args : Args) (us : List Value) (vs : List V) (Q : VK) (E : XK), Room k A → Env0 P w K mg base A outer s H → BindsTo s fd args (ps.zip us) → Vals vs us → sp vs H Q E →
    codeAny (model P w) A (.call (.ref f) args) (CR CX outer P w H s Q E) s
theorem FnOk.mono {P : Program} {w : World} {K : PySem.W.Frag} {mg : Str → Option Value} {base : Heap} {CX : CXT} {j k : Nat} {f : Addr} {fd : FuncData} {ps : List Str} {sp : Sp} (F : FnOk P w K mg base CX j f fd ps sp) (h : j ≤ k) :
    FnOk P w K mg base CX k f fd ps sp := ⟨F.len, fun A outer s H args us vs Q E hr => F.run A outer s H args us vs Q E (hr.mono h)⟩
section
variable {X : Cx} {pins : List (Addr × Obj)} {σ : St} {H : Hp} {s s' : Shared}
theorem Inv.env0 (I : Inv X pins σ H s) : Env0 X.prog X.w X.K X.mg X.base X.A X.stack s H :=
  ⟨I.ok.frames, I.ok.mod, I.bs, Nat.le_trans I.ok.bsz I.sz, I.stack, I.stkFree, I.hok, I.bare⟩
theorem Inv.after {Q : VK} {u : Value} (I : Inv X pins σ H s) (h : CE X.stack X.prog X.w H s Q u s') : EP X pins σ Q u s' := by
  obtain ⟨v, H', os, bare, un, hok, r, q⟩ := h
  obtain ⟨hh, g, d, t, os'⟩ := s'
  obtain rfl : os' = s.os := os
  exact ⟨v, H', I.call (h' := hh) (g' := g) (d' := d) (t' := t) (ch := []) un hok bare (fun b z => absurd z (by simp)), r, q⟩
end
def tCall (sp : Sp) (dvs : List V) (E : XK) (t : TA) : TE := fun σ H Q => t σ H fun vs H1 => sp (vs ++ dvs) H1 Q E
def Binds (K : PySem.W.Frag) (fd : FuncData) (ps : List Str) (ds : List Value) : Prop :=
  ∀ (s : Shared) (us : List Value), K.In s.heap → (us ++ ds).length = ps.length → BindsTo s fd ⟨us, []⟩ (ps.zip (us ++ ds))
theorem Binds.all {K : PySem.W.Frag} {fd : FuncData} {ps : List Str} (h : ∀ us : List Value, us.length = ps.length → bindArgs fd ⟨us, []⟩ = pure (ps.zip us)) : Binds K fd ps [] := fun s us _ hl => by
  rw [List.append_nil] at hl ⊢
  exact .of_eq (h us hl)
def Passes (CX : CXT) (X : Cx) (E : XK) : Prop := ∀ (pins : List (Addr × Obj)) (σ : St) (H : Hp) (s : Shared) (e : Value) (s' : Shared), Inv X pins σ H s → CX X.stack H s E e s' → X.xe e s'
section
variable {X : Cx} {CX : CXT} {k : Nat} {f C : Addr} {fd : FuncData} {ps : List Str} {sp : Sp} {dvs : List V} {ds : List Value} {E : XK} {x m : Str} {p pos apos : Pos} {e o : Expr} {es : List Expr} {ta : TE} {t : TA}
theorem run_fn {pins : List (Addr × Obj)} {σ : St} {H : Hp} {s : Shared} {Q : VK} {us : List Value} {vs : List V} (F : FnOk X.prog X.w X.K X.mg X.base CX k f fd ps sp) (hr : Room k X.A) (hb : Binds X.K fd ps ds) (hd : Vals dvs ds) (hx : Passes CX X E)
    (I : Inv X pins σ H s) (r : Vals vs us) (h : sp (vs ++ dvs) H Q E) : wpAny (model X.prog X.w) X.A (call (.ref f) us) (EP X pins σ Q) X.xe s := by
  have r2 : Vals (vs ++ dvs) (us ++ ds) := r.append hd
  have hl : (us ++ ds).length = ps.length := by rw [← r2.length]; exact F.len _ _ _ _ h
  refine wpAny_call (codeAny_mono (F.run X.A X.stack s H ⟨us, []⟩ (us ++ ds) (vs ++ dvs) Q E hr I.env0 (hb s us I.kIn hl) r2 h) fun r s' hq => ?_)
  cases r with
  | error e => exact hx pins σ H s e s' I hq
  | ok fl =>
    cases fl with
    | ret u => exact I.after hq
    | next => exact False.elim hq
    | brk => exact False.elim hq
    | cont => exact False.elim hq
theorem pe_call (F : FnOk X.prog X.w X.K X.mg X.base CX k f fd ps sp) (hr : Room k X.A) (hg : Gl X x) (hm : X.mg x = some (.ref f)) (hk : PySem.W.keepIn X.K (.ref f) = true) (hb : Binds X.K fd ps ds) (hd : Vals dvs ds) (hx : Passes CX X E)
    (ha : PA X (e :: es) t) (hdb : (x == ("__debug__" : Str)) = false := by decide) (he : starEach (e :: es) X.env = (false, eval e X.env) :: starEach es X.env := by rfl) (hpl : (backTo pos (starEach es X.env)).any (·.1) = false := by rfl) :
    PE X (.Call (.Name x p) (e :: es) [] pos) (tCall sp dvs E t) := by
  intro pins s σ H Q I h
  refine wpAny_Call_Name_kw (ld_glob I hg hm ?_ hdb)
  refine PySem.W.callWith_K (h₀ := X.base) I.ok.mod.kin hk (thn (ha pos pins s σ H _ I h) fun us s1 ⟨vs, H1, I1, r, q⟩ => ⟨I1.kIn, ?_⟩) he hpl
  exact run_fn F hr hb hd hx I1 r q
end
section
variable {X : Cx} {CX : CXT} {k : Nat} {f C : Addr} {fd : FuncData} {ps ks : List Str} {sp : Sp} {E : XK} {x m : Str} {p pos apos kpos : Pos} {e o : Expr} {es : List Expr} {kws : List Keyword} {te ta : TE} {t tk : TA} {nm : Option Str}
variable {g : List Value → List Value → List Value} {gV : List V → List V → List V}
end
structure FnScope (N P : List Str) (sc : Scope) : Prop where
  kind : sc.kind = .function
  co : sc.isCoroutine = false
  gen : sc.isGenerator = false
  nd : N.Nodup
  pre : N.take P.length = P
  par : ∀ x ∈ P, sc.names.lookup x = some .local ∨ sc.names.lookup x = some .cell
  nofree : ∀ y ∈ sc.names, y.2 ≠ .free
theorem bindL_out {kindOf : Str → Option NameKind} {x : Str} : ∀ {binds : List (Str × Value)} {m : Str → Option Value}, (∀ v, (x, v) ∉ binds) → bindL kindOf binds m x = m x
  | [], _, _ => rfl
  | (n, v) :: r, m, h => by
    unfold bindL
    rw [bindL_out fun w hw => h w (List.mem_cons_of_mem _ hw)]
    split
    · have : x ≠ n := by rintro rfl; exact h v List.mem_cons_self
      simp [this]
    · rfl
theorem bindC_out {kindOf : Str → Option NameKind} {x : Str} : ∀ {binds : List (Str × Value)} {m : Str → Option Value}, (∀ v, (x, v) ∉ binds) → bindC kindOf binds m x = m x
  | [], _, _ => rfl
  | (n, v) :: r, m, h => by
    unfold bindC
    rw [bindC_out fun w hw => h w (List.mem_cons_of_mem _ hw)]
    split
    · rfl
    · have : x ≠ n := by rintro rfl; exact h v List.mem_cons_self
      simp [this]
theorem bindL_get {kindOf : Str → Option NameKind} {x : Str} {v : Value} : ∀ {P : List Str} {vs : List Value} {i : Nat} {m : Str → Option Value}, P.Nodup → P[i]? = some x → vs[i]? = some v → kindOf x = some .local →
    bindL kindOf (P.zip vs) m x = some v
  | [], _, _, _, _, h, _, _ => by simp at h
  | _ :: _, [], _, _, _, _, h, _ => by simp at h
  | p :: P, w :: vs, 0, m, nd, h1, h2, hk => by
    simp at h1 h2; subst h1; subst h2
    show bindL kindOf ((p, w) :: P.zip vs) m p = _
    unfold bindL
    rw [bindL_out fun v hv => (List.nodup_cons.mp nd).1 (List.of_mem_zip hv).1, if_pos hk]
    simp
  | p :: P, w :: vs, i + 1, m, nd, h1, h2, hk => by
    show bindL kindOf ((p, w) :: P.zip vs) m x = _
    unfold bindL
    exact bindL_get (i := i) (List.nodup_cons.mp nd).2 (by simpa using h1) (by simpa using h2) hk
theorem bindC_get {kindOf : Str → Option NameKind} {x : Str} {v : Value} : ∀ {P : List Str} {vs : List Value} {i : Nat} {m : Str → Option Value}, P.Nodup → P[i]? = some x → vs[i]? = some v → kindOf x ≠ some .local →
    bindC kindOf (P.zip vs) m x = some v
  | [], _, _, _, _, h, _, _ => by simp at h
  | _ :: _, [], _, _, _, _, h, _ => by simp at h
  | p :: P, w :: vs, 0, m, nd, h1, h2, hk => by
    simp at h1 h2; subst h1; subst h2
    show bindC kindOf ((p, w) :: P.zip vs) m p = _
    unfold bindC
    rw [bindC_out fun v hv => (List.nodup_cons.mp nd).1 (List.of_mem_zip hv).1, if_neg hk]
    simp
  | p :: P, w :: vs, i + 1, m, nd, h1, h2, hk => by
    show bindC kindOf ((p, w) :: P.zip vs) m x = _
    unfold bindC
    exact bindC_get (i := i) (List.nodup_cons.mp nd).2 (by simpa using h1) (by simpa using h2) hk
def start (N : List Str) (vs : List V) : St := vs.map some ++ List.replicate (N.length - vs.length) none
def cxOf (CX : CXT) (P : Program) (w : World) (K : PySem.W.Frag) (mg : Str → Option Value) (base : Heap) (N : List Str) (qual : Str) (scope : Scope) (f : Addr) (cd : Value) (A : Around) (outer : List Env) (s : Shared) (H : Hp) (E : XK) : Cx where
  prog := P
  w := w
  K := K
  mg := mg
  base := base
  A := A.deeper (envOfC qual scope s.heap.objs.size f cd)
  N := N
  s₀ := s
  H₀ := H
  env := envOfC qual scope s.heap.objs.size f cd
  outer := outer
  stack := envOfC qual scope s.heap.objs.size f cd :: outer
  ex := []
  calm := true
  fn := fun _ => true
  pn := []
  xe := fun e s' => wpAny (model P w) (A.deeper (envOfC qual scope s.heap.objs.size f cd)) (leaving (envOfC qual scope s.heap.objs.size f cd) e) (fun _ s'' => CX outer H s E e s'') (fun e' s'' => CX outer H s E e' s'') s'
theorem cell_has {sc : Scope} {n : Nat} {x : Str} (h : sc.names.lookup x = some .cell) : ∃ c, (cellsFrom n sc.names []).lookup x = some c := by
  have q := PySem.W.cellsFrom_some sc.names n [] (.inl h)
  exact Option.isSome_iff_exists.mp q
theorem inv_start {CX : CXT} {P : Program} {w : World} {K : PySem.W.Frag} {mg : Str → Option Value} {base : Heap} {N ps : List Str} {qual : Str} {scope : Scope} {f : Addr} {cd : Value} {A : Around} {outer : List Env} {s s1 : Shared} {H : Hp} {E : XK} {us : List Value} {vs : List V}
    (S : FnScope N ps scope) (hd : A.handled = none) (e0 : Env0 P w K mg base A outer s H) (hl : vs.length = ps.length) (r : Vals vs us)
    (x : InCallC s s.heap.objs.size (bindL (envOfC qual scope s.heap.objs.size f cd).kindOf (ps.zip us) fun _ => none) (cellsFrom (s.heap.objs.size + 1) scope.names []) (bindC (envOfC qual scope s.heap.objs.size f cd).kindOf (ps.zip us) fun _ => none) s1) :
    Inv (cxOf CX P w K mg base N qual scope f cd A outer s H E) [] (start N vs) H s1 := by
  have hpl : ps.length ≤ N.length := by have := congrArg List.length S.pre; rw [List.length_take] at this; omega
  obtain ⟨h1, tk, rfl, hk⟩ := x.done
  have noA : ∀ b : Addr, b ∉ (cxOf CX P w K mg base N qual scope f cd A outer s H E).ex := fun b z => absurd (show b ∈ ([] : List Addr) from z) (by simp)
  refine ⟨⟨e0.mod, S.kind, rfl, rfl, Nat.le_refl _, fun y z c h1 h2 => ?_, fun y hy => ?_, fun y c _ h => ?_, fun _ => hd, Around.frames_deeper e0.frames, .inr ⟨rfl, rfl⟩, fun b z => absurd z (noA b), e0.bs, e0.bsz, fun b _ _ => noA b, fun b z => absurd z (noA b), e0.funs, e0.frf⟩,
    rfl, e0.bare, Un.kept hk, ⟨_, x.toInCall.ns, fun i y v h1 h2 h3 => ?_⟩, fun y c h => ⟨_, x.cell y c h⟩, e0.hok.fresh (Nat.le_refl _), fun y c h => ?_, fun p hp => absurd (show p ∈ ([] : List (Addr × Obj)) from hp) (by simp), e0.hok.kept hk, ?_⟩
  · exact name_of_addr x.apart (PySem.mem_of_lookup h1) (PySem.mem_of_lookup h2)
  · have hy : scope.names.lookup y = some .cell ∨ scope.names.lookup y = some .free := hy
    rcases hy with hy | hy
    · exact cell_has hy
    · exact absurd rfl (S.nofree _ (PySem.mem_of_lookup hy))
  · exact Nat.le_of_lt (x.above y c (PySem.mem_of_lookup h))
  · have hi : i < vs.length := by
      unfold start at h2
      by_cases hi : i < vs.length
      · exact hi
      · rw [List.getElem?_append_right (by simpa using hi)] at h2
        rw [List.getElem?_replicate] at h2
        split at h2 <;> cases h2
    have ha : vs[i]? = some v := by
      unfold start at h2
      rw [List.getElem?_append_left (by simpa using hi), List.getElem?_map] at h2
      cases e : vs[i]? with
      | none => rw [e] at h2; cases h2
      | some a => rw [e] at h2; cases h2; rfl
    obtain ⟨u, hu, rv⟩ := r.get ha
    have hp : ps[i]? = some y := by
      rw [← S.pre, List.getElem?_take_of_lt (by omega)]; exact h1
    have ndP : ps.Nodup := by rw [← S.pre]; exact S.nd.sublist (List.take_sublist _ _)
    refine ⟨u, rv, ?_⟩
    rcases S.par y (List.mem_of_getElem? hp) with k | k
    · exact .inl ⟨k, bindL_get ndP hp hu k⟩
    · obtain ⟨c, e⟩ := cell_has (n := s.heap.objs.size + 1) k
      refine .inr ⟨.inl k, c, e, ?_⟩
      have q := x.cell y c e
      rw [bindC_get ndP hp hu (by show scope.names.lookup y ≠ _; rw [k]; decide)] at q
      exact q
  · exact e0.hok.fresh (Nat.le_of_lt (x.above y c (PySem.mem_of_lookup h)))
  · unfold start
    show _ = N.length
    rw [List.length_append, List.length_map, List.length_replicate]
    omega
theorem fn_of {CX : CXT} {P : Program} {w : World} {K : PySem.W.Frag} {mg : Str → Option Value} {base : Heap} {k : Nat} {f : Addr} {name qual : Str} {params : Arguments} {body : List Stmt} {scope : Scope} {dV kV doc pm cdv ct oc : Value} {an od : Option Addr}
    {osl : Array (Option Value)} {N ps : List Str} {sp : Sp} (lk : K.lookup f = some ⟨oc, od, .func (PySem.W.fnOf name qual params body scope dV kV doc pm an cdv ct), osl⟩) (hcd : PySem.W.codeIn K cdv qual = true) (S : FnScope N ps scope)
    (len : ∀ vs H Q E, sp vs H Q E → vs.length = ps.length)
    (hbody : ∀ (A : Around) (outer : List Env) (s : Shared) (H : Hp) (vs : List V) (Q : VK) (E : XK), Room k (A.deeper (envOfC qual scope s.heap.objs.size f cdv)) → sp vs H Q E →
      ∃ t, PSs (cxOf CX P w K mg base N qual scope f cdv A outer s H E) body t ∧ t { nx := fun _ H' => Q .non H', rt := Q } (start N vs) H) :
    FnOk P w K mg base CX (k + 1) f (PySem.W.fnOf name qual params body scope dV kV doc pm an cdv ct) ps sp := by
  refine ⟨len, fun A outer s H args us vs Q E hr e0 hb r hsp => ?_⟩
  have hl := len _ _ _ _ hsp
  have KX : K.In s.heap := e0.mod.kin.keeps fun b o e => (e0.bs b o e).1
  have lim : s.heap.NoLimit := e0.mod.nolimit.keeps fun b o e => (e0.bs b o e).1
  have hkind : ∀ y ∈ ps.zip us, scope.names.lookup y.1 = some .local ∨ (scope.names.lookup y.1 = some .cell ∧ ((cellsFrom (s.heap.objs.size + 1) scope.names []).lookup y.1).isSome = true) := fun ⟨n, v⟩ hy => by
    rcases S.par n (List.of_mem_zip hy).1 with q | q
    · exact .inl q
    · exact .inr ⟨q, PySem.W.cellsFrom_some _ _ _ (.inl q)⟩
  refine codeAny_call_function hr.depth (KX _ _ lk) rfl S.co S.gen rfl (PySem.W.codeRec_of KX hcd) (hb _ _ _ _ ?_)
  refine wpAny_newFunctionEnv_cells S.kind hkind fun env he s1 x => ?_
  subst he
  refine ⟨lim.keeps x.toInCall.keep, codeAny_func ?_⟩
  obtain ⟨t, ht, hq⟩ := hbody A outer s H vs Q E (hr.deeper _) hsp
  have I : Inv (cxOf CX P w K mg base N qual scope f cdv A outer s H E) [] (start N vs) H s1 := inv_start S hr.hd e0 hl r x
  refine wpAny_mono (ht [] s1 (start N vs) H _ I hq) (fun fl s' hs => ?_) fun e s' hs => hs
  have fin : ∀ {σ' : St} {H' : Hp} {v : V} {u : Value}, Inv (cxOf CX P w K mg base N qual scope f cdv A outer s H E) [] σ' H' s' → RelV v u → Q v H' → CE outer P w H s Q u s' :=
    fun {σ' H' v u} J rv q => ⟨v, H', J.os, J.bare, J.base, J.hok, rv, q⟩
  cases fl with
  | ret u =>
    obtain ⟨v, σ', H', J, rv, q⟩ := hs
    exact fin J rv q
  | next =>
    obtain ⟨σ', H', J, q⟩ := hs
    exact fin (v := V.non) (u := Value.none) J rfl q
  | brk =>
    obtain ⟨_, _, _, q⟩ := hs
    exact False.elim q
  | cont =>
    obtain ⟨_, _, _, q⟩ := hs
    exact False.elim q
end L2
namespace L2
open PySem PySem.Spec PyProof.Rows
section
variable {X : Cx} {x : Str} {p pos : Pos} {e : Expr} {es : List Expr} {t : TA} {id T : String} {r : List V → Hp → VK → Prop}
def tCB (r : List V → Hp → VK → Prop) (t : TA) : TE := fun σ H Q => t σ H fun vs H1 => r vs H1 Q
theorem pe_callB (hc : CallR X (.builtin id) r) (hg : Gl X x) (hm : X.mg x = none) (hv : bootBuiltins x = some (.builtin id)) (ha : PA X (e :: es) t) (hn : x ≠ "__name__" := by decide) (hdb : (x == ("__debug__" : Str)) = false := by decide)
    (he : starEach (e :: es) X.env = (false, eval e X.env) :: starEach es X.env := by rfl) (hpl : (backTo pos (starEach es X.env)).any (·.1) = false := by rfl) : PE X (.Call (.Name x p) (e :: es) [] pos) (tCB r t) := by
  intro pins s σ H Q I h
  refine wpAny_Call_Name_kw (ld_blt I hg hm hv ?_ hn hdb)
  exact PyProof.Rows.callWith_builtin1 (thn (ha pos pins s σ H _ I h) fun us s1 ⟨vs, H1, I1, r1, q1⟩ => hc pins s1 σ H1 vs us Q I1 r1 q1) he hpl
theorem pe_callTy (hc : CallR X (.type T) r) (hg : Gl X x) (hm : X.mg x = none) (hv : bootBuiltins x = some (.type T)) (ha : PA X (e :: es) t) (hn : x ≠ "__name__" := by decide) (hdb : (x == ("__debug__" : Str)) = false := by decide)
    (he : starEach (e :: es) X.env = (false, eval e X.env) :: starEach es X.env := by rfl) (hpl : (backTo pos (starEach es X.env)).any (·.1) = false := by rfl) : PE X (.Call (.Name x p) (e :: es) [] pos) (tCB r t) := by
  intro pins s σ H Q I h
  refine wpAny_Call_Name_kw (ld_blt I hg hm hv ?_ hn hdb)
  exact PyProof.Rows.callWith_type1 (thn (ha pos pins s σ H _ I h) fun us s1 ⟨vs, H1, I1, r1, q1⟩ => hc pins s1 σ H1 vs us Q I1 r1 q1) he hpl
end
end L2
namespace HT
open PySem PyProof.Rows
section
open PySem.SeqAt
open PySem.AutoSeq1 (wpAny_loadPart')
open PySem.MeetsSeq PySem.MeetsSeq2 PySem.MeetsSeq3
end
section
variable {prog : Program} {w : World} {A : Around} {E : Value → Shared → Prop} {s : Shared}
def sIx (n d : Nat) : Option Int → Nat
  | none => d
  | some v => if v < 0 then (v + (n : Int)).toNat else min v.toNat n
end
end HT
namespace L2
open PySem PySem.Spec PyProof.Rows
abbrev TO := St → Hp → (Option Int → Hp → Prop) → Prop
def PO (X : Cx) (e : Option Expr) (t : TO) : Prop :=
  ∀ (pins : List (Addr × Obj)) (s : Shared) (σ : St) (H : Hp) (Q : Option Int → Hp → Prop), Inv X pins σ H s → t σ H Q →
    wpAny (model X.prog X.w) X.A (evalPart e X.env) (fun u s' => ∃ o H', Inv X pins σ H' s' ∧ IsPart u o ∧ Q o H') X.xe s
def tPart (t : TE) : TO := fun σ H Q => t σ H fun x H1 => ∃ i, x = .int i ∧ Q (some i) H1
theorem intsAre_of {ns : List Int} : ∀ {us : List Value}, Vals (ns.map V.int) us → IntsAre us ns := by
  induction ns with
  | nil => intro us r; rw [List.map_nil] at r; cases r; exact .nil
  | cons n ns ih =>
    intro us r
    rw [List.map_cons] at r
    cases r with
    | cons r1 r2 =>
      obtain ⟨t, e⟩ := r1
      subst e
      exact .cons n t (ih r2)
section
variable {X : Cx} {e : Expr} {te : TE} {lo hi : Option Expr} {tl th : TO} {pos p2 : Pos}
theorem po_some (h : PE X e te) : PO X (some e) (tPart te) := by
  intro pins s σ H Q I hw
  rw [evalPart_some]
  refine thn (h pins s σ H _ I hw) fun u s1 ⟨x, H1, I1, r1, q1⟩ => ?_
  obtain ⟨i, rfl, q⟩ := q1
  obtain ⟨t, rfl⟩ := r1
  exact ⟨some i, H1, I1, .int i t, q⟩
def SlR (X : Cx) (r : V → Option Int → Option Int → Hp → VK → Prop) : Prop :=
  ∀ (pins : List (Addr × Obj)) (s : Shared) (σ : St) (H : Hp) (x : V) (v vl vu : Value) (lo hi : Option Int) (sl : Addr) (Q : VK), Inv X pins σ H s → RelV x v → s.heap.IsSliceOf sl vl vu .none → IsPart vl lo → IsPart vu hi → r x lo hi H Q →
    ∃ T id, typeLookup (.type T) "__getitem__" = pure (some (.builtin id)) ∧ s.TypeIs v T ∧ wpAny (model X.prog X.w) X.A (getItem v (.ref sl)) (EP X pins σ Q) X.xe s
def tSl (r : V → Option Int → Option Int → Hp → VK → Prop) (te : TE) (tl th : TO) : TE := fun σ H Q => te σ H fun x H1 => tl σ H1 fun l H2 => th σ H2 fun u H3 => r x l u H3 Q
theorem pe_slice {r : V → Option Int → Option Int → Hp → VK → Prop} (hr : SlR X r) (he : PE X e te) (hl : PO X lo tl) (hu : PO X hi th) : PE X (.Subscript e (.Slice lo hi none p2) pos) (tSl r te tl th) := by
  intro pins s σ H Q I h
  refine Subscript_ (thn (he pins s σ H _ I h) fun v s1 ⟨x, H1, I1, r1, q1⟩ => ?_)
  refine wpAny_Slice (thn (hl pins s1 σ H1 _ I1 q1) fun vl s2 ⟨l, H2, I2, pl, q2⟩ => thn (hu pins s2 σ H2 _ I2 q2) fun vu s3 ⟨u, H3, I3, pu, q3⟩ => ?_)
  rw [evalPart_none]
  refine wpAny_pure ?_
  have I4 : Inv X pins σ H3 { s3 with heap := s3.heap.push { cls := .type "slice", data := .fields #[vl, vu, .none] } } := I3.kept (t' := s3.toks) fun b ob q => Heap.get?_push_of_some _ q
  obtain ⟨T, id, hT, ht, hg⟩ := hr pins { s3 with heap := s3.heap.push { cls := .type "slice", data := .fields #[vl, vu, .none] } } σ H3 x v vl vu l u s3.heap.objs.size Q I4 r1 (Heap.IsSliceOf.new ..) pl pu q3
  show wpAny (model X.prog X.w) X.A (subscriptTail e (.Slice lo hi none p2) v (.ref s3.heap.objs.size)) (EP X pins σ Q) X.xe { s3 with heap := s3.heap.push { cls := .type "slice", data := .fields #[vl, vu, .none] } }
  exact tail_any (ops := [.ref s3.heap.objs.size, v]) ht hT hg (by with_unfolding_all rfl)
def cutV (xs : List V) (lo hi : Option Int) : List V := (xs.drop (HT.sIx xs.length 0 lo)).take (HT.sIx xs.length xs.length hi - HT.sIx xs.length 0 lo)
theorem cutV_length (xs : List V) (lo hi : Option Int) : (cutV xs lo hi).length ≤ xs.length := by
  unfold cutV
  rw [List.length_take, List.length_drop]
  omega
end
end L2
namespace L2
open PySem PySem.Spec PyProof.Rows
def ixN (n : Nat) (i : Int) : Option Nat := if 0 ≤ i then (if i < n then some i.toNat else none) else if -(n : Int) ≤ i then some (i + n).toNat else none
def atI {α : Type} (xs : List α) (i : Int) : Option α := (ixN xs.length i).bind fun j => xs[j]?
theorem ixN_seq {n : Nat} {i : Int} {j : Nat} (h : ixN n i = some j) : seqIndex? i n = some j ∧ j < n ∧ -(n : Int) ≤ i ∧ i < n := by
  unfold ixN at h
  by_cases h0 : 0 ≤ i
  · rw [if_pos h0] at h
    by_cases h1 : i < n
    · rw [if_pos h1] at h
      have e : i.toNat = j := Option.some.inj h
      exact ⟨by rw [seqIndex_of h0 h1, e], by omega, by omega, h1⟩
    · rw [if_neg h1] at h; cases h
  · rw [if_neg h0] at h
    by_cases h1 : -(n : Int) ≤ i
    · rw [if_pos h1] at h
      have e : (i + n).toNat = j := Option.some.inj h
      exact ⟨by rw [seqIndex_neg (by omega) h1, e], by omega, h1, by omega⟩
    · rw [if_neg h1] at h; cases h
theorem atI_get {α : Type} {xs : List α} {i : Int} {v : α} (h : atI xs i = some v) : ∃ j, seqIndex? i xs.length = some j ∧ xs[j]? = some v ∧ j < xs.length ∧ -(xs.length : Int) ≤ i ∧ i < xs.length := by
  unfold atI at h
  cases e : ixN xs.length i with
  | none => rw [e] at h; cases h
  | some j =>
    rw [e] at h
    obtain ⟨h1, h2, h3, h4⟩ := ixN_seq e
    exact ⟨j, h1, h, h2, h3, h4⟩
theorem atI_nat {α : Type} {xs : List α} {j : Nat} {v : α} (h : xs[j]? = some v) : atI xs (j : Int) = some v := by
  have hj : j < xs.length := (List.getElem?_eq_some_iff.mp h).1
  have e : ixN xs.length (j : Int) = some j := by
    unfold ixN
    rw [if_pos (by omega), if_pos (by omega)]; simp
  unfold atI; rw [e]; exact h
def PlainIx (b : Expr) : Prop := ∀ o i, subscripted b false o i = operate [o, i] (getItem o i)
def IxR (X : Cx) (r : R2) : Prop :=
  ∀ (value slice : Expr) (pins : List (Addr × Obj)) (s : Shared) (σ : St) (H : Hp) (x y : V) (v u : Value) (Q : VK), Inv X pins σ H s → RelV x v → RelV y u → r x y H Q →
    subscripted slice false v u = operate [v, u] (getItem v u) → wpAny (model X.prog X.w) X.A (subscriptTail value slice v u) (EP X pins σ Q) X.xe s
def MtR (X : Cx) (id : String) (r : V → List V → Hp → VK → Prop) : Prop :=
  ∀ (pins : List (Addr × Obj)) (s : Shared) (σ : St) (H : Hp) (x : V) (xs : List V) (v : Value) (us : List Value) (Q : VK), Inv X pins σ H s → RelV x v → Vals xs us → r x xs H Q →
    wpAny (model X.prog X.w) X.A (call (.builtin id) (v :: us)) (EP X pins σ Q) X.xe s
section
variable {X : Cx} {a b : Expr} {ta tb : TE} {pos : Pos}
theorem pe_ix {r : R2} (hr : IxR X r) (ha : PE X a ta) (hb : PE X b tb) (hs : PlainIx b) : PE X (.Subscript a b pos) (tOp r ta tb) := by
  intro pins s σ H Q I h
  exact Subscript_ (binT ha hb I h fun v u s2 x y H2 I2 rx ry q => hr a b pins s2 σ H2 x y v u Q I2 rx ry q (hs _ _))
def rIxL (K : PySem.W.Frag) : R2 := fun x y H Q => ∃ p xs i v, x = .ref p ∧ y = .int i ∧ SqL K H p xs ∧ atI xs i = some v ∧ Q v H
theorem ix_list : IxR X (rIxL X.K) := by
  intro value slice pins s σ H x y v u Q I rx ry h hs
  obtain ⟨p, xs, i, z, rfl, rfl, hq, he, q⟩ := h
  cases rx
  obtain ⟨t, rfl⟩ := ry
  obtain ⟨its, r, pl, hz⟩ := I.list hq
  obtain ⟨j, h1, h2, h3, h4, h5⟩ := atI_get he
  obtain ⟨w, ew, rw'⟩ := r.get h2
  have hl := r.length
  have hn := line63
  have fin : EP X pins σ Q w s := ⟨z, H, I, rw', q⟩
  by_cases h0 : 0 ≤ i
  · have hj : i.toNat = j := by
      rw [seqIndex_of h0 h5] at h1
      exact Option.some.inj h1
    exact item_listR pl.isList h0 (by omega) (by rw [hj]; simpa using ew) fin hs
  · have hj : (i + (its.toArray.size : Int)).toNat = j := by
      rw [seqIndex_neg (by omega) h4] at h1
      rw [List.size_toArray, ← hl]
      exact Option.some.inj h1
    exact subscriptTail_builtinR (x := w) pl.isList.typeIs slot_list_getitem.lookup
      (wpAny_getItem_list_neg (Q := fun r s' => r = w ∧ EP X pins σ Q r s') pl.isList (by omega) (by rw [List.size_toArray] <;> omega) (by omega) (by rw [hj]; simpa using ew) ⟨rfl, fin⟩) hs
theorem mapSeq_set (its : List Value) (n j : Nat) (u : Value) : Obj.mapSeq (·.setIfInBounds j u) { cls := .type "list", data := .seq its.toArray n } = { cls := .type "list", data := .seq (its.set j u).toArray n } := by
  simp [Obj.mapSeq]
theorem Inv.lst {pins : List (Addr × Obj)} {σ : St} {H : Hp} {s : Shared} {p : Addr} {xs : List V} (I : Inv X pins σ H s) (h : H p = some (.lst xs)) :
    ∃ (its : List Value) (n : Nat), Vals xs its ∧ s.heap.get? p = some { cls := .type "list", data := .seq its.toArray n } ∧ xs.length ≤ sizeLine := by
  obtain ⟨z, its, n, r, e⟩ := I.hok p _ h
  exact ⟨its, n, r, e, z⟩
theorem Inv.lstUpd {pins : List (Addr × Obj)} {σ : St} {H : Hp} {s : Shared} {p : Addr} {xs ys : List V} {its its' : List Value} {n n' : Nat} {f : Obj → Obj} (I : Inv X pins σ H s) (h : H p = some (.lst xs))
    (ho : s.heap.get? p = some { cls := .type "list", data := .seq its.toArray n }) (hf : f { cls := .type "list", data := .seq its.toArray n } = { cls := .type "list", data := .seq its'.toArray n' }) (r : Vals ys its') (hz : ys.length ≤ sizeLine) (t : Nat) :
    Inv X pins σ (upd H p (.lst ys)) { s with heap := s.heap.update p f, toks := t } := by
  have e : (s.heap.update p f).get? p = some { cls := .type "list", data := .seq its'.toArray n' } := by
    rw [Heap.get?_update_self f ho (by rw [hf] <;> rfl), hf]
  refine I.write (x := p) (e := p) (by rw [h]; trivial) (.inl rfl) (fun b u hb q => (Heap.get?_update_other _ _ (Ne.symm hb)).trans q) ⟨_, e⟩ ?_
  exact ⟨hz, its', n', r, e⟩
def rSetL : V → V → V → Hp → (Hp → Prop) → Prop := fun o i v H Q => ∃ p xs k j, o = .ref p ∧ i = .int k ∧ H p = some (.lst xs) ∧ ixN xs.length k = some j ∧ Q (upd H p (.lst (xs.set j v)))
theorem set_list : PSet X rSetL := by
  intro pins s σ H o i v ov iv u Q I ro ri rv h
  obtain ⟨p, xs, k, j, rfl, rfl, hp, hj, q⟩ := h
  cases ro
  obtain ⟨t, rfl⟩ := ri
  obtain ⟨its, n, r, ho, hz⟩ := I.lst hp
  obtain ⟨h1, h2, h3, h4⟩ := ixN_seq hj
  have hl := r.length
  have hn := line63
  have I' : Inv X pins σ (upd H p (.lst (xs.set j v))) { s with heap := s.heap.update p (Obj.mapSeq (·.setIfInBounds j u)) } :=
    I.lstUpd hp ho (mapSeq_set its n j u) (r.set rv j) (by rw [List.length_set]; exact hz) s.toks
  by_cases h0 : 0 ≤ k
  · have hk : k.toNat = j := by
      rw [seqIndex_of h0 h4] at h1
      exact Option.some.inj h1
    exact PySem.W.ki_setAt ho h0 (by omega) (by rw [List.size_toArray, ← hl]; exact h4) (by rw [hk]; exact ⟨_, I', q⟩)
  · have hk : (k + (its.toArray.size : Int)).toNat = j := by
      rw [seqIndex_neg (by omega) h3] at h1
      rw [List.size_toArray, ← hl]
      exact Option.some.inj h1
    exact PySem.W.ki_setBack ho (by omega) (by rw [List.size_toArray, ← hl]; exact h3) (by omega) (by rw [hk]; exact ⟨_, I', q⟩)
theorem slice_bounds (lo hi : Option Int) (n : Nat) : (sliceBounds lo hi none n).1 = ((HT.sIx n 0 lo : Nat) : Int) ∧ (sliceBounds lo hi none n).2.1 = ((HT.sIx n n hi : Nat) : Int) ∧ (sliceBounds lo hi none n).2.2 = 1 := by
  refine ⟨?_, ?_, rfl⟩
  · cases lo with
    | none => simp [sliceBounds, HT.sIx]
    | some i =>
      simp only [sliceBounds, HT.sIx, Option.getD_none, show (1 : Int) > 0 by decide, if_true]
      by_cases h : i < 0
      · simp only [h, if_true] <;> omega
      · simp only [h, if_false] <;> omega
  · cases hi with
    | none => simp [sliceBounds, HT.sIx]
    | some i =>
      simp only [sliceBounds, HT.sIx, Option.getD_none, show (1 : Int) > 0 by decide, if_true]
      by_cases h : i < 0
      · simp only [h, if_true] <;> omega
      · simp only [h, if_false] <;> omega
theorem slicePick_cut (its : List Value) (lo hi : Option Int) : slicePick its.toArray lo hi none = ((its.drop (HT.sIx its.length 0 lo)).take (HT.sIx its.length its.length hi - HT.sIx its.length 0 lo)).toArray := by
  obtain ⟨h1, h2, h3⟩ := slice_bounds lo hi its.toArray.size
  unfold slicePick
  rw [h1, h2, h3]
  simp only [sliceRange_one, pick_run, List.size_toArray] <;> rfl
def rSlL (K : PySem.W.Frag) : V → Option Int → Option Int → Hp → VK → Prop := fun x lo hi H Q => ∃ a xs, x = .ref a ∧ SqL K H a xs ∧ ∀ p, H p = none → Q (.ref p) (upd H p (.lst (cutV xs lo hi)))
theorem sl_list : SlR X (rSlL X.K) := by
  intro pins s σ H x v vl vu lo hi sl Q I rx hs pl pu h
  obtain ⟨a, xs, rfl, hx, q⟩ := h
  cases rx
  obtain ⟨its, r, ht, hz⟩ := I.list hx
  have hlen := r.length
  refine ⟨"list", _, slot_list_getitem.lookup, ht.isList.typeIs, ?_⟩
  refine wpAny_getItem_list_slice ht.isList hs pl pu .none (by simp) ?_ (by rw [List.size_toArray] <;> omega)
  rw [slicePick_cut, ← hlen]
  refine ⟨.ref s.heap.objs.size, _, I.laid (t' := s.toks) (o := .lst (cutV xs lo hi)) (fun b ob q => Heap.get?_push_of_some _ q) (Nat.le_refl _) ?_, rfl, q _ (I.hok.fresh (Nat.le_refl _))⟩
  exact ⟨Nat.le_trans (cutV_length xs lo hi) hz, _, 0, (r.drop (HT.sIx xs.length 0 lo)).take (HT.sIx xs.length xs.length hi - HT.sIx xs.length 0 lo), Heap.get?_push_size _ rfl⟩
def flatV : V → Bool
  | .non => true
  | .bl _ => true
  | .int _ => true
  | .str _ => true
  | _ => false
def eqV : V → V → Bool
  | .non, .non => true
  | .bl a, .bl b => a == b
  | .bl a, .int b => (if a then 1 else 0) == b
  | .int a, .bl b => a == (if b then 1 else 0)
  | .int a, .int b => a == b
  | .str a, .str b => a == b
  | _, _ => false
theorem eqAt_V {A : Around} {s : Shared} {y x : V} {u v : Value} (ry : RelV y u) (rx : RelV x v) (fy : flatV y = true) (fx : flatV x = true) : SeqAt.EqAt A s u v (eqV y x) := by
  cases y with
  | non =>
    cases ry
    cases x with
    | non => cases rx; exact SeqAt.EqAt.same _
    | bl b => cases rx; exact SeqAt.EqAt.none_bool b
    | int b => obtain ⟨t, rfl⟩ := rx; exact SeqAt.EqAt.none_int b t
    | str b => obtain ⟨t, rfl⟩ := rx; exact SeqAt.EqAt.none_str b t
    | _ => exact absurd (show false = true from fx) Bool.false_ne_true
  | bl a =>
    cases ry
    cases x with
    | non => cases rx; exact SeqAt.EqAt.bool_none a
    | bl b => cases rx; exact SeqAt.EqAt.bool_bool a b
    | int b => obtain ⟨t, rfl⟩ := rx; exact SeqAt.EqAt.bool_int a b t
    | str b => obtain ⟨t, rfl⟩ := rx; exact SeqAt.EqAt.bool_str a b t
    | _ => exact absurd (show false = true from fx) Bool.false_ne_true
  | int a =>
    obtain ⟨t', rfl⟩ := ry
    cases x with
    | non => cases rx; exact SeqAt.EqAt.int_none a t'
    | bl b => cases rx; exact SeqAt.EqAt.int_bool a t' b
    | int b => obtain ⟨t, rfl⟩ := rx; exact SeqAt.EqAt.int_int a t' b t
    | str b => obtain ⟨t, rfl⟩ := rx; exact SeqAt.EqAt.int_str a t' b t
    | _ => exact absurd (show false = true from fx) Bool.false_ne_true
  | str a =>
    obtain ⟨t', rfl⟩ := ry
    cases x with
    | non => cases rx; exact SeqAt.EqAt.str_none a t'
    | bl b => cases rx; exact SeqAt.EqAt.str_bool a t' b
    | int b => obtain ⟨t, rfl⟩ := rx; exact SeqAt.EqAt.str_int a t' b t
    | str b => obtain ⟨t, rfl⟩ := rx; exact SeqAt.EqAt.str_str a t' b t
    | _ => exact absurd (show false = true from fx) Bool.false_ne_true
  | _ => exact absurd (show false = true from fy) Bool.false_ne_true
theorem call_len_seq : CallR X (.builtin "len") (fun xs H Q => ∃ p ys, xs = [.ref p] ∧ (SqL X.K H p ys ∨ SqT X.K H p ys) ∧ Q (.int ys.length) H) := by
  intro pins s σ H xs us Q I r h
  obtain ⟨p, ys, rfl, hq, q⟩ := h
  obtain ⟨u, rfl, rx⟩ := vals1 r
  cases rx
  have hn := line63
  rcases hq with hq | hq
  · obtain ⟨its, r', pl, hz⟩ := I.list hq
    have hlen := r'.length
    exact Calls.call_len_list pl.isList (by simp only [List.size_toArray] <;> omega) ⟨.int ys.length, H, I.tok _, ⟨s.toks + 1, by rw [List.size_toArray, hlen]⟩, q⟩
  · obtain ⟨its, r', pl, hz⟩ := I.tuple hq
    have hlen := r'.length
    exact len_tuple pl (by simp only [List.size_toArray] <;> omega) ⟨.int ys.length, H, I.tok _, ⟨s.toks + 1, by rw [List.size_toArray, hlen]⟩, q⟩
theorem call_list_of : CallR X (.type "list") (fun xs H Q => ∃ p ys, xs = [.ref p] ∧ (SqL X.K H p ys ∨ SqT X.K H p ys) ∧ ∀ l, H l = none → Q (.ref l) (upd H l (.lst ys))) := by
  intro pins s σ H xs us Q I r h
  obtain ⟨p, ys, rfl, hq, q⟩ := h
  obtain ⟨u, rfl, rx⟩ := vals1 r
  cases rx
  have fin : ∀ (its : List Value), Vals ys its → ys.length ≤ sizeLine → ∀ (h' : Heap) (c' : Nat), (∀ b o', s.heap.get? b = some o' → h'.get? b = some o') →
      h'.get? s.heap.objs.size = some { cls := .type "list", dict := none, data := .seq its.toArray c', slots := #[] } → EP X pins σ Q (.ref s.heap.objs.size) { s with heap := h' } := fun its r' hz h' c' kp e =>
    ⟨.ref s.heap.objs.size, _, I.laid (t' := s.toks) kp (Nat.le_refl _) (show ObjOk X.prog X.w _ h' _ (.lst ys) from ⟨hz, its, c', r', e⟩), rfl, q _ (I.hok.fresh (Nat.le_refl _))⟩
  rcases hq with hq | hq
  · obtain ⟨its, r', pl, hz⟩ := I.list hq
    have hlen := r'.length
    obtain ⟨o, ho, hc, n, hd⟩ := pl.isList
    exact call_list_seq p (.inl rfl) ho hc hd (fun h' c' kp e => fin its r' hz h' c' kp e) (by simp only [List.size_toArray] <;> omega)
  · obtain ⟨its, r', pl, hz⟩ := I.tuple hq
    have hlen := r'.length
    obtain ⟨o, ho, hc, n, hd⟩ := pl
    exact call_list_seq p (.inr rfl) ho hc hd (fun h' c' kp e => fin its r' hz h' c' kp e) (by simp only [List.size_toArray] <;> omega)
def tyV (K : PySem.W.Frag) (T : String) (x : V) (H : Hp) : Prop := match x with
  | .str _ => T = "str"
  | .int _ => T = "int"
  | .ref p => (T = "list" ∧ ∃ xs, SqL K H p xs) ∨ (T = "tuple" ∧ ∃ o, K.lookup p = some o ∧ o.cls = .type "tuple" ∧ o.dict = none) ∨
      (T = "dict" ∧ ((∃ kvs, H p = some (.dK kvs)) ∨ ∃ kvs, H p = some (.dT kvs))) ∨ (T = "set" ∧ ∃ S n, H p = some (.set S n))
  | _ => False
theorem tyV_is {pins : List (Addr × Obj)} {σ : St} {H : Hp} {s : Shared} {T : String} {x : V} {v : Value} (I : Inv X pins σ H s) (r : RelV x v) (ty : tyV X.K T x H) :
    s.TypeIs v T ∧ ∀ a, v = .ref a → ∃ ob, s.heap.get? a = some ob ∧ ob.dict = none := by
  cases x with
  | str z =>
    obtain ⟨t, rfl⟩ := r
    cases (show T = "str" from ty)
    exact ⟨typeIs_str s z t, fun _ e => nomatch e⟩
  | int i =>
    obtain ⟨t, rfl⟩ := r
    cases (show T = "int" from ty)
    exact ⟨typeIs_int s i t, fun _ e => nomatch e⟩
  | ref p =>
    cases r
    rcases ty with ⟨rfl, xs, hq⟩ | ⟨rfl, o, hk, hc, hd⟩ | ⟨rfl, hk⟩ | ⟨rfl, S, n, hk⟩
    · obtain ⟨its, _, pl, _⟩ := I.list hq
      refine ⟨pl.isList.typeIs, fun a e => ?_⟩
      cases e
      obtain ⟨o, n, e, c, hd, _⟩ := pl
      exact ⟨o, e, hd⟩
    · refine ⟨⟨o, I.kIn p o hk, hc⟩, fun a e => ?_⟩
      cases e
      exact ⟨o, I.kIn _ o hk, hd⟩
    · have z : ∃ o, s.heap.get? p = some o ∧ o.ExactDict := by
        rcases hk with ⟨kvs, hk⟩ | ⟨kvs, hk⟩
        · obtain ⟨_, _, _, _, o, _, _, e, ex, _⟩ := I.hok p _ hk
          exact ⟨o, e, ex⟩
        · obtain ⟨_, _, _, _, o, _, _, e, ex, _⟩ := I.hok p _ hk
          exact ⟨o, e, ex⟩
      obtain ⟨o, e, ex⟩ := z
      refine ⟨⟨o, e, ex.1⟩, fun a e2 => ?_⟩
      cases e2
      exact ⟨o, e, ex.2.1⟩
    · obtain ⟨o, _, _, _, e, ex, _⟩ := I.hok p _ hk
      refine ⟨⟨o, e, ex.1⟩, fun a e2 => ?_⟩
      cases e2
      exact ⟨o, e, ex.2.1⟩
  | _ => exact False.elim ty
def tBM0 (K : PySem.W.Frag) (T : String) (r : V → List V → Hp → VK → Prop) (to : TE) : TE := fun σ H Q => to σ H fun x H1 => tyV K T x H1 ∧ r x [] H1 Q
def tBM (K : PySem.W.Frag) (T : String) (r : V → List V → Hp → VK → Prop) (to : TE) (t : TA) : TE := fun σ H Q => to σ H fun x H1 => tyV K T x H1 ∧ t σ H1 fun xs H2 => r x xs H2 Q
variable {o e : Expr} {es : List Expr} {to : TE} {t : TA} {name : Str} {apos cpos : Pos} {T id : String} {r : V → List V → Hp → VK → Prop}
theorem pe_bm0 (pa : PlainAttrs T) (slot : Slot T name id) (hty : typeOf (.builtin id) = pure (.type "method_descriptor")) (hm : MtR X id r) (ho : PE X o to)
    (hbase : attributeBase o name X.env (eval o X.env) = eval o X.env := by rfl) (hline : (apos.endLine == cpos.line) = true := by rfl) : PE X (.Call (.Attribute o name apos) [] [] cpos) (tBM0 X.K T r to) := by
  intro pins s σ H Q I h
  refine wpAny_Call_method0_late hbase hline (thn (ho pins s σ H _ I h) fun v s1 ⟨x, H1, I1, r1, ty, q1⟩ => ?_)
  obtain ⟨h1, h2⟩ := tyV_is I1 r1 ty
  exact ⟨T, id, pa, slot, hty, h1, h2, Calls.callWith_builtin rfl (PySem.evalArgs_none (hm pins s1 σ H1 x [] v [] Q I1 r1 .nil q1))⟩
theorem pe_bm (pa : PlainAttrs T) (slot : Slot T name id) (hty : typeOf (.builtin id) = pure (.type "method_descriptor")) (hm : MtR X id r) (ho : PE X o to) (ha : PA X (e :: es) t)
    (hbase : attributeBase o name X.env (eval o X.env) = eval o X.env := by rfl)
    (hfew : ((backTo cpos (starEach (e :: es) X.env)).all (fun x => !x.1) && (backToKw cpos (keywordEach [] X.env)).all (fun x => x.1.isSome)
      && decide ((e :: es).length + ([] : List Keyword).length + (if ([] : List Keyword).isEmpty then 0 else 1) < 30)) = true := by rfl)
    (hline : (apos.endLine == cpos.line) = true := by rfl) (hs : starEach (e :: es) X.env = (false, eval e X.env) :: starEach es X.env := by rfl) (hplain : (backTo cpos (starEach es X.env)).any (·.1) = false := by rfl) :
    PE X (.Call (.Attribute o name apos) (e :: es) [] cpos) (tBM X.K T r to t) := by
  intro pins s σ H Q I h
  refine wpAny_Call_method_late hbase hfew hline rfl (thn (ho pins s σ H _ I h) fun v s1 ⟨x, H1, I1, r1, ty, q1⟩ => ?_)
  obtain ⟨h1, h2⟩ := tyV_is I1 r1 ty
  refine ⟨T, id, pa, slot, hty, h1, h2, ?_⟩
  have hA := ha cpos pins s1 σ H1 _ I1 q1
  rw [hs] at hA ⊢
  refine Calls.callWith_builtin (by show (false || (backTo cpos (starEach es X.env)).any (·.1)) = false; rw [hplain] <;> rfl) (Calls.evalArgs_plain ?_)
  exact thn hA fun us s2 ⟨vs, H2, I2, r2, q2⟩ => hm pins s2 σ H2 x vs v us Q I2 r1 r2 q2
end
end L2
namespace L2
open PySem PySem.Spec PyProof.Rows
def MtM (X : Cx) (id : String) (r : V → List V → Hp → VK → Prop) : Prop :=
  ∀ (pins : List (Addr × Obj)) (s : Shared) (σ : St) (H : Hp) (x : V) (xs : List V) (v : Value) (us : List Value) (Q : VK), Inv X pins σ H s → RelV x v → Vals xs us → r x xs H Q →
    wpAny (model X.prog X.w) X.A (call (.builtin id) (v :: us)) (EP X pins σ Q) X.xe s
theorem Vals.one : ∀ {x : V} {us : List Value}, Vals [x] us → ∃ u, us = [u] ∧ RelV x u
  | _, _, .cons r .nil => ⟨_, rfl, r⟩
theorem Vals.zero : ∀ {us : List Value}, Vals [] us → us = []
  | _, .nil => rfl
theorem Vals.dropLast {xs : List V} {us : List Value} (h : Vals xs us) : Vals xs.dropLast us.dropLast := by
  induction h with
  | nil => exact .nil
  | cons r t ih =>
    cases t with
    | nil => exact .nil
    | cons q t' => exact .cons r ih
theorem Vals.eraseIdx : ∀ {xs : List V} {us : List Value} (i : Nat), Vals xs us → Vals (xs.eraseIdx i) (us.eraseIdx i)
  | _, _, _, .nil => .nil
  | _, _, 0, .cons _ t => t
  | _, _, i + 1, .cons r t => .cons r (Vals.eraseIdx i t)
theorem Vals.reverse {xs : List V} {us : List Value} (h : Vals xs us) : Vals xs.reverse us.reverse := by
  induction h with
  | nil => exact .nil
  | cons r t ih => rw [List.reverse_cons, List.reverse_cons]; exact Vals.append ih (.cons r .nil)
theorem Vals.rep {xs : List V} {us : List Value} (h : Vals xs us) : ∀ k : Nat, Vals (List.replicate k xs).flatten (List.replicate k us).flatten
  | 0 => .nil
  | k + 1 => by
    rw [List.replicate_succ, List.replicate_succ, List.flatten_cons, List.flatten_cons]
    exact Vals.append h (Vals.rep h k)
theorem erase_last {α : Type} (l : List α) : l.eraseIdx (l.length - 1) = l.dropLast := by
  induction l with
  | nil => rfl
  | cons a r ih =>
    cases r with
    | nil => rfl
    | cons b r =>
      have e : (a :: b :: r).length - 1 = ((b :: r).length - 1) + 1 := by
        have h1 : (a :: b :: r).length = r.length + 2 := rfl
        have h2 : (b :: r).length = r.length + 1 := rfl
        omega
      rw [e, List.eraseIdx_cons_succ, ih]
      all_goals rfl
theorem len_erase {α : Type} : ∀ (l : List α) (i : Nat), (l.eraseIdx i).length ≤ l.length
  | [], _ => Nat.le_refl _
  | _ :: _, 0 => Nat.le_succ _
  | _ :: r, i + 1 => Nat.succ_le_succ (len_erase r i)
theorem foldl_rep (its : List Value) : ∀ (k : Nat) (acc : List Value),
    List.foldl (fun x1 x2 => x1 ++ x2) acc.toArray (List.replicate k its.toArray) = (acc ++ (List.replicate k its).flatten).toArray
  | 0, acc => by simp
  | k + 1, acc => by
    have e : acc.toArray ++ its.toArray = (acc ++ its).toArray := by simp
    have e2 : (acc ++ its) ++ (List.replicate k its).flatten = acc ++ (List.replicate (k + 1) its).flatten := by
      rw [List.replicate_succ, List.flatten_cons, List.append_assoc]
    rw [← e2, ← foldl_rep its k (acc ++ its), ← e, List.replicate_succ, List.foldl_cons]
section
variable {X : Cx} {pins : List (Addr × Obj)} {σ : St} {H : Hp} {s : Shared} {l b : Addr} {xs ys zs : List V}
theorem Inv.lset {its its' : List Value} {n : Nat} {f : Array Value → Array Value} {t' : Nat} (I : Inv X pins σ H s) (hH : H l = some (.lst xs))
    (e : s.heap.get? l = some { cls := .type "list", data := .seq its.toArray n }) (hf : f its.toArray = its'.toArray) (hv : Vals ys its') (hz : ys.length ≤ sizeLine) :
    Inv X pins σ (upd H l (.lst ys)) { s with heap := s.heap.update l (Obj.mapSeq f), toks := t' } := by
  have q := PySem.IsL.update e f
  rw [hf] at q
  refine I.write (x := l) (e := l) (by rw [hH]; exact trivial) (.inl rfl) (fun b' u hb hu => (Heap.get?_update_other s.heap (Obj.mapSeq f) (Ne.symm hb)).trans hu) ⟨_, q⟩ ?_
  exact ⟨hz, its', _, hv, q⟩
theorem Inv.lnew {its : List Value} {t' : Nat} (I : Inv X pins σ H s) (hv : Vals ys its) (hz : ys.length ≤ sizeLine) :
    Inv X pins σ (upd H s.heap.objs.size (.lst ys)) { s with heap := s.heap.push { cls := .type "list", data := .seq its.toArray }, toks := t' } :=
  I.laid (fun _ _ q => Heap.get?_push_of_some _ q) (Nat.le_refl _) ⟨hz, its, 0, hv, Heap.get?_push_size _ rfl⟩
theorem Inv.fresh (I : Inv X pins σ H s) : H s.heap.objs.size = none := I.hok.fresh (Nat.le_refl _)
theorem Inv.lstM (I : Inv X pins σ H s) (hH : H l = some (.lst xs)) : xs.length ≤ sizeLine ∧ ∃ (its : List Value) (n : Nat), Vals xs its ∧ xs.length = its.length ∧ s.heap.get? l = some { cls := .type "list", data := .seq its.toArray n } := by
  obtain ⟨z, its, n, r, e⟩ := I.hok l _ hH
  exact ⟨z, its, n, r, r.length, e⟩
theorem notLongL {n : Nat} (h : n ≤ sizeLine) : Builtin.List.listTooLong n = false := by
  unfold Builtin.List.listTooLong
  exact decide_eq_false (by omega)
end
section
variable {X : Cx}
def rAppend : V → List V → Hp → VK → Prop := fun x vs H Q => ∃ l xs y, x = .ref l ∧ vs = [y] ∧ H l = some (.lst xs) ∧ xs.length < sizeLine ∧ Q .non (upd H l (.lst (xs ++ [y])))
theorem mt_append : MtM X "list.append" rAppend := by
  intro pins s σ H x vs v us Q I rx rv h
  obtain ⟨l, xs, y, rfl, rfl, hH, hz, q⟩ := h
  cases rx
  obtain ⟨u, rfl, ru⟩ := rv.one
  obtain ⟨z, its, n, r, hl, e⟩ := I.lstM hH
  refine call_meets F.slot_list_append ⟨_, e, rfl⟩ F.entry_list_append (F.args_list_append_2 _ _) (PySem.list_append l its.toArray n u (by rw [List.size_toArray]; omega)) ⟨e, ?_⟩
  refine ⟨.non, _, I.lset (its' := its ++ [u]) hH e (by simp) (r.append (.cons ru .nil)) ?_, rfl, q⟩
  rw [List.length_append, List.length_singleton]
  omega
def rExtend : V → List V → Hp → VK → Prop := fun x vs H Q => ∃ l b xs zs, x = .ref l ∧ vs = [.ref b] ∧ H l = some (.lst xs) ∧ H b = some (.lst zs) ∧ xs.length + zs.length ≤ sizeLine ∧ Q .non (upd H l (.lst (xs ++ zs)))
theorem mt_extend : MtM X "list.extend" rExtend := by
  intro pins s σ H x vs v us Q I rx rv h
  obtain ⟨l, b, xs, zs, rfl, rfl, hH, hB, hz, q⟩ := h
  cases rx
  obtain ⟨u, rfl, ru⟩ := rv.one
  cases ru
  obtain ⟨z, its, n, r, hl, e⟩ := I.lstM hH
  obtain ⟨z2, its2, n2, r2, hl2, e2⟩ := I.lstM hB
  have hsz : its.toArray.size + its2.toArray.size ≤ sizeLine := by rw [List.size_toArray, List.size_toArray]; omega
  have hlong : ¬ (!its.toArray.isEmpty && Builtin.List.listTooLong (its.toArray.size + its2.toArray.size)) = true := by
    rw [notLongL hsz, Bool.and_false]
    exact Bool.false_ne_true
  refine call_meets F.slot_list_extend ⟨_, e, rfl⟩ F.entry_list_extend (F.args_list_extend_2 _ _)
    (AutoSeq1.list_extend_list_list_0 l its.toArray n b its2.toArray n2 hlong (by rw [List.size_toArray]; omega) (by omega)) ⟨e, e2, ?_⟩
  refine ⟨.non, _, I.lset (its' := its ++ its2) hH e (by simp) (r.append r2) ?_, rfl, q⟩
  rw [List.length_append]
  omega
def rPop : V → List V → Hp → VK → Prop := fun x vs H Q => ∃ l xs y, x = .ref l ∧ vs = [] ∧ H l = some (.lst xs) ∧ xs[xs.length - 1]? = some y ∧ Q y (upd H l (.lst xs.dropLast))
theorem mt_pop : MtM X "list.pop" rPop := by
  intro pins s σ H x vs v us Q I rx rv h
  obtain ⟨l, xs, y, rfl, rfl, hH, hy, q⟩ := h
  cases rx
  have hus := rv.zero
  subst hus
  obtain ⟨z, its, n, r, hl, e⟩ := I.lstM hH
  obtain ⟨u, hu, ru⟩ := r.get hy
  have hy' : its.toArray[its.toArray.size - 1]? = some u := by
    show its.toArray[its.length - 1]? = some u
    rw [← Array.getElem?_toList, ← hl]
    exact hu
  refine call_meets F.slot_list_pop ⟨_, e, rfl⟩ F.entry_list_pop (F.args_list_pop_1 _) (MeetsSeq.list_pop_last l its.toArray n u hy' (by rw [List.size_toArray]; omega)) ⟨e, ?_⟩
  refine ⟨y, _, I.lset (its' := its.dropLast) hH e ?_ r.dropLast ?_, ru, q⟩
  · show its.toArray.eraseIdxIfInBounds (its.toArray.size - 1) = its.dropLast.toArray
    rw [List.size_toArray, List.eraseIdxIfInBounds_toArray, erase_last]
  · rw [List.length_dropLast]
    omega
def rPopAt : V → List V → Hp → VK → Prop := fun x vs H Q => ∃ l xs i k y, x = .ref l ∧ vs = [.int i] ∧ H l = some (.lst xs) ∧ -(2 ^ 63) ≤ i ∧ i < 2 ^ 63 ∧ seqIndex? i xs.length = some k ∧ xs[k]? = some y ∧ Q y (upd H l (.lst (xs.eraseIdx k)))
theorem mt_popAt : MtM X "list.pop" rPopAt := by
  intro pins s σ H x vs v us Q I rx rv h
  obtain ⟨l, xs, i, k, y, rfl, rfl, hH, h1, h2, hk, hy, q⟩ := h
  cases rx
  obtain ⟨u, rfl, ru⟩ := rv.one
  obtain ⟨t, rfl⟩ := ru
  obtain ⟨z, its, n, r, hl, e⟩ := I.lstM hH
  obtain ⟨w, hw, rw'⟩ := r.get hy
  refine call_meets F.slot_list_pop ⟨_, e, rfl⟩ F.entry_list_pop (F.args_list_pop_2 _ _)
    (MeetsSeq.list_pop_at l its.toArray n i t k w (fitsIndex_both h1 h2) (by rw [List.size_toArray, ← hl]; exact hk) (by rw [← Array.getElem?_toList]; exact hw) (by rw [List.size_toArray]; omega)) ⟨e, ?_⟩
  refine ⟨y, _, I.lset (its' := its.eraseIdx k) hH e ?_ (r.eraseIdx k) ?_, rw', q⟩
  · show its.toArray.eraseIdxIfInBounds k = (its.eraseIdx k).toArray
    rw [List.eraseIdxIfInBounds_toArray]
  · have := len_erase xs k
    omega
def rRep : R2 := fun x y H Q => ∃ l k xs, x = .ref l ∧ y = .int k ∧ H l = some (.lst xs) ∧ -(2 ^ 63) ≤ k ∧ k < 2 ^ 63 ∧ xs.length * k.toNat ≤ sizeLine ∧
  ∀ p, H p = none → Q (.ref p) (upd H p (.lst (List.replicate k.toNat xs).flatten))
theorem len_rep {α : Type} (xs : List α) (k : Nat) : (List.replicate k xs).flatten.length = k * xs.length := by
  induction k with
  | zero => simp
  | succ k ih => rw [List.replicate_succ, List.flatten_cons, List.length_append, ih, Nat.succ_mul, Nat.add_comm]
theorem op_rep : OpR X (binaryOp .Mult) rRep := by
  intro pins s σ H x y v u Q I rx ry h
  obtain ⟨l, k, xs, rfl, rfl, hH, h1, h2, hz, q⟩ := h
  cases rx
  obtain ⟨t, rfl⟩ := ry
  obtain ⟨z, its, n, r, hl, e⟩ := I.lstM hH
  have hlen : its.toArray.size * k.toNat ≤ sizeLine := by rw [List.size_toArray, ← hl]; exact hz
  have hcap : ¬ its.toArray.size * k.toNat > (2 ^ 63 - 1) / 8 := by
    have : (sizeLine : Nat) ≤ (2 ^ 63 - 1) / 8 := by decide
    omega
  have hfit : ¬ (!Builtin.List.listFitsIndex k) = true := by
    rw [fitsIndex_both h1 h2]
    exact Bool.false_ne_true
  have hlong : ¬ Builtin.List.listTooLong (its.toArray.size * k.toNat) = true := by
    rw [notLongL hlen]
    exact Bool.false_ne_true
  have hnew : List.foldl (fun x1 x2 => x1 ++ x2) #[] (List.replicate (if its.toArray.isEmpty = true then 0 else k.toNat) its.toArray) = (List.replicate k.toNat its).flatten.toArray := by
    have f0 : ∀ m : Nat, List.foldl (fun x1 x2 => x1 ++ x2) #[] (List.replicate m its.toArray) = (List.replicate m its).flatten.toArray := fun m => by
      have := foldl_rep its m []
      rw [List.nil_append] at this
      exact this
    rw [f0]
    cases its with
    | nil => simp
    | cons a r' => rw [if_neg (by simp)]
  refine wpAny_binaryOp_repeat_ref (T := "list") (U := "int") (by decide) ⟨_, e, rfl⟩ (fun s' => typeIs_int s' k t) noFill_list_mul F.fills_int_mul F.slot_int_rmul repeat_list F.slot_int_index.lookup
    (call_meets F.slot_int_rmul (typeIs_int s k t) F.entry_int_rmul (F.args_int_rmul_2 _ _) (int___rmul___int_list k t l its.toArray n)
      ⟨e, rfl, ⟨_, e, rfl⟩, call_meets F.slot_list_mul ⟨_, e, rfl⟩ F.entry_list_mul (F.args_list_mul_2 _ _) (AutoListH.list___mul___list_int_3 l its.toArray n k t hfit hcap hlong) ⟨e, ?_⟩⟩)
  rw [hnew]
  exact ⟨.ref _, _, I.lnew (t' := s.toks) (r.rep k.toNat) (by rw [len_rep, Nat.mul_comm]; exact hz), rfl, q _ I.fresh⟩
end
section
variable {prog : Program} {w : World} {A : Around} {E : Value → Shared → Prop} {s : Shared}
set_option maxRecDepth 100000 in
end
section
variable {X : Cx}
end
end L2
namespace L2
open PySem PySem.Spec PyProof.Rows
section
variable {κ : Type} [DecidableEq κ]
def valV (kvs : List (κ × V)) (k : κ) : Option V := (kvs.find? fun kv => decide (kv.1 = k)).map (·.2)
def putK (kvs : List (κ × V)) (k : κ) (v : V) : List (κ × V) :=
  if (kvs.any fun kv => decide (kv.1 = k)) = true then kvs.map (fun kv => if kv.1 = k then (kv.1, v) else kv) else kvs ++ [(k, v)]
theorem valV_pos {p : κ × V} {r : List (κ × V)} {k : κ} (e : p.1 = k) : valV (p :: r) k = some p.2 := by simp [valV, List.find?_cons, e]
theorem valV_neg {p : κ × V} {r : List (κ × V)} {k : κ} (e : ¬ p.1 = k) : valV (p :: r) k = valV r k := by simp [valV, List.find?_cons, e]
theorem valV_any (k : κ) : ∀ kvs : List (κ × V), (kvs.any fun kv => decide (kv.1 = k)) = (valV kvs k).isSome
  | [] => rfl
  | p :: r => by
    rw [List.any_cons]
    by_cases e : p.1 = k
    · simp only [valV_pos e, decide_eq_true e, Bool.true_or, Option.isSome_some]
    · rw [valV_neg e, decide_eq_false e, Bool.false_or]; exact valV_any k r
theorem length_putK (kvs : List (κ × V)) (k : κ) (v : V) : (putK kvs k v).length ≤ kvs.length + 1 := by
  unfold putK
  split
  · rw [List.length_map]; omega
  · rw [List.length_append, List.length_cons, List.length_nil]; omega
theorem putK_new {kvs : List (κ × V)} {k : κ} (v : V) (h : valV kvs k = none) : putK kvs k v = kvs ++ [(k, v)] := by
  unfold putK
  rw [valV_any, h]
  exact if_neg (by decide)
theorem RelO.isSome_eq {o : Option V} {u : Option Value} (r : RelO o u) : o.isSome = u.isSome := by
  cases o with
  | none => cases u with
    | none => rfl
    | some _ => exact (show False from r).elim
  | some _ => cases u with
    | none => exact (show False from r).elim
    | some _ => rfl
theorem KV.val {kvs : List (κ × V)} {vs : List (κ × Value)} (r : KV kvs vs) (k : κ) : RelO (valV kvs k) (valueAt vs k) := by
  unfold KV at r
  induction r with
  | nil => exact True.intro
  | @cons p q ps qs h t ih =>
    obtain ⟨h1, h2⟩ := h
    by_cases e : p.1 = k
    · have e' : q.1 = k := h1.symm.trans e
      have b : valueAt (q :: qs) k = some q.2 := by simp [valueAt, List.find?_cons, e']
      rw [valV_pos e, b]; exact h2
    · have e' : ¬ q.1 = k := fun z => e (h1.trans z)
      have b : valueAt (q :: qs) k = valueAt qs k := by simp [valueAt, List.find?_cons, e']
      rw [valV_neg e, b]; exact ih
theorem KV.any {kvs : List (κ × V)} {vs : List (κ × Value)} (r : KV kvs vs) (k : κ) : (kvs.any fun kv => decide (kv.1 = k)) = vs.any fun kv => decide (kv.1 = k) := by
  unfold KV at r
  induction r with
  | nil => rfl
  | cons h t ih => rw [List.any_cons, List.any_cons, ih, h.1]
theorem KV.repl {kvs : List (κ × V)} {vs : List (κ × Value)} (r : KV kvs vs) (k : κ) {y : V} {u : Value} (ry : RelV y u) :
    KV (kvs.map fun kv => if kv.1 = k then (kv.1, y) else kv) (vs.map fun kv => if kv.1 = k then (kv.1, u) else kv) := by
  unfold KV at r ⊢
  induction r with
  | nil => exact .nil
  | @cons p q ps qs h t ih =>
    rw [List.map_cons, List.map_cons]
    refine .cons ?_ ih
    obtain ⟨h1, h2⟩ := h
    by_cases e : p.1 = k
    · rw [if_pos e, if_pos (h1.symm.trans e)]; exact ⟨h1, ry⟩
    · rw [if_neg e, if_neg (fun z => e (h1.trans z))]; exact ⟨h1, h2⟩
theorem KV.put {kvs : List (κ × V)} {vs : List (κ × Value)} (r : KV kvs vs) (k : κ) {y : V} {u : Value} (ry : RelV y u) : KV (putK kvs k y) (stored vs k u) := by
  unfold putK stored
  rw [r.any k]
  by_cases e : (vs.any fun kv => decide (kv.1 = k)) = true
  · rw [if_pos e, if_pos e]; exact r.repl k ry
  · rw [if_neg e, if_neg e]; exact Paired.snoc r ⟨rfl, ry⟩
theorem KV.length {kvs : List (κ × V)} {vs : List (κ × Value)} (r : KV kvs vs) : kvs.length = vs.length := Paired.length r
end
theorem kV_is {P : Program} {w : World} {k : Key} {u : Value} (r : RelV (kV k) u) : (mixKind P w).is k u = true := by
  cases k with
  | inl i => obtain ⟨t, e⟩ := (show ∃ t, u = Value.int i t from r); subst e; exact mixKind_int P w i t
  | inr x => obtain ⟨t, e⟩ := (show ∃ t, u = Value.str x t from r); subst e; exact mixKind_str P w x t
theorem items_are {P : Program} {w : World} : ∀ {ks : List Key} {us : List Value}, Vals (ks.map kV) us → ItemsAre (mixKind P w) ks us
  | [], _, r => by rw [List.map_nil] at r; cases r; exact .nil
  | k :: ks, _, r => by
    rw [List.map_cons] at r
    cases r with
    | cons h t => exact .cons (kV_is h) (items_are t)
abbrev KT (H : Hp) : List (List Key × V) → List (List Key × Addr × Value) → Prop := Paired fun p q => p.1 = q.1 ∧ H q.2.1 = some (.tup (p.1.map kV)) ∧ RelV p.2 q.2.2
theorem KT.val {H : Hp} {kvs : List (List Key × V)} {xs : List (List Key × Addr × Value)} (r : KT H kvs xs) (k : List Key) : RelO (valV kvs k) ((atKey xs k).map (·.2)) := by
  induction r with
  | nil => exact True.intro
  | @cons p q ps qs h t ih =>
    obtain ⟨h1, _, h2⟩ := h
    by_cases e : p.1 = k
    · have e' : q.1 = k := h1.symm.trans e
      have b : atKey (q :: qs) k = some q.2 := by simp [atKey, List.find?_cons, e']
      rw [valV_pos e, b]; exact h2
    · have e' : ¬ q.1 = k := fun z => e (h1.trans z)
      have b : atKey (q :: qs) k = atKey qs k := by simp [atKey, List.find?_cons, e']
      rw [valV_neg e, b]; exact ih
theorem KT.repl {H : Hp} {kvs : List (List Key × V)} {xs : List (List Key × Addr × Value)} (r : KT H kvs xs) (k : List Key) {y : V} {u : Value} (ry : RelV y u) :
    KT H (kvs.map fun kv => if kv.1 = k then (kv.1, y) else kv) (xs.map (putAt k u)) := by
  induction r with
  | nil => exact .nil
  | @cons p q ps qs h t ih =>
    rw [List.map_cons, List.map_cons]
    refine .cons ?_ ih
    obtain ⟨h1, h2, h3⟩ := h
    unfold putAt
    by_cases e : p.1 = k
    · rw [if_pos e, if_pos (h1.symm.trans e)]; exact ⟨h1, h2, ry⟩
    · rw [if_neg e, if_neg (fun z => e (h1.trans z))]; exact ⟨h1, h2, h3⟩
theorem KT.put {H : Hp} {kvs : List (List Key × V)} {xs : List (List Key × Addr × Value)} (r : KT H kvs xs) (k : List Key) {b : Addr} {y : V} {u : Value} (hb : H b = some (.tup (k.map kV))) (ry : RelV y u) :
    KT H (putK kvs k y) (storedH xs k b u) := by
  have e : (kvs.any fun kv => decide (kv.1 = k)) = (atKey xs k).isSome := by
    rw [valV_any, (r.val k).isSome_eq, Option.isSome_map]
  unfold putK storedH
  rw [e]
  by_cases q : (atKey xs k).isSome = true
  · rw [if_pos q, if_pos q]; exact r.repl k ry
  · rw [if_neg q, if_neg q]; exact Paired.snoc r ⟨rfl, hb, ry⟩
theorem KT.keeps {H H' : Hp} {kvs : List (List Key × V)} {xs : List (List Key × Addr × Value)} (r : KT H kvs xs) (ht : ∀ b ys, H b = some (.tup ys) → H' b = some (.tup ys)) : KT H' kvs xs :=
  Paired.mapP r fun _ _ z => ⟨z.1, ht _ _ z.2.1, z.2.2⟩
section
variable {P : Program} {w : World} {H : Hp} {h : Heap} {a : Addr}
theorem rd_of {u : HO} (ok : HOk P w H h) (e : Rd H a u) : ObjOk P w H h a u := e.ok ok
theorem dk_rd {kvs : List (Key × V)} (ok : HOk P w H h) (e : Rd H a (.dK kvs)) : kvs.length ≤ sizeLine ∧ (a == sysModules) = false ∧ ∃ vs, KV kvs vs ∧ h.DictOf (mixKind P w) a vs :=
  show ObjOk P w H h a (.dK kvs) from rd_of ok e
theorem dk_of {kvs : List (Key × V)} (ok : HOk P w H h) (e : H a = some (.dK kvs)) : kvs.length ≤ sizeLine ∧ (a == sysModules) = false ∧ ∃ vs, KV kvs vs ∧ h.DictOf (mixKind P w) a vs := dk_rd ok (.inl e)
theorem key_of {ks : List Key} (ok : HOk P w H h) (e : H a = some (.tup (ks.map kV))) : (tupleKind (mixKind P w)).is h ks a := by
  obtain ⟨_, its, r, o, h1, h2, n, h3⟩ := (show ObjOk P w H h a (.tup (ks.map kV)) from ok a _ e)
  exact ⟨o, its.toArray, n, h1, h2, h3, by simpa using items_are r⟩
theorem dt_rd {kvs : List (List Key × V)} (ok : HOk P w H h) (e : Rd H a (.dT kvs)) : kvs.length ≤ sizeLine ∧ (a == sysModules) = false ∧
    ∃ xs, KT H kvs xs ∧ h.DictOfH (tupleKind (mixKind P w)) a xs := by
  obtain ⟨z, y, xs, r, o, es, ep, h1, h2, h3, h4, h5⟩ := (show ObjOk P w H h a (.dT kvs) from rd_of ok e)
  refine ⟨z, y, xs, r, o, es, ep, h1, h2, h3, h4, fun x hx => ?_, h5⟩
  have all : ∀ {l : List (List Key × V)} {m : List (List Key × Addr × Value)}, KT H l m → ∀ x ∈ m, (tupleKind (mixKind P w)).is h x.1 x.2.1 := by
    intro l m q
    induction q with
    | nil => intro x hx; exact nomatch hx
    | @cons p q ps qs hq t ih =>
      intro x hx
      rcases List.mem_cons.mp hx with e | hx
      · subst e
        exact key_of ok (by rw [← hq.1]; exact hq.2.1)
      · exact ih x hx
  exact all r x hx
theorem dt_of {kvs : List (List Key × V)} (ok : HOk P w H h) (e : H a = some (.dT kvs)) : kvs.length ≤ sizeLine ∧ (a == sysModules) = false ∧
    ∃ xs, KT H kvs xs ∧ h.DictOfH (tupleKind (mixKind P w)) a xs := dt_rd ok (.inl e)
end
def DGet (H : Hp) (a : Addr) (y : V) (r : Option V) : Prop :=
  (∃ kvs k, Rd H a (.dK kvs) ∧ y = kV k ∧ r = valV kvs k) ∨ ∃ kvs k b, Rd H a (.dT kvs) ∧ y = .ref b ∧ H b = some (.tup (k.map kV)) ∧ r = valV kvs k
def DPut (H : Hp) (a : Addr) (y v : V) (H' : Hp) : Prop :=
  (∃ kvs k, H a = some (.dK kvs) ∧ y = kV k ∧ kvs.length < sizeLine ∧ H' = upd H a (.dK (putK kvs k v))) ∨
  ∃ kvs k b, H a = some (.dT kvs) ∧ y = .ref b ∧ H b = some (.tup (k.map kV)) ∧ kvs.length < sizeLine ∧ H' = upd H a (.dT (putK kvs k v))
theorem DGet.k {H : Hp} {a : Addr} {kvs : List (Key × V)} {k : Key} (e : H a = some (.dK kvs)) : DGet H a (kV k) (valV kvs k) := .inl ⟨kvs, k, .inl e, rfl, rfl⟩
theorem DPut.k {H : Hp} {a : Addr} {kvs : List (Key × V)} {k : Key} {v : V} (e : H a = some (.dK kvs)) (hl : kvs.length < sizeLine) : DPut H a (kV k) v (upd H a (.dK (putK kvs k v))) := .inl ⟨kvs, k, e, rfl, hl, rfl⟩
section
variable {X : Cx} {pins : List (Addr × Obj)} {σ : St} {H : Hp} {s : Shared} {a : Addr} {y v : V} {u r : Value} {o : Option V} {A : Around} {E : Value → Shared → Prop}
theorem Inv.big (I : Inv X pins σ H s) : sysModules < s.heap.objs.size := by
  have h : mainGlobals < s.heap.objs.size := (I.mod.glob.keeps I.bk).lt
  exact Nat.lt_trans (by decide) h
theorem d_in {Q : Value → Shared → Prop} (hu : A.units + 1 < cLine) (I : Inv X pins σ H s) (g : DGet H a y o) (ry : RelV y u) (h : ∀ s', Inv X pins σ H s' → Q (.bool o.isSome) s') :
    wpAny (model X.prog X.w) A (compareOp .In u (.ref a)) Q E s := by
  rcases g with ⟨kvs, k, e, ey, l⟩ | ⟨kvs, k, b, e, ey, eb, l⟩
  · subst ey
    obtain ⟨z, hd, vs, rel, dd⟩ := dk_rd I.hok e
    refine wpAny_in_of (kV_is ry) hd dd.mapOf ?_
    rw [← (rel.val k).isSome_eq, ← l]
    exact h _ (I.tok _)
  · subst ey
    cases (show u = Value.ref b from ry)
    obtain ⟨z, hd, xs, rel, dd⟩ := dt_rd I.hok e
    refine wpAny_in_heap (tupleKind_room_in1 hu) (key_of I.hok eb) hd dd ?_
    have q := (rel.val k).isSome_eq
    rw [Option.isSome_map] at q
    rw [← q, ← l]
    exact h _ (I.tok _)
theorem d_notIn {Q : Value → Shared → Prop} (hu : A.units + 1 < cLine) (I : Inv X pins σ H s) (g : DGet H a y o) (ry : RelV y u) (h : ∀ s', Inv X pins σ H s' → Q (.bool (!o.isSome)) s') :
    wpAny (model X.prog X.w) A (compareOp .NotIn u (.ref a)) Q E s := by
  rcases g with ⟨kvs, k, e, ey, l⟩ | ⟨kvs, k, b, e, ey, eb, l⟩
  · subst ey
    obtain ⟨z, hd, vs, rel, dd⟩ := dk_rd I.hok e
    refine wpAny_notIn_of (kV_is ry) hd dd.mapOf ?_
    rw [← (rel.val k).isSome_eq, ← l]
    exact h _ (I.tok _)
  · subst ey
    cases (show u = Value.ref b from ry)
    obtain ⟨z, hd, xs, rel, dd⟩ := dt_rd I.hok e
    refine wpAny_notIn_heap (tupleKind_room_in1 hu) (key_of I.hok eb) hd dd ?_
    have q := (rel.val k).isSome_eq
    rw [Option.isSome_map] at q
    rw [← q, ← l]
    exact h _ (I.tok _)
theorem d_write {h' : Heap} {t' : Nat} {ob : HO} (I : Inv X pins σ H s) (mu : Mut (H a)) (hs : Heap.SameBut a s.heap h') (he : ∃ q, h'.get? a = some q) (new : ObjOk X.prog X.w (upd H a ob) h' a ob) :
    Inv X pins σ (upd H a ob) { s with heap := h', toks := t' } :=
  I.write (x := a) (e := a) mu (.inl rfl) (fun b q hb z => (hs.2 b hb).trans z) he new
theorem dk_new {P : Program} {w : World} {H' : Hp} {h' : Heap} {kvs : List (Key × V)} {vs : List (Key × Value)} (z : kvs.length ≤ sizeLine) (hd : (a == sysModules) = false) (rel : KV kvs vs) (dd : h'.DictOf (mixKind P w) a vs) :
    ObjOk P w H' h' a (.dK kvs) := ⟨z, hd, vs, rel, dd⟩
theorem d_setItem {H' : Hp} {Q : Unit → Shared → Prop} (hu : A.units + 1 < cLine) (I : Inv X pins σ H s) (g : DPut H a y v H') (ry : RelV y u) (rv : RelV v r) (h : ∀ s', Inv X pins σ H' s' → Q () s') :
    wpAny (model X.prog X.w) A (setItem (.ref a) u r) Q E s := by
  rcases g with ⟨kvs, k, e, ey, l, eH⟩ | ⟨kvs, k, b, e, ey, eb, l, eH⟩
  · subst ey eH
    obtain ⟨z, hd, vs, rel, dd⟩ := dk_of I.hok e
    have hz : vs.length ≤ sizeLine := by rw [← rel.length]; exact z
    have hl : (putK kvs k v).length ≤ sizeLine := by have := length_putK kvs k v; omega
    refine wpAny_setItem_pairs (hsz := hz) (kV_is ry) dd fun h' dd' hs => h _ ?_
    have he : ∃ q, h'.get? a = some q := let ⟨q, _, _, hq, _⟩ := dd'; ⟨q, hq⟩
    exact d_write I (by rw [e]; exact True.intro) hs he (dk_new hl hd (rel.put k rv) dd')
  · subst ey eH
    cases (show u = Value.ref b from ry)
    obtain ⟨z, hd, xs, rel, dd⟩ := dt_of I.hok e
    have hz : xs.length ≤ sizeLine := by rw [← Paired.length rel]; exact z
    have hl : (putK kvs k v).length ≤ sizeLine := by have := length_putK kvs k v; omega
    refine wpAny_setItem_heap (hsz := hz) (tupleKind_room_in1 hu) (key_of I.hok eb) dd fun h' dd' hs => h _ ?_
    obtain ⟨q, es, ep, hq, h2, h3, h4, _, h5⟩ := dd'
    refine d_write I (by rw [e]; exact True.intro) hs ⟨q, hq⟩ ⟨hl, hd, _, (rel.put k eb rv).keeps fun c ys ec => ?_, q, es, ep, hq, h2, h3, h4, h5⟩
    rw [upd_ne (ne_of ec e (fun z => nomatch z))]
    exact ec
end
section
variable {X : Cx} {pins : List (Addr × Obj)} {σ : St} {H : Hp} {s : Shared} {a : Addr} {kvs : List (Key × V)} {k : Key} {u : Value} {A : Around} {E : Value → Shared → Prop}
end
def tDIn (ty td : TE) : TE := fun σ H Q => ty σ H fun y H1 => td σ H1 fun x H2 => ∃ a o, x = .ref a ∧ DGet H2 a y o ∧ Q (.bl o.isSome) H2
def tDNotIn (ty td : TE) : TE := fun σ H Q => ty σ H fun y H1 => td σ H1 fun x H2 => ∃ a o, x = .ref a ∧ DGet H2 a y o ∧ Q (.bl (!o.isSome)) H2
def sDPut (td ty tv : TE) : TS := fun D σ H => tv σ H fun v H1 => td σ H1 fun x H2 => ty σ H2 fun y H3 => ∃ a H4, x = .ref a ∧ DPut H3 a y v H4 ∧ D.nx σ H4
section
variable {X : Cx} {o i e value : Expr} {pos pos' tpos : Pos} {td ty tv : TE}
theorem pc_din (hu : X.A.units + 1 < cLine) (hi : PE X i ty) (ho : PE X o td) : PC X .In i o (tDIn ty td) := by
  intro pins s σ H Q I h
  refine thn (hi pins s σ H _ I h) fun iv s1 ⟨y, H1, I1, ry, q1⟩ => thn (ho pins s1 σ H1 _ I1 q1) fun u s2 ⟨x, H2, I2, rx, a, ov, ex, g, q2⟩ => ?_
  subst ex
  obtain rfl : u = Value.ref a := rx
  exact d_in hu I2 g ry fun s3 I3 => ⟨.bl ov.isSome, H2, I3, rfl, q2⟩
theorem pc_dnotin (hu : X.A.units + 1 < cLine) (hi : PE X i ty) (ho : PE X o td) : PC X .NotIn i o (tDNotIn ty td) := by
  intro pins s σ H Q I h
  refine thn (hi pins s σ H _ I h) fun iv s1 ⟨y, H1, I1, ry, q1⟩ => thn (ho pins s1 σ H1 _ I1 q1) fun u s2 ⟨x, H2, I2, rx, a, ov, ex, g, q2⟩ => ?_
  subst ex
  obtain rfl : u = Value.ref a := rx
  exact d_notIn hu I2 g ry fun s3 I3 => ⟨.bl (!ov.isSome), H2, I3, rfl, q2⟩
theorem ps_dput (hu : X.A.units + 1 < cLine) (ho : PE X o td) (hi : PE X i ty) (hv : PE X value tv) (hs : swapsWith value (some (.Subscript o i pos')) pos.line X.env = pure false) :
    PS X (.Assign [.Subscript o i pos'] value pos) (sDPut td ty tv) := by
  intro pins s σ H D I h
  refine wpAny_Assign_Subscript (thn (hv pins s σ H _ I h) fun r s1 ⟨v, H1, I1, rv, q1⟩ => thn (ho pins s1 σ H1 _ I1 q1) fun u s2 ⟨x, H2, I2, rx, q2⟩ => thn (hi pins s2 σ H2 _ I2 q2) fun iv s3 ⟨y, H3, I3, ry, a, H4, ex, g, q3⟩ => ?_) hs
  subst ex
  obtain rfl : u = Value.ref a := rx
  exact d_setItem hu I3 g ry rv fun s4 I4 => ⟨σ, H4, I4, q3⟩
end
theorem dk_empty {P : Program} {w : World} {H : Hp} (h : Heap) (hb : sysModules < h.objs.size) : ObjOk P w H (h.push { cls := .type "dict", data := .dict #[] }) h.objs.size (.dK []) :=
  ⟨Nat.zero_le _, beq_eq_false_iff_ne.mpr (Ne.symm (Nat.ne_of_lt hb)), [], .nil, Heap.DictOf.new h⟩
def tDNewK : TE := fun _ H Q => ∀ p, H p = none → Q (.ref p) (upd H p (.dK []))
section
variable {X : Cx} {pos : Pos}
theorem pe_dnewK : PE X (.Dict [] [] pos) tDNewK := fun pins s σ H Q I h =>
  wpAny_Dict_empty ⟨.ref s.heap.objs.size, _, I.laid (a := s.heap.objs.size) (o := .dK []) (t' := s.toks) (fun _ _ q => Heap.get?_push_of_some _ q) (Nat.le_refl _) (dk_empty s.heap I.big), rfl, h _ (I.hok.fresh (Nat.le_refl _))⟩
end
section
variable {X : Cx} {pins : List (Addr × Obj)} {σ : St} {H : Hp} {s : Shared} {a : Addr} {y d : V} {u r : Value} {o : Option V} {A : Around} {E : Value → Shared → Prop}
end
section
variable {X : Cx} {o e f : Expr} {apos cpos : Pos} {td ty tx : TE}
end
section
variable {X : Cx} {pins : List (Addr × Obj)} {σ : St} {H : Hp} {s : Shared} {a : Addr} {kvs : List (Key × V)} {A : Around} {E : Value → Shared → Prop}
end
section
variable {X : Cx} {pins : List (Addr × Obj)} {σ : St} {H : Hp} {s : Shared} {a : Addr} {y : V} {u : Value} {A : Around} {E : Value → Shared → Prop}
end
end L2
namespace Att
open PySem PySem.W PySem.Calls PyProof.Rows
theorem ints_of_wellAll {P : Params} {h : Heap} : ∀ (ns : List Int) (vs : List Value), WellAll P h vs (ns.map WData.int) → IntsAre vs ns := by
  intro ns
  induction ns with
  | nil =>
    intro vs w
    rw [List.map_nil] at w
    cases w
    exact .nil
  | cons n ns ih =>
    intro vs w
    rw [List.map_cons] at w
    cases w with
    | cons a b =>
      cases a
      exact .cons _ _ (ih _ b)
theorem script_of {l : OpenLaw} {n : Nat} (hn : l.most = some n) {P : Params} {h : Heap} {args : List WData} {vals : List Value}
    (hpre : l.row.toRowW.claim.pre args = true) (hwl : WellAll P h vals args) :
    ∃ a vs ns, vals = [Value.ref a] ∧ args = [WData.list (ns.map WData.int)] ∧ h.get? a = some { cls := .type "list", data := .seq vs.toArray } ∧ IntsAre vs ns ∧ ns.length ≤ n := by
  have hsh : WShape.hasAll [] args [.list .int] = true := (pre_splitW hpre).1
  have hc : l.pre.holds [] { args := args } = true := (pre_splitW hpre).2
  obtain ⟨d, r, rfl, h1, h2⟩ := hasAllW_cons hsh
  obtain rfl := hasAllW_nil h2
  obtain ⟨xs, rfl, h3⟩ := hasW_list h1
  obtain ⟨ns, rfl⟩ := items_int h3
  have hlen : ns.length ≤ n := by
    unfold OpenLaw.pre at hc
    have h4 : (WTm.not (.lt (.lit (.int (n : Int))) (.len (.arg 0)))).holds [] { args := [.list (ns.map .int)] } = true := by
      have h4 := (holds_andW hc).1
      rw [hn] at h4
      exact h4
    have h5 := condW_of h4 (w_not (w_lt w_lit (w_len_list (w_arg rfl))))
    rw [List.length_map] at h5
    refine Nat.le_of_not_lt fun q => ?_
    have q' : (n : Int) < ((ns.length : Nat) : Int) := by omega
    first
      | (rw [decide_eq_true q'] at h5; exact absurd h5 (by decide))
      | (simp at h5; omega)
  cases hwl with
  | cons w1 w2 =>
    cases w2
    cases w1 with
    | list ho hall => exact ⟨_, _, ns, rfl, rfl, ho, ints_of_wellAll ns _ hall, hlen⟩
theorem post_true (l : OpenLaw) (args : List WData) : l.row.toRowW.claim.post args (.bool true) args = true :=
  postW_of (r := l.row.toRowW) (X := (true == true))
    (show WShape.has [] (.bool true) .bool = true by first | rfl | decide | simp [WShape.has, WShape.arms, WShape.armsAll])
    (show (WTm.eq .res (.lit (.bool true))).value [] { args := args, res := some (.bool true), after := args } = some (.bool (true == true)) from w_eq_bool (w_res rfl) w_lit) rfl
theorem attach_call {l : OpenLaw} {n : Nat} {q : Program} {loose : List Str} {XP : (Str → Option Value) → Heap → Prop} {YP : World → Heap → Prop} {d : DefRec}
    (hn : l.most = some n) (hdf : d.params.defaults = [])
    (call : ∀ (w : World) (s₀ s₁ : Shared) (mg mb : Str → Option Value) (fa : Addr) (o : Obj) (pm cd doc : Value) (a : Addr) (vs : List Value) (ns : List Int),
      Ground q loose [] XP w s₀ mg mb s₁.heap → YP w s₁.heap →
      s₁.heap.get? fa = some o → o.data = .func (docDef d.name d.params d.body d.scope pm cd doc) → s₁.heap.CodeRec cd d.name → mg d.name = some (.ref fa) →
      s₁.heap.get? a = some { cls := .type "list", data := .seq vs.toArray } → IntsAre vs ns → ns.length ≤ n → s₁.gens = #[] →
      codeAny (model l.prog w) callerA (.call (.ref fa) ⟨[.ref a], []⟩) (fun r s' => r = .ok (.ret (.bool true)) ∧ OldK s₁.heap s'.heap ∧ s'.os = s₁.os ∧ AllBare s'.gens) s₁) :
    WalkO q loose XP YP l.row.toRowW d [] (fun f vs => PySem.call f vs) := by
  intro w s₀ s₁ mg mb G Y fa o pm cd doc dV kV ho hd hcd hD hmg hg args vals as hpre hlay hrd hwl hlo
  obtain rfl : dV = .none := Dflts.none hD hdf
  obtain rfl : kV = .none := Dflts.noKw hD
  obtain ⟨a, vs, ns, rfl, rfl, hobj, hints, hlen⟩ := script_of hn hpre hwl
  refine enter_call (codeAny_mono (call w s₀ s₁ mg mb fa o pm cd doc a vs ns G Y ho (fd_plain hd) hcd hmg hobj hints hlen hg) fun r s' hq => ?_)
  obtain ⟨rfl, h2, h3, h4⟩ := hq
  exact ⟨.inl ⟨.bool true, .bool true, [], rfl, fun _ => rfl, .bool true, post_true l _, fun _ => ⟨List.Pairwise.nil, fun _ hm => (nomatch hm)⟩⟩, h2, h3, h4⟩
section
variable {prog : Program} {w : World} {A : Around} {E : Value → Shared → Prop} {s : Shared} {K : Frag}
end
end Att
namespace L2
open PySem PySem.Spec PyProof.Rows
theorem vals_ints : ∀ {vs : List Value} {ns : List Int}, IntsAre vs ns → Vals (ns.map V.int) vs
  | _, _, .nil => .nil
  | _, _, .cons n t h => .cons ⟨t, rfl⟩ (vals_ints h)
def Only (H : Hp) : Prop := ∀ b, H b = none ∨ ∃ o xs, H b = some (.frz o (.lst xs))
theorem law_call {P : Program} {w : World} {K : PySem.W.Frag} {mg mb : Str → Option Value} {CX : CXT} {k : Nat} {fa a : Addr} {fd : FuncData} {x : Str} {sp : Sp} {s₁ : Shared} {vs : List Value} {ns : List Int}
    (KX : K.In s₁.heap) (hns : s₁.heap.Ns mainGlobals mg) (hb : s₁.heap.Ns builtinsNs mb) (hbb : ∀ x : Str, x ≠ "__name__" → mb x = bootBuiltins x) (hlim : s₁.heap.NoLimit) (hg : s₁.gens = #[])
    (ha : s₁.heap.get? a = some { cls := .type "list", data := .seq vs.toArray }) (hi : IntsAre vs ns) (hl : ns.length ≤ sizeLine) (hr : Room k callerA)
    (F : ∀ base : Heap, K.In base → base.Ns mainGlobals mg → FnOk P w K mg base CX k fa fd [x] sp) (hbind : ∀ (s : Shared) (u : Value), BindsTo s fd ⟨[u], []⟩ [(x, u)])
    (hsp : ∀ H : Hp, Only H → SqL K H a (ns.map V.int) → sp [.ref a] H (fun v _ => v = .bl true) fun _ _ _ => False)
    (hCX : ∀ H e s', CX [] H s₁ (fun _ _ _ => False) e s' → False) :
    codeAny (model P w) callerA (.call (.ref fa) ⟨[.ref a], []⟩) (fun r s' => r = .ok (.ret (.bool true)) ∧ OldK s₁.heap s'.heap ∧ s'.os = s₁.os ∧ AllBare s'.gens) s₁ := by
  have rv := vals_ints hi
  have lenV := hi.length
  have core : ∀ H : Hp, Only H → SqL K H a (ns.map V.int) → HOk P w H s₁.heap → (∀ b, H b ≠ none → b = a) → (H a ≠ none → K.lookup a = none) →
      codeAny (model P w) callerA (.call (.ref fa) ⟨[.ref a], []⟩) (fun r s' => r = .ok (.ret (.bool true)) ∧ OldK s₁.heap s'.heap ∧ s'.os = s₁.os ∧ AllBare s'.gens) s₁ := by
    intro H hO hS hok hA hK
    have base_of : ∀ {b : Addr} {o : Obj}, s₁.heap.get? b = some o → H b = none → (hidT s₁.heap H).get? b = some o := fun e n => hidT_get e n
    have noA : ∀ {b : Addr} {o : Obj} {es : Array DictEntry} {ep : Nat}, s₁.heap.get? b = some o → o.data = .dict es ep → H b = none := fun {b o es ep} e d => by
      cases q : H b with
      | none => rfl
      | some u =>
        have e' : b = a := hA b (by rw [q]; simp)
        subst e'
        rw [ha] at e; cases e
        have d' : Data.seq vs.toArray _ = Data.dict es ep := d
        cases d'
    have nsK : ∀ {b : Addr} {m : Str → Option Value}, s₁.heap.Ns b m → (hidT s₁.heap H).Ns b m := fun {b m} ⟨o, es, ep, e, d, r⟩ => ⟨o, es, ep, base_of e (noA e d), d, r⟩
    have hKb : K.In (hidT s₁.heap H) := fun b o e => base_of (KX b o e) (by
      cases q : H b with
      | none => rfl
      | some u =>
        have e' : b = a := hA b (by rw [q]; simp)
        subst e'
        rw [hK (by rw [q]; simp)] at e; cases e)
    have hM : Mod K mg (hidT s₁.heap H) := ⟨hKb, nsK hns, ⟨mb, nsK hb, hbb⟩, let ⟨mc, h1, h2⟩ := hlim; ⟨mc, nsK h1, h2⟩⟩
    have e0 : Env0 P w K mg (hidT s₁.heap H) callerA [] s₁ H := ⟨rfl, hM, fun b o e => of_hidT e, Nat.le_of_eq (hidT_size _ _), trivial, fun b hb => absurd (show b ∈ ([] : List Addr) from hb) (by simp), hok, .of_eq hg⟩
    refine codeAny_mono ((F _ hKb (nsK hns)).run callerA [] s₁ H ⟨[.ref a], []⟩ [.ref a] [.ref a] _ _ hr e0 (hbind s₁ (.ref a)) (.cons rfl .nil) (hsp H hO hS)) fun r s' h => ?_
    cases r with
    | error e => exact (hCX H e s' h).elim
    | ok fl =>
      cases fl with
      | next => exact False.elim h
      | brk => exact False.elim h
      | cont => exact False.elim h
      | ret u =>
        obtain ⟨v, H', os, bare, un, hok', r', q⟩ := h
        have q' : v = .bl true := q
        subst q'
        obtain rfl : u = Value.bool true := r'
        refine ⟨rfl, OldK.of_keep fun b o e => ?_, os, bare⟩
        cases q : H b with
        | none => exact un.keep b o e q (by intro z; exact absurd (show b ∈ ([] : List Addr) from z) (by simp)) (by simp)
        | some u =>
          rcases hO b with z | ⟨ob, xs, z⟩
          · rw [q] at z; cases z
          · have z2 := un.frzs b ob _ z
            obtain ⟨e1, _⟩ := hok b _ z
            obtain ⟨e2, _⟩ := hok' b _ z2
            rw [e] at e1; cases e1
            exact e2
  cases hk : K.lookup a with
  | some o =>
    have e := KX a o hk
    rw [ha] at e
    cases e
    refine core (fun _ => none) (fun _ => .inl rfl) (.inr ⟨_, vs.toArray, _, hk, rfl, rfl, rfl, by rw [List.size_toArray, lenV]; exact hl, by simpa using rv⟩) (fun b u z => by have z' : (none : Option HO) = some u := z; cases z') (fun b z => absurd rfl z) fun z => absurd rfl z
  | none =>
    refine core (fun b => if b = a then some (.frz { cls := .type "list", data := .seq vs.toArray } (.lst (ns.map V.int))) else none) (fun b => ?_) (.inl (.inr ⟨{ cls := .type "list", data := .seq vs.toArray }, if_pos rfl⟩)) (fun b u z => ?_) (fun b z => ?_) fun _ => hk
    · by_cases hb : b = a
      · exact .inr ⟨_, _, if_pos hb⟩
      · exact .inl (if_neg hb)
    · by_cases hb : b = a
      · have z' := (if_pos hb).symm.trans z
        cases z'
        subst hb
        exact ⟨ha, by rw [List.length_map]; exact hl, vs, _, rv, ha⟩
      · have z' := (if_neg hb).symm.trans z
        cases z'
    · by_cases hb : b = a
      · exact hb
      · exact absurd (if_neg hb) z
end L2
namespace L2
open PySem PySem.Spec PyProof.Rows
theorem walk_of {l : PySem.W.OpenLaw} {n k : Nat} {q : Program} {loose : List Str} {XP : (Str → Option Value) → Heap → Prop} {YP : World → Heap → Prop} {d : DefRec} {K : Params → PySem.W.Frag} {CX : World → CXT} {sp : World → Sp} {x : Str}
    (hn : l.most = some n) (hn2 : n ≤ sizeLine) (hdf : d.params.defaults = []) (hr : Room k callerA)
    (hY : ∀ (w : World) (h : Heap), YP w h → (K w.params).In h)
    (F : ∀ (w : World) (mg : Str → Option Value) (fa : Addr) (h : Heap), (K w.params).In h → h.Ns mainGlobals mg → mg d.name = some (.ref fa) →
      ∃ fd : FuncData, (∀ (s : Shared) (u : Value), BindsTo s fd ⟨[u], []⟩ [(x, u)]) ∧
        ∀ base : Heap, (K w.params).In base → base.Ns mainGlobals mg → FnOk l.prog w (K w.params) mg base (CX w) k fa fd [x] (sp w))
    (hsp : ∀ (w : World) (H : Hp) (a : Addr) (ns : List Int), ns.length ≤ n → Only H → SqL (K w.params) H a (ns.map V.int) → sp w [.ref a] H (fun v _ => v = .bl true) fun _ _ _ => False)
    (hCX : ∀ (w : World) (H : Hp) (s : Shared) (e : Value) (s' : Shared), CX w [] H s (fun _ _ _ => False) e s' → False) :
    PySem.W.WalkO q loose XP YP l.row.toRowW d [] (fun f vs => PySem.call f vs) := by
  refine Att.attach_call hn hdf fun w s₀ s₁ mg mb fa o pm cd doc a vs ns G Y ho hd hcd hmg hobj hints hlen hg => ?_
  have KX := hY w _ Y
  obtain ⟨fd, hb, hF⟩ := F w mg fa _ KX G.T.g hmg
  exact law_call KX G.T.g G.T.b G.T.builtins G.T.nolimit hg hobj hints (Nat.le_trans hlen hn2) hr hF hb (fun H hO hS => hsp w H a ns hlen hO hS) fun H e s' => hCX w H s₁ e s'
end L2
namespace L2
open PySem PySem.Spec PyProof.Rows
def defArgs (s : Stmt) : Arguments := match s with
  | .FunctionDef _ a _ _ _ _ _ _ _ _ => a
  | _ => { posonlyargs := [], args := [], vararg := none, kwonlyargs := [], kw_defaults := [], kwarg := none, defaults := [] }
def defBody (s : Stmt) : List Stmt := match s with
  | .FunctionDef _ _ b _ _ _ _ _ _ _ => b
  | _ => []
def defScope (s : Stmt) : Scope := match s with
  | .FunctionDef _ _ _ _ _ _ sc _ _ _ => sc
  | _ => { kind := .function, names := [], isGenerator := false, isCoroutine := false }
abbrev CX0 : CXT := fun _ _ _ _ _ _ => False
abbrev E0 : XK := fun _ _ _ => False
theorem pass0 {X : Cx} : Passes CX0 X E0 := fun _ _ _ _ _ _ _ h => h.elim
structure Fun (K : PySem.W.Frag) (x qual : Str) (st : Stmt) (f : Addr) (fd : FuncData) : Prop where
  ex : ∃ (oc : Value) (od : Option Addr) (kV doc pm : Value) (an : Option Addr) (cdv ct : Value) (osl : Array (Option Value)),
    fd = PySem.W.fnOf x qual (defArgs st) (defBody st) (defScope st) .none kV doc pm an cdv ct ∧ K.lookup f = some ⟨oc, od, .func fd, osl⟩ ∧ PySem.W.codeIn K cdv qual = true
  kp : PySem.W.keepIn K (.ref f) = true
section
variable {P : Program} {w : World} {K : PySem.W.Frag} {mg : Str → Option Value} {base : Heap}
theorem Fun.ok {x qual : Str} {st : Stmt} {f : Addr} {fd : FuncData} {N ps : List Str} {k : Nat} {sp : Sp} (F : Fun K x qual st f fd) (S : FnScope N ps (defScope st)) (len : ∀ vs H Q E, sp vs H Q E → vs.length = ps.length)
    (hbody : ∀ (cdv : Value) (A : Around) (outer : List Env) (s : Shared) (H : Hp) (vs : List V) (Q : VK) (E : XK), Room k (A.deeper (envOfC qual (defScope st) s.heap.objs.size f cdv)) → sp vs H Q E →
      ∃ t, PSs (cxOf CX0 P w K mg base N qual (defScope st) f cdv A outer s H E).nox (defBody st) t ∧ t { nx := fun _ H' => Q .non H', rt := Q } (start N vs) H) : FnOk P w K mg base CX0 (k + 1) f fd ps sp := by
  obtain ⟨oc, od, kV, doc, pm, an, cdv, ct, osl, rfl, lk, hcd⟩ := F.ex
  refine fn_of lk hcd S len fun A outer s H vs Q E hr hsp => ?_
  obtain ⟨t, h, q⟩ := hbody cdv A outer s H vs Q E hr hsp
  exact ⟨t, h.nox, q⟩
theorem Fun.binds {x qual : Str} {st : Stmt} {f : Addr} {fd : FuncData} {ps : List Str} (F : Fun K x qual st f fd)
    (h : ∀ (kV doc pm : Value) (an : Option Addr) (cdv ct : Value) (us : List Value), us.length = ps.length → bindArgs (PySem.W.fnOf x qual (defArgs st) (defBody st) (defScope st) .none kV doc pm an cdv ct) ⟨us, []⟩ = pure (ps.zip us)) : Binds K fd ps [] := by
  obtain ⟨oc, od, kV, doc, pm, an, cdv, ct, osl, rfl, lk, hcd⟩ := F.ex
  exact .all (h kV doc pm an cdv ct)
theorem fun_mk {x qual : Str} {st : Stmt} {f : Addr} {oc : Value} {od an : Option Addr} {osl : Array (Option Value)} {kV doc pm cdv ct : Value} (l : K.lookup f = some ⟨oc, od, .func (PySem.W.fnOf x qual (defArgs st) (defBody st) (defScope st) .none kV doc pm an cdv ct), osl⟩)
    (c : PySem.W.codeIn K cdv qual = true) (k : PySem.W.keepIn K (.ref f) = true) : Fun K x qual st f (PySem.W.fnOf x qual (defArgs st) (defBody st) (defScope st) .none kV doc pm an cdv ct) := ⟨⟨oc, od, kV, doc, pm, an, cdv, ct, osl, rfl, l, c⟩, k⟩
end
theorem hu_of {A : Around} {k : Nat} (hr : Room k A) : A.units + 1 < cLine := Nat.lt_of_le_of_lt (Nat.add_le_add_left (by decide : 1 ≤ 64) _) hr.units
theorem small1000 {n : Nat} (h : n ≤ 1000) : n < sizeLine := Nat.lt_of_le_of_lt h (by decide)
section
variable {X : Cx}
theorem pv (i : Nat) {x : Str} {pos : Pos} (hN : X.N[i]? = some x := by rfl) (hv : Vis X.env.scope x := by first | exact Or.inl rfl | exact Or.inr (Or.inl rfl) | exact Or.inr (Or.inr rfl)) (hd : (x == ("__debug__" : Str)) = false := by decide)
    (hcd : (x == ("__classdict__" : Str)) = false := by decide) : PE X (.Name x pos) (tVar i) := pe_var hN hv hd hcd
end
theorem iteF {A B : Prop} (h : B) : if false = true then A else B := by
  rw [if_neg Bool.false_ne_true]
  exact h
theorem iteT {A B : Prop} (h : A) : if true = true then A else B := by
  rw [if_pos rfl]
  exact h
theorem ite2 {c A B : Prop} [Decidable c] (h1 : c → A) (h2 : ¬ c → B) : if c then A else B := by
  by_cases h : c
  · rw [if_pos h]
    exact h1 h
  · rw [if_neg h]
    exact h2 h
theorem iteNS {c A B : Prop} [Decidable c] (hc : c) (h : B) : if (!decide c) = true then A else B := by
  rw [decide_eq_true hc]
  exact iteF h
def Same (H H' : Hp) : Prop := ∀ b o, H b = some o → H' b = some o
theorem Same.refl (H : Hp) : Same H H := fun _ _ h => h
theorem Same.trans {H H1 H2 : Hp} (a : Same H H1) (b : Same H1 H2) : Same H H2 := fun c o h => b c o (a c o h)
theorem Same.free {H H' : Hp} (e : Same H H') {l : Addr} (h : H' l = Option.none) : H l = Option.none := by
  cases q : H l with
  | none => rfl
  | some o =>
    rw [e l o q] at h
    cases h
theorem Same.seq {K : PySem.W.Frag} {H H' : Hp} {a : Addr} {xs : List V} (e : Same H H') (h : SqL K H a xs) : SqL K H' a xs := by
  rcases h with (h | ⟨o, h⟩) | h
  · exact .inl (.inl (e _ _ h))
  · exact .inl (.inr ⟨o, e _ _ h⟩)
  · exact .inr h
section
variable {X : Cx}
end
section
variable {κ : Type} [DecidableEq κ]
theorem nd_snoc : ∀ {l : List κ} {k : κ}, l.Nodup → ¬ k ∈ l → (l ++ [k]).Nodup
  | [], k, _, _ => by simp
  | a :: r, k, h, hk => by
    obtain ⟨h1, h2⟩ := List.nodup_cons.mp h
    show (a :: (r ++ [k])).Nodup
    refine List.nodup_cons.mpr ⟨fun m => ?_, nd_snoc h2 fun m => hk (List.mem_cons.mpr (Or.inr m))⟩
    rcases List.mem_append.mp m with q | q
    · exact h1 q
    · exact hk (List.mem_cons.mpr (Or.inl (List.mem_singleton.mp q).symm))
end
end L2
set_option maxHeartbeats 8000000
namespace L2
open PySem PySem.Spec PyProof.Rows
def compCx (X : Cx) (N : List Str) (scope : Scope) (cl : List (Str × Addr)) (C : Addr) (s0 : Shared) (H0 : Hp) (ex : List Addr) : Cx :=
  { X with N := N, s₀ := s0, H₀ := H0, env := compEnvC scope cl C X.env, outer := X.stack, stack := X.stack, ex := ex, fn := fun _ => false, pn := [], xe := fun _ _ => False }
def compSt (nl : Nat) (fr : List Nat) (σ : St) : St := List.replicate nl none ++ fr.map fun j => (σ[j]?).join
def closOf (env : Env) : List (Str × NameKind) → List (Str × Addr) → List (Str × Addr)
  | [], cs => cs
  | (n, k) :: r, cs => closOf env r (if (k == NameKind.free) = true then (n, (env.cells.lookup n).getD 0) :: cs else cs)
theorem closOf_sub (env : Env) : ∀ (ns : List (Str × NameKind)) (cs : List (Str × Addr)), (∀ p ∈ ns, p.2 = .free → ∃ c, env.cells.lookup p.1 = some c) → (∀ y c, cs.lookup y = some c → env.cells.lookup y = some c) →
    ∀ y c, (closOf env ns cs).lookup y = some c → env.cells.lookup y = some c
  | [], cs, _, h, y, c, e => h y c e
  | (n, k) :: r, cs, hn, h, y, c, e => by
    unfold closOf at e
    refine closOf_sub env r _ (fun p hp => hn p (List.mem_cons_of_mem _ hp)) ?_ y c e
    intro z d ez
    split at ez
    · rename_i hk
      rw [List.lookup_cons] at ez
      cases hz : z == n with
      | true =>
        rw [hz] at ez
        have hzn : z = n := eq_of_beq hz
        subst hzn
        have hkf : k = .free := by simpa using hk
        obtain ⟨c', hc'⟩ := hn (z, k) List.mem_cons_self hkf
        have hc' : env.cells.lookup z = some c' := hc'
        rw [hc'] at ez
        rw [hc']
        simpa using ez
      | false =>
        rw [hz] at ez
        exact h z d ez
    · exact h z d ez
theorem closOf_keep (env : Env) : ∀ (ns : List (Str × NameKind)) (cs : List (Str × Addr)) (y : Str), (∃ c, cs.lookup y = some c) → ∃ c, (closOf env ns cs).lookup y = some c
  | [], cs, y, h => h
  | (n, k) :: r, cs, y, ⟨c, h⟩ => by
    unfold closOf
    refine closOf_keep env r _ y ?_
    split
    · rw [List.lookup_cons]
      cases hz : y == n with
      | true => exact ⟨_, rfl⟩
      | false => exact ⟨c, h⟩
    · exact ⟨c, h⟩
theorem closOf_has (env : Env) : ∀ (ns : List (Str × NameKind)) (cs : List (Str × Addr)) (p : Str × NameKind), p ∈ ns → p.2 = .free → ∃ c, (closOf env ns cs).lookup p.1 = some c
  | [], cs, p, hp, _ => by simp at hp
  | (n, k) :: r, cs, p, hp, hk => by
    unfold closOf
    rcases List.mem_cons.mp hp with e | hp
    · subst e
      have hk : k = .free := hk
      subst hk
      refine closOf_keep env r _ n ?_
      rw [if_pos (by rfl), List.lookup_cons]
      exact ⟨(List.lookup n env.cells).getD 0, by simp⟩
    · exact closOf_has env r _ p hp hk
theorem closure_loop (env : Env) : ∀ (ns : List (Str × NameKind)) (cs : List (Str × Addr)), (∀ p ∈ ns, p.2 = .free → ∃ c, env.cells.lookup p.1 = some c) →
    (forIn ns cs (fun (x : Str × NameKind) (r : List (Str × Addr)) => if (x.2 == NameKind.free) = true then (do let a ← cellOf env x.1; pure (ForInStep.yield ((x.1, a) :: r))) else pure (ForInStep.yield r)) : Sem (List (Str × Addr))) = pure (closOf env ns cs)
  | [], cs, _ => rfl
  | (n, k) :: r, cs, hn => by
    have ih := fun cs' => closure_loop env r cs' fun p hp => hn p (List.mem_cons_of_mem _ hp)
    rw [List.forIn_cons]
    unfold closOf
    by_cases hk : (k == NameKind.free) = true
    · obtain ⟨c, hc⟩ := hn (n, k) List.mem_cons_self (by simpa using hk)
      have hc : env.cells.lookup n = some c := hc
      rw [if_pos hk, if_pos hk]
      have e1 : cellOf env n = pure c := by unfold cellOf; rw [hc]
      rw [e1, hc]
      exact ih _
    · rw [if_neg hk, if_neg hk]
      exact ih _
theorem closureFor_eq {scope : Scope} {env : Env} (h : ∀ p ∈ scope.names, p.2 = .free → ∃ c, env.cells.lookup p.1 = some c) : closureFor scope env = pure (closOf env scope.names []) := by
  have e := closure_loop env scope.names [] h
  unfold closureFor
  show (forIn scope.names [] _ >>= _) = _
  have e2 : (forIn scope.names ([] : List (Str × Addr)) (fun (x : Str × NameKind) (r : List (Str × Addr)) => match x with | (name, kind) => (if (kind == NameKind.free) = true then (do let a ← cellOf env name; pure PUnit.unit; pure (ForInStep.yield ((name, a) :: r))) else (do pure PUnit.unit; pure (ForInStep.yield r)))) : Sem (List (Str × Addr))) = pure (closOf env scope.names []) := e
  first
    | exact (congrArg (fun z => z >>= fun cs => pure cs) e2)
    | (rw [show (forIn scope.names ([] : List (Str × Addr)) _ : Sem (List (Str × Addr))) = pure (closOf env scope.names []) from e]; rfl)
section
variable {X : Cx}
def PIfs (X : Cx) (ifs : List Expr) (t : TT) : Prop :=
  ∀ (pins : List (Addr × Obj)) (s : Shared) (σ : St) (H : Hp) (Q : Bool → Hp → Prop), Inv X pins σ H s → t σ H Q →
    wpAny (model X.prog X.w) X.A (forIn ifs true fun c r => if r = true then do let ok ← isTrue c X.env (eval c X.env); pure (ForInStep.yield ok) else pure (ForInStep.yield r)) (TP X pins σ Q) X.xe s
def tYes : TT := fun _ H Q => Q true H
theorem pifs_nil : PIfs X [] tYes := fun pins s σ H Q I h => by
  rw [List.forIn_nil]
  exact wpAny_pure ⟨H, I, h⟩
theorem pifs_one {c : Expr} {t : TT} (h : PT X c t) : PIfs X [c] t := by
  intro pins s σ H Q I hw
  rw [List.forIn_cons, if_pos rfl]
  refine wpAny_bind (wpAny_bind (thn (h pins s σ H Q I hw) fun b s1 q => wpAny_pure ?_))
  show wpAny _ _ (forIn [] b _) _ _ s1
  rw [List.forIn_nil]
  exact wpAny_pure q
theorem compLoop_any {prog : Program} {w : World} {A : Around} {R : Result → Shared → Prop} {s : Shared} {elt target iter : Expr} {ifs : List Expr} {scope : Scope} {pos : Pos} {it acc : Value} {env : Env} (I : Nat → Shared → Prop)
    (turn : ∀ n s, I n s → wpAny (model prog w) A (pyNext it) (fun r s1 => match r with
      | none => R (.ok .next) s1
      | some v => wpAny (model prog w) A (letOwnedTupleGo target it v) (fun _ s2 => wpAny (model prog w) A (assign target env v) (fun _ s3 =>
          wpAny (model prog w) A (forIn ifs true fun c r => if r = true then do let ok ← isTrue c env (eval c env); pure (ForInStep.yield ok) else pure (ForInStep.yield r)) (fun ok s4 =>
            if ok = true then wpAny (model prog w) A (eval elt env) (fun x s5 =>
              wpAny (model prog w) A (call (.builtin "list.append") [acc, x]) (fun _ s6 => ∃ m, m < n ∧ I m s6) (fun _ _ => False) s5) (fun _ _ => False) s4
            else ∃ m, m < n ∧ I m s4) (fun _ _ => False) s3) (fun _ _ => False) s2) (fun _ _ => False) s1) (fun _ _ => False) s)
    (n : Nat) (h : I n s) :
    codeAny (model prog w) A (.compLoop (.ListComp elt [⟨target, iter, ifs, 0⟩] scope pos) 0 it acc env) R s := by
  refine codeAny_loop rfl I (fun n s hI => ?_) n h
  show wpAny _ A ((compTurn (.ListComp elt [⟨target, iter, ifs, 0⟩] scope pos) 0 it acc env).onRaise (fun x => do noteFrame x env; theTreesLotGoes x)) _ _ s
  refine wpAny_noted ?_
  rw [compTurn_list]
  refine wpAny_bind (wpAny_standAt (wpAny_bind (wpAny_mono (turn n s hI) (fun r s1 h1 => ?_) fun _ _ f => f.elim)))
  cases r with
  | none => exact wpAny_pure h1
  | some v =>
    refine wpAny_bind (wpAny_mono h1 (fun _ s2 h2 => ?_) fun _ _ f => f.elim)
    refine wpAny_bind (wpAny_mono h2 (fun _ s3 h3 => wpAny_bind (wpAny_mono h3 (fun ok s4 h4 => ?_) fun _ _ f => f.elim)) fun _ _ f => f.elim)
    cases ok with
    | false => exact wpAny_pure ⟨rfl, h4⟩
    | true =>
      exact wpAny_bind (wpAny_bind (wpAny_mono h4 (fun x s5 h5 => wpAny_bind (wpAny_mono h5 (fun _ s6 h6 => wpAny_pure (wpAny_pure ⟨rfl, h6⟩)) fun _ _ f => f.elim)) fun _ _ f => f.elim))
def CompW (J : It) (g : TG) (tc : TT) (te : TE) (Q : VK) (σ0 : St) (H0 : Hp) : Prop := ∃ W : Nat → Nat → List V → St → Hp → Prop, (∃ m, W 0 m [] σ0 H0) ∧ ∀ i m ys σ' H', W i m ys σ' H' →
   (J.stop i H' ∧ ∀ D, H' D = none → Q (.ref D) (upd H' D (.lst ys))) ∨
   (J.go i H' ∧ ∃ N : List V → St → Hp → Prop, (∀ ys' σ2 H2, N ys' σ2 H2 → ∃ m', m' < m ∧ W (i + 1) m' ys' σ2 H2) ∧ ∀ x H2, J.yld i H' x H2 → g x σ' H2 fun σ2 H3 => tc σ2 H3 fun b H4 =>
     if b = true then te σ2 H4 fun y H5 => ys.length < sizeLine ∧ N (ys ++ [y]) σ2 H5 else N ys σ2 H4)
def tComp (nl : Nat) (fr : List Nat) (wi : TI) (g : TG) (tc : TT) (te : TE) : TE := fun σ H Q => wi σ H fun J H1 => CompW J g tc te Q (compSt nl fr σ) H1
structure CompOk (X : Cx) (N : List Str) (nl : Nat) (fr : List Nat) (scope : Scope) : Prop where
  cell : ∀ y ∈ scope.names, y.2 ≠ .cell
  kind : scope.kind = .function
  names : ∀ y ∈ scope.names, y.2 = .local → scope.names.lookup y.1 = some .local
  free : ∀ p ∈ scope.names, p.2 = .free → X.env.kindOf p.1 = some .cell ∨ X.env.kindOf p.1 = some .free
  len : N.length = nl + fr.length
  fr : ∀ (k j : Nat), fr[k]? = some j → ∃ y, N[nl + k]? = some y ∧ X.N[j]? = some y ∧ Vis X.env.scope y ∧ scope.names.lookup y = some .free
theorem lookup_relabel {env : Env} : ∀ {names : List (Str × NameKind)} {x : Str} {k : NameKind}, (names.map fun (n, k) => if (k == NameKind.free && env.scope.kind == .function && env.kindOf n == some .cell) then (n, NameKind.cell) else (n, k)).lookup x = some k →
    k = .cell ∨ k = .free → (∀ y ∈ names, y.2 ≠ .cell) → ∃ p ∈ names, p.1 = x ∧ p.2 = .free
  | [], _, _, h, _, _ => by simp at h
  | (n, kn) :: r, x, k, h, hk, hc => by
    have ih := @lookup_relabel env r x k
    rw [List.map_cons] at h
    have hcn : kn ≠ .cell := hc (n, kn) List.mem_cons_self
    have hr : ∀ y ∈ r, y.2 ≠ .cell := fun y hy => hc y (List.mem_cons_of_mem _ hy)
    cases hx : x == n with
    | true =>
      have hxn : x = n := eq_of_beq hx
      by_cases hcc : (kn == NameKind.free && env.scope.kind == .function && env.kindOf n == some .cell) = true
      · refine ⟨(n, kn), List.mem_cons_self, hxn.symm, ?_⟩
        simp only [Bool.and_eq_true] at hcc
        simpa using hcc.1.1
      · dsimp only at h
        rw [if_neg hcc, List.lookup_cons, hx] at h
        have hkk : kn = k := Option.some.inj h
        subst hkk
        rcases hk with z | z
        · exact absurd z hcn
        · exact ⟨(n, kn), List.mem_cons_self, hxn.symm, z⟩
    | false =>
      by_cases hcc : (kn == NameKind.free && env.scope.kind == .function && env.kindOf n == some .cell) = true
      · dsimp only at h
        rw [if_pos hcc, List.lookup_cons, hx] at h
        obtain ⟨p, hp, q⟩ := ih h hk hr
        exact ⟨p, List.mem_cons_of_mem _ hp, q⟩
      · dsimp only at h
        rw [if_neg hcc, List.lookup_cons, hx] at h
        obtain ⟨p, hp, q⟩ := ih h hk hr
        exact ⟨p, List.mem_cons_of_mem _ hp, q⟩
theorem lookup_relabel_free {env : Env} : ∀ {names : List (Str × NameKind)} {x : Str}, names.lookup x = some .free →
    (names.map fun (n, k) => if (k == NameKind.free && env.scope.kind == .function && env.kindOf n == some .cell) then (n, NameKind.cell) else (n, k)).lookup x = some .cell ∨
    (names.map fun (n, k) => if (k == NameKind.free && env.scope.kind == .function && env.kindOf n == some .cell) then (n, NameKind.cell) else (n, k)).lookup x = some .free
  | [], _, h => by simp at h
  | (n, kn) :: r, x, h => by
    have ih := @lookup_relabel_free env r x
    rw [List.map_cons]
    dsimp only
    cases hx : x == n with
    | true =>
      rw [List.lookup_cons, hx] at h
      have hkn : kn = .free := Option.some.inj h
      by_cases hcc : (kn == NameKind.free && env.scope.kind == .function && env.kindOf n == some .cell) = true
      · rw [if_pos hcc, List.lookup_cons, hx]; exact .inl rfl
      · rw [if_neg hcc, List.lookup_cons, hx]; exact .inr (congrArg some hkn)
    | false =>
      rw [List.lookup_cons, hx] at h
      by_cases hcc : (kn == NameKind.free && env.scope.kind == .function && env.kindOf n == some .cell) = true
      · rw [if_pos hcc, List.lookup_cons, hx]; exact ih h
      · rw [if_neg hcc, List.lookup_cons, hx]; exact ih h
theorem HOk.track {P : Program} {w : World} {H : Hp} {h : Heap} {a : Addr} {o : HO} (x : HOk P w H h) (hn : H a = none) (new : ObjOk P w (upd H a o) h a o) : HOk P w (upd H a o) h := fun b u e => by
  by_cases hb : b = a
  · subst hb; rw [upd_same] at e; cases e; exact new
  · rw [upd_ne hb] at e
    exact (x b u e).stay (fun c v _ q => q) (fun c q => by rw [upd_ne (ne_of_none q hn)]; exact q) fun c xs q => by rw [upd_ne (ne_of_none q hn)]; exact q
theorem comp_core {elt tg iter : Expr} {ifs : List Expr} {scope : Scope} {pos : Pos} {wi : TI} {g : TG} {tc : TT} {te : TE} {N : List Str} {nl : Nat} {fr : List Nat}
    (hc : X.calm = true) (hi : PI X tg iter wi) (hg : ∀ cl C s0 H0 ex, PG (compCx X N scope cl C s0 H0 ex) tg g) (ht : ∀ cl C s0 H0 ex, PIfs (compCx X N scope cl C s0 H0 ex) ifs tc)
    (he : ∀ cl C s0 H0 ex, PE (compCx X N scope cl C s0 H0 ex) elt te) (ok : CompOk X N nl fr scope)
    {RR : Value → Addr → Result → Shared → Prop} {pins : List (Addr × Obj)} {s : Shared} {σ : St} {H : Hp} {Q : VK} (I : Inv X pins σ H s) (h : tComp nl fr wi g tc te σ H Q)
    (hRR : ∀ D C s' H', Inv X pins σ H' s' → Q (.ref D) H' → FpOk X pins H' C → (∃ m, s'.heap.Ns C m) → RR (.ref D) C (.ok .next) s') :
    wpAny (model X.prog X.w) X.A (eval iter X.env) (fun x s1 => wpAny (model X.prog X.w) X.A (pyIter x) (fun it s2 => wpAny (model X.prog X.w) X.A (newList []) (fun acc s3 =>
      wpAny (model X.prog X.w) X.A (newFunctionEnv scope X.env.globals (closOf X.env scope.names []) [] X.env.qual none .none (some X.env)) (fun cenv s4 =>
        codeAny (model X.prog X.w) X.A (.compStart (.ListComp elt [⟨tg, iter, ifs, 0⟩] scope pos) 0 it acc { cenv with scope := relabel scope X.env }) (RR acc cenv.locals) s4) X.xe s3) X.xe s2) X.xe s1) X.xe s := by
  refine thn (hi pins s σ H _ I h) fun v s1 h1 => thn h1 fun itv s2 h2 => ?_
  obtain ⟨it, fp, tn, J, H2, rfl, I2, T, st2, f2, W, ⟨m0, w0⟩, turn⟩ := h2
  refine wpAny_newObj_type (wpAny_newFunctionEnv ok.cell (by intro y hy; simp at hy) (fun h1 hns1 hsb1 => ?_) ok.kind)
  dsimp only at hns1 hsb1 ⊢
  generalize hHH : s2.heap.push { cls := .type "list", dict := none, data := .seq ([] : List Value).toArray } = HH at hns1 hsb1 ⊢
  have hC : HH.objs.size = s2.heap.objs.size + 1 := by rw [← hHH, Heap.size_push]
  have hDC : s2.heap.objs.size ≠ HH.objs.size := by rw [hC]; exact Nat.ne_of_lt (Nat.lt_succ_self _)
  have hCle : s2.heap.objs.size ≤ HH.objs.size := by rw [hC]; exact Nat.le_succ _
  have below : ∀ b, b < s2.heap.objs.size → b ≠ HH.objs.size ∧ b ≠ s2.heap.objs.size := fun b hb => ⟨by rw [hC]; exact Nat.ne_of_lt (Nat.lt_succ_of_lt hb), Nat.ne_of_lt hb⟩
  have old : ∀ b o, s2.heap.get? b = some o → h1.get? b = some o := fun b o e => hsb1.extBut b o (below b (Heap.lt_size e)).1 (Heap.get?_push_of_some _ (hHH ▸ Heap.get?_push_of_some _ e))
  have hacc : h1.get? s2.heap.objs.size = some { cls := .type "list", data := .seq ([] : List Value).toArray } := hsb1.extBut _ _ hDC (Heap.get?_push_of_some _ (hHH ▸ Heap.get?_push_size _ rfl))
  have fplt : ∀ b ∈ fp, b < s2.heap.objs.size := fun b hb => by obtain ⟨o, e, _⟩ := T.obj 0 _ st2 b hb; exact Heap.lt_size e
  generalize hXd : compCx X N scope (closOf X.env scope.names []) HH.objs.size s2 H2 fp = X'
  have hfreeC : ∀ p ∈ scope.names, p.2 = .free → ∃ c, X.env.cells.lookup p.1 = some c := fun p hp hf => I.ok.has p.1 (ok.free p hp hf)
  have cellsSub : ∀ y c, (closOf X.env scope.names []).lookup y = some c → X.env.cells.lookup y = some c := closOf_sub X.env scope.names [] hfreeC (fun y c e => by simp at e)
  have cellLt : ∀ y c, X.env.cells.lookup y = some c → c < s2.heap.objs.size := fun y c e => by obtain ⟨v, z⟩ := I2.cell y c e; exact z.lt
  have ok' : X'.Ok := by
    rw [← hXd]
    refine ⟨I.ok.mod, ?_, I.ok.glob, I.ok.blt, hCle, fun x y c e1 e2 => I.ok.inj x y c (cellsSub x c e1) (cellsSub y c e2), fun x hx => ?_, fun x c hf => (by cases hf), I.ok.hd, I.ok.frames, .inl rfl,
      fun b hb => ⟨(below b (fplt b hb)).1, fun x c e => (f2 b hb).2.2.2.2.1 x c (cellsSub x c e)⟩, I2.bs, Nat.le_trans I.ok.bsz I2.sz, fun b o e hb => ?_, fun b hb hfs => ?_, I2.stack, I2.stkFree⟩
    · show (relabel scope X.env).kind = .function
      exact ok.kind
    · have hx' : ∃ p ∈ scope.names, p.1 = x ∧ p.2 = .free := by
        rcases hx with z | z
        · exact lookup_relabel z (.inl rfl) ok.cell
        · exact lookup_relabel z (.inr rfl) ok.cell
      obtain ⟨p, hp, rfl, hpf⟩ := hx'
      exact closOf_has X.env scope.names [] p hp hpf
    · rcases (f2 b hb).2.2.2.1 with z | z
      · exact I.ok.noex b o e z
      · exact absurd (Nat.lt_of_lt_of_le (Heap.lt_size e) (Nat.le_trans I.ok.bsz z)) (Nat.lt_irrefl _)
    · rcases List.mem_cons.mp (I2.stkSub b hfs) with z | z
      · exact (f2 b hb).2.1 z
      · exact (f2 b hb).2.2.1 z
  have hX'd : X'.env.locals = HH.objs.size := by rw [← hXd]; rfl
  have hX'c : X'.env.cells = closOf X.env scope.names [] := by rw [← hXd]; rfl
  have hX'pn : X'.pn = [] := by rw [← hXd]; rfl
  have hX'ex : X'.ex = fp := by rw [← hXd]; rfl
  have hX's0 : X'.s₀ = s2 := by rw [← hXd]; rfl
  have hX'H0 : X'.H₀ = H2 := by rw [← hXd]; rfl
  have hX'fs : X'.fs = frs X.stack := by rw [← hXd]; rfl
  have hX'xe : X'.xe = fun _ _ => False := by rw [← hXd]; rfl
  have hX'A : X'.A = X.A := by rw [← hXd]; rfl
  have hX'P : X'.prog = X.prog := by rw [← hXd]; rfl
  have hX'w : X'.w = X.w := by rw [← hXd]; rfl
  have hX'K : X'.K = X.K := by rw [← hXd]; rfl
  have hX'calm : X'.calm = true := by rw [← hXd]; exact hc
  have hX'env : X'.env = compEnvC scope (closOf X.env scope.names []) HH.objs.size X.env := by rw [← hXd]; rfl
  have I' : Inv X' [] (compSt nl fr σ) H2 { s2 with heap := h1, toks := s2.toks + ([] : List (Str × Value)).length } := by
    refine ⟨ok', by rw [hX's0], I2.bare, ?_, ?_, fun x c e => ?_, ?_, fun x c e => ?_, fun p hp => ?_, ?_, ?_⟩
    · rw [hX'fs, hX'ex, hX'H0, hX's0]; exact Un.kept old
    · obtain ⟨m, hn, hl⟩ := I2.loc
      rw [hX'd]
      refine ⟨_, hns1, fun i x v e1 e2 e3 => ?_⟩
      have hN' : N[i]? = some x := by rw [← hXd] at e1; exact e1
      unfold compSt at e2
      have hi : ¬ i < nl := fun hlt => by
        rw [List.getElem?_append_left (by simpa using hlt), List.getElem?_replicate, if_pos hlt] at e2
        cases e2
      rw [List.getElem?_append_right (by simpa using hi), List.length_replicate, List.getElem?_map] at e2
      cases ej : fr[i - nl]? with
      | none => rw [ej] at e2; cases e2
      | some j =>
        rw [ej] at e2
        obtain ⟨y, y1, y2, y3, y4⟩ := ok.fr (i - nl) j ej
        have hii : nl + (i - nl) = i := by omega
        rw [hii, hN'] at y1
        have hxy : x = y := Option.some.inj y1
        subst hxy
        have e2' : (σ[j]?).join = some v := Option.some.inj e2
        have e2'' : σ[j]? = some (some v) := by
          cases hσ : σ[j]? with
          | none => rw [hσ] at e2'; cases e2'
          | some z => rw [hσ] at e2'; exact congrArg some e2'
        obtain ⟨u, r, l⟩ := hl j x v y2 e2'' y3
        have hkX := ok.free (x, .free) (PySem.mem_of_lookup y4) rfl
        refine ⟨u, r, .inr ⟨?_, ?_⟩⟩
        · rw [hX'env]
          rcases lookup_relabel_free (env := X.env) y4 with z | z
          · exact .inl z
          · exact .inr z
        · rcases l with ⟨k1, _⟩ | ⟨_, c, ec, hcell⟩
          · rcases hkX with z | z
            · rw [z] at k1; cases k1
            · rw [z] at k1; cases k1
          · obtain ⟨c', ec'⟩ := closOf_has X.env scope.names [] (x, .free) (PySem.mem_of_lookup y4) rfl
            have : c' = c := by
              have q := cellsSub x c' ec'
              rw [ec] at q
              exact (Option.some.inj q).symm
            subst this
            refine ⟨c', by rw [hX'c]; exact ec', ?_⟩
            obtain ⟨oc, ho, hd⟩ := hcell
            exact ⟨oc, old _ _ ho, hd⟩
    · rw [hX'c] at e
      obtain ⟨v, oc, ho, hd⟩ := I2.cell x c (cellsSub x c e)
      exact ⟨v, oc, old _ _ ho, hd⟩
    · rw [hX'd]; exact I2.hok.fresh hCle
    · rw [hX'c] at e
      exact I2.freeC x c (cellsSub x c e)
    · rw [hX'pn] at hp; simp at hp
    · rw [hX'P, hX'w]; exact I2.hok.kept old
    · unfold compSt
      have : X'.N = N := by rw [← hXd]; rfl
      rw [this, ok.len, List.length_append, List.length_replicate, List.length_map]
  have Dn : ∀ {H' : Hp} {pins'} {s' : Shared} {σ'}, Inv X' pins' σ' H' s' → H' s2.heap.objs.size = none → ∀ o, s'.heap.get? s2.heap.objs.size = some o → (∀ v, o.data ≠ .cell v) → Inv X' [(s2.heap.objs.size, o)] σ' H' s' := fun {H' pins' s' σ'} I3 hD o ho hnc =>
    I3.pins_of fun p hp => by
      have e : p = (s2.heap.objs.size, o) := by simpa using hp
      subst e
      refine ⟨ho, hD, by rw [hX'd]; exact hDC, ?_, hnc⟩
      rw [hX'fs]
      intro hb
      rcases List.mem_cons.mp (I2.stkSub _ hb) with z | z
      · exact absurd (z ▸ I2.lt) (Nat.lt_irrefl _)
      · exact I2.nofs (Nat.le_refl _) z
  have loop : ∀ s₃ : Shared, s₃ = { s2 with heap := h1, toks := s2.toks + ([] : List (Str × Value)).length } →
      codeAny (model X.prog X.w) X.A (.compLoop (.ListComp elt [⟨tg, iter, ifs, 0⟩] scope pos) 0 (.ref it) (.ref s2.heap.objs.size) (compEnvC scope (closOf X.env scope.names []) HH.objs.size X.env)) (RR (.ref s2.heap.objs.size) HH.objs.size) s₃ := by
    rintro s₃ rfl
    refine compLoop_any (fun n s' => ∃ (i : Nat) (σ' : St) (H' : Hp) (ys : List V) (its : List Value) (k : Nat), Inv X' [(s2.heap.objs.size, { cls := .type "list", data := .seq its.toArray k })] σ' H' s' ∧ Vals ys its ∧ ys.length ≤ sizeLine ∧ tn i s'.heap ∧ (∀ b ∈ fp, H' b = none) ∧ W i n ys σ' H')
      ?_ m0 ⟨0, _, H2, [], [], 0, Dn I' (I2.hok.fresh (Nat.le_refl _)) _ hacc (fun v z => by cases z), .nil, Nat.zero_le _, T.keep 0 _ _ st2 fun b hb o e => old b o e, fun b hb => (f2 b hb).1, w0⟩
    rintro n s3 ⟨i, σ3, H3, ys, its, k, I3, rv, hyl, st3, fr3, w3⟩
    have pinD := I3.pin (s2.heap.objs.size, { cls := .type "list", data := .seq its.toArray k }) (by rw [hX'pn]; exact List.mem_append_right _ List.mem_cons_self)
    have stat : ∀ {o : Obj} {H' : Hp}, (∀ b ∈ fp, H' b = none) → ∀ b ∈ fp, FpOk X' [(s2.heap.objs.size, o)] H' b := fun {o H'} hn b hb => by
      refine ⟨hn b hb, by rw [hX'd]; exact (below b (fplt b hb)).1, fun z => ok'.exfs b (by rw [hX'ex]; exact hb) z, .inl (by rw [hX'ex]; exact hb), fun x c e => by rw [hX'c] at e; exact (f2 b hb).2.2.2.2.1 x c (cellsSub x c e), fun p hp => ?_⟩
      rw [hX'pn] at hp
      have e : p = (s2.heap.objs.size, o) := by simpa using hp
      subst e
      exact fun z => (below b (fplt b hb)).2 z.symm
    rcases turn i n ys σ3 H3 w3 with ⟨stop, qn⟩ | ⟨go, Nx, hNx, step⟩
    · have dn := T.done X' hX'P hX'w hX'K hX'calm i _ s3 σ3 H3 (fun _ _ => False) I3 (stat fr3) st3 stop
      rw [hX'A] at dn
      refine thn dn fun r s4 ⟨hr, I4⟩ => ?_
      subst hr
      have pinE := I4.pin (s2.heap.objs.size, { cls := .type "list", data := .seq its.toArray k }) (by rw [hX'pn]; exact List.mem_append_right _ List.mem_cons_self)
      have ub : Un (frs X.stack) fp H2 H3 s2.heap s4.heap := by
        have := I4.base
        rw [hX'fs, hX'ex, hX'H0, hX's0] at this
        exact this
      have hok4 : HOk X.prog X.w H3 s4.heap := by have := I4.hok; rw [hX'P, hX'w] at this; exact this
      have nD : ∀ b u, H3 b = some u → b ≠ s2.heap.objs.size := fun b u e z => by rw [z, pinE.2.1] at e; cases e
      have u2 : Un (frs X.stack) fp H2 (upd H3 s2.heap.objs.size (.lst ys)) s2.heap s4.heap :=
        ⟨ub.keep, ub.slot, fun b o e n' hx => by rw [upd_ne (Nat.ne_of_lt (Heap.lt_size e))]; exact ub.free b o e n' hx, ub.there,
          fun b xs e => by have := ub.tups b xs e; rw [upd_ne (nD b _ this)]; exact this, fun b o u e => by have := ub.frzs b o u e; rw [upd_ne (nD b _ this)]; exact this,
          fun b ps e => by obtain ⟨more, z⟩ := ub.tbls b ps e; exact ⟨more, by rw [upd_ne (nD b _ z)]; exact z⟩⟩
      have I5 : Inv X pins σ (upd H3 s2.heap.objs.size (.lst ys)) s4 := by
        refine I2.call' (by rw [I4.os, hX's0]) u2 ?_ I4.bare fun b hb => ⟨(f2 b hb).2.2.2.1, (f2 b hb).2.1, (f2 b hb).2.2.2.2.1, (f2 b hb).2.2.2.2.2⟩
        exact HOk.track hok4 pinE.2.1 ⟨hyl, its, k, rv, pinE.1⟩
      refine hRR _ _ s4 _ I5 (qn _ pinE.2.1) (I2.fpOk hCle ?_) ?_
      · rw [upd_ne (Ne.symm hDC)]
        have := I4.free
        rw [hX'd] at this
        exact this
      · obtain ⟨m, hn, _⟩ := I4.loc
        rw [hX'd] at hn
        exact ⟨m, hn⟩
    · have im := T.item X' hX'P hX'w hX'K hX'calm i _ s3 σ3 H3 (fun _ _ => False) I3 (stat fr3) st3 go
      rw [hX'A] at im
      refine thn im fun r s4 ⟨u, hr, h4⟩ => ?_
      subst hr
      refine thn h4 fun _ s5 ⟨x, H5, I5, r5, y5, st5, fr5⟩ => ?_
      have I5' := I5.pinned (stat fr5) (T.obj _ _ st5)
      have gg := hg (closOf X.env scope.names []) HH.objs.size s2 H2 fp
      rw [hXd] at gg
      have gg := gg _ s5 σ3 H5 x u _ I5' r5 (step x H5 y5)
      rw [hX'A, hX'P, hX'w, hX'xe, hX'env] at gg
      refine thn gg fun _ s6 ⟨σ6, H6, I6, q6⟩ => ?_
      have tt := ht (closOf X.env scope.names []) HH.objs.size s2 H2 fp
      rw [hXd] at tt
      have tt := tt _ s6 σ6 H6 _ I6 q6
      rw [hX'A, hX'P, hX'w, hX'xe, hX'env] at tt
      refine thn tt fun ok7 s7 ⟨H7, I7, q7⟩ => ?_
      have again : ∀ {s8 : Shared} {σ8 : St} {H8 : Hp} {ys8 : List V} {its8 : List Value} {k8 : Nat}, Inv X' ([(s2.heap.objs.size, { cls := .type "list", data := .seq its8.toArray k8 })] ++ pinsAt fp s5.heap) σ8 H8 s8 → Vals ys8 its8 → ys8.length ≤ sizeLine → Nx ys8 σ8 H8 →
          ∃ m, m < n ∧ ∃ (i : Nat) (σ' : St) (H' : Hp) (ys : List V) (its : List Value) (k : Nat), Inv X' [(s2.heap.objs.size, { cls := .type "list", data := .seq its.toArray k })] σ' H' s8 ∧ Vals ys its ∧ ys.length ≤ sizeLine ∧ tn i s8.heap ∧ (∀ b ∈ fp, H' b = none) ∧ W i m ys σ' H' :=
        fun {s8 σ8 H8 ys8 its8 k8} I8 rv8 hl8 n8 => by
          obtain ⟨m', hm, w8⟩ := hNx ys8 σ8 H8 n8
          refine ⟨m', hm, i + 1, σ8, H8, ys8, its8, k8, I8.unpinned, rv8, hl8, T.keep _ _ _ st5 fun b hb o e => (I8.pin (b, o) (List.mem_append_right _ (List.mem_append_right _ (mem_pinsAt hb e)))).1, fun b hb => ?_, w8⟩
          obtain ⟨o, e, d⟩ := T.obj _ _ st5 b hb
          exact (I8.pin (b, o) (List.mem_append_right _ (List.mem_append_right _ (mem_pinsAt hb e)))).2.1
      cases ok7 with
      | false =>
        rw [if_neg Bool.false_ne_true] at q7 ⊢
        exact again I7 rv hyl q7
      | true =>
        rw [if_pos rfl] at q7 ⊢
        have ee := he (closOf X.env scope.names []) HH.objs.size s2 H2 fp
        rw [hXd] at ee
        have ee := ee _ s7 σ6 H7 _ I7 q7
        rw [hX'A, hX'P, hX'w, hX'xe, hX'env] at ee
        refine thn ee fun yv s8 ⟨y, H8, I8, r8, hyl8, q8⟩ => ?_
        have pin8 := I8.pin (s2.heap.objs.size, { cls := .type "list", data := .seq its.toArray k }) (List.mem_append_right _ (List.mem_append_left _ List.mem_cons_self))
        refine wpAny_list_append_plain (items := its.toArray) ⟨k, pin8.1⟩ (fun h9 hp9 hs9 => ?_) (by rw [List.size_toArray, ← rv.length]; exact hyl)
        obtain ⟨k9, e9⟩ := hp9
        have I9 : Inv X' (pinsAt fp s5.heap) σ6 H8 s8 := I8.pins_of fun p hp => I8.pin p (List.mem_append_right _ (List.mem_append_right _ hp))
        have I9' : Inv X' (pinsAt fp s5.heap) σ6 H8 { s8 with heap := h9, toks := s8.toks } := by
          refine I9.turned (t' := s8.toks) (it := s2.heap.objs.size) (fun b o hb e => hs9.extBut b o hb e) pin8.2.1 (by rw [hX'd]; exact hDC) (.inr (by rw [hX's0]; exact Nat.le_refl _)) (fun x c e z => ?_) fun p hp z => ?_
          · rw [hX'c] at e
            exact absurd (z ▸ cellLt x c (cellsSub x c e)) (Nat.lt_irrefl _)
          · rw [hX'pn] at hp
            obtain ⟨hb, _⟩ := of_pinsAt (by simpa using hp)
            exact absurd (z ▸ fplt _ hb) (Nat.lt_irrefl _)
        have e9' : h9.get? s2.heap.objs.size = some { cls := .type "list", data := .seq (its ++ [yv]).toArray k9 } := by rw [e9]; simp
        refine again (ys8 := ys ++ [y]) (its8 := its ++ [yv]) (k8 := k9) ?_ (Vals.append rv (.cons r8 .nil)) (by rw [List.length_append]; exact hyl8) q8
        refine I9'.pins_of fun p hp => ?_
        rcases List.mem_append.mp hp with z | z
        · have e : p = (s2.heap.objs.size, { cls := .type "list", data := .seq (its ++ [yv]).toArray k9 }) := by simpa using z
          subst e
          exact ⟨e9', pin8.2.1, pin8.2.2.1, pin8.2.2.2.1, fun v z => by cases z⟩
        · exact I9'.pin p (List.mem_append_right _ z)
  exact codeAny_compStart_list (loop _ rfl) (T.self X.A 0 _ _ _ (T.keep 0 _ _ st2 fun b hb o e => old b o e) (loop _ rfl))
end
end L2
namespace L2
open PySem PySem.Spec PyProof.Rows
section
variable {X : Cx}
theorem pe_comp {elt tg iter : Expr} {ifs : List Expr} {scope : Scope} {pos : Pos} {wi : TI} {g : TG} {tc : TT} {te : TE} {N : List Str} {nl : Nat} {fr : List Nat}
    (hc : X.calm = true) (ok : CompOk X N nl fr scope) (hi : PI X tg iter wi) (hg : ∀ cl C s0 H0 ex, PG (compCx X N scope cl C s0 H0 ex) tg g) (ht : ∀ cl C s0 H0 ex, PIfs (compCx X N scope cl C s0 H0 ex) ifs tc)
    (he : ∀ cl C s0 H0 ex, PE (compCx X N scope cl C s0 H0 ex) elt te) (hs : ∀ x, foldedSetIterable iter X.env x = pure x := by intro _; rfl) :
    PE X (.ListComp elt [⟨tg, iter, ifs, 0⟩] scope pos) (tComp nl fr wi g tc te) := by
  intro pins s σ H Q I h
  have hclos : closureFor scope X.env = pure (closOf X.env scope.names []) := closureFor_eq fun p hp hf => I.ok.has p.1 (ok.free p hp hf)
  rw [eval_ListComp]
  refine wpAny_comprehension_free (use := none) rfl hs hclos ok.kind ok.names (comp_core (RR := fun acc C => compPost (model X.prog X.w) X.A X.xe none (EP X pins σ Q) acc C) hc hi hg ht he ok I h ?_)
  intro D C s' H' I' q f ⟨m, hn⟩
  exact ⟨m, hn, fun h' hs' => ⟨.ref D, H', I'.turned (t' := s'.toks) (fun b o hb e => hs'.extBut b o hb e) f.1 f.2.1 f.2.2.2.1 f.2.2.2.2.1 f.2.2.2.2.2, rfl, q⟩⟩
theorem ps_setC {i : Nat} {y : Str} {py spos : Pos} {elt tg iter : Expr} {ifs : List Expr} {scope : Scope} {pos : Pos} {wi : TI} {g : TG} {tc : TT} {te : TE} {N : List Str} {nl : Nat} {fr : List Nat}
    (hN : X.N.Nodup) (hi' : X.N[i]? = some y) (hx : Loc X.env.scope y)
    (hc : X.calm = true) (ok : CompOk X N nl fr scope) (hi : PI X tg iter wi) (hg : ∀ cl C s0 H0 ex, PG (compCx X N scope cl C s0 H0 ex) tg g) (ht : ∀ cl C s0 H0 ex, PIfs (compCx X N scope cl C s0 H0 ex) ifs tc)
    (he : ∀ cl C s0 H0 ex, PE (compCx X N scope cl C s0 H0 ex) elt te) (hsw : swapsWith (.ListComp elt [⟨tg, iter, ifs, 0⟩] scope pos) (some (.Name y py)) spos.line X.env = pure true := by rfl)
    (hs : ∀ x, foldedSetIterable iter X.env x = pure x := by intro _; rfl)
    (hf : X.fn y = true ∨ X.env.scope.names.lookup y = some .local := by first | exact .inl rfl | exact .inr rfl | assumption) :
    PS X (.Assign [.Name y py] (.ListComp elt [⟨tg, iter, ifs, 0⟩] scope pos) spos) (tAsg (tComp nl fr wi g tc te) (gName i)) := by
  intro pins s σ H Dn I h
  have hclos : closureFor scope X.env = pure (closOf X.env scope.names []) := closureFor_eq fun p hp hf => I.ok.has p.1 (ok.free p hp hf)
  rw [exec_Assign_Name_used _ _ _ _ hsw]
  refine wpAny_bind (wpAny_standAt (wpAny_bind ?_))
  show wpAny _ X.A (do let _ ← comprehension (.ListComp elt [⟨tg, iter, ifs, 0⟩] scope pos) scope X.env _ (newList []) false (eval iter X.env) (some (assign (.Name y py) X.env))) _ _ s
  refine wpAny_bind (wpAny_mono (wpAny_comprehension_free (use := some (assign (.Name y py) X.env)) (Q := fun _ s' => SP X pins Dn .next s') rfl hs hclos ok.kind ok.names
    (comp_core (RR := fun acc C => compPost (model X.prog X.w) X.A X.xe (some (assign (.Name y py) X.env)) (fun _ s' => SP X pins Dn .next s') acc C) hc hi hg ht he ok I h ?_)) (fun _ s' hq => wpAny_pure (wpAny_pure hq)) fun _ _ e => e)
  intro D C s' H' I' q f ⟨m, hn⟩
  show wpAny _ X.A (assign (.Name y py) X.env (.ref D)) _ _ _
  refine wpAny_assign_Name (store_ok2 I' hN hi' hx (v := .ref D) rfl (fun s2 I2 ⟨a, sb, ha⟩ => ?_) hf)
  have hCa : C ≠ a := by
    rcases ha with z | z
    · rw [z]; exact f.2.1
    · exact fun e => f.2.2.2.2.1 _ _ z e.symm
  exact ⟨m, hn.sameBut sb hCa, fun h' hs' => ⟨_, H', I2.turned (t' := s2.toks) (fun b o hb e => hs'.extBut b o hb e) f.1 f.2.1 f.2.2.2.1 f.2.2.2.2.1 f.2.2.2.2.2, q⟩⟩
theorem comp_list {K : PySem.W.Frag} {a : Addr} {xs : List V} {g : TG} {tc : TT} {te : TE} {σ0 : St} {H : Hp} {Q : VK} (Pv : Nat → List V → St → Hp → Prop) (h0 : Pv 0 [] σ0 H) (hl : ∀ i ys σ H, i ≤ xs.length → Pv i ys σ H → SqL K H a xs)
    (hs : ∀ i x ys σ H, xs[i]? = some x → Pv i ys σ H → g x σ H fun σ2 H2 => tc σ2 H2 fun b H4 => if b = true then te σ2 H4 fun y H5 => ys.length < sizeLine ∧ Pv (i + 1) (ys ++ [y]) σ2 H5 else Pv (i + 1) ys σ2 H4)
    (hd : ∀ ys σ H, Pv xs.length ys σ H → ∀ D, H D = none → Q (.ref D) (upd H D (.lst ys))) :
    CompW (Itl K a) g tc te Q σ0 H := by
  refine ⟨fun i m ys σ H => m = xs.length - i ∧ i ≤ xs.length ∧ Pv i ys σ H, ⟨xs.length, by simp, Nat.zero_le _, h0⟩, ?_⟩
  rintro i m ys σ H ⟨rfl, hi, p⟩
  have q := hl i ys σ H hi p
  by_cases hlt : i < xs.length
  · refine .inr ⟨⟨xs, xs[i], q, by simp [hlt]⟩, Pv (i + 1), fun ys' σ' H' p' => ⟨xs.length - (i + 1), by omega, rfl, hlt, p'⟩, fun x H' y => ?_⟩
    obtain ⟨e, y⟩ := y
    subst e
    exact hs i x ys σ _ (y xs q) p
  · have e : i = xs.length := by omega
    subst e
    exact .inl ⟨⟨xs, q, Nat.le_refl _⟩, hd ys σ H p⟩
theorem comp_range {lo : Int} {n : Nat} {g : TG} {tc : TT} {te : TE} {σ0 : St} {H : Hp} {Q : VK} (Pv : Nat → List V → St → Hp → Prop) (h0 : Pv 0 [] σ0 H)
    (hs : ∀ i ys σ H, i < n → Pv i ys σ H → g (.int (lo + i)) σ H fun σ2 H2 => tc σ2 H2 fun b H4 => if b = true then te σ2 H4 fun y H5 => ys.length < sizeLine ∧ Pv (i + 1) (ys ++ [y]) σ2 H5 else Pv (i + 1) ys σ2 H4)
    (hd : ∀ ys σ H, Pv n ys σ H → ∀ D, H D = none → Q (.ref D) (upd H D (.lst ys))) :
    CompW (Itr lo n) g tc te Q σ0 H := by
  refine ⟨fun i m ys σ H => m = n - i ∧ i ≤ n ∧ Pv i ys σ H, ⟨n, by simp, Nat.zero_le _, h0⟩, ?_⟩
  rintro i m ys σ H ⟨rfl, hi, p⟩
  by_cases hlt : i < n
  · refine .inr ⟨hlt, Pv (i + 1), fun ys' σ' H' p' => ⟨n - (i + 1), by omega, rfl, hlt, p'⟩, fun x H' y => ?_⟩
    obtain ⟨e, y⟩ := y
    subst e y
    exact hs i ys σ _ hlt p
  · have e : i = n := by omega
    subst e
    exact .inl ⟨Nat.le_refl _, hd ys σ H p⟩
inductive EqD (K : PySem.W.Frag) (H : Hp) : Nat → V → V → Bool → Prop where
  | flat {n : Nat} {x y : V} : flatV x = true → flatV y = true → EqD K H n x y (eqV x y)
  | same {n : Nat} (a : Addr) : EqD K H n (.ref a) (.ref a) true
  | lists {n : Nat} {a b : Addr} {xs ys : List V} (e : Nat → Bool) : a ≠ b → SqL K H a xs → SqL K H b ys → xs.length = ys.length → (∀ (j : Nat) x y, xs[j]? = some x → ys[j]? = some y → EqD K H n x y (e j)) → EqD K H (n + 1) (.ref a) (.ref b) ((List.range xs.length).all e)
  | lens {n : Nat} {a b : Addr} {xs ys : List V} : a ≠ b → SqL K H a xs → SqL K H b ys → xs.length ≠ ys.length → EqD K H (n + 1) (.ref a) (.ref b) false
theorem eqAt_D {pins : List (Addr × Obj)} {σ : St} {H : Hp} {s : Shared} (I : Inv X pins σ H s) {n : Nat} {x y : V} {b : Bool} (d : EqD X.K H n x y b) :
    ∀ {A : Around} {u v : Value}, A.units + n < cLine → RelV x u → RelV y v → SeqAt.EqAt A s u v b := by
  induction d with
  | flat fx fy => intro A u v _ rx ry; exact eqAt_V rx ry fx fy
  | same a => intro A u v _ rx ry; cases rx; cases ry; exact SeqAt.EqAt.same _
  | @lists n a c xs ys e ne ha hb hl _ ih =>
    intro A u v hu rx ry
    cases rx; cases ry
    obtain ⟨its, r1, p1, _⟩ := I.list ha
    obtain ⟨its2, r2, p2, _⟩ := I.list hb
    have l1 := r1.length
    have l2 := r2.length
    refine SeqAt.EqAt.of_refs ne ?_
    have q := SeqAt.RcAt.lists (A := A) (e := e) p1.isList p2.isList (by rw [List.size_toArray, List.size_toArray]; omega) (by omega) (fun j h1 h2 => by
      have h1' : j < its.length := by simpa using h1
      have h2' : j < its2.length := by simpa using h2
      have e1 : xs[j]? = some (xs[j]'(by omega)) := List.getElem?_eq_getElem _
      have e2 : ys[j]? = some (ys[j]'(by omega)) := List.getElem?_eq_getElem _
      obtain ⟨u1, z1, q1⟩ := r1.get e1
      obtain ⟨u2, z2, q2⟩ := r2.get e2
      have w1 : its.toArray[j] = u1 := by
        rw [List.getElem?_eq_getElem h1'] at z1
        simpa using z1
      have w2 : its2.toArray[j] = u2 := by
        rw [List.getElem?_eq_getElem h2'] at z2
        simpa using z2
      rw [w1, w2]
      exact ih j _ _ e1 e2 (by show A.in1.units + n < cLine; have : A.in1.units = A.units + 1 := by first | rfl | simp [Around.in1]
                               omega) q1 q2)
    rw [List.size_toArray, ← l1] at q
    exact q
  | lens ne ha hb hl =>
    intro A u v hu rx ry
    cases rx; cases ry
    obtain ⟨its, r1, p1, _⟩ := I.list ha
    obtain ⟨its2, r2, p2, _⟩ := I.list hb
    have l1 := r1.length
    have l2 := r2.length
    exact SeqAt.EqAt.of_refs ne (SeqAt.RcAt.lists_lengths p1.isList p2.isList (by rw [List.size_toArray, List.size_toArray]; simp; omega) (by omega))
def LEq (K : PySem.W.Frag) (H : Hp) (n : Nat) (xs ys : List V) (r : Bool) : Prop :=
  (xs.length ≠ ys.length ∧ r = false) ∨ (∃ e : Nat → Bool, xs.length = ys.length ∧ (∀ (j : Nat) x y, xs[j]? = some x → ys[j]? = some y → EqD K H n x y (e j)) ∧ r = (List.range xs.length).all e)
theorem leq_rc {pins : List (Addr × Obj)} {σ : St} {H : Hp} {s : Shared} (I : Inv X pins σ H s) {A : Around} {n : Nat} {a b : Addr} {xs ys : List V} {r : Bool} (hu : A.units + n + 1 < cLine) (ha : SqL X.K H a xs) (hb : SqL X.K H b ys) (d : LEq X.K H n xs ys r) :
    SeqAt.RcAt A s (.ref a) (.ref b) r := by
  obtain ⟨its, r1, p1, _⟩ := I.list ha
  obtain ⟨its2, r2, p2, _⟩ := I.list hb
  have l1 := r1.length
  have l2 := r2.length
  rcases d with ⟨hl, rfl⟩ | ⟨e, hl, he, rfl⟩
  · exact SeqAt.RcAt.lists_lengths p1.isList p2.isList (by rw [List.size_toArray, List.size_toArray]; simp; omega) (by omega)
  · have q := SeqAt.RcAt.lists (A := A) (e := e) p1.isList p2.isList (by rw [List.size_toArray, List.size_toArray]; omega) (by omega) (fun j h1 h2 => by
      have h1' : j < its.length := by simpa using h1
      have h2' : j < its2.length := by simpa using h2
      have e1 : xs[j]? = some (xs[j]'(by omega)) := List.getElem?_eq_getElem _
      have e2 : ys[j]? = some (ys[j]'(by omega)) := List.getElem?_eq_getElem _
      obtain ⟨u1, z1, q1⟩ := r1.get e1
      obtain ⟨u2, z2, q2⟩ := r2.get e2
      have w1 : its.toArray[j] = u1 := by
        rw [List.getElem?_eq_getElem h1'] at z1
        simpa using z1
      have w2 : its2.toArray[j] = u2 := by
        rw [List.getElem?_eq_getElem h2'] at z2
        simpa using z2
      rw [w1, w2]
      exact eqAt_D I (he j _ _ e1 e2) (by show A.in1.units + n < cLine; have : A.in1.units = A.units + 1 := by first | rfl | simp [Around.in1]
                                          omega) q1 q2)
    rw [List.size_toArray, ← l1] at q
    exact q
end
end L2
namespace L2
open PySem PySem.Spec PyProof.Rows
section
variable {X : Cx}
theorem leq_rcNe {pins : List (Addr × Obj)} {σ : St} {H : Hp} {s : Shared} (I : Inv X pins σ H s) {A : Around} {n : Nat} {a b : Addr} {xs ys : List V} {r : Bool} (hu : A.units + n + 1 < cLine) (ha : SqL X.K H a xs) (hb : SqL X.K H b ys) (d : LEq X.K H n xs ys r) :
    SeqAt.RcNeAt A s (.ref a) (.ref b) (!r) := by
  obtain ⟨its, r1, p1, _⟩ := I.list ha
  obtain ⟨its2, r2, p2, _⟩ := I.list hb
  have l1 := r1.length
  have l2 := r2.length
  rcases d with ⟨hl, rfl⟩ | ⟨e, hl, he, rfl⟩
  · exact SeqAt.RcNeAt.lists_lengths p1.isList p2.isList (by rw [List.size_toArray, List.size_toArray]; simp; omega) (by omega)
  · have q := SeqAt.RcNeAt.lists (A := A) (e := e) p1.isList p2.isList (by rw [List.size_toArray, List.size_toArray]; omega) (by omega) (fun j h1 h2 => by
      have h1' : j < its.length := by simpa using h1
      have h2' : j < its2.length := by simpa using h2
      have e1 : xs[j]? = some (xs[j]'(by omega)) := List.getElem?_eq_getElem _
      have e2 : ys[j]? = some (ys[j]'(by omega)) := List.getElem?_eq_getElem _
      obtain ⟨u1, z1, q1⟩ := r1.get e1
      obtain ⟨u2, z2, q2⟩ := r2.get e2
      have w1 : its.toArray[j] = u1 := by
        rw [List.getElem?_eq_getElem h1'] at z1
        simpa using z1
      have w2 : its2.toArray[j] = u2 := by
        rw [List.getElem?_eq_getElem h2'] at z2
        simpa using z2
      rw [w1, w2]
      exact eqAt_D I (he j _ _ e1 e2) (by show A.in1.units + n < cLine; have : A.in1.units = A.units + 1 := by first | rfl | simp [Around.in1]
                                          omega) q1 q2)
    rw [List.size_toArray, ← l1] at q
    exact q
def rEqL (K : PySem.W.Frag) (n : Nat) (neg : Bool) : R2 := fun x y H Q => ∃ a b xs ys r, x = .ref a ∧ y = .ref b ∧ SqL K H a xs ∧ SqL K H b ys ∧ LEq K H n xs ys r ∧ Q (.bl (if neg then !r else r)) H
theorem op_eqL (n : Nat) (hu : X.A.units + n + 1 < cLine) : OpR X (compareOp .Eq) (rEqL X.K n false) := by
  intro pins s σ H x y v u Q I rx ry h
  obtain ⟨a, b, xs, ys, r, rfl, rfl, ha, hb, d, q⟩ := h
  cases rx; cases ry
  exact leq_rc I hu ha hb d _ _ _ _ ⟨.bl r, H, I, rfl, q⟩
theorem op_neL (n : Nat) (hu : X.A.units + n + 1 < cLine) : OpR X (compareOp .NotEq) (rEqL X.K n true) := by
  intro pins s σ H x y v u Q I rx ry h
  obtain ⟨a, b, xs, ys, r, rfl, rfl, ha, hb, d, q⟩ := h
  cases rx; cases ry
  exact leq_rcNe I hu ha hb d _ _ _ _ ⟨.bl (!r), H, I, rfl, q⟩
theorem all_range_iff {n : Nat} {e : Nat → Bool} : (List.range n).all e = true ↔ ∀ j, j < n → e j = true := by
  rw [List.all_eq_true]
  exact ⟨fun h j hj => h j (List.mem_range.mpr hj), fun h j hj => h j (List.mem_range.mp hj)⟩
theorem leq_ints (K : PySem.W.Frag) (H : Hp) (n : Nat) (ns ms : List Int) : LEq K H n (ns.map V.int) (ms.map V.int) (decide (ns = ms)) := by
  by_cases hl : ns.length = ms.length
  · refine .inr ⟨fun j => decide (ns[j]? = ms[j]?), by simpa using hl, fun j x y e1 e2 => ?_, ?_⟩
    · rw [List.getElem?_map] at e1 e2
      cases h1 : ns[j]? with
      | none => rw [h1] at e1; cases e1
      | some a =>
        cases h2 : ms[j]? with
        | none => rw [h2] at e2; cases e2
        | some b =>
          rw [h1] at e1; rw [h2] at e2
          cases e1; cases e2
          have q : EqD K H n (V.int a) (V.int b) (eqV (V.int a) (V.int b)) := .flat rfl rfl
          have e : eqV (V.int a) (V.int b) = decide (some a = some b) := by
            show (a == b) = _
            by_cases z : a = b
            · subst z; simp
            · rw [decide_eq_false (fun w => z (Option.some.inj w))]; simpa using z
          rw [e] at q
          show EqD K H n _ _ (decide (ns[j]? = ms[j]?))
          rw [h1, h2]
          exact q
    · rw [Bool.eq_iff_iff, decide_eq_true_iff, all_range_iff]
      constructor
      · intro h j _; subst h; simp
      · intro h
        refine List.ext_getElem? fun j => ?_
        by_cases hj : j < ns.length
        · exact of_decide_eq_true (h j (by simpa using hj))
        · rw [List.getElem?_eq_none (by omega), List.getElem?_eq_none (by omega)]
  · refine .inl ⟨by simpa using hl, ?_⟩
    exact decide_eq_false fun h => hl (by rw [h])
theorem call_range1 : CallR X (.type "range") (fun xs H Q => ∃ j, xs = [.int j] ∧ ∀ p, H p = none → Q (.ref p) (upd H p (.rng 0 j))) := by
  intro pins s σ H xs us Q I r h
  obtain ⟨j, rfl, q⟩ := h
  obtain ⟨u, rfl, ⟨t, rfl⟩⟩ := vals1 r
  refine call_range_1 ⟨.ref s.heap.objs.size, _, I.laid (fun b o e => Heap.get?_push_of_some _ e) (Nat.le_refl _) ?_, rfl, q _ (I.hok.fresh (Nat.le_refl _))⟩
  exact ⟨_, _, _, Heap.get?_push_size _ rfl⟩
def upTo (lo : Int) (n : Nat) : List Int := (List.range n).map fun (i : Nat) => lo + (i : Int)
theorem vals_items {lo : Int} {n : Nat} {acc : Array Value} (h : ItemsOf (fun i v => ∃ t, v = Value.int (lo + (i : Int) * 1) t) acc n) : Vals ((upTo lo n).map V.int) acc.toList := by
  obtain ⟨hs, hv⟩ := h
  have key : ∀ (l : List Value) (k : Nat), (∀ (j : Nat) v, l[j]? = some v → ∃ t, v = Value.int (lo + ((k + j : Nat) : Int)) t) → Vals (((List.range l.length).map fun (i : Nat) => lo + ((k + i : Nat) : Int)).map V.int) l := by
    intro l
    induction l with
    | nil => intro k _; exact .nil
    | cons v r ih =>
      intro k hk
      have e : (((List.range r.length).map Nat.succ).map fun (i : Nat) => lo + ((k + i : Nat) : Int)) = (List.range r.length).map fun (i : Nat) => lo + ((k + 1 + i : Nat) : Int) := by
        rw [List.map_map]
        refine List.map_congr_left fun i _ => ?_
        show lo + ((k + (i + 1) : Nat) : Int) = _
        congr 2; omega
      rw [List.length_cons, List.range_succ_eq_map, List.map_cons, List.map_cons, e]
      refine .cons ?_ ?_
      · obtain ⟨t, e⟩ := hk 0 v rfl
        exact ⟨t, e⟩
      · have := ih (k + 1) fun j w e => by
          obtain ⟨t, z⟩ := hk (j + 1) w (by simpa using e)
          exact ⟨t, by rw [z]; congr 2; omega⟩
        exact this
  have := key acc.toList 0 fun j v e => by
    obtain ⟨t, z⟩ := hv j v (by simpa using e)
    exact ⟨t, by rw [z, Int.mul_one]; simp⟩
  have hl : acc.toList.length = n := by simpa using hs
  rw [hl] at this
  have e : ((List.range n).map fun (i : Nat) => lo + ((0 + i : Nat) : Int)) = upTo lo n := by
    unfold upTo
    refine List.map_congr_left fun i _ => ?_
    simp
  rw [e] at this
  exact this
theorem call_list_rng (hc : X.calm = true) : CallR X (.type "list") (fun xs H Q => ∃ p lo hi, xs = [.ref p] ∧ H p = some (.rng lo hi) ∧ (-(2 ^ 62) ≤ lo ∧ lo < 2 ^ 62 ∧ -(2 ^ 62) ≤ hi ∧ hi < 2 ^ 62) ∧ (hi - lo).toNat ≤ 2 ^ 20 ∧
    ∀ l, H l = none → Q (.ref l) (upd H l (.lst ((upTo lo (hi - lo).toNat).map V.int)))) := by
  intro pins s σ H xs us Q I r h
  obtain ⟨p, lo, hi, rfl, hp, ⟨b1, b2, b3, b4⟩, hz, q⟩ := h
  obtain ⟨u, rfl, rx⟩ := vals1 r
  cases rx
  obtain ⟨t, u, v, ho⟩ := I.hok p _ hp
  refine call_list_range (n := (hi - lo).toNat) (I.ok.hd hc) (r := p) ho (small_one b1 b2 b3 b4) (by rw [rangeSize_one]; split <;> omega) (Nat.le_trans hz (by decide)) fun h' tk acc' c' hk e it => ?_
  have rv := vals_items it
  refine ⟨.ref s.heap.objs.size, _, I.laid hk (Nat.le_refl _) (show ObjOk X.prog X.w _ h' _ (.lst ((upTo lo (hi - lo).toNat).map V.int)) from ⟨?_, acc'.toList, c', rv, by rw [e]⟩), rfl, q _ (I.hok.fresh (Nat.le_refl _))⟩
  unfold upTo
  rw [List.length_map, List.length_map, List.length_range]
  exact Nat.le_trans hz (by rw [sizeLine_eq]; decide)
theorem call_sumI (hc : X.calm = true) : CallR X (.builtin "sum") (fun xs H Q => ∃ (p : Addr) (ns : List Int), xs = [.ref p] ∧ SqL X.K H p (ns.map V.int) ∧ Q (.int ns.sum) H) := by
  intro pins s σ H xs us Q I r h
  obtain ⟨p, ns, rfl, hp, q⟩ := h
  obtain ⟨u, rfl, rx⟩ := vals1 r
  cases rx
  obtain ⟨its, rv, pl, _⟩ := I.list hp
  have ia := intsAre_of rv
  obtain ⟨xs, hxs⟩ := ia.allInts.items
  have hn := ia.numsOf
  have hxl : its = (intItems xs).toList := by rw [← hxs]
  rw [hxl, nums_intItems] at hn
  have hl := pl.isList
  rw [hxs] at hl
  refine sum_intListG (I.ok.hd hc) hl fun h' tk t' hk => ⟨.int ns.sum, H, I.kept hk, ?_, q⟩
  rw [preSum_eq, List.take_of_length_le (by simp), hn]
  exact ⟨_, rfl⟩
end
end L2
namespace L2
open PySem PySem.Spec PyProof.Rows
section
variable {X : Cx}
theorem call_isi : CallR X (.builtin "isinstance") (fun xs H Q => ∃ x n t b, xs = [x, .ty n] ∧ TyOf X.K H x t ∧ PySem.W.kitOne X.K t (.type n) = some b ∧ Q (.bl b) H) := by
  intro pins s σ H xs us Q I r h
  obtain ⟨x, n, t, b, rfl, ty, e, q⟩ := h
  obtain ⟨u, w', rfl, rx, ry⟩ := vals2 r
  cases (show w' = Value.type n from ry)
  exact isinst_ok I rx ty e fun tk => ⟨.bl b, H, I.tok tk, rfl, q⟩
theorem kit_same (K : PySem.W.Frag) (n : String) : PySem.W.kitOne K (.type n) (.type n) = some true := by
  unfold PySem.W.kitOne
  rw [if_pos (beq_self_eq_true _)]
theorem kit_int_bool (K : PySem.W.Frag) : PySem.W.kitOne K (.type "int") (.type "bool") = some false := by
  unfold PySem.W.kitOne PySem.W.kitCls
  rw [if_neg (by decide +kernel)]
  show (if PySem.W.kitMeta "bool" = true then (fastBuiltinMro "int").map (·.contains (Value.type "bool")) else none) = some false
  rw [if_pos (by decide +kernel)]
  decide +kernel
theorem boot_int : bootBuiltins "int" = some (.type "int") := by decide +kernel
theorem boot_bool : bootBuiltins "bool" = some (.type "bool") := by decide +kernel
theorem boot_listT : bootBuiltins "list" = some (.type "list") := by decide +kernel
theorem boot_rangeT : bootBuiltins "range" = some (.type "range") := by decide +kernel
theorem boot_isi : bootBuiltins "isinstance" = some (.builtin "isinstance") := by decide +kernel
theorem boot_sumB : bootBuiltins "sum" = some (.builtin "sum") := by decide +kernel
theorem boot_minB : bootBuiltins "min" = some (.builtin "min") := by decide +kernel
theorem boot_maxB : bootBuiltins "max" = some (.builtin "max") := by decide +kernel
end
def KeepBut (a : Addr) (H H' : Hp) : Prop := ∀ b o, H b = some o → b ≠ a → H' b = some o
theorem KeepBut.refl (a : Addr) (H : Hp) : KeepBut a H H := fun _ _ h _ => h
theorem KeepBut.trans {a : Addr} {H H1 H2 : Hp} (x : KeepBut a H H1) (y : KeepBut a H1 H2) : KeepBut a H H2 := fun b o h n => y b o (x b o h n) n
theorem Same.but {H H' : Hp} (a : Addr) (s : Same H H') : KeepBut a H H' := fun b o h _ => s b o h
theorem Same.upd_new {H : Hp} {p : Addr} {o : HO} (h : H p = none) : Same H (upd H p o) := fun b u e => by rw [upd_ne (ne_of_none e h)]; exact e
theorem Same.upd_r {H H' : Hp} {p : Addr} {o : HO} (s : Same H H') (h : H p = none) : Same H (L2.upd H' p o) := fun b u e => by rw [upd_ne (ne_of_none e h)]; exact s b u e
theorem KeepBut.upd_r {a : Addr} {H H' : Hp} {p : Addr} {o : HO} (k : KeepBut a H H') (h : H p = none) : KeepBut a H (L2.upd H' p o) := fun b u e n => by rw [upd_ne (ne_of_none e h)]; exact k b u e n
theorem KeepBut.upd_a {a : Addr} {H H' : Hp} {o : HO} (k : KeepBut a H H') : KeepBut a H (L2.upd H' a o) := fun b u e n => by rw [upd_ne n]; exact k b u e n
end L2
namespace L2
open PySem PySem.Spec PyProof.Rows
def Cal (P : Program) (w : World) (K : PySem.W.Frag) (mg : Str → Option Value) (base : Heap) (x : Str) (k : Nat) (ps : List Str) (sp : Sp) : Prop :=
  ∃ (f : Addr) (fd : FuncData), mg x = some (.ref f) ∧ PySem.W.keepIn K (.ref f) = true ∧ Binds K fd ps [] ∧ FnOk P w K mg base CX0 k f fd ps sp
section
variable {X : Cx} {x : Str} {p pos : Pos} {e : Expr} {es : List Expr} {t : TA} {k : Nat} {ps : List Str} {sp : Sp}
theorem pe_cal (c : Cal X.prog X.w X.K X.mg X.base x k ps sp) (hr : Room k X.A) (ha : PA X (e :: es) t) (hg : Gl X x := by rfl) (hdb : (x == ("__debug__" : Str)) = false := by decide)
    (he : starEach (e :: es) X.env = (false, eval e X.env) :: starEach es X.env := by rfl) (hpl : (backTo pos (starEach es X.env)).any (·.1) = false := by rfl) :
    PE X (.Call (.Name x p) (e :: es) [] pos) (tCall sp [] E0 t) := by
  obtain ⟨f, fd, h1, h2, h3, h4⟩ := c
  exact pe_call h4 hr hg h1 h2 h3 .nil pass0 ha hdb he hpl
theorem pe_isi {a b : Expr} {ta : TA} (hm : X.mg "isinstance" = none) (ha : PA X [a, b] ta) (hg : Gl X "isinstance" := by rfl)
    (he : starEach [a, b] X.env = (false, eval a X.env) :: starEach [b] X.env := by rfl) (hpl : (backTo pos (starEach [b] X.env)).any (·.1) = false := by rfl) :
    PE X (.Call (.Name "isinstance" p) [a, b] [] pos) (tCB (fun xs H Q => ∃ x n t b, xs = [x, .ty n] ∧ TyOf X.K H x t ∧ PySem.W.kitOne X.K t (.type n) = some b ∧ Q (.bl b) H) ta) :=
  pe_callB call_isi hg hm boot_isi ha (by decide) (by decide) he hpl
theorem pe_tyInt (hm : X.mg "int" = none) (hg : Gl X "int" := by rfl) : PE X (.Name "int" p) (tC (.ty "int")) := pe_bltn hg hm boot_int rfl
theorem pe_tyBool (hm : X.mg "bool" = none) (hg : Gl X "bool" := by rfl) : PE X (.Name "bool" p) (tC (.ty "bool")) := pe_bltn hg hm boot_bool rfl
theorem pe_tyList (hm : X.mg "list" = none) (hg : Gl X "list" := by rfl) : PE X (.Name "list" p) (tC (.ty "list")) := pe_bltn hg hm boot_listT rfl
theorem pe_lenL (hm : X.mg "len" = none) (ha : PA X [e] t) (hg : Gl X "len" := by rfl)
    (he : starEach [e] X.env = (false, eval e X.env) :: starEach [] X.env := by rfl) : PE X (.Call (.Name "len" p) [e] [] pos) (tCB (fun xs H Q => ∃ p ys, xs = [.ref p] ∧ (SqL X.K H p ys ∨ SqT X.K H p ys) ∧ Q (.int ys.length) H) t) :=
  pe_callB call_len_seq hg hm PySem.boot_len ha (by decide) (by decide) he rfl
end
end L2
namespace Mth
structure IsT (p : List Int) : Prop where
  nd : p.Nodup
  lo : ∀ x ∈ p, 0 ≤ x
  hi : ∀ x ∈ p, x < p.length
theorem mem_upTo {n : Nat} {x : Int} : x ∈ L2.upTo 0 n ↔ 0 ≤ x ∧ x < n := by
  unfold L2.upTo
  rw [List.mem_map]
  constructor
  · rintro ⟨i, hi, rfl⟩
    have := List.mem_range.mp hi
    omega
  · rintro ⟨h1, h2⟩
    exact ⟨x.toNat, List.mem_range.mpr (by omega), by omega⟩
theorem length_upTo (lo : Int) (n : Nat) : (L2.upTo lo n).length = n := by
  unfold L2.upTo
  rw [List.length_map, List.length_range]
theorem nodup_upTo (n : Nat) : (L2.upTo 0 n).Nodup := by
  unfold L2.upTo
  rw [List.nodup_iff_pairwise_ne, List.pairwise_map]
  exact List.Pairwise.imp (fun {a b} (h : a < b) => by omega) List.pairwise_lt_range
theorem isT_of_perm {p : List Int} {n : Nat} (h : p.Perm (L2.upTo 0 n)) : IsT p ∧ p.length = n := by
  have hl : p.length = n := by rw [h.length_eq, length_upTo]
  refine ⟨⟨h.nodup_iff.mpr (nodup_upTo n), fun x hx => (mem_upTo.mp (h.mem_iff.mp hx)).1, fun x hx => ?_⟩, hl⟩
  have := (mem_upTo.mp (h.mem_iff.mp hx)).2
  omega
theorem perm_of_nodup : ∀ (n : Nat) (p : List Nat), p.Nodup → (∀ x ∈ p, x < n) → p.length = n → p.Perm (List.range n) := by
  intro n
  induction n with
  | zero => intro p _ _ hl; rw [List.eq_nil_of_length_eq_zero hl]; exact List.Perm.refl _
  | succ n ih =>
    intro p nd hb hl
    by_cases hn : n ∈ p
    · obtain ⟨s, t, rfl⟩ := List.append_of_mem hn
      have pm : (s ++ n :: t).Perm (n :: (s ++ t)) := List.perm_middle
      have nd' := pm.nodup_iff.mp nd
      obtain ⟨h1, h2⟩ := List.nodup_cons.mp nd'
      have := ih (s ++ t) h2 (fun x hx => by
        have hx' : x < n + 1 := hb x (pm.mem_iff.mpr (List.mem_cons_of_mem _ hx))
        have : x ≠ n := fun e => h1 (e ▸ hx)
        omega) (by rw [List.length_append, List.length_cons] at hl; rw [List.length_append]; omega)
      refine pm.trans ?_
      rw [List.range_succ]
      exact (List.Perm.cons n this).trans (List.perm_append_comm (l₁ := [n]))
    · exfalso
      have hlt : ∀ x ∈ p, x < n := fun x hx => by
        have h1 := hb x hx
        have : x ≠ n := fun e => hn (e ▸ hx)
        omega
      match p, nd, hl, hlt with
      | [], _, hl, _ => simp at hl
      | y :: q, nd, hl, hlt =>
        obtain ⟨h1, h2⟩ := List.nodup_cons.mp nd
        have hq := ih q h2 (fun x hx => hlt x (List.mem_cons_of_mem _ hx)) (by simpa using hl)
        have hy := hlt y List.mem_cons_self
        exact h1 (hq.mem_iff.mpr (List.mem_range.mpr hy))
theorem IsT.perm {p : List Int} (h : IsT p) : p.Perm (L2.upTo 0 p.length) := by
  have e : (p.map Int.toNat).map (fun (i : Nat) => (0 : Int) + (i : Int)) = p := by
    rw [List.map_map]
    conv => rhs; rw [← List.map_id p]
    refine List.map_congr_left fun x hx => ?_
    have := h.lo x hx
    show (0 : Int) + ((x.toNat : Nat) : Int) = x
    omega
  have nd : (p.map Int.toNat).Nodup := by
    rw [List.nodup_iff_pairwise_ne, List.pairwise_map]
    have := List.nodup_iff_pairwise_ne.mp h.nd
    refine List.Pairwise.imp_of_mem (fun {a b} ha hb hne z => hne ?_) this
    have h1 := h.lo a ha
    have h2 := h.lo b hb
    omega
  have := perm_of_nodup p.length (p.map Int.toNat) nd (fun x hx => by
    obtain ⟨y, hy, rfl⟩ := List.mem_map.mp hx
    have h1 := h.lo y hy
    have h2 := h.hi y hy
    omega) (by rw [List.length_map])
  have q := this.map (fun (i : Nat) => (0 : Int) + (i : Int))
  rw [e] at q
  exact q
def at0 (fs : List Int) (u : Int) : Option Int := fs[u.toNat]?
theorem map_upTo_at0 (fs : List Int) : (L2.upTo 0 fs.length).map (at0 fs) = fs.map some := by
  unfold L2.upTo
  rw [List.map_map]
  refine List.ext_getElem? fun j => ?_
  rw [List.getElem?_map, List.getElem?_map]
  by_cases hj : j < fs.length
  · rw [List.getElem?_range hj, List.getElem?_eq_getElem hj]
    show some (fs[((0 : Int) + (j : Int)).toNat]?) = _
    have : ((0 : Int) + (j : Int)).toNat = j := by omega
    rw [this, List.getElem?_eq_getElem hj]
    rfl
  · rw [List.getElem?_eq_none (by rw [List.length_range]; omega), List.getElem?_eq_none (by omega)]
    rfl
theorem perm_some {a b : List Int} (h : (a.map some).Perm (b.map some)) : a.Perm b := by
  have := h.map (fun o : Option Int => o.getD 0)
  rw [List.map_map, List.map_map] at this
  have e : ∀ l : List Int, l.map ((fun o : Option Int => o.getD 0) ∘ some) = l := fun l => by
    conv => rhs; rw [← List.map_id l]
    rfl
  rw [e, e] at this
  exact this
theorem perm_along {fs ts qs : List Int} (ht : IsT ts) (hl : fs.length = ts.length) (h : ts.map (at0 fs) = qs.map some) : fs.Perm qs := by
  refine perm_some ?_
  have h1 := ht.perm.map (at0 fs)
  rw [← hl, map_upTo_at0, h] at h1
  exact h1.symm
end Mth
namespace L2
open PySem PySem.Spec PyProof.Rows
theorem CompOk.of {X : Cx} {N : List Str} {nl : Nat} {fr : List Nat} {scope : Scope} (h1 : (scope.names.all fun y => y.2 != .cell) = true := by rfl) (h2 : scope.kind = .function := by rfl)
    (h3 : (scope.names.all fun y => y.2 != .local || scope.names.lookup y.1 == some .local) = true := by rfl)
    (h4 : (scope.names.all fun p => p.2 != .free || (X.env.kindOf p.1 == some .cell || X.env.kindOf p.1 == some .free)) = true := by rfl) (h5 : N.length = nl + fr.length := by rfl)
    (h6 : ((List.range fr.length).all fun k => match fr[k]? with
      | some j => (match N[nl + k]?, X.N[j]? with
        | some y, some z => y == z && (X.env.scope.names.lookup y == some .local || X.env.scope.names.lookup y == some .cell || X.env.scope.names.lookup y == some .free) && scope.names.lookup y == some .free
        | _, _ => false)
      | none => false) = true := by rfl) : CompOk X N nl fr scope where
  cell := fun y hy e => by
    have := List.all_eq_true.mp h1 y hy
    rw [e] at this; exact absurd this (by decide)
  kind := h2
  names := fun y hy e => by
    have := List.all_eq_true.mp h3 y hy
    rw [e] at this
    have q : (scope.names.lookup y.1 == some NameKind.local) = true := by simpa using this
    exact eq_of_beq q
  free := fun p hp e => by
    have := List.all_eq_true.mp h4 p hp
    rw [e] at this
    have q : (X.env.kindOf p.1 == some NameKind.cell || X.env.kindOf p.1 == some NameKind.free) = true := by simpa using this
    rcases Bool.or_eq_true _ _ |>.mp q with z | z
    · exact .inl (eq_of_beq z)
    · exact .inr (eq_of_beq z)
  len := h5
  fr := fun k j e => by
    have hk : k < fr.length := (List.getElem?_eq_some_iff.mp e).1
    have := List.all_eq_true.mp h6 k (List.mem_range.mpr hk)
    rw [e] at this
    dsimp only at this
    cases e1 : N[nl + k]? with
    | none => rw [e1] at this; cases this
    | some y =>
      cases e2 : X.N[j]? with
      | none => rw [e1, e2] at this; cases this
      | some z =>
        rw [e1, e2] at this
        dsimp only at this
        rw [Bool.and_eq_true, Bool.and_eq_true] at this
        obtain ⟨⟨q1, q2⟩, q3⟩ := this
        have hyz : y = z := eq_of_beq q1
        subst hyz
        refine ⟨y, rfl, rfl, ?_, eq_of_beq q3⟩
        rw [Bool.or_eq_true, Bool.or_eq_true] at q2
        rcases q2 with (q | q) | q
        · exact .inl (eq_of_beq q)
        · exact .inr (.inl (eq_of_beq q))
        · exact .inr (.inr (eq_of_beq q))
def seenK (l : List Int) : List (Key × V) := l.map fun n => ((Sum.inl n : Key), V.bl true)
theorem seenK_in {l : List Int} {n : Int} (h : n ∈ l) : valV (seenK l) (Sum.inl n : Key) = some (.bl true) := by
  induction l with
  | nil => simp at h
  | cons a r ih =>
    show valV (((Sum.inl a : Key), V.bl true) :: seenK r) _ = _
    by_cases e : a = n
    · rw [valV_pos (by rw [e])]
    · rw [valV_neg (fun z => e (Sum.inl.inj z))]
      exact ih ((List.mem_cons.mp h).resolve_left fun z => e z.symm)
theorem seenK_no {l : List Int} {n : Int} (h : n ∉ l) : valV (seenK l) (Sum.inl n : Key) = none := by
  induction l with
  | nil => rfl
  | cons a r ih =>
    show valV (((Sum.inl a : Key), V.bl true) :: seenK r) _ = _
    rw [valV_neg (fun z => h (by rw [Sum.inl.inj z]; exact List.mem_cons_self))]
    exact ih fun z => h (List.mem_cons_of_mem _ z)
theorem seenK_put {l : List Int} {n : Int} (h : n ∉ l) : putK (seenK l) (Sum.inl n : Key) (V.bl true) = seenK (l ++ [n]) := by
  rw [putK_new _ (seenK_no h)]
  unfold seenK
  rw [List.map_append]
  rfl
theorem getElem_int {ns : List Int} {i : Nat} {y : V} (h : (ns.map V.int)[i]? = some y) : ∃ z, ns[i]? = some z ∧ y = .int z := by
  rw [List.getElem?_map] at h
  cases e : ns[i]? with
  | none => rw [e] at h; cases h
  | some z => rw [e] at h; exact ⟨z, rfl, (Option.some.inj h).symm⟩
theorem take_succ_of {α : Type} {l : List α} {i : Nat} {x : α} (h : l[i]? = some x) : l.take (i + 1) = l.take i ++ [x] := by
  rw [List.take_add_one, h]
  rfl
end L2
namespace Mth
theorem atI_map {p : List Int} {i : Int} (h0 : 0 ≤ i) (h1 : i < p.length) : L2.atI (p.map L2.V.int) i = some (.int (p.getD i.toNat 0)) := by
  obtain ⟨j, rfl⟩ := Int.eq_ofNat_of_zero_le h0
  refine L2.atI_nat ?_
  have hj : j < p.length := by omega
  rw [List.getElem?_map, List.getElem?_eq_getElem hj]
  show some (L2.V.int p[j]) = _
  rw [Int.toNat_natCast]
  rw [List.getD_eq_getElem?_getD, List.getElem?_eq_getElem hj]
  rfl
end Mth
namespace L2
open PySem PySem.Spec PyProof.Rows
theorem leq_nil (K : PySem.W.Frag) (H : Hp) (n : Nat) (xs : List V) : LEq K H n xs [] xs.isEmpty := by
  cases xs with
  | nil => exact .inr ⟨fun _ => true, rfl, fun j x y e => by simp at e, rfl⟩
  | cons x r => exact .inl ⟨by simp, rfl⟩
section
variable {X : Cx} {p pos apos : Pos} {e o : Expr} {es : List Expr} {t : TA} {to : TE}
theorem pe_append (ho : PE X o to) (ha : PA X [e] t)
    (hbase : attributeBase o "append" X.env (eval o X.env) = eval o X.env := by rfl)
    (hfew : ((backTo pos (starEach [e] X.env)).all (fun x => !x.1) && (backToKw pos (keywordEach [] X.env)).all (fun x => x.1.isSome)
      && decide ([e].length + ([] : List Keyword).length + (if ([] : List Keyword).isEmpty then 0 else 1) < 30)) = true := by rfl)
    (hline : (apos.endLine == pos.line) = true := by rfl) (hs : starEach [e] X.env = (false, eval e X.env) :: starEach [] X.env := by rfl) (hplain : (backTo pos (starEach [] X.env)).any (·.1) = false := by rfl) :
    PE X (.Call (.Attribute o "append" apos) [e] [] pos) (tBM X.K "list" rAppend to t) :=
  pe_bm PySem.F.plainAttrs_list PySem.F.slot_list_append PySem.F.type_list_append mt_append ho ha hbase hfew hline hs hplain
theorem pe_listOf (hm : X.mg "list" = none) (ha : PA X [e] t) (hg : Gl X "list" := by rfl) (he : starEach [e] X.env = (false, eval e X.env) :: starEach [] X.env := by rfl) :
    PE X (.Call (.Name "list" p) [e] [] pos) (tCB (fun xs H Q => ∃ p ys, xs = [.ref p] ∧ (SqL X.K H p ys ∨ SqT X.K H p ys) ∧ ∀ l, H l = none → Q (.ref l) (upd H l (.lst ys))) t) :=
  pe_callTy call_list_of hg hm boot_listT ha (by decide) (by decide) he rfl
theorem pe_listRng {p2 pos2 : Pos} (hc : X.calm = true) (hm : X.mg "list" = none) (hm2 : X.mg "range" = none) (ha : PA X [e] t) (hg : Gl X "list" := by rfl) (hg2 : Gl X "range" := by rfl) (he : starEach [e] X.env = (false, eval e X.env) :: starEach [] X.env := by rfl)
    (he2 : starEach [.Call (.Name "range" p2) [e] [] pos2] X.env = (false, eval (.Call (.Name "range" p2) [e] [] pos2) X.env) :: starEach [] X.env := by rfl) :
    PE X (.Call (.Name "list" p) [.Call (.Name "range" p2) [e] [] pos2] [] pos) (tCB (fun xs H Q => ∃ p lo hi, xs = [.ref p] ∧ H p = some (.rng lo hi) ∧ (-(2 ^ 62) ≤ lo ∧ lo < 2 ^ 62 ∧ -(2 ^ 62) ≤ hi ∧ hi < 2 ^ 62) ∧ (hi - lo).toNat ≤ 2 ^ 20 ∧
    ∀ l, H l = none → Q (.ref l) (upd H l (.lst ((upTo lo (hi - lo).toNat).map V.int)))) (tCons (tCB (fun xs H Q => ∃ j, xs = [.int j] ∧ ∀ p, H p = none → Q (.ref p) (upd H p (.rng 0 j))) t) tNil)) :=
  pe_callTy (call_list_rng hc) hg hm boot_listT (pa_cons (pe_callTy call_range1 hg2 hm2 boot_rangeT ha (by decide) (by decide) he rfl) pa_nil he2) (by decide) (by decide) he2 rfl
theorem pe_sum (hc : X.calm = true) (hm : X.mg "sum" = none) (ha : PA X [e] t) (hg : Gl X "sum" := by rfl) (he : starEach [e] X.env = (false, eval e X.env) :: starEach [] X.env := by rfl) :
    PE X (.Call (.Name "sum" p) [e] [] pos) (tCB (fun xs H Q => ∃ (p : Addr) (ns : List Int), xs = [.ref p] ∧ SqL X.K H p (ns.map V.int) ∧ Q (.int ns.sum) H) t) :=
  pe_callB (call_sumI hc) hg hm boot_sumB ha (by decide) (by decide) he rfl
theorem pe_min2 {a b : Expr} (hc : X.calm = true) (hm : X.mg "min" = none) (ha : PA X [a, b] t) (hg : Gl X "min" := by rfl) (he : starEach [a, b] X.env = (false, eval a X.env) :: starEach [b] X.env := by rfl) (hpl : (backTo pos (starEach [b] X.env)).any (·.1) = false := by rfl) :
    PE X (.Call (.Name "min" p) [a, b] [] pos) (tCB (fun xs H Q => ∃ i j, xs = [.int i, .int j] ∧ Q (.int (if j < i then j else i)) H) t) :=
  pe_callB (call_min2 hc) hg hm boot_minB ha (by decide) (by decide) he hpl
theorem pe_max2 {a b : Expr} (hc : X.calm = true) (hm : X.mg "max" = none) (ha : PA X [a, b] t) (hg : Gl X "max" := by rfl) (he : starEach [a, b] X.env = (false, eval a X.env) :: starEach [b] X.env := by rfl) (hpl : (backTo pos (starEach [b] X.env)).any (·.1) = false := by rfl) :
    PE X (.Call (.Name "max" p) [a, b] [] pos) (tCB (fun xs H Q => ∃ i j, xs = [.int i, .int j] ∧ Q (.int (if j > i then j else i)) H) t) :=
  pe_callB (call_max2 hc) hg hm boot_maxB ha (by decide) (by decide) he hpl
end
end L2
namespace Mth
theorem perm_erase {α : Type} : ∀ {l : List α} {k : Nat} {y : α}, l[k]? = some y → (y :: l.eraseIdx k).Perm l
  | [], k, y, h => by simp at h
  | a :: r, 0, y, h => by
    simp at h
    subst h
    exact List.Perm.refl _
  | a :: r, k + 1, y, h => by
    have h' : r[k]? = some y := by simpa using h
    have ih := perm_erase h'
    show (y :: a :: r.eraseIdx k).Perm (a :: r)
    exact (List.Perm.swap a y _).trans (ih.cons a)
end Mth
namespace L2
open PySem PySem.Spec PyProof.Rows
def tLenL (K : PySem.W.Frag) (ta : TA) : TE := tCB (fun xs H Q => ∃ p ys, xs = [.ref p] ∧ (SqL K H p ys ∨ SqT K H p ys) ∧ Q (.int ys.length) H) ta
section
variable {X : Cx} {p pos : Pos} {e : Expr} {t : TA}
theorem pe_lenLK (K : PySem.W.Frag) (hm : X.mg "len" = none) (ha : PA X [e] t) (hK : X.K = K := by rfl) (hg : Gl X "len" := by rfl)
    (he : starEach [e] X.env = (false, eval e X.env) :: starEach [] X.env := by rfl) : PE X (.Call (.Name "len" p) [e] [] pos) (tLenL K t) := by
  subst hK
  exact pe_lenL hm ha hg he
end
end L2
namespace Mth
theorem at0_ne {fs : List Int} {u v x : Int} (hu : 0 ≤ u) (hv : 0 ≤ v) (h : u ≠ v) : at0 (fs.set v.toNat x) u = at0 fs u := by
  unfold at0
  rw [List.getElem?_set_ne (by omega)]
theorem at0_same {fs : List Int} {v x : Int} (h : v.toNat < fs.length) : at0 (fs.set v.toNat x) v = some x := by
  unfold at0
  rw [List.getElem?_set_self h]
theorem getD_eq {ts : List Int} {i : Nat} (h : i < ts.length) : ts.getD i 0 = ts[i] := by
  rw [List.getD_eq_getElem?_getD, List.getElem?_eq_getElem h]
  rfl
theorem nodup_getD {ts : List Int} (nd : ts.Nodup) {i j : Nat} (hi : i < ts.length) (hj : j < ts.length) (h : i ≠ j) : ts.getD i 0 ≠ ts.getD j 0 := by
  rw [getD_eq hi, getD_eq hj]
  rcases Nat.lt_or_gt_of_ne h with z | z
  · exact List.pairwise_iff_getElem.mp (List.nodup_iff_pairwise_ne.mp nd) i j hi hj z
  · exact fun e => List.pairwise_iff_getElem.mp (List.nodup_iff_pairwise_ne.mp nd) j i hj hi z e.symm
theorem seg_done {ts fs qs : List Int} {k L : Nat} (hL : 1 ≤ L) (hb : k + L ≤ ts.length) (h1 : (ts.take k).map (at0 fs) = qs.map some) (hq : qs.Perm (ts.take k))
    (h2 : ∀ j, j < L → at0 fs (ts.getD (k + j) 0) = some (ts.getD (k + (j + 1) % L) 0)) : ∃ qs' : List Int, qs'.Perm (ts.take (k + L)) ∧ (ts.take (k + L)).map (at0 fs) = qs'.map some := by
  have hT : ((ts.drop k).take L).length = L := by rw [List.length_take, List.length_drop]; omega
  have hTj : ∀ j, j < L → ((ts.drop k).take L)[j]? = some (ts.getD (k + j) 0) := fun j hj => by
    rw [List.getElem?_take_of_lt hj, List.getElem?_drop, getD_eq (by omega), List.getElem?_eq_getElem (by omega)]
  have e : ((ts.drop k).take L).map (at0 fs) = (((ts.drop k).take L).drop 1 ++ ((ts.drop k).take L).take 1).map some := by
    refine List.ext_getElem? fun j => ?_
    by_cases hj : j < L
    · rw [List.getElem?_map, hTj j hj, List.getElem?_map]
      show some (at0 fs (ts.getD (k + j) 0)) = _
      rw [h2 j hj]
      by_cases hj1 : j + 1 < L
      · rw [List.getElem?_append_left (by rw [List.length_drop, hT]; omega), List.getElem?_drop, Nat.add_comm 1 j, hTj (j + 1) hj1, Nat.mod_eq_of_lt hj1]
        rfl
      · have hjL : j + 1 = L := by omega
        rw [List.getElem?_append_right (by rw [List.length_drop, hT]; omega), List.length_drop, hT, hjL, Nat.mod_self]
        have : j - (L - 1) = 0 := by omega
        rw [this, List.getElem?_take_of_lt (by omega), hTj 0 (by omega)]
        rfl
    · rw [List.getElem?_eq_none (by rw [List.length_map, hT]; omega), List.getElem?_eq_none]
      rw [List.length_map, List.length_append, List.length_drop, List.length_take (i := 1), hT]
      omega
  refine ⟨qs ++ (((ts.drop k).take L).drop 1 ++ ((ts.drop k).take L).take 1), ?_, ?_⟩
  · rw [List.take_add]
    refine List.Perm.append hq ?_
    refine List.perm_append_comm.trans ?_
    rw [List.take_append_drop]
  · rw [List.take_add, List.map_append, List.map_append, h1, e]
end Mth
namespace L2
open PySem PySem.Spec PyProof.Rows
theorem KeepBut.free {a l : Addr} {H H' : Hp} (k : KeepBut a H H') (h : H' l = none) (n : l ≠ a) : H l = none := by
  cases e : H l with
  | none => rfl
  | some o => have := k l o e n; rw [h] at this; cases this
theorem Same.kb {a : Addr} {H H1 H2 : Hp} (s : Same H H1) (k : KeepBut a H1 H2) (h : H a = none) : Same H H2 := fun b o e => k b o (s b o e) (ne_of_none e h)
def RowsH (H : Hp) (as : List Addr) (rs : List (List Int)) : Prop := as.length = rs.length ∧ ∀ (j : Nat) a r, as[j]? = some a → rs[j]? = some r → H a = some (.lst (r.map V.int))
theorem len_upTo (lo : Int) (n : Nat) : (upTo lo n).length = n := by
  unfold upTo
  rw [List.length_map, List.length_range]
theorem atI_getD {p : List Int} {j : Nat} (h : j < p.length) : atI (p.map V.int) ((0 : Int) + (j : Int)) = some (.int (p.getD j 0)) := by
  have e : (0 : Int) + (j : Int) = ((j : Nat) : Int) := by omega
  rw [e]
  refine atI_nat ?_
  rw [List.getElem?_map, List.getElem?_eq_getElem h, List.getD_eq_getElem?_getD, List.getElem?_eq_getElem h]
  rfl
end L2
namespace Mth
theorem isT_getD {p : List Int} (t : IsT p) {j : Nat} (h : j < p.length) : 0 ≤ p.getD j 0 ∧ p.getD j 0 < p.length := by
  rw [getD_eq h]
  exact ⟨t.lo _ (List.getElem_mem h), t.hi _ (List.getElem_mem h)⟩
end Mth
namespace L2
open PySem PySem.Spec PyProof.Rows
def Ite (K : PySem.W.Frag) (a : Addr) : It :=
  ⟨fun i H => ∃ xs x, SqL K H a xs ∧ xs[i]? = some x, fun i H v H' => ∃ x t, (∀ xs, SqL K H a xs → xs[i]? = some x) ∧ H t = none ∧ v = .ref t ∧ H' = upd H t (.tup [.int (i : Int), x]), fun i H => ∃ xs, SqL K H a xs ∧ xs.length ≤ i⟩
theorem turn_enum {P : Program} {w : World} {K : PySem.W.Frag} {elts : List Expr} {x1} {pos : Pos} (a e it : Addr) (hne : e ≠ it) :
    Turn P w K (.Tuple elts x1 pos) (Ite K a) [e, it] e (fun i h => (∃ old, IsEnum h e it i old) ∧ h.IsListIter it a i) where
  mem := by simp
  obj := fun i h st b hb => by
    obtain ⟨⟨old, he⟩, ⟨o, ho, c, d⟩⟩ := st
    have hb : b = e ∨ b = it := by simpa using hb
    rcases hb with rfl | rfl
    · exact ⟨_, he, fun v z => by cases z⟩
    · exact ⟨o, ho, fun v z => by rw [d] at z; cases z⟩
  keep := fun i h h' st k => ⟨let ⟨old, he⟩ := st.1; ⟨old, k e (by simp) _ he⟩, st.2.at fun o q => k it (by simp) o q⟩
  item := by
    intro X hP hw hK hc i pins s σ H E I hf st hg
    subst hP hw hK
    obtain ⟨⟨old, he⟩, hit⟩ := st
    obtain ⟨xs, x, hq, hx⟩ := hg
    obtain ⟨its, rv, p, hz⟩ := I.list hq
    obtain ⟨u, hu, ru⟩ := rv.get hx
    obtain ⟨f0, f1, f2, f3, f4, f5⟩ := hf e (by simp)
    obtain ⟨g0, g1, g2, g3, g4, g5⟩ := hf it (by simp)
    refine wpAny_pyNext_enum_item he hit p.isList (x := u) (by simpa using hu) hne fun h' he' hit' ht' hz' hk' => ?_
    refine ⟨_, rfl, wpAny_letOwnedTupleGo_enum he' fun h2 he2 hs2 => ?_⟩
    have hs2 : Heap.SameBut e h' h2 := hs2
    have eT : e ≠ s.heap.objs.size := Nat.ne_of_lt (Heap.lt_size he)
    have ht2 : h2.get? s.heap.objs.size = some { cls := .type "tuple", data := .seq #[.int i s.toks, u] } := hs2.extBut _ _ eT.symm ht'
    have kk : ∀ b o, b ≠ e → b ≠ it → s.heap.get? b = some o → h2.get? b = some o := fun b o b1 b2 q => hs2.extBut b o b1 (hk' b o b1 b2 q)
    have hn : H s.heap.objs.size = none := I.hok.fresh (Nat.le_refl _)
    have nT : ∀ b u', H b = some u' → b ≠ s.heap.objs.size := fun b u' q => ne_of_none q hn
    have ne : ∀ b u', H b = some u' → b ≠ e ∧ b ≠ it := fun b u' q => ⟨fun z => (by rw [z, f0] at q; cases q), fun z => (by rw [z, g0] at q; cases q)⟩
    have I1 : Inv X pins σ (upd H s.heap.objs.size (.tup [.int (i : Int), x])) { s with heap := h2, gens := s.gens, drawn := s.drawn, toks := s.toks + 1 } := by
      refine I.step (ch := [e, it]) (fun b hb => ?_) (fun b o _ _ hc q _ => kk b o (fun z => hc (by simp [z])) (fun z => hc (by simp [z])) q) (fun b o _ _ hc q _ => ⟨o.slots, kk b o (fun z => hc (by simp [z])) (fun z => hc (by simp [z])) q⟩)
        (fun b o hc q n => by rw [upd_ne (Nat.ne_of_lt (Heap.lt_size q))]; exact n) (fun b o hc q => ⟨o, kk b o (fun z => hc (by simp [z])) (fun z => hc (by simp [z])) q⟩)
        (fun b ys q => by rw [upd_ne (nT b _ q)]; exact q) (fun b o ys q => by rw [upd_ne (nT b _ q)]; exact q) (fun b ps q => ⟨#[], by rw [upd_ne (nT b _ q), q]; simp⟩) (fun m hm => ?_) (fun b u' q => ?_) I.bare
      · have hb : b = e ∨ b = it := by simpa using hb
        rcases hb with rfl | rfl
        · exact ⟨f3, f1, f4, f5⟩
        · exact ⟨g3, g1, g4, g5⟩
      · obtain ⟨o, es, ep, ho, r⟩ := hm
        exact ⟨o, es, ep, kk _ o (Ne.symm f1) (Ne.symm g1) ho, r⟩
      · by_cases hb : b = s.heap.objs.size
        · subst hb
          rw [upd_same] at q
          cases q
          exact ⟨by show 2 ≤ sizeLine; decide, [.int i s.toks, u], .cons ⟨_, rfl⟩ (.cons ru .nil), ⟨_, ht2, rfl, 0, rfl⟩⟩
        · rw [upd_ne hb] at q
          refine (I.hok b u' q).stay (fun c v hc q' => ?_) (fun c q' => by rw [upd_ne (nT c _ q')]; exact q') fun c ys q' => by rw [upd_ne (nT c _ q')]; exact q'
          rcases hc with z | z
          · rw [z] at q' ⊢; exact kk b v (ne b _ q).1 (ne b _ q).2 q'
          · exact kk c v (ne c _ z).1 (ne c _ z).2 q'
    refine ⟨.ref s.heap.objs.size, _, I1, rfl, ⟨x, s.heap.objs.size, fun ys hy => by rw [I.list_inj hy hq]; exact hx, hn, rfl, rfl⟩, ⟨⟨u, ?_⟩, ?_⟩, fun b hb => ?_⟩
    · have : ((i + 1 : Nat) : Int) = (i : Int) + 1 := by push_cast; rfl
      rw [this]
      exact he2
    · exact hit'.extBut hs2.extBut hne.symm
    · have hb : b = e ∨ b = it := by simpa using hb
      rcases hb with rfl | rfl
      · rw [upd_ne eT]; exact f0
      · obtain ⟨o, ho, _⟩ := hit
        rw [upd_ne (Nat.ne_of_lt (Heap.lt_size ho))]; exact g0
  done := by
    intro X hP hw hK hc i pins s σ H E I hf st hg
    subst hP hw hK
    obtain ⟨⟨old, he⟩, hit⟩ := st
    obtain ⟨xs, hq, hx⟩ := hg
    obtain ⟨its, rv, p, hz⟩ := I.list hq
    obtain ⟨g0, g1, g2, g3, g4, g5⟩ := hf it (by simp)
    have hl := rv.length
    exact wpAny_pyNext_enum_end (I.ok.hd hc) he hit p.isList (by simp; omega) fun h' eb => ⟨rfl, I.turned (t' := s.toks) (fun b o hb q => eb b o hb q) g0 g1 g3 g4 g5⟩
  self := fun _ _ _ _ _ st h => let ⟨_, he⟩ := st.1; wpAny_pyIter_enum he h
theorem boot_enum : bootBuiltins "enumerate" = some (.type "enumerate") := by decide +kernel
section
variable {X : Cx} {l : Expr} {ta : TA} {p pos : Pos} {elts : List Expr} {x1 : Nat} {tpos : Pos}
def iEnum (K : PySem.W.Frag) (ta : TA) : TI := fun σ H R => ta σ H fun vs H1 => ∃ a, vs = [.ref a] ∧ (∃ xs, SqL K H1 a xs) ∧ R (Ite K a) H1
theorem pi_enum (hm : X.mg "enumerate" = none) (ha : PA X [l] ta) (hg : Gl X "enumerate" := by rfl) (hs : starEach [l] X.env = [(false, eval l X.env)] := by rfl) : PI X (.Tuple elts x1 tpos) (.Call (.Name "enumerate" p) [l] [] pos) (iEnum X.K ta) := by
  intro pins s σ H R I h
  refine Call_ (ld_blt I hg hm boot_enum (PyProof.Rows.callWith_type1 (thn (ha pos pins s σ H _ I h) fun us s1 ⟨vs, H1, I1, r1, q1⟩ => ?_) hs rfl))
  obtain ⟨a, e, ⟨xs, hq⟩, q⟩ := q1
  subst e
  obtain ⟨u, rfl, rx⟩ := vals1 r1
  cases rx
  obtain ⟨its, rv, pl, hz⟩ := I1.list hq
  refine call_enumerate_list pl.isList fun h' he hit hz' hk => ?_
  refine wpAny_pyIter_enum he ?_
  have I2 : Inv X pins σ H1 { s1 with heap := h', toks := s1.toks } := I1.kept (t' := s1.toks) hk
  refine ⟨s1.heap.objs.size + 1, [s1.heap.objs.size + 1, s1.heap.objs.size], _, _, H1, rfl, I2, turn_enum a (s1.heap.objs.size + 1) s1.heap.objs.size (Nat.succ_ne_self _), ⟨⟨.none, he⟩, hit⟩, fun b hb => ?_, q⟩
  have hb : b = s1.heap.objs.size + 1 ∨ b = s1.heap.objs.size := by simpa using hb
  rcases hb with rfl | rfl
  · exact I1.fpOk (by omega) (I1.hok.fresh (by omega))
  · exact I1.fpOk (by omega) (I1.hok.fresh (by omega))
end
theorem for_enum {K : PySem.W.Frag} {a : Addr} {xs : List V} {g : TG} {tb : TS} {D : Ends} {σ : St} {H : Hp} (Pv : Nat → St → Hp → Prop) (h0 : Pv 0 σ H) (hl : ∀ i σ H, i ≤ xs.length → Pv i σ H → SqL K H a xs)
    (hs : ∀ i x σ H t, xs[i]? = some x → Pv i σ H → H t = none → g (.ref t) σ (upd H t (.tup [.int (i : Int), x])) fun σ2 H2 => tb { D with nx := Pv (i + 1), ct := Pv (i + 1), bk := D.nx } σ2 H2) (hd : ∀ σ H, Pv xs.length σ H → D.nx σ H) :
    ∃ W : Nat → Nat → St → Hp → Prop, (∃ m, W 0 m σ H) ∧ ∀ i m σ H, W i m σ H →
      ((Ite K a).stop i H ∧ D.nx σ H) ∨ ((Ite K a).go i H ∧ ∃ N : St → Hp → Prop, (∀ σ' H', N σ' H' → ∃ m', m' < m ∧ W (i + 1) m' σ' H') ∧ ∀ x H', (Ite K a).yld i H x H' → g x σ H' fun σ2 H2 => tb { D with nx := N, ct := N, bk := D.nx } σ2 H2) := by
  refine ⟨fun i m σ H => m = xs.length - i ∧ i ≤ xs.length ∧ Pv i σ H, ⟨xs.length, by simp, Nat.zero_le _, h0⟩, ?_⟩
  rintro i m σ H ⟨rfl, hi, p⟩
  have q := hl i σ H hi p
  by_cases hlt : i < xs.length
  · refine .inr ⟨⟨xs, xs[i], q, by simp [hlt]⟩, Pv (i + 1), fun σ' H' p' => ⟨xs.length - (i + 1), by omega, rfl, hlt, p'⟩, fun x H' y => ?_⟩
    obtain ⟨x', t, y1, y2, e1, e2⟩ := y
    subst e1 e2
    exact hs i x' σ _ t (y1 xs q) p y2
  · have e : i = xs.length := by omega
    subst e
    exact .inl ⟨⟨xs, q, Nat.le_refl _⟩, hd σ H p⟩
end L2
namespace Mth
def nx (p : List Int) (x : Int) : Int := p.getD x.toNat 0
def it (p : List Int) : Nat → Int → Int
  | 0, x => x
  | i + 1, x => nx p (it p i x)
def In (p : List Int) (x : Int) : Prop := 0 ≤ x ∧ x < p.length
theorem nx_in {p : List Int} (t : IsT p) {x : Int} (h : In p x) : In p (nx p x) := isT_getD t (j := x.toNat) (by have := h.1; have := h.2; omega)
theorem nx_inj {p : List Int} (t : IsT p) {x y : Int} (hx : In p x) (hy : In p y) (h : nx p x = nx p y) : x = y := by
  have a1 := hx.1
  have a2 := hx.2
  have b1 := hy.1
  have b2 := hy.2
  by_cases e : x.toNat = y.toNat
  · omega
  · exact absurd h (nodup_getD t.nd (i := x.toNat) (j := y.toNat) (by omega) (by omega) e)
theorem it_in {p : List Int} (t : IsT p) {x : Int} (h : In p x) : ∀ i, In p (it p i x)
  | 0 => h
  | i + 1 => nx_in t (it_in t h i)
theorem it_add (p : List Int) (x : Int) : ∀ i j, it p (i + j) x = it p i (it p j x)
  | 0, j => by rw [Nat.zero_add]; rfl
  | i + 1, j => by
    rw [Nat.add_right_comm]
    show nx p (it p (i + j) x) = nx p (it p i (it p j x))
    rw [it_add p x i j]
theorem it_inj {p : List Int} (t : IsT p) {x y : Int} (hx : In p x) (hy : In p y) : ∀ i, it p i x = it p i y → x = y
  | 0, h => h
  | i + 1, h => it_inj t hx hy i (nx_inj t (it_in t hx i) (it_in t hy i) h)
structure Per (p : List Int) (x : Int) (L : Nat) : Prop where
  pos : 0 < L
  back : it p L x = x
  least : ∀ i, 0 < i → i < L → it p i x ≠ x
theorem Per.uniq {p : List Int} {x : Int} {L M : Nat} (h : Per p x L) (g : Per p x M) : L = M := by
  rcases Nat.lt_trichotomy L M with z | z | z
  · exact absurd h.back (g.least L h.pos z)
  · exact z
  · exact absurd g.back (h.least M g.pos z)
theorem it_mul {p : List Int} {x : Int} {L : Nat} (h : it p L x = x) : ∀ q, it p (L * q) x = x
  | 0 => by rw [Nat.mul_zero]; rfl
  | q + 1 => by rw [Nat.mul_succ, it_add, h, it_mul h q]
theorem it_mod {p : List Int} {x : Int} {L : Nat} (h : it p L x = x) (i : Nat) : it p (i % L) x = it p i x := by
  conv => rhs; rw [← Nat.div_add_mod i L, Nat.add_comm, it_add, it_mul h]
def ringL (p : List Int) (x : Int) (L : Nat) : List Int := (List.range L).map fun i => it p i x
theorem ringL_len (p : List Int) (x : Int) (L : Nat) : (ringL p x L).length = L := by unfold ringL; rw [List.length_map, List.length_range]
theorem ringL_get {p : List Int} {x : Int} {L j : Nat} (h : j < L) : (ringL p x L)[j]? = some (it p j x) := by
  unfold ringL
  rw [List.getElem?_map, List.getElem?_range h]
  rfl
theorem ringL_getD {p : List Int} {x : Int} {L j : Nat} (h : j < L) : (ringL p x L).getD j 0 = it p j x := by
  rw [List.getD_eq_getElem?_getD, ringL_get h]; rfl
theorem mem_ringL {p : List Int} {x y : Int} {L : Nat} : y ∈ ringL p x L ↔ ∃ j, j < L ∧ y = it p j x := by
  unfold ringL
  rw [List.mem_map]
  constructor
  · rintro ⟨j, hj, rfl⟩
    exact ⟨j, List.mem_range.mp hj, rfl⟩
  · rintro ⟨j, hj, rfl⟩
    exact ⟨j, List.mem_range.mpr hj, rfl⟩
theorem ringL_succ (p : List Int) (x : Int) (m : Nat) : ringL p x (m + 1) = ringL p x m ++ [it p m x] := by
  unfold ringL
  rw [List.range_succ, List.map_append]
  rfl
theorem ringL_nodup {p : List Int} (t : IsT p) {x : Int} (hx : In p x) {m : Nat} (h : ∀ i, 0 < i → i < m → it p i x ≠ x) : (ringL p x m).Nodup := by
  unfold ringL
  rw [List.nodup_iff_pairwise_ne, List.pairwise_map]
  refine List.Pairwise.imp_of_mem (fun {a b} ha hb hlt e => ?_) List.pairwise_lt_range
  have hb := List.mem_range.mp hb
  have e2 : b = a + (b - a) := by omega
  rw [e2, it_add] at e
  exact h (b - a) (by omega) (by omega) (it_inj t (it_in t hx _) hx a e.symm)
theorem nodup_len : ∀ (n : Nat) (l : List Nat), l.Nodup → (∀ x ∈ l, x < n) → l.length ≤ n := by
  intro n
  induction n with
  | zero =>
    intro l _ hb
    cases l with
    | nil => exact Nat.le_refl _
    | cons a r => exact absurd (hb a List.mem_cons_self) (Nat.not_lt_zero _)
  | succ n ih =>
    intro l nd hb
    by_cases hn : n ∈ l
    · obtain ⟨s, u, rfl⟩ := List.append_of_mem hn
      have pm : (s ++ n :: u).Perm (n :: (s ++ u)) := List.perm_middle
      obtain ⟨h1, h2⟩ := List.nodup_cons.mp (pm.nodup_iff.mp nd)
      have := ih (s ++ u) h2 fun x hx => by
        have hx' := hb x (pm.mem_iff.mpr (List.mem_cons_of_mem _ hx))
        have : x ≠ n := fun e => h1 (e ▸ hx)
        omega
      rw [pm.length_eq, List.length_cons]
      omega
    · exact Nat.le_succ_of_le (ih l nd fun x hx => by
        have h1 := hb x hx
        have : x ≠ n := fun e => hn (e ▸ hx)
        omega)
theorem nodup_len_in {p : List Int} {r : List Int} (nd : r.Nodup) (h : ∀ x ∈ r, In p x) : r.length ≤ p.length := by
  have := nodup_len p.length (r.map Int.toNat) (by
    rw [List.nodup_iff_pairwise_ne, List.pairwise_map]
    refine List.Pairwise.imp_of_mem (fun {a b} ha hb hne z => hne ?_) (List.nodup_iff_pairwise_ne.mp nd)
    have h1 := (h a ha).1
    have h2 := (h b hb).1
    omega) fun x hx => by
      obtain ⟨y, hy, rfl⟩ := List.mem_map.mp hx
      have h1 := (h y hy).1
      have h2 := (h y hy).2
      omega
  rw [List.length_map] at this
  exact this
theorem ringL_in {p : List Int} (t : IsT p) {x : Int} (hx : In p x) {L : Nat} : ∀ y ∈ ringL p x L, In p y := fun y hy => by
  obtain ⟨j, _, rfl⟩ := mem_ringL.mp hy
  exact it_in t hx j
theorem ring_bound {p : List Int} (t : IsT p) {x : Int} (hx : In p x) {m : Nat} (h : ∀ i, 0 < i → i < m → it p i x ≠ x) : m ≤ p.length := by
  have := nodup_len_in (ringL_nodup t hx h) (ringL_in t hx)
  rw [ringL_len] at this
  exact this
theorem ring_closed {p : List Int} {x y : Int} {L : Nat} (h : Per p x L) (hy : y ∈ ringL p x L) (i : Nat) : it p i y ∈ ringL p x L := by
  obtain ⟨j, hj, rfl⟩ := mem_ringL.mp hy
  refine mem_ringL.mpr ⟨(i + j) % L, Nat.mod_lt _ h.pos, ?_⟩
  rw [it_mod h.back, it_add]
theorem ring_meet {p : List Int} {x y z : Int} {L M : Nat} (h : Per p x L) (g : Per p y M) (h1 : z ∈ ringL p x L) (h2 : z ∈ ringL p y M) : y ∈ ringL p x L := by
  obtain ⟨j, hj, rfl⟩ := mem_ringL.mp h2
  have := ring_closed h h1 (M - j)
  rw [← it_add, show M - j + j = M by omega, g.back] at this
  exact this
open Classical in
noncomputable def perOf (p : List Int) (x : Int) : Nat := if h : ∃ L, Per p x L then Classical.choose h else 0
theorem perOf_eq {p : List Int} {x : Int} {L : Nat} (h : Per p x L) : perOf p x = L := by
  have hx : ∃ L, Per p x L := ⟨L, h⟩
  unfold perOf
  rw [dif_pos hx]
  exact (Classical.choose_spec hx).uniq h
noncomputable def ringsF (p : List Int) : Nat → List (List Int)
  | 0 => []
  | i + 1 => if (i : Int) ∈ (ringsF p i).flatten then ringsF p i else ringsF p i ++ [ringL p i (perOf p i)]
structure RingsUp (p : List Int) (i : Nat) (rs : List (List Int)) : Prop where
  ring : ∀ r ∈ rs, ∃ x L, In p x ∧ Per p x L ∧ r = ringL p x L ∧ (∀ y ∈ r, x ≤ y) ∧ x < i
  nd : rs.flatten.Nodup
  all : ∀ u : Int, 0 ≤ u → u < i → u ∈ rs.flatten
  ord : rs.Pairwise fun r s => r.getD 0 0 < s.getD 0 0
  eq : rs = ringsF p i
theorem rings_none (p : List Int) : RingsUp p 0 [] := ⟨fun r hr => by simp at hr, List.nodup_nil, fun u h1 h2 => by omega, List.Pairwise.nil, rfl⟩
theorem rings_skip {p : List Int} {i : Nat} {rs : List (List Int)} (h : RingsUp p i rs) (hi : (i : Int) ∈ rs.flatten) : RingsUp p (i + 1) rs := by
  refine ⟨fun r hr => ?_, h.nd, fun u h1 h2 => ?_, h.ord, ?_⟩
  · obtain ⟨x, L, a, b, c, d, e⟩ := h.ring r hr
    exact ⟨x, L, a, b, c, d, by omega⟩
  · by_cases e : u = i
    · subst e; exact hi
    · exact h.all u h1 (by omega)
  · show rs = if (i : Int) ∈ (ringsF p i).flatten then ringsF p i else ringsF p i ++ [ringL p i (perOf p i)]
    rw [← h.eq, if_pos hi]
theorem rings_fresh {p : List Int} {i : Nat} {rs : List (List Int)} (h : RingsUp p i rs) {L : Nat} (hL : Per p i L) (hi : (i : Int) ∉ rs.flatten) : ∀ y ∈ ringL p i L, y ∉ rs.flatten := by
  intro y hy hm
  obtain ⟨r, hr, hyr⟩ := List.mem_flatten.mp hm
  obtain ⟨x, M, a, b, rfl, d, e⟩ := h.ring r hr
  exact hi (List.mem_flatten.mpr ⟨_, hr, ring_meet b hL hyr hy⟩)
theorem rings_step {p : List Int} (t : IsT p) {i : Nat} {rs : List (List Int)} (h : RingsUp p i rs) (hx : In p i) {L : Nat} (hL : Per p i L) (hi : (i : Int) ∉ rs.flatten) : RingsUp p (i + 1) (rs ++ [ringL p i L]) := by
  have fr := rings_fresh h hL hi
  refine ⟨fun r hr => ?_, ?_, fun u h1 h2 => ?_, ?_, ?_⟩
  · rcases List.mem_append.mp hr with z | z
    · obtain ⟨x, L, a, b, c, d, e⟩ := h.ring r z
      exact ⟨x, L, a, b, c, d, by omega⟩
    · have : r = ringL p i L := by simpa using z
      subst this
      refine ⟨i, L, hx, hL, rfl, fun y hy => ?_, by omega⟩
      have y0 := (ringL_in t hx y hy).1
      by_cases hlt : y < i
      · exact absurd (h.all y y0 hlt) (fr y hy)
      · omega
  · rw [List.flatten_append, List.flatten_singleton]
    refine List.nodup_append.mpr ⟨h.nd, ringL_nodup t hx fun j j0 j1 => hL.least j j0 j1, fun a ha b hb e => ?_⟩
    subst e
    exact fr a hb ha
  · rw [List.flatten_append, List.flatten_singleton]
    by_cases e : u = i
    · subst e
      exact List.mem_append_right _ (mem_ringL.mpr ⟨0, hL.pos, rfl⟩)
    · exact List.mem_append_left _ (h.all u h1 (by omega))
  · refine List.pairwise_append.mpr ⟨h.ord, List.pairwise_singleton _ _, fun r hr s hs => ?_⟩
    have : s = ringL p i L := by simpa using hs
    subst this
    obtain ⟨x, M, a, b, rfl, d, e⟩ := h.ring r hr
    rw [ringL_getD b.pos, ringL_getD hL.pos]
    exact e
  · show rs ++ [ringL p i L] = if (i : Int) ∈ (ringsF p i).flatten then ringsF p i else ringsF p i ++ [ringL p i (perOf p i)]
    rw [← h.eq, if_neg hi, perOf_eq hL]
end Mth
namespace L2
open PySem PySem.Spec PyProof.Rows
section
variable {X : Cx}
end
end L2
namespace Mth
theorem nx_at0 {p : List Int} {x : Int} (h : In p x) : at0 p x = some (nx p x) := by
  have a1 := h.1
  have a2 := h.2
  unfold at0 nx
  rw [List.getD_eq_getElem?_getD, List.getElem?_eq_getElem (by omega)]
  rfl
end Mth
namespace L2
open PySem PySem.Spec PyProof.Rows
def CDivB (i j : Int) : Prop := 0 < j ∧ j ≤ 1000000000000000000000000000000
theorem op_fdivB {X : Cx} : OpR X (binaryOp .FloorDiv) (rI CDivB fun i j => .int (i / j)) := opI fun i j _ _ _ _ _ hc q => by
  have hp : Builtin.divisionGoesByPylong i j = false := by
    refine PyProof.noPylong_of_log2 ?_
    obtain ⟨h1, h2⟩ := hc
    have : j.natAbs < 2 ^ 9000 := Nat.lt_of_le_of_lt (show j.natAbs ≤ 1000000000000000000000000000000 by omega) (by decide +kernel)
    exact (Nat.log2_lt (by omega)).mpr this
  refine floordiv_int (by have := hc.1; omega) ?_ (.inl hp)
  rw [Int.fdiv_eq_ediv_of_nonneg i (by have := hc.1; omega)]
  exact q
end L2
namespace Mth
end Mth
namespace Mth
theorem per_ex {p : List Int} (t : IsT p) {x : Int} (hx : In p x) : ∃ L, Per p x L := by
  have h0 : ∃ i, 0 < i ∧ i ≤ p.length ∧ it p i x = x := Classical.byContradiction fun hn => by
    have := ring_bound t hx (m := p.length + 1) fun i i0 i1 e => hn ⟨i, i0, by omega, e⟩
    omega
  have key : ∀ n, (∃ i, 0 < i ∧ i ≤ n ∧ it p i x = x) → ∃ L, Per p x L := by
    intro n
    induction n with
    | zero => rintro ⟨i, i0, i1, _⟩; omega
    | succ n ih =>
      rintro ⟨i, i0, i1, e⟩
      by_cases h : ∃ j, 0 < j ∧ j ≤ n ∧ it p j x = x
      · exact ih h
      · refine ⟨i, i0, e, fun j j0 j1 ej => h ⟨j, j0, by omega, ej⟩⟩
  exact key _ h0
theorem ext_nx {n : Nat} {s t : List Int} (hs : s.length = n) (ht : t.length = n) (h : ∀ x : Int, 0 ≤ x → x < n → nx s x = nx t x) : s = t := by
  refine List.ext_getElem? fun u => ?_
  by_cases hu : u < n
  · have := h u (by omega) (by omega)
    unfold nx at this
    rw [Int.toNat_natCast, getD_eq (by omega), getD_eq (by omega)] at this
    rw [List.getElem?_eq_getElem (by omega), List.getElem?_eq_getElem (by omega), this]
  · rw [List.getElem?_eq_none (by omega), List.getElem?_eq_none (by omega)]
end Mth
namespace L2
open PySem PySem.Spec PyProof.Rows
end L2
namespace L2
open PySem PySem.Spec PyProof.Rows
section
variable {X : Cx} {l m : Expr} {ta : TA} {p pos : Pos} {elts : List Expr} {x1 : Nat} {tpos : Pos}
end
section
variable {X : Cx} {e : Expr} {t : TA} {p pos : Pos}
end
end L2
namespace L2
open PySem PySem.Spec PyProof.Rows
end L2
namespace L2
open PySem PySem.Spec PyProof.Rows
section
variable {X : Cx} {o e : Expr} {to : TE} {t : TA} {apos pos p : Pos}
theorem pe_extend (ho : PE X o to) (ha : PA X [e] t)
    (hbase : attributeBase o "extend" X.env (eval o X.env) = eval o X.env := by rfl)
    (hfew : ((backTo pos (starEach [e] X.env)).all (fun x => !x.1) && (backToKw pos (keywordEach [] X.env)).all (fun x => x.1.isSome)
      && decide ([e].length + ([] : List Keyword).length + (if ([] : List Keyword).isEmpty then 0 else 1) < 30)) = true := by rfl)
    (hline : (apos.endLine == pos.line) = true := by rfl) (hs : starEach [e] X.env = (false, eval e X.env) :: starEach [] X.env := by rfl) (hplain : (backTo pos (starEach [] X.env)).any (·.1) = false := by rfl) :
    PE X (.Call (.Attribute o "extend" apos) [e] [] pos) (tBM X.K "list" rExtend to t) :=
  pe_bm PySem.F.plainAttrs_list PySem.F.slot_list_extend PySem.F.type_list_extend mt_extend ho ha hbase hfew hline hs hplain
end
end L2
namespace Mth
theorem up_flat {p : List Int} {rs : List (List Int)} (t : IsT p) (h : RingsUp p p.length rs) : rs.flatten.Perm (L2.upTo 0 p.length) := by
  have i1 : IsT rs.flatten := by
    have hin : ∀ x ∈ rs.flatten, In p x := fun x hx => by
      obtain ⟨r, hr, hxr⟩ := List.mem_flatten.mp hx
      obtain ⟨y, L, a, b, rfl, _⟩ := h.ring r hr
      exact ringL_in t a x hxr
    have l1 := nodup_len_in h.nd hin
    have l2 : p.length ≤ rs.flatten.length := by
      have := nodup_len_in (p := rs.flatten) (r := L2.upTo 0 p.length) (nodup_upTo _) fun x hx => by
        have hx' := mem_upTo.mp hx
        obtain ⟨r, hr, hxr⟩ := List.mem_flatten.mp (h.all x hx'.1 hx'.2)
        refine ⟨hx'.1, ?_⟩
        exact Classical.byContradiction fun hn => by
          have hle : (rs.flatten.length : Int) ≤ x := by omega
          have hlt := nodup_len_in h.nd hin
          have q : (L2.upTo 0 (x.toNat + 1)).length ≤ rs.flatten.length := by
            have sub : ∀ z ∈ L2.upTo 0 (x.toNat + 1), z ∈ rs.flatten := fun z hz => by
              have hz' := mem_upTo.mp hz
              exact h.all z hz'.1 (by have := hx'.2; omega)
            have : ∀ (l m : List Int), l.Nodup → (∀ z ∈ l, z ∈ m) → l.length ≤ m.length := by
              intro l
              induction l with
              | nil => intro m _ _; exact Nat.zero_le _
              | cons c l ih =>
                intro m nd hs
                obtain ⟨n1, n2⟩ := List.nodup_cons.mp nd
                obtain ⟨s, u, rfl⟩ := List.append_of_mem (hs c List.mem_cons_self)
                have := ih (s ++ u) n2 fun z hz => by
                  have hzm := hs z (List.mem_cons_of_mem _ hz)
                  rcases List.mem_append.mp hzm with g | g
                  · exact List.mem_append_left _ g
                  · rcases List.mem_cons.mp g with g | g
                    · subst g; exact absurd hz n1
                    · exact List.mem_append_right _ g
                rw [List.length_append] at this
                rw [List.length_append, List.length_cons, List.length_cons]
                omega
            exact this _ _ (nodup_upTo _) sub
          rw [length_upTo] at q
          have := hx'.1
          omega
      rw [length_upTo] at this
      exact this
    exact ⟨h.nd, fun x hx => (hin x hx).1, fun x hx => by have := (hin x hx).2; omega⟩
  have hl : rs.flatten.length = p.length := by
    have l1 := nodup_len_in h.nd fun x hx => by
      obtain ⟨r, hr, hxr⟩ := List.mem_flatten.mp hx
      obtain ⟨y, L, a, b, rfl, _⟩ := h.ring r hr
      exact ringL_in t a x hxr
    have l2 : p.length ≤ rs.flatten.length := by
      have := nodup_len_in (p := rs.flatten) (r := L2.upTo 0 p.length) (nodup_upTo _) fun x hx => by
        have hx' := mem_upTo.mp hx
        have hm := h.all x hx'.1 hx'.2
        exact ⟨hx'.1, i1.hi x hm⟩
      rw [length_upTo] at this
      exact this
    omega
  have := i1.perm
  rw [hl] at this
  exact this
end Mth
namespace L2
open PySem PySem.Spec PyProof.Rows
section
variable {X : Cx}
variable {e : Expr} {t : TA} {p pos kpos : Pos}
def tRev (K : PySem.W.Frag) (te : TE) (ts : TO) : TE := fun σ H Q => te σ H fun x H1 => ts σ H1 fun o H2 => o = some (-1) ∧ ∃ a xs, x = .ref a ∧ SqL K H2 a xs ∧ ∀ p, H2 p = none → Q (.ref p) (upd H2 p (.lst xs.reverse))
theorem pe_rev {st : Expr} {te : TE} {ts : TO} {p2 : Pos} (he : PE X e te) (hst : PO X (some st) ts) : PE X (.Subscript e (.Slice none none (some st) p2) pos) (tRev X.K te ts) := by
  intro pins s σ H Q I h
  refine Subscript_ (thn (he pins s σ H _ I h) fun v s1 ⟨x, H1, I1, r1, q1⟩ => ?_)
  refine wpAny_Slice ?_
  rw [evalPart_none]
  refine wpAny_pure (wpAny_pure ?_)
  refine thn (hst pins s1 σ H1 _ I1 q1) fun vk s3 ⟨k, H3, I3, pk, ek, a, xs, ex, hx, q⟩ => ?_
  subst ek ex
  cases r1
  have I4 : Inv X pins σ H3 { s3 with heap := s3.heap.push { cls := .type "slice", data := .fields #[.none, .none, vk] } } := I3.kept (t' := s3.toks) fun b ob q => Heap.get?_push_of_some _ q
  obtain ⟨its, r, ht, hz⟩ := I4.list hx
  have hlen := r.length
  show wpAny (model X.prog X.w) X.A (subscriptTail e (.Slice none none (some st) p2) (.ref a) (.ref s3.heap.objs.size)) (EP X pins σ Q) X.xe { s3 with heap := s3.heap.push { cls := .type "slice", data := .fields #[.none, .none, vk] } }
  refine tail_any (ops := [.ref a, .ref s3.heap.objs.size]) (T := "list") ht.isList.typeIs slot_list_getitem.lookup ?_ rfl
  refine wpAny_getItem_list_slice ht.isList (Heap.IsSliceOf.new ..) .none .none pk (by decide) ?_ (by rw [List.size_toArray] <;> omega)
  rw [PySem.W.krv_pick]
  have I5 := I4.laid (t' := s3.toks) (o := .lst xs.reverse) (h' := (s3.heap.push { cls := .type "slice", data := .fields #[.none, .none, vk] }).push { cls := .type "list", data := .seq its.reverse.toArray }) (a := (s3.heap.push { cls := .type "slice", data := .fields #[.none, .none, vk] }).objs.size)
    (fun b ob q => Heap.get?_push_of_some _ q) (Nat.le_refl _) ⟨by rw [List.length_reverse]; exact hz, its.reverse, 0, r.reverse, Heap.get?_push_size _ rfl⟩
  exact ⟨.ref _, _, I5, rfl, q _ (I4.hok.fresh (Nat.le_refl _))⟩
end
end L2
namespace Mth
end Mth
namespace Mth
end Mth
namespace L2
open PySem PySem.Spec PyProof.Rows
def litsOf : List Expr → Option (List Int)
  | [] => some []
  | .Constant (.int i) _ _ :: es => (litsOf es).map (i :: ·)
  | _ :: _ => none
def tLitA (ns : List Int) : TA := fun _ H Q => Q (ns.map V.int) H
def tLits (ns : List Int) : TE := fun _ H Q => ns.length ≤ sizeLine ∧ ∀ p, H p = none → Q (.ref p) (upd H p (.lst (ns.map V.int)))
theorem starEach_int (i : Int) (j : Nat) (p : Pos) (es : List Expr) (env : Env) : starEach (.Constant (.int i) j p :: es) env = (false, eval (.Constant (.int i) j p) env) :: starEach es env := rfl
theorem pa_litsO {X : Cx} : ∀ (es : List Expr) (ns : List Int), litsOf es = some ns → PA X es (tLitA ns)
  | [], ns, h => by
    have : ns = [] := (Option.some.inj h).symm
    subst this
    exact fun pos pins s σ H Q I h => pa_nil pos pins s σ H Q I h
  | e :: es, ns, h => by
    unfold litsOf at h
    split at h
    · rename_i h0; cases h0
    · rename_i i j p es' heq
      cases heq
      cases ho : litsOf es with
      | none => rw [ho] at h; cases h
      | some ms =>
        rw [ho] at h
        cases h
        exact fun pos pins s σ H Q I h => (pa_cons (te := tC (.int i)) pe_int (pa_litsO es ms ho) (starEach_int i j p es X.env)) pos pins s σ H Q I h
    · cases h
theorem pe_litsO {X : Cx} {pos : Pos} {es : List Expr} (ns : List Int) (h : litsOf es = some ns) : PE X (.List es pos) (tLits ns) := fun pins s σ H Q I h' => pe_lst (pa_litsO es ns h) pins s σ H Q I (by
  show (ns.map V.int).length ≤ sizeLine ∧ _
  rw [List.length_map]; exact h')
end L2
namespace L2
open PySem PySem.Spec PyProof.Rows
end L2
namespace Mth
end Mth
namespace L2
open PySem PySem.Spec PyProof.Rows
section
variable {X : Cx}
theorem boot_intB : bootBuiltins "int" = some (.type "int") := by decide +kernel
theorem call_intB : CallR X (.type "int") (fun xs H Q => ∃ b, xs = [.bl b] ∧ Q (.int (if b then 1 else 0)) H) := by
  intro pins s σ H xs us Q I r h
  obtain ⟨b, rfl, q⟩ := h
  obtain ⟨u, rfl, rx⟩ := vals1 r
  cases rx
  exact call_int_bool ⟨.int _, H, I.tok _, ⟨_, rfl⟩, q⟩
theorem pe_intB {e : Expr} {t : TA} {p pos : Pos} (hm : X.mg "int" = none) (ha : PA X [e] t) (hg : Gl X "int" := by rfl) (he : starEach [e] X.env = (false, eval e X.env) :: starEach [] X.env := by rfl) :
    PE X (.Call (.Name "int" p) [e] [] pos) (tCB (fun xs H Q => ∃ b, xs = [.bl b] ∧ Q (.int (if b then 1 else 0)) H) t) :=
  pe_callTy call_intB hg hm boot_intB ha (by decide) (by decide) he rfl
end
end L2
namespace Mth
end Mth
namespace Mth
end Mth
namespace Mth
end Mth
namespace L2
open PySem PySem.Spec PyProof.Rows
section
variable {prog : Program} {w : World} {A : Around} {E : Value → Shared → Prop} {s : Shared} {κ : Type} [DecidableEq κ] {knd : KeyKind prog w κ}
end
section
variable {X : Cx}
end
end L2
namespace L2
open PySem PySem.Spec PyProof.Rows
section
variable {X : Cx}
end
end L2
namespace Mth
theorem rings_to {p : List Int} (t : IsT p) : ∀ i, i ≤ p.length → RingsUp p i (ringsF p i)
  | 0, _ => rings_none p
  | i + 1, h => by
    have ih := rings_to t i (by omega)
    show RingsUp p (i + 1) (if (i : Int) ∈ (ringsF p i).flatten then ringsF p i else ringsF p i ++ [ringL p i (perOf p i)])
    have hx : In p (i : Int) := ⟨by omega, by omega⟩
    by_cases hi : (i : Int) ∈ (ringsF p i).flatten
    · rw [if_pos hi]; exact rings_skip ih hi
    · rw [if_neg hi]
      obtain ⟨L, hL⟩ := per_ex t hx
      rw [perOf_eq hL]
      exact rings_step t ih hx hL hi
theorem rings_up {p : List Int} (t : IsT p) : RingsUp p p.length (ringsF p p.length) := rings_to t _ (Nat.le_refl _)
end Mth
namespace Mth
end Mth
namespace Mth
theorem maxmin {n c : Int} (hn : 1 ≤ n) (hc : 0 ≤ c) : ∃ mx, (if (if n < c then n else c) > 1 then (if n < c then n else c) else (1 : Int)) = mx ∧ 1 ≤ mx ∧ mx ≤ n := by
  refine ⟨_, rfl, ?_⟩
  split <;> split at * <;> omega
end Mth
namespace L2
open PySem PySem.Spec PyProof.Rows
theorem boot_tupleT : bootBuiltins "tuple" = some (.type "tuple") := by decide +kernel
theorem boot_strT : bootBuiltins "str" = some (.type "str") := by decide +kernel
theorem pe_tyTuple {X : Cx} {p : Pos} (hm : X.mg "tuple" = none) (hg : Gl X "tuple" := by rfl) : PE X (.Name "tuple" p) (tC (.ty "tuple")) := pe_bltn hg hm boot_tupleT rfl
theorem pe_tyStr {X : Cx} {p : Pos} (hm : X.mg "str" = none) (hg : Gl X "str" := by rfl) : PE X (.Name "str" p) (tC (.ty "str")) := pe_bltn hg hm boot_strT rfl
end L2
namespace Mth
end Mth
namespace L2
open PySem PySem.Spec PyProof.Rows
section
variable {X : Cx} {st : Stmt} {rest : List Stmt} {t u : TS}
end
end L2
namespace L2
open PySem PySem.Spec PyProof.Rows
section
variable {P : Program} {w : World} {K : PySem.W.Frag} {mg : Str → Option Value} {base : Heap} {N : List Str} {qual : Str} {scope : Scope} {f : Addr} {cd : Value} {A : Around} {outer : List Env} {s₀ : Shared} {H₀ : Hp} {E E' : XK}
end
section
variable {X : Cx}
end
section
variable {P : Program} {w : World} {K : PySem.W.Frag} {mg : Str → Option Value} {base : Heap}
end
section
variable {X : Cx} {x : Str} {k : Nat} {ps : List Str} {sp : Sp} {e : Expr} {es : List Expr} {t : TA} {p pos : Pos} {E : XK}
end
end L2
namespace L2
open PySem PySem.Spec PyProof.Rows
section
variable {X : Cx} {pins : List (Addr × Obj)} {σ : St} {H H' : Hp} {s s' : Shared}
end
section
variable {X : Cx} {x : Str} {k : Nat} {ps : List Str} {sp : Sp} {e : Expr} {es : List Expr} {t : TA} {p pos : Pos}
end
section
variable {X : Cx}
end
end L2
namespace L2
open PySem PySem.Spec PyProof.Rows PySem.W PySem.Builtin PySem.Builtin.ObjectAttr PySem.Builtin.Getset_descriptor
section
variable {prog : Program} {w : World} {A : Around} {E : Value → Shared → Prop} {s : Shared} {K : PySem.W.Frag} {a C : Addr}
end
section
variable {X : Cx}
end
end L2
namespace L2
open PySem PySem.Spec PyProof.Rows
section
variable {X : Cx}
end
end L2
namespace Mth
end Mth
namespace L2
open PySem PySem.Spec PyProof.Rows
section
variable {prog : Program} {w : World} {A : Around} {E : Value → Shared → Prop} {s : Shared}
end
section
variable {X : Cx} {pos : Pos}
end
end L2
namespace L2
open PySem PySem.Spec PyProof.Rows
section
variable {X : Cx} {p pos : Pos} {e : Expr} {t : TA}
end
end L2
namespace L2
open PySem PySem.Spec PyProof.Rows
def orSp (a b : Sp) : Sp := fun vs H Q E => a vs H Q E ∨ b vs H Q E
section
variable {P : Program} {w : World} {K : PySem.W.Frag} {mg : Str → Option Value} {base : Heap} {CX : CXT} {k : Nat} {f : Addr} {fd : FuncData} {ps : List Str} {a b : Sp}
theorem fn_or (x : FnOk P w K mg base CX k f fd ps a) (y : FnOk P w K mg base CX k f fd ps b) : FnOk P w K mg base CX k f fd ps (orSp a b) :=
  ⟨fun vs H Q E h => h.elim (x.len vs H Q E) (y.len vs H Q E), fun A outer s H args us vs Q E r e bt v h => h.elim (x.run A outer s H args us vs Q E r e bt v) (y.run A outer s H args us vs Q E r e bt v)⟩
end
theorem kit_no (K : PySem.W.Frag) {a b : String} (h0 : ((Value.type a == Value.type b) = true) → False) (h1 : PySem.W.kitMeta b = true) (h2 : (fastBuiltinMro a).map (·.contains (Value.type b)) = some false) : PySem.W.kitOne K (.type a) (.type b) = some false := by
  unfold PySem.W.kitOne PySem.W.kitCls
  rw [if_neg h0]
  show (if PySem.W.kitMeta b = true then (fastBuiltinMro a).map (·.contains (Value.type b)) else none) = some false
  rw [if_pos h1]
  exact h2
theorem kit_none_list (K : PySem.W.Frag) : PySem.W.kitOne K (.type "NoneType") (.type "list") = some false := kit_no K (by decide +kernel) (by decide +kernel) (by decide +kernel)
theorem kit_int_list (K : PySem.W.Frag) : PySem.W.kitOne K (.type "int") (.type "list") = some false := kit_no K (by decide +kernel) (by decide +kernel) (by decide +kernel)
end L2
namespace L2
open PySem PySem.Spec PyProof.Rows
section
variable {X : Cx} {p pos : Pos} {e : Expr} {t : TA}
end
end L2
namespace L2
open PySem PySem.Spec PyProof.Rows
end L2
namespace L2
open PySem PySem.Spec PyProof.Rows
theorem vals_str {K : Type} : ∀ {ts : List Str} {us : List Value}, Vals (ts.map V.str) us → ∃ l : List (Str × Tok), us = strValues l ∧ l.map (·.1) = ts
  | [], us, h => by cases h; exact ⟨[], rfl, rfl⟩
  | t :: ts, us, h => by
    cases h with
    | cons r h =>
      obtain ⟨l, rfl, e⟩ := vals_str (K := K) h
      obtain ⟨k, rfl⟩ := r
      exact ⟨(t, k) :: l, rfl, by rw [List.map_cons, e]⟩
theorem str_vals : ∀ (l : List (Str × Tok)), Vals ((l.map (·.1)).map V.str) (strValues l)
  | [] => .nil
  | p :: l => .cons ⟨p.2, rfl⟩ (str_vals l)
section
variable {X : Cx} {p pos apos : Pos} {e o : Expr} {es : List Expr} {t : TA} {to : TE}
theorem pe_strI (hm : X.mg "str" = none) (ha : PA X [e] t) (hg : Gl X "str" := by rfl) (he : starEach [e] X.env = (false, eval e X.env) :: starEach [] X.env := by rfl) :
    PE X (.Call (.Name "str" p) [e] [] pos) (tCB (fun xs H Q => ∃ i, xs = [.int i] ∧ i.natAbs.log2 < 1920 ∧ Q (.str (toString i)) H) t) :=
  pe_callTy call_str_int hg hm boot_strT ha (by decide) (by decide) he rfl
def rJoin (K : PySem.W.Frag) : V → List V → Hp → VK → Prop := fun x xs H Q => ∃ sep a ts, x = .str sep ∧ xs = [.ref a] ∧ SqL K H a (ts.map V.str) ∧ JoinOk sep ts = true ∧ Q (.str (Txt.join sep ts)) H
theorem mt_join : MtR X "str.join" (rJoin X.K) := by
  intro pins s σ H x vs v us Q I rx rv h
  obtain ⟨sep, a, ts, rfl, rfl, hx, ok, q⟩ := h
  obtain ⟨k, rfl⟩ := rx
  obtain ⟨u, rfl, ru⟩ := rv.one
  cases ru
  obtain ⟨its, r, ht, hz⟩ := I.list hx
  obtain ⟨l, rfl, el⟩ := vals_str (K := Unit) r
  exact SC.join ht.isList el ok fun t' k' => ⟨.str _, H, I.tok k', ⟨_, rfl⟩, q⟩
theorem pe_join (ho : PE X o to) (ha : PA X [e] t)
    (hbase : attributeBase o "join" X.env (eval o X.env) = eval o X.env := by rfl)
    (hfew : ((backTo pos (starEach [e] X.env)).all (fun x => !x.1) && (backToKw pos (keywordEach [] X.env)).all (fun x => x.1.isSome)
      && decide ([e].length + ([] : List Keyword).length + (if ([] : List Keyword).isEmpty then 0 else 1) < 30)) = true := by rfl)
    (hline : (apos.endLine == pos.line) = true := by rfl) (hs : starEach [e] X.env = (false, eval e X.env) :: starEach [] X.env := by rfl) (hplain : (backTo pos (starEach [] X.env)).any (·.1) = false := by rfl) :
    PE X (.Call (.Attribute o "join" apos) [e] [] pos) (tBM X.K "str" (rJoin X.K) to t) :=
  pe_bm PySem.F.plainAttrs_str PySem.F.slot_str_join PySem.F.type_str_join mt_join ho ha hbase hfew hline hs hplain
def rSplit : V → List V → Hp → VK → Prop := fun x xs H Q => ∃ y sep, x = .str y ∧ xs = [.str sep] ∧ (sep.length == 0) = false ∧ y.length ≤ sizeLine ∧ (Builtin.Str.partsBetween y (Builtin.Str.occurrences y sep 0 y.length (y.length + 1)) sep.length).length ≤ sizeLine ∧ (Txt.split y sep).length ≤ sizeLine ∧
  ∀ l, H l = none → Q (.ref l) (upd H l (.lst ((Txt.split y sep).map V.str)))
theorem mt_split : MtR X "str.split" rSplit := by
  intro pins s σ H x vs v us Q I rx rv h
  obtain ⟨y, sep, rfl, rfl, h0, z1, z2, z3, q⟩ := h
  obtain ⟨k, rfl⟩ := rx
  obtain ⟨u, rfl, ru⟩ := rv.one
  obtain ⟨k2, rfl⟩ := ru
  have fin : ∀ (l : List (Str × Tok)) (tk : Nat), l.map (·.1) = Txt.split y sep → ∃ (z : V) (H' : Hp), Inv X pins σ H' { s with toks := tk, heap := s.heap.push { cls := .type "list", data := .seq (strValues l).toArray } } ∧ RelV z (.ref s.heap.objs.size) ∧ Q z H' := fun l tk e => by
    refine ⟨.ref s.heap.objs.size, _, I.laid (t' := tk) (o := .lst ((Txt.split y sep).map V.str)) (fun b ob g => Heap.get?_push_of_some _ g) (Nat.le_refl _) ?_, rfl, q _ (I.hok.fresh (Nat.le_refl _))⟩
    exact ⟨by rw [List.length_map]; exact z3, _, 0, by rw [← e]; exact str_vals l, Heap.get?_push_size _ rfl⟩
  by_cases c1 : (decide (y.length < sep.length) || decide (Builtin.Str.strKind y < Builtin.Str.strKind sep)) = true
  · refine call_meets F.slot_str_split (typeIs_str _ _ _) F.entry_str_split (F.args_str_split_2 _ _) (meets_str_split_cannot_occur y sep k k2 c1) ?_
    exact fin [(y, k)] s.toks (if_pos c1).symm
  · by_cases c2 : (Builtin.Str.occurrences y sep 0 y.length (y.length + 1)).isEmpty = true
    · refine call_meets F.slot_str_split (typeIs_str _ _ _) F.entry_str_split (F.args_str_split_2 _ _) (meets_str_split_not_found y sep k k2 (Bool.eq_false_iff.mpr c1) h0 c2) ?_
      exact fin [(y, k)] s.toks ((if_neg c1).trans (if_pos c2)).symm
    · refine call_meets F.slot_str_split (typeIs_str _ _ _) F.entry_str_split (F.args_str_split_2 _ _) (meets_str_split_sep y sep k k2 (Bool.eq_false_iff.mpr c1) h0 (Bool.eq_false_iff.mpr c2) z1 z2) ?_
      have := fin (PySem.numbered s.toks (Builtin.Str.partsBetween y (Builtin.Str.occurrences y sep 0 y.length (y.length + 1)) sep.length)) (s.toks + (Builtin.Str.partsBetween y (Builtin.Str.occurrences y sep 0 y.length (y.length + 1)) sep.length).length) ((numbered_texts _ _).trans ((if_neg c1).trans (if_neg c2)).symm)
      rw [← strsFrom_eq] at this
      exact this
theorem pe_split (ho : PE X o to) (ha : PA X [e] t)
    (hbase : attributeBase o "split" X.env (eval o X.env) = eval o X.env := by rfl)
    (hfew : ((backTo pos (starEach [e] X.env)).all (fun x => !x.1) && (backToKw pos (keywordEach [] X.env)).all (fun x => x.1.isSome)
      && decide ([e].length + ([] : List Keyword).length + (if ([] : List Keyword).isEmpty then 0 else 1) < 30)) = true := by rfl)
    (hline : (apos.endLine == pos.line) = true := by rfl) (hs : starEach [e] X.env = (false, eval e X.env) :: starEach [] X.env := by rfl) (hplain : (backTo pos (starEach [] X.env)).any (·.1) = false := by rfl) :
    PE X (.Call (.Attribute o "split" apos) [e] [] pos) (tBM X.K "str" rSplit to t) :=
  pe_bm PySem.F.plainAttrs_str PySem.F.slot_str_split PySem.F.type_str_split mt_split ho ha hbase hfew hline hs hplain
def rSlS : V → Option Int → Option Int → Hp → VK → Prop := fun x lo hi H Q => ∃ y, x = .str y ∧ y.length ≤ sizeLine ∧ Q (.str (Txt.slice y lo hi)) H
theorem sl_str : SlR X rSlS := by
  intro pins s σ H x v vl vu lo hi sl Q I rx hs pl pu h
  obtain ⟨y, rfl, hz, q⟩ := h
  obtain ⟨k, rfl⟩ := rx
  refine ⟨"str", _, F.slot_str_getitem.lookup, typeIs_str _ _ _, ?_⟩
  have part : ∀ {w : Value} {n : Option Int}, IsPart w n → ∃ z : Option (Int × Tok), w = partValue z ∧ z.map (·.1) = n := fun h => by
    cases h with
    | none => exact ⟨none, rfl, rfl⟩
    | int i t => exact ⟨some (i, t), rfl, rfl⟩
  obtain ⟨zl, rfl, el⟩ := part pl
  obtain ⟨zu, rfl, eu⟩ := part pu
  refine wpAny_getItem_str_slice (l := zl) (u := zu) (st := none) hs rfl ?_
  refine post_val_or_str ?_
  have sz := Txt.slice_le y lo hi
  subst el eu
  exact ⟨Nat.le_trans sz hz, fun t' k' => ⟨.str _, H, I.tok k', ⟨_, rfl⟩, q⟩⟩
end
end L2
namespace L2
open PySem PySem.Spec PyProof.Rows
section
variable {X : Cx}
theorem pe_never {e : Expr} : PE X e (fun _ _ _ => False) := fun _ _ _ _ _ _ h => h.elim
theorem ps_tryN {body : List Stmt} {h₀ : ExceptHandler} {hs : List ExceptHandler} {pos : Pos} {t : TS} (hb : PSs X body t) (hx : ∀ e s, X.xe e s → False := by intro _ _ h; exact h) : PS X (.Try body (h₀ :: hs) [] [] pos) t := by
  intro pins s σ H D I h
  refine wpAny_Try_except (wpAny_mono (hb pins s σ H D I h) (fun f s1 q => ?_) fun e s1 z => (hx e s1 z).elim)
  cases f with
  | next => exact wpAny_execs_nil q
  | _ => exact q
theorem pe_pop {o : Expr} {to : TE} {apos pos : Pos} (ho : PE X o to) (hbase : attributeBase o "pop" X.env (eval o X.env) = eval o X.env := by rfl) (hline : (apos.endLine == pos.line) = true := by rfl) :
    PE X (.Call (.Attribute o "pop" apos) [] [] pos) (tBM0 X.K "list" rPop to) := pe_bm0 PySem.F.plainAttrs_list PySem.F.slot_list_pop PySem.F.type_list_pop mt_pop ho hbase hline
theorem pe_popAtK (K : PySem.W.Frag) {o e : Expr} {to : TE} {t : TA} {apos pos : Pos} (ho : PE X o to) (ha : PA X [e] t) (hK : X.K = K := by rfl)
    (hbase : attributeBase o "pop" X.env (eval o X.env) = eval o X.env := by rfl)
    (hfew : ((backTo pos (starEach [e] X.env)).all (fun x => !x.1) && (backToKw pos (keywordEach [] X.env)).all (fun x => x.1.isSome)
      && decide ([e].length + ([] : List Keyword).length + (if ([] : List Keyword).isEmpty then 0 else 1) < 30)) = true := by rfl)
    (hline : (apos.endLine == pos.line) = true := by rfl) (hs : starEach [e] X.env = (false, eval e X.env) :: starEach [] X.env := by rfl) (hplain : (backTo pos (starEach [] X.env)).any (·.1) = false := by rfl) :
    PE X (.Call (.Attribute o "pop" apos) [e] [] pos) (tBM K "list" rPopAt to t) := by
  subst hK
  exact pe_bm PySem.F.plainAttrs_list PySem.F.slot_list_pop PySem.F.type_list_pop mt_popAt ho ha hbase hfew hline hs hplain
end
end L2
namespace Mth
def joinL (sep : List Nat) : List (List Nat) → List Nat
  | [] => []
  | [p] => p
  | p :: q :: r => p ++ sep ++ joinL sep (q :: r)
def cutsL (w : Nat) : Nat → List (List Nat) → List Nat
  | _, [] => []
  | _, [_] => []
  | a, p :: q :: r => (a + p.length) :: cutsL w (a + p.length + w) (q :: r)
def partsL (xs : List Nat) (w : Nat) : Nat → List Nat → List (List Nat)
  | a, [] => [(xs.drop a).take (xs.length - a)]
  | a, c :: r => (xs.drop a).take (c - a) :: partsL xs w (c + w) r
def mL (xs sep : List Nat) (i : Nat) : Bool := (xs.drop i).take sep.length == sep
theorem mL_first {xs rest : List Nat} {c0 i : Nat} (h : mL xs (c0 :: rest) i = true) : xs[i]? = some c0 := by
  have h : (xs.drop i).take (rest.length + 1) = c0 :: rest := eq_of_beq h
  have h2 := congrArg (fun l => l[0]?) h
  simp only [List.getElem?_cons_zero] at h2
  rw [List.getElem?_take_of_lt (by omega), List.getElem?_drop] at h2
  simpa using h2
theorem no_match {xs rest : List Nat} {c0 a m : Nat} (h : ∀ i, a ≤ i → i < a + m → xs[i]? ≠ some c0) : (List.range' a m).filter (mL xs (c0 :: rest)) = [] := by
  rw [List.filter_eq_nil_iff]
  intro i hi
  have := List.mem_range'_1.mp hi
  exact fun z => h i this.1 this.2 (mL_first z)
theorem joinL_len {sep : List Nat} : ∀ {p : List Nat} {r : List (List Nat)}, p.length ≤ (joinL sep (p :: r)).length
  | p, [] => Nat.le_refl _
  | p, q :: r => by show p.length ≤ (p ++ sep ++ joinL sep (q :: r)).length; simp only [List.length_append]; omega
theorem filt {rest : List Nat} {c0 : Nat} (h0 : c0 ∉ rest) : ∀ (parts : List (List Nat)) (pre xs : List Nat), parts ≠ [] → (∀ p ∈ parts, c0 ∉ p) → xs = pre ++ joinL (c0 :: rest) parts →
    (List.range' pre.length (xs.length + 1 - pre.length)).filter (mL xs (c0 :: rest)) = cutsL (rest.length + 1) pre.length parts
  | [], _, _, h, _, _ => absurd rfl h
  | [p], pre, xs, _, hp, e => by
    show _ = []
    have e : xs = pre ++ p := e
    refine no_match fun i h1 h2 z => ?_
    have hl : i < xs.length := (List.getElem?_eq_some_iff.mp z).1
    rw [e, List.getElem?_append_right h1] at z
    exact hp p List.mem_cons_self (List.mem_of_getElem? z)
  | p :: q :: r, pre, xs, _, hp, e => by
    have e : xs = pre ++ (p ++ (c0 :: rest) ++ joinL (c0 :: rest) (q :: r)) := e
    have el : xs.length = pre.length + p.length + (rest.length + 1) + (joinL (c0 :: rest) (q :: r)).length := by
      rw [e]; simp only [List.length_append, List.length_cons]; omega
    have ih := filt h0 (q :: r) (pre ++ p ++ (c0 :: rest)) xs (by simp) (fun y hy => hp y (List.mem_cons_of_mem _ hy)) (by rw [e]; simp only [List.append_assoc])
    have lpre : (pre ++ p ++ (c0 :: rest)).length = pre.length + p.length + (rest.length + 1) := by simp only [List.length_append, List.length_cons]
    rw [lpre] at ih
    have spl : List.range' pre.length (xs.length + 1 - pre.length) = List.range' pre.length p.length ++ (List.range' (pre.length + p.length) 1 ++ (List.range' (pre.length + p.length + 1) rest.length ++ List.range' (pre.length + p.length + (rest.length + 1)) (xs.length + 1 - (pre.length + p.length + (rest.length + 1))))) := by
      rw [show pre.length + p.length + (rest.length + 1) = pre.length + p.length + 1 + rest.length by omega]
      rw [List.range'_append_1, List.range'_append_1, List.range'_append_1]
      congr 1; omega
    rw [spl, List.filter_append, List.filter_append, List.filter_append, ih]
    rw [no_match (fun i h1 h2 z => ?_), no_match (a := pre.length + p.length + 1) (fun i h1 h2 z => ?_)]
    · have : mL xs (c0 :: rest) (pre.length + p.length) = true := by
        unfold mL
        have : xs.drop (pre.length + p.length) = (c0 :: rest) ++ joinL (c0 :: rest) (q :: r) := by
          rw [e, ← List.append_assoc, ← List.append_assoc, List.append_assoc, List.drop_left' (by simp only [List.length_append])]
        rw [this, List.take_left]
        exact beq_self_eq_true _
      show [] ++ (List.filter _ [pre.length + p.length] ++ ([] ++ _)) = _
      rw [List.filter_cons_of_pos this]
      rfl
    · rw [e, List.getElem?_append_right (by omega), List.append_assoc, List.getElem?_append_right (by omega), List.cons_append] at z
      rw [show i - pre.length - p.length = (i - pre.length - p.length - 1) + 1 by omega, List.getElem?_cons_succ, List.getElem?_append_left (by omega)] at z
      exact h0 (List.mem_of_getElem? z)
    · rw [e, List.getElem?_append_right (by omega), List.append_assoc, List.getElem?_append_left (by omega)] at z
      exact hp p List.mem_cons_self (List.mem_of_getElem? z)
theorem parts_of {sep : List Nat} : ∀ (parts : List (List Nat)) (pre xs : List Nat), parts ≠ [] → xs = pre ++ joinL sep parts → partsL xs sep.length pre.length (cutsL sep.length pre.length parts) = parts
  | [], _, _, h, _ => absurd rfl h
  | [p], pre, xs, _, e => by
    have e : xs = pre ++ p := e
    show [(xs.drop pre.length).take (xs.length - pre.length)] = [p]
    rw [e, List.drop_left, List.length_append, Nat.add_sub_cancel_left, List.take_length]
  | p :: q :: r, pre, xs, _, e => by
    have e : xs = pre ++ (p ++ sep ++ joinL sep (q :: r)) := e
    have ih := parts_of (sep := sep) (q :: r) (pre ++ p ++ sep) xs (by simp) (by rw [e]; simp only [List.append_assoc])
    have lpre : (pre ++ p ++ sep).length = pre.length + p.length + sep.length := by simp only [List.length_append]
    rw [lpre] at ih
    show (xs.drop pre.length).take (pre.length + p.length - pre.length) :: partsL xs sep.length (pre.length + p.length + sep.length) (cutsL sep.length (pre.length + p.length + sep.length) (q :: r)) = _
    rw [ih, e, List.drop_left, Nat.add_sub_cancel_left, List.append_assoc, List.take_left]
end Mth
namespace L2
open PySem PySem.Builtin PySem.Builtin.Str PySem.StrLaws
def mS (s sub : Str) (hi i : Nat) : Bool := decide (i + sub.length ≤ hi) && subAt s sub i
theorem occ_fold (s sub : Str) (hi limit : Nat) (sep : ∀ i j, i < j → mS s sub hi i = true → mS s sub hi j = true → i + sub.length ≤ j) : ∀ (m a : Nat) (st : Array Nat × Nat), st.fst.size ≤ a → a + m ≤ limit → (∀ i, a ≤ i → mS s sub hi i = true → st.snd ≤ i) →
    (forIn (List.range' a m) st (occBody s sub hi limit)).run.fst.toList = st.fst.toList ++ (List.range' a m).filter (mS s sub hi)
  | 0, a, st, _, _, _ => by
    show st.fst.toList = st.fst.toList ++ []
    rw [List.append_nil]
  | m + 1, a, st, h1, h2, h3 => by
    rw [List.range'_succ, List.forIn_cons]
    by_cases hm : mS s sub hi a = true
    · have c : ((st.fst.size < limit ∧ st.snd ≤ a) ∧ a + sub.length ≤ hi) ∧ subAt s sub a = true := by
        have z := hm
        unfold mS at z
        rw [Bool.and_eq_true] at z
        exact ⟨⟨⟨by omega, h3 a (Nat.le_refl _) hm⟩, of_decide_eq_true z.1⟩, z.2⟩
      have e : occBody s sub hi limit a st = pure (ForInStep.yield (st.fst.push a, a + sub.length)) := if_pos c
      rw [e, List.filter_cons_of_pos hm]
      show (forIn (List.range' (a + 1) m) (st.fst.push a, a + sub.length) (occBody s sub hi limit)).run.fst.toList = _
      rw [occ_fold s sub hi limit sep m (a + 1) (st.fst.push a, a + sub.length) (by rw [Array.size_push]; omega) (by omega) (fun i hi' mi => sep a i (by omega) hm mi)]
      rw [Array.toList_push, List.append_assoc]
      rfl
    · have c : ¬ (((st.fst.size < limit ∧ st.snd ≤ a) ∧ a + sub.length ≤ hi) ∧ subAt s sub a = true) := fun z => hm (by
        unfold mS
        rw [Bool.and_eq_true]
        exact ⟨decide_eq_true z.1.2, z.2⟩)
      have e : occBody s sub hi limit a st = pure (ForInStep.yield (st.fst, st.snd)) := if_neg c
      rw [e, List.filter_cons_of_neg hm]
      show (forIn (List.range' (a + 1) m) (st.fst, st.snd) (occBody s sub hi limit)).run.fst.toList = _
      rw [occ_fold s sub hi limit sep m (a + 1) (st.fst, st.snd) (by show st.fst.size ≤ a + 1; omega) (by omega) (fun i hi' mi => h3 i (by omega) mi)]
theorem occ_filter {s sub : Str} (sep : ∀ i j, i < j → mS s sub s.length i = true → mS s sub s.length j = true → i + sub.length ≤ j) : occurrences s sub 0 s.length (s.length + 1) = (List.range' 0 (s.length + 1)).filter (mS s sub s.length) := by
  rw [occ_eq]
  show (forIn (List.range' 0 (s.length + 1 - 0)) ((#[] : Array Nat), 0) (occBody s sub s.length (s.length + 1))).run.fst.toList = _
  rw [occ_fold s sub s.length (s.length + 1) sep _ 0 (#[], 0) (by simp) (by omega) (fun i _ _ => Nat.zero_le _)]
  rfl
theorem mS_mL {s sub : Str} {c0 : Nat} {rest : List Nat} (hs : sub.cps.toList = c0 :: rest) (i : Nat) : mS s sub s.length i = Mth.mL s.cps.toList (c0 :: rest) i := by
  have lw : sub.length = (c0 :: rest).length := by rw [← hs]; rfl
  have ls : s.length = s.cps.toList.length := rfl
  unfold mS Mth.mL
  rw [subAt_eq, lw, hs]
  by_cases h : i + (c0 :: rest).length ≤ s.length
  · rw [decide_eq_true h, Bool.true_and]
  · rw [decide_eq_false h, Bool.false_and]
    symm
    rw [beq_eq_false_iff_ne]
    intro e
    have := congrArg List.length e
    rw [List.length_take, List.length_drop] at this
    rw [List.length_cons] at this h
    omega
theorem mL_sep {xs rest : List Nat} {c0 : Nat} (h0 : c0 ∉ rest) {i j : Nat} (hij : i < j) (hi : Mth.mL xs (c0 :: rest) i = true) (hj : Mth.mL xs (c0 :: rest) j = true) : i + (c0 :: rest).length ≤ j := by
  rcases Nat.lt_or_ge j (i + (c0 :: rest).length) with z | z
  · exfalso
    have e : (xs.drop i).take (c0 :: rest).length = c0 :: rest := eq_of_beq hi
    have h2 : ((xs.drop i).take (c0 :: rest).length)[j - i]? = (c0 :: rest)[j - i]? := by rw [e]
    rw [List.getElem?_take_of_lt (by omega), List.getElem?_drop, show i + (j - i) = j by omega, Mth.mL_first hj, show j - i = (j - i - 1) + 1 by omega, List.getElem?_cons_succ] at h2
    exact h0 (List.mem_of_getElem? h2.symm)
  · exact z
theorem toL_inj {a b : Str} (h : a.cps.toList = b.cps.toList) : a = b   := Str.ext' (Array.toList_inj.mp h)
theorem toL_append (a b : Str) : (a ++ b).cps.toList = a.cps.toList ++ b.cps.toList := by rw [Str.cps_append, Array.toList_append]
theorem join_toL (sep : Str) : ∀ parts : List Str, (Str.join sep parts).cps.toList = Mth.joinL sep.cps.toList (parts.map (·.cps.toList))
  | [] => rfl
  | [p] => rfl
  | p :: q :: r => by
    show (p ++ sep ++ Str.join sep (q :: r)).cps.toList = p.cps.toList ++ sep.cps.toList ++ Mth.joinL sep.cps.toList ((q :: r).map (·.cps.toList))
    rw [toL_append, toL_append, join_toL sep (q :: r)]
theorem partsFrom_toL (x : Str) (w : Nat) : ∀ (cuts : List Nat) (a : Nat), (partsFrom x w a cuts).map (·.cps.toList) = Mth.partsL x.cps.toList w a cuts
  | [], a => by
    show [(strSub x a x.length).cps.toList] = _
    rw [strSub_toList]
    rfl
  | c :: r, a => by
    show (strSub x a c).cps.toList :: (partsFrom x w (c + w) r).map (·.cps.toList) = _
    rw [strSub_toList, partsFrom_toL x w r (c + w)]
    rfl
theorem occ_join {sep : Str} {parts : List Str} {c0 : Nat} {rest : List Nat} (hs : sep.cps.toList = c0 :: rest) (h0 : c0 ∉ rest) (hp : ∀ p ∈ parts, c0 ∉ p.cps.toList) (ne : parts ≠ []) :
    occurrences (Str.join sep parts) sep 0 (Str.join sep parts).length ((Str.join sep parts).length + 1) = Mth.cutsL (rest.length + 1) 0 (parts.map (·.cps.toList)) := by
  have em : ∀ i, mS (Str.join sep parts) sep (Str.join sep parts).length i = Mth.mL (Str.join sep parts).cps.toList (c0 :: rest) i := fun i => mS_mL hs i
  rw [occ_filter fun i j hij hi hj => by
    rw [em] at hi hj
    have := mL_sep h0 hij hi hj
    have lw : sep.length = (c0 :: rest).length := by rw [← hs]; rfl
    omega]
  rw [show mS (Str.join sep parts) sep (Str.join sep parts).length = Mth.mL (Str.join sep parts).cps.toList (c0 :: rest) from funext em]
  have := Mth.filt h0 (parts.map (·.cps.toList)) [] (Str.join sep parts).cps.toList (by simpa using ne) (fun p h => by obtain ⟨q, hq, rfl⟩ := List.mem_map.mp h; exact hp q hq) (by rw [join_toL, hs]; rfl)
  exact this
theorem split_join {sep : Str} {parts : List Str} {c0 : Nat} {rest : List Nat} (hs : sep.cps.toList = c0 :: rest) (h0 : c0 ∉ rest) (hp : ∀ p ∈ parts, c0 ∉ p.cps.toList) (ne : parts ≠ []) (k1 : Builtin.Str.strKind sep = 1) :
    Txt.split (Txt.join sep parts) sep = parts ∧ (partsBetween (Txt.join sep parts) (occurrences (Txt.join sep parts) sep 0 (Txt.join sep parts).length ((Txt.join sep parts).length + 1)) sep.length).length = parts.length := by
  have ej : Txt.join sep parts = Str.join sep parts := glued_eq_join sep parts
  have oc := occ_join hs h0 hp ne
  have lw : sep.length = rest.length + 1 := by show sep.cps.toList.length = _; rw [hs]; rfl
  have pb : partsBetween (Str.join sep parts) (occurrences (Str.join sep parts) sep 0 (Str.join sep parts).length ((Str.join sep parts).length + 1)) sep.length = parts := by
    rw [partsBetween_eq, oc, lw]
    have h := partsFrom_toL (Str.join sep parts) (rest.length + 1) (Mth.cutsL (rest.length + 1) 0 (parts.map (·.cps.toList))) 0
    have h2 := Mth.parts_of (sep := c0 :: rest) (parts.map (·.cps.toList)) [] (Str.join sep parts).cps.toList (by simpa using ne) (by rw [join_toL, hs]; rfl)
    have h3 := h.trans h2
    exact (List.map_inj_right fun a b e => toL_inj e).mp h3
  rw [ej]
  refine ⟨?_, by rw [pb]⟩
  have kd : ¬ Builtin.Str.strKind (Str.join sep parts) < Builtin.Str.strKind sep := by
    rw [k1]; unfold Builtin.Str.strKind; split
    · omega
    · split <;> omega
  unfold Txt.split
  rw [decide_eq_false kd, Bool.or_false]
  cases parts with
  | nil => exact absurd rfl ne
  | cons p r =>
    cases r with
    | nil =>
      have : (occurrences (Str.join sep [p]) sep 0 (Str.join sep [p]).length ((Str.join sep [p]).length + 1)).isEmpty = true := by rw [oc]; rfl
      rw [if_pos this, ite_self]
      rfl
    | cons q r =>
      have c1 : ¬ (decide ((Str.join sep (p :: q :: r)).length < sep.length)) = true := by
        rw [decide_eq_true_iff]
        show ¬ (p ++ sep ++ Str.join sep (q :: r)).length < sep.length
        rw [Str.length_append, Str.length_append]; omega
      have c2 : ¬ (occurrences (Str.join sep (p :: q :: r)) sep 0 (Str.join sep (p :: q :: r)).length ((Str.join sep (p :: q :: r)).length + 1)).isEmpty = true := by rw [oc]; simp [Mth.cutsL]
      rw [if_neg c1, if_neg c2, pb]
end L2
namespace My
open PySem L2 Mth
def top (i : Nat) : Stmt := PySem.Challenge.pw_turnroots_k46_turns_written_and_read.main.body.getD i (.Pass ⟨0, 0, 0, 0⟩)
abbrev s_is_whole : Stmt := top 6
abbrev s_walk_ring : Stmt := top 7
abbrev s_walk_rings : Stmt := top 8
abbrev s_send_along : Stmt := top 9
abbrev s_is_turn : Stmt := top 12
abbrev s_must_be_turn : Stmt := top 13
abbrev s_rounds_of : Stmt := top 15
abbrev s_are_filled_lists : Stmt := top 16
abbrev s_things_in : Stmt := top 17
abbrev s_from_rounds : Stmt := top 18
abbrev s_show_round : Stmt := top 20
abbrev s_show_turn : Stmt := top 21
abbrev s_read_thing : Stmt := top 22
abbrev s_read_round : Stmt := top 23
abbrev s_read_rounds : Stmt := top 24
abbrev s_read_turn : Stmt := top 25
abbrev s_law_cell_at : Stmt := top 27
abbrev s_law_numbers : Stmt := top 28
abbrev s_law_deck : Stmt := top 29
abbrev s_law_take : Stmt := top 30
abbrev s_law_turn : Stmt := top 31
abbrev s_law_rounds : Stmt := top 32
abbrev s_law_written : Stmt := top 33
abbrev s_law_alike : Stmt := top 34
abbrev s_law : Stmt := top 35
end My
namespace My
open PySem L2 Mth
structure Bl (mg : Str → Option Value) : Prop where
  len : mg "len" = none
  isi : mg "isinstance" = none
  int : mg "int" = none
  bool : mg "bool" = none
  list : mg "list" = none
  range : mg "range" = none
  sum : mg "sum" = none
  min : mg "min" = none
  max : mg "max" = none
  enum : mg "enumerate" = none
  zip : mg "zip" = none
  sorted : mg "sorted" = none
  tuple : mg "tuple" = none
  str : mg "str" = none
  repr : mg "repr" = none
  all : mg "all" = none
  any : mg "any" = none
  set : mg "set" = none
  dict : mg "dict" = none
  ve : mg "ValueError" = none
section
variable {P : Program} {w : World} {K : PySem.W.Frag} {mg : Str → Option Value} {base : Heap}
def spWhole (K : PySem.W.Frag) : Sp := fun vs H Q _ => ∃ x t b1 b2, vs = [x] ∧ TyOf K H x t ∧ PySem.W.kitOne K t (.type "int") = some b1 ∧ PySem.W.kitOne K t (.type "bool") = some b2 ∧ Q (.bl (b1 && !b2)) H
theorem scWhole : FnScope ["thing"] ["thing"] (defScope s_is_whole) := ⟨rfl, rfl, rfl, by decide +kernel, rfl, by decide +kernel, by decide +kernel⟩
theorem ok_whole {f : Addr} {fd : FuncData} (F : Fun K "is_whole" "is_whole" s_is_whole f fd) (B : Bl mg) : FnOk P w K mg base CX0 1 f fd ["thing"] (spWhole K) := by
  refine F.ok scWhole (fun vs H Q E h => ?_) (fun cdv A outer s H vs Q E hr h => ?_)
  · obtain ⟨x, t, b1, b2, rfl, _⟩ := h
    rfl
  · obtain ⟨x, t, b1, b2, rfl, ty, e1, e2, q⟩ := h
    refine ⟨_, pss_one (ps_ret (pe_and (pe_isi B.isi (pa_cons (pv 0) (pa_cons (pe_tyInt B.int) pa_nil))) (pe_one (pe_not (pe_isi B.isi (pa_cons (pv 0) (pa_cons (pe_tyBool B.bool) pa_nil))))))), ?_⟩
    refine ⟨x, rfl, x, "int", t, b1, rfl, ty, e1, b1, rfl, ?_⟩
    cases b1 with
    | true =>
      refine iteT ⟨x, rfl, x, "bool", t, b2, rfl, ty, e2, b2, rfl, ?_⟩
      exact q
    | false => exact iteF q
def spIsTurn : Sp := fun vs H Q _ => ∃ (a : Addr) (ns : List Int), vs = [.ref a] ∧ H a = some (.lst (ns.map V.int)) ∧ ∀ (b : Bool) (H' : Hp), Same H H' → (b = true ↔ ns.length ≤ 40 ∧ IsT ns) → Q (.bl b) H'
theorem scIsTurn : FnScope ["thing", "seen", "place"] ["thing"] (defScope s_is_turn) := ⟨rfl, rfl, rfl, by decide +kernel, rfl, by decide +kernel, by decide +kernel⟩
theorem ok_isTurn {f : Addr} {fd : FuncData} (F : Fun K "is_turn" "is_turn" s_is_turn f fd) (B : Bl mg) (mt : ∃ t, mg "MOST_THINGS" = some (.int 40 t)) (cW : Cal P w K mg base "is_whole" 1 ["thing"] (spWhole K)) : FnOk P w K mg base CX0 2 f fd ["thing"] spIsTurn := by
  refine F.ok scIsTurn (fun vs H Q E h => ?_) (fun cdv A outer s H vs Q E hr h => ?_)
  · obtain ⟨a, ns, rfl, _⟩ := h
    rfl
  · obtain ⟨a, ns, rfl, ha, k⟩ := h
    obtain ⟨tk, mt⟩ := mt
    have hu := hu_of hr
    refine ⟨_, pss_cons (ps_if (pw_or (pt_not (pt_val (pe_isi B.isi (pa_cons (pv 0) (pa_cons (pe_tyList B.list) pa_nil))))) (pw_or1 (pt_cmpR op_gt (pe_lenL B.len (pa_cons (pv 0) pa_nil)) (pe_glob (v := .int 40) (by rfl) mt ⟨tk, rfl⟩) (nomark _)))).pt (pss_one (ps_ret pe_bl)) pss_nil)
      (pss_cons (ps_set (i := 1) scIsTurn.nd rfl (Or.inl rfl) pe_dnewK)
      (pss_cons (ps_for PassesOwn.never rfl (pi_list (pv 0)) (pg_name (i := 2) scIsTurn.nd rfl (Or.inl rfl))
        (pss_cons (ps_if (pw_or (pt_not (pt_val (pe_cal cW hr (pa_cons (pv 2) pa_nil)))) (pw_or (pt_cmpR op_lt (pv 2) pe_int (nomark _)) (pw_or (pt_cmpR op_ge (pv 2) (pe_lenL B.len (pa_cons (pv 0) pa_nil)) (nomark _)) (pw_or1 (pt_cmp (pc_din hu (pv 2) (pv 1))))))).pt (pss_one (ps_ret pe_bl)) pss_nil)
        (pss_one (ps_dput hu (pv 1) (pv 2) pe_bl rfl))))
      (pss_one (ps_ret pe_bl)))), ?_⟩
    refine ⟨_, rfl, _, "list", _, true, rfl, .lst ha, kit_same K "list", true, rfl, ?_⟩
    refine iteF ⟨_, rfl, a, _, rfl, .inl (SqL.of ha), _, _, rfl, rfl, _, rfl, ?_⟩
    rw [List.length_map]
    refine ite2 (fun h40 => ?_) (fun h40 => ?_)
    · have h40 : (40 : Int) < (ns.length : Int) := of_decide_eq_true h40
      exact k false H (Same.refl H) ⟨fun z => (by cases z), fun z => (by have := z.1; omega)⟩
    · have h40 : ¬ (40 : Int) < (ns.length : Int) := fun z => h40 (decide_eq_true z)
      intro d hd
      have nad : a ≠ d := ne_of_none ha hd
      have ha1 : (upd H d (.dK [])) a = some (.lst (ns.map V.int)) := by rw [upd_ne nad]; exact ha
      refine ⟨_, rfl, a, rfl, ⟨_, SqL.of ha1⟩, for_list (K := K) (a := a) (xs := ns.map V.int) (fun i σ H2 => ∃ v : Option V, σ = [some (.ref a), some (.ref d), v] ∧ Same H H2 ∧ H2 d = some (.dK (seenK (ns.take i))) ∧ (ns.take i).Nodup ∧ ∀ x ∈ ns.take i, 0 ≤ x ∧ x < ns.length)
        ⟨none, rfl, Same.upd_new hd, upd_same, List.nodup_nil, fun x hx => by simp at hx⟩ (fun i σ H2 _ ⟨_, _, s2, _⟩ => SqL.of (s2 a _ ha)) ?_ ?_⟩
      · rintro i y σ H2 hi ⟨v, rfl, s2, h2, nd, bd⟩
        obtain ⟨z, hz, rfl⟩ := getElem_int hi
        have ha2 := s2 a _ ha
        have hil : i < ns.length := (List.getElem?_eq_some_iff.mp hz).1
        refine ⟨_, rfl, .int z, _, true, false, rfl, .int z, kit_same K "int", kit_int_bool K, _, rfl, ?_⟩
        refine iteF ⟨_, rfl, _, _, rfl, rfl, _, rfl, ?_⟩
        refine ite2 (fun hz0 => ?_) (fun hz0 => ?_)
        · have hz0 : z < 0 := of_decide_eq_true hz0
          exact iteT (k false H2 s2 ⟨fun q => (by cases q), fun q => (by have := q.2.lo z (List.mem_of_getElem? hz); omega)⟩)
        have hz0 : ¬ z < 0 := fun q => hz0 (decide_eq_true q)
        refine ⟨_, rfl, _, rfl, a, _, rfl, .inl (SqL.of ha2), _, _, rfl, rfl, _, rfl, ?_⟩
        rw [List.length_map]
        refine ite2 (fun hz1 => ?_) (fun hz1 => ?_)
        · have hz1 : (ns.length : Int) ≤ z := of_decide_eq_true hz1
          exact iteT (k false H2 s2 ⟨fun q => (by cases q), fun q => (by have := q.2.hi z (List.mem_of_getElem? hz); omega)⟩)
        have hz1 : ¬ (ns.length : Int) ≤ z := fun q => hz1 (decide_eq_true q)
        refine ⟨_, rfl, _, rfl, d, _, rfl, DGet.k (k := Sum.inl z) h2, _, rfl, ?_⟩
        by_cases hm : z ∈ ns.take i
        · rw [seenK_in hm]
          refine iteT (k false H2 s2 ⟨fun q => (by cases q), fun q => ?_⟩)
          exfalso
          obtain ⟨j, hj⟩ := List.mem_iff_getElem?.mp hm
          have hjl : j < i := by
            have := (List.getElem?_eq_some_iff.mp hj).1
            rw [List.length_take] at this
            omega
          rw [List.getElem?_take_of_lt hjl] at hj
          have e1 := (List.getElem?_eq_some_iff.mp hj).2
          have e2 := (List.getElem?_eq_some_iff.mp hz).2
          exact List.pairwise_iff_getElem.mp (List.nodup_iff_pairwise_ne.mp q.2.nd) j i (by omega) hil hjl (by rw [e1, e2])
        · rw [seenK_no hm]
          refine iteF ⟨_, rfl, _, rfl, d, _, rfl, DPut.k (k := Sum.inl z) h2 (small1000 (by unfold seenK; rw [List.length_map, List.length_take]; omega)), ?_⟩
          have hds : ∀ b o, H b = some o → b ≠ d := fun b o e => ne_of_none e hd
          refine ⟨some (.int z), rfl, fun b o e => by rw [upd_ne (hds b o e)]; exact s2 b o e, ?_, ?_, ?_⟩
          · rw [seenK_put hm, upd_same, take_succ_of hz]
          · rw [take_succ_of hz]; exact nd_snoc nd hm
          · intro x hx
            rw [take_succ_of hz] at hx
            rcases List.mem_append.mp hx with q | q
            · exact bd x q
            · have : x = z := by simpa using q
              omega
      · rintro σ H2 ⟨v, rfl, s2, h2, nd, bd⟩
        rw [List.length_map, List.take_length] at nd bd
        refine k true H2 s2 ⟨fun _ => ⟨by omega, ⟨nd, fun x hx => (bd x hx).1, fun x hx => (bd x hx).2⟩⟩, fun _ => rfl⟩
end
end My
namespace My
open PySem L2 Mth
section
variable {P : Program} {w : World} {K : PySem.W.Frag} {mg : Str → Option Value} {base : Heap}
def TurnAt (H : Hp) (a : Addr) (p : List Int) : Prop := H a = some (.lst (p.map V.int)) ∧ IsT p ∧ p.length ≤ 40
end
end My
namespace My
open PySem L2 Mth
section
variable {P : Program} {w : World} {K : PySem.W.Frag} {mg : Str → Option Value} {base : Heap}
def spMust : Sp := fun vs H Q _ => ∃ (a : Addr) (ns : List Int), vs = [.ref a] ∧ TurnAt H a ns ∧ ∀ (H' : Hp), Same H H' → Q .non H'
theorem scMust : FnScope ["thing"] ["thing"] (defScope s_must_be_turn) := ⟨rfl, rfl, rfl, by decide +kernel, rfl, by decide +kernel, by decide +kernel⟩
theorem ok_must {f : Addr} {fd : FuncData} (F : Fun K "must_be_turn" "must_be_turn" s_must_be_turn f fd) (cT : Cal P w K mg base "is_turn" 2 ["thing"] spIsTurn) : FnOk P w K mg base CX0 3 f fd ["thing"] spMust := by
  refine F.ok scMust (fun vs H Q E h => ?_) (fun cdv A outer s H vs Q E hr h => ?_)
  · obtain ⟨a, ns, rfl, _⟩ := h
    rfl
  · obtain ⟨a, ns, rfl, ⟨ha, ht, hl⟩, k⟩ := h
    refine ⟨_, pss_one (ps_if (pt_not (pt_val (pe_cal cT hr (pa_cons (pv 0) pa_nil)))) (pss_one ps_never) pss_nil), ?_⟩
    refine ⟨_, rfl, a, ns, rfl, ha, fun b H' s' hb => ⟨b, rfl, ?_⟩⟩
    have : b = true := hb.mpr ⟨hl, ht⟩
    subst this
    exact iteF (k H' s')
end
end My
namespace My
open PySem L2 Mth
def lenAt (H : Hp) (l : Addr) : Nat := match H l with
  | some (.lst xs) => xs.length
  | _ => 0
theorem lenAt_of {H : Hp} {l : Addr} {xs : List V} (h : H l = some (.lst xs)) : lenAt H l = xs.length := by unfold lenAt; rw [h]
end My
namespace My
open PySem L2 Mth
section
variable {P : Program} {w : World} {K : PySem.W.Frag} {mg : Str → Option Value} {base : Heap}
def spRings : Sp := fun vs H Q _ => ∃ (a : Addr) (p : List Int), vs = [.ref a] ∧ TurnAt H a p ∧
  ∀ (l : Addr) (as : List Addr) (rs : List (List Int)) (H' : Hp), H l = none → Same H H' → H' l = some (.lst (as.map V.ref)) → RowsH H' as rs → RingsUp p p.length rs → (∀ b ∈ as, H b = none) → as.Nodup → l ∉ as → Q (.ref l) H'
theorem rows_snoc {H : Hp} {as : List Addr} {rs : List (List Int)} {e : Addr} {r : List Int} (h : RowsH H as rs) (he : H e = some (.lst (r.map V.int))) : RowsH H (as ++ [e]) (rs ++ [r]) := by
  refine ⟨by rw [List.length_append, List.length_append, h.1]; rfl, fun j b q h1 h2 => ?_⟩
  by_cases hj : j < as.length
  · rw [List.getElem?_append_left hj] at h1
    rw [List.getElem?_append_left (by rw [← h.1]; exact hj)] at h2
    exact h.2 j b q h1 h2
  · rw [List.getElem?_append_right (by omega)] at h1
    rw [List.getElem?_append_right (by rw [← h.1]; omega), ← h.1] at h2
    have hj0 : j - as.length = 0 := by
      have := (List.getElem?_eq_some_iff.mp h1).1
      simpa using this
    rw [hj0] at h1 h2
    cases h1; cases h2
    exact he
theorem rows_keep {H H' : Hp} {as : List Addr} {rs : List (List Int)} (h : RowsH H as rs) (k : ∀ b ∈ as, ∀ o, H b = some o → H' b = some o) : RowsH H' as rs :=
  ⟨h.1, fun j a r h1 h2 => k a (List.mem_of_getElem? h1) _ (h.2 j a r h1 h2)⟩
theorem rows_mem {H : Hp} {as : List Addr} {rs : List (List Int)} (h : RowsH H as rs) {b : Addr} (hb : b ∈ as) : ∃ r : List Int, H b = some (.lst (r.map V.int)) := by
  obtain ⟨j, hj⟩ := List.mem_iff_getElem?.mp hb
  have hjl := (List.getElem?_eq_some_iff.mp hj).1
  exact ⟨_, h.2 j b (rs[j]'(by rw [← h.1]; exact hjl)) hj (List.getElem?_eq_getElem _)⟩
theorem up_len {p : List Int} {i : Nat} {rs : List (List Int)} (tp : IsT p) (h : RingsUp p i rs) : rs.flatten.length ≤ p.length := by
  refine nodup_len_in h.nd fun x hx => ?_
  obtain ⟨r, hr, hxr⟩ := List.mem_flatten.mp hx
  obtain ⟨y, L, a, b, rfl, _⟩ := h.ring r hr
  exact ringL_in tp a x hxr
theorem up_count {p : List Int} {i : Nat} {rs : List (List Int)} (h : RingsUp p i rs) : rs.length ≤ rs.flatten.length := by
  have : ∀ l : List (List Int), (∀ r ∈ l, 1 ≤ r.length) → l.length ≤ l.flatten.length := by
    intro l
    induction l with
    | nil => intro _; exact Nat.le_refl _
    | cons a r ih =>
      intro h
      have h1 := h a List.mem_cons_self
      have h2 := ih fun x hx => h x (List.mem_cons_of_mem _ hx)
      rw [List.flatten_cons, List.length_append, List.length_cons]
      omega
  refine this rs fun r hr => ?_
  obtain ⟨y, L, a, b, rfl, _⟩ := h.ring r hr
  rw [ringL_len]
  exact b.pos
end
end My
namespace My
open PySem L2 Mth
section
variable {P : Program} {w : World} {K : PySem.W.Frag} {mg : Str → Option Value} {base : Heap}
def spRing : Sp := fun vs H Q _ => ∃ (a : Addr) (p : List Int) (x : Int), vs = [.ref a, .int x] ∧ TurnAt H a p ∧ In p x ∧
  ∀ (l : Addr) (L : Nat) (H' : Hp), H l = none → Same H H' → Per p x L → L ≤ 40 → H' l = some (.lst ((ringL p x L).map V.int)) → Q (.ref l) H'
theorem scRing : FnScope ["p", "first", "ring", "thing"] ["p", "first"] (defScope s_walk_ring) := ⟨rfl, rfl, rfl, by decide +kernel, rfl, by decide +kernel, by decide +kernel⟩
theorem ok_ring {f : Addr} {fd : FuncData} (F : Fun K "walk_ring" "walk_ring" s_walk_ring f fd) : FnOk P w K mg base CX0 1 f fd ["p", "first"] spRing := by
  refine F.ok scRing (fun vs H Q E h => ?_) (fun cdv A outer s H vs Q E hr h => ?_)
  · obtain ⟨a, p, x, rfl, _⟩ := h
    rfl
  · obtain ⟨a, p, x, rfl, ⟨ha, tp, lp⟩, hx, q⟩ := h
    refine ⟨_, pss_cons (ps_set (i := 2) scRing.nd rfl (Or.inl rfl) (pe_lst (pa_cons (pv 1) pa_nil)))
      (pss_cons (ps_set (i := 3) scRing.nd rfl (Or.inl rfl) (pe_ix ix_list (pv 0) (pv 1) (fun _ _ => rfl)))
      (pss_cons (ps_while PassesOwn.never (pt_cmpR op_ne (pv 3) (pv 1) (nomark _)) (pss_cons (ps_expr (pe_append (pv 2) (pa_cons (pv 3) pa_nil))) (pss_one (ps_set (i := 3) scRing.nd rfl (Or.inl rfl) (pe_ix ix_list (pv 0) (pv 3) (fun _ _ => rfl))))))
      (pss_one (ps_ret (pv 2))))), ?_⟩
    refine ⟨_, rfl, (by show 1 ≤ sizeLine; decide), fun l hl => ?_⟩
    have nal : a ≠ l := ne_of_none ha hl
    have hal : (upd H l (.lst [.int x])) a = some (.lst (p.map V.int)) := by rw [upd_ne nal]; exact ha
    refine ⟨_, rfl, _, rfl, a, _, _, _, rfl, rfl, SqL.of hal, atI_map hx.1 hx.2, ?_⟩
    refine while_by (fun σ H2 => ∃ m : Nat, σ = [some (.ref a), some (.int x), some (.ref l), some (.int (it p m x))] ∧ 1 ≤ m ∧ H2 l = some (.lst ((ringL p x m).map V.int)) ∧ Same H H2 ∧ ∀ i, 0 < i → i < m → it p i x ≠ x) (fun _ H2 => p.length + 1 - lenAt H2 l)
      ⟨1, rfl, Nat.le_refl _, upd_same, Same.upd_new hl, fun i i0 i1 => by omega⟩ ?_ ?_
    · rintro σ H2 ⟨m, rfl, m1, h2l, s2, hne⟩
      have ha2 := s2 a _ ha
      refine ⟨_, rfl, _, rfl, rfl, _, rfl, ?_⟩
      by_cases hb : it p m x = x
      · refine iteNS (congrArg V.int hb) ?_
        exact ⟨_, rfl, q l m H2 hl s2 ⟨by omega, hb, hne⟩ (by have := ring_bound tp hx hne; omega) h2l⟩
      · have hb' : ¬ V.int (it p m x) = V.int x := fun z => hb (V.int.inj z)
        rw [decide_eq_false hb']
        refine iteT ?_
        have hne' : ∀ i, 0 < i → i < m + 1 → it p i x ≠ x := fun i i0 i1 => by
          by_cases e : i = m
          · rw [e]; exact hb
          · exact hne i i0 (by omega)
        have hbd := ring_bound tp hx hne'
        refine ⟨_, rfl, .inl ⟨rfl, _, SqL.of h2l⟩, _, rfl, l, _, _, rfl, rfl, h2l, small1000 (by rw [List.length_map, ringL_len]; omega), ?_⟩
        have hi := it_in tp hx m
        refine ⟨_, rfl, _, rfl, a, _, _, _, rfl, rfl, SqL.of (by rw [upd_ne nal]; exact ha2), atI_map hi.1 hi.2, ?_⟩
        have h3l : (upd H2 l (.lst ((ringL p x m).map V.int ++ [.int (it p m x)]))) l = some (.lst ((ringL p x (m + 1)).map V.int)) := by
          rw [upd_same, ringL_succ, List.map_append]; rfl
        refine ⟨⟨m + 1, rfl, by omega, h3l, fun b o hb => by rw [upd_ne (ne_of_none hb hl)]; exact s2 b o hb, hne'⟩, ?_⟩
        rw [lenAt_of h3l, lenAt_of h2l, List.length_map, List.length_map, ringL_len, ringL_len]
        omega
    · rintro σ H2 Q Q' hq ⟨v, hv, u, hu, e1, k1, e2, e3⟩
      exact ⟨v, hv, u, hu, e1, k1, e2, hq _ _ e3⟩
theorem scRings : FnScope ["p", "rings", "seen", "first", "ring", "thing"] ["p"] (defScope s_walk_rings) := ⟨rfl, rfl, rfl, by decide +kernel, rfl, by decide +kernel, by decide +kernel⟩
theorem ok_rings {f : Addr} {fd : FuncData} (F : Fun K "walk_rings" "walk_rings" s_walk_rings f fd) (B : Bl mg) (cR : Cal P w K mg base "walk_ring" 1 ["p", "first"] spRing) : FnOk P w K mg base CX0 2 f fd ["p"] spRings := by
  refine F.ok scRings (fun vs H Q E h => ?_) (fun cdv A outer s H vs Q E hr h => ?_)
  · obtain ⟨a, p, rfl, _⟩ := h
    rfl
  · obtain ⟨a, p, rfl, ⟨ha, tp, lp⟩, q⟩ := h
    have hu := hu_of hr
    refine ⟨_, pss_cons (ps_set (i := 1) scRings.nd rfl (Or.inl rfl) (pe_lst pa_nil)) (pss_cons (ps_set (i := 2) scRings.nd rfl (Or.inl rfl) pe_dnewK)
      (pss_cons (ps_for PassesOwn.never rfl (pi_range1 (by rfl) B.range (pa_cons (pe_lenL B.len (pa_cons (pv 0) pa_nil)) pa_nil)) (pg_name (i := 3) scRings.nd rfl (Or.inl rfl))
        (pss_one (ps_if (pt_cmp (pc_dnotin hu (pv 3) (pv 2))) (pss_cons (ps_set (i := 4) scRings.nd rfl (Or.inl rfl) (pe_cal cR hr (pa_cons (pv 0) (pa_cons (pv 3) pa_nil)))) (pss_cons (ps_expr (pe_append (pv 1) (pa_cons (pv 4) pa_nil)))
          (pss_one (ps_for PassesOwn.never rfl (pi_list (pv 4)) (pg_name (i := 5) scRings.nd rfl (Or.inl rfl)) (pss_one (ps_dput hu (pv 2) (pv 5) pe_bl rfl)))))) pss_nil)))
      (pss_one (ps_ret (pv 1))))), ?_⟩
    refine ⟨Nat.zero_le _, fun l hl => ?_⟩
    intro d hd
    have hdl : d ≠ l := fun z => by rw [z, upd_same] at hd; cases hd
    have hd0 : H d = none := by rw [upd_ne hdl] at hd; exact hd
    have s0 : Same H (upd (upd H l (.lst [])) d (.dK [])) := (Same.upd_new hl).upd_r hd0
    have h0l : (upd (upd H l (.lst [])) d (.dK [])) l = some (.lst []) := by rw [upd_ne hdl.symm, upd_same]
    refine ⟨_, rfl, a, _, rfl, .inl (SqL.of (s0 a _ ha)), (p.length : Int), ?_, by omega, by omega, ?_⟩
    · rw [List.length_map]
    rw [show ((p.length : Int)).toNat = p.length by omega]
    refine for_range (lo := 0) (n := p.length) (fun i σ H2 => ∃ (as : List Addr) (rs : List (List Int)) (v3 v4 v5 : Option V), σ = [some (.ref a), some (.ref l), some (.ref d), v3, v4, v5] ∧ H2 l = some (.lst (as.map V.ref)) ∧ H2 d = some (.dK (seenK rs.flatten)) ∧ RowsH H2 as rs ∧ RingsUp p i rs ∧ Same H H2 ∧ (∀ b ∈ as, H b = none) ∧ as.Nodup ∧ l ∉ as)
      ⟨[], [], none, none, none, rfl, h0l, upd_same, ⟨rfl, fun j b r h => by simp at h⟩, rings_none p, s0, fun b hb => by simp at hb, List.nodup_nil, by simp⟩ ?_ ?_
    · rintro i σ H2 hi ⟨as, rs, v3, v4, v5, rfl, h2l, h2d, rows, up, s2, fa, nda, nla⟩
      have hx : In p (i : Int) := ⟨by omega, by omega⟩
      have e0 : (0 : Int) + (i : Int) = (i : Int) := by omega
      rw [e0]
      refine ⟨_, rfl, _, rfl, d, _, rfl, DGet.k (k := Sum.inl (i : Int)) h2d, _, rfl, ?_⟩
      by_cases hm : (i : Int) ∈ rs.flatten
      · rw [seenK_in hm]
        refine iteF ?_
        exact ⟨as, rs, _, _, _, rfl, h2l, h2d, rows, rings_skip up hm, s2, fa, nda, nla⟩
      · rw [seenK_no hm]
        refine iteT ?_
        refine ⟨_, rfl, _, rfl, a, p, _, rfl, ⟨s2 a _ ha, tp, lp⟩, hx, fun e L H3 he s23 pr hL h3e => ?_⟩
        have h3l := s23 l _ h2l
        have h3d := s23 d _ h2d
        have nle : l ≠ e := ne_of_none h2l he
        have nde : d ≠ e := ne_of_none h2d he
        have fl := up_len tp up
        have cl := up_count up
        have lenas := rows.1
        refine ⟨_, rfl, .inl ⟨rfl, _, SqL.of h3l⟩, _, rfl, l, _, _, rfl, rfl, h3l, small1000 (by rw [List.length_map, lenas]; omega), ?_⟩
        have es : as.map V.ref ++ [V.ref e] = (as ++ [e]).map V.ref := by rw [List.map_append]; rfl
        rw [es]
        have h4l : (upd H3 l (.lst ((as ++ [e]).map V.ref))) l = some (.lst ((as ++ [e]).map V.ref)) := upd_same
        have h4d : (upd H3 l (.lst ((as ++ [e]).map V.ref))) d = some (.dK (seenK rs.flatten)) := by rw [upd_ne hdl]; exact h3d
        have h4e : (upd H3 l (.lst ((as ++ [e]).map V.ref))) e = some (.lst ((ringL p i L).map V.int)) := by rw [upd_ne nle.symm]; exact h3e
        have k4 : ∀ b o, H2 b = some o → b ≠ l → (upd H3 l (.lst ((as ++ [e]).map V.ref))) b = some o := fun b o hb hn => by rw [upd_ne hn]; exact s23 b o hb
        generalize (upd H3 l (.lst ((as ++ [e]).map V.ref))) = H4 at h4l h4d h4e k4 ⊢
        have fr := rings_fresh up pr hm
        have ndr := ringL_nodup tp hx fun j j0 j1 => pr.least j j0 j1
        refine ⟨_, rfl, e, rfl, ⟨_, SqL.of h4e⟩, for_list (K := K) (a := e) (xs := (ringL p i L).map V.int) (fun j σ H5 => ∃ v5' : Option V, σ = [some (.ref a), some (.ref l), some (.ref d), some (.int (i : Int)), some (.ref e), v5'] ∧ H5 d = some (.dK (seenK (rs.flatten ++ (ringL p i L).take j))) ∧ KeepBut d H4 H5)
          ⟨v5, rfl, by rw [List.take_zero, List.append_nil]; exact h4d, KeepBut.refl d H4⟩ (fun j σ H5 _ ⟨_, _, _, k⟩ => SqL.of (k e _ h4e nde.symm)) ?_ ?_⟩
        · rintro j y σ H5 hj ⟨v5', rfl, h5d, kb⟩
          obtain ⟨z, hz, rfl⟩ := getElem_int hj
          have hjl : j < (ringL p i L).length := (List.getElem?_eq_some_iff.mp hz).1
          rw [ringL_len] at hjl
          have hzn : z ∉ rs.flatten ++ (ringL p i L).take j := by
            intro hm'
            rcases List.mem_append.mp hm' with g | g
            · exact fr z (List.mem_of_getElem? hz) g
            · obtain ⟨jj, hjj⟩ := List.mem_iff_getElem?.mp g
              have hjk : jj < j := by
                have := (List.getElem?_eq_some_iff.mp hjj).1
                rw [List.length_take] at this
                omega
              rw [List.getElem?_take_of_lt hjk] at hjj
              have e1 := (List.getElem?_eq_some_iff.mp hjj).2
              have e2 := (List.getElem?_eq_some_iff.mp hz).2
              exact List.pairwise_iff_getElem.mp (List.nodup_iff_pairwise_ne.mp ndr) jj j (by rw [ringL_len]; omega) (by rw [ringL_len]; omega) hjk (by rw [e1, e2])
          refine ⟨_, rfl, _, rfl, d, _, rfl, DPut.k (k := Sum.inl z) h5d (small1000 (by unfold seenK; rw [List.length_map, List.length_append, List.length_take, ringL_len]; omega)), ?_⟩
          refine ⟨_, rfl, ?_, kb.upd_a⟩
          rw [seenK_put hzn, upd_same, take_succ_of hz, List.append_assoc]
        · rintro σ H5 ⟨v5', rfl, h5d, kb⟩
          rw [List.length_map, List.take_length] at h5d
          have nad : ∀ b ∈ as, b ≠ d ∧ b ≠ l := fun b hb => by
            obtain ⟨r, hr'⟩ := rows_mem rows hb
            exact ⟨ne_of hr' h2d (by intro z; cases z), fun z => nla (z ▸ hb)⟩
          refine ⟨as ++ [e], rs ++ [ringL p i L], _, _, _, rfl, kb l _ h4l hdl.symm, ?_, ?_, rings_step tp up hx pr hm, ?_, ?_, ?_, ?_⟩
          · rw [h5d, List.flatten_append, List.flatten_singleton]
          · exact rows_snoc (rows_keep rows fun b hb o ho => kb b o (k4 b o ho (nad b hb).2) (nad b hb).1) (kb e _ h4e nde.symm)
          · exact fun b o hb => kb b o (k4 b o (s2 b o hb) (ne_of_none hb hl)) (ne_of_none hb hd0)
          · intro b hb
            rcases List.mem_append.mp hb with g | g
            · exact fa b g
            · have : b = e := by simpa using g
              rw [this]; exact s2.free he
          · refine nd_snoc nda fun g => ?_
            obtain ⟨r, hr'⟩ := rows_mem rows g
            rw [he] at hr'; cases hr'
          · intro g
            rcases List.mem_append.mp g with g | g
            · exact nla g
            · exact nle (by simpa using g)
    · rintro σ H2 ⟨as, rs, v3, v4, v5, rfl, h2l, h2d, rows, up, s2, fa, nda, nla⟩
      exact ⟨_, rfl, q l as rs H2 hl s2 h2l rows up fa nda nla⟩
end
end My
namespace My
open PySem L2 Mth
section
variable {P : Program} {w : World} {K : PySem.W.Frag} {mg : Str → Option Value} {base : Heap}
def spSend : Sp := fun vs H Q _ => ∃ (t r : Addr) (ts rs : List Int) (k : Int), vs = [.ref t, .ref r, .int k] ∧ H t = some (.lst (ts.map V.int)) ∧ H r = some (.lst (rs.map V.int)) ∧ t ≠ r ∧ rs.Nodup ∧ (∀ x ∈ rs, 0 ≤ x ∧ x < ts.length) ∧
  ∀ (ts' : List Int) (H' : Hp), ts'.length = ts.length → (∀ j, j < rs.length → at0 ts' (rs.getD j 0) = some (rs.getD (((j : Int) + k) % (rs.length : Int)).toNat 0)) → (∀ u, 0 ≤ u → u ∉ rs → at0 ts' u = at0 ts u) → H' t = some (.lst (ts'.map V.int)) → KeepBut t H H' → Q .non H'
theorem scSend : FnScope ["target", "ring", "steps", "place", "thing"] ["target", "ring", "steps"] (defScope s_send_along) := ⟨rfl, rfl, rfl, by decide +kernel, rfl, by decide +kernel, by decide +kernel⟩
theorem ok_send {f : Addr} {fd : FuncData} (F : Fun K "send_along" "send_along" s_send_along f fd) (B : Bl mg) : FnOk P w K mg base CX0 1 f fd ["target", "ring", "steps"] spSend := by
  refine F.ok scSend (fun vs H Q E h => ?_) (fun cdv A outer s H vs Q E hr h => ?_)
  · obtain ⟨t, r, ts, rs, k, rfl, _⟩ := h
    rfl
  · obtain ⟨t, r, ts, rs, k, rfl, ht, hrr, ntr, nd, bd, q⟩ := h
    refine ⟨_, pss_one (ps_for PassesOwn.never rfl (pi_enum B.enum (pa_cons (pv 1) pa_nil)) (pg_tup rfl (pgs_cons (pg_name (i := 3) scSend.nd rfl (Or.inl rfl)) (pgs_cons (pg_name (i := 4) scSend.nd rfl (Or.inl rfl)) pgs_nil)))
      (pss_one (ps_asg (pe_ix ix_list (pv 1) (pe_op op_mod (pe_op op_add (pv 3) (pv 2)) (pe_lenL B.len (pa_cons (pv 1) pa_nil))) (fun _ _ => rfl)) (pg_sub (pv 0) (pv 4) set_list)))), ?_⟩
    refine ⟨_, rfl, r, rfl, ⟨_, SqL.of hrr⟩, for_enum (K := K) (a := r) (xs := rs.map V.int) (fun i σ H2 => ∃ (ts' : List Int) (v3 v4 : Option V), σ = [some (.ref t), some (.ref r), some (.int k), v3, v4] ∧ H2 t = some (.lst (ts'.map V.int)) ∧ ts'.length = ts.length ∧ (∀ j, j < i → at0 ts' (rs.getD j 0) = some (rs.getD (((j : Int) + k) % (rs.length : Int)).toNat 0)) ∧ (∀ u, 0 ≤ u → u ∉ rs → at0 ts' u = at0 ts u) ∧ KeepBut t H H2)
      ⟨ts, none, none, rfl, ht, rfl, fun j hj => by omega, fun u _ _ => rfl, KeepBut.refl t H⟩ (fun i σ H2 _ ⟨_, _, _, _, _, _, _, _, k⟩ => SqL.of (k r _ hrr ntr.symm)) ?_ ?_⟩
    · rintro i y σ H2 tt hi ⟨ts', v3, v4, rfl, h2t, hl, hj, hu, kb⟩ htt
      obtain ⟨z, hz, rfl⟩ := getElem_int hi
      have hil : i < rs.length := (List.getElem?_eq_some_iff.mp hz).1
      have h2r := kb r _ hrr ntr.symm
      have nt : t ≠ tt := ne_of_none h2t htt
      have nr : r ≠ tt := ne_of_none h2r htt
      have h3r : (upd H2 tt (.tup [.int (i : Int), .int z])) r = some (.lst (rs.map V.int)) := by rw [upd_ne nr]; exact h2r
      have h3t : (upd H2 tt (.tup [.int (i : Int), .int z])) t = some (.lst (ts'.map V.int)) := by rw [upd_ne nt]; exact h2t
      have L0 : (0 : Int) < (rs.length : Int) := by omega
      have m0 := Int.emod_nonneg ((i : Int) + k) (show (rs.length : Int) ≠ 0 by omega)
      have m1 := Int.emod_lt_of_pos ((i : Int) + k) L0
      refine ⟨tt, _, rfl, SqT.of upd_same, rfl, _, _, rfl, _, _, rfl, rfl, ?_⟩
      refine ⟨_, rfl, _, rfl, _, rfl, _, _, rfl, rfl, _, rfl, r, _, rfl, .inl (SqL.of h3r), ?_⟩
      rw [List.length_map]
      refine ⟨_, _, rfl, rfl, L0, r, _, _, _, rfl, rfl, SqL.of h3r, atI_map m0 m1, ?_⟩
      obtain ⟨z0, z1⟩ := bd z (List.mem_of_getElem? hz)
      refine ⟨_, rfl, _, rfl, t, _, _, z.toNat, rfl, rfl, h3t, ?_, ?_⟩
      · unfold ixN
        rw [List.length_map, if_pos z0, if_pos (by omega)]
      have es : (ts'.map V.int).set z.toNat (.int (rs.getD (((i : Int) + k) % (rs.length : Int)).toNat 0)) = (ts'.set z.toNat (rs.getD (((i : Int) + k) % (rs.length : Int)).toNat 0)).map V.int := by rw [List.map_set]
      rw [es]
      have hzi : rs.getD i 0 = z := by rw [getD_eq hil]; exact (List.getElem?_eq_some_iff.mp hz).2
      refine ⟨_, _, _, rfl, upd_same, by rw [List.length_set]; exact hl, fun j hji => ?_, fun u u0 un => ?_, fun b o hb hn => ?_⟩
      · by_cases e : j = i
        · subst e
          rw [hzi, at0_same (by omega)]
        · have hjl : j < rs.length := by omega
          have : rs.getD j 0 ≠ z := by rw [← hzi]; exact nodup_getD nd hjl hil e
          rw [at0_ne (bd _ (by rw [getD_eq hjl]; exact List.getElem_mem hjl)).1 z0 this]
          exact hj j (by omega)
      · rw [at0_ne u0 z0 (fun e => un (e ▸ List.mem_of_getElem? hz))]
        exact hu u u0 un
      · have := kb b o hb hn
        rw [upd_ne hn, upd_ne (ne_of_none this htt)]
        exact this
    · rintro σ H2 ⟨ts', v3, v4, rfl, h2t, hl, hj, hu, kb⟩
      rw [List.length_map] at hj
      exact q ts' H2 hl hj hu h2t kb
end
end My
namespace My
open PySem L2 Mth
section
variable {P : Program} {w : World} {K : PySem.W.Frag} {mg : Str → Option Value} {base : Heap}
theorem scRoundsOf : FnScope ["p"] ["p"] (defScope s_rounds_of) := ⟨rfl, rfl, rfl, by decide +kernel, rfl, by decide +kernel, by decide +kernel⟩
theorem ok_roundsOf {f : Addr} {fd : FuncData} (F : Fun K "rounds_of" "rounds_of" s_rounds_of f fd) (cM : Cal P w K mg base "must_be_turn" 3 ["thing"] spMust) (cR : Cal P w K mg base "walk_rings" 2 ["p"] spRings) : FnOk P w K mg base CX0 4 f fd ["p"] spRings := by
  refine F.ok scRoundsOf (fun vs H Q E h => ?_) (fun cdv A outer s H vs Q E hr h => ?_)
  · obtain ⟨a, p, rfl, _⟩ := h
    rfl
  · obtain ⟨a, p, rfl, ⟨ha, tp, lp⟩, q⟩ := h
    refine ⟨_, pss_cons (ps_expr (pe_cal cM hr (pa_cons (pv 0) pa_nil))) (pss_one (ps_ret (pe_cal cR (hr.mono (by decide)) (pa_cons (pv 0) pa_nil)))), ?_⟩
    refine ⟨_, rfl, a, p, rfl, ⟨ha, tp, lp⟩, fun H1 s1 => ?_⟩
    exact ⟨_, rfl, a, p, rfl, ⟨s1 a _ ha, tp, lp⟩, fun l as rs H' hl s' h1 h2 h3 h4 h5 h6 => q l as rs H' (s1.free hl) (s1.trans s') h1 h2 h3 (fun b hb => s1.free (h4 b hb)) h5 h6⟩
end
end My
namespace My
open PySem L2 Mth
section
variable {P : Program} {w : World} {K : PySem.W.Frag} {mg : Str → Option Value} {base : Heap}
def spFilled : Sp := fun vs H Q _ => ∃ (l : Addr) (as : List Addr) (rs : List (List Int)), vs = [.ref l] ∧ H l = some (.lst (as.map V.ref)) ∧ RowsH H as rs ∧ (∀ r ∈ rs, r ≠ []) ∧ Q (.bl true) H
theorem scFilled : FnScope ["rounds", "ring"] ["rounds"] (defScope s_are_filled_lists) := ⟨rfl, rfl, rfl, by decide +kernel, rfl, by decide +kernel, by decide +kernel⟩
theorem ok_filled {f : Addr} {fd : FuncData} (F : Fun K "are_filled_lists" "are_filled_lists" s_are_filled_lists f fd) (B : Bl mg) : FnOk P w K mg base CX0 1 f fd ["rounds"] spFilled := by
  refine F.ok scFilled (fun vs H Q E h => ?_) (fun cdv A outer s H vs Q E hr h => ?_)
  · obtain ⟨l, as, rs, rfl, _⟩ := h
    rfl
  · obtain ⟨l, as, rs, rfl, hl, rows, hne, q⟩ := h
    refine ⟨_, pss_cons (ps_if (pt_not (pt_val (pe_isi B.isi (pa_cons (pv 0) (pa_cons (pe_tyList B.list) pa_nil))))) (pss_one (ps_ret pe_bl)) pss_nil)
      (pss_cons (ps_for PassesOwn.never rfl (pi_list (pv 0)) (pg_name (i := 1) scFilled.nd rfl (Or.inl rfl))
        (pss_one (ps_if (pw_or (pt_not (pt_val (pe_isi B.isi (pa_cons (pv 1) (pa_cons (pe_tyList B.list) pa_nil))))) (pw_or1 (pt_cmpR op_eq (pe_lenL B.len (pa_cons (pv 1) pa_nil)) pe_int (nomark _)))).pt (pss_one (ps_ret pe_bl)) pss_nil)))
      (pss_one (ps_ret pe_bl))), ?_⟩
    refine ⟨_, rfl, _, "list", _, true, rfl, .lst hl, kit_same K "list", true, rfl, ?_⟩
    refine iteF ?_
    refine ⟨_, rfl, l, rfl, ⟨_, SqL.of hl⟩, for_list (K := K) (a := l) (xs := as.map V.ref) (fun i σ H2 => ∃ v : Option V, σ = [some (.ref l), v] ∧ H2 = H) ⟨none, rfl, rfl⟩ (fun i σ H2 _ ⟨_, _, e⟩ => by rw [e]; exact SqL.of hl) ?_ (fun σ H2 ⟨v, _, e⟩ => by rw [e]; exact q)⟩
    rintro i y σ H2 hi ⟨v, rfl, rfl⟩
    rw [List.getElem?_map] at hi
    cases hA : as[i]? with
    | none => rw [hA] at hi; cases hi
    | some e =>
      rw [hA] at hi
      cases hi
      have hil : i < as.length := (List.getElem?_eq_some_iff.mp hA).1
      have hri : rs[i]? = some (rs[i]'(by rw [← rows.1]; exact hil)) := List.getElem?_eq_getElem _
      generalize (rs[i]'(by rw [← rows.1]; exact hil)) = r at hri
      have he := rows.2 i e r hA hri
      have hrn := hne r (List.mem_of_getElem? hri)
      refine ⟨_, rfl, _, "list", _, true, rfl, .lst he, kit_same K "list", true, rfl, ?_⟩
      refine iteF ⟨_, rfl, e, _, rfl, .inl (SqL.of he), rfl, _, rfl, ?_⟩
      have hnz : ¬ V.int (((r.map V.int).length : Nat) : Int) = V.int 0 := fun z => by
        have z := V.int.inj z
        rw [List.length_map] at z
        have := List.length_pos_iff.mpr hrn
        omega
      rw [decide_eq_false hnz]
      exact iteF ⟨_, rfl, rfl⟩
def spThings : Sp := fun vs H Q _ => ∃ (l : Addr) (as : List Addr) (rs : List (List Int)), vs = [.ref l] ∧ H l = some (.lst (as.map V.ref)) ∧ RowsH H as rs ∧ rs.flatten.length ≤ 1000 ∧
  ∀ (o : Addr) (H' : Hp), H o = none → Same H H' → H' o = some (.lst (rs.flatten.map V.int)) → Q (.ref o) H'
theorem scThings : FnScope ["rounds", "things", "ring"] ["rounds"] (defScope s_things_in) := ⟨rfl, rfl, rfl, by decide +kernel, rfl, by decide +kernel, by decide +kernel⟩
theorem flat_take_le (rs : List (List Int)) (i : Nat) : (rs.take i).flatten.length ≤ rs.flatten.length := by
  conv => rhs; rw [← List.take_append_drop i rs, List.flatten_append, List.length_append]
  omega
theorem ok_things {f : Addr} {fd : FuncData} (F : Fun K "things_in" "things_in" s_things_in f fd) : FnOk P w K mg base CX0 1 f fd ["rounds"] spThings := by
  refine F.ok scThings (fun vs H Q E h => ?_) (fun cdv A outer s H vs Q E hr h => ?_)
  · obtain ⟨l, as, rs, rfl, _⟩ := h
    rfl
  · obtain ⟨l, as, rs, rfl, hl, rows, hb, q⟩ := h
    refine ⟨_, pss_cons (ps_set (i := 1) scThings.nd rfl (Or.inl rfl) (pe_lst pa_nil))
      (pss_cons (ps_for PassesOwn.never rfl (pi_list (pv 0)) (pg_name (i := 2) scThings.nd rfl (Or.inl rfl)) (pss_one (ps_expr (pe_extend (pv 1) (pa_cons (pv 2) pa_nil)))))
      (pss_one (ps_ret (pv 1)))), ?_⟩
    refine ⟨Nat.zero_le _, fun o ho => ?_⟩
    have s0 : Same H (upd H o (.lst [])) := Same.upd_new ho
    refine ⟨_, rfl, l, rfl, ⟨_, SqL.of (s0 l _ hl)⟩, for_list (K := K) (a := l) (xs := as.map V.ref) (fun i σ H2 => ∃ v : Option V, σ = [some (.ref l), some (.ref o), v] ∧ Same H H2 ∧ H2 o = some (.lst ((rs.take i).flatten.map V.int))) ⟨none, rfl, s0, upd_same⟩ (fun i σ H2 _ ⟨_, _, s, _⟩ => SqL.of (s l _ hl)) ?_ ?_⟩
    · rintro i y σ H2 hi ⟨v, rfl, s2, h2o⟩
      rw [List.getElem?_map] at hi
      cases hA : as[i]? with
      | none => rw [hA] at hi; cases hi
      | some e =>
        rw [hA] at hi
        cases hi
        have hil : i < as.length := (List.getElem?_eq_some_iff.mp hA).1
        have hri : rs[i]? = some (rs[i]'(by rw [← rows.1]; exact hil)) := List.getElem?_eq_getElem _
        generalize (rs[i]'(by rw [← rows.1]; exact hil)) = r at hri
        have he := s2 e _ (rows.2 i e r hA hri)
        have hle := flat_take_le rs (i + 1)
        rw [take_succ_of hri, List.flatten_append, List.flatten_singleton, List.length_append] at hle
        have h1000 := small1000 (Nat.le_refl 1000)
        refine ⟨_, rfl, .inl ⟨rfl, _, SqL.of h2o⟩, _, rfl, o, e, _, _, rfl, rfl, h2o, he, by rw [List.length_map, List.length_map]; omega, ?_⟩
        refine ⟨_, rfl, fun b u hb => by rw [upd_ne (ne_of_none hb ho)]; exact s2 b u hb, ?_⟩
        rw [upd_same, take_succ_of hri, List.flatten_append, List.flatten_singleton, List.map_append]
    · rintro σ H2 ⟨v, rfl, s2, h2o⟩
      rw [List.length_map, rows.1, List.take_length] at h2o
      exact ⟨_, rfl, q o H2 ho s2 h2o⟩
def spFrom : Sp := fun vs H Q _ => ∃ (l : Addr) (as : List Addr) (rs : List (List Int)), vs = [.ref l] ∧ H l = some (.lst (as.map V.ref)) ∧ RowsH H as rs ∧ (∀ r ∈ rs, r ≠ []) ∧ IsT rs.flatten ∧ rs.flatten.length ≤ 40 ∧
  ∀ (o : Addr) (t : List Int) (H' : Hp), H o = none → Same H H' → H' o = some (.lst (t.map V.int)) → t.length = rs.flatten.length → (∀ r ∈ rs, ∀ j, j < r.length → at0 t (r.getD j 0) = some (r.getD ((j + 1) % r.length) 0)) → Q (.ref o) H'
theorem scFrom : FnScope ["rounds", "told", "ring"] ["rounds"] (defScope s_from_rounds) := ⟨rfl, rfl, rfl, by decide +kernel, rfl, by decide +kernel, by decide +kernel⟩
theorem ok_from {f : Addr} {fd : FuncData} (F : Fun K "from_rounds" "from_rounds" s_from_rounds f fd) (cF : Cal P w K mg base "are_filled_lists" 1 ["rounds"] spFilled) (cT : Cal P w K mg base "things_in" 1 ["rounds"] spThings) (cI : Cal P w K mg base "is_turn" 2 ["thing"] spIsTurn)
    (cS : Cal P w K mg base "send_along" 1 ["target", "ring", "steps"] spSend) : FnOk P w K mg base CX0 3 f fd ["rounds"] spFrom := by
  refine F.ok scFrom (fun vs H Q E h => ?_) (fun cdv A outer s H vs Q E hr h => ?_)
  · obtain ⟨l, as, rs, rfl, _⟩ := h
    rfl
  · obtain ⟨l, as, rs, rfl, hl, rows, hne, tf, lf, q⟩ := h
    have hr1 : Room 1 _ := hr.mono (by decide)
    refine ⟨_, pss_cons (ps_if (pt_not (pt_val (pe_cal cF hr1 (pa_cons (pv 0) pa_nil)))) (pss_one ps_never) pss_nil)
      (pss_cons (ps_set (i := 1) scFrom.nd rfl (Or.inl rfl) (pe_cal cT hr1 (pa_cons (pv 0) pa_nil)))
      (pss_cons (ps_if (pt_not (pt_val (pe_cal cI hr (pa_cons (pv 1) pa_nil)))) (pss_one ps_never) pss_nil)
      (pss_cons (ps_for PassesOwn.never rfl (pi_list (pv 0)) (pg_name (i := 2) scFrom.nd rfl (Or.inl rfl)) (pss_one (ps_expr (pe_cal cS hr1 (pa_cons (pv 1) (pa_cons (pv 2) (pa_cons pe_int pa_nil)))))))
      (pss_one (ps_ret (pv 1)))))), ?_⟩
    refine ⟨_, rfl, l, as, rs, rfl, hl, rows, hne, true, rfl, ?_⟩
    refine iteF ?_
    refine ⟨_, rfl, l, as, rs, rfl, hl, rows, by omega, fun o H1 ho s1 h1o => ?_⟩
    refine ⟨_, rfl, o, _, rfl, h1o, fun bb H2 s2 hbb => ⟨bb, rfl, ?_⟩⟩
    have : bb = true := hbb.mpr ⟨lf, tf⟩
    subst this
    refine iteF ?_
    have s02 := s1.trans s2
    have h2o := s2 o _ h1o
    have h2l := s02 l _ hl
    have rows2 : RowsH H2 as rs := rows_keep rows fun c _ u hu => s02 c u hu
    have nlo : l ≠ o := ne_of_none hl ho
    refine ⟨_, rfl, l, rfl, ⟨_, SqL.of h2l⟩, for_list (K := K) (a := l) (xs := as.map V.ref) (fun i σ H3 => ∃ (ts : List Int) (v : Option V), σ = [some (.ref l), some (.ref o), v] ∧ H3 o = some (.lst (ts.map V.int)) ∧ ts.length = rs.flatten.length ∧ (∀ r ∈ rs.take i, ∀ j, j < r.length → at0 ts (r.getD j 0) = some (r.getD ((j + 1) % r.length) 0)) ∧ KeepBut o H2 H3)
      ⟨_, none, rfl, h2o, rfl, fun r hr => by simp at hr, KeepBut.refl o H2⟩ (fun i σ H3 _ ⟨_, _, _, _, _, _, k⟩ => SqL.of (k l _ h2l nlo)) ?_ ?_⟩
    · rintro i y σ H3 hi ⟨ts, v, rfl, h3o, lts, hts, kb⟩
      rw [List.getElem?_map] at hi
      cases hA : as[i]? with
      | none => rw [hA] at hi; cases hi
      | some e =>
        rw [hA] at hi
        cases hi
        have hil : i < as.length := (List.getElem?_eq_some_iff.mp hA).1
        have hri : rs[i]? = some (rs[i]'(by rw [← rows.1]; exact hil)) := List.getElem?_eq_getElem _
        generalize hR : (rs[i]'(by rw [← rows.1]; exact hil)) = r at hri
        have neo : o ≠ e := fun z => by
          have := rows.2 i e r hA hri
          rw [← z, ho] at this; cases this
        have h3e := kb e _ (rows2.2 i e r hA hri) neo.symm
        have hrm : r ∈ rs := List.mem_of_getElem? hri
        have hsplit : rs.flatten = (rs.take i).flatten ++ (r ++ (rs.drop (i + 1)).flatten) := by
          conv => lhs; rw [← List.take_append_drop i rs, List.flatten_append]
          rw [List.drop_eq_getElem_cons (by rw [← rows.1]; exact hil), hR, List.flatten_cons]
        have nds := tf.nd
        rw [hsplit] at nds
        obtain ⟨nd1, nd2, nd3⟩ := List.nodup_append.mp nds
        obtain ⟨ndr, _, _⟩ := List.nodup_append.mp nd2
        refine ⟨_, rfl, _, rfl, o, e, ts, r, 1, rfl, h3o, h3e, neo, ndr, fun x hx => ?_, fun ts' H4 l4 hj hu h4o kb4 => ?_⟩
        · have hxf : x ∈ rs.flatten := List.mem_flatten.mpr ⟨r, hrm, hx⟩
          exact ⟨tf.lo x hxf, by rw [lts]; exact tf.hi x hxf⟩
        refine ⟨ts', _, rfl, h4o, by omega, fun r' hr' j hj' => ?_, kb.trans kb4⟩
        rw [take_succ_of hri] at hr'
        rcases List.mem_append.mp hr' with g | g
        · have hx : r'.getD j 0 ∈ (rs.take i).flatten := by
            rw [getD_eq hj'] 
            exact List.mem_flatten.mpr ⟨r', g, List.getElem_mem hj'⟩
          have hxn : r'.getD j 0 ∉ r := fun z => nd3 _ hx _ (List.mem_append_left _ z) rfl
          have hx0 : 0 ≤ r'.getD j 0 := tf.lo _ (by rw [hsplit]; exact List.mem_append_left _ hx)
          rw [hu _ hx0 hxn]
          exact hts r' g j hj'
        · have : r' = r := by simpa using g
          subst this
          have h1 := hj j hj'
          have e1 : (((j : Int) + 1) % (r'.length : Int)).toNat = (j + 1) % r'.length := by
            have : ((j : Int) + 1) = ((j + 1 : Nat) : Int) := by omega
            rw [this, ← Int.natCast_emod, Int.toNat_natCast]
          rw [e1] at h1
          exact h1
    · rintro σ H3 ⟨ts, v, rfl, h3o, lts, hts, kb⟩
      rw [List.length_map, rows.1, List.take_length] at hts
      exact ⟨_, rfl, q o ts H3 ho (fun b u hb => kb b u (s02 b u hb) (ne_of_none hb ho)) h3o lts hts⟩
end
end My
namespace My
open PySem L2 Mth
section
variable {P : Program} {w : World} {K : PySem.W.Frag} {mg : Str → Option Value} {base : Heap}
def spCell (K : PySem.W.Frag) : Sp := fun vs H Q _ => ∃ (a : Addr) (ns : List Int) (k : Int), vs = [.ref a, .int k] ∧ SqL K H a (ns.map V.int) ∧ 0 ≤ k ∧ ∀ z : Int, Q (.int z) H
theorem sc_law_cell_at : FnScope ["script", "k"] ["script", "k"] (defScope s_law_cell_at) := ⟨rfl, rfl, rfl, by decide +kernel, rfl, by decide +kernel, by decide +kernel⟩
theorem ok_law_cell_at {f : Addr} {fd : FuncData} (F : Fun K "_law_cell_at" "_law_cell_at" s_law_cell_at f fd) (B : Bl mg) : FnOk P w K mg base CX0 1 f fd ["script", "k"] (spCell K) := by
  refine F.ok sc_law_cell_at (fun vs H Q E h => ?_) (fun cdv A outer s H vs Q E hr h => ?_)
  · obtain ⟨a, ns, k, rfl, ha, k0, q⟩ := h
    rfl
  · obtain ⟨a, ns, k, rfl, ha, k0, q⟩ := h
    refine ⟨_, @pss_cons _ _ _ _ _ (@ps_if _ _ _ _ _ _ _ _ (@pt_cmpR _ _ _ _ _ _ _ _ op_lt (pv 1) (@pe_lenL _ _ _ _ _ B.len (@pa_cons _ _ _ _ _ (pv 0) (@pa_nil _) (by rfl)) (by rfl) (by rfl)) (nomark _)) (@pss_one _ _ _ (@ps_ret _ _ _ _ (@pe_ix _ _ _ _ _ _ _ ix_list (pv 0) (pv 1) (fun _ _ => rfl)))) (@pss_nil _)) (@pss_one _ _ _ (@ps_ret _ _ _ _ (@pe_int _ _ _ _))), ?_⟩
    refine ⟨_, rfl, _, rfl, a, _, rfl, .inl ha, _, _, rfl, rfl, _, rfl, ?_⟩
    rw [List.length_map]
    refine ite2 (fun h => ?_) (fun h => q 0)
    have h : k < (ns.length : Int) := of_decide_eq_true h
    exact ⟨_, rfl, _, rfl, a, _, k, _, rfl, rfl, ha, atI_map k0 h, q _⟩
def DeckAt (H : Hp) (a : Addr) : Prop := ∃ ds : List Int, H a = some (.lst (ds.map V.int)) ∧ (∀ x ∈ ds, 0 ≤ x) ∧ ds.length ≤ 1000
theorem DeckAt.some {H : Hp} {a : Addr} (h : DeckAt H a) : ∃ o, H a = some o := let ⟨_, e, _⟩ := h; ⟨_, e⟩
theorem DeckAt.same {H H' : Hp} {a : Addr} (h : DeckAt H a) (s : Same H H') : DeckAt H' a := let ⟨ds, e, r⟩ := h; ⟨ds, s _ _ e, r⟩
theorem DeckAt.upd {H : Hp} {a b : Addr} {o : HO} (h : DeckAt H a) (n : a ≠ b) : DeckAt (L2.upd H b o) a := let ⟨ds, e, r⟩ := h; ⟨ds, by rw [upd_ne n]; exact e, r⟩
theorem DeckAt.ne {H : Hp} {a b : Addr} (h : DeckAt H a) (n : H b = none) : b ≠ a := fun z => by obtain ⟨o, e⟩ := h.some; rw [← z, n] at e; cases e
def spNumbers : Sp := fun vs H Q _ => ∃ (z : Int) (n : Nat), vs = [.int z, .int (n : Int)] ∧ n ≤ 900 ∧ ∀ (l : Addr) (H' : Hp), H l = none → Same H H' → DeckAt H' l → Q (.ref l) H'
theorem sc_law_numbers : FnScope ["cell", "many", "found", "rest", "stir", "k", "again"] ["cell", "many"] (defScope s_law_numbers) := ⟨rfl, rfl, rfl, by decide +kernel, rfl, by decide +kernel, by decide +kernel⟩
theorem ok_law_numbers {f : Addr} {fd : FuncData} (F : Fun K "_law_numbers" "_law_numbers" s_law_numbers f fd) (B : Bl mg) : FnOk P w K mg base CX0 1 f fd ["cell", "many"] spNumbers := by
  refine F.ok sc_law_numbers (fun vs H Q E h => ?_) (fun cdv A outer s H vs Q E hr h => ?_)
  · obtain ⟨z, n, rfl, hn, q⟩ := h
    rfl
  · obtain ⟨z, n, rfl, hn, q⟩ := h
    refine ⟨_, @pss_cons _ _ _ _ _ (@ps_set _ _ (2) _ _ _ _ sc_law_numbers.nd rfl (Or.inl rfl) (@pe_lst _ _ _ _ (@pa_nil _)) (by rfl) (by first | exact .inl rfl | exact .inr rfl | assumption)) (@pss_cons _ _ _ _ _ (@ps_set _ _ (3) _ _ _ _ sc_law_numbers.nd rfl (Or.inl rfl) (pv 0) (by rfl) (by first | exact .inl rfl | exact .inr rfl | assumption)) (@pss_cons _ _ _ _ _ (@ps_set _ _ (4) _ _ _ _ sc_law_numbers.nd rfl (Or.inl rfl) (@pe_op _ _ _ _ _ _ _ _ op_mod (pv 0) (@pe_int _ _ _ _)) (by rfl) (by first | exact .inl rfl | exact .inr rfl | assumption)) (@pss_cons _ _ _ _ _ (@ps_for _ _ _ _ _ _ _ _ PassesOwn.never rfl (@pi_range1 _ _ _ _ _ _ (by rfl) B.range (@pa_cons _ _ _ _ _ (pv 1) (@pa_nil _) (by rfl)) (by rfl)) (@pg_name _ _ (5) _ sc_law_numbers.nd rfl (Or.inl rfl) (by first | exact .inl rfl | exact .inr rfl | assumption)) (@pss_one _ _ _ (@ps_if _ _ _ _ _ _ _ _ (@pw_and _ _ _ _ _ _ _ (@pt_cmpR _ _ _ _ _ _ _ _ op_ge (pv 0) (@pe_op _ _ _ _ _ _ _ _ op_pow (@pe_int _ _ _ _) (@pe_int _ _ _ _)) (nomark _)) (@pw_and1 _ _ _ _ (@pt_cmpR _ _ _ _ _ _ _ _ op_gt (pv 3) (@pe_int _ _ _ _) (nomark _)))).pt (@pss_cons _ _ _ _ _ (@ps_expr _ _ _ _ (@pe_append _ _ _ _ _ _ _ (pv 2) (@pa_cons _ _ _ _ _ (@pe_op _ _ _ _ _ _ _ _ op_mod (pv 3) (@pe_int _ _ _ _)) (@pa_nil _) (by rfl)) (by rfl) (by rfl) (by rfl) (by rfl) (by rfl)) (by rfl)) (@pss_one _ _ _ (@ps_set _ _ (3) _ _ _ _ sc_law_numbers.nd rfl (Or.inl rfl) (@pe_op _ _ _ _ _ _ _ _ op_fdivB (pv 3) (@pe_int _ _ _ _)) (by rfl) (by first | exact .inl rfl | exact .inr rfl | assumption)))) (@pss_cons _ _ _ _ _ (@ps_set _ _ (4) _ _ _ _ sc_law_numbers.nd rfl (Or.inl rfl) (@pe_op _ _ _ _ _ _ _ _ op_mod (@pe_op _ _ _ _ _ _ _ _ op_mul (@pe_op _ _ _ _ _ _ _ _ op_add (@pe_op _ _ _ _ _ _ _ _ op_add (pv 4) (@pe_op _ _ _ _ _ _ _ _ op_mul (@pe_int _ _ _ _) (pv 5))) (@pe_int _ _ _ _)) (@pe_int _ _ _ _)) (@pe_int _ _ _ _)) (by rfl) (by first | exact .inl rfl | exact .inr rfl | assumption)) (@pss_cons _ _ _ _ _ (@ps_set _ _ (6) _ _ _ _ sc_law_numbers.nd rfl (Or.inl rfl) (@pe_op _ _ _ _ _ _ _ _ op_mod (@pe_op _ _ _ _ _ _ _ _ op_mul (@pe_op _ _ _ _ _ _ _ _ op_mod (@pe_op _ _ _ _ _ _ _ _ op_mul (pv 4) (pv 4)) (@pe_int _ _ _ _)) (@pe_int _ _ _ _)) (@pe_int _ _ _ _)) (by rfl) (by first | exact .inl rfl | exact .inr rfl | assumption)) (@pss_one _ _ _ (@ps_expr _ _ _ _ (@pe_append _ _ _ _ _ _ _ (pv 2) (@pa_cons _ _ _ _ _ (@pe_op _ _ _ _ _ _ _ _ op_mod (@pe_op _ _ _ _ _ _ _ _ op_fdivB (pv 6) (@pe_int _ _ _ _)) (@pe_int _ _ _ _)) (@pa_nil _) (by rfl)) (by rfl) (by rfl) (by rfl) (by rfl) (by rfl)) (by rfl))))))) (by intro _; rfl)) (@pss_one _ _ _ (@ps_ret _ _ _ _ (pv 2)))))), ?_⟩
    refine ⟨Nat.zero_le _, fun l hl => ?_⟩
    have s1 : Same H (upd H l (.lst [])) := Same.upd_new hl
    have h1l : (upd H l (.lst [])) l = some (.lst []) := upd_same
    generalize (upd H l (.lst [])) = H1 at s1 h1l ⊢
    refine ⟨_, rfl, ?_⟩
    refine ⟨_, rfl, _, _, rfl, rfl, (by show (0 : Int) < 2147483647; decide), ?_⟩
    refine ⟨_, rfl, (n : Int), rfl, by omega, by omega, for_range (lo := 0) (n := ((n : Nat) : Int).toNat) (fun i σ H2 => ∃ (ds : List Int) (re st : Int) (v5 v6 : Option V), σ = [some (.int z), some (.int (n : Int)), some (.ref l), some (.int re), some (.int st), v5, v6] ∧ 0 ≤ st ∧ st < 2147483647 ∧ H2 l = some (.lst (ds.map V.int)) ∧ ds.length = i ∧ (∀ x ∈ ds, 0 ≤ x) ∧ Same H H2)
      ⟨[], z, _, none, none, rfl, Int.emod_nonneg _ (by decide), Int.emod_lt_of_pos _ (by decide), h1l, rfl, (fun x hx => by cases hx), s1⟩ ?_ ?_⟩
    · rintro i σ H2 hi ⟨ds, re, st, v5, v6, rfl, st0, st1, h2l, lds, pos, s2⟩
      have cp : CPow 10 18 := ⟨by decide, by decide, by decide⟩
      have e64 : (2 : Int) ^ 64 = 18446744073709551616 := by decide
      have put : ∀ x : Int, 0 ≤ x → (∀ y ∈ ds ++ [x], 0 ≤ y) := fun x x0 y hy => by
        rcases List.mem_append.mp hy with k | k
        · exact pos y k
        · rw [List.mem_singleton.mp k]; exact x0
      have sl : Same H (upd H2 l (.lst (ds.map V.int))) := fun b o hb => by rw [upd_ne (ne_of_none hb hl)]; exact s2 b o hb
      have kee : ∀ o : HO, Same H (upd H2 l o) := fun o b u hb => by rw [upd_ne (ne_of_none hb hl)]; exact s2 b u hb
      have ls : (ds.map V.int).length < sizeLine := small1000 (by rw [List.length_map]; omega)
      refine ⟨_, rfl, _, _, rfl, rfl, cp, _, _, rfl, rfl, _, rfl, ?_⟩
      refine ite2 (fun _ => ⟨_, rfl, _, _, rfl, rfl, _, rfl, ite2 (fun _ => ?_) (fun _ => ?_)⟩) (fun _ => ?_)
      · refine ⟨_, rfl, .inl ⟨rfl, _, SqL.of h2l⟩, _, rfl, _, _, rfl, rfl, (by show (0 : Int) < 64; decide), l, _, _, rfl, rfl, h2l, ls, ?_⟩
        refine ⟨_, rfl, _, _, rfl, rfl, ⟨by decide, by decide⟩, ?_⟩
        exact ⟨ds ++ [re % 64], _, st, _, _, rfl, st0, st1, by rw [upd_same, List.map_append]; rfl, by rw [List.length_append, lds]; rfl, put _ (Int.emod_nonneg _ (by decide)), kee _⟩
      all_goals
        refine ⟨_, rfl, _, rfl, _, _, rfl, rfl, .inl ⟨by decide, by decide⟩, _, _, rfl, rfl, _, _, rfl, rfl, _, _, rfl, rfl, .inr ⟨by decide, by decide⟩, _, _, rfl, rfl, (by show (0 : Int) < 2147483647; decide), ?_⟩
        have n0 := Int.emod_nonneg ((st + 7 * (0 + (i : Int)) + 3) * 48271) (show (2147483647 : Int) ≠ 0 by decide)
        have n1 := Int.emod_lt_of_pos ((st + 7 * (0 + (i : Int)) + 3) * 48271) (show (0 : Int) < 2147483647 by decide)
        refine ⟨_, rfl, _, rfl, _, _, rfl, rfl, .inl ⟨by rw [e64]; omega, by rw [e64]; omega⟩, _, _, rfl, rfl, (by show (0 : Int) < 2147483629; decide), _, _, rfl, rfl, .inr ⟨by decide, by decide⟩, _, _, rfl, rfl, (by show (0 : Int) < 2147483587; decide), ?_⟩
        refine ⟨_, rfl, .inl ⟨rfl, _, SqL.of h2l⟩, _, rfl, _, _, rfl, rfl, ⟨by decide, by decide⟩, _, _, rfl, rfl, (by show (0 : Int) < 720720; decide), l, _, _, rfl, rfl, h2l, ls, ?_⟩
        exact ⟨ds ++ [_], _, _, _, _, rfl, n0, n1, by rw [upd_same, List.map_append]; rfl, by rw [List.length_append, lds]; rfl, put _ (Int.emod_nonneg _ (by decide)), kee _⟩
    · rintro σ H2 ⟨ds, re, st, v5, v6, rfl, st0, st1, h2l, lds, pos, s2⟩
      exact ⟨_, rfl, q l H2 hl s2 ⟨ds, h2l, pos, by omega⟩⟩
theorem sc_law_deck : FnScope ["cell", "many"] ["cell", "many"] (defScope s_law_deck) := ⟨rfl, rfl, rfl, by decide +kernel, rfl, by decide +kernel, by decide +kernel⟩
theorem ok_law_deck {f : Addr} {fd : FuncData} (F : Fun K "_law_deck" "_law_deck" s_law_deck f fd) (c_law_numbers : Cal P w K mg base "_law_numbers" 1 ["cell", "many"] spNumbers) : FnOk P w K mg base CX0 2 f fd ["cell", "many"] spNumbers := by
  refine F.ok sc_law_deck (fun vs H Q E h => ?_) (fun cdv A outer s H vs Q E hr h => ?_)
  · obtain ⟨z, n, rfl, hn, q⟩ := h
    rfl
  · obtain ⟨z, n, rfl, hn, q⟩ := h
    have hr_law_numbers : Room 1 _ := hr.mono (by decide)
    refine ⟨_, @pss_one _ _ _ (@ps_ret _ _ _ _ (@pe_rev _ _ _ _ _ _ _ (@pe_cal _ _ _ _ _ _ _ _ _ _ c_law_numbers hr_law_numbers (@pa_cons _ _ _ _ _ (pv 0) (@pa_cons _ _ _ _ _ (pv 1) (@pa_nil _) (by rfl)) (by rfl)) (by rfl) (by decide) (by rfl) (by rfl)) (@po_some _ _ _ (@pe_un _ _ _ _ _ _ un_neg (@pe_int _ _ _ _))))), ?_⟩
    refine ⟨_, rfl, _, rfl, z, n, rfl, hn, fun l H2 hl s2 ⟨ds, h2l, pos, ld⟩ => ?_⟩
    refine ⟨_, rfl, _, rfl, rfl, l, _, rfl, SqL.of h2l, fun o ho => ?_⟩
    exact q o _ (s2.free ho) (s2.upd_r (s2.free ho)) ⟨ds.reverse, by rw [upd_same, List.map_reverse], fun x hx => pos x (List.mem_reverse.mp hx), by rw [List.length_reverse]; omega⟩
def spTake : Sp := fun vs H Q _ => ∃ (a : Addr) (m : Int), vs = [.ref a, .int m] ∧ DeckAt H a ∧ 0 < m ∧ ∀ (r : Int) (H' : Hp), 0 ≤ r → r < m → DeckAt H' a → KeepBut a H H' → Q (.int r) H'
theorem sc_law_take : FnScope ["deck", "many"] ["deck", "many"] (defScope s_law_take) := ⟨rfl, rfl, rfl, by decide +kernel, rfl, by decide +kernel, by decide +kernel⟩
theorem ok_law_take {f : Addr} {fd : FuncData} (F : Fun K "_law_take" "_law_take" s_law_take f fd) : FnOk P w K mg base CX0 1 f fd ["deck", "many"] spTake := by
  refine F.ok sc_law_take (fun vs H Q E h => ?_) (fun cdv A outer s H vs Q E hr h => ?_)
  · obtain ⟨a, m, rfl, ⟨ds, ha, pos, len⟩, m0, q⟩ := h
    rfl
  · obtain ⟨a, m, rfl, ⟨ds, ha, pos, len⟩, m0, q⟩ := h
    have hu := hu_of hr
    refine ⟨_, @pss_cons _ _ _ _ _ (@ps_if _ _ _ _ _ _ _ _ (@pt_cmpR _ _ _ _ _ _ _ _ (op_eqL 0 hu) (pv 0) (@pe_lst _ _ _ _ (@pa_nil _)) (nomark _)) (@pss_one _ _ _ (@ps_ret _ _ _ _ (@pe_int _ _ _ _))) (@pss_nil _)) (@pss_one _ _ _ (@ps_ret _ _ _ _ (@pe_op _ _ _ _ _ _ _ _ op_mod (@pe_pop _ _ _ _ _ (pv 0) (by rfl) (by rfl)) (pv 1)))), ?_⟩
    refine ⟨_, rfl, Nat.zero_le _, fun e he => ?_⟩
    have nae : a ≠ e := ne_of_none ha he
    have h1a : (upd H e (.lst [])) a = some (.lst (ds.map V.int)) := by rw [upd_ne nae]; exact ha
    have kb : KeepBut a H (upd H e (.lst [])) := fun b o hb _ => by rw [upd_ne (ne_of_none hb he)]; exact hb
    refine ⟨a, e, ds.map V.int, [], _, rfl, rfl, SqL.of h1a, SqL.of upd_same, leq_nil _ _ _ _, _, rfl, ?_⟩
    generalize (upd H e (.lst [])) = H1 at h1a kb ⊢
    cases ds with
    | nil => exact iteT (q 0 H1 (by decide) m0 ⟨[], h1a, pos, len⟩ kb)
    | cons x xs =>
      refine iteF ?_
      have hl : (x :: xs).length - 1 < (x :: xs).length := by simp
      have hg : ((x :: xs).map V.int)[((x :: xs).map V.int).length - 1]? = some (.int (x :: xs)[(x :: xs).length - 1]) := by
        rw [List.length_map, List.getElem?_map, List.getElem?_eq_getElem hl]; rfl
      refine ⟨_, rfl, .inl ⟨rfl, _, SqL.of h1a⟩, a, _, _, rfl, rfl, h1a, hg, _, rfl, _, _, rfl, rfl, m0, ?_⟩
      refine q _ _ (Int.emod_nonneg _ (by omega)) (Int.emod_lt_of_pos _ m0) ⟨(x :: xs).dropLast, by rw [upd_same, List.map_dropLast], fun y hy => pos y ((List.dropLast_sublist _).mem hy), by rw [List.length_dropLast]; omega⟩ fun b o hb hn => by rw [upd_ne hn]; exact kb b o hb hn
end
end My
namespace My
open PySem L2 Mth
section
variable {P : Program} {w : World} {K : PySem.W.Frag} {mg : Str → Option Value} {base : Heap}
theorem erase_map : ∀ {l : List Int} {k : Nat}, (l.map V.int).eraseIdx k = (l.eraseIdx k).map V.int
  | [], k => by simp
  | a :: l, 0 => by simp
  | a :: l, k + 1 => by simp [erase_map (l := l) (k := k)]
theorem sum_nonneg : ∀ {l : List Int}, (∀ x ∈ l, 0 ≤ x) → 0 ≤ l.sum
  | [], _ => by simp
  | a :: l, h => by
    have := sum_nonneg fun y hy => h y (List.mem_cons_of_mem _ hy)
    have := h a List.mem_cons_self
    rw [List.sum_cons]; omega
def spTurn5 : Sp := fun vs H Q _ => ∃ (g : Addr) (n : Nat), vs = [.ref g, .int (n : Int)] ∧ DeckAt H g ∧ n ≤ 40 ∧ ∀ (l : Addr) (p : List Int) (H' : Hp), H l = none → IsT p → p.length ≤ 40 → H' l = some (.lst (p.map V.int)) → DeckAt H' g → KeepBut g H H' → Q (.ref l) H'
theorem sc_law_turn : FnScope ["deck", "most", "lengths", "size", "length", "turn", "left", "found", "one", "k"] ["deck", "most"] (defScope s_law_turn) := ⟨rfl, rfl, rfl, by decide +kernel, rfl, by decide +kernel, by decide +kernel⟩
theorem nd_k_left_deck_law_turn : (["k", "left", "deck"] : List Str).Nodup := by decide +kernel
theorem ok_law_turn {f : Addr} {fd : FuncData} (F : Fun K "_law_turn" "_law_turn" s_law_turn f fd) (B : Bl mg) (c_law_take : Cal P w K mg base "_law_take" 1 ["deck", "many"] spTake) : FnOk P w K mg base CX0 2 f fd ["deck", "most"] spTurn5 := by
  refine F.ok sc_law_turn (fun vs H Q E h => ?_) (fun cdv A outer s H vs Q E hr h => ?_)
  · obtain ⟨g, n, rfl, hg, hn, q⟩ := h
    rfl
  · obtain ⟨g, n, rfl, hg, hn, q⟩ := h
    have hr_law_take : Room 1 _ := hr.mono (by decide)
    refine ⟨_, @pss_cons _ _ _ _ _ (@ps_set _ _ (2) _ _ _ _ sc_law_turn.nd rfl (Or.inl rfl) (@pe_lst _ _ _ _ (@pa_nil _)) (by rfl) (by first | exact .inl rfl | exact .inr rfl | assumption)) (@pss_cons _ _ _ _ _ (@ps_set _ _ (3) _ _ _ _ sc_law_turn.nd rfl (Or.inl rfl) (@pe_cal _ _ _ _ _ _ _ _ _ _ c_law_take hr_law_take (@pa_cons _ _ _ _ _ (pv 0) (@pa_cons _ _ _ _ _ (@pe_op _ _ _ _ _ _ _ _ op_add (pv 1) (@pe_int _ _ _ _)) (@pa_nil _) (by rfl)) (by rfl)) (by rfl) (by decide) (by rfl) (by rfl)) (by rfl) (by first | exact .inl rfl | exact .inr rfl | assumption)) (@pss_cons _ _ _ _ _ (@ps_while _ _ _ _ _ _ PassesOwn.never (@pt_cmpR _ _ _ _ _ _ _ _ op_lt (@pe_sum _ _ _ _ _ rfl B.sum (@pa_cons _ _ _ _ _ (pv 2) (@pa_nil _) (by rfl)) (by rfl) (by rfl)) (pv 3) (nomark _)) (@pss_cons _ _ _ _ _ (@ps_set _ _ (4) _ _ _ _ sc_law_turn.nd rfl (Or.inl rfl) (@pe_op _ _ _ _ _ _ _ _ op_add (@pe_int _ _ _ _) (@pe_cal _ _ _ _ _ _ _ _ _ _ c_law_take hr_law_take (@pa_cons _ _ _ _ _ (pv 0) (@pa_cons _ _ _ _ _ (@pe_ix _ _ _ _ _ _ _ ix_list (@pe_litsO _ _ _ [3, 6, 2, 41] rfl) (@pe_cal _ _ _ _ _ _ _ _ _ _ c_law_take hr_law_take (@pa_cons _ _ _ _ _ (pv 0) (@pa_cons _ _ _ _ _ (@pe_int _ _ _ _) (@pa_nil _) (by rfl)) (by rfl)) (by rfl) (by decide) (by rfl) (by rfl)) (fun _ _ => rfl)) (@pa_nil _) (by rfl)) (by rfl)) (by rfl) (by decide) (by rfl) (by rfl))) (by rfl) (by first | exact .inl rfl | exact .inr rfl | assumption)) (@pss_one _ _ _ (@ps_for _ _ _ _ _ _ _ _ PassesOwn.never rfl (@pi_range1 _ _ _ _ _ _ (by rfl) B.range (@pa_cons _ _ _ _ _ (@pe_ix _ _ _ _ _ _ _ ix_list (@pe_litsO _ _ _ [1, 2, 3, 1] rfl) (@pe_cal _ _ _ _ _ _ _ _ _ _ c_law_take hr_law_take (@pa_cons _ _ _ _ _ (pv 0) (@pa_cons _ _ _ _ _ (@pe_int _ _ _ _) (@pa_nil _) (by rfl)) (by rfl)) (by rfl) (by decide) (by rfl) (by rfl)) (fun _ _ => rfl)) (@pa_nil _) (by rfl)) (by rfl)) (@pg_name _ _ (5) _ sc_law_turn.nd rfl (Or.inl rfl) (by first | exact .inl rfl | exact .inr rfl | assumption)) (@pss_one _ _ _ (@ps_expr _ _ _ _ (@pe_append _ _ _ _ _ _ _ (pv 2) (@pa_cons _ _ _ _ _ (@pe_min2 _ _ _ _ _ _ rfl B.min (@pa_cons _ _ _ _ _ (pv 4) (@pa_cons _ _ _ _ _ (@pe_op _ _ _ _ _ _ _ _ op_sub (pv 3) (@pe_sum _ _ _ _ _ rfl B.sum (@pa_cons _ _ _ _ _ (pv 2) (@pa_nil _) (by rfl)) (by rfl) (by rfl))) (@pa_nil _) (by rfl)) (by rfl)) (by rfl) (by rfl) (by rfl)) (@pa_nil _) (by rfl)) (by rfl) (by rfl) (by rfl) (by rfl) (by rfl)) (by rfl))) (by intro _; rfl))))) (@pss_cons _ _ _ _ _ (@ps_set _ _ (6) _ _ _ _ sc_law_turn.nd rfl (Or.inr rfl) (@pe_listRng _ _ _ _ _ _ _ rfl B.list B.range (@pa_cons _ _ _ _ _ (pv 3) (@pa_nil _) (by rfl)) (by rfl) (by rfl) (by rfl) (by rfl)) (by rfl) (by first | exact .inl rfl | exact .inr rfl | assumption)) (@pss_cons _ _ _ _ _ (@ps_set _ _ (7) _ _ _ _ sc_law_turn.nd rfl (Or.inl rfl) (@pe_op _ _ _ _ _ _ _ _ op_rep (@pe_lst _ _ _ _ (@pa_cons _ _ _ _ _ (@pe_int _ _ _ _) (@pa_nil _) (by rfl))) (pv 3)) (by rfl) (by first | exact .inl rfl | exact .inr rfl | assumption)) (@pss_cons _ _ _ _ _ (@ps_for _ _ _ _ _ _ _ _ PassesOwn.never rfl (@pi_list _ _ _ _ (pv 2)) (@pg_name _ _ (4) _ sc_law_turn.nd rfl (Or.inl rfl) (by first | exact .inl rfl | exact .inr rfl | assumption)) (@pss_cons _ _ _ _ _ (@ps_setC _ (8) _ _ _ _ _ _ _ _ _ _ _ _ _ (["k", "left", "deck"]) (1) ([6, 0]) sc_law_turn.nd rfl (Or.inl rfl) rfl .of (@pi_range1 _ _ _ _ _ _ (by rfl) B.range (@pa_cons _ _ _ _ _ (pv 4) (@pa_nil _) (by rfl)) (by rfl)) (fun _ _ _ _ _ => @pg_name _ _ (0) _ nd_k_left_deck_law_turn rfl (Or.inl rfl) (by first | exact .inl rfl | exact .inr rfl | assumption)) (fun _ _ _ _ _ => (@pifs_nil _)) (fun _ _ _ _ _ => (@pe_popAtK _ K _ _ _ _ _ _ (pv 1) (@pa_cons _ _ _ _ _ (@pe_cal _ _ _ _ _ _ _ _ _ _ c_law_take hr_law_take (@pa_cons _ _ _ _ _ (pv 2) (@pa_cons _ _ _ _ _ (@pe_lenLK _ _ _ _ _ K B.len (@pa_cons _ _ _ _ _ (pv 1) (@pa_nil _) (by rfl)) (by rfl) (by rfl) (by rfl)) (@pa_nil _) (by rfl)) (by rfl)) (by rfl) (by decide) (by rfl) (by rfl)) (@pa_nil _) (by rfl)) (by rfl) (by rfl) (by rfl) (by rfl) (by rfl) (by rfl))) (by rfl) (by intro _; rfl) (by first | exact .inl rfl | exact .inr rfl | assumption)) (@pss_one _ _ _ (@ps_for _ _ _ _ _ _ _ _ PassesOwn.never rfl (@pi_range1 _ _ _ _ _ _ (by rfl) B.range (@pa_cons _ _ _ _ _ (pv 4) (@pa_nil _) (by rfl)) (by rfl)) (@pg_name _ _ (9) _ sc_law_turn.nd rfl (Or.inl rfl) (by first | exact .inl rfl | exact .inr rfl | assumption)) (@pss_one _ _ _ (@ps_asg _ _ _ _ _ _ (@pe_ix _ _ _ _ _ _ _ ix_list (pv 8) (pv 9) (fun _ _ => rfl)) (@pg_sub _ _ _ _ _ _ _ (pv 7) (@pe_ix _ _ _ _ _ _ _ ix_list (pv 8) (@pe_op _ _ _ _ _ _ _ _ op_sub (pv 9) (@pe_int _ _ _ _)) (fun _ _ => rfl)) set_list (by intro _; rfl)) (by rfl) (by rfl) (by rfl))) (by intro _; rfl)))) (by intro _; rfl)) (@pss_one _ _ _ (@ps_ret _ _ _ _ (pv 7)))))))), ?_⟩
    refine ⟨Nat.zero_le _, fun L hL => ?_⟩
    obtain ⟨H1, e1⟩ : ∃ Hn, Hn = upd H L (.lst []) := ⟨_, rfl⟩
    have s1 : Same H H1 := e1 ▸ Same.upd_new hL
    have h1L : H1 L = some (.lst (([] : List Int).map V.int)) := by rw [e1, upd_same]; rfl
    rw [← e1]
    have nLg : L ≠ g := hg.ne hL
    refine ⟨_, rfl, _, rfl, _, _, rfl, rfl, g, (n : Int) + 1, rfl, hg.same s1, by omega, fun sz H2 sz0 sz1 D2 kb2 => ?_⟩
    obtain ⟨s, rfl⟩ := Int.eq_ofNat_of_zero_le sz0
    have hs40 : s ≤ 40 := by omega
    have kb02 : KeepBut g H H2 := (s1.but g).trans kb2
    have h2L := kb2 _ _ h1L nLg
    refine ⟨fun mm σ H3 => ∃ (ls : List Int) (v4 v5 : Option V), σ = [some (.ref g), some (.int (n : Int)), some (.ref L), some (.int (s : Int)), v4, v5, none, none, none, none] ∧ H3 L = some (.lst (ls.map V.int)) ∧ (∀ x ∈ ls, 0 ≤ x) ∧ ls.sum ≤ (s : Int) ∧ (ls.length : Int) ≤ 3 * ls.sum ∧ DeckAt H3 g ∧ KeepBut g H H3 ∧ mm = ((s : Int) - ls.sum).toNat,
      ⟨_, [], none, none, rfl, h2L, (fun x hx => by cases hx), by simp, by simp, D2, kb02, rfl⟩, ?_⟩
    rintro mm σ H3 ⟨ls, v4, v5, rfl, h3L, lpos, lsum, llen, D3, kb3, rfl⟩
    refine ⟨_, rfl, L, ls, rfl, SqL.of h3L, _, rfl, _, _, rfl, rfl, _, rfl, ?_⟩
    refine ite2 (fun hlt => ?_) (fun hge => ?_)
    · have hlt : ls.sum < (s : Int) := of_decide_eq_true hlt
      refine ⟨fun σ' H' => ∃ m', m' < ((s : Int) - ls.sum).toNat ∧ _, fun _ _ h => h, ?_⟩
      refine ⟨_, rfl, (show 4 ≤ sizeLine by decide), fun e he => ?_⟩
      have nge : g ≠ e := (D3.ne he).symm
      refine ⟨_, rfl, g, 4, rfl, D3.upd nge, by decide, fun x1 H4 x10 x11 D4 kb4 => ?_⟩
      have h4e := kb4 e _ upd_same nge.symm
      obtain ⟨av, hat, av1⟩ : ∃ av, atI [V.int 3, V.int 6, V.int 2, V.int 41] x1 = some (.int av) ∧ 1 ≤ av := by
        have : x1 = 0 ∨ x1 = 1 ∨ x1 = 2 ∨ x1 = 3 := by omega
        rcases this with rfl | rfl | rfl | rfl
        · exact ⟨3, atI_nat (j := 0) rfl, by decide⟩
        · exact ⟨6, atI_nat (j := 1) rfl, by decide⟩
        · exact ⟨2, atI_nat (j := 2) rfl, by decide⟩
        · exact ⟨41, atI_nat (j := 3) rfl, by decide⟩
      have kb34 : KeepBut g H3 H4 := ((Same.upd_new he).but g).trans kb4
      have h4L := kb34 _ _ h3L nLg
      refine ⟨e, _, _, _, rfl, rfl, SqL.of h4e, hat, g, av, rfl, D4, by omega, fun x2 H5 x20 x21 D5 kb5 => ⟨_, _, rfl, rfl, ?_⟩⟩
      have h5L := kb5 _ _ h4L nLg
      have kb35 := kb34.trans kb5
      refine ⟨(show 4 ≤ sizeLine by decide), fun e2 he2 => ?_⟩
      have nge2 : g ≠ e2 := (D5.ne he2).symm
      refine ⟨_, rfl, g, 4, rfl, D5.upd nge2, by decide, fun x3 H6 x30 x31 D6 kb6 => ?_⟩
      have h6e := kb6 e2 _ upd_same nge2.symm
      obtain ⟨c, hat2, c1, c3⟩ : ∃ c : Nat, atI [V.int 1, V.int 2, V.int 3, V.int 1] x3 = some (.int (c : Int)) ∧ 1 ≤ c ∧ c ≤ 3 := by
        have : x3 = 0 ∨ x3 = 1 ∨ x3 = 2 ∨ x3 = 3 := by omega
        rcases this with rfl | rfl | rfl | rfl
        · exact ⟨1, atI_nat (j := 0) rfl, by decide, by decide⟩
        · exact ⟨2, atI_nat (j := 1) rfl, by decide, by decide⟩
        · exact ⟨3, atI_nat (j := 2) rfl, by decide, by decide⟩
        · exact ⟨1, atI_nat (j := 3) rfl, by decide, by decide⟩
      have kb36 : KeepBut g H3 H6 := (kb35.trans ((Same.upd_new he2).but g)).trans kb6
      have h6L := kb36 _ _ h3L nLg
      refine ⟨e2, _, _, _, rfl, rfl, SqL.of h6e, hat2, (c : Int), rfl, by omega, by omega, for_range (lo := 0) (n := ((c : Nat) : Int).toNat) (fun j σ H7 => ∃ (ks : List Int) (v5 : Option V), σ = [some (.ref g), some (.int (n : Int)), some (.ref L), some (.int (s : Int)), some (.int (1 + x2)), v5, none, none, none, none] ∧ H7 L = some (.lst (ks.map V.int)) ∧ (∀ x ∈ ks, 0 ≤ x) ∧ ks.sum ≤ (s : Int) ∧ ks.length = ls.length + j ∧ ls.sum ≤ ks.sum ∧ (0 < j → ls.sum < ks.sum) ∧ DeckAt H7 g ∧ KeepBut g H H7)
        ⟨ls, _, rfl, h6L, lpos, lsum, rfl, Int.le_refl _, fun h => absurd h (by omega), D6, kb3.trans kb36⟩ ?_ ?_⟩
      · rintro j σ H7 hj ⟨ks, v5, rfl, h7L, kpos, ksum, klen, kge, kgt, D7, kb7⟩
        refine ⟨_, rfl, .inl ⟨rfl, _, SqL.of h7L⟩, _, rfl, _, rfl, _, rfl, L, ks, rfl, SqL.of h7L, _, _, rfl, rfl, _, _, rfl, L, _, _, rfl, rfl, h7L, small1000 (by rw [List.length_map]; omega), ?_⟩
        obtain ⟨ad, had⟩ : ∃ ad : Int, ad = (if (s : Int) - ks.sum < 1 + x2 then (s : Int) - ks.sum else 1 + x2) := ⟨_, rfl⟩
        have adb : 0 ≤ ad ∧ ks.sum + ad ≤ (s : Int) ∧ (ks.sum < (s : Int) → 1 ≤ ad) := by
          by_cases z : (s : Int) - ks.sum < 1 + x2
          · rw [if_pos z] at had; omega
          · rw [if_neg z] at had; omega
        refine ⟨ks ++ [ad], _, rfl, by rw [upd_same, had, List.map_append]; rfl, fun x hx => ?_, by rw [List.sum_append, List.sum_singleton]; omega, by rw [List.length_append, List.length_singleton]; omega, by rw [List.sum_append, List.sum_singleton]; omega, fun _ => by rw [List.sum_append, List.sum_singleton]; omega, D7.upd nLg.symm, kb7.upd_r hL⟩
        rcases List.mem_append.mp hx with y | y
        · exact kpos x y
        · rw [List.mem_singleton.mp y]; exact adb.1
      · rintro σ H7 ⟨ks, v5, rfl, h7L, kpos, ksum, klen, kge, kgt, D7, kb7⟩
        have kgt := kgt (by omega)
        exact ⟨_, by omega, ks, _, _, rfl, h7L, kpos, ksum, by omega, D7, kb7, rfl⟩
    · have hge : ¬ ls.sum < (s : Int) := fun z => hge (decide_eq_true z)
      have hsum : ls.sum = (s : Int) := by omega
      have l120 : ls.length ≤ 120 := by omega
      refine ⟨_, rfl, _, rfl, fun r hr' => ?_⟩
      obtain ⟨H4, e4⟩ : ∃ Hn, Hn = upd H3 r (.rng 0 (s : Int)) := ⟨_, rfl⟩
      have s4 : Same H3 H4 := e4 ▸ Same.upd_new hr'
      have h4r : H4 r = some (.rng 0 (s : Int)) := by rw [e4, upd_same]
      rw [← e4]
      refine ⟨r, 0, (s : Int), rfl, h4r, ⟨by decide, by decide, by omega, by omega⟩, by omega, fun lf hlf => ?_⟩
      have e0 : ((s : Int) - 0).toNat = s := by omega
      rw [e0]
      obtain ⟨H5, e5⟩ : ∃ Hn, Hn = upd H4 lf (.lst ((upTo 0 s).map V.int)) := ⟨_, rfl⟩
      have s5 : Same H4 H5 := e5 ▸ Same.upd_new hlf
      have h5f : H5 lf = some (.lst ((upTo 0 s).map V.int)) := by rw [e5, upd_same]
      rw [← e5]
      refine ⟨(show 1 ≤ sizeLine by decide), fun z hz => ?_⟩
      obtain ⟨H6, e6⟩ : ∃ Hn, Hn = upd H5 z (.lst [V.int 0]) := ⟨_, rfl⟩
      have s6 : Same H5 H6 := e6 ▸ Same.upd_new hz
      have h6z : H6 z = some (.lst [V.int 0]) := by rw [e6, upd_same]
      rw [← e6]
      refine ⟨_, rfl, z, (s : Int), _, rfl, rfl, h6z, by omega, by omega, Nat.le_of_lt (small1000 (by simp; omega)), fun fo hfo => ?_⟩
      have erep : (List.replicate (s : Int).toNat [V.int 0]).flatten = (List.replicate s (0 : Int)).map V.int := by
        rw [Int.toNat_natCast, List.flatten_replicate_singleton, List.map_replicate]
      rw [erep]
      obtain ⟨H7, e7⟩ : ∃ Hn, Hn = upd H6 fo (.lst ((List.replicate s (0 : Int)).map V.int)) := ⟨_, rfl⟩
      have s7 : Same H6 H7 := e7 ▸ Same.upd_new hfo
      have h7o : H7 fo = some (.lst ((List.replicate s (0 : Int)).map V.int)) := by rw [e7, upd_same]
      rw [← e7]
      have s37 : Same H3 H7 := (s4.trans s5).trans (s6.trans s7)
      have D7 := D3.same s37
      have nfg : lf ≠ g := (D3.same s4).ne hlf
      have nog : fo ≠ g := ((D3.same s4).same (s5.trans s6)).ne hfo
      have nof : fo ≠ lf := fun z => by rw [z, s6 _ _ h5f] at hfo; cases hfo
      have nLf : L ≠ lf := ne_of_none (s4 _ _ h3L) hlf
      have nLo : L ≠ fo := ne_of_none ((s4.trans (s5.trans s6)) _ _ h3L) hfo
      have hlf0 : H lf = none := kb3.free (s4.free hlf) nfg
      have hfo0 : H fo = none := kb3.free ((s4.trans (s5.trans s6)).free hfo) nog
      have kb7 : KeepBut g H H7 := kb3.trans (s37.but g)
      clear e4 e5 e6 e7
      refine ⟨_, rfl, L, rfl, ⟨_, SqL.of (s37 _ _ h3L)⟩, for_list (K := K) (a := L) (xs := ls.map V.int) (fun i σ Hx => ∃ (us fs qs ms : List Int) (v4 v8 v9 : Option V), σ = [some (.ref g), some (.int (n : Int)), some (.ref L), some (.int (s : Int)), v4, v5, some (.ref lf), some (.ref fo), v8, v9] ∧ Hx lf = some (.lst (ms.map V.int)) ∧ Hx fo = some (.lst (fs.map V.int)) ∧ Hx L = some (.lst (ls.map V.int)) ∧ (us ++ ms).Perm (upTo 0 s) ∧ (us.length : Int) = (ls.take i).sum ∧ fs.length = s ∧ qs.Perm us ∧ us.map (at0 fs) = qs.map some ∧ DeckAt Hx g ∧ KeepBut g H Hx)
        ⟨[], _, [], _, _, none, none, rfl, (s6.trans s7) _ _ h5f, h7o, s37 _ _ h3L, List.Perm.refl _, rfl, List.length_replicate, List.Perm.refl _, rfl, D7, kb7⟩ (fun i σ Hx _ ⟨_, _, _, _, _, _, _, _, _, _, h, _⟩ => SqL.of h) ?_ ?_⟩
      · rintro i x σ H8 hi ⟨us, fs, qs, ms, v4', v8, v9, rfl, h8f, h8o, h8L, pm, ul, fl, qp, qm, D8, kb8⟩
        obtain ⟨len, hlen, rfl⟩ := getElem_int hi
        have len0 : 0 ≤ len := lpos len (List.mem_of_getElem? hlen)
        have tsum : (ls.take (i + 1)).sum = (ls.take i).sum + len := by rw [take_succ_of hlen, List.sum_append, List.sum_singleton]
        have tle : (ls.take (i + 1)).sum ≤ ls.sum := by
          have e : ls.sum = (ls.take (i + 1)).sum + (ls.drop (i + 1)).sum := by rw [← List.sum_append, List.take_append_drop]
          have : 0 ≤ (ls.drop (i + 1)).sum := sum_nonneg fun y hy => lpos y (List.mem_of_mem_drop hy)
          omega
        obtain ⟨ln, rfl⟩ := Int.eq_ofNat_of_zero_le len0
        have ums : us.length + ms.length = s := by
          have := pm.length_eq
          rw [List.length_append, length_upTo] at this
          exact this
        have hln : ((ln : Nat) : Int).toNat = ln := by omega
        refine ⟨_, rfl, (ln : Int), rfl, by omega, by omega, comp_range (lo := 0) (n := ((ln : Nat) : Int).toNat) (fun j ys σ H9 => ∃ (v : Option V) (os ms' : List Int), σ = [v, some (.ref lf), some (.ref g)] ∧ ys = os.map V.int ∧ os.length = j ∧ H9 lf = some (.lst (ms'.map V.int)) ∧ (us ++ os ++ ms').Perm (upTo 0 s) ∧ DeckAt H9 g ∧ ∀ b o, H8 b = some o → b ≠ g → b ≠ lf → H9 b = some o)
          ⟨none, [], ms, rfl, rfl, rfl, h8f, by rw [List.append_nil]; exact pm, D8, fun b o h _ _ => h⟩ ?_ ?_⟩
        · rintro j ys σ H9 hj ⟨v, os, ms', rfl, rfl, lo, h9f, pm9, D9, kp9⟩
          have lms : us.length + os.length + ms'.length = s := by
            have := pm9.length_eq
            rw [List.length_append, List.length_append, length_upTo] at this
            exact this
          have em : (ms'.map V.int).length = ms'.length := List.length_map ..
          refine ⟨_, rfl, .inl ⟨rfl, _, SqL.of h9f⟩, _, rfl, _, rfl, lf, _, rfl, .inl (SqL.of h9f), g, _, rfl, D9, (by rw [em]; omega), fun x H10 x0 x1 D10 kb10 => ?_⟩
          rw [em] at x1
          obtain ⟨jn, rfl⟩ := Int.eq_ofNat_of_zero_le x0
          have hjl : jn < ms'.length := by omega
          have h10f := kb10 _ _ h9f nfg
          refine ⟨lf, _, _, jn, .int ms'[jn], rfl, rfl, h10f, by omega, by omega, ?_, by rw [List.getElem?_map, List.getElem?_eq_getElem hjl]; rfl, small1000 (by rw [List.length_map]; omega), ?_⟩
          · have : ixN (ms'.map V.int).length (jn : Int) = some jn := by
              unfold ixN
              rw [em, if_pos (by omega), if_pos (by omega)]
              simp
            exact (ixN_seq this).1
          · refine ⟨_, os ++ [ms'[jn]], ms'.eraseIdx jn, rfl, by rw [List.map_append]; rfl, by rw [List.length_append, lo]; rfl, by rw [upd_same, erase_map], ?_, D10.upd nfg.symm, fun b o hb h1 h2 => by rw [upd_ne h2]; exact kb10 b o (kp9 b o hb h1 h2) h1⟩
            have pe := perm_erase (l := ms') (k := jn) (List.getElem?_eq_getElem hjl)
            refine List.Perm.trans ?_ pm9
            rw [List.append_assoc, List.append_assoc, List.append_assoc]
            refine List.Perm.append_left us (List.Perm.append_left os pe)
        · rintro ys σ H9 ⟨v, os, ms', rfl, rfl, lo, h9f, pm9, D9, kp9⟩ oa hoa
          rw [hln] at lo
          obtain ⟨H10, e10⟩ : ∃ Hn, Hn = upd H9 oa (.lst (os.map V.int)) := ⟨_, rfl⟩
          have s10 : Same H9 H10 := e10 ▸ Same.upd_new hoa
          have h10a : H10 oa = some (.lst (os.map V.int)) := by rw [e10, upd_same]
          rw [← e10]
          have h9o := kp9 _ _ h8o nog nof
          have h9L := kp9 _ _ h8L nLg nLf
          have noag : oa ≠ g := D9.ne hoa
          have noaf : oa ≠ lf := (ne_of_none h9f hoa).symm
          have noao : oa ≠ fo := (ne_of_none h9o hoa).symm
          have kb9 : KeepBut g H H9 := fun b o hb h1 => kp9 b o (kb8 b o hb h1) h1 (fun z => by rw [z, hlf0] at hb; cases hb)
          have hoa0 : H oa = none := kb9.free hoa noag
          have nd9 : (us ++ os).Nodup := (List.nodup_append.mp (pm9.nodup_iff.mpr (nodup_upTo s))).1
          have bd9 : ∀ x ∈ us ++ os, 0 ≤ x ∧ x < (s : Int) := fun x hx => by
            have := mem_upTo.mp (pm9.mem_iff.mp (List.mem_append_left ms' hx))
            omega
          have gd : ∀ u, (us ++ os).getD (us.length + u) 0 = os.getD u 0 := fun u => by
            rw [List.getD_eq_getElem?_getD, List.getD_eq_getElem?_getD, List.getElem?_append_right (by omega)]
            congr 2; omega
          refine ⟨_, rfl, (ln : Int), rfl, by omega, by omega, for_range (lo := 0) (n := ((ln : Nat) : Int).toNat) (fun j σ H11 => ∃ (fs' : List Int) (v9 : Option V), σ = [some (.ref g), some (.int (n : Int)), some (.ref L), some (.int (s : Int)), some (.int (ln : Int)), v5, some (.ref lf), some (.ref fo), some (.ref oa), v9] ∧ H11 lf = some (.lst (ms'.map V.int)) ∧ H11 fo = some (.lst (fs'.map V.int)) ∧ H11 L = some (.lst (ls.map V.int)) ∧ H11 oa = some (.lst (os.map V.int)) ∧ fs'.length = s ∧ us.map (at0 fs') = qs.map some ∧ (∀ w, w < j → at0 fs' (os.getD ((w + ln - 1) % ln) 0) = some (os.getD w 0)) ∧ DeckAt H11 g ∧ KeepBut g H H11)
            ⟨fs, _, rfl, s10 _ _ h9f, s10 _ _ h9o, s10 _ _ h9L, h10a, fl, qm, (fun w hw => by omega), D9.same s10, kb9.trans (s10.but g)⟩ ?_ ?_⟩
          · rintro j σ H11 hj ⟨fs', v9, rfl, h11f, h11o, h11L, h11a, fl', qm', st', D11, kb11⟩
            have hjl : j < ln := by omega
            have hpl : (j + ln - 1) % ln < ln := Nat.mod_lt _ (by omega)
            refine ⟨_, rfl, _, rfl, oa, _, _, _, rfl, rfl, SqL.of h11a, atI_getD (by omega), ?_⟩
            have hat : atI (os.map V.int) ((0 : Int) + (j : Int) - 1) = some (.int (os.getD ((j + ln - 1) % ln) 0)) := by
              have eo : (os.map V.int).length = ln := by rw [List.length_map]; exact lo
              have key : ixN (os.map V.int).length ((0 : Int) + (j : Int) - 1) = some ((j + ln - 1) % ln) := by
                unfold ixN
                rw [eo]
                by_cases z : j = 0
                · rw [if_neg (by omega), if_pos (by omega)]
                  have : (j + ln - 1) % ln = ln - 1 := by rw [z, Nat.zero_add]; exact Nat.mod_eq_of_lt (by omega)
                  rw [this]; congr 1; omega
                · rw [if_pos (by omega), if_pos (by omega)]
                  have : (j + ln - 1) % ln = j - 1 := by
                    rw [show j + ln - 1 = (j - 1) + ln by omega, Nat.add_mod_right]; exact Nat.mod_eq_of_lt (by omega)
                  rw [this]; congr 1; omega
              unfold atI
              rw [key]
              show (os.map V.int)[(j + ln - 1) % ln]? = _
              rw [List.getElem?_map, List.getElem?_eq_getElem (by omega), getD_eq (by omega)]
              rfl
            refine ⟨_, rfl, _, rfl, _, rfl, _, _, rfl, rfl, oa, _, _, _, rfl, rfl, SqL.of h11a, hat, ?_⟩
            have hv : os.getD ((j + ln - 1) % ln) 0 ∈ us ++ os := List.mem_append_right us (by rw [getD_eq (by omega)]; exact List.getElem_mem _)
            have hvb := bd9 _ hv
            refine ⟨fo, _, _, (os.getD ((j + ln - 1) % ln) 0).toNat, rfl, rfl, h11o, ?_, ?_⟩
            · unfold ixN
              rw [List.length_map, fl', if_pos hvb.1, if_pos hvb.2]
            rw [← List.map_set]
            refine ⟨_, _, rfl, by rw [upd_ne nof.symm]; exact h11f, upd_same, by rw [upd_ne nLo]; exact h11L, by rw [upd_ne noao]; exact h11a, by rw [List.length_set]; exact fl', ?_, ?_, D11.upd nog.symm, kb11.upd_r hfo0⟩
            · rw [← qm']
              refine List.map_congr_left fun u hu => ?_
              have hub := bd9 u (List.mem_append_left os hu)
              refine at0_ne hub.1 hvb.1 fun z => ?_
              have := (List.nodup_append.mp nd9).2.2 u hu (os.getD ((j + ln - 1) % ln) 0) (by rw [getD_eq (by omega)]; exact List.getElem_mem _)
              exact this z
            · intro w hw
              by_cases hwj : w = j
              · subst hwj
                exact at0_same (by omega)
              · have hwj' : w < j := by omega
                have hwl : (w + ln - 1) % ln < ln := Nat.mod_lt _ (by omega)
                have ne : (w + ln - 1) % ln ≠ (j + ln - 1) % ln := by
                  by_cases z : w = 0
                  · rw [z, Nat.zero_add, Nat.mod_eq_of_lt (show ln - 1 < ln by omega), show j + ln - 1 = (j - 1) + ln by omega, Nat.add_mod_right, Nat.mod_eq_of_lt (by omega)]; omega
                  · rw [show w + ln - 1 = (w - 1) + ln by omega, show j + ln - 1 = (j - 1) + ln by omega, Nat.add_mod_right, Nat.add_mod_right, Nat.mod_eq_of_lt (by omega), Nat.mod_eq_of_lt (by omega)]; omega
                have hw0 := bd9 (os.getD ((w + ln - 1) % ln) 0) (List.mem_append_right us (by rw [getD_eq (by omega)]; exact List.getElem_mem _))
                rw [at0_ne hw0.1 hvb.1 (nodup_getD (List.nodup_append.mp nd9).2.1 (by omega) (by omega) ne)]
                exact st' w hwj'
          · rintro σ H11 ⟨fs', v9, rfl, h11f, h11o, h11L, h11a, fl', qm', st', D11, kb11⟩
            rw [hln] at st'
            have done : ∃ qs' : List Int, qs'.Perm (us ++ os) ∧ (us ++ os).map (at0 fs') = qs'.map some := by
              by_cases z : ln = 0
              · have : os = [] := List.length_eq_zero_iff.mp (by omega)
                subst this
                exact ⟨qs, by rw [List.append_nil]; exact qp, by rw [List.append_nil]; exact qm'⟩
              · have tk : (us ++ os).take us.length = us := List.take_left
                have tk2 : (us ++ os).take (us.length + ln) = us ++ os := List.take_of_length_le (by rw [List.length_append]; omega)
                obtain ⟨qs', a1, a2⟩ := seg_done (ts := us ++ os) (fs := fs') (qs := qs) (k := us.length) (L := ln) (by omega) (by rw [List.length_append]; omega) (by rw [tk]; exact qm') (by rw [tk]; exact qp) (fun u hu => by
                  rw [gd, gd]
                  have hm : (u + 1) % ln < ln := Nat.mod_lt _ (by omega)
                  have := st' ((u + 1) % ln) hm
                  have e : ((u + 1) % ln + ln - 1) % ln = u := by
                    by_cases y : u + 1 = ln
                    · rw [y, Nat.mod_self, Nat.zero_add, Nat.mod_eq_of_lt (by omega)]; omega
                    · rw [Nat.mod_eq_of_lt (show u + 1 < ln by omega), show u + 1 + ln - 1 = u + ln by omega, Nat.add_mod_right, Nat.mod_eq_of_lt hu]
                  rw [e] at this
                  exact this)
                rw [tk2] at a1 a2
                exact ⟨qs', a1, a2⟩
            obtain ⟨qs', qp', qm2⟩ := done
            exact ⟨us ++ os, fs', qs', ms', _, _, _, rfl, h11f, h11o, h11L, pm9, by rw [List.length_append, tsum]; omega, fl', qp', qm2, D11, kb11⟩
      · rintro σ H8 ⟨us, fs, qs, ms, v4', v8, v9, rfl, h8f, h8o, h8L, pm, ul, fl, qp, qm, D8, kb8⟩
        rw [List.length_map, List.take_length, hsum] at ul
        have ums := pm.length_eq
        rw [List.length_append, length_upTo] at ums
        have : ms = [] := List.length_eq_zero_iff.mp (by omega)
        subst this
        rw [List.append_nil] at pm
        obtain ⟨hU, hUl⟩ := isT_of_perm pm
        have pf := (perm_along hU (by omega) qm).trans (qp.trans pm)
        obtain ⟨hF, hFl⟩ := isT_of_perm pf
        exact ⟨_, rfl, q fo fs H8 hfo0 hF (by omega) h8o D8 kb8⟩
def metV (n : Nat) (xs : List Int) : List V := (List.range n).map fun (k : Nat) => V.bl (decide ((k : Int) ∈ xs))
theorem metV_nil (n : Nat) : List.replicate n (V.bl false) = metV n [] := by
  unfold metV
  refine List.ext_getElem (by simp) fun i h1 h2 => ?_
  simp
theorem metV_len {n : Nat} {xs : List Int} : (metV n xs).length = n := by unfold metV; simp
theorem metV_ix {n : Nat} {xs : List Int} {x : Int} (h0 : 0 ≤ x) (h1 : x < n) : ixN (metV n xs).length x = some x.toNat := by
  unfold ixN
  rw [metV_len, if_pos h0, if_pos h1]
theorem metV_at {n : Nat} {xs : List Int} {x : Int} (h0 : 0 ≤ x) (h1 : x < n) : atI (metV n xs) x = some (.bl (decide (x ∈ xs))) := by
  unfold atI
  rw [metV_ix h0 h1]
  show (metV n xs)[x.toNat]? = _
  unfold metV
  rw [List.getElem?_map, List.getElem?_range (by omega)]
  show some (V.bl (decide (((x.toNat : Nat) : Int) ∈ xs))) = _
  rw [Int.toNat_of_nonneg h0]
theorem metV_set {n : Nat} {xs : List Int} {x : Int} (h0 : 0 ≤ x) : (metV n xs).set x.toNat (.bl true) = metV n (xs ++ [x]) := by
  unfold metV
  refine List.ext_getElem (by simp) fun i h1 h2 => ?_
  rw [List.getElem_set]
  simp only [List.getElem_map, List.getElem_range, List.mem_append, List.mem_singleton]
  by_cases z : x.toNat = i
  · rw [if_pos z, decide_eq_true (Or.inr (by omega))]
  · rw [if_neg z]
    congr 1
    exact decide_eq_decide.mpr ⟨Or.inl, fun h => h.elim id fun e => absurd (by omega) z⟩
theorem sc_law_rounds : FnScope ["p", "found", "met", "thing", "one"] ["p"] (defScope s_law_rounds) := ⟨rfl, rfl, rfl, by decide +kernel, rfl, by decide +kernel, by decide +kernel⟩
theorem ok_law_rounds {f : Addr} {fd : FuncData} (F : Fun K "_law_rounds" "_law_rounds" s_law_rounds f fd) (B : Bl mg) : FnOk P w K mg base CX0 1 f fd ["p"] spRings := by
  refine F.ok sc_law_rounds (fun vs H Q E h => ?_) (fun cdv A outer s H vs Q E hr h => ?_)
  · obtain ⟨a, p, rfl, ⟨ha, tp, lp⟩, q⟩ := h
    rfl
  · obtain ⟨a, p, rfl, ⟨ha, tp, lp⟩, q⟩ := h
    have hu := hu_of hr
    refine ⟨_, @pss_cons _ _ _ _ _ (@ps_set _ _ (1) _ _ _ _ sc_law_rounds.nd rfl (Or.inl rfl) (@pe_lst _ _ _ _ (@pa_nil _)) (by rfl) (by first | exact .inl rfl | exact .inr rfl | assumption)) (@pss_cons _ _ _ _ _ (@ps_set _ _ (2) _ _ _ _ sc_law_rounds.nd rfl (Or.inl rfl) (@pe_op _ _ _ _ _ _ _ _ op_rep (@pe_lst _ _ _ _ (@pa_cons _ _ _ _ _ (@pe_bl _ _ _ _) (@pa_nil _) (by rfl))) (@pe_lenL _ _ _ _ _ B.len (@pa_cons _ _ _ _ _ (pv 0) (@pa_nil _) (by rfl)) (by rfl) (by rfl))) (by rfl) (by first | exact .inl rfl | exact .inr rfl | assumption)) (@pss_cons _ _ _ _ _ (@ps_for _ _ _ _ _ _ _ _ PassesOwn.never rfl (@pi_range1 _ _ _ _ _ _ (by rfl) B.range (@pa_cons _ _ _ _ _ (@pe_lenL _ _ _ _ _ B.len (@pa_cons _ _ _ _ _ (pv 0) (@pa_nil _) (by rfl)) (by rfl) (by rfl)) (@pa_nil _) (by rfl)) (by rfl)) (@pg_name _ _ (3) _ sc_law_rounds.nd rfl (Or.inl rfl) (by first | exact .inl rfl | exact .inr rfl | assumption)) (@pss_cons _ _ _ _ _ (@ps_set _ _ (4) _ _ _ _ sc_law_rounds.nd rfl (Or.inl rfl) (@pe_lst _ _ _ _ (@pa_nil _)) (by rfl) (by first | exact .inl rfl | exact .inr rfl | assumption)) (@pss_cons _ _ _ _ _ (@ps_while _ _ _ _ _ _ PassesOwn.never (@pt_not _ _ _ _ (@pt_val _ _ _ (@pe_ix _ _ _ _ _ _ _ ix_list (pv 2) (pv 3) (fun _ _ => rfl)) (by intro _; rfl))) (@pss_cons _ _ _ _ _ (@ps_asg _ _ _ _ _ _ (@pe_bl _ _ _ _) (@pg_sub _ _ _ _ _ _ _ (pv 2) (pv 3) set_list (by intro _; rfl)) (by rfl) (by rfl) (by rfl)) (@pss_cons _ _ _ _ _ (@ps_expr _ _ _ _ (@pe_append _ _ _ _ _ _ _ (pv 4) (@pa_cons _ _ _ _ _ (pv 3) (@pa_nil _) (by rfl)) (by rfl) (by rfl) (by rfl) (by rfl) (by rfl)) (by rfl)) (@pss_one _ _ _ (@ps_set _ _ (3) _ _ _ _ sc_law_rounds.nd rfl (Or.inl rfl) (@pe_ix _ _ _ _ _ _ _ ix_list (pv 0) (pv 3) (fun _ _ => rfl)) (by rfl) (by first | exact .inl rfl | exact .inr rfl | assumption)))))) (@pss_one _ _ _ (@ps_if _ _ _ _ _ _ _ _ (@pt_cmpR _ _ _ _ _ _ _ _ (op_neL 0 hu) (pv 4) (@pe_lst _ _ _ _ (@pa_nil _)) (nomark _)) (@pss_one _ _ _ (@ps_expr _ _ _ _ (@pe_append _ _ _ _ _ _ _ (pv 1) (@pa_cons _ _ _ _ _ (pv 4) (@pa_nil _) (by rfl)) (by rfl) (by rfl) (by rfl) (by rfl) (by rfl)) (by rfl))) (@pss_nil _))))) (by intro _; rfl)) (@pss_one _ _ _ (@ps_ret _ _ _ _ (pv 1))))), ?_⟩
    refine ⟨Nat.zero_le _, fun l hl => ?_⟩
    obtain ⟨H1, e1⟩ : ∃ Hn, Hn = upd H l (.lst []) := ⟨_, rfl⟩
    have s1 : Same H H1 := e1 ▸ Same.upd_new hl
    have h1l : H1 l = some (.lst []) := by rw [e1, upd_same]
    rw [← e1]
    refine ⟨(show 1 ≤ sizeLine by decide), fun z hz => ?_⟩
    obtain ⟨H2, e2⟩ : ∃ Hn, Hn = upd H1 z (.lst [V.bl false]) := ⟨_, rfl⟩
    have s2 : Same H1 H2 := e2 ▸ Same.upd_new hz
    have h2z : H2 z = some (.lst [V.bl false]) := by rw [e2, upd_same]
    rw [← e2]
    refine ⟨_, rfl, a, _, rfl, .inl (SqL.of ((s1.trans s2) _ _ ha)), z, _, _, rfl, rfl, h2z, by rw [List.length_map]; omega, by rw [List.length_map]; omega, Nat.le_of_lt (small1000 (by simp; omega)), fun d hd => ?_⟩
    have erep : (List.replicate (((p.map V.int).length : Nat) : Int).toNat [V.bl false]).flatten = metV p.length [] := by
      rw [Int.toNat_natCast, List.flatten_replicate_singleton, List.length_map]; exact metV_nil p.length
    rw [erep]
    obtain ⟨H3, e3⟩ : ∃ Hn, Hn = upd H2 d (.lst (metV p.length [])) := ⟨_, rfl⟩
    have s3 : Same H2 H3 := e3 ▸ Same.upd_new hd
    have h3d : H3 d = some (.lst (metV p.length [])) := by rw [e3, upd_same]
    rw [← e3]
    have s03 : Same H H3 := s1.trans (s2.trans s3)
    have hd0 : H d = none := (s1.trans s2).free hd
    have nld : l ≠ d := ne_of_none (s2 _ _ h1l) hd
    have nad : a ≠ d := ne_of_none ha hd0
    refine ⟨_, rfl, a, _, rfl, .inl (SqL.of (s03 a _ ha)), (p.length : Int), by rw [List.length_map], by omega, by omega, ?_⟩
    rw [show ((p.length : Int)).toNat = p.length by omega]
    refine for_range (lo := 0) (n := p.length) (fun i σ H3 => ∃ (as : List Addr) (rs : List (List Int)) (v3 v4 : Option V), σ = [some (.ref a), some (.ref l), some (.ref d), v3, v4] ∧ H3 l = some (.lst (as.map V.ref)) ∧ H3 d = some (.lst (metV p.length rs.flatten)) ∧ RowsH H3 as rs ∧ RingsUp p i rs ∧ Same H H3 ∧ (∀ b ∈ as, H b = none) ∧ as.Nodup ∧ l ∉ as ∧ d ∉ as)
      ⟨[], [], none, none, rfl, (s2.trans s3) _ _ h1l, h3d, ⟨rfl, fun j b r h => by simp at h⟩, rings_none p, s03, (fun b hb => by cases hb), List.nodup_nil, by simp, by simp⟩ ?_ ?_
    · rintro i σ H3 hi ⟨as, rs, v3, v4, rfl, h3l, h3d, rows, up, s3, fa, nda, nla, nda2⟩
      have hx : In p (i : Int) := ⟨by omega, by omega⟩
      have e0 : (0 : Int) + (i : Int) = (i : Int) := by omega
      rw [e0]
      refine ⟨Nat.zero_le _, fun e he => ?_⟩
      have nle : l ≠ e := ne_of_none h3l he
      have nde : d ≠ e := ne_of_none h3d he
      have he0 : H e = none := s3.free he
      obtain ⟨H4, e4⟩ : ∃ Hn, Hn = upd H3 e (.lst []) := ⟨_, rfl⟩
      have s4 : Same H3 H4 := e4 ▸ Same.upd_new he
      have h4e : H4 e = some (.lst ((ringL p i 0).map V.int)) := by rw [e4, upd_same]; rfl
      rw [← e4]
      by_cases hm : (i : Int) ∈ rs.flatten
      · refine ⟨fun mm σ H5 => mm = 0 ∧ σ = [some (.ref a), some (.ref l), some (.ref d), some (.int (i : Int)), some (.ref e)] ∧ H5 = H4, ⟨0, rfl, rfl, rfl⟩, ?_⟩
        rintro mm σ H5 ⟨rfl, rfl, rfl⟩
        refine ⟨_, rfl, _, rfl, d, _, _, _, rfl, rfl, SqL.of (s4 _ _ h3d), metV_at hx.1 hx.2, _, rfl, ?_⟩
        rw [decide_eq_true hm]
        refine iteF ⟨_, rfl, Nat.zero_le _, fun w hw => ?_⟩
        have s5 : Same H5 (upd H5 w (.lst [])) := Same.upd_new hw
        have h5w : (upd H5 w (.lst [])) w = some (.lst []) := upd_same
        generalize (upd H5 w (.lst [])) = H6 at s5 h5w ⊢
        refine ⟨e, w, _, _, _, rfl, rfl, SqL.of (s5 _ _ h4e), SqL.of h5w, leq_nil _ _ _ _, _, rfl, ?_⟩
        have s36 := s4.trans s5
        refine iteF ?_
        exact ⟨as, rs, _, _, rfl, s36 _ _ h3l, s36 _ _ h3d, rows_keep rows fun b hb o ho => s36 _ _ ho, rings_skip up hm, s3.trans s36, fa, nda, nla, nda2⟩
      · obtain ⟨L, pr⟩ := per_ex tp hx
        have fr := rings_fresh up pr hm
        have fl := up_len tp up
        have cl := up_count up
        have lenas := rows.1
        have lL := ring_bound tp hx (m := L) fun j j0 j1 => pr.least j j0 j1
        refine ⟨fun mm σ H5 => ∃ j : Nat, j ≤ L ∧ σ = [some (.ref a), some (.ref l), some (.ref d), some (.int (it p j i)), some (.ref e)] ∧ H5 e = some (.lst ((ringL p i j).map V.int)) ∧ H5 d = some (.lst (metV p.length (rs.flatten ++ ringL p i j))) ∧ (∀ b o, H3 b = some o → b ≠ d → H5 b = some o) ∧ mm = L - j,
          ⟨L, 0, Nat.zero_le _, rfl, h4e, by rw [s4 _ _ h3d]; unfold ringL; rw [List.range_zero, List.map_nil, List.append_nil], fun b o h _ => s4 b o h, rfl⟩, ?_⟩
        rintro mm σ H5 ⟨j, jL, rfl, h5e, h5d, k5, rfl⟩
        have hin := it_in tp hx j
        refine ⟨_, rfl, _, rfl, d, _, _, _, rfl, rfl, SqL.of h5d, metV_at hin.1 hin.2, _, rfl, ?_⟩
        by_cases hj : j = L
        · subst hj
          rw [decide_eq_true (show it p j i ∈ rs.flatten ++ ringL p i j by rw [pr.back]; exact List.mem_append_right _ (mem_ringL.mpr ⟨0, pr.pos, rfl⟩))]
          refine iteF ⟨_, rfl, Nat.zero_le _, fun w hw => ?_⟩
          have s5 : Same H5 (upd H5 w (.lst [])) := Same.upd_new hw
          have h5w : (upd H5 w (.lst [])) w = some (.lst []) := upd_same
          generalize (upd H5 w (.lst [])) = H6 at s5 h5w ⊢
          refine ⟨e, w, _, _, _, rfl, rfl, SqL.of (s5 _ _ h5e), SqL.of h5w, leq_nil _ _ _ _, _, rfl, ?_⟩
          have ne0 : ((ringL p i j).map V.int).isEmpty = false := by
            rw [List.isEmpty_eq_false_iff]
            intro z
            have := congrArg List.length z
            rw [List.length_map, ringL_len] at this
            have := pr.pos
            simp at *; omega
          rw [ne0]
          refine iteT ?_
          have h6l := s5 _ _ (k5 l _ h3l nld)
          refine ⟨_, rfl, .inl ⟨rfl, _, SqL.of h6l⟩, _, rfl, l, _, _, rfl, rfl, h6l, small1000 (by rw [List.length_map, lenas]; omega), ?_⟩
          have es : as.map V.ref ++ [V.ref e] = (as ++ [e]).map V.ref := by rw [List.map_append]; rfl
          rw [es]
          have nad : ∀ b ∈ as, b ≠ d ∧ b ≠ l := fun b hb => ⟨fun z => nda2 (z ▸ hb), fun z => nla (z ▸ hb)⟩
          refine ⟨as ++ [e], rs ++ [ringL p i j], _, _, rfl, upd_same, ?_, ?_, rings_step tp up hx pr hm, ?_, ?_, ?_, ?_, ?_⟩
          · rw [upd_ne nld.symm, s5 _ _ h5d, List.flatten_append, List.flatten_singleton]
          · refine rows_snoc (rows_keep rows fun b hb o ho => ?_) ?_
            · rw [upd_ne (nad b hb).2]; exact s5 _ _ (k5 b o ho (nad b hb).1)
            · rw [upd_ne nle.symm]; exact s5 _ _ h5e
          · intro b o hb
            rw [upd_ne (ne_of_none hb hl)]
            exact s5 _ _ (k5 b o (s3 b o hb) (ne_of_none hb hd0))
          · intro b hb
            rcases List.mem_append.mp hb with g | g
            · exact fa b g
            · rw [List.mem_singleton.mp g]; exact he0
          · refine nd_snoc nda fun g => ?_
            obtain ⟨r, hr'⟩ := rows_mem rows g
            rw [he] at hr'; cases hr'
          · intro g
            rcases List.mem_append.mp g with g | g
            · exact nla g
            · exact nle (List.mem_singleton.mp g)
          · intro g
            rcases List.mem_append.mp g with g | g
            · exact nda2 g
            · exact nde (List.mem_singleton.mp g)
        · have hjL : j < L := by omega
          have nm : it p j i ∉ rs.flatten ++ ringL p i j := fun g => by
            rcases List.mem_append.mp g with g | g
            · exact fr _ (mem_ringL.mpr ⟨j, hjL, rfl⟩) g
            · obtain ⟨b, hb, e1⟩ := mem_ringL.mp g
              have e2 : j = (j - b) + b := by omega
              rw [e2, it_add] at e1
              have := it_inj tp (it_in tp hx (j - b)) hx b (by rw [← it_add, Nat.add_comm, it_add]; exact e1)
              exact pr.least (j - b) (by omega) (by omega) this
          rw [decide_eq_false nm]
          refine iteT ⟨fun σ' H' => ∃ m', m' < L - j ∧ _, fun _ _ h => h, ?_⟩
          refine ⟨_, rfl, _, rfl, d, _, _, (it p j i).toNat, rfl, rfl, h5d, metV_ix hin.1 hin.2, ?_⟩
          rw [metV_set hin.1]
          have h6d : (upd H5 d (.lst (metV p.length (rs.flatten ++ ringL p i j ++ [it p j i])))) d = some (.lst (metV p.length (rs.flatten ++ ringL p i (j + 1)))) := by rw [upd_same, ringL_succ, List.append_assoc]
          have h6e : (upd H5 d (.lst (metV p.length (rs.flatten ++ ringL p i j ++ [it p j i])))) e = some (.lst ((ringL p i j).map V.int)) := by rw [upd_ne nde.symm]; exact h5e
          have k6 : ∀ b o, H3 b = some o → b ≠ d → (upd H5 d (.lst (metV p.length (rs.flatten ++ ringL p i j ++ [it p j i])))) b = some o := fun b o hb hn => by rw [upd_ne hn]; exact k5 b o hb hn
          generalize (upd H5 d (.lst (metV p.length (rs.flatten ++ ringL p i j ++ [it p j i])))) = H6 at h6d h6e k6 ⊢
          refine ⟨_, rfl, .inl ⟨rfl, _, SqL.of h6e⟩, _, rfl, e, _, _, rfl, rfl, h6e, small1000 (by rw [List.length_map, ringL_len]; omega), ?_⟩
          have nae : a ≠ e := ne_of_none (s3 a _ ha) he
          refine ⟨_, rfl, _, rfl, a, _, _, _, rfl, rfl, SqL.of (by rw [upd_ne nae]; exact k6 a _ (s3 a _ ha) nad), atI_map hin.1 hin.2, ?_⟩
          have h7e : (upd H6 e (.lst ((ringL p i j).map V.int ++ [.int (it p j i)]))) e = some (.lst ((ringL p i (j + 1)).map V.int)) := by
            rw [upd_same, ringL_succ, List.map_append]; rfl
          exact ⟨L - (j + 1), by omega, j + 1, by omega, rfl, h7e, by rw [upd_ne nde]; exact h6d, fun b o hb hn => by rw [upd_ne (ne_of_none hb he)]; exact k6 b o hb hn, rfl⟩
    · rintro σ H3 ⟨as, rs, v3, v4, rfl, h3l, h3d, rows, up, s3, fa, nda, nla, nda2⟩
      exact ⟨_, rfl, q l as rs H3 hl s3 h3l rows up fa nda nla⟩
end
end My
namespace My
open PySem L2 Mth
section
variable {P : Program} {w : World} {K : PySem.W.Frag} {mg : Str → Option Value} {base : Heap}
def digT (i : Int) : Str := Str.ofString (toString i)
theorem dig_okN : ∀ k, k < 40 → (digT (k : Nat)).cps.toList.length ≤ 2 ∧ 1 ≤ (digT (k : Nat)).cps.toList.length ∧ 32 ∉ (digT (k : Nat)).cps.toList ∧ 40 ∉ (digT (k : Nat)).cps.toList ∧ 41 ∉ (digT (k : Nat)).cps.toList := by decide +kernel
theorem dig_injN : ∀ j, j < 40 → ∀ k, k < 40 → digT (j : Nat) = digT (k : Nat) → j = k := by decide +kernel
theorem dig_ok {i : Int} (h0 : 0 ≤ i) (h1 : i < 40) : (digT i).cps.toList.length ≤ 2 ∧ 1 ≤ (digT i).cps.toList.length ∧ 32 ∉ (digT i).cps.toList ∧ 40 ∉ (digT i).cps.toList ∧ 41 ∉ (digT i).cps.toList := by
  obtain ⟨k, rfl⟩ := Int.eq_ofNat_of_zero_le h0
  exact dig_okN k (by omega)
theorem dig_inj {i j : Int} (h0 : 0 ≤ i) (h1 : i < 40) (g0 : 0 ≤ j) (g1 : j < 40) (h : digT i = digT j) : i = j := by
  obtain ⟨k, rfl⟩ := Int.eq_ofNat_of_zero_le h0
  obtain ⟨m, rfl⟩ := Int.eq_ofNat_of_zero_le g0
  have := dig_injN k (by omega) m (by omega) h
  omega
theorem log40 {k : Nat} (hk : 200 ≤ k) {i : Int} (h0 : 0 ≤ i) (h1 : i < 40) : i.natAbs.log2 < k := by
  by_cases z : i.natAbs = 0
  · rw [z, Nat.log2_zero]; omega
  · refine (Nat.log2_lt z).mpr (Nat.lt_of_lt_of_le (m := 2 ^ 6) (by omega) (Nat.pow_le_pow_right (by decide) (by omega)))
def ringT (r : List Int) : Str := Txt.join " " (r.map digT)
theorem joinOk_of {sep : Str} {ts : List Str} {B : Nat} (hB : ∀ y ∈ ts, y.length ≤ B) (h : ts.length * B + ts.length * sep.length ≤ 16777216) : JoinOk sep ts = true := by
  unfold JoinOk
  rw [StrLaws.joinFits hB h]; rfl
theorem join_mem {sep : Str} {c : Nat} (hs : c ∉ sep.cps.toList) : ∀ {ts : List Str}, (∀ t ∈ ts, c ∉ t.cps.toList) → c ∉ (Txt.join sep ts).cps.toList := by
  intro ts h
  show c ∉ (Builtin.Str.glued sep ts).cps.toList
  rw [StrLaws.glued_eq_join, join_toL]
  induction ts with
  | nil => exact fun z => by cases z
  | cons t r ih =>
    cases r with
    | nil => exact h t List.mem_cons_self
    | cons u r =>
      intro z
      have z : c ∈ t.cps.toList ++ sep.cps.toList ++ Mth.joinL sep.cps.toList ((u :: r).map (·.cps.toList)) := z
      rcases List.mem_append.mp z with z | z
      · rcases List.mem_append.mp z with z | z
        · exact h t List.mem_cons_self z
        · exact hs z
      · exact ih (fun y hy => h y (List.mem_cons_of_mem _ hy)) z
theorem ringT_no {r : List Int} {c : Nat} (hc : c = 40 ∨ c = 41) (br : ∀ x ∈ r, 0 ≤ x ∧ x < 40) : c ∉ (ringT r).cps.toList := by
  refine join_mem (by rcases hc with rfl | rfl <;> decide +kernel) fun t ht => ?_
  obtain ⟨i, hi, rfl⟩ := List.mem_map.mp ht
  have := dig_ok (br i hi).1 (br i hi).2
  rcases hc with rfl | rfl
  · exact this.2.2.2.1
  · exact this.2.2.2.2
theorem ringT_len {r : List Int} (lr : r.length ≤ 40) (br : ∀ x ∈ r, 0 ≤ x ∧ x < 40) : (ringT r).length ≤ 120 := by
  have h := StrLaws.join_length_le " " (r.map digT)
  have e : (ringT r).length = (Str.join " " (r.map digT)).length := by
    show (Builtin.Str.glued " " (r.map digT)).length = _
    rw [StrLaws.glued_eq_join]
  have s := StrLaws.sumLen_le (B := 2) (r.map digT) (fun y hy => by obtain ⟨i, hi, rfl⟩ := List.mem_map.mp hy; exact (dig_ok (br i hi).1 (br i hi).2).1)
  have sl : (Str.ofString " ").length = 1 := by decide +kernel
  rw [e]
  rw [List.length_map] at h s
  have h' : (Str.join " " (r.map digT)).length ≤ ((r.map digT).map (·.length)).sum + r.length * 1 := by rw [← sl]; exact h
  omega
theorem slice_mid {m : Str} : Txt.slice ("(" ++ m ++ ")") (some 1) (some (-1)) = m := by
  have l1 : (Str.ofString "(").length = 1 := by decide +kernel
  have l2 : (Str.ofString ")").length = 1 := by decide +kernel
  obtain ⟨y, hy⟩ : ∃ y : Str, y = Str.ofString "(" ++ m ++ Str.ofString ")" := ⟨_, rfl⟩
  have ly : y.length = m.length + 2 := by rw [hy, Str.length_append, Str.length_append, l1, l2]; omega
  have eb : Builtin.Str.strSliceIndices (some 1) (some (-1)) 1 y.length = Builtin.Str.strSliceIndices (some ((1 : Nat) : Int)) (some ((m.length + 1 : Nat) : Int)) 1 y.length := by
    unfold Builtin.Str.strSliceIndices
    rw [ly]
    simp only [show (-1 : Int) < 0 by decide, if_true, show ¬ (((m.length + 1 : Nat) : Int) < 0) by omega, if_false]
    congr 1
    omega
  show Txt.slice (Str.ofString "(" ++ m ++ Str.ofString ")") (some 1) (some (-1)) = m
  rw [← hy]
  unfold Txt.slice
  rw [eb, StrLaws.sliced_plain y (by omega) (by omega)]
  have nl : (Builtin.Str.strSliceIndices (some ((1 : Nat) : Int)) (some ((m.length + 1 : Nat) : Int)) 1 y.length).length = m.length := by
    rw [StrLaws.strSliceIndices_plain (by omega) (by omega), List.length_map, List.length_range]; omega
  rw [if_neg (by rw [nl]; simp; omega)]
  refine toL_inj ?_
  show (y.cps.toList.drop 1).take (m.length + 1 - 1) = m.cps.toList
  rw [hy, toL_append, toL_append, show (Str.ofString "(").cps.toList = [40] by decide +kernel]
  show (List.drop 1 (40 :: (m.cps.toList ++ _))).take m.length = _
  rw [List.drop_succ_cons, List.drop_zero]
  exact List.take_left' rfl
def spShowR : Sp := fun vs H Q _ => ∃ (a : Addr) (r : List Int), vs = [.ref a] ∧ H a = some (.lst (r.map V.int)) ∧ r.length ≤ 40 ∧ (∀ x ∈ r, 0 ≤ x ∧ x < 40) ∧ ∀ H', Same H H' → Q (.str (ringT r)) H'
theorem sc_show_round : FnScope ["ring"] ["ring"] (defScope s_show_round) := ⟨rfl, rfl, rfl, by decide +kernel, rfl, by decide +kernel, by decide +kernel⟩
theorem nd_thing_show_round : (["thing"] : List Str).Nodup := by decide +kernel
theorem ok_show_round {f : Addr} {fd : FuncData} (F : Fun K "show_round" "show_round" s_show_round f fd) (B : Bl mg) : FnOk P w K mg base CX0 1 f fd ["ring"] spShowR := by
  refine F.ok sc_show_round (fun vs H Q E h => ?_) (fun cdv A outer s H vs Q E hr h => ?_)
  · obtain ⟨a, r, rfl, ha, lr, br, q⟩ := h
    rfl
  · obtain ⟨a, r, rfl, ha, lr, br, q⟩ := h
    refine ⟨_, @pss_one _ _ _ (@ps_ret _ _ _ _ (@pe_join _ _ _ _ _ _ _ (@pe_str _ _ _ _) (@pa_cons _ _ _ _ _ (@pe_comp _ _ _ _ _ _ _ _ _ _ _ (["thing"]) (1) ([]) rfl .of (@pi_list _ _ _ _ (pv 0)) (fun _ _ _ _ _ => @pg_name _ _ (0) _ nd_thing_show_round rfl (Or.inl rfl) (by first | exact .inl rfl | exact .inr rfl | assumption)) (fun _ _ _ _ _ => (@pifs_nil _)) (fun _ _ _ _ _ => (@pe_strI _ _ _ _ _ B.str (@pa_cons _ _ _ _ _ (pv 0) (@pa_nil _) (by rfl)) (by rfl) (by rfl))) (by intro _; rfl)) (@pa_nil _) (by rfl)) (by rfl) (by rfl) (by rfl) (by rfl) (by rfl))), ?_⟩
    refine ⟨rfl, ?_⟩
    refine ⟨_, rfl, a, rfl, ⟨_, SqL.of ha⟩, comp_list (K := K) (a := a) (xs := r.map V.int) (fun i ys σ H1 => ∃ v : Option V, σ = [v] ∧ H1 = H ∧ ys = ((r.take i).map digT).map V.str) ⟨none, rfl, rfl, rfl⟩ (fun i ys σ H1 _ ⟨_, _, e, _⟩ => by rw [e]; exact SqL.of ha) ?_ ?_⟩
    · rintro i x ys σ H1 hi ⟨v, rfl, rfl, rfl⟩
      obtain ⟨z, hz, rfl⟩ := getElem_int hi
      have zb := br z (List.mem_of_getElem? hz)
      refine ⟨_, rfl, z, rfl, log40 (by decide) zb.1 zb.2, small1000 (by simp only [List.length_map, List.length_take]; omega), _, rfl, rfl, ?_⟩
      rw [take_succ_of hz, List.map_append, List.map_append]
      rfl
    · rintro ys σ H1 ⟨v, rfl, rfl, rfl⟩ D hD
      rw [List.length_map, List.take_length]
      refine ⟨" ", D, r.map digT, rfl, rfl, SqL.of upd_same, joinOk_of (B := 2) (fun y hy => ?_) ?_, q _ (Same.upd_new hD)⟩
      · obtain ⟨i, hi, rfl⟩ := List.mem_map.mp hy
        exact (dig_ok (br i hi).1 (br i hi).2).1
      · have sl : (Str.ofString " ").length = 1 := by decide +kernel
        rw [List.length_map, sl]; omega
noncomputable def turnT (p : List Int) : Str := Str.ofString "(" ++ Txt.join (Str.ofString ")(") ((ringsF p p.length).map ringT) ++ Str.ofString ")"
theorem rings_facts {p : List Int} {rs : List (List Int)} (tp : IsT p) (lp : p.length ≤ 40) (up : RingsUp p p.length rs) : rs.length ≤ 40 ∧ ∀ r ∈ rs, r ≠ [] ∧ r.length ≤ 40 ∧ ∀ x ∈ r, 0 ≤ x ∧ x < 40 := by
  have fl := up_flat tp up
  have ll : rs.flatten.length = p.length := by rw [fl.length_eq, length_upTo]
  refine ⟨by have := up_count up; omega, fun r hr => ⟨fun z => ?_, ?_, fun x hx => ?_⟩⟩
  · obtain ⟨y, L, _, pr, er, _⟩ := up.ring r hr
    have := pr.pos
    rw [z] at er
    have e2 := congrArg List.length er
    rw [ringL_len] at e2
    simp at e2; omega
  · have := (List.sublist_flatten_of_mem hr).length_le
    omega
  · have := mem_upTo.mp (fl.mem_iff.mp (List.mem_flatten.mpr ⟨r, hr, hx⟩))
    omega
theorem ringsT_ok {rs : List (List Int)} (h : rs.length ≤ 40) (hb : ∀ r ∈ rs, r ≠ [] ∧ r.length ≤ 40 ∧ ∀ x ∈ r, 0 ≤ x ∧ x < 40) : JoinOk (Str.ofString ")(") (rs.map ringT) = true ∧ (Txt.join (Str.ofString ")(") (rs.map ringT)).length ≤ 4880 := by
  have sl : (Str.ofString ")(").length = 2 := by decide +kernel
  have hB : ∀ y ∈ rs.map ringT, y.length ≤ 120 := fun y hy => by
    obtain ⟨r, hr, rfl⟩ := List.mem_map.mp hy
    exact ringT_len (hb r hr).2.1 (hb r hr).2.2
  refine ⟨joinOk_of hB (by rw [List.length_map, sl]; omega), ?_⟩
  have e : (Txt.join (Str.ofString ")(") (rs.map ringT)).length = (Str.join (Str.ofString ")(") (rs.map ringT)).length := by
    show (Builtin.Str.glued _ _).length = _
    rw [StrLaws.glued_eq_join]
  have a := StrLaws.join_length_le (Str.ofString ")(") (rs.map ringT)
  have b := StrLaws.sumLen_le (B := 120) (rs.map ringT) hB
  rw [sl] at a
  rw [List.length_map] at a b
  omega
def spShow : Sp := fun vs H Q _ => ∃ (a : Addr) (p : List Int), vs = [.ref a] ∧ TurnAt H a p ∧ ∀ H', Same H H' → Q (.str (turnT p)) H'
theorem sc_show_turn : FnScope ["p"] ["p"] (defScope s_show_turn) := ⟨rfl, rfl, rfl, by decide +kernel, rfl, by decide +kernel, by decide +kernel⟩
theorem nd_ring_show_turn : (["ring"] : List Str).Nodup := by decide +kernel
theorem ok_show_turn {f : Addr} {fd : FuncData} (F : Fun K "show_turn" "show_turn" s_show_turn f fd) (c_rounds_of : Cal P w K mg base "rounds_of" 4 ["p"] spRings) (c_show_round : Cal P w K mg base "show_round" 1 ["ring"] spShowR) : FnOk P w K mg base CX0 5 f fd ["p"] spShow := by
  refine F.ok sc_show_turn (fun vs H Q E h => ?_) (fun cdv A outer s H vs Q E hr h => ?_)
  · obtain ⟨a, p, rfl, tp, q⟩ := h
    rfl
  · obtain ⟨a, p, rfl, tp, q⟩ := h
    have hr_rounds_of : Room 4 _ := hr.mono (by decide)
    have hr_show_round : Room 1 _ := hr.mono (by decide)
    refine ⟨_, @pss_one _ _ _ (@ps_ret _ _ _ _ (@pe_op _ _ _ _ _ _ _ _ op_add_str (@pe_op _ _ _ _ _ _ _ _ op_add_str (@pe_str _ _ _ _) (@pe_join _ _ _ _ _ _ _ (@pe_str _ _ _ _) (@pa_cons _ _ _ _ _ (@pe_comp _ _ _ _ _ _ _ _ _ _ _ (["ring"]) (1) ([]) rfl .of (@pi_list _ _ _ _ (@pe_cal _ _ _ _ _ _ _ _ _ _ c_rounds_of hr_rounds_of (@pa_cons _ _ _ _ _ (pv 0) (@pa_nil _) (by rfl)) (by rfl) (by decide) (by rfl) (by rfl))) (fun _ _ _ _ _ => @pg_name _ _ (0) _ nd_ring_show_turn rfl (Or.inl rfl) (by first | exact .inl rfl | exact .inr rfl | assumption)) (fun _ _ _ _ _ => (@pifs_nil _)) (fun _ _ _ _ _ => (@pe_cal _ _ _ _ _ _ _ _ _ _ c_show_round hr_show_round (@pa_cons _ _ _ _ _ (pv 0) (@pa_nil _) (by rfl)) (by rfl) (by decide) (by rfl) (by rfl))) (by intro _; rfl)) (@pa_nil _) (by rfl)) (by rfl) (by rfl) (by rfl) (by rfl) (by rfl))) (@pe_str _ _ _ _))), ?_⟩
    refine ⟨rfl, ?_⟩
    refine ⟨_, rfl, a, p, rfl, tp, fun l as rs H1 hl s1 h1l rows up _ _ _ => ?_⟩
    obtain ⟨f1, f2⟩ := rings_facts tp.2.1 tp.2.2 up
    refine ⟨l, rfl, ⟨_, SqL.of h1l⟩, comp_list (K := K) (a := l) (xs := as.map V.ref) (fun i ys σ H2 => ∃ v : Option V, σ = [v] ∧ Same H1 H2 ∧ ys = ((rs.take i).map ringT).map V.str) ⟨none, rfl, Same.refl H1, rfl⟩ (fun i ys σ H2 _ ⟨_, _, s, _⟩ => SqL.of (s _ _ h1l)) ?_ ?_⟩
    · rintro i x ys σ H2 hi ⟨v, rfl, s2, rfl⟩
      rw [List.getElem?_map] at hi
      cases hB : as[i]? with
      | none => rw [hB] at hi; cases hi
      | some b =>
        rw [hB] at hi
        cases hi
        have hil : i < rs.length := by rw [← rows.1]; exact (List.getElem?_eq_some_iff.mp hB).1
        have hr' := List.getElem?_eq_getElem hil
        have hb := s2 _ _ (rows.2 i b _ hB hr')
        obtain ⟨r1, r2, r3⟩ := f2 rs[i] (List.getElem_mem hil)
        refine ⟨_, rfl, b, _, rfl, hb, r2, r3, fun H3 s3 => ⟨small1000 (by simp only [List.length_map, List.length_take]; omega), _, rfl, s2.trans s3, ?_⟩⟩
        rw [take_succ_of hr', List.map_append, List.map_append]
        rfl
    · rintro ys σ H2 ⟨v, rfl, s2, rfl⟩ D hD
      rw [List.length_map, rows.1, List.take_length]
      obtain ⟨ok, ln⟩ := ringsT_ok f1 f2
      have l1 : (Str.ofString "(").length = 1 := by decide +kernel
      have l2 : (Str.ofString ")").length = 1 := by decide +kernel
      refine ⟨Str.ofString ")(", D, rs.map ringT, rfl, rfl, SqL.of upd_same, ok, _, _, rfl, rfl, (by rw [l1, sizeLine_eq]; omega), _, _, rfl, rfl, (by rw [Str.length_append, l1, l2, sizeLine_eq]; omega), ?_⟩
      have := q _ ((s1.trans s2).trans (Same.upd_new (o := .lst ((rs.map ringT).map V.str)) hD))
      unfold turnT at this
      rw [← up.eq] at this
      exact this
def spThing : Sp := fun vs H Q _ => ∃ (i : Int), vs = [.str (digT i)] ∧ 0 ≤ i ∧ i < 40 ∧ Q (.int i) H
theorem sc_read_thing : FnScope ["word", "thing"] ["word"] (defScope s_read_thing) := ⟨rfl, rfl, rfl, by decide +kernel, rfl, by decide +kernel, by decide +kernel⟩
theorem ok_read_thing {f : Addr} {fd : FuncData} (F : Fun K "read_thing" "read_thing" s_read_thing f fd) (B : Bl mg) (g_MOST_THINGS : ∃ t, mg "MOST_THINGS" = some (.int 40 t)) : FnOk P w K mg base CX0 1 f fd ["word"] spThing := by
  refine F.ok sc_read_thing (fun vs H Q E h => ?_) (fun cdv A outer s H vs Q E hr h => ?_)
  · obtain ⟨i, rfl, i0, i1, q⟩ := h
    rfl
  · obtain ⟨i, rfl, i0, i1, q⟩ := h
    obtain ⟨_, m_MOST_THINGS⟩ := g_MOST_THINGS
    refine ⟨_, @pss_cons _ _ _ _ _ (@ps_for _ _ _ _ _ _ _ _ PassesOwn.never rfl (@pi_range1 _ _ _ _ _ _ (by rfl) B.range (@pa_cons _ _ _ _ _ (@pe_glob _ _ (.int 40) _ _ (by rfl) m_MOST_THINGS ⟨_, rfl⟩ (by decide)) (@pa_nil _) (by rfl)) (by rfl)) (@pg_name _ _ (1) _ sc_read_thing.nd rfl (Or.inl rfl) (by first | exact .inl rfl | exact .inr rfl | assumption)) (@pss_one _ _ _ (@ps_if _ _ _ _ _ _ _ _ (@pt_cmpR _ _ _ _ _ _ _ _ op_eq (pv 0) (@pe_strI _ _ _ _ _ B.str (@pa_cons _ _ _ _ _ (pv 1) (@pa_nil _) (by rfl)) (by rfl) (by rfl)) (nomark _)) (@pss_one _ _ _ (@ps_ret _ _ _ _ (pv 1))) (@pss_nil _))) (by intro _; rfl)) (@pss_one _ _ _ (@ps_never _ _)), ?_⟩
    refine ⟨40, rfl, by decide, by decide, for_range (lo := 0) (n := 40) (fun j σ H1 => ∃ v : Option V, σ = [some (.str (digT i)), v] ∧ H1 = H ∧ (j : Int) ≤ i) ⟨none, rfl, rfl, i0⟩ ?_ ?_⟩
    · rintro j σ H1 hj ⟨v, rfl, rfl, ji⟩
      refine ⟨_, rfl, _, rfl, _, rfl, log40 (by decide) (by omega) (by omega), rfl, _, rfl, ?_⟩
      by_cases e : i = (0 : Int) + (j : Int)
      · subst e
        rw [decide_eq_true (show V.str (digT ((0 : Int) + (j : Int))) = V.str (Str.ofString (toString ((0 : Int) + (j : Int)))) from rfl)]
        exact iteT ⟨_, rfl, q⟩
      · rw [decide_eq_false (show ¬ V.str (digT i) = V.str (Str.ofString (toString ((0 : Int) + (j : Int)))) from fun z => e (dig_inj i0 i1 (by omega) (by omega) (V.str.inj z)))]
        exact iteF ⟨_, rfl, rfl, by omega⟩
    · rintro σ H1 ⟨v, rfl, rfl, ji⟩
      exact absurd ji (by omega)
def spReadR : Sp := fun vs H Q _ => ∃ (r : List Int), vs = [.str (ringT r)] ∧ r ≠ [] ∧ r.length ≤ 40 ∧ (∀ x ∈ r, 0 ≤ x ∧ x < 40) ∧ ∀ l H', H l = none → Same H H' → H' l = some (.lst (r.map V.int)) → Q (.ref l) H'
theorem sc_read_round : FnScope ["text"] ["text"] (defScope s_read_round) := ⟨rfl, rfl, rfl, by decide +kernel, rfl, by decide +kernel, by decide +kernel⟩
theorem nd_word_read_round : (["word"] : List Str).Nodup := by decide +kernel
theorem ok_read_round {f : Addr} {fd : FuncData} (F : Fun K "read_round" "read_round" s_read_round f fd) (c_read_thing : Cal P w K mg base "read_thing" 1 ["word"] spThing) : FnOk P w K mg base CX0 2 f fd ["text"] spReadR := by
  refine F.ok sc_read_round (fun vs H Q E h => ?_) (fun cdv A outer s H vs Q E hr h => ?_)
  · obtain ⟨r, rfl, ne, lr, br, q⟩ := h
    rfl
  · obtain ⟨r, rfl, ne, lr, br, q⟩ := h
    have hr_read_thing : Room 1 _ := hr.mono (by decide)
    refine ⟨_, @pss_one _ _ _ (@ps_ret _ _ _ _ (@pe_comp _ _ _ _ _ _ _ _ _ _ _ (["word"]) (1) ([]) rfl .of (@pi_list _ _ _ _ (@pe_split _ _ _ _ _ _ _ (pv 0) (@pa_cons _ _ _ _ _ (@pe_str _ _ _ _) (@pa_nil _) (by rfl)) (by rfl) (by rfl) (by rfl) (by rfl) (by rfl))) (fun _ _ _ _ _ => @pg_name _ _ (0) _ nd_word_read_round rfl (Or.inl rfl) (by first | exact .inl rfl | exact .inr rfl | assumption)) (fun _ _ _ _ _ => (@pifs_nil _)) (fun _ _ _ _ _ => (@pe_cal _ _ _ _ _ _ _ _ _ _ c_read_thing hr_read_thing (@pa_cons _ _ _ _ _ (pv 0) (@pa_nil _) (by rfl)) (by rfl) (by decide) (by rfl) (by rfl))) (by intro _; rfl))), ?_⟩
    obtain ⟨es, el⟩ := split_join (sep := Str.ofString " ") (parts := r.map digT) (c0 := 32) (rest := []) (by decide +kernel) (by simp) (fun t ht => by obtain ⟨i, hi, rfl⟩ := List.mem_map.mp ht; exact (dig_ok (br i hi).1 (br i hi).2).2.2.1) (by simpa using ne) (by decide +kernel)
    have lt := ringT_len lr br
    refine ⟨_, rfl, rfl, _, _, rfl, rfl, (by decide +kernel), (by rw [sizeLine_eq]; omega), ?_, ?_, fun l hl => ?_⟩
    · refine Nat.le_trans (Nat.le_of_eq el) ?_
      rw [List.length_map, sizeLine_eq]; omega
    · show (Txt.split (Txt.join (Str.ofString " ") (r.map digT)) _).length ≤ _
      rw [es, List.length_map, sizeLine_eq]; omega
    · have es' : Txt.split (ringT r) (Str.ofString " ") = r.map digT := es
      rw [es']
      obtain ⟨H1, e1⟩ : ∃ Hn, Hn = upd H l (.lst ((r.map digT).map V.str)) := ⟨_, rfl⟩
      have s1 : Same H H1 := e1 ▸ Same.upd_new hl
      have h1l : H1 l = some (.lst ((r.map digT).map V.str)) := by rw [e1, upd_same]
      rw [← e1]
      refine ⟨l, rfl, ⟨_, SqL.of h1l⟩, comp_list (K := K) (a := l) (xs := (r.map digT).map V.str) (fun i ys σ H2 => ∃ v : Option V, σ = [v] ∧ H2 = H1 ∧ ys = (r.take i).map V.int) ⟨none, rfl, rfl, rfl⟩ (fun i ys σ H2 _ ⟨_, _, e, _⟩ => by rw [e]; exact SqL.of h1l) ?_ ?_⟩
      · rintro i x ys σ H2 hi ⟨v, rfl, rfl, rfl⟩
        rw [List.map_map, List.getElem?_map] at hi
        cases hB : r[i]? with
        | none => rw [hB] at hi; cases hi
        | some z =>
          rw [hB] at hi
          cases hi
          have zb := br z (List.mem_of_getElem? hB)
          refine ⟨_, rfl, z, rfl, zb.1, zb.2, small1000 (by simp only [List.length_map, List.length_take]; omega), _, rfl, rfl, ?_⟩
          rw [take_succ_of hB, List.map_append]
          rfl
      · rintro ys σ H2 ⟨v, rfl, rfl, rfl⟩ D hD
        rw [List.length_map, List.length_map, List.take_length]
        exact q D _ (s1.free hD) (s1.trans (Same.upd_new hD)) upd_same
def spReadRs : Sp := fun vs H Q _ => ∃ (p : List Int), vs = [.str (turnT p)] ∧ IsT p ∧ p.length ≤ 40 ∧ ∀ l as H', H l = none → Same H H' → H' l = some (.lst (as.map V.ref)) → RowsH H' as (ringsF p p.length) → Q (.ref l) H'
theorem ringT_pos {r : List Int} (ne : r ≠ []) (br : ∀ x ∈ r, 0 ≤ x ∧ x < 40) : 1 ≤ (ringT r).cps.toList.length := by
  show 1 ≤ (Builtin.Str.glued _ _).cps.toList.length
  rw [StrLaws.glued_eq_join, join_toL]
  cases r with
  | nil => exact absurd rfl ne
  | cons i r =>
    have := (dig_ok (br i List.mem_cons_self).1 (br i List.mem_cons_self).2).2.1
    exact Nat.le_trans this joinL_len
theorem sc_read_rounds : FnScope ["text"] ["text"] (defScope s_read_rounds) := ⟨rfl, rfl, rfl, by decide +kernel, rfl, by decide +kernel, by decide +kernel⟩
theorem nd_part_read_rounds : (["part"] : List Str).Nodup := by decide +kernel
theorem ok_read_rounds {f : Addr} {fd : FuncData} (F : Fun K "read_rounds" "read_rounds" s_read_rounds f fd) (c_read_round : Cal P w K mg base "read_round" 2 ["text"] spReadR) : FnOk P w K mg base CX0 3 f fd ["text"] spReadRs := by
  refine F.ok sc_read_rounds (fun vs H Q E h => ?_) (fun cdv A outer s H vs Q E hr h => ?_)
  · obtain ⟨p, rfl, tp, lp, q⟩ := h
    rfl
  · obtain ⟨p, rfl, tp, lp, q⟩ := h
    have hr_read_round : Room 2 _ := hr.mono (by decide)
    refine ⟨_, @pss_cons _ _ _ _ _ (@ps_if _ _ _ _ _ _ _ _ (@pt_cmpR _ _ _ _ _ _ _ _ op_eq (pv 0) (@pe_str _ _ _ _) (nomark _)) (@pss_one _ _ _ (@ps_ret _ _ _ _ (@pe_lst _ _ _ _ (@pa_nil _)))) (@pss_nil _)) (@pss_one _ _ _ (@ps_ret _ _ _ _ (@pe_comp _ _ _ _ _ _ _ _ _ _ _ (["part"]) (1) ([]) rfl .of (@pi_list _ _ _ _ (@pe_split _ _ _ _ _ _ _ (@pe_slice _ _ _ _ _ _ _ _ _ _ sl_str (pv 0) (@po_some _ _ _ (@pe_int _ _ _ _)) (@po_some _ _ _ (@pe_un _ _ _ _ _ _ un_neg (@pe_int _ _ _ _)))) (@pa_cons _ _ _ _ _ (@pe_str _ _ _ _) (@pa_nil _) (by rfl)) (by rfl) (by rfl) (by rfl) (by rfl) (by rfl))) (fun _ _ _ _ _ => @pg_name _ _ (0) _ nd_part_read_rounds rfl (Or.inl rfl) (by first | exact .inl rfl | exact .inr rfl | assumption)) (fun _ _ _ _ _ => (@pifs_nil _)) (fun _ _ _ _ _ => (@pe_cal _ _ _ _ _ _ _ _ _ _ c_read_round hr_read_round (@pa_cons _ _ _ _ _ (pv 0) (@pa_nil _) (by rfl)) (by rfl) (by decide) (by rfl) (by rfl))) (by intro _; rfl)))), ?_⟩
    have up := rings_up tp
    obtain ⟨f1, f2⟩ := rings_facts tp lp up
    obtain ⟨ok, ln⟩ := ringsT_ok f1 f2
    obtain ⟨rs, hrs⟩ : ∃ rs, rs = ringsF p p.length := ⟨_, rfl⟩
    have et : turnT p = Str.ofString "(" ++ Txt.join (Str.ofString ")(") (rs.map ringT) ++ Str.ofString ")" := by rw [hrs]; rfl
    rw [← hrs] at f1 f2 ok ln q
    refine ⟨_, rfl, rfl, _, rfl, ?_⟩
    rw [et]
    cases rs with
    | nil =>
      rw [decide_eq_true (show V.str (Str.ofString "(" ++ Txt.join (Str.ofString ")(") (([] : List (List Int)).map ringT) ++ Str.ofString ")") = V.str (Str.ofString "()") by decide +kernel)]
      refine iteT ⟨Nat.zero_le _, fun l hl => ?_⟩
      exact q l [] _ hl (Same.upd_new hl) upd_same ⟨rfl, fun j b r h => by simp at h⟩
    | cons r0 rr =>
      have l1 : (Str.ofString "(").length = 1 := by decide +kernel
      have l2 : (Str.ofString ")").length = 1 := by decide +kernel
      have l3 : (Str.ofString "()").length = 2 := by decide +kernel
      obtain ⟨mid, hmid⟩ : ∃ mid, mid = Txt.join (Str.ofString ")(") ((r0 :: rr).map ringT) := ⟨_, rfl⟩
      have mpos : 1 ≤ mid.length := by
        have e : mid.cps.toList = Mth.joinL (Str.ofString ")(").cps.toList (((r0 :: rr).map ringT).map (·.cps.toList)) := by
          rw [hmid]
          show (Builtin.Str.glued _ _).cps.toList = _
          rw [StrLaws.glued_eq_join, join_toL]
        show 1 ≤ mid.cps.toList.length
        rw [e]
        exact Nat.le_trans (ringT_pos (f2 r0 List.mem_cons_self).1 (f2 r0 List.mem_cons_self).2.2) joinL_len
      rw [← hmid] at ln ⊢
      have nn : ¬ V.str (Str.ofString "(" ++ mid ++ Str.ofString ")") = V.str (Str.ofString "()") := fun z => by
        have := congrArg Str.length (V.str.inj z)
        rw [Str.length_append, Str.length_append, l1, l2, l3] at this
        omega
      rw [decide_eq_false nn]
      refine iteF ?_
      have lw : (Str.ofString "(" ++ mid ++ Str.ofString ")").length ≤ 4882 := by rw [Str.length_append, Str.length_append, l1, l2]; omega
      obtain ⟨es, el⟩ := split_join (sep := Str.ofString ")(") (parts := (r0 :: rr).map ringT) (c0 := 41) (rest := [40]) (by decide +kernel) (by decide) (fun t ht => by obtain ⟨r, hr, rfl⟩ := List.mem_map.mp ht; exact ringT_no (.inr rfl) (f2 r hr).2.2) (by simp) (by decide +kernel)
      rw [← hmid] at es el
      refine ⟨_, rfl, _, rfl, _, rfl, _, rfl, _, rfl, (by rw [sizeLine_eq]; omega), ?_⟩
      rw [show Txt.slice (Str.ofString "(" ++ mid ++ Str.ofString ")") (some 1) (some (-1)) = mid from slice_mid]
      refine ⟨rfl, mid, _, rfl, rfl, (by decide +kernel), (by rw [sizeLine_eq]; omega), (by rw [el, List.length_map, sizeLine_eq]; omega), (by rw [es, List.length_map, sizeLine_eq]; omega), fun l hl => ?_⟩
      rw [es]
      obtain ⟨H1, e1⟩ : ∃ Hn, Hn = upd H l (.lst (((r0 :: rr).map ringT).map V.str)) := ⟨_, rfl⟩
      have s1 : Same H H1 := e1 ▸ Same.upd_new hl
      have h1l : H1 l = some (.lst (((r0 :: rr).map ringT).map V.str)) := by rw [e1, upd_same]
      rw [← e1]
      clear e1 et hmid es el nn
      generalize r0 :: rr = rs at *
      refine ⟨l, rfl, ⟨_, SqL.of h1l⟩, comp_list (K := K) (a := l) (xs := (rs.map ringT).map V.str) (fun i ys σ H2 => ∃ (v : Option V) (as : List Addr), σ = [v] ∧ ys = as.map V.ref ∧ Same H1 H2 ∧ RowsH H2 as (rs.take i)) ⟨none, [], rfl, rfl, Same.refl H1, ⟨by rw [List.take_zero]; rfl, fun j b r h => by simp at h⟩⟩ (fun i ys σ H2 _ ⟨_, _, _, _, s, _⟩ => SqL.of (s _ _ h1l)) ?_ ?_⟩
      · rintro i x ys σ H2 hi ⟨v, as, rfl, rfl, s2, rows⟩
        rw [List.map_map, List.getElem?_map] at hi
        cases hB : rs[i]? with
        | none => rw [hB] at hi; cases hi
        | some z =>
          rw [hB] at hi
          cases hi
          obtain ⟨z1, z2, z3⟩ := f2 z (List.mem_of_getElem? hB)
          refine ⟨_, rfl, z, rfl, z1, z2, z3, fun b H3 hb s3 h3b => ⟨small1000 (by rw [List.length_map, rows.1, List.length_take]; omega), _, as ++ [b], rfl, by rw [List.map_append]; rfl, s2.trans s3, ?_⟩⟩
          rw [take_succ_of hB]
          exact rows_snoc (rows_keep rows fun c _ o ho => s3 _ _ ho) h3b
      · rintro ys σ H2 ⟨v, as, rfl, rfl, s2, rows⟩ D hD
        rw [List.length_map, List.length_map, List.take_length] at rows
        have s3 : Same H2 (upd H2 D (.lst (as.map V.ref))) := Same.upd_new hD
        exact q D as _ ((s1.trans s2).free hD) ((s1.trans s2).trans s3) upd_same (rows_keep rows fun c _ o ho => s3 _ _ ho)
def spRead : Sp := fun vs H Q _ => ∃ (p : List Int), vs = [.str (turnT p)] ∧ IsT p ∧ p.length ≤ 40 ∧ ∀ l H', H l = none → Same H H' → H' l = some (.lst (p.map V.int)) → Q (.ref l) H'
theorem sc_read_turn : FnScope ["text", "rounds", "told"] ["text"] (defScope s_read_turn) := ⟨rfl, rfl, rfl, by decide +kernel, rfl, by decide +kernel, by decide +kernel⟩
theorem ok_read_turn {f : Addr} {fd : FuncData} (F : Fun K "read_turn" "read_turn" s_read_turn f fd) (B : Bl mg) (c_read_rounds : Cal P w K mg base "read_rounds" 3 ["text"] spReadRs) (c_from_rounds : Cal P w K mg base "from_rounds" 3 ["rounds"] spFrom) (c_show_turn : Cal P w K mg base "show_turn" 5 ["p"] spShow) : FnOk P w K mg base CX0 6 f fd ["text"] spRead := by
  refine F.ok sc_read_turn (fun vs H Q E h => ?_) (fun cdv A outer s H vs Q E hr h => ?_)
  · obtain ⟨p, rfl, tp, lp, q⟩ := h
    rfl
  · obtain ⟨p, rfl, tp, lp, q⟩ := h
    have hr_read_rounds : Room 3 _ := hr.mono (by decide)
    have hr_from_rounds : Room 3 _ := hr.mono (by decide)
    have hr_show_turn : Room 5 _ := hr.mono (by decide)
    refine ⟨_, @pss_cons _ _ _ _ _ (@ps_if _ _ _ _ _ _ _ _ (@pt_not _ _ _ _ (@pt_val _ _ _ (@pe_isi _ _ _ _ _ _ B.isi (@pa_cons _ _ _ _ _ (pv 0) (@pa_cons _ _ _ _ _ (@pe_tyStr _ _ B.str (by rfl)) (@pa_nil _) (by rfl)) (by rfl)) (by rfl) (by rfl) (by rfl)) (by intro _; rfl))) (@pss_one _ _ _ (@ps_never _ _)) (@pss_nil _)) (@pss_cons _ _ _ _ _ (@ps_set _ _ (1) _ _ _ _ sc_read_turn.nd rfl (Or.inl rfl) (@pe_cal _ _ _ _ _ _ _ _ _ _ c_read_rounds hr_read_rounds (@pa_cons _ _ _ _ _ (pv 0) (@pa_nil _) (by rfl)) (by rfl) (by decide) (by rfl) (by rfl)) (by rfl) (by first | exact .inl rfl | exact .inr rfl | assumption)) (@pss_cons _ _ _ _ _ (@ps_tryN _ _ _ _ _ _ (@pss_one _ _ _ (@ps_set _ _ (2) _ _ _ _ sc_read_turn.nd rfl (Or.inl rfl) (@pe_cal _ _ _ _ _ _ _ _ _ _ c_from_rounds hr_from_rounds (@pa_cons _ _ _ _ _ (pv 1) (@pa_nil _) (by rfl)) (by rfl) (by decide) (by rfl) (by rfl)) (by rfl) (by first | exact .inl rfl | exact .inr rfl | assumption))) (by intro _ _ h; exact h)) (@pss_cons _ _ _ _ _ (@ps_if _ _ _ _ _ _ _ _ (@pt_cmpR _ _ _ _ _ _ _ _ op_ne (@pe_cal _ _ _ _ _ _ _ _ _ _ c_show_turn hr_show_turn (@pa_cons _ _ _ _ _ (pv 2) (@pa_nil _) (by rfl)) (by rfl) (by decide) (by rfl) (by rfl)) (pv 0) (nomark _)) (@pss_one _ _ _ (@ps_never _ _)) (@pss_nil _)) (@pss_one _ _ _ (@ps_ret _ _ _ _ (pv 2)))))), ?_⟩
    have up := rings_up tp
    obtain ⟨f1, f2⟩ := rings_facts tp lp up
    have fl := up_flat tp up
    have lq : (ringsF p p.length).flatten.length = p.length := by rw [fl.length_eq, len_upTo]
    refine ⟨_, rfl, _, "str", _, true, rfl, .str _, kit_same K "str", true, rfl, ?_⟩
    refine iteF ⟨_, rfl, p, rfl, tp, lp, fun l as H1 hl s1 h1l rows => ?_⟩
    refine ⟨_, rfl, l, as, _, rfl, h1l, rows, fun r hr' => (f2 r hr').1, (isT_of_perm fl).1, by omega, fun fo t H2 hfo s2 h2fo lt hts => ?_⟩
    have etp : t = p := by
      refine ext_nx (n := p.length) (by omega) rfl fun x x0 x1 => ?_
      have hxm : x ∈ (ringsF p p.length).flatten := fl.mem_iff.mpr (mem_upTo.mpr ⟨x0, x1⟩)
      obtain ⟨r, hr', hxr⟩ := List.mem_flatten.mp hxm
      obtain ⟨y, L, hy, pr, er, _⟩ := up.ring r hr'
      rw [er] at hxr
      obtain ⟨jj, hjj, rfl⟩ := mem_ringL.mp hxr
      have hl' : jj < r.length := by rw [er, ringL_len]; exact hjj
      have h1 := hts r hr' jj hl'
      have rl : r.length = L := by rw [er, ringL_len]
      rw [rl, er, ringL_getD hjj, ringL_getD (Nat.mod_lt _ pr.pos), it_mod pr.back] at h1
      rw [nx_at0 (p := t) ⟨x0, by omega⟩] at h1
      exact Option.some.inj h1
    subst etp
    refine ⟨_, rfl, fo, t, rfl, ⟨h2fo, tp, lp⟩, fun H3 s3 => ?_⟩
    refine ⟨_, rfl, rfl, _, rfl, ?_⟩
    exact iteNS rfl ⟨_, rfl, q fo H3 (s1.free hfo) ((s1.trans s2).trans s3) (s3 _ _ h2fo)⟩
def ringsT : List (List Int) → Str
  | [] => Str.ofString ""
  | r :: rs => Str.ofString "(" ++ ringT r ++ Str.ofString ")" ++ ringsT rs
theorem ringsT_snoc : ∀ (rs : List (List Int)) (r : List Int), ringsT (rs ++ [r]) = ringsT rs ++ Str.ofString "(" ++ ringT r ++ Str.ofString ")"
  | [], r => by
    refine toL_inj ?_
    show (Str.ofString "(" ++ ringT r ++ Str.ofString ")" ++ Str.ofString "").cps.toList = (Str.ofString "" ++ Str.ofString "(" ++ ringT r ++ Str.ofString ")").cps.toList
    simp only [toL_append, show (Str.ofString "").cps.toList = [] by decide +kernel, List.append_nil, List.nil_append]
  | a :: rs, r => by
    refine toL_inj ?_
    show (Str.ofString "(" ++ ringT a ++ Str.ofString ")" ++ ringsT (rs ++ [r])).cps.toList = (Str.ofString "(" ++ ringT a ++ Str.ofString ")" ++ ringsT rs ++ Str.ofString "(" ++ ringT r ++ Str.ofString ")").cps.toList
    rw [ringsT_snoc rs r]
    simp only [toL_append, List.append_assoc]
theorem ringsT_eq : ∀ (r : List Int) (rs : List (List Int)), ringsT (r :: rs) = Str.ofString "(" ++ Txt.join (Str.ofString ")(") ((r :: rs).map ringT) ++ Str.ofString ")"
  | r, [] => by
    refine toL_inj ?_
    show (Str.ofString "(" ++ ringT r ++ Str.ofString ")" ++ Str.ofString "").cps.toList = (Str.ofString "(" ++ ringT r ++ Str.ofString ")").cps.toList
    simp only [toL_append, show (Str.ofString "").cps.toList = [] by decide +kernel, List.append_nil]
  | r, u :: rs => by
    have ih := congrArg (fun z : Str => z.cps.toList) (ringsT_eq u rs)
    have e1 : (Txt.join (Str.ofString ")(") ((u :: rs).map ringT)).cps.toList = Mth.joinL (Str.ofString ")(").cps.toList (((u :: rs).map ringT).map (·.cps.toList)) := by
      show (Builtin.Str.glued _ _).cps.toList = _
      rw [StrLaws.glued_eq_join, join_toL]
    have e2 : (Txt.join (Str.ofString ")(") ((r :: u :: rs).map ringT)).cps.toList = (ringT r).cps.toList ++ (Str.ofString ")(").cps.toList ++ Mth.joinL (Str.ofString ")(").cps.toList (((u :: rs).map ringT).map (·.cps.toList)) := by
      show (Builtin.Str.glued _ _).cps.toList = _
      rw [StrLaws.glued_eq_join, join_toL]
      rfl
    refine toL_inj ?_
    show (Str.ofString "(" ++ ringT r ++ Str.ofString ")" ++ ringsT (u :: rs)).cps.toList = _
    simp only [toL_append] at ih ⊢
    rw [ih, e1, e2, show (Str.ofString ")(").cps.toList = (Str.ofString ")").cps.toList ++ (Str.ofString "(").cps.toList by decide +kernel]
    simp only [List.append_assoc]
theorem ringsT_len : ∀ {rs : List (List Int)}, (∀ r ∈ rs, r ≠ [] ∧ r.length ≤ 40 ∧ ∀ x ∈ r, 0 ≤ x ∧ x < 40) → (ringsT rs).length ≤ rs.length * 122
  | [], _ => by show (Str.ofString "").length ≤ _; rw [show (Str.ofString "").length = 0 by decide +kernel]; omega
  | r :: rs, h => by
    have ih := ringsT_len fun y hy => h y (List.mem_cons_of_mem _ hy)
    have hr := h r List.mem_cons_self
    have l0 := ringT_len hr.2.1 hr.2.2
    show (Str.ofString "(" ++ ringT r ++ Str.ofString ")" ++ ringsT rs).length ≤ _
    rw [Str.length_append, Str.length_append, Str.length_append, show (Str.ofString "(").length = 1 by decide +kernel, show (Str.ofString ")").length = 1 by decide +kernel, List.length_cons, Nat.succ_mul]
    omega
theorem sc_law_written : FnScope ["p", "found", "one"] ["p"] (defScope s_law_written) := ⟨rfl, rfl, rfl, by decide +kernel, rfl, by decide +kernel, by decide +kernel⟩
theorem nd_thing_law_written : (["thing"] : List Str).Nodup := by decide +kernel
theorem ok_law_written {f : Addr} {fd : FuncData} (F : Fun K "_law_written" "_law_written" s_law_written f fd) (B : Bl mg) (c_law_rounds : Cal P w K mg base "_law_rounds" 1 ["p"] spRings) : FnOk P w K mg base CX0 2 f fd ["p"] spShow := by
  refine F.ok sc_law_written (fun vs H Q E h => ?_) (fun cdv A outer s H vs Q E hr h => ?_)
  · obtain ⟨a, p, rfl, tp, q⟩ := h
    rfl
  · obtain ⟨a, p, rfl, tp, q⟩ := h
    have hr_law_rounds : Room 1 _ := hr.mono (by decide)
    refine ⟨_, @pss_cons _ _ _ _ _ (@ps_set _ _ (1) _ _ _ _ sc_law_written.nd rfl (Or.inl rfl) (@pe_str _ _ _ _) (by rfl) (by first | exact .inl rfl | exact .inr rfl | assumption)) (@pss_cons _ _ _ _ _ (@ps_for _ _ _ _ _ _ _ _ PassesOwn.never rfl (@pi_list _ _ _ _ (@pe_cal _ _ _ _ _ _ _ _ _ _ c_law_rounds hr_law_rounds (@pa_cons _ _ _ _ _ (pv 0) (@pa_nil _) (by rfl)) (by rfl) (by decide) (by rfl) (by rfl))) (@pg_name _ _ (2) _ sc_law_written.nd rfl (Or.inl rfl) (by first | exact .inl rfl | exact .inr rfl | assumption)) (@pss_one _ _ _ (@ps_set _ _ (1) _ _ _ _ sc_law_written.nd rfl (Or.inl rfl) (@pe_op _ _ _ _ _ _ _ _ op_add_str (@pe_op _ _ _ _ _ _ _ _ op_add_str (@pe_op _ _ _ _ _ _ _ _ op_add_str (pv 1) (@pe_str _ _ _ _)) (@pe_join _ _ _ _ _ _ _ (@pe_str _ _ _ _) (@pa_cons _ _ _ _ _ (@pe_comp _ _ _ _ _ _ _ _ _ _ _ (["thing"]) (1) ([]) rfl .of (@pi_list _ _ _ _ (pv 2)) (fun _ _ _ _ _ => @pg_name _ _ (0) _ nd_thing_law_written rfl (Or.inl rfl) (by first | exact .inl rfl | exact .inr rfl | assumption)) (fun _ _ _ _ _ => (@pifs_nil _)) (fun _ _ _ _ _ => (@pe_strI _ _ _ _ _ B.str (@pa_cons _ _ _ _ _ (pv 0) (@pa_nil _) (by rfl)) (by rfl) (by rfl))) (by intro _; rfl)) (@pa_nil _) (by rfl)) (by rfl) (by rfl) (by rfl) (by rfl) (by rfl))) (@pe_str _ _ _ _)) (by rfl) (by first | exact .inl rfl | exact .inr rfl | assumption))) (by intro _; rfl)) (@pss_one _ _ _ (@ps_ret _ _ _ _ (@pe_ix _ _ _ _ _ _ _ ix_list (@pe_lst _ _ _ _ (@pa_cons _ _ _ _ _ (pv 1) (@pa_cons _ _ _ _ _ (@pe_str _ _ _ _) (@pa_nil _) (by rfl)) (by rfl))) (@pe_intB _ _ _ _ _ B.int (@pa_cons _ _ _ _ _ (@pe_cmpR _ _ _ _ _ _ _ _ op_eq (pv 1) (@pe_str _ _ _ _) (nomark _)) (@pa_nil _) (by rfl)) (by rfl) (by rfl)) (fun _ _ => rfl))))), ?_⟩
    refine ⟨_, rfl, a, p, rfl, tp, fun l as rs H1 hl s1 h1l rows up _ _ _ => ?_⟩
    obtain ⟨f1, f2⟩ := rings_facts tp.2.1 tp.2.2 up
    have l1 : (Str.ofString "(").length = 1 := by decide +kernel
    have l2 : (Str.ofString ")").length = 1 := by decide +kernel
    refine ⟨l, rfl, ⟨_, SqL.of h1l⟩, for_list (K := K) (a := l) (xs := as.map V.ref) (fun i σ H2 => ∃ v : Option V, σ = [some (.ref a), some (.str (ringsT (rs.take i))), v] ∧ Same H1 H2) ⟨none, rfl, Same.refl H1⟩ (fun i σ H2 _ ⟨_, _, s⟩ => SqL.of (s _ _ h1l)) ?_ ?_⟩
    · rintro i x σ H2 hi ⟨v, rfl, s2⟩
      rw [List.getElem?_map] at hi
      cases hB : as[i]? with
      | none => rw [hB] at hi; cases hi
      | some b =>
        rw [hB] at hi
        cases hi
        have hil : i < rs.length := by rw [← rows.1]; exact (List.getElem?_eq_some_iff.mp hB).1
        have hr' := List.getElem?_eq_getElem hil
        have hb := s2 _ _ (rows.2 i b _ hB hr')
        obtain ⟨r1, r2, r3⟩ := f2 rs[i] (List.getElem_mem hil)
        obtain ⟨r, er⟩ : ∃ r, r = rs[i] := ⟨_, rfl⟩
        rw [← er] at hb r1 r2 r3 hr'
        have tl := ringsT_len (rs := rs.take i) fun y hy => f2 y (List.mem_of_mem_take hy)
        rw [List.length_take] at tl
        have rl := ringT_len r2 r3
        refine ⟨_, rfl, _, _, rfl, rfl, (by rw [l1, sizeLine_eq]; omega), rfl, ?_⟩
        refine ⟨_, rfl, b, rfl, ⟨_, SqL.of hb⟩, comp_list (K := K) (a := b) (xs := r.map V.int) (fun i ys σ H3 => ∃ v : Option V, σ = [v] ∧ H3 = H2 ∧ ys = ((r.take i).map digT).map V.str) ⟨none, rfl, rfl, rfl⟩ (fun i ys σ H3 _ ⟨_, _, e, _⟩ => by rw [e]; exact SqL.of hb) ?_ ?_⟩
        · rintro i x ys σ H3 hi ⟨v, rfl, rfl, rfl⟩
          obtain ⟨z, hz, rfl⟩ := getElem_int hi
          have zb := r3 z (List.mem_of_getElem? hz)
          refine ⟨_, rfl, z, rfl, log40 (by decide) zb.1 zb.2, small1000 (by simp only [List.length_map, List.length_take]; omega), _, rfl, rfl, ?_⟩
          rw [take_succ_of hz, List.map_append, List.map_append]
          rfl
        · rintro ys σ H3 ⟨v, rfl, rfl, rfl⟩ D hD
          rw [List.length_map, List.take_length]
          refine ⟨Str.ofString " ", D, r.map digT, rfl, rfl, SqL.of upd_same, joinOk_of (B := 2) (fun y hy => ?_) ?_, ?_⟩
          · obtain ⟨i, hi, rfl⟩ := List.mem_map.mp hy
            exact (dig_ok (r3 i hi).1 (r3 i hi).2).1
          · have sl : (Str.ofString " ").length = 1 := by decide +kernel
            rw [List.length_map, sl]; omega
          · have rl' : (Txt.join (Str.ofString " ") (r.map digT)).length ≤ 120 := rl
            refine ⟨_, _, rfl, rfl, (by rw [Str.length_append, l1, sizeLine_eq]; omega), _, _, rfl, rfl, (by rw [Str.length_append, Str.length_append, l1, l2, sizeLine_eq]; omega), ?_⟩
            refine ⟨some (.ref b), ?_, s2.trans (Same.upd_new hD)⟩
            rw [take_succ_of hr', ringsT_snoc]
            rfl
    · rintro σ H2 ⟨v, rfl, s2⟩
      rw [List.length_map, rows.1, List.take_length]
      have et : turnT p = Str.ofString "(" ++ Txt.join (Str.ofString ")(") (rs.map ringT) ++ Str.ofString ")" := by unfold turnT; rw [← up.eq]
      refine ⟨_, rfl, (show 2 ≤ sizeLine by decide), fun w hw => ?_⟩
      refine ⟨_, rfl, rfl, _, rfl, w, _, _, .str (turnT p), rfl, rfl, SqL.of upd_same, ?_, q _ ((s1.trans s2).trans (Same.upd_new hw))⟩
      cases rs with
      | nil =>
        rw [et]
        show atI [V.str (Str.ofString ""), V.str (Str.ofString "()")] (if decide (V.str (Str.ofString "") = V.str (Str.ofString "")) = true then 1 else 0) = _
        rw [decide_eq_true rfl, if_pos rfl]
        exact atI_nat (j := 1) (by decide +kernel)
      | cons r0 rr =>
        rw [et, ← ringsT_eq]
        have nn : ¬ V.str (ringsT (r0 :: rr)) = V.str (Str.ofString "") := fun z => by
          have := congrArg Str.length (V.str.inj z)
          have e : (ringsT (r0 :: rr)).length = 1 + (ringT r0).length + 1 + (ringsT rr).length := by
            show (Str.ofString "(" ++ ringT r0 ++ Str.ofString ")" ++ ringsT rr).length = _
            rw [Str.length_append, Str.length_append, Str.length_append, l1, l2]
          rw [e, show (Str.ofString "").length = 0 by decide +kernel] at this
          omega
        rw [decide_eq_false nn, if_neg (by decide)]
        exact atI_nat (j := 0) rfl
end
end My
namespace My
open PySem L2 Mth
section
variable {P : Program} {w : World} {K : PySem.W.Frag} {mg : Str → Option Value} {base : Heap}
theorem kit_int_tuple (K : PySem.W.Frag) : PySem.W.kitOne K (.type "int") (.type "tuple") = some false := kit_no K (by decide +kernel) (by decide +kernel) (by decide +kernel)
theorem kit_int_str (K : PySem.W.Frag) : PySem.W.kitOne K (.type "int") (.type "str") = some false := kit_no K (by decide +kernel) (by decide +kernel) (by decide +kernel)
theorem kit_list_tuple (K : PySem.W.Frag) : PySem.W.kitOne K (.type "list") (.type "tuple") = some false := kit_no K (by decide +kernel) (by decide +kernel) (by decide +kernel)
def spAlikeI : Sp := fun vs H Q _ => ∃ (i : Int), vs = [.int i, .int i] ∧ ∀ H', Same H H' → Q (.bl true) H'
theorem sc_law_alike : FnScope ["found", "due"] ["found", "due"] (defScope s_law_alike) := ⟨rfl, rfl, rfl, by decide +kernel, rfl, by decide +kernel, by decide +kernel⟩
theorem nd_k_found_due_law_alike : (["k", "found", "due"] : List Str).Nodup := by decide +kernel
theorem ok_law_alike {f : Addr} {fd : FuncData} (F : Fun K "_law_alike" "_law_alike" s_law_alike f fd) (B : Bl mg) : FnOk P w K mg base CX0 1 f fd ["found", "due"] spAlikeI := by
  refine F.ok sc_law_alike (fun vs H Q E h => ?_) (fun cdv A outer s H vs Q E hr h => ?_)
  · obtain ⟨i, rfl, q⟩ := h
    rfl
  · obtain ⟨i, rfl, q⟩ := h
    have hu := hu_of hr
    refine ⟨_, @pss_cons _ _ _ _ _ (@ps_if _ _ _ _ _ _ _ _ (@pt_cmpR _ _ _ _ _ _ _ _ op_isN (pv 1) (@pe_non _ _ _) (nomark _)) (@pss_one _ _ _ (@ps_ret _ _ _ _ (@pe_cmpR _ _ _ _ _ _ _ _ op_isN (pv 0) (@pe_non _ _ _) (nomark _)))) (@pss_nil _)) (@pss_cons _ _ _ _ _ (@ps_if _ _ _ _ _ _ _ _ (@pw_or _ _ _ _ _ _ _ (@pt_val _ _ _ (@pe_isi _ _ _ _ _ _ B.isi (@pa_cons _ _ _ _ _ (pv 1) (@pa_cons _ _ _ _ _ (@pe_tyTuple _ _ B.tuple (by rfl)) (@pa_nil _) (by rfl)) (by rfl)) (by rfl) (by rfl) (by rfl)) (by intro _; rfl)) (@pw_or1 _ _ _ _ (@pt_val _ _ _ (@pe_isi _ _ _ _ _ _ B.isi (@pa_cons _ _ _ _ _ (pv 1) (@pa_cons _ _ _ _ _ (@pe_tyList _ _ B.list (by rfl)) (@pa_nil _) (by rfl)) (by rfl)) (by rfl) (by rfl) (by rfl)) (by intro _; rfl)))).pt (@pss_cons _ _ _ _ _ (@ps_if _ _ _ _ _ _ _ _ (@pw_or _ _ _ _ _ _ _ (@pt_cmpR _ _ _ _ _ _ _ _ op_ne (@pe_isi _ _ _ _ _ _ B.isi (@pa_cons _ _ _ _ _ (pv 0) (@pa_cons _ _ _ _ _ (@pe_tyTuple _ _ B.tuple (by rfl)) (@pa_nil _) (by rfl)) (by rfl)) (by rfl) (by rfl) (by rfl)) (@pe_isi _ _ _ _ _ _ B.isi (@pa_cons _ _ _ _ _ (pv 1) (@pa_cons _ _ _ _ _ (@pe_tyTuple _ _ B.tuple (by rfl)) (@pa_nil _) (by rfl)) (by rfl)) (by rfl) (by rfl) (by rfl)) (nomark _)) (@pw_or1 _ _ _ _ (@pt_cmpR _ _ _ _ _ _ _ _ op_ne (@pe_isi _ _ _ _ _ _ B.isi (@pa_cons _ _ _ _ _ (pv 0) (@pa_cons _ _ _ _ _ (@pe_tyList _ _ B.list (by rfl)) (@pa_nil _) (by rfl)) (by rfl)) (by rfl) (by rfl) (by rfl)) (@pe_isi _ _ _ _ _ _ B.isi (@pa_cons _ _ _ _ _ (pv 1) (@pa_cons _ _ _ _ _ (@pe_tyList _ _ B.list (by rfl)) (@pa_nil _) (by rfl)) (by rfl)) (by rfl) (by rfl) (by rfl)) (nomark _)))).pt (@pss_one _ _ _ (@ps_ret _ _ _ _ (@pe_bl _ _ _ _))) (@pss_nil _)) (@pss_cons _ _ _ _ _ (@ps_if _ _ _ _ _ _ _ _ (@pt_cmpR _ _ _ _ _ _ _ _ op_ne (@pe_lenL _ _ _ _ _ B.len (@pa_cons _ _ _ _ _ (pv 0) (@pa_nil _) (by rfl)) (by rfl) (by rfl)) (@pe_lenL _ _ _ _ _ B.len (@pa_cons _ _ _ _ _ (pv 1) (@pa_nil _) (by rfl)) (by rfl) (by rfl)) (nomark _)) (@pss_one _ _ _ (@ps_ret _ _ _ _ (@pe_bl _ _ _ _))) (@pss_nil _)) (@pss_one _ _ _ (@ps_ret _ _ _ _ (@pe_cmpR _ _ _ _ _ _ _ _ (op_eqL 0 hu) (@pe_comp _ _ _ _ _ _ _ _ _ _ _ (["k", "found", "due"]) (1) ([0, 1]) rfl .of (@pi_range1 _ _ _ _ _ _ (by rfl) B.range (@pa_cons _ _ _ _ _ (@pe_lenL _ _ _ _ _ B.len (@pa_cons _ _ _ _ _ (pv 1) (@pa_nil _) (by rfl)) (by rfl) (by rfl)) (@pa_nil _) (by rfl)) (by rfl)) (fun _ _ _ _ _ => @pg_name _ _ (0) _ nd_k_found_due_law_alike rfl (Or.inl rfl) (by first | exact .inl rfl | exact .inr rfl | assumption)) (fun _ _ _ _ _ => @pifs_one _ _ _ (@pt_not _ _ _ _ (@pt_val _ _ _ (@pe_never _ _) (by intro _; rfl)))) (fun _ _ _ _ _ => (pv 0)) (by intro _; rfl)) (@pe_lst _ _ _ _ (@pa_nil _)) (nomark _)))))) (@pss_nil _)) (@pss_cons _ _ _ _ _ (@ps_if _ _ _ _ _ _ _ _ (@pt_val _ _ _ (@pe_isi _ _ _ _ _ _ B.isi (@pa_cons _ _ _ _ _ (pv 1) (@pa_cons _ _ _ _ _ (@pe_tyStr _ _ B.str (by rfl)) (@pa_nil _) (by rfl)) (by rfl)) (by rfl) (by rfl) (by rfl)) (by intro _; rfl)) (@pss_one _ _ _ (@ps_ret _ _ _ _ (@pe_and _ _ _ _ _ _ _ (@pe_isi _ _ _ _ _ _ B.isi (@pa_cons _ _ _ _ _ (pv 0) (@pa_cons _ _ _ _ _ (@pe_tyStr _ _ B.str (by rfl)) (@pa_nil _) (by rfl)) (by rfl)) (by rfl) (by rfl) (by rfl)) (@pe_one _ _ _ _ _ (@pe_cmpR _ _ _ _ _ _ _ _ op_eq (pv 0) (pv 1) (nomark _)))))) (@pss_nil _)) (@pss_one _ _ _ (@ps_ret _ _ _ _ (@pe_and _ _ _ _ _ _ _ (@pe_isi _ _ _ _ _ _ B.isi (@pa_cons _ _ _ _ _ (pv 0) (@pa_cons _ _ _ _ _ (@pe_tyInt _ _ B.int (by rfl)) (@pa_nil _) (by rfl)) (by rfl)) (by rfl) (by rfl) (by rfl)) (@pe_and _ _ _ _ _ _ _ (@pe_not _ _ _ _ (@pe_isi _ _ _ _ _ _ B.isi (@pa_cons _ _ _ _ _ (pv 0) (@pa_cons _ _ _ _ _ (@pe_tyBool _ _ B.bool (by rfl)) (@pa_nil _) (by rfl)) (by rfl)) (by rfl) (by rfl) (by rfl))) (@pe_one _ _ _ _ _ (@pe_cmpR _ _ _ _ _ _ _ _ op_eq (pv 0) (pv 1) (nomark _))))))))), ?_⟩
    refine ⟨_, rfl, rfl, _, rfl, ?_⟩
    rw [decide_eq_false (show ¬ V.int i = V.non from fun z => by cases z)]
    refine iteF ⟨_, rfl, _, "tuple", _, false, rfl, .int i, kit_int_tuple K, false, rfl, ?_⟩
    refine iteF ⟨_, rfl, _, "list", _, false, rfl, .int i, kit_int_list K, false, rfl, ?_⟩
    refine iteF ⟨_, rfl, _, "str", _, false, rfl, .int i, kit_int_str K, false, rfl, ?_⟩
    refine iteF ⟨_, rfl, _, "int", _, true, rfl, .int i, kit_same K "int", true, rfl, ?_⟩
    refine iteT ⟨_, rfl, _, "bool", _, false, rfl, .int i, kit_int_bool K, _, rfl, _, rfl, ?_⟩
    refine iteT ⟨_, rfl, _, rfl, rfl, ?_⟩
    rw [decide_eq_true rfl]
    exact q H (Same.refl H)
def spAlikeL : Sp := fun vs H Q _ => ∃ (a b : Addr) (p : List Int), vs = [.ref a, .ref b] ∧ H a = some (.lst (p.map V.int)) ∧ H b = some (.lst (p.map V.int)) ∧ p.length ≤ 40 ∧ ∀ H', Same H H' → Q (.bl true) H'
theorem okr_law_alike {f : Addr} {fd : FuncData} (F : Fun K "_law_alike" "_law_alike" s_law_alike f fd) (B : Bl mg) (c_law_alike : Cal P w K mg base "_law_alike" 1 ["found", "due"] spAlikeI) : FnOk P w K mg base CX0 2 f fd ["found", "due"] spAlikeL := by
  refine F.ok sc_law_alike (fun vs H Q E h => ?_) (fun cdv A outer s H vs Q E hr h => ?_)
  · obtain ⟨a, b, p, rfl, ha, hb, lp, q⟩ := h
    rfl
  · obtain ⟨a, b, p, rfl, ha, hb, lp, q⟩ := h
    have hr_law_alike : Room 1 _ := hr.mono (by decide)
    have hu := hu_of hr
    refine ⟨_, @pss_cons _ _ _ _ _ (@ps_if _ _ _ _ _ _ _ _ (@pt_cmpR _ _ _ _ _ _ _ _ op_isN (pv 1) (@pe_non _ _ _) (nomark _)) (@pss_one _ _ _ (@ps_ret _ _ _ _ (@pe_cmpR _ _ _ _ _ _ _ _ op_isN (pv 0) (@pe_non _ _ _) (nomark _)))) (@pss_nil _)) (@pss_cons _ _ _ _ _ (@ps_if _ _ _ _ _ _ _ _ (@pw_or _ _ _ _ _ _ _ (@pt_val _ _ _ (@pe_isi _ _ _ _ _ _ B.isi (@pa_cons _ _ _ _ _ (pv 1) (@pa_cons _ _ _ _ _ (@pe_tyTuple _ _ B.tuple (by rfl)) (@pa_nil _) (by rfl)) (by rfl)) (by rfl) (by rfl) (by rfl)) (by intro _; rfl)) (@pw_or1 _ _ _ _ (@pt_val _ _ _ (@pe_isi _ _ _ _ _ _ B.isi (@pa_cons _ _ _ _ _ (pv 1) (@pa_cons _ _ _ _ _ (@pe_tyList _ _ B.list (by rfl)) (@pa_nil _) (by rfl)) (by rfl)) (by rfl) (by rfl) (by rfl)) (by intro _; rfl)))).pt (@pss_cons _ _ _ _ _ (@ps_if _ _ _ _ _ _ _ _ (@pw_or _ _ _ _ _ _ _ (@pt_cmpR _ _ _ _ _ _ _ _ op_ne (@pe_isi _ _ _ _ _ _ B.isi (@pa_cons _ _ _ _ _ (pv 0) (@pa_cons _ _ _ _ _ (@pe_tyTuple _ _ B.tuple (by rfl)) (@pa_nil _) (by rfl)) (by rfl)) (by rfl) (by rfl) (by rfl)) (@pe_isi _ _ _ _ _ _ B.isi (@pa_cons _ _ _ _ _ (pv 1) (@pa_cons _ _ _ _ _ (@pe_tyTuple _ _ B.tuple (by rfl)) (@pa_nil _) (by rfl)) (by rfl)) (by rfl) (by rfl) (by rfl)) (nomark _)) (@pw_or1 _ _ _ _ (@pt_cmpR _ _ _ _ _ _ _ _ op_ne (@pe_isi _ _ _ _ _ _ B.isi (@pa_cons _ _ _ _ _ (pv 0) (@pa_cons _ _ _ _ _ (@pe_tyList _ _ B.list (by rfl)) (@pa_nil _) (by rfl)) (by rfl)) (by rfl) (by rfl) (by rfl)) (@pe_isi _ _ _ _ _ _ B.isi (@pa_cons _ _ _ _ _ (pv 1) (@pa_cons _ _ _ _ _ (@pe_tyList _ _ B.list (by rfl)) (@pa_nil _) (by rfl)) (by rfl)) (by rfl) (by rfl) (by rfl)) (nomark _)))).pt (@pss_one _ _ _ (@ps_ret _ _ _ _ (@pe_bl _ _ _ _))) (@pss_nil _)) (@pss_cons _ _ _ _ _ (@ps_if _ _ _ _ _ _ _ _ (@pt_cmpR _ _ _ _ _ _ _ _ op_ne (@pe_lenL _ _ _ _ _ B.len (@pa_cons _ _ _ _ _ (pv 0) (@pa_nil _) (by rfl)) (by rfl) (by rfl)) (@pe_lenL _ _ _ _ _ B.len (@pa_cons _ _ _ _ _ (pv 1) (@pa_nil _) (by rfl)) (by rfl) (by rfl)) (nomark _)) (@pss_one _ _ _ (@ps_ret _ _ _ _ (@pe_bl _ _ _ _))) (@pss_nil _)) (@pss_one _ _ _ (@ps_ret _ _ _ _ (@pe_cmpR _ _ _ _ _ _ _ _ (op_eqL 0 hu) (@pe_comp _ _ _ _ _ _ _ _ _ _ _ (["k", "found", "due"]) (1) ([0, 1]) rfl .of (@pi_range1 _ _ _ _ _ _ (by rfl) B.range (@pa_cons _ _ _ _ _ (@pe_lenL _ _ _ _ _ B.len (@pa_cons _ _ _ _ _ (pv 1) (@pa_nil _) (by rfl)) (by rfl) (by rfl)) (@pa_nil _) (by rfl)) (by rfl)) (fun _ _ _ _ _ => @pg_name _ _ (0) _ nd_k_found_due_law_alike rfl (Or.inl rfl) (by first | exact .inl rfl | exact .inr rfl | assumption)) (fun _ _ _ _ _ => @pifs_one _ _ _ (@pt_not _ _ _ _ (@pt_val _ _ _ (@pe_cal _ _ _ _ _ _ _ _ _ _ c_law_alike hr_law_alike (@pa_cons _ _ _ _ _ (@pe_ix _ _ _ _ _ _ (rIxL K) ix_list (pv 1) (pv 0) (fun _ _ => rfl)) (@pa_cons _ _ _ _ _ (@pe_ix _ _ _ _ _ _ (rIxL K) ix_list (pv 2) (pv 0) (fun _ _ => rfl)) (@pa_nil _) (by rfl)) (by rfl)) (by rfl) (by decide) (by rfl) (by rfl)) (by intro _; rfl)))) (fun _ _ _ _ _ => (pv 0)) (by intro _; rfl)) (@pe_lst _ _ _ _ (@pa_nil _)) (nomark _)))))) (@pss_nil _)) (@pss_cons _ _ _ _ _ (@ps_if _ _ _ _ _ _ _ _ (@pt_val _ _ _ (@pe_isi _ _ _ _ _ _ B.isi (@pa_cons _ _ _ _ _ (pv 1) (@pa_cons _ _ _ _ _ (@pe_tyStr _ _ B.str (by rfl)) (@pa_nil _) (by rfl)) (by rfl)) (by rfl) (by rfl) (by rfl)) (by intro _; rfl)) (@pss_one _ _ _ (@ps_ret _ _ _ _ (@pe_and _ _ _ _ _ _ _ (@pe_isi _ _ _ _ _ _ B.isi (@pa_cons _ _ _ _ _ (pv 0) (@pa_cons _ _ _ _ _ (@pe_tyStr _ _ B.str (by rfl)) (@pa_nil _) (by rfl)) (by rfl)) (by rfl) (by rfl) (by rfl)) (@pe_one _ _ _ _ _ (@pe_cmpR _ _ _ _ _ _ _ _ op_eq (pv 0) (pv 1) (nomark _)))))) (@pss_nil _)) (@pss_one _ _ _ (@ps_ret _ _ _ _ (@pe_and _ _ _ _ _ _ _ (@pe_isi _ _ _ _ _ _ B.isi (@pa_cons _ _ _ _ _ (pv 0) (@pa_cons _ _ _ _ _ (@pe_tyInt _ _ B.int (by rfl)) (@pa_nil _) (by rfl)) (by rfl)) (by rfl) (by rfl) (by rfl)) (@pe_and _ _ _ _ _ _ _ (@pe_not _ _ _ _ (@pe_isi _ _ _ _ _ _ B.isi (@pa_cons _ _ _ _ _ (pv 0) (@pa_cons _ _ _ _ _ (@pe_tyBool _ _ B.bool (by rfl)) (@pa_nil _) (by rfl)) (by rfl)) (by rfl) (by rfl) (by rfl))) (@pe_one _ _ _ _ _ (@pe_cmpR _ _ _ _ _ _ _ _ op_eq (pv 0) (pv 1) (nomark _))))))))), ?_⟩
    refine ⟨_, rfl, rfl, _, rfl, ?_⟩
    rw [decide_eq_false (show ¬ V.ref b = V.non from fun z => by cases z)]
    refine iteF ⟨_, rfl, _, "tuple", _, false, rfl, .lst hb, kit_list_tuple K, false, rfl, ?_⟩
    refine iteF ⟨_, rfl, _, "list", _, true, rfl, .lst hb, kit_same K "list", true, rfl, ?_⟩
    refine iteT ?_
    refine ⟨_, rfl, _, "tuple", _, false, rfl, .lst ha, kit_list_tuple K, _, rfl, _, "tuple", _, false, rfl, .lst hb, kit_list_tuple K, rfl, _, rfl, ?_⟩
    refine iteNS rfl ⟨_, rfl, _, "list", _, true, rfl, .lst ha, kit_same K "list", _, rfl, _, "list", _, true, rfl, .lst hb, kit_same K "list", rfl, _, rfl, ?_⟩
    refine iteNS rfl ?_
    refine ⟨_, rfl, a, _, rfl, .inl (SqL.of ha), _, rfl, b, _, rfl, .inl (SqL.of hb), rfl, _, rfl, ?_⟩
    refine iteNS rfl ?_
    refine ⟨_, rfl, b, _, rfl, .inl (SqL.of hb), (p.length : Int), by rw [List.length_map], by omega, by omega, ?_⟩
    rw [show ((p.length : Int)).toNat = p.length by omega]
    refine comp_range (lo := 0) (n := p.length) (fun i ys σ H1 => ∃ v : Option V, σ = [v, some (.ref a), some (.ref b)] ∧ ys = [] ∧ Same H H1) ⟨none, rfl, rfl, Same.refl H⟩ ?_ ?_
    · rintro i ys σ H1 hi ⟨v, rfl, rfl, s1⟩
      refine ⟨_, rfl, _, rfl, a, _, _, _, rfl, rfl, SqL.of (s1 _ _ ha), atI_getD hi, _, rfl, _, rfl, b, _, _, _, rfl, rfl, SqL.of (s1 _ _ hb), atI_getD hi, _, rfl, fun H2 s2 => ⟨true, rfl, ?_⟩⟩
      exact iteF ⟨_, rfl, rfl, s1.trans s2⟩
    · rintro ys σ H1 ⟨v, rfl, rfl, s1⟩ D hD
      have s2 : Same H1 (upd H1 D (.lst [])) := Same.upd_new hD
      have h2 : (upd H1 D (.lst [])) D = some (.lst []) := upd_same
      generalize (upd H1 D (.lst [])) = H2 at s2 h2 ⊢
      refine ⟨Nat.zero_le _, fun e he => ?_⟩
      have s3 : Same H2 (upd H2 e (.lst [])) := Same.upd_new he
      have h3 : (upd H2 e (.lst [])) e = some (.lst []) := upd_same
      generalize (upd H2 e (.lst [])) = H3 at s3 h3 ⊢
      exact ⟨D, e, _, _, _, rfl, rfl, SqL.of (s3 _ _ h2), SqL.of h3, leq_nil _ _ _ _, q H3 ((s1.trans s2).trans s3)⟩
def spLaw (K : PySem.W.Frag) : Sp := fun vs H Q _ => ∃ (a : Addr) (ns : List Int), vs = [.ref a] ∧ SqL K H a (ns.map V.int) ∧ ns.length ≤ 63 ∧ ∀ H', Q (.bl true) H'
theorem sc_law : FnScope ["script", "k", "p", "due", "handed", "found", "told"] ["script"] (defScope s_law) := ⟨rfl, rfl, rfl, by decide +kernel, rfl, by decide +kernel, by decide +kernel⟩
theorem ok_law {f : Addr} {fd : FuncData} (F : Fun K "law" "law" s_law f fd) (B : Bl mg) (c_law_turn : Cal P w K mg base "_law_turn" 2 ["deck", "most"] spTurn5) (c_law_deck : Cal P w K mg base "_law_deck" 2 ["cell", "many"] spNumbers) (c_law_cell_at : Cal P w K mg base "_law_cell_at" 1 ["script", "k"] (spCell K)) (c_law_written : Cal P w K mg base "_law_written" 2 ["p"] spShow) (c_show_turn : Cal P w K mg base "show_turn" 5 ["p"] spShow) (c_read_turn : Cal P w K mg base "read_turn" 6 ["text"] spRead) (c_law_alike : Cal P w K mg base "_law_alike" 2 ["found", "due"] (orSp spAlikeI spAlikeL)) : FnOk P w K mg base CX0 7 f fd ["script"] (spLaw K) := by
  refine F.ok sc_law (fun vs H Q E h => ?_) (fun cdv A outer s H vs Q E hr h => ?_)
  · obtain ⟨sc, ns, rfl, hsc, hns, q⟩ := h
    rfl
  · obtain ⟨sc, ns, rfl, hsc, hns, q⟩ := h
    have hr_law_turn : Room 2 _ := hr.mono (by decide)
    have hr_law_deck : Room 2 _ := hr.mono (by decide)
    have hr_law_cell_at : Room 1 _ := hr.mono (by decide)
    have hr_law_written : Room 2 _ := hr.mono (by decide)
    have hr_show_turn : Room 5 _ := hr.mono (by decide)
    have hr_read_turn : Room 6 _ := hr.mono (by decide)
    have hr_law_alike : Room 2 _ := hr.mono (by decide)
    have hu := hu_of hr
    refine ⟨_, @pss_cons _ _ _ _ _ (@ps_for _ _ _ _ _ _ _ _ PassesOwn.never rfl (@pi_range1 _ _ _ _ _ _ (by rfl) B.range (@pa_cons _ _ _ _ _ (@pe_max2 _ _ _ _ _ _ rfl B.max (@pa_cons _ _ _ _ _ (@pe_int _ _ _ _) (@pa_cons _ _ _ _ _ (@pe_min2 _ _ _ _ _ _ rfl B.min (@pa_cons _ _ _ _ _ (@pe_lenL _ _ _ _ _ B.len (@pa_cons _ _ _ _ _ (pv 0) (@pa_nil _) (by rfl)) (by rfl) (by rfl)) (@pa_cons _ _ _ _ _ (@pe_int _ _ _ _) (@pa_nil _) (by rfl)) (by rfl)) (by rfl) (by rfl) (by rfl)) (@pa_nil _) (by rfl)) (by rfl)) (by rfl) (by rfl) (by rfl)) (@pa_nil _) (by rfl)) (by rfl)) (@pg_name _ _ (1) _ sc_law.nd rfl (Or.inl rfl) (by first | exact .inl rfl | exact .inr rfl | assumption)) (@pss_cons _ _ _ _ _ (@ps_set _ _ (2) _ _ _ _ sc_law.nd rfl (Or.inl rfl) (@pe_cal _ _ _ _ _ _ _ _ _ _ c_law_turn hr_law_turn (@pa_cons _ _ _ _ _ (@pe_cal _ _ _ _ _ _ _ _ _ _ c_law_deck hr_law_deck (@pa_cons _ _ _ _ _ (@pe_cal _ _ _ _ _ _ _ _ _ _ c_law_cell_at hr_law_cell_at (@pa_cons _ _ _ _ _ (pv 0) (@pa_cons _ _ _ _ _ (pv 1) (@pa_nil _) (by rfl)) (by rfl)) (by rfl) (by decide) (by rfl) (by rfl)) (@pa_cons _ _ _ _ _ (@pe_int _ _ _ _) (@pa_nil _) (by rfl)) (by rfl)) (by rfl) (by decide) (by rfl) (by rfl)) (@pa_cons _ _ _ _ _ (@pe_int _ _ _ _) (@pa_nil _) (by rfl)) (by rfl)) (by rfl) (by decide) (by rfl) (by rfl)) (by rfl) (by first | exact .inl rfl | exact .inr rfl | assumption)) (@pss_cons _ _ _ _ _ (@ps_set _ _ (3) _ _ _ _ sc_law.nd rfl (Or.inl rfl) (@pe_cal _ _ _ _ _ _ _ _ _ _ c_law_written hr_law_written (@pa_cons _ _ _ _ _ (pv 2) (@pa_nil _) (by rfl)) (by rfl) (by decide) (by rfl) (by rfl)) (by rfl) (by first | exact .inl rfl | exact .inr rfl | assumption)) (@pss_cons _ _ _ _ _ (@ps_set _ _ (4) _ _ _ _ sc_law.nd rfl (Or.inl rfl) (@pe_listOf _ _ _ _ _ B.list (@pa_cons _ _ _ _ _ (pv 2) (@pa_nil _) (by rfl)) (by rfl) (by rfl)) (by rfl) (by first | exact .inl rfl | exact .inr rfl | assumption)) (@pss_cons _ _ _ _ _ (@ps_set _ _ (5) _ _ _ _ sc_law.nd rfl (Or.inl rfl) (@pe_cal _ _ _ _ _ _ _ _ _ _ c_show_turn hr_show_turn (@pa_cons _ _ _ _ _ (pv 4) (@pa_nil _) (by rfl)) (by rfl) (by decide) (by rfl) (by rfl)) (by rfl) (by first | exact .inl rfl | exact .inr rfl | assumption)) (@pss_cons _ _ _ _ _ (@ps_if _ _ _ _ _ _ _ _ (@pw_or _ _ _ _ _ _ _ (@pt_not _ _ _ _ (@pt_val _ _ _ (@pe_isi _ _ _ _ _ _ B.isi (@pa_cons _ _ _ _ _ (pv 5) (@pa_cons _ _ _ _ _ (@pe_tyStr _ _ B.str (by rfl)) (@pa_nil _) (by rfl)) (by rfl)) (by rfl) (by rfl) (by rfl)) (by intro _; rfl))) (@pw_or _ _ _ _ _ _ _ (@pt_cmpR _ _ _ _ _ _ _ _ op_ne (pv 5) (pv 3) (nomark _)) (@pw_or1 _ _ _ _ (@pt_cmpR _ _ _ _ _ _ _ _ (op_neL 0 hu) (pv 4) (pv 2) (nomark _))))).pt (@pss_one _ _ _ (@ps_ret _ _ _ _ (@pe_bl _ _ _ _))) (@pss_nil _)) (@pss_cons _ _ _ _ _ (@ps_set _ _ (6) _ _ _ _ sc_law.nd rfl (Or.inl rfl) (@pe_cal _ _ _ _ _ _ _ _ _ _ c_read_turn hr_read_turn (@pa_cons _ _ _ _ _ (pv 3) (@pa_nil _) (by rfl)) (by rfl) (by decide) (by rfl) (by rfl)) (by rfl) (by first | exact .inl rfl | exact .inr rfl | assumption)) (@pss_cons _ _ _ _ _ (@ps_if _ _ _ _ _ _ _ _ (@pt_not _ _ _ _ (@pt_val _ _ _ (@pe_cal _ _ _ _ _ _ _ _ _ _ c_law_alike hr_law_alike (@pa_cons _ _ _ _ _ (pv 6) (@pa_cons _ _ _ _ _ (pv 2) (@pa_nil _) (by rfl)) (by rfl)) (by rfl) (by decide) (by rfl) (by rfl)) (by intro _; rfl))) (@pss_one _ _ _ (@ps_ret _ _ _ _ (@pe_bl _ _ _ _))) (@pss_nil _)) (@pss_cons _ _ _ _ _ (@ps_expr _ _ _ _ (@pe_append _ _ _ _ _ _ _ (pv 6) (@pa_cons _ _ _ _ _ (@pe_lenL _ _ _ _ _ B.len (@pa_cons _ _ _ _ _ (pv 2) (@pa_nil _) (by rfl)) (by rfl) (by rfl)) (@pa_nil _) (by rfl)) (by rfl) (by rfl) (by rfl) (by rfl) (by rfl)) (by rfl)) (@pss_one _ _ _ (@ps_if _ _ _ _ _ _ _ _ (@pw_or _ _ _ _ _ _ _ (@pt_not _ _ _ _ (@pt_val _ _ _ (@pe_cal _ _ _ _ _ _ _ _ _ _ c_law_alike hr_law_alike (@pa_cons _ _ _ _ _ (@pe_cal _ _ _ _ _ _ _ _ _ _ c_read_turn hr_read_turn (@pa_cons _ _ _ _ _ (pv 3) (@pa_nil _) (by rfl)) (by rfl) (by decide) (by rfl) (by rfl)) (@pa_cons _ _ _ _ _ (pv 2) (@pa_nil _) (by rfl)) (by rfl)) (by rfl) (by decide) (by rfl) (by rfl)) (by intro _; rfl))) (@pw_or1 _ _ _ _ (@pt_cmpR _ _ _ _ _ _ _ _ op_ne (@pe_cal _ _ _ _ _ _ _ _ _ _ c_show_turn hr_show_turn (@pa_cons _ _ _ _ _ (pv 4) (@pa_nil _) (by rfl)) (by rfl) (by decide) (by rfl) (by rfl)) (pv 3) (nomark _)))).pt (@pss_one _ _ _ (@ps_ret _ _ _ _ (@pe_bl _ _ _ _))) (@pss_nil _))))))))))) (by intro _; rfl)) (@pss_one _ _ _ (@ps_ret _ _ _ _ (@pe_and _ _ _ _ _ _ _ (@pe_cmpR _ _ _ _ _ _ _ _ op_eq (@pe_cal _ _ _ _ _ _ _ _ _ _ c_show_turn hr_show_turn (@pa_cons _ _ _ _ _ (@pe_lst _ _ _ _ (@pa_nil _)) (@pa_nil _) (by rfl)) (by rfl) (by decide) (by rfl) (by rfl)) (@pe_str _ _ _ _) (nomark _)) (@pe_one _ _ _ _ _ (@pe_cal _ _ _ _ _ _ _ _ _ _ c_law_alike hr_law_alike (@pa_cons _ _ _ _ _ (@pe_cal _ _ _ _ _ _ _ _ _ _ c_read_turn hr_read_turn (@pa_cons _ _ _ _ _ (@pe_str _ _ _ _) (@pa_nil _) (by rfl)) (by rfl) (by decide) (by rfl) (by rfl)) (@pa_cons _ _ _ _ _ (@pe_lst _ _ _ _ (@pa_nil _)) (@pa_nil _) (by rfl)) (by rfl)) (by rfl) (by decide) (by rfl) (by rfl)))))), ?_⟩
    refine ⟨_, rfl, sc, _, rfl, .inl hsc, _, 10, rfl, 1, _, rfl, _, rfl, ?_⟩
    obtain ⟨mx, hmx, hm1, hm2⟩ := maxmin (n := 10) (c := ((ns.map V.int).length : Int)) (by decide) (by omega)
    rw [hmx]
    refine ⟨by omega, by omega, for_range (lo := 0) (n := mx.toNat) (fun i σ H2 => ∃ v1 v2 v3 v4 v5 v6 : Option V, σ = [some (.ref sc), v1, v2, v3, v4, v5, v6] ∧ Same H H2)
      ⟨none, none, none, none, none, none, rfl, Same.refl H⟩ ?_ ?_⟩
    · rintro i σ H2 hi ⟨v1, v2, v3, v4, v5, v6, rfl, s02⟩
      refine ⟨_, rfl, _, rfl, sc, ns, _, rfl, s02.seq hsc, by omega, fun z => ?_⟩
      refine ⟨z, 120, rfl, by decide, fun g H3 hg s23 D3 => ?_⟩
      have hg0 : H g = none := s02.free hg
      refine ⟨g, 40, rfl, D3, by decide, fun pa p H4 hpa tp lp h4p D4 kb4 => ?_⟩
      have s04 : Same H H4 := (s02.trans s23).kb kb4 hg0
      refine ⟨_, rfl, pa, p, rfl, ⟨h4p, tp, lp⟩, fun H5 s5 => ?_⟩
      have h5p := s5 _ _ h4p
      refine ⟨_, rfl, pa, _, rfl, .inl (SqL.of h5p), fun ha hha => ?_⟩
      have s6 : Same H5 (upd H5 ha (.lst (p.map V.int))) := Same.upd_new hha
      have h6h : (upd H5 ha (.lst (p.map V.int))) ha = some (.lst (p.map V.int)) := upd_same
      generalize (upd H5 ha (.lst (p.map V.int))) = H6 at s6 h6h ⊢
      have h6p := s6 _ _ h5p
      refine ⟨_, rfl, ha, p, rfl, ⟨h6h, tp, lp⟩, fun H7 s7 => ?_⟩
      refine ⟨_, rfl, _, "str", _, true, rfl, .str _, kit_same K "str", true, rfl, ?_⟩
      refine iteF ⟨_, rfl, _, rfl, rfl, _, rfl, ?_⟩
      refine iteNS rfl ⟨_, rfl, _, rfl, ha, pa, _, _, _, rfl, rfl, SqL.of (s7 _ _ h6h), SqL.of (s7 _ _ h6p), leq_ints K H7 0 p p, _, rfl, ?_⟩
      rw [decide_eq_true rfl]
      refine iteF ⟨_, rfl, p, rfl, tp, lp, fun to H8 hto s8 h8t => ?_⟩
      have s68 := s7.trans s8
      refine ⟨_, rfl, _, rfl, .inr ⟨to, pa, p, rfl, h8t, s68 _ _ h6p, lp, fun H9 s9 => ⟨true, rfl, ?_⟩⟩⟩
      refine iteF ?_
      have s69 := s68.trans s9
      have h9t := s9 _ _ h8t
      refine ⟨_, rfl, .inl ⟨rfl, _, SqL.of h9t⟩, _, rfl, pa, _, rfl, .inl (SqL.of (s69 _ _ h6p)), to, _, _, rfl, rfl, h9t, small1000 (by rw [List.length_map]; omega), ?_⟩
      have nto : H7 to = none := hto
      have k10 : ∀ b o, H7 b = some o → (upd H9 to (.lst (p.map V.int ++ [V.int ((p.map V.int).length : Int)]))) b = some o := fun b o hb => by
        rw [upd_ne (ne_of_none hb nto)]; exact (s8.trans s9) _ _ hb
      generalize (upd H9 to (.lst (p.map V.int ++ [V.int ((p.map V.int).length : Int)]))) = H10 at k10 ⊢
      refine ⟨_, rfl, p, rfl, tp, lp, fun t2 H11 ht2 s11 h11 => ?_⟩
      refine ⟨_, rfl, .inr ⟨t2, pa, p, rfl, h11, s11 _ _ (k10 _ _ (s7 _ _ h6p)), lp, fun H12 s12 => ⟨true, rfl, ?_⟩⟩⟩
      refine iteF ⟨_, rfl, ha, p, rfl, ⟨s12 _ _ (s11 _ _ (k10 _ _ (s7 _ _ h6h))), tp, lp⟩, fun H13 s13 => ⟨_, rfl, rfl, _, rfl, ?_⟩⟩
      refine iteNS rfl ?_
      exact ⟨_, _, _, _, _, _, rfl, fun b o hb => s13 _ _ (s12 _ _ (s11 _ _ (k10 _ _ (s7 _ _ (s6 _ _ (s5 _ _ (s04 _ _ hb)))))))⟩
    · rintro σ H2 ⟨v1, v2, v3, v4, v5, v6, rfl, s02⟩
      have te : turnT [] = Str.ofString "()" := by unfold turnT; decide +kernel
      refine ⟨Nat.zero_le _, fun e he => ?_⟩
      have h3 : (upd H2 e (.lst [])) e = some (.lst (([] : List Int).map V.int)) := upd_same
      generalize (upd H2 e (.lst [])) = H3 at h3 ⊢
      have t0 : IsT ([] : List Int) := ⟨List.nodup_nil, (fun x hx => by cases hx), (fun x hx => by cases hx)⟩
      refine ⟨e, [], rfl, ⟨h3, t0, by decide⟩, fun H4 s4 => ⟨rfl, _, rfl, ?_⟩⟩
      rw [decide_eq_true (congrArg V.str te)]
      refine iteT ⟨[], by rw [te]; rfl, t0, by decide, fun l H5 hl s5 h5 => ?_⟩
      refine ⟨Nat.zero_le _, fun w hw => ?_⟩
      have s6 : Same H5 (upd H5 w (.lst [])) := Same.upd_new hw
      have h6 : (upd H5 w (.lst [])) w = some (.lst (([] : List Int).map V.int)) := upd_same
      generalize (upd H5 w (.lst [])) = H6 at s6 h6 ⊢
      exact .inr ⟨l, w, [], rfl, s6 _ _ h5, h6, by decide, fun H7 _ => q H7⟩
end
end My
namespace My
open PySem L2 Mth
theorem all_mk {l : PySem.W.OpenLaw} {w : World} {K : PySem.W.Frag} {h : Heap} {mg : Str → Option Value} {fa f0 f1 f2 f3 f4 f5 f6 f7 f8 f9 f10 f11 f12 f13 f14 f15 f16 f17 f18 f19 f20 f21 f22 f23 f24 : Addr} (X : K.In h) (G : h.Ns mainGlobals mg) (hfa : mg "law" = some (.ref fa))
    {od0 an0 od1 an1 od2 an2 od3 an3 od4 an4 od5 an5 od6 an6 od7 an7 od8 an8 od9 an9 od10 an10 od11 an11 od12 an12 od13 an13 od14 an14 od15 an15 od16 an16 od17 an17 od18 an18 od19 an19 od20 an20 od21 an21 od22 an22 od23 an23 od24 an24 : Option Addr} {sl0 sl1 sl2 sl3 sl4 sl5 sl6 sl7 sl8 sl9 sl10 sl11 sl12 sl13 sl14 sl15 sl16 sl17 sl18 sl19 sl20 sl21 sl22 sl23 sl24 : Array (Option Value)} {oc0 kV0 dc0 pm0 cd0 ct0 oc1 kV1 dc1 pm1 cd1 ct1 oc2 kV2 dc2 pm2 cd2 ct2 oc3 kV3 dc3 pm3 cd3 ct3 oc4 kV4 dc4 pm4 cd4 ct4 oc5 kV5 dc5 pm5 cd5 ct5 oc6 kV6 dc6 pm6 cd6 ct6 oc7 kV7 dc7 pm7 cd7 ct7 oc8 kV8 dc8 pm8 cd8 ct8 oc9 kV9 dc9 pm9 cd9 ct9 oc10 kV10 dc10 pm10 cd10 ct10 oc11 kV11 dc11 pm11 cd11 ct11 oc12 kV12 dc12 pm12 cd12 ct12 oc13 kV13 dc13 pm13 cd13 ct13 oc14 kV14 dc14 pm14 cd14 ct14 oc15 kV15 dc15 pm15 cd15 ct15 oc16 kV16 dc16 pm16 cd16 ct16 oc17 kV17 dc17 pm17 cd17 ct17 oc18 kV18 dc18 pm18 cd18 ct18 oc19 kV19 dc19 pm19 cd19 ct19 oc20 kV20 dc20 pm20 cd20 ct20 oc21 kV21 dc21 pm21 cd21 ct21 oc22 kV22 dc22 pm22 cd22 ct22 oc23 kV23 dc23 pm23 cd23 ct23 oc24 kV24 dc24 pm24 cd24 ct24 : Value} {tk0 : Tok}
    (a0 : PySem.W.nsIn K mainGlobals "is_whole" = some (some (.ref f0))) (l0 : K.lookup f0 = some ⟨oc0, od0, .func (PySem.W.fnOf "is_whole" "is_whole" (defArgs s_is_whole) (defBody s_is_whole) (defScope s_is_whole) .none kV0 dc0 pm0 an0 cd0 ct0), sl0⟩) (c0 : PySem.W.codeIn K cd0 "is_whole" = true) (k0 : PySem.W.keepIn K (.ref f0) = true)
    (a1 : PySem.W.nsIn K mainGlobals "walk_ring" = some (some (.ref f1))) (l1 : K.lookup f1 = some ⟨oc1, od1, .func (PySem.W.fnOf "walk_ring" "walk_ring" (defArgs s_walk_ring) (defBody s_walk_ring) (defScope s_walk_ring) .none kV1 dc1 pm1 an1 cd1 ct1), sl1⟩) (c1 : PySem.W.codeIn K cd1 "walk_ring" = true) (k1 : PySem.W.keepIn K (.ref f1) = true)
    (a2 : PySem.W.nsIn K mainGlobals "walk_rings" = some (some (.ref f2))) (l2 : K.lookup f2 = some ⟨oc2, od2, .func (PySem.W.fnOf "walk_rings" "walk_rings" (defArgs s_walk_rings) (defBody s_walk_rings) (defScope s_walk_rings) .none kV2 dc2 pm2 an2 cd2 ct2), sl2⟩) (c2 : PySem.W.codeIn K cd2 "walk_rings" = true) (k2 : PySem.W.keepIn K (.ref f2) = true)
    (a3 : PySem.W.nsIn K mainGlobals "send_along" = some (some (.ref f3))) (l3 : K.lookup f3 = some ⟨oc3, od3, .func (PySem.W.fnOf "send_along" "send_along" (defArgs s_send_along) (defBody s_send_along) (defScope s_send_along) .none kV3 dc3 pm3 an3 cd3 ct3), sl3⟩) (c3 : PySem.W.codeIn K cd3 "send_along" = true) (k3 : PySem.W.keepIn K (.ref f3) = true)
    (a4 : PySem.W.nsIn K mainGlobals "is_turn" = some (some (.ref f4))) (l4 : K.lookup f4 = some ⟨oc4, od4, .func (PySem.W.fnOf "is_turn" "is_turn" (defArgs s_is_turn) (defBody s_is_turn) (defScope s_is_turn) .none kV4 dc4 pm4 an4 cd4 ct4), sl4⟩) (c4 : PySem.W.codeIn K cd4 "is_turn" = true) (k4 : PySem.W.keepIn K (.ref f4) = true)
    (a5 : PySem.W.nsIn K mainGlobals "must_be_turn" = some (some (.ref f5))) (l5 : K.lookup f5 = some ⟨oc5, od5, .func (PySem.W.fnOf "must_be_turn" "must_be_turn" (defArgs s_must_be_turn) (defBody s_must_be_turn) (defScope s_must_be_turn) .none kV5 dc5 pm5 an5 cd5 ct5), sl5⟩) (c5 : PySem.W.codeIn K cd5 "must_be_turn" = true) (k5 : PySem.W.keepIn K (.ref f5) = true)
    (a6 : PySem.W.nsIn K mainGlobals "rounds_of" = some (some (.ref f6))) (l6 : K.lookup f6 = some ⟨oc6, od6, .func (PySem.W.fnOf "rounds_of" "rounds_of" (defArgs s_rounds_of) (defBody s_rounds_of) (defScope s_rounds_of) .none kV6 dc6 pm6 an6 cd6 ct6), sl6⟩) (c6 : PySem.W.codeIn K cd6 "rounds_of" = true) (k6 : PySem.W.keepIn K (.ref f6) = true)
    (a7 : PySem.W.nsIn K mainGlobals "are_filled_lists" = some (some (.ref f7))) (l7 : K.lookup f7 = some ⟨oc7, od7, .func (PySem.W.fnOf "are_filled_lists" "are_filled_lists" (defArgs s_are_filled_lists) (defBody s_are_filled_lists) (defScope s_are_filled_lists) .none kV7 dc7 pm7 an7 cd7 ct7), sl7⟩) (c7 : PySem.W.codeIn K cd7 "are_filled_lists" = true) (k7 : PySem.W.keepIn K (.ref f7) = true)
    (a8 : PySem.W.nsIn K mainGlobals "things_in" = some (some (.ref f8))) (l8 : K.lookup f8 = some ⟨oc8, od8, .func (PySem.W.fnOf "things_in" "things_in" (defArgs s_things_in) (defBody s_things_in) (defScope s_things_in) .none kV8 dc8 pm8 an8 cd8 ct8), sl8⟩) (c8 : PySem.W.codeIn K cd8 "things_in" = true) (k8 : PySem.W.keepIn K (.ref f8) = true)
    (a9 : PySem.W.nsIn K mainGlobals "from_rounds" = some (some (.ref f9))) (l9 : K.lookup f9 = some ⟨oc9, od9, .func (PySem.W.fnOf "from_rounds" "from_rounds" (defArgs s_from_rounds) (defBody s_from_rounds) (defScope s_from_rounds) .none kV9 dc9 pm9 an9 cd9 ct9), sl9⟩) (c9 : PySem.W.codeIn K cd9 "from_rounds" = true) (k9 : PySem.W.keepIn K (.ref f9) = true)
    (a10 : PySem.W.nsIn K mainGlobals "show_round" = some (some (.ref f10))) (l10 : K.lookup f10 = some ⟨oc10, od10, .func (PySem.W.fnOf "show_round" "show_round" (defArgs s_show_round) (defBody s_show_round) (defScope s_show_round) .none kV10 dc10 pm10 an10 cd10 ct10), sl10⟩) (c10 : PySem.W.codeIn K cd10 "show_round" = true) (k10 : PySem.W.keepIn K (.ref f10) = true)
    (a11 : PySem.W.nsIn K mainGlobals "show_turn" = some (some (.ref f11))) (l11 : K.lookup f11 = some ⟨oc11, od11, .func (PySem.W.fnOf "show_turn" "show_turn" (defArgs s_show_turn) (defBody s_show_turn) (defScope s_show_turn) .none kV11 dc11 pm11 an11 cd11 ct11), sl11⟩) (c11 : PySem.W.codeIn K cd11 "show_turn" = true) (k11 : PySem.W.keepIn K (.ref f11) = true)
    (a12 : PySem.W.nsIn K mainGlobals "read_thing" = some (some (.ref f12))) (l12 : K.lookup f12 = some ⟨oc12, od12, .func (PySem.W.fnOf "read_thing" "read_thing" (defArgs s_read_thing) (defBody s_read_thing) (defScope s_read_thing) .none kV12 dc12 pm12 an12 cd12 ct12), sl12⟩) (c12 : PySem.W.codeIn K cd12 "read_thing" = true) (k12 : PySem.W.keepIn K (.ref f12) = true)
    (a13 : PySem.W.nsIn K mainGlobals "read_round" = some (some (.ref f13))) (l13 : K.lookup f13 = some ⟨oc13, od13, .func (PySem.W.fnOf "read_round" "read_round" (defArgs s_read_round) (defBody s_read_round) (defScope s_read_round) .none kV13 dc13 pm13 an13 cd13 ct13), sl13⟩) (c13 : PySem.W.codeIn K cd13 "read_round" = true) (k13 : PySem.W.keepIn K (.ref f13) = true)
    (a14 : PySem.W.nsIn K mainGlobals "read_rounds" = some (some (.ref f14))) (l14 : K.lookup f14 = some ⟨oc14, od14, .func (PySem.W.fnOf "read_rounds" "read_rounds" (defArgs s_read_rounds) (defBody s_read_rounds) (defScope s_read_rounds) .none kV14 dc14 pm14 an14 cd14 ct14), sl14⟩) (c14 : PySem.W.codeIn K cd14 "read_rounds" = true) (k14 : PySem.W.keepIn K (.ref f14) = true)
    (a15 : PySem.W.nsIn K mainGlobals "read_turn" = some (some (.ref f15))) (l15 : K.lookup f15 = some ⟨oc15, od15, .func (PySem.W.fnOf "read_turn" "read_turn" (defArgs s_read_turn) (defBody s_read_turn) (defScope s_read_turn) .none kV15 dc15 pm15 an15 cd15 ct15), sl15⟩) (c15 : PySem.W.codeIn K cd15 "read_turn" = true) (k15 : PySem.W.keepIn K (.ref f15) = true)
    (a16 : PySem.W.nsIn K mainGlobals "_law_cell_at" = some (some (.ref f16))) (l16 : K.lookup f16 = some ⟨oc16, od16, .func (PySem.W.fnOf "_law_cell_at" "_law_cell_at" (defArgs s_law_cell_at) (defBody s_law_cell_at) (defScope s_law_cell_at) .none kV16 dc16 pm16 an16 cd16 ct16), sl16⟩) (c16 : PySem.W.codeIn K cd16 "_law_cell_at" = true) (k16 : PySem.W.keepIn K (.ref f16) = true)
    (a17 : PySem.W.nsIn K mainGlobals "_law_numbers" = some (some (.ref f17))) (l17 : K.lookup f17 = some ⟨oc17, od17, .func (PySem.W.fnOf "_law_numbers" "_law_numbers" (defArgs s_law_numbers) (defBody s_law_numbers) (defScope s_law_numbers) .none kV17 dc17 pm17 an17 cd17 ct17), sl17⟩) (c17 : PySem.W.codeIn K cd17 "_law_numbers" = true) (k17 : PySem.W.keepIn K (.ref f17) = true)
    (a18 : PySem.W.nsIn K mainGlobals "_law_deck" = some (some (.ref f18))) (l18 : K.lookup f18 = some ⟨oc18, od18, .func (PySem.W.fnOf "_law_deck" "_law_deck" (defArgs s_law_deck) (defBody s_law_deck) (defScope s_law_deck) .none kV18 dc18 pm18 an18 cd18 ct18), sl18⟩) (c18 : PySem.W.codeIn K cd18 "_law_deck" = true) (k18 : PySem.W.keepIn K (.ref f18) = true)
    (a19 : PySem.W.nsIn K mainGlobals "_law_take" = some (some (.ref f19))) (l19 : K.lookup f19 = some ⟨oc19, od19, .func (PySem.W.fnOf "_law_take" "_law_take" (defArgs s_law_take) (defBody s_law_take) (defScope s_law_take) .none kV19 dc19 pm19 an19 cd19 ct19), sl19⟩) (c19 : PySem.W.codeIn K cd19 "_law_take" = true) (k19 : PySem.W.keepIn K (.ref f19) = true)
    (a20 : PySem.W.nsIn K mainGlobals "_law_turn" = some (some (.ref f20))) (l20 : K.lookup f20 = some ⟨oc20, od20, .func (PySem.W.fnOf "_law_turn" "_law_turn" (defArgs s_law_turn) (defBody s_law_turn) (defScope s_law_turn) .none kV20 dc20 pm20 an20 cd20 ct20), sl20⟩) (c20 : PySem.W.codeIn K cd20 "_law_turn" = true) (k20 : PySem.W.keepIn K (.ref f20) = true)
    (a21 : PySem.W.nsIn K mainGlobals "_law_rounds" = some (some (.ref f21))) (l21 : K.lookup f21 = some ⟨oc21, od21, .func (PySem.W.fnOf "_law_rounds" "_law_rounds" (defArgs s_law_rounds) (defBody s_law_rounds) (defScope s_law_rounds) .none kV21 dc21 pm21 an21 cd21 ct21), sl21⟩) (c21 : PySem.W.codeIn K cd21 "_law_rounds" = true) (k21 : PySem.W.keepIn K (.ref f21) = true)
    (a22 : PySem.W.nsIn K mainGlobals "_law_written" = some (some (.ref f22))) (l22 : K.lookup f22 = some ⟨oc22, od22, .func (PySem.W.fnOf "_law_written" "_law_written" (defArgs s_law_written) (defBody s_law_written) (defScope s_law_written) .none kV22 dc22 pm22 an22 cd22 ct22), sl22⟩) (c22 : PySem.W.codeIn K cd22 "_law_written" = true) (k22 : PySem.W.keepIn K (.ref f22) = true)
    (a23 : PySem.W.nsIn K mainGlobals "_law_alike" = some (some (.ref f23))) (l23 : K.lookup f23 = some ⟨oc23, od23, .func (PySem.W.fnOf "_law_alike" "_law_alike" (defArgs s_law_alike) (defBody s_law_alike) (defScope s_law_alike) .none kV23 dc23 pm23 an23 cd23 ct23), sl23⟩) (c23 : PySem.W.codeIn K cd23 "_law_alike" = true) (k23 : PySem.W.keepIn K (.ref f23) = true)
    (a24 : PySem.W.nsIn K mainGlobals "law" = some (some (.ref f24))) (l24 : K.lookup f24 = some ⟨oc24, od24, .func (PySem.W.fnOf "law" "law" (defArgs s_law) (defBody s_law) (defScope s_law) .none kV24 dc24 pm24 an24 cd24 ct24), sl24⟩) (c24 : PySem.W.codeIn K cd24 "law" = true) (k24 : PySem.W.keepIn K (.ref f24) = true)
    (m0 : PySem.W.nsIn K mainGlobals "MOST_THINGS" = some (some (.int 40 tk0)))
    (z0 : PySem.W.nsIn K mainGlobals "len" = some none)
    (z1 : PySem.W.nsIn K mainGlobals "isinstance" = some none)
    (z2 : PySem.W.nsIn K mainGlobals "int" = some none)
    (z3 : PySem.W.nsIn K mainGlobals "bool" = some none)
    (z4 : PySem.W.nsIn K mainGlobals "list" = some none)
    (z5 : PySem.W.nsIn K mainGlobals "range" = some none)
    (z6 : PySem.W.nsIn K mainGlobals "sum" = some none)
    (z7 : PySem.W.nsIn K mainGlobals "min" = some none)
    (z8 : PySem.W.nsIn K mainGlobals "max" = some none)
    (z9 : PySem.W.nsIn K mainGlobals "enumerate" = some none)
    (z10 : PySem.W.nsIn K mainGlobals "zip" = some none)
    (z11 : PySem.W.nsIn K mainGlobals "sorted" = some none)
    (z12 : PySem.W.nsIn K mainGlobals "tuple" = some none)
    (z13 : PySem.W.nsIn K mainGlobals "str" = some none)
    (z14 : PySem.W.nsIn K mainGlobals "repr" = some none)
    (z15 : PySem.W.nsIn K mainGlobals "all" = some none)
    (z16 : PySem.W.nsIn K mainGlobals "any" = some none)
    (z17 : PySem.W.nsIn K mainGlobals "set" = some none)
    (z18 : PySem.W.nsIn K mainGlobals "dict" = some none)
    (z19 : PySem.W.nsIn K mainGlobals "ValueError" = some none)
    : ∃ fd : FuncData, (∀ (s : Shared) (v : Value), BindsTo s fd ⟨[v], []⟩ [("script", v)]) ∧ ∀ base : Heap, K.In base → base.Ns mainGlobals mg → FnOk l.prog w K mg base CX0 7 fa fd ["script"] (spLaw K) := by
  have e := hfa.symm.trans (PySem.W.mg_of X G a24)
  cases e
  have B : Bl mg := ⟨PySem.W.mg_none_of X G z0, PySem.W.mg_none_of X G z1, PySem.W.mg_none_of X G z2, PySem.W.mg_none_of X G z3, PySem.W.mg_none_of X G z4, PySem.W.mg_none_of X G z5, PySem.W.mg_none_of X G z6, PySem.W.mg_none_of X G z7, PySem.W.mg_none_of X G z8, PySem.W.mg_none_of X G z9, PySem.W.mg_none_of X G z10, PySem.W.mg_none_of X G z11, PySem.W.mg_none_of X G z12, PySem.W.mg_none_of X G z13, PySem.W.mg_none_of X G z14, PySem.W.mg_none_of X G z15, PySem.W.mg_none_of X G z16, PySem.W.mg_none_of X G z17, PySem.W.mg_none_of X G z18, PySem.W.mg_none_of X G z19⟩
  have mt : ∃ t, mg "MOST_THINGS" = some (.int 40 t) := ⟨_, PySem.W.mg_of X G m0⟩
  have F0 := fun_mk (st := s_is_whole) l0 c0 k0
  have b0 := F0.binds (ps := ["thing"]) fun _ _ _ _ _ _ us hl => match us, hl with | [_], _ => rfl
  have F1 := fun_mk (st := s_walk_ring) l1 c1 k1
  have b1 := F1.binds (ps := ["p", "first"]) fun _ _ _ _ _ _ us hl => match us, hl with | [_, _], _ => rfl
  have F2 := fun_mk (st := s_walk_rings) l2 c2 k2
  have b2 := F2.binds (ps := ["p"]) fun _ _ _ _ _ _ us hl => match us, hl with | [_], _ => rfl
  have F3 := fun_mk (st := s_send_along) l3 c3 k3
  have b3 := F3.binds (ps := ["target", "ring", "steps"]) fun _ _ _ _ _ _ us hl => match us, hl with | [_, _, _], _ => rfl
  have F4 := fun_mk (st := s_is_turn) l4 c4 k4
  have b4 := F4.binds (ps := ["thing"]) fun _ _ _ _ _ _ us hl => match us, hl with | [_], _ => rfl
  have F5 := fun_mk (st := s_must_be_turn) l5 c5 k5
  have b5 := F5.binds (ps := ["thing"]) fun _ _ _ _ _ _ us hl => match us, hl with | [_], _ => rfl
  have F6 := fun_mk (st := s_rounds_of) l6 c6 k6
  have b6 := F6.binds (ps := ["p"]) fun _ _ _ _ _ _ us hl => match us, hl with | [_], _ => rfl
  have F7 := fun_mk (st := s_are_filled_lists) l7 c7 k7
  have b7 := F7.binds (ps := ["rounds"]) fun _ _ _ _ _ _ us hl => match us, hl with | [_], _ => rfl
  have F8 := fun_mk (st := s_things_in) l8 c8 k8
  have b8 := F8.binds (ps := ["rounds"]) fun _ _ _ _ _ _ us hl => match us, hl with | [_], _ => rfl
  have F9 := fun_mk (st := s_from_rounds) l9 c9 k9
  have b9 := F9.binds (ps := ["rounds"]) fun _ _ _ _ _ _ us hl => match us, hl with | [_], _ => rfl
  have F10 := fun_mk (st := s_show_round) l10 c10 k10
  have b10 := F10.binds (ps := ["ring"]) fun _ _ _ _ _ _ us hl => match us, hl with | [_], _ => rfl
  have F11 := fun_mk (st := s_show_turn) l11 c11 k11
  have b11 := F11.binds (ps := ["p"]) fun _ _ _ _ _ _ us hl => match us, hl with | [_], _ => rfl
  have F12 := fun_mk (st := s_read_thing) l12 c12 k12
  have b12 := F12.binds (ps := ["word"]) fun _ _ _ _ _ _ us hl => match us, hl with | [_], _ => rfl
  have F13 := fun_mk (st := s_read_round) l13 c13 k13
  have b13 := F13.binds (ps := ["text"]) fun _ _ _ _ _ _ us hl => match us, hl with | [_], _ => rfl
  have F14 := fun_mk (st := s_read_rounds) l14 c14 k14
  have b14 := F14.binds (ps := ["text"]) fun _ _ _ _ _ _ us hl => match us, hl with | [_], _ => rfl
  have F15 := fun_mk (st := s_read_turn) l15 c15 k15
  have b15 := F15.binds (ps := ["text"]) fun _ _ _ _ _ _ us hl => match us, hl with | [_], _ => rfl
  have F16 := fun_mk (st := s_law_cell_at) l16 c16 k16
  have b16 := F16.binds (ps := ["script", "k"]) fun _ _ _ _ _ _ us hl => match us, hl with | [_, _], _ => rfl
  have F17 := fun_mk (st := s_law_numbers) l17 c17 k17
  have b17 := F17.binds (ps := ["cell", "many"]) fun _ _ _ _ _ _ us hl => match us, hl with | [_, _], _ => rfl
  have F18 := fun_mk (st := s_law_deck) l18 c18 k18
  have b18 := F18.binds (ps := ["cell", "many"]) fun _ _ _ _ _ _ us hl => match us, hl with | [_, _], _ => rfl
  have F19 := fun_mk (st := s_law_take) l19 c19 k19
  have b19 := F19.binds (ps := ["deck", "many"]) fun _ _ _ _ _ _ us hl => match us, hl with | [_, _], _ => rfl
  have F20 := fun_mk (st := s_law_turn) l20 c20 k20
  have b20 := F20.binds (ps := ["deck", "most"]) fun _ _ _ _ _ _ us hl => match us, hl with | [_, _], _ => rfl
  have F21 := fun_mk (st := s_law_rounds) l21 c21 k21
  have b21 := F21.binds (ps := ["p"]) fun _ _ _ _ _ _ us hl => match us, hl with | [_], _ => rfl
  have F22 := fun_mk (st := s_law_written) l22 c22 k22
  have b22 := F22.binds (ps := ["p"]) fun _ _ _ _ _ _ us hl => match us, hl with | [_], _ => rfl
  have F23 := fun_mk (st := s_law_alike) l23 c23 k23
  have b23 := F23.binds (ps := ["found", "due"]) fun _ _ _ _ _ _ us hl => match us, hl with | [_, _], _ => rfl
  have F24 := fun_mk (st := s_law) l24 c24 k24
  refine ⟨PySem.W.fnOf "law" "law" (defArgs s_law) (defBody s_law) (defScope s_law) .none kV24 dc24 pm24 an24 cd24 ct24, fun s v => .of_eq rfl, fun base _ _ => ?_⟩
  have c_is_whole : Cal l.prog w K mg base "is_whole" 1 ["thing"] (spWhole K) := ⟨f0, _, PySem.W.mg_of X G a0, k0, b0, ok_whole F0 B⟩
  have c_walk_ring : Cal l.prog w K mg base "walk_ring" 1 ["p", "first"] spRing := ⟨f1, _, PySem.W.mg_of X G a1, k1, b1, ok_ring F1⟩
  have c_walk_rings : Cal l.prog w K mg base "walk_rings" 2 ["p"] spRings := ⟨f2, _, PySem.W.mg_of X G a2, k2, b2, ok_rings F2 B c_walk_ring⟩
  have c_send_along : Cal l.prog w K mg base "send_along" 1 ["target", "ring", "steps"] spSend := ⟨f3, _, PySem.W.mg_of X G a3, k3, b3, ok_send F3 B⟩
  have c_is_turn : Cal l.prog w K mg base "is_turn" 2 ["thing"] spIsTurn := ⟨f4, _, PySem.W.mg_of X G a4, k4, b4, ok_isTurn F4 B mt c_is_whole⟩
  have c_must_be_turn : Cal l.prog w K mg base "must_be_turn" 3 ["thing"] spMust := ⟨f5, _, PySem.W.mg_of X G a5, k5, b5, ok_must F5 c_is_turn⟩
  have c_rounds_of : Cal l.prog w K mg base "rounds_of" 4 ["p"] spRings := ⟨f6, _, PySem.W.mg_of X G a6, k6, b6, ok_roundsOf F6 c_must_be_turn c_walk_rings⟩
  have c_are_filled_lists : Cal l.prog w K mg base "are_filled_lists" 1 ["rounds"] spFilled := ⟨f7, _, PySem.W.mg_of X G a7, k7, b7, ok_filled F7 B⟩
  have c_things_in : Cal l.prog w K mg base "things_in" 1 ["rounds"] spThings := ⟨f8, _, PySem.W.mg_of X G a8, k8, b8, ok_things F8⟩
  have c_from_rounds : Cal l.prog w K mg base "from_rounds" 3 ["rounds"] spFrom := ⟨f9, _, PySem.W.mg_of X G a9, k9, b9, ok_from F9 c_are_filled_lists c_things_in c_is_turn c_send_along⟩
  have c_show_round : Cal l.prog w K mg base "show_round" 1 ["ring"] spShowR := ⟨f10, _, PySem.W.mg_of X G a10, k10, b10, ok_show_round F10 B⟩
  have c_show_turn : Cal l.prog w K mg base "show_turn" 5 ["p"] spShow := ⟨f11, _, PySem.W.mg_of X G a11, k11, b11, ok_show_turn F11 c_rounds_of c_show_round⟩
  have c_read_thing : Cal l.prog w K mg base "read_thing" 1 ["word"] spThing := ⟨f12, _, PySem.W.mg_of X G a12, k12, b12, ok_read_thing F12 B mt⟩
  have c_read_round : Cal l.prog w K mg base "read_round" 2 ["text"] spReadR := ⟨f13, _, PySem.W.mg_of X G a13, k13, b13, ok_read_round F13 c_read_thing⟩
  have c_read_rounds : Cal l.prog w K mg base "read_rounds" 3 ["text"] spReadRs := ⟨f14, _, PySem.W.mg_of X G a14, k14, b14, ok_read_rounds F14 c_read_round⟩
  have c_read_turn : Cal l.prog w K mg base "read_turn" 6 ["text"] spRead := ⟨f15, _, PySem.W.mg_of X G a15, k15, b15, ok_read_turn F15 B c_read_rounds c_from_rounds c_show_turn⟩
  have c_law_cell_at : Cal l.prog w K mg base "_law_cell_at" 1 ["script", "k"] (spCell K) := ⟨f16, _, PySem.W.mg_of X G a16, k16, b16, ok_law_cell_at F16 B⟩
  have c_law_numbers : Cal l.prog w K mg base "_law_numbers" 1 ["cell", "many"] spNumbers := ⟨f17, _, PySem.W.mg_of X G a17, k17, b17, ok_law_numbers F17 B⟩
  have c_law_deck : Cal l.prog w K mg base "_law_deck" 2 ["cell", "many"] spNumbers := ⟨f18, _, PySem.W.mg_of X G a18, k18, b18, ok_law_deck F18 c_law_numbers⟩
  have c_law_take : Cal l.prog w K mg base "_law_take" 1 ["deck", "many"] spTake := ⟨f19, _, PySem.W.mg_of X G a19, k19, b19, ok_law_take F19⟩
  have c_law_turn : Cal l.prog w K mg base "_law_turn" 2 ["deck", "most"] spTurn5 := ⟨f20, _, PySem.W.mg_of X G a20, k20, b20, ok_law_turn F20 B c_law_take⟩
  have c_law_rounds : Cal l.prog w K mg base "_law_rounds" 1 ["p"] spRings := ⟨f21, _, PySem.W.mg_of X G a21, k21, b21, ok_law_rounds F21 B⟩
  have c_law_written : Cal l.prog w K mg base "_law_written" 2 ["p"] spShow := ⟨f22, _, PySem.W.mg_of X G a22, k22, b22, ok_law_written F22 B c_law_rounds⟩
  have c_law_alike : Cal l.prog w K mg base "_law_alike" 2 ["found", "due"] (orSp spAlikeI spAlikeL) := ⟨f23, _, PySem.W.mg_of X G a23, k23, b23, fn_or (FnOk.mono (ok_law_alike F23 B) (by decide : 1 ≤ 2)) (okr_law_alike F23 B (⟨f23, _, PySem.W.mg_of X G a23, k23, b23, ok_law_alike F23 B⟩))⟩
  exact ok_law F24 B c_law_turn c_law_deck c_law_cell_at c_law_written c_show_turn c_read_turn c_law_alike
theorem walk {l : PySem.W.OpenLaw} {q : Program} {loose : List Str} {XP : (Str → Option Value) → Heap → Prop} {YP : World → Heap → Prop} {d : DefRec} {K : Params → PySem.W.Frag} (hn : l.most = some 63) (hdf : d.params.defaults = [])
    (hY : ∀ (w : World) (h : Heap), YP w h → (K w.params).In h)
    (F : ∀ (w : World) (mg : Str → Option Value) (fa : Addr) (h : Heap), (K w.params).In h → h.Ns mainGlobals mg → mg d.name = some (.ref fa) →
      ∃ fd : FuncData, (∀ (s : Shared) (u : Value), BindsTo s fd ⟨[u], []⟩ [("script", u)]) ∧ ∀ base : Heap, (K w.params).In base → base.Ns mainGlobals mg → FnOk l.prog w (K w.params) mg base CX0 7 fa fd ["script"] (spLaw (K w.params))) :
    PySem.W.WalkO q loose XP YP l.row.toRowW d [] (fun f vs => PySem.call f vs) :=
  L2.walk_of (n := 63) (k := 7) (x := "script") (CX := fun _ => CX0) (sp := fun w => spLaw (K w.params)) hn (by decide) hdf ⟨rfl, by decide, by decide, rfl⟩ hY F (fun _ _ a ns hl _ hS => ⟨a, ns, rfl, hS, hl, fun _ => rfl⟩) fun _ _ _ _ _ z => z
end My
open PySem PySem.W PyProof.Rows
set_option maxRecDepth 100000 in
set_option maxHeartbeats 0 in
theorem PySem.Challenge.cw_turnroots_k46_turns_written_and_read_holds : PySem.Challenge.rw_turnroots_k46_turns_written_and_read.Holds := by
  w_on; o_law; k_head; (case hw => w_witness2)
  k_fill
  refine My.walk (l := PySem.Challenge.rw_turnroots_k46_turns_written_and_read) rfl rfl (fun w h Y => PySem.W.kIn_of Y) ?F
  case F =>
    intro w mg fa h KX G hmg
    refine' My.all_mk KX G hmg ?a0 ?l0 ?c0 ?k0 ?a1 ?l1 ?c1 ?k1 ?a2 ?l2 ?c2 ?k2 ?a3 ?l3 ?c3 ?k3 ?a4 ?l4 ?c4 ?k4 ?a5 ?l5 ?c5 ?k5 ?a6 ?l6 ?c6 ?k6 ?a7 ?l7 ?c7 ?k7 ?a8 ?l8 ?c8 ?k8 ?a9 ?l9 ?c9 ?k9 ?a10 ?l10 ?c10 ?k10 ?a11 ?l11 ?c11 ?k11 ?a12 ?l12 ?c12 ?k12 ?a13 ?l13 ?c13 ?k13 ?a14 ?l14 ?c14 ?k14 ?a15 ?l15 ?c15 ?k15 ?a16 ?l16 ?c16 ?k16 ?a17 ?l17 ?c17 ?k17 ?a18 ?l18 ?c18 ?k18 ?a19 ?l19 ?c19 ?k19 ?a20 ?l20 ?c20 ?k20 ?a21 ?l21 ?c21 ?k21 ?a22 ?l22 ?c22 ?k22 ?a23 ?l23 ?c23 ?k23 ?a24 ?l24 ?c24 ?k24 ?m0 ?z0 ?z1 ?z2 ?z3 ?z4 ?z5 ?z6 ?z7 ?z8 ?z9 ?z10 ?z11 ?z12 ?z13 ?z14 ?z15 ?z16 ?z17 ?z18 ?z19
    (case a0 => k_is)
    (case l0 => k_is)
    (case c0 => k_is)
    (case k0 => k_is)
    (case a1 => k_is)
    (case l1 => k_is)
    (case c1 => k_is)
    (case k1 => k_is)
    (case a2 => k_is)
    (case l2 => k_is)
    (case c2 => k_is)
    (case k2 => k_is)
    (case a3 => k_is)
    (case l3 => k_is)
    (case c3 => k_is)
    (case k3 => k_is)
    (case a4 => k_is)
    (case l4 => k_is)
    (case c4 => k_is)
    (case k4 => k_is)
    (case a5 => k_is)
    (case l5 => k_is)
    (case c5 => k_is)
    (case k5 => k_is)
    (case a6 => k_is)
    (case l6 => k_is)
    (case c6 => k_is)
    (case k6 => k_is)
    (case a7 => k_is)
    (case l7 => k_is)
    (case c7 => k_is)
    (case k7 => k_is)
    (case a8 => k_is)
    (case l8 => k_is)
    (case c8 => k_is)
    (case k8 => k_is)
    (case a9 => k_is)
    (case l9 => k_is)
    (case c9 => k_is)
    (case k9 => k_is)
    (case a10 => k_is)
    (case l10 => k_is)
    (case c10 => k_is)
    (case k10 => k_is)
    (case a11 => k_is)
    (case l11 => k_is)
    (case c11 => k_is)
    (case k11 => k_is)
    (case a12 => k_is)
    (case l12 => k_is)
    (case c12 => k_is)
    (case k12 => k_is)
    (case a13 => k_is)
    (case l13 => k_is)
    (case c13 => k_is)
    (case k13 => k_is)
    (case a14 => k_is)
    (case l14 => k_is)
    (case c14 => k_is)
    (case k14 => k_is)
    (case a15 => k_is)
    (case l15 => k_is)
    (case c15 => k_is)
    (case k15 => k_is)
    (case a16 => k_is)
    (case l16 => k_is)
    (case c16 => k_is)
    (case k16 => k_is)
    (case a17 => k_is)
    (case l17 => k_is)
    (case c17 => k_is)
    (case k17 => k_is)
    (case a18 => k_is)
    (case l18 => k_is)
    (case c18 => k_is)
    (case k18 => k_is)
    (case a19 => k_is)
    (case l19 => k_is)
    (case c19 => k_is)
    (case k19 => k_is)
    (case a20 => k_is)
    (case l20 => k_is)
    (case c20 => k_is)
    (case k20 => k_is)
    (case a21 => k_is)
    (case l21 => k_is)
    (case c21 => k_is)
    (case k21 => k_is)
    (case a22 => k_is)
    (case l22 => k_is)
    (case c22 => k_is)
    (case k22 => k_is)
    (case a23 => k_is)
    (case l23 => k_is)
    (case c23 => k_is)
    (case k23 => k_is)
    (case a24 => k_is)
    (case l24 => k_is)
    (case c24 => k_is)
    (case k24 => k_is)
    (case m0 => k_is)
    (case z0 => k_is)
    (case z1 => k_is)
    (case z2 => k_is)
    (case z3 => k_is)
    (case z4 => k_is)
    (case z5 => k_is)
    (case z6 => k_is)
    (case z7 => k_is)
    (case z8 => k_is)
    (case z9 => k_is)
    (case z10 => k_is)
    (case z11 => k_is)
    (case z12 => k_is)
    (case z13 => k_is)
    (case z14 => k_is)
    (case z15 => k_is)
    (case z16 => k_is)
    (case z17 => k_is)
    (case z18 => k_is)
    (case z19 => k_is)
#print axioms PySem.Challenge.cw_turnroots_k46_turns_written_and_read_holds